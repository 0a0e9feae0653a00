import PyProof.Rows.All
import Wide.All
import OpenK.AllK
import Wide.FinOn
import Lean
import PyProof.EqAt
import PyProof.EqKinds
import PyProof.TupleCall
import OpenK.KOwn
import KE.KIsAll
import KE.KLam
import KE.KEqDict
import PySem.Challenge.RW_pieceways_k71_a_post_by_a_model
set_option Elab.async false
set_option linter.all false
set_option maxRecDepth 100000
set_option compiler.extract_closed false
noncomputable section
theorem hide_{G:Prop}(h:∀N:Prop,(G->N)->N):G:=h G id
local macro_rules|`(tactic|obtain $p:rcasesPatMed := $e:term)=>`(tactic|first|((refine hide_ fun N hN=>?_;rcases $e:term with $p)<;>(refine hN ?_;clear hN;clear N))|rcases $e:term with $p)
set_option bootstrap.genMatcherCode false
local macro_rules|`(command|def $n:declId $s:optDeclSig $v:declVal)=>`(command|noncomputable def $n:declId $s:optDeclSig $v:declVal)
def Y0:=@PySem.wpAny_bind
def Y1:=@List.length_map
def Y2:=@PySem.wpAny_pure
def Y3:=@if_neg
def Y4:=@List.getElem?_eq_some_iff
def Y5:=@List.getElem?_eq_getElem
def Y6:=@Nat.le_refl
def Y7:=@PySem.Heap.get?_push_of_some
def Y8:=@List.mem_singleton
def Y9:=@if_pos
def Ya:=@List.mem_of_getElem?
def Yb:=@List.mem_append
def Yc:=@List.size_toArray
def Yd:=@List.map_append
def Ye:=@PySem.Heap.lt_size
def Yf:=@List.getElem?_map
def Yg:=@PyProof.Rows.wpS_bind
def Yh:=@PySem.sizeLine_eq
def Yi:=@PySem.Heap.get?_push_size
def Yj:=@Nat.zero_le
def Yk:=@PyProof.Rows.wpS_pure
def Yl:=@List.mem_cons_of_mem
def Ym:=@List.mem_cons_self
def Yn:=@Option.some.inj
def Yo:=@List.pairwise_append
def Yp:=@List.map_map
def Yq:=@decide_eq_true
def Yr:=@Nat.ne_of_lt
def Ys:=@decide_eq_false
def Yt:=@decide_eq_true_eq
def Yu:=@List.mem_cons
def Yv:=@Bool.false_ne_true
def Yw:=@List.mem_map
def Yx:=@List.mem_append_right
def Yy:=@Option.map_eq_some_iff
def Yz:=@Nat.lt_of_lt_of_le
def YA:=@Nat.lt_of_le_of_lt
def YB:=@congrArg
def YC:=@List.length_take
def YD:=@List.take_add_one
def YE:=@List.take_length
def YF:=@List.mem_iff_getElem?
def YG:=@List.take_append_drop
def YH:=@Option.toList_some
def YI:=@PySem.F.plainAttrs_list
def YJ:=@List.getD_eq_getElem?_getD
def YK:=@List.getElem?_take
def YL:=@PySem.wpAny_mono
def YM:=@PySem.Heap.get?_update_self
def YN:=@Bool.and_eq_true
def YO:=@List.map_congr_left
def YQ:=@PySem.F.slot_list_append
def YR:=@PySem.F.type_list_append
def YS:=@PySem.wpAny_newObj_type
def YT:=@Array.getElem?_eq_getElem
def YU:=@List.mem_filter
def YV:=@List.length_range
def YW:=@Nat.le_trans
def YX:=@PySem.Heap.get?_update_ne
def YY:=@List.pairwise_iff_getElem
def YZ:=@PySem.PassesOwn.never
def X0:=@PySem.wpAny_holding
def X1:=@PySem.wpAny_setState_of
def X2:=@List.pairwise_cons
def X3:=@List.getElem?_drop
def X4:=@PySem.wpAny_call_entry
def X5:=@PySem.Heap.size_update
def X6:=@PySem.F.slot_dict_keyiterator_next
def X7:=@PyProof.Rows.wpS_forRange
def X8:=@List.drop_eq_getElem_cons
def X9:=@List.length_drop
def Xa:=@decide_false
def Xb:=@List.mem_map_of_mem
def Xc:=@decide_true
def Xd:=@of_decide_eq_true
def Xe:=@Nat.lt_irrefl
def Xf:=@List.mem_append_left
def Xg:=@List.nodup_cons
def Xh:=@PySem.wpAny_ite_false
def Xi:=@List.take_of_length_le
def Xj:=@List.eq_nil_of_length_eq_zero
def Xk:=@PySem.wpAny_truthy_bool
def Xl:=@Int.toNat_natCast
def Xm:=@List.pairwise_singleton
def Xn:=@List.all_eq_true
def Xo:=@List.mem_of_mem_take
def Xp:=@List.getElem?_append_right
def Xq:=@PySem.Heap.get?_update_other
def Xr:=@List.reverse_perm
def Xs:=@PySem.mem_of_lookup
def Xt:=@Bool.eq_iff_iff
def Xu:=@List.length_filter_le
def Xv:=@PySem.wpAny_Call_Name_kw
def Xw:=@List.getElem_mem
def Xx:=@PyProof.Rows.wpS_mono
def Xy:=@PySem.Around.under_plainId
def Xz:=@List.mem_of_mem_drop
def XA:=@PySem.wpAny_callSpecial?_slot
def XB:=@List.find?_cons
def XC:=@List.filterMap_cons
def XD:=@Nat.le_succ
def XE:=@Int.le_refl
def XF:=@Nat.zero_add
def XG:=@Nat.le_add_right
def XH:=@List.take_succ_eq_append_getElem
def XI:=@List.pairwise_reverse
def XJ:=@Nat.le_of_lt
def XM:=@List.mem_iff_getElem
def XN:=@PySem.codeAny_builtin
def XO:=@PySem.wpAny_rule
def XQ:=@List.getElem?_append
def XR:=@Int.zero_add
def XS:=@Nat.lt_succ_of_lt
def XT:=@PySem.Heap.get?_push_ne
def XU:=@PySem.plainId_quiet
def XV:=@PySem.wpAny_typeNameOfWhole_keyiter
def XW:=@beq_eq_false_iff_ne
def XX:=@List.toList_toArray
def XY:=@PySem.wpAny_setField
def XZ:=@PySem.F.called_set
def U0:=@Int.emod_lt_of_pos
def U1:=@List.filter_append
def U4:=@PySem.wpAny_passesOwn
def U5:=@Nat.min_eq_left
def U6:=@List.getElem?_eq_none
def U7:=@List.Perm.append_left
def U8:=@PySem.wpAny_attempt
def U9:=@Array.perm_iff_toList_perm
def Ua:=@List.drop_sublist
def Ub:=@PySem.W.kia_one
def Uc:=@Bool.false_and
def Ud:=@PySem.Heap.size_push
def Ue:=@Nat.lt_succ_self
def Uf:=@PySem.codeAny_mono
def Ug:=@PySem.F.plain_min_loop
def Uh:=@Nat.add_zero
def Uj:=@PySem.wpAny_askSetting
def Uk:=@PyProof.Rows.listUpdate_at
def Ul:=@of_decide_eq_false
def Um:=@Int.emod_nonneg
def Uo:=@List.reverse_singleton
def Up:=@List.flatten_singleton
def Uq:=@PySem.F.slot_dict_keys
def Ur:=@List.take_append_of_le_length
def Us:=@List.take_sublist
def Ut:=@Bool.not_eq_true'
def Uu:=@List.flatten_cons
def Uv:=@List.mem_range'_1
def Uw:=@PySem.wpAny_fieldsOf
def Ux:=@List.perm_append_comm
def Uy:=@PySem.wpAny_ite_true
def Uz:=@PyProof.Rows.callWith_type1
def UA:=@List.lookup_cons
def UB:=@PyProof.Rows.wpS_modify
def UC:=@List.filter_cons
def UD:=@PySem.wpAny_newList
def UE:=@Bool.true_and
def UF:=@List.flatten_append
def UG:=@List.forIn_cons
def UH:=@PySem.wpAny_updateSeq
def UI:=@PySem.Calls.call_function_entry
def UJ:=@PySem.tupleKind_room_in1
def UK:=@PySem.F.args_dict_keyiterator_next_1
def UL:=@List.length_range'
def UM:=@PySem.F.slot_list_extend
def UN:=@PySem.F.type_list_extend
def UO:=@List.filter_filter
def UP:=@PySem.F.entry_dict_keyiterator_next
def UQ:=@PyProof.Rows.wpS_get
def UR:=@PyProof.Rows.F.plain_set_update_loop
def US:=@PySem.F.plainAttrs_dict
def UT:=@PySem.wpAny_pyIter_list
def UU:=@PySem.wpAny_pyIter_slot
def UV:=@PySem.wpAny_dictEntries
def UW:=@Array.toList_push
def UX:=@PySem.wpAny_of_eq
def UY:=@Array.getElem?_eq_none
def UZ:=@List.pairwise_lt_range
def V0:=@List.filter_eq_nil_iff
def V1:=@PySem.F.type_dict_keys
def V2:=@List.any_cons
def V3:=@PySem.wpAny_isInstance
def V4:=@Array.toList_inj
def V5:=@List.ext_getElem
def V6:=@Bool.not_eq_true
def V7:=@List.length_singleton
def V8:=@PySem.plainObj_wpAny_Assign_Attribute
def V9:=@PySem.wpAny_execs_nil
def Va:=@beq_iff_eq
def Vb:=@PySem.wpAny_call
def Vc:=@PySem.wpAny_dictEpoch
def Vd:=@Nat.sub_self
def Ve:=@List.range_eq_range'
def Vf:=@PyProof.Rows.entry_list_sort
def Vg:=@List.replicate_succ'
def Vh:=@List.filter_map
def Vi:=@List.drop_append_of_le_length
def Vj:=@PySem.Heap.SameBut.update
def Vk:=@List.getElem_of_mem
def Vl:=@List.mem_range
def Vm:=@PyProof.Rows.wpS_lift
def Vn:=@PyProof.Rows.slot_list_sort
def Vo:=@PySem.wpAny_letGo
def Vp:=@PyProof.Rows.seqEpoch_at
def Vq:=@List.drop_length_add_append
def Vr:=@List.getElem_range
def Vs:=@PySem.Calls.Name_function_global
def Vt:=@PySem.wpAny_standAt
def Vu:=@Int.fdiv_eq_ediv_of_nonneg
def Vv:=@Bool.or_false
def Vw:=@Array.toList_setIfInBounds
def Vx:=@List.length_eraseIdx_of_lt
def Vy:=@Array.getElem?_eq_some_iff
def Vz:=@Nat.le_succ_of_le
def VA:=@Option.isSome_map
def VB:=@List.pairwise_map
def VC:=@bne_self_eq_false
def VD:=@List.nodup_append
def VE:=@List.flatMap_cons
def VF:=@List.getElem?_append_left
def VG:=@List.getElem?_eq_none_iff
def VH:=@List.getElem?_zip_eq_some
def VI:=@Nat.mod_lt
def VJ:=@Nat.le_of_eq
def VL:=@beq_self_eq_true
def VM:=@List.mem_reverse
def VN:=@PyProof.Rows.plain_sorted
def VO:=@PyProof.Rows.entry_sorted
def VP:=@List.getElem_map
def VQ:=@List.any_eq_true
def VR:=@List.mem_flatMap
def VS:=@List.Perm.eq_nil
def VT:=@decide_eq_false_iff_not
def VU:=@Nat.add_sub_cancel_left
def VW:=@List.Pairwise.filterMap
def VX:=@List.lookup_eq_none_iff
def VY:=@List.filter_cons_of_pos
def VZ:=@List.of_mem_zip
def W0:=@Sum.inr.inj
def W1:=@List.getElem?_set_self
def W2:=@PySem.F.slot_dict_iter
def W3:=@List.length_replicate
def W4:=@Bool.and_false
def W5:=@List.cons_lt_cons_iff
def W6:=@PySem.wpAny_tryCatch
def W7:=@PySem.isSubtype_stop
def W8:=@List.set_append_right
def W9:=@List.getElem?_toArray
def Wa:=@PySem.wpAny_newTuple
def Wb:=@List.Perm.refl
def Wc:=@List.getElem?_set_ne
def Wd:=@PySem.wpAny_load
def We:=@PySem.intKind_is
def Wf:=@List.getElem?_of_mem
def Wg:=@Nat.add_le_add_right
def Wh:=@Nat.sub_lt_sub_left
def Wi:=@List.length_reverse
def Wj:=@List.replicate_succ
def Wk:=@List.map_eq_nil_iff
def Wl:=@Bool.true_or
def Wm:=@Nat.sub_succ
def Wn:=@List.not_lt
def Wo:=@Prod.ext
section
open PySem
abbrev Wp:=Str->Option Value
abbrev Wq:=Value->Shared->Prop
abbrev Wr:=Unit->Shared->Prop
abbrev Ws:=List (Addr×Obj)
abbrev Wt:=PySem.Program
abbrev Wu:=PySem.Shared
abbrev Wv:=PySem.FuncData
abbrev Ww:=PySem.Around
abbrev Wx:=PySem.World
abbrev Wy:=PySem.W.Frag
abbrev Wz:=PySem.Value
abbrev WA:=PySem.Addr
abbrev WB:=List Int
abbrev WC:=List Value
abbrev WD:=PySem.Heap
abbrev WE:=PySem.Expr
end
namespace L2
open PySem PySem.Spec PyProof.Rows
abbrev Jv:=Sum Int Str
def RU:Jv->Value->Bool
 | .inl k,v=>Value.isInt k v
 | .inr x,v=>Value.isStrOf x v
def j5(w:Wx):Jv->Int
 | .inl k=>hashInt k
 | .inr x=>hashStr w x
theorem GX:∀{k:Jv} {v:Wz},RU k v=true->(∃i t,k=Sum.inl i/\v=Value.int i t)\/(∃x t,k=Sum.inr x/\v=Value.str x t)
 | .inl i,v,h=>by
  obtain⟨t,e⟩:=Value.isInt_shape (k:=i) (v:=v) h;exact .inl ⟨i,t,rfl,e⟩
 | .inr x,v,h=>by
  obtain⟨t,e⟩:=Value.isStrOf_shape (x:=x) (v:=v) h;exact .inr ⟨x,t,rfl,e⟩
theorem wH(i:Int)(t:Tok):RU (.inl i) (.int i t)=true:=by simp[RU,Value.isInt]
theorem uS(x:Str)(t:Tok):RU (.inr x) (.str x t)=true:=by simp[RU,Value.isStrOf]
theorem QI(a b:Int):decide ((Sum.inl a:Jv)=Sum.inl b)=(a==b):=by
 by_cases e:a=b
 .subst e;simp
 .have h:¬(Sum.inl a:Jv)=Sum.inl b:=fun q=>e (Sum.inl.inj q)
  rw[Ys h];exact(XW.mpr e).symm
theorem uH(a b:Str):decide ((Sum.inr a:Jv)=Sum.inr b)=decide (a=b):=by
 by_cases e:a=b
 .subst e;simp
 .have h:¬(Sum.inr a:Jv)=Sum.inr b:=fun q=>e (W0 q)
  rw[Ys h,Ys e]
theorem yK(a:Int)(b:Str):decide ((Sum.inl a:Jv)=Sum.inr b)=false:=Ys (fun q=>nomatch q)
theorem nW(a:Str)(b:Int):decide ((Sum.inr a:Jv)=Sum.inl b)=false:=Ys (fun q=>nomatch q)
def Jn(prog:Wt)(w:Wx):PySem.KeyKind prog w Jv where
 is:=RU
 hash:=j5 w
 inj:=fun v a b ha hb=>by
  rcases GX ha with⟨i,t,rfl,rfl⟩|⟨x,t,rfl,rfl⟩
  .rcases GX hb with⟨j,u,rfl,e⟩|⟨y,u,rfl,e⟩
   .injection e with e1 _;rw[e1]
   .exact nomatch e
  .rcases GX hb with⟨j,u,rfl,e⟩|⟨y,u,rfl,e⟩
   .exact nomatch e
   .injection e with e1 _;rw[e1]
 byValue:=fun k v h=>by
  rcases GX h with⟨i,t,rfl,rfl⟩|⟨x,t,rfl,rfl⟩ <;> rfl
 pyHash:=fun hv h=>by
  rcases GX hv with⟨i,t,rfl,rfl⟩|⟨x,t,rfl,rfl⟩
  .exact wpAny_pyHash_int h
  .exact wpAny_pyHash_str h
 eqBool:=fun hu hv h=>by
  rcases GX hu with⟨i,t,rfl,rfl⟩|⟨x,t,rfl,rfl⟩
  .rcases GX hv with⟨j,u,rfl,rfl⟩|⟨y,u,rfl,rfl⟩
   .rw[QI]at h;exact wpAny_eqBool_int h
   .rw[yK]at h;exact SeqAt.EqAt.int_str i t y u _ _ _ _ h
  .rcases GX hv with⟨j,u,rfl,rfl⟩|⟨y,u,rfl,rfl⟩
   .rw[nW]at h;exact SeqAt.EqAt.str_int x t j u _ _ _ _ h
   .rw[uH]at h;exact wpAny_eqBool_str h
 «strs»:=fun k x t v h=>by
  rcases GX h with⟨i,u,rfl,e⟩|⟨y,u,rfl,e⟩
  .exact nomatch e
  .injection e with e1 _;subst e1;cases v <;> rfl
theorem Sj(prog:Wt)(w:Wx)(i:Int)(t:Tok):(Jn prog w).is (.inl i) (.int i t)=true:=wH i t
theorem yI(prog:Wt)(w:Wx)(x:Str)(t:Tok):(Jn prog w).is (.inr x) (.str x t)=true:=uS x t
inductive V where
 |non|bl (b:Bool)|int (i:Int)|str (x:Str)|byt (b:Array UInt8)|flt (b:UInt64)|ref (a:WA)|ty (n:String)
 deriving DecidableEq
def WU:V->Value->Prop
 | .non,u=>u=Value.none
 | .bl b,u=>u=Value.bool b
 | .int i,u=>∃t,u=Value.int i t
 | .str x,u=>∃t,u=Value.str x t
 | .byt b,u=>∃t,u=Value.bytes b t
 | .flt b,u=>∃t,u=Value.float b t
 | .ref a,u=>u=Value.ref a
 | .ty n,u=>u=Value.type n
abbrev WO:List V->List Value->Prop:=Paired WU
theorem WO.length{xs:List V}{us:WC}(r:WO xs us):xs.length=us.length:=Paired.length r
theorem WO.get:∀{xs:List V} {us:WC} {i:Nat} {x:V},WO xs us->xs[i]?=some x->∃u,us[i]?=some u/\WU x u
 |_,_,_,_,.nil,e=>by simp at e
 |_,_,0,_,.cons r _,e=>by simp at e;subst e;exact⟨_,rfl,r⟩
 |_,_,i+ 1,x,.cons _ t,e=>by
  obtain⟨u,h1,h2⟩:=WO.get (i:=i) (x:=x) t (by simpa using e);exact⟨u,by simpa using h1,h2⟩
theorem WO.set{x:V}{u:Wz}(r:WU x u):∀{xs:List V} {us:WC} (i:Nat),WO xs us->WO (xs.set i x) (us.set i u)
 |_,_,_,.nil=>.nil
 |_,_,0,.cons _ t=>.cons r t
 |_,_,i+ 1,.cons q t=>.cons q (WO.set r i t)
theorem WO.append:∀{xs ys:List V} {us ws:WC},WO xs us->WO ys ws->WO (xs++ys) (us++ws)
 |_,_,_,_,.nil,s=>s
 |_,_,_,_,.cons r t,s=>.cons r (WO.append t s)
theorem WO.take:∀{xs:List V} {us:WC} (n:Nat),WO xs us->WO (xs.take n) (us.take n)
 |_,_,0,_=>.nil
 |_,_,_+ 1,.nil=>.nil
 |_,_,n+ 1,.cons r t=>.cons r (WO.take n t)
theorem WO.drop:∀{xs:List V} {us:WC} (n:Nat),WO xs us->WO (xs.drop n) (us.drop n)
 |_,_,0,r=>r
 |_,_,_+ 1,.nil=>.nil
 |_,_,n+ 1,.cons _ t=>WO.drop n t
def NQ:Option V->Option Value->Prop
 |some v,some u=>WU v u
 |none,none=>True
 |_,_=>False
def KV{κ:Type}:List (κ×V)->List (κ×Value)->Prop:=Paired fun(p:κ×V) (q:κ×Value)=>p.1=q.1/\WU p.2 q.2
def kV:Jv->V
 | .inl i=>.int i
 | .inr x=>.str x
inductive HO where
 |lst (xs:List V)
 |tup (xs:List V)
 |dK (kvs:List (Jv×V))|dT (kvs:List (List Jv×V))
 |set (S:Int->Bool) (n:Nat)
 |ins (C dx:WA) (fs:List (Str×V))
 |own (x:WA)
 |xd (fs:List (Str×V))
 |met (f x:WA)
 |rng (lo hi:Int)
 |frz (o:Obj) (u:HO)
 |tbl (ps:Array Value)
 |ext (φ:Heap->Prop)
abbrev Hp:=Addr->Option HO
def upd(H:Hp)(a:WA)(o:HO):Hp:=fun b=>if b=a then some o else H b
theorem JD{H:Hp}{a:WA}{o:HO}:upd H a o a=some o:=by unfold upd;rw[Y9 rfl]
theorem Jb{H:Hp}{a b:WA}{o:HO}(h:b≠a):upd H a o b=H b:=by unfold upd;rw[Y3 h]
theorem WL{H:Hp}{a b:WA}{o u:HO}(h:H a=some o)(h':H b=some u)(d:o≠u):a≠b:=by
 intro e;subst e;rw[h]at h';exact d (Yn h')
theorem J6{H:Hp}{a b:WA}{o:HO}(h:H a=some o)(h':H b=none):a≠b:=by
 intro e;subst e;rw[h]at h';cases h'
section
variable(P:Wt)(w:Wx)
def Jh(H:Hp)(h:WD)(a:WA):HO->Prop
 | .lst xs=>xs.length <=sizeLine/\∃ (its:WC) (n:Nat),WO xs its/\h.get? a=some {cls:=.type "list",data:=.seq its.toArray n}
 | .tup xs=>xs.length <=sizeLine/\∃its:List Value,WO xs its/\IsTup h a its.toArray
 | .dK kvs=>kvs.length <=sizeLine/\(a==sysModules)=false/\∃vs,KV kvs vs/\h.DictOf (Jn P w) a vs
 | .dT kvs=>kvs.length <=sizeLine/\(a==sysModules)=false/\∃xs:List (List Jv×Addr×Value),
   Paired (fun(p:List Jv×V) (q:List Jv×Addr×Value)=>p.1=q.1/\H q.2.1=some (.tup (p.1.map kV))/\WU p.2 q.2.2) kvs xs/\
   ∃o es ep,h.get? a=some o/\o.ExactDict/\o.data= .dict es ep/\es.toList=xs.map (entryOfKey (tupleKind (Jn P w)))/\(xs.map (·.1)).Nodup
 | .set S n=>h.SetOf (intKind P w) a S n
 | .ins C dx fs=>H dx=some (.own a)/\fs.length <=1000/\dx≠a/\h.get? a=some (W.instObj C dx)/\
   ∃mA,h.Ns1 dx mA/\(∀f,NQ (fs.lookup f) (mA f))/\PySem.Within mA (fs.map (·.1))
 | .own _=>∃o,h.get? a=some o
 | .xd fs=>∃mA,h.Ns1 a mA/\∀f,NQ (fs.lookup f) (mA f)
 | .rng lo hi=>∃t u v,h.get? a=some {cls:=.type "range",data:=.fields #[.int lo t,.int hi u,.int 1 v]}
 | .frz o u=>h.get? a=some o/\Jh H h a u
 | .tbl ps=>h.get? a=some {cls:=.none,data:=.fields ps}
 | .met f x=>h.get? a=some (W.methodObj (.ref f) (.ref x))
 | .ext φ=>φ h/\(∃o,h.get? a=some o)/\∀h1 h2:Heap,φ h1->(∀o,h1.get? a=some o->h2.get? a=some o)->φ h2
def No(H:Hp)(h:WD):Prop:=∀a o,H a=some o->Jh P w H h a o
end
section
variable{P:Wt}{w:Wx}{H H':Hp}{h h':WD}{a:WA}{o:HO}
theorem Jh.lt(x:Jh P w H h a o):a < h.objs.size:=by
 cases o with
 |lst xs=>obtain⟨_,_,_,_,e⟩:=x;exact Ye e
 |tup xs=>obtain⟨_,_,_,p⟩:=x;exact p.lt
 |dK kvs=>obtain⟨_,_,_,_,o,_,_,e,_⟩:=x;exact Ye e
 |dT kvs=>obtain⟨_,_,_,_,o,_,_,e,_⟩:=x;exact Ye e
 |set S n=>obtain⟨o,_,_,_,e,_⟩:=x;exact Ye e
 |ins C dx fs=>obtain⟨_,_,_,e,_⟩:=x;exact Ye e
 |own y=>obtain⟨_,e⟩:=x;exact Ye e
 |xd fs=>obtain⟨_,⟨_,_,_,e,_⟩,_⟩:=x;exact Ye e
 |rng lo hi=>obtain⟨_,_,_,e⟩:=x;exact Ye e
 |frz ob u=>obtain⟨e,_⟩:=x;exact Ye e
 |tbl ps=>exact Ye (show h.get? a=some _ from x)
 |met f y=>exact Ye (show h.get? a=some _ from x)
 |ext φ=>obtain⟨_,⟨_,e⟩,_⟩:=x;exact Ye e
theorem Paired.mapP{α β:Type}{F G:α->β->Prop}:∀{l₁:List α} {l₂:List β},Paired F l₁ l₂->(∀a b,F a b->G a b)->Paired G l₁ l₂
 |_,_,.nil,_=>.nil
 |_,_,.cons r t,f=>.cons (f _ _ r) (Paired.mapP t f)
theorem Jh.stay(x:Jh P w H h a o)(k:∀b u,(b=a\/H b=some (.own a))->h.get? b=some u->h'.get? b=some u)
  (ho:∀b,H b=some (.own a)->H' b=some (.own a)) (ht:∀b xs,H b=some (.tup xs)->H' b=some (.tup xs)):Jh P w H' h' a o:=by
 induction o with
 |lst xs=>obtain⟨z,g,n,r,e⟩:=x;exact⟨z,g,n,r,k _ _ (.inl rfl) e⟩
 |tup xs=>obtain⟨z,g,r,ob,e,c⟩:=x;exact⟨z,g,r,ob,k _ _ (.inl rfl) e,c⟩
 |dK kvs=>obtain⟨z,y,vs,r,ob,es,ep,e,c⟩:=x;exact⟨z,y,vs,r,ob,es,ep,k _ _ (.inl rfl) e,c⟩
 |dT kvs=>
  obtain⟨z,y,xs,r,ob,es,ep,e,c⟩:=x;exact⟨z,y,xs,Paired.mapP r fun p q z=>⟨z.1,ht _ _ z.2.1,z.2.2⟩,ob,es,ep,k _ _ (.inl rfl) e,c⟩
 |set S n=>obtain⟨ob,es,ep,t,e,c⟩:=x;exact⟨ob,es,ep,t,k _ _ (.inl rfl) e,c⟩
 |ins C dx fs=>
  obtain⟨d,z,ne,e,mA,⟨i,es,ep,j,c⟩,r⟩:=x;exact⟨ho _ d,z,ne,k _ _ (.inl rfl) e,mA,⟨i,es,ep,k _ _ (.inr d) j,c⟩,r⟩
 |own y=>obtain⟨ob,e⟩:=x;exact⟨ob,k _ _ (.inl rfl) e⟩
 |xd fs=>obtain⟨mA,⟨i,es,ep,e,c⟩,r⟩:=x;exact⟨mA,⟨i,es,ep,k _ _ (.inl rfl) e,c⟩,r⟩
 |rng lo hi=>obtain⟨t,u,v,e⟩:=x;exact⟨t,u,v,k _ _ (.inl rfl) e⟩
 |frz ob u ih=>obtain⟨e,q⟩:=x;exact⟨k _ _ (.inl rfl) e,ih q⟩
 |tbl ps=>
  have e:h.get? a=some {cls:=.none,data:=.fields ps}:=x;show h'.get? a=some {cls:=.none,data:=.fields ps};exact k a _ (.inl rfl) e
 |met f y=>
  have e:h.get? a=some (W.methodObj (.ref f) (.ref y)):=x;show h'.get? a=some (W.methodObj (.ref f) (.ref y));exact k a _ (.inl rfl) e
 |ext φ=>obtain⟨p,⟨o,e⟩,st⟩:=x;exact⟨st _ _ p fun o q=>k _ _ (.inl rfl) q,⟨o,k _ _ (.inl rfl) e⟩,st⟩
theorem No.lt(x:No P w H h)(e:H a=some o):a < h.objs.size:=(x a o e).lt
theorem No.fresh(x:No P w H h)(e:h.objs.size <=a):H a=none:=by
 cases q:H a with
 |none=>rfl
 |some u=>exact absurd (Yz (x.lt q) e) (Xe _)
theorem No.kept(x:No P w H h)(k:∀b u,h.get? b=some u->h'.get? b=some u):No P w H h':=fun a o e=>
 (x a o e).stay (fun b u _ q=>k b u q) (fun _ q=>q) fun _ _ q=>q
theorem No.laid(x:No P w H h)(k:∀b u,h.get? b=some u->h'.get? b=some u)(hp:h.objs.size <=a)(new:Jh P w (upd H a o) h' a o):No P w (upd H a o) h':=fun b u e=>by
 have d:=x.fresh hp
 by_cases hb:b=a
 .subst hb;rw[JD]at e;cases e;exact new
 .rw[Jb hb]at e;exact(x b u e).stay (fun c v _ q=>k c v q) (fun c q=>by rw[Jb (J6 q d)];exact q) fun c xs q=>by rw[Jb (J6 q d)];exact q
end
def Rd(H:Hp)(a:WA)(u:HO):Prop:=H a=some u\/∃o,H a=some (.frz o u)
theorem Rd.ok{P:Wt}{w:Wx}{H:Hp}{h:WD}{a:WA}{u:HO}(r:Rd H a u)(x:No P w H h):Jh P w H h a u:=by
 rcases r with r|⟨o,r⟩
 .exact x a u r
 .obtain⟨_,q⟩:=x a _ r;exact q
def EW:Option HO->Prop
 |some (.lst _)=>True
 |some (.dK _)=>True
 |some (.dT _)=>True
 |some (.set _ _)=>True
 |some (.ins _ _ _)=>True
 |some (.ext _)=>True
 |_=>False
section
variable{P:Wt}{w:Wx}{H:Hp}{h h':WD}{x e:WA}{o':HO}
theorem No.write(ok:No P w H h)(mu:EW (H x))(he:e=x\/H e=some (.own x))(k:∀b u,b≠e->h.get? b=some u->h'.get? b=some u)(heo:∃u,h'.get? e=some u)
  (new:Jh P w (upd H x o') h' x o'):No P w (upd H x o') h':=fun b u q=>by
 have a:∀c y,H c=some (.own y)->c≠x:=fun c y r z=>by subst z;rw[r]at mu;exact mu
 have f:∀c xs,H c=some (.tup xs)->c≠x:=fun c xs r z=>by subst z;rw[r]at mu;exact mu
 by_cases hb:b=x
 .subst hb;rw[JD]at q;cases q;exact new
 .rw[Jb hb]at q
  by_cases hbe:b=e
  .have g:H b=some (.own x):=by
    rcases he with z|z
    .exact absurd (hbe.trans z) hb
    .rw[hbe];exact z
   rw[q]at g;cases g;obtain⟨v,i⟩:=heo;exact⟨v,by rw[hbe];exact i⟩
  .refine(ok b u q).stay (fun c v d r=>k c v ?_ r) (fun c r=>by rw[Jb (a c b r)];exact r) fun c xs r=>by rw[Jb (f c xs r)];exact r
   rcases d with rfl|d
   .exact hbe
   .rintro rfl;rcases he with z|z
    .exact a c b d z
    .rw[d]at z;cases z;exact hb rfl
end
structure Un(fs ex:List Addr)(H H':Hp)(h h':WD):Prop where
 keep:∀b o,h.get? b=some o->H b=none->b∉fs->b∉ex->h'.get? b=some o
 slot:∀b o,h.get? b=some o->H b=none->b∈fs->b∉ex->∃sl,h'.get? b=some {o with slots:=sl}
 free:∀b o,h.get? b=some o->H b=none->b∉ex->H' b=none
 there:∀b o,h.get? b=some o->b∉ex->∃o',h'.get? b=some o'
 tups:∀b xs,H b=some (.tup xs)->H' b=some (.tup xs)
 frzs:∀b o u,H b=some (.frz o u)->H' b=some (.frz o u)
 tbls:∀b ps,H b=some (.tbl ps)->∃more,H' b=some (.tbl (ps++more))
section
variable{fs fs' ex ex':List Addr}{H H1 H2:Hp}{h h1 h2 h':WD}{a x e:WA}{o:HO}
theorem Un.any(u:Un fs ex H H1 h h1){b:WA}{ob:Obj}(q:h.get? b=some ob)(n:H b=none)(hx:b∉ex):∃sl,h1.get? b=some {ob with slots:=sl}:=by
 by_cases hb:b∈fs
 .exact u.slot b ob q n hb hx
 .exact⟨ob.slots,u.keep b ob q n hb hx⟩
theorem Un.kept(k:∀b u,h.get? b=some u->h'.get? b=some u):Un fs ex H H h h':=
 ⟨fun b a q _ _ _=>k b a q,fun b a q _ _ _=>⟨a.slots,k b a q⟩,fun _ _ _ n _=>n,fun b a q _=>⟨a,k b a q⟩,fun _ _ q=>q,fun _ _ _ q=>q,fun _ ps q=>⟨#[],by rw[q];simp⟩⟩
theorem Un.refl:Un fs ex H H h h:=Un.kept fun _ _ q=>q
theorem Un.laid(k:∀b u,h.get? b=some u->h'.get? b=some u)(hp:h.objs.size <=a)(hn:H a=none):Un fs ex H (upd H a o) h h' where
 keep:=fun b u q _ _ _=>k b u q
 slot:=fun b u q _ _ _=>⟨u.slots,k b u q⟩
 free:=fun b u q n _=>by rw[Jb (Yr (Yz (Ye q) hp))];exact n
 there:=fun b u q _=>⟨u,k b u q⟩
 tups:=fun b xs q=>by rw[Jb (J6 q hn)];exact q
 frzs:=fun b u xs q=>by rw[Jb (J6 q hn)];exact q
 tbls:=fun b ps q=>⟨#[],by rw[Jb (J6 q hn),q];simp⟩
theorem Un.write(mu:EW (H x))(he:e=x\/H e=some (.own x))(k:∀b u,b≠e->h.get? b=some u->h'.get? b=some u)(heo:∃u,h'.get? e=some u):Un fs ex H (upd H x o) h h':=by
 have c:∀b,H b=none->b≠x:=fun b n z=>by subst z;rw[n]at mu;exact mu
 have d:∀b,H b=none->b≠e:=fun b n z=>by
  subst z;rcases he with r|r
  .exact c b n r
  .rw[n]at r;cases r
 have a:∀b u,H b=some u->¬EW (some u)->b≠x:=fun b u q nm z=>by subst z;rw[q]at mu;exact nm mu
 refine ⟨fun b u q n _ _ => k b u (d b n) q, fun b u q n _ _ => ⟨u.slots, k b u (d b n) q⟩, fun b u q n _ => by rw [Jb (c b n)]; exact n, fun b u q _ => ?_,
  fun b xs q => by rw [Jb (a b _ q fun z => z)]; exact q, fun b u xs q => by rw [Jb (a b _ q fun z => z)]; exact q, fun b ps q => ⟨#[], by rw [Jb (a b _ q fun z => z), q]; simp⟩⟩
 by_cases hbe:b=e
 .subst hbe;exact heo
 .exact⟨u,k b u hbe q⟩
end
def C8(h:WD)(H:Hp):List Addr:=(List.range h.objs.size).filter fun a=>(H a).isSome
def GJ(h:WD)(H:Hp):Heap:=W.hideAll h (C8 h H)
theorem w9(h:WD)(H:Hp):(GJ h H).objs.size=h.objs.size:=W.hideAll_size _ _
theorem xF{h:WD}{H:Hp}{b:WA}{o:Obj}(e:h.get? b=some o)(n:H b=none):(GJ h H).get? b=some o:=
 W.hideAll_get _ e fun a=>by
  have q:(H b).isSome=true:=(YU.mp a).2;rw[n]at q;simp at q
theorem Z2{h:WD}{H:Hp}{b:WA}{o:Obj}(e:(GJ h H).get? b=some o):h.get? b=some o/\H b=none:=by
 have a:h.get? b=some o:=W.of_hideAll (C8 h H) e;refine⟨a,?_⟩;cases q:H b with
 |none=>rfl
 |some x=>
  have c:b∈C8 h H:=YU.mpr ⟨Vl.mpr (Ye a),by simp[q]⟩;have z:(GJ h H).get? b=none:=W.hideAll_none (C8 h H) c;rw[z]at e;cases e
def Zj(g h:WD)(L:WA):List (Addr×Obj):=(List.range h.objs.size).filterMap fun a=>if a=L\/(g.get? a).isSome=true then none else(h.get? a).map fun o=>(a,o)
def Jf(g h:WD)(L d:WA):List (Addr×Obj):=(Zj g h L).filter fun p=>decide (p.1≠d)
structure Mod(K:Wy)(mg:Wp)(base:WD):Prop where
 kin:K.In base
 glob:base.Ns mainGlobals mg
 blt:∃mb,base.Ns builtinsNs mb/\∀x:Str,x≠"__name__"->mb x=bootBuiltins x
 nolimit:base.NoLimit
structure Cx where
 prog:Program
 w:World
 K:W.Frag
 mg:Str->Option Value
 base:Heap
 A:Around
 N:List Str
 s₀:Shared
 H₀:Hp
 env:Env
 outer:List Env
 stack:List Env
 ex:List Addr
 fn:Str->Bool
 calm:Bool
 pn:List (Addr×Obj)
 xe:Value->Shared->Prop
def M9(l:List Env):List Addr:=l.filterMap (·.frame)
abbrev Cx.fs(X:Cx):List Addr:=M9 X.outer
def Bk(sc:Scope)(x:Str):Prop:=sc.names.lookup x=some .local\/sc.names.lookup x=some .cell\/sc.names.lookup x=some .free
def RQ(sc:Scope)(x:Str):Prop:=sc.names.lookup x=some .local\/sc.names.lookup x=some .cell
def Kg(env:Env)(h:WD)(m:Wp)(x:Str)(u:Wz):Prop:=
 (env.kindOf x=some .local/\m x=some u)\/((env.kindOf x=some .cell\/env.kindOf x=some .free)/\∃c,env.cells.lookup x=some c/\h.IsCell c (some u))
structure Cx.Ok(X:Cx):Prop where
 mod:Mod X.K X.mg X.base
 kind:X.env.scope.kind= .function
 glob:X.env.globals=mainGlobals
 blt:X.env.builtins=builtinsNs
 above:X.s₀.heap.objs.size <=X.env.locals
 inj:∀x y c,X.env.cells.lookup x=some c->X.env.cells.lookup y=some c->x=y
 has:∀x,(X.env.kindOf x=some .cell\/X.env.kindOf x=some .free)->∃c,X.env.cells.lookup x=some c
 cab:∀x c,X.fn x=true->X.env.cells.lookup x=some c->X.s₀.heap.objs.size <=c
 hd:X.calm=true->X.A.handled=none
 frames:X.A.frames=some X.stack
 stk:X.stack=X.outer\/(X.stack=X.env::X.outer/\X.env.frame=some X.env.locals)
 exf:∀b∈X.ex,b≠X.env.locals/\∀x c,X.env.cells.lookup x=some c->c≠b
 bs:∀b o,X.base.get? b=some o->X.s₀.heap.get? b=some o/\X.H₀ b=none
 bsz:X.base.objs.size <=X.s₀.heap.objs.size
 noex:∀b o,X.base.get? b=some o->b∉X.ex
 exfs:∀b∈X.ex,b∉X.fs
 funs:X.s₀.heap.FunFrames X.base X.outer
 frf:∀b∈X.fs,X.H₀ b=none
structure WI(X:Cx)(pins:Ws)(σ:List (Option V))(H:Hp)(s:Wu):Prop where
 ok:X.Ok
 os:s.os=X.s₀.os
 bare:AllBare s.gens
 base:Un X.fs X.ex X.H₀ H X.s₀.heap s.heap
 loc:∃m,s.heap.Ns X.env.locals m/\∀ (i:Nat) (x:Str) (v:V),X.N[i]?=some x->σ[i]?=some (some v)->Bk X.env.scope x->∃u,WU v u/\Kg X.env s.heap m x u
 cell:∀x c,X.env.cells.lookup x=some c->∃v,s.heap.IsCell c v
 free:H X.env.locals=none
 freeC:∀x c,X.env.cells.lookup x=some c->H c=none
 pin:∀p∈X.pn++pins,s.heap.get? p.1=some p.2/\H p.1=none/\p.1≠X.env.locals/\p.1∉X.fs/\∀v,p.2.data≠ .cell v
 hok:No X.prog X.w H s.heap
 len:σ.length=X.N.length
section
variable{X:Cx}{pins:Ws}{σ:List (Option V)}{H H':Hp}{s:Wu}{h':WD}
theorem Cx.Ok.nofr(ok:X.Ok){b:WA}{o:Obj}(e:X.base.get? b=some o):b∉X.fs:=fun a=>by
 have:=(ok.funs.mem a).1;rw[e]at this;cases this
theorem WI.bs(I:WI X pins σ H s):∀b o,X.base.get? b=some o->s.heap.get? b=some o/\H b=none:=fun b o e=>
 ⟨I.base.keep b o (I.ok.bs b o e).1 (I.ok.bs b o e).2 (I.ok.nofr e) (I.ok.noex b o e),I.base.free b o (I.ok.bs b o e).1 (I.ok.bs b o e).2 (I.ok.noex b o e)⟩
theorem WI.bk(I:WI X pins σ H s):∀b o,X.base.get? b=some o->s.heap.get? b=some o:=fun b o e=>(I.bs b o e).1
theorem WI.mod(I:WI X pins σ H s):Mod X.K X.mg X.base:=I.ok.mod
theorem WI.kIn(I:WI X pins σ H s):X.K.In s.heap:=I.ok.mod.kin.keeps I.bk
theorem WI.lt(I:WI X pins σ H s):X.env.locals < s.heap.objs.size:=let ⟨_,hn,_⟩:=I.loc;hn.lt
theorem WI.sz(I:WI X pins σ H s):X.s₀.heap.objs.size <=s.heap.objs.size:=YW I.ok.above (XJ I.lt)
theorem WI.nofs(I:WI X pins σ H s){a:WA}(h:s.heap.objs.size <=a):a∉X.fs:=fun c=>by
 obtain⟨_,o,b,_⟩:=I.ok.funs.mem c;exact absurd (Yz (Ye b) (YW I.sz h)) (Xe _)
theorem WI.cne(I:WI X pins σ H s):∀x c,X.env.cells.lookup x=some c->c≠X.env.locals:=fun x c e z=>by
 obtain⟨v,o,b,hd⟩:=I.cell x c e;obtain⟨m,⟨o',es,ep,a,d,_⟩,_⟩:=I.loc;rw[z,a]at b;cases b;rw[d]at hd;cases hd
theorem WI.funs(I:WI X pins σ H s):s.heap.FunFrames X.base X.outer:=by
 have all:∀ (l:List Env),(∀b∈M9 l,b∈X.fs)->X.s₀.heap.FunFrames X.base l->s.heap.FunFrames X.base l:=by
  intro l
  induction l with
  |nil=>intro _ _;trivial
  |cons env r ih=>
   intro hs h;obtain⟨i,⟨L,o,hf,g,f,hd⟩,d⟩:=h;have c:L∈X.fs:=hs L (by unfold M9;rw[XC,hf];exact Ym);obtain⟨j,e⟩:=I.base.slot L o f (I.ok.frf L c) c fun z=>I.ok.exfs L z c
   exact⟨i,⟨L,_,hf,g,e,hd⟩,ih (fun b a=>hs b (by unfold M9;rw[XC,hf];exact Yl _ a)) d⟩
 exact all X.outer (fun _ a=>a) I.ok.funs
theorem WI.stack(I:WI X pins σ H s):s.heap.FunFrames X.base X.stack:=by
 rcases I.ok.stk with e|⟨e,hf⟩
 .rw[e];exact I.funs
 .rw[e];obtain⟨m,a,_⟩:=I.loc;refine .cons (by rw[I.ok.kind];decide) hf a ?_ I.funs;exact Heap.get?_none_of_le (YW I.ok.bsz I.ok.above)
theorem WI.stkSub(I:WI X pins σ H s):∀b∈M9 X.stack,b∈X.env.locals::X.fs:=fun b a=>by
 rcases I.ok.stk with e|⟨e,hf⟩
 .rw[e]at a;exact Yl _ a
 .rw[e]at a;unfold M9 at a;rw[XC,hf]at a;exact a
theorem WI.stkFree(I:WI X pins σ H s):∀b∈M9 X.stack,H b=none:=fun b a=>by
 rcases Yu.mp (I.stkSub b a) with e|a
 .rw[e];exact I.free
 .obtain⟨_,o,c,_⟩:=I.ok.funs.mem a;exact I.base.free b o c (I.ok.frf b a) fun z=>I.ok.exfs b z a
theorem WI.step{g':Array GenState}{t':Nat}{d':Drawn}{ch:List Addr}(I:WI X pins σ H s)
  (hch:∀b∈ch,(b∈X.ex\/X.s₀.heap.objs.size <=b)/\b≠X.env.locals/\(∀x c,X.env.cells.lookup x=some c->c≠b)/\∀p∈X.pn++pins,p.1≠b)
  (keep:∀b o,b≠X.env.locals->b∉X.fs->b∉ch->s.heap.get? b=some o->H b=none->h'.get? b=some o)
  (slot:∀b o,b≠X.env.locals->b∈X.fs->b∉ch->s.heap.get? b=some o->H b=none->∃sl,h'.get? b=some {o with slots:=sl}) (free:∀b o,b∉ch->s.heap.get? b=some o->H b=none->H' b=none)
  (there:∀b o,b∉ch->s.heap.get? b=some o->∃o',h'.get? b=some o')
  (tups:∀b xs,H b=some (.tup xs)->H' b=some (.tup xs)) (frzs:∀b o u,H b=some (.frz o u)->H' b=some (.frz o u)) (tbls:∀b ps,H b=some (.tbl ps)->∃more,H' b=some (.tbl (ps++more)))
  (ns:∀m,s.heap.Ns X.env.locals m->h'.Ns X.env.locals m) (hok:No X.prog X.w H' h') (hg:AllBare g'):
  WI X pins σ H' {s with heap:=h',gens:=g',drawn:=d',toks:=t'}:=by
 have neL:∀b o,X.s₀.heap.get? b=some o->b≠X.env.locals:=fun b o e=>Yr (Yz (Ye e) I.ok.above)
 have j:∀b o,X.s₀.heap.get? b=some o->b∉X.ex->b∉ch:=fun b o e a h=>by
  rcases(hch b h).1 with z|z
  .exact a z
  .exact absurd (Yz (Ye e) z) (Xe _)
 have t:∀x c,X.env.cells.lookup x=some c->∀v,s.heap.IsCell c v->h'.IsCell c v:=fun x c e v ⟨o,ho,hd⟩=>by
  have g:c∉ch:=fun z=>(hch c z).2.2.1 x c e rfl
  by_cases hc:c∈X.fs
  .obtain⟨sl,q⟩:=slot c o (I.cne x c e) hc g ho (I.freeC x c e);exact⟨_,q,hd⟩
  .exact⟨o,keep c o (I.cne x c e) hc g ho (I.freeC x c e),hd⟩
 refine⟨I.ok,I.os,hg,⟨fun b o e n h a=>?_,fun b o e n h a=>?_,fun b o e n a=>?_,fun b o e a=>?_,fun b xs e=>tups b xs (I.base.tups b xs e),fun b o xs e=>frzs b o xs (I.base.frzs b o xs e),fun b ps e=>?_⟩,?_,fun x c e=>?_,?_,fun x c e=>?_,fun p hp=>?_,hok,I.len⟩
 .exact keep b o (neL b o e) h (j b o e a) (I.base.keep b o e n h a) (I.base.free b o e n a)
 .obtain⟨sl,f⟩:=I.base.slot b o e n h a;obtain⟨sl',e2⟩:=slot b _ (neL b o e) h (j b o e a) f (I.base.free b o e n a);exact⟨sl',e2⟩
 .obtain⟨o',f⟩:=I.base.there b o e a;exact free b o' (j b o e a) f (I.base.free b o e n a)
 .obtain⟨o',f⟩:=I.base.there b o e a;exact there b o' (j b o e a) f
 .obtain⟨m1,f⟩:=I.base.tbls b ps e;obtain⟨m2,e2⟩:=tbls b _ f;exact⟨m1++m2,by rw[e2,Array.append_assoc]⟩
 .obtain⟨m,hn,hl⟩:=I.loc;refine⟨m,ns m hn,fun i x v f e2 e3=>?_⟩;obtain⟨u,r,l⟩:=hl i x v f e2 e3;refine⟨u,r,?_⟩;rcases l with l|⟨k,c,e,z⟩
  .exact .inl l
  .exact .inr ⟨k,c,e,t x c e _ z⟩
 .obtain⟨v,z⟩:=I.cell x c e;exact⟨v,t x c e v z⟩
 .obtain⟨m,⟨o,_,_,ho,_⟩,_⟩:=I.loc;exact free _ o (fun z=>(hch _ z).2.1 rfl) ho I.free
 .obtain⟨v,o,ho,hd⟩:=I.cell x c e;exact free c o (fun z=>(hch c z).2.2.1 x c e rfl) ho (I.freeC x c e)
 .obtain⟨e,n,ne,nf,d⟩:=I.pin p hp;have g:p.1∉ch:=fun z=>(hch p.1 z).2.2.2 p hp rfl
  exact⟨keep p.1 p.2 ne nf g e n,free p.1 p.2 g e n,ne,nf,d⟩
theorem WI.un{t':Nat}(I:WI X pins σ H s)(u:Un X.fs [] H H' s.heap h')(hok:No X.prog X.w H' h'):WI X pins σ H' {s with heap:=h',toks:=t'}:=by
 obtain ⟨m, ⟨o, es, ep, d, r⟩, _⟩ := id I.loc;obtain ⟨l, j⟩ := u.any d I.free (by simp);exact I.step (g' := s.gens) (d' := s.drawn) (ch := []) (fun _ z => nomatch z) (fun b o _ c _ e n => u.keep b o e n c (by simp)) (fun b o _ c _ e n => u.slot b o e n c (by simp)) (fun b o _ e n => u.free b o e n (by simp)) (fun b o _ e => u.there b o e (by simp)) u.tups u.frzs u.tbls (fun p i => by
  obtain ⟨o', f, g, a, h⟩ := i;rw [d] at a; cases a;exact ⟨_, f, g, j, h⟩) hok I.bare
theorem WI.call{g':Array GenState}{t':Nat}{d':Drawn}{ch:List Addr}(I:WI X pins σ H s)(u:Un (M9 X.stack) ch H H' s.heap h')(hok:No X.prog X.w H' h')(hg:AllBare g')
  (hch:∀b∈ch,(b∈X.ex\/X.s₀.heap.objs.size <=b)/\b≠X.env.locals/\(∀x c,X.env.cells.lookup x=some c->c≠b)/\∀p∈X.pn++pins,p.1≠b):
  WI X pins σ H' {s with heap:=h',gens:=g',drawn:=d',toks:=t'}:=by
 obtain⟨m,⟨o,es,ep,g,r⟩,_⟩:=id I.loc;obtain⟨t,f⟩:=u.any g I.free fun z=>(hch _ z).2.1 rfl
 exact I.step (ch := ch) hch (fun b o f q a e n => u.keep b o e n (fun z => (Yu.mp (I.stkSub b z)).elim f q) a) (fun b o _ _ a e n => u.any e n a) (fun b o a e n => u.free b o e n a) (fun b o a e => u.there b o e a) u.tups u.frzs u.tbls (fun m' l => by
  obtain ⟨o', h, i, d, j⟩ := l;rw [g] at d; cases d;exact ⟨_, h, i, f, j⟩) hok hg
theorem WI.turned{t':Nat}{it:WA}(I:WI X pins σ H s)(k:∀b o,b≠it->s.heap.get? b=some o->h'.get? b=some o)(hn:H it=none)(hL:it≠X.env.locals)
  (h1:it∈X.ex\/X.s₀.heap.objs.size <=it) (h2:∀x c,X.env.cells.lookup x=some c->c≠it) (h3:∀p∈X.pn++pins,p.1≠it):WI X pins σ H {s with heap:=h',toks:=t'}:=by
 have d:∀b u,H b=some u->b≠it:=fun b u e z=>by rw[z,hn]at e;cases e
 refine I.step (g':=s.gens) (d':=s.drawn) (ch:=[it]) (fun b h=>?_) (fun b o _ _ a e _=>k b o (fun z=>a (by simp[z])) e) (fun b o _ _ a e _=>⟨o.slots,k b o (fun z=>a (by simp[z])) e⟩) (fun _ _ _ _ n=>n)
  (fun b o a e=>⟨o,k b o (fun z=>a (by simp[z])) e⟩) (fun _ _ e=>e) (fun _ _ _ e=>e) (fun b ps e=>⟨#[],by rw[e];simp⟩) (fun m g=>?_) (fun b u e=>?_) I.bare
 .have e:b=it:=by simpa using h
  subst e;exact⟨h1,hL,h2,h3⟩
 .obtain⟨o,es,ep,f,r⟩:=g;exact⟨o,es,ep,k _ o (Ne.symm hL) f,r⟩
 .refine(I.hok b u e).stay (fun c v a q=>k c v ?_ q) (fun _ q=>q) fun _ _ q=>q
  rcases a with z|z
  .rw[z];exact d b u e
  .exact d c _ z
theorem WI.tok(I:WI X pins σ H s)(t:Nat):WI X pins σ H {s with toks:=t}:=I.un (h':=s.heap) (t':=t) Un.refl I.hok
theorem WI.kept{t':Nat}(I:WI X pins σ H s)(k:∀b u,s.heap.get? b=some u->h'.get? b=some u):WI X pins σ H {s with heap:=h',toks:=t'}:=I.un (Un.kept k) (I.hok.kept k)
theorem WI.laid{a:WA}{o:HO}{t':Nat}(I:WI X pins σ H s)(k:∀b u,s.heap.get? b=some u->h'.get? b=some u)(hp:s.heap.objs.size <=a)(new:Jh X.prog X.w (upd H a o) h' a o):
  WI X pins σ (upd H a o) {s with heap:=h',toks:=t'}:=I.un (Un.laid k hp (I.hok.fresh hp)) (I.hok.laid k hp new)
theorem WI.write{x e:WA}{o:HO}{t':Nat}(I:WI X pins σ H s)(mu:EW (H x))(he:e=x\/H e=some (.own x))(k:∀b u,b≠e->s.heap.get? b=some u->h'.get? b=some u)(heo:∃u,h'.get? e=some u)
  (new:Jh X.prog X.w (upd H x o) h' x o):WI X pins σ (upd H x o) {s with heap:=h',toks:=t'}:=I.un (Un.write mu he k heo) (I.hok.write mu he k heo new)
theorem WI.pins_of{pins':Ws}(I:WI X pins σ H s)(h:∀p∈pins',s.heap.get? p.1=some p.2/\H p.1=none/\p.1≠X.env.locals/\p.1∉X.fs/\∀v,p.2.data≠ .cell v):WI X pins' σ H s:=
 ⟨I.ok,I.os,I.bare,I.base,I.loc,I.cell,I.free,I.freeC,fun p a=>(Yb.mp a).elim (fun z=>I.pin p (Xf _ z)) (h p),I.hok,I.len⟩
theorem LA{N:List Str}(hN:N.Nodup){i j:Nat}{x:Str}(a:N[i]?=some x)(b:N[j]?=some x):i=j:=by
 obtain⟨h1,d⟩:=Y4.mp a;obtain⟨h2,c⟩:=Y4.mp b;exact(List.getElem_inj hN).mp (d.trans c.symm)
theorem uO{M:Model}{A:Ww}{E:Wq}{i:Nat}{x:Str}{v:V}{u:Wz}{Q:Wr}(I:WI X pins σ H s)(hN:X.N.Nodup)(hi:X.N[i]?=some x)(hx:RQ X.env.scope x)(r:WU v u)
  (h:∀s',WI X pins (σ.set i (some v)) H s'->(∃a,Heap.SameBut a s.heap s'.heap/\(a=X.env.locals\/X.env.cells.lookup x=some a))->Q () s') (hf:X.fn x=true\/X.env.scope.names.lookup x=some .local:=by first|exact .inl rfl|exact .inr rfl|assumption):wpAny M A (storeName X.env x u) Q E s:=by
 obtain⟨m,hn,hl⟩:=id I.loc;have hcls:(X.env.scope.kind== .class||(X.env.scope.kind== .module && X.env.locals !=X.env.globals))=false:=by rw[I.ok.kind];rfl
 have hiσ:i < σ.length:=by rw[I.len];exact(Y4.mp hi).1
 have cne:=I.cne;have l:∀{a:WA} {h':WD},(∃o,s.heap.get? a=some o/\H a=none)->Heap.SameBut a s.heap h'->No X.prog X.w H h':=fun {a h'} ha hs b ob e=>by
  obtain⟨_,_,hfree⟩:=ha;refine(I.hok b ob e).stay (fun c w' g q=>(hs.2 c ?_).trans q) (fun _ q=>q) fun _ _ q=>q
  rintro rfl;rcases g with rfl|g
  .rw[hfree]at e;cases e
  .rw[hfree]at g;cases g
 rcases hx with hk|hk
 .refine wpAny_storeName_local hk hn (fun h' hn' hs=>?_) hcls;obtain⟨oL,_,_,hoL,_⟩:=id hn;refine h _ ⟨I.ok,I.os,I.bare,⟨fun b o e n hb hx=>?_,fun b o e n hb hx=>?_,I.base.free,fun b o e hx=>?_,I.base.tups,I.base.frzs,I.base.tbls⟩,⟨_,hn',fun j y v' f t e3=>?_⟩,fun y c e=>?_,I.free,I.freeC,fun p hp=>?_,l ⟨oL,hoL,I.free⟩ hs,by simpa using I.len⟩ ⟨_,hs,.inl rfl⟩
  .exact(hs.2 b (Yr (Yz (Ye e) I.ok.above))).trans (I.base.keep b o e n hb hx)
  .obtain⟨sl,f⟩:=I.base.slot b o e n hb hx;exact⟨sl,(hs.2 b (Yr (Yz (Ye e) I.ok.above))).trans f⟩
  .obtain⟨o',f⟩:=I.base.there b o e hx;exact⟨o',(hs.2 b (Yr (Yz (Ye e) I.ok.above))).trans f⟩
  .by_cases hj:j=i
   .subst hj;rw[hi]at f;cases f;rw[W1 hiσ]at t;cases t;exact⟨u,r,.inl ⟨hk,by simp⟩⟩
   .rw[Wc (Ne.symm hj)]at t;obtain⟨u',r',q⟩:=hl j y v' f t e3;refine⟨u',r',?_⟩;rcases q with⟨k,e⟩|⟨k,c,e,z⟩
    .refine .inl ⟨k,?_⟩;have:y≠x:=fun e=>hj (LA hN f (e▸hi))
     simp[this,e]
    .exact .inr ⟨k,c,e,z.sameBut hs (cne y c e)⟩
  .obtain⟨w',z⟩:=I.cell y c e;exact⟨w',z.sameBut hs (cne y c e)⟩
  .obtain⟨e,n,ne,nf,d⟩:=I.pin p hp;exact⟨(hs.2 p.1 ne).trans e,n,ne,nf,d⟩
 .have hfn:X.fn x=true:=by
   rcases hf with z|z
   .exact z
   .rw[z]at hk;cases hk
  obtain⟨c,g⟩:=I.ok.has x (.inl hk);obtain⟨w',z⟩:=I.cell x c g;refine wpAny_storeName_cell I.ok.kind hk g z (fun h' hc' hs=>?_);obtain⟨oc,hoc,hocd⟩:=id z;refine h {s with heap:=h'} ⟨I.ok,I.os,I.bare,⟨fun b o e n hb hx=>?_,fun b o e n hb hx=>?_,I.base.free,fun b o e hx=>?_,I.base.tups,I.base.frzs,I.base.tbls⟩,⟨m,hn.sameBut hs (Ne.symm (cne x c g)),fun j y v' f t e3=>?_⟩,fun y c' e=>?_,I.free,I.freeC,fun p hp=>?_,l ⟨oc,hoc,I.freeC x c g⟩ hs,by simpa using I.len⟩ ⟨c,hs,.inr g⟩
  .exact(hs.2 b (Yr (Yz (Ye e) (I.ok.cab x c hfn g)))).trans (I.base.keep b o e n hb hx)
  .obtain⟨sl,f⟩:=I.base.slot b o e n hb hx;exact⟨sl,(hs.2 b (Yr (Yz (Ye e) (I.ok.cab x c hfn g)))).trans f⟩
  .obtain⟨o',f⟩:=I.base.there b o e hx;exact⟨o',(hs.2 b (Yr (Yz (Ye e) (I.ok.cab x c hfn g)))).trans f⟩
  .by_cases hj:j=i
   .subst hj;rw[hi]at f;cases f;rw[W1 hiσ]at t;cases t;exact⟨u,r,.inr ⟨.inl hk,c,g,hc'⟩⟩
   .rw[Wc (Ne.symm hj)]at t;obtain⟨u',r',q⟩:=hl j y v' f t e3;refine⟨u',r',?_⟩;rcases q with q|⟨k,c',e,z'⟩
    .exact .inl q
    .refine .inr ⟨k,c',e,z'.sameBut hs ?_⟩;rintro rfl;exact hj (LA hN f (I.ok.inj _ _ _ e g▸hi))
  .by_cases hcc:c'=c
   .subst hcc;exact⟨_,hc'⟩
   .obtain⟨w2,z2⟩:=I.cell y c' e;exact⟨w2,z2.sameBut hs hcc⟩
  .obtain⟨e,n,ne,nf,d⟩:=I.pin p hp;refine⟨(hs.2 p.1 ?_).trans e,n,ne,nf,d⟩;intro q;rw[q,hoc]at e;have q':oc=p.2:=Yn e;exact d w' (by rw[<-q'];exact hocd)
theorem Hv{M:Model}{A:Ww}{E:Wq}{i:Nat}{x:Str}{v:V}{u:Wz}{Q:Wr}(I:WI X pins σ H s)(hN:X.N.Nodup)(hi:X.N[i]?=some x)(hx:RQ X.env.scope x)(r:WU v u)
  (h:∀s',WI X pins (σ.set i (some v)) H s'->Q () s') (hf:X.fn x=true\/X.env.scope.names.lookup x=some .local:=by first|exact .inl rfl|exact .inr rfl|assumption):wpAny M A (storeName X.env x u) Q E s:=
 uO I hN hi hx r (fun s' a _=>h s' a) hf
theorem WI.call'{s':Wu}{ch:List Addr}(I:WI X pins σ H s)(ho:s'.os=s.os)(u:Un (M9 X.stack) ch H H' s.heap s'.heap)(hok:No X.prog X.w H' s'.heap)(hg:AllBare s'.gens)
  (hch:∀b∈ch,(b∈X.ex\/X.s₀.heap.objs.size <=b)/\b≠X.env.locals/\(∀x c,X.env.cells.lookup x=some c->c≠b)/\∀p∈X.pn++pins,p.1≠b):WI X pins σ H' s':=by
 obtain⟨h',g',d',t',o'⟩:=s';have e:o'=s.os:=ho;subst e;exact I.call (g':=g') (t':=t') (d':=d') u hok hg hch
end
abbrev XK:=Value->Option Addr->Hp->Prop
abbrev St:=List (Option V)
abbrev VK:=V->Hp->Prop
abbrev TE:=St->Hp->VK->Prop
abbrev TT:=St->Hp->(Bool->Hp->Prop)->Prop
abbrev TA:=St->Hp->(List V->Hp->Prop)->Prop
structure MQ where
 nx:St->Hp->Prop
 rt:VK
 bk:St->Hp->Prop:=fun _ _=>False
 ct:St->Hp->Prop:=fun _ _=>False
abbrev TS:=MQ->St->Hp->Prop
def EP(X:Cx)(pins:Ws)(σ:St)(Q:VK)(u:Wz)(s':Wu):Prop:=∃v H',WI X pins σ H' s'/\WU v u/\Q v H'
def TP(X:Cx)(pins:Ws)(σ:St)(Q:Bool->Hp->Prop)(b:Bool)(s':Wu):Prop:=∃H',WI X pins σ H' s'/\Q b H'
def AP(X:Cx)(pins:Ws)(σ:St)(Q:List V->Hp->Prop)(us:WC)(s':Wu):Prop:=∃vs H',WI X pins σ H' s'/\WO vs us/\Q vs H'
def SP(X:Cx)(pins:Ws)(D:MQ)(f:Flow)(s':Wu):Prop:=
 match f with
 | .next=>∃σ' H',WI X pins σ' H' s'/\D.nx σ' H'
 | .brk=>∃σ' H',WI X pins σ' H' s'/\D.bk σ' H'
 | .cont=>∃σ' H',WI X pins σ' H' s'/\D.ct σ' H'
 | .ret u=>∃v σ' H',WI X pins σ' H' s'/\WU v u/\D.rt v H'
def PE(X:Cx)(e:WE)(t:TE):Prop:=
 ∀ (pins:Ws) (s:Wu) (σ:St) (H:Hp) (Q:VK),WI X pins σ H s->t σ H Q->wpAny (model X.prog X.w) X.A (eval e X.env) (EP X pins σ Q) X.xe s
def PT(X:Cx)(e:WE)(t:TT):Prop:=
 ∀ (pins:Ws) (s:Wu) (σ:St) (H:Hp) (Q:Bool->Hp->Prop),WI X pins σ H s->t σ H Q->wpAny (model X.prog X.w) X.A (isTrue e X.env (eval e X.env)) (TP X pins σ Q) X.xe s
def PW(X:Cx)(e:WE)(t:TT):Prop:=
 ∀ (whole:Sem Value) (pins:Ws) (s:Wu) (σ:St) (H:Hp) (Q:Bool->Hp->Prop),WI X pins σ H s->t σ H Q->wpAny (model X.prog X.w) X.A (isTrue e X.env whole) (TP X pins σ Q) X.xe s
theorem PW.pt{X:Cx}{e:WE}{t:TT}(h:PW X e t):PT X e t:=h _
def PA(X:Cx)(es:List Expr)(t:TA):Prop:=
 ∀ (pos:Pos) (pins:Ws) (s:Wu) (σ:St) (H:Hp) (Q:List V->Hp->Prop),WI X pins σ H s->t σ H Q->wpAny (model X.prog X.w) X.A (spliced (backTo pos (starEach es X.env))) (AP X pins σ Q) X.xe s
def PS(X:Cx)(st:Stmt)(t:TS):Prop:=
 ∀ (pins:Ws) (s:Wu) (σ:St) (H:Hp) (D:MQ),WI X pins σ H s->t D σ H->wpAny (model X.prog X.w) X.A (exec st X.env) (SP X pins D) X.xe s
def Mp(X:Cx)(st:List Stmt)(t:TS):Prop:=
 ∀ (pins:Ws) (s:Wu) (σ:St) (H:Hp) (D:MQ),WI X pins σ H s->t D σ H->wpAny (model X.prog X.w) X.A (execs st X.env) (SP X pins D) X.xe s
theorem J8{α:Type}{t:Sem α}{Q Q':α->Shared->Prop}{M:Model}{A:Ww}{E:Wq}{s:Wu}(h:wpAny M A t Q E s)(hQ:∀a s,Q a s->Q' a s):wpAny M A t Q' E s:=YL h hQ fun _ _ x=>x
section
variable{X:Cx}
def BE(i:Nat):TE:=fun σ H Q=>∃v,σ[i]?=some (some v)/\Q v H
def tC(v:V):TE:=fun _ H Q=>Q v H
theorem tX{i:Nat}{x:Str}{pos:Pos}(hN:X.N[i]?=some x)(hv:Bk X.env.scope x)(hd:(x==("__debug__":Str))=false:=by decide)(hcd:(x==("__classdict__":Str))=false:=by decide):PE X (.Name x pos) (BE i):=by
 intro pins s σ H Q I h;obtain⟨v,e,h⟩:=h;obtain⟨m,b,d⟩:=I.loc;obtain⟨u,r,l⟩:=d i x v hN e hv;have a:EP X pins σ Q u s:=⟨v,H,I,r,h⟩;rcases l with⟨hk,hm⟩|⟨hk,c,hc,hcell⟩
 .exact wpAny_Name (wpAny_loadName_local I.ok.kind hk b hm a) hd
 .rcases hk with hk|hk
  .exact wpAny_Name (wpAny_loadName_cell I.ok.kind hk hc hcell a) hd
  .exact wpAny_Name (wpAny_loadName_free I.ok.kind hk hc hcell a hcd) hd
theorem WM{i j pos}:PE X (.Constant (.int i) j pos) (tC (.int i)):=fun _ _ _ H _ I h=>wpAny_Constant_int ⟨.int i,H,I.tok _,⟨_,rfl⟩,h⟩
theorem Mm{b j pos}:PE X (.Constant (.bool b) j pos) (tC (.bl b)):=fun _ _ _ H _ I h=>Constant_bool ⟨.bl b,H,I,rfl,h⟩
theorem RB{j pos}:PE X (.Constant .none j pos) (tC .non):=fun _ _ _ H _ I h=>Constant_none ⟨.non,H,I,rfl,h⟩
theorem JM{x j pos}:PE X (.Constant (.str x) j pos) (tC (.str x)):=fun _ _ _ H _ I h=>Calls.Constant_str ⟨.str x,H,I.tok _,⟨_,rfl⟩,h⟩
def Gl(X:Cx)(x:Str):Prop:=X.env.kindOf x=some .globalImplicit
theorem BS{E:Wq}{pins:Ws}{s:Wu}{σ:St}{H:Hp}{x:Str}{u:Wz}{pos:Pos}{Q:Wq}(I:WI X pins σ H s)(hg:Gl X x)(hm:X.mg x=some u)(h:Q u s)
  (hd:(x==("__debug__":Str))=false:=by decide):wpAny (model X.prog X.w) X.A (eval (.Name x pos) X.env) Q E s:=
 Vs I.ok.kind hg (Calls.loadGlobal_global (by rw[I.ok.glob];exact I.mod.glob.keeps I.bk) hm h) hd
theorem RZ{E:Wq}{pins:Ws}{s:Wu}{σ:St}{H:Hp}{x:Str}{u:Wz}{pos:Pos}{Q:Wq}(I:WI X pins σ H s)(hg:Gl X x)(hm:X.mg x=none)(hv:bootBuiltins x=some u)(h:Q u s)
  (hn:x≠"__name__":=by decide) (hd:(x==("__debug__":Str))=false:=by decide):wpAny (model X.prog X.w) X.A (eval (.Name x pos) X.env) Q E s:=by
 obtain⟨mb,h1,h2⟩:=I.mod.blt;exact Vs I.ok.kind hg (Calls.loadGlobal_builtin (by rw[I.ok.glob];exact I.mod.glob.keeps I.bk) hm (by rw[I.ok.blt];exact h1.keeps I.bk) ((h2 x hn).trans hv) h) hd
theorem IL{x:Str}{v:V}{u:Wz}{pos:Pos}(hg:Gl X x)(hm:X.mg x=some u)(r:WU v u)(hd:(x==("__debug__":Str))=false:=by decide):PE X (.Name x pos) (tC v):=
 fun _ _ _ H _ I h=>BS I hg hm ⟨v,H,I,r,h⟩ hd
theorem Ra{x:Str}{v:V}{u:Wz}{pos:Pos}(hg:Gl X x)(hm:X.mg x=none)(hv:bootBuiltins x=some u)(r:WU v u)(hn:x≠"__name__":=by decide)(hd:(x==("__debug__":Str))=false:=by decide):PE X (.Name x pos) (tC v):=
 fun _ _ _ H _ I h=>RZ I hg hm hv ⟨v,H,I,r,h⟩ hn hd
variable{a b:WE}{ta tb:TE}{pos:Pos}
def tB(t:TE):TT:=fun σ H Q=>t σ H fun x H1=>∃c,x= .bl c/\Q c H1
theorem wA{e:WE}{t:TE}(h:PE X e t)(he:∀whole,isTrue e X.env whole=(do let v <-whole;standAt e.pos;holding [v] (truthy v)):=by intro _;rfl):PT X e (tB t):=by
 intro pins s σ H Q I c;refine isTrue_plain (J8 (h pins s σ H _ I c) fun v s1 zz=>?_) (he _);rcases zz with⟨x,H1,f,a,b⟩;obtain⟨d,rfl,q⟩:=b;cases a;exact Xk ⟨H1,f,q⟩
variable{tA tB':TT}{Jf:List Expr}
def Fh(t u:TT):TT:=fun σ H Q=>t σ H fun c H1=>if c=true then u σ H1 Q else Q false H1
def HL(t u:TT):TT:=fun σ H Q=>t σ H fun c H1=>if c=true then Q true H1 else u σ H1 Q
def Ft(t:TT):TT:=fun σ H Q=>t σ H fun c H1=>Q (!c) H1
theorem Es(ha:PT X a tA):PW X (.BoolOp .And [a] pos) tA:=by
 intro b pins s σ H Q I h;refine isTrue_and (J8 (ha pins s σ H Q I h) fun c s1 e=>?_);cases c with
 |true=>exact isTrue_and_nil e
 |false=>exact e
theorem Gh(ha:PT X a tA):PW X (.BoolOp .Or [a] pos) tA:=by
 intro b pins s σ H Q I h;refine isTrue_or (J8 (ha pins s σ H Q I h) fun c s1 e=>?_);cases c with
 |false=>exact isTrue_or_nil e
 |true=>exact e
theorem RW(ha:PT X a tA)(hb:PW X (.BoolOp .And (b::Jf) pos) tB'):PW X (.BoolOp .And (a::b::Jf) pos) (Fh tA tB'):=by
 intro f pins s σ H Q I h;refine isTrue_and (J8 (ha pins s σ H _ I h) fun c s1 ⟨H1,e,d⟩=>?_);cases c with
 |true=>exact hb f pins s1 σ H1 Q e d
 |false=>exact⟨H1,e,d⟩
theorem DG(ha:PT X a tA)(hb:PW X (.BoolOp .Or (b::Jf) pos) tB'):PW X (.BoolOp .Or (a::b::Jf) pos) (HL tA tB'):=by
 intro f pins s σ H Q I h;refine isTrue_or (J8 (ha pins s σ H _ I h) fun c s1 ⟨H1,e,d⟩=>?_);cases c with
 |true=>exact⟨H1,e,d⟩
 |false=>exact hb f pins s1 σ H1 Q e d
theorem Tv(ha:PT X a tA):PT X (.UnaryOp .Not a pos) (Ft tA):=by
 intro pins s σ H Q I h;exact isTrue_not (ha pins s σ H (fun c H1=>Q (!c) H1) I h)
def EG(ta tb:TE):TE:=fun σ H Q=>ta σ H fun x H1=>∃c,x= .bl c/\if c=true then tb σ H1 Q else Q (.bl false) H1
def EN(ta tb:TE):TE:=fun σ H Q=>ta σ H fun x H1=>∃c,x= .bl c/\if c=true then Q (.bl true) H1 else tb σ H1 Q
def EO(ta:TE):TE:=fun σ H Q=>ta σ H fun x H1=>∃c,x= .bl c/\Q (.bl (!c)) H1
theorem Gn{op}{t:TE}(h:PE X a t):PE X (.BoolOp op [a] pos) t:=fun pins s σ H Q I b=>BoolOp_one (h pins s σ H Q I b)
theorem vG(ha:PE X a ta)(hb:PE X (.BoolOp .And (b::Jf) pos) tb):PE X (.BoolOp .And (a::b::Jf) pos) (EG ta tb):=by
 intro pins s σ H Q I h;refine BoolOp_and (J8 (ha pins s σ H _ I h) fun v s1 zz=>?_);rcases zz with⟨x,H1,e,f,d⟩;obtain⟨c,rfl,d⟩:=d;cases f;refine Xk ?_;cases c with
 |true=>exact hb pins s1 σ H1 Q e d
 |false=>exact⟨.bl false,H1,e,rfl,d⟩
theorem tL(ha:PE X a ta)(hb:PE X (.BoolOp .Or (b::Jf) pos) tb):PE X (.BoolOp .Or (a::b::Jf) pos) (EN ta tb):=by
 intro pins s σ H Q I h;refine BoolOp_or (J8 (ha pins s σ H _ I h) fun v s1 zz=>?_);rcases zz with⟨x,H1,e,f,d⟩;obtain⟨c,rfl,d⟩:=d;cases f;refine Xk ?_;cases c with
 |false=>exact hb pins s1 σ H1 Q e d
 |true=>exact⟨.bl true,H1,e,rfl,d⟩
theorem Sw(ha:PE X a ta):PE X (.UnaryOp .Not a pos) (EO ta):=by
 intro pins s σ H Q I h;refine UnaryOp_ (J8 (ha pins s σ H _ I h) fun v s1 zz=>?_);rcases zz with⟨x,H1,e,d,b⟩;obtain⟨c,rfl,b⟩:=b;cases d;exact not_of (Xk ⟨.bl (!c),H1,e,rfl,b⟩)
def ID(t:TT)(ta tb:TE):TE:=fun σ H Q=>t σ H fun c H1=>if c=true then ta σ H1 Q else tb σ H1 Q
theorem jV{c:WE}(hc:PT X c tA)(ha:PE X a ta)(hb:PE X b tb):PE X (.IfExp c a b pos) (ID tA ta tb):=by
 intro pins s σ H Q I h;refine wpAny_IfExp (J8 (hc pins s σ H _ I h) fun d s1 ⟨H1,f,e⟩=>?_);cases d with
 |true=>exact ha pins s1 σ H1 Q f e
 |false=>exact hb pins s1 σ H1 Q f e
end
def WJ(K:Wy)(H:Hp)(a:WA)(xs:List V):Prop:=
 Rd H a (.lst xs)\/
  ∃ (o:Obj) (its:Array Value) (n:Nat),K.lookup a=some o/\o.cls= .type "list"/\o.dict=none/\o.data= .seq its n/\its.size <=sizeLine/\WO xs its.toList
def N9(K:Wy)(H:Hp)(a:WA)(xs:List V):Prop:=
 Rd H a (.tup xs)\/
  ∃ (o:Obj) (its:Array Value) (n:Nat),K.lookup a=some o/\o.cls= .type "tuple"/\o.data= .seq its n/\its.size <=sizeLine/\WO xs its.toList
def xK:Value->Option V
 | .none=>some .non
 | .bool b=>some (.bl b)
 | .int i _=>some (.int i)
 | .str x _=>some (.str x)
 | .bytes b _=>some (.byt b)
 | .float b _=>some (.flt b)
 | .ref a=>some (.ref a)
 | .type n=>some (.ty n)
 |_=>none
theorem WU.abs{x:V}{u:Wz}(r:WU x u):xK u=some x:=by
 cases x with
 |non=>cases r;rfl
 |bl _=>cases r;rfl
 |int _=>obtain⟨t,rfl⟩:=r;rfl
 |str _=>obtain⟨t,rfl⟩:=r;rfl
 |byt _=>obtain⟨t,rfl⟩:=r;rfl
 |flt _=>obtain⟨t,rfl⟩:=r;rfl
 |ref _=>cases r;rfl
 |ty _=>cases r;rfl
theorem WU.inj{x y:V}{u:Wz}(r:WU x u)(q:WU y u):x=y:=Yn (r.abs.symm.trans q.abs)
theorem WO.inj:∀{xs ys:List V} {us:WC},WO xs us->WO ys us->xs=ys
 |_,_,_,.nil,.nil=>rfl
 |_,_,_,.cons r t,.cons r' t'=>by rw[r.inj r',WO.inj t t']
section
variable{X:Cx}{pins:Ws}{σ:St}{H:Hp}{s:Wu}{a:WA}{xs ys:List V}
theorem WJ.of{K:Wy}(h:H a=some (.lst xs)):WJ K H a xs:=.inl (.inl h)
theorem N9.of{K:Wy}(h:H a=some (.tup xs)):N9 K H a xs:=.inl (.inl h)
theorem WI.list(I:WI X pins σ H s)(h:WJ X.K H a xs):∃its:List Value,WO xs its/\PlainL s.heap a its.toArray/\xs.length <=sizeLine:=by
 rcases h with h|⟨o,its,n,hk,hc,hd,hs,hz,r⟩
 .obtain⟨z,its,n,r,e⟩:=h.ok I.hok;exact⟨its,r,⟨_,n,e,rfl,rfl,rfl⟩,z⟩
 .refine⟨its.toList,r,⟨o,n,I.kIn a o hk,hc,hd,by simpa using hs⟩,?_⟩;have e:=r.length;simp only[Array.length_toList]at e
  lia
theorem WI.tuple(I:WI X pins σ H s)(h:N9 X.K H a xs):∃its:List Value,WO xs its/\IsTup s.heap a its.toArray/\xs.length <=sizeLine:=by
 rcases h with h|⟨o,its,n,hk,hc,hs,hz,r⟩
 .obtain⟨z,its,r,p⟩:=h.ok I.hok;exact⟨its,r,p,z⟩
 .refine⟨its.toList,r,⟨o,I.kIn a o hk,hc,n,by simpa using hs⟩,?_⟩;have e:=r.length;simp only[Array.length_toList]at e
  lia
theorem WI.list_inj(I:WI X pins σ H s)(h:WJ X.K H a xs)(h':WJ X.K H a ys):xs=ys:=by
 obtain⟨c,r,⟨o,n,e,_,_,d⟩,_⟩:=I.list h;obtain⟨b,i,⟨o',j,f,_,_,g⟩,_⟩:=I.list h';rw[e]at f;cases f;rw[d]at g;injection g with d1 _;have:c=b:=by simpa using YB Array.toList d1
 subst this;exact r.inj i
end
abbrev Cx.wish(X:Cx)(E:Wq):Cx:={X with xe:=E}
abbrev Cx.nox(X:Cx):Cx:=X.wish fun _ _=>False
theorem Cx.Ok.wish{X:Cx}(ok:X.Ok)(E:Wq):(X.wish E).Ok:=
 ⟨ok.mod,ok.kind,ok.glob,ok.blt,ok.above,ok.inj,ok.has,ok.cab,ok.hd,ok.frames,ok.stk,ok.exf,ok.bs,ok.bsz,ok.noex,ok.exfs,ok.funs,ok.frf⟩
theorem Cx.Ok.unwish{X:Cx}{E:Wq}(ok:(X.wish E).Ok):X.Ok:=
 ⟨ok.mod,ok.kind,ok.glob,ok.blt,ok.above,ok.inj,ok.has,ok.cab,ok.hd,ok.frames,ok.stk,ok.exf,ok.bs,ok.bsz,ok.noex,ok.exfs,ok.funs,ok.frf⟩
section
variable{X:Cx}{pins:Ws}{σ:St}{H:Hp}{s:Wu}{E:Wq}
theorem WI.wish(I:WI X pins σ H s)(E:Wq):WI (X.wish E) pins σ H s:=⟨I.ok.wish E,I.os,I.bare,I.base,I.loc,I.cell,I.free,I.freeC,I.pin,I.hok,I.len⟩
theorem WI.unwish(I:WI (X.wish E) pins σ H s):WI X pins σ H s:=⟨I.ok.unwish,I.os,I.bare,I.base,I.loc,I.cell,I.free,I.freeC,I.pin,I.hok,I.len⟩
theorem SP.unwish{D:MQ}{f:Flow}{s':Wu}(h:SP (X.wish E) pins D f s'):SP X pins D f s':=by
 cases f with
 |next=>obtain⟨σ',H',I,q⟩:=h;exact⟨σ',H',I.unwish,q⟩
 |brk=>obtain⟨σ',H',I,q⟩:=h;exact⟨σ',H',I.unwish,q⟩
 |cont=>obtain⟨σ',H',I,q⟩:=h;exact⟨σ',H',I.unwish,q⟩
 |ret u=>obtain⟨v,σ',H',I,r,q⟩:=h;exact⟨v,σ',H',I.unwish,r,q⟩
theorem Mp.nox{st:List Stmt}{t:TS}(h:Mp X.nox st t):Mp X st t:=fun pins s σ H D I a=>
 YL (h pins s σ H D (I.wish _) a) (fun _ _ q=>q.unwish) fun _ _ z=>False.elim z
end
section
variable{X:Cx}{st:Stmt}{Jf:List Stmt}{t u:TS}{e:WE}{te:TE}{pos:Pos}
def KC:TS:=fun D σ H=>D.nx σ H
def Ad(t u:TS):TS:=fun D σ H=>t {D with nx:=u D} σ H
theorem NB:Mp X [] KC:=fun _ _ σ H _ I h=>V9 ⟨σ,H,I,h⟩
theorem WX(h1:PS X st t)(h2:Mp X Jf u):Mp X (st::Jf) (Ad t u):=by
 intro pins s σ H D I h;refine wpAny_execs_cons (J8 (h1 pins s σ H {D with nx:=u D} I h) fun f s1 q=>?_);cases f with
 |next=>
  obtain⟨σ',H',a,q⟩:=q;exact h2 pins s1 σ' H' D a q
 |ret v=>exact q
 |brk=>exact q
 |cont=>exact q
theorem Jg(h1:PS X st t):Mp X [st] t:=by
 intro pins s σ H D I h;refine wpAny_execs_cons (J8 (h1 pins s σ H D I h) fun f s1 q=>?_);cases f with
 |next=>exact V9 q
 |ret v=>exact q
 |brk=>exact q
 |cont=>exact q
theorem WI.quiet{pins:Ws}{σ:St}{H:Hp}{s:Wu}(I:WI X pins σ H s):interactive X.env=false:=by simp[interactive,I.ok.kind]
def F7(te:TE):TS:=fun D σ H=>te σ H fun _ H1=>D.nx σ H1
theorem Mn(he:PE X e te)(hs:swapsWith e none pos.line X.env=pure false:=by rfl):PS X (.Expr e pos) (F7 te):=by
 intro pins s σ H D I h;exact wpAny_Expr_any (J8 (he pins s σ H _ I h) fun v s1 zz=>by rcases zz with⟨x,H1,b,c,a⟩;exact ⟨σ,H1,b,a⟩) I.quiet hs
def AF(te:TE):TS:=fun D σ H=>te σ H D.rt
theorem JB(he:PE X e te):PS X (.Return (some e) pos) (AF te):=by
 intro pins s σ H D I h;exact wpAny_Return_some (J8 (he pins s σ H _ I h) fun v s1 zz=>by rcases zz with⟨x,H1,c,a,b⟩;exact ⟨x,σ,H1,c,a,b⟩)
def Gs(c:TT)(t u:TS):TS:=fun D σ H=>c σ H fun b H1=>if b=true then t D σ H1 else u D σ H1
theorem Ny{c:WE}{a b:List Stmt}{tc:TT}(hc:PT X c tc)(ha:Mp X a t)(hb:Mp X b u):PS X (.If c a b pos) (Gs tc t u):=by
 intro pins s σ H D I h;refine wpAny_If (J8 (hc pins s σ H _ I h) fun d s1 ⟨H1,f,e⟩=>?_);cases d with
 |true=>exact ha pins s1 σ H1 D f e
 |false=>exact hb pins s1 σ H1 D f e
def yS:TS:=fun _ _ _=>False
theorem DV{sts:List Stmt}:Mp X sts yS:=fun _ _ _ _ _ _ h=>h.elim
end
abbrev TG:=V->St->Hp->(St->Hp->Prop)->Prop
abbrev Ry:=List V->St->Hp->(St->Hp->Prop)->Prop
def PG(X:Cx)(target:WE)(t:TG):Prop:=
 ∀ (pins:Ws) (s:Wu) (σ:St) (H:Hp) (v:V) (u:Wz) (Q:St->Hp->Prop),WI X pins σ H s->WU v u->t v σ H Q->
  wpAny (model X.prog X.w) X.A (assign target X.env u) (fun _ s'=>∃σ' H',WI X pins σ' H' s'/\Q σ' H') X.xe s
def Bs(X:Cx)(ts:List Expr)(t:Ry):Prop:=
 ∀ (pins:Ws) (s:Wu) (σ:St) (H:Hp) (vs:List V) (us:WC) (Q:St->Hp->Prop),WI X pins σ H s->WO vs us->t vs σ H Q->
  wpAny (model X.prog X.w) X.A (assignInOrder ((assignEach ts X.env).map (·.2)) us) (fun _ s'=>∃σ' H',WI X pins σ' H' s'/\Q σ' H') X.xe s
abbrev Am:=V->V->V->Hp->(Hp->Prop)->Prop
def DM(X:Cx)(t:Am):Prop:=
 ∀ (pins:Ws) (s:Wu) (σ:St) (H:Hp) (o i v:V) (ov iv u:Wz) (Q:Hp->Prop),WI X pins σ H s->WU o ov->WU i iv->WU v u->t o i v H Q->
  wpAny (model X.prog X.w) X.A (setItem ov iv u) (fun _ s'=>∃H',WI X pins σ H' s'/\Q H') X.xe s
section
variable{X:Cx}{pos:Pos}
def GY(i:Nat):TG:=fun v σ H Q=>Q (σ.set i (some v)) H
theorem T3{i:Nat}{x:Str}(hN:X.N.Nodup)(hi:X.N[i]?=some x)(hx:RQ X.env.scope x)(hf:X.fn x=true\/X.env.scope.names.lookup x=some .local:=by first|exact .inl rfl|exact .inr rfl|assumption):PG X (.Name x pos) (GY i):=by
 intro pins s σ H v u Q I r h;exact wpAny_assign_Name (Hv I hN hi hx r (fun s' a=>⟨_,H,a,h⟩) hf)
def Fk:Ry:=fun vs σ H Q=>vs=[]/\Q σ H
def Hj(t:TG)(u:Ry):Ry:=fun vs σ H Q=>∃v r,vs=v::r/\t v σ H fun σ' H'=>u r σ' H' Q
theorem RY:Bs X [] Fk:=by
 intro pins s σ H vs a Q I r h;obtain⟨e,h⟩:=h;subst e;cases r;exact assignInOrder_nil ⟨σ,H,I,h⟩
theorem MK{e:WE}{es:List Expr}{t:TG}{u:Ry}(h1:PG X e t)(h2:Bs X es u)
  (hs:(assignEach (e::es) X.env).map (·.2)=assign e X.env::(assignEach es X.env).map (·.2):=by rfl):Bs X (e::es) (Hj t u):=by
 intro pins s σ H vs f Q I r h;obtain⟨v,d,b,h⟩:=h;subst b;cases r with
 |cons r rr=>
  rw[hs];refine assignInOrder_cons (J8 (h1 pins s σ H _ _ _ I r h) fun _ s1 zz=>?_);rcases zz with⟨σ1,H1,c,a⟩;exact h2 pins s1 σ1 H1 _ _ Q c rr a
def Cp(K:Wy)(n:Nat)(t:Ry):TG:=fun v σ H Q=>∃a xs,v= .ref a/\N9 K H a xs/\xs.length=n/\t xs σ H Q
theorem yG{es:List Expr}{k:Nat}{t:Ry}{n:Nat}(hc:X.calm=true)(h:Bs X es t)
  (hn:(assignEach es X.env).length=n:=by rfl) (hst:(assignEach es X.env).findIdx? (·.1)=none:=by rfl):PG X (.Tuple es k pos) (Cp X.K n t):=by
 intro pins s σ H v u Q I r c;obtain⟨a,xs,l,i,j,c⟩:=c;subst l;cases r;obtain⟨q,d,g,w⟩:=I.tuple i;refine assign_Tuple_tuple (I.ok.hd hc) g (by simp[hn,<-j,d.length]) hst fun h' f=>?_
 have p:WI X pins σ H {s with heap:=h'}:=I.kept (t':=s.toks) fun b o e=>f b o (Yr (Ye e)) e
 exact h pins _ σ H xs _ Q p (by simpa using d) c
def K5(to ti:TE)(t:Am):TG:=fun v σ H Q=>to σ H fun o H1=>ti σ H1 fun i H2=>t o i v H2 fun H3=>Q σ H3
theorem QS{o i:WE}{to ti:TE}{t:Am}(ho:PE X o to)(hi:PE X i ti)(hs:DM X t)
  (ha : ∀ v, assign (.Subscript o i pos) X.env v = (do
   let ov <-holding [v] (eval o X.env)
   let iv <-holding [v,ov] (eval i X.env)
   standAt pos
   holding [v,ov,iv] (setItem ov iv v)
   release [v, ov, iv] []) := by intro _; rfl) : PG X (.Subscript o i pos) (K5 to ti t) := by
 intro pins s σ H v u Q I r h;rw[ha];refine Y0 (X0 (J8 (ho pins s σ H _ I h) fun ov s1 zz=>?_));rcases zz with⟨x,H1,j,b,e⟩;refine Y0 (X0 (J8 (hi pins s1 σ H1 _ j e) fun iv s2 zz=>?_));rcases zz with⟨y,H2,g,a,d⟩;refine Y0 (Vt (Y0 (X0 (J8 (hs pins s2 σ H2 x y v ov iv u _ g b a r d) fun _ n ⟨l,f,c⟩=>?_))));exact wpAny_release ⟨σ,l,f,c⟩
def RK(te:TE)(g:TG):TS:=fun D σ H=>te σ H fun x H1=>g x σ H1 D.nx
theorem Qk{tg e:WE}{te:TE}{g:TG}(he:PE X e te)(hg:PG X tg g)(hs:swapsWithSole [tg] e pos.line X.env=pure false:=by rfl)(hw:swappedStores [tg] e X.env=pure none:=by rfl)
  (h1:(assignEach [tg] X.env).map (·.2)=[assign tg X.env]:=by rfl):PS X (.Assign [tg] e pos) (RK te g):=by
 intro pins s σ H D I h;refine wpAny_Assign_stores (J8 (he pins s σ H _ I h) fun v s1 zz=>?_) hs hw;rcases zz with⟨x,H1,c,a,b⟩;rw[h1];exact J8 (hg pins s1 σ H1 x v _ c a b) fun _ s2 q=>q
theorem D8{i:Nat}{x:Str}{e:WE}{te:TE}{pos':Pos}(hN:X.N.Nodup)(hi:X.N[i]?=some x)(hx:RQ X.env.scope x)(he:PE X e te)(hs:swapsWith e (some (.Name x pos')) pos.line X.env=pure false:=by rfl)(hf:X.fn x=true\/X.env.scope.names.lookup x=some .local:=by first|exact .inl rfl|exact .inr rfl|assumption):
  PS X (.Assign [.Name x pos'] e pos) (RK te (GY i)):=by
 intro pins s σ H D I h;refine wpAny_Assign_Name (J8 (he pins s σ H _ I h) fun v s1 zz=>?_) hs;rcases zz with⟨y,H1,d,a,b⟩;exact Hv d hN hi hx a (fun s2 c=>⟨_,H1,c,b⟩) hf
def Q9(c:TT)(tb:TS):TS:=fun D σ H=>∃W:Nat->St->Hp->Prop,(∃m,W m σ H)/\∀m σ H,W m σ H->
 c σ H fun b H1=>if b=true then ∃N:St->Hp->Prop,(∀σ' H',N σ' H'->∃m',m' < m/\W m' σ' H')/\tb {D with nx:=N,ct:=N,bk:=D.nx} σ H1 else D.nx σ H1
theorem Lo{c:WE}{body:List Stmt}{tc:TT}{tb:TS}(hp:PassesOwn (model X.prog X.w) X.A X.env X.xe)(hc:PT X c tc)(hb:Mp X body tb):PS X (.While c body [] pos) (Q9 tc tb):=by
 intro pins s σ H D I h;obtain⟨W,⟨z,u⟩,i⟩:=h;refine wpAny_While (codeAny_whileLoop (fun n s'=>∃σ' H',WI X pins σ' H' s'/\W n σ' H') ?_ z ⟨σ,H,I,u⟩);intro n s1 Zq;obtain⟨σ1,H1,I1,t⟩:=Zq;refine U4 hp (J8 (hc pins s1 σ1 H1 _ I1 (i n σ1 H1 t)) fun b s2 ⟨H2,r,e⟩=>?_);cases b with
 |true=>
  obtain⟨N,q,e⟩:=e;rw[Y9 rfl];refine U4 hp (J8 (hb pins s2 σ1 H2 _ r e) fun f s3 d=>?_);cases f with
  |next=>
   obtain⟨σ3,a,p,j⟩:=d;obtain⟨l,o,g⟩:=q σ3 a j;exact⟨l,o,σ3,a,p,g⟩
  |cont=>
   obtain⟨σ3,a,p,j⟩:=d;obtain⟨l,o,g⟩:=q σ3 a j;exact⟨l,o,σ3,a,p,g⟩
  |brk=>exact d
  |ret v=>exact d
 |false=>
  rw[Y3 Yv];exact V9 ⟨σ1,H2,r,e⟩
end
structure It where
 go:Nat->Hp->Prop
 yld:Nat->Hp->V->Hp->Prop
 stop:Nat->Hp->Prop
def TZ(X:Cx)(pins:Ws)(H:Hp)(b:WA):Prop:=
 H b=none/\b≠X.env.locals/\b∉X.fs/\(b∈X.ex\/X.s₀.heap.objs.size <=b)/\(∀x c,X.env.cells.lookup x=some c->c≠b)/\∀p∈X.pn++pins,p.1≠b
theorem WI.fpOk{X:Cx}{pins:Ws}{σ:St}{H H':Hp}{s:Wu}{b:WA}(I:WI X pins σ H s)(hb:s.heap.objs.size <=b)(hn:H' b=none):TZ X pins H' b:=by
 refine⟨hn,Nat.ne_of_gt (Yz I.lt hb),I.nofs hb,.inr (YW I.sz hb),fun x c e z=>?_,fun p a z=>?_⟩
 .obtain⟨v,q⟩:=I.cell x c e;exact absurd (Yz q.lt (by rw[z];exact hb)) (Xe _)
 .exact absurd (Yz (Ye (I.pin p a).1) (by rw[z];exact hb)) (Xe _)
structure El(P:Wt)(w:Wx)(K:Wy)(tg:WE)(J:It)(fp:List Addr)(it:WA)(tn:Nat->Heap->Prop):Prop where
 mem:it∈fp
 obj:∀i h,tn i h->∀b∈fp,∃o,h.get? b=some o/\∀v,o.data≠ .cell v
 keep:∀i h h',tn i h->(∀b∈fp,∀o,h.get? b=some o->h'.get? b=some o)->tn i h'
 item:∀ (X:Cx),X.prog=P->X.w=w->X.K=K->X.calm=true->∀ (i:Nat) (pins:Ws) (s:Wu) (σ:St) (H:Hp) (E:Wq),WI X pins σ H s->(∀b∈fp,TZ X pins H b)->tn i s.heap->J.go i H->
  wpAny (model P w) X.A (pyNext (.ref it)) (fun r s1 => ∃ u, r = some u /\
   wpAny (model P w) X.A (letOwnedTupleGo tg (.ref it) u) (fun _ s2 => ∃ x H', WI X pins σ H' s2 /\ WU x u /\ J.yld i H x H' /\ tn (i + 1) s2.heap /\ ∀ b ∈ fp, H' b = none) E s1) E s
 done:∀ (X:Cx),X.prog=P->X.w=w->X.K=K->X.calm=true->∀ (i:Nat) (pins:Ws) (s:Wu) (σ:St) (H:Hp) (E:Wq),WI X pins σ H s->(∀b∈fp,TZ X pins H b)->tn i s.heap->J.stop i H->
  wpAny (model P w) X.A (pyNext (.ref it)) (fun r s1=>r=none/\WI X pins σ H s1) E s
 self:∀ (A:Ww) (i:Nat) (s:Wu) (Q:Wq) (E:Wq),tn i s.heap->Q (.ref it) s->wpAny (model P w) A (pyIter (.ref it)) Q E s
abbrev TI:=St->Hp->(It->Hp->Prop)->Prop
def Q7(X:Cx)(pins:Ws)(σ:St)(tg:WE)(R:It->Hp->Prop)(itv:Wz)(s2:Wu):Prop:=
 ∃ (it:WA) (fp:List Addr) (tn:Nat->Heap->Prop) (J:It) (H':Hp),itv= .ref it/\WI X pins σ H' s2/\El X.prog X.w X.K tg J fp it tn/\tn 0 s2.heap/\(∀b∈fp,TZ X pins H' b)/\R J H'
def PI(X:Cx)(tg iter:WE)(wi:TI):Prop:=
 ∀ (pins:Ws) (s:Wu) (σ:St) (H:Hp) (R:It->Hp->Prop),WI X pins σ H s->wi σ H R->
  wpAny (model X.prog X.w) X.A (eval iter X.env) (fun v s1=>wpAny (model X.prog X.w) X.A (pyIter v) (Q7 X pins σ tg R) X.xe s1) X.xe s
theorem K6{M:Model}{A:Ww}{E:Wq}{s:Wu}{tg:WE}{it:WA}{u:Wz}{o:Obj}{n:String}{vs:Array Value}{Q:Wr}(ho:s.heap.get? it=some o)(hc:o.cls= .type n)(hd:o.data= .fields vs)
    (hn:["enumerate","zip","dict_itemiterator","dict_reverseitemiterator","odict_iterator","itertools.zip_longest","itertools.pairwise"].contains n=false) (hQ:Q () s):wpAny M A (letOwnedTupleGo tg (.ref it) u) Q E s:=by
  unfold letOwnedTupleGo
  cases tg <;> first
    |exact Y2 hQ
    | (cases u <;> first
        |exact Y2 hQ
        | (refine Y0 (Wd ho ?_)
           rw[hc,hd]
           show wpAny M A (if(["enumerate","zip","dict_itemiterator","dict_reverseitemiterator","odict_iterator","itertools.zip_longest","itertools.pairwise"].contains n && vs[0]?==some (rawInt _))=true then _ else _) Q E s
           rw[Y3 (by intro h;rw[hn,Uc]at h;cases h)]
           exact Y2 hQ))
def GH(K:Wy)(a:WA):It:=
 ⟨fun i H=>∃xs x,WJ K H a xs/\xs[i]?=some x,fun i H x H'=>H'=H/\∀xs,WJ K H a xs->xs[i]?=some x,fun i H=>∃xs,WJ K H a xs/\xs.length <=i⟩
def GZ(lo:Int)(n:Nat):It:=⟨fun i _=>i < n,fun i H x H'=>H'=H/\x= .int (lo+ i),fun i _=>n <=i⟩
theorem tE{P:Wt}{w:Wx}{K:Wy}{tg:WE}(a it:WA):El P w K tg (GH K a) [it] it (fun i h=>h.IsListIter it a i) where
 mem:=by simp
 obj:=fun i h st b f=>by
  have e:b=it:=by simpa using f
  subst e;obtain⟨o,e,c,d⟩:=st;exact⟨o,e,fun v z=>by rw[d]at z;cases z⟩
 keep:=fun i h h' st k=>st.at fun o e=>k it (by simp) o e
 item:=by
  intro X t q hK hc i pins s σ H E I hf st r;subst t q hK;obtain⟨xs,x,g,n⟩:=r;obtain⟨its,l,p,hz⟩:=I.list g;obtain⟨u,hu,ru⟩:=l.get n;obtain⟨f0,f1,f2,f3,f4,f5⟩:=hf it (by simp);refine wpAny_pyNext_list_item st p.isList (x:=u) (by simpa using hu) fun h' j sb=>?_
  have I1:WI X pins σ H {s with heap:=h'}:=I.turned (t':=s.toks) (fun b o f e=>(sb.2 b f).trans e) f0 f1 f3 f4 f5;obtain⟨o,e,c,d⟩:=id j;exact⟨u,rfl,K6 (s:={s with heap:=h'}) e c d (by decide) ⟨x,H,I1,ru,⟨rfl,fun ys hy=>by rw[I.list_inj hy g];exact n⟩,j,fun b f=>(hf b f).1⟩⟩
 done:=by
  intro X t q hK hc i pins s σ H E I hf st r;subst t q hK;obtain⟨xs,g,n⟩:=r;obtain⟨its,l,p,hz⟩:=I.list g;obtain⟨f0,f1,f2,f3,f4,f5⟩:=hf it (by simp);have hl:=l.length;exact wpAny_pyNext_list_end (I.ok.hd hc) st p.isList (by simp;lia) fun h' eb=>⟨rfl,I.turned (t':=s.toks) (fun b o f e=>eb b o f e) f0 f1 f3 f4 f5⟩
 self:=fun _ _ _ _ _ st h=>wpAny_pyIter_listiter st h
theorem wP{P:Wt}{w:Wx}{K:PySem.W.Frag}{tg:WE}(it:WA)(lo:Int)(n:Nat):El P w K tg (GZ lo n) [it] it (fun i h=>IsRangeIter h it (lo+ (i:Nat)*1) ((n:Int) - (i:Nat)) 1) where
 mem:=by simp
 obj:=fun i h st b a=>by
  have e:b=it:=by simpa using a
  subst e;exact ⟨_, st, fun v z => by
   have z' : Data.fields _ = Data.cell v := z;cases z'⟩
 keep:=fun i h h' st k=>k it (by simp) _ st
 item:=by
  intro X j d l g i pins s σ H E I hf st f;subst j d l;obtain⟨f0,u,f2,r,q,p⟩:=hf it (by simp);have W:=Walks.range (prog:=X.prog) (w:=X.w) (I.ok.hd g) it lo 1 n;refine W.item i s _ _ f st fun v h' tk hv c kk=>?_
  obtain⟨t,rfl⟩:=hv;have I1:WI X pins σ H {s with heap:=h',toks:=tk}:=I.turned (fun b o a e=>kk b o (by simpa using a) e) f0 u r q p;refine⟨_,rfl,K6 (s:={s with heap:=h',toks:=tk}) (n:="range_iterator") c rfl rfl (by decide) ⟨.int (lo+ i),H,I1,⟨t,?_⟩,⟨rfl,rfl⟩,c,fun b a=>(hf b a).1⟩⟩;rw[Int.mul_one]
 done:=by
  intro X j d l g i pins s σ H E I hf st f;subst j d l;obtain⟨f0,u,f2,r,q,p⟩:=hf it (by simp);exact wpAny_pyNext_range_end (I.ok.hd g) st (by have:n <=i:=f;lia) fun h' eb=>⟨rfl,I.turned (t':=s.toks) (fun b o a e=>eb b o a e) f0 u r q p⟩
 self:=fun _ _ _ _ _ st h=>wpAny_pyIter_rangeiter st h
section
variable{X:Cx}{tg:WE}
def RS(K:Wy)(tl:TE):TI:=fun σ H R=>tl σ H fun x H1=>∃a,x= .ref a/\(∃xs,WJ K H1 a xs)/\R (GH K a) H1
theorem uA{l:WE}{tl:TE}(hl:PE X l tl):PI X tg l (RS X.K tl):=by
 intro pins s σ H R I h;refine J8 (hl pins s σ H _ I h) fun v s1 zz=>?_;rcases zz with⟨x,H1,c,d,f⟩
 obtain⟨a,e,⟨xs,g⟩,q⟩:=f;subst e;cases d;obtain⟨j,n,p,r⟩:=c.list g;refine UT p.isList ?_;refine⟨s1.heap.objs.size,[s1.heap.objs.size],_,_,H1,rfl,c.kept (t':=s1.toks) fun b o e=>Y7 _ e,tE a _,⟨_,Yi _ rfl,rfl,rfl⟩,fun b i=>?_,q⟩;have e:b=s1.heap.objs.size:=by simpa using i
 subst e;exact c.fpOk (Y6 _) (c.hok.fresh (Y6 _))
theorem vW{pins:Ws}{σ:St}{H:Hp}{s:Wu}{R:It->Hp->Prop}{E:Wq}{lo hi:Int}{t u v:Tok}{tk:Nat}(I:WI X pins σ H s)(h1: -(2 ^ 62) <=lo)(h2:lo < 2 ^ 62)(h3: -(2 ^ 62) <=hi)(h4:hi < 2 ^ 62)
  (q:R (GZ lo (hi - lo).toNat) H):wpAny (model X.prog X.w) X.A (pyIter (.ref s.heap.objs.size)) (Q7 X pins σ tg R) E {s with heap:=s.heap.push {cls:=.type "range",data:=.fields #[.int lo t,.int hi u,.int 1 v]},toks:=tk}:=by
 refine wpAny_pyIter_range (IsRange.new ..) (small_one h1 h2 h3 h4) ?_;have a:WI X pins σ H {s with heap:=s.heap.push {cls:=.type "range",data:=.fields #[.int lo t,.int hi u,.int 1 v]},toks:=tk}:=I.kept fun b o e=>Y7 _ e
 refine ⟨(s.heap.push { cls := .type "range", data := .fields #[.int lo t, .int hi u, .int 1 v] }).objs.size, [(s.heap.push { cls := .type "range", data := .fields #[.int lo t, .int hi u, .int 1 v] }).objs.size], _, _, H, rfl,
  a.kept (t' := tk) fun b o e => Y7 _ e, wP _ lo (hi - lo).toNat, ?_, fun b c => ?_, q⟩
 .have f:lo+ ((0:Nat):Int)*1=lo:=by simp
  have d:(((hi - lo).toNat:Nat):Int) - ((0:Nat):Int)=Builtin.Range.rangeSize lo hi 1:=by rw[rangeSize_one];split <;> lia
  show IsRangeIter _ _ (lo+ ((0:Nat):Int)*1) ((((hi - lo).toNat:Nat):Int) - ((0:Nat):Int)) 1;rw[f,d];exact Yi _ rfl
 .have e:b=(s.heap.push {cls:=.type "range",data:=.fields #[.int lo t,.int hi u,.int 1 v]}).objs.size:=by simpa using c
  subst e;exact a.fpOk (Y6 _) (a.hok.fresh (Y6 _))
def EK(ta:TA):TI:=fun σ H R=>ta σ H fun vs H1=>∃j:Int,vs=[.int j]/\ -(2 ^ 62) <=j/\j < 2 ^ 62/\R (GZ 0 j.toNat) H1
theorem Qy{a:WE}{ta:TA}{p pos:Pos}(hg:Gl X "range")(hm:X.mg "range"=none)(ha:PA X [a] ta)(hs:starEach [a] X.env=[(false,eval a X.env)]:=by rfl):PI X tg (.Call (.Name "range" p) [a] [] pos) (EK ta):=by
 intro pins s σ H R I h;refine Call_ (RZ I hg hm boot_range (Uz (J8 (ha pos pins s σ H _ I h) fun g s1 zz=>?_) hs rfl));rcases zz with⟨vs,H1,f,c,b⟩;obtain⟨j,e,b,d,q⟩:=b;subst e;cases c with
 |cons r rr=>
  cases rr;obtain⟨t,rfl⟩:=r;exact call_range_1 (vW f (by lia) (by lia) b d (by simpa using q))
def P2(wi:TI)(g:TG)(tb:TS):TS:=fun D σ H=>wi σ H fun J H1=>∃W:Nat->Nat->St->Hp->Prop,(∃m,W 0 m σ H1)/\∀i m σ H,W i m σ H->
 (J.stop i H/\D.nx σ H)\/(J.go i H/\∃N:St->Hp->Prop,(∀σ' H',N σ' H'->∃m',m' < m/\W (i+ 1) m' σ' H')/\∀x H',J.yld i H x H'->g x σ H' fun σ2 H2=>tb {D with nx:=N,ct:=N,bk:=D.nx} σ2 H2)
def Ba(fp:List Addr)(h:WD):List (Addr×Obj):=fp.filterMap fun b=>(h.get? b).map fun o=>(b,o)
theorem Ac{fp:List Addr}{h:WD}{b:WA}{o:Obj}(hb:b∈fp)(e:h.get? b=some o):(b,o)∈Ba fp h:=List.mem_filterMap.mpr ⟨b,hb,by rw[e];rfl⟩
theorem yP{fp:List Addr}{h:WD}{p:Addr×Obj}(hp:p∈Ba fp h):p.1∈fp/\h.get? p.1=some p.2:=by
 obtain⟨b,a,e⟩:=List.mem_filterMap.mp hp;cases q:h.get? b with
 |none=>rw[q]at e;cases e
 |some o=>
  rw[q]at e;have c:(b,o)=p:=Yn e;subst c;exact⟨a,q⟩
theorem WI.pinned{pins:Ws}{σ:St}{H:Hp}{s:Wu}{fp:List Addr}(I:WI X pins σ H s)(hf:∀b∈fp,TZ X pins H b)(ho:∀b∈fp,∃o,s.heap.get? b=some o/\∀v,o.data≠ .cell v):WI X (pins++Ba fp s.heap) σ H s:=
 I.pins_of fun p f=>(Yb.mp f).elim (fun z=>I.pin p (Yx _ z)) fun z=>by
  obtain⟨a,e⟩:=yP z;obtain⟨i,h,g,_⟩:=hf p.1 a;obtain⟨o,c,d⟩:=ho p.1 a;rw[e]at c;cases c;exact⟨e,i,h,g,d⟩
theorem WI.unpinned{pins pl:Ws}{σ:St}{H:Hp}{s:Wu}(I:WI X (pins++pl) σ H s):WI X pins σ H s:=I.pins_of fun p a=>I.pin p (Yx _ (Xf _ a))
theorem Dz{iter:WE}{body:List Stmt}{wi:TI}{g:TG}{tb:TS}{pos:Pos}(hp:PassesOwn (model X.prog X.w) X.A X.env X.xe)(hc:X.calm=true)(hi:PI X tg iter wi)(hg:PG X tg g)(hb:Mp X body tb)
  (hs:∀x,foldedSetIterable iter X.env x=pure x:=by intro _;rfl):PS X (.For tg iter body [] pos) (P2 wi g tb):=by
 intro pins s σ H D I h;refine wpAny_For (J8 (hi pins s σ H _ I h) fun v s1 h1=>J8 h1 fun itv s2 h2=>?_) hs;obtain⟨it,fp,tn,J,H2,e,I2,T,st2,f2,W,⟨m0,w0⟩,ac⟩:=h2;subst e
 -- what stays true of the iterator's objects through the loop
 have l:∀{H':Hp},(∀b∈fp,H' b=none)->∀b∈fp,TZ X pins H' b:=fun hn b hb=>⟨hn b hb,(f2 b hb).2⟩
 refine codeAny_forLoop_any (fun n s'=>∃i σ' H',WI X pins σ' H' s'/\tn i s'.heap/\(∀b∈fp,H' b=none)/\W i n σ' H') ?_ m0 ⟨0,σ,H2,I2,st2,fun b hb=>(f2 b hb).1,w0⟩;intro n s3 Zq;obtain⟨i,σ3,z,I3,aa,ab,w3⟩:=Zq;rcases ac i n σ3 z w3 with⟨stop,qn⟩|⟨go,N,hN,step⟩
 .refine U4 hp (J8 (T.done X rfl rfl rfl hc i pins s3 σ3 z X.xe I3 (l ab) aa stop) fun r s4 ⟨hr,I4⟩=>?_);subst hr;exact V9 ⟨σ3,z,I4,qn⟩
 .refine U4 hp (J8 (T.item X rfl rfl rfl hc i pins s3 σ3 z X.xe I3 (l ab) aa go) fun r s4 ⟨u,hr,h4⟩=>?_);subst hr;refine U4 hp (J8 h4 fun _ s5 zz=>?_);rcases zz with⟨x,H5,I5,r5,y5,q,fr5⟩;have I5':=I5.pinned (l fr5) (T.obj _ _ q);refine U4 hp (J8 (hg _ s5 σ3 H5 x u _ I5' r5 (step x H5 y5)) fun _ s6 zz=>?_);rcases zz with⟨σ6,H6,I6,q6⟩;refine U4 hp (J8 (hb _ s6 σ6 H6 _ I6 q6) fun f s7 j=>?_);have p:∀{σ7:St} {c:Hp},WI X (pins++Ba fp s5.heap) σ7 c s7->N σ7 c->∃m,m < n/\∃i σ' H',WI X pins σ' H' s7/\tn i s7.heap/\(∀b∈fp,H' b=none)/\W i m σ' H':=fun {σ7 c} a t=>by
   obtain⟨m',hm,w7⟩:=hN σ7 c t;refine⟨m',hm,i+ 1,σ7,c,a.unpinned,T.keep _ _ _ q fun b hb o e=>(a.pin (b,o) (Yx _ (Yx _ (Ac hb e)))).1,fun b hb=>?_,w7⟩;obtain⟨o,e,d⟩:=T.obj _ _ q b hb;exact(a.pin (b,o) (Yx _ (Yx _ (Ac hb e)))).2.1
  cases f with
  |next=>obtain⟨σ7,c,a,t⟩:=j;exact p a t
  |cont=>obtain⟨σ7,c,a,t⟩:=j;exact p a t
  |brk=>obtain⟨σ7,c,a,j⟩:=j;exact⟨σ7,c,a.unpinned,j⟩
  |ret v=>obtain⟨x7,σ7,c,a,r7,j⟩:=j;exact⟨x7,σ7,c,a.unpinned,r7,j⟩
end
theorem jF{K:PySem.W.Frag}{a:WA}{xs:List V}{g:TG}{tb:TS}{D:MQ}{σ:St}{H:Hp}(Pv:Nat->St->Hp->Prop)(h0:Pv 0 σ H)(hl:∀i σ H,i <=xs.length->Pv i σ H->WJ K H a xs)
  (hs:∀i x σ H,xs[i]?=some x->Pv i σ H->g x σ H fun σ2 H2=>tb {D with nx:=Pv (i+ 1),ct:=Pv (i+ 1),bk:=D.nx} σ2 H2) (hd:∀σ H,Pv xs.length σ H->D.nx σ H):
  ∃W:Nat->Nat->St->Hp->Prop,(∃m,W 0 m σ H)/\∀i m σ H,W i m σ H->
   ((GH K a).stop i H/\D.nx σ H)\/((GH K a).go i H/\∃N:St->Hp->Prop,(∀σ' H',N σ' H'->∃m',m' < m/\W (i+ 1) m' σ' H')/\∀x H',(GH K a).yld i H x H'->g x σ H' fun σ2 H2=>tb {D with nx:=N,ct:=N,bk:=D.nx} σ2 H2):=by
 refine⟨fun i m σ H=>m=xs.length - i/\i <=xs.length/\Pv i σ H,⟨xs.length,by simp,Yj _,h0⟩,?_⟩;intro i m σ H Zq;obtain⟨rfl,hi,p⟩:=Zq;have q:=hl i σ H hi p
 by_cases hlt:i < xs.length
 .refine .inr ⟨⟨xs,xs[i],q,by simp[hlt]⟩,Pv (i+ 1),fun σ' H' b=>⟨xs.length - (i+ 1),by lia,rfl,hlt,b⟩,fun x H' y=>?_⟩;obtain⟨e,y⟩:=y;subst e;exact hs i x σ _ (y xs q) p
 .have e:i=xs.length:=by lia
  subst e;exact .inl ⟨⟨xs,q,Y6 _⟩,hd σ H p⟩
theorem uU{lo:Int}{n:Nat}{g:TG}{tb:TS}{D:MQ}{σ:St}{H:Hp}(Pv:Nat->St->Hp->Prop)(h0:Pv 0 σ H)
  (hs:∀i σ H,i < n->Pv i σ H->g (.int (lo+ i)) σ H fun σ2 H2=>tb {D with nx:=Pv (i+ 1),ct:=Pv (i+ 1),bk:=D.nx} σ2 H2) (hd:∀σ H,Pv n σ H->D.nx σ H):
  ∃W:Nat->Nat->St->Hp->Prop,(∃m,W 0 m σ H)/\∀i m σ H,W i m σ H->
   ((GZ lo n).stop i H/\D.nx σ H)\/((GZ lo n).go i H/\∃N:St->Hp->Prop,(∀σ' H',N σ' H'->∃m',m' < m/\W (i+ 1) m' σ' H')/\∀x H',(GZ lo n).yld i H x H'->g x σ H' fun σ2 H2=>tb {D with nx:=N,ct:=N,bk:=D.nx} σ2 H2):=by
 refine⟨fun i m σ H=>m=n - i/\i <=n/\Pv i σ H,⟨n,by simp,Yj _,h0⟩,?_⟩;intro i m σ H Zq;obtain⟨rfl,hi,p⟩:=Zq
 by_cases hlt:i < n
 .refine .inr ⟨hlt,Pv (i+ 1),fun σ' H' a=>⟨n - (i+ 1),by lia,rfl,hlt,a⟩,fun x H' y=>?_⟩;obtain⟨e,y⟩:=y;subst e y;exact hs i σ _ hlt p
 .have e:i=n:=by lia
  subst e;exact .inl ⟨Y6 _,hd σ H p⟩
abbrev R2:=V->V->Hp->VK->Prop
def JJ(X:Cx)(f:Value->Value->Sem Value)(r:R2):Prop:=
 ∀ (pins:Ws) (s:Wu) (σ:St) (H:Hp) (x y:V) (v u:Wz) (Q:VK),WI X pins σ H s->WU x v->WU y u->r x y H Q->
  wpAny (model X.prog X.w) X.A (f v u) (EP X pins σ Q) X.xe s
def Fn(X:Cx)(f:Value->Sem Value)(r:V->Hp->VK->Prop):Prop:=
 ∀ (pins:Ws) (s:Wu) (σ:St) (H:Hp) (x:V) (v:Wz) (Q:VK),WI X pins σ H s->WU x v->r x H Q->
  wpAny (model X.prog X.w) X.A (f v) (EP X pins σ Q) X.xe s
def J9(X:Cx)(f:Wz)(r:List V->Hp->VK->Prop):Prop:=
 ∀ (pins:Ws) (s:Wu) (σ:St) (H:Hp) (xs:List V) (us:WC) (Q:VK),WI X pins σ H s->WO xs us->r xs H Q->
  wpAny (model X.prog X.w) X.A (call f us) (EP X pins σ Q) X.xe s
def DI(r:R2)(ta tb:TE):TE:=fun σ H Q=>ta σ H fun x H1=>tb σ H1 fun y H2=>r x y H2 Q
def IE(r:V->Hp->VK->Prop)(ta:TE):TE:=fun σ H Q=>ta σ H fun x H1=>r x H1 Q
def rI(C:Int->Int->Prop)(g:Int->Int->V):R2:=fun x y H Q=>∃i j,x= .int i/\y= .int j/\C i j/\Q (g i j) H
def Gp(g:Int->Int->V):R2:=fun x y H Q=>∃i j,x= .int i/\y= .int j/\Q (g i j) H
def rU(g:Int->V):V->Hp->VK->Prop:=fun x H Q=>∃i,x= .int i/\Q (g i) H
section
variable{X:Cx}{a b c:WE}{ta tb tc:TE}{pos:Pos}
theorem K8(ha:PE X a ta)(hb:PE X b tb){pins:Ws}{s:Wu}{σ:St}{H:Hp}{R:V->V->Hp->Prop}(I:WI X pins σ H s)
  (h:ta σ H fun x H1=>tb σ H1 fun y H2=>R x y H2) {Q:Wq} {f:Value->Value->Sem Value}
  (hf:∀v u s2 x y H2,WI X pins σ H2 s2->WU x v->WU y u->R x y H2->wpAny (model X.prog X.w) X.A (f v u) Q X.xe s2):
  wpAny (model X.prog X.w) X.A (eval a X.env) (fun v s₁=>wpAny (model X.prog X.w) X.A (eval b X.env) (fun u s₂=>wpAny (model X.prog X.w) X.A (f v u) Q X.xe s₂) X.xe s₁) X.xe s:=by
 refine J8 (ha pins s σ H _ I h) fun v s1 zz=>?_;rcases zz with⟨x,H1,j,d,g⟩
 refine J8 (hb pins s1 σ H1 _ j g) fun u s2 zz=>?_;rcases zz with⟨y,H2,i,c,e⟩
 exact hf v u s2 x y H2 i d c e
theorem J0{op:Operator}{r:R2}(ho:JJ X (binaryOp op) r)(ha:PE X a ta)(hb:PE X b tb):PE X (.BinOp a op b pos) (DI r ta tb):=by
 intro pins s σ H Q I h;exact wpAny_BinOp (K8 ha hb I h fun v u s2 x y H2 c rx ry q=>ho pins s2 σ H2 x y v u Q c rx ry q)
theorem vB{op:UnaryOp}{r:V->Hp->VK->Prop}(ho:Fn X (unaryOp op) r)(ha:PE X a ta):PE X (.UnaryOp op a pos) (IE r ta):=by
 intro pins s σ H Q I h;exact UnaryOp_ (J8 (ha pins s σ H _ I h) fun v s1 zz=>by rcases zz with⟨x,H1,d,b,c⟩;exact ho pins s1 σ H1 x v Q d b c)
theorem Bi{f:Value->Value->Sem Value}{C:Int->Int->Prop}{g:Int->Int->Int}
  (rule:∀ (i j:Int) (t u:Tok) (s:Wu) (Q:Wq) (E:Wq),C i j->Q (.int (g i j) s.toks) {s with toks:=s.toks+ 1}->wpAny (model X.prog X.w) X.A (f (.int i t) (.int j u)) Q E s):
  JJ X f (rI C fun i j=>.int (g i j)):=by
 intro pins s σ H x y v u Q I rx ry h;obtain⟨i,j,rfl,rfl,b,q⟩:=h;obtain⟨t,rfl⟩:=rx;obtain⟨a,rfl⟩:=ry;exact rule i j t a s _ _ b ⟨.int (g i j),H,I.tok _,⟨_,rfl⟩,q⟩
theorem Lq{f:Value->Value->Sem Value}{g:Int->Int->Int}
  (rule:∀ (i j:Int) (t u:Tok) (s:Wu) (Q:Wq) (E:Wq),Q (.int (g i j) s.toks) {s with toks:=s.toks+ 1}->wpAny (model X.prog X.w) X.A (f (.int i t) (.int j u)) Q E s):
  JJ X f (Gp fun i j=>.int (g i j)):=by
 intro pins s σ H x y v u Q I rx ry h;obtain⟨i,j,rfl,rfl,q⟩:=h;obtain⟨t,rfl⟩:=rx;obtain⟨a,rfl⟩:=ry;exact rule i j t a s _ _ ⟨.int (g i j),H,I.tok _,⟨_,rfl⟩,q⟩
theorem AE{f:Value->Value->Sem Value}{g:Int->Int->Bool}
  (rule:∀ (i j:Int) (t u:Tok) (s:Wu) (Q:Wq) (E:Wq),Q (.bool (g i j)) s->wpAny (model X.prog X.w) X.A (f (.int i t) (.int j u)) Q E s):
  JJ X f (Gp fun i j=>.bl (g i j)):=by
 intro pins s σ H x y v u Q I rx ry h;obtain⟨i,j,rfl,rfl,q⟩:=h;obtain⟨t,rfl⟩:=rx;obtain⟨a,rfl⟩:=ry;exact rule i j t a s _ _ ⟨.bl (g i j),H,I,rfl,q⟩
def SJ(i j:Int):Prop:=0 < j/\j < 1073741824
def yO(i j:Int):Prop:=0 <=j/\j <=1000000/\i.natAbs < 2 ^ 64
def Gm(i j:Int):Prop:=(-(2 ^ 64) < i/\i < 2 ^ 64)\/(-(2 ^ 64) < j/\j < 2 ^ 64)
theorem Gm.ok{i j:Int}(h:Gm i j):IntMulOk i j:=by
 rcases h with⟨h1,h2⟩|⟨h1,h2⟩
 .exact .of_left (intBits_le_64 h1 h2)
 .exact .of_right (intBits_le_64 h1 h2)
theorem Nw:JJ X (binaryOp .Add) (Gp fun i j=>.int (i+ j)):=Lq fun _ _ _ _ _ _ _ q=>add_int q
theorem Bo:JJ X (binaryOp .Sub) (Gp fun i j=>.int (i - j)):=Lq fun _ _ _ _ _ _ _ q=>sub_int q
theorem GD:JJ X (binaryOp .Mult) (rI Gm fun i j=>.int (i*j)):=Bi fun _ _ _ _ _ _ _ a q=>mul_int q a.ok
theorem AL:JJ X (binaryOp .FloorDiv) (rI SJ fun i j=>.int (i / j)):=Bi fun i j _ _ _ _ _ a q=>by
 have h1:(0:Int) < j:=a.1;have h2:j < 1073741824:=a.2;exact floordiv_int (by lia) (by rw[Vu i (by lia)];exact q) (.inl (PyProof.noPylong_small (by lia)))
theorem Na:JJ X (binaryOp .Mod) (rI (fun _ j=>0 < j) fun i j=>.int (i%j)):=Bi fun i j _ _ _ _ _ a q=>by
 have h1:(0:Int) < j:=a;exact mod_int' (by lia) (by rw[Int.fmod_eq_emod_of_nonneg i (by lia)];exact q)
theorem P9:JJ X (binaryOp .Pow) (rI yO fun i j=>.int (i ^ j.toNat)):=Bi fun _ _ _ _ _ _ _ a q=>pow_int_small a.1 a.2.1 a.2.2 q
theorem tF{f:Value->Sem Value}{g:Int->Int}
  (rule:∀ (i:Int) (t:Tok) (s:Wu) (Q:Wq) (E:Wq),Q (.int (g i) s.toks) {s with toks:=s.toks+ 1}->wpAny (model X.prog X.w) X.A (f (.int i t)) Q E s):
  Fn X f (rU fun i=>.int (g i)):=by
 intro pins s σ H x v Q I rx h;obtain⟨i,rfl,q⟩:=h;obtain⟨t,rfl⟩:=rx;exact rule i t s _ _ ⟨.int (g i),H,I.tok _,⟨_,rfl⟩,q⟩
theorem wJ:Fn X (unaryOp .USub) (rU fun i=>.int (-i)):=tF fun _ _ _ _ _ q=>neg_int q
end
def ME:V->V->Bool
 | .non,.non=>true| .non,.int _=>true| .int _,.non=>true| .non,.bl _=>true| .bl _,.non=>true| .non,.str _=>true| .str _,.non=>true
 | .int _,.int _=>true| .bl _,.bl _=>true| .str _,.str _=>true| .byt _,.byt _=>true
 | .int _,.str _=>true| .str _,.int _=>true| .bl _,.str _=>true| .str _,.bl _=>true
 |_,_=>false
def BW:R2:=fun x y H Q=>ME x y=true/\Q (.bl (decide (x=y))) H
def Av:R2:=fun x y H Q=>ME x y=true/\Q (.bl (!decide (x=y))) H
theorem LI{i j:Int}:decide (V.int i=V.int j)=(i==j):=by
 rw[Xt];simp
theorem O7{i j:Bool}:decide (V.bl i=V.bl j)=(i==j):=by
 rw[Xt];simp
theorem O6{i j:Str}:decide (V.str i=V.str j)=(i==j):=by
 rw[Xt];simp
theorem Ob{i j:Array UInt8}:decide (V.byt i=V.byt j)=(i.toList==j.toList):=by
 rw[Xt];cases i;cases j;simp
section
variable{X:Cx}{a b c:WE}{ta tb tc:TE}{pos:Pos}
theorem Nx{pins:Ws}{σ:St}{H:Hp}{s:Wu}{Q:VK}{k k':Bool}(I:WI X pins σ H s)(q:Q (.bl k) H)(e:k=k'):EP X pins σ Q (.bool k') s:=by
 subst e;exact⟨.bl k,H,I,rfl,q⟩
theorem D9:JJ X (compareOp .Eq) BW:=by
 intro pins s σ H x y v u Q I rx ry h;obtain⟨hs,q⟩:=h;cases x with
 |non=>
  cases rx;cases y with
  |non=>cases ry;exact PySem.EqNone.eq_none_none (Nx I q (by simp))
  |bl j=>cases ry;exact PySem.EqNone.eq_none_bool (Nx I q (by simp))
  |int j=>obtain⟨a,rfl⟩:=ry;exact PySem.EqNone.eq_none_int (Nx I q (by simp))
  |str j=>obtain⟨a,rfl⟩:=ry;exact PySem.EqNone.eq_none_str (Nx I q (by simp))
  |_=>exact absurd (show false=true from hs) Yv
 |bl i=>
  cases rx;cases y with
  |non=>cases ry;exact PySem.EqNone.eq_bool_none (Nx I q (by simp))
  |bl j=>cases ry;exact eq_bool (Nx I q O7)
  |str j=>obtain⟨a,rfl⟩:=ry;exact PySem.EqMixed.eq_bool_str (Nx I q (by simp))
  |_=>exact absurd (show false=true from hs) Yv
 |int i=>
  obtain⟨t,rfl⟩:=rx;cases y with
  |non=>cases ry;exact PySem.EqNone.eq_int_none (Nx I q (by simp))
  |int j=>obtain⟨a,rfl⟩:=ry;exact eq_int (Nx I q LI)
  |str j=>obtain⟨a,rfl⟩:=ry;exact PySem.EqMixed.eq_int_str (Nx I q (by simp))
  |_=>exact absurd (show false=true from hs) Yv
 |str i=>
  obtain⟨t,rfl⟩:=rx;cases y with
  |non=>cases ry;exact PySem.EqNone.eq_str_none (Nx I q (by simp))
  |bl j=>cases ry;exact PySem.EqMixed.eq_str_bool (Nx I q (by simp))
  |int j=>obtain⟨a,rfl⟩:=ry;exact PySem.EqMixed.eq_str_int (Nx I q (by simp))
  |str j=>obtain⟨a,rfl⟩:=ry;exact eq_str (Nx I q O6)
  |_=>exact absurd (show false=true from hs) Yv
 |byt i=>
  obtain⟨t,rfl⟩:=rx;cases y with
  |byt j=>obtain⟨a,rfl⟩:=ry;exact W.eq_bytes (Nx I q Ob)
  |_=>exact absurd (show false=true from hs) Yv
 |_=>cases y <;> exact absurd (show false=true from hs) Yv
theorem Oh:JJ X (compareOp .NotEq) Av:=by
 intro pins s σ H x y v u Q I rx ry h;obtain⟨hs,q⟩:=h;cases x with
 |non=>
  cases rx;cases y with
  |non=>cases ry;exact PySem.EqNone.ne_none_none (Nx I q (by simp))
  |bl j=>cases ry;exact PySem.EqNone.ne_none_bool (Nx I q (by simp))
  |int j=>obtain⟨a,rfl⟩:=ry;exact PySem.EqNone.ne_none_int (Nx I q (by simp))
  |str j=>obtain⟨a,rfl⟩:=ry;exact PySem.EqNone.ne_none_str (Nx I q (by simp))
  |_=>exact absurd (show false=true from hs) Yv
 |bl i=>
  cases rx;cases y with
  |non=>cases ry;exact PySem.EqNone.ne_bool_none (Nx I q (by simp))
  |bl j=>cases ry;exact ne_bool (Nx I q (YB not O7))
  |str j=>obtain⟨a,rfl⟩:=ry;exact PySem.EqMixed.ne_bool_str (Nx I q (by simp))
  |_=>exact absurd (show false=true from hs) Yv
 |int i=>
  obtain⟨t,rfl⟩:=rx;cases y with
  |non=>cases ry;exact PySem.EqNone.ne_int_none (Nx I q (by simp))
  |int j=>obtain⟨a,rfl⟩:=ry;exact ne_int (Nx I q (YB not LI))
  |str j=>obtain⟨a,rfl⟩:=ry;exact PySem.EqMixed.ne_int_str (Nx I q (by simp))
  |_=>exact absurd (show false=true from hs) Yv
 |str i=>
  obtain⟨t,rfl⟩:=rx;cases y with
  |non=>cases ry;exact PySem.EqNone.ne_str_none (Nx I q (by simp))
  |bl j=>cases ry;exact PySem.EqMixed.ne_str_bool (Nx I q (by simp))
  |int j=>obtain⟨a,rfl⟩:=ry;exact PySem.EqMixed.ne_str_int (Nx I q (by simp))
  |str j=>obtain⟨a,rfl⟩:=ry;exact ne_str (Nx I q (YB not O6))
  |_=>exact absurd (show false=true from hs) Yv
 |byt i=>
  obtain⟨t,rfl⟩:=rx;cases y with
  |byt j=>obtain⟨a,rfl⟩:=ry;exact W.ne_bytes (Nx I q (YB not Ob))
  |_=>exact absurd (show false=true from hs) Yv
 |_=>cases y <;> exact absurd (show false=true from hs) Yv
theorem Aa:JJ X (compareOp .Lt) (Gp fun i j=>.bl (decide (i < j))):=AE fun _ _ _ _ _ _ _ q=>lt_int q
theorem Gz:JJ X (compareOp .LtE) (Gp fun i j=>.bl (decide (i <=j))):=AE fun _ _ _ _ _ _ _ q=>le_int q
theorem Rs:JJ X (compareOp .Gt) (Gp fun i j=>.bl (decide (j < i))):=AE fun _ _ _ _ _ _ _ q=>gt_int q
theorem O4:JJ X (compareOp .GtE) (Gp fun i j=>.bl (decide (j <=i))):=AE fun _ _ _ _ _ _ _ q=>ge_int q
theorem CV:JJ X (compareOp .Is) (fun x y H Q=>y= .non/\Q (.bl (decide (x= .non))) H):=by
 intro pins s σ H x y v u Q I rx ry h;obtain⟨rfl,q⟩:=h;cases ry;refine is_none_gen (Nx I q ?_);cases x <;> first
  |(cases rx;rfl)
  |(obtain⟨t,rfl⟩:=rx;rfl)
theorem Qf:JJ X (compareOp .IsNot) (fun x y H Q=>y= .non/\Q (.bl (!decide (x= .non))) H):=by
 intro pins s σ H x y v u Q I rx ry h;obtain⟨rfl,q⟩:=h;cases ry;refine isnot_none_gen (Nx I q ?_);cases x <;> first
  |(cases rx;rfl)
  |(obtain⟨t,rfl⟩:=rx;rfl)
theorem Mi(b:WE){op:CmpOp}(h:op≠ .In:=by decide)(h2:op≠ .NotIn:=by decide):behindInMarks op b=false:=by
 have c:(op==CmpOp.In)=false:=by cases op <;> first|rfl|exact absurd rfl h
 have a:(op==CmpOp.NotIn)=false:=by cases op <;> first|rfl|exact absurd rfl h2
 cases b <;> simp[behindInMarks,c,a]
theorem M8{op:CmpOp}{r:R2}(ho:JJ X (compareOp op) r)(ha:PE X a ta)(hb:PE X b tb)(hm:behindInMarks op b=false):PE X (.Compare a [op] [b] pos) (DI r ta tb):=by
 intro pins s σ H Q I h;exact wpAny_Compare1 (K8 ha hb I h fun v u s2 x y H2 c rx ry q=>ho pins s2 σ H2 x y v u Q c rx ry q) hm
def BH(t:TE):TT:=fun σ H Q=>t σ H fun x H'=>∃k,x= .bl k/\Q k H'
theorem vH{op:CmpOp}{r:R2}(ho:JJ X (compareOp op) r)(ha:PE X a ta)(hb:PE X b tb)(hm:behindInMarks op b=false):PT X (.Compare a [op] [b] pos) (BH (DI r ta tb)):=by
 intro pins s σ H Q I h;refine wpAny_isTrue_Compare1 (J8 (ha pins s σ H _ I h) fun v s1 ⟨x, H1, p, g, l⟩ => J8 (hb pins s1 σ H1 _ p l) fun u s2 ⟨y, H2, o, f, j⟩ =>
  J8 (ho pins s2 σ H2 x y v u _ o g f j) fun c t ⟨z, q, n, d, k, e, i⟩ => ?_) hm
 subst e;cases d;exact Xk ⟨q,n,i⟩
def Cv(r r':R2)(ta tb tc:TE):TE:=fun σ H Q=>ta σ H fun x H1=>tb σ H1 fun y H2=>r x y H2 fun z H3=>∃k,z= .bl k/\
 (if k=true then tc σ H3 fun w' H4=>r' y w' H4 Q else Q (.bl false) H3)
theorem Pn{op op':CmpOp}{r r':R2}(ho:JJ X (compareOp op) r)(ho':JJ X (compareOp op') r')(ha:PE X a ta)(hb:PE X b tb)(hc:PE X c tc)
  (hm:lastMarks [op,op'] [b,c]=false:=by with_unfolding_all rfl):PE X (.Compare a [op,op'] [b,c] pos) (Cv r r' ta tb tc):=by
 intro pins s σ H Q I h;refine Compare_chain (J8 (ha pins s σ H _ I h) fun v s1 ⟨x, H1, I1, w, q1⟩ => chain_link (J8 (hb pins s1 σ H1 _ I1 q1) fun u s2 ⟨y, H2, I2, f, q2⟩ =>
  J8 (ho pins s2 σ H2 x y v u _ I2 w f q2) fun d p ⟨z, j, i, t, k, e, g⟩ => ?_)) hm
 subst e;cases t;refine Xk ?_;cases k with
 |false=>exact ite_ff ⟨.bl false,j,i,rfl,g⟩
 |true=>exact ite_tt (chain_last (J8 (hc pins p σ j _ i g) fun n o zz=>by rcases zz with⟨l,H4,I4,q,q4⟩;exact ho' pins o σ H4 y l u n Q I4 f q q4))
theorem F9{op op':CmpOp}{r r':R2}(ho:JJ X (compareOp op) r)(ho':JJ X (compareOp op') r')(ha:PE X a ta)(hb:PE X b tb)(hc:PE X c tc)
  (hm:lastMarks [op,op'] [b,c]=false:=by with_unfolding_all rfl):PT X (.Compare a [op,op'] [b,c] pos) (BH (Cv r r' ta tb tc)):=by
 intro pins s σ H Q I h;refine isTrue_chain (J8 (ha pins s σ H _ I h) fun v s1 ⟨x, H1, I1, r1, q1⟩ => test_link (J8 (hb pins s1 σ H1 _ I1 q1) fun u s2 ⟨y, H2, I2, f, q2⟩ =>
  J8 (ho pins s2 σ H2 x y v u _ I2 r1 f q2) fun d p ⟨z, j, i, w, k, e, g⟩ => ?_)) hm
 subst e;cases w;refine Xk ?_;cases k with
 |false=>
  obtain⟨k',e',q'⟩:=g;cases e';exact ite_ff ⟨j,i,q'⟩
 |true=>
  refine ite_tt (test_last (J8 (hc pins p σ j _ i g) fun n o ⟨l,H4,I4,t,q4⟩=>J8 (ho' pins o σ H4 y l u n _ I4 f t q4) fun d' s5 zz=>?_));rcases zz with⟨z2,H5,I5,q,k2,e2,q5⟩;subst e2;cases q;exact Xk ⟨H5,I5,q5⟩
theorem Em:(sizeLine:Nat) < 2 ^ 63:=by rw[Yh];decide
theorem uV:JJ X (binaryOp .Add) (fun x y H Q=>∃i j,x= .str i/\y= .str j/\i.length+ j.length <=sizeLine/\Q (.str (i++j)) H):=by
 intro pins s σ H x y v u Q I rx ry h;obtain⟨i,j,rfl,rfl,b,q⟩:=h;obtain⟨t,rfl⟩:=rx;obtain⟨a,rfl⟩:=ry;exact add_str (fun a tk=>⟨.str (i++j),H,I.tok _,⟨_,rfl⟩,q⟩) b
theorem D4{x:V}{us:WC}(r:WO [x] us):∃u,us=[u]/\WU x u:=by
 cases r with
 |cons r1 r2=>cases r2;exact⟨_,rfl,r1⟩
theorem Qh{x y:V}{us:WC}(r:WO [x,y] us):∃u w',us=[u,w']/\WU x u/\WU y w':=by
 cases r with
 |cons r1 r2=>
  cases r2 with
  |cons r3 r4=>cases r4;exact⟨_,_,rfl,r1,r3⟩
theorem jE(hc:X.calm=true):J9 X (.builtin "max") (fun xs H Q=>∃i j,xs=[.int i,.int j]/\Q (.int (if j > i then j else i)) H):=by
 intro pins s σ H xs b Q I r h;obtain⟨i,j,rfl,q⟩:=h;obtain⟨u,a,rfl,⟨t,rfl⟩,⟨c,rfl⟩⟩:=Qh r;refine max_two_ints (I.ok.hd hc) fun h' tk k=>⟨_,H,I.kept k,?_,q⟩
 by_cases hj:j > i
 .rw[Y9 hj,Y9 hj];exact⟨_,rfl⟩
 .rw[Y3 hj,Y3 hj];exact⟨_,rfl⟩
theorem Ls:J9 X (.type "int") (fun xs H Q=>(∃i,xs=[.int i]/\Q (.int i) H)\/∃k,xs=[.bl k]/\Q (.int (if k then 1 else 0)) H):=by
 intro pins s σ H xs b Q I r h;rcases h with⟨i,rfl,q⟩|⟨k,rfl,q⟩
 .obtain⟨u,rfl,t,rfl⟩:=D4 r;exact call_int_int ⟨.int i,H,I,⟨_,rfl⟩,q⟩
 .obtain⟨u,rfl,a⟩:=D4 r;cases a;exact call_int_bool ⟨.int (if k then 1 else 0),H,I.tok _,⟨_,rfl⟩,q⟩
end
structure D2(h:WD)(x dx C:WA)(mA:Wp):Prop where
 obj:h.get? x=some (W.instObj C dx)
 ns:h.Ns1 dx mA
 ne:dx≠x
theorem SH{h:WD}{dx:WA}{mA:Wp}(n:h.Ns1 dx mA):∃od,h.get? dx=some od/\∀name,W.lookIn name od=some (mA name):=by
 obtain⟨o,es,ep,d,hd,g,_,f⟩:=n;refine⟨o,d,fun name=>?_⟩;have e:=f name;unfold nsFind findBy at e;rw[<-Array.find?_toList]at e;unfold W.lookIn;rw[hd];dsimp only
 split
 .rename_i y q
  rw[q]at e;exact YB some e
 .rename_i q
  rw[q]at e;have a:es.toList.any (·.refKey)=false:=by
   rw[List.any_eq_false];intro y c;obtain⟨z,t,b⟩:=g y (Array.mem_toList_iff.mp c);simp[DictEntry.refKey,b]
  have i:¬es.toList.any (·.refKey)=true:=by rw[a];exact Yv
  rw[Y3 i];exact YB some e
theorem D2.look{h:WD}{x dx C:WA}{mA:Wp}(I:D2 h x dx C mA):∃od,W.InstAt h x (W.instObj C dx) C (some od)/\∀name,W.lookIn name od=some (mA name):=
 let ⟨od,ho,hl⟩:=SH I.ns
 ⟨od,⟨I.obj,rfl,rfl,ho⟩,hl⟩
section
variable{prog:Wt}{w:Wx}{A:Ww}{E:Wq}{s:Wu}{K:Wy}{x dx C f:WA}{mA:Wp}{name:Str}{v:Wz}
theorem Se{expr:Bool}{Q:Wq}(X:K.In s.heap)(I:D2 s.heap x dx C mA)(hg:W.plainGet K C name=true)(hh:W.hasDictIn K C=true)
  (ha:W.findIn K (.ref C) name=some none) (hv:mA name=some v) (hv':W.handedIn v=true) (h:Q v {s with toks:=s.toks+ 1}):
  wpAny (model prog w) A (getAttr (.ref x) name expr) Q E s:=by
 obtain⟨b,J,a⟩:=I.look;exact W.get_value X J (W.plainGet_of hg).1 (W.findObj_own hh ha rfl (by rw[a,hv])) hv' h
theorem j9{pl:Sem Bool}{Q:Value×List Value->Shared->Prop}(X:K.In s.heap)(I:D2 s.heap x dx C mA)(hg:W.plainGet K C name=true)
  (hf:W.findIn K (.ref C) name=some (some (.ref f))) (ht:W.isFn K (.ref f)=true) (hv:mA name=none) (h:Q (.ref f,[.ref x]) s):
  wpAny (model prog w) A (getMethod (.ref x) name pl) Q E s:=by
 obtain⟨a,J,b⟩:=I.look;exact W.method_fn X J (W.plainGet_of hg).1 (W.plainGet_of hg).2 hf (Va.mp ht) (by show(W.lookIn name a).map (·.isSome)=some false;rw[b,hv];rfl) h
theorem Sq{ns:List Str}{Q:Wr}(X:K.In s.heap)(I:D2 s.heap x dx C mA)
  (hs:W.findIn K (.ref C) "__setattr__"=some (some (.builtin "object.__setattr__"))) (hp:W.plainOver K C=true) (ht:W.takerIn K C name=some none) (hh:W.hasDictIn K C=true)
  (hw:PySem.Within mA ns) (hsz:ns.length <=sizeLine)
  (h:∀h',D2 h' x dx C (fun y=>if y=name then some v else mA y)->Heap.SameBut dx s.heap h'->Q () {s with heap:=h',toks:=s.toks+ 2}):
  wpAny (model prog w) A (setAttr (.ref x) name v) Q E s:=by
 obtain⟨p,J,t⟩:=I.look;refine W.set_plain X J hs (W.osa_open (s:={s with toks:=s.toks+ 1}) (r:=none) X J hp ht fun b=>?_);obtain⟨u,l,g⟩:=W.any_some hh;have j:s.heap.get? x=some ⟨.ref C,some dx,.plain,#[]⟩:=I.obj;refine Y0 (Y2 (Y0 (Y0 (wpAny_loadPart j (Y0 (W.Looks.here (s:={s with toks:=s.toks+ 1}) (W.looks_clsIn X l) ?_))))));rw[g];refine Y2 (a:=some dx) (Y0 (Y2 (Y0 ?_)));refine wpAny_nsSet1 (s:={s with toks:=s.toks+ 1}) I.ns fun h' d c=>?_
 obtain⟨q,n,o,e,f,i⟩:=d.count (PySem.Within.cons name v hw);refine Y0 (wpAny_lookBehind e (by rw[f];exact pastItsLine_dict (YW i (by rw[List.length_cons];lia))) ?_);exact Y2 (h _ ⟨(c.2 _ (Ne.symm I.ne)).trans I.obj,d,I.ne⟩ c)
theorem P6{R:Result->Shared->Prop}{vs:WC}{kw:List (Str×Value)}(X:K.In s.heap)(hm:W.makesIn K C=true)
  (hi:W.findIn K (.ref C) "__init__"=some (some (.ref f))) (hf:W.typeIn K (.ref f)=some (.type "function"))
  (h : codeAny (model prog w) (A.under (.builtin "type.__call__" ⟨.ref C :: vs, kw⟩)) (.call (.ref f) ⟨.ref (s.heap.objs.size + 1) :: vs, kw⟩) (W.InitBack (s.heap.objs.size + 1) R)
   { s with heap := (s.heap.push W.emptyDict).push (W.instObj C s.heap.objs.size) }) :
  codeAny (model prog w) A (.call (.ref C) ⟨vs,kw⟩) R s:=by
 obtain⟨hh,g,d,t,b⟩:=s;exact W.make_core (W.makes_of X hm) (W.looks_findIn X hi) (fun a=>W.bind_fn X a hf) (.inl rfl) h
end
def N0(f:Str)(v:V):List (Str×V)->List (Str×V)
 |[]=>[(f,v)]
 |(g,x)::r=>if g=f then(g,v)::r else(g,x)::N0 f v r
theorem Cj(f g:Str)(v:V):∀fs:List (Str×V),(N0 f v fs).lookup g=if g=f then some v else fs.lookup g
 |[]=>by
  show List.lookup g [(f,v)]=_
  by_cases h:g=f
  .have hb:(g==f)=true:=Va.mpr h;simp only[List.lookup,hb,Y9 h]
  .have hb:(g==f)=false:=XW.mpr h;simp only[List.lookup,hb,Y3 h]
 |(k,x)::r=>by
  have a:=Cj f g v r;rw[show N0 f v ((k,x)::r)=(if k=f then(k,v)::r else(k,x)::N0 f v r) from rfl]
  by_cases hk:k=f
  .rw[Y9 hk]
   by_cases h:g=k
   .have hb:(g==k)=true:=Va.mpr h;simp only[List.lookup,hb,Y9 (h.trans hk)]
   .have hb:(g==k)=false:=XW.mpr h;simp only[List.lookup,hb,Y3 (fun e:g=f=>h (e.trans hk.symm))]
  .rw[Y3 hk]
   by_cases h:g=k
   .have hb:(g==k)=true:=Va.mpr h;simp only[List.lookup,hb,Y3 (fun e:g=f=>hk (h.symm.trans e))]
   .have hb:(g==k)=false:=XW.mpr h;simp only[List.lookup,hb];exact a
theorem F8(f:Str)(v:V):∀fs:List (Str×V),f∈(N0 f v fs).map (·.1)/\∀g,g∈fs.map (·.1)->g∈(N0 f v fs).map (·.1)
 |[]=>⟨by simp[N0],fun g h=>by simp at h⟩
 |(k,x)::r=>by
  obtain⟨i1,i2⟩:=F8 f v r;rw[show N0 f v ((k,x)::r)=(if k=f then(k,v)::r else(k,x)::N0 f v r) from rfl]
  by_cases hk:k=f
  .rw[Y9 hk];subst hk;exact⟨by simp,fun g h=>by simpa using h⟩
  .rw[Y3 hk];refine⟨?_,fun g h=>?_⟩
   .rw[List.map_cons];exact Yl _ i1
   .rw[List.map_cons]at h ⊢;rcases Yu.mp h with e|e
    .exact Yu.mpr (.inl e)
    .exact Yl _ (i2 g e)
theorem Hg(f:Str)(v:V):∀fs:List (Str×V),(N0 f v fs).length <=fs.length+ 1
 |[]=>by simp[N0]
 |(k,x)::r=>by
  have ih:=Hg f v r;rw[show N0 f v ((k,x)::r)=(if k=f then(k,v)::r else(k,x)::N0 f v r) from rfl]
  by_cases hk:k=f
  .rw[Y9 hk,List.length_cons,List.length_cons];lia
  .rw[Y3 hk,List.length_cons,List.length_cons];lia
theorem NQ.some_of{v:V}{o:Option Value}(r:NQ (some v) o):∃u,o=some u/\WU v u:=by
 cases o with
 |none=>exact(show False from r).elim
 |some u=>exact⟨u,rfl,r⟩
theorem NQ.none_of{o:Option Value}(r:NQ none o):o=none:=by
 cases o with
 |none=>rfl
 |some u=>exact(show False from r).elim
theorem yW{v:V}{u:Wz}(r:WU v u):W.handedIn u=true:=by
 cases v with
 |non=>cases (show u=Value.none from r);rfl
 |bl b=>cases (show u=Value.bool b from r);rfl
 |int i=>obtain⟨t,e⟩:=(show ∃t,u=Value.int i t from r);cases e;rfl
 |str x=>obtain⟨t,e⟩:=(show ∃t,u=Value.str x t from r);cases e;rfl
 |byt b=>obtain⟨t,e⟩:=(show ∃t,u=Value.bytes b t from r);cases e;rfl
 |flt b=>obtain⟨t,e⟩:=(show ∃t,u=Value.float b t from r);cases e;rfl
 |ref a=>cases (show u=Value.ref a from r);rfl
 |ty n=>cases (show u=Value.type n from r);rfl
section
variable{P:Wt}{w:Wx}{H H':Hp}{h h':WD}{a C dx:WA}{fs fs':List (Str×V)}
theorem CK(hok:No P w H h)(e:H a=some (.ins C dx fs)):∃mA,D2 h a dx C mA/\(∀f,NQ (fs.lookup f) (mA f))/\PySem.Within mA (fs.map (·.1))/\fs.length <=1000/\H dx=some (.own a):=by
 obtain⟨d,z,ne,b,mA,n,r,q⟩:=(show Jh P w H h a (.ins C dx fs) from hok a _ e);exact⟨mA,⟨b,n,ne⟩,r,q,z,d⟩
end
structure Mj(K:Wy)(C:WA):Prop where
 pg:W.plainGet K C Str.empty=true
 hd:W.hasDictIn K C=true
 po:W.plainOver K C=true
 sa:W.findIn K (.ref C) "__setattr__"=some (some (.builtin "object.__setattr__"))
theorem Mj.get{K:Wy}{C:WA}(c:Mj K C)(f:Str):W.plainGet K C f=true:=c.pg
def J2(K:Wy)(C:WA)(f:Str):Prop:=W.findIn K (.ref C) f=some none
theorem J2.taker{K:Wy}{C:WA}{f:Str}(n:J2 K C f):W.takerIn K C f=some none:=by
 unfold W.takerIn;rw[show W.findIn K (.ref C) f=some none from n];rfl
structure O3(K:Wy)(C:WA)(m:Str)(f:WA):Prop where
 at_:W.findIn K (.ref C) m=some (some (.ref f))
 fn:W.isFn K (.ref f)=true
 kp:W.keepIn K (.ref f)=true
section
variable{X:Cx}{pins:Ws}{σ:St}{H:Hp}{s:Wu}{a C dx:WA}{fs:List (Str×V)}{f:Str}{v:V}{A:Ww}{E:Wq}
theorem PL{b:Bool}{Q:Wq}(I:WI X pins σ H s)(e:H a=some (.ins C dx fs))(c:Mj X.K C)(n:J2 X.K C f)(l:fs.lookup f=some v)
  (h:∀u s',WI X pins σ H s'->WU v u->Q u s'):wpAny (model X.prog X.w) A (getAttr (.ref a) f b) Q E s:=by
 obtain⟨mA,O,r,_,_,_⟩:=CK I.hok e;obtain⟨u,g,d⟩:=NQ.some_of (v:=v) (o:=mA f) (by rw[<-l];exact r f);exact Se I.kIn O (c.get f) c.hd n g (yW d) (h u _ (I.tok _) d)
theorem OI{m:Str}{g:WA}{pl:Sem Bool}{Q:Value×List Value->Shared->Prop}(I:WI X pins σ H s)(e:H a=some (.ins C dx fs))(c:Mj X.K C)(k:O3 X.K C m g)(l:fs.lookup m=none)
  (h:Q (.ref g,[.ref a]) s):wpAny (model X.prog X.w) A (getMethod (.ref a) m pl) Q E s:=by
 obtain⟨mA,O,r,_,_,_⟩:=CK I.hok e;have b:mA m=none:=NQ.none_of (by rw[<-l];exact r m);exact j9 I.kIn O (c.get m) k.at_ k.fn b h
theorem LU{y:V}{u:Wz}{Q:Wr}(I:WI X pins σ H s)(e:H a=some (.ins C dx fs))(c:Mj X.K C)(n:J2 X.K C f)(hl:fs.length < 1000)(ry:WU y u)
  (h:∀s',WI X pins σ (upd H a (.ins C dx (N0 f y fs))) s'->Q () s'):wpAny (model X.prog X.w) A (setAttr (.ref a) f u) Q E s:=by
 obtain⟨mA,O,r,wi,_,i⟩:=CK I.hok e;have l:(fs.map (·.1)).length <=sizeLine:=by rw[Y1,Yh];lia
 refine Sq I.kIn O c.sa c.po n.taker c.hd wi l fun h' d j=>h _ ?_
 have hd:∃o,h'.get? dx=some o:=let ⟨o,_,_,e',_⟩:=d.ns;⟨o,e'⟩;refine I.write (x:=a) (e:=dx) (by rw[e];exact True.intro) (.inr i) (fun b q t z=>(j.2 b t).trans z) hd ?_;refine⟨by rw[Jb O.ne];exact i,?_,O.ne,d.obj,_,d.ns,fun g=>?_,fun g p=>?_⟩
 .have:=Hg f y fs;lia
 .show NQ ((N0 f y fs).lookup g) (if g=f then some u else mA g);rw[Cj]
  by_cases q:g=f
  .rw[Y9 q,Y9 q];exact ry
  .rw[Y3 q,Y3 q];exact r g
 .by_cases q:g=f
  .rw[q];exact(F8 f y fs).1
  .refine(F8 f y fs).2 g (wi g fun z=>p ?_);show(if g=f then some u else mA g)=none;rw[Y3 q];exact z
theorem WI.made(I:WI X pins σ H s):WI X pins σ (upd (upd H s.heap.objs.size (.own (s.heap.objs.size+ 1))) (s.heap.objs.size+ 1) (.ins C s.heap.objs.size []))
  {s with heap:=(s.heap.push W.emptyDict).push (W.instObj C s.heap.objs.size)}:=by
 have c:(s.heap.push W.emptyDict).get? s.heap.objs.size=some W.emptyDict:=Yi s.heap rfl;have h:((s.heap.push W.emptyDict).push (W.instObj C s.heap.objs.size)).get? (s.heap.objs.size+ 1)=some (W.instObj C s.heap.objs.size):=by
  have:=Yi (s.heap.push W.emptyDict) (o:=W.instObj C s.heap.objs.size) rfl;rwa [Ud]at this
 have g:(s.heap.push W.emptyDict).Ns s.heap.objs.size (fun _=>none):=⟨W.emptyDict,#[],_,c,rfl,(fun e f=>absurd f (by simp)),fun _=>rfl⟩;have i:=I.laid (a:=s.heap.objs.size) (o:=.own (s.heap.objs.size+ 1)) (h':=s.heap.push W.emptyDict) (t':=s.toks) (fun b u q=>Y7 _ q) (Y6 _) ⟨_,c⟩;refine i.laid (a:=s.heap.objs.size+ 1) (o:=.ins C s.heap.objs.size []) (t':=s.toks) (fun b u q=>Y7 _ q) (VJ (Ud _ _)) ?_;have ne:s.heap.objs.size≠s.heap.objs.size+ 1:=Yr (Ue _);refine⟨by rw[Jb ne,JD],Yj _,ne,h,fun _=>none,(Heap.Ns1.of_empty g).at fun o q=>Y7 _ q,fun _=>True.intro,fun y d=>absurd rfl d⟩
theorem Qm{prog:Wt}{w:Wx}{env:Env}{e:WE}{f:Str}{pos:Pos}{s:Wu}{Q:Wq}(hb:attributeBase e f env (eval e env)=eval e env)
  (h:wpAny (model prog w) A (eval e env) (fun o s₁=>wpAny (model prog w) A (getAttr o f true) Q E s₁) E s):wpAny (model prog w) A (eval (.Attribute e f pos) env) Q E s:=
 Attribute_any_ h (by rw[arm_eval_Attribute,hb])
end
def Aj(K:Wy)(ta:TE)(f:Str):TE:=fun σ H Q=>ta σ H fun x H1=>∃a C dx fs v,x= .ref a/\H1 a=some (.ins C dx fs)/\Mj K C/\J2 K C f/\fs.lookup f=some v/\Q v H1
def Cz(K:Wy)(ta tv:TE)(f:Str):TS:=fun D σ H=>tv σ H fun y H1=>ta σ H1 fun x H2=>∃a C dx fs,x= .ref a/\H2 a=some (.ins C dx fs)/\Mj K C/\J2 K C f/\fs.length < 1000/\
 D.nx σ (upd H2 a (.ins C dx (N0 f y fs)))
section
variable{X:Cx}{o e value:WE}{f:Str}{pos pos' tpos:Pos}{ta tv:TE}
theorem yU(he:PE X e ta)(hb:attributeBase e f X.env (eval e X.env)=eval e X.env):PE X (.Attribute e f pos) (Aj X.K ta f):=by
 intro pins s σ H Q I h;refine Qm hb (J8 (he pins s σ H _ I h) fun u s1 zz=>?_);rcases zz with⟨x,H1,i,rx,a,C,dx,fs,v,ex,d,c,n,l,q⟩;subst ex;obtain rfl:u=Value.ref a:=rx;exact PL i d c n l fun j s2 g b=>⟨v,H1,g,b,q⟩
theorem ZO(ha:PE X o ta)(hv:PE X value tv)(hs:swapsWith value (some (.Attribute o f pos')) pos.line X.env=pure false):PS X (.Assign [.Attribute o f pos'] value pos) (Cz X.K ta tv f):=by
 intro pins s σ H D I h;refine V8 (J8 (hv pins s σ H _ I h) fun u s1 ⟨y,H1,j,ry,q⟩=>J8 (ha pins s1 σ H1 _ j q) fun d s2 zz=>?_) hs;rcases zz with⟨x,H2,i,rx,a,C,dx,fs,ex,e,c,n,l,b⟩;subst ex;obtain rfl:d=Value.ref a:=rx;exact LU i e c n l ry fun p g=>⟨σ,_,g,b⟩
end
section
variable{X:Cx}{pins:Ws}{σ:St}{H:Hp}{s:Wu}{A:Ww}{E:Wq}{Q:Wq}{c:Wz}{b:Bool}
inductive Dk(K:Wy)(H:Hp):V->Value->Prop where
 |non:Dk K H .non (.type "NoneType")
 |bl (x:Bool):Dk K H (.bl x) (.type "bool")
 |int (i:Int):Dk K H (.int i) (.type "int")
 |str (x:Str):Dk K H (.str x) (.type "str")
 |flt (x:UInt64):Dk K H (.flt x) (.type "float")
 |lst {a:WA} {xs:List V} (e:H a=some (.lst xs)):Dk K H (.ref a) (.type "list")
 |frz {a:WA} {o:Obj} {xs:List V} (e:H a=some (.frz o (.lst xs))):Dk K H (.ref a) (.type "list")
 |tup {a:WA} {xs:List V} (e:H a=some (.tup xs)):Dk K H (.ref a) (.type "tuple")
 |dK {a:WA} {kvs:List (Jv×V)} (e:H a=some (.dK kvs)):Dk K H (.ref a) (.type "dict")
 |dT {a:WA} {kvs:List (List Jv×V)} (e:H a=some (.dT kvs)):Dk K H (.ref a) (.type "dict")
 |ins {a C dx:WA} {fs:List (Str×V)} (e:H a=some (.ins C dx fs)) (cl:Mj K C) (ha:W.findIn K (.ref C) "__class__"=some (some (.builtin "object.__class__")))
   (hn:W.specialIn K (.builtin "object.__class__") "__get__"=some (some (.builtin "getset_descriptor.__get__"))) (htk:W.takesIn K (.builtin "object.__class__")=some true)
   (hm:W.mroIn K C (.type "object")=some true):Dk K H (.ref a) (.ref C)
theorem wC{x:V}{u t:Wz}(I:WI X pins σ H s)(rx:WU x u)(ty:Dk X.K H x t)(e:W.kitOne X.K t c=some b)(h:∀tk,Q (.bool b) {s with toks:=tk}):
  wpAny (model X.prog X.w) A (call (.builtin "isinstance") [u,c]) Q E s:=by
 cases ty with
 |non=>cases (show u=Value.none from rx);exact Ub W.kitx_none I.kIn True.intro e (fun z=>nomatch z) h
 |bl y=>cases (show u=Value.bool y from rx);exact Ub W.kitx_bool I.kIn True.intro e (fun z=>nomatch z) h
 |int i=>obtain⟨t,q⟩:=(show ∃t,u=Value.int i t from rx);cases q;exact Ub W.kitx_int I.kIn True.intro e (fun z=>nomatch z) h
 |str y=>obtain⟨t,q⟩:=(show ∃t,u=Value.str y t from rx);cases q;exact Ub W.kitx_str I.kIn True.intro e (fun z=>nomatch z) h
 |flt y=>obtain⟨t,q⟩:=(show ∃t,u=Value.float y t from rx);cases q;exact Ub W.kitx_float I.kIn True.intro e (fun z=>nomatch z) h
 |@lst a xs ea=>
  cases (show u=Value.ref a from rx);obtain⟨_,_,n,_,h1⟩:=(show Jh X.prog X.w H s.heap a (.lst xs) from I.hok a _ ea);exact Ub W.kitx_list I.kIn ⟨_,h1,rfl⟩ e (fun z=>nomatch z) h
 |@frz a ob xs ea=>
  cases (show u=Value.ref a from rx);obtain⟨_,_,_,n,_,h1⟩:=(show Jh X.prog X.w H s.heap a (.frz ob (.lst xs)) from I.hok a _ ea);exact Ub W.kitx_list I.kIn ⟨_,h1,rfl⟩ e (fun z=>nomatch z) h
 |@tup a xs ea=>
  cases (show u=Value.ref a from rx);obtain⟨_,_,_,p⟩:=(show Jh X.prog X.w H s.heap a (.tup xs) from I.hok a _ ea);obtain⟨o,h1,h2,_⟩:=p;exact Ub W.kitx_tuple I.kIn ⟨o,h1,h2⟩ e (fun z=>nomatch z) h
 |@dK a kvs ea=>
  cases (show u=Value.ref a from rx);obtain⟨_,_,vs,_,p⟩:=(show Jh X.prog X.w H s.heap a (.dK kvs) from I.hok a _ ea);obtain⟨o,es,ep,h1,h2,_⟩:=p;exact Ub W.kitx_dict I.kIn ⟨o,h1,h2.1⟩ e (fun z=>nomatch z) h
 |@dT a kvs ea=>
  cases (show u=Value.ref a from rx);obtain⟨_,_,xs,_,o,es,ep,h1,h2,_⟩:=(show Jh X.prog X.w H s.heap a (.dT kvs) from I.hok a _ ea);exact Ub W.kitx_dict I.kIn ⟨o,h1,h2.1⟩ e (fun z=>nomatch z) h
 |@ins a C dx fs ea cl ha hn htk hm=>
  cases (show u=Value.ref a from rx);obtain⟨mA,O,_⟩:=CK I.hok ea;obtain⟨d,J,_⟩:=O.look;exact Ub (W.kitx_own (cl.get _) cl.hd ha hn htk hm) I.kIn J e (fun z=>nomatch z) h
end
structure WV(k:Nat)(A:Ww):Prop where
 hd:A.handled=none
 dp:A.depth+ 3*k+ 5 < recursionLimit
 un:A.units+ 16*k+ 200 < cLine
theorem WV.mono{j k:Nat}{A:Ww}(r:WV k A)(h:j <=k):WV j A:=⟨r.hd,by have:=r.dp;lia,by have:=r.un;lia⟩
theorem WV.deeper{k:Nat}{A:Ww}(r:WV (k+ 1) A)(env:Env):WV k (A.deeper env):=
 ⟨r.hd,by have:=r.dp;show A.depth+ 1+ 3*k+ 5 < _;lia,by have:=r.un;show A.units+ 3+ 16*k+ 200 < _;lia⟩
theorem WV.in1{k:Nat}{A:Ww}(r:WV (k+ 1) A):WV k A.in1:=
 ⟨r.hd,by have:=r.dp;show A.depth+ 3*k+ 5 < _;lia,by have:=r.un;show A.units+ 1+ 16*k+ 200 < _;lia⟩
theorem ZE{A:Ww}{C:WA}{us:WC}{kw:List (Str×Value)}:(A.under (.builtin "type.__call__" ⟨.ref C::us,kw⟩)).depth=A.depth+ 1:=by
 first|rfl|simp[Around.under,Code.weight,Code.isCreation,Code.isGuard,Code.isCaller,Code.frames,Code.isFrame,guardIds]
theorem QV{A:Ww}{C:WA}{us:WC}{kw:List (Str×Value)}:(A.under (.builtin "type.__call__" ⟨.ref C::us,kw⟩)).units=A.units+ 1:=by
 first|rfl|simp[Around.under,Code.cUnits,Code.frames,Code.isFrame]
theorem WV.make{k:Nat}{A:Ww}(r:WV (k+ 1) A)(C:WA)(us:WC)(kw:List (Str×Value)):WV k (A.under (.builtin "type.__call__" ⟨.ref C::us,kw⟩)):=
 ⟨r.hd,by have:=r.dp;rw[ZE];lia,by have:=r.un;rw[QV];lia⟩
theorem WV.depth{k:Nat}{A:Ww}(r:WV k A):A.depth < recursionLimit:=by have:=r.dp;lia
theorem WV.units{k:Nat}{A:Ww}(r:WV k A):A.units+ 64 < cLine:=by have:=r.un;lia
def Df:TA:=fun _ H Q=>Q [] H
def Ms(ta:TE)(tr:TA):TA:=fun σ H Q=>ta σ H fun x H1=>tr σ H1 fun xs H2=>Q (x::xs) H2
section
variable{X:Cx}{e:WE}{es:List Expr}{te:TE}{t:TA}{pos:Pos}
theorem WK:PA X [] Df:=fun _ _ _ _ H Q I h=>Calls.spliced_nil ⟨[],H,I,.nil,h⟩
theorem WW(ha:PE X e te)(hr:PA X es t)(hs:starEach (e::es) X.env=(false,eval e X.env)::starEach es X.env:=by rfl):PA X (e::es) (Ms te t):=by
 intro pos pins s σ H Q I h;rw[hs];show wpAny _ _ (spliced ((false,eval e X.env)::backTo pos (starEach es X.env))) _ _ s;refine Calls.spliced_cons (J8 (ha pins s σ H _ I h) fun u s1 zz=>?_);rcases zz with⟨x,H1,g,b,d⟩;exact J8 (hr pos pins s1 σ H1 _ g d) fun i s2 zz=>by rcases zz with⟨xs,H2,f,a,c⟩;exact ⟨x::xs,H2,f,.cons b a,c⟩
def HF(t:TA):TE:=fun σ H Q=>t σ H fun xs H1=>xs.length <=sizeLine/\∀p,H1 p=none->Q (.ref p) (upd H1 p (.tup xs))
theorem QL{x1}(h:PA X es t):PE X (.Tuple es x1 pos) (HF t):=by
 intro pins s σ H Q I d;refine wpAny_Tuple_spliced (J8 (h pos pins s σ H _ I d) fun c s1 ⟨xs,H1,a,r,z,q⟩=>⟨by rw[<-r.length];exact z,?_⟩);have hf:H1 s1.heap.objs.size=none:=a.hok.fresh (Y6 _);refine⟨.ref s1.heap.objs.size,upd H1 s1.heap.objs.size (.tup xs),a.laid (t':=s1.toks) (fun b u e=>Y7 _ e) (Y6 _) ?_,rfl,q _ hf⟩;exact⟨z,c,r,⟨_,Yi _ rfl,rfl,_,rfl⟩⟩
end
abbrev Sp:=List V->Hp->VK->XK->Prop
abbrev Gi:=List Env->Hp->Shared->XK->Value->Shared->Prop
structure Mv(P:Wt)(w:Wx)(K:Wy)(mg:Wp)(base:WD)(A:Ww)(outer:List Env)(s:Wu)(H:Hp):Prop where
 frames:A.frames=some outer
 mod:Mod K mg base
 bs:∀b o,base.get? b=some o->s.heap.get? b=some o/\H b=none
 bsz:base.objs.size <=s.heap.objs.size
 funs:s.heap.FunFrames base outer
 frf:∀b∈M9 outer,H b=none
 hok:No P w H s.heap
 bare:AllBare s.gens
def CE(outer:List Env)(P:Wt)(w:Wx)(H:Hp)(s:Wu)(Q:VK)(u:Wz)(s':Wu):Prop:=
 ∃v H',s'.os=s.os/\AllBare s'.gens/\Un (M9 outer) [] H H' s.heap s'.heap/\No P w H' s'.heap/\WU v u/\Q v H'
def CR(CX:Gi)(outer:List Env)(P:Wt)(w:Wx)(H:Hp)(s:Wu)(Q:VK)(E:XK)(r:Result)(s':Wu):Prop:=
 match r with
 | .ok (.ret u)=>CE outer P w H s Q u s'
 | .ok _=>False
 | .error e=>CX outer H s E e s'
structure WQ(P:Wt)(w:Wx)(K:Wy)(mg:Wp)(base:WD)(CX:Gi)(k:Nat)(f:WA)(fd:Wv)(ps:List Str)(sp:Sp):Prop where
 len:∀vs H Q E,sp vs H Q E->vs.length=ps.length
 run:∀ (A:Ww) (outer:List Env) (s:Wu) (H:Hp) (args:Args) (us:WC) (vs:List V) (Q:VK) (E:XK),WV k A->Mv P w K mg base A outer s H->BindsTo s fd args (ps.zip us)->WO vs us->sp vs H Q E->
  codeAny (model P w) A (.call (.ref f) args) (CR CX outer P w H s Q E) s
theorem WQ.imp{P:Wt}{w:Wx}{K:Wy}{mg:Wp}{base:WD}{CX:Gi}{k:Nat}{f:WA}{fd:Wv}{ps:List Str}{sp sp':Sp}(F:WQ P w K mg base CX k f fd ps sp)
  (h:∀vs H Q E,sp' vs H Q E->sp vs H Q E):WQ P w K mg base CX k f fd ps sp':=
 ⟨fun vs H Q E q=>F.len vs H Q E (h _ _ _ _ q),fun A a s H b c vs Q E e g i d hs=>F.run A a s H b c vs Q E e g i d (h _ _ _ _ hs)⟩
theorem Mv.make{P:Wt}{w:Wx}{K:Wy}{mg:Wp}{base:WD}{A:Ww}{outer:List Env}{s:Wu}{H:Hp}(e:Mv P w K mg base A outer s H)(C:WA)(us:WC)(kw:List (Str×Value)):
  Mv P w K mg base (A.under (.builtin "type.__call__" ⟨.ref C::us,kw⟩)) outer s H:=⟨by first|exact e.frames|(simpa[Around.under,Code.envs,Code.isFrame,pushEnvs] using e.frames),e.mod,e.bs,e.bsz,e.funs,e.frf,e.hok,e.bare⟩
section
variable{X:Cx}{pins:Ws}{σ:St}{H:Hp}{s s':Wu}
theorem WI.env0(I:WI X pins σ H s):Mv X.prog X.w X.K X.mg X.base X.A X.stack s H:=
 ⟨I.ok.frames,I.ok.mod,I.bs,YW I.ok.bsz I.sz,I.stack,I.stkFree,I.hok,I.bare⟩
theorem WI.after{Q:VK}{u:Wz}(I:WI X pins σ H s)(h:CE X.stack X.prog X.w H s Q u s'):EP X pins σ Q u s':=by
 obtain⟨v,H',os,a,un,e,r,q⟩:=h;obtain⟨hh,g,d,t,c⟩:=s';obtain rfl:c=s.os:=os;exact⟨v,H',I.call (h':=hh) (g':=g) (d':=d) (t':=t) (ch:=[]) un e a (fun b z=>absurd z (by simp)),r,q⟩
end
def Ee(sp:Sp)(dvs:List V)(E:XK)(t:TA):TE:=fun σ H Q=>t σ H fun vs H1=>sp (vs++dvs) H1 Q E
def NR(K:Wy)(fd:Wv)(ps:List Str)(ds:WC):Prop:=
 ∀ (s:Wu) (us:WC),K.In s.heap->(us++ds).length=ps.length->BindsTo s fd ⟨us,[]⟩ (ps.zip (us++ds))
theorem NR.all{K:Wy}{fd:Wv}{ps:List Str}(h:∀us:List Value,us.length=ps.length->bindArgs fd ⟨us,[]⟩=pure (ps.zip us)):NR K fd ps []:=fun s us _ a=>by
 rw[List.append_nil]at a ⊢;exact .of_eq (h us a)
def AD(CX:Gi)(X:Cx)(E:XK):Prop:=∀ (pins:Ws) (σ:St) (H:Hp) (s:Wu) (e:Wz) (s':Wu),WI X pins σ H s->CX X.stack H s E e s'->X.xe e s'
section
variable{X:Cx}{CX:Gi}{k:Nat}{f C:WA}{fd:Wv}{ps:List Str}{sp:Sp}{dvs:List V}{ds:WC}{E:XK}{x m:Str}{p pos apos:Pos}{e o:WE}{es:List Expr}{ta:TE}{t:TA}
theorem Hy{pins:Ws}{σ:St}{H:Hp}{s:Wu}{Q:VK}{us:WC}{vs:List V}(F:WQ X.prog X.w X.K X.mg X.base CX k f fd ps sp)(hr:WV k X.A)(hb:NR X.K fd ps ds)(hd:WO dvs ds)(hx:AD CX X E)
  (I:WI X pins σ H s) (r:WO vs us) (h:sp (vs++dvs) H Q E):wpAny (model X.prog X.w) X.A (call (.ref f) us) (EP X pins σ Q) X.xe s:=by
 have b:WO (vs++dvs) (us++ds):=r.append hd;have c:(us++ds).length=ps.length:=by rw[<-b.length];exact F.len _ _ _ _ h
 refine Vb (Uf (F.run X.A X.stack s H ⟨us,[]⟩ (us++ds) (vs++dvs) Q E hr I.env0 (hb s us I.kIn c) b h) fun r s' a=>?_);cases r with
 |error e=>exact hx pins σ H s e s' I a
 |ok fl=>
  cases fl with
  |ret u=>exact I.after a
  |next=>exact False.elim a
  |brk=>exact False.elim a
  |cont=>exact False.elim a
theorem jU(F:WQ X.prog X.w X.K X.mg X.base CX k f fd ps sp)(hr:WV k X.A)(hg:Gl X x)(hm:X.mg x=some (.ref f))(hk:W.keepIn X.K (.ref f)=true)(hb:NR X.K fd ps ds)(hd:WO dvs ds)(hx:AD CX X E)
  (ha:PA X (e::es) t) (hdb:(x==("__debug__":Str))=false:=by decide) (he:starEach (e::es) X.env=(false,eval e X.env)::starEach es X.env:=by rfl) (hpl:(backTo pos (starEach es X.env)).any (·.1)=false:=by rfl):
  PE X (.Call (.Name x p) (e::es) [] pos) (Ee sp dvs E t):=by
 intro pins s σ H Q I h;refine Xv (BS I hg hm ?_ hdb);refine W.callWith_K (h₀:=X.base) I.ok.mod.kin hk (J8 (ha pos pins s σ H _ I h) fun b s1 ⟨vs,H1,a,r,q⟩=>⟨a.kIn,?_⟩) he hpl;exact Hy F hr hb hd hx a r q
structure Mk(K:Wy)(C f:WA):Prop where
 makes:W.makesIn K C=true
 init:W.findIn K (.ref C) "__init__"=some (some (.ref f))
 fn:W.isFn K (.ref f)=true
 kp:W.keepIn K (.ref C)=true
theorem L8{pins:Ws}{σ:St}{H:Hp}{s:Wu}{Q:VK}{us:WC}{vs:List V}(M:Mk X.K C f)(F:WQ X.prog X.w X.K X.mg X.base CX k f fd ps sp)(hr:WV (k+ 1) X.A)(hb:NR X.K fd ps ds)(hd:WO dvs ds)
  (hx:AD CX X E) (I:WI X pins σ H s) (r:WO vs us)
  (h:∀x dx,H x=none->H dx=none->dx≠x->sp (.ref x::(vs++dvs)) (upd (upd H dx (.own x)) x (.ins C dx [])) (fun v H2=>v= .non/\Q (.ref x) H2) E):
  wpAny (model X.prog X.w) X.A (call (.ref C) us) (EP X pins σ Q) X.xe s:=by
 have d:=h (s.heap.objs.size+ 1) s.heap.objs.size (I.hok.fresh (XD _)) (I.hok.fresh (Y6 _)) (Yr (Ue _));have b:=WI.made (C:=C) I;have c:WO (V.ref (s.heap.objs.size+ 1)::(vs++dvs)) (Value.ref (s.heap.objs.size+ 1)::(us++ds)):=.cons rfl (r.append hd);have j:(Value.ref (s.heap.objs.size+ 1)::us++ds).length=ps.length:=by
  have e:=c.length;rw[F.len _ _ _ _ d]at e;exact e.symm
 refine Vb (P6 (f := f) I.kIn M.makes M.init (Va.mp M.fn) (Uf (F.run _ X.stack _ _ ⟨Value.ref (s.heap.objs.size + 1) :: us, []⟩ (Value.ref (s.heap.objs.size + 1) :: (us ++ ds)) _ _ E (hr.make C us [])
  (b.env0.make C us []) (hb _ (Value.ref (s.heap.objs.size + 1) :: us) b.kIn j) c d) fun r s' a => ?_))
 cases r with
 |error e=>exact hx pins σ _ _ e s' b a
 |ok fl=>
  cases fl with
  |ret u=>
   obtain⟨v,H',n,g,l,i⟩:=b.after a;subst l;exact⟨g,⟨V.ref (s.heap.objs.size+ 1),H',n,rfl,i⟩⟩
  |next=>exact False.elim a
  |brk=>exact False.elim a
  |cont=>exact False.elim a
end
def PK(X:Cx)(kws:List Keyword)(t:TA):Prop:=
 ∀ (pos:Pos) (pins:Ws) (s:Wu) (σ:St) (H:Hp) (Q:List V->Hp->Prop),WI X pins σ H s->t σ H Q->wpAny (model X.prog X.w) X.A (evalAll ((backToKw pos (keywordEach kws X.env)).map (·.2))) (AP X pins σ Q) X.xe s
section
variable{X:Cx}{CX:Gi}{k:Nat}{f C:WA}{fd:Wv}{ps ks:List Str}{sp:Sp}{E:XK}{x m:Str}{p pos apos kpos:Pos}{e o:WE}{es:List Expr}{kws:List Keyword}{te ta:TE}{t tk:TA}{nm:Option Str}
theorem Hm:PK X [] Df:=fun _ _ _ _ H Q I h=>wpAny_evalAll_nil ⟨[],H,I,.nil,h⟩
theorem Kb(ha:PE X e te)(hr:PK X kws t):PK X (⟨nm,e,kpos⟩::kws) (Ms te t):=by
 intro pos pins s σ H Q I h;show wpAny _ _ (evalAll ((do let v <-eval e X.env;standAt pos;pure v)::(backToKw pos (keywordEach kws X.env)).map (·.2))) _ _ s;refine wpAny_evalAll_cons (Y0 (J8 (ha pins s σ H _ I h) fun u s1 ⟨x,H1,g,b,d⟩=>Y0 (Vt (Y2 ?_))));exact J8 (hr pos pins s1 σ H1 _ g d) fun i s2 zz=>by rcases zz with⟨xs,H2,f,a,c⟩;exact ⟨x::xs,H2,f,.cons b a,c⟩
variable{g:List Value->List Value->List Value}{gV:List V->List V->List V}
end
structure JN(N P:List Str)(sc:Scope):Prop where
 kind:sc.kind= .function
 co:sc.isCoroutine=false
 gen:sc.isGenerator=false
 nd:N.Nodup
 pre:N.take P.length=P
 par:∀x∈P,sc.names.lookup x=some .local\/sc.names.lookup x=some .cell
 nofree:∀y∈sc.names,y.2≠ .free
theorem Oi{kindOf:Str->Option NameKind}{x:Str}:∀{binds:List (Str×Value)} {m:Wp},(∀v,(x,v)∉binds)->bindL kindOf binds m x=m x
 |[],_,_=>rfl
 |(n,v)::r,m,h=>by
  unfold bindL;rw[Oi fun w hw=>h w (Yl _ hw)]
  split
  .have:x≠n:=by rintro rfl;exact h v Ym
   simp[this]
  .rfl
theorem O0{kindOf:Str->Option NameKind}{x:Str}:∀{binds:List (Str×Value)} {m:Wp},(∀v,(x,v)∉binds)->bindC kindOf binds m x=m x
 |[],_,_=>rfl
 |(n,v)::r,m,h=>by
  unfold bindC;rw[O0 fun w hw=>h w (Yl _ hw)]
  split
  .rfl
  .have:x≠n:=by rintro rfl;exact h v Ym
   simp[this]
theorem Op{kindOf:Str->Option NameKind}{x:Str}{v:Wz}:∀{P:List Str} {vs:WC} {i:Nat} {m:Wp},P.Nodup->P[i]?=some x->vs[i]?=some v->kindOf x=some .local->
  bindL kindOf (P.zip vs) m x=some v
 |[],_,_,_,_,h,_,_=>by simp at h
 |_::_,[],_,_,_,_,h,_=>by simp at h
 |p::P,w::vs,0,m,nd,h1,h2,hk=>by
  simp at h1 h2;subst h1;subst h2;show bindL kindOf ((p,w)::P.zip vs) m p=_;unfold bindL;rw[Oi fun v hv=>(Xg.mp nd).1 (VZ hv).1,Y9 hk];simp
 |p::P,w::vs,i+ 1,m,nd,h1,h2,hk=>by
  show bindL kindOf ((p,w)::P.zip vs) m x=_;unfold bindL;exact Op (i:=i) (Xg.mp nd).2 (by simpa using h1) (by simpa using h2) hk
theorem PY{kindOf:Str->Option NameKind}{x:Str}{v:Wz}:∀{P:List Str} {vs:WC} {i:Nat} {m:Wp},P.Nodup->P[i]?=some x->vs[i]?=some v->kindOf x≠some .local->
  bindC kindOf (P.zip vs) m x=some v
 |[],_,_,_,_,h,_,_=>by simp at h
 |_::_,[],_,_,_,_,h,_=>by simp at h
 |p::P,w::vs,0,m,nd,h1,h2,hk=>by
  simp at h1 h2;subst h1;subst h2;show bindC kindOf ((p,w)::P.zip vs) m p=_;unfold bindC;rw[O0 fun v hv=>(Xg.mp nd).1 (VZ hv).1,Y3 hk];simp
 |p::P,w::vs,i+ 1,m,nd,h1,h2,hk=>by
  show bindC kindOf ((p,w)::P.zip vs) m x=_;unfold bindC;exact PY (i:=i) (Xg.mp nd).2 (by simpa using h1) (by simpa using h2) hk
def start(N:List Str)(vs:List V):St:=vs.map some++List.replicate (N.length - vs.length) none
def TQ(CX:Gi)(P:Wt)(w:Wx)(K:Wy)(mg:Wp)(base:WD)(N:List Str)(qual:Str)(scope:Scope)(f:WA)(cd:Wz)(A:Ww)(outer:List Env)(s:Wu)(H:Hp)(E:XK):Cx where
 prog:=P
 w:=w
 K:=K
 mg:=mg
 base:=base
 A:=A.deeper (envOfC qual scope s.heap.objs.size f cd)
 N:=N
 s₀:=s
 H₀:=H
 env:=envOfC qual scope s.heap.objs.size f cd
 outer:=outer
 stack:=envOfC qual scope s.heap.objs.size f cd::outer
 ex:=[]
 calm:=true
 fn:=fun _=>true
 pn:=[]
 xe:=fun e s'=>wpAny (model P w) (A.deeper (envOfC qual scope s.heap.objs.size f cd)) (leaving (envOfC qual scope s.heap.objs.size f cd) e) (fun _ s''=>CX outer H s E e s'') (fun e' s''=>CX outer H s E e' s'') s'
theorem OP{sc:Scope}{n:Nat}{x:Str}(h:sc.names.lookup x=some .cell):∃c,(cellsFrom n sc.names []).lookup x=some c:=by
 have q:=W.cellsFrom_some sc.names n [] (.inl h);exact Option.isSome_iff_exists.mp q
theorem uQ{CX:Gi}{P:Wt}{w:Wx}{K:Wy}{mg:Wp}{base:WD}{N ps:List Str}{qual:Str}{scope:Scope}{f:WA}{cd:Wz}{A:Ww}{outer:List Env}{s s1:Wu}{H:Hp}{E:XK}{us:WC}{vs:List V}
  (S:JN N ps scope) (hd:A.handled=none) (e0:Mv P w K mg base A outer s H) (hl:vs.length=ps.length) (r:WO vs us)
  (x:InCallC s s.heap.objs.size (bindL (envOfC qual scope s.heap.objs.size f cd).kindOf (ps.zip us) fun _=>none) (cellsFrom (s.heap.objs.size+ 1) scope.names []) (bindC (envOfC qual scope s.heap.objs.size f cd).kindOf (ps.zip us) fun _=>none) s1):
  WI (TQ CX P w K mg base N qual scope f cd A outer s H E) [] (start N vs) H s1:=by
 have hpl:ps.length <=N.length:=by have:=YB List.length S.pre;rw[YC]at this;lia
 obtain⟨h1,tk,rfl,t⟩:=x.done;have g:∀b:Addr,b∉(TQ CX P w K mg base N qual scope f cd A outer s H E).ex:=fun b z=>absurd (show b∈([]:List Addr) from z) (by simp)
 refine ⟨⟨e0.mod, S.kind, rfl, rfl, Y6 _, fun y z c h1 h2 => ?_, fun y d => ?_, fun y c _ h => ?_, fun _ => hd, Around.frames_deeper e0.frames, .inr ⟨rfl, rfl⟩, fun b z => absurd z (g b), e0.bs, e0.bsz, fun b _ _ => g b, fun b z => absurd z (g b), e0.funs, e0.frf⟩,
  rfl, e0.bare, Un.kept t, ⟨_, x.toInCall.ns, fun i y v h1 h2 h3 => ?_⟩, fun y c h => ⟨_, x.cell y c h⟩, e0.hok.fresh (Y6 _), fun y c h => ?_, fun p j => absurd (show p ∈ ([] : List (Addr × Obj)) from j) (by simp), e0.hok.kept t, ?_⟩
 .exact name_of_addr x.apart (Xs h1) (Xs h2)
 .have d:scope.names.lookup y=some .cell\/scope.names.lookup y=some .free:=d;rcases d with d|d
  .exact OP d
  .exact absurd rfl (S.nofree _ (Xs d))
 .exact XJ (x.above y c (Xs h))
 .have hi:i < vs.length:=by
   unfold start at h2
   by_cases hi:i < vs.length
   .exact hi
   .rw[Xp (by simpa using hi)]at h2;rw[List.getElem?_replicate]at h2
    split at h2 <;> cases h2
  have ha:vs[i]?=some v:=by
   unfold start at h2;rw[VF (by simpa using hi),Yf]at h2;cases e:vs[i]? with
   |none=>rw[e]at h2;cases h2
   |some a=>rw[e]at h2;cases h2;rfl
  obtain⟨u,o,rv⟩:=r.get ha;have j:ps[i]?=some y:=by
   rw[<-S.pre,List.getElem?_take_of_lt (by lia)];exact h1
  have l:ps.Nodup:=by rw[<-S.pre];exact S.nd.sublist (Us _ _)
  refine⟨u,rv,?_⟩;rcases S.par y (Ya j) with k|k
  .exact .inl ⟨k,Op l j o k⟩
  .obtain⟨c,e⟩:=OP (n:=s.heap.objs.size+ 1) k;refine .inr ⟨.inl k,c,e,?_⟩;have q:=x.cell y c e;rw[PY l j o (by show scope.names.lookup y≠_;rw[k];decide)]at q;exact q
 .exact e0.hok.fresh (XJ (x.above y c (Xs h)))
 .unfold start;show _=N.length;rw[List.length_append,Y1,W3]
  lia
theorem EJ{CX:Gi}{P:Wt}{w:Wx}{K:Wy}{mg:Wp}{base:WD}{k:Nat}{f:WA}{name qual:Str}{params:Arguments}{body:List Stmt}{scope:Scope}{dV kV doc pm cdv ct oc:Wz}{an od:Option Addr}
  {osl:Array (Option Value)} {N ps:List Str} {sp:Sp} (lk:K.lookup f=some ⟨oc,od,.func (W.fnOf name qual params body scope dV kV doc pm an cdv ct),osl⟩) (hcd:W.codeIn K cdv qual=true) (S:JN N ps scope)
  (len:∀vs H Q E,sp vs H Q E->vs.length=ps.length)
  (hbody : ∀ (A : Around) (outer : List Env) (s : Shared) (H : Hp) (vs : List V) (Q : VK) (E : XK), WV k (A.deeper (envOfC qual scope s.heap.objs.size f cdv)) -> sp vs H Q E ->
   ∃ t, Mp (TQ CX P w K mg base N qual scope f cdv A outer s H E) body t /\ t { nx := fun _ H' => Q .non H', rt := Q } (start N vs) H) :
  WQ P w K mg base CX (k+ 1) f (W.fnOf name qual params body scope dV kV doc pm an cdv ct) ps sp:=by
 refine⟨len,fun A outer s H args p vs Q E i a hb r d=>?_⟩;have hl:=len _ _ _ _ d;have l:K.In s.heap:=a.mod.kin.keeps fun b o e=>(a.bs b o e).1
 have j:s.heap.NoLimit:=a.mod.nolimit.keeps fun b o e=>(a.bs b o e).1
 have c:∀y∈ps.zip p,scope.names.lookup y.1=some .local\/(scope.names.lookup y.1=some .cell/\((cellsFrom (s.heap.objs.size+ 1) scope.names []).lookup y.1).isSome=true):=fun⟨n,v⟩ hy=>by
  rcases S.par n (VZ hy).1 with q|q
  .exact .inl q
  .exact .inr ⟨q,W.cellsFrom_some _ _ _ (.inl q)⟩
 refine codeAny_call_function i.depth (l _ _ lk) rfl S.co S.gen rfl (W.codeRec_of l hcd) (hb _ _ _ _ ?_);refine wpAny_newFunctionEnv_cells S.kind c fun env he s1 x=>?_
 subst he;refine⟨j.keeps x.toInCall.keep,codeAny_func ?_⟩;obtain⟨t,z,hq⟩:=hbody A outer s H vs Q E (i.deeper _) d;have I:WI (TQ CX P w K mg base N qual scope f cdv A outer s H E) [] (start N vs) H s1:=uQ S i.hd a hl r x;refine YL (z [] s1 (start N vs) H _ I hq) (fun fl s' hs=>?_) fun e s' hs=>hs
 have g:∀{σ':St} {H':Hp} {v:V} {u:Wz},WI (TQ CX P w K mg base N qual scope f cdv A outer s H E) [] σ' H' s'->WU v u->Q v H'->CE outer P w H s Q u s':=
  fun {σ' H' v u} J h q=>⟨v,H',J.os,J.bare,J.base,J.hok,h,q⟩
 cases fl with
 |ret u=>
  obtain⟨v,σ',H',J,h,q⟩:=hs;exact g J h q
 |next=>
  obtain⟨σ',H',J,q⟩:=hs;exact g (v:=V.non) (u:=Value.none) J rfl q
 |brk=>
  obtain⟨_,_,_,q⟩:=hs;exact False.elim q
 |cont=>
  obtain⟨_,_,_,q⟩:=hs;exact False.elim q
section
variable{X:Cx}{x:Str}{p pos:Pos}{e:WE}{es:List Expr}{t:TA}{id T:String}{r:List V->Hp->VK->Prop}
def B0(r:List V->Hp->VK->Prop)(t:TA):TE:=fun σ H Q=>t σ H fun vs H1=>r vs H1 Q
theorem yY(hc:J9 X (.builtin id) r)(hg:Gl X x)(hm:X.mg x=none)(hv:bootBuiltins x=some (.builtin id))(ha:PA X (e::es) t)(hn:x≠"__name__":=by decide)(hdb:(x==("__debug__":Str))=false:=by decide)
  (he:starEach (e::es) X.env=(false,eval e X.env)::starEach es X.env:=by rfl) (hpl:(backTo pos (starEach es X.env)).any (·.1)=false:=by rfl):PE X (.Call (.Name x p) (e::es) [] pos) (B0 r t):=by
 intro pins s σ H Q I h;refine Xv (RZ I hg hm hv ?_ hn hdb);exact PyProof.Rows.callWith_builtin1 (J8 (ha pos pins s σ H _ I h) fun a s1 zz=>by rcases zz with⟨vs,H1,d,b,c⟩;exact hc pins s1 σ H1 vs a Q d b c) he hpl
theorem R0(hc:J9 X (.type T) r)(hg:Gl X x)(hm:X.mg x=none)(hv:bootBuiltins x=some (.type T))(ha:PA X (e::es) t)(hn:x≠"__name__":=by decide)(hdb:(x==("__debug__":Str))=false:=by decide)
  (he:starEach (e::es) X.env=(false,eval e X.env)::starEach es X.env:=by rfl) (hpl:(backTo pos (starEach es X.env)).any (·.1)=false:=by rfl):PE X (.Call (.Name x p) (e::es) [] pos) (B0 r t):=by
 intro pins s σ H Q I h;refine Xv (RZ I hg hm hv ?_ hn hdb);exact Uz (J8 (ha pos pins s σ H _ I h) fun a s1 zz=>by rcases zz with⟨vs,H1,d,b,c⟩;exact hc pins s1 σ H1 vs a Q d b c) he hpl
end
end L2
namespace HT
open PySem PyProof.Rows
section
variable{prog:Wt}{w:Wx}{A:Ww}{E:Wq}{s:Wu}
def sIx(n d:Nat):Option Int->Nat
 |none=>d
 |some v=>if v < 0 then(v+ (n:Int)).toNat else min v.toNat n
theorem sIx_none(n d:Nat):sIx n d none=d:=rfl
theorem sIx_nat(n d k:Nat):sIx n d (some (k:Int))=min k n:=by
 show(if(k:Int) < 0 then((k:Int)+ (n:Int)).toNat else min (k:Int).toNat n)=min k n;rw[Y3 (by lia),Xl]
end
end HT
namespace L2
open PySem PySem.Spec PyProof.Rows
abbrev TO:=St->Hp->(Option Int->Hp->Prop)->Prop
def PO(X:Cx)(e:Option Expr)(t:TO):Prop:=
 ∀ (pins:Ws) (s:Wu) (σ:St) (H:Hp) (Q:Option Int->Hp->Prop),WI X pins σ H s->t σ H Q->
  wpAny (model X.prog X.w) X.A (evalPart e X.env) (fun u s'=>∃o H',WI X pins σ H' s'/\IsPart u o/\Q o H') X.xe s
def FY:TO:=fun _ H Q=>Q none H
def IX(t:TE):TO:=fun σ H Q=>t σ H fun x H1=>∃i,x= .int i/\Q (some i) H1
section
variable{X:Cx}{e:WE}{te:TE}{lo hi:Option Expr}{tl th:TO}{pos p2:Pos}
theorem jH:PO X none FY:=by
 intro pins s σ H Q I h;rw[evalPart_none];exact Y2 ⟨none,H,I,.none,h⟩
theorem RO(h:PE X e te):PO X (some e) (IX te):=by
 intro pins s σ H Q I c;rw[evalPart_some];refine J8 (h pins s σ H _ I c) fun u s1 zz=>?_;rcases zz with⟨x,H1,d,a,b⟩
 obtain⟨i,rfl,q⟩:=b;obtain⟨t,rfl⟩:=a;exact⟨some i,H1,d,.int i t,q⟩
def R7(X:Cx)(r:V->Option Int->Option Int->Hp->VK->Prop):Prop:=
 ∀ (pins:Ws) (s:Wu) (σ:St) (H:Hp) (x:V) (v vl vu:Wz) (lo hi:Option Int) (sl:WA) (Q:VK),WI X pins σ H s->WU x v->s.heap.IsSliceOf sl vl vu .none->IsPart vl lo->IsPart vu hi->r x lo hi H Q->
  ∃T id,typeLookup (.type T) "__getitem__"=pure (some (.builtin id))/\s.TypeIs v T/\wpAny (model X.prog X.w) X.A (getItem v (.ref sl)) (EP X pins σ Q) X.xe s
def HG(r:V->Option Int->Option Int->Hp->VK->Prop)(te:TE)(tl th:TO):TE:=fun σ H Q=>te σ H fun x H1=>tl σ H1 fun l H2=>th σ H2 fun u H3=>r x l u H3 Q
theorem Cw{r:V->Option Int->Option Int->Hp->VK->Prop}(hr:R7 X r)(he:PE X e te)(hl:PO X lo tl)(hu:PO X hi th):PE X (.Subscript e (.Slice lo hi none p2) pos) (HG r te tl th):=by
 intro pins s σ H Q I h;refine Subscript_ (J8 (he pins s σ H _ I h) fun v s1 zz=>?_);rcases zz with⟨x,H1,I1,g,n⟩;refine wpAny_Slice (J8 (hl pins s1 σ H1 _ I1 n) fun d s2 ⟨l,H2,I2,p,j⟩=>J8 (hu pins s2 σ H2 _ I2 j) fun c a zz=>?_);rcases zz with⟨u,f,I3,o,i⟩;rw[evalPart_none];refine Y2 ?_;have I4:WI X pins σ f {a with heap:=a.heap.push {cls:=.type "slice",data:=.fields #[d,c,.none]}}:=I3.kept (t':=a.toks) fun b ob q=>Y7 _ q
 obtain⟨T,id,hT,t,z⟩:=hr pins {a with heap:=a.heap.push {cls:=.type "slice",data:=.fields #[d,c,.none]}} σ f x v d c l u a.heap.objs.size Q I4 g (Heap.IsSliceOf.new ..) p o i;show wpAny (model X.prog X.w) X.A (subscriptTail e (.Slice lo hi none p2) v (.ref a.heap.objs.size)) (EP X pins σ Q) X.xe {a with heap:=a.heap.push {cls:=.type "slice",data:=.fields #[d,c,.none]}};exact tail_any (ops:=[.ref a.heap.objs.size,v]) t hT z (by with_unfolding_all rfl)
def DT(xs:List V)(lo hi:Option Int):List V:=(xs.drop (HT.sIx xs.length 0 lo)).take (HT.sIx xs.length xs.length hi - HT.sIx xs.length 0 lo)
theorem vA(xs:List V)(lo hi:Option Int):(DT xs lo hi).length <=xs.length:=by
 unfold DT;rw[YC,X9]
 lia
end
def DX(n:Nat)(i:Int):Option Nat:=if 0 <=i then(if i < n then some i.toNat else none) else if -(n:Int) <=i then some (i+ n).toNat else none
def Ts{α:Type}(xs:List α)(i:Int):Option α:=(DX xs.length i).bind fun j=>xs[j]?
theorem PV{n:Nat}{i:Int}{j:Nat}(h:DX n i=some j):seqIndex? i n=some j/\j < n/\ -(n:Int) <=i/\i < n:=by
 unfold DX at h
 by_cases h0:0 <=i
 .rw[Y9 h0]at h
  by_cases h1:i < n
  .rw[Y9 h1]at h;have e:i.toNat=j:=Yn h;exact⟨by rw[seqIndex_of h0 h1,e],by lia,by lia,h1⟩
  .rw[Y3 h1]at h;cases h
 .rw[Y3 h0]at h
  by_cases h1: -(n:Int) <=i
  .rw[Y9 h1]at h;have e:(i+ n).toNat=j:=Yn h;exact⟨by rw[seqIndex_neg (by lia) h1,e],by lia,h1,by lia⟩
  .rw[Y3 h1]at h;cases h
theorem IM{α:Type}{xs:List α}{i:Int}{v:α}(h:Ts xs i=some v):∃j,seqIndex? i xs.length=some j/\xs[j]?=some v/\j < xs.length/\ -(xs.length:Int) <=i/\i < xs.length:=by
 unfold Ts at h;cases e:DX xs.length i with
 |none=>rw[e]at h;cases h
 |some j=>
  rw[e]at h;obtain⟨h1,h2,b,a⟩:=PV e;exact⟨j,h1,h,h2,b,a⟩
theorem DY{α:Type}{xs:List α}{j:Nat}{v:α}(h:xs[j]?=some v):Ts xs (j:Int)=some v:=by
 have a:j < xs.length:=(Y4.mp h).1;have e:DX xs.length (j:Int)=some j:=by
  unfold DX;rw[Y9 (by lia),Y9 (by lia)];simp
 unfold Ts;rw[e];exact h
def Iu(b:WE):Prop:=∀o i,subscripted b false o i=operate [o,i] (getItem o i)
def DJ(X:Cx)(r:R2):Prop:=
 ∀ (value slice:WE) (pins:Ws) (s:Wu) (σ:St) (H:Hp) (x y:V) (v u:Wz) (Q:VK),WI X pins σ H s->WU x v->WU y u->r x y H Q->
  subscripted slice false v u=operate [v,u] (getItem v u)->wpAny (model X.prog X.w) X.A (subscriptTail value slice v u) (EP X pins σ Q) X.xe s
def CI(X:Cx)(id:String)(r:V->List V->Hp->VK->Prop):Prop:=
 ∀ (pins:Ws) (s:Wu) (σ:St) (H:Hp) (x:V) (xs:List V) (v:Wz) (us:WC) (Q:VK),WI X pins σ H s->WU x v->WO xs us->r x xs H Q->
  wpAny (model X.prog X.w) X.A (call (.builtin id) (v::us)) (EP X pins σ Q) X.xe s
section
variable{X:Cx}{a b:WE}{ta tb:TE}{pos:Pos}
theorem D1{r:R2}(hr:DJ X r)(ha:PE X a ta)(hb:PE X b tb)(hs:Iu b):PE X (.Subscript a b pos) (DI r ta tb):=by
 intro pins s σ H Q I h;exact Subscript_ (K8 ha hb I h fun v u s2 x y H2 c rx ry q=>hr a b pins s2 σ H2 x y v u Q c rx ry q (hs _ _))
def BC(K:Wy):R2:=fun x y H Q=>∃p xs i v,x= .ref p/\y= .int i/\WJ K H p xs/\Ts xs i=some v/\Q v H
def EQ(K:Wy):R2:=fun x y H Q=>∃p xs i v,x= .ref p/\y= .int i/\N9 K H p xs/\Ts xs i=some v/\Q v H
def Bb:R2:=fun x y H Q=>∃z i c,x= .str z/\y= .int i/\z.length <=sizeLine/\Ts z.cps.toList i=some c/\Q (.str ⟨#[c]⟩) H
theorem t9:DJ X (BC X.K):=by
 intro value g pins s σ H x y v u Q I rx ry h hs;obtain⟨p,xs,i,z,rfl,rfl,l,o,q⟩:=h;cases rx;obtain⟨t,rfl⟩:=ry;obtain⟨e,r,b,hz⟩:=I.list l;obtain⟨j,h1,h2,h3,h4,h5⟩:=IM o;obtain⟨w,f,d⟩:=r.get h2;have n:=r.length;have hn:=Em;have a:EP X pins σ Q w s:=⟨z,H,I,d,q⟩
 by_cases h0:0 <=i
 .have c:i.toNat=j:=by
   rw[seqIndex_of h0 h5]at h1;exact Yn h1
  exact item_listR b.isList h0 (by lia) (by rw[c];simpa using f) a hs
 .have c:(i+ (e.toArray.size:Int)).toNat=j:=by
   rw[seqIndex_neg (by lia) h4]at h1;rw[Yc,<-n];exact Yn h1
  exact subscriptTail_builtinR (x:=w) b.isList.typeIs slot_list_getitem.lookup
   (wpAny_getItem_list_neg (Q:=fun r s'=>r=w/\EP X pins σ Q r s') b.isList (by lia) (by rw[Yc] <;> lia) (by lia) (by rw[c];simpa using f) ⟨rfl,a⟩) hs
theorem xU:DJ X (EQ X.K):=by
 intro value d pins s σ H x y v u Q I rx ry h hs;obtain⟨p,xs,i,z,rfl,rfl,e,g,q⟩:=h;cases rx;obtain⟨t,rfl⟩:=ry;obtain⟨n,r,b,o⟩:=I.tuple e;obtain⟨j,h1,h2,h3,h4,h5⟩:=IM g;obtain⟨w,l,a⟩:=r.get h2;have f:=r.length;have hn:=Em;have c:EP X pins σ Q w s:=⟨z,H,I,a,q⟩;exact subscriptTail_builtinR (x:=w) b.typeIs slot_tuple_getitem.lookup
  (getItem_tuple (j:=j) (Q:=fun r s'=>r=w/\EP X pins σ Q r s') b (by lia) (by lia) (by rw[Yc,<-f];exact h1) (by simpa using l) ⟨rfl,c⟩) hs
theorem LO:DJ X Bb:=by
 intro value a pins s σ H x y v u Q I rx ry h hs;obtain⟨z,i,c,rfl,rfl,o,d,q⟩:=h;obtain⟨t,rfl⟩:=rx;obtain⟨n,rfl⟩:=ry;obtain⟨j,h1,h2,r,f,e⟩:=IM d;have b:z.cps.toList.length=z.length:=by simp[Str.length]
 rw [b] at h1 f e;have p := Em;exact tail_any (typeIs_str s z t) slot_str_getitem.lookup (getItem_str (c := c) (by
  have l : decide (i < -(2 ^ 63 : Int)) = false := Ys (by lia);have g : decide (i ≥ 2 ^ 63) = false := Ys (by lia);rw [l, g, Vv]) (by rw [h1]; simpa using h2) ⟨.str ⟨#[c]⟩, H, I.tok _, ⟨_, rfl⟩, q⟩) hs
theorem vT(its:WC)(n j:Nat)(u:Wz):Obj.mapSeq (·.setIfInBounds j u) {cls:=.type "list",data:=.seq its.toArray n}={cls:=.type "list",data:=.seq (its.set j u).toArray n}:=by
 simp[Obj.mapSeq]
theorem WI.lst{pins:Ws}{σ:St}{H:Hp}{s:Wu}{p:WA}{xs:List V}(I:WI X pins σ H s)(h:H p=some (.lst xs)):
  ∃ (its:WC) (n:Nat),WO xs its/\s.heap.get? p=some {cls:=.type "list",data:=.seq its.toArray n}/\xs.length <=sizeLine:=by
 obtain⟨z,its,n,r,e⟩:=I.hok p _ h;exact⟨its,n,r,e,z⟩
theorem WI.lstUpd{pins:Ws}{σ:St}{H:Hp}{s:Wu}{p:WA}{xs ys:List V}{its its':WC}{n n':Nat}{f:Obj->Obj}(I:WI X pins σ H s)(h:H p=some (.lst xs))
  (ho:s.heap.get? p=some {cls:=.type "list",data:=.seq its.toArray n}) (hf:f {cls:=.type "list",data:=.seq its.toArray n}={cls:=.type "list",data:=.seq its'.toArray n'}) (r:WO ys its') (hz:ys.length <=sizeLine) (t:Nat):
  WI X pins σ (upd H p (.lst ys)) {s with heap:=s.heap.update p f,toks:=t}:=by
 have e:(s.heap.update p f).get? p=some {cls:=.type "list",data:=.seq its'.toArray n'}:=by
  rw[YM f ho (by rw[hf] <;> rfl),hf]
 refine I.write (x:=p) (e:=p) (by rw[h];trivial) (.inl rfl) (fun b u a q=>(Xq _ _ (Ne.symm a)).trans q) ⟨_,e⟩ ?_;exact⟨hz,its',n',r,e⟩
def FS:V->V->V->Hp->(Hp->Prop)->Prop:=fun o i v H Q=>∃p xs k j,o= .ref p/\i= .int k/\H p=some (.lst xs)/\DX xs.length k=some j/\Q (upd H p (.lst (xs.set j v)))
theorem Gw:DM X FS:=by
 intro pins s σ H o i v ov iv u Q I z ri w h;obtain⟨p,xs,k,j,rfl,rfl,e,hj,q⟩:=h;cases z;obtain⟨t,rfl⟩:=ri;obtain⟨a,n,r,b,hz⟩:=I.lst e;obtain⟨h1,h2,g,f⟩:=PV hj;have c:=r.length;have hn:=Em;have l:WI X pins σ (upd H p (.lst (xs.set j v))) {s with heap:=s.heap.update p (Obj.mapSeq (·.setIfInBounds j u))}:=
  I.lstUpd e b (vT a n j u) (r.set w j) (by rw[List.length_set];exact hz) s.toks
 by_cases h0:0 <=k
 .have d:k.toNat=j:=by
   rw[seqIndex_of h0 f]at h1;exact Yn h1
  exact W.ki_setAt b h0 (by lia) (by rw[Yc,<-c];exact f) (by rw[d];exact⟨_,l,q⟩)
 .have d:(k+ (a.toArray.size:Int)).toNat=j:=by
   rw[seqIndex_neg (by lia) g]at h1;rw[Yc,<-c];exact Yn h1
  exact W.ki_setBack b (by lia) (by rw[Yc,<-c];exact g) (by lia) (by rw[d];exact⟨_,l,q⟩)
theorem jJ(lo hi:Option Int)(n:Nat):(sliceBounds lo hi none n).1=((HT.sIx n 0 lo:Nat):Int)/\(sliceBounds lo hi none n).2.1=((HT.sIx n n hi:Nat):Int)/\(sliceBounds lo hi none n).2.2=1:=by
 refine⟨?_,?_,rfl⟩
 .cases lo with
  |none=>simp[sliceBounds,HT.sIx]
  |some i=>
   simp only[sliceBounds,HT.sIx,Option.getD_none,show(1:Int) > 0 by decide,if_true]
   by_cases h:i < 0
   .simp only[h,if_true] <;> lia
   .simp only[h,if_false] <;> lia
 .cases hi with
  |none=>simp[sliceBounds,HT.sIx]
  |some i=>
   simp only[sliceBounds,HT.sIx,Option.getD_none,show(1:Int) > 0 by decide,if_true]
   by_cases h:i < 0
   .simp only[h,if_true] <;> lia
   .simp only[h,if_false] <;> lia
theorem jR(its:WC)(lo hi:Option Int):slicePick its.toArray lo hi none=((its.drop (HT.sIx its.length 0 lo)).take (HT.sIx its.length its.length hi - HT.sIx its.length 0 lo)).toArray:=by
 obtain⟨h1,h2,a⟩:=jJ lo hi its.toArray.size;unfold slicePick;rw[h1,h2,a];simp only[sliceRange_one,pick_run,Yc] <;> rfl
def Cb(K:Wy):V->Option Int->Option Int->Hp->VK->Prop:=fun x lo hi H Q=>∃a xs,x= .ref a/\WJ K H a xs/\∀p,H p=none->Q (.ref p) (upd H p (.lst (DT xs lo hi)))
theorem nJ:R7 X (Cb X.K):=by
 intro pins s σ H x v n l lo hi p Q I rx hs f e h;obtain⟨a,xs,rfl,i,q⟩:=h;cases rx;obtain⟨j,r,d,g⟩:=I.list i;have c:=r.length;refine⟨"list",_,slot_list_getitem.lookup,d.isList.typeIs,?_⟩;refine wpAny_getItem_list_slice d.isList hs f e .none (by simp) ?_ (by rw[Yc] <;> lia);rw[jR,<-c];refine⟨.ref s.heap.objs.size,_,I.laid (t':=s.toks) (o:=.lst (DT xs lo hi)) (fun b t q=>Y7 _ q) (Y6 _) ?_,rfl,q _ (I.hok.fresh (Y6 _))⟩;exact⟨YW (vA xs lo hi) g,_,0,(r.drop (HT.sIx xs.length 0 lo)).take (HT.sIx xs.length xs.length hi - HT.sIx xs.length 0 lo),Yi _ rfl⟩
def GI:V->Bool
 | .non=>true
 | .bl _=>true
 | .int _=>true
 | .str _=>true
 |_=>false
def GG:V->V->Bool
 | .non,.non=>true
 | .bl a,.bl b=>a==b
 | .bl a,.int b=>(if a then 1 else 0)==b
 | .int a,.bl b=>a==(if b then 1 else 0)
 | .int a,.int b=>a==b
 | .str a,.str b=>a==b
 |_,_=>false
theorem xL{A:Ww}{s:Wu}{y x:V}{u v:Wz}(ry:WU y u)(rx:WU x v)(fy:GI y=true)(fx:GI x=true):SeqAt.EqAt A s u v (GG y x):=by
 cases y with
 |non=>
  cases ry;cases x with
  |non=>cases rx;exact SeqAt.EqAt.same _
  |bl b=>cases rx;exact SeqAt.EqAt.none_bool b
  |int b=>obtain⟨t,rfl⟩:=rx;exact SeqAt.EqAt.none_int b t
  |str b=>obtain⟨t,rfl⟩:=rx;exact SeqAt.EqAt.none_str b t
  |_=>exact absurd (show false=true from fx) Yv
 |bl a=>
  cases ry;cases x with
  |non=>cases rx;exact SeqAt.EqAt.bool_none a
  |bl b=>cases rx;exact SeqAt.EqAt.bool_bool a b
  |int b=>obtain⟨t,rfl⟩:=rx;exact SeqAt.EqAt.bool_int a b t
  |str b=>obtain⟨t,rfl⟩:=rx;exact SeqAt.EqAt.bool_str a b t
  |_=>exact absurd (show false=true from fx) Yv
 |int a=>
  obtain⟨c,rfl⟩:=ry;cases x with
  |non=>cases rx;exact SeqAt.EqAt.int_none a c
  |bl b=>cases rx;exact SeqAt.EqAt.int_bool a c b
  |int b=>obtain⟨t,rfl⟩:=rx;exact SeqAt.EqAt.int_int a c b t
  |str b=>obtain⟨t,rfl⟩:=rx;exact SeqAt.EqAt.int_str a c b t
  |_=>exact absurd (show false=true from fx) Yv
 |str a=>
  obtain⟨c,rfl⟩:=ry;cases x with
  |non=>cases rx;exact SeqAt.EqAt.str_none a c
  |bl b=>cases rx;exact SeqAt.EqAt.str_bool a c b
  |int b=>obtain⟨t,rfl⟩:=rx;exact SeqAt.EqAt.str_int a c b t
  |str b=>obtain⟨t,rfl⟩:=rx;exact SeqAt.EqAt.str_str a c b t
  |_=>exact absurd (show false=true from fx) Yv
 |_=>exact absurd (show false=true from fy) Yv
def Rj(x:V)(u:Wz):Bool:=match u with
 | .none=>GG .non x
 | .bool b=>GG (.bl b) x
 | .int i _=>GG (.int i) x
 | .str z _=>GG (.str z) x
 |_=>false
theorem OR{x y:V}{u:Wz}(r:WU y u)(f:GI y=true):Rj x u=GG y x:=by
 cases y with
 |non=>cases r;rfl
 |bl b=>cases r;rfl
 |int i=>obtain⟨t,rfl⟩:=r;rfl
 |str z=>obtain⟨t,rfl⟩:=r;rfl
 |_=>exact absurd (show false=true from f) Yv
theorem Fy{x:V}:∀{xs:List V} {us:WC},WO xs us->xs.all GI=true->us.any (Rj x)=xs.any fun y=>GG y x
 |_,_,.nil,_=>rfl
 |y::xs,u::us,.cons r t,f=>by
  rw[List.all_cons,YN]at f;rw[V2,V2,OR r f.1,Fy t f.2]
theorem HZ{A:Ww}{s:Wu}{x:V}{v:Wz}(rx:WU x v)(fx:GI x=true):∀{xs:List V} {us:WC},WO xs us->xs.all GI=true->∀u∈us,SeqAt.EqAt A s u v (Rj x u)
 |_,_,.nil,_=>fun u hu=>by cases hu
 |y::xs,u::us,.cons r t,f=>fun u' hu=>by
  rw[List.all_cons,YN]at f;rcases Yu.mp hu with rfl|hu
  .rw[OR r f.1];exact xL r rx f.1 fx
  .exact HZ rx fx t f.2 u' hu
def C5(x:V)(xs:List V):Bool:=xs.any fun y=>GG y x
def Le(K:Wy)(neg:Bool):R2:=fun x y H Q=>∃p xs,y= .ref p/\(WJ K H p xs\/N9 K H p xs)/\GI x=true/\xs.all GI=true/\Q (.bl (if neg then !C5 x xs else C5 x xs)) H
theorem uF:JJ X (compareOp .NotIn) (Le X.K true):=by
 intro pins s σ H x y v u Q I rx ry h;obtain⟨p,xs,rfl,b,e,fs,q⟩:=h;cases ry;rcases b with b|b
 .obtain⟨a,r,c,f⟩:=I.list b;refine SeqAt.notIn_listAt (Rj x) c.isList (fun w d=>HZ rx e r fs w (by simpa using d)) ⟨.bl _,H,I,rfl,?_⟩;rw[show a.toArray.any (Rj x)=a.any (Rj x) by simp,Fy r fs];exact q
 .obtain⟨a,r,c,f⟩:=I.tuple b;refine SeqAt.notIn_tupleAt (Rj x) c (fun w d=>HZ rx e r fs w (by simpa using d)) ⟨.bl _,H,I,rfl,?_⟩;rw[show a.toArray.any (Rj x)=a.any (Rj x) by simp,Fy r fs];exact q
theorem wQ:J9 X (.builtin "len") (fun xs H Q=>∃p ys,xs=[.ref p]/\(WJ X.K H p ys\/N9 X.K H p ys)/\Q (.int ys.length) H):=by
 intro pins s σ H xs g Q I r h;obtain⟨p,ys,rfl,b,q⟩:=h;obtain⟨u,rfl,rx⟩:=D4 r;cases rx;have i:=Em;rcases b with b|b
 .obtain⟨e,c,d,f⟩:=I.list b;have a:=c.length;exact Calls.call_len_list d.isList (by simp only[Yc] <;> lia) ⟨.int ys.length,H,I.tok _,⟨s.toks+ 1,by rw[Yc,a]⟩,q⟩
 .obtain⟨e,c,d,f⟩:=I.tuple b;have a:=c.length;exact len_tuple d (by simp only[Yc] <;> lia) ⟨.int ys.length,H,I.tok _,⟨s.toks+ 1,by rw[Yc,a]⟩,q⟩
theorem Qt:J9 X (.builtin "len") (fun xs H Q=>∃z,xs=[.str z]/\z.length <=sizeLine/\Q (.int z.length) H):=by
 intro pins s σ H xs a Q I r h;obtain⟨z,rfl,b,q⟩:=h;obtain⟨u,rfl,t,rfl⟩:=D4 r;have c:=Em;exact len_str (by lia) ⟨.int z.length,H,I.tok _,⟨_,rfl⟩,q⟩
theorem Si:J9 X (.type "list") (fun xs H Q=>∃p ys,xs=[.ref p]/\(WJ X.K H p ys\/N9 X.K H p ys)/\∀l,H l=none->Q (.ref l) (upd H l (.lst ys))):=by
 intro pins s σ H xs us Q I r h;obtain⟨p,ys,rfl,f,q⟩:=h;obtain⟨u,rfl,rx⟩:=D4 r;cases rx;have g:∀ (a:WC),WO ys a->ys.length <=sizeLine->∀ (h':WD) (c':Nat),(∀b o',s.heap.get? b=some o'->h'.get? b=some o')->
   h'.get? s.heap.objs.size=some {cls:=.type "list",dict:=none,data:=.seq a.toArray c',slots:=#[]}->EP X pins σ Q (.ref s.heap.objs.size) {s with heap:=h'}:=fun a c d h' c' kp e=>
  ⟨.ref s.heap.objs.size,_,I.laid (t':=s.toks) kp (Y6 _) (show Jh X.prog X.w _ h' _ (.lst ys) from⟨d,a,c',c,e⟩),rfl,q _ (I.hok.fresh (Y6 _))⟩
 rcases f with f|f
 .obtain⟨a,c,i,d⟩:=I.list f;have t:=c.length;obtain⟨o,j,z,n,hd⟩:=i.isList;exact call_list_seq p (.inl rfl) j z hd (fun h' c' kp e=>g a c d h' c' kp e) (by simp only[Yc] <;> lia)
 .obtain⟨a,c,i,d⟩:=I.tuple f;have t:=c.length;obtain⟨o,j,z,n,hd⟩:=i;exact call_list_seq p (.inr rfl) j z hd (fun h' c' kp e=>g a c d h' c' kp e) (by simp only[Yc] <;> lia)
def B4(K:Wy)(T:String)(x:V)(H:Hp):Prop:=match x with
 | .str _=>T="str"
 | .int _=>T="int"
 | .ref p=>(T="list"/\∃xs,WJ K H p xs)\/(T="tuple"/\∃o,K.lookup p=some o/\o.cls= .type "tuple"/\o.dict=none)\/
   (T="dict"/\((∃kvs,H p=some (.dK kvs))\/∃kvs,H p=some (.dT kvs)))\/(T="set"/\∃S n,H p=some (.set S n))
 |_=>False
theorem OE{pins:Ws}{σ:St}{H:Hp}{s:Wu}{T:String}{x:V}{v:Wz}(I:WI X pins σ H s)(r:WU x v)(ty:B4 X.K T x H):
  s.TypeIs v T/\∀a,v= .ref a->∃ob,s.heap.get? a=some ob/\ob.dict=none:=by
 cases x with
 |str z=>
  obtain⟨t,rfl⟩:=r;cases (show T="str" from ty);exact⟨typeIs_str s z t,fun _ e=>nomatch e⟩
 |int i=>
  obtain⟨t,rfl⟩:=r;cases (show T="int" from ty);exact⟨typeIs_int s i t,fun _ e=>nomatch e⟩
 |ref p=>
  cases r;rcases ty with⟨rfl,xs,hq⟩|⟨rfl,o,hk,hc,hd⟩|⟨rfl,hk⟩|⟨rfl,S,n,hk⟩
  .obtain⟨f,_,d,_⟩:=I.list hq;refine⟨d.isList.typeIs,fun a e=>?_⟩;cases e;obtain⟨o,n,e,c,hd,_⟩:=d;exact⟨o,e,hd⟩
  .refine⟨⟨o,I.kIn p o hk,hc⟩,fun a e=>?_⟩;cases e;exact⟨o,I.kIn _ o hk,hd⟩
  .have z:∃o,s.heap.get? p=some o/\o.ExactDict:=by
    rcases hk with⟨kvs,hk⟩|⟨kvs,hk⟩
    .obtain⟨_,_,_,_,o,_,_,e,ex,_⟩:=I.hok p _ hk;exact⟨o,e,ex⟩
    .obtain⟨_,_,_,_,o,_,_,e,ex,_⟩:=I.hok p _ hk;exact⟨o,e,ex⟩
   obtain⟨o,e,ex⟩:=z;refine⟨⟨o,e,ex.1⟩,fun a b=>?_⟩;cases b;exact⟨o,e,ex.2.1⟩
  .obtain⟨o,_,_,_,e,ex,_⟩:=I.hok p _ hk;refine⟨⟨o,e,ex.1⟩,fun a b=>?_⟩;cases b;exact⟨o,e,ex.2.1⟩
 |_=>exact False.elim ty
def CU(K:Wy)(T:String)(r:V->List V->Hp->VK->Prop)(to:TE):TE:=fun σ H Q=>to σ H fun x H1=>B4 K T x H1/\r x [] H1 Q
def Cr(K:Wy)(T:String)(r:V->List V->Hp->VK->Prop)(to:TE)(t:TA):TE:=fun σ H Q=>to σ H fun x H1=>B4 K T x H1/\t σ H1 fun xs H2=>r x xs H2 Q
variable{o e:WE}{es:List Expr}{to:TE}{t:TA}{name:Str}{apos cpos:Pos}{T id:String}{r:V->List V->Hp->VK->Prop}
theorem uC(pa:PlainAttrs T)(slot:Slot T name id)(hty:typeOf (.builtin id)=pure (.type "method_descriptor"))(hm:CI X id r)(ho:PE X o to)
  (hbase:attributeBase o name X.env (eval o X.env)=eval o X.env:=by rfl) (hline:(apos.endLine==cpos.line)=true:=by rfl):PE X (.Call (.Attribute o name apos) [] [] cpos) (CU X.K T r to):=by
 intro pins s σ H Q I h;refine wpAny_Call_method0_late hbase hline (J8 (ho pins s σ H _ I h) fun v s1 zz=>?_);rcases zz with⟨x,H1,b,a,ty,c⟩;obtain⟨h1,h2⟩:=OE b a ty;exact⟨T,id,pa,slot,hty,h1,h2,Calls.callWith_builtin rfl (PySem.evalArgs_none (hm pins s1 σ H1 x [] v [] Q b a .nil c))⟩
theorem yZ(pa:PlainAttrs T)(slot:Slot T name id)(hty:typeOf (.builtin id)=pure (.type "method_descriptor"))(hm:CI X id r)(ho:PE X o to)(ha:PA X (e::es) t)
  (hbase:attributeBase o name X.env (eval o X.env)=eval o X.env:=by rfl)
  (hfew : ((backTo cpos (starEach (e :: es) X.env)).all (fun x => !x.1) && (backToKw cpos (keywordEach [] X.env)).all (fun x => x.1.isSome)
   && decide ((e :: es).length + ([] : List Keyword).length + (if ([] : List Keyword).isEmpty then 0 else 1) < 30)) = true := by rfl)
  (hline:(apos.endLine==cpos.line)=true:=by rfl) (hs:starEach (e::es) X.env=(false,eval e X.env)::starEach es X.env:=by rfl) (hplain:(backTo cpos (starEach es X.env)).any (·.1)=false:=by rfl):
  PE X (.Call (.Attribute o name apos) (e::es) [] cpos) (Cr X.K T r to t):=by
 intro pins s σ H Q I h;refine wpAny_Call_method_late hbase hfew hline rfl (J8 (ho pins s σ H _ I h) fun v s1 zz=>?_);rcases zz with⟨x,H1,c,a,ty,i⟩;obtain⟨h1,h2⟩:=OE c a ty;refine⟨T,id,pa,slot,hty,h1,h2,?_⟩;have b:=ha cpos pins s1 σ H1 _ c i;rw[hs]at b ⊢;refine Calls.callWith_builtin (by show(false||(backTo cpos (starEach es X.env)).any (·.1))=false;rw[hplain] <;> rfl) (Calls.evalArgs_plain ?_);exact J8 b fun d s2 zz=>by rcases zz with⟨vs,H2,j,f,g⟩;exact hm pins s2 σ H2 x vs v d Q j a f g
end
def Gg(X:Cx)(id:String)(r:V->List V->Hp->VK->Prop):Prop:=
 ∀ (pins:Ws) (s:Wu) (σ:St) (H:Hp) (x:V) (xs:List V) (v:Wz) (us:WC) (Q:VK),WI X pins σ H s->WU x v->WO xs us->r x xs H Q->
  wpAny (model X.prog X.w) X.A (call (.builtin id) (v::us)) (EP X pins σ Q) X.xe s
theorem WO.one{x:V}{us:WC}(h:WO [x] us):∃u,us=[u]/\WU x u:=by cases h with|cons r h=>cases h;exact⟨_,rfl,r⟩
section
variable{X:Cx}{pins:Ws}{σ:St}{H:Hp}{s:Wu}{l b:WA}{xs ys zs:List V}
theorem WI.lset{its its':WC}{n:Nat}{f:Array Value->Array Value}{t':Nat}(I:WI X pins σ H s)(hH:H l=some (.lst xs))
  (e:s.heap.get? l=some {cls:=.type "list",data:=.seq its.toArray n}) (hf:f its.toArray=its'.toArray) (hv:WO ys its') (hz:ys.length <=sizeLine):
  WI X pins σ (upd H l (.lst ys)) {s with heap:=s.heap.update l (Obj.mapSeq f),toks:=t'}:=by
 have q:=PySem.IsL.update e f;rw[hf]at q;refine I.write (x:=l) (e:=l) (by rw[hH];exact trivial) (.inl rfl) (fun c u b a=>(Xq s.heap (Obj.mapSeq f) (Ne.symm b)).trans a) ⟨_,q⟩ ?_;exact⟨hz,its',_,hv,q⟩
theorem WI.lnew{its:WC}{t':Nat}(I:WI X pins σ H s)(hv:WO ys its)(hz:ys.length <=sizeLine):
  WI X pins σ (upd H s.heap.objs.size (.lst ys)) {s with heap:=s.heap.push {cls:=.type "list",data:=.seq its.toArray},toks:=t'}:=
 I.laid (fun _ _ q=>Y7 _ q) (Y6 _) ⟨hz,its,0,hv,Yi _ rfl⟩
theorem WI.fresh(I:WI X pins σ H s):H s.heap.objs.size=none:=I.hok.fresh (Y6 _)
theorem WI.lstM(I:WI X pins σ H s)(hH:H l=some (.lst xs)):xs.length <=sizeLine/\∃ (its:WC) (n:Nat),WO xs its/\xs.length=its.length/\s.heap.get? l=some {cls:=.type "list",data:=.seq its.toArray n}:=by
 obtain⟨z,its,n,r,e⟩:=I.hok l _ hH;exact⟨z,its,n,r,r.length,e⟩
theorem uY{n:Nat}(h:n <=sizeLine):Builtin.List.listTooLong n=false:=by
 unfold Builtin.List.listTooLong;exact Ys (by lia)
end
section
variable{X:Cx}
def Hw:V->List V->Hp->VK->Prop:=fun x vs H Q=>∃l xs y,x= .ref l/\vs=[y]/\H l=some (.lst xs)/\xs.length < sizeLine/\Q .non (upd H l (.lst (xs++[y])))
theorem DH:Gg X "list.append" Hw:=by
 intro pins s σ H x vs v f Q I rx c h;obtain⟨l,xs,y,rfl,rfl,b,g,q⟩:=h;cases rx;obtain⟨u,rfl,d⟩:=c.one;obtain⟨z,a,n,r,i,e⟩:=I.lstM b;refine call_meets F.slot_list_append ⟨_,e,rfl⟩ F.entry_list_append (F.args_list_append_2 _ _) (PySem.list_append l a.toArray n u (by rw[Yc];lia)) ⟨e,?_⟩;refine⟨.non,_,I.lset (its':=a++[u]) b e (by simp) (r.append (.cons d .nil)) ?_,rfl,q⟩;rw[List.length_append,V7]
 lia
def FU:V->List V->Hp->VK->Prop:=fun x vs H Q=>∃l b xs zs,x= .ref l/\vs=[.ref b]/\H l=some (.lst xs)/\H b=some (.lst zs)/\xs.length+ zs.length <=sizeLine/\Q .non (upd H l (.lst (xs++zs)))
theorem Do:Gg X "list.extend" FU:=by
 intro pins s σ H x vs v us Q I rx g h;obtain⟨l,b,xs,zs,rfl,rfl,f,p,hz,q⟩:=h;cases rx;obtain⟨u,rfl,i⟩:=g.one;cases i;obtain⟨z,its,n,r,hl,e⟩:=I.lstM f;obtain⟨z2,a,o,j,w,t⟩:=I.lstM p;have d:its.toArray.size+ a.toArray.size <=sizeLine:=by rw[Yc,Yc];lia
 have c:¬(!its.toArray.isEmpty && Builtin.List.listTooLong (its.toArray.size+ a.toArray.size))=true:=by
  rw[uY d,W4];exact Yv
 refine call_meets F.slot_list_extend ⟨_,e,rfl⟩ F.entry_list_extend (F.args_list_extend_2 _ _)
  (AutoSeq1.list_extend_list_list_0 l its.toArray n b a.toArray o c (by rw[Yc];lia) (by lia)) ⟨e,t,?_⟩
 refine⟨.non,_,I.lset (its':=its++a) f e (by simp) (r.append j) ?_,rfl,q⟩;rw[List.length_append]
 lia
def Ho:R2:=fun x y H Q=>∃l b xs zs,x= .ref l/\y= .ref b/\H l=some (.lst xs)/\H b=some (.lst zs)/\xs.length+ zs.length <=sizeLine/\∀p,H p=none->Q (.ref p) (upd H p (.lst (xs++zs)))
theorem E7:JJ X (binaryOp .Add) Ho:=by
 intro pins s σ H x y v u Q I rx ry h;obtain⟨l,b,xs,zs,rfl,rfl,f,g,w,q⟩:=h;cases rx;cases ry;obtain⟨z,c,n,r,hl,e⟩:=I.lstM f;obtain⟨p,a,t,d,o,j⟩:=I.lstM g;refine PySem.P.add_list e j ?_ (by rw[Yc,Yc];lia);have i:c.toArray++a.toArray=(c++a).toArray:=by simp
 rw[i];exact⟨.ref _,_,I.lnew (t':=s.toks) (r.append d) (by rw[List.length_append];lia),rfl,q _ I.fresh⟩
end
end L2
namespace Att
open PySem PySem.W PySem.Calls PyProof.Rows
theorem xG{P:Params}{h:WD}:∀ (ns:WB) (vs:WC),WellAll P h vs (ns.map WData.int)->IntsAre vs ns:=by
 intro ns
 induction ns with
 |nil=>
  intro vs w;rw[List.map_nil]at w;cases w;exact .nil
 |cons n ns ih=>
  intro vs w;rw[List.map_cons]at w;cases w with
  |cons a b=>
   cases a;exact .cons _ _ (ih _ b)
theorem QB{l:OpenLaw}{n:Nat}(hn:l.most=some n){P:Params}{h:WD}{args:List WData}{vals:WC}
  (hpre:l.row.toRowW.claim.pre args=true) (hwl:WellAll P h vals args):
  ∃a vs ns,vals=[Value.ref a]/\args=[WData.list (ns.map WData.int)]/\h.get? a=some {cls:=.type "list",data:=.seq vs.toArray}/\IntsAre vs ns/\ns.length <=n:=by
 have f:WShape.hasAll [] args [.list .int]=true:=(pre_splitW hpre).1;have g:l.pre.holds [] {args:=args}=true:=(pre_splitW hpre).2;obtain⟨d,r,rfl,h1,h2⟩:=hasAllW_cons f;obtain rfl:=hasAllW_nil h2;obtain⟨xs,rfl,j⟩:=hasW_list h1;obtain⟨ns,rfl⟩:=items_int j;have e:ns.length <=n:=by
  unfold OpenLaw.pre at g;have c:(WTm.not (.lt (.lit (.int (n:Int))) (.len (.arg 0)))).holds [] {args:=[.list (ns.map .int)]}=true:=by
   have c:=(holds_andW g).1;rw[hn]at c;exact c
  have b:=condW_of c (w_not (w_lt w_lit (w_len_list (w_arg rfl))));rw[Y1]at b;refine Nat.le_of_not_lt fun q=>?_
  have i:(n:Int) < ((ns.length:Nat):Int):=by lia
  first
   |(rw[Yq i]at b;exact absurd b (by decide))
   |(simp at b;lia)
 cases hwl with
 |cons w1 w2=>
  cases w2;cases w1 with
  |list ho hall=>exact⟨_,_,ns,rfl,rfl,ho,xG ns _ hall,e⟩
theorem wF(l:OpenLaw)(args:List WData):l.row.toRowW.claim.post args (.bool true) args=true:=
 postW_of (r:=l.row.toRowW) (X:=(true==true))
  (show WShape.has [] (.bool true) .bool=true by first|rfl|decide|simp[WShape.has,WShape.arms,WShape.armsAll])
  (show(WTm.eq .res (.lit (.bool true))).value [] {args:=args,res:=some (.bool true),after:=args}=some (.bool (true==true)) from w_eq_bool (w_res rfl) w_lit) rfl
theorem attach_call{l:OpenLaw}{n:Nat}{q:Wt}{loose:List Str}{XP:(Str->Option Value)->Heap->Prop}{YP:World->Heap->Prop}{d:DefRec}
  (hn:l.most=some n) (hdf:d.params.defaults=[])
  (call : ∀ (w : World) (s₀ s₁ : Shared) (mg mb : Str -> Option Value) (fa : Addr) (o : Obj) (pm cd doc : Value) (a : Addr) (vs : List Value) (ns : List Int),
   Ground q loose [] XP w s₀ mg mb s₁.heap->YP w s₁.heap->
   s₁.heap.get? fa=some o->o.data= .func (docDef d.name d.params d.body d.scope pm cd doc)->s₁.heap.CodeRec cd d.name->mg d.name=some (.ref fa)->
   s₁.heap.get? a=some {cls:=.type "list",data:=.seq vs.toArray}->IntsAre vs ns->ns.length <=n->s₁.gens=#[]->
   codeAny (model l.prog w) callerA (.call (.ref fa) ⟨[.ref a], []⟩) (fun r s' => r = .ok (.ret (.bool true)) /\ OldK s₁.heap s'.heap /\ s'.os = s₁.os /\ AllBare s'.gens) s₁) :
  WalkO q loose XP YP l.row.toRowW d [] (fun f vs=>PySem.call f vs):=by
 intro w s₀ s₁ mg mb G Y fa o pm cd doc dV kV u hd j p i hg args s as c aa hrd h hlo;obtain rfl:dV= .none:=Dflts.none p hdf;obtain rfl:kV= .none:=Dflts.noKw p;obtain⟨a,vs,ns,rfl,rfl,e,b,g⟩:=QB hn c h;refine enter_call (Uf (call w s₀ s₁ mg mb fa o pm cd doc a vs ns G Y u (fd_plain hd) j i e b g hg) fun r s' t=>?_);obtain⟨rfl,h2,h3,h4⟩:=t;exact⟨.inl ⟨.bool true,.bool true,[],rfl,fun _=>rfl,.bool true,wF l _,fun _=>⟨List.Pairwise.nil,fun _ z=>(nomatch z)⟩⟩,h2,h3,h4⟩
section
variable{prog:Wt}{w:Wx}{A:Ww}{E:Wq}{s:Wu}{K:Frag}
def K0(h:WD)(L d:WA):List (Addr×Obj):=(List.range h.objs.size).filterMap fun a=>if a=L\/a=d then none else(h.get? a).map fun o=>(a,o)
end
end Att
namespace L2
open PySem PySem.Spec PyProof.Rows
theorem Od:∀{vs:WC} {ns:WB},IntsAre vs ns->WO (ns.map V.int) vs
 |_,_,.nil=>.nil
 |_,_,.cons n t h=>.cons ⟨t,rfl⟩ (Od h)
def MW(s:Stmt)(j:Nat):Stmt:=match s with
 | .ClassDef _ _ _ body _ _ _ _ _ _ _=>body.getD j (.Pass ⟨0,0,0,0⟩)
 |_=>.Pass ⟨0,0,0,0⟩
def TB(s:Stmt):Arguments:=match s with
 | .FunctionDef _ a _ _ _ _ _ _ _ _=>a
 |_=>{posonlyargs:=[],args:=[],vararg:=none,kwonlyargs:=[],kw_defaults:=[],kwarg:=none,defaults:=[]}
def WP(s:Stmt):List Stmt:=match s with
 | .FunctionDef _ _ b _ _ _ _ _ _ _=>b
 |_=>[]
def WF(s:Stmt):Scope:=match s with
 | .FunctionDef _ _ _ _ _ _ sc _ _ _=>sc
 |_=>{kind:=.function,names:=[],isGenerator:=false,isCoroutine:=false}
abbrev Jr:Gi:=fun _ _ _ _ _ _=>False
abbrev E0:XK:=fun _ _ _=>False
theorem Bn{X:Cx}:AD Jr X E0:=fun _ _ _ _ _ _ _ h=>h.elim
structure JT(K:Wy)(x qual:Str)(st:Stmt)(f:WA)(fd:Wv):Prop where
 ex:∃ (oc:Wz) (od:Option Addr) (kV doc pm:Wz) (an:Option Addr) (cdv ct:Wz) (osl:Array (Option Value)),
  fd=W.fnOf x qual (TB st) (WP st) (WF st) .none kV doc pm an cdv ct/\K.lookup f=some ⟨oc,od,.func fd,osl⟩/\W.codeIn K cdv qual=true
 kp:W.keepIn K (.ref f)=true
section
variable{P:Wt}{w:Wx}{K:Wy}{mg:Wp}{base:WD}
theorem JT.ok{x qual:Str}{st:Stmt}{f:WA}{fd:Wv}{N ps:List Str}{k:Nat}{sp:Sp}(F:JT K x qual st f fd)(S:JN N ps (WF st))(len:∀vs H Q E,sp vs H Q E->vs.length=ps.length)
  (hbody : ∀ (cdv : Value) (A : Around) (outer : List Env) (s : Shared) (H : Hp) (vs : List V) (Q : VK) (E : XK), WV k (A.deeper (envOfC qual (WF st) s.heap.objs.size f cdv)) -> sp vs H Q E ->
   ∃ t, Mp (TQ Jr P w K mg base N qual (WF st) f cdv A outer s H E).nox (WP st) t /\ t { nx := fun _ H' => Q .non H', rt := Q } (start N vs) H) : WQ P w K mg base Jr (k + 1) f fd ps sp := by
 obtain⟨j,i,kV,g,pm,l,cdv,ct,e,rfl,c,b⟩:=F.ex;refine EJ c b S len fun A outer s H vs Q E d a=>?_
 obtain⟨t,h,q⟩:=hbody cdv A outer s H vs Q E d a;exact⟨t,h.nox,q⟩
theorem JT.binds{x qual:Str}{st:Stmt}{f:WA}{fd:Wv}{ps:List Str}(F:JT K x qual st f fd)
  (h:∀ (kV doc pm:Wz) (an:Option Addr) (cdv ct:Wz) (us:WC),us.length=ps.length->bindArgs (W.fnOf x qual (TB st) (WP st) (WF st) .none kV doc pm an cdv ct) ⟨us,[]⟩=pure (ps.zip us)):NR K fd ps []:=by
 obtain⟨d,c,kV,doc,pm,an,cdv,ct,a,rfl,e,b⟩:=F.ex;exact .all (h kV doc pm an cdv ct)
theorem A7{x qual:Str}{st:Stmt}{f:WA}{oc:Wz}{od an:Option Addr}{osl:Array (Option Value)}{kV doc pm cdv ct:Wz}(l:K.lookup f=some ⟨oc,od,.func (W.fnOf x qual (TB st) (WP st) (WF st) .none kV doc pm an cdv ct),osl⟩)
  (c:W.codeIn K cdv qual=true) (k:W.keepIn K (.ref f)=true):JT K x qual st f (W.fnOf x qual (TB st) (WP st) (WF st) .none kV doc pm an cdv ct):=⟨⟨oc,od,kV,doc,pm,an,cdv,ct,osl,rfl,l,c⟩,k⟩
end
theorem MP{A:Ww}{k:Nat}(hr:WV k A):A.units+ 1 < cLine:=YA (Nat.add_le_add_left (by decide:1 <=64) _) hr.units
section
variable{X:Cx}
theorem pv(i:Nat){x:Str}{pos:Pos}(hN:X.N[i]?=some x:=by rfl)(hv:Bk X.env.scope x:=by first|exact Or.inl rfl|exact Or.inr (Or.inl rfl)|exact Or.inr (Or.inr rfl))(hd:(x==("__debug__":Str))=false:=by decide)
  (hcd:(x==("__classdict__":Str))=false:=by decide):PE X (.Name x pos) (BE i):=tX hN hv hd hcd
end
theorem DQ{c A B:Prop}[Decidable c](h1:c->A)(h2:¬c->B):if c then A else B:=by
 by_cases h:c
 .rw[Y9 h];exact h1 h
 .rw[Y3 h];exact h2 h
def WH(H H':Hp):Prop:=∀b o,H b=some o->H' b=some o
theorem WH.refl(H:Hp):WH H H:=fun _ _ h=>h
theorem WH.trans{H H1 H2:Hp}(a:WH H H1)(b:WH H1 H2):WH H H2:=fun c o h=>b c o (a c o h)
theorem WH.free{H H':Hp}(e:WH H H'){l:WA}(h:H' l=Option.none):H l=Option.none:=by
 cases q:H l with
 |none=>rfl
 |some o=>
  rw[e l o q]at h;cases h
end L2
set_option maxHeartbeats 4000000
namespace L2
open PySem PySem.Spec PyProof.Rows
theorem HH{env:Env}:∀ (names:List (Str×NameKind)) (cs:List (Str×Addr)),(∀x,(x,NameKind.free)∈names->∃c,env.cells.lookup x=some c)->
  (∀x c,cs.lookup x=some c->env.cells.lookup x=some c)->
  ∃cl,(forIn names cs fun(p:Str×NameKind) (r:List (Str×Addr))=>(match p with|(name,kind)=>(if(kind==NameKind.free)=true then(do let a <-cellOf env name;pure (ForInStep.yield ((name,a)::r))) else pure (ForInStep.yield r)):Sem (ForInStep (List (Str×Addr)))))=pure cl/\
   (∀x c,cl.lookup x=some c->env.cells.lookup x=some c)/\(∀x,(x,NameKind.free)∈names->∃c,cl.lookup x=some c)/\∀x,(∃c,cs.lookup x=some c)->∃c,cl.lookup x=some c
 |[],cs,_,h2=>⟨cs,rfl,h2,(fun _ h=>nomatch h),fun _ h=>h⟩
 |(n,k)::r,cs,h1,h2=>by
  by_cases hk:k=NameKind.free
  .subst hk;obtain ⟨c, hc⟩ := h1 n Ym;obtain ⟨cl, e, a, b, d⟩ := HH r ((n, c) :: cs) (fun x f => h1 x (Yl _ f)) (fun x c' f => by
    rw[UA]at f;cases q:x==n with
    |true=>rw[q]at f;cases f;rw[eq_of_beq q];exact hc
    | false => rw [q] at f; exact h2 x c' f)
   refine⟨cl,?_,a,fun x f=>?_,fun x ⟨c',f⟩=>?_⟩
   .rw[UG];have:cellOf env n=pure c:=by unfold cellOf;rw[hc]
    simp only[this,VL,if_true];exact e
   .rcases Yu.mp f with z|z
    .cases z;exact d _ ⟨c,by simp[UA]⟩
    .exact b x z
   .refine d x ?_;rw[UA];cases q:x==n with
    |true=>exact⟨c,rfl⟩
    |false=>exact⟨c',f⟩
  .obtain⟨cl,e,a,b,d⟩:=HH r cs (fun x f=>h1 x (Yl _ f)) h2;have g:(k==NameKind.free)=false:=by simpa using hk
   refine⟨cl,?_,a,fun x f=>?_,d⟩
   .rw[UG];simp only[g,Bool.false_eq_true,if_false];exact e
   .rcases Yu.mp f with z|z
    .cases z;exact absurd rfl hk
    .exact b x z
theorem CW{scope:Scope}{env:Env}(h:∀x,(x,NameKind.free)∈scope.names->∃c,env.cells.lookup x=some c):
  ∃cl,closureFor scope env=pure cl/\(∀x c,cl.lookup x=some c->env.cells.lookup x=some c)/\∀x,(x,NameKind.free)∈scope.names->∃c,cl.lookup x=some c:=by
 obtain⟨cl,e,a,b,_⟩:=HH scope.names [] h (fun x c z=>nomatch z);refine⟨cl,?_,a,b⟩;unfold closureFor;show(forIn scope.names [] _ >>=fun d=>pure d)=pure cl;rw[show(forIn scope.names ([]:List (Str×Addr)) _:Sem _)=pure cl from e];rfl
theorem Fl{env:Env}{x:Str}:∀{names:List (Str×NameKind)} {k:NameKind},(names.map fun(n,k)=>if(k==NameKind.free && env.scope.kind== .function && env.kindOf n==some .cell) then(n,NameKind.cell) else(n,k)).lookup x=some k->
  (x,k)∈names\/(k=NameKind.cell/\(x,NameKind.free)∈names)
 |[],_,h=>by simp at h
 |(n,k')::r,k,h=>by
  have ih:=@Fl env x r k;have h':List.lookup x ((if(k'==NameKind.free && env.scope.kind== .function && env.kindOf n==some .cell)=true then(n,NameKind.cell) else(n,k'))::(r.map fun(n,k)=>if(k==NameKind.free && env.scope.kind== .function && env.kindOf n==some .cell) then(n,NameKind.cell) else(n,k)))=some k:=h
  by_cases hc:(k'==NameKind.free && env.scope.kind== .function && env.kindOf n==some .cell)=true
  .rw[Y9 hc,UA]at h';cases q:x==n with
   |true=>
    rw[q]at h';have e:NameKind.cell=k:=Yn h';have a:k'=NameKind.free:=by
     have:=(YN _ _▸(YN _ _▸hc).1).1;exact eq_of_beq this
    have ex:x=n:=eq_of_beq q;subst a ex;exact .inr ⟨e.symm,Ym⟩
   |false=>
    rw[q]at h';rcases ih h' with z|⟨z1,z2⟩
    .exact .inl (Yl _ z)
    .exact .inr ⟨z1,Yl _ z2⟩
  .rw[Y3 hc,UA]at h';cases q:x==n with
   |true=>
    rw[q]at h';have e:k'=k:=Yn h';have ex:x=n:=eq_of_beq q;subst e ex;exact .inl Ym
   |false=>
    rw[q]at h';rcases ih h' with z|⟨z1,z2⟩
    .exact .inl (Yl _ z)
    .exact .inr ⟨z1,Yl _ z2⟩
theorem xR{prog:Wt}{w:Wx}{A:Ww}{R:Result->Shared->Prop}{s:Wu}{elt target iter:WE}{ifs:List Expr}{scope:Scope}{pos:Pos}{it acc:Wz}{env:Env}(I:Nat->Shared->Prop)
  (turn : ∀ n s, I n s -> wpAny (model prog w) A (pyNext it) (fun r s₁ => match r with
   |none=>R (.ok .next) s₁
   | some v => wpAny (model prog w) A (letOwnedTupleGo target it v) (fun _ s₀ => wpAny (model prog w) A (assign target env v) (fun _ s₂ =>
     wpAny (model prog w) A (forIn ifs true fun c r => if r = true then do let ok <- isTrue c env (eval c env); pure (ForInStep.yield ok) else pure (ForInStep.yield r)) (fun ok s₃ =>
      if ok = true then wpAny (model prog w) A (eval elt env) (fun x s₄ =>
       wpAny (model prog w) A (call (.builtin "list.append") [acc, x]) (fun _ s₅ => ∃ m, m < n /\ I m s₅) (fun _ _ => False) s₄) (fun _ _ => False) s₃
      else ∃ m, m < n /\ I m s₃) (fun _ _ => False) s₂) (fun _ _ => False) s₀) (fun _ _ => False) s₁) (fun _ _ => False) s)
  (n:Nat) (h:I n s):
  codeAny (model prog w) A (.compLoop (.ListComp elt [⟨target,iter,ifs,0⟩] scope pos) 0 it acc env) R s:=by
 refine codeAny_loop rfl I (fun n s i=>?_) n h;show wpAny _ A ((compTurn (.ListComp elt [⟨target,iter,ifs,0⟩] scope pos) 0 it acc env).onRaise (fun x=>do noteFrame x env;theTreesLotGoes x)) _ _ s;refine wpAny_noted (wpAny_noRaise ?_);rw[compTurn_list];refine Y0 (Vt (Y0 (YL (turn n s i) (fun r s₁ b=>?_) fun _ _ h'=>h')));cases r with
 |none=>exact Y2 b
 |some v=>
  refine Y0 (YL b (fun _ s₀ g=>?_) fun _ _ h'=>h');refine Y0 (YL g (fun _ s₂ f=>Y0 (YL f (fun ok s₃ a=>?_) fun _ _ h'=>h')) fun _ _ h'=>h');cases ok with
  |false=>exact Y2 ⟨rfl,a⟩
  |true=>
   exact Y0 (Y0 (YL a (fun x s₄ e=>Y0 (YL e (fun _ s₅ d=>Y2 (Y2 ⟨rfl,d⟩)) fun _ _ h'=>h')) fun _ _ h'=>h'))
def JQ(X:Cx)(N':List Str)(scope:Scope)(cl:List (Str×Addr))(C:WA)(s:Wu)(H:Hp)(ex:List Addr):Cx:=
 {X with N:=N',s₀:=s,H₀:=H,env:=compEnvC scope cl C X.env,outer:=X.stack,ex:=ex,fn:=fun _=>false,pn:=[],xe:=fun _ _=>False}
def JH(caps:List (Option Nat))(σ:St):St:=caps.map fun o=>o.bind fun j=>(σ[j]?).join
def LN(N N':List Str)(scope:Scope)(caps:List (Option Nat)):Prop:=
 caps.length=N'.length/\∀ (i j:Nat) (x:Str),N'[i]?=some x->caps[i]?=some (some j)->N[j]?=some x/\(x,NameKind.free)∈scope.names/\∀k,(x,k)∈scope.names->k=NameKind.free
structure BB(X:Cx)(N':List Str)(scope:Scope)(caps:List (Option Nat)):Prop where
 kind:scope.kind= .function
 nocell:∀y∈scope.names,y.2≠ .cell
 locs:∀y∈scope.names,y.2= .local->scope.names.lookup y.1=some .local
 cap:LN X.N N' scope caps
 vis:∀x,(x,NameKind.free)∈scope.names->X.env.kindOf x=some .cell\/X.env.kindOf x=some .free
def AI:TT:=fun _ H Q=>Q true H
def E5(caps:List (Option Nat))(g:TG)(tc:TT)(te:TE)(σ:St)(Q:VK)(J:It)(H1:Hp):Prop:=
 ∃W:Nat->Nat->List V->St->Hp->Prop,(∃m,W 0 m [] (JH caps σ) H1)/\∀i m ys σ' H,W i m ys σ' H->
  (J.stop i H/\ys.length <=sizeLine/\∀p,H p=none->Q (.ref p) (upd H p (.lst ys)))\/
  (J.go i H /\ ys.length < sizeLine /\ ∃ N : List V -> St -> Hp -> Prop, (∀ ys σ H, N ys σ H -> ∃ m', m' < m /\ W (i + 1) m' ys σ H) /\ ∀ x H', J.yld i H x H' -> g x σ' H' fun σ2 H2 => tc σ2 H2 fun b H3 =>
   if b = true then te σ2 H3 fun y H4 => N (ys ++ [y]) σ2 H4 else N ys σ2 H3)
def AJ(caps:List (Option Nat))(wi:TI)(g:TG)(tc:TT)(te:TE):TE:=fun σ H Q=>wi σ H fun J H1=>E5 caps g tc te σ Q J H1
def DK(X:Cx)(ifs:List Expr)(t:TT):Prop:=
 ∀ (pins:Ws) (s:Wu) (σ:St) (H:Hp) (Q:Bool->Hp->Prop),WI X pins σ H s->t σ H Q->
  wpAny (model X.prog X.w) X.A (forIn ifs true fun c r=>if r=true then do let ok <-isTrue c X.env (eval c X.env);pure (ForInStep.yield ok) else pure (ForInStep.yield r)) (TP X pins σ Q) X.xe s
theorem Mx{X:Cx}:DK X [] AI:=fun _ _ _ H _ I h=>wpAny_tests_nil ⟨H,I,h⟩
theorem Rp{X:Cx}{c:WE}{t:TT}(h:PT X c t):DK X [c] t:=fun pins s σ H Q I q=>wpAny_tests_one (h pins s σ H Q I q)
section
variable{X:Cx}{elt tg iter:WE}{ifs:List Expr}{scope:Scope}{pos:Pos}{N':List Str}{caps:List (Option Nat)}{wi:TI}{g:TG}{tc:TT}{te:TE}
def T8(its:WC)(n:Nat):Obj:={cls:=.type "list",data:=.seq its.toArray n}
theorem PF{pins:Ws}{s2:Wu}{σ:St}{H2:Hp}{J:It}{it:WA}{fp:List Addr}{tn:Nat->Heap->Prop}{cl:List (Str×Addr)}{Q:VK}{RR:Value->Addr->Result->Shared->Prop}
  (S:BB X N' scope caps) (hc:X.calm=true)
  (hcl1:∀x c,cl.lookup x=some c->X.env.cells.lookup x=some c) (hcl2:∀x,(x,NameKind.free)∈scope.names->∃c,cl.lookup x=some c)
  (hg:∀cl C s H ex,PG (JQ X N' scope cl C s H ex) tg g) (ht:∀C,DK (JQ X N' scope cl C s2 H2 fp) ifs tc) (he:∀cl C s H ex,PE (JQ X N' scope cl C s H ex) elt te)
  (I:WI X pins σ H2 s2) (T:El X.prog X.w X.K tg J fp it tn) (st:tn 0 s2.heap) (f2:∀b∈fp,TZ X pins H2 b)
  (W:Nat->Nat->List V->St->Hp->Prop) (w0:∃m,W 0 m [] (JH caps σ) H2)
  (turn : ∀ i m ys σ' H, W i m ys σ' H -> (J.stop i H /\ ys.length <= sizeLine /\ ∀ p, H p = none -> Q (.ref p) (upd H p (.lst ys))) \/
   (J.go i H /\ ys.length < sizeLine /\ ∃ N : List V -> St -> Hp -> Prop, (∀ ys σ H, N ys σ H -> ∃ m', m' < m /\ W (i + 1) m' ys σ H) /\ ∀ x H', J.yld i H x H' -> g x σ' H' fun σ2 H2 => tc σ2 H2 fun b H3 =>
    if b = true then te σ2 H3 fun y H4 => N (ys ++ [y]) σ2 H4 else N ys σ2 H3))
  (hRR : ∀ D C oC m s' H', WI X (pins ++ [(C, oC)]) σ H' s' -> s'.heap.Ns C m -> Q (.ref D) H' -> X.s₀.heap.objs.size <= C -> (∀ x c, X.env.cells.lookup x = some c -> c ≠ C) -> (∀ p ∈ X.pn ++ pins, p.1 ≠ C) -> s'.heap.get? C = some oC ->
   RR (.ref D) C (.ok .next) s') {E : Value -> Shared -> Prop} :
  wpAny (model X.prog X.w) X.A (newList []) (fun acc s₃ => wpAny (model X.prog X.w) X.A (newFunctionEnv scope X.env.globals cl [] X.env.qual none .none (some X.env)) (fun cenv s₄ =>
   codeAny (model X.prog X.w) X.A (.compStart (.ListComp elt [⟨tg, iter, ifs, 0⟩] scope pos) 0 (.ref it) acc { cenv with scope := relabel scope X.env }) (RR acc cenv.locals) s₄) E s₃) E s2 := by
 refine YS (wpAny_newFunctionEnv S.nocell (by intro y hy;simp at hy) (fun h₁ hns₁ hsb₁=>?_) S.kind);dsimp only at hns₁ hsb₁ ⊢;generalize hH2:s2.heap.push {cls:=.type "list",dict:=none,data:=.seq ([]:WC).toArray}=HP at hns₁ hsb₁ ⊢;have hC:HP.objs.size=s2.heap.objs.size+ 1:=by rw[<-hH2,Ud]
 generalize hCC:HP.objs.size=C at hns₁ hsb₁ hC ⊢;have hDC:s2.heap.objs.size≠C:=by rw[hC];exact Yr (Ue _)
 have aa:∀b,b < s2.heap.objs.size->b≠C:=fun b f=>by rw[hC];exact Yr (XS f)
 have old:∀b o,s2.heap.get? b=some o->h₁.get? b=some o:=fun b o e=>hsb₁.extBut b o (aa b (Ye e)) (Y7 _ (hH2▸Y7 _ e))
 have hacc:h₁.get? s2.heap.objs.size=some (T8 [] 0):=hsb₁.extBut _ _ hDC (Y7 _ (hH2▸Yi _ rfl));have fpLt:∀b∈fp,b < s2.heap.objs.size:=fun b f=>by obtain⟨o,e,_⟩:=T.obj _ _ st b f;exact Ye e
 have st₁:tn 0 h₁:=T.keep _ _ _ st fun b _ o e=>old b o e
 have sz:X.s₀.heap.objs.size <=s2.heap.objs.size:=I.sz;have cellLt:∀x c,X.env.cells.lookup x=some c->c < s2.heap.objs.size:=fun x c e=>by obtain⟨v,q⟩:=I.cell x c e;exact q.lt
 have okX:(JQ X N' scope cl C s2 H2 fp).Ok:=by
  refine ⟨I.ok.mod, S.kind, I.ok.glob, I.ok.blt, by show s2.heap.objs.size <= C; rw [hC]; exact XD _, fun x y c a b => I.ok.inj x y c (hcl1 x c a) (hcl1 y c b), fun x hx => ?_, (fun x c z => by cases z), I.ok.hd, I.ok.frames, .inl rfl,
   fun b f => ⟨aa b (fpLt b f), fun x c e => (f2 b f).2.2.2.2.1 x c (hcl1 x c e)⟩, I.bs, YW I.ok.bsz sz, fun b o e f => ?_, fun b f z => ?_, I.stack, I.stkFree⟩
  .have key:∀k,(k=NameKind.cell\/k=NameKind.free)->(relabel scope X.env).names.lookup x=some k->∃c,cl.lookup x=some c:=fun k hk hx=>by
    rcases Fl hx with z|⟨_,z⟩
    .rcases hk with rfl|rfl
     .exact absurd rfl (S.nocell _ z)
     .exact hcl2 x z
    .exact hcl2 x z
   rcases hx with hx|hx
   .exact key _ (.inl rfl) hx
   .exact key _ (.inr rfl) hx
  .rcases(f2 b f).2.2.2.1 with z|z
   .exact I.ok.noex b o e z
   .exact absurd (Yz (Ye (I.ok.bs b o e).1) z) (Xe _)
  .rcases Yu.mp (I.stkSub b z) with y|y
   .exact(f2 b f).2.1 y
   .exact(f2 b f).2.2.1 y
 have freshC:∀b,s2.heap.objs.size <=b->H2 b=none:=fun b f=>I.hok.fresh f
 have capI:WI (JQ X N' scope cl C s2 H2 fp) [(s2.heap.objs.size,T8 [] 0)] (JH caps σ) H2 {s2 with heap:=h₁,toks:=s2.toks+ ([]:List (Str×Value)).length}:=by
  refine⟨okX,rfl,I.bare,Un.kept old,⟨_,hns₁,fun i x v e1 e2 e3=>?_⟩,fun x c e=>?_,freshC C (by rw[hC];exact XD _),fun x c e=>I.freeC x c (hcl1 x c e),fun p hp=>?_,I.hok.kept old,?_⟩
  .have e2':(caps[i]?).map (fun o=>o.bind fun j=>(σ[j]?).join)=some (some v):=by
    unfold JH at e2;rw[Yf]at e2;exact e2
   cases q:caps[i]? with
   |none=>rw[q]at e2';cases e2'
   |some o=>
    rw[q]at e2';cases o with
    |none=>cases e2'
    |some j=>
     have hv:(σ[j]?).join=some v:=Yn e2';obtain⟨hN,hfr,honly⟩:=S.cap.2 i j x e1 q;have hσ:σ[j]?=some (some v):=by
      cases r:σ[j]? with
      |none=>rw[r]at hv;cases hv
      |some o=>rw[r]at hv;rw[<-hv];rfl
     obtain⟨m,hn,hl⟩:=I.loc;have hkx:=S.vis x hfr;obtain⟨u,ru,lk⟩:=hl j x v hN hσ (by rcases hkx with z|z;exact .inr (.inl z);exact .inr (.inr z));refine⟨u,ru,.inr ?_⟩;obtain⟨c,hc'⟩:=hcl2 x hfr;have hcx:=hcl1 x c hc';rcases lk with⟨z,_⟩|⟨_,c',hc2,hcell⟩
     .rcases hkx with y|y <;> rw[y]at z <;> cases z
     .rw[hcx]at hc2;cases hc2;have hcell':h₁.IsCell c (some u):=by
       obtain⟨oc,q1,q2⟩:=hcell;exact⟨oc,old c oc q1,q2⟩
      refine⟨?_,c,hc',hcell'⟩;rcases e3 with z|z|z
      .rcases Fl z with y|⟨y,_⟩
       .have:=honly _ y;cases this
       .cases y
      .exact .inl z
      .exact .inr z
  .obtain⟨v,oc,q1,q2⟩:=I.cell x c (hcl1 x c e);exact⟨v,oc,old c oc q1,q2⟩
  .have e:p=(s2.heap.objs.size,T8 [] 0):=by simpa[JQ] using hp
   subst e;refine ⟨hacc, freshC _ (Y6 _), hDC, fun z => ?_, fun v z => by cases z⟩;exact absurd (show s2.heap.objs.size < s2.heap.objs.size from by
    rcases Yu.mp (I.stkSub _ z) with y|y
    .exact absurd (I.lt) (by rw[<-y];exact Xe _)
    .exact absurd y (I.nofs (Y6 _))) (Xe _)
  .unfold JH;rw[Y1];exact S.cap.1
 generalize hX':JQ X N' scope cl C s2 H2 fp=X' at okX capI;have ePr:X'.prog=X.prog:=by rw[<-hX'];rfl
 have eW:X'.w=X.w:=by rw[<-hX'];rfl
 have eK:X'.K=X.K:=by rw[<-hX'];rfl
 have eA:X'.A=X.A:=by rw[<-hX'];rfl
 have eEnv:X'.env=compEnvC scope cl C X.env:=by rw[<-hX'];rfl
 have eXe:X'.xe=fun _ _=>False:=by rw[<-hX'];rfl
 have eCalm:X'.calm=true:=by rw[<-hX'];exact hc
 have eLoc:X'.env.locals=C:=by rw[eEnv];rfl
 have eS0:X'.s₀=s2:=by rw[<-hX'];rfl
 have eEx:X'.ex=fp:=by rw[<-hX'];rfl
 have eFs:X'.fs=M9 X.stack:=by rw[<-hX'];rfl
 have eCells:X'.env.cells=cl:=by rw[eEnv];rfl
 have ePn:X'.pn=[]:=by rw[<-hX'];rfl
 have eH0:X'.H₀=H2:=by rw[<-hX'];rfl
 have hgX:PG X' tg g:=hX'▸hg cl C s2 H2 fp;have htX:DK X' ifs tc:=hX'▸ht C;have heX:PE X' elt te:=hX'▸he cl C s2 H2 fp;obtain⟨m0,w0⟩:=w0;have nDfs:s2.heap.objs.size∉X'.fs:=fun z=>by
  rw[eFs]at z;rcases Yu.mp (I.stkSub _ z) with y|y
  .exact absurd (I.lt) (by rw[<-y];exact Xe _)
  .exact absurd y (I.nofs (Y6 _))
 have fpX:∀{H':Hp} {its:WC} {n:Nat},(∀b∈fp,H' b=none)->∀b∈fp,TZ X' [(s2.heap.objs.size,T8 its n)] H' b:=fun {H' its n} hn b f=>by
  refine⟨hn b f,by rw[eLoc];exact aa b (fpLt b f),fun z=>?_,.inl (by rw[eEx];exact f),fun x c e=>?_,fun p hp z=>?_⟩
  .rw[eFs]at z;rcases Yu.mp (I.stkSub b z) with y|y
   .exact(f2 b f).2.1 y
   .exact(f2 b f).2.2.1 y
  .rw[eCells]at e;exact(f2 b f).2.2.2.2.1 x c (hcl1 x c e)
  .rw[ePn]at hp;have e:p=(s2.heap.objs.size,T8 its n):=by simpa using hp
   subst e;exact absurd (fpLt b f) (by rw[<-z];exact Xe _)
 have loop:∀s₃:Shared,s₃={s2 with heap:=h₁,toks:=s2.toks+ ([]:List (Str×Value)).length}->
   codeAny (model X.prog X.w) X.A (.compLoop (.ListComp elt [⟨tg,iter,ifs,0⟩] scope pos) 0 (.ref it) (.ref s2.heap.objs.size) (compEnvC scope cl C X.env)) (RR (.ref s2.heap.objs.size) C) s₃:=by
  rintro s₃ rfl;rw[<-eEnv,<-eA];refine xR (fun n s'=>∃i ys its k σ' H',WI X' [(s2.heap.objs.size,T8 its k)] σ' H' s'/\tn i s'.heap/\(∀b∈fp,H' b=none)/\WO ys its/\W i n ys σ' H') ?_ m0
   ⟨0,[],[],0,JH caps σ,H2,capI,st₁,fun b f=>(f2 b f).1,.nil,w0⟩
  intro n s' Zq;obtain⟨i,ys,its,k,σ',H',I',st',fr',rv',w'⟩:=Zq;rcases turn i n ys σ' H' w' with⟨stop,hsz,q⟩|⟨go,hsz,NN,hNN,step⟩
  .refine J8 (T.done X' ePr eW eK eCalm i _ s' σ' H' (fun _ _=>False) I' (fpX fr') st' stop) fun r s4 ⟨hr,I4⟩=>?_
   subst hr;have pinD:=(I4.pin (s2.heap.objs.size,T8 its k) (by rw[ePn];simp)).1;have freeD:=(I4.pin (s2.heap.objs.size,T8 its k) (by rw[ePn];simp)).2.1;have hq:=q s2.heap.objs.size freeD;obtain⟨mC,hnC,_⟩:=id I4.loc;rw[eLoc]at hnC;obtain⟨oC,es,ep,hoC,hdC,_⟩:=id hnC;have freeC':H' C=none:=by have:=I4.free;rw[eLoc]at this;exact this
   have l:=I4.base;rw[eS0,eEx,eFs,eH0]at l;have neD:∀b o,s2.heap.get? b=some o->b≠s2.heap.objs.size:=fun b o e=>Yr (Ye e)
   have neDH:∀b o,H2 b=some o->b≠s2.heap.objs.size:=fun b o e=>Yr (I.hok.lt e)
   have un4:Un (M9 X.stack) fp H2 (upd H' s2.heap.objs.size (.lst ys)) s2.heap s4.heap:=
    ⟨l.keep, l.slot, fun b o e n hx => by rw [Jb (neD b o e)]; exact l.free b o e n hx, l.there, fun b xs e => by rw [Jb (neDH b _ e)]; exact l.tups b xs e,
     fun b o u e => by rw [Jb (neDH b _ e)]; exact l.frzs b o u e, fun b ps e => by rw [Jb (neDH b _ e)]; exact l.tbls b ps e⟩
   have hok4:No X.prog X.w (upd H' s2.heap.objs.size (.lst ys)) s4.heap:=by
    have h4:=I4.hok;rw[ePr,eW]at h4;intro b u e
    by_cases f:b=s2.heap.objs.size
    .subst f;rw[JD]at e;cases e;exact⟨hsz,its,k,rv',pinD⟩
    .rw[Jb f]at e;refine(h4 b u e).stay (fun c v _ z=>z) (fun c z=>?_) (fun c xs z=>?_)
     .rw[Jb];exact z;intro zz;rw[zz,freeD]at z;cases z
     .rw[Jb];exact z;intro zz;rw[zz,freeD]at z;cases z
   have os4:s4.os=s2.os:=by have:=I4.os;rw[eS0]at this;exact this
   have J4:WI X pins σ (upd H' s2.heap.objs.size (.lst ys)) s4:=I.call' (ch:=fp) os4 un4 hok4 I4.bare fun b f=>⟨(f2 b f).2.2.2.1,(f2 b f).2.1,(f2 b f).2.2.2.2.1,(f2 b f).2.2.2.2.2⟩
   have hCle:X.s₀.heap.objs.size <=C:=by rw[hC];exact Vz sz
   have hCcell:∀x c,X.env.cells.lookup x=some c->c≠C:=fun x c e=>aa c (cellLt x c e)
   have hCpin:∀p∈X.pn++pins,p.1≠C:=fun p hp=>aa p.1 (Ye (I.pin p hp).1)
   have hCl:C≠X.env.locals:=fun z=>absurd I.lt (by rw[<-z,hC];exact Nat.not_lt.mpr (XD _))
   refine hRR s2.heap.objs.size C oC mC s4 _ (J4.pins_of fun p hp=>?_) hnC hq hCle hCcell hCpin hoC;rcases Yb.mp hp with z|z
   .exact J4.pin p (Yx _ z)
   .have e:p=(C,oC):=by simpa using z
    subst e;refine⟨hoC,by rw[Jb (Ne.symm hDC)];exact freeC',hCl,fun z=>?_,fun v z=>by rw[hdC]at z;cases z⟩;exact I.nofs (by rw[hC];exact XD _) z
  .refine J8 (T.item X' ePr eW eK eCalm i _ s' σ' H' (fun _ _=>False) I' (fpX fr') st' go) fun r s4 ⟨u,hr,h4⟩=>?_
   subst hr;refine J8 h4 fun _ s5 zz=>?_;rcases zz with⟨x,H5,I5,r5,y5,st5,fr5⟩
   have I5':=I5.pinned (fpX fr5) (T.obj _ _ st5);have xeF:∀{α:Type} {t:Sem α} {Q:α->Shared->Prop} {s:Wu},wpAny (model X.prog X.w) X'.A t Q X'.xe s->wpAny (model X.prog X.w) X'.A t Q (fun _ _=>False) s:=fun h=>by rw[eXe]at h;exact h
   have ag:=hgX _ s5 σ' H5 x u _ I5' r5 (step x H5 y5);rw[ePr,eW]at ag;refine J8 (xeF ag) fun _ s6 zz=>?_;rcases zz with⟨σ6,H6,I6,q6⟩
   have at':=htX _ s6 σ6 H6 _ I6 q6;rw[ePr,eW]at at';refine J8 (xeF at') fun b s7 ⟨H7,I7,q7⟩=>?_
   -- what the pins say behind the turn
   have back:∀{s8:Wu} {H8:Hp},WI X' ([(s2.heap.objs.size,T8 its k)]++Ba fp s5.heap) σ6 H8 s8->tn (i+ 1) s8.heap/\(∀b∈fp,H8 b=none)/\WI X' [(s2.heap.objs.size,T8 its k)] σ6 H8 s8:=fun {s8 H8} I8=>by
    refine⟨T.keep _ _ _ st5 fun b f o e=>(I8.pin (b,o) (Yx _ (Yx _ (Ac f e)))).1,fun b f=>?_,I8.unpinned⟩;obtain⟨o,e,d⟩:=T.obj _ _ st5 b f;exact(I8.pin (b,o) (Yx _ (Yx _ (Ac f e)))).2.1
   cases b with
   |false=>
    simp only[Bool.false_eq_true,if_false]at q7 ⊢;obtain⟨m',hm,w7⟩:=hNN _ _ _ q7;obtain⟨t7,f7,I7'⟩:=back I7;exact⟨m',hm,i+ 1,ys,its,k,σ6,H7,I7',t7,f7,rv',w7⟩
   |true=>
    simp only[if_true]at q7 ⊢;have ae:=heX _ s7 σ6 H7 _ I7 q7;rw[ePr,eW]at ae;refine J8 (xeF ae) fun y s8 zz=>?_;rcases zz with⟨yv,H8,I8,r8,n8⟩
    obtain⟨m',hm,w8⟩:=hNN _ _ _ n8;obtain⟨t8,f8,I8'⟩:=back I8;have pinD:=I8'.pin (s2.heap.objs.size,T8 its k) (by rw[ePn];simp);have hlen:=rv'.length;refine append_at (its:=its.toArray) (n:=k) (hsz:=by rw[Yc,<-hlen];exact XJ hsz) pinD.1 fun h9 hs9 hD9=>?_
    have I9:WI X' [] σ6 H8 {s8 with heap:=h9,toks:=s8.toks}:=by
     refine(I8'.pins_of (pins':=[]) fun p hp=>by simp at hp).turned (it:=s2.heap.objs.size) (fun b o f e=>(hs9.2 b f).trans e) pinD.2.1 (by rw[eLoc];exact hDC) (.inr (by rw[eS0];exact Y6 _)) (fun x c e=>?_) fun p hp=>?_
     .rw[eCells]at e;exact Yr (cellLt x c (hcl1 x c e))
     .rw[ePn]at hp;simp at hp
    have ePush:({cls:=.type "list",data:=.seq (its.toArray.push y) (k+ 1)}:Obj)=T8 (its++[y]) (k+ 1):=by unfold T8;rw[List.push_toArray]
    rw[ePush]at hD9;refine⟨m',hm,i+ 1,ys++[yv],its++[y],k+ 1,σ6,H8,?_,T.keep _ _ _ t8 fun b f o e=>(hs9.2 b (Yr (fpLt b f))).trans e,f8,rv'.append (.cons r8 .nil),w8⟩;refine I9.pins_of fun p hp=>?_
    have e:p=(s2.heap.objs.size,T8 (its++[y]) (k+ 1)):=by simpa using hp
    subst e;exact⟨hD9,pinD.2.1,by rw[eLoc];exact hDC,nDfs,fun v z=>by cases z⟩
 exact codeAny_compStart_list (loop _ rfl) (T.self _ 0 _ _ _ st₁ (loop _ rfl))
theorem WI.cellsOf{pins:Ws}{σ:St}{H:Hp}{s:Wu}(I:WI X pins σ H s)(S:BB X N' scope caps):∀x,(x,NameKind.free)∈scope.names->∃c,X.env.cells.lookup x=some c:=
 fun x a=>I.ok.has x (S.vis x a)
theorem TU(S:BB X N' scope caps)(hc:X.calm=true)(hi:PI X tg iter wi)
  (hg:∀cl C s H ex,PG (JQ X N' scope cl C s H ex) tg g) (ht:∀cl C s H ex,DK (JQ X N' scope cl C s H ex) ifs tc) (he:∀cl C s H ex,PE (JQ X N' scope cl C s H ex) elt te)
  (hs:∀x,foldedSetIterable iter X.env x=pure x:=by intro _;rfl):PE X (.ListComp elt [⟨tg,iter,ifs,0⟩] scope pos) (AJ caps wi g tc te):=by
 intro pins s σ H Q I h;obtain⟨cl,r,i,f⟩:=CW (I.cellsOf S);rw[eval_ListComp];refine wpAny_comprehension_free (use:=none) rfl hs r S.kind S.locs (J8 (hi pins s σ H _ I h) fun v s1 h1=>J8 h1 fun itv s2 h2=>?_);obtain⟨it,fp,tn,J,H2,e,I2,T,l,f2,W,t,c⟩:=h2;subst e;refine PF S hc i f hg (fun C=>ht _ C _ _ _) he I2 T l f2 W t c fun D C u m s' H' j z q hC a d hoC=>?_
 refine⟨m,z,fun h' hs'=>⟨.ref D,H',?_,rfl,q⟩⟩;have n:=j.pin (C,u) (Yx _ (Yx _ (by simp)));exact(j.pins_of (pins':=pins) fun p w=>j.pin p (Yx _ (Xf _ w))).turned (t':=s'.toks) (it:=C) (fun b o hb e=>(hs'.2 b hb).trans e) n.2.1 n.2.2.1 (.inr hC) a d
theorem Cq{i:Nat}{x:Str}{pos' spos:Pos}(S:BB X N' scope caps)(hc:X.calm=true)(hN:X.N.Nodup)(hix:X.N[i]?=some x)(hx:RQ X.env.scope x)(hi:PI X tg iter wi)
  (hg:∀cl C s H ex,PG (JQ X N' scope cl C s H ex) tg g) (ht:∀cl C s H ex,DK (JQ X N' scope cl C s H ex) ifs tc) (he:∀cl C s H ex,PE (JQ X N' scope cl C s H ex) elt te)
  (hsw:swapsWith (.ListComp elt [⟨tg,iter,ifs,0⟩] scope pos) (some (.Name x pos')) spos.line X.env=pure true)
  (hf:X.fn x=true\/X.env.scope.names.lookup x=some .local:=by first|exact .inl rfl|exact .inr rfl|assumption)
  (hs:∀x,foldedSetIterable iter X.env x=pure x:=by intro _;rfl):PS X (.Assign [.Name x pos'] (.ListComp elt [⟨tg,iter,ifs,0⟩] scope pos) spos) (RK (AJ caps wi g tc te) (GY i)):=by
 intro pins s σ H D I h;obtain ⟨cl, ecl, t, n⟩ := CW (I.cellsOf S);rw [exec_Assign_Name_used _ _ _ _ hsw];refine Y0 (Vt (Y0 ?_));show wpAny _ X.A (do let _ <- comprehension (.ListComp elt [⟨tg, iter, ifs, 0⟩] scope pos) scope X.env _ (newList []) false (eval iter X.env) (some (assign (.Name x pos') X.env))) _ _ s;refine Y0 (YL (wpAny_comprehension_free (use := some (assign (.Name x pos') X.env)) (Q := fun _ s' => SP X pins D .next s') rfl hs ecl S.kind S.locs
  (J8 (hi pins s σ H _ I h) fun v s1 h1 => J8 h1 fun itv s2 h2 => ?_)) (fun _ s' hq => Y2 (Y2 hq)) fun _ _ e => e)
 obtain⟨it,fp,tn,J,H2,e,I2,T,w,f2,W,w0,f⟩:=h2;subst e;refine PF (Q:=fun x H1=>GY i x σ H1 D.nx) S hc t n hg (fun C=>ht _ C _ _ _) he I2 T w f2 W w0 f fun u C z m s' H' I' hn q hC c l aa=>?_
 show wpAny _ X.A (assign (.Name x pos') X.env (.ref u)) _ _ _;refine wpAny_assign_Name (Hv I' hN hix hx (v:=.ref u) rfl (fun d a=>?_) hf);have j:=a.pin (C,z) (Yx _ (Yx _ (by simp)));have hn':d.heap.Ns C m:=by
  obtain⟨o,es,ep,ho,r⟩:=hn;rw[aa]at ho;cases ho;exact⟨z,es,ep,j.1,r⟩
 refine⟨m,hn',fun h' hs'=>⟨σ.set i (some (.ref u)),H',?_,q⟩⟩;exact(a.pins_of (pins':=pins) fun p hp=>a.pin p (Yx _ (Xf _ hp))).turned (t':=d.toks) (it:=C) (fun b o hb e=>(hs'.2 b hb).trans e) j.2.1 j.2.2.1 (.inr hC) c l
theorem L4{K:Wy}{a:WA}{xs:List V}{σ:St}{H1:Hp}{Q:VK}(Pv:Nat->List V->St->Hp->Prop)(h0:Pv 0 [] (JH caps σ) H1)(hl:∀i ys σ H,Pv i ys σ H->i <=xs.length->WJ K H a xs/\ys.length <=i)(hz:xs.length <=sizeLine)
  (hs:∀i x ys σ H,xs[i]?=some x->Pv i ys σ H->g x σ H fun σ2 H2=>tc σ2 H2 fun b H3=>if b=true then te σ2 H3 fun y H4=>Pv (i+ 1) (ys++[y]) σ2 H4 else Pv (i+ 1) ys σ2 H3)
  (hd:∀ys σ H,Pv xs.length ys σ H->∀p,H p=none->Q (.ref p) (upd H p (.lst ys))):
  E5 caps g tc te σ Q (GH K a) H1:=by
 refine⟨fun i m ys σ H=>m=xs.length - i/\i <=xs.length/\Pv i ys σ H,⟨xs.length,by simp,Yj _,h0⟩,?_⟩;intro i m ys σ H Zq;obtain⟨rfl,hi,p⟩:=Zq;obtain⟨q,f⟩:=hl i ys σ H p hi
 by_cases hlt:i < xs.length
 .refine .inr ⟨⟨xs,xs[i],q,by simp[hlt]⟩,by lia,Pv (i+ 1),fun d σ' H' c=>⟨xs.length - (i+ 1),by lia,rfl,hlt,c⟩,fun x H' y=>?_⟩;obtain⟨e,y⟩:=y;subst e;exact hs i x ys σ _ (y xs q) p
 .have e:i=xs.length:=by lia
  subst e;exact .inl ⟨⟨xs,q,Y6 _⟩,by lia,hd ys σ H p⟩
theorem wZ{lo:Int}{n:Nat}{σ:St}{H1:Hp}{Q:VK}(Pv:Nat->List V->St->Hp->Prop)(h0:Pv 0 [] (JH caps σ) H1)(hl:∀i ys σ H,Pv i ys σ H->i <=n->ys.length <=i)(hz:n <=sizeLine)
  (hs:∀i ys σ H,i < n->Pv i ys σ H->g (.int (lo+ i)) σ H fun σ2 H2=>tc σ2 H2 fun b H3=>if b=true then te σ2 H3 fun y H4=>Pv (i+ 1) (ys++[y]) σ2 H4 else Pv (i+ 1) ys σ2 H3)
  (hd:∀ys σ H,Pv n ys σ H->∀p,H p=none->Q (.ref p) (upd H p (.lst ys))):
  E5 caps g tc te σ Q (GZ lo n) H1:=by
 refine⟨fun i m ys σ H=>m=n - i/\i <=n/\Pv i ys σ H,⟨n,by simp,Yj _,h0⟩,?_⟩;intro i m ys σ H Zq;obtain⟨rfl,hi,p⟩:=Zq;have d:=hl i ys σ H p hi
 by_cases hlt:i < n
 .refine .inr ⟨hlt,by lia,Pv (i+ 1),fun c σ' H' a=>⟨n - (i+ 1),by lia,rfl,hlt,a⟩,fun x H' y=>?_⟩;obtain⟨e,y⟩:=y;subst e y;exact hs i ys σ _ hlt p
 .have e:i=n:=by lia
  subst e;exact .inl ⟨Y6 _,by lia,hd ys σ H p⟩
end
mutual
inductive Dp(K:Wy)(H:Hp):V->PyData->Prop
 |non:Dp K H .non .none
 |bl (b:Bool):Dp K H (.bl b) (.bool b)
 |int (i:Int):Dp K H (.int i) (.int i)
 |str (x:Str):Dp K H (.str x) (.str x)
 |lst {a:WA} {xs:List V} {ds:List PyData}:WJ K H a xs->Nz K H xs ds->Dp K H (.ref a) (.list ds)
 |tup {a:WA} {xs:List V} {ds:List PyData}:N9 K H a xs->Nz K H xs ds->Dp K H (.ref a) (.tuple ds)
inductive Nz(K:Wy)(H:Hp):List V->List PyData->Prop
 |nil:Nz K H [] []
 |cons {x:V} {xs:List V} {d:PyData} {ds:List PyData}:Dp K H x d->Nz K H xs ds->Nz K H (x::xs) (d::ds)
end
theorem Nz.ints{K:Wy}{H:Hp}:∀ns:List Int,Nz K H (ns.map V.int) (ns.map PyData.int)
 |[]=>.nil
 |_::r=>.cons (.int _) (Nz.ints r)
theorem C3(ns:WB):SeqAt.shaped (.list (ns.map PyData.int))=true:=by
 have h1:∀ns:List Int,PyData.canLayAll0 (ns.map PyData.int)=true:=fun ns=>by
  induction ns with
  |nil=>rfl
  |cons n r ih=>simp[PyData.canLayAll0,PyData.canLay0,ih]
 have h2:∀ns:List Int,PyData.depthAll (ns.map PyData.int) <=2:=fun ns=>by
  induction ns with
  |nil=>simp[PyData.depthAll]
  |cons n r ih=>simp[PyData.depthAll,PyData.depth];lia
 have a:=h2 ns;simp[SeqAt.shaped,PyData.canLay0,h1 ns,PyData.depth];lia
section
variable{X:Cx}{pins:Ws}{σ:St}{H:Hp}{s:Wu}
mutual
theorem WI.reads(I:WI X pins σ H s):∀{x:V} {d:PyData} {u:Wz},Dp X.K H x d->WU x u->∃as,Reads s.heap u d as
 |_,_,u,.non,r=>by cases (show u=Value.none from r);exact⟨_,.none⟩
 |_,_,u,.bl b,r=>by cases (show u=Value.bool b from r);exact⟨_,.bool b⟩
 |_,_,u,.int i,r=>by obtain⟨t,rfl⟩:=(show ∃t,u=Value.int i t from r);exact⟨_,.int i t⟩
 |_,_,u,.str x,r=>by obtain⟨t,rfl⟩:=(show ∃t,u=Value.str x t from r);exact⟨_,.str x t⟩
 |_,_,u,.lst (a:=a) hl hd,r=>by
  cases (show u=Value.ref a from r);obtain⟨j,f,⟨o,n,e,h,_,c⟩,l⟩:=I.list hl;obtain⟨as,g⟩:=WI.readsAll I hd f;exact⟨_,.list e h c (by simpa using g)⟩
 |_,_,u,.tup (a:=a) hl hd,r=>by
  cases (show u=Value.ref a from r);obtain⟨j,f,⟨o,e,h,n,c⟩,l⟩:=I.tuple hl;obtain⟨as,g⟩:=WI.readsAll I hd f;exact⟨_,.tuple e h c (by simpa using g)⟩
theorem WI.readsAll(I:WI X pins σ H s):∀{xs:List V} {ds:List PyData} {us:WC},Nz X.K H xs ds->WO xs us->∃as,ReadsAll s.heap us ds as
 |_,_,_,.nil,r=>by cases r;exact⟨_,.nil⟩
 |_,_,_,.cons h t,r=>by
  cases r with
  |cons r1 r2=>
   obtain⟨as,ra⟩:=WI.reads I h r1;obtain⟨bs,a⟩:=WI.readsAll I t r2;exact⟨_,.cons ra a⟩
end
end
def Pb(K:Wy):R2:=fun x y H Q=>∃d e,Dp K H x d/\Dp K H y e/\SeqAt.shaped d=true/\SeqAt.shaped e=true/\Q (.bl (PyData.eqv d e)) H
def P5(K:Wy):R2:=fun x y H Q=>∃d e,Dp K H x d/\Dp K H y e/\SeqAt.shaped d=true/\SeqAt.shaped e=true/\Q (.bl (!PyData.eqv d e)) H
section
variable{X:Cx}
theorem Sd(hu:X.A.units+ 64 < cLine):JJ X (compareOp .Eq) (Pb X.K):=by
 intro pins s σ H x y v u Q I rx ry h;obtain⟨d,e,h1,h2,s1,s2,q⟩:=h;obtain⟨c,b⟩:=I.reads h1 rx;obtain⟨bs,a⟩:=I.reads h2 ry;exact eq_dataH b a s1 s2 hu (Nx I q rfl)
theorem Zg(hu:X.A.units+ 64 < cLine):JJ X (compareOp .NotEq) (P5 X.K):=by
 intro pins s σ H x y v u Q I rx ry h;obtain⟨d,e,h1,h2,s1,s2,q⟩:=h;obtain⟨c,b⟩:=I.reads h1 rx;obtain⟨bs,a⟩:=I.reads h2 ry;exact ne_dataH b a s1 s2 hu (Nx I q rfl)
def FD:R2:=fun x y H Q=>∃i j,x= .str i/\y= .str j/\Q (.bl (!decide (j.cps.toList < i.cps.toList))) H
theorem Lh:JJ X (compareOp .LtE) FD:=by
 intro pins s σ H x y v u Q I rx ry h;obtain⟨i,j,rfl,rfl,q⟩:=h;obtain⟨t,rfl⟩:=rx;obtain⟨a,rfl⟩:=ry;exact PySem.P.le_str (Nx I q rfl)
theorem nN(hc:X.calm=true):J9 X (.builtin "all") (fun xs H Q=>∃ (p:WA) (bs:List Bool),xs=[.ref p]/\WJ X.K H p (bs.map V.bl)/\Q (.bl (bs.all id)) H):=by
 intro pins s σ H xs us Q I r h;obtain⟨p,bs,rfl,hq,q⟩:=h;obtain⟨u,rfl,rx⟩:=D4 r;cases rx;obtain⟨a,l,pl,hz⟩:=I.list hq;have hh:X.A.in1.handled=none:=I.ok.hd hc;have g:=pl.isList;have t:p < s.heap.objs.size:=by obtain⟨_,e,_⟩:=g;exact Ye e
 have f:bs.length=a.length:=by have:=l.length;simpa using this
 refine call_all_walk (UT g ⟨s.heap.objs.size,_,_,_,_,_,fun i=>bs.getD i false,rfl,Walks.list hh s.heap.objs.size p (Yr t) a.toArray,⟨⟨_,Yi _ rfl,rfl,rfl⟩,g.push _⟩,?_,?_⟩)
 .intro i v s' Q' E' hv j;have c:a[i]?=some v:=by simpa using hv
  cases e:bs[i]? with
  |none=>
   have:a[i]?=none:=by
    rw[VG]at e ⊢;lia
   rw[this]at c;cases c
  |some b=>
   obtain⟨u,n,z⟩:=l.get (i:=i) (x:=V.bl b) (by rw[Yf,e];rfl);rw[c]at n;cases n;cases (show v=Value.bool b from z);have:bs.getD i false=b:=by simp[List.getD,e]
   dsimp only at j;rw[this]at j;exact Xk j
 .intro h' tk hk;have e:(List.range a.toArray.size).all (fun i=>bs.getD i false)=bs.all id:=by
   rw[Yc,<-f,Xt,Xn,Xn];constructor
   .intro h x hx;obtain⟨i,hi,rfl⟩:=XM.mp hx;have:=h i (Vl.mpr hi);simpa[List.getD,hi] using this
   .intro h i hi;have d:=Vl.mp hi;have:=h bs[i] (Xw d);simpa[List.getD,d] using this
  rw[e];exact⟨.bl (bs.all id),H,I.kept (t':=tk) fun b o w=>hk b o (by simpa using Yr (Ye w)) (Y7 _ w),rfl,q⟩
def Qc:V->Value
 | .ty n=>.type n
 | .ref a=>.ref a
 |_=>.none
def Zu:V->Bool
 | .ty _=>true
 | .ref _=>true
 |_=>false
def Zk(K:Wy):List V->Hp->VK->Prop:=fun xs H Q=>∃x c t b,xs=[x,c]/\Dk K H x t/\Zu c=true/\W.kitOne K t (Qc c)=some b/\Q (.bl b) H
theorem Q1:J9 X (.builtin "isinstance") (Zk X.K):=by
 intro pins s σ H xs i Q I r h;obtain⟨x,c,t,b,rfl,ty,g,e,q⟩:=h;obtain⟨u,a,rfl,rx,d⟩:=Qh r;have f:a=Qc c:=by cases c <;> first|exact d|cases g
 subst f;exact wC I rx ty e fun tk=>⟨.bl b,H,I.tok tk,rfl,q⟩
def Fa(x:Str):It:=⟨fun i _=>i < x.cps.size,fun i H v H'=>H'=H/\∃c,x.cps[i]?=some c/\v= .str ⟨#[c]⟩,fun i _=>i=x.cps.size⟩
theorem KZ{P:Wt}{w:Wx}{K:PySem.W.Frag}{tg:WE}{it:WA}{ty:String}{x:Str}{t:Tok}
  (W:∀A:Around,A.handled=none->Walks P w A it [it] [it] x.cps.size (SignAt x) (fun i h=>h.IsStrIter it ty x t i))
  (hself:∀ (A:Ww) (i:Nat) (s:Wu) (Q:Wq) (E:Wq),s.heap.IsStrIter it ty x t i->Q (.ref it) s->wpAny (model P w) A (pyIter (.ref it)) Q E s)
  (hn:["enumerate","zip","dict_itemiterator","dict_reverseitemiterator","odict_iterator","itertools.zip_longest","itertools.pairwise"].contains ty=false):
  El P w K tg (Fa x) [it] it (fun i h=>h.IsStrIter it ty x t i) where
 mem:=by simp
 obj:=fun i h st b a=>by
  have e:b=it:=by simpa using a
  subst e;obtain⟨o,e,c,d⟩:=st;exact⟨o,e,fun v z=>by rw[d]at z;cases z⟩
 keep:=fun i h h' st k=>by obtain⟨o,e,r⟩:=st;exact⟨o,k it (by simp) o e,r⟩
 item:=by
  intro X p g q n i pins s σ H E I hf st l;subst p g q;obtain⟨f0,f1,f2,f3,f4,f5⟩:=hf it (by simp);refine(W X.A (I.ok.hd n)).item i s _ _ l st fun v h' tk hv f j=>?_
  obtain⟨c,u,hc',rfl⟩:=hv;have I1:WI X pins σ H {s with heap:=h',toks:=tk}:=I.turned (t':=tk) (fun b o a e=>j b o (by simpa using a) e) f0 f1 f3 f4 f5;obtain⟨o,e,cc,d⟩:=id f;exact⟨_,rfl,K6 (s:={s with heap:=h',toks:=tk}) e cc d hn ⟨.str ⟨#[c]⟩,H,I1,⟨u,rfl⟩,⟨rfl,c,hc',rfl⟩,f,fun b a=>(hf b a).1⟩⟩
 done:=by
  intro X p g q n i pins s σ H E I hf st l;subst p g q;obtain⟨f0,f1,f2,f3,f4,f5⟩:=hf it (by simp);have hg':i=x.cps.size:=l;subst hg';exact(W X.A (I.ok.hd n)).done s _ _ st fun h' tk j=>⟨rfl,I.turned (t':=tk) (fun b o a e=>j b o (by simpa using a) e) f0 f1 f3 f4 f5⟩
 self:=fun A i s Q E st h=>hself A i s Q E st h
def Fz(tl:TE):TI:=fun σ H R=>tl σ H fun x H1=>∃z,x= .str z/\R (Fa z) H1
theorem S9{tg l:WE}{tl:TE}(hl:PE X l tl):PI X tg l (Fz tl):=by
 intro pins s σ H R I h;refine J8 (hl pins s σ H _ I h) fun v s1 zz=>?_;rcases zz with⟨x,H1,a,f,g⟩
 obtain⟨z,e,q⟩:=g;subst e;obtain⟨t,rfl⟩:=(show ∃t,v=Value.str z t from f);have c:∀b:Addr,b∈[s1.heap.objs.size]->TZ X pins H1 b:=fun b j=>by
  have e:b=s1.heap.objs.size:=by simpa using j
  subst e;exact a.fpOk (Y6 _) (a.hok.fresh (Y6 _))
 cases ha:z.cps.all (· < 128)
 .exact wpAny_pyIter_wide ha ⟨s1.heap.objs.size, [s1.heap.objs.size], _, _, H1, rfl, a.kept (t' := s1.toks) fun b o e => Y7 _ e,
   KZ (fun A d => Walks.strWide d _ z t) (fun A i s Q E st h => wpAny_pyIter_striter_wide st h) (by decide), ⟨_, Yi _ rfl, rfl, rfl⟩, c, q⟩
 .exact wpAny_pyIter_ascii ha ⟨s1.heap.objs.size, [s1.heap.objs.size], _, _, H1, rfl, a.kept (t' := s1.toks) fun b o e => Y7 _ e,
   KZ (fun A d => Walks.strAscii d _ z t) (fun A i s Q E st h => wpAny_pyIter_striter_ascii st h) (by decide), ⟨_, Yi _ rfl, rfl, rfl⟩, c, q⟩
theorem y7{caps:List (Option Nat)}{g:TG}{tc:TT}{te:TE}{z:Str}{σ:St}{H1:Hp}{Q:VK}(Pv:Nat->List V->St->Hp->Prop)(h0:Pv 0 [] (JH caps σ) H1)(hl:∀i ys σ H,Pv i ys σ H->i <=z.cps.size->ys.length <=i)(hz:z.cps.size <=sizeLine)
  (hs:∀i c ys σ H,z.cps[i]?=some c->Pv i ys σ H->g (.str ⟨#[c]⟩) σ H fun σ2 H2=>tc σ2 H2 fun b H3=>if b=true then te σ2 H3 fun y H4=>Pv (i+ 1) (ys++[y]) σ2 H4 else Pv (i+ 1) ys σ2 H3)
  (hd:∀ys σ H,Pv z.cps.size ys σ H->∀p,H p=none->Q (.ref p) (upd H p (.lst ys))):
  E5 caps g tc te σ Q (Fa z) H1:=by
 refine⟨fun i m ys σ H=>m=z.cps.size - i/\i <=z.cps.size/\Pv i ys σ H,⟨z.cps.size,by simp,Yj _,h0⟩,?_⟩;intro i m ys σ H Zq;obtain⟨rfl,hi,p⟩:=Zq;have h:=hl i ys σ H p hi
 by_cases hlt:i < z.cps.size
 .refine .inr ⟨hlt,by lia,Pv (i+ 1),fun f σ' H' a=>⟨z.cps.size - (i+ 1),by lia,rfl,hlt,a⟩,fun x H' y=>?_⟩;obtain⟨e,c,d,y⟩:=y;subst e y;exact hs i c ys σ _ d p
 .have e:i=z.cps.size:=by lia
  subst e;exact .inl ⟨rfl,by lia,hd ys σ H p⟩
end
def On(N N':List Str)(scope:Scope)(caps:List (Option Nat))(sc:Scope):Bool:=
 decide (scope.kind= .function) && (scope.names.all fun y=>decide (y.2≠ .cell)) && (scope.names.all fun y=>decide (y.2= .local->scope.names.lookup y.1=some .local)) && decide (caps.length=N'.length) &&
 ((N'.zip caps).all fun p => match p.2 with
  |none=>true
  | some j => decide (N[j]? = some p.1) && decide ((p.1, NameKind.free) ∈ scope.names) && (scope.names.all fun y => decide (y.1 = p.1 -> y.2 = .free))) &&
 (scope.names.all fun y=>decide (y.2= .free->sc.names.lookup y.1=some .cell\/sc.names.lookup y.1=some .free))
theorem Tf{X:Cx}{N':List Str}{scope:Scope}{caps:List (Option Nat)}{sc:Scope}{N:List Str}(hsc:X.env.scope=sc)(hN:X.N=N)(h:On N N' scope caps sc=true):BB X N' scope caps:=by
 subst hsc hN;unfold On at h;simp only[YN,Yt,Xn]at h;obtain⟨⟨⟨⟨⟨h1,h2⟩,g⟩,f⟩,e⟩,d⟩:=h;refine⟨h1,h2,g,⟨f,fun i j x n l=>?_⟩,fun x b=>?_⟩
 .have a:(x,some j)∈N'.zip caps:=by
   have:(N'.zip caps)[i]?=some (x,some j):=by
    rw[VH];exact⟨n,l⟩
   exact Ya this
  have q:=e _ a;simp only[YN,Yt,Xn]at q;exact⟨q.1.1,q.1.2,fun k c=>q.2 _ c rfl⟩
 .exact d _ b rfl
theorem T9{X:Cx}{N:List Str}(h:X.N=N)(d:N.Nodup):X.N.Nodup:=h▸d
theorem DW{X:Cx}{x:Str}{n:Int}{pos:Pos}(hg:Gl X x)(hm:∃t,X.mg x=some (.int n t))(hd:(x==("__debug__":Str))=false:=by decide):PE X (.Name x pos) (tC (.int n)):=by
 obtain⟨t,e⟩:=hm;exact IL hg e ⟨t,rfl⟩ hd
structure JI(P:Wt)(w:Wx)(K:Wy)(mg:Wp)(base:WD)(x:Str)(k:Nat)(ps:List Str)(dvs:List V)(sp:Sp):Prop where
 ex:∃ (f:WA) (fd:Wv) (ds:WC),WQ P w K mg base Jr k f fd ps sp/\mg x=some (.ref f)/\W.keepIn K (.ref f)=true/\NR K fd ps ds/\WO dvs ds
structure Di(P:Wt)(w:Wx)(K:Wy)(mg:Wp)(base:WD)(x:Str)(C:WA)(k:Nat)(ps:List Str)(dvs:List V)(sp:Sp):Prop where
 ex:∃ (f:WA) (fd:Wv) (ds:WC),WQ P w K mg base Jr k f fd ps sp/\mg x=some (.ref C)/\Mk K C f/\NR K fd ps ds/\WO dvs ds
structure Tc(P:Wt)(w:Wx)(K:Wy)(mg:Wp)(base:WD)(C:WA)(m:Str)(k:Nat)(ps:List Str)(dvs:List V)(sp:Sp):Prop where
 ex:∃ (f:WA) (fd:Wv) (ds:WC),WQ P w K mg base Jr k f fd ps sp/\Mj K C/\O3 K C m f/\NR K fd ps ds/\WO dvs ds
section
variable{X:Cx}{k:Nat}{C:WA}{ps:List Str}{sp:Sp}{dvs:List V}{x m:Str}{p pos apos:Pos}{e o:WE}{es:List Expr}{ta:TE}{t:TA}
theorem Jx(F:JI X.prog X.w X.K X.mg X.base x k ps dvs sp)(hr:WV k X.A)(hg:Gl X x)(ha:PA X (e::es) t)(hdb:(x==("__debug__":Str))=false:=by decide)
  (he:starEach (e::es) X.env=(false,eval e X.env)::starEach es X.env:=by rfl) (hpl:(backTo pos (starEach es X.env)).any (·.1)=false:=by rfl):PE X (.Call (.Name x p) (e::es) [] pos) (Ee sp dvs E0 t):=by
 obtain⟨f,fd,ds,G,a,b,c,hd⟩:=F.ex;exact jU G hr hg a b c hd Bn ha hdb he hpl
end
structure Bt(mg:Wp):Prop where
 len:mg "len"=none
 range:mg "range"=none
 isinstance:mg "isinstance"=none
 all:mg "all"=none
 min:mg "min"=none
 max:mg "max"=none
 bint:mg "int"=none
 bbool:mg "bool"=none
 bstr:mg "str"=none
 blist:mg "list"=none
 btuple:mg "tuple"=none
def JS(a:WA)(H H':Hp):Prop:=∀b o,H b=some o->b≠a->H' b=some o
theorem JS.upd{a:WA}{H:Hp}{o:HO}:JS a H (upd H a o):=fun b _ h n=>by rw[Jb n];exact h
def Ck(g:TG)(tb:TS)(D:MQ)(σ:St)(J:It)(H1:Hp):Prop:=∃W:Nat->Nat->St->Hp->Prop,(∃m,W 0 m σ H1)/\∀i m σ H,W i m σ H->
 (J.stop i H/\D.nx σ H)\/(J.go i H/\∃N:St->Hp->Prop,(∀σ' H',N σ' H'->∃m',m' < m/\W (i+ 1) m' σ' H')/\∀x H',J.yld i H x H'->g x σ H' fun σ2 H2=>tb {D with nx:=N,ct:=N,bk:=D.nx} σ2 H2)
theorem L7(wi:TI)(g:TG)(tb:TS)(D:MQ)(σ:St)(H:Hp):P2 wi g tb D σ H=wi σ H fun J H1=>Ck g tb D σ J H1:=rfl
theorem Rg{K:Wy}{a:WA}{xs:List V}{g:TG}{tb:TS}{D:MQ}{σ:St}{H:Hp}(Pv:Nat->St->Hp->Prop)(h0:Pv 0 σ H)(hl:∀i σ H,i <=xs.length->Pv i σ H->WJ K H a xs)
  (hs:∀i x σ H,xs[i]?=some x->Pv i σ H->g x σ H fun σ2 H2=>tb {D with nx:=Pv (i+ 1),ct:=Pv (i+ 1),bk:=D.nx} σ2 H2) (hd:∀σ H,Pv xs.length σ H->D.nx σ H):Ck g tb D σ (GH K a) H:=jF Pv h0 hl hs hd
theorem K7{lo:Int}{n:Nat}{g:TG}{tb:TS}{D:MQ}{σ:St}{H:Hp}(Pv:Nat->St->Hp->Prop)(h0:Pv 0 σ H)
  (hs:∀i σ H,i < n->Pv i σ H->g (.int (lo+ i)) σ H fun σ2 H2=>tb {D with nx:=Pv (i+ 1),ct:=Pv (i+ 1),bk:=D.nx} σ2 H2) (hd:∀σ H,Pv n σ H->D.nx σ H):Ck g tb D σ (GZ lo n) H:=uU Pv h0 hs hd
theorem LG{c:TT}{tb:TS}{D:MQ}{σ:St}{H:Hp}(Pv:St->Hp->Prop)(μ:St->Hp->Nat)(h0:Pv σ H)
  (hs:∀σ H,Pv σ H->c σ H fun b H1=>if b=true then ∃N:St->Hp->Prop,(∀σ' H',N σ' H'->∃m',m' < μ σ H/\(m'=μ σ' H'/\Pv σ' H'))/\tb {D with nx:=N,ct:=N,bk:=D.nx} σ H1 else D.nx σ H1):Q9 c tb D σ H:=by
 refine⟨fun m σ H=>m=μ σ H/\Pv σ H,⟨_,rfl,h0⟩,?_⟩;rintro m σ H ⟨rfl,p⟩;exact hs σ H p
theorem Nm{n:Nat}(h:n <=100000):n <=sizeLine:=YW h (by rw[Yh];decide)
theorem CN{n:Nat}(h:n <=100000):n < sizeLine:=YA h (by rw[Yh];decide)
def DA:HO->Option String
 | .lst _=>some "list"
 | .tup _=>some "tuple"
 | .dK _=>some "dict"
 |_=>none
def NT(H:Hp):V->Option String
 | .non=>some "NoneType"
 | .bl _=>some "bool"
 | .int _=>some "int"
 | .str _=>some "str"
 | .ref a=>(H a).bind DA
 |_=>none
def E1(n T:String):Bool:=n==T||(n=="bool" && T=="int")
theorem jL{K:Wy}{H:Hp}{x:V}{n:String}(h:NT H x=some n):Dk K H x (.type n)/\n∈["NoneType","bool","int","str","list","tuple","dict"]:=by
 cases x with
 |non=>cases h;exact⟨.non,by simp⟩
 |bl b=>cases h;exact⟨.bl b,by simp⟩
 |int i=>cases h;exact⟨.int i,by simp⟩
 |str i=>cases h;exact⟨.str i,by simp⟩
 |ref a=>
  have h:(H a).bind DA=some n:=h;cases e:H a with
  |none=>rw[e]at h;cases h
  |some o=>
   rw[e]at h;cases o <;> first|(cases h;done)|skip
   .cases h;exact⟨.lst e,by simp⟩
   .cases h;exact⟨.tup e,by simp⟩
   .cases h;exact⟨.dK e,by simp⟩
 |_=>cases h
theorem Sb{K:Wy}{n T:String}(hn:n∈["NoneType","bool","int","str","list","tuple","dict"])(hT:T∈["bool","int","str","list","tuple","dict"]):W.kitOne K (.type n) (.type T)=some (E1 n T):=by
 simp only[Yu,List.not_mem_nil,or_false]at hn hT;rcases hn with rfl|rfl|rfl|rfl|rfl|rfl|rfl <;> rcases hT with rfl|rfl|rfl|rfl|rfl|rfl <;> rfl
def Kp(T:String):List V->Hp->VK->Prop:=fun xs H Q=>∃x n,xs=[x,.ty T]/\NT H x=some n/\Q (.bl (E1 n T)) H
theorem Rn{X:Cx}(T:String)(hT:T∈["bool","int","str","list","tuple","dict"]:=by decide):J9 X (.builtin "isinstance") (Kp T):=by
 intro pins s σ H xs a Q I r h;obtain⟨x,n,rfl,ty,q⟩:=h;obtain⟨c,b⟩:=jL (K:=X.K) ty;exact Q1 pins s σ H _ a Q I r ⟨x,.ty T,_,_,rfl,c,rfl,Sb b hT,q⟩
theorem Af{H:Hp}{a:WA}{xs:List V}(h:H a=some (.lst xs)):NT H (.ref a)=some "list":=by show(H a).bind DA=_;rw[h];rfl
theorem xC{H:Hp}{a:WA}{xs:List V}(h:H a=some (.tup xs)):NT H (.ref a)=some "tuple":=by show(H a).bind DA=_;rw[h];rfl
theorem vF{H:Hp}{i:Int}:NT H (.int i)=some "int":=rfl
theorem jN{H:Hp}{i:Bool}:NT H (.bl i)=some "bool":=rfl
theorem QW{H:Hp}{i:Str}:NT H (.str i)=some "str":=rfl
theorem yV{H:Hp}:NT H .non=some "NoneType":=rfl
def GU:V->Bool
 | .int _=>true
 |_=>false
def R9:V->Bool
 | .bl _=>true
 |_=>false
def Fx:V->Bool
 | .str _=>true
 |_=>false
def EZ(H:Hp):V->Bool
 | .ref a=>match H a with
  |some (.lst _)=>true
  |_=>false
 |_=>false
theorem Kl{o:HO}{n:String}(h:DA o=some n):n="list"\/n="tuple"\/n="dict":=by
 cases o <;> first|(cases h;done)|(cases h;simp)
theorem Zh{H:Hp}{x:V}{n:String}(h:NT H x=some n):E1 n "int"=(GU x||R9 x):=by
 cases x with
 |ref a=>
  have h:(H a).bind DA=some n:=h;cases e:H a with
  |none=>rw[e]at h;cases h
  |some o=>
   rw[e]at h;rcases Kl h with rfl|rfl|rfl <;> rfl
 |_=>first|(cases h;done)|(cases h;rfl)
theorem LM{H:Hp}{x:V}{n:String}(h:NT H x=some n):E1 n "bool"=R9 x:=by
 cases x with
 |ref a=>
  have h:(H a).bind DA=some n:=h;cases e:H a with
  |none=>rw[e]at h;cases h
  |some o=>
   rw[e]at h;rcases Kl h with rfl|rfl|rfl <;> rfl
 |_=>first|(cases h;done)|(cases h;rfl)
theorem QX{H:Hp}{x:V}{n:String}(h:NT H x=some n):E1 n "str"=Fx x:=by
 cases x with
 |ref a=>
  have h:(H a).bind DA=some n:=h;cases e:H a with
  |none=>rw[e]at h;cases h
  |some o=>
   rw[e]at h;rcases Kl h with rfl|rfl|rfl <;> rfl
 |_=>first|(cases h;done)|(cases h;rfl)
theorem tI{H:Hp}{x:V}{n:String}(h:NT H x=some n):E1 n "list"=EZ H x:=by
 cases x with
 |ref a=>
  have h:(H a).bind DA=some n:=h;cases e:H a with
  |none=>rw[e]at h;cases h
  |some o=>
   rw[e]at h;have b:EZ H (.ref a)=match some o with|some (.lst _)=>true|_=>false:=by
    show(match H a with|some (.lst _)=>true|_=>false)=_;rw[e]
   rw[b];cases o <;> first|(cases h;done)|(cases h;rfl)
 |_=>first|(cases h;done)|(cases h;rfl)
theorem Sf{H:Hp}{x:V}(h:EZ H x=true):∃a xs,x= .ref a/\H a=some (.lst xs):=by
 cases x with
 |ref a=>
  have h:(match H a with|some (.lst _)=>true|_=>false)=true:=h;cases e:H a with
  |none=>rw[e]at h;cases h
  |some o=>
   rw[e]at h;cases o <;> first|(cases h;done)|exact⟨a,_,rfl,e⟩
 |_=>cases h
theorem CG{H H':Hp}(s:WH H H'){x:V}{n:String}(h:NT H x=some n):NT H' x=some n:=by
 cases x with
 |ref a=>
  have h:(H a).bind DA=some n:=h;show(H' a).bind DA=some n;cases e:H a with
  |none=>rw[e]at h;cases h
  |some o=>rw[s a o e];rw[e]at h;exact h
 |_=>exact h
def M7(x:V)(lo hi:Int):Bool:=match x with
 | .int i=>decide (lo <=i) && decide (i <=hi)
 |_=>false
def GS(c:Nat):Bool:=decide (97 <=c) && decide (c <=122)
def Mw:V->Bool
 | .str z=>decide (1 <=z.length) && decide (z.length <=8) && z.cps.toList.all GS
 |_=>false
def Dt(H:Hp):V->Bool
 | .ref a=>match H a with
  |some (.lst xs)=>decide (1 <=xs.length) && decide (xs.length <=4000) && xs.all (fun y=>M7 y 0 255)
  |_=>false
 |_=>false
theorem Lz{H:Hp}{a:WA}{xs:List V}(h:H a=some (.lst xs)):Dt H (.ref a)=(decide (1 <=xs.length) && decide (xs.length <=4000) && xs.all (fun y=>M7 y 0 255)):=by
 show(match H a with|some (.lst xs)=>decide (1 <=xs.length) && decide (xs.length <=4000) && xs.all (fun y=>M7 y 0 255)|_=>false)=_;rw[h]
theorem wO{H:Hp}{x:V}(h:EZ H x=false):Dt H x=false:=by
 cases x with
 |ref a=>
  have h:(match H a with|some (.lst _)=>true|_=>false)=false:=h;show(match H a with|some (.lst xs)=>_|_=>false)=false;cases e:H a with
  |none=>rfl
  |some o=>
   rw[e]at h;cases o <;> first|rfl|cases h
 |_=>rfl
theorem WH.new{H H':Hp}{p:WA}{o:HO}(x:WH H H')(h:H p=none):WH H (upd H' p o):=fun b u e=>by
 rw[Jb (J6 e h)];exact x b u e
theorem xA(c:Nat):((!decide ((⟨#[c]⟩:Str).cps.toList < ("a":Str).cps.toList))=decide (97 <=c))/\((!decide (("z":Str).cps.toList < (⟨#[c]⟩:Str).cps.toList))=decide (c <=122)):=by
 have g:("a":Str).cps.toList=[97]:=by decide +kernel
 have f:("z":Str).cps.toList=[122]:=by decide +kernel
 rw[g,f];have e:(⟨#[c]⟩:Str).cps.toList=[c]:=rfl;rw[e];have d:∀a b:Nat,([a] < [b])↔a < b:=fun a b=>by
  constructor
  .intro h;rcases W5.mp h with h|⟨_,h⟩
   .exact h
   .exact absurd h (List.not_lt_nil _)
  .intro h;exact W5.mpr (.inl h)
 constructor
 .rw[Xt];simp only[Ut,VT,Yt,d];lia
 .rw[Xt];simp only[Ut,VT,Yt,d];lia
def IJ(t:TS):TS:=fun D σ H=>∃R:St->Hp->Prop,t {D with nx:=R} σ H/\∀σ' H',R σ' H'->D.nx σ' H'
theorem Bc{X:Cx}{st:Stmt}{t:TS}(h:PS X st t):PS X st (IJ t):=by
 intro pins s σ H D I b;obtain⟨R,h1,h2⟩:=b;refine J8 (h pins s σ H _ I h1) fun f s' q=>?_
 cases f with
 |next=>obtain⟨σ',H',c,a⟩:=q;exact⟨σ',H',c,h2 σ' H' a⟩
 |brk=>exact q
 |cont=>exact q
 |ret v=>exact q
section
variable{X:Cx}{K:Wy}
theorem GO(h:X.K=K):DJ X (BC K):=h▸t9
theorem Hb(h:X.K=K):DJ X (EQ K):=h▸xU
theorem yA(h:X.K=K):R7 X (Cb K):=h▸nJ
def A0(K:Wy):List V->Hp->VK->Prop:=fun xs H Q=>∃p ys,xs=[.ref p]/\(WJ K H p ys\/N9 K H p ys)/\Q (.int ys.length) H
def Ht(K:Wy):List V->Hp->VK->Prop:=fun xs H Q=>∃p ys,xs=[.ref p]/\(WJ K H p ys\/N9 K H p ys)/\∀l,H l=none->Q (.ref l) (upd H l (.lst ys))
def Kt(K:Wy):List V->Hp->VK->Prop:=fun xs H Q=>∃ (p:WA) (bs:List Bool),xs=[.ref p]/\WJ K H p (bs.map V.bl)/\Q (.bl (bs.all id)) H
theorem Mc(h:X.K=K):J9 X (.builtin "len") (A0 K):=h▸wQ
theorem Hl(h:X.K=K):J9 X (.type "list") (Ht K):=h▸Si
theorem ER(hc:X.calm=true)(h:X.K=K):J9 X (.builtin "all") (Kt K):=h▸nN hc
theorem F6(hu:X.A.units+ 64 < cLine)(h:X.K=K):JJ X (compareOp .Eq) (Pb K):=h▸Sd hu
theorem EA(hu:X.A.units+ 64 < cLine)(h:X.K=K):JJ X (compareOp .NotEq) (P5 K):=h▸Zg hu
theorem Ow(h:X.K=K):JJ X (compareOp .NotIn) (Le K true):=h▸uF
theorem IW{e:WE}{f:Str}{pos:Pos}{ta:TE}(h:X.K=K)(he:PE X e ta)(hb:attributeBase e f X.env (eval e X.env)=eval e X.env):PE X (.Attribute e f pos) (Aj K ta f):=h▸yU he hb
theorem DZ{o value:WE}{f:Str}{pos pos':Pos}{ta tv:TE}(h:X.K=K)(ha:PE X o ta)(hv:PE X value tv)(hs:swapsWith value (some (.Attribute o f pos')) pos.line X.env=pure false):PS X (.Assign [.Attribute o f pos'] value pos) (Cz K ta tv f):=h▸ZO ha hv hs
theorem E8{es:List Expr}{k:Nat}{t:Ry}{n:Nat}{pos:Pos}(h:X.K=K)(hc:X.calm=true)(hg:Bs X es t)
  (hn:(assignEach es X.env).length=n:=by rfl) (hst:(assignEach es X.env).findIdx? (·.1)=none:=by rfl):PG X (.Tuple es k pos) (Cp K n t):=h▸yG hc hg hn hst
theorem tP{tg l:WE}{tl:TE}(h:X.K=K)(hl:PE X l tl):PI X tg l (RS K tl):=h▸uA hl
theorem Dh{o e:WE}{es:List Expr}{to:TE}{t:TA}{name:Str}{apos cpos:Pos}{T id:String}{r:V->List V->Hp->VK->Prop}(h:X.K=K)(pa:PlainAttrs T)(slot:Slot T name id)(hty:typeOf (.builtin id)=pure (.type "method_descriptor"))(hm:CI X id r)(ho:PE X o to)(ha:PA X (e::es) t)
  (hbase:attributeBase o name X.env (eval o X.env)=eval o X.env:=by rfl)
  (hfew : ((backTo cpos (starEach (e :: es) X.env)).all (fun x => !x.1) && (backToKw cpos (keywordEach [] X.env)).all (fun x => x.1.isSome)
   && decide ((e :: es).length + ([] : List Keyword).length + (if ([] : List Keyword).isEmpty then 0 else 1) < 30)) = true := by rfl)
  (hline:(apos.endLine==cpos.line)=true:=by rfl) (hs:starEach (e::es) X.env=(false,eval e X.env)::starEach es X.env:=by rfl) (hplain:(backTo cpos (starEach es X.env)).any (·.1)=false:=by rfl):
  PE X (.Call (.Attribute o name apos) (e::es) [] cpos) (Cr K T r to t):=h▸yZ pa slot hty hm ho ha hbase hfew hline hs hplain
end
theorem Tx{H:Hp}{p:WA}{o:HO}(h:H p=none):WH H (upd H p o):=(WH.refl H).new h
section
variable{X:Cx}{es:List Expr}{t:TA}{pos:Pos}
def Cc(t:TA):TE:=fun σ H Q=>t σ H fun xs H1=>xs.length <=sizeLine/\∀p G,H1 p=none->WH H1 G->G p=some (.tup xs)->Q (.ref p) G
def Bu(t:TA):TE:=fun σ H Q=>t σ H fun xs H1=>xs.length <=sizeLine/\∀p G,H1 p=none->WH H1 G->G p=some (.lst xs)->Q (.ref p) G
theorem MO{x1}(h:PA X es t):PE X (.Tuple es x1 pos) (Cc t):=by
 intro pins s σ H Q I d;refine wpAny_Tuple_spliced (J8 (h pos pins s σ H _ I d) fun c s1 ⟨xs,H1,a,r,z,q⟩=>⟨by rw[<-r.length];exact z,?_⟩);have hf:H1 s1.heap.objs.size=none:=a.hok.fresh (Y6 _);refine⟨.ref s1.heap.objs.size,upd H1 s1.heap.objs.size (.tup xs),a.laid (t':=s1.toks) (fun b u e=>Y7 _ e) (Y6 _) ?_,rfl,q _ _ hf (Tx hf) JD⟩;exact⟨z,c,r,⟨_,Yi _ rfl,rfl,_,rfl⟩⟩
theorem Np(h:PA X es t):PE X (.List es pos) (Bu t):=by
 intro pins s σ H Q I d;refine wpAny_List_spliced (J8 (h pos pins s σ H _ I d) fun c s1 ⟨xs,H1,a,r,z,q⟩=>⟨by rw[<-r.length];exact z,?_⟩);have hf:H1 s1.heap.objs.size=none:=a.hok.fresh (Y6 _);refine⟨.ref s1.heap.objs.size,upd H1 s1.heap.objs.size (.lst xs),a.laid (t':=s1.toks) (fun b u e=>Y7 _ e) (Y6 _) ?_,rfl,q _ _ hf (Tx hf) JD⟩;exact⟨z,c,0,r,Yi _ rfl⟩
end
section
variable{X:Cx}{K:Wy}
theorem JJ.imp{f:Value->Value->Sem Value}{r r':R2}(h:JJ X f r)(hi:∀x y H Q,r' x y H Q->r x y H Q):JJ X f r':=fun pins s σ H x y v u Q I rx ry q=>h pins s σ H x y v u Q I rx ry (hi _ _ _ _ q)
theorem J9.imp{f:Wz}{r r':List V->Hp->VK->Prop}(h:J9 X f r)(hi:∀xs H Q,r' xs H Q->r xs H Q):J9 X f r':=fun pins s σ H xs a Q I rx q=>h pins s σ H xs a Q I rx (hi _ _ _ q)
theorem Gg.imp{id:String}{r r':V->List V->Hp->VK->Prop}(h:Gg X id r)(hi:∀x xs H Q,r' x xs H Q->r x xs H Q):Gg X id r':=fun pins s σ H x xs v a Q I rx b q=>h pins s σ H x xs v a Q I rx b (hi _ _ _ _ q)
theorem R7.imp{r r':V->Option Int->Option Int->Hp->VK->Prop}(h:R7 X r)(hi:∀x a b H Q,r' x a b H Q->r x a b H Q):R7 X r':=fun pins s σ H x v e d lo c f Q I rx hs i g q=>h pins s σ H x v e d lo c f Q I rx hs i g (hi _ _ _ _ _ q)
theorem DM.imp{t t':Am}(h:DM X t)(hi:∀o i v H Q,t' o i v H Q->t o i v H Q):DM X t':=fun pins s σ H o i v d e u Q I a b c q=>h pins s σ H o i v d e u Q I a b c (hi _ _ _ _ _ q)
def Ci:R2:=fun x y H Q=>∃l b xs zs,x= .ref l/\y= .ref b/\H l=some (.lst xs)/\H b=some (.lst zs)/\xs.length+ zs.length <=sizeLine/\∀p G,H p=none->WH H G->G p=some (.lst (xs++zs))->Q (.ref p) G
theorem Rz:JJ X (binaryOp .Add) Ci:=E7.imp fun x y H Q zz=>by rcases zz with⟨l,b,xs,zs,e,d,h1,h2,c,q⟩;exact ⟨l,b,xs,zs,e,d,h1,h2,c,fun p a=>q p _ a (Tx a) JD⟩
def Cu(K:Wy):List V->Hp->VK->Prop:=fun xs H Q=>∃p ys,xs=[.ref p]/\(WJ K H p ys\/N9 K H p ys)/\∀l G,H l=none->WH H G->G l=some (.lst ys)->Q (.ref l) G
theorem BF(h:X.K=K):J9 X (.type "list") (Cu K):=(Hl h).imp fun xs H Q zz=>by rcases zz with⟨p,ys,e,h1,q⟩;exact ⟨p,ys,e,h1,fun l a=>q l _ a (Tx a) JD⟩
def Ab(K:Wy):V->Option Int->Option Int->Hp->VK->Prop:=fun x lo hi H Q=>∃a xs,x= .ref a/\WJ K H a xs/\∀p G,H p=none->WH H G->G p=some (.lst (DT xs lo hi))->Q (.ref p) G
theorem AK(h:X.K=K):R7 X (Ab K):=(yA h).imp fun x a b H Q zz=>by rcases zz with⟨p,ys,e,h1,q⟩;exact ⟨p,ys,e,h1,fun l c=>q l _ c (Tx c) JD⟩
def C6:V->List V->Hp->VK->Prop:=fun x vs H Q=>∃l xs y,x= .ref l/\vs=[y]/\H l=some (.lst xs)/\xs.length < sizeLine/\∀G,JS l H G->G l=some (.lst (xs++[y]))->Q .non G
theorem GB:Gg X "list.append" C6:=DH.imp fun x xs H Q zz=>by rcases zz with⟨l,ys,y,b,a,h1,h2,q⟩;exact ⟨l,ys,y,b,a,h1,h2,q _ JS.upd JD⟩
def CS:V->List V->Hp->VK->Prop:=fun x vs H Q=>∃l b xs zs,x= .ref l/\vs=[.ref b]/\H l=some (.lst xs)/\H b=some (.lst zs)/\xs.length+ zs.length <=sizeLine/\∀G,JS l H G->G l=some (.lst (xs++zs))->Q .non G
theorem Fg:Gg X "list.extend" CS:=Do.imp fun x xs H Q zz=>by rcases zz with⟨l,b,ys,zs,d,c,h1,h2,a,q⟩;exact ⟨l,b,ys,zs,d,c,h1,h2,a,q _ JS.upd JD⟩
def F1:V->V->V->Hp->(Hp->Prop)->Prop:=fun o i v H Q=>∃p xs k j,o= .ref p/\i= .int k/\H p=some (.lst xs)/\DX xs.length k=some j/\∀G,JS p H G->G p=some (.lst (xs.set j v))->Q G
theorem nL:DM X F1:=Gw.imp fun o i v H Q zz=>by rcases zz with⟨p,xs,k,j,b,a,h1,h2,q⟩;exact ⟨p,xs,k,j,b,a,h1,h2,q _ JS.upd JD⟩
def Fp(K:Wy)(ta tv:TE)(f:Str):TS:=fun D σ H=>tv σ H fun y H1=>ta σ H1 fun x H2=>∃a C dx fs,x= .ref a/\H2 a=some (.ins C dx fs)/\Mj K C/\J2 K C f/\fs.length < 1000/\
 ∀G,JS a H2 G->G a=some (.ins C dx (N0 f y fs))->D.nx σ G
theorem GN{o value:WE}{f:Str}{pos pos':Pos}{ta tv:TE}(h:X.K=K)(ha:PE X o ta)(hv:PE X value tv)(hs:swapsWith value (some (.Attribute o f pos')) pos.line X.env=pure false):PS X (.Assign [.Attribute o f pos'] value pos) (Fp K ta tv f):=by
 subst h;intro pins s σ H D I h;refine V8 (J8 (hv pins s σ H _ I h) fun u s1 ⟨y,H1,j,ry,q⟩=>J8 (ha pins s1 σ H1 _ j q) fun d s2 zz=>?_) hs;rcases zz with⟨x,H2,i,rx,a,C,dx,fs,ex,e,c,n,l,b⟩;subst ex;obtain rfl:d=Value.ref a:=rx;exact LU i e c n l ry fun p g=>⟨σ,_,g,b _ JS.upd JD⟩
end
def N5(K:Wy)(H:Hp)(x:V)(f:Str)(v:V):Prop:=∃a C dx fs,x= .ref a/\H a=some (.ins C dx fs)/\Mj K C/\J2 K C f/\fs.lookup f=some v
def AO(K:Wy)(ta:TE)(f:Str):TE:=fun σ H Q=>ta σ H fun x H1=>∃v,N5 K H1 x f v/\Q v H1
theorem wX{X:Cx}{K:Wy}{e:WE}{f:Str}{pos:Pos}{ta:TE}(h:X.K=K)(he:PE X e ta)(hb:attributeBase e f X.env (eval e X.env)=eval e X.env):PE X (.Attribute e f pos) (AO K ta f):=by
 subst h;intro pins s σ H Q I h;refine Qm hb (J8 (he pins s σ H _ I h) fun u s1 zz=>?_);rcases zz with⟨x,H1,i,rx,v,⟨a,C,dx,fs,ex,d,c,n,l⟩,q⟩;subst ex;obtain rfl:u=Value.ref a:=rx;exact PL i d c n l fun j s2 g b=>⟨v,H1,g,b,q⟩
theorem Im{X:Cx}{K:Wy}{o:WE}{to:TE}{name:Str}{apos cpos:Pos}{T id:String}{r:V->List V->Hp->VK->Prop}(h:X.K=K)(pa:PlainAttrs T)(slot:Slot T name id)(hty:typeOf (.builtin id)=pure (.type "method_descriptor"))(hm:CI X id r)(ho:PE X o to)
  (hbase:attributeBase o name X.env (eval o X.env)=eval o X.env:=by rfl) (hline:(apos.endLine==cpos.line)=true:=by rfl):PE X (.Call (.Attribute o name apos) [] [] cpos) (CU K T r to):=h▸uC pa slot hty hm ho hbase hline
structure MR(P:Wt)(w:Wx)(K:Wy)(mg:Wp)(base:WD)(x:Str)(k:Nat)(sp:Sp):Prop where
 ex:∃ (f C:WA) (fd:Wv) (ds:WC) (dvs:List V) (ps:List Str) (sp0:Sp),WQ P w K mg base Jr k f fd ps sp0/\mg x=some (.ref C)/\Mk K C f/\NR K fd ps ds/\WO dvs ds/\
  ∀vs H Q,sp vs H Q E0->∀y dx G,H y=none->H dx=none->dx≠y->WH H G->G y=some (.ins C dx [])->sp0 (.ref y::(vs++dvs)) G (fun v H2=>v= .non/\Q (.ref y) H2) E0
theorem Di.ct{P:Wt}{w:Wx}{K:Wy}{mg:Wp}{base:WD}{x:Str}{C:WA}{k:Nat}{ps:List Str}{dvs:List V}{sp sp':Sp}(F:Di P w K mg base x C k ps dvs sp)
  (h:∀vs H Q,sp' vs H Q E0->∀y dx G,H y=none->H dx=none->dx≠y->WH H G->G y=some (.ins C dx [])->sp (.ref y::(vs++dvs)) G (fun v H2=>v= .non/\Q (.ref y) H2) E0):MR P w K mg base x k sp':=by
 obtain⟨f,fd,ds,G,a,M,b,hd⟩:=F.ex;exact⟨f,C,fd,ds,dvs,ps,sp,G,a,M,b,hd,h⟩
theorem RG{X:Cx}{k:Nat}{sp:Sp}{x:Str}{p pos:Pos}{e:WE}{es:List Expr}{t:TA}(F:MR X.prog X.w X.K X.mg X.base x k sp)(hr:WV (k+ 1) X.A)(hg:Gl X x)(ha:PA X (e::es) t)(hdb:(x==("__debug__":Str))=false:=by decide)
  (he:starEach (e::es) X.env=(false,eval e X.env)::starEach es X.env:=by rfl) (hpl:(backTo pos (starEach es X.env)).any (·.1)=false:=by rfl):PE X (.Call (.Name x p) (e::es) [] pos) (Ee sp [] E0 t):=by
 obtain⟨f,C,fd,ds,dvs,ps,j,G,g,M,i,hd,hi⟩:=F.ex;intro pins s σ H Q I h;refine Xv (BS I hg g ?_ hdb);refine W.callWith_K (h₀:=X.base) I.ok.mod.kin M.kp (J8 (ha pos pins s σ H _ I h) fun l s1 ⟨vs,H1,c,r,q⟩=>⟨c.kIn,?_⟩) he hpl;have q:sp (vs++[]) H1 Q E0:=q;rw[List.append_nil]at q;exact L8 M G hr i hd Bn c r fun y dx b a d=>hi _ _ _ q y dx _ b a d ((Tx a).new b) JD
def Ia(C:WA)(m:Str)(H:Hp)(x:V):Prop:=∃a dx fs,x= .ref a/\H a=some (.ins C dx fs)/\fs.lookup m=none
def Ch(C:WA)(m:Str)(sp:Sp)(dvs:List V)(ta:TE)(t:TA):TE:=fun σ H Q=>ta σ H fun x H1=>Ia C m H1 x/\t σ H1 fun vs H2=>sp (x::(vs++dvs)) H2 Q E0
section
variable{X:Cx}{k:Nat}{C:WA}{ps:List Str}{sp:Sp}{dvs:List V}{m:Str}{pos apos:Pos}{e o:WE}{es:List Expr}{ta:TE}{t:TA}
theorem DE{pl:Sem Bool}(he:PE X o ta)(F:Tc X.prog X.w X.K X.mg X.base C m k ps dvs sp)(hr:WV k X.A)(ha:PA X (e::es) t)
  (hst:starEach (e::es) X.env=(false,eval e X.env)::starEach es X.env:=by rfl) (hpl:(backTo pos (starEach es X.env)).any (·.1)=false:=by rfl)
  (ht : eval (.Call (.Attribute o m apos) (e :: es) [] pos) X.env = (do
   let ov <-eval o X.env
   standAt apos.atName
   let (f,first) <-holding [ov] (getMethod ov m pl)
   callWith pos f first (backTo pos (starEach (e :: es) X.env)) (backToKw pos (keywordEach [] X.env))) := by rfl) :
  PE X (.Call (.Attribute o m apos) (e::es) [] pos) (Ch C m sp dvs ta t):=by
 obtain⟨f,fd,ds,G,c,b,j,hd⟩:=F.ex;intro pins s σ H Q I h;refine W.methodCall_KW (pl:=pl) (J8 (he pins s σ H _ I h) fun u s1 zz=>?_) ht;rcases zz with⟨x,H1,g,rx,⟨a,dx,fs,ex,n,l⟩,q⟩;subst ex;obtain rfl:u=Value.ref a:=rx;refine OI g n c b l ?_;refine W.callWith_K (first:=[.ref a]) (h₀:=X.base) I.ok.mod.kin b.kp (J8 (ha pos pins s1 σ H1 _ g q) fun us s2 ⟨vs,H2,d,r,i⟩=>⟨d.kIn,?_⟩) hst hpl;exact Hy (us:=.ref a::us) (vs:=.ref a::vs) G hr j hd Bn d (.cons rfl r) i
theorem DD{pl:Sem Bool}(he:PE X o ta)(F:Tc X.prog X.w X.K X.mg X.base C m k ps dvs sp)(hr:WV k X.A)
  (ht : eval (.Call (.Attribute o m apos) [] [] pos) X.env = (do
   let ov <-eval o X.env
   standAt apos.atName
   let (f,first) <-holding [ov] (getMethod ov m pl)
   callWith pos f first (backTo pos (starEach [] X.env)) (backToKw pos (keywordEach [] X.env))) := by rfl) :
  PE X (.Call (.Attribute o m apos) [] [] pos) (Ch C m sp dvs ta Df):=by
 obtain⟨f,fd,ds,G,c,d,e,hd⟩:=F.ex;intro pins s σ H Q I h;refine W.methodCall_KW (pl:=pl) (J8 (he pins s σ H _ I h) fun u s1 zz=>?_) ht;rcases zz with⟨x,H1,b,rx,⟨a,dx,fs,ex,g,l⟩,q⟩;subst ex;obtain rfl:u=Value.ref a:=rx;refine OI b g c d l ?_;exact W.callWith_K0 (first:=[.ref a]) b.kIn d.kp (Hy (us:=[.ref a]) (vs:=[.ref a]) G hr e hd Bn b (.cons rfl .nil) q)
end
theorem WH.get{H G:Hp}{b:WA}{o:HO}(s:WH H G)(h:H b=some o):G b=some o:=s b o h
theorem JS.get{l:WA}{H G:Hp}{b:WA}{o:HO}(s:JS l H G)(h:H b=some o)(n:b≠l):G b=some o:=s b o h n
theorem WH.butNew{l:WA}{H H' G:Hp}(s:WH H H')(b:JS l H' G)(h:H l=none):WH H G:=fun c o e=>b c o (s c o e) (J6 e h)
theorem WH.toBut{l:WA}{H G:Hp}(s:WH H G):JS l H G:=fun b o e _=>s b o e
section
variable{caps:List (Option Nat)}{g:TG}{tc:TT}{te:TE}
theorem MY{K:Wy}{a:WA}{xs:List V}{σ:St}{H1:Hp}{Q:VK}(Pv:Nat->List V->St->Hp->Prop)(h0:Pv 0 [] (JH caps σ) H1)(hl:∀i ys σ H,Pv i ys σ H->i <=xs.length->WJ K H a xs/\ys.length <=i)(hz:xs.length <=sizeLine)
  (hs:∀i x ys σ H,xs[i]?=some x->Pv i ys σ H->g x σ H fun σ2 H2=>tc σ2 H2 fun b H3=>if b=true then te σ2 H3 fun y H4=>Pv (i+ 1) (ys++[y]) σ2 H4 else Pv (i+ 1) ys σ2 H3)
  (hd:∀ys σ H,Pv xs.length ys σ H->∀p G,H p=none->WH H G->G p=some (.lst ys)->Q (.ref p) G):E5 caps g tc te σ Q (GH K a) H1:=
 L4 Pv h0 hl hz hs fun ys σ H h p c=>hd ys σ H h p _ c (Tx c) JD
theorem R6{lo:Int}{n:Nat}{σ:St}{H1:Hp}{Q:VK}(Pv:Nat->List V->St->Hp->Prop)(h0:Pv 0 [] (JH caps σ) H1)(hl:∀i ys σ H,Pv i ys σ H->i <=n->ys.length <=i)(hz:n <=sizeLine)
  (hs:∀i ys σ H,i < n->Pv i ys σ H->g (.int (lo+ i)) σ H fun σ2 H2=>tc σ2 H2 fun b H3=>if b=true then te σ2 H3 fun y H4=>Pv (i+ 1) (ys++[y]) σ2 H4 else Pv (i+ 1) ys σ2 H3)
  (hd:∀ys σ H,Pv n ys σ H->∀p G,H p=none->WH H G->G p=some (.lst ys)->Q (.ref p) G):E5 caps g tc te σ Q (GZ lo n) H1:=
 wZ Pv h0 hl hz hs fun ys σ H h p a=>hd ys σ H h p _ a (Tx a) JD
end
structure AS(K:Wy)(C:WA):Prop where
 ha:W.findIn K (.ref C) "__class__"=some (some (.builtin "object.__class__"))
 hn:W.specialIn K (.builtin "object.__class__") "__get__"=some (some (.builtin "getset_descriptor.__get__"))
 htk:W.takesIn K (.builtin "object.__class__")=some true
 hm:W.mroIn K C (.type "object")=some true
def Ha(C:WA):List V->Hp->VK->Prop:=fun xs H Q=>∃a dx fs,xs=[.ref a,.ref C]/\H a=some (.ins C dx fs)/\Q (.bl true) H
theorem Pz{X:Cx}{K:Wy}{C:WA}(h:X.K=K)(cl:Mj K C)(ic:AS K C):J9 X (.builtin "isinstance") (Ha C):=by
 subst h;intro pins s σ H xs b Q I r hh;obtain⟨a,dx,fs,rfl,ha,q⟩:=hh;refine Q1 pins s σ H _ b Q I r ⟨.ref a,.ref C,.ref C,true,rfl,.ins ha cl ic.ha ic.hn ic.htk ic.hm,rfl,?_,q⟩;show W.kitOne X.K (.ref C) (.ref C)=some true;unfold W.kitOne;rw[Y9 (by simp)]
section
variable{P:Wt}{w:Wx}{K:Wy}{mg:Wp}{base:WD}
theorem Tc.imp{C:WA}{m:Str}{k:Nat}{ps:List Str}{dvs:List V}{sp sp':Sp}(F:Tc P w K mg base C m k ps dvs sp)(h:∀vs H Q E,sp' vs H Q E->sp vs H Q E):Tc P w K mg base C m k ps dvs sp':=by
 obtain⟨f,fd,ds,a,b,c,d,e⟩:=F.ex;exact⟨f,fd,ds,a.imp h,b,c,d,e⟩
theorem JI.imp{x:Str}{k:Nat}{ps:List Str}{dvs:List V}{sp sp':Sp}(F:JI P w K mg base x k ps dvs sp)(h:∀vs H Q E,sp' vs H Q E->sp vs H Q E):JI P w K mg base x k ps dvs sp':=by
 obtain⟨f,fd,ds,a,b,c,d,e⟩:=F.ex;exact⟨f,fd,ds,a.imp h,b,c,d,e⟩
end
theorem Ja{t u:TS}{D:MQ}{σ:St}{H:Hp}(h:∀N:St->Hp->Prop,(∀σ' H',u D σ' H'->N σ' H')->t {D with nx:=N} σ H):Ad t u D σ H:=h (u D) fun _ _ x=>x
theorem Kr(ns:WB){lo hi:Nat}(h1:lo <=hi)(h2:hi <=ns.length):DT (ns.map V.int) (some (lo:Int)) (some (hi:Int))=((ns.drop lo).take (hi - lo)).map V.int:=by
 unfold DT;rw[HT.sIx_nat,HT.sIx_nat,Y1,U5 h2,U5 (YW h1 h2),List.map_take,List.map_drop]
theorem Zf{ns:List V}{lo:Nat}(h1:lo <=ns.length):DT ns (some (lo:Int)) none=ns.drop lo:=by
 unfold DT;rw[HT.sIx_nat,HT.sIx_none,U5 h1,Xi];rw[X9];exact Y6 _
section
variable{κ:Type}[DecidableEq κ]
def D5(kvs:List (κ×V))(k:κ):Option V:=(kvs.find? fun kv=>decide (kv.1=k)).map (·.2)
def Tg(kvs:List (κ×V))(k:κ)(v:V):List (κ×V):=
 if(kvs.any fun kv=>decide (kv.1=k))=true then kvs.map (fun kv=>if kv.1=k then(kv.1,v) else kv) else kvs++[(k,v)]
theorem Ih{p:κ×V}{r:List (κ×V)}{k:κ}(e:p.1=k):D5 (p::r) k=some p.2:=by simp[D5,XB,e]
theorem KG{p:κ×V}{r:List (κ×V)}{k:κ}(e:¬p.1=k):D5 (p::r) k=D5 r k:=by simp[D5,XB,e]
theorem Ou(k:κ):∀kvs:List (κ×V),(kvs.any fun kv=>decide (kv.1=k))=(D5 kvs k).isSome
 |[]=>rfl
 |p::r=>by
  rw[V2]
  by_cases e:p.1=k
  .simp only[Ih e,Yq e,Wl,Option.isSome_some]
  .rw[KG e,Ys e,Bool.false_or];exact Ou k r
theorem Hd(kvs:List (κ×V))(k:κ)(v:V):(Tg kvs k v).length <=kvs.length+ 1:=by
 unfold Tg
 split
 .rw[Y1];lia
 .rw[List.length_append,List.length_cons,List.length_nil];lia
theorem NQ.isSome_eq{o:Option V}{u:Option Value}(r:NQ o u):o.isSome=u.isSome:=by
 cases o with
 |none=>cases u with
  |none=>rfl
  |some _=>exact(show False from r).elim
 |some _=>cases u with
  |none=>exact(show False from r).elim
  |some _=>rfl
theorem KV.val{kvs:List (κ×V)}{vs:List (κ×Value)}(r:KV kvs vs)(k:κ):NQ (D5 kvs k) (valueAt vs k):=by
 unfold KV at r
 induction r with
 |nil=>exact True.intro
 |@cons p q ps qs h t ih=>
  obtain⟨h1,h2⟩:=h
  by_cases e:p.1=k
  .have a:q.1=k:=h1.symm.trans e;have b:valueAt (q::qs) k=some q.2:=by simp[valueAt,XB,a]
   rw[Ih e,b];exact h2
  .have a:¬q.1=k:=fun z=>e (h1.trans z)
   have b:valueAt (q::qs) k=valueAt qs k:=by simp[valueAt,XB,a]
   rw[KG e,b];exact ih
theorem KV.any{kvs:List (κ×V)}{vs:List (κ×Value)}(r:KV kvs vs)(k:κ):(kvs.any fun kv=>decide (kv.1=k))=vs.any fun kv=>decide (kv.1=k):=by
 unfold KV at r
 induction r with
 |nil=>rfl
 |cons h t ih=>rw[V2,V2,ih,h.1]
theorem KV.repl{kvs:List (κ×V)}{vs:List (κ×Value)}(r:KV kvs vs)(k:κ){y:V}{u:Wz}(ry:WU y u):
  KV (kvs.map fun kv=>if kv.1=k then(kv.1,y) else kv) (vs.map fun kv=>if kv.1=k then(kv.1,u) else kv):=by
 unfold KV at r ⊢
 induction r with
 |nil=>exact .nil
 |@cons p q ps qs h t ih=>
  rw[List.map_cons,List.map_cons];refine .cons ?_ ih;obtain⟨h1,h2⟩:=h
  by_cases e:p.1=k
  .rw[Y9 e,Y9 (h1.symm.trans e)];exact⟨h1,ry⟩
  .rw[Y3 e,Y3 (fun z=>e (h1.trans z))];exact⟨h1,h2⟩
theorem KV.put{kvs:List (κ×V)}{vs:List (κ×Value)}(r:KV kvs vs)(k:κ){y:V}{u:Wz}(ry:WU y u):KV (Tg kvs k y) (stored vs k u):=by
 unfold Tg stored;rw[r.any k]
 by_cases e:(vs.any fun a=>decide (a.1=k))=true
 .rw[Y9 e,Y9 e];exact r.repl k ry
 .rw[Y3 e,Y3 e];exact Paired.snoc r ⟨rfl,ry⟩
theorem KV.length{kvs:List (κ×V)}{vs:List (κ×Value)}(r:KV kvs vs):kvs.length=vs.length:=Paired.length r
end
theorem Ex{P:Wt}{w:Wx}{k:Jv}{u:Wz}(r:WU (kV k) u):(Jn P w).is k u=true:=by
 cases k with
 |inl i=>obtain⟨t,e⟩:=(show ∃t,u=Value.int i t from r);subst e;exact Sj P w i t
 |inr x=>obtain⟨t,e⟩:=(show ∃t,u=Value.str x t from r);subst e;exact yI P w x t
theorem Cd{P:Wt}{w:Wx}:∀{ks:List Jv} {us:WC},WO (ks.map kV) us->ItemsAre (Jn P w) ks us
 |[],_,r=>by rw[List.map_nil]at r;cases r;exact .nil
 |k::ks,_,r=>by
  rw[List.map_cons]at r;cases r with
  |cons h t=>exact .cons (Ex h) (Cd t)
abbrev KT(H:Hp):List (List Jv×V)->List (List Jv×Addr×Value)->Prop:=Paired fun p q=>p.1=q.1/\H q.2.1=some (.tup (p.1.map kV))/\WU p.2 q.2.2
theorem KT.val{H:Hp}{kvs:List (List Jv×V)}{xs:List (List Jv×Addr×Value)}(r:KT H kvs xs)(k:List Jv):NQ (D5 kvs k) ((atKey xs k).map (·.2)):=by
 induction r with
 |nil=>exact True.intro
 |@cons p q ps qs h t ih=>
  obtain⟨h1,_,h2⟩:=h
  by_cases e:p.1=k
  .have a:q.1=k:=h1.symm.trans e;have b:atKey (q::qs) k=some q.2:=by simp[atKey,XB,a]
   rw[Ih e,b];exact h2
  .have a:¬q.1=k:=fun z=>e (h1.trans z)
   have b:atKey (q::qs) k=atKey qs k:=by simp[atKey,XB,a]
   rw[KG e,b];exact ih
theorem KT.repl{H:Hp}{kvs:List (List Jv×V)}{xs:List (List Jv×Addr×Value)}(r:KT H kvs xs)(k:List Jv){y:V}{u:Wz}(ry:WU y u):
  KT H (kvs.map fun kv=>if kv.1=k then(kv.1,y) else kv) (xs.map (putAt k u)):=by
 induction r with
 |nil=>exact .nil
 |@cons p q ps qs h t ih=>
  rw[List.map_cons,List.map_cons];refine .cons ?_ ih;obtain⟨h1,h2,a⟩:=h;unfold putAt
  by_cases e:p.1=k
  .rw[Y9 e,Y9 (h1.symm.trans e)];exact⟨h1,h2,ry⟩
  .rw[Y3 e,Y3 (fun z=>e (h1.trans z))];exact⟨h1,h2,a⟩
theorem KT.put{H:Hp}{kvs:List (List Jv×V)}{xs:List (List Jv×Addr×Value)}(r:KT H kvs xs)(k:List Jv){b:WA}{y:V}{u:Wz}(hb:H b=some (.tup (k.map kV)))(ry:WU y u):
  KT H (Tg kvs k y) (storedH xs k b u):=by
 have e:(kvs.any fun a=>decide (a.1=k))=(atKey xs k).isSome:=by
  rw[Ou,(r.val k).isSome_eq,VA]
 unfold Tg storedH;rw[e]
 by_cases q:(atKey xs k).isSome=true
 .rw[Y9 q,Y9 q];exact r.repl k ry
 .rw[Y3 q,Y3 q];exact Paired.snoc r ⟨rfl,hb,ry⟩
theorem KT.keeps{H H':Hp}{kvs:List (List Jv×V)}{xs:List (List Jv×Addr×Value)}(r:KT H kvs xs)(ht:∀b ys,H b=some (.tup ys)->H' b=some (.tup ys)):KT H' kvs xs:=
 Paired.mapP r fun _ _ z=>⟨z.1,ht _ _ z.2.1,z.2.2⟩
section
variable{P:Wt}{w:Wx}{H:Hp}{h:WD}{a:WA}
theorem Lj{u:HO}(ok:No P w H h)(e:Rd H a u):Jh P w H h a u:=e.ok ok
theorem Bg{kvs:List (Jv×V)}(ok:No P w H h)(e:Rd H a (.dK kvs)):kvs.length <=sizeLine/\(a==sysModules)=false/\∃vs,KV kvs vs/\h.DictOf (Jn P w) a vs:=
 show Jh P w H h a (.dK kvs) from Lj ok e
theorem Aw{kvs:List (Jv×V)}(ok:No P w H h)(e:H a=some (.dK kvs)):kvs.length <=sizeLine/\(a==sysModules)=false/\∃vs,KV kvs vs/\h.DictOf (Jn P w) a vs:=Bg ok (.inl e)
theorem Bw{ks:List Jv}(ok:No P w H h)(e:H a=some (.tup (ks.map kV))):(tupleKind (Jn P w)).is h ks a:=by
 obtain⟨_,b,r,o,h1,h2,n,c⟩:=(show Jh P w H h a (.tup (ks.map kV)) from ok a _ e);exact⟨o,b.toArray,n,h1,h2,c,by simpa using Cd r⟩
theorem Bq{kvs:List (List Jv×V)}(ok:No P w H h)(e:Rd H a (.dT kvs)):kvs.length <=sizeLine/\(a==sysModules)=false/\
  ∃xs,KT H kvs xs/\h.DictOfH (tupleKind (Jn P w)) a xs:=by
 obtain⟨z,y,xs,r,o,es,ep,h1,h2,f,d,c⟩:=(show Jh P w H h a (.dT kvs) from Lj ok e);refine⟨z,y,xs,r,o,es,ep,h1,h2,f,d,fun x b=>?_,c⟩;have all:∀{l:List (List Jv×V)} {m:List (List Jv×Addr×Value)},KT H l m->∀x∈m,(tupleKind (Jn P w)).is h x.1 x.2.1:=by
  intro l m q
  induction q with
  |nil=>intro x b;exact nomatch b
  |@cons p q ps qs hq t ih=>
   intro x b;rcases Yu.mp b with e|b
   .subst e;exact Bw ok (by rw[<-hq.1];exact hq.2.1)
   .exact ih x b
 exact all r x b
theorem Zn{kvs:List (List Jv×V)}(ok:No P w H h)(e:H a=some (.dT kvs)):kvs.length <=sizeLine/\(a==sysModules)=false/\
  ∃xs,KT H kvs xs/\h.DictOfH (tupleKind (Jn P w)) a xs:=Bq ok (.inl e)
end
def NJ(H:Hp)(a:WA)(y:V)(r:Option V):Prop:=
 (∃kvs k,Rd H a (.dK kvs)/\y=kV k/\r=D5 kvs k)\/∃kvs k b,Rd H a (.dT kvs)/\y= .ref b/\H b=some (.tup (k.map kV))/\r=D5 kvs k
def Rc(H:Hp)(a:WA)(y v:V)(H':Hp):Prop:=
 (∃kvs k,H a=some (.dK kvs)/\y=kV k/\kvs.length < sizeLine/\H'=upd H a (.dK (Tg kvs k v)))\/
 ∃kvs k b,H a=some (.dT kvs)/\y= .ref b/\H b=some (.tup (k.map kV))/\kvs.length < sizeLine/\H'=upd H a (.dT (Tg kvs k v))
theorem NJ.k{H:Hp}{a:WA}{kvs:List (Jv×V)}{k:Jv}(e:H a=some (.dK kvs)):NJ H a (kV k) (D5 kvs k):=.inl ⟨kvs,k,.inl e,rfl,rfl⟩
theorem Rc.k{H:Hp}{a:WA}{kvs:List (Jv×V)}{k:Jv}{v:V}(e:H a=some (.dK kvs))(hl:kvs.length < sizeLine):Rc H a (kV k) v (upd H a (.dK (Tg kvs k v))):=.inl ⟨kvs,k,e,rfl,hl,rfl⟩
section
variable{X:Cx}{pins:Ws}{σ:St}{H:Hp}{s:Wu}{a:WA}{y v:V}{u r:Wz}{o:Option V}{A:Ww}{E:Wq}
theorem WI.big(I:WI X pins σ H s):sysModules < s.heap.objs.size:=by
 have h:mainGlobals < s.heap.objs.size:=(I.mod.glob.keeps I.bk).lt;exact Nat.lt_trans (by decide) h
theorem ZU{Q:Wq}(hu:A.units+ 1 < cLine)(I:WI X pins σ H s)(g:NJ H a y (some v))(ry:WU y u)(h:∀w' s',WI X pins σ H s'->WU v w'->Q w' s'):
  wpAny (model X.prog X.w) A (getItem (.ref a) u) Q E s:=by
 rcases g with⟨kvs,k,e,ey,l⟩|⟨kvs,k,b,e,ey,eb,l⟩
 .subst ey;obtain⟨z,hd,vs,d,i⟩:=Bg I.hok e;obtain⟨w',f,c⟩:=NQ.some_of (v:=v) (o:=valueAt vs k) (by rw[l];exact d.val k);exact wpAny_getItem_of (Ex ry) i.mapOf f (h w' _ (I.tok _) c)
 .subst ey;cases (show u=Value.ref b from ry);obtain⟨z,hd,xs,d,i⟩:=Bq I.hok e;obtain⟨w',f,c⟩:=NQ.some_of (v:=v) (o:=(atKey xs k).map (·.2)) (by rw[l];exact d.val k);obtain⟨p,n,j⟩:=Yy.mp f;refine wpAny_getItem_heap (UJ hu) (Bw I.hok eb) i n ?_;rw[j];exact h w' _ (I.tok _) c
theorem tN{Q:Wq}(hu:A.units+ 1 < cLine)(I:WI X pins σ H s)(g:NJ H a y o)(ry:WU y u)(h:∀s',WI X pins σ H s'->Q (.bool o.isSome) s'):
  wpAny (model X.prog X.w) A (compareOp .In u (.ref a)) Q E s:=by
 rcases g with⟨kvs,k,e,ey,l⟩|⟨kvs,k,b,e,ey,eb,l⟩
 .subst ey;obtain⟨z,hd,vs,c,d⟩:=Bg I.hok e;refine wpAny_in_of (Ex ry) hd d.mapOf ?_;rw[<-(c.val k).isSome_eq,<-l];exact h _ (I.tok _)
 .subst ey;cases (show u=Value.ref b from ry);obtain⟨z,hd,xs,c,d⟩:=Bq I.hok e;refine wpAny_in_heap (UJ hu) (Bw I.hok eb) hd d ?_;have q:=(c.val k).isSome_eq;rw[VA]at q;rw[<-q,<-l];exact h _ (I.tok _)
theorem yE{Q:Wq}(hu:A.units+ 1 < cLine)(I:WI X pins σ H s)(g:NJ H a y o)(ry:WU y u)(h:∀s',WI X pins σ H s'->Q (.bool (!o.isSome)) s'):
  wpAny (model X.prog X.w) A (compareOp .NotIn u (.ref a)) Q E s:=by
 rcases g with⟨kvs,k,e,ey,l⟩|⟨kvs,k,b,e,ey,eb,l⟩
 .subst ey;obtain⟨z,hd,vs,c,d⟩:=Bg I.hok e;refine wpAny_notIn_of (Ex ry) hd d.mapOf ?_;rw[<-(c.val k).isSome_eq,<-l];exact h _ (I.tok _)
 .subst ey;cases (show u=Value.ref b from ry);obtain⟨z,hd,xs,c,d⟩:=Bq I.hok e;refine wpAny_notIn_heap (UJ hu) (Bw I.hok eb) hd d ?_;have q:=(c.val k).isSome_eq;rw[VA]at q;rw[<-q,<-l];exact h _ (I.tok _)
theorem IK{h':WD}{t':Nat}{ob:HO}(I:WI X pins σ H s)(mu:EW (H a))(hs:Heap.SameBut a s.heap h')(he:∃q,h'.get? a=some q)(new:Jh X.prog X.w (upd H a ob) h' a ob):
  WI X pins σ (upd H a ob) {s with heap:=h',toks:=t'}:=
 I.write (x:=a) (e:=a) mu (.inl rfl) (fun b q c z=>(hs.2 b c).trans z) he new
theorem L9{P:Wt}{w:Wx}{H':Hp}{h':WD}{kvs:List (Jv×V)}{vs:List (Jv×Value)}(z:kvs.length <=sizeLine)(hd:(a==sysModules)=false)(rel:KV kvs vs)(dd:h'.DictOf (Jn P w) a vs):
  Jh P w H' h' a (.dK kvs):=⟨z,hd,vs,rel,dd⟩
theorem Qu{H':Hp}{Q:Wr}(hu:A.units+ 1 < cLine)(I:WI X pins σ H s)(g:Rc H a y v H')(ry:WU y u)(rv:WU v r)(h:∀s',WI X pins σ H' s'->Q () s'):
  wpAny (model X.prog X.w) A (setItem (.ref a) u r) Q E s:=by
 rcases g with⟨kvs,k,e,ey,l,eH⟩|⟨kvs,k,b,e,ey,eb,l,eH⟩
 .subst ey eH;obtain⟨z,hd,vs,d,o⟩:=Aw I.hok e;have j:vs.length <=sizeLine:=by rw[<-d.length];exact z
  have n:(Tg kvs k v).length <=sizeLine:=by have:=Hd kvs k v;lia
  refine wpAny_setItem_pairs (hsz:=j) (Ex ry) o fun h' f hs=>h _ ?_
  have t:∃q,h'.get? a=some q:=let ⟨q,_,_,i,_⟩:=f;⟨q,i⟩;exact IK I (by rw[e];exact True.intro) hs t (L9 n hd (d.put k rv) f)
 .subst ey eH;cases (show u=Value.ref b from ry);obtain⟨z,hd,xs,d,o⟩:=Zn I.hok e;have j:xs.length <=sizeLine:=by rw[<-Paired.length d];exact z
  have n:(Tg kvs k v).length <=sizeLine:=by have:=Hd kvs k v;lia
  refine wpAny_setItem_heap (hsz:=j) (UJ hu) (Bw I.hok eb) o fun h' f hs=>h _ ?_
  obtain⟨q,es,ep,i,h2,h3,h4,_,h5⟩:=f;refine IK I (by rw[e];exact True.intro) hs ⟨q,i⟩ ⟨n,hd,_,(d.put k eb rv).keeps fun c ys p=>?_,q,es,ep,i,h2,h3,h4,h5⟩;rw[Jb (WL p e (fun z=>nomatch z))];exact p
end
def Ik(i:WE):Prop:=∀ov iv,subscripted i false ov iv=operate [ov,iv] (getItem ov iv)
theorem jG{prog:Wt}{w:Wx}{A:Ww}{E:Wq}{s:Wu}{env:Env}{value slice:WE}{pos:Pos}{T id:String}{Q:Wq}
  (hl:typeLookup (.type T) "__getitem__"=pure (some (.builtin id))) (hs:Ik slice)
  (h:wpAny (model prog w) A (eval value env) (fun o s₁=>wpAny (model prog w) A (eval slice env) (fun i s₂=>s₂.TypeIs o T/\wpAny (model prog w) A (getItem o i) Q E s₂) E s₁) E s):
  wpAny (model prog w) A (eval (.Subscript value slice pos) env) Q E s:=by
 refine Subscript_ (YL h (fun o s₁ f=>YL f (fun i s₂ b=>?_) fun _ _ x=>x) fun _ _ x=>x);obtain⟨d,b⟩:=b;unfold subscriptTail;refine Y0 ?_;rw[getitemInPython_of_ne d.not_modules];refine Y0 (wpAny_specialOf d hl ?_);have a:wpAny (model prog w) A (subscripted slice false o i) (fun r c=>wpAny (model prog w) A (letTemporaryGo value o r >>=fun _=>pure r) Q E c) E s₂:=by
  rw[hs o i];exact wpAny_operating (YL b (fun r c e=>Y0 (wpAny_letTemporaryGo (Y2 e))) fun _ _ x=>x)
 first
  |exact Y2 (Y0 a)
  |exact Y0 (Y2 (Y0 a))
  |exact Y0 a
theorem ZK{X:Cx}{pins:Ws}{σ:St}{H:Hp}{s:Wu}{a:WA}{y:V}{o:Option V}(I:WI X pins σ H s)(g:NJ H a y o):s.TypeIs (.ref a) "dict":=by
 rcases g with⟨kvs,k,e,_,_⟩|⟨kvs,k,b,e,_,_,_⟩
 .obtain⟨_,_,vs,_,c⟩:=Bg I.hok e;exact c.typeIs
 .obtain⟨_,_,xs,_,c⟩:=Bq I.hok e;exact c.typeIs
def AV(td ty:TE):TE:=fun σ H Q=>td σ H fun x H1=>ty σ H1 fun y H2=>∃a v,x= .ref a/\NJ H2 a y (some v)/\Q v H2
section
variable{X:Cx}{o i e value:WE}{pos pos' tpos:Pos}{td ty tv:TE}
theorem wV(hu:X.A.units+ 1 < cLine)(ho:PE X o td)(hi:PE X i ty)(hs:Ik i):PE X (.Subscript o i pos) (AV td ty):=by
 intro pins s σ H Q I h;refine jG PySem.F.slot_dict_getitem.lookup hs (J8 (ho pins s σ H _ I h) fun u s1 ⟨x,H1,j,rx,e⟩=>J8 (hi pins s1 σ H1 _ j e) fun p s2 zz=>?_);rcases zz with⟨y,H2,c,ry,a,v,ex,g,d⟩;subst ex;obtain rfl:u=Value.ref a:=rx;exact⟨ZK c g,ZU hu c g ry fun l n f b=>⟨v,H2,f,b,d⟩⟩
end
theorem Po{P:Wt}{w:Wx}{H:Hp}(h:WD)(hb:sysModules < h.objs.size):Jh P w H (h.push {cls:=.type "dict",data:=.dict #[]}) h.objs.size (.dK []):=
 ⟨Yj _,XW.mpr (Ne.symm (Yr hb)),[],.nil,Heap.DictOf.new h⟩
def SB:TE:=fun _ H Q=>∀p,H p=none->Q (.ref p) (upd H p (.dK []))
section
variable{X:Cx}{pos:Pos}
theorem Z6:PE X (.Dict [] [] pos) SB:=fun pins s σ H Q I h=>
 wpAny_Dict_empty ⟨.ref s.heap.objs.size,_,I.laid (a:=s.heap.objs.size) (o:=.dK []) (t':=s.toks) (fun _ _ q=>Y7 _ q) (Y6 _) (Po s.heap I.big),rfl,h _ (I.hok.fresh (Y6 _))⟩
end
def Be:List (TE×TE)->St->Hp->(List (V×V)->Hp->Prop)->Prop
 |[],_,H,Q=>Q [] H
 |(tk,tv)::r,σ,H,Q=>tk σ H fun x H1=>tv σ H1 fun y H2=>Be r σ H2 fun ps H3=>Q ((x,y)::ps) H3
abbrev VV:List (V×V)->List (Value×Value)->Prop:=Paired fun p q=>WU p.1 q.1/\WU p.2 q.2
def As(X:Cx)(pos:Pos)(keys:List (Option Expr))(values:List Expr)(trs:List (TE×TE)):Prop:=
 ∀ (pins:Ws) (s:Wu) (σ:St) (H:Hp) (Q:List (V×V)->Hp->Prop),WI X pins σ H s->Be trs σ H Q->
  wpAny (model X.prog X.w) X.A (evalPairs (pairTrees keys values X.env pos)) (fun vs s'=>∃ps H',WI X pins σ H' s'/\VV ps vs/\Q ps H') X.xe s
theorem wD{X:Cx}{pos:Pos}:As X pos [] [] []:=fun pins s σ H Q I h=>pairTrees_nil_walk ⟨[],H,I,.nil,h⟩
theorem Ic{X:Cx}{pos:Pos}{k v:WE}{ks:List (Option Expr)}{vs:List Expr}{tk tv:TE}{trs:List (TE×TE)}(hk:PE X k tk)(hv:PE X v tv)(hr:As X pos ks vs trs):
  As X pos (some k::ks) (v::vs) ((tk,tv)::trs):=fun pins s σ H Q I h=>
 pairTrees_cons_walk (J8 (hk pins s σ H _ I h) fun u s1 ⟨x, H1, g, rx, d⟩ => J8 (hv pins s1 σ H1 _ g d) fun l s2 ⟨y, H2, f, ry, c⟩ =>
  J8 (hr pins s2 σ H2 _ f c) fun j n zz=>by rcases zz with⟨ps, i, e, a, b⟩;exact ⟨(x, y) :: ps, i, e, .cons ⟨rx, ry⟩ a, b⟩)
def Eg(kvs more:List (Jv×V)):List (Jv×V):=more.foldl (fun acc kv=>Tg acc kv.1 kv.2) kvs
theorem KV.merge:∀{more:List (Jv×V)} {rs:List (Jv×Value)} {kvs:List (Jv×V)} {vs:List (Jv×Value)},KV more rs->KV kvs vs->KV (Eg kvs more) (merged vs rs):=by
 intro more rs kvs vs r;unfold KV at r
 induction r generalizing kvs vs with
 |nil=>intro q;exact q
 |@cons p q ps qs h t ih=>
  intro a;have e:KV (Tg kvs p.1 p.2) (stored vs q.1 q.2):=by
   have:=a.put p.1 h.2;rw[<-h.1];exact this
  exact ih e
theorem KW:∀ (more kvs:List (Jv×V)),(Eg kvs more).length <=kvs.length+ more.length
 |[],kvs=>by show kvs.length <=kvs.length+ 0;lia
 |p::r,kvs=>by
  have h1:=KW r (Tg kvs p.1 p.2);have h2:=Hd kvs p.1 p.2;show(Eg (Tg kvs p.1 p.2) r).length <=_;rw[List.length_cons];lia
theorem Om{P:Wt}{w:Wx}:∀{kvs:List (Jv×V)} {ws:List (Value×Value)},VV (kvs.map fun kv=>(kV kv.1,kv.2)) ws->∃rs,Carries (Jn P w) ws rs/\KV kvs rs
 |[],_,r=>by rw[List.map_nil]at r;cases r;exact⟨[],True.intro,.nil⟩
 |p::kvs,_,r=>by
  rw[List.map_cons]at r;cases r with
  |@cons a b as bs h t=>
   obtain⟨rs,c,q⟩:=Om (P:=P) (w:=w) t;obtain⟨e,d⟩:=b;exact⟨(p.1,d)::rs,⟨Ex h.1,rfl,c⟩,.cons ⟨rfl,h.2⟩ q⟩
def IY(trs:List (TE×TE)):TE:=fun σ H Q=>∀p,H p=none->Be trs σ (upd H p (.dK [])) fun ps H2=>H2 p=some (.dK [])/\∃kvs:List (Jv×V),ps=kvs.map (fun kv=>(kV kv.1,kv.2))/\kvs.length <=15/\Q (.ref p) (upd H2 p (.dK (Eg [] kvs)))
theorem Zd{X:Cx}{pos:Pos}{keys:List (Option Expr)}{values:List Expr}{trs:List (TE×TE)}(h:As X pos keys values trs)(hall:keys.all (·.isSome)=true)(hl:keys.length=values.length)(h0:keys≠[])
  (h15:keys.length <=15):PE X (.Dict keys values pos) (IY trs):=by
 intro pins s σ H Q I q;have r:=I.hok.fresh (Y6 s.heap.objs.size);have I1:=I.laid (a:=s.heap.objs.size) (o:=.dK []) (h':=s.heap.push {cls:=.type "dict",data:=.dict #[]}) (t':=s.toks) (fun _ _ q=>Y7 _ q) (Y6 _) (Po s.heap I.big);refine wpAny_Dict_walk (knd:=Jn X.prog X.w) hall hl h0 h15 (J8 (h pins _ σ _ _ I1 (q _ r)) fun ws s2 zz=>?_);rcases zz with⟨ps,H2,g,f,e,b,ep,lk,n⟩;subst ep;obtain⟨i,c,j⟩:=Om (P:=X.prog) (w:=X.w) f;obtain⟨z,hd,vs0,l,u⟩:=Aw g.hok e;cases l;refine⟨i,c,u,fun h' d hs=>⟨.ref s.heap.objs.size,_,?_,rfl,n⟩⟩;have p:(Eg [] b).length <=sizeLine:=by
  have h1:=KW b [];rw[List.length_nil]at h1;rw[Yh];lia
 have t:∃q,h'.get? s.heap.objs.size=some q:=let ⟨q,_,_,hq,_⟩:=d;⟨q,hq⟩;exact IK g (by rw[e];exact True.intro) hs t (L9 p hd (j.merge .nil) d)
theorem OL:∀{ns:WB} {us:WC},WO (ns.map V.int) us->IntsAre us ns
 |[],_,r=>by cases r;exact .nil
 |n::ns,_,r=>by
  cases r with
  |cons h t=>
   obtain⟨tk,rfl⟩:=(show ∃t,_=Value.int n t from h);exact .cons n tk (OL t)
end L2
set_option maxHeartbeats 400000
namespace L2
open PySem PySem.Spec PyProof.Rows
section
variable{prog:Wt}{w:Wx}{A:Ww}{E:Wq}{s:Wu}
theorem Sm{id:String}{b:Builtin}{args:WC}{kw:List (Str×Value)}{Q:Wq}(hk:builtinKind id=none)(hp:plainId id=true)(hb:entryFor table id=some b)(ha:argsOk id ⟨args,kw⟩)
  (hc:wpAny (model prog w) A.in1 (b ⟨args,kw⟩) (fun f s'=>∃c,f= .again c/\c.quiet=true/\codeAny (model prog w) A c (fun r s'=>match r with| .ok (.ret v)=>Q v s'| .ok _=>False| .error e=>E e s') s') E s):
  wpAny (model prog w) A (call (.builtin id) args kw) Q E s:=by
 refine Vb (codeAny_call_builtin hp hb ?_); simp only [checkBuiltinCall, hk];have a := YL (Q' := fun g s' => match g with
   | .done f=>(match (Except.ok f:Result) with| .ok (.ret v)=>Q v s'| .ok _=>False| .error e=>E e s')
   | .again c' => c'.quiet = true /\ codeAny (model prog w) A c' (fun r s' => match r with | .ok (.ret v) => Q v s' | .ok _ => False | .error e => E e s') s') hc (fun f s' ⟨c, e, z⟩ => by subst e; exact z) fun _ _ z => z
 cases hsig:Manifest.signature? id with
 |none=>exact Y2 a
 |some sig=>
  have d:Bind.checkArgs id sig ⟨args,kw⟩=pure ():=by simpa only[argsOk,hsig] using ha
  simp only[d];exact Y2 a
end
section
variable{prog:Wt}{w:Wx}{A:Ww}{R:Result->Shared->Prop}{I:WA}{fp wr:List Addr}{n:Nat}{P:Nat->Value->Prop}{St:Nat->Heap->Prop}
theorem Fw{a b:Wz}:(#[a,b]:Array Value).size <=sizeLine:=by show 2 <=sizeLine;rw[Yh];decide
theorem Qp{a b:Wz}:(#[a,b]:Array Value).size <=sizeLine+ 1:=Vz Fw
theorem QQ:(#[]:Array Value).size <=sizeLine+ 1:=Yj _
end
structure E3(mg:Wp):Prop where
 sum:mg "sum"=none
 sorted:mg "sorted"=none
section
variable{X:Cx}{pos pos':Pos}{o i value:WE}{td ty tv:TE}
def Fe:TE:=fun _ H Q=>∀p G,H p=none->WH H G->G p=some (.dK [])->Q (.ref p) G
theorem Ca:PE X (.Dict [] [] pos) Fe:=fun pins s σ H Q I h=>Z6 pins s σ H Q I fun p a=>h p _ a (Tx a) JD
end
end L2
set_option maxHeartbeats 4000000
namespace L2
open PySem PySem.Spec PyProof.Rows
end L2
namespace L2
open PySem PySem.Spec PyProof.Rows PySem.W
section
variable{O:KeyOrd}{key:Nat->O.α}{N:Nat}{p:Array Nat}
def SK(O:KeyOrd)(key:Nat->O.α)(p:Array Nat)(i:Nat):O.α:=key (p.getD i 0)
def Bv(O:KeyOrd)(key:Nat->O.α)(p:Array Nat)(k:Nat):Prop:=∀i j,i <=j->j < k->O.kle (SK O key p i) (SK O key p j)
def TV(N:Nat)(p:Array Nat):Prop:=p.Perm (List.toArray (List.range N))
theorem TV.size(h:TV N p):p.size=N:=by have:=Array.Perm.size_eq h;simpa using this
abbrev Tb(O:KeyOrd)(key:Nat->O.α)(i j:Nat):Bool:=O.blt (key i) (key j)
end
section
variable{prog:Wt}{w:Wx}{A:Ww}{E:Wq}{s:Wu}{O:KeyOrd}{key:Nat->O.α}{κ:SortKind}{vs:WC}
theorem Oa(vs:WC):(List.range vs.length).map (fun i=>vs.getD i Value.none)=vs:=by
 apply List.ext_getElem?;intro i;rw[Yf]
 by_cases h:i < vs.length
 .rw[List.getElem?_range h,Y5 h];simp[h]
 .rw[U6 (by simpa using h),U6 (by simpa using h)];rfl
end
section
variable{prog:Wt}{w:Wx}{A:Ww}{E:Wq}{s:Wu}
theorem Sy{a b:Int}{t u:Tok}{Q:Wq}(h:Q (.bool (decide (a < b))) s):wpAny (model prog w) A (richCompare .Lt (.int a t) (.int b u)) Q E s:=
 CmpOf.ints_lt (P := fun i v => (i = 0 /\ v = .int a t) \/ (i ≠ 0 /\ v = .int b u)) (fun i => if i = 0 then a else b) (by
  rintro i v (⟨rfl,rfl⟩|⟨h,rfl⟩)
  .exact⟨t,rfl⟩
  .exact ⟨u, by rw [Y3 h]⟩) 0 1 _ _ s Q E (.inl ⟨rfl, rfl⟩) (.inr ⟨by decide, rfl⟩) h
end
end L2
namespace L2
open PySem PySem.Spec PyProof.Rows
section
variable{X:Cx}{pins:Ws}{σ:St}{H:Hp}{s:Wu}{h':WD}
theorem WI.turnL{t':Nat}{wr:List Addr}(I:WI X pins σ H s)(hf:∀b∈wr,TZ X pins H b)(k:∀b o,b∉wr->s.heap.get? b=some o->h'.get? b=some o):WI X pins σ H {s with heap:=h',toks:=t'}:=by
 have f:∀b u,H b=some u->b∉wr:=fun b u e z=>by rw[(hf b z).1]at e;cases e
 refine I.step (g':=s.gens) (d':=s.drawn) (ch:=wr) (fun b d=>⟨(hf b d).2.2.2.1,(hf b d).2.1,(hf b d).2.2.2.2.1,(hf b d).2.2.2.2.2⟩) (fun b o _ _ a e _=>k b o a e) (fun b o _ _ a e _=>⟨o.slots,k b o a e⟩) (fun _ _ _ _ n=>n)
  (fun b o a e=>⟨o,k b o a e⟩) (fun _ _ e=>e) (fun _ _ _ e=>e) (fun b ps e=>⟨#[],by rw[e];simp⟩) (fun m h=>?_) (fun b u e=>?_) I.bare
 .obtain⟨o,es,ep,g,r⟩:=h;exact⟨o,es,ep,k _ o (fun z=>(hf _ z).2.1 rfl) g,r⟩
 .refine(I.hok b u e).stay (fun c v a q=>k c v ?_ q) (fun _ q=>q) fun _ _ q=>q
  rcases a with z|z
  .rw[z];exact f b u e
  .exact f c _ z
theorem WI.turnNew{t':Nat}{wr:List Addr}{a:WA}{o:HO}(I:WI X pins σ H s)(hf:∀b∈wr,TZ X pins H b)(k:∀b o,b∉wr->s.heap.get? b=some o->h'.get? b=some o)(hp:s.heap.objs.size <=a)
  (new:Jh X.prog X.w (upd H a o) h' a o):WI X pins σ (upd H a o) {s with heap:=h',toks:=t'}:=by
 have g:H a=none:=I.hok.fresh hp;have h:∀b u,H b=some u->b∉wr:=fun b u e z=>by rw[(hf b z).1]at e;cases e
 refine I.step (g':=s.gens) (d':=s.drawn) (ch:=wr) (fun b f=>⟨(hf b f).2.2.2.1,(hf b f).2.1,(hf b f).2.2.2.2.1,(hf b f).2.2.2.2.2⟩) (fun b o _ _ d e _=>k b o d e) (fun b o _ _ d e _=>⟨o.slots,k b o d e⟩)
  (fun b o _ e n=>by rw[Jb (Yr (Yz (Ye e) hp))];exact n)
  (fun b o d e=>⟨o,k b o d e⟩) (fun b xs e=>by rw[Jb (J6 e g)];exact e) (fun b o u e=>by rw[Jb (J6 e g)];exact e) (fun b ps e=>⟨#[],by rw[Jb (J6 e g),e];simp⟩) (fun m j=>?_) (fun b u e=>?_) I.bare
 .obtain⟨o,es,ep,i,r⟩:=j;exact⟨o,es,ep,k _ o (fun z=>(hf _ z).2.1 rfl) i,r⟩
 .by_cases f:b=a
  .subst f;rw[JD]at e;cases e;exact new
  .rw[Jb f]at e;refine(I.hok b u e).stay (fun c v d q=>k c v ?_ q) (fun c q=>by rw[Jb (J6 q g)];exact q) fun c xs q=>by rw[Jb (J6 q g)];exact q
   rcases d with z|z
   .rw[z];exact h b u e
   .exact h c _ z
end
def Ip(K:Wy)(a:WA):It:=
 ⟨fun i H=>∃xs x,WJ K H a xs/\xs[i]?=some x,fun i H x H'=>∃t y,x= .ref t/\H t=none/\WH H H'/\H' t=some (.tup [.int i,y])/\∀xs,WJ K H a xs->xs[i]?=some y,fun i H=>∃xs,WJ K H a xs/\xs.length <=i⟩
theorem Hk{h:WD}{a b:WA}{o o':Obj}(e:h.get? a=some o)(e':h.get? b=some o')(hc:o.cls≠o'.cls):a≠b:=fun z=>by
 subst z;rw[e]at e';cases e';exact hc rfl
theorem vS{P:Wt}{w:Wx}{K:PySem.W.Frag}{elts:List Expr}{k:Nat}{pos:Pos}(l e it:WA):El P w K (.Tuple elts k pos) (Ip K l) [e,it] e (fun i h=>(∃old,IsEnum h e it i old)/\h.IsListIter it l i) where
 mem:=by simp
 obj:=fun i h st b a=>by
  obtain⟨⟨old,c⟩,o,ho,r,hd⟩:=st;rcases Yu.mp a with rfl|a
  .exact⟨_,c,fun v z=>by cases z⟩
  .have e:b=it:=by simpa using a
   subst e;exact⟨o,ho,fun v z=>by rw[hd]at z;cases z⟩
 keep:=fun i h h' st n=>⟨⟨st.1.choose,n e (by simp) _ st.1.choose_spec⟩,st.2.at fun o x=>n it (by simp) o x⟩
 item:=by
  intro X j hw hK r i pins s σ H E I hf st hg;subst j hw hK;obtain⟨xs,x,q,hx⟩:=hg;obtain⟨d,rv,p,hz⟩:=I.list q;obtain⟨u,hu,ru⟩:=rv.get hx;obtain⟨⟨old,c⟩,f⟩:=st;obtain⟨oit,g,ab,dit⟩:=id f;obtain⟨ol,el,cl,nl,dl⟩:=id p.isList;have hei:e≠it:=Hk c g (by rw[ab];(try dsimp only);decide);have hle:l≠e:=Hk el c (by rw[cl];(try dsimp only);decide);have hli:l≠it:=Hk el g (by rw[cl,ab];(try dsimp only);decide);have W:=WalksT.enumerate (prog:=X.prog) (w:=X.w) (I.ok.hd r) e it l hei hle hli d.toArray;have hi:i < d.toArray.size:=by rw[Yc];exact(Y4.mp hu).1
  refine W.item i s _ _ hi ⟨⟨old,c⟩,f,p.isList⟩ fun T vals h1 tk j hT hIT hM k1=>⟨.ref T,rfl,W.go _ _ _ i T _ _ _ hM fun h2 aa k2=>?_⟩
  obtain⟨t,y,hy,rfl⟩:=j;have ey:y=u:=by
   have:d.toArray[i]?=some u:=by simpa using hu
   rw[this]at hy;exact(Yn hy).symm
  subst ey;have hn:H T=none:=I.hok.fresh hT;have n:∀b o,b∉[e,it]->s.heap.get? b=some o->h2.get? b=some o:=fun b o a x=>k2 b o a (k1 b o a x)
  have hT2:h2.IsTuple T #[.int i t,y]:=hIT.at fun o x=>k2 T o (W.apart i T _ hM) x
  refine⟨.ref T,upd H T (.tup [.int i,x]),I.turnNew (t':=tk) hf n hT ⟨by show 2 <=sizeLine;decide,[.int i t,y],.cons ⟨t,rfl⟩ (.cons ru .nil),hT2⟩,rfl,⟨T,x,rfl,hn,Tx hn,JD,fun ys hys=>?_⟩,⟨aa.1,aa.2.1⟩,fun b a=>?_⟩
  .rw[I.list_inj hys q];exact hx
  .have hbn:=(hf b a).1;have:b≠T:=fun z=>W.apart i T _ hM (z▸a)
   rw[Jb this];exact hbn
 done:=by
  intro X j hw hK r i pins s σ H E I hf st hg;subst j hw hK;obtain⟨xs,q,hx⟩:=hg;obtain⟨d,rv,p,hz⟩:=I.list q;obtain⟨⟨old,c⟩,f⟩:=st;have hl:=rv.length;exact wpAny_pyNext_enum_end (I.ok.hd r) c f p.isList (by simp;lia) fun h' eb=>⟨rfl,I.turnL (t':=s.toks) hf fun b o a x=>eb b o (fun z=>a (by simp[z])) x⟩
 self:=fun _ _ _ _ _ st h=>wpAny_pyIter_enum st.1.choose_spec h
section
variable{X:Cx}{K:Wy}
def FE(K:Wy)(ta:TA):TI:=fun σ H R=>ta σ H fun vs H1=>∃l,vs=[.ref l]/\(∃xs,WJ K H1 l xs)/\R (Ip K l) H1
theorem SX{a:WE}{ta:TA}{elts:List Expr}{k:Nat}{pos' p pos:Pos}(h:X.K=K)(hg:Gl X "enumerate")(hm:X.mg "enumerate"=none)(ha:PA X [a] ta)(hs:starEach [a] X.env=[(false,eval a X.env)]:=by rfl):
  PI X (.Tuple elts k pos') (.Call (.Name "enumerate" p) [a] [] pos) (FE K ta):=by
 subst h;intro pins s σ H R I h;refine Call_ (RZ I hg hm boot_enumerate (Uz (J8 (ha pos pins s σ H _ I h) fun z s1 zz=>?_) hs rfl));rcases zz with⟨vs,H1,c,j,n⟩;obtain⟨l,e,⟨xs,o⟩,q⟩:=n;subst e;obtain⟨u,rfl,rx⟩:=D4 j;cases rx;obtain⟨t,rv,p,hz⟩:=c.list o;refine call_enumerate_list p.isList fun h' i g w r=>wpAny_pyIter_enum i ?_
 refine⟨_,[s1.heap.objs.size+ 1,s1.heap.objs.size],_,_,H1,rfl,c.kept (t':=s1.toks) r,vS l _ s1.heap.objs.size,⟨⟨_,i⟩,g⟩,fun b f=>?_,q⟩;have d:s1.heap.objs.size <=b:=by
  rcases Yu.mp f with rfl|f
  .exact XD _
  .rw[Y8.mp f];exact Y6 _
 exact c.fpOk d (c.hok.fresh d)
end
theorem SY{n:Nat}(f:Nat->Int):argBest (fun i j=>decide (f i < f j)) n <=n/\∀i,i <=n->f (argBest (fun i j=>decide (f i < f j)) n) <=f i:=by
 induction n with
 |zero=>exact⟨by simp[argBest],fun i hi=>by obtain rfl:i=0:=(by lia);simp[argBest]⟩
 |succ n ih=>
  by_cases h:f (n+ 1) < f (argBest (fun i j=>decide (f i < f j)) n)
  .have e:argBest (fun i j=>decide (f i < f j)) (n+ 1)=n+ 1:=by simp[argBest,h]
   rw[e];refine⟨Y6 _,fun i hi=>?_⟩
   by_cases hi':i=n+ 1
   .subst hi';exact XE _
   .have:=ih.2 i (by lia);lia
  .have e:argBest (fun i j=>decide (f i < f j)) (n+ 1)=argBest (fun i j=>decide (f i < f j)) n:=by simp[argBest,h]
   rw[e];refine⟨by lia,fun i hi=>?_⟩
   by_cases hi':i=n+ 1
   .subst hi';lia
   .exact ih.2 i (by lia)
section
variable{X:Cx}{K:Wy}
def Fi(K:Wy):List V->Hp->VK->Prop:=fun xs H Q=>∃ (p:WA) (ns:WB),xs=[.ref p]/\WJ K H p (ns.map V.int)/\ns≠[]/\∀v,v∈ns->(∀y∈ns,v <=y)->Q (.int v) H
theorem La(hc:X.calm=true)(h:X.K=K):J9 X (.builtin "min") (Fi K):=by
 subst h;intro pins s σ H xs us Q I r hh;obtain⟨p,a,rfl,hq,f,q⟩:=hh;obtain⟨u,rfl,rx⟩:=D4 r;cases rx;obtain⟨b,w,z,hz⟩:=I.list hq;have hh:X.A.in1.handled=none:=I.ok.hd hc;have hi:IntsAre b a:=OL w;obtain⟨xs,d⟩:=hi.allInts.items;have j:s.heap.IsList p (intItems xs):=d▸z.isList;have o:a=xs.toList.map (·.1):=by
  rw[<-nums_intItems,<-d];exact(show numsOf b.toArray.toList=a from hi.numsOf).symm
 have e:xs.size=a.length:=by rw[o];simp
 have c:0 < xs.size:=by rw[e];exact List.length_pos_iff.mpr f
 refine min_intList hh j c fun v h' tk hv hk=>?_
 obtain⟨t,rfl⟩:=intItems_at hv;obtain⟨b1,b2⟩:=SY (n:=xs.size - 1) (numAt xs);have g:∀i (hi:i < a.length),numAt xs i=a[i]:=fun i hi=>by
  have:a[i]?=(xs.toList.map (·.1))[i]?:=by rw[<-o]
  rw[Y5 hi,Yf]at this;unfold numAt;have e2:xs[i]?=xs.toList[i]?:=by simp
  rw[e2,<-this];rfl
 refine⟨.int _,H,I.kept (t':=tk) hk,⟨t,rfl⟩,q _ ?_ fun y hy=>?_⟩
 .rw[g _ (by lia)];exact Xw _
 .obtain⟨k,l,rfl⟩:=XM.mp hy;rw[<-g k l];exact b2 k (by lia)
end
def MT(val:Nat->Int):Nat->Int
 |0=>val 0
 |j+ 1=>if val (j+ 1) < MT val j then val (j+ 1) else MT val j
section
variable{prog:Wt}{w:Wx}{A:Ww}{R:Result->Shared->Prop}{I:WA}{fp wr:List Addr}{n:Nat}{P:Nat->Value->Prop}{St:Nat->Heap->Prop}
def ZY(val:Nat->Int)(j:Nat)(old:Array Value):Prop:=(j=0/\old=#[])\/∃i t,j=i+ 1/\old=#[.int (MT val i) t,.int (MT val i) t]
theorem tY(W:Walks prog w A.in1 I fp wr n P St)(val:Nat->Int)(hval:∀i v,P i v->∃t,v= .int (val i) t)(d:Wz)(S:WA)(hSf:S∉fp):
  ∀ (k j:Nat) (s:Wu) (old:Array Value) (c:Nat),n - j=k->j <=n->St j s.heap->ZY val j old->s.heap.get? S=some {cls:=.type "list",dict:=none,data:=.seq old c,slots:=#[]}->
  (∀v h' tk,(n=0->v=d)->(∀m,n=m+ 1->∃t,v= .int (MT val m) t)->(∀b o,b∉wr->b≠S->s.heap.get? b=some o->h'.get? b=some o)->R (.ok (.ret v)) {s with heap:=h',toks:=tk})->
  codeAny (model prog w) A (.builtin "min.loop" ⟨[.ref I,.none,.ref S],[("default",d)]⟩) R s:=by
 have hSw:S∉wr:=fun z=>hSf (W.sub _ z)
 have hnm:(toString "min"++toString ".loop":String)="min.loop":=by decide
 intro k
 induction k with
 |zero=>
  intro j s old c hk hj hst hB hS hR;obtain rfl:j=n:=by lia
  refine XN F.entry_min_loop ?_;rw[Xy Ug _];refine Y0 (wpAny_seqItems hS rfl (Y0 (W6 (W.done s _ _ hst fun h' tk h=>?_))));have q:=h S _ hSw hS;rcases hB with⟨h0,rfl⟩|⟨i,t,hi,rfl⟩
  .refine Y0 (XO (Y2 ?_));exact hR d h' tk (fun _=>rfl) (fun m z=>by lia) fun b o a _ e=>h b o a e
  .refine Y0 (UH (hz:=Fw) (_hz':=QQ) q rfl (Y0 (Vo (Y2 ?_))));exact hR _ _ tk (fun z=>by lia) (fun m z=>⟨t,by rw[show i=m by lia]⟩) fun b o a g e=>(Xq _ _ (Ne.symm g)).trans (h b o a e)
 |succ k ih=>
  intro j s old c hk hj hst hB hS hR;refine XN F.entry_min_loop ?_;rw[Xy Ug _];refine Y0 (wpAny_seqItems hS rfl (Y0 (W6 (W.item j s _ _ (by lia) hst fun v h' tk hP aa h=>?_))));have q:=h S _ hSw hS;obtain⟨t,rfl⟩:=hval j v hP;rcases hB with⟨rfl,rfl⟩|⟨i,t',rfl,rfl⟩
  .refine Y0 (Y2 ?_);show wpAny _ A.in1 (updateSeq S (fun _=>#[.int (val 0) t,.int (val 0) t]) >>=fun _=>again _) _ _ _;refine Y0 (UH (f:=fun _=>#[.int (val 0) t,.int (val 0) t]) (xs:=#[]) (n:=c) q rfl ?_ (Yj _) Qp);rw[hnm];refine Y2 ⟨XU Ug _,ih 1 _ _ _ (by lia) (by lia) (W.frame _ _ _ aa fun b r o e=>(Xq _ _ (fun z:S=b=>hSf (by rw[z];exact r))).trans e) (.inr ⟨0,t,rfl,rfl⟩) (YM _ q rfl) ?_⟩;exact fun v' u l z1 z2 p=>hR v' u l z1 z2 fun b o a g e=>p b o a g ((Xq _ _ (Ne.symm g)).trans (h b o a e))
  .refine Y0 (Y2 (Y0 (W6 (X0 (Y0 (Sy ?_))))));refine Y0 (X0 (Xk (Y0 (Vo (Y2 ?_)))))
   by_cases r:val (i+ 1) < MT val i
   .have eU:MT val (i+ 1)=val (i+ 1):=by show(if _ then _ else _)=_;rw[Y9 r]
    simp only[r,Xc,if_true];refine Y0 (UH (f:=fun _=>#[.int (val (i+ 1)) t,.int (val (i+ 1)) t]) (n:=c) q rfl (Y0 (Vo ?_)) Fw Qp);rw[hnm];refine Y2 ⟨XU Ug _,ih (i+ 1+ 1) _ _ _ (by rw[Wm,hk];rfl) (by lia) (W.frame _ _ _ aa fun b r o e=>(Xq _ _ (fun z:S=b=>hSf (by rw[z];exact r))).trans e) (.inr ⟨i+ 1,t,rfl,by rw[eU]⟩) (YM _ q rfl) ?_⟩;exact fun v' u l z1 z2 p=>hR v' u l z1 z2 fun b o a g e=>p b o a g ((Xq _ _ (Ne.symm g)).trans (h b o a e))
   .have eU:MT val (i+ 1)=MT val i:=by show(if _ then _ else _)=_;rw[Y3 r]
    simp only[r,Xa,Bool.false_eq_true,if_false];refine Y0 (Vo ?_);rw[hnm];refine Y2 ⟨XU Ug _,ih (i+ 1+ 1) _ _ _ (by rw[Wm,hk];rfl) (by lia) aa (.inr ⟨i+ 1,t',rfl,by rw[eU]⟩) q ?_⟩;exact fun v' u l z1 z2 p=>hR v' u l z1 z2 fun b o a g e=>p b o a g (h b o a e)
end
theorem PN(val:Nat->Int):∀m,(∃i,i <=m/\MT val m=val i)/\∀i,i <=m->MT val m <=val i
 | 0 => ⟨⟨0, Y6 _, rfl⟩, fun i hi => by
   have:i=0:=by lia
   subst this; exact XE _⟩
 |m+ 1=>by
  obtain⟨⟨i,hi,e⟩,h⟩:=PN val m
  by_cases hb:val (m+ 1) < MT val m
  .have a:MT val (m+ 1)=val (m+ 1):=by show(if _ then _ else _)=_;rw[Y9 hb]
   refine⟨⟨m+ 1,Y6 _,a⟩,fun j b=>?_⟩;rw[a]
   by_cases hj':j=m+ 1
   .rw[hj'];exact XE _
   .have:=h j (by lia);lia
  .have a:MT val (m+ 1)=MT val m:=by show(if _ then _ else _)=_;rw[Y3 hb]
   refine⟨⟨i,by lia,by rw[a,e]⟩,fun j b=>?_⟩;rw[a]
   by_cases hj':j=m+ 1
   .rw[hj'];lia
   .exact h j (by lia)
theorem vO(a d:Wz):argsOk "min" ⟨[a],[("default",d)]⟩:=by unfold argsOk;kernel_rfl
def BG(K:Wy):V->V->Hp->VK->Prop:=fun x d H Q=>∃ (p:WA) (ns:WB),x= .ref p/\WJ K H p (ns.map V.int)/\(ns=[]->Q d H)/\∀v,v∈ns->(∀y∈ns,v <=y)->Q (.int v) H
def IF(K:Wy)(ta tb:TE):TE:=fun σ H Q=>ta σ H fun x H1=>tb σ H1 fun d H2=>BG K x d H2 Q
section
variable{X:Cx}{K:Wy}
theorem ZW{pins:Ws}{s:Wu}{σ:St}{H:Hp}{x d:V}{u w':Wz}{Q:VK}(hc:X.calm=true)(I:WI X pins σ H s)(rx:WU x u)(rd:WU d w')(h:BG X.K x d H Q):
  wpAny (model X.prog X.w) X.A (call (.builtin "min") [u] [("default",w')]) (EP X pins σ Q) X.xe s:=by
 obtain⟨p,c,rfl,hq,q0,q1⟩:=h;cases rx;obtain⟨f,rv,pl,hz⟩:=I.list hq;have hh:X.A.in1.handled=none:=I.ok.hd hc;have q:=pl.isList;have j:p < s.heap.objs.size:=by obtain⟨_,e,_⟩:=q;exact Ye e
 have n:c.length=f.length:=by have:=rv.length;simpa using this
 refine Sm F.kind_min F.plain_min F.entry_min (vO _ _) ?_;show wpAny _ X.A.in1 (Builtin.Builtins.bindParams "min" ["key","default"] 0 ⟨[],[("default",w')]⟩ >>=_) _ _ s;refine Y0 (UX (show Builtin.Builtins.bindParams "min" ["key","default"] 0 ⟨[],[("default",w')]⟩=pure [none,some w'] from rfl) ?_);refine Y0 (Y2 (Y0 (UT q (Y0 (YS ?_)))));have hnm:(toString "min"++toString ".loop":String)="min.loop":=by decide
 rw[hnm];have W:=Walks.list (prog:=X.prog) (w:=X.w) hh s.heap.objs.size p (Yr j) f.toArray;refine Y2 ⟨_,rfl,XU Ug _,tY W (fun i=>c.getD i 0) ?_ w' _ ?_ _ 0 _ _ _ rfl (Yj _) (W.frame _ _ _ ⟨⟨_,Yi _ rfl,rfl,rfl⟩,q.push _⟩ fun b _ o e=>Y7 _ e) (.inl ⟨rfl,rfl⟩) (Yi _ rfl) ?_⟩
 .intro i v hv;have g:f[i]?=some v:=by simpa using hv
  cases e:c[i]? with
  |none=>
   have:f[i]?=none:=by
    rw[VG]at e ⊢;lia
   rw[this]at g;cases g
  |some b=>
   obtain⟨u,hu,ru⟩:=rv.get (i:=i) (x:=V.int b) (by rw[Yf,e];rfl);rw[g]at hu;cases hu;obtain⟨t,rfl⟩:=(show ∃t,v=Value.int b t from ru);exact⟨t,by simp[List.getD,e]⟩
 .intro z;rw[Yu,Y8]at z;dsimp only at z;rw[Ud]at z;rcases z with z|z
  .exact absurd z (Nat.succ_ne_self _)
  .rw[<-z]at j;exact absurd j (Nat.not_lt.mpr (XD _))
 .intro v h' tk z1 z2 hk;have kept:∀b o,s.heap.get? b=some o->h'.get? b=some o:=fun b o eo=>by
   have hb:=Ye eo;refine hk b o ?_ ?_ (Y7 _ (Y7 _ eo))
   .intro z;have e:b=s.heap.objs.size:=by simpa using z
    exact absurd e (Yr hb)
   .intro z;dsimp only at z;rw[Ud]at z;exact absurd z (Yr (XS hb))
  have l:f.toArray.size=c.length:=by rw[Yc,n]
  cases hns:c with
  |nil=>
   rw[z1 (by rw[l,hns];rfl)];exact⟨d,H,I.kept (t':=tk) kept,rd,q0 hns⟩
  |cons a r=>
   obtain⟨t,rfl⟩:=z2 r.length (by rw[l,hns];rfl);obtain⟨⟨i,hi,e⟩,hmx⟩:=PN (fun i=>c.getD i 0) r.length;have hl2:c.length=r.length+ 1:=by rw[hns];rfl
   refine⟨.int (MT (fun i=>c.getD i 0) r.length),H,I.kept (t':=tk) kept,⟨t,rfl⟩,q1 _ ?_ fun y hy=>?_⟩
   .rw[e];have:c.getD i 0=c[i]'(by lia):=by simp[List.getD,show i < c.length by lia]
    show c.getD i 0∈c;rw[this];exact Xw _
   .obtain⟨k,hk',rfl⟩:=XM.mp hy;have:=hmx k (by lia);have e2:c.getD k 0=c[k]:=by simp[List.getD,hk']
    rw[<-e2];exact this
theorem SR{e e2:WE}{ta tb:TE}{x:Str}{p pos kp:Pos}(h:X.K=K)(hx:x="min")(hc:X.calm=true)(hg:Gl X x)(hm:X.mg x=none)(hv:bootBuiltins x=some (.builtin "min"))(ha:PE X e ta)(hb:PE X e2 tb)
  (hn:x≠"__name__":=by decide) (hdb:(x==("__debug__":Str))=false:=by decide)
  (he:backTo pos (starEach [e] X.env)=(false,eval e X.env)::backTo pos (starEach [] X.env):=by rfl) (hs:starEach [e] X.env=(false,eval e X.env)::starEach [] X.env:=by rfl)
  (hpl:(backTo pos (starEach [e] X.env)).any (·.1)=false:=by rfl):PE X (.Call (.Name x p) [e] [⟨some "default",e2,kp⟩] pos) (IF K ta tb):=by
 subst h;intro pins s σ H Q I h;refine Xv (RZ I hg hm hv ?_ hn hdb);have h':Ms ta Df σ H (fun vs H1=>Ms tb Df σ H1 fun zs H2=>match vs,zs with|[x],[d]=>BG X.K x d H2 Q|_,_=>False):=h;refine callWith_kw (J8 (WW ha WK hs pos pins s σ H _ I h') fun i s1 ⟨vs,H1,f,r,q⟩=>J8 (Kb hb Hm pos pins s1 σ H1 _ f q) fun g s2 zz=>?_) he hpl;rcases zz with⟨zs,H2,c,b,a⟩;cases r with
 |nil=>cases b <;> exact False.elim a
 |cons r1 rr=>
  cases rr with
  |cons _ _=>cases b <;> exact False.elim a
  |nil=>
   cases b with
   |nil=>exact False.elim a
   |cons z1 zz=>
    cases zz with
    |cons _ _=>exact False.elim a
    |nil=>exact ZW hc c r1 z1 a
end
theorem Ss{K:Wy}{a:WA}{xs:List V}{g:TG}{tb:TS}{D:MQ}{σ:St}{H:Hp}(Pv:Nat->St->Hp->Prop)(h0:Pv 0 σ H)(hl:∀i σ H,i <=xs.length->Pv i σ H->WJ K H a xs)
  (hs:∀i x t σ H H',xs[i]?=some x->Pv i σ H->H t=none->WH H H'->H' t=some (.tup [.int i,x])->g (.ref t) σ H' fun σ2 H2=>tb {D with nx:=Pv (i+ 1),ct:=Pv (i+ 1),bk:=D.nx} σ2 H2) (hd:∀σ H,Pv xs.length σ H->D.nx σ H):Ck g tb D σ (Ip K a) H:=by
 refine⟨fun i m σ H=>m=xs.length - i/\i <=xs.length/\Pv i σ H,⟨xs.length,by simp,Yj _,h0⟩,?_⟩;intro i m σ H Zq;obtain⟨rfl,hi,p⟩:=Zq;have q:=hl i σ H hi p
 by_cases hlt:i < xs.length
 .refine .inr ⟨⟨xs,xs[i],q,by simp[hlt]⟩,Pv (i+ 1),fun σ' H' b=>⟨xs.length - (i+ 1),by lia,rfl,hlt,b⟩,fun x H' y=>?_⟩;obtain⟨t,y,rfl,h1,h2,d,c⟩:=y;exact hs i y t σ H H' (c xs q) p h1 h2 d
 .have e:i=xs.length:=by lia
  subst e;exact .inl ⟨⟨xs,q,Y6 _⟩,hd σ H p⟩
structure LF(mg:Wp):Prop where
 enumerate:mg "enumerate"=none
 zip:mg "zip"=none
end L2
namespace L2
open PySem PySem.Spec PyProof.Rows
open Sem (wp)
open AutoSeq1 (wpAny_loadPart')
section
variable{X:Cx}{K:Wy}
def Au(K:Wy):R2:=fun x y H Q=>∃a b xs,x= .ref a/\y= .ref b/\WJ K H a xs/\WJ K H b []/\Q (.bl (decide (xs.length=0))) H
theorem BP(hu:X.A.units+ 64 < cLine)(h:X.K=K):JJ X (compareOp .Eq) (Au K):=by
 subst h;intro pins s σ H x y v u Q I rx ry h;obtain⟨a,b,xs,rfl,rfl,h1,h2,q⟩:=h;cases rx;cases ry;obtain⟨d,g,p,o⟩:=I.list h1;obtain⟨i,c,p2,n⟩:=I.list h2;cases c;have f:=g.length
 by_cases h0:xs.length=0
 .refine PySem.SeqAt.eq_listAt (e:=fun _=>true) p.isList p2.isList (by rw[Yc,Yc,<-f,h0];rfl) (YA (XG _ 64) hu) ?_ ?_
  .intro j h1;rw[Yc]at h1;omega
  .have l:d.toArray.size=0:=by rw[Yc];omega
   rw[l];rw[Yq h0]at q;exact Nx I q rfl
 .refine PySem.SeqAt.eq_list_lengthsAt p.isList p2.isList (by rw[Yc,Yc,<-f];simp;exact fun z=>h0 (by rw[z];rfl)) (YA (XG _ 64) hu) ?_;rw[Ys h0]at q;exact Nx I q rfl
end
end L2
namespace L2
open PySem PySem.Spec PyProof.Rows
section
variable{X:Cx}{pos pos' p0:Pos}{o i value:WE}{td ty tv tz:TE}
def Ij(td ty tv:TE):TS:=fun D σ H=>tv σ H fun v H1=>td σ H1 fun x H2=>ty σ H2 fun y H3=>∃a n kvs,x= .ref a/\y= .str n/\H3 a=some (.dK kvs)/\kvs.length < sizeLine/\∀G,JS a H3 G->G a=some (.dK (Tg kvs (.inr n) v))->D.nx σ G
theorem Gd(hu:X.A.units+ 1 < cLine)(ho:PE X o td)(hi:PE X i ty)(hv:PE X value tv)(hs:swapsWith value (some (.Subscript o i pos')) pos.line X.env=pure false):
  PS X (.Assign [.Subscript o i pos'] value pos) (Ij td ty tv):=by
 intro pins s σ H D I h;refine wpAny_Assign_Subscript (J8 (hv pins s σ H _ I h) fun r s1 ⟨v,H1,t,b,e⟩=>J8 (ho pins s1 σ H1 _ t e) fun u s2 ⟨x,H2,q,rx,d⟩=>J8 (hi pins s2 σ H2 _ q d) fun iv s3 zz=>?_) hs;rcases zz with⟨y,H3,p,ry,a,n,w,ex,g,j,f,c⟩;subst ex g;obtain rfl:u=Value.ref a:=rx;exact Qu hu p (Rc.k (k:=Sum.inr n) j f) ry b fun z l=>⟨σ,_,l,c _ JS.upd JD⟩
def HU:R2:=fun y x H Q=>∃a n kvs,y= .str n/\x= .ref a/\H a=some (.dK kvs)/\Q (.bl (D5 kvs (Sum.inr n)).isSome) H
theorem KO(hu:X.A.units+ 1 < cLine):JJ X (compareOp .In) HU:=by
 intro pins s σ H y x v u Q I ry rx h;obtain⟨a,n,d,rfl,rfl,b,q⟩:=h;cases rx;exact tN hu I (NJ.k (k:=Sum.inr n) b) ry fun s' c=>⟨.bl _,H,c,rfl,q⟩
end
section
variable{Jf es:List Expr}{env:Env}{pos:Pos}{a b c:WE}
theorem Gk{k:Nat}:starEach (.Tuple es k pos::Jf) env=(false,eval (.Tuple es k pos) env)::starEach Jf env:=rfl
theorem Bl:starEach (.List es pos::Jf) env=(false,eval (.List es pos) env)::starEach Jf env:=rfl
theorem NO{v:Const}{k:Nat}:starEach (.Constant v k pos::Jf) env=(false,eval (.Constant v k pos) env)::starEach Jf env:=rfl
theorem Ni{x:Str}:starEach (.Name x pos::Jf) env=(false,eval (.Name x pos) env)::starEach Jf env:=rfl
theorem TF{o:Operator}:starEach (.BinOp a o b pos::Jf) env=(false,eval (.BinOp a o b pos) env)::starEach Jf env:=rfl
theorem Ru{ks:List Keyword}:starEach (.Call a es ks pos::Jf) env=(false,eval (.Call a es ks pos) env)::starEach Jf env:=rfl
theorem SZ{x:Str}:starEach (.Attribute a x pos::Jf) env=(false,eval (.Attribute a x pos) env)::starEach Jf env:=rfl
theorem BL:starEach (.Subscript a b pos::Jf) env=(false,eval (.Subscript a b pos) env)::starEach Jf env:=rfl
theorem Hn{os:List CmpOp}:starEach (.Compare a os es pos::Jf) env=(false,eval (.Compare a os es pos) env)::starEach Jf env:=rfl
theorem Rx{gs:List Comprehension}{sc:Scope}:starEach (.ListComp a gs sc pos::Jf) env=(false,eval (.ListComp a gs sc pos) env)::starEach Jf env:=rfl
end
section
variable{X:Cx}{pins:Ws}{σ:St}{H:Hp}{s:Wu}{d:WA}{u0 u1:HO}
theorem WI.retag(I:WI X pins σ H s)(e:H d=some u0)(n1:∀xs,u0≠ .tup xs)(n2:∀x,u0≠ .own x)(n3:∀ps,u0≠ .tbl ps)(n4:∀o u,X.H₀ d≠some (.frz o u))(new:Jh X.prog X.w (upd H d u1) s.heap d u1):WI X pins σ (upd H d u1) s:=by
 have ne:∀{b:WA},H b=none->b≠d:=fun h z=>by rw[z,e]at h;cases h
 have a:∀b xs,H b=some (.tup xs)->upd H d u1 b=some (.tup xs):=fun b xs h=>by
  rw[Jb (fun z=>by rw[z,e]at h;exact n1 xs (Yn h))];exact h
 have g:∀b x,H b=some (.own x)->upd H d u1 b=some (.own x):=fun b x h=>by
  rw[Jb (fun z=>by rw[z,e]at h;exact n2 x (Yn h))];exact h
 refine⟨I.ok,I.os,I.bare,⟨I.base.keep,I.base.slot,fun b o q n i=>?_,I.base.there,fun b xs q=>a b xs (I.base.tups b xs q),fun b o u q=>?_,fun b ps q=>?_⟩,I.loc,I.cell,?_,fun x c q=>?_,fun p j=>?_,fun b u q=>?_,I.len⟩
 .have:=I.base.free b o q n i;rw[Jb (ne this)];exact this
 .rw[Jb (fun z=>n4 o u (by rw[<-z];exact q))];exact I.base.frzs b o u q
 .obtain⟨m,h⟩:=I.base.tbls b ps q;exact⟨m,by rw[Jb (fun z=>by rw[z,e]at h;exact n3 _ (Yn h))];exact h⟩
 .rw[Jb (ne I.free)];exact I.free
 .rw[Jb (ne (I.freeC x c q))];exact I.freeC x c q
 .obtain⟨r,f,l⟩:=I.pin p j;exact⟨r,by rw[Jb (ne f)];exact f,l⟩
 .by_cases hb:b=d
  .subst hb;rw[JD]at q;cases q;exact new
  .rw[Jb hb]at q;exact(I.hok b u q).stay (fun c v _ h=>h) (fun c h=>g c b h) a
end
section
variable{prog:Wt}{w:Wx}{A:Ww}{E:Wq}{s:Wu}{d it:WA}{o:Obj}{es:Array DictEntry}{ep i n:Nat}
theorem QP{Q:Wq}(hd:(d==sysModules)=false)(ho:s.heap.get? d=some o)(hc:o.ExactDict)(hdat:o.data= .dict es ep)
  (hQ:Q (.ref s.heap.objs.size) {s with heap:=s.heap.push {cls:=.type "dict_keyiterator",data:=.fields #[.ref d,.int 0 0,.int es.size 0,.int ep 0]}}):wpAny (model prog w) A (pyIter (.ref d)) Q E s:=by
 have a:s.TypeIs (.ref d) "dict":=⟨o,ho,hc.1⟩
 refine UU a W2 (X4 W2 a PySem.F.entry_dict_iter ?_ (PySem.F.args_dict_iter_1 _));unfold Builtin.«dict.__iter__»;refine Y0 (?_:wpAny _ _ (Builtin.Dict.dictSlotNone _ _) _ _ _);unfold Builtin.Dict.dictSlotNone;refine Y0 (wpAny_notOrdered_dict a (?_:wpAny _ _ (pure (Value.ref d)) _ _ s));refine Y2 (?_:wpAny _ _ (Builtin.Dict.showsAll d >>=_) _ _ s);unfold Builtin.Dict.showsAll;rw[Y3 (by simp[hd])];refine Y0 (Y2 (Y0 (UV ho hdat (Y0 (Vc ho hdat (Y0 (YS (Y2 ⟨_,rfl,"dict_keyiterator",_,⟨_,Yi _ rfl,rfl⟩,X6.lookup,?_⟩))))))));simpa[rawInt] using hQ
theorem QG{Q:Option Value->Shared->Prop}(hit:s.heap.IsKeyIter it d i es.size ep)(ho:s.heap.get? d=some o)(hdd:o.data= .dict es ep)(hlt:i < es.size)
  (hQ:∀h',h'.IsKeyIter it d (i+ 1) es.size ep->Heap.SameBut it s.heap h'->Q (some es[i].key) {s with heap:=h'}):wpAny (model prog w) A (pyNext (.ref it)) Q E s:=by
 obtain⟨f,a,e,hd⟩:=id hit;have c:=hit.typeIs;unfold pyNext;refine Y0 (U8 (XA (name:=Str.ofString "__next__") c X6 (X4 X6 c UP ?_ (UK _))));refine Y0 (Y2 (Y0 (Y0 ?_)));refine Y0 (XV c (Y2 (Y0 (Uw a hd ?_))));simp only[show Builtin.Dict_items.ownsTuple "dict_keyiterator"=false by decide,Bool.false_eq_true,if_false];refine(?_:wpAny _ _ (if(Value.ref d==Value.none)=true then _ else _) _ _ s);rw[Y3 (show ¬((Value.ref d==Value.none)=true) from fun z=>Bool.noConfusion z)];refine Y0 (Y2 (Y0 (UV ho hdd ?_)));rw[Y3 (by simp)];refine Y0 (Y2 (Y0 (Vc ho hdd ?_)));rw[Y3 (by simp)];refine Y2 ?_;simp only[show ¬((i:Int) < 0) by omega,if_false,Xl,YT hlt];refine Y0 (Y0 (XV c (Y2 (Y0 (wpAny_isOneOf_keyiter c ?_)))));refine(?_:wpAny _ _ (setField (.ref it) 1 (rawInt ((i:Int)+ 1)) >>=_) _ _ s);refine Y0 (XY a hd (by simp) ?_);have b:(s.heap.update it (Obj.mapFields (·.setIfInBounds 1 (rawInt ((i:Int)+ 1))))).IsKeyIter it d (i+ 1) es.size ep:=
  ⟨_,YM _ a (Obj.isFreed_of_fields (Obj.data_mapFields hd _)),(Obj.cls_mapFields ..).trans e,by rw[Obj.data_mapFields hd];simp[rawInt]⟩
 refine Y0 (X0 (Y0 (wpAny_isOneOf_keyiter (s:={s with heap:=s.heap.update it (Obj.mapFields (·.setIfInBounds 1 (rawInt ((i:Int)+ 1))))}) b.typeIs ?_)));refine(?_:wpAny _ _ (pure es[i].key) _ _ _);exact Y2 (Y2 ⟨_,rfl,Y2 (hQ _ b (Vj ..))⟩)
theorem tO{Q:Option Value->Shared->Prop}(hh:A.handled=none)(hit:s.heap.IsKeyIter it d i es.size ep)(ho:s.heap.get? d=some o)(hdd:o.data= .dict es ep)(hge:es.size <=i)
  (hQ:∀h',Heap.ExtBut it s.heap h'->Q none {s with heap:=h'}):wpAny (model prog w) A (pyNext (.ref it)) Q E s:=by
 obtain⟨f,e,g,hd⟩:=id hit;have c:=hit.typeIs;unfold pyNext;refine Y0 (U8 (XA (name:=Str.ofString "__next__") c X6 (X4 X6 c UP ?_ (UK _))));refine Y0 (Y2 (Y0 (Y0 ?_)));refine Y0 (XV c (Y2 (Y0 (Uw e hd ?_))));simp only[show Builtin.Dict_items.ownsTuple "dict_keyiterator"=false by decide,Bool.false_eq_true,if_false];refine(?_:wpAny _ _ (if(Value.ref d==Value.none)=true then _ else _) _ _ s);rw[Y3 (show ¬((Value.ref d==Value.none)=true) from fun z=>Bool.noConfusion z)];refine Y0 (Y2 (Y0 (UV ho hdd ?_)));rw[Y3 (by simp)];refine Y0 (Y2 (Y0 (Vc ho hdd ?_)));rw[Y3 (by simp)];refine Y2 ?_;simp only[show ¬((i:Int) < 0) by omega,if_false,Xl,UY hge];refine Y0 (Y0 (XV c (Y2 ?_)));refine(?_:wpAny _ _ (setField (.ref it) 0 .none >>=_) _ _ s);refine Y0 (XY e hd (by simp) ?_);refine(?_:wpAny _ _ (newExc (.type "StopIteration") [] >>=_) _ _ _);refine Y0 ?_;simp only[newExc,newTuple];refine Y0 (YS (Y0 (m:=firstArgMember _ _) (UX (a:=Value.none) (by first|rfl|(simp only[firstArgMember];rfl)) (YS ?_ (by size_fits)))) (by size_fits));simp only[raiseNew];refine Y0 (wpAny_handled ?_);rw[show A.in1.handled=none from hh];refine Y0 (Y2 (wpAny_throw ?_));exact Y0 (V3 (T:="StopIteration") (b:=true) ⟨_,Yi _ rfl,rfl⟩ W7 (Y2 (hQ _ (((Vj ..).extBut.push _).push _))))
end
end L2
namespace L2
open PySem PySem.Spec PyProof.Rows PySem.W
section
variable{X:Cx}{K:Wy}
def A6(K:Wy):R2:=fun x y H Q=>∃a b xs,x= .ref a/\y= .ref b/\WJ K H a xs/\WJ K H b []/\Q (.bl (!decide (xs.length=0))) H
theorem OV(hu:X.A.units+ 64 < cLine)(h:X.K=K):JJ X (compareOp .NotEq) (A6 K):=by
 subst h;intro pins s σ H x y v u Q I rx ry h;obtain⟨a,b,xs,rfl,rfl,h1,h2,q⟩:=h;cases rx;cases ry;obtain⟨d,g,p,o⟩:=I.list h1;obtain⟨i,c,p2,n⟩:=I.list h2;cases c;have f:=g.length
 by_cases h0:xs.length=0
 .refine PySem.SeqAt.RcNeAt.lists (e:=fun _=>true) p.isList p2.isList (by rw[Yc,Yc,<-f,h0];rfl) (YA (XG _ 64) hu) (fun j h1 h2=>?_) X.prog X.w _ _ ?_
  .rw[Yc]at h1
   lia
  .have l:d.toArray.size=0:=by rw[Yc];lia
   rw[l];rw[Yq h0]at q;exact Nx I q rfl
 .refine PySem.SeqAt.RcNeAt.lists_lengths p.isList p2.isList (by rw[Yc,Yc,<-f];simp;exact fun z=>h0 (by rw[z];rfl)) (YA (XG _ 64) hu) X.prog X.w _ _ ?_;rw[Ys h0]at q;exact Nx I q rfl
end
end L2
namespace L2
open PySem PySem.Spec PyProof.Rows
structure j7(P:Wt)(w:Wx)(outer:List Env)(H:Hp)(s:Wu)(a C:WA)(t:Wz)(B:WD)(H':Hp)(s':Wu):Prop where
 os:s'.os=s.os
 bare:AllBare s'.gens
 fly:Heap.FlyingW B outer a (.ref C) t s'.heap
 hok:No P w H' B
 un:Un (M9 outer) [] H H' s.heap s'.heap
 keepB:∀b o,s.heap.get? b=some o->b∉M9 outer->H b=none->B.get? b=some o
 thereB:∀b o,s.heap.get? b=some o->b∉M9 outer->∃o',B.get? b=some o'
def HI(P:Wt)(w:Wx):Gi:=fun outer H s E e s'=>∃ (a C:WA) (t:Wz) (B:WD) (H':Hp),e= .ref a/\j7 P w outer H s a C t B H' s'/\E (.ref C) none H'
end L2
namespace L2
open PySem PySem.Spec PyProof.Rows PySem.Builtin PySem.Builtin.ObjectAttr PySem.Builtin.Getset_descriptor
structure yT(K:Wy)(C:WA):Prop where
 ga:W.findIn K (.ref C) "__getattribute__"=some (some (.builtin "BaseException.__getattribute__"))
 gt:W.findIn K (.ref C) "__getattr__"=some none
 cl:W.findIn K (.ref C) "__class__"=some (some (.builtin "object.__class__"))
 ob:W.mroIn K C (.type "object")=some true
 bs:W.mroIn K C (.type "BaseException")=some true
end L2
namespace L2
open PySem PySem.Spec PyProof.Rows
def HT:HO:=.ext fun _=>True
theorem HT.ok{P:Wt}{w:Wx}{H:Hp}{h:WD}{a:WA}{o:Obj}(e:h.get? a=some o):Jh P w H h a (.frz o HT):=⟨e,trivial,⟨o,e⟩,fun _ _ _ _=>trivial⟩
structure Gv(mg:Wp)(base:WD)(c P:WA):Prop where
 hd:W.CodeHd base c P
 gP:mainGlobals≠P
 bt:base.BuiltinsAt mg P
structure NP(H:Hp)(P:WA)(q:Str):Prop where
 ex:∃ps,H P=some (.tbl ps)/\TriplesOk ps.toList/\∀pos cv,codeAmong pos ps.toList=some cv->∃c' oc vs t,cv= .ref c'/\H c'=some (.frz oc HT)/\oc.data= .fields vs/\vs[1]?=some (.str q t)
theorem NP.of{H G:Hp}{P:WA}{q:Str}(x:NP H P q)(h:∀b o,H b=some o->(∃ps,o= .tbl ps)\/(∃oc,o= .frz oc HT)->G b=some o):NP G P q:=by
 obtain⟨ps,h1,h2,a⟩:=x;refine⟨ps,h _ _ h1 (.inl ⟨ps,rfl⟩),h2,fun pos g e=>?_⟩;obtain⟨c',oc,vs,t,f,d,c⟩:=a pos g e;exact⟨c',oc,vs,t,f,h _ _ d (.inr ⟨oc,rfl⟩),c⟩
theorem NP.same{H G:Hp}{P:WA}{q:Str}(x:NP H P q)(s:WH H G):NP G P q:=x.of fun b o e _=>s b o e
theorem QN{pos:Pos}{a b:Int}{c cv:Wz}:∀ (l:WC),TriplesOk l->codeAmong pos (l++[rawInt a,rawInt b,c])=some cv->codeAmong pos l=some cv\/cv=c:=by
 intro l h e
 fun_induction TriplesOk l with
 |case1=>
  simp only[List.nil_append,codeAmong,rawInt]at e
  split at e
  .exact .inr (Yn e).symm
  .cases e
 |case2 a' t b' u x r ih=>
  simp only[List.cons_append,codeAmong]at e ⊢
  split at e
  .rename_i q;rw[Y9 q];exact .inl e
  .rename_i q;rw[Y3 q];exact ih h e
 |case3 l h1 h2=>exact h.elim
section
variable{X:Cx}{pins:Ws}{σ:St}{H:Hp}{s:Wu}{c P:WA}{q:Str}
abbrev E6(q:Str)(params:Arguments)(body:WE)(scope:Scope)(cl:List (Str×Addr))(pm cv ctv:Wz):Obj:={cls:=.type "function",data:=.func (W.kla_fn "<lambda>" q params body scope cl pm cv ctv)}
theorem vL{M:Model}{A:Ww}{E:Wq}{Q:Wq}{params:Arguments}{body:WE}{scope:Scope}{cl:List (Str×Addr)}{pos:Pos}(I:WI X pins σ H s)(lc:Gv X.mg X.base c P)(hcode:X.env.code= .ref c)(tb:NP H P q)
  (hq:X.env.qual++"<lambda>"=q) (hcl:closureFor scope X.env=pure cl) (hdef:defaultsOf params X.env=([],[]))
  (h:∀f c' ctv pm G s1 oc vs t,WI X pins σ G s1->JS P H G->H f=none->NP G P q->G f=some (.frz (E6 q params body scope cl pm (.ref c') ctv) HT)->G c'=some (.frz oc HT)->oc.data= .fields vs->vs[1]?=some (.str q t)->(∀b o,s.heap.get? b=some o->b≠P->s1.heap.get? b=some o)->Q (.ref f) s1):
  wpAny M A (eval (.Lambda params body scope pos) X.env) Q E s:=by
 subst hq;obtain⟨ps,h1,h2,h3⟩:=tb;have hP:s.heap.get? P=some (W.tabObj ps):=I.hok P _ h1;refine W.kla_eval hdef ?_;have fr:∀b o,s.heap.get? b=some o->b < s.heap.objs.size:=fun b o e=>Ye e
 cases hn:codeAmong pos ps.toList with
 |none=>
  refine W.kla_makeFunction (mg:=X.mg) (clos:=cl) hcl I.ok.glob (I.mod.glob.keeps I.bk) hcode (lc.hd.keeps I.bk) hP h2 hn lc.gP (lc.bt.keeps I.bk) fun c' ctv h' tk hx j hlt hrec htb=>?_
  obtain⟨c2,oc,vs,t,e2,hoc,hd,hv⟩:=hrec;cases e2;generalize hf:h'.objs.size=f at*;have nP:∀b,s.heap.objs.size <=b->b≠P:=fun b a z=>by subst z;exact absurd (Yz (Ye hP) a) (Xe _)
  have w:s.heap.objs.size <=f:=YW j (XJ hlt);have Hc:H c'=none:=I.hok.fresh j;have g:H f=none:=I.hok.fresh w;have cf:c'≠f:=Yr hlt;have old:∀b o,s.heap.get? b=some o->b≠c'/\b≠f:=fun b o e=>⟨Yr (Yz (fr b o e) j),Yr (Yz (fr b o e) w)⟩
  have d:∀b o,s.heap.get? b=some o->b≠P->∀r:Obj,(h'.push r).get? b=some o:=fun b o e a r=>Y7 _ (hx b o a e)
  let G:Hp:=upd (upd (upd H P (.tbl (ps++#[rawInt pos.line,rawInt pos.col,.ref c']))) c' (.frz oc HT)) f (.frz (E6 (X.env.qual++"<lambda>") params body scope cl ((X.mg "__name__").getD .none) (.ref c') ctv) HT)
  have Gf:G f=some (.frz (E6 (X.env.qual++"<lambda>") params body scope cl ((X.mg "__name__").getD .none) (.ref c') ctv) HT):=JD;have Gc:G c'=some (.frz oc HT):=by show upd _ f _ c'=_;rw[Jb cf,JD]
  have GP:G P=some (.tbl (ps++#[rawInt pos.line,rawInt pos.col,.ref c'])):=by show upd _ f _ P=_;rw[Jb (Ne.symm (nP f w)),Jb (Ne.symm (nP c' j)),JD]
  have Go:∀b,b≠P->b≠c'->b≠f->G b=H b:=fun b a1 a2 a3=>by show upd _ f _ b=_;rw[Jb a3,Jb a2,Jb a1]
  have i:∀b u,H b=some u->b≠P->G b=some u:=fun b u e a=>by rw[Go b a (fun z=>by subst z;rw[Hc]at e;cases e) (fun z=>by subst z;rw[g]at e;cases e)];exact e
  have hbut:JS P H G:=fun b u e a=>i b u e a
  have tab':NP G P (X.env.qual++"<lambda>"):=by
   refine⟨_,GP,?_,fun pos' cv e=>?_⟩
   .have:(ps++#[rawInt pos.line,rawInt pos.col,Value.ref c']).toList=ps.toList++[rawInt pos.line,rawInt pos.col,.ref c']:=by simp
    rw[this];exact TriplesOk_snoc _ _ _ _ h2
   .have:(ps++#[rawInt pos.line,rawInt pos.col,Value.ref c']).toList=ps.toList++[rawInt pos.line,rawInt pos.col,.ref c']:=by simp
    rw[this]at e;rcases QN _ h2 e with e|e
    .obtain⟨c1,oc1,vs1,t1,e1,e2,e3⟩:=h3 pos' cv e;exact⟨c1,oc1,vs1,t1,e1,i _ _ e2 (fun z=>by subst z;rw[h1]at e2;cases e2),e3⟩
    .exact⟨c',oc,vs,t,e,Gc,hd,hv⟩
  refine h f c' ctv _ G _ oc vs t (I.un (t':=tk) ⟨fun b o e n _ _=>d b o e (fun z=>by subst z;rw[h1]at n;cases n) _,fun b o e n _ _=>⟨o.slots,d b o e (fun z=>by subst z;rw[h1]at n;cases n) _⟩,fun b o e n _=>?_,fun b o e _=>?_,fun b xs e=>?_,fun b ob u e=>?_,fun b ps' e=>?_⟩ fun b u e=>?_) hbut g tab' Gf Gc hd hv fun b o e a=>d b o e a _
  .rw[Go b (fun z=>by subst z;rw[h1]at n;cases n) (old b o e).1 (old b o e).2];exact n
  .by_cases a:b=P
   .subst a;exact⟨_,Y7 _ htb⟩
   .exact⟨o,d b o e a _⟩
  .exact i b _ e (fun z=>by subst z;rw[h1]at e;cases e)
  .exact i b _ e (fun z=>by subst z;rw[h1]at e;cases e)
  .by_cases a:b=P
   .subst a;rw[h1]at e;cases e;exact⟨_,GP⟩
   .exact⟨#[],by rw[i b _ e a];simp⟩
  .by_cases b1:b=f
   .subst b1;rw[Gf]at e;cases e;exact HT.ok (by rw[<-hf];exact Yi _ rfl)
   .by_cases b2:b=c'
    .subst b2;rw[Gc]at e;cases e;exact HT.ok (Y7 _ hoc)
    .by_cases b3:b=P
     .subst b3;rw[GP]at e;cases e;exact Y7 _ htb
     .rw[Go b b3 b2 b1]at e;refine(I.hok b u e).stay (fun b' u' l z=>d b' u' z (fun p=>?_) _) (fun b' z=>i b' _ z fun p=>by subst p;rw[h1]at z;cases z) fun b' xs z=>i b' _ z fun p=>by subst p;rw[h1]at z;cases z
      rcases l with rfl|l
      .exact b3 p
      .subst p;rw[h1]at l;cases l
 |some cv=>
  obtain⟨c',oc,vs,t,rfl,hc',hd,hv⟩:=h3 pos cv hn;refine W.kla_makeFunctionHit (mg:=X.mg) (clos:=cl) hcl I.ok.glob (I.mod.glob.keeps I.bk) hcode (lc.hd.keeps I.bk) hP h2 hn (lc.bt.keeps I.bk) fun ctv h' tk hk hsz=>?_
  have hk':∀b o,s.heap.get? b=some o->∀r:Obj,(h'.push r).get? b=some o:=fun b o e r=>Y7 _ (hk b o e)
  have g:H h'.objs.size=none:=I.hok.fresh hsz;refine h h'.objs.size c' ctv _ (upd H h'.objs.size (.frz _ HT)) _ oc vs t (I.laid (t':=tk) (fun b u e=>hk' b u e _) hsz (HT.ok (Yi _ rfl))) ((Tx g).toBut) g (NP.same ⟨ps,h1,h2,h3⟩ (Tx g)) JD ?_ hd hv fun b o e _=>hk' b o e _
  exact Tx g _ _ hc'
end
def JP(cl:List (Str×Addr))(h:WD)(H:Hp):Hp:=fun b=>if b∈cl.map (·.2) then(h.get? b).map (fun o=>.frz o HT) else H b
def DR(cl:List (Str×Addr))(H:Hp):Hp:=fun b=>if b∈cl.map (·.2) then none else H b
theorem No.frz{P:Wt}{w:Wx}{H:Hp}{h:WD}{a:WA}{o:Obj}{u:HO}(x:No P w H h)(e:H a=some (.frz o u)):h.get? a=some o:=(x a _ e).1
section
variable{cl:List (Str×Addr)}{h hs hs':WD}{G H2 Gc:Hp}{fs:List Addr}{P:Wt}{w:Wx}
theorem T4{b:WA}(n:b∉cl.map (·.2)):JP cl h G b=G b:=Y3 n
theorem Re{b:WA}(n:b∈cl.map (·.2)):JP cl h G b=(h.get? b).map (fun o=>.frz o HT):=Y9 n
theorem Dv{b:WA}(n:b∉cl.map (·.2)):DR cl G b=G b:=Y3 n
theorem Ep{b:WA}(n:b∈cl.map (·.2)):DR cl G b=none:=Y9 n
theorem IT(hok:No P w (JP cl h G) hs)(hc:∀b∈cl.map (·.2),(∃o,h.get? b=some o)/\b∉fs)(u:Un fs [] (DR cl (JP cl h G)) H2 hs hs'):
  Un fs [] (JP cl h G) (JP cl h H2) hs hs'/\(∀b∈cl.map (·.2),H2 b=none)/\∀B:Heap,(∀b o,hs.get? b=some o->b∉fs->DR cl (JP cl h G) b=none->B.get? b=some o)->No P w H2 B->No P w (JP cl h H2) B:=by
 have d:∀b,b∈cl.map (·.2)->∃o,h.get? b=some o/\hs.get? b=some o/\JP cl h G b=some (.frz o HT):=fun b a=>by
  obtain⟨⟨o,e⟩,_⟩:=hc b a;have q:JP cl h G b=some (.frz o HT):=by rw[Re a,e];rfl
  exact⟨o,e,(hok b _ q).1,q⟩
 have f:∀b,JP cl h G b=none->b∉cl.map (·.2):=fun b e a=>by obtain⟨o,_,_,q⟩:=d b a;rw[e]at q;cases q
 have g:∀b,JP cl h G b=none->DR cl (JP cl h G) b=none:=fun b e=>by rw[Dv (f b e)];exact e
 have j:∀b∈cl.map (·.2),H2 b=none:=fun b a=>by
  obtain⟨o,_,e,_⟩:=d b a;exact u.free b o e (Ep a) (by simp)
 refine⟨⟨fun b o e n hf i=>u.keep b o e (g b n) hf i,fun b o e n hf i=>u.slot b o e (g b n) hf i,fun b o e n i=>?_,u.there,fun b xs e=>?_,fun b r x e=>?_,fun b ps e=>?_⟩,j,fun B hB t b o e=>?_⟩
 .rw[T4 (f b n)];exact u.free b o e (g b n) i
 .by_cases a:b∈cl.map (·.2)
  .obtain⟨o,_,_,q⟩:=d b a;rw[e]at q;cases q
  .rw[T4 a]at e ⊢;exact u.tups b xs (by rw[Dv a,T4 a];exact e)
 .by_cases a:b∈cl.map (·.2)
  .rw[Re a]at e ⊢;exact e
  .rw[T4 a]at e ⊢;exact u.frzs b r x (by rw[Dv a,T4 a];exact e)
 .by_cases a:b∈cl.map (·.2)
  .obtain⟨o,_,_,q⟩:=d b a;rw[e]at q;cases q
  .rw[T4 a]at e;obtain⟨m,z⟩:=u.tbls b ps (by rw[Dv a,T4 a];exact e);exact⟨m,by rw[T4 a];exact z⟩
 .by_cases a:b∈cl.map (·.2)
  .obtain⟨o',e1,e2,q⟩:=d b a;rw[Re a,e1]at e;cases e;exact HT.ok (hB b o' e2 (hc b a).2 (Ep a))
  .rw[T4 a]at e;have p:∀c l,H2 c=some l->c∉cl.map (·.2):=fun c l z s=>by rw[j c s]at z;cases z
   exact(t b o e).stay (fun _ _ _ z=>z) (fun c z=>by rw[T4 (p c _ z)];exact z) fun c xs z=>by rw[T4 (p c _ z)];exact z
theorem vZ(hc:∀b∈cl.map (·.2),(∃o,hs.get? b=some o)/\G b=none)(u:Un fs [] (JP cl hs G) H2 hs hs')(hk:No P w H2 hs'):Un fs [] G (DR cl H2) hs hs'/\No P w (DR cl H2) hs':=by
 have f:∀b,b∈cl.map (·.2)->∃o,hs.get? b=some o/\hs'.get? b=some o/\H2 b=some (.frz o HT):=fun b a=>by
  obtain⟨⟨o,e⟩,_⟩:=hc b a;have q:JP cl hs G b=some (.frz o HT):=by rw[Re a,e];rfl
  have l:=u.frzs b o HT q;exact⟨o,e,(hk b _ l).1,l⟩
 have d:∀b x,G b=some x->b∉cl.map (·.2):=fun b x e a=>by rw[(hc b a).2]at e;cases e
 refine⟨⟨fun b o e n hf g=>?_,fun b o e n hf g=>?_,fun b o e n g=>?_,u.there,fun b xs e=>?_,fun b s x e=>?_,fun b ps e=>?_⟩,fun b o e=>?_⟩
 .by_cases a:b∈cl.map (·.2)
  .obtain⟨o',h,j,_⟩:=f b a;rw[e]at h;cases h;exact j
  .exact u.keep b o e (by rw[T4 a];exact n) hf g
 .by_cases a:b∈cl.map (·.2)
  .obtain⟨o',h,j,_⟩:=f b a;rw[e]at h;cases h;exact⟨o.slots,j⟩
  .exact u.slot b o e (by rw[T4 a];exact n) hf g
 .by_cases a:b∈cl.map (·.2)
  .exact Ep a
  .rw[Dv a];exact u.free b o e (by rw[T4 a];exact n) g
 .have a:=d b _ e;rw[Dv a];exact u.tups b xs (by rw[T4 a];exact e)
 .have a:=d b _ e;rw[Dv a];exact u.frzs b s x (by rw[T4 a];exact e)
 .have a:=d b _ e;obtain⟨m,z⟩:=u.tbls b ps (by rw[T4 a];exact e);exact⟨m,by rw[Dv a];exact z⟩
 .by_cases a:b∈cl.map (·.2)
  .rw[Ep a]at e;cases e
  .rw[Dv a]at e;have p:∀c i,H2 c=some i->(∀o',i≠ .frz o' HT)->c∉cl.map (·.2):=fun c i z r t=>by obtain⟨o',_,_,q⟩:=f c t;rw[z]at q;cases q;exact r o' rfl
   exact(hk b o e).stay (fun _ _ _ z=>z) (fun c z=>by rw[Dv (p c _ z fun _ q=>by cases q)];exact z) fun c xs z=>by rw[Dv (p c _ z fun _ q=>by cases q)];exact z
end
def Rk(P:Wt)(w:Wx)(K:Wy)(mg:Wp)(base:WD)(N':List Str)(q:Str)(scope:Scope)(f:WA)(cd:Wz)(cl:List (Str×Addr))(A:Ww)(outer:List Env)(s:Wu)(H:Hp)(E:XK):Cx where
 prog:=P
 w:=w
 K:=K
 mg:=mg
 base:=base
 A:=A.deeper (W.envX q scope s.heap.objs.size f cd cl)
 N:=N'
 s₀:=s
 H₀:=H
 env:=W.envX q scope s.heap.objs.size f cd cl
 outer:=outer
 stack:=W.envX q scope s.heap.objs.size f cd cl::outer
 ex:=[]
 calm:=true
 fn:=fun _=>false
 pn:=[]
 xe:=fun e s'=>wpAny (model P w) (A.deeper (W.envX q scope s.heap.objs.size f cd cl)) (leaving (W.envX q scope s.heap.objs.size f cd cl) e) (fun _ s''=>HI P w outer H s E e s'') (fun e' s''=>HI P w outer H s E e' s'') s'
def Holds(cl:List (Str×Addr))(h:WD)(N':List Str)(σ:St):Prop:=∀ (i:Nat) (x:Str) (v:V),N'[i]?=some x->σ[i]?=some (some v)->∃c o u,cl.lookup x=some c/\h.get? c=some o/\o.data= .cell (some u)/\WU v u
structure OX(cl:List (Str×Addr))(h:WD)(scope:Scope):Prop where
 inj:∀x y c,cl.lookup x=some c->cl.lookup y=some c->x=y
 has:∀x,(x,NameKind.free)∈scope.names->∃c,cl.lookup x=some c
 cell:∀b∈cl.map (·.2),∃o v,h.get? b=some o/\o.data= .cell v
theorem A1{cl:List (Str×Addr)}{x:Str}{c:WA}(h:cl.lookup x=some c):c∈cl.map (·.2):=Yw.mpr ⟨(x,c),Xs h,rfl⟩
theorem IH{env:Env}:∀ (names:List (Str×NameKind)) (cs:List (Str×Addr)),(∀x,(x,NameKind.free)∈names->∃c,env.cells.lookup x=some c)->(∀p∈cs,env.cells.lookup p.1=some p.2)->
  ∃cl,(forIn names cs fun(p:Str×NameKind) (r:List (Str×Addr))=>(match p with|(name,kind)=>(if(kind==NameKind.free)=true then(do let a <-cellOf env name;pure (ForInStep.yield ((name,a)::r))) else pure (ForInStep.yield r)):Sem (ForInStep (List (Str×Addr)))))=pure cl/\∀p∈cl,env.cells.lookup p.1=some p.2
 |[],cs,_,h2=>⟨cs,rfl,h2⟩
 |(n,k)::r,cs,h1,h2=>by
  by_cases hk:k=NameKind.free
  .subst hk;obtain ⟨c, hc⟩ := h1 n Ym;obtain ⟨cl, e, a⟩ := IH r ((n, c) :: cs) (fun x b => h1 x (Yl _ b)) (fun p d => by
    rcases Yu.mp d with rfl|d
    .exact hc
    .exact h2 p d)
   refine⟨cl,?_,a⟩;rw[UG];have:cellOf env n=pure c:=by unfold cellOf;rw[hc]
   simp only[this,VL,if_true];exact e
  .obtain⟨cl,e,a⟩:=IH r cs (fun x b=>h1 x (Yl _ b)) h2;have f:(k==NameKind.free)=false:=by simpa using hk
   refine⟨cl,?_,a⟩;rw[UG];simp only[f,Bool.false_eq_true,if_false];exact e
theorem Sn{scope:Scope}{env:Env}(h:∀x,(x,NameKind.free)∈scope.names->∃c,env.cells.lookup x=some c):
  ∃cl,closureFor scope env=pure cl/\(∀x c,cl.lookup x=some c->env.cells.lookup x=some c)/\(∀x,(x,NameKind.free)∈scope.names->∃c,cl.lookup x=some c)/\∀p∈cl,env.cells.lookup p.1=some p.2:=by
 obtain⟨cl,e,a,b⟩:=CW h;obtain⟨d,g,j⟩:=IH scope.names [] h (fun p z=>nomatch z);have f:closureFor scope env=pure d:=by
  unfold closureFor;show(forIn scope.names [] _ >>=fun i=>pure i)=pure d;rw[show(forIn scope.names ([]:List (Str×Addr)) _:Sem _)=pure d from g];rfl
 have:(pure cl:Sem (List (Str×Addr)))=pure d:=e.symm.trans f;have z:cl=d:=by injection this
 subst z;exact⟨cl,e,a,b,j⟩
def jD(P:WA)(q:Str)(params:Arguments)(body:WE)(scope:Scope)(cl:List (Str×Addr)):TE:=fun _ H Q=>NP H P q/\∀f c' ctv pm G oc vs t,JS P H G->H f=none->NP G P q->G f=some (.frz (E6 q params body scope cl pm (.ref c') ctv) HT)->G c'=some (.frz oc HT)->oc.data= .fields vs->vs[1]?=some (.str q t)->Q (.ref f) G
section
variable{X:Cx}{c P:WA}{q:Str}{params:Arguments}{body:WE}{scope:Scope}{cl:List (Str×Addr)}{lpos:Pos}
theorem vP(lc:Gv X.mg X.base c P)(hcode:X.env.code= .ref c)(hq:X.env.qual++"<lambda>"=q)(hcl:closureFor scope X.env=pure cl)(hdef:defaultsOf params X.env=([],[])):PE X (.Lambda params body scope lpos) (jD P q params body scope cl):=by
 intro pins s σ H Q I h;obtain⟨tb,h⟩:=h;exact vL I lc hcode tb hq hcl hdef fun f c' ctv pm G s1 a vs t n l j i g e d b _=>⟨.ref f,G,n,rfl,h f c' ctv pm G a vs t l j i g e d b⟩
variable{fn:Str}{p pos:Pos}{k k1:Nat}{ps:List Str}{sp:Sp}{N':List Str}{caps:List (Option Nat)}{te:XK->TE}{Kd:Addr->Str->Prop}
end
structure Dm(K:Wy)(x qual:Str)(st:Stmt)(f:WA)(fd:Wv)(cdv:Wz):Prop where
 ex:∃ (oc:Wz) (od:Option Addr) (kV doc pm:Wz) (an:Option Addr) (ct:Wz) (osl:Array (Option Value)),
  fd=W.fnOf x qual (TB st) (WP st) (WF st) .none kV doc pm an cdv ct/\K.lookup f=some ⟨oc,od,.func fd,osl⟩/\W.codeIn K cdv qual=true
theorem Dm.ok{P:Wt}{w:Wx}{K:Wy}{mg:Wp}{base:WD}{x qual:Str}{st:Stmt}{f:WA}{fd:Wv}{cdv:Wz}{N ps:List Str}{k:Nat}{sp:Sp}(F:Dm K x qual st f fd cdv)(S:JN N ps (WF st))(len:∀vs H Q E,sp vs H Q E->vs.length=ps.length)
  (hbody : ∀ (A : Around) (outer : List Env) (s : Shared) (H : Hp) (vs : List V) (Q : VK) (E : XK), WV k (A.deeper (envOfC qual (WF st) s.heap.objs.size f cdv)) -> sp vs H Q E ->
   ∃ t, Mp (TQ Jr P w K mg base N qual (WF st) f cdv A outer s H E).nox (WP st) t /\ t { nx := fun _ H' => Q .non H', rt := Q } (start N vs) H) : WQ P w K mg base Jr (k + 1) f fd ps sp := by
 obtain⟨j,i,kV,g,pm,l,ct,e,rfl,c,b⟩:=F.ex;refine EJ c b S len fun A outer s H vs Q E d a=>?_
 obtain⟨t,h,q⟩:=hbody A outer s H vs Q E d a;exact⟨t,h.nox,q⟩
theorem mF{P:Wt}{w:Wx}{K:Wy}{mg mb:Wp}{k:Nat}{fa a c T:WA}{fd:Wv}{x:Str}{sp:Sp}{s₁:Wu}{vs:WC}{ns:WB}
  (KX:K.In s₁.heap) (hns:s₁.heap.Ns mainGlobals mg) (hb:s₁.heap.Ns builtinsNs mb) (hbb:∀x:Str,x≠"__name__"->mb x=bootBuiltins x) (hlim:s₁.heap.NoLimit) (hg:s₁.gens=#[])
  (hbm:∃bm ob,mg "__builtins__"=some (.ref bm)/\bm≠builtinsNs/\s₁.heap.get? bm=some ob/\ob.cls= .type "module"/\ob.dict=some builtinsNs/\ob.data= .plain)
  (hcd:W.CodeHd s₁.heap c T) (hT:s₁.heap.get? T=some (W.tabObj #[])) (hKT:K.lookup T=none)
  (ha:s₁.heap.get? a=some {cls:=.type "list",data:=.seq vs.toArray}) (hi:IntsAre vs ns) (hl:ns.length <=sizeLine) (hr:WV k callerA)
  (F:∀base:Heap,K.In base->base.Ns mainGlobals mg->Gv mg base c T->WQ P w K mg base Jr k fa fd [x] sp) (hbind:∀ (s:Wu) (u:Wz),BindsTo s fd ⟨[u],[]⟩ [(x,u)])
  (hsp:∀H:Hp,H T=some (.tbl #[])->WJ K H a (ns.map V.int)->sp [.ref a] H (fun v _=>v= .bl true) fun _ _ _=>False):
  codeAny (model P w) callerA (.call (.ref fa) ⟨[.ref a],[]⟩) (fun r s'=>r= .ok (.ret (.bool true))/\OldK s₁.heap s'.heap/\s'.os=s₁.os/\AllBare s'.gens) s₁:=by
 have rv:=Od hi;have lenV:=hi.length;have aT:a≠T:=fun z=>by subst z;rw[ha]at hT;cases hT
 obtain⟨bm,ob,m1,m2,p,m4,m5,m6⟩:=hbm;have core:∀H:Hp,(∀b,H b=none\/(∃o xs,H b=some (.frz o (.lst xs)))\/b=T)->H T=some (.tbl #[])->WJ K H a (ns.map V.int)->No P w H s₁.heap->(∀b,H b≠none->b=a\/b=T)->(H a≠none->K.lookup a=none)->
   codeAny (model P w) callerA (.call (.ref fa) ⟨[.ref a],[]⟩) (fun r s'=>r= .ok (.ret (.bool true))/\OldK s₁.heap s'.heap/\s'.os=s₁.os/\AllBare s'.gens) s₁:=by
  intro H hO hHT hS hok hA hK;have f:∀{b:WA} {o:Obj},s₁.heap.get? b=some o->H b=none->(GJ s₁.heap H).get? b=some o:=fun e n=>xF e n
  have no2:∀{b:WA} {o:Obj},s₁.heap.get? b=some o->o.cls≠ .type "list"->o.cls≠ .none->H b=none:=fun {b o} e n1 n2=>by
   cases q:H b with
   |none=>rfl
   |some u=>
    rcases hA b (by rw[q];simp) with e'|e'
    .subst e';rw[ha]at e;cases e;exact absurd rfl n1
    .subst e';rw[hT]at e;cases e;exact absurd rfl n2
  have noA:∀{b:WA} {o:Obj} {es:Array DictEntry} {ep:Nat},s₁.heap.get? b=some o->o.data= .dict es ep->H b=none:=fun {b o es ep} e d=>by
   cases q:H b with
   |none=>rfl
   |some u=>
    rcases hA b (by rw[q];simp) with e'|e'
    .subst e';rw[ha]at e;cases e;have d':Data.seq vs.toArray _=Data.dict es ep:=d;cases d'
    .subst e';rw[hT]at e;cases e;have d':Data.fields #[]=Data.dict es ep:=d;cases d'
  have j:∀{b:WA} {m:Wp},s₁.heap.Ns b m->(GJ s₁.heap H).Ns b m:=fun {b m} zz=>by rcases zz with⟨o,es,ep,e,d,r⟩;exact ⟨o,es,ep,f e (noA e d),d,r⟩
  have hKb : K.In (GJ s₁.heap H) := fun b o e => f (KX b o e) (by
   cases q:H b with
   |none=>rfl
   |some u=>
    rcases hA b (by rw[q];simp) with e'|e'
    .subst e';rw[hK (by rw[q];simp)]at e;cases e
    .subst e'; rw [hKT] at e; cases e)
  have hM:Mod K mg (GJ s₁.heap H):=⟨hKb,j hns,⟨mb,j hb,hbb⟩,let ⟨mc,h1,h2⟩:=hlim;⟨mc,j h1,h2⟩⟩;have gT:mainGlobals≠T:=fun z=>by
   obtain⟨o,es,ep,e,d,_⟩:=hns;rw[z,hT]at e;cases e;cases d
  have hLC:Gv mg (GJ s₁.heap H) c T:=by
   refine⟨?_,gT,bm,ob,m1,m2,?_,?_,f p (no2 p (by rw[m4];nofun) (by rw[m4];nofun)),m4,m5,m6⟩
   .obtain⟨o,ws,file,tf,flags,tg,inF,text,tt,e1,e2,r⟩:=hcd;exact⟨o,ws,file,tf,flags,tg,inF,text,tt,f e1 (no2 e1 (by rw[e2];nofun) (by rw[e2];nofun)),e2,r⟩
   .intro z;obtain⟨o,es,ep,e,d,_⟩:=hns;rw[<-z,p]at e;cases e;rw[m6]at d;cases d
   .intro z;rw[z,hT]at p;cases p;cases m4
  have e0:Mv P w K mg (GJ s₁.heap H) callerA [] s₁ H:=⟨rfl,hM,fun b o e=>Z2 e,VJ (w9 _ _),trivial,fun b hb=>absurd (show b∈([]:List Addr) from hb) (by simp),hok,.of_eq hg⟩;refine Uf ((F _ hKb (j hns) hLC).run callerA [] s₁ H ⟨[.ref a],[]⟩ [.ref a] [.ref a] _ _ hr e0 (hbind s₁ (.ref a)) (.cons rfl .nil) (hsp H hHT hS)) fun r s' h=>?_
  cases r with
  |error e=>exact h.elim
  |ok fl=>
   cases fl with
   |next=>exact False.elim h
   |brk=>exact False.elim h
   |cont=>exact False.elim h
   |ret u=>
    obtain⟨v,H',os,bare,un,t,r',q⟩:=h;have q':v= .bl true:=q;subst q';obtain rfl:u=Value.bool true:=r';have kp:∀b o,s₁.heap.get? b=some o->b≠T->s'.heap.get? b=some o:=fun b o e g=>by
     cases q:H b with
     |none=>exact un.keep b o e q (by intro z;exact absurd (show b∈([]:List Addr) from z) (by simp)) (by simp)
     |some u=>
      rcases hO b with z|⟨ob,xs,z⟩|z
      .rw[q]at z;cases z
      .have z2:=un.frzs b ob _ z;obtain⟨e1,_⟩:=hok b _ z;obtain⟨e2,_⟩:=t b _ z2;rw[e]at e1;cases e1;exact e2
      .exact absurd z g
    obtain⟨l,hm⟩:=un.tbls T _ hHT;have hT':s'.heap.get? T=some (W.tabObj (#[]++l)):=t T _ hm;refine⟨rfl,⟨fun b o e=>?_,fun b o e=>?_⟩,os,bare⟩
    .by_cases g:b=T
     .subst g;rw[hT]at e;cases e;exact .inr (.inl ⟨(hcd.tab hT).isCodeTable,rfl,#[],l,rfl,hT'⟩)
     .exact .inl (kp b o e g)
    .by_cases g:b=T
     .subst g;exact⟨_,hT'⟩
     .exact⟨o,kp b o e g⟩
 have okT:∀H:Hp,Jh P w H s₁.heap T (.tbl #[]):=fun H=>hT
 cases hk:K.lookup a with
 |some o=>
  have e:=KX a o hk;rw[ha]at e;cases e;refine core (fun b=>if b=T then some (.tbl #[]) else none) (fun b=>?_) (Y9 rfl) (.inr ⟨_,vs.toArray,_,hk,rfl,rfl,rfl,by rw[Yc,lenV];exact hl,by simpa using rv⟩) (fun b u z=>?_) (fun b z=>?_) fun z=>absurd (Y3 aT) z
  .by_cases h:b=T
   .exact .inr (.inr h)
   .exact .inl (Y3 h)
  .by_cases h:b=T
   .have i:=(Y9 h).symm.trans z;cases i;subst h;exact okT _
   .have i:=(Y3 h).symm.trans z;cases i
  .by_cases h:b=T
   .exact .inr h
   .exact absurd (Y3 h) z
 |none=>
  refine core (fun b=>if b=T then some (.tbl #[]) else if b=a then some (.frz {cls:=.type "list",data:=.seq vs.toArray} (.lst (ns.map V.int))) else none) (fun b=>?_) (Y9 rfl) (.inl (.inr ⟨{cls:=.type "list",data:=.seq vs.toArray},(Y3 aT).trans (Y9 rfl)⟩)) (fun b u z=>?_) (fun b z=>?_) fun _=>hk
  .by_cases h:b=T
   .exact .inr (.inr h)
   .by_cases hb:b=a
    .exact .inr (.inl ⟨_,_,(Y3 h).trans (Y9 hb)⟩)
    .exact .inl ((Y3 h).trans (Y3 hb))
  .by_cases h:b=T
   .have i:=(Y9 h).symm.trans z;cases i;subst h;exact okT _
   .by_cases hb:b=a
    .have i:=((Y3 h).trans (Y9 hb)).symm.trans z;cases i;subst hb;exact⟨ha,by rw[Y1];exact hl,vs,_,rv,ha⟩
    .have i:=((Y3 h).trans (Y3 hb)).symm.trans z;cases i
  .by_cases h:b=T
   .exact .inr h
   .by_cases hb:b=a
    .exact .inl hb
    .exact absurd ((Y3 h).trans (Y3 hb)) z
theorem vY{K:Wy}{h:WD}{T:WA}(KX:K.In h)(hT:h.get? T=some (W.tabObj #[]))(hK:W.noTabs K=true):K.lookup T=none:=by
 cases e:K.lookup T with
 |none=>rfl
 |some o=>
  have z:=KX T o e;rw[hT]at z;cases z;have h2:=Xn.mp hK (T,W.tabObj #[]) (W.mem_of_lookupK e);cases h2
structure F3(K:PySem.W.Frag)(W:WA)(cs:List Addr)(C:WA)(i:Nat):Prop where
 e:yT K C
 w:PySem.W.mroIn K C (.ref W)=some true
 v:PySem.W.kitOne K (.ref C) (.type "ValueError")=some true
 k:∀j c,cs[j]?=some c->PySem.W.kitOne K (.ref C) (.ref c)=some (decide (j=i))
def GE:List Str:=["letter","piece","width","wide","rule","time","key","text","row","room","road"]
def Kd(K:PySem.W.Frag)(W:WA)(cs:List Addr)(C:WA)(wd:Str):Prop:=∃i,F3 K W cs C i/\GE[i]?=some wd
def E9(X:Cx)(scope:Scope)(cl:List (Str×Addr)):Prop:=(∀x c,cl.lookup x=some c->X.env.cells.lookup x=some c)/\(∀x,(x,NameKind.free)∈scope.names->∃c,cl.lookup x=some c)/\∀p∈cl,X.env.cells.lookup p.1=some p.2
def M0(X:Cx)(q:Str)(params:Arguments)(body:WE)(scope:Scope)(H:Hp)(f:WA):Prop:=∃cl c' ctv pm oc vs t,E9 X scope cl/\H f=some (.frz (E6 q params body scope cl pm (.ref c') ctv) HT)/\H c'=some (.frz oc HT)/\oc.data= .fields vs/\vs[1]?=some (.str q t)
section
variable{X:Cx}{c P:WA}{q:Str}{params:Arguments}{body:WE}{scope:Scope}{lpos:Pos}{H G:Hp}{f:WA}
theorem M0.of(c:M0 X q params body scope H f)(h:∀b oc,H b=some (.frz oc HT)->G b=some (.frz oc HT)):M0 X q params body scope G f:=by
 obtain⟨cl,c',ctv,pm,oc,vs,t,e,h1,h2,d,a⟩:=c;exact⟨cl,c',ctv,pm,oc,vs,t,e,h _ _ h1,h _ _ h2,d,a⟩
def Q2(X:Cx)(P:WA)(q:Str)(params:Arguments)(body:WE)(scope:Scope):TE:=fun _ H Q=>NP H P q/\∀f G,H f=none->JS P H G->NP G P q->M0 X q params body scope G f->Q (.ref f) G
theorem xE(lc:Gv X.mg X.base c P)(hcode:X.env.code= .ref c)(hq:X.env.qual++"<lambda>"=q)(vis:∀x,(x,NameKind.free)∈scope.names->X.env.kindOf x=some .cell\/X.env.kindOf x=some .free)(hdef:defaultsOf params X.env=([],[])):
  PE X (.Lambda params body scope lpos) (Q2 X P q params body scope):=by
 intro pins s σ H Q I h;obtain⟨tb,h⟩:=h;obtain⟨cl,e,d,b,a⟩:=Sn (scope:=scope) (env:=X.env) fun x i=>I.ok.has x (vis x i)
 exact vP lc hcode hq e hdef pins s σ H Q I ⟨tb,fun f c' ctv pm G g vs t u r p o n l j=>h f G r u p ⟨cl,c',ctv,pm,g,vs,t,⟨d,b,a⟩,o,n,l,j⟩⟩
end
section
variable{X:Cx}{q:Str}{params:Arguments}{body:WE}{scope:Scope}{H G:Hp}{f:WA}{N':List Str}{caps:List (Option Nat)}{te:XK->TE}{k:Nat}{σ:St}{pins:Ws}{s1 s2:Wu}{cl:List (Str×Addr)}
theorem SA(I1:WI X pins σ G s1)(hfn:∀x,X.fn x=true)(cX:∀b∈cl.map (·.2),∃x,X.env.cells.lookup x=some b):Mv X.prog X.w X.K X.mg X.base X.A X.stack s1 (JP cl s1.heap G):=by
 have cab:∀b∈cl.map (·.2),X.s₀.heap.objs.size <=b:=fun b a=>by
  obtain⟨x,f⟩:=cX b a;exact I1.ok.cab x b (hfn x) f
 have h:∀b∈cl.map (·.2),G b=none:=fun b a=>by
  obtain⟨x,f⟩:=cX b a;exact I1.freeC x b f
 have i:∀b x,G b=some x->b∉cl.map (·.2):=fun b x e a=>by rw[h b a]at e;cases e
 have c:=I1.env0;have j:∀b,b < X.s₀.heap.objs.size->b∉cl.map (·.2):=fun b a g=>absurd (Yz a (cab b g)) (Xe _)
 refine⟨c.frames,c.mod,fun b o e=>⟨(c.bs b o e).1,?_⟩,c.bsz,c.funs,fun b a=>?_,fun b o e=>?_,c.bare⟩
 .rw[T4 (j b (Yz (Ye e) I1.ok.bsz))];exact(c.bs b o e).2
 .rw[T4 ?_]
  .exact c.frf b a
  .intro g;obtain⟨x,f⟩:=cX b g;rcases Yu.mp (I1.stkSub b a) with z|z
   .exact I1.cne x b f z
   .obtain⟨_,o,n,_⟩:=I1.ok.funs.mem z;exact j b (Ye n) g
 .by_cases a:b∈cl.map (·.2)
  .obtain⟨x,f⟩:=cX b a;obtain⟨v,o',l,p⟩:=I1.cell x b f;rw[Re a,l]at e;cases e;exact HT.ok l
  .rw[T4 a]at e;exact(I1.hok b o e).stay (fun _ _ _ z=>z) (fun d z=>by rw[T4 (i d _ z)];exact z) fun d xs z=>by rw[T4 (i d _ z)];exact z
theorem vR(I1:WI X pins σ G s1)(cX:∀b∈cl.map (·.2),∃x,X.env.cells.lookup x=some b){Q:VK}{u:Wz}(h:CE X.stack X.prog X.w (JP cl s1.heap G) s1 (fun v G'=>Q v (DR cl G')) u s2):CE X.stack X.prog X.w G s1 Q u s2:=by
 obtain ⟨v, H', i, g, f, e, d, c⟩ := h;obtain ⟨l, j⟩ := vZ (fun b n => by
  obtain ⟨x, a⟩ := cX b n;obtain ⟨v, o', o, p⟩ := I1.cell x b a;exact ⟨⟨o', o⟩, I1.freeC x b a⟩) f e
 exact⟨v,DR cl H',i,g,l,j,d,c⟩
theorem yH{h:WD}{H2:Hp}(e:∀b∈cl.map (·.2),H2 b=none):DR cl (JP cl h H2)=H2:=by
 funext b
 by_cases hb:b∈cl.map (·.2)
 .rw[Ep hb,e b hb]
 .rw[Dv hb,T4 hb]
end
def Pk(R:V->Hp->Prop)(vs:List V)(G:Hp):Prop:=match vs with
 |[x]=>R x G
 |_=>False
theorem u8{R:V->Hp->Prop}{vs:List V}{G:Hp}(h:Pk R vs G):∃x,vs=[x]/\R x G:=by
 match vs,h with
 |[x],h=>exact⟨x,rfl,h⟩
end L2
namespace L2
open PySem PySem.Spec PyProof.Rows PySem.W
abbrev Ky:=Int×Str×Str
def MG(a b:Str):Bool:=decide (a.cps.toList < b.cps.toList)
theorem mG(a:Str):MG a a=false:=Ys (List.lt_irrefl _)
theorem vI{a b c:Str}(h1:MG a b=true)(h2:MG b c=true):MG a c=true:=Yq (List.lt_trans (Xd h1) (Xd h2))
theorem QY{a b c:Str}(h:MG a c=true):MG a b=true\/MG b c=true:=by
 by_cases h1:a.cps.toList < b.cps.toList
 .exact .inl (Yq h1)
 .exact .inr (Yq (List.lt_of_le_of_lt (Wn.mp h1) (Xd h)))
theorem Lx{a b:Str}(h1:MG a b=false)(h2:MG b a=false):a=b:=by
 have e:=List.le_antisymm (Wn.mp (Ul h2)) (Wn.mp (Ul h1));cases a;cases b;simp only[PySem.Str.mk.injEq];exact V4.mp e
end L2
namespace HT
open PySem PyProof.Rows
end HT
namespace L2
open PySem PySem.Spec PyProof.Rows PySem.W
section
variable{prog:Wt}{w:Wx}{A:Ww}{E:Wq}{s:Wu}{O:KeyOrd}{key:Nat->O.α}{κ:SortKind}{vs:WC}
structure GM(prog:Wt)(w:Wx)(h:WD)(O:KeyOrd)(key:Nat->O.α)(κ:SortKind)(vs:WC):Prop where
 kind:∀ (A:Ww) (s:Wu) (Q:SortKind->Shared->Prop),(∀b o,h.get? b=some o->s.heap.get? b=some o)->2 <=vs.length->Q κ s->wpAny (model prog w) A (keyKind' vs.toArray) Q (fun _ _=>False) s
 cmp:∀ (A:Ww) (s:Wu) (i j:Nat) (C:Bool->Shared->Prop),A.units < cLine->(∀b o,h.get? b=some o->s.heap.get? b=some o)->i < vs.length->j < vs.length->C (Tb O key i j) s->kas_ask prog w A κ vs i j C s
end
def Nu(h:WD)(v:Wz)(k:Ky):Prop:=∃a t u r,v= .ref a/\IsTup h a #[.int k.1 t,.str k.2.1 u,.str k.2.2 r]
section
variable{prog:Wt}{w:Wx}{A:Ww}{E:Wq}{s:Wu}
theorem Qz{x y:Wz}{k j:Ky}{Q:Bool->Shared->Prop}(hx:Nu s.heap x k)(hy:Nu s.heap y j)(hu:A.units < cLine)(h:Q (decide (k=j)) s):wpAny (model prog w) A (eqBool x y) Q E s:=by
 obtain⟨a,t,u,r,rfl,o,e1,z,n,q⟩:=hx;obtain⟨b,i,g,l,rfl,o',f,d,p,c⟩:=hy;refine wpAny_eqBool_tuple (knd:=Jn prog w) (x:=[.inl k.1,.inr k.2.1,.inr k.2.2]) (y:=[.inl j.1,.inr j.2.1,.inr j.2.2]) hu ⟨o,_,n,e1,z,q,Cd (.cons ⟨t,rfl⟩ (.cons ⟨u,rfl⟩ (.cons ⟨r,rfl⟩ .nil)))⟩ ⟨o',_,p,f,d,c,Cd (.cons ⟨i,rfl⟩ (.cons ⟨g,rfl⟩ (.cons ⟨l,rfl⟩ .nil)))⟩ ?_;have e:decide (([.inl k.1,.inr k.2.1,.inr k.2.2]:List Jv)=[.inl j.1,.inr j.2.1,.inr j.2.2])=decide (k=j):=by
  rw[Xt,Yt,Yt];simp only[List.cons.injEq,Sum.inl.injEq,Sum.inr.injEq,and_true];exact⟨fun h=>Wo h.1 (Wo h.2.1 h.2.2),fun h=>by rw[h];exact⟨rfl,rfl,rfl⟩⟩
 rw[e];exact h
end
def BA(k:Ky):List V:=[.int k.1,.str k.2.1,.str k.2.2]
section
variable{X:Cx}{pins:Ws}{s:Wu}{σ:St}{H:Hp}
theorem O9{t:WA}{k:Ky}(I:WI X pins σ H s)(h:N9 X.K H t (BA k)):Nu s.heap (.ref t) k:=by
 obtain⟨d,r,p,_⟩:=I.tuple h;cases r with
 |cons r1 r=>
  cases r with
  |cons r2 r=>
   cases r with
   |cons r3 r=>
    cases r;obtain⟨c,rfl⟩:=(show ∃t,_=Value.int k.1 t from r1);obtain⟨b,rfl⟩:=(show ∃t,_=Value.str k.2.1 t from r2);obtain⟨a,rfl⟩:=(show ∃t,_=Value.str k.2.2 t from r3);exact⟨t,c,b,a,rfl,p⟩
end
section
variable{X:Cx}{K:Wy}
theorem Kj{xs:List V}{its:WC}(rv:WO xs its):∀r:List Nat,(∀i∈r,i < xs.length)->WO (r.map fun i=>xs.getD i .non) (r.map fun i=>its.getD i Value.none)
 |[],_=>.nil
 |i::r,hr=>by
  refine .cons ?_ (Kj rv r fun j hj=>hr j (.tail _ hj));have hi:i < xs.length:=hr i (.head _);obtain⟨u,b,a⟩:=rv.get (i:=i) (x:=xs[i]) (Y5 hi);have d:xs.getD i .non=xs[i]:=by simp[hi]
  have c:its.getD i Value.none=u:=by rw[YJ,b];rfl
  show WU (xs.getD i .non) (its.getD i Value.none);rw[d,c];exact a
theorem IZ{O:KeyOrd}{c:List O.α}{d:O.α}{pa:Array Nat}{n:Nat}(a1:TV n pa)(a2:Bv O (fun i=>c.getD i d) pa n):(pa.toList.map fun i=>c.getD i d).Pairwise (fun a b=>O.blt b a=false):=by
 rw[VB,YY];intro i j hi e g;have f:pa.size=n:=a1.size;have:=a2 i j (XJ g) (by simpa[f] using e);have l:pa.getD i 0=pa.toList[i]:=by simp at hi;simp[Array.getD,hi]
 have h:pa.getD j 0=pa.toList[j]:=by simp at e;simp[Array.getD,e]
 unfold SK at this;rw[l,h]at this;exact this
end
section
variable{prog:Wt}{w:Wx}{A:Ww}{d:WA}{o:Obj}{es:Array DictEntry}{ep:Nat}
theorem Qj(hh:A.handled=none)(I:WA)(hne:d≠I)(hdat:o.data= .dict es ep):
  Walks prog w A I [I,d] [I] es.size (fun i v=>∃e,es[i]?=some e/\v=e.key) (fun i h=>h.IsKeyIter I d i es.size ep/\h.get? d=some o) where
 sub:=fun b a=>by simp at a;simp[a]
 frame:=fun _ _ _ st g=>⟨let ⟨oi,a1,a2⟩:=st.1;⟨oi,g I (by simp) _ a1,a2⟩,g d (by simp) _ st.2⟩
 item:=fun i s Q E hi st c=>by
  refine QG st.1 st.2 hdat hi fun h' f hs'=>?_
  exact c _ h' s.toks ⟨_,YT hi,rfl⟩ ⟨f,hs'.extBut d o hne st.2⟩ fun b o a e=>hs'.extBut b o (fun h=>a (by simp[h])) e
 done:=fun s Q E st c=>tO hh st.1 st.2 hdat (Y6 _) fun h' j=>c h' s.toks fun b o a e=>j b o (fun h=>a (by simp[h])) e
 self:=fun _ _ _ _ st c=>wpAny_pyIter_keyiter st.1 c
theorem QD(lo:(d==sysModules)=false)(hc:o.ExactDict)(hdat:o.data= .dict es ep):KdlSrc prog w "dict" d d es.size (fun i v=>∃e,es[i]?=some e/\v=e.key) (fun h=>h.get? d=some o) where
 type:=fun _ a=>⟨o,a,hc.1⟩
 there:=fun _ a=>⟨Ye a,Ye a⟩
 keep:=fun _ _ a c=>c d (.inl rfl) o a
 notList:=by decide
 notTuple:=by decide
 hint:=fun _ _ _ _ a b=>kdl_hint_dict ⟨o,a,hc.1⟩ b
 iter:=fun _ _ hh a=>⟨_,_,(fun _ _ b=>QP lo a hc hdat b),Qj hh _ (Yr (Ye a)) hdat,⟨⟨_,Yi _ rfl,rfl,rfl⟩,Y7 _ a⟩⟩
end
def Pw{α β:Type}(R:α->β->Prop)(xs:List α)(ys:List β):Prop:=xs.length=ys.length/\∀ (j:Nat) x y,xs[j]?=some x->ys[j]?=some y->R x y
theorem Pw.nil{α β:Type}{R:α->β->Prop}:Pw R [] []:=⟨rfl,fun j x y h=>by simp at h⟩
theorem Pw.imp{α β:Type}{R S:α->β->Prop}{xs:List α}{ys:List β}(h:Pw R xs ys)(f:∀x y,R x y->S x y):Pw S xs ys:=⟨h.1,fun j x y a b=>f x y (h.2 j x y a b)⟩
theorem Pw.app{α β:Type}{R:α->β->Prop}{xs xs':List α}{ys ys':List β}(h:Pw R xs ys)(h':Pw R xs' ys'):Pw R (xs++xs') (ys++ys'):=by
 refine⟨by rw[List.length_append,List.length_append,h.1,h'.1],fun j x y a b=>?_⟩;rw[XQ]at a b
 by_cases hj:j < xs.length
 .rw[Y9 hj]at a;rw[Y9 (by rw[<-h.1];exact hj)]at b;exact h.2 j x y a b
 .rw[Y3 hj]at a;rw[Y3 (by rw[<-h.1];exact hj)]at b;rw[h.1]at a;exact h'.2 _ x y a b
theorem Pw.one {α β : Type} {R : α -> β -> Prop} {x : α} {y : β} (h : R x y) : Pw R [x] [y] := ⟨rfl, fun j a b c d => by
 cases j with
 |zero=>cases c;cases d;exact h
 | succ j => simp at c⟩
theorem Pw.snoc{α β:Type}{R:α->β->Prop}{xs:List α}{ys:List β}{x:α}{y:β}(h:Pw R xs ys)(hx:R x y):Pw R (xs++[x]) (ys++[y]):=h.app (.one hx)
theorem Pw.get{α β:Type}{R:α->β->Prop}{xs:List α}{ys:List β}(h:Pw R xs ys){i:Nat}{x:α}(hx:xs[i]?=some x):∃y,ys[i]?=some y/\R x y:=by
 have hi:i < xs.length:=(Y4.mp hx).1;have e:ys[i]?=some (ys[i]'(by rw[<-h.1];exact hi)):=Y5 (by rw[<-h.1];exact hi);exact⟨_,e,h.2 i x _ hx e⟩
theorem Nu.inj{h:WD}{v:Wz}{k j:Ky}(x:Nu h v k)(y:Nu h v j):k=j:=by
 obtain⟨a,t,u,r,e,o,h1,h2,n,g⟩:=x;obtain⟨w,p,l,q,f,o',d,i,s,b⟩:=y;rw[e]at f;cases f;rw[h1]at d;cases d;rw[g]at b;injection b with b _;have c:=YB Array.toList b;simp only[List.cons.injEq,Value.int.injEq,Value.str.injEq]at c;exact Wo c.1.1 (Wo c.2.1.1 c.2.2.1.1)
end L2
namespace HT
open PySem PyProof.Rows
end HT
namespace L2
open PySem PySem.Spec PyProof.Rows PySem.W
def GK(a:WA):Obj:={cls:=.type "dict_keys",data:=.fields #[.ref a]}
section
variable{prog:Wt}{w:Wx}{A:Ww}{E:Wq}{s:Wu}{d r v:WA}{o:Obj}{es:Array DictEntry}{ep:Nat}
theorem vN(hd:(d==sysModules)=false):MeetsIn prog w (Builtin.«dict.keys» ⟨[.ref d],[]⟩) (fun _ R s=>s.TypeIs (.ref d) "dict"/\R (.ok (.ret (.ref s.heap.objs.size))) {s with heap:=s.heap.push (GK d)}):=
 .of_wp fun A R s ⟨a,h⟩=>by
  refine Y0 ?_;unfold Builtin.Dict.noArgs;refine Y0 (wpAny_notOrdered_dict a (?_:wpAny _ _ (pure d) _ _ s));refine Y2 (?_:wpAny _ _ (Builtin.Dict.showsAll d >>=_) _ _ s);unfold Builtin.Dict.showsAll;rw[Y3 (by rw[hd];exact Yv)];exact Y0 (Y2 (Y0 (YS (Y2 ⟨_,rfl,h⟩))))
theorem SV{Q:Wq}(hv:s.heap.get? v=some (GK d))(ho:s.heap.get? d=some o)(hdat:o.data= .dict es ep)
  (hQ:Q (.ref s.heap.objs.size) {s with heap:=s.heap.push {cls:=.type "dict_keyiterator",data:=.fields #[.ref d,.int 0 0,.int es.size 0,.int ep 0]}}):wpAny (model prog w) A (pyIter (.ref v)) Q E s:=by
 have a:s.TypeIs (.ref v) "dict_keys":=⟨_,hv,rfl⟩
 refine UU a kdl_slot_keys_iter (X4 kdl_slot_keys_iter a kdl_entry_keys_iter ?_ (kdl_args_keys_iter _));unfold Builtin.«dict_keys.__iter__»;refine Y0 (Y2 (Y0 ?_));unfold Builtin.Dict_items.dictOf;refine Y0 (wpAny_field hv rfl (x:=.ref d) rfl (Y2 (Y0 ?_)));unfold Builtin.Dict_items.newIterator;refine Y0 (UV ho hdat (Y0 (Vc ho hdat ?_)));simp only[show Builtin.Dict_items.ownsTuple "dict_keyiterator"=false by decide,Bool.false_eq_true,if_false];refine YS (Y2 ⟨_,rfl,"dict_keyiterator",_,⟨_,Yi _ rfl,rfl⟩,X6.lookup,?_⟩);simpa[rawInt] using hQ
theorem SF(hdat:o.data= .dict es ep):KdlSrc prog w "dict_keys" r d es.size (fun i v=>∃e,es[i]?=some e/\v=e.key) (fun h=>h.get? r=some (GK d)/\h.get? d=some o) where
 type:=fun _ a=>⟨_,a.1,rfl⟩
 there:=fun _ a=>⟨Ye a.1,Ye a.2⟩
 keep:=fun _ _ a c=>⟨c r (.inl rfl) _ a.1,c d (.inr rfl) o a.2⟩
 notList:=by decide
 notTuple:=by decide
 hint:=fun _ _ _ _ a b=>kdl_hint_keys ⟨_,a.1,rfl⟩ b
 iter:=fun _ _ hh a=>⟨_,_,(fun _ _ b=>SV a.1 a.2 hdat b),Qj hh _ (Yr (Ye a.2)) hdat,⟨⟨_,Yi _ rfl,rfl,rfl⟩,Y7 _ a.2⟩⟩
end
end L2
namespace HT
open PySem PyProof.Rows
end HT
namespace L2
open PySem PySem.Spec PyProof.Rows PySem.W
end L2
namespace L2
open PySem PySem.Spec PyProof.Rows
theorem Mq{us:WC}{n:Nat}(h:us.length=n+ 1):∃a r,us=a::r/\r.length=n:=by
 cases us with
 |nil=>cases h
 |cons a r=>exact⟨a,r,rfl,Nat.succ.inj h⟩
theorem TR{us:WC}(h:us.length=1):∃a,us=[a]:=by
 obtain⟨a,r,e,g⟩:=Mq h;rw[Xj g]at e;exact⟨a,e⟩
theorem MI{us:WC}(h:us.length=2):∃a a1,us=[a,a1]:=by
 obtain⟨a,r,e,g⟩:=Mq h;obtain⟨a1,z⟩:=TR g;rw[z]at e;exact⟨_,_,e⟩
theorem Gj{us:WC}(h:us.length=3):∃a a1 a2,us=[a,a1,a2]:=by
 obtain⟨a,r,e,g⟩:=Mq h;obtain⟨a1,a2,z⟩:=MI g;rw[z]at e;exact⟨_,_,_,e⟩
theorem Og{us:WC}(h:us.length=4):∃a a1 a2 a3,us=[a,a1,a2,a3]:=by
 obtain⟨a,r,e,g⟩:=Mq h;obtain⟨a1,a2,a3,z⟩:=Gj g;rw[z]at e;exact⟨_,_,_,_,e⟩
theorem Fd{us:WC}(h:us.length=5):∃a a1 a2 a3 a4,us=[a,a1,a2,a3,a4]:=by
 obtain⟨a,r,e,g⟩:=Mq h;obtain⟨a1,a2,a3,a4,z⟩:=Og g;rw[z]at e;exact⟨_,_,_,_,_,e⟩
theorem KA{us:WC}(h:us.length=6):∃a a1 a2 a3 a4 a5,us=[a,a1,a2,a3,a4,a5]:=by
 obtain⟨a,r,e,g⟩:=Mq h;obtain⟨a1,a2,a3,a4,a5,z⟩:=Fd g;rw[z]at e;exact⟨_,_,_,_,_,_,e⟩
theorem OQ{us:WC}(h:us.length=7):∃a a1 a2 a3 a4 a5 a6,us=[a,a1,a2,a3,a4,a5,a6]:=by
 obtain⟨a,r,e,g⟩:=Mq h;obtain⟨a1,a2,a3,a4,a5,a6,z⟩:=KA g;rw[z]at e;exact⟨_,_,_,_,_,_,_,e⟩
theorem nY{us:WC}(h:us.length=8):∃a a1 a2 a3 a4 a5 a6 a7,us=[a,a1,a2,a3,a4,a5,a6,a7]:=by
 obtain⟨a,r,e,g⟩:=Mq h;obtain⟨a1,a2,a3,a4,a5,a6,a7,z⟩:=OQ g;rw[z]at e;exact⟨_,_,_,_,_,_,_,_,e⟩
structure MB(P:Wt)(w:Wx)(K:Wy)(mg:Wp)(base:WD):Prop where
 of:∀{n:Str} {v:Wz},W.nsIn K mainGlobals n=some (some v)->mg n=some v
 no:∀{n:Str},W.nsIn K mainGlobals n=some none->mg n=none
def FF(K:Wy)(n q:Str)(st:Stmt)(f:WA):Prop:=∃ (oc:Wz) (od:Option Addr) (kV dc pm:Wz) (an:Option Addr) (cd ct:Wz) (sl:Array (Option Value)),
 K.lookup f=some ⟨oc,od,.func (W.fnOf n q (TB st) (WP st) (WF st) .none kV dc pm an cd ct),sl⟩/\W.codeIn K cd q=true/\W.keepIn K (.ref f)=true
def GF(K:Wy)(n:Str)(st:Stmt)(f:WA):Prop:=W.nsIn K mainGlobals n=some (some (.ref f))/\FF K n n st f
def MF(K:Wy)(C:WA)(m q:Str)(st:Stmt)(f:WA):Prop:=W.findIn K (.ref C) m=some (some (.ref f))/\W.isFn K (.ref f)=true/\FF K m q st f
def DF(K:Wy)(C:WA)(q:Str)(st:Stmt)(f T:WA):Prop:=W.findIn K (.ref C) "__init__"=some (some (.ref f))/\W.isFn K (.ref f)=true/\∃ (oc:Wz) (od:Option Addr) (kV dc pm:Wz) (an:Option Addr) (cd ct:Wz) (sl:Array (Option Value)),
 K.lookup f=some ⟨oc,od,.func (W.fnOf "__init__" q (TB st) (WP st) (WF st) (.ref T) kV dc pm an cd ct),sl⟩/\W.codeIn K cd q=true/\∃ (oT:Option Addr) (nT:Nat) (sT:Array (Option Value)),K.lookup T=some ⟨.type "tuple",oT,.seq #[.bool false] nT,sT⟩
def CF(K:Wy)(n:Str)(C:WA):Prop:=W.nsIn K mainGlobals n=some (some (.ref C))/\Mj K C/\W.makesIn K C=true/\W.keepIn K (.ref C)=true/\AS K C
def NA(K:Wy)(C:WA):List Str->Prop
 |[]=>True
 |x::r=>W.findIn K (.ref C) x=some none/\NA K C r
def NS(K:Wy):List Str->Prop
 |[]=>True
 |x::r=>W.nsIn K mainGlobals x=some none/\NS K r
section
variable{P:Wt}{w:Wx}{K:Wy}{mg:Wp}{base:WD}{n q m:Str}{st:Stmt}{f C:WA}{k:Nat}{ps:List Str}{sp:Sp}
theorem FF.fn(h:FF K n q st f):∃fd,JT K n q st f fd/\W.keepIn K (.ref f)=true:=by
 obtain⟨d,b,kV,dc,pm,g,e,ct,a,l,c,kp⟩:=h;exact⟨_,A7 l c kp,kp⟩
theorem MB.fb(E:MB P w K mg base)(g:GF K n st f)(h:∀{fd},JT K n n st f fd->WQ P w K mg base Jr k f fd ps sp)
  (hb:∀ (kV doc pm:Wz) (an:Option Addr) (cdv ct:Wz) (us:WC),us.length=ps.length->bindArgs (W.fnOf n n (TB st) (WP st) (WF st) .none kV doc pm an cdv ct) ⟨us,[]⟩=pure (ps.zip us)):JI P w K mg base n k ps [] sp:=by
 obtain⟨fd,F,kp⟩:=g.2.fn;exact⟨f,fd,[],h F,E.of g.1,kp,F.binds hb,.nil⟩
theorem MB.mb(E:MB P w K mg base){cn:Str}(c:CF K cn C)(g:MF K C m q st f)(h:∀{fd},JT K m q st f fd->WQ P w K mg base Jr k f fd ps sp)
  (hb:∀ (kV doc pm:Wz) (an:Option Addr) (cdv ct:Wz) (us:WC),us.length=ps.length->bindArgs (W.fnOf m q (TB st) (WP st) (WF st) .none kV doc pm an cdv ct) ⟨us,[]⟩=pure (ps.zip us)):Tc P w K mg base C m k ps [] sp:=by
 obtain⟨fd,F,kp⟩:=g.2.2.fn;exact⟨f,fd,[],h F,c.2.1,⟨g.1,g.2.1,kp⟩,F.binds hb,.nil⟩
theorem MB.kb(E:MB P w K mg base){cn:Str}(c:CF K cn C)(g:MF K C "__init__" q st f)
  (h:∀{fd},(∃ (oc:Wz) (od:Option Addr) (dV kV doc pm:Wz) (an:Option Addr) (cdv ct:Wz) (osl:Array (Option Value)),fd=W.fnOf "__init__" q (TB st) (WP st) (WF st) dV kV doc pm an cdv ct/\K.lookup f=some ⟨oc,od,.func fd,osl⟩/\W.codeIn K cdv q=true)->WQ P w K mg base Jr k f fd ps sp)
  (hb:∀ (kV doc pm:Wz) (an:Option Addr) (cdv ct:Wz) (us:WC),us.length=ps.length->bindArgs (W.fnOf "__init__" q (TB st) (WP st) (WF st) .none kV doc pm an cdv ct) ⟨us,[]⟩=pure (ps.zip us)):Di P w K mg base cn C k ps [] sp:=by
 obtain⟨oc,od,kV,dc,pm,an,d,ct,b,l,a,kp⟩:=g.2.2;exact⟨f,_,[],h ⟨oc,od,.none,kV,dc,pm,an,d,ct,b,rfl,l,a⟩,E.of c.1,⟨c.2.2.1,g.1,g.2.1,c.2.2.2.1⟩,(A7 l a kp).binds hb,.nil⟩
end
section
variable{X:Cx}{K:Wy}
def Zc(i j:Int):Prop:=0 < j/\j < 1267650600228229401496703205376
theorem EC:JJ X (binaryOp .FloorDiv) (rI Zc fun i j=>.int (i / j)):=Bi fun i j _ _ _ _ _ a q=>by
 have h1:(0:Int) < j:=a.1;have h2:j < 1267650600228229401496703205376:=a.2;refine floordiv_int (by omega) (by rw[Vu i (by omega)];exact q) (.inl (PyProof.noPylong_of_log2 ?_));have:j.natAbs.log2 < 100:=(Nat.log2_lt (by omega)).mpr (by omega);omega
end
structure C9(P:Wt)(w:Wx)(K:Wy)(mg:Wp)(base:WD)(x n:Str)(k:Nat)(sp:Sp):Prop where
 ex:∃ (f C:WA) (fd:Wv) (ps:List Str) (sp0:Sp),WQ P w K mg base Jr k f fd ps sp0/\mg x=some (.ref C)/\Mk K C f/\(∀ (s:Wu) (us:WC) (u:Wz),K.In s.heap->us.length+ 1=ps.length->BindsTo s fd ⟨us,[(n,u)]⟩ (ps.zip (us++[u])))/\
  ∀vs H Q,sp vs H Q E0->∀y dx G,H y=none->H dx=none->dx≠y->WH H G->G y=some (.ins C dx [])->sp0 (.ref y::vs) G (fun v H2=>v= .non/\Q (.ref y) H2) E0
def FR(sp:Sp)(t:TA)(tb:TE):TE:=fun σ H Q=>t σ H fun vs H1=>tb σ H1 fun z H2=>sp (vs++[z]) H2 Q E0
theorem y8{X:Cx}{k:Nat}{sp:Sp}{x n:Str}{p pos kp:Pos}{e e2:WE}{es:List Expr}{t:TA}{tb:TE}(F:C9 X.prog X.w X.K X.mg X.base x n k sp)(hr:WV (k+ 1) X.A)(hg:Gl X x)(ha:PA X (e::es) t)(hb2:PE X e2 tb)(hdb:(x==("__debug__":Str))=false:=by decide)
  (he:starEach (e::es) X.env=(false,eval e X.env)::starEach es X.env:=by rfl) (hall:(backToKw pos (keywordEach [⟨some n,e2,kp⟩] X.env)).all (·.1.isSome)=true:=by rfl) (hpl:((backTo pos (starEach (e::es) X.env)).any (·.1)||(backToKw pos (keywordEach [⟨some n,e2,kp⟩] X.env)).any (·.1.isNone))=false:=by rfl):PE X (.Call (.Name x p) (e::es) [⟨some n,e2,kp⟩] pos) (FR sp t tb):=by
 obtain⟨f,C,fd,ps,sp0,G,hm,M,l,hi⟩:=F.ex;intro pins s σ H Q I h;refine Xv (BS I hg hm ?_ hdb);refine W.callWith_KW (h₀:=X.base) I.ok.mod.kin M.kp hall (J8 (ha pos pins s σ H (fun vs H1=>Ms tb Df σ H1 (Pk fun z H2=>sp (vs++[z]) H2 Q E0)) I h) fun b s1 ⟨vs,H1,I1,r,q⟩=>J8 (Kb hb2 Hm pos pins s1 σ H1 _ I1 q) fun ws s2 ⟨zs,H2,c,o,d⟩=>⟨c.kIn,?_⟩) hpl he;obtain⟨z,rfl,d⟩:=u8 d;obtain⟨u,rfl,ru⟩:=D4 o;have j:=hi _ _ _ d (s2.heap.objs.size+ 1) s2.heap.objs.size (upd (upd H2 s2.heap.objs.size (.own (s2.heap.objs.size+ 1))) (s2.heap.objs.size+ 1) (.ins C s2.heap.objs.size [])) (c.hok.fresh (XD _)) (c.hok.fresh (Y6 _)) (Yr (Ue _)) ((Tx (c.hok.fresh (Y6 _))).new (c.hok.fresh (XD _))) JD;have g:=WI.made (C:=C) c;have i:WO (V.ref (s2.heap.objs.size+ 1)::(vs++[z])) (Value.ref (s2.heap.objs.size+ 1)::(b++[u])):=.cons rfl (r.append (.cons ru .nil));have hl:(Value.ref (s2.heap.objs.size+ 1)::b).length+ 1=ps.length:=by
  have e:=i.length;rw[G.len _ _ _ _ j]at e;simp at e ⊢;lia
 refine Vb (P6 (f := f) (kw := [(n, u)]) c.kIn M.makes M.init (Va.mp M.fn) (Uf (G.run _ X.stack _ _ ⟨Value.ref (s2.heap.objs.size + 1) :: b, [(n, u)]⟩ (Value.ref (s2.heap.objs.size + 1) :: (b ++ [u])) _ _ E0 (hr.make C b [(n, u)])
  (g.env0.make C b [(n, u)]) (l _ (Value.ref (s2.heap.objs.size + 1) :: b) u g.kIn hl) i j) fun r s' a => ?_))
 cases r with
 |error e=>exact a.elim
 |ok fl=>
  cases fl with
  |ret u=>
   obtain⟨v,H',I4,rv,ev,q3⟩:=g.after a;subst ev;exact⟨rv,⟨V.ref (s2.heap.objs.size+ 1),H',I4,rfl,q3⟩⟩
  |next=>exact False.elim a
  |brk=>exact False.elim a
  |cont=>exact False.elim a
end L2
namespace L2
open PySem PySem.Spec PyProof.Rows PySem.W
section
variable{O:KeyOrd}{key:Nat->O.α}
def Pc(O:KeyOrd)(key:Nat->O.α)(i j:Nat):Prop:=if i < j then O.blt (key j) (key i)=false else O.blt (key i) (key j)=true
theorem Pc.irr{i:Nat}(h:Pc O key i i):False:=by
 unfold Pc at h;rw[Y3 (Xe _),O.irrefl]at h;cases h
theorem Pc.le{i j:Nat}(h:Pc O key i j):O.kle (key i) (key j):=by
 unfold Pc at h;split at h
 .exact h
 .exact KeyOrd.kle_of_klt h
theorem Pc.trans{i j k:Nat}(h1:Pc O key i j)(h2:Pc O key j k):Pc O key i k:=by
 by_cases hik:i < k
 .unfold Pc;rw[Y9 hik];exact KeyOrd.kle_trans h1.le h2.le
 .have h:O.blt (key i) (key j)=true\/O.blt (key j) (key k)=true:=by
   by_cases hij:i < j
   .right;unfold Pc at h2;rw[Y3 (by lia)]at h2;exact h2
   .left;unfold Pc at h1;rw[Y3 hij]at h1;exact h1
  unfold Pc;rw[Y3 hik];rcases h with h|h
  .rcases O.negTrans _ (key k) _ h with a|a
   .exact a
   .have:=h2.le;unfold KeyOrd.kle at this;rw[this]at a;cases a
  .rcases O.negTrans _ (key i) _ h with a|a
   .have:=h1.le;unfold KeyOrd.kle at this;rw[this]at a;cases a
   .exact a
theorem Pc.tot{i j:Nat}(h:i≠j)(n:¬Pc O key i j):Pc O key j i:=by
 unfold Pc at n ⊢
 by_cases hij:i < j
 .rw[Y9 hij]at n;rw[Y3 (by lia)];simpa using n
 .rw[Y3 hij]at n;rw[Y9 (by lia)];simpa using n
theorem Pc.no{i j:Nat}(h:Pc O key i j):¬Pc O key j i:=fun h'=>(h.trans h').irr
theorem Pc.ask{i j:Nat}(h:i < j):Tb O key j i=true↔Pc O key j i:=by
 unfold Pc Tb;rw[Y3 (by lia)]
theorem Pc.ask'{i j:Nat}(h:i < j):Tb O key j i=false↔Pc O key i j:=by
 unfold Pc Tb;rw[Y9 h]
end
section
variable{prog:Wt}{w:Wx}{A:Ww}{E:Wq}{s:Wu}{O:KeyOrd}{key:Nat->O.α}{κ:SortKind}{it:Nat->Keyed}{N:Nat}
def DP(prog:Wt)(w:Wx)(A:Ww)(s:Wu)(κ:SortKind)(it:Nat->Keyed)(N:Nat)(lt:Nat->Nat->Bool):Prop:=
 ∀ (i j:Nat) (C:Bool->Shared->Prop),i < N->j < N->C (lt i j) s->wpAny (model prog w) A (keyLt' κ (it i).1 (it j).1) C (fun _ _=>False) s
structure MX(κ:SortKind)(it:Nat->Keyed)(l:List Nat)(st:SortSt):Prop where
 kind:kindOf st=κ
 ok:failedOf st=none
 arr:arrOf st=(l.map it).toArray
variable{lt:Nat->Nat->Bool}
theorem ES{st:SortSt}{i j:Nat}{Q:Option Bool->SortSt->Prop}(C:DP prog w A s κ it N lt)(hk:kindOf st=κ)(hi:i < N)(hj:j < N)(h:Q (some (lt i j)) st):
  wpS (model prog w) A E s (lt' (it i) (it j)) Q st:=by
 rw[lt'_eq];refine Yg (UQ ?_);rw[hk];refine Yg (Vm (U8 (YL (C i j (fun b s'=>s'=s/\b=lt i j) hi hj ⟨rfl,rfl⟩) (fun b s' q=>?_) fun _ _ e=>e.elim)));obtain⟨rfl,rfl⟩:=q;exact⟨rfl,Yk h⟩
theorem M5{st:SortSt}{v:Array Keyed}{i:Nat}{x:Keyed}{Q:Keyed->SortSt->Prop}(e:v[i]?=some x)(h:Q x st):wpS (model prog w) A E s (elem' v i) Q st:=by
 rw[elem'_eq,e];exact Yk h
def KY:Bool->Keyed->Array Keyed->Nat->Nat->Nat->StateT SortSt Sem (Option Nat):=sortPriv%PySem.Builtin.gallop
theorem wT{st:SortSt}{left:Bool}{v:Array Keyed}{i x y:Nat}{Q:Option Bool->SortSt->Prop}(C:DP prog w A s κ it N lt)(hk:kindOf st=κ)(hx:x < N)(hy:y < N)(e:v[i]?=some (it x))
  (h:Q (some (if left then lt x y else !lt y x)) st):
  wpS (model prog w) A E s (elem' v i >>=fun x=>if left=true then lt' x (it y) else lt' (it y) x >>=fun r=>pure (Option.map (fun x=> !x) r)) Q st:=by
 refine Yg (M5 e ?_);cases left with
 |true=>exact ES C hk hx hy h
 |false=>
  refine Yg (ES C hk hy hx ?_);exact Yk h
theorem C0{k x a b:Nat}(h:a <=k - x)(q:b < a):b <=k - (x+ 1):=by rw[Wm];exact Nat.le_pred_of_lt (Yz q h)
theorem FJ{l r:Nat}(q:l < r):l <=(l+ r) / 2/\(l+ r) / 2 < r:=⟨(Nat.le_div_iff_mul_le (by decide)).mpr (by lia),Nat.div_lt_of_lt_mul (by lia)⟩
theorem QR{l r:Nat}(q:l < r):(l+ r) / 2 - l < r - l:=Nat.sub_lt_sub_right (FJ q).1 (FJ q).2
theorem yJ{l r:Nat}(q:l < r):r - ((l+ r) / 2+ 1) < r - l:=Wh q (Nat.lt_succ_of_le (FJ q).1)
theorem xJ{l r:Nat}(q:l < r):r - (l+ (r - l) / 2+ 1) < r - l:=Wh q (Nat.lt_succ_of_le (XG ..))
theorem QM{l r:Nat}(q:l < r):l+ (r - l) / 2 - l < r - l:=by rw[VU];exact Nat.div_lt_self (Nat.sub_pos_of_lt q) (by decide)
theorem QF{l r:Nat}(q:l < r):l+ (r - l) / 2 <=r:=by have:=Nat.div_le_self (r - l) 2;lia
theorem QH{t c o:Nat}(h:t+ 1 <=o\/t - o < c):t+ 1 - min o (t+ 1) <=c:=by
 by_cases q:t+ 1 <=o
 .rw[Nat.min_eq_right q,Vd];exact Yj _
 .rw[U5 (by lia)];have:=h.resolve_left q
  lia
theorem Eu{st:SortSt}{left:Bool}{v:Array Keyed}{b n t y c:Nat}{Q:Option Nat->SortSt->Prop}(C:DP prog w A s κ it N lt)(hk:kindOf st=κ)(hy:y < N)(ht:t < n)(hc:c <=n)
  (hb:∀i,i < n->∃x,x < N/\v[b+ i]?=some (it x)/\(if left then lt x y else !lt y x)=decide (i < c)) (h:Q (some c) st):
  wpS (model prog w) A E s (KY left (it y) v b n t) Q st:=by
 have ask:∀ (i:Nat) (R:Option Bool->SortSt->Prop),i < n->R (some (decide (i < c))) st->wpS (model prog w) A E s (elem' v (b+ i) >>=fun x=>if left=true then lt' x (it y) else lt' (it y) x >>=fun r=>pure (Option.map (fun x=> !x) r)) R st:=fun i R hi hR=>by
  obtain⟨x,z,e,eb⟩:=hb i hi;refine wT C hk z hy e ?_;rw[eb];exact hR
 have aa:∀ (f:Nat->Option (Option Nat)×Nat×Nat->StateT SortSt Sem (ForInStep (Option (Option Nat)×Nat×Nat))) (lo hi:Nat),
   (∀x lo hi (R:ForInStep (Option (Option Nat)×Nat×Nat)->SortSt->Prop),hi <=n->(hi <=lo->R (.done (none,lo,hi)) st)->(lo < hi->lo+ (hi - lo) / 2 < c->R (.yield (none,lo+ (hi - lo) / 2+ 1,hi)) st)->(lo < hi->c <=lo+ (hi - lo) / 2->R (.yield (none,lo,lo+ (hi - lo) / 2)) st)->wpS (model prog w) A E s (f x (none,lo,hi)) R st)->
   lo <=c->c <=hi->hi <=n->wpS (model prog w) A E s (forIn [0:n] (none,lo,hi) f) (fun r a=>a=st/\r=(none,c,c)) st:=fun f lo hi hf h1 h2 j=>by
  refine X7 (I:=fun x r a=>a=st/\∃lo hi,r=(none,lo,hi)/\lo <=c/\c <=hi/\hi <=n/\hi - lo <=n - x) ?_ ?_ ⟨rfl,lo,hi,rfl,h1,h2,j,by lia⟩
  .intro x r a _ z Zq;obtain⟨rfl,lo,hi,rfl,h1,h2,j,p⟩:=Zq;refine hf x lo hi _ j (fun q=>⟨rfl,?_⟩) (fun g d=>⟨rfl,_,_,rfl,d,h2,j,C0 p (xJ g)⟩) fun g d=>⟨rfl,_,_,rfl,h1,d,YW (QF g) j,C0 p (QM g)⟩
   obtain rfl:lo=c:=by lia
   obtain rfl:hi=lo:=by lia
   rfl
  .intro r a Zq;obtain⟨rfl,lo,hi,rfl,h1,h2,j,p⟩:=Zq;obtain rfl:lo=c:=by lia
   obtain rfl:hi=lo:=by lia
   exact⟨rfl,rfl⟩
 unfold KY;refine Yg (ask t _ ht ?_)
 by_cases q:t < c
 .simp only[q,Xc,if_true];refine Yg (Xx (X7 (I:=fun x r a=>a=st/\∃l o,r=(none,l,o)/\t+ l < c/\x+ 1 <=o) (Q:=fun r a=>a=st/\∃l o,r=(none,l,o)/\t+ l < c/\(n - t <=o\/c <=t+ o)) ?_ ?_ ⟨rfl,0,1,rfl,by lia,by lia⟩) ?_)
  .intro x r a _ z Zq;obtain⟨rfl,l,o,rfl,h1,h2⟩:=Zq;dsimp only
   by_cases g:o≥n - t
   .rw[Y9 g];exact Yk ⟨rfl,l,o,rfl,h1,.inl g⟩
   .rw[Y3 g];refine Yg (ask _ _ (by lia) ?_)
    by_cases d:t+ o < c
    .simp only[d,Xc,Bool.not_true,Bool.false_eq_true,if_false];exact Yk ⟨rfl,o,_,rfl,d,by lia⟩
    .simp only[d,Xa,Bool.not_false,if_true];exact Yk ⟨rfl,l,o,rfl,h1,.inr (by lia)⟩
  .intro r a Zq;obtain⟨rfl,l,o,rfl,h1,h2⟩:=Zq;exact⟨rfl,l,o,rfl,h1,.inl (by lia)⟩
  .intro r a Zq;obtain⟨rfl,l,o,rfl,h1,h2⟩:=Zq;dsimp only;refine Yg (Xx (aa _ _ _ ?_ (by lia) (by lia) (by lia)) ?_)
   .intro x lo hi R h1 h2 j p;dsimp only
    by_cases q:lo≥hi
    .rw[Y9 q];exact Yk (h2 q)
    .rw[Y3 q];refine Yg (ask _ _ (by lia) ?_)
     by_cases d:lo+ (hi - lo) / 2 < c
     .simp only[d,Xc,if_true];exact Yk (j (by lia) d)
     .simp only[d,Xa,Bool.false_eq_true,if_false];exact Yk (p (by lia) (by lia))
   rintro r ab ⟨rfl,rfl⟩;exact Yk h
 .simp only[q,Xa,Bool.false_eq_true,if_false];refine Yg (Xx (X7 (I:=fun x r a=>a=st/\∃l o,r=(none,l,o)/\l <=t/\c <=t - l/\x+ 1 <=o) (Q:=fun r a=>a=st/\∃l o,r=(none,l,o)/\l <=t/\c <=t - l/\(t+ 1 <=o\/t - o < c)) ?_ ?_ ⟨rfl,0,1,rfl,by lia,by lia,by lia⟩) ?_)
  .intro x r a _ z Zq;obtain⟨rfl,l,o,rfl,u,h1,h2⟩:=Zq;dsimp only
   by_cases g:o≥t+ 1
   .rw[Y9 g];exact Yk ⟨rfl,l,o,rfl,u,h1,.inl g⟩
   .rw[Y3 g];refine Yg (ask _ _ (by lia) ?_)
    by_cases d:t - o < c
    .simp only[d,Xc,if_true];exact Yk ⟨rfl,l,o,rfl,u,h1,.inr d⟩
    .simp only[d,Xa,Bool.false_eq_true,if_false];exact Yk ⟨rfl,o,_,rfl,by lia,by lia,by lia⟩
  .intro r a Zq;obtain⟨rfl,l,o,rfl,u,h1,h2⟩:=Zq;exact⟨rfl,l,o,rfl,u,h1,.inl (by lia)⟩
  .intro r a Zq;obtain⟨rfl,l,o,rfl,u,h1,h2⟩:=Zq;dsimp only;refine Yg (Xx (aa _ _ _ ?_ (QH h2) (by lia) (by lia)) ?_)
   .intro x lo hi R h1 h2 j p;dsimp only
    by_cases q:lo≥hi
    .rw[Y9 q];exact Yk (h2 q)
    .rw[Y3 q];refine Yg (ask _ _ (by lia) ?_)
     by_cases d:lo+ (hi - lo) / 2 < c
     .simp only[d,Xc,if_true];exact Yk (j (by lia) d)
     .simp only[d,Xa,Bool.false_eq_true,if_false];exact Yk (p (by lia) (by lia))
   rintro r ab ⟨rfl,rfl⟩;exact Yk h
end
section
variable{P:Nat->Nat->Prop}{l zs rx ry:List Nat}
structure Mg(P:Nat->Nat->Prop)(l zs rx ry:List Nat):Prop where
 sx:(zs++rx).Pairwise P
 sy:(zs++ry).Pairwise P
 pm:(zs++(rx++ry)).Perm l
theorem Mg.x{cx:List Nat}(M:Mg P l zs (cx++rx) ry)(h:∀x∈cx,∀y∈ry,P x y):Mg P l (zs++cx) rx ry:=by
 refine⟨by simpa[List.append_assoc] using M.sx,?_,by simpa[List.append_assoc] using M.pm⟩;have a:=M.sx;have b:=M.sy;rw[Yo]at a b;rw[List.append_assoc,Yo,Yo];refine⟨a.1,⟨(Yo.mp a.2.1).1,b.2.1,h⟩,fun u c v d=>?_⟩;rcases Yb.mp d with q|q
 .exact a.2.2 u c v (Xf _ q)
 .exact b.2.2 u c v q
theorem Mg.swap(M:Mg P l zs rx ry):Mg P l zs ry rx:=⟨M.sy,M.sx,(U7 _ Ux).trans M.pm⟩
theorem Mg.y{cy:List Nat}(M:Mg P l zs rx (cy++ry))(h:∀x∈cy,∀y∈rx,P x y):Mg P l (zs++cy) rx ry:=(M.swap.x h).swap
theorem A5(T:∀{i j k},P i j->P j k->P i k)(y:Nat):∀{l:List Nat},l.Pairwise P->∃c,c <=l.length/\∀i x,l[i]?=some x->(P x y↔i < c)
 |[],_=>⟨0,Y6 _,fun i x h=>by simp at h⟩
 |a::l,h=>by
  rw[X2]at h
  by_cases q:P a y
  .obtain⟨c,h1,h2⟩:=A5 T y h.2;refine⟨c+ 1,by simpa using h1,fun i x e=>?_⟩;cases i with
   |zero=>simp at e;subst e;exact⟨fun _=>by lia,fun _=>q⟩
   |succ i=>simp at e;rw[h2 i x e];lia
  .refine⟨0,by lia,fun i x e=>⟨fun p=>?_,fun p=>by lia⟩⟩;cases i with
   |zero=>simp at e;subst e;exact absurd p q
   |succ i=>simp at e;exact absurd (T (h.1 x (Ya e)) p) q
end
section
variable{P:Nat->Nat->Prop}{it:Nat->Keyed}{xs ys:List Nat}{out:Array Keyed}{ia ib k:Nat}
def DB(P:Nat->Nat->Prop)(it:Nat->Keyed)(l:List Nat)(r:Array Keyed):Prop:=∃zs:List Nat,r=(zs.map it).toArray/\zs.Perm l/\zs.Pairwise P
def Mf(P:Nat->Nat->Prop)(it:Nat->Keyed)(xs ys:List Nat)(out:Array Keyed)(ia ib k:Nat):Prop:=
 ∃zs:List Nat,out=(zs.map it).toArray/\Mg P (xs++ys) zs (xs.drop ia) (ys.drop ib)/\k <=zs.length/\ia <=xs.length/\ib <=ys.length
theorem MU(l:List Nat)(i j:Nat):((l.map it).toArray).extract i j=(((l.drop i).take (j - i)).map it).toArray:=by
 simp[List.extract_toArray,List.map_take,List.map_drop]
theorem Mf.len(h:Mf P it xs ys out ia ib k):k+ (xs.length - ia)+ (ys.length - ib) <=xs.length+ ys.length:=by
 obtain⟨zs,_,M,a,_,_⟩:=h;have:=M.pm.length_eq;simp at this;lia
theorem Mf.done(h:Mf P it xs ys out ia ib k)(e:ia=xs.length\/ib=ys.length):DB P it (xs++ys) (out++((xs.map it).toArray).extract ia ((xs.map it).toArray).size++((ys.map it).toArray).extract ib ((ys.map it).toArray).size):=by
 obtain⟨zs,rfl,M,_,_,_⟩:=h;refine⟨zs++(xs.drop ia++ys.drop ib),?_,M.pm,?_⟩
 .rw[MU,MU];simp[Xi]
 .rcases e with rfl|rfl
  .simpa using M.sy
  .simpa using M.sx
theorem Mf.last(h:Mf P it xs ys out ia ib k)(e:ia+ 1=xs.length)(hl:∀x∈xs.drop ia,∀y∈ys,P y x):DB P it (xs++ys) (out++((ys.map it).toArray).extract ib ((ys.map it).toArray).size++((xs.map it).toArray).extract ia ((xs.map it).toArray).size):=by
 obtain⟨zs,rfl,M,_,_,_⟩:=h;refine⟨zs++(ys.drop ib++xs.drop ia),?_,M.swap.pm,?_⟩
 .rw[MU,MU];simp[Xi]
 .have a:=M.sx;have b:=M.sy;rw[Yo]at a b ⊢;refine⟨a.1,Yo.mpr ⟨b.2.1,a.2.1,fun u c v d=>hl v d u (Xz c)⟩,fun u c v d=>?_⟩;rcases Yb.mp d with q|q
  .exact b.2.2 u c v q
  .exact a.2.2 u c v q
theorem Mf.fromY(h:Mf P it xs ys out ia ib k){c:Nat}(hc:ib+ c <=ys.length)(hp:∀i x,i < c->ys[ib+ i]?=some x->∀u∈xs.drop ia,P x u):Mf P it xs ys (out++((ys.map it).toArray).extract ib (ib+ c)) ia (ib+ c) (k+ c):=by
 obtain⟨zs,rfl,M,h1,h2,d⟩:=h;have e:ys.drop ib=(ys.drop ib).take c++ys.drop (ib+ c):=by rw[<-List.drop_drop,YG]
 refine⟨zs++(ys.drop ib).take c,?_,?_,?_,h2,hc⟩
 .rw[MU];simp
 .rw[e]at M;refine M.y fun x a u b=>?_
  obtain⟨i,hi⟩:=YF.mp a;rw[YK]at hi
  split at hi
  .rename_i hic
   rw[X3]at hi;exact hp i x hic hi u b
  .cases hi
 .simp;lia
theorem Mf.fromX(h:Mf P it xs ys out ia ib k){c:Nat}(hc:ia+ c <=xs.length)(hp:∀i x,i < c->xs[ia+ i]?=some x->∀u∈ys.drop ib,P x u):Mf P it xs ys (out++((xs.map it).toArray).extract ia (ia+ c)) (ia+ c) ib (k+ c):=by
 obtain⟨zs,rfl,M,h1,h2,d⟩:=h;have e:xs.drop ia=(xs.drop ia).take c++xs.drop (ia+ c):=by rw[<-List.drop_drop,YG]
 refine⟨zs++(xs.drop ia).take c,?_,?_,?_,hc,d⟩
 .rw[MU];simp
 .rw[e]at M;refine M.x fun x a u b=>?_
  obtain⟨i,hi⟩:=YF.mp a;rw[YK]at hi
  split at hi
  .rename_i hic
   rw[X3]at hi;exact hp i x hic hi u b
  .cases hi
 .simp;lia
theorem Eb{l:List Nat}{i x:Nat}(e:l[i]?=some x):out.push (it x)=out++((l.map it).toArray).extract i (i+ 1):=by
 rw[MU];obtain⟨h,rfl⟩:=Y4.mp e;have:(l.drop i).take (i+ 1 - i)=[l[i]]:=by
  rw[show i+ 1 - i=1 by lia,X8 h];rfl
 rw[this];simp
theorem TM{l:List Nat}{i x:Nat}(e:l[i]?=some x):((l.map it).toArray)[i]?=some (it x):=by simp[e]
end
section
variable{prog:Wt}{w:Wx}{A:Ww}{E:Wq}{s:Wu}{O:KeyOrd}{key:Nat->O.α}{κ:SortKind}{it:Nat->Keyed}{N:Nat}
structure Ma(st st':SortSt):Prop where
 kind:kindOf st'=kindOf st
 arr:arrOf st'=arrOf st
 pend:pendingOf st'=pendingOf st
 fail:failedOf st'=failedOf st
structure MM(O:KeyOrd)(key:Nat->O.α)(N:Nat)(xs ys:List Nat):Prop where
 sx:xs.Pairwise (Pc O key)
 sy:ys.Pairwise (Pc O key)
 lo:∀x∈xs,∀y∈ys,x < y
 bx:∀x∈xs,x < N
 by':∀y∈ys,y < N
structure GA(O:KeyOrd)(key:Nat->O.α)(N:Nat)(xs ys:List Nat):Prop extends MM O key N xs ys where
 first:∀x y,xs[0]?=some x->ys[0]?=some y->Pc O key y x
 last:∀x y,xs[xs.length - 1]?=some x->ys[ys.length - 1]?=some y->Pc O key y x
 nx:0 < xs.length
 ny:0 < ys.length
section
variable{xs ys:List Nat}{out:Array Keyed}{ia ib k:Nat}
theorem GT{l:List Nat}{i x y:Nat}(S:l.Pairwise (Pc O key))(e:l[i]?=some x)(p:Pc O key y x):∀u∈l.drop i,Pc O key y u:=fun u b=>by
 obtain⟨h,rfl⟩:=Y4.mp e;have a:=S.sublist (Ua i l);rw[X8 h]at b a;rw[X2]at a;rcases Yu.mp b with rfl|q
 .exact p
 .exact p.trans (a.1 u q)
theorem AA{l:List Nat}{x y:Nat}(S:l.Pairwise (Pc O key))(e:l[l.length - 1]?=some x)(p:Pc O key x y):∀u∈l,Pc O key u y:=fun u a=>by
 obtain⟨i,hi⟩:=YF.mp a;obtain⟨h,rfl⟩:=Y4.mp hi;obtain⟨h',rfl⟩:=Y4.mp e
 by_cases q:i=l.length - 1
 .subst q;exact p
 .exact(YY.mp S i _ h h' (by lia)).trans p
theorem GA.lastY(T:GA O key N xs ys)(e:ia+ 1=xs.length):∀x∈xs.drop ia,∀y∈ys,Pc O key y x:=fun x a=>by
 have b:xs.drop ia=[xs[ia]'(by lia)]:=by rw[X8 (by lia),List.drop_of_length_le (by lia)]
 rw[b]at a;obtain rfl:=Y8.mp a;exact AA T.sy (Y5 (by have:=T.ny;lia)) (T.last _ _ (by rw[Y4];exact⟨by lia,by congr 1;lia⟩) (Y5 (by have:=T.ny;lia)))
theorem MM.ne(T:MM O key N xs ys){x y:Nat}(hx:x∈xs)(hy:y∈ys):x≠y:=Yr (T.lo x hx y hy)
theorem Ng{l:List Nat}{i x:Nat}(e:l[i]?=some x):x∈l:=Ya e
theorem T7{l:List Nat}{i:Nat}(h:i < l.length):∃x,l[i]?=some x:=⟨_,Y5 h⟩
theorem GA.start(T:GA O key N xs ys){y:Nat}(e:ys[0]?=some y):Mf (Pc O key) it xs ys #[it y] 0 1 1:=by
 have a:Mf (Pc O key) it xs ys #[] 0 0 0:=⟨[],rfl,⟨by simpa using T.sx,by simpa using T.sy,by simp⟩,Yj _,Yj _,Yj _⟩;obtain⟨x,d⟩:=T7 T.nx;have b:=a.fromY (c:=1) (by have:=T.ny;lia) fun i z hi f=>by
  obtain rfl:i=0:=by lia
  rw[XF,e]at f;cases f;exact GT T.sx d (T.first _ _ d e)
 rw[<-Eb e]at b;simpa using b
theorem MM.galR(T:MM O key N xs ys){y:Nat}(hy:y∈ys)(ia n:Nat)(hn:ia+ n <=xs.length):∃c,c <=n/\(∀i,i < n->∃x,x < N/\((xs.map it).toArray)[ia+ i]?=some (it x)/\(if false=true then Tb O key x y else !Tb O key y x)=decide (i < c))/\∀i x,i < n->xs[ia+ i]?=some x->(i < c->Pc O key x y)/\(c <=i->Pc O key y x):=by
 obtain⟨c,h1,h2⟩:=A5 (P:=Pc O key) (fun a b=>a.trans b) y (T.sx.sublist ((Us n (xs.drop ia)).trans (Ua ia xs)));have f:c <=n:=by simp at h1;lia
 have d:∀i x,i < n->xs[ia+ i]?=some x->(Pc O key x y↔i < c):=fun i x hi e=>h2 i x (by rw[YK,Y9 hi,X3];exact e)
 refine⟨c,f,fun i hi=>?_,fun i x hi e=>⟨(d i x hi e).mpr,fun q=>Pc.tot (T.ne (Ng e) hy) fun p=>by have:=(d i x hi e).mp p;lia⟩⟩;obtain⟨x,e⟩:=T7 (l:=xs) (i:=ia+ i) (by lia);refine⟨x,T.bx x (Ng e),TM e,?_⟩;rw[Y3 (by decide)]
 by_cases q:i < c
 .rw[(Pc.ask' (T.lo x (Ng e) y hy)).mpr ((d i x hi e).mpr q)];simp[q]
 .rw[(Pc.ask (T.lo x (Ng e) y hy)).mpr (Pc.tot (T.ne (Ng e) hy) fun p=>q ((d i x hi e).mp p))];simp[q]
theorem MM.galL(T:MM O key N xs ys){x:Nat}(hx:x∈xs)(ib n:Nat)(hn:ib+ n <=ys.length):∃c,c <=n/\(∀i,i < n->∃y,y < N/\((ys.map it).toArray)[ib+ i]?=some (it y)/\(if true=true then Tb O key y x else !Tb O key x y)=decide (i < c))/\∀i y,i < n->ys[ib+ i]?=some y->(i < c->Pc O key y x)/\(c <=i->Pc O key x y):=by
 obtain⟨c,h1,h2⟩:=A5 (P:=Pc O key) (fun a b=>a.trans b) x (T.sy.sublist ((Us n (ys.drop ib)).trans (Ua ib ys)));have f:c <=n:=by simp at h1;lia
 have d:∀i y,i < n->ys[ib+ i]?=some y->(Pc O key y x↔i < c):=fun i y hi e=>h2 i y (by rw[YK,Y9 hi,X3];exact e)
 refine⟨c,f,fun i hi=>?_,fun i y hi e=>⟨(d i y hi e).mpr,fun q=>Pc.tot (T.ne hx (Ng e)).symm fun p=>by have:=(d i y hi e).mp p;lia⟩⟩;obtain⟨y,e⟩:=T7 (l:=ys) (i:=ib+ i) (by lia);refine⟨y,T.by' y (Ng e),TM e,?_⟩;rw[Y9 rfl]
 by_cases q:i < c
 .rw[(Pc.ask (T.lo x hx y (Ng e))).mpr ((d i y hi e).mpr q)];simp[q]
 .rw[(Pc.ask' (T.lo x hx y (Ng e))).mpr (Pc.tot (T.ne hx (Ng e)).symm fun p=>q ((d i y hi e).mp p))];simp[q]
end
theorem Ma.rfl'(st:SortSt):Ma st st:=⟨rfl,rfl,rfl,rfl⟩
theorem Ma.trans{a b c:SortSt}(h1:Ma a b)(h2:Ma b c):Ma a c:=⟨h2.1.trans h1.1,h2.2.trans h1.2,h2.3.trans h1.3,h2.4.trans h1.4⟩
theorem Ml{τ β:Type}{M:Model}{a b:StateT τ Sem β}{Q:β->τ->Prop}{st:τ}{c:Prop}{dc:Decidable c}(h:c)(H:wpS M A E s a Q st):wpS M A E s (if c then a else b) Q st:=by rw[Y9 h];exact H
theorem Mh{τ β:Type}{M:Model}{a b:StateT τ Sem β}{Q:β->τ->Prop}{st:τ}{c:Prop}{dc:Decidable c}(h:¬c)(H:wpS M A E s b Q st):wpS M A E s (if c then a else b) Q st:=by rw[Y3 h];exact H
theorem OG{τ α β:Type}{M:Model}{X:α->StateT τ Sem β}{Q:β->τ->Prop}{st:τ}{c:Prop}{dc:Decidable c}{a b:α}(h:∀g,wpS M A E s (X g) Q st):wpS M A E s (if c then X a else X b) Q st:=by
 split
 .exact h _
 .exact h _
theorem Cf{τ α γ β:Type}{M:Model}{X:α->γ->StateT τ Sem β}{B:StateT τ Sem β}{Q:β->τ->Prop}{st:τ}{c:Prop}{dc:Decidable c}{o:α}{i:γ}(P:α->γ->Prop)(hX:∀a b,P a b->wpS M A E s (X a b) Q st)
  (h1:c->(∀a b,P a b->wpS M A E s (X a b) Q st)->wpS M A E s B Q st) (h0:¬c->P o i):wpS M A E s (if c then B else X o i) Q st:=by
 split
 .exact h1 ‹_› hX
 .exact hX _ _ (h0 ‹_›)
def Pa:Nat->StateT SortSt Sem Unit:=sortPriv%PySem.Builtin.setMinGallop
theorem Co{st:SortSt}{g:Nat}{Q:Unit->SortSt->Prop}(h:∀st',Ma st st'->Q () st'):wpS (model prog w) A E s (Pa g) Q st:=by
 unfold Pa;refine UB (h _ ⟨rfl,rfl,rfl,rfl⟩)
def PX:Array Keyed->Array Keyed->StateT SortSt Sem (Array Keyed):=sortPriv%PySem.Builtin.mergeLo
theorem Sg{st:SortSt}{xs ys:List Nat}{Q:Array Keyed->SortSt->Prop}(C:DP prog w A s κ it N (Tb O key))(hk:kindOf st=κ)(T:GA O key N xs ys)
  (h:∀r st',Ma st st'->DB (Pc O key) it (xs++ys) r->Q r st'):wpS (model prog w) A E s (PX (xs.map it).toArray (ys.map it).toArray) Q st:=by
 unfold PX;refine Yg (Vm (XO ⟨rfl,?_⟩));obtain⟨y0,hy0⟩:=T7 T.ny;have hst:=T.start (it:=it) hy0;refine Yg (M5 (TM hy0) ?_);have zx:(xs.map it).toArray.size=xs.length:=by simp
 have zy:(ys.map it).toArray.size=ys.length:=by simp
 have nx:=T.nx;have ny:=T.ny;dsimp only
 by_cases q1:1=ys.length
 .refine Ml (by rw[zy];simp[q1]) ?_;exact Yk (h _ _ (.rfl' _) (hst.done (.inr q1)))
 refine Mh (by rw[zy];simpa using q1) ?_
 by_cases q2:0+ 1=xs.length
 .refine Ml (by rw[zx];simpa using q2) ?_;exact Yk (h _ _ (.rfl' _) (hst.last q2 (T.lastY q2)))
 refine Mh (by rw [zx]; simpa using q2) ?_;refine Yg (UQ ?_);refine Yg (Xx (X7
  (I:=fun x r st'=>Ma st st'/\∃out ia ib g k,r=(none,out,ia,ib,g)/\Mf (Pc O key) it xs ys out ia ib k/\x <=k/\ia+ 1 < xs.length/\ib < ys.length)
  (Q := fun r st' => Ma st st' /\ ∃ z u, r = (some z, u) /\ DB (Pc O key) it (xs ++ ys) z) ?_ ?_ ⟨.rfl' _, _, _, _, _, _, rfl, hst, by lia, by lia, by lia⟩) ?_)
 case _=>
  intro x r st' _ hx Zq;obtain⟨K, out, ia, ib, g, k, rfl, M, hk', h1, h2⟩:=Zq;dsimp -zeta only;refine Yg (Xx (X7
   (I:=fun x r st'=>Ma st st'/\∃out ia ib t n j,r=(none,out,ia,ib,t,n)/\Mf (Pc O key) it xs ys out ia ib j/\k+ x <=j/\ia+ 1 < xs.length/\ib < ys.length)
   (Q := fun r st' => Ma st st' /\ ((∃ z u, r = (some z, u) /\ DB (Pc O key) it (xs ++ ys) z) \/ ∃ out ia ib t n j, r = (none, out, ia, ib, t, n) /\ Mf (Pc O key) it xs ys out ia ib j /\ k + 1 <= j /\ ia + 1 < xs.length /\ ib < ys.length)) ?_ ?_ ⟨K, _, _, _, _, _, _, rfl, M, by lia, h1, h2⟩) ?_)
  case _=>
   clear K M h1 h2 hk' hst;intro x r st' _ hx Zq;obtain⟨K,out,ia,ib,t,n,j,rfl,M,hj,h1,h2⟩:=Zq;dsimp only;obtain⟨x,ex⟩:=T7 (l:=xs) (i:=ia) (by lia);obtain⟨y,e⟩:=T7 (l:=ys) (i:=ib) (by lia);have lxy:=T.lo _ (Ng ex) _ (Ng e);refine Yg (M5 (TM e) ?_);refine Yg (M5 (TM ex) ?_);refine Yg (ES C (K.kind.trans hk) (T.by' _ (Ng e)) (T.bx _ (Ng ex)) ?_);cases q:Tb O key y x with
   |true=>
    have p:=(Pc.ask lxy).mp q;have M':=M.fromY (c:=1) (by lia) fun i z hi f=>by
     obtain rfl:i=0:=by lia
     rw[Uh,e]at f;cases f;exact GT T.sx ex p
    rw[<-Eb e]at M';refine Ml rfl ?_;refine Yg (M5 (TM e) ?_);rw[zy]
    by_cases q3:ib+ 1=ys.length
    .refine Ml (by simpa using q3) ?_;exact Yk ⟨K,.inl ⟨_,_,rfl,by rw[<-zy];exact M'.done (.inr q3)⟩⟩
    .refine Mh (by simpa using q3) ?_
     split
     .exact Yk ⟨K,.inr ⟨_,_,_,_,_,_,rfl,M',by lia,h1,by lia⟩⟩
     .exact Yk ⟨K,_,_,_,_,_,_,rfl,M',by lia,h1,by lia⟩
   |false=>
    have p:=(Pc.ask' lxy).mp q;have M':=M.fromX (c:=1) (by lia) fun i z hi f=>by
     obtain rfl:i=0:=by lia
     rw[Uh,ex]at f;cases f;exact GT T.sy e p
    rw[<-Eb ex]at M';refine Mh Yv ?_;refine Yg (M5 (TM ex) ?_);rw[zx]
    by_cases q3:ia+ 1+ 1=xs.length
    .refine Ml (by simpa using q3) ?_;exact Yk ⟨K,.inl ⟨_,_,rfl,by rw[<-zx];exact M'.last q3 (T.lastY q3)⟩⟩
    .refine Mh (by simpa using q3) ?_
     split
     .exact Yk ⟨K,.inr ⟨_,_,_,_,_,_,rfl,M',by lia,by lia,h2⟩⟩
     .exact Yk ⟨K,_,_,_,_,_,_,rfl,M',by lia,by lia,h2⟩
  case _=>
   intro r st' Zq;obtain⟨K,out,ia,ib,t,n,j,rfl,M,hj,h1,h2⟩:=Zq;exact⟨K,.inr ⟨_,_,_,_,_,_,rfl,M,by rw[zx,zy]at hj;lia,h1,h2⟩⟩
  case _=>
   clear K M h1 h2 hst;intro r st' Zq;obtain⟨K,⟨z,u,rfl,F⟩|⟨out,ia,ib,t,n,j,rfl,M,hj,h1,h2⟩⟩:=Zq
   .exact Yk ⟨K,_,_,rfl,F⟩
   dsimp -zeta only;refine Yg (Vm (XO ⟨rfl, ?_⟩));refine Yg (Xx (X7
    (I:=fun x r st'=>Ma st st'/\∃out ia ib g t n j,r=(none,out,ia,ib,g,t,n)/\Mf (Pc O key) it xs ys out ia ib j/\k+ 1 <=j/\ia+ 1 < xs.length/\ib < ys.length)
    (Q := fun r st' => Ma st st' /\ ((∃ z u, r = (some z, u) /\ DB (Pc O key) it (xs ++ ys) z) \/ ∃ out ia ib g t n j, r = (none, out, ia, ib, g, t, n) /\ Mf (Pc O key) it xs ys out ia ib j /\ k + 1 <= j /\ ia + 1 < xs.length /\ ib < ys.length)) ?_ ?_ ⟨K, _, _, _, _, _, _, _, rfl, M, by lia, h1, h2⟩) ?_)
   case _=>
    clear K M h1 h2 hj;intro x r st' _ hx Zq;obtain⟨K,out,ia,ib,g,t,n,j,rfl,M,hj,h1,h2⟩:=Zq;dsimp only;obtain⟨y,e⟩:=T7 (l:=ys) (i:=ib) (by lia);generalize g - 1=g1;apply OG (a:=g1) (b:=g);intro g';refine Yg (Co fun st1 K1=>?_);have K2:=K.trans K1;refine Yg (M5 (TM e) ?_);obtain⟨c,hc,hb,hx'⟩:=T.galR (it:=it) (Ng e) ia (xs.length - ia) (by lia);rw[zx,zy];refine Yg (Eu C (K2.kind.trans hk) (T.by' _ (Ng e)) (by lia) hc hb ?_);dsimp only;have y1:∀x,xs[ia+ c]?=some x->Pc O key y x:=fun x ex=>(hx' c x (by have:=(Y4.mp ex).1;lia) ex).2 (Y6 _)
    apply Cf (o:=out) (i:=ia) (fun o1 i1=>∃j1,Mf (Pc O key) it xs ys o1 i1 ib j1/\(∀x,xs[i1]?=some x->Pc O key y x)/\i1+ 1 < xs.length/\k+ 1 <=j1)
    rotate_left
    .intro q0 J;have M1:=M.fromX (c:=c) (by lia) (fun i z hi f=>GT T.sy e ((hx' i z (by lia) f).1 hi))
     by_cases q3:ia+ c+ 1=xs.length
     .refine Ml (by simpa using q3) ?_;exact Yk ⟨K2,.inl ⟨_,_,rfl,by rw[<-zx,<-zy];exact M1.last q3 (T.lastY q3)⟩⟩
     refine Mh (by simpa using q3) ?_
     by_cases q4:ia+ c=xs.length
     .refine Ml (by simpa using q4) ?_;exact Yk ⟨K2,.inl ⟨_,_,rfl,by have:=M1.done (.inl q4);simpa only[zx,zy] using this⟩⟩
     refine Mh (by simpa using q4) ?_;exact J _ _ ⟨_,M1,y1,by lia,by lia⟩
    .intro q0;obtain rfl:c=0:=by lia
     exact⟨_,M,y1,h1,hj⟩
    clear hb hx' y1 hc M h1 hj;intro o1 i1 Zq;obtain⟨j1,M1,y1,l1,l2⟩:=Zq;refine Yg (M5 (TM e) ?_);obtain⟨x1,ex⟩:=T7 (l:=xs) (i:=i1) (by lia);have M2:=M1.fromY (c:=1) (by lia) fun i z hi f=>by
     obtain rfl:i=0:=by lia
     rw[Uh,e]at f;cases f;exact GT T.sx ex (y1 _ ex)
    rw[<-Eb e]at M2
    by_cases q5:ib+ 1=ys.length
    .refine Ml (by simpa using q5) ?_;exact Yk ⟨K2,.inl ⟨_,_,rfl,by have:=M2.done (.inr q5);simpa only[zx,zy] using this⟩⟩
    refine Mh (by simpa using q5) ?_;refine Yg (M5 (TM ex) ?_);obtain⟨d,hd,hb2,hy2⟩:=T.galL (it:=it) (Ng ex) (ib+ 1) (ys.length - (ib+ 1)) (by lia);refine Yg (Eu C (K2.kind.trans hk) (T.bx _ (Ng ex)) (by lia) hd hb2 ?_);dsimp only;have x2:∀y,ys[ib+ 1+ d]?=some y->Pc O key x1 y:=fun y e=>(hy2 d y (by have:=(Y4.mp e).1;lia) e).2 (Y6 _)
    obtain⟨o2,eo2⟩:∃o2,o2=o1.push (it y):=⟨_,rfl⟩;obtain⟨i2,ei2⟩:∃i2,i2=ib+ 1:=⟨_,rfl⟩;rw[<-eo2,<-ei2]at M2;rw[<-ei2]at hy2 x2 hd q5;rw[<-eo2,<-ei2];apply Cf (o:=o2) (i:=i2) (fun o2 i2=>∃j2,Mf (Pc O key) it xs ys o2 i1 i2 j2/\(∀y,ys[i2]?=some y->Pc O key x1 y)/\i2 < ys.length/\k+ 1 <=j2)
    rotate_left
    .intro q6 J;have M3:=M2.fromY (c:=d) (by lia) (fun i z hi f=>GT T.sx ex ((hy2 i z (by lia) f).1 hi))
     by_cases q7:i2+ d=ys.length
     .refine Ml (by simpa using q7) ?_;exact Yk ⟨K2,.inl ⟨_,_,rfl,by have:=M3.done (.inr q7);simpa only[zx,zy] using this⟩⟩
     refine Mh (by simpa using q7) ?_;exact J _ _ ⟨_,M3,x2,by lia,by lia⟩
    .intro q6;obtain rfl:d=0:=by lia
     exact⟨_,M2,x2,by lia,by lia⟩
    clear hb2 hy2 x2 hd M2 M1 q5 y1 l2 ei2 eo2 i2 o2;intro o2 i2 Zq;obtain⟨j2,M3,x2,l3,l4⟩:=Zq;refine Yg (M5 (TM ex) ?_);obtain⟨y2,ey2⟩:=T7 (l:=ys) (i:=i2) l3;have M4:=M3.fromX (c:=1) (by lia) fun i z hi f=>by
     obtain rfl:i=0:=by lia
     rw[Uh,ex]at f;cases f;exact GT T.sy ey2 (x2 _ ey2)
    rw[<-Eb ex]at M4
    by_cases q8:i1+ 1+ 1=xs.length
    .refine Ml (by simpa using q8) ?_;exact Yk ⟨K2,.inl ⟨_,_,rfl,by have:=M4.last q8 (T.lastY q8);simpa only[zx,zy] using this⟩⟩
    refine Mh (by simpa using q8) ?_
    split
    .exact Yk ⟨K2,.inr ⟨_,_,_,_,_,_,_,rfl,M4,by lia,by lia,l3⟩⟩
    .exact Yk ⟨K2,_,_,_,_,_,_,_,rfl,M4,by lia,by lia,l3⟩
   case _=>
    intro r st' Zq;obtain⟨K,out,ia,ib,g,t,n,j,rfl,M,hj,h1,h2⟩:=Zq;exact⟨K,.inr ⟨_,_,_,_,_,_,_,rfl,M,hj,h1,h2⟩⟩
   case _=>
    intro r st' Zq;obtain⟨K,⟨z,u,rfl,F⟩|⟨out,ia,ib,g,t,n,j,rfl,M,hj,h1,h2⟩⟩:=Zq
    .exact Yk ⟨K,_,_,rfl,F⟩
    dsimp -zeta only;refine Yg (Co fun st'' K'=>?_);exact Yk ⟨K.trans K',_,_,_,_,_,rfl,M,by lia,h1,h2⟩
 case _=>
  intro r st' Zq;obtain⟨K,out,ia,ib,g,k,rfl,M,hk',h1,h2⟩:=Zq;have:=M.len;rw[zx,zy]at hk'
  lia
 case _=>
  intro r st' Zq;obtain⟨K,z,u,rfl,F⟩:=Zq;exact Yk (h _ _ K F)
end
section
variable{P:Nat->Nat->Prop}{it:Nat->Keyed}{xs ys:List Nat}{out:Array Keyed}{na nb k:Nat}
def TL(P:Nat->Nat->Prop)(it:Nat->Keyed)(xs ys:List Nat)(out:Array Keyed)(na nb k:Nat):Prop:=
 ∃zs:List Nat,out=(zs.map it).toArray/\Mg (fun a b=>P b a) (xs++ys) zs (xs.take na).reverse (ys.take nb).reverse/\k <=zs.length/\na <=xs.length/\nb <=ys.length
theorem TL.len(h:TL P it xs ys out na nb k):k+ na+ nb <=xs.length+ ys.length:=by
 obtain⟨zs,_,M,a,_,_⟩:=h;have:=M.pm.length_eq;simp at this;lia
theorem TL.res{zs:List Nat}(M:Mg (fun a b=>P b a) (xs++ys) zs (xs.take na).reverse (ys.take nb).reverse):(xs.take na++zs.reverse).Pairwise P/\(ys.take nb++zs.reverse).Pairwise P/\(xs.take na++(ys.take nb++zs.reverse)).Perm (xs++ys):=by
 refine⟨?_,?_,?_⟩
 .have:=XI.mpr M.sx;simpa using this
 .have:=XI.mpr M.sy;simpa using this
 .refine List.Perm.trans ?_ M.pm;rw[<-List.append_assoc];refine Ux.trans ?_;exact(Xr _).append ((Xr _).symm.append (Xr _).symm)
theorem TL.done(h:TL P it xs ys out na nb k)(e:na=0\/nb=0):DB P it (xs++ys) (((xs.map it).toArray).extract 0 na++((ys.map it).toArray).extract 0 nb++out.reverse):=by
 obtain⟨zs,rfl,M,_,_,_⟩:=h;obtain⟨c,b,a⟩:=TL.res M;refine⟨xs.take na++(ys.take nb++zs.reverse),?_,a,?_⟩
 .rw[MU,MU];simp
 .rcases e with rfl|rfl
  .simpa using b
  .simpa using c
theorem TL.first(h:TL P it xs ys out na nb k)(hl:∀y∈ys.take nb,∀x∈xs,P y x):DB P it (xs++ys) (((ys.map it).toArray).extract 0 nb++((xs.map it).toArray).extract 0 na++out.reverse):=by
 obtain⟨zs,rfl,M,_,_,_⟩:=h;obtain⟨b,a,d⟩:=TL.res M;refine⟨ys.take nb++(xs.take na++zs.reverse),?_,List.Perm.trans ?_ d,?_⟩
 .rw[MU,MU];simp
 .rw[<-List.append_assoc,<-List.append_assoc];exact Ux.append_right _
 .rw[Yo]at b a;refine Yo.mpr ⟨a.1,Yo.mpr b,fun u c v e=>?_⟩;rcases Yb.mp e with q|q
  .exact hl u c v (Xo q)
  .exact a.2.2 u c v q
theorem P8{l:List Nat}{n c:Nat}(hc:c <=n):(l.take n).reverse=((l.drop (n - c)).take (n - (n - c))).reverse++(l.take (n - c)).reverse:=by
 rw[<-List.reverse_append]
 congr 1
 rw[<-List.take_add];congr 1;lia
theorem TL.fromX(h:TL P it xs ys out na nb k){c:Nat}(hc:c <=na)(hp:∀i x,na - c <=i->i < na->xs[i]?=some x->∀u∈ys.take nb,P u x):TL P it xs ys (out++(((xs.map it).toArray).extract (na - c) na).reverse) (na - c) nb (k+ c):=by
 obtain⟨zs,rfl,M,h1,h2,d⟩:=h;refine⟨zs++((xs.drop (na - c)).take (na - (na - c))).reverse,?_,?_,?_,by lia,d⟩
 .rw[MU];simp
 .rw[P8 hc]at M;refine M.x fun x a u b=>?_
  rw[VM]at a b;obtain⟨i,hi⟩:=YF.mp a;rw[YK]at hi
  split at hi
  .rename_i hic
   rw[X3]at hi;exact hp _ x (by lia) (by lia) hi u b
  .cases hi
 .simp;lia
theorem TL.fromY(h:TL P it xs ys out na nb k){c:Nat}(hc:c <=nb)(hp:∀i x,nb - c <=i->i < nb->ys[i]?=some x->∀u∈xs.take na,P u x):TL P it xs ys (out++(((ys.map it).toArray).extract (nb - c) nb).reverse) na (nb - c) (k+ c):=by
 obtain⟨zs,rfl,M,h1,h2,d⟩:=h;refine⟨zs++((ys.drop (nb - c)).take (nb - (nb - c))).reverse,?_,?_,?_,h2,by lia⟩
 .rw[MU];simp
 .rw[P8 (l:=ys) hc]at M;refine M.y fun x a u b=>?_
  rw[VM]at a b;obtain⟨i,hi⟩:=YF.mp a;rw[YK]at hi
  split at hi
  .rename_i hic
   rw[X3]at hi;exact hp _ x (by lia) (by lia) hi u b
  .cases hi
 .simp;lia
theorem Bx{l:List Nat}{n x:Nat}(hn:1 <=n)(e:l[n - 1]?=some x):out.push (it x)=out++(((l.map it).toArray).extract (n - 1) n).reverse:=by
 have:=Eb (it:=it) (out:=out) e;rw[this,show n - 1+ 1=n by lia,MU];obtain⟨h,rfl⟩:=Y4.mp e;have a:(l.drop (n - 1)).take (n - (n - 1))=[l[n - 1]]:=by
  rw[show n - (n - 1)=1 by lia,X8 h];rfl
 rw[a];simp
end
section
variable{prog:Wt}{w:Wx}{A:Ww}{E:Wq}{s:Wu}{O:KeyOrd}{key:Nat->O.α}{κ:SortKind}{it:Nat->Keyed}{N:Nat}{xs ys:List Nat}
theorem Eh{l:List Nat}{n x y:Nat}(S:l.Pairwise (Pc O key))(e:l[n - 1]?=some x)(p:Pc O key x y):∀u∈l.take n,Pc O key u y:=fun u a=>by
 obtain⟨i,hi⟩:=YF.mp a;rw[YK]at hi
 split at hi
 .rename_i hin
  obtain⟨h,rfl⟩:=Y4.mp hi;obtain⟨h',rfl⟩:=Y4.mp e
  by_cases q:i=n - 1
  .subst q;exact p
  .exact(YY.mp S i _ h h' (by lia)).trans p
 .cases hi
theorem GA.firstX(T:GA O key N xs ys){nb:Nat}(e:nb=1):∀y∈ys.take nb,∀x∈xs,Pc O key y x:=fun y b x f=>by
 subst e;obtain⟨d,c⟩:=T7 T.ny;obtain⟨g,h1⟩:=T7 T.nx;have:ys.take 1=[d]:=by
  obtain⟨h,rfl⟩:=Y4.mp c;cases ys with
  |nil=>cases h
  |cons a l=>rfl
 rw[this]at b;obtain rfl:=Y8.mp b;exact GT T.sx h1 (T.first _ _ h1 c) x (by simpa using f)
theorem GA.startR(T:GA O key N xs ys){x:Nat}(e:xs[xs.length - 1]?=some x):TL (Pc O key) it xs ys #[it x] (xs.length - 1) ys.length 1:=by
 have a:TL (Pc O key) it xs ys #[] xs.length ys.length 0:=⟨[],rfl,⟨?_,?_,?_⟩,Yj _,Y6 _,Y6 _⟩
 .have b:=a.fromX (c:=1) (by have:=T.nx;lia) fun i z h1 h2 d=>by
   obtain rfl:i=xs.length - 1:=by lia
   rw[e]at d;cases d;rw[YE];exact fun u f=>T.lastY (ia:=xs.length - 1) (by lia) x (YF.mpr ⟨0,by simpa using e⟩) u f
  rw[<-Bx (by have:=T.nx;lia) e]at b;simpa using b
 .simpa[XI] using T.sx
 .simpa[XI] using T.sy
 .simp only[YE,List.nil_append];exact(Xr _).append (Xr _)
def Q6:Array Keyed->Array Keyed->StateT SortSt Sem (Array Keyed):=sortPriv%PySem.Builtin.mergeHi
theorem uD{st:SortSt}{Q:Array Keyed->SortSt->Prop}(C:DP prog w A s κ it N (Tb O key))(hk:kindOf st=κ)(T:GA O key N xs ys)
  (h:∀r st',Ma st st'->DB (Pc O key) it (xs++ys) r->Q r st'):wpS (model prog w) A E s (Q6 (xs.map it).toArray (ys.map it).toArray) Q st:=by
 unfold Q6;refine Yg (Vm (XO ⟨rfl,?_⟩));have zx:(xs.map it).toArray.size=xs.length:=by simp
 have zy:(ys.map it).toArray.size=ys.length:=by simp
 have nx:=T.nx;have ny:=T.ny;obtain⟨x0,hx0⟩:=T7 (l:=xs) (i:=xs.length - 1) (by lia);have hst:=T.startR (it:=it) hx0;refine Yg (M5 (TM (by rw[zx];exact hx0)) ?_);dsimp only;rw[zx,zy]
 by_cases q1:xs.length - 1=0
 .refine Ml (by simpa using q1) ?_;exact Yk (h _ _ (.rfl' _) (hst.done (.inl q1)))
 refine Mh (by simpa using q1) ?_
 by_cases q2:ys.length=1
 .refine Ml (by simpa using q2) ?_;exact Yk (h _ _ (.rfl' _) (hst.first (T.firstX q2)))
 refine Mh (by simpa using q2) ?_;refine Yg (UQ ?_);refine Yg (Xx (X7
  (I:=fun x r st'=>Ma st st'/\∃na nb out g k,r=(none,na,nb,out,g)/\TL (Pc O key) it xs ys out na nb k/\x <=k/\1 <=na/\2 <=nb)
  (Q := fun r st' => Ma st st' /\ ∃ z u, r = (some z, u) /\ DB (Pc O key) it (xs ++ ys) z) ?_ ?_ ⟨.rfl' _, _, _, _, _, _, rfl, hst, by lia, by lia, by lia⟩) ?_)
 case _=>
  intro x r st' _ hx Zq;obtain⟨K, na, nb, out, g, k, rfl, M, hk', h1, h2⟩:=Zq;dsimp -zeta only;refine Yg (Xx (X7
   (I:=fun x r st'=>Ma st st'/\∃na nb out ac bc j,r=(none,na,nb,out,ac,bc)/\TL (Pc O key) it xs ys out na nb j/\k+ x <=j/\1 <=na/\2 <=nb)
   (Q := fun r st' => Ma st st' /\ ((∃ z u, r = (some z, u) /\ DB (Pc O key) it (xs ++ ys) z) \/ ∃ na nb out ac bc j, r = (none, na, nb, out, ac, bc) /\ TL (Pc O key) it xs ys out na nb j /\ k + 1 <= j /\ 1 <= na /\ 2 <= nb)) ?_ ?_ ⟨K, _, _, _, _, _, _, rfl, M, by lia, h1, h2⟩) ?_)
  case _=>
   clear K M h1 h2 hk' hst;intro x r st' _ hx Zq;obtain⟨K,na,nb,out,ac,bc,j,rfl,M,hj,h1,h2⟩:=Zq;dsimp only;have len:=M;obtain⟨-,-,-,-,TR,MI⟩:=len;obtain⟨x,ex⟩:=T7 (l:=xs) (i:=na - 1) (by lia);obtain⟨y,f⟩:=T7 (l:=ys) (i:=nb - 1) (by lia);have lxy:=T.lo _ (Ng ex) _ (Ng f);refine Yg (M5 (TM f) ?_);refine Yg (M5 (TM ex) ?_);refine Yg (ES C (K.kind.trans hk) (T.by' _ (Ng f)) (T.bx _ (Ng ex)) ?_);cases q:Tb O key y x with
   |true=>
    have p:=(Pc.ask lxy).mp q;have M':=M.fromX (c:=1) (by lia) fun i z hi hi2 t=>by
     obtain rfl:i=na - 1:=by lia
     rw[ex]at t;cases t;exact Eh T.sy f p
    rw[<-Bx h1 ex]at M';refine Ml rfl ?_;refine Yg (M5 (TM ex) ?_)
    by_cases q3:na - 1=0
    .refine Ml (by simpa using q3) ?_;exact Yk ⟨K,.inl ⟨_,_,rfl,M'.done (.inl q3)⟩⟩
    .refine Mh (by simpa using q3) ?_
     split
     .exact Yk ⟨K,.inr ⟨_,_,_,_,_,_,rfl,M',by lia,by lia,h2⟩⟩
     .exact Yk ⟨K,_,_,_,_,_,_,rfl,M',by lia,by lia,h2⟩
   |false=>
    have p:=(Pc.ask' lxy).mp q;have M':=M.fromY (c:=1) (by lia) fun i z hi hi2 t=>by
     obtain rfl:i=nb - 1:=by lia
     rw[f]at t;cases t;exact Eh T.sx ex p
    rw[<-Bx (by lia) f]at M';refine Mh Yv ?_;refine Yg (M5 (TM f) ?_)
    by_cases q3:nb - 1=1
    .refine Ml (by simpa using q3) ?_;exact Yk ⟨K,.inl ⟨_,_,rfl,M'.first (T.firstX q3)⟩⟩
    .refine Mh (by simpa using q3) ?_
     split
     .exact Yk ⟨K,.inr ⟨_,_,_,_,_,_,rfl,M',by lia,h1,by lia⟩⟩
     .exact Yk ⟨K,_,_,_,_,_,_,rfl,M',by lia,h1,by lia⟩
  case _=>
   intro r st' Zq;obtain⟨K,na,nb,out,ac,bc,j,rfl,M,hj,h1,h2⟩:=Zq;exact⟨K,.inr ⟨_,_,_,_,_,_,rfl,M,by lia,h1,h2⟩⟩
  case _=>
   clear K M h1 h2 hst;intro r st' Zq;obtain⟨K,⟨z,u,rfl,F⟩|⟨na,nb,out,ac,bc,j,rfl,M,hj,h1,h2⟩⟩:=Zq
   .exact Yk ⟨K,_,_,rfl,F⟩
   dsimp -zeta only;refine Yg (Vm (XO ⟨rfl, ?_⟩));refine Yg (Xx (X7
    (I:=fun x r st'=>Ma st st'/\∃na nb out g ac bc j,r=(none,na,nb,out,g,ac,bc)/\TL (Pc O key) it xs ys out na nb j/\k+ 1 <=j/\1 <=na/\2 <=nb)
    (Q := fun r st' => Ma st st' /\ ((∃ z u, r = (some z, u) /\ DB (Pc O key) it (xs ++ ys) z) \/ ∃ na nb out g ac bc j, r = (none, na, nb, out, g, ac, bc) /\ TL (Pc O key) it xs ys out na nb j /\ k + 1 <= j /\ 1 <= na /\ 2 <= nb)) ?_ ?_ ⟨K, _, _, _, _, _, _, _, rfl, M, by lia, h1, h2⟩) ?_)
   case _=>
    clear K M h1 h2 hj;intro x r st' _ hx Zq;obtain⟨K,na,nb,out,g,ac,bc,j,rfl,M,hj,h1,h2⟩:=Zq;dsimp only;have len:=M;obtain⟨-,-,-,-,TR,MI⟩:=len;obtain⟨y,f⟩:=T7 (l:=ys) (i:=nb - 1) (by lia);generalize g - 1=g1;apply OG (a:=g1) (b:=g);intro g';refine Yg (Co fun st1 K1=>?_);have K2:=K.trans K1;refine Yg (M5 (TM f) ?_);obtain⟨c,hc,hb,hx'⟩:=T.galR (it:=it) (Ng f) 0 na (by lia);refine Yg (Eu C (K2.kind.trans hk) (T.by' _ (Ng f)) (by lia) hc hb ?_);dsimp only;have hx2:∀i x,i < na->xs[i]?=some x->(i < c->Pc O key x y)/\(c <=i->Pc O key y x):=fun i x hi e=>hx' i x hi (by rw[XF];exact e)
    have y1:∀x,1 <=c->xs[c - 1]?=some x->Pc O key x y:=fun x h1 ex=>(hx2 (c - 1) x (by lia) ex).1 (by lia)
    clear hx' hb;obtain⟨d1,ed1⟩:∃d1,d1=na - c:=⟨_,rfl⟩;rw[<-ed1];apply Cf (o:=out) (i:=na) (fun o1 n1=>∃j1,TL (Pc O key) it xs ys o1 n1 nb j1/\(∀x,xs[n1 - 1]?=some x->Pc O key x y)/\1 <=n1/\k+ 1 <=j1)
    rotate_left
    .intro q0 J;have M1:=M.fromX (c:=na - c) (by lia) (fun i z hi hi2 t=>Eh T.sy f ((hx2 i z hi2 t).2 (by lia)));rw[show na - (na - c)=c by lia]at M1
     by_cases q3:c=0
     .refine Ml (by simpa using q3) ?_;exact Yk ⟨K2,.inl ⟨_,_,rfl,M1.done (.inl q3)⟩⟩
     refine Mh (by simpa using q3) ?_;exact J _ _ ⟨_,M1,fun x ex=>y1 x (by lia) ex,by lia,by lia⟩
    .intro q0;obtain rfl:c=na:=by lia
     exact⟨_,M,fun x ex=>y1 x h1 ex,h1,hj⟩
    clear hx2 y1 hc M h1 hj ed1 TR MI;intro o1 n1 Zq;obtain⟨j1,M1,y1,l1,l2⟩:=Zq;have len:=M1;obtain⟨-,-,-,-,TR,MI⟩:=len;refine Yg (M5 (TM f) ?_);obtain⟨x1,ex⟩:=T7 (l:=xs) (i:=n1 - 1) (by lia);have M2:=M1.fromY (c:=1) (by lia) fun i z hi hi2 t=>by
     obtain rfl:i=nb - 1:=by lia
     rw[f]at t;cases t;exact Eh T.sx ex (y1 _ ex)
    rw[<-Bx (by lia) f]at M2
    by_cases q5:nb - 1=1
    .refine Ml (by simpa using q5) ?_;exact Yk ⟨K2,.inl ⟨_,_,rfl,M2.first (T.firstX q5)⟩⟩
    refine Mh (by simpa using q5) ?_;refine Yg (M5 (TM ex) ?_);obtain⟨o2,eo2⟩:∃o2,o2=o1.push (it y):=⟨_,rfl⟩;obtain⟨n,en2⟩:∃n,n=nb - 1:=⟨_,rfl⟩;have l3:2 <=n:=by lia
    rw[<-eo2,<-en2]at M2;rw[<-en2];obtain⟨d,hd,hb2,hy2⟩:=T.galL (it:=it) (Ng ex) 0 n (by lia);refine Yg (Eu C (K2.kind.trans hk) (T.bx _ (Ng ex)) (by lia) hd hb2 ?_);dsimp only;have hy3:∀i y,i < n->ys[i]?=some y->(i < d->Pc O key y x1)/\(d <=i->Pc O key x1 y):=fun i y hi e=>hy2 i y hi (by rw[XF];exact e)
    have x2:∀y,1 <=d->ys[d - 1]?=some y->Pc O key y x1:=fun y h1 f=>(hy3 (d - 1) y (by lia) f).1 (by lia)
    clear hy2 hb2;obtain⟨d2,ed2⟩:∃d2,d2=n - d:=⟨_,rfl⟩;rw[<-ed2,<-eo2];apply Cf (o:=o2) (i:=n) (fun o2 n=>∃j2,TL (Pc O key) it xs ys o2 n1 n j2/\(∀y,ys[n - 1]?=some y->Pc O key y x1)/\2 <=n/\k+ 1 <=j2)
    rotate_left
    .intro q6 J;have M3:=M2.fromY (c:=n - d) (by lia) (fun i z hi hi2 t=>Eh T.sx ex ((hy3 i z hi2 t).2 (by lia)));rw[show n - (n - d)=d by lia]at M3
     by_cases q7:d=1
     .refine Ml (by simpa using q7) ?_;exact Yk ⟨K2,.inl ⟨_,_,rfl,M3.first (T.firstX q7)⟩⟩
     refine Mh (by simpa using q7) ?_
     by_cases q8:d=0
     .refine Ml (by simpa using q8) ?_;exact Yk ⟨K2,.inl ⟨_,_,rfl,M3.done (.inr q8)⟩⟩
     refine Mh (by simpa using q8) ?_;exact J _ _ ⟨_,M3,fun y f=>x2 y (by lia) f,by lia,by lia⟩
    .intro q6;obtain rfl:d=n:=by lia
     exact⟨_,M2,fun y f=>x2 y (by lia) f,l3,by lia⟩
    clear hy3 x2 hd M2 M1 ed2 q5 y1 l2 l3 MI en2 eo2 o2 n;intro o2 n Zq;obtain⟨j2,M3,x2,l3,l4⟩:=Zq;refine Yg (M5 (TM ex) ?_);obtain⟨y2,ey2⟩:=T7 (l:=ys) (i:=n - 1) (by obtain⟨-,-,-,-,-,Gj⟩:=M3;lia);have M4:=M3.fromX (c:=1) (by lia) fun i z hi hi2 t=>by
     obtain rfl:i=n1 - 1:=by lia
     rw[ex]at t;cases t;exact Eh T.sy ey2 (x2 _ ey2)
    rw[<-Bx l1 ex]at M4
    by_cases q9:n1 - 1=0
    .refine Ml (by simpa using q9) ?_;exact Yk ⟨K2,.inl ⟨_,_,rfl,M4.done (.inl q9)⟩⟩
    refine Mh (by simpa using q9) ?_
    split
    .exact Yk ⟨K2,.inr ⟨_,_,_,_,_,_,_,rfl,M4,by lia,by lia,l3⟩⟩
    .exact Yk ⟨K2,_,_,_,_,_,_,_,rfl,M4,by lia,by lia,l3⟩
   case _=>
    intro r st' Zq;obtain⟨K,na,nb,out,g,ac,bc,j,rfl,M,hj,h1,h2⟩:=Zq;exact⟨K,.inr ⟨_,_,_,_,_,_,_,rfl,M,hj,h1,h2⟩⟩
   case _=>
    intro r st' Zq;obtain⟨K,⟨z,u,rfl,F⟩|⟨na,nb,out,g,ac,bc,j,rfl,M,hj,h1,h2⟩⟩:=Zq
    .exact Yk ⟨K,_,_,rfl,F⟩
    dsimp -zeta only;refine Yg (Co fun st'' K'=>?_);exact Yk ⟨K.trans K',_,_,_,_,_,rfl,M,by lia,h1,h2⟩
 case _=>
  intro r st' Zq;obtain⟨K,na,nb,out,g,k,rfl,M,hk',h1,h2⟩:=Zq;have:=M.len
  lia
 case _=>
  intro r st' Zq;obtain⟨K,z,u,rfl,F⟩:=Zq;exact Yk (h _ _ K F)
end
theorem O5{α:Type}(b:Nat):∀ (ms:List α) (n:Nat) (v:Array α),b+ n+ ms.length <=v.size->
  (ms.zipIdx n).foldl (fun a x=>a.setIfInBounds (b+ x.2) x.1) v=(v.toList.take (b+ n)++ms++v.toList.drop (b+ n+ ms.length)).toArray
 |[],n,v,h=>by simp
 |m::ms,n,v,h=>by
  rw[List.zipIdx_cons,List.foldl_cons];have hz:b+ (n+ 1)+ ms.length <=(v.setIfInBounds (b+ n) m).size:=by simp at h ⊢;lia
  refine(O5 b ms (n+ 1) _ hz).trans ?_
  congr 1
  have c:b+ n < v.toList.length:=by simp at h ⊢;lia
  rw[Vw];have f:(v.toList.set (b+ n) m).take (b+ (n+ 1))=v.toList.take (b+ n)++[m]:=by
   rw[show b+ (n+ 1)=b+ n+ 1 by lia,List.take_set,XH c,W8 _ _ (by simp;lia)];have d:b+ n - min (b+ n) v.size=0:=by simp at c;lia
   simp[d]
  have e:(v.toList.set (b+ n) m).drop (b+ (n+ 1)+ ms.length)=v.toList.drop (b+ n+ (m::ms).length):=by
   rw[List.drop_set_of_lt (by lia)];congr 1;simp;lia
  rw[f,e];simp
section
variable{prog:Wt}{w:Wx}{A:Ww}{E:Wq}{s:Wu}{O:KeyOrd}{key:Nat->O.α}{κ:SortKind}{it:Nat->Keyed}{N:Nat}
theorem Lv{p X q:List Nat}{i:Nat}(h:i < X.length):(((p++X++q).map it).toArray)[p.length+ i]?=((X.map it).toArray)[i]?:=by
 simp[XQ,h]
theorem Qs{st:SortSt}{p X Y q:List Nat}{i pw pw':Nat}{Q:Bool->SortSt->Prop}(C:DP prog w A s κ it N (Tb O key))(S:MX κ it (p++X++Y++q) st)(T:MM O key N X Y)
  (nx:0 < X.length) (ny:0 < Y.length) (e1:(pendingOf st)[i]?=some (p.length,X.length,pw)) (e2:(pendingOf st)[i+ 1]?=some (p.length+ X.length,Y.length,pw'))
  (h:∀Z st',Z.Perm (X++Y)->Z.Pairwise (Pc O key)->MX κ it (p++Z++q) st'->pendingOf st'=((pendingOf st).setIfInBounds i (p.length,X.length+ Y.length,pw)).eraseIdxIfInBounds (i+ 1)->Q true st'):
  wpS (model prog w) A E s (mergeAt' i) Q st:=by
 unfold mergeAt';refine Yg (UQ ?_);have ar:(sortPriv%PySem.Builtin.SortState.a) st=((p++X++Y++q).map it).toArray:=S.arr;rw[e1,e2,ar];dsimp only;obtain⟨y0,g⟩:=T7 ny;obtain⟨xl,n⟩:=T7 (l:=X) (i:=X.length - 1) (by lia);refine Yg (UB (f:=fun _=>_) ?_);have atX:∀i,i < X.length->(((p++X++Y++q).map it).toArray)[p.length+ i]?=((X.map it).toArray)[i]?:=fun i hi=>by rw[List.append_assoc];exact Lv hi
 have atY:∀i,i < Y.length->(((p++X++Y++q).map it).toArray)[p.length+ X.length+ i]?=((Y.map it).toArray)[i]?:=fun i hi=>by
  have:=Lv (it:=it) (p:=p++X) (X:=Y) (q:=q) hi;rwa [List.length_append]at this
 refine Yg (M5 (x:=it y0) (by have:=atY 0 ny;rw[Uh]at this;rw[this];exact TM g) ?_);obtain⟨c,hc,hb,hx'⟩:=T.galR (it:=it) (Ng g) 0 X.length (by lia);have hx:∀i x,X[i]?=some x->(i < c->Pc O key x y0)/\(c <=i->Pc O key y0 x):=fun i x e=>hx' i x (Y4.mp e).1 (by rw[XF];exact e)
 refine Yg (Eu C S.kind (T.by' _ (Ng g)) nx hc (fun i hi => by
  obtain ⟨x, h1, h2, u⟩ := hb i hi;exact ⟨x, h1, by rw [atX i hi]; rwa [XF] at h2, u⟩) ?_)
 dsimp only
 by_cases q1:X.length - c=0
 .rw[Y9 (by simpa using q1)];obtain rfl:c=X.length:=by lia
  refine Yk (h (X++Y) _ (.refl _) (Yo.mpr ⟨T.sx,T.sy,fun x h1 y h2=>?_⟩) ⟨S.kind,S.ok,by rw[<-List.append_assoc p X Y]⟩ rfl);obtain⟨i,e⟩:=YF.mp h1;exact GT T.sy g ((hx i x e).1 (Y4.mp e).1) y h2
 rw[Y3 (by simpa using q1)];refine Yg (M5 (x:=it xl) (by rw[show p.length+ c+ (X.length - c) - 1=p.length+ (X.length - 1) by lia,atX _ (by lia)];exact TM n) ?_);obtain⟨d,hd,hb2,t⟩:=T.galL (it:=it) (Ng n) 0 Y.length (by lia);have hy:∀i y,Y[i]?=some y->(i < d->Pc O key y xl)/\(d <=i->Pc O key xl y):=fun i y e=>t i y (Y4.mp e).1 (by rw[XF];exact e)
 refine Yg (Eu C S.kind (T.bx _ (Ng n)) (by lia) hd (fun i hi => by
  obtain ⟨x, h1, h2, u⟩ := hb2 i hi;exact ⟨x, h1, by rw [atY i hi]; rwa [XF] at h2, u⟩) ?_)
 dsimp only
 by_cases q2:d=0
 .exfalso
  subst q2;exact((hy 0 y0 g).2 (Y6 _)).no ((hx _ _ n).2 (by lia))
 rw[Y3 (by simpa using q2)];have ex:(((p++X++Y++q).map it).toArray).extract (p.length+ c) (p.length+ X.length)=((X.drop c).map it).toArray:=by
  rw[MU]
  congr 2
  rw[List.append_assoc,List.append_assoc,<-List.drop_drop,List.drop_left,Vi hc,Ur (by rw[X9];lia),Xi (by rw[X9];lia)]
 have ey:(((p++X++Y++q).map it).toArray).extract (p.length+ X.length) (p.length+ X.length+ d)=((Y.take d).map it).toArray:=by
  rw[MU]
  congr 2
  rw[List.append_assoc (p++X),<-List.length_append,List.drop_left,Ur (by lia),VU]
 rw[ex,ey];have T':GA O key N (X.drop c) (Y.take d):=
  ⟨⟨T.sx.sublist (Ua _ _), T.sy.sublist (Us _ _), fun x h1 y h2 => T.lo x (Xz h1) y (Xo h2), fun x h1 => T.bx x (Xz h1), fun y h2 => T.by' y (Xo h2)⟩,
   (fun x y a1 o => by
    rw [X3] at a1;rw [YK, Y9 (by lia), g] at o;cases o;exact (hx _ x a1).2 (by lia)),
   (fun x y a1 o => by
    rw[X9,X3,show c+ (X.length - c - 1)=X.length - 1 by lia,n]at a1;cases a1;rw[YK]at o
    split at o
    .rename_i hlt
     exact(hy _ y o).1 hlt
    .cases o),
   by rw [X9]; lia, by rw [YC]; lia⟩
 have fin:∀ (r:Array Keyed) (b:SortSt),DB (Pc O key) it (X.drop c++Y.take d) r->kindOf b=κ->failedOf b=none->arrOf b=((p++X++Y++q).map it).toArray->
   ∃Z,Z.Perm (X++Y)/\Z.Pairwise (Pc O key)/\r.toList.zipIdx.foldl (fun a x=>match x with|(p',j)=>a.setIfInBounds (p.length+ c+ j) p') (arrOf b)=((p++Z++q).map it).toArray:=fun r b F h1 h2 u=>by
  obtain⟨zs,rfl,pm,srt⟩:=F;refine⟨X.take c++zs++Y.drop d,?_,?_,?_⟩
  .have e:X++Y=X.take c++(X.drop c++Y.take d)++Y.drop d:=by rw[<-List.append_assoc (X.take c),YG,List.append_assoc,YG]
   rw[e];exact(pm.append_left _).append_right _
  .have mz:∀z∈zs,z∈X.drop c\/z∈Y.take d:=fun z hz=>Yb.mp (pm.mem_iff.mp hz)
   have sX:=Yo.mp (by rw[YG];exact T.sx:(X.take c++X.drop c).Pairwise (Pc O key));have sY:=Yo.mp (by rw[YG];exact T.sy:(Y.take d++Y.drop d).Pairwise (Pc O key));have xy:∀x∈X.take c,∀y∈Y,Pc O key x y:=fun x h1 y h2=>by
    obtain⟨i,e⟩:=YF.mp h1;rw[YK]at e
    split at e
    .rename_i hic
     exact GT T.sy g ((hx i x e).1 hic) y h2
    .cases e
   have yx:∀y∈Y.drop d,∀x∈X,Pc O key x y:=fun y h1=>by
    obtain⟨i,e⟩:=YF.mp h1;rw[X3]at e;exact AA T.sx n ((hy _ y e).2 (by lia))
   rw[List.append_assoc,Yo,Yo];refine⟨sX.1,⟨srt,sY.2.1,fun z hz y t=>?_⟩,fun x h1 z hz=>?_⟩
   .rcases mz z hz with q|q
    .exact yx y t z (Xz q)
    .exact sY.2.2 z q y t
   .rcases Yb.mp hz with q|q
    .rcases mz z q with q|q
     .exact sX.2.2 x h1 z q
     .exact xy x h1 z (Xo q)
    .exact xy x h1 z (Xz q)
  .have hl:=pm.length_eq;rw[List.length_append,X9,YC,U5 hd]at hl;have:=O5 (p.length+ c) (zs.map it) 0 (arrOf b) (by rw[u];simp;lia);refine Eq.trans this ?_;rw[u]
   congr 1
   rw[XX,<-List.map_take,<-List.map_drop,<-Yd,<-Yd,Y1]
   congr 1
   rw[Uh,hl,show p.length+ c+ (X.length - c+ d)=p.length+ (X.length+ d) by lia,List.append_assoc p X,List.append_assoc p (X++Y),List.append_assoc X,List.take_length_add_append,Vq,Vq,Ur hc,Vi hd];simp[List.append_assoc]
 by_cases q3:X.length - c <=d
 case' pos=>
  rw[Y9 q3];refine Yg (Sg C S.kind T' fun r b K F=>?_)
 case' neg=>
  rw[Y3 q3];refine Yg (uD C S.kind T' fun r b K F=>?_)
 all_goals
  obtain⟨Z,z1,z2,z3⟩:=fin r b F (K.kind.trans S.kind) (K.fail.trans S.ok) K.arr;refine Yg (UB ?_);refine Yg (UQ ?_);have ok:((sortPriv%PySem.Builtin.SortState.failed) b)=none:=K.fail.trans S.ok;refine Yk ?_;dsimp only;rw[ok];exact h Z _ z1 z2 ⟨K.kind.trans S.kind,rfl,z3⟩ K.pend
end
section
variable{it:Nat->Keyed}
theorem Dq{α:Type}{a M c:List α}{k:Nat}:(a++M++c)[k]?=if k < a.length then a[k]? else if k < a.length+ M.length then M[k - a.length]? else c[k - a.length - M.length]?:=by
 rw[List.append_assoc,XQ]
 split
 .rfl
 .rw[XQ]
  by_cases h:k - a.length < M.length
  .rw[Y9 h,Y9 (by lia)]
  .rw[Y3 h,Y3 (by lia)]
theorem ZG{a M c:List Nat}{i j:Nat}(hi:i=a.length)(hj:j=a.length+ M.length):mirror (((a++M++c).map it).toArray) i j ((j - i) / 2)=((a++M.reverse++c).map it).toArray:=by
 subst hi;subst hj;apply Array.ext_getElem?;intro k;rw[getElem?_mirror_all (by simp)];simp only[W9,Yf];rw[Dq,Dq,Dq,Wi]
 by_cases h1:k < a.length
 .rw[Y3 (by lia),Y9 h1,Y9 h1]
 .by_cases h2:k < a.length+ M.length
  .rw[Y9 (by lia),Y3 (by lia),Y9 (by lia),Y3 h1,Y9 h2,List.getElem?_reverse (by lia)]
   congr 2;lia
  .rw[Y3 (by lia),Y3 h1,Y3 h2,Y3 h1,Y3 h2]
theorem wG{a B c:List Nat}{e k d:Nat}(hk:k=a.length+ B.length)(hd:d=B.length):bubble (((a++(B++[e])++c).map it).toArray) k d=((a++([e]++B)++c).map it).toArray:=by
 subst hk;subst hd;apply Array.ext_getElem?;intro k;rw[getElem?_bubble (by simp) _ (by lia)];simp only[W9,Yf];rw[Dq,Dq,Dq,Dq];simp only[List.length_append,V7]
 by_cases h1:k < a.length
 .rw[Y3 (by lia),Y3 (by lia),Y9 h1,Y9 h1]
 .by_cases h2:k=a.length
  .subst h2;rw[Y9 (by lia),Y3 (by lia),Y9 (by lia),Y3 (by lia),Y9 (by lia)];simp
  .by_cases h3:k < a.length+ (B.length+ 1)
   .rw[Y3 (by lia),Y9 (by lia),Y3 (by lia),Y9 (by lia),Y3 (by lia),Y9 (by lia)];rw[VF (by lia),Xp (by simp;lia)]
    congr 2;simp;lia
   .rw[Y3 (by lia),Y3 (by lia),Y3 (by lia),Y3 (by lia),Y3 (by lia),Y3 (by lia)]
    congr 2;lia
end
section
variable{prog:Wt}{w:Wx}{A:Ww}{E:Wq}{s:Wu}{O:KeyOrd}{key:Nat->O.α}{κ:SortKind}{it:Nat->Keyed}{N:Nat}
structure T6(κ:SortKind)(it:Nat->Keyed)(pd:Array (Nat×Nat×Nat))(l:List Nat)(st:SortSt):Prop extends MX κ it l st where
 pend:pendingOf st=pd
variable{pd:Array (Nat×Nat×Nat)}
theorem EL{st:SortSt}{l:List Nat}{i j x y:Nat}{Q:Option Bool->SortSt->Prop}(C:DP prog w A s κ it N (Tb O key))(S:T6 κ it pd l st)(hi:l[i]?=some x)(hj:l[j]?=some y)(hx:x < N)(hy:y < N)(h:Q (some (Tb O key x y)) st):
  wpS (model prog w) A E s (ltAt' i j) Q st:=by
 rw[ltAt'_eq];refine Yg (UQ ?_);have b:(sortPriv%PySem.Builtin.SortState.a) st=(l.map it).toArray:=S.arr;dsimp only;rw[show arrOf st=(l.map it).toArray from S.arr];refine Yg (M5 (TM hi) ?_);refine Yg (M5 (TM hj) ?_);exact ES C S.kind hx hy h
theorem An{st:SortSt}{a M c:List Nat}{i j:Nat}{Q:Unit->SortSt->Prop}(S:T6 κ it pd (a++M++c) st)(hi:i=a.length)(hj:j=a.length+ M.length)(h:∀st',T6 κ it pd (a++M.reverse++c) st'->Q () st'):
  wpS (model prog w) A E s (reverseSlice' i j) Q st:=by
 rw[reverseSlice'_eq];refine UB (h _ ⟨⟨S.kind,S.ok,?_⟩,S.pend⟩);show mirror (arrOf st) i j ((j - i) / 2)=_;rw[show arrOf st=_ from S.arr];exact ZG hi hj
theorem uW{st:SortSt}{a B c:List Nat}{e k d:Nat}{Q:Unit->SortSt->Prop}(S:T6 κ it pd (a++(B++[e])++c) st)(hk:k=a.length+ B.length)(hd:d=a.length)(h:∀st',T6 κ it pd (a++([e]++B)++c) st'->Q () st'):
  wpS (model prog w) A E s (moveDown' k d) Q st:=by
 rw[moveDown'_eq];refine UB (h _ ⟨⟨S.kind,S.ok,?_⟩,S.pend⟩);show bubble (arrOf st) k (k - d)=_;rw[show arrOf st=_ from S.arr];exact wG hk (by lia)
def RH(R:List Nat):Prop:=R.Pairwise (· < ·)
theorem Zp{st:SortSt}{p U R:List Nat}{lo n ok:Nat}{Q:Bool->SortSt->Prop}(C:DP prog w A s κ it N (Tb O key))(S:T6 κ it pd (p++U++R) st)(hp:lo=p.length)(hU:ok=U.length)(h1:1 <=ok)(hn:ok <=n)(hR:n <=U.length+ R.length)
  (sU:U.Pairwise (Pc O key)) (rR:RH R) (uR:∀u∈U,∀r∈R,u < r) (bU:∀u∈U,u < N) (bR:∀r∈R,r < N)
  (h:∀V st',T6 κ it pd (p++V++R.drop (n - ok)) st'->V.Pairwise (Pc O key)->V.Perm (U++R.take (n - ok))->Q true st'):wpS (model prog w) A E s (binarySort' lo n ok) Q st:=by
 rw [binarySort'_eq, show max ok 1 = ok by lia];refine Yg (Xx (X7 (I := fun k c st' => c = (none, ()) /\ ∃ V, T6 κ it pd (p ++ V ++ R.drop (k - ok)) st' /\ V.Pairwise (Pc O key) /\ V.Perm (U ++ R.take (k - ok)))
  (Q := fun c st' => c = (none, ()) /\ ∃ V, T6 κ it pd (p ++ V ++ R.drop (n - ok)) st' /\ V.Pairwise (Pc O key) /\ V.Perm (U ++ R.take (n - ok))) ?step ?fin ⟨rfl, U, by simpa using S, sU, by simp⟩) ?post)
 case post=>
  intro c st' Zq;obtain⟨rfl,V,j,o,g⟩:=Zq;exact Yk (h V st' j o g)
 case fin=>
  intro c st' Zq;obtain⟨hc,V,j,o,g⟩:=Zq;rw[show max ok n=n by lia]at j g;exact⟨hc,V,j,o,g⟩
 case step=>
  intro k c st' hak hkn Zq;obtain⟨rfl,V,j,o,g⟩:=Zq;dsimp only;have lV:V.length=k:=by have:=g.length_eq;simp at this;lia
  obtain⟨e,ee⟩:=T7 (l:=R) (i:=k - ok) (by lia);have eN:e < N:=bR e (Ng ee);have dr:R.drop (k - ok)=e::R.drop (k+ 1 - ok):=by
   obtain⟨hh,rfl⟩:=Y4.mp ee;rw[X8 hh];congr 2;lia
  have mV:∀v∈V,v < e/\v < N:=fun v hv=>by
   rcases Yb.mp (g.mem_iff.mp hv) with q|q
   .exact⟨uR v q e (Ng ee),bU v q⟩
   .obtain⟨i,hi⟩:=YF.mp q;rw[YK]at hi
    split at hi
    .rename_i hik
     obtain⟨b1,rfl⟩:=Y4.mp hi;obtain⟨b2,rfl⟩:=Y4.mp ee;exact⟨YY.mp rR _ _ b1 b2 hik,bR _ (Xw _)⟩
    .cases hi
  obtain ⟨c0, hc0, f⟩ := A5 (P := Pc O key) (fun a b => a.trans b) e o;rw [dr] at j;refine Yg (Xx (X7 (I := fun x c d => d = st' /\ ∃ l r, c = (none, l, r) /\ l <= c0 /\ c0 <= r /\ r <= k /\ r - l <= k - x)
   (Q := fun c d => d = st' /\ c = (none, c0, c0)) ?istep ?ifin ⟨rfl, 0, k, rfl, by lia, by lia, by lia, by lia⟩) ?ipost)
  case ifin=>
   intro c d Zq;obtain⟨rfl,l,r,rfl,a1,a2,a3,a4⟩:=Zq;obtain rfl:l=c0:=by lia
   obtain rfl:r=l:=by lia
   exact⟨rfl,rfl⟩
  case istep=>
   intro x c d _ hxk Zq;obtain⟨rfl,l,r,rfl,a1,a2,a3,a4⟩:=Zq;dsimp only
   by_cases hge:l≥r
   .rw[Y9 hge];obtain rfl:l=c0:=by lia
    obtain rfl:r=l:=by lia
    exact Yk ⟨rfl,rfl⟩
   .rw[Y3 hge];obtain⟨v,t⟩:=T7 (l:=V) (i:=(l+ r) / 2) (by lia);refine Yg (EL (x:=e) (y:=v) C j (by rw[Dq,Y3 (by lia),Y3 (by lia),show lo+ k - p.length - V.length=0 by lia];rfl) (by rw[Dq,Y3 (by lia),Y9 (by lia),show lo+ (l+ r) / 2 - p.length=(l+ r) / 2 by lia];exact t) eN (mV v (Ng t)).2 ?_);cases q:Tb O key e v with
    |true=>
     have:=(f _ v t);have p1:=(Pc.ask (mV v (Ng t)).1).mp q;have:¬(l+ r) / 2 < c0:=fun z=>(this.mpr z).no p1
     simp only[if_true];exact Yk ⟨rfl,l,(l+ r) / 2,rfl,a1,by lia,by lia,C0 a4 (QR (by lia))⟩
    |false=>
     have:=(f _ v t).mp ((Pc.ask' (mV v (Ng t)).1).mp q);simp only[Bool.false_eq_true,if_false];exact Yk ⟨rfl,(l+ r) / 2+ 1,r,rfl,by lia,a2,a3,C0 a4 (yJ (by lia))⟩
  case ipost=>
   rintro c d ⟨rfl,rfl⟩;dsimp only;have S2:T6 κ it pd ((p++V.take c0)++(V.drop c0++[e])++R.drop (k+ 1 - ok)) d:=by
    have e:p++V++e::R.drop (k+ 1 - ok)=(p++V.take c0)++(V.drop c0++[e])++R.drop (k+ 1 - ok):=by
     rw[List.append_assoc p (V.take c0),<-List.append_assoc (V.take c0),YG];simp
    rwa [e]at j
   refine Yg (uW S2 (by simp;lia) (by simp;lia) fun st3 S3=>Yk ⟨rfl,V.take c0++([e]++V.drop c0),?_,?_,?_⟩)
   .simpa[List.append_assoc] using S3
   .have aa:=Yo.mp (by rw[YG];exact o:(V.take c0++V.drop c0).Pairwise (Pc O key));have hlo:∀v∈V.take c0,Pc O key v e:=fun v hv=>by
     obtain⟨i,hi⟩:=YF.mp hv;rw[YK]at hi
     split at hi
     .rename_i hik;exact(f i v hi).mpr hik
     .cases hi
    have hhi:∀v∈V.drop c0,Pc O key e v:=fun v hv=>by
     obtain⟨i,hi⟩:=YF.mp hv;rw[X3]at hi;exact Pc.tot (by have:=(mV v (Ng hi)).1;lia) fun z=>by have:=(f _ v hi).mp z;lia
    refine Yo.mpr ⟨aa.1,X2.mpr ⟨hhi,aa.2.1⟩,fun a ha b hb=>?_⟩;rcases Yu.mp hb with rfl|hb
    .exact hlo a ha
    .exact aa.2.2 a ha b hb
   .have et:R.take (k+ 1 - ok)=R.take (k - ok)++[e]:=by
     obtain⟨hh,rfl⟩:=Y4.mp ee;rw[show k+ 1 - ok=k - ok+ 1 by lia,XH hh]
    refine List.Perm.trans (l₂:=V++[e]) ?_ (by rw[et,<-List.append_assoc];exact g.append_right [e]);refine List.Perm.trans (U7 _ Ux) ?_;rw[<-List.append_assoc,YG]
end
section
variable{O:KeyOrd}{key:Nat->O.α}
structure R4(O:KeyOrd)(key:Nat->O.α)(R:List Nat)(n neq:Nat)(W G:List Nat):Prop where
 srt:(W++G.reverse).Pairwise (fun a b=>Pc O key b a)
 pm:(W++G).Perm (R.take n)
 len:G.length=neq+ 1
 eqv:∀a∈G,∀b∈G,O.blt (key a) (key b)=false
 low:∀a∈W,∀b∈G,a < b
theorem Hx{R:List Nat}(r:RH R){i j x y:Nat}(hi:R[i]?=some x)(hj:R[j]?=some y)(h:i < j):x < y:=by
 obtain⟨a,rfl⟩:=Y4.mp hi;obtain⟨b,rfl⟩:=Y4.mp hj;exact YY.mp r i j a b h
theorem Bf{R:List Nat}(r:RH R){n x y:Nat}(hy:R[n]?=some y)(hx:x∈R.take n):x < y:=by
 obtain⟨i,hi⟩:=YF.mp hx;rw[YK]at hi
 split at hi
 .rename_i h;exact Hx r hi hy h
 .cases hi
theorem Bh{R:List Nat}{n e:Nat}(h:R[n]?=some e):R.take (n+ 1)=R.take n++[e]:=by
 obtain⟨hh,rfl⟩:=Y4.mp h;rw[XH hh]
theorem AU{R:List Nat}{n e:Nat}(h:R[n]?=some e):R.drop n=[e]++R.drop (n+ 1):=by
 obtain⟨hh,rfl⟩:=Y4.mp h;rw[X8 hh];rfl
theorem IQ{a b c:O.α}(h:O.blt a b=true)(h2:O.blt c b=false):O.blt a c=true:=by
 rcases O.negTrans _ c _ h with q|q
 .exact q
 .rw[h2]at q;cases q
theorem OU{i j:Nat}(h:Pc O key i j)(hij:j < i):O.blt (key i) (key j)=true:=by
 unfold Pc at h;rwa [Y3 (by lia)]at h
theorem FL{i j:Nat}(h:O.blt (key i) (key j)=true)(hij:j < i):Pc O key i j:=by
 unfold Pc;rwa [Y3 (by lia)]
variable{R W G:List Nat}{n neq e:Nat}
theorem R4.less(F:R4 O key R n neq W G)(r:RH R)(he:R[n]?=some e){g:Nat}(hg:G[G.length - 1]?=some g)(h:O.blt (key e) (key g)=true):R4 O key R (n+ 1) 0 (W++G.reverse) [e]:=by
 have mem:∀x∈W++G.reverse,x < e:=fun x f=>Bf r he (F.pm.mem_iff.mp (by simpa using f))
 have i:g∈G:=Ya hg;have lt:∀x∈W++G.reverse,O.blt (key e) (key x)=true:=fun x f=>by
  rcases Yb.mp f with q|q
  .have p:=(Yo.mp F.srt).2.2 x q g (by simpa using i);exact IQ h p.le
  .exact IQ h (F.eqv x (by simpa using q) g i)
 refine⟨?_,?_,rfl,fun a c b d=>?_,fun a c b d=>by obtain rfl:=Y8.mp d;exact mem a c⟩
 .rw[Uo];refine Yo.mpr ⟨F.srt,Xm _ _,fun a c b d=>?_⟩;obtain rfl:=Y8.mp d;exact FL (lt a c) (mem a c)
 .rw[Bh he];exact((U7 _ (Xr _)).trans F.pm).append_right _
 .obtain rfl:=Y8.mp c;obtain rfl:=Y8.mp d;exact O.irrefl _
theorem R4.same(F:R4 O key R n neq W G)(r:RH R)(he:R[n]?=some e){g:Nat}(hg:G[G.length - 1]?=some g)(h1:O.blt (key e) (key g)=false)(h2:O.blt (key g) (key e)=false):R4 O key R (n+ 1) (neq+ 1) W (G++[e]):=by
 have h:g∈G:=Ya hg;have j:key e=key g:=O.total _ _ h1 h2;have mem:∀x∈W++G,x < e:=fun x i=>Bf r he (F.pm.mem_iff.mp i)
 have s:=Yo.mp F.srt;refine⟨?_,?_,by simp[F.len],fun a d b c=>?_,fun a d b c=>?_⟩
 .rw[List.reverse_append,Uo];refine Yo.mpr ⟨s.1,X2.mpr ⟨fun b c=>?_,s.2.1⟩,fun a d b c=>?_⟩
  .have f:b∈G:=by simpa using c
   unfold Pc;rw[Y9 (mem b (Yx _ f)),j];exact F.eqv g h b f
  .rcases Yu.mp c with rfl|c
   .have p:=s.2.2 a d g (by simpa using h);refine FL ?_ (mem a (Xf _ d));rw[j];exact OU p (F.low a d g h)
   .exact s.2.2 a d b c
 .rw[Bh he,<-List.append_assoc];exact F.pm.append_right _
 .have l:∀x∈G++[e],∃y∈G,key x=key y:=fun x i=>by
   rcases Yb.mp i with q|q
   .exact⟨x,q,rfl⟩
   .obtain rfl:=Y8.mp q;exact⟨g,h,j⟩
  obtain⟨z,o,u⟩:=l a d;obtain⟨w,f,t⟩:=l b c;rw[u,t];exact F.eqv z o w f
 .rcases Yb.mp c with q|q
  .exact F.low a d b q
  .obtain rfl:=Y8.mp q;exact mem a (Xf _ d)
end
section
variable{prog:Wt}{w:Wx}{A:Ww}{E:Wq}{s:Wu}{O:KeyOrd}{key:Nat->O.α}{κ:SortKind}{it:Nat->Keyed}{N:Nat}{pd:Array (Nat×Nat×Nat)}
theorem ZN{τ β:Type}{M:Model}{X B:StateT τ Sem β}{Q:β->τ->Prop}{st:τ}{c:Prop}{dc:Decidable c}(P:τ->Prop)(hX:∀st',P st'->wpS M A E s X Q st')
  (h1:c->(∀st',P st'->wpS M A E s X Q st')->wpS M A E s B Q st) (h0:¬c->P st):wpS M A E s (if c then B else X) Q st:=by
 split
 .exact h1 ‹_› hX
 .exact hX _ (h0 ‹_›)
theorem Qx{st:SortSt}{p R:List Nat}{lo nrem:Nat}{Q:Option Nat->SortSt->Prop}(C:DP prog w A s κ it N (Tb O key))(S:T6 κ it pd (p++R) st)(hp:lo=p.length)(hn:nrem=R.length)(h1:1 <=nrem)(rR:RH R)(bR:∀r∈R,r < N)
  (h:∀m U st',1 <=m->m <=nrem->T6 κ it pd (p++U++R.drop m) st'->U.Pairwise (Pc O key)->U.Perm (R.take m)->Q (some m) st'):wpS (model prog w) A E s (countRun' lo nrem) Q st:=by
 rw[countRun'_eq];have at':∀{i x},R[i]?=some x->(p++R)[lo+ i]?=some x:=fun {i x} e=>by rw[Xp (by lia),show lo+ i - p.length=i by lia];exact e
 refine Yg (Xx (X7 (I := fun x c st' => st' = st /\ c = (none, x) /\ (R.take x).Pairwise (Pc O key))
  (Q := fun c st' => st' = st /\ ∃ n, c = (none, n) /\ 1 <= n /\ n <= nrem /\ (R.take n).Pairwise (Pc O key) /\ (n < nrem -> ∀ x y, R[n]? = some x -> R[n - 1]? = some y -> Pc O key x y)) ?_ ?_ ⟨rfl, rfl, ?_⟩) ?_)
 .intro x c st' hx1 hx2 Zq;obtain⟨rfl,rfl,t⟩:=Zq;dsimp only;obtain⟨e,d⟩:=T7 (l:=R) (i:=x) (by lia);obtain⟨g,j⟩:=T7 (l:=R) (i:=x - 1) (by lia);have lg:=Hx rR j d (by lia);refine Yg (EL (x:=e) (y:=g) C S (at' d) (by rw[show lo+ x - 1=lo+ (x - 1) by lia];exact at' j) (bR e (Ng d)) (bR g (Ng j)) ?_);cases q:Tb O key e g with
  |true=>
   simp only[if_true];exact Yk ⟨rfl,x,rfl,hx1,by lia,t,fun _ a b ea eb=>by rw[d]at ea;rw[j]at eb;cases ea;cases eb;exact(Pc.ask lg).mp q⟩
  |false=>
   simp only[Bool.false_eq_true,if_false];refine Yk ⟨rfl,rfl,?_⟩;rw[Bh d];refine Yo.mpr ⟨t,Xm _ _,fun a ha b hb=>?_⟩;obtain rfl:=Y8.mp hb;exact AA t (by rw[YC,U5 (by lia),YK,Y9 (by lia)];exact j) ((Pc.ask' lg).mp q) a ha
 .intro c st' Zq;obtain⟨rfl,rfl,t⟩:=Zq;rw[show max 1 nrem=nrem by lia]at t ⊢;exact⟨rfl,nrem,rfl,h1,Y6 _,t,fun z=>by lia⟩
 .have:(R.take 1).length <=1:=by simp;lia
  rcases hh:R.take 1 with _|⟨a,_|⟨b,l⟩⟩
  .exact .nil
  .exact Xm _ _
  .rw[hh]at this;simp at this
 intro c st' Zq;obtain⟨rfl,n,rfl,n1,n2,t,nx⟩:=Zq;dsimp only
 by_cases q1:n=nrem
 .rw[Y9 (by simpa using q1)];exact Yk (h n (R.take n) _ n1 n2 (by rw[List.append_assoc,YG];exact S) t (.refl _))
 rw[Y3 (by simpa using q1)];obtain⟨e,d⟩:=T7 (l:=R) (i:=n) (by lia);obtain⟨g,j⟩:=T7 (l:=R) (i:=n - 1) (by lia);have eg:=OU (nx (by lia) e g d j) (Hx rR j d (by lia));have base:∀{st'},T6 κ it pd (p++(R.take n).reverse++R.drop n) st'->(∀x∈R.take n,O.blt (key x) (key g)=false)->R4 O key R (n+ 1) 0 (R.take n).reverse [e]/\T6 κ it pd (p++((R.take n).reverse++[e])++R.drop (n+ 1)) st':=fun {st'} S' al=>by
  refine⟨⟨?_,?_,rfl,fun a ha b hb=>?_,fun a ha b hb=>?_⟩,?_⟩
  .rw[Uo];refine Yo.mpr ⟨XI.mpr t,Xm _ _,fun a ha b hb=>?_⟩;obtain rfl:=Y8.mp hb;rw[VM]at ha;exact FL (IQ eg (al a ha)) (Bf rR d ha)
  .rw[Bh d];exact(Xr _).append_right _
  .obtain rfl:=Y8.mp ha;obtain rfl:=Y8.mp hb;exact O.irrefl _
  .obtain rfl:=Y8.mp hb;exact Bf rR d (by simpa using ha)
  .rw[AU d]at S';simpa[List.append_assoc] using S'
 apply ZN (fun st1=>R4 O key R (n+ 1) 0 (R.take n).reverse [e]/\T6 κ it pd (p++((R.take n).reverse++[e])++R.drop (n+ 1)) st1)
 rotate_left
 .intro q2 J;obtain⟨f,hf⟩:=T7 (l:=R) (i:=0) (by lia);refine Yg (EL (x:=f) (y:=g) C S (by have:=at' hf;rwa [Uh]at this) (by rw[show lo+ n - 1=lo+ (n - 1) by lia];exact at' j) (bR f (Ng hf)) (bR g (Ng j)) ?_);cases q3:Tb O key f g with
  |true=>
   simp only[if_true];exact Yk (h n (R.take n) _ n1 n2 (by rw[List.append_assoc,YG];exact S) t (.refl _))
  |false=>?_
  simp only[Bool.false_eq_true,if_false];have S0:T6 κ it pd (p++R.take n++R.drop n) st':=by rw[List.append_assoc,YG];exact S
  refine Yg (An S0 hp (by rw[YC,U5 (by lia)];lia) fun st1 S1=>?_);exact J _ <|base S1 fun x hx=>by
   cases q4:O.blt (key x) (key g) with
   |false=>rfl
   |true=>
    exfalso
    rcases O.negTrans _ (key f) _ q4 with q|q
    .obtain⟨i,hi⟩:=YF.mp hx
     by_cases i0:i=0
     .subst i0;rw[YK,Y9 (by lia),hf]at hi;cases hi;rw[O.irrefl]at q;cases q
     .obtain⟨hi',rfl⟩:=Y4.mp hi;have hf':(R.take n)[0]?=some f:=by rw[YK,Y9 (by lia)];exact hf
      obtain⟨h0,rfl⟩:=Y4.mp hf';have:=(YY.mp t 0 i h0 hi' (by lia)).le;unfold KeyOrd.kle at this;rw[this]at q;cases q
    .unfold Tb at q3;rw[q3]at q;cases q
 .intro q2;have t1:R.take n=[g]:=by
   obtain rfl:n=1:=by lia
   obtain⟨hh,rfl⟩:=Y4.mp j;cases R with
   |nil=>simp at hh
   |cons a l=>rfl
  exact base (st':=st') (by rw[t1,Uo,<-t1,List.append_assoc,YG];exact S) fun x hx=>by
   rw[t1]at hx;obtain rfl:=Y8.mp hx;exact O.irrefl _
 clear S;rintro st1 ⟨F, o⟩;refine Yg (Vm (XO ⟨rfl, ?_⟩));refine Yg (Xx (X7 (I := fun x c st' => ∃ neq W G, c = (none, x, neq) /\ T6 κ it pd (p ++ (W ++ G) ++ R.drop x) st' /\ R4 O key R x neq W G)
  (Q := fun c st' => ∃ x neq W G, c = (none, x, neq) /\ n <= x /\ x <= nrem /\ T6 κ it pd (p ++ (W ++ G) ++ R.drop x) st' /\ R4 O key R x neq W G) ?_ ?_ ⟨0, _, _, rfl, o, F⟩) ?_)
 .clear o F;intro x c st2 hx1 hx2 Zq;obtain⟨neq,W,G,rfl,o,F⟩:=Zq;dsimp only;have lW:(W++G).length=x:=by rw[F.pm.length_eq,YC];lia
  rw[List.length_append]at lW;have lG:=F.len;obtain⟨e,d⟩:=T7 (l:=R) (i:=x) (by lia);obtain⟨g,j⟩:=T7 (l:=G) (i:=G.length - 1) (by lia);have gR:g∈R:=Xo (F.pm.mem_iff.mp (Yx _ (Ng j)));have ae:(p++(W++G)++R.drop x)[lo+ x]?=some e:=by
   rw[Dq,Y3 (by lia),Y3 (by rw[List.length_append];lia),List.length_append,show lo+ x - p.length - (W.length+ G.length)=0 by lia,X3];exact d
  have ag:(p++(W++G)++R.drop x)[lo+ x - 1]?=some g:=by
   rw[Dq,Y3 (by lia),Y9 (by rw[List.length_append];lia),Xp (by lia),show lo+ x - 1 - p.length - W.length=G.length - 1 by lia];exact j
  refine Yg (EL (x:=e) (y:=g) C o ae ag (bR e (Ng d)) (bR g gR) ?_);cases q3:Tb O key e g with
  |true=>
   have F':=F.less rR d j q3;simp only[if_true];have fin:∀{st3},T6 κ it pd (p++W++G.reverse++R.drop x) st3->T6 κ it pd (p++(W++G.reverse++[e])++R.drop (x+ 1)) st3:=fun {st3} S3=>by rw[AU d]at S3;simpa[List.append_assoc] using S3
   by_cases q4:neq > 0
   .rw[Y9 q4];have S3:T6 κ it pd ((p++W)++G++R.drop x) st2:=by simpa[List.append_assoc] using o
    refine Yg (An S3 (by rw[List.length_append];lia) (by rw[List.length_append];lia) fun st3 S4=>?_);exact Yk ⟨0,_,_,rfl,fin S4,F'⟩
   .rw[Y3 q4];refine Yk ⟨0,_,_,rfl,fin ?_,F'⟩;have:G.reverse=G:=by
     match G,F.len with
     |[a],_=>rfl
     |[],h=>simp at h
     |a::b::l,h=>simp at h;lia
    rw[this];simpa[List.append_assoc] using o
  |false=>
   simp only[Bool.false_eq_true,if_false];refine Yg (EL (x:=g) (y:=e) C o ag ae (bR g gR) (bR e (Ng d)) ?_);cases q4:Tb O key g e with
   |true=>
    simp only[if_true];exact Yk ⟨x,neq,W,G,rfl,by lia,by lia,o,F⟩
   |false=>
    simp only[Bool.false_eq_true,if_false];refine Yk ⟨neq+ 1,W,G++[e],rfl,?_,F.same rR d j q3 q4⟩;rw[AU d]at o;simpa[List.append_assoc] using o
 .intro c st2 Zq;obtain⟨neq,W,G,rfl,o,F⟩:=Zq;rw[show max (n+ 1) nrem=nrem by lia]at o F ⊢;exact⟨nrem,neq,W,G,rfl,by lia,Y6 _,o,F⟩
 .clear o F;intro c st2 Zq;obtain⟨m,neq,W,G,rfl,m1,m2,o,F⟩:=Zq;dsimp only;have lW:(W++G).length=m:=by rw[F.pm.length_eq,YC];lia
  rw[List.length_append]at lW;have lG:=F.len;have S3:T6 κ it pd ((p++W)++G++R.drop m) st2:=by simpa[List.append_assoc] using o
  by_cases q4:neq > 0
  case' pos=>
   rw[Y9 q4];refine Yg (An S3 (by rw[List.length_append];lia) (by rw[List.length_append];lia) fun st3 S4=>?_)
  case' neg=>
   rw[Y3 q4];have S4:T6 κ it pd ((p++W)++G.reverse++R.drop m) st2:=by
    have:G.reverse=G:=by
     match G,F.len with
     |[a],_=>rfl
     |[],h=>simp at h
     |a::b::l,h=>simp at h;lia
    rw[this];exact S3
  all_goals
   have S5 := S4;rw [List.append_assoc p] at S5;refine Yg (An S5 hp (by rw [List.length_append, Wi]; lia) fun st4 S6 => ?_);have sU : (W ++ G.reverse).reverse.Pairwise (Pc O key) := XI.mpr F.srt;have u : (W ++ G.reverse).reverse.Perm (R.take m) := (Xr _).trans ((U7 _ (Xr _)).trans F.pm);refine Yg (Xx (X7 (I := fun x c st' => ∃ U, c = (none, x) /\ st' = st4 /\ T6 κ it pd (p ++ U ++ R.drop x) st' /\ U.Pairwise (Pc O key) /\ U.Perm (R.take x))
    (Q := fun c st' => ∃ x U, c = (none, x) /\ m <= x /\ x <= nrem /\ T6 κ it pd (p ++ U ++ R.drop x) st' /\ U.Pairwise (Pc O key) /\ U.Perm (R.take x)) ?_ ?_ ⟨_, rfl, rfl, S6, sU, u⟩) ?_)
   .intro x c st5 hx1 hx2 Zq;obtain⟨U,rfl,rfl,S7,sU,u⟩:=Zq;dsimp only;have lU:U.length=x:=by rw[u.length_eq,YC];lia
    obtain⟨e,d⟩:=T7 (l:=R) (i:=x) (by lia);obtain⟨g,j⟩:=T7 (l:=U) (i:=U.length - 1) (by lia);have gT:=u.mem_iff.mp (Ng j);have gR:g∈R:=Xo gT;refine Yg (EL (x:=e) (y:=g) C S7 (by rw[Dq,Y3 (by lia),Y3 (by lia),show lo+ x - p.length - U.length=0 by lia,X3];exact d) (by rw[Dq,Y3 (by lia),Y9 (by lia),show lo+ x - 1 - p.length=U.length - 1 by lia];exact j) (bR e (Ng d)) (bR g gR) ?_);have ge:=Bf rR d gT;cases q5:Tb O key e g with
    |true=>
     simp only[if_true];exact Yk ⟨x,U,rfl,hx1,by lia,S7,sU,u⟩
    |false=>
     simp only[Bool.false_eq_true,if_false];refine Yk ⟨U++[e],rfl,rfl,?_,?_,?_⟩
     .rw[AU d]at S7;simpa[List.append_assoc] using S7
     .refine Yo.mpr ⟨sU,Xm _ _,fun a ha b hb=>?_⟩;obtain rfl:=Y8.mp hb;exact AA sU j ((Pc.ask' ge).mp q5) a ha
     .rw[Bh d];exact u.append_right _
   .intro c st5 Zq;obtain⟨U,rfl,rfl,S7,sU,u⟩:=Zq;rw[show max m nrem=nrem by lia]at S7 u ⊢;exact⟨nrem,U,rfl,m2,Y6 _,S7,sU,u⟩
   .intro c st5 Zq;obtain⟨x,U,rfl,x1,x2,S7,sU,u⟩:=Zq;exact Yk (h x U _ (by lia) x2 S7 sU u)
end
def Nk:Nat->List (List Nat)->List (Nat×Nat×Nat)->Prop
 |_,[],[]=>True
 |b,g::gs,e::es=>e.1=b/\e.2.1=g.length/\Nk (b+ g.length) gs es
 |_,_,_=>False
theorem Nk.len:∀{b gs es},Nk b gs es->es.length=gs.length
 |_,[],[],_=>rfl
 |_,_::_,_::_,h=>by simp[Nk.len h.2.2]
 |_,[],_::_,h=>h.elim
 |_,_::_,[],h=>h.elim
theorem Nk.app:∀{b pre gs es},Nk b (pre++gs) es->∃e1 e2,es=e1++e2/\e1.length=pre.length/\Nk b pre e1/\Nk (b+ pre.flatten.length) gs e2
 |b,[],gs,es,h=>⟨[],es,rfl,rfl,trivial,by simpa using h⟩
 |b,g::pre,gs,[],h=>h.elim
 |b,g::pre,gs,e::es,h=>by
  obtain⟨e1,e2,rfl,l,a,c⟩:=Nk.app h.2.2;refine⟨e::e1,e2,rfl,by simp[l],⟨h.1,h.2.1,a⟩,?_⟩;rw[Uu,List.length_append,<-Nat.add_assoc];exact c
theorem Nk.join:∀{b pre gs e1 e2},Nk b pre e1->Nk (b+ pre.flatten.length) gs e2->Nk b (pre++gs) (e1++e2)
 |b,[],gs,[],e2,_,h=>by simpa using h
 |b,g::pre,gs,e::e1,e2,h,h2=>⟨h.1,h.2.1,Nk.join h.2.2 (by rw[Uu,List.length_append,<-Nat.add_assoc]at h2;exact h2)⟩
 |b,[],gs,_::_,e2,h,_=>h.elim
 |b,_::_,gs,[],e2,h,_=>h.elim
theorem Nk.pw:∀{b gs es i p},Nk b gs es->Nk b gs (es.modify i fun x=>(x.1,x.2.1,p))
 |_,[],[],i,_,h=>by simpa using h
 |_,_::_,e::es,0,_,h=>⟨h.1,h.2.1,h.2.2⟩
 |_,_::_,e::es,i+ 1,_,h=>⟨h.1,h.2.1,Nk.pw h.2.2⟩
 |_,[],_::_,_,_,h=>h.elim
 |_,_::_,[],_,_,h=>h.elim
section
variable{O:KeyOrd}{key:Nat->O.α}
structure D0(O:KeyOrd)(key:Nat->O.α)(lo:Nat)(gs:List (List Nat)):Prop where
 srt:∀g∈gs,g.Pairwise (Pc O key)/\0 < g.length
 low:gs.Pairwise (fun a b=>∀x∈a,∀y∈b,x < y)
 pm:gs.flatten.Perm (List.range lo)
theorem D0.merge{lo:Nat}{pre post:List (List Nat)}{X Y Z:List Nat}(h:D0 O key lo (pre++X::Y::post))(z1:Z.Perm (X++Y))(z2:Z.Pairwise (Pc O key)):D0 O key lo (pre++Z::post):=by
 have o:=h.srt X (by simp);have l:=Yo.mp h.low;have j:=X2.mp l.2.1;have i:=X2.mp j.2;refine⟨fun g n=>?_,?_,?_⟩
 .rcases Yb.mp n with q|q
  .exact h.srt g (Xf _ q)
  .rcases Yu.mp q with rfl|q
   .refine⟨z2,?_⟩;rw[z1.length_eq,List.length_append];lia
   .exact h.srt g (by simp[q])
 .refine Yo.mpr ⟨l.1,X2.mpr ⟨fun b e x d y c=>?_,i.2⟩,fun a f b e x d y c=>?_⟩
  .rcases Yb.mp (z1.mem_iff.mp d) with q|q
   .exact j.1 b (Yl _ e) x q y c
   .exact i.1 b e x q y c
  .rcases Yu.mp e with rfl|q
   .rcases Yb.mp (z1.mem_iff.mp c) with q|q
    .exact l.2.2 a f X (by simp) x d y q
    .exact l.2.2 a f Y (by simp) x d y q
   .exact l.2.2 a f b (by simp[q]) x d y c
 .refine List.Perm.trans ?_ h.pm;rw[UF,UF,Uu,Uu,Uu,<-List.append_assoc X];exact U7 _ (z1.append_right _)
theorem D0.push{lo n:Nat}{gs:List (List Nat)}{U:List Nat}(h:D0 O key lo gs)(u1:U.Perm (List.range' lo n))(u2:U.Pairwise (Pc O key))(hn:0 < n):D0 O key (lo+ n) (gs++[U]):=by
 refine⟨fun g f=>?_,?_,?_⟩
 .rcases Yb.mp f with q|q
  .exact h.srt g q
  .obtain rfl:=Y8.mp q;exact⟨u2,by rw[u1.length_eq,UL];exact hn⟩
 .refine Yo.mpr ⟨h.low,Xm _ _,fun a j b i x d y c=>?_⟩;obtain rfl:=Y8.mp i;have h1:x < lo:=by have:=h.pm.mem_iff.mp (List.mem_flatten.mpr ⟨a,j,d⟩);simpa using this
  have h2:=u1.mem_iff.mp c;rw[Uv]at h2;lia
 .rw[UF,Up];have e:List.range (lo+ n)=List.range lo++List.range' lo n:=by
   rw[Ve,Ve,<-List.range'_append_1,XF]
  rw[e];exact h.pm.append u1
end
section
variable{prog:Wt}{w:Wx}{A:Ww}{E:Wq}{s:Wu}{O:KeyOrd}{key:Nat->O.α}{κ:SortKind}{it:Nat->Keyed}{N:Nat}
structure Ds(O:KeyOrd)(key:Nat->O.α)(κ:SortKind)(it:Nat->Keyed)(lo:Nat)(gs:List (List Nat))(Jf:List Nat)(st:SortSt):Prop where
 ok:MX κ it (gs.flatten++Jf) st
 segs:D0 O key lo gs
 ents:Nk 0 gs (pendingOf st).toList
theorem P1{α:Type}:∀{l:List α} {i:Nat},i+ 1 < l.length->∃pre x y post,l=pre++x::y::post/\pre.length=i
 |[],_,h=>by simp at h
 |[_],_,h=>by simp at h
 |a::b::l,0,_=>⟨[],a,b,l,rfl,rfl⟩
 |a::b::l,i+ 1,h=>by
  obtain⟨pre,x,y,post,e,hl⟩:=P1 (l:=b::l) (i:=i) (by simpa using h);exact⟨a::pre,x,y,post,by rw[e];rfl,by simp[hl]⟩
theorem OC{st:SortSt}{lo i:Nat}{gs:List (List Nat)}{Jf:List Nat}{Q:Bool->SortSt->Prop}(C:DP prog w A s κ it N (Tb O key))(S:Ds O key κ it lo gs Jf st)(hlo:lo <=N)(hi:i+ 1 < gs.length)
  (h:∀gs' st',Ds O key κ it lo gs' Jf st'->gs'.length+ 1=gs.length->Q true st'):wpS (model prog w) A E s (mergeAt' i) Q st:=by
 obtain⟨c,X,Y,d,rfl,hl⟩:=P1 hi;have f:=S.segs;obtain⟨e,e2,j,l1,a1,a2⟩:=S.ents.app
 match e2,a2 with
 |⟨x1,x2,x3⟩::⟨y1,y2,y3⟩::es,a2=>
  obtain⟨z,u,t,r,q⟩:=a2;simp only[XF]at z u t r q;subst z;subst u;subst t;subst r;have p:=f.srt X (by simp);have o:=f.srt Y (by simp);have l:∀g∈c++X::Y::d,∀x∈g,x < N:=fun g hg x hx=>by
   have:=f.pm.mem_iff.mp (List.mem_flatten.mpr ⟨g,hg,hx⟩);simp at this;lia
  have low:=(X2.mp (Yo.mp f.low).2.1).1 Y (by simp);have ar:MX κ it (c.flatten++X++Y++(d.flatten++Jf)) st:=by
   have:=S.ok;simpa[List.append_assoc] using this
  have g1:(pendingOf st)[i]?=some (c.flatten.length,X.length,x3):=by
   rw[<-Array.getElem?_toList,j,Xp (by lia),show i - e.length=0 by lia];rfl
  have g2:(pendingOf st)[i+ 1]?=some (c.flatten.length+ X.length,Y.length,y3):=by
   rw[<-Array.getElem?_toList,j,Xp (by lia),show i+ 1 - e.length=1 by lia];rfl
  refine Qs C ar ⟨p.1,o.1,low,l X (by simp),l Y (by simp)⟩ p.2 o.2 g1 g2 fun Z st' n z2 S' pe=>?_
  refine h (c++Z::d) st' ⟨?_,f.merge n z2,?_⟩ (by simp;lia)
  .simpa[List.append_assoc] using S'
  .rw[pe];have:(((pendingOf st).setIfInBounds i (c.flatten.length,X.length+ Y.length,x3)).eraseIdxIfInBounds (i+ 1)).toList=e++(c.flatten.length,X.length+ Y.length,x3)::es:=by
    have k:∀ (a b:Nat×Nat×Nat) (v:Nat×Nat×Nat),((e++a::b::es).set i v).eraseIdx (i+ 1)=e++v::es:=fun a b v=>by
     rw[W8 _ _ (by lia),show i - e.length=0 by lia,List.set_cons_zero,List.eraseIdx_append_of_length_le (by lia),show i+ 1 - e.length=1 by lia];rfl
    have sz:i+ 1 < (pendingOf st).size:=by rw[<-Array.length_toList,j];simp;lia
    rw[Array.eraseIdxIfInBounds,dif_pos (by simpa using sz),Array.toList_eraseIdx,Vw,j,k]
   rw[this];refine a1.join ⟨by simp,?_,?_⟩
   .rw[n.length_eq,List.length_append]
   .rw[n.length_eq,List.length_append];rw[<-Nat.add_assoc,XF];exact q
theorem wW{st:SortSt}{Q:Unit->SortSt->Prop}(C:DP prog w A s κ it N (Tb O key))(hst:T6 κ it #[] (List.range N) st)(h2:1 <=N)
  (h:∀ (p:List Nat) st',MX κ it p st'->p.Perm (List.range N)->p.Pairwise (Pc O key)->Q () st'):wpS (model prog w) A E s sortRuns' Q st:=by
 rw[sortRuns'_eq];refine Yg (UQ ?_);have sz:(arrOf st).size=N:=by rw[show arrOf st=_ from hst.arr];simp
 dsimp only;rw [sz];have s0 : Ds O key κ it 0 [] (List.range' 0 N) st := ⟨by have := hst.1; rwa [Ve] at this, ⟨fun g hg => by simp at hg, .nil, .refl _⟩, by rw [hst.pend]; exact trivial⟩;refine Yg (Xx (X7 (I := fun x c st' => ∃ lo b, c = (none, lo) /\ Ds O key κ it lo b (List.range' lo (N - lo)) st' /\ lo <= N /\ (x <= lo \/ lo = N) /\ b.length <= lo)
  (Q := fun c st' => ∃ b, c = (none, N) /\ Ds O key κ it N b [] st' /\ b.length <= N) ?_ ?_ ⟨0, [], rfl, s0, Yj _, .inl (Y6 _), Y6 _⟩) ?_)
 .intro x c j _ hx Zq;obtain⟨lo,b,rfl,S,hlo,hxl,l⟩:=Zq;dsimp only
  by_cases q1:lo≥N
  .rw[Y9 q1];obtain rfl:lo=N:=by lia
   refine Yk ⟨b,rfl,?_,l⟩;rw[Vd]at S;exact S
  rw[Y3 q1];have Sp1:T6 κ it (pendingOf j) (b.flatten++List.range' lo (N - lo)) j:=⟨S.ok,rfl⟩;have fl:b.flatten.length=lo:=by rw[S.segs.pm.length_eq,YV]
  have ris:RH (List.range' lo (N - lo)):=List.pairwise_lt_range';have bR:∀r∈List.range' lo (N - lo),r < N:=fun r hr=>by rw[Uv]at hr;lia
  refine Yg (Qx C Sp1 fl.symm (by simp) (by lia) ris bR fun m U i m1 m2 S2 sU pU=>?_);dsimp only;have tk:∀k,k <=N - lo->(List.range' lo (N - lo)).take k=List.range' lo k:=fun k hk=>by rw[List.take_range'_of_length_ge hk]
  have dp:∀k,k <=N - lo->(List.range' lo (N - lo)).drop k=List.range' (lo+ k) (N - (lo+ k)):=fun k hk=>by rw[List.drop_range',Nat.mul_one];congr 1;lia
  by_cases q2:m < minRun' N N 0
  case' pos=>
   rw[Y9 q2];refine Yg (Vm (XO ⟨rfl,?_⟩));have lU:U.length=m:=by rw[pU.length_eq,tk m m2,UL]
   refine Yg (Zp C S2 fl.symm lU.symm m1 (by lia) (by rw [lU, X9, UL]; lia) sU (ris.sublist (Ua _ _)) (fun u hu r hr => by
    have a:=pU.mem_iff.mp hu;rw[tk m m2,Uv]at a;rw[dp m m2,Uv]at hr;lia) (fun u hu=>by
    have a := pU.mem_iff.mp hu; rw [tk m m2, Uv] at a; lia) (fun r hr => bR r (Xz hr)) fun V t S3 sV pV => ?_)
   simp only[Bool.not_true,Bool.false_eq_true,if_false];have n1:m <=min (N - lo) (minRun' N N 0):=by lia
   have n2:min (N - lo) (minRun' N N 0) <=N - lo:=by lia
   generalize min (N - lo) (minRun' N N 0)=n at S3 pV n1 n2 ⊢;have o:T6 κ it (pendingOf j) (b.flatten++V++List.range' (lo+ n) (N - (lo+ n))) t:=by
    rw[List.drop_drop,show m+ (n - m)=n by lia,dp n n2]at S3;exact S3
   have aa:V.Perm (List.range' lo n):=by
    refine pV.trans ((pU.append_right _).trans ?_);rw[<-List.take_add,show m+ (n - m)=n by lia,tk n n2]
   have hn:1 <=n:=by lia
  case' neg=>
   rw[Y3 q2];have n2:=m2;have hn:=m1;have o:T6 κ it (pendingOf j) (b.flatten++U++List.range' (lo+ m) (N - (lo+ m))) i:=by rw[dp m m2]at S2;exact S2
   have aa:U.Perm (List.range' lo m):=by rw[tk m m2]at pU;exact pU
   have sV:=sU;clear S2 pU m1 m2 q2;generalize m=n at o aa n2 hn ⊢;generalize U=V at o aa sV;generalize i=t at o ⊢
  all_goals
   have S4:Ds O key κ it lo b (V++List.range' (lo+ n) (N - (lo+ n))) t:=⟨by have:=o.1;rwa [List.append_assoc]at this,S.segs,by rw[o.pend];exact S.ents⟩;have fin:∀{d st'},Ds O key κ it lo d (V++List.range' (lo+ n) (N - (lo+ n))) st'->d.length <=lo->Ds O key κ it (lo+ n) (d++[V]) (List.range' (lo+ n) (N - (lo+ n))) (setPending st' ((pendingOf st').push (lo,n,0)))/\(d++[V]).length <=lo+ n:=fun {d st'} e l5=>by
    refine⟨⟨⟨e.ok.kind,e.ok.ok,?_⟩,e.segs.push aa sV hn,?_⟩,by simp;lia⟩
    .show arrOf st'=_;rw[show arrOf st'=_ from e.ok.arr,UF,Up,List.append_assoc]
    .show Nk 0 _ ((pendingOf st').push (lo,n,0)).toList;rw[UW];refine e.ents.join ⟨?_,?_,trivial⟩
     .rw[e.segs.pm.length_eq,YV,XF]
     .rw[aa.length_eq,UL]
   refine Yg (UQ ?_);cases hbk:(pendingOf t).back? with
   |none=>
    dsimp only;obtain⟨f1,f2⟩:=fin S4 l;exact Yg (UB (Yk ⟨lo+ n,_,rfl,f1,by lia,by lia,f2⟩))
   |some z=>
    obtain⟨z1,z2,z3⟩:=z;dsimp only;generalize power' N (2*z1+ z2) (2*z1+ z2+ z2+ n) N=pw;refine Yg (Xx (X7 (I:=fun x c st'=>∃d,c=(none,())/\Ds O key κ it lo d (V++List.range' (lo+ n) (N - (lo+ n))) st'/\d.length <=lo) (Q:=fun c st'=>∃d,c=(none,())/\Ds O key κ it lo d (V++List.range' (lo+ n) (N - (lo+ n))) st'/\d.length <=lo) ?_ (fun _ _ z=>z) ⟨b,rfl,S4,l⟩) ?_)
    .intro x c f _ hx Zq;obtain⟨d,rfl,e,l5⟩:=Zq;refine Yg (UQ ?_);have pl:(pendingOf f).size=d.length:=by rw[<-Array.length_toList];exact e.ents.len
     by_cases q5:(pendingOf f).size > 1
     .rw[Y9 q5];cases hq:(pendingOf f)[(pendingOf f).size - 2]? with
      |none=>exact Yk ⟨d,rfl,e,l5⟩
      |some y=>
       obtain⟨y1,y2,y3⟩:=y;dsimp only
       split
       .exact Yk ⟨d,rfl,e,l5⟩
       .refine Yg (OC C e hlo (by lia) fun gs6 st6 S6 l6=>?_);simp only[Bool.not_true,Bool.false_eq_true,if_false];exact Yk ⟨gs6,rfl,S6,by lia⟩
     .rw[Y3 q5];exact Yk ⟨d,rfl,e,l5⟩
    .intro c f Zq;obtain⟨d, rfl, e, l5⟩:=Zq;dsimp only;have S6 : Ds O key κ it lo d (V ++ List.range' (lo + n) (N - (lo + n))) (setPending f ((pendingOf f).modify ((pendingOf f).size - 1) fun x => (x.1, x.2.1, pw))) := ⟨⟨e.ok.kind, e.ok.ok, e.ok.arr⟩, e.segs, by
      show Nk 0 d ((pendingOf f).modify _ _).toList;rw [Array.toList_modify]; exact e.ents.pw⟩
     obtain⟨f1,f2⟩:=fin S6 l5;refine Yg (UB (Yg (UB (Yk ⟨lo+ n,_,rfl,f1,by lia,by lia,f2⟩))))
 .intro c j Zq;obtain⟨lo,b,rfl,S,hlo,hxl,l⟩:=Zq;obtain rfl:lo=N:=by lia
  refine⟨b,rfl,?_,l⟩;rw[Vd]at S;exact S
 .intro c j Zq;obtain⟨b,rfl,S,l⟩:=Zq;dsimp only;refine Yg (Xx (X7 (I:=fun x c st'=>∃b,c=(none,())/\Ds O key κ it N b [] st'/\b.length+ x <=N+ 1/\1 <=b.length) (Q:=fun c st'=>∃b,c=(none,())/\Ds O key κ it N b [] st'/\b.length=1) ?_ ?_ ⟨b,rfl,S,by lia,?_⟩) ?_)
  .intro x c i _ hx Zq;obtain⟨b,rfl,S,hg,hg1⟩:=Zq;refine Yg (UQ ?_);have pl:(pendingOf i).size=b.length:=by rw[<-Array.length_toList];exact S.ents.len
   rw[pl]
   by_cases q:b.length <=1
   .rw[Y9 q];exact Yk ⟨b,rfl,S,by lia⟩
   rw[Y3 q];generalize hb:(if b.length - 2 > 0 then Option.map (fun x=>x.2.1) (pendingOf i)[b.length - 2 - 1]? else none)=bf
   split
   all_goals
    refine Yg (OC C S (Y6 _) ?_ fun d t S3 l3=>?_)
    .lia
    .simp only[Bool.not_true,Bool.false_eq_true,if_false];exact Yk ⟨d,rfl,S3,by lia,by lia⟩
  .intro c i Zq;obtain⟨b,rfl,S,hg,hg1⟩:=Zq;exact⟨b,rfl,S,by lia⟩
  .cases b with
   |nil=>have:=S.segs.pm.length_eq;simp at this;lia
   |cons=>simp
  .intro c i Zq;obtain⟨b,rfl,S,hg⟩:=Zq;refine Yk ?_
   match b,hg,S with
   |[g],_,S=>
    have:=S.ok;rw[List.append_nil,Up]at this;have pm:=S.segs.pm;rw[Up]at pm;exact h g _ this pm (S.segs.srt g (by simp)).1
end
section
variable{prog:Wt}{w:Wx}{A:Ww}{E:Wq}{s:Wu}{O:KeyOrd}{key:Nat->O.α}{κ:SortKind}{vs ks:WC}
theorem nI{p:List Nat}{n:Nat}(h:p.Pairwise (Pc O key))(hn:p.length=n):Bv O key p.toArray n:=fun i j e f=>by
 unfold SK
 by_cases q:i=j
 .subst q;exact KeyOrd.kle_refl _
 .have b:i < p.length:=by lia
  have a:j < p.length:=by lia
  have:=(YY.mp h i j b a (by lia)).le;have d:p.toArray.getD i 0=p[i]:=by simp[Array.getD,b]
  have c:p.toArray.getD j 0=p[j]:=by simp[Array.getD,a]
  rw[d,c];exact this
theorem Q3{Q:SortSt->Shared->Prop}(hl:ks.length=vs.length)(h2:1 <=vs.length)(C:∀ (i j:Nat) (C':Bool->Shared->Prop),i < vs.length->j < vs.length->C' (Tb O key i j) s->kas_ask prog w A κ ks i j C' s)
  (h:∀ (p:List Nat) st',arrOf st'=p.toArray.map (kas_item (ks.toArray.zip vs.toArray))->failedOf st'=none->p.Perm (List.range vs.length)->p.Pairwise (Pc O key)->Q st' s):
  wpAny (model prog w) A ((sortRuns').run (SortSt.mk' κ (ks.toArray.zip vs.toArray) #[] 7 none)) (fun r s'=>Q r.2 s') E s:=by
 have sz:(ks.toArray.zip vs.toArray).size=vs.length:=by simp[hl]
 have a : T6 κ (kas_item (ks.toArray.zip vs.toArray)) #[] (List.range vs.length) (SortSt.mk' κ (ks.toArray.zip vs.toArray) #[] 7 none) := ⟨⟨rfl, rfl, by
  have e := kas_range (ks.toArray.zip vs.toArray);rw [sz] at e;show ks.toArray.zip vs.toArray = _;rw [<- List.map_toArray]; exact e.symm⟩, rfl⟩
 have ok:DP prog w A s κ (kas_item (ks.toArray.zip vs.toArray)) vs.length (Tb O key):=fun i j C' hi c d=>by
  have:=C i j C' hi c d;unfold kas_ask at this;rw[kat_item hl,kat_item hl];exact this
 have:=wW (E:=E) (Q:=fun _ st'=>Q st' s) ok a h2 fun p st' S pm b=>h p st' (by rw[show arrOf st'=_ from S.arr,<-List.map_toArray]) S.ok pm b
 unfold wpS at this;exact YL this (fun r s' q=>by obtain⟨rfl,q⟩:=q;exact q) fun _ _ e=>e
end
end L2
namespace L2
open PySem PySem.Spec PyProof.Rows
structure Pp(scope:Scope)(y:Str)(N':List Str):Prop where
 kind:scope.kind= .function
 co:scope.isCoroutine=false
 gen:scope.isGenerator=false
 nocell:∀y∈scope.names,y.2≠ .cell
 loc:scope.names.lookup y=some .local
 free:∀x∈N',scope.names.lookup x=some .free
def uB(P:Wt)(w:Wx)(K:Wy)(mg:Wp)(base:WD)(k:Nat)(f:WA)(u:Wz)(H:Hp)(Q:VK)(E:XK):Prop:=
 ∀ (A:Ww) (outer:List Env) (s:Wu),WV k A->Mv P w K mg base A outer s H->codeAny (model P w) A (.call (.ref f) ⟨[u],[]⟩) (CR (HI P w) outer P w H s Q E) s
section
variable{P:Wt}{w:Wx}{K:Wy}{mg:Wp}{base:WD}{N':List Str}{q:Str}{scope:Scope}{f c':WA}{cl:List (Str×Addr)}{params:Arguments}{body:WE}{k:Nat}{h:WD}{G:Hp}{σ:St}{te:XK->TE}{pm ctv:Wz}
theorem xP{y:Str}{xv:V}{u0:Wz}(rxv:WU xv u0)(S:Pp scope y N')(C:OX cl h scope)(hσ:Holds cl h N' σ)(hl:σ.length=N'.length){oc:Obj}{vs:Array Value}{t:Tok}(hGf:G f=some (.frz (E6 q params body scope cl pm (.ref c') ctv) HT))(hGc:G c'=some (.frz oc HT))(hd:oc.data= .fields vs)(hv:vs[1]?=some (.str q t))
  (hcf:∀b∈cl.map (·.2),G b=none) (hbind:∀pm cv ctv u,bindArgs (W.kla_fn "<lambda>" q params body scope cl pm cv ctv) ⟨[u],[]⟩=pure [(y,u)])
  (hb:∀ (A:Ww) (outer:List Env) (s:Wu) (H:Hp) (E:XK),WV k (A.deeper (W.envX q scope s.heap.objs.size f (.ref c') cl))->PE (Rk P w K mg base (y::N') q scope f (.ref c') cl A outer s H E) body (te E))
  {Q:VK} {E:XK} (ht:te E (some xv::σ) G Q):uB P w K mg base (k+ 1) f u0 (JP cl h G) (fun v H'=>∃H2,H'=JP cl h H2/\(∀b∈cl.map (·.2),H2 b=none)/\Q v H2) (fun c _ H'=>∃H2,H'=JP cl h H2/\(∀b∈cl.map (·.2),H2 b=none)/\E c none H2):=by
 intro A outer s hr l;have eG:DR cl (JP cl h G)=G:=by
  funext b
  by_cases hb:b∈cl.map (·.2)
  .rw[Ep hb,hcf b hb]
  .rw[Dv hb,T4 hb]
 have nC:∀b x,G b=some x->b∉cl.map (·.2):=fun b x e hb=>by rw[hcf b hb]at e;cases e
 have gf:s.heap.get? f=some (E6 q params body scope cl pm (.ref c') ctv):=l.hok.frz (by rw[T4 (nC f _ hGf)];exact hGf);have gc:s.heap.get? c'=some oc:=l.hok.frz (by rw[T4 (nC c' _ hGc)];exact hGc);have j:∀b∈cl.map (·.2),∃o,h.get? b=some o/\s.heap.get? b=some o:=fun b hb=>by
  obtain⟨o,v,g,_⟩:=C.cell b hb;exact⟨o,g,l.hok.frz (by rw[Re hb,g];rfl)⟩
 have cfs:∀b∈cl.map (·.2),b∉M9 outer:=fun b hb hm=>by
  obtain⟨o,g,_⟩:=j b hb;have:=l.frf b hm;rw[Re hb,g]at this;cases this
 have hcc:∀b∈cl.map (·.2),(∃o,h.get? b=some o)/\b∉M9 outer:=fun b hb=>⟨(j b hb).imp fun o z=>z.1,cfs b hb⟩
 have hokG:No P w G s.heap:=fun b o e=>by
  have hb := nC b _ e;exact (l.hok b o (by rw [T4 hb]; exact e)).stay (fun _ _ _ z => z) (fun d z => by
   by_cases hd:d∈cl.map (·.2)
   .obtain⟨o1,g,_⟩:=j d hd;rw[Re hd,g]at z;cases z
   .rw [T4 hd] at z; exact z) fun d xs z => by
   by_cases hd:d∈cl.map (·.2)
   .obtain⟨o1,g,_⟩:=j d hd;rw[Re hd,g]at z;cases z
   .rw[T4 hd]at z;exact z
 have gN:∀b,JP cl h G b=none->G b=none:=fun b e=>by
  by_cases hb:b∈cl.map (·.2)
  .exact hcf b hb
  .rw[T4 hb]at e;exact e
 refine W.kla_callFunE hr.depth gf rfl S.co S.gen rfl ⟨c',oc,vs,t,rfl,gc,hd,hv⟩ ?_;rw[hbind];refine Y2 (wpAny_newFunctionEnv S.nocell (fun z hz=>by obtain rfl:=Y8.mp hz;exact S.loc) (fun h₁ hns hsb=>⟨?_,?_⟩) S.kind)
 .exact(l.mod.nolimit.keeps fun b o e=>(l.bs b o e).1).fresh _ hsb
 have hk₁:∀b o,s.heap.get? b=some o->h₁.get? b=some o:=fun b o e=>hsb.extBut b o (Yr (Ye e)) (Y7 _ e)
 show codeAny _ _ (.expr body (W.envX q scope s.heap.objs.size f (.ref c') cl)) _ _;refine W.kla_codeExpr ?_;have noA:∀b:Addr,b∉(Rk P w K mg base (y::N') q scope f (.ref c') cl A outer s G E).ex:=fun b z=>absurd (show b∈([]:List Addr) from z) (by simp)
 have I:WI (Rk P w K mg base (y::N') q scope f (.ref c') cl A outer s G E) [] (some xv::σ) G {s with heap:=h₁,toks:=s.toks+ 1}:=by
  refine ⟨⟨l.mod, S.kind, rfl, rfl, Y6 _, C.inj, fun x hx => ?_, (fun x c z => by cases z), fun _ => hr.hd, Around.frames_deeper l.frames, .inr ⟨rfl, rfl⟩, fun b z => absurd z (noA b), fun b o e => ⟨(l.bs b o e).1, gN b (l.bs b o e).2⟩, l.bsz, fun b _ _ => noA b, fun b z => absurd z (noA b), l.funs, fun b hb => gN b (l.frf b hb)⟩,
   rfl, l.bare, Un.kept hk₁, ⟨_, hns, fun i x v g e2 e3 => ?_⟩, fun x c e => ?_, hokG.fresh (Y6 _), fun x c e => hcf c (A1 e), fun p hp => absurd (show p ∈ ([] : List (Addr × Obj)) from hp) (by simp), hokG.kept hk₁, by simp [hl]; rfl⟩
  .have hx:scope.names.lookup x=some .cell\/scope.names.lookup x=some .free:=hx;rcases hx with hx|hx
   .exact absurd rfl (S.nocell _ (Xs hx))
   .exact C.has x (Xs hx)
  .cases i with
   |zero=>
    have g:some y=some x:=g;have e2:some (some xv)=some (some v):=e2;cases g;cases e2;exact⟨u0,rxv,.inl ⟨S.loc,by simp[List.lookup]⟩⟩
   |succ i=>?_
   have g:N'[i]?=some x:=g;have e2:σ[i]?=some (some v):=e2;obtain⟨c,o,u,q1,q2,q3,q4⟩:=hσ i x v g e2;obtain⟨o',z1,z2⟩:=j c (A1 q1);rw[q2]at z1;cases z1;exact⟨u,q4,.inr ⟨.inr (S.free x (Ya g)),c,q1,⟨o,hk₁ _ _ z2,q3⟩⟩⟩
  .obtain⟨o,v,z1,z2⟩:=C.cell c (A1 e);obtain⟨o',y1,y2⟩:=j c (A1 e);rw[z1]at y1;cases y1;exact⟨v,⟨o,hk₁ _ _ y2,z2⟩⟩
 refine YL (hb A outer s G E (hr.deeper _) [] _ (some xv::σ) G Q I ht) (fun v s' hs=>?_) fun e s' hs=>?_
 .obtain⟨x,H',J,rx,qx⟩:=hs;obtain⟨u1,u2,u3⟩:=IT (fs:=M9 outer) l.hok hcc (eG▸J.base);exact⟨x,JP cl h H',J.os,J.bare,u1,u3 _ (fun b o e r n=>J.base.keep b o e (eG▸n) r (by simp[Rk])) J.hok,rx,H',rfl,u2,qx⟩
 .refine YL hs (fun _ s'' hc=>?_) fun e' s'' hc=>?_
  .obtain⟨a,C1,t1,B,H',g,F,hE⟩:=hc;obtain⟨u1,u2,u3⟩:=IT (fs:=M9 outer) l.hok hcc (eG▸F.un);exact⟨a,C1,t1,B,JP cl h H',g,⟨F.os,F.bare,F.fly,u3 B (fun b o e r n=>F.keepB b o e r (eG▸n)) F.hok,u1,fun b o e r n=>F.keepB b o e r (gN b n),F.thereB⟩,H',rfl,u2,hE⟩
  .obtain⟨a,C1,t1,B,H',g,F,hE⟩:=hc;obtain⟨u1,u2,u3⟩:=IT (fs:=M9 outer) l.hok hcc (eG▸F.un);exact⟨a,C1,t1,B,JP cl h H',g,⟨F.os,F.bare,F.fly,u3 B (fun b o e r n=>F.keepB b o e r (eG▸n)) F.hok,u1,fun b o e r n=>F.keepB b o e r (gN b n),F.thereB⟩,H',rfl,u2,hE⟩
end
end L2
namespace L2
open PySem PySem.Spec PyProof.Rows PySem.W
structure Ez(X:Cx)(y:Str)(N':List Str)(scope:Scope)(caps:List (Option Nat)):Prop where
 s:Pp scope y N'
 cap:LN X.N N' scope caps
 vis:∀x,(x,NameKind.free)∈scope.names->X.env.kindOf x=some .cell\/X.env.kindOf x=some .free
def L6(N:List Str)(y:Str)(N':List Str)(scope:Scope)(caps:List (Option Nat))(sc:Scope):Bool:=
 decide (scope.kind= .function) && !scope.isCoroutine && !scope.isGenerator && (scope.names.all fun y=>decide (y.2≠ .cell)) && decide (scope.names.lookup y=some .local) && (N'.all fun x=>decide (scope.names.lookup x=some .free)) && decide (caps.length=N'.length) &&
 ((N'.zip caps).all fun p => match p.2 with
  |none=>true
  | some j => decide (N[j]? = some p.1) && decide ((p.1, NameKind.free) ∈ scope.names) && (scope.names.all fun y => decide (y.1 = p.1 -> y.2 = .free))) &&
 (scope.names.all fun y=>decide (y.2= .free->sc.names.lookup y.1=some .cell\/sc.names.lookup y.1=some .free))
theorem yR{X:Cx}{y:Str}{N':List Str}{scope:Scope}{caps:List (Option Nat)}{sc:Scope}{N:List Str}(hsc:X.env.scope=sc)(hN:X.N=N)(h:L6 N y N' scope caps sc=true):Ez X y N' scope caps:=by
 subst hsc hN;unfold L6 at h;simp only[YN,Yt,Xn,Ut]at h;obtain⟨⟨⟨⟨⟨⟨⟨⟨h1,h2⟩,n⟩,l⟩,o⟩,g⟩,f⟩,e⟩,d⟩:=h;refine⟨⟨h1,h2,n,l,o,g⟩,⟨f,fun i j x r p=>?_⟩,fun x b=>d _ b rfl⟩;have a:(x,some j)∈N'.zip caps:=by
  have:(N'.zip caps)[i]?=some (x,some j):=by rw[VH];exact⟨r,p⟩
  exact Ya this
 have q:=e _ a;simp only[YN,Yt,Xn]at q;exact⟨q.1.1,q.1.2,fun k c=>q.2 _ c rfl⟩
section
variable{X:Cx}{q:Str}{params:Arguments}{body:WE}{scope:Scope}{H G:Hp}{f:WA}{y:Str}{N':List Str}{caps:List (Option Nat)}{te:TE}{k:Nat}{σ:St}{pins:Ws}{s s1 s2:Wu}{cl:List (Str×Addr)}{A:Ww}
theorem tK(v:M0 X q params body scope H f)(S:Ez X y N' scope caps)(hbind:∀cl pm cv ctv u,bindArgs (W.kla_fn "<lambda>" q params body scope cl pm cv ctv) ⟨[u],[]⟩=pure [(y,u)])
  (hb:∀ (f c':WA) (cl:List (Str×Addr)) (A:Ww) (outer:List Env) (s:Wu) (H:Hp) (E:XK),WV k (A.deeper (W.envX q scope s.heap.objs.size f (.ref c') cl))->PE (Rk X.prog X.w X.K X.mg X.base (y::N') q scope f (.ref c') cl A outer s H E) body te)
  {Q:VK} {xv:V} {u0:Wz} {E:Wq} (rx:WU xv u0) (I1:WI X pins σ H s1) (hfn:∀x,X.fn x=true) (hr:WV (k+ 1) A) (hA:A.frames=X.A.frames) (ht:te (some xv::JH caps σ) H Q):
  wpAny (model X.prog X.w) A (call (.ref f) [u0]) (CE X.stack X.prog X.w H s1 Q) E s1:=by
 obtain⟨cl,c',ctv,pm,oc,vs,t,⟨d,n,hcl3⟩,b4,b5,b6,b7⟩:=v;have cX:∀b∈cl.map (·.2),∃x,X.env.cells.lookup x=some b:=fun b hb=>by
  obtain⟨⟨x,b'⟩,g,rfl⟩:=Yw.mp hb;exact⟨x,hcl3 _ g⟩
 have p:∀b∈cl.map (·.2),H b=none:=fun b hb=>by
  obtain⟨x,g⟩:=cX b hb;exact I1.freeC x b g
 have aa:∀b∈cl.map (·.2),∃o v,s1.heap.get? b=some o/\o.data= .cell v:=fun b hb=>by
  obtain⟨x,g⟩:=cX b hb;obtain⟨v,o,e1,a⟩:=I1.cell x b g;exact⟨o,v,e1,a⟩
 have hCO:OX cl s1.heap scope:=⟨fun x y b h1 h2=>I1.ok.inj x y b (d x b h1) (d y b h2),n,aa⟩;have hH:Holds cl s1.heap N' (JH caps σ):=fun i x v e1 a=>by
  obtain⟨m,hns,hl⟩:=I1.loc;unfold JH at a;rw[Yf]at a;cases ec:caps[i]? with
  |none=>rw[ec]at a;cases a
  |some o=>
   rw[ec]at a;cases o with
   |none=>cases a
   |some j=>
    have a:(σ[j]?).join=some v:=Yn a;obtain⟨n1,n2,n3⟩:=S.cap.2 i j x e1 ec;have e3:σ[j]?=some (some v):=by
     cases z:σ[j]? with
     |none=>rw[z]at a;cases a
     |some y=>rw[z]at a;exact YB some a
    have hv:X.env.kindOf x=some .cell\/X.env.kindOf x=some .free:=S.vis x n2;obtain⟨u,ru,lk⟩:=hl j x v n1 e3 (hv.elim (fun z=>.inr (.inl z)) (fun z=>.inr (.inr z)));obtain⟨b,hb⟩:=n x n2;have hb2:=d x b hb;rcases lk with⟨z,_⟩|⟨_,b',hb',⟨o,q1,q2⟩⟩
    .rcases hv with y|y <;> (rw[z]at y;cases y)
    .rw[hb2]at hb';cases hb';exact⟨b,o,u,hb,q1,q2,ru⟩
 have ask:=xP (P:=X.prog) (w:=X.w) (K:=X.K) (mg:=X.mg) (base:=X.base) (k:=k) (h:=s1.heap) (G:=H) (te:=fun _=>te) (params:=params) (body:=body) (Q:=Q) (E:=fun _ _ _=>False) rx S.s hCO hH (by unfold JH;rw[Y1];exact S.cap.1) b4 b5 b6 b7 p (hbind cl) (hb f c' cl) ht;have c:=SA I1 hfn cX;refine Vb (Uf (ask A X.stack s1 hr ⟨by rw[hA];exact c.frames,c.mod,c.bs,c.bsz,c.funs,c.frf,c.hok,c.bare⟩) fun r s2 l=>?_);cases r with
 |error e=>obtain⟨_,_,_,_,_,_,_,_,_,_,z⟩:=l;exact z.elim
 |ok fl=>
  cases fl with
  |ret v=>
   obtain⟨x,H',z1,z2,z3,z4,z5,H2,rfl,z7,z8⟩:=l;exact vR I1 cX ⟨x,_,z1,z2,z3,z4,z5,by show Q x (DR cl (JP cl s1.heap H2));rw[yH z7];exact z8⟩
  |next=>exact False.elim l
  |brk=>exact False.elim l
  |cont=>exact False.elim l
end
def JO(H G:Hp):Prop:=∀b o,H b=some o->(∀xs,o≠ .lst xs)->G b=some o
theorem JO.rfl'{H:Hp}:JO H H:=fun _ _ e _=>e
theorem JO.trans{H G F:Hp}(a:JO H G)(b:JO G F):JO H F:=fun x o e n=>b x o (a x o e n) n
theorem WH.keepT{H G:Hp}(a:WH H G):JO H G:=fun b o e _=>a b o e
theorem Ak{H:Hp}{l:WA}{xs:List V}{o:HO}(e:H l=some (.lst xs)):JO H (upd H l o):=fun b u a n=>by
 rw[Jb (fun z=>by subst z;rw[e]at a;cases a;exact n xs rfl)];exact a
section
variable{X:Cx}{q:Str}{params:Arguments}{body:WE}{scope:Scope}{f:WA}{y:Str}{N':List Str}{caps:List (Option Nat)}{te:TE}{k:Nat}{σ:St}{pins:Ws}{A:Ww}{E:Wq}{O:KeyOrd}{d:O.α}{RA:Hp->V->O.α->Prop}{c:List O.α}
theorem M0.keepT{H G:Hp}(v:M0 X q params body scope H f)(h:JO H G):M0 X q params body scope G f:=v.of fun b a e=>h b _ e fun _ z=>by cases z
theorem yM{kS:WA}{bd:Value->PUnit->Sem (ForInStep PUnit)}(S:Ez X y N' scope caps)(hbind:∀cl pm cv ctv u,bindArgs (W.kla_fn "<lambda>" q params body scope cl pm cv ctv) ⟨[u],[]⟩=pure [(y,u)])
  (hb:∀ (f c':WA) (cl:List (Str×Addr)) (A:Ww) (outer:List Env) (s:Wu) (H:Hp) (E:XK),WV k (A.deeper (W.envX q scope s.heap.objs.size f (.ref c') cl))->PE (Rk X.prog X.w X.K X.mg X.base (y::N') q scope f (.ref c') cl A outer s H E) body te)
  (hfn:∀x,X.fn x=true) (hr:WV (k+ 1) A) (hA:A.frames=X.A.frames) (mono:∀{G G' v p},JO G G'->RA G v p->RA G' v p)
  (hbd:∀ (u:Wz) (s:Wu) (R:Shared->Prop),wpAny (model X.prog X.w) A (call (.ref f) [u]) (fun k s'=>wpAny (model X.prog X.w) A (Builtin.List.listUpdate (.ref kS) (·.push k)) (fun _ s''=>R s'') (fun _ _=>False) s') (fun _ _=>False) s->wpAny (model X.prog X.w) A (bd u ⟨⟩) (fun r s'=>r= .yield ⟨⟩/\R s') E s):
  ∀ (xs:List V) (us:WC) (kv:List V) (H:Hp) (s:Wu),WO xs us->WI X pins σ H s->H kS=some (.lst kv)->kv.length+ xs.length <=100000->M0 X q params body scope H f->
   (∀ (j:Nat) x p,xs[j]?=some x->c[kv.length+ j]?=some p->∀G,JO H G->te (some x::JH caps σ) G (fun v G'=>WH G G'/\RA G' v p))->kv.length+ xs.length=c.length->(∀ (j:Nat) v p,kv[j]?=some v->c[j]?=some p->RA H v p)->
   wpAny (model X.prog X.w) A (forIn us PUnit.unit bd) (fun _ s'=>∃kv' H',WI X pins σ H' s'/\JO H H'/\H' kS=some (.lst kv')/\kv'.length=c.length/\(∀b,b≠kS->∀o,H b=some o->H' b=some o)/\∀ (j:Nat) v p,kv'[j]?=some v->c[j]?=some p->RA H' v p) E s:=by
 intro xs
 induction xs with
 |nil=>
  intro us kv H s t I hk _ _ _ hl hR;cases t;rw[List.forIn_nil];exact Y2 ⟨kv,H,I,.rfl',hk,by simpa using hl,fun b _ o e=>e,hR⟩
 |cons x xs ih=>
  intro us kv H s t I hk hz v ht hl hR;cases us with
  |nil=>cases t
  |cons u us=>
  obtain⟨rx,rs⟩:WU x u/\WO xs us:=by cases t with|cons a b=>exact⟨a,b⟩
  clear t;rw[UG];rw[List.length_cons]at hz hl;obtain⟨p,hp⟩:∃p,c[kv.length]?=some p:=⟨_,Y5 (by lia)⟩;refine Y0 (YL (hbd u s (fun s'=>∃H' i,WI X pins σ H' s'/\JO H H'/\H' kS=some (.lst (kv++[i]))/\RA H' i p/\∀b,b≠kS->∀o,H b=some o->H' b=some o) ?_) (fun r s' hr'=>?_) fun _ _ e=>e)
  .refine YL (tK v S hbind hb rx I hfn hr hA (ht 0 x p rfl (by simpa using hp) H .rfl')) (fun k1 s1 hc=>?_) fun _ _ e=>e
   obtain⟨i,H1,z1,z2,z3,z4,z5,sm,ra⟩:=hc;obtain⟨g,aa,I1,rk,rfl,rfl⟩:∃g aa,WI X pins σ aa s1/\WU g k1/\g=i/\aa=H1:=I.after (Q:=fun a b=>a=i/\b=H1) ⟨i,H1,z1,z2,z3,z4,z5,rfl,rfl⟩;have l:=sm _ _ hk;obtain⟨hz1,its,n,r1,l1,d⟩:=I1.lstM l;refine Uk d rfl ?_ (by rw[Yc,Yh];lia) (by rw[Array.size_push,Yc,Yh];lia);have I2:=I1.lset (ys:=kv++[g]) (its':=its++[k1]) (f:=(·.push k1)) (t':=s1.toks) l d (by simp) (WO.append r1 (.cons rk .nil)) (by rw[List.length_append,Yh];simp;lia);exact⟨_,g,I2,sm.keepT.trans (Ak l),JD,mono (Ak l) ra,fun b hb o e=>by rw[Jb hb];exact sm b o e⟩
  .obtain⟨rfl,H',i,I',kp,hk',ra,kb⟩:=hr';show wpAny (model X.prog X.w) A (forIn us PUnit.unit bd) _ E s';refine YL (ih us (kv++[i]) H' s' rs I' hk' (by simp;lia) (v.keepT kp) (fun j x' p' d z G hG=>ht (j+ 1) x' p' d (by rw[<-z];congr 1;simp;lia) G (kp.trans hG)) (by simp;lia) fun j v' p' d z=>?_) (fun _ s'' h=>?_) fun _ _ e=>e
   .rw[XQ]at d
    split at d
    .exact mono kp (hR j v' p' d z)
    .rename_i hj
     have hj2:j=kv.length:=by
      have:=(Y4.mp d).1;simp at this;lia
     subst hj2;rw[Vd]at d;cases d;rw[hp]at z;cases z;exact ra
   .obtain⟨kv',H'',a1,a2,a3,a4,a5,a6⟩:=h;exact⟨kv',H'',a1,kp.trans a2,a3,a4,fun b hb o e=>a5 b hb o (kb b hb o e),a6⟩
theorem ZS{ks vs:WC}(hl:ks.length=vs.length):Array.map (fun x:Keyed=>x.2) (ks.toArray.zip vs.toArray)=List.toArray ((List.range vs.length).map fun i=>vs.getD i Value.none):=by
 apply V4.mp;rw[Array.toList_map,Array.toList_zip];show List.map Prod.snd (List.zip ks vs)=_;rw[List.map_snd_zip (by lia)];exact(Oa vs).symm
theorem Z3{D kS:WA}{e1:Nat}{vs ks:WC}{xs kv:List V}{H:Hp}{s:Wu}{κ:SortKind}{n':Nat}{P:PySem.Fin->Shared->Prop}(I:WI X pins σ H s)(hD:H D=some (.frz (seqObj "list" #[] e1) HT))(n4:∀o u,X.H₀ D≠some (.frz o u))(hne:kS≠D)
  (hk:H kS=some (.lst kv)) (ek:s.heap.get? kS=some (seqObj "list" ks.toArray n')) (hkl:ks.length=vs.length) (rv:WO xs vs) (hz:vs.length <=100000) (hu:A.units < cLine)
  (S:GM X.prog X.w s.heap O (fun i=>c.getD i d) κ ks)
  (h:∀ (p:List Nat) s' H',p.Perm (List.range xs.length)->p.Pairwise (Pc O fun i=>c.getD i d)->WI X pins σ H' s'->H' D=some (.lst (p.map fun i=>xs.getD i .non))->(∀b,b≠kS->b≠D->∀o,H b=some o->H' b=some o)->P (.done (.ret .none)) s'):
  wpAny (model X.prog X.w) A (ksk_end D false vs.toArray e1 (.ref kS) ks.toArray) P E s:=by
 have aa:xs.length=vs.length:=rv.length;have g:∀ (p:List Nat) (st:SortSt),p.Perm (List.range vs.length)->p.Pairwise (Pc O fun i=>c.getD i d)->(arrOf st).map (·.2)=List.toArray (p.map fun i=>vs.getD i Value.none)->failedOf st=none->wpAny (model X.prog X.w) A (ksk_tail D false e1 (.ref kS) st) P E s:=fun p st pm r t hf=>by
  have hb:∀i∈p,i < xs.length:=fun i hi=>by have:=pm.mem_iff.mp hi;simp at this;lia
  have pl:p.length=vs.length:=by rw[pm.length_eq,YV]
  unfold ksk_tail;dsimp only;rw[t];refine Y0 (Uk ek rfl ?_ (by rw[Yc,Yh];lia) (Yj _));have I1:=I.lset (l:=kS) (ys:=[]) (its':=[]) (f:=fun _=>#[]) (t':=s.toks) hk ek rfl .nil (Yj _);refine Y0 (Vo ?_);have q:upd H kS (.lst []) D=some (.frz (seqObj "list" #[] e1) HT):=by rw[Jb (Ne.symm hne)];exact hD
  have n:=I1.hok.frz q;refine Y0 (Vp n rfl ?_);have I2:=I1.retag (u1:=.lst []) q (fun _ z=>by cases z) (fun _ z=>by cases z) (fun _ z=>by cases z) n4 ⟨Yj _,[],e1,.nil,n⟩;refine Y0 (Uk n rfl ?_ (Yj _) (by simp only[Bool.false_eq_true,if_false];rw[Yc,Y1,pl,Yh];lia));have I3:=I2.lset (l:=D) (ys:=p.map fun i=>xs.getD i .non) (its':=p.map fun i=>vs.getD i Value.none) (f:=fun _=>List.toArray (p.map fun i=>vs.getD i Value.none)) (t':=s.toks) JD n rfl (Kj rv p hb) (by rw[Y1,pl,Yh];lia);rw[hf];simp only[VC,Bool.false_eq_true,if_false];exact Y2 (h p _ _ (by rw[aa];exact pm) r I3 JD fun b h1 h2 o e=>by rw[Jb h2,Jb h2,Jb h1];exact e)
 unfold ksk_end;simp only[Bool.false_eq_true,if_false]
 by_cases h2:vs.toArray.size < 2
 .rw[Y9 h2,Y9 h2];refine Y0 (Y2 ?_);rw[StateT.run_pure];refine Y0 (Y2 ?_);refine g (List.range vs.length) _ (.refl _) ?_ (ZS hkl) rfl;rw[Yc]at h2;rcases hv:vs.length with _|_|m
  .exact .nil
  .exact Xm _ _
  .lia
 .rw[Y3 h2,Y3 h2];rw[Yc]at h2;refine Y0 (YL (S.kind A s (fun κ' s'=>κ'=κ/\s'=s) (fun _ _ z=>z) (by lia) ⟨rfl,rfl⟩) ?_ fun _ _ x=>x.elim);rintro _ _ ⟨rfl,rfl⟩;refine Y0 (YL (Q3 (Q:=fun a s'=>∃p:List Nat,s'=_/\arrOf a=p.toArray.map (kas_item (ks.toArray.zip vs.toArray))/\failedOf a=none/\p.Perm (List.range vs.length)/\p.Pairwise (Pc O fun i=>c.getD i d)) hkl (by lia) (fun i j C' hi hj hC=>S.cmp A _ i j C' hu (fun _ _ z=>z) (by lia) (by lia) hC) fun p a a1 a2 a3 a4=>⟨p,rfl,a1,a2,a3,a4⟩) ?_ fun _ _ e=>e);rintro⟨⟨⟩,a⟩ s' ⟨p,rfl,har,hf,pm,r⟩;exact g p a pm r (by rw[kat_snds hkl har]) hf
end
section
variable{X:Cx}{q:Str}{params:Arguments}{body:WE}{scope:Scope}{f:WA}{y:Str}{N':List Str}{caps:List (Option Nat)}{te:TE}{k:Nat}{σ:St}{pins:Ws}{A:Ww}{E:Wq}{O:KeyOrd}{d:O.α}{RA:Hp->V->O.α->Prop}{RV:Heap->Value->O.α->Prop}{κ:SortKind}{c:List O.α}
theorem tH{D:WA}{n:Nat}{xs:List V}{vs:WC}{H:Hp}{s:Wu}{P:PySem.Fin->Shared->Prop}(I:WI X pins σ H s)(hD:H D=some (.lst xs))(n4:X.s₀.heap.objs.size <=D)(eD:s.heap.get? D=some (seqObj "list" vs.toArray n))(rv:WO xs vs)(hz:xs.length <=100000)
  (v:M0 X q params body scope H f) (S:Ez X y N' scope caps) (hbind:∀cl pm cv ctv u,bindArgs (W.kla_fn "<lambda>" q params body scope cl pm cv ctv) ⟨[u],[]⟩=pure [(y,u)])
  (hb:∀ (f c':WA) (cl:List (Str×Addr)) (A:Ww) (outer:List Env) (s:Wu) (H:Hp) (E:XK),WV k (A.deeper (W.envX q scope s.heap.objs.size f (.ref c') cl))->PE (Rk X.prog X.w X.K X.mg X.base (y::N') q scope f (.ref c') cl A outer s H E) body te)
  (hfn:∀x,X.fn x=true) (hr:WV (k+ 1) A) (hA:A.frames=X.A.frames) (mono:∀{G G' v p},JO G G'->RA G v p->RA G' v p)
  (hv:∀{s H x v p},WI X pins σ H s->WU x v->RA H x p->RV s.heap v p)
  (ask:∀{vs:WC} {c:List O.α} {h:WD},(∀ (i:Nat) v p,vs[i]?=some v->c[i]?=some p->RV h v p)->vs.length=c.length->GM X.prog X.w h O (fun i=>c.getD i d) κ vs)
  (hc:xs.length=c.length) (ht:∀ (j:Nat) x p,xs[j]?=some x->c[j]?=some p->∀G,JO H G->te (some x::JH caps σ) G (fun v G'=>WH G G'/\RA G' v p))
  (h:∀ (p:List Nat) s' H',p.Perm (List.range xs.length)->p.Pairwise (Pc O fun i=>c.getD i d)->WI X pins σ H' s'->H' D=some (.lst (p.map fun i=>xs.getD i .non))->(∀b,b≠D->∀o,H b=some o->H' b=some o)->P (.done (.ret .none)) s'):
  wpAny (model X.prog X.w) A (ksk_tree D (.ref f) false) P E s:=by
 have hlen:xs.length=vs.length:=rv.length;have hn4:∀o u,X.H₀ D≠some (.frz o u):=fun o u z=>by
  have:=I.base.frzs D o u z;rw[hD]at this;cases this
 unfold ksk_tree;refine Y0 (listItems_at eD rfl ?_);refine Y0 (Uk eD rfl ?_ (by rw[Yc,Yh];lia) (Yj _));have I1:=I.lset (l:=D) (ys:=[]) (its':=[]) (f:=fun _=>#[]) (t':=s.toks) hD eD rfl .nil (Yj _);obtain⟨a,eD1⟩:∃a,(s.heap.update D (Obj.mapSeq fun _=>#[])).get? D=some (seqObj "list" #[] a):=⟨_,get?_update_seq eD (fun _=>#[])⟩;refine Y0 (Vp eD1 rfl ?_);refine Y0 (Wa ?_ (by show vs.length <=_;rw[Yh];lia));have I2:=I1.kept (h':=(s.heap.update D (Obj.mapSeq fun _=>#[])).push (seqObj "tuple" vs.toArray 0)) (t':=s.toks) (fun b u e=>Y7 _ e);refine Y0 (UD ?_ (Yj _));have I3:=I2.lnew (ys:=[]) (its:=[]) (t':=s.toks) .nil (Yj _);refine X0 ?_;obtain⟨kS,aa⟩:∃kS,kS=((s.heap.update D (Obj.mapSeq fun _=>#[])).push (seqObj "tuple" vs.toArray 0)).objs.size:=⟨_,rfl⟩;have g:upd H D (.lst []) kS=none:=by rw[aa];exact I2.fresh
 have r:kS≠D:=fun z=>by rw[z,JD]at g;cases g
 have I3':WI X pins σ (upd (upd H D (.lst [])) kS (.lst [])) {s with heap:=((s.heap.update D (Obj.mapSeq fun _=>#[])).push (seqObj "tuple" vs.toArray 0)).push (seqObj "list" #[] 0),toks:=s.toks}:=by rw[aa];exact I3
 have hD3:upd (upd H D (.lst [])) kS (.lst []) D=some (.lst []):=by rw[Jb (Ne.symm r),JD]
 have eD3:(((s.heap.update D (Obj.mapSeq fun _=>#[])).push (seqObj "tuple" vs.toArray 0)).push (seqObj "list" #[] 0)).get? D=some (seqObj "list" #[] a):=Y7 _ (Y7 _ eD1);have I4:=I3'.retag (u1:=.frz (seqObj "list" #[] a) HT) hD3 (fun _ z=>by cases z) (fun _ z=>by cases z) (fun _ z=>by cases z) hn4 (HT.ok eD3);have kp:JO H (upd (upd (upd H D (.lst [])) kS (.lst [])) D (.frz (seqObj "list" #[] a) HT)):=((Ak hD).trans (Tx g).keepT).trans (Ak hD3);have sb:∀b,b≠D->∀o,H b=some o->upd (upd (upd H D (.lst [])) kS (.lst [])) D (.frz (seqObj "list" #[] a) HT) b=some o:=fun b hb o e=>by
  have e2:upd H D (.lst []) b=some o:=by rw[Jb hb];exact e
  rw[Jb hb];exact Tx g b o e2
 show wpAny (model X.prog X.w) A (ksk_rest D (.ref f) false vs.toArray a (.ref ((s.heap.update D (Obj.mapSeq fun _=>#[])).push (seqObj "tuple" vs.toArray 0)).objs.size)) P E {s with heap:=((s.heap.update D (Obj.mapSeq fun _=>#[])).push (seqObj "tuple" vs.toArray 0)).push (seqObj "list" #[] 0),toks:=s.toks};rw[<-aa];unfold ksk_rest;refine Y0 (XO ?_)
 first
  |rw[List.forIn_toArray]
  |(rw[<-Array.forIn_toList];simp only[XX])
 refine Y0 (YL (yM (E:=E) (kS:=kS) (c:=c) (RA:=RA) S hbind hb hfn hr hA mono (fun u s R hx=>?_) xs vs [] _ _ rv I4 (by rw[Jb r,JD]) (by simpa using hz) (v.keepT kp) (fun j x p a e2 G hG=>ht j x p a (by simpa using e2) G (kp.trans hG)) (by simpa using hc) (fun j v p e=>by simp at e)) (fun _ s' hd=>?_) fun _ _ x=>x)
 .refine Y0 (U8 (YL hx (fun k s'' hk=>?_) fun _ _ hF=>hF.elim));exact Y0 (YL hk (fun _ s3 z=>Y2 ⟨rfl,z⟩) fun _ _ x=>x.elim)
 .obtain⟨t,H',I5,k5,hk5,l5,b5,ra5⟩:=hd;obtain⟨hz5,ks,n5,r5,lk5,ek5⟩:=I5.lstM hk5;refine Y0 (listItems_at ek5 rfl ?_);have hD5:=b5 D (Ne.symm r) _ JD;refine Z3 (kv:=t) (xs:=xs) (c:=c) (d:=d) (κ:=κ) I5 hD5 hn4 r hk5 ek5 (by lia) rv (by lia) (by have:=hr.un;lia) (ask (fun i v p a e2=>?_) (by lia)) fun p s6 H6 a1 a2 a3 a4 a5=>h p s6 H6 a1 a2 a3 a4 fun b hb o e=>?_
  .have hi:i < t.length:=by have:=(Y4.mp a).1;lia
   obtain⟨u,hu,ru⟩:=r5.get (i:=i) (x:=t[i]) (Y5 hi);rw[a]at hu;cases hu;exact hv I5 ru (ra5 i _ p (Y5 hi) e2)
  .by_cases hbk:b=kS
   .subst hbk;have:upd H D (.lst []) b=some o:=by rw[Jb hb];exact e
    rw[g]at this;cases this
   .exact a5 b hbk hb o (b5 b hbk o (sb b hb o e))
end
section
variable{X:Cx}{K:Wy}{q:Str}{params:Arguments}{body:WE}{scope:Scope}{y:Str}{N':List Str}{caps:List (Option Nat)}{te:TE}{k:Nat}{O:KeyOrd}{d:O.α}{RA:Hp->V->O.α->Prop}{RV:Heap->Value->O.α->Prop}{κ:SortKind}{c0 P:WA}
def FN(K:Wy)(P:WA)(q:Str)(caps:List (Option Nat))(te:TE)(O:KeyOrd)(d:O.α)(RA:Hp->V->O.α->Prop)(σ:St)(Q:VK)(x:V)(H1:Hp):Prop:=NP H1 P q/\∀f G0,H1 f=none->JS P H1 G0->NP G0 P q->∃ (p:WA) (xs:List V) (c:List O.α),x= .ref p/\WJ K G0 p xs/\xs.length=c.length/\xs.length <=100000/\
 (∀ (j:Nat) x p,xs[j]?=some x->c[j]?=some p->∀G,JO G0 G->te (some x::JH caps σ) G (fun v G'=>WH G G'/\RA G' v p))/\
 ∀ (r:List Nat) l G,r.Perm (List.range xs.length)->r.Pairwise (Pc O fun i=>c.getD i d)->G0 l=none->WH G0 G->G l=some (.lst (r.map fun i=>xs.getD i .non))->Q (.ref l) G
def AY(K:Wy)(P:WA)(q:Str)(caps:List (Option Nat))(te:TE)(O:KeyOrd)(d:O.α)(RA:Hp->V->O.α->Prop)(ta:TE):TE:=fun σ H Q=>ta σ H fun x H1=>FN K P q caps te O d RA σ Q x H1
theorem QU{e:WE}{ta:TE}{x:Str}{p pos kp lpos:Pos}(h:X.K=K)(hg:Gl X x)(hm:X.mg x=none)(hv0:bootBuiltins x=some (.builtin "sorted"))(ha:PE X e ta)(lc:Gv X.mg X.base c0 P)(hcode:X.env.code= .ref c0)(hq:X.env.qual++"<lambda>"=q)
  (S:Ez X y N' scope caps) (hdef:defaultsOf params X.env=([],[])) (hbind:∀cl pm cv ctv u,bindArgs (W.kla_fn "<lambda>" q params body scope cl pm cv ctv) ⟨[u],[]⟩=pure [(y,u)])
  (hb:∀ (f c':WA) (cl:List (Str×Addr)) (A:Ww) (outer:List Env) (s:Wu) (H:Hp) (E:XK),WV k (A.deeper (W.envX q scope s.heap.objs.size f (.ref c') cl))->PE (Rk X.prog X.w X.K X.mg X.base (y::N') q scope f (.ref c') cl A outer s H E) body te)
  (hfn:∀x,X.fn x=true) (hr:WV (k+ 3) X.A) (mono:∀{G G' v p},JO G G'->RA G v p->RA G' v p)
  (hv:∀{pins σ s H x v p},WI X pins σ H s->WU x v->RA H x p->RV s.heap v p)
  (ask:∀{vs:WC} {c:List O.α} {h:WD},(∀ (i:Nat) v p,vs[i]?=some v->c[i]?=some p->RV h v p)->vs.length=c.length->GM X.prog X.w h O (fun i=>c.getD i d) κ vs)
  (hn:x≠"__name__":=by decide) (hdb:(x==("__debug__":Str))=false:=by decide)
  (he:backTo pos (starEach [e] X.env)=(false,eval e X.env)::backTo pos (starEach [] X.env):=by rfl) (hs:starEach [e] X.env=(false,eval e X.env)::starEach [] X.env:=by rfl)
  (hpl:(backTo pos (starEach [e] X.env)).any (·.1)=false:=by rfl):
  PE X (.Call (.Name x p) [e] [⟨some "key",.Lambda params body scope lpos,kp⟩] pos) (AY K P q caps te O d RA ta):=by
 subst h;intro pins s σ H Q I h;refine Xv (RZ I hg hm hv0 ?_ hn hdb);have h':Ms ta Df σ H (fun vs H1=>match vs with|[x]=>FN X.K P q caps te O d RA σ Q x H1|_=>False):=h;refine callWith_kw (J8 (WW ha WK hs pos pins s σ H _ I h') fun us s1 ⟨vs,H1,I1,r,a⟩=>?_) he hpl;cases r with
 |nil=>exact False.elim a
 |cons ru rr=>
 cases rr with
 |cons _ _=>exact False.elim a
 |nil=>
 rename_i x0 u0 hap
 have a:FN X.K P q caps te O d RA σ Q x0 H1:=a;obtain⟨tb,a⟩:=a;have hl:Ms (Q2 X P q params body scope) Df σ H1 (fun zs H2=>∃f,zs=[.ref f]/\H1 f=none/\JS P H1 H2/\NP H2 P q/\M0 X q params body scope H2 f):=⟨tb,fun f G a1 a2 a3 a4=>⟨f,rfl,a1,a2,a3,a4⟩⟩;refine J8 (Kb (xE lc hcode hq S.vis hdef) Hm pos pins s1 σ H1 _ I1 hl) fun ws s2 zz=>?_;rcases zz with⟨zs,H2,I2,rz,q2⟩
 obtain⟨f,rfl,f1,f2,f3,v⟩:=q2;obtain⟨p,xs,c,rfl,hx,hc,hz,ht,hQ⟩:=a f H2 f1 f2 f3;obtain⟨w,rfl,rw⟩:=D4 rz;cases ru;cases rw;obtain⟨vs,t,pl,hz2⟩:=I2.list hx;have hlen:xs.length=vs.length:=t.length;show wpAny (model X.prog X.w) X.A (call (.builtin "sorted") [.ref p] [(Str.ofString "key",.ref f)]) (EP X pins σ Q) X.xe s2;refine call_function_entry_kw kind_sorted VN VO (ksk_s1 _ _) ?_;unfold Builtin.«sorted»;refine Y0 (m:=checkCount "sorted" 1 1 _) (Y2 ?_);refine Y0 (collect_list pl.isList ?_ (by rw[Yh];omega));refine Y0 (UD ?_ (by rw[Yh];omega));obtain⟨h1,n⟩:∃h1,h1=(s2.heap.push (seqObj "list" #[] 0)).update s2.heap.objs.size (Obj.mapSeq (·++vs.toArray)):=⟨_,rfl⟩;have kp1:∀b o,s2.heap.get? b=some o->h1.get? b=some o:=fun b o e=>by
  have l:b < s2.heap.objs.size:=Ye e;rw[n,YX _ _ _ _ (Yr l),XT _ _ _ (Yr l)];exact e
 have I3:=I2.kept (h':=h1) (t':=s2.toks) kp1;have I4:=I3.lnew (ys:=xs) (its:=vs) (t':=s2.toks) t hz2;have g:H2 h1.objs.size=none:=I3.fresh;rw[<-n];refine Y0 (X0 (wpAny_call_entry_kw Vn ⟨_,Yi _ rfl,rfl⟩ Vf ?body (ksk_l1 _ _)))
 case body=>
  show wpAny (model X.prog X.w) X.A.in1.in1 (Builtin.«list.sort» ⟨[.ref h1.objs.size],[(Str.ofString "key",.ref f)]⟩) _ _ _;rw[ksk_t1];refine tH (RA:=RA) (RV:=RV) (κ:=κ) (c:=c) (d:=d) I4 JD (YW I3.sz (Y6 _)) (Yi _ rfl) t hz (v.keepT (Tx g).keepT) S hbind hb hfn (by have:=hr.in1.in1;exact this) rfl mono (fun I r x=>hv I r x) ask hc (fun j x p e1 e2 G hG=>ht j x p e1 e2 G ((Tx g).keepT.trans hG)) fun r s' H' a1 a2 a3 a4 a5=>⟨_,rfl,?_⟩
  have fb:∀b o,H2 b=some o->H' b=some o:=fun b o e=>by
   have hb:b≠h1.objs.size:=fun z=>by rw[z,g]at e;cases e
   exact a5 b hb o (by rw[Jb hb];exact e)
  exact Y2 ⟨_,rfl,.ref h1.objs.size,H',a3,rfl,hQ r _ H' a1 a2 g fb a4⟩
end
end L2
namespace L2
open PySem PySem.Spec PyProof.Rows
end L2
namespace L2
open PySem PySem.Spec PyProof.Rows PySem.W
section
variable{prog:Wt}{w:Wx}{A:Ww}{E:Wq}{s:Wu}{O:KeyOrd}{key:Nat->O.α}{κ:SortKind}{vs:WC}
theorem Io{a:WA}{n:Nat}{P:PySem.Fin->Shared->Prop}{h₀:WD}(ho:s.heap.get? a=some (seqObj "list" vs.toArray n))(ha0:h₀.objs.size <=a)(hk:∀b o,h₀.get? b=some o->s.heap.get? b=some o)
  (S:GM prog w h₀ O key κ vs) (h64:vs.length <=100000) (hu:A.units < cLine)
  (h:∀p:Array Nat,TV vs.length p->Bv O key p vs.length->P (.done (.ret .none)) {s with heap:=sortedHeap s.heap a vs (List.toArray (p.toList.map fun i=>vs.getD i Value.none))}):
  wpAny (model prog w) A (Builtin.«list.sort» ⟨[.ref a],[]⟩) P E s:=by
 rw[list_sort_plain];have ha:a < s.heap.objs.size:=Ye ho;refine Y0 (listItems_at ho rfl ?_);refine Y0 (Uk ho rfl ?_ (by rw[Yc,Yh];lia) (Yj _));obtain⟨u,g⟩:∃u,(s.heap.update a (Obj.mapSeq fun _=>#[])).get? a=some (seqObj "list" #[] u):=⟨_,get?_update_seq ho (fun _=>#[])⟩;refine Y0 (Vp g rfl ?_);refine Y0 (Wa ?_ (by show vs.length <=_;rw[Yh];lia));refine Y0 (UD ?_ (Yj _));refine X0 ?_;have d:(((s.heap.update a (Obj.mapSeq fun _=>#[])).push (seqObj "tuple" vs.toArray 0)).push (seqObj "list" #[] 0)).get? a=some (seqObj "list" #[] u):=by
  rw[XT _ _ _ (by rw[size_push',X5];exact Yr (XS ha)),XT _ _ _ (by rw[X5];exact Yr ha)];exact g
 have f:∀b o,h₀.get? b=some o->(((s.heap.update a (Obj.mapSeq fun _=>#[])).push (seqObj "tuple" vs.toArray 0)).push (seqObj "list" #[] 0)).get? b=some o:=fun b o q=>by
  have hb:b < h₀.objs.size:=Ye q;have q':=hk b o q;have l:b < s.heap.objs.size:=Ye q';rw[XT _ _ _ (by rw[size_push',X5];exact Yr (XS l)),XT _ _ _ (by rw[X5];exact Yr l),YX _ _ _ _ (Yr (Yz hb ha0))];exact q'
 show wpAny (model prog w) A _ P E {s with heap:=((s.heap.update a (Obj.mapSeq fun _=>#[])).push (seqObj "tuple" vs.toArray 0)).push (seqObj "list" #[] 0)};dsimp only;have hsz:vs.toArray.size=vs.length:=by simp
 by_cases h2:vs.toArray.size < 2
 .rw[Y9 h2,Y9 h2];refine Y0 (Y2 ?_);rw[StateT.run_pure];refine Y0 (Y2 ?_);dsimp only;refine Y0 (Vp d rfl ?_);refine Y0 (Uk d rfl ?_ (Yj _) (hsz2:=by rw[Array.size_map];show(pairsOf vs).size <=_;rw[pairsOf_size,Yh];lia));simp only[VC,Bool.false_eq_true,if_false];have e:Array.map (fun x:Keyed=>x.2) (vs.toArray.zip vs.toArray)=List.toArray ((List.toArray (List.range vs.length)).toList.map fun i=>vs.getD i Value.none):=by
   apply V4.mp;simp only[Oa];rw[Array.toList_map];show List.map (fun x:Keyed=>x.2) (vs.toArray.zip vs.toArray).toList=vs;rw[Array.toList_zip];show List.map Prod.snd (List.zip vs vs)=vs;rw[List.map_snd_zip];exact Y6 _
  have:=h (List.toArray (List.range vs.length)) (Array.Perm.refl _) (fun i j hij hj=>by obtain rfl:i=j:=(by lia);exact KeyOrd.kle_refl _);rw[<-e]at this;exact Y2 this
 .rw[Y3 h2,Y3 h2];have h2':2 <=vs.length:=by lia
  refine Y0 (YL (S.kind A _ (fun κ' s' => κ' = κ /\ s' = { s with heap := ((s.heap.update a (Obj.mapSeq fun _ => #[])).push (seqObj "tuple" vs.toArray 0)).push (seqObj "list" #[] 0) }) f h2' ⟨rfl, rfl⟩) ?_ fun _ _ x => x.elim);rintro _ _ ⟨rfl, rfl⟩;refine Y0 (YL (Q3 (E := E) (O := O) (key := key) (Q := fun c s' => ∃ p : Array Nat, p.size = vs.length /\ arrOf c = p.map (kas_item (vs.toArray.zip vs.toArray)) /\ failedOf c = none /\ TV vs.length p /\ Bv O key p vs.length /\ s' = { s with heap := ((s.heap.update a (Obj.mapSeq fun _ => #[])).push (seqObj "tuple" vs.toArray 0)).push (seqObj "list" #[] 0) })
   rfl (by lia) (fun i j C' hi hj hC => S.cmp A _ i j C' hu f hi hj hC) fun p c a1 a2 z a4 => ⟨p.toArray, by rw [Yc, z.length_eq, YV], a1, a2, by unfold TV; exact U9.mpr (by simpa using z), nI a4 (by rw [z.length_eq, YV]), rfl⟩) ?_ fun _ _ e => e)
  rintro⟨⟨⟩,c⟩ s' ⟨p,hp,har,hf,b1,b2,rfl⟩;dsimp only;have t:=kat_snds rfl har;have r:(List.toArray (p.toList.map fun i=>vs.getD i Value.none)).size=vs.length:=by rw[Yc,Y1,Array.length_toList,hp]
  rw[t];refine Y0 (Vp d rfl ?_);refine Y0 (Uk d rfl ?_ (Yj _) (YW (VJ r) (by rw[Yh];lia)));rw[hf];simp only[VC,Bool.false_eq_true,if_false];exact Y2 (h p b1 b2)
theorem tR{l:WA}{Q:Wq}(hl:s.heap.IsList l vs.toArray)(S:GM prog w s.heap O key κ vs)(h64:vs.length <=100000)(hu:A.units+ 2 < cLine)
  (h:∀p:Array Nat,TV vs.length p->Bv O key p vs.length->Q (.ref (s.heap.objs.size+ 1)) {s with heap:=sortedAll s.heap vs (List.toArray (p.toList.map fun i=>vs.getD i Value.none))}):
  wpAny (model prog w) A (call (.builtin "sorted") [.ref l]) Q E s:=by
 refine UI kind_sorted VN VO (args_sorted1 _) ?_;unfold Builtin.«sorted»;refine Y0 (m:=checkCount "sorted" 1 1 _) (Y2 ?_);refine Y0 (collect_list hl ?_ (by rw[Yh];lia));refine Y0 (UD ?_ (by rw[Yh];lia));have a:((s.heap.push (seqObj "list" #[] 0)).update s.heap.objs.size (Obj.mapSeq (·++vs.toArray))).objs.size=s.heap.objs.size+ 1:=by
  rw[X5,size_push']
 have d:(((s.heap.push (seqObj "list" #[] 0)).update s.heap.objs.size (Obj.mapSeq (·++vs.toArray))).push (seqObj "list" vs.toArray 0)).get? (s.heap.objs.size+ 1)=some (seqObj "list" vs.toArray 0):=by
  rw[<-a];exact Yi _ rfl
 have e:∀b o,s.heap.get? b=some o->(((s.heap.push (seqObj "list" #[] 0)).update s.heap.objs.size (Obj.mapSeq (·++vs.toArray))).push (seqObj "list" vs.toArray 0)).get? b=some o:=fun b o q=>by
  have c:b < s.heap.objs.size:=Ye q;rw[XT _ _ _ (by rw[a];exact Yr (XS c)),YX _ _ _ _ (Yr c),XT _ _ _ (Yr c)];exact q
 show wpAny _ _ _ _ _ {s with heap:=((s.heap.push (seqObj "list" #[] 0)).update s.heap.objs.size (Obj.mapSeq (·++vs.toArray))).push (seqObj "list" vs.toArray 0)};rw[a];refine Y0 (X0 (X4 Vn ⟨_,d,rfl⟩ Vf (Io (h₀:=s.heap) d (XD _) e S h64 (by show A.units+ 1+ 1 < cLine;lia) fun p g f=>⟨_,rfl,?_⟩) (args_list_sort _)));exact Y2 ⟨_,rfl,h p g f⟩
end
section
variable{X:Cx}{K:Wy}
def Ff(K:Wy)(O:KeyOrd)(d:O.α)(RA:Hp->V->O.α->Prop):List V->Hp->VK->Prop:=fun as H Q=>∃ (p:WA) (xs:List V) (c:List O.α),as=[.ref p]/\WJ K H p xs/\xs.length=c.length/\(∀ (i:Nat) (x:V) (q:O.α),xs[i]?=some x->c[i]?=some q->RA H x q)/\xs.length <=100000/\
 ∀ (r:List Nat) l G,r.Perm (List.range xs.length)->(r.map fun i=>c.getD i d).Pairwise (fun a b=>O.blt b a=false)->H l=none->WH H G->G l=some (.lst (r.map fun i=>xs.getD i .non))->Q (.ref l) G
theorem OA{O:KeyOrd}{d:O.α}{κ:SortKind}{RA:Hp->V->O.α->Prop}{RV:Heap->Value->O.α->Prop}(h:X.K=K)(hu:X.A.units+ 64 < cLine)
  (hv:∀{pins s σ H x v q},WI X pins σ H s->WU x v->RA H x q->RV s.heap v q)
  (ask:∀{vs:WC} {c:List O.α} {h:WD},(∀ (i:Nat) v p,vs[i]?=some v->c[i]?=some p->RV h v p)->vs.length=c.length->GM X.prog X.w h O (fun i=>c.getD i d) κ vs):J9 X (.builtin "sorted") (Ff K O d RA):=by
 subst h;intro pins s σ H xs us Q I r hh;obtain⟨p,xs,c,rfl,hq,hlc,hp,h64,q⟩:=hh;obtain⟨u,rfl,rx⟩:=D4 r;cases rx;obtain⟨a,j,pl,hz⟩:=I.list hq;have l:xs.length=a.length:=j.length;have t:∀ (i:Nat) v q,a[i]?=some v->c[i]?=some q->RV s.heap v q:=fun i v q e1 e2=>by
  have hi:i < a.length:=(Y4.mp e1).1;have ex:xs[i]?=some (xs[i]'(by lia)):=Y5 (by lia);obtain⟨u,hu,ru⟩:=j.get (i:=i) (x:=_) ex;rw[e1]at hu;cases hu;exact hv I ru (hp i _ q ex e2)
 refine tR pl.isList (ask t (by lia)) (by lia) (by lia) fun g a1 a2=>?_
 obtain⟨e,he⟩:=sortedAll_at s.heap a (List.toArray (g.toList.map fun i=>a.getD i Value.none));have hf:H (s.heap.objs.size+ 1)=none:=I.hok.fresh (XD _);have f:g.toList.Perm (List.range xs.length):=by rw[l];exact U9.mp a1
 have hb:∀i∈g.toList,i < xs.length:=fun i hi=>by simpa using f.mem_iff.mp hi
 have n:(g.toList.map fun i=>xs.getD i .non).length <=sizeLine:=by
  rw[Y1,f.length_eq,YV];exact hz
 refine⟨.ref (s.heap.objs.size+ 1),upd H (s.heap.objs.size+ 1) (.lst (g.toList.map fun i=>xs.getD i .non)),I.laid (t':=s.toks) (fun b o z=>sortedAll_old z) (XD _) ?_,rfl,q _ _ _ f (IZ a1 a2) hf (Tx hf) JD⟩;refine⟨n,g.toList.map fun i=>a.getD i Value.none,e,Kj j _ hb,?_⟩;simpa using he
end
def Eo:KeyOrd where
 α:=Int
 blt a b:=decide (a < b)
 irrefl a:=by simp
 trans a b c:=by simp;lia
 negTrans a b c:=by simp;lia
 total a b:=by simp;lia
section
variable{prog:Wt}{w:Wx}
theorem Kf{vs:WC}{c:WB}{h:WD}(hp:∀ (i:Nat) v p,vs[i]?=some v->c[i]?=some p->∃t,v= .int p t)(hl:vs.length=c.length):GM prog w h Eo (fun i=>c.getD i 0) oneType' vs where
 kind A s Q hk h2 hQ:=by
  have hall:∀v,v∈vs->∃n t,v=Value.int n t:=fun v a=>by
   obtain⟨i,hi⟩:=YF.mp a;have o:=(Y4.mp hi).1;obtain⟨t,e⟩:=hp i v _ hi (Y5 (by lia));exact⟨_,t,e⟩
  match vs,h2,hall with
  |v₁::v₂::Jf,_,hall=>rw[keyKind_ints (intsAre_map _ hall)];exact Y2 hQ
 cmp A s i j C hu hk hi hj hC:=by
  have d:vs[i]?=some (vs.getD i Value.none):=by rw[Y5 hi];simp[hi]
  have b:vs[j]?=some (vs.getD j Value.none):=by rw[Y5 hj];simp[hj]
  have l:c[i]?=some (c.getD i 0):=by rw[Y5 (by lia)];simp[show i < c.length by lia]
  have g:c[j]?=some (c.getD j 0):=by rw[Y5 (by lia)];simp[show j < c.length by lia]
  obtain⟨t,e⟩:=hp i _ _ d l;obtain⟨u,f⟩:=hp j _ _ b g;unfold kas_ask;rw[e,f,keyLt'_oneType];exact oneLt_int hC
end
section
variable{X:Cx}{K:Wy}
def Iy(K:Wy):List V->Hp->VK->Prop:=fun xs H Q=>∃ (p:WA) (ns:WB),xs=[.ref p]/\WJ K H p (ns.map V.int)/\ns.length <=100000/\∀ (ms:WB) l G,ms.Perm ns->ms.Pairwise (· <=·)->H l=none->WH H G->G l=some (.lst (ms.map V.int))->Q (.ref l) G
theorem Li(hu:X.A.units+ 64 < cLine)(h:X.K=K):J9 X (.builtin "sorted") (Iy K):=by
 refine(OA (O:=Eo) (d:=(0:Int)) (κ:=oneType') (RA:=fun _ x q=>x= .int q) (RV:=fun _ v q=>∃t,v= .int q t) h hu (fun I r e=>?_) (fun w j=>Kf w j)).imp fun xs H Q q=>?_
 .subst e;exact r
 .obtain⟨p,c,rfl,u,j,q⟩:=q;refine⟨p,c.map V.int,c,rfl,u,Y1 ..,fun i x p a b=>?_,by rw[Y1];exact j,fun r l G f g o s e=>?_⟩
  .rw[Yf]at a;obtain⟨y,n,rfl⟩:=Yy.mp a;rw[show c[i]?=some p from b]at n;cases n;rfl
  .rw[Y1]at f;have z:∀i∈r,i < c.length:=fun i hi=>by simpa using f.mem_iff.mp hi
   have e1:(r.map fun i=>(c.map V.int).getD i .non)=(r.map fun i=>c.getD i 0).map V.int:=by
    rw[Yp];refine YO fun i hi=>?_
    have:=z i hi;simp[YJ,this]
   rw[e1]at e;refine q _ l G ?_ ?_ o s e
   .have h1:=f.map fun i=>c.getD i 0
    have h2:(List.range c.length).map (fun i=>c.getD i 0)=c:=by
     apply V5
     .simp
     .intro i a b;rw[VP,Vr];simp[YJ,b]
    rw[h2]at h1;exact h1
   .refine List.Pairwise.imp (R:=fun a b:Int=>decide (b < a)=false) (fun {a b} h=>?_) g;have:=Ul h
    lia
end
abbrev MC(w:Wx):Bool:=w.params.followText "set-order"
def Dg(w:Wx):Obj:={cls:=.type "set",data:=.set #[] 0 (SetTable.fresh 0 0 (!MC w))}
theorem Z0:entryFor table "set.__iter__"=some Builtin.«frozenset.__iter__»:=entryFor_alias (id':="frozenset.__iter__") (by kernel_rfl) rfl (by kernel_rfl) (by kernel_rfl)
theorem Az:entryFor table "set_iterator.__next__"=some Builtin.«set_iterator.__next__»:=entryFor_of_tree (by kernel_rfl)
section
variable{prog:Wt}{w:Wx}{A:Ww}{E:Wq}{s:Wu}
theorem Za(a:Wz){Q₁:Wq}(h:Q₁ (.ref s.heap.objs.size) {s with heap:=s.heap.push (Dg w)}):
  codeAny (model prog w) A (Code.call (.builtin "set.__new__") ⟨[.type "set",a],[]⟩) (wants Q₁ E) s:=by
 refine codeAny_of_tree (Y0 (UX (F.newCall_set_1 a) (Y2 ⟨XU F.plain_set_new _,XN F.entry_set_new ?_⟩)));rw[Xy F.plain_set_new];refine Y0 (Y0 (Y2 (Xh (by rfl) (Y0 (UX sub_set_self (Xh (by rfl) (Y2 ?_)))))));refine Y0 ?_;unfold newSet;refine Y0 ?_;unfold setsByText;refine Y0 (Uj (Y2 ?_));refine YS (Y2 ?_);exact h
theorem uT{R:Result->Shared->Prop}{S I l:WA}{items:Array Value}{h₀:WD}{U:Nat}(hh:A.in1.handled=none)(hIl:l≠I)(hSI:S≠I)(hSl:S≠l)(h0S:h₀.objs.size <=S)(h0I:h₀.objs.size <=I)(hU:A.in1.units <=U)(J:Nat->Obj->Prop)
  (hs : ∀ (i : Nat) (v : Value) (o : Obj) (s' : Shared) (A' : Around) (E' : Value -> Shared -> Prop) (Q' : Bool -> Shared -> Prop), items[i]? = some v -> J i o -> s'.heap.get? S = some o -> (∀ b o, h₀.get? b = some o -> s'.heap.get? b = some o) -> A'.units <= U ->
   (∀ (b : Bool) (o' : Obj) (h' : Heap) (tk : Nat), J (i + 1) o' -> Heap.SameBut S s'.heap h' -> h'.get? S = some o' -> Q' b { s' with heap := h', toks := tk }) -> wpAny (model prog w) A' (setAdd S v) Q' E' s') :
  ∀ (k i:Nat) (s:Wu),items.size - i=k->i <=items.size->s.heap.IsListIter I l i->s.heap.IsList l items->∀o,J i o->s.heap.get? S=some o->(∀b o,h₀.get? b=some o->s.heap.get? b=some o)->
   (∀ (o:Obj) (h':WD) (tk:Nat),J items.size o->h'.get? S=some o->(∀b o,h₀.get? b=some o->h'.get? b=some o)->R (.ok (.ret .none)) {s with heap:=h',toks:=tk})->
   codeAny (model prog w) A (Code.builtin "set.update.loop" ⟨[.ref S,.ref I],[]⟩) R s:=by
 have W:=Walks.list (prog:=prog) (w:=w) hh I l hIl items;intro k
 induction k with
 |zero=>
  intro i s d hi h1 h2 o p n a q;obtain rfl:i=items.size:=by lia
  refine XN F.entry_set_update_loop ?_;rw[Xy UR];refine Y0 (W.done s _ _ ⟨h1,h2⟩ fun h' tk d=>Y2 ?_);exact q o h' tk p (d S o (by simp[hSI]) n) fun b o e=>d b o (by have:=Ye e;simp;lia) (a b o e)
 |succ k ih=>
  intro i s d hi h1 h2 o p n a q;have g:i < items.size:=by lia
  refine XN F.entry_set_update_loop ?_;rw[Xy UR];refine Y0 (W.item i s _ _ g ⟨h1,h2⟩ fun v h' tk hv f h=>?_);have k1:∀b o,h₀.get? b=some o->h'.get? b=some o:=fun b o e=>h b o (by have:=Ye e;simp;lia) (a b o e)
  refine Y0 (X0 (hs i v o _ _ _ _ hv p (h S o (by simp[hSI]) n) k1 hU fun bb o' h2' tk2 z c u=>?_));refine Y2 ⟨XU UR _,ih (i+ 1) _ (by lia) g ?_ ?_ o' z u ?_ ?_⟩
  .obtain⟨j,t,r⟩:=f.1;exact⟨j,(c.2 I (Ne.symm hSI)).trans t,r⟩
  .obtain⟨j,t,r⟩:=f.2;exact⟨j,(c.2 l (Ne.symm hSl)).trans t,r⟩
  .exact fun b o e=>(c.2 b (by have:=Ye e;lia)).trans (k1 b o e)
  .exact q
theorem Z8{l:WA}{items:Array Value}{Q:Wq}(J:Nat->Obj->Prop)(hh:A.handled=none)(hl:s.heap.IsList l items)(h0:J 0 (Dg w))
  (hs : ∀ (i : Nat) (v : Value) (o : Obj) (s' : Shared) (A' : Around) (E' : Value -> Shared -> Prop) (Q' : Bool -> Shared -> Prop), items[i]? = some v -> J i o -> s'.heap.get? s.heap.objs.size = some o -> (∀ b o, s.heap.get? b = some o -> s'.heap.get? b = some o) -> A'.units <= A.units + 8 ->
   (∀ (b : Bool) (o' : Obj) (h' : Heap) (tk : Nat), J (i + 1) o' -> Heap.SameBut s.heap.objs.size s'.heap h' -> h'.get? s.heap.objs.size = some o' -> Q' b { s' with heap := h', toks := tk }) -> wpAny (model prog w) A' (setAdd s.heap.objs.size v) Q' E' s')
  (hQ:∀ (o:Obj) (h':WD) (tk:Nat),J items.size o->h'.get? s.heap.objs.size=some o->(∀b o,s.heap.get? b=some o->h'.get? b=some o)->Q (.ref s.heap.objs.size) {s with heap:=h',toks:=tk}):
  wpAny (model prog w) A (call (.type "set") [.ref l]) Q E s:=by
 obtain⟨c,tl,hmro⟩:=XZ.mro;have hmade:=XZ.made;have hsub:=XZ.sub;refine Vb (codeAny_of_tree ?_);show wpAny _ _ (callAny (.type "set") _) _ _ _;refine Y2 ⟨Code.quiet_builtin _ (by decide +kernel),XN F.entry_type_call ?_⟩;rw[Around.under_plain (weight_type_call_type "set" [Value.ref l] []) rfl];have h1:=XZ.notType;have h2:=XZ.canCreate;have hct:=F.typeCall_set_1 (Value.ref l)
 repeat (any_goals (first|assumption|wp_step))
 refine Uf (Za (E:=E) (Q₁:=fun obj j=>obj= .ref s.heap.objs.size/\j={s with heap:=s.heap.push (Dg w)}) (.ref l) ⟨rfl,rfl⟩) fun r j n=>?_
 cases r with
 |error e=>exact n
 |ok fl=>
  cases fl with
  |ret obj=>
   obtain⟨rfl,rfl⟩:=(show obj= .ref s.heap.objs.size/\j={s with heap:=s.heap.push (Dg w)} from n);have hS:=Yi s.heap (o:=Dg w) rfl;have hT:(⟨s.heap.push (Dg w),s.gens,s.drawn,s.toks,s.os⟩:Wu).TypeIs (.ref s.heap.objs.size) "set":=⟨_,hS,rfl⟩
   have hli:=XZ.init.lookup;have hbi:=XZ.init.bind (.ref s.heap.objs.size)
   repeat (any_goals (first|assumption|wp_step))
   obtain⟨u,f,h,z,g⟩:=hl;have a:(s.heap.push (Dg w)).get? l=some u:=Y7 _ f;have aa:(s.heap.push (Dg w)).IsList l items:=⟨_,a,h,z,g⟩;refine Uf (codeAny_call_builtin (R:=wants (fun r q=>r= .none/\∃ (o:Obj) (h':WD) (tk:Nat),J items.size o/\h'.get? s.heap.objs.size=some o/\(∀b o,s.heap.get? b=some o->h'.get? b=some o)/\q={s with heap:=h',toks:=tk}) E) XZ.init.plain F.entry_set_init (check_set_init_1 hT ?_)) fun r₂ q d=>?_
   .have hsls:=F.sub_list_set;have hslf:=F.sub_list_frozenset;obtain⟨ocls,odict,odata,t⟩:=u;cases h;cases g;unfold Builtin.«set.__init__»
    wp_walk using wpAny_loadPart' a,UT aa
    have p:(s.heap.push (Dg w)).objs.size=s.heap.objs.size+ 1:=size_push' ..;have hlt:l < s.heap.objs.size:=Ye f;have hI:((s.heap.push (Dg w)).push {cls:=.type "list_iterator",data:=.fields #[.ref l,.int 0 0]}).get? (s.heap.push (Dg w)).objs.size=some {cls:=.type "list_iterator",data:=.fields #[.ref l,.int 0 0]}:=Yi _ rfl;refine uT (A:=A.in1.in1) (S:=s.heap.objs.size) (I:=(s.heap.push (Dg w)).objs.size) (l:=l) (items:=items) (h₀:=s.heap) (U:=A.units+ 8) hh (by rw[p];lia) (by rw[p];lia) (by lia) (Y6 _) (by rw[p];lia) (by show A.units+ 1+ 1+ 1 <=_;lia) J hs items.size 0 ⟨(s.heap.push (Dg w)).push {cls:=.type "list_iterator",data:=.fields #[.ref l,.int 0 0]},s.gens,s.drawn,s.toks,s.os⟩ rfl (Yj _) ⟨_,hI,rfl,rfl⟩ ⟨_,Y7 _ a,rfl,z,rfl⟩ (Dg w) h0 (Y7 _ hS) (fun b o e=>by exact Y7 _ (Y7 _ e)) fun o h' tk a1 a2 a3=>?_
    exact Y2 (Y2 ⟨rfl,o,h',tk,a1,a2,a3,rfl⟩)
   .cases r₂ with
    |error e=>exact d
    |ok fl₂=>
     cases fl₂ with
     |ret r=>
      obtain⟨rfl,o,h',tk,j1,j2,j3,rfl⟩:=d
      repeat (any_goals (first|assumption|wp_step))
      exact hQ o h' tk j1 j2 j3
     |_=>exact d.elim
  |_=>exact n.elim
end
abbrev R5(xs:Array Nat):Prop:=xs.toList.Pairwise (· < ·)
theorem A2{xs:Array Nat}(h:R5 xs){i k:Nat}(hik:i < k)(hk:k < xs.size)(d:Nat):xs.getD i d < xs.getD k d:=by
 have:=YY.mp h i k (by simpa using (by lia:i < xs.size)) (by simpa using hk) hik;simpa[Array.getD,hk,(by lia:i < xs.size)] using this
theorem y9{xs:Array Nat}(h:R5 xs)(j:Nat):∀ (f lo hi:Nat),lo <=hi->hi <=xs.size->hi - lo <=f->(∀i,i < lo->xs.getD i j < j)->(∀i,hi <=i->i < xs.size->j <=xs.getD i j)->
  SetTable.below.go xs j f lo hi <=xs.size/\(∀i,i < SetTable.below.go xs j f lo hi->xs.getD i j < j)/\∀i,SetTable.below.go xs j f lo hi <=i->i < xs.size->j <=xs.getD i j:=by
 intro f
 induction f with
 |zero=>
  intro lo hi h1 h2 d b a;obtain rfl:lo=hi:=by lia
  rw[SetTable.below.go];exact⟨h2,b,a⟩
 |succ f ih=>
  intro lo hi h1 h2 d b a;rw[SetTable.below.go]
  by_cases hl:lo < hi
  .rw[Y9 hl];dsimp only
   by_cases hm:xs.getD ((lo+ hi) / 2) j < j
   .rw[Y9 hm];refine ih _ _ (by lia) h2 (by lia) (fun i c=>?_) a
    by_cases he:i=(lo+ hi) / 2
    .rw[he];exact hm
    .exact Nat.lt_trans (A2 h (show i < (lo+ hi) / 2 by lia) (by lia) j) hm
   .rw[Y3 hm];refine ih _ _ (by lia) (by lia) (by lia) b fun i c hs=>?_
    by_cases he:i=(lo+ hi) / 2
    .rw[he];lia
    .have:=A2 h (show(lo+ hi) / 2 < i by lia) hs j
     lia
  .rw[Y3 hl];obtain rfl:lo=hi:=by lia
   exact⟨h2,b,a⟩
theorem Iw{xs:Array Nat}(h:R5 xs)(j:Nat):SetTable.below xs j <=xs.size/\(∀i,i < SetTable.below xs j->xs.getD i j < j)/\∀i,SetTable.below xs j <=i->i < xs.size->j <=xs.getD i j:=
 y9 h j xs.size 0 xs.size (Yj _) (Y6 _) (by lia) (fun i hi=>by lia) fun i a b=>by lia
theorem wS{xs:Array Nat}(h:R5 xs){j:Nat}(hj:xs[SetTable.below xs j]?≠some j):R5 (SetTable.insertAt xs (SetTable.below xs j) j):=by
 obtain⟨p,n,f⟩:=Iw h j;unfold R5;rw[SetTable.toList_insertAt];have b:∀i (hi:i < xs.size),xs.getD i j=xs.toList[i]'(by simpa using hi):=fun i hi=>by simp[Array.getD,hi]
 refine Yo.mpr ⟨h.sublist (Us ..),X2.mpr ⟨fun x e=>?_,h.sublist (Ua ..)⟩,fun x e y d=>?_⟩
 .obtain⟨i,hi,rfl⟩:=Vk e;rw[List.getElem_drop];have a:SetTable.below xs j+ i < xs.size:=by simpa using (by rw[X9]at hi;lia:SetTable.below xs j+ i < xs.toList.length)
  have:=f (SetTable.below xs j+ i) (by lia) a;rw[b _ a]at this
  by_cases h0:i=0
  .subst h0;rw[show SetTable.below xs j+ 0=SetTable.below xs j from rfl]at a;have o:xs[SetTable.below xs j]≠j:=fun z=>hj (by rw[YT a,z])
   simp at this ⊢
   lia
  .have h1:=A2 h (show SetTable.below xs j < SetTable.below xs j+ i by lia) a j;have h2:=f (SetTable.below xs j) (Y6 _) (by lia);rw[b _ a]at h1
   lia
 .obtain⟨i,hi,rfl⟩:=Vk e;rw[YC]at hi;have a:i < xs.size:=by simpa using (by lia:i < xs.toList.length)
  have h1:=n i (by lia);rw[b _ a]at h1;have l:(xs.toList.take (SetTable.below xs j))[i]'(by rw[YC];exact hi)=xs.toList[i]'(by simpa using a):=List.getElem_take ..;rw[l];rcases Yu.mp d with rfl|d
  .exact h1
  .obtain⟨k,g,rfl⟩:=Vk d;rw[List.getElem_drop];have c:SetTable.below xs j+ k < xs.size:=by simpa using (by rw[X9]at g;lia:SetTable.below xs j+ k < xs.toList.length)
   have h2:=f (SetTable.below xs j+ k) (by lia) c;rw[b _ c]at h2
   lia
structure Jp(w:Wx)(t:SetTable):Prop where
 led:t.led= !MC w
 dum:t.dummies=#[]
 ris:R5 t.place
theorem O8(j:Nat):SetTable.has #[] j=false:=rfl
theorem jB{t:SetTable}{j:Nat}(h:t.slot j= .empty):t.place[SetTable.below t.place j]?≠some j:=by
 unfold SetTable.slot at h;dsimp only at h;intro z;rw[Y9 (by rw[z];exact VL _)]at h;cases h
theorem Z4{t:SetTable}(hd:t.dummies=#[]){ha:Nat->Int}{h:Int}:∀ (f:Nat) (p:SetTable.Probe) (j:Nat) (d:Option Nat),p.dummy=none->SetTable.probe.go t ha h f p=some (.empty j d)->d=none/\t.slot j= .empty:=by
 intro f
 induction f with
 |zero=>intro p j d a h;rw[SetTable.probe.go]at h;cases h
 |succ f ih=>
  intro p j d a h;rw[SetTable.probe.go]at h;have ha:∀q:SetTable.Probe,q.dummy=none->(t.advance q).dummy=none:=fun q b=>by
   unfold SetTable.advance;split <;> first|exact b|(split;exact b)
  cases hs:t.slot p.j with
  |empty=>rw[hs]at h;cases h;exact⟨a,hs⟩
  |dummy=>
   exfalso
   unfold SetTable.slot at hs;dsimp only at hs;rw[hd]at hs
   split at hs
   .cases hs
   .rw[Y3 (by rw[O8];exact Yv)]at hs;cases hs
  |live i=>
   rw[hs]at h;dsimp only at h
   split at h
   .cases h
   .exact ih _ _ _ (ha p a) h
theorem Jp.put{w:Wx}{t:SetTable}(T:Jp w t){j:Nat}(hj:t.slot j= .empty):Jp w (t.put j).1:=by
 refine⟨T.led,?_,wS T.ris (jB hj)⟩;show(if SetTable.has t.dummies j=true then _ else t.dummies)=#[];rw[T.dum,Y3 (by rw[O8];exact Yv)]
theorem Jp.standIn{w:Wx}{t:SetTable}(T:Jp w t)(n:Nat):Jp w (t.standIn n):=by
 refine⟨T.led,rfl,?_⟩;show(Array.range n).toList.Pairwise (· < ·);rw[Array.toList_range];exact UZ
theorem Jp.orStandIn{w:Wx}{t:SetTable}(T:Jp w t)(n:Nat):Jp w (t.orStandIn n):=by
 unfold SetTable.orStandIn;split
 .exact T
 .exact T.standIn n
theorem Jp.new{w:Wx}{t:SetTable}(T:Jp w t)(es:Array (Int×Value))(h:Int)(x:Wz):Jp w (layNew t es h x).2.1:=by
 unfold layNew;cases hf:t.freeSlot h with
 |none=>exact T.standIn _
 |some z=>
  obtain⟨a,b⟩:=z;refine Jp.orStandIn (T.put ?_) _;unfold SetTable.freeSlot at hf
  split at hf
  .rename_i j d hp
   obtain⟨rfl,hs⟩:=Z4 T.dum _ _ _ _ rfl hp;cases hf;exact hs
  .cases hf
theorem Jp.laid{w:Wx}{t:SetTable}(T:Jp w t){hs:Array Int}{n:Nat}{t':SetTable}{o:Array Nat}(h:t.relaid hs n=some (t',o)):Jp w t':=by
 unfold SetTable.relaid SetTable.laid at h;obtain⟨f,_,h⟩:=Option.bind_eq_some_iff.mp h;cases h;refine⟨T.led,rfl,?_⟩;show List.Pairwise _ _;simp only[XX];refine VB.mpr (VW _ (R:=(· < ·)) (fun a i d b e g c=>?_) UZ);obtain⟨_,_,rfl⟩:=Yy.mp e;obtain⟨_,_,rfl⟩:=Yy.mp c;exact d
theorem Jp.relay{w:Wx}{t:SetTable}(T:Jp w t)(es:Array (Int×Value))(n:Nat):Jp w (relayAll t es n).2.1:=by
 unfold relayAll;cases hr:t.relaid (Array.map (fun x=>x.fst) es) n with
 |none=>exact T.standIn _
 |some z=>
  obtain⟨a,o⟩:=z;dsimp only
  split
  .exact T.laid hr
  .exact T.standIn _
def RL(e:Int×Value):Int:=match e.2 with| .int n _=>n|_=>0
def DC(w:Wx)(o:Obj)(m:WB):Prop:=∃es ep t,o.ExactSet/\o.data= .set es ep t/\(∀P,ElemsOf (intKind P w) es.toList)/\(es.toList.map RL).Perm m/\m.Nodup/\t.fits es.size=true/\Jp w t
section
variable{prog:Wt}{w:Wx}{A:Ww}{E:Wq}{s:Wu}
theorem Fj{k:Int}{v:Wz}(h:(intKind prog w).is k v=true):∃t,v= .int k t:=by
 cases v with
 |int i t=>exact⟨t,by have:i=k:=Xd h;rw[this]⟩
 |_=>cases h
theorem OW{o:Obj}{es:Array (Int×Value)}{ep:Nat}{t:SetTable}(hx:o.ExactSet):({cls:=o.cls,dict:=o.dict,data:=.set es ep t,slots:=o.slots}:Obj).isFreed=false:=by
 obtain⟨c,b,d,a⟩:=o;obtain⟨rfl,rfl,rfl⟩:=hx;rfl
theorem mJ{o:Obj}{es es1:Array (Int×Value)}{t1:SetTable}{m:WB}{n:Int}{tk:Tok}{ep':Nat}(hx:o.ExactSet)(he:∀P,ElemsOf (intKind P w) es.toList)(hp:(es.toList.map RL).Perm m)(hnd:m.Nodup)(hout:n∉m)(p1:es1.toList.Perm (es.push ((intKind prog w).hash n,Value.int n tk)).toList)(f1:t1.fits es1.size=true)(T1:Jp w t1):
  DC w {cls:=o.cls,dict:=o.dict,data:=Data.set es1 ep' t1,slots:=o.slots} (m++[n]):=by
 refine⟨es1,ep',t1,hx,rfl,fun P e h=>?_,?_,?_,f1,T1⟩
 .have h:=p1.mem_iff.mp h;rw[UW,Yb,Y8]at h;rcases h with h|rfl
  .exact he P e h
  .exact⟨⟨n,We ..,rfl⟩,rfl⟩
 .have:=p1.map RL;rw[UW,Yd]at this;exact this.trans (hp.append_right _)
 .exact VD.mpr ⟨hnd,by simp,fun a d b c=>by rw[Y8]at c;subst c;exact fun z=>hout (z▸d)⟩
theorem Q5{S:WA}{o:Obj}{es es1:Array (Int×Value)}{ep:Nat}{t t2:SetTable}{wd:Bool}{g:Bool->Sem Unit}(hg:∀ (b:Bool) (s₁:Wu) (Q':Wr),Q' () s₁->wpAny (model prog w) A (g b) Q' E s₁){R:Option Bool->Shared->Prop}(ho:s.heap.get? S=some o)(hx:o.ExactSet)(hd:o.data= .set es ep t)(hz:es1.size <=5000)(f2:t2.fits es1.size=true)(T2:Jp w t2)
  (hR:∀ (es':Array (Int×Value)) (t':SetTable) (ep':Nat) (h':WD),es'.toList.Perm es1.toList->t'.fits es'.size=true->Jp w t'->Heap.SameBut S s.heap h'->h'.get? S=some {cls:=o.cls,dict:=o.dict,data:=Data.set es' ep' t',slots:=o.slots}->R (some true) {s with heap:=h'}):
  wpAny (model prog w) A (do
   storeSet S es1 t2
   if(!wd && t2.tooFull)=true then do
     g (relayAll t2 es1 (SetTable.grown es1.size)).2.2
     storeSet S (relayAll t2 es1 (SetTable.grown es1.size)).1 (relayAll t2 es1 (SetTable.grown es1.size)).2.1
     pure (some true)
    else pure (some true)) R E s := by
 have e:∀n:Nat,n <=5000->n <=sizeLine:=fun n h=>by rw[Yh];lia
 refine Y0 (wpAny_storeSet_of ho hd ?_ (e _ hz));have d:(s.heap.update S (Obj.putSet es1 t2)).get? S=some {cls:=o.cls,dict:=o.dict,data:=Data.set es1 (ep+ 1) t2,slots:=o.slots}:=by
  have q:=putSet_of es1 t2 hd;rw[YM _ ho (by rw[q];exact OW hx),q]
 have f:Heap.SameBut S s.heap (s.heap.update S (Obj.putSet es1 t2)):=⟨X5 ..,fun b a=>YX _ _ _ _ a⟩
 by_cases hc:(!wd && t2.tooFull)=true
 .rw[Y9 hc];refine Y0 (hg _ _ _ (Y0 (wpAny_storeSet_of d rfl (Y2 ?_) ?_)))
  .have c:=relayAll_perm t2 es1 (SetTable.grown es1.size);refine hR _ _ (ep+ 2) _ c (relayAll_fits ..) (T2.relay ..) ⟨?_,fun b a=>?_⟩ ?_
   .rw[X5,X5]
   .rw[YX _ _ _ _ a];exact f.2 b a
   .have q:=putSet_of (o:={cls:=o.cls,dict:=o.dict,data:=Data.set es1 (ep+ 1) t2,slots:=o.slots}) (relayAll t2 es1 (SetTable.grown es1.size)).1 (relayAll t2 es1 (SetTable.grown es1.size)).2.1 rfl;rw[YM _ d (by rw[q];exact OW hx),q]
  .have c:=(relayAll_perm t2 es1 (SetTable.grown es1.size)).length_eq;simp only[Array.length_toList]at c;exact e _ (by lia)
 .rw[Y3 hc];exact Y2 (hR _ _ _ _ (Wb _) f2 T2 f d)
theorem nX{S:WA}{o:Obj}{m:WB}{n:Int}{tk:Tok}{Q:Bool->Shared->Prop}(hS:DC w o m)(hb:m.length+ 1 < scanBound)(ho:s.heap.get? S=some o)
  (hQ:∀ (b:Bool) (o':Obj) (h':WD) (tk':Nat),DC w o' (if n∈m then m else m++[n])->Heap.SameBut S s.heap h'->h'.get? S=some o'->Q b {s with heap:=h',toks:=tk'}):
  wpAny (model prog w) A (setAdd S (.int n tk)) Q E s:=by
 obtain⟨es,ep,t,hx,hd,u,hp,hnd,hf,T⟩:=hS;have hsz:es.size=m.length:=by rw[<-Array.length_toList,<-hp.length_eq,Y1]
 have r:(∃e∈es.toList,(intKind prog w).is n e.2=true)↔n∈m:=by
  rw[<-hp.mem_iff,Yw];constructor
  .rintro⟨e,h1,h2⟩;obtain⟨t,h3⟩:=Fj h2;exact⟨e,h1,by unfold RL;rw[h3]⟩
  .rintro⟨e,h1,h2⟩;obtain⟨⟨k,h3,_⟩,_⟩:=u prog e h1;obtain⟨t,h4⟩:=Fj h3;unfold RL at h2;rw[h4]at h2;refine⟨e,h1,?_⟩;rw[h4,<-h2];exact We ..
 unfold setAdd;refine X0 (Y0 ((intKind prog w).pyHash (k:=n) (We ..) ?_));unfold setAddHashed;refine X0 ?_;show wpAny _ _ (setAddHashedIn S (.int n tk) ((intKind prog w).hash n) (99999+ 1)) _ _ _;unfold setAddHashedIn;refine Y0 (X1 ho hd hf ?_);dsimp only;rw[Y9 (byScan_of (knd:=intKind prog w) rfl (by lia) (u prog))];refine Y0 ?_;unfold setAddByScan;refine Y0 (XO (Y0 (wpAny_setScan_of (knd:=intKind prog w) (k:=n) (We ..) ho hd hf (u prog) ?_)));cases hfi:List.findIdx? (fun e=>(intKind prog w).is n e.2) es.toList with
 |some j=>
  have hin : n ∈ m := r.mp (by
   rw [List.findIdx?_eq_some_iff_getElem] at hfi;obtain ⟨hj, h1, _⟩ := hfi;exact ⟨_, Xw hj, h1⟩)
  refine Y2 (Y2 (hQ false o s.heap _ ?_ ⟨rfl,fun _ _=>rfl⟩ ho));rw[Y9 hin];exact⟨es,ep,t,hx,hd,u,hp,hnd,hf,T⟩
 |none=>
  have q:n∉m:=fun z=>by
   obtain⟨e,h1,h2⟩:=r.mpr z;rw[List.findIdx?_eq_none_iff]at hfi;rw[hfi e h1]at h2;cases h2
  rw[Y3 q]at hQ;have T1:=T.new es ((intKind prog w).hash n) (.int n tk);have f1:=layNew_fits t es ((intKind prog w).hash n) (.int n tk);have p1:=layNew_perm t es ((intKind prog w).hash n) (.int n tk);dsimp only;generalize layNew t es ((intKind prog w).hash n) (.int n tk)=z at T1 f1 p1 ⊢;obtain⟨es1,t1,wd,gv⟩:=z;dsimp only at T1 f1 p1 ⊢;have gw:∀ (b:Bool) (s₁:Wu) (Q':Wr),Q' () s₁->wpAny (model prog w) A (match b with|true=>rule "set.scan.the-table-gave-way"|false=>pure ()) Q' E s₁:=fun b s₁ Q' h=>by
   cases b
   .exact Y2 h
   .exact XO h
  have hz1:es1.size=m.length+ 1:=by
   have:=p1.length_eq;simp only[Array.length_toList,Array.size_push]at this
   lia
  have fin:∀ (a:Array (Int×Value)) (d:SetTable) (c:Nat) (h':WD) (tk':Nat),a.toList.Perm es1.toList->d.fits a.size=true->Jp w d->Heap.SameBut S s.heap h'->h'.get? S=some {cls:=o.cls,dict:=o.dict,data:=Data.set a c d,slots:=o.slots}->Q true {s with heap:=h',toks:=tk'}:=fun a d c h' tk' p l i g f=>hQ true _ h' tk' (mJ hx u hp hnd q (p.trans p1) l i) g f
  refine Y0 (gw gv _ _ ?_)
  by_cases hpl:t1.plain=true
  .rw[Y9 hpl];refine Y0 (Y2 ?_);exact Q5 (s:={s with toks:=s.toks+ 1}) (t2:=t1) gw ho hx hd (by have:scanBound=4096:=rfl;lia) f1 T1 fun a d c h' p l i g f=>Y2 (fin a d c h' _ p l i g f)
  .rw[Y3 hpl];refine Y0 (Y2 ?_);exact Q5 (s:={s with toks:=s.toks+ 1}) (t2:=t1) gw ho hx hd (by have:scanBound=4096:=rfl;lia) f1 T1 fun a d c h' p l i g f=>Y2 (fin a d c h' _ p l i g f)
end
theorem WS:Slot "set_iterator" (Str.ofString "__next__") "set_iterator.__next__":=by
 refine Slot.of (owner:="set_iterator") (n:="__next__") (by rw[typeLookup_type,builtinLookup_eq_fast];kernel_rfl) (by kernel_rfl) (by kernel_rfl) (by kernel_rfl) (Or.inl (by kernel_rfl)) (by rw[isSubtype_type];kernel_rfl) (by kernel_rfl)
theorem CD(a:Wz):argsOk "set_iterator.__next__" ⟨[a],[]⟩:=by
 unfold argsOk
 first|kernel_rfl|(rw[signature?_of (id':="set_iterator.__next__") (by kernel_rfl)];kernel_rfl)|trace_state
def TJ(f:Wz)(i:Nat)(S:WA)(n ep:Nat):Obj:={cls:=.type "set_iterator",data:=.fields #[f,.int i 0,.ref S,.int n 0,.int ep 0]}
section
variable{prog:Wt}{w:Wx}{A:Ww}{E:Wq}{s:Wu}{S I:WA}{o:Obj}{es:Array (Int×Value)}{ep i:Nat}{t:SetTable}{f:Wz}
theorem Lw{Q:Bool->Shared->Prop}(hT:s.TypeIs (.ref S) "set")(h:Q false s):wpAny (model prog w) A (Builtin.List.listLengthHint (.ref S)) Q E s:=by
 unfold Builtin.List.listLengthHint;refine Y0 (wpAny_specialOf hT F.slot_set_len.lookup ?_);dsimp only;rw[show splitId "set.__len__"=some ("set","__len__") by kernel_rfl];refine Y0 (V3 hT XZ.sub ?_);simp only[Bool.not_true,Bool.false_eq_true,if_false];exact Uy (by kernel_rfl) (Y0 (wpAny_typeOf hT (Y2 h)))
theorem PZ{α:Type}{xs:List α}{k:Nat}(h:k < xs.length):(xs[k]::xs.eraseIdx k).Perm xs:=by
 rw[List.eraseIdx_eq_take_drop_succ];refine List.perm_middle.symm.trans ?_;rw[List.getElem_cons_drop,YG]
theorem xB{α:Type}{Q:List α->Shared->Prop}:∀ (n:Nat) (xs:List α) (s:Wu),xs.length <=n->(∀ys d,ys.Perm xs->Q ys {s with drawn:=d})->wpAny (model prog w) A (drawOrder n xs) Q E s:=by
 intro n
 induction n generalizing Q with
 |zero=>
  intro xs s g c;obtain rfl:xs=[]:=Xj (by lia);exact Y2 (c [] s.drawn (Wb _))
 |succ n ih=>
  intro xs s g c;cases xs with
  |nil=>exact Y2 (c [] s.drawn (Wb _))
  |cons x xs=>
   unfold drawOrder;refine Y0 (fun Γ p e=>?_);unfold choose;rw[Sem.wp_choose];refine⟨by simp,?_⟩;have b:(model prog w).w.draws Source.order (s.drawn.get Source.order)%(x::xs).length < (x::xs).length:=VI _ (by simp);generalize (model prog w).w.draws Source.order (s.drawn.get Source.order)%(x::xs).length=k at b;refine Y2 (M:=model prog w) (A:=A) (a:=k) (Q:=fun i s'=>wpAny (model prog w) A _ Q E s') ?_ Γ p e;rw[Y5 b];refine Y0 (ih _ _ (by rw[Vx b];lia) fun ys d f=>Y2 (c _ d ?_));exact(f.cons _).trans (PZ b)
theorem Zs{Q:Wq}(ho:s.heap.get? S=some o)(hx:o.ExactSet)(hd:o.data= .set es ep t)(hf:t.fits es.size=true)(hz:es.size <=5000)
  (hB:MC w=false->(t.plain=false/\1 < es.size)->∀ (ys:List Nat) d,ys.Perm (List.range es.size)->Q (.ref (s.heap.objs.size+ 1)) {s with drawn:=d,heap:=(s.heap.push {cls:=.type "tuple",data:=.seq (ys.map fun i:Nat=>Value.int (i:Int) 0).toArray 0}).push (TJ (.ref s.heap.objs.size) 0 S es.size ep)})
  (hA:(MC w=true\/t.plain=true\/es.size <=1)->Q (.ref s.heap.objs.size) {s with heap:=s.heap.push (TJ (.int 0 0) 0 S es.size ep)}):wpAny (model prog w) A (pyIter (.ref S)) Q E s:=by
 have c:s.TypeIs (.ref S) "set":=⟨o,ho,hx.1⟩
 refine UU c F.slot_set_iter (X4 F.slot_set_iter c Z0 ?_ (F.args_set_iter_1 _));unfold Builtin.«frozenset.__iter__»;refine Y0 (Y0 (Y2 (Y2 ?_)));refine Y0 (Y0 (Y0 (X1 ho hd hf (Y2 (Y2 ?_)))));unfold setDrawn setsByText;refine Y0 (Y0 (X1 ho hd hf (Y0 (Y0 (Uj (Y2 (Y2 ?_)))))))
 by_cases hc:(!MC w && (!t.plain && decide (es.size > 1)))=true
 .simp only[YN,Ut,Yt]at hc;refine Uy (Yq (show(!MC w && (!t.plain && decide (es.size > 1)))=true by simp[hc])) ?_;refine Y0 (xB _ _ _ (by simp) fun ys d a=>?_);refine Y0 (Wa ?_ (by rw[Y1,a.length_eq,YV,Yh];dsimp only;lia));have b:(s.heap.push {cls:=.type "tuple",data:=.seq (ys.map fun i:Nat=>rawInt (i:Int)).toArray 0}).get? S=some o:=Y7 _ ho;refine Y0 (Y0 (X1 b hd hf (Y2 ?_)));refine Y0 (YS (Y2 ⟨_,rfl,"set_iterator",_,⟨_,Yi _ rfl,rfl⟩,WS.lookup,?_⟩));have:=hB hc.1 hc.2 ys d a;rw[<-size_push' s.heap {cls:=.type "tuple",data:=.seq (ys.map fun i:Nat=>Value.int (i:Int) 0).toArray 0}]at this;exact this
 .refine Xh (Ys (show ¬(!MC w && (!t.plain && decide (es.size > 1)))=true from hc)) ?_;refine Y0 (Y2 (Y0 (Y0 (X1 ho hd hf (Y2 ?_)))));refine Y0 (YS (Y2 ⟨_,rfl,"set_iterator",_,⟨_,Yi _ rfl,rfl⟩,WS.lookup,?_⟩));refine hA ?_;cases hb:MC w
  .cases a:t.plain
   .refine .inr (.inr ?_);simp[hb,a]at hc;exact hc
   .exact .inr (.inl rfl)
  .exact .inl rfl
theorem ZT{h:WD}{f g:Wz}{n k:Nat}(hit:h.get? I=some (TJ f i S n ep)):((h.update I (Obj.mapFields (·.setIfInBounds 0 g))).update I (Obj.mapFields (·.setIfInBounds 1 (rawInt (k:Int))))).get? I=some (TJ g k S n ep):=by
 have h1:(h.update I (Obj.mapFields (·.setIfInBounds 0 g))).get? I=some (TJ g i S n ep):=by
  rw[YM _ hit rfl];rfl
 rw[YM _ h1 rfl];rfl
theorem jQ{h:WD}{f:Wz}{n k:Nat}(hit:h.get? I=some (TJ f i S n ep)):(h.update I (Obj.mapFields (·.setIfInBounds 1 (rawInt (k:Int))))).get? I=some (TJ f k S n ep):=by
 rw[YM _ hit rfl];rfl
theorem Oc{Q:Option Value->Shared->Prop}{slot nx:Nat}{x:Wz}(hit:s.heap.get? I=some (TJ (.int slot 0) i S es.size ep))(ho:s.heap.get? S=some o)(hd:o.data= .set es ep t)(hf:t.fits es.size=true)
  (hn:∀ (A':Ww) (E':Wq) (Q':Option (Value×Nat)->Shared->Prop),Q' (some (x,nx)) s->wpAny (model prog w) A' (setNext S slot i ep) Q' E' s)
  (hQ:∀h',h'.get? I=some (TJ (.int nx 0) (i+ 1) S es.size ep)->Heap.SameBut I s.heap h'->Q (some x) {s with heap:=h'}):wpAny (model prog w) A (pyNext (.ref I)) Q E s:=by
 have c:s.TypeIs (.ref I) "set_iterator":=⟨_,hit,rfl⟩
 unfold pyNext;refine Y0 (U8 (XA (name:=Str.ofString "__next__") c WS (X4 WS c Az ?_ (CD _))));unfold Builtin.«set_iterator.__next__»;refine Y0 (Y2 (Y0 (Uw hit rfl ?_)));refine(?_:wpAny _ _ (setEntries S >>=_) _ _ _);refine Y0 (Y0 (X1 ho hd hf (Y2 ?_)));refine Xh (by simp) ?_;refine Y0 ?_;simp only[Xl];refine hn _ _ _ ?_;refine Y0 (XY hit rfl (by simp) ?_);have h1:(s.heap.update I (Obj.mapFields (·.setIfInBounds 0 (rawInt (nx:Int))))).get? I=some (TJ (.int nx 0) i S es.size ep):=by
  rw[YM _ hit rfl];rfl
 refine Y0 (XY h1 rfl (by simp) ?_);refine Y2 ⟨_,rfl,Y2 (hQ _ ?_ ?_)⟩
 .exact ZT (g:=.int nx 0) (k:=i+ 1) hit
 .exact⟨by rw[X5,X5],fun b a=>by rw[YX _ _ _ _ a,YX _ _ _ _ a]⟩
theorem Pg{Q:Option Value->Shared->Prop}{slot:Nat}(hh:A.handled=none)(hit:s.heap.get? I=some (TJ (.int slot 0) i S es.size ep))(ho:s.heap.get? S=some o)(hd:o.data= .set es ep t)(hf:t.fits es.size=true)
  (hn:∀ (A':Ww) (E':Wq) (Q':Option (Value×Nat)->Shared->Prop),Q' none s->wpAny (model prog w) A' (setNext S slot i ep) Q' E' s)
  (hQ:∀h',Heap.ExtBut I s.heap h'->Q none {s with heap:=h'}):wpAny (model prog w) A (pyNext (.ref I)) Q E s:=by
 have c:s.TypeIs (.ref I) "set_iterator":=⟨_,hit,rfl⟩
 unfold pyNext;refine Y0 (U8 (XA (name:=Str.ofString "__next__") c WS (X4 WS c Az ?_ (CD _))));unfold Builtin.«set_iterator.__next__»;refine Y0 (Y2 (Y0 (Uw hit rfl ?_)));refine(?_:wpAny _ _ (setEntries S >>=_) _ _ _);refine Y0 (Y0 (X1 ho hd hf (Y2 ?_)));refine Xh (by simp) ?_;refine Y0 ?_;simp only[Xl];refine hn _ _ _ ?_;refine Y0 (XY hit rfl (by simp) ?_);refine(?_:wpAny _ _ (newExc (.type "StopIteration") [] >>=_) _ _ _);refine Y0 ?_;simp only[newExc,newTuple];refine Y0 (YS (Y0 (m:=firstArgMember _ _) (UX (a:=Value.none) (by first|rfl|(simp only[firstArgMember];rfl)) (YS ?_ (by size_fits)))) (by size_fits));simp only[raiseNew];refine Y0 (wpAny_handled ?_);rw[show A.in1.handled=none from hh];refine Y0 (Y2 (wpAny_throw ?_));exact Y0 (V3 (T:="StopIteration") (b:=true) ⟨_,Yi _ rfl,rfl⟩ W7 (Y2 (hQ _ (((Vj ..).extBut.push _).push _))))
theorem Lb{Q:Option (Value×Nat)->Shared->Prop}{slot:Nat}(hb:MC w=true)(ho:s.heap.get? S=some o)(hd:o.data= .set es ep t)(hf:t.fits es.size=true)(hQ:Q ((pickOrder (w.params.setOrder S ep) es)[i]?.map fun e=>(e.2,slot)) s):wpAny (model prog w) A (setNext S slot i ep) Q E s:=by
 unfold setNext setsByText;refine Y0 (X1 ho hd hf (Y0 (Y0 (Uj (Y2 ?_)))));refine Uy (Yq (show MC w=true from hb)) ?_;refine Xh (by simp) ?_;unfold setWalk setsByText;refine Y0 (Y0 (X1 ho hd hf (Y0 (Y0 (Uj (Y2 ?_))))));refine Uy (Yq (show MC w=true from hb)) ?_;exact Y0 (Uj (Y2 (Y2 hQ)))
theorem LH{Q:Option (Value×Nat)->Shared->Prop}{slot:Nat}(hb:MC w=false)(hp:t.plain=true\/es.size <=1)(hl:t.led=true)(ho:s.heap.get? S=some o)(hd:o.data= .set es ep t)(hf:t.fits es.size=true)
  (hQ:Q (match es[SetTable.below t.place slot]?,t.place[SetTable.below t.place slot]? with|some (_,x),some j=>some (x,j+ 1)|_,_=>none) s):wpAny (model prog w) A (setNext S slot i ep) Q E s:=by
 unfold setNext setsByText;refine Y0 (X1 ho hd hf (Y0 (Y0 (Uj (Y2 ?_)))));refine Xh (Ys (show ¬MC w=true by simp[hb])) ?_;refine Xh (Ys (show ¬(!t.plain && decide (es.size > 1))=true from fun z=>?_)) ?_
 .simp only[YN,Ut,Yt]at z;rcases hp with hp|hp
  .rw[hp]at z;cases z.1
  .lia
 refine Y0 (Xh (Ys (show ¬(!t.led && !es.isEmpty)=true by simp[hl])) (Y2 ?_));exact Y2 hQ
end
theorem Ph:Slot "set_iterator" (Str.ofString "__iter__") "set_iterator.__iter__":=
 Slot.of (owner:="set_iterator") (n:="__iter__") (by rw[typeLookup_type,builtinLookup_eq_fast];kernel_rfl) (by kernel_rfl) (by kernel_rfl) (by kernel_rfl) (Or.inl (by kernel_rfl)) (by rw[isSubtype_type];kernel_rfl) (by kernel_rfl)
theorem xY:entryFor table "set_iterator.__iter__"=some Builtin.«dict_keyiterator.__iter__»:=entryFor_alias (id':="dict_keyiterator.__iter__") (by kernel_rfl) rfl (by kernel_rfl) (by kernel_rfl)
theorem mN(a:Wz):argsOk "set_iterator.__iter__" ⟨[a],[]⟩:=by
 unfold argsOk;kernel_rfl
theorem nO{α:Type}(next:Nat->Nat):∀ (f k:Nat) (left:List α) (out:Array α),left.length <=f->(pickOrder.go next f k left out).toList.Perm (out.toList++left):=by
 intro f
 induction f with
 |zero=>
  intro k left out h;obtain rfl:left=[]:=Xj (by lia);rw[pickOrder.go,List.append_nil]
 |succ f ih=>
  intro k left out h;rw[pickOrder.go];cases left with
  |nil=>simp
  |cons x xs=>
   have a:next k%(x::xs).length < (x::xs).length:=VI _ (by simp);generalize next k%(x::xs).length=j at a;rw[Y5 a];dsimp only;refine(ih _ _ _ (by rw[Vx a];lia)).trans ?_;rw[UW,List.append_assoc];exact(PZ a).append_left _
theorem Ah{α:Type}(next:Nat->Nat)(xs:Array α):(pickOrder next xs).toList.Perm xs.toList:=by
 have:=nO next xs.size 0 xs.toList #[] (by simp);simpa[pickOrder] using this
theorem yB{xs:Array Nat}(h:R5 xs):SetTable.below xs 0=0:=by
 obtain⟨_,a,_⟩:=Iw h 0;rcases Nat.eq_zero_or_pos (SetTable.below xs 0) with e|e
 .exact e
 .have:=a 0 e;lia
theorem xI{xs:Array Nat}(h:R5 xs){i:Nat}(hi:i < xs.size):SetTable.below xs (xs[i]+ 1)=i+ 1:=by
 obtain⟨f,b,a⟩:=Iw h (xs[i]+ 1);have e:∀d,xs.getD i d=xs[i]:=fun d=>by simp[Array.getD,hi]
 rcases Nat.lt_trichotomy (SetTable.below xs (xs[i]+ 1)) (i+ 1) with c|c|c
 .have:=a i (by lia) hi;rw[e]at this;lia
 .exact c
 .have h1:=b (i+ 1) c;have h2:=A2 h (Ue i) (show i+ 1 < xs.size by lia) (xs[i]+ 1);rw[e]at h2;lia
section
variable{prog:Wt}{w:Wx}{A:Ww}{E:Wq}{s:Wu}{S I T0:WA}{o:Obj}{es:Array (Int×Value)}{ep i:Nat}{t:SetTable}{f:Wz}
theorem Zb{Q:Option Value->Shared->Prop}{ys:List Nat}{k:Nat}{e:Int×Value}(hit:s.heap.get? I=some (TJ (.ref T0) i S es.size ep))(h0:s.heap.get? T0=some {cls:=.type "tuple",data:=.seq (ys.map fun i:Nat=>Value.int (i:Int) 0).toArray 0})(ho:s.heap.get? S=some o)(hd:o.data= .set es ep t)(hf:t.fits es.size=true)(hk:ys[i]?=some k)(he:es[k]?=some e)
  (hQ:∀h',h'.get? I=some (TJ (.ref T0) (i+ 1) S es.size ep)->Heap.SameBut I s.heap h'->Q (some e.2) {s with heap:=h'}):wpAny (model prog w) A (pyNext (.ref I)) Q E s:=by
 have a:s.TypeIs (.ref I) "set_iterator":=⟨_,hit,rfl⟩
 unfold pyNext;refine Y0 (U8 (XA (name:=Str.ofString "__next__") a WS (X4 WS a Az ?_ (CD _))));unfold Builtin.«set_iterator.__next__»;refine Y0 (Y2 (Y0 (Uw hit rfl ?_)));refine(?_:wpAny _ _ (setEntries S >>=_) _ _ _);refine Y0 (Y0 (X1 ho hd hf (Y2 ?_)));refine Xh (by simp) ?_;refine(?_:wpAny _ _ (seqItems? (.ref T0) >>=_) _ _ _);refine Y0 (Y0 (Wd h0 (Y2 ?_)));have d:(ys.map fun i:Nat=>Value.int (i:Int) 0).toArray[i]?=some (.int k 0):=by simp[hk]
 simp only[Xl,d];unfold setNextDrawn;refine Y0 (Y0 (X1 ho hd hf ?_));refine Xh (by simp) ?_;simp only[Xl,he];refine Y2 ?_;refine Y0 (XY hit rfl (by simp) ?_);refine Y2 ⟨_,rfl,Y2 (hQ _ ?_ ?_)⟩
 .exact jQ (k:=i+ 1) hit
 .exact⟨by rw[X5],fun b c=>by rw[YX _ _ _ _ c]⟩
theorem ZL{Q:Option Value->Shared->Prop}{ys:List Nat}(hh:A.handled=none)(hit:s.heap.get? I=some (TJ (.ref T0) i S es.size ep))(h0:s.heap.get? T0=some {cls:=.type "tuple",data:=.seq (ys.map fun i:Nat=>Value.int (i:Int) 0).toArray 0})(ho:s.heap.get? S=some o)(hd:o.data= .set es ep t)(hf:t.fits es.size=true)(hk:ys[i]?=none)
  (hQ:∀h',Heap.ExtBut I s.heap h'->Q none {s with heap:=h'}):wpAny (model prog w) A (pyNext (.ref I)) Q E s:=by
 have d:s.TypeIs (.ref I) "set_iterator":=⟨_,hit,rfl⟩
 unfold pyNext;refine Y0 (U8 (XA (name:=Str.ofString "__next__") d WS (X4 WS d Az ?_ (CD _))));unfold Builtin.«set_iterator.__next__»;refine Y0 (Y2 (Y0 (Uw hit rfl ?_)));refine(?_:wpAny _ _ (setEntries S >>=_) _ _ _);refine Y0 (Y0 (X1 ho hd hf (Y2 ?_)));refine Xh (by simp) ?_;refine(?_:wpAny _ _ (seqItems? (.ref T0) >>=_) _ _ _);refine Y0 (Y0 (Wd h0 (Y2 ?_)));have f:(ys.map fun i:Nat=>Value.int (i:Int) 0).toArray[i]?=none:=by
  simpa using hk
 simp only[Xl,f];refine Y0 (XY hit rfl (by simp) ?_);have h1:(s.heap.update I (Obj.mapFields (·.setIfInBounds 0 (rawInt 0)))).get? I=some (TJ (.int 0 0) i S es.size ep):=by
  rw[YM _ hit rfl];rfl
 refine Y0 (XY h1 rfl (by simp) ?_);refine(?_:wpAny _ _ (newExc (.type "StopIteration") [] >>=_) _ _ _);refine Y0 ?_;simp only[newExc,newTuple];refine Y0 (YS (Y0 (m:=firstArgMember _ _) (UX (a:=Value.none) (by first|rfl|(simp only[firstArgMember];rfl)) (YS ?_ (by size_fits)))) (by size_fits));simp only[raiseNew];refine Y0 (wpAny_handled ?_);rw[show A.in1.handled=none from hh];refine Y0 (Y2 (wpAny_throw ?_));refine Y0 (V3 (T:="StopIteration") (b:=true) ⟨_,Yi _ rfl,rfl⟩ W7 (Y2 (hQ _ (Heap.ExtBut.push (Heap.ExtBut.push (fun b o c e=>?_) _) _))));rw[YX _ _ _ _ c,YX _ _ _ _ c];exact e
theorem Hh{Q:Wq}(h:s.heap.get? I=some (TJ f i S es.size ep))(hQ:Q (.ref I) s):wpAny (model prog w) A (pyIter (.ref I)) Q E s:=by
 have a:s.TypeIs (.ref I) "set_iterator":=⟨_,h,rfl⟩
 exact UU a Ph (X4 Ph a xY (Y2 ⟨_,rfl,"set_iterator",_,a,WS.lookup,hQ⟩) (mN _))
variable(hh:A.handled=none)(hSI:S≠I)(hd:o.data= .set es ep t)(hf:t.fits es.size=true)
include hh hSI hd hf
theorem uX(hb:MC w=true):Walks prog w A I [I,S] [I] es.size (fun i v=>((pickOrder (w.params.setOrder S ep) es).toList.map (·.2))[i]?=some v) (fun i h=>h.get? I=some (TJ (.int 0 0) i S es.size ep)/\h.get? S=some o) where
 sub:=fun b hb=>by simp at hb;simp[hb]
 frame:=fun _ _ _ st c=>⟨c I (by simp) _ st.1,c S (by simp) _ st.2⟩
 item:=fun i s Q E hi st a=>by
  have f:(pickOrder (w.params.setOrder S ep) es).size=es.size:=by simpa using (Ah (w.params.setOrder S ep) es).length_eq
  have d:(pickOrder (w.params.setOrder S ep) es)[i]?=some ((pickOrder (w.params.setOrder S ep) es)[i]'(by lia)):=YT (by lia);refine Oc (slot:=0) (nx:=0) (x:=((pickOrder (w.params.setOrder S ep) es)[i]'(by lia)).2) st.1 st.2 hd hf (fun A' l j h=>Lb hb st.2 hd hf (by rw[d];exact h)) fun h' h1 h2=>?_
  exact a _ h' s.toks (by rw[Yf,Array.getElem?_toList,d];rfl) ⟨h1,(h2.2 S hSI).trans st.2⟩ fun b o hb e=>(h2.2 b (by simpa using hb)).trans e
 done:=fun s Q E st a=>by
  have f:(pickOrder (w.params.setOrder S ep) es).size=es.size:=by simpa using (Ah (w.params.setOrder S ep) es).length_eq
  exact Pg (slot:=0) hh st.1 st.2 hd hf (fun A' l j h=>Lb hb st.2 hd hf (by rw[UY (by lia)];exact h)) fun h' g=>a h' s.toks fun b o hb e=>g b o (by simpa using hb) e
 self:=fun _ _ _ _ st a=>Hh st.1 a
theorem wK(hb:MC w=false)(hp:t.plain=true\/es.size <=1)(T:Jp w t):Walks prog w A I [I,S] [I] es.size (fun i v=>(es.toList.map (·.2))[i]?=some v) (fun i h=>(∃slot:Nat,h.get? I=some (TJ (.int slot 0) i S es.size ep)/\SetTable.below t.place slot=i)/\h.get? S=some o) where
 sub:=fun b hb=>by simp at hb;simp[hb]
 frame:=fun _ _ _ st g=>⟨st.1.imp fun _ q=>⟨g I (by simp) _ q.1,q.2⟩,g S (by simp) _ st.2⟩
 item:=fun i s Q E hi st c=>by
  obtain⟨⟨slot,h1,h2⟩,a⟩:=st;have f:t.led=true:=by rw[T.led,hb];rfl
  have u:t.place.size=es.size:=by
   have:=hf;unfold SetTable.fits at this;simp at this;exact this.1
  have d:i < t.place.size:=by lia
  refine Oc (slot:=slot) (nx:=t.place[i]+ 1) (x:=es[i].2) h1 a hd hf (fun A' r p h=>LH hb hp f a hd hf (by rw[h2,YT hi,YT d];exact h)) fun h' n j=>?_
  exact c _ h' s.toks (by rw[Yf,Array.getElem?_toList,YT hi];rfl) ⟨⟨_,n,xI T.ris d⟩,(j.2 S hSI).trans a⟩ fun b o hb e=>(j.2 b (by simpa using hb)).trans e
 done:=fun s Q E st c=>by
  obtain⟨⟨slot,h1,h2⟩,a⟩:=st;have f:t.led=true:=by rw[T.led,hb];rfl
  exact Pg (slot:=slot) hh h1 a hd hf (fun A' r p h=>LH hb hp f a hd hf (by rw[h2,UY (Y6 _)];exact h)) fun h' l=>c h' s.toks fun b o hb e=>l b o (by simpa using hb) e
 self:=fun _ _ _ _ st c=>by obtain⟨⟨slot,h1,h2⟩,a⟩:=st;exact Hh h1 c
theorem jI{ys:List Nat}(hT0:T0≠I)(hy:ys.Perm (List.range es.size)):Walks prog w A I [I,S,T0] [I] es.size (fun i v=>(ys.map fun k=>(es.toList.map (·.2)).getD k .none)[i]?=some v) (fun i h=>h.get? I=some (TJ (.ref T0) i S es.size ep)/\h.get? T0=some {cls:=.type "tuple",data:=.seq (ys.map fun i:Nat=>Value.int (i:Int) 0).toArray 0}/\h.get? S=some o) where
 sub:=fun b c=>by simp at c;simp[c]
 frame:=fun _ _ _ st a=>⟨a I (by simp) _ st.1,a T0 (by simp) _ st.2.1,a S (by simp) _ st.2.2⟩
 item:=fun i s Q E hi st d=>by
  have g:ys.length=es.size:=by rw[hy.length_eq,YV]
  have f:ys[i]?=some (ys[i]'(by lia)):=Y5 (by lia);have a:ys[i]'(by lia) < es.size:=by simpa using hy.mem_iff.mp (Xw (l:=ys) (n:=i) (by lia))
  refine Zb st.1 st.2.1 st.2.2 hd hf f (YT a) fun h' h1 h2=>?_
  refine d _ h' s.toks ?_ ⟨h1,(h2.2 T0 hT0).trans st.2.1,(h2.2 S hSI).trans st.2.2⟩ fun b o c e=>(h2.2 b (by simpa using c)).trans e
  rw[Yf,f];simp[YJ,a]
 done:=fun s Q E st d=>by
  have g:ys.length=es.size:=by rw[hy.length_eq,YV]
  exact ZL hh st.1 st.2.1 st.2.2 hd hf (U6 (by lia)) fun h' j=>d h' s.toks fun b o c e=>j b o (by simpa using c) e
 self:=fun _ _ _ _ st d=>Hh st.1 d
end
section
variable{prog:Wt}{w:Wx}{A:Ww}{E:Wq}{s:Wu}{S:WA}{o:Obj}{es:Array (Int×Value)}{ep:Nat}{t:SetTable}
theorem PM{L:WA}{c:Nat}{Q:Wr}(h:s.heap.get? L=some {cls:=.type "list",data:=.seq #[] c})
  (hQ:∀ (h':WD) (c':Nat),Heap.SameBut L s.heap h'->h'.get? L=some {cls:=.type "list",data:=.seq #[] c'}->Q () {s with heap:=h'}):wpAny (model prog w) A (Builtin.List.listTouch (.ref L)) Q E s:=by
 unfold Builtin.List.listTouch;refine Y0 (UH h rfl ?_);have h2:=YM (Obj.mapSeq fun x=>x.push Value.none) h rfl;refine UH h2 rfl ?_;have d:=YM (Obj.mapSeq fun x=>x.pop) h2 rfl;exact hQ _ _ ⟨by rw[X5,X5],fun b a=>by rw[YX _ _ _ _ a,YX _ _ _ _ a]⟩ d
theorem Kw{I L:WA}{n:Nat}{fp:List Addr}{P:Nat->Value->Prop}{St:Nat->Heap->Prop}{vs:WC}{h1:WD}{c:Nat}{res:Wz}{RR:Result->Shared->Prop}(W:Walks prog w A.in1 I fp [I] n P St)(hn:n <=5000)(hLf:L∉fp)(st:St 0 h1)(hL:h1.get? L=some {cls:=.type "list",data:=.seq #[] c})(hP:∀i v,P i v->vs[i]?=some v)(hl:vs.length=n)
  (hRR:∀ (h':WD) (tk c':Nat),(∀b o,b≠L->b≠I->h1.get? b=some o->h'.get? b=some o)->h'.get? L=some {cls:=.type "list",data:=.seq vs.toArray c'}->RR (.ok (.ret res)) {s with heap:=h',toks:=tk}):
  codeAny (model prog w) A (Code.builtin "list.extend.loop" ⟨[.ref L,.ref I,res],[]⟩) RR {s with heap:=h1}:=by
 refine codeAny_extend_loopS W.toS (by rw[Yh];lia) L hLf _ n 0 _ #[] c rfl (Yj _) st hL (ItemsOf.nil _) fun s' d c' f g a=>?_
 have e:d.toList=vs:=by
  refine List.ext_getElem? fun i=>?_
  by_cases hi:i < d.size
  .rw[Array.getElem?_toList,YT hi];exact(hP i _ (a.2 i _ (YT hi))).symm
  .rw[U6 (by simp;lia),U6 (by have:=a.1;lia)]
 rw[f.eq_with];refine hRR s'.heap s'.toks c' (fun b o j h e=>f.heap b o (by simp[j,h]) e) ?_;rw[<-e];exact g
theorem mL(hh:A.handled=none)(ho:s.heap.get? S=some o)(hx:o.ExactSet)(hd:o.data= .set es ep t)(hf:t.fits es.size=true)(T:Jp w t)(hz:es.size <=5000){R:List Value->Shared->Prop}
  (hR:∀ (h':WD) (tk:Nat) (d:Drawn) (vs:WC),(∀b o,s.heap.get? b=some o->h'.get? b=some o)->vs.Perm (es.toList.map (·.2))->R vs {s with heap:=h',toks:=tk,drawn:=d}):wpAny (model prog w) A (collect (.ref S)) R E s:=by
 unfold collect;refine Y0 (wpAny_runValue (XN entry_proto_collect' ?_));rw [Xy F.plain_proto_collect];unfold Builtin.«proto.collect»;refine Y0 (YS (Y2 ⟨XU F.plain_list_iadd _, XN entry_list_iadd' ?_⟩));rw [Xy F.plain_list_iadd];have aa : (s.heap.push { cls := .type "list", data := .seq #[] 0 }).get? s.heap.objs.size = some { cls := .type "list", data := .seq #[] 0 } := Yi _ rfl;have g : (s.heap.push { cls := .type "list", data := .seq #[] 0 }).get? S = some o := Y7 _ ho;have hlt := Ye ho;have q : ∀ (h' : Heap) (tk : Nat) (d : Drawn) (r : Array Value) (c' : Nat), (∀ b o, s.heap.get? b = some o -> h'.get? b = some o) -> h'.get? s.heap.objs.size = some { cls := .type "list", data := .seq r c' } -> r.toList.Perm (es.toList.map (·.2)) -> wpAny (model prog w) A (do
   let __do_lift <-load s.heap.objs.size
   match __do_lift.data with
    |Data.seq xs epoch=>pure xs.toList
    | x => unsupported "internal:collect") R E { s with heap := h', toks := tk, drawn := d } := fun h' tk d r c' a1 a2 a3 => Y0 (Wd a2 (Y2 (hR h' tk d _ a1 a3)))
 unfold Builtin.«list.__iadd__»;refine Y0 (Y2 ?_);refine(?_:wpAny _ _ (Builtin.List.listExtendWith (.ref s.heap.objs.size) (.ref S) (.ref s.heap.objs.size)) _ _ _);unfold Builtin.List.listExtendWith;have hT1:(⟨s.heap.push {cls:=.type "list",data:=.seq #[] 0},s.gens,s.drawn,s.toks,s.os⟩:Wu).TypeIs (.ref S) "set":=⟨o,g,hx.1⟩
 refine Y0 (wpAny_typeOf hT1 ?_);have hne:(Builtin.List.listSameRef (.ref s.heap.objs.size) (.ref S))=false:=by
  show(s.heap.objs.size==S)=false;simp;lia
 simp only[hne,show(Value.type "set"==Value.type "list")=false from rfl,show(Value.type "set"==Value.type "tuple")=false from rfl,Vv,Bool.false_eq_true,if_false];refine Y0 (Zs (A:=A.in1) g hx hd hf hz (fun u hp ys d hy=>?_) fun hc=>?_)
 .have j:∀b o,(s.heap.push {cls:=.type "list",data:=.seq #[] 0}).get? b=some o->(((s.heap.push {cls:=.type "list",data:=.seq #[] 0}).push {cls:=.type "tuple",data:=.seq (ys.map fun i:Nat=>Value.int (i:Int) 0).toArray 0}).push (TJ (.ref (s.heap.push {cls:=.type "list",data:=.seq #[] 0}).objs.size) 0 S es.size ep)).get? b=some o:=fun b o e=>Y7 _ (Y7 _ e)
  have f:(s.heap.push {cls:=.type "list",data:=.seq #[] 0}).objs.size=s.heap.objs.size+ 1:=size_push' ..;have z:(((s.heap.push {cls:=.type "list",data:=.seq #[] 0}).push {cls:=.type "tuple",data:=.seq (ys.map fun i:Nat=>Value.int (i:Int) 0).toArray 0}).push (TJ (.ref (s.heap.push {cls:=.type "list",data:=.seq #[] 0}).objs.size) 0 S es.size ep)).get? ((s.heap.push {cls:=.type "list",data:=.seq #[] 0}).objs.size+ 1)=some (TJ (.ref (s.heap.push {cls:=.type "list",data:=.seq #[] 0}).objs.size) 0 S es.size ep):=by
   rw[<-size_push' (s.heap.push {cls:=.type "list",data:=.seq #[] 0}) {cls:=.type "tuple",data:=.seq (ys.map fun i:Nat=>Value.int (i:Int) 0).toArray 0}];exact Yi _ rfl
  have hT0:(((s.heap.push {cls:=.type "list",data:=.seq #[] 0}).push {cls:=.type "tuple",data:=.seq (ys.map fun i:Nat=>Value.int (i:Int) 0).toArray 0}).push (TJ (.ref (s.heap.push {cls:=.type "list",data:=.seq #[] 0}).objs.size) 0 S es.size ep)).get? (s.heap.push {cls:=.type "list",data:=.seq #[] 0}).objs.size=some {cls:=.type "tuple",data:=.seq (ys.map fun i:Nat=>Value.int (i:Int) 0).toArray 0}:=Y7 _ (Yi _ rfl);refine Y0 (X0 (Lw ⟨o,j _ _ g,hx.1⟩ ?_));refine Uy (by kernel_rfl) (Y0 (XO (Y0 (PM (j _ _ aa) fun h2 c2 c n=>Y2 ⟨XU F.plain_extend_loop _,?_⟩))));have hyl:ys.length=es.size:=by rw[hy.length_eq,YV]
  have W:=jI (prog:=prog) (w:=w) (A:=A.in1) (I:=(s.heap.push {cls:=.type "list",data:=.seq #[] 0}).objs.size+ 1) (T0:=(s.heap.push {cls:=.type "list",data:=.seq #[] 0}).objs.size) (S:=S) (ys:=ys) hh (by rw[f];lia) hd hf (by lia) hy;refine Kw (s:={s with drawn:=d}) W hz (by rw[f];simp;lia) ⟨(c.2 _ (by rw[f];lia)).trans z,(c.2 _ (by rw[f];lia)).trans hT0,(c.2 _ (by lia)).trans (j _ _ g)⟩ n (fun i v h=>h) (by rw[Y1];exact hyl) fun h' tk c' p l=>?_
  refine q h' tk d _ c' (fun b o e=>p b o (by have:=Ye e;lia) (by have:=Ye e;rw[f];lia) ((c.2 b (by have:=Ye e;lia)).trans (j _ _ (Y7 _ e)))) l ?_;have:=hy.map fun k=>(es.toList.map (·.2)).getD k .none
  rw[XX];refine this.trans (List.Perm.of_eq ?_);apply V5
  .simp
  .intro i a b;rw[VP,Vr];simp only[Y1]at b;simp[YJ,show i < es.size by simpa using b]
 .have j:∀b o,(s.heap.push {cls:=.type "list",data:=.seq #[] 0}).get? b=some o->((s.heap.push {cls:=.type "list",data:=.seq #[] 0}).push (TJ (.int 0 0) 0 S es.size ep)).get? b=some o:=fun b o e=>Y7 _ e
  have f:(s.heap.push {cls:=.type "list",data:=.seq #[] 0}).objs.size=s.heap.objs.size+ 1:=size_push' ..;have z:=Yi (s.heap.push {cls:=.type "list",data:=.seq #[] 0}) (o:=TJ (.int 0 0) 0 S es.size ep) rfl;refine Y0 (X0 (Lw ⟨o,j _ _ g,hx.1⟩ ?_));refine Uy (by kernel_rfl) (Y0 (XO (Y0 (PM (j _ _ aa) fun h2 c2 c n=>Y2 ⟨XU F.plain_extend_loop _,?_⟩))))
  by_cases u:MC w=true
  .have W:=uX (prog:=prog) (w:=w) (A:=A.in1) (I:=(s.heap.push {cls:=.type "list",data:=.seq #[] 0}).objs.size) (S:=S) hh (by rw[f];lia) hd hf u;refine Kw (s:=s) W hz (by rw[f];simp;lia) ⟨(c.2 _ (by rw[f];lia)).trans z,(c.2 _ (by lia)).trans (j _ _ g)⟩ n (fun i v h=>h) (by rw[Y1,(Ah _ es).length_eq,Array.length_toList]) fun h' tk c' p l=>?_
   exact q h' tk s.drawn _ c' (fun b o e=>p b o (by have:=Ye e;lia) (by have:=Ye e;rw[f];lia) ((c.2 b (by have:=Ye e;lia)).trans (j _ _ (Y7 _ e)))) l (by rw[XX];exact(Ah _ es).map _)
  .have hb':MC w=false:=by simpa using u
   have W:=wK (prog:=prog) (w:=w) (A:=A.in1) (I:=(s.heap.push {cls:=.type "list",data:=.seq #[] 0}).objs.size) (S:=S) hh (by rw[f];lia) hd hf hb' (hc.resolve_left u) T;refine Kw (s:=s) W hz (by rw[f];simp;lia) ⟨⟨0,(c.2 _ (by rw[f];lia)).trans z,yB T.ris⟩,(c.2 _ (by lia)).trans (j _ _ g)⟩ n (fun i v h=>h) (by simp) fun h' tk c' p l=>?_
   exact q h' tk s.drawn _ c' (fun b o e=>p b o (by have:=Ye e;lia) (by have:=Ye e;rw[f];lia) ((c.2 b (by have:=Ye e;lia)).trans (j _ _ (Y7 _ e)))) l (by rw[XX])
end
structure Oz(mg:Wp):Prop where
 bset:mg "set"=none
section
variable{X:Cx}{K:Wy}{w:Wx}
theorem WI.drawn{pins:Ws}{σ:St}{H:Hp}{s:Wu}(I:WI X pins σ H s)(d:Drawn):WI X pins σ H {s with drawn:=d}:=⟨I.ok,I.os,I.bare,I.base,I.loc,I.cell,I.free,I.freeC,I.pin,I.hok,I.len⟩
def HS(K:Wy)(w:Wx):List V->Hp->VK->Prop:=fun as H Q=>∃ (p:WA) (ns:WB),as=[.ref p]/\WJ K H p (ns.map V.int)/\ns.length <=4000/\∀ (m:WB) (o:Obj) l G,m.Nodup->(∀n,n∈m↔n∈ns)->m.length <=ns.length->DC w o m->H l=none->WH H G->G l=some (.frz o (.own l))->Q (.ref l) G
theorem Zo(hc:X.calm=true)(h:X.K=K)(hw:X.w=w):J9 X (.type "set") (HS K w):=by
 subst h;subst hw;intro pins s σ H xs us Q I r hh;obtain⟨p,c,rfl,hq,hl,q⟩:=hh;obtain⟨u,rfl,rx⟩:=D4 r;cases rx;obtain⟨a,rv,pl,hz⟩:=I.list hq;have z:c.length=a.length:=by simpa using rv.length
 refine Z8 (fun i o=>∃m,DC X.w o m/\(∀n,n∈m↔n∈c.take i)/\m.length <=i) (I.ok.hd hc) pl.isList ?_ (fun i v o s' A' E' Q' hv hj f hk _ hQ=>?_) fun o h' tk hj f hk=>?_
 .refine⟨[],⟨#[],0,SetTable.fresh 0 0 (!MC X.w),⟨rfl,rfl,rfl⟩,rfl,fun P e he=>by simp at he,.nil,.nil,rfl,rfl,rfl,.nil⟩,fun n=>by simp,Y6 _⟩
 .obtain⟨m,j,g,d⟩:=hj;have l:a[i]?=some v:=by simpa using hv
  have hi:i < a.length:=(Y4.mp l).1;have hx:(c.map V.int)[i]?=some (V.int (c[i]'(by lia))):=by rw[Yf,Y5 (by lia)];rfl
  obtain⟨u,hu,ru⟩:=rv.get (i:=i) hx;rw[l]at hu;cases hu;obtain⟨tk,rfl⟩:=ru;refine nX j (by have:scanBound=4096:=rfl;lia) f fun b o' h' tk' hS' hsb ho'=>hQ b o' h' tk' ⟨_,hS',fun n=>?_,?_⟩ hsb ho'
  .rw[XH (by lia),Yb,Y8,<-g]
   split
   .rename_i hin
    constructor
    .exact .inl
    .rintro(h|rfl)
     .exact h
     .exact hin
   .rw[Yb,Y8]
  .split
   .lia
   .rw[List.length_append,V7];lia
 .obtain⟨m,j,g,d⟩:=hj;have hf:H s.heap.objs.size=none:=I.hok.fresh (Y6 _);have t:a.toArray.size=c.length:=by simp[z]
  rw[t,Xi (Y6 _)]at g;rw[t]at d;have hnd:m.Nodup:=by obtain⟨_,_,_,_,_,_,_,h,_⟩:=j;exact h
  exact⟨.ref s.heap.objs.size,upd H s.heap.objs.size (.frz o (.own s.heap.objs.size)),I.laid (t':=tk) hk (Y6 _) ⟨f,_,f⟩,rfl,q m o _ _ hnd g d j hf (Tx hf) JD⟩
def K9(w:Wx):List V->Hp->VK->Prop:=fun as H Q=>∃ (p:WA) (o:Obj) (m:WB),as=[.ref p]/\H p=some (.frz o (.own p))/\DC w o m/\m.length <=4000/\∀ (ms:WB) l G,ms.Perm m->ms.Pairwise (· <=·)->H l=none->WH H G->G l=some (.lst (ms.map V.int))->Q (.ref l) G
theorem u9(hc:X.calm=true)(hu:X.A.units+ 64 < cLine)(hw:X.w=w):J9 X (.builtin "sorted") (K9 w):=by
 subst hw;intro pins s σ H xs us Q I r hh;obtain⟨p,o,m,rfl,hp,hS,hml,q⟩:=hh;obtain⟨u,rfl,rx⟩:=D4 r;cases rx;obtain⟨ho,_⟩:=(show s.heap.get? p=some o/\_ from I.hok p _ hp);obtain⟨es,ep,t,h1,h2,he,ac,hnd,hf,T⟩:=hS;have hsz:es.size=m.length:=by rw[<-Array.length_toList,<-ac.length_eq,Y1]
 refine UI kind_sorted VN VO (args_sorted1 _) ?_;unfold Builtin.«sorted»;refine Y0 (m:=checkCount "sorted" 1 1 _) (Y2 ?_);refine Y0 (mL (A:=X.A.in1) (I.ok.hd hc) ho h1 h2 hf T (by lia) fun h' tk d vs hk l=>?_);have I2:WI X pins σ H {s with heap:=h',toks:=tk,drawn:=d}:=(I.kept hk).drawn d;obtain⟨c,ec⟩:∃c:List Int,c=vs.map fun v=>RL (0,v):=⟨_,rfl⟩
 have hvl:vs.length=es.size:=by rw[l.length_eq,Y1,Array.length_toList]
 have ah:∀v∈vs,∃t,v= .int (RL (0,v)) t:=fun v hv=>by
  have:=l.mem_iff.mp hv;obtain⟨e,he1,rfl⟩:=Yw.mp this;obtain⟨⟨k,h3,_⟩,_⟩:=he X.prog e he1;obtain⟨t,h4⟩:=Fj h3;exact⟨t,by rw[h4];rfl⟩
 have hcm:c.Perm m:=by
  rw[ec];refine(l.map _).trans ?_;rw[Yp];exact ac
 have af:c.length=vs.length:=by rw[ec,Y1]
 have ab:∀ (i:Nat) v k,vs[i]?=some v->c[i]?=some k->∃t,v= .int k t:=fun i v k e1 e2=>by
  rw[ec,Yf,e1]at e2;cases e2;exact ah v (Ya e1)
 refine Y0 (UD ?_ (by rw[Yh];lia));have z:(h'.push (seqObj "list" vs.toArray 0)).get? h'.objs.size=some (seqObj "list" vs.toArray 0):=Yi _ rfl;have ag:∀b o,h'.get? b=some o->(h'.push (seqObj "list" vs.toArray 0)).get? b=some o:=fun b o q=>Y7 _ q
 have S:GM X.prog X.w h' Eo (fun i=>c.getD i 0) oneType' vs:=Kf ab af.symm;refine Y0 (X0 (X4 Vn ⟨_,z,rfl⟩ Vf (Io (h₀:=h') z (Y6 _) ag S (by lia) (by show X.A.units+ 1+ 1 < cLine;lia) fun g a1 a2=>⟨_,rfl,?_⟩) (args_list_sort _)));obtain⟨e,he'⟩:=sortedHeap_at (n:=0) (vs:=vs) (out:=(List.map (fun i=>vs.getD i Value.none) g.toList).toArray) z;have ae:H h'.objs.size=none:=I2.hok.fresh (Y6 _);have f:g.toList.Perm (List.range c.length):=by rw[af];exact U9.mp a1
 have hb:∀i∈g.toList,i < c.length:=fun i hi=>by simpa using f.mem_iff.mp hi
 have aa:WO ((g.toList.map fun i=>c.getD i 0).map V.int) (g.toList.map fun i=>vs.getD i Value.none):=by
  have:∀r:List Nat,(∀i∈r,i < c.length)->WO ((r.map fun i=>c.getD i 0).map V.int) (r.map fun i=>vs.getD i Value.none):=by
   intro r
   induction r with
   |nil=>exact fun _=>.nil
   |cons i r ih=>
    intro hr;refine .cons ?_ (ih fun j hj=>hr j (.tail _ hj));have hi:=hr i (.head _);exact ab i _ _ (by rw[Y5 (by lia)];simp[show i < vs.length by lia]) (by rw[Y5 hi];simp[hi])
  exact this _ hb
 have hln:(g.toList.map fun i=>c.getD i 0).length=c.length:=by rw[Y1,f.length_eq,YV]
 refine Y2 ⟨_,rfl,.ref h'.objs.size,upd H h'.objs.size (.lst ((g.toList.map fun i=>c.getD i 0).map V.int)),I2.laid (t':=tk) (fun b o z'=>?_) (Y6 _) ?_,rfl,q (g.toList.map fun i=>c.getD i 0) _ _ ?_ ?_ ae (Tx ae) JD⟩
 .have ad:=Ye z';rw[sortedHeap_old (Yr ad) (by rw[Ud];exact XS ad)];exact Y7 _ z'
 .exact⟨by rw[Y1,hln,Yh];lia,_,e,aa,he'⟩
 .have h1:=f.map fun i=>c.getD i (0:Int)
  have h2:(List.range c.length).map (fun i=>c.getD i (0:Int))=c:=by
   apply V5
   .simp
   .intro i hi _;have:i < c.length:=by simpa using hi
    simp[this]
  rw[h2]at h1;exact h1.trans hcm
 .refine List.Pairwise.imp (R:=fun a b:Int=>decide (b < a)=false) (fun {a b} h=>?_) (IZ a1 a2);have:=Ul h
  lia
end
def tm(mask:Nat):SetTable:={mask:=mask,place:=#[],dummies:=#[],finger:=0,led:=true,moves:=0,plain:=true}
def mI(x:V)(Q:Int->Prop):Prop:=match x with| .int i=>Q i|_=>False
def mB(x:V)(Q:Bool->Prop):Prop:=match x with| .bl i=>Q i|_=>False
def mR(x:V)(Q:Addr->Prop):Prop:=match x with| .ref i=>Q i|_=>False
def mV(x:Option (Option V))(Q:V->Prop):Prop:=match x with|some (some v)=>Q v|_=>False
def mA(x:List V)(Q:V->Prop):Prop:=match x with|[v]=>Q v|_=>False
def mC(c:Bool)(A B:Prop):Prop:=if c=true then A else B
theorem Qv(A B:Prop):mC true A B=A:=rfl
theorem nE(A B:Prop):mC false A B=B:=rfl
theorem So(c:TT)(t u:TS)(D:MQ)(σ:St)(H:Hp):Gs c t u D σ H=c σ H fun b H1=>mC b (t D σ H1) (u D σ H1):=rfl
theorem y6(t u:TT)(σ:St)(H:Hp)(Q:Bool->Hp->Prop):Fh t u σ H Q=t σ H fun c H1=>mC c (u σ H1 Q) (Q false H1):=rfl
theorem SM(t u:TT)(σ:St)(H:Hp)(Q:Bool->Hp->Prop):HL t u σ H Q=t σ H fun c H1=>mC c (Q true H1) (u σ H1 Q):=rfl
theorem tM(t:TT)(ta tb:TE)(σ:St)(H:Hp)(Q:VK):ID t ta tb σ H Q=t σ H fun c H1=>mC c (ta σ H1 Q) (tb σ H1 Q):=rfl
theorem Hr(i:Int)(Q:Int->Prop):mI (.int i) Q=Q i:=rfl
theorem FP(i:Bool)(Q:Bool->Prop):mB (.bl i) Q=Q i:=rfl
theorem Lm(i:WA)(Q:Addr->Prop):mR (.ref i) Q=Q i:=rfl
theorem FH(v:V)(Q:V->Prop):mV (some (some v)) Q=Q v:=rfl
theorem Py(v:V)(Q:V->Prop):mA [v] Q=Q v:=rfl
theorem Ei(x:V)(Q:Int->Prop):mI x Q=∃i,x= .int i/\Q i:=propext ⟨fun h=>by cases x <;> first|exact⟨_,rfl,h⟩|exact h.elim,fun⟨_,e,h⟩=>by subst e;exact h⟩
theorem Bd(x:V)(Q:Bool->Prop):mB x Q=∃i,x= .bl i/\Q i:=propext ⟨fun h=>by cases x <;> first|exact⟨_,rfl,h⟩|exact h.elim,fun⟨_,e,h⟩=>by subst e;exact h⟩
theorem Ga(x:V)(Q:Addr->Prop):mR x Q=∃i,x= .ref i/\Q i:=propext ⟨fun h=>by cases x <;> first|exact⟨_,rfl,h⟩|exact h.elim,fun⟨_,e,h⟩=>by subst e;exact h⟩
theorem Pt(x:Option (Option V))(Q:V->Prop):mV x Q=∃v,x=some (some v)/\Q v:=propext ⟨fun h=>by rcases x with _|_|v <;> first|exact⟨_,rfl,h⟩|exact h.elim,fun⟨_,e,h⟩=>by subst e;exact h⟩
theorem Er(x:List V)(Q:V->Prop):mA x Q=∃v,x=[v]/\Q v:=propext ⟨fun h=>by rcases x with _|⟨v,_|⟨u,l⟩⟩ <;> first|exact⟨_,rfl,h⟩|exact h.elim,fun⟨_,e,h⟩=>by subst e;exact h⟩
section
variable{X:Cx}{K:Wy}
def RX(i:Nat):TE:=fun σ H Q=>mV σ[i]? fun v=>Q v H
theorem WG(i:Nat){x:Str}{pos:Pos}(hN:X.N[i]?=some x:=by rfl)(hv:Bk X.env.scope x:=by first|exact Or.inl rfl|exact Or.inr (Or.inl rfl)|exact Or.inr (Or.inr rfl))(hd:(x==("__debug__":Str))=false:=by decide)(hcd:(x==("__classdict__":Str))=false:=by decide):PE X (.Name x pos) (RX i):=
 fun pins s σ H Q I h=>pv i hN hv hd hcd pins s σ H Q I (by unfold RX at h;rw[Pt]at h;exact h)
def A9(C:Int->Int->Prop)(g:Int->Int->V):R2:=fun x y H Q=>mI x fun i=>mI y fun j=>C i j/\Q (g i j) H
def BM(g:Int->Int->V):R2:=fun x y H Q=>mI x fun i=>mI y fun j=>Q (g i j) H
theorem dI{f:Value->Value->Sem Value}{C:Int->Int->Prop}{g:Int->Int->V}(h:JJ X f (rI C g)):JJ X f (A9 C g):=h.imp fun x y H Q q=>by
 unfold A9 at q;simp only[Ei]at q;obtain⟨i,e,j,a,q⟩:=q;exact⟨i,j,e,a,q⟩
theorem Jz{f:Value->Value->Sem Value}{g:Int->Int->V}(h:JJ X f (Gp g)):JJ X f (BM g):=h.imp fun x y H Q q=>by
 unfold BM at q;simp only[Ei]at q;obtain⟨i,e,j,a,q⟩:=q;exact⟨i,j,e,a,q⟩
def Bp:R2:=fun x y H Q=>match x,y with
 | .int a,.int b=>ME (.int a) (.int b)=true/\Q (.bl (decide (a=b))) H
 | .str a,.str b=>ME (.str a) (.str b)=true/\Q (.bl (decide (a=b))) H
 |x,y=>ME x y=true/\Q (.bl (decide (x=y))) H
def BU:R2:=fun x y H Q=>match x,y with
 | .int a,.int b=>ME (.int a) (.int b)=true/\Q (.bl (!decide (a=b))) H
 | .str a,.str b=>ME (.str a) (.str b)=true/\Q (.bl (!decide (a=b))) H
 |x,y=>ME x y=true/\Q (.bl (!decide (x=y))) H
theorem ON(a b:Int)(H:Hp)(Q:VK):Bp (.int a) (.int b) H Q=(ME (.int a) (.int b)=true/\Q (.bl (decide (a=b))) H):=rfl
theorem OO(a b:Str)(H:Hp)(Q:VK):Bp (.str a) (.str b) H Q=(ME (.str a) (.str b)=true/\Q (.bl (decide (a=b))) H):=rfl
theorem Q8(a b:Int)(H:Hp)(Q:VK):BU (.int a) (.int b) H Q=(ME (.int a) (.int b)=true/\Q (.bl (!decide (a=b))) H):=rfl
theorem Ot(a b:Str)(H:Hp)(Q:VK):BU (.str a) (.str b) H Q=(ME (.str a) (.str b)=true/\Q (.bl (!decide (a=b))) H):=rfl
theorem Lp(x y:V)(H:Hp)(Q:VK):Bp x y H Q=(ME x y=true/\Q (.bl (decide (x=y))) H):=by
 unfold Bp
 split
 .simp
 .simp
 .rfl
theorem Lk(x y:V)(H:Hp)(Q:VK):BU x y H Q=(ME x y=true/\Q (.bl (!decide (x=y))) H):=by
 unfold BU
 split
 .simp
 .simp
 .rfl
theorem MZ{f:Value->Value->Sem Value}(h:JJ X f BW):JJ X f Bp:=h.imp fun x y H Q q=>by rw[Lp]at q;exact q
theorem PU{f:Value->Value->Sem Value}(h:JJ X f Av):JJ X f BU:=h.imp fun x y H Q q=>by rw[Lk]at q;exact q
def R1(t:TE):TT:=fun σ H Q=>t σ H fun x H1=>mB x fun c=>Q c H1
theorem LS(t:TE):tB t=R1 t:=by unfold tB R1;simp only[Bd]
theorem cB{e:WE}{t:TE}(h:PT X e (tB t)):PT X e (R1 t):=LS t▸h
theorem cT{e:WE}{t:TE}(h:PT X e (BH t)):PT X e (R1 t):=LS t▸h
def EI(ta tb:TE):TE:=fun σ H Q=>ta σ H fun x H1=>mB x fun c=>mC c (tb σ H1 Q) (Q (.bl false) H1)
def Ef(ta tb:TE):TE:=fun σ H Q=>ta σ H fun x H1=>mB x fun c=>mC c (Q (.bl true) H1) (tb σ H1 Q)
def Ek(ta:TE):TE:=fun σ H Q=>ta σ H fun x H1=>mB x fun c=>Q (.bl (!c)) H1
theorem jS{e:WE}{ta tb:TE}(h:PE X e (EG ta tb)):PE X e (EI ta tb):=by
 have:EI ta tb=EG ta tb:=by unfold EI EG mC;simp only[Bd]
 rw[this];exact h
theorem nQ{e:WE}{ta tb:TE}(h:PE X e (EN ta tb)):PE X e (Ef ta tb):=by
 have:Ef ta tb=EN ta tb:=by unfold Ef EN mC;simp only[Bd]
 rw[this];exact h
theorem vC{e:WE}{ta:TE}(h:PE X e (EO ta)):PE X e (Ek ta):=by
 have:Ek ta=EO ta:=by unfold Ek EO;simp only[Bd]
 rw[this];exact h
def AN(K:Wy):List V->Hp->VK->Prop:=fun xs H Q=>mA xs fun x=>mR x fun p=>∃ys,(WJ K H p ys\/N9 K H p ys)/\Q (.int ys.length) H
theorem Mb{f:Wz}(h:J9 X f (A0 K)):J9 X f (AN K):=h.imp fun xs H Q q=>by
 unfold AN at q;simp only[Er,Ga]at q;obtain⟨x,e,p,rfl,ys,h1,q⟩:=q;exact⟨p,ys,e,h1,q⟩
theorem DJ.imp{r r':R2}(h:DJ X r)(hi:∀x y H Q,r' x y H Q->r x y H Q):DJ X r':=fun a b pins s σ H x y v u Q I rx ry q z=>h a b pins s σ H x y v u Q I rx ry (hi _ _ _ _ q) z
def B8(K:Wy):R2:=fun x y H Q=>mR x fun p=>∃xs,mI y fun i=>WJ K H p xs/\∃v,Ts xs i=some v/\Q v H
def En(K:Wy):R2:=fun x y H Q=>mR x fun p=>∃xs,mI y fun i=>N9 K H p xs/\∃v,Ts xs i=some v/\Q v H
theorem Rl(h:DJ X (BC K)):DJ X (B8 K):=h.imp fun x y H Q q=>by
 unfold B8 at q;simp only[Ei,Ga]at q;obtain⟨p,e,xs,i,a,h1,v,h2,q⟩:=q;exact⟨p,xs,i,v,e,a,h1,h2,q⟩
theorem Kx(h:DJ X (EQ K)):DJ X (En K):=h.imp fun x y H Q q=>by
 unfold En at q;simp only[Ei,Ga]at q;obtain⟨p,e,xs,i,a,h1,v,h2,q⟩:=q;exact⟨p,xs,i,v,e,a,h1,h2,q⟩
def CO:V->List V->Hp->VK->Prop:=fun x vs H Q=>mR x fun l=>mA vs fun y=>∃xs,H l=some (.lst xs)/\xs.length < sizeLine/\∀G,JS l H G->G l=some (.lst (xs++[y]))->Q .non G
theorem Gr{id:String}(h:Gg X id C6):Gg X id CO:=h.imp fun x vs H Q q=>by
 unfold CO at q;simp only[Er,Ga]at q;obtain⟨l,e,y,a,xs,h1,h2,q⟩:=q;exact⟨l,xs,y,e,a,h1,h2,q⟩
def CC(K:Wy):List V->Hp->VK->Prop:=fun vs H Q=>mA vs fun x=>mR x fun p=>∃ys,(WJ K H p ys\/N9 K H p ys)/\∀l G,H l=none->WH H G->G l=some (.lst ys)->Q (.ref l) G
theorem Bj{f:Wz}(h:J9 X f (Cu K)):J9 X f (CC K):=h.imp fun xs H Q q=>by
 unfold CC at q;simp only[Er,Ga]at q;obtain⟨x,e,p,rfl,ys,h1,q⟩:=q;exact⟨p,ys,e,h1,q⟩
def Ct:R2:=fun x y H Q=>mR x fun l=>mR y fun b=>∃xs,H l=some (.lst xs)/\∃zs,H b=some (.lst zs)/\xs.length+ zs.length <=sizeLine/\∀p G,H p=none->WH H G->G p=some (.lst (xs++zs))->Q (.ref p) G
theorem RN{f:Value->Value->Sem Value}(h:JJ X f Ci):JJ X f Ct:=h.imp fun x y H Q q=>by
 unfold Ct at q;simp only[Ga]at q;obtain⟨l,e,b,a,xs,h1,zs,h2,q⟩:=q;exact⟨l,b,xs,zs,e,a,h1,h2,q⟩
def Ew(ta:TA):TI:=fun σ H R=>ta σ H fun vs H1=>mA vs fun x=>mI x fun j=> -(2 ^ 62) <=j/\j < 2 ^ 62/\R (GZ 0 j.toNat) H1
theorem Su{tg e:WE}{ta:TA}(h:PI X tg e (EK ta)):PI X tg e (Ew ta):=by
 have:Ew ta=EK ta:=by
  unfold Ew EK
  funext σ H R;congr;funext vs H1
  simp only[Er,Ei];exact propext ⟨fun⟨x,e,j,e2,q⟩=>⟨j,by rw[e,e2],q⟩,fun⟨j,e,q⟩=>⟨_,e,j,rfl,q⟩⟩
 rw[this];exact h
def Et(K:Wy)(tl:TE):TI:=fun σ H R=>tl σ H fun x H1=>mR x fun a=>(∃xs,WJ K H1 a xs)/\R (GH K a) H1
theorem xM{tg e:WE}{tl:TE}(h:PI X tg e (RS K tl)):PI X tg e (Et K tl):=by
 have:Et K tl=RS K tl:=by unfold Et RS;simp only[Ga]
 rw[this];exact h
def BY(K:Wy):R2:=fun x y H Q=>mR x fun a=>mR y fun b=>∃xs,WJ K H a xs/\WJ K H b []/\Q (.bl (!decide (xs.length=0))) H
def AC(K:Wy):R2:=fun x y H Q=>mR x fun a=>mR y fun b=>∃xs,WJ K H a xs/\WJ K H b []/\Q (.bl (decide (xs.length=0))) H
theorem Lr{f:Value->Value->Sem Value}(h:JJ X f (A6 K)):JJ X f (BY K):=h.imp fun x y H Q q=>by
 unfold BY at q;simp only[Ga]at q;obtain⟨a,e,b,c,xs,h1,h2,q⟩:=q;exact⟨a,b,xs,e,c,h1,h2,q⟩
theorem B1{f:Value->Value->Sem Value}(h:JJ X f (Au K)):JJ X f (AC K):=h.imp fun x y H Q q=>by
 unfold AC at q;simp only[Ga]at q;obtain⟨a,e,b,c,xs,h1,h2,q⟩:=q;exact⟨a,b,xs,e,c,h1,h2,q⟩
def Ag(K:Wy):V->Option Int->Option Int->Hp->VK->Prop:=fun x lo hi H Q=>mR x fun a=>∃xs,WJ K H a xs/\∀p G,H p=none->WH H G->G p=some (.lst (DT xs lo hi))->Q (.ref p) G
theorem CA(h:R7 X (Ab K)):R7 X (Ag K):=h.imp fun x lo hi H Q q=>by
 unfold Ag at q;simp only[Ga]at q;obtain⟨a,e,xs,q⟩:=q;exact⟨a,xs,e,q⟩
def A3:V->List V->Hp->VK->Prop:=fun x vs H Q=>mR x fun l=>mA vs fun y=>mR y fun b=>∃xs,H l=some (.lst xs)/\∃zs,H b=some (.lst zs)/\xs.length+ zs.length <=sizeLine/\∀G,JS l H G->G l=some (.lst (xs++zs))->Q .non G
theorem FX{id:String}(h:Gg X id CS):Gg X id A3:=h.imp fun x vs H Q q=>by
 unfold A3 at q;simp only[Er,Ga]at q;obtain⟨l,e,y,a,b,rfl,xs,h1,zs,h2,q⟩:=q;exact⟨l,b,xs,zs,e,a,h1,h2,q⟩
def BR:List V->Hp->VK->Prop:=fun xs H Q=>match xs with
 |[.int i]=>Q (.int i) H\/False
 |[.bl k]=>False\/Q (.int (if k=true then 1 else 0)) H
 |xs=>(∃i,xs=[.int i]/\Q (.int i) H)\/∃k,xs=[.bl k]/\Q (.int (if k=true then 1 else 0)) H
theorem Qn(i:Int)(H:Hp)(Q:VK):BR [.int i] H Q=(Q (.int i) H\/False):=rfl
theorem OB(k:Bool)(H:Hp)(Q:VK):BR [.bl k] H Q=(False\/Q (.int (if k=true then 1 else 0)) H):=rfl
theorem Lc(xs:List V)(H:Hp)(Q:VK):BR xs H Q=((∃i,xs=[.int i]/\Q (.int i) H)\/∃k,xs=[.bl k]/\Q (.int (if k=true then 1 else 0)) H):=by
 unfold BR
 split
 .simp
 .simp
 .rfl
theorem Q4{f:Wz}(h:J9 X f (fun xs H Q=>(∃i,xs=[.int i]/\Q (.int i) H)\/∃k,xs=[.bl k]/\Q (.int (if k then 1 else 0)) H)):J9 X f BR:=h.imp fun xs H Q q=>by rw[Lc]at q;exact q
variable{a b:WE}{ta tb:TE}{Jf:List Expr}{pos:Pos}
theorem TK{e:WE}{t:TE}(h:PE X e t)(he:∀whole,isTrue e X.env whole=(do let v <-whole;standAt e.pos;holding [v] (truthy v)):=by intro _;rfl):PT X e (R1 t):=cB (wA h he)
theorem EE{op:CmpOp}{r:R2}(ho:JJ X (compareOp op) r)(ha:PE X a ta)(hb:PE X b tb)(hm:behindInMarks op b=false):PT X (.Compare a [op] [b] pos) (R1 (DI r ta tb)):=cT (vH ho ha hb hm)
theorem MN(ha:PE X a ta)(hb:PE X (.BoolOp .And (b::Jf) pos) tb):PE X (.BoolOp .And (a::b::Jf) pos) (EI ta tb):=jS (vG ha hb)
theorem wE(ha:PE X a ta)(hb:PE X (.BoolOp .Or (b::Jf) pos) tb):PE X (.BoolOp .Or (a::b::Jf) pos) (Ef ta tb):=nQ (tL ha hb)
theorem ZI(ha:PE X a ta):PE X (.UnaryOp .Not a pos) (Ek ta):=vC (Sw ha)
theorem Ge{tg a:WE}{ta:TA}{p pos:Pos}(hg:Gl X "range")(hm:X.mg "range"=none)(ha:PA X [a] ta)(hs:starEach [a] X.env=[(false,eval a X.env)]:=by rfl):PI X tg (.Call (.Name "range" p) [a] [] pos) (Ew ta):=Su (Qy hg hm ha hs)
theorem Tw{tg l:WE}{tl:TE}(h:X.K=K)(hl:PE X l tl):PI X tg l (Et K tl):=xM (tP h hl)
end
theorem _root_.L2.WV.m{j k:Nat}{A:Ww}(r:WV k A)(h:j <=k:=by decide):WV j A:=r.mono h
section
variable{X:Cx}{es:List Expr}{t:TA}{te ta tb:TE}{pos:Pos}{x:Str}{ps N:List Str}{a b:WE}
theorem WR(i:Nat)(hr:PA X es t)(hN:X.N[i]?=some x:=by rfl)(hv:Bk X.env.scope x:=by first|exact Or.inl rfl|exact Or.inr (Or.inl rfl)|exact Or.inr (Or.inr rfl))(hd:(x==("__debug__":Str))=false:=by decide)(hcd:(x==("__classdict__":Str))=false:=by decide):PA X (.Name x pos::es) (Ms (RX i) t):=WW (WG i hN hv hd hcd) hr Ni
theorem Nb{v:Const}{k:Nat}(ha:PE X (.Constant v k pos) te)(hr:PA X es t):PA X (.Constant v k pos::es) (Ms te t):=WW ha hr NO
theorem De(ha:PE X (.Subscript a b pos) te)(hr:PA X es t):PA X (.Subscript a b pos::es) (Ms te t):=WW ha hr BL
theorem TN(ha:PE X (.Attribute a x pos) te)(hr:PA X es t):PA X (.Attribute a x pos::es) (Ms te t):=WW ha hr SZ
theorem Dc{gs:List Expr}{ks:List Keyword}(ha:PE X (.Call a gs ks pos) te)(hr:PA X es t):PA X (.Call a gs ks pos::es) (Ms te t):=WW ha hr Ru
theorem Nf(i:Nat){pos':Pos}(S:JN X.N ps X.env.scope)(he:PE X a te)(hi:X.N[i]?=some x:=by rfl)(hx:RQ X.env.scope x:=by exact Or.inl rfl)(hs:swapsWith a (some (.Name x pos')) pos.line X.env=pure false:=by rfl)(hf:X.fn x=true\/X.env.scope.names.lookup x=some .local:=by first|exact .inl rfl|exact .inr rfl|assumption):
  PS X (.Assign [.Name x pos'] a pos) (RK te (GY i)):=D8 S.nd hi hx he hs hf
theorem Md(i:Nat)(S:JN X.N ps X.env.scope)(hi:X.N[i]?=some x:=by rfl)(hx:RQ X.env.scope x:=by exact Or.inl rfl)(hf:X.fn x=true\/X.env.scope.names.lookup x=some .local:=by first|exact .inl rfl|exact .inr rfl|assumption):PG X (.Name x pos) (GY i):=T3 S.nd hi hx hf
theorem Nd(K:Wy)(he:PE X a te)(h:X.K=K:=by rfl)(hb:attributeBase a x X.env (eval a X.env)=eval a X.env:=by rfl):PE X (.Attribute a x pos) (AO K te x):=wX h he hb
theorem T5(K:Wy)(ha:PE X a ta)(hb:PE X b tb)(h:X.K=K:=by rfl)(hs:Iu b:=by exact fun _ _=>rfl):PE X (.Subscript a b pos) (DI (B8 K) ta tb):=D1 (Rl (GO h)) ha hb hs
theorem DU(K:Wy)(ha:PE X a ta)(hb:PE X b tb)(h:X.K=K:=by rfl)(hs:Iu b:=by exact fun _ _=>rfl):PE X (.Subscript a b pos) (DI (En K) ta tb):=D1 (Kx (Hb h)) ha hb hs
theorem ND{op:CmpOp}{r:R2}(ho:JJ X (compareOp op) r)(ha:PE X a ta)(hb:PE X b tb)(hm:behindInMarks op b=false:=by exact Mi _):PT X (.Compare a [op] [b] pos) (R1 (DI r ta tb)):=EE ho ha hb hm
theorem NG{k:Nat}{A:Ww}(hr:WV k A)(ha:PE X a ta)(hb:PE X b tb)(e:X.A=A:=by rfl)(hs:Ik b:=by exact fun _ _=>rfl):PE X (.Subscript a b pos) (AV ta tb):=wV (e▸MP hr) ha hb hs
theorem N3{id:String}{r:List V->Hp->VK->Prop}{p:Pos}(hc:J9 X (.builtin id) r)(hm:X.mg x=none)(ha:PA X (a::es) t)(hg:Gl X x:=by rfl)(hv:bootBuiltins x=some (.builtin id):=by rfl)(hn:x≠"__name__":=by decide)(hdb:(x==("__debug__":Str))=false:=by decide)
  (he:starEach (a::es) X.env=(false,eval a X.env)::starEach es X.env:=by rfl) (hpl:(backTo pos (starEach es X.env)).any (·.1)=false:=by rfl):PE X (.Call (.Name x p) (a::es) [] pos) (B0 r t):=yY hc hg hm hv ha hn hdb he hpl
end
def IU(K:Wy)(H:Hp)(xs:List V)(c:List Ky):Prop:=Pw (fun x q=>∃t,x= .ref t/\N9 K H t (BA q)) xs c
section
variable{X:Cx}{K:Wy}{pins:Ws}{s:Wu}{σ:St}{H:Hp}
theorem nU{t:WA}{k:Ky}{xs:List V}{c:List Ky}{its:WC}(I:WI X pins σ H s)(hu:X.A.units+ 64 < cLine)(hc:IU X.K H xs c)(ht:N9 X.K H t (BA k))(rv:WO xs its):
  ∃e:Value->Bool,(∀y,y∈its.toArray->SeqAt.EqAt X.A.in1 s y (.ref t) (e y))/\its.toArray.any e=decide (k∈c):=by
 have g:xs.length=its.length:=rv.length;have hcl:c.length=its.length:=by rw[<-g];exact hc.1.symm
 have o:X.A.in1.units < cLine:=by show X.A.units+ 1 < cLine;lia
 have a:∀ (i:Nat) (h:i < its.length),Nu s.heap its[i] (c[i]'(by lia)):=fun i h=>by
  have n:xs[i]?=some (xs[i]'(by lia)):=Y5 (by lia);obtain⟨q,f,t',e,p⟩:=hc.get n;obtain⟨u,d,l⟩:=rv.get n;rw[Y5 h]at d;cases d;rw[e]at l;have:its[i]= .ref t':=l;rw[Y5 (by lia)]at f;cases f;rw[this];exact O9 I p
 have r:=O9 I ht;have j:∀ (i:Nat) (h:i < its.length),@decide (Nu s.heap its[i] k) (Classical.propDecidable _)=decide (c[i]'(by lia)=k):=fun i h=>by
  by_cases z:c[i]'(by lia)=k
  .rw[Yq z];exact @decide_eq_true _ (Classical.propDecidable _) (by have:=a i h;rw[z]at this;exact this)
  .rw[Ys z];exact @decide_eq_false _ (Classical.propDecidable _) fun q=>z ((a i h).inj q)
 refine⟨fun y=>@decide (Nu s.heap y k) (Classical.propDecidable _),fun y b=>?_,?_⟩
 .have b:y∈its:=by simpa using b
  obtain⟨i,hi,rfl⟩:=XM.mp b
  try dsimp only
  rw[j i hi];exact fun prog w E Q hq=>Qz (a i hi) r o hq
 .rw[List.any_toArray,Xt,VQ,Yt];constructor
  .rintro⟨y,b,h⟩;obtain⟨i,hi,rfl⟩:=XM.mp b
   try dsimp only at h
   rw[j i hi,Yt]at h;rw[<-h];exact Xw _
  .intro h;obtain⟨i,hi,e⟩:=XM.mp h;refine⟨its[i]'(by lia),Xw _,?_⟩
   try dsimp only
   rw[j i (by lia),Yt];exact e
def Km(K:Wy)(neg:Bool):R2:=fun x y H Q=>∃ (t p:WA) (xs:List V) (c:List Ky) (k:Ky),x= .ref t/\y= .ref p/\N9 K H t (BA k)/\WJ K H p xs/\IU K H xs c/\Q (.bl (if neg=true then !decide (k∈c) else decide (k∈c))) H
theorem HE(hu:X.A.units+ 64 < cLine)(h:X.K=K):JJ X (compareOp .In) (Km K false):=by
 subst h;intro pins s σ H x y v u Q I rx ry h;obtain⟨t,p,xs,c,k,rfl,rfl,f,g,j,q⟩:=h;cases rx;cases ry;obtain⟨l,b,d,n⟩:=I.list g;obtain⟨e,i,a⟩:=nU I hu j f b;refine SeqAt.in_listAt e d.isList i ⟨.bl _,H,I,rfl,?_⟩;rw[a];exact q
end
def Fu:KeyOrd where
 α:=Str
 blt:=MG
 irrefl:=mG
 trans _ _ _:=vI
 negTrans _ _ _:=QY
 total _ _:=Lx
section
variable{prog:Wt}{w:Wx}
theorem Os{vs:WC}{c:List Str}{h:WD}(hp:∀ (i:Nat) v p,vs[i]?=some v->c[i]?=some p->∃t,v= .str p t)(hl:vs.length=c.length):GM prog w h Fu (fun i=>c.getD i "") oneType' vs where
 kind A s Q hk h2 hQ:=by
  have hall:∀v,v∈vs->∃n t,v=Value.str n t:=fun v a=>by
   obtain⟨i,hi⟩:=YF.mp a;have o:=(Y4.mp hi).1;obtain⟨t,e⟩:=hp i v _ hi (Y5 (by lia));exact⟨_,t,e⟩
  match vs,h2,hall with
  |v₁::v₂::Jf,_,hall=>rw[keyKind_strs (strsAre_map _ hall)];exact Y2 hQ
 cmp A s i j C hu hk hi hj hC:=by
  have d:vs[i]?=some (vs.getD i Value.none):=by rw[Y5 hi];simp[hi]
  have b:vs[j]?=some (vs.getD j Value.none):=by rw[Y5 hj];simp[hj]
  have l:c[i]?=some (c.getD i ""):=by rw[Y5 (by lia)];simp[show i < c.length by lia]
  have g:c[j]?=some (c.getD j ""):=by rw[Y5 (by lia)];simp[show j < c.length by lia]
  obtain⟨t,e⟩:=hp i _ _ d l;obtain⟨u,f⟩:=hp j _ _ b g;unfold kas_ask;rw[e,f,keyLt'_oneType];exact oneLt_str hC
end
theorem Zm{J:Type}[DecidableEq J]{prog:Wt}{w:Wx}{knd:KeyKind prog w J}{es:List DictEntry}{kvs:List (J×Value)}(h:Pairs knd es kvs){i:Nat}{e:DictEntry}(he:es[i]?=some e):∃k,(kvs.map (·.1))[i]?=some k/\knd.is k e.key=true:=by
 induction h generalizing i with
 |nil=>simp at he
 |cons h1 h2 _ ih=>
  cases i with
  |zero=>cases he;exact⟨_,rfl,h1⟩
  |succ i=>exact ih (by simpa using he)
theorem jT{kvs:List (Jv×V)}{vs:List (Jv×Value)}(r:KV kvs vs):kvs.map (·.1)=vs.map (·.1):=by
 induction r with
 |nil=>rfl
 |cons a _ ih=>rw[List.map_cons,List.map_cons,ih,a.1]
section
variable{X:Cx}{K:Wy}
theorem Ly{r:List Nat}{c:List Str}(hperm:r.Perm (List.range c.length)):(r.map fun i=>(c.map V.str).getD i .non)=(r.map fun i=>c.getD i "").map V.str/\(r.map fun i=>c.getD i "").Perm c:=by
 have d:∀i∈r,i < c.length:=fun i hi=>by simpa using hperm.mem_iff.mp hi
 refine⟨?_,?_⟩
 .rw[Yp];refine YO fun i hi=>?_
  have:=d i hi;simp[YJ,this]
 .have h1:=hperm.map fun i=>c.getD i ""
  have h2:(List.range c.length).map (fun i=>c.getD i "")=c:=by
   apply V5
   .simp
   .intro i a b;rw[VP,Vr];simp[YJ,b]
  rw[h2]at h1;exact h1
def HM(K:Wy):List V->Hp->VK->Prop:=fun xs H Q=>∃ (p:WA) (ns:List Str),xs=[.ref p]/\WJ K H p (ns.map V.str)/\ns.length <=100000/\∀ (ms:List Str) l G,ms.Perm ns->ms.Pairwise (fun a b=>MG b a=false)->H l=none->WH H G->G l=some (.lst (ms.map V.str))->Q (.ref l) G
theorem nZ(hu:X.A.units+ 64 < cLine)(h:X.K=K):J9 X (.builtin "sorted") (HM K):=by
 refine(OA (O:=Fu) (d:=("":Str)) (κ:=oneType') (RA:=fun _ x q=>x= .str q) (RV:=fun _ v q=>∃t,v= .str q t) h hu (fun I r e=>?_) (fun w j=>Os w j)).imp fun xs H Q q=>?_
 .subst e;exact r
 .obtain⟨p,g,rfl,u,j,q⟩:=q;refine⟨p,g.map V.str,g,rfl,u,Y1 ..,fun i x p a b=>?_,by rw[Y1];exact j,fun r l G c f o s e=>?_⟩
  .rw[Yf]at a;obtain⟨y,n,rfl⟩:=Yy.mp a;rw[show g[i]?=some p from b]at n;cases n;rfl
  .rw[Y1]at c;obtain⟨e1,z⟩:=Ly c;rw[e1]at e;exact q _ l G z f o s e
theorem LK(hc:X.calm=true)(hu:X.A.units+ 64 < cLine){pins:Ws}{s:Wu}{σ:St}{H:Hp}{Q:VK}{v0 a:WA}{kvs:List (Jv×V)}{c:List Str}(I:WI X pins σ H s)(ha:H a=some (.dK kvs))(hks:kvs.map (·.1)=c.map Sum.inr)(h64:c.length <=100000)
  (KS:∀o es ep,s.heap.get? a=some o->o.ExactDict->o.data= .dict es ep->(a==sysModules)=false->∃T OK,KdlSrc X.prog X.w T v0 a es.size (fun i v=>∃e,es[i]?=some e/\v=e.key) OK/\OK s.heap)
  (q:∀ (ms:List Str) l G,ms.Perm c->ms.Pairwise (fun a b=>MG b a=false)->H l=none->WH H G->G l=some (.lst (ms.map V.str))->Q (.ref l) G):wpAny (model X.prog X.w) X.A (call (.builtin "sorted") [.ref v0]) (fun v s'=>EP X pins σ Q v s') X.xe s:=by
 obtain⟨z,y,vs0,r,o,es,ep,h1,h2,h3,h4,h5,h6⟩:=Aw I.hok ha;have hel:es.size=kvs.length:=by rw[<-Array.length_toList,h5.length,<-KV.length r]
 have hcl:c.length=es.size:=by
  have:=YB List.length hks;rw[Y1,Y1]at this;lia
 have hh:X.A.in1.handled=none:=I.ok.hd hc;refine UI kind_sorted VN VO (args_sorted1 _) ?_;unfold Builtin.«sorted»;refine Y0 (m:=checkCount "sorted" 1 1 _) (Y2 ?_);obtain⟨T,OK,KS,ok⟩:=KS o es ep h1 h2 h3 y;refine Y0 (kdu_collect (A:=X.A.in1) KS hh ok (by rw[hel];exact z) fun h' tk acc hk h=>?_);have I2:WI X pins σ H {s with heap:=h',toks:=tk}:=I.kept hk;obtain⟨vs,u⟩:∃vs,vs=acc.toList:=⟨_,rfl⟩;rw[<-u];have hvl:vs.length=es.size:=by rw[u,Array.length_toList];exact h.1
 have hpr:∀ (i:Nat) v p,vs[i]?=some v->c[i]?=some p->∃t,v=Value.str p t:=fun i v p hv hp=>by
  rw[u,Array.getElem?_toList]at hv;obtain⟨e,he,rfl⟩:=h.2 i v hv;have g:i < es.size:=(Vy.mp he).1;have hke:(kvs.map (·.1))[i]?=some (Sum.inr p):=by rw[hks,Yf,hp];rfl
  obtain⟨k',e1,e2⟩:=Zm h5 (i:=i) (e:=e) (by rw[Array.getElem?_toList];exact he);rw[<-jT r]at e1;rw[hke]at e1;cases e1;have e2:RU (Sum.inr p) e.key=true:=e2;rcases GX e2 with⟨j,t,e3,z⟩|⟨x,t,e3,z⟩
  .first|(injection z;done)|(injection e3;done)|exact nomatch z|exact nomatch e3
  .exact⟨t,by first|(injection e3 with e3;rw[e3];exact z)|(injection z with z;rw[z];exact e3)⟩
 have hsl:vs.length <=sizeLine:=by rw[hvl,<-hcl,Yh];lia
 refine Y0 (UD ?_ hsl);have f:(h'.push (seqObj "list" vs.toArray 0)).get? h'.objs.size=some (seqObj "list" vs.toArray 0):=Yi _ rfl;have keep:∀b o,h'.get? b=some o->(h'.push (seqObj "list" vs.toArray 0)).get? b=some o:=fun b o q=>Y7 _ q
 have S:GM X.prog X.w h' Fu (fun i=>c.getD i "") oneType' vs:=Os hpr (by lia);refine Y0 (X0 (X4 Vn ⟨_,f,rfl⟩ Vf (Io (h₀:=h') f (Y6 _) keep S (by lia) (by show X.A.units+ 1+ 1 < cLine;lia) fun p a1 a2=>⟨_,rfl,?_⟩) (args_list_sort _)));obtain⟨e,he⟩:=sortedHeap_at (n:=0) (vs:=vs) (out:=(List.map (fun i=>vs.getD i Value.none) p.toList).toArray) f;have hf:H h'.objs.size=none:=I2.hok.fresh (Y6 _);have d:p.toList.Perm (List.range c.length):=by rw[show c.length=vs.length by lia];exact U9.mp a1
 obtain⟨_,e2⟩:=Ly d;have hvals:WO ((p.toList.map fun i=>c.getD i "").map V.str) (p.toList.map fun i=>vs.getD i Value.none):=by
  have hb:∀i∈p.toList,i < c.length:=fun i hi=>by simpa using d.mem_iff.mp hi
  have:∀r:List Nat,(∀i∈r,i < c.length)->WO ((r.map fun i=>c.getD i "").map V.str) (r.map fun i=>vs.getD i Value.none):=by
   intro r
   induction r with
   |nil=>exact fun _=>.nil
   |cons i r ih=>
    intro hr;refine .cons ?_ (ih fun j hj=>hr j (.tail _ hj));have hi:=hr i (.head _);have g1:vs[i]?=some (vs.getD i Value.none):=by rw[Y5 (by lia)];simp[show i < vs.length by lia]
    have g2:c[i]?=some (c.getD i ""):=by rw[Y5 hi];simp[hi]
    exact hpr i _ _ g1 g2
  exact this _ hb
 have hln:((p.toList.map fun i=>c.getD i "").map V.str).length=c.length:=by rw[Y1,Y1,d.length_eq,YV]
 refine Y2 ⟨_,rfl,.ref h'.objs.size,upd H h'.objs.size (.lst ((p.toList.map fun i=>c.getD i "").map V.str)),I2.laid (t':=tk) (fun b o z'=>?_) (Y6 _) ?_,rfl,q (p.toList.map fun i=>c.getD i "") _ _ e2 (IZ a1 a2) hf (Tx hf) JD⟩
 .have g:=Ye z';rw[sortedHeap_old (Yr g) (by rw[Ud];exact XS g)];exact Y7 _ z'
 .exact⟨by rw[hln,Yh];lia,_,e,hvals,he⟩
def Kv:List V->Hp->VK->Prop:=fun as H Q=>∃ (a:WA) (kvs:List (Jv×V)) (c:List Str),as=[V.ref a]/\H a=some (.dK kvs)/\kvs.map (·.1)=c.map Sum.inr/\c.length <=100000/\
 ∀ (ms:List Str) l G,ms.Perm c->ms.Pairwise (fun a b=>MG b a=false)->H l=none->WH H G->G l=some (.lst (ms.map V.str))->Q (.ref l) G
theorem QE(hc:X.calm=true)(hu:X.A.units+ 64 < cLine):J9 X (.builtin "sorted") Kv:=by
 intro pins s σ H xs i Q I r h;obtain⟨a,g,c,rfl,e,b,d,q⟩:=h;obtain⟨u,rfl,rx⟩:=D4 r;cases rx;exact LK hc hu I e b d (fun o es ep h1 h2 f y=>⟨_,_,QD y h2 f,h1⟩) q
def HQ:V->List V->Hp->VK->Prop:=fun x vs H Q=>∃ (a:WA) (kvs:List (Jv×V)),x= .ref a/\vs=[]/\H a=some (.dK kvs)/\∀v G,H v=none->WH H G->G v=some (.frz (GK a) (.own a))->Q (.ref v) G
theorem IN:Gg X "dict.keys" HQ:=by
 intro pins s σ H x vs v j Q I rx e h;obtain⟨a,i,rfl,rfl,f,q⟩:=h;cases rx;cases e;obtain⟨l,hd,xs,g,d⟩:=Aw I.hok f;have hf:H s.heap.objs.size=none:=I.hok.fresh (Y6 _);have c:(s.heap.push (GK a)).get? s.heap.objs.size=some (GK a):=Yi _ rfl;refine call_meetsIn Uq d.typeIs PySem.F.entry_dict_keys (PySem.F.args_dict_keys_1 _) (vN hd) ⟨d.typeIs,?_⟩;exact⟨.ref s.heap.objs.size,upd H s.heap.objs.size (.frz (GK a) (.own a)),I.laid (t':=s.toks) (fun b o z=>Y7 _ z) (Y6 _) ⟨c,_,c⟩,rfl,q _ _ hf (Tx hf) JD⟩
def FQ:List V->Hp->VK->Prop:=fun as H Q=>∃ (v a:WA) (kvs:List (Jv×V)) (c:List Str),as=[V.ref v]/\H v=some (.frz (GK a) (.own a))/\H a=some (.dK kvs)/\kvs.map (·.1)=c.map Sum.inr/\c.length <=100000/\
 ∀ (ms:List Str) l G,ms.Perm c->ms.Pairwise (fun a b=>MG b a=false)->H l=none->WH H G->G l=some (.lst (ms.map V.str))->Q (.ref l) G
theorem FW(hc:X.calm=true)(hu:X.A.units+ 64 < cLine):J9 X (.builtin "sorted") FQ:=by
 intro pins s σ H xs n Q I r h;obtain⟨b,a,l,c,rfl,g,i,e,f,q⟩:=h;obtain⟨u,rfl,rx⟩:=D4 r;cases rx;have d:s.heap.get? b=some (GK a):=(show s.heap.get? b=some (GK a)/\_ from I.hok b _ g).1;exact LK hc hu I i e f (fun o es ep h1 h2 j y=>⟨_,_,SF j,⟨d,h1⟩⟩) q
def FM:R2:=fun y x H Q=>∃a n kvs,y= .str n/\x= .ref a/\H a=some (.dK kvs)/\Q (.bl (!(D5 kvs (Sum.inr n)).isSome)) H
theorem mM(hu:X.A.units+ 1 < cLine):JJ X (compareOp .NotIn) FM:=by
 intro pins s σ H y x v u Q I ry rx h;obtain⟨a,n,d,rfl,rfl,b,q⟩:=h;cases rx;exact yE hu I (NJ.k (k:=Sum.inr n) b) ry fun s' c=>⟨.bl _,H,c,rfl,q⟩
end
def yD:Hp->V->Int->Prop:=fun _ x p=>x= .int p
section
variable{X:Cx}{K:Wy}{q:Str}{params:Arguments}{body:WE}{scope:Scope}{y:Str}{N':List Str}{caps:List (Option Nat)}{te:TE}{k:Nat}{c0 P:WA}
def HA(K:Wy)(P:WA)(q:Str)(caps:List (Option Nat))(te ta:TE):TE:=AY K P q caps te Eo (0:Int) yD ta
theorem ZC{e:WE}{ta:TE}{x:Str}{p pos kp lpos:Pos}(h:X.K=K)(hg:Gl X x)(hm:X.mg x=none)(hv0:bootBuiltins x=some (.builtin "sorted"))(ha:PE X e ta)(lc:Gv X.mg X.base c0 P)(hcode:X.env.code= .ref c0)(hq:X.env.qual++"<lambda>"=q)
  (S:Ez X y N' scope caps) (hdef:defaultsOf params X.env=([],[])) (hbind:∀cl pm cv ctv u,bindArgs (W.kla_fn "<lambda>" q params body scope cl pm cv ctv) ⟨[u],[]⟩=pure [(y,u)])
  (hb:∀ (f c':WA) (cl:List (Str×Addr)) (A:Ww) (outer:List Env) (s:Wu) (H:Hp) (E:XK),WV k (A.deeper (W.envX q scope s.heap.objs.size f (.ref c') cl))->PE (Rk X.prog X.w X.K X.mg X.base (y::N') q scope f (.ref c') cl A outer s H E) body te)
  (hfn:∀x,X.fn x=true) (hr:WV (k+ 3) X.A)
  (hn:x≠"__name__":=by decide) (hdb:(x==("__debug__":Str))=false:=by decide)
  (he:backTo pos (starEach [e] X.env)=(false,eval e X.env)::backTo pos (starEach [] X.env):=by rfl) (hs:starEach [e] X.env=(false,eval e X.env)::starEach [] X.env:=by rfl)
  (hpl:(backTo pos (starEach [e] X.env)).any (·.1)=false:=by rfl):
  PE X (.Call (.Name x p) [e] [⟨some "key",.Lambda params body scope lpos,kp⟩] pos) (HA K P q caps te ta):=by
 subst h;exact QU (RV:=fun _ v q=>∃t,v= .int q t) (O:=Eo) rfl hg hm hv0 ha lc hcode hq S hdef hbind hb hfn hr (fun _ h=>h) (fun I r h=>by subst h;exact r) (fun a b=>Kf a b) hn hdb he hs hpl
end
theorem Lg{X:Cx}{k:Nat}{sp:Sp}{x:Str}{p pos:Pos}(F:MR X.prog X.w X.K X.mg X.base x k sp)(hr:WV (k+ 1) X.A)(hg:Gl X x)(hdb:(x==("__debug__":Str))=false:=by decide):PE X (.Call (.Name x p) [] [] pos) (Ee sp [] E0 Df):=by
 obtain⟨f,C,fd,ds,dvs,ps,g,G,d,M,e,hd,hi⟩:=F.ex;intro pins s σ H Q I h;refine Xv (BS I hg d ?_ hdb);refine W.callWith_K0 I.kIn M.kp ?_;have q:sp ([]++[]) H Q E0:=h;exact L8 M G hr e hd Bn I .nil fun y dx b a c=>hi _ _ _ q y dx _ b a c ((Tx a).new b) JD
end L2
namespace L2
open PySem PySem.Spec PyProof.Rows
section
variable{X:Cx}{K:Wy}
def Rm(c n:Nat):Str:=⟨(List.replicate n c).toArray⟩
def Qa:R2:=fun x y H Q=>∃ (c:Nat) (n:Int),x= .str ⟨#[c]⟩/\y= .int n/\1 <=n/\n <=10000/\Q (.str (Rm c n.toNat)) H
theorem KR(c:Nat):∀ (n:Nat) (b:Array Nat),(List.replicate n #[c]).foldl (·++·) b=b++(List.replicate n c).toArray
 |0,b=>by simp
 |n+ 1,b=>by rw[Wj,List.foldl_cons,KR c n,Wj];apply V4.mp;simp
theorem Zy:JJ X (binaryOp .Mult) Qa:=by
 intro pins s σ H x y v u Q I rx ry hh;obtain⟨c,n,rfl,rfl,h2,g,q⟩:=hh;obtain⟨t,rfl⟩:=(show ∃t,v=Value.str ⟨#[c]⟩ t from rx);obtain⟨f,rfl⟩:=(show ∃t,u=Value.int n t from ry);have a:(⟨#[c]⟩:Str).length=1:=rfl;have e:((List.replicate n.toNat #[c]).foldl (·++·) #[]:Array Nat)=(Rm c n.toNat).cps:=by
  rw[KR];simp[Rm]
 have b:(Rm c n.toNat).length=n.toNat:=by simp[Rm,Str.length]
 refine P.mul_str ?_ (fun _ _=>?_) (fun _ _=>?_) ?_
 .rw[Ys (by lia),Ys (by lia)];rfl
 .have:(9:Int) <=(2 ^ 63 - 1) / n:=Int.le_ediv_of_mul_le (by lia) (by lia);rw[a];lia
 .have:=Nm (n:=1*n.toNat) (by lia);rw[a];unfold Builtin.Str.tooLong
  first|(rw[Ys];lia)|simpa using this|lia
 .rw[Y3 (by lia)]
  by_cases h1:n=1
  .subst h1;rw[Y9 (by rfl)];exact⟨.str ⟨#[c]⟩,H,I,⟨t,rfl⟩,by simpa[Rm] using q⟩
  .rw[Y3 (by simp[a];exact h1)];have d:(⟨(List.replicate n.toNat #[c]).foldl (·++·) #[]⟩:Str)=Rm c n.toNat:=by rw[e]
   show Made.post (Made.str (⟨(List.replicate n.toNat #[c]).foldl (·++·) #[]⟩:Str)) _ _;rw[d];refine⟨?_,.str _,H,I.tok _,⟨_,rfl⟩,q⟩;rw[b];exact Nm (by lia)
end
def MA(K:Wy)(C:WA)(m q:Str)(st:Stmt)(f c T:WA):Prop:=W.findIn K (.ref C) m=some (some (.ref f))/\W.isFn K (.ref f)=true/\∃ (oc:Wz) (od:Option Addr) (kV dc pm:Wz) (an:Option Addr) (ct:Wz) (sl:Array (Option Value)),
 K.lookup f=some ⟨oc,od,.func (W.fnOf m q (TB st) (WP st) (WF st) .none kV dc pm an (.ref c) ct),sl⟩/\W.codeIn K (.ref c) q=true/\W.keepIn K (.ref f)=true/\(∃ (oc':Wz) (od':Option Addr) (vs:Array Value) (sl':Array (Option Value)),K.lookup c=some ⟨oc',od',.fields vs,sl'⟩/\vs[11]?=some (.ref T))/\W.codeHdIn K c T=true
def DN(K:Wy)(C:WA)(q:Str)(st:Stmt)(f T:WA):Prop:=W.findIn K (.ref C) "__init__"=some (some (.ref f))/\W.isFn K (.ref f)=true/\∃ (oc:Wz) (od:Option Addr) (kV dc pm:Wz) (an:Option Addr) (cd ct:Wz) (sl:Array (Option Value)),
 K.lookup f=some ⟨oc,od,.func (W.fnOf "__init__" q (TB st) (WP st) (WF st) (.ref T) kV dc pm an cd ct),sl⟩/\W.codeIn K cd q=true/\∃ (oT:Option Addr) (nT:Nat) (sT:Array (Option Value)),K.lookup T=some ⟨.type "tuple",oT,.seq #[.none] nT,sT⟩
section
variable{P:Wt}{w:Wx}{K:Wy}{mg:Wp}{base:WD}{n q m:Str}{st:Stmt}{f C c T:WA}{k:Nat}{ps:List Str}{sp:Sp}
theorem MA.hd(g:MA K C m q st f c T):W.codeHdIn K c T=true:=by
 obtain⟨_,_,_,_,_,_,_,_,_,_,_,_,_,_,h⟩:=g;exact h
theorem MB.ma(E:MB P w K mg base){cn:Str}(c':CF K cn C)(g:MA K C m q st f c T)(h:∀{fd},Dm K m q st f fd (.ref c)->WQ P w K mg base Jr k f fd ps sp)
  (hb:∀ (kV doc pm:Wz) (an:Option Addr) (cdv ct:Wz) (us:WC),us.length=ps.length->bindArgs (W.fnOf m q (TB st) (WP st) (WF st) .none kV doc pm an cdv ct) ⟨us,[]⟩=pure (ps.zip us)):Tc P w K mg base C m k ps [] sp:=by
 obtain⟨j,h1,i,e,kV,dc,pm,an,ct,d,h2,b,a,_⟩:=g;exact⟨f,_,[],h ⟨i,e,kV,dc,pm,an,ct,d,rfl,h2,b⟩,c'.2.1,⟨j,h1,a⟩,(A7 h2 b a).binds hb,.nil⟩
theorem EU{l:W.OpenLaw}{n k:Nat}{q:Wt}{loose:List Str}{XP:(Str->Option Value)->Heap->Prop}{YP:World->Heap->Prop}{d:DefRec}{K:Params->W.Frag}{sp:World->Addr->Sp}{x:Str}{ts:List Addr}
  (hn:l.most=some n) (hn2:n <=sizeLine) (hdf:d.params.defaults=[]) (hr:WV k callerA)
  (hY:∀ (w:Wx) (h:WD),YP w h->(K w.params).In h) (hT:∀ (w:Wx) (h:WD),YP w h->∀P∈ts,h.get? P=some (W.tabObj #[]))
  (F : ∀ (w : World) (mg : Str -> Option Value) (fa : Addr) (h : Heap), (K w.params).In h -> h.Ns mainGlobals mg -> mg d.name = some (.ref fa) ->
   ∃ (c T:WA) (fd:Wv),T∈ts/\W.codeHdIn (K w.params) c T=true/\W.noTabs (K w.params)=true/\(∀ (s:Wu) (u:Wz),BindsTo s fd ⟨[u],[]⟩ [(x,u)])/\
    ∀ base : Heap, (K w.params).In base -> base.Ns mainGlobals mg -> Gv mg base c T -> WQ l.prog w (K w.params) mg base Jr k fa fd [x] (sp w T))
  (hsp:∀ (w:Wx) (T:WA) (H:Hp) (a:WA) (ns:WB),ns.length <=n->H T=some (.tbl #[])->WJ (K w.params) H a (ns.map V.int)->sp w T [.ref a] H (fun v _=>v= .bl true) fun _ _ _=>False):
  W.WalkO q loose XP YP l.row.toRowW d [] (fun f vs=>PySem.call f vs):=by
 refine Att.attach_call hn hdf fun w s₀ s₁ mg mb fa o pm cd doc a vs ns G Y ho hd hcd ab r i e hg=>?_
 have j:=hY w _ Y;obtain⟨c,T,fd,z,p,aa,hb,hF⟩:=F w mg fa _ j G.T.g ab;have t:=hT w _ Y T z;exact mF j G.T.g G.T.b G.T.builtins G.T.nolimit hg G.T.bmain (W.codeHd_of_K j p) t (vY j t aa) r i (YW e hn2) hr hF hb (fun H h1 hS=>hsp w T H a ns e h1 hS)
end
end L2
namespace Mine
open PySem L2 PyProof.Rows
local macro_rules | `(tactic| walk_at"e")=>`(tactic| exact ⟨rfl,rfl,rfl,by decide +kernel,rfl,by decide +kernel,by decide +kernel⟩)
local macro_rules | `(tactic| walk_at"rd") => do
 let f:=fun(s:String)=>(s.splitOn " ").toArray.mapM fun x=>`(Lean.Parser.Tactic.simpLemma|$(Lean.mkIdent x.toName):term)
 let a<-f "L7 Bool.not_true Bool.not_false RX A9 BM R1 EI Ef Ek AN B8 En CO CC Ct Ew Et BY AC Ag A3 Hr FP Lm FH Py ON OO Q8 Ot Qn OB Nat.reduceAdd Km HM Kv HQ FQ FM HA AY FR Ad KC IJ A0 Ht Kt RK GY BE tC DI IE BH tB AF F7 Ee Ms Df B0 HF Ft EG EN EO Cv Aj Cz Cr CU K5 Cp Hj Fk HG IX FY rI Gp rU BW Av Kp FD Fz RS EK AJ AI JH BC EQ Bb FU Hw FS Ho Cb L2.start Bu Cc Ci Cu Ab C6 CS F1 Fp Ch AO Ha FE Au Ij HU A6 Iy Ff HS K9 IY Be AV Fi IF BG Fe List.map_cons List.map_nil List.length_cons List.length_nil List.cons_append List.nil_append List.getElem?_cons_zero List.getElem?_cons_succ List.set_cons_zero List.set_cons_succ Option.bind_some Option.bind_none Option.join_some List.replicate"
 let b<-f "Qv nE Qa So y6 SM tM"
 let c<-f "Ei Bd Ga Pt Er Lp Lk Lc Gs Fh HL ID Nat.reduceSub List.append_nil Option.some.injEq V.int.injEq V.bl.injEq V.str.injEq V.ref.injEq V.ty.injEq exists_eq_left' exists_eq_left exists_and_left and_assoc and_true true_and List.cons.injEq exists_eq exists_eq' exists_const Nat.reduceLT Nat.reduceLeDiff if_true Bool.false_eq_true if_false reduceCtorEq false_and and_false exists_false vF jN QW yV"
 `(tactic|((try dsimp only[$b,*,$a,*]);(try dsimp only[mC]);(try simp only[$a,*,$c,*])))
local macro_rules | `(tactic| walk_at"wt") => `(tactic| dsimp only [R1, DI, RX, BM, FH, Hr, FP, List.getElem?_cons_zero, List.getElem?_cons_succ])
local macro_rules | `(tactic| walk_at"ne") => `(tactic| first | assumption | (apply Ne.symm; assumption) | grind [WH, JS])
local macro_rules | `(tactic| walk_at"hp") => `(tactic| first | assumption | exact JD | (refine WH.get (by assumption) ?_; walk_at"hp") | (refine JS.get (by assumption) ?_ ?_; (· walk_at"hp"); (· walk_at"ne")))
theorem nM{α:Type}{P:α->Prop}:∀c∈([]:List α),P c:=fun _ h=>absurd h List.not_mem_nil
def JX(i:Nat):Stmt:=PySem.Challenge.pw_pieceways_k71_a_post_by_a_model.main.body.getD i (.Pass ⟨0,0,0,0⟩)
structure Cn(mg:Wp):Prop where
 c_MOST_NUMBER:∃t,mg "MOST_NUMBER"=some (.int 65535 t)
 c_MOST_BYTE:∃t,mg "MOST_BYTE"=some (.int 255 t)
 c_MOST_SIGNS:∃t,mg "MOST_SIGNS"=some (.int 8 t)
 c_MOST_BYTES:∃t,mg "MOST_BYTES"=some (.int 4000 t)
 c_LEAST_WIDTH:∃t,mg "LEAST_WIDTH"=some (.int 8 t)
 c_MOST_WIDTH:∃t,mg "MOST_WIDTH"=some (.int 5000 t)
 c_MOST_WIDTHS:∃t,mg "MOST_WIDTHS"=some (.int 20 t)
 c_STEP:∃t,mg "STEP"=some (.int 8 t)
section
variable{P:Wt}{w:Wx}{K:Wy}{mg:Wp}{base:WD}
inductive C2(vs:List V)(H:Hp)(Q:VK)(E:XK):Prop|mk (x n:_) (_:vs=[x]) (_:NT H x=some n) (_:Q (.bl (GU x)) H)
abbrev Fc:Stmt:=JX 9
theorem SU:JN ["value"] ["value"] (WF Fc):=by walk_at"e"
theorem QT{f:WA}{fd:Wv}(F:JT K "is_whole" "is_whole" Fc f fd)(B:Bt mg):WQ P w K mg base Jr 1 f fd ["value"] C2:=by
 refine F.ok SU (fun vs H Q E h=>?_) (fun b A a s H vs Q E c h=>?_)
 .obtain⟨x,n,rfl,_⟩:=h;rfl
 .obtain⟨x,n,rfl,ty,q⟩:=h;refine⟨_,(Jg (JB (MN (N3 (Rn "int") B.isinstance (WR 0 (WW (hs:=Ni) (Ra (v:=.ty "int") rfl B.bint (by rfl) rfl) WK))) (Gn (ZI (N3 (Rn "bool") B.isinstance (WR 0 (WW (hs:=Ni) (Ra (v:=.ty "bool") rfl B.bbool (by rfl) rfl) WK)))))))),?_⟩;walk_at"rd";refine⟨n,ty,?_⟩;rw[Zh ty];refine DQ (fun h=>⟨n,ty,?_⟩) (fun h=>?_)
  .rw[LM ty];have e:(!R9 x)=GU x:=by cases x <;> first|rfl|(simp[GU,R9]at h)
   rw[e];exact q
  .have e:GU x=false:=by cases x <;> first|rfl|(simp[GU,R9]at h)
   rw[e]at q;exact q
inductive AW(vs:List V)(H:Hp)(Q:VK)(E:XK):Prop|mk (x n lo hi:_) (_:vs=[x,.int lo,.int hi]) (_:NT H x=some n) (_:Q (.bl (M7 x lo hi)) H)
abbrev KJ:Stmt:=JX 10
theorem Sh:JN ["value","low","high"] ["value","low","high"] (WF KJ):=by walk_at"e"
theorem uE{f:WA}{fd:Wv}(F:JT K "is_whole_within" "is_whole_within" KJ f fd)(JE:JI P w K mg base "is_whole" 1 ["value"] [] C2):WQ P w K mg base Jr 2 f fd ["value","low","high"] AW:=by
 refine F.ok Sh (fun vs H Q E h=>?_) (fun c A a s H vs Q E b h=>?_)
 .obtain⟨x,n,lo,hi,rfl,_⟩:=h;rfl
 .obtain⟨x,n,lo,hi,rfl,ty,q⟩:=h;refine⟨_,(Jg (JB (MN (Jx JE b.m rfl (WR 0 WK)) (Gn (Pn (Jz Gz) (Jz Gz) (WG 1) (WG 0) (WG 2)))))),?_⟩;walk_at"rd";refine⟨x,n,rfl,ty,_,rfl,?_⟩;refine DQ (fun h=>?_) (fun h=>?_)
  .cases x <;> first|(simp[GU]at h;done)|skip
   rename_i i
   walk_at"rd"
   by_cases h1:lo <=i
   .simp only[h1,Xc,if_true];simpa[M7,h1] using q
   .simp only[h1,Xa,Bool.false_eq_true,if_false];simpa[M7,h1] using q
  .have e:M7 x lo hi=false:=by cases x <;> first|rfl|(simp[GU]at h)
   rw[e]at q;exact q
inductive KD(vs:List V)(H:Hp)(Q:VK)(E:XK):Prop|mk (x n:_) (_:vs=[x]) (_:NT H x=some n) (_:Q (.bl (R9 x)) H)
abbrev FB:Stmt:=JX 12
theorem nS:JN ["value"] ["value"] (WF FB):=by walk_at"e"
theorem nV{f:WA}{fd:Wv}(F:JT K "is_truth" "is_truth" FB f fd)(B:Bt mg):WQ P w K mg base Jr 1 f fd ["value"] KD:=by
 refine F.ok nS (fun vs H Q E h=>?_) (fun b A a s H vs Q E c h=>?_)
 .obtain⟨x,n,rfl,_⟩:=h;rfl
 .obtain⟨x,n,rfl,ty,q⟩:=h;refine⟨_,(Jg (JB (N3 (Rn "bool") B.isinstance (WR 0 (WW (hs:=Ni) (Ra (v:=.ty "bool") rfl B.bbool (by rfl) rfl) WK))))),?_⟩;walk_at"rd";exact⟨n,ty,by rw[LM ty];exact q⟩
inductive Qb(vs:List V)(H:Hp)(Q:VK)(E:XK):Prop|mk (x n:_) (_:vs=[x]) (_:NT H x=some n) (_:Q (.bl (M7 x 0 65535)) H)
abbrev KN:Stmt:=JX 13
theorem wI:JN ["value"] ["value"] (WF KN):=by walk_at"e"
theorem uK{f:WA}{fd:Wv}(F:JT K "is_number" "is_number" KN f fd)(T:Cn mg)(J3:JI P w K mg base "is_whole_within" 2 ["value","low","high"] [] AW):WQ P w K mg base Jr 3 f fd ["value"] Qb:=by
 refine F.ok wI (fun vs H Q E h=>?_) (fun c A a s H vs Q E b h=>?_)
 .obtain⟨x,n,rfl,_⟩:=h;rfl
 .obtain⟨x,n,rfl,ty,q⟩:=h;refine⟨_,(Jg (JB (Jx J3 b.m rfl (WR 0 (Nb WM (WW (hs:=Ni) (DW rfl T.c_MOST_NUMBER) WK)))))),?_⟩;walk_at"rd";exact⟨x,n,0,65535,rfl,ty,q⟩
inductive Of(vs:List V)(H:Hp)(Q:VK)(E:XK):Prop|mk (x n:_) (_:vs=[x]) (_:NT H x=some n) (_:Q (.bl (M7 x 0 255)) H)
abbrev Fb:Stmt:=JX 15
theorem tV:JN ["value"] ["value"] (WF Fb):=by walk_at"e"
theorem jC{f:WA}{fd:Wv}(F:JT K "is_byte" "is_byte" Fb f fd)(T:Cn mg)(J3:JI P w K mg base "is_whole_within" 2 ["value","low","high"] [] AW):WQ P w K mg base Jr 3 f fd ["value"] Of:=by
 refine F.ok tV (fun vs H Q E h=>?_) (fun c A a s H vs Q E b h=>?_)
 .obtain⟨x,n,rfl,_⟩:=h;rfl
 .obtain⟨x,n,rfl,ty,q⟩:=h;refine⟨_,(Jg (JB (Jx J3 b.m rfl (WR 0 (Nb WM (WW (hs:=Ni) (DW rfl T.c_MOST_BYTE) WK)))))),?_⟩;walk_at"rd";exact⟨x,n,0,255,rfl,ty,q⟩
inductive Ar(vs:List V)(H:Hp)(Q:VK)(E:XK):Prop|mk (x n:_) (_:vs=[x]) (_:NT H x=some n) (_:(∀z,x= .str z->z.length <=100000)) (_:∀H',WH H H'->Q (.bl (Mw x)) H')
abbrev CM:Stmt:=JX 14
theorem nK:JN ["value"] ["value"] (WF CM):=by walk_at"e"
theorem wL{f:WA}{fd:Wv}(F:JT K "is_name" "is_name" CM f fd)(T:Cn mg)(B:Bt mg):WQ P w K mg base Jr 1 f fd ["value"] Ar:=by
 refine F.ok nK (fun vs H Q E h=>?_) (fun cdv A outer s H vs Q E hr h=>?_)
 .obtain⟨x,n,rfl,_⟩:=h;rfl
 .obtain⟨x,n,rfl,ty,hz,q⟩:=h;refine⟨_,(WX (Ny (PW.pt (DG (Tv (TK (N3 (Rn "str") B.isinstance (WR 0 (WW (hs:=Ni) (Ra (v:=.ty "str") rfl B.bstr (by rfl) rfl) WK))))) (Gh (Tv (F9 (Jz Gz) (Jz Gz) WM (N3 Qt B.len (WR 0 WK)) (DW rfl T.c_MOST_SIGNS)))))) (Jg (JB Mm)) NB) (Jg (JB (N3 (ER (K:=K) rfl rfl) B.all (WW (hs:=Rx) (TU (N':=["sign"]) (caps:=[none]) (Tf (sc:=WF CM) (N:=["value"]) rfl rfl (by decide +kernel)) rfl (S9 (WG 0)) (fun _ _ _ _ _=>(T3 (i:=0) (T9 (N:=["sign"]) rfl (by decide +kernel)) rfl (Or.inl rfl))) (fun _ _ _ _ _=>Mx) (fun _ _ _ _ _=>(Pn Lh Lh JM (WG 0) JM))) WK))))),?_⟩;walk_at"rd";refine⟨n,ty,?_⟩;rw[QX ty];cases x <;> first
   |(simp only[Fx,Bool.not_false,if_true];exact q H (WH.refl H))
   |skip
  rename_i z
  have j:=hz z rfl;simp only[Fx,Bool.not_true,Bool.false_eq_true,if_false];walk_at"rd";refine⟨Nm j,?_⟩;have o:∀b,Mw (.str z)=b->∀H',WH H H'->Q (.bl b) H':=fun b e H' s=>e▸q H' s
  by_cases h1:1 <=z.length
  .have g:(1:Int) <=(z.length:Int):=by lia
   simp only[g,Xc,if_true]
   by_cases h2:z.length <=8
   .have d:(z.length:Int) <=8:=by lia
    simp only[d,Xc,Bool.not_true,Bool.false_eq_true,if_false];have t:z.cps.size=z.length:=rfl;obtain⟨r,a⟩:∃r:Nat->List V->L2.St->Hp->Prop,r=fun i ys σ' H1=>H1=H/\i <=z.cps.size/\ys=(z.cps.toList.take i).map (fun c=>V.bl (GS c))/\∃v,σ'=[v]:=⟨_,rfl⟩
    refine y7 r (by rw[a];exact⟨rfl,Yj _,by simp,none,rfl⟩) ?_ (by rw[t];exact Nm j) ?_ ?_ <;> rw[a]
    .rintro i ys σ' H1 ⟨_,hi,rfl,_⟩ _;simp only[Y1,YC];lia
    .intro i c ys σ' H1 u Zq;obtain⟨rfl,hi,rfl,v,rfl⟩:=Zq;rw[<-a];have l:i < z.cps.size:=(Vy.mp u).1;walk_at"rd";obtain⟨e1,e2⟩:=xA c;rw[e1,e2];have et:z.cps.toList.take (i+ 1)=z.cps.toList.take i++[c]:=by
      rw[YD];have:z.cps.toList[i]?=some c:=by rw[Array.getElem?_toList];exact u
      rw[this];rfl
     have eb:V.bl (GS c)=V.bl (decide (97 <=c) && decide (c <=122)):=rfl
     by_cases k1:97 <=c
     .simp only[k1,Xc,if_true];rw[a];exact⟨rfl,l,by rw[et,Yd,List.map_cons,List.map_nil,eb];simp[k1],_,rfl⟩
     .simp only[k1,Xa,Bool.false_eq_true,if_false];rw[a];exact⟨rfl,l,by rw[et,Yd,List.map_cons,List.map_nil,eb];simp[k1],_,rfl⟩
    .rintro ys σ' H1 ⟨rfl,_,rfl,_⟩ p hp;walk_at"rd";refine⟨z.cps.toList.map GS,WJ.of ?_,?_⟩
     .rw[JD];have:z.cps.toList.take z.cps.size=z.cps.toList:=by rw[Xi];simp
      rw[this,Yp];rfl
     .refine o _ ?_ _ (WH.new (WH.refl _) hp);simp only[Mw,h1,h2,Xc,UE,List.all_map];rfl
   .have d:¬(z.length:Int) <=8:=by lia
    simp only[d,Xa,Bool.not_false,if_true];exact o _ (by simp[Mw,h2]) H (WH.refl H)
  .have g:¬(1:Int) <=(z.length:Int):=by lia
   simp only[g,Xa,Bool.false_eq_true,if_false,Bool.not_false,if_true,true_and,exists_eq_left'];exact o _ (by simp[Mw,h1]) H (WH.refl H)
def TY(H:Hp)(x:V):Prop:=∀a xs,x= .ref a->H a=some (.lst xs)->xs.length <=100000/\∀y∈xs,∃n,NT H y=some n
inductive OF(vs:List V)(H:Hp)(Q:VK)(E:XK):Prop|mk (x n:_) (_:vs=[x]) (_:NT H x=some n) (_:TY H x) (_:∀H',WH H H'->Q (.bl (Dt H x)) H')
abbrev Cg:Stmt:=JX 16
theorem uM:JN ["value"] ["value"] (WF Cg):=by walk_at"e"
theorem SN{f:WA}{fd:Wv}(F:JT K "is_body" "is_body" Cg f fd)(T:Cn mg)(B:Bt mg)(Tl:JI P w K mg base "is_byte" 3 ["value"] [] Of):WQ P w K mg base Jr 4 f fd ["value"] OF:=by
 refine F.ok uM (fun vs H Q E h=>?_) (fun cdv A u s H vs Q E hr h=>?_)
 .obtain⟨x,n,rfl,_⟩:=h;rfl
 .obtain⟨x,n,rfl,ty,z,q⟩:=h;refine⟨_,(WX (Ny (PW.pt (DG (Tv (TK (N3 (Rn "list") B.isinstance (WR 0 (WW (hs:=Ni) (Ra (v:=.ty "list") rfl B.blist (by rfl) rfl) WK))))) (Gh (Tv (F9 (Jz Gz) (Jz Gz) WM (N3 (Mb (Mc (K:=K) rfl)) B.len (WR 0 WK)) (DW rfl T.c_MOST_BYTES)))))) (Jg (JB Mm)) NB) (Jg (JB (N3 (ER (K:=K) rfl rfl) B.all (WW (hs:=Rx) (TU (N':=["part"]) (caps:=[none]) (Tf (sc:=WF Cg) (N:=["value"]) rfl rfl (by decide +kernel)) rfl (Tw (K:=K) rfl (WG 0)) (fun _ _ _ _ _=>(T3 (i:=0) (T9 (N:=["part"]) rfl (by decide +kernel)) rfl (Or.inl rfl))) (fun _ _ _ _ _=>Mx) (fun _ _ _ _ _=>(Jx Tl hr.m rfl (WR 0 WK)))) WK))))),?_⟩;walk_at"rd";refine⟨n,ty,?_⟩;rw[tI ty];cases hL:EZ H x with
  |false=>
   simp only[Bool.not_false,if_true];have e:=wO hL;rw[e]at q;exact q H (WH.refl H)
  |true=>
   obtain⟨a,xs,rfl,c⟩:=Sf hL;obtain⟨l,r⟩:=z a xs rfl c;rw[Lz c]at q;simp only[Bool.not_true,Bool.false_eq_true,if_false];walk_at"rd";refine⟨xs,.inl (WJ.of c),?_⟩
   by_cases h1:1 <=xs.length
   .have g:(1:Int) <=(xs.length:Int):=by lia
    simp only[g,Xc,if_true]
    by_cases h2:xs.length <=4000
    .have d:(xs.length:Int) <=4000:=by lia
     simp only[d,Xc,Bool.not_true,Bool.false_eq_true,if_false];refine⟨⟨xs,WJ.of c⟩,?_⟩;obtain⟨o,b⟩:∃o:Nat->List V->L2.St->Hp->Prop,o=fun i ys σ' H1=>H1=H/\i <=xs.length/\ys=(xs.take i).map (fun y=>V.bl (M7 y 0 255))/\∃v,σ'=[v]:=⟨_,rfl⟩
     refine L4 (xs:=xs) o (by rw[b];exact⟨rfl,Yj _,by simp,none,rfl⟩) ?_ (Nm l) ?_ ?_ <;> rw[b]
     .rintro i ys σ' H1 ⟨rfl,hi,rfl,_⟩ _;refine⟨WJ.of c,?_⟩;simp only[Y1,YC];lia
     .intro i y ys σ' H1 j Zq;obtain⟨rfl,hi,rfl,v,rfl⟩:=Zq;rw[<-b];have t:i < xs.length:=(Y4.mp j).1;obtain⟨m,hm⟩:=r y (Ya j);walk_at"rd";refine⟨y,m,rfl,hm,?_⟩;rw[b];refine⟨rfl,t,?_,_,rfl⟩;rw[YD,j,YH,Yd,List.map_cons,List.map_nil]
     .rintro ys σ' H1 ⟨rfl,_,rfl,_⟩ p hp;walk_at"rd";refine⟨xs.map (fun y=>M7 y 0 255),WJ.of ?_,?_⟩
      .rw[JD,Xi (Y6 _),Yp];rfl
      .have e:(xs.map (fun y=>M7 y 0 255)).all id=(decide (1 <=xs.length) && decide (xs.length <=4000) && xs.all (fun y=>M7 y 0 255)):=by
        simp only[h1,h2,Xc,UE,List.all_map];rfl
       rw[e];exact q _ (WH.new (WH.refl _) hp)
    .have d:¬(xs.length:Int) <=4000:=by lia
     simp only[d,Xa,Bool.not_false,if_true];simp only[h2,Xa,W4,Uc]at q;exact q H (WH.refl H)
   .have g:¬(1:Int) <=(xs.length:Int):=by lia
    simp only[g,Xa,Bool.false_eq_true,if_false,Bool.not_false,if_true,true_and,exists_eq_left'];simp only[h1,Xa,Uc]at q;exact q H (WH.refl H)
def N6(H:Hp)(number sender goal body keep:V):Bool:=M7 number 0 65535 && (Mw sender && (Mw goal && (Dt H body && R9 keep)))
structure CB(H:Hp)(number sender goal body keep:V):Prop where
 n:∃t,NT H number=some t
 s:∃t,NT H sender=some t
 sl:∀z,sender= .str z->z.length <=100000
 g:∃t,NT H goal=some t
 gl:∀z,goal= .str z->z.length <=100000
 b:∃t,NT H body=some t
 bp:TY H body
 k:∃t,NT H keep=some t
theorem L1{H H':Hp}(s:WH H H'){x:V}{n:String}(ty:NT H x=some n):Dt H' x=Dt H x:=by
 cases x with
 |ref a=>
  have ty:(H a).bind DA=some n:=ty;cases e:H a with
  |none=>rw[e]at ty;cases ty
  |some o=>
   show(match H' a with|some (.lst xs)=>_|_=>false)=(match H a with|some (.lst xs)=>_|_=>false);rw[s a o e,e]
 |_=>rfl
theorem TY.same{H H':Hp}(s:WH H H'){x:V}{n:String}(ty:NT H x=some n)(h:TY H x):TY H' x:=by
 intro a xs ex f;subst ex;have b:(H a).bind DA=some n:=ty;cases e:H a with
 |none=>rw[e]at b;cases b
 |some o=>
  have:=s a o e;rw[f]at this;cases this;obtain⟨h1,h2⟩:=h a xs rfl e;exact⟨h1,fun y c=>by obtain⟨m,d⟩:=h2 y c;exact⟨m,CG s d⟩⟩
inductive K3(vs:List V)(H:Hp)(Q:VK)(E:XK):Prop|mk (number sender goal body keep:_) (_:vs=[number,sender,goal,body,keep]) (_:CB H number sender goal body keep) (_:∀H',WH H H'->Q (.bl (N6 H number sender goal body keep)) H')
abbrev F5:Stmt:=JX 29
theorem jP:JN ["number","sender","goal","body","keep"] ["number","sender","goal","body","keep"] (WF F5):=by walk_at"e"
theorem Sl{f:WA}{fd:Wv}(F:JT K "are_shared_parts" "are_shared_parts" F5 f fd)(NK:JI P w K mg base "is_number" 3 ["value"] [] Qb)(JG:JI P w K mg base "is_name" 1 ["value"] [] Ar)
  (Tq:JI P w K mg base "is_body" 4 ["value"] [] OF) (N8:JI P w K mg base "is_truth" 1 ["value"] [] KD):WQ P w K mg base Jr 5 f fd ["number","sender","goal","body","keep"] K3:=by
 refine F.ok jP (fun vs H Q E h=>?_) (fun cdv A u s H vs Q E i h=>?_)
 .obtain⟨a,b,c,d,e,rfl,_⟩:=h;rfl
 .obtain⟨nu,se,go,bo,ke,rfl,⟨⟨tn,hn⟩,⟨z,hs⟩,p,⟨tg,hg⟩,r,⟨tb,n⟩,t,⟨tk,hk⟩⟩,q⟩:=h;refine⟨_,(Jg (JB (MN (Jx NK i.m rfl (WR 0 WK)) (MN (Jx JG i.m rfl (WR 1 WK)) (MN (Jx JG i.m rfl (WR 2 WK)) (MN (Jx Tq i.m rfl (WR 3 WK)) (Gn (Jx N8 i.m rfl (WR 4 WK))))))))),?_⟩;walk_at"rd";unfold N6 at q;refine⟨nu,tn,rfl,hn,_,rfl,DQ (fun h1=>?_) (fun h1=>?_)⟩
  .refine⟨se,z,rfl,hs,p,fun H1 s1=>⟨_,rfl,DQ (fun h2=>?_) (fun h2=>?_)⟩⟩
   .refine⟨go,tg,rfl,CG s1 hg,r,fun H2 s2=>⟨_,rfl,DQ (fun l=>?_) (fun l=>?_)⟩⟩
    .have g:=s1.trans s2;refine⟨bo,tb,rfl,CG g n,t.same g n,fun H3 o=>⟨_,rfl,DQ (fun j=>?_) (fun j=>?_)⟩⟩
     .refine⟨ke,tk,rfl,CG (g.trans o) hk,?_⟩;rw[L1 g n]at j;simp only[h1,h2,l,j,UE]at q;exact q _ (g.trans o)
     .rw[L1 g n,V6]at j;simp only[h1,h2,l,j,UE,Uc]at q;exact q _ (g.trans o)
    .rw[V6]at l;simp only[h1,h2,l,UE,Uc]at q;exact q _ (s1.trans s2)
   .rw[V6]at h2;simp only[h1,h2,UE,Uc]at q;exact q _ s1
  .rw[V6]at h1;simp only[h1,Uc]at q;exact q H (WH.refl H)
end
section
theorem Nn{f:Str}{v:V}{fs:List (Str×V)}{n:Nat}(h:fs.length <=n):(N0 f v fs).length <=n+ 1:=YW (Hg f v fs) (Nat.succ_le_succ h)
theorem JA{f g:Str}{v:V}{fs:List (Str×V)}(h:¬g=f):(N0 f v fs).lookup g=fs.lookup g:=by rw[Cj,Y3 h]
theorem Dn{f:Str}{v:V}{fs:List (Str×V)}:(N0 f v fs).lookup f=some v:=by rw[Cj,Y9 rfl]
end
section
variable{P:Wt}{w:Wx}{K:Wy}{mg:Wp}{base:WD}
structure Ri(K:Wy)(C:WA):Prop where
 cl:Mj K C
 number:J2 K C "number"
 sender:J2 K C "sender"
 goal:J2 K C "goal"
 body:J2 K C "body"
 keep:J2 K C "keep"
structure NL(C:WA)(H:Hp)(p:WA)(nu se go bo ke:V):Prop where
 ex:∃dx fs,H p=some (.ins C dx fs)/\fs.lookup ("number":Str)=some nu/\fs.lookup ("sender":Str)=some se/\fs.lookup ("goal":Str)=some go/\fs.lookup ("body":Str)=some bo/\fs.lookup ("keep":Str)=some ke/\
  fs.lookup ("key":Str)=none/\fs.lookup ("is_like":Str)=none
inductive BN(C:WA)(vs:List V)(H:Hp)(Q:VK)(E:XK):Prop|mk (p dx nu se go b ke xs:_) (_:vs=[.ref p,nu,se,go,.ref b,ke]) (_:H p=some (.ins C dx [])) (_:CB H nu se go (.ref b) ke) (_:N6 H nu se go (.ref b) ke=true) (_:H b=some (.lst xs)) (_:∀H' b',H b'=none->b'≠p->H' b'=some (.lst xs)->NL C H' p nu se go (.ref b') ke->JS p H H'->Q .non H')
abbrev WT:Stmt:=MW (JX 32) 0
theorem uL:JN ["self","number","sender","goal","body","keep"] ["self","number","sender","goal","body","keep"] (WF WT):=by walk_at"e"
theorem jW {f C : Addr} {fd : FuncData} (F : ∃ (oc : Value) (od : Option Addr) (dV kV doc pm : Value) (an : Option Addr) (cdv ct : Value) (osl : Array (Option Value)),
  fd = W.fnOf "__init__" "Letter.__init__" (TB WT) (WP WT) (WF WT) dV kV doc pm an cdv ct /\ K.lookup f = some ⟨oc, od, .func fd, osl⟩ /\ W.codeIn K cdv "Letter.__init__" = true) (L : Ri K C) (B : Bt mg)
  (Jd:JI P w K mg base "are_shared_parts" 5 ["number","sender","goal","body","keep"] [] K3):WQ P w K mg base Jr 6 f fd ["self","number","sender","goal","body","keep"] (BN C):=by
 obtain⟨oc,od,dV,kV,doc,pm,an,cdv,ct,osl,rfl,lk,hcd⟩:=F;refine EJ lk hcd uL (fun vs H Q E h=>?_) (fun A i s H vs Q E hr h=>?_)
 .obtain⟨p,dx,nu,u,go,b,ke,xs,rfl,_⟩:=h;rfl
 .obtain⟨p,dx,nu,u,go,b,ke,xs,rfl,hp,hpl,hgd,hb,q⟩:=h
  suffices hh:∃t,Mp (TQ Jr P w K mg base _ "Letter.__init__" (WF WT) f cdv A i s H E).nox (WP WT) t/\t {nx:=fun _ H'=>Q .non H',rt:=Q} (L2.start _ _) H by
   obtain⟨t,h1,h2⟩:=hh;exact⟨t,h1.nox,h2⟩
  refine⟨_,(WX (Ny (Tv (TK (Jx Jd hr.m rfl (WR 1 (WR 2 (WR 3 (WR 4 (WR 5 WK)))))))) DV NB) (WX (DZ (K:=K) rfl (WG 0) (WG 1) rfl) (WX (DZ (K:=K) rfl (WG 0) (WG 2) rfl) (WX (DZ (K:=K) rfl (WG 0) (WG 3) rfl) (WX (DZ (K:=K) rfl (WG 0) (R0 (Hl (K:=K) rfl) rfl B.blist (by rfl) (WR 4 WK)) rfl) (Jg (DZ (K:=K) rfl (WG 0) (WG 5) rfl))))))),?_⟩;refine Ja fun N hN=>?_
  walk_at"rd";refine ⟨nu, u, go, .ref b, ke, rfl, hpl, fun H1 s1 => ⟨_, rfl, ?_⟩⟩;rw [hgd];simp only [Bool.not_true, Bool.false_eq_true, if_false];refine hN _ _ ?_;clear hN N;walk_at"rd";have hp1 := s1 p _ hp;have hb1 := s1 b _ hb;have d : b ≠ p := WL hb hp (by intro z; cases z);have j : ([] : List (Str × V)).length <= 0 := Y6 0;refine ⟨C, dx, [], hp1, L.cl, L.number, by decide, C, dx, _, JD, L.cl, L.sender, YA (Nn j) (by decide), C, dx, _, JD, L.cl, L.goal, YA (Nn (Nn j)) (by decide), xs,
   .inl (WJ.of (by rw [Jb d, Jb d, Jb d]; exact hb1)), fun l n => ?_⟩
  have a:l≠p:=fun z=>by rw[z,JD]at n;cases n
  have r:H1 l=none:=by rw[Jb a,Jb a,Jb a]at n;exact n
  refine⟨C,dx,_,by rw[Jb (Ne.symm a)];exact JD,L.cl,L.body,YA (Nn (Nn (Nn j))) (by decide),C,dx,_,JD,L.cl,L.keep,YA (Nn (Nn (Nn (Nn j)))) (by decide),?_⟩;refine q _ l (s1.free r) a (by rw[Jb a,Jb a,JD]) ⟨dx,_,JD,?_,?_,?_,?_,?_,?_,?_⟩ ?_
  .rw[JA,JA,JA,JA,Dn] <;> decide +kernel
  .rw[JA,JA,JA,Dn] <;> decide +kernel
  .rw[JA,JA,Dn] <;> decide +kernel
  .rw[JA,Dn] <;> decide +kernel
  .rw[Dn]
  .rw[JA,JA,JA,JA,JA] <;> first|rfl|decide +kernel
  .rw[JA,JA,JA,JA,JA] <;> first|rfl|decide +kernel
  .intro c o e g;rw[Jb g,Jb g,Jb (J6 (s1 c o e) r),Jb g,Jb g,Jb g];exact s1 c o e
def Ey:V->Bool
 | .int i=>decide (0 <=i) && decide (i%8=0)
 |_=>false
inductive Qo(vs:List V)(H:Hp)(Q:VK)(E:XK):Prop|mk (x n:_) (_:vs=[x]) (_:NT H x=some n) (_:Q (.bl (Ey x)) H)
abbrev HB:Stmt:=JX 30
theorem uP:JN ["at"] ["at"] (WF HB):=by walk_at"e"
theorem mD{f:WA}{fd:Wv}(F:JT K "is_place" "is_place" HB f fd)(T:Cn mg)(JE:JI P w K mg base "is_whole" 1 ["value"] [] C2):WQ P w K mg base Jr 2 f fd ["at"] Qo:=by
 refine F.ok uP (fun vs H Q E h=>?_) (fun c A a s H vs Q E b h=>?_)
 .obtain⟨x,n,rfl,_⟩:=h;rfl
 .obtain⟨x,n,rfl,ty,q⟩:=h;refine⟨_,(Jg (JB (MN (Jx JE b.m rfl (WR 0 WK)) (MN (M8 (Jz O4) (WG 0) WM (Mi _)) (Gn (M8 (MZ D9) (J0 (dI Na) (WG 0) (DW rfl T.c_STEP)) WM (Mi _))))))),?_⟩;walk_at"rd";refine⟨x,n,rfl,ty,_,rfl,DQ (fun h=>?_) (fun h=>?_)⟩
  .cases x <;> first|(simp[GU]at h;done)|skip
   rename_i i
   walk_at"rd"
   by_cases h1:0 <=i
   .simp only[h1,Xc,if_true];refine⟨by decide,rfl,?_⟩;simpa[Ey,h1] using q
   .simp only[h1,Xa,Bool.false_eq_true,if_false];simpa[Ey,h1] using q
  .have e:Ey x=false:=by cases x <;> first|rfl|(simp[GU]at h)
   rw[e]at q;exact q
def Rq(at' len:Int)(more:Bool):Bool:=if more then decide (len%8=0) && decide (at'+ len < 4000) else decide (at'+ len <=4000)
inductive Ql(vs:List V)(H:Hp)(Q:VK)(E:XK):Prop|mk (at' len more:_) (_:vs=[.int at',.int len,.bl more]) (_:Q (.bl (Rq at' len more)) H)
abbrev KB:Stmt:=JX 31
theorem tG:JN ["at","length","more"] ["at","length","more"] (WF KB):=by walk_at"e"
theorem vQ{f:WA}{fd:Wv}(F:JT K "has_room" "has_room" KB f fd)(T:Cn mg):WQ P w K mg base Jr 1 f fd ["at","length","more"] Ql:=by
 refine F.ok tG (fun vs H Q E h=>?_) (fun c A b s H vs Q E d h=>?_)
 .obtain⟨a,l,m,rfl,_⟩:=h;rfl
 .obtain⟨a,l,m,rfl,q⟩:=h;refine⟨_,(WX (Ny (TK (WG 2)) (Jg (JB (MN (M8 (MZ D9) (J0 (dI Na) (WG 1) (DW rfl T.c_STEP)) WM (Mi _)) (Gn (M8 (Jz Aa) (J0 (Jz Nw) (WG 0) (WG 1)) (DW rfl T.c_MOST_BYTES) (Mi _)))))) NB) (Jg (JB (M8 (Jz Gz) (J0 (Jz Nw) (WG 0) (WG 1)) (DW rfl T.c_MOST_BYTES) (Mi _))))),?_⟩;walk_at"rd";cases m with
  |true=>
   rw[Y9 rfl];refine⟨by decide,rfl,?_⟩;unfold Rq at q;rw[Y9 rfl]at q
   by_cases h1:l%8=0
   .rw[Y9 (by simpa using h1)];simpa[h1] using q
   .rw[Y3 (by simpa using h1)];simpa[h1] using q
  |false=>
   rw[Y3 (by simp)];exact q
structure D6(K:Wy)(C:WA):Prop where
 cl:Mj K C
 number:J2 K C "number"
 sender:J2 K C "sender"
 goal:J2 K C "goal"
 at':J2 K C "at"
 body:J2 K C "body"
 more:J2 K C "more"
 keep:J2 K C "keep"
structure Nv(C:WA)(H:Hp)(p:WA)(nu se go a bo mo ke:V):Prop where
 ex:∃dx fs,H p=some (.ins C dx fs)/\fs.lookup ("number":Str)=some nu/\fs.lookup ("sender":Str)=some se/\fs.lookup ("goal":Str)=some go/\fs.lookup ("at":Str)=some a/\fs.lookup ("body":Str)=some bo/\fs.lookup ("more":Str)=some mo/\fs.lookup ("keep":Str)=some ke/\
  fs.lookup ("key":Str)=none/\fs.lookup ("end":Str)=none/\fs.lookup ("is_like":Str)=none
theorem Nv.same{C p:WA}{H H':Hp}{nu se go a bo mo ke:V}(s:∀o,H p=some o->H' p=some o)(h:Nv C H p nu se go a bo mo ke):Nv C H' p nu se go a bo mo ke:=by
 obtain⟨dx,fs,b,r⟩:=h;exact⟨dx,fs,s _ b,r⟩
inductive Br(C:WA)(vs:List V)(H:Hp)(Q:VK)(E:XK):Prop|mk (p dx:WA) (nu se go:V) (a:Int) (b:WA) (mo:Bool) (ke:V) (xs:List V) (_:vs=[.ref p,nu,se,go,.int a,.ref b,.bl mo,ke]) (_:H p=some (.ins C dx [])) (_:CB H nu se go (.ref b) ke) (_:N6 H nu se go (.ref b) ke=true) (_:Ey (.int a)=true) (_:H b=some (.lst xs)) (_:Rq a xs.length mo=true) (_:∀H' b',H b'=none->b'≠p->H' b'=some (.lst xs)->Nv C H' p nu se go (.int a) (.ref b') (.bl mo) ke->JS p H H'->Q .non H')
abbrev WY:Stmt:=MW (JX 33) 0
theorem SE:JN ["self","number","sender","goal","at","body","more","keep"] ["self","number","sender","goal","at","body","more","keep"] (WF WY):=by walk_at"e"
theorem Zv {f C : Addr} {fd : FuncData} (F : ∃ (oc : Value) (od : Option Addr) (dV kV doc pm : Value) (an : Option Addr) (cdv ct : Value) (osl : Array (Option Value)),
  fd = W.fnOf "__init__" "Piece.__init__" (TB WY) (WP WY) (WF WY) dV kV doc pm an cdv ct /\ K.lookup f = some ⟨oc, od, .func fd, osl⟩ /\ W.codeIn K cdv "Piece.__init__" = true) (L : D6 K C) (B : Bt mg)
  (Jd:JI P w K mg base "are_shared_parts" 5 ["number","sender","goal","body","keep"] [] K3) (NZ:JI P w K mg base "is_place" 2 ["at"] [] Qo) (N8:JI P w K mg base "is_truth" 1 ["value"] [] KD)
  (NW:JI P w K mg base "has_room" 1 ["at","length","more"] [] Ql):WQ P w K mg base Jr 6 f fd ["self","number","sender","goal","at","body","more","keep"] (Br C):=by
 obtain⟨oc,od,dV,kV,doc,pm,an,cdv,ct,osl,rfl,lk,hcd⟩:=F;refine EJ lk hcd SE (fun vs H Q E h=>?_) (fun A r s H vs Q E hr h=>?_)
 .obtain⟨p,dx,nu,se,go,a,b,mo,ke,xs,rfl,_⟩:=h;rfl
 .obtain⟨p,dx,nu,se,go,a,b,mo,ke,xs,rfl,hp,hpl,hgd,hat,hb,u,q⟩:=h
  suffices hh:∃t,Mp (TQ Jr P w K mg base _ "Piece.__init__" (WF WY) f cdv A r s H E).nox (WP WY) t/\t {nx:=fun _ H'=>Q .non H',rt:=Q} (L2.start _ _) H by
   obtain⟨t,h1,h2⟩:=hh;exact⟨t,h1.nox,h2⟩
  refine⟨_,(WX (Ny (Tv (TK (Jx Jd hr.m rfl (WR 1 (WR 2 (WR 3 (WR 5 (WR 7 WK)))))))) DV NB) (WX (Ny (PW.pt (DG (Tv (TK (Jx NZ hr.m rfl (WR 4 WK)))) (DG (Tv (TK (Jx N8 hr.m rfl (WR 6 WK)))) (Gh (Tv (TK (Jx NW hr.m rfl (WR 4 (Dc (N3 (Mb (Mc (K:=K) rfl)) B.len (WR 5 WK)) (WR 6 WK)))))))))) DV NB) (WX (DZ (K:=K) rfl (WG 0) (WG 1) rfl) (WX (DZ (K:=K) rfl (WG 0) (WG 2) rfl) (WX (DZ (K:=K) rfl (WG 0) (WG 3) rfl) (WX (DZ (K:=K) rfl (WG 0) (WG 4) rfl) (WX (DZ (K:=K) rfl (WG 0) (R0 (Hl (K:=K) rfl) rfl B.blist (by rfl) (WR 5 WK)) rfl) (WX (DZ (K:=K) rfl (WG 0) (WG 6) rfl) (Jg (DZ (K:=K) rfl (WG 0) (WG 7) rfl)))))))))),?_⟩;refine Ja fun N n=>?_
  walk_at"rd";refine⟨nu,se,go,.ref b,ke,rfl,hpl,fun H1 s1=>⟨_,rfl,?_⟩⟩;rw[hgd];simp only[Bool.not_true,Bool.false_eq_true,if_false];refine n _ _ ?_;clear n N;refine Ja fun N n=>?_
  walk_at"rd";refine ⟨.int a, _, rfl, rfl, _, rfl, ?_⟩;rw [hat];simp only [Bool.not_true, Bool.false_eq_true, if_false];refine ⟨.bl mo, _, rfl, rfl, _, rfl, ?_⟩;have hp1 := s1 p _ hp;have hb1 := s1 b _ hb;have i : b ≠ p := WL hb hp (by intro z; cases z);have j : ([] : List (Str × V)).length <= 0 := Y6 0;simp only [R9, Bool.not_true, Bool.false_eq_true, if_false];refine ⟨_, .inl (WJ.of hb1), a, _, mo, rfl, _, rfl, ?_⟩;rw [u];simp only [Bool.not_true, Bool.false_eq_true, if_false];refine n _ _ ?_;clear n N;walk_at"rd";refine ⟨C, dx, [], hp1, L.cl, L.number, by decide, C, dx, _, JD, L.cl, L.sender, YA (Nn j) (by decide), C, dx, _, JD, L.cl, L.goal, YA (Nn (Nn j)) (by decide), C, dx, _, JD, L.cl, L.at', YA (Nn (Nn (Nn j))) (by decide), xs,
   .inl (WJ.of (by rw [Jb i, Jb i, Jb i, Jb i]; exact hb1)), fun l hl => ?_⟩
  have d:l≠p:=fun z=>by rw[z,JD]at hl;cases hl
  have hl1:H1 l=none:=by rw[Jb d,Jb d,Jb d,Jb d]at hl;exact hl
  refine⟨C,dx,_,by rw[Jb (Ne.symm d)];exact JD,L.cl,L.body,YA (Nn (Nn (Nn (Nn j)))) (by decide),C,dx,_,JD,L.cl,L.more,YA (Nn (Nn (Nn (Nn (Nn j))))) (by decide),C,dx,_,JD,L.cl,L.keep,YA (Nn (Nn (Nn (Nn (Nn (Nn j)))))) (by decide),?_⟩;refine q _ l (s1.free hl1) d (by rw[Jb d,Jb d,Jb d,JD]) ⟨dx,_,JD,?_,?_,?_,?_,?_,?_,?_,?_,?_,?_⟩ ?_
  .rw[JA,JA,JA,JA,JA,JA,Dn] <;> decide +kernel
  .rw[JA,JA,JA,JA,JA,Dn] <;> decide +kernel
  .rw[JA,JA,JA,JA,Dn] <;> decide +kernel
  .rw[JA,JA,JA,Dn] <;> decide +kernel
  .rw[JA,JA,Dn] <;> decide +kernel
  .rw[JA,Dn] <;> decide +kernel
  .rw[Dn]
  .rw[JA,JA,JA,JA,JA,JA,JA] <;> first|rfl|decide +kernel
  .rw[JA,JA,JA,JA,JA,JA,JA] <;> first|rfl|decide +kernel
  .rw[JA,JA,JA,JA,JA,JA,JA] <;> first|rfl|decide +kernel
  .intro c o e g;rw[Jb g,Jb g,Jb g,Jb (J6 (s1 c o e) hl1),Jb g,Jb g,Jb g,Jb g];exact s1 c o e
inductive Hz(C:WA)(vs:List V)(H:Hp)(Q:VK)(E:XK):Prop|mk (p nu se go a bo mo ke:_) (_:vs=[.ref p]) (_:Nv C H p nu se go a bo mo ke) (_:∀t,H t=none->Q (.ref t) (upd H t (.tup [nu,se,go])))
abbrev Ki:Stmt:=MW (JX 33) 1
theorem Z5:JN ["self"] ["self"] (WF Ki):=by walk_at"e"
theorem xD{f C:WA}{fd:Wv}(F:JT K "key" "Piece.key" Ki f fd)(L:D6 K C):WQ P w K mg base Jr 1 f fd ["self"] (Hz C):=by
 refine F.ok Z5 (fun vs H Q E h=>?_) (fun t A g s H vs Q E u h=>?_)
 .obtain⟨p,d,c,e,a,r,i,j,rfl,_⟩:=h;rfl
 .obtain⟨p,d,c,e,a,r,i,j,rfl,⟨dx,fs,b,o,n,l,_⟩,q⟩:=h;refine⟨_,(Jg (JB (QL (TN (IW (K:=K) rfl (WG 0) rfl) (TN (IW (K:=K) rfl (WG 0) rfl) (TN (IW (K:=K) rfl (WG 0) rfl) WK)))))),?_⟩;walk_at"rd";exact⟨C,dx,fs,b,L.cl,L.number,d,o,C,dx,fs,b,L.cl,L.sender,c,n,C,dx,fs,b,L.cl,L.goal,e,l,Nm (by decide),q⟩
def MX(H:Hp)(a:WA):Prop:=(∃n,H a=some (.lst [.int n]))\/∃n m c,H a=some (.lst [.int n,.int m,.int c])
theorem wU(x y:Int):Gm (x%2147483647) y:=.inl ⟨by have:=Um x (show(2147483647:Int)≠0 by decide);lia,by have:=U0 x (show(0:Int) < 2147483647 by decide);lia⟩
def Js(z:Str):Prop:=1 <=z.length/\z.length <=8/\z.cps.toList.all GS=true
theorem Js.is{z:Str}(h:Js z):Mw (.str z)=true:=by
 obtain⟨h1,h2,a⟩:=h;simp only[Mw,h1,h2,a,Xc,Bool.and_self]
end
section
variable{K:Wy}
theorem Js.ok{z:Str}(h:Js z):PyData.strOk z=true:=by
 unfold PyData.strOk;rw[Array.all_eq_true];intro i hi;have a:=Xn.mp h.2.2 (z.cps[i]) (Array.getElem_mem_toList hi);unfold GS at a;simp only[YN,Yt]at a;simp only[Yt];lia
abbrev OT(nu:Int)(z1 z2:Str):PyData:=.tuple [.int nu,.str z1,.str z2]
theorem wY{H:Hp}{t:WA}{nu:Int}{z1 z2:Str}(h:H t=some (.tup [.int nu,.str z1,.str z2])):Dp K H (.ref t) (OT nu z1 z2):=
 .tup (N9.of h) (.cons (.int _) (.cons (.str _) (.cons (.str _) .nil)))
theorem Rf{H:Hp}{b:WA}{ns:WB}(h:H b=some (.lst (ns.map V.int))):Dp K H (.ref b) (.list (ns.map PyData.int)):=.lst (WJ.of h) (Nz.ints ns)
theorem EV(ns:WB):PyData.eqv (.list (ns.map PyData.int)) (.list (ns.map PyData.int))=true:=by
 show PyData.eqvAll _ _=true;rw[W.ked_eqvAll];simp
theorem SL{n:Nat}(h:0 < n):DX n 0=some 0:=by
 have h':(0:Int) < (n:Int):=by lia
 unfold DX;rw[Y9 (by decide),Y9 h'];rfl
theorem E4{α:Type}{x:α}{xs:List α}:Ts (x::xs) 0=some x:=by
 unfold Ts;rw[List.length_cons,SL (Nat.succ_pos _)];rfl
theorem L3{H:Hp}{nu:Int}{z1 z2:Str}{b:WA}{ns:WB}{k:Bool}(h0:0 <=nu)(h1:nu <=65535)(n1:Js z1)(n2:Js z2)(hb:H b=some (.lst (ns.map V.int)))(l1:1 <=ns.length)(l2:ns.length <=4000)(hns:∀x∈ns,0 <=x/\x <=255):
  CB H (.int nu) (.str z1) (.str z2) (.ref b) (.bl k)/\N6 H (.int nu) (.str z1) (.str z2) (.ref b) (.bl k)=true:=by
 refine⟨⟨⟨_,rfl⟩,⟨_,rfl⟩,fun z e=>?_,⟨_,rfl⟩,fun z e=>?_,⟨_,Af hb⟩,fun a xs g f=>?_,⟨_,rfl⟩⟩,?_⟩
 .cases e;have:=n1.2.1;lia
 .cases e;have:=n2.2.1;lia
 .cases g;rw[hb]at f;cases f;refine⟨by rw[Y1];lia,fun y c=>?_⟩;obtain⟨i,_,rfl⟩:=Yw.mp c;exact⟨_,rfl⟩
 .unfold N6;rw[n1.is,n2.is,Lz hb];have d:(ns.map V.int).all (fun y=>M7 y 0 255)=true:=by
   rw[Xn];intro y c;obtain⟨i,hi,rfl⟩:=Yw.mp c;have:=hns i hi;simp[M7,this.1,this.2]
  rw[d];simp[M7,h0,h1,l1,l2,R9]
end
section
variable{P:Wt}{w:Wx}{K:Wy}{mg:Wp}{base:WD}
theorem NL.same{C p:WA}{H H':Hp}{nu se go bo ke:V}(s:∀o,H p=some o->H' p=some o)(h:NL C H p nu se go bo ke):NL C H' p nu se go bo ke:=by
 obtain⟨dx,fs,a,r⟩:=h;exact⟨dx,fs,s _ a,r⟩
end
structure PD where
 nu:Int
 z1:Str
 z2:Str
 at':Int
 ns:List Int
 mo:Bool
 k:Bool
 deriving DecidableEq
structure PD.Ok(d:PD):Prop where
 n0:0 <=d.nu
 n1:d.nu <=65535
 k1:Js d.z1
 k2:Js d.z2
 l1:1 <=d.ns.length
 l2:d.ns.length <=4000
 by':∀x∈d.ns,0 <=x/\x <=255
 a0:0 <=d.at'
 a8:d.at'%8=0
 rm:Rq d.at' d.ns.length d.mo=true
structure Jw(C:WA)(H:Hp)(p b:WA)(d:PD):Prop where
 ok:d.Ok
 ats:Nv C H p (.int d.nu) (.str d.z1) (.str d.z2) (.int d.at') (.ref b) (.bl d.mo) (.bl d.k)
 bd:H b=some (.lst (d.ns.map V.int))
section
variable{P:Wt}{w:Wx}{K:Wy}{mg:Wp}{base:WD}{C p b:WA}{H G:Hp}
theorem Jw.mono{d:PD}(s:WH H G)(h:Jw C H p b d):Jw C G p b d:=⟨h.ok,h.ats.same (s p),s _ _ h.bd⟩
theorem Jw.but{d:PD}{l:WA}(s:JS l H G)(h:Jw C H p b d)(n1:p≠l)(n2:b≠l):Jw C G p b d:=⟨h.ok,h.ats.same fun o e=>s p o e n1,s _ _ h.bd n2⟩
theorem Jw.ins{d:PD}(h:Jw C H p b d):∃dx fs,H p=some (.ins C dx fs):=by
 obtain⟨dx,fs,a,_⟩:=h.ats;exact⟨dx,fs,a⟩
theorem LX{d:PD}(L:D6 K C)(h:Jw C H p b d):N5 K H (.ref p) "number" (.int d.nu):=by
 obtain⟨dx,fs,a,c,l,j,i,g,f,e,_⟩:=h.ats;exact⟨p,C,dx,fs,rfl,a,L.cl,L.number,c⟩
theorem O2{d:PD}(L:D6 K C)(h:Jw C H p b d):N5 K H (.ref p) "sender" (.str d.z1):=by
 obtain⟨dx,fs,a,l,c,j,i,g,f,e,_⟩:=h.ats;exact⟨p,C,dx,fs,rfl,a,L.cl,L.sender,c⟩
theorem P3{d:PD}(L:D6 K C)(h:Jw C H p b d):N5 K H (.ref p) "goal" (.str d.z2):=by
 obtain⟨dx,fs,a,l,j,c,i,g,f,e,_⟩:=h.ats;exact⟨p,C,dx,fs,rfl,a,L.cl,L.goal,c⟩
theorem FC{d:PD}(L:D6 K C)(h:Jw C H p b d):N5 K H (.ref p) "at" (.int d.at'):=by
 obtain⟨dx,fs,a,l,j,i,c,g,f,e,_⟩:=h.ats;exact⟨p,C,dx,fs,rfl,a,L.cl,L.at',c⟩
theorem B6{d:PD}(L:D6 K C)(h:Jw C H p b d):N5 K H (.ref p) "body" (.ref b):=by
 obtain⟨dx,fs,a,l,j,i,g,c,f,e,_⟩:=h.ats;exact⟨p,C,dx,fs,rfl,a,L.cl,L.body,c⟩
theorem PP{d:PD}(L:D6 K C)(h:Jw C H p b d):N5 K H (.ref p) "more" (.bl d.mo):=by
 obtain⟨dx,fs,a,l,j,i,g,f,c,e,_⟩:=h.ats;exact⟨p,C,dx,fs,rfl,a,L.cl,L.more,c⟩
theorem BZ{d:PD}(L:D6 K C)(h:Jw C H p b d):N5 K H (.ref p) "keep" (.bl d.k):=by
 obtain⟨dx,fs,a,l,j,i,g,f,e,c,_⟩:=h.ats;exact⟨p,C,dx,fs,rfl,a,L.cl,L.keep,c⟩
theorem LZ{d:PD}(h:Jw C H p b d):Ia C "key" H (.ref p):=by
 obtain⟨dx,fs,a,_,_,_,_,_,_,_,f,_⟩:=h.ats;exact⟨p,dx,fs,rfl,a,f⟩
inductive HW(C:WA)(vs:List V)(H:Hp)(Q:VK)(E:XK):Prop|mk (d:PD) (b:WA) (_:vs=[.int d.nu,.str d.z1,.str d.z2,.int d.at',.ref b,.bl d.mo,.bl d.k]) (_:d.Ok) (_:H b=some (.lst (d.ns.map V.int))) (_:∀p b' G,H p=none->H b'=none->WH H G->Jw C G p b' d->Q (.ref p) G)
theorem Qg(F:Di P w K mg base "Piece" C 6 ["self","number","sender","goal","at","body","more","keep"] [] (Br C)):MR P w K mg base "Piece" 6 (HW C):=by
 refine F.ct fun vs H Q h y dx G a r t s i=>?_
 obtain⟨d,b,rfl,ok,c,q⟩:=h;obtain⟨f,l⟩:=L3 (k:=d.k) ok.n0 ok.n1 ok.k1 ok.k2 (s b _ c) ok.l1 ok.l2 ok.by'
 exact⟨y,dx,_,_,_,d.at',b,d.mo,_,_,rfl,i,f,l,by simp[Ey,ok.a0,ok.a8],s b _ c,by rw[Y1];exact ok.rm,fun H' p j h1 h2 g n=>⟨rfl,q y p H' a (s.free j) (fun d o e=>n d o (s d o e) (J6 e a)) ⟨ok,g,h2⟩⟩⟩
def PD.key(d:PD):Int×Str×Str:=(d.nu,d.z1,d.z2)
end
section
variable{P:Wt}{w:Wx}{K:Wy}{mg:Wp}{base:WD}{C:WA}
inductive IV(C:WA)(vs:List V)(H:Hp)(Q:VK)(E:XK):Prop|mk (p b:WA) (d:PD) (_:vs=[.ref p]) (_:Jw C H p b d) (_:∀t G,H t=none->WH H G->G t=some (.tup [.int d.nu,.str d.z1,.str d.z2])->Q (.ref t) G)
theorem OM(F:Tc P w K mg base C "key" 1 ["self"] [] (Hz C)):Tc P w K mg base C "key" 1 ["self"] [] (IV C):=
 F.imp fun vs H Q E zz=>by rcases zz with⟨p,b,d,e,h,q⟩;exact ⟨p,_,_,_,_,_,_,_,e,h.ats,fun t a=>q t _ a (Tx a) JD⟩
end
structure LD where
 nu:Int
 z1:Str
 z2:Str
 ns:List Int
 k:Bool
 deriving DecidableEq
structure LD.Ok(d:LD):Prop where
 n0:0 <=d.nu
 n1:d.nu <=65535
 k1:Js d.z1
 k2:Js d.z2
 l1:1 <=d.ns.length
 l2:d.ns.length <=4000
 by':∀x∈d.ns,0 <=x/\x <=255
structure Tj(C:WA)(H:Hp)(p b:WA)(d:LD):Prop where
 ok:d.Ok
 ats:NL C H p (.int d.nu) (.str d.z1) (.str d.z2) (.ref b) (.bl d.k)
 bd:H b=some (.lst (d.ns.map V.int))
section
variable{P:Wt}{w:Wx}{K:Wy}{mg:Wp}{base:WD}{C p b:WA}{H G:Hp}
theorem Tj.mono{d:LD}(s:WH H G)(h:Tj C H p b d):Tj C G p b d:=⟨h.ok,h.ats.same (s p),s _ _ h.bd⟩
theorem Tj.ins{d:LD}(h:Tj C H p b d):∃dx fs,H p=some (.ins C dx fs):=by
 obtain⟨dx,fs,a,_⟩:=h.ats;exact⟨dx,fs,a⟩
theorem uJ{d:LD}(L:Ri K C)(h:Tj C H p b d):N5 K H (.ref p) "number" (.int d.nu):=by
 obtain⟨dx,fs,a,c,i,g,f,e,_⟩:=h.ats;exact⟨p,C,dx,fs,rfl,a,L.cl,L.number,c⟩
theorem nR{d:LD}(L:Ri K C)(h:Tj C H p b d):N5 K H (.ref p) "sender" (.str d.z1):=by
 obtain⟨dx,fs,a,i,c,g,f,e,_⟩:=h.ats;exact⟨p,C,dx,fs,rfl,a,L.cl,L.sender,c⟩
theorem ZZ{d:LD}(L:Ri K C)(h:Tj C H p b d):N5 K H (.ref p) "goal" (.str d.z2):=by
 obtain⟨dx,fs,a,i,g,c,f,e,_⟩:=h.ats;exact⟨p,C,dx,fs,rfl,a,L.cl,L.goal,c⟩
theorem Zx{d:LD}(L:Ri K C)(h:Tj C H p b d):N5 K H (.ref p) "body" (.ref b):=by
 obtain⟨dx,fs,a,i,g,f,c,e,_⟩:=h.ats;exact⟨p,C,dx,fs,rfl,a,L.cl,L.body,c⟩
theorem SG{d:LD}(L:Ri K C)(h:Tj C H p b d):N5 K H (.ref p) "keep" (.bl d.k):=by
 obtain⟨dx,fs,a,i,g,f,e,c,_⟩:=h.ats;exact⟨p,C,dx,fs,rfl,a,L.cl,L.keep,c⟩
inductive LW(C:WA)(vs:List V)(H:Hp)(Q:VK)(E:XK):Prop|mk (d:LD) (b:WA) (_:vs=[.int d.nu,.str d.z1,.str d.z2,.ref b,.bl d.k]) (_:d.Ok) (_:H b=some (.lst (d.ns.map V.int))) (_:∀p b' G,H p=none->H b'=none->WH H G->Tj C G p b' d->Q (.ref p) G)
theorem vJ(F:Di P w K mg base "Letter" C 6 ["self","number","sender","goal","body","keep"] [] (BN C)):MR P w K mg base "Letter" 6 (LW C):=by
 refine F.ct fun vs H Q h y dx G a r t s i=>?_
 obtain⟨d,b,rfl,ok,c,q⟩:=h;obtain⟨f,l⟩:=L3 (k:=d.k) ok.n0 ok.n1 ok.k1 ok.k2 (s b _ c) ok.l1 ok.l2 ok.by'
 exact⟨y,dx,_,_,_,b,_,_,rfl,i,f,l,s b _ c,fun H' p j h1 h2 g n=>⟨rfl,q y p H' a (s.free j) (fun d o e=>n d o (s d o e) (J6 e a)) ⟨ok,g,h2⟩⟩⟩
end
section
variable{P:Wt}{w:Wx}{K:Wy}{mg:Wp}{base:WD}{C:WA}
def LD.whole(d:LD):PD:=⟨d.nu,d.z1,d.z2,0,d.ns,false,d.k⟩
theorem LD.whole_ok {d : LD} (ok : d.Ok) : d.whole.Ok := ⟨ok.n0, ok.n1, ok.k1, ok.k2, ok.l1, ok.l2, ok.by', XE 0, rfl, by
 show Rq 0 d.ns.length false = true;unfold Rq;have := ok.l2;simp; lia⟩
end
section
variable{P:Wt}{w:Wx}{K:Wy}{mg:Wp}{base:WD}
def JL(C:WA)(H:Hp)(ps:List (Addr×Addr))(ds:List PD):Prop:=Paired (fun(q:Addr×Addr) (d:PD)=>Jw C H q.1 q.2 d) ps ds
theorem JL.len{C:WA}{H:Hp}{ps:List (Addr×Addr)}{ds:List PD}(h:JL C H ps ds):ps.length=ds.length:=Paired.length h
theorem JL.mono{C:WA}{H G:Hp}{ps:List (Addr×Addr)}{ds:List PD}(s:WH H G)(h:JL C H ps ds):JL C G ps ds:=by
 induction h with
 |nil=>exact .nil
 |cons r _ ih=>exact .cons (r.mono s) ih
theorem JL.app{C:WA}{H:Hp}{ps qs:List (Addr×Addr)}{ds es:List PD}(h:JL C H ps ds)(k:JL C H qs es):JL C H (ps++qs) (ds++es):=by
 induction h with
 |nil=>exact k
 |cons r _ ih=>exact .cons r ih
theorem JL.get{C:WA}{H:Hp}{ps:List (Addr×Addr)}{ds:List PD}(h:JL C H ps ds){i:Nat}{q:Addr×Addr}(e:ps[i]?=some q):∃d,ds[i]?=some d/\Jw C H q.1 q.2 d:=by
 induction h generalizing i with
 |nil=>simp at e
 |cons r _ ih=>
  cases i with
  |zero=>
   simp only[List.getElem?_cons_zero,Option.some.injEq]at e;subst e;exact⟨_,rfl,r⟩
  |succ i=>exact ih (by simpa using e)
def MD(ps:List (Addr×Addr)):List V:=ps.map fun q=>V.ref q.1
theorem Ea(ps:List (Addr×Addr)):(MD ps).length=ps.length:=Y1 ..
theorem ZJ(a b:List (Addr×Addr)):MD (a++b)=MD a++MD b:=Yd
theorem Hu{ps:List (Addr×Addr)}{i:Nat}{x:V}(h:(MD ps)[i]?=some x):∃q,ps[i]?=some q/\x= .ref q.1:=by
 unfold MD at h;rw[Yf]at h;cases e:ps[i]? with
 |none=>rw[e]at h;cases h
 |some q=>rw[e]at h;exact⟨q,rfl,(Yn h).symm⟩
end
def xQ(n:Nat):L2.St->Nat
 |[_,_,_,_,some (.int lo),_]=>n - lo.toNat
 |_=>0
theorem Sz{c e F R:Prop}[Decidable c][Decidable e](h:c->¬e)(r:R):if c then(if e then F else R) else R:=by
 by_cases hc:c
 .rw[Y9 hc,Y3 (h hc)];exact r
 .rw[Y3 hc];exact r
def Jm(w:Nat):Nat:=w - w%8
def PD.part(d:PD)(lo hi:Nat):PD:=⟨d.nu,d.z1,d.z2,d.at'+ lo,(d.ns.drop lo).take (hi - lo),d.mo||decide (hi < d.ns.length),d.k⟩
def J1(w:Nat)(d:PD)(lo:Nat):List PD:=
 if h:w < d.ns.length - lo/\8 <=w then d.part lo (lo+ Jm w)::J1 w d (lo+ Jm w) else [d.part lo d.ns.length]
termination_by d.ns.length - lo
decreasing_by unfold Jm;omega
theorem BK{w:Nat}{d:PD}{lo:Nat}(h:w < d.ns.length - lo)(h8:8 <=w):J1 w d lo=d.part lo (lo+ Jm w)::J1 w d (lo+ Jm w):=by
 rw[J1,dif_pos ⟨h,h8⟩]
theorem B9{w:Nat}{d:PD}{lo:Nat}(h:¬w < d.ns.length - lo):J1 w d lo=[d.part lo d.ns.length]:=by
 rw[J1,dif_neg (fun z=>h z.1)]
theorem PD.part_len{d:PD}{lo hi:Nat}(h1:lo <=hi)(h2:hi <=d.ns.length):(d.part lo hi).ns.length=hi - lo:=by
 show((d.ns.drop lo).take (hi - lo)).length=_;rw[YC,X9];omega
theorem PD.part_ok{d:PD}(ok:d.Ok){lo hi:Nat}(h1:lo < hi)(h2:hi <=d.ns.length)(h8:lo%8=0)(hh:hi=d.ns.length\/hi%8=0):(d.part lo hi).Ok:=by
 have b:=PD.part_len (d:=d) (XJ h1) h2;have l2:=ok.l2;have a8:=ok.a8;have a0:=ok.a0;refine⟨ok.n0,ok.n1,ok.k1,ok.k2,by omega,by omega,fun x a=>ok.by' x (Xz (Xo a)),?_,?_,?_⟩
 .show 0 <=d.at'+ (lo:Int);omega
 .show(d.at'+ (lo:Int))%8=0;omega
 .rw[b];have rm:=ok.rm;show Rq (d.at'+ (lo:Int)) ((hi - lo:Nat):Int) (d.mo||decide (hi < d.ns.length))=true;unfold Rq at rm ⊢;cases e:d.mo
  .rw[e]at rm;simp only[Bool.false_eq_true,if_false,Yt]at rm
   by_cases hlt:hi < d.ns.length
   .simp only[hlt,Xc,Bool.or_true,if_true,YN,Yt];omega
   .simp only[hlt,Xa,Vv,Bool.false_eq_true,if_false,Yt];omega
  .rw[e]at rm;simp only[if_true,YN,Yt]at rm;simp only[Wl,if_true,YN,Yt];omega
section
variable{P:Wt}{w:Wx}{K:Wy}{mg:Wp}{base:WD}
inductive CZ(vs:List V)(H:Hp)(Q:VK)(E:XK):Prop|mk (x n:_) (_:vs=[x]) (_:NT H x=some n) (_:Q (.bl (M7 x 8 5000)) H)
abbrev IP:Stmt:=JX 17
theorem nH:JN ["value"] ["value"] (WF IP):=by walk_at"e"
theorem wM{f:WA}{fd:Wv}(F:JT K "is_width" "is_width" IP f fd)(T:Cn mg)(J3:JI P w K mg base "is_whole_within" 2 ["value","low","high"] [] AW):WQ P w K mg base Jr 3 f fd ["value"] CZ:=by
 refine F.ok nH (fun vs H Q E h=>?_) (fun c A a s H vs Q E b h=>?_)
 .obtain⟨x,n,rfl,_⟩:=h;rfl
 .obtain⟨x,n,rfl,ty,q⟩:=h;refine⟨_,(Jg (JB (Jx J3 b.m rfl (WR 0 (WW (hs:=Ni) (DW rfl T.c_LEAST_WIDTH) (WW (hs:=Ni) (DW rfl T.c_MOST_WIDTH) WK)))))),?_⟩;walk_at"rd";exact⟨x,n,8,5000,rfl,ty,q⟩
inductive Oq(vs:List V)(H:Hp)(Q:VK)(E:XK):Prop|mk (w:Nat) (_:vs=[.int w]) (_:Q (.int (Jm w)) H)
abbrev I0:Stmt:=JX 35
theorem Zi:JN ["width"] ["width"] (WF I0):=by walk_at"e"
theorem yX{f:WA}{fd:Wv}(F:JT K "full_length" "full_length" I0 f fd)(T:Cn mg):WQ P w K mg base Jr 1 f fd ["width"] Oq:=by
 refine F.ok Zi (fun vs H Q E h=>?_) (fun b A a s H vs Q E c h=>?_)
 .obtain⟨x,rfl,_⟩:=h;rfl
 .obtain⟨x,rfl,q⟩:=h;refine⟨_,(Jg (JB (J0 (Jz Bo) (WG 0) (J0 (dI Na) (WG 0) (DW rfl T.c_STEP))))),?_⟩;walk_at"rd";refine⟨by decide,?_⟩;have e:(x:Int) - (x:Int)%8=((Jm x:Nat):Int):=by unfold Jm;omega
  rw[e];exact q
inductive IG(C:WA)(vs:List V)(H:Hp)(Q:VK)(E:XK):Prop|mk (p b:WA) (d:PD) (lo hi:Nat) (_:vs=[.ref p,.int lo,.int hi]) (_:Jw C H p b d) (_:lo < hi) (_:hi <=d.ns.length) (_:lo%8=0) (_:(hi=d.ns.length\/hi%8=0)) (_:∀q b' G,H q=none->H b'=none->WH H G->Jw C G q b' (d.part lo hi)->Q (.ref q) G)
abbrev KH:Stmt:=JX 36
theorem LQ:JN ["piece","low","high","more"] ["piece","low","high"] (WF KH):=by walk_at"e"
theorem vK{f C:WA}{fd:Wv}(F:JT K "part_of" "part_of" KH f fd)(B:Bt mg)(LP:D6 K C)(Mt:MR P w K mg base "Piece" 6 (HW C)):WQ P w K mg base Jr 8 f fd ["piece","low","high"] (IG C):=by
 refine F.ok LQ (fun vs H Q E h=>?_) (fun aa A t s H vs Q E u h=>?_)
 .obtain⟨p,b,d,lo,hi,rfl,_⟩:=h;rfl
 .obtain⟨p,b,d,lo,hi,rfl,a,h1,h2,r,hh,q⟩:=h;refine⟨_,(WX (Nf 3 LQ (wE (Nd K (WG 0)) (Gn (M8 (Jz Aa) (WG 2) (N3 (Mb (Mc (K:=K) rfl)) B.len (TN (Nd K (WG 0)) WK)) (Mi _))))) (Jg (JB (RG Mt u.m rfl (TN (Nd K (WG 0)) (TN (Nd K (WG 0)) (TN (Nd K (WG 0)) (WW (hs:=TF) (J0 (Jz Nw) (Nd K (WG 0)) (WG 1)) (De (Cw (CA (AK (K:=K) rfl)) (Nd K (WG 0)) (RO (WG 1)) (RO (WG 2))) (WR 3 (TN (Nd K (WG 0)) WK))))))))))),?_⟩;walk_at"rd";refine⟨_,PP LP a,_,rfl,?_⟩;cases e:d.mo
  .simp only[Bool.false_eq_true,if_false];refine⟨_,B6 LP a,_,rfl,_,.inl (WJ.of a.bd),?_⟩;refine⟨_,LX LP a,_,O2 LP a,_,P3 LP a,_,FC LP a,_,rfl,_,B6 LP a,_,rfl,_,WJ.of a.bd,fun l G z s i=>?_⟩;rw[Kr d.ns (XJ h1) h2]at i;refine⟨_,BZ LP (a.mono s),d.part lo hi,l,?_,PD.part_ok a.ok h1 h2 r hh,i,fun j o G' n c s' g=>q j o G' (s.free n) (s.free c) (s.trans s') g⟩;simp only[PD.part,e,Bool.false_or,Y1]
   congr 6
   simp
  .simp only[if_true];refine⟨_,LX LP a,_,O2 LP a,_,P3 LP a,_,FC LP a,_,rfl,_,B6 LP a,_,rfl,_,WJ.of a.bd,fun l G z s i=>?_⟩;rw[Kr d.ns (XJ h1) h2]at i;refine⟨_,BZ LP (a.mono s),d.part lo hi,l,?_,PD.part_ok a.ok h1 h2 r hh,i,fun j o G' n c s' g=>q j o G' (s.free n) (s.free c) (s.trans s') g⟩;simp only[PD.part,e,Wl]
def N4(C:WA)(H G:Hp)(ps:List (Addr×Addr))(ds:List PD):Prop:=Paired (fun(q:Addr×Addr) (d:PD)=>Jw C G q.1 q.2 d/\H q.1=none/\H q.2=none) ps ds
inductive CQ(C:WA)(vs:List V)(H:Hp)(Q:VK)(E:XK):Prop|mk (p b:WA) (d:PD) (w:Nat) (_:vs=[.ref p,.int w]) (_:Jw C H p b d) (_:8 <=w) (_:w <=5000) (_:(d.k=true->d.ns.length <=w)) (_:∀l ps G,H l=none->WH H G->G l=some (.lst (ps.map fun q=>V.ref q.1))->N4 C H G ps (J1 w d 0)->Q (.ref l) G)
abbrev Ie:Stmt:=JX 37
theorem EM:JN ["piece","width","length","told","low","high"] ["piece","width"] (WF Ie):=by walk_at"e"
theorem N4.len{C:WA}{H G:Hp}{ps:List (Addr×Addr)}{ds:List PD}(h:N4 C H G ps ds):ps.length=ds.length:=Paired.length h
theorem N4.mono{C:WA}{H G G':Hp}{ps:List (Addr×Addr)}{ds:List PD}(s:WH G G')(h:N4 C H G ps ds):N4 C H G' ps ds:=by
 induction h with
 |nil=>exact .nil
 |cons r _ ih=>exact .cons ⟨r.1.mono s,r.2⟩ ih
theorem N4.snoc{C:WA}{H G:Hp}{ps:List (Addr×Addr)}{ds:List PD}{q b:WA}{d:PD}(h:N4 C H G ps ds)(hq:Jw C G q b d)(h1:H q=none)(h2:H b=none):N4 C H G (ps++[(q,b)]) (ds++[d]):=by
 induction h with
 |nil=>exact .cons ⟨hq,h1,h2⟩ .nil
 |cons r _ ih=>exact .cons r ih
theorem N4.but{C:WA}{H G G':Hp}{l:WA}{ps:List (Addr×Addr)}{ds:List PD}(s:JS l G G')(hl:∀q∈ps,q.1≠l/\q.2≠l)(h:N4 C H G ps ds):N4 C H G' ps ds:=by
 induction h with
 |nil=>exact .nil
 |cons r _ ih=>exact .cons ⟨r.1.but s (hl _ Ym).1 (hl _ Ym).2,r.2⟩ (ih fun q a=>hl q (Yl _ a))
theorem CH(w:Nat)(d:PD)(lo:Nat):(J1 w d lo).length <=d.ns.length - lo+ 1:=by
 fun_induction J1 w d lo with
 |case1 lo h ih=>rw[List.length_cons];unfold Jm at*;omega
 |case2 lo h=>simp
theorem vM{f C:WA}{fd:Wv}(F:JT K "cut_again" "cut_again" Ie f fd)(B:Bt mg)(LP:D6 K C)(N7:JI P w K mg base "is_width" 3 ["value"] [] CZ)(Nj:JI P w K mg base "full_length" 1 ["width"] [] Oq)
  (NM:JI P w K mg base "part_of" 8 ["piece","low","high"] [] (IG C)):WQ P w K mg base Jr 9 f fd ["piece","width"] (CQ C):=by
 refine F.ok EM (fun vs H Q E h=>?_) (fun cdv A outer s H vs Q E hr h=>?_)
 .obtain⟨p,b,d,a,rfl,_⟩:=h;rfl
 .obtain⟨p,b,d,a,rfl,z,w8,w5,hk,q⟩:=h;refine⟨_,(WX (Ny (Tv (TK (Jx N7 hr.m rfl (WR 1 WK)))) DV NB) (WX (Nf 2 EM (N3 (Mb (Mc (K:=K) rfl)) B.len (TN (Nd K (WG 0)) WK))) (WX (Ny (PW.pt (RW (TK (Nd K (WG 0))) (Es (ND (Jz Rs) (WG 2) (WG 1))))) DV NB) (WX (Nf 3 EM (Np WK)) (WX (Nf 4 EM WM) (WX (Lo YZ (ND (Jz Rs) (J0 (Jz Bo) (WG 2) (WG 4)) (WG 1)) (WX (Nf 5 EM (J0 (Jz Nw) (WG 4) (Jx Nj hr.m rfl (WR 1 WK)))) (WX (Mn (Dh (K:=K) rfl YI YQ YR (Gr GB) (WG 3) (Dc (Jx NM hr.m rfl (WR 0 (WR 4 (WR 5 WK)))) WK))) (Jg (Nf 4 EM (WG 5)))))) (WX (Mn (Dh (K:=K) rfl YI YQ YR (Gr GB) (WG 3) (Dc (Jx NM hr.m rfl (WR 0 (WR 4 (WR 2 WK)))) WK))) (Jg (JB (WG 3)))))))))),?_⟩;walk_at"rd";refine⟨_,_,rfl,rfl,?_⟩;have ew:M7 (.int (a:Int)) 8 5000=true:=by simp[M7];omega
  rw[ew];walk_at"rd";refine⟨_,B6 LP z,_,rfl,_,.inl (WJ.of z.bd),_,BZ LP z,_,rfl,?_⟩;rw[Y1];refine Sz (fun h=>?_) ?_
  .have:=hk h;simp;omega
  refine⟨Nm (by simp),fun l G0 hl s0 hG0=>?_⟩;have h2:=z.ok.l2;have h1:=z.ok.l1;obtain⟨Pw,ePw⟩:∃Pw:L2.St->Hp->Prop,Pw=fun σ' G=>∃ (lo:Nat) (v:Option V) (ps:List (Addr×Addr)) (ds:List PD),σ'=[some (.ref p),some (.int a),some (.int d.ns.length),some (.ref l),some (.int lo),v]/\lo < d.ns.length/\lo%8=0/\WH H G/\G l=some (.lst (ps.map fun q=>V.ref q.1))/\(∀q∈ps,q.1≠l/\q.2≠l)/\N4 C H G ps ds/\ds++J1 a d lo=J1 a d 0:=⟨_,rfl⟩
  have lenOf:∀ (ps:List (Addr×Addr)) (ds:List PD) (G:Hp) (lo:Nat),N4 C H G ps ds->ds++J1 a d lo=J1 a d 0->ps.length <=4001:=fun ps ds G lo t e=>by
   have e1:=YB List.length e;rw[List.length_append,<-t.len]at e1;have:=CH a d 0;omega
  have app:∀{ps:List (Addr×Addr)} {ds:List PD} {G G1 G2:Hp} {c i:WA} {d':PD},WH H G->G l=some (.lst (ps.map fun q=>V.ref q.1))->(∀q∈ps,q.1≠l/\q.2≠l)->N4 C H G ps ds->G c=none->G i=none->WH G G1->Jw C G1 c i d'->JS l G1 G2->G2 l=some (.lst (ps.map (fun q=>V.ref q.1)++[.ref c]))->
    WH H G2/\G2 l=some (.lst ((ps++[(c,i)]).map fun q=>V.ref q.1))/\(∀q∈ps++[(c,i)],q.1≠l/\q.2≠l)/\N4 C H G2 (ps++[(c,i)]) (ds++[d']):=by
   intro ps ds G G1 G2 c i d' j g n t hq hb s1 o b2 r;have n1:c≠l:=Ne.symm (J6 g hq);have n2:i≠l:=Ne.symm (J6 g hb);refine⟨(j.trans s1).butNew b2 hl,by rw[r,Yd];rfl,fun q hq'=>?_,?_⟩
   .rcases Yb.mp hq' with h|h
    .exact n q h
    .rw[Y8.mp h];exact⟨n1,n2⟩
   .exact((t.mono s1).but b2 n).snoc (o.but b2 n1 n2) (j.free hq) (j.free hb)
  refine LG Pw (fun σ' _=>xQ d.ns.length σ') (by rw[ePw];exact⟨0,_,[],[],rfl,by omega,rfl,s0,hG0,(fun _ h=>nomatch h),.nil,rfl⟩) ?_;intro σ' G hPw;rw[ePw]at hPw;obtain⟨lo,v,ps,ds,rfl,hlo,lo8,j,g,n,t,hds⟩:=hPw;walk_at"rd";have hlen:=lenOf ps ds G lo t hds;refine DQ (fun hlt=>?_) (fun hlt=>?_)
  .have u:a < d.ns.length - lo:=by
    have:(a:Int) < (d.ns.length:Int) - (lo:Int):=by simpa using hlt
    omega
   have f8:8 <=Jm a/\Jm a <=a/\Jm a%8=0:=by unfold Jm;omega
   refine⟨fun σ2 H2=>Pw σ2 H2/\∃v,σ2=[some (.ref p),some (.int a),some (.int d.ns.length),some (.ref l),some (.int ((lo+ Jm a:Nat):Int)),v],?_,?_⟩
   .intro σ2 H2 Zq;obtain⟨p2,v2,rfl⟩:=Zq;refine⟨_,?_,rfl,p2⟩;show d.ns.length - ((lo+ Jm a:Nat):Int).toNat < d.ns.length - ((lo:Nat):Int).toNat;omega
   .refine⟨a,rfl,?_⟩
    try walk_at"rd"
    refine⟨.inl ⟨rfl,_,WJ.of g⟩,?_⟩;refine⟨p,b,d,lo,lo+ Jm a,rfl,z.mono j,by omega,by omega,lo8,.inr (by omega),fun c i G1 hq hb s1 o=>?_⟩
    try walk_at"rd"
    refine⟨_,s1 l _ g,CN (by rw[Y1];omega),fun G2 b2 r=>?_⟩;obtain⟨a1,a2,a3,a4⟩:=app j g n t hq hb s1 o b2 r;rw[ePw];refine⟨⟨lo+ Jm a,_,_,_,rfl,by omega,by omega,a1,a2,a3,a4,?_⟩,by omega⟩;rw[<-hds,BK u w8];simp
  .have u:¬a < d.ns.length - lo:=by
    have:¬(a:Int) < (d.ns.length:Int) - (lo:Int):=by simpa using hlt
    omega
   refine⟨.inl ⟨rfl,_,WJ.of g⟩,?_⟩;refine⟨p,b,d,lo,d.ns.length,rfl,z.mono j,hlo,Y6 _,lo8,.inl rfl,fun c i G1 hq hb s1 o=>?_⟩
   try walk_at"rd"
   refine⟨_,s1 l _ g,CN (by rw[Y1];omega),fun G2 b2 r=>?_⟩;obtain⟨a1,a2,a3,a4⟩:=app j g n t hq hb s1 o b2 r;rw[<-B9 u,hds]at a4;exact q l _ G2 hl a1 a2 a4
inductive Hf(CL CP:WA)(vs:List V)(H:Hp)(Q:VK)(E:XK):Prop|mk (p b:WA) (d:LD) (w:Nat) (_:vs=[.ref p,.int w]) (_:Tj CL H p b d) (_:8 <=w) (_:w <=5000) (_:(d.k=true->d.ns.length <=w)) (_:∀l ps G,H l=none->WH H G->G l=some (.lst (ps.map fun q=>V.ref q.1))->N4 CP H G ps (J1 w d.whole 0)->Q (.ref l) G)
abbrev FI:Stmt:=JX 38
theorem Oo:JN ["letter","width","whole"] ["letter","width"] (WF FI):=by walk_at"e"
theorem N4.old{C:WA}{H0 H G:Hp}{ps:List (Addr×Addr)}{ds:List PD}(s:WH H0 H)(h:N4 C H G ps ds):N4 C H0 G ps ds:=by
 induction h with
 |nil=>exact .nil
 |cons r _ ih=>exact .cons ⟨r.1,s.free r.2.1,s.free r.2.2⟩ ih
theorem QZ{f CL CP:WA}{fd:Wv}(F:JT K "cut" "cut" FI f fd)(LL:Ri K CL)(Mt:MR P w K mg base "Piece" 6 (HW CP))(JV:JI P w K mg base "cut_again" 9 ["piece","width"] [] (CQ CP)):WQ P w K mg base Jr 10 f fd ["letter","width"] (Hf CL CP):=by
 refine F.ok Oo (fun vs H Q E h=>?_) (fun cdv A g s H vs Q E e h=>?_)
 .obtain⟨p,b,d,c,rfl,_⟩:=h;rfl
 .obtain⟨p,b,d,c,rfl,a,i,j,t,q⟩:=h;refine⟨_,(WX (Nf 2 Oo (RG Mt e.m rfl (TN (Nd K (WG 0)) (TN (Nd K (WG 0)) (TN (Nd K (WG 0)) (Nb WM (TN (Nd K (WG 0)) (Nb Mm (TN (Nd K (WG 0)) WK))))))))) (Jg (JB (Jx JV e.m rfl (WR 2 (WR 1 WK)))))),?_⟩;walk_at"rd";refine⟨_,uJ LL a,_,nR LL a,_,ZZ LL a,_,Zx LL a,_,SG LL a,?_⟩;refine⟨d.whole,b,rfl,LD.whole_ok a.ok,a.bd,fun n b1 G1 h1 h2 s1 u=>?_⟩
  try walk_at"rd"
  refine⟨n,b1,d.whole,c,rfl,u,i,j,t,fun l ps G r s2 z o=>?_⟩;exact q l ps G (s1.free r) (s1.trans s2) z (o.old s1)
end
theorem PD.part_part{d:PD}{lo hi a b:Nat}(h1:lo <=hi)(h2:hi <=d.ns.length)(hab:a <=b)(hb:b <=hi - lo):(d.part lo hi).part a b=d.part (lo+ a) (lo+ b):=by
 have c:=PD.part_len (d:=d) h1 h2;unfold PD.part at c ⊢;dsimp only at c ⊢;rw[c];have g:d.at'+ (lo:Int)+ (a:Int)=d.at'+ ((lo+ a:Nat):Int):=by omega
 have f:List.take (b - a) (List.drop a (List.take (hi - lo) (List.drop lo d.ns)))=List.take (lo+ b - (lo+ a)) (List.drop (lo+ a) d.ns):=by
  rw[List.drop_take,List.drop_drop,List.take_take]
  congr 1
  omega
 have e:((d.mo||decide (hi < d.ns.length))||decide (b < hi - lo))=(d.mo||decide (lo+ b < d.ns.length)):=by
  by_cases h3:b < hi - lo
  .rw[Yq h3,Yq (show lo+ b < d.ns.length by omega)];simp
  .have:lo+ b=hi:=by omega
   rw[Ys h3,this];simp
 rw[g,f,e]
theorem PD.part_all(d:PD):d.part 0 d.ns.length=d:=by
 unfold PD.part;cases d;simp
def NC(d:PD):Nat->Nat->List PD->Prop
 |lo,hi,[]=>lo=hi
 |lo,hi,e::r=>∃m,lo < m/\m <=hi/\e=d.part lo m/\(m=hi\/m%8=0)/\NC d m hi r
theorem NC.le{d:PD}:∀{es:List PD} {lo hi:Nat},NC d lo hi es->lo <=hi
 |[],_,_,h=>VJ h
 |_::_,_,_,⟨_,h1,_,_,_,h⟩=>YW (XJ h1) (NC.le h)
theorem NC.app{d:PD}:∀{es fs:List PD} {lo m hi:Nat},NC d lo m es->NC d m hi fs->(m=hi\/m%8=0)->NC d lo hi (es++fs)
 |[],_,_,_,_,h,g,_=>by cases h;exact g
 |e::es,fs,lo,m,hi,⟨k,h1,h2,h3,h4,h⟩,g,h8=>⟨k,h1,YW h2 g.le,h3,by rcases h4 with rfl|h4;exact h8;exact .inr h4,NC.app h g h8⟩
theorem BV{w:Nat}{d:PD}(h8:8 <=w):∀ (n lo:Nat),d.ns.length - lo <=n->lo < d.ns.length->lo%8=0->NC d lo d.ns.length (J1 w d lo)
 |0,lo,h,hl,_=>by omega
 |n+ 1,lo,h,hl,hm=>by
  by_cases hc:w < d.ns.length - lo
  .rw[BK hc h8];have f8:8 <=Jm w/\Jm w <=w/\Jm w%8=0:=by unfold Jm;omega
   exact⟨lo+ Jm w,by omega,by omega,rfl,.inr (by omega),BV h8 n _ (by omega) (by omega) (by omega)⟩
  .rw[B9 hc];exact⟨_,hl,Y6 _,rfl,.inl rfl,rfl⟩
theorem NC.part{d:PD}{lo hi:Nat}(h1:lo <=hi)(h2:hi <=d.ns.length)(h8:lo%8=0):∀{es:List PD} {a b:Nat},a <=b->b <=hi - lo->NC (d.part lo hi) a b es->NC d (lo+ a) (lo+ b) es
 |[],a,b,_,_,h=>by have h:a=b:=h;subst h;rfl
 |e::es,a,b,hab,hb,⟨m,k1,k2,k3,k4,h⟩=>by
  refine⟨lo+ m,by omega,by omega,?_,by rcases k4 with k4|k4 <;> omega,NC.part h1 h2 h8 k2 hb h⟩;rw[k3,PD.part_part h1 h2 (by omega) (by omega)]
def Me(w:Nat)(ds:List PD):List PD:=ds.flatMap fun d=>J1 w d 0
def Ju(ws:List Nat)(ds:List PD):List PD:=ws.foldl (fun ds w=>Me w ds) ds
theorem j6(w:Nat)(ws:List Nat)(ds:List PD):Ju (w::ws) ds=Ju ws (Me w ds):=rfl
theorem F0{w:Nat}{d:PD}(h8:8 <=w):∀{es:List PD} {lo hi:Nat},hi <=d.ns.length->lo%8=0->NC d lo hi es->NC d lo hi (Me w es)
 |[],_,_,_,_,h=>h
 |e::es,lo,hi,hh,hl,⟨m,k1,k2,k3,k4,h⟩=>by
  show NC d lo hi (J1 w e 0++Me w es);have hlen:e.ns.length=m - lo:=by rw[k3];exact PD.part_len (by omega) (by omega)
  have c:=BV (d:=e) h8 _ 0 (Y6 _) (by omega) rfl;rw[hlen,k3]at c;have c':=NC.part (by omega) (by omega) hl (Yj _) (Y6 _) c;rw[Uh,show lo+ (m - lo)=m by omega,<-k3]at c';rcases k4 with rfl|k4
  .cases es with
   |nil=>exact NC.app c' rfl (.inl rfl)
   |cons e' r=>obtain⟨f,b,a,_⟩:=h;omega
  .exact NC.app c' (F0 h8 hh k4 h) (.inr k4)
theorem FK{d:PD}:∀{ws:List Nat} {es:List PD},(∀w∈ws,8 <=w)->NC d 0 d.ns.length es->NC d 0 d.ns.length (Ju ws es)
 |[],_,_,h=>h
 |w::ws,es,hw,h=>FK (ws:=ws) (fun x hx=>hw x (Yl _ hx)) (F0 (hw w Ym) (Y6 _) rfl h)
theorem PQ{w:Nat}{d:PD}(h8:8 <=w):∀ (n lo:Nat),d.ns.length - lo <=n->lo <=d.ns.length->∀e∈J1 w d lo,e.ns.length <=w/\e.ns.length <=d.ns.length/\e.k=d.k
 |0,lo,h,hl,e,he=>by
  rw[B9 (by omega)]at he;rw[Y8.mp he,PD.part_len (by omega) (Y6 _)];exact⟨by omega,by omega,rfl⟩
 |n+ 1,lo,h,hl,e,he=>by
  by_cases hc:w < d.ns.length - lo
  .rw[BK hc h8]at he;have f8:8 <=Jm w/\Jm w <=w/\Jm w%8=0:=by unfold Jm;omega
   rcases Yu.mp he with rfl|he
   .rw[PD.part_len (by omega) (by omega)];exact⟨by omega,by omega,rfl⟩
   .exact PQ h8 n _ (by omega) (by omega) e he
  .rw[B9 hc]at he;rw[Y8.mp he,PD.part_len hl (Y6 _)];exact⟨by omega,by omega,rfl⟩
theorem ZR{w:Nat}(h8:8 <=w){ds:List PD}{e:PD}(he:e∈Me w ds):∃d∈ds,e.ns.length <=w/\e.ns.length <=d.ns.length/\e.k=d.k:=by
 obtain⟨d,hd,he⟩:=VR.mp he;exact⟨d,hd,PQ h8 _ 0 (Y6 _) (Yj _) e he⟩
theorem Qi(a b:List Nat)(ds:List PD):Ju (a++b) ds=Ju b (Ju a ds):=by unfold Ju;rw[List.foldl_append]
def tot(ds:List PD):Nat:=(ds.map fun d=>d.ns.length).sum
theorem NC.tot{d:PD}:∀{es:List PD} {lo hi:Nat},hi <=d.ns.length->NC d lo hi es->Mine.tot es=hi - lo/\es.length <=hi - lo
 |[],lo,hi,_,h=>by have h:lo=hi:=h;subst h;exact⟨by simp[Mine.tot],by simp⟩
 |e::es,lo,hi,hh,⟨m,k1,k2,k3,_,h⟩=>by
  obtain⟨a,b⟩:=NC.tot hh h;have c:e.ns.length=m - lo:=by rw[k3];exact PD.part_len (by omega) (by omega)
  have:=h.le;refine⟨?_,?_⟩
  .show e.ns.length+ Mine.tot es=_;omega
  .rw[List.length_cons];omega
section
variable{P:Wt}{w:Wx}{K:Wy}{mg:Wp}{base:WD}
def TC(ws:List Nat):List V:=ws.map fun w=>V.int (w:Nat)
theorem GW(ws:List Nat):(TC ws).length=ws.length:=Y1 ..
theorem Ii(ws:List Nat):TC ws=(ws.map fun w=>((w:Nat):Int)).map V.int:=by unfold TC;rw[Yp];rfl
theorem Iq{ws:List Nat}{i:Nat}{x:V}(h:(TC ws)[i]?=some x):∃w,ws[i]?=some w/\x= .int (w:Nat):=by
 unfold TC at h;rw[Yf]at h;cases e:ws[i]? with
 |none=>rw[e]at h;cases h
 |some w=>rw[e]at h;exact⟨w,rfl,(Yn h).symm⟩
def GV(ws:List Nat):Prop:=∀w∈ws,8 <=w/\w <=5000
inductive II(K:Wy)(vs:List V)(H:Hp)(Q:VK)(E:XK):Prop|mk (l:WA) (ws:List Nat) (_:vs=[.ref l]) (_:H l=some (.lst (TC ws))) (_:1 <=ws.length) (_:ws.length <=20) (_:GV ws) (_:∀G,WH H G->Q (.bl true) G)
abbrev CT:Stmt:=JX 18
theorem tQ:JN ["value"] ["value"] (WF CT):=by walk_at"e"
theorem tJ{f:WA}{fd:Wv}(F:JT K "are_widths" "are_widths" CT f fd)(T:Cn mg)(B:Bt mg)(N7:JI P w K mg base "is_width" 3 ["value"] [] CZ):WQ P w K mg base Jr 4 f fd ["value"] (II K):=by
 refine F.ok tQ (fun vs H Q E h=>?_) (fun cdv A t s H vs Q E hr h=>?_)
 .obtain⟨l,c,rfl,_⟩:=h;rfl
 .obtain⟨l,c,rfl,g,h1,h20,hw,q⟩:=h;refine⟨_,(WX (Ny (PW.pt (DG (Tv (TK (N3 (Rn "list") B.isinstance (WR 0 (WW (hs:=Ni) (Ra (v:=.ty "list") rfl B.blist (by rfl) rfl) WK))))) (Gh (Tv (F9 (Jz Gz) (Jz Gz) WM (N3 (Mb (Mc (K:=K) rfl)) B.len (WR 0 WK)) (DW rfl T.c_MOST_WIDTHS)))))) (Jg (JB Mm)) NB) (Jg (JB (N3 (ER (K:=K) rfl rfl) B.all (WW (hs:=Rx) (TU (N':=["part"]) (caps:=[none]) (Tf (sc:=WF CT) (N:=["value"]) rfl rfl (by decide +kernel)) rfl (Tw (K:=K) rfl (WG 0)) (fun _ _ _ _ _=>(T3 (i:=0) (T9 (N:=["part"]) rfl (by decide +kernel)) rfl (Or.inl rfl))) (fun _ _ _ _ _=>Mx) (fun _ _ _ _ _=>(Jx N7 hr.m rfl (WR 0 WK)))) WK))))),?_⟩;walk_at"rd";refine⟨_,Af g,?_⟩;have e1:E1 "list" "list"=true:=by decide
  rw[e1];simp only[Bool.not_true,Bool.false_eq_true,if_false];refine⟨_,.inl (WJ.of g),?_⟩;rw[GW,Yq (show(1:Int) <=(c.length:Int) by omega)];simp only[if_true];rw[Yq (show(c.length:Int) <=20 by omega)];simp only[Bool.not_true,Bool.false_eq_true,if_false];refine⟨⟨_,WJ.of g⟩,?_⟩;obtain⟨n,d⟩:∃n:Nat->List V->L2.St->Hp->Prop,n=fun i ys σ' H1=>H1=H/\i <=c.length/\ys=(List.replicate i true).map V.bl/\∃v,σ'=[v]:=⟨_,rfl⟩
  refine MY (xs:=TC c) n (by rw[d];exact⟨rfl,Yj _,by simp,none,rfl⟩) ?_ (Nm (by rw[GW];omega)) ?_ ?_ <;> rw[d]
  .rintro i ys σ' H1 ⟨rfl,hi,rfl,_⟩ _;refine⟨WJ.of g,?_⟩;simp
  .intro i y ys σ' H1 z Zq;obtain⟨rfl,hi,rfl,v,rfl⟩:=Zq;rw[<-d];obtain⟨o,j,rfl⟩:=Iq z;have r:i < c.length:=(Y4.mp j).1;obtain⟨a,b⟩:=hw o (Ya j);walk_at"rd";refine⟨_,_,rfl,rfl,?_⟩;have ew:M7 (.int (o:Int)) 8 5000=true:=by simp[M7];omega
   rw[ew,d];refine⟨rfl,r,?_,_,rfl⟩;rw[Vg,Yd];rfl
  .rintro ys σ' H1 ⟨rfl,_,rfl,_⟩ p G hp u hG;walk_at"rd";refine⟨List.replicate c.length true,WJ.of (by rw[hG,GW]),?_⟩;have e:(List.replicate c.length true).all id=true:=by simp
   rw[e];exact q _ u
theorem N4.pieL{C:WA}{H G:Hp}{ps:List (Addr×Addr)}{ds:List PD}(h:N4 C H G ps ds):JL C G ps ds:=by
 induction h with
 |nil=>exact .nil
 |cons r _ ih=>exact .cons r.1 ih
theorem N4.mem{C:WA}{H G:Hp}{ps:List (Addr×Addr)}{ds:List PD}(h:N4 C H G ps ds):∀q∈ps,H q.1=none/\H q.2=none:=by
 induction h with
 |nil=>exact fun _ h=>nomatch h
 |cons r _ ih=>
  intro q a;rcases Yu.mp a with rfl|a
  .exact r.2
  .exact ih q a
structure OZ(ds:List PD)(w:Nat):Prop where
 w8:8 <=w
 w5:w <=5000
 kp:∀d∈ds,d.k=true->d.ns.length <=w
 few:(Me w ds).length <=4000
inductive Ib(C:WA)(vs:List V)(H:Hp)(Q:VK)(E:XK):Prop|mk (l:WA) (ps:List (Addr×Addr)) (ds:List PD) (w:Nat) (_:vs=[.ref l,.int w]) (_:H l=some (.lst (MD ps))) (_:JL C H ps ds) (_:OZ ds w) (_:∀l' ps' G,H l'=none->WH H G->G l'=some (.lst (MD ps'))->JL C G ps' (Me w ds)->(∀q∈ps',H q.2=none)->Q (.ref l') G)
theorem LJ{w:Nat}{ds:List PD}(i:Nat):(Me w (ds.take i)).length <=(Me w ds).length:=by
 have e:Me w ds=Me w (ds.take i)++Me w (ds.drop i):=by
  unfold Me;rw[<-List.flatMap_append,YG]
 rw[e,List.length_append];omega
theorem Ix{w:Nat}{ds:List PD}{i:Nat}{d:PD}(h:ds[i]?=some d):Me w (ds.take (i+ 1))=Me w (ds.take i)++J1 w d 0:=by
 rw[YD,h,YH];unfold Me;rw[List.flatMap_append];simp
abbrev H9:Stmt:=JX 39
theorem HY:JN ["pieces","width","told","piece"] ["pieces","width"] (WF H9):=by walk_at"e"
theorem jK{f C:WA}{fd:Wv}(F:JT K "all_cut_again" "all_cut_again" H9 f fd)(JV:JI P w K mg base "cut_again" 9 ["piece","width"] [] (CQ C)):WQ P w K mg base Jr 10 f fd ["pieces","width"] (Ib C):=by
 refine F.ok HY (fun vs H Q E h=>?_) (fun cdv A outer s H vs Q E hr h=>?_)
 .obtain⟨l,ps,ds,u,rfl,_⟩:=h;rfl
 .obtain⟨l,ps,ds,u,rfl,hl,hp,hf,q⟩:=h;refine⟨_,(WX (Nf 2 HY (Np WK)) (WX (Dz YZ rfl (Tw (K:=K) rfl (WG 0)) (Md 3 HY) (Jg (Mn (Dh (K:=K) rfl YI UM UN (FX Fg) (WG 2) (Dc (Jx JV hr.m rfl (WR 3 (WR 1 WK))) WK))))) (Jg (JB (WG 2))))),?_⟩;walk_at"rd";refine⟨Nm (by simp),fun lt G0 ae s0 hG0=>⟨⟨_,WJ.of (s0 l _ hl)⟩,?_⟩⟩;obtain⟨Pv,t⟩:∃Pv:Nat->L2.St->Hp->Prop,Pv=fun i σ' G=>∃ (c:List (Addr×Addr)) (v:Option V),σ'=[some (.ref l),some (.int u),some (.ref lt),v]/\WH H G/\G lt=some (.lst (MD c))/\JL C G c (Me u (ds.take i))/\(∀q∈c,q.1≠lt/\q.2≠lt)/\(∀q∈c,H q.2=none):=⟨_,rfl⟩
  refine Rg (xs:=MD ps) Pv (by rw[t];exact⟨[],none,rfl,s0,hG0,.nil,(fun _ h=>nomatch h),(fun _ h=>nomatch h)⟩) ?_ ?_ ?_ <;> rw[t]
  .intro i σ' G _ Zq;obtain⟨c,v,rfl,n,_⟩:=Zq;exact WJ.of (n l _ hl)
  .intro i x σ' G hx Zq;obtain⟨c,v,rfl,n,j,e,ab,ac⟩:=Zq;rw[<-t];obtain⟨qq,hqq,rfl⟩:=Hu hx;obtain⟨d,hd,hO⟩:=hp.get hqq;walk_at"rd";refine⟨.inl ⟨rfl,_,WJ.of j⟩,?_⟩;refine⟨qq.1,qq.2,d,u,rfl,hO.mono n,hf.w8,hf.w5,hf.kp d (Ya hd),fun l1 ad G1 hl1 s1 hG1 p=>?_⟩
   try walk_at"rd"
   have hlen:=e.len;have hb:=LJ (w:=u) (ds:=ds) (i+ 1);rw[Ix hd,List.length_append]at hb;have:=hf.few;have hl2:=p.len;refine⟨_,s1 lt _ j,_,hG1,Nm (by rw[Ea,Y1];omega),fun G2 b2 hG2=>?_⟩;rw[t];have aa:∀q∈ad,q.1≠lt/\q.2≠lt:=fun q g=>by
    obtain⟨a,b⟩:=p.mem q g;exact⟨fun z=>(by rw[z,j]at a;cases a),fun z=>(by rw[z,j]at b;cases b)⟩
   have o:∀{c:List (Addr×Addr)} {es:List PD},(∀q∈c,q.1≠lt/\q.2≠lt)->JL C G1 c es->JL C G2 c es:=by
    intro c es hn h
    induction h with
    |nil=>exact .nil
    |cons r _ ih=>exact .cons (r.but b2 (hn _ Ym).1 (hn _ Ym).2) (ih fun q j=>hn q (Yl _ j))
   refine⟨c++ad,_,rfl,(n.trans s1).butNew b2 ae,by rw[hG2,ZJ];rfl,?_,fun q g=>?_,fun q g=>?_⟩
   .rw[Ix hd];exact(o ab (e.mono s1)).app (o aa p.pieL)
   .rcases Yb.mp g with h|h
    .exact ab q h
    .exact aa q h
   .rcases Yb.mp g with h|h
    .exact ac q h
    .exact n.free (p.mem q h).2
  .intro σ' G Zq;obtain⟨c,v,rfl,n,j,e,ab,ac⟩:=Zq;walk_at"rd";rw[Ea,hp.len,YE]at e;exact q lt c G ae n j e ac
def JC:List Nat->List PD->Prop
 |[],_=>True
 |w::ws,ds=>OZ ds w/\JC ws (Me w ds)
inductive Kn(C:WA)(vs:List V)(H:Hp)(Q:VK)(E:XK):Prop|mk (l lw:WA) (ps:List (Addr×Addr)) (ds:List PD) (ws:List Nat) (_:vs=[.ref l,.ref lw]) (_:H l=some (.lst (MD ps))) (_:JL C H ps ds) (_:H lw=some (.lst (TC ws))) (_:JC ws ds) (_:∀l' ps' G,WH H G->G l'=some (.lst (MD ps'))->JL C G ps' (Ju ws ds)->(ws≠[]->H l'=none/\∀q∈ps',H q.2=none)->Q (.ref l') G)
theorem JC.drop:∀{ws:List Nat} {ds:List PD} (i:Nat),JC ws ds->JC (ws.drop i) (Ju (ws.take i) ds)
 |ws,ds,0,h=>by simpa[Ju] using h
 |[],ds,i+ 1,h=>trivial
 |w::ws,ds,i+ 1,h=>JC.drop i h.2
abbrev HK:Stmt:=JX 40
theorem IC:JN ["pieces","widths","width"] ["pieces","widths"] (WF HK):=by walk_at"e"
theorem vE{f C:WA}{fd:Wv}(F:JT K "cut_over" "cut_over" HK f fd)(JZ:JI P w K mg base "all_cut_again" 10 ["pieces","width"] [] (Ib C)):WQ P w K mg base Jr 11 f fd ["pieces","widths"] (Kn C):=by
 refine F.ok IC (fun vs H Q E h=>?_) (fun cdv A ad s H vs Q E hr h=>?_)
 .obtain⟨l,lw,ps,ds,d,rfl,_⟩:=h;rfl
 .obtain⟨l,lw,ps,ds,d,rfl,hl,hp,p,hf,q⟩:=h;refine⟨_,(WX (Dz YZ rfl (Tw (K:=K) rfl (WG 1)) (Md 2 IC) (Jg (Nf 0 IC (Jx JZ hr.m rfl (WR 0 (WR 2 WK)))))) (Jg (JB (WG 0)))),?_⟩;walk_at"rd";refine⟨⟨_,WJ.of p⟩,?_⟩;obtain⟨t,j⟩:∃t:Nat->L2.St->Hp->Prop,t=fun i σ' G=>∃ (b:WA) (a:List (Addr×Addr)) (v:Option V),σ'=[some (.ref b),some (.ref lw),v]/\WH H G/\G b=some (.lst (MD a))/\JL C G a (Ju (d.take i) ds)/\(i≠0->H b=none/\∀q∈a,H q.2=none):=⟨_,rfl⟩
  refine Rg (xs:=TC d) t (by rw[j];exact⟨l,ps,none,rfl,WH.refl _,hl,hp,fun h=>absurd rfl h⟩) ?_ ?_ ?_ <;> rw[j]
  .intro i σ' G _ Zq;obtain⟨b,a,v,rfl,e,_⟩:=Zq;exact WJ.of (e lw _ p)
  .intro i x σ' G hx Zq;obtain⟨b,a,v,rfl,e,n,c,o⟩:=Zq;rw[<-j];obtain⟨r,g,rfl⟩:=Iq hx;have hi:i < d.length:=(Y4.mp g).1;have hd:=hf.drop i;have ed:d.drop i=r::d.drop (i+ 1):=by
    rw[X8 hi];have:d[i]=r:=by rw[Y5 hi]at g;exact Yn g
    rw[this]
   rw[ed]at hd;walk_at"rd";refine⟨b,a,_,r,rfl,n,c,hd.1,fun l2 u G2 aa s2 ac z ab=>?_⟩;rw[j];refine⟨l2,u,_,rfl,e.trans s2,ac,?_,fun _=>⟨e.free aa,fun q n=>e.free (ab q n)⟩⟩;rw[YD,g,YH,Qi];exact z
  .intro σ' G Zq;obtain⟨b,a,v,rfl,e,n,c,o⟩:=Zq;walk_at"rd";rw[GW]at c o;rw[YE]at c;exact q b a G e n c fun hz=>o fun h=>hz (List.length_eq_zero_iff.mp h)
structure Road(d:LD)(ws:List Nat):Prop where
 l1:1 <=ws.length
 l2:ws.length <=20
 ok:GV ws
 kp:d.k=true->∀w∈ws,d.ns.length <=w
inductive Ap(vs:List V)(H:Hp)(Q:VK)(E:XK):Prop|mk (n lo:Int) (_:vs=[.int n,.int lo]) (_:Q (.bl (decide (lo <=n))) H)
abbrev FV:Stmt:=JX 11
theorem jZ:JN ["value","low"] ["value","low"] (WF FV):=by walk_at"e"
theorem Sx{f:WA}{fd:Wv}(F:JT K "is_whole_from" "is_whole_from" FV f fd)(JE:JI P w K mg base "is_whole" 1 ["value"] [] C2):WQ P w K mg base Jr 2 f fd ["value","low"] Ap:=by
 refine F.ok jZ (fun vs H Q E h=>?_) (fun c A a s H vs Q E b h=>?_)
 .obtain⟨n,lo,rfl,_⟩:=h;rfl
 .obtain⟨n,lo,rfl,q⟩:=h;refine⟨_,(Jg (JB (MN (Jx JE b.m rfl (WR 0 WK)) (Gn (M8 (Jz O4) (WG 0) (WG 1) (Mi _)))))),?_⟩;walk_at"rd";exact⟨_,_,rfl,rfl,_,rfl,q⟩
def A8(xs:WB):Prop:=xs.length <=100/\∀n∈xs,0 <=n
def TX(H:Hp)(x:V)(xs:WB):Prop:=A8 xs/\((x= .non/\xs=[])\/∃l,x= .ref l/\H l=some (.lst (xs.map V.int)))
theorem TX.mono{H G:Hp}{x:V}{xs:WB}(s:WH H G)(h:TX H x xs):TX G x xs:=⟨h.1,h.2.imp id fun⟨l,a,b⟩=>⟨l,a,s _ _ b⟩⟩
inductive IA(K:Wy)(vs:List V)(H:Hp)(Q:VK)(E:XK):Prop|mk (x:V) (xs:WB) (_:vs=[x]) (_:TX H x xs) (_:∀G,WH H G->Q (.bl true) G)
abbrev Ao:Stmt:=JX 42
theorem jO:JN ["value"] ["value"] (WF Ao):=by walk_at"e"
theorem mK{f:WA}{fd:Wv}(F:JT K "are_lost" "are_lost" Ao f fd)(B:Bt mg)(J7:JI P w K mg base "is_whole_from" 2 ["value","low"] [] Ap):WQ P w K mg base Jr 3 f fd ["value"] (IA K):=by
 refine F.ok jO (fun vs H Q E h=>?_) (fun z A j s H vs Q E r h=>?_)
 .obtain⟨x,xs,rfl,_⟩:=h;rfl
 .obtain⟨x,xs,rfl,⟨⟨h1,u⟩,h⟩,q⟩:=h;refine⟨_,(WX (Ny (ND CV (WG 0) RB) (Jg (JB Mm)) NB) (Jg (JB (MN (N3 (Rn "list") B.isinstance (WR 0 (WW (hs:=Ni) (Ra (v:=.ty "list") rfl B.blist (by rfl) rfl) WK))) (Gn (N3 (ER (K:=K) rfl rfl) B.all (WW (hs:=Rx) (TU (N':=["part"]) (caps:=[none]) (Tf (sc:=WF Ao) (N:=["value"]) rfl rfl (by decide +kernel)) rfl (Tw (K:=K) rfl (WG 0)) (fun _ _ _ _ _=>(T3 (i:=0) (T9 (N:=["part"]) rfl (by decide +kernel)) rfl (Or.inl rfl))) (fun _ _ _ _ _=>Mx) (fun _ _ _ _ _=>(Jx J7 r.m rfl (WR 0 (Nb WM WK))))) WK))))))),?_⟩;walk_at"rd";rcases h with⟨rfl,rfl⟩|⟨l,rfl,hl⟩
  .rw[Y9 (by simp)];exact q _ (WH.refl _)
  .rw[Y3 (by simp)];refine⟨_,Af hl,?_⟩;rw[Y9 (by decide)];refine⟨l,rfl,⟨_,WJ.of hl⟩,?_⟩;obtain⟨b,a⟩:∃b:Nat->List V->L2.St->Hp->Prop,b=fun i ys σ' H1=>H1=H/\i <=xs.length/\ys=(List.replicate i true).map V.bl/\∃v,σ'=[v]:=⟨_,rfl⟩
   refine MY (xs:=xs.map V.int) b (by rw[a];exact⟨rfl,Yj _,by simp,none,rfl⟩) ?_ (Nm (by rw[Y1];omega)) ?_ ?_ <;> rw[a]
   .rintro i ys σ' H1 ⟨rfl,hi,rfl,_⟩ _;refine⟨WJ.of hl,?_⟩;simp
   .intro i y ys σ' H1 c Zq;obtain⟨rfl,hi,rfl,v,rfl⟩:=Zq;rw[<-a];rw[Yf]at c;obtain⟨n,d,rfl⟩:=Yy.mp c;have g:i < xs.length:=(Y4.mp d).1;walk_at"rd";refine⟨_,_,rfl,?_⟩;rw[Yq (u n (Ya d)),a];refine⟨rfl,g,?_,_,rfl⟩;rw[Vg,Yd];rfl
   .rintro ys σ' H1 ⟨rfl,_,rfl,_⟩ p G hp o t;refine⟨p,rfl,List.replicate xs.length true,WJ.of (by rw[t,Y1]),?_⟩;have e:(List.replicate xs.length true).all id=true:=by simp
    rw[e];exact q _ o
abbrev LB(K:Wy)(f:WA)(fd:Wv)(q:Str)(st:Stmt):Prop:=∃ (oc:Wz) (od:Option Addr) (dV kV doc pm:Wz) (an:Option Addr) (cdv ct:Wz) (osl:Array (Option Value)),
  fd=W.fnOf "__init__" q (TB st) (WP st) (WF st) dV kV doc pm an cdv ct/\K.lookup f=some ⟨oc,od,.func fd,osl⟩/\W.codeIn K cdv q=true
structure Dj where
 ws:List Nat
 dl:Int
 lo:List Int
structure Rh(K:Wy)(C:WA):Prop where
 cl:Mj K C
 widths:J2 K C "widths"
 delay:J2 K C "delay"
 lost:J2 K C "lost"
structure Ro(r:Dj):Prop where
 l1:1 <=r.ws.length
 l2:r.ws.length <=20
 ok:GV r.ws
 d0:0 <=r.dl
 fw:A8 r.lo
structure JK(C:WA)(H:Hp)(p lw ll:WA)(r:Dj):Prop where
 ex:∃dx fs,H p=some (.ins C dx fs)/\fs.lookup ("widths":Str)=some (.ref lw)/\fs.lookup ("delay":Str)=some (.int r.dl)/\fs.lookup ("lost":Str)=some (.ref ll)
 hw:H lw=some (.lst (TC r.ws))
 hl:H ll=some (.lst (r.lo.map V.int))
 ok:Ro r
theorem JK.mono{C p lw ll:WA}{H G:Hp}{r:Dj}(s:WH H G)(h:JK C H p lw ll r):JK C G p lw ll r:=by
 obtain⟨dx,fs,e,a⟩:=h.ex;exact⟨⟨dx,fs,s _ _ e,a⟩,s _ _ h.hw,s _ _ h.hl,h.ok⟩
section
variable{C p lw ll:WA}{H:Hp}{r:Dj}
theorem Hq(L:Rh K C)(h:JK C H p lw ll r):N5 K H (.ref p) "widths" (.ref lw):=by
 obtain⟨dx,fs,e,a,_,_⟩:=h.ex;exact⟨p,C,dx,fs,rfl,e,L.cl,L.widths,a⟩
theorem Ov(L:Rh K C)(h:JK C H p lw ll r):N5 K H (.ref p) "delay" (.int r.dl):=by
 obtain⟨dx,fs,e,_,a,_⟩:=h.ex;exact⟨p,C,dx,fs,rfl,e,L.cl,L.delay,a⟩
theorem Ax(L:Rh K C)(h:JK C H p lw ll r):N5 K H (.ref p) "lost" (.ref ll):=by
 obtain⟨dx,fs,e,_,_,a⟩:=h.ex;exact⟨p,C,dx,fs,rfl,e,L.cl,L.lost,a⟩
end
inductive RF(C:WA)(vs:List V)(H:Hp)(Q:VK)(E:XK):Prop|mk (p dx hw:WA) (x:V) (r:Dj) (_:vs=[.ref p,.ref hw,.int r.dl,x]) (_:H p=some (.ins C dx [])) (_:H hw=some (.lst (TC r.ws))) (_:TX H x r.lo) (_:Ro r) (_:∀lw ll G,H lw=none->H ll=none->lw≠ll->JS p H G->JK C G p lw ll r->Q .non G)
abbrev WZ:Stmt:=MW (JX 43) 0
theorem yQ:JN ["self","widths","delay","lost"] ["self","widths","delay","lost"] (WF WZ):=by walk_at"e"
theorem SC{f C:WA}{fd:Wv}(F:LB K f fd "Road.__init__" WZ)(L:Rh K C)(B:Bt mg)(Nt:JI P w K mg base "are_widths" 4 ["value"] [] (II K))(J7:JI P w K mg base "is_whole_from" 2 ["value","low"] [] Ap)(NX:JI P w K mg base "are_lost" 3 ["value"] [] (IA K)):WQ P w K mg base Jr 5 f fd ["self","widths","delay","lost"] (RF C):=by
 obtain⟨oc,od,dV,kV,doc,pm,an,cdv,ct,osl,rfl,lk,hcd⟩:=F;refine EJ lk hcd yQ (fun vs H Q E h=>?_) (fun A outer s H vs Q E hr h=>?_)
 .obtain⟨p,dx,hw,x,r,rfl,_⟩:=h;rfl
 .obtain⟨p,dx,hw,x,r,rfl,hp,hhw,hx,ok,q⟩:=h
  suffices hh:∃t,Mp (TQ Jr P w K mg base _ "Road.__init__" (WF WZ) f cdv A outer s H E).nox (WP WZ) t/\t {nx:=fun _ H'=>Q .non H',rt:=Q} (L2.start _ _) H by
   obtain⟨t,h1,h2⟩:=hh;exact⟨t,h1.nox,h2⟩
  refine⟨_,(WX (Ny (Tv (TK (Jx Nt hr.m rfl (WR 1 WK)))) DV NB) (WX (Ny (PW.pt (DG (Tv (TK (Jx J7 hr.m rfl (WR 2 (Nb WM WK))))) (Gh (Tv (TK (Jx NX hr.m rfl (WR 3 WK))))))) DV NB) (WX (GN (K:=K) rfl (WG 0) (R0 (Bj (BF (K:=K) rfl)) rfl B.blist (by rfl) (WR 1 WK)) rfl) (WX (GN (K:=K) rfl (WG 0) (WG 2) rfl) (Jg (GN (K:=K) rfl (WG 0) (jV (ND CV (WG 3) RB) (Np WK) (R0 (Bj (BF (K:=K) rfl)) rfl B.blist (by rfl) (WR 3 WK))) rfl)))))),?_⟩;refine Ja fun N g=>?_
  walk_at"rd";refine⟨hw,r.ws,rfl,hhw,ok.l1,ok.l2,ok.ok,fun G0 s0=>⟨_,rfl,?_⟩⟩;rw[Y3 (by simp)];refine g _ _ ?_;clear g N;refine Ja fun N g=>?_
  walk_at"rd";refine⟨r.dl,0,rfl,?_⟩;rw[Yq ok.d0];refine⟨_,rfl,?_⟩;rw[Y3 (by simp)];refine⟨x,r.lo,rfl,hx.mono s0,fun G1 s1=>⟨_,rfl,?_⟩⟩;rw[Y3 (by simp)];refine g _ _ ?_;clear g N;have j:=s0.trans s1;refine Ja fun N g=>?_
  walk_at"rd";have hw1:=j hw _ hhw;have hp1:=j p _ hp;have hx1:=hx.mono j;refine⟨_,.inl (WJ.of hw1),fun lw G2 hlw s2 hG2=>⟨C,dx,[],s2 _ _ hp1,L.cl,L.widths,by decide,fun G3 b3 hG3=>?_⟩⟩;refine g _ _ ?_;clear g N;refine Ja fun N g=>?_
  walk_at"rd";refine⟨C,dx,_,hG3,L.cl,L.delay,YA (Nn (n:=0) (Y6 _)) (by decide),fun G4 b4 hG4=>?_⟩;refine g _ _ ?_;clear g N;have nlw:lw≠p:=Ne.symm (J6 hp1 hlw);have hx4:TX G4 x r.lo:=⟨hx1.1,hx1.2.imp id fun⟨l,a,b⟩=>⟨l,a,b4 _ _ (b3 _ _ (s2 _ _ b) (WL b hp1 nofun)) (WL b hp1 nofun)⟩⟩;have hlw4:G4 lw=some (.lst (TC r.ws)):=b4 _ _ (b3 _ _ hG2 nlw) nlw;have bb:JS p H G4:=fun c o h n=>b4 c o (b3 c o (s2 c o (j c o h)) n) n
  have fin:∀ (ll:WA) (i:Hp),G4 ll=none->WH G4 i->i ll=some (.lst (r.lo.map V.int))->∃x_1 x_2 x_3,i p=some (HO.ins x_1 x_2 x_3)/\Mj K x_1/\J2 K x_1 "lost"/\x_3.length < 1000/\∀G6,JS p i G6->G6 p=some (HO.ins x_1 x_2 (N0 "lost" (V.ref ll) x_3))->Q .non G6:=by
   intro ll i d s5 u;refine⟨C,dx,_,s5 _ _ hG4,L.cl,L.lost,YA (Nn (Nn (n:=0) (Y6 _))) (by decide),fun G6 b6 hG6=>?_⟩;have nll:ll≠p:=Ne.symm (J6 hG4 d);have nn:lw≠ll:=J6 hlw4 d;refine q lw ll G6 (j.free hlw) ?_ nn (fun c o h n=>b6 c o (s5 c o (bb c o h n)) n) ⟨⟨dx,_,hG6,rfl,rfl,rfl⟩,b6 _ _ (s5 _ _ hlw4) nlw,b6 _ _ u nll,ok⟩;cases e:H ll with
   |none=>rfl
   |some o=>rw[bb ll o e nll]at d;cases d
  walk_at"rd";rcases hx4 with⟨_,⟨rfl,e0⟩|⟨l,rfl,hl4⟩⟩
  .rw[Y9 (by simp)];refine⟨Yj _,fun ll i d s5 u=>fin ll i d s5 ?_⟩;rw[e0];exact u
  .rw[Y3 (by simp)];exact⟨l,rfl,_,.inl (WJ.of hl4),fun ll i d s5 u=>fin ll i d s5 u⟩
inductive RE(C:WA)(vs:List V)(H:Hp)(Q:VK)(E:XK):Prop|mk (hw:WA) (x:V) (r:Dj) (_:vs=[.ref hw,.int r.dl,x]) (_:H hw=some (.lst (TC r.ws))) (_:TX H x r.lo) (_:Ro r) (_:∀p lw ll G,H p=none->H lw=none->H ll=none->WH H G->JK C G p lw ll r->Q (.ref p) G)
theorem Fq{C:WA}{vs:List V}{H:Hp}{Q:VK}{E:XK}(h:RE C vs H Q E):∀y dx G,H y=none->WH H G->G y=some (.ins C dx [])->RF C (.ref y::vs) G (fun v G'=>v= .non/\Q (.ref y) G') E:=by
 obtain⟨g,x,r,rfl,d,f,ok,q⟩:=h;intro y dx G a s j;refine⟨y,dx,g,x,r,rfl,j,s _ _ d,f.mono s,ok,fun lw ll G' h1 h2 _ b i=>⟨rfl,?_⟩⟩;exact q y lw ll G' a (s.free h1) (s.free h2) (fun c o e=>b c o (s c o e) (J6 e a)) i
theorem KU{C:WA}(F:Di P w K mg base "Road" C 5 ["self","widths","delay","lost"] [] (RF C)):MR P w K mg base "Road" 5 (RE C):=
 F.ct fun vs H Q h y dx G a _ _ s b=>by rw[List.append_nil];exact Fq h y dx G a s b
inductive LV(C:WA)(vs:List V)(H:Hp)(Q:VK)(E:XK):Prop|mk (a b:_) (_:vs=[a,b]) (_:RE C [a,b,.non] H Q E)
theorem Sa{C:WA}(F:Di P w K mg base "Road" C 5 ["self","widths","delay","lost"] [.non] (RF C)):MR P w K mg base "Road" 5 (LV C):=
 F.ct fun vs H Q h y dx G c _ _ s d=>by
  obtain⟨a,b,rfl,h⟩:=h;exact Fq h y dx G c s d
end
def dS(xs:List (Str×V)):List (Jv×V):=xs.map fun e=>(Sum.inr e.1,e.2)
theorem GC(xs:List (Str×V))(n:Str):D5 (dS xs) (.inr n)=xs.lookup n:=by
 induction xs with
 |nil=>rfl
 |cons x r ih=>
  unfold D5 dS at ih ⊢;rw[List.map_cons,XB,List.lookup]
  by_cases h:x.1=n
  .subst h;simp
  .have b:decide ((Sum.inr x.1:Jv)=Sum.inr n)=false:=Ys fun z=>h (W0 z)
   have a:(n==x.1)=false:=by simpa using fun z=>h z.symm
   rw[b,a];exact ih
theorem EY{xs:List (Str×V)}{n:Str}(v:V)(h:n∉xs.map (·.1)):Tg (dS xs) (.inr n) v=dS (xs++[(n,v)]):=by
 unfold Tg dS;rw[Yd];have e:((xs.map fun e=>((Sum.inr e.1,e.2):Jv×V)).any fun a=>decide (a.1=Sum.inr n))=false:=by
  rw[List.any_eq_false];intro x b;obtain⟨e,c,rfl⟩:=Yw.mp b;simp only[Yt];exact fun z=>h (Yw.mpr ⟨e,c,W0 z⟩)
 rw[e];rfl
theorem Kz{xs:List (Str×V)}{n:Str}(v:V)(h:n∈xs.map (·.1)):Tg (dS xs) (.inr n) v=dS (xs.map fun e=>if e.1=n then(e.1,v) else e):=by
 unfold Tg dS;have e:((xs.map fun e=>((Sum.inr e.1,e.2):Jv×V)).any fun a=>decide (a.1=Sum.inr n))=true:=by
  rw[VQ];obtain⟨e,b,rfl⟩:=Yw.mp h;exact⟨_,Yw.mpr ⟨e,b,rfl⟩,by simp⟩
 rw[e,Y9 rfl,Yp,Yp];refine YO fun x _=>?_
 show(if(Sum.inr x.1:Jv)=Sum.inr n then((Sum.inr x.1,v):Jv×V) else(Sum.inr x.1,x.2))=_
 by_cases h:x.1=n
 .subst h;simp
 .rw[Y3 (fun z=>h (W0 z))];simp[h]
theorem RT{α:Type}{f:α->Str}{g:α->V}{es:List α}(nd:(es.map f).Nodup){e:α}(he:e∈es):(es.map fun e=>(f e,g e)).lookup (f e)=some (g e):=by
 induction es with
 |nil=>exact nomatch he
 |cons x r ih=>
  rw[List.map_cons,List.lookup];rcases Yu.mp he with rfl|z
  .simp
  .have a:(f e==f x)=false:=by simpa using fun q=>(Xg.mp nd).1 (Yw.mpr ⟨e,z,q⟩)
   rw[a];exact ih (Xg.mp nd).2 z
theorem A4{α β:Type}{f:α->β}:∀{l:List α},(l.map f).Nodup->∀{x y:α},x∈l->y∈l->f x=f y->x=y
 |a::r,h,x,y,hx,hy,e=>by
  rw[List.map_cons,Xg]at h;rcases Yu.mp hx with rfl|hx' <;> rcases Yu.mp hy with rfl|hy'
  .rfl
  .exact absurd (Yw.mpr ⟨y,hy',e.symm⟩) h.1
  .exact absurd (Yw.mpr ⟨x,hx',e⟩:_∈r.map f) h.1
  .exact A4 h.2 hx' hy' e
theorem Fs{xs:List (Str×V)}{n:Str}(h:n∉xs.map (·.1)):xs.lookup n=none:=by
 rw[VX];intro p a;simpa using fun z=>h (Yw.mpr ⟨p,a,z.symm⟩)
theorem Pl{xs:List (Str×V)}{n:Str}(h:n∈xs.map (·.1)):(xs.lookup n).isSome=true:=by
 cases e:xs.lookup n with
 |some v=>rfl
 |none=>
  rw[VX]at e;obtain⟨p,a,rfl⟩:=Yw.mp h;simpa using e p a
structure PR where
 nm:Str
 p:Addr
 lw:Addr
 ll:Addr
 r:Dj
 n:Int
structure Th where
 tm:Int
 t:Addr
 q:Addr
 b:Addr
 d:PD
structure Nl where
 now:Int
 rs:List PR
 cs:List Th
def dB(rs:List PR):List (Str×V):=rs.map fun e=>(e.nm,.ref e.p)
def dC(rs:List PR):List (Str×V):=rs.map fun e=>(e.nm,.int e.n)
theorem HX(rs:List PR):(dB rs).map (·.1)=rs.map (·.nm):=by unfold dB;rw[Yp];rfl
theorem O1(rs:List PR):(dC rs).map (·.1)=rs.map (·.nm):=by unfold dC;rw[Yp];rfl
def Nc(cs:List Th):List V:=cs.map fun c=>.ref c.t
def EX(U:Nl)(db dc lc:WA):List (Str×V):=[("now",.int U.now),("built",.ref db),("counts",.ref dc),("coming",.ref lc)]
structure My(K:Wy)(C:WA):Prop where
 cl:Mj K C
 now:J2 K C "now"
 built:J2 K C "built"
 counts:J2 K C "counts"
 coming:J2 K C "coming"
structure D7(CP:WA)(H:Hp)(c:Th):Prop where
 tu:H c.t=some (.tup [.int c.tm,.ref c.q])
 pi:Jw CP H c.q c.b c.d
structure WN(C CR CP:WA)(H:Hp)(p db dc lc:WA)(U:Nl):Prop where
 ex:∃dx fs,H p=some (.ins C dx fs)/\fs.length <=4/\∀f,fs.lookup f=(EX U db dc lc).lookup f
 hb:H db=some (.dK (dS (dB U.rs)))
 hc:H dc=some (.dK (dS (dC U.rs)))
 hl:H lc=some (.lst (Nc U.cs))
 ne:db≠dc
 rd:∀e∈U.rs,JK CR H e.p e.lw e.ll e.r
 th:∀c∈U.cs,D7 CP H c
 nd:(U.rs.map (·.nm)).Nodup
def At(H G:Hp)(p:WA):Prop:=∀o,H p=some o->G p=some o
theorem Jw.kp{C p b:WA}{H G:Hp}{d:PD}(h:Jw C H p b d)(k1:At H G p)(k2:At H G b):Jw C G p b d:=⟨h.ok,h.ats.same k1,k2 _ h.bd⟩
theorem JK.kp{C p lw ll:WA}{H G:Hp}{r:Dj}(h:JK C H p lw ll r)(k1:At H G p)(k2:At H G lw)(k3:At H G ll):JK C G p lw ll r:=by
 obtain⟨dx,fs,e,a⟩:=h.ex;exact⟨⟨dx,fs,k1 _ e,a⟩,k2 _ h.hw,k3 _ h.hl,h.ok⟩
theorem D7.kp{CP:WA}{H G:Hp}{c:Th}(h:D7 CP H c)(k1:At H G c.t)(k2:At H G c.q)(k3:At H G c.b):D7 CP G c:=⟨k1 _ h.tu,h.pi.kp k2 k3⟩
def DS(H G:Hp):Prop:=∀c o,H c=some o->(∀l,o≠ .dK l)->G c=some o
theorem DS.pie{C p b:WA}{H G:Hp}{d:PD}(k:DS H G)(h:Jw C H p b d):Jw C G p b d:=h.kp (fun o e=>by obtain⟨dx,fs,a⟩:=h.ins;exact k _ _ e (by rw[e]at a;cases a;nofun)) (fun o e=>k _ _ e (by rw[h.bd]at e;cases e;nofun))
theorem DS.thing{C:WA}{H G:Hp}{c:Th}(k:DS H G)(h:D7 C H c):D7 C G c:=⟨k _ _ h.tu nofun,k.pie h.pi⟩
theorem DS.road{C p lw ll:WA}{H G:Hp}{r:Dj}(k:DS H G)(h:JK C H p lw ll r):JK C G p lw ll r:=by
 obtain⟨dx,fs,e,a⟩:=h.ex;exact⟨⟨dx,fs,k _ _ e nofun,a⟩,k _ _ h.hw nofun,k _ _ h.hl nofun,h.ok⟩
theorem D7.mono{CP:WA}{H G:Hp}{c:Th}(s:WH H G)(h:D7 CP H c):D7 CP G c:=⟨s _ _ h.tu,h.pi.mono s⟩
section
variable{P:Wt}{w:Wx}{K:Wy}{mg:Wp}{base:WD}{C CR CP p db dc lc:WA}{H G:Hp}{U:Nl}
theorem WN.mono(s:WH H G)(h:WN C CR CP H p db dc lc U):WN C CR CP G p db dc lc U:=by
 obtain⟨dx,fs,e,r⟩:=h.ex;exact⟨⟨dx,fs,s _ _ e,r⟩,s _ _ h.hb,s _ _ h.hc,s _ _ h.hl,h.ne,fun e a=>(h.rd e a).mono s,fun c hc=>(h.th c hc).mono s,h.nd⟩
theorem WN.fld(h:WN C CR CP H p db dc lc U)(cl:Mj K C){f:Str}{v:L2.V}(na:J2 K C f)(e:(EX U db dc lc).lookup f=some v):N5 K H (.ref p) f v:=by
 obtain⟨dx,fs,a,_,hf⟩:=h.ex;exact⟨p,C,dx,fs,rfl,a,cl,na,by rw[hf f,e]⟩
theorem LY(L:My K C)(h:WN C CR CP H p db dc lc U):N5 K H (.ref p) "now" (.int U.now):=h.fld L.cl L.now rfl
theorem EF(L:My K C)(h:WN C CR CP H p db dc lc U):N5 K H (.ref p) "built" (.ref db):=h.fld L.cl L.built rfl
theorem ZH(L:My K C)(h:WN C CR CP H p db dc lc U):N5 K H (.ref p) "counts" (.ref dc):=h.fld L.cl L.counts rfl
theorem BQ(L:My K C)(h:WN C CR CP H p db dc lc U):N5 K H (.ref p) "coming" (.ref lc):=h.fld L.cl L.coming rfl
theorem WN.mt(h:WN C CR CP H p db dc lc U){f:Str}(e:(EX U db dc lc).lookup f=none):Ia C f H (.ref p):=by
 obtain⟨dx,fs,a,_,hf⟩:=h.ex;exact⟨p,dx,fs,rfl,a,by rw[hf f,e]⟩
end
section
variable{P:Wt}{w:Wx}{K:Wy}{mg:Wp}{base:WD}
inductive BX(C CRo CP:WA)(vs:List V)(H:Hp)(Q:VK)(E:XK):Prop|mk (p db dc lc:WA) (U:Nl) (t:Int) (_:vs=[.ref p,.int t]) (_:WN C CRo CP H p db dc lc U) (_:U.now <=t) (_:Q .non H)
abbrev Ig:Stmt:=MW (JX 44) 7
theorem nF:JN ["self","time"] ["self","time"] (WF Ig):=by walk_at"e"
theorem nA{f C CRo CP:WA}{fd:Wv}(F:JT K "check_time" "Post.check_time" Ig f fd)(L:My K C)(J7:JI P w K mg base "is_whole_from" 2 ["value","low"] [] Ap):WQ P w K mg base Jr 3 f fd ["self","time"] (BX C CRo CP):=by
 refine F.ok nF (fun vs H Q E h=>?_) (fun e A a s H vs Q E c h=>?_)
 .obtain⟨p,db,dc,lc,U,t,rfl,_⟩:=h;rfl
 .obtain⟨p,db,dc,lc,U,t,rfl,d,b,q⟩:=h;refine⟨_,(Jg (Ny (Tv (TK (Jx J7 c.m rfl (WR 1 (TN (Nd K (WG 0)) WK))))) DV NB)),?_⟩;walk_at"rd";refine⟨_,LY L d,t,U.now,rfl,?_⟩;rw[Yq b];exact⟨_,rfl,q⟩
inductive BD(C CRo CP:WA)(vs:List V)(H:Hp)(Q:VK)(E:XK):Prop|mk (p db dc lc:WA) (U:Nl) (_:vs=[.ref p]) (_:WN C CRo CP H p db dc lc U) (_:U.rs.length <=100) (_:∀ (ms:List Str) l G,ms.Perm (U.rs.map (·.nm))->ms.Pairwise (fun a b=>MG b a=false)->H l=none->WH H G->G l=some (.lst (ms.map V.str))->Q (.ref l) G)
abbrev FG:Stmt:=MW (JX 44) 2
theorem vD:JN ["self"] ["self"] (WF FG):=by walk_at"e"
theorem vU{f C CRo CP:WA}{fd:Wv}(F:JT K "roads" "Post.roads" FG f fd)(L:My K C)(B2:E3 mg):WQ P w K mg base Jr 3 f fd ["self"] (BD C CRo CP):=by
 refine F.ok vD (fun vs H Q E h=>?_) (fun d A b s H vs Q E c h=>?_)
 .obtain⟨p,db,dc,lc,U,rfl,_⟩:=h;rfl
 .obtain⟨p,db,dc,lc,U,rfl,a,e,q⟩:=h;refine⟨_,(Jg (JB (N3 (QE rfl (WV.units c)) B2.sorted (TN (Nd K (WG 0)) WK)))),?_⟩;walk_at"rd";refine⟨_,EF L a,db,rfl,_,a.hb,U.rs.map (·.nm),?_,by rw[Y1];omega,q⟩;unfold dS dB;rw[Yp,Yp,Yp];rfl
inductive CJ(C CRo CP:WA)(vs:List V)(H:Hp)(Q:VK)(E:XK):Prop|mk (p db dc lc:WA) (U:Nl) (_:vs=[.ref p]) (_:WN C CRo CP H p db dc lc U) (_:Q (.int U.cs.length) H)
abbrev Ko:Stmt:=MW (JX 44) 5
theorem uG:JN ["self"] ["self"] (WF Ko):=by walk_at"e"
theorem QA{f C CRo CP:WA}{fd:Wv}(F:JT K "on_the_way" "Post.on_the_way" Ko f fd)(L:My K C)(B:Bt mg):WQ P w K mg base Jr 1 f fd ["self"] (CJ C CRo CP):=by
 refine F.ok uG (fun vs H Q E h=>?_) (fun c A b s H vs Q E d h=>?_)
 .obtain⟨p,db,dc,lc,U,rfl,_⟩:=h;rfl
 .obtain⟨p,db,dc,lc,U,rfl,a,q⟩:=h;refine⟨_,(Jg (JB (N3 (Mb (Mc (K:=K) rfl)) B.len (TN (Nd K (WG 0)) WK)))),?_⟩;walk_at"rd";refine⟨_,BQ L a,lc,rfl,_,.inl (WJ.of a.hl),?_⟩;rw[show(Nc U.cs).length=U.cs.length from Y1 ..];exact q
inductive AB(C CRo CP:WA)(vs:List V)(H:Hp)(Q:VK)(E:XK):Prop|mk (p db dc lc:WA) (U:Nl) (_:vs=[.ref p]) (_:WN C CRo CP H p db dc lc U) (_:U.cs.length <=5000) (_:∀G,WH H G->(U.cs=[]->Q .non G)/\∀v,v∈U.cs.map (·.tm)->(∀y∈U.cs.map (·.tm),v <=y)->Q (.int v) G)
abbrev AH:Stmt:=MW (JX 44) 6
theorem xV:JN ["self"] ["self"] (WF AH):=by walk_at"e"
theorem Z7{f C CRo CP:WA}{fd:Wv}(F:JT K "next_time" "Post.next_time" AH f fd)(L:My K C)(B:Bt mg):WQ P w K mg base Jr 1 f fd ["self"] (AB C CRo CP):=by
 refine F.ok xV (fun vs H Q E h=>?_) (fun z A n s H vs Q E hr h=>?_)
 .obtain⟨p,db,dc,lc,U,rfl,_⟩:=h;rfl
 .obtain⟨p,db,dc,lc,U,rfl,b,hn,q⟩:=h;refine⟨_,(Jg (JB (SR (K:=K) rfl rfl rfl rfl B.min (by rfl) (TU (N':=["one"]) (caps:=[none]) (Tf (sc:=WF AH) (N:=["self"]) rfl rfl (by decide +kernel)) rfl (Tw (K:=K) rfl (Nd K (WG 0))) (fun _ _ _ _ _=>(T3 (i:=0) (T9 (N:=["one"]) rfl (by decide +kernel)) rfl (Or.inl rfl))) (fun _ _ _ _ _=>Mx) (fun _ _ _ _ _=>(DU K (WG 0) WM))) RB))),?_⟩;walk_at"rd";refine⟨_,BQ L b,lc,rfl,⟨_,WJ.of b.hl⟩,?_⟩;obtain⟨g,a⟩:∃g:Nat->List V->L2.St->Hp->Prop,g=fun i ys σ' H1=>H1=H/\ys=((U.cs.take i).map (·.tm)).map V.int/\∃v,σ'=[v]:=⟨_,rfl⟩
  refine MY (xs:=Nc U.cs) g (by rw[a];exact⟨rfl,by simp,none,rfl⟩) ?_ (Nm (by rw[show(Nc U.cs).length=U.cs.length from Y1 ..];omega)) ?_ ?_ <;> rw[a]
  .rintro i ys σ' H1 ⟨rfl,rfl,_⟩ _;refine⟨WJ.of b.hl,?_⟩;rw[Y1,Y1,YC];omega
  .intro i y ys σ' H1 d Zq;obtain⟨rfl,rfl,v,rfl⟩:=Zq;rw[<-a];unfold Nc at d;rw[Yf]at d;obtain⟨c,j,rfl⟩:=Yy.mp d;walk_at"rd";refine⟨_,N9.of (b.th c (Ya j)).tu,_,rfl,?_⟩;rw[a];refine⟨rfl,?_,_,rfl⟩;rw[YD,j,YH,Yd,Yd];rfl
  .rintro ys σ' H1 ⟨rfl,rfl,_⟩ l G hl o u;obtain⟨t,r⟩:=q G o;refine⟨l,rfl,U.cs.map (·.tm),WJ.of (by rw[u,show(Nc U.cs).length=U.cs.length from Y1 ..,YE]),fun e=>t (Wk.mp e),r⟩
inductive F2(C CRo CP:WA)(vs:List V)(H:Hp)(Q:VK)(E:XK):Prop|mk (p db dc lc ln:WA) (U:Nl) (ns:List Str) (_:vs=[.ref p,.ref ln]) (_:WN C CRo CP H p db dc lc U) (_:H ln=some (.lst (ns.map V.str))) (_:1 <=ns.length) (_:ns.length <=100) (_:(∀n∈ns,Js n/\n∈U.rs.map (·.nm))) (_:∀G,WH H G->Q (.bl true) G)
abbrev C7:Stmt:=MW (JX 44) 8
theorem ZD:JN ["self","names"] ["self","names"] (WF C7):=by walk_at"e"
theorem jM{f C CRo CP:WA}{fd:Wv}(F:JT K "are_built" "Post.are_built" C7 f fd)(L:My K C)(B:Bt mg)(JG:JI P w K mg base "is_name" 1 ["value"] [] Ar):WQ P w K mg base Jr 2 f fd ["self","names"] (F2 C CRo CP):=by
 refine F.ok ZD (fun vs H Q E h=>?_) (fun cdv A outer s H vs Q E o h=>?_)
 .obtain⟨p,db,dc,lc,ln,U,b,rfl,_⟩:=h;rfl
 .obtain⟨p,db,dc,lc,ln,U,b,rfl,hU,d,h1,h2,u,q⟩:=h;refine⟨_,(WX (Ny (PW.pt (DG (Tv (TK (N3 (Rn "list") B.isinstance (WR 1 (WW (hs:=Ni) (Ra (v:=.ty "list") rfl B.blist (by rfl) rfl) WK))))) (Gh (ND (B1 (BP (K:=K) (WV.units o) rfl)) (WG 1) (Np WK))))) (Jg (JB Mm)) NB) (Jg (JB (N3 (ER (K:=K) rfl rfl) B.all (WW (hs:=Rx) (TU (N':=["name","self"]) (caps:=[none,some 0]) (Tf (sc:=WF C7) (N:=["self","names"]) rfl rfl (by decide +kernel)) rfl (Tw (K:=K) rfl (WG 1)) (fun _ _ _ _ _=>(T3 (i:=0) (T9 (N:=["name","self"]) rfl (by decide +kernel)) rfl (Or.inl rfl))) (fun _ _ _ _ _=>Mx) (fun _ _ _ _ _=>(MN (Jx JG o.m rfl (WR 0 WK)) (Gn (M8 (KO (MP o)) (WG 0) (Nd K (WG 1)) (by with_unfolding_all rfl)))))) WK))))),?_⟩;walk_at"rd";refine⟨_,Af d,?_⟩;rw[Y3 (by decide)];refine⟨Yj _,fun l0 G0 hl0 g hG0=>⟨_,WJ.of (g _ _ d),WJ.of hG0,?_⟩⟩;rw[Y1,Y3 (by rw[Yt];omega)];have hU0:=hU.mono g;have c:=g _ _ d;refine⟨⟨_,WJ.of c⟩,?_⟩;obtain⟨r,a⟩:∃r:Nat->List V->L2.St->Hp->Prop,r=fun i ys σ' H1=>WH G0 H1/\i <=b.length/\ys=(List.replicate i true).map V.bl/\∃v,σ'=[v,some (.ref p)]:=⟨_,rfl⟩
  refine MY (xs:=b.map V.str) r (by rw[a];exact⟨WH.refl _,Yj _,by simp,none,rfl⟩) ?_ (Nm (by rw[Y1];omega)) ?_ ?_ <;> rw[a]
  .rintro i ys σ' H1 ⟨s1,hi,rfl,_⟩ _;refine⟨WJ.of (s1 _ _ c),?_⟩;simp
  .intro i y ys σ' H1 t Zq;obtain⟨s1,hi,rfl,v,rfl⟩:=Zq;rw[<-a];rw[Yf]at t;obtain⟨n,hn,rfl⟩:=Yy.mp t;have hi':i < b.length:=(Y4.mp hn).1;obtain⟨k1,k2⟩:=u n (Ya hn);walk_at"rd";have l1:=k1.2.1;refine⟨_,_,rfl,rfl,(fun z e=>by cases e;omega),fun H2 s2=>⟨_,rfl,?_⟩⟩;rw[Y9 k1.is];have j:=hU0.mono (s1.trans s2);refine⟨_,EF L j,db,rfl,_,j.hb,?_⟩;rw[GC,Pl (by rw[HX];exact k2),a];refine⟨s1.trans s2,hi',?_,_,rfl⟩;rw[Vg,Yd];rfl
  .rintro ys σ' H1 ⟨s1,_,rfl,_⟩ l G hl sG hG;refine⟨l,rfl,List.replicate b.length true,WJ.of (by rw[hG,Y1]),?_⟩;have e:(List.replicate b.length true).all id=true:=by simp
   rw[e];exact q _ (g.trans (s1.trans sG))
inductive AZ(C CRo CP:WA)(vs:List V)(H:Hp)(Q:VK)(E:XK):Prop|mk (p db dc lc:WA) (U:Nl) (e:PR) (_:vs=[.ref p,.str e.nm,.ref e.p]) (_:WN C CRo CP H p db dc lc U) (_:JK CRo H e.p e.lw e.ll e.r) (_:e.n=0) (_:Js e.nm) (_:e.nm∉U.rs.map (·.nm)) (_:U.rs.length <=100) (_:∀G,(∀c o,H c=some o->c≠db->c≠dc->G c=some o)->WN C CRo CP G p db dc lc {U with rs:=U.rs++[e]}->Q .non G)
abbrev KF:Stmt:=MW (JX 44) 1
theorem wB:JN ["self","name","road"] ["self","name","road"] (WF KF):=by walk_at"e"
theorem xW{f C CRo CP:WA}{fd:Wv}(F:JT K "build" "Post.build" KF f fd)(L:My K C)(B:Bt mg)(gC_Road:mg "Road"=some (.ref CRo))(ic_Road:AS K CRo)(cl_Road:Mj K CRo)(JG:JI P w K mg base "is_name" 1 ["value"] [] Ar):WQ P w K mg base Jr 2 f fd ["self","name","road"] (AZ C CRo CP):=by
 refine F.ok wB (fun vs H Q E h=>?_) (fun cdv A outer s H vs Q E j h=>?_)
 .obtain⟨p,db,dc,lc,U,e,rfl,_⟩:=h;rfl
 .obtain⟨p,db,dc,lc,U,e,rfl,d,r,e0,nk,i,hn,q⟩:=h;refine⟨_,(WX (Ny (PW.pt (DG (Tv (TK (Jx JG j.m rfl (WR 1 WK)))) (Gh (EE (KO (MP j)) (WG 1) (Nd K (WG 0)) (by with_unfolding_all rfl))))) DV NB) (WX (Ny (Tv (TK (N3 (Pz (K:=K) rfl cl_Road ic_Road) B.isinstance (WR 2 (WW (hs:=Ni) (IL (v:=.ref CRo) rfl gC_Road rfl) WK))))) DV NB) (WX (Gd (MP j) (Nd K (WG 0)) (WG 1) (WG 2) rfl) (Jg (Gd (MP j) (Nd K (WG 0)) (WG 1) WM rfl))))),?_⟩;walk_at"rd";have l1:=nk.2.1;refine⟨_,_,rfl,rfl,(fun z e=>by cases e;omega),fun H0 u=>⟨_,rfl,?_⟩⟩;rw[Y3 (by rw[nk.is];simp)]
  replace d:=d.mono u
  replace r:=r.mono u
  replace q:∀G,(∀c o,H0 c=some o->c≠db->c≠dc->G c=some o)->WN C CRo CP G p db dc lc {U with rs:=U.rs++[e]}->Q .non G:=fun G k hG=>q G (fun c o h=>k c o (u c o h)) hG
  refine⟨_,EF L d,db,rfl,_,d.hb,?_⟩;rw[GC,Fs (by rw[HX];exact i),Y3 (by simp)];obtain⟨dxr,fsr,hpr,hr1,hr2,hr3⟩:=r.ex;obtain⟨dx,fs,l,hl,hf⟩:=d.ex;refine⟨dxr,fsr,hpr,_,EF L d,db,rfl,_,d.hb,?_,fun G1 b1 e1=>?_⟩
  .unfold dS dB;rw[Y1,Y1,Yh];omega
  have t:p≠db:=WL l d.hb nofun;have np2:p≠dc:=WL l d.hc nofun;have fl1:N5 K G1 (.ref p) "counts" (.ref dc):=⟨p,C,dx,fs,rfl,b1 _ _ l t,L.cl,L.counts,by rw[hf "counts"];rfl⟩
  refine⟨_,fl1,dc,rfl,_,b1 _ _ d.hc (Ne.symm d.ne),?_,fun G2 b2 e2=>?_⟩
  .unfold dS dC;rw[Y1,Y1,Yh];omega
  rw[EY _ (by rw[HX];exact i)]at e1;rw[EY _ (by rw[O1];exact i)]at e2;have kp:∀c o,H0 c=some o->c≠db->c≠dc->G2 c=some o:=fun c o h n1 n2=>b2 c o (b1 c o h n1) n2
  refine q G2 kp ?_;have kd:DS H0 G2:=fun c o h n=>kp c o h (fun z=>n _ (Yn (h.symm.trans (z▸d.hb)))) (fun z=>n _ (Yn (h.symm.trans (z▸d.hc))))
  refine⟨⟨dx,fs,kp _ _ l t np2,hl,hf⟩,?_,?_,kp _ _ d.hl (WL d.hl d.hb nofun) (WL d.hl d.hc nofun),d.ne,fun x g=>?_,fun c hc=>?_,?_⟩
  .rw[b2 _ _ e1 d.ne];unfold dB;rw[Yd];rfl
  .rw[e2];unfold dC;rw[Yd,show [e].map (fun e=>(e.nm,V.int e.n))=[(e.nm,V.int 0)] by rw[List.map_cons,e0];rfl]
  .rcases Yb.mp g with g|g
   .exact kd.road (d.rd x g)
   .rw[Y8.mp g];exact kd.road r
  .exact kd.thing (d.th c hc)
  .show((U.rs++[e]).map (·.nm)).Nodup;rw[Yd,VD];exact⟨d.nd,by simp,fun a ha b hb=>by simp at hb;subst hb;exact fun z=>i (z▸ha)⟩
structure Ce(tm:Int)(ps:List (Addr×Addr))(ds:List PD)(cs:List Th):Prop where
 q:cs.map (fun c=>(c.q,c.b))=ps
 d:cs.map (·.d)=ds
 t:∀c∈cs,c.tm=tm
theorem Ln(p:Int)(ns:WB):C5 (.int p) (ns.map V.int)=decide (p∈ns):=by
 rw[Xt,Yt];unfold C5;rw[List.any_map,VQ];constructor
 .rintro⟨x,hx,h⟩;have h:(x==p)=true:=h;rw[<-eq_of_beq h];exact hx
 .intro h;exact⟨p,h,beq_self_eq_true p⟩
def bump(nm:Str)(rs:List PR):List PR:=rs.map fun x=>if x.nm=nm then {x with n:=x.n+ 1} else x
theorem Z1(nm:Str)(rs:List PR):(bump nm rs).map (·.nm)=rs.map (·.nm):=by
 unfold bump;rw[Yp];refine YO fun x _=>?_
 show(if x.nm=nm then {x with n:=x.n+ 1} else x).nm=x.nm
 split <;> rfl
theorem QK(nm:Str)(rs:List PR):dB (bump nm rs)=dB rs:=by
 unfold bump dB;rw[Yp];refine YO fun x _=>?_
 show((if x.nm=nm then {x with n:=x.n+ 1} else x).nm,V.ref (if x.nm=nm then {x with n:=x.n+ 1} else x).p)=_
 split <;> rfl
theorem Sr{nm:Str}{rs:List PR}{e:PR}(nd:(rs.map (·.nm)).Nodup)(he:e∈rs)(hn:e.nm=nm):Tg (dS (dC rs)) (.inr nm) (.int (e.n+ 1))=dS (dC (bump nm rs)):=by
 rw[Kz _ (by rw[O1];exact hn▸Xb he)];unfold dC bump;rw[Yp,Yp]
 congr 1
 refine YO fun x a=>?_
 show(if x.nm=nm then(x.nm,V.int (e.n+ 1)) else(x.nm,V.int x.n))=((if x.nm=nm then {x with n:=x.n+ 1} else x).nm,V.int (if x.nm=nm then {x with n:=x.n+ 1} else x).n)
 by_cases h:x.nm=nm
 .rw[Y9 h,Y9 h,A4 nd a he (h.trans hn.symm)]
 .rw[Y3 h,Y3 h]
theorem SD{nm:Str}{rs:List PR}{x:PR}(h:x∈bump nm rs):∃y∈rs,x.nm=y.nm/\x.p=y.p/\x.lw=y.lw/\x.ll=y.ll/\x.r=y.r:=by
 obtain⟨y,a,rfl⟩:=Yw.mp h;refine⟨y,a,?_⟩
 split <;> exact⟨rfl,rfl,rfl,rfl,rfl⟩
inductive HN(C CRo CP:WA)(vs:List V)(H:Hp)(Q:VK)(E:XK):Prop|mk (p db dc lc lp:WA) (U:Nl) (e:PR) (ps:List (Addr×Addr)) (ds:List PD) (_:vs=[.ref p,.str e.nm,.ref lp]) (_:WN C CRo CP H p db dc lc U) (_:e∈U.rs) (_:H lp=some (.lst (MD ps))) (_:JL CP H ps ds) (_:lp≠lc) (_:(∀q∈ps,q.2≠lc)) (_:(∀c∈U.cs,c.b≠lc)) (_:(∀x∈U.rs,x.lw≠lc/\x.ll≠lc)) (_:U.rs.length <=100) (_:U.cs.length <=5000) (_:ps.length <=5000) (_:∀cs' G,(∀c o,H c=some o->c≠lc->c≠dc->G c=some o)->(if e.n∈e.r.lo then cs'=[] else Ce (U.now+ e.r.dl) ps ds cs')->WN C CRo CP G p db dc lc {U with rs:=bump e.nm U.rs,cs:=U.cs++cs'}->Q .non G)
abbrev C4:Stmt:=MW (JX 44) 10
theorem Ll:JN ["self","name","parts","road"] ["self","name","parts"] (WF C4):=by walk_at"e"
theorem ZM{f C CRo CP:WA}{fd:Wv}(F:JT K "put_on_road" "Post.put_on_road" C4 f fd)(L:My K C)(LR:Rh K CRo):WQ P w K mg base Jr 1 f fd ["self","name","parts"] (HN C CRo CP):=by
 refine F.ok Ll (fun vs H Q E h=>?_) (fun cdv A outer s H vs Q E hr h=>?_)
 .obtain⟨p,db,dc,lc,lp,U,e,ps,ds,rfl,_⟩:=h;rfl
 .obtain⟨p,db,dc,lc,lp,U,e,ps,ds,rfl,j,he,hlp,hps,nlp,nps,ncs,nrs,n1,n2,n3,q⟩:=h;have hR:=j.rd e he;refine⟨_,(WX (D8 (i:=3) (Ll).nd rfl (Or.inr rfl) (NG hr (Nd K (WG 0)) (WG 1))) (WX (Bc (Ny (EE (Ow (K:=K) rfl) (NG hr (Nd K (WG 0)) (WG 1)) (Nd K (WG 3)) (by with_unfolding_all rfl)) (Jg (Mn (Dh (K:=K) rfl YI UM UN (FX Fg) (Nd K (WG 0)) (WW (hs:=Rx) (TU (N':=["part","self","road"]) (caps:=[none,some 0,some 3]) (Tf (sc:=WF C4) (N:=["self","name","parts","road"]) rfl rfl (by decide +kernel)) rfl (Tw (K:=K) rfl (WG 2)) (fun _ _ _ _ _=>(T3 (i:=0) (T9 (N:=["part","self","road"]) rfl (by decide +kernel)) rfl (Or.inl rfl))) (fun _ _ _ _ _=>Mx) (fun _ _ _ _ _=>(MO (WW (hs:=TF) (J0 (Jz Nw) (Nd K (WG 1)) (Nd K (WG 2))) (WR 0 WK))))) WK)))) NB)) (Jg (Gd (MP hr) (Nd K (WG 0)) (WG 1) (J0 (Jz Nw) (NG hr (Nd K (WG 0)) (WG 1)) WM) rfl)))),?_⟩;refine Ja fun N hN=>?_
  walk_at"rd";have dg:∀{xs:List (Str×V)} {a:WA} {H':Hp} {n:Str} {v:V},H' a=some (.dK (dS xs))->xs.lookup n=some v->NJ H' a (.str n) (some v):=fun h1 h2=>.inl ⟨_,.inr _,.inl h1,rfl,by rw[GC];first|exact h2|exact h2.symm⟩
  have lB:(dB U.rs).lookup e.nm=some (.ref e.p):=RT (f:=(·.nm)) (g:=fun e:PR=>V.ref e.p) j.nd he;have lC:(dC U.rs).lookup e.nm=some (.int e.n):=RT (f:=(·.nm)) (g:=fun e:PR=>V.int e.n) j.nd he;refine⟨_,EF L j,db,rfl,_,dg j.hb lB,?_⟩;refine hN _ _ ?_;clear hN N;refine Ja fun N hN=>?_
  walk_at"rd";obtain⟨Pu,ePu⟩:∃Pu:L2.St->Hp->Prop,Pu=fun σ' G=>∃ab,σ'=[some (.ref p),some (.str e.nm),some (.ref lp),some (.ref e.p)]/\JS lc H G/\(if e.n∈e.r.lo then ab=[] else Ce (U.now+ e.r.dl) ps ds ab)/\G lc=some (.lst (Nc (U.cs++ab)))/\∀c∈ab,D7 CP G c:=⟨_,rfl⟩
  refine⟨Pu,?_,?_⟩
  .refine⟨_,ZH L j,dc,rfl,_,dg j.hc lC,_,Ax LR hR,?_⟩;refine⟨_,_,rfl,.inl (WJ.of hR.hl),rfl,by simp[GI],_,rfl,?_⟩;rw[Y9 rfl,Ln]
   by_cases hm:e.n∈e.r.lo
   .rw[Yq hm,Y3 (by simp),ePu];refine⟨[],rfl,fun c o h _=>h,by rw[Y9 hm],by rw[List.append_nil];exact j.hl,nM⟩
   .rw[Ys hm,Y9 (by simp)];refine⟨_,BQ L j,.inl ⟨rfl,_,WJ.of j.hl⟩,⟨_,WJ.of hlp⟩,?_⟩;obtain⟨Pv,ePv⟩:∃Pv:Nat->List V->L2.St->Hp->Prop,Pv=fun i ys σ' G=>WH H G/\∃cs v,σ'=[v,some (.ref p),some (.ref e.p)]/\ys=Nc cs/\Ce (U.now+ e.r.dl) (ps.take i) (ds.take i) cs/\∀c∈cs,D7 CP G c/\H c.t=none:=⟨_,rfl⟩
    refine MY (xs:=MD ps) Pv (by rw[ePv];exact⟨WH.refl _,[],none,rfl,rfl,⟨rfl,rfl,nM⟩,nM⟩) ?_ (Nm (by rw[Ea];omega)) ?_ ?_ <;> rw[ePv]
    .rintro i ys σ' G ⟨sG,cs,v,rfl,rfl,u,_⟩ _;refine⟨WJ.of (sG _ _ hlp),?_⟩;have e1:=YB List.length u.q;rw[Y1,YC]at e1;rw[show(Nc cs).length=cs.length from Y1 ..];omega
    .intro i y ys σ' G hy Zq;obtain⟨sG,cs,v,rfl,rfl,u,aa⟩:=Zq;rw[<-ePv];obtain⟨q0,hq0,rfl⟩:=Hu hy;obtain⟨d0,hd0,hP0⟩:=hps.get hq0;walk_at"rd";have hUG:=j.mono sG;refine⟨_,LY L hUG,_,Ov LR (hR.mono sG),_,rfl,_,rfl,by decide,fun t1 G1 ht1 s1 hG1=>?_⟩;rw[ePv];refine⟨sG.trans s1,cs++[⟨U.now+ e.r.dl,t1,q0.1,q0.2,d0⟩],_,rfl,?_,⟨?_,?_,fun c hc=>?_⟩,fun c hc=>?_⟩
     .unfold Nc;rw[Yd];rfl
     .rw[Yd,u.q,YD,hq0];rfl
     .rw[Yd,u.d,YD,hd0];rfl
     .rcases Yb.mp hc with hc|hc
      .exact u.t c hc
      .rw[Y8.mp hc]
     .rcases Yb.mp hc with hc|hc
      .exact⟨(aa c hc).1.mono s1,(aa c hc).2⟩
      .rw[Y8.mp hc];exact⟨⟨hG1,hP0.mono (sG.trans s1)⟩,sG.free ht1⟩
    .rintro ys σ' G ⟨sG,cs,v,rfl,rfl,u,aa⟩ l G1 hl s1 hG1;have s01:=sG.trans s1;rw[Ea,YE,hps.len,YE]at u;have hlc1:=s01 _ _ j.hl;have ecs:cs.length=ps.length:=by rw[<-u.q,Y1]
     refine⟨lc,rfl,l,rfl,_,hlc1,_,hG1,?_,fun G2 b2 hG2=>?_⟩
     .unfold Nc;rw[Y1,Y1,Yh];omega
     .rw[ePu];refine⟨cs,rfl,fun c o h n=>b2 c o (s01 c o h) n,by rw[Y3 hm];exact u,by rw[hG2];unfold Nc;rw[Yd],fun c hc=>?_⟩;have hT:=(aa c hc).1.mono s1;have hb:(c.q,c.b)∈ps:=by rw[<-u.q];exact Xb (f:=fun c:Th=>(c.q,c.b)) hc
      obtain⟨dx,fs,hq⟩:=hT.pi.ins;exact hT.kp (fun o h=>b2 _ _ h (WL hT.tu hlc1 nofun)) (fun o h=>b2 _ _ h (WL hq hlc1 nofun)) (fun o h=>b2 _ _ h (nps _ hb))
  .rw[ePu];intro σ' G Zq;obtain⟨ab,rfl,bG,u,hG,aa⟩:=Zq;refine hN _ _ ?_;clear hN N;walk_at"rd";obtain⟨dx,fs,hp,hl,hf⟩:=j.ex;have np1:p≠lc:=WL hp j.hl nofun;have np2:p≠dc:=WL hp j.hc nofun;have nc:dc≠lc:=WL j.hc j.hl nofun;have fl:N5 K G (.ref p) "counts" (.ref dc):=⟨p,C,dx,fs,rfl,bG _ _ hp np1,L.cl,L.counts,by rw[hf "counts"];rfl⟩
   have hc1:=bG _ _ j.hc nc;refine⟨_,fl,dc,rfl,_,dg hc1 lC,_,rfl,_,fl,dc,rfl,_,hc1,?_,fun G2 b2 e2=>?_⟩
   .unfold dS dC;rw[Y1,Y1,Yh];omega
   rw[Sr j.nd he rfl]at e2;have kp:∀c o,H c=some o->c≠lc->c≠dc->G2 c=some o:=fun c o h n1 n2=>b2 c o (bG c o h n1) n2
   have kd:DS G G2:=fun c o h n=>b2 c o h fun z=>n _ (Yn (h.symm.trans (z▸hc1)))
   have nlc:lc≠dc:=Ne.symm nc;refine q ab G2 kp u ?_;refine⟨⟨dx,fs,kp _ _ hp np1 np2,hl,hf⟩,?_,e2,b2 _ _ hG nlc,j.ne,fun x hx=>?_,fun c hc=>?_,?_⟩
   .show G2 db=some (.dK (dS (dB (bump e.nm U.rs))));rw[QK];exact kp _ _ j.hb (WL j.hb j.hl nofun) j.ne
   .obtain⟨y,hy,_,h2,h3,h4,h5⟩:=SD hx;have hY:=j.rd y hy;obtain⟨m1,m2⟩:=nrs y hy;obtain⟨dxy,fsy,hyp,_⟩:=hY.ex;rw[h2,h3,h4,h5];exact kd.road (hY.kp (fun o h=>bG _ _ h (WL hyp j.hl nofun)) (fun o h=>bG _ _ h m1) (fun o h=>bG _ _ h m2))
   .rcases Yb.mp hc with hc|hc
    .have hT:=j.th c hc;obtain⟨dxy,fsy,hq⟩:=hT.pi.ins;exact kd.thing (hT.kp (fun o h=>bG _ _ h (WL hT.tu j.hl nofun)) (fun o h=>bG _ _ h (WL hq j.hl nofun)) (fun o h=>bG _ _ h (ncs c hc)))
    .exact kd.thing (aa c hc)
   .show((bump e.nm U.rs).map (·.nm)).Nodup;rw[Z1];exact j.nd
structure Ld where
 t:Addr
 lp:Addr
 e:PR
 ps:List (Addr×Addr)
 ds:List PD
structure R8(CP:WA)(H:Hp)(x:Ld):Prop where
 tu:H x.t=some (.tup [.str x.e.nm,.ref x.lp])
 ls:H x.lp=some (.lst (MD x.ps))
 pi:JL CP H x.ps x.ds
theorem R8.mono{CP:WA}{H G:Hp}{x:Ld}(s:WH H G)(h:R8 CP H x):R8 CP G x:=⟨s _ _ h.tu,s _ _ h.ls,h.pi.mono s⟩
theorem R8.but{CP a:WA}{H G:Hp}{x:Ld}(b:JS a H G)(h:R8 CP H x)(n1:x.t≠a)(n2:x.lp≠a)(n3:∀q∈x.ps,q.1≠a/\q.2≠a):R8 CP G x:=by
 refine⟨b _ _ h.tu n1,b _ _ h.ls n2,?_⟩;have:=h.pi
 revert n3 this
 generalize x.ps=ps;generalize x.ds=ds;intro n3 h
 induction h with
 |nil=>exact .nil
 |cons r _ ih=>exact .cons (r.but b (n3 _ Ym).1 (n3 _ Ym).2) (ih fun q c=>n3 q (Yl _ c))
theorem JL.mem{C:WA}{H:Hp}{ps:List (Addr×Addr)}{ds:List PD}(h:JL C H ps ds){q:Addr×Addr}(hq:q∈ps):∃d∈ds,Jw C H q.1 q.2 d:=by
 obtain⟨i,hi⟩:=Wf hq;obtain⟨d,hd,a⟩:=h.get hi;exact⟨d,Ya hd,a⟩
structure Qd(rs:List PR)(ns:List Str)(ds:List PD)(H:Hp)(xs:List Ld):Prop where
 at':∀i x,xs[i]?=some x->x.e∈rs/\ns[i%ns.length]?=some x.e.nm/\∃d,ds[i]?=some d/\x.ds=Ju x.e.r.ws [d]
 fr:∀x∈xs,H x.lp=none/\∀q∈x.ps,H q.2=none
 ap:xs.Pairwise fun x y=>∀a∈x.ps,∀b∈y.ps,a.2≠b.2
inductive Il(C CRo CP:WA)(vs:List V)(H:Hp)(Q:VK)(E:XK):Prop|mk (p db dc lc lq ln:WA) (U:Nl) (ps:List (Addr×Addr)) (ds:List PD) (ns:List Str) (_:vs=[.ref p,.ref lq,.ref ln]) (_:WN C CRo CP H p db dc lc U) (_:H lq=some (.lst (MD ps))) (_:JL CP H ps ds) (_:H ln=some (.lst (ns.map V.str))) (_:1 <=ns.length) (_:ns.length <=100) (_:(∀n∈ns,∃e∈U.rs,e.nm=n)) (_:(∀d∈ds,∀e∈U.rs,e.nm∈ns->JC e.r.ws [d])) (_:ps.length <=4001) (_:∀l xs G,H l=none->WH H G->G l=some (.lst (xs.map fun x=>V.ref x.t))->xs.length=ps.length->(∀x∈xs,R8 CP G x)->Qd U.rs ns ds H xs->Q (.ref l) G)
abbrev K4:Stmt:=MW (JX 44) 9
theorem By:JN ["self","pieces","names","loads","place","piece","name"] ["self","pieces","names"] (WF K4):=by walk_at"e"
theorem vV{f C CRo CP:WA}{fd:Wv}(F:JT K "loads_of" "Post.loads_of" K4 f fd)(L:My K C)(LR:Rh K CRo)(B:Bt mg)(B3:LF mg)(NY:JI P w K mg base "cut_over" 11 ["pieces","widths"] [] (Kn CP)):WQ P w K mg base Jr 12 f fd ["self","pieces","names"] (Il C CRo CP):=by
 refine F.ok By (fun vs H Q E h=>?_) (fun cdv A outer s H vs Q E hr h=>?_)
 .obtain⟨p,db,dc,lc,lq,ln,U,ps,ds,ns,rfl,_⟩:=h;rfl
 .obtain⟨p,db,dc,lc,lq,ln,U,ps,ds,ns,rfl,hU,hlq,hps,hln,m1,m2,hns,hfit,m3,q⟩:=h;refine⟨_,(WX (Nf 3 By (Np WK)) (WX (Dz YZ rfl (SX (K:=K) rfl rfl B3.enumerate (WR 1 WK)) (E8 (K:=K) (n:=2) rfl rfl (MK (Md 4 By) (MK (Md 5 By) RY))) (WX (Nf 6 By (T5 K (WG 2) (J0 (dI Na) (WG 4) (N3 (Mb (Mc (K:=K) rfl)) B.len (WR 2 WK))))) (Jg (Mn (Dh (K:=K) rfl YI YQ YR (Gr GB) (WG 3) (WW (hs:=Gk) (MO (WR 6 (Dc (Jx NY hr.m rfl (WW (hs:=Bl) (Np (WR 5 WK)) (TN (Nd K (NG hr (Nd K (WG 0)) (WG 6))) WK))) WK))) WK)))))) (Jg (JB (WG 3))))),?_⟩;refine Ja fun N hN=>?_
  walk_at"rd";refine⟨Yj _,fun l G0 hl s0 hG0=>hN _ _ ?_⟩;clear hN N;refine Ja fun N hN=>?_
  walk_at"rd";have hlq0:=s0 _ _ hlq;refine⟨⟨_,WJ.of hlq0⟩,?_⟩;obtain⟨Pv,ePv⟩:∃Pv:Nat->L2.St->Hp->Prop,Pv=fun i σ' G=>∃ (xs:List Ld) (v4 v5 v6:Option V),σ'=[some (.ref p),some (.ref lq),some (.ref ln),some (.ref l),v4,v5,v6]/\WH H G/\G l=some (.lst (xs.map fun x=>V.ref x.t))/\xs.length=i/\(∀x∈xs,R8 CP G x/\x.t≠l/\x.lp≠l/\∀q∈x.ps,q.1≠l/\q.2≠l)/\Qd U.rs ns ds H xs:=⟨_,rfl⟩
  refine Ss (xs:=MD ps) Pv (by rw[ePv];exact⟨[],none,none,none,rfl,s0,hG0,rfl,nM,⟨nofun,nM,.nil⟩⟩) ?_ ?_ ?_ <;> rw[ePv]
  .intro i σ' G _ Zq;obtain⟨xs,v4,v5,v6,rfl,sG,_⟩:=Zq;exact WJ.of (sG _ _ hlq)
  .rintro i x t0 σ' G G' j ⟨xs,v4,v5,v6,rfl,sG,hGl,aa,hxs,hL⟩ ht0 u hGt;rw[<-ePv];obtain⟨q0,hq0,rfl⟩:=Hu j;obtain⟨d0,hd0,hP0⟩:=hps.get hq0;walk_at"rd";have hln':=u _ _ (sG _ _ hln);have hi:i < ps.length:=by rw[<-Ea];exact(Y4.mp j).1
   obtain⟨nm,hnm⟩:∃nm,ns[i%ns.length]?=some nm:=⟨_,Y5 (VI _ (by omega))⟩;obtain⟨e,he,rfl⟩:=hns nm (Ya hnm);have sHG:=sG.trans u;refine⟨_,N9.of hGt,rfl,_,_,rfl,_,_,rfl,rfl,_,.inl (WJ.of hln'),_,rfl,by rw[Y1];omega,_,WJ.of hln',.str e.nm,?_,.inl ⟨rfl,_,WJ.of (u _ _ hGl)⟩,by decide,fun l1 G1 hl1 s1 hG1=>?_⟩
   .rw[Y1,show((i:Int)%(ns.length:Int))=((i%ns.length:Nat):Int) by omega];refine DY ?_;rw[Yf,hnm];rfl
   have s2:=sHG.trans s1;have hU1:=hU.mono s2;have hR:=hU1.rd e he;refine⟨_,EF L hU1,db,rfl,_,.inl ⟨_,.inr e.nm,.inl hU1.hb,rfl,by rw[GC];exact(RT (f:=(·.nm)) (g:=fun e:PR=>V.ref e.p) hU.nd he).symm⟩,_,Hq LR hR,?_⟩;refine⟨l1,e.lw,[q0],[d0],e.r.ws,rfl,hG1,.cons (hP0.mono s2) .nil,hR.hw,hfit d0 (Ya hd0) e he (Ya hnm),fun lp qs G2 s3 hG2 hq2 hfr=>⟨by decide,fun t2 G3 ht2 s4 hG3=>?_⟩⟩;have hne:e.r.ws≠[]:=fun z=>by have:=hR.ok.l1;rw[z]at this;simp at this
   obtain⟨hlp,hqs⟩:=hfr hne;have s24:=u.trans (s1.trans (s3.trans s4));have hGl3:=s24 _ _ hGl;have hGl1:G1 l=_:=s1 _ _ (u _ _ hGl);have hGl2:G2 l=_:=s3 _ _ hGl1;refine⟨_,hGl3,by rw[Y1,Yh];omega,fun G4 b4 hG4=>?_⟩;rw[ePv];have hlpl:lp≠l:=Ne.symm (J6 hGl1 hlp);have ht2l:t2≠l:=Ne.symm (J6 hGl2 ht2);have hqa:∀q∈qs,q.1≠l/\q.2≠l:=fun q hq=>by
    obtain⟨d,hd,hP⟩:=hq2.mem hq;obtain⟨dx,fs,hi⟩:=hP.ins;exact⟨WL hi hGl2 nofun,Ne.symm (J6 hGl1 (hqs q hq))⟩
   have new:R8 CP G3 ⟨t2,lp,e,qs,Ju e.r.ws [d0]⟩:=⟨hG3,s4 _ _ hG2,hq2.mono s4⟩;refine⟨xs++[⟨t2,lp,e,qs,Ju e.r.ws [d0]⟩],_,_,_,rfl,?_,?_,?_,fun x j=>?_,⟨fun k x hk=>?_,fun x j=>?_,?_⟩⟩
   .intro c o h;exact b4 c o (s24 c o (sG c o h)) (J6 h hl)
   .rw[hG4,Yd];rfl
   .rw[List.length_append,aa];rfl
   .rcases Yb.mp j with j|j
    .obtain⟨a1,a2,a3,a4⟩:=hxs x j;exact⟨(a1.mono s24).but b4 a2 a3 a4,a2,a3,a4⟩
    .rw[Y8.mp j];exact⟨new.but b4 ht2l hlpl hqa,ht2l,hlpl,hqa⟩
   .rw[XQ]at hk
    split at hk
    .exact hL.at' k x hk
    .rename_i hlt
     have hk0:k=i:=by
      rw[List.getElem?_singleton]at hk
      split at hk
      .omega
      .cases hk
     subst hk0;rw[aa,Vd]at hk;cases hk;exact⟨he,hnm,d0,hd0,rfl⟩
   .rcases Yb.mp j with j|j
    .exact hL.fr x j
    .rw[Y8.mp j];exact⟨s2.free hlp,fun q hq=>s2.free (hqs q hq)⟩
   .rw[Yo];refine⟨hL.ap,by simp,fun x j y hy a ha b hb=>?_⟩;rw[Y8.mp hy]at hb;obtain⟨d,hd,hP⟩:=(hxs x j).1.pi.mem ha;exact J6 (s1 _ _ (u _ _ hP.bd)) (hqs b hb)
  .intro σ' G Zq;obtain⟨xs,v4,v5,v6,rfl,sG,hGl,aa,hxs,hL⟩:=Zq;refine hN _ _ ?_;clear hN N;walk_at"rd";rw[Ea]at aa;exact q l xs G hl sG hGl aa (fun x j=>(hxs x j).1) hL
end
structure AR where
 nm:Str
 r:Dj
 n:Int
structure AP where
 rs:List AR
 cs:List (Int×PD)
def TH(rs:List PR):List AR:=rs.map fun e=>⟨e.nm,e.r,e.n⟩
def Mo(cs:List Th):List (Int×PD):=cs.map fun c=>(c.tm,c.d)
def MS(U:Nl):AP:=⟨TH U.rs,Mo U.cs⟩
def BI(nm:Str)(rs:List AR):List AR:=rs.map fun e=>if e.nm=nm then {e with n:=e.n+ 1} else e
def Dd(t:Int)(d:PD)(e:AR):List (Int×PD):=if e.n∈e.r.lo then [] else(Ju e.r.ws [d]).map fun x=>(t+ e.r.dl,x)
def TD(t:Int)(nm:Str)(d:PD)(A:AP):AP:=match A.rs.find? fun e=>decide (e.nm=nm) with
 |none=>A
 |some e=>⟨BI nm A.rs,A.cs++Dd t d e⟩
def Dx(t:Int)(ns:List Str):Nat->List PD->AP->AP
 |_,[],A=>A
 |i,d::ds,A=>Dx t ns (i+ 1) ds (TD t (ns.getD (i%ns.length) "") d A)
theorem Fo(t:Int)(ns:List Str)(d:PD):∀ (ds:List PD) (i:Nat) (A:AP),Dx t ns i (ds++[d]) A=TD t (ns.getD ((i+ ds.length)%ns.length) "") d (Dx t ns i ds A)
 |[],i,A=>rfl
 |x::ds,i,A=>by
  show Dx t ns (i+ 1) (ds++[d]) _=_;rw[Fo t ns d ds (i+ 1)];rw[show i+ 1+ ds.length=i+ (x::ds).length by rw[List.length_cons];omega];rfl
theorem j4(nm:Str)(rs:List PR):TH (bump nm rs)=BI nm (TH rs):=by
 unfold TH bump BI;rw[Yp,Yp];refine YO fun x _=>?_
 show(⟨(if x.nm=nm then {x with n:=x.n+ 1} else x).nm,(if x.nm=nm then {x with n:=x.n+ 1} else x).r,(if x.nm=nm then {x with n:=x.n+ 1} else x).n⟩:AR)=if x.nm=nm then {(⟨x.nm,x.r,x.n⟩:AR) with n:=x.n+ 1} else⟨x.nm,x.r,x.n⟩
 split <;> rfl
theorem SQ{rs:List PR}(nd:(rs.map (·.nm)).Nodup){e:PR}(he:e∈rs):(TH rs).find? (fun x=>decide (x.nm=e.nm))=some ⟨e.nm,e.r,e.n⟩:=by
 unfold TH
 induction rs with
 |nil=>exact nomatch he
 |cons x r ih=>
  rw[List.map_cons,XB];rcases Yu.mp he with rfl|z
  .simp
  .have a:¬x.nm=e.nm:=fun q=>(Xg.mp nd).1 (Yw.mpr ⟨e,z,q.symm⟩)
   rw[Ys a];exact ih (Xg.mp nd).2 z
theorem Zl{t:Int}{d:PD}{rs:List PR}{cs cs':List Th}{ps:List (Addr×Addr)}(nd:(rs.map (·.nm)).Nodup){e:PR}(he:e∈rs)(h:if e.n∈e.r.lo then cs'=[] else Ce (t+ e.r.dl) ps (Ju e.r.ws [d]) cs'):
  (⟨TH (bump e.nm rs),Mo (cs++cs')⟩:AP)=TD t e.nm d ⟨TH rs,Mo cs⟩:=by
 unfold TD;rw[SQ nd he,j4];show _=(⟨BI e.nm (TH rs),Mo cs++Dd t d ⟨e.nm,e.r,e.n⟩⟩:AP);unfold Mo;rw[Yd]
 congr 2
 unfold Dd;show _=if e.n∈e.r.lo then [] else _
 split at h
 .rename_i hm
  rw[Y9 hm,h];rfl
 .rename_i hm
  rw[Y3 hm,<-h.d,Yp];exact YO fun c a=>by rw[h.t c a];rfl
def Jt(a b:List PR):Prop:=a.map (fun e=>(e.nm,e.p,e.lw,e.ll,e.r))=b.map fun e=>(e.nm,e.p,e.lw,e.ll,e.r)
theorem Jt.bump{nm:Str}{a b:List PR}(h:Jt a b):Jt (bump nm a) b:=by
 unfold Jt at h ⊢;rw[<-h];unfold Mine.bump;rw[Yp];refine YO fun x _=>?_
 show(let y:=(if x.nm=nm then {x with n:=x.n+ 1} else x);(y.nm,y.p,y.lw,y.ll,y.r))=_
 split <;> rfl
theorem Jt.mem{a b:List PR}(h:Jt a b){x:PR}(hx:x∈b):∃y∈a,y.nm=x.nm/\y.p=x.p/\y.lw=x.lw/\y.ll=x.ll/\y.r=x.r:=by
 have:(x.nm,x.p,x.lw,x.ll,x.r)∈a.map fun e=>(e.nm,e.p,e.lw,e.ll,e.r):=by
  rw[h];exact Xb (f:=fun e:PR=>(e.nm,e.p,e.lw,e.ll,e.r)) hx
 obtain⟨y,c,e⟩:=Yw.mp this;simp only[Prod.mk.injEq]at e;exact⟨y,c,e⟩
theorem Jt.len{a b:List PR}(h:Jt a b):a.length=b.length:=by
 have:=YB List.length h;simpa using this
theorem HD{f:Str}{v x:V}:∀{fs:List (Str×V)},fs.lookup f=some x->(N0 f v fs).length=fs.length
 |[],h=>by cases h
 |(g,y)::r,h=>by
  show(if g=f then(g,v)::r else(g,y)::N0 f v r).length=_
  by_cases e:g=f
  .rw[Y9 e];rfl
  .rw[Y3 e,List.length_cons,List.length_cons];have hb:(f==g)=false:=XW.mpr (fun z=>e z.symm);rw[show List.lookup f ((g,y)::r)=(match f==g with|true=>some y|false=>List.lookup f r) from rfl,hb]at h;rw[HD h]
theorem OD{C p lw ll a:WA}{H G:Hp}{r:Dj}(b:JS a H G)(h:JK C H p lw ll r)(n:p≠a)(m:∀l,H a≠some (.lst l)):JK C G p lw ll r:=
 h.kp (fun o e=>b _ _ e n) (fun o e=>b _ _ e fun z=>m _ (z▸h.hw)) (fun o e=>b _ _ e fun z=>m _ (z▸h.hl))
theorem WN.setNow{C CR CP p db dc lc dx:WA}{H G:Hp}{U:Nl}{fs:List (Str×V)}{t:Int}(h:WN C CR CP H p db dc lc U)(hp:H p=some (.ins C dx fs))(b:JS p H G)(e:G p=some (.ins C dx (N0 "now" (.int t) fs)))(nc:C≠CR)(np:C≠CP):WN C CR CP G p db dc lc {U with now:=t}:=by
 obtain⟨ab,fs',d,hl,hf⟩:=h.ex;rw[hp]at d;cases d;have g:fs.lookup ("now":Str)=some (.int U.now):=by rw[hf];rfl
 refine⟨⟨dx,_,e,by rw[HD g];exact hl,fun f=>?_⟩,b _ _ h.hb (WL h.hb hp nofun),b _ _ h.hc (WL h.hc hp nofun),b _ _ h.hl (WL h.hl hp nofun),h.ne,fun x j=>?_,fun c hc=>?_,h.nd⟩
 .by_cases hfn:f="now"
  .subst hfn;rw[Dn];rfl
  .rw[JA hfn,hf f];have r:(f==("now":Str))=false:=by simpa using hfn
   simp only[EX,List.lookup,r]
 .have i:=h.rd x j;obtain⟨w,s,n,_⟩:=i.ex;exact OD b i (WL n hp (by intro z;injection z with z;exact nc z.symm)) (fun l z=>by rw[hp]at z;cases z)
 .have a:=h.th c hc;obtain⟨aa,u,q⟩:=a.pi.ins;exact a.kp (fun o z=>b _ _ z (WL a.tu hp nofun)) (fun o z=>b _ _ z (WL q hp (by intro z;injection z with z;exact np z.symm))) (fun o z=>b _ _ z (WL a.pi.bd hp nofun))
theorem Kq(d:PD)(h:1 <=d.ns.length):NC d 0 d.ns.length [d]:=⟨d.ns.length,by omega,Y6 _,(PD.part_all d).symm,.inl rfl,rfl⟩
theorem BO{d:PD}{ws:List Nat}(h:1 <=d.ns.length)(hw:GV ws):(Ju ws [d]).length <=d.ns.length:=by
 have:=(NC.tot (Y6 _) (FK (ws:=ws) (fun w a=>(hw w a).1) (Kq d h))).2;omega
theorem KP{ds:List PD}{i:Nat}{d:PD}(h:ds[i]?=some d):tot (ds.take (i+ 1))=tot (ds.take i)+ d.ns.length:=by
 unfold tot;rw[YD,h,YH,Yd,List.sum_append];simp
theorem L0(ds:List PD)(i:Nat):tot (ds.take i) <=tot ds:=by
 have:tot ds=tot (ds.take i)+ tot (ds.drop i):=by
  unfold tot;rw[<-List.sum_append,<-Yd,YG]
 omega
theorem Hs{w:Nat}{d:PD}(h8:8 <=w)(h1:1 <=d.ns.length):tot (J1 w d 0)=d.ns.length:=by
 have:=(NC.tot (Y6 _) (BV (d:=d) h8 _ 0 (Y6 _) (by omega) rfl)).1;omega
theorem JL.kp{C:WA}{H G:Hp}{ps:List (Addr×Addr)}{ds:List PD}(h:JL C H ps ds)(k:∀q∈ps,At H G q.1/\At H G q.2):JL C G ps ds:=by
 induction h with
 |nil=>exact .nil
 |cons r _ ih=>exact .cons (r.kp (k _ Ym).1 (k _ Ym).2) (ih fun q a=>k q (Yl _ a))
structure tZ(H:Hp)(t:Int)(ns:List Str)(ds:List PD)(U U':Nl):Prop where
 now:U'.now=t
 rs:Jt U'.rs U.rs
 ab:MS U'=Dx t ns 0 ds (MS U)
 cs:∃cs',U'.cs=U.cs++cs'/\(∀c∈cs',H c.b=none)/\∀c∈cs',∀c'∈cs',c.b=c'.b->c.tm=c'.tm
section
variable{P:Wt}{w:Wx}{K:Wy}{mg:Wp}{base:WD}
inductive Kc(C CRo CP CL:WA)(vs:List V)(H:Hp)(Q:VK)(E:XK):Prop|mk (p db dc lc q b ln:WA) (U:Nl) (t:Int) (d:LD) (wd:Nat) (ns:List Str) (_:vs=[.ref p,.int t,.ref q,.int wd,.ref ln]) (_:WN C CRo CP H p db dc lc U) (_:U.now <=t) (_:Tj CL H q b d) (_:8 <=wd) (_:wd <=5000) (_:(d.k=true->d.ns.length <=wd)) (_:H ln=some (.lst (ns.map V.str))) (_:1 <=ns.length) (_:ns.length <=100) (_:(∀n∈ns,Js n/\∃e∈U.rs,e.nm=n)) (_:(∀d'∈J1 wd d.whole 0,∀e∈U.rs,e.nm∈ns->JC e.r.ws [d'])) (_:(∀c∈U.cs,c.b≠lc)) (_:(∀x∈U.rs,x.lw≠lc/\x.ll≠lc)) (_:ln≠lc) (_:U.rs.length <=100) (_:U.cs.length+ d.ns.length <=5000) (_:∀U' G,(∀c o,H c=some o->c≠lc->c≠dc->c≠p->G c=some o)->WN C CRo CP G p db dc lc U'->tZ H t ns (J1 wd d.whole 0) U U'->Q (.int (J1 wd d.whole 0).length) G)
abbrev Iv:Stmt:=MW (JX 44) 3
theorem Cs:JN ["self","time","letter","width","names","loads","name","parts"] ["self","time","letter","width","names"] (WF Iv):=by walk_at"e"
theorem ZP{f C CRo CP CL:WA}{fd:Wv}(F:JT K "send" "Post.send" Iv f fd)(L:My K C)(LR:Rh K CRo)(LL:Ri K CL)(B:Bt mg)(gC_Letter:mg "Letter"=some (.ref CL))(ic_Letter:AS K CL)(ncr:C≠CRo)(ncp:C≠CP)(Gx:JI P w K mg base "cut" 10 ["letter","width"] [] (Hf CL CP))
  (Jl:Tc P w K mg base C "check_time" 3 ["self","time"] [] (BX C CRo CP)) (JR:Tc P w K mg base C "are_built" 2 ["self","names"] [] (F2 C CRo CP)) (JY:Tc P w K mg base C "loads_of" 12 ["self","pieces","names"] [] (Il C CRo CP)) (JF:Tc P w K mg base C "put_on_road" 1 ["self","name","parts"] [] (HN C CRo CP)):WQ P w K mg base Jr 13 f fd ["self","time","letter","width","names"] (Kc C CRo CP CL):=by
 have cl_Letter:=LL.cl;refine F.ok Cs (fun vs H Q E h=>?_) (fun cdv A outer s H vs Q E hr h=>?_)
 .obtain⟨p,db,dc,lc,q,b,ln,U,t,d,wd,ns,rfl,_⟩:=h;rfl
 .obtain⟨p,db,dc,lc,q,b,ln,U,t,d,wd,ns,rfl,hU,ht,hL,w8,w5,hk,hln,m1,m2,hns,hfit,ncs,nrs,nln,n1,n2,qq⟩:=h;refine⟨_,(WX (Mn (DE (WG 0) Jl hr.m (WR 1 WK))) (WX (Ny (Tv (TK (N3 (Pz (K:=K) rfl cl_Letter ic_Letter) B.isinstance (WR 2 (WW (hs:=Ni) (IL (v:=.ref CL) rfl gC_Letter rfl) WK))))) DV NB) (WX (Ny (Tv (TK (DE (WG 0) JR hr.m (WR 4 WK)))) DV NB) (WX (Nf 5 Cs (DE (WG 0) JY hr.m (Dc (Jx Gx hr.m rfl (WR 2 (WR 3 WK))) (WR 4 WK)))) (WX (GN (K:=K) rfl (WG 0) (WG 1) rfl) (WX (Dz YZ rfl (Tw (K:=K) rfl (WG 5)) (E8 (K:=K) (n:=2) rfl rfl (MK (Md 6 Cs) (MK (Md 7 Cs) RY))) (Jg (Mn (DE (WG 0) JF hr.m (WR 6 (WR 7 WK)))))) (Jg (JB (N3 (Mb (Mc (K:=K) rfl)) B.len (WR 5 WK)))))))))),?_⟩;refine Ja fun N g=>?_
  walk_at"rd";refine⟨hU.mt rfl,p,db,dc,lc,U,t,rfl,hU,ht,g _ _ ?_⟩;clear g N;refine Ja fun N g=>?_
  walk_at"rd";obtain⟨dxq,fsq,hq⟩:=hL.ins;refine⟨dxq,fsq,hq,g _ _ ?_⟩;clear g N;refine Ja fun N g=>?_
  walk_at"rd";refine⟨hU.mt rfl,p,db,dc,lc,ln,U,ns,rfl,hU,hln,m1,m2,fun n hn=>⟨(hns n hn).1,by obtain⟨e,he,rfl⟩:=(hns n hn).2;exact Xb he⟩,fun G0 s0=>?_⟩;refine⟨_,rfl,?_⟩;rw[Y3 (by simp)];refine g _ _ ?_;clear g N;refine Ja fun N g=>?_
  walk_at"rd";have hU0:=hU.mono s0;refine⟨hU0.mt rfl,q,b,d,wd,rfl,hL.mono s0,w8,w5,hk,fun l1 ps G1 hl1 s1 hG1 hps=>?_⟩;have s01:=s0.trans s1;have hU1:=hU.mono s01;have e1:ps.length=(J1 wd d.whole 0).length:=hps.len;have lens:=CH wd d.whole 0;have hl2:=hL.ok.l2;refine⟨p,db,dc,lc,l1,ln,U,ps,J1 wd d.whole 0,ns,rfl,hU1,hG1,hps.pieL,s01 _ _ hln,m1,m2,fun n hn=>(hns n hn).2,hfit,?_,fun l2 xs G2 hl2' s2 ae hxl hxs hLd=>g _ _ ?_⟩
  .rw[e1];have:d.whole.ns.length=d.ns.length:=rfl;omega
  clear g N;have s02:=s01.trans s2;have aa:=hU.mono s02;obtain⟨dx,fs,ac,hl3,hf⟩:=aa.ex;refine Ja fun N g=>?_
  walk_at"rd";refine⟨C,dx,fs,ac,L.cl,L.now,by omega,fun G3 b3 hG3=>g _ _ ?_⟩;clear g N;have hU3:=aa.setNow ac b3 hG3 ncr ncp;refine Ja fun N g=>?_
  walk_at"rd";have l2l:l2≠lc:=Ne.symm (J6 hU1.hl hl2');refine⟨⟨_,WJ.of (b3 _ _ ae (WL ae ac nofun))⟩,?_⟩;obtain⟨ab,edsv⟩:∃ab,ab=J1 wd d.whole 0:=⟨_,rfl⟩;obtain⟨Pv,ePv⟩:∃Pv:Nat->L2.St->Hp->Prop,Pv=fun i σ' G=>∃ (Ui:Nl) (v6 v7:Option V) (l:List Th),σ'=[some (.ref p),some (.int t),some (.ref q),some (.int wd),some (.ref ln),some (.ref l2),v6,v7]/\(∀c o,G2 c=some o->c≠lc->c≠dc->c≠p->G c=some o)/\WN C CRo CP G p db dc lc Ui/\Ui.now=t/\Jt Ui.rs U.rs/\MS Ui=Dx t ns 0 (ab.take i) (MS U)/\Ui.cs=U.cs++l/\(∀c∈l,∃j,j < i/\∃x,xs[j]?=some x/\(c.q,c.b)∈x.ps)/\(∀c∈l,∀c'∈l,c.b=c'.b->c.tm=c'.tm)/\l.length <=tot (ab.take i):=⟨_,rfl⟩
  refine Rg (xs:=xs.map fun x=>V.ref x.t) Pv (by rw[ePv];exact⟨{U with now:=t},none,none,[],rfl,fun c o h _ _ n=>b3 c o h n,hU3,rfl,rfl,rfl,by rw[List.append_nil],nM,nM,Yj _⟩) ?_ ?_ ?_ <;> rw[ePv]
  .intro i σ' G _ Zq;obtain⟨Ui,v6,v7,l,rfl,kG,_⟩:=Zq;exact WJ.of (kG _ _ ae l2l (WL ae aa.hc nofun) (WL ae ac nofun))
  .intro i x σ' G hx Zq;obtain⟨Ui,v6,v7,l,rfl,kG,hUi,hnow,hrs,hab,hcs,u,htm,hlen⟩:=Zq;rw[<-ePv];rw[Yf]at hx;obtain⟨x,hxi,rfl⟩:=Yy.mp hx;have hx':=Ya hxi;have hX:=hxs x hx';have ex:=kG _ _ (hX.tu) (WL hX.tu aa.hl nofun) (WL hX.tu aa.hc nofun) (WL hX.tu ac nofun);walk_at"rd";obtain⟨hxe,hxn,d',hd',hxd⟩:=hLd.at' i x hxi;obtain⟨hf1,hf2⟩:=hLd.fr x hx';obtain⟨y,hy,y1,y2,y3,y4,y5⟩:=hrs.mem hxe;have lpc:x.lp≠lc:=Ne.symm (J6 hU1.hl hf1);have hlp:=kG _ _ hX.ls lpc (WL hX.ls aa.hc nofun) (WL hX.ls ac nofun);have hpi:JL CP G x.ps x.ds:=hX.pi.kp fun a ha=>by
    obtain⟨dd,hdd,hP⟩:=hX.pi.mem ha;obtain⟨dxa,fsa,hia⟩:=hP.ins;exact⟨fun o h=>kG _ _ h (WL hia aa.hl nofun) (WL hia aa.hc nofun) (WL hia ac (by intro z;injection z with z;exact ncp z.symm)),fun o h=>kG _ _ h (Ne.symm (J6 hU1.hl (hf2 a ha))) (WL hP.bd aa.hc nofun) (WL hP.bd ac nofun)⟩
   have hd1:1 <=d'.ns.length:=by
    obtain⟨k,hk⟩:=Wf (Ya hd');have:k < ps.length:=by rw[e1];exact(Y4.mp hk).1
    obtain⟨dd,h1,h2⟩:=hps.pieL.get (Y5 this);rw[hk]at h1;cases h1;exact h2.ok.l1
   have hfew:x.ds.length <=d'.ns.length:=by rw[hxd];exact BO hd1 (hU.rd _ hxe).ok.ok
   have htk:=KP (ds:=ab) (i:=i) (by rw[edsv];exact hd');have htl:=L0 ab (i+ 1);have htt:tot ab=d.ns.length:=by rw[edsv];exact Hs (d:=d.whole) w8 hL.ok.l1
   refine⟨_,N9.of ex,rfl,_,_,rfl,_,_,rfl,rfl,hUi.mt rfl,?_⟩;refine⟨p,db,dc,lc,x.lp,Ui,y,x.ps,x.ds,by rw[y1],hUi,hy,hlp,hpi,lpc,fun a ha=>Ne.symm (J6 hU1.hl (hf2 a ha)),fun c hc=>?_,fun z hz=>?_,by rw[hrs.len];exact n1,?_,?_,fun cs2 G4 k4 h4 hU4=>?_⟩
   .rw[hcs]at hc;rcases Yb.mp hc with hc|hc
    .exact ncs c hc
    .obtain⟨j,_,x2,hx2,hb2⟩:=u c hc;exact Ne.symm (J6 hU1.hl ((hLd.fr x2 (Ya hx2)).2 _ hb2))
   .obtain⟨z',hz',_,_,z3,z4,_⟩:=Jt.mem hrs.symm hz;rw[<-z3,<-z4];exact nrs z' hz'
   .rw[hcs,List.length_append];omega
   .rw[hX.pi.len];have:=hL.ok.l2;omega
   .rw[ePv];rw[hnow,hxd,<-y5]at h4;have h2q:∀c∈cs2,(c.q,c.b)∈x.ps/\c.tm=t+ y.r.dl:=fun c hc=>by
     split at h4
     .rw[h4]at hc;cases hc
     .exact⟨by rw[<-h4.q];exact Xb (f:=fun c:Th=>(c.q,c.b)) hc,h4.t c hc⟩
    have h2l:cs2.length <=d'.ns.length:=by
     split at h4
     .rw[h4];exact Yj _
     .have:=YB List.length h4.q;rw[Y1,hX.pi.len]at this;omega
    have hidx:i < ab.length:=by rw[edsv];exact(Y4.mp hd').1
    refine⟨_,_,_,l++cs2,rfl,fun c o h a1 a2 a3=>k4 c o (kG c o h a1 a2 a3) a1 a2,hU4,hnow,hrs.bump,?_,by rw[hcs,List.append_assoc],fun c hc=>?_,?_,?_⟩
    .show(⟨TH (bump y.nm Ui.rs),Mo (Ui.cs++cs2)⟩:AP)=_;rw[Zl hUi.nd hy h4,YD,show ab[i]?=some d' by rw[edsv];exact hd',YH,Fo,<-hab,YC,show 0+ min i ab.length=i by omega,y1]
     congr 1
     rw[YJ,hxn];rfl
    .rcases Yb.mp hc with hc|hc
     .obtain⟨j,h1,h2⟩:=u c hc;exact⟨j,by omega,h2⟩
     .exact⟨i,by omega,x,hxi,(h2q c hc).1⟩
    .have cross:∀c∈l,∀c'∈cs2,c.b≠c'.b:=fun c hc c' ad=>by
      obtain⟨j,h1,x2,hx2,hb2⟩:=u c hc;obtain⟨j1,e3⟩:=Y4.mp hx2;obtain⟨i1,e4⟩:=Y4.mp hxi;have:=YY.mp hLd.ap j i j1 i1 h1;rw[e3,e4]at this;exact this _ hb2 _ (h2q c' ad).1
     intro c hc c' ad e;rcases Yb.mp hc with hc|hc <;> rcases Yb.mp ad with ad|ad
     .exact htm c hc c' ad e
     .exact absurd e (cross c hc c' ad)
     .exact absurd e.symm (cross c' ad c hc)
     .rw[(h2q c hc).2,(h2q c' ad).2]
    .rw[List.length_append];omega
  .intro σ' G Zq;obtain⟨Ui,v6,v7,l,rfl,kG,hUi,hnow,hrs,hab,hcs,u,htm,hlen⟩:=Zq;refine g _ _ ?_;clear g N;walk_at"rd";refine⟨_,.inl (WJ.of (kG _ _ ae l2l (WL ae aa.hc nofun) (WL ae ac nofun))),?_⟩;rw[Y1]at hab u ⊢;rw[hxl,e1];refine qq Ui G (fun c o h a1 a2 a3=>kG c o (s02 _ _ h) a1 a2 a3) hUi ⟨hnow,hrs,?_,l,hcs,fun c hc=>?_,htm⟩
   .rw[hab,hxl,e1,<-edsv,YE]
   .obtain⟨j,_,x2,hx2,hb2⟩:=u c hc;exact s01.free ((hLd.fr x2 (Ya hx2)).2 _ hb2)
end
structure Rt(cs ms:List Th):Prop where
 pm:ms.Perm cs
 so:ms.Pairwise fun a b=>a.tm <=b.tm
 eq:∀v,ms.filter (fun c=>decide (c.tm=v))=cs.filter fun c=>decide (c.tm=v)
theorem KL{α:Type}(cs:List α):∀k,(List.range k).filterMap (fun i=>cs[i]?)=cs.take k
 |0=>rfl
 |k+ 1=>by
  rw[List.range_succ,List.filterMap_append,KL cs k,YD]
  congr 1
theorem SS{a b:List Nat}(h:a.Perm b)(ha:a.Pairwise (· < ·))(hb:b.Pairwise (· < ·)):a=b:=
 h.eq_of_pairwise (fun x y _ _ h1 h2=>absurd h1 (by omega)) ha hb
theorem mE{cs:List Th}{r:List Nat}(pm:r.Perm (List.range cs.length))(sr:r.Pairwise (Pc Eo fun i=>(cs.map (·.tm)).getD i (0:Int))):∃ms,Rt cs ms/\(r.map fun i=>(Nc cs).getD i .non)=Nc ms:=by
 have key:∀i c,cs[i]?=some c->(cs.map (·.tm)).getD i (0:Int)=c.tm:=fun i c h=>by
  rw[YJ,Yf,h];rfl
 have f:∀i∈r,i < cs.length:=fun i hi=>Vl.mp (pm.mem_iff.mp hi)
 refine⟨r.filterMap fun i=>cs[i]?,⟨?_,?_,fun v=>?_⟩,?_⟩
 .have h:=pm.filterMap (fun i=>cs[i]?);rw[KL,YE]at h;exact h
 .refine VW _ (fun i j d a o b n=>?_) sr;have h:=d.le;have h:decide (((cs.map (·.tm)).getD j (0:Int):Int) < (cs.map (·.tm)).getD i (0:Int))=false:=h;rw[key i a o,key j b n]at h;have:=Ul h;omega
 .have push:∀s:List Nat,(s.filterMap fun i=>cs[i]?).filter (fun c=>decide (c.tm=v))=(s.filter fun i=>decide (((cs.map (·.tm)).getD i (0:Int):Int)=v) && decide (i < cs.length)).filterMap fun i=>cs[i]?:=fun s=>by
   induction s with
   |nil=>rfl
   |cons i s ih=>
    cases e:cs[i]? with
    |none=>
     have:¬i < cs.length:=fun z=>by rw[Y5 z]at e;cases e
     rw[XC,e,UC,Ys this,W4,Y3 (by simp)];exact ih
    |some c=>
     have hi:i < cs.length:=(Y4.mp e).1;rw[XC,e,UC,UC,key i c e,Yq hi,Bool.and_true,ih]
     by_cases z:c.tm=v
     .rw[Yq z,Y9 rfl,Y9 rfl,XC,e]
     .rw[Ys z,Y3 (by simp),Y3 (by simp)]
  have p:=push r;have g:=push (List.range cs.length);rw[KL,YE]at g;rw[p,g]
  congr 1
  refine SS (pm.filter _) ?_ (UZ.filter _);rw[List.pairwise_filter];refine sr.imp fun {i j} d h1 h2=>?_
  rw[YN,Yt,Yt]at h1 h2;unfold Pc at d
  split at d
  .assumption
  .have h:decide (((cs.map (·.tm)).getD i (0:Int):Int) < (cs.map (·.tm)).getD j (0:Int))=true:=d;rw[h1.1,h2.1]at h;simp at h
 .clear pm sr
  induction r with
  |nil=>rfl
  |cons i r ih=>
   have hi:=f i Ym;rw[List.map_cons,ih fun j l=>f j (Yl _ l),XC,Y5 hi];show _::_=V.ref _::_
   congr 1
   unfold Nc;rw[YJ,Yf,Y5 hi];rfl
section
variable{P:Wt}{w:Wx}{K:Wy}{mg:Wp}{base:WD}
abbrev MH:Str:=(("Post.fetch":Str)++(".<locals>.":Str))++("<lambda>":Str)
theorem RJ{H:Hp}{T a:WA}{q:Str}{o:HO}(t:NP H T q)(e:H a=some o)(h:∀ps,o≠ .tbl ps):a≠T:=fun z=>by
 subst z;obtain⟨ps,h',_⟩:=t.ex;rw[e]at h';cases h';exact h _ rfl
def M6(t:Int)(cs:List Th):List Th:=cs.filter fun c=>decide (c.tm <=t)
def Ji(t:Int)(cs:List Th):List Th:=cs.filter fun c=>decide (c.tm > t)
theorem WN.setComing{C CR CP p db dc lc l2 dx:WA}{H G:Hp}{U:Nl}{fs:List (Str×V)}{cs':List Th}(h:WN C CR CP H p db dc lc U)(hp:H p=some (.ins C dx fs))(b:JS p H G)(e:G p=some (.ins C dx (N0 "coming" (.ref l2) fs)))(nc:C≠CR)(np:C≠CP)(hl2:H l2=some (.lst (Nc cs')))(sub:∀c∈cs',c∈U.cs):WN C CR CP G p db dc l2 {U with cs:=cs'}:=by
 obtain⟨ab,fs',d,r,hf⟩:=h.ex;rw[hp]at d;cases d;have g:fs.lookup ("coming":Str)=some (.ref lc):=by rw[hf];rfl
 refine⟨⟨dx,_,e,by rw[HD g];exact r,fun f=>?_⟩,b _ _ h.hb (WL h.hb hp nofun),b _ _ h.hc (WL h.hc hp nofun),b _ _ hl2 (WL hl2 hp nofun),h.ne,fun x j=>?_,fun c hc=>?_,h.nd⟩
 .by_cases hfn:f="coming"
  .subst hfn;rw[Dn];rfl
  .rw[JA hfn,hf f];have s:(f==("coming":Str))=false:=by simpa using hfn
   simp only[EX,List.lookup,s]
 .have i:=h.rd x j;obtain⟨w,t,n,_⟩:=i.ex;exact OD b i (WL n hp (by intro z;injection z with z;exact nc z.symm)) (fun l z=>by rw[hp]at z;cases z)
 .have a:=h.th c (sub c hc);obtain⟨aa,u,q⟩:=a.pi.ins;exact a.kp (fun o z=>b _ _ z (WL a.tu hp nofun)) (fun o z=>b _ _ z (WL q hp (by intro z;injection z with z;exact np z.symm))) (fun o z=>b _ _ z (WL a.pi.bd hp nofun))
theorem WN.butT{C CR CP p db dc lc:WA}{H G:Hp}{U:Nl}(h:WN C CR CP H p db dc lc U)(k:∀c o,H c=some o->(∀ps,o≠ .tbl ps)->G c=some o):WN C CR CP G p db dc lc U:=by
 obtain⟨dx,fs,e,r⟩:=h.ex;refine⟨⟨dx,fs,k _ _ e nofun,r⟩,k _ _ h.hb nofun,k _ _ h.hc nofun,k _ _ h.hl nofun,h.ne,fun x i=>?_,fun c hc=>?_,h.nd⟩
 .have b:=h.rd x i;obtain⟨f,fs',d,g⟩:=b.ex;exact⟨⟨f,fs',k _ _ d nofun,g⟩,k _ _ b.hw nofun,k _ _ b.hl nofun,b.ok⟩
 .have a:=h.th c hc;obtain⟨f,fs',d⟩:=a.pi.ins;exact a.kp (fun o z=>by rw[a.tu]at z;cases z;exact k _ _ a.tu nofun) (fun o z=>by rw[d]at z;cases z;exact k _ _ d nofun) (fun o z=>by rw[a.pi.bd]at z;cases z;exact k _ _ a.pi.bd nofun)
inductive Cy(C CRo CP T:WA)(vs:List V)(H:Hp)(Q:VK)(E:XK):Prop|mk (p db dc lc:WA) (U:Nl) (t:Int) (_:vs=[.ref p,.int t]) (_:WN C CRo CP H p db dc lc U) (_:U.now <=t) (_:U.cs.length <=5000) (_:NP H T MH) (_:∀l lc' ms G,H l=none->H lc'=none->l≠lc'->(∀c o,H c=some o->c≠p->c≠T->G c=some o)->NP G T MH->Rt (M6 t U.cs) ms->G l=some (.lst (Nc ms))->WN C CRo CP G p db dc lc' {U with now:=t,cs:=Ji t U.cs}->Q (.ref l) G)
abbrev Ed:Stmt:=MW (JX 44) 4
theorem P0:JN ["self","time","arrived"] ["self","time"] (WF Ed):=by walk_at"e"
theorem xH{f C CRo CP c0 T:WA}{fd:Wv}(F:Dm K "fetch" "Post.fetch" Ed f fd (.ref c0))(L:My K C)(B2:E3 mg)(LC:Gv mg base c0 T)(ncr:C≠CRo)(ncp:C≠CP)(Jl:Tc P w K mg base C "check_time" 3 ["self","time"] [] (BX C CRo CP)):WQ P w K mg base Jr 9 f fd ["self","time"] (Cy C CRo CP T):=by
 refine F.ok P0 (fun vs H Q E h=>?_) (fun A outer s H vs Q E hr h=>?_)
 .obtain⟨p,db,dc,lc,U,t,rfl,_⟩:=h;rfl
 .obtain⟨p,db,dc,lc,U,t,rfl,hU,ht,hn,tb,q⟩:=h;refine⟨_,(WX (Mn (DE (WG 0) Jl hr.m (WR 1 WK))) (WX (GN (K:=K) rfl (WG 0) (WG 1) rfl) (WX (Cq (i:=2) (N':=["one","time"]) (caps:=[none,some 1]) (Tf (sc:=WF Ed) (N:=["self","time","arrived"]) rfl rfl (by decide +kernel)) rfl (P0).nd rfl (Or.inl rfl) (Tw (K:=K) rfl (Nd K (WG 0))) (fun _ _ _ _ _=>(T3 (i:=0) (T9 (N:=["one","time"]) rfl (by decide +kernel)) rfl (Or.inl rfl))) (fun _ _ _ _ _=>(Rp (ND (Jz Gz) (DU K (WG 0) WM) (WG 1)))) (fun _ _ _ _ _=>(WG 0)) rfl) (WX (GN (K:=K) rfl (WG 0) (TU (N':=["one","time"]) (caps:=[none,some 1]) (Tf (sc:=WF Ed) (N:=["self","time","arrived"]) rfl rfl (by decide +kernel)) rfl (Tw (K:=K) rfl (Nd K (WG 0))) (fun _ _ _ _ _=>(T3 (i:=0) (T9 (N:=["one","time"]) rfl (by decide +kernel)) rfl (Or.inl rfl))) (fun _ _ _ _ _=>(Rp (ND (Jz Rs) (DU K (WG 0) WM) (WG 1)))) (fun _ _ _ _ _=>(WG 0))) rfl) (Jg (JB (ZC (k:=1) (q:=MH) (y:="one") (N':=[]) (caps:=[]) (K:=K) rfl rfl B2.sorted (by rfl) (WG 2) LC rfl rfl (yR (sc:=WF Ed) (N:=["self","time","arrived"]) rfl rfl (by decide +kernel)) rfl (fun _ _ _ _ _=>rfl) (fun f c' cl A outer s H E hr=>(DU K (WG 0) WM)) (fun _=>rfl) hr.m))))))),?_⟩;obtain⟨dx,fs,hp,hl,hf⟩:=hU.ex;refine Ja fun N d=>?_
  walk_at"rd";refine⟨hU.mt rfl,p,db,dc,lc,U,t,rfl,hU,ht,d _ _ ?_⟩;clear d N;refine Ja fun N d=>?_
  walk_at"rd";refine⟨C,dx,fs,hp,L.cl,L.now,by omega,fun G1 b1 e1=>d _ _ ?_⟩;clear d N;have ab:=hU.setNow hp b1 e1 ncr ncp;have tb1:NP G1 T MH:=tb.of fun a o h k=>b1 a o h fun z=>by rw[z,hp]at h;cases h;rcases k with⟨_,k⟩|⟨_,k⟩ <;> cases k
  refine Ja fun N d=>?_
  walk_at"rd";refine⟨_,BQ L ab,lc,rfl,⟨_,WJ.of ab.hl⟩,?_⟩;obtain⟨Pv,ad⟩:∃Pv:Nat->List V->L2.St->Hp->Prop,Pv=fun i ys σ' G=>G=G1/\ys=Nc (M6 t (U.cs.take i))/\∃v,σ'=[v,some (.int t)]:=⟨_,rfl⟩
  refine MY (xs:=Nc U.cs) Pv (by rw[ad];exact⟨rfl,rfl,none,rfl⟩) ?_ (Nm (by rw[show(Nc U.cs).length=U.cs.length from Y1 ..];omega)) ?_ ?_ <;> rw[ad]
  .rintro i ys σ' G ⟨rfl,rfl,_⟩ _;refine⟨WJ.of ab.hl,?_⟩;have h1:=Xu (fun c:Th=>decide (c.tm <=t)) (U.cs.take i);rw[YC]at h1;rw[show(Nc (M6 t (U.cs.take i))).length=(M6 t (U.cs.take i)).length from Y1 ..];unfold M6;omega
  .intro i y ys σ' G hy Zq;obtain⟨rfl,rfl,v,rfl⟩:=Zq;rw[<-ad];unfold Nc at hy;rw[Yf]at hy;obtain⟨c,g,rfl⟩:=Yy.mp hy;walk_at"rd";refine⟨_,N9.of (ab.th c (Ya g)).tu,_,rfl,_,rfl,?_⟩;have e0:M6 t (U.cs.take (i+ 1))=M6 t (U.cs.take i)++if c.tm <=t then [c] else []:=by
    unfold M6;rw[YD,g,YH,U1]
    congr 1
    by_cases z:c.tm <=t
    .rw[Y9 z];simp[z]
    .rw[Y3 z];simp[z]
   by_cases z:c.tm <=t
   .rw[Y9 (by rw[Yq z]),ad];refine⟨rfl,?_,_,rfl⟩;rw[e0,Y9 z];unfold Nc;rw[Yd];rfl
   .rw[Y3 (by rw[Ys z];simp),ad];refine⟨rfl,?_,_,rfl⟩;rw[e0,Y3 z,List.append_nil]
  rintro ys σ' G ⟨rfl,rfl,_⟩ l1 G2 hl1 s2 hG2;rw[show(Nc U.cs).length=U.cs.length from Y1 ..,YE]at hG2;refine d _ _ ?_;clear d N;have aa:=ab.mono s2;refine Ja fun N d=>?_
  walk_at"rd";refine⟨_,BQ L aa,lc,rfl,⟨_,WJ.of aa.hl⟩,?_⟩;obtain⟨Pw,ac⟩:∃Pv:Nat->List V->L2.St->Hp->Prop,Pv=fun i ys σ' G=>G=G2/\ys=Nc (Ji t (U.cs.take i))/\∃v,σ'=[v,some (.int t)]:=⟨_,rfl⟩
  refine MY (xs:=Nc U.cs) Pw (by rw[ac];exact⟨rfl,rfl,none,rfl⟩) ?_ (Nm (by rw[show(Nc U.cs).length=U.cs.length from Y1 ..];omega)) ?_ ?_ <;> rw[ac]
  .rintro i ys σ' G ⟨rfl,rfl,_⟩ _;refine⟨WJ.of aa.hl,?_⟩;have h1:=Xu (fun c:Th=>decide (c.tm > t)) (U.cs.take i);rw[YC]at h1;rw[show(Nc (Ji t (U.cs.take i))).length=(Ji t (U.cs.take i)).length from Y1 ..];unfold Ji;omega
  .intro i y ys σ' G hy Zq;obtain⟨rfl,rfl,v,rfl⟩:=Zq;rw[<-ac];unfold Nc at hy;rw[Yf]at hy;obtain⟨c,g,rfl⟩:=Yy.mp hy;walk_at"rd";refine⟨_,N9.of (aa.th c (Ya g)).tu,_,rfl,_,rfl,?_⟩;have e0:Ji t (U.cs.take (i+ 1))=Ji t (U.cs.take i)++if c.tm > t then [c] else []:=by
    unfold Ji;rw[YD,g,YH,U1]
    congr 1
    by_cases z:c.tm > t
    .rw[Y9 z];simp[z]
    .rw[Y3 z];simp[z]
   by_cases z:c.tm > t
   .rw[Y9 (by rw[Yq z]),ac];refine⟨rfl,?_,_,rfl⟩;rw[e0,Y9 z];unfold Nc;rw[Yd];rfl
   .rw[Y3 (by rw[Ys z];simp),ac];refine⟨rfl,?_,_,rfl⟩;rw[e0,Y3 z,List.append_nil]
  rintro ys σ' G ⟨rfl,rfl,_⟩ l2 G3 hl2 s3 hG3;rw[show(Nc U.cs).length=U.cs.length from Y1 ..,YE]at hG3;have e3:=s3 _ _ (s2 _ _ e1);refine⟨C,dx,_,e3,L.cl,L.coming,YA (Nn hl) (by decide),fun G4 b4 e4=>d _ _ ?_⟩;clear d N;walk_at"rd";have hU3:=aa.mono s3;have hU4:=hU3.setComing e3 b4 e4 ncr ncp hG3 fun c g=>(YU.mp g).1
  have hl1p:l1≠p:=WL hG2 (s2 _ _ e1) nofun;have h14:G4 l1=some (.lst (Nc (M6 t U.cs))):=b4 _ _ (s3 _ _ hG2) hl1p;have u:NP G4 T MH:=(tb1.same (s2.trans s3)).of fun a o h k=>b4 a o h fun z=>by rw[z,e3]at h;cases h;rcases k with⟨_,k⟩|⟨_,k⟩ <;> cases k
  refine⟨u,fun f G5 hf b5 tb5=>⟨l1,Nc (M6 t U.cs),(M6 t U.cs).map (·.tm),rfl,WJ.of (b5 _ _ h14 (RJ u h14 nofun)),?_,?_,?_,?_⟩⟩
  .exact(Y1 ..).trans (Y1 ..).symm
  .unfold Nc M6;rw[Y1];have:=Xu (fun c:Th=>decide (c.tm <=t)) U.cs;omega
  .intro j x v hx hv G kG;unfold Nc at hx;have hv:((M6 t U.cs).map fun c=>c.tm)[j]?=some v:=hv;rw[Yf]at hx hv;obtain⟨c,g,rfl⟩:=Yy.mp hx;rw[g]at hv;cases hv;have hT:=(hU3.th c (YU.mp (Ya g)).1).tu;have h4:=b4 _ _ hT (WL hT e3 nofun);have h5:=b5 _ _ h4 (RJ u h4 nofun);walk_at"rd";exact⟨_,N9.of (kG _ _ h5 nofun),_,rfl,WH.refl _,rfl⟩
  .intro r l G6 pm sr b s6 e6;rw[show(Nc (M6 t U.cs)).length=(M6 t U.cs).length from Y1 ..]at pm;obtain⟨ms,hms,ems⟩:=mE pm sr;rw[ems]at e6;have kp:∀c o,H c=some o->c≠p->c≠T->G5 c=some o:=fun c o h n1 n2=>b5 c o (b4 c o (s3 c o (s2 c o (b1 c o h n1))) n1) n2
   obtain⟨op,hop⟩:∃o,G5 p=some o:=⟨_,b5 _ _ e4 (RJ u e4 nofun)⟩;obtain⟨oT,hoT,_⟩:=tb5.ex;have hlH:H l=none:=by
    cases e:H l with
    |none=>rfl
    |some o=>
     by_cases z:l=p
     .rw[z,hop]at b;cases b
     .by_cases z2:l=T
      .rw[z2,hoT]at b;cases b
      .rw[kp l o e z z2]at b;cases b
   have hl2H:H l2=none:=by
    cases e:H l2 with
    |none=>rfl
    |some o=>
     by_cases z:l2=p
     .rw[z,s2 _ _ e1]at hl2;cases hl2
     .rw[s2 _ _ (b1 _ _ e z)]at hl2;cases hl2
   have h24:=b4 _ _ hG3 (WL hG3 e3 nofun);have h25:=b5 _ _ h24 (RJ u h24 nofun);have hU5:WN C CRo CP G5 p db dc l2 {U with now:=t,cs:=Ji t U.cs}:=by
    refine hU4.butT (fun c o h n=>b5 c o h fun z=>?_);obtain⟨ps,hps,_⟩:=u.ex;rw[z,hps]at h;cases h;exact n _ rfl
   exact q l l2 ms G6 hlH hl2H (Ne.symm (J6 h25 b)) (fun c o h n1 n2=>s6 _ _ (kp c o h n1 n2)) (tb5.same s6) hms e6 (hU5.mono s6)
inductive Lu(C CRo CP:WA)(vs:List V)(H:Hp)(Q:VK)(E:XK):Prop|mk (p dx:WA) (_:vs=[.ref p]) (_:H p=some (.ins C dx [])) (_:∀db dc lc G,H db=none->H dc=none->H lc=none->JS p H G->WN C CRo CP G p db dc lc ⟨0,[],[]⟩->Q .non G)
abbrev JW:Stmt:=MW (JX 44) 0
theorem yL:JN ["self"] ["self"] (WF JW):=by walk_at"e"
theorem tU{f C CRo CP:WA}{fd:Wv}(F:LB K f fd "Post.__init__" JW)(L:My K C):WQ P w K mg base Jr 1 f fd ["self"] (Lu C CRo CP):=by
 obtain⟨oc,od,dV,kV,doc,pm,an,cdv,ct,osl,rfl,lk,hcd⟩:=F;refine EJ lk hcd yL (fun vs H Q E h=>?_) (fun A l s H vs Q E hr h=>?_)
 .obtain⟨p,dx,rfl,_⟩:=h;rfl
 .obtain⟨p,dx,rfl,hp,q⟩:=h
  suffices hh:∃t,Mp (TQ Jr P w K mg base _ "Post.__init__" (WF JW) f cdv A l s H E).nox (WP JW) t/\t {nx:=fun _ H'=>Q .non H',rt:=Q} (L2.start _ _) H by
   obtain⟨t,h1,h2⟩:=hh;exact⟨t,h1.nox,h2⟩
  refine⟨_,(WX (GN (K:=K) rfl (WG 0) WM rfl) (WX (GN (K:=K) rfl (WG 0) Ca rfl) (WX (GN (K:=K) rfl (WG 0) Ca rfl) (Jg (GN (K:=K) rfl (WG 0) (Np WK) rfl))))),?_⟩;refine Ja fun N a=>?_
  walk_at"rd";refine⟨C,dx,[],hp,L.cl,L.now,by decide,fun G1 b1 h1=>a _ _ ?_⟩;clear a N;refine Ja fun N a=>?_
  walk_at"rd";intro db G2 g s2 h2;refine⟨C,dx,_,s2 _ _ h1,L.cl,L.built,YA (Nn (n:=0) (Y6 _)) (by decide),fun G3 b3 h3=>a _ _ ?_⟩;clear a N;refine Ja fun N a=>?_
  walk_at"rd";intro dc G4 b j h4;refine⟨C,dx,_,j _ _ h3,L.cl,L.counts,YA (Nn (Nn (n:=0) (Y6 _))) (by decide),fun G5 b5 h5=>a _ _ ?_⟩;clear a N;walk_at"rd";refine⟨Yj _,fun lc G6 d i h6=>⟨C,dx,_,i _ _ h5,L.cl,L.coming,YA (Nn (Nn (Nn (n:=0) (Y6 _)))) (by decide),fun G7 b7 h7=>?_⟩⟩;have z:db≠p:=Ne.symm (J6 h1 g);have u:dc≠p:=Ne.symm (J6 h3 b);have r:lc≠p:=Ne.symm (J6 h5 d);have d3:=b3 _ _ h2 z;have d5:=b5 _ _ (j _ _ d3) z;have c5:=b5 _ _ h4 u;have bb:JS p H G7:=fun c o h n=>b7 c o (i c o (b5 c o (j c o (b3 c o (s2 c o (b1 c o h n)) n)) n)) n
  have fr1:H db=none:=by
   cases e:H db with
   |none=>rfl
   |some o=>rw[b1 _ _ e z]at g;cases g
  have fr2:H dc=none:=by
   cases e:H dc with
   |none=>rfl
   |some o=>rw[b3 _ _ (s2 _ _ (b1 _ _ e u)) u]at b;cases b
  have fr3:H lc=none:=by
   cases e:H lc with
   |none=>rfl
   |some o=>rw[b5 _ _ (j _ _ (b3 _ _ (s2 _ _ (b1 _ _ e r)) r)) r]at d;cases d
  refine q db dc lc G7 fr1 fr2 fr3 bb ⟨⟨dx,_,h7,Y6 4,fun f=>?_⟩,b7 _ _ (i _ _ d5) z,b7 _ _ (i _ _ c5) u,b7 _ _ h6 r,J6 d3 b,nM,nM,.nil⟩;show List.lookup f [("now",V.int 0),("built",V.ref db),("counts",V.ref dc),("coming",V.ref lc)]=_;rfl
inductive F4(C CRo CP:WA)(vs:List V)(H:Hp)(Q:VK)(E:XK):Prop|mk (_:vs=[]) (_:∀p db dc lc G,H p=none->H db=none->H dc=none->H lc=none->WH H G->WN C CRo CP G p db dc lc ⟨0,[],[]⟩->Q (.ref p) G)
theorem Ol{C CRo CP:WA}(F:Di P w K mg base "Post" C 1 ["self"] [] (Lu C CRo CP)):MR P w K mg base "Post" 1 (F4 C CRo CP):=
 F.ct fun vs H Q h y dx G a _ _ s f=>by
  obtain⟨rfl,q⟩:=h;refine⟨y,dx,rfl,f,fun db dc lc G' h1 h2 g b d=>⟨rfl,?_⟩⟩;exact q y db dc lc G' a (s.free h1) (s.free h2) (s.free g) (fun c o e=>b c o (s c o e) (J6 e a)) d
inductive Ke(K:Wy)(vs:List V)(H:Hp)(Q:VK)(E:XK):Prop|mk (a:WA) (ns:WB) (k:Nat) (_:vs=[.ref a,.int (k:Int)]) (_:WJ K H a (ns.map V.int)) (_:∀c,Q (.int c) H)
abbrev HR:Stmt:=JX 46
theorem Qq:JN ["_law_script","_law_k"] ["_law_script","_law_k"] (WF HR):=by walk_at"e"
theorem Zr{f:WA}{fd:Wv}(F:JT K "_law_cell_at" "_law_cell_at" HR f fd)(B:Bt mg):WQ P w K mg base Jr 1 f fd ["_law_script","_law_k"] (Ke K):=by
 refine F.ok Qq (fun vs H Q E h=>?_) (fun i A e s H vs Q E j h=>?_)
 .obtain⟨a,b,k,rfl,_⟩:=h;rfl
 .obtain⟨a,b,k,rfl,c,q⟩:=h;refine⟨_,(WX (Ny (ND (Jz Aa) (WG 1) (N3 (Mb (Mc (K:=K) rfl)) B.len (WR 0 WK))) (Jg (JB (T5 K (WG 0) (WG 1)))) NB) (Jg (JB WM))),?_⟩;walk_at"rd";refine⟨_,.inl c,DQ (fun d=>?_) (fun d=>q 0)⟩;rw[Yt,Y1]at d;have g:k < b.length:=by omega
  exact⟨_,c,.int b[k],DY (by rw[Yf,Y5 g];rfl),q _⟩
def PC(c k:Int):Int:=(c%2147483647+ 7919*k+ 1)*48271%2147483647
def Oe(a:Int):Int:=a*(a / 1009+ 69621)%2147483647
def Ej(c k:Int):Int:=(Oe (PC c k)+ 7*k)*(Oe (PC c k) / 677+ 40692)%2147483399
theorem Ai(c k:Int):0 <=Ej c k:=Um _ (by decide)
theorem j8(c k:Int):Ej c k < 2147483399:=U0 _ (by decide)
inductive Ev(vs:List V)(H:Hp)(Q:VK)(E:XK):Prop|mk (c k:Int) (_:vs=[.int c,.int k]) (_:0 <=k) (_:k <=100000) (_:∀m:Int,0 <=m->m < 2147483399->Q (.int m) H)
inductive Ka(vs:List V)(H:Hp)(Q:VK)(E:XK):Prop|mk (c k:Int) (_:vs=[.int c,.int k]) (_:0 <=k) (_:k <=100000) (_:Q (.int (Ej c k)) H)
abbrev Kh:Stmt:=JX 47
theorem He:JN ["_law_cell","_law_k","_law_number"] ["_law_cell","_law_k"] (WF Kh):=by walk_at"e"
theorem j0{f:WA}{fd:Wv}(F:JT K "_law_mixed" "_law_mixed" Kh f fd):WQ P w K mg base Jr 1 f fd ["_law_cell","_law_k"] Ka:=by
 refine F.ok He (fun vs H Q E h=>?_) (fun d A a s H vs Q E e h=>?_)
 .obtain⟨c,k,rfl,_⟩:=h;rfl
 .obtain⟨c,k,rfl,g,h1,q⟩:=h;refine⟨_,(WX (Nf 2 He (J0 (dI Na) (J0 (dI GD) (J0 (Jz Nw) (J0 (Jz Nw) (J0 (dI Na) (WG 0) WM) (J0 (dI GD) WM (WG 1))) WM) WM) WM)) (WX (Nf 2 He (J0 (dI Na) (J0 (dI GD) (WG 2) (J0 (Jz Nw) (J0 (dI AL) (WG 2) WM) WM)) WM)) (Jg (JB (J0 (dI Na) (J0 (dI GD) (J0 (Jz Nw) (WG 2) (J0 (dI GD) WM (WG 1))) (J0 (Jz Nw) (J0 (dI AL) (WG 2) WM) WM)) WM))))),?_⟩;walk_at"rd";have b:∀x y:Int,Gm (x%2147483647+ 7*k) y:=fun x y=>.inl ⟨by lia,by lia⟩
  refine⟨by decide,.inl ⟨by decide,by decide⟩,.inr ⟨by decide,by decide⟩,by decide,⟨by decide,by decide⟩,wU _ _,by decide,.inl ⟨by decide,by decide⟩,⟨by decide,by decide⟩,b _ _,by decide,?_⟩;exact q
theorem nG(F:JI P w K mg base "_law_mixed" 1 ["_law_cell","_law_k"] [] Ka):JI P w K mg base "_law_mixed" 1 ["_law_cell","_law_k"] [] Ev:=F.imp fun vs H Q E zz=>by rcases zz with⟨c,k,e,a,h1,q⟩;exact ⟨c,k,e,a,h1,q _ (Ai c k) (j8 c k)⟩
inductive IR(vs:List V)(H:Hp)(Q:VK)(E:XK):Prop|mk (c:Int) (n:Nat) (_:vs=[.int c,.int (n:Int)]) (_:n <=20) (_:∀l (xs:WB) G,H l=none->WH H G->G l=some (.lst (xs.map V.int))->xs.length=n->(∀x∈xs,0 <=x/\x < 5040)->Q (.ref l) G)
abbrev IB:Stmt:=JX 48
theorem Bz:JN ["_law_cell","_law_many","_law_found","_law_left","_law_k"] ["_law_cell","_law_many"] (WF IB):=by walk_at"e"
theorem ZQ{f:WA}{fd:Wv}(F:JT K "_law_digits" "_law_digits" IB f fd)(B:Bt mg)(Je:JI P w K mg base "_law_mixed" 1 ["_law_cell","_law_k"] [] Ev):WQ P w K mg base Jr 2 f fd ["_law_cell","_law_many"] IR:=by
 refine F.ok Bz (fun vs H Q E h=>?_) (fun cdv A outer s H vs Q E hr h=>?_)
 .obtain⟨c,n,rfl,_⟩:=h;rfl
 .obtain⟨c,n,rfl,hn,q⟩:=h;refine⟨_,(WX (Nf 2 Bz (Np WK)) (WX (Nf 3 Bz (J0 (dI EC) (WG 0) WM)) (WX (Dz YZ rfl (Ge rfl B.range (WR 1 WK)) (Md 4 Bz) (WX (Bc (Ny (PW.pt (RW (ND (MZ D9) (J0 (dI Na) (WG 0) WM) WM) (Es (ND (Jz Rs) (WG 3) WM)))) (Jg (Mn (Dh (K:=K) rfl YI YQ YR (Gr GB) (WG 2) (WW (hs:=TF) (J0 (dI Na) (WG 3) WM) WK)))) (Jg (Mn (Dh (K:=K) rfl YI YQ YR (Gr GB) (WG 2) (WW (hs:=TF) (J0 (dI Na) (Jx Je hr.m rfl (WR 0 (WR 4 WK))) WM) WK)))))) (Jg (Nf 3 Bz (J0 (dI EC) (WG 3) WM))))) (Jg (JB (WG 2)))))),?_⟩;walk_at"rd";refine⟨Nm (by simp),fun p G hp s0 hG=>⟨⟨by decide,by decide⟩,by omega,by omega,?_⟩⟩;rw[Xl];obtain⟨t,g⟩:∃t:Nat->L2.St->Hp->Prop,t=fun i σ' G=>∃ (a:Int) (v:Option V) (xs:WB),σ'=[some (.int c),some (.int (n:Int)),some (.ref p),some (.int a),v]/\WH H G/\G p=some (.lst (xs.map V.int))/\xs.length=i/\∀x∈xs,0 <=x/\x < 5040:=⟨_,rfl⟩
  refine K7 t (by rw[g];exact⟨_,_,[],rfl,s0,hG,rfl,fun _ h=>nomatch h⟩) ?_ ?_ <;> rw[g]
  .intro i σ' G1 hi Zq;obtain⟨a,v,xs,rfl,s1,h1,r,o⟩:=Zq;rw[<-g];have hi6:i < n:=hi;walk_at"rd";refine⟨by decide,rfl,fun σ' G'=>∃ (x:Int) (v:Option V),σ'=[some (.int c),some (.int (n:Int)),some (.ref p),some (.int a),v]/\WH H G'/\G' p=some (.lst ((xs++[x]).map V.int))/\0 <=x/\x < 5040,?_,?_⟩
   .have d:∀{x:Int} {G2:Hp},JS p G1 G2->G2 p=some (.lst (xs.map V.int++[.int x]))->WH H G2/\G2 p=some (.lst ((xs++[x]).map V.int)):=fun b e=>⟨s1.butNew b hp,by rw[e,Yd];rfl⟩
    have big:(xs.map V.int).length < sizeLine:=CN (by rw[Y1];omega);have ty:B4 K "list" (.ref p) G1:=.inl ⟨rfl,_,WJ.of h1⟩
    have mx : B4 K "list" (.ref p) G1 /\ Ev [V.int c, V.int (0 + ↑i)] G1 (fun x H1 => ∃ m, x = V.int m /\ (0 : Int) < 5040 /\ ∃ ys, H1 p = some (HO.lst ys) /\ ys.length < sizeLine /\ ∀ (G : Hp), JS p H1 G -> G p = some (HO.lst (ys ++ [V.int (m % 5040)])) ->
      ∃ (x : Int) (u : Option V), [some (V.int c), some (V.int (n : Int)), some (V.ref p), some (V.int a), some (V.int (0 + ↑i))] = [some (.int c), some (.int (n : Int)), some (.ref p), some (.int a), u] /\ WH H G /\ G p = some (.lst ((xs ++ [x]).map V.int)) /\ 0 <= x /\ x < 5040) E0 :=
     ⟨ty,c,_,rfl,by omega,by omega,fun m m0 m1=>⟨m,rfl,by decide,_,h1,big,fun G2 l j=>⟨m%5040,_,rfl,(d l j).1,(d l j).2,by omega,by omega⟩⟩⟩
    refine DQ (fun _=>DQ (fun _=>?_) fun _=>mx) fun _=>mx
    exact⟨ty,by decide,_,h1,big,fun G2 l j=>⟨a%5040,_,rfl,(d l j).1,(d l j).2,by omega,by omega⟩⟩
   .intro σ2 G2 Zq;obtain⟨x,u,rfl,s2,h2,x0,x1⟩:=Zq;walk_at"rd";refine⟨⟨by decide,by decide⟩,?_⟩;rw[g];refine⟨_,_,xs++[x],rfl,s2,h2,by rw[List.length_append,r];rfl,fun y hy=>?_⟩;rcases Yb.mp hy with z|z
    .exact o y z
    .rw[Y8.mp z];exact⟨x0,x1⟩
  .intro σ' G1 Zq;obtain⟨a,v,xs,rfl,s1,h1,r,o⟩:=Zq;walk_at"rd";exact q p xs G1 hp s1 h1 r o
def Mu:List (Int×Str×Str):=[(7,"ann","bo"),(7,"ann","bob"),(7,"bo","ann"),(8,"ann","bo"),(70,"an","bo"),(0,"a","a"),(65535,"zzzzzzzz","b")]
def D3(n:Int):Int×Str×Str:=Mu.getD (n%7).toNat (0,"a","a")
def EB(k:Int×Str×Str):List V:=[.int k.1,.str k.2.1,.str k.2.2]
inductive Hi(vs:List V)(H:Hp)(Q:VK)(E:XK):Prop|mk (n:Int) (_:vs=[.int n]) (_:∀t G,H t=none->WH H G->G t=some (.tup (EB (D3 n)))->Q (.ref t) G)
theorem RP{x y z:V}{σ:L2.St}{H:Hp}{Q:VK}(h:∀p G,H p=none->WH H G->G p=some (.tup [x,y,z])->Q (.ref p) G):Cc (Ms (tC x) (Ms (tC y) (Ms (tC z) Df))) σ H Q:=⟨Nm (by simp),h⟩
abbrev Ku:Stmt:=JX 49
theorem OY:JN ["_law_digit","_law_some"] ["_law_digit"] (WF Ku):=by walk_at"e"
theorem SO{f:WA}{fd:Wv}(F:JT K "_law_key" "_law_key" Ku f fd):WQ P w K mg base Jr 1 f fd ["_law_digit"] Hi:=by
 refine F.ok OY (fun vs H Q E h=>?_) (fun cdv A outer s H vs Q E hr h=>?_)
 .obtain⟨n,rfl,_⟩:=h;rfl
 .obtain⟨n,rfl,q⟩:=h;refine⟨_,(@WX _ _ _ _ _ (@D8 _ _ 1 _ _ _ _ (OY).nd rfl (Or.inl rfl) (@Np _ _ _ _ (@WW _ _ _ _ _ (@MO _ _ _ _ _ (@WW _ _ _ _ _ (@WM _ _ _ _) (@WW _ _ _ _ _ (@JM _ _ _ _) (@WW _ _ _ _ _ (@JM _ _ _ _) WK NO) NO) NO)) (@WW _ _ _ _ _ (@MO _ _ _ _ _ (@WW _ _ _ _ _ (@WM _ _ _ _) (@WW _ _ _ _ _ (@JM _ _ _ _) (@WW _ _ _ _ _ (@JM _ _ _ _) WK NO) NO) NO)) (@WW _ _ _ _ _ (@MO _ _ _ _ _ (@WW _ _ _ _ _ (@WM _ _ _ _) (@WW _ _ _ _ _ (@JM _ _ _ _) (@WW _ _ _ _ _ (@JM _ _ _ _) WK NO) NO) NO)) (@WW _ _ _ _ _ (@MO _ _ _ _ _ (@WW _ _ _ _ _ (@WM _ _ _ _) (@WW _ _ _ _ _ (@JM _ _ _ _) (@WW _ _ _ _ _ (@JM _ _ _ _) WK NO) NO) NO)) (@WW _ _ _ _ _ (@MO _ _ _ _ _ (@WW _ _ _ _ _ (@WM _ _ _ _) (@WW _ _ _ _ _ (@JM _ _ _ _) (@WW _ _ _ _ _ (@JM _ _ _ _) WK NO) NO) NO)) WK Gk) Gk) Gk) Gk) Gk)) (by rfl) (Or.inl rfl)) (@Jg _ _ _ (@JB _ _ _ _ (@D1 _ _ _ _ _ _ _ (GO (K:=K) rfl) (@J0 _ _ _ _ _ _ _ _ Rz (pv 1) (@Np _ _ _ _ (@WW _ _ _ _ _ (@MO _ _ _ _ _ (@WW _ _ _ _ _ (@WM _ _ _ _) (@WW _ _ _ _ _ (@JM _ _ _ _) (@WW _ _ _ _ _ (@JM _ _ _ _) WK NO) NO) NO)) (@WW _ _ _ _ _ (@MO _ _ _ _ _ (@WW _ _ _ _ _ (@WM _ _ _ _) (@WW _ _ _ _ _ (@JM _ _ _ _) (@WW _ _ _ _ _ (@JM _ _ _ _) WK NO) NO) NO)) WK Gk) Gk))) (@J0 _ _ _ _ _ _ _ _ Na (pv 0) (@WM _ _ _ _)) (fun _ _=>rfl))))),?_⟩;refine Ja fun N hN=>?_
  simp only[RK,Bu,Ms,Df,GY,L2.start,List.map_cons,List.map_nil,List.length_cons,List.length_nil,Nat.reduceAdd,Nat.reduceSub,List.replicate,List.cons_append,List.nil_append,List.append_nil,List.set_cons_zero,List.set_cons_succ];refine RP fun p1 G1 h1 s1 e1=>RP fun p2 G2 h2 s2 e2=>RP fun p3 G3 h3 o e3=>RP fun p4 G4 h4 j e4=>RP fun p5 G5 h5 i e5=>⟨Nm (by simp),fun l G6 hl c e6=>hN _ _ ?_⟩
  clear hN N;simp only[AF,DI,BE,tC,Bu,Ms,Df,List.getElem?_cons_zero,List.getElem?_cons_succ,Option.some.injEq,exists_eq_left',exists_eq_left];refine RP fun p6 G7 h7 s7 e7=>RP fun p7 G8 h8 s8 e8=>⟨Nm (by simp),fun l2 G9 hl2 r e9=>?_⟩
  walk_at"rd";have b:=s7.trans (s8.trans r);refine⟨_,b _ _ e6,_,e9,Nm (by simp),fun l3 g hl3 a e10=>⟨by decide,_,WJ.of e10,?_⟩⟩;have sT:WH H g:=s1.trans (s2.trans (o.trans (j.trans (i.trans (c.trans (b.trans a))))));have key:∀p,(∃G',G' p=none/\WH H G')->(g p=some (.tup (EB (D3 n))))->Q (.ref p) g:=fun p ⟨G',e,s'⟩ h=>q p g (s'.free e) sT h
  have hm:n%7=0\/n%7=1\/n%7=2\/n%7=3\/n%7=4\/n%7=5\/n%7=6:=by omega
  have t1:=s2.trans (o.trans (j.trans (i.trans (c.trans (b.trans a)))));have t2:=o.trans (j.trans (i.trans (c.trans (b.trans a))));have t3:=j.trans (i.trans (c.trans (b.trans a)));have t4:=i.trans (c.trans (b.trans a));have t5:=c.trans (b.trans a);have t6:=s8.trans (r.trans a);have t7:=r.trans a;have sa:=s1.trans s2;have z:=sa.trans o;have u:=z.trans j;have sd:=u.trans i;have t:=sd.trans c;have sf:=t.trans s7;have d:∀m:Nat,n%7=(m:Int)->D3 n=Mu.getD m (0,"a","a"):=fun m h=>by unfold D3;rw[h];rfl
  rcases hm with h|h|h|h|h|h|h <;> rw[h]
  .exact⟨_,rfl,key p1 ⟨H,h1,WH.refl _⟩ (by rw[d 0 h];exact t1 _ _ e1)⟩
  .exact⟨_,rfl,key p2 ⟨G1,h2,s1⟩ (by rw[d 1 h];exact t2 _ _ e2)⟩
  .exact⟨_,rfl,key p3 ⟨G2,h3,sa⟩ (by rw[d 2 h];exact t3 _ _ e3)⟩
  .exact⟨_,rfl,key p4 ⟨G3,h4,z⟩ (by rw[d 3 h];exact t4 _ _ e4)⟩
  .exact⟨_,rfl,key p5 ⟨G4,h5,u⟩ (by rw[d 4 h];exact t5 _ _ e5)⟩
  .exact⟨_,rfl,key p6 ⟨G6,h7,t⟩ (by rw[d 5 h];exact t6 _ _ e7)⟩
  .exact⟨_,rfl,key p7 ⟨G7,h8,sf⟩ (by rw[d 6 h];exact t7 _ _ e8)⟩
inductive PJ(vs:List V)(H:Hp)(Q:VK)(E:XK):Prop|mk (c k:Int) (_:vs=[.int c,.int k]) (_:0 <=k) (_:k <=100) (_:∀l (ns:WB) G,H l=none->WH H G->G l=some (.lst (ns.map V.int))->1 <=ns.length->ns.length <=120->(∀x∈ns,0 <=x/\x <=255)->Q (.ref l) G)
abbrev Aq:Stmt:=JX 50
theorem Px:JN ["_law_cell","_law_k","_law_many"] ["_law_cell","_law_k"] (WF Aq):=by walk_at"e"
theorem Zq{f:WA}{fd:Wv}(F:JT K "_law_body" "_law_body" Aq f fd)(B:Bt mg)(Je:JI P w K mg base "_law_mixed" 1 ["_law_cell","_law_k"] [] Ev):WQ P w K mg base Jr 2 f fd ["_law_cell","_law_k"] PJ:=by
 refine F.ok Px (fun vs H Q E h=>?_) (fun cdv A r s H vs Q E j h=>?_)
 .obtain⟨c,k,rfl,_⟩:=h;rfl
 .obtain⟨c,k,rfl,h0,h1,q⟩:=h;refine⟨_,(WX (Nf 2 Px (J0 (Jz Nw) WM (J0 (dI Na) (Jx Je j.m rfl (WR 0 (WR 1 WK))) WM))) (Jg (JB (TU (N':=["_law_j","_law_cell","_law_k"]) (caps:=[none,some 0,some 1]) (Tf (sc:=WF Aq) (N:=["_law_cell","_law_k","_law_many"]) rfl rfl (by decide +kernel)) rfl (Ge rfl B.range (WR 2 WK)) (fun _ _ _ _ _=>(T3 (i:=0) (T9 (N:=["_law_j","_law_cell","_law_k"]) rfl (by decide +kernel)) rfl (Or.inl rfl))) (fun _ _ _ _ _=>Mx) (fun _ _ _ _ _=>(J0 (dI Na) (J0 (dI AL) (Jx Je j.m rfl (WR 1 (WW (hs:=TF) (J0 (Jz Nw) (J0 (Jz Nw) (J0 (dI GD) WM (WG 2)) WM) (WG 0)) WK))) WM) WM)))))),?_⟩;walk_at"rd";refine⟨c,k,rfl,h0,by omega,fun m m0 m1=>⟨_,rfl,by decide,by omega,by omega,?_⟩⟩;obtain⟨n,hn⟩:∃n:Nat,(1+ m%120).toNat=n:=⟨_,rfl⟩;rw[hn];obtain⟨g,b⟩:∃g:Nat->List V->L2.St->Hp->Prop,g=fun i ys σ' G=>∃ (a:WB) (v:Option V),ys=a.map V.int/\a.length=i/\(∀x∈a,0 <=x/\x <=255)/\σ'=[v,some (.int c),some (.int k)]/\G=H:=⟨_,rfl⟩
  refine R6 g (by rw[b];exact⟨[],none,rfl,rfl,(fun _ h=>nomatch h),rfl,rfl⟩) ?_ (Nm (by omega)) ?_ ?_ <;> rw[b]
  .rintro i ys σ' G ⟨a,v,rfl,e,_⟩ _;rw[Y1];omega
  .intro i ys σ' G hi Zq;obtain⟨a,v,rfl,e,d,rfl,rfl⟩:=Zq;rw[<-b];walk_at"rd";refine⟨.inl ⟨by decide,by decide⟩,c,_,rfl,by omega,by omega,fun t a0 a1=>⟨_,rfl,⟨by decide,by decide⟩,by decide,?_⟩⟩;rw[b];refine⟨a++[t / 7%256],_,by rw[Yd];rfl,by simp[e],fun x u=>?_,rfl,rfl⟩;rcases Yb.mp u with z|z
   .exact d x z
   .rw[Y8.mp z];omega
  .rintro ys σ' G ⟨a,v,rfl,e,d,rfl,rfl⟩ l G2 o s2 p;exact q l a G2 o s2 p (by omega) (by omega) d
def PD.ky(d:PD):Int×Str×Str:=(d.nu,d.z1,d.z2)
def Td(A:Addr->Prop)(G:Hp)(v:V)(d:PD):Prop:=∃t tk b,v= .ref t/\G t=some (.tup [.ref tk,.int d.at',.ref b,.bl d.mo])/\G tk=some (.tup (EB d.ky))/\G b=some (.lst (d.ns.map V.int))/\¬A b
def DL(H:Hp)(x:WA):Prop:=H x≠none
section
variable{A A':Addr->Prop}{G G':Hp}{v:V}{d:PD}
theorem Td.mono(s:WH G G')(h:Td A G v d):Td A G' v d:=by
 obtain⟨t,tk,b,h1,h2,e,c,a⟩:=h;exact⟨t,tk,b,h1,s _ _ h2,s _ _ e,s _ _ c,a⟩
theorem Td.imp(s:∀x,A' x->A x)(h:Td A G v d):Td A' G v d:=by
 obtain⟨t,tk,b,h1,h2,e,c,a⟩:=h;exact⟨t,tk,b,h1,h2,e,c,fun z=>a (s _ z)⟩
theorem Td.kp(k:∀c o,G c=some o->((∃xs,o= .lst xs)->¬A c)->(∀xs,o≠ .dK xs)->(∀C dx fs,o≠ .ins C dx fs)->(∀ps,o≠ .tbl ps)->G' c=some o)(h:Td A G v d):Td A G' v d:=by
 obtain⟨t,tk,b,h1,h2,f,e,a⟩:=h;exact⟨t,tk,b,h1,k _ _ h2 (fun⟨_,z⟩=>nomatch z) nofun nofun nofun,k _ _ f (fun⟨_,z⟩=>nomatch z) nofun nofun nofun,k _ _ e (fun _=>a) nofun nofun nofun,a⟩
theorem Td.but{l:WA}{xs:List V}(s:JS l G G')(hl:G l=some (.lst xs))(hA:A l)(h:Td A G v d):Td A G' v d:=
 h.kp fun c o e n _ _ _=>s c o e fun z=>n ⟨xs,by subst z;rw[hl]at e;exact(Yn e).symm⟩ (z▸hA)
end
inductive Ir(vs:List V)(H:Hp)(Q:VK)(E:XK):Prop|mk (tk b:WA) (d:PD) (w:Nat) (_:vs=[.ref tk,.ref b,.int d.at',.bl d.mo,.int w]) (_:H tk=some (.tup (EB d.ky))) (_:H b=some (.lst (d.ns.map V.int))) (_:1 <=d.ns.length) (_:d.ns.length <=4000) (_:8 <=w) (_:∀l zs G,H l=none->WH H G->G l=some (.lst zs)->Pw (Td (DL H) G) zs (J1 w d 0)->Q (.ref l) G)
def ZX(n:Nat):L2.St->Nat
 |[_,_,_,_,_,_,_,some (.int lo)]=>n - lo.toNat
 |_=>0
abbrev CY:Stmt:=JX 51
theorem BJ:JN ["_law_key_here","_law_body_here","_law_at","_law_more","_law_width","_law_step","_law_found","_law_start"] ["_law_key_here","_law_body_here","_law_at","_law_more","_law_width"] (WF CY):=by walk_at"e"
theorem uI{f:WA}{fd:Wv}(F:JT K "_law_cut" "_law_cut" CY f fd)(B:Bt mg):WQ P w K mg base Jr 1 f fd ["_law_key_here","_law_body_here","_law_at","_law_more","_law_width"] Ir:=by
 refine F.ok BJ (fun vs H Q E h=>?_) (fun cdv A outer s H vs Q E hr h=>?_)
 .obtain⟨tk,b,d,a,rfl,_⟩:=h;rfl
 .obtain⟨tk,b,d,a,rfl,htk,hb,l1,l2,w8,q⟩:=h;refine⟨_,(WX (Nf 5 BJ (J0 (Jz Bo) (WG 4) (J0 (dI Na) (WG 4) WM))) (WX (Nf 6 BJ (Np WK)) (WX (Nf 7 BJ WM) (WX (Lo YZ (ND (Jz Rs) (J0 (Jz Bo) (N3 (Mb (Mc (K:=K) rfl)) B.len (WR 1 WK)) (WG 7)) (WG 4)) (WX (Mn (Dh (K:=K) rfl YI YQ YR (Gr GB) (WG 6) (WW (hs:=Gk) (MO (WR 0 (WW (hs:=TF) (J0 (Jz Nw) (WG 2) (WG 7)) (De (Cw (CA (AK (K:=K) rfl)) (WG 1) (RO (WG 7)) (RO (J0 (Jz Nw) (WG 7) (WG 5)))) (Nb Mm WK))))) WK))) (Jg (Nf 7 BJ (J0 (Jz Nw) (WG 7) (WG 5)))))) (Jg (JB (J0 (RN Rz) (WG 6) (Np (WW (hs:=Gk) (MO (WR 0 (WW (hs:=TF) (J0 (Jz Nw) (WG 2) (WG 7)) (De (Cw (CA (AK (K:=K) rfl)) (WG 1) (RO (WG 7)) jH) (WR 3 WK))))) WK))))))))),?_⟩;refine Ja fun N g=>?_
  walk_at"rd";refine⟨by decide,g _ _ ?_⟩;clear g N;refine Ja fun N g=>?_
  walk_at"rd";refine⟨Yj _,fun l G0 hl s0 hG0=>g _ _ ?_⟩;clear g N;refine Ja fun N g=>?_
  walk_at"rd";refine g _ _ ?_;clear g N;refine Ja fun N g=>?_
  walk_at"rd";have ef:((a:Int) - (a:Int)%8)=((Jm a:Nat):Int):=by unfold Jm;omega
  rw[ef];obtain⟨Pv,aa⟩:∃Pv:L2.St->Hp->Prop,Pv=fun σ' G=>∃ (lo:Nat) (zs:List V) (ds:List PD),σ'=[some (.ref tk),some (.ref b),some (.int d.at'),some (.bl d.mo),some (.int a),some (.int (Jm a:Nat)),some (.ref l),some (.int (lo:Nat))]/\lo < d.ns.length/\lo%8=0/\WH H G/\G l=some (.lst zs)/\Pw (Td (fun x=>DL H x\/x=l) G) zs ds/\ds++J1 a d lo=J1 a d 0:=⟨_,rfl⟩
  have app:∀{zs:List V} {ds:List PD} {G G1 G2 G3:Hp} {t i:WA} {o:PD},WH H G->G l=some (.lst zs)->Pw (Td (fun x=>DL H x\/x=l) G) zs ds->G i=none->WH G G1->G1 i=some (.lst (o.ns.map V.int))->WH G1 G2->G2 t=some (.tup [.ref tk,.int o.at',.ref i,.bl o.mo])->o.ky=d.ky->
    Pw (Td (fun x=>DL H x\/x=l) G2) (zs++[.ref t]) (ds++[o]):=by
   intro zs ds G G1 G2 G3 t i o c j p e s1 h1 s2 h2 hk;refine(p.imp fun _ _ h=>h.mono (s1.trans s2)).snoc ⟨t,tk,i,rfl,h2,?_,s2 _ _ h1,?_⟩
   .rw[hk];exact s2 _ _ (s1 _ _ (c _ _ htk))
   .rintro(z|z)
    .exact z (c.free e)
    .rw[z,j]at e;cases e
  refine LG Pv (fun σ' _=>ZX d.ns.length σ') (by rw[aa];exact⟨0,[],[],rfl,by omega,rfl,s0,hG0,.nil,rfl⟩) ?_;intro σ' G hPv;rw[aa]at hPv;obtain⟨lo,zs,ds,rfl,hlo,lo8,c,j,p,u⟩:=hPv;have hlen:zs.length <=4001:=by
   have e1:=YB List.length u;rw[List.length_append,<-p.1]at e1;have:=CH a d 0;omega
  walk_at"rd";refine⟨_,.inl (WJ.of (c _ _ hb)),?_⟩;rw[Y1];refine DQ (fun r=>?_) (fun r=>?_)
  .have n:a < d.ns.length - lo:=by
    have:(a:Int) < (d.ns.length:Int) - (lo:Int):=by simpa using r
    omega
   have f8:8 <=Jm a/\Jm a <=a/\Jm a%8=0:=by unfold Jm;omega
   refine⟨fun σ2 H2=>Pv σ2 H2/\∃l0,σ2=[some (.ref tk),some (.ref b),some (.int d.at'),some (.bl d.mo),some (.int a),some (.int (Jm a:Nat)),some (.ref l0),some (.int ((lo+ Jm a:Nat):Int))],?_,.inl ⟨rfl,_,WJ.of j⟩,_,WJ.of (c _ _ hb),fun i G1 e s1 h1=>⟨by decide,fun t G2 ht s2 h2=>⟨_,s2 _ _ (s1 _ _ j),by rw[Yh];omega,fun G3 b3 h3=>?_⟩⟩⟩
   .intro σ2 H2 Zq;obtain⟨p2,l0,rfl⟩:=Zq;refine⟨_,?_,rfl,p2⟩;show d.ns.length - ((lo+ Jm a:Nat):Int).toNat < d.ns.length - ((lo:Nat):Int).toNat;omega
   .have ec:(lo:Int)+ (Jm a:Nat)=((lo+ Jm a:Nat):Int):=by omega
    rw[ec,Kr d.ns (by omega) (by omega)]at h1;have hp:Pw (Td (fun x=>DL H x\/x=l) G2) (zs++[.ref t]) (ds++[d.part lo (lo+ Jm a)]):=by
     refine app (G3:=G2) c j p e s1 h1 s2 ?_ rfl;rw[h2];show some (HO.tup [V.ref tk,V.int (d.at'+ (lo:Int)),V.ref i,V.bl true])=some (HO.tup [V.ref tk,V.int (d.at'+ (lo:Int)),V.ref i,V.bl (d.mo||decide (lo+ Jm a < d.ns.length))]);rw[Yq (show lo+ Jm a < d.ns.length by omega),Bool.or_true]
    rw[aa,ec];refine⟨⟨lo+ Jm a,_,_,rfl,by omega,by omega,(c.trans (s1.trans s2)).butNew b3 hl,h3,hp.imp fun _ _ h=>h.but b3 (s2 _ _ (s1 _ _ j)) (.inr rfl),?_⟩,l,rfl⟩;rw[<-u,BK n w8];simp
  .have n:¬a < d.ns.length - lo:=by
    have:¬(a:Int) < (d.ns.length:Int) - (lo:Int):=by simpa using r
    omega
   refine g _ _ ?_;clear g N;walk_at"rd";refine⟨_,WJ.of (c _ _ hb),fun i G1 e s1 h1=>⟨by decide,fun t G2 ht s2 h2=>⟨by decide,fun l1 G3 hl1 s3 h3=>⟨_,s3 _ _ (s2 _ _ (s1 _ _ j)),_,h3,by rw[Yh];simp;omega,fun l2 G4 hl2 s4 h4=>?_⟩⟩⟩⟩;rw[Zf (by rw[Y1];omega),<-List.map_drop]at h1;have e1:(d.part lo d.ns.length).ns=d.ns.drop lo:=by
    show(d.ns.drop lo).take (d.ns.length - lo)=_;exact Xi (by rw[X9];omega)
   have hp:Pw (Td (fun x=>DL H x\/x=l) G2) (zs++[.ref t]) (ds++[d.part lo d.ns.length]):=by
    refine app (G3:=G2) c j p e s1 (by rw[e1];exact h1) s2 ?_ rfl;rw[h2];show some (HO.tup [V.ref tk,V.int (d.at'+ (lo:Int)),V.ref i,V.bl d.mo])=some (HO.tup [V.ref tk,V.int (d.at'+ (lo:Int)),V.ref i,V.bl (d.mo||decide (d.ns.length < d.ns.length))]);rw[Ys (Xe _),Vv]
   rw[<-B9 n,u]at hp;have s04:=c.trans (s1.trans (s2.trans (s3.trans s4)));exact q l2 _ G4 ((c.trans (s1.trans (s2.trans s3))).free hl2) s04 h4 (hp.imp fun _ _ h=>(h.mono (s3.trans s4)).imp fun x z=>.inl z)
end
theorem NC.pos{d:PD}:∀{es:List PD} {lo hi:Nat},hi <=d.ns.length->NC d lo hi es->∀e∈es,1 <=e.ns.length/\e.ns.length <=d.ns.length/\e.ky=d.ky
 |[],_,_,_,_=>nM
 |e::es,lo,hi,hh,⟨m,k1,k2,k3,_,h⟩=>fun x hx=>by
  have hlen:e.ns.length=m - lo:=by rw[k3];exact PD.part_len (by omega) (by omega)
  rcases Yu.mp hx with rfl|hx
  .exact⟨by omega,by omega,by rw[k3];rfl⟩
  .exact NC.pos hh h x hx
theorem xN{d:PD}{ws:List Nat}(h1:1 <=d.ns.length)(hw:∀w∈ws,8 <=w):∀e∈Ju ws [d],1 <=e.ns.length/\e.ns.length <=d.ns.length/\e.ky=d.ky:=
 NC.pos (Y6 _) (FK hw (Kq d h1))
section
variable{P:Wt}{w:Wx}{K:Wy}{mg:Wp}{base:WD}
inductive PH(vs:List V)(H:Hp)(Q:VK)(E:XK):Prop|mk (v:V) (lw:WA) (d:PD) (ws:List Nat) (_:vs=[v,.ref lw]) (_:Td (fun _=>False) H v d) (_:H lw=some (.lst (TC ws))) (_:JC ws [d]) (_:1 <=ws.length) (_:ws.length <=20) (_:(∀w∈ws,8 <=w)) (_:1 <=d.ns.length) (_:d.ns.length <=4000) (_:∀l zs G,H l=none->WH H G->G l=some (.lst zs)->Pw (Td (DL H) G) zs (Ju ws [d])->Q (.ref l) G)
abbrev HC:Stmt:=JX 52
theorem R3:JN ["_law_piece","_law_widths_here","_law_pieces","_law_width","_law_longer","_law_key_here","_law_at","_law_body_here","_law_more"] ["_law_piece","_law_widths_here"] (WF HC):=by walk_at"e"
theorem jA{f:WA}{fd:Wv}(F:JT K "_law_over" "_law_over" HC f fd)(NI:JI P w K mg base "_law_cut" 1 ["_law_key_here","_law_body_here","_law_at","_law_more","_law_width"] [] Ir):WQ P w K mg base Jr 2 f fd ["_law_piece","_law_widths_here"] PH:=by
 refine F.ok R3 (fun vs H Q E h=>?_) (fun cdv A outer s H vs Q E hr h=>?_)
 .obtain⟨v,lw,d,ws,rfl,_⟩:=h;rfl
 .obtain⟨v,lw,d,ws,rfl,hv,hlw,hf,w1,w20,w8,d1,d4,q⟩:=h;refine⟨_,(WX (Nf 2 R3 (Np (WR 0 WK))) (WX (Dz YZ rfl (Tw (K:=K) rfl (WG 1)) (Md 3 R3) (WX (Nf 4 R3 (Np WK)) (WX (Dz YZ rfl (Tw (K:=K) rfl (WG 2)) (E8 (K:=K) (n:=4) rfl rfl (MK (Md 5 R3) (MK (Md 6 R3) (MK (Md 7 R3) (MK (Md 8 R3) RY))))) (Jg (Nf 4 R3 (J0 (RN Rz) (WG 4) (Jx NI hr.m rfl (WR 5 (WR 7 (WR 6 (WR 8 (WR 3 WK)))))))))) (Jg (Nf 2 R3 (WG 4)))))) (Jg (JB (WG 2))))),?_⟩;refine Ja fun N a=>?_
  walk_at"rd";refine⟨by decide,fun l G0 hl s0 hG0=>a _ _ ?_⟩;clear a N;refine Ja fun N a=>?_
  walk_at"rd";refine⟨⟨_,WJ.of (s0 _ _ hlw)⟩,?_⟩;obtain⟨Pv,ePv⟩:∃Pv:Nat->L2.St->Hp->Prop,Pv=fun i σ' G=>∃ (u:WA) (zs:List V) (v3 v4 r p g c:Option V),σ'=[some v,some (.ref lw),some (.ref u),v3,v4,r,p,g,c]/\WH H G/\H u=none/\G u=some (.lst zs)/\Pw (Td (fun x=>i≠0/\DL H x) G) zs (Ju (ws.take i) [d]):=⟨_,rfl⟩
  refine Rg (xs:=TC ws) Pv (by rw[ePv];exact⟨l,[v],none,none,none,none,none,none,rfl,s0,hl,hG0,Pw.one ((hv.mono s0).imp fun _ z=>z.1 rfl)⟩) ?_ ?_ ?_ <;> rw[ePv]
  .intro i σ' G _ Zq;obtain⟨u,zs,v3,v4,r,p,g,c,rfl,sG,_⟩:=Zq;exact WJ.of (sG lw _ hlw)
  .intro i x σ' G hx Zq;obtain⟨u,zs,v3,v4,r,p,g,c,rfl,sG,hl',hG,hz⟩:=Zq;rw[<-ePv];obtain⟨w',hw',rfl⟩:=Iq hx;have hi:i < ws.length:=(Y4.mp hw').1;have hd:=hf.drop i;have ed:ws.drop i=w'::ws.drop (i+ 1):=by
    rw[X8 hi];have:ws[i]=w':=by rw[Y5 hi]at hw';exact Yn hw'
    rw[this]
   rw[ed]at hd;have hfit:=hd.1;obtain⟨ds,eds⟩:∃ds,ds=Ju (ws.take i) [d]:=⟨_,rfl⟩;have hpos:=xN (d:=d) (ws:=ws.take i) d1 (fun w hw=>w8 w (Xo hw));rw[<-eds]at hz hfit hpos;refine Ja fun N a=>?_
   walk_at"rd";refine⟨Yj _,fun l1 G1 hl1 s1 hG1=>a _ _ ?_⟩;clear a N;refine Ja fun N a=>?_
   walk_at"rd";have hG':=s1 _ _ hG;refine⟨⟨_,WJ.of hG'⟩,?_⟩;obtain⟨Pw',ePw⟩:∃Pw':Nat->L2.St->Hp->Prop,Pw'=fun j σ' G2=>∃ (l2:WA) (ys:List V) (r p g c:Option V),σ'=[some v,some (.ref lw),some (.ref u),some (.int w'),some (.ref l2),r,p,g,c]/\WH G1 G2/\H l2=none/\G2 l2=some (.lst ys)/\Pw (Td (DL H) G2) ys (Me w' (ds.take j)):=⟨_,rfl⟩
   refine Rg (xs:=zs) Pw' (by rw[ePw];exact⟨l1,[],r,p,g,c,rfl,WH.refl _,sG.free hl1,hG1,.nil⟩) ?_ ?_ ?_ <;> rw[ePw]
   .intro j σ' G2 _ Zq;obtain⟨l2,ys,r,p,g,c,rfl,s2,_⟩:=Zq;exact WJ.of (s2 _ _ hG')
   .intro j x σ' G2 hx Zq;obtain⟨l2,ys,r,p,g,c,rfl,s2,hl2,hG2,hy⟩:=Zq;rw[<-ePw];obtain⟨d',hd',hX⟩:=hz.get hx;obtain⟨t,tk,b,rfl,k1,k2,k3,k4⟩:=hX.mono (s1.trans s2);obtain⟨p1,p2,p3⟩:=hpos d' (Ya hd');have hfew:=hfit.few;have htl:=LJ (w:=w') (ds:=ds) (j+ 1);have hts:=Ix (w:=w') hd';walk_at"rd";refine⟨_,N9.of k1,rfl,_,_,rfl,_,_,rfl,_,_,rfl,_,_,rfl,rfl,tk,b,d',w',rfl,by rw[k2],k3,p1,by omega,hfit.w8,fun l3 xs3 G3 hl3 s3 h3 hx3=>⟨l3,rfl,_,s3 _ _ hG2,_,h3,?_,fun l4 G4 hl4 s4 h4=>?_⟩⟩
    .rw[hy.1,hx3.1,<-List.length_append,<-hts,Yh];omega
    .rw[ePw];have sH2:=sG.trans (s1.trans s2);refine⟨l4,_,_,_,_,_,rfl,s2.trans (s3.trans s4),(sH2.trans s3).free hl4,h4,?_⟩;rw[hts];refine(hy.imp fun _ _ h=>h.mono (s3.trans s4)).app (hx3.imp fun _ _ h=>(h.mono s4).imp fun x z=>?_);intro e;cases e':H x with
     |none=>exact z e'
     |some o=>rw[sH2 x o e']at e;cases e
   .intro σ' G2 Zq;obtain⟨l2,ys,r,p,g,c,rfl,s2,hl2,hG2,hy⟩:=Zq;refine a _ _ ?_;clear a N;walk_at"rd";rw[ePv];rw[hz.1,YE]at hy;refine⟨l2,ys,_,_,_,_,_,_,rfl,sG.trans (s1.trans s2),hl2,hG2,?_⟩;rw[YD,hw',YH,Qi,<-eds];exact hy.imp fun _ _ h=>h.imp fun _ z=>z.2
  .intro σ' G Zq;obtain⟨u,zs,v3,v4,r,p,g,c,rfl,sG,hl',hG,hz⟩:=Zq;refine a _ _ ?_;clear a N;walk_at"rd";rw[GW]at hz;rw[YE]at hz;exact q u zs G hl' sG hG (hz.imp fun _ _ h=>h.imp fun _ z=>⟨by omega,z⟩)
end
structure RM where
 nm:Str
 t:Addr
 aw:Addr
 am:Addr
 r:Dj
 n:Int
structure Tz where
 rs:List RM
 cs:List (Int×PD)
def dR(rs:List RM):List (Str×V):=rs.map fun e=>(e.nm,.ref e.t)
def dN(rs:List RM):List (Str×V):=rs.map fun e=>(e.nm,.int e.n)
def ML(M:Tz):AP:=⟨M.rs.map fun e=>⟨e.nm,e.r,e.n⟩,M.cs⟩
structure MV(A:Addr->Prop)(H:Hp)(e:RM):Prop where
 tu:H e.t=some (.tup [.ref e.aw,.int e.r.dl,.ref e.am])
 hw:H e.aw=some (.lst (TC e.r.ws))
 hm:H e.am=some (.lst (e.r.lo.map V.int))
 ok:Ro e.r
 nw:¬A e.aw
 nm':¬A e.am
def Mz(A:Addr->Prop)(H:Hp)(v:V)(x:Int×PD):Prop:=∃t p,v= .ref t/\H t=some (.tup [.int x.1,p])/\Td A H p x.2
def Tt(A:Addr->Prop)(a:WA)(x:WA):Prop:=A x\/x=a
structure Jj(A:Addr->Prop)(H:Hp)(m:WA)(xs:List (Str×V))(dr dn lc:WA)(zs:List V)(M:Tz):Prop where
 hm:H m=some (.dK (dS xs))
 x1:xs.lookup ("roads":Str)=some (.ref dr)
 x2:xs.lookup ("count":Str)=some (.ref dn)
 x3:xs.lookup ("coming":Str)=some (.ref lc)
 hr:H dr=some (.dK (dS (dR M.rs)))
 hn:H dn=some (.dK (dS (dN M.rs)))
 hl:H lc=some (.lst zs)
 rd:∀e∈M.rs,MV (Tt A lc) H e
 th:Pw (Mz (Tt A lc) H) zs M.cs
 nl:¬A lc
 nd:(M.rs.map (·.nm)).Nodup
 n1:dr≠dn
 n2:m≠dn
 n3:m≠dr
section
variable{A A':Addr->Prop}{H G:Hp}{m dr dn lc:WA}{xs:List (Str×V)}{zs:List V}{M:Tz}
theorem MV.mono{e:RM}(s:WH H G)(h:MV A H e):MV A G e:=⟨s _ _ h.tu,s _ _ h.hw,s _ _ h.hm,h.ok,h.nw,h.nm'⟩
theorem Mz.mono{v:V}{x:Int×PD}(s:WH H G)(h:Mz A H v x):Mz A G v x:=by
 obtain⟨t,p,h1,h2,a⟩:=h;exact⟨t,p,h1,s _ _ h2,a.mono s⟩
theorem Jj.mono(s:WH H G)(h:Jj A H m xs dr dn lc zs M):Jj A G m xs dr dn lc zs M:=
 ⟨s _ _ h.hm,h.x1,h.x2,h.x3,s _ _ h.hr,s _ _ h.hn,s _ _ h.hl,fun e a=>(h.rd e a).mono s,h.th.imp fun _ _ z=>z.mono s,h.nl,h.nd,h.n1,h.n2,h.n3⟩
theorem MV.imp{e:RM}(s:∀x,A' x->A x)(h:MV A H e):MV A' H e:=⟨h.tu,h.hw,h.hm,h.ok,fun z=>h.nw (s _ z),fun z=>h.nm' (s _ z)⟩
theorem Jj.imp(s:∀x,A' x->A x)(h:Jj A H m xs dr dn lc zs M):Jj A' H m xs dr dn lc zs M:=
 ⟨h.hm,h.x1,h.x2,h.x3,h.hr,h.hn,h.hl,fun e a=>(h.rd e a).imp fun x z=>z.imp (s x) id,h.th.imp fun _ _ zz=>by rcases zz with⟨t,p,h1,h2,b⟩;exact ⟨t,p,h1,h2,b.imp fun x z=>z.imp (s x) id⟩,fun z=>h.nl (s _ z),h.nd,h.n1,h.n2,h.n3⟩
theorem Td.far{v:V}{d:PD}(s:∀x,A' x->A x\/H x=none)(h:Td A H v d):Td A' H v d:=by
 obtain⟨t,tk,b,h1,h2,e,a,c⟩:=h;refine⟨t,tk,b,h1,h2,e,a,fun z=>?_⟩;rcases s _ z with z|z
 .exact c z
 .rw[a]at z;cases z
theorem Jj.far(s:∀x,A' x->A x\/H x=none)(h:Jj A H m xs dr dn lc zs M):Jj A' H m xs dr dn lc zs M:=by
 have c:∀{a:WA} {o:HO} {A A':Addr->Prop},(∀x,A' x->A x\/H x=none)->H a=some o->¬A a->¬A' a:=fun s e n z=>by
  rcases s _ z with z|z
  .exact n z
  .rw[e]at z;cases z
 have s2:∀x,Tt A' lc x->Tt A lc x\/H x=none:=fun x z=>by
  rcases z with z|z
  .exact(s x z).imp .inl id
  .exact .inl (.inr z)
 exact⟨h.hm,h.x1,h.x2,h.x3,h.hr,h.hn,h.hl,fun e b=>⟨(h.rd e b).tu,(h.rd e b).hw,(h.rd e b).hm,(h.rd e b).ok,c s2 (h.rd e b).hw (h.rd e b).nw,c s2 (h.rd e b).hm (h.rd e b).nm'⟩,h.th.imp fun _ _ zz=>by rcases zz with⟨t,p,h1,h2,d⟩;exact ⟨t,p,h1,h2,d.far s2⟩,c s h.hl h.nl,h.nd,h.n1,h.n2,h.n3⟩
theorem Jj.kp(k:∀c o,H c=some o->((∃xs,o= .lst xs)->¬A c)->((∃xs,o= .dK xs)->c=m\/c=dr\/c=dn)->(∀C dx fs,o≠ .ins C dx fs)->(∀ps,o≠ .tbl ps)->G c=some o)(h:Jj A H m xs dr dn lc zs M):Jj A G m xs dr dn lc zs M:=by
 have b:∀c o,H c=some o->((∃xs,o= .lst xs)->¬A c)->(∀xs,o≠ .dK xs)->(∀C dx fs,o≠ .ins C dx fs)->(∀ps,o≠ .tbl ps)->G c=some o:=fun c o e h1 h2 d i=>k c o e h1 (fun⟨x,z⟩=>absurd z (h2 x)) d i
 refine⟨k _ _ h.hm (fun⟨_,z⟩=>nomatch z) (fun _=>.inl rfl) nofun nofun,h.x1,h.x2,h.x3,k _ _ h.hr (fun⟨_,z⟩=>nomatch z) (fun _=>.inr (.inl rfl)) nofun nofun,k _ _ h.hn (fun⟨_,z⟩=>nomatch z) (fun _=>.inr (.inr rfl)) nofun nofun,b _ _ h.hl (fun _=>h.nl) nofun nofun nofun,fun e f=>?_,h.th.imp fun _ _ zz=>by rcases zz with⟨t,p,h1,h2,d⟩;exact ⟨t,p,h1,b _ _ h2 (fun⟨_,z⟩=>nomatch z) nofun nofun nofun,d.kp fun c o e g=>b c o e fun y z=>g y (.inl z)⟩,h.nl,h.nd,h.n1,h.n2,h.n3⟩;have a:=h.rd e f;exact⟨b _ _ a.tu (fun⟨_,z⟩=>nomatch z) nofun nofun nofun,b _ _ a.hw (fun _ z=>a.nw (.inl z)) nofun nofun nofun,b _ _ a.hm (fun _ z=>a.nm' (.inl z)) nofun nofun nofun,a.ok,a.nw,a.nm'⟩
end
section
variable{P:Wt}{w:Wx}{K:Wy}{mg:Wp}{base:WD}
def Db(nm:Str)(rs:List RM):List RM:=rs.map fun x=>if x.nm=nm then {x with n:=x.n+ 1} else x
theorem xT(nm:Str)(rs:List RM):(Db nm rs).map (·.nm)=rs.map (·.nm):=by
 unfold Db;rw[Yp];refine YO fun x _=>?_
 show(if x.nm=nm then {x with n:=x.n+ 1} else x).nm=x.nm
 split <;> rfl
theorem tS(nm:Str)(rs:List RM):dR (Db nm rs)=dR rs:=by
 unfold Db dR;rw[Yp];refine YO fun x _=>?_
 show((if x.nm=nm then {x with n:=x.n+ 1} else x).nm,V.ref (if x.nm=nm then {x with n:=x.n+ 1} else x).t)=_
 split <;> rfl
theorem PB(rs:List RM):(dN rs).map (·.1)=rs.map (·.nm):=by unfold dN;rw[Yp];rfl
theorem Sc{nm:Str}{rs:List RM}{e:RM}(nd:(rs.map (·.nm)).Nodup)(he:e∈rs)(hn:e.nm=nm):Tg (dS (dN rs)) (.inr nm) (.int (e.n+ 1))=dS (dN (Db nm rs)):=by
 rw[Kz _ (by rw[PB];exact hn▸Xb he)];unfold dN Db;rw[Yp,Yp]
 congr 1
 refine YO fun x a=>?_
 show(if x.nm=nm then(x.nm,V.int (e.n+ 1)) else(x.nm,V.int x.n))=((if x.nm=nm then {x with n:=x.n+ 1} else x).nm,V.int (if x.nm=nm then {x with n:=x.n+ 1} else x).n)
 by_cases h:x.nm=nm
 .rw[Y9 h,Y9 h,A4 nd a he (h.trans hn.symm)]
 .rw[Y3 h,Y3 h]
theorem Sv{t:Int}{d:PD}{rs:List RM}{cs:List (Int×PD)}(nd:(rs.map (·.nm)).Nodup){e:RM}(he:e∈rs):
  ML ⟨Db e.nm rs,cs++Dd t d ⟨e.nm,e.r,e.n⟩⟩=TD t e.nm d (ML ⟨rs,cs⟩):=by
 have hf:(rs.map fun e=>(⟨e.nm,e.r,e.n⟩:AR)).find? (fun x=>decide (x.nm=e.nm))=some ⟨e.nm,e.r,e.n⟩:=by
  clear d
  induction rs with
  |nil=>exact nomatch he
  |cons x r ih=>
   rw[List.map_cons,XB];rcases Yu.mp he with rfl|z
   .simp
   .have a:¬x.nm=e.nm:=fun q=>(Xg.mp nd).1 (Yw.mpr ⟨e,z,q.symm⟩)
    rw[Ys a];exact ih (Xg.mp nd).2 z
 unfold TD ML;dsimp only;rw[hf];dsimp only
 congr 1
 unfold BI Db;rw[Yp,Yp];refine YO fun x _=>?_
 show(⟨(if x.nm=e.nm then {x with n:=x.n+ 1} else x).nm,(if x.nm=e.nm then {x with n:=x.n+ 1} else x).r,(if x.nm=e.nm then {x with n:=x.n+ 1} else x).n⟩:AR)=if x.nm=e.nm then {(⟨x.nm,x.r,x.n⟩:AR) with n:=x.n+ 1} else⟨x.nm,x.r,x.n⟩
 split <;> rfl
def Tu(a b:List RM):Prop:=a.map (fun e=>(e.nm,e.r))=b.map fun e=>(e.nm,e.r)
theorem Tu.bump{nm:Str}{a b:List RM}(h:Tu a b):Tu (Db nm a) b:=by
 unfold Tu at h ⊢;rw[<-h];unfold Db;rw[Yp];refine YO fun x _=>?_
 show(let y:=(if x.nm=nm then {x with n:=x.n+ 1} else x);(y.nm,y.r))=_
 split <;> rfl
theorem Tu.mem{a b:List RM}(h:Tu a b){x:RM}(hx:x∈b):∃y∈a,y.nm=x.nm/\y.r=x.r:=by
 have:(x.nm,x.r)∈a.map fun e=>(e.nm,e.r):=by
  rw[h];exact Xb (f:=fun e:RM=>(e.nm,e.r)) hx
 obtain⟨y,c,e⟩:=Yw.mp this;simp only[Prod.mk.injEq]at e;exact⟨y,c,e⟩
section
variable{A:Addr->Prop}{H G:Hp}{m dr dn lc:WA}{xs:List (Str×V)}{zs:List V}{M:Tz}
theorem Mz.but{v:V}{x:Int×PD}(b:JS lc H G)(hl:H lc=some (.lst zs))(h:Mz (Tt A lc) H v x):Mz (Tt A lc) G v x:=by
 obtain⟨t,p,h1,h2,a⟩:=h;exact⟨t,p,h1,b _ _ h2 (WL h2 hl nofun),a.but b hl (.inr rfl)⟩
theorem Jj.push{v:V}{x:Int×PD}(h:Jj A H m xs dr dn lc zs M)(b:JS lc H G)(hG:G lc=some (.lst (zs++[v])))(hv:Mz (Tt A lc) H v x):Jj A G m xs dr dn lc (zs++[v]) ⟨M.rs,M.cs++[x]⟩:=
 ⟨b _ _ h.hm (WL h.hm h.hl nofun), h.x1, h.x2, h.x3, b _ _ h.hr (WL h.hr h.hl nofun), b _ _ h.hn (WL h.hn h.hl nofun), hG, fun e c => by
  have a:=h.rd e c;exact⟨b _ _ a.tu (WL a.tu h.hl nofun),b _ _ a.hw fun z=>a.nw (.inr z),b _ _ a.hm fun z=>a.nm' (.inr z),a.ok,a.nw,a.nm'⟩,
  (h.th.imp fun _ _ z => z.but b h.hl).snoc (hv.but b h.hl), h.nl, h.nd, h.n1, h.n2, h.n3⟩
theorem Jj.count{e:RM}(h:Jj A H m xs dr dn lc zs M)(he:e∈M.rs)(b:JS dn H G)(hG:G dn=some (.dK (Tg (dS (dN M.rs)) (.inr e.nm) (.int (e.n+ 1))))):Jj A G m xs dr dn lc zs ⟨Db e.nm M.rs,M.cs⟩:=by
 have a:∀{c:WA} {o:HO},H c=some o->(∀l,o≠ .dK l)->G c=some o:=fun f n=>b _ _ f (fun z=>by subst z;rw[h.hn]at f;cases f;exact n _ rfl)
 refine⟨b _ _ h.hm h.n2,h.x1,h.x2,h.x3,?_,?_,a h.hl nofun,fun x u=>?_,h.th.imp fun _ _ z=>?_,h.nl,?_,h.n1,h.n2,h.n3⟩
 .show G dr=some (.dK (dS (dR (Db e.nm M.rs))));rw[tS];exact b _ _ h.hr h.n1
 .rw[hG,Sc h.nd he rfl]
 .obtain⟨y,s,rfl⟩:=Yw.mp u;have d:=h.rd y s;have:MV (Tt A lc) G y:=⟨a d.tu nofun,a d.hw nofun,a d.hm nofun,d.ok,d.nw,d.nm'⟩
  split
  .exact⟨this.tu,this.hw,this.hm,this.ok,this.nw,this.nm'⟩
  .exact this
 .obtain⟨t,p,h1,h2,g,tk,w,k1,r,q,j,i⟩:=z;exact⟨t,p,h1,a h2 nofun,g,tk,w,k1,a r nofun,a q nofun,a j nofun,i⟩
 .show((Db e.nm M.rs).map (·.nm)).Nodup;rw[xT];exact h.nd
end
inductive P7(vs:List V)(H:Hp)(Q:VK)(E:XK):Prop|mk (A:Addr->Prop) (m tk b ln dr dn lc:WA) (xs:List (Str×V)) (zs:List V) (M:Tz) (t:Int) (d:PD) (wd:Nat) (ns:List Str) (_:vs=[.ref m,.int t,.ref tk,.ref b,.int wd,.ref ln]) (_:Jj A H m xs dr dn lc zs M) (_:d.at'=0) (_:d.mo=false) (_:H tk=some (.tup (EB d.ky))) (_:H b=some (.lst (d.ns.map V.int))) (_:1 <=d.ns.length) (_:d.ns.length <=4000) (_:8 <=wd) (_:H ln=some (.lst (ns.map V.str))) (_:ln≠lc) (_:1 <=ns.length) (_:ns.length <=100) (_:(∀n∈ns,∃e∈M.rs,e.nm=n)) (_:(∀d'∈J1 wd d 0,∀e∈M.rs,e.nm∈ns->JC e.r.ws [d'])) (_:(∀x,A x->H x≠none)) (_:M.rs.length <=100) (_:M.cs.length+ d.ns.length <=5000) (_:∀M' zs' G,(∀c o,H c=some o->c≠dn->c≠lc->G c=some o)->Jj A G m xs dr dn lc zs' M'->Tu M'.rs M.rs->ML M'=Dx t ns 0 (J1 wd d 0) (ML M)->Q (.int (J1 wd d 0).length) G)
abbrev KI:Stmt:=JX 57
theorem RD:JN ["_law_m","_law_time","_law_key_here","_law_body_here","_law_width","_law_names","_law_pieces","_law_k","_law_name","_law_widths_here","_law_delay","_law_missing","_law_piece"] ["_law_m","_law_time","_law_key_here","_law_body_here","_law_width","_law_names"] (WF KI):=by walk_at"e"
theorem tD{f:WA}{fd:Wv}(F:JT K "_law_sent" "_law_sent" KI f fd)(B:Bt mg)(NI:JI P w K mg base "_law_cut" 1 ["_law_key_here","_law_body_here","_law_at","_law_more","_law_width"] [] Ir)(Tk:JI P w K mg base "_law_over" 2 ["_law_piece","_law_widths_here"] [] PH):WQ P w K mg base Jr 3 f fd ["_law_m","_law_time","_law_key_here","_law_body_here","_law_width","_law_names"] P7:=by
 refine F.ok RD (fun vs H Q E h=>?_) (fun cdv A' outer s H vs Q E hr h=>?_)
 .obtain⟨A,m,tk,b,ln,dr,dn,lc,xs,zs,M,t,d,wd,ns,rfl,_⟩:=h;rfl
 .obtain⟨A,m,tk,b,ln,dr,dn,lc,xs,zs,M,t,d,wd,ns,rfl,hM,at0',mo0,htk,hb,d1,d4,w8,hln,nln,m1,m2,hns,hfit,hA,n1,n2,qq⟩:=h;refine⟨_,(WX (Nf 6 RD (Jx NI hr.m rfl (WR 2 (WR 3 (Nb WM (Nb Mm (WR 4 WK))))))) (WX (Dz YZ rfl (Ge rfl B.range (Dc (N3 (Mb (Mc (K:=K) rfl)) B.len (WR 6 WK)) WK)) (Md 7 RD) (WX (Nf 8 RD (T5 K (WG 5) (J0 (dI Na) (WG 7) (N3 (Mb (Mc (K:=K) rfl)) B.len (WR 5 WK))))) (WX (Qk (NG hr (NG hr (WG 0) JM) (WG 8)) (E8 (K:=K) (n:=3) rfl rfl (MK (Md 9 RD) (MK (Md 10 RD) (MK (Md 11 RD) RY))))) (WX (Bc (Ny (EE (Ow (K:=K) rfl) (NG hr (NG hr (WG 0) JM) (WG 8)) (WG 11) (by with_unfolding_all rfl)) (Jg (Dz YZ rfl (Tw (K:=K) rfl (Jx Tk hr.m rfl (De (T5 K (WG 6) (WG 7)) (WR 9 WK)))) (Md 12 RD) (Jg (Mn (Dh (K:=K) rfl YI YQ YR (Gr GB) (NG hr (WG 0) JM) (WW (hs:=Gk) (MO (WW (hs:=TF) (J0 (Jz Nw) (WG 1) (WG 10)) (WR 12 WK))) WK)))))) NB)) (Jg (Gd (MP hr) (NG hr (WG 0) JM) (WG 8) (J0 (Jz Nw) (NG hr (NG hr (WG 0) JM) (WG 8)) WM) rfl)))))) (Jg (JB (N3 (Mb (Mc (K:=K) rfl)) B.len (WR 6 WK)))))),?_⟩;refine Ja fun N hN=>?_
  walk_at"rd";refine⟨tk,b,d,wd,by rw[at0',mo0],htk,hb,d1,d4,w8,fun l0 ps G0 hl0 s0 hG0 hps=>hN _ _ ?_⟩;clear hN N;refine Ja fun N hN=>?_
  walk_at"rd";have lens:=CH wd d 0;refine⟨_,.inl (WJ.of hG0),by omega,by rw[hps.1];omega,?_⟩;rw[show((ps.length:Int)).toNat=ps.length by omega];obtain⟨u,edsv⟩:∃u,u=J1 wd d 0:=⟨_,rfl⟩;rw[<-edsv]at hps hfit lens qq;have htt:tot u=d.ns.length:=by rw[edsv];exact Hs w8 d1
  have hcp:∀e∈u,1 <=e.ns.length/\e.ns.length <=d.ns.length/\e.ky=d.ky:=by
   rw[edsv];exact NC.pos (Y6 _) (BV (d:=d) w8 _ 0 (Y6 _) (by omega) rfl)
  obtain⟨Pv,ePv⟩:∃Pv:Nat->L2.St->Hp->Prop,Pv=fun i σ' G=>∃ (p:Tz) (zi:List V) (v7 v8 v9 v10 v11 v12:Option V),σ'=[some (.ref m),some (.int t),some (.ref tk),some (.ref b),some (.int wd),some (.ref ln),some (.ref l0),v7,v8,v9,v10,v11,v12]/\(∀c o,G0 c=some o->c≠dn->c≠lc->G c=some o)/\Jj A G m xs dr dn lc zi p/\Tu p.rs M.rs/\ML p=Dx t ns 0 (u.take i) (ML M)/\p.cs.length <=M.cs.length+ tot (u.take i):=⟨_,rfl⟩
  have l0c:l0≠lc:=Ne.symm (J6 hM.hl hl0);refine K7 Pv (by rw[ePv];exact⟨M,zs,none,none,none,none,none,none,rfl,fun c o h _ _=>h,hM.mono s0,rfl,rfl,XG _ _⟩) ?_ ?_ <;> rw[ePv]
  .intro i σ' G hi Zq;obtain⟨p,zi,v7,v8,v9,v10,v11,v12,rfl,kG,l,hsm,hab,hlen⟩:=Zq;rw[<-ePv];have hlnG:=kG _ _ (s0 _ _ hln) (WL (s0 _ _ hln) (s0 _ _ hM.hn) nofun) nln;obtain⟨nm,hnm⟩:∃nm,ns[i%ns.length]?=some nm:=⟨_,Y5 (VI _ (by omega))⟩;obtain⟨e0,he0,en0⟩:=hns nm (Ya hnm);obtain⟨e,he,en,er⟩:=hsm.mem he0;rw[en0]at en;subst en;have hR:=l.rd e he;have dg:∀{xs:List (Str×V)} {a:WA} {H':Hp} {n:Str} {v:V},H' a=some (.dK (dS xs))->xs.lookup n=some v->NJ H' a (.str n) (some v):=fun h1 h2=>.inl ⟨_,.inr _,.inl h1,rfl,by rw[GC];exact h2.symm⟩
   have lR:(dR p.rs).lookup e.nm=some (.ref e.t):=RT (f:=(·.nm)) (g:=fun e:RM=>V.ref e.t) l.nd he;have lN:(dN p.rs).lookup e.nm=some (.int e.n):=RT (f:=(·.nm)) (g:=fun e:RM=>V.int e.n) l.nd he;have hi':i < u.length:=by rw[<-hps.1];exact hi
   obtain⟨d',hd'⟩:∃d',u[i]?=some d':=⟨_,Y5 hi'⟩;obtain⟨c1,c2,c3⟩:=hcp d' (Ya hd');have htk:=KP (ds:=u) (i:=i) hd';have htl:=L0 u (i+ 1);refine Ja fun N hN=>?_
   walk_at"rd";refine⟨_,.inl (WJ.of hlnG),by rw[Y1];omega,_,WJ.of hlnG,.str e.nm,?_,hN _ _ ?_⟩
   .rw[Y1,show((0+ (i:Int))%(ns.length:Int))=((i%ns.length:Nat):Int) by rw[XR];omega];refine DY ?_;rw[Yf,hnm];rfl
   clear hN N;refine Ja fun N hN=>?_
   walk_at"rd";refine⟨_,dg l.hm l.x1,dr,rfl,_,dg l.hr lR,e.t,rfl,_,N9.of hR.tu,rfl,_,_,rfl,_,_,rfl,_,_,rfl,rfl,hN _ _ ?_⟩;clear hN N;refine Ja fun N hN=>?_
   walk_at"rd";obtain⟨Pu,ePu⟩:∃Pu:L2.St->Hp->Prop,Pu=fun σ' G1=>∃ (zi':List V) (q:Option V),σ'=[some (.ref m),some (.int t),some (.ref tk),some (.ref b),some (.int wd),some (.ref ln),some (.ref l0),some (.int (0+ (i:Int))),some (.str e.nm),some (.ref e.aw),some (.int e.r.dl),some (.ref e.am),q]/\(∀c o,G c=some o->c≠lc->G1 c=some o)/\Jj A G1 m xs dr dn lc zi' ⟨p.rs,p.cs++Dd t d' ⟨e.nm,e.r,e.n⟩⟩:=⟨_,rfl⟩
   refine⟨Pu,?_,?_⟩
   .refine⟨_,dg l.hm l.x2,dn,rfl,_,dg l.hn lN,_,_,rfl,.inl (WJ.of hR.hm),rfl,by simp[GI],_,rfl,?_⟩;rw[Y9 rfl,Ln]
    by_cases hm':e.n∈e.r.lo
    .rw[Yq hm',Y3 (by simp),ePu];refine⟨zi,_,rfl,fun c o h _=>h,?_⟩;rw[show Dd t d' ⟨e.nm,e.r,e.n⟩=[] from Y9 hm',List.append_nil];exact l
    .rw[Ys hm',Y9 (by simp)];have hGl0:=kG _ _ hG0 (WL hG0 (s0 _ _ hM.hn) nofun) l0c;obtain⟨v,hv⟩:∃v,ps[i]?=some v:=⟨_,Y5 hi⟩;obtain⟨d2,hd2,hX⟩:=hps.get hv;rw[hd']at hd2;cases hd2;obtain⟨t1,tk1,b1,rfl,x1,x2,x3,x4⟩:=hX;have hX':Td (fun _=>False) G (.ref t1) d':=⟨t1,tk1,b1,rfl,kG _ _ x1 (WL x1 (s0 _ _ hM.hn) nofun) (WL x1 (s0 _ _ hM.hl) nofun),kG _ _ x2 (WL x2 (s0 _ _ hM.hn) nofun) (WL x2 (s0 _ _ hM.hl) nofun),kG _ _ x3 (WL x3 (s0 _ _ hM.hn) nofun) (fun z=>x4 (by rw[z];unfold DL;rw[hM.hl];simp)),id⟩;have hf:=hfit d' (Ya hd') e0 he0 (by rw[en0];exact Ya hnm);rw[<-er]at hf;have hA':∀x,Tt A lc x->DL G x:=fun x z=>by
      rcases z with z|z
      .intro hx;cases e':H x with
       |none=>exact hA x z e'
       |some o=>
        by_cases z1:x=dn
        .rw[z1,l.hn]at hx;cases hx
        .by_cases z2:x=lc
         .rw[z2,l.hl]at hx;cases hx
         .rw[kG x o (s0 _ _ e') z1 z2]at hx;cases hx
      .rw[z];unfold DL;rw[l.hl];simp
     refine⟨_,WJ.of hGl0,.ref t1,by rw[XR];exact DY hv,.ref t1,e.aw,d',e.r.ws,rfl,hX',hR.hw,hf,hR.ok.l1,hR.ok.l2,fun w hw=>(hR.ok.ok w hw).1,c1,by omega,fun lo zo G3 hlo s3 hG3 hzo=>⟨lo,rfl,⟨_,WJ.of hG3⟩,?_⟩⟩;have loc:lo≠lc:=Ne.symm (J6 l.hl hlo);have hzl:zo.length <=d'.ns.length:=by rw[hzo.1];exact BO c1 hR.ok.ok
     obtain⟨Pj,ePj⟩:∃Pj:Nat->L2.St->Hp->Prop,Pj=fun j σ' G4=>∃ (zj:List V) (q:Option V),σ'=[some (.ref m),some (.int t),some (.ref tk),some (.ref b),some (.int wd),some (.ref ln),some (.ref l0),some (.int (0+ (i:Int))),some (.str e.nm),some (.ref e.aw),some (.int e.r.dl),some (.ref e.am),q]/\(∀c o,G3 c=some o->c≠lc->G4 c=some o)/\Jj A G4 m xs dr dn lc zj ⟨p.rs,p.cs++((Ju e.r.ws [d']).take j).map fun x=>(t+ e.r.dl,x)⟩:=⟨_,rfl⟩
     refine Rg (xs:=zo) Pj (by rw[ePj];exact⟨zi,v12,rfl,fun c o h _=>h,by rw[List.take_zero,List.map_nil,List.append_nil];exact l.mono s3⟩) ?_ ?_ ?_ <;> rw[ePj]
     .intro j σ' G4 _ Zq;obtain⟨zj,q,rfl,k4,_⟩:=Zq;exact WJ.of (k4 _ _ hG3 loc)
     .intro j x σ' G4 hx Zq;obtain⟨zj,q,rfl,k4,hM4⟩:=Zq;rw[<-ePj];obtain⟨dj,hdj,hX⟩:=hzo.get hx;walk_at"rd";obtain⟨t2,tk2,b2,rfl,y1,y2,y3,y4⟩:=hX;have nb2:b2≠lc:=fun z=>y4 (by rw[z];unfold DL;rw[l.hl];simp)
      have hX4:Td (Tt A lc) G4 (.ref t2) dj:=⟨t2,tk2,b2,rfl,k4 _ _ y1 (WL y1 (s3 _ _ l.hl) nofun),k4 _ _ y2 (WL y2 (s3 _ _ l.hl) nofun),k4 _ _ y3 nb2,fun z=>y4 (hA' _ z)⟩;have hzl':zj.length <=9001:=by
       have h1:=hM4.th.1;rw[List.length_append,Y1,YC]at h1;have h2:=BO c1 hR.ok.ok;omega
      refine⟨_,dg hM4.hm hM4.x3,.inl ⟨rfl,_,WJ.of hM4.hl⟩,by decide,fun p1 G5 hp1 s5 h5=>⟨lc,rfl,_,s5 _ _ hM4.hl,by rw[Yh];omega,fun G6 b6 h6=>?_⟩⟩;rw[ePj];have hM6:=(hM4.mono s5).push b6 h6 (x:=(t+ e.r.dl,dj)) ⟨p1,_,rfl,h5,hX4.mono s5⟩;refine⟨zj++[.ref p1],_,rfl,fun c o h n=>b6 c o (s5 c o (k4 c o h n)) n,?_⟩;rw[YD,hdj,YH,Yd,<-List.append_assoc];exact hM6
     .intro σ' G4 Zq;obtain⟨zj,q,rfl,k4,hM4⟩:=Zq;rw[ePu];rw[hzo.1,YE]at hM4;refine⟨zj,q,rfl,fun c o h n=>k4 c o (s3 c o h) n,?_⟩;rw[show Dd t d' ⟨e.nm,e.r,e.n⟩=(Ju e.r.ws [d']).map fun x=>(t+ e.r.dl,x) from Y3 hm'];exact hM4
   .rw[ePu];intro σ' G1 Zq;obtain⟨zi',q,rfl,k1,hM1⟩:=Zq;refine hN _ _ ?_;clear hN N;walk_at"rd";have lenN:(dS (dN p.rs)).length < sizeLine:=by
     have h1:=YB List.length hsm;rw[Y1,Y1]at h1;unfold dS dN;rw[Y1,Y1,Yh];omega
    refine⟨_,dg hM1.hm hM1.x2,dn,rfl,_,dg hM1.hn lN,_,rfl,_,dg hM1.hm hM1.x2,dn,rfl,_,hM1.hn,lenN,fun G2 b2 h2=>?_⟩;rw[ePv];have hgo:(Dd t d' ⟨e.nm,e.r,e.n⟩).length <=d'.ns.length:=by
     unfold Dd
     split
     .exact Yj _
     .rw[Y1];exact BO c1 hR.ok.ok
    refine⟨_,zi',_,_,_,_,_,_,rfl,fun c o h a1 a2=>b2 c o (k1 c o (kG c o h a1 a2) a2) a1,hM1.count he b2 h2,hsm.bump,?_,?_⟩
    .show ML ⟨Db e.nm p.rs,p.cs++Dd t d' ⟨e.nm,e.r,e.n⟩⟩=_;rw[Sv l.nd he,YD,hd',YH,Fo,<-hab,YC,show 0+ min i u.length=i by omega];show TD t e.nm d' (ML p)=_
     congr 1
     rw[YJ,hnm];rfl
    .show(p.cs++_).length <=_;rw[List.length_append];omega
  .intro σ' G Zq;obtain⟨p,zi,v7,v8,v9,v10,v11,v12,rfl,kG,l,hsm,hab,hlen⟩:=Zq;refine hN _ _ ?_;clear hN N;walk_at"rd";refine⟨_,.inl (WJ.of (kG _ _ hG0 (WL hG0 (s0 _ _ hM.hn) nofun) l0c)),?_⟩;rw[hps.1]at hab ⊢;rw[YE]at hab;exact qq p zi G (fun c o h a1 a2=>kG c o (s0 _ _ h) a1 a2) l hsm hab
end
section
variable{P:Wt}{w:Wx}{K:Wy}{mg:Wp}{base:WD}
structure Qe(cs ms:List (Int×PD)):Prop where
 so:ms.Pairwise fun a b=>a.1 <=b.1
 eq:∀v,ms.filter (fun c=>decide (c.1=v))=cs.filter fun c=>decide (c.1=v)
def To(t:Int)(cs:List (Int×PD)):List (Int×PD):=cs.filter fun c=>decide (c.1 <=t)
def ET(t:Int)(cs:List (Int×PD)):List (Int×PD):=cs.filter fun c=>decide (c.1 > t)
theorem P4{cs:List (Int×PD)}(w:Int):∀{ms:WB},ms.Nodup->(ms.flatMap fun v=>cs.filter fun c=>decide (c.1=v)).filter (fun c=>decide (c.1=w))=if w∈ms then cs.filter (fun c=>decide (c.1=w)) else []
 |[],_=>rfl
 |v::r,nd=>by
  rw[Xg]at nd;rw[VE,U1,P4 w nd.2,UO]
  by_cases h:v=w
  .subst h;rw[Y3 nd.1,List.append_nil,Y9 Ym]
   congr 1
   funext c
   rw[Bool.and_self]
  .have e:(cs.filter fun c=>decide (c.1=w) && decide (c.1=v))=[]:=by
    rw[V0];intro c _;rw[YN,Yt,Yt];exact fun z=>h (z.2.symm.trans z.1)
   rw[e,List.nil_append]
   by_cases hw:w∈r
   .rw[Y9 hw,Y9 (Yl _ hw)]
   .rw[Y3 hw,Y3 (fun z=>by rcases Yu.mp z with z|z;exact h z.symm;exact hw z)]
theorem KQ{cs:List (Int×PD)}:∀{ms:WB},ms.Pairwise (· <=·)->(ms.flatMap fun v=>cs.filter fun c=>decide (c.1=v)).Pairwise fun a b=>a.1 <=b.1
 |[],_=>.nil
 |v::r,so=>by
  rw[X2]at so;rw[VE,Yo];refine⟨?_,KQ so.2,fun a ha b hb=>?_⟩
  .refine List.pairwise_of_forall_mem_list fun a ha b hb=>?_
   have h1:=Xd (YU.mp ha).2;have h2:=Xd (YU.mp hb).2;omega
  .have h1:=Xd (YU.mp ha).2;obtain⟨e,d,hb⟩:=VR.mp hb;have h2:=Xd (YU.mp hb).2;have:=so.1 e d;omega
theorem uN{t:Int}{cs:List (Int×PD)}{ms:WB}(nd:ms.Nodup)(so:ms.Pairwise (· <=·))(mem:∀n,n∈ms↔n∈(To t cs).map (·.1)):Qe (To t cs) (ms.flatMap fun v=>cs.filter fun c=>decide (c.1=v)):=by
 refine⟨KQ so,fun v=>?_⟩;rw[P4 v nd];unfold To;rw[UO]
 by_cases h:v∈ms
 .rw[Y9 h];obtain⟨c,b,e⟩:=Yw.mp ((mem v).mp h);have d:=Xd (YU.mp b).2;refine List.filter_congr fun x _=>?_
  by_cases z:x.1=v
  .rw[Yq z,Yq (show x.1 <=t by omega)];rfl
  .rw[Ys z];rfl
 .rw[Y3 h];refine(V0.mpr fun x a=>?_).symm;rw[YN,Yt,Yt];exact fun z=>h ((mem v).mpr (Yw.mpr ⟨x,YU.mpr ⟨a,Yq z.2⟩,z.1⟩))
def EH(xs:List (Str×V))(n:Str)(v:V):List (Str×V):=xs.map fun e=>if e.1=n then(e.1,v) else e
theorem ED(n k:Str)(v:V):∀xs:List (Str×V),(EH xs n v).lookup k=if k=n then(xs.lookup k).map (fun _=>v) else xs.lookup k
 |[]=>by show none=_;split <;> rfl
 |(a,x)::r=>by
  have ih:=ED n k v r;unfold EH at ih ⊢;rw[List.map_cons]
  by_cases h:a=n
  .rw[Y9 h]
   by_cases hk:k=a
   .rw[hk,Y9 h];simp[List.lookup]
   .have e:(k==a)=false:=by simpa using hk
    rw[List.lookup,e,List.lookup,e];exact ih
  .rw[Y3 h]
   by_cases hk:k=a
   .rw[hk,Y3 h];simp[List.lookup]
   .have e:(k==a)=false:=by simpa using hk
    rw[List.lookup,e,List.lookup,e];exact ih
inductive L5(vs:List V)(H:Hp)(Q:VK)(E:XK):Prop|mk (A:Addr->Prop) (m dr dn lc:WA) (xs:List (Str×V)) (zs:List V) (M:Tz) (t:Int) (_:vs=[.ref m,.int t]) (_:Jj A H m xs dr dn lc zs M) (_:M.cs.length <=3900) (_:xs.length <=10) (_:(∀x,A x->H x≠none)) (_:∀l lc' ys ds zs' G,H l=none->H lc'=none->(∀c o,H c=some o->c≠m->G c=some o)->G l=some (.lst ys)->Pw (Mz (Tt A lc) G) ys ds->Qe (To t M.cs) ds->Jj A G m (EH xs "coming" (.ref lc')) dr dn lc' zs' ⟨M.rs,ET t M.cs⟩->Q (.ref l) G)
abbrev Ec:Stmt:=JX 58
theorem AG:JN ["_law_m","_law_time","_law_found","_law_due"] ["_law_m","_law_time"] (WF Ec):=by walk_at"e"
theorem xS{f:WA}{fd:Wv}(F:JT K "_law_fetched" "_law_fetched" Ec f fd)(B:Bt mg)(B2:E3 mg)(B7:Oz mg):WQ P w K mg base Jr 2 f fd ["_law_m","_law_time"] L5:=by
 refine F.ok AG (fun vs H Q E h=>?_) (fun cdv A' outer s H vs Q E hr h=>?_)
 .obtain⟨A,m,dr,dn,lc,xs,zs,M,t,rfl,_⟩:=h;rfl
 .obtain⟨A,m,dr,dn,lc,xs,zs,M,t,rfl,hM,hn,hx,hA,q⟩:=h;refine⟨_,(WX (Nf 2 AG (Np WK)) (WX (Dz YZ rfl (Tw (K:=K) rfl (N3 (u9 (w:=w) rfl (WV.units hr) rfl) B2.sorted (Dc (R0 (Zo (K:=K) (w:=w) rfl rfl rfl) rfl B7.bset (by rfl) (WW (hs:=Rx) (TU (N':=["_law_one","_law_time"]) (caps:=[none,some 1]) (Tf (sc:=WF Ec) (N:=["_law_m","_law_time","_law_found","_law_due"]) rfl rfl (by decide +kernel)) rfl (Tw (K:=K) rfl (NG hr (WG 0) JM)) (fun _ _ _ _ _=>(T3 (i:=0) (T9 (N:=["_law_one","_law_time"]) rfl (by decide +kernel)) rfl (Or.inl rfl))) (fun _ _ _ _ _=>(Rp (ND (Jz Gz) (DU K (WG 0) WM) (WG 1)))) (fun _ _ _ _ _=>(DU K (WG 0) WM))) WK)) WK))) (T3 (i:=3) (AG).nd rfl (Or.inr rfl)) (Jg (Nf 2 AG (J0 (RN Rz) (WG 2) (TU (N':=["_law_one","_law_due"]) (caps:=[none,some 3]) (Tf (sc:=WF Ec) (N:=["_law_m","_law_time","_law_found","_law_due"]) rfl rfl (by decide +kernel)) rfl (Tw (K:=K) rfl (NG hr (WG 0) JM)) (fun _ _ _ _ _=>(T3 (i:=0) (T9 (N:=["_law_one","_law_due"]) rfl (by decide +kernel)) rfl (Or.inl rfl))) (fun _ _ _ _ _=>(Rp (ND (MZ D9) (DU K (WG 0) WM) (WG 1)))) (fun _ _ _ _ _=>(WG 0))))))) (WX (Gd (MP hr) (WG 0) JM (TU (N':=["_law_one","_law_time"]) (caps:=[none,some 1]) (Tf (sc:=WF Ec) (N:=["_law_m","_law_time","_law_found","_law_due"]) rfl rfl (by decide +kernel)) rfl (Tw (K:=K) rfl (NG hr (WG 0) JM)) (fun _ _ _ _ _=>(T3 (i:=0) (T9 (N:=["_law_one","_law_time"]) rfl (by decide +kernel)) rfl (Or.inl rfl))) (fun _ _ _ _ _=>(Rp (ND (Jz Rs) (DU K (WG 0) WM) (WG 1)))) (fun _ _ _ _ _=>(WG 0))) rfl) (Jg (JB (WG 2)))))),?_⟩;refine Ja fun N hN=>?_
  walk_at"rd";refine⟨Yj _,fun l0 G0 hl0 s0 hG0=>hN _ _ ?_⟩;clear hN N;refine Ja fun N hN=>?_
  walk_at"rd";have dg:∀{xs:List (Str×V)} {a:WA} {H':Hp} {n:Str} {v:V},H' a=some (.dK (dS xs))->xs.lookup n=some v->NJ H' a (.str n) (some v):=fun h1 h2=>.inl ⟨_,.inr _,.inl h1,rfl,by rw[GC];exact h2.symm⟩
  have hM0:=hM.mono s0;have ezl:zs.length=M.cs.length:=hM.th.1;refine⟨_,dg hM0.hm hM0.x3,lc,rfl,⟨_,WJ.of hM0.hl⟩,?_⟩;obtain⟨Pv,ePv⟩:∃Pv:Nat->List V->L2.St->Hp->Prop,Pv=fun i ys σ' G=>G=G0/\ys=((To t (M.cs.take i)).map (·.1)).map V.int/\∃v,σ'=[v,some (.int t)]:=⟨_,rfl⟩
  refine MY (xs:=zs) Pv (by rw[ePv];exact⟨rfl,rfl,none,rfl⟩) ?_ (Nm (by omega)) ?_ ?_ <;> rw[ePv]
  .rintro i ys σ' G ⟨rfl,rfl,_⟩ _;refine⟨WJ.of hM0.hl,?_⟩;have h1:=Xu (fun c:Int×PD=>decide (c.1 <=t)) (M.cs.take i);rw[YC]at h1;rw[Y1,Y1];unfold To;omega
  .intro i y ys σ' G hy Zq;obtain⟨rfl,rfl,v,rfl⟩:=Zq;rw[<-ePv];obtain⟨c,hc,t1,p1,rfl,h1,h2⟩:=hM0.th.get hy;walk_at"rd";have e0:To t (M.cs.take (i+ 1))=To t (M.cs.take i)++if c.1 <=t then [c] else []:=by
    unfold To;rw[YD,hc,YH,U1]
    congr 1
    by_cases z:c.1 <=t
    .rw[Y9 z];simp[z]
    .rw[Y3 z];simp[z]
   refine⟨_,N9.of h1,_,rfl,_,rfl,?_⟩
   by_cases z:c.1 <=t
   .rw[Y9 (by rw[Yq z])];refine⟨_,N9.of h1,_,rfl,?_⟩;rw[ePv];refine⟨rfl,?_,_,rfl⟩;rw[e0,Y9 z,Yd,Yd];rfl
   .rw[Y3 (by rw[Ys z];simp),ePv];refine⟨rfl,?_,_,rfl⟩;rw[e0,Y3 z,List.append_nil]
  rintro ys σ' G ⟨rfl,rfl,_⟩ l1 G1 hl1 s1 hG1;rw[ezl,YE]at hG1;have hle:=Xu (fun c:Int×PD=>decide (c.1 <=t)) M.cs;refine⟨l1,rfl,_,WJ.of hG1,by rw[Y1];unfold To;omega,fun m1 o l2 G2 nd1 mem1 TR set1 hl2 s2 hG2=>⟨o,hG2,m1,set1,?_,fun ms l3 G3 pm so hl3 s3 hG3=>⟨⟨_,WJ.of hG3⟩,?_⟩⟩⟩
  .rw[Y1]at TR;unfold To at TR;omega
  have s03:=s1.trans (s2.trans s3);have hM3:=hM0.mono s03;obtain⟨Pf,ePf⟩:∃Pf:Nat->L2.St->Hp->Prop,Pf=fun j σ' G=>∃ (l':WA) (ys:List V) (v:Option V),σ'=[some (.ref m),some (.int t),some (.ref l'),v]/\WH G3 G/\H l'=none/\G l'=some (.lst ys)/\Pw (Mz (Tt A lc) G) ys ((ms.take j).flatMap fun v=>M.cs.filter fun c=>decide (c.1=v))/\ys.length <=j*4000:=⟨_,rfl⟩
  refine Rg (xs:=ms.map V.int) Pf (by rw[ePf];exact⟨l0,[],none,rfl,WH.refl _,hl0,s03 _ _ hG0,.nil,Yj _⟩) ?_ ?_ ?_ <;> rw[ePf]
  .intro j σ' G _ Zq;obtain⟨l',ys,v,rfl,s4,_⟩:=Zq;exact WJ.of (s4 _ _ hG3)
  .intro j x σ' G hx' Zq;obtain⟨l',ys,v,rfl,s4,hl',hG,hy,hyl⟩:=Zq;rw[<-ePf];rw[Yf]at hx';obtain⟨u,hdue,rfl⟩:=Yy.mp hx';walk_at"rd";have b:=hM3.mono s4;refine⟨_,dg b.hm b.x3,lc,rfl,⟨_,WJ.of b.hl⟩,?_⟩;obtain⟨Pd,ePd⟩:∃Pv:Nat->List V->L2.St->Hp->Prop,Pv=fun i ys σ' p=>p=G/\Pw (Mz (Tt A lc) G) ys ((M.cs.take i).filter fun c=>decide (c.1=u))/\ys.length <=i/\∃v,σ'=[v,some (.int u)]:=⟨_,rfl⟩
   refine MY (xs:=zs) Pd (by rw[ePd];exact⟨rfl,.nil,Y6 _,none,rfl⟩) ?_ (Nm (by omega)) ?_ ?_ <;> rw[ePd]
   .rintro i ys9 σ' p ⟨rfl,r,g,_⟩ _;exact⟨WJ.of b.hl,g⟩
   .intro i y ys9 σ' p hy9 Zq;obtain⟨rfl,r,g,v9,rfl⟩:=Zq;rw[<-ePd];obtain⟨c,hc,t1,p1,rfl,h1,h2⟩:=b.th.get hy9;walk_at"rd";have e0:(M.cs.take (i+ 1)).filter (fun c=>decide (c.1=u))=(M.cs.take i).filter (fun c=>decide (c.1=u))++if c.1=u then [c] else []:=by
     rw[YD,hc,YH,U1]
     congr 1
     by_cases z:c.1=u
     .rw[Y9 z];simp[z]
     .rw[Y3 z];simp[z]
    refine⟨_,N9.of h1,_,rfl,rfl,?_⟩
    by_cases z:c.1=u
    .rw[Y9 (by rw[z];simp)];rw[ePd];refine⟨rfl,?_,by rw[List.length_append];exact Wg g 1,_,rfl⟩;rw[e0,Y9 z];exact r.snoc ⟨t1,p1,rfl,h1,h2⟩
    .rw[Y3 (by simpa using z),ePd];refine⟨rfl,?_,by omega,_,rfl⟩;rw[e0,Y3 z,List.append_nil];exact r
   rintro ys9 σ' p ⟨rfl,r,g,_⟩ l9 G5 hl9' d hG5;rw[ezl,YE]at r;have s5':=s4.trans d;have hj:j < ms.length:=(Y4.mp hdue).1;have hml:ms.length <=3900:=by
    rw[pm.length_eq];rw[Y1]at TR;unfold To at TR;omega
   refine⟨l9,rfl,_,d _ _ hG,_,hG5,by rw[Yh];omega,fun l4 G6 hl4 s6 hG6=>?_⟩;rw[ePf];refine⟨l4,_,_,rfl,s4.trans (d.trans s6),(s0.trans (s03.trans s5')).free hl4,hG6,?_,by rw[List.length_append];omega⟩;rw[YD,hdue,YH,List.flatMap_append,VE,List.flatMap_nil,List.append_nil];exact(hy.imp fun _ _ h=>h.mono (d.trans s6)).app (r.imp fun _ _ h=>h.mono (d.trans s6))
  .intro σ' G Zq;obtain⟨l',ys,v,rfl,s4,hl',hG,hy,hyl⟩:=Zq;refine hN _ _ ?_;clear hN N;rw[Y1,YE]at hy;refine Ja fun N hN=>?_
   walk_at"rd";have b:=hM3.mono s4;refine⟨_,dg b.hm b.x3,lc,rfl,⟨_,WJ.of b.hl⟩,?_⟩;obtain⟨Pe,ePe⟩:∃Pv:Nat->List V->L2.St->Hp->Prop,Pv=fun i ys σ' p=>p=G/\Pw (Mz (Tt A lc) G) ys ((M.cs.take i).filter fun c=>decide (c.1 > t))/\ys.length <=i/\∃v,σ'=[v,some (.int t)]:=⟨_,rfl⟩
   refine MY (xs:=zs) Pe (by rw[ePe];exact⟨rfl,.nil,Y6 _,none,rfl⟩) ?_ (Nm (by omega)) ?_ ?_ <;> rw[ePe]
   .rintro i ys9 σ' p ⟨rfl,r,g,_⟩ _;exact⟨WJ.of b.hl,g⟩
   .intro i y ys9 σ' p hy9 Zq;obtain⟨rfl,r,g,v9,rfl⟩:=Zq;rw[<-ePe];obtain⟨c,hc,t1,p1,rfl,h1,h2⟩:=b.th.get hy9;walk_at"rd";have e0:(M.cs.take (i+ 1)).filter (fun c=>decide (c.1 > t))=(M.cs.take i).filter (fun c=>decide (c.1 > t))++if c.1 > t then [c] else []:=by
     rw[YD,hc,YH,U1]
     congr 1
     by_cases z:c.1 > t
     .rw[Y9 z];simp[z]
     .rw[Y3 z];simp[z]
    refine⟨_,N9.of h1,_,rfl,_,rfl,?_⟩
    by_cases z:c.1 > t
    .rw[Y9 (by rw[Yq z])];rw[ePe];refine⟨rfl,?_,by rw[List.length_append];exact Wg g 1,_,rfl⟩;rw[e0,Y9 z];exact r.snoc ⟨t1,p1,rfl,h1,h2⟩
    .rw[Y3 (by rw[Ys z];simp),ePe];refine⟨rfl,?_,by omega,_,rfl⟩;rw[e0,Y3 z,List.append_nil];exact r
   rintro ys9 σ' p ⟨rfl,r,g,_⟩ l9 G5 hl9' d hG5;rw[ezl,YE]at r;have hM5:=b.mono d;refine⟨_,hM5.hm,by unfold dS;rw[Y1,Yh];omega,fun G6 b6 h6=>hN _ _ ?_⟩;clear hN N;walk_at"rd";have sH:WH H p:=s0.trans (s03.trans s4);have kL:∀{c:WA} {o:HO},G5 c=some o->(∀l,o≠ .dK l)->G6 c=some o:=fun e' n=>b6 _ _ e' (fun z=>by subst z;rw[hM5.hm]at e';cases e';exact n _ rfl)
   have kC:∀{B B':Addr->Prop},(∀x,B' x->B x\/p x=none)->∀v x,Mz B p v x->Mz B' G6 v x:=fun hB v x h=>by
    obtain⟨t1,p1,h1,h2,t2,tk,b',k1,k2,k3,k4,k5⟩:=h;refine⟨t1,p1,h1,kL (d _ _ h2) nofun,t2,tk,b',k1,kL (d _ _ k2) nofun,kL (d _ _ k3) nofun,kL (d _ _ k4) nofun,fun z=>?_⟩;rcases hB _ z with z|z
    .exact k5 z
    .rw[k4]at z;cases z
   have hor:∀x,Tt A l9 x->Tt A lc x\/p x=none:=fun x z=>by
    rcases z with z|z
    .exact .inl (.inl z)
    .exact .inr (z▸hl9')
   have l9H:H l9=none:=sH.free hl9';have hin:("coming":Str)∈xs.map (·.1):=by
    refine Classical.byContradiction fun z=>?_
    have:=Fs z;rw[hM.x3]at this;cases this
   refine q l' l9 ys _ ys9 G6 hl' l9H (fun c o h n=>b6 c o (d c o (sH c o h)) n) (kL (d _ _ hG) nofun) (hy.imp (kC fun x z=>.inl z)) (uN (pm.nodup_iff.mpr nd1) so fun n=>(pm.mem_iff.trans (mem1 n))) ?_;refine⟨by rw[h6,Kz _ hin];rfl,?_,?_,?_,b6 _ _ hM5.hr (Ne.symm hM5.n3),b6 _ _ hM5.hn (Ne.symm hM5.n2),kL hG5 nofun,fun e he=>?_,r.imp (kC hor),fun z=>hA _ z l9H,hM.nd,hM.n1,hM.n2,hM.n3⟩
   .rw[ED,Y3 (by decide)];exact hM.x1
   .rw[ED,Y3 (by decide)];exact hM.x2
   .rw[ED,Y9 rfl,hM.x3];rfl
   .have hR:=b.rd e he;have off:∀{a:WA} {o:HO},p a=some o->¬Tt A lc a->¬Tt A l9 a:=fun e n z=>by
     rcases hor _ z with z|z
     .exact n z
     .rw[e]at z;cases z
    exact⟨kL (d _ _ hR.tu) nofun,kL (d _ _ hR.hw) nofun,kL (d _ _ hR.hm) nofun,hR.ok,off hR.hw hR.nw,off hR.hm hR.nm'⟩
inductive Iz(CP:WA)(vs:List V)(H:Hp)(Q:VK)(E:XK):Prop|mk (p b:WA) (d:PD) (_:vs=[.ref p]) (_:Jw CP H p b d) (_:∀t tk G,H t=none->WH H G->G t=some (.tup [.ref tk,.int d.at',.ref b,.bl d.mo])->G tk=some (.tup (EB d.ky))->Q (.ref t) G)
abbrev KM:Stmt:=JX 59
theorem vX:JN ["_law_piece"] ["_law_piece"] (WF KM):=by walk_at"e"
theorem xZ{f CP:WA}{fd:Wv}(F:JT K "_law_plain" "_law_plain" KM f fd)(LP:D6 K CP)(JU:Tc P w K mg base CP "key" 1 ["self"] [] (IV CP)):WQ P w K mg base Jr 2 f fd ["_law_piece"] (Iz CP):=by
 refine F.ok vX (fun vs H Q E h=>?_) (fun l A c s H vs Q E g h=>?_)
 .obtain⟨p,b,d,rfl,_⟩:=h;rfl
 .obtain⟨p,b,d,rfl,a,q⟩:=h;refine⟨_,(Jg (JB (MO (Dc (DD (WG 0) JU g.m) (TN (Nd K (WG 0)) (TN (Nd K (WG 0)) (TN (Nd K (WG 0)) WK))))))),?_⟩;walk_at"rd";refine⟨LZ a,p,b,d,rfl,a,fun tk G j s i=>⟨_,FC LP (a.mono s),_,B6 LP (a.mono s),_,PP LP (a.mono s),by decide,fun t G2 e s2 h2=>?_⟩⟩;exact q t tk G2 (s.free e) (s.trans s2) h2 (s2 _ _ i)
inductive Oj(vs:List V)(H:Hp)(Q:VK)(E:XK):Prop|mk (l:WA) (ds:WB) (_:vs=[.ref l,.int 0]) (_:H l=some (.lst (ds.map V.int))) (_:3 <=ds.length) (_:(∀x∈ds,0 <=x/\x < 5040)) (_:∀l' ws G,H l'=none->WH H G->G l'=some (.lst (TC ws))->1 <=ws.length->ws.length <=3->(∀w∈ws,8 <=w/\w <=310)->Q (.ref l') G)
abbrev AT:Stmt:=JX 53
theorem Z9:JN ["_law_digits_here","_law_k"] ["_law_digits_here","_law_k"] (WF AT):=by walk_at"e"
theorem yF{f:WA}{fd:Wv}(F:JT K "_law_widths" "_law_widths" AT f fd)(B:Bt mg):WQ P w K mg base Jr 1 f fd ["_law_digits_here","_law_k"] Oj:=by
 refine F.ok Z9 (fun vs H Q E h=>?_) (fun cdv A outer s H vs Q E hr h=>?_)
 .obtain⟨l,ds,rfl,_⟩:=h;rfl
 .obtain⟨l,ds,rfl,u,h3,t,q⟩:=h;refine⟨_,(Jg (JB (TU (N':=["_law_j","_law_digits_here","_law_k"]) (caps:=[none,some 0,some 1]) (Tf (sc:=WF AT) (N:=["_law_digits_here","_law_k"]) rfl rfl (by decide +kernel)) rfl (Ge rfl B.range (WW (hs:=TF) (J0 (Jz Nw) WM (J0 (dI Na) (J0 (dI AL) (T5 K (WG 0) (WG 1)) WM) WM)) WK)) (fun _ _ _ _ _=>(T3 (i:=0) (T9 (N:=["_law_j","_law_digits_here","_law_k"]) rfl (by decide +kernel)) rfl (Or.inl rfl))) (fun _ _ _ _ _=>Mx) (fun _ _ _ _ _=>(J0 (Jz Nw) WM (J0 (dI Na) (T5 K (WG 1) (J0 (Jz Nw) (WG 2) (WG 0))) (T5 K (Np (Nb WM (Nb WM (Nb WM (Nb WM WK))))) (J0 (dI Na) (T5 K (WG 1) (WG 2)) WM)))))))),?_⟩;walk_at"rd";obtain⟨a,r,rfl⟩:∃a r,ds=a::r:=by
   cases ds with
   |nil=>simp at h3
   |cons a r=>exact⟨a,r,rfl⟩
  obtain⟨a0,a1⟩:=t a Ym;refine⟨_,WJ.of u,_,E4,a,rfl,⟨by decide,by decide⟩,by decide,by omega,by omega,?_⟩;obtain⟨n,hn⟩:∃n:Nat,(1+ a / 4%3).toNat=n:=⟨_,rfl⟩;have n1:1 <=n/\n <=3:=by omega
  rw[hn];obtain⟨b,hwa,w0,w1⟩:∃b:Int,Ts [V.int 9,V.int 40,V.int 90,V.int 300] (a%4)=some (V.int b)/\0 < b/\b <=300:=by
   have:a%4=0\/a%4=1\/a%4=2\/a%4=3:=by omega
   rcases this with z|z|z|z <;> rw[z]
   .exact⟨9,rfl,by decide,by decide⟩
   .exact⟨40,rfl,by decide,by decide⟩
   .exact⟨90,rfl,by decide,by decide⟩
   .exact⟨300,rfl,by decide,by decide⟩
  obtain⟨Pv,d⟩:∃Pv:Nat->List V->L2.St->Hp->Prop,Pv=fun i ys σ' G=>WH H G/\∃c:List Nat,ys=TC c/\c.length=i/\(∀w∈c,8 <=w/\w <=310)/\∃v,σ'=[v,some (.ref l),some (.int 0)]:=⟨_,rfl⟩
  refine R6 Pv (by rw[d];exact⟨WH.refl _,[],rfl,rfl,nofun,none,rfl⟩) ?_ (by rw[Yh];omega) ?_ ?_ <;> rw[d]
  .rintro i ys σ' G ⟨_,c,rfl,h,_⟩ _;rw[GW];omega
  .intro i ys σ' G hi Zq;obtain⟨e,c,rfl,o,j,v,rfl⟩:=Zq;rw[<-d];obtain⟨x,hx⟩:∃x,(a::r)[i]?=some x:=⟨_,Y5 (by omega)⟩;obtain⟨x0,x1⟩:=t x (Ya hx);walk_at"rd";have hr0:0 <=x%b:=Um x (by omega);have hr1:x%b < b:=U0 x w0;refine⟨_,WJ.of (e _ _ u),.int x,?_,by decide,fun p G2 hp s2 h2=>⟨_,WJ.of ((e.trans s2) _ _ u),_,E4,a,rfl,by decide,_,WJ.of h2,_,hwa,x,rfl,b,rfl,w0,?_⟩⟩
   .rw[XR,XR];refine DY ?_;rw[Yf,hx];rfl
   .rw[d];refine⟨e.trans s2,c++[(8+ x%b).toNat],?_,by rw[List.length_append,o];rfl,fun y g=>?_,_,rfl⟩
    .unfold TC;rw[Yd,List.map_cons,List.map_nil,Int.toNat_of_nonneg (by omega)]
    .rcases Yb.mp g with g|g
     .exact j y g
     .rw[Y8.mp g];omega
  .rintro ys σ' G ⟨e,c,rfl,o,j,_⟩ l' G2 hl' s2 h2;exact q l' c G2 (e.free hl') (e.trans s2) h2 (by omega) (by omega) j
inductive Kk(C CRo CP T:WA)(vs:List V)(H:Hp)(Q:VK)(E:XK):Prop|mk (p db dc lc:WA) (_:vs=[.ref p]) (_:WN C CRo CP H p db dc lc ⟨0,[],[]⟩) (_:NP H T MH) (_:∀lc' G,(∀c o,H c=some o->c≠p->c≠T->G c=some o)->H lc'=none->NP G T MH->WN C CRo CP G p db dc lc' ⟨0,[],[]⟩->Q (.bl true) G)
abbrev HV:Stmt:=JX 54
theorem tT:JN ["_law_post"] ["_law_post"] (WF HV):=by walk_at"e"
theorem ZB{f C CRo CP T:WA}{fd:Wv}(F:JT K "_law_bare" "_law_bare" HV f fd)(J5:Tc P w K mg base C "roads" 3 ["self"] [] (BD C CRo CP))(Jk:Tc P w K mg base C "on_the_way" 1 ["self"] [] (CJ C CRo CP))(N2:Tc P w K mg base C "fetch" 9 ["self","time"] [] (Cy C CRo CP T))(Jc:Tc P w K mg base C "next_time" 1 ["self"] [] (AB C CRo CP)):WQ P w K mg base Jr 10 f fd ["_law_post"] (Kk C CRo CP T):=by
 refine F.ok tT (fun vs H Q E h=>?_) (fun cdv A ad s H vs Q E b h=>?_)
 .obtain⟨p,db,dc,lc,rfl,_⟩:=h;rfl
 .obtain⟨p,db,dc,lc,rfl,u,tb,q⟩:=h;refine⟨_,(Jg (JB (MN (M8 (B1 (BP (K:=K) (WV.units b) rfl)) (DD (WG 0) J5 b.m) (Np WK) (Mi _)) (MN (M8 (MZ D9) (DD (WG 0) Jk b.m) WM (Mi _)) (MN (M8 (B1 (BP (K:=K) (WV.units b) rfl)) (DE (WG 0) N2 b.m (Nb WM WK)) (Np WK) (Mi _)) (Gn (M8 CV (DD (WG 0) Jc b.m) RB (Mi _)))))))),?_⟩;walk_at"rd";refine⟨u.mt rfl,p,db,dc,lc,_,rfl,u,by decide,fun r l G aa hso hl s hG=>?_⟩;have e:r=[]:=VS aa;subst e;refine⟨Yj _,fun l2 G2 hl2 s2 h2=>⟨l,rfl,[],WJ.of (s2 _ _ hG),WJ.of h2,?_⟩⟩;rw[Y9 (by decide)];have a:=u.mono (s.trans s2);refine⟨a.mt rfl,p,db,dc,lc,_,rfl,a,rfl,?_⟩;rw[Y9 (by decide)];refine⟨a.mt rfl,p,db,dc,lc,_,0,rfl,a,XE _,by decide,tb.same (s.trans s2),fun l3 j r G3 hl3 t _ k3 z ab h3 ac=>⟨Yj _,fun l4 G4 hl4 g h4=>?_⟩⟩;have e:r=[]:=VS ab.pm;subst e;refine⟨l3,rfl,[],WJ.of (g _ _ h3),WJ.of h4,?_⟩;rw[Y9 (by decide)];have d:=ac.mono g;refine⟨d.mt rfl,p,db,dc,j,_,rfl,d,by decide,fun G5 n=>⟨fun _=>?_,fun v hv=>nomatch hv⟩⟩;have i:=s.trans s2;exact q j G5 (fun c o h n1 n2=>n _ _ (g _ _ (k3 c o (i _ _ h) n1 n2))) (i.free t) ((z.same g).same n) (d.mono n)
end
section
variable{A:Addr->Prop}{H G1 G2:Hp}{m dr dn lc:WA}{xs:List (Str×V)}{zs:List V}{M:Tz}
theorem Jj.add{e:RM}(h:Jj A H m xs dr dn lc zs M)(hn:e.nm∉M.rs.map (·.nm))(h0:e.n=0)(hR:MV (Tt A lc) H e)(b1:JS dr H G1)(e1:G1 dr=some (.dK (Tg (dS (dR M.rs)) (.inr e.nm) (.ref e.t))))(b2:JS dn G1 G2)(e2:G2 dn=some (.dK (Tg (dS (dN M.rs)) (.inr e.nm) (.int 0)))):Jj A G2 m xs dr dn lc zs ⟨M.rs++[e],M.cs⟩:=by
 have d:∀{c:WA} {o:HO},H c=some o->(∀l,o≠ .dK l)->G2 c=some o:=fun g n=>b2 _ _ (b1 _ _ g (fun z=>by subst z;rw[h.hr]at g;cases g;exact n _ rfl)) (fun z=>by subst z;rw[h.hn]at g;cases g;exact n _ rfl)
 have i:∀x,MV (Tt A lc) H x->MV (Tt A lc) G2 x:=fun x z=>⟨d z.tu nofun,d z.hw nofun,d z.hm nofun,z.ok,z.nw,z.nm'⟩
 refine⟨b2 _ _ (b1 _ _ h.hm h.n3) h.n2,h.x1,h.x2,h.x3,?_,?_,d h.hl nofun,fun x f=>?_,h.th.imp fun _ _ z=>?_,h.nl,?_,h.n1,h.n2,h.n3⟩
 .rw[b2 _ _ e1 h.n1,EY _ (by unfold dR;rw[Yp];exact hn)];unfold dR;rw[Yd];rfl
 .rw[e2,EY _ (by rw[PB];exact hn)];unfold dN;rw[Yd,List.map_cons,List.map_nil,h0]
 .rcases Yb.mp f with f|f
  .exact i x (h.rd x f)
  .rw[Y8.mp f];exact i e hR
 .obtain⟨t,p,h1,h2,q,tk,b',k1,w,u,s,r⟩:=z;exact⟨t,p,h1,d h2 nofun,q,tk,b',k1,d w nofun,d u nofun,d s nofun,r⟩
 .show((M.rs++[e]).map (·.nm)).Nodup;rw[Yd,VD];exact⟨h.nd,by simp,fun a ha b j=>by simp at j;subst j;exact fun z=>hn (z▸ha)⟩
end
section
variable{P:Wt}{w:Wx}{K:Wy}{mg:Wp}{base:WD}
theorem Pr{H:Hp}:∀xs:List Str,Nz K H (xs.map V.str) (xs.map PyData.str)
 |[]=>.nil
 |x::r=>.cons (.str x) (Pr r)
theorem Nh{H:Hp}{b:WA}{xs:List Str}(h:H b=some (.lst (xs.map V.str))):Dp K H (.ref b) (.list (xs.map PyData.str)):=.lst (WJ.of h) (Pr xs)
theorem Jo{xs:List Str}(h:∀x∈xs,Js x):SeqAt.shaped (.list (xs.map PyData.str))=true:=by
 have h1:∀c:List Str,(∀x∈c,Js x)->PyData.canLayAll0 (c.map PyData.str)=true:=fun c=>by
  induction c with
  |nil=>intro _;rfl
  |cons x r ih=>
   intro hh;rw[List.map_cons,PyData.canLayAll0,ih fun y a=>hh y (Yl _ a),Bool.and_true];simp[PyData.canLay0,(hh x Ym).ok]
 have h2:∀c:List Str,PyData.depthAll (c.map PyData.str)=0:=fun c=>by
  induction c with
  |nil=>rfl
  |cons x r ih=>rw[List.map_cons,PyData.depthAll,ih];rfl
 simp[SeqAt.shaped,PyData.canLay0,PyData.depth,h1 xs h,h2 xs]
theorem Ay(xs:List Str):PyData.eqv (.list (xs.map PyData.str)) (.list (xs.map PyData.str))=true:=by
 show PyData.eqvAll _ _=true
 induction xs with
 |nil=>rfl
 |cons x r ih=>
  rw[List.map_cons,PyData.eqvAll,ih];simp[PyData.eqv]
theorem FA{a b:List Str}(h:a.Perm b)(h1:a.Pairwise fun x y=>MG y x=false)(h2:b.Pairwise fun x y=>MG y x=false):a=b:=
 List.Perm.eq_of_pairwise (le:=fun x y=>MG y x=false) (fun x y _ _ p q=>Lx q p) h1 h2 h
theorem FO:Js "later":=⟨by decide +kernel,by decide +kernel,by decide +kernel⟩
theorem WN.butD{C CR CP p db dc lc a:WA}{H G:Hp}{U:Nl}{kvs:List (Jv×V)}(h:WN C CR CP H p db dc lc U)(b:JS a H G)(ha:H a=some (.dK kvs))(n1:db≠a)(n2:dc≠a):WN C CR CP G p db dc lc U:=by
 have d:DS H G:=fun c o h n=>b c o h fun z=>n _ (Yn (h.symm.trans (z▸ha)))
 obtain⟨dx,fs,e,r⟩:=h.ex;exact⟨⟨dx,fs,d _ _ e nofun,r⟩,b _ _ h.hb n1,b _ _ h.hc n2,d _ _ h.hl nofun,h.ne,fun x f=>d.road (h.rd x f),fun c hc=>d.thing (h.th c hc),h.nd⟩
inductive HJ(C CRo CP:WA)(vs:List V)(H:Hp)(Q:VK)(E:XK):Prop|mk (A:Addr->Prop) (p db dc lcp m dr dn lc:WA) (U:Nl) (xs:List (Str×V)) (zs:List V) (M:Tz) (c:Int) (_:vs=[.ref p,.ref m,.int c]) (_:WN C CRo CP H p db dc lcp U) (_:Jj A H m xs dr dn lc zs M) (_:U.rs.map (·.nm)=M.rs.map (·.nm)) (_:("later":Str)∉U.rs.map (·.nm)) (_:U.rs.length <=50) (_:(∀x,A x->H x≠none)) (_:(∀n∈U.rs.map (·.nm),Js n)) (_:db≠dr) (_:db≠dn) (_:dc≠dr) (_:dc≠dn) (_:m≠db) (_:m≠dc) (_:∀ (e:PR) (e':RM) G,e.nm="later"->e'.nm="later"->e.r=e'.r->e.n=0->e'.n=0->H e.lw=none->H e.ll=none->(∀c o,H c=some o->c≠db->c≠dc->c≠dr->c≠dn->G c=some o)->WN C CRo CP G p db dc lcp {U with rs:=U.rs++[e]}->Jj A G m xs dr dn lc zs ⟨M.rs++[e'],M.cs⟩->Q (.bl true) G)
abbrev AX:Stmt:=JX 55
theorem Al:JN ["_law_post","_law_m","_law_cell","_law_widths_here","_law_missing","_law_before"] ["_law_post","_law_m","_law_cell"] (WF AX):=by walk_at"e"
theorem mH{f C CRo CP:WA}{fd:Wv}(F:JT K "_law_late_road" "_law_late_road" AX f fd)(B:Bt mg)(B2:E3 mg)(Je:JI P w K mg base "_law_mixed" 1 ["_law_cell","_law_k"] [] Ka)(Mr:MR P w K mg base "Road" 5 (RE CRo))(J5:Tc P w K mg base C "roads" 3 ["self"] [] (BD C CRo CP))(Jq:Tc P w K mg base C "build" 2 ["self","name","road"] [] (AZ C CRo CP)):WQ P w K mg base Jr 7 f fd ["_law_post","_law_m","_law_cell"] (HJ C CRo CP):=by
 refine F.ok Al (fun vs H Q E h=>?_) (fun cdv A' outer s H vs Q E hr h=>?_)
 .obtain⟨A,p,db,dc,t,m,dr,dn,lc,U,xs,zs,M,c,rfl,_⟩:=h;rfl
 .obtain⟨A,p,db,dc,t,m,dr,dn,lc,U,xs,zs,M,c,rfl,hU,hM,hnm,hno,hlen,hA,hok,d1,d2,d3,d4,d5,d6,q⟩:=h;refine⟨_,(WX (Nf 3 Al (Np (WW (hs:=TF) (J0 (Jz Nw) WM (J0 (dI Na) (Jx Je hr.m rfl (WR 2 (Nb WM WK))) WM)) WK))) (WX (Cq (i:=4) (N':=["_law_j"]) (caps:=[none]) (Tf (sc:=WF AX) (N:=["_law_post","_law_m","_law_cell","_law_widths_here","_law_missing","_law_before"]) rfl rfl (by decide +kernel)) rfl (Al).nd rfl (Or.inl rfl) (Ge rfl B.range (WW (hs:=TF) (J0 (dI Na) (Jx Je hr.m rfl (WR 2 (Nb WM WK))) WM) WK)) (fun _ _ _ _ _=>(T3 (i:=0) (T9 (N:=["_law_j"]) rfl (by decide +kernel)) rfl (Or.inl rfl))) (fun _ _ _ _ _=>Mx) (fun _ _ _ _ _=>(J0 (dI GD) WM (WG 0))) rfl) (WX (Nf 5 Al (DD (WG 0) J5 hr.m)) (WX (Mn (DE (WG 0) Jq hr.m (Nb JM (Dc (RG Mr hr.m rfl (WR 3 (WW (hs:=TF) (J0 (dI Na) (Jx Je hr.m rfl (WR 2 (Nb WM WK))) WM) (WR 4 WK)))) WK)))) (WX (Gd (MP hr) (NG hr (WG 1) JM) JM (MO (WR 3 (WW (hs:=TF) (J0 (dI Na) (Jx Je hr.m rfl (WR 2 (Nb WM WK))) WM) (WR 4 WK)))) rfl) (WX (Gd (MP hr) (NG hr (WG 1) JM) JM WM rfl) (Jg (JB (M8 (F6 (K:=K) (WV.units hr) rfl) (DD (WG 0) J5 hr.m) (N3 (nZ (K:=K) (WV.units hr) rfl) B2.sorted (WW (hs:=TF) (J0 (RN Rz) (WG 5) (Np (Nb JM WK))) WK)) (Mi _)))))))))),?_⟩;refine Ja fun N b=>?_
  walk_at"rd";obtain⟨v0,ev0,v00⟩:∃v0,v0=Ej c 90/\0 <=v0:=⟨_,rfl,Ai c 90⟩;refine⟨c,90,rfl,by decide,by decide,_,rfl,by decide,by decide,fun lw G1 hlw s1 h1=>b _ _ ?_⟩;rw[<-ev0]at h1;clear b N;refine Ja fun N b=>?_
  walk_at"rd";obtain⟨v1,ev1,v10⟩:∃v1,v1=Ej c 91/\0 <=v1:=⟨_,rfl,Ai c 91⟩;refine⟨c,91,rfl,by decide,by decide,_,rfl,by decide,by omega,by omega,?_⟩;rw[<-ev1];obtain⟨n,hn⟩:∃n:Nat,(v1%10).toNat=n:=⟨_,rfl⟩;have n9:n <=9:=by omega
  rw[hn];obtain⟨Pv,u⟩:∃Pv:Nat->List V->L2.St->Hp->Prop,Pv=fun i ys σ' G=>G=G1/\ys=(((List.range i).map fun j:Nat=>(3*(j:Int):Int)).map V.int)/\∃v,σ'=[v]:=⟨_,rfl⟩
  refine R6 Pv (by rw[u];exact⟨rfl,rfl,none,rfl⟩) ?_ (by rw[Yh];omega) ?_ ?_ <;> rw[u]
  .rintro i ys σ' G ⟨_,rfl,_⟩ _;rw[Y1,Y1,YV];omega
  .intro i ys σ' G hi Zq;obtain⟨rfl,rfl,v,rfl⟩:=Zq;rw[<-u];walk_at"rd";rw[u];refine⟨.inl ⟨by decide,by decide⟩,rfl,?_,_,rfl⟩;rw[List.range_succ,Yd,Yd,XR];rfl
  rintro ys σ' G ⟨rfl,rfl,_⟩ lm G2 hlm s2 h2;refine b _ _ ?_;clear b N;obtain⟨ms,ems⟩:∃ms,ms=(List.range n).map fun j:Nat=>(3*(j:Int):Int):=⟨_,rfl⟩
  rw[<-ems]at h2;have hfew:A8 ms:=by
   rw[ems];refine⟨by rw[Y1,YV];omega,fun x hx=>?_⟩;obtain⟨j,_,rfl⟩:=Yw.mp hx;omega
  have s02:=s1.trans s2;have hU2:=hU.mono s02;refine Ja fun N b=>?_
  walk_at"rd";refine⟨hU2.mt rfl,p,db,dc,t,U,rfl,hU2,by omega,fun b0 l1 G3 pb sb hl1 s3 h3=>b _ _ ?_⟩;clear b N;refine Ja fun N b=>?_
  walk_at"rd";refine⟨hU2.mono s3|>.mt rfl,c,92,rfl,by decide,by decide,_,rfl,by decide,?_⟩;obtain⟨v2,ev2,v20⟩:∃v2,v2=Ej c 92/\0 <=v2:=⟨_,rfl,Ai c 92⟩;rw[<-ev2];obtain⟨r,er⟩:∃r:Dj,r=⟨[(8+ v0%40).toNat],v2%9,ms⟩:=⟨_,rfl⟩;have hws:TC r.ws=[V.int (8+ v0%40)]:=by
   rw[er];show [V.int (((8+ v0%40).toNat:Nat):Int)]=_;rw[Int.toNat_of_nonneg (by omega)]
  have rok:Ro r:=by
   rw[er];exact⟨Y6 _,by show 1 <=20;decide,fun w hw=>by rw[Y8.mp hw];omega,by show 0 <=v2%9;omega,hfew⟩
  have s03:=s02.trans s3;have hlw3:G3 lw=some (.lst (TC r.ws)):=by rw[hws];exact s3 _ _ (s2 _ _ h1)
  have hlm3:G3 lm=some (.lst (r.lo.map V.int)):=by rw[er];exact s3 _ _ h2
  refine⟨lw,.ref lm,r,by rw[er],hlw3,⟨by rw[er];exact hfew,.inr ⟨lm,rfl,hlm3⟩⟩,rok,fun rp rl rm G4 hrp hrl hrm s4 hR4=>?_⟩;have s04:=s03.trans s4;have g:=hU.mono s04;refine⟨p,db,dc,t,U,⟨"later",rp,rl,rm,r,0⟩,rfl,g,hR4,rfl,FO,hno,by omega,fun G5 k5 hU5=>b _ _ ?_⟩;clear b N;have hM4:=hM.mono s04;have hM5:Jj A G5 m xs dr dn lc zs M:=hM4.kp fun c o h n1 n2 n3 n4=>k5 c o h (fun z=>by rw[z,g.hb]at h;cases h;rcases n2 ⟨_,rfl⟩ with w|w|w <;> subst w <;> simp_all) (fun z=>by rw[z,g.hc]at h;cases h;rcases n2 ⟨_,rfl⟩ with w|w|w <;> subst w <;> simp_all)
  have dg:∀{xs:List (Str×V)} {a:WA} {H':Hp} {n:Str} {v:V},H' a=some (.dK (dS xs))->xs.lookup n=some v->NJ H' a (.str n) (some v):=fun h1 h2=>.inl ⟨_,.inr _,.inl h1,rfl,by rw[GC];exact h2.symm⟩
  have hnoM:("later":Str)∉M.rs.map (·.nm):=hnm▸hno;have hlM:M.rs.length <=50:=by
   have:=YB List.length hnm;rw[Y1,Y1]at this;omega
  have kL5:∀{x:WA} {o:HO},G4 x=some o->(∀l,o≠ .dK l)->G5 x=some o:=fun e n=>k5 _ _ e (fun z=>by subst z;rw[g.hb]at e;cases e;exact n _ rfl) (fun z=>by subst z;rw[g.hc]at e;cases e;exact n _ rfl)
  have hlw5:=kL5 (s4 _ _ hlw3) nofun;have hlm5:=kL5 (s4 _ _ hlm3) nofun;have h15:=kL5 (s4 _ _ h3) nofun;refine Ja fun N b=>?_
  walk_at"rd";refine⟨c,92,rfl,by decide,by decide,_,rfl,by decide,by decide,fun tt G6 htt s6 h6=>?_⟩;rw[<-ev2]at h6;have d:=hM5.mono s6;refine⟨_,dg d.hm d.x1,dr,rfl,_,d.hr,by unfold dS dR;rw[Y1,Y1,Yh];omega,fun G7 b7 h7=>b _ _ ?_⟩;clear b N;refine Ja fun N b=>?_
  walk_at"rd";have hm7:=b7 _ _ d.hm d.n3;have hn7:=b7 _ _ d.hn (Ne.symm d.n1);refine⟨_,dg hm7 d.x2,dn,rfl,_,hn7,by unfold dS dN;rw[Y1,Y1,Yh];omega,fun G8 b8 h8=>b _ _ ?_⟩;clear b N;have hRm:MV (Tt A lc) G6 ⟨"later",tt,lw,lm,r,0⟩:=by
   refine⟨by rw[h6,er],s6 _ _ hlw5,s6 _ _ hlm5,rok,?_,?_⟩
   .rintro(z|z)
    .exact hA _ z hlw
    .exact J6 hM.hl hlw z.symm
   .rintro(z|z)
    .exact hA _ z (s1.free hlm)
    .exact J6 hM.hl (s1.free hlm) z.symm
  have hM8:=d.add (e:=⟨"later",tt,lw,lm,r,0⟩) hnoM rfl hRm b7 h7 b8 h8;walk_at"rd";have hU6:=hU5.mono s6;have hU7:=hU6.butD b7 d.hr d1 d3;have hU8:=hU7.butD b8 hn7 d2 d4;refine⟨hU8.mt rfl,p,db,dc,t,_,rfl,hU8,by show(U.rs++[_]).length <=100;rw[List.length_append];simp;omega,fun ra la G9 pa sa hla s9 h9=>⟨by decide,fun lb G10 hlb s10 h10=>?_⟩⟩;have kd7:DS G6 G7:=fun c o h n=>b7 c o h fun z=>n _ (Yn (h.symm.trans (z▸d.hr)))
  have kd8:DS G7 G8:=fun c o h n=>b8 c o h fun z=>n _ (Yn (h.symm.trans (z▸hn7)))
  have k58:∀{x:WA} {o:HO},G5 x=some o->(∀l,o≠ .dK l)->G8 x=some o:=fun e n=>kd8 _ _ (kd7 _ _ (s6 _ _ e) n) n
  have s810:=s9.trans s10;refine⟨_,s810 _ _ (k58 h15 nofun),_,h10,by rw[Y1,pb.length_eq,Y1,Yh];simp;omega,fun lcat G11 hlcat s11 h11=>⟨b0++[("later":Str)],WJ.of (by rw[h11,Yd];rfl),by rw[List.length_append,pb.length_eq,Y1];simp;omega,fun mc ld G12 pc sc hld s12 h12=>?_⟩⟩;have enm:(U.rs++[(⟨"later",rp,rl,rm,r,0⟩:PR)]).map (fun e:PR=>e.nm)=U.rs.map (fun e:PR=>e.nm)++[("later":Str)]:=by rw[Yd];rfl
  have pa':ra.Perm (U.rs.map (fun e:PR=>e.nm)++[("later":Str)]):=enm▸pa;have ea:ra=mc:=FA (pa'.trans ((pb.symm.append_right _).trans pc.symm)) sa sc;subst ea;have hok':∀x∈ra,Js x:=fun x hx=>by
   rcases Yb.mp (pa'.mem_iff.mp hx) with h|h
   .exact hok x h
   .rw[Y8.mp h];exact FO
  have sA:=s10.trans (s11.trans s12);refine⟨_,_,Nh (sA _ _ h9),Nh h12,Jo hok',Jo hok',?_⟩;rw[Ay];have sE:=s810.trans (s11.trans s12);refine q ⟨"later",rp,rl,rm,r,0⟩ ⟨"later",tt,lw,lm,r,0⟩ G12 rfl rfl rfl rfl rfl (s03.free hrl) (s03.free hrm) (fun c o h n1 n2 n3 n4=>sE _ _ (b8 _ _ (b7 _ _ (s6 _ _ (k5 _ _ (s04 _ _ h) n1 n2)) n3) n4)) (hU8.mono sE) (hM8.mono sE)
def E2(c k n:Nat):Str:=Rm c n++⟨#[97+ k]⟩
theorem Fm(c k n:Nat):(E2 c k n).cps.toList=List.replicate n c++[97+ k]:=by
 show((List.replicate n c).toArray++#[97+ k]).toList=_;simp
theorem OH(c k n:Nat):(E2 c k n).length=n+ 1:=by
 show(E2 c k n).cps.size=_;rw[<-Array.length_toList,Fm];simp
theorem Ox{c:Nat}(h:97 <=c)(h':c <=122):GS c=true:=by
 have:∀i:Fin 26,GS (97+ i.val)=true:=by decide +kernel
 have:=this ⟨c - 97,by omega⟩;rwa [show 97+ (c - 97)=c by omega]at this
theorem Qw{c k n:Nat}(h1:97 <=c)(h2:c <=122)(n7:n <=7)(hk:k < 4):Js (E2 c k n):=by
 refine⟨by rw[OH];omega,by rw[OH];omega,?_⟩;rw[Fm,Xn];intro x a;rcases Yb.mp a with h|h
 .rw[(List.mem_replicate.mp h).2];exact Ox h1 h2
 .rw[Y8.mp h];exact Ox (by omega) (by omega)
def TW(s:Str):Option Nat:=s.cps.toList.getLast?
theorem IS(c k n:Nat):TW (E2 c k n)=some (97+ k):=by
 unfold TW;rw[Fm];simp
theorem ZF{i:Int}(h0:0 <=i)(h1:i < 26):Ts ("abcdefghijklmnopqrstuvwxyz":Str).cps.toList i=some (97+ i.toNat):=by
 have:∀j:Fin 26,Ts ("abcdefghijklmnopqrstuvwxyz":Str).cps.toList ((j.val:Nat):Int)=some (97+ j.val):=by decide +kernel
 have:=this ⟨i.toNat,by omega⟩;rwa [show(((⟨i.toNat,by omega⟩:Fin 26).val:Nat):Int)=i from Int.toNat_of_nonneg h0]at this
theorem yN{k:Nat}(h:k < 4):Ts ("abcd":Str).cps.toList (k:Int)=some (97+ k):=by
 have:∀j:Fin 4,Ts ("abcd":Str).cps.toList ((j.val:Nat):Int)=some (97+ j.val):=by decide +kernel
 exact this ⟨k,h⟩
def GL(i:Nat)(s:Str):Prop:=(s="twin"/\1 <=i)\/∃j,j < i/\TW s=some (97+ j)
theorem GL.up{i:Nat}{s:Str}(h:GL i s):GL (i+ 1) s:=h.elim (fun⟨a,b⟩=>.inl ⟨a,by omega⟩) fun⟨j,a,b⟩=>.inr ⟨j,by omega,b⟩
theorem GL.ne{i c n:Nat}{s:Str}(h:GL i s)(hi:i < 4):s≠E2 c i n:=by
 rintro rfl;rcases h with⟨h,_⟩|⟨j,a,b⟩
 .have:=IS c i n;rw[h,show TW "twin"=some 110 by decide +kernel]at this;simp at this;omega
 .rw[IS]at b;simp at b;omega
theorem GL.late{i:Nat}{s:Str}(h:GL i s)(hi:i <=4):s≠"later":=by
 rintro rfl;rcases h with⟨h,_⟩|⟨j,a,b⟩
 .exact absurd h (by decide +kernel)
 .rw[show TW "later"=some 114 by decide +kernel]at b;simp at b;omega
def Gb(ns:WB):PyData:=.list (ns.map PyData.int)
theorem Rv:∀ns:List Int,PyData.canLayAll0 (ns.map PyData.int)=true/\PyData.depthAll (ns.map PyData.int)=0
 |[]=>⟨rfl,rfl⟩
 |n::r=>⟨by simp[PyData.canLayAll0,PyData.canLay0,(Rv r).1],by simp[PyData.depthAll,PyData.depth,(Rv r).2]⟩
theorem OS(a b:WB)(e:Int):SeqAt.shaped (.list [Gb a,.int e,Gb b])=true:=by
 simp[Gb,SeqAt.shaped,PyData.canLay0,PyData.canLayAll0,PyData.depth,PyData.depthAll,(Rv a).1,(Rv b).1,(Rv a).2,(Rv b).2]
theorem tW(a b:WB)(e:Int):PyData.eqv (.list [Gb a,.int e,Gb b]) (.list [Gb a,.int e,Gb b])=true:=by
 have h1:PyData.eqv (.list (a.map PyData.int)) (.list (a.map PyData.int))=true:=EV _;have h2:PyData.eqv (.list (b.map PyData.int)) (.list (b.map PyData.int))=true:=EV _;simp[Gb,PyData.eqv,PyData.eqvAll]at h1 h2 ⊢;exact⟨h1,h2⟩
structure Nr(C CRo CP:WA)(A:Addr->Prop)(H G:Hp)(p db dc lcp m dr dn lc:WA)(xs:List (Str×V))(U:Nl)(M:Tz):Prop where
 kp:∀c o,H c=some o->c≠db->c≠dc->c≠dr->c≠dn->G c=some o
 po:WN C CRo CP G p db dc lcp U
 n0:U.now=0
 c0:U.cs=[]
 mo:Jj A G m xs dr dn lc [] M
 m0:M.cs=[]
 ab:TH U.rs=M.rs.map fun e=>⟨e.nm,e.r,e.n⟩
 rd:∀e∈U.rs,Js e.nm/\H e.lw=none/\H e.ll=none
theorem Nr.free{C CRo CP:WA}{A:Addr->Prop}{H G:Hp}{p db dc lcp m dr dn lc:WA}{xs:List (Str×V)}{U:Nl}{M:Tz}(h:Nr C CRo CP A H G p db dc lcp m dr dn lc xs U M){x:WA}(hx:G x=none):H x=none:=by
 cases e:H x with
 |none=>rfl
 |some o=>
  have d:x≠db:=fun z=>by subst z;rw[h.po.hb]at hx;cases hx
  have c:x≠dc:=fun z=>by subst z;rw[h.po.hc]at hx;cases hx
  have b:x≠dr:=fun z=>by subst z;rw[h.mo.hr]at hx;cases hx
  have a:x≠dn:=fun z=>by subst z;rw[h.mo.hn]at hx;cases hx
  rw[h.kp x o e d c b a]at hx;cases hx
theorem Nr.nms{C CRo CP:WA}{A:Addr->Prop}{H G:Hp}{p db dc lcp m dr dn lc:WA}{xs:List (Str×V)}{U:Nl}{M:Tz}(h:Nr C CRo CP A H G p db dc lcp m dr dn lc xs U M):U.rs.map (·.nm)=M.rs.map (·.nm):=by
 have:=YB (List.map AR.nm) h.ab;unfold TH at this;rw[Yp,Yp]at this;exact this
theorem Nr.add{C CRo CP:WA}{A:Addr->Prop}{H G G1 G2 G3 G4:Hp}{p db dc lcp m dr dn lc:WA}{xs:List (Str×V)}{U:Nl}{M:Tz}(h:Nr C CRo CP A H G p db dc lcp m dr dn lc xs U M){e:PR}{e':RM}(d1:db≠dr)(d2:db≠dn)(d3:dc≠dr)(d4:dc≠dn)
  (k1:∀c o,G c=some o->c≠db->c≠dc->G1 c=some o) (po:WN C CRo CP G1 p db dc lcp {U with rs:=U.rs++[e]}) (mo:Jj A G1 m xs dr dn lc [] M) (s:WH G1 G2) (hR:MV (Tt A lc) G2 e') (b1:JS dr G2 G3) (e1:G3 dr=some (.dK (Tg (dS (dR M.rs)) (.inr e'.nm) (.ref e'.t)))) (b2:JS dn G3 G4) (e2:G4 dn=some (.dK (Tg (dS (dN M.rs)) (.inr e'.nm) (.int 0))))
  (en:e.nm=e'.nm) (er:e.r=e'.r) (e0:e.n=0) (e0':e'.n=0) (nk:Js e.nm) (f1:H e.lw=none) (f2:H e.ll=none) (hno:e.nm∉U.rs.map (·.nm)):Nr C CRo CP A H G4 p db dc lcp m dr dn lc xs {U with rs:=U.rs++[e]} ⟨M.rs++[e'],M.cs⟩:=by
 have a:=mo.mono s;have d:=po.mono s;have j:=b1 _ _ a.hn (Ne.symm a.n1);refine⟨fun c o z n1 i g f=>b2 _ _ (b1 _ _ (s _ _ (k1 _ _ (h.kp c o z n1 i g f) n1 i)) g) f,(d.butD b1 a.hr d1 d3).butD b2 j d2 d4,h.n0,h.c0,a.add (h.nms▸en▸hno) e0' hR b1 e1 b2 e2,h.m0,?_,fun x b=>?_⟩
 .show TH (U.rs++[e])=_;unfold TH;rw[Yd,Yd,show(U.rs.map fun e:PR=>(⟨e.nm,e.r,e.n⟩:AR))=M.rs.map fun e=>⟨e.nm,e.r,e.n⟩ from h.ab];simp[en,er,e0,e0']
 .rcases Yb.mp b with b|b
  .exact h.rd x b
  .rw[Y8.mp b];exact⟨nk,f1,f2⟩
theorem OJ:Js "twin":=⟨by decide +kernel,by decide +kernel,by decide +kernel⟩
inductive FZ(C CRo CP:WA)(vs:List V)(H:Hp)(Q:VK)(E:XK):Prop|mk (A:Addr->Prop) (p db dc lcp m dr dn lc:WA) (xs:List (Str×V)) (c:Int) (_:vs=[.ref p,.ref m,.int c]) (_:WN C CRo CP H p db dc lcp ⟨0,[],[]⟩) (_:Jj A H m xs dr dn lc [] ⟨[],[]⟩) (_:(∀x,A x->H x≠none)) (_:db≠dr) (_:db≠dn) (_:dc≠dr) (_:dc≠dn) (_:m≠db) (_:m≠dc) (_:∀U M G,Nr C CRo CP A H G p db dc lcp m dr dn lc xs U M->1 <=U.rs.length->U.rs.length <=10->("later":Str)∉U.rs.map (·.nm)->Q (.bl true) G)
abbrev B5:Stmt:=JX 56
theorem Gy:JN ["_law_post","_law_m","_law_cell","_law_k","_law_digits_here","_law_letter","_law_name","_law_missing","_law_widths_here","_law_slow","_law_handed","_law_road"] ["_law_post","_law_m","_law_cell"] (WF B5):=by walk_at"e"
theorem jX{f C CRo CP:WA}{fd:Wv}(F:JT K "_law_roads" "_law_roads" B5 f fd)(B:Bt mg)(L:My K C)(LR:Rh K CRo)(Je:JI P w K mg base "_law_mixed" 1 ["_law_cell","_law_k"] [] Ev)(NF:JI P w K mg base "_law_digits" 2 ["_law_cell","_law_many"] [] IR)(NE:JI P w K mg base "_law_widths" 1 ["_law_digits_here","_law_k"] [] Oj)(Mr:MR P w K mg base "Road" 5 (RE CRo))(Gq:C9 P w K mg base "Road" "lost" 5 (RE CRo))(Du:MR P w K mg base "Road" 5 (LV CRo))(Da:MR P w K mg base "Post" 1 (F4 C CRo CP))(Jq:Tc P w K mg base C "build" 2 ["self","name","road"] [] (AZ C CRo CP)):WQ P w K mg base Jr 8 f fd ["_law_post","_law_m","_law_cell"] (FZ C CRo CP):=by
 refine F.ok Gy (fun vs H Q E h=>?_) (fun cdv A' outer s H vs Q E hr h=>?_)
 .obtain⟨A,p,db,dc,lcp,m,dr,dn,lc,xs,c,rfl,_⟩:=h;rfl
 .obtain⟨A,p,db,dc,lcp,m,dr,dn,lc,xs,c,rfl,hU,hM,hA,d1,d2,d3,d4,d5,d6,q⟩:=h;refine⟨_,(WX (Dz YZ rfl (Ge rfl B.range (WW (hs:=TF) (J0 (Jz Nw) WM (J0 (dI Na) (Jx Je hr.m rfl (WR 2 (Nb WM WK))) WM)) WK)) (Md 3 Gy) (WX (D8 (i:=4) (Gy).nd rfl (Or.inr rfl) (Jx NF hr.m rfl (WW (hs:=TF) (J0 (Jz Nw) (J0 (dI EC) (WG 2) WM) (J0 (dI GD) WM (WG 3))) (Nb WM WK)))) (WX (Nf 5 Gy (D1 LO JM (J0 (dI Na) (Jx Je hr.m rfl (WR 2 (WW (hs:=TF) (J0 (Jz Nw) WM (WG 3)) WK))) WM) (fun _ _=>rfl))) (WX (Nf 6 Gy (J0 uV (J0 Zy (WG 5) (J0 (Jz Nw) WM (J0 (dI Na) (Jx Je hr.m rfl (WR 2 (WW (hs:=TF) (J0 (Jz Nw) WM (WG 3)) WK))) WM))) (D1 LO JM (WG 3) (fun _ _=>rfl)))) (WX (Cq (i:=7) (N':=["_law_j","_law_digits_here"]) (caps:=[none,some 4]) (Tf (sc:=WF B5) (N:=["_law_post","_law_m","_law_cell","_law_k","_law_digits_here","_law_letter","_law_name","_law_missing","_law_widths_here","_law_slow","_law_handed","_law_road"]) rfl rfl (by decide +kernel)) rfl (Gy).nd rfl (Or.inl rfl) (Ge rfl B.range (WW (hs:=TF) (J0 (dI Na) (T5 K (WG 4) WM) WM) WK)) (fun _ _ _ _ _=>(T3 (i:=0) (T9 (N:=["_law_j","_law_digits_here"]) rfl (by decide +kernel)) rfl (Or.inl rfl))) (fun _ _ _ _ _=>Mx) (fun _ _ _ _ _=>(J0 (dI Na) (T5 K (WG 1) (J0 (Jz Nw) WM (WG 0))) WM)) rfl) (WX (D8 (i:=8) (Gy).nd rfl (Or.inr rfl) (Jx NE hr.m rfl (WR 4 (Nb WM WK)))) (WX (Bc (Ny (ND (MZ D9) (J0 (dI Na) (T5 K (WG 4) WM) WM) WM) (Jg (D8 (i:=8) (Gy).nd rfl (Or.inr rfl) (TU (N':=["_law_j","_law_widths_here"]) (caps:=[none,some 8]) (Tf (sc:=WF B5) (N:=["_law_post","_law_m","_law_cell","_law_k","_law_digits_here","_law_letter","_law_name","_law_missing","_law_widths_here","_law_slow","_law_handed","_law_road"]) rfl rfl (by decide +kernel)) rfl (Ge rfl B.range (Nb WM WK)) (fun _ _ _ _ _=>(T3 (i:=0) (T9 (N:=["_law_j","_law_widths_here"]) rfl (by decide +kernel)) rfl (Or.inl rfl))) (fun _ _ _ _ _=>Mx) (fun _ _ _ _ _=>(J0 (Jz Nw) (T5 K (WG 1) (J0 (dI Na) (WG 0) (N3 (Mb (Mc (K:=K) rfl)) B.len (WR 1 WK)))) (J0 (dI GD) WM (J0 (Jz Bo) WM (WG 0)))))))) NB)) (WX (Nf 9 Gy (J0 (Jz Nw) (J0 (dI Na) (T5 K (WG 4) WM) WM) (J0 (dI GD) (J0 (dI P9) WM WM) (R0 (Q4 Ls) rfl B.bint (by rfl) (WW (hs:=Hn) (M8 (MZ D9) (J0 (dI Na) (T5 K (WG 4) WM) WM) WM (Mi _)) WK))))) (WX (Nf 10 Gy (Np (Dc (R0 (Bj (BF (K:=K) rfl)) rfl B.blist (by rfl) (WR 8 WK)) (Dc (R0 (Bj (BF (K:=K) rfl)) rfl B.blist (by rfl) (WR 7 WK)) WK)))) (WX (Nf 11 Gy (RG Mr hr.m rfl (De (T5 K (WG 10) WM) (WR 9 (De (T5 K (WG 10) WM) WK))))) (WX (Mn (Dh (K:=K) rfl YI YQ YR (Gr GB) (T5 K (WG 10) WM) (Nb WM WK))) (WX (Mn (Dh (K:=K) rfl YI UM UN (FX Fg) (T5 K (WG 10) WM) (WW (hs:=Bl) (Np (Nb WM (Nb WM (Nb WM WK)))) WK))) (WX (Ny (ND (EA (K:=K) (WV.units hr) rfl) (Np (TN (Nd K (WG 11)) (TN (Nd K (WG 11)) (TN (Nd K (WG 11)) WK)))) (Np (WR 8 (WR 9 (WR 7 WK))))) (Jg (JB Mm)) NB) (WX (Ny (ND Qf (DE (WG 0) Jq hr.m (WR 6 (WR 11 WK))) RB) (Jg (JB Mm)) NB) (WX (Mn (DE (Lg Da hr.m rfl) Jq hr.m (WR 6 (WR 11 WK)))) (WX (Gd (MP hr) (NG hr (WG 1) JM) (WG 6) (MO (WR 8 (WR 9 (WR 7 WK)))) rfl) (WX (Gd (MP hr) (NG hr (WG 1) JM) (WG 6) WM rfl) (Jg (Ny (PW.pt (RW (ND (MZ D9) (WG 3) WM) (Es (ND (MZ D9) (J0 (dI Na) (T5 K (WG 4) WM) WM) WM)))) (WX (Mn (DE (WG 0) Jq hr.m (Nb JM (WR 11 WK)))) (WX (Gd (MP hr) (NG hr (WG 1) JM) JM (NG hr (NG hr (WG 1) JM) (WG 6)) rfl) (Jg (Gd (MP hr) (NG hr (WG 1) JM) JM WM rfl)))) NB))))))))))))))))))) (WX (Ny (PW.pt (DG (ND (EA (K:=K) (WV.units hr) rfl) (Nd K (y8 Gq hr.m rfl (WW (hs:=Bl) (Np (Nb WM WK)) (Nb WM WK)) (Np (Nb WM WK)))) (Np (Nb WM WK))) (Gh (ND (EA (K:=K) (WV.units hr) rfl) (Nd K (RG Mr hr.m rfl (WW (hs:=Bl) (Np (Nb WM (Nb WM WK))) (Nb WM (Nb RB WK))))) (Np (Nb WM (Nb WM WK))))))) (Jg (JB Mm)) NB) (Jg (JB (M8 (B1 (BP (K:=K) (WV.units hr) rfl)) (Nd K (RG Du hr.m rfl (WW (hs:=Bl) (Np (Nb WM WK)) (Nb WM WK)))) (Np WK) (Mi _)))))),?_⟩;refine Ja fun N b=>?_
  walk_at"rd";refine⟨c,0,rfl,by decide,by decide,fun v0 v00 v01=>⟨_,rfl,by decide,by omega,by omega,?_⟩⟩;obtain⟨n,hn⟩:∃n:Nat,(1+ v0%3).toNat=n:=⟨_,rfl⟩;have n1:1 <=n:=by omega
  have n3:n <=3:=by omega
  rw[hn];obtain⟨Pv,ePv⟩:∃Pv:Nat->L2.St->Hp->Prop,Pv=fun i σ' G=>∃ (U:Nl) (M:Tz) (v3 v4 v5 v6 v7 v8 v9 v10 v11:Option V),σ'=[some (.ref p),some (.ref m),some (.int c),v3,v4,v5,v6,v7,v8,v9,v10,v11]/\Nr C CRo CP A H G p db dc lcp m dr dn lc xs U M/\(∀e∈U.rs,GL i e.nm)/\i <=U.rs.length/\U.rs.length <=2*i:=⟨_,rfl⟩
  refine K7 Pv (by rw[ePv];exact⟨⟨0,[],[]⟩,⟨[],[]⟩,none,none,none,none,none,none,none,none,none,rfl,⟨fun c o h _ _ _ _=>h,hU,rfl,rfl,hM,rfl,rfl,fun e he=>nomatch he⟩,(fun e he=>nomatch he),Y6 _,Y6 _⟩) ?_ ?_ <;> rw[ePv]
  .intro i σ' G hi Zq;obtain⟨U,M,v3,v4,v5,v6,v7,v8,v9,v10,v11,rfl,hB,hin,hl1,hl2⟩:=Zq;rw[<-ePv];have hi4:i < 3:=by omega
   refine Ja fun N b=>?_
   walk_at"rd";refine⟨⟨by decide,by decide⟩,.inl ⟨by decide,by decide⟩,_,12,rfl,by decide,fun ld ds G1 hld s1 h1 dl hds=>b _ _ ?_⟩;clear b N;refine Ja fun N b=>?_
   walk_at"rd";refine⟨c,60+ (0+ (i:Int)),rfl,by omega,by omega,fun v1 mv10 mv11=>⟨_,rfl,by decide,Nm (by decide +kernel),_,ZF (by omega) (by omega),b _ _ ?_⟩⟩;clear b N;obtain⟨cL,ecL⟩:∃cL:Nat,cL=97+ (v1%26).toNat:=⟨_,rfl⟩;have cL1:97 <=cL:=by omega
   have cL2:cL <=122:=by omega
   rw[<-ecL];refine Ja fun N b=>?_
   walk_at"rd";refine⟨c,70+ (0+ (i:Int)),rfl,by omega,by omega,fun v2 mv20 mv21=>⟨_,rfl,by decide,cL,rfl,by omega,by omega,Nm (by decide +kernel),_,by rw[XR];exact yN (by omega),?_,b _ _ ?_⟩⟩
   .show(List.replicate _ cL).toArray.size+ 1 <=_;rw[Yc,W3,Yh];omega
   clear b N;obtain⟨nm,enm,nmk,nml,nmi⟩:∃nm:Str,nm=E2 cL i (1+ v2%7).toNat/\Js nm/\TW nm=some (97+ i)/\∀s,GL i s->s≠nm:=⟨_,rfl,Qw cL1 cL2 (by omega) (by omega),IS _ _ _,fun s h=>h.ne (by omega)⟩;rw[show Rm cL (1+ v2%7).toNat++{cps:=#[97+ i]}=nm from enm.symm];clear enm;have dgt:∀j:Nat,j < 12->∃x,Ts (ds.map V.int) (j:Int)=some (.int x)/\0 <=x/\x < 5040:=fun j hj=>by
    obtain⟨x,hx⟩:∃x,ds[j]?=some x:=⟨_,Y5 (by omega)⟩;obtain⟨x0,x1⟩:=hds x (Ya hx);exact⟨x,by refine DY ?_;rw[Yf,hx];rfl,x0,x1⟩
   refine Ja fun N b=>?_
   walk_at"rd";obtain⟨x6,a6,x60,x61⟩:=dgt 6 (by decide);refine⟨_,WJ.of h1,_,a6,x6,rfl,by decide,by omega,by omega,?_⟩;obtain⟨k,hk⟩:∃k:Nat,(x6%5).toNat=k:=⟨_,rfl⟩;have k4:k <=4:=by omega
   rw[hk];obtain⟨Pc,ePc⟩:∃Pc:Nat->List V->L2.St->Hp->Prop,Pc=fun i ys σ' G=>G=G1/\∃r:List Int,ys=r.map V.int/\r.length=i/\(∀x∈r,0 <=x)/\∃v,σ'=[v,some (.ref ld)]:=⟨_,rfl⟩
   refine R6 Pc (by rw[ePc];exact⟨rfl,[],rfl,rfl,nofun,none,rfl⟩) ?_ (by rw[Yh];omega) ?_ ?_ <;> rw[ePc]
   .rintro i ys σ' G ⟨_,r,rfl,h,_⟩ _;rw[Y1];omega
   .intro j ys σ' G hj Zq;obtain⟨rfl,r,rfl,hml,hms,v,rfl⟩:=Zq;rw[<-ePc];walk_at"rd";obtain⟨x,ax,x0,x1⟩:=dgt (7+ j) (by omega);refine⟨_,WJ.of h1,_,(by rw[XR];exact ax),x,rfl,by decide,?_⟩;rw[ePc];refine⟨rfl,r++[x%12],by rw[Yd];rfl,by rw[List.length_append,hml];rfl,fun y hy=>?_,_,rfl⟩;rcases Yb.mp hy with hy|hy
    .exact hms y hy
    .rw[Y8.mp hy];omega
   rintro ys σ' G1 ⟨rfl,r,rfl,hml,hms,_⟩ lm G2 hlm s2 h2;refine b _ _ ?_;clear b N;have hfew:A8 r:=⟨by omega,hms⟩;have s02:=s1.trans s2;refine Ja fun N b=>?_
   walk_at"rd";refine⟨ld,ds,rfl,s2 _ _ h1,by omega,hds,fun lw0 ws0 G3 hlw0 s3 h3 w1 w3 hw0=>b _ _ ?_⟩;clear b N;have s03:=s02.trans s3;refine Ja fun N b=>?_
   walk_at"rd";obtain⟨x11,a11,x110,x111⟩:=dgt 11 (by decide);obtain⟨Rw,eRw⟩:∃Rw:L2.St->Hp->Prop,Rw=fun σ' G'=>∃ (lw:WA) (d:List Nat),σ'=[some (.ref p),some (.ref m),some (.int c),some (.int (0+ (i:Int))),some (.ref ld),some (.str ⟨#[cL]⟩),some (.str nm),some (.ref lm),some (.ref lw),v9,v10,v11]/\WH G3 G'/\G' lw=some (.lst (TC d))/\1 <=d.length/\d.length <=20/\GV d/\G lw=none/\lw≠lm:=⟨_,rfl⟩
   refine⟨Rw,⟨_,WJ.of ((s2.trans s3) _ _ h1),_,a11,x11,rfl,by decide,rfl,?_⟩,?_⟩
   .by_cases hx:x11%8=1
    .rw[Y9 (Yq hx)];refine⟨by decide,by decide,?_⟩;obtain⟨Pc,ePc⟩:∃Pc:Nat->List V->L2.St->Hp->Prop,Pc=fun i ys σ' G=>G=G3/\∃d:List Nat,ys=TC d/\d.length=i/\GV d/\∃v,σ'=[v,some (.ref lw0)]:=⟨_,rfl⟩
     refine R6 Pc (by rw[ePc];exact⟨rfl,[],rfl,rfl,nofun,none,rfl⟩) ?_ (by rw[Yh];decide) ?_ ?_ <;> rw[ePc]
     .rintro i ys σ' G ⟨_,d,rfl,h,_⟩ _;rw[GW];omega
     .intro j ys σ' G hj Zq;obtain⟨rfl,d,rfl,hwl,hws,v,rfl⟩:=Zq;rw[<-ePc];walk_at"rd";obtain⟨x,hx'⟩:∃x,ws0[j%ws0.length]?=some x:=⟨_,Y5 (VI _ (by omega))⟩;have hx8:=hw0 x (Ya hx');refine⟨_,.inl (WJ.of h3),by rw[GW];omega,_,WJ.of h3,.int (x:Nat),?_,.inl ⟨by decide,by decide⟩,_,rfl,?_⟩
      .rw[GW,show((0+ (j:Int))%(ws0.length:Int))=((j%ws0.length:Nat):Int) by rw[XR];omega];refine DY ?_;unfold TC;rw[Yf,hx'];rfl
      .rw[ePc];have hj':j < 20:=hj;refine⟨rfl,d++[x+ 7*(19 - j)],?_,by rw[List.length_append,hwl];rfl,fun y hy=>?_,_,rfl⟩
       .unfold TC;rw[Yd,List.map_cons,List.map_nil]
        congr 3;omega
       .rcases Yb.mp hy with hy|hy
        .exact hws y hy
        .rw[Y8.mp hy];omega
     rintro ys σ' G3 ⟨rfl,d,rfl,hwl,hws,_⟩ lw G4 hlw s4 h4;rw[eRw];exact⟨lw,d,rfl,s4,h4,by omega,by omega,hws,s03.free hlw,fun z=>by subst z;rw[s3 _ _ h2]at hlw;cases hlw⟩
    .rw[Y3 (by simpa using hx),eRw];exact⟨lw0,ws0,rfl,WH.refl _,h3,w1,by omega,fun w hw=>⟨(hw0 w hw).1,by have:=(hw0 w hw).2;omega⟩,s02.free hlw0,fun z=>by subst z;rw[h2]at hlw0;cases hlw0⟩
   rw[eRw];intro σ' G4 Zq;obtain⟨lw,d,rfl,s4,h4,wl1,wl2,hws,hlw,nlw⟩:=Zq;refine b _ _ ?_;clear b N;have s04:=s03.trans s4;have h24:=s4 _ _ (s3 _ _ h2);have h14:=(s2.trans (s3.trans s4)) _ _ h1;clear hlw0 h3 s3 s4 h2 s2 h1 s03 s02;refine Ja fun N b=>?_
   walk_at"rd";obtain ⟨x5, a5, x50, x51⟩ := dgt 5 (by decide);obtain ⟨x9, a9, x90, x91⟩ := dgt 9 (by decide);refine ⟨_, WJ.of h14, _, a5, x5, rfl, by decide, ⟨by decide, by decide, by decide⟩, _, WJ.of h14, _, a9, x9, rfl, by decide, rfl, .inr ⟨.inl ⟨by decide, by decide⟩, b _ _ ?_⟩⟩;clear b N;obtain ⟨sl, esl, hsl0⟩ : ∃ sl : Int, sl = x5 % 31 + 10 ^ Int.toNat 18 * (if decide (x9 % 16 = 1) = true then 1 else 0) /\ 0 <= sl := ⟨_, rfl, by
    split
    .have:(10:Int) ^ Int.toNat 18=1000000000000000000:=by decide
     omega
    .omega⟩
   rw[<-esl];clear esl;refine Ja fun N b=>?_
   walk_at"rd";refine⟨_,.inl (WJ.of h4),fun la G5 hla s5 h5=>⟨_,.inl (WJ.of (s5 _ _ h24)),fun lb G6 hlb s6 h6=>⟨by rw[Yh];decide,fun lh G7 hlh s7 h7=>b _ _ ?_⟩⟩⟩;clear b N;have h57:=s7 _ _ (s6 _ _ h5);have h67:=s7 _ _ h6;have s07:=s04.trans (s5.trans (s6.trans s7));have nab:la≠lb:=J6 h5 hlb;have rok:Ro ⟨d,sl,r⟩:=⟨wl1,wl2,hws,hsl0,hfew⟩;have hlw7:=s7 _ _ (s6 _ _ (s5 _ _ h4));have hlm7:=s7 _ _ (s6 _ _ (s5 _ _ h24));have hld7:=s7 _ _ (s6 _ _ (s5 _ _ h14));have naw:la≠lw:=Ne.symm (J6 h4 hla);have nam:la≠lm:=Ne.symm (J6 h24 hla);have nbw:lb≠lw:=Ne.symm (J6 (s5 _ _ h4) hlb);have nbm:lb≠lm:=Ne.symm (J6 (s5 _ _ h24) hlb);have nad:la≠ld:=Ne.symm (J6 h14 hla);have nbd:lb≠ld:=Ne.symm (J6 (s5 _ _ h14) hlb);refine Ja fun N b=>?_
   walk_at"rd";refine⟨_,WJ.of h7,_,E4,_,WJ.of h7,_,rfl,la,.ref lb,⟨d,sl,r⟩,rfl,h57,⟨hfew,.inr ⟨lb,rfl,h67⟩⟩,rok,fun rp rl rm G8 hrp hrl hrm s8 hR8=>b _ _ ?_⟩;clear b N;refine Ja fun N b=>?_
   walk_at"rd";have nha:lh≠la:=Ne.symm (J6 (s6 _ _ h5) hlh);have nhb:lh≠lb:=Ne.symm (J6 h6 hlh);refine⟨_,WJ.of (s8 _ _ h7),_,E4,.inl ⟨rfl,_,WJ.of (s8 _ _ h57)⟩,la,rfl,_,s8 _ _ h57,by rw[GW,Yh];omega,fun G9 b9 h9=>b _ _ ?_⟩;clear b N;refine Ja fun N b=>?_
   walk_at"rd";refine⟨_,WJ.of (b9 _ _ (s8 _ _ h7) nha),_,rfl,.inl ⟨rfl,_,WJ.of (b9 _ _ (s8 _ _ h67) (Ne.symm nab))⟩,by rw[Yh];decide,fun l3 G10 hl3 s10 h10=>⟨lb,rfl,_,s10 _ _ (b9 _ _ (s8 _ _ h67) (Ne.symm nab)),_,h10,by rw[Y1,Yh];simp;omega,fun G11 b11 h11=>b _ _ ?_⟩⟩;clear b N;have k811:∀{x:WA} {o:HO},G8 x=some o->x≠la->x≠lb->G11 x=some o:=fun e n1 n2=>b11 _ _ (s10 _ _ (b9 _ _ e n1)) n2
   have k711:∀{x:WA} {o:HO},G7 x=some o->x≠la->x≠lb->G11 x=some o:=fun e n1 n2=>k811 (s8 _ _ e) n1 n2
   have hR11:JK CRo G11 rp rl rm ⟨d,sl,r⟩:=hR8.kp (fun o e=>k811 e (Ne.symm (J6 h57 hrp)) (Ne.symm (J6 h67 hrp))) (fun o e=>k811 e (Ne.symm (J6 h57 hrl)) (Ne.symm (J6 h67 hrl))) (fun o e=>k811 e (Ne.symm (J6 h57 hrm)) (Ne.symm (J6 h67 hrm)));have hlw11:=k711 hlw7 (Ne.symm naw) (Ne.symm nbw);have hlm11:=k711 hlm7 (Ne.symm nam) (Ne.symm nbm);have hld11:=k711 hld7 (Ne.symm nad) (Ne.symm nbd);have fla:G la=none:=s04.free hla;have flb:G lb=none:=s04.free (s5.free hlb);have sG11:WH G G11:=fun c o h=>k711 (s07 _ _ h) (fun z=>by subst z;rw[fla]at h;cases h) (fun z=>by subst z;rw[flb]at h;cases h)
   have frl:G rl=none:=s07.free hrl;have frm:G rm=none:=s07.free hrm;have flm:G lm=none:=s1.free hlm;clear hR8 k811 k711 b11 s10 b9 h10 h9 h11 hl3 s8 hrl hrm hrp h57 h67 hlw7 hlm7 hld7 s07 s7 s6 s5 h7 h6 h5 hlh hlb hla h24 h14 h4 s04 nha nhb naw nam nad nbw nbm nbd nab;refine Ja fun N b=>?_
   walk_at"rd";refine⟨_,Hq LR hR11,_,Ov LR hR11,_,Ax LR hR11,by rw[Yh];decide,fun l4 G12 hl4 s12 h12=>⟨by rw[Yh];decide,fun l5 G13 hl5 s13 h13=>?_⟩⟩;have sD:=s12.trans s13;have hwI:G13 lw=some (.lst ((d.map fun w:Nat=>(w:Int)).map V.int)):=by rw[<-Ii];exact sD _ _ hlw11
   have hwJ:G13 rl=some (.lst ((d.map fun w:Nat=>(w:Int)).map V.int)):=by rw[<-Ii];exact sD _ _ hR11.hw
   refine⟨.list [Gb (d.map fun w:Nat=>(w:Int)),.int sl,Gb r],.list [Gb (d.map fun w:Nat=>(w:Int)),.int sl,Gb r],.lst (WJ.of (s13 _ _ h12)) (.cons (Rf hwJ) (.cons (.int _) (.cons (Rf (sD _ _ hR11.hl)) .nil))),.lst (WJ.of h13) (.cons (Rf hwI) (.cons (.int _) (.cons (Rf (sD _ _ hlm11)) .nil))),OS _ _ _,OS _ _ _,_,rfl,?_⟩;rw[tW];refine b _ _ ?_;clear b N;have sG13:=sG11.trans sD;have hR13:=hR11.mono sD;have hlw13:=sD _ _ hlw11;have hlm13:=sD _ _ hlm11;have hld13:=sD _ _ hld11;clear hwI hwJ h12 h13 hl4 hl5 s12 s13 sD sG11 hR11 hlw11 hlm11 hld11;have hU13:=hB.po.mono sG13;have hM13:=hB.mo.mono sG13;have hno:nm∉U.rs.map (·.nm):=fun z=>by
    obtain⟨e,he,en⟩:=Yw.mp z;exact nmi _ (hin e he) en
   refine Ja fun N b=>?_
   walk_at"rd";have hnm:=hB.nms;have hlM:M.rs.length=U.rs.length:=by
    have:=YB List.length hnm;rw[Y1,Y1]at this;exact this.symm
   refine⟨hU13.mt rfl,p,db,dc,lcp,U,⟨nm,rp,rl,rm,⟨d,sl,r⟩,0⟩,rfl,hU13,hR13,rfl,nmk,hno,by omega,fun G14 k14 hU14=>?_⟩;rw[Y3 (by decide)];refine b _ _ ?_;clear b N;have kd14:DS G13 G14:=fun x o e n=>k14 _ _ e (fun z=>by subst z;rw[hU13.hb]at e;cases e;exact n _ rfl) (fun z=>by subst z;rw[hU13.hc]at e;cases e;exact n _ rfl)
   have hR14:=kd14.road hR13;have hM14:Jj A G14 m xs dr dn lc [] M:=hM13.kp fun c o h n1 n2 n3 n4=>k14 c o h (fun z=>by rw[z,hU13.hb]at h;cases h;rcases n2 ⟨_,rfl⟩ with w|w|w <;> subst w <;> simp_all) (fun z=>by rw[z,hU13.hc]at h;cases h;rcases n2 ⟨_,rfl⟩ with w|w|w <;> subst w <;> simp_all)
   refine Ja fun N b=>?_
   walk_at"rd";refine⟨rfl,fun p2 db2 dc2 lc2 G15 hp2 hdb2 hdc2 hlc2 s15 hU2=>⟨hU2.mt rfl,p2,db2,dc2,lc2,_,⟨nm,rp,rl,rm,⟨d,sl,r⟩,0⟩,rfl,hU2,hR14.mono s15,rfl,nmk,(fun z=>nomatch z),by decide,fun G16 k16 _=>b _ _ ?_⟩⟩;clear b N;have s16:WH G14 G16:=fun c o h=>k16 c o (s15 _ _ h) (J6 h hdb2) (J6 h hdc2)
   clear k16 hU2 hp2 hlc2 hdb2 hdc2 s15;have hnoM:nm∉M.rs.map (·.nm):=hnm▸hno;refine Ja fun N b=>?_
   walk_at"rd";refine⟨by rw[Yh];decide,fun tt G17 htt s17 h17=>?_⟩;have dg:∀{xs:List (Str×V)} {a:WA} {H':Hp} {n:Str} {v:V},H' a=some (.dK (dS xs))->xs.lookup n=some v->NJ H' a (.str n) (some v):=fun h1 h2=>.inl ⟨_,.inr _,.inl h1,rfl,by rw[GC];exact h2.symm⟩
   have s1417:=s16.trans s17;have hM17:=hM14.mono s1417;have hU17:=hU14.mono s1417;have hR17:=hR14.mono s1417;have hlw17:=s1417 _ _ (kd14 _ _ hlw13 nofun);have hlm17:=s1417 _ _ (kd14 _ _ hlm13 nofun);have hld17:=s1417 _ _ (kd14 _ _ hld13 nofun);refine⟨_,dg hM17.hm hM17.x1,dr,rfl,_,hM17.hr,by unfold dS dR;rw[Y1,Y1,Yh];omega,fun G18 b18 h18=>b _ _ ?_⟩;clear b N;refine Ja fun N b=>?_
   walk_at"rd";have hm18:=b18 _ _ hM17.hm hM17.n3;have hn18:=b18 _ _ hM17.hn (Ne.symm hM17.n1);refine⟨_,dg hm18 hM17.x2,dn,rfl,_,hn18,by unfold dS dN;rw[Y1,Y1,Yh];omega,fun G19 b19 h19=>b _ _ ?_⟩;clear b N;have hRm:MV (Tt A lc) G17 ⟨nm,tt,lw,lm,⟨d,sl,r⟩,0⟩:=by
    refine⟨h17,hlw17,hlm17,rok,?_,?_⟩
    .rintro(z|z)
     .exact hA _ z (hB.free hlw)
     .exact J6 hB.mo.hl hlw z.symm
    .rintro(z|z)
     .exact hA _ z (hB.free flm)
     .exact J6 hB.mo.hl flm z.symm
   have hB19:=hB.add (G:=G) (e:=⟨nm,rp,rl,rm,⟨d,sl,r⟩,0⟩) (e':=⟨nm,tt,lw,lm,⟨d,sl,r⟩,0⟩) d1 d2 d3 d4 (fun c o h n1 n2=>k14 c o (sG13 _ _ h) n1 n2) hU14 hM14 s1417 hRm b18 h18 b19 h19 rfl rfl rfl rfl nmk (hB.free frl) (hB.free frm) hno;have hin19:∀e∈(U.rs++[⟨nm,rp,rl,rm,⟨d,sl,r⟩,0⟩]:List PR),GL (i+ 1) e.nm:=fun e he=>by
    rcases Yb.mp he with he|he
    .exact(hin e he).up
    .rw[Y8.mp he];exact .inr ⟨i,Ue i,nml⟩
   have hl19:(U.rs++[⟨nm,rp,rl,rm,⟨d,sl,r⟩,0⟩]:List PR).length=U.rs.length+ 1:=by rw[List.length_append];rfl
   have off19:Pv (i+ 1) [some (V.ref p),some (V.ref m),some (V.int c),some (V.int (0+ i)),some (V.ref ld),some (V.str ⟨#[cL]⟩),some (V.str nm),some (V.ref lm),some (V.ref lw),some (V.int sl),some (V.ref lh),some (V.ref rp)] G19:=by
    rw[ePv];exact⟨_,_,_,_,_,_,_,_,_,_,_,rfl,hB19,hin19,by rw[hl19];omega,by rw[hl19];omega⟩
   have nD:∀{x:WA} {o:HO},G17 x=some o->(∀l,o≠ .dK l)->G19 x=some o:=fun e n=>b19 _ _ (b18 _ _ e (fun z=>by subst z;rw[hM17.hr]at e;cases e;exact n _ rfl)) (fun z=>by subst z;rw[hM17.hn]at e;cases e;exact n _ rfl)
   have hld19:=nD hld17 nofun;walk_at"rd";refine⟨rfl,?_⟩
   by_cases hi0:(0+ (i:Int))=0
   .rw[Y9 (Yq hi0)];obtain⟨x10,a10,x100,x101⟩:=dgt 10 (by decide);refine⟨_,WJ.of hld19,_,a10,x10,rfl,by decide,rfl,?_⟩
    by_cases ht:x10%2=1
    .rw[Y9 (Yq ht)];have i0:i=0:=by omega
     subst i0;have hU0:U.rs=[]:=Xj (by omega);have hnt:("twin":Str)≠nm:=fun z=>by
      rw[<-z,show TW "twin"=some 110 by decide +kernel]at nml;simp at nml
     have hno2:("twin":Str)∉(U.rs++[⟨nm,rp,rl,rm,⟨d,sl,r⟩,0⟩]:List PR).map (·.nm):=by
      rw[hU0];simpa using hnt
     have hU19:=hB19.po;have hM19:=hB19.mo;have hR19:JK CRo G19 rp rl rm ⟨d,sl,r⟩:=by
      have:=hU19.rd ⟨nm,rp,rl,rm,⟨d,sl,r⟩,0⟩ (Yb.mpr (.inr Ym));exact this
     refine⟨hU19.mt rfl,p,db,dc,lcp,_,⟨"twin",rp,rl,rm,⟨d,sl,r⟩,0⟩,rfl,hU19,hR19,rfl,OJ,hno2,by show(U.rs++[_]).length <=100;rw[hl19];omega,fun G20 k20 hU20=>?_⟩;have u:Jj A G20 m xs dr dn lc [] _:=hM19.kp fun c o h n1 n2 n3 n4=>k20 c o h (fun z=>by rw[z,hU19.hb]at h;cases h;rcases n2 ⟨_,rfl⟩ with w|w|w <;> subst w <;> simp_all) (fun z=>by rw[z,hU19.hc]at h;cases h;rcases n2 ⟨_,rfl⟩ with w|w|w <;> subst w <;> simp_all)
     have lN:(dR (M.rs++[⟨nm,tt,lw,lm,⟨d,sl,r⟩,0⟩])).lookup nm=some (.ref tt):=RT (f:=(·.nm)) (g:=fun e:RM=>V.ref e.t) u.nd (Yb.mpr (.inr Ym));have lenM:(M.rs++[⟨nm,tt,lw,lm,⟨d,sl,r⟩,0⟩]:List RM).length <=50:=by rw[List.length_append,hlM];simp;omega
     have lnR:(dS (dR (M.rs++[⟨nm,tt,lw,lm,⟨d,sl,r⟩,0⟩]))).length < sizeLine:=by unfold dS dR;rw[Y1,Y1,Yh];omega
     have lnN:(dS (dN (M.rs++[⟨nm,tt,lw,lm,⟨d,sl,r⟩,0⟩]))).length < sizeLine:=by unfold dS dN;rw[Y1,Y1,Yh];omega
     refine⟨_,dg u.hm u.x1,dr,rfl,_,dg u.hr lN,_,dg u.hm u.x1,dr,rfl,_,u.hr,lnR,fun G21 b21 h21=>?_⟩;have hm21:=b21 _ _ u.hm u.n3;have hn21:=b21 _ _ u.hn (Ne.symm u.n1);refine⟨_,dg hm21 u.x2,dn,rfl,_,hn21,lnN,fun G22 b22 h22=>?_⟩;have hRm20:MV (Tt A lc) G20 ⟨"twin",tt,lw,lm,⟨d,sl,r⟩,0⟩:=by
      have:=u.rd ⟨nm,tt,lw,lm,⟨d,sl,r⟩,0⟩ (Yb.mpr (.inr Ym));exact⟨this.tu,this.hw,this.hm,this.ok,this.nw,this.nm'⟩
     have hB22:=hB19.add (e:=⟨"twin",rp,rl,rm,⟨d,sl,r⟩,0⟩) (e':=⟨"twin",tt,lw,lm,⟨d,sl,r⟩,0⟩) d1 d2 d3 d4 k20 hU20 u (WH.refl _) hRm20 b21 h21 b22 h22 rfl rfl rfl rfl OJ (hB.free frl) (hB.free frm) hno2;rw[ePv];refine⟨_,_,_,_,_,_,_,_,_,_,_,rfl,hB22,fun e he=>?_,?_,?_⟩
     .rcases Yb.mp he with he|he
      .exact hin19 e he
      .rw[Y8.mp he];exact .inl ⟨rfl,Y6 _⟩
     .show 0+ 1 <=((U.rs++[_])++[_]).length;rw[List.length_append];simp
     .show((U.rs++[_])++[_]).length <=2*(0+ 1);rw[List.length_append,hl19,hU0];simp
    .rw[Y3 (by simpa using ht)];exact off19
   .rw[Y3 (by simpa using hi0)];exact off19
  .intro σ' G Zq;obtain⟨U,M,v3,v4,v5,v6,v7,v8,v9,v10,v11,rfl,hB,hin,hl1,hl2⟩:=Zq;refine b _ _ ?_;clear b N;walk_at"rd";have z1:1 <=sizeLine:=Nm (by decide);have z2:2 <=sizeLine:=Nm (by decide);have o1:Ro ⟨[8],1,[4]⟩:=⟨by decide,by decide,fun w hw=>by rw[Y8.mp hw];decide,by decide,by decide,fun x hx=>by rw[Y8.mp hx];decide⟩;have o2:Ro ⟨[9,8],0,[]⟩:=⟨by decide,by decide,fun w hw=>by simp at hw;rcases hw with rfl|rfl <;> decide,by decide,by decide,fun x hx=>nomatch hx⟩;have o3:Ro ⟨[8],1,[]⟩:=⟨by decide,by decide,fun w hw=>by rw[Y8.mp hw];decide,by decide,by decide,fun x hx=>nomatch hx⟩;refine⟨z1,fun l1 G1 hl1 s1 h1=>⟨z1,fun l2 G2 hl2 s2 h2=>⟨l1,.ref l2,⟨[8],1,[4]⟩,rfl,s2 _ _ h1,⟨o1.fw,.inr ⟨l2,rfl,h2⟩⟩,o1,fun rp rl rm G3 _ _ _ s3 hR3=>⟨_,Ax LR hR3,z1,fun l3 G4 hl3 s4 h4=>⟨_,_,Rf (ns:=[4]) (s4 _ _ hR3.hl),Rf (ns:=[4]) h4,C3 _,C3 _,_,rfl,?_⟩⟩⟩⟩⟩;rw[EV,Y3 (by decide)];have t4:=s1.trans (s2.trans (s3.trans s4));clear h4 hl3 s4 hR3 s3 h2 hl2 s2 h1 hl1 s1;refine⟨z2,fun l4 G5 hl4 s5 h5=>⟨l4,.non,⟨[9,8],0,[]⟩,rfl,h5,⟨o2.fw,.inl ⟨rfl,rfl⟩⟩,o2,fun rp rl rm G6 _ _ _ s6 hR6=>⟨_,Hq LR hR6,z2,fun l5 G7 hl5 s7 h7=>⟨_,_,Rf (ns:=[9,8]) (s7 _ _ hR6.hw),Rf (ns:=[9,8]) h7,C3 _,C3 _,_,rfl,?_⟩⟩⟩⟩;rw[EV,Y3 (by decide)];have t7:=t4.trans (s5.trans (s6.trans s7));clear h7 hl5 s7 hR6 s6 h5 hl4 s5 t4;refine⟨z1,fun l6 G8 hl6 s8 h8=>⟨_,_,rfl,l6,.non,⟨[8],1,[]⟩,rfl,h8,⟨o3.fw,.inl ⟨rfl,rfl⟩⟩,o3,fun rp rl rm G9 _ _ _ s9 hR9=>⟨_,Ax LR hR9,Yj _,fun l7 G10 hl7 s10 h10=>⟨rm,rfl,_,WJ.of (s10 _ _ hR9.hl),WJ.of h10,?_⟩⟩⟩⟩;have t10:=t7.trans (s8.trans (s9.trans s10));exact q U M G10 ⟨fun c o h n1 n2 n3 n4=>t10 _ _ (hB.kp c o h n1 n2 n3 n4),hB.po.mono t10,hB.n0,hB.c0,hB.mo.mono t10,hB.m0,hB.ab,hB.rd⟩ (by omega) (by omega) fun z=>by
    obtain⟨e,he,en⟩:=Yw.mp z;exact(hin e he).late (by omega) en
end
theorem Lf:∀{a b:List (Int×PD)},(a.Pairwise fun x y=>x.1 <=y.1)->(b.Pairwise fun x y=>x.1 <=y.1)->(∀v,a.filter (fun c=>decide (c.1=v))=b.filter fun c=>decide (c.1=v))->a=b
 |[],[],_,_,_=>rfl
 |[],y::b,_,_,h=>by have:=h y.1;simp at this
 |x::a,[],_,_,h=>by have:=h x.1;simp at this
 |x::a,y::b,ha,hb,h=>by
  rw[X2]at ha hb;have g:x∈y::b:=by
   have:x∈(x::a).filter (fun c=>decide (c.1=x.1)):=YU.mpr ⟨Ym,by simp⟩;rw[h]at this;exact(YU.mp this).1
  have f:y∈x::a:=by
   have:y∈(y::b).filter (fun c=>decide (c.1=y.1)):=YU.mpr ⟨Ym,by simp⟩;rw[<-h]at this;exact(YU.mp this).1
  have l:y.1 <=x.1:=by
   rcases Yu.mp g with e|e
   .rw[e];exact XE _
   .exact hb.1 _ e
  have j:x.1 <=y.1:=by
   rcases Yu.mp f with e|e
   .rw[e];exact XE _
   .exact ha.1 _ e
  have i:x.1=y.1:=by omega
  have d:=h x.1;rw[VY (by simp),VY (by simp[i])]at d;obtain⟨rfl,_⟩:=List.cons.inj d
  congr 1
  refine Lf ha.2 hb.2 fun v=>?_
  have:=h v;rw[UC,UC]at this
  split at this
  .exact(List.cons.inj this).2
  .exact this
theorem Ae(w:Nat)(d:PD):∀n lo,d.ns.length - lo <=n->∀e∈J1 w d lo,e.k=d.k/\e.ky=d.ky
 |n,lo,hn=>fun e he=>by
  by_cases h:w < d.ns.length - lo/\8 <=w
  .rw[BK h.1 h.2]at he;rcases Yu.mp he with rfl|he
   .exact⟨rfl,rfl⟩
   .match n,hn with
    |0,hn=>omega
    |n+ 1,hn=>exact Ae w d n _ (by unfold Jm;omega) e he
  .rw[J1,dif_neg h,Y8]at he;subst he;exact⟨rfl,rfl⟩
theorem Ps:∀ (ws:List Nat) (ds:List PD),∀e∈Ju ws ds,∃d∈ds,e.k=d.k/\e.ky=d.ky
 |[],ds=>fun e he=>⟨e,he,rfl,rfl⟩
 |w::ws,ds=>fun e he=>by
  rw[j6]at he;obtain⟨d,hd,h1,h2⟩:=Ps ws (Me w ds) e he;obtain⟨b,a,h⟩:=VR.mp hd;obtain⟨f,c⟩:=Ae w b _ _ (Y6 _) d h;exact⟨b,a,h1.trans f,h2.trans c⟩
theorem QO{t:Int}{nm:Str}{d:PD}{A:AP}{c:Int×PD}(h:c∈(TD t nm d A).cs):c∈A.cs\/c.2.k=d.k/\c.2.ky=d.ky:=by
 unfold TD at h
 split at h
 .exact .inl h
 .rcases Yb.mp h with h|h
  .exact .inl h
  .unfold Dd at h
   split at h
   .cases h
   .obtain⟨x,e,rfl⟩:=Yw.mp h;obtain⟨f,b,k1,a⟩:=Ps _ _ x e;rw[Y8.mp b]at k1 a;exact .inr ⟨k1,a⟩
theorem Pq{t:Int}{ns:List Str}{c:Int×PD}:∀{ds:List PD} {i:Nat} {A:AP},c∈(Dx t ns i ds A).cs->c∈A.cs\/∃d∈ds,c.2.k=d.k/\c.2.ky=d.ky
 |[],_,_,h=>.inl h
 |d::ds,i,A,h=>by
  rcases Pq (ds:=ds) h with h|⟨d',hd,h⟩
  .rcases QO h with h|h
   .exact .inl h
   .exact .inr ⟨d,Ym,h⟩
  .exact .inr ⟨d',Yl _ hd,h⟩
section
variable{P:Wt}{w:Wx}{K:Wy}{mg:Wp}{base:WD}
abbrev Dy(x:Int×PD):PyData:=.tuple [.int x.1,.tuple [OT x.2.nu x.2.z1 x.2.z2,.int x.2.at',.list (x.2.ns.map PyData.int),.bool x.2.mo]]
theorem jY{A:Addr->Prop}{H:Hp}{v:V}{x:Int×PD}(h:Mz A H v x):Dp K H v (Dy x):=by
 obtain⟨t,p,rfl,h1,d,tk,b,rfl,h2,c,a,_⟩:=h;exact .tup (N9.of h1) (.cons (.int _) (.cons (.tup (N9.of h2) (.cons (wY c) (.cons (.int _) (.cons (Rf a) (.cons (.bl _) .nil))))) .nil))
theorem Fv{A:Addr->Prop}{H:Hp}:∀{vs:List V} {xs:List (Int×PD)},Pw (Mz A H) vs xs->Nz K H vs (xs.map Dy)
 |[],[],_=>.nil
 |v::vs,x::xs,h=>.cons (jY (h.2 0 v x rfl rfl)) (Fv ⟨by have:=h.1;simpa using this,fun j a b p q=>h.2 (j+ 1) a b p q⟩)
 |[],_::_,h=>by have:=h.1;simp at this
 |_::_,[],h=>by have:=h.1;simp at this
theorem SI{x:Int×PD}(h1:Js x.2.z1)(h2:Js x.2.z2):(Dy x).canLay0=true/\(Dy x).depth <=3:=by
 have a:=(W.ke_canLayAll0 x.2.ns);have b:=(Rv x.2.ns).2;have c:=(Rv x.2.ns).1;refine⟨by simp[PyData.canLay0,PyData.canLayAll0,h1.ok,h2.ok,c],by simp[PyData.depth,PyData.depthAll,b]⟩
theorem Pm{xs:List (Int×PD)}(h:∀x∈xs,Js x.2.z1/\Js x.2.z2):SeqAt.shaped (.list (xs.map Dy))=true:=by
 have h1:∀c:List (Int×PD),(∀x∈c,Js x.2.z1/\Js x.2.z2)->PyData.canLayAll0 (c.map Dy)=true/\PyData.depthAll (c.map Dy) <=3:=fun c=>by
  induction c with
  |nil=>intro _;exact⟨rfl,Yj _⟩
  |cons x r ih=>
   intro hh;obtain⟨a,b⟩:=ih fun y f=>hh y (Yl _ f)
   obtain⟨k1,e⟩:=hh x Ym;obtain⟨c,d⟩:=SI k1 e;rw[List.map_cons,PyData.canLayAll0,PyData.depthAll,a,c];exact⟨rfl,by omega⟩
 obtain⟨a,b⟩:=h1 xs h;simp only[SeqAt.shaped,PyData.canLay0,PyData.depth,a];simp;omega
theorem w4(x:Int×PD):PyData.eqv (Dy x) (Dy x)=true:=by
 have h:PyData.eqv (.list (x.2.ns.map PyData.int)) (.list (x.2.ns.map PyData.int))=true:=EV _;simp[PyData.eqv,PyData.eqvAll]at h ⊢;exact h
theorem QJ(xs:List (Int×PD)):PyData.eqv (.list (xs.map Dy)) (.list (xs.map Dy))=true:=by
 show PyData.eqvAll _ _=true
 induction xs with
 |nil=>rfl
 |cons x r ih=>rw[List.map_cons,PyData.eqvAll,ih,w4];rfl
theorem uZ{C p:WA}{H:Hp}{v1 v2 v3 v4 v5 v6 v7:V}(L:D6 K C)(h:Nv C H p v1 v2 v3 v4 v5 v6 v7):N5 K H (.ref p) "body" v5:=by
 obtain⟨dx,fs,a,f,e,d,c,b,_⟩:=h;exact⟨p,C,dx,fs,rfl,a,L.cl,L.body,b⟩
theorem Pi{d:PD}(l2:d.ns.length <=4000):∀{ws:List Nat} {es:List PD},GV ws->NC d 0 d.ns.length es->(∀e∈es,e.k=d.k/\e.ns.length <=d.ns.length)->(d.k=true->∀w∈ws,d.ns.length <=w)->JC ws es
 |[],_,_,_,_,_=>trivial
 |w::ws,es,hw,hc,he,hk=>by
  obtain⟨w8,w5⟩:=hw w Ym;have f:NC d 0 d.ns.length (Me w es):=F0 w8 (Y6 _) rfl hc;refine⟨⟨w8,w5,fun e h1 h2=>?_,?_⟩,Pi l2 (fun x g=>hw x (Yl _ g)) f (fun e h=>?_) fun z x g=>hk z x (Yl _ g)⟩
  .obtain⟨a,b⟩:=he e h1;have:=hk (a▸h2) w Ym;omega
  .have h1:=(NC.tot (Y6 _) f).2;omega
  .obtain⟨i,h',_,b,c⟩:=ZR w8 h;obtain⟨j,l⟩:=he i h';exact⟨c.trans j,by omega⟩
theorem xO{t:Int}{nm:Str}{d:PD}{A:AP}(hw:∀e∈A.rs,GV e.r.ws)(h1:1 <=d.ns.length):(TD t nm d A).cs.length <=A.cs.length+ d.ns.length/\∀e∈(TD t nm d A).rs,GV e.r.ws:=by
 unfold TD
 split
 .exact⟨XG _ _,hw⟩
 .rename_i e he
  refine⟨?_,fun x b=>?_⟩
  .show(A.cs++Dd t d e).length <=_;rw[List.length_append];have:(Dd t d e).length <=d.ns.length:=by
    unfold Dd
    split
    .exact Yj _
    .rw[Y1];exact BO h1 (hw e (List.mem_of_find?_eq_some he))
   omega
  .obtain⟨y,a,rfl⟩:=Yw.mp b
   split
   .exact hw y a
   .exact hw y a
theorem Q0{t:Int}{ns:List Str}:∀{ds:List PD} {i:Nat} {A:AP},(∀e∈A.rs,GV e.r.ws)->(∀d∈ds,1 <=d.ns.length)->(Dx t ns i ds A).cs.length <=A.cs.length+ tot ds
 |[],_,_,_,_=>XG _ _
 |d::ds,i,A,hw,hd=>by
  have h1:=xO (t:=t) (nm:=ns.getD (i%ns.length) "") hw (hd d Ym);have h2:=Q0 (t:=t) (ns:=ns) (ds:=ds) (i:=i+ 1) h1.2 fun x a=>hd x (Yl _ a)
  have b:tot (d::ds)=d.ns.length+ tot ds:=rfl;show(Dx t ns (i+ 1) ds _).cs.length <=_;have:=h1.1;omega
theorem Qr(n:Int):0 <=(D3 n).1/\(D3 n).1 <=65535/\Js (D3 n).2.1/\Js (D3 n).2.2:=by
 have b:∀k∈Mu,0 <=k.1/\k.1 <=65535/\(1 <=k.2.1.length/\k.2.1.length <=8/\k.2.1.cps.toList.all GS=true)/\(1 <=k.2.2.length/\k.2.2.length <=8/\k.2.2.cps.toList.all GS=true):=by decide +kernel
 have a:(n%7).toNat < Mu.length:=by
  show _ < 7;omega
 unfold D3;rw[YJ,Y5 a];exact b _ (Xw a)
def Dw(lcp:WA)(cs:List Th)(x:WA):Prop:=x=lcp\/∃c∈cs,c.b=x
structure RI(C CRo CP:WA)(ks:List Ky)(H:Hp)(p db dc lcp m dr dn lc:WA)(xs:List (Str×V))(zs:List V)(U:Nl)(M:Tz):Prop where
 po:WN C CRo CP H p db dc lcp U
 mo:Jj (Dw lcp U.cs) H m xs dr dn lc zs M
 ab:MS U=ML M
 ub:∀c∈U.cs,∀c'∈U.cs,c.b=c'.b->c.tm=c'.tm
 nb:∀c∈U.cs,c.b≠lcp/\∀e∈U.rs,c.b≠e.lw/\c.b≠e.ll
 nr:∀e∈U.rs,(e.lw≠lcp/\e.ll≠lcp)/\e.lw≠lc/\e.ll≠lc
 ke:∀c∈U.cs,c.d.k=decide (c.d.ky∈ks)
 nm:∀e∈U.rs,Js e.nm
 xl:xs.length <=10
 c4:U.cs.length <=3740
 r1:1 <=U.rs.length
 r2:U.rs.length <=11
 q1:db≠dr
 q2:db≠dn
 q3:dc≠dr
 q4:dc≠dn
 q5:m≠db
 q6:m≠dc
theorem RI.mono{C CRo CP:WA}{ks:List Ky}{H G:Hp}{p db dc lcp m dr dn lc:WA}{xs:List (Str×V)}{zs:List V}{U:Nl}{M:Tz}(s:WH H G)(h:RI C CRo CP ks H p db dc lcp m dr dn lc xs zs U M):RI C CRo CP ks G p db dc lcp m dr dn lc xs zs U M:=
 ⟨h.po.mono s,h.mo.mono s,h.ab,h.ub,h.nb,h.nr,h.ke,h.nm,h.xl,h.c4,h.r1,h.r2,h.q1,h.q2,h.q3,h.q4,h.q5,h.q6⟩
theorem WN.kpL{C CR CP p db dc lc:WA}{H G:Hp}{U:Nl}{B:Addr->Prop}(h:WN C CR CP H p db dc lc U)(k:∀c o,H c=some o->((∃xs,o= .lst xs)->¬B c)->((∃xs,o= .dK xs)->c=db\/c=dc)->G c=some o)(n1:¬B lc)(n2:∀c∈U.cs,¬B c.b)(n3:∀e∈U.rs,¬B e.lw/\¬B e.ll):WN C CR CP G p db dc lc U:=by
 have f:∀c o,H c=some o->(∀xs,o≠ .lst xs)->(∀xs,o≠ .dK xs)->G c=some o:=fun c o e n s=>k c o e (fun⟨xs,z⟩=>absurd z (n xs)) fun⟨xs,z⟩=>absurd z (s xs)
 have d:∀c xs,H c=some (.lst xs)->¬B c->G c=some (.lst xs):=fun c xs e n=>k c _ e (fun _=>n) fun⟨_,z⟩=>by cases z
 obtain⟨dx,fs,e,r⟩:=h.ex;refine⟨⟨dx,fs,f _ _ e nofun nofun,r⟩,k _ _ h.hb nofun fun _=>.inl rfl,k _ _ h.hc nofun fun _=>.inr rfl,d _ _ h.hl n1,h.ne,fun x l=>?_,fun c hc=>?_,h.nd⟩
 .have g:=h.rd x l;obtain⟨j,fs',i,q⟩:=g.ex;exact⟨⟨j,fs',f _ _ i nofun nofun,q⟩,d _ _ g.hw (n3 x l).1,d _ _ g.hl (n3 x l).2,g.ok⟩
 .have a:=h.th c hc;obtain⟨j,fs',i⟩:=a.pi.ins;exact a.kp (fun o z=>by rw[a.tu]at z;cases z;exact f _ _ a.tu nofun nofun) (fun o z=>by rw[i]at z;cases z;exact f _ _ i nofun nofun) (fun o z=>by rw[a.pi.bd]at z;cases z;exact d _ _ a.pi.bd (n2 c hc))
def GQ(H:Hp)(ys:List V)(ks:List Ky):Prop:=Pw (fun x q=>∃t,x=V.ref t/\H t=some (.tup (BA q))) ys ks
theorem GQ.mono{H G:Hp}{ys:List V}{ks:List Ky}(s:∀c xs,H c=some (.tup xs)->G c=some (.tup xs))(h:GQ H ys ks):GQ G ys ks:=h.imp fun x q ⟨t,e,z⟩=>⟨t,e,s _ _ z⟩
theorem GQ.v{H:Hp}{ys:List V}{ks:List Ky}(h:GQ H ys ks):IU K H ys ks:=h.imp fun x q ⟨t,e,z⟩=>⟨t,e,N9.of z⟩
theorem QC{c:TT}{a b:TS}{D:MQ}{σ:L2.St}{H:Hp}(h:∀N:L2.St->Hp->Prop,(∀σ' H',a D σ' H'->N σ' H')->Gs c (fun _=>N) b D σ H):Gs c a b D σ H:=h (a D) fun _ _ x=>x
theorem Jt.symm{a b:List PR}(h:Jt a b):Jt b a:=Eq.symm h
structure Dr(H:Hp)(b:Addr×List Int):Prop where
 hb:H b.1=some (.lst (b.2.map V.int))
 l1:1 <=b.2.length
 l2:b.2.length <=2000
 by':∀x∈b.2,0 <=x/\x <=255
structure Rr(K:Wy)(C CRo CP T:WA)(ks:List Ky)(t:Int)(p db dc m dr dn:WA)(H:Hp)(lcp lc:WA)(xs:List (Str×V))(U:Nl)(G:Hp)(lcp' lc':WA)(xs':List (Str×V))(zs':List V)(U':Nl)(M':Tz):Prop where
 kp:∀c o,H c=some o->c≠p->c≠dc->c≠lcp->c≠m->c≠dn->c≠lc->c≠T->(∀d∈U.cs,d.b≠c)->G c=some o
 tb:NP G T MH
 du:RI C CRo CP ks G p db dc lcp' m dr dn lc' xs' zs' U' M'
 l1:lcp'=lcp\/H lcp'=none
 l2:lc'=lc\/H lc'=none
 xk:xs'.lookup ("keep":Str)=xs.lookup ("keep":Str)
 nn:U'.rs.map (·.nm)=U.rs.map (·.nm)
 nw:U'.now <=t
 cs:∀c∈U'.cs,c∈U.cs\/H c.b=none
 dm:∀c,G c=none->H c=none
inductive FT(K:Wy)(C CRo CP T:WA)(vs:List V)(H:Hp)(Q:VK)(E:XK):Prop|mk (p db dc lcp m dr dn lc lb ld lk:WA) (xs:List (Str×V)) (zs:List V) (U:Nl) (M:Tz) (ks:List Ky) (ys:List V) (t:Int) (bs:List (Addr×List Int)) (ds:WB) (_:vs=[.ref p,.ref m,.ref lb,.ref ld,.int t]) (_:RI C CRo CP ks H p db dc lcp m dr dn lc xs zs U M) (_:U.now <=t) (_:NP H T MH) (_:xs.lookup ("keep":Str)=some (.ref lk)) (_:H lk=some (.lst ys)) (_:GQ H ys ks) (_:H lb=some (.lst (bs.map fun b=>V.ref b.1))) (_:(∀b∈bs,Dr H b/\b.1≠lcp)) (_:lb≠lcp) (_:lk≠lcp) (_:1 <=bs.length) (_:bs.length <=7) (_:H ld=some (.lst (ds.map V.int))) (_:ds.length=9) (_:(∀x∈ds,0 <=x/\x < 5040)) (_:∀G lcp' lc' xs' zs' U' M',Rr K C CRo CP T ks t p db dc m dr dn H lcp lc xs U G lcp' lc' xs' zs' U' M'->Q (.bl true) G)
abbrev RC:Stmt:=JX 60
theorem Dl:JN ["_law_post","_law_m","_law_bodies","_law_digits_here","_law_time","_law_names","_law_k","_law_some","_law_key_here","_law_width","_law_handed","_law_narrow","_law_letter","_law_found","_law_due","_law_when","_law_piece"] ["_law_post","_law_m","_law_bodies","_law_digits_here","_law_time"] (WF RC):=by walk_at"e"
theorem w6{f C CRo CP CL T:WA}{fd:Wv}(F:JT K "_law_deed" "_law_deed" RC f fd)(B:Bt mg)(B2:E3 mg)(L:My K C)(LP:D6 K CP)(ncp:C≠CP)(MJ:JI P w K mg base "_law_key" 1 ["_law_digit"] [] Hi)(Nq:JI P w K mg base "_law_fetched" 2 ["_law_m","_law_time"] [] L5)(NU:JI P w K mg base "_law_plain" 2 ["_law_piece"] [] (Iz CP))(Tn:JI P w K mg base "_law_sent" 3 ["_law_m","_law_time","_law_key_here","_law_body_here","_law_width","_law_names"] [] P7)(JU:Tc P w K mg base CP "key" 1 ["self"] [] (IV CP))(N2:Tc P w K mg base C "fetch" 9 ["self","time"] [] (Cy C CRo CP T))(NH:Tc P w K mg base C "send" 13 ["self","time","letter","width","names"] [] (Kc C CRo CP CL))(Gu:MR P w K mg base "Letter" 6 (LW CL)):WQ P w K mg base Jr 15 f fd ["_law_post","_law_m","_law_bodies","_law_digits_here","_law_time"] (FT K C CRo CP T):=by
 refine F.ok Dl (fun vs H Q E h=>?_) (fun cdv A' outer s H vs Q E hr h=>?_)
 .obtain⟨p,db,dc,lcp,m,dr,dn,lc,lb,ld,lk,xs,zs,U,M,ks,ys,t,bs,ds,rfl,_⟩:=h;rfl
 .obtain⟨p,db,dc,lcp,m,dr,dn,lc,lb,ld,lk,xs,zs,U,M,ks,kl,t,bs,ds,rfl,u,ht,tb,xk,hlk,hys,hlb,hbs,nlb,nlk,b1,b7,hld,dl,hds,q⟩:=h;refine⟨_,(WX (D8 (i:=5) (Dl).nd rfl (Or.inr rfl) (N3 (FW rfl (WV.units hr)) B2.sorted (Dc (Im (K:=K) rfl US Uq V1 IN (NG hr (WG 1) JM)) WK))) (WX (Ny (ND (MZ D9) (J0 (dI Na) (T5 K (WG 3) WM) WM) WM) (WX (Nf 14 Dl (Jx Nq hr.m rfl (WR 1 (WR 4 WK)))) (WX (Nf 13 Dl (DE (WG 0) N2 hr.m (WR 4 WK))) (WX (Ny (ND (EA (K:=K) (WV.units hr) rfl) (TU (N':=["_law_when","_law_piece"]) (caps:=[none,none]) (Tf (sc:=WF RC) (N:=["_law_post","_law_m","_law_bodies","_law_digits_here","_law_time","_law_names","_law_k","_law_some","_law_key_here","_law_width","_law_handed","_law_narrow","_law_letter","_law_found","_law_due","_law_when","_law_piece"]) rfl rfl (by decide +kernel)) rfl (Tw (K:=K) rfl (WG 13)) (fun _ _ _ _ _=>(E8 (K:=K) (n:=2) rfl rfl (MK (T3 (i:=0) (T9 (N:=["_law_when","_law_piece"]) rfl (by decide +kernel)) rfl (Or.inl rfl)) (MK (T3 (i:=1) (T9 (N:=["_law_when","_law_piece"]) rfl (by decide +kernel)) rfl (Or.inl rfl)) RY)))) (fun _ _ _ _ _=>Mx) (fun _ _ _ _ _=>(MO (WR 0 (Dc (Jx NU hr.m rfl (WR 1 WK)) WK))))) (WG 14)) (Jg (JB Mm)) NB) (WX (Ny (ND (Lr (OV (K:=K) (WV.units hr) rfl)) (TU (N':=["_law_when","_law_piece","_law_m"]) (caps:=[none,none,some 1]) (Tf (sc:=WF RC) (N:=["_law_post","_law_m","_law_bodies","_law_digits_here","_law_time","_law_names","_law_k","_law_some","_law_key_here","_law_width","_law_handed","_law_narrow","_law_letter","_law_found","_law_due","_law_when","_law_piece"]) rfl rfl (by decide +kernel)) rfl (Tw (K:=K) rfl (WG 13)) (fun _ _ _ _ _=>(E8 (K:=K) (n:=2) rfl rfl (MK (T3 (i:=0) (T9 (N:=["_law_when","_law_piece","_law_m"]) rfl (by decide +kernel)) rfl (Or.inl rfl)) (MK (T3 (i:=1) (T9 (N:=["_law_when","_law_piece","_law_m"]) rfl (by decide +kernel)) rfl (Or.inl rfl)) RY)))) (fun _ _ _ _ _=>(Rp (ND (PU Oh) (Nd K (WG 1)) (M8 (HE (K:=K) (WV.units hr) rfl) (DD (WG 1) JU hr.m) (NG hr (WG 2) JM) (by with_unfolding_all rfl))))) (fun _ _ _ _ _=>(WG 0))) (Np WK)) (Jg (JB Mm)) NB) (WX (Ny (ND (Lr (OV (K:=K) (WV.units hr) rfl)) (TU (N':=["_law_one"]) (caps:=[none]) (Tf (sc:=WF RC) (N:=["_law_post","_law_m","_law_bodies","_law_digits_here","_law_time","_law_names","_law_k","_law_some","_law_key_here","_law_width","_law_handed","_law_narrow","_law_letter","_law_found","_law_due","_law_when","_law_piece"]) rfl rfl (by decide +kernel)) rfl (Tw (K:=K) rfl (WG 13)) (fun _ _ _ _ _=>(T3 (i:=0) (T9 (N:=["_law_one"]) rfl (by decide +kernel)) rfl (Or.inl rfl))) (fun _ _ _ _ _=>(Rp (Tv (TK (N3 (Rn "tuple") B.isinstance (WR 0 (WW (hs:=Ni) (Ra (v:=.ty "tuple") rfl B.btuple (by rfl) rfl) WK))))))) (fun _ _ _ _ _=>(WG 0))) (Np WK)) (Jg (JB Mm)) NB) (WX (Dz YZ rfl (Tw (K:=K) rfl (WG 13)) (E8 (K:=K) (n:=2) rfl rfl (MK (Md 15 Dl) (MK (Md 16 Dl) RY))) (Jg (Mn (Dh (K:=K) rfl YI YQ YR (Gr GB) (Nd K (WG 16)) (Nb WM WK))))) (WX (Mn (Dh (K:=K) rfl YI YQ YR (Gr GB) (WG 13) (Nb WM WK))) (Jg (JB (M8 (B1 (BP (K:=K) (WV.units hr) rfl)) (DE (WG 0) N2 hr.m (WR 4 WK)) (Np WK) (Mi _))))))))))) NB) (WX (Nf 6 Dl (J0 (dI Na) (T5 K (WG 3) WM) (N3 (Mb (Mc (K:=K) rfl)) B.len (WR 2 WK)))) (WX (Cq (i:=7) (N':=["_law_j","_law_names","_law_digits_here"]) (caps:=[none,some 5,some 3]) (Tf (sc:=WF RC) (N:=["_law_post","_law_m","_law_bodies","_law_digits_here","_law_time","_law_names","_law_k","_law_some","_law_key_here","_law_width","_law_handed","_law_narrow","_law_letter","_law_found","_law_due","_law_when","_law_piece"]) rfl rfl (by decide +kernel)) rfl (Dl).nd rfl (Or.inl rfl) (Ge rfl B.range (WW (hs:=TF) (J0 (Jz Nw) WM (J0 (dI Na) (T5 K (WG 3) WM) WM)) WK)) (fun _ _ _ _ _=>(T3 (i:=0) (T9 (N:=["_law_j","_law_names","_law_digits_here"]) rfl (by decide +kernel)) rfl (Or.inl rfl))) (fun _ _ _ _ _=>Mx) (fun _ _ _ _ _=>(T5 K (WG 1) (J0 (dI Na) (T5 K (WG 2) (J0 (Jz Nw) WM (WG 0))) (N3 (Mb (Mc (K:=K) rfl)) B.len (WR 1 WK))))) rfl) (WX (Nf 8 Dl (Jx MJ hr.m rfl (WR 6 WK))) (WX (Nf 9 Dl (J0 (Jz Nw) WM (J0 (dI Na) (T5 K (WG 3) WM) (T5 K (Np (Nb WM (Nb WM (Nb WM WK)))) (J0 (dI Na) (T5 K (WG 3) WM) WM))))) (WX (Nf 10 Dl (R0 (Bj (BF (K:=K) rfl)) rfl B.blist (by rfl) (WR 7 WK))) (WX (Nf 11 Dl (N3 (La (K:=K) rfl rfl) B.min (WW (hs:=TF) (J0 (RN Rz) (Np (WR 9 WK)) (TU (N':=["_law_name","_law_m"]) (caps:=[none,some 1]) (Tf (sc:=WF RC) (N:=["_law_post","_law_m","_law_bodies","_law_digits_here","_law_time","_law_names","_law_k","_law_some","_law_key_here","_law_width","_law_handed","_law_narrow","_law_letter","_law_found","_law_due","_law_when","_law_piece"]) rfl rfl (by decide +kernel)) rfl (Tw (K:=K) rfl (WG 7)) (fun _ _ _ _ _=>(T3 (i:=0) (T9 (N:=["_law_name","_law_m"]) rfl (by decide +kernel)) rfl (Or.inl rfl))) (fun _ _ _ _ _=>Mx) (fun _ _ _ _ _=>(N3 (La (K:=K) rfl rfl) B.min (De (DU K (NG hr (NG hr (WG 1) JM) (WG 0)) WM) WK))))) WK))) (WX (Ny (PW.pt (DG (PW.pt (RW (ND (Jz Rs) (N3 (Mb (Mc (K:=K) rfl)) B.len (De (T5 K (WG 2) (WG 6)) WK)) (WG 11)) (Es (EE (HE (K:=K) (WV.units hr) rfl) (WG 8) (NG hr (WG 1) JM) (by with_unfolding_all rfl))))) (Gh (ND (Jz Rs) (N3 (Mb (Mc (K:=K) rfl)) B.len (De (NG hr (WG 1) JM) WK)) WM)))) (Jg (JB Mm)) NB) (WX (Nf 12 Dl (RG Gu hr.m rfl (De (DU K (WG 8) WM) (De (DU K (WG 8) WM) (De (DU K (WG 8) WM) (De (T5 K (WG 2) (WG 6)) (WW (hs:=Hn) (M8 (HE (K:=K) (WV.units hr) rfl) (WG 8) (NG hr (WG 1) JM) (by with_unfolding_all rfl)) WK))))))) (WX (Nf 13 Dl (DE (WG 0) NH hr.m (WR 4 (WR 12 (WR 9 (WR 10 WK)))))) (Jg (JB (MN (M8 (MZ D9) (WG 13) (Jx Tn hr.m rfl (WR 1 (WR 4 (WR 8 (De (T5 K (WG 2) (WG 6)) (WR 9 (WR 7 WK))))))) (Mi _)) (Gn (M8 (F6 (K:=K) (WV.units hr) rfl) (WG 10) (WG 7) (Mi _))))))))))))))))),?_⟩;have dgt:∀j:Nat,j < 9->∃x,Ts (ds.map V.int) (j:Int)=some (.int x)/\0 <=x/\x < 5040:=fun j hj=>by
   obtain⟨x,hx⟩:∃x,ds[j]?=some x:=⟨_,Y5 (by omega)⟩;obtain⟨x0,x1⟩:=hds x (Ya hx);exact⟨x,by refine DY ?_;rw[Yf,hx];rfl,x0,x1⟩
  have dg:∀{xs:List (Str×V)} {a:WA} {H':Hp} {n:Str} {v:V},H' a=some (.dK (dS xs))->xs.lookup n=some v->NJ H' a (.str n) (some v):=fun h1 h2=>.inl ⟨_,.inr _,.inl h1,rfl,by rw[GC];exact h2.symm⟩
  have lenA:M.cs.length=U.cs.length:=by
   have:=YB AP.cs u.ab;have:=YB List.length this;unfold MS ML Mo at this;simp at this;exact this.symm
  have hA:∀x,Dw lcp U.cs x->H x≠none:=fun x z=>by
   rcases z with rfl|⟨c,hc,rfl⟩
   .rw[u.po.hl];nofun
   .rw[(u.po.th c hc).pi.bd];nofun
  have nmE:U.rs.map (·.nm)=M.rs.map (·.nm):=by
   have:=YB AP.rs u.ab;have:=YB (List.map AR.nm) this;unfold MS ML TH at this;simp only[Yp]at this;exact this
  have lenM:M.rs.length=U.rs.length:=by
   have:=YB List.length nmE;simp at this;exact this.symm
  have r2:=u.r2;have c4:=u.c4;refine Ja fun N hN=>?_
  walk_at"rd";refine⟨_,dg u.mo.hm u.mo.x1,.inr (.inr (.inl ⟨rfl,.inl ⟨_,u.mo.hr⟩⟩)),dr,rfl,_,u.mo.hr,fun v G1 hv s1 h1=>⟨dr,h1,_,s1 _ _ u.mo.hr,M.rs.map (·.nm),by unfold dS dR;rw[Yp,Yp,Yp];rfl,by rw[Y1];omega,fun ms l0 G2 pm so hl0 s2 h2=>hN _ _ ?_⟩⟩;clear hN N;have s02:=s1.trans s2;refine Ja fun N hN=>?_
  refine QC fun N1 hN1=>?_
  walk_at"rd";obtain⟨x0,a0,x00,x01⟩:=dgt 0 (by decide);refine⟨_,WJ.of (s02 _ _ hld),_,a0,x0,rfl,by decide,rfl,?_⟩
  by_cases hx:x0%3=0
  .rw[Y9 (Yq hx)];refine hN1 _ _ ?_;clear hN1 N1;have hM2:=u.mo.mono s02;have hU2:=u.po.mono s02;have tb2:=tb.same s02;refine Ja fun N hN=>?_
   walk_at"rd";refine⟨Dw lcp U.cs,m,dr,dn,lc,xs,zs,M,t,rfl,hM2,by omega,u.xl,fun x z h=>hA x z (s02.free h),fun l lc' yz dsA zs' G3 hl hlc' k3 h3 pw3 st3 hM3=>hN _ _ ?_⟩;clear hN N;have hU3:=hU2.butD (a:=m) k3 hM2.hm (Ne.symm u.q5) (Ne.symm u.q6);have tb3:NP G3 T MH:=tb2.of fun a o h k=>k3 a o h fun z=>by rw[z,hM2.hm]at h;cases h;rcases k with⟨_,k⟩|⟨_,k⟩ <;> cases k
   refine Ja fun N hN=>?_
   walk_at"rd";refine⟨hU3.mt rfl,p,db,dc,lcp,U,t,rfl,hU3,ht,by omega,tb3,fun l2 lcp' ms2 G4 hl2 hlcp nll k4 tb4 st4 h4 hU4=>hN _ _ ?_⟩;clear hN N;obtain⟨dx3,fs3,hp3,_⟩:=hU3.ex;have kd4:∀{c:WA} {o:HO},G3 c=some o->(∀C dx fs,o= .ins C dx fs->C=CP)->(∀ps,o≠ .tbl ps)->G4 c=some o:=fun {c o} h n1 n2=>k4 c o h (fun z=>by rw[z,hp3]at h;cases h;exact ncp (n1 _ _ _ rfl)) (RJ tb3 h n2)
   have mem2:∀c∈ms2,c∈U.cs/\c.tm <=t:=fun c hc=>by
    have:=st4.pm.mem_iff.mp hc;unfold M6 at this;rw[YU]at this;exact⟨this.1,Xd this.2⟩
   have hT4:∀c∈ms2,D7 CP G4 c:=fun c hc=>by
    have hT:=hU3.th c (mem2 c hc).1;obtain⟨dx',fs',e'⟩:=hT.pi.ins;exact hT.kp (fun o z=>by rw[hT.tu]at z;cases z;exact kd4 hT.tu nofun nofun) (fun o z=>by rw[e']at z;cases z;exact kd4 e' (fun _ _ _ z=>by cases z;rfl) nofun) (fun o z=>by rw[hT.pi.bd]at z;cases z;exact kd4 hT.pi.bd nofun nofun)
   have hM3f:Jj (fun x=>Dw lcp U.cs x\/x=l2\/x=lcp') G3 m (EH xs "coming" (.ref lc')) dr dn lc' zs' ⟨M.rs,ET t M.cs⟩:=hM3.far fun x z=>by
    rcases z with z|rfl|rfl
    .exact .inl z
    .exact .inr hl2
    .exact .inr hlcp
   have hM4:=hM3f.kp (G:=G4) fun c o h n1 n2 n3 n4=>kd4 h (fun _ _ _ z=>absurd z (n3 _ _ _)) n4
   have hl4:G4 l=some (.lst yz):=kd4 h3 nofun nofun;have pw4:Pw (Mz (Tt (Dw lcp U.cs) lc) G4) yz dsA:=pw3.imp fun _ _ zz=>by rcases zz with⟨t,p,h1,h2,h3⟩;exact ⟨t,p,h1,kd4 h2 nofun nofun,h3.kp fun c o e g n1 n2 n3=>kd4 e (fun _ _ _ z=>absurd z (n2 _ _ _)) n3⟩
   have MI:ms2.length <=3740:=by
    have h1:=st4.pm.length_eq;have h2:=Xu (fun c:Th=>decide (c.tm <=t)) U.cs;unfold M6 at h1;omega
   have lth:(Nc ms2).length=ms2.length:=Y1 ..;have eqA:dsA=ms2.map fun c=>(c.tm,c.d):=by
    refine Lf st3.so ?_ fun v=>?_
    .rw[VB];exact st4.so
    .have hab:M.cs=Mo U.cs:=(YB AP.cs u.ab).symm;rw[st3.eq,Vh,show((fun c:Int×PD=>decide (c.1=v)) ∘ fun c:Th=>(c.tm,c.d))=fun c:Th=>decide (c.tm=v) from rfl,st4.eq];unfold To M6;rw[hab];unfold Mo;rw[Vh,Vh];rfl
   refine Ja fun N hN=>?_
   walk_at"rd";refine⟨⟨_,WJ.of h4⟩,?_⟩;obtain⟨Pv,ePv⟩:∃Pv:Nat->List V->L2.St->Hp->Prop,Pv=fun i ys σ' G=>WH G4 G/\Pw (Mz (fun _=>False) G) ys ((ms2.take i).map fun c=>(c.tm,c.d))/\∃v v',σ'=[v,v']:=⟨_,rfl⟩
   refine MY (xs:=Nc ms2) Pv (by rw[ePv];exact⟨WH.refl _,Pw.nil,none,none,rfl⟩) ?_ (Nm (by omega)) ?_ ?_ <;> rw[ePv]
   .rintro i ys σ' G ⟨sG,pw,_⟩ _;refine⟨WJ.of (sG _ _ h4),?_⟩;rw[pw.1,Y1,YC];omega
   .intro i y ys σ' G hy Zq;obtain⟨sG,pw,v,v',rfl⟩:=Zq;rw[<-ePv];unfold Nc at hy;rw[Yf]at hy;obtain⟨c,hc,rfl⟩:=Yy.mp hy;have hTc:=(hT4 c (Ya hc)).mono sG;walk_at"rd";refine⟨_,N9.of hTc.tu,rfl,_,_,rfl,_,_,rfl,rfl,c.q,c.b,c.d,rfl,hTc.pi,fun t' tk G1 ht' s1 h1 h2=>⟨Nm (by decide),fun tt G2 htt s2 h3=>?_⟩⟩;rw[ePv];refine⟨sG.trans (s1.trans s2),?_,_,_,rfl⟩;rw[YD,hc,YH,Yd];exact(pw.imp fun _ _ z=>z.mono (s1.trans s2)).snoc ⟨tt,.ref t',rfl,h3,t',tk,c.b,rfl,s2 _ _ h1,s2 _ _ h2,(s1.trans s2) _ _ hTc.pi.bd,nofun⟩
   rintro ys σ' G ⟨sG,pw,_⟩ l5 G5 hl5 s5 h5;have s45:=sG.trans s5;rw[lth,YE,<-eqA]at pw;have nk2:∀x∈dsA,Js x.2.z1/\Js x.2.z2:=fun x hx=>by
    rw[eqA]at hx;obtain⟨c,hc,rfl⟩:=Yw.mp hx;exact⟨(hT4 c hc).pi.ok.k1,(hT4 c hc).pi.ok.k2⟩
   refine⟨.list (dsA.map Dy),.list (dsA.map Dy),.lst (WJ.of h5) (Fv (pw.imp fun _ _ z=>z.mono s5)),.lst (WJ.of (s45 _ _ hl4)) (Fv (pw4.imp fun _ _ z=>z.mono s45)),Pm nk2,Pm nk2,_,rfl,?_⟩;rw[QJ,Y3 (by decide)];refine hN _ _ ?_;clear hN N pw h5 hl5 s5 sG ePv Pv G pw4 hl4 h3 pw3 st3 hl;have xk':(EH xs "coming" (.ref lc')).lookup ("keep":Str)=some (.ref lk):=by
    rw[ED,Y3 (by decide +kernel),xk]
   have kt5 : ∀ c o, H c = some o -> (∀ xs, o ≠ .dK xs) -> (∀ C dx fs, o ≠ .ins C dx fs) -> (∀ ps, o ≠ .tbl ps) -> G5 c = some o := fun c o h n1 n2 n3 => s45 _ _ (kd4 (k3 _ _ (s02 _ _ h) fun z => by
    have := s02 _ _ h;rw [z, hM2.hm] at this;cases this;exact n1 _ rfl) (fun _ _ _ z => absurd z (n2 _ _ _)) n3)
   have hlk5:G5 lk=some (.lst kl):=kt5 _ _ hlk nofun nofun nofun;have hys5:GQ G5 kl ks:=hys.mono fun c xs h=>kt5 _ _ h nofun nofun nofun
   have hM5:=hM4.mono s45;have hT5:∀c∈ms2,D7 CP G5 c:=fun c hc=>(hT4 c hc).mono s45
   refine Ja fun N hN=>?_
   walk_at"rd";refine⟨⟨_,WJ.of (s45 _ _ h4)⟩,?_⟩;obtain⟨Pv,ePv⟩:∃Pv:Nat->List V->L2.St->Hp->Prop,Pv=fun i ys σ' G=>WH G5 G/\ys=[]/\∃v v',σ'=[v,v',some (.ref m)]:=⟨_,rfl⟩
   refine MY (xs:=Nc ms2) Pv (by rw[ePv];exact⟨WH.refl _,rfl,none,none,rfl⟩) ?_ (Nm (by omega)) ?_ ?_ <;> rw[ePv]
   .rintro i ys σ' G ⟨sG,rfl,_⟩ _;exact⟨WJ.of (sG _ _ (s45 _ _ h4)),Yj _⟩
   .intro i y ys σ' G hy Zq;obtain⟨sG,rfl,v,v',rfl⟩:=Zq;rw[<-ePv];unfold Nc at hy;rw[Yf]at hy;obtain⟨c,hc,rfl⟩:=Yy.mp hy;have hcm:=Ya hc;have hTc:=(hT5 c hcm).mono sG;walk_at"rd";refine⟨_,N9.of hTc.tu,rfl,_,_,rfl,_,_,rfl,rfl,_,BZ LP hTc.pi,LZ hTc.pi,c.q,c.b,c.d,rfl,hTc.pi,fun tk G1 htk s1 h1=>⟨_,dg ((sG.trans s1) _ _ hM5.hm) xk',tk,rfl,lk,rfl,kl,ks,c.d.ky,N9.of h1,WJ.of ((sG.trans s1) _ _ hlk5),(hys5.mono fun c xs h=>(sG.trans s1) _ _ h).v,rfl,?_⟩⟩;rw[u.ke c (mem2 c hcm).1,Y3 (by simp),ePv];exact⟨sG.trans s1,rfl,_,_,rfl⟩
   rintro ys σ' G ⟨sG,rfl,_⟩ l6 G6 hl6 s6 h6;refine⟨Yj _,fun l7 G7 hl7 s7 h7=>⟨l6,rfl,_,WJ.of (s7 _ _ h6),WJ.of h7,?_⟩⟩;rw[Y3 (by decide)];refine hN _ _ ?_;have s57:=sG.trans (s6.trans s7);clear hN N hl6 h6 hl7 h7 s6 s7 sG ePv Pv G;refine Ja fun N hN=>?_
   walk_at"rd";have hT7:∀c∈ms2,D7 CP G7 c:=fun c hc=>(hT5 c hc).mono s57
   have h47:G7 l2=some (.lst (Nc ms2)):=s57 _ _ (s45 _ _ h4);refine⟨⟨_,WJ.of h47⟩,?_⟩;obtain⟨Pv,ePv⟩:∃Pv:Nat->List V->L2.St->Hp->Prop,Pv=fun i ys σ' G=>G=G7/\ys=[]/\∃v,σ'=[v]:=⟨_,rfl⟩
   refine MY (xs:=Nc ms2) Pv (by rw[ePv];exact⟨rfl,rfl,none,rfl⟩) ?_ (Nm (by omega)) ?_ ?_ <;> rw[ePv]
   .rintro i ys σ' G ⟨rfl,rfl,_⟩ _;exact⟨WJ.of h47,Yj _⟩
   .intro i y ys σ' G hy Zq;obtain⟨rfl,rfl,v,rfl⟩:=Zq;rw[<-ePv];unfold Nc at hy;rw[Yf]at hy;obtain⟨c,hc,rfl⟩:=Yy.mp hy;have hTc:=hT7 c (Ya hc);walk_at"rd";refine⟨_,xC hTc.tu,?_⟩;rw[Y3 (by decide),ePv];exact⟨rfl,rfl,_,rfl⟩
   rintro ys σ' G7 ⟨rfl,rfl,_⟩ l8 G8 hl8 s8 h8;refine⟨Yj _,fun l9 G9 hl9 s9 h9=>⟨l8,rfl,_,WJ.of (s9 _ _ h8),WJ.of h9,?_⟩⟩;rw[Y3 (by decide)];refine hN _ _ ?_;clear hN N hl8 h8 hl9 h9 ePv Pv;have s89:=s8.trans s9;have hT9:∀c∈ms2,D7 CP G9 c:=fun c hc=>(hT7 c hc).mono s89
   have h49:=s89 _ _ h47;have hM9:=(hM5.mono s57).mono s89;have hU9:=((hU4.mono s45).mono s57).mono s89;have tb9:=((tb4.same s45).same s57).same s89;have nb2:∀d∈ms2,d.b≠l2:=fun d hd=>J6 (hU3.th d (mem2 d hd).1).pi.bd hl2
   refine Ja fun N hN=>?_
   walk_at"rd";refine⟨⟨_,WJ.of h49⟩,?_⟩;obtain⟨Pv,ePv⟩:∃Pv:Nat->L2.St->Hp->Prop,Pv=fun i σ' G=>∃v15 v16:Option V,σ'=[some (.ref p),some (.ref m),some (.ref lb),some (.ref ld),some (.int t),some (.ref l0),none,none,none,none,none,none,none,some (.ref l2),some (.ref l),v15,v16]/\(∀c o,G9 c=some o->(∀d∈ms2,d.b≠c)->G c=some o)/\∀d∈ms2,∃vs,G d.b=some (.lst vs)/\vs.length <=4000+ i:=⟨_,rfl⟩
   refine Rg (xs:=Nc ms2) Pv (by rw[ePv];exact⟨none,none,rfl,fun c o h _=>h,fun d hd=>⟨_,(hT9 d hd).pi.bd,by rw[Y1];exact(hT9 d hd).pi.ok.l2⟩⟩) ?_ ?_ ?_ <;> rw[ePv]
   .intro i σ' G _ Zq;obtain⟨_,_,_,kG,_⟩:=Zq;exact WJ.of (kG _ _ h49 nb2)
   .intro i y σ' G hy Zq;obtain⟨v15,v16,rfl,kG,bG⟩:=Zq;rw[<-ePv];have hi:=(Y4.mp hy).1;unfold Nc at hy;rw[Yf]at hy;obtain⟨c,hc,rfl⟩:=Yy.mp hy;have hcm:=Ya hc;have hTc:=hT9 c hcm;have nB:∀{x:WA} {o:HO},G9 x=some o->(∀xs,o≠ .lst xs)->∀d∈ms2,d.b≠x:=fun e n d hd z=>by rw[<-z,(hT9 d hd).pi.bd]at e;cases e;exact n _ rfl
    obtain⟨vs,hvs,lvs⟩:=bG c hcm;obtain⟨dxq,fsq,hq⟩:=hTc.pi.ins;walk_at"rd";refine⟨_,N9.of (kG _ _ hTc.tu (nB hTc.tu nofun)),rfl,_,_,rfl,_,_,rfl,rfl,_,uZ LP (hTc.pi.ats.same fun o e=>by rw[hq]at e;cases e;exact kG _ _ hq (nB hq nofun)),.inl ⟨rfl,_,WJ.of hvs⟩,c.b,rfl,vs,hvs,by rw[Yh];omega,fun G' b' h'=>?_⟩;rw[ePv];refine⟨_,_,rfl,fun x o e n=>b' x o (kG x o e n) (Ne.symm (n c hcm)),fun d hd=>?_⟩
    by_cases z:d.b=c.b
    .rw[z];exact⟨_,h',by rw[List.length_append];simp;omega⟩
    .obtain⟨ws,hws,lws⟩:=bG d hd;exact⟨ws,b' _ _ hws z,by omega⟩
   intro σ' G10 Zq;obtain⟨v15,v16,rfl,kG,bG⟩:=Zq;refine hN _ _ ?_;clear hN N ePv Pv;have h410:=kG _ _ h49 nb2;refine Ja fun N hN=>?_
   walk_at"rd";refine ⟨.inl ⟨rfl, _, WJ.of h410⟩, _, h410, by rw [lth, Yh]; omega, fun G11 b11 h11 => hN _ _ ?_⟩;clear hN N;have k911 : ∀ c o, G9 c = some o -> ((∃ xs, o = .lst xs) -> ¬ (c = l2 \/ ∃ d ∈ ms2, d.b = c)) -> G11 c = some o := fun c o e n => b11 _ _ (kG _ _ e fun d hd z => by
    have := (hT9 d hd).pi.bd;rw [z, e] at this;exact n ⟨_, Yn this⟩ (.inr ⟨d, hd, z⟩)) fun z => by
    have:=h49;rw[<-z,e]at this;exact n ⟨_,Yn this⟩ (.inl z)
   have late:∀c∈Ji t U.cs,c∈U.cs/\c.tm > t:=fun c hc=>by
    unfold Ji at hc;rw[YU]at hc;exact⟨hc.1,Xd hc.2⟩
   have hU11 := hU9.kpL (B := fun c => c = l2 \/ ∃ d ∈ ms2, d.b = c) (fun c o e n _ => k911 c o e n) (fun z => by
    rcases z with z|⟨d,hd,z⟩
    .exact nll z.symm
    .exact J6 (hU3.th d (mem2 d hd).1).pi.bd hlcp z) (fun c hc z=>by
    obtain⟨c1,c2⟩:=late c hc;rcases z with z|⟨d,hd,z⟩
    .exact J6 (hU3.th c c1).pi.bd hl2 z
    .have := u.ub d (mem2 d hd).1 c c1 z;have := (mem2 d hd).2;omega) (fun e he => ⟨fun z => by
     rcases z with z|⟨d,hd,z⟩
     .exact J6 (hU3.rd e he).hw hl2 z
     .exact((u.nb d (mem2 d hd).1).2 e he).1 z,fun z=>by
     rcases z with z|⟨d,hd,z⟩
     .exact J6 (hU3.rd e he).hl hl2 z
     .exact ((u.nb d (mem2 d hd).1).2 e he).2 z⟩)
   have tb11:NP G11 T MH:=tb9.of fun a o h k=>k911 a o h fun⟨_,z⟩=>by subst z;rcases k with⟨_,k⟩|⟨_,k⟩ <;> cases k
   have hM11:=hM9.kp (G:=G11) fun c o e n _ _ _=>k911 c o e fun z1 z2=>by
    refine n z1 ?_;rcases z2 with z|⟨d,hd,z⟩
    .exact .inr (.inl z)
    .exact .inl (.inr ⟨d,(mem2 d hd).1,z⟩)
   have lle:=Xu (fun c:Th=>decide (c.tm > t)) U.cs;have ll:Ji t (Ji t U.cs)=Ji t U.cs:=by
    unfold Ji;rw[UO];simp
   have al:M6 t (Ji t U.cs)=[]:=by
    unfold M6 Ji;rw[UO,V0];intro c _;simp
   walk_at"rd";refine⟨hU11.mt rfl,p,db,dc,lcp',_,t,rfl,hU11,XE _,by show(Ji t U.cs).length <=5000;unfold Ji;omega,tb11,fun l10 lcp2 ms3 G12 hl10 hlcp2 _ k12 tb12 st12 h12 hU12=>⟨Yj _,fun l11 G13 hl11 s13 h13=>?_⟩⟩;have e3:ms3=[]:=by
    have:=st12.pm;rw[show M6 t ({U with now:=t,cs:=Ji t U.cs}:Nl).cs=M6 t (Ji t U.cs) from rfl,al]at this;exact VS this
   subst e3;refine⟨l10,rfl,_,WJ.of (s13 _ _ h12),WJ.of h13,?_⟩;rw[show({U with now:=t,cs:=Ji t ({U with now:=t,cs:=Ji t U.cs}:Nl).cs}:Nl)={U with now:=t,cs:=Ji t U.cs} by rw[show({U with now:=t,cs:=Ji t U.cs}:Nl).cs=Ji t U.cs from rfl,ll]]at hU12;have hU13:=hU12.mono s13;obtain⟨dx11,fs11,hp11,_⟩:=hU11.ex;have hM13:=((hM11.far (A':=fun x=>(Dw lcp U.cs x\/x=l2\/x=lcp')\/x=lcp2) fun x z=>z.imp id fun z=>z▸hlcp2).kp (G:=G12) fun c o h n1 n2 n3 n4=>k12 c o h (fun z=>by rw[z,hp11]at h;cases h;exact n3 _ _ _ rfl) (RJ tb11 h n4)).mono s13;have f2:∀{x:WA},G11 x=none->G2 x=none:=fun {x} hx=>by
    cases e:G2 x with
    |none=>rfl
    |some o=>
     exfalso
     by_cases z1:x=m
     .rw[z1,hM11.hm]at hx;cases hx
     by_cases z2:x=p
     .rw[z2,hp11]at hx;cases hx
     by_cases z3:x=T
     .obtain⟨ps,e,_⟩:=tb11.ex;rw[z3,e]at hx;cases hx
     by_cases z4:x=l2
     .rw[z4,h11]at hx;cases hx
     by_cases z5:∃d∈ms2,d.b=x
     .obtain⟨d,hd,z⟩:=z5;obtain⟨vs,hvs,_⟩:=bG d hd;rw[<-z,b11 _ _ hvs (nb2 d hd)]at hx;cases hx
     .have:=s89 _ _ (s57 _ _ (s45 _ _ (k4 _ _ (k3 _ _ e z1) z2 z3)));rw[b11 _ _ (kG _ _ this fun d hd z=>z5 ⟨d,hd,z⟩) z4]at hx;cases hx
   have f13:∀{x:WA},G13 x=none->G11 x=none:=fun {x} hx=>by
    have hx:=s13.free hx;cases e:G11 x with
    |none=>rfl
    |some o=>
     exfalso
     by_cases z2:x=p
     .obtain⟨dx,fs,e',_⟩:=hU12.ex;rw[z2,e']at hx;cases hx
     by_cases z3:x=T
     .obtain⟨ps,e',_⟩:=tb12.ex;rw[z3,e']at hx;cases hx
     rw[k12 _ _ e z2 z3]at hx;cases hx
   have hlc2:H lcp2=none:=s02.free (f2 hlcp2);refine q G13 lcp2 lc' _ zs' _ ⟨M.rs,ET t M.cs⟩ ⟨fun c o h n1 n2 n3 n4 n5 n6 n7 n8=>?_,tb12.same s13,⟨hU13,hM13.imp fun x z=>?_,?_,fun c hc c' hc'=>u.ub c (late c hc).1 c' (late c' hc').1,fun c hc=>⟨?_,(u.nb c (late c hc).1).2⟩,fun e he=>⟨⟨?_,?_⟩,?_,?_⟩,fun c hc=>u.ke c (late c hc).1,u.nm,by unfold EH;rw[Y1];exact u.xl,by show(Ji t U.cs).length <=3740;unfold Ji;omega,u.r1,u.r2,u.q1,u.q2,u.q3,u.q4,u.q5,u.q6⟩,.inr hlc2,.inr (s02.free hlc'),by rw[ED,Y3 (by decide +kernel)],rfl,XE _,fun c hc=>.inl (late c hc).1,fun c z=>s02.free (f2 (f13 z))⟩
   .have e9:=s89 _ _ (s57 _ _ (s45 _ _ (k4 _ _ (k3 _ _ (s02 _ _ h) n4) n1 n7)));have z4:c≠l2:=J6 (k3 _ _ (s02 _ _ h) n4) hl2;exact s13 _ _ (k12 _ _ (b11 _ _ (kG _ _ e9 fun d hd z=>n8 d (mem2 d hd).1 z) z4) n1 n7)
   .rcases z with z|⟨c,hc,z⟩
    .exact .inr z
    .exact .inl (.inl (.inr ⟨c,(late c hc).1,z⟩))
   .have h1:=YB AP.rs u.ab;have h2:Mo U.cs=M.cs:=YB AP.cs u.ab;show(⟨TH U.rs,Mo (Ji t U.cs)⟩:AP)=⟨M.rs.map fun e=>⟨e.nm,e.r,e.n⟩,ET t M.cs⟩;rw[show TH U.rs=M.rs.map fun e=>⟨e.nm,e.r,e.n⟩ from h1,<-h2]
    congr 1
    unfold ET Ji Mo;rw[Vh];rfl
   .exact J6 (hU11.th c hc).pi.bd hlcp2
   .exact J6 (hU11.rd e he).hw hlcp2
   .exact J6 (hU11.rd e he).hl hlcp2
   .exact J6 (hU2.rd e he).hw hlc'
   .exact J6 (hU2.rd e he).hl hlc'
  .rw[Y3 (by simpa using hx)];refine hN _ _ ?_;clear hN N hN1 N1;have hU2:=u.po.mono s02;have hM2:=u.mo.mono s02;have nM:0 < ms.length:=by
    rw[pm.length_eq,Y1];have:=u.r1;omega
   have hld2:=s02 _ _ hld;have hlb2:=s02 _ _ hlb;obtain⟨x1,a1,x10,x11⟩:=dgt 1 (by decide);refine Ja fun N hN=>?_
   walk_at"rd";refine⟨_,WJ.of hld2,_,a1,_,.inl (WJ.of hlb2),x1,rfl,by rw[Y1];omega,hN _ _ ?_⟩;clear hN N;obtain⟨kb,hkb,kb0⟩:∃kb:Nat,x1%((bs.map fun b=>V.ref b.1).length:Int)=(kb:Int)/\kb < bs.length:=by
    rw[Y1];have e0:=Um x1 (b:=(bs.length:Int)) (by omega);have e1:=U0 x1 (b:=(bs.length:Int)) (by omega);exact⟨(x1%(bs.length:Int)).toNat,(Int.toNat_of_nonneg e0).symm,by omega⟩
   rw[hkb];obtain⟨b0,hb0⟩:∃b0,bs[kb]?=some b0:=⟨_,Y5 kb0⟩;have hbB:=hbs b0 (Ya hb0);refine Ja fun N hN=>?_
   walk_at"rd";obtain⟨x5,a5,x50,x51⟩:=dgt 5 (by decide);refine⟨_,WJ.of hld2,_,a5,x5,rfl,by decide,by omega,by omega,?_⟩;obtain⟨n,hn⟩:∃n:Nat,(1+ x5%6).toNat=n:=⟨_,rfl⟩;have n1:1 <=n/\n <=6:=by omega
   rw[hn];obtain⟨Pv,ePv⟩:∃Pv:Nat->List V->L2.St->Hp->Prop,Pv=fun i ys σ' G=>G=G2/\∃ns:List Str,ys=ns.map V.str/\ns.length=i/\(∀n∈ns,n∈ms)/\∃v,σ'=[v,some (.ref l0),some (.ref ld)]:=⟨_,rfl⟩
   refine R6 Pv (by rw[ePv];exact⟨rfl,[],rfl,rfl,nofun,none,rfl⟩) ?_ (by rw[Yh];omega) ?_ ?_ <;> rw[ePv]
   .rintro i ys σ' G ⟨_,ns,rfl,h,_⟩ _;rw[Y1];omega
   .intro j ys σ' G hj Zq;obtain⟨rfl,ns,rfl,hnl,hns,v,rfl⟩:=Zq;rw[<-ePv];walk_at"rd";obtain⟨y,ay,y0,y1⟩:=dgt (2+ j) (by omega);have e0:=Um y (b:=(ms.length:Int)) (by omega);have e1:=U0 y (b:=(ms.length:Int)) (by omega);obtain⟨z,hz⟩:∃z,ms[(y%(ms.length:Int)).toNat]?=some z:=⟨_,Y5 (by omega)⟩;refine⟨_,WJ.of hld2,_,(by rw[XR];exact ay),_,.inl (WJ.of h2),y,rfl,by rw[Y1];omega,_,WJ.of h2,.str z,?_,?_⟩
    .rw[Y1,<-Int.toNat_of_nonneg e0];refine DY ?_;rw[Yf,hz];rfl
    .rw[ePv];refine⟨rfl,ns++[z],by rw[Yd];rfl,by rw[List.length_append,hnl];rfl,fun x hx=>?_,_,rfl⟩;rcases Yb.mp hx with hx|hx
     .exact hns x hx
     .rw[Y8.mp hx];exact Ya hz
   rintro ys σ' G2 ⟨rfl,ns,rfl,hnl,hns,_⟩ ln G3 hln s3 h3;refine hN _ _ ?_;clear hN N ePv Pv;refine Ja fun N hN=>?_
   walk_at"rd";refine⟨(kb:Int),rfl,fun tk G4 htk s4 h4=>hN _ _ ?_⟩;clear hN N;obtain⟨x6,a6,x60,x61⟩:=dgt 6 (by decide);obtain⟨x7,a7,x70,x71⟩:=dgt 7 (by decide);have hld4:=s4 _ _ (s3 _ _ hld2);refine Ja fun N hN=>?_
   walk_at"rd";obtain⟨wa,hwa,w0,w1⟩:∃wa:Int,Ts [V.int 9,V.int 40,V.int 200] (x7%3)=some (V.int wa)/\0 < wa/\wa <=200:=by
    have:x7%3=0\/x7%3=1\/x7%3=2:=by omega
    rcases this with z|z|z <;> rw[z]
    .exact⟨9,rfl,by decide,by decide⟩
    .exact⟨40,rfl,by decide,by decide⟩
    .exact⟨200,rfl,by decide,by decide⟩
   refine⟨_,WJ.of hld4,_,a6,by rw[Yh];decide,fun lq G5 hlq s5 h5=>⟨_,WJ.of (s5 _ _ hld4),_,a7,x7,rfl,by decide,_,WJ.of h5,_,hwa,x6,rfl,wa,rfl,w0,hN _ _ ?_⟩⟩;clear hN N;have hr0:0 <=x6%wa:=Um x6 (by omega);have hr1:x6%wa < wa:=U0 x6 w0;obtain⟨wd,ewd,wd8,wd2⟩:∃wd:Nat,8+ x6%wa=(wd:Int)/\8 <=wd/\wd <=208:=⟨(8+ x6%wa).toNat,by omega,by omega,by omega⟩;rw[ewd];have h35:G5 ln=some (.lst (ns.map V.str)):=s5 _ _ (s4 _ _ h3);have h45:=s5 _ _ h4;have s25:=s3.trans (s4.trans s5);refine Ja fun N hN=>?_
   walk_at"rd";refine⟨_,.inl (WJ.of h35),fun lh G6 hlh s6 h6=>hN _ _ ?_⟩;clear hN N;have s26:=s25.trans s6;have s06:=s02.trans s26;have hM6:=u.mo.mono s06;have hU6:=u.po.mono s06;have h36:=s6 _ _ h35;refine Ja fun N hN=>?_
   walk_at"rd";refine⟨Nm (by decide),fun lo1 G7 hlo1 s7 h7=>⟨⟨_,WJ.of (s7 _ _ h36)⟩,?_⟩⟩;have hM7:=hM6.mono s7;have h37:=s7 _ _ h36;obtain⟨Pv,ePv⟩:∃Pv:Nat->List V->L2.St->Hp->Prop,Pv=fun i ys σ' G=>G=G7/\∃vs:List Int,ys=vs.map V.int/\vs.length=i/\(∀n∈ns.take i,∀e∈M.rs,e.nm=n->∃v∈vs,∀w∈e.r.ws,v <=(w:Int))/\∃v,σ'=[v,some (.ref m)]:=⟨_,rfl⟩
   refine MY (xs:=ns.map V.str) Pv (by rw[ePv];exact⟨rfl,[],rfl,rfl,(fun n hn=>nomatch hn),none,rfl⟩) ?_ (Nm (by rw[Y1];omega)) ?_ ?_ <;> rw[ePv]
   .rintro i ys σ' G ⟨rfl,vs,rfl,hvl,_⟩ _;exact⟨WJ.of h37,by rw[Y1];omega⟩
   .intro i y ys σ' G hy Zq;obtain⟨rfl,vs,rfl,hvl,hvs,v,rfl⟩:=Zq;rw[<-ePv];rw[Yf]at hy;obtain⟨n',hn',rfl⟩:=Yy.mp hy;obtain⟨e,he,en⟩:=Yw.mp (pm.mem_iff.mp (hns n' (Ya hn')));subst en;have hR:=hM7.rd e he;have lR:(dR M.rs).lookup e.nm=some (.ref e.t):=RT (f:=(·.nm)) (g:=fun e:RM=>V.ref e.t) hM7.nd he;walk_at"rd";refine⟨_,dg hM7.hm hM7.x1,dr,rfl,_,dg hM7.hr lR,e.t,rfl,_,N9.of hR.tu,_,rfl,e.aw,rfl,e.r.ws.map fun w:Nat=>(w:Int),WJ.of (by rw[<-Ii];exact hR.hw),(fun z=>by have:=hR.ok.l1;rw[Wk.mp z]at this;simp at this),fun v hv1 hv2=>?_⟩;rw[ePv];refine⟨rfl,vs++[v],by rw[Yd];rfl,by rw[List.length_append,hvl];rfl,fun n hn e1 he1 en1=>?_,_,rfl⟩;rw[YD,hn',YH]at hn;rcases Yb.mp hn with hn|hn
    .obtain⟨x,hx1,hx2⟩:=hvs n hn e1 he1 en1;exact⟨x,Xf _ hx1,hx2⟩
    .rw[Y8.mp hn]at en1;rw[A4 hM7.nd he1 he en1];exact⟨v,Yx _ Ym,fun w hw=>hv2 _ (Xb (f:=fun w:Nat=>(w:Int)) hw)⟩
   rintro ys σ' G7 ⟨rfl,vs,rfl,hvl,hvs,_⟩ lo2 G8 hlo2 s8 h8;rw[Y1,YE]at hvs;refine⟨lo2,rfl,_,s8 _ _ h7,_,h8,by rw[Y1,Yh];simp;rw[hvl,Y1];omega,fun lo3 G9 hlo3 s9 h9=>⟨(wd:Int)::vs,WJ.of (by rw[h9];rfl),nofun,fun nw hnw1 hnw2=>hN _ _ ?_⟩⟩;clear hN N ePv Pv;have nwd:nw <=wd:=hnw2 _ Ym;have nww:∀n∈ns,∀e∈M.rs,e.nm=n->∀w∈e.r.ws,nw <=(w:Int):=fun n hn e he en w hw=>by
    obtain⟨v,hv,hv2⟩:=hvs n hn e he en;have:=hnw2 v (Yl _ hv);have:=hv2 w hw;omega
   have s69:=s7.trans (s8.trans s9);have s29:=s26.trans s69;have s09:=s02.trans s29;have hM9:=hM6.mono s69;have hU9:=hU6.mono s69;have h39:=s69 _ _ h36;have h69:=s69 _ _ h6;have h49:=s69 _ _ (s6 _ _ h45);have hlb9:=s09 _ _ hlb;have hB9:=s09 _ _ hbB.1.hb;have hlk9:=s09 _ _ hlk;have hys9:GQ G9 kl ks:=hys.mono fun c xs h=>s09 _ _ h
   have abk:Ts (bs.map fun b=>V.ref b.1) (kb:Int)=some (.ref b0.1):=by
    refine DY ?_;rw[Yf,hb0];rfl
   have lzs:zs.length=M.cs.length:=u.mo.th.1;refine Ja fun N hN=>?_
   walk_at"rd"
   suffices hgo:((b0.2.length:Int) <=nw\/D3 (kb:Int)∉ks)->M.cs.length <=1740->N [some (.ref p),some (.ref m),some (.ref lb),some (.ref ld),some (.int t),some (.ref l0),some (.int kb),some (.ref ln),some (.ref tk),some (.int wd),some (.ref lh),some (.int nw),none,none,none,none,none] G9 by
    have early:Q (.bl true) G9:=q G9 lcp lc xs zs U M ⟨fun c o h _ _ _ _ _ _ _ _=>s09 _ _ h,tb.same s09,u.mono s09,.inl rfl,.inl rfl,rfl,rfl,ht,fun c hc=>.inl hc,fun c z=>s09.free z⟩;have com:((b0.2.length:Int) <=nw\/D3 (kb:Int)∉ks)->∃x,NJ G9 m (V.str (Str.ofString "coming")) (some x)/\∃i,x=V.ref i/\∃ys,(WJ K G9 i ys\/N9 K G9 i ys)/\if decide (1740 < (ys.length:Int))=true then Q (V.bl true) G9 else N [some (.ref p),some (.ref m),some (.ref lb),some (.ref ld),some (.int t),some (.ref l0),some (.int kb),some (.ref ln),some (.ref tk),some (.int wd),some (.ref lh),some (.int nw),none,none,none,none,none] G9:=fun h=>by
     refine⟨_,dg hM9.hm hM9.x3,lc,rfl,_,.inl (WJ.of hM9.hl),?_⟩
     by_cases hc:M.cs.length <=1740
     .rw[Y3 (by simp;omega)];exact hgo h hc
     .rw[Y9 (by simp;omega)];exact early
    refine⟨_,WJ.of hlb9,_,abk,b0.1,rfl,_,.inl (WJ.of hB9),?_⟩;rw[Y1]
    by_cases hk:nw < (b0.2.length:Int)
    .rw[Y9 (Yq hk)];refine⟨_,dg hM9.hm xk,lk,rfl,kl,ks,D3 (kb:Int),N9.of h49,WJ.of hlk9,hys9.v,?_⟩
     by_cases hin:D3 (kb:Int)∈ks
     .rw[Y9 (Yq hin)];exact early
     .rw[Y3 (by simpa using hin)];exact com (.inr hin)
    .rw[Y3 (by simpa using hk)];exact com (.inl (by omega))
   intro hfit hcs;refine hN _ _ ?_;clear hN N;obtain⟨kT,ekT⟩:∃kT,kT=D3 (kb:Int):=⟨_,rfl⟩;have kTok:=Qr (kb:Int);rw[<-ekT]at hfit h49 kTok;obtain⟨d,ed⟩:∃d:LD,d=⟨kT.1,kT.2.1,kT.2.2,b0.2,decide (kT∈ks)⟩:=⟨_,rfl⟩;have dns:d.ns=b0.2:=by rw[ed]
   have dky:d.whole.ky=kT:=by rw[ed];rfl
   have dk:d.k=decide (kT∈ks):=by rw[ed]
   have dok:d.Ok:=by rw[ed];exact⟨kTok.1,kTok.2.1,kTok.2.2.1,kTok.2.2.2,hbB.1.l1,by have:=hbB.1.l2;show b0.2.length <=4000;omega,hbB.1.by'⟩
   have dkn:d.k=true->(b0.2.length:Int) <=nw:=fun h=>hfit.resolve_right (by rw[dk]at h;simpa using h)
   refine Ja fun N hN=>?_
   walk_at"rd";refine⟨_,N9.of h49,_,rfl,_,N9.of h49,_,rfl,_,N9.of h49,_,rfl,_,WJ.of hlb9,_,abk,_,dg hM9.hm xk,lk,rfl,kl,ks,kT,N9.of h49,WJ.of hlk9,hys9.v,d,b0.1,by rw[ed],dok,by rw[dns];exact hB9,fun q1 b1 G10 hq1 hb1 s10 hL10=>hN _ _ ?_⟩;clear hN N;have s010:=s09.trans s10;have hM10:=hM9.mono s10;have hU10:=hU9.mono s10;have cutP:∀e∈J1 wd d.whole 0,1 <=e.ns.length/\e.ns.length <=d.ns.length/\e.ky=d.whole.ky:=
    NC.pos (Y6 _) (BV (d:=d.whole) wd8 _ 0 (Y6 _) dok.l1 rfl)
   have abR:TH U.rs=M.rs.map fun e=>⟨e.nm,e.r,e.n⟩:=YB AP.rs u.ab
   have inM:∀e∈U.rs,∃e'∈M.rs,e'.nm=e.nm/\e'.r=e.r:=fun e he=>by
    have:(⟨e.nm,e.r,e.n⟩:AR)∈TH U.rs:=Xb (f:=fun e:PR=>(⟨e.nm,e.r,e.n⟩:AR)) he;rw[abR]at this;obtain⟨e',he',z⟩:=Yw.mp this;simp only[AR.mk.injEq]at z;exact⟨e',he',z.1,z.2.1⟩
   have fitM:∀d'∈J1 wd d.whole 0,∀e∈M.rs,e.nm∈ns->JC e.r.ws [d']:=fun d' hd' e he hn=>by
    obtain⟨c1,c2,c3⟩:=cutP d' hd';have ck:=(Ae wd d.whole _ 0 (Y6 _) d' hd').1;have hok:=(u.mo.rd e he).ok;have dl2:=dok.l2;refine Pi (by omega) hok.ok (Kq d' c1) (fun x hx=>by rw[Y8.mp hx];exact⟨rfl,Y6 _⟩) fun z w hw=>?_
    have h1:=dkn (by rw[<-show d'.k=d.k from ck];exact z);have h2:=nww e.nm hn e he rfl w hw;rw[dns]at c2;omega
   have hnsM:∀n∈ns,∃e∈M.rs,e.nm=n:=fun n hn=>by
    obtain⟨e,he,en⟩:=Yw.mp (pm.mem_iff.mp (hns n hn));exact⟨e,he,en⟩
   have hnsU:∀n∈ns,Js n/\∃e∈U.rs,e.nm=n:=fun n hn=>by
    have:=pm.mem_iff.mp (hns n hn);rw[<-nmE]at this;obtain⟨e,he,en⟩:=Yw.mp this;exact⟨en▸u.nm e he,e,he,en⟩
   have h610:=s10 _ _ h69;have s610:=s69.trans s10;have nlh:lh≠lcp:=Ne.symm (J6 ((u.po.mono (s02.trans s25)).hl) hlh);have nllh:lh≠lc:=Ne.symm (J6 ((u.mo.mono (s02.trans s25)).hl) hlh);have lb2:=hbB.1.l2;have lenA':M.cs.length+ d.ns.length <=3740:=by rw[dns];omega
   refine Ja fun N hN=>?_
   walk_at"rd";refine⟨hU10.mt rfl,p,db,dc,lcp,q1,b1,lh,U,t,d,wd,ns,rfl,hU10,ht,hL10,wd8,by omega,fun z=>by have:=dkn z;rw[dns];omega,h610,by omega,by omega,hnsU,fun d' hd' e he hn=>?_,fun c hc=>(u.nb c hc).1,fun x hx=>(u.nr x hx).1,nlh,by omega,by omega,fun U' G11 k11 hU11 hS=>hN _ _ ?_⟩
   .obtain⟨e',he',z1,z2⟩:=inM e he;rw[<-z2];exact fitM d' hd' e' he' (z1▸hn)
   clear hN N;obtain⟨csn,ecs,fcs,ucs⟩:=hS.cs;have newA:∀x,Dw lcp U'.cs x->Dw lcp U.cs x\/G10 x=none:=fun x z=>by
    rcases z with z|⟨c,hc,z⟩
    .exact .inl (.inl z)
    .rw[ecs]at hc;rcases Yb.mp hc with hc|hc
     .exact .inl (.inr ⟨c,hc,z⟩)
     .exact .inr (z▸fcs c hc)
   have stA:∀x,Dw lcp U'.cs x->G11 x≠none:=fun x z=>by
    rcases z with rfl|⟨c,hc,rfl⟩
    .rw[hU11.hl];nofun
    .rw[(hU11.th c hc).pi.bd];nofun
   obtain ⟨dx10, fs10, hp10, _⟩ := hU10.ex;have hM11 : Jj (Dw lcp U'.cs) G11 m xs dr dn lc zs M := (hM10.far newA).kp fun c o h n1 n2 n3 n4 => k11 c o h (fun z => by
    have:=hU10.hl;rw[<-z,h]at this;exact n1 ⟨_,Yn this⟩ (.inl z)) (fun z=>by
    have:=hU10.hc;rw[<-z,h]at this;rcases n2 ⟨_,Yn this⟩ with w|w|w
    .exact u.q6 (w.symm.trans z)
    .exact u.q3 (z.symm.trans w)
    .exact u.q4 (z.symm.trans w)) (fun z => by rw [z, hp10] at h; cases h; exact n3 _ _ _ rfl)
   have k11L : ∀ {c : Addr} {o : HO}, G10 c = some o -> (∀ xs, o ≠ .dK xs) -> (∀ C dx fs, o ≠ .ins C dx fs) -> c ≠ lcp -> G11 c = some o := fun {c o} h n1 n2 n3 => k11 c o h n3 (fun z => by
    have := hU10.hc;rw [<- z, h] at this;exact n1 _ (Yn this)) (fun z => by rw [z, hp10] at h; cases h; exact n2 _ _ _ rfl)
   have htk11 := k11L (s10 _ _ h49) nofun nofun (fun z => by have := s10 _ _ h49; rw [z, hU10.hl] at this; cases this);have hB11 := k11L (s10 _ _ hB9) nofun nofun hbB.2;have hlb11 := k11L (s10 _ _ hlb9) nofun nofun nlb;have nln : ln ≠ lcp := Ne.symm (J6 (hU2.hl) hln);have h311 := k11L (s10 _ _ h39) nofun nofun nln;have h611 := k11L h610 nofun nofun nlh;have nlnc : ln ≠ lc := Ne.symm (J6 (hM2.hl) hln);walk_at"rd";refine ⟨_, WJ.of hlb11, _, abk, Dw lcp U'.cs, m, tk, b0.1, ln, dr, dn, lc, xs, zs, M, t, d.whole, wd, ns, rfl, hM11, rfl, rfl, by rw [dky]; exact htk11, by rw [show d.whole.ns = b0.2 from dns]; exact hB11, dok.l1, dok.l2, wd8, h311, nlnc, by omega, by omega, hnsM, fitM, stA, by omega, by show M.cs.length + d.ns.length <= 5000; omega, fun M' zs' G12 k12 hM12 hSM hab => ⟨rfl, ?_⟩⟩;rw [Y9 (by simp)];have k12L : ∀ {c : Addr} {o : HO}, G11 c = some o -> (∀ xs, o ≠ .dK xs) -> c ≠ lc -> G12 c = some o := fun {c o} h n1 n2 => k12 c o h (fun z => by
    have := hM11.hn;rw [<- z, h] at this;exact n1 _ (Yn this)) n2
   have nsok:∀n∈ns,Js n:=fun n hn=>(hnsU n hn).1
   refine ⟨_, _, Nh (k12L h611 nofun nllh), Nh (k12L h311 nofun nlnc), Jo nsok, Jo nsok, ?_⟩;rw [Ay];have hU12 := hU11.kpL (G := G12) (B := fun c => c = lc) (fun c o h n1 n2 => k12 c o h (fun z => by
    have:=hM11.hn;rw[<-z,h]at this;rcases n2 ⟨_,Yn this⟩ with w|w
    .exact u.q2 (w.symm.trans z)
    .exact u.q4 (w.symm.trans z)) fun z => by
    have := hM11.hl;rw [<- z, h] at this;exact n1 ⟨_, Yn this⟩ z) (fun z => hM11.nl (.inl z.symm)) (fun c hc z => hM11.nl (.inr ⟨c, hc, z⟩)) fun e he => by
     obtain⟨y,hy,_,_,e1,e2,_⟩:=Jt.mem (Jt.symm hS.rs) he;rw[<-e1,<-e2];exact(u.nr y hy).2
   have tb10:=tb.same s010;have tb11:NP G11 T MH:=tb10.of fun a o h k=>k11 a o h (fun z=>by have:=hU10.hl;rw[<-z,h]at this;cases this;rcases k with⟨_,k⟩|⟨_,k⟩ <;> cases k) (fun z=>by have:=hU10.hc;rw[<-z,h]at this;cases this;rcases k with⟨_,k⟩|⟨_,k⟩ <;> cases k) (fun z=>by rw[z,hp10]at h;cases h;rcases k with⟨_,k⟩|⟨_,k⟩ <;> cases k)
   have tb12:NP G12 T MH:=tb11.of fun a o h k=>k12 a o h (fun z=>by have:=hM11.hn;rw[<-z,h]at this;cases this;rcases k with⟨_,k⟩|⟨_,k⟩ <;> cases k) (fun z=>by have:=hM11.hl;rw[<-z,h]at this;cases this;rcases k with⟨_,k⟩|⟨_,k⟩ <;> cases k)
   have inC:∀c∈U'.cs,c∈U.cs\/G10 c.b=none:=fun c hc=>by
    rw[ecs]at hc;exact(Yb.mp hc).imp id (fcs c)
   have st10:∀c∈U.cs,G10 c.b≠none:=fun c hc=>by rw[(hU10.th c hc).pi.bd];nofun
   have rdS:∀e∈U'.rs,∃y∈U.rs,y.nm=e.nm/\y.lw=e.lw/\y.ll=e.ll:=fun e he=>by
    obtain⟨y,hy,e0,_,e1,e2,_⟩:=Jt.mem (Jt.symm hS.rs) he;exact⟨y,hy,e0,e1,e2⟩
   have Mq:=hS.rs.len;have lenC:U'.cs.length <=3740:=by
    have h1 : Mo U'.cs = (Dx t ns 0 (J1 wd d.whole 0) (MS U)).cs := YB AP.cs hS.ab;have h2 := Q0 (t := t) (ns := ns) (ds := J1 wd d.whole 0) (i := 0) (A := MS U) (fun e he => by
     obtain ⟨y, hy, rfl⟩ := Yw.mp he;exact (hU10.rd y hy).ok.ok) fun e he => (cutP e he).1
    rw[<-h1,Hs wd8 dok.l1]at h2;have h3:(MS U).cs.length=U.cs.length:=Y1 ..;have h4:(Mo U'.cs).length=U'.cs.length:=Y1 ..;have h5:d.whole.ns.length=d.ns.length:=rfl;omega
   have f12:∀{x:WA},G12 x=none->G10 x=none:=fun {x} hx=>by
    cases e:G10 x with
    |none=>rfl
    |some o=>
     exfalso
     by_cases z1:x=lcp
     .rw[z1,hU12.hl]at hx;cases hx
     by_cases z2:x=dc
     .rw[z2,hU12.hc]at hx;cases hx
     by_cases z3:x=p
     .obtain⟨dx,fs,e',_⟩:=hU12.ex;rw[z3,e']at hx;cases hx
     by_cases z4:x=dn
     .rw[z4,hM12.hn]at hx;cases hx
     by_cases z5:x=lc
     .rw[z5,hM12.hl]at hx;cases hx
     rw[k12 _ _ (k11 _ _ e z1 z2 z3) z4 z5]at hx;cases hx
   refine q G12 lcp lc xs zs' U' M' ⟨fun c o h n1 n2 n3 n4 n5 n6 n7 n8=>k12 _ _ (k11 _ _ (s010 _ _ h) n3 n2 n1) n5 n6,tb12,⟨hU12,hM12,?_,fun c hc c' hc' z=>?_,fun c hc=>⟨?_,fun e he=>?_⟩,fun e he=>?_,fun c hc=>?_,fun e he=>?_,u.xl,lenC,by have:=u.r1;omega,by omega,u.q1,u.q2,u.q3,u.q4,u.q5,u.q6⟩,.inl rfl,.inl rfl,rfl,?_,by rw[hS.now];exact XE _,fun c hc=>(inC c hc).imp id fun z=>s010.free z,fun c z=>s010.free (f12 z)⟩
   .rw[hS.ab,hab,u.ab]
   .rw[ecs]at hc hc';rcases Yb.mp hc with h|h <;> rcases Yb.mp hc' with h'|h'
    .exact u.ub c h c' h' z
    .exact absurd (fcs c' h') (by rw[<-z];exact st10 c h)
    .exact absurd (fcs c h) (by rw[z];exact st10 c' h')
    .exact ucs c h c' h' z
   .rcases inC c hc with h|h
    .exact(u.nb c h).1
    .exact Ne.symm (J6 hU10.hl h)
   .obtain⟨y,hy,_,e1,e2⟩:=rdS e he;rw[<-e1,<-e2];rcases inC c hc with h|h
    .exact(u.nb c h).2 y hy
    .exact⟨Ne.symm (J6 (hU10.rd y hy).hw h),Ne.symm (J6 (hU10.rd y hy).hl h)⟩
   .obtain⟨y,hy,_,e1,e2⟩:=rdS e he;rw[<-e1,<-e2];exact u.nr y hy
   .have h1:(c.tm,c.d)∈(Dx t ns 0 (J1 wd d.whole 0) (MS U)).cs:=by
     rw[<-hS.ab];exact Xb (f:=fun c:Th=>(c.tm,c.d)) hc
    rcases Pq h1 with h|⟨d',hd',z1,z2⟩
    .obtain⟨c0,hc0,z⟩:=Yw.mp h;have:=u.ke c0 hc0;rw[show c0.d=c.d from YB Prod.snd z]at this;exact this
    .have z3:=Ae wd d.whole _ 0 (Y6 _) d' hd';rw[show c.d.k=d.k from z1.trans z3.1,show c.d.ky=kT from(z2.trans z3.2).trans dky];exact dk
   .obtain⟨y,hy,e0,_⟩:=rdS e he;exact e0▸u.nm y hy
   .have:=YB (List.map fun x:Str×Addr×Addr×Addr×Dj=>x.1) hS.rs;rw[Yp,Yp]at this;exact this
theorem Jj.setM{A:Addr->Prop}{H G:Hp}{m dr dn lc:WA}{xs xs':List (Str×V)}{zs:List V}{M:Tz}(h:Jj A H m xs dr dn lc zs M)(b:JS m H G)(hG:G m=some (.dK (dS xs')))(x1:xs'.lookup ("roads":Str)=some (.ref dr))(x2:xs'.lookup ("count":Str)=some (.ref dn))(x3:xs'.lookup ("coming":Str)=some (.ref lc)):Jj A G m xs' dr dn lc zs M:=by
 have k:∀{c:WA} {o:HO},H c=some o->(∀l,o≠ .dK l)->G c=some o:=fun {c o} e n=>b _ _ e fun z=>by
  have:=h.hm;rw[<-z,e]at this;exact n _ (Yn this)
 refine⟨hG,x1,x2,x3,b _ _ h.hr (Ne.symm h.n3),b _ _ h.hn (Ne.symm h.n2),k h.hl nofun,fun e d=>?_,h.th.imp fun _ _ zz=>by rcases zz with⟨t,p,h1,h2,f⟩;exact ⟨t,p,h1,k h2 nofun,f.kp fun c o e _ n _ _=>k e n⟩,h.nl,h.nd,h.n1,h.n2,h.n3⟩;have a:=h.rd e d;exact⟨k a.tu nofun,k a.hw nofun,k a.hm nofun,a.ok,a.nw,a.nm'⟩
theorem AQ{H G:Hp}{a:WA}{xs:List V}(h:WJ K H a xs)(k:∀o,H a=some o->(o= .lst xs\/∃u,o= .frz u (.lst xs))->G a=some o):WJ K G a xs:=by
 rcases h with(h|⟨u,h⟩)|h
 .exact .inl (.inl (k _ h (.inl rfl)))
 .exact .inl (.inr ⟨u,k _ h (.inr ⟨u,rfl⟩)⟩)
 .exact .inr h
theorem AM{H G:Hp}{a:WA}{xs:List V}(h:WJ K H a xs)(s:WH H G):WJ K G a xs:=AQ h fun o e _=>s _ _ e
theorem Oy{A:Addr->Prop}{G:Hp}{lc:WA}{zs:List V}{cs:List (Int×PD)}{σ:L2.St}{Q:VK}(th:Pw (Mz A G) zs cs)(hl:G lc=some (.lst zs))(hz:cs.length <=4000)(q:∀l G',G l=none->WH G G'->G' l=some (.lst ((cs.map (·.1)).map V.int))->Q (.ref l) G'):E5 [none] (GY 0) AI (DI (En K) (RX 0) (tC (V.int 0))) σ Q (GH K lc) G:=by
 obtain⟨b,a⟩:∃b:Nat->List V->L2.St->Hp->Prop,b=fun i ys σ' H=>H=G/\ys=((cs.take i).map (·.1)).map V.int/\∃v,σ'=[v]:=⟨_,rfl⟩
 refine MY (xs:=zs) b (by rw[a];exact⟨rfl,rfl,_,rfl⟩) ?_ (by rw[th.1];exact Nm (by omega)) ?_ ?_ <;> rw[a]
 .rintro i ys σ' H ⟨rfl,rfl,_⟩ _;exact⟨WJ.of hl,by rw[Y1,Y1,YC];omega⟩
 .intro i y ys σ' H c Zq;obtain⟨rfl,rfl,v,rfl⟩:=Zq;rw[<-a];obtain⟨x,d,t,p,rfl,h1,_⟩:=th.get c;walk_at"rd";refine⟨_,N9.of h1,_,rfl,?_⟩;rw[a];refine⟨rfl,?_,_,rfl⟩;rw[YD,d,YH,Yd,Yd];rfl
 .rintro ys σ' H ⟨rfl,rfl,_⟩ l G' h s e;rw[th.1,YE]at e;exact q l G' h s e
structure Ta(C CRo CP T:WA)(ks:List Ky)(G0:Hp)(p db dc m dr dn lcp0 lc0 lk:WA)(t:Int)(G:Hp)(lcp lc:WA)(xs:List (Str×V))(zs:List V)(U:Nl)(M:Tz):Prop where
 kp:∀c o,G0 c=some o->c≠p->c≠db->c≠dc->c≠lcp0->c≠m->c≠dr->c≠dn->c≠lc0->c≠T->G c=some o
 tb:NP G T MH
 du:RI C CRo CP ks G p db dc lcp m dr dn lc xs zs U M
 l1:lcp=lcp0\/G0 lcp=none
 l2:lc=lc0\/G0 lc=none
 fb:∀c∈U.cs,G0 c.b=none
 xk:xs.lookup ("keep":Str)=some (.ref lk)
 nw:U.now <=t
 lt:("later":Str)∉U.rs.map (·.nm)->U.rs.length <=10
 dm:∀c,G c=none->G0 c=none
theorem Ta.deed{C CRo CP T:WA}{ks:List Ky}{G0:Hp}{p db dc m dr dn lcp0 lc0 lk:WA}{t t':Int}{H G:Hp}{lcp lc lcp' lc':WA}{xs xs':List (Str×V)}{zs zs':List V}{U U':Nl}{M M':Tz}(h:Ta C CRo CP T ks G0 p db dc m dr dn lcp0 lc0 lk t H lcp lc xs zs U M)(d:Rr K C CRo CP T ks t' p db dc m dr dn H lcp lc xs U G lcp' lc' xs' zs' U' M'):Ta C CRo CP T ks G0 p db dc m dr dn lcp0 lc0 lk t' G lcp' lc' xs' zs' U' M':=by
 refine⟨fun c o e l q j i g n f b a=>?_,d.tb,d.du,?_,?_,fun c s=>?_,d.xk.trans h.xk,d.nw,fun z=>?_,fun c z=>h.dm c (d.dm c z)⟩
 .refine d.kp c o (h.kp c o e l q j i g n f b a) l j ?_ g f ?_ a fun x r=>Ne.symm (J6 e (h.fb x r))
  .rcases h.l1 with z|z
   .rw[z];exact i
   .exact J6 e z
  .rcases h.l2 with z|z
   .rw[z];exact b
   .exact J6 e z
 .rcases d.l1 with z|z
  .rw[z];exact h.l1
  .exact .inr (h.dm _ z)
 .rcases d.l2 with z|z
  .rw[z];exact h.l2
  .exact .inr (h.dm _ z)
 .rcases d.cs c s with z|z
  .exact h.fb c z
  .exact h.dm _ z
 .have:=YB List.length d.nn;rw[Y1,Y1]at this;have:=h.lt (d.nn▸z);omega
theorem Ta.mono{C CRo CP T:WA}{ks:List Ky}{G0:Hp}{p db dc m dr dn lcp0 lc0 lk:WA}{t t':Int}{H G:Hp}{lcp lc:WA}{xs:List (Str×V)}{zs:List V}{U:Nl}{M:Tz}(s:WH H G)(ht:t <=t')(h:Ta C CRo CP T ks G0 p db dc m dr dn lcp0 lc0 lk t H lcp lc xs zs U M):Ta C CRo CP T ks G0 p db dc m dr dn lcp0 lc0 lk t' G lcp lc xs zs U M:=
 ⟨fun c o e n l j i g f d b a=>s _ _ (h.kp c o e n l j i g f d b a),h.tb.same s,h.du.mono s,h.l1,h.l2,h.fb,h.xk,Int.le_trans h.nw ht,h.lt,fun c z=>h.dm c (s.free z)⟩
theorem Ta.late{C CRo CP T:WA}{ks:List Ky}{G0:Hp}{p db dc m dr dn lcp0 lc0 lk:WA}{t:Int}{H G:Hp}{lcp lc:WA}{xs:List (Str×V)}{zs:List V}{U:Nl}{M:Tz}(h:Ta C CRo CP T ks G0 p db dc m dr dn lcp0 lc0 lk t H lcp lc xs zs U M)(hno:("later":Str)∉U.rs.map (·.nm)){e:PR}{e':RM}(e1:e.nm="later")(e2:e'.nm="later")(e3:e.r=e'.r)(e4:e.n=0)(e5:e'.n=0)(f1:H e.lw=none)(f2:H e.ll=none)(k:∀c o,H c=some o->c≠db->c≠dc->c≠dr->c≠dn->G c=some o)
  (po:WN C CRo CP G p db dc lcp {U with rs:=U.rs++[e]}) (mo:Jj (Dw lcp U.cs) G m xs dr dn lc zs ⟨M.rs++[e'],M.cs⟩):Ta C CRo CP T ks G0 p db dc m dr dn lcp0 lc0 lk t G lcp lc xs zs {U with rs:=U.rs++[e]} ⟨M.rs++[e'],M.cs⟩:=by
 have hl:=h.lt hno;have hD:=h.du;have f3:∀{x:WA},G x=none->H x=none:=fun {x} b=>by
  cases e:H x with
  |none=>rfl
  |some o=>
   exfalso
   by_cases z1:x=db
   .rw[z1,po.hb]at b;cases b
   by_cases z2:x=dc
   .rw[z2,po.hc]at b;cases b
   by_cases z3:x=dr
   .rw[z3,mo.hr]at b;cases b
   by_cases z4:x=dn
   .rw[z4,mo.hn]at b;cases b
   rw[k _ _ e z1 z2 z3 z4]at b;cases b
 refine⟨fun c o e u i g s q f d l j=>k _ _ (h.kp c o e u i g s q f d l j) i g f d,h.tb.of fun a o e z=>k a o e (fun w=>by rw[w,hD.po.hb]at e;cases e;rcases z with⟨_,z⟩|⟨_,z⟩ <;> cases z) (fun w=>by rw[w,hD.po.hc]at e;cases e;rcases z with⟨_,z⟩|⟨_,z⟩ <;> cases z) (fun w=>by rw[w,hD.mo.hr]at e;cases e;rcases z with⟨_,z⟩|⟨_,z⟩ <;> cases z) (fun w=>by rw[w,hD.mo.hn]at e;cases e;rcases z with⟨_,z⟩|⟨_,z⟩ <;> cases z),⟨po,mo,?_,hD.ub,fun c hc=>⟨(hD.nb c hc).1,fun x b=>?_⟩,fun x b=>?_,hD.ke,fun x b=>?_,hD.xl,hD.c4,?_,?_,hD.q1,hD.q2,hD.q3,hD.q4,hD.q5,hD.q6⟩,h.l1,h.l2,h.fb,h.xk,h.nw,fun z=>?_,fun c z=>h.dm c (f3 z)⟩
 .have h1:TH U.rs=M.rs.map fun e=>⟨e.nm,e.r,e.n⟩:=YB AP.rs hD.ab
  have h2:Mo U.cs=M.cs:=YB AP.cs hD.ab;show(⟨TH (U.rs++[e]),Mo U.cs⟩:AP)=⟨(M.rs++[e']).map fun e=>⟨e.nm,e.r,e.n⟩,M.cs⟩;rw[h2,Yd,<-h1];unfold TH;rw[Yd];simp[e1,e2,e3,e4,e5]
 .rcases Yb.mp b with b|b
  .exact(hD.nb c hc).2 x b
  .rw[Y8.mp b];exact⟨J6 (hD.po.th c hc).pi.bd f1,J6 (hD.po.th c hc).pi.bd f2⟩
 .rcases Yb.mp b with b|b
  .exact hD.nr x b
  .rw[Y8.mp b];exact⟨⟨Ne.symm (J6 hD.po.hl f1),Ne.symm (J6 hD.po.hl f2)⟩,Ne.symm (J6 hD.mo.hl f1),Ne.symm (J6 hD.mo.hl f2)⟩
 .rcases Yb.mp b with b|b
  .exact hD.nm x b
  .rw[Y8.mp b,e1];exact FO
 .show 1 <=(U.rs++[e]).length;rw[List.length_append];simp
 .show(U.rs++[e]).length <=11;rw[List.length_append];simp;omega
 .exact absurd (Yw.mpr ⟨e,Yx _ Ym,e1⟩) z
inductive Cm(K:Wy)(T:WA)(vs:List V)(H:Hp)(Q:VK)(E:XK):Prop|mk (a:WA) (ns:WB) (_:vs=[.ref a]) (_:WJ K H a (ns.map V.int)) (_:NP H T MH) (_:∀G,Q (.bl true) G)
abbrev DO:Stmt:=JX 61
theorem GR:JN ["_law_script","_law_post","_law_m","_law_bodies","_law_time","_law_cell","_law_digits_here","_law_ends"] ["_law_script"] (WF DO):=by walk_at"e"
theorem xX{f C CRo CP CL T:WA}{fd:Wv}(F:JT K "law" "law" DO f fd)(B:Bt mg)(B2:E3 mg)(L:My K C)(Jy:JI P w K mg base "_law_cell_at" 1 ["_law_script","_law_k"] [] (Ke K))(Je:JI P w K mg base "_law_mixed" 1 ["_law_cell","_law_k"] [] Ev)(NF:JI P w K mg base "_law_digits" 2 ["_law_cell","_law_many"] [] IR)(MJ:JI P w K mg base "_law_key" 1 ["_law_digit"] [] Hi)(Tr:JI P w K mg base "_law_body" 2 ["_law_cell","_law_k"] [] PJ)(Da:MR P w K mg base "Post" 1 (F4 C CRo CP))(Ti:JI P w K mg base "_law_bare" 10 ["_law_post"] [] (Kk C CRo CP T))(NV:JI P w K mg base "_law_roads" 8 ["_law_post","_law_m","_law_cell"] [] (FZ C CRo CP))(Te:JI P w K mg base "_law_late_road" 7 ["_law_post","_law_m","_law_cell"] [] (HJ C CRo CP))(Tp:JI P w K mg base "_law_deed" 15 ["_law_post","_law_m","_law_bodies","_law_digits_here","_law_time"] [] (FT K C CRo CP T))(J5:Tc P w K mg base C "roads" 3 ["self"] [] (BD C CRo CP))(Jk:Tc P w K mg base C "on_the_way" 1 ["self"] [] (CJ C CRo CP))(Jc:Tc P w K mg base C "next_time" 1 ["self"] [] (AB C CRo CP)):WQ P w K mg base Jr 17 f fd ["_law_script"] (Cm K T):=by
 refine F.ok GR (fun vs H Q E h=>?_) (fun cdv A' outer s H vs Q E hr h=>?_)
 .obtain⟨a,ns,rfl,_⟩:=h;rfl
 .obtain⟨a,ns,rfl,hs,tb,q⟩:=h;refine⟨_,(@WX _ _ _ _ _ (@D8 _ _ 1 _ _ _ _ (GR).nd rfl (Or.inl rfl) (Lg Da hr.m rfl) (by rfl) (Or.inl rfl)) (@WX _ _ _ _ _ (@D8 _ _ 2 _ _ _ _ (GR).nd rfl (Or.inl rfl) (@Zd _ _ _ _ _ (@Ic _ _ _ _ _ _ _ _ _ (@JM _ _ _ _) (@Ca _ _) (@Ic _ _ _ _ _ _ _ _ _ (@JM _ _ _ _) (@Ca _ _) (@Ic _ _ _ _ _ _ _ _ _ (@JM _ _ _ _) (@Np _ _ _ _ WK) (@wD _ _)))) rfl rfl (by simp) (by simp)) (by rfl) (Or.inl rfl)) (@WX _ _ _ _ _ (Ny (PW.pt (DG (Tv (TK (Jx Ti hr.m rfl (@WW _ _ _ _ _ (WG 1) WK Ni)))) (Gh (Tv (TK (Jx NV hr.m rfl (@WW _ _ _ _ _ (WG 1) (@WW _ _ _ _ _ (WG 2) (@WW _ _ _ _ _ (Jx Jy hr.m rfl (@WW _ _ _ _ _ (WG 0) (@WW _ _ _ _ _ (@WM _ _ _ _) WK NO) Ni)) WK Ru) Ni) Ni))))))) (@Jg _ _ _ (@JB _ _ _ _ Mm)) NB) (@WX _ _ _ _ _ (Mn (@Dh _ K _ _ _ _ _ _ _ _ _ _ _ rfl YI YQ YR (Gr GB) (DD (WG 1) J5 hr.m) (@WW _ _ _ _ _ (@JM _ _ _ _) WK NO) (by rfl) (by rfl) (by rfl) (by rfl) (by rfl))) (@WX _ _ _ _ _ (Ny (PW.pt (DG (ND (EA (K:=K) (WV.units hr) rfl) (DD (WG 1) J5 hr.m) (N3 (FW rfl (WV.units hr)) B2.sorted (@WW _ _ _ _ _ (Im (K:=K) rfl US Uq V1 IN (NG hr (WG 2) (@JM _ _ _ _))) WK Ru))) (Gh (ND Qf (DD (WG 1) Jc hr.m) (@RB _ _ _))))) (@Jg _ _ _ (@JB _ _ _ _ Mm)) NB) (@WX _ _ _ _ _ (@D8 _ _ 3 _ _ _ _ (GR).nd rfl (Or.inr rfl) (TU (N':=["_law_k","_law_script"]) (caps:=[none,some 0]) (Tf (sc:=WF DO) (N:=["_law_script","_law_post","_law_m","_law_bodies","_law_time","_law_cell","_law_digits_here","_law_ends"]) rfl rfl (by decide +kernel)) rfl (Ge rfl B.range (@WW _ _ _ _ _ (@J0 _ _ _ _ _ _ _ _ (Jz Nw) (@WM _ _ _ _) (@J0 _ _ _ _ _ _ _ _ (dI Na) (Jx Jy hr.m rfl (@WW _ _ _ _ _ (WG 0) (@WW _ _ _ _ _ (@WM _ _ _ _) WK NO) Ni)) (@WM _ _ _ _))) WK TF)) (fun _ _ _ _ _=>(T3 (i:=0) (T9 (N:=["_law_k","_law_script"]) rfl (by decide +kernel)) rfl (Or.inl rfl))) (fun _ _ _ _ _=>Mx) (fun _ _ _ _ _=>(Jx Tr hr.m rfl (@WW _ _ _ _ _ (Jx Jy hr.m rfl (@WW _ _ _ _ _ (WG 1) (@WW _ _ _ _ _ (@WM _ _ _ _) WK NO) Ni)) (@WW _ _ _ _ _ (WG 0) WK Ni) Ru)))) (by rfl) (Or.inl rfl)) (@WX _ _ _ _ _ (Bc (Ny (ND (MZ D9) (@J0 _ _ _ _ _ _ _ _ (dI Na) (@J0 _ _ _ _ _ _ _ _ (dI EC) (Jx Jy hr.m rfl (@WW _ _ _ _ _ (WG 0) (@WW _ _ _ _ _ (@WM _ _ _ _) WK NO) Ni)) (@WM _ _ _ _)) (@WM _ _ _ _)) (@WM _ _ _ _)) (@Jg _ _ _ (Qk (TU (N':=["_law_j","_law_script"]) (caps:=[none,some 0]) (Tf (sc:=WF DO) (N:=["_law_script","_law_post","_law_m","_law_bodies","_law_time","_law_cell","_law_digits_here","_law_ends"]) rfl rfl (by decide +kernel)) rfl (Ge rfl B.range (@WW _ _ _ _ _ (@WM _ _ _ _) WK NO)) (fun _ _ _ _ _=>(T3 (i:=0) (T9 (N:=["_law_j","_law_script"]) rfl (by decide +kernel)) rfl (Or.inl rfl))) (fun _ _ _ _ _=>Mx) (fun _ _ _ _ _=>(@J0 _ _ _ _ _ _ _ _ (dI Na) (Jx Je hr.m rfl (@WW _ _ _ _ _ (Jx Jy hr.m rfl (@WW _ _ _ _ _ (WG 1) (@WW _ _ _ _ _ (@WM _ _ _ _) WK NO) Ni)) (@WW _ _ _ _ _ (WG 0) WK Ni) Ru)) (@WM _ _ _ _)))) (QS (WG 3) (@WM _ _ _ _) nL))) NB)) (@WX _ _ _ _ _ (Gd (MP hr) (WG 2) (@JM _ _ _ _) (TU (N':=["_law_k","_law_bodies"]) (caps:=[none,some 3]) (Tf (sc:=WF DO) (N:=["_law_script","_law_post","_law_m","_law_bodies","_law_time","_law_cell","_law_digits_here","_law_ends"]) rfl rfl (by decide +kernel)) rfl (Ge rfl B.range (@WW _ _ _ _ _ (N3 (Mb (Mc (K:=K) rfl)) B.len (@WW _ _ _ _ _ (WG 3) WK Ni)) WK Ru)) (fun _ _ _ _ _=>(T3 (i:=0) (T9 (N:=["_law_k","_law_bodies"]) rfl (by decide +kernel)) rfl (Or.inl rfl))) (fun _ _ _ _ _=>(Rp (PW.pt (RW (ND (Jz Aa) (N3 (Mb (Mc (K:=K) rfl)) B.len (@WW _ _ _ _ _ (@D1 _ _ _ _ _ _ _ (Rl (GO (K:=K) rfl)) (WG 1) (WG 0) (fun _ _=>rfl)) WK BL)) (@WM _ _ _ _)) (Es (ND (MZ D9) (@J0 _ _ _ _ _ _ _ _ (dI Na) (WG 0) (@WM _ _ _ _)) (@WM _ _ _ _))))))) (fun _ _ _ _ _=>(Jx MJ hr.m rfl (@WW _ _ _ _ _ (WG 0) WK Ni)))) rfl) (@WX _ _ _ _ _ (@D8 _ _ 4 _ _ _ _ (GR).nd rfl (Or.inl rfl) (@J0 _ _ _ _ _ _ _ _ (dI GD) (@J0 _ _ _ _ _ _ _ _ (Jz Nw) (@J0 _ _ _ _ _ _ _ _ (dI P9) (@WM _ _ _ _) (@WM _ _ _ _)) (Jx Je hr.m rfl (@WW _ _ _ _ _ (Jx Jy hr.m rfl (@WW _ _ _ _ _ (WG 0) (@WW _ _ _ _ _ (@WM _ _ _ _) WK NO) Ni)) (@WW _ _ _ _ _ (@WM _ _ _ _) WK NO) Ru))) (R0 (Q4 Ls) rfl B.bint (by rfl) (@WW _ _ _ _ _ (M8 (MZ D9) (@J0 _ _ _ _ _ _ _ _ (dI Na) (@J0 _ _ _ _ _ _ _ _ (dI EC) (Jx Jy hr.m rfl (@WW _ _ _ _ _ (WG 0) (@WW _ _ _ _ _ (@WM _ _ _ _) WK NO) Ni)) (@WM _ _ _ _)) (@WM _ _ _ _)) (@WM _ _ _ _) (Mi _)) WK Hn))) (by rfl) (Or.inl rfl)) (@WX _ _ _ _ _ (Dz YZ rfl (Tw (K:=K) rfl (Cw (CA (AK (K:=K) rfl)) (WG 0) (RO (@WM _ _ _ _)) (RO (@WM _ _ _ _)))) (Md 5 GR) (@WX _ _ _ _ _ (@D8 _ _ 6 _ _ _ _ (GR).nd rfl (Or.inl rfl) (Jx NF hr.m rfl (@WW _ _ _ _ _ (WG 5) (@WW _ _ _ _ _ (@WM _ _ _ _) WK NO) Ni)) (by rfl) (Or.inl rfl)) (@WX _ _ _ _ _ (@D8 _ _ 7 _ _ _ _ (GR).nd rfl (Or.inl rfl) (N3 (Li (K:=K) (WV.units hr) rfl) B2.sorted (@WW _ _ _ _ _ (@J0 _ _ _ _ _ _ _ _ (RN Rz) (TU (N':=["_law_one"]) (caps:=[none]) (Tf (sc:=WF DO) (N:=["_law_script","_law_post","_law_m","_law_bodies","_law_time","_law_cell","_law_digits_here","_law_ends"]) rfl rfl (by decide +kernel)) rfl (Tw (K:=K) rfl (NG hr (WG 2) (@JM _ _ _ _))) (fun _ _ _ _ _=>(T3 (i:=0) (T9 (N:=["_law_one"]) rfl (by decide +kernel)) rfl (Or.inl rfl))) (fun _ _ _ _ _=>Mx) (fun _ _ _ _ _=>(@D1 _ _ _ _ _ _ _ (Kx (Hb (K:=K) rfl)) (WG 0) (@WM _ _ _ _) (fun _ _=>rfl)))) (@Np _ _ _ _ (@WW _ _ _ _ _ (WG 4) WK Ni))) WK TF)) (by rfl) (Or.inl rfl)) (@WX _ _ _ _ _ (@D8 _ _ 4 _ _ _ _ (GR).nd rfl (Or.inl rfl) (N3 (jE rfl) B.max (@WW _ _ _ _ _ (WG 4) (@WW _ _ _ _ _ (@D1 _ _ _ _ _ _ _ (Rl (GO (K:=K) rfl)) (@Np _ _ _ _ (@WW _ _ _ _ _ (WG 4) (@WW _ _ _ _ _ (@J0 _ _ _ _ _ _ _ _ (Jz Nw) (WG 4) (@WM _ _ _ _)) (@WW _ _ _ _ _ (@J0 _ _ _ _ _ _ _ _ (Jz Nw) (WG 4) (@J0 _ _ _ _ _ _ _ _ (dI Na) (@J0 _ _ _ _ _ _ _ _ (dI EC) (@D1 _ _ _ _ _ _ _ (Rl (GO (K:=K) rfl)) (WG 6) (@WM _ _ _ _) (fun _ _=>rfl)) (@WM _ _ _ _)) (@WM _ _ _ _))) (@WW _ _ _ _ _ (@D1 _ _ _ _ _ _ _ (Rl (GO (K:=K) rfl)) (WG 7) (@WM _ _ _ _) (fun _ _=>rfl)) (@WW _ _ _ _ _ (@D1 _ _ _ _ _ _ _ (Rl (GO (K:=K) rfl)) (WG 7) (vB wJ (@WM _ _ _ _)) (fun _ _=>rfl)) WK BL) BL) TF) TF) Ni)) (@J0 _ _ _ _ _ _ _ _ (dI Na) (@D1 _ _ _ _ _ _ _ (Rl (GO (K:=K) rfl)) (WG 6) (@WM _ _ _ _) (fun _ _=>rfl)) (@WM _ _ _ _)) (fun _ _=>rfl)) WK BL) Ni)) (by rfl) (Or.inl rfl)) (@WX _ _ _ _ _ (Ny (Tv (TK (Jx Tp hr.m rfl (@WW _ _ _ _ _ (WG 1) (@WW _ _ _ _ _ (WG 2) (@WW _ _ _ _ _ (WG 3) (@WW _ _ _ _ _ (WG 6) (@WW _ _ _ _ _ (WG 4) WK Ni) Ni) Ni) Ni) Ni)))) (@Jg _ _ _ (@JB _ _ _ _ Mm)) NB) (@WX _ _ _ _ _ (Ny (PW.pt (RW (EE (mM (MP hr)) (@JM _ _ _ _) (NG hr (WG 2) (@JM _ _ _ _)) (by with_unfolding_all rfl)) (RW (ND (MZ D9) (@J0 _ _ _ _ _ _ _ _ (dI Na) (@D1 _ _ _ _ _ _ _ (Rl (GO (K:=K) rfl)) (WG 6) (@WM _ _ _ _) (fun _ _=>rfl)) (@WM _ _ _ _)) (@WM _ _ _ _)) (Es (Tv (TK (Jx Te hr.m rfl (@WW _ _ _ _ _ (WG 1) (@WW _ _ _ _ _ (WG 2) (@WW _ _ _ _ _ (WG 5) WK Ni) Ni) Ni)))))))) (@Jg _ _ _ (@JB _ _ _ _ Mm)) NB) (@WX _ _ _ _ _ (@D8 _ _ 7 _ _ _ _ (GR).nd rfl (Or.inl rfl) (N3 (Li (K:=K) (WV.units hr) rfl) B2.sorted (@WW _ _ _ _ _ (TU (N':=["_law_one"]) (caps:=[none]) (Tf (sc:=WF DO) (N:=["_law_script","_law_post","_law_m","_law_bodies","_law_time","_law_cell","_law_digits_here","_law_ends"]) rfl rfl (by decide +kernel)) rfl (Tw (K:=K) rfl (NG hr (WG 2) (@JM _ _ _ _))) (fun _ _ _ _ _=>(T3 (i:=0) (T9 (N:=["_law_one"]) rfl (by decide +kernel)) rfl (Or.inl rfl))) (fun _ _ _ _ _=>Mx) (fun _ _ _ _ _=>(@D1 _ _ _ _ _ _ _ (Kx (Hb (K:=K) rfl)) (WG 0) (@WM _ _ _ _) (fun _ _=>rfl)))) WK Rx)) (by rfl) (Or.inl rfl)) (@Jg _ _ _ (Ny (PW.pt (DG (ND (PU Oh) (DD (WG 1) Jk hr.m) (N3 (Mb (Mc (K:=K) rfl)) B.len (@WW _ _ _ _ _ (WG 7) WK Ni))) (Gh (ND (EA (K:=K) (WV.units hr) rfl) (DD (WG 1) Jc hr.m) (@D1 _ _ _ _ _ _ _ (Rl (GO (K:=K) rfl)) (@J0 _ _ _ _ _ _ _ _ (RN Rz) (WG 7) (@Np _ _ _ _ (@WW _ _ _ _ _ (@RB _ _ _) WK NO))) (@WM _ _ _ _) (fun _ _=>rfl)))))) (@Jg _ _ _ (@JB _ _ _ _ Mm)) NB))))))))) (@Jg _ _ _ (@JB _ _ _ _ (M8 (F6 (K:=K) (WV.units hr) rfl) (DD (WG 1) J5 hr.m) (N3 (FW rfl (WV.units hr)) B2.sorted (@WW _ _ _ _ _ (Im (K:=K) rfl US Uq V1 IN (NG hr (WG 2) (@JM _ _ _ _))) WK Ru)) (Mi _)))))))))))))),?_⟩;refine Ja fun N g=>?_
  walk_at"rd";refine⟨rfl,fun p db dc lcp0 G1 hp hdb hdc hlcp s1 hU1=>g _ _ ?_⟩;clear g N;refine Ja fun N g=>?_
  walk_at"rd";intro m hm dr G2 hdr s2 h2 dn G3 hdn s3 h3;have hm2:G2 m=some (.dK []):=s2 _ _ JD;refine⟨Yj _,fun lc G4 hlc s4 h4=>⟨s4 _ _ (s3 _ _ hm2),[(.inr "roads",.ref dr),(.inr "count",.ref dn),(.inr "coming",.ref lc)],rfl,by simp,g _ _ ?_⟩⟩;clear g N;obtain⟨xs0,aj⟩:∃xs0:List (Str×V),xs0=[(("roads":Str),V.ref dr),(("count":Str),V.ref dn),(("coming":Str),V.ref lc)]:=⟨_,rfl⟩;have emk:Eg [] [((.inr "roads":Jv),V.ref dr),(.inr "count",.ref dn),(.inr "coming",.ref lc)]=dS xs0:=by rw[aj];rfl
  rw[emk];obtain⟨G5,eG5⟩:∃G5,G5=upd G4 m (.dK (dS xs0)):=⟨_,rfl⟩;rw[<-eG5];have s1m:WH G1 (upd G1 m (.dK [])):=Tx hm;have s14:WH G1 G4:=s1m.trans (s2.trans (s3.trans s4));have hm4:G4 m=some (.dK []):=s4 _ _ (s3 _ _ hm2);have ndm:dr≠m:=fun z=>by rw[z,JD]at hdr;cases hdr
  have nnm:dn≠m:=Ne.symm (J6 hm2 hdn);have nlm:lc≠m:=Ne.symm (J6 (s3 _ _ hm2) hlc);have nrn:dr≠dn:=J6 h2 hdn;have b5:JS m G4 G5:=fun c o h n=>by rw[eG5,Jb n];exact h
  have hM5:Jj (fun _=>False) G5 m xs0 dr dn lc [] ⟨[],[]⟩:=by
   refine⟨by rw[eG5];exact JD,by rw[aj];rfl,by rw[aj];rfl,by rw[aj];rfl,b5 _ _ (s4 _ _ (s3 _ _ h2)) ndm,b5 _ _ (s4 _ _ h3) nnm,b5 _ _ h4 nlm,(fun e he=>nomatch he),Pw.nil,id,List.nodup_nil,nrn,Ne.symm nnm,Ne.symm ndm⟩
  have s15:WH G1 G5:=fun c o h=>b5 _ _ (s14 _ _ h) (J6 h hm)
  have hU5:=hU1.mono s15;have tb5:=(tb.same s1).same s15;have q1:db≠dr:=J6 (s1m _ _ hU1.hb) hdr;have q2:db≠dn:=J6 (s2 _ _ (s1m _ _ hU1.hb)) hdn;have q3:dc≠dr:=J6 (s1m _ _ hU1.hc) hdr;have q4:dc≠dn:=J6 (s2 _ _ (s1m _ _ hU1.hc)) hdn;have q5:m≠db:=Ne.symm (J6 hU1.hb hm);have q6:m≠dc:=Ne.symm (J6 hU1.hc hm);have hs5:=AM hs (s1.trans s15);have xl0:xs0.length=3:=by rw[aj];rfl
  have fH:∀{x:WA},G5 x=none->H x=none:=fun h=>(s1.trans s15).free h
  refine Ja fun N g=>?_
  walk_at"rd";refine⟨p,db,dc,lcp0,rfl,hU5,tb5,fun ad G6 k6 hlcp1 tb6 hU6=>⟨_,rfl,?_⟩⟩;rw[Y3 (by decide)];obtain⟨dx5,fs5,hp5,_⟩:=hU5.ex;have kL6:∀{c:WA} {o:HO},G5 c=some o->(∀C dx fs,o≠ .ins C dx fs)->(∀ps,o≠ .tbl ps)->G6 c=some o:=fun {c o} h n1 n2=>k6 c o h (fun z=>by rw[z,hp5]at h;cases h;exact n1 _ _ _ rfl) (RJ tb5 h n2)
  have hM6:=(hM5.far (A':=fun x=>x=ad) fun x z=>.inr (z▸hlcp1)).kp (G:=G6) fun c o h _ _ n3 n4=>kL6 h n3 n4
  have hs6:=AQ hs5 fun o e z=>kL6 e (fun C dx fs w=>by rcases z with z|⟨u,z⟩ <;> rw[z]at w <;> cases w) fun ps w=>by rcases z with z|⟨u,z⟩ <;> rw[z]at w <;> cases w
  have fH6:∀{x:WA},G6 x=none->H x=none:=fun {x} hx=>by
   cases e:G5 x with
   |none=>exact fH e
   |some o=>
    by_cases z2:x=p
    .obtain⟨dx,fs,e,_⟩:=hU6.ex;rw[z2,e]at hx;cases hx
    by_cases z3:x=T
    .obtain⟨ps,e,_⟩:=tb6.ex;rw[z3,e]at hx;cases hx
    rw[k6 _ _ e z2 z3]at hx;cases hx
  refine⟨a,ns,0,rfl,hs6,fun c0=>⟨(fun x=>x=ad),p,db,dc,ad,m,dr,dn,lc,xs0,c0,rfl,hU6,hM6,(fun x z=>by rw[z,hU6.hl];nofun),q1,q2,q3,q4,q5,q6,fun U M G7 hB r1 r10 hno=>⟨_,rfl,?_⟩⟩⟩;rw[Y3 (by decide)];refine g _ _ ?_;clear g N;have hU7:=hB.po;have hM7:=hB.mo;have nmsE:=hB.nms;have dg:∀{xs:List (Str×V)} {a:WA} {H':Hp} {n:Str} {v:V},H' a=some (.dK (dS xs))->xs.lookup n=some v->NJ H' a (.str n) (some v):=fun h1 h2=>.inl ⟨_,.inr _,.inl h1,rfl,by rw[GC];exact h2.symm⟩
  refine Ja fun N g=>?_
  walk_at"rd";refine⟨hU7.mt rfl,p,db,dc,ad,U,rfl,hU7,by omega,fun ra l1 G8 pa sa hl1 s8 h8=>?_⟩;refine⟨.inl ⟨rfl,_,WJ.of h8⟩,l1,rfl,_,h8,by rw[Y1,pa.length_eq,Y1,Yh];omega,fun G9 b9 h9=>g _ _ ?_⟩;clear g N;have s79:WH G7 G9:=fun c o h=>b9 _ _ (s8 _ _ h) (J6 h hl1)
  have hU9:=hU7.mono s79;have hM9:=hM7.mono s79;clear b9 h9 h8 s8 hl1 sa pa ra;refine Ja fun N g=>?_
  walk_at"rd";refine⟨hU9.mt rfl,p,db,dc,ad,U,rfl,hU9,by omega,fun rb l2 G10 pb sb hl2 s10 h10=>?_⟩;have af:=hM9.mono s10;have lM10:M.rs.length=U.rs.length:=by
   have:=YB List.length nmsE;simp at this;exact this.symm
  refine⟨_,dg af.hm af.x1,.inr (.inr (.inl ⟨rfl,.inl ⟨_,af.hr⟩⟩)),dr,rfl,_,af.hr,fun v G11 hv s11 h11=>⟨dr,h11,_,s11 _ _ af.hr,M.rs.map (·.nm),by unfold dS dR;rw[Yp,Yp,Yp];rfl,by rw[Y1];omega,fun ms l0 G12 pm so hl0 s12 h12=>?_⟩⟩;have erb:rb=ms:=FA (pb.trans (nmsE▸pm.symm)) sb so;subst erb;have okb:∀x∈rb,Js x:=fun x hx=>by
   obtain⟨e,he,en⟩:=Yw.mp (pb.mem_iff.mp hx);exact en▸(hB.rd e he).1
  refine⟨_,_,Nh ((s11.trans s12) _ _ h10),Nh h12,Jo okb,Jo okb,?_⟩;rw[Ay];refine⟨_,rfl,?_⟩;rw[Y3 (by decide)];have s912:=s10.trans (s11.trans s12);have hU12:=hU9.mono s912;refine⟨hU12.mt rfl,p,db,dc,ad,U,rfl,hU12,by rw[hB.c0];decide,fun ai s13=>⟨fun _=>?_,fun v hv=>by rw[hB.c0]at hv;cases hv⟩⟩;rw[Y3 (by decide)];refine g _ _ ?_;clear g N;have s713:=s79.trans (s912.trans s13);have hU13:=hU7.mono s713;have hM13:=hM7.mono s713;clear hU12 af h12 hl0 s12 h11 hv s11 h10 hl2 s10 pm so okb;have hs13:WJ K ai a (ns.map V.int):=AQ hs6 fun o e z=>s713 _ _ (hB.kp _ _ e (fun w=>by rw[w,hU6.hb]at e;cases e;rcases z with z|⟨_,z⟩ <;> cases z) (fun w=>by rw[w,hU6.hc]at e;cases e;rcases z with z|⟨_,z⟩ <;> cases z) (fun w=>by rw[w,hM6.hr]at e;cases e;rcases z with z|⟨_,z⟩ <;> cases z) (fun w=>by rw[w,hM6.hn]at e;cases e;rcases z with z|⟨_,z⟩ <;> cases z))
  refine Ja fun N g=>?_
  walk_at"rd";refine⟨a,ns,1,rfl,hs13,fun c1=>⟨_,rfl,by decide,?_⟩⟩;refine⟨by omega,by omega,?_⟩;obtain⟨nb,hnb⟩:∃n:Nat,(1+ c1%7).toNat=n:=⟨_,rfl⟩;have nb1:1 <=nb/\nb <=7:=by omega
  rw[hnb];obtain⟨Pv,aa⟩:∃Pv:Nat->List V->L2.St->Hp->Prop,Pv=fun i ys σ' G=>WH ai G/\∃bs:List (Addr×List Int),ys=(bs.map fun b=>V.ref b.1)/\bs.length=i/\(∀b∈bs,Dr G b/\ai b.1=none)/\∃v,σ'=[v,some (.ref a)]:=⟨_,rfl⟩
  refine R6 Pv (by rw[aa];exact⟨WH.refl _,[],rfl,rfl,(fun b hb=>nomatch hb),none,rfl⟩) ?_ (by rw[Yh];omega) ?_ ?_ <;> rw[aa]
  .rintro i ys σ' G ⟨_,bs,rfl,h,_⟩ _;rw[Y1];omega
  .intro i ys σ' G hi Zq;obtain⟨sG,bs,rfl,hbl,ac,v,rfl⟩:=Zq;rw[<-aa];walk_at"rd";refine⟨a,ns,1,rfl,AM hs13 sG,fun c=>⟨c,_,rfl,by omega,by omega,fun l xs G1 hl s1 h1 x1 x120 hx=>?_⟩⟩;rw[aa];refine⟨sG.trans s1,bs++[(l,xs)],by rw[Yd];rfl,by rw[List.length_append,hbl];rfl,fun b hb=>?_,_,rfl⟩;rcases Yb.mp hb with hb|hb
   .obtain⟨h,h'⟩:=ac b hb;exact⟨⟨s1 _ _ h.hb,h.l1,h.l2,h.by'⟩,h'⟩
   .rw[Y8.mp hb];exact⟨⟨h1,x1,YW x120 (by decide),hx⟩,sG.free hl⟩
  rintro ys σ' G14 ⟨s14',bs,rfl,hbl,ac,_⟩ lb G15 hlb s15' h15;refine g _ _ ?_;clear g N aa Pv;have s1315:=s14'.trans s15';have hbs15:∀b∈bs,Dr G15 b/\ai b.1=none:=fun b hb=>⟨⟨s15' _ _ (ac b hb).1.hb,(ac b hb).1.l1,(ac b hb).1.l2,(ac b hb).1.by'⟩,(ac b hb).2⟩
  have hs15:=AM hs13 s1315;have flb:ai lb=none:=s14'.free hlb;refine Ja fun N g=>?_
  walk_at"rd";obtain⟨Rb,eRb⟩:∃Rb:L2.St->Hp->Prop,Rb=fun σ' G=>∃bs:List (Addr×List Int),σ'=[some (.ref a),some (.ref p),some (.ref m),some (.ref lb),none,none,none,none]/\WH ai G/\G lb=some (.lst (bs.map fun b=>V.ref b.1))/\bs.length=nb/\∀b∈bs,Dr G b/\ai b.1=none:=⟨_,rfl⟩
  refine⟨Rb,⟨a,ns,1,rfl,hs15,fun c=>⟨_,rfl,⟨by decide,by decide⟩,by decide,rfl,?_⟩⟩,?_⟩
  .by_cases hc:c / 7%8=5
   .rw[Y9 (Yq hc)];refine⟨by decide,by decide,?_⟩;obtain⟨Pv,aa⟩:∃Pv:Nat->List V->L2.St->Hp->Prop,Pv=fun i ys σ' G=>G=G15/\∃xs:List Int,ys=xs.map V.int/\xs.length=i/\(∀x∈xs,0 <=x/\x <=255)/\∃v,σ'=[v,some (.ref a)]:=⟨_,rfl⟩
    refine R6 Pv (by rw[aa];exact⟨rfl,[],rfl,rfl,nofun,none,rfl⟩) ?_ (Nm (by decide)) ?_ ?_ <;> rw[aa]
    .rintro i ys σ' G ⟨_,xs,rfl,h,_⟩ _;rw[Y1];omega
    .intro i ys σ' G hi Zq;obtain⟨rfl,xs,rfl,hxl,hxs,v,rfl⟩:=Zq;rw[<-aa];have hi':i < 2000:=hi;walk_at"rd";refine⟨a,ns,1,rfl,hs15,fun c'=>⟨c',_,rfl,by omega,by omega,fun v v0 v1=>⟨_,rfl,by decide,?_⟩⟩⟩;rw[aa];refine⟨rfl,xs++[v%256],by rw[Yd];rfl,by rw[List.length_append,hxl];rfl,fun y hy=>?_,_,rfl⟩;rcases Yb.mp hy with hy|hy
     .exact hxs y hy
     .rw[Y8.mp hy];omega
    rintro ys σ' G15 ⟨rfl,xs,rfl,hxl,hxs,_⟩ l G16 hl s16 h16;obtain⟨b0,br,rfl⟩:∃b0 br,bs=b0::br:=by
     cases bs with
     |nil=>simp at hbl;omega
     |cons b r=>exact⟨b,r,rfl⟩
    refine⟨_,s16 _ _ h15,0,by unfold DX;rw[Y9 (by decide),Y9 (by rw[Y1,List.length_cons];omega)];rfl,fun G17 b17 h17=>?_⟩;rw[eRb];refine⟨(l,xs)::br,rfl,fun c o h=>b17 _ _ (s16 _ _ (s1315 _ _ h)) (J6 h flb),by rw[h17];rfl,by rw[<-hbl];rfl,fun b hb=>?_⟩;rcases Yu.mp hb with rfl|hb
    .have e2:(Int.toNat 2000)=2000:=rfl;exact⟨⟨b17 _ _ h16 (Ne.symm (J6 h15 hl)),by show 1 <=xs.length;omega,by show xs.length <=2000;omega,hxs⟩,s1315.free hl⟩
    .obtain⟨h,h'⟩:=hbs15 b (Yl _ hb);exact⟨⟨b17 _ _ (s16 _ _ h.hb) (J6 (ac b (Yl _ hb)).1.hb hlb),h.l1,h.l2,h.by'⟩,h'⟩
   .rw[Y3 (by simpa using hc),eRb];exact⟨bs,rfl,s1315,h15,hbl,hbs15⟩
  rw[eRb];clear hbs15 ac hbl h15 s15' s14' hlb s1315 hs15 bs eRb Rb;intro σ' G16 Zq;obtain⟨bs,rfl,s16,h16,hbl,ac⟩:=Zq;refine g _ _ ?_;clear g N;have hU16:=hU13.mono s16;have hM16:=hM13.mono s16;have hs16:=AM hs13 s16;refine Ja fun N g=>?_
  walk_at"rd";refine⟨_,.inl (WJ.of h16),by omega,by rw[Y1];omega,?_⟩;rw[Y1,Xl];obtain⟨Pv,aa⟩:∃Pv:Nat->List V->L2.St->Hp->Prop,Pv=fun i ys σ' G=>WH G16 G/\(∃ks:List Ky,GQ G ys ks)/\ys.length <=i/\∃v,σ'=[v,some (.ref lb)]:=⟨_,rfl⟩
  refine R6 Pv (by rw[aa];exact⟨WH.refl _,⟨[],Pw.nil⟩,Y6 _,none,rfl⟩) ?_ (by rw[Yh];omega) ?_ ?_ <;> rw[aa]
  .rintro i ys σ' G ⟨_,_,h,_⟩ _;exact h
  .intro i ys σ' G hi Zq;obtain⟨sG,⟨ks,hks⟩,hyl,v,rfl⟩:=Zq;rw[<-aa];obtain⟨b0,hb0⟩:∃b0,bs[i]?=some b0:=⟨_,Y5 (by omega)⟩;have hbB:=ac b0 (Ya hb0);have abk:Ts (bs.map fun b=>V.ref b.1) (i:Int)=some (.ref b0.1):=by
    refine DY ?_;rw[Yf,hb0];rfl
   have no:Pv (i+ 1) ys [some (.int (0+ (i:Int))),some (.ref lb)] G:=by
    rw[aa];exact⟨sG,⟨ks,hks⟩,Vz hyl,_,rfl⟩
   walk_at"rd";refine⟨_,WJ.of (sG _ _ h16),_,by rw[XR];exact abk,b0.1,rfl,_,.inl (WJ.of (sG _ _ hbB.1.hb)),?_⟩;rw[Y1]
   by_cases h60:(b0.2.length:Int) < 60
   .rw[Y9 (Yq h60)];refine⟨by decide,rfl,?_⟩
    by_cases hi2:(0+ (i:Int))%2=1
    .rw[Y9 (Yq hi2)];refine⟨_,rfl,fun t G1 ht s1 h1=>?_⟩;rw[aa];exact⟨sG.trans s1,⟨ks++[D3 (0+ (i:Int))],(hks.imp fun _ _ ⟨t,e,z⟩=>⟨t,e,s1 _ _ z⟩).snoc ⟨t,rfl,h1⟩⟩,by rw[List.length_append];exact Nat.succ_le_succ hyl,_,rfl⟩
    .rw[Y3 (by simpa using hi2)];exact no
   .rw[Y3 (by simpa using h60)];exact no
  rintro ys σ' G17 ⟨s17,⟨ks,hks⟩,hyl,_⟩ lk G18 hlk s18 h18;have hM18:=(hM16.mono s17).mono s18;refine⟨_,hM18.hm,by unfold dS;rw[Y1,xl0];exact CN (by decide),fun G19 b19 h19=>g _ _ ?_⟩;clear g N aa Pv;have s1618:=s17.trans s18;have hks18:=hks.mono fun c xs h=>s18 _ _ h
  obtain⟨xs1,exs1⟩:∃xs1:List (Str×V),xs1=xs0++[(("keep":Str),V.ref lk)]:=⟨_,rfl⟩;have xl1:xs1.length <=10:=by rw[exs1,List.length_append,xl0];simp
  have xk1:xs1.lookup ("keep":Str)=some (.ref lk):=by rw[exs1,aj];rfl
  have hM19:Jj (fun x=>x=ad) G19 m xs1 dr dn lc [] M:=hM18.setM b19 (by rw[h19,exs1,EY _ (by rw[aj];show ¬("keep":Str)∈[("roads":Str),"count","coming"];decide +kernel)]) (by rw[exs1,aj];rfl) (by rw[exs1,aj];rfl) (by rw[exs1,aj];rfl);have hU19:=(hU16.mono s1618).butD b19 hM18.hm (Ne.symm q5) (Ne.symm q6);have s1619:∀{c:WA} {o:HO},G16 c=some o->(∀l,o≠ .dK l)->G19 c=some o:=fun {c o} h n=>b19 _ _ (s1618 _ _ h) fun z=>by
   have:=hM16.hm;rw[<-z,h]at this;exact n _ (Yn this)
  have hs19:=AQ hs16 fun o e z=>s1619 e fun l w=>by rcases z with z|⟨u,z⟩ <;> rw[z]at w <;> cases w
  have h1619:=s1619 h16 nofun;have hbs19:∀b∈bs,Dr G19 b/\ai b.1=none:=fun b hb=>⟨⟨s1619 (ac b hb).1.hb nofun,(ac b hb).1.l1,(ac b hb).1.l2,(ac b hb).1.by'⟩,(ac b hb).2⟩
  have nlkm:lk≠m:=fun z=>by rw[z,s17 _ _ hM16.hm]at hlk;cases hlk
  have hlk19:G19 lk=some (.lst ys):=b19 _ _ h18 nlkm;have hks19:GQ G19 ys ks:=hks18.mono fun c xs h=>b19 _ _ h fun z=>by rw[z,hM18.hm]at h;cases h
  have flk:ai lk=none:=s16.free (s17.free hlk);refine Ja fun N g=>?_
  walk_at"rd";have e18:(10:Int) ^ Int.toNat 18=1000000000000000000:=by decide
  refine ⟨⟨by decide, by decide, by decide⟩, a, ns, 1, rfl, hs19, fun c2 => ⟨c2, 9, rfl, by decide, by decide, fun v9 v90 v91 => ⟨_, rfl, a, ns, 1, rfl, hs19, fun c3 => ⟨_, rfl, ⟨by decide, by decide⟩, by decide, rfl, .inr ⟨.inl ⟨by rw [e18]; omega, by rw [e18]; omega⟩, g _ _ ?_⟩⟩⟩⟩⟩;clear g N;obtain ⟨t0, et0, t00⟩ : ∃ t0 : Int, t0 = (10 ^ Int.toNat 18 + v9) * (if decide (c3 / 56 % 8 = 1) = true then 1 else 0) /\ 0 <= t0 := ⟨_, rfl, by
   rw[e18]
   split <;> omega⟩
  rw[<-et0];clear et0;refine Ja fun N g=>?_
  walk_at"rd";refine⟨_,hs19,fun ls G20 hls s20 h20=>⟨⟨_,WJ.of h20⟩,?_⟩⟩;obtain⟨sub,esub⟩:∃sub:List Int,DT (ns.map V.int) (some 2) (some 32)=sub.map V.int:=⟨_,by unfold DT;rw[<-List.map_drop,<-List.map_take]⟩;rw[esub]at h20;have hU20:=hU19.mono s20;have hM20:=hM19.mono s20;have tb13:NP ai T MH:=(tb6.of fun c o h k=>hB.kp c o h (fun z=>by rw[z,hU6.hb]at h;cases h;rcases k with⟨_,k⟩|⟨_,k⟩ <;> cases k) (fun z=>by rw[z,hU6.hc]at h;cases h;rcases k with⟨_,k⟩|⟨_,k⟩ <;> cases k) (fun z=>by rw[z,hM6.hr]at h;cases h;rcases k with⟨_,k⟩|⟨_,k⟩ <;> cases k) (fun z=>by rw[z,hM6.hn]at h;cases h;rcases k with⟨_,k⟩|⟨_,k⟩ <;> cases k)).same s713;have tb20:NP G20 T MH:=((tb13.same s16).of fun c o h k=>s1619 h fun l z=>by rcases k with⟨_,k⟩|⟨_,k⟩ <;> rw[k]at z <;> cases z).same s20;have d20:RI C CRo CP ks G20 p db dc ad m dr dn lc xs1 [] U M:=by
   refine⟨hU20,hM20.imp fun x z=>?_,?_,?_,?_,fun e he=>?_,?_,fun e he=>(hB.rd e he).1,xl1,by rw[hB.c0];exact Yj _,r1,by omega,q1,q2,q3,q4,q5,q6⟩
   .rcases z with z|⟨c,hc,_⟩
    .exact z
    .rw[hB.c0]at hc;cases hc
   .show(⟨TH U.rs,Mo U.cs⟩:AP)=⟨M.rs.map fun e=>⟨e.nm,e.r,e.n⟩,M.cs⟩;rw[hB.ab,hB.c0,hB.m0];rfl
   .rw[hB.c0];exact fun c hc=>nomatch hc
   .rw[hB.c0];exact fun c hc=>nomatch hc
   .obtain⟨_,f1,f2⟩:=hB.rd e he;exact⟨⟨Ne.symm (J6 hU6.hl f1),Ne.symm (J6 hU6.hl f2)⟩,Ne.symm (J6 hM6.hl f1),Ne.symm (J6 hM6.hl f2)⟩
   .rw[hB.c0];exact fun c hc=>nomatch hc
  have i20:Ta C CRo CP T ks G20 p db dc m dr dn ad lc lk t0 G20 ad lc xs1 [] U M:=⟨fun c o h _ _ _ _ _ _ _ _ _=>h,tb20,d20,.inl rfl,.inl rfl,(by rw[hB.c0];exact fun c hc=>nomatch hc),xk1,by rw[hB.n0];exact t00,fun _=>r10,fun _ z=>z⟩;have h1620:=s20 _ _ h1619;have ah:∀b∈bs,Dr G20 b/\ai b.1=none:=fun b hb=>⟨⟨s20 _ _ (hbs19 b hb).1.hb,(ac b hb).1.l1,(ac b hb).1.l2,(ac b hb).1.by'⟩,(ac b hb).2⟩
  have hlk20:=s20 _ _ hlk19;have hks20:=hks19.mono fun c xs h=>s20 _ _ h
  have fls : ai ls = none := s16.free (s1618.free (by
   cases e:G18 ls with
   |none=>rfl
   |some o=>
    by_cases z:ls=m
    .rw[z,h19]at hls;cases hls
    .rw [b19 _ _ e z] at hls; cases hls))
  have n13:∀{x:WA},ai x=none->x≠ad/\x≠lc:=fun h=>⟨Ne.symm (J6 hU13.hl h),Ne.symm (J6 hM13.hl h)⟩
  obtain⟨Pv,aa⟩:∃Pv:Nat->L2.St->Hp->Prop,Pv=fun i σ' G=>∃ (t:Int) (ag lc':WA) (xs:List (Str×V)) (zs:List V) (U:Nl) (M:Tz) (v5 v6 v7:Option V),σ'=[some (.ref a),some (.ref p),some (.ref m),some (.ref lb),some (.int t),v5,v6,v7]/\Ta C CRo CP T ks G20 p db dc m dr dn ad lc lk t G ag lc' xs zs U M:=⟨_,rfl⟩
  obtain⟨dx20,fs20,hp20,_⟩:=hU20.ex;obtain⟨ps20,ht20,_⟩:=tb20.ex;have kpL:∀{t G ag lc' xs zs U M c l},Ta C CRo CP T ks G20 p db dc m dr dn ad lc lk t G ag lc' xs zs U M->G20 c=some (.lst l)->c≠ad->c≠lc->G c=some (.lst l):=fun I e n1 n2=>I.kp _ _ e (fun z=>by rw[z,hp20]at e;cases e) (fun z=>by rw[z,hU20.hb]at e;cases e) (fun z=>by rw[z,hU20.hc]at e;cases e) n1 (fun z=>by rw[z,hM20.hm]at e;cases e) (fun z=>by rw[z,hM20.hr]at e;cases e) (fun z=>by rw[z,hM20.hn]at e;cases e) n2 (fun z=>by rw[z,ht20]at e;cases e)
  have kpT:∀{t G ag lc' xs zs U M c l},Ta C CRo CP T ks G20 p db dc m dr dn ad lc lk t G ag lc' xs zs U M->G20 c=some (.tup l)->G c=some (.tup l):=fun I e=>I.kp _ _ e (fun z=>by rw[z,hp20]at e;cases e) (fun z=>by rw[z,hU20.hb]at e;cases e) (fun z=>by rw[z,hU20.hc]at e;cases e) (fun z=>by rw[z,hU20.hl]at e;cases e) (fun z=>by rw[z,hM20.hm]at e;cases e) (fun z=>by rw[z,hM20.hr]at e;cases e) (fun z=>by rw[z,hM20.hn]at e;cases e) (fun z=>by rw[z,hM20.hl]at e;cases e) (fun z=>by rw[z,ht20]at e;cases e)
  refine Rg (xs:=sub.map V.int) Pv (by rw[aa];exact⟨t0,ad,lc,xs1,[],U,M,none,none,none,rfl,i20⟩) ?_ ?_ ?_ <;> rw[aa]
  .intro i σ' G _ Zq;obtain⟨t,ag,lc',xs,zs,U,M,v5,v6,v7,rfl,I⟩:=Zq;exact WJ.of (kpL I h20 (n13 fls).1 (n13 fls).2)
  .intro i y σ' G hy Zq;obtain⟨t,ag,lc',xs,zs,U,M,v5,v6,v7,rfl,I⟩:=Zq;rw[<-aa];rw[Yf]at hy;obtain⟨cell,_,rfl⟩:=Yy.mp hy;refine Ja fun N g=>?_
   walk_at"rd";refine⟨cell,9,rfl,by decide,fun ld ds G1 ae s1 h1 dl hds=>g _ _ ?_⟩;clear g N;have hD1:=I.du.mono s1;have lenA:M.cs.length=U.cs.length:=by
    have:=YB List.length (YB AP.cs I.du.ab);unfold MS ML Mo at this;simp at this;exact this.symm
   have c4:=I.du.c4;refine Ja fun N g=>?_
   walk_at"rd";refine⟨_,dg hD1.mo.hm hD1.mo.x3,lc',rfl,⟨_,WJ.of hD1.mo.hl⟩,Oy hD1.mo.th hD1.mo.hl (by omega) fun l2 G2 hl2 s2 h2=>⟨Nm (by decide),fun l3 G3 hl3 s3 h3=>⟨l2,rfl,_,s3 _ _ h2,_,h3,by rw[Y1,Y1,Yh];simp;omega,fun l4 G4 hl4 s4 h4=>⟨M.cs.map (·.1)++[t],WJ.of (by rw[h4,Yd];rfl),by rw[List.length_append,Y1];simp;omega,fun es le G5 pm so hle s5 h5=>g _ _ ?_⟩⟩⟩⟩;clear g N;have s15:=s2.trans (s3.trans (s4.trans s5));have les:1 <=es.length/\es.length <=4000:=by
    have:=pm.length_eq;rw[List.length_append,Y1]at this;simp at this;omega
   have h15:=s15 _ _ h1;have dgt:∀j:Nat,j < 9->∃x,Ts (ds.map V.int) (j:Int)=some (.int x)/\0 <=x/\x < 5040:=fun j hj=>by
    obtain⟨x,hx⟩:∃x,ds[j]?=some x:=⟨_,Y5 (by omega)⟩;obtain⟨x0,x1⟩:=hds x (Ya hx);exact⟨x,by refine DY ?_;rw[Yf,hx];rfl,x0,x1⟩
   obtain⟨x8,a8,x80,x81⟩:=dgt 8 (by decide);obtain⟨e0,he0⟩:∃e0,Ts (es.map V.int) 0=some (.int e0):=by
    obtain⟨e,r,rfl⟩:∃e r,es=e::r:=by
     cases es with
     |nil=>simp at les
     |cons e r=>exact⟨e,r,rfl⟩
    exact⟨e,E4⟩
   obtain⟨e1,he1⟩:∃e1,Ts (es.map V.int) (-1)=some (.int e1):=by
    unfold Ts DX;rw[Y3 (by decide),Y9 (by rw[Y1];omega)];show ∃e1,(es.map V.int)[(-1+ ((es.map V.int).length:Int)).toNat]?=_;rw[Yf,Y5 (by rw[Y1];omega)];exact⟨_,rfl⟩
   refine Ja fun N g=>?_
   walk_at"rd";refine⟨_,WJ.of h15,_,a8,x8,rfl,⟨by decide,by decide⟩,by decide,_,WJ.of h5,_,he0,_,WJ.of h5,_,he1,Nm (by decide),fun l6 G6 hl6 s6 h6=>⟨_,WJ.of (s6 _ _ h15),_,a8,x8,rfl,by decide,_,WJ.of h6,?_⟩⟩;obtain⟨tv,htv⟩:∃tv:Int,Ts [V.int t,V.int (t+ 1),V.int (t+ x8 / 8%20),V.int e0,V.int e1] (x8%5)=some (.int tv):=by
    have:x8%5=0\/x8%5=1\/x8%5=2\/x8%5=3\/x8%5=4:=by omega
    rcases this with z|z|z|z|z <;> rw[z] <;> exact⟨_,rfl⟩
   refine⟨_,htv,tv,rfl,g _ _ ?_⟩;clear g N;obtain⟨t',et',htt'⟩:∃t':Int,t'=(if tv > t then tv else t)/\t <=t':=⟨_,rfl,by split <;> omega⟩;rw[<-et'];have I6:=I.mono (t':=t') (s1.trans (s15.trans s6)) htt';have h16:=s6 _ _ h15;have nq:∀{x:WA} {o:HO},G20 x=some o->ai x=none->x≠ag:=fun e f=>by
    rcases I.l1 with z|z
    .rw[z];exact(n13 f).1
    .exact J6 e z
   refine Ja fun N g=>?_
   walk_at"rd";refine⟨p,db,dc,ag,m,dr,dn,lc',lb,ld,lk,xs,zs,U,M,ks,ys,t',bs,ds,rfl,I6.du,I6.nw,I6.tb,I6.xk,kpL I6 hlk20 (n13 flk).1 (n13 flk).2,hks20.mono fun c xs h=>kpT I6 h,kpL I6 h1620 (n13 flb).1 (n13 flb).2,fun b hb=>⟨⟨kpL I6 (ah b hb).1.hb (n13 (ah b hb).2).1 (n13 (ah b hb).2).2,(ah b hb).1.l1,(ah b hb).1.l2,(ah b hb).1.by'⟩,nq (ah b hb).1.hb (ah b hb).2⟩,nq h1620 flb,nq hlk20 flk,by omega,by omega,h16,dl,hds,fun G7 lcp2 lc2 xs2 zs2 U2 M2 D=>⟨_,rfl,?_⟩⟩;rw[Y3 (by decide)];refine g _ _ ?_;clear g N;have I7:=I6.deed D;obtain⟨dxG,fsG,hpG,_⟩:=I.du.po.ex;obtain⟨psG,hTG,_⟩:=I.tb.ex;have h17:=D.kp _ _ h16 (fun z=>by rw[z,hpG]at ae;cases ae) (fun z=>by rw[z,I.du.po.hc]at ae;cases ae) (fun z=>by rw[z,I.du.po.hl]at ae;cases ae) (fun z=>by rw[z,I.du.mo.hm]at ae;cases ae) (fun z=>by rw[z,I.du.mo.hn]at ae;cases ae) (fun z=>by rw[z,I.du.mo.hl]at ae;cases ae) (fun z=>by rw[z,hTG]at ae;cases ae) (fun d hd z=>by rw[<-z,(I.du.po.th d hd).pi.bd]at ae;cases ae);have nm7:U2.rs.map (·.nm)=M2.rs.map (·.nm):=by
    have:=YB (List.map AR.nm) (YB AP.rs I7.du.ab);unfold MS ML TH at this;simp only[Yp]at this;exact this
   have lenM7:M2.rs.length=U2.rs.length:=by
    have:=YB List.length nm7;simp at this;exact this.symm
   have r27:=I7.du.r2;clear I6 D I h15 h16 h5 h6 s15 s6 s5 hle hl6 h1 ae s1 hD1 he0 he1 les pm so hpG hTG nq;refine Ja fun N g=>?_
   have goon:∀{U3:Nl} {M3:Tz} {G8:Hp},Ta C CRo CP T ks G20 p db dc m dr dn ad lc lk t' G8 lcp2 lc2 xs2 zs2 U3 M3->N [some (.ref a),some (.ref p),some (.ref m),some (.ref lb),some (.int t'),some (.int cell),some (.ref ld),some (.ref le)] G8:=by
    intro U3 M3 G8 I8;refine g _ _ ?_;clear g N;have lenC:M3.cs.length=U3.cs.length:=by
     have:=YB List.length (YB AP.cs I8.du.ab);unfold MS ML Mo at this;simp at this;exact this.symm
    have cE:U3.cs.map (·.tm)=M3.cs.map (·.1):=by
     have:=YB (List.map Prod.fst) (YB AP.cs I8.du.ab);unfold MS ML Mo at this;simp only[Yp]at this;exact this
    have c48:=I8.du.c4;refine Ja fun N g=>?_
    walk_at"rd";refine⟨_,dg I8.du.mo.hm I8.du.mo.x3,lc2,rfl,⟨_,WJ.of I8.du.mo.hl⟩,Oy I8.du.mo.th I8.du.mo.hl (by omega) fun l2 G9 hl2 s9 h9=>⟨l2,rfl,M3.cs.map (fun x=>x.1),WJ.of h9,by rw[Y1];omega,fun es le G10 pm so hle s10 h10=>g _ _ ?_⟩⟩;clear g N;have I10:=I8.mono (s9.trans s10) (XE _);have les:es.length=U3.cs.length:=by rw[pm.length_eq,Y1,lenC]
    walk_at"rd";have hU10:=I10.du.po;refine⟨hU10.mt rfl,p,db,dc,lcp2,U3,rfl,hU10,_,.inl (WJ.of h10),rfl,?_⟩;rw[Y3 (by rw[Y1,les];simp)];refine⟨hU10.mt rfl,p,db,dc,lcp2,U3,rfl,hU10,by omega,fun G11 s11=>?_⟩;have last:∀G,WH G11 G->Pv (i+ 1) [some (.ref a),some (.ref p),some (.ref m),some (.ref lb),some (.int t'),some (.int cell),some (.ref ld),some (.ref le)] G:=fun G s=>by
     rw[aa];exact⟨t',lcp2,lc2,xs2,zs2,U3,M3,_,_,_,rfl,I10.mono (s11.trans s) (XE _)⟩
    refine⟨fun hnil=>⟨Nm (by decide),fun l5 G12 hl5 s12 h12=>⟨_,s12 _ _ (s11 _ _ h10),_,h12,by rw[Y1,Yh];simp;omega,fun l6 G14 hl6 s14 h14=>⟨_,WJ.of h14,?_⟩⟩⟩,fun v hv hle=>⟨Nm (by decide),fun l5 G12 hl5 s12 h12=>⟨_,s12 _ _ (s11 _ _ h10),_,h12,by rw[Y1,Yh];simp;omega,fun l6 G14 hl6 s14 h14=>⟨_,WJ.of h14,?_⟩⟩⟩⟩
    .have e0:es=[]:=Xj (by rw[les,hnil];rfl);subst e0;refine⟨_,E4,.none,.none,.non,.non,rfl,rfl,_,rfl,?_⟩;rw[Y3 (by decide)];exact last _ (s12.trans s14)
    .obtain⟨e,r,rfl⟩:∃e r,es=e::r:=by
      cases es with
      |nil=>
       have:U3.cs=[]:=Xj les.symm;rw[this]at hv;cases hv
      |cons e r=>exact⟨e,r,rfl⟩
     have ev:e=v:=by
      have h1:v∈e::r:=pm.mem_iff.mpr (cE▸hv);have h2:e∈U3.cs.map (·.tm):=by rw[cE];exact pm.mem_iff.mp Ym
      have h3:=hle e h2;rw[X2]at so;rcases Yu.mp h1 with z|z
      .exact z.symm
      .have:=so.1 v z;omega
     subst ev;refine⟨_,E4,.int e,.int e,.int _,.int _,rfl,rfl,_,rfl,?_⟩;rw[Y3 (by simp[PyData.eqv])];exact last _ (s12.trans s14)
   walk_at"rd";have hr7:=I7.du.mo.hr;refine⟨_,dg I7.du.mo.hm I7.du.mo.x1,dr,rfl,_,hr7,?_⟩;rw[GC]
   by_cases hlt:("later":Str)∈U2.rs.map (·.nm)
   .rw[Y3 (by rw[Pl (by unfold dR;rw[Yp];exact nm7▸hlt)];decide)];exact goon I7
   .rw[Y9 (by rw[Fs (by unfold dR;rw[Yp];exact nm7▸hlt)];rfl)];refine⟨_,WJ.of h17,_,a8,x8,rfl,by decide,rfl,?_⟩
    by_cases h3:x8%7=3
    .rw[Y9 (Yq h3)];refine⟨Dw lcp2 U2.cs,p,db,dc,lcp2,m,dr,dn,lc2,U2,xs2,zs2,M2,cell,rfl,I7.du.po,I7.du.mo,nm7,hlt,by omega,fun x z=>?_,fun n hn=>?_,q1,q2,q3,q4,q5,q6,fun e e' G8 e1 e2 e3 e4 e5 f1 f2 k8 po8 mo8=>⟨_,rfl,?_⟩⟩
     .rcases z with rfl|⟨c,hc,rfl⟩
      .rw[I7.du.po.hl];nofun
      .rw[(I7.du.po.th c hc).pi.bd];nofun
     .obtain⟨e,he,en⟩:=Yw.mp hn;exact en▸I7.du.nm e he
     .rw[Y3 (by decide)];exact goon (I7.late hlt e1 e2 e3 e4 e5 f1 f2 k8 po8 mo8)
    .rw[Y3 (by simpa using h3)];exact goon I7
  .intro σ' G Zq;obtain⟨t,ag,lc',xs,zs,U,M,v5,v6,v7,rfl,I⟩:=Zq;refine g _ _ ?_;clear g N;walk_at"rd";have hD:=I.du;have nmE:U.rs.map (·.nm)=M.rs.map (·.nm):=by
    have:=YB (List.map AR.nm) (YB AP.rs hD.ab);unfold MS ML TH at this;simp only[Yp]at this;exact this
   have lenM:M.rs.length=U.rs.length:=by
    have:=YB List.length nmE;simp at this;exact this.symm
   have r2:=hD.r2;refine⟨hD.po.mt rfl,p,db,dc,ag,U,rfl,hD.po,by omega,fun rb l2 G10 pb sb hl2 s10 h10=>?_⟩;have af:=hD.mo.mono s10;refine⟨_,dg af.hm af.x1,.inr (.inr (.inl ⟨rfl,.inl ⟨_,af.hr⟩⟩)),dr,rfl,_,af.hr,fun v G11 hv s11 h11=>⟨dr,h11,_,s11 _ _ af.hr,M.rs.map (·.nm),by unfold dS dR;rw[Yp,Yp,Yp];rfl,by rw[Y1];omega,fun ms l0 G12 pm so hl0 s12 h12=>?_⟩⟩;have erb:rb=ms:=FA (pb.trans (nmE▸pm.symm)) sb so;subst erb;have okb:∀x∈rb,Js x:=fun x hx=>by
    obtain⟨e,he,en⟩:=Yw.mp (pb.mem_iff.mp hx);exact en▸hD.nm e he
   refine⟨_,_,Nh ((s11.trans s12) _ _ h10),Nh h12,Jo okb,Jo okb,?_⟩;rw[Ay];exact q _
end
theorem Sk{K:Wy}{s:Wu}{T:WA}{oT:Option Addr}{nT:Nat}{sT:Array (Option Value)}{kV dc pm cd ct:Wz}{an:Option Addr}{u0 u1 u2 u3:Wz}(kx:K.In s.heap)(h:K.lookup T=some ⟨.type "tuple",oT,.seq #[.none] nT,sT⟩):
  BindsTo s (W.fnOf "__init__" "Road.__init__" (TB WZ) (WP WZ) (WF WZ) (.ref T) kV dc pm an cd ct) ⟨[u0,u1,u2],[("lost",u3)]⟩ ((["self","widths","delay","lost"]:List Str).zip ([u0,u1,u2]++[u3])):=by
 first
  |exact .of_eq rfl
  |exact .of_defaults rfl (kx _ _ h) rfl rfl rfl
section
variable{P:Wt}{w:Wx}{K:Wy}{mg:Wp}{base:WD}
theorem Zt{C:WA}{f:WA}{fd:Wv}(F:WQ P w K mg base Jr 5 f fd ["self","widths","delay","lost"] (RF C))(hm:mg "Road"=some (.ref C))(M:Mk K C f)(hb:∀ (s:Wu) (us:WC) (u:Wz),K.In s.heap->us.length+ 1=4->BindsTo s fd ⟨us,[("lost",u)]⟩ ((["self","widths","delay","lost"]:List Str).zip (us++[u]))):C9 P w K mg base "Road" "lost" 5 (RE C):=
 ⟨f,C,fd,_,_,F,hm,M,hb,fun vs H Q h y dx G a _ _ s b=>Fq h y dx G a s b⟩
end
theorem ZA{us:WC}{v:Wz}(hl:(us++[v]).length=6):∃u0 u1 u2 u3 u4,us=[u0,u1,u2,u3,u4]:=by
 have a:us.length=5:=by rw[List.length_append]at hl;simpa using hl
 exact Fd a
theorem wN{K:Wy}{s:Wu}{T:WA}{oT:Option Addr}{nT:Nat}{sT:Array (Option Value)}{kV dc pm cd ct:Wz}{an:Option Addr}{u0 u1 u2 u3 u4 u5:Wz}(kx:K.In s.heap)(h:K.lookup T=some ⟨.type "tuple",oT,.seq #[.bool false] nT,sT⟩):
  BindsTo s (W.fnOf "__init__" "Letter.__init__" (TB WT) (WP WT) (WF WT) (.ref T) kV dc pm an cd ct) ⟨[u0,u1,u2,u3,u4,u5],[]⟩ ((["self","number","sender","goal","body","keep"]:List Str).zip ([u0,u1,u2,u3,u4,u5]++[])):=by
 first
  |exact .of_eq rfl
  |exact .of_defaults rfl (kx _ _ h) rfl rfl rfl
theorem SW{K:Wy}{s:Wu}{T:WA}{oT:Option Addr}{nT:Nat}{sT:Array (Option Value)}{kV dc pm cd ct:Wz}{an:Option Addr}{u0 u1 u2 u3 u4:Wz}(kx:K.In s.heap)(h:K.lookup T=some ⟨.type "tuple",oT,.seq #[.bool false] nT,sT⟩):
  BindsTo s (W.fnOf "__init__" "Letter.__init__" (TB WT) (WP WT) (WF WT) (.ref T) kV dc pm an cd ct) ⟨[u0,u1,u2,u3,u4],[]⟩ ((["self","number","sender","goal","body","keep"]:List Str).zip ([u0,u1,u2,u3,u4]++[.bool false])):=by
 exact .of_defaults rfl (kx _ _ h) rfl rfl rfl
theorem Zw{us:WC}{v:Wz}(hl:(us++[v]).length=8):∃u0 u1 u2 u3 u4 u5 u6,us=[u0,u1,u2,u3,u4,u5,u6]:=by
 have a:us.length=7:=by rw[List.length_append]at hl;simpa using hl
 exact OQ a
theorem yC{K:Wy}{s:Wu}{T:WA}{oT:Option Addr}{nT:Nat}{sT:Array (Option Value)}{kV dc pm cd ct:Wz}{an:Option Addr}{u0 u1 u2 u3 u4 u5 u6 u7:Wz}(kx:K.In s.heap)(h:K.lookup T=some ⟨.type "tuple",oT,.seq #[.bool false] nT,sT⟩):
  BindsTo s (W.fnOf "__init__" "Piece.__init__" (TB WY) (WP WY) (WF WY) (.ref T) kV dc pm an cd ct) ⟨[u0,u1,u2,u3,u4,u5,u6,u7],[]⟩ ((["self","number","sender","goal","at","body","more","keep"]:List Str).zip ([u0,u1,u2,u3,u4,u5,u6,u7]++[])):=by
 first
  |exact .of_eq rfl
  |exact .of_defaults rfl (kx _ _ h) rfl rfl rfl
theorem Zz{K:Wy}{s:Wu}{T:WA}{oT:Option Addr}{nT:Nat}{sT:Array (Option Value)}{kV dc pm cd ct:Wz}{an:Option Addr}{u0 u1 u2 u3 u4 u5 u6:Wz}(kx:K.In s.heap)(h:K.lookup T=some ⟨.type "tuple",oT,.seq #[.bool false] nT,sT⟩):
  BindsTo s (W.fnOf "__init__" "Piece.__init__" (TB WY) (WP WY) (WF WY) (.ref T) kV dc pm an cd ct) ⟨[u0,u1,u2,u3,u4,u5,u6],[]⟩ ((["self","number","sender","goal","at","body","more","keep"]:List Str).zip ([u0,u1,u2,u3,u4,u5,u6]++[.bool false])):=by
 exact .of_defaults rfl (kx _ _ h) rfl rfl rfl
theorem S8{us:WC}{v:Wz}(hl:(us++[v]).length=4):∃u0 u1 u2,us=[u0,u1,u2]:=by
 have a:us.length=3:=by rw[List.length_append]at hl;simpa using hl
 exact Gj a
theorem wR{K:Wy}{s:Wu}{T:WA}{oT:Option Addr}{nT:Nat}{sT:Array (Option Value)}{kV dc pm cd ct:Wz}{an:Option Addr}{u0 u1 u2 u3:Wz}(kx:K.In s.heap)(h:K.lookup T=some ⟨.type "tuple",oT,.seq #[.none] nT,sT⟩):
  BindsTo s (W.fnOf "__init__" "Road.__init__" (TB WZ) (WP WZ) (WF WZ) (.ref T) kV dc pm an cd ct) ⟨[u0,u1,u2,u3],[]⟩ ((["self","widths","delay","lost"]:List Str).zip ([u0,u1,u2,u3]++[])):=by
 first
  |exact .of_eq rfl
  |exact .of_defaults rfl (kx _ _ h) rfl rfl rfl
theorem ZV{K:Wy}{s:Wu}{T:WA}{oT:Option Addr}{nT:Nat}{sT:Array (Option Value)}{kV dc pm cd ct:Wz}{an:Option Addr}{u0 u1 u2:Wz}(kx:K.In s.heap)(h:K.lookup T=some ⟨.type "tuple",oT,.seq #[.none] nT,sT⟩):
  BindsTo s (W.fnOf "__init__" "Road.__init__" (TB WZ) (WP WZ) (WF WZ) (.ref T) kV dc pm an cd ct) ⟨[u0,u1,u2],[]⟩ ((["self","widths","delay","lost"]:List Str).zip ([u0,u1,u2]++[.none])):=by
 exact .of_defaults rfl (kx _ _ h) rfl rfl rfl
local macro_rules | `(tactic| walk_at"b1") => `(tactic| exact fun _ _ _ _ _ _ us hl => by obtain ⟨_, e⟩ := TR hl; subst e; rfl)
local macro_rules | `(tactic| walk_at"b2") => `(tactic| exact fun _ _ _ _ _ _ us hl => by obtain ⟨_, _, e⟩ := MI hl; subst e; rfl)
local macro_rules | `(tactic| walk_at"b3") => `(tactic| exact fun _ _ _ _ _ _ us hl => by obtain ⟨_, _, _, e⟩ := Gj hl; subst e; rfl)
local macro_rules | `(tactic| walk_at"b5") => `(tactic| exact fun _ _ _ _ _ _ us hl => by obtain ⟨_, _, _, _, _, e⟩ := Fd hl; subst e; rfl)
local macro_rules | `(tactic| walk_at"b6") => `(tactic| exact fun _ _ _ _ _ _ us hl => by obtain ⟨_, _, _, _, _, _, e⟩ := KA hl; subst e; rfl)
set_option maxHeartbeats 0 in
theorem Ks{l:W.OpenLaw}{w:Wx}{K:Wy}{h:WD}{mg:Wp}{fa:WA}(X:K.In h)(G:h.Ns mainGlobals mg)(hfa:mg "law"=some (.ref fa))
  {f_is_whole f_is_whole_within f_is_whole_from f_is_truth f_is_number f_is_name f_is_byte f_is_body f_is_width f_are_widths f_are_shared_parts f_is_place f_has_room f_full_length f_part_of f_cut_again f_cut f_all_cut_again f_cut_over f_are_lost f_cell_at f_mixed f_digits f_key f_lawbody f_lawcut f_lawover f_lawwidths f_lawbare f_lawlate f_lawroads f_lawsent f_lawfetched f_lawplain f_lawdeed f_law C_Letter f_Letter_init T_Letter_init C_Piece f_Piece_key f_Piece_init T_Piece_init C_Road f_Road_init T_Road_init C_Post f_Post_check_time f_Post_roads f_Post_on_the_way f_Post_next_time f_Post_are_built f_Post_build f_Post_put_on_road f_Post_loads_of f_Post_send f_Post_fetch cL_Post_fetch tL_Post_fetch f_Post_init:WA}
  {ts:List Addr}
  (q_is_whole:GF K "is_whole" Fc f_is_whole)
  (q_is_whole_within:GF K "is_whole_within" KJ f_is_whole_within)
  (q_is_whole_from:GF K "is_whole_from" FV f_is_whole_from)
  (q_is_truth:GF K "is_truth" FB f_is_truth)
  (q_is_number:GF K "is_number" KN f_is_number)
  (q_is_name:GF K "is_name" CM f_is_name)
  (q_is_byte:GF K "is_byte" Fb f_is_byte)
  (q_is_body:GF K "is_body" Cg f_is_body)
  (q_is_width:GF K "is_width" IP f_is_width)
  (q_are_widths:GF K "are_widths" CT f_are_widths)
  (q_are_shared_parts:GF K "are_shared_parts" F5 f_are_shared_parts)
  (q_is_place:GF K "is_place" HB f_is_place)
  (q_has_room:GF K "has_room" KB f_has_room)
  (q_full_length:GF K "full_length" I0 f_full_length)
  (q_part_of:GF K "part_of" KH f_part_of)
  (q_cut_again:GF K "cut_again" Ie f_cut_again)
  (q_cut:GF K "cut" FI f_cut)
  (q_all_cut_again:GF K "all_cut_again" H9 f_all_cut_again)
  (q_cut_over:GF K "cut_over" HK f_cut_over)
  (q_are_lost:GF K "are_lost" Ao f_are_lost)
  (q_cell_at:GF K "_law_cell_at" HR f_cell_at)
  (q_mixed:GF K "_law_mixed" Kh f_mixed)
  (q_digits:GF K "_law_digits" IB f_digits)
  (q_key:GF K "_law_key" Ku f_key)
  (q_lawbody:GF K "_law_body" Aq f_lawbody)
  (q_lawcut:GF K "_law_cut" CY f_lawcut)
  (q_lawover:GF K "_law_over" HC f_lawover)
  (q_lawwidths:GF K "_law_widths" AT f_lawwidths)
  (q_lawbare:GF K "_law_bare" HV f_lawbare)
  (q_lawlate:GF K "_law_late_road" AX f_lawlate)
  (q_lawroads:GF K "_law_roads" B5 f_lawroads)
  (q_lawsent:GF K "_law_sent" KI f_lawsent)
  (q_lawfetched:GF K "_law_fetched" Ec f_lawfetched)
  (q_lawplain:GF K "_law_plain" KM f_lawplain)
  (q_lawdeed:GF K "_law_deed" RC f_lawdeed)
  (q_law:GF K "law" DO f_law)
  (qc_Letter:CF K "Letter" C_Letter)
  (na_Letter:NA K C_Letter ["number","sender","goal","body","keep"])
  (q_Letter_init:DF K C_Letter "Letter.__init__" WT f_Letter_init T_Letter_init)
  (qc_Piece:CF K "Piece" C_Piece)
  (na_Piece:NA K C_Piece ["number","sender","goal","at","body","more","keep"])
  (q_Piece_key:MF K C_Piece "key" "Piece.key" Ki f_Piece_key)
  (q_Piece_init:DF K C_Piece "Piece.__init__" WY f_Piece_init T_Piece_init)
  (qc_Road:CF K "Road" C_Road)
  (na_Road:NA K C_Road ["widths","delay","lost"])
  (q_Road_init:DN K C_Road "Road.__init__" WZ f_Road_init T_Road_init)
  (qc_Post:CF K "Post" C_Post)
  (na_Post:NA K C_Post ["now","built","counts","coming"])
  (q_Post_check_time:MF K C_Post "check_time" "Post.check_time" Ig f_Post_check_time)
  (q_Post_roads:MF K C_Post "roads" "Post.roads" FG f_Post_roads)
  (q_Post_on_the_way:MF K C_Post "on_the_way" "Post.on_the_way" Ko f_Post_on_the_way)
  (q_Post_next_time:MF K C_Post "next_time" "Post.next_time" AH f_Post_next_time)
  (q_Post_are_built:MF K C_Post "are_built" "Post.are_built" C7 f_Post_are_built)
  (q_Post_build:MF K C_Post "build" "Post.build" KF f_Post_build)
  (q_Post_put_on_road:MF K C_Post "put_on_road" "Post.put_on_road" C4 f_Post_put_on_road)
  (q_Post_loads_of:MF K C_Post "loads_of" "Post.loads_of" K4 f_Post_loads_of)
  (q_Post_send:MF K C_Post "send" "Post.send" Iv f_Post_send)
  (q_Post_fetch:MA K C_Post "fetch" "Post.fetch" Ed f_Post_fetch cL_Post_fetch tL_Post_fetch)
  (hm_Post_fetch:tL_Post_fetch∈ts)
  (q_Post_init:MF K C_Post "__init__" "Post.__init__" JW f_Post_init)
  (qk:(∃t,W.nsIn K mainGlobals "MOST_NUMBER"=some (some (.int 65535 t)))/\(∃t,W.nsIn K mainGlobals "MOST_BYTE"=some (some (.int 255 t)))/\(∃t,W.nsIn K mainGlobals "MOST_SIGNS"=some (some (.int 8 t)))/\(∃t,W.nsIn K mainGlobals "MOST_BYTES"=some (some (.int 4000 t)))/\(∃t,W.nsIn K mainGlobals "LEAST_WIDTH"=some (some (.int 8 t)))/\(∃t,W.nsIn K mainGlobals "MOST_WIDTH"=some (some (.int 5000 t)))/\(∃t,W.nsIn K mainGlobals "MOST_WIDTHS"=some (some (.int 20 t)))/\(∃t,W.nsIn K mainGlobals "STEP"=some (some (.int 8 t)))/\True)
  (zs:NS K ["len","range","isinstance","all","min","max","int","bool","str","list","tuple","enumerate","zip","sum","sorted","set"])
  (nt:W.noTabs K=true)
  (ne_cr:C_Post≠C_Road)
  (ne_cp:C_Post≠C_Piece):
  ∃ (c1 T1:WA) (fd:Wv),T1∈ts/\W.codeHdIn K c1 T1=true/\W.noTabs K=true/\(∀ (s:Wu) (v:Wz),BindsTo s fd ⟨[v],[]⟩ [("_law_script",v)])/\∀base:Heap,W.Frag.In K base->base.Ns mainGlobals mg->Gv mg base c1 T1->WQ l.prog w K mg base Jr 17 fa fd ["_law_script"] (Cm K T1):=by
 obtain⟨a_law,oc,od,kV,dc,pm,an,cd,ct,sl,l_law,c_law,k_law⟩:=q_law;have e:=hfa.symm.trans (W.mg_of X G a_law);cases e;have Bm:=A7 (st:=DO) l_law c_law k_law;refine⟨cL_Post_fetch,tL_Post_fetch,W.fnOf "law" "law" (TB DO) (WP DO) (WF DO) .none kV dc pm an cd ct,hm_Post_fetch,q_Post_fetch.hd,nt,fun s v=>.of_eq rfl,fun base kb nb LC_Post_fetch=>?_⟩;have E:MB l.prog w K mg base:=⟨fun e=>W.mg_of X G e,fun e=>W.mg_none_of X G e⟩;have m_Letter:=E.of qc_Letter.1;have cl_Letter:=qc_Letter.2.1;have ic_Letter:=qc_Letter.2.2.2.2;have cl_Piece:=qc_Piece.2.1;have m_Road:=E.of qc_Road.1;have cl_Road:=qc_Road.2.1;have ic_Road:=qc_Road.2.2.2.2;have cl_Post:=qc_Post.2.1;have B:Bt mg:=⟨E.no zs.1,E.no zs.2.1,E.no zs.2.2.1,E.no zs.2.2.2.1,E.no zs.2.2.2.2.1,E.no zs.2.2.2.2.2.1,E.no zs.2.2.2.2.2.2.1,E.no zs.2.2.2.2.2.2.2.1,E.no zs.2.2.2.2.2.2.2.2.1,E.no zs.2.2.2.2.2.2.2.2.2.1,E.no zs.2.2.2.2.2.2.2.2.2.2.1⟩;have B2:E3 mg:=⟨E.no zs.2.2.2.2.2.2.2.2.2.2.2.2.2.1,E.no zs.2.2.2.2.2.2.2.2.2.2.2.2.2.2.1⟩;have B7:Oz mg:=⟨E.no zs.2.2.2.2.2.2.2.2.2.2.2.2.2.2.2.1⟩;have B3:LF mg:=⟨E.no zs.2.2.2.2.2.2.2.2.2.2.2.1,E.no zs.2.2.2.2.2.2.2.2.2.2.2.2.1⟩;have T:Cn mg:=⟨qk.1.imp fun _ e=>E.of e,qk.2.1.imp fun _ e=>E.of e,qk.2.2.1.imp fun _ e=>E.of e,qk.2.2.2.1.imp fun _ e=>E.of e,qk.2.2.2.2.1.imp fun _ e=>E.of e,qk.2.2.2.2.2.1.imp fun _ e=>E.of e,qk.2.2.2.2.2.2.1.imp fun _ e=>E.of e,qk.2.2.2.2.2.2.2.1.imp fun _ e=>E.of e⟩;have L:Ri K C_Letter:=⟨cl_Letter,na_Letter.1,na_Letter.2.1,na_Letter.2.2.1,na_Letter.2.2.2.1,na_Letter.2.2.2.2.1⟩;have LP:D6 K C_Piece:=⟨cl_Piece,na_Piece.1,na_Piece.2.1,na_Piece.2.2.1,na_Piece.2.2.2.1,na_Piece.2.2.2.2.1,na_Piece.2.2.2.2.2.1,na_Piece.2.2.2.2.2.2.1⟩;have LR:Rh K C_Road:=⟨cl_Road,na_Road.1,na_Road.2.1,na_Road.2.2.1⟩;have LPo:My K C_Post:=⟨cl_Post,na_Post.1,na_Post.2.1,na_Post.2.2.1,na_Post.2.2.2.1⟩;have g_is_whole:=E.fb q_is_whole (fun JE=>QT JE B) (by walk_at"b1");have g_is_whole_within:=E.fb q_is_whole_within (fun J3=>uE J3 g_is_whole) (by walk_at"b3");have g_is_whole_from:=E.fb q_is_whole_from (fun J7=>Sx J7 g_is_whole) (by walk_at"b2");have g_is_truth:=E.fb q_is_truth (fun N8=>nV N8 B) (by walk_at"b1");have g_is_number:=E.fb q_is_number (fun NK=>uK NK T g_is_whole_within) (by walk_at"b1");have g_is_name:=E.fb q_is_name (fun JG=>wL JG T B) (by walk_at"b1");have g_is_byte:=E.fb q_is_byte (fun Tl=>jC Tl T g_is_whole_within) (by walk_at"b1");have g_is_body:=E.fb q_is_body (fun Tq=>SN Tq T B g_is_byte) (by walk_at"b1");have g_is_width:=E.fb q_is_width (fun N7=>wM N7 T g_is_whole_within) (by walk_at"b1");have g_are_widths:=E.fb (sp:=II K) q_are_widths (fun Nt=>tJ Nt T B g_is_width) (by walk_at"b1");have g_are_shared_parts:=E.fb q_are_shared_parts (fun Jd=>Sl Jd g_is_number g_is_name g_is_body g_is_truth) (by walk_at"b5");have g_is_place:=E.fb q_is_place (fun NZ=>mD NZ T g_is_whole) (by walk_at"b1");have g_has_room:=E.fb q_has_room (fun NW=>vQ NW T) (by walk_at"b3");obtain⟨a_Letter_init,i_Letter_init,_,_,_,_,_,_,_,_,_,l_Letter_init,c_Letter_init,_,_,_,t_Letter_init⟩:=q_Letter_init;have o_Letter:WQ l.prog w K mg base Jr 6 f_Letter_init _ ["self","number","sender","goal","body","keep"] (BN C_Letter):=jW ⟨_,_,_,_,_,_,_,_,_,_,rfl,l_Letter_init,c_Letter_init⟩ L B g_are_shared_parts;have M_Letter:Mk K C_Letter f_Letter_init:=⟨qc_Letter.2.2.1,a_Letter_init,i_Letter_init,qc_Letter.2.2.2.1⟩;have i_Letter:Di l.prog w K mg base "Letter" C_Letter 6 ["self","number","sender","goal","body","keep"] [] (BN C_Letter):=⟨_,_,[],o_Letter,E.of qc_Letter.1,M_Letter,(fun s us kx hl=>by rw[List.append_nil]at hl ⊢;obtain⟨_,_,_,_,_,_,rfl⟩:=KA hl;exact wN kx t_Letter_init),.nil⟩
 have i_Letter_d1:Di l.prog w K mg base "Letter" C_Letter 6 ["self","number","sender","goal","body","keep"] [.bl false] (BN C_Letter):=⟨_,_,[.bool false],o_Letter,E.of qc_Letter.1,M_Letter,(fun s us kx hl=>by obtain⟨u0,u1,u2,u3,u4,rfl⟩:=ZA hl;exact SW kx t_Letter_init),.cons rfl .nil⟩
 obtain⟨a_Piece_init,i_Piece_init,_,_,_,_,_,_,_,_,_,l_Piece_init,c_Piece_init,_,_,_,t_Piece_init⟩:=q_Piece_init;have o_Piece:WQ l.prog w K mg base Jr 6 f_Piece_init _ ["self","number","sender","goal","at","body","more","keep"] (Br C_Piece):=Zv ⟨_,_,_,_,_,_,_,_,_,_,rfl,l_Piece_init,c_Piece_init⟩ LP B g_are_shared_parts g_is_place g_is_truth g_has_room;have M_Piece:Mk K C_Piece f_Piece_init:=⟨qc_Piece.2.2.1,a_Piece_init,i_Piece_init,qc_Piece.2.2.2.1⟩;have i_Piece:Di l.prog w K mg base "Piece" C_Piece 6 ["self","number","sender","goal","at","body","more","keep"] [] (Br C_Piece):=⟨_,_,[],o_Piece,E.of qc_Piece.1,M_Piece,(fun s us kx hl=>by rw[List.append_nil]at hl ⊢;obtain⟨_,_,_,_,_,_,_,_,rfl⟩:=nY hl;exact yC kx t_Piece_init),.nil⟩
 have i_Piece_d1:Di l.prog w K mg base "Piece" C_Piece 6 ["self","number","sender","goal","at","body","more","keep"] [.bl false] (Br C_Piece):=⟨_,_,[.bool false],o_Piece,E.of qc_Piece.1,M_Piece,(fun s us kx hl=>by obtain⟨u0,u1,u2,u3,u4,u5,u6,rfl⟩:=Zw hl;exact Zz kx t_Piece_init),.cons rfl .nil⟩
 have m_Piece_key:=E.mb (sp:=Hz C_Piece) qc_Piece q_Piece_key (fun JU=>xD JU LP) (by walk_at"b1");have g_full_length:=E.fb q_full_length (fun Nj=>yX Nj T) (by walk_at"b1");have g_part_of:=E.fb (sp:=IG C_Piece) q_part_of (fun NM=>vK NM B LP (Qg i_Piece)) (by walk_at"b3");have g_cut_again:=E.fb (sp:=CQ C_Piece) q_cut_again (fun JV=>vM JV B LP g_is_width g_full_length g_part_of) (by walk_at"b2");have g_cut:=E.fb (sp:=Hf C_Letter C_Piece) q_cut (fun Gx=>QZ Gx L (Qg i_Piece) g_cut_again) (by walk_at"b2");have g_all_cut_again:=E.fb (sp:=Ib C_Piece) q_all_cut_again (fun JZ=>jK JZ g_cut_again) (by walk_at"b2");have g_cut_over:=E.fb (sp:=Kn C_Piece) q_cut_over (fun NY=>vE NY g_all_cut_again) (by walk_at"b2");have g_are_lost:=E.fb (sp:=IA K) q_are_lost (fun NX=>mK NX B g_is_whole_from) (by walk_at"b1");obtain⟨a_Road_init,i_Road_init,_,_,_,_,_,_,_,_,_,l_Road_init,c_Road_init,_,_,_,t_Road_init⟩:=q_Road_init;have o_Road:WQ l.prog w K mg base Jr 5 f_Road_init _ ["self","widths","delay","lost"] (RF C_Road):=SC ⟨_,_,_,_,_,_,_,_,_,_,rfl,l_Road_init,c_Road_init⟩ LR B g_are_widths g_is_whole_from g_are_lost;have M_Road:Mk K C_Road f_Road_init:=⟨qc_Road.2.2.1,a_Road_init,i_Road_init,qc_Road.2.2.2.1⟩;have i_Road:Di l.prog w K mg base "Road" C_Road 5 ["self","widths","delay","lost"] [] (RF C_Road):=⟨_,_,[],o_Road,E.of qc_Road.1,M_Road,(fun s us kx hl=>by rw[List.append_nil]at hl ⊢;obtain⟨_,_,_,_,rfl⟩:=Og hl;exact wR kx t_Road_init),.nil⟩
 have i_Road_d1:Di l.prog w K mg base "Road" C_Road 5 ["self","widths","delay","lost"] [.non] (RF C_Road):=⟨_,_,[.none],o_Road,E.of qc_Road.1,M_Road,(fun s us kx hl=>by obtain⟨u0,u1,u2,rfl⟩:=S8 hl;exact ZV kx t_Road_init),.cons rfl .nil⟩
 have ck_Road:C9 l.prog w K mg base "Road" "lost" 5 (RE C_Road):=Zt o_Road m_Road M_Road (fun s us u kx hl=>by obtain⟨_,_,_,rfl⟩:=Gj (Nat.succ.inj hl);exact Sk kx t_Road_init)
 have i_Post:=E.kb qc_Post q_Post_init (fun F=>tU (CRo:=C_Road) (CP:=C_Piece) F LPo) (by walk_at"b1");have m_Post_check_time:=E.mb (sp:=BX C_Post C_Road C_Piece) qc_Post q_Post_check_time (fun Jl=>nA Jl LPo g_is_whole_from) (by walk_at"b2");have m_Post_roads:=E.mb (sp:=BD C_Post C_Road C_Piece) qc_Post q_Post_roads (fun J5=>vU J5 LPo B2) (by walk_at"b1");have m_Post_on_the_way:=E.mb (sp:=CJ C_Post C_Road C_Piece) qc_Post q_Post_on_the_way (fun Jk=>QA Jk LPo B) (by walk_at"b1");have m_Post_next_time:=E.mb (sp:=AB C_Post C_Road C_Piece) qc_Post q_Post_next_time (fun Jc=>Z7 Jc LPo B) (by walk_at"b1");have m_Post_are_built:=E.mb (sp:=F2 C_Post C_Road C_Piece) qc_Post q_Post_are_built (fun JR=>jM JR LPo B g_is_name) (by walk_at"b2");have m_Post_build:=E.mb (sp:=AZ C_Post C_Road C_Piece) qc_Post q_Post_build (fun Jq=>xW Jq LPo B m_Road ic_Road cl_Road g_is_name) (by walk_at"b3");have m_Post_put_on_road:=E.mb (sp:=HN C_Post C_Road C_Piece) qc_Post q_Post_put_on_road (fun JF=>ZM JF LPo LR) (by walk_at"b3");have m_Post_loads_of:=E.mb (sp:=Il C_Post C_Road C_Piece) qc_Post q_Post_loads_of (fun JY=>vV JY LPo LR B B3 g_cut_over) (by walk_at"b3");have m_Post_send:=E.mb (sp:=Kc C_Post C_Road C_Piece C_Letter) qc_Post q_Post_send (fun NH=>ZP NH LPo LR L B m_Letter ic_Letter ne_cr ne_cp g_cut m_Post_check_time m_Post_are_built m_Post_loads_of m_Post_put_on_road) (by walk_at"b5");have m_Post_fetch:=E.ma (sp:=Cy C_Post C_Road C_Piece tL_Post_fetch) qc_Post q_Post_fetch (fun FA_Post_fetch=>xH FA_Post_fetch LPo B2 LC_Post_fetch ne_cr ne_cp m_Post_check_time) (by walk_at"b2");have g_cell_at:=E.fb (sp:=Ke K) q_cell_at (fun Jy=>Zr Jy B) (by walk_at"b2");have g_mixed:=E.fb q_mixed (fun Je=>j0 Je) (by walk_at"b2");have gl_mixed:=nG g_mixed;have g_digits:=E.fb q_digits (fun NF=>ZQ NF B gl_mixed) (by walk_at"b2");have g_key:=E.fb q_key (fun MJ=>SO MJ) (by walk_at"b1");have g_lawbody:=E.fb q_lawbody (fun Tr=>Zq Tr B gl_mixed) (by walk_at"b2");have g_lawcut:=E.fb q_lawcut (fun NI=>uI NI B) (by walk_at"b5");have g_lawover:=E.fb q_lawover (fun Tk=>jA Tk g_lawcut) (by walk_at"b2");have g_lawwidths:=E.fb q_lawwidths (fun NE=>yF NE B) (by walk_at"b2");have g_lawbare:=E.fb (sp:=Kk C_Post C_Road C_Piece tL_Post_fetch) q_lawbare (fun Ti=>ZB Ti m_Post_roads m_Post_on_the_way m_Post_fetch m_Post_next_time) (by walk_at"b1");have g_lawlate:=E.fb (sp:=HJ C_Post C_Road C_Piece) q_lawlate (fun Te=>mH Te B B2 g_mixed (KU i_Road) m_Post_roads m_Post_build) (by walk_at"b3");have g_lawroads:=E.fb (sp:=FZ C_Post C_Road C_Piece) q_lawroads (fun NV=>jX NV B LPo LR gl_mixed g_digits g_lawwidths (KU i_Road) ck_Road (Sa i_Road_d1) (Ol i_Post) m_Post_build) (by walk_at"b3");have g_lawsent:=E.fb q_lawsent (fun Tn=>tD Tn B g_lawcut g_lawover) (by walk_at"b6");have g_lawfetched:=E.fb q_lawfetched (fun Nq=>xS Nq B B2 B7) (by walk_at"b2");have g_lawplain:=E.fb (sp:=Iz C_Piece) q_lawplain (fun NU=>xZ NU LP (OM m_Piece_key)) (by walk_at"b1");have g_lawdeed:=E.fb (sp:=FT K C_Post C_Road C_Piece tL_Post_fetch) q_lawdeed (fun Tp=>w6 Tp B B2 LPo LP ne_cp g_key g_lawfetched g_lawplain g_lawsent (OM m_Piece_key) m_Post_fetch m_Post_send (vJ i_Letter)) (by walk_at"b5");exact xX (CL:=C_Letter) Bm B B2 LPo g_cell_at gl_mixed g_digits g_key g_lawbody (Ol i_Post) g_lawbare g_lawroads g_lawlate g_lawdeed m_Post_roads m_Post_on_the_way m_Post_next_time
theorem Ze{l:W.OpenLaw}{q:Wt}{loose:List Str}{XP:(Str->Option Value)->Heap->Prop}{YP:World->Heap->Prop}{d:DefRec}{K:Params->W.Frag}{ts:List Addr}(hn:l.most=some 63)(hdf:d.params.defaults=[])
  (hY:∀ (w:Wx) (h:WD),YP w h->(K w.params).In h) (hT:∀ (w:Wx) (h:WD),YP w h->∀P∈ts,h.get? P=some (W.tabObj #[]))
  (F:∀ (w:Wx) (mg:Wp) (fa:WA) (h:WD),(K w.params).In h->h.Ns mainGlobals mg->mg d.name=some (.ref fa)->∃ (c1 T1:WA) (fd:Wv),T1∈ts/\W.codeHdIn (K w.params) c1 T1=true/\W.noTabs (K w.params)=true/\(∀ (s:Wu) (v:Wz),BindsTo s fd ⟨[v],[]⟩ [("_law_script",v)])/\∀base:Heap,W.Frag.In (K w.params) base->base.Ns mainGlobals mg->Gv mg base c1 T1->WQ l.prog w (K w.params) mg base Jr 17 fa fd ["_law_script"] (Cm (K w.params) T1)):
  W.WalkO q loose XP YP l.row.toRowW d [] (fun f vs=>PySem.call f vs):=
 L2.EU (n:=63) (k:=17) (x:="_law_script") (sp:=fun w T1=>Cm (K w.params) T1) hn (by decide) hdf ⟨rfl,by decide,by decide⟩ hY hT F fun _ _ _ a b g h1 c=>⟨a,b,rfl,c,⟨#[],h1,trivial,fun pos i e=>by cases e⟩,fun _=>rfl⟩
end Mine
namespace PySem.W.Fast
def tw17600417524531375042:=()
def tw2106870596035758875:=()
def tw5460257153529616525:=()
def tw10114740951419169225:=()
def tw6435250926982209775:=()
def tw11995217554934292602:=()
def tw440963472695224648:=()
def tw3133700965565170578:=()
def tw9367403714674284881:=()
def tw11676097705178073236:=()
def tw16097457588205627801:=()
def tw15843125906364349815:=()
def tw17257864443553824027:=()
def tw6037822571309625884:=()
def tw8709169957193737254:=()
def tw11400800141542153861:=()
def tw14256475797255589306:=()
def tw2738562523079294730:=()
def tw9832487556457974818:=()
def tw6943153768369344138:=()
def tw11295777542983382855:=()
def tw4544473465977582134:=()
def tw5940442356815405981:=()
def tw3005456240698610764:=()
def tw8196704561289652552:=()
def tw16852396766522868036:=()
def tw793605922828245489:=()
def tw3406158303714711255:=()
def tw8389731064346874388:=()
def tw15488350915212137866:=()
def tw13431795650057336973:=()
def tw17512191180233194181:=()
def tw4988959950102500390:=()
def tw15679821448150648045:=()
def tw12711580802671217449:=()
def tw11186336563176696337:=()
def tw10405152243608520749:=()
def tw5132857110960223980:=()
def tw13544049267703631472:=()
def tw9484010993045902948:=()
def tw11099330992414422545:=()
def tw13431828893252130791:=()
def tw1642960282237951317:=()
def tw13013256246482129852:=()
def tw517326092382018144:=()
def tw6476622630012689190:=()
def tw6616006787419298335:=()
def tw13034816842178795281:=()
def tw12610376691213151055:=()
def tw10455666525105417393:=()
def tw13056600404952648376:=()
def tw3037467403697819644:=()
def tw3330310009376678581:=()
def tw12273086417871598442:=()
def tw12279845219379269928:=()
def tw16051731585874184303:=()
def tw14673285550113702178:=()
def tw17796869960260060349:=()
def tw995043582845568584:=()
def tw10755687545582579549:=()
def tw6641557122095782776:=()
def tw16818887234114882697:=()
def tw8933610088710206801:=()
def tw5652959651463561600:=()
def tw7213453601798228767:=()
def tw13705134534029087108:=()
def tw7043815884948599832:=()
def tw14710573268975013828:=()
def tw10241305363442487053:=()
def tw8764523980361534784:=()
def tw11322510816752384907:=()
def tw1664224103775208164:=()
def tw11687803295105047430:=()
def tw8931969058284469337:=()
def tw14233417211133241451:=()
def tw11099015499815240182:=()
def tw751044479999232064:=()
def tw12852056374839296112:=()
def tw12877413965918569237:=()
def tw3964606938742770584:=()
def tw7458235761919038557:=()
def tw11695358932118675238:=()
def tw2066853380650863245:=()
def tw15714265695306568394:=()
def tw9014787957641968938:=()
def tw5184483802622445177:=()
def tw4734272520889649258:=()
def tw1159201506804118512:=()
def tw8028750826474077915:=()
def tw10042861144438692621:=()
def tw6744617255368903670:=()
def tw11555249022415441929:=()
def tw13691498877957444944:=()
def tw7893826559008391404:=()
def tw6822790295388909819:=()
def tw1363520477991314785:=()
def tw12232393924759763560:=()
def tw8762580895277412217:=()
def tw13669316984499661290:=()
def tw14942588858226885659:=()
def tw10837438369747989984:=()
def tw18229760122779828549:=()
def tw12796607738209381849:=()
def tw15949285085094873036:=()
def tw15954539818928128508:=()
def tw3823463228594635777:=()
def tw15394684617389907608:=()
def tw10028467008302411029:=()
def tw14365634150043446895:=()
def tw512859409124769726:=()
def tw15887242213943003114:=()
def tw6291666904273668179:=()
def tw6532295641098188390:=()
def tw17981950723518478848:=()
def tw15911501757477869102:=()
def tw3897474442779695567:=()
def tw7980217682517678402:=()
def tw8318585949942191651:=()
def tw16322150246609194060:=()
def tw16210370982754715128:=()
def tw6557534603250900338:=()
def tw827468100209493735:=()
def tw6165818052872135142:=()
def tw10184707427946391625:=()
def tw17395435168433391229:=()
def tw13312749866734124555:=()
def tw14938558141716985422:=()
def tw10295726922869655434:=()
def tw7130468036015604935:=()
def tw4899129121308137555:=()
def tw1909800548119574255:=()
def tw14264286516969946531:=()
def tw14130800181113100569:=()
def tw11046740161236416131:=()
def tw9502464298018630855:=()
def tw7183299899808176777:=()
def tw5486188529067746400:=()
def tw2594832155730900881:=()
def tw7521226347359657969:=()
def tw11503282455760887053:=()
def tw11318698933945979397:=()
def tw6272364020059459157:=()
def tw730813967687405474:=()
def tw16985411133765200635:=()
def tw12420008456756321537:=()
def tw11778107040130786865:=()
def tw14825518620896667225:=()
def tw10972593598331417753:=()
def tw6285398334446342279:=()
def tw10446712520101640700:=()
def tw16384784411078375775:=()
def tw10975342009113372666:=()
def tw12584398090066916863:=()
def tw16664299276129685512:=()
def tw549192842721348334:=()
def tw5057952048612288875:=()
def tw9716620617784918066:=()
def tw13470011542787537257:=()
def tw3589989554416561404:=()
def tw8745255698975146337:=()
def tw5400184290484002931:=()
def tw17123925487217586821:=()
def tw7389378453076836601:=()
def tw12408702356654292540:=()
def tw1362706044660721227:=()
def tw5600664675383472825:=()
def tw4833632554902873686:=()
def tw15136996139419732395:=()
def tw5079885471572426494:=()
def tw2882669404104505071:=()
def tw8201038819275322703:=()
def tw10150037428065501211:=()
def tw5800298549936712901:=()
def tw14514268871078991974:=()
def tw14233251036106981073:=()
def tw12356723343757069548:=()
def tw9937424179606805674:=()
def tw15518975323977351628:=()
def tw14293281018182596241:=()
def tw15362607119076953149:=()
def tw14176158541173043033:=()
def tw15021122451866503446:=()
def tw16005091576207956514:=()
def tw8133494509030051144:=()
def tw15997913733541857069:=()
def tw792780185774210659:=()
def tw9764029310334438819:=()
def tw9611302366876862226:=()
def tw8951363083995787013:=()
def tw7531466714931992682:=()
def tw5529185387782805597:=()
def tw11028135210294365830:=()
def tw3653078156989864683:=()
def tw8883943783277667418:=()
def tw17825301210471170956:=()
def tw12617722015036617197:=()
def tw6048241944675354746:=()
def tw81785423689978545:=()
def tw9399789176855133915:=()
def tw8826835948879795669:=()
def tw8129784509939403514:=()
def tw8832724921358976687:=()
def tw15793406621456540582:=()
def tw8739393936643895488:=()
def tw15802771613611547892:=()
def tw15012385393375286904:=()
def tw4820835334098956660:=()
def tw17544724356824083786:=()
def tw4333824460390130628:=()
def tw8051055796527037659:=()
def tw14716569610036175169:=()
def tw15254868176310002946:=()
def tw13851354477765672808:=()
def tw15476826919539504121:=()
def tw11447736294344812583:=()
def tw933081810833436963:=()
def tw12611664583561289655:=()
def tw18229989661022707005:=()
def tw9215838784608172923:=()
def tw12960163358095253950:=()
def tw11453837171831527528:=()
def tw18121606830701204490:=()
def tw9947355762779137258:=()
def tw16417825825670705512:=()
def tw8071311481109987063:=()
def tw1781419695003438671:=()
def tw16472998941558936049:=()
def tw661062363025800431:=()
def tw14960872395875963211:=()
def tw4005717511695648165:=()
def tw7391944672727634296:=()
def tw7401469723510822025:=()
def tw5689822592439704303:=()
def tw1806402851803138790:=()
def tw3656861655634442680:=()
def tw2357931820229022514:=()
def tw9376068611020412187:=()
def tw1269275459129366858:=()
def tw11539885212789688413:=()
def tw2493818354824542667:=()
def tw10277278377799883615:=()
def tw17200440535170723314:=()
def tw6524957239320289408:=()
def tw17843045639741375199:=()
def tw3368228272119544897:=()
def tw8407965838265051671:=()
def tw2263105809044888076:=()
def tw8671808761839364100:=()
def tw15564059460183101446:=()
def tw11168503026916494401:=()
def tw2923991517496887596:=()
def tw638373639645156286:=()
def tw799120418505173924:=()
def tw10689957364393616421:=()
def tw5416398838590367400:=()
def tw3648164518952654867:=()
def tw14440935963977260945:=()
def tw13475039109332979589:=()
def tw1384216889608187497:=()
def tw10740924742723147592:=()
def tw14719561902887767490:=()
def tw10501665774707936584:=()
def tw18433228437346371167:=()
def tw10773697233927849764:=()
def tw8013798378894121226:=()
def tw8712076358788378068:=()
def tw7096403424753810558:=()
def tw2339030742258703822:=()
def tw4756670779768839116:=()
def tw9776862850828706604:=()
def tw3765569565983568480:=()
def tw7206298394096394469:=()
def tw13232242217884296291:=()
def tw2901313298468206183:=()
def tw3610724834936665996:=()
def tw16706783356268661412:=()
def tw15451218428036326110:=()
def tw5185031322189361996:=()
def tw11655286713335112257:=()
def tw4725005799858552236:=()
def tw14282204586321882789:=()
def tw6536925993997053433:=()
def tw8893864408204815697:=()
def tw828081148382968624:=()
def tw14406408189468797854:=()
def tw17434482584725485080:=()
def tw3763703138905424509:=()
def tw4827596062931223563:=()
def tw18070415598359577619:=()
def tw10272235181621578908:=()
def tw17150739448991777089:=()
def tw16604399309575858128:=()
def tw7197926857765694723:=()
def tw5615696447316431534:=()
def tw9022391949503831469:=()
def tw67592440103624361:=()
def tw3602262084957189516:=()
def tw12908222379072869344:=()
def tw12250657987397216423:=()
def tw14037586345472564718:=()
def tw8465766413607420673:=()
def tw2844870496032114754:=()
def tw17961161118397627833:=()
def tw8031698205951652846:=()
def tw14077623879828666126:=()
def tw11476739031856284209:=()
def tw3373694457936770701:=()
def tw13247379029737742696:=()
def tw11124689247583252472:=()
def tw4759529213651856908:=()
def tw14462006463021263252:=()
def tw11494333516974949720:=()
def tw16233320358910093202:=()
def tw5062913482298712673:=()
def tw7794524236230207630:=()
def tw8421494007142731446:=()
def tw14455425010410876327:=()
def tw14799677234083904691:=()
def tw16583016486208663421:=()
def tw372443995888023215:=()
def tw691334149673404421:=()
def tw12166779636728629420:=()
def tw3286682729377175166:=()
def tw6713467689338288440:=()
def tw2968824019235702941:=()
def tw4093315708096236519:=()
def tw10841483494199034368:=()
def tw18198163788155007653:=()
def tw11476785458579703755:=()
def tw1034218820674553183:=()
def tw7869119836132217646:=()
def tw2353785674180073575:=()
def tw13435531444757812184:=()
def tw5049694298287940329:=()
def tw18061960153866886558:=()
def tw1598038048089695611:=()
def tw4767078851006821796:=()
def tw10100218748462158813:=()
def tw16682753365667289147:=()
def tw6945268912490376301:=()
def tw17262679533980752660:=()
def tw4101160713785295577:=()
def tw453996058722592520:=()
def tw13645117086339164418:=()
def tw10291965920263443982:=()
def tw12376832212699631563:=()
def tw17511389990437032075:=()
def tw3916452773193333291:=()
def tw16368045105189013941:=()
def tw11411601384117983664:=()
def tw6902191676386266741:=()
def tw6551435735202311718:=()
def tw9942532467866979933:=()
def tw18439456930366702614:=()
def tw15465842464543135165:=()
def tw16060536632614794865:=()
def tw9755530498562706653:=()
def tw11739849874038471934:=()
def tw6504788478889708647:=()
def tw9913496459014971275:=()
def tw17137861091857742179:=()
def tw3711531812391818544:=()
def tw14682650743231413624:=()
def tw2024017122306421995:=()
def tw8513217774391847335:=()
def tw343874890857118232:=()
def tw14779708121740231928:=()
def tw2183738533444037793:=()
def tw3669359737158572053:=()
def tw3045898444976840735:=()
def tw298269844141154566:=()
def tw12031485131330423568:=()
def tw3774668537197728239:=()
def tw76916561410339207:=()
def tw17085544868616433728:=()
def tw7741637846854335148:=()
def tw8786124892627018287:=()
def tw12669403763475173811:=()
def tw14571044674394515981:=()
def tw4958560024897133237:=()
def tw4174608155400749304:=()
def tw8856888479815353746:=()
def tw9815896890280362880:=()
def tw12712885782451173267:=()
def tw12766656218704201342:=()
def tw10524767153400787796:=()
def tw3212262094583367702:=()
def tw5745831497681653619:=()
def tw2872482363559421095:=()
def tw16556908640311822515:=()
def tw16264451299564440954:=()
def tw10576714962904708680:=()
def tw14769084219971602166:=()
def tw3635606821828201334:=()
def tw15592217800727542362:=()
def tw2823351555060307259:=()
def tw11489637644436550886:=()
def tw10265215517607335796:=()
def tw165555629972210452:=()
def tw11956788530321629466:=()
def tw2730547576253749900:=()
def tw7016518910190625914:=()
def tw3272207049083312237:=()
def tw10091217608633931666:=()
def tw2815172674967154739:=()
def tw8465011766826833584:=()
def tw11898257565852894017:=()
def tw9944568804606249630:=()
def tw5011027243945593665:=()
def tw15972765229572147277:=()
def tw4775797103221411923:=()
def tw11292815994578625582:=()
def tw15591699160076022227:=()
def tw18410945646122449739:=()
def tw6211625828963948760:=()
def tw6426003519817862028:=()
def tw5856146014069661793:=()
def tw14022057523780438652:=()
def tw8847831569887560159:=()
def tw8566365362153446246:=()
end PySem.W.Fast
open PySem PySem.W PyProof.Rows
local macro_rules | `(tactic| walk_at"kf") => `(tactic| exact ⟨by k_is, _, _, _, _, _, _, _, _, _, by k_is, by k_is, by k_is⟩)
local macro_rules | `(tactic| walk_at"km") => `(tactic| exact ⟨by k_is, by k_is, _, _, _, _, _, _, _, _, _, by k_is, by k_is, by k_is⟩)
local macro_rules | `(tactic| walk_at"kd") => `(tactic| exact ⟨by k_is, by k_is, _, _, _, _, _, _, _, _, _, by k_is, by k_is, _, _, _, by k_is⟩)
local macro_rules | `(tactic| walk_at"kc") => `(tactic| exact ⟨by k_is, ⟨by k_is, by k_is, by k_is, by k_is⟩, by k_is, by k_is, ⟨by k_is, by k_is, by k_is, by k_is⟩⟩)
local macro_rules | `(tactic| walk_at"kn") => `(tactic| (repeat (first | exact trivial | refine ⟨by k_is, ?_⟩)))
local macro_rules | `(tactic| walk_at"kma") => `(tactic| exact ⟨by k_is, by k_is, _, _, _, _, _, _, _, _, by k_is, by k_is, by k_is, ⟨_, _, _, _, by k_is, by exact rfl⟩, by kernel_rfl⟩)
local macro_rules | `(tactic| walk_at"kt") => `(tactic| kernel_rfl)
local macro_rules | `(tactic| walk_at"ke") => `(tactic| decide)
set_option maxRecDepth 100000 in
set_option maxHeartbeats 0 in
theorem PySem.Challenge.cw_pieceways_k71_a_post_by_a_model_holds : PySem.Challenge.rw_pieceways_k71_a_post_by_a_model.Holds := by
 w_on;o_law;k_head;(case hw=>w_witness2)
 k_fill
 refine Mine.Ze (l:=PySem.Challenge.rw_pieceways_k71_a_post_by_a_model) rfl rfl (fun w h Y=>PySem.W.km_in_of Y) (fun w h Y=>PySem.W.km_tabs_of Y) ?F
 case F=>
  intro w mg fa h KX G hmg;exact Mine.Ks KX G hmg (by walk_at"kf") (by walk_at"kf") (by walk_at"kf") (by walk_at"kf") (by walk_at"kf") (by walk_at"kf") (by walk_at"kf") (by walk_at"kf") (by walk_at"kf") (by walk_at"kf") (by walk_at"kf") (by walk_at"kf") (by walk_at"kf") (by walk_at"kf") (by walk_at"kf") (by walk_at"kf") (by walk_at"kf") (by walk_at"kf") (by walk_at"kf") (by walk_at"kf") (by walk_at"kf") (by walk_at"kf") (by walk_at"kf") (by walk_at"kf") (by walk_at"kf") (by walk_at"kf") (by walk_at"kf") (by walk_at"kf") (by walk_at"kf") (by walk_at"kf") (by walk_at"kf") (by walk_at"kf") (by walk_at"kf") (by walk_at"kf") (by walk_at"kf") (by walk_at"kf") (by walk_at"kc") (by walk_at"kn") (by walk_at"kd") (by walk_at"kc") (by walk_at"kn") (by walk_at"km") (by walk_at"kd") (by walk_at"kc") (by walk_at"kn") (by walk_at"kd") (by walk_at"kc") (by walk_at"kn") (by walk_at"km") (by walk_at"km") (by walk_at"km") (by walk_at"km") (by walk_at"km") (by walk_at"km") (by walk_at"km") (by walk_at"km") (by walk_at"km") (by walk_at"kma") (by walk_at"ke") (by walk_at"km") ⟨⟨_,by k_is⟩,⟨_,by k_is⟩,⟨_,by k_is⟩,⟨_,by k_is⟩,⟨_,by k_is⟩,⟨_,by k_is⟩,⟨_,by k_is⟩,⟨_,by k_is⟩,trivial⟩ (by walk_at"kn") (by walk_at"kt") (by walk_at"ke") (by walk_at"ke")
