import PyProof.Rows.All
import Wide.All
import OpenK.AllK
import Wide.FinOn
import Lean
import PyProof.EqAt
import PyProof.EqKinds
import PyProof.TupleCall
import OpenK.KOwn
import KE.KIsAll
import KE.KLam
import KE.KEqDict
import PySem.Challenge.RW_pieceways_k43_great_letters
set_option Elab.async false
set_option linter.all false
set_option maxRecDepth 100000
set_option compiler.extract_closed false
noncomputable section
theorem hide_{G:Prop}(h:∀N:Prop,(G->N)->N):G:=h G id
local macro_rules|`(tactic|obtain $p:rcasesPatMed := $e:term)=>`(tactic|first|((refine hide_ fun N hN=>?_;rcases $e:term with $p)<;>(refine hN ?_;clear hN;clear N))|rcases $e:term with $p)
set_option bootstrap.genMatcherCode false
local macro_rules|`(command|def $n:declId $s:optDeclSig $v:declVal)=>`(command|noncomputable def $n:declId $s:optDeclSig $v:declVal)
def Y0:=@List.length_map
def Y1:=@PySem.wpAny_bind
def Y2:=@if_neg
def Y3:=@if_pos
def Y4:=@List.getElem?_eq_some_iff
def Y5:=@Nat.le_refl
def Y6:=@List.getElem?_eq_getElem
def Y7:=@PySem.Heap.get?_push_of_some
def Y8:=@List.mem_singleton
def Y9:=@decide_eq_true_eq
def Ya:=@List.mem_map
def Yb:=@PyProof.Rows.wpS_bind
def Yc:=@List.getElem?_map
def Yd:=@List.size_toArray
def Ye:=@PySem.wpAny_pure
def Yf:=@Bool.false_ne_true
def Yg:=@Nat.lt_of_le_of_lt
def Yh:=@PyProof.Rows.wpS_pure
def Yi:=@List.mem_cons_of_mem
def Yj:=@List.mem_append
def Yk:=@PySem.Heap.lt_size
def Yl:=@PySem.Heap.get?_push_size
def Ym:=@PySem.sizeLine_eq
def Yn:=@List.map_append
def Yo:=@List.pairwise_append
def Yp:=@List.mem_cons
def Yq:=@decide_eq_true
def Yr:=@Nat.ne_of_lt
def Ys:=@List.mem_cons_self
def Yt:=@decide_eq_false
def Yu:=@List.length_take
def Yv:=@List.mem_append_right
def Yw:=@List.mem_of_getElem?
def Yx:=@Nat.lt_of_lt_of_le
def Yy:=@Nat.zero_le
def Yz:=@Bool.eq_iff_iff
def YA:=@Option.map_eq_some_iff
def YB:=@List.length_range
def YC:=@List.mem_iff_getElem?
def YD:=@List.take_of_length_le
def YE:=@List.getElem?_take
def YF:=@PySem.wpAny_mono
def YG:=@List.mem_append_left
def YH:=@Nat.le_trans
def YI:=@List.nodup_cons
def YJ:=@Int.le_refl
def YK:=@List.take_succ_eq_append_getElem
def YL:=@PySem.F.plainAttrs_list
def YM:=@List.map_map
def YN:=@List.getElem?_drop
def YO:=@List.drop_eq_getElem_cons
def YQ:=@List.length_drop
def YR:=@Bool.and_eq_true
def YS:=@PySem.F.slot_list_append
def YT:=@PySem.F.type_list_append
def YU:=@List.find?_cons
def YV:=@List.map_congr_left
def YW:=@PyProof.Rows.wpS_forRange
def YX:=@List.mem_of_mem_take
def YY:=@Classical.byContradiction
def YZ:=@List.mem_filter
def X0:=@congrArg
def X1:=@decide_false
def X2:=@Nat.mul_le_mul_left
def X3:=@decide_true
def X4:=@PySem.PassesOwn.never
def X5:=@PySem.F.slot_dict_keyiterator_next
def X6:=@Int.toNat_natCast
def X7:=@of_decide_eq_true
def X8:=@Nat.lt_irrefl
def X9:=@decide_eq_false_iff_not
def Xa:=@List.pairwise_singleton
def Xb:=@List.getElem?_append_right
def Xc:=@List.mem_range
def Xd:=@List.reverse_perm
def Xe:=@beq_eq_false_iff_ne
def Xf:=@PySem.mem_of_lookup
def Xg:=@List.pairwise_iff_getElem
def Xh:=@List.length_filter_le
def Xi:=@List.all_eq_true
def Xj:=@List.take_length
def Xk:=@PyProof.Rows.wpS_mono
def Xl:=@List.pairwise_cons
def Xm:=@List.mem_of_mem_drop
def Xn:=@PySem.wpAny_truthy_bool
def Xo:=@Bool.not_eq_true'
def Xp:=@PyProof.Rows.KeyOrd.kle_refl
def Xq:=@PySem.Heap.SameBut.update
def Xr:=@Nat.zero_add
def Xs:=@PySem.wpAny_holding
def Xt:=@List.getElem?_eq_none
def Xu:=@List.pairwise_reverse
def Xv:=@Nat.le_of_lt
def Xw:=@Option.isSome_iff_exists
def Xx:=@PySem.wpAny_loadPart'
def Xy:=@List.getElem?_append
def Xz:=@List.nodup_append
def XA:=@Bool.eq_false_iff
def XB:=@PySem.Heap.get?_push_ne
def XC:=@PySem.wpAny_typeNameOfWhole_keyiter
def XD:=@List.getElem?_range
def XE:=@Bool.false_and
def XF:=@PySem.wpAny_call_entry
def XG:=@Eq.symm
def XH:=@PyProof.Rows.callWith_type1
def XI:=@PySem.wpAny_Call_Name_kw
def XJ:=@PySem.tupleKind_room_in1
def XM:=@PySem.wpAny_passesOwn
def XN:=@List.Perm.append_left
def XO:=@List.any_cons
def XQ:=@List.getD_eq_getElem?_getD
def XR:=@PySem.wpAny_pyIter_list
def XS:=@Nat.lt_succ_of_lt
def XT:=@PySem.wpAny_dictEntries
def XU:=@List.take_add_one
def XV:=@PySem.wpAny_rule
def XW:=@Array.getElem?_eq_getElem
def XX:=@PySem.W.kia_one
def XY:=@Nat.le_succ
def XZ:=@List.lookup_cons
def U0:=@List.filter_cons
def U1:=@Int.zero_add
def U2:=@List.filter_sublist
def U3:=@PySem.wpAny_callSpecial?_slot
def U4:=@PySem.F.plainAttrs_dict
def U5:=@PyProof.Rows.listUpdate_at
def U6:=@Bool.true_and
def U7:=@PySem.wpAny_setField_rec
def U8:=@Nat.min_eq_left
def U9:=@Sum.inl.inj
def Ua:=@List.reverse_singleton
def Ub:=@List.flatten_singleton
def Uc:=@List.eq_nil_of_length_eq_zero
def Ud:=@List.take_append_of_le_length
def Ue:=@List.take_sublist
def Uf:=@PyProof.Rows.KeyOrd.kle_of_klt
def Ug:=@List.drop_sublist
def Uh:=@List.flatten_cons
def Ui:=@List.mem_range'_1
def Uj:=@PySem.Heap.size_push
def Uk:=@PySem.codeAny_mono
def Ul:=@PySem.F.slot_enumerate_next
def Um:=@PySem.F.slot_dict_setdefault
def Uo:=@List.perm_append_comm
def Up:=@Nat.add_zero
def Uq:=@PySem.wpAny_eqBool_int
def Ur:=@PyProof.Rows.KeyOrd.kle_trans
def Us:=@PySem.Obj.data_mapDictKeys
def Ut:=@List.Sublist.map
def Uu:=@PySem.Heap.size_update
def Uv:=@PyProof.Rows.wpS_modify
def Uw:=@List.getLast?_concat
def Ux:=@Array.perm_iff_toList_perm
def Uy:=@PySem.wpAny_attempt
def Uz:=@List.flatten_append
def UA:=@List.forIn_cons
def UB:=@Prod.ext
def UC:=@PySem.F.args_dict_keyiterator_next_1
def UD:=@of_decide_eq_false
def UE:=@List.zip_cons_cons
def UF:=@List.length_range'
def UG:=@beq_iff_eq
def UH:=@PySem.F.entry_dict_keyiterator_next
def UI:=@PyProof.Rows.wpS_get
def UJ:=@PySem.wpAny_newObj_type
def UK:=@List.pairwise_map
def UL:=@List.filter_congr
def UM:=@PySem.wpAny_field
def UN:=@List.drop_of_length_le
def UO:=@List.drop_eq_nil_of_le
def UP:=@PySem.wpAny_newList
def UQ:=@List.sum_cons
def UR:=@Nat.lt_succ_self
def US:=@List.getElem_mem
def UT:=@Nat.le_add_right
def UU:=@Bool.not_eq_true
def UV:=@List.any_eq_true
def UW:=@List.length_singleton
def UX:=@PySem.Heap.get?_update_self
def UY:=@PySem.wpAny_notOrdered_dict
def UZ:=@PySem.F.slot_dict_pop
def V0:=@PySem.plainObj_wpAny_Assign_Attribute
def V1:=@PySem.wpAny_execs_nil
def V2:=@Nat.ne_of_gt
def V3:=@List.mem_iff_getElem
def V4:=@Option.map_some
def V5:=@Bool.or_eq_true
def V6:=@PySem.wpAny_pyIter_keyiter
def V7:=@List.range_eq_range'
def V8:=@Int.emod_nonneg
def V9:=@Nat.mul_le_mul_right
def Va:=@List.drop_append_of_le_length
def Vb:=@List.filterMap_cons
def Vc:=@List.filter_eq_self
def Vd:=@PySem.Heap.get?_update_ne
def Ve:=@List.map_eq_nil_iff
def Vf:=@List.nodup_nil
def Vg:=@PySem.W.kat_cons
def Vh:=@PyProof.Rows.wpS_lift
def Vi:=@PySem.F.type_dict_setdefault
def Vj:=@PyProof.Rows.seqEpoch_at
def Vk:=@Array.getD_eq_getD_getElem?
def Vl:=@List.drop_length_add_append
def Vm:=@Option.toList_some
def Vn:=@Int.emod_lt_of_pos
def Vo:=@List.find?_eq_none
def Vp:=@List.filter_append
def Vq:=@PySem.Calls.Name_function_global
def Vr:=@PySem.wpAny_standAt
def Vs:=@Bool.or_false
def Vt:=@Array.getElem?_eq_some_iff
def Vu:=@Array.toList_setIfInBounds
def Vv:=@Option.isSome_map
def Vw:=@bne_self_eq_false
def Vx:=@List.getElem?_append_left
def Vy:=@List.getElem?_eq_none_iff
def Vz:=@List.getElem?_zip_eq_some
def VA:=@PySem.Calls.call_function_entry
def VB:=@PySem.W.kat_yes
def VC:=@PySem.wpAny_eqBool_str
def VD:=@List.getElem?_take_of_lt
def VE:=@or_false
def VF:=@Array.toList_inj
def VG:=@List.mem_reverse
def VH:=@Nat.sub_self
def VI:=@Bool.eq_false_or_eq_true
def VJ:=@List.nodup_range
def VL:=@Nat.add_sub_cancel_left
def VM:=@List.of_mem_zip
def VN:=@PySem.size_of_entries
def VO:=@PySem.wpAny_dictEpoch
def VP:=@List.filter_map
def VQ:=@List.getElem?_set_self
def VR:=@PyProof.noPylong_small
def VS:=@PySem.F.slot_dict_iter
def VT:=@List.cons_lt_cons_iff
def VU:=@PySem.wpAny_newTuple
def VV:=@List.set_append_right
def VW:=@List.getElem?_toArray
def VX:=@PySem.F.type_dict_pop
def VY:=@List.getElem?_set_ne
def VZ:=@PySem.wpAny_call
def W0:=@List.replicate_succ'
def W1:=@List.dropLast_concat
def W2:=@Sum.inl.injEq
def W3:=@Sum.inr.injEq
def W4:=@List.length_pos_iff
def W5:=@PyProof.Rows.lt_str
def W6:=@List.toList_toArray
def W7:=@List.length_reverse
def W8:=@Int.toNat_of_nonneg
def W9:=@Nat.le_of_eq
def Wa:=@Int.le_of_lt
def Wb:=@List.any_nil
def Wc:=@List.not_lt
section
open PySem
abbrev Wd:=Str->Option Value
abbrev We:=Value->Shared->Prop
abbrev Wf:=Unit->Shared->Prop
abbrev Wg:=List (Addr×Obj)
abbrev Wh:=PySem.Program
abbrev Wi:=PySem.Shared
abbrev Wj:=PySem.FuncData
abbrev Wk:=PySem.Around
abbrev Wl:=PySem.World
abbrev Wm:=PySem.W.Frag
abbrev Wn:=PySem.Value
abbrev Wo:=PySem.Addr
abbrev Wp:=List Int
abbrev Wq:=List Value
abbrev Wr:=PySem.Heap
abbrev Ws:=PySem.Expr
end
namespace L2
open PySem PySem.Spec PyProof.Rows
abbrev WU:=Sum Int Str
def Ew:WU->Value->Bool
 | .inl k,v=>Value.isInt k v
 | .inr x,v=>Value.isStrOf x v
def ZE(w:Wl):WU->Int
 | .inl k=>hashInt k
 | .inr x=>hashStr w x
theorem GV:∀{k:WU} {v:Wn},Ew k v=true->(∃i t,k=Sum.inl i/\v=Value.int i t)\/(∃x t,k=Sum.inr x/\v=Value.str x t)
 | .inl i,v,h=>by
  obtain⟨t,e⟩:=Value.isInt_shape (k:=i) (v:=v) h;exact .inl ⟨i,t,rfl,e⟩
 | .inr x,v,h=>by
  obtain⟨t,e⟩:=Value.isStrOf_shape (x:=x) (v:=v) h;exact .inr ⟨x,t,rfl,e⟩
theorem SR(i:Int)(t:Tok):Ew (.inl i) (.int i t)=true:=by simp[Ew,Value.isInt]
theorem vV(x:Str)(t:Tok):Ew (.inr x) (.str x t)=true:=by simp[Ew,Value.isStrOf]
theorem tP(a b:Int):decide ((Sum.inl a:WU)=Sum.inl b)=(a==b):=by
 by_cases e:a=b
 .subst e;simp
 .have h:¬(Sum.inl a:WU)=Sum.inl b:=fun q=>e (U9 q)
  rw[Yt h];exact(Xe.mpr e).symm
theorem ZX(a b:Str):decide ((Sum.inr a:WU)=Sum.inr b)=decide (a=b):=by
 by_cases e:a=b
 .subst e;simp
 .have h:¬(Sum.inr a:WU)=Sum.inr b:=fun q=>e (Sum.inr.inj q)
  rw[Yt h,Yt e]
theorem Sy(a:Int)(b:Str):decide ((Sum.inl a:WU)=Sum.inr b)=false:=Yt (fun q=>nomatch q)
theorem v7(a:Str)(b:Int):decide ((Sum.inr a:WU)=Sum.inl b)=false:=Yt (fun q=>nomatch q)
def WY(prog:Wh)(w:Wl):PySem.KeyKind prog w WU where
 is:=Ew
 hash:=ZE w
 inj:=fun v a b ha hb=>by
  rcases GV ha with⟨i,t,rfl,rfl⟩|⟨x,t,rfl,rfl⟩
  .rcases GV hb with⟨j,u,rfl,e⟩|⟨y,u,rfl,e⟩
   .injection e with e1 _;rw[e1]
   .exact nomatch e
  .rcases GV hb with⟨j,u,rfl,e⟩|⟨y,u,rfl,e⟩
   .exact nomatch e
   .injection e with e1 _;rw[e1]
 byValue:=fun k v h=>by
  rcases GV h with⟨i,t,rfl,rfl⟩|⟨x,t,rfl,rfl⟩ <;> rfl
 pyHash:=fun hv h=>by
  rcases GV hv with⟨i,t,rfl,rfl⟩|⟨x,t,rfl,rfl⟩
  .exact wpAny_pyHash_int h
  .exact wpAny_pyHash_str h
 eqBool:=fun hu hv h=>by
  rcases GV hu with⟨i,t,rfl,rfl⟩|⟨x,t,rfl,rfl⟩
  .rcases GV hv with⟨j,u,rfl,rfl⟩|⟨y,u,rfl,rfl⟩
   .rw[tP]at h;exact Uq h
   .rw[Sy]at h;exact SeqAt.EqAt.int_str i t y u _ _ _ _ h
  .rcases GV hv with⟨j,u,rfl,rfl⟩|⟨y,u,rfl,rfl⟩
   .rw[v7]at h;exact SeqAt.EqAt.str_int x t j u _ _ _ _ h
   .rw[ZX]at h;exact VC h
 «strs»:=fun k x t v h=>by
  rcases GV h with⟨i,u,rfl,e⟩|⟨y,u,rfl,e⟩
  .exact nomatch e
  .injection e with e1 _;subst e1;cases v <;> rfl
theorem jK(prog:Wh)(w:Wl)(i:Int)(t:Tok):(WY prog w).is (.inl i) (.int i t)=true:=SR i t
theorem vE(prog:Wh)(w:Wl)(x:Str)(t:Tok):(WY prog w).is (.inr x) (.str x t)=true:=vV x t
inductive V where
 |non|bl (b:Bool)|int (i:Int)|str (x:Str)|byt (b:Array UInt8)|flt (b:UInt64)|ref (a:Wo)|ty (n:String)
 deriving DecidableEq
def WI:V->Value->Prop
 | .non,u=>u=Value.none
 | .bl b,u=>u=Value.bool b
 | .int i,u=>∃t,u=Value.int i t
 | .str x,u=>∃t,u=Value.str x t
 | .byt b,u=>∃t,u=Value.bytes b t
 | .flt b,u=>∃t,u=Value.float b t
 | .ref a,u=>u=Value.ref a
 | .ty n,u=>u=Value.type n
abbrev WD:List V->List Value->Prop:=Paired WI
theorem WD.length{xs:List V}{us:Wq}(r:WD xs us):xs.length=us.length:=Paired.length r
theorem WD.get:∀{xs:List V} {us:Wq} {i:Nat} {x:V},WD xs us->xs[i]?=some x->∃u,us[i]?=some u/\WI x u
 |_,_,_,_,.nil,e=>by simp at e
 |_,_,0,_,.cons r _,e=>by simp at e;subst e;exact⟨_,rfl,r⟩
 |_,_,i+ 1,x,.cons _ t,e=>by
  obtain⟨u,h1,h2⟩:=WD.get (i:=i) (x:=x) t (by simpa using e);exact⟨u,by simpa using h1,h2⟩
theorem WD.append:∀{xs ys:List V} {us ws:Wq},WD xs us->WD ys ws->WD (xs++ys) (us++ws)
 |_,_,_,_,.nil,s=>s
 |_,_,_,_,.cons r t,s=>.cons r (WD.append t s)
theorem WD.take:∀{xs:List V} {us:Wq} (n:Nat),WD xs us->WD (xs.take n) (us.take n)
 |_,_,0,_=>.nil
 |_,_,_+ 1,.nil=>.nil
 |_,_,n+ 1,.cons r t=>.cons r (WD.take n t)
theorem WD.drop:∀{xs:List V} {us:Wq} (n:Nat),WD xs us->WD (xs.drop n) (us.drop n)
 |_,_,0,r=>r
 |_,_,_+ 1,.nil=>.nil
 |_,_,n+ 1,.cons _ t=>WD.drop n t
def T4:Option V->Option Value->Prop
 |some v,some u=>WI v u
 |none,none=>True
 |_,_=>False
def KV{κ:Type}:List (κ×V)->List (κ×Value)->Prop:=Paired fun(p:κ×V) (q:κ×Value)=>p.1=q.1/\WI p.2 q.2
def kV:WU->V
 | .inl i=>.int i
 | .inr x=>.str x
inductive HO where
 |lst (xs:List V)
 |tup (xs:List V)
 |dK (kvs:List (WU×V))|dT (kvs:List (List WU×V))
 |set (S:Int->Bool) (n:Nat)
 |ins (C dx:Wo) (fs:List (Str×V))
 |own (x:Wo)
 |xd (fs:List (Str×V))
 |met (f x:Wo)
 |rng (lo hi:Int)
 |frz (o:Obj) (u:HO)
 |tbl (ps:Array Value)
 |ext (φ:Heap->Prop)
abbrev Hp:=Addr->Option HO
def upd(H:Hp)(a:Wo)(o:HO):Hp:=fun b=>if b=a then some o else H b
theorem Jn{H:Hp}{a:Wo}{o:HO}:upd H a o a=some o:=by unfold upd;rw[Y3 rfl]
theorem WM{H:Hp}{a b:Wo}{o:HO}(h:b≠a):upd H a o b=H b:=by unfold upd;rw[Y2 h]
theorem Wv{H:Hp}{a b:Wo}{o u:HO}(h:H a=some o)(h':H b=some u)(d:o≠u):a≠b:=by
 intro e;subst e;rw[h]at h';exact d (Option.some.inj h')
theorem No{H:Hp}{a b:Wo}{o:HO}(h:H a=some o)(h':H b=none):a≠b:=by
 intro e;subst e;rw[h]at h';cases h'
section
variable(P:Wh)(w:Wl)
def WO(H:Hp)(h:Wr)(a:Wo):HO->Prop
 | .lst xs=>xs.length <=sizeLine/\∃ (its:Wq) (n:Nat),WD xs its/\h.get? a=some {cls:=.type "list",data:=.seq its.toArray n}
 | .tup xs=>xs.length <=sizeLine/\∃its:List Value,WD xs its/\IsTup h a its.toArray
 | .dK kvs=>kvs.length <=sizeLine/\(a==sysModules)=false/\∃vs,KV kvs vs/\h.DictOf (WY P w) a vs
 | .dT kvs=>kvs.length <=sizeLine/\(a==sysModules)=false/\∃xs:List (List WU×Addr×Value),
   Paired (fun(p:List WU×V) (q:List WU×Addr×Value)=>p.1=q.1/\H q.2.1=some (.tup (p.1.map kV))/\WI p.2 q.2.2) kvs xs/\
   ∃o es ep,h.get? a=some o/\o.ExactDict/\o.data= .dict es ep/\es.toList=xs.map (entryOfKey (tupleKind (WY P w)))/\(xs.map (·.1)).Nodup
 | .set S n=>h.SetOf (intKind P w) a S n
 | .ins C dx fs=>H dx=some (.own a)/\fs.length <=1000/\dx≠a/\h.get? a=some (W.instObj C dx)/\
   ∃mA,h.Ns1 dx mA/\(∀f,T4 (fs.lookup f) (mA f))/\PySem.Within mA (fs.map (·.1))
 | .own _=>∃o,h.get? a=some o
 | .xd fs=>∃mA,h.Ns1 a mA/\∀f,T4 (fs.lookup f) (mA f)
 | .rng lo hi=>∃t u v,h.get? a=some {cls:=.type "range",data:=.fields #[.int lo t,.int hi u,.int 1 v]}
 | .frz o u=>h.get? a=some o/\WO H h a u
 | .tbl ps=>h.get? a=some {cls:=.none,data:=.fields ps}
 | .met f x=>h.get? a=some (W.methodObj (.ref f) (.ref x))
 | .ext φ=>φ h/\(∃o,h.get? a=some o)/\∀h1 h2:Heap,φ h1->(∀o,h1.get? a=some o->h2.get? a=some o)->φ h2
def NB(H:Hp)(h:Wr):Prop:=∀a o,H a=some o->WO P w H h a o
end
section
variable{P:Wh}{w:Wl}{H H':Hp}{h h':Wr}{a:Wo}{o:HO}
theorem WO.lt(x:WO P w H h a o):a < h.objs.size:=by
 cases o with
 |lst xs=>obtain⟨_,_,_,_,e⟩:=x;exact Yk e
 |tup xs=>obtain⟨_,_,_,p⟩:=x;exact p.lt
 |dK kvs=>obtain⟨_,_,_,_,o,_,_,e,_⟩:=x;exact Yk e
 |dT kvs=>obtain⟨_,_,_,_,o,_,_,e,_⟩:=x;exact Yk e
 |set S n=>obtain⟨o,_,_,_,e,_⟩:=x;exact Yk e
 |ins C dx fs=>obtain⟨_,_,_,e,_⟩:=x;exact Yk e
 |own y=>obtain⟨_,e⟩:=x;exact Yk e
 |xd fs=>obtain⟨_,⟨_,_,_,e,_⟩,_⟩:=x;exact Yk e
 |rng lo hi=>obtain⟨_,_,_,e⟩:=x;exact Yk e
 |frz ob u=>obtain⟨e,_⟩:=x;exact Yk e
 |tbl ps=>exact Yk (show h.get? a=some _ from x)
 |met f y=>exact Yk (show h.get? a=some _ from x)
 |ext φ=>obtain⟨_,⟨_,e⟩,_⟩:=x;exact Yk e
theorem Paired.mapP{α β:Type}{F G:α->β->Prop}:∀{l₁:List α} {l₂:List β},Paired F l₁ l₂->(∀a b,F a b->G a b)->Paired G l₁ l₂
 |_,_,.nil,_=>.nil
 |_,_,.cons r t,f=>.cons (f _ _ r) (Paired.mapP t f)
theorem WO.stay(x:WO P w H h a o)(k:∀b u,(b=a\/H b=some (.own a))->h.get? b=some u->h'.get? b=some u)
  (ho:∀b,H b=some (.own a)->H' b=some (.own a)) (ht:∀b xs,H b=some (.tup xs)->H' b=some (.tup xs)):WO P w H' h' a o:=by
 induction o with
 |lst xs=>obtain⟨z,g,n,r,e⟩:=x;exact⟨z,g,n,r,k _ _ (.inl rfl) e⟩
 |tup xs=>obtain⟨z,g,r,ob,e,c⟩:=x;exact⟨z,g,r,ob,k _ _ (.inl rfl) e,c⟩
 |dK kvs=>obtain⟨z,y,vs,r,ob,es,ep,e,c⟩:=x;exact⟨z,y,vs,r,ob,es,ep,k _ _ (.inl rfl) e,c⟩
 |dT kvs=>
  obtain⟨z,y,xs,r,ob,es,ep,e,c⟩:=x;exact⟨z,y,xs,Paired.mapP r fun p q z=>⟨z.1,ht _ _ z.2.1,z.2.2⟩,ob,es,ep,k _ _ (.inl rfl) e,c⟩
 |set S n=>obtain⟨ob,es,ep,t,e,c⟩:=x;exact⟨ob,es,ep,t,k _ _ (.inl rfl) e,c⟩
 |ins C dx fs=>
  obtain⟨d,z,ne,e,mA,⟨i,es,ep,j,c⟩,r⟩:=x;exact⟨ho _ d,z,ne,k _ _ (.inl rfl) e,mA,⟨i,es,ep,k _ _ (.inr d) j,c⟩,r⟩
 |own y=>obtain⟨ob,e⟩:=x;exact⟨ob,k _ _ (.inl rfl) e⟩
 |xd fs=>obtain⟨mA,⟨i,es,ep,e,c⟩,r⟩:=x;exact⟨mA,⟨i,es,ep,k _ _ (.inl rfl) e,c⟩,r⟩
 |rng lo hi=>obtain⟨t,u,v,e⟩:=x;exact⟨t,u,v,k _ _ (.inl rfl) e⟩
 |frz ob u ih=>obtain⟨e,q⟩:=x;exact⟨k _ _ (.inl rfl) e,ih q⟩
 |tbl ps=>
  have e:h.get? a=some {cls:=.none,data:=.fields ps}:=x;show h'.get? a=some {cls:=.none,data:=.fields ps};exact k a _ (.inl rfl) e
 |met f y=>
  have e:h.get? a=some (W.methodObj (.ref f) (.ref y)):=x;show h'.get? a=some (W.methodObj (.ref f) (.ref y));exact k a _ (.inl rfl) e
 |ext φ=>obtain⟨p,⟨o,e⟩,st⟩:=x;exact⟨st _ _ p fun o q=>k _ _ (.inl rfl) q,⟨o,k _ _ (.inl rfl) e⟩,st⟩
theorem NB.lt(x:NB P w H h)(e:H a=some o):a < h.objs.size:=(x a o e).lt
theorem NB.fresh(x:NB P w H h)(e:h.objs.size <=a):H a=none:=by
 cases q:H a with
 |none=>rfl
 |some u=>exact absurd (Yx (x.lt q) e) (X8 _)
theorem NB.kept(x:NB P w H h)(k:∀b u,h.get? b=some u->h'.get? b=some u):NB P w H h':=fun a o e=>
 (x a o e).stay (fun b u _ q=>k b u q) (fun _ q=>q) fun _ _ q=>q
theorem NB.laid(x:NB P w H h)(k:∀b u,h.get? b=some u->h'.get? b=some u)(hp:h.objs.size <=a)(new:WO P w (upd H a o) h' a o):NB P w (upd H a o) h':=fun b u e=>by
 have d:=x.fresh hp
 by_cases hb:b=a
 .subst hb;rw[Jn]at e;cases e;exact new
 .rw[WM hb]at e;exact(x b u e).stay (fun c v _ q=>k c v q) (fun c q=>by rw[WM (No q d)];exact q) fun c xs q=>by rw[WM (No q d)];exact q
end
def Rd(H:Hp)(a:Wo)(u:HO):Prop:=H a=some u\/∃o,H a=some (.frz o u)
theorem Rd.ok{P:Wh}{w:Wl}{H:Hp}{h:Wr}{a:Wo}{u:HO}(r:Rd H a u)(x:NB P w H h):WO P w H h a u:=by
 rcases r with r|⟨o,r⟩
 .exact x a u r
 .obtain⟨_,q⟩:=x a _ r;exact q
def Bq:Option HO->Prop
 |some (.lst _)=>True
 |some (.dK _)=>True
 |some (.dT _)=>True
 |some (.set _ _)=>True
 |some (.ins _ _ _)=>True
 |some (.ext _)=>True
 |_=>False
section
variable{P:Wh}{w:Wl}{H:Hp}{h h':Wr}{x e:Wo}{o':HO}
theorem NB.write(ok:NB P w H h)(mu:Bq (H x))(he:e=x\/H e=some (.own x))(k:∀b u,b≠e->h.get? b=some u->h'.get? b=some u)(heo:∃u,h'.get? e=some u)
  (new:WO P w (upd H x o') h' x o'):NB P w (upd H x o') h':=fun b u q=>by
 have a:∀c y,H c=some (.own y)->c≠x:=fun c y r z=>by subst z;rw[r]at mu;exact mu
 have f:∀c xs,H c=some (.tup xs)->c≠x:=fun c xs r z=>by subst z;rw[r]at mu;exact mu
 by_cases hb:b=x
 .subst hb;rw[Jn]at q;cases q;exact new
 .rw[WM hb]at q
  by_cases hbe:b=e
  .have g:H b=some (.own x):=by
    rcases he with z|z
    .exact absurd (hbe.trans z) hb
    .rw[hbe];exact z
   rw[q]at g;cases g;obtain⟨v,i⟩:=heo;exact⟨v,by rw[hbe];exact i⟩
  .refine(ok b u q).stay (fun c v d r=>k c v ?_ r) (fun c r=>by rw[WM (a c b r)];exact r) fun c xs r=>by rw[WM (f c xs r)];exact r
   rcases d with rfl|d
   .exact hbe
   .rintro rfl;rcases he with z|z
    .exact a c b d z
    .rw[d]at z;cases z;exact hb rfl
end
structure Un(fs ex:List Addr)(H H':Hp)(h h':Wr):Prop where
 keep:∀b o,h.get? b=some o->H b=none->b∉fs->b∉ex->h'.get? b=some o
 slot:∀b o,h.get? b=some o->H b=none->b∈fs->b∉ex->∃sl,h'.get? b=some {o with slots:=sl}
 free:∀b o,h.get? b=some o->H b=none->b∉ex->H' b=none
 there:∀b o,h.get? b=some o->b∉ex->∃o',h'.get? b=some o'
 tups:∀b xs,H b=some (.tup xs)->H' b=some (.tup xs)
 frzs:∀b o u,H b=some (.frz o u)->H' b=some (.frz o u)
 tbls:∀b ps,H b=some (.tbl ps)->∃more,H' b=some (.tbl (ps++more))
section
variable{fs fs' ex ex':List Addr}{H H1 H2:Hp}{h h1 h2 h':Wr}{a x e:Wo}{o:HO}
theorem Un.any(u:Un fs ex H H1 h h1){b:Wo}{ob:Obj}(q:h.get? b=some ob)(n:H b=none)(hx:b∉ex):∃sl,h1.get? b=some {ob with slots:=sl}:=by
 by_cases hb:b∈fs
 .exact u.slot b ob q n hb hx
 .exact⟨ob.slots,u.keep b ob q n hb hx⟩
theorem Un.kept(k:∀b u,h.get? b=some u->h'.get? b=some u):Un fs ex H H h h':=
 ⟨fun b a q _ _ _=>k b a q,fun b a q _ _ _=>⟨a.slots,k b a q⟩,fun _ _ _ n _=>n,fun b a q _=>⟨a,k b a q⟩,fun _ _ q=>q,fun _ _ _ q=>q,fun _ ps q=>⟨#[],by rw[q];simp⟩⟩
theorem Un.refl:Un fs ex H H h h:=Un.kept fun _ _ q=>q
theorem Un.laid(k:∀b u,h.get? b=some u->h'.get? b=some u)(hp:h.objs.size <=a)(hn:H a=none):Un fs ex H (upd H a o) h h' where
 keep:=fun b u q _ _ _=>k b u q
 slot:=fun b u q _ _ _=>⟨u.slots,k b u q⟩
 free:=fun b u q n _=>by rw[WM (Yr (Yx (Yk q) hp))];exact n
 there:=fun b u q _=>⟨u,k b u q⟩
 tups:=fun b xs q=>by rw[WM (No q hn)];exact q
 frzs:=fun b u xs q=>by rw[WM (No q hn)];exact q
 tbls:=fun b ps q=>⟨#[],by rw[WM (No q hn),q];simp⟩
theorem Un.write(mu:Bq (H x))(he:e=x\/H e=some (.own x))(k:∀b u,b≠e->h.get? b=some u->h'.get? b=some u)(heo:∃u,h'.get? e=some u):Un fs ex H (upd H x o) h h':=by
 have c:∀b,H b=none->b≠x:=fun b n z=>by subst z;rw[n]at mu;exact mu
 have d:∀b,H b=none->b≠e:=fun b n z=>by
  subst z;rcases he with r|r
  .exact c b n r
  .rw[n]at r;cases r
 have a:∀b u,H b=some u->¬Bq (some u)->b≠x:=fun b u q nm z=>by subst z;rw[q]at mu;exact nm mu
 refine ⟨fun b u q n _ _ => k b u (d b n) q, fun b u q n _ _ => ⟨u.slots, k b u (d b n) q⟩, fun b u q n _ => by rw [WM (c b n)]; exact n, fun b u q _ => ?_,
  fun b xs q => by rw [WM (a b _ q fun z => z)]; exact q, fun b u xs q => by rw [WM (a b _ q fun z => z)]; exact q, fun b ps q => ⟨#[], by rw [WM (a b _ q fun z => z), q]; simp⟩⟩
 by_cases hbe:b=e
 .subst hbe;exact heo
 .exact⟨u,k b u hbe q⟩
end
def Aj(h:Wr)(H:Hp):List Addr:=(List.range h.objs.size).filter fun a=>(H a).isSome
def GS(h:Wr)(H:Hp):Heap:=W.hideAll h (Aj h H)
theorem nE(h:Wr)(H:Hp):(GS h H).objs.size=h.objs.size:=W.hideAll_size _ _
theorem ZC{h:Wr}{H:Hp}{b:Wo}{o:Obj}(e:h.get? b=some o)(n:H b=none):(GS h H).get? b=some o:=
 W.hideAll_get _ e fun a=>by
  have q:(H b).isSome=true:=(YZ.mp a).2;rw[n]at q;simp at q
theorem tN{h:Wr}{H:Hp}{b:Wo}{o:Obj}(e:(GS h H).get? b=some o):h.get? b=some o/\H b=none:=by
 have a:h.get? b=some o:=W.of_hideAll (Aj h H) e;refine⟨a,?_⟩;cases q:H b with
 |none=>rfl
 |some x=>
  have c:b∈Aj h H:=YZ.mpr ⟨Xc.mpr (Yk a),by simp[q]⟩;have z:(GS h H).get? b=none:=W.hideAll_none (Aj h H) c;rw[z]at e;cases e
def vP(g h:Wr)(L:Wo):List (Addr×Obj):=(List.range h.objs.size).filterMap fun a=>if a=L\/(g.get? a).isSome=true then none else(h.get? a).map fun o=>(a,o)
def rest(g h:Wr)(L d:Wo):List (Addr×Obj):=(vP g h L).filter fun p=>decide (p.1≠d)
structure Mod(K:Wm)(mg:Wd)(base:Wr):Prop where
 kin:K.In base
 glob:base.Ns mainGlobals mg
 blt:∃mb,base.Ns builtinsNs mb/\∀x:Str,x≠"__name__"->mb x=bootBuiltins x
 nolimit:base.NoLimit
structure Cx where
 prog:Program
 w:World
 K:W.Frag
 mg:Str->Option Value
 base:Heap
 A:Around
 N:List Str
 s₀:Shared
 H₀:Hp
 env:Env
 outer:List Env
 stack:List Env
 ex:List Addr
 fn:Str->Bool
 calm:Bool
 pn:List (Addr×Obj)
 xe:Value->Shared->Prop
def Mq(l:List Env):List Addr:=l.filterMap (·.frame)
abbrev Cx.fs(X:Cx):List Addr:=Mq X.outer
def BJ(sc:Scope)(x:Str):Prop:=sc.names.lookup x=some .local\/sc.names.lookup x=some .cell\/sc.names.lookup x=some .free
def E1(sc:Scope)(x:Str):Prop:=sc.names.lookup x=some .local\/sc.names.lookup x=some .cell
def Kb(env:Env)(h:Wr)(m:Wd)(x:Str)(u:Wn):Prop:=
 (env.kindOf x=some .local/\m x=some u)\/((env.kindOf x=some .cell\/env.kindOf x=some .free)/\∃c,env.cells.lookup x=some c/\h.IsCell c (some u))
structure Cx.Ok(X:Cx):Prop where
 mod:Mod X.K X.mg X.base
 kind:X.env.scope.kind= .function
 glob:X.env.globals=mainGlobals
 blt:X.env.builtins=builtinsNs
 above:X.s₀.heap.objs.size <=X.env.locals
 inj:∀x y c,X.env.cells.lookup x=some c->X.env.cells.lookup y=some c->x=y
 has:∀x,(X.env.kindOf x=some .cell\/X.env.kindOf x=some .free)->∃c,X.env.cells.lookup x=some c
 cab:∀x c,X.fn x=true->X.env.cells.lookup x=some c->X.s₀.heap.objs.size <=c
 hd:X.calm=true->X.A.handled=none
 frames:X.A.frames=some X.stack
 stk:X.stack=X.outer\/(X.stack=X.env::X.outer/\X.env.frame=some X.env.locals)
 exf:∀b∈X.ex,b≠X.env.locals/\∀x c,X.env.cells.lookup x=some c->c≠b
 bs:∀b o,X.base.get? b=some o->X.s₀.heap.get? b=some o/\X.H₀ b=none
 bsz:X.base.objs.size <=X.s₀.heap.objs.size
 noex:∀b o,X.base.get? b=some o->b∉X.ex
 exfs:∀b∈X.ex,b∉X.fs
 funs:X.s₀.heap.FunFrames X.base X.outer
 frf:∀b∈X.fs,X.H₀ b=none
structure Wx(X:Cx)(pins:Wg)(σ:List (Option V))(H:Hp)(s:Wi):Prop where
 ok:X.Ok
 os:s.os=X.s₀.os
 bare:AllBare s.gens
 base:Un X.fs X.ex X.H₀ H X.s₀.heap s.heap
 loc:∃m,s.heap.Ns X.env.locals m/\∀ (i:Nat) (x:Str) (v:V),X.N[i]?=some x->σ[i]?=some (some v)->BJ X.env.scope x->∃u,WI v u/\Kb X.env s.heap m x u
 cell:∀x c,X.env.cells.lookup x=some c->∃v,s.heap.IsCell c v
 free:H X.env.locals=none
 freeC:∀x c,X.env.cells.lookup x=some c->H c=none
 pin:∀p∈X.pn++pins,s.heap.get? p.1=some p.2/\H p.1=none/\p.1≠X.env.locals/\p.1∉X.fs/\∀v,p.2.data≠ .cell v
 hok:NB X.prog X.w H s.heap
 len:σ.length=X.N.length
section
variable{X:Cx}{pins:Wg}{σ:List (Option V)}{H H':Hp}{s:Wi}{h':Wr}
theorem Cx.Ok.nofr(ok:X.Ok){b:Wo}{o:Obj}(e:X.base.get? b=some o):b∉X.fs:=fun a=>by
 have:=(ok.funs.mem a).1;rw[e]at this;cases this
theorem Wx.bs(I:Wx X pins σ H s):∀b o,X.base.get? b=some o->s.heap.get? b=some o/\H b=none:=fun b o e=>
 ⟨I.base.keep b o (I.ok.bs b o e).1 (I.ok.bs b o e).2 (I.ok.nofr e) (I.ok.noex b o e),I.base.free b o (I.ok.bs b o e).1 (I.ok.bs b o e).2 (I.ok.noex b o e)⟩
theorem Wx.bk(I:Wx X pins σ H s):∀b o,X.base.get? b=some o->s.heap.get? b=some o:=fun b o e=>(I.bs b o e).1
theorem Wx.mod(I:Wx X pins σ H s):Mod X.K X.mg X.base:=I.ok.mod
theorem Wx.kIn(I:Wx X pins σ H s):X.K.In s.heap:=I.ok.mod.kin.keeps I.bk
theorem Wx.lt(I:Wx X pins σ H s):X.env.locals < s.heap.objs.size:=let ⟨_,hn,_⟩:=I.loc;hn.lt
theorem Wx.sz(I:Wx X pins σ H s):X.s₀.heap.objs.size <=s.heap.objs.size:=YH I.ok.above (Xv I.lt)
theorem Wx.nofs(I:Wx X pins σ H s){a:Wo}(h:s.heap.objs.size <=a):a∉X.fs:=fun c=>by
 obtain⟨_,o,b,_⟩:=I.ok.funs.mem c;exact absurd (Yx (Yk b) (YH I.sz h)) (X8 _)
theorem Wx.cne(I:Wx X pins σ H s):∀x c,X.env.cells.lookup x=some c->c≠X.env.locals:=fun x c e z=>by
 obtain⟨v,o,b,f⟩:=I.cell x c e;obtain⟨m,⟨o',es,ep,a,d,_⟩,_⟩:=I.loc;rw[z,a]at b;cases b;rw[d]at f;cases f
theorem Wx.funs(I:Wx X pins σ H s):s.heap.FunFrames X.base X.outer:=by
 have all:∀ (l:List Env),(∀b∈Mq l,b∈X.fs)->X.s₀.heap.FunFrames X.base l->s.heap.FunFrames X.base l:=by
  intro l
  induction l with
  |nil=>intro _ _;trivial
  |cons env r ih=>
   intro hs i;obtain⟨j,⟨L,o,a,h,g,n⟩,f⟩:=i;have d:L∈X.fs:=hs L (by unfold Mq;rw[Vb,a];exact Ys);obtain⟨p,e⟩:=I.base.slot L o g (I.ok.frf L d) d fun z=>I.ok.exfs L z d
   exact⟨j,⟨L,_,a,h,e,n⟩,ih (fun b c=>hs b (by unfold Mq;rw[Vb,a];exact Yi _ c)) f⟩
 exact all X.outer (fun _ c=>c) I.ok.funs
theorem Wx.stack(I:Wx X pins σ H s):s.heap.FunFrames X.base X.stack:=by
 rcases I.ok.stk with e|⟨e,hf⟩
 .rw[e];exact I.funs
 .rw[e];obtain⟨m,a,_⟩:=I.loc;refine .cons (by rw[I.ok.kind];decide) hf a ?_ I.funs;exact Heap.get?_none_of_le (YH I.ok.bsz I.ok.above)
theorem Wx.stkSub(I:Wx X pins σ H s):∀b∈Mq X.stack,b∈X.env.locals::X.fs:=fun b a=>by
 rcases I.ok.stk with e|⟨e,hf⟩
 .rw[e]at a;exact Yi _ a
 .rw[e]at a;unfold Mq at a;rw[Vb,hf]at a;exact a
theorem Wx.stkFree(I:Wx X pins σ H s):∀b∈Mq X.stack,H b=none:=fun b a=>by
 rcases Yp.mp (I.stkSub b a) with e|a
 .rw[e];exact I.free
 .obtain⟨_,o,c,_⟩:=I.ok.funs.mem a;exact I.base.free b o c (I.ok.frf b a) fun z=>I.ok.exfs b z a
theorem Wx.step{g':Array GenState}{t':Nat}{d':Drawn}{ch:List Addr}(I:Wx X pins σ H s)
  (hch:∀b∈ch,(b∈X.ex\/X.s₀.heap.objs.size <=b)/\b≠X.env.locals/\(∀x c,X.env.cells.lookup x=some c->c≠b)/\∀p∈X.pn++pins,p.1≠b)
  (keep:∀b o,b≠X.env.locals->b∉X.fs->b∉ch->s.heap.get? b=some o->H b=none->h'.get? b=some o)
  (slot:∀b o,b≠X.env.locals->b∈X.fs->b∉ch->s.heap.get? b=some o->H b=none->∃sl,h'.get? b=some {o with slots:=sl}) (free:∀b o,b∉ch->s.heap.get? b=some o->H b=none->H' b=none)
  (there:∀b o,b∉ch->s.heap.get? b=some o->∃o',h'.get? b=some o')
  (tups:∀b xs,H b=some (.tup xs)->H' b=some (.tup xs)) (frzs:∀b o u,H b=some (.frz o u)->H' b=some (.frz o u)) (tbls:∀b ps,H b=some (.tbl ps)->∃more,H' b=some (.tbl (ps++more)))
  (ns:∀m,s.heap.Ns X.env.locals m->h'.Ns X.env.locals m) (hok:NB X.prog X.w H' h') (hg:AllBare g'):
  Wx X pins σ H' {s with heap:=h',gens:=g',drawn:=d',toks:=t'}:=by
 have neL:∀b o,X.s₀.heap.get? b=some o->b≠X.env.locals:=fun b o e=>Yr (Yx (Yk e) I.ok.above)
 have j:∀b o,X.s₀.heap.get? b=some o->b∉X.ex->b∉ch:=fun b o e a h=>by
  rcases(hch b h).1 with z|z
  .exact a z
  .exact absurd (Yx (Yk e) z) (X8 _)
 have aa:∀x c,X.env.cells.lookup x=some c->∀v,s.heap.IsCell c v->h'.IsCell c v:=fun x c e v ⟨o,ho,hd⟩=>by
  have g:c∉ch:=fun z=>(hch c z).2.2.1 x c e rfl
  by_cases hc:c∈X.fs
  .obtain⟨sl,q⟩:=slot c o (I.cne x c e) hc g ho (I.freeC x c e);exact⟨_,q,hd⟩
  .exact⟨o,keep c o (I.cne x c e) hc g ho (I.freeC x c e),hd⟩
 refine⟨I.ok,I.os,hg,⟨fun b o e n h a=>?_,fun b o e n h a=>?_,fun b o e n a=>?_,fun b o e a=>?_,fun b xs e=>tups b xs (I.base.tups b xs e),fun b o xs e=>frzs b o xs (I.base.frzs b o xs e),fun b ps e=>?_⟩,?_,fun x c e=>?_,?_,fun x c e=>?_,fun p hp=>?_,hok,I.len⟩
 .exact keep b o (neL b o e) h (j b o e a) (I.base.keep b o e n h a) (I.base.free b o e n a)
 .obtain⟨sl,f⟩:=I.base.slot b o e n h a;obtain⟨sl',e2⟩:=slot b _ (neL b o e) h (j b o e a) f (I.base.free b o e n a);exact⟨sl',e2⟩
 .obtain⟨o',f⟩:=I.base.there b o e a;exact free b o' (j b o e a) f (I.base.free b o e n a)
 .obtain⟨o',f⟩:=I.base.there b o e a;exact there b o' (j b o e a) f
 .obtain⟨m1,f⟩:=I.base.tbls b ps e;obtain⟨m2,e2⟩:=tbls b _ f;exact⟨m1++m2,by rw[e2,Array.append_assoc]⟩
 .obtain⟨m,hn,hl⟩:=I.loc;refine⟨m,ns m hn,fun i x v f e2 e3=>?_⟩;obtain⟨u,r,l⟩:=hl i x v f e2 e3;refine⟨u,r,?_⟩;rcases l with l|⟨k,c,e,z⟩
  .exact .inl l
  .exact .inr ⟨k,c,e,aa x c e _ z⟩
 .obtain⟨v,z⟩:=I.cell x c e;exact⟨v,aa x c e v z⟩
 .obtain⟨m,⟨o,_,_,ho,_⟩,_⟩:=I.loc;exact free _ o (fun z=>(hch _ z).2.1 rfl) ho I.free
 .obtain⟨v,o,ho,hd⟩:=I.cell x c e;exact free c o (fun z=>(hch c z).2.2.1 x c e rfl) ho (I.freeC x c e)
 .obtain⟨e,n,ne,nf,d⟩:=I.pin p hp;have g:p.1∉ch:=fun z=>(hch p.1 z).2.2.2 p hp rfl
  exact⟨keep p.1 p.2 ne nf g e n,free p.1 p.2 g e n,ne,nf,d⟩
theorem Wx.un{t':Nat}(I:Wx X pins σ H s)(u:Un X.fs [] H H' s.heap h')(hok:NB X.prog X.w H' h'):Wx X pins σ H' {s with heap:=h',toks:=t'}:=by
 obtain ⟨m, ⟨o, es, ep, d, r⟩, _⟩ := id I.loc;obtain ⟨l, j⟩ := u.any d I.free (by simp);exact I.step (g' := s.gens) (d' := s.drawn) (ch := []) (fun _ z => nomatch z) (fun b o _ c _ e n => u.keep b o e n c (by simp)) (fun b o _ c _ e n => u.slot b o e n c (by simp)) (fun b o _ e n => u.free b o e n (by simp)) (fun b o _ e => u.there b o e (by simp)) u.tups u.frzs u.tbls (fun p i => by
  obtain ⟨o', f, g, a, h⟩ := i;rw [d] at a; cases a;exact ⟨_, f, g, j, h⟩) hok I.bare
theorem Wx.call{g':Array GenState}{t':Nat}{d':Drawn}{ch:List Addr}(I:Wx X pins σ H s)(u:Un (Mq X.stack) ch H H' s.heap h')(hok:NB X.prog X.w H' h')(hg:AllBare g')
  (hch:∀b∈ch,(b∈X.ex\/X.s₀.heap.objs.size <=b)/\b≠X.env.locals/\(∀x c,X.env.cells.lookup x=some c->c≠b)/\∀p∈X.pn++pins,p.1≠b):
  Wx X pins σ H' {s with heap:=h',gens:=g',drawn:=d',toks:=t'}:=by
 obtain⟨m,⟨o,es,ep,g,r⟩,_⟩:=id I.loc;obtain⟨v,f⟩:=u.any g I.free fun z=>(hch _ z).2.1 rfl
 exact I.step (ch := ch) hch (fun b o f q a e n => u.keep b o e n (fun z => (Yp.mp (I.stkSub b z)).elim f q) a) (fun b o _ _ a e n => u.any e n a) (fun b o a e n => u.free b o e n a) (fun b o a e => u.there b o e a) u.tups u.frzs u.tbls (fun m' l => by
  obtain ⟨o', h, i, d, j⟩ := l;rw [g] at d; cases d;exact ⟨_, h, i, f, j⟩) hok hg
theorem Wx.turned{t':Nat}{it:Wo}(I:Wx X pins σ H s)(k:∀b o,b≠it->s.heap.get? b=some o->h'.get? b=some o)(hn:H it=none)(hL:it≠X.env.locals)
  (h1:it∈X.ex\/X.s₀.heap.objs.size <=it) (h2:∀x c,X.env.cells.lookup x=some c->c≠it) (h3:∀p∈X.pn++pins,p.1≠it):Wx X pins σ H {s with heap:=h',toks:=t'}:=by
 have d:∀b u,H b=some u->b≠it:=fun b u e z=>by rw[z,hn]at e;cases e
 refine I.step (g':=s.gens) (d':=s.drawn) (ch:=[it]) (fun b h=>?_) (fun b o _ _ a e _=>k b o (fun z=>a (by simp[z])) e) (fun b o _ _ a e _=>⟨o.slots,k b o (fun z=>a (by simp[z])) e⟩) (fun _ _ _ _ n=>n)
  (fun b o a e=>⟨o,k b o (fun z=>a (by simp[z])) e⟩) (fun _ _ e=>e) (fun _ _ _ e=>e) (fun b ps e=>⟨#[],by rw[e];simp⟩) (fun m g=>?_) (fun b u e=>?_) I.bare
 .have e:b=it:=by simpa using h
  subst e;exact⟨h1,hL,h2,h3⟩
 .obtain⟨o,es,ep,f,r⟩:=g;exact⟨o,es,ep,k _ o (Ne.symm hL) f,r⟩
 .refine(I.hok b u e).stay (fun c v a q=>k c v ?_ q) (fun _ q=>q) fun _ _ q=>q
  rcases a with z|z
  .rw[z];exact d b u e
  .exact d c _ z
theorem Wx.tok(I:Wx X pins σ H s)(t:Nat):Wx X pins σ H {s with toks:=t}:=I.un (h':=s.heap) (t':=t) Un.refl I.hok
theorem Wx.kept{t':Nat}(I:Wx X pins σ H s)(k:∀b u,s.heap.get? b=some u->h'.get? b=some u):Wx X pins σ H {s with heap:=h',toks:=t'}:=I.un (Un.kept k) (I.hok.kept k)
theorem Wx.laid{a:Wo}{o:HO}{t':Nat}(I:Wx X pins σ H s)(k:∀b u,s.heap.get? b=some u->h'.get? b=some u)(hp:s.heap.objs.size <=a)(new:WO X.prog X.w (upd H a o) h' a o):
  Wx X pins σ (upd H a o) {s with heap:=h',toks:=t'}:=I.un (Un.laid k hp (I.hok.fresh hp)) (I.hok.laid k hp new)
theorem Wx.write{x e:Wo}{o:HO}{t':Nat}(I:Wx X pins σ H s)(mu:Bq (H x))(he:e=x\/H e=some (.own x))(k:∀b u,b≠e->s.heap.get? b=some u->h'.get? b=some u)(heo:∃u,h'.get? e=some u)
  (new:WO X.prog X.w (upd H x o) h' x o):Wx X pins σ (upd H x o) {s with heap:=h',toks:=t'}:=I.un (Un.write mu he k heo) (I.hok.write mu he k heo new)
theorem Wx.pins_of{pins':Wg}(I:Wx X pins σ H s)(h:∀p∈pins',s.heap.get? p.1=some p.2/\H p.1=none/\p.1≠X.env.locals/\p.1∉X.fs/\∀v,p.2.data≠ .cell v):Wx X pins' σ H s:=
 ⟨I.ok,I.os,I.bare,I.base,I.loc,I.cell,I.free,I.freeC,fun p a=>(Yj.mp a).elim (fun z=>I.pin p (YG _ z)) (h p),I.hok,I.len⟩
theorem Og{N:List Str}(hN:N.Nodup){i j:Nat}{x:Str}(a:N[i]?=some x)(b:N[j]?=some x):i=j:=by
 obtain⟨h1,d⟩:=Y4.mp a;obtain⟨h2,c⟩:=Y4.mp b;exact(List.getElem_inj hN).mp (d.trans c.symm)
theorem gH{M:Model}{A:Wk}{E:We}{i:Nat}{x:Str}{v:V}{u:Wn}{Q:Wf}(I:Wx X pins σ H s)(hN:X.N.Nodup)(hi:X.N[i]?=some x)(hx:E1 X.env.scope x)(r:WI v u)
  (h:∀s',Wx X pins (σ.set i (some v)) H s'->(∃a,Heap.SameBut a s.heap s'.heap/\(a=X.env.locals\/X.env.cells.lookup x=some a))->Q () s') (hf:X.fn x=true\/X.env.scope.names.lookup x=some .local:=by first|exact .inl rfl|exact .inr rfl|assumption):wpAny M A (storeName X.env x u) Q E s:=by
 obtain⟨m,hn,hl⟩:=id I.loc;have hcls:(X.env.scope.kind== .class||(X.env.scope.kind== .module && X.env.locals !=X.env.globals))=false:=by rw[I.ok.kind];rfl
 have hiσ:i < σ.length:=by rw[I.len];exact(Y4.mp hi).1
 have cne:=I.cne;have l:∀{a:Wo} {h':Wr},(∃o,s.heap.get? a=some o/\H a=none)->Heap.SameBut a s.heap h'->NB X.prog X.w H h':=fun {a h'} ha hs b ob e=>by
  obtain⟨_,_,hfree⟩:=ha;refine(I.hok b ob e).stay (fun c w' g q=>(hs.2 c ?_).trans q) (fun _ q=>q) fun _ _ q=>q
  rintro rfl;rcases g with rfl|g
  .rw[hfree]at e;cases e
  .rw[hfree]at g;cases g
 rcases hx with hk|hk
 .refine wpAny_storeName_local hk hn (fun h' hn' hs=>?_) hcls;obtain⟨oL,_,_,hoL,_⟩:=id hn;refine h _ ⟨I.ok,I.os,I.bare,⟨fun b o e n hb hx=>?_,fun b o e n hb hx=>?_,I.base.free,fun b o e hx=>?_,I.base.tups,I.base.frzs,I.base.tbls⟩,⟨_,hn',fun j y v' f e2 e3=>?_⟩,fun y c e=>?_,I.free,I.freeC,fun p hp=>?_,l ⟨oL,hoL,I.free⟩ hs,by simpa using I.len⟩ ⟨_,hs,.inl rfl⟩
  .exact(hs.2 b (Yr (Yx (Yk e) I.ok.above))).trans (I.base.keep b o e n hb hx)
  .obtain⟨sl,f⟩:=I.base.slot b o e n hb hx;exact⟨sl,(hs.2 b (Yr (Yx (Yk e) I.ok.above))).trans f⟩
  .obtain⟨o',f⟩:=I.base.there b o e hx;exact⟨o',(hs.2 b (Yr (Yx (Yk e) I.ok.above))).trans f⟩
  .by_cases hj:j=i
   .subst hj;rw[hi]at f;cases f;rw[VQ hiσ]at e2;cases e2;exact⟨u,r,.inl ⟨hk,by simp⟩⟩
   .rw[VY (Ne.symm hj)]at e2;obtain⟨u',r',q⟩:=hl j y v' f e2 e3;refine⟨u',r',?_⟩;rcases q with⟨k,e⟩|⟨k,c,e,z⟩
    .refine .inl ⟨k,?_⟩;have:y≠x:=fun e=>hj (Og hN f (e▸hi))
     simp[this,e]
    .exact .inr ⟨k,c,e,z.sameBut hs (cne y c e)⟩
  .obtain⟨w',z⟩:=I.cell y c e;exact⟨w',z.sameBut hs (cne y c e)⟩
  .obtain⟨e,n,ne,nf,d⟩:=I.pin p hp;exact⟨(hs.2 p.1 ne).trans e,n,ne,nf,d⟩
 .have hfn:X.fn x=true:=by
   rcases hf with z|z
   .exact z
   .rw[z]at hk;cases hk
  obtain⟨c,g⟩:=I.ok.has x (.inl hk);obtain⟨w',z⟩:=I.cell x c g;refine wpAny_storeName_cell I.ok.kind hk g z (fun h' hc' hs=>?_);obtain⟨oc,hoc,hocd⟩:=id z;refine h {s with heap:=h'} ⟨I.ok,I.os,I.bare,⟨fun b o e n hb hx=>?_,fun b o e n hb hx=>?_,I.base.free,fun b o e hx=>?_,I.base.tups,I.base.frzs,I.base.tbls⟩,⟨m,hn.sameBut hs (Ne.symm (cne x c g)),fun j y v' f e2 e3=>?_⟩,fun y c' e=>?_,I.free,I.freeC,fun p hp=>?_,l ⟨oc,hoc,I.freeC x c g⟩ hs,by simpa using I.len⟩ ⟨c,hs,.inr g⟩
  .exact(hs.2 b (Yr (Yx (Yk e) (I.ok.cab x c hfn g)))).trans (I.base.keep b o e n hb hx)
  .obtain⟨sl,f⟩:=I.base.slot b o e n hb hx;exact⟨sl,(hs.2 b (Yr (Yx (Yk e) (I.ok.cab x c hfn g)))).trans f⟩
  .obtain⟨o',f⟩:=I.base.there b o e hx;exact⟨o',(hs.2 b (Yr (Yx (Yk e) (I.ok.cab x c hfn g)))).trans f⟩
  .by_cases hj:j=i
   .subst hj;rw[hi]at f;cases f;rw[VQ hiσ]at e2;cases e2;exact⟨u,r,.inr ⟨.inl hk,c,g,hc'⟩⟩
   .rw[VY (Ne.symm hj)]at e2;obtain⟨u',r',q⟩:=hl j y v' f e2 e3;refine⟨u',r',?_⟩;rcases q with q|⟨k,c',e,z'⟩
    .exact .inl q
    .refine .inr ⟨k,c',e,z'.sameBut hs ?_⟩;rintro rfl;exact hj (Og hN f (I.ok.inj _ _ _ e g▸hi))
  .by_cases hcc:c'=c
   .subst hcc;exact⟨_,hc'⟩
   .obtain⟨w2,z2⟩:=I.cell y c' e;exact⟨w2,z2.sameBut hs hcc⟩
  .obtain⟨e,n,ne,nf,d⟩:=I.pin p hp;refine⟨(hs.2 p.1 ?_).trans e,n,ne,nf,d⟩;intro q;rw[q,hoc]at e;have q':oc=p.2:=Option.some.inj e;exact d w' (by rw[<-q'];exact hocd)
theorem Kh{M:Model}{A:Wk}{E:We}{i:Nat}{x:Str}{v:V}{u:Wn}{Q:Wf}(I:Wx X pins σ H s)(hN:X.N.Nodup)(hi:X.N[i]?=some x)(hx:E1 X.env.scope x)(r:WI v u)
  (h:∀s',Wx X pins (σ.set i (some v)) H s'->Q () s') (hf:X.fn x=true\/X.env.scope.names.lookup x=some .local:=by first|exact .inl rfl|exact .inr rfl|assumption):wpAny M A (storeName X.env x u) Q E s:=
 gH I hN hi hx r (fun s' a _=>h s' a) hf
theorem Wx.call'{s':Wi}{ch:List Addr}(I:Wx X pins σ H s)(ho:s'.os=s.os)(u:Un (Mq X.stack) ch H H' s.heap s'.heap)(hok:NB X.prog X.w H' s'.heap)(hg:AllBare s'.gens)
  (hch:∀b∈ch,(b∈X.ex\/X.s₀.heap.objs.size <=b)/\b≠X.env.locals/\(∀x c,X.env.cells.lookup x=some c->c≠b)/\∀p∈X.pn++pins,p.1≠b):Wx X pins σ H' s':=by
 obtain⟨h',g',d',t',o'⟩:=s';have e:o'=s.os:=ho;subst e;exact I.call (g':=g') (t':=t') (d':=d') u hok hg hch
end
abbrev XK:=Value->Option Addr->Hp->Prop
abbrev St:=List (Option V)
abbrev VK:=V->Hp->Prop
abbrev TE:=St->Hp->VK->Prop
abbrev TT:=St->Hp->(Bool->Hp->Prop)->Prop
abbrev TA:=St->Hp->(List V->Hp->Prop)->Prop
structure T5 where
 nx:St->Hp->Prop
 rt:VK
 bk:St->Hp->Prop:=fun _ _=>False
 ct:St->Hp->Prop:=fun _ _=>False
abbrev TS:=T5->St->Hp->Prop
def EP(X:Cx)(pins:Wg)(σ:St)(Q:VK)(u:Wn)(s':Wi):Prop:=∃v H',Wx X pins σ H' s'/\WI v u/\Q v H'
def TP(X:Cx)(pins:Wg)(σ:St)(Q:Bool->Hp->Prop)(b:Bool)(s':Wi):Prop:=∃H',Wx X pins σ H' s'/\Q b H'
def AP(X:Cx)(pins:Wg)(σ:St)(Q:List V->Hp->Prop)(us:Wq)(s':Wi):Prop:=∃vs H',Wx X pins σ H' s'/\WD vs us/\Q vs H'
def SP(X:Cx)(pins:Wg)(D:T5)(f:Flow)(s':Wi):Prop:=
 match f with
 | .next=>∃σ' H',Wx X pins σ' H' s'/\D.nx σ' H'
 | .brk=>∃σ' H',Wx X pins σ' H' s'/\D.bk σ' H'
 | .cont=>∃σ' H',Wx X pins σ' H' s'/\D.ct σ' H'
 | .ret u=>∃v σ' H',Wx X pins σ' H' s'/\WI v u/\D.rt v H'
def PE(X:Cx)(e:Ws)(t:TE):Prop:=
 ∀ (pins:Wg) (s:Wi) (σ:St) (H:Hp) (Q:VK),Wx X pins σ H s->t σ H Q->wpAny (model X.prog X.w) X.A (eval e X.env) (EP X pins σ Q) X.xe s
def PT(X:Cx)(e:Ws)(t:TT):Prop:=
 ∀ (pins:Wg) (s:Wi) (σ:St) (H:Hp) (Q:Bool->Hp->Prop),Wx X pins σ H s->t σ H Q->wpAny (model X.prog X.w) X.A (isTrue e X.env (eval e X.env)) (TP X pins σ Q) X.xe s
def PW(X:Cx)(e:Ws)(t:TT):Prop:=
 ∀ (whole:Sem Value) (pins:Wg) (s:Wi) (σ:St) (H:Hp) (Q:Bool->Hp->Prop),Wx X pins σ H s->t σ H Q->wpAny (model X.prog X.w) X.A (isTrue e X.env whole) (TP X pins σ Q) X.xe s
theorem PW.pt{X:Cx}{e:Ws}{t:TT}(h:PW X e t):PT X e t:=h _
def PA(X:Cx)(es:List Expr)(t:TA):Prop:=
 ∀ (pos:Pos) (pins:Wg) (s:Wi) (σ:St) (H:Hp) (Q:List V->Hp->Prop),Wx X pins σ H s->t σ H Q->wpAny (model X.prog X.w) X.A (spliced (backTo pos (starEach es X.env))) (AP X pins σ Q) X.xe s
def PS(X:Cx)(st:Stmt)(t:TS):Prop:=
 ∀ (pins:Wg) (s:Wi) (σ:St) (H:Hp) (D:T5),Wx X pins σ H s->t D σ H->wpAny (model X.prog X.w) X.A (exec st X.env) (SP X pins D) X.xe s
def Mf(X:Cx)(st:List Stmt)(t:TS):Prop:=
 ∀ (pins:Wg) (s:Wi) (σ:St) (H:Hp) (D:T5),Wx X pins σ H s->t D σ H->wpAny (model X.prog X.w) X.A (execs st X.env) (SP X pins D) X.xe s
theorem WZ{α:Type}{t:Sem α}{Q Q':α->Shared->Prop}{M:Model}{A:Wk}{E:We}{s:Wi}(h:wpAny M A t Q E s)(hQ:∀a s,Q a s->Q' a s):wpAny M A t Q' E s:=YF h hQ fun _ _ x=>x
section
variable{X:Cx}
def F9(i:Nat):TE:=fun σ H Q=>∃v,σ[i]?=some (some v)/\Q v H
def tC(v:V):TE:=fun _ H Q=>Q v H
theorem SY{i:Nat}{x:Str}{pos:Pos}(hN:X.N[i]?=some x)(hv:BJ X.env.scope x)(hd:(x==("__debug__":Str))=false:=by decide)(hcd:(x==("__classdict__":Str))=false:=by decide):PE X (.Name x pos) (F9 i):=by
 intro pins s σ H Q I h;obtain⟨v,e,h⟩:=h;obtain⟨m,b,d⟩:=I.loc;obtain⟨u,r,l⟩:=d i x v hN e hv;have a:EP X pins σ Q u s:=⟨v,H,I,r,h⟩;rcases l with⟨hk,hm⟩|⟨hk,c,hc,hcell⟩
 .exact wpAny_Name (wpAny_loadName_local I.ok.kind hk b hm a) hd
 .rcases hk with hk|hk
  .exact wpAny_Name (wpAny_loadName_cell I.ok.kind hk hc hcell a) hd
  .exact wpAny_Name (wpAny_loadName_free I.ok.kind hk hc hcell a hcd) hd
theorem J1{i j pos}:PE X (.Constant (.int i) j pos) (tC (.int i)):=fun _ _ _ H _ I h=>wpAny_Constant_int ⟨.int i,H,I.tok _,⟨_,rfl⟩,h⟩
theorem Gv{b j pos}:PE X (.Constant (.bool b) j pos) (tC (.bl b)):=fun _ _ _ H _ I h=>Constant_bool ⟨.bl b,H,I,rfl,h⟩
theorem DC{j pos}:PE X (.Constant .none j pos) (tC .non):=fun _ _ _ H _ I h=>Constant_none ⟨.non,H,I,rfl,h⟩
theorem TH{x j pos}:PE X (.Constant (.str x) j pos) (tC (.str x)):=fun _ _ _ H _ I h=>Calls.Constant_str ⟨.str x,H,I.tok _,⟨_,rfl⟩,h⟩
def Gl(X:Cx)(x:Str):Prop:=X.env.kindOf x=some .globalImplicit
theorem L8{E:We}{pins:Wg}{s:Wi}{σ:St}{H:Hp}{x:Str}{u:Wn}{pos:Pos}{Q:We}(I:Wx X pins σ H s)(hg:Gl X x)(hm:X.mg x=some u)(h:Q u s)
  (hd:(x==("__debug__":Str))=false:=by decide):wpAny (model X.prog X.w) X.A (eval (.Name x pos) X.env) Q E s:=
 Vq I.ok.kind hg (Calls.loadGlobal_global (by rw[I.ok.glob];exact I.mod.glob.keeps I.bk) hm h) hd
theorem RM{E:We}{pins:Wg}{s:Wi}{σ:St}{H:Hp}{x:Str}{u:Wn}{pos:Pos}{Q:We}(I:Wx X pins σ H s)(hg:Gl X x)(hm:X.mg x=none)(hv:bootBuiltins x=some u)(h:Q u s)
  (hn:x≠"__name__":=by decide) (hd:(x==("__debug__":Str))=false:=by decide):wpAny (model X.prog X.w) X.A (eval (.Name x pos) X.env) Q E s:=by
 obtain⟨mb,h1,h2⟩:=I.mod.blt;exact Vq I.ok.kind hg (Calls.loadGlobal_builtin (by rw[I.ok.glob];exact I.mod.glob.keeps I.bk) hm (by rw[I.ok.blt];exact h1.keeps I.bk) ((h2 x hn).trans hv) h) hd
theorem Gz{x:Str}{v:V}{u:Wn}{pos:Pos}(hg:Gl X x)(hm:X.mg x=some u)(r:WI v u)(hd:(x==("__debug__":Str))=false:=by decide):PE X (.Name x pos) (tC v):=
 fun _ _ _ H _ I h=>L8 I hg hm ⟨v,H,I,r,h⟩ hd
theorem GX{x:Str}{v:V}{u:Wn}{pos:Pos}(hg:Gl X x)(hm:X.mg x=none)(hv:bootBuiltins x=some u)(r:WI v u)(hn:x≠"__name__":=by decide)(hd:(x==("__debug__":Str))=false:=by decide):PE X (.Name x pos) (tC v):=
 fun _ _ _ H _ I h=>RM I hg hm hv ⟨v,H,I,r,h⟩ hn hd
variable{a b:Ws}{ta tb:TE}{pos:Pos}
def tB(t:TE):TT:=fun σ H Q=>t σ H fun x H1=>∃c,x= .bl c/\Q c H1
theorem xD{e:Ws}{t:TE}(h:PE X e t)(he:∀whole,isTrue e X.env whole=(do let v <-whole;standAt e.pos;holding [v] (truthy v)):=by intro _;rfl):PT X e (tB t):=by
 intro pins s σ H Q I c;refine isTrue_plain (WZ (h pins s σ H _ I c) fun v s1 ⟨x,H1,f,a,b⟩=>?_) (he _);obtain⟨d,rfl,q⟩:=b;cases a;exact Xn ⟨H1,f,q⟩
variable{tA tB':TT}{rest:List Expr}
def KW(t u:TT):TT:=fun σ H Q=>t σ H fun c H1=>if c=true then u σ H1 Q else Q false H1
def Fw(t u:TT):TT:=fun σ H Q=>t σ H fun c H1=>if c=true then Q true H1 else u σ H1 Q
def Hv(t:TT):TT:=fun σ H Q=>t σ H fun c H1=>Q (!c) H1
theorem Er(ha:PT X a tA):PW X (.BoolOp .And [a] pos) tA:=by
 intro b pins s σ H Q I h;refine isTrue_and (WZ (ha pins s σ H Q I h) fun c s1 e=>?_);cases c with
 |true=>exact isTrue_and_nil e
 |false=>exact e
theorem GH(ha:PT X a tA):PW X (.BoolOp .Or [a] pos) tA:=by
 intro b pins s σ H Q I h;refine isTrue_or (WZ (ha pins s σ H Q I h) fun c s1 e=>?_);cases c with
 |false=>exact isTrue_or_nil e
 |true=>exact e
theorem EG(ha:PT X a tA)(hb:PW X (.BoolOp .And (b::rest) pos) tB'):PW X (.BoolOp .And (a::b::rest) pos) (KW tA tB'):=by
 intro f pins s σ H Q I h;refine isTrue_and (WZ (ha pins s σ H _ I h) fun c s1 ⟨H1,e,d⟩=>?_);cases c with
 |true=>exact hb f pins s1 σ H1 Q e d
 |false=>exact⟨H1,e,d⟩
theorem DQ(ha:PT X a tA)(hb:PW X (.BoolOp .Or (b::rest) pos) tB'):PW X (.BoolOp .Or (a::b::rest) pos) (Fw tA tB'):=by
 intro f pins s σ H Q I h;refine isTrue_or (WZ (ha pins s σ H _ I h) fun c s1 ⟨H1,e,d⟩=>?_);cases c with
 |true=>exact⟨H1,e,d⟩
 |false=>exact hb f pins s1 σ H1 Q e d
theorem TL(ha:PT X a tA):PT X (.UnaryOp .Not a pos) (Hv tA):=by
 intro pins s σ H Q I h;exact isTrue_not (ha pins s σ H (fun c H1=>Q (!c) H1) I h)
def EQ(ta tb:TE):TE:=fun σ H Q=>ta σ H fun x H1=>∃c,x= .bl c/\if c=true then tb σ H1 Q else Q (.bl false) H1
def ED(ta:TE):TE:=fun σ H Q=>ta σ H fun x H1=>∃c,x= .bl c/\Q (.bl (!c)) H1
theorem Db{op}{t:TE}(h:PE X a t):PE X (.BoolOp op [a] pos) t:=fun pins s σ H Q I b=>BoolOp_one (h pins s σ H Q I b)
theorem yI(ha:PE X a ta)(hb:PE X (.BoolOp .And (b::rest) pos) tb):PE X (.BoolOp .And (a::b::rest) pos) (EQ ta tb):=by
 intro pins s σ H Q I h;refine BoolOp_and (WZ (ha pins s σ H _ I h) fun v s1 ⟨x,H1,e,f,d⟩=>?_);obtain⟨c,rfl,d⟩:=d;cases f;refine Xn ?_;cases c with
 |true=>exact hb pins s1 σ H1 Q e d
 |false=>exact⟨.bl false,H1,e,rfl,d⟩
theorem Ss(ha:PE X a ta):PE X (.UnaryOp .Not a pos) (ED ta):=by
 intro pins s σ H Q I h;refine UnaryOp_ (WZ (ha pins s σ H _ I h) fun v s1 ⟨x,H1,e,d,b⟩=>?_);obtain⟨c,rfl,b⟩:=b;cases d;exact not_of (Xn ⟨.bl (!c),H1,e,rfl,b⟩)
def L9(t:TT)(ta tb:TE):TE:=fun σ H Q=>t σ H fun c H1=>if c=true then ta σ H1 Q else tb σ H1 Q
theorem Pr{c:Ws}(hc:PT X c tA)(ha:PE X a ta)(hb:PE X b tb):PE X (.IfExp c a b pos) (L9 tA ta tb):=by
 intro pins s σ H Q I h;refine wpAny_IfExp (WZ (hc pins s σ H _ I h) fun d s1 ⟨H1,f,e⟩=>?_);cases d with
 |true=>exact ha pins s1 σ H1 Q f e
 |false=>exact hb pins s1 σ H1 Q f e
end
def WB(K:Wm)(H:Hp)(a:Wo)(xs:List V):Prop:=
 Rd H a (.lst xs)\/
  ∃ (o:Obj) (its:Array Value) (n:Nat),K.lookup a=some o/\o.cls= .type "list"/\o.dict=none/\o.data= .seq its n/\its.size <=sizeLine/\WD xs its.toList
def JV(K:Wm)(H:Hp)(a:Wo)(xs:List V):Prop:=
 Rd H a (.tup xs)\/
  ∃ (o:Obj) (its:Array Value) (n:Nat),K.lookup a=some o/\o.cls= .type "tuple"/\o.data= .seq its n/\its.size <=sizeLine/\WD xs its.toList
def wM:Value->Option V
 | .none=>some .non
 | .bool b=>some (.bl b)
 | .int i _=>some (.int i)
 | .str x _=>some (.str x)
 | .bytes b _=>some (.byt b)
 | .float b _=>some (.flt b)
 | .ref a=>some (.ref a)
 | .type n=>some (.ty n)
 |_=>none
theorem WI.abs{x:V}{u:Wn}(r:WI x u):wM u=some x:=by
 cases x with
 |non=>cases r;rfl
 |bl _=>cases r;rfl
 |int _=>obtain⟨t,rfl⟩:=r;rfl
 |str _=>obtain⟨t,rfl⟩:=r;rfl
 |byt _=>obtain⟨t,rfl⟩:=r;rfl
 |flt _=>obtain⟨t,rfl⟩:=r;rfl
 |ref _=>cases r;rfl
 |ty _=>cases r;rfl
theorem WI.inj{x y:V}{u:Wn}(r:WI x u)(q:WI y u):x=y:=Option.some.inj (r.abs.symm.trans q.abs)
theorem WD.inj:∀{xs ys:List V} {us:Wq},WD xs us->WD ys us->xs=ys
 |_,_,_,.nil,.nil=>rfl
 |_,_,_,.cons r t,.cons r' t'=>by rw[r.inj r',WD.inj t t']
section
variable{X:Cx}{pins:Wg}{σ:St}{H:Hp}{s:Wi}{a:Wo}{xs ys:List V}
theorem WB.of{K:Wm}(h:H a=some (.lst xs)):WB K H a xs:=.inl (.inl h)
theorem JV.of{K:Wm}(h:H a=some (.tup xs)):JV K H a xs:=.inl (.inl h)
theorem Wx.list(I:Wx X pins σ H s)(h:WB X.K H a xs):∃its:List Value,WD xs its/\PlainL s.heap a its.toArray/\xs.length <=sizeLine:=by
 rcases h with h|⟨o,its,n,hk,hc,hd,hs,hz,r⟩
 .obtain⟨z,its,n,r,e⟩:=h.ok I.hok;exact⟨its,r,⟨_,n,e,rfl,rfl,rfl⟩,z⟩
 .refine⟨its.toList,r,⟨o,n,I.kIn a o hk,hc,hd,by simpa using hs⟩,?_⟩;have e:=r.length;simp only[Array.length_toList]at e
  lia
theorem Wx.tuple(I:Wx X pins σ H s)(h:JV X.K H a xs):∃its:List Value,WD xs its/\IsTup s.heap a its.toArray/\xs.length <=sizeLine:=by
 rcases h with h|⟨o,its,n,hk,hc,hs,hz,r⟩
 .obtain⟨z,its,r,p⟩:=h.ok I.hok;exact⟨its,r,p,z⟩
 .refine⟨its.toList,r,⟨o,I.kIn a o hk,hc,n,by simpa using hs⟩,?_⟩;have e:=r.length;simp only[Array.length_toList]at e
  lia
theorem Wx.list_inj(I:Wx X pins σ H s)(h:WB X.K H a xs)(h':WB X.K H a ys):xs=ys:=by
 obtain⟨c,r,⟨o,n,e,_,_,d⟩,_⟩:=I.list h;obtain⟨b,i,⟨o',j,f,_,_,g⟩,_⟩:=I.list h';rw[e]at f;cases f;rw[d]at g;injection g with d1 _;have:c=b:=by simpa using X0 Array.toList d1
 subst this;exact r.inj i
end
abbrev Cx.wish(X:Cx)(E:We):Cx:={X with xe:=E}
abbrev Cx.nox(X:Cx):Cx:=X.wish fun _ _=>False
theorem Cx.Ok.wish{X:Cx}(ok:X.Ok)(E:We):(X.wish E).Ok:=
 ⟨ok.mod,ok.kind,ok.glob,ok.blt,ok.above,ok.inj,ok.has,ok.cab,ok.hd,ok.frames,ok.stk,ok.exf,ok.bs,ok.bsz,ok.noex,ok.exfs,ok.funs,ok.frf⟩
theorem Cx.Ok.unwish{X:Cx}{E:We}(ok:(X.wish E).Ok):X.Ok:=
 ⟨ok.mod,ok.kind,ok.glob,ok.blt,ok.above,ok.inj,ok.has,ok.cab,ok.hd,ok.frames,ok.stk,ok.exf,ok.bs,ok.bsz,ok.noex,ok.exfs,ok.funs,ok.frf⟩
section
variable{X:Cx}{pins:Wg}{σ:St}{H:Hp}{s:Wi}{E:We}
theorem Wx.wish(I:Wx X pins σ H s)(E:We):Wx (X.wish E) pins σ H s:=⟨I.ok.wish E,I.os,I.bare,I.base,I.loc,I.cell,I.free,I.freeC,I.pin,I.hok,I.len⟩
theorem Wx.unwish(I:Wx (X.wish E) pins σ H s):Wx X pins σ H s:=⟨I.ok.unwish,I.os,I.bare,I.base,I.loc,I.cell,I.free,I.freeC,I.pin,I.hok,I.len⟩
theorem SP.unwish{D:T5}{f:Flow}{s':Wi}(h:SP (X.wish E) pins D f s'):SP X pins D f s':=by
 cases f with
 |next=>obtain⟨σ',H',I,q⟩:=h;exact⟨σ',H',I.unwish,q⟩
 |brk=>obtain⟨σ',H',I,q⟩:=h;exact⟨σ',H',I.unwish,q⟩
 |cont=>obtain⟨σ',H',I,q⟩:=h;exact⟨σ',H',I.unwish,q⟩
 |ret u=>obtain⟨v,σ',H',I,r,q⟩:=h;exact⟨v,σ',H',I.unwish,r,q⟩
theorem Mf.nox{st:List Stmt}{t:TS}(h:Mf X.nox st t):Mf X st t:=fun pins s σ H D I a=>
 YF (h pins s σ H D (I.wish _) a) (fun _ _ q=>q.unwish) fun _ _ z=>False.elim z
end
section
variable{X:Cx}{st:Stmt}{rest:List Stmt}{t u:TS}{e:Ws}{te:TE}{pos:Pos}
def Kp:TS:=fun D σ H=>D.nx σ H
def D9(t u:TS):TS:=fun D σ H=>t {D with nx:=u D} σ H
theorem Nr:Mf X [] Kp:=fun _ _ σ H _ I h=>V1 ⟨σ,H,I,h⟩
theorem WN(h1:PS X st t)(h2:Mf X rest u):Mf X (st::rest) (D9 t u):=by
 intro pins s σ H D I h;refine wpAny_execs_cons (WZ (h1 pins s σ H {D with nx:=u D} I h) fun f s1 q=>?_);cases f with
 |next=>
  obtain⟨σ',H',a,q⟩:=q;exact h2 pins s1 σ' H' D a q
 |ret v=>exact q
 |brk=>exact q
 |cont=>exact q
theorem WV(h1:PS X st t):Mf X [st] t:=by
 intro pins s σ H D I h;refine wpAny_execs_cons (WZ (h1 pins s σ H D I h) fun f s1 q=>?_);cases f with
 |next=>exact V1 q
 |ret v=>exact q
 |brk=>exact q
 |cont=>exact q
def IL:TS:=fun D σ H=>D.bk σ H
theorem Sw:PS X (.Break pos) IL:=fun _ _ σ H _ I h=>wpAny_Break ⟨σ,H,I,h⟩
theorem Wx.quiet{pins:Wg}{σ:St}{H:Hp}{s:Wi}(I:Wx X pins σ H s):interactive X.env=false:=by simp[interactive,I.ok.kind]
def IY(te:TE):TS:=fun D σ H=>te σ H fun _ H1=>D.nx σ H1
theorem MB(he:PE X e te)(hs:swapsWith e none pos.line X.env=pure false:=by rfl):PS X (.Expr e pos) (IY te):=by
 intro pins s σ H D I h;exact wpAny_Expr_any (WZ (he pins s σ H _ I h) fun v s1 ⟨x,H1,b,c,a⟩=>⟨σ,H1,b,a⟩) I.quiet hs
def L3(te:TE):TS:=fun D σ H=>te σ H D.rt
theorem Jr(he:PE X e te):PS X (.Return (some e) pos) (L3 te):=by
 intro pins s σ H D I h;exact wpAny_Return_some (WZ (he pins s σ H _ I h) fun v s1 ⟨x,H1,c,a,b⟩=>⟨x,σ,H1,c,a,b⟩)
def FL(c:TT)(t u:TS):TS:=fun D σ H=>c σ H fun b H1=>if b=true then t D σ H1 else u D σ H1
theorem Nf{c:Ws}{a b:List Stmt}{tc:TT}(hc:PT X c tc)(ha:Mf X a t)(hb:Mf X b u):PS X (.If c a b pos) (FL tc t u):=by
 intro pins s σ H D I h;refine wpAny_If (WZ (hc pins s σ H _ I h) fun d s1 ⟨H1,f,e⟩=>?_);cases d with
 |true=>exact ha pins s1 σ H1 D f e
 |false=>exact hb pins s1 σ H1 D f e
def mW:TS:=fun _ _ _=>False
theorem Gm{sts:List Stmt}:Mf X sts mW:=fun _ _ _ _ _ _ h=>h.elim
end
abbrev TG:=V->St->Hp->(St->Hp->Prop)->Prop
abbrev RP:=List V->St->Hp->(St->Hp->Prop)->Prop
def PG(X:Cx)(target:Ws)(t:TG):Prop:=
 ∀ (pins:Wg) (s:Wi) (σ:St) (H:Hp) (v:V) (u:Wn) (Q:St->Hp->Prop),Wx X pins σ H s->WI v u->t v σ H Q->
  wpAny (model X.prog X.w) X.A (assign target X.env u) (fun _ s'=>∃σ' H',Wx X pins σ' H' s'/\Q σ' H') X.xe s
def BG(X:Cx)(ts:List Expr)(t:RP):Prop:=
 ∀ (pins:Wg) (s:Wi) (σ:St) (H:Hp) (vs:List V) (us:Wq) (Q:St->Hp->Prop),Wx X pins σ H s->WD vs us->t vs σ H Q->
  wpAny (model X.prog X.w) X.A (assignInOrder ((assignEach ts X.env).map (·.2)) us) (fun _ s'=>∃σ' H',Wx X pins σ' H' s'/\Q σ' H') X.xe s
section
variable{X:Cx}{pos:Pos}
def Rk(i:Nat):TG:=fun v σ H Q=>Q (σ.set i (some v)) H
theorem Dk{i:Nat}{x:Str}(hN:X.N.Nodup)(hi:X.N[i]?=some x)(hx:E1 X.env.scope x)(hf:X.fn x=true\/X.env.scope.names.lookup x=some .local:=by first|exact .inl rfl|exact .inr rfl|assumption):PG X (.Name x pos) (Rk i):=by
 intro pins s σ H v u Q I r h;exact wpAny_assign_Name (Kh I hN hi hx r (fun s' a=>⟨_,H,a,h⟩) hf)
def Fm:RP:=fun vs σ H Q=>vs=[]/\Q σ H
def FT(t:TG)(u:RP):RP:=fun vs σ H Q=>∃v r,vs=v::r/\t v σ H fun σ' H'=>u r σ' H' Q
theorem Ee:BG X [] Fm:=by
 intro pins s σ H vs a Q I r h;obtain⟨e,h⟩:=h;subst e;cases r;exact assignInOrder_nil ⟨σ,H,I,h⟩
theorem Dn{e:Ws}{es:List Expr}{t:TG}{u:RP}(h1:PG X e t)(h2:BG X es u)
  (hs:(assignEach (e::es) X.env).map (·.2)=assign e X.env::(assignEach es X.env).map (·.2):=by rfl):BG X (e::es) (FT t u):=by
 intro pins s σ H vs f Q I r h;obtain⟨v,d,b,h⟩:=h;subst b;cases r with
 |cons r rr=>
  rw[hs];refine assignInOrder_cons (WZ (h1 pins s σ H _ _ _ I r h) fun _ s1 ⟨σ1,H1,c,a⟩=>?_);exact h2 pins s1 σ1 H1 _ _ Q c rr a
def AI(K:Wm)(n:Nat)(t:RP):TG:=fun v σ H Q=>∃a xs,v= .ref a/\JV K H a xs/\xs.length=n/\t xs σ H Q
theorem mJ{es:List Expr}{k:Nat}{t:RP}{n:Nat}(hc:X.calm=true)(h:BG X es t)
  (hn:(assignEach es X.env).length=n:=by rfl) (hst:(assignEach es X.env).findIdx? (·.1)=none:=by rfl):PG X (.Tuple es k pos) (AI X.K n t):=by
 intro pins s σ H v u Q I r c;obtain⟨a,xs,l,i,j,c⟩:=c;subst l;cases r;obtain⟨q,d,g,w⟩:=I.tuple i;refine assign_Tuple_tuple (I.ok.hd hc) g (by simp[hn,<-j,d.length]) hst fun h' f=>?_
 have p:Wx X pins σ H {s with heap:=h'}:=I.kept (t':=s.toks) fun b o e=>f b o (Yr (Yk e)) e
 exact h pins _ σ H xs _ Q p (by simpa using d) c
def Ei(te:TE)(g:TG):TS:=fun D σ H=>te σ H fun x H1=>g x σ H1 D.nx
theorem Hj{tg e:Ws}{te:TE}{g:TG}(he:PE X e te)(hg:PG X tg g)(hs:swapsWithSole [tg] e pos.line X.env=pure false:=by rfl)(hw:swappedStores [tg] e X.env=pure none:=by rfl)
  (h1:(assignEach [tg] X.env).map (·.2)=[assign tg X.env]:=by rfl):PS X (.Assign [tg] e pos) (Ei te g):=by
 intro pins s σ H D I h;refine wpAny_Assign_stores (WZ (he pins s σ H _ I h) fun v s1 ⟨x,H1,c,a,b⟩=>?_) hs hw;rw[h1];exact WZ (hg pins s1 σ H1 x v _ c a b) fun _ s2 q=>q
theorem F2{i:Nat}{x:Str}{e:Ws}{te:TE}{pos':Pos}(hN:X.N.Nodup)(hi:X.N[i]?=some x)(hx:E1 X.env.scope x)(he:PE X e te)(hs:swapsWith e (some (.Name x pos')) pos.line X.env=pure false:=by rfl)(hf:X.fn x=true\/X.env.scope.names.lookup x=some .local:=by first|exact .inl rfl|exact .inr rfl|assumption):
  PS X (.Assign [.Name x pos'] e pos) (Ei te (Rk i)):=by
 intro pins s σ H D I h;refine wpAny_Assign_Name (WZ (he pins s σ H _ I h) fun v s1 ⟨y,H1,d,a,b⟩=>?_) hs;exact Kh d hN hi hx a (fun s2 c=>⟨_,H1,c,b⟩) hf
def nI(c:TT)(tb:TS):TS:=fun D σ H=>∃W:Nat->St->Hp->Prop,(∃m,W m σ H)/\∀m σ H,W m σ H->
 c σ H fun b H1=>if b=true then ∃N:St->Hp->Prop,(∀σ' H',N σ' H'->∃m',m' < m/\W m' σ' H')/\tb {D with nx:=N,ct:=N,bk:=D.nx} σ H1 else D.nx σ H1
theorem wC{c:Ws}{body:List Stmt}{tc:TT}{tb:TS}(hp:PassesOwn (model X.prog X.w) X.A X.env X.xe)(hc:PT X c tc)(hb:Mf X body tb):PS X (.While c body [] pos) (nI tc tb):=by
 intro pins s σ H D I h;obtain⟨W,⟨m0,w0⟩,i⟩:=h;refine wpAny_While (codeAny_whileLoop (fun n s'=>∃σ' H',Wx X pins σ' H' s'/\W n σ' H') ?_ m0 ⟨σ,H,I,w0⟩);rintro n s1 ⟨σ1,H1,I1,z⟩;refine XM hp (WZ (hc pins s1 σ1 H1 _ I1 (i n σ1 H1 z)) fun b s2 ⟨H2,r,e⟩=>?_);cases b with
 |true=>
  obtain⟨N,q,e⟩:=e;rw[Y3 rfl];refine XM hp (WZ (hb pins s2 σ1 H2 _ r e) fun f s3 d=>?_);cases f with
  |next=>
   obtain⟨σ3,a,p,j⟩:=d;obtain⟨l,o,g⟩:=q σ3 a j;exact⟨l,o,σ3,a,p,g⟩
  |cont=>
   obtain⟨σ3,a,p,j⟩:=d;obtain⟨l,o,g⟩:=q σ3 a j;exact⟨l,o,σ3,a,p,g⟩
  |brk=>exact d
  |ret v=>exact d
 |false=>
  rw[Y2 Yf];exact V1 ⟨σ1,H2,r,e⟩
end
structure It where
 go:Nat->Hp->Prop
 yld:Nat->Hp->V->Hp->Prop
 stop:Nat->Hp->Prop
def M6(X:Cx)(pins:Wg)(H:Hp)(b:Wo):Prop:=
 H b=none/\b≠X.env.locals/\b∉X.fs/\(b∈X.ex\/X.s₀.heap.objs.size <=b)/\(∀x c,X.env.cells.lookup x=some c->c≠b)/\∀p∈X.pn++pins,p.1≠b
theorem Wx.fpOk{X:Cx}{pins:Wg}{σ:St}{H H':Hp}{s:Wi}{b:Wo}(I:Wx X pins σ H s)(hb:s.heap.objs.size <=b)(hn:H' b=none):M6 X pins H' b:=by
 refine⟨hn,V2 (Yx I.lt hb),I.nofs hb,.inr (YH I.sz hb),fun x c e z=>?_,fun p a z=>?_⟩
 .obtain⟨v,q⟩:=I.cell x c e;exact absurd (Yx q.lt (by rw[z];exact hb)) (X8 _)
 .exact absurd (Yx (Yk (I.pin p a).1) (by rw[z];exact hb)) (X8 _)
structure R3(P:Wh)(w:Wl)(K:Wm)(tg:Ws)(J:It)(fp:List Addr)(it:Wo)(tn:Nat->Heap->Prop):Prop where
 mem:it∈fp
 obj:∀i h,tn i h->∀b∈fp,∃o,h.get? b=some o/\∀v,o.data≠ .cell v
 keep:∀i h h',tn i h->(∀b∈fp,∀o,h.get? b=some o->h'.get? b=some o)->tn i h'
 item:∀ (X:Cx),X.prog=P->X.w=w->X.K=K->X.calm=true->∀ (i:Nat) (pins:Wg) (s:Wi) (σ:St) (H:Hp) (E:We),Wx X pins σ H s->(∀b∈fp,M6 X pins H b)->tn i s.heap->J.go i H->
  wpAny (model P w) X.A (pyNext (.ref it)) (fun r s1 => ∃ u, r = some u /\
   wpAny (model P w) X.A (letOwnedTupleGo tg (.ref it) u) (fun _ s2 => ∃ x H', Wx X pins σ H' s2 /\ WI x u /\ J.yld i H x H' /\ tn (i + 1) s2.heap /\ ∀ b ∈ fp, H' b = none) E s1) E s
 done:∀ (X:Cx),X.prog=P->X.w=w->X.K=K->X.calm=true->∀ (i:Nat) (pins:Wg) (s:Wi) (σ:St) (H:Hp) (E:We),Wx X pins σ H s->(∀b∈fp,M6 X pins H b)->tn i s.heap->J.stop i H->
  wpAny (model P w) X.A (pyNext (.ref it)) (fun r s1=>r=none/\Wx X pins σ H s1) E s
 self:∀ (A:Wk) (i:Nat) (s:Wi) (Q:We) (E:We),tn i s.heap->Q (.ref it) s->wpAny (model P w) A (pyIter (.ref it)) Q E s
abbrev TI:=St->Hp->(It->Hp->Prop)->Prop
def FK(X:Cx)(pins:Wg)(σ:St)(tg:Ws)(R:It->Hp->Prop)(itv:Wn)(s2:Wi):Prop:=
 ∃ (it:Wo) (fp:List Addr) (tn:Nat->Heap->Prop) (J:It) (H':Hp),itv= .ref it/\Wx X pins σ H' s2/\R3 X.prog X.w X.K tg J fp it tn/\tn 0 s2.heap/\(∀b∈fp,M6 X pins H' b)/\R J H'
def PI(X:Cx)(tg iter:Ws)(wi:TI):Prop:=
 ∀ (pins:Wg) (s:Wi) (σ:St) (H:Hp) (R:It->Hp->Prop),Wx X pins σ H s->wi σ H R->
  wpAny (model X.prog X.w) X.A (eval iter X.env) (fun v s1=>wpAny (model X.prog X.w) X.A (pyIter v) (FK X pins σ tg R) X.xe s1) X.xe s
theorem ES{M:Model}{A:Wk}{E:We}{s:Wi}{tg:Ws}{it:Wo}{u:Wn}{o:Obj}{n:String}{vs:Array Value}{Q:Wf}(ho:s.heap.get? it=some o)(hc:o.cls= .type n)(hd:o.data= .fields vs)
    (hn:["enumerate","zip","dict_itemiterator","dict_reverseitemiterator","odict_iterator","itertools.zip_longest","itertools.pairwise"].contains n=false) (hQ:Q () s):wpAny M A (letOwnedTupleGo tg (.ref it) u) Q E s:=by
  unfold letOwnedTupleGo
  cases tg <;> first
    |exact Ye hQ
    | (cases u <;> first
        |exact Ye hQ
        | (refine Y1 (wpAny_load ho ?_)
           rw[hc,hd]
           show wpAny M A (if(["enumerate","zip","dict_itemiterator","dict_reverseitemiterator","odict_iterator","itertools.zip_longest","itertools.pairwise"].contains n && vs[0]?==some (rawInt _))=true then _ else _) Q E s
           rw[Y2 (by intro h;rw[hn,XE]at h;cases h)]
           exact Ye hQ))
def Rl(K:Wm)(a:Wo):It:=
 ⟨fun i H=>∃xs x,WB K H a xs/\xs[i]?=some x,fun i H x H'=>H'=H/\∀xs,WB K H a xs->xs[i]?=some x,fun i H=>∃xs,WB K H a xs/\xs.length <=i⟩
def GL(lo:Int)(n:Nat):It:=⟨fun i _=>i < n,fun i H x H'=>H'=H/\x= .int (lo+ i),fun i _=>n <=i⟩
theorem wS{P:Wh}{w:Wl}{K:Wm}{tg:Ws}(a it:Wo):R3 P w K tg (Rl K a) [it] it (fun i h=>h.IsListIter it a i) where
 mem:=by simp
 obj:=fun i h st b f=>by
  have e:b=it:=by simpa using f
  subst e;obtain⟨o,e,c,d⟩:=st;exact⟨o,e,fun v z=>by rw[d]at z;cases z⟩
 keep:=fun i h h' st k=>st.at fun o e=>k it (by simp) o e
 item:=by
  intro X hP r hK hc i pins s σ H E I j st hg;subst hP r hK;obtain⟨xs,x,g,q⟩:=hg;obtain⟨its,n,p,hz⟩:=I.list g;obtain⟨u,hu,ru⟩:=n.get q;obtain⟨f0,f1,f2,f3,f4,f5⟩:=j it (by simp);refine wpAny_pyNext_list_item st p.isList (x:=u) (by simpa using hu) fun h' l sb=>?_
  have I1:Wx X pins σ H {s with heap:=h'}:=I.turned (t':=s.toks) (fun b o f e=>(sb.2 b f).trans e) f0 f1 f3 f4 f5;obtain⟨o,e,c,d⟩:=id l;exact⟨u,rfl,ES (s:={s with heap:=h'}) e c d (by decide) ⟨x,H,I1,ru,⟨rfl,fun ys hy=>by rw[I.list_inj hy g];exact q⟩,l,fun b f=>(j b f).1⟩⟩
 done:=by
  intro X hP r hK hc i pins s σ H E I j st hg;subst hP r hK;obtain⟨xs,g,q⟩:=hg;obtain⟨its,n,p,hz⟩:=I.list g;obtain⟨f0,f1,f2,f3,f4,f5⟩:=j it (by simp);have hl:=n.length;exact wpAny_pyNext_list_end (I.ok.hd hc) st p.isList (by simp;lia) fun h' eb=>⟨rfl,I.turned (t':=s.toks) (fun b o f e=>eb b o f e) f0 f1 f3 f4 f5⟩
 self:=fun _ _ _ _ _ st h=>wpAny_pyIter_listiter st h
theorem vC{P:Wh}{w:Wl}{K:PySem.W.Frag}{tg:Ws}(it:Wo)(lo:Int)(n:Nat):R3 P w K tg (GL lo n) [it] it (fun i h=>IsRangeIter h it (lo+ (i:Nat)*1) ((n:Int) - (i:Nat)) 1) where
 mem:=by simp
 obj:=fun i h st b a=>by
  have e:b=it:=by simpa using a
  subst e;exact ⟨_, st, fun v z => by
   have z' : Data.fields _ = Data.cell v := z;cases z'⟩
 keep:=fun i h h' st k=>k it (by simp) _ st
 item:=by
  intro X l f p j i pins s σ H E I c st g;subst l f p;obtain⟨f0,f1,f2,f3,r,q⟩:=c it (by simp);have W:=Walks.range (prog:=X.prog) (w:=X.w) (I.ok.hd j) it lo 1 n;refine W.item i s _ _ g st fun v h' tk hv d kk=>?_
  obtain⟨t,rfl⟩:=hv;have I1:Wx X pins σ H {s with heap:=h',toks:=tk}:=I.turned (fun b o a e=>kk b o (by simpa using a) e) f0 f1 f3 r q;refine⟨_,rfl,ES (s:={s with heap:=h',toks:=tk}) (n:="range_iterator") d rfl rfl (by decide) ⟨.int (lo+ i),H,I1,⟨t,?_⟩,⟨rfl,rfl⟩,d,fun b a=>(c b a).1⟩⟩;rw[Int.mul_one]
 done:=by
  intro X l f p j i pins s σ H E I c st g;subst l f p;obtain⟨f0,f1,f2,f3,r,q⟩:=c it (by simp);exact wpAny_pyNext_range_end (I.ok.hd j) st (by have:n <=i:=g;lia) fun h' eb=>⟨rfl,I.turned (t':=s.toks) (fun b o a e=>eb b o a e) f0 f1 f3 r q⟩
 self:=fun _ _ _ _ _ st h=>wpAny_pyIter_rangeiter st h
section
variable{X:Cx}{tg:Ws}
def E3(K:Wm)(tl:TE):TI:=fun σ H R=>tl σ H fun x H1=>∃a,x= .ref a/\(∃xs,WB K H1 a xs)/\R (Rl K a) H1
theorem jZ{l:Ws}{tl:TE}(hl:PE X l tl):PI X tg l (E3 X.K tl):=by
 intro pins s σ H R I h;refine WZ (hl pins s σ H _ I h) fun v s1 ⟨x,H1,c,d,f⟩=>?_
 obtain⟨a,e,⟨xs,g⟩,q⟩:=f;subst e;cases d;obtain⟨j,n,p,r⟩:=c.list g;refine XR p.isList ?_;refine⟨s1.heap.objs.size,[s1.heap.objs.size],_,_,H1,rfl,c.kept (t':=s1.toks) fun b o e=>Y7 _ e,wS a _,⟨_,Yl _ rfl,rfl,rfl⟩,fun b i=>?_,q⟩;have e:b=s1.heap.objs.size:=by simpa using i
 subst e;exact c.fpOk (Y5 _) (c.hok.fresh (Y5 _))
theorem ZS{pins:Wg}{σ:St}{H:Hp}{s:Wi}{R:It->Hp->Prop}{E:We}{lo hi:Int}{t u v:Tok}{tk:Nat}(I:Wx X pins σ H s)(h1: -(2 ^ 62) <=lo)(h2:lo < 2 ^ 62)(h3: -(2 ^ 62) <=hi)(h4:hi < 2 ^ 62)
  (q:R (GL lo (hi - lo).toNat) H):wpAny (model X.prog X.w) X.A (pyIter (.ref s.heap.objs.size)) (FK X pins σ tg R) E {s with heap:=s.heap.push {cls:=.type "range",data:=.fields #[.int lo t,.int hi u,.int 1 v]},toks:=tk}:=by
 refine wpAny_pyIter_range (IsRange.new ..) (small_one h1 h2 h3 h4) ?_;have a:Wx X pins σ H {s with heap:=s.heap.push {cls:=.type "range",data:=.fields #[.int lo t,.int hi u,.int 1 v]},toks:=tk}:=I.kept fun b o e=>Y7 _ e
 refine ⟨(s.heap.push { cls := .type "range", data := .fields #[.int lo t, .int hi u, .int 1 v] }).objs.size, [(s.heap.push { cls := .type "range", data := .fields #[.int lo t, .int hi u, .int 1 v] }).objs.size], _, _, H, rfl,
  a.kept (t' := tk) fun b o e => Y7 _ e, vC _ lo (hi - lo).toNat, ?_, fun b c => ?_, q⟩
 .have f:lo+ ((0:Nat):Int)*1=lo:=by simp
  have d:(((hi - lo).toNat:Nat):Int) - ((0:Nat):Int)=Builtin.Range.rangeSize lo hi 1:=by rw[rangeSize_one];split <;> lia
  show IsRangeIter _ _ (lo+ ((0:Nat):Int)*1) ((((hi - lo).toNat:Nat):Int) - ((0:Nat):Int)) 1;rw[f,d];exact Yl _ rfl
 .have e:b=(s.heap.push {cls:=.type "range",data:=.fields #[.int lo t,.int hi u,.int 1 v]}).objs.size:=by simpa using c
  subst e;exact a.fpOk (Y5 _) (a.hok.fresh (Y5 _))
def Eu(ta:TA):TI:=fun σ H R=>ta σ H fun vs H1=>∃j:Int,vs=[.int j]/\ -(2 ^ 62) <=j/\j < 2 ^ 62/\R (GL 0 j.toNat) H1
theorem mK{a:Ws}{ta:TA}{p pos:Pos}(hg:Gl X "range")(hm:X.mg "range"=none)(ha:PA X [a] ta)(hs:starEach [a] X.env=[(false,eval a X.env)]:=by rfl):PI X tg (.Call (.Name "range" p) [a] [] pos) (Eu ta):=by
 intro pins s σ H R I h;refine Call_ (RM I hg hm boot_range (XH (WZ (ha pos pins s σ H _ I h) fun g s1 ⟨vs,H1,f,c,b⟩=>?_) hs rfl));obtain⟨j,e,b,d,q⟩:=b;subst e;cases c with
 |cons r rr=>
  cases rr;obtain⟨t,rfl⟩:=r;exact call_range_1 (ZS f (by lia) (by lia) b d (by simpa using q))
def P1(wi:TI)(g:TG)(tb:TS):TS:=fun D σ H=>wi σ H fun J H1=>∃W:Nat->Nat->St->Hp->Prop,(∃m,W 0 m σ H1)/\∀i m σ H,W i m σ H->
 (J.stop i H/\D.nx σ H)\/(J.go i H/\∃N:St->Hp->Prop,(∀σ' H',N σ' H'->∃m',m' < m/\W (i+ 1) m' σ' H')/\∀x H',J.yld i H x H'->g x σ H' fun σ2 H2=>tb {D with nx:=N,ct:=N,bk:=D.nx} σ2 H2)
def BK(fp:List Addr)(h:Wr):List (Addr×Obj):=fp.filterMap fun b=>(h.get? b).map fun o=>(b,o)
theorem Cg{fp:List Addr}{h:Wr}{b:Wo}{o:Obj}(hb:b∈fp)(e:h.get? b=some o):(b,o)∈BK fp h:=List.mem_filterMap.mpr ⟨b,hb,by rw[e];rfl⟩
theorem SC{fp:List Addr}{h:Wr}{p:Addr×Obj}(hp:p∈BK fp h):p.1∈fp/\h.get? p.1=some p.2:=by
 obtain⟨b,a,e⟩:=List.mem_filterMap.mp hp;cases q:h.get? b with
 |none=>rw[q]at e;cases e
 |some o=>
  rw[q]at e;have c:(b,o)=p:=Option.some.inj e;subst c;exact⟨a,q⟩
theorem Wx.pinned{pins:Wg}{σ:St}{H:Hp}{s:Wi}{fp:List Addr}(I:Wx X pins σ H s)(hf:∀b∈fp,M6 X pins H b)(ho:∀b∈fp,∃o,s.heap.get? b=some o/\∀v,o.data≠ .cell v):Wx X (pins++BK fp s.heap) σ H s:=
 I.pins_of fun p f=>(Yj.mp f).elim (fun z=>I.pin p (Yv _ z)) fun z=>by
  obtain⟨a,e⟩:=SC z;obtain⟨i,h,g,_⟩:=hf p.1 a;obtain⟨o,c,d⟩:=ho p.1 a;rw[e]at c;cases c;exact⟨e,i,h,g,d⟩
theorem Wx.unpinned{pins pl:Wg}{σ:St}{H:Hp}{s:Wi}(I:Wx X (pins++pl) σ H s):Wx X pins σ H s:=I.pins_of fun p a=>I.pin p (Yv _ (YG _ a))
theorem Gi{iter:Ws}{body:List Stmt}{wi:TI}{g:TG}{tb:TS}{pos:Pos}(hp:PassesOwn (model X.prog X.w) X.A X.env X.xe)(hc:X.calm=true)(hi:PI X tg iter wi)(hg:PG X tg g)(hb:Mf X body tb)
  (hs:∀x,foldedSetIterable iter X.env x=pure x:=by intro _;rfl):PS X (.For tg iter body [] pos) (P1 wi g tb):=by
 intro pins s σ H D I h;refine wpAny_For (WZ (hi pins s σ H _ I h) fun v s1 h1=>WZ h1 fun itv s2 h2=>?_) hs;obtain⟨it,fp,tn,J,H2,e,I2,T,st2,f2,W,⟨m0,w0⟩,turn⟩:=h2;subst e
 -- what stays true of the iterator's objects through the loop
 have l:∀{H':Hp},(∀b∈fp,H' b=none)->∀b∈fp,M6 X pins H' b:=fun hn b hb=>⟨hn b hb,(f2 b hb).2⟩
 refine codeAny_forLoop_any (fun n s'=>∃i σ' H',Wx X pins σ' H' s'/\tn i s'.heap/\(∀b∈fp,H' b=none)/\W i n σ' H') ?_ m0 ⟨0,σ,H2,I2,st2,fun b hb=>(f2 b hb).1,w0⟩;rintro n s3 ⟨i,σ3,H3,I3,st3,fr3,w3⟩;rcases turn i n σ3 H3 w3 with⟨stop,qn⟩|⟨go,N,hN,step⟩
 .refine XM hp (WZ (T.done X rfl rfl rfl hc i pins s3 σ3 H3 X.xe I3 (l fr3) st3 stop) fun r s4 ⟨hr,I4⟩=>?_);subst hr;exact V1 ⟨σ3,H3,I4,qn⟩
 .refine XM hp (WZ (T.item X rfl rfl rfl hc i pins s3 σ3 H3 X.xe I3 (l fr3) st3 go) fun r s4 ⟨u,hr,h4⟩=>?_);subst hr;refine XM hp (WZ h4 fun _ s5 ⟨x,H5,I5,r5,y5,q,fr5⟩=>?_);have I5':=I5.pinned (l fr5) (T.obj _ _ q);refine XM hp (WZ (hg _ s5 σ3 H5 x u _ I5' r5 (step x H5 y5)) fun _ s6 ⟨σ6,H6,I6,q6⟩=>?_);refine XM hp (WZ (hb _ s6 σ6 H6 _ I6 q6) fun f s7 j=>?_);have p:∀{σ7:St} {c:Hp},Wx X (pins++BK fp s5.heap) σ7 c s7->N σ7 c->∃m,m < n/\∃i σ' H',Wx X pins σ' H' s7/\tn i s7.heap/\(∀b∈fp,H' b=none)/\W i m σ' H':=fun {σ7 c} a z=>by
   obtain⟨m',hm,w7⟩:=hN σ7 c z;refine⟨m',hm,i+ 1,σ7,c,a.unpinned,T.keep _ _ _ q fun b hb o e=>(a.pin (b,o) (Yv _ (Yv _ (Cg hb e)))).1,fun b hb=>?_,w7⟩;obtain⟨o,e,d⟩:=T.obj _ _ q b hb;exact(a.pin (b,o) (Yv _ (Yv _ (Cg hb e)))).2.1
  cases f with
  |next=>obtain⟨σ7,c,a,z⟩:=j;exact p a z
  |cont=>obtain⟨σ7,c,a,z⟩:=j;exact p a z
  |brk=>obtain⟨σ7,c,a,j⟩:=j;exact⟨σ7,c,a.unpinned,j⟩
  |ret v=>obtain⟨x7,σ7,c,a,r7,j⟩:=j;exact⟨x7,σ7,c,a.unpinned,r7,j⟩
end
theorem yX{K:PySem.W.Frag}{a:Wo}{xs:List V}{g:TG}{tb:TS}{D:T5}{σ:St}{H:Hp}(Pv:Nat->St->Hp->Prop)(h0:Pv 0 σ H)(hl:∀i σ H,i <=xs.length->Pv i σ H->WB K H a xs)
  (hs:∀i x σ H,xs[i]?=some x->Pv i σ H->g x σ H fun σ2 H2=>tb {D with nx:=Pv (i+ 1),ct:=Pv (i+ 1),bk:=D.nx} σ2 H2) (hd:∀σ H,Pv xs.length σ H->D.nx σ H):
  ∃W:Nat->Nat->St->Hp->Prop,(∃m,W 0 m σ H)/\∀i m σ H,W i m σ H->
   ((Rl K a).stop i H/\D.nx σ H)\/((Rl K a).go i H/\∃N:St->Hp->Prop,(∀σ' H',N σ' H'->∃m',m' < m/\W (i+ 1) m' σ' H')/\∀x H',(Rl K a).yld i H x H'->g x σ H' fun σ2 H2=>tb {D with nx:=N,ct:=N,bk:=D.nx} σ2 H2):=by
 refine⟨fun i m σ H=>m=xs.length - i/\i <=xs.length/\Pv i σ H,⟨xs.length,by simp,Yy _,h0⟩,?_⟩;rintro i m σ H ⟨rfl,hi,p⟩;have q:=hl i σ H hi p
 by_cases hlt:i < xs.length
 .refine .inr ⟨⟨xs,xs[i],q,by simp[hlt]⟩,Pv (i+ 1),fun σ' H' b=>⟨xs.length - (i+ 1),by lia,rfl,hlt,b⟩,fun x H' y=>?_⟩;obtain⟨e,y⟩:=y;subst e;exact hs i x σ _ (y xs q) p
 .have e:i=xs.length:=by lia
  subst e;exact .inl ⟨⟨xs,q,Y5 _⟩,hd σ H p⟩
theorem tL{lo:Int}{n:Nat}{g:TG}{tb:TS}{D:T5}{σ:St}{H:Hp}(Pv:Nat->St->Hp->Prop)(h0:Pv 0 σ H)
  (hs:∀i σ H,i < n->Pv i σ H->g (.int (lo+ i)) σ H fun σ2 H2=>tb {D with nx:=Pv (i+ 1),ct:=Pv (i+ 1),bk:=D.nx} σ2 H2) (hd:∀σ H,Pv n σ H->D.nx σ H):
  ∃W:Nat->Nat->St->Hp->Prop,(∃m,W 0 m σ H)/\∀i m σ H,W i m σ H->
   ((GL lo n).stop i H/\D.nx σ H)\/((GL lo n).go i H/\∃N:St->Hp->Prop,(∀σ' H',N σ' H'->∃m',m' < m/\W (i+ 1) m' σ' H')/\∀x H',(GL lo n).yld i H x H'->g x σ H' fun σ2 H2=>tb {D with nx:=N,ct:=N,bk:=D.nx} σ2 H2):=by
 refine⟨fun i m σ H=>m=n - i/\i <=n/\Pv i σ H,⟨n,by simp,Yy _,h0⟩,?_⟩;rintro i m σ H ⟨rfl,hi,p⟩
 by_cases hlt:i < n
 .refine .inr ⟨hlt,Pv (i+ 1),fun σ' H' a=>⟨n - (i+ 1),by lia,rfl,hlt,a⟩,fun x H' y=>?_⟩;obtain⟨e,y⟩:=y;subst e y;exact hs i σ _ hlt p
 .have e:i=n:=by lia
  subst e;exact .inl ⟨Y5 _,hd σ H p⟩
abbrev R2:=V->V->Hp->VK->Prop
def JA(X:Cx)(f:Value->Value->Sem Value)(r:R2):Prop:=
 ∀ (pins:Wg) (s:Wi) (σ:St) (H:Hp) (x y:V) (v u:Wn) (Q:VK),Wx X pins σ H s->WI x v->WI y u->r x y H Q->
  wpAny (model X.prog X.w) X.A (f v u) (EP X pins σ Q) X.xe s
def HL(X:Cx)(f:Value->Sem Value)(r:V->Hp->VK->Prop):Prop:=
 ∀ (pins:Wg) (s:Wi) (σ:St) (H:Hp) (x:V) (v:Wn) (Q:VK),Wx X pins σ H s->WI x v->r x H Q->
  wpAny (model X.prog X.w) X.A (f v) (EP X pins σ Q) X.xe s
def WW(X:Cx)(f:Wn)(r:List V->Hp->VK->Prop):Prop:=
 ∀ (pins:Wg) (s:Wi) (σ:St) (H:Hp) (xs:List V) (us:Wq) (Q:VK),Wx X pins σ H s->WD xs us->r xs H Q->
  wpAny (model X.prog X.w) X.A (call f us) (EP X pins σ Q) X.xe s
def Gh(r:R2)(ta tb:TE):TE:=fun σ H Q=>ta σ H fun x H1=>tb σ H1 fun y H2=>r x y H2 Q
def Kq(r:V->Hp->VK->Prop)(ta:TE):TE:=fun σ H Q=>ta σ H fun x H1=>r x H1 Q
def rI(C:Int->Int->Prop)(g:Int->Int->V):R2:=fun x y H Q=>∃i j,x= .int i/\y= .int j/\C i j/\Q (g i j) H
def Gw(g:Int->Int->V):R2:=fun x y H Q=>∃i j,x= .int i/\y= .int j/\Q (g i j) H
def rU(g:Int->V):V->Hp->VK->Prop:=fun x H Q=>∃i,x= .int i/\Q (g i) H
section
variable{X:Cx}{a b c:Ws}{ta tb tc:TE}{pos:Pos}
theorem HI(ha:PE X a ta)(hb:PE X b tb){pins:Wg}{s:Wi}{σ:St}{H:Hp}{R:V->V->Hp->Prop}(I:Wx X pins σ H s)
  (h:ta σ H fun x H1=>tb σ H1 fun y H2=>R x y H2) {Q:We} {f:Value->Value->Sem Value}
  (hf:∀v u s2 x y H2,Wx X pins σ H2 s2->WI x v->WI y u->R x y H2->wpAny (model X.prog X.w) X.A (f v u) Q X.xe s2):
  wpAny (model X.prog X.w) X.A (eval a X.env) (fun v s₁=>wpAny (model X.prog X.w) X.A (eval b X.env) (fun u s₂=>wpAny (model X.prog X.w) X.A (f v u) Q X.xe s₂) X.xe s₁) X.xe s:=by
 refine WZ (ha pins s σ H _ I h) fun v s1 ⟨x,H1,j,d,g⟩=>?_
 refine WZ (hb pins s1 σ H1 _ j g) fun u s2 ⟨y,H2,i,c,e⟩=>?_
 exact hf v u s2 x y H2 i d c e
theorem JJ{op:Operator}{r:R2}(ho:JA X (binaryOp op) r)(ha:PE X a ta)(hb:PE X b tb):PE X (.BinOp a op b pos) (Gh r ta tb):=by
 intro pins s σ H Q I h;exact wpAny_BinOp (HI ha hb I h fun v u s2 x y H2 c rx ry q=>ho pins s2 σ H2 x y v u Q c rx ry q)
theorem Z3{op:UnaryOp}{r:V->Hp->VK->Prop}(ho:HL X (unaryOp op) r)(ha:PE X a ta):PE X (.UnaryOp op a pos) (Kq r ta):=by
 intro pins s σ H Q I h;exact UnaryOp_ (WZ (ha pins s σ H _ I h) fun v s1 ⟨x,H1,d,b,c⟩=>ho pins s1 σ H1 x v Q d b c)
theorem Cq{f:Value->Value->Sem Value}{C:Int->Int->Prop}{g:Int->Int->Int}
  (rule:∀ (i j:Int) (t u:Tok) (s:Wi) (Q:We) (E:We),C i j->Q (.int (g i j) s.toks) {s with toks:=s.toks+ 1}->wpAny (model X.prog X.w) X.A (f (.int i t) (.int j u)) Q E s):
  JA X f (rI C fun i j=>.int (g i j)):=by
 intro pins s σ H x y v u Q I rx ry h;obtain⟨i,j,rfl,rfl,b,q⟩:=h;obtain⟨t,rfl⟩:=rx;obtain⟨a,rfl⟩:=ry;exact rule i j t a s _ _ b ⟨.int (g i j),H,I.tok _,⟨_,rfl⟩,q⟩
theorem Lu{f:Value->Value->Sem Value}{g:Int->Int->Int}
  (rule:∀ (i j:Int) (t u:Tok) (s:Wi) (Q:We) (E:We),Q (.int (g i j) s.toks) {s with toks:=s.toks+ 1}->wpAny (model X.prog X.w) X.A (f (.int i t) (.int j u)) Q E s):
  JA X f (Gw fun i j=>.int (g i j)):=by
 intro pins s σ H x y v u Q I rx ry h;obtain⟨i,j,rfl,rfl,q⟩:=h;obtain⟨t,rfl⟩:=rx;obtain⟨a,rfl⟩:=ry;exact rule i j t a s _ _ ⟨.int (g i j),H,I.tok _,⟨_,rfl⟩,q⟩
theorem Ff{f:Value->Value->Sem Value}{g:Int->Int->Bool}
  (rule:∀ (i j:Int) (t u:Tok) (s:Wi) (Q:We) (E:We),Q (.bool (g i j)) s->wpAny (model X.prog X.w) X.A (f (.int i t) (.int j u)) Q E s):
  JA X f (Gw fun i j=>.bl (g i j)):=by
 intro pins s σ H x y v u Q I rx ry h;obtain⟨i,j,rfl,rfl,q⟩:=h;obtain⟨t,rfl⟩:=rx;obtain⟨a,rfl⟩:=ry;exact rule i j t a s _ _ ⟨.bl (g i j),H,I,rfl,q⟩
def HG(i j:Int):Prop:=0 < j/\j < 1073741824
def Io(i j:Int):Prop:=0 <=j/\j <=1000000/\i.natAbs < 2 ^ 64
def Gy(i j:Int):Prop:=(-(2 ^ 64) < i/\i < 2 ^ 64)\/(-(2 ^ 64) < j/\j < 2 ^ 64)
theorem Gy.ok{i j:Int}(h:Gy i j):IntMulOk i j:=by
 rcases h with⟨h1,h2⟩|⟨h1,h2⟩
 .exact .of_left (intBits_le_64 h1 h2)
 .exact .of_right (intBits_le_64 h1 h2)
theorem MY:JA X (binaryOp .Add) (Gw fun i j=>.int (i+ j)):=Lu fun _ _ _ _ _ _ _ q=>add_int q
theorem FN:JA X (binaryOp .Sub) (Gw fun i j=>.int (i - j)):=Lu fun _ _ _ _ _ _ _ q=>sub_int q
theorem GQ:JA X (binaryOp .Mult) (rI Gy fun i j=>.int (i*j)):=Cq fun _ _ _ _ _ _ _ a q=>mul_int q a.ok
theorem B1:JA X (binaryOp .FloorDiv) (rI HG fun i j=>.int (i / j)):=Cq fun i j _ _ _ _ _ a q=>by
 have h1:(0:Int) < j:=a.1;have h2:j < 1073741824:=a.2;exact floordiv_int (by lia) (by rw[Int.fdiv_eq_ediv_of_nonneg i (by lia)];exact q) (.inl (VR (by lia)))
theorem MO:JA X (binaryOp .Mod) (rI (fun _ j=>0 < j) fun i j=>.int (i%j)):=Cq fun i j _ _ _ _ _ a q=>by
 have h1:(0:Int) < j:=a;exact mod_int' (by lia) (by rw[Int.fmod_eq_emod_of_nonneg i (by lia)];exact q)
theorem O5:JA X (binaryOp .Pow) (rI Io fun i j=>.int (i ^ j.toNat)):=Cq fun _ _ _ _ _ _ _ a q=>pow_int_small a.1 a.2.1 a.2.2 q
theorem j5{f:Value->Sem Value}{g:Int->Int}
  (rule:∀ (i:Int) (t:Tok) (s:Wi) (Q:We) (E:We),Q (.int (g i) s.toks) {s with toks:=s.toks+ 1}->wpAny (model X.prog X.w) X.A (f (.int i t)) Q E s):
  HL X f (rU fun i=>.int (g i)):=by
 intro pins s σ H x v Q I rx h;obtain⟨i,rfl,q⟩:=h;obtain⟨t,rfl⟩:=rx;exact rule i t s _ _ ⟨.int (g i),H,I.tok _,⟨_,rfl⟩,q⟩
theorem xE:HL X (unaryOp .USub) (rU fun i=>.int (-i)):=j5 fun _ _ _ _ _ q=>neg_int q
end
def MR:V->V->Bool
 | .non,.non=>true| .non,.int _=>true| .int _,.non=>true| .non,.bl _=>true| .bl _,.non=>true| .non,.str _=>true| .str _,.non=>true
 | .int _,.int _=>true| .bl _,.bl _=>true| .str _,.str _=>true| .byt _,.byt _=>true
 | .int _,.str _=>true| .str _,.int _=>true| .bl _,.str _=>true| .str _,.bl _=>true
 |_,_=>false
def Aw:R2:=fun x y H Q=>MR x y=true/\Q (.bl (decide (x=y))) H
def Et:R2:=fun x y H Q=>MR x y=true/\Q (.bl (!decide (x=y))) H
theorem QD{i j:Int}:decide (V.int i=V.int j)=(i==j):=by
 rw[Yz];simp
theorem QU{i j:Bool}:decide (V.bl i=V.bl j)=(i==j):=by
 rw[Yz];simp
theorem O1{i j:Str}:decide (V.str i=V.str j)=(i==j):=by
 rw[Yz];simp
theorem Q1{i j:Array UInt8}:decide (V.byt i=V.byt j)=(i.toList==j.toList):=by
 rw[Yz];cases i;cases j;simp
section
variable{X:Cx}{a b c:Ws}{ta tb tc:TE}{pos:Pos}
theorem NK{pins:Wg}{σ:St}{H:Hp}{s:Wi}{Q:VK}{k k':Bool}(I:Wx X pins σ H s)(q:Q (.bl k) H)(e:k=k'):EP X pins σ Q (.bool k') s:=by
 subst e;exact⟨.bl k,H,I,rfl,q⟩
theorem Gx:JA X (compareOp .Eq) Aw:=by
 intro pins s σ H x y v u Q I rx ry h;obtain⟨hs,q⟩:=h;cases x with
 |non=>
  cases rx;cases y with
  |non=>cases ry;exact PySem.EqNone.eq_none_none (NK I q (by simp))
  |bl j=>cases ry;exact PySem.EqNone.eq_none_bool (NK I q (by simp))
  |int j=>obtain⟨a,rfl⟩:=ry;exact PySem.EqNone.eq_none_int (NK I q (by simp))
  |str j=>obtain⟨a,rfl⟩:=ry;exact PySem.EqNone.eq_none_str (NK I q (by simp))
  |_=>exact absurd (show false=true from hs) Yf
 |bl i=>
  cases rx;cases y with
  |non=>cases ry;exact PySem.EqNone.eq_bool_none (NK I q (by simp))
  |bl j=>cases ry;exact eq_bool (NK I q QU)
  |str j=>obtain⟨a,rfl⟩:=ry;exact PySem.EqMixed.eq_bool_str (NK I q (by simp))
  |_=>exact absurd (show false=true from hs) Yf
 |int i=>
  obtain⟨t,rfl⟩:=rx;cases y with
  |non=>cases ry;exact PySem.EqNone.eq_int_none (NK I q (by simp))
  |int j=>obtain⟨a,rfl⟩:=ry;exact eq_int (NK I q QD)
  |str j=>obtain⟨a,rfl⟩:=ry;exact PySem.EqMixed.eq_int_str (NK I q (by simp))
  |_=>exact absurd (show false=true from hs) Yf
 |str i=>
  obtain⟨t,rfl⟩:=rx;cases y with
  |non=>cases ry;exact PySem.EqNone.eq_str_none (NK I q (by simp))
  |bl j=>cases ry;exact PySem.EqMixed.eq_str_bool (NK I q (by simp))
  |int j=>obtain⟨a,rfl⟩:=ry;exact PySem.EqMixed.eq_str_int (NK I q (by simp))
  |str j=>obtain⟨a,rfl⟩:=ry;exact eq_str (NK I q O1)
  |_=>exact absurd (show false=true from hs) Yf
 |byt i=>
  obtain⟨t,rfl⟩:=rx;cases y with
  |byt j=>obtain⟨a,rfl⟩:=ry;exact W.eq_bytes (NK I q Q1)
  |_=>exact absurd (show false=true from hs) Yf
 |_=>cases y <;> exact absurd (show false=true from hs) Yf
theorem Rv:JA X (compareOp .NotEq) Et:=by
 intro pins s σ H x y v u Q I rx ry h;obtain⟨hs,q⟩:=h;cases x with
 |non=>
  cases rx;cases y with
  |non=>cases ry;exact PySem.EqNone.ne_none_none (NK I q (by simp))
  |bl j=>cases ry;exact PySem.EqNone.ne_none_bool (NK I q (by simp))
  |int j=>obtain⟨a,rfl⟩:=ry;exact PySem.EqNone.ne_none_int (NK I q (by simp))
  |str j=>obtain⟨a,rfl⟩:=ry;exact PySem.EqNone.ne_none_str (NK I q (by simp))
  |_=>exact absurd (show false=true from hs) Yf
 |bl i=>
  cases rx;cases y with
  |non=>cases ry;exact PySem.EqNone.ne_bool_none (NK I q (by simp))
  |bl j=>cases ry;exact ne_bool (NK I q (X0 not QU))
  |str j=>obtain⟨a,rfl⟩:=ry;exact PySem.EqMixed.ne_bool_str (NK I q (by simp))
  |_=>exact absurd (show false=true from hs) Yf
 |int i=>
  obtain⟨t,rfl⟩:=rx;cases y with
  |non=>cases ry;exact PySem.EqNone.ne_int_none (NK I q (by simp))
  |int j=>obtain⟨a,rfl⟩:=ry;exact ne_int (NK I q (X0 not QD))
  |str j=>obtain⟨a,rfl⟩:=ry;exact PySem.EqMixed.ne_int_str (NK I q (by simp))
  |_=>exact absurd (show false=true from hs) Yf
 |str i=>
  obtain⟨t,rfl⟩:=rx;cases y with
  |non=>cases ry;exact PySem.EqNone.ne_str_none (NK I q (by simp))
  |bl j=>cases ry;exact PySem.EqMixed.ne_str_bool (NK I q (by simp))
  |int j=>obtain⟨a,rfl⟩:=ry;exact PySem.EqMixed.ne_str_int (NK I q (by simp))
  |str j=>obtain⟨a,rfl⟩:=ry;exact ne_str (NK I q (X0 not O1))
  |_=>exact absurd (show false=true from hs) Yf
 |byt i=>
  obtain⟨t,rfl⟩:=rx;cases y with
  |byt j=>obtain⟨a,rfl⟩:=ry;exact W.ne_bytes (NK I q (X0 not Q1))
  |_=>exact absurd (show false=true from hs) Yf
 |_=>cases y <;> exact absurd (show false=true from hs) Yf
theorem ER:JA X (compareOp .Lt) (Gw fun i j=>.bl (decide (i < j))):=Ff fun _ _ _ _ _ _ _ q=>lt_int q
theorem GU:JA X (compareOp .LtE) (Gw fun i j=>.bl (decide (i <=j))):=Ff fun _ _ _ _ _ _ _ q=>le_int q
theorem Hq:JA X (compareOp .Gt) (Gw fun i j=>.bl (decide (j < i))):=Ff fun _ _ _ _ _ _ _ q=>gt_int q
theorem C9:JA X (compareOp .GtE) (Gw fun i j=>.bl (decide (j <=i))):=Ff fun _ _ _ _ _ _ _ q=>ge_int q
theorem P8:JA X (compareOp .Is) (fun x y H Q=>y= .non/\Q (.bl (decide (x= .non))) H):=by
 intro pins s σ H x y v u Q I rx ry h;obtain⟨rfl,q⟩:=h;cases ry;refine is_none_gen (NK I q ?_);cases x <;> first
  |(cases rx;rfl)
  |(obtain⟨t,rfl⟩:=rx;rfl)
theorem Bu:JA X (compareOp .IsNot) (fun x y H Q=>y= .non/\Q (.bl (!decide (x= .non))) H):=by
 intro pins s σ H x y v u Q I rx ry h;obtain⟨rfl,q⟩:=h;cases ry;refine isnot_none_gen (NK I q ?_);cases x <;> first
  |(cases rx;rfl)
  |(obtain⟨t,rfl⟩:=rx;rfl)
theorem M0(b:Ws){op:CmpOp}(h:op≠ .In:=by decide)(h2:op≠ .NotIn:=by decide):behindInMarks op b=false:=by
 have c:(op==CmpOp.In)=false:=by cases op <;> first|rfl|exact absurd rfl h
 have a:(op==CmpOp.NotIn)=false:=by cases op <;> first|rfl|exact absurd rfl h2
 cases b <;> simp[behindInMarks,c,a]
theorem TF{op:CmpOp}{r:R2}(ho:JA X (compareOp op) r)(ha:PE X a ta)(hb:PE X b tb)(hm:behindInMarks op b=false):PE X (.Compare a [op] [b] pos) (Gh r ta tb):=by
 intro pins s σ H Q I h;exact wpAny_Compare1 (HI ha hb I h fun v u s2 x y H2 c rx ry q=>ho pins s2 σ H2 x y v u Q c rx ry q) hm
def BO(t:TE):TT:=fun σ H Q=>t σ H fun x H'=>∃k,x= .bl k/\Q k H'
theorem yY{op:CmpOp}{r:R2}(ho:JA X (compareOp op) r)(ha:PE X a ta)(hb:PE X b tb)(hm:behindInMarks op b=false):PT X (.Compare a [op] [b] pos) (BO (Gh r ta tb)):=by
 intro pins s σ H Q I h;refine wpAny_isTrue_Compare1 (WZ (ha pins s σ H _ I h) fun v s1 ⟨x, H1, p, g, l⟩ => WZ (hb pins s1 σ H1 _ p l) fun u s2 ⟨y, H2, o, f, j⟩ =>
  WZ (ho pins s2 σ H2 x y v u _ o g f j) fun c w ⟨z, q, n, d, k, e, i⟩ => ?_) hm
 subst e;cases d;exact Xn ⟨q,n,i⟩
def Cf(r r':R2)(ta tb tc:TE):TE:=fun σ H Q=>ta σ H fun x H1=>tb σ H1 fun y H2=>r x y H2 fun z H3=>∃k,z= .bl k/\
 (if k=true then tc σ H3 fun w' H4=>r' y w' H4 Q else Q (.bl false) H3)
theorem P3{op op':CmpOp}{r r':R2}(ho:JA X (compareOp op) r)(ho':JA X (compareOp op') r')(ha:PE X a ta)(hb:PE X b tb)(hc:PE X c tc)
  (hm:lastMarks [op,op'] [b,c]=false:=by with_unfolding_all rfl):PE X (.Compare a [op,op'] [b,c] pos) (Cf r r' ta tb tc):=by
 intro pins s σ H Q I h;refine Compare_chain (WZ (ha pins s σ H _ I h) fun v s1 ⟨x, H1, I1, r1, q1⟩ => chain_link (WZ (hb pins s1 σ H1 _ I1 q1) fun u s2 ⟨y, H2, I2, f, q2⟩ =>
  WZ (ho pins s2 σ H2 x y v u _ I2 r1 f q2) fun d p ⟨z, j, i, w, k, e, g⟩ => ?_)) hm
 subst e;cases w;refine Xn ?_;cases k with
 |false=>exact ite_ff ⟨.bl false,j,i,rfl,g⟩
 |true=>exact ite_tt (chain_last (WZ (hc pins p σ j _ i g) fun n o ⟨l,H4,I4,q,q4⟩=>ho' pins o σ H4 y l u n Q I4 f q q4))
theorem OC{op op':CmpOp}{r r':R2}(ho:JA X (compareOp op) r)(ho':JA X (compareOp op') r')(ha:PE X a ta)(hb:PE X b tb)(hc:PE X c tc)
  (hm:lastMarks [op,op'] [b,c]=false:=by with_unfolding_all rfl):PT X (.Compare a [op,op'] [b,c] pos) (BO (Cf r r' ta tb tc)):=by
 intro pins s σ H Q I h;refine isTrue_chain (WZ (ha pins s σ H _ I h) fun v s1 ⟨x, H1, I1, r1, q1⟩ => test_link (WZ (hb pins s1 σ H1 _ I1 q1) fun u s2 ⟨y, H2, I2, f, q2⟩ =>
  WZ (ho pins s2 σ H2 x y v u _ I2 r1 f q2) fun d p ⟨z, j, i, r3, k, e, g⟩ => ?_)) hm
 subst e;cases r3;refine Xn ?_;cases k with
 |false=>
  obtain⟨k',e',q'⟩:=g;cases e';exact ite_ff ⟨j,i,q'⟩
 |true=>
  refine ite_tt (test_last (WZ (hc pins p σ j _ i g) fun n o ⟨l,H4,I4,w,q4⟩=>WZ (ho' pins o σ H4 y l u n _ I4 f w q4) fun d' s5 ⟨z2,H5,I5,q,k2,e2,q5⟩=>?_));subst e2;cases q;exact Xn ⟨H5,I5,q5⟩
theorem Cu:(sizeLine:Nat) < 2 ^ 63:=by rw[Ym];decide
theorem DM{x:V}{us:Wq}(r:WD [x] us):∃u,us=[u]/\WI x u:=by
 cases r with
 |cons r1 r2=>cases r2;exact⟨_,rfl,r1⟩
theorem Hg{x y:V}{us:Wq}(r:WD [x,y] us):∃u w',us=[u,w']/\WI x u/\WI y w':=by
 cases r with
 |cons r1 r2=>
  cases r2 with
  |cons r3 r4=>cases r4;exact⟨_,_,rfl,r1,r3⟩
theorem Ls(hc:X.calm=true):WW X (.builtin "max") (fun xs H Q=>∃i j,xs=[.int i,.int j]/\Q (.int (if j > i then j else i)) H):=by
 intro pins s σ H xs b Q I r h;obtain⟨i,j,rfl,q⟩:=h;obtain⟨u,a,rfl,⟨t,rfl⟩,⟨c,rfl⟩⟩:=Hg r;refine max_two_ints (I.ok.hd hc) fun h' tk k=>⟨_,H,I.kept k,?_,q⟩
 by_cases hj:j > i
 .rw[Y3 hj,Y3 hj];exact⟨_,rfl⟩
 .rw[Y2 hj,Y2 hj];exact⟨_,rfl⟩
theorem SQ(hc:X.calm=true):WW X (.builtin "min") (fun xs H Q=>∃i j,xs=[.int i,.int j]/\Q (.int (if j < i then j else i)) H):=by
 intro pins s σ H xs b Q I r h;obtain⟨i,j,rfl,q⟩:=h;obtain⟨u,a,rfl,⟨t,rfl⟩,⟨c,rfl⟩⟩:=Hg r;refine min_two_ints (I.ok.hd hc) fun h' tk k=>⟨_,H,I.kept k,?_,q⟩
 by_cases hj:j < i
 .rw[Y3 hj,Y3 hj];exact⟨_,rfl⟩
 .rw[Y2 hj,Y2 hj];exact⟨_,rfl⟩
theorem FE:WW X (.type "int") (fun xs H Q=>(∃i,xs=[.int i]/\Q (.int i) H)\/∃k,xs=[.bl k]/\Q (.int (if k then 1 else 0)) H):=by
 intro pins s σ H xs b Q I r h;rcases h with⟨i,rfl,q⟩|⟨k,rfl,q⟩
 .obtain⟨u,rfl,t,rfl⟩:=DM r;exact call_int_int ⟨.int i,H,I,⟨_,rfl⟩,q⟩
 .obtain⟨u,rfl,a⟩:=DM r;cases a;exact call_int_bool ⟨.int (if k then 1 else 0),H,I.tok _,⟨_,rfl⟩,q⟩
end
structure De(h:Wr)(x dx C:Wo)(mA:Wd):Prop where
 obj:h.get? x=some (W.instObj C dx)
 ns:h.Ns1 dx mA
 ne:dx≠x
theorem vA{h:Wr}{dx:Wo}{mA:Wd}(n:h.Ns1 dx mA):∃od,h.get? dx=some od/\∀name,W.lookIn name od=some (mA name):=by
 obtain⟨o,es,ep,d,i,g,_,f⟩:=n;refine⟨o,d,fun name=>?_⟩;have e:=f name;unfold nsFind findBy at e;rw[<-Array.find?_toList]at e;unfold W.lookIn;rw[i];dsimp only
 split
 .rename_i y q
  rw[q]at e;exact X0 some e
 .rename_i q
  rw[q]at e;have a:es.toList.any (·.refKey)=false:=by
   rw[List.any_eq_false];intro y c;obtain⟨z,t,b⟩:=g y (Array.mem_toList_iff.mp c);simp[DictEntry.refKey,b]
  have j:¬es.toList.any (·.refKey)=true:=by rw[a];exact Yf
  rw[Y2 j];exact X0 some e
theorem De.look{h:Wr}{x dx C:Wo}{mA:Wd}(I:De h x dx C mA):∃od,W.InstAt h x (W.instObj C dx) C (some od)/\∀name,W.lookIn name od=some (mA name):=
 let ⟨od,ho,hl⟩:=vA I.ns
 ⟨od,⟨I.obj,rfl,rfl,ho⟩,hl⟩
section
variable{prog:Wh}{w:Wl}{A:Wk}{E:We}{s:Wi}{K:Wm}{x dx C f:Wo}{mA:Wd}{name:Str}{v:Wn}
theorem ZL{expr:Bool}{Q:We}(X:K.In s.heap)(I:De s.heap x dx C mA)(hg:W.plainGet K C name=true)(hh:W.hasDictIn K C=true)
  (ha:W.findIn K (.ref C) name=some none) (hv:mA name=some v) (hv':W.handedIn v=true) (h:Q v {s with toks:=s.toks+ 1}):
  wpAny (model prog w) A (getAttr (.ref x) name expr) Q E s:=by
 obtain⟨b,J,a⟩:=I.look;exact W.get_value X J (W.plainGet_of hg).1 (W.findObj_own hh ha rfl (by rw[a,hv])) hv' h
theorem ZO{pl:Sem Bool}{Q:Value×List Value->Shared->Prop}(X:K.In s.heap)(I:De s.heap x dx C mA)(hg:W.plainGet K C name=true)
  (hf:W.findIn K (.ref C) name=some (some (.ref f))) (ht:W.isFn K (.ref f)=true) (hv:mA name=none) (h:Q (.ref f,[.ref x]) s):
  wpAny (model prog w) A (getMethod (.ref x) name pl) Q E s:=by
 obtain⟨a,J,b⟩:=I.look;exact W.method_fn X J (W.plainGet_of hg).1 (W.plainGet_of hg).2 hf (UG.mp ht) (by show(W.lookIn name a).map (·.isSome)=some false;rw[b,hv];rfl) h
theorem SV{ns:List Str}{Q:Wf}(X:K.In s.heap)(I:De s.heap x dx C mA)
  (hs:W.findIn K (.ref C) "__setattr__"=some (some (.builtin "object.__setattr__"))) (hp:W.plainOver K C=true) (ht:W.takerIn K C name=some none) (hh:W.hasDictIn K C=true)
  (hw:PySem.Within mA ns) (hsz:ns.length <=sizeLine)
  (h:∀h',De h' x dx C (fun y=>if y=name then some v else mA y)->Heap.SameBut dx s.heap h'->Q () {s with heap:=h',toks:=s.toks+ 2}):
  wpAny (model prog w) A (setAttr (.ref x) name v) Q E s:=by
 obtain⟨p,J,q⟩:=I.look;refine W.set_plain X J hs (W.osa_open (s:={s with toks:=s.toks+ 1}) (r:=none) X J hp ht fun b=>?_);obtain⟨z,l,g⟩:=W.any_some hh;have j:s.heap.get? x=some ⟨.ref C,some dx,.plain,#[]⟩:=I.obj;refine Y1 (Ye (Y1 (Y1 (wpAny_loadPart j (Y1 (W.Looks.here (s:={s with toks:=s.toks+ 1}) (W.looks_clsIn X l) ?_))))));rw[g];refine Ye (a:=some dx) (Y1 (Ye (Y1 ?_)));refine wpAny_nsSet1 (s:={s with toks:=s.toks+ 1}) I.ns fun h' d c=>?_
 obtain⟨oD,n,o,e,f,i⟩:=d.count (PySem.Within.cons name v hw);refine Y1 (wpAny_lookBehind e (by rw[f];exact pastItsLine_dict (YH i (by rw[List.length_cons];lia))) ?_);exact Ye (h _ ⟨(c.2 _ (Ne.symm I.ne)).trans I.obj,d,I.ne⟩ c)
theorem dA{R:Result->Shared->Prop}{vs:Wq}{kw:List (Str×Value)}(X:K.In s.heap)(hm:W.makesIn K C=true)
  (hi:W.findIn K (.ref C) "__init__"=some (some (.ref f))) (hf:W.typeIn K (.ref f)=some (.type "function"))
  (h : codeAny (model prog w) (A.under (.builtin "type.__call__" ⟨.ref C :: vs, kw⟩)) (.call (.ref f) ⟨.ref (s.heap.objs.size + 1) :: vs, kw⟩) (W.InitBack (s.heap.objs.size + 1) R)
   { s with heap := (s.heap.push W.emptyDict).push (W.instObj C s.heap.objs.size) }) :
  codeAny (model prog w) A (.call (.ref C) ⟨vs,kw⟩) R s:=by
 obtain⟨c,g,d,t,b⟩:=s;exact W.make_core (W.makes_of X hm) (W.looks_findIn X hi) (fun a=>W.bind_fn X a hf) (.inl rfl) h
end
def N0(f:Str)(v:V):List (Str×V)->List (Str×V)
 |[]=>[(f,v)]
 |(g,x)::r=>if g=f then(g,v)::r else(g,x)::N0 f v r
theorem AT(f g:Str)(v:V):∀fs:List (Str×V),(N0 f v fs).lookup g=if g=f then some v else fs.lookup g
 |[]=>by
  show List.lookup g [(f,v)]=_
  by_cases h:g=f
  .have hb:(g==f)=true:=UG.mpr h;simp only[List.lookup,hb,Y3 h]
  .have hb:(g==f)=false:=Xe.mpr h;simp only[List.lookup,hb,Y2 h]
 |(k,x)::r=>by
  have a:=AT f g v r;rw[show N0 f v ((k,x)::r)=(if k=f then(k,v)::r else(k,x)::N0 f v r) from rfl]
  by_cases hk:k=f
  .rw[Y3 hk]
   by_cases h:g=k
   .have hb:(g==k)=true:=UG.mpr h;simp only[List.lookup,hb,Y3 (h.trans hk)]
   .have hb:(g==k)=false:=Xe.mpr h;simp only[List.lookup,hb,Y2 (fun e:g=f=>h (e.trans hk.symm))]
  .rw[Y2 hk]
   by_cases h:g=k
   .have hb:(g==k)=true:=UG.mpr h;simp only[List.lookup,hb,Y2 (fun e:g=f=>hk (h.symm.trans e))]
   .have hb:(g==k)=false:=Xe.mpr h;simp only[List.lookup,hb];exact a
theorem FP(f:Str)(v:V):∀fs:List (Str×V),f∈(N0 f v fs).map (·.1)/\∀g,g∈fs.map (·.1)->g∈(N0 f v fs).map (·.1)
 |[]=>⟨by simp[N0],fun g h=>by simp at h⟩
 |(k,x)::r=>by
  obtain⟨i1,i2⟩:=FP f v r;rw[show N0 f v ((k,x)::r)=(if k=f then(k,v)::r else(k,x)::N0 f v r) from rfl]
  by_cases hk:k=f
  .rw[Y3 hk];subst hk;exact⟨by simp,fun g h=>by simpa using h⟩
  .rw[Y2 hk];refine⟨?_,fun g h=>?_⟩
   .rw[List.map_cons];exact Yi _ i1
   .rw[List.map_cons]at h ⊢;rcases Yp.mp h with e|e
    .exact Yp.mpr (.inl e)
    .exact Yi _ (i2 g e)
theorem KB(f:Str)(v:V):∀fs:List (Str×V),(N0 f v fs).length <=fs.length+ 1
 |[]=>by simp[N0]
 |(k,x)::r=>by
  have ih:=KB f v r;rw[show N0 f v ((k,x)::r)=(if k=f then(k,v)::r else(k,x)::N0 f v r) from rfl]
  by_cases hk:k=f
  .rw[Y3 hk,List.length_cons,List.length_cons];lia
  .rw[Y2 hk,List.length_cons,List.length_cons];lia
theorem T4.some_of{v:V}{o:Option Value}(r:T4 (some v) o):∃u,o=some u/\WI v u:=by
 cases o with
 |none=>exact(show False from r).elim
 |some u=>exact⟨u,rfl,r⟩
theorem T4.none_of{o:Option Value}(r:T4 none o):o=none:=by
 cases o with
 |none=>rfl
 |some u=>exact(show False from r).elim
theorem d6{v:V}{u:Wn}(r:WI v u):W.handedIn u=true:=by
 cases v with
 |non=>cases (show u=Value.none from r);rfl
 |bl b=>cases (show u=Value.bool b from r);rfl
 |int i=>obtain⟨t,e⟩:=(show ∃t,u=Value.int i t from r);cases e;rfl
 |str x=>obtain⟨t,e⟩:=(show ∃t,u=Value.str x t from r);cases e;rfl
 |byt b=>obtain⟨t,e⟩:=(show ∃t,u=Value.bytes b t from r);cases e;rfl
 |flt b=>obtain⟨t,e⟩:=(show ∃t,u=Value.float b t from r);cases e;rfl
 |ref a=>cases (show u=Value.ref a from r);rfl
 |ty n=>cases (show u=Value.type n from r);rfl
section
variable{P:Wh}{w:Wl}{H H':Hp}{h h':Wr}{a C dx:Wo}{fs fs':List (Str×V)}
theorem Am(hok:NB P w H h)(e:H a=some (.ins C dx fs)):∃mA,De h a dx C mA/\(∀f,T4 (fs.lookup f) (mA f))/\PySem.Within mA (fs.map (·.1))/\fs.length <=1000/\H dx=some (.own a):=by
 obtain⟨d,z,ne,b,mA,n,r,q⟩:=(show WO P w H h a (.ins C dx fs) from hok a _ e);exact⟨mA,⟨b,n,ne⟩,r,q,z,d⟩
end
structure Ml(K:Wm)(C:Wo):Prop where
 pg:W.plainGet K C Str.empty=true
 hd:W.hasDictIn K C=true
 po:W.plainOver K C=true
 sa:W.findIn K (.ref C) "__setattr__"=some (some (.builtin "object.__setattr__"))
theorem Ml.get{K:Wm}{C:Wo}(c:Ml K C)(f:Str):W.plainGet K C f=true:=c.pg
def WF(K:Wm)(C:Wo)(f:Str):Prop:=W.findIn K (.ref C) f=some none
theorem WF.taker{K:Wm}{C:Wo}{f:Str}(n:WF K C f):W.takerIn K C f=some none:=by
 unfold W.takerIn;rw[show W.findIn K (.ref C) f=some none from n];rfl
structure Os(K:Wm)(C:Wo)(m:Str)(f:Wo):Prop where
 at_:W.findIn K (.ref C) m=some (some (.ref f))
 fn:W.isFn K (.ref f)=true
 kp:W.keepIn K (.ref f)=true
section
variable{X:Cx}{pins:Wg}{σ:St}{H:Hp}{s:Wi}{a C dx:Wo}{fs:List (Str×V)}{f:Str}{v:V}{A:Wk}{E:We}
theorem P0{b:Bool}{Q:We}(I:Wx X pins σ H s)(e:H a=some (.ins C dx fs))(c:Ml X.K C)(n:WF X.K C f)(l:fs.lookup f=some v)
  (h:∀u s',Wx X pins σ H s'->WI v u->Q u s'):wpAny (model X.prog X.w) A (getAttr (.ref a) f b) Q E s:=by
 obtain⟨mA,O,r,_,_,_⟩:=Am I.hok e;obtain⟨u,d,ru⟩:=T4.some_of (v:=v) (o:=mA f) (by rw[<-l];exact r f);exact ZL I.kIn O (c.get f) c.hd n d (d6 ru) (h u _ (I.tok _) ru)
theorem QT{m:Str}{g:Wo}{pl:Sem Bool}{Q:Value×List Value->Shared->Prop}(I:Wx X pins σ H s)(e:H a=some (.ins C dx fs))(c:Ml X.K C)(k:Os X.K C m g)(l:fs.lookup m=none)
  (h:Q (.ref g,[.ref a]) s):wpAny (model X.prog X.w) A (getMethod (.ref a) m pl) Q E s:=by
 obtain⟨mA,O,r,_,_,_⟩:=Am I.hok e;have b:mA m=none:=T4.none_of (by rw[<-l];exact r m);exact ZO I.kIn O (c.get m) k.at_ k.fn b h
theorem Ov{y:V}{u:Wn}{Q:Wf}(I:Wx X pins σ H s)(e:H a=some (.ins C dx fs))(c:Ml X.K C)(n:WF X.K C f)(hl:fs.length < 1000)(ry:WI y u)
  (h:∀s',Wx X pins σ (upd H a (.ins C dx (N0 f y fs))) s'->Q () s'):wpAny (model X.prog X.w) A (setAttr (.ref a) f u) Q E s:=by
 obtain⟨mA,O,r,wi,_,i⟩:=Am I.hok e;have l:(fs.map (·.1)).length <=sizeLine:=by rw[Y0,Ym];lia
 refine SV I.kIn O c.sa c.po n.taker c.hd wi l fun h' d j=>h _ ?_
 have hd:∃o,h'.get? dx=some o:=let ⟨o,_,_,e',_⟩:=d.ns;⟨o,e'⟩;refine I.write (x:=a) (e:=dx) (by rw[e];exact True.intro) (.inr i) (fun b q v z=>(j.2 b v).trans z) hd ?_;refine⟨by rw[WM O.ne];exact i,?_,O.ne,d.obj,_,d.ns,fun g=>?_,fun g p=>?_⟩
 .have:=KB f y fs;lia
 .show T4 ((N0 f y fs).lookup g) (if g=f then some u else mA g);rw[AT]
  by_cases q:g=f
  .rw[Y3 q,Y3 q];exact ry
  .rw[Y2 q,Y2 q];exact r g
 .by_cases q:g=f
  .rw[q];exact(FP f y fs).1
  .refine(FP f y fs).2 g (wi g fun z=>p ?_);show(if g=f then some u else mA g)=none;rw[Y2 q];exact z
theorem Wx.made(I:Wx X pins σ H s):Wx X pins σ (upd (upd H s.heap.objs.size (.own (s.heap.objs.size+ 1))) (s.heap.objs.size+ 1) (.ins C s.heap.objs.size []))
  {s with heap:=(s.heap.push W.emptyDict).push (W.instObj C s.heap.objs.size)}:=by
 have c:(s.heap.push W.emptyDict).get? s.heap.objs.size=some W.emptyDict:=Yl s.heap rfl;have h:((s.heap.push W.emptyDict).push (W.instObj C s.heap.objs.size)).get? (s.heap.objs.size+ 1)=some (W.instObj C s.heap.objs.size):=by
  have:=Yl (s.heap.push W.emptyDict) (o:=W.instObj C s.heap.objs.size) rfl;rwa [Uj]at this
 have g:(s.heap.push W.emptyDict).Ns s.heap.objs.size (fun _=>none):=⟨W.emptyDict,#[],_,c,rfl,(fun e f=>absurd f (by simp)),fun _=>rfl⟩;have i:=I.laid (a:=s.heap.objs.size) (o:=.own (s.heap.objs.size+ 1)) (h':=s.heap.push W.emptyDict) (t':=s.toks) (fun b u q=>Y7 _ q) (Y5 _) ⟨_,c⟩;refine i.laid (a:=s.heap.objs.size+ 1) (o:=.ins C s.heap.objs.size []) (t':=s.toks) (fun b u q=>Y7 _ q) (W9 (Uj _ _)) ?_;have ne:s.heap.objs.size≠s.heap.objs.size+ 1:=Yr (UR _);refine⟨by rw[WM ne,Jn],Yy _,ne,h,fun _=>none,(Heap.Ns1.of_empty g).at fun o q=>Y7 _ q,fun _=>True.intro,fun y d=>absurd rfl d⟩
theorem LO{prog:Wh}{w:Wl}{env:Env}{e:Ws}{f:Str}{pos:Pos}{s:Wi}{Q:We}(hb:attributeBase e f env (eval e env)=eval e env)
  (h:wpAny (model prog w) A (eval e env) (fun o s₁=>wpAny (model prog w) A (getAttr o f true) Q E s₁) E s):wpAny (model prog w) A (eval (.Attribute e f pos) env) Q E s:=
 Attribute_any_ h (by rw[arm_eval_Attribute,hb])
end
def Ct(K:Wm)(ta:TE)(f:Str):TE:=fun σ H Q=>ta σ H fun x H1=>∃a C dx fs v,x= .ref a/\H1 a=some (.ins C dx fs)/\Ml K C/\WF K C f/\fs.lookup f=some v/\Q v H1
def Fg(K:Wm)(ta tv:TE)(f:Str):TS:=fun D σ H=>tv σ H fun y H1=>ta σ H1 fun x H2=>∃a C dx fs,x= .ref a/\H2 a=some (.ins C dx fs)/\Ml K C/\WF K C f/\fs.length < 1000/\
 D.nx σ (upd H2 a (.ins C dx (N0 f y fs)))
section
variable{X:Cx}{o e value:Ws}{f:Str}{pos pos' tpos:Pos}{ta tv:TE}
theorem Zs(he:PE X e ta)(hb:attributeBase e f X.env (eval e X.env)=eval e X.env):PE X (.Attribute e f pos) (Ct X.K ta f):=by
 intro pins s σ H Q I h;refine LO hb (WZ (he pins s σ H _ I h) fun u s1 ⟨x,H1,g,rx,a,C,dx,fs,v,ex,b,c,n,l,q⟩=>?_);subst ex;obtain rfl:u=Value.ref a:=rx;exact P0 g b c n l fun i s2 d ru=>⟨v,H1,d,ru,q⟩
theorem Su(ha:PE X o ta)(hv:PE X value tv)(hs:swapsWith value (some (.Attribute o f pos')) pos.line X.env=pure false):PS X (.Assign [.Attribute o f pos'] value pos) (Fg X.K ta tv f):=by
 intro pins s σ H D I h;refine V0 (WZ (hv pins s σ H _ I h) fun u s1 ⟨y,H1,j,ry,q⟩=>WZ (ha pins s1 σ H1 _ j q) fun d s2 ⟨x,H2,i,rx,a,C,dx,fs,ex,e,c,n,l,b⟩=>?_) hs;subst ex;obtain rfl:d=Value.ref a:=rx;exact Ov i e c n l ry fun p g=>⟨σ,_,g,b⟩
end
section
variable{X:Cx}{pins:Wg}{σ:St}{H:Hp}{s:Wi}{A:Wk}{E:We}{Q:We}{c:Wn}{b:Bool}
inductive Du(K:Wm)(H:Hp):V->Value->Prop where
 |non:Du K H .non (.type "NoneType")
 |bl (x:Bool):Du K H (.bl x) (.type "bool")
 |int (i:Int):Du K H (.int i) (.type "int")
 |str (x:Str):Du K H (.str x) (.type "str")
 |flt (x:UInt64):Du K H (.flt x) (.type "float")
 |lst {a:Wo} {xs:List V} (e:H a=some (.lst xs)):Du K H (.ref a) (.type "list")
 |frz {a:Wo} {o:Obj} {xs:List V} (e:H a=some (.frz o (.lst xs))):Du K H (.ref a) (.type "list")
 |tup {a:Wo} {xs:List V} (e:H a=some (.tup xs)):Du K H (.ref a) (.type "tuple")
 |dK {a:Wo} {kvs:List (WU×V)} (e:H a=some (.dK kvs)):Du K H (.ref a) (.type "dict")
 |dT {a:Wo} {kvs:List (List WU×V)} (e:H a=some (.dT kvs)):Du K H (.ref a) (.type "dict")
 |ins {a C dx:Wo} {fs:List (Str×V)} (e:H a=some (.ins C dx fs)) (cl:Ml K C) (ha:W.findIn K (.ref C) "__class__"=some (some (.builtin "object.__class__")))
   (hn:W.specialIn K (.builtin "object.__class__") "__get__"=some (some (.builtin "getset_descriptor.__get__"))) (htk:W.takesIn K (.builtin "object.__class__")=some true)
   (hm:W.mroIn K C (.type "object")=some true):Du K H (.ref a) (.ref C)
theorem Zi{x:V}{u t:Wn}(I:Wx X pins σ H s)(rx:WI x u)(ty:Du X.K H x t)(e:W.kitOne X.K t c=some b)(h:∀tk,Q (.bool b) {s with toks:=tk}):
  wpAny (model X.prog X.w) A (call (.builtin "isinstance") [u,c]) Q E s:=by
 cases ty with
 |non=>cases (show u=Value.none from rx);exact XX W.kitx_none I.kIn True.intro e (fun z=>nomatch z) h
 |bl y=>cases (show u=Value.bool y from rx);exact XX W.kitx_bool I.kIn True.intro e (fun z=>nomatch z) h
 |int i=>obtain⟨t,q⟩:=(show ∃t,u=Value.int i t from rx);cases q;exact XX W.kitx_int I.kIn True.intro e (fun z=>nomatch z) h
 |str y=>obtain⟨t,q⟩:=(show ∃t,u=Value.str y t from rx);cases q;exact XX W.kitx_str I.kIn True.intro e (fun z=>nomatch z) h
 |flt y=>obtain⟨t,q⟩:=(show ∃t,u=Value.float y t from rx);cases q;exact XX W.kitx_float I.kIn True.intro e (fun z=>nomatch z) h
 |@lst a xs ea=>
  cases (show u=Value.ref a from rx);obtain⟨_,_,n,_,h1⟩:=(show WO X.prog X.w H s.heap a (.lst xs) from I.hok a _ ea);exact XX W.kitx_list I.kIn ⟨_,h1,rfl⟩ e (fun z=>nomatch z) h
 |@frz a ob xs ea=>
  cases (show u=Value.ref a from rx);obtain⟨_,_,_,n,_,h1⟩:=(show WO X.prog X.w H s.heap a (.frz ob (.lst xs)) from I.hok a _ ea);exact XX W.kitx_list I.kIn ⟨_,h1,rfl⟩ e (fun z=>nomatch z) h
 |@tup a xs ea=>
  cases (show u=Value.ref a from rx);obtain⟨_,_,_,p⟩:=(show WO X.prog X.w H s.heap a (.tup xs) from I.hok a _ ea);obtain⟨o,h1,h2,_⟩:=p;exact XX W.kitx_tuple I.kIn ⟨o,h1,h2⟩ e (fun z=>nomatch z) h
 |@dK a kvs ea=>
  cases (show u=Value.ref a from rx);obtain⟨_,_,vs,_,p⟩:=(show WO X.prog X.w H s.heap a (.dK kvs) from I.hok a _ ea);obtain⟨o,es,ep,h1,h2,_⟩:=p;exact XX W.kitx_dict I.kIn ⟨o,h1,h2.1⟩ e (fun z=>nomatch z) h
 |@dT a kvs ea=>
  cases (show u=Value.ref a from rx);obtain⟨_,_,xs,_,o,es,ep,h1,h2,_⟩:=(show WO X.prog X.w H s.heap a (.dT kvs) from I.hok a _ ea);exact XX W.kitx_dict I.kIn ⟨o,h1,h2.1⟩ e (fun z=>nomatch z) h
 |@ins a C dx fs ea cl ha hn htk hm=>
  cases (show u=Value.ref a from rx);obtain⟨mA,O,_⟩:=Am I.hok ea;obtain⟨d,J,_⟩:=O.look;exact XX (W.kitx_own (cl.get _) cl.hd ha hn htk hm) I.kIn J e (fun z=>nomatch z) h
end
structure Room(k:Nat)(A:Wk):Prop where
 hd:A.handled=none
 dp:A.depth+ 3*k+ 5 < recursionLimit
 un:A.units+ 16*k+ 200 < cLine
theorem Room.mono{j k:Nat}{A:Wk}(r:Room k A)(h:j <=k):Room j A:=⟨r.hd,by have:=r.dp;lia,by have:=r.un;lia⟩
theorem Room.deeper{k:Nat}{A:Wk}(r:Room (k+ 1) A)(env:Env):Room k (A.deeper env):=
 ⟨r.hd,by have:=r.dp;show A.depth+ 1+ 3*k+ 5 < _;lia,by have:=r.un;show A.units+ 3+ 16*k+ 200 < _;lia⟩
theorem Room.in1{k:Nat}{A:Wk}(r:Room (k+ 1) A):Room k A.in1:=
 ⟨r.hd,by have:=r.dp;show A.depth+ 3*k+ 5 < _;lia,by have:=r.un;show A.units+ 1+ 16*k+ 200 < _;lia⟩
theorem u8{A:Wk}{C:Wo}{us:Wq}{kw:List (Str×Value)}:(A.under (.builtin "type.__call__" ⟨.ref C::us,kw⟩)).depth=A.depth+ 1:=by
 first|rfl|simp[Around.under,Code.weight,Code.isCreation,Code.isGuard,Code.isCaller,Code.frames,Code.isFrame,guardIds]
theorem gG{A:Wk}{C:Wo}{us:Wq}{kw:List (Str×Value)}:(A.under (.builtin "type.__call__" ⟨.ref C::us,kw⟩)).units=A.units+ 1:=by
 first|rfl|simp[Around.under,Code.cUnits,Code.frames,Code.isFrame]
theorem Room.make{k:Nat}{A:Wk}(r:Room (k+ 1) A)(C:Wo)(us:Wq)(kw:List (Str×Value)):Room k (A.under (.builtin "type.__call__" ⟨.ref C::us,kw⟩)):=
 ⟨r.hd,by have:=r.dp;rw[u8];lia,by have:=r.un;rw[gG];lia⟩
theorem Room.depth{k:Nat}{A:Wk}(r:Room k A):A.depth < recursionLimit:=by have:=r.dp;lia
theorem Room.units{k:Nat}{A:Wk}(r:Room k A):A.units+ 64 < cLine:=by have:=r.un;lia
def R7:TA:=fun _ H Q=>Q [] H
def DA(ta:TE)(tr:TA):TA:=fun σ H Q=>ta σ H fun x H1=>tr σ H1 fun xs H2=>Q (x::xs) H2
section
variable{X:Cx}{e:Ws}{es:List Expr}{te:TE}{t:TA}{pos:Pos}
theorem Wy:PA X [] R7:=fun _ _ _ _ H Q I h=>Calls.spliced_nil ⟨[],H,I,.nil,h⟩
theorem JM(ha:PE X e te)(hr:PA X es t)(hs:starEach (e::es) X.env=(false,eval e X.env)::starEach es X.env:=by rfl):PA X (e::es) (DA te t):=by
 intro pos pins s σ H Q I h;rw[hs];show wpAny _ _ (spliced ((false,eval e X.env)::backTo pos (starEach es X.env))) _ _ s;refine Calls.spliced_cons (WZ (ha pins s σ H _ I h) fun u s1 ⟨x,H1,g,b,d⟩=>?_);exact WZ (hr pos pins s1 σ H1 _ g d) fun i s2 ⟨xs,H2,f,a,c⟩=>⟨x::xs,H2,f,.cons b a,c⟩
def Kw(t:TA):TE:=fun σ H Q=>t σ H fun xs H1=>xs.length <=sizeLine/\∀p,H1 p=none->Q (.ref p) (upd H1 p (.tup xs))
theorem d5{x1}(h:PA X es t):PE X (.Tuple es x1 pos) (Kw t):=by
 intro pins s σ H Q I d;refine wpAny_Tuple_spliced (WZ (h pos pins s σ H _ I d) fun c s1 ⟨xs,H1,a,r,z,q⟩=>⟨by rw[<-r.length];exact z,?_⟩);have f:H1 s1.heap.objs.size=none:=a.hok.fresh (Y5 _);refine⟨.ref s1.heap.objs.size,upd H1 s1.heap.objs.size (.tup xs),a.laid (t':=s1.toks) (fun b u e=>Y7 _ e) (Y5 _) ?_,rfl,q _ f⟩;exact⟨z,c,r,⟨_,Yl _ rfl,rfl,_,rfl⟩⟩
end
abbrev Sp:=List V->Hp->VK->XK->Prop
abbrev Gq:=List Env->Hp->Shared->XK->Value->Shared->Prop
structure MJ(P:Wh)(w:Wl)(K:Wm)(mg:Wd)(base:Wr)(A:Wk)(outer:List Env)(s:Wi)(H:Hp):Prop where
 frames:A.frames=some outer
 mod:Mod K mg base
 bs:∀b o,base.get? b=some o->s.heap.get? b=some o/\H b=none
 bsz:base.objs.size <=s.heap.objs.size
 funs:s.heap.FunFrames base outer
 frf:∀b∈Mq outer,H b=none
 hok:NB P w H s.heap
 bare:AllBare s.gens
def CE(outer:List Env)(P:Wh)(w:Wl)(H:Hp)(s:Wi)(Q:VK)(u:Wn)(s':Wi):Prop:=
 ∃v H',s'.os=s.os/\AllBare s'.gens/\Un (Mq outer) [] H H' s.heap s'.heap/\NB P w H' s'.heap/\WI v u/\Q v H'
def CR(CX:Gq)(outer:List Env)(P:Wh)(w:Wl)(H:Hp)(s:Wi)(Q:VK)(E:XK)(r:Result)(s':Wi):Prop:=
 match r with
 | .ok (.ret u)=>CE outer P w H s Q u s'
 | .ok _=>False
 | .error e=>CX outer H s E e s'
structure WA(P:Wh)(w:Wl)(K:Wm)(mg:Wd)(base:Wr)(CX:Gq)(k:Nat)(f:Wo)(fd:Wj)(ps:List Str)(sp:Sp):Prop where
 len:∀vs H Q E,sp vs H Q E->vs.length=ps.length
 run:∀ (A:Wk) (outer:List Env) (s:Wi) (H:Hp) (args:Args) (us:Wq) (vs:List V) (Q:VK) (E:XK),Room k A->MJ P w K mg base A outer s H->BindsTo s fd args (ps.zip us)->WD vs us->sp vs H Q E->
  codeAny (model P w) A (.call (.ref f) args) (CR CX outer P w H s Q E) s
theorem WA.imp{P:Wh}{w:Wl}{K:Wm}{mg:Wd}{base:Wr}{CX:Gq}{k:Nat}{f:Wo}{fd:Wj}{ps:List Str}{sp sp':Sp}(F:WA P w K mg base CX k f fd ps sp)
  (h:∀vs H Q E,sp' vs H Q E->sp vs H Q E):WA P w K mg base CX k f fd ps sp':=
 ⟨fun vs H Q E q=>F.len vs H Q E (h _ _ _ _ q),fun A a s H b c vs Q E e g i d hs=>F.run A a s H b c vs Q E e g i d (h _ _ _ _ hs)⟩
theorem MJ.make{P:Wh}{w:Wl}{K:Wm}{mg:Wd}{base:Wr}{A:Wk}{outer:List Env}{s:Wi}{H:Hp}(e:MJ P w K mg base A outer s H)(C:Wo)(us:Wq)(kw:List (Str×Value)):
  MJ P w K mg base (A.under (.builtin "type.__call__" ⟨.ref C::us,kw⟩)) outer s H:=⟨by first|exact e.frames|(simpa[Around.under,Code.envs,Code.isFrame,pushEnvs] using e.frames),e.mod,e.bs,e.bsz,e.funs,e.frf,e.hok,e.bare⟩
section
variable{X:Cx}{pins:Wg}{σ:St}{H:Hp}{s s':Wi}
theorem Wx.env0(I:Wx X pins σ H s):MJ X.prog X.w X.K X.mg X.base X.A X.stack s H:=
 ⟨I.ok.frames,I.ok.mod,I.bs,YH I.ok.bsz I.sz,I.stack,I.stkFree,I.hok,I.bare⟩
theorem Wx.after{Q:VK}{u:Wn}(I:Wx X pins σ H s)(h:CE X.stack X.prog X.w H s Q u s'):EP X pins σ Q u s':=by
 obtain⟨v,H',os,a,un,e,r,q⟩:=h;obtain⟨f,g,d,t,c⟩:=s';obtain rfl:c=s.os:=os;exact⟨v,H',I.call (h':=f) (g':=g) (d':=d) (t':=t) (ch:=[]) un e a (fun b z=>absurd z (by simp)),r,q⟩
end
def BF(sp:Sp)(dvs:List V)(E:XK)(t:TA):TE:=fun σ H Q=>t σ H fun vs H1=>sp (vs++dvs) H1 Q E
def T6(K:Wm)(fd:Wj)(ps:List Str)(ds:Wq):Prop:=
 ∀ (s:Wi) (us:Wq),K.In s.heap->(us++ds).length=ps.length->BindsTo s fd ⟨us,[]⟩ (ps.zip (us++ds))
theorem T6.all{K:Wm}{fd:Wj}{ps:List Str}(h:∀us:List Value,us.length=ps.length->bindArgs fd ⟨us,[]⟩=pure (ps.zip us)):T6 K fd ps []:=fun s us _ a=>by
 rw[List.append_nil]at a ⊢;exact .of_eq (h us a)
def A6(CX:Gq)(X:Cx)(E:XK):Prop:=∀ (pins:Wg) (σ:St) (H:Hp) (s:Wi) (e:Wn) (s':Wi),Wx X pins σ H s->CX X.stack H s E e s'->X.xe e s'
section
variable{X:Cx}{CX:Gq}{k:Nat}{f C:Wo}{fd:Wj}{ps:List Str}{sp:Sp}{dvs:List V}{ds:Wq}{E:XK}{x m:Str}{p pos apos:Pos}{e o:Ws}{es:List Expr}{ta:TE}{t:TA}
theorem L4{pins:Wg}{σ:St}{H:Hp}{s:Wi}{Q:VK}{us:Wq}{vs:List V}(F:WA X.prog X.w X.K X.mg X.base CX k f fd ps sp)(hr:Room k X.A)(hb:T6 X.K fd ps ds)(hd:WD dvs ds)(hx:A6 CX X E)
  (I:Wx X pins σ H s) (r:WD vs us) (h:sp (vs++dvs) H Q E):wpAny (model X.prog X.w) X.A (call (.ref f) us) (EP X pins σ Q) X.xe s:=by
 have b:WD (vs++dvs) (us++ds):=r.append hd;have c:(us++ds).length=ps.length:=by rw[<-b.length];exact F.len _ _ _ _ h
 refine VZ (Uk (F.run X.A X.stack s H ⟨us,[]⟩ (us++ds) (vs++dvs) Q E hr I.env0 (hb s us I.kIn c) b h) fun r s' a=>?_);cases r with
 |error e=>exact hx pins σ H s e s' I a
 |ok fl=>
  cases fl with
  |ret u=>exact I.after a
  |next=>exact False.elim a
  |brk=>exact False.elim a
  |cont=>exact False.elim a
theorem nV(F:WA X.prog X.w X.K X.mg X.base CX k f fd ps sp)(hr:Room k X.A)(hg:Gl X x)(hm:X.mg x=some (.ref f))(hk:W.keepIn X.K (.ref f)=true)(hb:T6 X.K fd ps ds)(hd:WD dvs ds)(hx:A6 CX X E)
  (ha:PA X (e::es) t) (hdb:(x==("__debug__":Str))=false:=by decide) (he:starEach (e::es) X.env=(false,eval e X.env)::starEach es X.env:=by rfl) (hpl:(backTo pos (starEach es X.env)).any (·.1)=false:=by rfl):
  PE X (.Call (.Name x p) (e::es) [] pos) (BF sp dvs E t):=by
 intro pins s σ H Q I h;refine XI (L8 I hg hm ?_ hdb);refine W.callWith_K (h₀:=X.base) I.ok.mod.kin hk (WZ (ha pos pins s σ H _ I h) fun b s1 ⟨vs,H1,a,r,q⟩=>⟨a.kIn,?_⟩) he hpl;exact L4 F hr hb hd hx a r q
structure Mk(K:Wm)(C f:Wo):Prop where
 makes:W.makesIn K C=true
 init:W.findIn K (.ref C) "__init__"=some (some (.ref f))
 fn:W.isFn K (.ref f)=true
 kp:W.keepIn K (.ref C)=true
theorem Sv{pins:Wg}{σ:St}{H:Hp}{s:Wi}{Q:VK}{us:Wq}{vs:List V}(M:Mk X.K C f)(F:WA X.prog X.w X.K X.mg X.base CX k f fd ps sp)(hr:Room (k+ 1) X.A)(hb:T6 X.K fd ps ds)(hd:WD dvs ds)
  (hx:A6 CX X E) (I:Wx X pins σ H s) (r:WD vs us)
  (h:∀x dx,H x=none->H dx=none->dx≠x->sp (.ref x::(vs++dvs)) (upd (upd H dx (.own x)) x (.ins C dx [])) (fun v H2=>v= .non/\Q (.ref x) H2) E):
  wpAny (model X.prog X.w) X.A (call (.ref C) us) (EP X pins σ Q) X.xe s:=by
 have d:=h (s.heap.objs.size+ 1) s.heap.objs.size (I.hok.fresh (XY _)) (I.hok.fresh (Y5 _)) (Yr (UR _));have b:=Wx.made (C:=C) I;have c:WD (V.ref (s.heap.objs.size+ 1)::(vs++dvs)) (Value.ref (s.heap.objs.size+ 1)::(us++ds)):=.cons rfl (r.append hd);have j:(Value.ref (s.heap.objs.size+ 1)::us++ds).length=ps.length:=by
  have e:=c.length;rw[F.len _ _ _ _ d]at e;exact e.symm
 refine VZ (dA (f := f) I.kIn M.makes M.init (UG.mp M.fn) (Uk (F.run _ X.stack _ _ ⟨Value.ref (s.heap.objs.size + 1) :: us, []⟩ (Value.ref (s.heap.objs.size + 1) :: (us ++ ds)) _ _ E (hr.make C us [])
  (b.env0.make C us []) (hb _ (Value.ref (s.heap.objs.size + 1) :: us) b.kIn j) c d) fun r s' a => ?_))
 cases r with
 |error e=>exact hx pins σ _ _ e s' b a
 |ok fl=>
  cases fl with
  |ret u=>
   obtain⟨v,H',n,g,l,i⟩:=b.after a;subst l;exact⟨g,⟨V.ref (s.heap.objs.size+ 1),H',n,rfl,i⟩⟩
  |next=>exact False.elim a
  |brk=>exact False.elim a
  |cont=>exact False.elim a
end
def PK(X:Cx)(kws:List Keyword)(t:TA):Prop:=
 ∀ (pos:Pos) (pins:Wg) (s:Wi) (σ:St) (H:Hp) (Q:List V->Hp->Prop),Wx X pins σ H s->t σ H Q->wpAny (model X.prog X.w) X.A (evalAll ((backToKw pos (keywordEach kws X.env)).map (·.2))) (AP X pins σ Q) X.xe s
section
variable{X:Cx}{CX:Gq}{k:Nat}{f C:Wo}{fd:Wj}{ps ks:List Str}{sp:Sp}{E:XK}{x m:Str}{p pos apos kpos:Pos}{e o:Ws}{es:List Expr}{kws:List Keyword}{te ta:TE}{t tk:TA}{nm:Option Str}
theorem Qa:PK X [] R7:=fun _ _ _ _ H Q I h=>wpAny_evalAll_nil ⟨[],H,I,.nil,h⟩
theorem OE(ha:PE X e te)(hr:PK X kws t):PK X (⟨nm,e,kpos⟩::kws) (DA te t):=by
 intro pos pins s σ H Q I h;show wpAny _ _ (evalAll ((do let v <-eval e X.env;standAt pos;pure v)::(backToKw pos (keywordEach kws X.env)).map (·.2))) _ _ s;refine wpAny_evalAll_cons (Y1 (WZ (ha pins s σ H _ I h) fun u s1 ⟨x,H1,g,b,d⟩=>Y1 (Vr (Ye ?_))));exact WZ (hr pos pins s1 σ H1 _ g d) fun i s2 ⟨xs,H2,f,a,c⟩=>⟨x::xs,H2,f,.cons b a,c⟩
variable{g:List Value->List Value->List Value}{gV:List V->List V->List V}
end
structure Jv(N P:List Str)(sc:Scope):Prop where
 kind:sc.kind= .function
 co:sc.isCoroutine=false
 gen:sc.isGenerator=false
 nd:N.Nodup
 pre:N.take P.length=P
 par:∀x∈P,sc.names.lookup x=some .local\/sc.names.lookup x=some .cell
 nofree:∀y∈sc.names,y.2≠ .free
theorem Oy{kindOf:Str->Option NameKind}{x:Str}:∀{binds:List (Str×Value)} {m:Wd},(∀v,(x,v)∉binds)->bindL kindOf binds m x=m x
 |[],_,_=>rfl
 |(n,v)::r,m,h=>by
  unfold bindL;rw[Oy fun w hw=>h w (Yi _ hw)]
  split
  .have:x≠n:=by rintro rfl;exact h v Ys
   simp[this]
  .rfl
theorem Q5{kindOf:Str->Option NameKind}{x:Str}:∀{binds:List (Str×Value)} {m:Wd},(∀v,(x,v)∉binds)->bindC kindOf binds m x=m x
 |[],_,_=>rfl
 |(n,v)::r,m,h=>by
  unfold bindC;rw[Q5 fun w hw=>h w (Yi _ hw)]
  split
  .rfl
  .have:x≠n:=by rintro rfl;exact h v Ys
   simp[this]
theorem Pm{kindOf:Str->Option NameKind}{x:Str}{v:Wn}:∀{P:List Str} {vs:Wq} {i:Nat} {m:Wd},P.Nodup->P[i]?=some x->vs[i]?=some v->kindOf x=some .local->
  bindL kindOf (P.zip vs) m x=some v
 |[],_,_,_,_,h,_,_=>by simp at h
 |_::_,[],_,_,_,_,h,_=>by simp at h
 |p::P,w::vs,0,m,nd,h1,h2,hk=>by
  simp at h1 h2;subst h1;subst h2;show bindL kindOf ((p,w)::P.zip vs) m p=_;unfold bindL;rw[Oy fun v hv=>(YI.mp nd).1 (VM hv).1,Y3 hk];simp
 |p::P,w::vs,i+ 1,m,nd,h1,h2,hk=>by
  show bindL kindOf ((p,w)::P.zip vs) m x=_;unfold bindL;exact Pm (i:=i) (YI.mp nd).2 (by simpa using h1) (by simpa using h2) hk
theorem Lw{kindOf:Str->Option NameKind}{x:Str}{v:Wn}:∀{P:List Str} {vs:Wq} {i:Nat} {m:Wd},P.Nodup->P[i]?=some x->vs[i]?=some v->kindOf x≠some .local->
  bindC kindOf (P.zip vs) m x=some v
 |[],_,_,_,_,h,_,_=>by simp at h
 |_::_,[],_,_,_,_,h,_=>by simp at h
 |p::P,w::vs,0,m,nd,h1,h2,hk=>by
  simp at h1 h2;subst h1;subst h2;show bindC kindOf ((p,w)::P.zip vs) m p=_;unfold bindC;rw[Q5 fun v hv=>(YI.mp nd).1 (VM hv).1,Y2 hk];simp
 |p::P,w::vs,i+ 1,m,nd,h1,h2,hk=>by
  show bindC kindOf ((p,w)::P.zip vs) m x=_;unfold bindC;exact Lw (i:=i) (YI.mp nd).2 (by simpa using h1) (by simpa using h2) hk
def start(N:List Str)(vs:List V):St:=vs.map some++List.replicate (N.length - vs.length) none
def To(CX:Gq)(P:Wh)(w:Wl)(K:Wm)(mg:Wd)(base:Wr)(N:List Str)(qual:Str)(scope:Scope)(f:Wo)(cd:Wn)(A:Wk)(outer:List Env)(s:Wi)(H:Hp)(E:XK):Cx where
 prog:=P
 w:=w
 K:=K
 mg:=mg
 base:=base
 A:=A.deeper (envOfC qual scope s.heap.objs.size f cd)
 N:=N
 s₀:=s
 H₀:=H
 env:=envOfC qual scope s.heap.objs.size f cd
 outer:=outer
 stack:=envOfC qual scope s.heap.objs.size f cd::outer
 ex:=[]
 calm:=true
 fn:=fun _=>true
 pn:=[]
 xe:=fun e s'=>wpAny (model P w) (A.deeper (envOfC qual scope s.heap.objs.size f cd)) (leaving (envOfC qual scope s.heap.objs.size f cd) e) (fun _ s''=>CX outer H s E e s'') (fun e' s''=>CX outer H s E e' s'') s'
theorem P9{sc:Scope}{n:Nat}{x:Str}(h:sc.names.lookup x=some .cell):∃c,(cellsFrom n sc.names []).lookup x=some c:=by
 have q:=W.cellsFrom_some sc.names n [] (.inl h);exact Xw.mp q
theorem nK{CX:Gq}{P:Wh}{w:Wl}{K:Wm}{mg:Wd}{base:Wr}{N ps:List Str}{qual:Str}{scope:Scope}{f:Wo}{cd:Wn}{A:Wk}{outer:List Env}{s s1:Wi}{H:Hp}{E:XK}{us:Wq}{vs:List V}
  (S:Jv N ps scope) (hd:A.handled=none) (e0:MJ P w K mg base A outer s H) (hl:vs.length=ps.length) (r:WD vs us)
  (x:InCallC s s.heap.objs.size (bindL (envOfC qual scope s.heap.objs.size f cd).kindOf (ps.zip us) fun _=>none) (cellsFrom (s.heap.objs.size+ 1) scope.names []) (bindC (envOfC qual scope s.heap.objs.size f cd).kindOf (ps.zip us) fun _=>none) s1):
  Wx (To CX P w K mg base N qual scope f cd A outer s H E) [] (start N vs) H s1:=by
 have hpl:ps.length <=N.length:=by have:=X0 List.length S.pre;rw[Yu]at this;lia
 obtain⟨h1,tk,rfl,hk⟩:=x.done;have g:∀b:Addr,b∉(To CX P w K mg base N qual scope f cd A outer s H E).ex:=fun b z=>absurd (show b∈([]:List Addr) from z) (by simp)
 refine ⟨⟨e0.mod, S.kind, rfl, rfl, Y5 _, fun y z c h1 h2 => ?_, fun y d => ?_, fun y c _ h => ?_, fun _ => hd, Around.frames_deeper e0.frames, .inr ⟨rfl, rfl⟩, fun b z => absurd z (g b), e0.bs, e0.bsz, fun b _ _ => g b, fun b z => absurd z (g b), e0.funs, e0.frf⟩,
  rfl, e0.bare, Un.kept hk, ⟨_, x.toInCall.ns, fun i y v h1 h2 h3 => ?_⟩, fun y c h => ⟨_, x.cell y c h⟩, e0.hok.fresh (Y5 _), fun y c h => ?_, fun p j => absurd (show p ∈ ([] : List (Addr × Obj)) from j) (by simp), e0.hok.kept hk, ?_⟩
 .exact name_of_addr x.apart (Xf h1) (Xf h2)
 .have d:scope.names.lookup y=some .cell\/scope.names.lookup y=some .free:=d;rcases d with d|d
  .exact P9 d
  .exact absurd rfl (S.nofree _ (Xf d))
 .exact Xv (x.above y c (Xf h))
 .have hi:i < vs.length:=by
   unfold start at h2
   by_cases hi:i < vs.length
   .exact hi
   .rw[Xb (by simpa using hi)]at h2;rw[List.getElem?_replicate]at h2
    split at h2 <;> cases h2
  have ha:vs[i]?=some v:=by
   unfold start at h2;rw[Vx (by simpa using hi),Yc]at h2;cases e:vs[i]? with
   |none=>rw[e]at h2;cases h2
   |some a=>rw[e]at h2;cases h2;rfl
  obtain⟨u,o,rv⟩:=r.get ha;have j:ps[i]?=some y:=by
   rw[<-S.pre,VD (by lia)];exact h1
  have l:ps.Nodup:=by rw[<-S.pre];exact S.nd.sublist (Ue _ _)
  refine⟨u,rv,?_⟩;rcases S.par y (Yw j) with k|k
  .exact .inl ⟨k,Pm l j o k⟩
  .obtain⟨c,e⟩:=P9 (n:=s.heap.objs.size+ 1) k;refine .inr ⟨.inl k,c,e,?_⟩;have q:=x.cell y c e;rw[Lw l j o (by show scope.names.lookup y≠_;rw[k];decide)]at q;exact q
 .exact e0.hok.fresh (Xv (x.above y c (Xf h)))
 .unfold start;show _=N.length;rw[List.length_append,Y0,List.length_replicate]
  lia
theorem R5{CX:Gq}{P:Wh}{w:Wl}{K:Wm}{mg:Wd}{base:Wr}{k:Nat}{f:Wo}{name qual:Str}{params:Arguments}{body:List Stmt}{scope:Scope}{dV kV doc pm cdv ct oc:Wn}{an od:Option Addr}
  {osl:Array (Option Value)} {N ps:List Str} {sp:Sp} (lk:K.lookup f=some ⟨oc,od,.func (W.fnOf name qual params body scope dV kV doc pm an cdv ct),osl⟩) (hcd:W.codeIn K cdv qual=true) (S:Jv N ps scope)
  (len:∀vs H Q E,sp vs H Q E->vs.length=ps.length)
  (hbody : ∀ (A : Around) (outer : List Env) (s : Shared) (H : Hp) (vs : List V) (Q : VK) (E : XK), Room k (A.deeper (envOfC qual scope s.heap.objs.size f cdv)) -> sp vs H Q E ->
   ∃ t, Mf (To CX P w K mg base N qual scope f cdv A outer s H E) body t /\ t { nx := fun _ H' => Q .non H', rt := Q } (start N vs) H) :
  WA P w K mg base CX (k+ 1) f (W.fnOf name qual params body scope dV kV doc pm an cdv ct) ps sp:=by
 refine⟨len,fun A outer s H args p vs Q E i a hb r d=>?_⟩;have hl:=len _ _ _ _ d;have l:K.In s.heap:=a.mod.kin.keeps fun b o e=>(a.bs b o e).1
 have j:s.heap.NoLimit:=a.mod.nolimit.keeps fun b o e=>(a.bs b o e).1
 have c:∀y∈ps.zip p,scope.names.lookup y.1=some .local\/(scope.names.lookup y.1=some .cell/\((cellsFrom (s.heap.objs.size+ 1) scope.names []).lookup y.1).isSome=true):=fun⟨n,v⟩ hy=>by
  rcases S.par n (VM hy).1 with q|q
  .exact .inl q
  .exact .inr ⟨q,W.cellsFrom_some _ _ _ (.inl q)⟩
 refine codeAny_call_function i.depth (l _ _ lk) rfl S.co S.gen rfl (W.codeRec_of l hcd) (hb _ _ _ _ ?_);refine wpAny_newFunctionEnv_cells S.kind c fun env he s1 x=>?_
 subst he;refine⟨j.keeps x.toInCall.keep,codeAny_func ?_⟩;obtain⟨t,z,hq⟩:=hbody A outer s H vs Q E (i.deeper _) d;have I:Wx (To CX P w K mg base N qual scope f cdv A outer s H E) [] (start N vs) H s1:=nK S i.hd a hl r x;refine YF (z [] s1 (start N vs) H _ I hq) (fun fl s' hs=>?_) fun e s' hs=>hs
 have g:∀{σ':St} {H':Hp} {v:V} {u:Wn},Wx (To CX P w K mg base N qual scope f cdv A outer s H E) [] σ' H' s'->WI v u->Q v H'->CE outer P w H s Q u s':=
  fun {σ' H' v u} J h q=>⟨v,H',J.os,J.bare,J.base,J.hok,h,q⟩
 cases fl with
 |ret u=>
  obtain⟨v,σ',H',J,h,q⟩:=hs;exact g J h q
 |next=>
  obtain⟨σ',H',J,q⟩:=hs;exact g (v:=V.non) (u:=Value.none) J rfl q
 |brk=>
  obtain⟨_,_,_,q⟩:=hs;exact False.elim q
 |cont=>
  obtain⟨_,_,_,q⟩:=hs;exact False.elim q
section
variable{X:Cx}{x:Str}{p pos:Pos}{e:Ws}{es:List Expr}{t:TA}{id T:String}{r:List V->Hp->VK->Prop}
def Bb(r:List V->Hp->VK->Prop)(t:TA):TE:=fun σ H Q=>t σ H fun vs H1=>r vs H1 Q
theorem Zl(hc:WW X (.builtin id) r)(hg:Gl X x)(hm:X.mg x=none)(hv:bootBuiltins x=some (.builtin id))(ha:PA X (e::es) t)(hn:x≠"__name__":=by decide)(hdb:(x==("__debug__":Str))=false:=by decide)
  (he:starEach (e::es) X.env=(false,eval e X.env)::starEach es X.env:=by rfl) (hpl:(backTo pos (starEach es X.env)).any (·.1)=false:=by rfl):PE X (.Call (.Name x p) (e::es) [] pos) (Bb r t):=by
 intro pins s σ H Q I h;refine XI (RM I hg hm hv ?_ hn hdb);exact PyProof.Rows.callWith_builtin1 (WZ (ha pos pins s σ H _ I h) fun a s1 ⟨vs,H1,d,b,c⟩=>hc pins s1 σ H1 vs a Q d b c) he hpl
theorem RK(hc:WW X (.type T) r)(hg:Gl X x)(hm:X.mg x=none)(hv:bootBuiltins x=some (.type T))(ha:PA X (e::es) t)(hn:x≠"__name__":=by decide)(hdb:(x==("__debug__":Str))=false:=by decide)
  (he:starEach (e::es) X.env=(false,eval e X.env)::starEach es X.env:=by rfl) (hpl:(backTo pos (starEach es X.env)).any (·.1)=false:=by rfl):PE X (.Call (.Name x p) (e::es) [] pos) (Bb r t):=by
 intro pins s σ H Q I h;refine XI (RM I hg hm hv ?_ hn hdb);exact XH (WZ (ha pos pins s σ H _ I h) fun a s1 ⟨vs,H1,d,b,c⟩=>hc pins s1 σ H1 vs a Q d b c) he hpl
end
end L2
namespace HT
open PySem PyProof.Rows
theorem nW(A:Wk)(s:Wi)(a:Int)(t:Tok)(c:Int)(u:Tok):∃e,SeqAt.EqAt A s (.int a t) (.int c u) e/\(e=true↔a=c):=
 ⟨(a==c),SeqAt.EqAt.int_int a t c u,by simp⟩
theorem SF(A:Wk)(s:Wi)(a:Int)(t:Tok)(c:Int)(u:Tok)(prog:Wh)(w:Wl)(E:We)(Q:We)(h:Q (.bool (decide (a < c))) s):
  wpAny (model prog w) A (richCompare .Lt (.int a t) (.int c u)) Q E s:=
 (PyProof.Rows.lt_int h:wpAny (model prog w) A (compareOp .Lt (.int a t) (.int c u)) Q E s)
section
variable{prog:Wh}{w:Wl}{A:Wk}{E:We}{s:Wi}
def sIx(n d:Nat):Option Int->Nat
 |none=>d
 |some v=>if v < 0 then(v+ (n:Int)).toNat else min v.toNat n
end
end HT
namespace L2
open PySem PySem.Spec PyProof.Rows
abbrev TO:=St->Hp->(Option Int->Hp->Prop)->Prop
def PO(X:Cx)(e:Option Expr)(t:TO):Prop:=
 ∀ (pins:Wg) (s:Wi) (σ:St) (H:Hp) (Q:Option Int->Hp->Prop),Wx X pins σ H s->t σ H Q->
  wpAny (model X.prog X.w) X.A (evalPart e X.env) (fun u s'=>∃o H',Wx X pins σ H' s'/\IsPart u o/\Q o H') X.xe s
def HV(t:TE):TO:=fun σ H Q=>t σ H fun x H1=>∃i,x= .int i/\Q (some i) H1
section
variable{X:Cx}{e:Ws}{te:TE}{lo hi:Option Expr}{tl th:TO}{pos p2:Pos}
theorem Pu(h:PE X e te):PO X (some e) (HV te):=by
 intro pins s σ H Q I c;rw[evalPart_some];refine WZ (h pins s σ H _ I c) fun u s1 ⟨x,H1,d,a,b⟩=>?_
 obtain⟨i,rfl,q⟩:=b;obtain⟨t,rfl⟩:=a;exact⟨some i,H1,d,.int i t,q⟩
def R6(X:Cx)(r:V->Option Int->Option Int->Hp->VK->Prop):Prop:=
 ∀ (pins:Wg) (s:Wi) (σ:St) (H:Hp) (x:V) (v vl vu:Wn) (lo hi:Option Int) (sl:Wo) (Q:VK),Wx X pins σ H s->WI x v->s.heap.IsSliceOf sl vl vu .none->IsPart vl lo->IsPart vu hi->r x lo hi H Q->
  ∃T id,typeLookup (.type T) "__getitem__"=pure (some (.builtin id))/\s.TypeIs v T/\wpAny (model X.prog X.w) X.A (getItem v (.ref sl)) (EP X pins σ Q) X.xe s
def Li(r:V->Option Int->Option Int->Hp->VK->Prop)(te:TE)(tl th:TO):TE:=fun σ H Q=>te σ H fun x H1=>tl σ H1 fun l H2=>th σ H2 fun u H3=>r x l u H3 Q
theorem d8{r:V->Option Int->Option Int->Hp->VK->Prop}(hr:R6 X r)(he:PE X e te)(hl:PO X lo tl)(hu:PO X hi th):PE X (.Subscript e (.Slice lo hi none p2) pos) (Li r te tl th):=by
 intro pins s σ H Q I h;refine Subscript_ (WZ (he pins s σ H _ I h) fun v s1 ⟨x,H1,I1,g,n⟩=>?_);refine wpAny_Slice (WZ (hl pins s1 σ H1 _ I1 n) fun d s2 ⟨l,H2,I2,p,j⟩=>WZ (hu pins s2 σ H2 _ I2 j) fun c a ⟨u,f,I3,o,i⟩=>?_);rw[evalPart_none];refine Ye ?_;have I4:Wx X pins σ f {a with heap:=a.heap.push {cls:=.type "slice",data:=.fields #[d,c,.none]}}:=I3.kept (t':=a.toks) fun b ob q=>Y7 _ q
 obtain⟨T,id,hT,z,hg⟩:=hr pins {a with heap:=a.heap.push {cls:=.type "slice",data:=.fields #[d,c,.none]}} σ f x v d c l u a.heap.objs.size Q I4 g (Heap.IsSliceOf.new ..) p o i;show wpAny (model X.prog X.w) X.A (subscriptTail e (.Slice lo hi none p2) v (.ref a.heap.objs.size)) (EP X pins σ Q) X.xe {a with heap:=a.heap.push {cls:=.type "slice",data:=.fields #[d,c,.none]}};exact tail_any (ops:=[.ref a.heap.objs.size,v]) z hT hg (by with_unfolding_all rfl)
def Rh(xs:List V)(lo hi:Option Int):List V:=(xs.drop (HT.sIx xs.length 0 lo)).take (HT.sIx xs.length xs.length hi - HT.sIx xs.length 0 lo)
theorem gE(xs:List V)(lo hi:Option Int):(Rh xs lo hi).length <=xs.length:=by
 unfold Rh;rw[Yu,YQ]
 lia
end
def GO(n:Nat)(i:Int):Option Nat:=if 0 <=i then(if i < n then some i.toNat else none) else if -(n:Int) <=i then some (i+ n).toNat else none
def Mh{α:Type}(xs:List α)(i:Int):Option α:=(GO xs.length i).bind fun j=>xs[j]?
theorem yS{n:Nat}{i:Int}{j:Nat}(h:GO n i=some j):seqIndex? i n=some j/\j < n/\ -(n:Int) <=i/\i < n:=by
 unfold GO at h
 by_cases h0:0 <=i
 .rw[Y3 h0]at h
  by_cases h1:i < n
  .rw[Y3 h1]at h;have e:i.toNat=j:=Option.some.inj h;exact⟨by rw[seqIndex_of h0 h1,e],by lia,by lia,h1⟩
  .rw[Y2 h1]at h;cases h
 .rw[Y2 h0]at h
  by_cases h1: -(n:Int) <=i
  .rw[Y3 h1]at h;have e:(i+ n).toNat=j:=Option.some.inj h;exact⟨by rw[seqIndex_neg (by lia) h1,e],by lia,h1,by lia⟩
  .rw[Y2 h1]at h;cases h
theorem Op{α:Type}{xs:List α}{i:Int}{v:α}(h:Mh xs i=some v):∃j,seqIndex? i xs.length=some j/\xs[j]?=some v/\j < xs.length/\ -(xs.length:Int) <=i/\i < xs.length:=by
 unfold Mh at h;cases e:GO xs.length i with
 |none=>rw[e]at h;cases h
 |some j=>
  rw[e]at h;obtain⟨h1,h2,b,a⟩:=yS e;exact⟨j,h1,h,h2,b,a⟩
theorem Ry{α:Type}{xs:List α}{j:Nat}{v:α}(h:xs[j]?=some v):Mh xs (j:Int)=some v:=by
 have a:j < xs.length:=(Y4.mp h).1;have e:GO xs.length (j:Int)=some j:=by
  unfold GO;rw[Y3 (by lia),Y3 (by lia)];simp
 unfold Mh;rw[e];exact h
theorem dC{α:Type}(xs:List α)(v:α):Mh (xs++[v]) (-1)=some v:=by
 have a:(xs++[v]).length=xs.length+ 1:=by simp
 have e:GO (xs++[v]).length (-1)=some xs.length:=by
  unfold GO;rw[a,Y2 (by decide),Y3 (by lia)]
  congr 1
  lia
 unfold Mh;rw[e];show(xs++[v])[xs.length]?=some v;simp
def Fz(b:Ws):Prop:=∀o i,subscripted b false o i=operate [o,i] (getItem o i)
def DZ(X:Cx)(r:R2):Prop:=
 ∀ (value slice:Ws) (pins:Wg) (s:Wi) (σ:St) (H:Hp) (x y:V) (v u:Wn) (Q:VK),Wx X pins σ H s->WI x v->WI y u->r x y H Q->
  subscripted slice false v u=operate [v,u] (getItem v u)->wpAny (model X.prog X.w) X.A (subscriptTail value slice v u) (EP X pins σ Q) X.xe s
def A9(X:Cx)(id:String)(r:V->List V->Hp->VK->Prop):Prop:=
 ∀ (pins:Wg) (s:Wi) (σ:St) (H:Hp) (x:V) (xs:List V) (v:Wn) (us:Wq) (Q:VK),Wx X pins σ H s->WI x v->WD xs us->r x xs H Q->
  wpAny (model X.prog X.w) X.A (call (.builtin id) (v::us)) (EP X pins σ Q) X.xe s
section
variable{X:Cx}{a b:Ws}{ta tb:TE}{pos:Pos}
theorem Pi{r:R2}(hr:DZ X r)(ha:PE X a ta)(hb:PE X b tb)(hs:Fz b):PE X (.Subscript a b pos) (Gh r ta tb):=by
 intro pins s σ H Q I h;exact Subscript_ (HI ha hb I h fun v u s2 x y H2 c rx ry q=>hr a b pins s2 σ H2 x y v u Q c rx ry q (hs _ _))
def By(K:Wm):R2:=fun x y H Q=>∃p xs i v,x= .ref p/\y= .int i/\WB K H p xs/\Mh xs i=some v/\Q v H
def BI(K:Wm):R2:=fun x y H Q=>∃p xs i v,x= .ref p/\y= .int i/\JV K H p xs/\Mh xs i=some v/\Q v H
theorem SN:DZ X (By X.K):=by
 intro value g pins s σ H x y v u Q I rx ry h hs;obtain⟨p,xs,i,z,rfl,rfl,l,o,q⟩:=h;cases rx;obtain⟨t,rfl⟩:=ry;obtain⟨e,r,b,hz⟩:=I.list l;obtain⟨j,h1,h2,h3,h4,h5⟩:=Op o;obtain⟨w,f,d⟩:=r.get h2;have n:=r.length;have hn:=Cu;have a:EP X pins σ Q w s:=⟨z,H,I,d,q⟩
 by_cases h0:0 <=i
 .have c:i.toNat=j:=by
   rw[seqIndex_of h0 h5]at h1;exact Option.some.inj h1
  exact item_listR b.isList h0 (by lia) (by rw[c];simpa using f) a hs
 .have c:(i+ (e.toArray.size:Int)).toNat=j:=by
   rw[seqIndex_neg (by lia) h4]at h1;rw[Yd,<-n];exact Option.some.inj h1
  exact subscriptTail_builtinR (x:=w) b.isList.typeIs slot_list_getitem.lookup
   (wpAny_getItem_list_neg (Q:=fun r s'=>r=w/\EP X pins σ Q r s') b.isList (by lia) (by rw[Yd] <;> lia) (by lia) (by rw[c];simpa using f) ⟨rfl,a⟩) hs
theorem SO:DZ X (BI X.K):=by
 intro value d pins s σ H x y v u Q I rx ry h hs;obtain⟨p,xs,i,z,rfl,rfl,e,g,q⟩:=h;cases rx;obtain⟨t,rfl⟩:=ry;obtain⟨n,r,b,o⟩:=I.tuple e;obtain⟨j,h1,h2,h3,h4,h5⟩:=Op g;obtain⟨w,l,a⟩:=r.get h2;have f:=r.length;have hn:=Cu;have c:EP X pins σ Q w s:=⟨z,H,I,a,q⟩;exact subscriptTail_builtinR (x:=w) b.typeIs slot_tuple_getitem.lookup
  (getItem_tuple (j:=j) (Q:=fun r s'=>r=w/\EP X pins σ Q r s') b (by lia) (by lia) (by rw[Yd,<-f];exact h1) (by simpa using l) ⟨rfl,c⟩) hs
theorem nS(lo hi:Option Int)(n:Nat):(sliceBounds lo hi none n).1=((HT.sIx n 0 lo:Nat):Int)/\(sliceBounds lo hi none n).2.1=((HT.sIx n n hi:Nat):Int)/\(sliceBounds lo hi none n).2.2=1:=by
 refine⟨?_,?_,rfl⟩
 .cases lo with
  |none=>simp[sliceBounds,HT.sIx]
  |some i=>
   simp only[sliceBounds,HT.sIx,Option.getD_none,show(1:Int) > 0 by decide,if_true]
   by_cases h:i < 0
   .simp only[h,if_true] <;> lia
   .simp only[h,if_false] <;> lia
 .cases hi with
  |none=>simp[sliceBounds,HT.sIx]
  |some i=>
   simp only[sliceBounds,HT.sIx,Option.getD_none,show(1:Int) > 0 by decide,if_true]
   by_cases h:i < 0
   .simp only[h,if_true] <;> lia
   .simp only[h,if_false] <;> lia
theorem wD(its:Wq)(lo hi:Option Int):slicePick its.toArray lo hi none=((its.drop (HT.sIx its.length 0 lo)).take (HT.sIx its.length its.length hi - HT.sIx its.length 0 lo)).toArray:=by
 obtain⟨h1,h2,a⟩:=nS lo hi its.toArray.size;unfold slicePick;rw[h1,h2,a];simp only[sliceRange_one,pick_run,Yd] <;> rfl
def Ce(K:Wm):V->Option Int->Option Int->Hp->VK->Prop:=fun x lo hi H Q=>∃a xs,x= .ref a/\WB K H a xs/\∀p,H p=none->Q (.ref p) (upd H p (.lst (Rh xs lo hi)))
theorem Sx:R6 X (Ce X.K):=by
 intro pins s σ H x v n l lo hi p Q I rx hs f e h;obtain⟨a,xs,rfl,i,q⟩:=h;cases rx;obtain⟨j,r,d,g⟩:=I.list i;have c:=r.length;refine⟨"list",_,slot_list_getitem.lookup,d.isList.typeIs,?_⟩;refine wpAny_getItem_list_slice d.isList hs f e .none (by simp) ?_ (by rw[Yd] <;> lia);rw[wD,<-c];refine⟨.ref s.heap.objs.size,_,I.laid (t':=s.toks) (o:=.lst (Rh xs lo hi)) (fun b w q=>Y7 _ q) (Y5 _) ?_,rfl,q _ (I.hok.fresh (Y5 _))⟩;exact⟨YH (gE xs lo hi) g,_,0,(r.drop (HT.sIx xs.length 0 lo)).take (HT.sIx xs.length xs.length hi - HT.sIx xs.length 0 lo),Yl _ rfl⟩
def RF:V->Bool
 | .non=>true
 | .bl _=>true
 | .int _=>true
 | .str _=>true
 |_=>false
def Rc:V->V->Bool
 | .non,.non=>true
 | .bl a,.bl b=>a==b
 | .bl a,.int b=>(if a then 1 else 0)==b
 | .int a,.bl b=>a==(if b then 1 else 0)
 | .int a,.int b=>a==b
 | .str a,.str b=>a==b
 |_,_=>false
theorem m9{A:Wk}{s:Wi}{y x:V}{u v:Wn}(ry:WI y u)(rx:WI x v)(fy:RF y=true)(fx:RF x=true):SeqAt.EqAt A s u v (Rc y x):=by
 cases y with
 |non=>
  cases ry;cases x with
  |non=>cases rx;exact SeqAt.EqAt.same _
  |bl b=>cases rx;exact SeqAt.EqAt.none_bool b
  |int b=>obtain⟨t,rfl⟩:=rx;exact SeqAt.EqAt.none_int b t
  |str b=>obtain⟨t,rfl⟩:=rx;exact SeqAt.EqAt.none_str b t
  |_=>exact absurd (show false=true from fx) Yf
 |bl a=>
  cases ry;cases x with
  |non=>cases rx;exact SeqAt.EqAt.bool_none a
  |bl b=>cases rx;exact SeqAt.EqAt.bool_bool a b
  |int b=>obtain⟨t,rfl⟩:=rx;exact SeqAt.EqAt.bool_int a b t
  |str b=>obtain⟨t,rfl⟩:=rx;exact SeqAt.EqAt.bool_str a b t
  |_=>exact absurd (show false=true from fx) Yf
 |int a=>
  obtain⟨c,rfl⟩:=ry;cases x with
  |non=>cases rx;exact SeqAt.EqAt.int_none a c
  |bl b=>cases rx;exact SeqAt.EqAt.int_bool a c b
  |int b=>obtain⟨t,rfl⟩:=rx;exact SeqAt.EqAt.int_int a c b t
  |str b=>obtain⟨t,rfl⟩:=rx;exact SeqAt.EqAt.int_str a c b t
  |_=>exact absurd (show false=true from fx) Yf
 |str a=>
  obtain⟨c,rfl⟩:=ry;cases x with
  |non=>cases rx;exact SeqAt.EqAt.str_none a c
  |bl b=>cases rx;exact SeqAt.EqAt.str_bool a c b
  |int b=>obtain⟨t,rfl⟩:=rx;exact SeqAt.EqAt.str_int a c b t
  |str b=>obtain⟨t,rfl⟩:=rx;exact SeqAt.EqAt.str_str a c b t
  |_=>exact absurd (show false=true from fx) Yf
 |_=>exact absurd (show false=true from fy) Yf
def Ra(x:V)(u:Wn):Bool:=match u with
 | .none=>Rc .non x
 | .bool b=>Rc (.bl b) x
 | .int i _=>Rc (.int i) x
 | .str z _=>Rc (.str z) x
 |_=>false
theorem Oi{x y:V}{u:Wn}(r:WI y u)(f:RF y=true):Ra x u=Rc y x:=by
 cases y with
 |non=>cases r;rfl
 |bl b=>cases r;rfl
 |int i=>obtain⟨t,rfl⟩:=r;rfl
 |str z=>obtain⟨t,rfl⟩:=r;rfl
 |_=>exact absurd (show false=true from f) Yf
theorem Lp{x:V}:∀{xs:List V} {us:Wq},WD xs us->xs.all RF=true->us.any (Ra x)=xs.any fun y=>Rc y x
 |_,_,.nil,_=>rfl
 |y::xs,u::us,.cons r t,f=>by
  rw[List.all_cons,YR]at f;rw[XO,XO,Oi r f.1,Lp t f.2]
theorem KY{A:Wk}{s:Wi}{x:V}{v:Wn}(rx:WI x v)(fx:RF x=true):∀{xs:List V} {us:Wq},WD xs us->xs.all RF=true->∀u∈us,SeqAt.EqAt A s u v (Ra x u)
 |_,_,.nil,_=>fun u hu=>by cases hu
 |y::xs,u::us,.cons r t,f=>fun u' hu=>by
  rw[List.all_cons,YR]at f;rcases Yp.mp hu with rfl|hu
  .rw[Oi r f.1];exact m9 r rx f.1 fx
  .exact KY rx fx t f.2 u' hu
def Rx(x:V)(xs:List V):Bool:=xs.any fun y=>Rc y x
def QW(K:Wm)(neg:Bool):R2:=fun x y H Q=>∃p xs,y= .ref p/\(WB K H p xs\/JV K H p xs)/\RF x=true/\xs.all RF=true/\Q (.bl (if neg then !Rx x xs else Rx x xs)) H
theorem Zb:JA X (compareOp .In) (QW X.K false):=by
 intro pins s σ H x y v u Q I rx ry h;obtain⟨p,xs,rfl,b,e,fs,q⟩:=h;cases ry;rcases b with b|b
 .obtain⟨a,r,c,f⟩:=I.list b;refine SeqAt.in_listAt (Ra x) c.isList (fun w d=>KY rx e r fs w (by simpa using d)) ⟨.bl _,H,I,rfl,?_⟩;rw[show a.toArray.any (Ra x)=a.any (Ra x) by simp,Lp r fs];exact q
 .obtain⟨a,r,c,f⟩:=I.tuple b;refine SeqAt.in_tupleAt (Ra x) c (fun w d=>KY rx e r fs w (by simpa using d)) ⟨.bl _,H,I,rfl,?_⟩;rw[show a.toArray.any (Ra x)=a.any (Ra x) by simp,Lp r fs];exact q
theorem xQ:WW X (.builtin "len") (fun xs H Q=>∃p ys,xs=[.ref p]/\(WB X.K H p ys\/JV X.K H p ys)/\Q (.int ys.length) H):=by
 intro pins s σ H xs g Q I r h;obtain⟨p,ys,rfl,b,q⟩:=h;obtain⟨u,rfl,rx⟩:=DM r;cases rx;have i:=Cu;rcases b with b|b
 .obtain⟨e,c,d,f⟩:=I.list b;have a:=c.length;exact Calls.call_len_list d.isList (by simp only[Yd] <;> lia) ⟨.int ys.length,H,I.tok _,⟨s.toks+ 1,by rw[Yd,a]⟩,q⟩
 .obtain⟨e,c,d,f⟩:=I.tuple b;have a:=c.length;exact len_tuple d (by simp only[Yd] <;> lia) ⟨.int ys.length,H,I.tok _,⟨s.toks+ 1,by rw[Yd,a]⟩,q⟩
theorem uU:WW X (.builtin "len") (fun xs H Q=>∃z,xs=[.str z]/\z.length <=sizeLine/\Q (.int z.length) H):=by
 intro pins s σ H xs a Q I r h;obtain⟨z,rfl,b,q⟩:=h;obtain⟨u,rfl,t,rfl⟩:=DM r;have c:=Cu;exact len_str (by lia) ⟨.int z.length,H,I.tok _,⟨_,rfl⟩,q⟩
theorem Se:WW X (.type "list") (fun xs H Q=>∃p ys,xs=[.ref p]/\(WB X.K H p ys\/JV X.K H p ys)/\∀l,H l=none->Q (.ref l) (upd H l (.lst ys))):=by
 intro pins s σ H xs us Q I r h;obtain⟨p,ys,rfl,g,q⟩:=h;obtain⟨u,rfl,rx⟩:=DM r;cases rx;have i:∀ (a:Wq),WD ys a->ys.length <=sizeLine->∀ (h':Wr) (c':Nat),(∀b o',s.heap.get? b=some o'->h'.get? b=some o')->
   h'.get? s.heap.objs.size=some {cls:=.type "list",dict:=none,data:=.seq a.toArray c',slots:=#[]}->EP X pins σ Q (.ref s.heap.objs.size) {s with heap:=h'}:=fun a c f h' c' d e=>
  ⟨.ref s.heap.objs.size,_,I.laid (t':=s.toks) d (Y5 _) (show WO X.prog X.w _ h' _ (.lst ys) from⟨f,a,c',c,e⟩),rfl,q _ (I.hok.fresh (Y5 _))⟩
 rcases g with g|g
 .obtain⟨a,c,j,f⟩:=I.list g;have z:=c.length;obtain⟨o,v,hc,n,hd⟩:=j.isList;exact call_list_seq p (.inl rfl) v hc hd (fun h' c' d e=>i a c f h' c' d e) (by simp only[Yd] <;> lia)
 .obtain⟨a,c,j,f⟩:=I.tuple g;have z:=c.length;obtain⟨o,v,hc,n,hd⟩:=j;exact call_list_seq p (.inr rfl) v hc hd (fun h' c' d e=>i a c f h' c' d e) (by simp only[Yd] <;> lia)
def K6(K:Wm)(T:String)(x:V)(H:Hp):Prop:=match x with
 | .str _=>T="str"
 | .int _=>T="int"
 | .ref p=>(T="list"/\∃xs,WB K H p xs)\/(T="tuple"/\∃o,K.lookup p=some o/\o.cls= .type "tuple"/\o.dict=none)\/
   (T="dict"/\((∃kvs,H p=some (.dK kvs))\/∃kvs,H p=some (.dT kvs)))\/(T="set"/\∃S n,H p=some (.set S n))
 |_=>False
theorem QN{pins:Wg}{σ:St}{H:Hp}{s:Wi}{T:String}{x:V}{v:Wn}(I:Wx X pins σ H s)(r:WI x v)(ty:K6 X.K T x H):
  s.TypeIs v T/\∀a,v= .ref a->∃ob,s.heap.get? a=some ob/\ob.dict=none:=by
 cases x with
 |str z=>
  obtain⟨t,rfl⟩:=r;cases (show T="str" from ty);exact⟨typeIs_str s z t,fun _ e=>nomatch e⟩
 |int i=>
  obtain⟨t,rfl⟩:=r;cases (show T="int" from ty);exact⟨typeIs_int s i t,fun _ e=>nomatch e⟩
 |ref p=>
  cases r;rcases ty with⟨rfl,xs,hq⟩|⟨rfl,o,hk,hc,b⟩|⟨rfl,hk⟩|⟨rfl,S,n,hk⟩
  .obtain⟨g,_,f,_⟩:=I.list hq;refine⟨f.isList.typeIs,fun a e=>?_⟩;cases e;obtain⟨o,n,e,c,b,_⟩:=f;exact⟨o,e,b⟩
  .refine⟨⟨o,I.kIn p o hk,hc⟩,fun a e=>?_⟩;cases e;exact⟨o,I.kIn _ o hk,b⟩
  .have z:∃o,s.heap.get? p=some o/\o.ExactDict:=by
    rcases hk with⟨kvs,hk⟩|⟨kvs,hk⟩
    .obtain⟨_,_,_,_,o,_,_,e,ex,_⟩:=I.hok p _ hk;exact⟨o,e,ex⟩
    .obtain⟨_,_,_,_,o,_,_,e,ex,_⟩:=I.hok p _ hk;exact⟨o,e,ex⟩
   obtain⟨o,e,ex⟩:=z;refine⟨⟨o,e,ex.1⟩,fun a d=>?_⟩;cases d;exact⟨o,e,ex.2.1⟩
  .obtain⟨o,_,_,_,e,ex,_⟩:=I.hok p _ hk;refine⟨⟨o,e,ex.1⟩,fun a d=>?_⟩;cases d;exact⟨o,e,ex.2.1⟩
 |_=>exact False.elim ty
def Cv(K:Wm)(T:String)(r:V->List V->Hp->VK->Prop)(to:TE):TE:=fun σ H Q=>to σ H fun x H1=>K6 K T x H1/\r x [] H1 Q
def CT(K:Wm)(T:String)(r:V->List V->Hp->VK->Prop)(to:TE)(t:TA):TE:=fun σ H Q=>to σ H fun x H1=>K6 K T x H1/\t σ H1 fun xs H2=>r x xs H2 Q
variable{o e:Ws}{es:List Expr}{to:TE}{t:TA}{name:Str}{apos cpos:Pos}{T id:String}{r:V->List V->Hp->VK->Prop}
theorem SZ(pa:PlainAttrs T)(slot:Slot T name id)(hty:typeOf (.builtin id)=pure (.type "method_descriptor"))(hm:A9 X id r)(ho:PE X o to)
  (hbase:attributeBase o name X.env (eval o X.env)=eval o X.env:=by rfl) (hline:(apos.endLine==cpos.line)=true:=by rfl):PE X (.Call (.Attribute o name apos) [] [] cpos) (Cv X.K T r to):=by
 intro pins s σ H Q I h;refine wpAny_Call_method0_late hbase hline (WZ (ho pins s σ H _ I h) fun v s1 ⟨x,H1,b,a,ty,c⟩=>?_);obtain⟨h1,h2⟩:=QN b a ty;exact⟨T,id,pa,slot,hty,h1,h2,Calls.callWith_builtin rfl (PySem.evalArgs_none (hm pins s1 σ H1 x [] v [] Q b a .nil c))⟩
theorem wZ(pa:PlainAttrs T)(slot:Slot T name id)(hty:typeOf (.builtin id)=pure (.type "method_descriptor"))(hm:A9 X id r)(ho:PE X o to)(ha:PA X (e::es) t)
  (hbase:attributeBase o name X.env (eval o X.env)=eval o X.env:=by rfl)
  (hfew : ((backTo cpos (starEach (e :: es) X.env)).all (fun x => !x.1) && (backToKw cpos (keywordEach [] X.env)).all (fun x => x.1.isSome)
   && decide ((e :: es).length + ([] : List Keyword).length + (if ([] : List Keyword).isEmpty then 0 else 1) < 30)) = true := by rfl)
  (hline:(apos.endLine==cpos.line)=true:=by rfl) (hs:starEach (e::es) X.env=(false,eval e X.env)::starEach es X.env:=by rfl) (hplain:(backTo cpos (starEach es X.env)).any (·.1)=false:=by rfl):
  PE X (.Call (.Attribute o name apos) (e::es) [] cpos) (CT X.K T r to t):=by
 intro pins s σ H Q I h;refine wpAny_Call_method_late hbase hfew hline rfl (WZ (ho pins s σ H _ I h) fun v s1 ⟨x,H1,c,a,ty,i⟩=>?_);obtain⟨h1,h2⟩:=QN c a ty;refine⟨T,id,pa,slot,hty,h1,h2,?_⟩;have b:=ha cpos pins s1 σ H1 _ c i;rw[hs]at b ⊢;refine Calls.callWith_builtin (by show(false||(backTo cpos (starEach es X.env)).any (·.1))=false;rw[hplain] <;> rfl) (Calls.evalArgs_plain ?_);exact WZ b fun d s2 ⟨vs,H2,j,f,g⟩=>hm pins s2 σ H2 x vs v d Q j a f g
end
def Dc(X:Cx)(id:String)(r:V->List V->Hp->VK->Prop):Prop:=
 ∀ (pins:Wg) (s:Wi) (σ:St) (H:Hp) (x:V) (xs:List V) (v:Wn) (us:Wq) (Q:VK),Wx X pins σ H s->WI x v->WD xs us->r x xs H Q->
  wpAny (model X.prog X.w) X.A (call (.builtin id) (v::us)) (EP X pins σ Q) X.xe s
theorem WD.one:∀{x:V} {us:Wq},WD [x] us->∃u,us=[u]/\WI x u
 |_,_,.cons r .nil=>⟨_,rfl,r⟩
theorem WD.zero:∀{us:Wq},WD [] us->us=[]
 |_,.nil=>rfl
theorem WD.dropLast{xs:List V}{us:Wq}(h:WD xs us):WD xs.dropLast us.dropLast:=by
 induction h with
 |nil=>exact .nil
 |cons r t ih=>
  cases t with
  |nil=>exact .nil
  |cons q t'=>exact .cons r ih
theorem Zj{α:Type}(l:List α):l.eraseIdx (l.length - 1)=l.dropLast:=by
 induction l with
 |nil=>rfl
 |cons a r ih=>
  cases r with
  |nil=>rfl
  |cons b r=>
   have e:(a::b::r).length - 1=((b::r).length - 1)+ 1:=by
    have h1:(a::b::r).length=r.length+ 2:=rfl;have h2:(b::r).length=r.length+ 1:=rfl
    lia
   rw[e,List.eraseIdx_cons_succ,ih]
   all_goals rfl
section
variable{X:Cx}{pins:Wg}{σ:St}{H:Hp}{s:Wi}{l b:Wo}{xs ys zs:List V}
theorem Wx.lset{its its':Wq}{n:Nat}{f:Array Value->Array Value}{t':Nat}(I:Wx X pins σ H s)(hH:H l=some (.lst xs))
  (e:s.heap.get? l=some {cls:=.type "list",data:=.seq its.toArray n}) (hf:f its.toArray=its'.toArray) (hv:WD ys its') (hz:ys.length <=sizeLine):
  Wx X pins σ (upd H l (.lst ys)) {s with heap:=s.heap.update l (Obj.mapSeq f),toks:=t'}:=by
 have q:=PySem.IsL.update e f;rw[hf]at q;refine I.write (x:=l) (e:=l) (by rw[hH];exact trivial) (.inl rfl) (fun c u b a=>(Heap.get?_update_other s.heap (Obj.mapSeq f) (Ne.symm b)).trans a) ⟨_,q⟩ ?_;exact⟨hz,its',_,hv,q⟩
theorem Wx.lnew{its:Wq}{t':Nat}(I:Wx X pins σ H s)(hv:WD ys its)(hz:ys.length <=sizeLine):
  Wx X pins σ (upd H s.heap.objs.size (.lst ys)) {s with heap:=s.heap.push {cls:=.type "list",data:=.seq its.toArray},toks:=t'}:=
 I.laid (fun _ _ q=>Y7 _ q) (Y5 _) ⟨hz,its,0,hv,Yl _ rfl⟩
theorem Wx.fresh(I:Wx X pins σ H s):H s.heap.objs.size=none:=I.hok.fresh (Y5 _)
theorem Wx.lstM(I:Wx X pins σ H s)(hH:H l=some (.lst xs)):xs.length <=sizeLine/\∃ (its:Wq) (n:Nat),WD xs its/\xs.length=its.length/\s.heap.get? l=some {cls:=.type "list",data:=.seq its.toArray n}:=by
 obtain⟨z,its,n,r,e⟩:=I.hok l _ hH;exact⟨z,its,n,r,r.length,e⟩
theorem y6{n:Nat}(h:n <=sizeLine):Builtin.List.listTooLong n=false:=by
 unfold Builtin.List.listTooLong;exact Yt (by lia)
end
section
variable{X:Cx}
def Iw:V->List V->Hp->VK->Prop:=fun x vs H Q=>∃l xs y,x= .ref l/\vs=[y]/\H l=some (.lst xs)/\xs.length < sizeLine/\Q .non (upd H l (.lst (xs++[y])))
theorem DE:Dc X "list.append" Iw:=by
 intro pins s σ H x vs v d Q I rx c h;obtain⟨l,xs,y,rfl,rfl,b,f,q⟩:=h;cases rx;obtain⟨u,rfl,ru⟩:=c.one;obtain⟨z,a,n,r,g,e⟩:=I.lstM b;refine call_meets F.slot_list_append ⟨_,e,rfl⟩ F.entry_list_append (F.args_list_append_2 _ _) (PySem.list_append l a.toArray n u (by rw[Yd];lia)) ⟨e,?_⟩;refine⟨.non,_,I.lset (its':=a++[u]) b e (by simp) (r.append (.cons ru .nil)) ?_,rfl,q⟩;rw[List.length_append,UW]
 lia
def HY:V->List V->Hp->VK->Prop:=fun x vs H Q=>∃l b xs zs,x= .ref l/\vs=[.ref b]/\H l=some (.lst xs)/\H b=some (.lst zs)/\xs.length+ zs.length <=sizeLine/\Q .non (upd H l (.lst (xs++zs)))
theorem DJ:Dc X "list.extend" HY:=by
 intro pins s σ H x vs v us Q I rx g h;obtain⟨l,b,xs,zs,rfl,rfl,f,o,hz,q⟩:=h;cases rx;obtain⟨u,rfl,ru⟩:=g.one;cases ru;obtain⟨z,its,n,r,hl,e⟩:=I.lstM f;obtain⟨z2,a,j,i,w,p⟩:=I.lstM o;have d:its.toArray.size+ a.toArray.size <=sizeLine:=by rw[Yd,Yd];lia
 have c:¬(!its.toArray.isEmpty && Builtin.List.listTooLong (its.toArray.size+ a.toArray.size))=true:=by
  rw[y6 d,Bool.and_false];exact Yf
 refine call_meets F.slot_list_extend ⟨_,e,rfl⟩ F.entry_list_extend (F.args_list_extend_2 _ _)
  (AutoSeq1.list_extend_list_list_0 l its.toArray n b a.toArray j c (by rw[Yd];lia) (by lia)) ⟨e,p,?_⟩
 refine⟨.non,_,I.lset (its':=its++a) f e (by simp) (r.append i) ?_,rfl,q⟩;rw[List.length_append]
 lia
def xW:V->List V->Hp->VK->Prop:=fun x vs H Q=>∃l xs y,x= .ref l/\vs=[]/\H l=some (.lst xs)/\xs[xs.length - 1]?=some y/\Q y (upd H l (.lst xs.dropLast))
theorem Ec:Dc X "list.pop" xW:=by
 intro pins s σ H x vs v o Q I rx f h;obtain⟨l,xs,y,rfl,rfl,d,g,q⟩:=h;cases rx;have c:=f.zero;subst c;obtain⟨z,a,n,r,j,e⟩:=I.lstM d;obtain⟨u,i,ru⟩:=r.get g;have b:a.toArray[a.toArray.size - 1]?=some u:=by
  show a.toArray[a.length - 1]?=some u;rw[<-Array.getElem?_toList,<-j];exact i
 refine call_meets F.slot_list_pop ⟨_,e,rfl⟩ F.entry_list_pop (F.args_list_pop_1 _) (MeetsSeq.list_pop_last l a.toArray n u b (by rw[Yd];lia)) ⟨e,?_⟩;refine⟨y,_,I.lset (its':=a.dropLast) d e ?_ r.dropLast ?_,ru,q⟩
 .show a.toArray.eraseIdxIfInBounds (a.toArray.size - 1)=a.dropLast.toArray;rw[Yd,List.eraseIdxIfInBounds_toArray,Zj]
 .rw[List.length_dropLast]
  lia
def KO:R2:=fun x y H Q=>∃l b xs zs,x= .ref l/\y= .ref b/\H l=some (.lst xs)/\H b=some (.lst zs)/\xs.length+ zs.length <=sizeLine/\∀p,H p=none->Q (.ref p) (upd H p (.lst (xs++zs)))
theorem E5:JA X (binaryOp .Add) KO:=by
 intro pins s σ H x y v u Q I rx ry h;obtain⟨l,b,xs,zs,rfl,rfl,f,g,hz,q⟩:=h;cases rx;cases ry;obtain⟨z,c,n,r,hl,e⟩:=I.lstM f;obtain⟨p,a,w,d,o,j⟩:=I.lstM g;refine PySem.P.add_list e j ?_ (by rw[Yd,Yd];lia);have i:c.toArray++a.toArray=(c++a).toArray:=by simp
 rw[i];exact⟨.ref _,_,I.lnew (t':=s.toks) (r.append d) (by rw[List.length_append];lia),rfl,q _ I.fresh⟩
end
end L2
namespace Att
open PySem PySem.W PySem.Calls PyProof.Rows
theorem wG{P:Params}{h:Wr}:∀ (ns:Wp) (vs:Wq),WellAll P h vs (ns.map WData.int)->IntsAre vs ns:=by
 intro ns
 induction ns with
 |nil=>
  intro vs w;rw[List.map_nil]at w;cases w;exact .nil
 |cons n ns ih=>
  intro vs w;rw[List.map_cons]at w;cases w with
  |cons a b=>
   cases a;exact .cons _ _ (ih _ b)
theorem d9{l:OpenLaw}{n:Nat}(hn:l.most=some n){P:Params}{h:Wr}{args:List WData}{vals:Wq}
  (hpre:l.row.toRowW.claim.pre args=true) (hwl:WellAll P h vals args):
  ∃a vs ns,vals=[Value.ref a]/\args=[WData.list (ns.map WData.int)]/\h.get? a=some {cls:=.type "list",data:=.seq vs.toArray}/\IntsAre vs ns/\ns.length <=n:=by
 have f:WShape.hasAll [] args [.list .int]=true:=(pre_splitW hpre).1;have g:l.pre.holds [] {args:=args}=true:=(pre_splitW hpre).2;obtain⟨d,r,rfl,h1,h2⟩:=hasAllW_cons f;obtain rfl:=hasAllW_nil h2;obtain⟨xs,rfl,j⟩:=hasW_list h1;obtain⟨ns,rfl⟩:=items_int j;have e:ns.length <=n:=by
  unfold OpenLaw.pre at g;have c:(WTm.not (.lt (.lit (.int (n:Int))) (.len (.arg 0)))).holds [] {args:=[.list (ns.map .int)]}=true:=by
   have c:=(holds_andW g).1;rw[hn]at c;exact c
  have b:=condW_of c (w_not (w_lt w_lit (w_len_list (w_arg rfl))));rw[Y0]at b;refine Nat.le_of_not_lt fun q=>?_
  have i:(n:Int) < ((ns.length:Nat):Int):=by lia
  first
   |(rw[Yq i]at b;exact absurd b (by decide))
   |(simp at b;lia)
 cases hwl with
 |cons w1 w2=>
  cases w2;cases w1 with
  |list ho hall=>exact⟨_,_,ns,rfl,rfl,ho,wG ns _ hall,e⟩
theorem Zq(l:OpenLaw)(args:List WData):l.row.toRowW.claim.post args (.bool true) args=true:=
 postW_of (r:=l.row.toRowW) (X:=(true==true))
  (show WShape.has [] (.bool true) .bool=true by first|rfl|decide|simp[WShape.has,WShape.arms,WShape.armsAll])
  (show(WTm.eq .res (.lit (.bool true))).value [] {args:=args,res:=some (.bool true),after:=args}=some (.bool (true==true)) from w_eq_bool (w_res rfl) w_lit) rfl
theorem attach_call{l:OpenLaw}{n:Nat}{q:Wh}{loose:List Str}{XP:(Str->Option Value)->Heap->Prop}{YP:World->Heap->Prop}{d:DefRec}
  (hn:l.most=some n) (hdf:d.params.defaults=[])
  (call : ∀ (w : World) (s₀ s₁ : Shared) (mg mb : Str -> Option Value) (fa : Addr) (o : Obj) (pm cd doc : Value) (a : Addr) (vs : List Value) (ns : List Int),
   Ground q loose [] XP w s₀ mg mb s₁.heap->YP w s₁.heap->
   s₁.heap.get? fa=some o->o.data= .func (docDef d.name d.params d.body d.scope pm cd doc)->s₁.heap.CodeRec cd d.name->mg d.name=some (.ref fa)->
   s₁.heap.get? a=some {cls:=.type "list",data:=.seq vs.toArray}->IntsAre vs ns->ns.length <=n->s₁.gens=#[]->
   codeAny (model l.prog w) callerA (.call (.ref fa) ⟨[.ref a], []⟩) (fun r s' => r = .ok (.ret (.bool true)) /\ OldK s₁.heap s'.heap /\ s'.os = s₁.os /\ AllBare s'.gens) s₁) :
  WalkO q loose XP YP l.row.toRowW d [] (fun f vs=>PySem.call f vs):=by
 intro w s₀ s₁ mg mb G Y fa o pm cd doc dV kV z hd j p i hg args s as c hlay hrd h hlo;obtain rfl:dV= .none:=Dflts.none p hdf;obtain rfl:kV= .none:=Dflts.noKw p;obtain⟨a,vs,ns,rfl,rfl,e,b,g⟩:=d9 hn c h;refine enter_call (Uk (call w s₀ s₁ mg mb fa o pm cd doc a vs ns G Y z (fd_plain hd) j i e b g hg) fun r s' v=>?_);obtain⟨rfl,h2,h3,h4⟩:=v;exact⟨.inl ⟨.bool true,.bool true,[],rfl,fun _=>rfl,.bool true,Zq l _,fun _=>⟨List.Pairwise.nil,fun _ hm=>(nomatch hm)⟩⟩,h2,h3,h4⟩
section
variable{prog:Wh}{w:Wl}{A:Wk}{E:We}{s:Wi}{K:Frag}
def II(h:Wr)(L d:Wo):List (Addr×Obj):=(List.range h.objs.size).filterMap fun a=>if a=L\/a=d then none else(h.get? a).map fun o=>(a,o)
end
end Att
namespace L2
open PySem PySem.Spec PyProof.Rows
theorem Pa:∀{vs:Wq} {ns:Wp},IntsAre vs ns->WD (ns.map V.int) vs
 |_,_,.nil=>.nil
 |_,_,.cons n t h=>.cons ⟨t,rfl⟩ (Pa h)
def Tr(s:Stmt)(j:Nat):Stmt:=match s with
 | .ClassDef _ _ _ body _ _ _ _ _ _ _=>body.getD j (.Pass ⟨0,0,0,0⟩)
 |_=>.Pass ⟨0,0,0,0⟩
def Mt(s:Stmt):Arguments:=match s with
 | .FunctionDef _ a _ _ _ _ _ _ _ _=>a
 |_=>{posonlyargs:=[],args:=[],vararg:=none,kwonlyargs:=[],kw_defaults:=[],kwarg:=none,defaults:=[]}
def WC(s:Stmt):List Stmt:=match s with
 | .FunctionDef _ _ b _ _ _ _ _ _ _=>b
 |_=>[]
def Wt(s:Stmt):Scope:=match s with
 | .FunctionDef _ _ _ _ _ _ sc _ _ _=>sc
 |_=>{kind:=.function,names:=[],isGenerator:=false,isCoroutine:=false}
abbrev Je:Gq:=fun _ _ _ _ _ _=>False
abbrev E0:XK:=fun _ _ _=>False
theorem CA{X:Cx}:A6 Je X E0:=fun _ _ _ _ _ _ _ h=>h.elim
structure JL(K:Wm)(x qual:Str)(st:Stmt)(f:Wo)(fd:Wj):Prop where
 ex:∃ (oc:Wn) (od:Option Addr) (kV doc pm:Wn) (an:Option Addr) (cdv ct:Wn) (osl:Array (Option Value)),
  fd=W.fnOf x qual (Mt st) (WC st) (Wt st) .none kV doc pm an cdv ct/\K.lookup f=some ⟨oc,od,.func fd,osl⟩/\W.codeIn K cdv qual=true
 kp:W.keepIn K (.ref f)=true
section
variable{P:Wh}{w:Wl}{K:Wm}{mg:Wd}{base:Wr}
theorem JL.ok{x qual:Str}{st:Stmt}{f:Wo}{fd:Wj}{N ps:List Str}{k:Nat}{sp:Sp}(F:JL K x qual st f fd)(S:Jv N ps (Wt st))(len:∀vs H Q E,sp vs H Q E->vs.length=ps.length)
  (hbody : ∀ (cdv : Value) (A : Around) (outer : List Env) (s : Shared) (H : Hp) (vs : List V) (Q : VK) (E : XK), Room k (A.deeper (envOfC qual (Wt st) s.heap.objs.size f cdv)) -> sp vs H Q E ->
   ∃ t, Mf (To Je P w K mg base N qual (Wt st) f cdv A outer s H E).nox (WC st) t /\ t { nx := fun _ H' => Q .non H', rt := Q } (start N vs) H) : WA P w K mg base Je (k + 1) f fd ps sp := by
 obtain⟨j,i,kV,g,pm,l,cdv,ct,e,rfl,c,b⟩:=F.ex;refine R5 c b S len fun A outer s H vs Q E d a=>?_
 obtain⟨t,h,q⟩:=hbody cdv A outer s H vs Q E d a;exact⟨t,h.nox,q⟩
theorem JL.binds{x qual:Str}{st:Stmt}{f:Wo}{fd:Wj}{ps:List Str}(F:JL K x qual st f fd)
  (h:∀ (kV doc pm:Wn) (an:Option Addr) (cdv ct:Wn) (us:Wq),us.length=ps.length->bindArgs (W.fnOf x qual (Mt st) (WC st) (Wt st) .none kV doc pm an cdv ct) ⟨us,[]⟩=pure (ps.zip us)):T6 K fd ps []:=by
 obtain⟨d,c,kV,doc,pm,an,cdv,ct,a,rfl,e,b⟩:=F.ex;exact .all (h kV doc pm an cdv ct)
theorem CH{x qual:Str}{st:Stmt}{f:Wo}{oc:Wn}{od an:Option Addr}{osl:Array (Option Value)}{kV doc pm cdv ct:Wn}(l:K.lookup f=some ⟨oc,od,.func (W.fnOf x qual (Mt st) (WC st) (Wt st) .none kV doc pm an cdv ct),osl⟩)
  (c:W.codeIn K cdv qual=true) (k:W.keepIn K (.ref f)=true):JL K x qual st f (W.fnOf x qual (Mt st) (WC st) (Wt st) .none kV doc pm an cdv ct):=⟨⟨oc,od,kV,doc,pm,an,cdv,ct,osl,rfl,l,c⟩,k⟩
end
theorem Dw{A:Wk}{k:Nat}(hr:Room k A):A.units+ 1 < cLine:=Yg (Nat.add_le_add_left (by decide:1 <=64) _) hr.units
section
variable{X:Cx}
theorem pv(i:Nat){x:Str}{pos:Pos}(hN:X.N[i]?=some x:=by rfl)(hv:BJ X.env.scope x:=by first|exact Or.inl rfl|exact Or.inr (Or.inl rfl)|exact Or.inr (Or.inr rfl))(hd:(x==("__debug__":Str))=false:=by decide)
  (hcd:(x==("__classdict__":Str))=false:=by decide):PE X (.Name x pos) (F9 i):=SY hN hv hd hcd
end
theorem Mv{c A B:Prop}[Decidable c](h1:c->A)(h2:¬c->B):if c then A else B:=by
 by_cases h:c
 .rw[Y3 h];exact h1 h
 .rw[Y2 h];exact h2 h
def Ww(H H':Hp):Prop:=∀b o,H b=some o->H' b=some o
theorem Ww.refl(H:Hp):Ww H H:=fun _ _ h=>h
theorem Ww.trans{H H1 H2:Hp}(a:Ww H H1)(b:Ww H1 H2):Ww H H2:=fun c o h=>b c o (a c o h)
theorem Ww.free{H H':Hp}(e:Ww H H'){l:Wo}(h:H' l=Option.none):H l=Option.none:=by
 cases q:H l with
 |none=>rfl
 |some o=>
  rw[e l o q]at h;cases h
end L2
set_option maxHeartbeats 4000000
namespace L2
open PySem PySem.Spec PyProof.Rows
theorem IP{env:Env}:∀ (names:List (Str×NameKind)) (cs:List (Str×Addr)),(∀x,(x,NameKind.free)∈names->∃c,env.cells.lookup x=some c)->
  (∀x c,cs.lookup x=some c->env.cells.lookup x=some c)->
  ∃cl,(forIn names cs fun(p:Str×NameKind) (r:List (Str×Addr))=>(match p with|(name,kind)=>(if(kind==NameKind.free)=true then(do let a <-cellOf env name;pure (ForInStep.yield ((name,a)::r))) else pure (ForInStep.yield r)):Sem (ForInStep (List (Str×Addr)))))=pure cl/\
   (∀x c,cl.lookup x=some c->env.cells.lookup x=some c)/\(∀x,(x,NameKind.free)∈names->∃c,cl.lookup x=some c)/\∀x,(∃c,cs.lookup x=some c)->∃c,cl.lookup x=some c
 |[],cs,_,h2=>⟨cs,rfl,h2,(fun _ h=>nomatch h),fun _ h=>h⟩
 |(n,k)::r,cs,h1,h2=>by
  by_cases hk:k=NameKind.free
  .subst hk;obtain ⟨c, hc⟩ := h1 n Ys;obtain ⟨cl, e, a, b, d⟩ := IP r ((n, c) :: cs) (fun x f => h1 x (Yi _ f)) (fun x c' f => by
    rw[XZ]at f;cases q:x==n with
    |true=>rw[q]at f;cases f;rw[eq_of_beq q];exact hc
    | false => rw [q] at f; exact h2 x c' f)
   refine⟨cl,?_,a,fun x f=>?_,fun x ⟨c',f⟩=>?_⟩
   .rw[UA];have:cellOf env n=pure c:=by unfold cellOf;rw[hc]
    simp only[this,beq_self_eq_true,if_true];exact e
   .rcases Yp.mp f with z|z
    .cases z;exact d _ ⟨c,by simp[XZ]⟩
    .exact b x z
   .refine d x ?_;rw[XZ];cases q:x==n with
    |true=>exact⟨c,rfl⟩
    |false=>exact⟨c',f⟩
  .obtain⟨cl,e,a,b,d⟩:=IP r cs (fun x f=>h1 x (Yi _ f)) h2;have g:(k==NameKind.free)=false:=by simpa using hk
   refine⟨cl,?_,a,fun x f=>?_,d⟩
   .rw[UA];simp only[g,Bool.false_eq_true,if_false];exact e
   .rcases Yp.mp f with z|z
    .cases z;exact absurd rfl hk
    .exact b x z
theorem Fo{scope:Scope}{env:Env}(h:∀x,(x,NameKind.free)∈scope.names->∃c,env.cells.lookup x=some c):
  ∃cl,closureFor scope env=pure cl/\(∀x c,cl.lookup x=some c->env.cells.lookup x=some c)/\∀x,(x,NameKind.free)∈scope.names->∃c,cl.lookup x=some c:=by
 obtain⟨cl,e,a,b,_⟩:=IP scope.names [] h (fun x c z=>nomatch z);refine⟨cl,?_,a,b⟩;unfold closureFor;show(forIn scope.names [] _ >>=fun d=>pure d)=pure cl;rw[show(forIn scope.names ([]:List (Str×Addr)) _:Sem _)=pure cl from e];rfl
theorem HZ{env:Env}{x:Str}:∀{names:List (Str×NameKind)} {k:NameKind},(names.map fun(n,k)=>if(k==NameKind.free && env.scope.kind== .function && env.kindOf n==some .cell) then(n,NameKind.cell) else(n,k)).lookup x=some k->
  (x,k)∈names\/(k=NameKind.cell/\(x,NameKind.free)∈names)
 |[],_,h=>by simp at h
 |(n,k')::r,k,h=>by
  have ih:=@HZ env x r k;have h':List.lookup x ((if(k'==NameKind.free && env.scope.kind== .function && env.kindOf n==some .cell)=true then(n,NameKind.cell) else(n,k'))::(r.map fun(n,k)=>if(k==NameKind.free && env.scope.kind== .function && env.kindOf n==some .cell) then(n,NameKind.cell) else(n,k)))=some k:=h
  by_cases hc:(k'==NameKind.free && env.scope.kind== .function && env.kindOf n==some .cell)=true
  .rw[Y3 hc,XZ]at h';cases q:x==n with
   |true=>
    rw[q]at h';have e:NameKind.cell=k:=Option.some.inj h';have a:k'=NameKind.free:=by
     have:=(YR _ _▸(YR _ _▸hc).1).1;exact eq_of_beq this
    have ex:x=n:=eq_of_beq q;subst a ex;exact .inr ⟨e.symm,Ys⟩
   |false=>
    rw[q]at h';rcases ih h' with z|⟨z1,z2⟩
    .exact .inl (Yi _ z)
    .exact .inr ⟨z1,Yi _ z2⟩
  .rw[Y2 hc,XZ]at h';cases q:x==n with
   |true=>
    rw[q]at h';have e:k'=k:=Option.some.inj h';have ex:x=n:=eq_of_beq q;subst e ex;exact .inl Ys
   |false=>
    rw[q]at h';rcases ih h' with z|⟨z1,z2⟩
    .exact .inl (Yi _ z)
    .exact .inr ⟨z1,Yi _ z2⟩
theorem tX{prog:Wh}{w:Wl}{A:Wk}{R:Result->Shared->Prop}{s:Wi}{elt target iter:Ws}{ifs:List Expr}{scope:Scope}{pos:Pos}{it acc:Wn}{env:Env}(I:Nat->Shared->Prop)
  (turn : ∀ n s, I n s -> wpAny (model prog w) A (pyNext it) (fun r s₁ => match r with
   |none=>R (.ok .next) s₁
   | some v => wpAny (model prog w) A (letOwnedTupleGo target it v) (fun _ s₀ => wpAny (model prog w) A (assign target env v) (fun _ s₂ =>
     wpAny (model prog w) A (forIn ifs true fun c r => if r = true then do let ok <- isTrue c env (eval c env); pure (ForInStep.yield ok) else pure (ForInStep.yield r)) (fun ok s₃ =>
      if ok = true then wpAny (model prog w) A (eval elt env) (fun x s₄ =>
       wpAny (model prog w) A (call (.builtin "list.append") [acc, x]) (fun _ s₅ => ∃ m, m < n /\ I m s₅) (fun _ _ => False) s₄) (fun _ _ => False) s₃
      else ∃ m, m < n /\ I m s₃) (fun _ _ => False) s₂) (fun _ _ => False) s₀) (fun _ _ => False) s₁) (fun _ _ => False) s)
  (n:Nat) (h:I n s):
  codeAny (model prog w) A (.compLoop (.ListComp elt [⟨target,iter,ifs,0⟩] scope pos) 0 it acc env) R s:=by
 refine codeAny_loop rfl I (fun n s i=>?_) n h;show wpAny _ A ((compTurn (.ListComp elt [⟨target,iter,ifs,0⟩] scope pos) 0 it acc env).onRaise (fun x=>do noteFrame x env;theTreesLotGoes x)) _ _ s;refine wpAny_noted (wpAny_noRaise ?_);rw[compTurn_list];refine Y1 (Vr (Y1 (YF (turn n s i) (fun r s₁ b=>?_) fun _ _ h'=>h')));cases r with
 |none=>exact Ye b
 |some v=>
  refine Y1 (YF b (fun _ s₀ g=>?_) fun _ _ h'=>h');refine Y1 (YF g (fun _ s₂ f=>Y1 (YF f (fun ok s₃ a=>?_) fun _ _ h'=>h')) fun _ _ h'=>h');cases ok with
  |false=>exact Ye ⟨rfl,a⟩
  |true=>
   exact Y1 (Y1 (YF a (fun x s₄ e=>Y1 (YF e (fun _ s₅ d=>Ye (Ye ⟨rfl,d⟩)) fun _ _ h'=>h')) fun _ _ h'=>h'))
def JU(X:Cx)(N':List Str)(scope:Scope)(cl:List (Str×Addr))(C:Wo)(s:Wi)(H:Hp)(ex:List Addr):Cx:=
 {X with N:=N',s₀:=s,H₀:=H,env:=compEnvC scope cl C X.env,outer:=X.stack,ex:=ex,fn:=fun _=>false,pn:=[],xe:=fun _ _=>False}
def Jj(caps:List (Option Nat))(σ:St):St:=caps.map fun o=>o.bind fun j=>(σ[j]?).join
def Qj(N N':List Str)(scope:Scope)(caps:List (Option Nat)):Prop:=
 caps.length=N'.length/\∀ (i j:Nat) (x:Str),N'[i]?=some x->caps[i]?=some (some j)->N[j]?=some x/\(x,NameKind.free)∈scope.names/\∀k,(x,k)∈scope.names->k=NameKind.free
structure B4(X:Cx)(N':List Str)(scope:Scope)(caps:List (Option Nat)):Prop where
 kind:scope.kind= .function
 nocell:∀y∈scope.names,y.2≠ .cell
 locs:∀y∈scope.names,y.2= .local->scope.names.lookup y.1=some .local
 cap:Qj X.N N' scope caps
 vis:∀x,(x,NameKind.free)∈scope.names->X.env.kindOf x=some .cell\/X.env.kindOf x=some .free
def L6:TT:=fun _ H Q=>Q true H
def EH(caps:List (Option Nat))(g:TG)(tc:TT)(te:TE)(σ:St)(Q:VK)(J:It)(H1:Hp):Prop:=
 ∃W:Nat->Nat->List V->St->Hp->Prop,(∃m,W 0 m [] (Jj caps σ) H1)/\∀i m ys σ' H,W i m ys σ' H->
  (J.stop i H/\ys.length <=sizeLine/\∀p,H p=none->Q (.ref p) (upd H p (.lst ys)))\/
  (J.go i H /\ ys.length < sizeLine /\ ∃ N : List V -> St -> Hp -> Prop, (∀ ys σ H, N ys σ H -> ∃ m', m' < m /\ W (i + 1) m' ys σ H) /\ ∀ x H', J.yld i H x H' -> g x σ' H' fun σ2 H2 => tc σ2 H2 fun b H3 =>
   if b = true then te σ2 H3 fun y H4 => N (ys ++ [y]) σ2 H4 else N ys σ2 H3)
def Ri(caps:List (Option Nat))(wi:TI)(g:TG)(tc:TT)(te:TE):TE:=fun σ H Q=>wi σ H fun J H1=>EH caps g tc te σ Q J H1
def DD(X:Cx)(ifs:List Expr)(t:TT):Prop:=
 ∀ (pins:Wg) (s:Wi) (σ:St) (H:Hp) (Q:Bool->Hp->Prop),Wx X pins σ H s->t σ H Q->
  wpAny (model X.prog X.w) X.A (forIn ifs true fun c r=>if r=true then do let ok <-isTrue c X.env (eval c X.env);pure (ForInStep.yield ok) else pure (ForInStep.yield r)) (TP X pins σ Q) X.xe s
theorem GW{X:Cx}:DD X [] L6:=fun _ _ _ H _ I h=>wpAny_tests_nil ⟨H,I,h⟩
theorem KJ{X:Cx}{c:Ws}{t:TT}(h:PT X c t):DD X [c] t:=fun pins s σ H Q I q=>wpAny_tests_one (h pins s σ H Q I q)
section
variable{X:Cx}{elt tg iter:Ws}{ifs:List Expr}{scope:Scope}{pos:Pos}{N':List Str}{caps:List (Option Nat)}{wi:TI}{g:TG}{tc:TT}{te:TE}
def Tq(its:Wq)(n:Nat):Obj:={cls:=.type "list",data:=.seq its.toArray n}
theorem PH{pins:Wg}{s2:Wi}{σ:St}{H2:Hp}{J:It}{it:Wo}{fp:List Addr}{tn:Nat->Heap->Prop}{cl:List (Str×Addr)}{Q:VK}{RR:Value->Addr->Result->Shared->Prop}
  (S:B4 X N' scope caps) (hc:X.calm=true)
  (hcl1:∀x c,cl.lookup x=some c->X.env.cells.lookup x=some c) (hcl2:∀x,(x,NameKind.free)∈scope.names->∃c,cl.lookup x=some c)
  (hg:∀cl C s H ex,PG (JU X N' scope cl C s H ex) tg g) (ht:∀C,DD (JU X N' scope cl C s2 H2 fp) ifs tc) (he:∀cl C s H ex,PE (JU X N' scope cl C s H ex) elt te)
  (I:Wx X pins σ H2 s2) (T:R3 X.prog X.w X.K tg J fp it tn) (st:tn 0 s2.heap) (f2:∀b∈fp,M6 X pins H2 b)
  (W:Nat->Nat->List V->St->Hp->Prop) (w0:∃m,W 0 m [] (Jj caps σ) H2)
  (turn : ∀ i m ys σ' H, W i m ys σ' H -> (J.stop i H /\ ys.length <= sizeLine /\ ∀ p, H p = none -> Q (.ref p) (upd H p (.lst ys))) \/
   (J.go i H /\ ys.length < sizeLine /\ ∃ N : List V -> St -> Hp -> Prop, (∀ ys σ H, N ys σ H -> ∃ m', m' < m /\ W (i + 1) m' ys σ H) /\ ∀ x H', J.yld i H x H' -> g x σ' H' fun σ2 H2 => tc σ2 H2 fun b H3 =>
    if b = true then te σ2 H3 fun y H4 => N (ys ++ [y]) σ2 H4 else N ys σ2 H3))
  (hRR : ∀ D C oC m s' H', Wx X (pins ++ [(C, oC)]) σ H' s' -> s'.heap.Ns C m -> Q (.ref D) H' -> X.s₀.heap.objs.size <= C -> (∀ x c, X.env.cells.lookup x = some c -> c ≠ C) -> (∀ p ∈ X.pn ++ pins, p.1 ≠ C) -> s'.heap.get? C = some oC ->
   RR (.ref D) C (.ok .next) s') {E : Value -> Shared -> Prop} :
  wpAny (model X.prog X.w) X.A (newList []) (fun acc s₃ => wpAny (model X.prog X.w) X.A (newFunctionEnv scope X.env.globals cl [] X.env.qual none .none (some X.env)) (fun cenv s₄ =>
   codeAny (model X.prog X.w) X.A (.compStart (.ListComp elt [⟨tg, iter, ifs, 0⟩] scope pos) 0 (.ref it) acc { cenv with scope := relabel scope X.env }) (RR acc cenv.locals) s₄) E s₃) E s2 := by
 refine UJ (wpAny_newFunctionEnv S.nocell (by intro y hy;simp at hy) (fun h₁ hns₁ hsb₁=>?_) S.kind);dsimp only at hns₁ hsb₁ ⊢;generalize hH2:s2.heap.push {cls:=.type "list",dict:=none,data:=.seq ([]:Wq).toArray}=HP at hns₁ hsb₁ ⊢;have hC:HP.objs.size=s2.heap.objs.size+ 1:=by rw[<-hH2,Uj]
 generalize hCC:HP.objs.size=C at hns₁ hsb₁ hC ⊢;have hDC:s2.heap.objs.size≠C:=by rw[hC];exact Yr (UR _)
 have aa:∀b,b < s2.heap.objs.size->b≠C:=fun b f=>by rw[hC];exact Yr (XS f)
 have old:∀b o,s2.heap.get? b=some o->h₁.get? b=some o:=fun b o e=>hsb₁.extBut b o (aa b (Yk e)) (Y7 _ (hH2▸Y7 _ e))
 have hacc:h₁.get? s2.heap.objs.size=some (Tq [] 0):=hsb₁.extBut _ _ hDC (Y7 _ (hH2▸Yl _ rfl));have fpLt:∀b∈fp,b < s2.heap.objs.size:=fun b f=>by obtain⟨o,e,_⟩:=T.obj _ _ st b f;exact Yk e
 have st₁:tn 0 h₁:=T.keep _ _ _ st fun b _ o e=>old b o e
 have sz:X.s₀.heap.objs.size <=s2.heap.objs.size:=I.sz;have cellLt:∀x c,X.env.cells.lookup x=some c->c < s2.heap.objs.size:=fun x c e=>by obtain⟨v,q⟩:=I.cell x c e;exact q.lt
 have okX:(JU X N' scope cl C s2 H2 fp).Ok:=by
  refine ⟨I.ok.mod, S.kind, I.ok.glob, I.ok.blt, by show s2.heap.objs.size <= C; rw [hC]; exact XY _, fun x y c a b => I.ok.inj x y c (hcl1 x c a) (hcl1 y c b), fun x hx => ?_, (fun x c z => by cases z), I.ok.hd, I.ok.frames, .inl rfl,
   fun b f => ⟨aa b (fpLt b f), fun x c e => (f2 b f).2.2.2.2.1 x c (hcl1 x c e)⟩, I.bs, YH I.ok.bsz sz, fun b o e f => ?_, fun b f z => ?_, I.stack, I.stkFree⟩
  .have key:∀k,(k=NameKind.cell\/k=NameKind.free)->(relabel scope X.env).names.lookup x=some k->∃c,cl.lookup x=some c:=fun k hk hx=>by
    rcases HZ hx with z|⟨_,z⟩
    .rcases hk with rfl|rfl
     .exact absurd rfl (S.nocell _ z)
     .exact hcl2 x z
    .exact hcl2 x z
   rcases hx with hx|hx
   .exact key _ (.inl rfl) hx
   .exact key _ (.inr rfl) hx
  .rcases(f2 b f).2.2.2.1 with z|z
   .exact I.ok.noex b o e z
   .exact absurd (Yx (Yk (I.ok.bs b o e).1) z) (X8 _)
  .rcases Yp.mp (I.stkSub b z) with y|y
   .exact(f2 b f).2.1 y
   .exact(f2 b f).2.2.1 y
 have freshC:∀b,s2.heap.objs.size <=b->H2 b=none:=fun b f=>I.hok.fresh f
 have capI:Wx (JU X N' scope cl C s2 H2 fp) [(s2.heap.objs.size,Tq [] 0)] (Jj caps σ) H2 {s2 with heap:=h₁,toks:=s2.toks+ ([]:List (Str×Value)).length}:=by
  refine⟨okX,rfl,I.bare,Un.kept old,⟨_,hns₁,fun i x v e1 e2 e3=>?_⟩,fun x c e=>?_,freshC C (by rw[hC];exact XY _),fun x c e=>I.freeC x c (hcl1 x c e),fun p hp=>?_,I.hok.kept old,?_⟩
  .have e2':(caps[i]?).map (fun o=>o.bind fun j=>(σ[j]?).join)=some (some v):=by
    unfold Jj at e2;rw[Yc]at e2;exact e2
   cases q:caps[i]? with
   |none=>rw[q]at e2';cases e2'
   |some o=>
    rw[q]at e2';cases o with
    |none=>cases e2'
    |some j=>
     have hv:(σ[j]?).join=some v:=Option.some.inj e2';obtain⟨hN,hfr,honly⟩:=S.cap.2 i j x e1 q;have hσ:σ[j]?=some (some v):=by
      cases r:σ[j]? with
      |none=>rw[r]at hv;cases hv
      |some o=>rw[r]at hv;rw[<-hv];rfl
     obtain⟨m,hn,hl⟩:=I.loc;have hkx:=S.vis x hfr;obtain⟨u,ru,lk⟩:=hl j x v hN hσ (by rcases hkx with z|z;exact .inr (.inl z);exact .inr (.inr z));refine⟨u,ru,.inr ?_⟩;obtain⟨c,hc'⟩:=hcl2 x hfr;have hcx:=hcl1 x c hc';rcases lk with⟨z,_⟩|⟨_,c',hc2,hcell⟩
     .rcases hkx with y|y <;> rw[y]at z <;> cases z
     .rw[hcx]at hc2;cases hc2;have hcell':h₁.IsCell c (some u):=by
       obtain⟨oc,q1,q2⟩:=hcell;exact⟨oc,old c oc q1,q2⟩
      refine⟨?_,c,hc',hcell'⟩;rcases e3 with z|z|z
      .rcases HZ z with y|⟨y,_⟩
       .have:=honly _ y;cases this
       .cases y
      .exact .inl z
      .exact .inr z
  .obtain⟨v,oc,q1,q2⟩:=I.cell x c (hcl1 x c e);exact⟨v,oc,old c oc q1,q2⟩
  .have e:p=(s2.heap.objs.size,Tq [] 0):=by simpa[JU] using hp
   subst e;refine ⟨hacc, freshC _ (Y5 _), hDC, fun z => ?_, fun v z => by cases z⟩;exact absurd (show s2.heap.objs.size < s2.heap.objs.size from by
    rcases Yp.mp (I.stkSub _ z) with y|y
    .exact absurd (I.lt) (by rw[<-y];exact X8 _)
    .exact absurd y (I.nofs (Y5 _))) (X8 _)
  .unfold Jj;rw[Y0];exact S.cap.1
 generalize hX':JU X N' scope cl C s2 H2 fp=X' at okX capI;have ePr:X'.prog=X.prog:=by rw[<-hX'];rfl
 have eW:X'.w=X.w:=by rw[<-hX'];rfl
 have eK:X'.K=X.K:=by rw[<-hX'];rfl
 have eA:X'.A=X.A:=by rw[<-hX'];rfl
 have eEnv:X'.env=compEnvC scope cl C X.env:=by rw[<-hX'];rfl
 have eXe:X'.xe=fun _ _=>False:=by rw[<-hX'];rfl
 have eCalm:X'.calm=true:=by rw[<-hX'];exact hc
 have eLoc:X'.env.locals=C:=by rw[eEnv];rfl
 have eS0:X'.s₀=s2:=by rw[<-hX'];rfl
 have eEx:X'.ex=fp:=by rw[<-hX'];rfl
 have eFs:X'.fs=Mq X.stack:=by rw[<-hX'];rfl
 have eCells:X'.env.cells=cl:=by rw[eEnv];rfl
 have ePn:X'.pn=[]:=by rw[<-hX'];rfl
 have eH0:X'.H₀=H2:=by rw[<-hX'];rfl
 have hgX:PG X' tg g:=hX'▸hg cl C s2 H2 fp;have htX:DD X' ifs tc:=hX'▸ht C;have heX:PE X' elt te:=hX'▸he cl C s2 H2 fp;obtain⟨m0,w0⟩:=w0;have nDfs:s2.heap.objs.size∉X'.fs:=fun z=>by
  rw[eFs]at z;rcases Yp.mp (I.stkSub _ z) with y|y
  .exact absurd (I.lt) (by rw[<-y];exact X8 _)
  .exact absurd y (I.nofs (Y5 _))
 have fpX:∀{H':Hp} {its:Wq} {n:Nat},(∀b∈fp,H' b=none)->∀b∈fp,M6 X' [(s2.heap.objs.size,Tq its n)] H' b:=fun {H' its n} hn b f=>by
  refine⟨hn b f,by rw[eLoc];exact aa b (fpLt b f),fun z=>?_,.inl (by rw[eEx];exact f),fun x c e=>?_,fun p hp z=>?_⟩
  .rw[eFs]at z;rcases Yp.mp (I.stkSub b z) with y|y
   .exact(f2 b f).2.1 y
   .exact(f2 b f).2.2.1 y
  .rw[eCells]at e;exact(f2 b f).2.2.2.2.1 x c (hcl1 x c e)
  .rw[ePn]at hp;have e:p=(s2.heap.objs.size,Tq its n):=by simpa using hp
   subst e;exact absurd (fpLt b f) (by rw[<-z];exact X8 _)
 have loop:∀s₃:Shared,s₃={s2 with heap:=h₁,toks:=s2.toks+ ([]:List (Str×Value)).length}->
   codeAny (model X.prog X.w) X.A (.compLoop (.ListComp elt [⟨tg,iter,ifs,0⟩] scope pos) 0 (.ref it) (.ref s2.heap.objs.size) (compEnvC scope cl C X.env)) (RR (.ref s2.heap.objs.size) C) s₃:=by
  rintro s₃ rfl;rw[<-eEnv,<-eA];refine tX (fun n s'=>∃i ys its k σ' H',Wx X' [(s2.heap.objs.size,Tq its k)] σ' H' s'/\tn i s'.heap/\(∀b∈fp,H' b=none)/\WD ys its/\W i n ys σ' H') ?_ m0
   ⟨0,[],[],0,Jj caps σ,H2,capI,st₁,fun b f=>(f2 b f).1,.nil,w0⟩
  rintro n s' ⟨i,ys,its,k,σ',H',I',st',fr',rv',w'⟩;rcases turn i n ys σ' H' w' with⟨stop,hsz,q⟩|⟨go,hsz,NN,hNN,step⟩
  .refine WZ (T.done X' ePr eW eK eCalm i _ s' σ' H' (fun _ _=>False) I' (fpX fr') st' stop) fun r s4 ⟨hr,I4⟩=>?_
   subst hr;have pinD:=(I4.pin (s2.heap.objs.size,Tq its k) (by rw[ePn];simp)).1;have freeD:=(I4.pin (s2.heap.objs.size,Tq its k) (by rw[ePn];simp)).2.1;have hq:=q s2.heap.objs.size freeD;obtain⟨mC,hnC,_⟩:=id I4.loc;rw[eLoc]at hnC;obtain⟨oC,es,ep,hoC,hdC,_⟩:=id hnC;have freeC':H' C=none:=by have:=I4.free;rw[eLoc]at this;exact this
   have l:=I4.base;rw[eS0,eEx,eFs,eH0]at l;have neD:∀b o,s2.heap.get? b=some o->b≠s2.heap.objs.size:=fun b o e=>Yr (Yk e)
   have neDH:∀b o,H2 b=some o->b≠s2.heap.objs.size:=fun b o e=>Yr (I.hok.lt e)
   have un4:Un (Mq X.stack) fp H2 (upd H' s2.heap.objs.size (.lst ys)) s2.heap s4.heap:=
    ⟨l.keep, l.slot, fun b o e n hx => by rw [WM (neD b o e)]; exact l.free b o e n hx, l.there, fun b xs e => by rw [WM (neDH b _ e)]; exact l.tups b xs e,
     fun b o u e => by rw [WM (neDH b _ e)]; exact l.frzs b o u e, fun b ps e => by rw [WM (neDH b _ e)]; exact l.tbls b ps e⟩
   have hok4:NB X.prog X.w (upd H' s2.heap.objs.size (.lst ys)) s4.heap:=by
    have h4:=I4.hok;rw[ePr,eW]at h4;intro b u e
    by_cases f:b=s2.heap.objs.size
    .subst f;rw[Jn]at e;cases e;exact⟨hsz,its,k,rv',pinD⟩
    .rw[WM f]at e;refine(h4 b u e).stay (fun c v _ z=>z) (fun c z=>?_) (fun c xs z=>?_)
     .rw[WM];exact z;intro zz;rw[zz,freeD]at z;cases z
     .rw[WM];exact z;intro zz;rw[zz,freeD]at z;cases z
   have os4:s4.os=s2.os:=by have:=I4.os;rw[eS0]at this;exact this
   have J4:Wx X pins σ (upd H' s2.heap.objs.size (.lst ys)) s4:=I.call' (ch:=fp) os4 un4 hok4 I4.bare fun b f=>⟨(f2 b f).2.2.2.1,(f2 b f).2.1,(f2 b f).2.2.2.2.1,(f2 b f).2.2.2.2.2⟩
   have hCle:X.s₀.heap.objs.size <=C:=by rw[hC];exact Nat.le_succ_of_le sz
   have hCcell:∀x c,X.env.cells.lookup x=some c->c≠C:=fun x c e=>aa c (cellLt x c e)
   have hCpin:∀p∈X.pn++pins,p.1≠C:=fun p hp=>aa p.1 (Yk (I.pin p hp).1)
   have hCl:C≠X.env.locals:=fun z=>absurd I.lt (by rw[<-z,hC];exact Nat.not_lt.mpr (XY _))
   refine hRR s2.heap.objs.size C oC mC s4 _ (J4.pins_of fun p hp=>?_) hnC hq hCle hCcell hCpin hoC;rcases Yj.mp hp with z|z
   .exact J4.pin p (Yv _ z)
   .have e:p=(C,oC):=by simpa using z
    subst e;refine⟨hoC,by rw[WM (Ne.symm hDC)];exact freeC',hCl,fun z=>?_,fun v z=>by rw[hdC]at z;cases z⟩;exact I.nofs (by rw[hC];exact XY _) z
  .refine WZ (T.item X' ePr eW eK eCalm i _ s' σ' H' (fun _ _=>False) I' (fpX fr') st' go) fun r s4 ⟨u,hr,h4⟩=>?_
   subst hr;refine WZ h4 fun _ s5 ⟨x,H5,I5,r5,y5,st5,fr5⟩=>?_
   have I5':=I5.pinned (fpX fr5) (T.obj _ _ st5);have xeF:∀{α:Type} {t:Sem α} {Q:α->Shared->Prop} {s:Wi},wpAny (model X.prog X.w) X'.A t Q X'.xe s->wpAny (model X.prog X.w) X'.A t Q (fun _ _=>False) s:=fun h=>by rw[eXe]at h;exact h
   have ag:=hgX _ s5 σ' H5 x u _ I5' r5 (step x H5 y5);rw[ePr,eW]at ag;refine WZ (xeF ag) fun _ s6 ⟨σ6,H6,I6,q6⟩=>?_
   have at':=htX _ s6 σ6 H6 _ I6 q6;rw[ePr,eW]at at';refine WZ (xeF at') fun b s7 ⟨H7,I7,q7⟩=>?_
   -- what the pins say behind the turn
   have back:∀{s8:Wi} {H8:Hp},Wx X' ([(s2.heap.objs.size,Tq its k)]++BK fp s5.heap) σ6 H8 s8->tn (i+ 1) s8.heap/\(∀b∈fp,H8 b=none)/\Wx X' [(s2.heap.objs.size,Tq its k)] σ6 H8 s8:=fun {s8 H8} I8=>by
    refine⟨T.keep _ _ _ st5 fun b f o e=>(I8.pin (b,o) (Yv _ (Yv _ (Cg f e)))).1,fun b f=>?_,I8.unpinned⟩;obtain⟨o,e,d⟩:=T.obj _ _ st5 b f;exact(I8.pin (b,o) (Yv _ (Yv _ (Cg f e)))).2.1
   cases b with
   |false=>
    simp only[Bool.false_eq_true,if_false]at q7 ⊢;obtain⟨m',hm,w7⟩:=hNN _ _ _ q7;obtain⟨t7,f7,I7'⟩:=back I7;exact⟨m',hm,i+ 1,ys,its,k,σ6,H7,I7',t7,f7,rv',w7⟩
   |true=>
    simp only[if_true]at q7 ⊢;have ae:=heX _ s7 σ6 H7 _ I7 q7;rw[ePr,eW]at ae;refine WZ (xeF ae) fun y s8 ⟨yv,H8,I8,r8,n8⟩=>?_
    obtain⟨m',hm,w8⟩:=hNN _ _ _ n8;obtain⟨t8,f8,I8'⟩:=back I8;have pinD:=I8'.pin (s2.heap.objs.size,Tq its k) (by rw[ePn];simp);have hlen:=rv'.length;refine append_at (its:=its.toArray) (n:=k) (hsz:=by rw[Yd,<-hlen];exact Xv hsz) pinD.1 fun h9 hs9 hD9=>?_
    have I9:Wx X' [] σ6 H8 {s8 with heap:=h9,toks:=s8.toks}:=by
     refine(I8'.pins_of (pins':=[]) fun p hp=>by simp at hp).turned (it:=s2.heap.objs.size) (fun b o f e=>(hs9.2 b f).trans e) pinD.2.1 (by rw[eLoc];exact hDC) (.inr (by rw[eS0];exact Y5 _)) (fun x c e=>?_) fun p hp=>?_
     .rw[eCells]at e;exact Yr (cellLt x c (hcl1 x c e))
     .rw[ePn]at hp;simp at hp
    have ePush:({cls:=.type "list",data:=.seq (its.toArray.push y) (k+ 1)}:Obj)=Tq (its++[y]) (k+ 1):=by unfold Tq;rw[List.push_toArray]
    rw[ePush]at hD9;refine⟨m',hm,i+ 1,ys++[yv],its++[y],k+ 1,σ6,H8,?_,T.keep _ _ _ t8 fun b f o e=>(hs9.2 b (Yr (fpLt b f))).trans e,f8,rv'.append (.cons r8 .nil),w8⟩;refine I9.pins_of fun p hp=>?_
    have e:p=(s2.heap.objs.size,Tq (its++[y]) (k+ 1)):=by simpa using hp
    subst e;exact⟨hD9,pinD.2.1,by rw[eLoc];exact hDC,nDfs,fun v z=>by cases z⟩
 exact codeAny_compStart_list (loop _ rfl) (T.self _ 0 _ _ _ st₁ (loop _ rfl))
theorem Wx.cellsOf{pins:Wg}{σ:St}{H:Hp}{s:Wi}(I:Wx X pins σ H s)(S:B4 X N' scope caps):∀x,(x,NameKind.free)∈scope.names->∃c,X.env.cells.lookup x=some c:=
 fun x a=>I.ok.has x (S.vis x a)
theorem Rb(S:B4 X N' scope caps)(hc:X.calm=true)(hi:PI X tg iter wi)
  (hg:∀cl C s H ex,PG (JU X N' scope cl C s H ex) tg g) (ht:∀cl C s H ex,DD (JU X N' scope cl C s H ex) ifs tc) (he:∀cl C s H ex,PE (JU X N' scope cl C s H ex) elt te)
  (hs:∀x,foldedSetIterable iter X.env x=pure x:=by intro _;rfl):PE X (.ListComp elt [⟨tg,iter,ifs,0⟩] scope pos) (Ri caps wi g tc te):=by
 intro pins s σ H Q I h;obtain⟨cl,r,i,f⟩:=Fo (I.cellsOf S);rw[eval_ListComp];refine wpAny_comprehension_free (use:=none) rfl hs r S.kind S.locs (WZ (hi pins s σ H _ I h) fun v s1 h1=>WZ h1 fun itv s2 h2=>?_);obtain⟨it,fp,tn,J,H2,e,I2,T,l,f2,W,w,c⟩:=h2;subst e;refine PH S hc i f hg (fun C=>ht _ C _ _ _) he I2 T l f2 W w c fun D C z m s' H' j hn q hC a d hoC=>?_
 refine⟨m,hn,fun h' hs'=>⟨.ref D,H',?_,rfl,q⟩⟩;have n:=j.pin (C,z) (Yv _ (Yv _ (by simp)));exact(j.pins_of (pins':=pins) fun p hp=>j.pin p (Yv _ (YG _ hp))).turned (t':=s'.toks) (it:=C) (fun b o hb e=>(hs'.2 b hb).trans e) n.2.1 n.2.2.1 (.inr hC) a d
theorem At{i:Nat}{x:Str}{pos' spos:Pos}(S:B4 X N' scope caps)(hc:X.calm=true)(hN:X.N.Nodup)(hix:X.N[i]?=some x)(hx:E1 X.env.scope x)(hi:PI X tg iter wi)
  (hg:∀cl C s H ex,PG (JU X N' scope cl C s H ex) tg g) (ht:∀cl C s H ex,DD (JU X N' scope cl C s H ex) ifs tc) (he:∀cl C s H ex,PE (JU X N' scope cl C s H ex) elt te)
  (hsw:swapsWith (.ListComp elt [⟨tg,iter,ifs,0⟩] scope pos) (some (.Name x pos')) spos.line X.env=pure true)
  (hf:X.fn x=true\/X.env.scope.names.lookup x=some .local:=by first|exact .inl rfl|exact .inr rfl|assumption)
  (hs:∀x,foldedSetIterable iter X.env x=pure x:=by intro _;rfl):PS X (.Assign [.Name x pos'] (.ListComp elt [⟨tg,iter,ifs,0⟩] scope pos) spos) (Ei (Ri caps wi g tc te) (Rk i)):=by
 intro pins s σ H D I h;obtain ⟨cl, ecl, w, n⟩ := Fo (I.cellsOf S);rw [exec_Assign_Name_used _ _ _ _ hsw];refine Y1 (Vr (Y1 ?_));show wpAny _ X.A (do let _ <- comprehension (.ListComp elt [⟨tg, iter, ifs, 0⟩] scope pos) scope X.env _ (newList []) false (eval iter X.env) (some (assign (.Name x pos') X.env))) _ _ s;refine Y1 (YF (wpAny_comprehension_free (use := some (assign (.Name x pos') X.env)) (Q := fun _ s' => SP X pins D .next s') rfl hs ecl S.kind S.locs
  (WZ (hi pins s σ H _ I h) fun v s1 h1 => WZ h1 fun itv s2 h2 => ?_)) (fun _ s' hq => Ye (Ye hq)) fun _ _ e => e)
 obtain⟨it,fp,tn,J,H2,e,I2,T,aa,f2,W,w0,f⟩:=h2;subst e;refine PH (Q:=fun x H1=>Rk i x σ H1 D.nx) S hc w n hg (fun C=>ht _ C _ _ _) he I2 T aa f2 W w0 f fun z C oC m s' H' I' hn q hC c l hoC=>?_
 show wpAny _ X.A (assign (.Name x pos') X.env (.ref z)) _ _ _;refine wpAny_assign_Name (Kh I' hN hix hx (v:=.ref z) rfl (fun d a=>?_) hf);have j:=a.pin (C,oC) (Yv _ (Yv _ (by simp)));have hn':d.heap.Ns C m:=by
  obtain⟨o,es,ep,ho,r⟩:=hn;rw[hoC]at ho;cases ho;exact⟨oC,es,ep,j.1,r⟩
 refine⟨m,hn',fun h' hs'=>⟨σ.set i (some (.ref z)),H',?_,q⟩⟩;exact(a.pins_of (pins':=pins) fun p hp=>a.pin p (Yv _ (YG _ hp))).turned (t':=d.toks) (it:=C) (fun b o hb e=>(hs'.2 b hb).trans e) j.2.1 j.2.2.1 (.inr hC) c l
theorem Qw{K:Wm}{a:Wo}{xs:List V}{σ:St}{H1:Hp}{Q:VK}(Pv:Nat->List V->St->Hp->Prop)(h0:Pv 0 [] (Jj caps σ) H1)(hl:∀i ys σ H,Pv i ys σ H->i <=xs.length->WB K H a xs/\ys.length <=i)(hz:xs.length <=sizeLine)
  (hs:∀i x ys σ H,xs[i]?=some x->Pv i ys σ H->g x σ H fun σ2 H2=>tc σ2 H2 fun b H3=>if b=true then te σ2 H3 fun y H4=>Pv (i+ 1) (ys++[y]) σ2 H4 else Pv (i+ 1) ys σ2 H3)
  (hd:∀ys σ H,Pv xs.length ys σ H->∀p,H p=none->Q (.ref p) (upd H p (.lst ys))):
  EH caps g tc te σ Q (Rl K a) H1:=by
 refine⟨fun i m ys σ H=>m=xs.length - i/\i <=xs.length/\Pv i ys σ H,⟨xs.length,by simp,Yy _,h0⟩,?_⟩;rintro i m ys σ H ⟨rfl,hi,p⟩;obtain⟨q,f⟩:=hl i ys σ H p hi
 by_cases hlt:i < xs.length
 .refine .inr ⟨⟨xs,xs[i],q,by simp[hlt]⟩,by lia,Pv (i+ 1),fun d σ' H' c=>⟨xs.length - (i+ 1),by lia,rfl,hlt,c⟩,fun x H' y=>?_⟩;obtain⟨e,y⟩:=y;subst e;exact hs i x ys σ _ (y xs q) p
 .have e:i=xs.length:=by lia
  subst e;exact .inl ⟨⟨xs,q,Y5 _⟩,by lia,hd ys σ H p⟩
theorem xO{lo:Int}{n:Nat}{σ:St}{H1:Hp}{Q:VK}(Pv:Nat->List V->St->Hp->Prop)(h0:Pv 0 [] (Jj caps σ) H1)(hl:∀i ys σ H,Pv i ys σ H->i <=n->ys.length <=i)(hz:n <=sizeLine)
  (hs:∀i ys σ H,i < n->Pv i ys σ H->g (.int (lo+ i)) σ H fun σ2 H2=>tc σ2 H2 fun b H3=>if b=true then te σ2 H3 fun y H4=>Pv (i+ 1) (ys++[y]) σ2 H4 else Pv (i+ 1) ys σ2 H3)
  (hd:∀ys σ H,Pv n ys σ H->∀p,H p=none->Q (.ref p) (upd H p (.lst ys))):
  EH caps g tc te σ Q (GL lo n) H1:=by
 refine⟨fun i m ys σ H=>m=n - i/\i <=n/\Pv i ys σ H,⟨n,by simp,Yy _,h0⟩,?_⟩;rintro i m ys σ H ⟨rfl,hi,p⟩;have d:=hl i ys σ H p hi
 by_cases hlt:i < n
 .refine .inr ⟨hlt,by lia,Pv (i+ 1),fun c σ' H' a=>⟨n - (i+ 1),by lia,rfl,hlt,a⟩,fun x H' y=>?_⟩;obtain⟨e,y⟩:=y;subst e y;exact hs i ys σ _ hlt p
 .have e:i=n:=by lia
  subst e;exact .inl ⟨Y5 _,by lia,hd ys σ H p⟩
end
mutual
inductive Dp(K:Wm)(H:Hp):V->PyData->Prop
 |non:Dp K H .non .none
 |bl (b:Bool):Dp K H (.bl b) (.bool b)
 |int (i:Int):Dp K H (.int i) (.int i)
 |str (x:Str):Dp K H (.str x) (.str x)
 |lst {a:Wo} {xs:List V} {ds:List PyData}:WB K H a xs->NU K H xs ds->Dp K H (.ref a) (.list ds)
 |tup {a:Wo} {xs:List V} {ds:List PyData}:JV K H a xs->NU K H xs ds->Dp K H (.ref a) (.tuple ds)
inductive NU(K:Wm)(H:Hp):List V->List PyData->Prop
 |nil:NU K H [] []
 |cons {x:V} {xs:List V} {d:PyData} {ds:List PyData}:Dp K H x d->NU K H xs ds->NU K H (x::xs) (d::ds)
end
theorem NU.ints{K:Wm}{H:Hp}:∀ns:List Int,NU K H (ns.map V.int) (ns.map PyData.int)
 |[]=>.nil
 |_::r=>.cons (.int _) (NU.ints r)
section
variable{X:Cx}{pins:Wg}{σ:St}{H:Hp}{s:Wi}
mutual
theorem Wx.reads(I:Wx X pins σ H s):∀{x:V} {d:PyData} {u:Wn},Dp X.K H x d->WI x u->∃as,Reads s.heap u d as
 |_,_,u,.non,r=>by cases (show u=Value.none from r);exact⟨_,.none⟩
 |_,_,u,.bl b,r=>by cases (show u=Value.bool b from r);exact⟨_,.bool b⟩
 |_,_,u,.int i,r=>by obtain⟨t,rfl⟩:=(show ∃t,u=Value.int i t from r);exact⟨_,.int i t⟩
 |_,_,u,.str x,r=>by obtain⟨t,rfl⟩:=(show ∃t,u=Value.str x t from r);exact⟨_,.str x t⟩
 |_,_,u,.lst (a:=a) hl hd,r=>by
  cases (show u=Value.ref a from r);obtain⟨j,f,⟨o,n,e,h,_,c⟩,l⟩:=I.list hl;obtain⟨as,g⟩:=Wx.readsAll I hd f;exact⟨_,.list e h c (by simpa using g)⟩
 |_,_,u,.tup (a:=a) hl hd,r=>by
  cases (show u=Value.ref a from r);obtain⟨j,f,⟨o,e,h,n,c⟩,l⟩:=I.tuple hl;obtain⟨as,g⟩:=Wx.readsAll I hd f;exact⟨_,.tuple e h c (by simpa using g)⟩
theorem Wx.readsAll(I:Wx X pins σ H s):∀{xs:List V} {ds:List PyData} {us:Wq},NU X.K H xs ds->WD xs us->∃as,ReadsAll s.heap us ds as
 |_,_,_,.nil,r=>by cases r;exact⟨_,.nil⟩
 |_,_,_,.cons h t,r=>by
  cases r with
  |cons r1 r2=>
   obtain⟨as,ra⟩:=Wx.reads I h r1;obtain⟨bs,a⟩:=Wx.readsAll I t r2;exact⟨_,.cons ra a⟩
end
end
def OY(K:Wm):R2:=fun x y H Q=>∃d e,Dp K H x d/\Dp K H y e/\SeqAt.shaped d=true/\SeqAt.shaped e=true/\Q (.bl (PyData.eqv d e)) H
section
variable{X:Cx}
theorem tW(hu:X.A.units+ 64 < cLine):JA X (compareOp .Eq) (OY X.K):=by
 intro pins s σ H x y v u Q I rx ry h;obtain⟨d,e,h1,h2,s1,s2,q⟩:=h;obtain⟨c,b⟩:=I.reads h1 rx;obtain⟨bs,a⟩:=I.reads h2 ry;exact eq_dataH b a s1 s2 hu (NK I q rfl)
def HS:R2:=fun x y H Q=>∃i j,x= .str i/\y= .str j/\Q (.bl (!decide (j.cps.toList < i.cps.toList))) H
theorem Qb:JA X (compareOp .LtE) HS:=by
 intro pins s σ H x y v u Q I rx ry h;obtain⟨i,j,rfl,rfl,q⟩:=h;obtain⟨t,rfl⟩:=rx;obtain⟨a,rfl⟩:=ry;exact PySem.P.le_str (NK I q rfl)
theorem dN(hc:X.calm=true):WW X (.builtin "all") (fun xs H Q=>∃ (p:Wo) (bs:List Bool),xs=[.ref p]/\WB X.K H p (bs.map V.bl)/\Q (.bl (bs.all id)) H):=by
 intro pins s σ H xs us Q I r h;obtain⟨p,bs,rfl,hq,q⟩:=h;obtain⟨u,rfl,rx⟩:=DM r;cases rx;obtain⟨a,l,pl,hz⟩:=I.list hq;have hh:X.A.in1.handled=none:=I.ok.hd hc;have g:=pl.isList;have w:p < s.heap.objs.size:=by obtain⟨_,e,_⟩:=g;exact Yk e
 have f:bs.length=a.length:=by have:=l.length;simpa using this
 refine call_all_walk (XR g ⟨s.heap.objs.size,_,_,_,_,_,fun i=>bs.getD i false,rfl,Walks.list hh s.heap.objs.size p (Yr w) a.toArray,⟨⟨_,Yl _ rfl,rfl,rfl⟩,g.push _⟩,?_,?_⟩)
 .intro i v s' Q' E' hv j;have c:a[i]?=some v:=by simpa using hv
  cases e:bs[i]? with
  |none=>
   have:a[i]?=none:=by
    rw[Vy]at e ⊢;lia
   rw[this]at c;cases c
  |some b=>
   obtain⟨u,n,ru⟩:=l.get (i:=i) (x:=V.bl b) (by rw[Yc,e];rfl);rw[c]at n;cases n;cases (show v=Value.bool b from ru);have:bs.getD i false=b:=by simp[List.getD,e]
   dsimp only at j;rw[this]at j;exact Xn j
 .intro h' tk hk;have e:(List.range a.toArray.size).all (fun i=>bs.getD i false)=bs.all id:=by
   rw[Yd,<-f,Yz,Xi,Xi];constructor
   .intro h x hx;obtain⟨i,hi,rfl⟩:=V3.mp hx;have:=h i (Xc.mpr hi);simpa[List.getD,hi] using this
   .intro h i hi;have d:=Xc.mp hi;have:=h bs[i] (US d);simpa[List.getD,d] using this
  rw[e];exact⟨.bl (bs.all id),H,I.kept (t':=tk) fun b o z=>hk b o (by simpa using Yr (Yk z)) (Y7 _ z),rfl,q⟩
def QO:V->Value
 | .ty n=>.type n
 | .ref a=>.ref a
 |_=>.none
def Zd:V->Bool
 | .ty _=>true
 | .ref _=>true
 |_=>false
def yD(K:Wm):List V->Hp->VK->Prop:=fun xs H Q=>∃x c t b,xs=[x,c]/\Du K H x t/\Zd c=true/\W.kitOne K t (QO c)=some b/\Q (.bl b) H
theorem Iv:WW X (.builtin "isinstance") (yD X.K):=by
 intro pins s σ H xs i Q I r h;obtain⟨x,c,t,b,rfl,ty,g,e,q⟩:=h;obtain⟨u,a,rfl,rx,d⟩:=Hg r;have f:a=QO c:=by cases c <;> first|exact d|cases g
 subst f;exact Zi I rx ty e fun tk=>⟨.bl b,H,I.tok tk,rfl,q⟩
def L5(x:Str):It:=⟨fun i _=>i < x.cps.size,fun i H v H'=>H'=H/\∃c,x.cps[i]?=some c/\v= .str ⟨#[c]⟩,fun i _=>i=x.cps.size⟩
theorem LS{P:Wh}{w:Wl}{K:PySem.W.Frag}{tg:Ws}{it:Wo}{ty:String}{x:Str}{t:Tok}
  (W:∀A:Around,A.handled=none->Walks P w A it [it] [it] x.cps.size (SignAt x) (fun i h=>h.IsStrIter it ty x t i))
  (hself:∀ (A:Wk) (i:Nat) (s:Wi) (Q:We) (E:We),s.heap.IsStrIter it ty x t i->Q (.ref it) s->wpAny (model P w) A (pyIter (.ref it)) Q E s)
  (hn:["enumerate","zip","dict_itemiterator","dict_reverseitemiterator","odict_iterator","itertools.zip_longest","itertools.pairwise"].contains ty=false):
  R3 P w K tg (L5 x) [it] it (fun i h=>h.IsStrIter it ty x t i) where
 mem:=by simp
 obj:=fun i h st b a=>by
  have e:b=it:=by simpa using a
  subst e;obtain⟨o,e,c,d⟩:=st;exact⟨o,e,fun v z=>by rw[d]at z;cases z⟩
 keep:=fun i h h' st k=>by obtain⟨o,e,r⟩:=st;exact⟨o,k it (by simp) o e,r⟩
 item:=by
  intro X q j hK p i pins s σ H E I f st n;subst q j hK;obtain⟨f0,f1,f2,f3,f4,f5⟩:=f it (by simp);refine(W X.A (I.ok.hd p)).item i s _ _ n st fun v h' tk hv g l=>?_
  obtain⟨c,u,hc',rfl⟩:=hv;have I1:Wx X pins σ H {s with heap:=h',toks:=tk}:=I.turned (t':=tk) (fun b o a e=>l b o (by simpa using a) e) f0 f1 f3 f4 f5;obtain⟨o,e,cc,d⟩:=id g;exact⟨_,rfl,ES (s:={s with heap:=h',toks:=tk}) e cc d hn ⟨.str ⟨#[c]⟩,H,I1,⟨u,rfl⟩,⟨rfl,c,hc',rfl⟩,g,fun b a=>(f b a).1⟩⟩
 done:=by
  intro X q j hK p i pins s σ H E I f st n;subst q j hK;obtain⟨f0,f1,f2,f3,f4,f5⟩:=f it (by simp);have hg':i=x.cps.size:=n;subst hg';exact(W X.A (I.ok.hd p)).done s _ _ st fun h' tk l=>⟨rfl,I.turned (t':=tk) (fun b o a e=>l b o (by simpa using a) e) f0 f1 f3 f4 f5⟩
 self:=fun A i s Q E st h=>hself A i s Q E st h
def KN(tl:TE):TI:=fun σ H R=>tl σ H fun x H1=>∃z,x= .str z/\R (L5 z) H1
theorem yB{tg l:Ws}{tl:TE}(hl:PE X l tl):PI X tg l (KN tl):=by
 intro pins s σ H R I h;refine WZ (hl pins s σ H _ I h) fun v s1 ⟨x,H1,a,f,g⟩=>?_
 obtain⟨z,e,q⟩:=g;subst e;obtain⟨t,rfl⟩:=(show ∃t,v=Value.str z t from f);have c:∀b:Addr,b∈[s1.heap.objs.size]->M6 X pins H1 b:=fun b j=>by
  have e:b=s1.heap.objs.size:=by simpa using j
  subst e;exact a.fpOk (Y5 _) (a.hok.fresh (Y5 _))
 cases ha:z.cps.all (· < 128)
 .exact wpAny_pyIter_wide ha ⟨s1.heap.objs.size, [s1.heap.objs.size], _, _, H1, rfl, a.kept (t' := s1.toks) fun b o e => Y7 _ e,
   LS (fun A d => Walks.strWide d _ z t) (fun A i s Q E st h => wpAny_pyIter_striter_wide st h) (by decide), ⟨_, Yl _ rfl, rfl, rfl⟩, c, q⟩
 .exact wpAny_pyIter_ascii ha ⟨s1.heap.objs.size, [s1.heap.objs.size], _, _, H1, rfl, a.kept (t' := s1.toks) fun b o e => Y7 _ e,
   LS (fun A d => Walks.strAscii d _ z t) (fun A i s Q E st h => wpAny_pyIter_striter_ascii st h) (by decide), ⟨_, Yl _ rfl, rfl, rfl⟩, c, q⟩
theorem jV{caps:List (Option Nat)}{g:TG}{tc:TT}{te:TE}{z:Str}{σ:St}{H1:Hp}{Q:VK}(Pv:Nat->List V->St->Hp->Prop)(h0:Pv 0 [] (Jj caps σ) H1)(hl:∀i ys σ H,Pv i ys σ H->i <=z.cps.size->ys.length <=i)(hz:z.cps.size <=sizeLine)
  (hs:∀i c ys σ H,z.cps[i]?=some c->Pv i ys σ H->g (.str ⟨#[c]⟩) σ H fun σ2 H2=>tc σ2 H2 fun b H3=>if b=true then te σ2 H3 fun y H4=>Pv (i+ 1) (ys++[y]) σ2 H4 else Pv (i+ 1) ys σ2 H3)
  (hd:∀ys σ H,Pv z.cps.size ys σ H->∀p,H p=none->Q (.ref p) (upd H p (.lst ys))):
  EH caps g tc te σ Q (L5 z) H1:=by
 refine⟨fun i m ys σ H=>m=z.cps.size - i/\i <=z.cps.size/\Pv i ys σ H,⟨z.cps.size,by simp,Yy _,h0⟩,?_⟩;rintro i m ys σ H ⟨rfl,hi,p⟩;have h:=hl i ys σ H p hi
 by_cases hlt:i < z.cps.size
 .refine .inr ⟨hlt,by lia,Pv (i+ 1),fun f σ' H' a=>⟨z.cps.size - (i+ 1),by lia,rfl,hlt,a⟩,fun x H' y=>?_⟩;obtain⟨e,c,d,y⟩:=y;subst e y;exact hs i c ys σ _ d p
 .have e:i=z.cps.size:=by lia
  subst e;exact .inl ⟨rfl,by lia,hd ys σ H p⟩
end
def OK(N N':List Str)(scope:Scope)(caps:List (Option Nat))(sc:Scope):Bool:=
 decide (scope.kind= .function) && (scope.names.all fun y=>decide (y.2≠ .cell)) && (scope.names.all fun y=>decide (y.2= .local->scope.names.lookup y.1=some .local)) && decide (caps.length=N'.length) &&
 ((N'.zip caps).all fun p => match p.2 with
  |none=>true
  | some j => decide (N[j]? = some p.1) && decide ((p.1, NameKind.free) ∈ scope.names) && (scope.names.all fun y => decide (y.1 = p.1 -> y.2 = .free))) &&
 (scope.names.all fun y=>decide (y.2= .free->sc.names.lookup y.1=some .cell\/sc.names.lookup y.1=some .free))
theorem DP{X:Cx}{N':List Str}{scope:Scope}{caps:List (Option Nat)}{sc:Scope}{N:List Str}(hsc:X.env.scope=sc)(hN:X.N=N)(h:OK N N' scope caps sc=true):B4 X N' scope caps:=by
 subst hsc hN;unfold OK at h;simp only[YR,Y9,Xi]at h;obtain⟨⟨⟨⟨⟨h1,h2⟩,g⟩,f⟩,e⟩,d⟩:=h;refine⟨h1,h2,g,⟨f,fun i j x n l=>?_⟩,fun x b=>?_⟩
 .have a:(x,some j)∈N'.zip caps:=by
   have:(N'.zip caps)[i]?=some (x,some j):=by
    rw[Vz];exact⟨n,l⟩
   exact Yw this
  have q:=e _ a;simp only[YR,Y9,Xi]at q;exact⟨q.1.1,q.1.2,fun k c=>q.2 _ c rfl⟩
 .exact d _ b rfl
theorem DS{X:Cx}{N:List Str}(h:X.N=N)(d:N.Nodup):X.N.Nodup:=h▸d
theorem RD{X:Cx}{x:Str}{n:Int}{pos:Pos}(hg:Gl X x)(hm:∃t,X.mg x=some (.int n t))(hd:(x==("__debug__":Str))=false:=by decide):PE X (.Name x pos) (tC (.int n)):=by
 obtain⟨t,e⟩:=hm;exact Gz hg e ⟨t,rfl⟩ hd
structure Nt(P:Wh)(w:Wl)(K:Wm)(mg:Wd)(base:Wr)(x:Str)(k:Nat)(ps:List Str)(dvs:List V)(sp:Sp):Prop where
 ex:∃ (f:Wo) (fd:Wj) (ds:Wq),WA P w K mg base Je k f fd ps sp/\mg x=some (.ref f)/\W.keepIn K (.ref f)=true/\T6 K fd ps ds/\WD dvs ds
structure Dx(P:Wh)(w:Wl)(K:Wm)(mg:Wd)(base:Wr)(x:Str)(C:Wo)(k:Nat)(ps:List Str)(dvs:List V)(sp:Sp):Prop where
 ex:∃ (f:Wo) (fd:Wj) (ds:Wq),WA P w K mg base Je k f fd ps sp/\mg x=some (.ref C)/\Mk K C f/\T6 K fd ps ds/\WD dvs ds
structure Nq(P:Wh)(w:Wl)(K:Wm)(mg:Wd)(base:Wr)(C:Wo)(m:Str)(k:Nat)(ps:List Str)(dvs:List V)(sp:Sp):Prop where
 ex:∃ (f:Wo) (fd:Wj) (ds:Wq),WA P w K mg base Je k f fd ps sp/\Ml K C/\Os K C m f/\T6 K fd ps ds/\WD dvs ds
section
variable{X:Cx}{k:Nat}{C:Wo}{ps:List Str}{sp:Sp}{dvs:List V}{x m:Str}{p pos apos:Pos}{e o:Ws}{es:List Expr}{ta:TE}{t:TA}
theorem N7(F:Nt X.prog X.w X.K X.mg X.base x k ps dvs sp)(hr:Room k X.A)(hg:Gl X x)(ha:PA X (e::es) t)(hdb:(x==("__debug__":Str))=false:=by decide)
  (he:starEach (e::es) X.env=(false,eval e X.env)::starEach es X.env:=by rfl) (hpl:(backTo pos (starEach es X.env)).any (·.1)=false:=by rfl):PE X (.Call (.Name x p) (e::es) [] pos) (BF sp dvs E0 t):=by
 obtain⟨f,fd,ds,G,a,b,d,c⟩:=F.ex;exact nV G hr hg a b d c CA ha hdb he hpl
end
structure Bt(mg:Wd):Prop where
 len:mg "len"=none
 range:mg "range"=none
 isinstance:mg "isinstance"=none
 all:mg "all"=none
 min:mg "min"=none
 max:mg "max"=none
 bint:mg "int"=none
 bbool:mg "bool"=none
 bstr:mg "str"=none
 blist:mg "list"=none
 btuple:mg "tuple"=none
def Jh(a:Wo)(H H':Hp):Prop:=∀b o,H b=some o->b≠a->H' b=some o
theorem Jh.refl(a:Wo)(H:Hp):Jh a H H:=fun _ _ h _=>h
theorem Jh.trans{a:Wo}{H H1 H2:Hp}(x:Jh a H H1)(y:Jh a H1 H2):Jh a H H2:=fun b o h n=>y b o (x b o h n) n
theorem Jh.upd{a:Wo}{H:Hp}{o:HO}:Jh a H (upd H a o):=fun b _ h n=>by rw[WM n];exact h
def BP(g:TG)(tb:TS)(D:T5)(σ:St)(J:It)(H1:Hp):Prop:=∃W:Nat->Nat->St->Hp->Prop,(∃m,W 0 m σ H1)/\∀i m σ H,W i m σ H->
 (J.stop i H/\D.nx σ H)\/(J.go i H/\∃N:St->Hp->Prop,(∀σ' H',N σ' H'->∃m',m' < m/\W (i+ 1) m' σ' H')/\∀x H',J.yld i H x H'->g x σ H' fun σ2 H2=>tb {D with nx:=N,ct:=N,bk:=D.nx} σ2 H2)
theorem P6(wi:TI)(g:TG)(tb:TS)(D:T5)(σ:St)(H:Hp):P1 wi g tb D σ H=wi σ H fun J H1=>BP g tb D σ J H1:=rfl
theorem Fe{K:Wm}{a:Wo}{xs:List V}{g:TG}{tb:TS}{D:T5}{σ:St}{H:Hp}(Pv:Nat->St->Hp->Prop)(h0:Pv 0 σ H)(hl:∀i σ H,i <=xs.length->Pv i σ H->WB K H a xs)
  (hs:∀i x σ H,xs[i]?=some x->Pv i σ H->g x σ H fun σ2 H2=>tb {D with nx:=Pv (i+ 1),ct:=Pv (i+ 1),bk:=D.nx} σ2 H2) (hd:∀σ H,Pv xs.length σ H->D.nx σ H):BP g tb D σ (Rl K a) H:=yX Pv h0 hl hs hd
theorem Aa{lo:Int}{n:Nat}{g:TG}{tb:TS}{D:T5}{σ:St}{H:Hp}(Pv:Nat->St->Hp->Prop)(h0:Pv 0 σ H)
  (hs:∀i σ H,i < n->Pv i σ H->g (.int (lo+ i)) σ H fun σ2 H2=>tb {D with nx:=Pv (i+ 1),ct:=Pv (i+ 1),bk:=D.nx} σ2 H2) (hd:∀σ H,Pv n σ H->D.nx σ H):BP g tb D σ (GL lo n) H:=tL Pv h0 hs hd
theorem Ny{n:Nat}(h:n <=100000):n <=sizeLine:=YH h (by rw[Ym];decide)
theorem DV{n:Nat}(h:n <=100000):n < sizeLine:=Yg h (by rw[Ym];decide)
def DG:HO->Option String
 | .lst _=>some "list"
 | .tup _=>some "tuple"
 | .dK _=>some "dict"
 |_=>none
def Tf(H:Hp):V->Option String
 | .non=>some "NoneType"
 | .bl _=>some "bool"
 | .int _=>some "int"
 | .str _=>some "str"
 | .ref a=>(H a).bind DG
 |_=>none
def E4(n T:String):Bool:=n==T||(n=="bool" && T=="int")
theorem yQ{K:Wm}{H:Hp}{x:V}{n:String}(h:Tf H x=some n):Du K H x (.type n)/\n∈["NoneType","bool","int","str","list","tuple","dict"]:=by
 cases x with
 |non=>cases h;exact⟨.non,by simp⟩
 |bl b=>cases h;exact⟨.bl b,by simp⟩
 |int i=>cases h;exact⟨.int i,by simp⟩
 |str i=>cases h;exact⟨.str i,by simp⟩
 |ref a=>
  have h:(H a).bind DG=some n:=h;cases e:H a with
  |none=>rw[e]at h;cases h
  |some o=>
   rw[e]at h;cases o <;> first|(cases h;done)|skip
   .cases h;exact⟨.lst e,by simp⟩
   .cases h;exact⟨.tup e,by simp⟩
   .cases h;exact⟨.dK e,by simp⟩
 |_=>cases h
theorem tO{K:Wm}{n T:String}(hn:n∈["NoneType","bool","int","str","list","tuple","dict"])(hT:T∈["bool","int","str","list","tuple","dict"]):W.kitOne K (.type n) (.type T)=some (E4 n T):=by
 simp only[Yp,List.not_mem_nil,VE]at hn hT;rcases hn with rfl|rfl|rfl|rfl|rfl|rfl|rfl <;> rcases hT with rfl|rfl|rfl|rfl|rfl|rfl <;> rfl
def Fp(T:String):List V->Hp->VK->Prop:=fun xs H Q=>∃x n,xs=[x,.ty T]/\Tf H x=some n/\Q (.bl (E4 n T)) H
theorem GC{X:Cx}(T:String)(hT:T∈["bool","int","str","list","tuple","dict"]:=by decide):WW X (.builtin "isinstance") (Fp T):=by
 intro pins s σ H xs a Q I r h;obtain⟨x,n,rfl,ty,q⟩:=h;obtain⟨c,b⟩:=yQ (K:=X.K) ty;exact Iv pins s σ H _ a Q I r ⟨x,.ty T,_,_,rfl,c,rfl,tO b hT,q⟩
theorem Qi{H:Hp}{a:Wo}{xs:List V}(h:H a=some (.lst xs)):Tf H (.ref a)=some "list":=by show(H a).bind DG=_;rw[h];rfl
theorem xX{H:Hp}{a:Wo}{xs:List V}(h:H a=some (.tup xs)):Tf H (.ref a)=some "tuple":=by show(H a).bind DG=_;rw[h];rfl
theorem yT{H:Hp}{i:Int}:Tf H (.int i)=some "int":=rfl
theorem wP{H:Hp}{i:Bool}:Tf H (.bl i)=some "bool":=rfl
theorem Sc{H:Hp}{i:Str}:Tf H (.str i)=some "str":=rfl
theorem ZZ{H:Hp}:Tf H .non=some "NoneType":=rfl
def GJ:V->Bool
 | .int _=>true
 |_=>false
def Ru:V->Bool
 | .bl _=>true
 |_=>false
def K8:V->Bool
 | .str _=>true
 |_=>false
def BQ(H:Hp):V->Bool
 | .ref a=>match H a with
  |some (.lst _)=>true
  |_=>false
 |_=>false
theorem Kn{o:HO}{n:String}(h:DG o=some n):n="list"\/n="tuple"\/n="dict":=by
 cases o <;> first|(cases h;done)|(cases h;simp)
theorem jL{H:Hp}{x:V}{n:String}(h:Tf H x=some n):E4 n "int"=(GJ x||Ru x):=by
 cases x with
 |ref a=>
  have h:(H a).bind DG=some n:=h;cases e:H a with
  |none=>rw[e]at h;cases h
  |some o=>
   rw[e]at h;rcases Kn h with rfl|rfl|rfl <;> rfl
 |_=>first|(cases h;done)|(cases h;rfl)
theorem Po{H:Hp}{x:V}{n:String}(h:Tf H x=some n):E4 n "bool"=Ru x:=by
 cases x with
 |ref a=>
  have h:(H a).bind DG=some n:=h;cases e:H a with
  |none=>rw[e]at h;cases h
  |some o=>
   rw[e]at h;rcases Kn h with rfl|rfl|rfl <;> rfl
 |_=>first|(cases h;done)|(cases h;rfl)
theorem SA{H:Hp}{x:V}{n:String}(h:Tf H x=some n):E4 n "str"=K8 x:=by
 cases x with
 |ref a=>
  have h:(H a).bind DG=some n:=h;cases e:H a with
  |none=>rw[e]at h;cases h
  |some o=>
   rw[e]at h;rcases Kn h with rfl|rfl|rfl <;> rfl
 |_=>first|(cases h;done)|(cases h;rfl)
theorem dU{H:Hp}{x:V}{n:String}(h:Tf H x=some n):E4 n "list"=BQ H x:=by
 cases x with
 |ref a=>
  have h:(H a).bind DG=some n:=h;cases e:H a with
  |none=>rw[e]at h;cases h
  |some o=>
   rw[e]at h;have b:BQ H (.ref a)=match some o with|some (.lst _)=>true|_=>false:=by
    show(match H a with|some (.lst _)=>true|_=>false)=_;rw[e]
   rw[b];cases o <;> first|(cases h;done)|(cases h;rfl)
 |_=>first|(cases h;done)|(cases h;rfl)
theorem uX{H:Hp}{x:V}(h:BQ H x=true):∃a xs,x= .ref a/\H a=some (.lst xs):=by
 cases x with
 |ref a=>
  have h:(match H a with|some (.lst _)=>true|_=>false)=true:=h;cases e:H a with
  |none=>rw[e]at h;cases h
  |some o=>
   rw[e]at h;cases o <;> first|(cases h;done)|exact⟨a,_,rfl,e⟩
 |_=>cases h
theorem Cm{H H':Hp}(s:Ww H H'){x:V}{n:String}(h:Tf H x=some n):Tf H' x=some n:=by
 cases x with
 |ref a=>
  have h:(H a).bind DG=some n:=h;show(H' a).bind DG=some n;cases e:H a with
  |none=>rw[e]at h;cases h
  |some o=>rw[s a o e];rw[e]at h;exact h
 |_=>exact h
def MN(x:V)(lo hi:Int):Bool:=match x with
 | .int i=>decide (lo <=i) && decide (i <=hi)
 |_=>false
def EC(c:Nat):Bool:=decide (97 <=c) && decide (c <=122)
def MH:V->Bool
 | .str z=>decide (1 <=z.length) && decide (z.length <=8) && z.cps.toList.all EC
 |_=>false
def Dz(H:Hp):V->Bool
 | .ref a=>match H a with
  |some (.lst xs)=>decide (1 <=xs.length) && decide (xs.length <=4000) && xs.all (fun y=>MN y 0 255)
  |_=>false
 |_=>false
theorem LH{H:Hp}{a:Wo}{xs:List V}(h:H a=some (.lst xs)):Dz H (.ref a)=(decide (1 <=xs.length) && decide (xs.length <=4000) && xs.all (fun y=>MN y 0 255)):=by
 show(match H a with|some (.lst xs)=>decide (1 <=xs.length) && decide (xs.length <=4000) && xs.all (fun y=>MN y 0 255)|_=>false)=_;rw[h]
theorem mL{H:Hp}{x:V}(h:BQ H x=false):Dz H x=false:=by
 cases x with
 |ref a=>
  have h:(match H a with|some (.lst _)=>true|_=>false)=false:=h;show(match H a with|some (.lst xs)=>_|_=>false)=false;cases e:H a with
  |none=>rfl
  |some o=>
   rw[e]at h;cases o <;> first|rfl|cases h
 |_=>rfl
theorem Ww.new{H H':Hp}{p:Wo}{o:HO}(x:Ww H H')(h:H p=none):Ww H (upd H' p o):=fun b u e=>by
 rw[WM (No e h)];exact x b u e
theorem nH(c:Nat):((!decide ((⟨#[c]⟩:Str).cps.toList < ("a":Str).cps.toList))=decide (97 <=c))/\((!decide (("z":Str).cps.toList < (⟨#[c]⟩:Str).cps.toList))=decide (c <=122)):=by
 have g:("a":Str).cps.toList=[97]:=by decide +kernel
 have f:("z":Str).cps.toList=[122]:=by decide +kernel
 rw[g,f];have e:(⟨#[c]⟩:Str).cps.toList=[c]:=rfl;rw[e];have d:∀a b:Nat,([a] < [b])↔a < b:=fun a b=>by
  constructor
  .intro h;rcases VT.mp h with h|⟨_,h⟩
   .exact h
   .exact absurd h (List.not_lt_nil _)
  .intro h;exact VT.mpr (.inl h)
 constructor
 .rw[Yz];simp only[Xo,X9,Y9,d];lia
 .rw[Yz];simp only[Xo,X9,Y9,d];lia
def Ka(t:TS):TS:=fun D σ H=>∃R:St->Hp->Prop,t {D with nx:=R} σ H/\∀σ' H',R σ' H'->D.nx σ' H'
theorem Bm{X:Cx}{st:Stmt}{t:TS}(h:PS X st t):PS X st (Ka t):=by
 intro pins s σ H D I b;obtain⟨R,h1,h2⟩:=b;refine WZ (h pins s σ H _ I h1) fun f s' q=>?_
 cases f with
 |next=>obtain⟨σ',H',c,a⟩:=q;exact⟨σ',H',c,h2 σ' H' a⟩
 |brk=>exact q
 |cont=>exact q
 |ret v=>exact q
section
variable{X:Cx}{K:Wm}
theorem gA(h:X.K=K):DZ X (By K):=h▸SN
theorem uN(h:X.K=K):DZ X (BI K):=h▸SO
theorem vG(h:X.K=K):R6 X (Ce K):=h▸Sx
def Ab(K:Wm):List V->Hp->VK->Prop:=fun xs H Q=>∃p ys,xs=[.ref p]/\(WB K H p ys\/JV K H p ys)/\Q (.int ys.length) H
def Lk(K:Wm):List V->Hp->VK->Prop:=fun xs H Q=>∃p ys,xs=[.ref p]/\(WB K H p ys\/JV K H p ys)/\∀l,H l=none->Q (.ref l) (upd H l (.lst ys))
def KI(K:Wm):List V->Hp->VK->Prop:=fun xs H Q=>∃ (p:Wo) (bs:List Bool),xs=[.ref p]/\WB K H p (bs.map V.bl)/\Q (.bl (bs.all id)) H
theorem D3(h:X.K=K):WW X (.builtin "len") (Ab K):=h▸xQ
theorem IM(h:X.K=K):WW X (.type "list") (Lk K):=h▸Se
theorem F7(hc:X.calm=true)(h:X.K=K):WW X (.builtin "all") (KI K):=h▸dN hc
theorem Bs(hu:X.A.units+ 64 < cLine)(h:X.K=K):JA X (compareOp .Eq) (OY K):=h▸tW hu
theorem KA(h:X.K=K):JA X (compareOp .In) (QW K false):=h▸Zb
theorem Bo{e:Ws}{f:Str}{pos:Pos}{ta:TE}(h:X.K=K)(he:PE X e ta)(hb:attributeBase e f X.env (eval e X.env)=eval e X.env):PE X (.Attribute e f pos) (Ct K ta f):=h▸Zs he hb
theorem DU{o value:Ws}{f:Str}{pos pos':Pos}{ta tv:TE}(h:X.K=K)(ha:PE X o ta)(hv:PE X value tv)(hs:swapsWith value (some (.Attribute o f pos')) pos.line X.env=pure false):PS X (.Assign [.Attribute o f pos'] value pos) (Fg K ta tv f):=h▸Su ha hv hs
theorem Eg{es:List Expr}{k:Nat}{t:RP}{n:Nat}{pos:Pos}(h:X.K=K)(hc:X.calm=true)(hg:BG X es t)
  (hn:(assignEach es X.env).length=n:=by rfl) (hst:(assignEach es X.env).findIdx? (·.1)=none:=by rfl):PG X (.Tuple es k pos) (AI K n t):=h▸mJ hc hg hn hst
theorem gM{tg l:Ws}{tl:TE}(h:X.K=K)(hl:PE X l tl):PI X tg l (E3 K tl):=h▸jZ hl
theorem Dt{o e:Ws}{es:List Expr}{to:TE}{t:TA}{name:Str}{apos cpos:Pos}{T id:String}{r:V->List V->Hp->VK->Prop}(h:X.K=K)(pa:PlainAttrs T)(slot:Slot T name id)(hty:typeOf (.builtin id)=pure (.type "method_descriptor"))(hm:A9 X id r)(ho:PE X o to)(ha:PA X (e::es) t)
  (hbase:attributeBase o name X.env (eval o X.env)=eval o X.env:=by rfl)
  (hfew : ((backTo cpos (starEach (e :: es) X.env)).all (fun x => !x.1) && (backToKw cpos (keywordEach [] X.env)).all (fun x => x.1.isSome)
   && decide ((e :: es).length + ([] : List Keyword).length + (if ([] : List Keyword).isEmpty then 0 else 1) < 30)) = true := by rfl)
  (hline:(apos.endLine==cpos.line)=true:=by rfl) (hs:starEach (e::es) X.env=(false,eval e X.env)::starEach es X.env:=by rfl) (hplain:(backTo cpos (starEach es X.env)).any (·.1)=false:=by rfl):
  PE X (.Call (.Attribute o name apos) (e::es) [] cpos) (CT K T r to t):=h▸wZ pa slot hty hm ho ha hbase hfew hline hs hplain
end
theorem TZ{H:Hp}{p:Wo}{o:HO}(h:H p=none):Ww H (upd H p o):=(Ww.refl H).new h
section
variable{X:Cx}{es:List Expr}{t:TA}{pos:Pos}
def KH(t:TA):TE:=fun σ H Q=>t σ H fun xs H1=>xs.length <=sizeLine/\∀p G,H1 p=none->Ww H1 G->G p=some (.tup xs)->Q (.ref p) G
def Kj(t:TA):TE:=fun σ H Q=>t σ H fun xs H1=>xs.length <=sizeLine/\∀p G,H1 p=none->Ww H1 G->G p=some (.lst xs)->Q (.ref p) G
theorem MI{x1}(h:PA X es t):PE X (.Tuple es x1 pos) (KH t):=by
 intro pins s σ H Q I f;refine wpAny_Tuple_spliced (WZ (h pos pins s σ H _ I f) fun d s1 ⟨xs,H1,c,r,z,q⟩=>⟨by rw[<-r.length];exact z,?_⟩);have a:H1 s1.heap.objs.size=none:=c.hok.fresh (Y5 _);refine⟨.ref s1.heap.objs.size,upd H1 s1.heap.objs.size (.tup xs),c.laid (t':=s1.toks) (fun b u e=>Y7 _ e) (Y5 _) ?_,rfl,q _ _ a (TZ a) Jn⟩;exact⟨z,d,r,⟨_,Yl _ rfl,rfl,_,rfl⟩⟩
theorem TD(h:PA X es t):PE X (.List es pos) (Kj t):=by
 intro pins s σ H Q I f;refine wpAny_List_spliced (WZ (h pos pins s σ H _ I f) fun d s1 ⟨xs,H1,c,r,z,q⟩=>⟨by rw[<-r.length];exact z,?_⟩);have a:H1 s1.heap.objs.size=none:=c.hok.fresh (Y5 _);refine⟨.ref s1.heap.objs.size,upd H1 s1.heap.objs.size (.lst xs),c.laid (t':=s1.toks) (fun b u e=>Y7 _ e) (Y5 _) ?_,rfl,q _ _ a (TZ a) Jn⟩;exact⟨z,d,0,r,Yl _ rfl⟩
end
section
variable{X:Cx}{K:Wm}
theorem JA.imp{f:Value->Value->Sem Value}{r r':R2}(h:JA X f r)(hi:∀x y H Q,r' x y H Q->r x y H Q):JA X f r':=fun pins s σ H x y v u Q I rx ry q=>h pins s σ H x y v u Q I rx ry (hi _ _ _ _ q)
theorem WW.imp{f:Wn}{r r':List V->Hp->VK->Prop}(h:WW X f r)(hi:∀xs H Q,r' xs H Q->r xs H Q):WW X f r':=fun pins s σ H xs a Q I rx q=>h pins s σ H xs a Q I rx (hi _ _ _ q)
theorem Dc.imp{id:String}{r r':V->List V->Hp->VK->Prop}(h:Dc X id r)(hi:∀x xs H Q,r' x xs H Q->r x xs H Q):Dc X id r':=fun pins s σ H x xs v a Q I rx b q=>h pins s σ H x xs v a Q I rx b (hi _ _ _ _ q)
theorem R6.imp{r r':V->Option Int->Option Int->Hp->VK->Prop}(h:R6 X r)(hi:∀x a b H Q,r' x a b H Q->r x a b H Q):R6 X r':=fun pins s σ H x v e d lo c f Q I rx hs i g q=>h pins s σ H x v e d lo c f Q I rx hs i g (hi _ _ _ _ _ q)
def CD:R2:=fun x y H Q=>∃l b xs zs,x= .ref l/\y= .ref b/\H l=some (.lst xs)/\H b=some (.lst zs)/\xs.length+ zs.length <=sizeLine/\∀p G,H p=none->Ww H G->G p=some (.lst (xs++zs))->Q (.ref p) G
theorem AO:JA X (binaryOp .Add) CD:=E5.imp fun x y H Q ⟨l,b,xs,zs,e,d,h1,h2,c,q⟩=>⟨l,b,xs,zs,e,d,h1,h2,c,fun p a=>q p _ a (TZ a) Jn⟩
def AY(K:Wm):List V->Hp->VK->Prop:=fun xs H Q=>∃p ys,xs=[.ref p]/\(WB K H p ys\/JV K H p ys)/\∀l G,H l=none->Ww H G->G l=some (.lst ys)->Q (.ref l) G
theorem Pk(h:X.K=K):WW X (.type "list") (AY K):=(IM h).imp fun xs H Q ⟨p,ys,e,h1,q⟩=>⟨p,ys,e,h1,fun l a=>q l _ a (TZ a) Jn⟩
def AQ(K:Wm):V->Option Int->Option Int->Hp->VK->Prop:=fun x lo hi H Q=>∃a xs,x= .ref a/\WB K H a xs/\∀p G,H p=none->Ww H G->G p=some (.lst (Rh xs lo hi))->Q (.ref p) G
theorem gK(h:X.K=K):R6 X (AQ K):=(vG h).imp fun x a b H Q ⟨p,ys,e,h1,q⟩=>⟨p,ys,e,h1,fun l c=>q l _ c (TZ c) Jn⟩
def Cb:V->List V->Hp->VK->Prop:=fun x vs H Q=>∃l xs y,x= .ref l/\vs=[y]/\H l=some (.lst xs)/\xs.length < sizeLine/\∀G,Jh l H G->G l=some (.lst (xs++[y]))->Q .non G
theorem Rj:Dc X "list.append" Cb:=DE.imp fun x xs H Q ⟨l,ys,y,b,a,h1,h2,q⟩=>⟨l,ys,y,b,a,h1,h2,q _ Jh.upd Jn⟩
def F8:V->List V->Hp->VK->Prop:=fun x vs H Q=>∃l b xs zs,x= .ref l/\vs=[.ref b]/\H l=some (.lst xs)/\H b=some (.lst zs)/\xs.length+ zs.length <=sizeLine/\∀G,Jh l H G->G l=some (.lst (xs++zs))->Q .non G
theorem tM:Dc X "list.extend" F8:=DJ.imp fun x xs H Q ⟨l,b,ys,zs,d,c,h1,h2,a,q⟩=>⟨l,b,ys,zs,d,c,h1,h2,a,q _ Jh.upd Jn⟩
def HN:V->List V->Hp->VK->Prop:=fun x vs H Q=>∃l xs y,x= .ref l/\vs=[]/\H l=some (.lst xs)/\xs[xs.length - 1]?=some y/\∀G,Jh l H G->G l=some (.lst xs.dropLast)->Q y G
theorem xZ:Dc X "list.pop" HN:=Ec.imp fun x xs H Q ⟨l,ys,y,b,a,h1,h2,q⟩=>⟨l,ys,y,b,a,h1,h2,q _ Jh.upd Jn⟩
def FH(K:Wm)(ta tv:TE)(f:Str):TS:=fun D σ H=>tv σ H fun y H1=>ta σ H1 fun x H2=>∃a C dx fs,x= .ref a/\H2 a=some (.ins C dx fs)/\Ml K C/\WF K C f/\fs.length < 1000/\
 ∀G,Jh a H2 G->G a=some (.ins C dx (N0 f y fs))->D.nx σ G
theorem Mm{o value:Ws}{f:Str}{pos pos':Pos}{ta tv:TE}(h:X.K=K)(ha:PE X o ta)(hv:PE X value tv)(hs:swapsWith value (some (.Attribute o f pos')) pos.line X.env=pure false):PS X (.Assign [.Attribute o f pos'] value pos) (FH K ta tv f):=by
 subst h;intro pins s σ H D I h;refine V0 (WZ (hv pins s σ H _ I h) fun u s1 ⟨y,H1,j,ry,q⟩=>WZ (ha pins s1 σ H1 _ j q) fun d s2 ⟨x,H2,i,rx,a,C,dx,fs,ex,e,c,n,l,b⟩=>?_) hs;subst ex;obtain rfl:d=Value.ref a:=rx;exact Ov i e c n l ry fun p g=>⟨σ,_,g,b _ Jh.upd Jn⟩
end
def Nv(K:Wm)(H:Hp)(x:V)(f:Str)(v:V):Prop:=∃a C dx fs,x= .ref a/\H a=some (.ins C dx fs)/\Ml K C/\WF K C f/\fs.lookup f=some v
def AA(K:Wm)(ta:TE)(f:Str):TE:=fun σ H Q=>ta σ H fun x H1=>∃v,Nv K H1 x f v/\Q v H1
theorem Sl{X:Cx}{K:Wm}{e:Ws}{f:Str}{pos:Pos}{ta:TE}(h:X.K=K)(he:PE X e ta)(hb:attributeBase e f X.env (eval e X.env)=eval e X.env):PE X (.Attribute e f pos) (AA K ta f):=by
 subst h;intro pins s σ H Q I h;refine LO hb (WZ (he pins s σ H _ I h) fun u s1 ⟨x,H1,g,rx,v,⟨a,C,dx,fs,ex,b,c,n,l⟩,q⟩=>?_);subst ex;obtain rfl:u=Value.ref a:=rx;exact P0 g b c n l fun i s2 d ru=>⟨v,H1,d,ru,q⟩
theorem x6{X:Cx}{K:Wm}{o:Ws}{to:TE}{name:Str}{apos cpos:Pos}{T id:String}{r:V->List V->Hp->VK->Prop}(h:X.K=K)(pa:PlainAttrs T)(slot:Slot T name id)(hty:typeOf (.builtin id)=pure (.type "method_descriptor"))(hm:A9 X id r)(ho:PE X o to)
  (hbase:attributeBase o name X.env (eval o X.env)=eval o X.env:=by rfl) (hline:(apos.endLine==cpos.line)=true:=by rfl):PE X (.Call (.Attribute o name apos) [] [] cpos) (Cv K T r to):=h▸SZ pa slot hty hm ho hbase hline
structure MZ(P:Wh)(w:Wl)(K:Wm)(mg:Wd)(base:Wr)(x:Str)(k:Nat)(sp:Sp):Prop where
 ex:∃ (f C:Wo) (fd:Wj) (ds:Wq) (dvs:List V) (ps:List Str) (sp0:Sp),WA P w K mg base Je k f fd ps sp0/\mg x=some (.ref C)/\Mk K C f/\T6 K fd ps ds/\WD dvs ds/\
  ∀vs H Q,sp vs H Q E0->∀y dx G,H y=none->H dx=none->dx≠y->Ww H G->G y=some (.ins C dx [])->sp0 (.ref y::(vs++dvs)) G (fun v H2=>v= .non/\Q (.ref y) H2) E0
theorem Dx.ct{P:Wh}{w:Wl}{K:Wm}{mg:Wd}{base:Wr}{x:Str}{C:Wo}{k:Nat}{ps:List Str}{dvs:List V}{sp sp':Sp}(F:Dx P w K mg base x C k ps dvs sp)
  (h:∀vs H Q,sp' vs H Q E0->∀y dx G,H y=none->H dx=none->dx≠y->Ww H G->G y=some (.ins C dx [])->sp (.ref y::(vs++dvs)) G (fun v H2=>v= .non/\Q (.ref y) H2) E0):MZ P w K mg base x k sp':=by
 obtain⟨f,fd,ds,G,a,M,c,b⟩:=F.ex;exact⟨f,C,fd,ds,dvs,ps,sp,G,a,M,c,b,h⟩
theorem Rs{X:Cx}{k:Nat}{sp:Sp}{x:Str}{p pos:Pos}{e:Ws}{es:List Expr}{t:TA}(F:MZ X.prog X.w X.K X.mg X.base x k sp)(hr:Room (k+ 1) X.A)(hg:Gl X x)(ha:PA X (e::es) t)(hdb:(x==("__debug__":Str))=false:=by decide)
  (he:starEach (e::es) X.env=(false,eval e X.env)::starEach es X.env:=by rfl) (hpl:(backTo pos (starEach es X.env)).any (·.1)=false:=by rfl):PE X (.Call (.Name x p) (e::es) [] pos) (BF sp [] E0 t):=by
 obtain⟨f,C,fd,ds,dvs,ps,sp0,G,g,M,j,i,hi⟩:=F.ex;intro pins s σ H Q I h;refine XI (L8 I hg g ?_ hdb);refine W.callWith_K (h₀:=X.base) I.ok.mod.kin M.kp (WZ (ha pos pins s σ H _ I h) fun l s1 ⟨vs,H1,c,r,q⟩=>⟨c.kIn,?_⟩) he hpl;have q:sp (vs++[]) H1 Q E0:=q;rw[List.append_nil]at q;exact Sv M G hr j i CA c r fun y dx b a d=>hi _ _ _ q y dx _ b a d ((TZ a).new b) Jn
def Ge(C:Wo)(m:Str)(H:Hp)(x:V):Prop:=∃a dx fs,x= .ref a/\H a=some (.ins C dx fs)/\fs.lookup m=none
def AR(C:Wo)(m:Str)(sp:Sp)(dvs:List V)(ta:TE)(t:TA):TE:=fun σ H Q=>ta σ H fun x H1=>Ge C m H1 x/\t σ H1 fun vs H2=>sp (x::(vs++dvs)) H2 Q E0
section
variable{X:Cx}{k:Nat}{C:Wo}{ps:List Str}{sp:Sp}{dvs:List V}{m:Str}{pos apos:Pos}{e o:Ws}{es:List Expr}{ta:TE}{t:TA}
theorem Mz{pl:Sem Bool}(he:PE X o ta)(F:Nq X.prog X.w X.K X.mg X.base C m k ps dvs sp)(hr:Room k X.A)(ha:PA X (e::es) t)
  (hst:starEach (e::es) X.env=(false,eval e X.env)::starEach es X.env:=by rfl) (hpl:(backTo pos (starEach es X.env)).any (·.1)=false:=by rfl)
  (ht : eval (.Call (.Attribute o m apos) (e :: es) [] pos) X.env = (do
   let ov <-eval o X.env
   standAt apos.atName
   let (f,first) <-holding [ov] (getMethod ov m pl)
   callWith pos f first (backTo pos (starEach (e :: es) X.env)) (backToKw pos (keywordEach [] X.env))) := by rfl) :
  PE X (.Call (.Attribute o m apos) (e::es) [] pos) (AR C m sp dvs ta t):=by
 obtain⟨f,fd,ds,G,c,b,n,j⟩:=F.ex;intro pins s σ H Q I h;refine W.methodCall_KW (pl:=pl) (WZ (he pins s σ H _ I h) fun u s1 ⟨x,H1,g,rx,⟨a,dx,fs,ex,p,l⟩,q⟩=>?_) ht;subst ex;obtain rfl:u=Value.ref a:=rx;refine QT g p c b l ?_;refine W.callWith_K (first:=[.ref a]) (h₀:=X.base) I.ok.mod.kin b.kp (WZ (ha pos pins s1 σ H1 _ g q) fun us s2 ⟨vs,H2,d,r,i⟩=>⟨d.kIn,?_⟩) hst hpl;exact L4 (us:=.ref a::us) (vs:=.ref a::vs) G hr n j CA d (.cons rfl r) i
theorem Mu{pl:Sem Bool}(he:PE X o ta)(F:Nq X.prog X.w X.K X.mg X.base C m k ps dvs sp)(hr:Room k X.A)
  (ht : eval (.Call (.Attribute o m apos) [] [] pos) X.env = (do
   let ov <-eval o X.env
   standAt apos.atName
   let (f,first) <-holding [ov] (getMethod ov m pl)
   callWith pos f first (backTo pos (starEach [] X.env)) (backToKw pos (keywordEach [] X.env))) := by rfl) :
  PE X (.Call (.Attribute o m apos) [] [] pos) (AR C m sp dvs ta R7):=by
 obtain⟨f,fd,ds,G,c,d,g,e⟩:=F.ex;intro pins s σ H Q I h;refine W.methodCall_KW (pl:=pl) (WZ (he pins s σ H _ I h) fun u s1 ⟨x,H1,b,rx,⟨a,dx,fs,ex,i,l⟩,q⟩=>?_) ht;subst ex;obtain rfl:u=Value.ref a:=rx;refine QT b i c d l ?_;exact W.callWith_K0 (first:=[.ref a]) b.kIn d.kp (L4 (us:=[.ref a]) (vs:=[.ref a]) G hr g e CA b (.cons rfl .nil) q)
end
theorem Ww.get{H G:Hp}{b:Wo}{o:HO}(s:Ww H G)(h:H b=some o):G b=some o:=s b o h
theorem Jh.get{l:Wo}{H G:Hp}{b:Wo}{o:HO}(s:Jh l H G)(h:H b=some o)(n:b≠l):G b=some o:=s b o h n
theorem Ww.butNew{l:Wo}{H H' G:Hp}(s:Ww H H')(b:Jh l H' G)(h:H l=none):Ww H G:=fun c o e=>b c o (s c o e) (No e h)
theorem Jh.free{l:Wo}{H G:Hp}(s:Jh l H G){b:Wo}(h:G b=none)(n:b≠l):H b=none:=by
 cases e:H b with
 |none=>rfl
 |some o=>rw[s b o e n]at h;cases h
theorem Ww.toBut{l:Wo}{H G:Hp}(s:Ww H G):Jh l H G:=fun b o e _=>s b o e
section
variable{caps:List (Option Nat)}{g:TG}{tc:TT}{te:TE}
theorem B6{K:Wm}{a:Wo}{xs:List V}{σ:St}{H1:Hp}{Q:VK}(Pv:Nat->List V->St->Hp->Prop)(h0:Pv 0 [] (Jj caps σ) H1)(hl:∀i ys σ H,Pv i ys σ H->i <=xs.length->WB K H a xs/\ys.length <=i)(hz:xs.length <=sizeLine)
  (hs:∀i x ys σ H,xs[i]?=some x->Pv i ys σ H->g x σ H fun σ2 H2=>tc σ2 H2 fun b H3=>if b=true then te σ2 H3 fun y H4=>Pv (i+ 1) (ys++[y]) σ2 H4 else Pv (i+ 1) ys σ2 H3)
  (hd:∀ys σ H,Pv xs.length ys σ H->∀p G,H p=none->Ww H G->G p=some (.lst ys)->Q (.ref p) G):EH caps g tc te σ Q (Rl K a) H1:=
 Qw Pv h0 hl hz hs fun ys σ H h p c=>hd ys σ H h p _ c (TZ c) Jn
theorem He{lo:Int}{n:Nat}{σ:St}{H1:Hp}{Q:VK}(Pv:Nat->List V->St->Hp->Prop)(h0:Pv 0 [] (Jj caps σ) H1)(hl:∀i ys σ H,Pv i ys σ H->i <=n->ys.length <=i)(hz:n <=sizeLine)
  (hs:∀i ys σ H,i < n->Pv i ys σ H->g (.int (lo+ i)) σ H fun σ2 H2=>tc σ2 H2 fun b H3=>if b=true then te σ2 H3 fun y H4=>Pv (i+ 1) (ys++[y]) σ2 H4 else Pv (i+ 1) ys σ2 H3)
  (hd:∀ys σ H,Pv n ys σ H->∀p G,H p=none->Ww H G->G p=some (.lst ys)->Q (.ref p) G):EH caps g tc te σ Q (GL lo n) H1:=
 xO Pv h0 hl hz hs fun ys σ H h p a=>hd ys σ H h p _ a (TZ a) Jn
end
structure GN(K:Wm)(C:Wo):Prop where
 ha:W.findIn K (.ref C) "__class__"=some (some (.builtin "object.__class__"))
 hn:W.specialIn K (.builtin "object.__class__") "__get__"=some (some (.builtin "getset_descriptor.__get__"))
 htk:W.takesIn K (.builtin "object.__class__")=some true
 hm:W.mroIn K C (.type "object")=some true
def Ke(C:Wo):List V->Hp->VK->Prop:=fun xs H Q=>∃a dx fs,xs=[.ref a,.ref C]/\H a=some (.ins C dx fs)/\Q (.bl true) H
theorem Q8{X:Cx}{K:Wm}{C:Wo}(h:X.K=K)(cl:Ml K C)(ic:GN K C):WW X (.builtin "isinstance") (Ke C):=by
 subst h;intro pins s σ H xs b Q I r c;obtain⟨a,dx,fs,rfl,ha,q⟩:=c;refine Iv pins s σ H _ b Q I r ⟨.ref a,.ref C,.ref C,true,rfl,.ins ha cl ic.ha ic.hn ic.htk ic.hm,rfl,?_,q⟩;show W.kitOne X.K (.ref C) (.ref C)=some true;unfold W.kitOne;rw[Y3 (by simp)]
section
variable{P:Wh}{w:Wl}{K:Wm}{mg:Wd}{base:Wr}
theorem Nq.imp{C:Wo}{m:Str}{k:Nat}{ps:List Str}{dvs:List V}{sp sp':Sp}(F:Nq P w K mg base C m k ps dvs sp)(h:∀vs H Q E,sp' vs H Q E->sp vs H Q E):Nq P w K mg base C m k ps dvs sp':=by
 obtain⟨f,fd,ds,a,b,c,d,e⟩:=F.ex;exact⟨f,fd,ds,a.imp h,b,c,d,e⟩
end
theorem Ju{t u:TS}{D:T5}{σ:St}{H:Hp}(h:∀N:St->Hp->Prop,(∀σ' H',u D σ' H'->N σ' H')->t {D with nx:=N} σ H):D9 t u D σ H:=h (u D) fun _ _ x=>x
section
variable{κ:Type}[DecidableEq κ]
def J5(kvs:List (κ×V))(k:κ):Option V:=(kvs.find? fun kv=>decide (kv.1=k)).map (·.2)
def Md(kvs:List (κ×V))(k:κ)(v:V):List (κ×V):=
 if(kvs.any fun kv=>decide (kv.1=k))=true then kvs.map (fun kv=>if kv.1=k then(kv.1,v) else kv) else kvs++[(k,v)]
theorem Gr{p:κ×V}{r:List (κ×V)}{k:κ}(e:p.1=k):J5 (p::r) k=some p.2:=by simp[J5,YU,e]
theorem Gs{p:κ×V}{r:List (κ×V)}{k:κ}(e:¬p.1=k):J5 (p::r) k=J5 r k:=by simp[J5,YU,e]
theorem Ea(k:κ):∀kvs:List (κ×V),(kvs.any fun kv=>decide (kv.1=k))=(J5 kvs k).isSome
 |[]=>rfl
 |p::r=>by
  rw[XO]
  by_cases e:p.1=k
  .simp only[Gr e,Yq e,Bool.true_or,Option.isSome_some]
  .rw[Gs e,Yt e,Bool.false_or];exact Ea k r
theorem O8(k j:κ)(y:V):∀kvs:List (κ×V),J5 (kvs.map fun kv=>if kv.1=k then(kv.1,y) else kv) j=(J5 kvs j).map fun x=>if j=k then y else x
 |[]=>rfl
 |p::r=>by
  have ih:=O8 k j y r;rw[List.map_cons]
  by_cases h:p.1=k
  .rw[Y3 h]
   by_cases e:p.1=j
   .rw[Gr (p:=(p.1,y)) e,Gr e,V4,Y3 (e.symm.trans h)]
   .rw[Gs (p:=(p.1,y)) e,Gs e,ih]
  .rw[Y2 h]
   by_cases e:p.1=j
   .rw[Gr (p:=p) e,Gr e,V4,Y2 (fun z=>h (e.trans z))]
   .rw[Gs (p:=p) e,Gs e,ih]
theorem QM(k j:κ)(y:V):∀kvs:List (κ×V),J5 kvs k=none->J5 (kvs++[(k,y)]) j=if j=k then some y else J5 kvs j
 |[],_=>by
  by_cases e:k=j
  .rw[Y3 e.symm];exact Gr (p:=(k,y)) e
  .rw[Y2 (fun z=>e z.symm)];exact Gs (p:=(k,y)) e
 |p::r,hn=>by
  rw[List.cons_append];have hk:¬p.1=k:=fun z=>by rw[Gr z]at hn;cases hn
  rw[Gs hk]at hn;have a:=QM k j y r hn
  by_cases e:p.1=j
  .rw[Gr e,Gr e,Y2 (fun z=>hk (e.trans z))]
  .rw[Gs e,Gs e,a]
theorem mT(kvs:List (κ×V))(k j:κ)(y:V):J5 (Md kvs k y) j=if j=k then some y else J5 kvs j:=by
 unfold Md
 by_cases a:(kvs.any fun b=>decide (b.1=k))=true
 .rw[Y3 a,O8];rw[Ea]at a
  by_cases e:j=k
  .obtain⟨x,c⟩:=Xw.mp a;rw[Y3 e,e,c,V4,Y3 rfl]
  .rw[Y2 e];cases J5 kvs j with
   |none=>rfl
   |some x=>rw[V4,Y2 e]
 .rw[Y2 a];refine QM k j y kvs ?_;rw[Ea]at a;cases q:J5 kvs k with
  |none=>rfl
  |some x=>rw[q]at a;exact(a rfl).elim
theorem O2(kvs:List (κ×V))(k:κ)(v:V):(Md kvs k v).length <=kvs.length+ 1:=by
 unfold Md
 split
 .rw[Y0];lia
 .rw[List.length_append,List.length_cons,List.length_nil];lia
theorem T4.isSome_eq{o:Option V}{u:Option Value}(r:T4 o u):o.isSome=u.isSome:=by
 cases o with
 |none=>cases u with
  |none=>rfl
  |some _=>exact(show False from r).elim
 |some _=>cases u with
  |none=>exact(show False from r).elim
  |some _=>rfl
theorem KV.val{kvs:List (κ×V)}{vs:List (κ×Value)}(r:KV kvs vs)(k:κ):T4 (J5 kvs k) (valueAt vs k):=by
 unfold KV at r
 induction r with
 |nil=>exact True.intro
 |@cons p q ps qs h t ih=>
  obtain⟨h1,h2⟩:=h
  by_cases e:p.1=k
  .have a:q.1=k:=h1.symm.trans e;have b:valueAt (q::qs) k=some q.2:=by simp[valueAt,YU,a]
   rw[Gr e,b];exact h2
  .have a:¬q.1=k:=fun z=>e (h1.trans z)
   have b:valueAt (q::qs) k=valueAt qs k:=by simp[valueAt,YU,a]
   rw[Gs e,b];exact ih
theorem KV.any{kvs:List (κ×V)}{vs:List (κ×Value)}(r:KV kvs vs)(k:κ):(kvs.any fun kv=>decide (kv.1=k))=vs.any fun kv=>decide (kv.1=k):=by
 unfold KV at r
 induction r with
 |nil=>rfl
 |cons h t ih=>rw[XO,XO,ih,h.1]
theorem KV.repl{kvs:List (κ×V)}{vs:List (κ×Value)}(r:KV kvs vs)(k:κ){y:V}{u:Wn}(ry:WI y u):
  KV (kvs.map fun kv=>if kv.1=k then(kv.1,y) else kv) (vs.map fun kv=>if kv.1=k then(kv.1,u) else kv):=by
 unfold KV at r ⊢
 induction r with
 |nil=>exact .nil
 |@cons p q ps qs h t ih=>
  rw[List.map_cons,List.map_cons];refine .cons ?_ ih;obtain⟨h1,h2⟩:=h
  by_cases e:p.1=k
  .rw[Y3 e,Y3 (h1.symm.trans e)];exact⟨h1,ry⟩
  .rw[Y2 e,Y2 (fun z=>e (h1.trans z))];exact⟨h1,h2⟩
theorem KV.put{kvs:List (κ×V)}{vs:List (κ×Value)}(r:KV kvs vs)(k:κ){y:V}{u:Wn}(ry:WI y u):KV (Md kvs k y) (stored vs k u):=by
 unfold Md stored;rw[r.any k]
 by_cases e:(vs.any fun a=>decide (a.1=k))=true
 .rw[Y3 e,Y3 e];exact r.repl k ry
 .rw[Y2 e,Y2 e];exact Paired.snoc r ⟨rfl,ry⟩
theorem KV.keys{kvs:List (κ×V)}{vs:List (κ×Value)}(r:KV kvs vs):kvs.map (·.1)=vs.map (·.1):=by
 unfold KV at r
 induction r with
 |nil=>rfl
 |cons h t ih=>rw[List.map_cons,List.map_cons,ih,h.1]
theorem KV.length{kvs:List (κ×V)}{vs:List (κ×Value)}(r:KV kvs vs):kvs.length=vs.length:=Paired.length r
end
theorem BY{P:Wh}{w:Wl}{k:WU}{u:Wn}(r:WI (kV k) u):(WY P w).is k u=true:=by
 cases k with
 |inl i=>obtain⟨t,e⟩:=(show ∃t,u=Value.int i t from r);subst e;exact jK P w i t
 |inr x=>obtain⟨t,e⟩:=(show ∃t,u=Value.str x t from r);subst e;exact vE P w x t
theorem AS{P:Wh}{w:Wl}:∀{ks:List WU} {us:Wq},WD (ks.map kV) us->ItemsAre (WY P w) ks us
 |[],_,r=>by rw[List.map_nil]at r;cases r;exact .nil
 |k::ks,_,r=>by
  rw[List.map_cons]at r;cases r with
  |cons h t=>exact .cons (BY h) (AS t)
abbrev KT(H:Hp):List (List WU×V)->List (List WU×Addr×Value)->Prop:=Paired fun p q=>p.1=q.1/\H q.2.1=some (.tup (p.1.map kV))/\WI p.2 q.2.2
theorem KT.val{H:Hp}{kvs:List (List WU×V)}{xs:List (List WU×Addr×Value)}(r:KT H kvs xs)(k:List WU):T4 (J5 kvs k) ((atKey xs k).map (·.2)):=by
 induction r with
 |nil=>exact True.intro
 |@cons p q ps qs h t ih=>
  obtain⟨h1,_,h2⟩:=h
  by_cases e:p.1=k
  .have a:q.1=k:=h1.symm.trans e;have b:atKey (q::qs) k=some q.2:=by simp[atKey,YU,a]
   rw[Gr e,b];exact h2
  .have a:¬q.1=k:=fun z=>e (h1.trans z)
   have b:atKey (q::qs) k=atKey qs k:=by simp[atKey,YU,a]
   rw[Gs e,b];exact ih
theorem KT.repl{H:Hp}{kvs:List (List WU×V)}{xs:List (List WU×Addr×Value)}(r:KT H kvs xs)(k:List WU){y:V}{u:Wn}(ry:WI y u):
  KT H (kvs.map fun kv=>if kv.1=k then(kv.1,y) else kv) (xs.map (putAt k u)):=by
 induction r with
 |nil=>exact .nil
 |@cons p q ps qs h t ih=>
  rw[List.map_cons,List.map_cons];refine .cons ?_ ih;obtain⟨h1,h2,a⟩:=h;unfold putAt
  by_cases e:p.1=k
  .rw[Y3 e,Y3 (h1.symm.trans e)];exact⟨h1,h2,ry⟩
  .rw[Y2 e,Y2 (fun z=>e (h1.trans z))];exact⟨h1,h2,a⟩
theorem KT.put{H:Hp}{kvs:List (List WU×V)}{xs:List (List WU×Addr×Value)}(r:KT H kvs xs)(k:List WU){b:Wo}{y:V}{u:Wn}(hb:H b=some (.tup (k.map kV)))(ry:WI y u):
  KT H (Md kvs k y) (storedH xs k b u):=by
 have e:(kvs.any fun a=>decide (a.1=k))=(atKey xs k).isSome:=by
  rw[Ea,(r.val k).isSome_eq,Vv]
 unfold Md storedH;rw[e]
 by_cases q:(atKey xs k).isSome=true
 .rw[Y3 q,Y3 q];exact r.repl k ry
 .rw[Y2 q,Y2 q];exact Paired.snoc r ⟨rfl,hb,ry⟩
theorem KT.keeps{H H':Hp}{kvs:List (List WU×V)}{xs:List (List WU×Addr×Value)}(r:KT H kvs xs)(ht:∀b ys,H b=some (.tup ys)->H' b=some (.tup ys)):KT H' kvs xs:=
 Paired.mapP r fun _ _ z=>⟨z.1,ht _ _ z.2.1,z.2.2⟩
section
variable{P:Wh}{w:Wl}{H:Hp}{h:Wr}{a:Wo}
theorem Ox{u:HO}(ok:NB P w H h)(e:Rd H a u):WO P w H h a u:=e.ok ok
theorem EZ{kvs:List (WU×V)}(ok:NB P w H h)(e:Rd H a (.dK kvs)):kvs.length <=sizeLine/\(a==sysModules)=false/\∃vs,KV kvs vs/\h.DictOf (WY P w) a vs:=
 show WO P w H h a (.dK kvs) from Ox ok e
theorem LI{kvs:List (WU×V)}(ok:NB P w H h)(e:H a=some (.dK kvs)):kvs.length <=sizeLine/\(a==sysModules)=false/\∃vs,KV kvs vs/\h.DictOf (WY P w) a vs:=EZ ok (.inl e)
theorem Ef{ks:List WU}(ok:NB P w H h)(e:H a=some (.tup (ks.map kV))):(tupleKind (WY P w)).is h ks a:=by
 obtain⟨_,b,r,o,h1,h2,n,c⟩:=(show WO P w H h a (.tup (ks.map kV)) from ok a _ e);exact⟨o,b.toArray,n,h1,h2,c,by simpa using AS r⟩
theorem BS{kvs:List (List WU×V)}(ok:NB P w H h)(e:Rd H a (.dT kvs)):kvs.length <=sizeLine/\(a==sysModules)=false/\
  ∃xs,KT H kvs xs/\h.DictOfH (tupleKind (WY P w)) a xs:=by
 obtain⟨z,y,xs,r,o,es,ep,h1,h2,f,d,c⟩:=(show WO P w H h a (.dT kvs) from Ox ok e);refine⟨z,y,xs,r,o,es,ep,h1,h2,f,d,fun x b=>?_,c⟩;have all:∀{l:List (List WU×V)} {m:List (List WU×Addr×Value)},KT H l m->∀x∈m,(tupleKind (WY P w)).is h x.1 x.2.1:=by
  intro l m q
  induction q with
  |nil=>intro x b;exact nomatch b
  |@cons p q ps qs hq t ih=>
   intro x b;rcases Yp.mp b with e|b
   .subst e;exact Ef ok (by rw[<-hq.1];exact hq.2.1)
   .exact ih x b
 exact all r x b
theorem IG{kvs:List (List WU×V)}(ok:NB P w H h)(e:H a=some (.dT kvs)):kvs.length <=sizeLine/\(a==sysModules)=false/\
  ∃xs,KT H kvs xs/\h.DictOfH (tupleKind (WY P w)) a xs:=BS ok (.inl e)
end
def TY(H:Hp)(a:Wo)(y:V)(r:Option V):Prop:=
 (∃kvs k,Rd H a (.dK kvs)/\y=kV k/\r=J5 kvs k)\/∃kvs k b,Rd H a (.dT kvs)/\y= .ref b/\H b=some (.tup (k.map kV))/\r=J5 kvs k
def Da(H:Hp)(a:Wo)(y v:V)(H':Hp):Prop:=
 (∃kvs k,H a=some (.dK kvs)/\y=kV k/\kvs.length < sizeLine/\H'=upd H a (.dK (Md kvs k v)))\/
 ∃kvs k b,H a=some (.dT kvs)/\y= .ref b/\H b=some (.tup (k.map kV))/\kvs.length < sizeLine/\H'=upd H a (.dT (Md kvs k v))
theorem TY.k{H:Hp}{a:Wo}{kvs:List (WU×V)}{k:WU}(e:H a=some (.dK kvs)):TY H a (kV k) (J5 kvs k):=.inl ⟨kvs,k,.inl e,rfl,rfl⟩
theorem Da.k{H:Hp}{a:Wo}{kvs:List (WU×V)}{k:WU}{v:V}(e:H a=some (.dK kvs))(hl:kvs.length < sizeLine):Da H a (kV k) v (upd H a (.dK (Md kvs k v))):=.inl ⟨kvs,k,e,rfl,hl,rfl⟩
theorem Da.t{H:Hp}{a b:Wo}{kvs:List (List WU×V)}{k:List WU}{v:V}(e:H a=some (.dT kvs))(eb:H b=some (.tup (k.map kV)))(hl:kvs.length < sizeLine):
  Da H a (.ref b) v (upd H a (.dT (Md kvs k v))):=.inr ⟨kvs,k,b,e,rfl,eb,hl,rfl⟩
section
variable{X:Cx}{pins:Wg}{σ:St}{H:Hp}{s:Wi}{a:Wo}{y v:V}{u r:Wn}{o:Option V}{A:Wk}{E:We}
theorem Wx.big(I:Wx X pins σ H s):sysModules < s.heap.objs.size:=by
 have h:mainGlobals < s.heap.objs.size:=(I.mod.glob.keeps I.bk).lt;exact Nat.lt_trans (by decide) h
theorem tD{Q:We}(hu:A.units+ 1 < cLine)(I:Wx X pins σ H s)(g:TY H a y (some v))(ry:WI y u)(h:∀w' s',Wx X pins σ H s'->WI v w'->Q w' s'):
  wpAny (model X.prog X.w) A (getItem (.ref a) u) Q E s:=by
 rcases g with⟨kvs,k,e,ey,l⟩|⟨kvs,k,b,e,ey,eb,l⟩
 .subst ey;obtain⟨z,q,vs,d,i⟩:=EZ I.hok e;obtain⟨w',f,c⟩:=T4.some_of (v:=v) (o:=valueAt vs k) (by rw[l];exact d.val k);exact wpAny_getItem_of (BY ry) i.mapOf f (h w' _ (I.tok _) c)
 .subst ey;cases (show u=Value.ref b from ry);obtain⟨z,q,xs,d,i⟩:=BS I.hok e;obtain⟨w',f,c⟩:=T4.some_of (v:=v) (o:=(atKey xs k).map (·.2)) (by rw[l];exact d.val k);obtain⟨p,n,j⟩:=YA.mp f;refine wpAny_getItem_heap (XJ hu) (Ef I.hok eb) i n ?_;rw[j];exact h w' _ (I.tok _) c
theorem PV{Q:We}(hu:A.units+ 1 < cLine)(I:Wx X pins σ H s)(g:TY H a y o)(ry:WI y u)(h:∀s',Wx X pins σ H s'->Q (.bool o.isSome) s'):
  wpAny (model X.prog X.w) A (compareOp .In u (.ref a)) Q E s:=by
 rcases g with⟨kvs,k,e,ey,l⟩|⟨kvs,k,b,e,ey,eb,l⟩
 .subst ey;obtain⟨z,d,vs,c,f⟩:=EZ I.hok e;refine wpAny_in_of (BY ry) d f.mapOf ?_;rw[<-(c.val k).isSome_eq,<-l];exact h _ (I.tok _)
 .subst ey;cases (show u=Value.ref b from ry);obtain⟨z,d,xs,c,f⟩:=BS I.hok e;refine wpAny_in_heap (XJ hu) (Ef I.hok eb) d f ?_;have q:=(c.val k).isSome_eq;rw[Vv]at q;rw[<-q,<-l];exact h _ (I.tok _)
theorem OH{Q:We}(hu:A.units+ 1 < cLine)(I:Wx X pins σ H s)(g:TY H a y o)(ry:WI y u)(h:∀s',Wx X pins σ H s'->Q (.bool (!o.isSome)) s'):
  wpAny (model X.prog X.w) A (compareOp .NotIn u (.ref a)) Q E s:=by
 rcases g with⟨kvs,k,e,ey,l⟩|⟨kvs,k,b,e,ey,eb,l⟩
 .subst ey;obtain⟨z,d,vs,c,f⟩:=EZ I.hok e;refine wpAny_notIn_of (BY ry) d f.mapOf ?_;rw[<-(c.val k).isSome_eq,<-l];exact h _ (I.tok _)
 .subst ey;cases (show u=Value.ref b from ry);obtain⟨z,d,xs,c,f⟩:=BS I.hok e;refine wpAny_notIn_heap (XJ hu) (Ef I.hok eb) d f ?_;have q:=(c.val k).isSome_eq;rw[Vv]at q;rw[<-q,<-l];exact h _ (I.tok _)
theorem Ay{h':Wr}{t':Nat}{ob:HO}(I:Wx X pins σ H s)(mu:Bq (H a))(hs:Heap.SameBut a s.heap h')(he:∃q,h'.get? a=some q)(new:WO X.prog X.w (upd H a ob) h' a ob):
  Wx X pins σ (upd H a ob) {s with heap:=h',toks:=t'}:=
 I.write (x:=a) (e:=a) mu (.inl rfl) (fun b q c z=>(hs.2 b c).trans z) he new
theorem dS{P:Wh}{w:Wl}{H':Hp}{h':Wr}{kvs:List (WU×V)}{vs:List (WU×Value)}(z:kvs.length <=sizeLine)(hd:(a==sysModules)=false)(rel:KV kvs vs)(dd:h'.DictOf (WY P w) a vs):
  WO P w H' h' a (.dK kvs):=⟨z,hd,vs,rel,dd⟩
theorem Qz{H':Hp}{Q:Wf}(hu:A.units+ 1 < cLine)(I:Wx X pins σ H s)(g:Da H a y v H')(ry:WI y u)(rv:WI v r)(h:∀s',Wx X pins σ H' s'->Q () s'):
  wpAny (model X.prog X.w) A (setItem (.ref a) u r) Q E s:=by
 rcases g with⟨kvs,k,e,ey,l,eH⟩|⟨kvs,k,b,e,ey,eb,l,eH⟩
 .subst ey eH;obtain⟨z,o,vs,d,p⟩:=LI I.hok e;have j:vs.length <=sizeLine:=by rw[<-d.length];exact z
  have n:(Md kvs k v).length <=sizeLine:=by have:=O2 kvs k v;lia
  refine wpAny_setItem_pairs (hsz:=j) (BY ry) p fun h' f hs=>h _ ?_
  have he:∃q,h'.get? a=some q:=let ⟨q,_,_,i,_⟩:=f;⟨q,i⟩;exact Ay I (by rw[e];exact True.intro) hs he (dS n o (d.put k rv) f)
 .subst ey eH;cases (show u=Value.ref b from ry);obtain⟨z,o,xs,d,p⟩:=IG I.hok e;have j:xs.length <=sizeLine:=by rw[<-Paired.length d];exact z
  have n:(Md kvs k v).length <=sizeLine:=by have:=O2 kvs k v;lia
  refine wpAny_setItem_heap (hsz:=j) (XJ hu) (Ef I.hok eb) p fun h' f hs=>h _ ?_
  obtain⟨q,es,ep,i,h2,h3,h4,_,h5⟩:=f;refine Ay I (by rw[e];exact True.intro) hs ⟨q,i⟩ ⟨n,o,_,(d.put k eb rv).keeps fun c ys ec=>?_,q,es,ep,i,h2,h3,h4,h5⟩;rw[WM (Wv ec e (fun z=>nomatch z))];exact ec
end
section
variable{X:Cx}{pins:Wg}{σ:St}{H:Hp}{s:Wi}{a:Wo}{kvs:List (WU×V)}{k:WU}{u:Wn}{A:Wk}{E:We}
theorem Sh{Q:We}(I:Wx X pins σ H s)(e:Rd H a (.dK kvs))(h:∀t s',Wx X pins σ H s'->Q (.int kvs.length t) s'):wpAny (model X.prog X.w) A (call (.builtin "len") [.ref a]) Q E s:=by
 obtain⟨z,c,vs,b,d⟩:=EZ I.hok e;refine call_len_dict c d (by rw[<-b.length];rw[Ym]at z;lia) ?_;rw[<-b.length];exact h _ _ (I.tok _)
end
def H9(i:Ws):Prop:=∀ov iv,subscripted i false ov iv=operate [ov,iv] (getItem ov iv)
theorem uK{prog:Wh}{w:Wl}{A:Wk}{E:We}{s:Wi}{env:Env}{value slice:Ws}{pos:Pos}{T id:String}{Q:We}
  (hl:typeLookup (.type T) "__getitem__"=pure (some (.builtin id))) (hs:H9 slice)
  (h:wpAny (model prog w) A (eval value env) (fun o s₁=>wpAny (model prog w) A (eval slice env) (fun i s₂=>s₂.TypeIs o T/\wpAny (model prog w) A (getItem o i) Q E s₂) E s₁) E s):
  wpAny (model prog w) A (eval (.Subscript value slice pos) env) Q E s:=by
 refine Subscript_ (YF h (fun o s₁ f=>YF f (fun i s₂ b=>?_) fun _ _ x=>x) fun _ _ x=>x);obtain⟨d,b⟩:=b;unfold subscriptTail;refine Y1 ?_;rw[getitemInPython_of_ne d.not_modules];refine Y1 (wpAny_specialOf d hl ?_);have a:wpAny (model prog w) A (subscripted slice false o i) (fun r c=>wpAny (model prog w) A (letTemporaryGo value o r >>=fun _=>pure r) Q E c) E s₂:=by
  rw[hs o i];exact wpAny_operating (YF b (fun r c e=>Y1 (wpAny_letTemporaryGo (Ye e))) fun _ _ x=>x)
 first
  |exact Ye (Y1 a)
  |exact Y1 (Ye (Y1 a))
  |exact Y1 a
theorem wQ{X:Cx}{pins:Wg}{σ:St}{H:Hp}{s:Wi}{a:Wo}{y:V}{o:Option V}(I:Wx X pins σ H s)(g:TY H a y o):s.TypeIs (.ref a) "dict":=by
 rcases g with⟨kvs,k,e,_,_⟩|⟨kvs,k,b,e,_,_,_⟩
 .obtain⟨_,_,vs,_,c⟩:=EZ I.hok e;exact c.typeIs
 .obtain⟨_,_,xs,_,c⟩:=BS I.hok e;exact c.typeIs
def Ca(td ty:TE):TE:=fun σ H Q=>td σ H fun x H1=>ty σ H1 fun y H2=>∃a v,x= .ref a/\TY H2 a y (some v)/\Q v H2
section
variable{X:Cx}{o i e value:Ws}{pos pos' tpos:Pos}{td ty tv:TE}
theorem mF(hu:X.A.units+ 1 < cLine)(ho:PE X o td)(hi:PE X i ty)(hs:H9 i):PE X (.Subscript o i pos) (Ca td ty):=by
 intro pins s σ H Q I h;refine uK PySem.F.slot_dict_getitem.lookup hs (WZ (ho pins s σ H _ I h) fun u s1 ⟨x,H1,j,rx,e⟩=>WZ (hi pins s1 σ H1 _ j e) fun p s2 ⟨y,H2,c,ry,a,v,ex,g,d⟩=>?_);subst ex;obtain rfl:u=Value.ref a:=rx;exact⟨wQ c g,tD hu c g ry fun l n f b=>⟨v,H2,f,b,d⟩⟩
end
theorem jS{P:Wh}{w:Wl}{H:Hp}(h:Wr)(hb:sysModules < h.objs.size):WO P w H (h.push {cls:=.type "dict",data:=.dict #[]}) h.objs.size (.dK []):=
 ⟨Yy _,Xe.mpr (Ne.symm (Yr hb)),[],.nil,Heap.DictOf.new h⟩
theorem vO{P:Wh}{w:Wl}{H:Hp}(h:Wr)(hb:sysModules < h.objs.size):WO P w H (h.push {cls:=.type "dict",data:=.dict #[]}) h.objs.size (.dT []):=
 ⟨Yy _,Xe.mpr (Ne.symm (Yr hb)),[],.nil,_,#[],0,Yl _ rfl,⟨rfl,rfl,rfl⟩,rfl,rfl,Vf⟩
def Si:TE:=fun _ H Q=>∀p,H p=none->Q (.ref p) (upd H p (.dK []))
def vM:TE:=fun _ H Q=>∀p,H p=none->Q (.ref p) (upd H p (.dT []))
section
variable{X:Cx}{pos:Pos}
theorem Zk:PE X (.Dict [] [] pos) Si:=fun pins s σ H Q I h=>
 wpAny_Dict_empty ⟨.ref s.heap.objs.size,_,I.laid (a:=s.heap.objs.size) (o:=.dK []) (t':=s.toks) (fun _ _ q=>Y7 _ q) (Y5 _) (jS s.heap I.big),rfl,h _ (I.hok.fresh (Y5 _))⟩
theorem yN:PE X (.Dict [] [] pos) vM:=fun pins s σ H Q I h=>
 wpAny_Dict_empty ⟨.ref s.heap.objs.size,_,I.laid (a:=s.heap.objs.size) (o:=.dT []) (t':=s.toks) (fun _ _ q=>Y7 _ q) (Y5 _) (vO s.heap I.big),rfl,h _ (I.hok.fresh (Y5 _))⟩
end
section
variable{X:Cx}
theorem mG:WW X (.builtin "len") (fun xs H Q=>∃a kvs,xs=[V.ref a]/\H a=some (.dK kvs)/\Q (.int kvs.length) H):=by
 intro pins s σ H xs d Q I r h;obtain⟨a,kvs,rfl,b,q⟩:=h;obtain⟨u,rfl,ru⟩:=DM r;cases ru;exact Sh I (.inl b) fun t s' c=>⟨.int kvs.length,H,c,⟨t,rfl⟩,q⟩
end
theorem Q2:∀{ns:Wp} {us:Wq},WD (ns.map V.int) us->IntsAre us ns
 |[],_,r=>by cases r;exact .nil
 |n::ns,_,r=>by
  cases r with
  |cons h t=>
   obtain⟨tk,rfl⟩:=(show ∃t,_=Value.int n t from h);exact .cons n tk (Q2 t)
section
variable{X:Cx}{K:Wm}
def Kt(K:Wm):List V->Hp->VK->Prop:=fun xs H Q=>∃ (p:Wo) (ns:Wp),xs=[.ref p]/\WB K H p (ns.map V.int)/\(∀x∈ns,-(2 ^ 62) <=x/\x < 2 ^ 62)/\(∀j,j <=ns.length-> -(2 ^ 62) <=(ns.take j).sum/\(ns.take j).sum < 2 ^ 62)/\Q (.int ns.sum) H
theorem vL(hc:X.calm=true)(h:X.K=K):WW X (.builtin "sum") (Kt K):=by
 subst h;intro pins s σ H xs us Q I r w;obtain⟨p,a,rfl,hq,hb,hs,q⟩:=w;obtain⟨u,rfl,rx⟩:=DM r;cases rx;obtain⟨c,z,pl,hz⟩:=I.list hq;have w:X.A.in1.handled=none:=I.ok.hd hc;have n:=pl.isList;have g:p < s.heap.objs.size:=by obtain⟨_,e,_⟩:=n;exact Yk e
 have f:a.length=c.length:=by have:=z.length;simpa using this
 refine call_sum_walk (XR n ⟨s.heap.objs.size,_,_,_,_,_,fun i=>a.getD i 0,rfl,Walks.list w s.heap.objs.size p (Yr g) c.toArray,⟨⟨_,Yl _ rfl,rfl,rfl⟩,n.push _⟩,?_,?_,?_,?_⟩)
 .intro b hb';have:b=s.heap.objs.size\/b=p:=by simpa using hb'
  show b < (s.heap.push _).objs.size;rw[Uj];rcases this with rfl|rfl
  .exact UR _
  .exact XS g
 .intro i v hv;have d:c[i]?=some v:=by simpa using hv
  cases e:a[i]? with
  |none=>
   have:c[i]?=none:=by
    rw[Vy]at e ⊢;lia
   rw[this]at d;cases d
  |some b=>
   obtain⟨u,hu,ru⟩:=z.get (i:=i) (x:=V.int b) (by rw[Yc,e];rfl);rw[d]at hu;cases hu;obtain⟨t,rfl⟩:=(show ∃t,v=Value.int b t from ru);exact⟨t,by simp[List.getD,e]⟩
 .intro j hj;have l:j < a.length:=by simpa[f] using hj
  have e1:a.getD j 0=a[j]:=by simp[List.getD,l]
  have h1:=hb _ (US l);have h2:=hs (j+ 1) (by lia);rw[preSum_getD];dsimp only;rw[e1];exact⟨⟨by lia,by lia⟩,by lia,by lia⟩
 .intro h' tk t' hk;have e:preSum (fun i=>a.getD i 0) c.toArray.size=a.sum:=by
   rw[preSum_getD,Yd,<-f,Xj]
  rw[e];exact⟨.int a.sum,H,I.kept (t':=tk) fun b o eo=>hk b o (by simpa using Yr (Yk eo)) (Y7 _ eo),⟨t',rfl⟩,q⟩
end
end L2
set_option maxHeartbeats 400000
namespace L2
open PySem PySem.Spec PyProof.Rows
theorem d4{P:Wh}{w:Wl}{k:WU}{u:Wn}(h:(WY P w).is k u=true):WI (kV k) u:=by
 rcases GV (k:=k) (v:=u) h with⟨i,t,rfl,rfl⟩|⟨x,t,rfl,rfl⟩
 .exact⟨t,rfl⟩
 .exact⟨t,rfl⟩
theorem O9:∀{xs:List V} {us:Wq},us.length=xs.length->(∀ (j:Nat) v,us[j]?=some v->∃x,xs[j]?=some x/\WI x v)->WD xs us
 |[],[],_,_=>.nil
 |[],_::_,h,_=>by simp at h
 |_::_,[],h,_=>by simp at h
 |x::xs,u::us,h,g=>by
  obtain⟨y,e,r⟩:=g 0 u rfl;have b:x=y:=by simpa using e
  subst b;exact .cons r (O9 (by simpa using h) fun j v a=>by simpa using g (j+ 1) v (by simpa using a))
structure BE(mg:Wd):Prop where
 sum:mg "sum"=none
 sorted:mg "sorted"=none
section
variable{X:Cx}{pos pos':Pos}{o i value:Ws}{td ty tv:TE}
def FW:TE:=fun _ H Q=>∀p G,H p=none->Ww H G->G p=some (.dK [])->Q (.ref p) G
theorem Qq:PE X (.Dict [] [] pos) FW:=fun pins s σ H Q I h=>Zk pins s σ H Q I fun p a=>h p _ a (TZ a) Jn
def KP(td ty tv:TE):TS:=fun D σ H=>tv σ H fun v H1=>td σ H1 fun x H2=>ty σ H2 fun y H3=>∃a n kvs,x= .ref a/\y= .int n/\H3 a=some (.dK kvs)/\kvs.length < sizeLine/\∀G,Jh a H3 G->G a=some (.dK (Md kvs (.inl n) v))->D.nx σ G
theorem P4(hu:X.A.units+ 1 < cLine)(ho:PE X o td)(hi:PE X i ty)(hv:PE X value tv)(hs:swapsWith value (some (.Subscript o i pos')) pos.line X.env=pure false):
  PS X (.Assign [.Subscript o i pos'] value pos) (KP td ty tv):=by
 intro pins s σ H D I h;refine wpAny_Assign_Subscript (WZ (hv pins s σ H _ I h) fun r s1 ⟨v,H1,w,b,e⟩=>WZ (ho pins s1 σ H1 _ w e) fun u s2 ⟨x,H2,q,rx,d⟩=>WZ (hi pins s2 σ H2 _ q d) fun iv s3 ⟨y,H3,p,ry,a,n,kvs,ex,g,j,f,c⟩=>?_) hs;subst ex g;obtain rfl:u=Value.ref a:=rx;exact Qz hu p (Da.k (k:=Sum.inl n) j f) ry b fun z l=>⟨σ,_,l,c _ Jh.upd Jn⟩
def A7:R2:=fun y x H Q=>∃a n kvs,y= .int n/\x= .ref a/\H a=some (.dK kvs)/\Q (.bl (!(J5 kvs (Sum.inl n)).isSome)) H
theorem OU(hu:X.A.units+ 1 < cLine):JA X (compareOp .NotIn) A7:=by
 intro pins s σ H y x v u Q I ry rx h;obtain⟨a,n,kvs,rfl,rfl,b,q⟩:=h;cases rx;exact OH hu I (TY.k (k:=Sum.inl n) b) ry fun s' c=>⟨.bl _,H,c,rfl,q⟩
def Fx:List V->Hp->VK->Prop:=fun xs H Q=>∃a kvs,xs=[V.ref a]/\H a=some (.dK kvs)/\Q (.int kvs.length) H
theorem yA:WW X (.builtin "len") Fx:=mG
end
end L2
set_option maxHeartbeats 4000000
namespace L2
open PySem PySem.Spec PyProof.Rows
end L2
namespace L2
open PySem PySem.Spec PyProof.Rows PySem.W
section
variable{α β:Type}{N:Nat}{lt:Nat->Nat->Bool}
def Mc(N:Nat)(lt:Nat->Nat->Bool):KasT α->(α->Prop)->Prop
 | .ret a,Q=>Q a
 | .ask i j k,Q=>i < N/\j < N/\Mc N lt (k (lt i j)) Q
theorem Mc.bind{f:α->KasT β}{Q:β->Prop}:∀{t:KasT α},Mc N lt t (fun a=>Mc N lt (f a) Q)->Mc N lt (t.bind f) Q
 | .ret _,h=>h
 | .ask i j k,h=>⟨h.1,h.2.1,Mc.bind (t:=k (lt i j)) h.2.2⟩
theorem Mc.wp{cmp:Nat->Nat->(Bool->Shared->Prop)->Shared->Prop}{s:Wi}{R:α->Shared->Prop}{Q:α->Prop}(hc:∀i j C,i < N->j < N->C (lt i j) s->cmp i j C s)(hq:∀a,Q a->R a s):∀{t:KasT α},Mc N lt t Q->t.kasWp cmp R s
 | .ret a,h=>hq a h
 | .ask i j k,h=>hc i j _ h.1 h.2.1 (Mc.wp hc hq (t:=k (lt i j)) h.2.2)
end
section
variable{O:KeyOrd}{key:Nat->O.α}{N:Nat}{p:Array Nat}
def SK(O:KeyOrd)(key:Nat->O.α)(p:Array Nat)(i:Nat):O.α:=key (p.getD i 0)
def Dj(O:KeyOrd)(key:Nat->O.α)(p:Array Nat)(k:Nat):Prop:=∀i j,i <=j->j < k->O.kle (SK O key p i) (SK O key p j)
def BH(O:KeyOrd)(key:Nat->O.α)(p:Array Nat)(k:Nat):Prop:=∀i j,i <=j->j < k->O.kle (SK O key p j) (SK O key p i)
theorem A1{q:Array Nat}{i j:Nat}(h:p[i]?=q[j]?):SK O key p i=SK O key q j:=by
 unfold SK;rw[Vk,Vk,h]
theorem OW{src d:Nat}(hs:src < p.size)(hd:d <=src)(k:Nat):
  SK O key (bubble p src d) k=if k=src - d then SK O key p src else if src - d < k/\k <=src then SK O key p (k - 1) else SK O key p k:=by
 have e:=getElem?_bubble hs d hd k
 by_cases h1:k=src - d
 .rw[Y3 h1]at e ⊢;exact A1 e
 .rw[Y2 h1]at e ⊢
  by_cases h2:src - d < k/\k <=src
  .rw[Y3 h2]at e ⊢;exact A1 e
  .rw[Y2 h2]at e ⊢;exact A1 e
theorem La{i j:Nat}(hj:j <=p.size)(k:Nat):SK O key (kas_rev p i j) k=if i <=k/\k < j then SK O key p (i+ j - 1 - k) else SK O key p k:=by
 unfold kas_rev;have e:=getElem?_mirror_all (i:=i) hj k
 by_cases h1:i <=k/\k < j
 .rw[Y3 h1]at e ⊢;exact A1 e
 .rw[Y2 h1]at e ⊢;exact A1 e
theorem B8{i j:Nat}(hj:j <=p.size)(heq:∀k,i <=k->k < j->SK O key p k=SK O key p (j - 1))(k:Nat):SK O key (kas_rev p i j) k=SK O key p k:=by
 rw[La hj]
 split
 .rw[heq _ (by lia) (by lia),heq k (by lia) (by lia)]
 .rfl
def J8(N:Nat)(p:Array Nat):Prop:=p.Perm (List.toArray (List.range N))
theorem J8.size(h:J8 N p):p.size=N:=by have:=Array.Perm.size_eq h;simpa using this
theorem J8.lt(h:J8 N p)(h0:0 < N)(i:Nat):p.getD i 0 < N:=by
 by_cases hi:i < p.size
 .have e:p.getD i 0=p[i]:=by simp[Array.getD,hi]
  rw[e];have a:p[i]∈(List.toArray (List.range N)).toList:=(Ux.mp h).mem_iff.mp (by simp);simpa using a
 .have e:p.getD i 0=0:=by simp[Array.getD,hi]
  rw[e];exact h0
theorem J8.rev(h:J8 N p)(i j:Nat):J8 N (kas_rev p i j):=(mirror_perm _ _ _ _).trans h
theorem J8.bub(h:J8 N p)(i j:Nat):J8 N (bubble p i j):=(bubble_perm _ _ _).trans h
abbrev Ni(O:KeyOrd)(key:Nat->O.α)(i j:Nat):Bool:=O.blt (key i) (key j)
theorem Ij(h0:0 < N)(hp:J8 N p){Q:Nat->Prop}:∀ (f n:Nat),1 <=n->Dj O key p n->(∀m,n <=m->m <=n+ f->Dj O key p m->(m=n+ f\/O.klt (SK O key p m) (SK O key p (m - 1)))->Q m)->Mc N (Ni O key) (kas_asc p f n) Q
 |0,n,_,hs,h=>h n (Y5 _) (Y5 _) hs (.inl rfl)
 |f+ 1,n,h1,hs,h=>by
  refine⟨hp.lt h0 _,hp.lt h0 _,?_⟩;cases hl:Ni O key (p.getD n 0) (p.getD (n - 1) 0) with
  |true=>
   simp only[if_true];exact h n (Y5 _) (by lia) hs (.inr hl)
  |false=>
   simp only[Bool.false_eq_true,if_false];refine Ij h0 hp f (n+ 1) (by lia) (fun i j hij hj=>?_) fun m a b c d=>h m (by lia) (by lia) c (d.elim (fun e=>.inl (by lia)) .inr)
   by_cases hjx:j < n
   .exact hs i j hij hjx
   .obtain rfl:j=n:=by lia
    by_cases hi':i=j
    .subst hi';exact Xp _
    .exact Ur (hs i (j - 1) (by lia) (by lia)) hl
theorem C8(h0:0 < N){Q:Array Nat×Nat×Nat->Prop}:∀ (f:Nat) (p:Array Nat) (n q:Nat),J8 N p->1 <=n->n+ f <=N->BH O key p n->q+ 1 <=n->(∀i,n - (q+ 1) <=i->i < n->SK O key p i=SK O key p (n - 1))->
  (∀p' m q',J8 N p'->n <=m->m <=n+ f->BH O key p' m->q'+ 1 <=m->(∀i,m - (q'+ 1) <=i->i < m->SK O key p' i=SK O key p' (m - 1))->Q (p',m,q'))->Mc N (Ni O key) (kas_desc f p n q) Q
 |0,p,n,q,hp,h1,hn,hs,hq,he,h=>h p n q hp (Y5 _) (Y5 _) hs hq he
 |f+ 1,p,n,q,hp,h1,hn,hs,hq,he,h=>by
  have hsz:n <=p.size:=by rw[hp.size];lia
  refine⟨hp.lt h0 _,hp.lt h0 _,?_⟩;cases hl:Ni O key (p.getD n 0) (p.getD (n - 1) 0) with
  |true=>
   simp only[if_true];have l:∀xs:Array Nat,(∀k,SK O key xs k=SK O key p k)->BH O key xs (n+ 1):=by
    intro xs s i j o v;rw[s,s]
    by_cases hjx:j < n
    .exact hs i j o hjx
    .obtain rfl:j=n:=by lia
     by_cases hi':i=j
     .subst hi';exact Xp _
     .exact Ur (Uf (show O.klt (SK O key p j) (SK O key p (j - 1)) from hl)) (hs i (j - 1) (by lia) (by lia))
   by_cases hneq:q > 0
   .rw[Y3 hneq];exact C8 h0 f _ (n+ 1) 0 (hp.rev _ _) (by lia) (by lia) (l _ (B8 hsz he)) (by lia) (fun i h1 h2=>by congr 1;lia) fun p' m q' a b c d e g=>h p' m q' a (by lia) (by lia) d e g
   .rw[Y2 hneq];exact C8 h0 f _ (n+ 1) 0 hp (by lia) (by lia) (l _ fun _=>rfl) (by lia) (fun i h1 h2=>by congr 1;lia) fun p' m q' a b c d e g=>h p' m q' a (by lia) (by lia) d e g
  |false=>
   simp only[Bool.false_eq_true,if_false];refine⟨hp.lt h0 _,hp.lt h0 _,?_⟩;cases hl2:Ni O key (p.getD (n - 1) 0) (p.getD n 0) with
   |true=>
    simp only[if_true];exact h p n q hp (Y5 _) (by lia) hs hq he
   |false=>
    simp only[Bool.false_eq_true,if_false];have r:SK O key p n=SK O key p (n - 1):=KeyOrd.kle_antisymm hl2 hl;refine C8 h0 f p (n+ 1) (q+ 1) hp (by lia) (by lia) (fun i j o v=>?_) (by lia) (fun i h1 h2=>?_) fun p' m q' a b c d e g=>h p' m q' a (by lia) (by lia) d e g
    .by_cases hjx:j < n
     .exact hs i j o hjx
     .obtain rfl:j=n:=by lia
      by_cases hi':i=j
      .subst hi';exact Xp _
      .rw[r];exact hs i (j - 1) (by lia) (by lia)
    .rw[show n+ 1 - 1=n by lia]
     by_cases hix:i=n
     .subst hix;rfl
     .rw[r];exact he i (by lia) (by lia)
theorem Qh(h0:0 < N)(hp:J8 N p){n nrem:Nat}{Q:Nat×Array Nat->Prop}(h1:1 <=n)(hnn:n <=nrem)(hN:nrem <=N)(hs:BH O key p n)
  (h:∀m p',J8 N p'->1 <=m->m <=nrem->Dj O key p' m->Q (m,p')):Mc N (Ni O key) (kas_tail3 n nrem p) Q:=by
 unfold kas_tail3;have d:n <=p.size:=by rw[hp.size];lia
 refine Mc.bind (Ij h0 (hp.rev 0 n) _ _ h1 ?_ fun m a b c _=>h m _ (hp.rev 0 n) (by lia) (by lia) c);intro i j e f;rw[La d,La d,Y3 (by lia),Y3 (by lia)];exact hs _ _ (by lia) (by lia)
theorem OS(h0:0 < N)(hp:J8 N p){n nrem:Nat}{Q:Nat×Array Nat->Prop}(hnn:n+ 1 <=nrem)(hN:nrem <=N)(hs:BH O key p (n+ 1))
  (h:∀m p',J8 N p'->1 <=m->m <=nrem->Dj O key p' m->Q (m,p')):Mc N (Ni O key) (kas_descPart n nrem p) Q:=by
 unfold kas_descPart;refine Mc.bind (C8 h0 _ _ _ _ hp (by lia) (by lia) hs (by lia) (fun i h1 h2=>by congr 1;lia) fun p' m o a b c d e g=>?_);dsimp only;have f:m <=p'.size:=by rw[a.size];lia
 by_cases hq:o > 0
 .rw[Y3 hq];refine Qh h0 (a.rev _ _) (by lia) (by lia) hN ?_ h;intro i j l q;rw[B8 f g,B8 f g];exact d i j l q
 .rw[Y2 hq];exact Qh h0 a (by lia) (by lia) hN d h
theorem yO(h0:0 < N)(hp:J8 N p){nrem:Nat}{Q:Nat×Array Nat->Prop}(h1:1 <=nrem)(hN:nrem <=N)
  (h:∀m p',J8 N p'->1 <=m->m <=nrem->Dj O key p' m->Q (m,p')):Mc N (Ni O key) (kas_count nrem p) Q:=by
 unfold kas_count;refine Mc.bind (Ij h0 hp _ _ (Y5 1) (fun i j f l=>by obtain rfl:i=j:=(by lia);exact Xp _) fun n d s b g=>?_)
 by_cases hnn:n=nrem
 .rw[Y3 (by simpa using hnn)];exact h n p hp d (by lia) b
 .rw[Y2 (by simpa using hnn)];have e:O.klt (SK O key p n) (SK O key p (n - 1)):=g.resolve_left (by lia)
  by_cases hgt:n > 1
  .rw[Y3 hgt];refine⟨hp.lt h0 _,hp.lt h0 _,?_⟩;cases hrose:Ni O key (p.getD 0 0) (p.getD (n - 1) 0) with
   |true=>
    simp only[if_true];exact h n p hp d (by lia) b
   |false=>
    simp only[Bool.false_eq_true,if_false];have c:n <=p.size:=by rw[hp.size];lia
    have a:∀k,0 <=k->k < n->SK O key p k=SK O key p (n - 1):=by
     intro k _ o;have r:=b 0 k (by lia) o;have q:=b k (n - 1) (by lia) (by lia);exact KeyOrd.kle_antisymm q (Ur (show O.kle (SK O key p (n - 1)) (SK O key p 0) from hrose) r)
    refine OS h0 (hp.rev _ _) (by lia) hN ?_ h;intro i j f l;rw[B8 c a,B8 c a]
    by_cases hjn:j < n
    .rw[a i (by lia) (by lia),a j (by lia) hjn];exact Xp _
    .obtain rfl:j=n:=by lia
     by_cases hi':i=j
     .subst hi';exact Xp _
     .rw[a i (by lia) (by lia)];exact Uf e
  .rw[Y2 hgt];obtain rfl:n=1:=by lia
   refine OS h0 hp (by lia) hN ?_ h;intro i j f l
   by_cases hi':i=j
   .subst hi';exact Xp _
   .obtain rfl:i=0:=by lia
    obtain rfl:j=1:=by lia
    exact Uf e
theorem IR(h0:0 < N)(hp:J8 N p){k:Nat}(hs:Dj O key p k){Q:Nat->Prop}:∀ (f l r:Nat),l <=r->r <=k->r - l <=f->(∀i,i < l->O.kle (SK O key p i) (SK O key p k))->(∀i,r <=i->i < k->O.klt (SK O key p k) (SK O key p i))->
  (∀l,l <=k->(∀i,i < l->O.kle (SK O key p i) (SK O key p k))->(∀i,l <=i->i < k->O.klt (SK O key p k) (SK O key p i))->Q l)->Mc N (Ni O key) (kas_place p k f l r) Q
 |0,l,r,h1,h2,h3,hlo,hhi,h=>by
  obtain rfl:l=r:=by lia
  exact h l h2 hlo hhi
 |f+ 1,l,r,h1,h2,h3,hlo,hhi,h=>by
  unfold kas_place
  by_cases hge:l≥r
  .rw[Y3 hge];obtain rfl:l=r:=by lia
   exact h l h2 hlo hhi
  .rw[Y2 hge];refine⟨hp.lt h0 _,hp.lt h0 _,?_⟩;cases hl:Ni O key (p.getD k 0) (p.getD ((l+ r) / 2) 0) with
   |true=>
    simp only[if_true];refine IR h0 hp hs f _ _ (by lia) (by lia) (by lia) hlo (fun i a b=>?_) h;exact KeyOrd.klt_of_klt_of_kle (show O.klt (SK O key p k) (SK O key p ((l+ r) / 2)) from hl) (hs _ _ a b)
   |false=>
    simp only[Bool.false_eq_true,if_false];refine IR h0 hp hs f _ _ (by lia) (by lia) (by lia) (fun i a=>?_) hhi h;exact Ur (hs i ((l+ r) / 2) (by lia) (by lia)) (show O.kle (SK O key p ((l+ r) / 2)) (SK O key p k) from hl)
theorem Qy(h0:0 < N){Q:Array Nat->Prop}:∀ (f:Nat) (p:Array Nat) (k:Nat),J8 N p->k+ f <=N->Dj O key p k->(∀p',J8 N p'->Dj O key p' (k+ f)->Q p')->Mc N (Ni O key) (kas_bin f p k) Q
 |0,p,k,hp,hk,hs,h=>h p hp hs
 |f+ 1,p,k,hp,hk,hs,h=>by
  unfold kas_bin;refine Mc.bind (IR h0 hp hs k 0 k (by lia) (by lia) (by lia) (fun i hi=>by lia) (fun i a b=>by lia) fun l hl hlo hhi=>?_);refine Qy h0 f _ (k+ 1) (hp.bub _ _) (by lia) ?_ fun p' a b=>h p' a (by rw[show k+ (f+ 1)=k+ 1+ f by lia];exact b)
  have hks:k < p.size:=by rw[hp.size];lia
  intro i j c d;rw[OW hks (by lia),OW hks (by lia),show k - (k - l)=l by lia]
  repeat' split
  all_goals first
   |(exfalso;lia)
   |exact Xp _
   |exact hlo _ (by lia)
   |exact Uf (hhi _ (by lia) (by lia))
   |exact hs _ _ (by lia) (by lia)
theorem ZW(h0:0 < N){Q:Array Nat->Prop}(h:∀p,J8 N p->Dj O key p N->Q p):Mc N (Ni O key) (kas_sort N) Q:=by
 unfold kas_sort;refine Mc.bind (yO h0 (Array.Perm.refl _) h0 (Y5 _) fun m d c h1 f hs=>?_);dsimp only
 by_cases hlt:m < N
 .rw[Y3 hlt];have e:max m 1=m:=by lia
  rw[e];refine Qy h0 _ _ _ c (by lia) hs fun p2 a b=>h p2 a ?_
  rwa [show m+ (N - m)=N by lia]at b
 .rw[Y2 hlt];obtain rfl:m=N:=by lia
  exact h d c hs
end
section
variable{prog:Wh}{w:Wl}{A:Wk}{E:We}{s:Wi}{O:KeyOrd}{key:Nat->O.α}{κ:SortKind}{vs:Wq}
theorem Pf(vs:Wq):(List.range vs.length).map (fun i=>vs.getD i Value.none)=vs:=by
 apply List.ext_getElem?;intro i;rw[Yc]
 by_cases h:i < vs.length
 .rw[XD h,Y6 h];simp[h]
 .rw[Xt (by simpa using h),Xt (by simpa using h)];rfl
structure MG(prog:Wh)(w:Wl)(h:Wr)(O:KeyOrd)(key:Nat->O.α)(κ:SortKind)(vs:Wq):Prop where
 kind:∀ (A:Wk) (s:Wi) (Q:SortKind->Shared->Prop),(∀b o,h.get? b=some o->s.heap.get? b=some o)->2 <=vs.length->Q κ s->wpAny (model prog w) A (keyKind' vs.toArray) Q (fun _ _=>False) s
 cmp:∀ (A:Wk) (s:Wi) (i j:Nat) (C:Bool->Shared->Prop),(∀b o,h.get? b=some o->s.heap.get? b=some o)->i < vs.length->j < vs.length->C (Ni O key i j) s->kas_ask prog w A κ vs i j C s
end
def DN(a b:Int×Int):Bool:=decide (a.1 < b.1)||(decide (a.1=b.1) && decide (a.2 < b.2))
theorem RX{a b:Int×Int}:DN a b=true↔a.1 < b.1\/a.1=b.1/\a.2 < b.2:=by unfold DN;simp
theorem Az{a b:Int×Int}:DN a b=false↔¬(a.1 < b.1\/a.1=b.1/\a.2 < b.2):=by rw[<-RX];cases DN a b <;> simp
def AF:KeyOrd where
 α:=Int×Int
 blt:=DN
 irrefl a:=by rw[Az];lia
 trans a b c:=by rw[RX,RX,RX];lia
 negTrans a b c:=by rw[RX,RX,RX];lia
 total a b:=by
  rw[Az,Az];intro h1 h2;exact UB (by lia) (by lia)
section
variable{prog:Wh}{w:Wl}{A:Wk}{E:We}{s:Wi}
theorem jW{a b:Int}{t u:Tok}{Q:We}(h:Q (.bool (decide (a < b))) s):wpAny (model prog w) A (richCompare .Lt (.int a t) (.int b u)) Q E s:=
 CmpOf.ints_lt (P := fun i v => (i = 0 /\ v = .int a t) \/ (i ≠ 0 /\ v = .int b u)) (fun i => if i = 0 then a else b) (by
  rintro i v (⟨rfl,rfl⟩|⟨h,rfl⟩)
  .exact⟨t,rfl⟩
  .exact ⟨u, by rw [Y2 h]⟩) 0 1 _ _ s Q E (.inl ⟨rfl, rfl⟩) (.inr ⟨by decide, rfl⟩) h
theorem AW{b:Bool}{x y:Int}{t u:Tok}{Q:Bool->Shared->Prop}(h:Q (decide (x < y)) s):wpAny (model prog w) A (oneLt' b (.int x t) (.int y u)) Q E s:=by
 cases b with
 |true=>exact oneLt_int h
 |false=>exact kat_one _ _ (show wpAny (model prog w) A (richCompare .Lt _ _) (W.BoolBack Q) E s from jW h)
def BD(h:Wr)(v:Wn)(p:Int×Int):Prop:=∃a t u,v= .ref a/\IsTup h a #[.int p.1 t,.int p.2 u]
theorem OO:∀{vs:Wq} {c:List (Int×Int)} {h:Wr},(∀ (i:Nat) v p,vs[i]?=some v->c[i]?=some p->BD h v p)->vs.length=c.length->∃fs,KatTups h vs fs/\fs.length=vs.length/\∀f∈fs,∃n t,f=Value.int n t
 |[],c,h,_,e=>⟨[],trivial,rfl,fun f hf=>by simp at hf⟩
 |v::vs,[],h,_,e=>by simp at e
 |v::vs,p::c,h,hp,e=>by
  obtain⟨fs,k1,k2,k3⟩:=OO (vs:=vs) (c:=c) (h:=h) (fun i v p a b=>hp (i+ 1) v p (by simpa using a) (by simpa using b)) (by simpa using e);obtain⟨a,t,u,rfl,o,d,j,n,g⟩:=hp 0 v p rfl rfl;refine⟨Value.int p.1 t::fs,KatTups.cons d j g rfl k1,by simp[k2],fun f hf=>?_⟩;rcases Yp.mp hf with rfl|hf
  .exact⟨_,_,rfl⟩
  .exact k3 f hf
theorem SG{vs:Wq}{c:List (Int×Int)}{h:Wr}(hp:∀ (i:Nat) v p,vs[i]?=some v->c[i]?=some p->BD h v p)(hl:vs.length=c.length):
  MG prog w h AF (fun i=>c.getD i (0,0)) (tuples' (Value.type "int" !=Value.type "tuple")) vs where
 kind A s Q hk h2 hQ:=by
  have l:∀ (i:Nat) v p,vs[i]?=some v->c[i]?=some p->BD s.heap v p:=fun i v p e1 e2=>by
   obtain⟨a,t,u,e,o,d,z,n,f⟩:=hp i v p e1 e2;exact⟨a,t,u,e,o,hk _ _ d,z,n,f⟩
  obtain⟨fs,k1,k2,k3⟩:=OO l hl;refine kat_kind (T:=Value.type "int") k1 (by lia) (fun v hv=>?_) (by decide) hQ;obtain⟨n,t,rfl⟩:=k3 v hv;exact Looks.of_pure rfl
 cmp A s i j C hk hi hj g:=by
  have gi:vs[i]?=some (vs.getD i Value.none):=by rw[Y6 hi];simp[hi]
  have gj:vs[j]?=some (vs.getD j Value.none):=by rw[Y6 hj];simp[hj]
  have ci:c[i]?=some (c.getD i (0,0)):=by rw[Y6 (by lia)];simp[show i < c.length by lia]
  have cj:c[j]?=some (c.getD j (0,0)):=by rw[Y6 (by lia)];simp[show j < c.length by lia]
  obtain⟨a,t,u,e,o,d,z,n,f⟩:=hp i _ _ gi ci;obtain⟨a',t',u',e',o',q,hc',n',r⟩:=hp j _ _ gj cj;unfold kas_ask;rw[e,e']
  revert g
  generalize hx:c.getD i (0,0)=x at*;generalize hy:c.getD j (0,0)=y at*;intro g;have b:C (DN x y) s:=by
   have:Ni AF (fun i=>c.getD i (0,0)) i j=DN x y:=by show DN (c.getD i (0,0)) (c.getD j (0,0))=_;rw[hx,hy]
   rwa [this]at g
  refine kat_lt (hk _ _ d) f (hk _ _ q) r ?_;show KatLex prog w A _ _ C [(Value.int x.1 t,Value.int y.1 t'),(Value.int x.2 u,Value.int y.2 u')] 0 s;refine Vg (Uq ?_)
  by_cases h1:x.1=y.1
  .rw[show(x.1==y.1)=true by simpa using h1];refine VB (Vg (Uq ?_))
   by_cases h2:x.2=y.2
   .rw[show(x.2==y.2)=true by simpa using h2];refine VB (kat_nil ?_);have:DN x y=false:=by rw[Az];lia
    rw[this]at b;exact b
   .rw[show(x.2==y.2)=false by simpa using h2];refine kat_no (AW ?_);have:DN x y=decide (x.2 < y.2):=by unfold DN;simp[h1]
    rwa [this]at b
  .rw[show(x.1==y.1)=false by simpa using h1];refine kat_no (AW ?_);have:DN x y=decide (x.1 < y.1):=by unfold DN;simp[h1]
   rwa [this]at b
end
end L2
namespace L2
open PySem PySem.Spec PyProof.Rows
section
variable{X:Cx}{pins:Wg}{σ:St}{H:Hp}{s:Wi}{h':Wr}
theorem Wx.turnL{t':Nat}{wr:List Addr}(I:Wx X pins σ H s)(hf:∀b∈wr,M6 X pins H b)(k:∀b o,b∉wr->s.heap.get? b=some o->h'.get? b=some o):Wx X pins σ H {s with heap:=h',toks:=t'}:=by
 have f:∀b u,H b=some u->b∉wr:=fun b u e z=>by rw[(hf b z).1]at e;cases e
 refine I.step (g':=s.gens) (d':=s.drawn) (ch:=wr) (fun b d=>⟨(hf b d).2.2.2.1,(hf b d).2.1,(hf b d).2.2.2.2.1,(hf b d).2.2.2.2.2⟩) (fun b o _ _ a e _=>k b o a e) (fun b o _ _ a e _=>⟨o.slots,k b o a e⟩) (fun _ _ _ _ n=>n)
  (fun b o a e=>⟨o,k b o a e⟩) (fun _ _ e=>e) (fun _ _ _ e=>e) (fun b ps e=>⟨#[],by rw[e];simp⟩) (fun m h=>?_) (fun b u e=>?_) I.bare
 .obtain⟨o,es,ep,g,r⟩:=h;exact⟨o,es,ep,k _ o (fun z=>(hf _ z).2.1 rfl) g,r⟩
 .refine(I.hok b u e).stay (fun c v a q=>k c v ?_ q) (fun _ q=>q) fun _ _ q=>q
  rcases a with z|z
  .rw[z];exact f b u e
  .exact f c _ z
theorem Wx.turnNew{t':Nat}{wr:List Addr}{a:Wo}{o:HO}(I:Wx X pins σ H s)(hf:∀b∈wr,M6 X pins H b)(k:∀b o,b∉wr->s.heap.get? b=some o->h'.get? b=some o)(hp:s.heap.objs.size <=a)
  (new:WO X.prog X.w (upd H a o) h' a o):Wx X pins σ (upd H a o) {s with heap:=h',toks:=t'}:=by
 have g:H a=none:=I.hok.fresh hp;have h:∀b u,H b=some u->b∉wr:=fun b u e z=>by rw[(hf b z).1]at e;cases e
 refine I.step (g':=s.gens) (d':=s.drawn) (ch:=wr) (fun b f=>⟨(hf b f).2.2.2.1,(hf b f).2.1,(hf b f).2.2.2.2.1,(hf b f).2.2.2.2.2⟩) (fun b o _ _ d e _=>k b o d e) (fun b o _ _ d e _=>⟨o.slots,k b o d e⟩)
  (fun b o _ e n=>by rw[WM (Yr (Yx (Yk e) hp))];exact n)
  (fun b o d e=>⟨o,k b o d e⟩) (fun b xs e=>by rw[WM (No e g)];exact e) (fun b o u e=>by rw[WM (No e g)];exact e) (fun b ps e=>⟨#[],by rw[WM (No e g),e];simp⟩) (fun m j=>?_) (fun b u e=>?_) I.bare
 .obtain⟨o,es,ep,i,r⟩:=j;exact⟨o,es,ep,k _ o (fun z=>(hf _ z).2.1 rfl) i,r⟩
 .by_cases f:b=a
  .subst f;rw[Jn]at e;cases e;exact new
  .rw[WM f]at e;refine(I.hok b u e).stay (fun c v d q=>k c v ?_ q) (fun c q=>by rw[WM (No q g)];exact q) fun c xs q=>by rw[WM (No q g)];exact q
   rcases d with z|z
   .rw[z];exact h b u e
   .exact h c _ z
end
theorem jM{h:Wr}{a b:Wo}{o o':Obj}(e:h.get? a=some o)(e':h.get? b=some o')(hc:o.cls≠o'.cls):a≠b:=fun z=>by
 subst z;rw[e]at e';cases e';exact hc rfl
structure CM(mg:Wd):Prop where
 enumerate:mg "enumerate"=none
 zip:mg "zip"=none
def CJ(lo st:Int)(n:Nat):It:=⟨fun i _=>i < n,fun i H x H'=>H'=H/\x= .int (lo+ i*st),fun i _=>n <=i⟩
theorem j8{P:Wh}{w:Wl}{K:PySem.W.Frag}{tg:Ws}(it:Wo)(lo st:Int)(n:Nat):R3 P w K tg (CJ lo st n) [it] it (fun i h=>IsRangeIter h it (lo+ (i:Nat)*st) ((n:Int) - (i:Nat)) st) where
 mem:=by simp
 obj:=fun i h hs b a=>by
  have e:b=it:=by simpa using a
  subst e;exact ⟨_, hs, fun v z => by
   have z' : Data.fields _ = Data.cell v := z;cases z'⟩
 keep:=fun i h h' hs k=>k it (by simp) _ hs
 item:=by
  intro X l f p j i pins s σ H E I c hs g;subst l f p;obtain⟨f0,f1,f2,f3,r,q⟩:=c it (by simp);have W:=Walks.range (prog:=X.prog) (w:=X.w) (I.ok.hd j) it lo st n;refine W.item i s _ _ g hs fun v h' tk hv d kk=>?_
  obtain⟨t,rfl⟩:=hv;have I1:Wx X pins σ H {s with heap:=h',toks:=tk}:=I.turned (fun b o a e=>kk b o (by simpa using a) e) f0 f1 f3 r q;exact⟨_,rfl,ES (s:={s with heap:=h',toks:=tk}) (n:="range_iterator") d rfl rfl (by decide) ⟨.int (lo+ i*st),H,I1,⟨t,rfl⟩,⟨rfl,rfl⟩,d,fun b a=>(c b a).1⟩⟩
 done:=by
  intro X l f p j i pins s σ H E I c hs g;subst l f p;obtain⟨f0,f1,f2,f3,r,q⟩:=c it (by simp);exact wpAny_pyNext_range_end (I.ok.hd j) hs (by have:n <=i:=g;lia) fun h' eb=>⟨rfl,I.turned (t':=s.toks) (fun b o a e=>eb b o a e) f0 f1 f3 r q⟩
 self:=fun _ _ _ _ _ st h=>wpAny_pyIter_rangeiter st h
def R9(i j c:Int):Nat:=(Builtin.Range.rangeSize i j c).toNat
section
variable{X:Cx}{tg:Ws}
def Fy(ta:TA):TI:=fun σ H R=>ta σ H fun vs H1=>∃i j c:Int,vs=[.int i,.int j,.int c]/\(-(2 ^ 30) <=i/\i < 2 ^ 30/\ -(2 ^ 30) <=j/\j < 2 ^ 30/\0 < c/\c < 2 ^ 20)/\R (CJ i c (R9 i j c)) H1
theorem v1{i j c:Int}(hc:0 < c):0 <=Builtin.Range.rangeSize i j c:=by
 unfold Builtin.Range.rangeSize;rw[Y3 hc]
 split
 .have:=Int.ediv_nonneg (show 0 <=j - i - 1 by lia) (Wa hc);lia
 .exact YJ _
theorem nU{i j c:Int}(hc:0 < c):Builtin.Range.rangeSize i j c <=(j - i).toNat:=by
 unfold Builtin.Range.rangeSize;rw[Y3 hc]
 split
 .have h1:(j - i - 1) / c <=j - i - 1:=Int.ediv_le_self _ (by lia)
  lia
 .lia
theorem tT{pins:Wg}{σ:St}{H:Hp}{s:Wi}{R:It->Hp->Prop}{E:We}{lo hi c:Int}{t u v:Tok}{tk:Nat}(I:Wx X pins σ H s)(h1: -(2 ^ 30) <=lo)(h2:lo < 2 ^ 30)(h3: -(2 ^ 30) <=hi)(h4:hi < 2 ^ 30)(h5:0 < c)(h6:c < 2 ^ 20)
  (q:R (CJ lo c (R9 lo hi c)) H):wpAny (model X.prog X.w) X.A (pyIter (.ref s.heap.objs.size)) (FK X pins σ tg R) E {s with heap:=s.heap.push {cls:=.type "range",data:=.fields #[.int lo t,.int hi u,.int c v]},toks:=tk}:=by
 have h:=v1 (i:=lo) (j:=hi) h5;have l:=nU (i:=lo) (j:=hi) h5;have hs:Builtin.Range.small lo hi c=true:=by
  unfold Builtin.Range.small;simp only[Builtin.Range.rangeFitsLong,YR,V5,Y9,UG,Y3 (show c > 0 from h5)]
  lia
 refine wpAny_pyIter_range (IsRange.new ..) hs ?_;have a:Wx X pins σ H {s with heap:=s.heap.push {cls:=.type "range",data:=.fields #[.int lo t,.int hi u,.int c v]},toks:=tk}:=I.kept fun b o e=>Y7 _ e
 refine ⟨(s.heap.push { cls := .type "range", data := .fields #[.int lo t, .int hi u, .int c v] }).objs.size, [(s.heap.push { cls := .type "range", data := .fields #[.int lo t, .int hi u, .int c v] }).objs.size], _, _, H, rfl,
  a.kept (t' := tk) fun b o e => Y7 _ e, j8 _ lo c (R9 lo hi c), ?_, fun b d => ?_, q⟩
 .have g:lo+ ((0:Nat):Int)*c=lo:=by simp
  have f:((R9 lo hi c:Nat):Int) - ((0:Nat):Int)=Builtin.Range.rangeSize lo hi c:=by unfold R9;lia
  show IsRangeIter _ _ (lo+ ((0:Nat):Int)*c) (((R9 lo hi c:Nat):Int) - ((0:Nat):Int)) c;rw[g,f];exact Yl _ rfl
 .have e:b=(s.heap.push {cls:=.type "range",data:=.fields #[.int lo t,.int hi u,.int c v]}).objs.size:=by simpa using d
  subst e;exact a.fpOk (Y5 _) (a.hok.fresh (Y5 _))
theorem uF{a b c:Ws}{ta:TA}{p pos:Pos}(hg:Gl X "range")(hm:X.mg "range"=none)(ha:PA X [a,b,c] ta)(hs:starEach [a,b,c] X.env=[(false,eval a X.env),(false,eval b X.env),(false,eval c X.env)]:=by rfl)(hs2:starEach [b,c] X.env=[(false,eval b X.env),(false,eval c X.env)]:=by rfl):
  PI X tg (.Call (.Name "range" p) [a,b,c] [] pos) (Fy ta):=by
 intro pins s σ H R I h;refine Call_ (RM I hg hm boot_range (XH (WZ (ha pos pins s σ H _ I h) fun us s1 ⟨vs,H1,w,f,d⟩=>?_) (by rw[hs,hs2]) (by rw[hs2];rfl)));obtain⟨i,j,k,e,⟨d,v,o,n,l,g⟩,q⟩:=d;subst e;cases f with
 |cons r rr=>
  cases rr with
  |cons r' rr=>
   cases rr with
   |cons r'' rr=>
    cases rr;obtain⟨t,rfl⟩:=r;obtain⟨t',rfl⟩:=r';obtain⟨z,rfl⟩:=r'';exact call_range_3 (by lia) (tT w d v o n l g q) (Or.inl (VR (by lia)))
end
theorem ZY{lo st:Int}{n:Nat}{g:TG}{tb:TS}{D:T5}{σ:St}{H:Hp}(Pv:Nat->St->Hp->Prop)(h0:Pv 0 σ H)
  (hs:∀i σ H,i < n->Pv i σ H->g (.int (lo+ i*st)) σ H fun σ2 H2=>tb {D with nx:=Pv (i+ 1),ct:=Pv (i+ 1),bk:=D.nx} σ2 H2) (hd:∀σ H,Pv n σ H->D.nx σ H):BP g tb D σ (CJ lo st n) H:=by
 refine⟨fun i m σ H=>m=n - i/\i <=n/\Pv i σ H,⟨n,by simp,Yy _,h0⟩,?_⟩;rintro i m σ H ⟨rfl,hi,p⟩
 by_cases hlt:i < n
 .refine .inr ⟨hlt,Pv (i+ 1),fun σ' H' a=>⟨n - (i+ 1),by lia,rfl,hlt,a⟩,fun x H' y=>?_⟩;obtain⟨e,y⟩:=y;subst e y;exact hs i σ _ hlt p
 .have e:i=n:=by lia
  subst e;exact .inl ⟨Y5 _,hd σ H p⟩
end L2
namespace L2
open PySem PySem.Spec PyProof.Rows
open Sem (wp)
open AutoSeq1 (wpAny_loadPart')
section
variable{prog:Wh}{w:Wl}{A:Wk}{E:We}{s:Wi}
theorem ZU{T newId:String}{self:Wn}{rest:Wq}{kw:List (Str×Value)}(hl:typeLookup (.type T) "__init__"=pure (some (.builtin "object.__init__")))
  (hm:Bind.madeBy (.type T)=pure (some newId)) (hne:(some newId !=some "object.__new__")=true):
  Meets (Builtin.«object.__init__» ⟨self::rest,kw⟩) (fun _ R s=>s.TypeIs self T/\R (.ok (.ret .none)) s):=by
 refine Meets.of_wp fun prog w A R s ⟨c,b⟩=>?_
 cases rest with
 |nil=>
  cases kw with
  |nil=>exact Ye ⟨_,rfl,b⟩
  |cons k kw=>(repeat (any_goals (first|assumption|wp_step)));exact⟨_,rfl,b⟩
 |cons a rest=>(repeat (any_goals (first|assumption|wp_step)));exact⟨_,rfl,b⟩
theorem nY{T newId:String}{Bn:Builtin}{args:Wq}{kw:List (Str×Value)}{S:_root_.PySem.Spec}{Q:We}(ft:TypeCalled T newId "object.__init__")(hne:(some newId !=some "object.__new__")=true)
  (hct:checkTypeCall T ⟨args,kw⟩=pure ()) (hcn:checkBuiltinCall newId ⟨.type T::args,kw⟩=pure ()) (hok:∀obj,argsOk "object.__init__" ⟨obj::args,kw⟩) (entryN:entryFor table newId=some Bn) (g:Meets (Bn ⟨.type T::args,kw⟩) S)
  (h:S A.in1 (wants (fun obj s₁=>s₁.TypeIs obj T/\Q obj s₁) E) s):wpAny (model prog w) A (call (.type T) args kw) Q E s:=by
 obtain⟨c,tl,o⟩:=ft.mro;have i:=ft.made;have l:=ft.sub;refine VZ (codeAny_of_tree ?_);show wpAny _ _ (callAny (.type T) _) _ _ _;refine Ye ⟨Code.quiet_builtin _ (by decide +kernel),codeAny_builtin F.entry_type_call ?_⟩;rw[Around.under_plain (weight_type_call_type T args kw) (units_type_call_type T args kw)];have h1:=ft.notType;have h2:=ft.canCreate
 repeat (any_goals (first|assumption|wp_step))
 refine Uk (codeAny_call_builtin ft.plain entryN (wpAny_of_eq hcn (g prog w A.in1 _ s h))) fun r s₁ b=>?_
 cases r with
 |error e=>exact b
 |ok fl=>
  cases fl with
  |ret obj=>
   obtain⟨f,n⟩:=(show s₁.TypeIs obj T/\Q obj s₁ from b);have q:=ft.init.lookup;have v:=ft.init.bind obj
   repeat (any_goals (first|assumption|wp_step))
   refine Uk (codeAny_call_builtin ft.init.plain F.entry_object_init (ft.init.check _ _ _ _ _ _ _ _ f (hok obj) (ZU ft.init.lookup ft.made hne prog w A.in1 (wants (fun r d=>r= .none/\Q obj d) E) s₁ ⟨f,rfl,n⟩))) fun j d a=>?_
   cases j with
   |error e=>exact a
   |ok fl₂=>
    cases fl₂ with
    |ret r=>
     obtain⟨rfl,p⟩:=a
     repeat (any_goals (first|assumption|wp_step))
    |_=>exact a.elim
  |_=>exact b.elim
end
theorem Zo(l:Wo)(items:Array Value)(n:Nat)(dct:Option Addr)(sl:Array (Option Value))(c:Int)(t:Tok)(hc:Builtin.SmallTypes.fitsIndex c=true):
  Meets (Builtin.«enumerate.__new__» ⟨[.type "enumerate", .ref l], [("start", .int c t)]⟩) (fun _ R s => s.heap.get? l = some { cls := .type "list", dict := dct, data := .seq items n, slots := sl } /\
   R (.ok (.ret (.ref (s.heap.push {cls:=.type "list_iterator",data:=.fields #[.ref l,.int 0 0]}).objs.size)))
    { s with heap := (s.heap.push { cls := .type "list_iterator", data := .fields #[.ref l, .int 0 0] }).push { cls := .type "enumerate", data := .fields #[.none, .bool false, .ref s.heap.objs.size, rawInt c, .none, .none] } }) :=
 .of_wp fun prog w A R s h=>by
  obtain⟨i,g,d,tk,e⟩:=s;obtain⟨a,h⟩:=h;have f:=sub_enumerate;have b:Heap.IsList (Shared.heap ⟨i,g,d,tk,e⟩) l items:=⟨_,a,rfl,n,rfl⟩
  wp_walk using Xx a
  refine wpAny_stack_any fun st=>Ye ?_
  split
  .rename_i c' _ _ _ _ _
   cases (c'==Value.type "enumerate")
   .wp_walk using Xx a,XR b
    exact⟨_,rfl,h⟩
   .wp_walk using Xx a,XR b
    exact⟨_,rfl,h⟩
  .wp_walk using Xx a,XR b
   exact⟨_,rfl,h⟩
section
variable{prog:Wh}{w:Wl}{A:Wk}{E:We}{s:Wi}
theorem x9(a b:Wn):checkTypeCall "enumerate" ⟨[a],[("start",b)]⟩=pure ():=by kernel_rfl
theorem y8(a b:Wn):checkBuiltinCall "enumerate.__new__" ⟨[.type "enumerate",a],[("start",b)]⟩=pure ():=by kernel_rfl
theorem d3(o a b:Wn):argsOk "object.__init__" ⟨[o,a],[("start",b)]⟩:=by unfold argsOk;kernel_rfl
theorem QY{l:Wo}{items:Array Value}{c:Int}{t:Tok}{Q:We}(hL:s.heap.IsList l items)(hc:Builtin.SmallTypes.fitsIndex c=true)
  (h:∀h',IsEnum h' (s.heap.objs.size+ 1) s.heap.objs.size c .none->h'.IsListIter s.heap.objs.size l 0->(∀b o,s.heap.get? b=some o->h'.get? b=some o)->Q (.ref (s.heap.objs.size+ 1)) {s with heap:=h'}):
  wpAny (model prog w) A (call (.type "enumerate") [.ref l] [("start",.int c t)]) Q E s:=by
 obtain⟨⟨cl,i,q,j⟩,p,a,n,d⟩:=hL
 replace a:cl= .type "list":=a
 replace d:q= .seq items n:=d
 subst a d;refine nY F.called_enumerate (by decide) (x9 _ _) (y8 _ _) (fun e => d3 e _ _) F.entry_enumerate_new (Zo l items n i j c t hc) ⟨p, ?_⟩;have f : (s.heap.push { cls := .type "list_iterator", data := .fields #[.ref l, .int 0 0] }).objs.size = s.heap.objs.size + 1 := Uj ..;show _ /\ _;rw [f];have g : IsEnum ((s.heap.push { cls := .type "list_iterator", data := .fields #[.ref l, .int 0 0] }).push
   { cls := .type "enumerate", data := .fields #[.none, .bool false, .ref s.heap.objs.size, rawInt c, .none, .none] }) (s.heap.objs.size + 1) s.heap.objs.size c .none := by
  have:=Yl (s.heap.push {cls:=.type "list_iterator",data:=.fields #[.ref l,.int 0 0]})
   (o:={cls:=.type "enumerate",data:=.fields #[.none,.bool false,.ref s.heap.objs.size,rawInt c,.none,.none]}) rfl
  rw[f]at this;exact this
 exact⟨⟨_,g,rfl⟩,h _ g ⟨_,Y7 _ (Yl _ rfl),rfl,rfl⟩ fun b o x=>Y7 _ (Y7 _ x)⟩
theorem w4{e it l:Wo}{i:Nat}{c:Int}{items:Array Value}{x old:Wn}{Q:Option Value->Shared->Prop}(he:IsEnum s.heap e it c old)(hit:s.heap.IsListIter it l i)(hl:s.heap.IsList l items)(hx:items[i]?=some x)(hne:e≠it)
  (hQ : ∀ h', IsEnumOut h' e it (c + 1) x s.heap.objs.size -> h'.IsListIter it l (i + 1) -> h'.get? s.heap.objs.size = some { cls := .type "tuple", data := .seq #[.int c s.toks, x] } ->
   (∀ b o, b ≠ e -> b ≠ it -> s.heap.get? b = some o -> h'.get? b = some o) -> Q (some (.ref s.heap.objs.size)) { s with heap := h', toks := s.toks + 1 }) : wpAny (model prog w) A (pyNext (.ref e)) Q E s := by
 have hT:s.TypeIs (.ref e) "enumerate":=⟨_,he,rfl⟩
 unfold pyNext;refine Y1 (Uy (U3 (name:=Str.ofString "__next__") hT Ul (XF Ul hT F.entry_enumerate_next ?_ (F.args_enumerate_next_1 _))));obtain⟨n,g,d,tk,f⟩:=s;show wpAny _ _ (field (.ref e) 2 >>=_) _ _ _;refine Y1 (UM he rfl (x:=.ref it) rfl (Y1 (wpAny_nextOf_list_item hit hl hx fun j hit₁ hs₁=>?_)));have v:Heap.SameBut it n j:=hs₁;have z:IsEnum j e it c old:=(v.2 e hne).trans he;refine Y1 (UM z rfl (x:=rawInt c) rfl ?_);refine Y1 (m:=field (.ref e) 4) (UM (s:=⟨j,g,d,tk,f⟩) z rfl (x:=.none) rfl ?_);show wpAny _ _ (mkInt c >>=_) _ _ ⟨j,g,d,tk,f⟩;refine Y1 (wpAny_mkInt ?_);show wpAny _ _ (setField (.ref e) 3 (rawInt (c+ 1)) >>=_) _ _ ⟨j,g,d,tk+ 1,f⟩;refine Y1 (U7 z (by simp) fun h₂ he₂ hs₂=>?_);have q:Heap.SameBut e j h₂:=hs₂;have he2:IsEnum h₂ e it (c+ 1) old:=he₂;show wpAny _ _ (setField (.ref e) 4 .none >>=_) _ _ ⟨h₂,g,d,tk+ 1,f⟩;refine Y1 (U7 he2 (by simp) fun h he₃ hs₃=>?_);have p:Heap.SameBut e h₂ h:=hs₃;have he3:IsEnum h e it (c+ 1) old:=he₃;show wpAny _ _ (newTuple [.int c tk,x] >>=_) _ _ ⟨h,g,d,tk+ 1,f⟩;refine Y1 (VU ?_);have aa:IsEnum (h.push {cls:=.type "tuple",data:=.seq #[.int c tk,x]}) e it (c+ 1) old:=Y7 _ he3;generalize hh:h.push {cls:=.type "tuple",data:=.seq #[.int c tk,x]}=h₄ at aa;have hsz:h.objs.size=n.objs.size:=by rw[p.1,q.1,v.1]
 have hel:e < n.objs.size:=Yk he;have ht4:h₄.get? n.objs.size=some {cls:=.type "tuple",data:=.seq #[.int c tk,x]}:=by rw[<-hh,<-hsz];exact Yl _ rfl
 have hk4:∀b o,b≠e->b≠it->n.get? b=some o->h₄.get? b=some o:=fun b o a hbi hb=>by
  rw[<-hh];exact Y7 _ (p.extBut b o a (q.extBut b o a (v.extBut b o hbi hb)))
 have hit4:h₄.IsListIter it l (i+ 1):=by
  rw[<-hh];obtain⟨o,ho,r⟩:=(hit₁.extBut q.extBut (Ne.symm hne)).extBut p.extBut (Ne.symm hne);exact⟨o,Y7 _ ho,r⟩
 show wpAny _ _ (Builtin.SmallTypes.ownedTupleIsFree (.ref e) >>=_) _ _ ⟨h₄,g,d,tk+ 1,f⟩;rw[hsz];clear hh he3 p he₃ hs₃ he2 q he₂ hs₂ z v hs₁ hit₁ hsz h h₂ j;refine Y1 ?_;unfold Builtin.SmallTypes.ownedTupleIsFree;refine Y1 (UM aa rfl (x:=.none) rfl (Ye ?_));simp only[if_true];refine Y1 (XV (Y1 (UM aa rfl (x:=old) rfl (Y1 (U7 aa (by simp) fun h₅ he₅ hs₅=>?_)))));have hs5:Heap.SameBut e h₄ h₅:=hs₅;have he5:IsEnum h₅ e it (c+ 1) x:=he₅;show wpAny _ _ (Builtin.SmallTypes.ownedTupleHandOut (.ref e) (.ref n.objs.size) >>=_) _ _ ⟨h₅,g,d,tk+ 1,f⟩;refine Y1 ?_;unfold Builtin.SmallTypes.ownedTupleHandOut;refine Y1 (U7 he5 (by simp) fun h₆ he₆ hs₆=>?_);have hs6:Heap.SameBut e h₅ h₆:=hs₆;have he6:IsEnumOut h₆ e it (c+ 1) x n.objs.size:=he₆;refine U7 he6 (by simp) fun h₇ he₇ hs₇=>?_
 have hs7:Heap.SameBut e h₆ h₇:=hs₇;refine Y1 (wpAny_letGo (Ye ⟨_,rfl,Ye (hQ h₇ he₇ ?_ ?_ ?_)⟩))
 .exact((hit4.extBut hs5.extBut (Ne.symm hne)).extBut hs6.extBut (Ne.symm hne)).extBut hs7.extBut (Ne.symm hne)
 .exact hs7.extBut _ _ (V2 hel) (hs6.extBut _ _ (V2 hel) (hs5.extBut _ _ (V2 hel) ht4))
 .exact fun b o a hbi hb=>hs7.extBut b o a (hs6.extBut b o a (hs5.extBut b o a (hk4 b o a hbi hb)))
theorem t5{e it l:Wo}{i:Nat}{c:Int}{items:Array Value}{old:Wn}{Q:Option Value->Shared->Prop}(hh:A.handled=none)(he:IsEnum s.heap e it c old)(hit:s.heap.IsListIter it l i)(hl:s.heap.IsList l items)(hx:items[i]?=none)
  (hQ:∀h',Heap.ExtBut it s.heap h'->Q none {s with heap:=h'}):wpAny (model prog w) A (pyNext (.ref e)) Q E s:=by
 have f:s.TypeIs (.ref e) "enumerate":=⟨_,he,rfl⟩
 unfold pyNext;refine Y1 (Uy (U3 (name:=Str.ofString "__next__") f Ul (XF Ul f F.entry_enumerate_next ?_ (F.args_enumerate_next_1 _))));show wpAny _ _ (field (.ref e) 2 >>=_) _ _ _;refine Y1 (UM he rfl (x:=.ref it) rfl (Y1 (wpAny_nextOf_list_end hh hit hl hx fun h' x d a=>?_)));obtain⟨o,g,h⟩:=a;exact Y1 (wpAny_isInstance (T:="StopIteration") (b:=true) ⟨o,g,h⟩ isSubtype_stop (Ye (hQ _ d)))
end
def F4(K:Wm)(a:Wo)(c:Int):It:=
 ⟨fun i H=>∃xs x,WB K H a xs/\xs[i]?=some x,fun i H x H'=>∃t y,x= .ref t/\H t=none/\Ww H H'/\H' t=some (.tup [.int (c+ i),y])/\∀xs,WB K H a xs->xs[i]?=some y,fun i H=>∃xs,WB K H a xs/\xs.length <=i⟩
theorem ZF{P:Wh}{w:Wl}{K:Wm}{elts:List Expr}{k:Nat}{pos:Pos}(l e it:Wo)(c:Int):R3 P w K (.Tuple elts k pos) (F4 K l c) [e,it] e (fun i h=>(∃old,IsEnum h e it (c+ (i:Nat)) old)/\h.IsListIter it l i) where
 mem:=by simp
 obj:=fun i h st b a=>by
  obtain⟨⟨old,f⟩,o,ho,hc,hd⟩:=st;rcases Yp.mp a with rfl|a
  .exact⟨_,f,fun v z=>by cases z⟩
  .have e:b=it:=by simpa using a
   subst e;exact⟨o,ho,fun v z=>by rw[hd]at z;cases z⟩
 keep:=fun i h h' st n=>⟨⟨st.1.choose,n e (by simp) _ st.1.choose_spec⟩,st.2.at fun o x=>n it (by simp) o x⟩
 item:=by
  intro X hP hw hK hc i pins s σ H E I hf st hg;subst hP hw hK;obtain⟨xs,x,r,hx⟩:=hg;obtain⟨its,rv,p,hz⟩:=I.list r;obtain⟨u,hu,ru⟩:=rv.get hx;obtain⟨⟨old,f⟩,g⟩:=st;obtain⟨oit,j,cit,dit⟩:=id g;have hei:e≠it:=jM f j (by rw[cit];(try dsimp only);decide);have hel:e < s.heap.objs.size:=Yk f;have hil:it < s.heap.objs.size:=Yk j;refine w4 f g p.isList (x:=u) (by simpa using hu) hei fun h1 ho hit1 hT1 k1=>⟨_,rfl,wpAny_letOwnedTupleGo_enum ho fun h2 he2 hs2=>?_⟩
  have d:Heap.SameBut e h1 h2:=hs2;have hn:H s.heap.objs.size=none:=I.hok.fresh (Y5 _);have n:∀b o,b∉[e,it]->s.heap.get? b=some o->h2.get? b=some o:=fun b o a z=>(d.2 b fun q=>a (by simp[q])).trans (k1 b o (fun q=>a (by simp[q])) (fun q=>a (by simp[q])) z)
  have hT2:h2.get? s.heap.objs.size=some {cls:=.type "tuple",data:=.seq #[.int (c+ (i:Nat)) s.toks,u]}:=(d.2 _ (V2 hel)).trans hT1;refine⟨.ref s.heap.objs.size,upd H s.heap.objs.size (.tup [.int (c+ i),x]),I.turnNew (t':=s.toks+ 1) hf n (Y5 _) ⟨by show 2 <=sizeLine;decide,[.int (c+ i) s.toks,u],.cons ⟨_,rfl⟩ (.cons ru .nil),⟨_,hT2,rfl,_,rfl⟩⟩,rfl,⟨_,x,rfl,hn,TZ hn,Jn,fun ys hys=>?_⟩,⟨⟨u,?_⟩,hit1.at fun o y=>(d.2 it hei.symm).trans y⟩,fun b a=>?_⟩
  .rw[I.list_inj hys r];exact hx
  .have e1:c+ ((i+ 1:Nat):Int)=c+ (i:Nat)+ 1:=by omega
   rw[e1];exact he2
  .have hbn:=(hf b a).1;have:b≠s.heap.objs.size:=by
    rcases Yp.mp a with rfl|a
    .exact Yr hel
    .rw[Y8.mp a];exact Yr hil
   rw[WM this];exact hbn
 done:=by
  intro X hP hw hK hc i pins s σ H E I hf st hg;subst hP hw hK;obtain⟨xs,r,hx⟩:=hg;obtain⟨its,rv,p,hz⟩:=I.list r;obtain⟨⟨old,f⟩,g⟩:=st;have hl:=rv.length;exact t5 (I.ok.hd hc) f g p.isList (by simp;omega) fun h' eb=>⟨rfl,I.turnL (t':=s.toks) hf fun b o a x=>eb b o (fun z=>a (by simp[z])) x⟩
 self:=fun _ _ _ _ _ st h=>wpAny_pyIter_enum st.1.choose_spec h
section
variable{M:Model}{A:Wk}{E:We}{s:Wi}{env:Env}
theorem Z8{pos:Pos}{T:String}{e:Ws}{kws:List Keyword}{Q:We}
  (h:wpAny M A (spliced (backTo pos (starEach [e] env))) (fun vs s₁=>wpAny M A (evalAll ((backToKw pos (keywordEach kws env)).map (·.2))) (fun kvs s₂=>wpAny M A (call (.type T) vs (((backToKw pos (keywordEach kws env)).filterMap (·.1)).zip kvs)) Q E s₂) E s₁) E s)
  (he:backTo pos (starEach [e] env)=(false,eval e env)::backTo pos (starEach [] env)) (hplain:(backTo pos (starEach [e] env)).any (·.1)=false)
  (hall:(backToKw pos (keywordEach kws env)).all (·.1.isSome)=true) (hkw:(backToKw pos (keywordEach kws env)).any (·.1.isNone)=false):
  wpAny M A (callWith pos (.type T) [] (backTo pos (starEach [e] env)) (backToKw pos (keywordEach kws env))) Q E s:=by
 unfold callWith;have h':wpAny M A (evalArgs (.type T) true (backTo pos (starEach [e] env)) (backToKw pos (keywordEach kws env))) (fun a s₁=>wpAny M A (call (.type T) ([]++a.pos) a.kw) Q E s₁) E s:=by
  rw[he]at h ⊢;exact evalArgs_kwB hall h
 refine Y1 (Xs (YF h' (fun a s₁ b=>Y1 (Vr ?_)) fun _ _ x=>x));simp only[hplain,hkw,Vs];exact Y1 (Ye (Y1 (YF b (fun r s₂ c=>Y1 (Xs (wpAny_point (Ye c)))) fun _ _ x=>x)))
end
section
variable{X:Cx}{K:Wm}
def Ih(K:Wm)(ta tb:TE):TI:=fun σ H R=>ta σ H fun x H1=>tb σ H1 fun y H2=>∃l c,x= .ref l/\y= .int c/\ -(2 ^ 62) <=c/\c < 2 ^ 62/\(∃xs,WB K H2 l xs)/\R (F4 K l c) H2
theorem OM{e e2:Ws}{ta tb:TE}{elts:List Expr}{k:Nat}{pos' p pos kp:Pos}(h:X.K=K)(hg:Gl X "enumerate")(hm:X.mg "enumerate"=none)(ha:PE X e ta)(hb:PE X e2 tb)
  (he:backTo pos (starEach [e] X.env)=(false,eval e X.env)::backTo pos (starEach [] X.env):=by rfl) (hs:starEach [e] X.env=(false,eval e X.env)::starEach [] X.env:=by rfl)
  (hpl:(backTo pos (starEach [e] X.env)).any (·.1)=false:=by rfl):PI X (.Tuple elts k pos') (.Call (.Name "enumerate" p) [e] [⟨some "start",e2,kp⟩] pos) (Ih K ta tb):=by
 subst h;intro pins s σ H R I h;refine XI (RM I hg hm boot_enumerate ?_);have h':DA ta R7 σ H (fun vs H1=>DA tb R7 σ H1 fun zs H2=>match vs,zs with|[x],[y]=>∃l c,x= .ref l/\y= .int c/\ -(2 ^ 62) <=c/\c < 2 ^ 62/\(∃xs,WB X.K H2 l xs)/\R (F4 X.K l c) H2|_,_=>False):=h;refine Z8 (WZ (JM ha Wy hs pos pins s σ H _ I h') fun us s1 ⟨vs,H1,z,r,q⟩=>WZ (OE hb Qa pos pins s1 σ H1 _ z q) fun ws s2 ⟨zs,H2,d,i,a⟩=>?_) he hpl rfl rfl;cases r with
 |nil=>cases i <;> exact False.elim a
 |cons r1 rr=>
  cases rr with
  |cons _ _=>cases i <;> exact False.elim a
  |nil=>
   cases i with
   |nil=>exact False.elim a
   |cons z1 zz=>
    cases zz with
    |cons _ _=>exact False.elim a
    |nil=>
     obtain⟨l,c,rfl,rfl,c1,c2,⟨xs,v⟩,n⟩:=a;cases r1;obtain⟨t,rfl⟩:=z1;obtain⟨aa,rv,o,hz⟩:=d.list v;refine QY o.isList (by unfold Builtin.SmallTypes.fitsIndex;simp;omega) fun h' f j w=>wpAny_pyIter_enum f ?_
     refine⟨_,[s2.heap.objs.size+ 1,s2.heap.objs.size],_,_,H2,rfl,d.kept (t':=s2.toks) w,ZF l _ s2.heap.objs.size c,⟨⟨Value.none,?_⟩,j⟩,fun b hb=>?_,n⟩
     .rw[show c+ ((0:Nat):Int)=c by omega];exact f
     .have g:s2.heap.objs.size <=b:=by
       rcases Yp.mp hb with rfl|hb
       .exact XY _
       .rw[Y8.mp hb];exact Y5 _
      exact d.fpOk g (d.hok.fresh g)
end
theorem QL{K:Wm}{a:Wo}{c:Int}{xs:List V}{g:TG}{tb:TS}{D:T5}{σ:St}{H:Hp}(Pv:Nat->St->Hp->Prop)(h0:Pv 0 σ H)(hl:∀i σ H,i <=xs.length->Pv i σ H->WB K H a xs)
  (hs:∀i x t σ H H',xs[i]?=some x->Pv i σ H->H t=none->Ww H H'->H' t=some (.tup [.int (c+ i),x])->g (.ref t) σ H' fun σ2 H2=>tb {D with nx:=Pv (i+ 1),ct:=Pv (i+ 1),bk:=D.nx} σ2 H2) (hd:∀σ H,Pv xs.length σ H->D.nx σ H):BP g tb D σ (F4 K a c) H:=by
 refine⟨fun i m σ H=>m=xs.length - i/\i <=xs.length/\Pv i σ H,⟨xs.length,by simp,Yy _,h0⟩,?_⟩;rintro i m σ H ⟨rfl,hi,p⟩;have q:=hl i σ H hi p
 by_cases hlt:i < xs.length
 .refine .inr ⟨⟨xs,xs[i],q,by simp[hlt]⟩,Pv (i+ 1),fun σ' H' b=>⟨xs.length - (i+ 1),by omega,rfl,hlt,b⟩,fun x H' y=>?_⟩;obtain⟨t,y,rfl,h1,h2,f,d⟩:=y;exact hs i y t σ H H' (d xs q) p h1 h2 f
 .have e:i=xs.length:=by omega
  subst e;exact .inl ⟨⟨xs,q,Y5 _⟩,hd σ H p⟩
section
variable{X:Cx}{K:Wm}
def Ai(K:Wm):R2:=fun x y H Q=>∃a b xs,x= .ref a/\y= .ref b/\WB K H a xs/\WB K H b []/\Q (.bl (decide (xs.length=0))) H
theorem Ig(hu:X.A.units+ 64 < cLine)(h:X.K=K):JA X (compareOp .Eq) (Ai K):=by
 subst h;intro pins s σ H x y v u Q I rx ry h;obtain⟨a,b,xs,rfl,rfl,h1,h2,q⟩:=h;cases rx;cases ry;obtain⟨d,g,p,o⟩:=I.list h1;obtain⟨i,c,p2,n⟩:=I.list h2;cases c;have f:=g.length
 by_cases h0:xs.length=0
 .refine PySem.SeqAt.eq_listAt (e:=fun _=>true) p.isList p2.isList (by rw[Yd,Yd,<-f,h0];rfl) (Yg (UT _ 64) hu) ?_ ?_
  .intro j h1;rw[Yd]at h1;omega
  .have l:d.toArray.size=0:=by rw[Yd];omega
   rw[l];rw[Yq h0]at q;exact NK I q rfl
 .refine PySem.SeqAt.eq_list_lengthsAt p.isList p2.isList (by rw[Yd,Yd,<-f];simp;exact fun z=>h0 (by rw[z];rfl)) (Yg (UT _ 64) hu) ?_;rw[Yt h0]at q;exact NK I q rfl
def A5:R2:=fun y x H Q=>∃a n kvs,y= .int n/\x= .ref a/\H a=some (.dK kvs)/\Q (.bl (J5 kvs (Sum.inl n)).isSome) H
theorem QH(hu:X.A.units+ 1 < cLine):JA X (compareOp .In) A5:=by
 intro pins s σ H y x v u Q I ry rx h;obtain⟨a,n,kvs,rfl,rfl,b,q⟩:=h;cases rx;exact PV hu I (TY.k (k:=Sum.inl n) b) ry fun s' c=>⟨.bl _,H,c,rfl,q⟩
end
end L2
namespace L2
open PySem PySem.Spec PyProof.Rows
theorem xR{n:Nat}(f:Nat->Int):argBest (fun i j=>decide (f i > f j)) n <=n/\∀i,i <=n->f i <=f (argBest (fun i j=>decide (f i > f j)) n):=by
 induction n with
 |zero=>exact⟨by simp[argBest],fun i hi=>by obtain rfl:i=0:=(by lia);simp[argBest]⟩
 |succ n ih=>
  by_cases h:f (argBest (fun i j=>decide (f i > f j)) n) < f (n+ 1)
  .have e:argBest (fun i j=>decide (f i > f j)) (n+ 1)=n+ 1:=by simp[argBest,h]
   rw[e];refine⟨Y5 _,fun i hi=>?_⟩
   by_cases hi':i=n+ 1
   .subst hi';exact YJ _
   .have:=ih.2 i (by lia);lia
  .have e:argBest (fun i j=>decide (f i > f j)) (n+ 1)=argBest (fun i j=>decide (f i > f j)) n:=by simp[argBest,h]
   rw[e];refine⟨by lia,fun i hi=>?_⟩
   by_cases hi':i=n+ 1
   .subst hi';lia
   .exact ih.2 i (by lia)
section
variable{X:Cx}{K:Wm}
def Le(K:Wm):List V->Hp->VK->Prop:=fun xs H Q=>∃ (p:Wo) (ns:Wp),xs=[.ref p]/\WB K H p (ns.map V.int)/\ns≠[]/\∀v,v∈ns->(∀y∈ns,y <=v)->Q (.int v) H
theorem jE(hc:X.calm=true)(h:X.K=K):WW X (.builtin "max") (Le K):=by
 subst h;intro pins s σ H xs us Q I r d;obtain⟨p,a,rfl,hq,g,q⟩:=d;obtain⟨u,rfl,rx⟩:=DM r;cases rx;obtain⟨b,z,pl,hz⟩:=I.list hq;have d:X.A.in1.handled=none:=I.ok.hd hc;have hi:IntsAre b a:=Q2 z;obtain⟨xs,e⟩:=hi.allInts.items;have l:s.heap.IsList p (intItems xs):=e▸pl.isList;have w:a=xs.toList.map (·.1):=by
  rw[<-nums_intItems,<-e];exact(show numsOf b.toArray.toList=a from hi.numsOf).symm
 have f:xs.size=a.length:=by rw[w];simp
 have c:0 < xs.size:=by rw[f];exact W4.mpr g
 refine max_intList d l c fun v h' tk hv hk=>?_
 obtain⟨t,rfl⟩:=intItems_at hv;obtain⟨b1,b2⟩:=xR (n:=xs.size - 1) (numAt xs);have j:∀i (hi:i < a.length),numAt xs i=a[i]:=fun i hi=>by
  have:a[i]?=(xs.toList.map (·.1))[i]?:=by rw[<-w]
  rw[Y6 hi,Yc]at this;unfold numAt;have e2:xs[i]?=xs.toList[i]?:=by simp
  rw[e2,<-this];rfl
 refine⟨.int _,H,I.kept (t':=tk) hk,⟨t,rfl⟩,q _ ?_ fun y hy=>?_⟩
 .rw[j _ (by lia)];exact US _
 .obtain⟨k,o,rfl⟩:=V3.mp hy;rw[<-j k o];exact b2 k (by lia)
end
def Ln(K:Wm):List V->Hp->VK->Prop:=fun xs H Q=>∃a C1 C2 dx fs b,xs=[.ref a,.ref C2]/\H a=some (.ins C1 dx fs)/\Ml K C1/\GN K C1/\W.kitOne K (.ref C1) (.ref C2)=some b/\Q (.bl b) H
theorem Ac{X:Cx}{K:Wm}(h:X.K=K):WW X (.builtin "isinstance") (Ln K):=by
 subst h;intro pins s σ H xs d Q I r f;obtain⟨a,i,g,dx,fs,b,rfl,ha,cl,c,e,q⟩:=f;exact Iv pins s σ H _ d Q I r ⟨.ref a,.ref g,.ref i,b,rfl,.ins ha cl c.ha c.hn c.htk c.hm,rfl,e,q⟩
section
variable{rest es:List Expr}{env:Env}{pos:Pos}{a b c:Ws}
theorem DY{k:Nat}:starEach (.Tuple es k pos::rest) env=(false,eval (.Tuple es k pos) env)::starEach rest env:=rfl
theorem nN{v:Const}{k:Nat}:starEach (.Constant v k pos::rest) env=(false,eval (.Constant v k pos) env)::starEach rest env:=rfl
theorem MC{x:Str}:starEach (.Name x pos::rest) env=(false,eval (.Name x pos) env)::starEach rest env:=rfl
theorem E9{o:Operator}:starEach (.BinOp a o b pos::rest) env=(false,eval (.BinOp a o b pos) env)::starEach rest env:=rfl
theorem Zr{ks:List Keyword}:starEach (.Call a es ks pos::rest) env=(false,eval (.Call a es ks pos) env)::starEach rest env:=rfl
theorem Ze{x:Str}:starEach (.Attribute a x pos::rest) env=(false,eval (.Attribute a x pos) env)::starEach rest env:=rfl
theorem xS:starEach (.Subscript a b pos::rest) env=(false,eval (.Subscript a b pos) env)::starEach rest env:=rfl
theorem Ap{os:List CmpOp}:starEach (.Compare a os es pos::rest) env=(false,eval (.Compare a os es pos) env)::starEach rest env:=rfl
theorem Rw{gs:List Comprehension}{sc:Scope}:starEach (.ListComp a gs sc pos::rest) env=(false,eval (.ListComp a gs sc pos) env)::starEach rest env:=rfl
end
section
variable{prog:Wh}{w:Wl}{J:Type}[DecidableEq J]{knd:HeapKind prog w J}{A:Wk}{E:We}{s:Wi}{d a:Wo}{k:J}{xs:List (J×Addr×Value)}
def JN{β:Type}(xs:List (J×β))(k:J):List (J×β):=xs.filter fun x=> !decide (x.1=k)
theorem tY{β:Type}{xs:List (J×β)}(h:k∉xs.map (·.1)):JN xs k=xs:=by
 unfold JN;refine Vc.mpr fun x a=>?_
 have:x.1≠k:=fun e=>h (Ya.mpr ⟨x,a,e⟩)
 simp[this]
theorem Pd{β:Type}:∀{xs:List (J×β)} {j:Nat} {p:β},(xs.map (·.1)).Nodup->xs[j]?=some (k,p)->xs.eraseIdx j=JN xs k
 |[],_,_,_,h=>by simp at h
 |x::r,0,p,hn,h=>by
  simp only[List.getElem?_cons_zero,Option.some.injEq]at h;subst h;have hn':k∉r.map (·.1):=(YI.mp hn).1;show r=JN ((k,p)::r) k;unfold JN;rw[U0,Y2 (by simp)];exact(tY hn').symm
 |x::r,j+ 1,p,hn,h=>by
  simp only[List.getElem?_cons_succ]at h;have c:k∈r.map (·.1):=Ya.mpr ⟨(k,p),Yw h,rfl⟩;have a:¬x.1=k:=fun e=>(YI.mp hn).1 (by show x.1∈_;rw[e];exact c)
  have b:=Pd (YI.mp hn).2 h;show x::r.eraseIdx j=JN (x::r) k;rw[b];unfold JN;rw[U0,Y3 (by simp[a])]
theorem OD{α β:Type}(f:α->β):∀ (l:List α) (j:Nat),(l.map f).eraseIdx j=(l.eraseIdx j).map f
 |[],_=>rfl
 |_::_,0=>rfl
 |x::r,j+ 1=>by show f x::(r.map f).eraseIdx j=f x::(r.eraseIdx j).map f;rw[OD f r j]
theorem SL{p:Addr×Value}{Q:Option DictEntry->Shared->Prop}(hu:knd.room A)(hkey:knd.is s.heap k a)(hm:s.heap.DictOfH knd d xs)(hp:atKey xs k=some p)(hz:xs.length <=sizeLine)
  (hQ:∀h',h'.DictOfH knd d (JN xs k)->Heap.SameBut d s.heap h'->Q (some ⟨knd.hash k,.ref p.1,p.2⟩) {s with heap:=h',toks:=s.toks+ knd.draws k}):wpAny (model prog w) A (Builtin.Dict.takeOut d (.ref a)) Q E s:=by
 obtain⟨o,es,ep,c,r,b,f,g,e⟩:=hm;have l:es.size <=sizeLine:=by rw[VN f];exact hz
 unfold Builtin.Dict.takeOut
 try with_reducible refine Xs ?_
 refine Y1 (knd.pyHash hu hkey (Y1 (wpAny_dictFind_heap (s:={s with toks:=s.toks+ knd.draws k}) hu hkey c b f g e (fun i=>?_) fun j q h=>?_)))
 .rw[atKey_none_of_get i]at hp;cases hp
 .rw[atKey_of_get e h]at hp;obtain rfl:=Option.some.inj hp;refine Y1 (XT (s:={s with toks:=s.toks+ knd.draws k}) c b ?_);rw[entry_at f j,h];refine Y1 (wpAny_updateDictKeys (hz:=l) (s:={s with toks:=s.toks+ knd.draws k}) c b (Ye (hQ _ ⟨_,_,ep+ 1,UX _ c (Obj.isFreed_of_dict (Us b _)),r.mapDictKeys _,Us b _,?_,?_,?_⟩ (Xq ..))))
  .rw[<-Pd e h];have v:(es.eraseIdxIfInBounds j).toList=es.toList.eraseIdx j:=by simp
   rw[v,f,OD]
  .intro x n;exact knd.keeps (g x (YZ.mp n).1) c b (Xq ..)
  .exact List.Nodup.sublist (Ut _ U2) e
theorem tV{v:Wn}{Q:We}(hu:knd.room A)(hkey:knd.is s.heap k a)(hm:s.heap.DictOfH knd d xs)(hz:xs.length <=sizeLine)(h1:∀p,atKey xs k=some p->Q p.2 {s with toks:=s.toks+ knd.draws k})
  (h2:atKey xs k=none->∀h',h'.DictOfH knd d (xs++[(k,a,v)])->Heap.SameBut d s.heap h'->Q v {s with heap:=h',toks:=s.toks+ knd.draws k}):wpAny (model prog w) A (dictSetDefault d (.ref a) v) Q E s:=by
 obtain⟨o,es,ep,c,hc,b,f,h,n⟩:=hm;have aa:es.size <=sizeLine:=by rw[VN f];exact hz
 unfold dictSetDefault
 try with_reducible refine Xs ?_
 refine Y1 (knd.pyHash hu hkey (Y1 (wpAny_dictFind_heap (s:={s with toks:=s.toks+ knd.draws k}) hu hkey c b f h n (fun g=>?_) fun j q r=>?_)))
 .have l:k∉xs.map (·.1):=not_mem_keys_of_get g;refine Y1 (XV (Y1 (wpAny_updateDictKeys (hz:=aa) (s:={s with toks:=s.toks+ knd.draws k}) c b (Ye (h2 (atKey_none_of_get g) _ ⟨_,_,ep+ 1,UX _ c (Obj.isFreed_of_dict (Us b _)),hc.mapDictKeys _,Us b _,?_,?_,?_⟩ (Xq ..))))))
  .simp[f,entryOfKey]
  .intro x i;rcases Yj.mp i with z|z
   .exact knd.keeps (h x z) c b (Xq ..)
   .rw[Y8.mp z];exact knd.keeps hkey c b (Xq ..)
  .rw[Yn,Xz];refine⟨n,by simp,fun x i y hy e=>l ?_⟩;have:y=k:=by simpa using hy
   rw[<-this,<-e];exact i
 .refine Y1 (XT (s:={s with toks:=s.toks+ knd.draws k}) c b ?_);rw[entry_at f j,r];exact Y1 (XV (Ye (h1 q (atKey_of_get n r))))
end
section
variable{prog:Wh}{w:Wl}{J:Type}[DecidableEq J]{knd:HeapKind prog w J}{d a:Wo}
theorem jB (hd : (d == sysModules) = false) (dflt : Value) : MeetsIn prog w (Builtin.«dict.setdefault» ⟨[.ref d, .ref a, dflt], []⟩) (fun A R s => knd.room A.in1 /\ ∃ k xs, knd.is s.heap k a /\ s.heap.DictOfH knd d xs /\ xs.length <= sizeLine /\
  (∀ p, atKey xs k = some p -> R (.ok (.ret p.2)) { s with toks := s.toks + knd.draws k }) /\ (atKey xs k = none -> ∀ h', h'.DictOfH knd d (xs ++ [(k, a, dflt)]) -> Heap.SameBut d s.heap h' -> R (.ok (.ret dflt)) { s with heap := h', toks := s.toks + knd.draws k })) :=
 .of_wp fun A R s ⟨e,k,xs,h,b,c,h1,h2⟩=>by
  unfold Builtin.«dict.setdefault»;refine Y1 (?_:wpAny _ _ (Builtin.Dict.keyAndDefault _ _) _ _ _);unfold Builtin.Dict.keyAndDefault;refine Y1 (UY b.typeIs (?_:wpAny _ _ (pure (d,Value.ref a,some dflt)) _ _ s));refine Ye (?_:wpAny _ _ (if(d==sysModules)=true then _ else(dictSetDefault d (.ref a) dflt >>=_)) _ _ s);rw[Y2 (by simp[hd])];exact Y1 (tV e h b c (fun p f=>Ye ⟨_,rfl,h1 p f⟩) fun g h' i hs=>Ye ⟨_,rfl,h2 g h' i hs⟩)
theorem jH : MeetsIn prog w (Builtin.«dict.pop» ⟨[.ref d, .ref a], []⟩) (fun A R s => knd.room A.in1 /\ ∃ k xs p, knd.is s.heap k a /\ s.heap.DictOfH knd d xs /\ xs.length <= sizeLine /\ atKey xs k = some p /\
  ∀ h', h'.DictOfH knd d (JN xs k) -> Heap.SameBut d s.heap h' -> R (.ok (.ret p.2)) { s with heap := h', toks := s.toks + knd.draws k }) :=
 .of_wp fun A R s ⟨j,k,xs,p,n,c,i,b,h⟩=>by
  obtain⟨o,es,ep,l,hc,r,q,his,hn⟩:=id c;unfold Builtin.«dict.pop»;refine Y1 (?_:wpAny _ _ (Builtin.Dict.keyAndDefault _ _) _ _ _);unfold Builtin.Dict.keyAndDefault;refine Y1 (UY c.typeIs (?_:wpAny _ _ (pure (d,Value.ref a,none)) _ _ s));refine Ye ?_;have g:(keyPart (.ref a)).isSome=false:=rfl;have f:es.isEmpty=false:=by
   have hsz:=VN q;have e:xs≠[]:=fun z=>by rw[z]at b;cases b
   have hxl:0 < xs.length:=W4.mpr e;have v:¬es.size=0:=by lia
   unfold Array.isEmpty;exact Yt v
  simp only[g,Bool.false_eq_true,if_false];refine Y1 (XT l r (Y1 (Ye ?_)));rw[f];simp only[Bool.false_eq_true,if_false];refine Y1 (SL j n c b i fun h' dd hs=>?_);simp only[Option.isNone_some,Bool.false_eq_true,if_false];exact Y1 (wpAny_letGo (Ye ⟨_,rfl,h h' dd hs⟩))
end
section
variable{X:Cx}{K:Wm}
theorem KT.app{H:Hp}{kvs:List (List WU×V)}{xs:List (List WU×Addr×Value)}{k:List WU}{v:V}{b:Wo}{u:Wn}(r:KT H kvs xs)(hb:H b=some (.tup (k.map kV)))(rv:WI v u):KT H (kvs++[(k,v)]) (xs++[(k,b,u)]):=by
 induction r with
 |nil=>exact .cons ⟨rfl,hb,rv⟩ .nil
 |cons q _ ih=>exact .cons q ih
theorem KT.less{H:Hp}{kvs:List (List WU×V)}{xs:List (List WU×Addr×Value)}{k:List WU}(r:KT H kvs xs):KT H (JN kvs k) (JN xs k):=by
 induction r with
 |nil=>exact .nil
 |@cons p q ps qs hq t ih=>
  unfold JN at ih ⊢;rw[U0,U0,<-hq.1]
  split
  .exact .cons hq ih
  .exact ih
def Lg:V->List V->Hp->VK->Prop:=fun x vs H Q=>∃ (a b:Wo) (k:List WU) (kvs:List (List WU×V)) (z:V),x= .ref a/\vs=[.ref b,z]/\H a=some (.dT kvs)/\H b=some (.tup (k.map kV))/\kvs.length < sizeLine/\
 (∀v,J5 kvs k=some v->Q v H)/\(J5 kvs k=none->∀G,Jh a H G->G a=some (.dT (kvs++[(k,z)]))->Q z G)
theorem OT(hu:X.A.units+ 1 < cLine):Dc X "dict.setdefault" Lg:=by
 intro pins s σ H x vs v us Q I rx rv h;obtain⟨a,b,k,kvs,z,rfl,rfl,g,n,hl,q1,q2⟩:=h;cases rx;cases rv with
 |cons r1 t1=>
  cases t1 with
  |cons r2 t2=>
   cases t2;cases r1;obtain⟨hz,l,xs,f,dd⟩:=IG I.hok g;have i:xs.length <=sizeLine:=by rw[<-Paired.length f];exact hz
   have d:=f.val k;refine call_meetsIn Um dd.typeIs PySem.F.entry_dict_setdefault (PySem.F.args_dict_setdefault_3 _ _ _) (jB (knd:=tupleKind (WY X.prog X.w)) l _) ⟨XJ hu,k,xs,Ef I.hok n,dd,i,fun p hp=>?_,fun hn h' r hs=>?_⟩
   .rw[hp]at d;cases e:J5 kvs k with
    |none=>rw[e]at d;exact d.elim
    |some y=>rw[e]at d;exact⟨y,H,I.tok _,d,q1 y e⟩
   .rw[hn]at d;cases e:J5 kvs k with
    |some y=>rw[e]at d;exact d.elim
    |none=>
     obtain⟨q,es,ep,j,h2,h3,h4,_,h5⟩:=r;refine⟨z,upd H a (.dT (kvs++[(k,z)])),?_,r2,q2 e _ Jh.upd Jn⟩;refine Ay I (by rw[g];exact True.intro) hs ⟨q,j⟩ ⟨by rw[List.length_append];exact hl,l,_,(f.app n r2).keeps fun c ys o=>?_,q,es,ep,j,h2,h3,h4,h5⟩;rw[WM (Wv o g (fun z=>nomatch z))];exact o
def Lb:V->List V->Hp->VK->Prop:=fun x vs H Q=>∃ (a b:Wo) (k:List WU) (kvs:List (List WU×V)) (v:V),x= .ref a/\vs=[.ref b]/\H a=some (.dT kvs)/\H b=some (.tup (k.map kV))/\J5 kvs k=some v/\
 ∀G,Jh a H G->G a=some (.dT (JN kvs k))->Q v G
theorem OX(hu:X.A.units+ 1 < cLine):Dc X "dict.pop" Lb:=by
 intro pins s σ H x vs v us Q I rx rv h;obtain⟨a,b,k,kvs,z,rfl,rfl,g,hb,i,q⟩:=h;cases rx;cases rv with
 |cons r1 t1=>
  cases t1;cases r1;obtain⟨j,hd,xs,e,dd⟩:=IG I.hok g;have l:xs.length <=sizeLine:=by rw[<-Paired.length e];exact j
  have f:=e.val k;rw[i]at f;cases hp:atKey xs k with
  |none=>rw[hp]at f;exact f.elim
  |some p=>
   rw[hp]at f;refine call_meetsIn UZ dd.typeIs PySem.F.entry_dict_pop (PySem.F.args_dict_pop_2 _ _) (jH (knd:=tupleKind (WY X.prog X.w)) (d:=a) (a:=b)) ⟨XJ hu,k,xs,p,Ef I.hok hb,dd,l,hp,fun h' aa hs=>?_⟩;obtain⟨o,es,ep,n,h2,h3,h4,_,h5⟩:=aa;refine⟨z,upd H a (.dT (JN kvs k)),?_,f,q _ Jh.upd Jn⟩;refine Ay I (by rw[g];exact True.intro) hs ⟨o,n⟩ ⟨YH (Xh _ _) j,hd,_,(KT.less e).keeps fun c ys r=>?_,o,es,ep,n,h2,h3,h4,h5⟩;rw[WM (Wv r g (fun z=>nomatch z))];exact r
end
section
variable{X:Cx}{pins:Wg}{σ:St}{H:Hp}{s:Wi}{d:Wo}{u0 u1:HO}
theorem Wx.retag(I:Wx X pins σ H s)(e:H d=some u0)(n1:∀xs,u0≠ .tup xs)(n2:∀x,u0≠ .own x)(n3:∀ps,u0≠ .tbl ps)(n4:∀o u,X.H₀ d≠some (.frz o u))(new:WO X.prog X.w (upd H d u1) s.heap d u1):Wx X pins σ (upd H d u1) s:=by
 have ne:∀{b:Wo},H b=none->b≠d:=fun h z=>by rw[z,e]at h;cases h
 have a:∀b xs,H b=some (.tup xs)->upd H d u1 b=some (.tup xs):=fun b xs h=>by
  rw[WM (fun z=>by rw[z,e]at h;exact n1 xs (Option.some.inj h))];exact h
 have g:∀b x,H b=some (.own x)->upd H d u1 b=some (.own x):=fun b x h=>by
  rw[WM (fun z=>by rw[z,e]at h;exact n2 x (Option.some.inj h))];exact h
 refine⟨I.ok,I.os,I.bare,⟨I.base.keep,I.base.slot,fun b o q n i=>?_,I.base.there,fun b xs q=>a b xs (I.base.tups b xs q),fun b o u q=>?_,fun b ps q=>?_⟩,I.loc,I.cell,?_,fun x c q=>?_,fun p j=>?_,fun b u q=>?_,I.len⟩
 .have:=I.base.free b o q n i;rw[WM (ne this)];exact this
 .rw[WM (fun z=>n4 o u (by rw[<-z];exact q))];exact I.base.frzs b o u q
 .obtain⟨m,h⟩:=I.base.tbls b ps q;exact⟨m,by rw[WM (fun z=>by rw[z,e]at h;exact n3 _ (Option.some.inj h))];exact h⟩
 .rw[WM (ne I.free)];exact I.free
 .rw[WM (ne (I.freeC x c q))];exact I.freeC x c q
 .obtain⟨r,f,l⟩:=I.pin p j;exact⟨r,by rw[WM (ne f)];exact f,l⟩
 .by_cases hb:b=d
  .subst hb;rw[Jn]at q;cases q;exact new
  .rw[WM hb]at q;exact(I.hok b u q).stay (fun c v _ h=>h) (fun c h=>g c b h) a
theorem Wx.freeze{kvs:List (List WU×V)}{o:Obj}(I:Wx X pins σ H s)(e:H d=some (.dT kvs))(ho:s.heap.get? d=some o):Wx X pins σ (upd H d (.frz o (.dT kvs))) s:=by
 refine I.retag e (fun _ z=>nomatch z) (fun _ z=>nomatch z) (fun _ z=>nomatch z) (fun o u z=>?_) ⟨ho,?_⟩
 .have:=I.base.frzs d o u z;rw[e]at this;cases this
 .exact(I.hok d _ e).stay (fun c v _ h=>h) (fun c h=>by rw[WM (Wv h e (fun z=>nomatch z))];exact h) fun c xs h=>by rw[WM (Wv h e (fun z=>nomatch z))];exact h
theorem Wx.thaw{kvs:List (List WU×V)}{o:Obj}(I:Wx X pins σ H s)(e:H d=some (.frz o (.dT kvs)))(n4:∀o u,X.H₀ d≠some (.frz o u)):Wx X pins σ (upd H d (.dT kvs)) s:=by
 refine I.retag e (fun _ z=>nomatch z) (fun _ z=>nomatch z) (fun _ z=>nomatch z) n4 ?_;have h1:WO X.prog X.w H s.heap d (.dT kvs):=(I.hok d _ e).2;exact h1.stay (fun c v _ h=>h) (fun c h=>by rw[WM (Wv h e (fun z=>nomatch z))];exact h) fun c xs h=>by rw[WM (Wv h e (fun z=>nomatch z))];exact h
end
section
variable{prog:Wh}{w:Wl}{A:Wk}{E:We}{s:Wi}{d it:Wo}{o:Obj}{es:Array DictEntry}{ep i n:Nat}
theorem L1{Q:We}(hd:(d==sysModules)=false)(ho:s.heap.get? d=some o)(hc:o.ExactDict)(hdat:o.data= .dict es ep)
  (hQ:Q (.ref s.heap.objs.size) {s with heap:=s.heap.push {cls:=.type "dict_keyiterator",data:=.fields #[.ref d,.int 0 0,.int es.size 0,.int ep 0]}}):wpAny (model prog w) A (pyIter (.ref d)) Q E s:=by
 have a:s.TypeIs (.ref d) "dict":=⟨o,ho,hc.1⟩
 refine wpAny_pyIter_slot a VS (XF VS a PySem.F.entry_dict_iter ?_ (PySem.F.args_dict_iter_1 _));unfold Builtin.«dict.__iter__»;refine Y1 (?_:wpAny _ _ (Builtin.Dict.dictSlotNone _ _) _ _ _);unfold Builtin.Dict.dictSlotNone;refine Y1 (UY a (?_:wpAny _ _ (pure (Value.ref d)) _ _ s));refine Ye (?_:wpAny _ _ (Builtin.Dict.showsAll d >>=_) _ _ s);unfold Builtin.Dict.showsAll;rw[Y2 (by simp[hd])];refine Y1 (Ye (Y1 (XT ho hdat (Y1 (VO ho hdat (Y1 (UJ (Ye ⟨_,rfl,"dict_keyiterator",_,⟨_,Yl _ rfl,rfl⟩,X5.lookup,?_⟩))))))));simpa[rawInt] using hQ
theorem FZ{Q:Option Value->Shared->Prop}(hit:s.heap.IsKeyIter it d i es.size ep)(ho:s.heap.get? d=some o)(hdd:o.data= .dict es ep)(hlt:i < es.size)
  (hQ:∀h',h'.IsKeyIter it d (i+ 1) es.size ep->Heap.SameBut it s.heap h'->Q (some es[i].key) {s with heap:=h'}):wpAny (model prog w) A (pyNext (.ref it)) Q E s:=by
 obtain⟨g,a,f,e⟩:=id hit;have c:=hit.typeIs;unfold pyNext;refine Y1 (Uy (U3 (name:=Str.ofString "__next__") c X5 (XF X5 c UH ?_ (UC _))));refine Y1 (Ye (Y1 (Y1 ?_)));refine Y1 (XC c (Ye (Y1 (wpAny_fieldsOf a e ?_))));simp only[show Builtin.Dict_items.ownsTuple "dict_keyiterator"=false by decide,Bool.false_eq_true,if_false];refine(?_:wpAny _ _ (if(Value.ref d==Value.none)=true then _ else _) _ _ s);rw[Y2 (show ¬((Value.ref d==Value.none)=true) from fun z=>Bool.noConfusion z)];refine Y1 (Ye (Y1 (XT ho hdd ?_)));rw[Y2 (by simp)];refine Y1 (Ye (Y1 (VO ho hdd ?_)));rw[Y2 (by simp)];refine Ye ?_;simp only[show ¬((i:Int) < 0) by omega,if_false,X6,XW hlt];refine Y1 (Y1 (XC c (Ye (Y1 (wpAny_isOneOf_keyiter c ?_)))));refine(?_:wpAny _ _ (setField (.ref it) 1 (rawInt ((i:Int)+ 1)) >>=_) _ _ s);refine Y1 (wpAny_setField a e (by simp) ?_);have b:(s.heap.update it (Obj.mapFields (·.setIfInBounds 1 (rawInt ((i:Int)+ 1))))).IsKeyIter it d (i+ 1) es.size ep:=
  ⟨_,UX _ a (Obj.isFreed_of_fields (Obj.data_mapFields e _)),(Obj.cls_mapFields ..).trans f,by rw[Obj.data_mapFields e];simp[rawInt]⟩
 refine Y1 (Xs (Y1 (wpAny_isOneOf_keyiter (s:={s with heap:=s.heap.update it (Obj.mapFields (·.setIfInBounds 1 (rawInt ((i:Int)+ 1))))}) b.typeIs ?_)));refine(?_:wpAny _ _ (pure es[i].key) _ _ _);exact Ye (Ye ⟨_,rfl,Ye (hQ _ b (Xq ..))⟩)
theorem K3{Q:Option Value->Shared->Prop}(hh:A.handled=none)(hit:s.heap.IsKeyIter it d i es.size ep)(ho:s.heap.get? d=some o)(hdd:o.data= .dict es ep)(hge:es.size <=i)
  (hQ:∀h',Heap.ExtBut it s.heap h'->Q none {s with heap:=h'}):wpAny (model prog w) A (pyNext (.ref it)) Q E s:=by
 obtain⟨g,e,h,f⟩:=id hit;have c:=hit.typeIs;unfold pyNext;refine Y1 (Uy (U3 (name:=Str.ofString "__next__") c X5 (XF X5 c UH ?_ (UC _))));refine Y1 (Ye (Y1 (Y1 ?_)));refine Y1 (XC c (Ye (Y1 (wpAny_fieldsOf e f ?_))));simp only[show Builtin.Dict_items.ownsTuple "dict_keyiterator"=false by decide,Bool.false_eq_true,if_false];refine(?_:wpAny _ _ (if(Value.ref d==Value.none)=true then _ else _) _ _ s);rw[Y2 (show ¬((Value.ref d==Value.none)=true) from fun z=>Bool.noConfusion z)];refine Y1 (Ye (Y1 (XT ho hdd ?_)));rw[Y2 (by simp)];refine Y1 (Ye (Y1 (VO ho hdd ?_)));rw[Y2 (by simp)];refine Ye ?_;simp only[show ¬((i:Int) < 0) by omega,if_false,X6,Array.getElem?_eq_none hge];refine Y1 (Y1 (XC c (Ye ?_)));refine(?_:wpAny _ _ (setField (.ref it) 0 .none >>=_) _ _ s);refine Y1 (wpAny_setField e f (by simp) ?_);refine(?_:wpAny _ _ (newExc (.type "StopIteration") [] >>=_) _ _ _);refine Y1 ?_;simp only[newExc,newTuple];refine Y1 (UJ (Y1 (m:=firstArgMember _ _) (wpAny_of_eq (a:=Value.none) (by first|rfl|(simp only[firstArgMember];rfl)) (UJ ?_ (by size_fits)))) (by size_fits));simp only[raiseNew];refine Y1 (wpAny_handled ?_);rw[show A.in1.handled=none from hh];refine Y1 (Ye (wpAny_throw ?_));exact Y1 (wpAny_isInstance (T:="StopIteration") (b:=true) ⟨_,Yl _ rfl,rfl⟩ isSubtype_stop (Ye (hQ _ (((Xq ..).extBut.push _).push _))))
end
def PZ(d:Wo)(o:Obj)(kvs:List (List WU×V)):It:=
 ⟨fun i H=>H d=some (.frz o (.dT kvs))/\i < kvs.length,fun i H x H'=>H'=H/\∃b k v,x= .ref b/\kvs[i]?=some (k,v)/\H b=some (.tup (k.map kV)),fun i H=>H d=some (.frz o (.dT kvs))/\kvs.length <=i⟩
theorem KT.at'{H:Hp}:∀{kvs:List (List WU×V)} {xs:List (List WU×Addr×Value)},KT H kvs xs->∀{i:Nat} {x:List WU×Addr×Value},xs[i]?=some x->∃v,kvs[i]?=some (x.1,v)/\H x.2.1=some (.tup (x.1.map kV)):=by
 intro kvs xs r
 induction r with
 |nil=>intro i x h;simp at h
 |@cons p q ps qs hq t ih=>
  intro i x h;cases i with
  |zero=>
   simp only[List.getElem?_cons_zero,Option.some.injEq]at h;subst h;refine⟨p.2,by simp[<-hq.1],by rw[<-hq.1];exact hq.2.1⟩
  |succ i=>exact ih (by simpa using h)
theorem wF{P:Wh}{w:Wl}{K:Wm}{tg:Ws}{o:Obj}{kvs:List (List WU×V)}{es:Array DictEntry}{ep:Nat}(d it:Wo)(hdat:o.data= .dict es ep)(hsz:es.size=kvs.length):R3 P w K tg (PZ d o kvs) [it] it (fun i h=>h.IsKeyIter it d i es.size ep) where
 mem:=by simp
 obj:=fun i h st b a=>by
  have e:b=it:=by simpa using a
  subst e;obtain⟨o,e,c,d⟩:=st;exact⟨o,e,fun v z=>by rw[d]at z;cases z⟩
 keep:=fun i h h' st k=>by
  obtain⟨n,e,r⟩:=st;exact⟨n,k it (by simp) n e,r⟩
 item:=by
  intro X hP p hK hc i pins s σ H E I g st q;subst hP p hK;obtain⟨hF,hi⟩:=q;obtain⟨f0,f1,f2,f3,f4,f5⟩:=g it (by simp);obtain⟨f,hob⟩:=(show s.heap.get? d=some o/\WO X.prog X.w H s.heap d (.dT kvs) from I.hok d _ hF);obtain⟨z,y,xs,r,o',es',ep',q1,q2,q3,q4,q5⟩:=hob;rw[f]at q1;cases q1;rw[hdat]at q3;cases q3;have l:i < es.size:=by omega
  refine FZ st f hdat l fun h' j sb=>?_
  have I1:Wx X pins σ H {s with heap:=h'}:=I.turned (t':=s.toks) (fun b o a e=>(sb.2 b a).trans e) f0 f1 f3 f4 f5;obtain⟨n,e,c,dd⟩:=id j;have hxl:xs.length=es.size:=by rw[<-Array.length_toList,q4,Y0]
  have hx:xs[i]?=some xs[i]:=Y6 (by omega);obtain⟨v,hv,a⟩:=KT.at' r hx;have hk:es[i].key= .ref xs[i].2.1:=by
   have:es.toList[i]?=(xs.map (entryOfKey (tupleKind (WY X.prog X.w))))[i]?:=by rw[q4]
   rw[Yc,hx,Array.getElem?_toList,XW l]at this;rw[Option.some.inj this];rfl
  exact⟨_,rfl,ES (s:={s with heap:=h'}) e c dd (by decide) ⟨.ref xs[i].2.1,H,I1,hk,⟨rfl,_,_,v,rfl,hv,a⟩,j,fun b a=>(g b a).1⟩⟩
 done:=by
  intro X hP p hK hc i pins s σ H E I g st q;subst hP p hK;obtain⟨hF,hi⟩:=q;obtain⟨f0,f1,f2,f3,f4,f5⟩:=g it (by simp);have f:s.heap.get? d=some o:=(show s.heap.get? d=some o/\WO X.prog X.w H s.heap d (.dT kvs) from I.hok d _ hF).1;exact K3 (I.ok.hd hc) st f hdat (by omega) fun h' eb=>⟨rfl,I.turned (t':=s.toks) (fun b o a e=>eb b o a e) f0 f1 f3 f4 f5⟩
 self:=fun A i s Q E st h=>by
  exact V6 st h
section
variable{X:Cx}{K:Wm}
def HB(td:TE):TI:=fun σ H R=>td σ H fun x H1=>∃a kvs,x= .ref a/\H1 a=some (.dT kvs)/\∀o,R (PZ a o kvs) (upd H1 a (.frz o (.dT kvs)))
theorem PU{tg e:Ws}{td:TE}(hl:PE X e td):PI X tg e (HB td):=by
 intro pins s σ H R I h;refine WZ (hl pins s σ H _ I h) fun v s1 ⟨x,H1,i,j,a,kvs,ex,g,q⟩=>?_
 subst ex;cases j;obtain⟨z,y,xs,r,o,es,ep,f,n,d,l,q5⟩:=(show WO X.prog X.w H1 s1.heap a (.dT kvs) from i.hok a _ g);have aa:xs.length=es.size:=by rw[<-Array.length_toList,l,Y0]
 have ab:=Paired.length r;refine L1 y f n d ?_;have c:=i.freeze g f;refine⟨s1.heap.objs.size,[s1.heap.objs.size],_,_,_,rfl,c.kept (t':=s1.toks) fun b o e=>Y7 _ e,wF a _ d (by omega),⟨_,Yl _ rfl,rfl,rfl⟩,fun b p=>?_,q o⟩;have e:b=s1.heap.objs.size:=by simpa using p
 subst e;exact c.fpOk (Y5 _) (c.hok.fresh (Y5 _))
def A8(t:TE):TE:=fun σ H Q=>∃d kvs,H d=some (.dT kvs)/\t σ H fun v H'=>∃o,H' d=some (.frz o (.dT kvs))/\Q v (upd H' d (.dT kvs))
theorem tK{e:Ws}{t:TE}(h:PE X e t):PE X e (A8 t):=by
 intro pins s σ H Q I a;obtain⟨d,kvs,f,a⟩:=a;have b:∀o u,X.H₀ d≠some (.frz o u):=fun o u z=>by have:=I.base.frzs d o u z;rw[f]at this;cases this
 exact WZ (h pins s σ H _ I a) fun u s1 ⟨v,H1,g,r,o,c,q⟩=>⟨v,_,g.thaw c b,r,q⟩
end
section
variable{caps:List (Option Nat)}{g:TG}{tc:TT}{te td:TE}{d:Wo}{kvs:List (List WU×V)}{σ:St}{H:Hp}{Q:VK}
theorem dL(hd:H d=some (.dT kvs))(htd:∀R:VK,R (.ref d) H->td σ H R)(Pv:Nat->List V->St->Prop)(h0:Pv 0 [] (Jj caps σ))(hl:∀i ys σ',Pv i ys σ'->ys.length <=i)(hz:kvs.length <=100000)
  (hs:∀Hf o,(∀c,c≠d->Hf c=H c)->Hf d=some (.frz o (.dT kvs))->∀i b k v ys σ',kvs[i]?=some (k,v)->H b=some (.tup (k.map kV))->Pv i ys σ'->g (.ref b) σ' Hf fun σ2 H2=>tc σ2 H2 fun c H3=>if c=true then te σ2 H3 fun y H4=>Pv (i+ 1) (ys++[y]) σ2/\H4=Hf else Pv (i+ 1) ys σ2/\H3=Hf)
  (he:∀ys σ',Pv kvs.length ys σ'->∀p G,H p=none->Ww H G->G p=some (.lst ys)->Q (.ref p) G):A8 (Ri caps (HB td) g tc te) σ H Q:=by
 refine⟨d,kvs,hd,htd _ ⟨d,kvs,rfl,hd,fun o=>?_⟩⟩;obtain⟨Hf,n⟩:∃Hf,Hf=upd H d (.frz o (.dT kvs)):=⟨_,rfl⟩;rw[<-n];have f:Hf d=some (.frz o (.dT kvs)):=by rw[n,Jn]
 have h:∀c,c≠d->Hf c=H c:=fun c j=>by rw[n,WM j]
 refine⟨fun i m ys σ' H'=>m=kvs.length - i/\i <=kvs.length/\Pv i ys σ'/\H'=Hf,⟨kvs.length,by simp,Yy _,h0,rfl⟩,?_⟩;rintro i m ys σ' H' ⟨rfl,hi,p,rfl⟩;have w:=hl i ys σ' p
 by_cases hlt:i < kvs.length
 .refine .inr ⟨⟨f,hlt⟩,Yg (Xv (Yg w hlt)) (DV hz),fun r σ2 H2=>Pv (i+ 1) r σ2/\H2=H',fun r σ2 H2 q=>⟨kvs.length - (i+ 1),by omega,rfl,hlt,q⟩,fun x H2 y=>?_⟩;obtain⟨e,b,k,v,ex,hk,s⟩:=y;subst e ex;have aa:b≠d:=fun z=>by rw[z,f]at s;cases s
  exact hs H2 o h f i b k v ys σ' hk (by rw[<-h b aa];exact s) p
 .have e:i=kvs.length:=by omega
  subst e;refine .inl ⟨⟨f,Y5 _⟩,Ny (YH w hz),fun l a=>⟨o,?_,he ys σ' p l _ ?_ (fun c u e=>?_) ?_⟩⟩
  .have:d≠l:=fun z=>by rw[<-z,f]at a;cases a
   rw[WM this];exact f
  .have:l≠d:=fun z=>by rw[z,f]at a;cases a
   rw[<-h l this];exact a
  .by_cases j:c=d
   .rw[j,hd]at e;rw[j,Jn];exact e
   .have:c≠l:=fun z=>by rw[<-z,h c j]at a;rw[a]at e;cases e
    rw[WM j,WM this,h c j];exact e
  .have:l≠d:=fun z=>by rw[z,f]at a;cases a
   rw[WM this,Jn]
end
section
variable{X:Cx}{pos pos' p0:Pos}{o i value:Ws}{td ty tv tz:TE}
def HR(td ty tv:TE):TS:=fun D σ H=>tv σ H fun v H1=>td σ H1 fun x H2=>ty σ H2 fun y H3=>∃ (a b:Wo) (k:List WU) (kvs:List (List WU×V)),x= .ref a/\y= .ref b/\H3 a=some (.dT kvs)/\H3 b=some (.tup (k.map kV))/\kvs.length < sizeLine/\∀G,Jh a H3 G->G a=some (.dT (Md kvs k v))->D.nx σ G
theorem Sr(hu:X.A.units+ 1 < cLine)(ho:PE X o td)(hi:PE X i ty)(hv:PE X value tv)(hs:swapsWith value (some (.Subscript o i pos')) pos.line X.env=pure false):
  PS X (.Assign [.Subscript o i pos'] value pos) (HR td ty tv):=by
 intro pins s σ H D I h;refine wpAny_Assign_Subscript (WZ (hv pins s σ H _ I h) fun r s1 ⟨v,H1,z,c,f⟩=>WZ (ho pins s1 σ H1 _ z f) fun u s2 ⟨x,H2,w,rx,e⟩=>WZ (hi pins s2 σ H2 _ w e) fun iv s3 ⟨y,H3,q,ry,a,b,k,kvs,ex,j,n,l,g,d⟩=>?_) hs;subst ex j;obtain rfl:u=Value.ref a:=rx;exact Qz hu q (Da.t (k:=k) n l g) ry c fun s4 p=>⟨σ,_,p,d _ Jh.upd Jn⟩
def K9:R2:=fun y x H Q=>∃ (a b:Wo) (k:List WU) (kvs:List (List WU×V)),y= .ref b/\x= .ref a/\Rd H a (.dT kvs)/\H b=some (.tup (k.map kV))/\Q (.bl (J5 kvs k).isSome) H
theorem SU(hu:X.A.units+ 1 < cLine):JA X (compareOp .In) K9:=by
 intro pins s σ H y x v u Q I ry rx h;obtain⟨a,b,k,kvs,rfl,rfl,d,c,q⟩:=h;cases rx;exact PV hu I (.inr ⟨kvs,k,b,d,rfl,c,rfl⟩) ry fun s' e=>⟨.bl _,H,e,rfl,q⟩
def KQ:R2:=fun y x H Q=>∃ (a b:Wo) (k:List WU) (kvs:List (List WU×V)),y= .ref b/\x= .ref a/\Rd H a (.dT kvs)/\H b=some (.tup (k.map kV))/\Q (.bl (!(J5 kvs k).isSome)) H
theorem xJ(hu:X.A.units+ 1 < cLine):JA X (compareOp .NotIn) KQ:=by
 intro pins s σ H y x v u Q I ry rx h;obtain⟨a,b,k,kvs,rfl,rfl,d,c,q⟩:=h;cases rx;exact OH hu I (.inr ⟨kvs,k,b,d,rfl,c,rfl⟩) ry fun s' e=>⟨.bl _,H,e,rfl,q⟩
def Hd:TE:=fun _ H Q=>∀p G,H p=none->Ww H G->G p=some (.dT [])->Q (.ref p) G
theorem FM:PE X (.Dict [] [] p0) Hd:=by
 intro pins s σ H Q I h;exact yN pins s σ H Q I fun p a=>h p _ a (TZ a) Jn
end
section
variable{X:Cx}
def LB(t:TS):TS:=fun D σ H=>∃d kvs,H d=some (.dT kvs)/\t {nx:=fun σ' H'=>∃o,H' d=some (.frz o (.dT kvs))/\D.nx σ' (upd H' d (.dT kvs)),rt:=fun _ _=>False} σ H
theorem ZV{st:Stmt}{t:TS}(h:PS X st t):PS X st (LB t):=by
 intro pins s σ H D I a;obtain⟨d,kvs,e,a⟩:=a;have b:∀o u,X.H₀ d≠some (.frz o u):=fun o u z=>by have:=I.base.frzs d o u z;rw[e]at this;cases this
 refine WZ (h pins s σ H _ I a) fun f s1 k=>?_
 cases f with
 |next=>obtain⟨σ',H',g,o,c,q⟩:=k;exact⟨σ',_,g.thaw c b,q⟩
 |brk=>obtain⟨_,_,_,q⟩:=k;exact q.elim
 |cont=>obtain⟨_,_,_,q⟩:=k;exact q.elim
 |ret u=>obtain⟨_,_,_,_,_,q⟩:=k;exact q.elim
theorem wU{caps:List (Option Nat)}{wi:TI}{g:TG}{tc:TT}{te:TE}{i:Nat}{D:T5}{σ:St}{H:Hp}(h:A8 (Ri caps wi g tc te) σ H fun v G=>D.nx (σ.set i (some v)) G):LB (Ei (Ri caps wi g tc te) (Rk i)) D σ H:=h
end
end L2
namespace L2
open PySem PySem.Spec PyProof.Rows PySem.W
section
variable{X:Cx}{K:Wm}
def F1(K:Wm):R2:=fun x y H Q=>∃a b xs,x= .ref a/\y= .ref b/\WB K H a xs/\WB K H b []/\Q (.bl (!decide (xs.length=0))) H
theorem Bx(hu:X.A.units+ 64 < cLine)(h:X.K=K):JA X (compareOp .NotEq) (F1 K):=by
 subst h;intro pins s σ H x y v u Q I rx ry h;obtain⟨a,b,xs,rfl,rfl,h1,h2,q⟩:=h;cases rx;cases ry;obtain⟨d,g,p,o⟩:=I.list h1;obtain⟨i,c,p2,n⟩:=I.list h2;cases c;have f:=g.length
 by_cases h0:xs.length=0
 .refine PySem.SeqAt.RcNeAt.lists (e:=fun _=>true) p.isList p2.isList (by rw[Yd,Yd,<-f,h0];rfl) (Yg (UT _ 64) hu) (fun j h1 h2=>?_) X.prog X.w _ _ ?_
  .rw[Yd]at h1
   lia
  .have l:d.toArray.size=0:=by rw[Yd];lia
   rw[l];rw[Yq h0]at q;exact NK I q rfl
 .refine PySem.SeqAt.RcNeAt.lists_lengths p.isList p2.isList (by rw[Yd,Yd,<-f];simp;exact fun z=>h0 (by rw[z];rfl)) (Yg (UT _ 64) hu) X.prog X.w _ _ ?_;rw[Yt h0]at q;exact NK I q rfl
end
end L2
namespace L2
open PySem PySem.Spec PyProof.Rows
structure dH(P:Wh)(w:Wl)(outer:List Env)(H:Hp)(s:Wi)(a C:Wo)(t:Wn)(B:Wr)(H':Hp)(s':Wi):Prop where
 os:s'.os=s.os
 bare:AllBare s'.gens
 fly:Heap.FlyingW B outer a (.ref C) t s'.heap
 hok:NB P w H' B
 un:Un (Mq outer) [] H H' s.heap s'.heap
 keepB:∀b o,s.heap.get? b=some o->b∉Mq outer->H b=none->B.get? b=some o
 thereB:∀b o,s.heap.get? b=some o->b∉Mq outer->∃o',B.get? b=some o'
def KG(P:Wh)(w:Wl):Gq:=fun outer H s E e s'=>∃ (a C:Wo) (t:Wn) (B:Wr) (H':Hp),e= .ref a/\dH P w outer H s a C t B H' s'/\E (.ref C) none H'
end L2
namespace L2
open PySem PySem.Spec PyProof.Rows PySem.Builtin PySem.Builtin.ObjectAttr PySem.Builtin.Getset_descriptor
structure uB(K:Wm)(C:Wo):Prop where
 ga:W.findIn K (.ref C) "__getattribute__"=some (some (.builtin "BaseException.__getattribute__"))
 gt:W.findIn K (.ref C) "__getattr__"=some none
 cl:W.findIn K (.ref C) "__class__"=some (some (.builtin "object.__class__"))
 ob:W.mroIn K C (.type "object")=some true
 bs:W.mroIn K C (.type "BaseException")=some true
end L2
namespace L2
open PySem PySem.Spec PyProof.Rows
def HT:HO:=.ext fun _=>True
theorem HT.ok{P:Wh}{w:Wl}{H:Hp}{h:Wr}{a:Wo}{o:Obj}(e:h.get? a=some o):WO P w H h a (.frz o HT):=⟨e,trivial,⟨o,e⟩,fun _ _ _ _=>trivial⟩
structure Gp(mg:Wd)(base:Wr)(c P:Wo):Prop where
 hd:W.CodeHd base c P
 gP:mainGlobals≠P
 bt:base.BuiltinsAt mg P
structure TK(H:Hp)(P:Wo)(q:Str):Prop where
 ex:∃ps,H P=some (.tbl ps)/\TriplesOk ps.toList/\∀pos cv,codeAmong pos ps.toList=some cv->∃c' oc vs t,cv= .ref c'/\H c'=some (.frz oc HT)/\oc.data= .fields vs/\vs[1]?=some (.str q t)
theorem TK.of{H G:Hp}{P:Wo}{q:Str}(x:TK H P q)(h:∀b o,H b=some o->(∃ps,o= .tbl ps)\/(∃oc,o= .frz oc HT)->G b=some o):TK G P q:=by
 obtain⟨ps,h1,h2,a⟩:=x;refine⟨ps,h _ _ h1 (.inl ⟨ps,rfl⟩),h2,fun pos g e=>?_⟩;obtain⟨c',oc,vs,t,f,d,c⟩:=a pos g e;exact⟨c',oc,vs,t,f,h _ _ d (.inr ⟨oc,rfl⟩),c⟩
theorem TK.same{H G:Hp}{P:Wo}{q:Str}(x:TK H P q)(s:Ww H G):TK G P q:=x.of fun b o e _=>s b o e
theorem wN{pos:Pos}{a b:Int}{c cv:Wn}:∀ (l:Wq),TriplesOk l->codeAmong pos (l++[rawInt a,rawInt b,c])=some cv->codeAmong pos l=some cv\/cv=c:=by
 intro l h e
 fun_induction TriplesOk l with
 |case1=>
  simp only[List.nil_append,codeAmong,rawInt]at e
  split at e
  .exact .inr (Option.some.inj e).symm
  .cases e
 |case2 a' t b' u x r ih=>
  simp only[List.cons_append,codeAmong]at e ⊢
  split at e
  .rename_i q;rw[Y3 q];exact .inl e
  .rename_i q;rw[Y2 q];exact ih h e
 |case3 l h1 h2=>exact h.elim
section
variable{X:Cx}{pins:Wg}{σ:St}{H:Hp}{s:Wi}{c P:Wo}{q:Str}
abbrev El(q:Str)(params:Arguments)(body:Ws)(scope:Scope)(cl:List (Str×Addr))(pm cv ctv:Wn):Obj:={cls:=.type "function",data:=.func (W.kla_fn "<lambda>" q params body scope cl pm cv ctv)}
theorem jP{M:Model}{A:Wk}{E:We}{Q:We}{params:Arguments}{body:Ws}{scope:Scope}{cl:List (Str×Addr)}{pos:Pos}(I:Wx X pins σ H s)(lc:Gp X.mg X.base c P)(hcode:X.env.code= .ref c)(tb:TK H P q)
  (hq:X.env.qual++"<lambda>"=q) (hcl:closureFor scope X.env=pure cl) (hdef:defaultsOf params X.env=([],[]))
  (h:∀f c' ctv pm G s1 oc vs t,Wx X pins σ G s1->Jh P H G->H f=none->TK G P q->G f=some (.frz (El q params body scope cl pm (.ref c') ctv) HT)->G c'=some (.frz oc HT)->oc.data= .fields vs->vs[1]?=some (.str q t)->(∀b o,s.heap.get? b=some o->b≠P->s1.heap.get? b=some o)->Q (.ref f) s1):
  wpAny M A (eval (.Lambda params body scope pos) X.env) Q E s:=by
 subst hq;obtain⟨ps,h1,h2,h3⟩:=tb;have hP:s.heap.get? P=some (W.tabObj ps):=I.hok P _ h1;refine W.kla_eval hdef ?_;have fr:∀b o,s.heap.get? b=some o->b < s.heap.objs.size:=fun b o e=>Yk e
 cases hn:codeAmong pos ps.toList with
 |none=>
  refine W.kla_makeFunction (mg:=X.mg) (clos:=cl) hcl I.ok.glob (I.mod.glob.keeps I.bk) hcode (lc.hd.keeps I.bk) hP h2 hn lc.gP (lc.bt.keeps I.bk) fun c' ctv h' tk hx i hlt hrec htb=>?_
  obtain⟨c2,oc,vs,t,v,hoc,hd,hv⟩:=hrec;cases v;generalize hf:h'.objs.size=f at*;have nP:∀b,s.heap.objs.size <=b->b≠P:=fun b a z=>by subst z;exact absurd (Yx (Yk hP) a) (X8 _)
  have r:s.heap.objs.size <=f:=YH i (Xv hlt);have Hc:H c'=none:=I.hok.fresh i;have d:H f=none:=I.hok.fresh r;have cf:c'≠f:=Yr hlt;have old:∀b o,s.heap.get? b=some o->b≠c'/\b≠f:=fun b o e=>⟨Yr (Yx (fr b o e) i),Yr (Yx (fr b o e) r)⟩
  have keep:∀b o,s.heap.get? b=some o->b≠P->∀p:Obj,(h'.push p).get? b=some o:=fun b o e a p=>Y7 _ (hx b o a e)
  let G:Hp:=upd (upd (upd H P (.tbl (ps++#[rawInt pos.line,rawInt pos.col,.ref c']))) c' (.frz oc HT)) f (.frz (El (X.env.qual++"<lambda>") params body scope cl ((X.mg "__name__").getD .none) (.ref c') ctv) HT)
  have Gf:G f=some (.frz (El (X.env.qual++"<lambda>") params body scope cl ((X.mg "__name__").getD .none) (.ref c') ctv) HT):=Jn;have Gc:G c'=some (.frz oc HT):=by show upd _ f _ c'=_;rw[WM cf,Jn]
  have GP:G P=some (.tbl (ps++#[rawInt pos.line,rawInt pos.col,.ref c'])):=by show upd _ f _ P=_;rw[WM (Ne.symm (nP f r)),WM (Ne.symm (nP c' i)),Jn]
  have Go:∀b,b≠P->b≠c'->b≠f->G b=H b:=fun b a1 a2 a3=>by show upd _ f _ b=_;rw[WM a3,WM a2,WM a1]
  have g:∀b u,H b=some u->b≠P->G b=some u:=fun b u e a=>by rw[Go b a (fun z=>by subst z;rw[Hc]at e;cases e) (fun z=>by subst z;rw[d]at e;cases e)];exact e
  have hbut:Jh P H G:=fun b u e a=>g b u e a
  have tab':TK G P (X.env.qual++"<lambda>"):=by
   refine⟨_,GP,?_,fun pos' cv e=>?_⟩
   .have:(ps++#[rawInt pos.line,rawInt pos.col,Value.ref c']).toList=ps.toList++[rawInt pos.line,rawInt pos.col,.ref c']:=by simp
    rw[this];exact TriplesOk_snoc _ _ _ _ h2
   .have:(ps++#[rawInt pos.line,rawInt pos.col,Value.ref c']).toList=ps.toList++[rawInt pos.line,rawInt pos.col,.ref c']:=by simp
    rw[this]at e;rcases wN _ h2 e with e|e
    .obtain⟨c1,oc1,vs1,t1,e1,v,e3⟩:=h3 pos' cv e;exact⟨c1,oc1,vs1,t1,e1,g _ _ v (fun z=>by subst z;rw[h1]at v;cases v),e3⟩
    .exact⟨c',oc,vs,t,e,Gc,hd,hv⟩
  refine h f c' ctv _ G _ oc vs t (I.un (t':=tk) ⟨fun b o e n _ _=>keep b o e (fun z=>by subst z;rw[h1]at n;cases n) _,fun b o e n _ _=>⟨o.slots,keep b o e (fun z=>by subst z;rw[h1]at n;cases n) _⟩,fun b o e n _=>?_,fun b o e _=>?_,fun b xs e=>?_,fun b ob u e=>?_,fun b ps' e=>?_⟩ fun b u e=>?_) hbut d tab' Gf Gc hd hv fun b o e a=>keep b o e a _
  .rw[Go b (fun z=>by subst z;rw[h1]at n;cases n) (old b o e).1 (old b o e).2];exact n
  .by_cases a:b=P
   .subst a;exact⟨_,Y7 _ htb⟩
   .exact⟨o,keep b o e a _⟩
  .exact g b _ e (fun z=>by subst z;rw[h1]at e;cases e)
  .exact g b _ e (fun z=>by subst z;rw[h1]at e;cases e)
  .by_cases a:b=P
   .subst a;rw[h1]at e;cases e;exact⟨_,GP⟩
   .exact⟨#[],by rw[g b _ e a];simp⟩
  .by_cases b1:b=f
   .subst b1;rw[Gf]at e;cases e;exact HT.ok (by rw[<-hf];exact Yl _ rfl)
   .by_cases b2:b=c'
    .subst b2;rw[Gc]at e;cases e;exact HT.ok (Y7 _ hoc)
    .by_cases b3:b=P
     .subst b3;rw[GP]at e;cases e;exact Y7 _ htb
     .rw[Go b b3 b2 b1]at e;refine(I.hok b u e).stay (fun w u' j z=>keep w u' z (fun l=>?_) _) (fun w z=>g w _ z fun l=>by subst l;rw[h1]at z;cases z) fun w xs z=>g w _ z fun l=>by subst l;rw[h1]at z;cases z
      rcases j with rfl|j
      .exact b3 l
      .subst l;rw[h1]at j;cases j
 |some cv=>
  obtain⟨c',oc,vs,t,rfl,hc',hd,hv⟩:=h3 pos cv hn;refine W.kla_makeFunctionHit (mg:=X.mg) (clos:=cl) hcl I.ok.glob (I.mod.glob.keeps I.bk) hcode (lc.hd.keeps I.bk) hP h2 hn (lc.bt.keeps I.bk) fun ctv h' tk hk hsz=>?_
  have hk':∀b o,s.heap.get? b=some o->∀p:Obj,(h'.push p).get? b=some o:=fun b o e p=>Y7 _ (hk b o e)
  have d:H h'.objs.size=none:=I.hok.fresh hsz;refine h h'.objs.size c' ctv _ (upd H h'.objs.size (.frz _ HT)) _ oc vs t (I.laid (t':=tk) (fun b u e=>hk' b u e _) hsz (HT.ok (Yl _ rfl))) ((TZ d).toBut) d (TK.same ⟨ps,h1,h2,h3⟩ (TZ d)) Jn ?_ hd hv fun b o e _=>hk' b o e _
  exact TZ d _ _ hc'
end
def JR(cl:List (Str×Addr))(h:Wr)(H:Hp):Hp:=fun b=>if b∈cl.map (·.2) then(h.get? b).map (fun o=>.frz o HT) else H b
def DW(cl:List (Str×Addr))(H:Hp):Hp:=fun b=>if b∈cl.map (·.2) then none else H b
theorem NB.frz{P:Wh}{w:Wl}{H:Hp}{h:Wr}{a:Wo}{o:Obj}{u:HO}(x:NB P w H h)(e:H a=some (.frz o u)):h.get? a=some o:=(x a _ e).1
section
variable{cl:List (Str×Addr)}{h hs hs':Wr}{G H2 Gc:Hp}{fs:List Addr}{P:Wh}{w:Wl}
theorem Tk{b:Wo}(n:b∉cl.map (·.2)):JR cl h G b=G b:=Y2 n
theorem Re{b:Wo}(n:b∈cl.map (·.2)):JR cl h G b=(h.get? b).map (fun o=>.frz o HT):=Y3 n
theorem Dy{b:Wo}(n:b∉cl.map (·.2)):DW cl G b=G b:=Y2 n
theorem EF{b:Wo}(n:b∈cl.map (·.2)):DW cl G b=none:=Y3 n
theorem Fh(hok:NB P w (JR cl h G) hs)(hc:∀b∈cl.map (·.2),(∃o,h.get? b=some o)/\b∉fs)(u:Un fs [] (DW cl (JR cl h G)) H2 hs hs'):
  Un fs [] (JR cl h G) (JR cl h H2) hs hs'/\(∀b∈cl.map (·.2),H2 b=none)/\∀B:Heap,(∀b o,hs.get? b=some o->b∉fs->DW cl (JR cl h G) b=none->B.get? b=some o)->NB P w H2 B->NB P w (JR cl h H2) B:=by
 have Jo:∀b,b∈cl.map (·.2)->∃o,h.get? b=some o/\hs.get? b=some o/\JR cl h G b=some (.frz o HT):=fun b a=>by
  obtain⟨⟨o,e⟩,_⟩:=hc b a;have q:JR cl h G b=some (.frz o HT):=by rw[Re a,e];rfl
  exact⟨o,e,(hok b _ q).1,q⟩
 have d:∀b,JR cl h G b=none->b∉cl.map (·.2):=fun b e a=>by obtain⟨o,_,_,q⟩:=Jo b a;rw[e]at q;cases q
 have f:∀b,JR cl h G b=none->DW cl (JR cl h G) b=none:=fun b e=>by rw[Dy (d b e)];exact e
 have i:∀b∈cl.map (·.2),H2 b=none:=fun b a=>by
  obtain⟨o,_,e,_⟩:=Jo b a;exact u.free b o e (EF a) (by simp)
 refine⟨⟨fun b o e n j g=>u.keep b o e (f b n) j g,fun b o e n j g=>u.slot b o e (f b n) j g,fun b o e n g=>?_,u.there,fun b xs e=>?_,fun b r x e=>?_,fun b ps e=>?_⟩,i,fun B hB v b o e=>?_⟩
 .rw[Tk (d b n)];exact u.free b o e (f b n) g
 .by_cases a:b∈cl.map (·.2)
  .obtain⟨o,_,_,q⟩:=Jo b a;rw[e]at q;cases q
  .rw[Tk a]at e ⊢;exact u.tups b xs (by rw[Dy a,Tk a];exact e)
 .by_cases a:b∈cl.map (·.2)
  .rw[Re a]at e ⊢;exact e
  .rw[Tk a]at e ⊢;exact u.frzs b r x (by rw[Dy a,Tk a];exact e)
 .by_cases a:b∈cl.map (·.2)
  .obtain⟨o,_,_,q⟩:=Jo b a;rw[e]at q;cases q
  .rw[Tk a]at e;obtain⟨m,z⟩:=u.tbls b ps (by rw[Dy a,Tk a];exact e);exact⟨m,by rw[Tk a];exact z⟩
 .by_cases a:b∈cl.map (·.2)
  .obtain⟨o',e1,e2,q⟩:=Jo b a;rw[Re a,e1]at e;cases e;exact HT.ok (hB b o' e2 (hc b a).2 (EF a))
  .rw[Tk a]at e;have p:∀c l,H2 c=some l->c∉cl.map (·.2):=fun c l z s=>by rw[i c s]at z;cases z
   exact(v b o e).stay (fun _ _ _ z=>z) (fun c z=>by rw[Tk (p c _ z)];exact z) fun c xs z=>by rw[Tk (p c _ z)];exact z
theorem uT(hc:∀b∈cl.map (·.2),(∃o,hs.get? b=some o)/\G b=none)(u:Un fs [] (JR cl hs G) H2 hs hs')(hk:NB P w H2 hs'):Un fs [] G (DW cl H2) hs hs'/\NB P w (DW cl H2) hs':=by
 have Jo:∀b,b∈cl.map (·.2)->∃o,hs.get? b=some o/\hs'.get? b=some o/\H2 b=some (.frz o HT):=fun b a=>by
  obtain⟨⟨o,e⟩,_⟩:=hc b a;have q:JR cl hs G b=some (.frz o HT):=by rw[Re a,e];rfl
  have l:=u.frzs b o HT q;exact⟨o,e,(hk b _ l).1,l⟩
 have d:∀b x,G b=some x->b∉cl.map (·.2):=fun b x e a=>by rw[(hc b a).2]at e;cases e
 refine⟨⟨fun b o e n i f=>?_,fun b o e n i f=>?_,fun b o e n f=>?_,u.there,fun b xs e=>?_,fun b s x e=>?_,fun b ps e=>?_⟩,fun b o e=>?_⟩
 .by_cases a:b∈cl.map (·.2)
  .obtain⟨o',g,j,_⟩:=Jo b a;rw[e]at g;cases g;exact j
  .exact u.keep b o e (by rw[Tk a];exact n) i f
 .by_cases a:b∈cl.map (·.2)
  .obtain⟨o',g,j,_⟩:=Jo b a;rw[e]at g;cases g;exact⟨o.slots,j⟩
  .exact u.slot b o e (by rw[Tk a];exact n) i f
 .by_cases a:b∈cl.map (·.2)
  .exact EF a
  .rw[Dy a];exact u.free b o e (by rw[Tk a];exact n) f
 .have a:=d b _ e;rw[Dy a];exact u.tups b xs (by rw[Tk a];exact e)
 .have a:=d b _ e;rw[Dy a];exact u.frzs b s x (by rw[Tk a];exact e)
 .have a:=d b _ e;obtain⟨m,z⟩:=u.tbls b ps (by rw[Tk a];exact e);exact⟨m,by rw[Dy a];exact z⟩
 .by_cases a:b∈cl.map (·.2)
  .rw[EF a]at e;cases e
  .rw[Dy a]at e;have p:∀c h,H2 c=some h->(∀o',h≠ .frz o' HT)->c∉cl.map (·.2):=fun c h z r v=>by obtain⟨o',_,_,q⟩:=Jo c v;rw[z]at q;cases q;exact r o' rfl
   exact(hk b o e).stay (fun _ _ _ z=>z) (fun c z=>by rw[Dy (p c _ z fun _ q=>by cases q)];exact z) fun c xs z=>by rw[Dy (p c _ z fun _ q=>by cases q)];exact z
end
def Rm(P:Wh)(w:Wl)(K:Wm)(mg:Wd)(base:Wr)(N':List Str)(q:Str)(scope:Scope)(f:Wo)(cd:Wn)(cl:List (Str×Addr))(A:Wk)(outer:List Env)(s:Wi)(H:Hp)(E:XK):Cx where
 prog:=P
 w:=w
 K:=K
 mg:=mg
 base:=base
 A:=A.deeper (W.envX q scope s.heap.objs.size f cd cl)
 N:=N'
 s₀:=s
 H₀:=H
 env:=W.envX q scope s.heap.objs.size f cd cl
 outer:=outer
 stack:=W.envX q scope s.heap.objs.size f cd cl::outer
 ex:=[]
 calm:=true
 fn:=fun _=>false
 pn:=[]
 xe:=fun e s'=>wpAny (model P w) (A.deeper (W.envX q scope s.heap.objs.size f cd cl)) (leaving (W.envX q scope s.heap.objs.size f cd cl) e) (fun _ s''=>KG P w outer H s E e s'') (fun e' s''=>KG P w outer H s E e' s'') s'
def Holds(cl:List (Str×Addr))(h:Wr)(N':List Str)(σ:St):Prop:=∀ (i:Nat) (x:Str) (v:V),N'[i]?=some x->σ[i]?=some (some v)->∃c o u,cl.lookup x=some c/\h.get? c=some o/\o.data= .cell (some u)/\WI v u
structure PL(cl:List (Str×Addr))(h:Wr)(scope:Scope):Prop where
 inj:∀x y c,cl.lookup x=some c->cl.lookup y=some c->x=y
 has:∀x,(x,NameKind.free)∈scope.names->∃c,cl.lookup x=some c
 cell:∀b∈cl.map (·.2),∃o v,h.get? b=some o/\o.data= .cell v
theorem Cc{cl:List (Str×Addr)}{x:Str}{c:Wo}(h:cl.lookup x=some c):c∈cl.map (·.2):=Ya.mpr ⟨(x,c),Xf h,rfl⟩
theorem Kl{env:Env}:∀ (names:List (Str×NameKind)) (cs:List (Str×Addr)),(∀x,(x,NameKind.free)∈names->∃c,env.cells.lookup x=some c)->(∀p∈cs,env.cells.lookup p.1=some p.2)->
  ∃cl,(forIn names cs fun(p:Str×NameKind) (r:List (Str×Addr))=>(match p with|(name,kind)=>(if(kind==NameKind.free)=true then(do let a <-cellOf env name;pure (ForInStep.yield ((name,a)::r))) else pure (ForInStep.yield r)):Sem (ForInStep (List (Str×Addr)))))=pure cl/\∀p∈cl,env.cells.lookup p.1=some p.2
 |[],cs,_,h2=>⟨cs,rfl,h2⟩
 |(n,k)::r,cs,h1,h2=>by
  by_cases hk:k=NameKind.free
  .subst hk;obtain ⟨c, hc⟩ := h1 n Ys;obtain ⟨cl, e, a⟩ := Kl r ((n, c) :: cs) (fun x b => h1 x (Yi _ b)) (fun p d => by
    rcases Yp.mp d with rfl|d
    .exact hc
    .exact h2 p d)
   refine⟨cl,?_,a⟩;rw[UA];have:cellOf env n=pure c:=by unfold cellOf;rw[hc]
   simp only[this,beq_self_eq_true,if_true];exact e
  .obtain⟨cl,e,a⟩:=Kl r cs (fun x b=>h1 x (Yi _ b)) h2;have f:(k==NameKind.free)=false:=by simpa using hk
   refine⟨cl,?_,a⟩;rw[UA];simp only[f,Bool.false_eq_true,if_false];exact e
theorem tE{scope:Scope}{env:Env}(h:∀x,(x,NameKind.free)∈scope.names->∃c,env.cells.lookup x=some c):
  ∃cl,closureFor scope env=pure cl/\(∀x c,cl.lookup x=some c->env.cells.lookup x=some c)/\(∀x,(x,NameKind.free)∈scope.names->∃c,cl.lookup x=some c)/\∀p∈cl,env.cells.lookup p.1=some p.2:=by
 obtain⟨cl,e,a,b⟩:=Fo h;obtain⟨d,g,j⟩:=Kl scope.names [] h (fun p z=>nomatch z);have f:closureFor scope env=pure d:=by
  unfold closureFor;show(forIn scope.names [] _ >>=fun i=>pure i)=pure d;rw[show(forIn scope.names ([]:List (Str×Addr)) _:Sem _)=pure d from g];rfl
 have:(pure cl:Sem (List (Str×Addr)))=pure d:=e.symm.trans f;have z:cl=d:=by injection this
 subst z;exact⟨cl,e,a,b,j⟩
def ZK(P:Wo)(q:Str)(params:Arguments)(body:Ws)(scope:Scope)(cl:List (Str×Addr)):TE:=fun _ H Q=>TK H P q/\∀f c' ctv pm G oc vs t,Jh P H G->H f=none->TK G P q->G f=some (.frz (El q params body scope cl pm (.ref c') ctv) HT)->G c'=some (.frz oc HT)->oc.data= .fields vs->vs[1]?=some (.str q t)->Q (.ref f) G
section
variable{X:Cx}{c P:Wo}{q:Str}{params:Arguments}{body:Ws}{scope:Scope}{cl:List (Str×Addr)}{lpos:Pos}
theorem xT(lc:Gp X.mg X.base c P)(hcode:X.env.code= .ref c)(hq:X.env.qual++"<lambda>"=q)(hcl:closureFor scope X.env=pure cl)(hdef:defaultsOf params X.env=([],[])):PE X (.Lambda params body scope lpos) (ZK P q params body scope cl):=by
 intro pins s σ H Q I h;obtain⟨tb,h⟩:=h;exact jP I lc hcode tb hq hcl hdef fun f c' ctv pm G s1 a vs t n l j i g e d b _=>⟨.ref f,G,n,rfl,h f c' ctv pm G a vs t l j i g e d b⟩
variable{fn:Str}{p pos:Pos}{k k1:Nat}{ps:List Str}{sp:Sp}{N':List Str}{caps:List (Option Nat)}{te:XK->TE}{Kd:Addr->Str->Prop}
end
structure Ds(K:Wm)(x qual:Str)(st:Stmt)(f:Wo)(fd:Wj)(cdv:Wn):Prop where
 ex:∃ (oc:Wn) (od:Option Addr) (kV doc pm:Wn) (an:Option Addr) (ct:Wn) (osl:Array (Option Value)),
  fd=W.fnOf x qual (Mt st) (WC st) (Wt st) .none kV doc pm an cdv ct/\K.lookup f=some ⟨oc,od,.func fd,osl⟩/\W.codeIn K cdv qual=true
theorem Ds.ok{P:Wh}{w:Wl}{K:Wm}{mg:Wd}{base:Wr}{x qual:Str}{st:Stmt}{f:Wo}{fd:Wj}{cdv:Wn}{N ps:List Str}{k:Nat}{sp:Sp}(F:Ds K x qual st f fd cdv)(S:Jv N ps (Wt st))(len:∀vs H Q E,sp vs H Q E->vs.length=ps.length)
  (hbody : ∀ (A : Around) (outer : List Env) (s : Shared) (H : Hp) (vs : List V) (Q : VK) (E : XK), Room k (A.deeper (envOfC qual (Wt st) s.heap.objs.size f cdv)) -> sp vs H Q E ->
   ∃ t, Mf (To Je P w K mg base N qual (Wt st) f cdv A outer s H E).nox (WC st) t /\ t { nx := fun _ H' => Q .non H', rt := Q } (start N vs) H) : WA P w K mg base Je (k + 1) f fd ps sp := by
 obtain⟨j,i,kV,g,pm,l,ct,e,rfl,c,b⟩:=F.ex;refine R5 c b S len fun A outer s H vs Q E d a=>?_
 obtain⟨t,h,q⟩:=hbody A outer s H vs Q E d a;exact⟨t,h.nox,q⟩
theorem vI{P:Wh}{w:Wl}{K:Wm}{mg mb:Wd}{k:Nat}{fa a c T:Wo}{fd:Wj}{x:Str}{sp:Sp}{s₁:Wi}{vs:Wq}{ns:Wp}
  (KX:K.In s₁.heap) (hns:s₁.heap.Ns mainGlobals mg) (hb:s₁.heap.Ns builtinsNs mb) (hbb:∀x:Str,x≠"__name__"->mb x=bootBuiltins x) (hlim:s₁.heap.NoLimit) (hg:s₁.gens=#[])
  (hbm:∃bm ob,mg "__builtins__"=some (.ref bm)/\bm≠builtinsNs/\s₁.heap.get? bm=some ob/\ob.cls= .type "module"/\ob.dict=some builtinsNs/\ob.data= .plain)
  (hcd:W.CodeHd s₁.heap c T) (hT:s₁.heap.get? T=some (W.tabObj #[])) (hKT:K.lookup T=none)
  (ha:s₁.heap.get? a=some {cls:=.type "list",data:=.seq vs.toArray}) (hi:IntsAre vs ns) (hl:ns.length <=sizeLine) (hr:Room k callerA)
  (F:∀base:Heap,K.In base->base.Ns mainGlobals mg->Gp mg base c T->WA P w K mg base Je k fa fd [x] sp) (hbind:∀ (s:Wi) (u:Wn),BindsTo s fd ⟨[u],[]⟩ [(x,u)])
  (hsp:∀H:Hp,H T=some (.tbl #[])->WB K H a (ns.map V.int)->sp [.ref a] H (fun v _=>v= .bl true) fun _ _ _=>False):
  codeAny (model P w) callerA (.call (.ref fa) ⟨[.ref a],[]⟩) (fun r s'=>r= .ok (.ret (.bool true))/\OldK s₁.heap s'.heap/\s'.os=s₁.os/\AllBare s'.gens) s₁:=by
 have rv:=Pa hi;have lenV:=hi.length;have aT:a≠T:=fun z=>by subst z;rw[ha]at hT;cases hT
 obtain⟨bm,ob,m1,m2,p,m4,m5,m6⟩:=hbm;have core:∀H:Hp,(∀b,H b=none\/(∃o xs,H b=some (.frz o (.lst xs)))\/b=T)->H T=some (.tbl #[])->WB K H a (ns.map V.int)->NB P w H s₁.heap->(∀b,H b≠none->b=a\/b=T)->(H a≠none->K.lookup a=none)->
   codeAny (model P w) callerA (.call (.ref fa) ⟨[.ref a],[]⟩) (fun r s'=>r= .ok (.ret (.bool true))/\OldK s₁.heap s'.heap/\s'.os=s₁.os/\AllBare s'.gens) s₁:=by
  intro H hO hHT hS hok hA hK;have f:∀{b:Wo} {o:Obj},s₁.heap.get? b=some o->H b=none->(GS s₁.heap H).get? b=some o:=fun e n=>ZC e n
  have no2:∀{b:Wo} {o:Obj},s₁.heap.get? b=some o->o.cls≠ .type "list"->o.cls≠ .none->H b=none:=fun {b o} e n1 n2=>by
   cases q:H b with
   |none=>rfl
   |some u=>
    rcases hA b (by rw[q];simp) with e'|e'
    .subst e';rw[ha]at e;cases e;exact absurd rfl n1
    .subst e';rw[hT]at e;cases e;exact absurd rfl n2
  have noA:∀{b:Wo} {o:Obj} {es:Array DictEntry} {ep:Nat},s₁.heap.get? b=some o->o.data= .dict es ep->H b=none:=fun {b o es ep} e d=>by
   cases q:H b with
   |none=>rfl
   |some u=>
    rcases hA b (by rw[q];simp) with e'|e'
    .subst e';rw[ha]at e;cases e;have d':Data.seq vs.toArray _=Data.dict es ep:=d;cases d'
    .subst e';rw[hT]at e;cases e;have d':Data.fields #[]=Data.dict es ep:=d;cases d'
  have j:∀{b:Wo} {m:Wd},s₁.heap.Ns b m->(GS s₁.heap H).Ns b m:=fun {b m} ⟨o,es,ep,e,d,r⟩=>⟨o,es,ep,f e (noA e d),d,r⟩
  have hKb : K.In (GS s₁.heap H) := fun b o e => f (KX b o e) (by
   cases q:H b with
   |none=>rfl
   |some u=>
    rcases hA b (by rw[q];simp) with e'|e'
    .subst e';rw[hK (by rw[q];simp)]at e;cases e
    .subst e'; rw [hKT] at e; cases e)
  have hM:Mod K mg (GS s₁.heap H):=⟨hKb,j hns,⟨mb,j hb,hbb⟩,let ⟨mc,h1,h2⟩:=hlim;⟨mc,j h1,h2⟩⟩;have gT:mainGlobals≠T:=fun z=>by
   obtain⟨o,es,ep,e,d,_⟩:=hns;rw[z,hT]at e;cases e;cases d
  have hLC:Gp mg (GS s₁.heap H) c T:=by
   refine⟨?_,gT,bm,ob,m1,m2,?_,?_,f p (no2 p (by rw[m4];nofun) (by rw[m4];nofun)),m4,m5,m6⟩
   .obtain⟨o,ws,file,tf,flags,tg,inF,text,tt,e1,e2,r⟩:=hcd;exact⟨o,ws,file,tf,flags,tg,inF,text,tt,f e1 (no2 e1 (by rw[e2];nofun) (by rw[e2];nofun)),e2,r⟩
   .intro z;obtain⟨o,es,ep,e,d,_⟩:=hns;rw[<-z,p]at e;cases e;rw[m6]at d;cases d
   .intro z;rw[z,hT]at p;cases p;cases m4
  have e0:MJ P w K mg (GS s₁.heap H) callerA [] s₁ H:=⟨rfl,hM,fun b o e=>tN e,W9 (nE _ _),trivial,fun b hb=>absurd (show b∈([]:List Addr) from hb) (by simp),hok,.of_eq hg⟩;refine Uk ((F _ hKb (j hns) hLC).run callerA [] s₁ H ⟨[.ref a],[]⟩ [.ref a] [.ref a] _ _ hr e0 (hbind s₁ (.ref a)) (.cons rfl .nil) (hsp H hHT hS)) fun r s' h=>?_
  cases r with
  |error e=>exact h.elim
  |ok fl=>
   cases fl with
   |next=>exact False.elim h
   |brk=>exact False.elim h
   |cont=>exact False.elim h
   |ret u=>
    obtain⟨v,H',os,bare,un,aa,r',q⟩:=h;have q':v= .bl true:=q;subst q';obtain rfl:u=Value.bool true:=r';have kp:∀b o,s₁.heap.get? b=some o->b≠T->s'.heap.get? b=some o:=fun b o e g=>by
     cases q:H b with
     |none=>exact un.keep b o e q (by intro z;exact absurd (show b∈([]:List Addr) from z) (by simp)) (by simp)
     |some u=>
      rcases hO b with z|⟨ob,xs,z⟩|z
      .rw[q]at z;cases z
      .have z2:=un.frzs b ob _ z;obtain⟨e1,_⟩:=hok b _ z;obtain⟨e2,_⟩:=aa b _ z2;rw[e]at e1;cases e1;exact e2
      .exact absurd z g
    obtain⟨l,hm⟩:=un.tbls T _ hHT;have hT':s'.heap.get? T=some (W.tabObj (#[]++l)):=aa T _ hm;refine⟨rfl,⟨fun b o e=>?_,fun b o e=>?_⟩,os,bare⟩
    .by_cases g:b=T
     .subst g;rw[hT]at e;cases e;exact .inr (.inl ⟨(hcd.tab hT).isCodeTable,rfl,#[],l,rfl,hT'⟩)
     .exact .inl (kp b o e g)
    .by_cases g:b=T
     .subst g;exact⟨_,hT'⟩
     .exact⟨o,kp b o e g⟩
 have okT:∀H:Hp,WO P w H s₁.heap T (.tbl #[]):=fun H=>hT
 cases hk:K.lookup a with
 |some o=>
  have e:=KX a o hk;rw[ha]at e;cases e;refine core (fun b=>if b=T then some (.tbl #[]) else none) (fun b=>?_) (Y3 rfl) (.inr ⟨_,vs.toArray,_,hk,rfl,rfl,rfl,by rw[Yd,lenV];exact hl,by simpa using rv⟩) (fun b u z=>?_) (fun b z=>?_) fun z=>absurd (Y2 aT) z
  .by_cases h:b=T
   .exact .inr (.inr h)
   .exact .inl (Y2 h)
  .by_cases h:b=T
   .have i:=(Y3 h).symm.trans z;cases i;subst h;exact okT _
   .have i:=(Y2 h).symm.trans z;cases i
  .by_cases h:b=T
   .exact .inr h
   .exact absurd (Y2 h) z
 |none=>
  refine core (fun b=>if b=T then some (.tbl #[]) else if b=a then some (.frz {cls:=.type "list",data:=.seq vs.toArray} (.lst (ns.map V.int))) else none) (fun b=>?_) (Y3 rfl) (.inl (.inr ⟨{cls:=.type "list",data:=.seq vs.toArray},(Y2 aT).trans (Y3 rfl)⟩)) (fun b u z=>?_) (fun b z=>?_) fun _=>hk
  .by_cases h:b=T
   .exact .inr (.inr h)
   .by_cases hb:b=a
    .exact .inr (.inl ⟨_,_,(Y2 h).trans (Y3 hb)⟩)
    .exact .inl ((Y2 h).trans (Y2 hb))
  .by_cases h:b=T
   .have i:=(Y3 h).symm.trans z;cases i;subst h;exact okT _
   .by_cases hb:b=a
    .have i:=((Y2 h).trans (Y3 hb)).symm.trans z;cases i;subst hb;exact⟨ha,by rw[Y0];exact hl,vs,_,rv,ha⟩
    .have i:=((Y2 h).trans (Y2 hb)).symm.trans z;cases i
  .by_cases h:b=T
   .exact .inr h
   .by_cases hb:b=a
    .exact .inl hb
    .exact absurd ((Y2 h).trans (Y2 hb)) z
theorem v9{K:Wm}{h:Wr}{T:Wo}(KX:K.In h)(hT:h.get? T=some (W.tabObj #[]))(hK:W.noTabs K=true):K.lookup T=none:=by
 cases e:K.lookup T with
 |none=>rfl
 |some o=>
  have z:=KX T o e;rw[hT]at z;cases z;have h2:=Xi.mp hK (T,W.tabObj #[]) (W.mem_of_lookupK e);cases h2
theorem Zn{K:Wm}{x:Str}{f c T:Wo}{oc oc':Wn}{od od':Option Addr}{fd:Wj}{sl sl':Array (Option Value)}{vs:Array Value}(h1:W.nsIn K mainGlobals x=some (some (.ref f)))(h2:K.lookup f=some ⟨oc,od,.func fd,sl⟩)(h3:fd.code= .ref c)
  (h4:K.lookup c=some ⟨oc',od',.fields vs,sl'⟩) (h5:vs[11]?=some (.ref T)):W.tabIn K x=some (c,T):=by
 unfold W.tabIn;simp only[h1,h2,h3,h4,h5]
structure Im(K:PySem.W.Frag)(W:Wo)(cs:List Addr)(C:Wo)(i:Nat):Prop where
 e:uB K C
 w:PySem.W.mroIn K C (.ref W)=some true
 v:PySem.W.kitOne K (.ref C) (.type "ValueError")=some true
 k:∀j c,cs[j]?=some c->PySem.W.kitOne K (.ref C) (.ref c)=some (decide (j=i))
def Gu:List Str:=["letter","piece","width","wide","rule","time","key","text","row","room","road"]
def Kd(K:PySem.W.Frag)(W:Wo)(cs:List Addr)(C:Wo)(wd:Str):Prop:=∃i,Im K W cs C i/\Gu[i]?=some wd
theorem B5{K:Wm}{C1 C2:Wo}{b:Bool}{x:Wn}{r:Bool}(h1:W.mroIn K C1 (.ref C2)=some b)(h2:W.typeIn K (.ref C2)=some (.type "type"))(h3:W.mroIn K C2 x=some r)(hs:W.mroIn K C1 (.ref C1)=some true):W.kitOne K (.ref C1) (.ref C2)=some b:=by
 unfold W.kitOne
 by_cases e:C1=C2
 .subst e;rw[h1]at hs;rw[Y3 (by simp),<-hs]
 .rw[Y2 (by simpa using e)];show(if((W.clsIn K C2).isSome && W.typeIn K (.ref C2)==some (.type "type"))=true then W.subIn K (.ref C1) (.ref C2) else none)=some b;have a:(W.clsIn K C2).isSome=true:=by
   unfold W.mroIn at h3;cases hq:W.clsIn K C2 with
   |none=>rw[hq]at h3;cases h3
   |some cd=>rfl
  rw[a,h2];exact h1
theorem BU{l:W.OpenLaw}{n k:Nat}{q:Wh}{loose:List Str}{XP:(Str->Option Value)->Heap->Prop}{YP:World->Heap->Prop}{d:DefRec}{K:Params->W.Frag}{sp:World->Addr->Sp}{x y:Str}{d2:DefRec}
  (hn:l.most=some n) (hn2:n <=sizeLine) (hdf:d.params.defaults=[]) (hr:Room k callerA)
  (hY:∀ (w:Wl) (h:Wr),YP w h->(K w.params).In h)
  (hrec:(recsOf q).find? (fun e=>e.name==y)=some d2)
  (F : ∀ (w : World) (mg : Str -> Option Value) (fa : Addr) (h : Heap), (K w.params).In h -> h.Ns mainGlobals mg -> mg d.name = some (.ref fa) ->
   ∃ (c T:Wo) (fd:Wj),W.tabIn (K w.params) y=some (c,T)/\W.noTabs (K w.params)=true/\(∀ (s:Wi) (u:Wn),BindsTo s fd ⟨[u],[]⟩ [(x,u)])/\
    ∀ base : Heap, (K w.params).In base -> base.Ns mainGlobals mg -> Gp mg base c T -> WA l.prog w (K w.params) mg base Je k fa fd [x] (sp w T))
  (hsp:∀ (w:Wl) (T:Wo) (H:Hp) (a:Wo) (ns:Wp),ns.length <=n->H T=some (.tbl #[])->WB (K w.params) H a (ns.map V.int)->sp w T [.ref a] H (fun v _=>v= .bl true) fun _ _ _=>False):
  W.WalkO q loose XP YP l.row.toRowW d [] (fun f vs=>PySem.call f vs):=by
 refine Att.attach_call hn hdf fun w s₀ s₁ mg mb fa o pm cd doc a vs ns G Y ho hd hcd hmg z j i hg=>?_
 have p:=hY w _ Y;obtain⟨c,T,fd,r,hnt,hb,hF⟩:=F w mg fa _ p G.T.g hmg;obtain⟨t1,t2⟩:=W.tab_of (x:=y) G.T p hrec r;exact vI p G.T.g G.T.b G.T.builtins G.T.nolimit hg G.T.bmain t1 t2 (v9 p t2 hnt) z j (YH i hn2) hr hF hb (fun H h1 hS=>hsp w T H a ns i h1 hS)
def RU(X:Cx)(scope:Scope)(cl:List (Str×Addr)):Prop:=(∀x c,cl.lookup x=some c->X.env.cells.lookup x=some c)/\(∀x,(x,NameKind.free)∈scope.names->∃c,cl.lookup x=some c)/\∀p∈cl,X.env.cells.lookup p.1=some p.2
def M9(X:Cx)(q:Str)(params:Arguments)(body:Ws)(scope:Scope)(H:Hp)(f:Wo):Prop:=∃cl c' ctv pm oc vs t,RU X scope cl/\H f=some (.frz (El q params body scope cl pm (.ref c') ctv) HT)/\H c'=some (.frz oc HT)/\oc.data= .fields vs/\vs[1]?=some (.str q t)
section
variable{X:Cx}{c P:Wo}{q:Str}{params:Arguments}{body:Ws}{scope:Scope}{lpos:Pos}{H G:Hp}{f:Wo}
theorem M9.of(c:M9 X q params body scope H f)(h:∀b oc,H b=some (.frz oc HT)->G b=some (.frz oc HT)):M9 X q params body scope G f:=by
 obtain⟨cl,c',ctv,pm,oc,vs,t,e,h1,h2,d,a⟩:=c;exact⟨cl,c',ctv,pm,oc,vs,t,e,h _ _ h1,h _ _ h2,d,a⟩
def Q6(X:Cx)(P:Wo)(q:Str)(params:Arguments)(body:Ws)(scope:Scope):TE:=fun _ H Q=>TK H P q/\∀f G,H f=none->Jh P H G->TK G P q->M9 X q params body scope G f->Q (.ref f) G
theorem j6(lc:Gp X.mg X.base c P)(hcode:X.env.code= .ref c)(hq:X.env.qual++"<lambda>"=q)(vis:∀x,(x,NameKind.free)∈scope.names->X.env.kindOf x=some .cell\/X.env.kindOf x=some .free)(hdef:defaultsOf params X.env=([],[])):
  PE X (.Lambda params body scope lpos) (Q6 X P q params body scope):=by
 intro pins s σ H Q I h;obtain⟨tb,h⟩:=h;obtain⟨cl,e,d,b,a⟩:=tE (scope:=scope) (env:=X.env) fun x i=>I.ok.has x (vis x i)
 exact xT lc hcode hq e hdef pins s σ H Q I ⟨tb,fun f c' ctv pm G g vs t v r p o n l j=>h f G r v p ⟨cl,c',ctv,pm,g,vs,t,⟨d,b,a⟩,o,n,l,j⟩⟩
end
section
variable{X:Cx}{q:Str}{params:Arguments}{body:Ws}{scope:Scope}{H G:Hp}{f:Wo}{N':List Str}{caps:List (Option Nat)}{te:XK->TE}{k:Nat}{σ:St}{pins:Wg}{s1 s2:Wi}{cl:List (Str×Addr)}
theorem xC(I1:Wx X pins σ G s1)(hfn:∀x,X.fn x=true)(cX:∀b∈cl.map (·.2),∃x,X.env.cells.lookup x=some b):MJ X.prog X.w X.K X.mg X.base X.A X.stack s1 (JR cl s1.heap G):=by
 have cab:∀b∈cl.map (·.2),X.s₀.heap.objs.size <=b:=fun b a=>by
  obtain⟨x,f⟩:=cX b a;exact I1.ok.cab x b (hfn x) f
 have h:∀b∈cl.map (·.2),G b=none:=fun b a=>by
  obtain⟨x,f⟩:=cX b a;exact I1.freeC x b f
 have i:∀b x,G b=some x->b∉cl.map (·.2):=fun b x e a=>by rw[h b a]at e;cases e
 have c:=I1.env0;have j:∀b,b < X.s₀.heap.objs.size->b∉cl.map (·.2):=fun b a g=>absurd (Yx a (cab b g)) (X8 _)
 refine⟨c.frames,c.mod,fun b o e=>⟨(c.bs b o e).1,?_⟩,c.bsz,c.funs,fun b a=>?_,fun b o e=>?_,c.bare⟩
 .rw[Tk (j b (Yx (Yk e) I1.ok.bsz))];exact(c.bs b o e).2
 .rw[Tk ?_]
  .exact c.frf b a
  .intro g;obtain⟨x,f⟩:=cX b g;rcases Yp.mp (I1.stkSub b a) with z|z
   .exact I1.cne x b f z
   .obtain⟨_,o,n,_⟩:=I1.ok.funs.mem z;exact j b (Yk n) g
 .by_cases a:b∈cl.map (·.2)
  .obtain⟨x,f⟩:=cX b a;obtain⟨v,o',l,p⟩:=I1.cell x b f;rw[Re a,l]at e;cases e;exact HT.ok l
  .rw[Tk a]at e;exact(I1.hok b o e).stay (fun _ _ _ z=>z) (fun d z=>by rw[Tk (i d _ z)];exact z) fun d xs z=>by rw[Tk (i d _ z)];exact z
theorem yP(I1:Wx X pins σ G s1)(cX:∀b∈cl.map (·.2),∃x,X.env.cells.lookup x=some b){Q:VK}{u:Wn}(h:CE X.stack X.prog X.w (JR cl s1.heap G) s1 (fun v G'=>Q v (DW cl G')) u s2):CE X.stack X.prog X.w G s1 Q u s2:=by
 obtain ⟨v, H', i, g, f, e, d, c⟩ := h;obtain ⟨l, j⟩ := uT (fun b n => by
  obtain ⟨x, a⟩ := cX b n;obtain ⟨v, o', o, p⟩ := I1.cell x b a;exact ⟨⟨o', o⟩, I1.freeC x b a⟩) f e
 exact⟨v,DW cl H',i,g,l,j,d,c⟩
theorem Zz{h:Wr}{H2:Hp}(e:∀b∈cl.map (·.2),H2 b=none):DW cl (JR cl h H2)=H2:=by
 funext b
 by_cases hb:b∈cl.map (·.2)
 .rw[EF hb,e b hb]
 .rw[Dy hb,Tk hb]
end
end L2
namespace L2
open PySem PySem.Spec PyProof.Rows PySem.W
abbrev Ky:=Int×Str×Str
def MW(a b:Str):Bool:=decide (a.cps.toList < b.cps.toList)
theorem AL(a:Str):MW a a=false:=Yt (List.lt_irrefl _)
theorem OV{a b c:Str}(h1:MW a b=true)(h2:MW b c=true):MW a c=true:=Yq (List.lt_trans (X7 h1) (X7 h2))
theorem LY{a b c:Str}(h:MW a c=true):MW a b=true\/MW b c=true:=by
 by_cases h1:a.cps.toList < b.cps.toList
 .exact .inl (Yq h1)
 .exact .inr (Yq (List.lt_of_le_of_lt (Wc.mp h1) (X7 h)))
theorem Lh{a b:Str}(h1:MW a b=false)(h2:MW b a=false):a=b:=by
 have e:=List.le_antisymm (Wc.mp (UD h2)) (Wc.mp (UD h1));cases a;cases b;simp only[PySem.Str.mk.injEq];exact VF.mp e
theorem yH{a b:Str}(h:MW a b=true):a≠b:=fun e=>by rw[e,AL]at h;cases h
def Mi(a b:Ky):Bool:=if a.1=b.1 then(if a.2.1=b.2.1 then MW a.2.2 b.2.2 else MW a.2.1 b.2.1) else decide (a.1 < b.1)
theorem T0{a b:Ky}:Mi a b=true↔a.1 < b.1\/a.1=b.1/\(MW a.2.1 b.2.1=true\/a.2.1=b.2.1/\MW a.2.2 b.2.2=true):=by
 unfold Mi
 by_cases h1:a.1=b.1
 .rw[Y3 h1]
  by_cases h2:a.2.1=b.2.1
  .rw [Y3 h2];exact ⟨fun h => .inr ⟨h1, .inr ⟨h2, h⟩⟩, fun h => by
    rcases h with h|⟨_,h|⟨_,h⟩⟩
    .lia
    .exact absurd h2 (yH h)
    .exact h⟩
  .rw [Y2 h2];exact ⟨fun h => .inr ⟨h1, .inl h⟩, fun h => by
    rcases h with h|⟨_,h|⟨h,_⟩⟩
    .lia
    .exact h
    .exact absurd h h2⟩
 .rw[Y2 h1,Y9];exact⟨.inl,fun h=>h.elim id fun z=>absurd z.1 h1⟩
theorem Pl{a b c:Ky}(h:Mi a c=true):Mi a b=true\/Mi b c=true:=by
 rw[T0]at*;rw[T0]
 by_cases h1:a.1 < b.1
 .exact .inl (.inl h1)
 .by_cases h2:b.1 < c.1
  .exact .inr (.inl h2)
  .rcases h with h|⟨e,h⟩
   .lia
   .have f:a.1=b.1:=by lia
    have d:b.1=c.1:=by lia
    rcases h with h|⟨e3,h⟩
    .rcases LY (b:=b.2.1) h with h|h
     .exact .inl (.inr ⟨f,.inl h⟩)
     .exact .inr (.inr ⟨d,.inl h⟩)
    .by_cases e4:a.2.1=b.2.1
     .rcases LY (b:=b.2.2) h with h|h
      .exact .inl (.inr ⟨f,.inr ⟨e4,h⟩⟩)
      .exact .inr (.inr ⟨d,.inr ⟨by rw[<-e4];exact e3,h⟩⟩)
     .cases h3:MW a.2.1 b.2.1 with
      |true=>exact .inl (.inr ⟨f,.inl rfl⟩)
      |false=>
       cases h4:MW b.2.1 a.2.1 with
       |true=>exact .inr (.inr ⟨d,.inl (by rw[<-e3];exact h4)⟩)
       |false=>exact absurd (Lh h3 h4) e4
theorem Qk{a b c:Ky}(h1:Mi a b=true)(h2:Mi b c=true):Mi a c=true:=by
 rw[T0]at*;rcases h1 with h1|⟨e1,h1⟩
 .rcases h2 with h2|⟨e2,h2⟩
  .exact .inl (by lia)
  .exact .inl (by lia)
 .rcases h2 with h2|⟨e2,h2⟩
  .exact .inl (by lia)
  .refine .inr ⟨by lia,?_⟩;rcases h1 with h1|⟨f1,h1⟩
   .rcases h2 with h2|⟨f2,h2⟩
    .exact .inl (OV h1 h2)
    .exact .inl (by rw[<-f2];exact h1)
   .rcases h2 with h2|⟨f2,h2⟩
    .exact .inl (by rw[f1];exact h2)
    .exact .inr ⟨f1.trans f2,OV h1 h2⟩
theorem FY(a:Ky):Mi a a=false:=by
 unfold Mi;rw[Y3 rfl,Y3 rfl];exact AL _
theorem Pe{a b:Ky}(h1:Mi a b=false)(h2:Mi b a=false):a=b:=by
 have e:=fun z=>Yf (h1.symm.trans (T0.mpr z))
 have d:=fun z=>Yf (h2.symm.trans (T0.mpr z))
 have c:a.1=b.1:=by
  rcases Int.lt_trichotomy a.1 b.1 with h|h|h
  .exact absurd (.inl h) e
  .exact h
  .exact absurd (.inl h) d
 have f:a.2.1=b.2.1:=Lh (XA.mpr fun z=>e (.inr ⟨c,.inl z⟩)) (XA.mpr fun z=>d (.inr ⟨c.symm,.inl z⟩));have g:a.2.2=b.2.2:=Lh (XA.mpr fun z=>e (.inr ⟨c,.inr ⟨f,z⟩⟩)) (XA.mpr fun z=>d (.inr ⟨c.symm,.inr ⟨f.symm,z⟩⟩));exact UB c (UB f g)
def Oh:KeyOrd:=⟨Ky,Mi,FY,fun _ _ _=>Qk,fun _ _ _=>Pl,fun _ _=>Pe⟩
def R1(a b:Int×Ky):Bool:=if a.1=b.1 then Mi a.2 b.2 else decide (a.1 < b.1)
theorem NQ{a b:Int×Ky}:R1 a b=true↔a.1 < b.1\/a.1=b.1/\Mi a.2 b.2=true:=by
 unfold R1
 by_cases h:a.1=b.1
 .rw[Y3 h];exact⟨fun z=>.inr ⟨h,z⟩,fun z=>z.elim (fun q=>by lia) fun q=>q.2⟩
 .rw[Y2 h,Y9];exact⟨.inl,fun z=>z.elim id fun q=>absurd q.1 h⟩
def Oo:KeyOrd where
 α:=Int×Ky
 blt:=R1
 irrefl a:=by unfold R1;rw[Y3 rfl];exact FY _
 trans a b c h1 h2:=by
  rw[NQ]at*;rcases h1 with h1|⟨e1,h1⟩
  .rcases h2 with h2|⟨e2,h2⟩
   .exact .inl (by lia)
   .exact .inl (by lia)
  .rcases h2 with h2|⟨e2,h2⟩
   .exact .inl (by lia)
   .exact .inr ⟨by lia,Qk h1 h2⟩
 negTrans a b c h:=by
  rw[NQ]at*;rw[NQ]
  by_cases h1:a.1 < b.1
  .exact .inl (.inl h1)
  .by_cases h2:b.1 < c.1
   .exact .inr (.inl h2)
   .rcases h with h|⟨e,h⟩
    .lia
    .rcases Pl (b:=b.2) h with h|h
     .exact .inl (.inr ⟨by lia,h⟩)
     .exact .inr (.inr ⟨by lia,h⟩)
 total a b h1 h2:=by
  have n1:=fun z=>Yf (h1.symm.trans (NQ.mpr z))
  have n2:=fun z=>Yf (h2.symm.trans (NQ.mpr z))
  have e1:a.1=b.1:=by
   rcases Int.lt_trichotomy a.1 b.1 with h|h|h
   .exact absurd (.inl h) n1
   .exact h
   .exact absurd (.inl h) n2
  exact UB e1 (Pe (XA.mpr fun z=>n1 (.inr ⟨e1,z⟩)) (XA.mpr fun z=>n2 (.inr ⟨e1.symm,z⟩)))
end L2
namespace HT
open PySem PyProof.Rows
def ltK:Int ⊕ Str->Int ⊕ Str->Bool
 | .inl a,.inl b=>decide (a < b)
 | .inr a,.inr b=>decide (a.cps.toList < b.cps.toList)
 |_,_=>false
def lexK:List (Int ⊕ Str)->List (Int ⊕ Str)->Bool
 |[],[]=>false
 |[],_::_=>true
 |_::_,[]=>false
 |x::xs,y::ys=>if x=y then lexK xs ys else ltK x y
inductive Tx:List Value->List (Int ⊕ Str)->Prop where
 |nil:Tx [] []
 |int (a:Int) (t:Tok) {vs ks}:Tx vs ks->Tx (.int a t::vs) (.inl a::ks)
 |str (a:Str) (t:Tok) {vs ks}:Tx vs ks->Tx (.str a t::vs) (.inr a::ks)
theorem Tx.length{vs:Wq}{ks:List (Int ⊕ Str)}(h:Tx vs ks):vs.length=ks.length:=by
 induction h with
 |nil=>rfl
 |int _ _ _ ih=>simp[ih]
 |str _ _ _ ih=>simp[ih]
inductive Rz:List (Int ⊕ Str)->List (Int ⊕ Str)->Prop where
 |nil:Rz [] []
 |int (a b:Int) {ks js}:Rz ks js->Rz (.inl a::ks) (.inl b::js)
 |str (a b:Str) {ks js}:Rz ks js->Rz (.inr a::ks) (.inr b::js)
theorem Ou(x y:Int ⊕ Str)(xs ys):lexK (x::xs) (y::ys)=if x=y then lexK xs ys else ltK x y:=rfl
theorem vR(A:Wk)(s:Wi)(a:Str)(t:Tok)(c:Str)(u:Tok):∃e,SeqAt.EqAt A s (.str a t) (.str c u) e/\(e=true↔a=c):=
 ⟨(a==c),SeqAt.EqAt.str_str a t c u,by simp⟩
theorem jI(A:Wk)(s:Wi)(a:Str)(t:Tok)(c:Str)(u:Tok)(prog:Wh)(w:Wl)(E:We)(Q:We)(h:Q (.bool (decide (a.cps.toList < c.cps.toList))) s):
  wpAny (model prog w) A (richCompare .Lt (.str a t) (.str c u)) Q E s:=
 (W5 h:wpAny (model prog w) A (compareOp .Lt (.str a t) (.str c u)) Q E s)
section
open PySem.SeqAt
open PySem.AutoSeq1 (wpAny_loadPart')
open PySem.MeetsSeq PySem.MeetsSeq2 PySem.MeetsSeq3
theorem Zh(l b:Wo)(items items2:Array Value)(n n2:Nat)(dd dd2:Option Addr)(sl sl2:Array (Option Value))(ns ms:List (Int ⊕ Str))(hi:Tx items.toList ns)(hj:Tx items2.toList ms)(hsh:Rz ns ms):
  Meets (Builtin.«tuple.__lt__» ⟨[.ref l,.ref b],[]⟩)
   (fun _ R s => s.heap.get? l = some { cls := .type "tuple", dict := dd, data := .seq items n, slots := sl } /\ s.heap.get? b = some { cls := .type "tuple", dict := dd2, data := .seq items2 n2, slots := sl2 } /\
    R (.ok (.ret (.bool (lexK ns ms)))) s) :=
 .of_wp fun prog w A R s h=>by
  obtain⟨j,g,d,tk,i⟩:=s;obtain⟨v,z,h⟩:=h;have f2:=AutoSeq1.sub_tuple_tuple;have z1:items.size=ns.length:=by rw[<-hi.length];simp
  have z2:items2.size=ms.length:=by rw[<-hj.length];simp
  wp_walk using Xx v, Xx z, wpAny_forIn_list _ (fun rest b s' => b.1 = none /\ s' = ⟨j, g, d, tk, i⟩ /\ ∃ (vs ws : List Value) (ns' ms' : List (Int ⊕ Str)), rest = vs.zip ws /\
   Tx vs ns' /\ Tx ws ms' /\ Rz ns' ms' /\ ns'.length + items2.size = ms'.length + items.size /\ R (.ok (.ret (.bool (lexK ns' ms')))) ⟨j, g, d, tk, i⟩) _
  case turn=>
   rintro⟨y,x⟩ rest b s' ⟨hb',rfl,vs,ws,ns',ms',hz,hvi,hwi,hsh',hlen,hR⟩;cases hsh' with
   |nil=>
    cases hvi;rw[List.zip_nil_left]at hz;cases hz
   |int a c hs=>
    cases hvi with
    |int _ t hvi'=>
    cases hwi with
    |int _ u hwi'=>
     rw[UE]at hz;injection hz with hyx hrest;injection hyx with hy hx;subst hy hx;rw[Ou]at hR;simp only[List.length_cons]at hlen;obtain⟨e,p,f⟩:=nW A.in1 ⟨j,g,d,tk,i⟩ a t c u;refine Y1 (p prog w _ _ ?_);cases e with
     |true=>
      rw[Y3 (X0 Sum.inl (f.mp rfl))]at hR
      wp_walk
      exact⟨rfl,rfl,_,_,_,_,hrest,hvi',hwi',hs,by lia,hR⟩
     |false=>
      rw[Y2 (fun q=>absurd (f.mpr (U9 q)) Yf)]at hR;have o:=SF A.in1 ⟨j,g,d,tk,i⟩ a t c u prog w
      wp_walk using o
      exact⟨_,rfl,by simpa[ltK] using hR⟩
   |str a c hs=>
    cases hvi with
    |str _ t hvi'=>
    cases hwi with
    |str _ u hwi'=>
     rw[UE]at hz;injection hz with hyx hrest;injection hyx with hy hx;subst hy hx;rw[Ou]at hR;simp only[List.length_cons]at hlen;obtain⟨e,p,f⟩:=vR A.in1 ⟨j,g,d,tk,i⟩ a t c u;refine Y1 (p prog w _ _ ?_);cases e with
     |true=>
      rw[Y3 (X0 Sum.inr (f.mp rfl))]at hR
      wp_walk
      exact⟨rfl,rfl,_,_,_,_,hrest,hvi',hwi',hs,by lia,hR⟩
     |false=>
      rw[Y2 (fun q=>absurd (f.mpr (Sum.inr.inj q)) Yf)]at hR;have o:=jI A.in1 ⟨j,g,d,tk,i⟩ a t c u prog w
      wp_walk using o
      exact⟨_,rfl,by simpa[ltK] using hR⟩
  case fin=>
   rintro⟨b1,b2⟩ s' ⟨hb',rfl,vs,ws,ns',ms',hz,hvi,hwi,hsh',hlen,hR⟩;simp only at hb';subst hb';have r:lexK ns' ms'=decide (items.size < items2.size):=by
    cases hsh' with
    |nil=>
     simp only[List.length_nil]at hlen;exact(Yt (by lia)).symm
    |int a c hs=>
     cases hvi with
     |int _ t _=>
     cases hwi with
     |int _ u _=>rw[UE]at hz;cases hz
    |str a c hs=>
     cases hvi with
     |str _ t _=>
     cases hwi with
     |str _ u _=>rw[UE]at hz;cases hz
   rw[r]at hR
   wp_walk
   exact⟨_,rfl,by simpa[Builtin.Tuple.tupleCompareSizes] using hR⟩
  case h=>
   exact⟨rfl,rfl,items.toList,items2.toList,ns,ms,rfl,hi,hj,hsh,by lia,h⟩
end
section
variable{prog:Wh}{w:Wl}{A:Wk}{E:We}{s:Wi}
theorem lt_tupKeys{l b:Wo}{items items2:Array Value}{ns ms:List (Int ⊕ Str)}{Q:We}(hl:IsTup s.heap l items)(hb:IsTup s.heap b items2)(hi:Tx items.toList ns)(hj:Tx items2.toList ms)(hsh:Rz ns ms)
  (hu:A.units < cLine) (h:Q (.bool (lexK ns ms)) s):wpAny (model prog w) A (compareOp .Lt (.ref l) (.ref b)) Q E s:=by
 obtain⟨⟨aa,r,v,p⟩,f,i,n,g⟩:=id hl;obtain⟨⟨z,j,o,e⟩,a,d,q,c⟩:=id hb;simp only at i g d c;subst i g d c;exact richCompare_meets_room (op:=.Lt) ⟨_,f,rfl⟩ ⟨_,a,rfl⟩ PySem.F.slot_tuple_lt PySem.F.entry_tuple_lt (PySem.F.args_tuple_lt_2 _ _) (Zh l b items items2 n q r j p e ns ms hi hj hsh)
  ⟨f,a,show Value.bool (lexK ns ms)≠Value.notImplemented/\Q (.bool (lexK ns ms)) s from⟨(fun x=>nomatch x),h⟩⟩ hu
end
end HT
namespace L2
open PySem PySem.Spec PyProof.Rows PySem.W
section
variable{prog:Wh}{w:Wl}{A:Wk}{E:We}{s:Wi}{O:KeyOrd}{key:Nat->O.α}{κ:SortKind}{vs:Wq}
structure GD(prog:Wh)(w:Wl)(h:Wr)(O:KeyOrd)(key:Nat->O.α)(κ:SortKind)(vs:Wq):Prop where
 kind:∀ (A:Wk) (s:Wi) (Q:SortKind->Shared->Prop),(∀b o,h.get? b=some o->s.heap.get? b=some o)->2 <=vs.length->Q κ s->wpAny (model prog w) A (keyKind' vs.toArray) Q (fun _ _=>False) s
 cmp:∀ (A:Wk) (s:Wi) (i j:Nat) (C:Bool->Shared->Prop),A.units < cLine->(∀b o,h.get? b=some o->s.heap.get? b=some o)->i < vs.length->j < vs.length->C (Ni O key i j) s->kas_ask prog w A κ vs i j C s
theorem OB{a:Wo}{n:Nat}{P:PySem.Fin->Shared->Prop}{h₀:Wr}(ho:s.heap.get? a=some (seqObj "list" vs.toArray n))(ha0:h₀.objs.size <=a)(hk:∀b o,h₀.get? b=some o->s.heap.get? b=some o)
  (S:GD prog w h₀ O key κ vs) (h64:vs.length < 64) (hu:A.units < cLine)
  (h:∀p:Array Nat,J8 vs.length p->Dj O key p vs.length->P (.done (.ret .none)) {s with heap:=sortedHeap s.heap a vs (List.toArray (p.toList.map fun i=>vs.getD i Value.none))}):
  wpAny (model prog w) A (Builtin.«list.sort» ⟨[.ref a],[]⟩) P E s:=by
 rw[list_sort_plain];have ha:a < s.heap.objs.size:=Yk ho;refine Y1 (listItems_at ho rfl ?_);refine Y1 (U5 ho rfl ?_ (by rw[Yd,Ym];lia) (Yy _));obtain⟨e1,g⟩:∃e1,(s.heap.update a (Obj.mapSeq fun _=>#[])).get? a=some (seqObj "list" #[] e1):=⟨_,get?_update_seq ho (fun _=>#[])⟩;refine Y1 (Vj g rfl ?_);refine Y1 (VU ?_ (by show vs.length <=_;rw[Ym];lia));refine Y1 (UP ?_ (Yy _));refine Xs ?_;have d:(((s.heap.update a (Obj.mapSeq fun _=>#[])).push (seqObj "tuple" vs.toArray 0)).push (seqObj "list" #[] 0)).get? a=some (seqObj "list" #[] e1):=by
  rw[XB _ _ _ (by rw[size_push',Uu];exact Yr (XS ha)),XB _ _ _ (by rw[Uu];exact Yr ha)];exact g
 have keep:∀b o,h₀.get? b=some o->(((s.heap.update a (Obj.mapSeq fun _=>#[])).push (seqObj "tuple" vs.toArray 0)).push (seqObj "list" #[] 0)).get? b=some o:=fun b o q=>by
  have hb:b < h₀.objs.size:=Yk q;have q':=hk b o q;have l:b < s.heap.objs.size:=Yk q';rw[XB _ _ _ (by rw[size_push',Uu];exact Yr (XS l)),XB _ _ _ (by rw[Uu];exact Yr l),Vd _ _ _ _ (Yr (Yx hb ha0))];exact q'
 show wpAny (model prog w) A _ P E {s with heap:=((s.heap.update a (Obj.mapSeq fun _=>#[])).push (seqObj "tuple" vs.toArray 0)).push (seqObj "list" #[] 0)};dsimp only;have hsz:vs.toArray.size=vs.length:=by simp
 by_cases h2:vs.toArray.size < 2
 .rw[Y3 h2,Y3 h2];refine Y1 (Ye ?_);rw[StateT.run_pure];refine Y1 (Ye ?_);dsimp only;refine Y1 (Vj d rfl ?_);refine Y1 (U5 d rfl ?_ (Yy _) (hsz2:=by rw[Array.size_map];show(pairsOf vs).size <=_;rw[pairsOf_size,Ym];lia));simp only[Vw,Bool.false_eq_true,if_false];have e:Array.map (fun x:Keyed=>x.2) (vs.toArray.zip vs.toArray)=List.toArray ((List.toArray (List.range vs.length)).toList.map fun i=>vs.getD i Value.none):=by
   apply VF.mp;simp only[Pf];rw[Array.toList_map];show List.map (fun x:Keyed=>x.2) (vs.toArray.zip vs.toArray).toList=vs;rw[Array.toList_zip];show List.map Prod.snd (List.zip vs vs)=vs;rw[List.map_snd_zip];exact Y5 _
  have:=h (List.toArray (List.range vs.length)) (Array.Perm.refl _) (fun i j hij hj=>by obtain rfl:i=j:=(by lia);exact Xp _);rw[<-e]at this;exact Ye this
 .rw[Y2 h2,Y2 h2];have r:2 <=vs.length:=by lia
  refine Y1 (YF (S.kind A _ (fun κ' s' => κ' = κ /\ s' = { s with heap := ((s.heap.update a (Obj.mapSeq fun _ => #[])).push (seqObj "tuple" vs.toArray 0)).push (seqObj "list" #[] 0) }) keep r ⟨rfl, rfl⟩) ?_ fun _ _ x => x.elim);rintro _ _ ⟨rfl, rfl⟩;refine Y1 (YF (kat_run (E := E) (Q := fun c s' => ∃ p : Array Nat, p.size = vs.length /\ arrOf c = p.map (kas_item (vs.toArray.zip vs.toArray)) /\ failedOf c = none /\ J8 vs.length p /\ Dj O key p vs.length /\ s' = { s with heap := ((s.heap.update a (Obj.mapSeq fun _ => #[])).push (seqObj "tuple" vs.toArray 0)).push (seqObj "list" #[] 0) })
   (G:=fun p s'=>J8 vs.length p/\Dj O key p vs.length/\s'={s with heap:=((s.heap.update a (Obj.mapSeq fun _=>#[])).push (seqObj "tuple" vs.toArray 0)).push (seqObj "list" #[] 0)})
   rfl r h64 (fun p' c s' a1 a2 a3 a4=>⟨p',a1,a2,a3,a4.1,a4.2.1,a4.2.2⟩)
   (Mc.wp (N := vs.length) (lt := Ni O key) (Q := fun p => J8 vs.length p /\ Dj O key p vs.length) (fun i j C hi hj hC => S.cmp A _ i j C hu keep hi hj hC) (fun p f => ⟨f.1, f.2, rfl⟩) (ZW (by lia) fun p b1 b2 => ⟨b1, b2⟩))) ?_ fun _ _ e => e)
  rintro⟨⟨⟩,c⟩ s' ⟨p,f,har,hf,b1,b2,rfl⟩;dsimp only;have z:=kat_snds rfl har;have v:(List.toArray (p.toList.map fun i=>vs.getD i Value.none)).size=vs.length:=by rw[Yd,Y0,Array.length_toList,f]
  rw[z];refine Y1 (Vj d rfl ?_);refine Y1 (U5 d rfl ?_ (Yy _) (YH (W9 v) (by rw[Ym];lia)));rw[hf];simp only[Vw,Bool.false_eq_true,if_false];exact Ye (h p b1 b2)
theorem jQ{l:Wo}{Q:We}(hl:s.heap.IsList l vs.toArray)(S:GD prog w s.heap O key κ vs)(h64:vs.length < 64)(hu:A.units+ 2 < cLine)
  (h:∀p:Array Nat,J8 vs.length p->Dj O key p vs.length->Q (.ref (s.heap.objs.size+ 1)) {s with heap:=sortedAll s.heap vs (List.toArray (p.toList.map fun i=>vs.getD i Value.none))}):
  wpAny (model prog w) A (call (.builtin "sorted") [.ref l]) Q E s:=by
 refine VA kind_sorted plain_sorted entry_sorted (args_sorted1 _) ?_;unfold Builtin.«sorted»;refine Y1 (m:=checkCount "sorted" 1 1 _) (Ye ?_);refine Y1 (collect_list hl ?_ (by rw[Ym];lia));refine Y1 (UP ?_ (by rw[Ym];lia));have a:((s.heap.push (seqObj "list" #[] 0)).update s.heap.objs.size (Obj.mapSeq (·++vs.toArray))).objs.size=s.heap.objs.size+ 1:=by
  rw[Uu,size_push']
 have d:(((s.heap.push (seqObj "list" #[] 0)).update s.heap.objs.size (Obj.mapSeq (·++vs.toArray))).push (seqObj "list" vs.toArray 0)).get? (s.heap.objs.size+ 1)=some (seqObj "list" vs.toArray 0):=by
  rw[<-a];exact Yl _ rfl
 have keep:∀b o,s.heap.get? b=some o->(((s.heap.push (seqObj "list" #[] 0)).update s.heap.objs.size (Obj.mapSeq (·++vs.toArray))).push (seqObj "list" vs.toArray 0)).get? b=some o:=fun b o q=>by
  have c:b < s.heap.objs.size:=Yk q;rw[XB _ _ _ (by rw[a];exact Yr (XS c)),Vd _ _ _ _ (Yr c),XB _ _ _ (Yr c)];exact q
 show wpAny _ _ _ _ _ {s with heap:=((s.heap.push (seqObj "list" #[] 0)).update s.heap.objs.size (Obj.mapSeq (·++vs.toArray))).push (seqObj "list" vs.toArray 0)};rw[a];refine Y1 (Xs (XF slot_list_sort ⟨_,d,rfl⟩ entry_list_sort (OB (h₀:=s.heap) d (XY _) keep S h64 (by show A.units+ 1+ 1 < cLine;lia) fun p f e=>⟨_,rfl,?_⟩) (args_list_sort _)));exact Ye ⟨_,rfl,h p f e⟩
end
def N4(h:Wr)(v:Wn)(k:Ky):Prop:=∃a t u r,v= .ref a/\IsTup h a #[.int k.1 t,.str k.2.1 u,.str k.2.2 r]
def ND(h:Wr)(v:Wn)(p:Int×Ky):Prop:=∃a t b,v= .ref a/\IsTup h a #[.int p.1 t,.ref b]/\N4 h (.ref b) p.2
theorem IsTup.keep{h h':Wr}{a:Wo}{its:Array Value}(k:∀b o,h.get? b=some o->h'.get? b=some o)(x:IsTup h a its):IsTup h' a its:=by
 obtain⟨o,h1,h2⟩:=x;exact⟨o,k _ _ h1,h2⟩
theorem N4.keep{h h':Wr}{v:Wn}{k:Ky}(kp:∀b o,h.get? b=some o->h'.get? b=some o)(x:N4 h v k):N4 h' v k:=by
 obtain⟨a,t,u,r,e,h1⟩:=x;exact⟨a,t,u,r,e,IsTup.keep kp h1⟩
theorem ND.keep{h h':Wr}{v:Wn}{p:Int×Ky}(kp:∀b o,h.get? b=some o->h'.get? b=some o)(x:ND h v p):ND h' v p:=by
 obtain⟨a,t,b,e,h1,h2⟩:=x;exact⟨a,t,b,e,IsTup.keep kp h1,h2.keep kp⟩
section
variable{prog:Wh}{w:Wl}{A:Wk}{E:We}{s:Wi}
theorem Q9{x y:Str}{t u:Tok}{Q:Bool->Shared->Prop}{b:Bool}{i:Nat}(h:Q (MW x y) s):wpAny (model prog w) A (oneLt' (b && i+ 1==0) (.str x t) (.str y u)) Q E s:=by
 rw[show(b && i+ 1==0)=false by simp];exact kat_one _ _ (W5 h)
theorem wL{x y:Wn}{k j:Ky}{Q:We}(hx:N4 s.heap x k)(hy:N4 s.heap y j)(hu:A.units < cLine)(h:Q (.bool (Mi k j)) s):wpAny (model prog w) A (compareOp .Lt x y) Q E s:=by
 obtain⟨a,t,u,r,rfl,h1⟩:=hx;obtain⟨b,d,c,f,rfl,h2⟩:=hy;refine HT.lt_tupKeys (ns:=[.inl k.1,.inr k.2.1,.inr k.2.2]) (ms:=[.inl j.1,.inr j.2.1,.inr j.2.2]) h1 h2 (.int _ _ (.str _ _ (.str _ _ .nil))) (.int _ _ (.str _ _ (.str _ _ .nil))) (.int _ _ (.str _ _ (.str _ _ .nil))) hu ?_;have e:HT.lexK [.inl k.1,.inr k.2.1,.inr k.2.2] [.inl j.1,.inr j.2.1,.inr j.2.2]=Mi k j:=by
  unfold Mi;simp only[HT.lexK,HT.ltK,W2,W3]
  by_cases h1:k.1=j.1
  .rw[Y3 h1,Y3 h1]
   by_cases h2:k.2.1=j.2.1
   .rw[Y3 h2,Y3 h2]
    by_cases h3:k.2.2=j.2.2
    .rw[Y3 h3,h3,AL]
    .rw[Y2 h3];rfl
   .rw[Y2 h2,Y2 h2];rfl
  .rw[Y2 h1,Y2 h1]
 rw[e];exact h
theorem wX{x y:Wn}{k j:Ky}{Q:Bool->Shared->Prop}(hx:N4 s.heap x k)(hy:N4 s.heap y j)(hu:A.units < cLine)(h:Q (decide (k=j)) s):wpAny (model prog w) A (eqBool x y) Q E s:=by
 obtain⟨a,t,u,r,rfl,o,z,v,n,q⟩:=hx;obtain⟨b,i,g,l,rfl,o',f,d,p,c⟩:=hy;refine wpAny_eqBool_tuple (knd:=WY prog w) (x:=[.inl k.1,.inr k.2.1,.inr k.2.2]) (y:=[.inl j.1,.inr j.2.1,.inr j.2.2]) hu ⟨o,_,n,z,v,q,AS (.cons ⟨t,rfl⟩ (.cons ⟨u,rfl⟩ (.cons ⟨r,rfl⟩ .nil)))⟩ ⟨o',_,p,f,d,c,AS (.cons ⟨i,rfl⟩ (.cons ⟨g,rfl⟩ (.cons ⟨l,rfl⟩ .nil)))⟩ ?_;have e:decide (([.inl k.1,.inr k.2.1,.inr k.2.2]:List WU)=[.inl j.1,.inr j.2.1,.inr j.2.2])=decide (k=j):=by
  rw[Yz,Y9,Y9];simp only[List.cons.injEq,W2,W3,and_true];exact⟨fun h=>UB h.1 (UB h.2.1 h.2.2),fun h=>by rw[h];exact⟨rfl,rfl,rfl⟩⟩
 rw[e];exact h
theorem Fs{R:Heap->Value->α->Prop}(hR:∀h v p,R h v p->∃a n t o its m,v= .ref a/\h.get? a=some o/\o.cls= .type "tuple"/\o.data= .seq its m/\its[0]?=some (.int n t)):∀{vs:Wq} {c:List α} {h:Wr},(∀ (i:Nat) v p,vs[i]?=some v->c[i]?=some p->R h v p)->vs.length=c.length->∃fs,KatTups h vs fs/\fs.length=vs.length/\∀f∈fs,∃n t,f=Value.int n t
 |[],c,h,_,e=>⟨[],trivial,rfl,fun f hf=>by simp at hf⟩
 |v::vs,[],h,_,e=>by simp at e
 |v::vs,p::c,h,hp,e=>by
  obtain⟨fs,k1,k2,k3⟩:=Fs hR (vs:=vs) (c:=c) (h:=h) (fun i v p a b=>hp (i+ 1) v p (by simpa using a) (by simpa using b)) (by simpa using e);obtain⟨a,n,t,o,its,m,rfl,d,j,g,l⟩:=hR _ _ _ (hp 0 v p rfl rfl);refine⟨Value.int n t::fs,KatTups.cons d j g l k1,by simp[k2],fun f hf=>?_⟩;rcases Yp.mp hf with rfl|hf
  .exact⟨_,_,rfl⟩
  .exact k3 f hf
theorem tG{vs:Wq}{c:List Ky}{h:Wr}(hp:∀ (i:Nat) v p,vs[i]?=some v->c[i]?=some p->N4 h v p)(hl:vs.length=c.length):
  GD prog w h Oh (fun i=>c.getD i (0,"","")) (tuples' (Value.type "int" !=Value.type "tuple")) vs where
 kind A s Q hk h2 hQ:=by
  obtain⟨fs,k1,k2,k3⟩:=Fs (R:=N4) (fun h v p ⟨a,t,u,r,e,o,d,q,n,f⟩=>⟨a,p.1,t,o,_,n,e,d,q,f,rfl⟩) (fun i v p e1 e2=>(hp i v p e1 e2).keep hk) hl;refine kat_kind (T:=Value.type "int") k1 (by lia) (fun v hv=>?_) (by decide) hQ;obtain⟨n,t,rfl⟩:=k3 v hv;exact Looks.of_pure rfl
 cmp A s i j C hu hk hi hj hC:=by
  have gi:vs[i]?=some (vs.getD i Value.none):=by rw[Y6 hi];simp[hi]
  have gj:vs[j]?=some (vs.getD j Value.none):=by rw[Y6 hj];simp[hj]
  have ci:c[i]?=some (c.getD i (0,"","")):=by rw[Y6 (by lia)];simp[show i < c.length by lia]
  have cj:c[j]?=some (c.getD j (0,"","")):=by rw[Y6 (by lia)];simp[show j < c.length by lia]
  obtain⟨a,t,u,r,e,o,d,q,n,f⟩:=(hp i _ _ gi ci).keep hk;obtain⟨a',t',z,r',e',o',g,hc',n',l⟩:=(hp j _ _ gj cj).keep hk;unfold kas_ask;rw[e,e'];have b:C (Mi (c.getD i (0,"","")) (c.getD j (0,"",""))) s:=hC;generalize c.getD i (0,"","")=x at*;generalize c.getD j (0,"","")=y at*;refine kat_lt d f g l ?_;show KatLex prog w A _ _ C [(Value.int x.1 t,Value.int y.1 t'),(Value.str x.2.1 u,Value.str y.2.1 z),(Value.str x.2.2 r,Value.str y.2.2 r')] 0 s;unfold Mi at b;refine Vg (Uq ?_)
  by_cases h1:x.1=y.1
  .rw[show(x.1==y.1)=true by simpa using h1];rw[Y3 h1]at b;refine VB (Vg (VC ?_))
   by_cases h2:x.2.1=y.2.1
   .rw[Yq h2];rw[Y3 h2]at b;refine VB (Vg (VC ?_))
    by_cases h3:x.2.2=y.2.2
    .rw[Yq h3];refine VB (kat_nil ?_);rw[h3,AL]at b;exact b
    .rw[Yt h3];exact kat_no (Q9 b)
   .rw[Yt h2];rw[Y2 h2]at b;exact kat_no (Q9 b)
  .rw[show(x.1==y.1)=false by simpa using h1];rw[Y2 h1]at b;exact kat_no (AW b)
theorem xL{vs:Wq}{c:List (Int×Ky)}{h:Wr}(hp:∀ (i:Nat) v p,vs[i]?=some v->c[i]?=some p->ND h v p)(hl:vs.length=c.length):
  GD prog w h Oo (fun i=>c.getD i (0,0,"","")) (tuples' (Value.type "int" !=Value.type "tuple")) vs where
 kind A s Q hk h2 hQ:=by
  obtain⟨fs,k1,k2,k3⟩:=Fs (R:=ND) (fun h v p ⟨a,t,b,e,⟨o,l,hc,n,q⟩,_⟩=>⟨a,p.1,t,o,_,n,e,l,hc,q,rfl⟩) (fun i v p e1 e2=>(hp i v p e1 e2).keep hk) hl;refine kat_kind (T:=Value.type "int") k1 (by lia) (fun v hv=>?_) (by decide) hQ;obtain⟨n,t,rfl⟩:=k3 v hv;exact Looks.of_pure rfl
 cmp A s i j C hu hk hi hj hC:=by
  have gi:vs[i]?=some (vs.getD i Value.none):=by rw[Y6 hi];simp[hi]
  have gj:vs[j]?=some (vs.getD j Value.none):=by rw[Y6 hj];simp[hj]
  have ci:c[i]?=some (c.getD i (0,0,"","")):=by rw[Y6 (by lia)];simp[show i < c.length by lia]
  have cj:c[j]?=some (c.getD j (0,0,"","")):=by rw[Y6 (by lia)];simp[show j < c.length by lia]
  obtain⟨a,t,b,e,⟨o,l,hc,n,q⟩,g⟩:=(hp i _ _ gi ci).keep hk;obtain⟨a',t',b',e',⟨o',r,hc',n',z⟩,f⟩:=(hp j _ _ gj cj).keep hk;unfold kas_ask;rw[e,e'];have d:C (R1 (c.getD i (0,0,"","")) (c.getD j (0,0,"",""))) s:=hC;generalize c.getD i (0,0,"","")=x at*;generalize c.getD j (0,0,"","")=y at*;refine kat_lt l q r z ?_;show KatLex prog w A _ _ C [(Value.int x.1 t,Value.int y.1 t'),(Value.ref b,Value.ref b')] 0 s;unfold R1 at d;refine Vg (Uq ?_)
  by_cases h1:x.1=y.1
  .rw[show(x.1==y.1)=true by simpa using h1];rw[Y3 h1]at d;refine VB (Vg (wX g f hu ?_))
   by_cases h2:x.2=y.2
   .rw[Yq h2];refine VB (kat_nil ?_);rw[h2,FY]at d;exact d
   .rw[Yt h2];refine kat_no ?_;rw[show(((Value.type "int" !=Value.type "tuple") && (0+ 1==0)):Bool)=false by simp];exact kat_one _ _ (wL g f hu d)
  .rw[show(x.1==y.1)=false by simpa using h1];rw[Y2 h1]at d;exact kat_no (AW d)
end
def EX(k:Ky):List V:=[.int k.1,.str k.2.1,.str k.2.2]
section
variable{X:Cx}{pins:Wg}{s:Wi}{σ:St}{H:Hp}
theorem PM{t:Wo}{k:Ky}(I:Wx X pins σ H s)(h:JV X.K H t (EX k)):N4 s.heap (.ref t) k:=by
 obtain⟨d,r,p,_⟩:=I.tuple h;cases r with
 |cons r1 r=>
  cases r with
  |cons r2 r=>
   cases r with
   |cons r3 r=>
    cases r;obtain⟨c,rfl⟩:=(show ∃t,_=Value.int k.1 t from r1);obtain⟨b,rfl⟩:=(show ∃t,_=Value.str k.2.1 t from r2);obtain⟨a,rfl⟩:=(show ∃t,_=Value.str k.2.2 t from r3);exact⟨t,c,b,a,rfl,p⟩
theorem mH{t b:Wo}{n:Int}{k:Ky}(I:Wx X pins σ H s)(h:JV X.K H t [.int n,.ref b])(hb:JV X.K H b (EX k)):ND s.heap (.ref t) (n,k):=by
 obtain⟨c,r,p,_⟩:=I.tuple h;cases r with
 |cons r1 r=>
  cases r with
  |cons r2 r=>
   cases r;obtain⟨a,rfl⟩:=(show ∃t,_=Value.int n t from r1);cases r2;exact⟨t,a,b,rfl,p,PM I hb⟩
end
section
variable{X:Cx}{K:Wm}
def Av(K:Wm)(O:KeyOrd)(d:O.α)(RA:Hp->V->O.α->Prop):List V->Hp->VK->Prop:=fun as H Q=>∃ (p:Wo) (xs:List V) (c:List O.α),as=[.ref p]/\WB K H p xs/\xs.length=c.length/\(∀ (i:Nat) (x:V) (q:O.α),xs[i]?=some x->c[i]?=some q->RA H x q)/\xs.length < 64/\
 ∀ (r:List Nat) l G,r.Perm (List.range xs.length)->(r.map fun i=>c.getD i d).Pairwise (fun a b=>O.blt b a=false)->H l=none->Ww H G->G l=some (.lst (r.map fun i=>xs.getD i .non))->Q (.ref l) G
theorem FS{xs:List V}{its:Wq}(rv:WD xs its):∀r:List Nat,(∀i∈r,i < xs.length)->WD (r.map fun i=>xs.getD i .non) (r.map fun i=>its.getD i Value.none)
 |[],_=>.nil
 |i::r,hr=>by
  refine .cons ?_ (FS rv r fun j hj=>hr j (.tail _ hj));have hi:i < xs.length:=hr i (.head _);obtain⟨u,a,ru⟩:=rv.get (i:=i) (x:=xs[i]) (Y6 hi);have c:xs.getD i .non=xs[i]:=by simp[hi]
  have b:its.getD i Value.none=u:=by rw[XQ,a];rfl
  show WI (xs.getD i .non) (its.getD i Value.none);rw[c,b];exact ru
theorem O4{O:KeyOrd}{c:List O.α}{d:O.α}{pa:Array Nat}{n:Nat}(a1:J8 n pa)(a2:Dj O (fun i=>c.getD i d) pa n):(pa.toList.map fun i=>c.getD i d).Pairwise (fun a b=>O.blt b a=false):=by
 rw[UK,Xg];intro i j hi e g;have f:pa.size=n:=a1.size;have:=a2 i j (Xv g) (by simpa[f] using e);have l:pa.getD i 0=pa.toList[i]:=by simp at hi;simp[Array.getD,hi]
 have h:pa.getD j 0=pa.toList[j]:=by simp at e;simp[Array.getD,e]
 unfold SK at this;rw[l,h]at this;exact this
theorem wJ{O:KeyOrd}{d:O.α}{κ:SortKind}{RA:Hp->V->O.α->Prop}{RV:Heap->Value->O.α->Prop}(h:X.K=K)(hu:X.A.units+ 64 < cLine)
  (hv:∀{pins s σ H x v q},Wx X pins σ H s->WI x v->RA H x q->RV s.heap v q)
  (ask:∀{vs:Wq} {c:List O.α} {h:Wr},(∀ (i:Nat) v p,vs[i]?=some v->c[i]?=some p->RV h v p)->vs.length=c.length->GD X.prog X.w h O (fun i=>c.getD i d) κ vs):WW X (.builtin "sorted") (Av K O d RA):=by
 subst h;intro pins s σ H xs us Q I r hh;obtain⟨p,xs,c,rfl,hq,hlc,hp,h64,q⟩:=hh;obtain⟨u,rfl,rx⟩:=DM r;cases rx;obtain⟨a,j,pl,hz⟩:=I.list hq;have l:xs.length=a.length:=j.length;have aa:∀ (i:Nat) v q,a[i]?=some v->c[i]?=some q->RV s.heap v q:=fun i v q e1 e2=>by
  have hi:i < a.length:=(Y4.mp e1).1;have ex:xs[i]?=some (xs[i]'(by lia)):=Y6 (by lia);obtain⟨u,hu,ru⟩:=j.get (i:=i) (x:=_) ex;rw[e1]at hu;cases hu;exact hv I ru (hp i _ q ex e2)
 refine jQ pl.isList (ask aa (by lia)) (by lia) (by lia) fun g a1 a2=>?_
 obtain⟨e,he⟩:=sortedAll_at s.heap a (List.toArray (g.toList.map fun i=>a.getD i Value.none));have hf:H (s.heap.objs.size+ 1)=none:=I.hok.fresh (XY _);have f:g.toList.Perm (List.range xs.length):=by rw[l];exact Ux.mp a1
 have hb:∀i∈g.toList,i < xs.length:=fun i hi=>by simpa using f.mem_iff.mp hi
 have n:(g.toList.map fun i=>xs.getD i .non).length <=sizeLine:=by
  rw[Y0,f.length_eq,YB];exact hz
 refine⟨.ref (s.heap.objs.size+ 1),upd H (s.heap.objs.size+ 1) (.lst (g.toList.map fun i=>xs.getD i .non)),I.laid (t':=s.toks) (fun b o z=>sortedAll_old z) (XY _) ?_,rfl,q _ _ _ f (O4 a1 a2) hf (TZ hf) Jn⟩;refine⟨n,g.toList.map fun i=>a.getD i Value.none,e,FS j _ hb,?_⟩;simpa using he
def IU(K:Wm):Hp->V->Int×Ky->Prop:=fun H x q=>∃t b,x= .ref t/\JV K H t [.int q.1,.ref b]/\JV K H b (EX q.2)
def Fi(K:Wm):=Av K Oo ((0,0,"",""):Int×Ky) (IU K)
theorem ZN(hu:X.A.units+ 64 < cLine)(h:X.K=K):WW X (.builtin "sorted") (Fi K):=by
 subst h;refine wJ (RV:=ND) rfl hu (fun I r ⟨t,b,e,a,f⟩=>?_) fun c d=>xL c d
 subst e;cases r;exact mH I a f
end
section
variable{prog:Wh}{w:Wl}{A:Wk}{d:Wo}{o:Obj}{es:Array DictEntry}{ep:Nat}
theorem yF(hh:A.handled=none)(I:Wo)(hne:d≠I)(hdat:o.data= .dict es ep):
  Walks prog w A I [I,d] [I] es.size (fun i v=>∃e,es[i]?=some e/\v=e.key) (fun i h=>h.IsKeyIter I d i es.size ep/\h.get? d=some o) where
 sub:=fun b a=>by simp at a;simp[a]
 frame:=fun _ _ _ st g=>⟨let ⟨oi,a1,a2⟩:=st.1;⟨oi,g I (by simp) _ a1,a2⟩,g d (by simp) _ st.2⟩
 item:=fun i s Q E hi st c=>by
  refine FZ st.1 st.2 hdat hi fun h' f hs'=>?_
  exact c _ h' s.toks ⟨_,XW hi,rfl⟩ ⟨f,hs'.extBut d o hne st.2⟩ fun b o a e=>hs'.extBut b o (fun h=>a (by simp[h])) e
 done:=fun s Q E st c=>K3 hh st.1 st.2 hdat (Y5 _) fun h' j=>c h' s.toks fun b o a e=>j b o (fun h=>a (by simp[h])) e
 self:=fun _ _ _ _ st c=>V6 st.1 c
theorem jT(lo:(d==sysModules)=false)(hc:o.ExactDict)(hdat:o.data= .dict es ep):KdlSrc prog w "dict" d d es.size (fun i v=>∃e,es[i]?=some e/\v=e.key) (fun h=>h.get? d=some o) where
 type:=fun _ a=>⟨o,a,hc.1⟩
 there:=fun _ a=>⟨Yk a,Yk a⟩
 keep:=fun _ _ a c=>c d (.inl rfl) o a
 notList:=by decide
 notTuple:=by decide
 hint:=fun _ _ _ _ a b=>kdl_hint_dict ⟨o,a,hc.1⟩ b
 iter:=fun _ _ f a=>⟨_,_,(fun _ _ b=>L1 lo a hc hdat b),yF f _ (Yr (Yk a)) hdat,⟨⟨_,Yl _ rfl,rfl,rfl⟩,Y7 _ a⟩⟩
end
section
variable{X:Cx}
def IJ:List V->Hp->VK->Prop:=fun as H Q=>∃ (a:Wo) (kvs:List (List WU×V)) (c:List Ky),as=[V.ref a]/\H a=some (.dT kvs)/\kvs.map (·.1)=c.map (fun k=>[Sum.inl k.1,Sum.inr k.2.1,Sum.inr k.2.2])/\c.length < 64/\
 ∀ (ks:List Ky) (ts:List Addr) l G,ks.Perm c->ks.Pairwise (fun a b=>Mi b a=false)->ts.length=ks.length->(∀ (i:Nat) t k,ts[i]?=some t->ks[i]?=some k->H t=some (.tup (EX k)))->H l=none->Ww H G->G l=some (.lst (ts.map V.ref))->Q (.ref l) G
theorem mS(hc:X.calm=true)(hu:X.A.units+ 64 < cLine):WW X (.builtin "sorted") IJ:=by
 intro pins s σ H xs us Q I r h;obtain⟨a,kvs,c,rfl,ha,hks,h64,q⟩:=h;obtain⟨u,rfl,rx⟩:=DM r;cases rx;obtain⟨z,y,xs,r,o,es,ep,h1,h2,h3,h4,h5⟩:=(show WO X.prog X.w H s.heap a (.dT kvs) from I.hok a _ ha);have hxl:xs.length=es.size:=by rw[<-Array.length_toList,h4,Y0]
 have hkl:=Paired.length r;have hcl:c.length=es.size:=by
  have:=X0 List.length hks;rw[Y0,Y0]at this;lia
 have hh:X.A.in1.handled=none:=I.ok.hd hc;refine VA kind_sorted plain_sorted entry_sorted (args_sorted1 _) ?_;unfold Builtin.«sorted»;refine Y1 (m:=checkCount "sorted" 1 1 _) (Ye ?_);refine Y1 (kdu_collect (A:=X.A.in1) (jT (prog:=X.prog) (w:=X.w) y h2 h3) hh h1 (by rw[<-hxl,<-hkl];exact z) fun h' tk acc hk ac=>?_);have I2:Wx X pins σ H {s with heap:=h',toks:=tk}:=I.kept hk;obtain⟨vs,evs⟩:∃vs,vs=acc.toList:=⟨_,rfl⟩;rw[<-evs];have hvl:vs.length=es.size:=by rw[evs,Array.length_toList];exact ac.1
 have hat:∀ (i:Nat) v,vs[i]?=some v->∃t k,v=Value.ref t/\c[i]?=some k/\xs[i]?.map (·.2.1)=some t/\H t=some (.tup (EX k)):=fun i v hv=>by
  rw[evs,Array.getElem?_toList]at hv;obtain⟨e,he,rfl⟩:=ac.2 i v hv;have ab:i < es.size:=(Vt.mp he).1;have hx:xs[i]?=some (xs[i]'(by lia)):=Y6 (by lia);obtain⟨v,hv,hb⟩:=KT.at' r hx;have hke:es.toList[i]?=(xs.map (entryOfKey (tupleKind (WY X.prog X.w))))[i]?:=by rw[h4]
  rw[Yc,hx,Array.getElem?_toList,he]at hke;have hkk:(kvs.map (·.1))[i]?=some xs[i].1:=by rw[Yc,hv];rfl
  rw[hks,Yc]at hkk;obtain⟨k,hk1,hk2⟩:=YA.mp hkk;refine⟨xs[i].2.1,k,?_,hk1,by rw[hx];rfl,?_⟩
  .rw[Option.some.inj hke];rfl
  .rw[hb,<-hk2];rfl
 have hpr:∀ (i:Nat) v k,vs[i]?=some v->c[i]?=some k->N4 h' v k:=fun i v k l g=>by
  obtain⟨t,k',rfl,e3,_,ht⟩:=hat i v l;rw[g]at e3;cases e3;exact PM I2 (JV.of ht)
 have hsl:vs.length <=sizeLine:=by rw[hvl,<-hcl,Ym];lia
 refine Y1 (UP ?_ hsl);have aa:(h'.push (seqObj "list" vs.toArray 0)).get? h'.objs.size=some (seqObj "list" vs.toArray 0):=Yl _ rfl;have keep:∀b o,h'.get? b=some o->(h'.push (seqObj "list" vs.toArray 0)).get? b=some o:=fun b o q=>Y7 _ q
 have S:GD X.prog X.w h' Oh (fun i=>c.getD i (0,"","")) (tuples' (Value.type "int" !=Value.type "tuple")) vs:=tG hpr (by lia);refine Y1 (Xs (XF slot_list_sort ⟨_,aa,rfl⟩ entry_list_sort (OB (h₀:=h') aa (Y5 _) keep S (by lia) (by show X.A.units+ 1+ 1 < cLine;lia) fun p a1 a2=>⟨_,rfl,?_⟩) (args_list_sort _)));obtain⟨e,he⟩:=sortedHeap_at (n:=0) (vs:=vs) (out:=(List.map (fun i=>vs.getD i Value.none) p.toList).toArray) aa;have hf:H h'.objs.size=none:=I2.hok.fresh (Y5 _);have f:p.toList.Perm (List.range c.length):=by rw[show c.length=vs.length by lia];exact Ux.mp a1
 have hb:∀i∈p.toList,i < c.length:=fun i hi=>by simpa using f.mem_iff.mp hi
 obtain⟨d,eas⟩:∃d:List Addr,d=xs.map (·.2.1):=⟨_,rfl⟩;have hal:d.length=c.length:=by rw[eas,Y0];lia
 have has:∀i,i < c.length->vs.getD i Value.none= .ref (d.getD i 0)/\H (d.getD i 0)=some (.tup (EX (c.getD i (0,"","")))):=fun i hi=>by
  have gi:vs[i]?=some (vs.getD i Value.none):=by rw[Y6 (by lia)];simp[show i < vs.length by lia]
  obtain⟨t,k,l,g,e3,e4⟩:=hat i _ gi;have et:d.getD i 0=t:=by rw[eas,XQ,Yc,e3];rfl
  have ek:c.getD i (0,"","")=k:=by rw[XQ,g];rfl
  rw[et,ek];exact⟨l,e4⟩
 have ad:WD ((p.toList.map fun i=>d.getD i 0).map V.ref) (p.toList.map fun i=>vs.getD i Value.none):=by
  have:∀r:List Nat,(∀i∈r,i < c.length)->WD ((r.map fun i=>d.getD i 0).map V.ref) (r.map fun i=>vs.getD i Value.none):=by
   intro r
   induction r with
   |nil=>exact fun _=>.nil
   |cons i r ih=>
    intro hr;refine .cons ?_ (ih fun j hj=>hr j (.tail _ hj));exact(has i (hr i (.head _))).1
  exact this _ hb
 have hln:(p.toList.map fun i=>d.getD i 0).length=c.length:=by rw[Y0,f.length_eq,YB]
 refine Ye ⟨_,rfl,.ref h'.objs.size,upd H h'.objs.size (.lst ((p.toList.map fun i=>d.getD i 0).map V.ref)),I2.laid (t':=tk) (fun b o z'=>?_) (Y5 _) ?_,rfl,q (p.toList.map fun i=>c.getD i (0,"","")) _ _ _ ?_ (O4 a1 a2) ?_ ?_ hf (TZ hf) Jn⟩
 .have ab:=Yk z';rw[sortedHeap_old (Yr ab) (by rw[Uj];exact XS ab)];exact Y7 _ z'
 .exact⟨by rw[Y0,hln,Ym];lia,_,e,ad,he⟩
 .have h1:=f.map fun i=>c.getD i ((0,"",""):Ky)
  have h2:(List.range c.length).map (fun i=>c.getD i ((0,"",""):Ky))=c:=by
   apply List.ext_getElem
   .simp
   .intro i hi _;have:i < c.length:=by simpa using hi
    simp[this]
  rw[h2]at h1;exact h1
 .rw[Y0,Y0]
 .intro i t k l g;rw[Yc]at l g;obtain⟨j,hj,rfl⟩:=YA.mp l;rw[hj]at g;cases g;exact(has j (hb j (Yw hj))).2
end
section
variable{caps:List (Option Nat)}{g:TG}{tc:TT}{te td:TE}{d:Wo}{kvs:List (List WU×V)}{σ:St}{H:Hp}{Q:VK}
theorem jJ(hd:H d=some (.dT kvs))(htd:∀R:VK,R (.ref d) H->td σ H R)(Pv:Nat->List V->St->Hp->Prop)(h0:∀Hf,(∀c,c≠d->Hf c=H c)->Pv 0 [] (Jj caps σ) Hf)(hl:∀i ys σ' Hf,Pv i ys σ' Hf->ys.length <=i)(hz:kvs.length <=100000)
  (hs:∀Hf o,(∀c u,H c=some u->c≠d->Hf c=some u)->Hf d=some (.frz o (.dT kvs))->∀i b k v ys σ',kvs[i]?=some (k,v)->Hf b=some (.tup (k.map kV))->Pv i ys σ' Hf->g (.ref b) σ' Hf fun σ2 H2=>tc σ2 H2 fun c H3=>if c=true then te σ2 H3 fun y H4=>Pv (i+ 1) (ys++[y]) σ2 H4/\Ww Hf H4 else Pv (i+ 1) ys σ2 H3/\Ww Hf H3)
  (he:∀ys σ' Hn,Pv kvs.length ys σ' Hn->(∀c u,H c=some u->c≠d->Hn c=some u)->∀p G,H p=none->Ww H G->(∀c u,Hn c=some u->(∀o w,u≠ .frz o w)->G c=some u)->G p=some (.lst ys)->Q (.ref p) G):A8 (Ri caps (HB td) g tc te) σ H Q:=by
 refine⟨d,kvs,hd,htd _ ⟨d,kvs,rfl,hd,fun o=>?_⟩⟩;obtain⟨Hf,r⟩:∃Hf,Hf=upd H d (.frz o (.dT kvs)):=⟨_,rfl⟩;rw[<-r];have l:Hf d=some (.frz o (.dT kvs)):=by rw[r,Jn]
 have ab:∀c,c≠d->Hf c=H c:=fun c j=>by rw[r,WM j]
 refine⟨fun i m ys σ' H'=>m=kvs.length - i/\i <=kvs.length/\Pv i ys σ' H'/\Ww Hf H',⟨kvs.length,by simp,Yy _,h0 Hf ab,Ww.refl _⟩,?_⟩;rintro i m ys σ' H' ⟨rfl,hi,p,s1⟩;have hy:=hl i ys σ' H' p;have f:∀c u,H c=some u->c≠d->H' c=some u:=fun c u e n=>s1 c u (by rw[ab c n];exact e)
 by_cases hlt:i < kvs.length
 .refine .inr ⟨⟨s1 _ _ l,hlt⟩,Yg (Xv (Yg hy hlt)) (DV hz),fun aa σ2 H2=>Pv (i+ 1) aa σ2 H2/\Ww H' H2,fun aa σ2 H2 q=>⟨kvs.length - (i+ 1),by omega,rfl,hlt,q.1,s1.trans q.2⟩,fun x H2 y=>?_⟩;obtain⟨e,b,k,v,ex,hk,hb⟩:=y;subst e ex;exact hs H2 o f (s1 _ _ l) i b k v ys σ' hk hb p
 .have e:i=kvs.length:=by omega
  subst e;have h:=s1 _ _ l;refine .inl ⟨⟨h,Y5 _⟩,Ny (YH hy hz),fun s a=>?_⟩;have n1:d≠s:=fun z=>by rw[<-z,h]at a;cases a
  refine⟨o,by rw[WM n1];exact h,he ys σ' H' p f s _ ?_ (fun c u e=>?_) (fun c u e n=>?_) ?_⟩
  .cases e:H s with
   |none=>rfl
   |some u=>rw[f s u e (Ne.symm n1)]at a;cases a
  .by_cases j:c=d
   .rw[j,hd]at e;rw[j,Jn];exact e
   .have e':=f c u e j;rw[WM j,WM (fun z=>by rw[z,a]at e';cases e')];exact e'
  .have n:c≠d:=fun z=>by rw[z,h]at e;exact n _ _ (Option.some.inj e).symm
   rw[WM n,WM (fun z=>by rw[z,a]at e;cases e)];exact e
  .rw[WM (Ne.symm n1),Jn]
end
def Pw{α β:Type}(R:α->β->Prop)(xs:List α)(ys:List β):Prop:=xs.length=ys.length/\∀ (j:Nat) x y,xs[j]?=some x->ys[j]?=some y->R x y
theorem Pw.nil{α β:Type}{R:α->β->Prop}:Pw R [] []:=⟨rfl,fun j x y h=>by simp at h⟩
theorem Pw.imp{α β:Type}{R S:α->β->Prop}{xs:List α}{ys:List β}(h:Pw R xs ys)(f:∀x y,R x y->S x y):Pw S xs ys:=⟨h.1,fun j x y a b=>f x y (h.2 j x y a b)⟩
theorem Pw.app{α β:Type}{R:α->β->Prop}{xs xs':List α}{ys ys':List β}(h:Pw R xs ys)(h':Pw R xs' ys'):Pw R (xs++xs') (ys++ys'):=by
 refine⟨by rw[List.length_append,List.length_append,h.1,h'.1],fun j x y a b=>?_⟩;rw[Xy]at a b
 by_cases hj:j < xs.length
 .rw[Y3 hj]at a;rw[Y3 (by rw[<-h.1];exact hj)]at b;exact h.2 j x y a b
 .rw[Y2 hj]at a;rw[Y2 (by rw[<-h.1];exact hj)]at b;rw[h.1]at a;exact h'.2 _ x y a b
theorem Pw.one {α β : Type} {R : α -> β -> Prop} {x : α} {y : β} (h : R x y) : Pw R [x] [y] := ⟨rfl, fun j a b c d => by
 cases j with
 |zero=>cases c;cases d;exact h
 | succ j => simp at c⟩
theorem Pw.snoc{α β:Type}{R:α->β->Prop}{xs:List α}{ys:List β}{x:α}{y:β}(h:Pw R xs ys)(hx:R x y):Pw R (xs++[x]) (ys++[y]):=h.app (.one hx)
theorem Pw.get{α β:Type}{R:α->β->Prop}{xs:List α}{ys:List β}(h:Pw R xs ys){i:Nat}{x:α}(hx:xs[i]?=some x):∃y,ys[i]?=some y/\R x y:=by
 have hi:i < xs.length:=(Y4.mp hx).1;have e:ys[i]?=some (ys[i]'(by rw[<-h.1];exact hi)):=Y6 (by rw[<-h.1];exact hi);exact⟨_,e,h.2 i x _ hx e⟩
theorem Pw.pick{α β:Type}{R:α->β->Prop}{xs:List α}{ys:List β}{a:α}{b:β}(h:Pw R xs ys):∀r:List Nat,(∀i∈r,i < xs.length)->Pw R (r.map fun i=>xs.getD i a) (r.map fun i=>ys.getD i b)
 |[],_=>.nil
 |i::r,hr=>by
  have hi:=hr i (.head _);have c:i < ys.length:=by rw[<-h.1];exact hi
  have f:xs[i]?=some (xs.getD i a):=by rw[Y6 hi];simp[hi]
  have e:ys[i]?=some (ys.getD i b):=by rw[Y6 c];simp[c]
  exact(Pw.one (h.2 i _ _ f e)).app (h.pick r fun j d=>hr j (.tail _ d))
theorem ZH{α:Type}{c:List α}{d:α}{r:List Nat}(h:r.Perm (List.range c.length)):(r.map fun i=>c.getD i d).Perm c:=by
 have h1:=h.map fun i=>c.getD i d
 have h2:(List.range c.length).map (fun i=>c.getD i d)=c:=by
  apply List.ext_getElem
  .simp
  .intro i hi _;have:i < c.length:=by simpa using hi
   simp[this]
 rw[h2]at h1;exact h1
end L2
namespace HT
open PySem PyProof.Rows
end HT
namespace L2
open PySem PySem.Spec PyProof.Rows PySem.W
end L2
namespace HT
open PySem PyProof.Rows
end HT
namespace L2
open PySem PySem.Spec PyProof.Rows PySem.W
end L2
namespace L2
open PySem PySem.Spec PyProof.Rows
theorem RQ{us:Wq}{n:Nat}(h:us.length=n+ 1):∃a r,us=a::r/\r.length=n:=by
 cases us with
 |nil=>cases h
 |cons a r=>exact⟨a,r,rfl,Nat.succ.inj h⟩
theorem DR{us:Wq}(h:us.length=1):∃a,us=[a]:=by
 obtain⟨a,r,e,g⟩:=RQ h;rw[Uc g]at e;exact⟨a,e⟩
theorem Dg{us:Wq}(h:us.length=2):∃a a1,us=[a,a1]:=by
 obtain⟨a,r,e,g⟩:=RQ h;obtain⟨a1,z⟩:=DR g;rw[z]at e;exact⟨_,_,e⟩
theorem E2{us:Wq}(h:us.length=3):∃a a1 a2,us=[a,a1,a2]:=by
 obtain⟨a,r,e,g⟩:=RQ h;obtain⟨a1,a2,z⟩:=Dg g;rw[z]at e;exact⟨_,_,_,e⟩
theorem Oj{us:Wq}(h:us.length=4):∃a a1 a2 a3,us=[a,a1,a2,a3]:=by
 obtain⟨a,r,e,g⟩:=RQ h;obtain⟨a1,a2,a3,z⟩:=E2 g;rw[z]at e;exact⟨_,_,_,_,e⟩
theorem Fv{us:Wq}(h:us.length=5):∃a a1 a2 a3 a4,us=[a,a1,a2,a3,a4]:=by
 obtain⟨a,r,e,g⟩:=RQ h;obtain⟨a1,a2,a3,a4,z⟩:=Oj g;rw[z]at e;exact⟨_,_,_,_,_,e⟩
theorem Kc{us:Wq}(h:us.length=6):∃a a1 a2 a3 a4 a5,us=[a,a1,a2,a3,a4,a5]:=by
 obtain⟨a,r,e,g⟩:=RQ h;obtain⟨a1,a2,a3,a4,a5,z⟩:=Fv g;rw[z]at e;exact⟨_,_,_,_,_,_,e⟩
theorem PP{us:Wq}(h:us.length=7):∃a a1 a2 a3 a4 a5 a6,us=[a,a1,a2,a3,a4,a5,a6]:=by
 obtain⟨a,r,e,g⟩:=RQ h;obtain⟨a1,a2,a3,a4,a5,a6,z⟩:=Kc g;rw[z]at e;exact⟨_,_,_,_,_,_,_,e⟩
theorem ZR{us:Wq}(h:us.length=8):∃a a1 a2 a3 a4 a5 a6 a7,us=[a,a1,a2,a3,a4,a5,a6,a7]:=by
 obtain⟨a,r,e,g⟩:=RQ h;obtain⟨a1,a2,a3,a4,a5,a6,a7,z⟩:=PP g;rw[z]at e;exact⟨_,_,_,_,_,_,_,_,e⟩
structure ME(P:Wh)(w:Wl)(K:Wm)(mg:Wd)(base:Wr):Prop where
 of:∀{n:Str} {v:Wn},W.nsIn K mainGlobals n=some (some v)->mg n=some v
 no:∀{n:Str},W.nsIn K mainGlobals n=some none->mg n=none
def FF(K:Wm)(n q:Str)(st:Stmt)(f:Wo):Prop:=∃ (oc:Wn) (od:Option Addr) (kV dc pm:Wn) (an:Option Addr) (cd ct:Wn) (sl:Array (Option Value)),
 K.lookup f=some ⟨oc,od,.func (W.fnOf n q (Mt st) (WC st) (Wt st) .none kV dc pm an cd ct),sl⟩/\W.codeIn K cd q=true/\W.keepIn K (.ref f)=true
def GF(K:Wm)(n:Str)(st:Stmt)(f:Wo):Prop:=W.nsIn K mainGlobals n=some (some (.ref f))/\FF K n n st f
def MF(K:Wm)(C:Wo)(m q:Str)(st:Stmt)(f:Wo):Prop:=W.findIn K (.ref C) m=some (some (.ref f))/\W.isFn K (.ref f)=true/\FF K m q st f
def DF(K:Wm)(C:Wo)(q:Str)(st:Stmt)(f T:Wo):Prop:=W.findIn K (.ref C) "__init__"=some (some (.ref f))/\W.isFn K (.ref f)=true/\∃ (oc:Wn) (od:Option Addr) (kV dc pm:Wn) (an:Option Addr) (cd ct:Wn) (sl:Array (Option Value)),
 K.lookup f=some ⟨oc,od,.func (W.fnOf "__init__" q (Mt st) (WC st) (Wt st) (.ref T) kV dc pm an cd ct),sl⟩/\W.codeIn K cd q=true/\∃ (oT:Option Addr) (nT:Nat) (sT:Array (Option Value)),K.lookup T=some ⟨.type "tuple",oT,.seq #[.bool false] nT,sT⟩
def CF(K:Wm)(n:Str)(C:Wo):Prop:=W.nsIn K mainGlobals n=some (some (.ref C))/\Ml K C/\W.makesIn K C=true/\W.keepIn K (.ref C)=true/\GN K C
def NA(K:Wm)(C:Wo):List Str->Prop
 |[]=>True
 |x::r=>W.findIn K (.ref C) x=some none/\NA K C r
def NS(K:Wm):List Str->Prop
 |[]=>True
 |x::r=>W.nsIn K mainGlobals x=some none/\NS K r
section
variable{P:Wh}{w:Wl}{K:Wm}{mg:Wd}{base:Wr}{n q m:Str}{st:Stmt}{f C:Wo}{k:Nat}{ps:List Str}{sp:Sp}
theorem FF.fn(h:FF K n q st f):∃fd,JL K n q st f fd/\W.keepIn K (.ref f)=true:=by
 obtain⟨e,d,kV,g,pm,j,i,ct,b,l,c,a⟩:=h;exact⟨_,CH l c a,a⟩
theorem ME.fb(E:ME P w K mg base)(g:GF K n st f)(h:∀{fd},JL K n n st f fd->WA P w K mg base Je k f fd ps sp)
  (hb:∀ (kV doc pm:Wn) (an:Option Addr) (cdv ct:Wn) (us:Wq),us.length=ps.length->bindArgs (W.fnOf n n (Mt st) (WC st) (Wt st) .none kV doc pm an cdv ct) ⟨us,[]⟩=pure (ps.zip us)):Nt P w K mg base n k ps [] sp:=by
 obtain⟨fd,F,a⟩:=g.2.fn;exact⟨f,fd,[],h F,E.of g.1,a,F.binds hb,.nil⟩
theorem ME.mb(E:ME P w K mg base){cn:Str}(c:CF K cn C)(g:MF K C m q st f)(h:∀{fd},JL K m q st f fd->WA P w K mg base Je k f fd ps sp)
  (hb:∀ (kV doc pm:Wn) (an:Option Addr) (cdv ct:Wn) (us:Wq),us.length=ps.length->bindArgs (W.fnOf m q (Mt st) (WC st) (Wt st) .none kV doc pm an cdv ct) ⟨us,[]⟩=pure (ps.zip us)):Nq P w K mg base C m k ps [] sp:=by
 obtain⟨fd,F,a⟩:=g.2.2.fn;exact⟨f,fd,[],h F,c.2.1,⟨g.1,g.2.1,a⟩,F.binds hb,.nil⟩
theorem ME.kb(E:ME P w K mg base){cn:Str}(c:CF K cn C)(g:MF K C "__init__" q st f)
  (h:∀{fd},(∃ (oc:Wn) (od:Option Addr) (dV kV doc pm:Wn) (an:Option Addr) (cdv ct:Wn) (osl:Array (Option Value)),fd=W.fnOf "__init__" q (Mt st) (WC st) (Wt st) dV kV doc pm an cdv ct/\K.lookup f=some ⟨oc,od,.func fd,osl⟩/\W.codeIn K cdv q=true)->WA P w K mg base Je k f fd ps sp)
  (hb:∀ (kV doc pm:Wn) (an:Option Addr) (cdv ct:Wn) (us:Wq),us.length=ps.length->bindArgs (W.fnOf "__init__" q (Mt st) (WC st) (Wt st) .none kV doc pm an cdv ct) ⟨us,[]⟩=pure (ps.zip us)):Dx P w K mg base cn C k ps [] sp:=by
 obtain⟨oc,od,kV,e,pm,an,i,ct,b,l,a,d⟩:=g.2.2;exact⟨f,_,[],h ⟨oc,od,.none,kV,e,pm,an,i,ct,b,rfl,l,a⟩,E.of c.1,⟨c.2.2.1,g.1,g.2.1,c.2.2.2.1⟩,(CH l a d).binds hb,.nil⟩
end
def GA(K:Wm)(n:Str)(st:Stmt)(f c T:Wo):Prop:=W.nsIn K mainGlobals n=some (some (.ref f))/\∃ (oc:Wn) (od:Option Addr) (kV dc pm:Wn) (an:Option Addr) (ct:Wn) (sl:Array (Option Value)),
 K.lookup f=some ⟨oc,od,.func (W.fnOf n n (Mt st) (WC st) (Wt st) .none kV dc pm an (.ref c) ct),sl⟩/\W.codeIn K (.ref c) n=true/\W.keepIn K (.ref f)=true/\∃ (oc':Wn) (od':Option Addr) (vs:Array Value) (sl':Array (Option Value)),K.lookup c=some ⟨oc',od',.fields vs,sl'⟩/\vs[11]?=some (.ref T)
section
variable{P:Wh}{w:Wl}{K:PySem.W.Frag}{mg:Wd}{base:Wr}{n q m:Str}{st:Stmt}{f C c T W:Wo}{k:Nat}{ps:List Str}{sp sp0:Sp}
theorem GA.tab(g:GA K n st f c T):PySem.W.tabIn K n=some (c,T):=by
 obtain⟨h1,l,j,kV,q,pm,r,ct,i,h2,p,o,h,e,vs,d,b,a⟩:=g;exact Zn h1 h2 rfl b a
theorem ME.fa(E:ME P w K mg base)(g:GA K n st f c T)(h:∀{fd},Ds K n n st f fd (.ref c)->WA P w K mg base Je k f fd ps sp)
  (hb:∀ (kV doc pm:Wn) (an:Option Addr) (cdv ct:Wn) (us:Wq),us.length=ps.length->bindArgs (PySem.W.fnOf n n (Mt st) (WC st) (Wt st) .none kV doc pm an cdv ct) ⟨us,[]⟩=pure (ps.zip us)):Nt P w K mg base n k ps [] sp:=by
 obtain⟨h1,i,e,kV,j,pm,an,ct,d,h2,b,a,_⟩:=g;exact⟨f,_,[],h ⟨i,e,kV,j,pm,an,ct,d,rfl,h2,b⟩,E.of h1,a,(CH h2 b a).binds hb,.nil⟩
end
end L2
namespace L2
open PySem PySem.Spec PyProof.Rows PySem.W
section
variable{O:KeyOrd}{key:Nat->O.α}
def Pc(O:KeyOrd)(key:Nat->O.α)(i j:Nat):Prop:=if i < j then O.blt (key j) (key i)=false else O.blt (key i) (key j)=true
theorem Pc.irr{i:Nat}(h:Pc O key i i):False:=by
 unfold Pc at h;rw[Y2 (X8 _),O.irrefl]at h;cases h
theorem Pc.le{i j:Nat}(h:Pc O key i j):O.kle (key i) (key j):=by
 unfold Pc at h;split at h
 .exact h
 .exact Uf h
theorem Pc.trans{i j k:Nat}(h1:Pc O key i j)(h2:Pc O key j k):Pc O key i k:=by
 by_cases hik:i < k
 .unfold Pc;rw[Y3 hik];exact Ur h1.le h2.le
 .have h:O.blt (key i) (key j)=true\/O.blt (key j) (key k)=true:=by
   by_cases hij:i < j
   .right;unfold Pc at h2;rw[Y2 (by lia)]at h2;exact h2
   .left;unfold Pc at h1;rw[Y2 hij]at h1;exact h1
  unfold Pc;rw[Y2 hik];rcases h with h|h
  .rcases O.negTrans _ (key k) _ h with a|a
   .exact a
   .have:=h2.le;unfold KeyOrd.kle at this;rw[this]at a;cases a
  .rcases O.negTrans _ (key i) _ h with a|a
   .have:=h1.le;unfold KeyOrd.kle at this;rw[this]at a;cases a
   .exact a
theorem Pc.tot{i j:Nat}(h:i≠j)(n:¬Pc O key i j):Pc O key j i:=by
 unfold Pc at n ⊢
 by_cases hij:i < j
 .rw[Y3 hij]at n;rw[Y2 (by lia)];simpa using n
 .rw[Y2 hij]at n;rw[Y3 (by lia)];simpa using n
theorem Pc.no{i j:Nat}(h:Pc O key i j):¬Pc O key j i:=fun h'=>(h.trans h').irr
theorem Pc.ask{i j:Nat}(h:i < j):Ni O key j i=true↔Pc O key j i:=by
 unfold Pc Ni;rw[Y2 (by lia)]
theorem Pc.ask'{i j:Nat}(h:i < j):Ni O key j i=false↔Pc O key i j:=by
 unfold Pc Ni;rw[Y3 h]
end
section
variable{prog:Wh}{w:Wl}{A:Wk}{E:We}{s:Wi}{O:KeyOrd}{key:Nat->O.α}{κ:SortKind}{it:Nat->Keyed}{N:Nat}
def DX(prog:Wh)(w:Wl)(A:Wk)(s:Wi)(κ:SortKind)(it:Nat->Keyed)(N:Nat)(lt:Nat->Nat->Bool):Prop:=
 ∀ (i j:Nat) (C:Bool->Shared->Prop),i < N->j < N->C (lt i j) s->wpAny (model prog w) A (keyLt' κ (it i).1 (it j).1) C (fun _ _=>False) s
structure Df(κ:SortKind)(it:Nat->Keyed)(l:List Nat)(st:SortSt):Prop where
 kind:kindOf st=κ
 ok:failedOf st=none
 arr:arrOf st=(l.map it).toArray
variable{lt:Nat->Nat->Bool}
theorem BM{st:SortSt}{i j:Nat}{Q:Option Bool->SortSt->Prop}(C:DX prog w A s κ it N lt)(hk:kindOf st=κ)(hi:i < N)(hj:j < N)(h:Q (some (lt i j)) st):
  wpS (model prog w) A E s (lt' (it i) (it j)) Q st:=by
 rw[lt'_eq];refine Yb (UI ?_);rw[hk];refine Yb (Vh (Uy (YF (C i j (fun b s'=>s'=s/\b=lt i j) hi hj ⟨rfl,rfl⟩) (fun b s' q=>?_) fun _ _ e=>e.elim)));obtain⟨rfl,rfl⟩:=q;exact⟨rfl,Yh h⟩
theorem TW{st:SortSt}{v:Array Keyed}{i:Nat}{x:Keyed}{Q:Keyed->SortSt->Prop}(e:v[i]?=some x)(h:Q x st):wpS (model prog w) A E s (elem' v i) Q st:=by
 rw[elem'_eq,e];exact Yh h
def QV:Bool->Keyed->Array Keyed->Nat->Nat->Nat->StateT SortSt Sem (Option Nat):=sortPriv%PySem.Builtin.gallop
theorem yU{st:SortSt}{left:Bool}{v:Array Keyed}{i x y:Nat}{Q:Option Bool->SortSt->Prop}(C:DX prog w A s κ it N lt)(hk:kindOf st=κ)(hx:x < N)(hy:y < N)(e:v[i]?=some (it x))
  (h:Q (some (if left then lt x y else !lt y x)) st):
  wpS (model prog w) A E s (elem' v i >>=fun x=>if left=true then lt' x (it y) else lt' (it y) x >>=fun r=>pure (Option.map (fun x=> !x) r)) Q st:=by
 refine Yb (TW e ?_);cases left with
 |true=>exact BM C hk hx hy h
 |false=>
  refine Yb (BM C hk hy hx ?_);exact Yh h
theorem EV{st:SortSt}{left:Bool}{v:Array Keyed}{b n t y c:Nat}{Q:Option Nat->SortSt->Prop}(C:DX prog w A s κ it N lt)(hk:kindOf st=κ)(hy:y < N)(ht:t < n)(hc:c <=n)
  (hb:∀i,i < n->∃x,x < N/\v[b+ i]?=some (it x)/\(if left then lt x y else !lt y x)=decide (i < c)) (h:Q (some c) st):
  wpS (model prog w) A E s (QV left (it y) v b n t) Q st:=by
 have ask:∀ (i:Nat) (R:Option Bool->SortSt->Prop),i < n->R (some (decide (i < c))) st->wpS (model prog w) A E s (elem' v (b+ i) >>=fun x=>if left=true then lt' x (it y) else lt' (it y) x >>=fun r=>pure (Option.map (fun x=> !x) r)) R st:=fun i R hi hR=>by
  obtain⟨x,hx,e,eb⟩:=hb i hi;refine yU C hk hx hy e ?_;rw[eb];exact hR
 have fin:∀ (f:Nat->Option (Option Nat)×Nat×Nat->StateT SortSt Sem (ForInStep (Option (Option Nat)×Nat×Nat))) (lo hi:Nat),
   (∀x lo hi (R:ForInStep (Option (Option Nat)×Nat×Nat)->SortSt->Prop),hi <=n->(hi <=lo->R (.done (none,lo,hi)) st)->(lo < hi->lo+ (hi - lo) / 2 < c->R (.yield (none,lo+ (hi - lo) / 2+ 1,hi)) st)->(lo < hi->c <=lo+ (hi - lo) / 2->R (.yield (none,lo,lo+ (hi - lo) / 2)) st)->wpS (model prog w) A E s (f x (none,lo,hi)) R st)->
   lo <=c->c <=hi->hi <=n->wpS (model prog w) A E s (forIn [0:n] (none,lo,hi) f) (fun r a=>a=st/\r=(none,c,c)) st:=fun f lo hi hf h1 h2 j=>by
  refine YW (I:=fun x r a=>a=st/\∃lo hi,r=(none,lo,hi)/\lo <=c/\c <=hi/\hi <=n/\hi - lo <=n - x) ?_ ?_ ⟨rfl,lo,hi,rfl,h1,h2,j,by lia⟩
  .rintro x r a - hx ⟨rfl,lo,hi,rfl,h1,h2,j,p⟩;refine hf x lo hi _ j (fun q=>⟨rfl,?_⟩) (fun g d=>⟨rfl,_,_,rfl,by lia,by lia,by lia,by lia⟩) fun g d=>⟨rfl,_,_,rfl,by lia,by lia,by lia,by lia⟩
   obtain rfl:lo=c:=by lia
   obtain rfl:hi=lo:=by lia
   rfl
  .rintro r a ⟨rfl,lo,hi,rfl,h1,h2,j,p⟩;obtain rfl:lo=c:=by lia
   obtain rfl:hi=lo:=by lia
   exact⟨rfl,rfl⟩
 unfold QV;refine Yb (ask t _ ht ?_)
 by_cases q:t < c
 .simp only[q,X3,if_true];refine Yb (Xk (YW (I:=fun x r a=>a=st/\∃l o,r=(none,l,o)/\t+ l < c/\x+ 1 <=o) (Q:=fun r a=>a=st/\∃l o,r=(none,l,o)/\t+ l < c/\(n - t <=o\/c <=t+ o)) ?_ ?_ ⟨rfl,0,1,rfl,by lia,by lia⟩) ?_)
  .rintro x r a - hx ⟨rfl,l,o,rfl,h1,h2⟩;dsimp only
   by_cases g:o≥n - t
   .rw[Y3 g];exact Yh ⟨rfl,l,o,rfl,h1,.inl g⟩
   .rw[Y2 g];refine Yb (ask _ _ (by lia) ?_)
    by_cases d:t+ o < c
    .simp only[d,X3,Bool.not_true,Bool.false_eq_true,if_false];exact Yh ⟨rfl,o,_,rfl,d,by lia⟩
    .simp only[d,X1,Bool.not_false,if_true];exact Yh ⟨rfl,l,o,rfl,h1,.inr (by lia)⟩
  .rintro r a ⟨rfl,l,o,rfl,h1,h2⟩;exact⟨rfl,l,o,rfl,h1,.inl (by lia)⟩
  .rintro r a ⟨rfl,l,o,rfl,h1,h2⟩;dsimp only;refine Yb (Xk (fin _ _ _ ?_ (by lia) (by lia) (by lia)) ?_)
   .intro x lo hi R h1 h2 j p;dsimp only
    by_cases q:lo≥hi
    .rw[Y3 q];exact Yh (h2 q)
    .rw[Y2 q];refine Yb (ask _ _ (by lia) ?_)
     by_cases d:lo+ (hi - lo) / 2 < c
     .simp only[d,X3,if_true];exact Yh (j (by lia) d)
     .simp only[d,X1,Bool.false_eq_true,if_false];exact Yh (p (by lia) (by lia))
   rintro r st'' ⟨rfl,rfl⟩;exact Yh h
 .simp only[q,X1,Bool.false_eq_true,if_false];refine Yb (Xk (YW (I:=fun x r a=>a=st/\∃l o,r=(none,l,o)/\l <=t/\c <=t - l/\x+ 1 <=o) (Q:=fun r a=>a=st/\∃l o,r=(none,l,o)/\l <=t/\c <=t - l/\(t+ 1 <=o\/t - o < c)) ?_ ?_ ⟨rfl,0,1,rfl,by lia,by lia,by lia⟩) ?_)
  .rintro x r a - hx ⟨rfl,l,o,rfl,z,h1,h2⟩;dsimp only
   by_cases g:o≥t+ 1
   .rw[Y3 g];exact Yh ⟨rfl,l,o,rfl,z,h1,.inl g⟩
   .rw[Y2 g];refine Yb (ask _ _ (by lia) ?_)
    by_cases d:t - o < c
    .simp only[d,X3,if_true];exact Yh ⟨rfl,l,o,rfl,z,h1,.inr d⟩
    .simp only[d,X1,Bool.false_eq_true,if_false];exact Yh ⟨rfl,o,_,rfl,by lia,by lia,by lia⟩
  .rintro r a ⟨rfl,l,o,rfl,z,h1,h2⟩;exact⟨rfl,l,o,rfl,z,h1,.inl (by lia)⟩
  .rintro r a ⟨rfl,l,o,rfl,z,h1,h2⟩;dsimp only;refine Yb (Xk (fin _ _ _ ?_ (by lia) (by lia) (by lia)) ?_)
   .intro x lo hi R h1 h2 j p;dsimp only
    by_cases q:lo≥hi
    .rw[Y3 q];exact Yh (h2 q)
    .rw[Y2 q];refine Yb (ask _ _ (by lia) ?_)
     by_cases d:lo+ (hi - lo) / 2 < c
     .simp only[d,X3,if_true];exact Yh (j (by lia) d)
     .simp only[d,X1,Bool.false_eq_true,if_false];exact Yh (p (by lia) (by lia))
   rintro r st'' ⟨rfl,rfl⟩;exact Yh h
end
section
variable{P:Nat->Nat->Prop}{l zs rx ry:List Nat}
structure Mg(P:Nat->Nat->Prop)(l zs rx ry:List Nat):Prop where
 sx:(zs++rx).Pairwise P
 sy:(zs++ry).Pairwise P
 pm:(zs++(rx++ry)).Perm l
theorem Mg.x{cx:List Nat}(M:Mg P l zs (cx++rx) ry)(h:∀x∈cx,∀y∈ry,P x y):Mg P l (zs++cx) rx ry:=by
 refine⟨by simpa[List.append_assoc] using M.sx,?_,by simpa[List.append_assoc] using M.pm⟩;have a:=M.sx;have b:=M.sy;rw[Yo]at a b;rw[List.append_assoc,Yo,Yo];refine⟨a.1,⟨(Yo.mp a.2.1).1,b.2.1,h⟩,fun u c v d=>?_⟩;rcases Yj.mp d with q|q
 .exact a.2.2 u c v (YG _ q)
 .exact b.2.2 u c v q
theorem Mg.swap(M:Mg P l zs rx ry):Mg P l zs ry rx:=⟨M.sy,M.sx,(XN _ Uo).trans M.pm⟩
theorem Mg.y{cy:List Nat}(M:Mg P l zs rx (cy++ry))(h:∀x∈cy,∀y∈rx,P x y):Mg P l (zs++cy) rx ry:=(M.swap.x h).swap
theorem Ci(T:∀{i j k},P i j->P j k->P i k)(y:Nat):∀{l:List Nat},l.Pairwise P->∃c,c <=l.length/\∀i x,l[i]?=some x->(P x y↔i < c)
 |[],_=>⟨0,Y5 _,fun i x h=>by simp at h⟩
 |a::l,h=>by
  rw[Xl]at h
  by_cases q:P a y
  .obtain⟨c,h1,h2⟩:=Ci T y h.2;refine⟨c+ 1,by simpa using h1,fun i x e=>?_⟩;cases i with
   |zero=>simp at e;subst e;exact⟨fun _=>by lia,fun _=>q⟩
   |succ i=>simp at e;rw[h2 i x e];lia
  .refine⟨0,by lia,fun i x e=>⟨fun p=>?_,fun p=>by lia⟩⟩;cases i with
   |zero=>simp at e;subst e;exact absurd p q
   |succ i=>simp at e;exact absurd (T (h.1 x (Yw e)) p) q
end
section
variable{P:Nat->Nat->Prop}{it:Nat->Keyed}{xs ys:List Nat}{out:Array Keyed}{ia ib k:Nat}
def DT(P:Nat->Nat->Prop)(it:Nat->Keyed)(l:List Nat)(r:Array Keyed):Prop:=∃zs:List Nat,r=(zs.map it).toArray/\zs.Perm l/\zs.Pairwise P
def Ms(P:Nat->Nat->Prop)(it:Nat->Keyed)(xs ys:List Nat)(out:Array Keyed)(ia ib k:Nat):Prop:=
 ∃zs:List Nat,out=(zs.map it).toArray/\Mg P (xs++ys) zs (xs.drop ia) (ys.drop ib)/\k <=zs.length/\ia <=xs.length/\ib <=ys.length
theorem D7(l:List Nat)(i j:Nat):((l.map it).toArray).extract i j=(((l.drop i).take (j - i)).map it).toArray:=by
 simp[List.extract_toArray,List.map_take,List.map_drop]
theorem Ms.len(h:Ms P it xs ys out ia ib k):k+ (xs.length - ia)+ (ys.length - ib) <=xs.length+ ys.length:=by
 obtain⟨zs,_,M,a,_,_⟩:=h;have:=M.pm.length_eq;simp at this;lia
theorem Ms.done(h:Ms P it xs ys out ia ib k)(e:ia=xs.length\/ib=ys.length):DT P it (xs++ys) (out++((xs.map it).toArray).extract ia ((xs.map it).toArray).size++((ys.map it).toArray).extract ib ((ys.map it).toArray).size):=by
 obtain⟨zs,rfl,M,_,_,_⟩:=h;refine⟨zs++(xs.drop ia++ys.drop ib),?_,M.pm,?_⟩
 .rw[D7,D7];simp[YD]
 .rcases e with rfl|rfl
  .simpa using M.sy
  .simpa using M.sx
theorem Ms.last(h:Ms P it xs ys out ia ib k)(e:ia+ 1=xs.length)(hl:∀x∈xs.drop ia,∀y∈ys,P y x):DT P it (xs++ys) (out++((ys.map it).toArray).extract ib ((ys.map it).toArray).size++((xs.map it).toArray).extract ia ((xs.map it).toArray).size):=by
 obtain⟨zs,rfl,M,_,_,_⟩:=h;refine⟨zs++(ys.drop ib++xs.drop ia),?_,M.swap.pm,?_⟩
 .rw[D7,D7];simp[YD]
 .have a:=M.sx;have b:=M.sy;rw[Yo]at a b ⊢;refine⟨a.1,Yo.mpr ⟨b.2.1,a.2.1,fun u c v d=>hl v d u (Xm c)⟩,fun u c v d=>?_⟩;rcases Yj.mp d with q|q
  .exact b.2.2 u c v q
  .exact a.2.2 u c v q
theorem Ms.fromY(h:Ms P it xs ys out ia ib k){c:Nat}(hc:ib+ c <=ys.length)(hp:∀i x,i < c->ys[ib+ i]?=some x->∀u∈xs.drop ia,P x u):Ms P it xs ys (out++((ys.map it).toArray).extract ib (ib+ c)) ia (ib+ c) (k+ c):=by
 obtain⟨zs,rfl,M,h1,h2,d⟩:=h;have e:ys.drop ib=(ys.drop ib).take c++ys.drop (ib+ c):=by rw[<-List.drop_drop,List.take_append_drop]
 refine⟨zs++(ys.drop ib).take c,?_,?_,?_,h2,hc⟩
 .rw[D7];simp
 .rw[e]at M;refine M.y fun x a u b=>?_
  obtain⟨i,hi⟩:=YC.mp a;rw[YE]at hi
  split at hi
  .rename_i hic
   rw[YN]at hi;exact hp i x hic hi u b
  .cases hi
 .simp;lia
theorem Ms.fromX(h:Ms P it xs ys out ia ib k){c:Nat}(hc:ia+ c <=xs.length)(hp:∀i x,i < c->xs[ia+ i]?=some x->∀u∈ys.drop ib,P x u):Ms P it xs ys (out++((xs.map it).toArray).extract ia (ia+ c)) (ia+ c) ib (k+ c):=by
 obtain⟨zs,rfl,M,h1,h2,d⟩:=h;have e:xs.drop ia=(xs.drop ia).take c++xs.drop (ia+ c):=by rw[<-List.drop_drop,List.take_append_drop]
 refine⟨zs++(xs.drop ia).take c,?_,?_,?_,hc,d⟩
 .rw[D7];simp
 .rw[e]at M;refine M.x fun x a u b=>?_
  obtain⟨i,hi⟩:=YC.mp a;rw[YE]at hi
  split at hi
  .rename_i hic
   rw[YN]at hi;exact hp i x hic hi u b
  .cases hi
 .simp;lia
theorem EK{l:List Nat}{i x:Nat}(e:l[i]?=some x):out.push (it x)=out++((l.map it).toArray).extract i (i+ 1):=by
 rw[D7];obtain⟨h,rfl⟩:=Y4.mp e;have:(l.drop i).take (i+ 1 - i)=[l[i]]:=by
  rw[show i+ 1 - i=1 by lia,YO h];rfl
 rw[this];simp
theorem TU{l:List Nat}{i x:Nat}(e:l[i]?=some x):((l.map it).toArray)[i]?=some (it x):=by simp[e]
end
section
variable{prog:Wh}{w:Wl}{A:Wk}{E:We}{s:Wi}{O:KeyOrd}{key:Nat->O.α}{κ:SortKind}{it:Nat->Keyed}{N:Nat}
structure Mr(st st':SortSt):Prop where
 kind:kindOf st'=kindOf st
 arr:arrOf st'=arrOf st
 pend:pendingOf st'=pendingOf st
 fail:failedOf st'=failedOf st
structure D1(O:KeyOrd)(key:Nat->O.α)(N:Nat)(xs ys:List Nat):Prop where
 sx:xs.Pairwise (Pc O key)
 sy:ys.Pairwise (Pc O key)
 lo:∀x∈xs,∀y∈ys,x < y
 bx:∀x∈xs,x < N
 by':∀y∈ys,y < N
structure Gj(O:KeyOrd)(key:Nat->O.α)(N:Nat)(xs ys:List Nat):Prop extends D1 O key N xs ys where
 first:∀x y,xs[0]?=some x->ys[0]?=some y->Pc O key y x
 last:∀x y,xs[xs.length - 1]?=some x->ys[ys.length - 1]?=some y->Pc O key y x
 nx:0 < xs.length
 ny:0 < ys.length
section
variable{xs ys:List Nat}{out:Array Keyed}{ia ib k:Nat}
theorem GI{l:List Nat}{i x y:Nat}(S:l.Pairwise (Pc O key))(e:l[i]?=some x)(p:Pc O key y x):∀u∈l.drop i,Pc O key y u:=fun u b=>by
 obtain⟨h,rfl⟩:=Y4.mp e;have a:=S.sublist (Ug i l);rw[YO h]at b a;rw[Xl]at a;rcases Yp.mp b with rfl|q
 .exact p
 .exact p.trans (a.1 u q)
theorem Fa{l:List Nat}{x y:Nat}(S:l.Pairwise (Pc O key))(e:l[l.length - 1]?=some x)(p:Pc O key x y):∀u∈l,Pc O key u y:=fun u a=>by
 obtain⟨i,hi⟩:=YC.mp a;obtain⟨h,rfl⟩:=Y4.mp hi;obtain⟨h',rfl⟩:=Y4.mp e
 by_cases q:i=l.length - 1
 .subst q;exact p
 .exact(Xg.mp S i _ h h' (by lia)).trans p
theorem Gj.lastY(T:Gj O key N xs ys)(e:ia+ 1=xs.length):∀x∈xs.drop ia,∀y∈ys,Pc O key y x:=fun x a=>by
 have b:xs.drop ia=[xs[ia]'(by lia)]:=by rw[YO (by lia),UN (by lia)]
 rw[b]at a;obtain rfl:=Y8.mp a;exact Fa T.sy (Y6 (by have:=T.ny;lia)) (T.last _ _ (by rw[Y4];exact⟨by lia,by congr 1;lia⟩) (Y6 (by have:=T.ny;lia)))
theorem D1.ne(T:D1 O key N xs ys){x y:Nat}(hx:x∈xs)(hy:y∈ys):x≠y:=Yr (T.lo x hx y hy)
theorem Nj{l:List Nat}{i x:Nat}(e:l[i]?=some x):x∈l:=Yw e
theorem Tg{l:List Nat}{i:Nat}(h:i < l.length):∃x,l[i]?=some x:=⟨_,Y6 h⟩
theorem Gj.start(T:Gj O key N xs ys){y:Nat}(e:ys[0]?=some y):Ms (Pc O key) it xs ys #[it y] 0 1 1:=by
 have a:Ms (Pc O key) it xs ys #[] 0 0 0:=⟨[],rfl,⟨by simpa using T.sx,by simpa using T.sy,by simp⟩,Yy _,Yy _,Yy _⟩;obtain⟨x,d⟩:=Tg T.nx;have b:=a.fromY (c:=1) (by have:=T.ny;lia) fun i z hi f=>by
  obtain rfl:i=0:=by lia
  rw[Xr,e]at f;cases f;exact GI T.sx d (T.first _ _ d e)
 rw[<-EK e]at b;simpa using b
theorem D1.galR(T:D1 O key N xs ys){y:Nat}(hy:y∈ys)(ia n:Nat)(hn:ia+ n <=xs.length):∃c,c <=n/\(∀i,i < n->∃x,x < N/\((xs.map it).toArray)[ia+ i]?=some (it x)/\(if false=true then Ni O key x y else !Ni O key y x)=decide (i < c))/\∀i x,i < n->xs[ia+ i]?=some x->(i < c->Pc O key x y)/\(c <=i->Pc O key y x):=by
 obtain⟨c,h1,h2⟩:=Ci (P:=Pc O key) (fun a b=>a.trans b) y (T.sx.sublist ((Ue n (xs.drop ia)).trans (Ug ia xs)));have d:c <=n:=by simp at h1;lia
 have at':∀i x,i < n->xs[ia+ i]?=some x->(Pc O key x y↔i < c):=fun i x hi e=>h2 i x (by rw[YE,Y3 hi,YN];exact e)
 refine⟨c,d,fun i hi=>?_,fun i x hi e=>⟨(at' i x hi e).mpr,fun q=>Pc.tot (T.ne (Nj e) hy) fun p=>by have:=(at' i x hi e).mp p;lia⟩⟩;obtain⟨x,e⟩:=Tg (l:=xs) (i:=ia+ i) (by lia);refine⟨x,T.bx x (Nj e),TU e,?_⟩;rw[Y2 (by decide)]
 by_cases q:i < c
 .rw[(Pc.ask' (T.lo x (Nj e) y hy)).mpr ((at' i x hi e).mpr q)];simp[q]
 .rw[(Pc.ask (T.lo x (Nj e) y hy)).mpr (Pc.tot (T.ne (Nj e) hy) fun p=>q ((at' i x hi e).mp p))];simp[q]
theorem D1.galL(T:D1 O key N xs ys){x:Nat}(hx:x∈xs)(ib n:Nat)(hn:ib+ n <=ys.length):∃c,c <=n/\(∀i,i < n->∃y,y < N/\((ys.map it).toArray)[ib+ i]?=some (it y)/\(if true=true then Ni O key y x else !Ni O key x y)=decide (i < c))/\∀i y,i < n->ys[ib+ i]?=some y->(i < c->Pc O key y x)/\(c <=i->Pc O key x y):=by
 obtain⟨c,h1,h2⟩:=Ci (P:=Pc O key) (fun a b=>a.trans b) x (T.sy.sublist ((Ue n (ys.drop ib)).trans (Ug ib ys)));have d:c <=n:=by simp at h1;lia
 have at':∀i y,i < n->ys[ib+ i]?=some y->(Pc O key y x↔i < c):=fun i y hi e=>h2 i y (by rw[YE,Y3 hi,YN];exact e)
 refine⟨c,d,fun i hi=>?_,fun i y hi e=>⟨(at' i y hi e).mpr,fun q=>Pc.tot (T.ne hx (Nj e)).symm fun p=>by have:=(at' i y hi e).mp p;lia⟩⟩;obtain⟨y,e⟩:=Tg (l:=ys) (i:=ib+ i) (by lia);refine⟨y,T.by' y (Nj e),TU e,?_⟩;rw[Y3 rfl]
 by_cases q:i < c
 .rw[(Pc.ask (T.lo x hx y (Nj e))).mpr ((at' i y hi e).mpr q)];simp[q]
 .rw[(Pc.ask' (T.lo x hx y (Nj e))).mpr (Pc.tot (T.ne hx (Nj e)).symm fun p=>q ((at' i y hi e).mp p))];simp[q]
end
theorem Mr.rfl'(st:SortSt):Mr st st:=⟨rfl,rfl,rfl,rfl⟩
theorem Mr.trans{a b c:SortSt}(h1:Mr a b)(h2:Mr b c):Mr a c:=⟨h2.1.trans h1.1,h2.2.trans h1.2,h2.3.trans h1.3,h2.4.trans h1.4⟩
theorem Mx{τ β:Type}{M:Model}{a b:StateT τ Sem β}{Q:β->τ->Prop}{st:τ}{c:Prop}{dc:Decidable c}(h:c)(H:wpS M A E s a Q st):wpS M A E s (if c then a else b) Q st:=by rw[Y3 h];exact H
theorem MA{τ β:Type}{M:Model}{a b:StateT τ Sem β}{Q:β->τ->Prop}{st:τ}{c:Prop}{dc:Decidable c}(h:¬c)(H:wpS M A E s b Q st):wpS M A E s (if c then a else b) Q st:=by rw[Y2 h];exact H
theorem Od{τ α β:Type}{M:Model}{X:α->StateT τ Sem β}{Q:β->τ->Prop}{st:τ}{c:Prop}{dc:Decidable c}{a b:α}(h:∀g,wpS M A E s (X g) Q st):wpS M A E s (if c then X a else X b) Q st:=by
 split
 .exact h _
 .exact h _
theorem Fb{τ α γ β:Type}{M:Model}{X:α->γ->StateT τ Sem β}{B:StateT τ Sem β}{Q:β->τ->Prop}{st:τ}{c:Prop}{dc:Decidable c}{o:α}{i:γ}(P:α->γ->Prop)(hX:∀a b,P a b->wpS M A E s (X a b) Q st)
  (h1:c->(∀a b,P a b->wpS M A E s (X a b) Q st)->wpS M A E s B Q st) (h0:¬c->P o i):wpS M A E s (if c then B else X o i) Q st:=by
 split
 .exact h1 ‹_› hX
 .exact hX _ _ (h0 ‹_›)
def Pp:Nat->StateT SortSt Sem Unit:=sortPriv%PySem.Builtin.setMinGallop
theorem C5{st:SortSt}{g:Nat}{Q:Unit->SortSt->Prop}(h:∀st',Mr st st'->Q () st'):wpS (model prog w) A E s (Pp g) Q st:=by
 unfold Pp;refine Uv (h _ ⟨rfl,rfl,rfl,rfl⟩)
def QG:Array Keyed->Array Keyed->StateT SortSt Sem (Array Keyed):=sortPriv%PySem.Builtin.mergeLo
theorem j3{st:SortSt}{xs ys:List Nat}{Q:Array Keyed->SortSt->Prop}(C:DX prog w A s κ it N (Ni O key))(hk:kindOf st=κ)(T:Gj O key N xs ys)
  (h:∀r st',Mr st st'->DT (Pc O key) it (xs++ys) r->Q r st'):wpS (model prog w) A E s (QG (xs.map it).toArray (ys.map it).toArray) Q st:=by
 unfold QG;refine Yb (Vh (XV ⟨rfl,?_⟩));obtain⟨y0,hy0⟩:=Tg T.ny;have hst:=T.start (it:=it) hy0;refine Yb (TW (TU hy0) ?_);have zx:(xs.map it).toArray.size=xs.length:=by simp
 have zy:(ys.map it).toArray.size=ys.length:=by simp
 have nx:=T.nx;have ny:=T.ny;dsimp only
 by_cases q1:1=ys.length
 .refine Mx (by rw[zy];simp[q1]) ?_;exact Yh (h _ _ (.rfl' _) (hst.done (.inr q1)))
 refine MA (by rw[zy];simpa using q1) ?_
 by_cases q2:0+ 1=xs.length
 .refine Mx (by rw[zx];simpa using q2) ?_;exact Yh (h _ _ (.rfl' _) (hst.last q2 (T.lastY q2)))
 refine MA (by rw [zx]; simpa using q2) ?_;refine Yb (UI ?_);refine Yb (Xk (YW
  (I:=fun x r st'=>Mr st st'/\∃out ia ib g k,r=(none,out,ia,ib,g)/\Ms (Pc O key) it xs ys out ia ib k/\x <=k/\ia+ 1 < xs.length/\ib < ys.length)
  (Q := fun r st' => Mr st st' /\ ∃ z u, r = (some z, u) /\ DT (Pc O key) it (xs ++ ys) z) ?_ ?_ ⟨.rfl' _, _, _, _, _, _, rfl, hst, by lia, by lia, by lia⟩) ?_)
 case _=>
  rintro x r st' - hx ⟨K, out, ia, ib, g, k, rfl, M, hk', h1, h2⟩;dsimp -zeta only;refine Yb (Xk (YW
   (I:=fun x r st'=>Mr st st'/\∃out ia ib v n j,r=(none,out,ia,ib,v,n)/\Ms (Pc O key) it xs ys out ia ib j/\k+ x <=j/\ia+ 1 < xs.length/\ib < ys.length)
   (Q := fun r st' => Mr st st' /\ ((∃ z u, r = (some z, u) /\ DT (Pc O key) it (xs ++ ys) z) \/ ∃ out ia ib v n j, r = (none, out, ia, ib, v, n) /\ Ms (Pc O key) it xs ys out ia ib j /\ k + 1 <= j /\ ia + 1 < xs.length /\ ib < ys.length)) ?_ ?_ ⟨K, _, _, _, _, _, _, rfl, M, by lia, h1, h2⟩) ?_)
  case _=>
   clear K M h1 h2 hk' hst;rintro x r st' - hx ⟨K,out,ia,ib,v,n,j,rfl,M,hj,h1,h2⟩;dsimp only;obtain⟨x,ex⟩:=Tg (l:=xs) (i:=ia) (by lia);obtain⟨y,e⟩:=Tg (l:=ys) (i:=ib) (by lia);have lxy:=T.lo _ (Nj ex) _ (Nj e);refine Yb (TW (TU e) ?_);refine Yb (TW (TU ex) ?_);refine Yb (BM C (K.kind.trans hk) (T.by' _ (Nj e)) (T.bx _ (Nj ex)) ?_);cases q:Ni O key y x with
   |true=>
    have p:=(Pc.ask lxy).mp q;have M':=M.fromY (c:=1) (by lia) fun i z hi f=>by
     obtain rfl:i=0:=by lia
     rw[Up,e]at f;cases f;exact GI T.sx ex p
    rw[<-EK e]at M';refine Mx rfl ?_;refine Yb (TW (TU e) ?_);rw[zy]
    by_cases q3:ib+ 1=ys.length
    .refine Mx (by simpa using q3) ?_;exact Yh ⟨K,.inl ⟨_,_,rfl,by rw[<-zy];exact M'.done (.inr q3)⟩⟩
    .refine MA (by simpa using q3) ?_
     split
     .exact Yh ⟨K,.inr ⟨_,_,_,_,_,_,rfl,M',by lia,h1,by lia⟩⟩
     .exact Yh ⟨K,_,_,_,_,_,_,rfl,M',by lia,h1,by lia⟩
   |false=>
    have p:=(Pc.ask' lxy).mp q;have M':=M.fromX (c:=1) (by lia) fun i z hi f=>by
     obtain rfl:i=0:=by lia
     rw[Up,ex]at f;cases f;exact GI T.sy e p
    rw[<-EK ex]at M';refine MA Yf ?_;refine Yb (TW (TU ex) ?_);rw[zx]
    by_cases q3:ia+ 1+ 1=xs.length
    .refine Mx (by simpa using q3) ?_;exact Yh ⟨K,.inl ⟨_,_,rfl,by rw[<-zx];exact M'.last q3 (T.lastY q3)⟩⟩
    .refine MA (by simpa using q3) ?_
     split
     .exact Yh ⟨K,.inr ⟨_,_,_,_,_,_,rfl,M',by lia,by lia,h2⟩⟩
     .exact Yh ⟨K,_,_,_,_,_,_,rfl,M',by lia,by lia,h2⟩
  case _=>
   rintro r st' ⟨K,out,ia,ib,v,n,j,rfl,M,hj,h1,h2⟩;exact⟨K,.inr ⟨_,_,_,_,_,_,rfl,M,by rw[zx,zy]at hj;lia,h1,h2⟩⟩
  case _=>
   clear K M h1 h2 hst;rintro r st' ⟨K,⟨z,u,rfl,F⟩|⟨out,ia,ib,v,n,j,rfl,M,hj,h1,h2⟩⟩
   .exact Yh ⟨K,_,_,rfl,F⟩
   dsimp -zeta only;refine Yb (Vh (XV ⟨rfl, ?_⟩));refine Yb (Xk (YW
    (I:=fun x r st'=>Mr st st'/\∃out ia ib g v n j,r=(none,out,ia,ib,g,v,n)/\Ms (Pc O key) it xs ys out ia ib j/\k+ 1 <=j/\ia+ 1 < xs.length/\ib < ys.length)
    (Q := fun r st' => Mr st st' /\ ((∃ z u, r = (some z, u) /\ DT (Pc O key) it (xs ++ ys) z) \/ ∃ out ia ib g v n j, r = (none, out, ia, ib, g, v, n) /\ Ms (Pc O key) it xs ys out ia ib j /\ k + 1 <= j /\ ia + 1 < xs.length /\ ib < ys.length)) ?_ ?_ ⟨K, _, _, _, _, _, _, _, rfl, M, by lia, h1, h2⟩) ?_)
   case _=>
    clear K M h1 h2 hj;rintro x r st' - hx ⟨K,out,ia,ib,g,v,n,j,rfl,M,hj,h1,h2⟩;dsimp only;obtain⟨y,e⟩:=Tg (l:=ys) (i:=ib) (by lia);generalize g - 1=g1;apply Od (a:=g1) (b:=g);intro g';refine Yb (C5 fun st1 K1=>?_);have K2:=K.trans K1;refine Yb (TW (TU e) ?_);obtain⟨c,hc,hb,hx'⟩:=T.galR (it:=it) (Nj e) ia (xs.length - ia) (by lia);rw[zx,zy];refine Yb (EV C (K2.kind.trans hk) (T.by' _ (Nj e)) (by lia) hc hb ?_);dsimp only;have y1:∀x,xs[ia+ c]?=some x->Pc O key y x:=fun x ex=>(hx' c x (by have:=(Y4.mp ex).1;lia) ex).2 (Y5 _)
    apply Fb (o:=out) (i:=ia) (fun o1 i1=>∃j1,Ms (Pc O key) it xs ys o1 i1 ib j1/\(∀x,xs[i1]?=some x->Pc O key y x)/\i1+ 1 < xs.length/\k+ 1 <=j1)
    rotate_left
    .intro q0 J;have M1:=M.fromX (c:=c) (by lia) (fun i z hi f=>GI T.sy e ((hx' i z (by lia) f).1 hi))
     by_cases q3:ia+ c+ 1=xs.length
     .refine Mx (by simpa using q3) ?_;exact Yh ⟨K2,.inl ⟨_,_,rfl,by rw[<-zx,<-zy];exact M1.last q3 (T.lastY q3)⟩⟩
     refine MA (by simpa using q3) ?_
     by_cases q4:ia+ c=xs.length
     .refine Mx (by simpa using q4) ?_;exact Yh ⟨K2,.inl ⟨_,_,rfl,by have:=M1.done (.inl q4);simpa only[zx,zy] using this⟩⟩
     refine MA (by simpa using q4) ?_;exact J _ _ ⟨_,M1,y1,by lia,by lia⟩
    .intro q0;obtain rfl:c=0:=by lia
     exact⟨_,M,y1,h1,hj⟩
    clear hb hx' y1 hc M h1 hj;rintro o1 i1 ⟨j1,M1,y1,l1,l2⟩;refine Yb (TW (TU e) ?_);obtain⟨x1,ex⟩:=Tg (l:=xs) (i:=i1) (by lia);have M2:=M1.fromY (c:=1) (by lia) fun i z hi f=>by
     obtain rfl:i=0:=by lia
     rw[Up,e]at f;cases f;exact GI T.sx ex (y1 _ ex)
    rw[<-EK e]at M2
    by_cases q5:ib+ 1=ys.length
    .refine Mx (by simpa using q5) ?_;exact Yh ⟨K2,.inl ⟨_,_,rfl,by have:=M2.done (.inr q5);simpa only[zx,zy] using this⟩⟩
    refine MA (by simpa using q5) ?_;refine Yb (TW (TU ex) ?_);obtain⟨d,hd,hb2,hy2⟩:=T.galL (it:=it) (Nj ex) (ib+ 1) (ys.length - (ib+ 1)) (by lia);refine Yb (EV C (K2.kind.trans hk) (T.bx _ (Nj ex)) (by lia) hd hb2 ?_);dsimp only;have x2:∀y,ys[ib+ 1+ d]?=some y->Pc O key x1 y:=fun y e=>(hy2 d y (by have:=(Y4.mp e).1;lia) e).2 (Y5 _)
    obtain⟨o2,eo2⟩:∃o2,o2=o1.push (it y):=⟨_,rfl⟩;obtain⟨i2,ei2⟩:∃i2,i2=ib+ 1:=⟨_,rfl⟩;rw[<-eo2,<-ei2]at M2;rw[<-ei2]at hy2 x2 hd q5;rw[<-eo2,<-ei2];apply Fb (o:=o2) (i:=i2) (fun o2 i2=>∃j2,Ms (Pc O key) it xs ys o2 i1 i2 j2/\(∀y,ys[i2]?=some y->Pc O key x1 y)/\i2 < ys.length/\k+ 1 <=j2)
    rotate_left
    .intro q6 J;have M3:=M2.fromY (c:=d) (by lia) (fun i z hi f=>GI T.sx ex ((hy2 i z (by lia) f).1 hi))
     by_cases q7:i2+ d=ys.length
     .refine Mx (by simpa using q7) ?_;exact Yh ⟨K2,.inl ⟨_,_,rfl,by have:=M3.done (.inr q7);simpa only[zx,zy] using this⟩⟩
     refine MA (by simpa using q7) ?_;exact J _ _ ⟨_,M3,x2,by lia,by lia⟩
    .intro q6;obtain rfl:d=0:=by lia
     exact⟨_,M2,x2,by lia,by lia⟩
    clear hb2 hy2 x2 hd M2 M1 q5 y1 l2 ei2 eo2 i2 o2;rintro o2 i2 ⟨j2,M3,x2,l3,l4⟩;refine Yb (TW (TU ex) ?_);obtain⟨y2,ey2⟩:=Tg (l:=ys) (i:=i2) l3;have M4:=M3.fromX (c:=1) (by lia) fun i z hi f=>by
     obtain rfl:i=0:=by lia
     rw[Up,ex]at f;cases f;exact GI T.sy ey2 (x2 _ ey2)
    rw[<-EK ex]at M4
    by_cases q8:i1+ 1+ 1=xs.length
    .refine Mx (by simpa using q8) ?_;exact Yh ⟨K2,.inl ⟨_,_,rfl,by have:=M4.last q8 (T.lastY q8);simpa only[zx,zy] using this⟩⟩
    refine MA (by simpa using q8) ?_
    split
    .exact Yh ⟨K2,.inr ⟨_,_,_,_,_,_,_,rfl,M4,by lia,by lia,l3⟩⟩
    .exact Yh ⟨K2,_,_,_,_,_,_,_,rfl,M4,by lia,by lia,l3⟩
   case _=>
    rintro r st' ⟨K,out,ia,ib,g,v,n,j,rfl,M,hj,h1,h2⟩;exact⟨K,.inr ⟨_,_,_,_,_,_,_,rfl,M,hj,h1,h2⟩⟩
   case _=>
    rintro r st' ⟨K,⟨z,u,rfl,F⟩|⟨out,ia,ib,g,v,n,j,rfl,M,hj,h1,h2⟩⟩
    .exact Yh ⟨K,_,_,rfl,F⟩
    dsimp -zeta only;refine Yb (C5 fun st'' K'=>?_);exact Yh ⟨K.trans K',_,_,_,_,_,rfl,M,by lia,h1,h2⟩
 case _=>
  rintro r st' ⟨K,out,ia,ib,g,k,rfl,M,hk',h1,h2⟩;have:=M.len;rw[zx,zy]at hk'
  lia
 case _=>
  rintro r st' ⟨K,z,u,rfl,F⟩;exact Yh (h _ _ K F)
end
section
variable{P:Nat->Nat->Prop}{it:Nat->Keyed}{xs ys:List Nat}{out:Array Keyed}{na nb k:Nat}
def TR(P:Nat->Nat->Prop)(it:Nat->Keyed)(xs ys:List Nat)(out:Array Keyed)(na nb k:Nat):Prop:=
 ∃zs:List Nat,out=(zs.map it).toArray/\Mg (fun a b=>P b a) (xs++ys) zs (xs.take na).reverse (ys.take nb).reverse/\k <=zs.length/\na <=xs.length/\nb <=ys.length
theorem TR.len(h:TR P it xs ys out na nb k):k+ na+ nb <=xs.length+ ys.length:=by
 obtain⟨zs,_,M,a,_,_⟩:=h;have:=M.pm.length_eq;simp at this;lia
theorem TR.res{zs:List Nat}(M:Mg (fun a b=>P b a) (xs++ys) zs (xs.take na).reverse (ys.take nb).reverse):(xs.take na++zs.reverse).Pairwise P/\(ys.take nb++zs.reverse).Pairwise P/\(xs.take na++(ys.take nb++zs.reverse)).Perm (xs++ys):=by
 refine⟨?_,?_,?_⟩
 .have:=Xu.mpr M.sx;simpa using this
 .have:=Xu.mpr M.sy;simpa using this
 .refine List.Perm.trans ?_ M.pm;rw[<-List.append_assoc];refine Uo.trans ?_;exact(Xd _).append ((Xd _).symm.append (Xd _).symm)
theorem TR.done(h:TR P it xs ys out na nb k)(e:na=0\/nb=0):DT P it (xs++ys) (((xs.map it).toArray).extract 0 na++((ys.map it).toArray).extract 0 nb++out.reverse):=by
 obtain⟨zs,rfl,M,_,_,_⟩:=h;obtain⟨c,b,a⟩:=TR.res M;refine⟨xs.take na++(ys.take nb++zs.reverse),?_,a,?_⟩
 .rw[D7,D7];simp
 .rcases e with rfl|rfl
  .simpa using b
  .simpa using c
theorem TR.first(h:TR P it xs ys out na nb k)(hl:∀y∈ys.take nb,∀x∈xs,P y x):DT P it (xs++ys) (((ys.map it).toArray).extract 0 nb++((xs.map it).toArray).extract 0 na++out.reverse):=by
 obtain⟨zs,rfl,M,_,_,_⟩:=h;obtain⟨b,a,d⟩:=TR.res M;refine⟨ys.take nb++(xs.take na++zs.reverse),?_,List.Perm.trans ?_ d,?_⟩
 .rw[D7,D7];simp
 .rw[<-List.append_assoc,<-List.append_assoc];exact Uo.append_right _
 .rw[Yo]at b a;refine Yo.mpr ⟨a.1,Yo.mpr b,fun u c v e=>?_⟩;rcases Yj.mp e with q|q
  .exact hl u c v (YX q)
  .exact a.2.2 u c v q
theorem O7{l:List Nat}{n c:Nat}(hc:c <=n):(l.take n).reverse=((l.drop (n - c)).take (n - (n - c))).reverse++(l.take (n - c)).reverse:=by
 rw[<-List.reverse_append]
 congr 1
 rw[<-List.take_add];congr 1;lia
theorem TR.fromX(h:TR P it xs ys out na nb k){c:Nat}(hc:c <=na)(hp:∀i x,na - c <=i->i < na->xs[i]?=some x->∀u∈ys.take nb,P u x):TR P it xs ys (out++(((xs.map it).toArray).extract (na - c) na).reverse) (na - c) nb (k+ c):=by
 obtain⟨zs,rfl,M,h1,h2,d⟩:=h;refine⟨zs++((xs.drop (na - c)).take (na - (na - c))).reverse,?_,?_,?_,by lia,d⟩
 .rw[D7];simp
 .rw[O7 hc]at M;refine M.x fun x a u b=>?_
  rw[VG]at a b;obtain⟨i,hi⟩:=YC.mp a;rw[YE]at hi
  split at hi
  .rename_i hic
   rw[YN]at hi;exact hp _ x (by lia) (by lia) hi u b
  .cases hi
 .simp;lia
theorem TR.fromY(h:TR P it xs ys out na nb k){c:Nat}(hc:c <=nb)(hp:∀i x,nb - c <=i->i < nb->ys[i]?=some x->∀u∈xs.take na,P u x):TR P it xs ys (out++(((ys.map it).toArray).extract (nb - c) nb).reverse) na (nb - c) (k+ c):=by
 obtain⟨zs,rfl,M,h1,h2,d⟩:=h;refine⟨zs++((ys.drop (nb - c)).take (nb - (nb - c))).reverse,?_,?_,?_,h2,by lia⟩
 .rw[D7];simp
 .rw[O7 (l:=ys) hc]at M;refine M.y fun x a u b=>?_
  rw[VG]at a b;obtain⟨i,hi⟩:=YC.mp a;rw[YE]at hi
  split at hi
  .rename_i hic
   rw[YN]at hi;exact hp _ x (by lia) (by lia) hi u b
  .cases hi
 .simp;lia
theorem BA{l:List Nat}{n x:Nat}(hn:1 <=n)(e:l[n - 1]?=some x):out.push (it x)=out++(((l.map it).toArray).extract (n - 1) n).reverse:=by
 have:=EK (it:=it) (out:=out) e;rw[this,show n - 1+ 1=n by lia,D7];obtain⟨h,rfl⟩:=Y4.mp e;have a:(l.drop (n - 1)).take (n - (n - 1))=[l[n - 1]]:=by
  rw[show n - (n - 1)=1 by lia,YO h];rfl
 rw[a];simp
end
section
variable{prog:Wh}{w:Wl}{A:Wk}{E:We}{s:Wi}{O:KeyOrd}{key:Nat->O.α}{κ:SortKind}{it:Nat->Keyed}{N:Nat}{xs ys:List Nat}
theorem Em{l:List Nat}{n x y:Nat}(S:l.Pairwise (Pc O key))(e:l[n - 1]?=some x)(p:Pc O key x y):∀u∈l.take n,Pc O key u y:=fun u a=>by
 obtain⟨i,hi⟩:=YC.mp a;rw[YE]at hi
 split at hi
 .rename_i hin
  obtain⟨h,rfl⟩:=Y4.mp hi;obtain⟨h',rfl⟩:=Y4.mp e
  by_cases q:i=n - 1
  .subst q;exact p
  .exact(Xg.mp S i _ h h' (by lia)).trans p
 .cases hi
theorem Gj.firstX(T:Gj O key N xs ys){nb:Nat}(e:nb=1):∀y∈ys.take nb,∀x∈xs,Pc O key y x:=fun y b x f=>by
 subst e;obtain⟨d,c⟩:=Tg T.ny;obtain⟨g,h1⟩:=Tg T.nx;have:ys.take 1=[d]:=by
  obtain⟨h,rfl⟩:=Y4.mp c;cases ys with
  |nil=>cases h
  |cons a l=>rfl
 rw[this]at b;obtain rfl:=Y8.mp b;exact GI T.sx h1 (T.first _ _ h1 c) x (by simpa using f)
theorem Gj.startR(T:Gj O key N xs ys){x:Nat}(e:xs[xs.length - 1]?=some x):TR (Pc O key) it xs ys #[it x] (xs.length - 1) ys.length 1:=by
 have a:TR (Pc O key) it xs ys #[] xs.length ys.length 0:=⟨[],rfl,⟨?_,?_,?_⟩,Yy _,Y5 _,Y5 _⟩
 .have b:=a.fromX (c:=1) (by have:=T.nx;lia) fun i z h1 h2 d=>by
   obtain rfl:i=xs.length - 1:=by lia
   rw[e]at d;cases d;rw[Xj];exact fun u f=>T.lastY (ia:=xs.length - 1) (by lia) x (YC.mpr ⟨0,by simpa using e⟩) u f
  rw[<-BA (by have:=T.nx;lia) e]at b;simpa using b
 .simpa[Xu] using T.sx
 .simpa[Xu] using T.sy
 .simp only[Xj,List.nil_append];exact(Xd _).append (Xd _)
def OP:Array Keyed->Array Keyed->StateT SortSt Sem (Array Keyed):=sortPriv%PySem.Builtin.mergeHi
theorem n6{st:SortSt}{Q:Array Keyed->SortSt->Prop}(C:DX prog w A s κ it N (Ni O key))(hk:kindOf st=κ)(T:Gj O key N xs ys)
  (h:∀r st',Mr st st'->DT (Pc O key) it (xs++ys) r->Q r st'):wpS (model prog w) A E s (OP (xs.map it).toArray (ys.map it).toArray) Q st:=by
 unfold OP;refine Yb (Vh (XV ⟨rfl,?_⟩));have zx:(xs.map it).toArray.size=xs.length:=by simp
 have zy:(ys.map it).toArray.size=ys.length:=by simp
 have nx:=T.nx;have ny:=T.ny;obtain⟨x0,hx0⟩:=Tg (l:=xs) (i:=xs.length - 1) (by lia);have hst:=T.startR (it:=it) hx0;refine Yb (TW (TU (by rw[zx];exact hx0)) ?_);dsimp only;rw[zx,zy]
 by_cases q1:xs.length - 1=0
 .refine Mx (by simpa using q1) ?_;exact Yh (h _ _ (.rfl' _) (hst.done (.inl q1)))
 refine MA (by simpa using q1) ?_
 by_cases q2:ys.length=1
 .refine Mx (by simpa using q2) ?_;exact Yh (h _ _ (.rfl' _) (hst.first (T.firstX q2)))
 refine MA (by simpa using q2) ?_;refine Yb (UI ?_);refine Yb (Xk (YW
  (I:=fun x r st'=>Mr st st'/\∃na nb out g k,r=(none,na,nb,out,g)/\TR (Pc O key) it xs ys out na nb k/\x <=k/\1 <=na/\2 <=nb)
  (Q := fun r st' => Mr st st' /\ ∃ z u, r = (some z, u) /\ DT (Pc O key) it (xs ++ ys) z) ?_ ?_ ⟨.rfl' _, _, _, _, _, _, rfl, hst, by lia, by lia, by lia⟩) ?_)
 case _=>
  rintro x r st' - hx ⟨K, na, nb, out, g, k, rfl, M, hk', h1, h2⟩;dsimp -zeta only;refine Yb (Xk (YW
   (I:=fun x r st'=>Mr st st'/\∃na nb out ac bc j,r=(none,na,nb,out,ac,bc)/\TR (Pc O key) it xs ys out na nb j/\k+ x <=j/\1 <=na/\2 <=nb)
   (Q := fun r st' => Mr st st' /\ ((∃ z u, r = (some z, u) /\ DT (Pc O key) it (xs ++ ys) z) \/ ∃ na nb out ac bc j, r = (none, na, nb, out, ac, bc) /\ TR (Pc O key) it xs ys out na nb j /\ k + 1 <= j /\ 1 <= na /\ 2 <= nb)) ?_ ?_ ⟨K, _, _, _, _, _, _, rfl, M, by lia, h1, h2⟩) ?_)
  case _=>
   clear K M h1 h2 hk' hst;rintro x r st' - hx ⟨K,na,nb,out,ac,bc,j,rfl,M,hj,h1,h2⟩;dsimp only;have len:=M;obtain⟨-,-,-,-,DR,Dg⟩:=len;obtain⟨x,ex⟩:=Tg (l:=xs) (i:=na - 1) (by lia);obtain⟨y,f⟩:=Tg (l:=ys) (i:=nb - 1) (by lia);have lxy:=T.lo _ (Nj ex) _ (Nj f);refine Yb (TW (TU f) ?_);refine Yb (TW (TU ex) ?_);refine Yb (BM C (K.kind.trans hk) (T.by' _ (Nj f)) (T.bx _ (Nj ex)) ?_);cases q:Ni O key y x with
   |true=>
    have p:=(Pc.ask lxy).mp q;have M':=M.fromX (c:=1) (by lia) fun i z hi hi2 v=>by
     obtain rfl:i=na - 1:=by lia
     rw[ex]at v;cases v;exact Em T.sy f p
    rw[<-BA h1 ex]at M';refine Mx rfl ?_;refine Yb (TW (TU ex) ?_)
    by_cases q3:na - 1=0
    .refine Mx (by simpa using q3) ?_;exact Yh ⟨K,.inl ⟨_,_,rfl,M'.done (.inl q3)⟩⟩
    .refine MA (by simpa using q3) ?_
     split
     .exact Yh ⟨K,.inr ⟨_,_,_,_,_,_,rfl,M',by lia,by lia,h2⟩⟩
     .exact Yh ⟨K,_,_,_,_,_,_,rfl,M',by lia,by lia,h2⟩
   |false=>
    have p:=(Pc.ask' lxy).mp q;have M':=M.fromY (c:=1) (by lia) fun i z hi hi2 v=>by
     obtain rfl:i=nb - 1:=by lia
     rw[f]at v;cases v;exact Em T.sx ex p
    rw[<-BA (by lia) f]at M';refine MA Yf ?_;refine Yb (TW (TU f) ?_)
    by_cases q3:nb - 1=1
    .refine Mx (by simpa using q3) ?_;exact Yh ⟨K,.inl ⟨_,_,rfl,M'.first (T.firstX q3)⟩⟩
    .refine MA (by simpa using q3) ?_
     split
     .exact Yh ⟨K,.inr ⟨_,_,_,_,_,_,rfl,M',by lia,h1,by lia⟩⟩
     .exact Yh ⟨K,_,_,_,_,_,_,rfl,M',by lia,h1,by lia⟩
  case _=>
   rintro r st' ⟨K,na,nb,out,ac,bc,j,rfl,M,hj,h1,h2⟩;exact⟨K,.inr ⟨_,_,_,_,_,_,rfl,M,by lia,h1,h2⟩⟩
  case _=>
   clear K M h1 h2 hst;rintro r st' ⟨K,⟨z,u,rfl,F⟩|⟨na,nb,out,ac,bc,j,rfl,M,hj,h1,h2⟩⟩
   .exact Yh ⟨K,_,_,rfl,F⟩
   dsimp -zeta only;refine Yb (Vh (XV ⟨rfl, ?_⟩));refine Yb (Xk (YW
    (I:=fun x r st'=>Mr st st'/\∃na nb out g ac bc j,r=(none,na,nb,out,g,ac,bc)/\TR (Pc O key) it xs ys out na nb j/\k+ 1 <=j/\1 <=na/\2 <=nb)
    (Q := fun r st' => Mr st st' /\ ((∃ z u, r = (some z, u) /\ DT (Pc O key) it (xs ++ ys) z) \/ ∃ na nb out g ac bc j, r = (none, na, nb, out, g, ac, bc) /\ TR (Pc O key) it xs ys out na nb j /\ k + 1 <= j /\ 1 <= na /\ 2 <= nb)) ?_ ?_ ⟨K, _, _, _, _, _, _, _, rfl, M, by lia, h1, h2⟩) ?_)
   case _=>
    clear K M h1 h2 hj;rintro x r st' - hx ⟨K,na,nb,out,g,ac,bc,j,rfl,M,hj,h1,h2⟩;dsimp only;have len:=M;obtain⟨-,-,-,-,DR,Dg⟩:=len;obtain⟨y,f⟩:=Tg (l:=ys) (i:=nb - 1) (by lia);generalize g - 1=g1;apply Od (a:=g1) (b:=g);intro g';refine Yb (C5 fun st1 K1=>?_);have K2:=K.trans K1;refine Yb (TW (TU f) ?_);obtain⟨c,hc,hb,hx'⟩:=T.galR (it:=it) (Nj f) 0 na (by lia);refine Yb (EV C (K2.kind.trans hk) (T.by' _ (Nj f)) (by lia) hc hb ?_);dsimp only;have hx2:∀i x,i < na->xs[i]?=some x->(i < c->Pc O key x y)/\(c <=i->Pc O key y x):=fun i x hi e=>hx' i x hi (by rw[Xr];exact e)
    have y1:∀x,1 <=c->xs[c - 1]?=some x->Pc O key x y:=fun x h1 ex=>(hx2 (c - 1) x (by lia) ex).1 (by lia)
    clear hx' hb;obtain⟨d1,ed1⟩:∃d1,d1=na - c:=⟨_,rfl⟩;rw[<-ed1];apply Fb (o:=out) (i:=na) (fun o1 n1=>∃j1,TR (Pc O key) it xs ys o1 n1 nb j1/\(∀x,xs[n1 - 1]?=some x->Pc O key x y)/\1 <=n1/\k+ 1 <=j1)
    rotate_left
    .intro q0 J;have M1:=M.fromX (c:=na - c) (by lia) (fun i z hi hi2 v=>Em T.sy f ((hx2 i z hi2 v).2 (by lia)));rw[show na - (na - c)=c by lia]at M1
     by_cases q3:c=0
     .refine Mx (by simpa using q3) ?_;exact Yh ⟨K2,.inl ⟨_,_,rfl,M1.done (.inl q3)⟩⟩
     refine MA (by simpa using q3) ?_;exact J _ _ ⟨_,M1,fun x ex=>y1 x (by lia) ex,by lia,by lia⟩
    .intro q0;obtain rfl:c=na:=by lia
     exact⟨_,M,fun x ex=>y1 x h1 ex,h1,hj⟩
    clear hx2 y1 hc M h1 hj ed1 DR Dg;rintro o1 n1 ⟨j1,M1,y1,l1,l2⟩;have len:=M1;obtain⟨-,-,-,-,DR,Dg⟩:=len;refine Yb (TW (TU f) ?_);obtain⟨x1,ex⟩:=Tg (l:=xs) (i:=n1 - 1) (by lia);have M2:=M1.fromY (c:=1) (by lia) fun i z hi hi2 v=>by
     obtain rfl:i=nb - 1:=by lia
     rw[f]at v;cases v;exact Em T.sx ex (y1 _ ex)
    rw[<-BA (by lia) f]at M2
    by_cases q5:nb - 1=1
    .refine Mx (by simpa using q5) ?_;exact Yh ⟨K2,.inl ⟨_,_,rfl,M2.first (T.firstX q5)⟩⟩
    refine MA (by simpa using q5) ?_;refine Yb (TW (TU ex) ?_);obtain⟨o2,eo2⟩:∃o2,o2=o1.push (it y):=⟨_,rfl⟩;obtain⟨n,en2⟩:∃n,n=nb - 1:=⟨_,rfl⟩;have l3:2 <=n:=by lia
    rw[<-eo2,<-en2]at M2;rw[<-en2];obtain⟨d,hd,hb2,hy2⟩:=T.galL (it:=it) (Nj ex) 0 n (by lia);refine Yb (EV C (K2.kind.trans hk) (T.bx _ (Nj ex)) (by lia) hd hb2 ?_);dsimp only;have hy3:∀i y,i < n->ys[i]?=some y->(i < d->Pc O key y x1)/\(d <=i->Pc O key x1 y):=fun i y hi e=>hy2 i y hi (by rw[Xr];exact e)
    have x2:∀y,1 <=d->ys[d - 1]?=some y->Pc O key y x1:=fun y h1 f=>(hy3 (d - 1) y (by lia) f).1 (by lia)
    clear hy2 hb2;obtain⟨d2,ed2⟩:∃d2,d2=n - d:=⟨_,rfl⟩;rw[<-ed2,<-eo2];apply Fb (o:=o2) (i:=n) (fun o2 n=>∃j2,TR (Pc O key) it xs ys o2 n1 n j2/\(∀y,ys[n - 1]?=some y->Pc O key y x1)/\2 <=n/\k+ 1 <=j2)
    rotate_left
    .intro q6 J;have M3:=M2.fromY (c:=n - d) (by lia) (fun i z hi hi2 v=>Em T.sx ex ((hy3 i z hi2 v).2 (by lia)));rw[show n - (n - d)=d by lia]at M3
     by_cases q7:d=1
     .refine Mx (by simpa using q7) ?_;exact Yh ⟨K2,.inl ⟨_,_,rfl,M3.first (T.firstX q7)⟩⟩
     refine MA (by simpa using q7) ?_
     by_cases q8:d=0
     .refine Mx (by simpa using q8) ?_;exact Yh ⟨K2,.inl ⟨_,_,rfl,M3.done (.inr q8)⟩⟩
     refine MA (by simpa using q8) ?_;exact J _ _ ⟨_,M3,fun y f=>x2 y (by lia) f,by lia,by lia⟩
    .intro q6;obtain rfl:d=n:=by lia
     exact⟨_,M2,fun y f=>x2 y (by lia) f,l3,by lia⟩
    clear hy3 x2 hd M2 M1 ed2 q5 y1 l2 l3 Dg en2 eo2 o2 n;rintro o2 n ⟨j2,M3,x2,l3,l4⟩;refine Yb (TW (TU ex) ?_);obtain⟨y2,ey2⟩:=Tg (l:=ys) (i:=n - 1) (by obtain⟨-,-,-,-,-,E2⟩:=M3;lia);have M4:=M3.fromX (c:=1) (by lia) fun i z hi hi2 v=>by
     obtain rfl:i=n1 - 1:=by lia
     rw[ex]at v;cases v;exact Em T.sy ey2 (x2 _ ey2)
    rw[<-BA l1 ex]at M4
    by_cases q9:n1 - 1=0
    .refine Mx (by simpa using q9) ?_;exact Yh ⟨K2,.inl ⟨_,_,rfl,M4.done (.inl q9)⟩⟩
    refine MA (by simpa using q9) ?_
    split
    .exact Yh ⟨K2,.inr ⟨_,_,_,_,_,_,_,rfl,M4,by lia,by lia,l3⟩⟩
    .exact Yh ⟨K2,_,_,_,_,_,_,_,rfl,M4,by lia,by lia,l3⟩
   case _=>
    rintro r st' ⟨K,na,nb,out,g,ac,bc,j,rfl,M,hj,h1,h2⟩;exact⟨K,.inr ⟨_,_,_,_,_,_,_,rfl,M,hj,h1,h2⟩⟩
   case _=>
    rintro r st' ⟨K,⟨z,u,rfl,F⟩|⟨na,nb,out,g,ac,bc,j,rfl,M,hj,h1,h2⟩⟩
    .exact Yh ⟨K,_,_,rfl,F⟩
    dsimp -zeta only;refine Yb (C5 fun st'' K'=>?_);exact Yh ⟨K.trans K',_,_,_,_,_,rfl,M,by lia,h1,h2⟩
 case _=>
  rintro r st' ⟨K,na,nb,out,g,k,rfl,M,hk',h1,h2⟩;have:=M.len
  lia
 case _=>
  rintro r st' ⟨K,z,u,rfl,F⟩;exact Yh (h _ _ K F)
end
theorem Qm{α:Type}(b:Nat):∀ (ms:List α) (n:Nat) (v:Array α),b+ n+ ms.length <=v.size->
  (ms.zipIdx n).foldl (fun a x=>a.setIfInBounds (b+ x.2) x.1) v=(v.toList.take (b+ n)++ms++v.toList.drop (b+ n+ ms.length)).toArray
 |[],n,v,h=>by simp
 |m::ms,n,v,h=>by
  rw[List.zipIdx_cons,List.foldl_cons];have hz:b+ (n+ 1)+ ms.length <=(v.setIfInBounds (b+ n) m).size:=by simp at h ⊢;lia
  refine(Qm b ms (n+ 1) _ hz).trans ?_
  congr 1
  have c:b+ n < v.toList.length:=by simp at h ⊢;lia
  rw[Vu];have f:(v.toList.set (b+ n) m).take (b+ (n+ 1))=v.toList.take (b+ n)++[m]:=by
   rw[show b+ (n+ 1)=b+ n+ 1 by lia,List.take_set,YK c,VV _ _ (by simp;lia)];have d:b+ n - min (b+ n) v.size=0:=by simp at c;lia
   simp[d]
  have e:(v.toList.set (b+ n) m).drop (b+ (n+ 1)+ ms.length)=v.toList.drop (b+ n+ (m::ms).length):=by
   rw[List.drop_set_of_lt (by lia)];congr 1;simp;lia
  rw[f,e];simp
section
variable{prog:Wh}{w:Wl}{A:Wk}{E:We}{s:Wi}{O:KeyOrd}{key:Nat->O.α}{κ:SortKind}{it:Nat->Keyed}{N:Nat}
theorem Pj{p X q:List Nat}{i:Nat}(h:i < X.length):(((p++X++q).map it).toArray)[p.length+ i]?=((X.map it).toArray)[i]?:=by
 simp[Xy,h]
theorem SB{st:SortSt}{p X Y q:List Nat}{i pw pw':Nat}{Q:Bool->SortSt->Prop}(C:DX prog w A s κ it N (Ni O key))(S:Df κ it (p++X++Y++q) st)(T:D1 O key N X Y)
  (nx:0 < X.length) (ny:0 < Y.length) (e1:(pendingOf st)[i]?=some (p.length,X.length,pw)) (e2:(pendingOf st)[i+ 1]?=some (p.length+ X.length,Y.length,pw'))
  (h:∀Z st',Z.Perm (X++Y)->Z.Pairwise (Pc O key)->Df κ it (p++Z++q) st'->pendingOf st'=((pendingOf st).setIfInBounds i (p.length,X.length+ Y.length,pw)).eraseIdxIfInBounds (i+ 1)->Q true st'):
  wpS (model prog w) A E s (mergeAt' i) Q st:=by
 unfold mergeAt';refine Yb (UI ?_);have ar:(sortPriv%PySem.Builtin.SortState.a) st=((p++X++Y++q).map it).toArray:=S.arr;rw[e1,e2,ar];dsimp only;obtain⟨y0,g⟩:=Tg ny;obtain⟨xl,n⟩:=Tg (l:=X) (i:=X.length - 1) (by lia);refine Yb (Uv (f:=fun _=>_) ?_);have atX:∀i,i < X.length->(((p++X++Y++q).map it).toArray)[p.length+ i]?=((X.map it).toArray)[i]?:=fun i hi=>by rw[List.append_assoc];exact Pj hi
 have atY:∀i,i < Y.length->(((p++X++Y++q).map it).toArray)[p.length+ X.length+ i]?=((Y.map it).toArray)[i]?:=fun i hi=>by
  have:=Pj (it:=it) (p:=p++X) (X:=Y) (q:=q) hi;rwa [List.length_append]at this
 refine Yb (TW (x:=it y0) (by have:=atY 0 ny;rw[Up]at this;rw[this];exact TU g) ?_);obtain⟨c,hc,hb,hx'⟩:=T.galR (it:=it) (Nj g) 0 X.length (by lia);have hx:∀i x,X[i]?=some x->(i < c->Pc O key x y0)/\(c <=i->Pc O key y0 x):=fun i x e=>hx' i x (Y4.mp e).1 (by rw[Xr];exact e)
 refine Yb (EV C S.kind (T.by' _ (Nj g)) nx hc (fun i hi => by
  obtain ⟨x, h1, h2, h3⟩ := hb i hi;exact ⟨x, h1, by rw [atX i hi]; rwa [Xr] at h2, h3⟩) ?_)
 dsimp only
 by_cases q1:X.length - c=0
 .rw[Y3 (by simpa using q1)];obtain rfl:c=X.length:=by lia
  refine Yh (h (X++Y) _ (.refl _) (Yo.mpr ⟨T.sx,T.sy,fun x h1 y h2=>?_⟩) ⟨S.kind,S.ok,by rw[<-List.append_assoc p X Y]⟩ rfl);obtain⟨i,e⟩:=YC.mp h1;exact GI T.sy g ((hx i x e).1 (Y4.mp e).1) y h2
 rw[Y2 (by simpa using q1)];refine Yb (TW (x:=it xl) (by rw[show p.length+ c+ (X.length - c) - 1=p.length+ (X.length - 1) by lia,atX _ (by lia)];exact TU n) ?_);obtain⟨d,hd,hb2,v⟩:=T.galL (it:=it) (Nj n) 0 Y.length (by lia);have hy:∀i y,Y[i]?=some y->(i < d->Pc O key y xl)/\(d <=i->Pc O key xl y):=fun i y e=>v i y (Y4.mp e).1 (by rw[Xr];exact e)
 refine Yb (EV C S.kind (T.bx _ (Nj n)) (by lia) hd (fun i hi => by
  obtain ⟨x, h1, h2, h3⟩ := hb2 i hi;exact ⟨x, h1, by rw [atY i hi]; rwa [Xr] at h2, h3⟩) ?_)
 dsimp only
 by_cases q2:d=0
 .exfalso
  subst q2;exact((hy 0 y0 g).2 (Y5 _)).no ((hx _ _ n).2 (by lia))
 rw[Y2 (by simpa using q2)];have ex:(((p++X++Y++q).map it).toArray).extract (p.length+ c) (p.length+ X.length)=((X.drop c).map it).toArray:=by
  rw[D7]
  congr 2
  rw[List.append_assoc,List.append_assoc,<-List.drop_drop,List.drop_left,Va hc,Ud (by rw[YQ];lia),YD (by rw[YQ];lia)]
 have ey:(((p++X++Y++q).map it).toArray).extract (p.length+ X.length) (p.length+ X.length+ d)=((Y.take d).map it).toArray:=by
  rw[D7]
  congr 2
  rw[List.append_assoc (p++X),<-List.length_append,List.drop_left,Ud (by lia),VL]
 rw[ex,ey];have T':Gj O key N (X.drop c) (Y.take d):=
  ⟨⟨T.sx.sublist (Ug _ _), T.sy.sublist (Ue _ _), fun x h1 y h2 => T.lo x (Xm h1) y (YX h2), fun x h1 => T.bx x (Xm h1), fun y h2 => T.by' y (YX h2)⟩,
   (fun x y a1 o => by
    rw [YN] at a1;rw [YE, Y3 (by lia), g] at o;cases o;exact (hx _ x a1).2 (by lia)),
   (fun x y a1 o => by
    rw[YQ,YN,show c+ (X.length - c - 1)=X.length - 1 by lia,n]at a1;cases a1;rw[YE]at o
    split at o
    .rename_i hlt
     exact(hy _ y o).1 hlt
    .cases o),
   by rw [YQ]; lia, by rw [Yu]; lia⟩
 have fin:∀ (r:Array Keyed) (b:SortSt),DT (Pc O key) it (X.drop c++Y.take d) r->kindOf b=κ->failedOf b=none->arrOf b=((p++X++Y++q).map it).toArray->
   ∃Z,Z.Perm (X++Y)/\Z.Pairwise (Pc O key)/\r.toList.zipIdx.foldl (fun a x=>match x with|(p',j)=>a.setIfInBounds (p.length+ c+ j) p') (arrOf b)=((p++Z++q).map it).toArray:=fun r b F h1 h2 h3=>by
  obtain⟨zs,rfl,pm,srt⟩:=F;refine⟨X.take c++zs++Y.drop d,?_,?_,?_⟩
  .have e:X++Y=X.take c++(X.drop c++Y.take d)++Y.drop d:=by rw[<-List.append_assoc (X.take c),List.take_append_drop,List.append_assoc,List.take_append_drop]
   rw[e];exact(pm.append_left _).append_right _
  .have mz:∀z∈zs,z∈X.drop c\/z∈Y.take d:=fun z hz=>Yj.mp (pm.mem_iff.mp hz)
   have sX:=Yo.mp (by rw[List.take_append_drop];exact T.sx:(X.take c++X.drop c).Pairwise (Pc O key));have sY:=Yo.mp (by rw[List.take_append_drop];exact T.sy:(Y.take d++Y.drop d).Pairwise (Pc O key));have xy:∀x∈X.take c,∀y∈Y,Pc O key x y:=fun x h1 y h2=>by
    obtain⟨i,e⟩:=YC.mp h1;rw[YE]at e
    split at e
    .rename_i hic
     exact GI T.sy g ((hx i x e).1 hic) y h2
    .cases e
   have yx:∀y∈Y.drop d,∀x∈X,Pc O key x y:=fun y h1=>by
    obtain⟨i,e⟩:=YC.mp h1;rw[YN]at e;exact Fa T.sx n ((hy _ y e).2 (by lia))
   rw[List.append_assoc,Yo,Yo];refine⟨sX.1,⟨srt,sY.2.1,fun z hz y v=>?_⟩,fun x h1 z hz=>?_⟩
   .rcases mz z hz with q|q
    .exact yx y v z (Xm q)
    .exact sY.2.2 z q y v
   .rcases Yj.mp hz with q|q
    .rcases mz z q with q|q
     .exact sX.2.2 x h1 z q
     .exact xy x h1 z (YX q)
    .exact xy x h1 z (Xm q)
  .have hl:=pm.length_eq;rw[List.length_append,YQ,Yu,U8 hd]at hl;have:=Qm (p.length+ c) (zs.map it) 0 (arrOf b) (by rw[h3];simp;lia);refine Eq.trans this ?_;rw[h3]
   congr 1
   rw[W6,<-List.map_take,<-List.map_drop,<-Yn,<-Yn,Y0]
   congr 1
   rw[Up,hl,show p.length+ c+ (X.length - c+ d)=p.length+ (X.length+ d) by lia,List.append_assoc p X,List.append_assoc p (X++Y),List.append_assoc X,List.take_length_add_append,Vl,Vl,Ud hc,Va hd];simp[List.append_assoc]
 by_cases q3:X.length - c <=d
 case' pos=>
  rw[Y3 q3];refine Yb (j3 C S.kind T' fun r b K F=>?_)
 case' neg=>
  rw[Y2 q3];refine Yb (n6 C S.kind T' fun r b K F=>?_)
 all_goals
  obtain⟨Z,z1,z2,z3⟩:=fin r b F (K.kind.trans S.kind) (K.fail.trans S.ok) K.arr;refine Yb (Uv ?_);refine Yb (UI ?_);have ok:((sortPriv%PySem.Builtin.SortState.failed) b)=none:=K.fail.trans S.ok;refine Yh ?_;dsimp only;rw[ok];exact h Z _ z1 z2 ⟨K.kind.trans S.kind,rfl,z3⟩ K.pend
end
section
variable{it:Nat->Keyed}
theorem DO{α:Type}{a M c:List α}{k:Nat}:(a++M++c)[k]?=if k < a.length then a[k]? else if k < a.length+ M.length then M[k - a.length]? else c[k - a.length - M.length]?:=by
 rw[List.append_assoc,Xy]
 split
 .rfl
 .rw[Xy]
  by_cases h:k - a.length < M.length
  .rw[Y3 h,Y3 (by lia)]
  .rw[Y2 h,Y2 (by lia)]
theorem uE{a M c:List Nat}{i j:Nat}(hi:i=a.length)(hj:j=a.length+ M.length):mirror (((a++M++c).map it).toArray) i j ((j - i) / 2)=((a++M.reverse++c).map it).toArray:=by
 subst hi;subst hj;apply Array.ext_getElem?;intro k;rw[getElem?_mirror_all (by simp)];simp only[VW,Yc];rw[DO,DO,DO,W7]
 by_cases h1:k < a.length
 .rw[Y2 (by lia),Y3 h1,Y3 h1]
 .by_cases h2:k < a.length+ M.length
  .rw[Y3 (by lia),Y2 (by lia),Y3 (by lia),Y2 h1,Y3 h2,List.getElem?_reverse (by lia)]
   congr 2;lia
  .rw[Y2 (by lia),Y2 h1,Y2 h2,Y2 h1,Y2 h2]
theorem uV{a B c:List Nat}{e k d:Nat}(hk:k=a.length+ B.length)(hd:d=B.length):bubble (((a++(B++[e])++c).map it).toArray) k d=((a++([e]++B)++c).map it).toArray:=by
 subst hk;subst hd;apply Array.ext_getElem?;intro k;rw[getElem?_bubble (by simp) _ (by lia)];simp only[VW,Yc];rw[DO,DO,DO,DO];simp only[List.length_append,UW]
 by_cases h1:k < a.length
 .rw[Y2 (by lia),Y2 (by lia),Y3 h1,Y3 h1]
 .by_cases h2:k=a.length
  .subst h2;rw[Y3 (by lia),Y2 (by lia),Y3 (by lia),Y2 (by lia),Y3 (by lia)];simp
  .by_cases h3:k < a.length+ (B.length+ 1)
   .rw[Y2 (by lia),Y3 (by lia),Y2 (by lia),Y3 (by lia),Y2 (by lia),Y3 (by lia)];rw[Vx (by lia),Xb (by simp;lia)]
    congr 2;simp;lia
   .rw[Y2 (by lia),Y2 (by lia),Y2 (by lia),Y2 (by lia),Y2 (by lia),Y2 (by lia)]
    congr 2;lia
end
section
variable{prog:Wh}{w:Wl}{A:Wk}{E:We}{s:Wi}{O:KeyOrd}{key:Nat->O.α}{κ:SortKind}{it:Nat->Keyed}{N:Nat}
structure Tj(κ:SortKind)(it:Nat->Keyed)(pd:Array (Nat×Nat×Nat))(l:List Nat)(st:SortSt):Prop extends Df κ it l st where
 pend:pendingOf st=pd
variable{pd:Array (Nat×Nat×Nat)}
theorem EO{st:SortSt}{l:List Nat}{i j x y:Nat}{Q:Option Bool->SortSt->Prop}(C:DX prog w A s κ it N (Ni O key))(S:Tj κ it pd l st)(hi:l[i]?=some x)(hj:l[j]?=some y)(hx:x < N)(hy:y < N)(h:Q (some (Ni O key x y)) st):
  wpS (model prog w) A E s (ltAt' i j) Q st:=by
 rw[ltAt'_eq];refine Yb (UI ?_);have b:(sortPriv%PySem.Builtin.SortState.a) st=(l.map it).toArray:=S.arr;dsimp only;rw[show arrOf st=(l.map it).toArray from S.arr];refine Yb (TW (TU hi) ?_);refine Yb (TW (TU hj) ?_);exact BM C S.kind hx hy h
theorem CV{st:SortSt}{a M c:List Nat}{i j:Nat}{Q:Unit->SortSt->Prop}(S:Tj κ it pd (a++M++c) st)(hi:i=a.length)(hj:j=a.length+ M.length)(h:∀st',Tj κ it pd (a++M.reverse++c) st'->Q () st'):
  wpS (model prog w) A E s (reverseSlice' i j) Q st:=by
 rw[reverseSlice'_eq];refine Uv (h _ ⟨⟨S.kind,S.ok,?_⟩,S.pend⟩);show mirror (arrOf st) i j ((j - i) / 2)=_;rw[show arrOf st=_ from S.arr];exact uE hi hj
theorem Z2{st:SortSt}{a B c:List Nat}{e k d:Nat}{Q:Unit->SortSt->Prop}(S:Tj κ it pd (a++(B++[e])++c) st)(hk:k=a.length+ B.length)(hd:d=a.length)(h:∀st',Tj κ it pd (a++([e]++B)++c) st'->Q () st'):
  wpS (model prog w) A E s (moveDown' k d) Q st:=by
 rw[moveDown'_eq];refine Uv (h _ ⟨⟨S.kind,S.ok,?_⟩,S.pend⟩);show bubble (arrOf st) k (k - d)=_;rw[show arrOf st=_ from S.arr];exact uV hk (by lia)
def E7(R:List Nat):Prop:=R.Pairwise (· < ·)
theorem Sb{st:SortSt}{p U R:List Nat}{lo n ok:Nat}{Q:Bool->SortSt->Prop}(C:DX prog w A s κ it N (Ni O key))(S:Tj κ it pd (p++U++R) st)(hp:lo=p.length)(hU:ok=U.length)(h1:1 <=ok)(hn:ok <=n)(hR:n <=U.length+ R.length)
  (sU:U.Pairwise (Pc O key)) (rR:E7 R) (uR:∀u∈U,∀r∈R,u < r) (bU:∀u∈U,u < N) (bR:∀r∈R,r < N)
  (h:∀V st',Tj κ it pd (p++V++R.drop (n - ok)) st'->V.Pairwise (Pc O key)->V.Perm (U++R.take (n - ok))->Q true st'):wpS (model prog w) A E s (binarySort' lo n ok) Q st:=by
 rw [binarySort'_eq, show max ok 1 = ok by lia];refine Yb (Xk (YW (I := fun k c st' => c = (none, ()) /\ ∃ V, Tj κ it pd (p ++ V ++ R.drop (k - ok)) st' /\ V.Pairwise (Pc O key) /\ V.Perm (U ++ R.take (k - ok)))
  (Q := fun c st' => c = (none, ()) /\ ∃ V, Tj κ it pd (p ++ V ++ R.drop (n - ok)) st' /\ V.Pairwise (Pc O key) /\ V.Perm (U ++ R.take (n - ok))) ?step ?fin ⟨rfl, U, by simpa using S, sU, by simp⟩) ?post)
 case post=>
  rintro c st' ⟨rfl,V,j,o,g⟩;exact Yh (h V st' j o g)
 case fin=>
  rintro c st' ⟨hc,V,j,o,g⟩;rw[show max ok n=n by lia]at j g;exact⟨hc,V,j,o,g⟩
 case step=>
  rintro k c st' hak hkn ⟨rfl,V,j,o,g⟩;dsimp only;have lV:V.length=k:=by have:=g.length_eq;simp at this;lia
  obtain⟨e,ee⟩:=Tg (l:=R) (i:=k - ok) (by lia);have eN:e < N:=bR e (Nj ee);have dr:R.drop (k - ok)=e::R.drop (k+ 1 - ok):=by
   obtain⟨hh,rfl⟩:=Y4.mp ee;rw[YO hh];congr 2;lia
  have mV:∀v∈V,v < e/\v < N:=fun v hv=>by
   rcases Yj.mp (g.mem_iff.mp hv) with q|q
   .exact⟨uR v q e (Nj ee),bU v q⟩
   .obtain⟨i,hi⟩:=YC.mp q;rw[YE]at hi
    split at hi
    .rename_i hik
     obtain⟨b1,rfl⟩:=Y4.mp hi;obtain⟨b2,rfl⟩:=Y4.mp ee;exact⟨Xg.mp rR _ _ b1 b2 hik,bR _ (US _)⟩
    .cases hi
  obtain ⟨c0, hc0, f⟩ := Ci (P := Pc O key) (fun a b => a.trans b) e o;rw [dr] at j;refine Yb (Xk (YW (I := fun x c d => d = st' /\ ∃ l r, c = (none, l, r) /\ l <= c0 /\ c0 <= r /\ r <= k /\ r - l <= k - x)
   (Q := fun c d => d = st' /\ c = (none, c0, c0)) ?istep ?ifin ⟨rfl, 0, k, rfl, by lia, by lia, by lia, by lia⟩) ?ipost)
  case ifin=>
   rintro c d ⟨rfl,l,r,rfl,a1,a2,a3,a4⟩;obtain rfl:l=c0:=by lia
   obtain rfl:r=l:=by lia
   exact⟨rfl,rfl⟩
  case istep=>
   rintro x c d _ hxk ⟨rfl,l,r,rfl,a1,a2,a3,a4⟩;dsimp only
   by_cases hge:l≥r
   .rw[Y3 hge];obtain rfl:l=c0:=by lia
    obtain rfl:r=l:=by lia
    exact Yh ⟨rfl,rfl⟩
   .rw[Y2 hge];obtain⟨v,ev⟩:=Tg (l:=V) (i:=(l+ r) / 2) (by lia);refine Yb (EO (x:=e) (y:=v) C j (by rw[DO,Y2 (by lia),Y2 (by lia),show lo+ k - p.length - V.length=0 by lia];rfl) (by rw[DO,Y2 (by lia),Y3 (by lia),show lo+ (l+ r) / 2 - p.length=(l+ r) / 2 by lia];exact ev) eN (mV v (Nj ev)).2 ?_);cases q:Ni O key e v with
    |true=>
     have:=(f _ v ev);have p1:=(Pc.ask (mV v (Nj ev)).1).mp q;have:¬(l+ r) / 2 < c0:=fun z=>(this.mpr z).no p1
     simp only[if_true];exact Yh ⟨rfl,l,(l+ r) / 2,rfl,by lia,by lia,by lia,by lia⟩
    |false=>
     have:=(f _ v ev).mp ((Pc.ask' (mV v (Nj ev)).1).mp q);simp only[Bool.false_eq_true,if_false];exact Yh ⟨rfl,(l+ r) / 2+ 1,r,rfl,by lia,by lia,by lia,by lia⟩
  case ipost=>
   rintro c d ⟨rfl,rfl⟩;dsimp only;have S2:Tj κ it pd ((p++V.take c0)++(V.drop c0++[e])++R.drop (k+ 1 - ok)) d:=by
    have e:p++V++e::R.drop (k+ 1 - ok)=(p++V.take c0)++(V.drop c0++[e])++R.drop (k+ 1 - ok):=by
     rw[List.append_assoc p (V.take c0),<-List.append_assoc (V.take c0),List.take_append_drop];simp
    rwa [e]at j
   refine Yb (Z2 S2 (by simp;lia) (by simp;lia) fun st3 S3=>Yh ⟨rfl,V.take c0++([e]++V.drop c0),?_,?_,?_⟩)
   .simpa[List.append_assoc] using S3
   .have sV':=Yo.mp (by rw[List.take_append_drop];exact o:(V.take c0++V.drop c0).Pairwise (Pc O key));have hlo:∀v∈V.take c0,Pc O key v e:=fun v hv=>by
     obtain⟨i,hi⟩:=YC.mp hv;rw[YE]at hi
     split at hi
     .rename_i hik;exact(f i v hi).mpr hik
     .cases hi
    have hhi:∀v∈V.drop c0,Pc O key e v:=fun v hv=>by
     obtain⟨i,hi⟩:=YC.mp hv;rw[YN]at hi;exact Pc.tot (by have:=(mV v (Nj hi)).1;lia) fun z=>by have:=(f _ v hi).mp z;lia
    refine Yo.mpr ⟨sV'.1,Xl.mpr ⟨hhi,sV'.2.1⟩,fun a ha b hb=>?_⟩;rcases Yp.mp hb with rfl|hb
    .exact hlo a ha
    .exact sV'.2.2 a ha b hb
   .have et:R.take (k+ 1 - ok)=R.take (k - ok)++[e]:=by
     obtain⟨hh,rfl⟩:=Y4.mp ee;rw[show k+ 1 - ok=k - ok+ 1 by lia,YK hh]
    refine List.Perm.trans (l₂:=V++[e]) ?_ (by rw[et,<-List.append_assoc];exact g.append_right [e]);refine List.Perm.trans (XN _ Uo) ?_;rw[<-List.append_assoc,List.take_append_drop]
end
section
variable{O:KeyOrd}{key:Nat->O.α}
structure GB(O:KeyOrd)(key:Nat->O.α)(R:List Nat)(n neq:Nat)(W G:List Nat):Prop where
 srt:(W++G.reverse).Pairwise (fun a b=>Pc O key b a)
 pm:(W++G).Perm (R.take n)
 len:G.length=neq+ 1
 eqv:∀a∈G,∀b∈G,O.blt (key a) (key b)=false
 low:∀a∈W,∀b∈G,a < b
theorem Hk{R:List Nat}(r:E7 R){i j x y:Nat}(hi:R[i]?=some x)(hj:R[j]?=some y)(h:i < j):x < y:=by
 obtain⟨a,rfl⟩:=Y4.mp hi;obtain⟨b,rfl⟩:=Y4.mp hj;exact Xg.mp r i j a b h
theorem BC{R:List Nat}(r:E7 R){n x y:Nat}(hy:R[n]?=some y)(hx:x∈R.take n):x < y:=by
 obtain⟨i,hi⟩:=YC.mp hx;rw[YE]at hi
 split at hi
 .rename_i h;exact Hk r hi hy h
 .cases hi
theorem Bp{R:List Nat}{n e:Nat}(h:R[n]?=some e):R.take (n+ 1)=R.take n++[e]:=by
 obtain⟨a,rfl⟩:=Y4.mp h;rw[YK a]
theorem AV{R:List Nat}{n e:Nat}(h:R[n]?=some e):R.drop n=[e]++R.drop (n+ 1):=by
 obtain⟨a,rfl⟩:=Y4.mp h;rw[YO a];rfl
theorem Hs{a b c:O.α}(h:O.blt a b=true)(h2:O.blt c b=false):O.blt a c=true:=by
 rcases O.negTrans _ c _ h with q|q
 .exact q
 .rw[h2]at q;cases q
theorem LX{i j:Nat}(h:Pc O key i j)(hij:j < i):O.blt (key i) (key j)=true:=by
 unfold Pc at h;rwa [Y2 (by lia)]at h
theorem HM{i j:Nat}(h:O.blt (key i) (key j)=true)(hij:j < i):Pc O key i j:=by
 unfold Pc;rwa [Y2 (by lia)]
variable{R W G:List Nat}{n neq e:Nat}
theorem GB.less(F:GB O key R n neq W G)(r:E7 R)(he:R[n]?=some e){g:Nat}(hg:G[G.length - 1]?=some g)(h:O.blt (key e) (key g)=true):GB O key R (n+ 1) 0 (W++G.reverse) [e]:=by
 have mem:∀x∈W++G.reverse,x < e:=fun x f=>BC r he (F.pm.mem_iff.mp (by simpa using f))
 have i:g∈G:=Yw hg;have lt:∀x∈W++G.reverse,O.blt (key e) (key x)=true:=fun x f=>by
  rcases Yj.mp f with q|q
  .have p:=(Yo.mp F.srt).2.2 x q g (by simpa using i);exact Hs h p.le
  .exact Hs h (F.eqv x (by simpa using q) g i)
 refine⟨?_,?_,rfl,fun a c b d=>?_,fun a c b d=>by obtain rfl:=Y8.mp d;exact mem a c⟩
 .rw[Ua];refine Yo.mpr ⟨F.srt,Xa _ _,fun a c b d=>?_⟩;obtain rfl:=Y8.mp d;exact HM (lt a c) (mem a c)
 .rw[Bp he];exact((XN _ (Xd _)).trans F.pm).append_right _
 .obtain rfl:=Y8.mp c;obtain rfl:=Y8.mp d;exact O.irrefl _
theorem GB.same(F:GB O key R n neq W G)(r:E7 R)(he:R[n]?=some e){g:Nat}(hg:G[G.length - 1]?=some g)(h1:O.blt (key e) (key g)=false)(h2:O.blt (key g) (key e)=false):GB O key R (n+ 1) (neq+ 1) W (G++[e]):=by
 have h:g∈G:=Yw hg;have j:key e=key g:=O.total _ _ h1 h2;have mem:∀x∈W++G,x < e:=fun x i=>BC r he (F.pm.mem_iff.mp i)
 have s:=Yo.mp F.srt;refine⟨?_,?_,by simp[F.len],fun a d b c=>?_,fun a d b c=>?_⟩
 .rw[List.reverse_append,Ua];refine Yo.mpr ⟨s.1,Xl.mpr ⟨fun b c=>?_,s.2.1⟩,fun a d b c=>?_⟩
  .have f:b∈G:=by simpa using c
   unfold Pc;rw[Y3 (mem b (Yv _ f)),j];exact F.eqv g h b f
  .rcases Yp.mp c with rfl|c
   .have p:=s.2.2 a d g (by simpa using h);refine HM ?_ (mem a (YG _ d));rw[j];exact LX p (F.low a d g h)
   .exact s.2.2 a d b c
 .rw[Bp he,<-List.append_assoc];exact F.pm.append_right _
 .have l:∀x∈G++[e],∃y∈G,key x=key y:=fun x i=>by
   rcases Yj.mp i with q|q
   .exact⟨x,q,rfl⟩
   .obtain rfl:=Y8.mp q;exact⟨g,h,j⟩
  obtain⟨a',o,w⟩:=l a d;obtain⟨z,f,v⟩:=l b c;rw[w,v];exact F.eqv a' o z f
 .rcases Yj.mp c with q|q
  .exact F.low a d b q
  .obtain rfl:=Y8.mp q;exact mem a (YG _ d)
end
section
variable{prog:Wh}{w:Wl}{A:Wk}{E:We}{s:Wi}{O:KeyOrd}{key:Nat->O.α}{κ:SortKind}{it:Nat->Keyed}{N:Nat}{pd:Array (Nat×Nat×Nat)}
theorem wH{τ β:Type}{M:Model}{X B:StateT τ Sem β}{Q:β->τ->Prop}{st:τ}{c:Prop}{dc:Decidable c}(P:τ->Prop)(hX:∀st',P st'->wpS M A E s X Q st')
  (h1:c->(∀st',P st'->wpS M A E s X Q st')->wpS M A E s B Q st) (h0:¬c->P st):wpS M A E s (if c then B else X) Q st:=by
 split
 .exact h1 ‹_› hX
 .exact hX _ (h0 ‹_›)
theorem xM{st:SortSt}{p R:List Nat}{lo nrem:Nat}{Q:Option Nat->SortSt->Prop}(C:DX prog w A s κ it N (Ni O key))(S:Tj κ it pd (p++R) st)(hp:lo=p.length)(hn:nrem=R.length)(h1:1 <=nrem)(rR:E7 R)(bR:∀r∈R,r < N)
  (h:∀m U st',1 <=m->m <=nrem->Tj κ it pd (p++U++R.drop m) st'->U.Pairwise (Pc O key)->U.Perm (R.take m)->Q (some m) st'):wpS (model prog w) A E s (countRun' lo nrem) Q st:=by
 rw[countRun'_eq];have at':∀{i x},R[i]?=some x->(p++R)[lo+ i]?=some x:=fun {i x} e=>by rw[Xb (by lia),show lo+ i - p.length=i by lia];exact e
 refine Yb (Xk (YW (I := fun x c st' => st' = st /\ c = (none, x) /\ (R.take x).Pairwise (Pc O key))
  (Q := fun c st' => st' = st /\ ∃ n, c = (none, n) /\ 1 <= n /\ n <= nrem /\ (R.take n).Pairwise (Pc O key) /\ (n < nrem -> ∀ x y, R[n]? = some x -> R[n - 1]? = some y -> Pc O key x y)) ?_ ?_ ⟨rfl, rfl, ?_⟩) ?_)
 .rintro x c st' hx1 hx2 ⟨rfl,rfl,v⟩;dsimp only;obtain⟨e,d⟩:=Tg (l:=R) (i:=x) (by lia);obtain⟨g,j⟩:=Tg (l:=R) (i:=x - 1) (by lia);have lg:=Hk rR j d (by lia);refine Yb (EO (x:=e) (y:=g) C S (at' d) (by rw[show lo+ x - 1=lo+ (x - 1) by lia];exact at' j) (bR e (Nj d)) (bR g (Nj j)) ?_);cases q:Ni O key e g with
  |true=>
   simp only[if_true];exact Yh ⟨rfl,x,rfl,hx1,by lia,v,fun _ a b ea eb=>by rw[d]at ea;rw[j]at eb;cases ea;cases eb;exact(Pc.ask lg).mp q⟩
  |false=>
   simp only[Bool.false_eq_true,if_false];refine Yh ⟨rfl,rfl,?_⟩;rw[Bp d];refine Yo.mpr ⟨v,Xa _ _,fun a ha b hb=>?_⟩;obtain rfl:=Y8.mp hb;exact Fa v (by rw[Yu,U8 (by lia),YE,Y3 (by lia)];exact j) ((Pc.ask' lg).mp q) a ha
 .rintro c st' ⟨rfl,rfl,v⟩;rw[show max 1 nrem=nrem by lia]at v ⊢;exact⟨rfl,nrem,rfl,h1,Y5 _,v,fun z=>by lia⟩
 .have:(R.take 1).length <=1:=by simp;lia
  rcases hh:R.take 1 with _|⟨a,_|⟨b,l⟩⟩
  .exact .nil
  .exact Xa _ _
  .rw[hh]at this;simp at this
 rintro c st' ⟨rfl,n,rfl,n1,n2,v,nx⟩;dsimp only
 by_cases q1:n=nrem
 .rw[Y3 (by simpa using q1)];exact Yh (h n (R.take n) _ n1 n2 (by rw[List.append_assoc,List.take_append_drop];exact S) v (.refl _))
 rw[Y2 (by simpa using q1)];obtain⟨e,d⟩:=Tg (l:=R) (i:=n) (by lia);obtain⟨g,j⟩:=Tg (l:=R) (i:=n - 1) (by lia);have eg:=LX (nx (by lia) e g d j) (Hk rR j d (by lia));have base:∀{st'},Tj κ it pd (p++(R.take n).reverse++R.drop n) st'->(∀x∈R.take n,O.blt (key x) (key g)=false)->GB O key R (n+ 1) 0 (R.take n).reverse [e]/\Tj κ it pd (p++((R.take n).reverse++[e])++R.drop (n+ 1)) st':=fun {st'} S' al=>by
  refine⟨⟨?_,?_,rfl,fun a ha b hb=>?_,fun a ha b hb=>?_⟩,?_⟩
  .rw[Ua];refine Yo.mpr ⟨Xu.mpr v,Xa _ _,fun a ha b hb=>?_⟩;obtain rfl:=Y8.mp hb;rw[VG]at ha;exact HM (Hs eg (al a ha)) (BC rR d ha)
  .rw[Bp d];exact(Xd _).append_right _
  .obtain rfl:=Y8.mp ha;obtain rfl:=Y8.mp hb;exact O.irrefl _
  .obtain rfl:=Y8.mp hb;exact BC rR d (by simpa using ha)
  .rw[AV d]at S';simpa[List.append_assoc] using S'
 apply wH (fun st1=>GB O key R (n+ 1) 0 (R.take n).reverse [e]/\Tj κ it pd (p++((R.take n).reverse++[e])++R.drop (n+ 1)) st1)
 rotate_left
 .intro q2 J;obtain⟨f,hf⟩:=Tg (l:=R) (i:=0) (by lia);refine Yb (EO (x:=f) (y:=g) C S (by have:=at' hf;rwa [Up]at this) (by rw[show lo+ n - 1=lo+ (n - 1) by lia];exact at' j) (bR f (Nj hf)) (bR g (Nj j)) ?_);cases q3:Ni O key f g with
  |true=>
   simp only[if_true];exact Yh (h n (R.take n) _ n1 n2 (by rw[List.append_assoc,List.take_append_drop];exact S) v (.refl _))
  |false=>?_
  simp only[Bool.false_eq_true,if_false];have S0:Tj κ it pd (p++R.take n++R.drop n) st':=by rw[List.append_assoc,List.take_append_drop];exact S
  refine Yb (CV S0 hp (by rw[Yu,U8 (by lia)];lia) fun st1 S1=>?_);exact J _ <|base S1 fun x hx=>by
   cases q4:O.blt (key x) (key g) with
   |false=>rfl
   |true=>
    exfalso
    rcases O.negTrans _ (key f) _ q4 with q|q
    .obtain⟨i,hi⟩:=YC.mp hx
     by_cases i0:i=0
     .subst i0;rw[YE,Y3 (by lia),hf]at hi;cases hi;rw[O.irrefl]at q;cases q
     .obtain⟨hi',rfl⟩:=Y4.mp hi;have hf':(R.take n)[0]?=some f:=by rw[YE,Y3 (by lia)];exact hf
      obtain⟨h0,rfl⟩:=Y4.mp hf';have:=(Xg.mp v 0 i h0 hi' (by lia)).le;unfold KeyOrd.kle at this;rw[this]at q;cases q
    .unfold Ni at q3;rw[q3]at q;cases q
 .intro q2;have t1:R.take n=[g]:=by
   obtain rfl:n=1:=by lia
   obtain⟨hh,rfl⟩:=Y4.mp j;cases R with
   |nil=>simp at hh
   |cons a l=>rfl
  exact base (st':=st') (by rw[t1,Ua,<-t1,List.append_assoc,List.take_append_drop];exact S) fun x hx=>by
   rw[t1]at hx;obtain rfl:=Y8.mp hx;exact O.irrefl _
 clear S;rintro st1 ⟨F, o⟩;refine Yb (Vh (XV ⟨rfl, ?_⟩));refine Yb (Xk (YW (I := fun x c st' => ∃ neq W G, c = (none, x, neq) /\ Tj κ it pd (p ++ (W ++ G) ++ R.drop x) st' /\ GB O key R x neq W G)
  (Q := fun c st' => ∃ x neq W G, c = (none, x, neq) /\ n <= x /\ x <= nrem /\ Tj κ it pd (p ++ (W ++ G) ++ R.drop x) st' /\ GB O key R x neq W G) ?_ ?_ ⟨0, _, _, rfl, o, F⟩) ?_)
 .clear o F;rintro x c st2 hx1 hx2 ⟨neq,W,G,rfl,o,F⟩;dsimp only;have lW:(W++G).length=x:=by rw[F.pm.length_eq,Yu];lia
  rw[List.length_append]at lW;have lG:=F.len;obtain⟨e,d⟩:=Tg (l:=R) (i:=x) (by lia);obtain⟨g,j⟩:=Tg (l:=G) (i:=G.length - 1) (by lia);have gR:g∈R:=YX (F.pm.mem_iff.mp (Yv _ (Nj j)));have ae:(p++(W++G)++R.drop x)[lo+ x]?=some e:=by
   rw[DO,Y2 (by lia),Y2 (by rw[List.length_append];lia),List.length_append,show lo+ x - p.length - (W.length+ G.length)=0 by lia,YN];exact d
  have ag:(p++(W++G)++R.drop x)[lo+ x - 1]?=some g:=by
   rw[DO,Y2 (by lia),Y3 (by rw[List.length_append];lia),Xb (by lia),show lo+ x - 1 - p.length - W.length=G.length - 1 by lia];exact j
  refine Yb (EO (x:=e) (y:=g) C o ae ag (bR e (Nj d)) (bR g gR) ?_);cases q3:Ni O key e g with
  |true=>
   have F':=F.less rR d j q3;simp only[if_true];have fin:∀{st3},Tj κ it pd (p++W++G.reverse++R.drop x) st3->Tj κ it pd (p++(W++G.reverse++[e])++R.drop (x+ 1)) st3:=fun {st3} S3=>by rw[AV d]at S3;simpa[List.append_assoc] using S3
   by_cases q4:neq > 0
   .rw[Y3 q4];have S3:Tj κ it pd ((p++W)++G++R.drop x) st2:=by simpa[List.append_assoc] using o
    refine Yb (CV S3 (by rw[List.length_append];lia) (by rw[List.length_append];lia) fun st3 S4=>?_);exact Yh ⟨0,_,_,rfl,fin S4,F'⟩
   .rw[Y2 q4];refine Yh ⟨0,_,_,rfl,fin ?_,F'⟩;have:G.reverse=G:=by
     match G,F.len with
     |[a],_=>rfl
     |[],h=>simp at h
     |a::b::l,h=>simp at h;lia
    rw[this];simpa[List.append_assoc] using o
  |false=>
   simp only[Bool.false_eq_true,if_false];refine Yb (EO (x:=g) (y:=e) C o ag ae (bR g gR) (bR e (Nj d)) ?_);cases q4:Ni O key g e with
   |true=>
    simp only[if_true];exact Yh ⟨x,neq,W,G,rfl,by lia,by lia,o,F⟩
   |false=>
    simp only[Bool.false_eq_true,if_false];refine Yh ⟨neq+ 1,W,G++[e],rfl,?_,F.same rR d j q3 q4⟩;rw[AV d]at o;simpa[List.append_assoc] using o
 .rintro c st2 ⟨neq,W,G,rfl,o,F⟩;rw[show max (n+ 1) nrem=nrem by lia]at o F ⊢;exact⟨nrem,neq,W,G,rfl,by lia,Y5 _,o,F⟩
 .clear o F;rintro c st2 ⟨m,neq,W,G,rfl,m1,m2,o,F⟩;dsimp only;have lW:(W++G).length=m:=by rw[F.pm.length_eq,Yu];lia
  rw[List.length_append]at lW;have lG:=F.len;have S3:Tj κ it pd ((p++W)++G++R.drop m) st2:=by simpa[List.append_assoc] using o
  by_cases q4:neq > 0
  case' pos=>
   rw[Y3 q4];refine Yb (CV S3 (by rw[List.length_append];lia) (by rw[List.length_append];lia) fun st3 S4=>?_)
  case' neg=>
   rw[Y2 q4];have S4:Tj κ it pd ((p++W)++G.reverse++R.drop m) st2:=by
    have:G.reverse=G:=by
     match G,F.len with
     |[a],_=>rfl
     |[],h=>simp at h
     |a::b::l,h=>simp at h;lia
    rw[this];exact S3
  all_goals
   have S5 := S4;rw [List.append_assoc p] at S5;refine Yb (CV S5 hp (by rw [List.length_append, W7]; lia) fun st4 S6 => ?_);have sU : (W ++ G.reverse).reverse.Pairwise (Pc O key) := Xu.mpr F.srt;have pU : (W ++ G.reverse).reverse.Perm (R.take m) := (Xd _).trans ((XN _ (Xd _)).trans F.pm);refine Yb (Xk (YW (I := fun x c st' => ∃ U, c = (none, x) /\ st' = st4 /\ Tj κ it pd (p ++ U ++ R.drop x) st' /\ U.Pairwise (Pc O key) /\ U.Perm (R.take x))
    (Q := fun c st' => ∃ x U, c = (none, x) /\ m <= x /\ x <= nrem /\ Tj κ it pd (p ++ U ++ R.drop x) st' /\ U.Pairwise (Pc O key) /\ U.Perm (R.take x)) ?_ ?_ ⟨_, rfl, rfl, S6, sU, pU⟩) ?_)
   .rintro x c st5 hx1 hx2 ⟨U,rfl,rfl,S7,sU,pU⟩;dsimp only;have lU:U.length=x:=by rw[pU.length_eq,Yu];lia
    obtain⟨e,d⟩:=Tg (l:=R) (i:=x) (by lia);obtain⟨g,j⟩:=Tg (l:=U) (i:=U.length - 1) (by lia);have gT:=pU.mem_iff.mp (Nj j);have gR:g∈R:=YX gT;refine Yb (EO (x:=e) (y:=g) C S7 (by rw[DO,Y2 (by lia),Y2 (by lia),show lo+ x - p.length - U.length=0 by lia,YN];exact d) (by rw[DO,Y2 (by lia),Y3 (by lia),show lo+ x - 1 - p.length=U.length - 1 by lia];exact j) (bR e (Nj d)) (bR g gR) ?_);have ge:=BC rR d gT;cases q5:Ni O key e g with
    |true=>
     simp only[if_true];exact Yh ⟨x,U,rfl,hx1,by lia,S7,sU,pU⟩
    |false=>
     simp only[Bool.false_eq_true,if_false];refine Yh ⟨U++[e],rfl,rfl,?_,?_,?_⟩
     .rw[AV d]at S7;simpa[List.append_assoc] using S7
     .refine Yo.mpr ⟨sU,Xa _ _,fun a ha b hb=>?_⟩;obtain rfl:=Y8.mp hb;exact Fa sU j ((Pc.ask' ge).mp q5) a ha
     .rw[Bp d];exact pU.append_right _
   .rintro c st5 ⟨U,rfl,rfl,S7,sU,pU⟩;rw[show max m nrem=nrem by lia]at S7 pU ⊢;exact⟨nrem,U,rfl,m2,Y5 _,S7,sU,pU⟩
   .rintro c st5 ⟨x,U,rfl,x1,x2,S7,sU,pU⟩;exact Yh (h x U _ (by lia) x2 S7 sU pU)
end
def Nl:Nat->List (List Nat)->List (Nat×Nat×Nat)->Prop
 |_,[],[]=>True
 |b,g::gs,e::es=>e.1=b/\e.2.1=g.length/\Nl (b+ g.length) gs es
 |_,_,_=>False
theorem Nl.len:∀{b gs es},Nl b gs es->es.length=gs.length
 |_,[],[],_=>rfl
 |_,_::_,_::_,h=>by simp[Nl.len h.2.2]
 |_,[],_::_,h=>h.elim
 |_,_::_,[],h=>h.elim
theorem Nl.app:∀{b pre gs es},Nl b (pre++gs) es->∃e1 e2,es=e1++e2/\e1.length=pre.length/\Nl b pre e1/\Nl (b+ pre.flatten.length) gs e2
 |b,[],gs,es,h=>⟨[],es,rfl,rfl,trivial,by simpa using h⟩
 |b,g::pre,gs,[],h=>h.elim
 |b,g::pre,gs,e::es,h=>by
  obtain⟨e1,e2,rfl,l,a,c⟩:=Nl.app h.2.2;refine⟨e::e1,e2,rfl,by simp[l],⟨h.1,h.2.1,a⟩,?_⟩;rw[Uh,List.length_append,<-Nat.add_assoc];exact c
theorem Nl.join:∀{b pre gs e1 e2},Nl b pre e1->Nl (b+ pre.flatten.length) gs e2->Nl b (pre++gs) (e1++e2)
 |b,[],gs,[],e2,_,h=>by simpa using h
 |b,g::pre,gs,e::e1,e2,h,h2=>⟨h.1,h.2.1,Nl.join h.2.2 (by rw[Uh,List.length_append,<-Nat.add_assoc]at h2;exact h2)⟩
 |b,[],gs,_::_,e2,h,_=>h.elim
 |b,_::_,gs,[],e2,h,_=>h.elim
theorem Nl.pw:∀{b gs es i p},Nl b gs es->Nl b gs (es.modify i fun x=>(x.1,x.2.1,p))
 |_,[],[],i,_,h=>by simpa using h
 |_,_::_,e::es,0,_,h=>⟨h.1,h.2.1,h.2.2⟩
 |_,_::_,e::es,i+ 1,_,h=>⟨h.1,h.2.1,Nl.pw h.2.2⟩
 |_,[],_::_,_,_,h=>h.elim
 |_,_::_,[],_,_,h=>h.elim
section
variable{O:KeyOrd}{key:Nat->O.α}
structure Dh(O:KeyOrd)(key:Nat->O.α)(lo:Nat)(gs:List (List Nat)):Prop where
 srt:∀g∈gs,g.Pairwise (Pc O key)/\0 < g.length
 low:gs.Pairwise (fun a b=>∀x∈a,∀y∈b,x < y)
 pm:gs.flatten.Perm (List.range lo)
theorem Dh.merge{lo:Nat}{pre post:List (List Nat)}{X Y Z:List Nat}(h:Dh O key lo (pre++X::Y::post))(z1:Z.Perm (X++Y))(z2:Z.Pairwise (Pc O key)):Dh O key lo (pre++Z::post):=by
 have o:=h.srt X (by simp);have l:=Yo.mp h.low;have j:=Xl.mp l.2.1;have i:=Xl.mp j.2;refine⟨fun g n=>?_,?_,?_⟩
 .rcases Yj.mp n with q|q
  .exact h.srt g (YG _ q)
  .rcases Yp.mp q with rfl|q
   .refine⟨z2,?_⟩;rw[z1.length_eq,List.length_append];lia
   .exact h.srt g (by simp[q])
 .refine Yo.mpr ⟨l.1,Xl.mpr ⟨fun b e x d y c=>?_,i.2⟩,fun a f b e x d y c=>?_⟩
  .rcases Yj.mp (z1.mem_iff.mp d) with q|q
   .exact j.1 b (Yi _ e) x q y c
   .exact i.1 b e x q y c
  .rcases Yp.mp e with rfl|q
   .rcases Yj.mp (z1.mem_iff.mp c) with q|q
    .exact l.2.2 a f X (by simp) x d y q
    .exact l.2.2 a f Y (by simp) x d y q
   .exact l.2.2 a f b (by simp[q]) x d y c
 .refine List.Perm.trans ?_ h.pm;rw[Uz,Uz,Uh,Uh,Uh,<-List.append_assoc X];exact XN _ (z1.append_right _)
theorem Dh.push{lo n:Nat}{gs:List (List Nat)}{U:List Nat}(h:Dh O key lo gs)(u1:U.Perm (List.range' lo n))(u2:U.Pairwise (Pc O key))(hn:0 < n):Dh O key (lo+ n) (gs++[U]):=by
 refine⟨fun g f=>?_,?_,?_⟩
 .rcases Yj.mp f with q|q
  .exact h.srt g q
  .obtain rfl:=Y8.mp q;exact⟨u2,by rw[u1.length_eq,UF];exact hn⟩
 .refine Yo.mpr ⟨h.low,Xa _ _,fun a j b i x d y c=>?_⟩;obtain rfl:=Y8.mp i;have h1:x < lo:=by have:=h.pm.mem_iff.mp (List.mem_flatten.mpr ⟨a,j,d⟩);simpa using this
  have h2:=u1.mem_iff.mp c;rw[Ui]at h2;lia
 .rw[Uz,Ub];have e:List.range (lo+ n)=List.range lo++List.range' lo n:=by
   rw[V7,V7,<-List.range'_append_1,Xr]
  rw[e];exact h.pm.append u1
end
section
variable{prog:Wh}{w:Wl}{A:Wk}{E:We}{s:Wi}{O:KeyOrd}{key:Nat->O.α}{κ:SortKind}{it:Nat->Keyed}{N:Nat}
structure DI(O:KeyOrd)(key:Nat->O.α)(κ:SortKind)(it:Nat->Keyed)(lo:Nat)(gs:List (List Nat))(rest:List Nat)(st:SortSt):Prop where
 ok:Df κ it (gs.flatten++rest) st
 segs:Dh O key lo gs
 ents:Nl 0 gs (pendingOf st).toList
theorem Py{α:Type}:∀{l:List α} {i:Nat},i+ 1 < l.length->∃pre x y post,l=pre++x::y::post/\pre.length=i
 |[],_,h=>by simp at h
 |[_],_,h=>by simp at h
 |a::b::l,0,_=>⟨[],a,b,l,rfl,rfl⟩
 |a::b::l,i+ 1,h=>by
  obtain⟨pre,x,y,post,e,hl⟩:=Py (l:=b::l) (i:=i) (by simpa using h);exact⟨a::pre,x,y,post,by rw[e];rfl,by simp[hl]⟩
theorem Pb{st:SortSt}{lo i:Nat}{gs:List (List Nat)}{rest:List Nat}{Q:Bool->SortSt->Prop}(C:DX prog w A s κ it N (Ni O key))(S:DI O key κ it lo gs rest st)(hlo:lo <=N)(hi:i+ 1 < gs.length)
  (h:∀gs' st',DI O key κ it lo gs' rest st'->gs'.length+ 1=gs.length->Q true st'):wpS (model prog w) A E s (mergeAt' i) Q st:=by
 obtain⟨c,X,Y,d,rfl,hl⟩:=Py hi;have f:=S.segs;obtain⟨e,e2,j,l1,a1,a2⟩:=S.ents.app
 match e2,a2 with
 |⟨x1,x2,x3⟩::⟨y1,y2,y3⟩::es,a2=>
  obtain⟨b1,b2,z,r,q⟩:=a2;simp only[Xr]at b1 b2 z r q;subst b1;subst b2;subst z;subst r;have p:=f.srt X (by simp);have o:=f.srt Y (by simp);have l:∀g∈c++X::Y::d,∀x∈g,x < N:=fun g hg x hx=>by
   have:=f.pm.mem_iff.mp (List.mem_flatten.mpr ⟨g,hg,hx⟩);simp at this;lia
  have low:=(Xl.mp (Yo.mp f.low).2.1).1 Y (by simp);have ar:Df κ it (c.flatten++X++Y++(d.flatten++rest)) st:=by
   have:=S.ok;simpa[List.append_assoc] using this
  have g1:(pendingOf st)[i]?=some (c.flatten.length,X.length,x3):=by
   rw[<-Array.getElem?_toList,j,Xb (by lia),show i - e.length=0 by lia];rfl
  have g2:(pendingOf st)[i+ 1]?=some (c.flatten.length+ X.length,Y.length,y3):=by
   rw[<-Array.getElem?_toList,j,Xb (by lia),show i+ 1 - e.length=1 by lia];rfl
  refine SB C ar ⟨p.1,o.1,low,l X (by simp),l Y (by simp)⟩ p.2 o.2 g1 g2 fun Z st' n z2 S' pe=>?_
  refine h (c++Z::d) st' ⟨?_,f.merge n z2,?_⟩ (by simp;lia)
  .simpa[List.append_assoc] using S'
  .rw[pe];have:(((pendingOf st).setIfInBounds i (c.flatten.length,X.length+ Y.length,x3)).eraseIdxIfInBounds (i+ 1)).toList=e++(c.flatten.length,X.length+ Y.length,x3)::es:=by
    have k:∀ (a b:Nat×Nat×Nat) (v:Nat×Nat×Nat),((e++a::b::es).set i v).eraseIdx (i+ 1)=e++v::es:=fun a b v=>by
     rw[VV _ _ (by lia),show i - e.length=0 by lia,List.set_cons_zero,List.eraseIdx_append_of_length_le (by lia),show i+ 1 - e.length=1 by lia];rfl
    have sz:i+ 1 < (pendingOf st).size:=by rw[<-Array.length_toList,j];simp;lia
    rw[Array.eraseIdxIfInBounds,dif_pos (by simpa using sz),Array.toList_eraseIdx,Vu,j,k]
   rw[this];refine a1.join ⟨by simp,?_,?_⟩
   .rw[n.length_eq,List.length_append]
   .rw[n.length_eq,List.length_append];rw[<-Nat.add_assoc,Xr];exact q
theorem SI{st:SortSt}{Q:Unit->SortSt->Prop}(C:DX prog w A s κ it N (Ni O key))(hst:Tj κ it #[] (List.range N) st)(h2:1 <=N)
  (h:∀ (p:List Nat) st',Df κ it p st'->p.Perm (List.range N)->p.Pairwise (Pc O key)->Q () st'):wpS (model prog w) A E s sortRuns' Q st:=by
 rw[sortRuns'_eq];refine Yb (UI ?_);have sz:(arrOf st).size=N:=by rw[show arrOf st=_ from hst.arr];simp
 dsimp only;rw [sz];have s0 : DI O key κ it 0 [] (List.range' 0 N) st := ⟨by have := hst.1; rwa [V7] at this, ⟨fun g hg => by simp at hg, .nil, .refl _⟩, by rw [hst.pend]; exact trivial⟩;refine Yb (Xk (YW (I := fun x c st' => ∃ lo b, c = (none, lo) /\ DI O key κ it lo b (List.range' lo (N - lo)) st' /\ lo <= N /\ (x <= lo \/ lo = N) /\ b.length <= lo)
  (Q := fun c st' => ∃ b, c = (none, N) /\ DI O key κ it N b [] st' /\ b.length <= N) ?_ ?_ ⟨0, [], rfl, s0, Yy _, .inl (Y5 _), Y5 _⟩) ?_)
 .rintro x c j - hx ⟨lo,b,rfl,S,hlo,hxl,l⟩;dsimp only
  by_cases q1:lo≥N
  .rw[Y3 q1];obtain rfl:lo=N:=by lia
   refine Yh ⟨b,rfl,?_,l⟩;rw[VH]at S;exact S
  rw[Y2 q1];have Sp1:Tj κ it (pendingOf j) (b.flatten++List.range' lo (N - lo)) j:=⟨S.ok,rfl⟩;have fl:b.flatten.length=lo:=by rw[S.segs.pm.length_eq,YB]
  have ris:E7 (List.range' lo (N - lo)):=List.pairwise_lt_range';have bR:∀r∈List.range' lo (N - lo),r < N:=fun r hr=>by rw[Ui]at hr;lia
  refine Yb (xM C Sp1 fl.symm (by simp) (by lia) ris bR fun m U i m1 m2 S2 sU pU=>?_);dsimp only;have tk:∀k,k <=N - lo->(List.range' lo (N - lo)).take k=List.range' lo k:=fun k hk=>by rw[List.take_range'_of_length_ge hk]
  have dp:∀k,k <=N - lo->(List.range' lo (N - lo)).drop k=List.range' (lo+ k) (N - (lo+ k)):=fun k hk=>by rw[List.drop_range',Nat.mul_one];congr 1;lia
  by_cases q2:m < minRun' N N 0
  case' pos=>
   rw[Y3 q2];refine Yb (Vh (XV ⟨rfl,?_⟩));have lU:U.length=m:=by rw[pU.length_eq,tk m m2,UF]
   refine Yb (Sb C S2 fl.symm lU.symm m1 (by lia) (by rw [lU, YQ, UF]; lia) sU (ris.sublist (Ug _ _)) (fun u hu r hr => by
    have a:=pU.mem_iff.mp hu;rw[tk m m2,Ui]at a;rw[dp m m2,Ui]at hr;lia) (fun u hu=>by
    have a := pU.mem_iff.mp hu; rw [tk m m2, Ui] at a; lia) (fun r hr => bR r (Xm hr)) fun V v S3 sV pV => ?_)
   simp only[Bool.not_true,Bool.false_eq_true,if_false];have n1:m <=min (N - lo) (minRun' N N 0):=by lia
   have n2:min (N - lo) (minRun' N N 0) <=N - lo:=by lia
   generalize min (N - lo) (minRun' N N 0)=n at S3 pV n1 n2 ⊢;have o:Tj κ it (pendingOf j) (b.flatten++V++List.range' (lo+ n) (N - (lo+ n))) v:=by
    rw[List.drop_drop,show m+ (n - m)=n by lia,dp n n2]at S3;exact S3
   have aa:V.Perm (List.range' lo n):=by
    refine pV.trans ((pU.append_right _).trans ?_);rw[<-List.take_add,show m+ (n - m)=n by lia,tk n n2]
   have hn:1 <=n:=by lia
  case' neg=>
   rw[Y2 q2];have n2:=m2;have hn:=m1;have o:Tj κ it (pendingOf j) (b.flatten++U++List.range' (lo+ m) (N - (lo+ m))) i:=by rw[dp m m2]at S2;exact S2
   have aa:U.Perm (List.range' lo m):=by rw[tk m m2]at pU;exact pU
   have sV:=sU;clear S2 pU m1 m2 q2;generalize m=n at o aa n2 hn ⊢;generalize U=V at o aa sV;generalize i=v at o ⊢
  all_goals
   have S4:DI O key κ it lo b (V++List.range' (lo+ n) (N - (lo+ n))) v:=⟨by have:=o.1;rwa [List.append_assoc]at this,S.segs,by rw[o.pend];exact S.ents⟩;have fin:∀{d st'},DI O key κ it lo d (V++List.range' (lo+ n) (N - (lo+ n))) st'->d.length <=lo->DI O key κ it (lo+ n) (d++[V]) (List.range' (lo+ n) (N - (lo+ n))) (setPending st' ((pendingOf st').push (lo,n,0)))/\(d++[V]).length <=lo+ n:=fun {d st'} e l5=>by
    refine⟨⟨⟨e.ok.kind,e.ok.ok,?_⟩,e.segs.push aa sV hn,?_⟩,by simp;lia⟩
    .show arrOf st'=_;rw[show arrOf st'=_ from e.ok.arr,Uz,Ub,List.append_assoc]
    .show Nl 0 _ ((pendingOf st').push (lo,n,0)).toList;rw[Array.toList_push];refine e.ents.join ⟨?_,?_,trivial⟩
     .rw[e.segs.pm.length_eq,YB,Xr]
     .rw[aa.length_eq,UF]
   refine Yb (UI ?_);cases hbk:(pendingOf v).back? with
   |none=>
    dsimp only;obtain⟨f1,f2⟩:=fin S4 l;exact Yb (Uv (Yh ⟨lo+ n,_,rfl,f1,by lia,by lia,f2⟩))
   |some z=>
    obtain⟨z1,z2,z3⟩:=z;dsimp only;generalize power' N (2*z1+ z2) (2*z1+ z2+ z2+ n) N=pw;refine Yb (Xk (YW (I:=fun x c st'=>∃d,c=(none,())/\DI O key κ it lo d (V++List.range' (lo+ n) (N - (lo+ n))) st'/\d.length <=lo) (Q:=fun c st'=>∃d,c=(none,())/\DI O key κ it lo d (V++List.range' (lo+ n) (N - (lo+ n))) st'/\d.length <=lo) ?_ (fun _ _ z=>z) ⟨b,rfl,S4,l⟩) ?_)
    .rintro x c f - hx ⟨d,rfl,e,l5⟩;refine Yb (UI ?_);have pl:(pendingOf f).size=d.length:=by rw[<-Array.length_toList];exact e.ents.len
     by_cases q5:(pendingOf f).size > 1
     .rw[Y3 q5];cases hq:(pendingOf f)[(pendingOf f).size - 2]? with
      |none=>exact Yh ⟨d,rfl,e,l5⟩
      |some y=>
       obtain⟨y1,y2,y3⟩:=y;dsimp only
       split
       .exact Yh ⟨d,rfl,e,l5⟩
       .refine Yb (Pb C e hlo (by lia) fun gs6 st6 S6 l6=>?_);simp only[Bool.not_true,Bool.false_eq_true,if_false];exact Yh ⟨gs6,rfl,S6,by lia⟩
     .rw[Y2 q5];exact Yh ⟨d,rfl,e,l5⟩
    .rintro c f ⟨d, rfl, e, l5⟩;dsimp only;have S6 : DI O key κ it lo d (V ++ List.range' (lo + n) (N - (lo + n))) (setPending f ((pendingOf f).modify ((pendingOf f).size - 1) fun x => (x.1, x.2.1, pw))) := ⟨⟨e.ok.kind, e.ok.ok, e.ok.arr⟩, e.segs, by
      show Nl 0 d ((pendingOf f).modify _ _).toList;rw [Array.toList_modify]; exact e.ents.pw⟩
     obtain⟨f1,f2⟩:=fin S6 l5;refine Yb (Uv (Yb (Uv (Yh ⟨lo+ n,_,rfl,f1,by lia,by lia,f2⟩))))
 .rintro c j ⟨lo,b,rfl,S,hlo,hxl,l⟩;obtain rfl:lo=N:=by lia
  refine⟨b,rfl,?_,l⟩;rw[VH]at S;exact S
 .rintro c j ⟨b,rfl,S,l⟩;dsimp only;refine Yb (Xk (YW (I:=fun x c st'=>∃b,c=(none,())/\DI O key κ it N b [] st'/\b.length+ x <=N+ 1/\1 <=b.length) (Q:=fun c st'=>∃b,c=(none,())/\DI O key κ it N b [] st'/\b.length=1) ?_ ?_ ⟨b,rfl,S,by lia,?_⟩) ?_)
  .rintro x c i - hx ⟨b,rfl,S,hg,hg1⟩;refine Yb (UI ?_);have pl:(pendingOf i).size=b.length:=by rw[<-Array.length_toList];exact S.ents.len
   rw[pl]
   by_cases q:b.length <=1
   .rw[Y3 q];exact Yh ⟨b,rfl,S,by lia⟩
   rw[Y2 q];generalize hb:(if b.length - 2 > 0 then Option.map (fun x=>x.2.1) (pendingOf i)[b.length - 2 - 1]? else none)=bf
   split
   all_goals
    refine Yb (Pb C S (Y5 _) ?_ fun d v S3 l3=>?_)
    .lia
    .simp only[Bool.not_true,Bool.false_eq_true,if_false];exact Yh ⟨d,rfl,S3,by lia,by lia⟩
  .rintro c i ⟨b,rfl,S,hg,hg1⟩;exact⟨b,rfl,S,by lia⟩
  .cases b with
   |nil=>have:=S.segs.pm.length_eq;simp at this;lia
   |cons=>simp
  .rintro c i ⟨b,rfl,S,hg⟩;refine Yh ?_
   match b,hg,S with
   |[g],_,S=>
    have:=S.ok;rw[List.append_nil,Ub]at this;have pm:=S.segs.pm;rw[Ub]at pm;exact h g _ this pm (S.segs.srt g (by simp)).1
end
section
variable{prog:Wh}{w:Wl}{A:Wk}{E:We}{s:Wi}{O:KeyOrd}{key:Nat->O.α}{κ:SortKind}{vs ks:Wq}
theorem mO{Q:SortSt->Shared->Prop}(hl:ks.length=vs.length)(h2:1 <=vs.length)(C:∀ (i j:Nat) (C':Bool->Shared->Prop),i < vs.length->j < vs.length->C' (Ni O key i j) s->kas_ask prog w A κ ks i j C' s)
  (h:∀ (p:List Nat) st',arrOf st'=p.toArray.map (kas_item (ks.toArray.zip vs.toArray))->failedOf st'=none->p.Perm (List.range vs.length)->p.Pairwise (Pc O key)->Q st' s):
  wpAny (model prog w) A ((sortRuns').run (SortSt.mk' κ (ks.toArray.zip vs.toArray) #[] 7 none)) (fun r s'=>Q r.2 s') E s:=by
 have sz:(ks.toArray.zip vs.toArray).size=vs.length:=by simp[hl]
 have a : Tj κ (kas_item (ks.toArray.zip vs.toArray)) #[] (List.range vs.length) (SortSt.mk' κ (ks.toArray.zip vs.toArray) #[] 7 none) := ⟨⟨rfl, rfl, by
  have e := kas_range (ks.toArray.zip vs.toArray);rw [sz] at e;show ks.toArray.zip vs.toArray = _;rw [<- List.map_toArray]; exact e.symm⟩, rfl⟩
 have ok:DX prog w A s κ (kas_item (ks.toArray.zip vs.toArray)) vs.length (Ni O key):=fun i j C' hi c d=>by
  have:=C i j C' hi c d;unfold kas_ask at this;rw[kat_item hl,kat_item hl];exact this
 have:=SI (E:=E) (Q:=fun _ st'=>Q st' s) ok a h2 fun p st' S pm b=>h p st' (by rw[show arrOf st'=_ from S.arr,<-List.map_toArray]) S.ok pm b
 unfold wpS at this;exact YF this (fun r s' q=>by obtain⟨rfl,q⟩:=q;exact q) fun _ _ e=>e
end
end L2
namespace L2
open PySem PySem.Spec PyProof.Rows
structure On(scope:Scope)(y:Str)(N':List Str):Prop where
 kind:scope.kind= .function
 co:scope.isCoroutine=false
 gen:scope.isGenerator=false
 nocell:∀y∈scope.names,y.2≠ .cell
 loc:scope.names.lookup y=some .local
 free:∀x∈N',scope.names.lookup x=some .free
def yV(P:Wh)(w:Wl)(K:Wm)(mg:Wd)(base:Wr)(k:Nat)(f:Wo)(u:Wn)(H:Hp)(Q:VK)(E:XK):Prop:=
 ∀ (A:Wk) (outer:List Env) (s:Wi),Room k A->MJ P w K mg base A outer s H->codeAny (model P w) A (.call (.ref f) ⟨[u],[]⟩) (CR (KG P w) outer P w H s Q E) s
section
variable{P:Wh}{w:Wl}{K:Wm}{mg:Wd}{base:Wr}{N':List Str}{q:Str}{scope:Scope}{f c':Wo}{cl:List (Str×Addr)}{params:Arguments}{body:Ws}{k:Nat}{h:Wr}{G:Hp}{σ:St}{te:XK->TE}{pm ctv:Wn}
theorem SW{y:Str}{xv:V}{u0:Wn}(rxv:WI xv u0)(S:On scope y N')(C:PL cl h scope)(hσ:Holds cl h N' σ)(hl:σ.length=N'.length){oc:Obj}{vs:Array Value}{t:Tok}(hGf:G f=some (.frz (El q params body scope cl pm (.ref c') ctv) HT))(hGc:G c'=some (.frz oc HT))(hd:oc.data= .fields vs)(hv:vs[1]?=some (.str q t))
  (hcf:∀b∈cl.map (·.2),G b=none) (hbind:∀pm cv ctv u,bindArgs (W.kla_fn "<lambda>" q params body scope cl pm cv ctv) ⟨[u],[]⟩=pure [(y,u)])
  (hb:∀ (A:Wk) (outer:List Env) (s:Wi) (H:Hp) (E:XK),Room k (A.deeper (W.envX q scope s.heap.objs.size f (.ref c') cl))->PE (Rm P w K mg base (y::N') q scope f (.ref c') cl A outer s H E) body (te E))
  {Q:VK} {E:XK} (ht:te E (some xv::σ) G Q):yV P w K mg base (k+ 1) f u0 (JR cl h G) (fun v H'=>∃H2,H'=JR cl h H2/\(∀b∈cl.map (·.2),H2 b=none)/\Q v H2) (fun c _ H'=>∃H2,H'=JR cl h H2/\(∀b∈cl.map (·.2),H2 b=none)/\E c none H2):=by
 intro A outer s hr l;have eG:DW cl (JR cl h G)=G:=by
  funext b
  by_cases hb:b∈cl.map (·.2)
  .rw[EF hb,hcf b hb]
  .rw[Dy hb,Tk hb]
 have nC:∀b x,G b=some x->b∉cl.map (·.2):=fun b x e hb=>by rw[hcf b hb]at e;cases e
 have gf:s.heap.get? f=some (El q params body scope cl pm (.ref c') ctv):=l.hok.frz (by rw[Tk (nC f _ hGf)];exact hGf);have gc:s.heap.get? c'=some oc:=l.hok.frz (by rw[Tk (nC c' _ hGc)];exact hGc);have j:∀b∈cl.map (·.2),∃o,h.get? b=some o/\s.heap.get? b=some o:=fun b hb=>by
  obtain⟨o,v,g,_⟩:=C.cell b hb;exact⟨o,g,l.hok.frz (by rw[Re hb,g];rfl)⟩
 have cfs:∀b∈cl.map (·.2),b∉Mq outer:=fun b hb hm=>by
  obtain⟨o,g,_⟩:=j b hb;have:=l.frf b hm;rw[Re hb,g]at this;cases this
 have hcc:∀b∈cl.map (·.2),(∃o,h.get? b=some o)/\b∉Mq outer:=fun b hb=>⟨(j b hb).imp fun o z=>z.1,cfs b hb⟩
 have hokG:NB P w G s.heap:=fun b o e=>by
  have hb := nC b _ e;exact (l.hok b o (by rw [Tk hb]; exact e)).stay (fun _ _ _ z => z) (fun d z => by
   by_cases hd:d∈cl.map (·.2)
   .obtain⟨o1,g,_⟩:=j d hd;rw[Re hd,g]at z;cases z
   .rw [Tk hd] at z; exact z) fun d xs z => by
   by_cases hd:d∈cl.map (·.2)
   .obtain⟨o1,g,_⟩:=j d hd;rw[Re hd,g]at z;cases z
   .rw[Tk hd]at z;exact z
 have gN:∀b,JR cl h G b=none->G b=none:=fun b e=>by
  by_cases hb:b∈cl.map (·.2)
  .exact hcf b hb
  .rw[Tk hb]at e;exact e
 refine W.kla_callFunE hr.depth gf rfl S.co S.gen rfl ⟨c',oc,vs,t,rfl,gc,hd,hv⟩ ?_;rw[hbind];refine Ye (wpAny_newFunctionEnv S.nocell (fun z hz=>by obtain rfl:=Y8.mp hz;exact S.loc) (fun h₁ hns hsb=>⟨?_,?_⟩) S.kind)
 .exact(l.mod.nolimit.keeps fun b o e=>(l.bs b o e).1).fresh _ hsb
 have hk₁:∀b o,s.heap.get? b=some o->h₁.get? b=some o:=fun b o e=>hsb.extBut b o (Yr (Yk e)) (Y7 _ e)
 show codeAny _ _ (.expr body (W.envX q scope s.heap.objs.size f (.ref c') cl)) _ _;refine W.kla_codeExpr ?_;have noA:∀b:Addr,b∉(Rm P w K mg base (y::N') q scope f (.ref c') cl A outer s G E).ex:=fun b z=>absurd (show b∈([]:List Addr) from z) (by simp)
 have I:Wx (Rm P w K mg base (y::N') q scope f (.ref c') cl A outer s G E) [] (some xv::σ) G {s with heap:=h₁,toks:=s.toks+ 1}:=by
  refine ⟨⟨l.mod, S.kind, rfl, rfl, Y5 _, C.inj, fun x hx => ?_, (fun x c z => by cases z), fun _ => hr.hd, Around.frames_deeper l.frames, .inr ⟨rfl, rfl⟩, fun b z => absurd z (noA b), fun b o e => ⟨(l.bs b o e).1, gN b (l.bs b o e).2⟩, l.bsz, fun b _ _ => noA b, fun b z => absurd z (noA b), l.funs, fun b hb => gN b (l.frf b hb)⟩,
   rfl, l.bare, Un.kept hk₁, ⟨_, hns, fun i x v g e2 e3 => ?_⟩, fun x c e => ?_, hokG.fresh (Y5 _), fun x c e => hcf c (Cc e), fun p hp => absurd (show p ∈ ([] : List (Addr × Obj)) from hp) (by simp), hokG.kept hk₁, by simp [hl]; rfl⟩
  .have hx:scope.names.lookup x=some .cell\/scope.names.lookup x=some .free:=hx;rcases hx with hx|hx
   .exact absurd rfl (S.nocell _ (Xf hx))
   .exact C.has x (Xf hx)
  .cases i with
   |zero=>
    have g:some y=some x:=g;have e2:some (some xv)=some (some v):=e2;cases g;cases e2;exact⟨u0,rxv,.inl ⟨S.loc,by simp[List.lookup]⟩⟩
   |succ i=>?_
   have g:N'[i]?=some x:=g;have e2:σ[i]?=some (some v):=e2;obtain⟨c,o,u,q1,q2,q3,q4⟩:=hσ i x v g e2;obtain⟨o',z1,z2⟩:=j c (Cc q1);rw[q2]at z1;cases z1;exact⟨u,q4,.inr ⟨.inr (S.free x (Yw g)),c,q1,⟨o,hk₁ _ _ z2,q3⟩⟩⟩
  .obtain⟨o,v,z1,z2⟩:=C.cell c (Cc e);obtain⟨o',y1,y2⟩:=j c (Cc e);rw[z1]at y1;cases y1;exact⟨v,⟨o,hk₁ _ _ y2,z2⟩⟩
 refine YF (hb A outer s G E (hr.deeper _) [] _ (some xv::σ) G Q I ht) (fun v s' hs=>?_) fun e s' hs=>?_
 .obtain⟨x,H',J,rx,qx⟩:=hs;obtain⟨u1,u2,u3⟩:=Fh (fs:=Mq outer) l.hok hcc (eG▸J.base);exact⟨x,JR cl h H',J.os,J.bare,u1,u3 _ (fun b o e r n=>J.base.keep b o e (eG▸n) r (by simp[Rm])) J.hok,rx,H',rfl,u2,qx⟩
 .refine YF hs (fun _ s'' hc=>?_) fun e' s'' hc=>?_
  .obtain⟨a,C1,t1,B,H',g,F,hE⟩:=hc;obtain⟨u1,u2,u3⟩:=Fh (fs:=Mq outer) l.hok hcc (eG▸F.un);exact⟨a,C1,t1,B,JR cl h H',g,⟨F.os,F.bare,F.fly,u3 B (fun b o e r n=>F.keepB b o e r (eG▸n)) F.hok,u1,fun b o e r n=>F.keepB b o e r (gN b n),F.thereB⟩,H',rfl,u2,hE⟩
  .obtain⟨a,C1,t1,B,H',g,F,hE⟩:=hc;obtain⟨u1,u2,u3⟩:=Fh (fs:=Mq outer) l.hok hcc (eG▸F.un);exact⟨a,C1,t1,B,JR cl h H',g,⟨F.os,F.bare,F.fly,u3 B (fun b o e r n=>F.keepB b o e r (eG▸n)) F.hok,u1,fun b o e r n=>F.keepB b o e r (gN b n),F.thereB⟩,H',rfl,u2,hE⟩
end
end L2
namespace L2
open PySem PySem.Spec PyProof.Rows PySem.W
structure Eo(X:Cx)(y:Str)(N':List Str)(scope:Scope)(caps:List (Option Nat)):Prop where
 s:On scope y N'
 cap:Qj X.N N' scope caps
 vis:∀x,(x,NameKind.free)∈scope.names->X.env.kindOf x=some .cell\/X.env.kindOf x=some .free
def LJ(N:List Str)(y:Str)(N':List Str)(scope:Scope)(caps:List (Option Nat))(sc:Scope):Bool:=
 decide (scope.kind= .function) && !scope.isCoroutine && !scope.isGenerator && (scope.names.all fun y=>decide (y.2≠ .cell)) && decide (scope.names.lookup y=some .local) && (N'.all fun x=>decide (scope.names.lookup x=some .free)) && decide (caps.length=N'.length) &&
 ((N'.zip caps).all fun p => match p.2 with
  |none=>true
  | some j => decide (N[j]? = some p.1) && decide ((p.1, NameKind.free) ∈ scope.names) && (scope.names.all fun y => decide (y.1 = p.1 -> y.2 = .free))) &&
 (scope.names.all fun y=>decide (y.2= .free->sc.names.lookup y.1=some .cell\/sc.names.lookup y.1=some .free))
theorem jA{X:Cx}{y:Str}{N':List Str}{scope:Scope}{caps:List (Option Nat)}{sc:Scope}{N:List Str}(hsc:X.env.scope=sc)(hN:X.N=N)(h:LJ N y N' scope caps sc=true):Eo X y N' scope caps:=by
 subst hsc hN;unfold LJ at h;simp only[YR,Y9,Xi,Xo]at h;obtain⟨⟨⟨⟨⟨⟨⟨⟨h1,h2⟩,n⟩,l⟩,o⟩,g⟩,f⟩,e⟩,d⟩:=h;refine⟨⟨h1,h2,n,l,o,g⟩,⟨f,fun i j x r p=>?_⟩,fun x b=>d _ b rfl⟩;have a:(x,some j)∈N'.zip caps:=by
  have:(N'.zip caps)[i]?=some (x,some j):=by rw[Vz];exact⟨r,p⟩
  exact Yw this
 have q:=e _ a;simp only[YR,Y9,Xi]at q;exact⟨q.1.1,q.1.2,fun k c=>q.2 _ c rfl⟩
section
variable{X:Cx}{q:Str}{params:Arguments}{body:Ws}{scope:Scope}{H G:Hp}{f:Wo}{y:Str}{N':List Str}{caps:List (Option Nat)}{te:TE}{k:Nat}{σ:St}{pins:Wg}{s s1 s2:Wi}{cl:List (Str×Addr)}{A:Wk}
theorem dY(v:M9 X q params body scope H f)(S:Eo X y N' scope caps)(hbind:∀cl pm cv ctv u,bindArgs (W.kla_fn "<lambda>" q params body scope cl pm cv ctv) ⟨[u],[]⟩=pure [(y,u)])
  (hb:∀ (f c':Wo) (cl:List (Str×Addr)) (A:Wk) (outer:List Env) (s:Wi) (H:Hp) (E:XK),Room k (A.deeper (W.envX q scope s.heap.objs.size f (.ref c') cl))->PE (Rm X.prog X.w X.K X.mg X.base (y::N') q scope f (.ref c') cl A outer s H E) body te)
  {Q:VK} {xv:V} {u0:Wn} {E:We} (rx:WI xv u0) (I1:Wx X pins σ H s1) (hfn:∀x,X.fn x=true) (hr:Room (k+ 1) A) (hA:A.frames=X.A.frames) (ht:te (some xv::Jj caps σ) H Q):
  wpAny (model X.prog X.w) A (call (.ref f) [u0]) (CE X.stack X.prog X.w H s1 Q) E s1:=by
 obtain⟨cl,c',ctv,pm,oc,vs,t,⟨d,n,hcl3⟩,b4,b5,b6,b7⟩:=v;have cX:∀b∈cl.map (·.2),∃x,X.env.cells.lookup x=some b:=fun b hb=>by
  obtain⟨⟨x,b'⟩,g,rfl⟩:=Ya.mp hb;exact⟨x,hcl3 _ g⟩
 have p:∀b∈cl.map (·.2),H b=none:=fun b hb=>by
  obtain⟨x,g⟩:=cX b hb;exact I1.freeC x b g
 have aa:∀b∈cl.map (·.2),∃o v,s1.heap.get? b=some o/\o.data= .cell v:=fun b hb=>by
  obtain⟨x,g⟩:=cX b hb;obtain⟨v,o,e1,a⟩:=I1.cell x b g;exact⟨o,v,e1,a⟩
 have hCO:PL cl s1.heap scope:=⟨fun x y b h1 h2=>I1.ok.inj x y b (d x b h1) (d y b h2),n,aa⟩;have hH:Holds cl s1.heap N' (Jj caps σ):=fun i x v e1 a=>by
  obtain⟨m,hns,hl⟩:=I1.loc;unfold Jj at a;rw[Yc]at a;cases ec:caps[i]? with
  |none=>rw[ec]at a;cases a
  |some o=>
   rw[ec]at a;cases o with
   |none=>cases a
   |some j=>
    have a:(σ[j]?).join=some v:=Option.some.inj a;obtain⟨n1,n2,n3⟩:=S.cap.2 i j x e1 ec;have e3:σ[j]?=some (some v):=by
     cases z:σ[j]? with
     |none=>rw[z]at a;cases a
     |some y=>rw[z]at a;exact X0 some a
    have hv:X.env.kindOf x=some .cell\/X.env.kindOf x=some .free:=S.vis x n2;obtain⟨u,ru,lk⟩:=hl j x v n1 e3 (hv.elim (fun z=>.inr (.inl z)) (fun z=>.inr (.inr z)));obtain⟨b,hb⟩:=n x n2;have hb2:=d x b hb;rcases lk with⟨z,_⟩|⟨_,b',hb',⟨o,q1,q2⟩⟩
    .rcases hv with y|y <;> (rw[z]at y;cases y)
    .rw[hb2]at hb';cases hb';exact⟨b,o,u,hb,q1,q2,ru⟩
 have ask:=SW (P:=X.prog) (w:=X.w) (K:=X.K) (mg:=X.mg) (base:=X.base) (k:=k) (h:=s1.heap) (G:=H) (te:=fun _=>te) (params:=params) (body:=body) (Q:=Q) (E:=fun _ _ _=>False) rx S.s hCO hH (by unfold Jj;rw[Y0];exact S.cap.1) b4 b5 b6 b7 p (hbind cl) (hb f c' cl) ht;have c:=xC I1 hfn cX;refine VZ (Uk (ask A X.stack s1 hr ⟨by rw[hA];exact c.frames,c.mod,c.bs,c.bsz,c.funs,c.frf,c.hok,c.bare⟩) fun r s2 l=>?_);cases r with
 |error e=>obtain⟨_,_,_,_,_,_,_,_,_,_,z⟩:=l;exact z.elim
 |ok fl=>
  cases fl with
  |ret v=>
   obtain⟨x,H',z1,z2,z3,z4,z5,H2,rfl,z7,z8⟩:=l;exact yP I1 cX ⟨x,_,z1,z2,z3,z4,z5,by show Q x (DW cl (JR cl s1.heap H2));rw[Zz z7];exact z8⟩
  |next=>exact False.elim l
  |brk=>exact False.elim l
  |cont=>exact False.elim l
end
def JH(H G:Hp):Prop:=∀b o,H b=some o->(∀xs,o≠ .lst xs)->G b=some o
theorem JH.rfl'{H:Hp}:JH H H:=fun _ _ e _=>e
theorem JH.trans{H G F:Hp}(a:JH H G)(b:JH G F):JH H F:=fun x o e n=>b x o (a x o e n) n
theorem Ww.keepT{H G:Hp}(a:Ww H G):JH H G:=fun b o e _=>a b o e
theorem AH{H:Hp}{l:Wo}{xs:List V}{o:HO}(e:H l=some (.lst xs)):JH H (upd H l o):=fun b u a n=>by
 rw[WM (fun z=>by subst z;rw[e]at a;cases a;exact n xs rfl)];exact a
section
variable{X:Cx}{q:Str}{params:Arguments}{body:Ws}{scope:Scope}{f:Wo}{y:Str}{N':List Str}{caps:List (Option Nat)}{te:TE}{k:Nat}{σ:St}{pins:Wg}{A:Wk}{E:We}{O:KeyOrd}{d:O.α}{RA:Hp->V->O.α->Prop}{c:List O.α}
theorem M9.keepT{H G:Hp}(v:M9 X q params body scope H f)(h:JH H G):M9 X q params body scope G f:=v.of fun b a e=>h b _ e fun _ z=>by cases z
theorem wV{kS:Wo}{bd:Value->PUnit->Sem (ForInStep PUnit)}(S:Eo X y N' scope caps)(hbind:∀cl pm cv ctv u,bindArgs (W.kla_fn "<lambda>" q params body scope cl pm cv ctv) ⟨[u],[]⟩=pure [(y,u)])
  (hb:∀ (f c':Wo) (cl:List (Str×Addr)) (A:Wk) (outer:List Env) (s:Wi) (H:Hp) (E:XK),Room k (A.deeper (W.envX q scope s.heap.objs.size f (.ref c') cl))->PE (Rm X.prog X.w X.K X.mg X.base (y::N') q scope f (.ref c') cl A outer s H E) body te)
  (hfn:∀x,X.fn x=true) (hr:Room (k+ 1) A) (hA:A.frames=X.A.frames) (mono:∀{G G' v p},JH G G'->RA G v p->RA G' v p)
  (hbd:∀ (u:Wn) (s:Wi) (R:Shared->Prop),wpAny (model X.prog X.w) A (call (.ref f) [u]) (fun k s'=>wpAny (model X.prog X.w) A (Builtin.List.listUpdate (.ref kS) (·.push k)) (fun _ s''=>R s'') (fun _ _=>False) s') (fun _ _=>False) s->wpAny (model X.prog X.w) A (bd u ⟨⟩) (fun r s'=>r= .yield ⟨⟩/\R s') E s):
  ∀ (xs:List V) (us:Wq) (kv:List V) (H:Hp) (s:Wi),WD xs us->Wx X pins σ H s->H kS=some (.lst kv)->kv.length+ xs.length <=100000->M9 X q params body scope H f->
   (∀ (j:Nat) x p,xs[j]?=some x->c[kv.length+ j]?=some p->∀G,JH H G->te (some x::Jj caps σ) G (fun v G'=>Ww G G'/\RA G' v p))->kv.length+ xs.length=c.length->(∀ (j:Nat) v p,kv[j]?=some v->c[j]?=some p->RA H v p)->
   wpAny (model X.prog X.w) A (forIn us PUnit.unit bd) (fun _ s'=>∃kv' H',Wx X pins σ H' s'/\JH H H'/\H' kS=some (.lst kv')/\kv'.length=c.length/\(∀b,b≠kS->∀o,H b=some o->H' b=some o)/\∀ (j:Nat) v p,kv'[j]?=some v->c[j]?=some p->RA H' v p) E s:=by
 intro xs
 induction xs with
 |nil=>
  intro us kv H s z I hk _ _ _ hl hR;cases z;rw[List.forIn_nil];exact Ye ⟨kv,H,I,.rfl',hk,by simpa using hl,fun b _ o e=>e,hR⟩
 |cons x xs ih=>
  intro us kv H s z I hk hz v ht hl hR;cases us with
  |nil=>cases z
  |cons u us=>
  obtain⟨rx,rs⟩:WI x u/\WD xs us:=by cases z with|cons a b=>exact⟨a,b⟩
  clear z;rw[UA];rw[List.length_cons]at hz hl;obtain⟨p,hp⟩:∃p,c[kv.length]?=some p:=⟨_,Y6 (by lia)⟩;refine Y1 (YF (hbd u s (fun s'=>∃H' i,Wx X pins σ H' s'/\JH H H'/\H' kS=some (.lst (kv++[i]))/\RA H' i p/\∀b,b≠kS->∀o,H b=some o->H' b=some o) ?_) (fun r s' hr'=>?_) fun _ _ e=>e)
  .refine YF (dY v S hbind hb rx I hfn hr hA (ht 0 x p rfl (by simpa using hp) H .rfl')) (fun k1 s1 hc=>?_) fun _ _ e=>e
   obtain⟨i,H1,z1,z2,z3,z4,z5,sm,ra⟩:=hc;obtain⟨g,H1',I1,rk,rfl,rfl⟩:∃g H1',Wx X pins σ H1' s1/\WI g k1/\g=i/\H1'=H1:=I.after (Q:=fun a b=>a=i/\b=H1) ⟨i,H1,z1,z2,z3,z4,z5,rfl,rfl⟩;have l:=sm _ _ hk;obtain⟨hz1,its,n,r1,l1,d⟩:=I1.lstM l;refine U5 d rfl ?_ (by rw[Yd,Ym];lia) (by rw[Array.size_push,Yd,Ym];lia);have I2:=I1.lset (ys:=kv++[g]) (its':=its++[k1]) (f:=(·.push k1)) (t':=s1.toks) l d (by simp) (WD.append r1 (.cons rk .nil)) (by rw[List.length_append,Ym];simp;lia);exact⟨_,g,I2,sm.keepT.trans (AH l),Jn,mono (AH l) ra,fun b hb o e=>by rw[WM hb];exact sm b o e⟩
  .obtain⟨rfl,H',i,I',kp,hk',ra,kb⟩:=hr';show wpAny (model X.prog X.w) A (forIn us PUnit.unit bd) _ E s';refine YF (ih us (kv++[i]) H' s' rs I' hk' (by simp;lia) (v.keepT kp) (fun j x' p' d e2 G hG=>ht (j+ 1) x' p' d (by rw[<-e2];congr 1;simp;lia) G (kp.trans hG)) (by simp;lia) fun j v' p' d e2=>?_) (fun _ s'' h=>?_) fun _ _ e=>e
   .rw[Xy]at d
    split at d
    .exact mono kp (hR j v' p' d e2)
    .rename_i hj
     have hj2:j=kv.length:=by
      have:=(Y4.mp d).1;simp at this;lia
     subst hj2;rw[VH]at d;cases d;rw[hp]at e2;cases e2;exact ra
   .obtain⟨kv',H'',a1,a2,a3,a4,a5,a6⟩:=h;exact⟨kv',H'',a1,kp.trans a2,a3,a4,fun b hb o e=>a5 b hb o (kb b hb o e),a6⟩
theorem SH{ks vs:Wq}(hl:ks.length=vs.length):Array.map (fun x:Keyed=>x.2) (ks.toArray.zip vs.toArray)=List.toArray ((List.range vs.length).map fun i=>vs.getD i Value.none):=by
 apply VF.mp;rw[Array.toList_map,Array.toList_zip];show List.map Prod.snd (List.zip ks vs)=_;rw[List.map_snd_zip (by lia)];exact(Pf vs).symm
theorem xA{D kS:Wo}{e1:Nat}{vs ks:Wq}{xs kv:List V}{H:Hp}{s:Wi}{κ:SortKind}{n':Nat}{P:PySem.Fin->Shared->Prop}(I:Wx X pins σ H s)(hD:H D=some (.frz (seqObj "list" #[] e1) HT))(n4:∀o u,X.H₀ D≠some (.frz o u))(hne:kS≠D)
  (hk:H kS=some (.lst kv)) (ek:s.heap.get? kS=some (seqObj "list" ks.toArray n')) (hkl:ks.length=vs.length) (rv:WD xs vs) (hz:vs.length <=100000) (hu:A.units < cLine)
  (S:GD X.prog X.w s.heap O (fun i=>c.getD i d) κ ks)
  (h:∀ (p:List Nat) s' H',p.Perm (List.range xs.length)->p.Pairwise (Pc O fun i=>c.getD i d)->Wx X pins σ H' s'->H' D=some (.lst (p.map fun i=>xs.getD i .non))->(∀b,b≠kS->b≠D->∀o,H b=some o->H' b=some o)->P (.done (.ret .none)) s'):
  wpAny (model X.prog X.w) A (ksk_end D false vs.toArray e1 (.ref kS) ks.toArray) P E s:=by
 have aa:xs.length=vs.length:=rv.length;have g:∀ (p:List Nat) (st:SortSt),p.Perm (List.range vs.length)->p.Pairwise (Pc O fun i=>c.getD i d)->(arrOf st).map (·.2)=List.toArray (p.map fun i=>vs.getD i Value.none)->failedOf st=none->wpAny (model X.prog X.w) A (ksk_tail D false e1 (.ref kS) st) P E s:=fun p st pm r v hf=>by
  have hb:∀i∈p,i < xs.length:=fun i hi=>by have:=pm.mem_iff.mp hi;simp at this;lia
  have pl:p.length=vs.length:=by rw[pm.length_eq,YB]
  unfold ksk_tail;dsimp only;rw[v];refine Y1 (U5 ek rfl ?_ (by rw[Yd,Ym];lia) (Yy _));have I1:=I.lset (l:=kS) (ys:=[]) (its':=[]) (f:=fun _=>#[]) (t':=s.toks) hk ek rfl .nil (Yy _);refine Y1 (wpAny_letGo ?_);have q:upd H kS (.lst []) D=some (.frz (seqObj "list" #[] e1) HT):=by rw[WM (Ne.symm hne)];exact hD
  have n:=I1.hok.frz q;refine Y1 (Vj n rfl ?_);have I2:=I1.retag (u1:=.lst []) q (fun _ z=>by cases z) (fun _ z=>by cases z) (fun _ z=>by cases z) n4 ⟨Yy _,[],e1,.nil,n⟩;refine Y1 (U5 n rfl ?_ (Yy _) (by simp only[Bool.false_eq_true,if_false];rw[Yd,Y0,pl,Ym];lia));have I3:=I2.lset (l:=D) (ys:=p.map fun i=>xs.getD i .non) (its':=p.map fun i=>vs.getD i Value.none) (f:=fun _=>List.toArray (p.map fun i=>vs.getD i Value.none)) (t':=s.toks) Jn n rfl (FS rv p hb) (by rw[Y0,pl,Ym];lia);rw[hf];simp only[Vw,Bool.false_eq_true,if_false];exact Ye (h p _ _ (by rw[aa];exact pm) r I3 Jn fun b h1 h2 o e=>by rw[WM h2,WM h2,WM h1];exact e)
 unfold ksk_end;simp only[Bool.false_eq_true,if_false]
 by_cases h2:vs.toArray.size < 2
 .rw[Y3 h2,Y3 h2];refine Y1 (Ye ?_);rw[StateT.run_pure];refine Y1 (Ye ?_);refine g (List.range vs.length) _ (.refl _) ?_ (SH hkl) rfl;rw[Yd]at h2;rcases hv:vs.length with _|_|m
  .exact .nil
  .exact Xa _ _
  .lia
 .rw[Y2 h2,Y2 h2];rw[Yd]at h2;refine Y1 (YF (S.kind A s (fun κ' s'=>κ'=κ/\s'=s) (fun _ _ z=>z) (by lia) ⟨rfl,rfl⟩) ?_ fun _ _ x=>x.elim);rintro _ _ ⟨rfl,rfl⟩;refine Y1 (YF (mO (Q:=fun a s'=>∃p:List Nat,s'=_/\arrOf a=p.toArray.map (kas_item (ks.toArray.zip vs.toArray))/\failedOf a=none/\p.Perm (List.range vs.length)/\p.Pairwise (Pc O fun i=>c.getD i d)) hkl (by lia) (fun i j C' hi hj hC=>S.cmp A _ i j C' hu (fun _ _ z=>z) (by lia) (by lia) hC) fun p a a1 a2 a3 a4=>⟨p,rfl,a1,a2,a3,a4⟩) ?_ fun _ _ e=>e);rintro⟨⟨⟩,a⟩ s' ⟨p,rfl,har,hf,pm,r⟩;exact g p a pm r (by rw[kat_snds hkl har]) hf
end
section
variable{X:Cx}{q:Str}{params:Arguments}{body:Ws}{scope:Scope}{f:Wo}{y:Str}{N':List Str}{caps:List (Option Nat)}{te:TE}{k:Nat}{σ:St}{pins:Wg}{A:Wk}{E:We}{O:KeyOrd}{d:O.α}{RA:Hp->V->O.α->Prop}{RV:Heap->Value->O.α->Prop}{κ:SortKind}{c:List O.α}
theorem xY{D:Wo}{n:Nat}{xs:List V}{vs:Wq}{H:Hp}{s:Wi}{P:PySem.Fin->Shared->Prop}(I:Wx X pins σ H s)(hD:H D=some (.lst xs))(n4:X.s₀.heap.objs.size <=D)(eD:s.heap.get? D=some (seqObj "list" vs.toArray n))(rv:WD xs vs)(hz:xs.length <=100000)
  (v:M9 X q params body scope H f) (S:Eo X y N' scope caps) (hbind:∀cl pm cv ctv u,bindArgs (W.kla_fn "<lambda>" q params body scope cl pm cv ctv) ⟨[u],[]⟩=pure [(y,u)])
  (hb:∀ (f c':Wo) (cl:List (Str×Addr)) (A:Wk) (outer:List Env) (s:Wi) (H:Hp) (E:XK),Room k (A.deeper (W.envX q scope s.heap.objs.size f (.ref c') cl))->PE (Rm X.prog X.w X.K X.mg X.base (y::N') q scope f (.ref c') cl A outer s H E) body te)
  (hfn:∀x,X.fn x=true) (hr:Room (k+ 1) A) (hA:A.frames=X.A.frames) (mono:∀{G G' v p},JH G G'->RA G v p->RA G' v p)
  (hv:∀{s H x v p},Wx X pins σ H s->WI x v->RA H x p->RV s.heap v p)
  (ask:∀{vs:Wq} {c:List O.α} {h:Wr},(∀ (i:Nat) v p,vs[i]?=some v->c[i]?=some p->RV h v p)->vs.length=c.length->GD X.prog X.w h O (fun i=>c.getD i d) κ vs)
  (hc:xs.length=c.length) (ht:∀ (j:Nat) x p,xs[j]?=some x->c[j]?=some p->∀G,JH H G->te (some x::Jj caps σ) G (fun v G'=>Ww G G'/\RA G' v p))
  (h:∀ (p:List Nat) s' H',p.Perm (List.range xs.length)->p.Pairwise (Pc O fun i=>c.getD i d)->Wx X pins σ H' s'->H' D=some (.lst (p.map fun i=>xs.getD i .non))->(∀b,b≠D->∀o,H b=some o->H' b=some o)->P (.done (.ret .none)) s'):
  wpAny (model X.prog X.w) A (ksk_tree D (.ref f) false) P E s:=by
 have hlen:xs.length=vs.length:=rv.length;have hn4:∀o u,X.H₀ D≠some (.frz o u):=fun o u z=>by
  have:=I.base.frzs D o u z;rw[hD]at this;cases this
 unfold ksk_tree;refine Y1 (listItems_at eD rfl ?_);refine Y1 (U5 eD rfl ?_ (by rw[Yd,Ym];lia) (Yy _));have I1:=I.lset (l:=D) (ys:=[]) (its':=[]) (f:=fun _=>#[]) (t':=s.toks) hD eD rfl .nil (Yy _);obtain⟨a,eD1⟩:∃a,(s.heap.update D (Obj.mapSeq fun _=>#[])).get? D=some (seqObj "list" #[] a):=⟨_,get?_update_seq eD (fun _=>#[])⟩;refine Y1 (Vj eD1 rfl ?_);refine Y1 (VU ?_ (by show vs.length <=_;rw[Ym];lia));have I2:=I1.kept (h':=(s.heap.update D (Obj.mapSeq fun _=>#[])).push (seqObj "tuple" vs.toArray 0)) (t':=s.toks) (fun b u e=>Y7 _ e);refine Y1 (UP ?_ (Yy _));have I3:=I2.lnew (ys:=[]) (its:=[]) (t':=s.toks) .nil (Yy _);refine Xs ?_;obtain⟨kS,ab⟩:∃kS,kS=((s.heap.update D (Obj.mapSeq fun _=>#[])).push (seqObj "tuple" vs.toArray 0)).objs.size:=⟨_,rfl⟩;have g:upd H D (.lst []) kS=none:=by rw[ab];exact I2.fresh
 have r:kS≠D:=fun z=>by rw[z,Jn]at g;cases g
 have I3':Wx X pins σ (upd (upd H D (.lst [])) kS (.lst [])) {s with heap:=((s.heap.update D (Obj.mapSeq fun _=>#[])).push (seqObj "tuple" vs.toArray 0)).push (seqObj "list" #[] 0),toks:=s.toks}:=by rw[ab];exact I3
 have hD3:upd (upd H D (.lst [])) kS (.lst []) D=some (.lst []):=by rw[WM (Ne.symm r),Jn]
 have eD3:(((s.heap.update D (Obj.mapSeq fun _=>#[])).push (seqObj "tuple" vs.toArray 0)).push (seqObj "list" #[] 0)).get? D=some (seqObj "list" #[] a):=Y7 _ (Y7 _ eD1);have I4:=I3'.retag (u1:=.frz (seqObj "list" #[] a) HT) hD3 (fun _ z=>by cases z) (fun _ z=>by cases z) (fun _ z=>by cases z) hn4 (HT.ok eD3);have kp:JH H (upd (upd (upd H D (.lst [])) kS (.lst [])) D (.frz (seqObj "list" #[] a) HT)):=((AH hD).trans (TZ g).keepT).trans (AH hD3);have sb:∀b,b≠D->∀o,H b=some o->upd (upd (upd H D (.lst [])) kS (.lst [])) D (.frz (seqObj "list" #[] a) HT) b=some o:=fun b hb o e=>by
  have e2:upd H D (.lst []) b=some o:=by rw[WM hb];exact e
  rw[WM hb];exact TZ g b o e2
 show wpAny (model X.prog X.w) A (ksk_rest D (.ref f) false vs.toArray a (.ref ((s.heap.update D (Obj.mapSeq fun _=>#[])).push (seqObj "tuple" vs.toArray 0)).objs.size)) P E {s with heap:=((s.heap.update D (Obj.mapSeq fun _=>#[])).push (seqObj "tuple" vs.toArray 0)).push (seqObj "list" #[] 0),toks:=s.toks};rw[<-ab];unfold ksk_rest;refine Y1 (XV ?_)
 first
  |rw[List.forIn_toArray]
  |(rw[<-Array.forIn_toList];simp only[W6])
 refine Y1 (YF (wV (E:=E) (kS:=kS) (c:=c) (RA:=RA) S hbind hb hfn hr hA mono (fun u s R hx=>?_) xs vs [] _ _ rv I4 (by rw[WM r,Jn]) (by simpa using hz) (v.keepT kp) (fun j x p a e2 G hG=>ht j x p a (by simpa using e2) G (kp.trans hG)) (by simpa using hc) (fun j v p e=>by simp at e)) (fun _ s' hd=>?_) fun _ _ x=>x)
 .refine Y1 (Uy (YF hx (fun k s'' hk=>?_) fun _ _ hF=>hF.elim));exact Y1 (YF hk (fun _ s3 z=>Ye ⟨rfl,z⟩) fun _ _ x=>x.elim)
 .obtain⟨aa,H',I5,k5,hk5,l5,b5,ra5⟩:=hd;obtain⟨hz5,ks,n5,r5,lk5,ek5⟩:=I5.lstM hk5;refine Y1 (listItems_at ek5 rfl ?_);have hD5:=b5 D (Ne.symm r) _ Jn;refine xA (kv:=aa) (xs:=xs) (c:=c) (d:=d) (κ:=κ) I5 hD5 hn4 r hk5 ek5 (by lia) rv (by lia) (by have:=hr.un;lia) (ask (fun i v p a e2=>?_) (by lia)) fun p s6 H6 a1 a2 a3 a4 a5=>h p s6 H6 a1 a2 a3 a4 fun b hb o e=>?_
  .have hi:i < aa.length:=by have:=(Y4.mp a).1;lia
   obtain⟨u,hu,ru⟩:=r5.get (i:=i) (x:=aa[i]) (Y6 hi);rw[a]at hu;cases hu;exact hv I5 ru (ra5 i _ p (Y6 hi) e2)
  .by_cases hbk:b=kS
   .subst hbk;have:upd H D (.lst []) b=some o:=by rw[WM hb];exact e
    rw[g]at this;cases this
   .exact a5 b hbk hb o (b5 b hbk o (sb b hb o e))
end
section
variable{X:Cx}{K:Wm}{q:Str}{params:Arguments}{body:Ws}{scope:Scope}{y:Str}{N':List Str}{caps:List (Option Nat)}{te:TE}{k:Nat}{O:KeyOrd}{d:O.α}{RA:Hp->V->O.α->Prop}{RV:Heap->Value->O.α->Prop}{κ:SortKind}{c0 P:Wo}
def K7(K:Wm)(P:Wo)(q:Str)(caps:List (Option Nat))(te:TE)(O:KeyOrd)(d:O.α)(RA:Hp->V->O.α->Prop)(σ:St)(Q:VK)(x:V)(H1:Hp):Prop:=TK H1 P q/\∀f G0,H1 f=none->Jh P H1 G0->TK G0 P q->∃ (p:Wo) (xs:List V) (c:List O.α),x= .ref p/\WB K G0 p xs/\xs.length=c.length/\xs.length <=100000/\
 (∀ (j:Nat) x p,xs[j]?=some x->c[j]?=some p->∀G,JH G0 G->te (some x::Jj caps σ) G (fun v G'=>Ww G G'/\RA G' v p))/\
 ∀ (r:List Nat) l G,r.Perm (List.range xs.length)->r.Pairwise (Pc O fun i=>c.getD i d)->G0 l=none->Ww G0 G->G l=some (.lst (r.map fun i=>xs.getD i .non))->Q (.ref l) G
def Cw(K:Wm)(P:Wo)(q:Str)(caps:List (Option Nat))(te:TE)(O:KeyOrd)(d:O.α)(RA:Hp->V->O.α->Prop)(ta:TE):TE:=fun σ H Q=>ta σ H fun x H1=>K7 K P q caps te O d RA σ Q x H1
theorem j0{e:Ws}{ta:TE}{x:Str}{p pos kp lpos:Pos}(h:X.K=K)(hg:Gl X x)(hm:X.mg x=none)(hv0:bootBuiltins x=some (.builtin "sorted"))(ha:PE X e ta)(lc:Gp X.mg X.base c0 P)(hcode:X.env.code= .ref c0)(hq:X.env.qual++"<lambda>"=q)
  (S:Eo X y N' scope caps) (hdef:defaultsOf params X.env=([],[])) (hbind:∀cl pm cv ctv u,bindArgs (W.kla_fn "<lambda>" q params body scope cl pm cv ctv) ⟨[u],[]⟩=pure [(y,u)])
  (hb:∀ (f c':Wo) (cl:List (Str×Addr)) (A:Wk) (outer:List Env) (s:Wi) (H:Hp) (E:XK),Room k (A.deeper (W.envX q scope s.heap.objs.size f (.ref c') cl))->PE (Rm X.prog X.w X.K X.mg X.base (y::N') q scope f (.ref c') cl A outer s H E) body te)
  (hfn:∀x,X.fn x=true) (hr:Room (k+ 3) X.A) (mono:∀{G G' v p},JH G G'->RA G v p->RA G' v p)
  (hv:∀{pins σ s H x v p},Wx X pins σ H s->WI x v->RA H x p->RV s.heap v p)
  (ask:∀{vs:Wq} {c:List O.α} {h:Wr},(∀ (i:Nat) v p,vs[i]?=some v->c[i]?=some p->RV h v p)->vs.length=c.length->GD X.prog X.w h O (fun i=>c.getD i d) κ vs)
  (hn:x≠"__name__":=by decide) (hdb:(x==("__debug__":Str))=false:=by decide)
  (he:backTo pos (starEach [e] X.env)=(false,eval e X.env)::backTo pos (starEach [] X.env):=by rfl) (hs:starEach [e] X.env=(false,eval e X.env)::starEach [] X.env:=by rfl)
  (hpl:(backTo pos (starEach [e] X.env)).any (·.1)=false:=by rfl):
  PE X (.Call (.Name x p) [e] [⟨some "key",.Lambda params body scope lpos,kp⟩] pos) (Cw K P q caps te O d RA ta):=by
 subst h;intro pins s σ H Q I h;refine XI (RM I hg hm hv0 ?_ hn hdb);have h':DA ta R7 σ H (fun vs H1=>match vs with|[x]=>K7 X.K P q caps te O d RA σ Q x H1|_=>False):=h;refine callWith_kw (WZ (JM ha Wy hs pos pins s σ H _ I h') fun us s1 ⟨vs,H1,I1,r,a⟩=>?_) he hpl;cases r with
 |nil=>exact False.elim a
 |cons ru rr=>
 cases rr with
 |cons _ _=>exact False.elim a
 |nil=>
 rename_i x0 u0 hap
 have a:K7 X.K P q caps te O d RA σ Q x0 H1:=a;obtain⟨tb,a⟩:=a;have hl:DA (Q6 X P q params body scope) R7 σ H1 (fun zs H2=>∃f,zs=[.ref f]/\H1 f=none/\Jh P H1 H2/\TK H2 P q/\M9 X q params body scope H2 f):=⟨tb,fun f G a1 a2 a3 a4=>⟨f,rfl,a1,a2,a3,a4⟩⟩;refine WZ (OE (j6 lc hcode hq S.vis hdef) Qa pos pins s1 σ H1 _ I1 hl) fun ws s2 ⟨zs,H2,I2,rz,q2⟩=>?_
 obtain⟨f,rfl,f1,f2,f3,v⟩:=q2;obtain⟨p,xs,c,rfl,hx,hc,hz,ht,hQ⟩:=a f H2 f1 f2 f3;obtain⟨w,rfl,rw⟩:=DM rz;cases ru;cases rw;obtain⟨vs,rv,pl,hz2⟩:=I2.list hx;have hlen:xs.length=vs.length:=rv.length;show wpAny (model X.prog X.w) X.A (call (.builtin "sorted") [.ref p] [(Str.ofString "key",.ref f)]) (EP X pins σ Q) X.xe s2;refine call_function_entry_kw kind_sorted plain_sorted entry_sorted (ksk_s1 _ _) ?_;unfold Builtin.«sorted»;refine Y1 (m:=checkCount "sorted" 1 1 _) (Ye ?_);refine Y1 (collect_list pl.isList ?_ (by rw[Ym];omega));refine Y1 (UP ?_ (by rw[Ym];omega));obtain⟨h1,n⟩:∃h1,h1=(s2.heap.push (seqObj "list" #[] 0)).update s2.heap.objs.size (Obj.mapSeq (·++vs.toArray)):=⟨_,rfl⟩;have kp1:∀b o,s2.heap.get? b=some o->h1.get? b=some o:=fun b o e=>by
  have l:b < s2.heap.objs.size:=Yk e;rw[n,Vd _ _ _ _ (Yr l),XB _ _ _ (Yr l)];exact e
 have I3:=I2.kept (h':=h1) (t':=s2.toks) kp1;have I4:=I3.lnew (ys:=xs) (its:=vs) (t':=s2.toks) rv hz2;have g:H2 h1.objs.size=none:=I3.fresh;rw[<-n];refine Y1 (Xs (wpAny_call_entry_kw slot_list_sort ⟨_,Yl _ rfl,rfl⟩ entry_list_sort ?body (ksk_l1 _ _)))
 case body=>
  show wpAny (model X.prog X.w) X.A.in1.in1 (Builtin.«list.sort» ⟨[.ref h1.objs.size],[(Str.ofString "key",.ref f)]⟩) _ _ _;rw[ksk_t1];refine xY (RA:=RA) (RV:=RV) (κ:=κ) (c:=c) (d:=d) I4 Jn (YH I3.sz (Y5 _)) (Yl _ rfl) rv hz (v.keepT (TZ g).keepT) S hbind hb hfn (by have:=hr.in1.in1;exact this) rfl mono (fun I r x=>hv I r x) ask hc (fun j x p e1 e2 G hG=>ht j x p e1 e2 G ((TZ g).keepT.trans hG)) fun r s' H' a1 a2 a3 a4 a5=>⟨_,rfl,?_⟩
  have fb:∀b o,H2 b=some o->H' b=some o:=fun b o e=>by
   have hb:b≠h1.objs.size:=fun z=>by rw[z,g]at e;cases e
   exact a5 b hb o (by rw[WM hb];exact e)
  exact Ye ⟨_,rfl,.ref h1.objs.size,H',a3,rfl,hQ r _ H' a1 a2 g fb a4⟩
end
theorem MG.u{prog:Wh}{w:Wl}{h:Wr}{O:KeyOrd}{key:Nat->O.α}{κ:SortKind}{vs:Wq}(S:MG prog w h O key κ vs):GD prog w h O key κ vs:=⟨S.kind,fun A s i j C _ k hi a b=>S.cmp A s i j C k hi a b⟩
def DB(K:Wm):Hp->V->Int×Int->Prop:=fun H x p=>∃t,x= .ref t/\H t=some (.tup [.int p.1,.int p.2])
theorem DB.mono{K:Wm}{G G':Hp}{v:V}{p:Int×Int}(k:JH G G')(h:DB K G v p):DB K G' v p:=by
 obtain⟨t,e,a⟩:=h;exact⟨t,e,k _ _ a fun _ z=>by cases z⟩
theorem DB.val{X:Cx}{pins:Wg}{σ:St}{s:Wi}{H:Hp}{x:V}{v:Wn}{p:Int×Int}(I:Wx X pins σ H s)(r:WI x v)(h:DB X.K H x p):BD s.heap v p:=by
 obtain⟨t,rfl,d⟩:=h;cases r;obtain⟨e,r,c,_⟩:=I.tuple (JV.of d);cases r with
 |cons r1 r=>
  cases r with
  |cons r2 r=>
   cases r;obtain⟨b,rfl⟩:=(show ∃t,_=Value.int p.1 t from r1);obtain⟨a,rfl⟩:=(show ∃t,_=Value.int p.2 t from r2);exact⟨t,b,a,rfl,c⟩
section
variable{X:Cx}{K:Wm}{q:Str}{params:Arguments}{body:Ws}{scope:Scope}{y:Str}{N':List Str}{caps:List (Option Nat)}{te:TE}{k:Nat}{c0 P:Wo}
def Ht(K:Wm)(P:Wo)(q:Str)(caps:List (Option Nat))(te ta:TE):TE:=Cw K P q caps te AF (0,0) (DB K) ta
theorem uQ{e:Ws}{ta:TE}{x:Str}{p pos kp lpos:Pos}(h:X.K=K)(hg:Gl X x)(hm:X.mg x=none)(hv0:bootBuiltins x=some (.builtin "sorted"))(ha:PE X e ta)(lc:Gp X.mg X.base c0 P)(hcode:X.env.code= .ref c0)(hq:X.env.qual++"<lambda>"=q)
  (S:Eo X y N' scope caps) (hdef:defaultsOf params X.env=([],[])) (hbind:∀cl pm cv ctv u,bindArgs (W.kla_fn "<lambda>" q params body scope cl pm cv ctv) ⟨[u],[]⟩=pure [(y,u)])
  (hb:∀ (f c':Wo) (cl:List (Str×Addr)) (A:Wk) (outer:List Env) (s:Wi) (H:Hp) (E:XK),Room k (A.deeper (W.envX q scope s.heap.objs.size f (.ref c') cl))->PE (Rm X.prog X.w X.K X.mg X.base (y::N') q scope f (.ref c') cl A outer s H E) body te)
  (hfn:∀x,X.fn x=true) (hr:Room (k+ 3) X.A)
  (hn:x≠"__name__":=by decide) (hdb:(x==("__debug__":Str))=false:=by decide)
  (he:backTo pos (starEach [e] X.env)=(false,eval e X.env)::backTo pos (starEach [] X.env):=by rfl) (hs:starEach [e] X.env=(false,eval e X.env)::starEach [] X.env:=by rfl)
  (hpl:(backTo pos (starEach [e] X.env)).any (·.1)=false:=by rfl):
  PE X (.Call (.Name x p) [e] [⟨some "key",.Lambda params body scope lpos,kp⟩] pos) (Ht K P q caps te ta):=by
 subst h;exact j0 (RV:=BD) (O:=AF) rfl hg hm hv0 ha lc hcode hq S hdef hbind hb hfn hr (fun k h=>h.mono k) (fun I r h=>h.val I r) (fun a b=>(SG a b).u) hn hdb he hs hpl
end
end L2
namespace L2
open PySem PySem.Spec PyProof.Rows
def Zu(lo hi:Int)(r:Wo):Heap->Prop:=fun h=>∃t u v,IsRange h r lo hi 1 t u v
def F6(lo hi:Int)(r:Wo):HO:=.ext (Zu lo hi r)
section
variable{X:Cx}{K:Wm}
def IA(ta:TA):TE:=fun σ H Q=>ta σ H fun vs H1=>∃j:Int,vs=[.int j]/\∀r G,H1 r=none->Ww H1 G->G r=some (F6 0 j r)->Q (.ref r) G
theorem Zg{a:Ws}{ta:TA}{p pos:Pos}(hg:Gl X "range")(hm:X.mg "range"=none)(ha:PA X [a] ta)(hs:starEach [a] X.env=[(false,eval a X.env)]:=by rfl):PE X (.Call (.Name "range" p) [a] [] pos) (IA ta):=by
 intro pins s σ H Q I h;refine Call_ (RM I hg hm boot_range (XH (WZ (ha pos pins s σ H _ I h) fun i s1 ⟨vs,H1,d,f,g⟩=>?_) hs rfl));obtain⟨j,e,q⟩:=g;subst e;cases f with
 |cons r rr=>
  cases rr;obtain⟨t,rfl⟩:=r;refine call_range_1 ?_;have c:=d.hok.fresh (Y5 s1.heap.objs.size);refine⟨.ref s1.heap.objs.size,upd H1 s1.heap.objs.size (F6 0 j s1.heap.objs.size),d.laid (fun b o z=>Y7 _ z) (Y5 _) ⟨⟨_,_,_,IsRange.new ..⟩,⟨_,Yl _ rfl⟩,?_⟩,rfl,q _ _ c (TZ c) Jn⟩;rintro h1 h2 ⟨t,u,v,x⟩ k;exact⟨t,u,v,k _ x⟩
def FD:List V->Hp->VK->Prop:=fun as H Q=>∃ (r:Wo) (n:Nat),as=[.ref r]/\H r=some (F6 0 (n:Int) r)/\n <=100000/\∀l G,H l=none->Ww H G->G l=some (.lst ((List.range n).map fun i:Nat=>V.int (i:Int)))->Q (.ref l) G
theorem dM(hc:X.calm=true):WW X (.type "list") FD:=by
 intro pins s σ H xs us Q I r h;obtain⟨a,n,rfl,ha,hn,q⟩:=h;obtain⟨u,rfl,rx⟩:=DM r;cases rx;obtain⟨⟨t,u,v,l⟩,_⟩:=(show WO X.prog X.w H s.heap a (F6 0 (n:Int) a) from I.hok a _ ha);have f:Builtin.Range.rangeSize 0 (n:Int) 1=(n:Int):=by rw[rangeSize_one];split <;> lia
 refine call_list_range (I.ok.hd hc) l (small_one (by lia) (by lia) (by lia) (by lia)) f (by lia) fun h' tk c c' p hS b=>?_
 have g:=I.hok.fresh (Y5 s.heap.objs.size);have o:c.toList.length=n:=by rw[Array.length_toList];exact b.1
 refine⟨.ref s.heap.objs.size,upd H s.heap.objs.size (.lst ((List.range n).map fun i:Nat=>V.int (i:Int))),I.laid p (Y5 _) ⟨by rw[Y0,YB,Ym];lia,c.toList,c',O9 (by rw[Y0,YB];exact o) fun j v e=>?_,by simpa using hS⟩,rfl,q _ _ g (TZ g) Jn⟩;have z:j < n:=by have:=(Y4.mp e).1;lia
 obtain⟨d,rfl⟩:=b.2 j v (by rw[<-Array.getElem?_toList];exact e);refine⟨V.int (j:Int),by rw[Yc,XD z];rfl,?_⟩;exact⟨d,by simp⟩
end
section
variable{X:Cx}{pins:Wg}{σ:St}{H:Hp}{s:Wi}{d:Wo}
theorem Wx.freezeK{kvs:List (WU×V)}{o:Obj}(I:Wx X pins σ H s)(e:H d=some (.dK kvs))(ho:s.heap.get? d=some o):Wx X pins σ (upd H d (.frz o (.dK kvs))) s:=by
 refine I.retag e (fun _ z=>nomatch z) (fun _ z=>nomatch z) (fun _ z=>nomatch z) (fun o u z=>?_) ⟨ho,?_⟩
 .have:=I.base.frzs d o u z;rw[e]at this;cases this
 .exact(I.hok d _ e).stay (fun c v _ h=>h) (fun c h=>by rw[WM (Wv h e (fun z=>nomatch z))];exact h) fun c xs h=>by rw[WM (Wv h e (fun z=>nomatch z))];exact h
theorem Wx.thawK{kvs:List (WU×V)}{o:Obj}(I:Wx X pins σ H s)(e:H d=some (.frz o (.dK kvs)))(n4:∀o u,X.H₀ d≠some (.frz o u)):Wx X pins σ (upd H d (.dK kvs)) s:=by
 refine I.retag e (fun _ z=>nomatch z) (fun _ z=>nomatch z) (fun _ z=>nomatch z) n4 ?_;have h1:WO X.prog X.w H s.heap d (.dK kvs):=(I.hok d _ e).2;exact h1.stay (fun c v _ h=>h) (fun c h=>by rw[WM (Wv h e (fun z=>nomatch z))];exact h) fun c xs h=>by rw[WM (Wv h e (fun z=>nomatch z))];exact h
end
def Qr(d:Wo)(o:Obj)(kvs:List (WU×V)):It:=
 ⟨fun i H=>H d=some (.frz o (.dK kvs))/\i < kvs.length,fun i H x H'=>H'=H/\∃k v,x=kV k/\kvs[i]?=some (k,v),fun i H=>H d=some (.frz o (.dK kvs))/\kvs.length <=i⟩
theorem Pairs.at'{P:Wh}{w:Wl}:∀{es:List DictEntry} {vs:List (WU×Value)},Pairs (WY P w) es vs->∀{i:Nat} {e:DictEntry},es[i]?=some e->∃k v,vs[i]?=some (k,v)/\WI (kV k) e.key:=by
 intro es vs r
 induction r with
 |nil=>intro i x h;simp at h
 |@cons e kv es kvs h1 h2 t ih=>
  intro i x h;cases i with
  |zero=>
   simp only[List.getElem?_cons_zero,Option.some.injEq]at h;subst h;exact⟨kv.1,kv.2,rfl,d4 h1⟩
  |succ i=>exact ih (by simpa using h)
theorem KV.at'{kvs:List (WU×V)}{vs:List (WU×Value)}(r:KV kvs vs){i:Nat}{k:WU}{v:Wn}(h:vs[i]?=some (k,v)):∃u,kvs[i]?=some (k,u):=by
 have e:(vs.map (·.1))[i]?=some k:=by rw[Yc,h];rfl
 rw[<-r.keys,Yc]at e;cases e3:kvs[i]? with
 |none=>rw[e3]at e;cases e
 |some p=>
  rw[e3]at e;have:p.1=k:=by simpa using e
  exact⟨p.2,by rw[<-this]⟩
theorem nD{P:Wh}{w:Wl}{K:Wm}{tg:Ws}{o:Obj}{kvs:List (WU×V)}{es:Array DictEntry}{ep:Nat}(d it:Wo)(hdat:o.data= .dict es ep)(hsz:es.size=kvs.length):R3 P w K tg (Qr d o kvs) [it] it (fun i h=>h.IsKeyIter it d i es.size ep) where
 mem:=by simp
 obj:=fun i h st b a=>by
  have e:b=it:=by simpa using a
  subst e;obtain⟨o,e,c,d⟩:=st;exact⟨o,e,fun v z=>by rw[d]at z;cases z⟩
 keep:=fun i h h' st k=>by
  obtain⟨n,e,r⟩:=st;exact⟨n,k it (by simp) n e,r⟩
 item:=by
  intro X hP p hK hc i pins s σ H E I g st q;subst hP p hK;obtain⟨hF,hi⟩:=q;obtain⟨f0,f1,f2,f3,f4,f5⟩:=g it (by simp);obtain⟨f,hob⟩:=(show s.heap.get? d=some o/\WO X.prog X.w H s.heap d (.dK kvs) from I.hok d _ hF);obtain⟨z,y,vs,rel,o',es',ep',q1,q2,q3,q4,q5,q6⟩:=hob;rw[f]at q1;cases q1;rw[hdat]at q3;cases q3;have l:i < es.size:=by lia
  refine FZ st f hdat l fun h' j sb=>?_
  have I1:Wx X pins σ H {s with heap:=h'}:=I.turned (t':=s.toks) (fun b o a e=>(sb.2 b a).trans e) f0 f1 f3 f4 f5;obtain⟨n,e,c,dd⟩:=id j;obtain⟨k,v,hk,hr⟩:=Pairs.at' q5 (i:=i) (e:=es[i]) (by rw[Array.getElem?_toList,XW l]);obtain⟨u,hu⟩:=rel.at' hk;exact⟨_,rfl,ES (s:={s with heap:=h'}) e c dd (by decide) ⟨kV k,H,I1,hr,⟨rfl,k,u,rfl,hu⟩,j,fun b a=>(g b a).1⟩⟩
 done:=by
  intro X hP p hK hc i pins s σ H E I g st q;subst hP p hK;obtain⟨hF,hi⟩:=q;obtain⟨f0,f1,f2,f3,f4,f5⟩:=g it (by simp);have f:s.heap.get? d=some o:=(show s.heap.get? d=some o/\WO X.prog X.w H s.heap d (.dK kvs) from I.hok d _ hF).1;exact K3 (I.ok.hd hc) st f hdat (by lia) fun h' eb=>⟨rfl,I.turned (t':=s.toks) (fun b o a e=>eb b o a e) f0 f1 f3 f4 f5⟩
 self:=fun A i s Q E st h=>by
  exact V6 st h
section
variable{X:Cx}{K:Wm}
def QC(td:TE):TI:=fun σ H R=>td σ H fun x H1=>∃a kvs,x= .ref a/\H1 a=some (.dK kvs)/\∀o,R (Qr a o kvs) (upd H1 a (.frz o (.dK kvs)))
theorem gC{tg e:Ws}{td:TE}(hl:PE X e td):PI X tg e (QC td):=by
 intro pins s σ H R I h;refine WZ (hl pins s σ H _ I h) fun v s1 ⟨x,H1,j,l,a,kvs,ex,i,q⟩=>?_
 subst ex;cases l;obtain⟨z,y,vs,d,o,es,ep,g,p,f,q4,n,q6⟩:=LI j.hok i;have r:kvs.length=vs.length:=d.length;have aa:es.size=vs.length:=by rw[<-Array.length_toList];exact n.length
 refine L1 y g p f ?_;have c:=j.freezeK i g;refine⟨s1.heap.objs.size,[s1.heap.objs.size],_,_,_,rfl,c.kept (t':=s1.toks) fun b o e=>Y7 _ e,nD a _ f (by lia),⟨_,Yl _ rfl,rfl,rfl⟩,fun b w=>?_,q o⟩;have e:b=s1.heap.objs.size:=by simpa using w
 subst e;exact c.fpOk (Y5 _) (c.hok.fresh (Y5 _))
def PX(t:TE):TE:=fun σ H Q=>∃d kvs,H d=some (.dK kvs)/\t σ H fun v H'=>∃o,H' d=some (.frz o (.dK kvs))/\Q v (upd H' d (.dK kvs))
theorem yK{e:Ws}{t:TE}(h:PE X e t):PE X e (PX t):=by
 intro pins s σ H Q I a;obtain⟨d,kvs,f,a⟩:=a;have b:∀o u,X.H₀ d≠some (.frz o u):=fun o u z=>by have:=I.base.frzs d o u z;rw[f]at this;cases this
 exact WZ (h pins s σ H _ I a) fun u s1 ⟨v,H1,g,r,o,c,q⟩=>⟨v,_,g.thawK c b,r,q⟩
end
section
variable{caps:List (Option Nat)}{g:TG}{tc:TT}{te td:TE}{d:Wo}{kvs:List (WU×V)}{σ:St}{H:Hp}{Q:VK}
theorem n7(hd:H d=some (.dK kvs))(htd:∀R:VK,R (.ref d) H->td σ H R)(Pv:Nat->List V->St->Prop)(h0:Pv 0 [] (Jj caps σ))(hl:∀i ys σ',Pv i ys σ'->ys.length <=i)(hz:kvs.length <=100000)
  (hs:∀Hf,(∀c,c≠d->Hf c=H c)->∀i k v ys σ',kvs[i]?=some (k,v)->Pv i ys σ'->g (kV k) σ' Hf fun σ2 H2=>tc σ2 H2 fun c H3=>if c=true then te σ2 H3 fun y H4=>Pv (i+ 1) (ys++[y]) σ2/\H4=Hf else Pv (i+ 1) ys σ2/\H3=Hf)
  (he:∀ys σ',Pv kvs.length ys σ'->∀p G,H p=none->Ww H G->G p=some (.lst ys)->Q (.ref p) G):PX (Ri caps (QC td) g tc te) σ H Q:=by
 refine⟨d,kvs,hd,htd _ ⟨d,kvs,rfl,hd,fun o=>?_⟩⟩;obtain⟨Hf,l⟩:∃Hf,Hf=upd H d (.frz o (.dK kvs)):=⟨_,rfl⟩;rw[<-l];have b:Hf d=some (.frz o (.dK kvs)):=by rw[l,Jn]
 have h:∀c,c≠d->Hf c=H c:=fun c f=>by rw[l,WM f]
 refine⟨fun i m ys σ' H'=>m=kvs.length - i/\i <=kvs.length/\Pv i ys σ'/\H'=Hf,⟨kvs.length,by simp,Yy _,h0,rfl⟩,?_⟩;rintro i m ys σ' H' ⟨rfl,hi,p,rfl⟩;have r:=hl i ys σ' p
 by_cases hlt:i < kvs.length
 .refine .inr ⟨⟨b,hlt⟩,Yg (Xv (Yg r hlt)) (DV hz),fun n σ2 H2=>Pv (i+ 1) n σ2/\H2=H',fun n σ2 H2 q=>⟨kvs.length - (i+ 1),by lia,rfl,hlt,q⟩,fun x H2 y=>?_⟩;obtain⟨e,k,v,ex,s⟩:=y;subst e ex;exact hs H2 h i k v ys σ' s p
 .have e:i=kvs.length:=by lia
  subst e;refine .inl ⟨⟨b,Y5 _⟩,Ny (YH r hz),fun j a=>⟨o,?_,he ys σ' p j _ ?_ (fun c u e=>?_) ?_⟩⟩
  .have:d≠j:=fun z=>by rw[<-z,b]at a;cases a
   rw[WM this];exact b
  .have:j≠d:=fun z=>by rw[z,b]at a;cases a
   rw[<-h j this];exact a
  .by_cases f:c=d
   .rw[f,hd]at e;rw[f,Jn];exact e
   .have:c≠j:=fun z=>by rw[<-z,h c f]at a;rw[a]at e;cases e
    rw[WM f,WM this,h c f];exact e
  .have:j≠d:=fun z=>by rw[z,b]at a;cases a
   rw[WM this,Jn]
end
end L2
namespace L2
open PySem PySem.Spec PyProof.Rows PySem.W
def mI(x:V)(Q:Int->Prop):Prop:=match x with| .int i=>Q i|_=>False
def mB(x:V)(Q:Bool->Prop):Prop:=match x with| .bl i=>Q i|_=>False
def mR(x:V)(Q:Addr->Prop):Prop:=match x with| .ref i=>Q i|_=>False
def mV(x:Option (Option V))(Q:V->Prop):Prop:=match x with|some (some v)=>Q v|_=>False
def mA(x:List V)(Q:V->Prop):Prop:=match x with|[v]=>Q v|_=>False
def mC(c:Bool)(A B:Prop):Prop:=if c=true then A else B
theorem SM(A B:Prop):mC true A B=A:=rfl
theorem y4(A B:Prop):mC false A B=B:=rfl
theorem wK(c:TT)(t u:TS)(D:T5)(σ:St)(H:Hp):FL c t u D σ H=c σ H fun b H1=>mC b (t D σ H1) (u D σ H1):=rfl
theorem mN(t u:TT)(σ:St)(H:Hp)(Q:Bool->Hp->Prop):KW t u σ H Q=t σ H fun c H1=>mC c (u σ H1 Q) (Q false H1):=rfl
theorem QZ(t u:TT)(σ:St)(H:Hp)(Q:Bool->Hp->Prop):Fw t u σ H Q=t σ H fun c H1=>mC c (Q true H1) (u σ H1 Q):=rfl
theorem ZG(t:TT)(ta tb:TE)(σ:St)(H:Hp)(Q:VK):L9 t ta tb σ H Q=t σ H fun c H1=>mC c (ta σ H1 Q) (tb σ H1 Q):=rfl
theorem Hw(i:Int)(Q:Int->Prop):mI (.int i) Q=Q i:=rfl
theorem IK(i:Bool)(Q:Bool->Prop):mB (.bl i) Q=Q i:=rfl
theorem OI(i:Wo)(Q:Addr->Prop):mR (.ref i) Q=Q i:=rfl
theorem Hx(v:V)(Q:V->Prop):mV (some (some v)) Q=Q v:=rfl
theorem QS(v:V)(Q:V->Prop):mA [v] Q=Q v:=rfl
theorem RO(x:V)(Q:Int->Prop):mI x Q=∃i,x= .int i/\Q i:=propext ⟨fun h=>by cases x <;> first|exact⟨_,rfl,h⟩|exact h.elim,fun⟨_,e,h⟩=>by subst e;exact h⟩
theorem CG(x:V)(Q:Bool->Prop):mB x Q=∃i,x= .bl i/\Q i:=propext ⟨fun h=>by cases x <;> first|exact⟨_,rfl,h⟩|exact h.elim,fun⟨_,e,h⟩=>by subst e;exact h⟩
theorem Dr(x:V)(Q:Addr->Prop):mR x Q=∃i,x= .ref i/\Q i:=propext ⟨fun h=>by cases x <;> first|exact⟨_,rfl,h⟩|exact h.elim,fun⟨_,e,h⟩=>by subst e;exact h⟩
theorem Ot(x:Option (Option V))(Q:V->Prop):mV x Q=∃v,x=some (some v)/\Q v:=propext ⟨fun h=>by rcases x with _|_|v <;> first|exact⟨_,rfl,h⟩|exact h.elim,fun⟨_,e,h⟩=>by subst e;exact h⟩
theorem EA(x:List V)(Q:V->Prop):mA x Q=∃v,x=[v]/\Q v:=propext ⟨fun h=>by rcases x with _|⟨v,_|⟨u,l⟩⟩ <;> first|exact⟨_,rfl,h⟩|exact h.elim,fun⟨_,e,h⟩=>by subst e;exact h⟩
section
variable{X:Cx}{K:Wm}
def En(i:Nat):TE:=fun σ H Q=>mV σ[i]? fun v=>Q v H
theorem Wu(i:Nat){x:Str}{pos:Pos}(hN:X.N[i]?=some x:=by rfl)(hv:BJ X.env.scope x:=by first|exact Or.inl rfl|exact Or.inr (Or.inl rfl)|exact Or.inr (Or.inr rfl))(hd:(x==("__debug__":Str))=false:=by decide)(hcd:(x==("__classdict__":Str))=false:=by decide):PE X (.Name x pos) (En i):=
 fun pins s σ H Q I h=>pv i hN hv hd hcd pins s σ H Q I (by unfold En at h;rw[Ot]at h;exact h)
def F3(C:Int->Int->Prop)(g:Int->Int->V):R2:=fun x y H Q=>mI x fun i=>mI y fun j=>C i j/\Q (g i j) H
def Bg(g:Int->Int->V):R2:=fun x y H Q=>mI x fun i=>mI y fun j=>Q (g i j) H
theorem dI{f:Value->Value->Sem Value}{C:Int->Int->Prop}{g:Int->Int->V}(h:JA X f (rI C g)):JA X f (F3 C g):=h.imp fun x y H Q q=>by
 unfold F3 at q;simp only[RO]at q;obtain⟨i,e,j,a,q⟩:=q;exact⟨i,j,e,a,q⟩
theorem Nm{f:Value->Value->Sem Value}{g:Int->Int->V}(h:JA X f (Gw g)):JA X f (Bg g):=h.imp fun x y H Q q=>by
 unfold Bg at q;simp only[RO]at q;obtain⟨i,e,j,a,q⟩:=q;exact⟨i,j,e,a,q⟩
def Bc:R2:=fun x y H Q=>match x,y with
 | .int a,.int b=>MR (.int a) (.int b)=true/\Q (.bl (decide (a=b))) H
 | .str a,.str b=>MR (.str a) (.str b)=true/\Q (.bl (decide (a=b))) H
 |x,y=>MR x y=true/\Q (.bl (decide (x=y))) H
def BB:R2:=fun x y H Q=>match x,y with
 | .int a,.int b=>MR (.int a) (.int b)=true/\Q (.bl (!decide (a=b))) H
 | .str a,.str b=>MR (.str a) (.str b)=true/\Q (.bl (!decide (a=b))) H
 |x,y=>MR x y=true/\Q (.bl (!decide (x=y))) H
theorem QF(a b:Int)(H:Hp)(Q:VK):Bc (.int a) (.int b) H Q=(MR (.int a) (.int b)=true/\Q (.bl (decide (a=b))) H):=rfl
theorem Ob(a b:Str)(H:Hp)(Q:VK):Bc (.str a) (.str b) H Q=(MR (.str a) (.str b)=true/\Q (.bl (decide (a=b))) H):=rfl
theorem Of(a b:Int)(H:Hp)(Q:VK):BB (.int a) (.int b) H Q=(MR (.int a) (.int b)=true/\Q (.bl (!decide (a=b))) H):=rfl
theorem PY(a b:Str)(H:Hp)(Q:VK):BB (.str a) (.str b) H Q=(MR (.str a) (.str b)=true/\Q (.bl (!decide (a=b))) H):=rfl
theorem LG(x y:V)(H:Hp)(Q:VK):Bc x y H Q=(MR x y=true/\Q (.bl (decide (x=y))) H):=by
 unfold Bc
 split
 .simp[MR]
 .simp[MR]
 .rfl
theorem PC(x y:V)(H:Hp)(Q:VK):BB x y H Q=(MR x y=true/\Q (.bl (!decide (x=y))) H):=by
 unfold BB
 split
 .simp[MR]
 .simp[MR]
 .rfl
theorem Gn{f:Value->Value->Sem Value}(h:JA X f Aw):JA X f Bc:=h.imp fun x y H Q q=>by rw[LG]at q;exact q
theorem RG{f:Value->Value->Sem Value}(h:JA X f Et):JA X f BB:=h.imp fun x y H Q q=>by rw[PC]at q;exact q
def GY(t:TE):TT:=fun σ H Q=>t σ H fun x H1=>mB x fun c=>Q c H1
theorem P5(t:TE):tB t=GY t:=by unfold tB GY;simp only[CG]
theorem cB{e:Ws}{t:TE}(h:PT X e (tB t)):PT X e (GY t):=P5 t▸h
theorem cT{e:Ws}{t:TE}(h:PT X e (BO t)):PT X e (GY t):=P5 t▸h
def EY(ta tb:TE):TE:=fun σ H Q=>ta σ H fun x H1=>mB x fun c=>mC c (tb σ H1 Q) (Q (.bl false) H1)
def Ex(ta:TE):TE:=fun σ H Q=>ta σ H fun x H1=>mB x fun c=>Q (.bl (!c)) H1
theorem SS{e:Ws}{ta tb:TE}(h:PE X e (EQ ta tb)):PE X e (EY ta tb):=by
 have:EY ta tb=EQ ta tb:=by unfold EY EQ mC;simp only[CG]
 rw[this];exact h
theorem vJ{e:Ws}{ta:TE}(h:PE X e (ED ta)):PE X e (Ex ta):=by
 have:Ex ta=ED ta:=by unfold Ex ED;simp only[CG]
 rw[this];exact h
def A3(K:Wm):List V->Hp->VK->Prop:=fun xs H Q=>mA xs fun x=>mR x fun p=>∃ys,(WB K H p ys\/JV K H p ys)/\Q (.int ys.length) H
theorem D6{f:Wn}(h:WW X f (Ab K)):WW X f (A3 K):=h.imp fun xs H Q q=>by
 unfold A3 at q;simp only[EA,Dr]at q;obtain⟨x,e,p,rfl,ys,h1,q⟩:=q;exact⟨p,ys,e,h1,q⟩
theorem DZ.imp{r r':R2}(h:DZ X r)(hi:∀x y H Q,r' x y H Q->r x y H Q):DZ X r':=fun a b pins s σ H x y v u Q I rx ry q z=>h a b pins s σ H x y v u Q I rx ry (hi _ _ _ _ q) z
def Bj(K:Wm):R2:=fun x y H Q=>mR x fun p=>∃xs,mI y fun i=>WB K H p xs/\∃v,Mh xs i=some v/\Q v H
def A0(K:Wm):R2:=fun x y H Q=>mR x fun p=>∃xs,mI y fun i=>JV K H p xs/\∃v,Mh xs i=some v/\Q v H
theorem Zx(h:DZ X (By K)):DZ X (Bj K):=h.imp fun x y H Q q=>by
 unfold Bj at q;simp only[RO,Dr]at q;obtain⟨p,e,xs,i,a,h1,v,h2,q⟩:=q;exact⟨p,xs,i,v,e,a,h1,h2,q⟩
theorem v6(h:DZ X (BI K)):DZ X (A0 K):=h.imp fun x y H Q q=>by
 unfold A0 at q;simp only[RO,Dr]at q;obtain⟨p,e,xs,i,a,h1,v,h2,q⟩:=q;exact⟨p,xs,i,v,e,a,h1,h2,q⟩
def AZ:V->List V->Hp->VK->Prop:=fun x vs H Q=>mR x fun l=>mA vs fun y=>∃xs,H l=some (.lst xs)/\xs.length < sizeLine/\∀G,Jh l H G->G l=some (.lst (xs++[y]))->Q .non G
theorem R4{id:String}(h:Dc X id Cb):Dc X id AZ:=h.imp fun x vs H Q q=>by
 unfold AZ at q;simp only[EA,Dr]at q;obtain⟨l,e,y,a,xs,h1,h2,q⟩:=q;exact⟨l,xs,y,e,a,h1,h2,q⟩
def CY(K:Wm):List V->Hp->VK->Prop:=fun vs H Q=>mA vs fun x=>mR x fun p=>∃ys,(WB K H p ys\/JV K H p ys)/\∀l G,H l=none->Ww H G->G l=some (.lst ys)->Q (.ref l) G
theorem Qs{f:Wn}(h:WW X f (AY K)):WW X f (CY K):=h.imp fun xs H Q q=>by
 unfold CY at q;simp only[EA,Dr]at q;obtain⟨x,e,p,rfl,ys,h1,q⟩:=q;exact⟨p,ys,e,h1,q⟩
def Al:R2:=fun x y H Q=>mR x fun l=>mR y fun b=>∃xs,H l=some (.lst xs)/\∃zs,H b=some (.lst zs)/\xs.length+ zs.length <=sizeLine/\∀p G,H p=none->Ww H G->G p=some (.lst (xs++zs))->Q (.ref p) G
theorem CB{f:Value->Value->Sem Value}(h:JA X f CD):JA X f Al:=h.imp fun x y H Q q=>by
 unfold Al at q;simp only[Dr]at q;obtain⟨l,e,b,a,xs,h1,zs,h2,q⟩:=q;exact⟨l,b,xs,zs,e,a,h1,h2,q⟩
def EB(ta:TA):TI:=fun σ H R=>ta σ H fun vs H1=>mA vs fun x=>mI x fun j=> -(2 ^ 62) <=j/\j < 2 ^ 62/\R (GL 0 j.toNat) H1
theorem S8{tg e:Ws}{ta:TA}(h:PI X tg e (Eu ta)):PI X tg e (EB ta):=by
 have:EB ta=Eu ta:=by
  unfold EB Eu
  funext σ H R;congr;funext vs H1
  simp only[EA,RO];exact propext ⟨fun⟨x,e,j,e2,q⟩=>⟨j,by rw[e,e2],q⟩,fun⟨j,e,q⟩=>⟨_,e,j,rfl,q⟩⟩
 rw[this];exact h
def EN(K:Wm)(tl:TE):TI:=fun σ H R=>tl σ H fun x H1=>mR x fun a=>(∃xs,WB K H1 a xs)/\R (Rl K a) H1
theorem vT{tg e:Ws}{tl:TE}(h:PI X tg e (E3 K tl)):PI X tg e (EN K tl):=by
 have:EN K tl=E3 K tl:=by unfold EN E3;simp only[Dr]
 rw[this];exact h
def Af(K:Wm):R2:=fun x y H Q=>mR x fun a=>mR y fun b=>∃xs,WB K H a xs/\WB K H b []/\Q (.bl (!decide (xs.length=0))) H
def Ak(K:Wm):R2:=fun x y H Q=>mR x fun a=>mR y fun b=>∃xs,WB K H a xs/\WB K H b []/\Q (.bl (decide (xs.length=0))) H
theorem BR{f:Value->Value->Sem Value}(h:JA X f (F1 K)):JA X f (Af K):=h.imp fun x y H Q q=>by
 unfold Af at q;simp only[Dr]at q;obtain⟨a,e,b,c,xs,h1,h2,q⟩:=q;exact⟨a,b,xs,e,c,h1,h2,q⟩
theorem HD{f:Value->Value->Sem Value}(h:JA X f (Ai K)):JA X f (Ak K):=h.imp fun x y H Q q=>by
 unfold Ak at q;simp only[Dr]at q;obtain⟨a,e,b,c,xs,h1,h2,q⟩:=q;exact⟨a,b,xs,e,c,h1,h2,q⟩
def Ag:R2:=fun y x H Q=>mI y fun n=>mR x fun a=>∃kvs,H a=some (.dK kvs)/\Q (.bl (J5 kvs (Sum.inl n)).isSome) H
def Ax:R2:=fun y x H Q=>mI y fun n=>mR x fun a=>∃kvs,H a=some (.dK kvs)/\Q (.bl (!(J5 kvs (Sum.inl n)).isSome)) H
theorem O6{f:Value->Value->Sem Value}(h:JA X f A5):JA X f Ag:=h.imp fun x y H Q q=>by
 unfold Ag at q;simp only[Dr,RO]at q;obtain⟨n,e,a,b,kvs,h1,q⟩:=q;exact⟨a,n,kvs,e,b,h1,q⟩
theorem Q7{f:Value->Value->Sem Value}(h:JA X f A7):JA X f Ax:=h.imp fun x y H Q q=>by
 unfold Ax at q;simp only[Dr,RO]at q;obtain⟨n,e,a,b,kvs,h1,q⟩:=q;exact⟨a,n,kvs,e,b,h1,q⟩
def Cd(K:Wm):V->Option Int->Option Int->Hp->VK->Prop:=fun x lo hi H Q=>mR x fun a=>∃xs,WB K H a xs/\∀p G,H p=none->Ww H G->G p=some (.lst (Rh xs lo hi))->Q (.ref p) G
theorem dO(h:R6 X (AQ K)):R6 X (Cd K):=h.imp fun x lo hi H Q q=>by
 unfold Cd at q;simp only[Dr]at q;obtain⟨a,e,xs,q⟩:=q;exact⟨a,xs,e,q⟩
def Ah:V->List V->Hp->VK->Prop:=fun x vs H Q=>mR x fun l=>mA vs fun y=>mR y fun b=>∃xs,H l=some (.lst xs)/\∃zs,H b=some (.lst zs)/\xs.length+ zs.length <=sizeLine/\∀G,Jh l H G->G l=some (.lst (xs++zs))->Q .non G
theorem m8{id:String}(h:Dc X id F8):Dc X id Ah:=h.imp fun x vs H Q q=>by
 unfold Ah at q;simp only[EA,Dr]at q;obtain⟨l,e,y,a,b,rfl,xs,h1,zs,h2,q⟩:=q;exact⟨l,b,xs,zs,e,a,h1,h2,q⟩
def Bi:List V->Hp->VK->Prop:=fun xs H Q=>match xs with
 |[.int i]=>Q (.int i) H\/False
 |[.bl k]=>False\/Q (.int (if k=true then 1 else 0)) H
 |xs=>(∃i,xs=[.int i]/\Q (.int i) H)\/∃k,xs=[.bl k]/\Q (.int (if k=true then 1 else 0)) H
theorem Pq(i:Int)(H:Hp)(Q:VK):Bi [.int i] H Q=(Q (.int i) H\/False):=rfl
theorem LZ(k:Bool)(H:Hp)(Q:VK):Bi [.bl k] H Q=(False\/Q (.int (if k=true then 1 else 0)) H):=rfl
theorem OF(xs:List V)(H:Hp)(Q:VK):Bi xs H Q=((∃i,xs=[.int i]/\Q (.int i) H)\/∃k,xs=[.bl k]/\Q (.int (if k=true then 1 else 0)) H):=by
 unfold Bi
 split
 .simp
 .simp
 .rfl
theorem K4{f:Wn}(h:WW X f (fun xs H Q=>(∃i,xs=[.int i]/\Q (.int i) H)\/∃k,xs=[.bl k]/\Q (.int (if k then 1 else 0)) H)):WW X f Bi:=h.imp fun xs H Q q=>by rw[OF]at q;exact q
variable{a b:Ws}{ta tb:TE}{rest:List Expr}{pos:Pos}
theorem Te{e:Ws}{t:TE}(h:PE X e t)(he:∀whole,isTrue e X.env whole=(do let v <-whole;standAt e.pos;holding [v] (truthy v)):=by intro _;rfl):PT X e (GY t):=cB (xD h he)
theorem EM{op:CmpOp}{r:R2}(ho:JA X (compareOp op) r)(ha:PE X a ta)(hb:PE X b tb)(hm:behindInMarks op b=false):PT X (.Compare a [op] [b] pos) (GY (Gh r ta tb)):=cT (yY ho ha hb hm)
theorem Mo(ha:PE X a ta)(hb:PE X (.BoolOp .And (b::rest) pos) tb):PE X (.BoolOp .And (a::b::rest) pos) (EY ta tb):=SS (yI ha hb)
theorem mP(ha:PE X a ta):PE X (.UnaryOp .Not a pos) (Ex ta):=vJ (Ss ha)
theorem RY{tg a:Ws}{ta:TA}{p pos:Pos}(hg:Gl X "range")(hm:X.mg "range"=none)(ha:PA X [a] ta)(hs:starEach [a] X.env=[(false,eval a X.env)]:=by rfl):PI X tg (.Call (.Name "range" p) [a] [] pos) (EB ta):=S8 (mK hg hm ha hs)
theorem GG{tg l:Ws}{tl:TE}(h:X.K=K)(hl:PE X l tl):PI X tg l (EN K tl):=vT (gM h hl)
end
theorem _root_.L2.Room.m{j k:Nat}{A:Wk}(r:Room k A)(h:j <=k:=by decide):Room j A:=r.mono h
section
variable{X:Cx}{es:List Expr}{t:TA}{te ta tb:TE}{pos:Pos}{x:Str}{ps N:List Str}{a b:Ws}
theorem WH(i:Nat)(hr:PA X es t)(hN:X.N[i]?=some x:=by rfl)(hv:BJ X.env.scope x:=by first|exact Or.inl rfl|exact Or.inr (Or.inl rfl)|exact Or.inr (Or.inr rfl))(hd:(x==("__debug__":Str))=false:=by decide)(hcd:(x==("__classdict__":Str))=false:=by decide):PA X (.Name x pos::es) (DA (En i) t):=JM (Wu i hN hv hd hcd) hr MC
theorem Nz{v:Const}{k:Nat}(ha:PE X (.Constant v k pos) te)(hr:PA X es t):PA X (.Constant v k pos::es) (DA te t):=JM ha hr nN
theorem MQ(ha:PE X (.Subscript a b pos) te)(hr:PA X es t):PA X (.Subscript a b pos::es) (DA te t):=JM ha hr xS
theorem MK(ha:PE X (.Attribute a x pos) te)(hr:PA X es t):PA X (.Attribute a x pos::es) (DA te t):=JM ha hr Ze
theorem Mj{gs:List Expr}{ks:List Keyword}(ha:PE X (.Call a gs ks pos) te)(hr:PA X es t):PA X (.Call a gs ks pos::es) (DA te t):=JM ha hr Zr
theorem NL(i:Nat){pos':Pos}(S:Jv X.N ps X.env.scope)(he:PE X a te)(hi:X.N[i]?=some x:=by rfl)(hx:E1 X.env.scope x:=by exact Or.inl rfl)(hs:swapsWith a (some (.Name x pos')) pos.line X.env=pure false:=by rfl)(hf:X.fn x=true\/X.env.scope.names.lookup x=some .local:=by first|exact .inl rfl|exact .inr rfl|assumption):
  PS X (.Assign [.Name x pos'] a pos) (Ei te (Rk i)):=F2 S.nd hi hx he hs hf
theorem Mw(i:Nat)(S:Jv X.N ps X.env.scope)(hi:X.N[i]?=some x:=by rfl)(hx:E1 X.env.scope x:=by exact Or.inl rfl)(hf:X.fn x=true\/X.env.scope.names.lookup x=some .local:=by first|exact .inl rfl|exact .inr rfl|assumption):PG X (.Name x pos) (Rk i):=Dk S.nd hi hx hf
theorem JK(K:Wm)(he:PE X a te)(h:X.K=K:=by rfl)(hb:attributeBase a x X.env (eval a X.env)=eval a X.env:=by rfl):PE X (.Attribute a x pos) (AA K te x):=Sl h he hb
theorem Me(K:Wm)(ha:PE X a ta)(hb:PE X b tb)(h:X.K=K:=by rfl)(hs:Fz b:=by exact fun _ _=>rfl):PE X (.Subscript a b pos) (Gh (Bj K) ta tb):=Pi (Zx (gA h)) ha hb hs
theorem MD(K:Wm)(ha:PE X a ta)(hb:PE X b tb)(h:X.K=K:=by rfl)(hs:Fz b:=by exact fun _ _=>rfl):PE X (.Subscript a b pos) (Gh (A0 K) ta tb):=Pi (v6 (uN h)) ha hb hs
theorem T3{op:CmpOp}{r:R2}(ho:JA X (compareOp op) r)(ha:PE X a ta)(hb:PE X b tb)(hm:behindInMarks op b=false:=by exact M0 _):PT X (.Compare a [op] [b] pos) (GY (Gh r ta tb)):=EM ho ha hb hm
theorem Ek{k:Nat}{A:Wk}(hr:Room k A)(ha:PE X a ta)(hb:PE X b tb)(e:X.A=A:=by rfl)(hs:H9 b:=by exact fun _ _=>rfl):PE X (.Subscript a b pos) (Ca ta tb):=mF (e▸Dw hr) ha hb hs
theorem Nh{id:String}{r:List V->Hp->VK->Prop}{p:Pos}(hc:WW X (.builtin id) r)(hm:X.mg x=none)(ha:PA X (a::es) t)(hg:Gl X x:=by rfl)(hv:bootBuiltins x=some (.builtin id):=by rfl)(hn:x≠"__name__":=by decide)(hdb:(x==("__debug__":Str))=false:=by decide)
  (he:starEach (a::es) X.env=(false,eval a X.env)::starEach es X.env:=by rfl) (hpl:(backTo pos (starEach es X.env)).any (·.1)=false:=by rfl):PE X (.Call (.Name x p) (a::es) [] pos) (Bb r t):=Zl hc hg hm hv ha hn hdb he hpl
end
end L2
namespace Mine
open PySem L2 PyProof.Rows
local macro_rules | `(tactic| walk_at"e")=>`(tactic| exact ⟨rfl,rfl,rfl,by decide +kernel,rfl,by decide +kernel,by decide +kernel⟩)
local macro_rules | `(tactic| walk_at"rd") => do
 let f:=fun(s:String)=>(s.splitOn " ").toArray.mapM fun x=>`(Lean.Parser.Tactic.simpLemma|$(Lean.mkIdent x.toName):term)
 let a<-f "P6 Bool.not_true Bool.not_false En F3 Bg GY EY Ex A3 Bj A0 AZ CY Al EB EN Af Ak Ag Ax Cd Ah Hw IK OI Hx QS QF Ob Of PY Pq LZ Nat.reduceAdd IA FD Ht Cw D9 IL Kp Ka Ab Lk KI Ei Rk F9 tC Gh Kq BO tB L3 IY BF DA R7 Bb Kw Hv EQ ED Cf Ct Fg CT Cv AI FT Fm Li HV rI Gw rU Aw Et Fp HS KN E3 Eu Ri L6 Jj By BI HY Iw KO Ce L2.start Kj KH CD AY AQ Cb F8 HN FH AR AA Ke Kt Ih Ai A5 Le Ln Lg Lb K9 KQ HR Hd F1 Fi IJ Av IU Fy Ca A7 Fx FW KP List.map_cons List.map_nil List.length_cons List.length_nil List.cons_append List.nil_append List.getElem?_cons_zero List.getElem?_cons_succ List.set_cons_zero List.set_cons_succ Option.bind_some Option.bind_none Option.join_some List.replicate"
 let b<-f "SM y4 wK mN QZ ZG"
 let c<-f "RO CG Dr Ot EA LG PC OF FL KW Fw L9 Nat.reduceSub List.append_nil Option.some.injEq V.int.injEq V.bl.injEq V.str.injEq V.ref.injEq V.ty.injEq exists_eq_left' exists_eq_left exists_and_left and_assoc and_true true_and List.cons.injEq exists_eq exists_eq' exists_const Nat.reduceLT Nat.reduceLeDiff if_true Bool.false_eq_true if_false reduceCtorEq false_and and_false exists_false yT wP Sc ZZ"
 `(tactic|((try dsimp only[$b,*,$a,*]);(try dsimp only[mC]);(try simp only[$a,*,$c,*])))
local macro_rules | `(tactic| walk_at"wt") => `(tactic| dsimp only [GY, Gh, En, Bg, Hx, Hw, IK, List.getElem?_cons_zero, List.getElem?_cons_succ])
local macro_rules | `(tactic| walk_at"ne") => `(tactic| first | assumption | (apply Ne.symm; assumption) | grind [Ww, Jh])
local macro_rules | `(tactic| walk_at"hp") => `(tactic| first | assumption | exact Jn | (refine Ww.get (by assumption) ?_; walk_at"hp") | (refine Jh.get (by assumption) ?_ ?_; (· walk_at"hp"); (· walk_at"ne")))
def top(i:Nat):Stmt:=PySem.Challenge.pw_pieceways_k43_great_letters.main.body.getD i (.Pass ⟨0,0,0,0⟩)
structure Cn(mg:Wd):Prop where
 c_MOST_NUMBER:∃t,mg "MOST_NUMBER"=some (.int 65535 t)
 c_MOST_BYTE:∃t,mg "MOST_BYTE"=some (.int 255 t)
 c_MOST_SIGNS:∃t,mg "MOST_SIGNS"=some (.int 8 t)
 c_MOST_BYTES:∃t,mg "MOST_BYTES"=some (.int 4000 t)
 c_STEP:∃t,mg "STEP"=some (.int 8 t)
section
variable{P:Wh}{w:Wl}{K:Wm}{mg:Wd}{base:Wr}
inductive An(vs:List V)(H:Hp)(Q:VK)(E:XK):Prop|mk (x n:_) (_:vs=[x]) (_:Tf H x=some n) (_:Q (.bl (GJ x)) H)
abbrev Iz:Stmt:=top 9
theorem Za:Jv ["value"] ["value"] (Wt Iz):=by walk_at"e"
theorem nF{f:Wo}{fd:Wj}(F:JL K "is_whole" "is_whole" Iz f fd)(B:Bt mg):WA P w K mg base Je 1 f fd ["value"] An:=by
 refine F.ok Za (fun vs H Q E h=>?_) (fun b A a s H vs Q E c h=>?_)
 .obtain⟨x,n,rfl,_⟩:=h;rfl
 .obtain⟨x,n,rfl,ty,q⟩:=h;refine⟨_,(WV (Jr (Mo (Nh (GC "int") B.isinstance (WH 0 (JM (hs:=MC) (GX (v:=.ty "int") rfl B.bint (by rfl) rfl) Wy))) (Db (mP (Nh (GC "bool") B.isinstance (WH 0 (JM (hs:=MC) (GX (v:=.ty "bool") rfl B.bbool (by rfl) rfl) Wy)))))))),?_⟩;walk_at"rd";refine⟨n,ty,?_⟩;rw[jL ty];refine Mv (fun h=>⟨n,ty,?_⟩) (fun h=>?_)
  .rw[Po ty];have e:(!Ru x)=GJ x:=by cases x <;> first|rfl|(simp[GJ,Ru]at h)
   rw[e];exact q
  .have e:GJ x=false:=by cases x <;> first|rfl|(simp[GJ,Ru]at h)
   rw[e]at q;exact q
inductive Hu(vs:List V)(H:Hp)(Q:VK)(E:XK):Prop|mk (x n lo hi:_) (_:vs=[x,.int lo,.int hi]) (_:Tf H x=some n) (_:Q (.bl (MN x lo hi)) H)
abbrev I0:Stmt:=top 10
theorem Zm:Jv ["value","low","high"] ["value","low","high"] (Wt I0):=by walk_at"e"
theorem yZ{f:Wo}{fd:Wj}(F:JL K "is_whole_within" "is_whole_within" I0 f fd)(Jw:Nt P w K mg base "is_whole" 1 ["value"] [] An):WA P w K mg base Je 2 f fd ["value","low","high"] Hu:=by
 refine F.ok Zm (fun vs H Q E h=>?_) (fun c A a s H vs Q E b h=>?_)
 .obtain⟨x,n,lo,hi,rfl,_⟩:=h;rfl
 .obtain⟨x,n,lo,hi,rfl,ty,q⟩:=h;refine⟨_,(WV (Jr (Mo (N7 Jw b.m rfl (WH 0 Wy)) (Db (P3 (Nm GU) (Nm GU) (Wu 1) (Wu 0) (Wu 2)))))),?_⟩;walk_at"rd";refine⟨x,n,rfl,ty,_,rfl,?_⟩;refine Mv (fun h=>?_) (fun h=>?_)
  .cases x <;> first|(simp[GJ]at h;done)|skip
   rename_i i
   walk_at"rd"
   by_cases h1:lo <=i
   .simp only[h1,X3,if_true];simpa[MN,h1] using q
   .simp only[h1,X1,Bool.false_eq_true,if_false];simpa[MN,h1] using q
  .have e:MN x lo hi=false:=by cases x <;> first|rfl|(simp[GJ]at h)
   rw[e]at q;exact q
inductive Kv(vs:List V)(H:Hp)(Q:VK)(E:XK):Prop|mk (x n:_) (_:vs=[x]) (_:Tf H x=some n) (_:Q (.bl (Ru x)) H)
abbrev IS:Stmt:=top 12
theorem mY:Jv ["value"] ["value"] (Wt IS):=by walk_at"e"
theorem jR{f:Wo}{fd:Wj}(F:JL K "is_truth" "is_truth" IS f fd)(B:Bt mg):WA P w K mg base Je 1 f fd ["value"] Kv:=by
 refine F.ok mY (fun vs H Q E h=>?_) (fun b A a s H vs Q E c h=>?_)
 .obtain⟨x,n,rfl,_⟩:=h;rfl
 .obtain⟨x,n,rfl,ty,q⟩:=h;refine⟨_,(WV (Jr (Nh (GC "bool") B.isinstance (WH 0 (JM (hs:=MC) (GX (v:=.ty "bool") rfl B.bbool (by rfl) rfl) Wy))))),?_⟩;walk_at"rd";exact⟨n,ty,by rw[Po ty];exact q⟩
inductive Fu(vs:List V)(H:Hp)(Q:VK)(E:XK):Prop|mk (x n:_) (_:vs=[x]) (_:Tf H x=some n) (_:Q (.bl (MN x 0 65535)) H)
abbrev KS:Stmt:=top 13
theorem vB:Jv ["value"] ["value"] (Wt KS):=by walk_at"e"
theorem tI{f:Wo}{fd:Wj}(F:JL K "is_number" "is_number" KS f fd)(T:Cn mg)(J9:Nt P w K mg base "is_whole_within" 2 ["value","low","high"] [] Hu):WA P w K mg base Je 3 f fd ["value"] Fu:=by
 refine F.ok vB (fun vs H Q E h=>?_) (fun c A a s H vs Q E b h=>?_)
 .obtain⟨x,n,rfl,_⟩:=h;rfl
 .obtain⟨x,n,rfl,ty,q⟩:=h;refine⟨_,(WV (Jr (N7 J9 b.m rfl (WH 0 (Nz J1 (JM (hs:=MC) (RD rfl T.c_MOST_NUMBER) Wy)))))),?_⟩;walk_at"rd";exact⟨x,n,0,65535,rfl,ty,q⟩
inductive Pn(vs:List V)(H:Hp)(Q:VK)(E:XK):Prop|mk (x n:_) (_:vs=[x]) (_:Tf H x=some n) (_:Q (.bl (MN x 0 255)) H)
abbrev IV:Stmt:=top 16
theorem wI:Jv ["value"] ["value"] (Wt IV):=by walk_at"e"
theorem jD{f:Wo}{fd:Wj}(F:JL K "is_byte" "is_byte" IV f fd)(T:Cn mg)(J9:Nt P w K mg base "is_whole_within" 2 ["value","low","high"] [] Hu):WA P w K mg base Je 3 f fd ["value"] Pn:=by
 refine F.ok wI (fun vs H Q E h=>?_) (fun c A a s H vs Q E b h=>?_)
 .obtain⟨x,n,rfl,_⟩:=h;rfl
 .obtain⟨x,n,rfl,ty,q⟩:=h;refine⟨_,(WV (Jr (N7 J9 b.m rfl (WH 0 (Nz J1 (JM (hs:=MC) (RD rfl T.c_MOST_BYTE) Wy)))))),?_⟩;walk_at"rd";exact⟨x,n,0,255,rfl,ty,q⟩
inductive Hh(vs:List V)(H:Hp)(Q:VK)(E:XK):Prop|mk (x n:_) (_:vs=[x]) (_:Tf H x=some n) (_:(∀z,x= .str z->z.length <=100000)) (_:∀H',Ww H H'->Q (.bl (MH x)) H')
abbrev C7:Stmt:=top 14
theorem gL:Jv ["value"] ["value"] (Wt C7):=by walk_at"e"
theorem j4{f:Wo}{fd:Wj}(F:JL K "is_name" "is_name" C7 f fd)(T:Cn mg)(B:Bt mg):WA P w K mg base Je 1 f fd ["value"] Hh:=by
 refine F.ok gL (fun vs H Q E h=>?_) (fun cdv A outer s H vs Q E hr h=>?_)
 .obtain⟨x,n,rfl,_⟩:=h;rfl
 .obtain⟨x,n,rfl,ty,hz,q⟩:=h;refine⟨_,(WN (Nf (PW.pt (DQ (TL (Te (Nh (GC "str") B.isinstance (WH 0 (JM (hs:=MC) (GX (v:=.ty "str") rfl B.bstr (by rfl) rfl) Wy))))) (GH (TL (OC (Nm GU) (Nm GU) J1 (Nh uU B.len (WH 0 Wy)) (RD rfl T.c_MOST_SIGNS)))))) (WV (Jr Gv)) Nr) (WV (Jr (Nh (F7 (K:=K) rfl rfl) B.all (JM (hs:=Rw) (Rb (N':=["sign"]) (caps:=[none]) (DP (sc:=Wt C7) (N:=["value"]) rfl rfl (by decide +kernel)) rfl (yB (Wu 0)) (fun _ _ _ _ _=>(Dk (i:=0) (DS (N:=["sign"]) rfl (by decide +kernel)) rfl (Or.inl rfl))) (fun _ _ _ _ _=>GW) (fun _ _ _ _ _=>(P3 Qb Qb TH (Wu 0) TH))) Wy))))),?_⟩;walk_at"rd";refine⟨n,ty,?_⟩;rw[SA ty];cases x <;> first
   |(simp only[K8,Bool.not_false,if_true];exact q H (Ww.refl H))
   |skip
  rename_i z
  have j:=hz z rfl;simp only[K8,Bool.not_true,Bool.false_eq_true,if_false];walk_at"rd";refine⟨Ny j,?_⟩;have o:∀b,MH (.str z)=b->∀H',Ww H H'->Q (.bl b) H':=fun b e H' s=>e▸q H' s
  by_cases h1:1 <=z.length
  .have g:(1:Int) <=(z.length:Int):=by lia
   simp only[g,X3,if_true]
   by_cases h2:z.length <=8
   .have d:(z.length:Int) <=8:=by lia
    simp only[d,X3,Bool.not_true,Bool.false_eq_true,if_false];have aa:z.cps.size=z.length:=rfl;obtain⟨r,a⟩:∃r:Nat->List V->L2.St->Hp->Prop,r=fun i ys σ' H1=>H1=H/\i <=z.cps.size/\ys=(z.cps.toList.take i).map (fun c=>V.bl (EC c))/\∃v,σ'=[v]:=⟨_,rfl⟩
    refine jV r (by rw[a];exact⟨rfl,Yy _,by simp,none,rfl⟩) ?_ (by rw[aa];exact Ny j) ?_ ?_ <;> rw[a]
    .rintro i ys σ' H1 ⟨_,hi,rfl,_⟩ _;simp only[Y0,Yu];lia
    .rintro i c ys σ' H1 hc ⟨rfl,hi,rfl,v,rfl⟩;rw[<-a];have l:i < z.cps.size:=(Vt.mp hc).1;walk_at"rd";obtain⟨e1,e2⟩:=nH c;rw[e1,e2];have et:z.cps.toList.take (i+ 1)=z.cps.toList.take i++[c]:=by
      rw[XU];have:z.cps.toList[i]?=some c:=by rw[Array.getElem?_toList];exact hc
      rw[this];rfl
     have eb:V.bl (EC c)=V.bl (decide (97 <=c) && decide (c <=122)):=rfl
     by_cases k1:97 <=c
     .simp only[k1,X3,if_true];rw[a];exact⟨rfl,l,by rw[et,Yn,List.map_cons,List.map_nil,eb];simp[k1],_,rfl⟩
     .simp only[k1,X1,Bool.false_eq_true,if_false];rw[a];exact⟨rfl,l,by rw[et,Yn,List.map_cons,List.map_nil,eb];simp[k1],_,rfl⟩
    .rintro ys σ' H1 ⟨rfl,_,rfl,_⟩ p hp;walk_at"rd";refine⟨z.cps.toList.map EC,WB.of ?_,?_⟩
     .rw[Jn];have:z.cps.toList.take z.cps.size=z.cps.toList:=by rw[YD];simp
      rw[this,YM];rfl
     .refine o _ ?_ _ (Ww.new (Ww.refl _) hp);simp only[MH,h1,h2,X3,U6,List.all_map];rfl
   .have d:¬(z.length:Int) <=8:=by lia
    simp only[d,X1,Bool.not_false,if_true];exact o _ (by simp[MH,h2]) H (Ww.refl H)
  .have g:¬(1:Int) <=(z.length:Int):=by lia
   simp only[g,X1,Bool.false_eq_true,if_false,Bool.not_false,if_true,true_and,exists_eq_left'];exact o _ (by simp[MH,h1]) H (Ww.refl H)
def M7(H:Hp)(x:V):Prop:=∀a xs,x= .ref a->H a=some (.lst xs)->xs.length <=100000/\∀y∈xs,∃n,Tf H y=some n
inductive Ly(vs:List V)(H:Hp)(Q:VK)(E:XK):Prop|mk (x n:_) (_:vs=[x]) (_:Tf H x=some n) (_:M7 H x) (_:∀H',Ww H H'->Q (.bl (Dz H x)) H')
abbrev Cj:Stmt:=top 17
theorem Sm:Jv ["value"] ["value"] (Wt Cj):=by walk_at"e"
theorem xG{f:Wo}{fd:Wj}(F:JL K "is_body" "is_body" Cj f fd)(T:Cn mg)(B:Bt mg)(Tu:Nt P w K mg base "is_byte" 3 ["value"] [] Pn):WA P w K mg base Je 4 f fd ["value"] Ly:=by
 refine F.ok Sm (fun vs H Q E h=>?_) (fun cdv A aa s H vs Q E hr h=>?_)
 .obtain⟨x,n,rfl,_⟩:=h;rfl
 .obtain⟨x,n,rfl,ty,hz,q⟩:=h;refine⟨_,(WN (Nf (PW.pt (DQ (TL (Te (Nh (GC "list") B.isinstance (WH 0 (JM (hs:=MC) (GX (v:=.ty "list") rfl B.blist (by rfl) rfl) Wy))))) (GH (TL (OC (Nm GU) (Nm GU) J1 (Nh (D6 (D3 (K:=K) rfl)) B.len (WH 0 Wy)) (RD rfl T.c_MOST_BYTES)))))) (WV (Jr Gv)) Nr) (WV (Jr (Nh (F7 (K:=K) rfl rfl) B.all (JM (hs:=Rw) (Rb (N':=["part"]) (caps:=[none]) (DP (sc:=Wt Cj) (N:=["value"]) rfl rfl (by decide +kernel)) rfl (GG (K:=K) rfl (Wu 0)) (fun _ _ _ _ _=>(Dk (i:=0) (DS (N:=["part"]) rfl (by decide +kernel)) rfl (Or.inl rfl))) (fun _ _ _ _ _=>GW) (fun _ _ _ _ _=>(N7 Tu hr.m rfl (WH 0 Wy)))) Wy))))),?_⟩;walk_at"rd";refine⟨n,ty,?_⟩;rw[dU ty];cases hL:BQ H x with
  |false=>
   simp only[Bool.not_false,if_true];have e:=mL hL;rw[e]at q;exact q H (Ww.refl H)
  |true=>
   obtain⟨a,xs,rfl,c⟩:=uX hL;obtain⟨l,r⟩:=hz a xs rfl c;rw[LH c]at q;simp only[Bool.not_true,Bool.false_eq_true,if_false];walk_at"rd";refine⟨xs,.inl (WB.of c),?_⟩
   by_cases h1:1 <=xs.length
   .have g:(1:Int) <=(xs.length:Int):=by lia
    simp only[g,X3,if_true]
    by_cases h2:xs.length <=4000
    .have d:(xs.length:Int) <=4000:=by lia
     simp only[d,X3,Bool.not_true,Bool.false_eq_true,if_false];refine⟨⟨xs,WB.of c⟩,?_⟩;obtain⟨o,b⟩:∃o:Nat->List V->L2.St->Hp->Prop,o=fun i ys σ' H1=>H1=H/\i <=xs.length/\ys=(xs.take i).map (fun y=>V.bl (MN y 0 255))/\∃v,σ'=[v]:=⟨_,rfl⟩
     refine Qw (xs:=xs) o (by rw[b];exact⟨rfl,Yy _,by simp,none,rfl⟩) ?_ (Ny l) ?_ ?_ <;> rw[b]
     .rintro i ys σ' H1 ⟨rfl,hi,rfl,_⟩ _;refine⟨WB.of c,?_⟩;simp only[Y0,Yu];lia
     .rintro i y ys σ' H1 j ⟨rfl,hi,rfl,v,rfl⟩;rw[<-b];have z:i < xs.length:=(Y4.mp j).1;obtain⟨m,hm⟩:=r y (Yw j);walk_at"rd";refine⟨y,m,rfl,hm,?_⟩;rw[b];refine⟨rfl,z,?_,_,rfl⟩;rw[XU,j,Vm,Yn,List.map_cons,List.map_nil]
     .rintro ys σ' H1 ⟨rfl,_,rfl,_⟩ p hp;walk_at"rd";refine⟨xs.map (fun y=>MN y 0 255),WB.of ?_,?_⟩
      .rw[Jn,YD (Y5 _),YM];rfl
      .have e:(xs.map (fun y=>MN y 0 255)).all id=(decide (1 <=xs.length) && decide (xs.length <=4000) && xs.all (fun y=>MN y 0 255)):=by
        simp only[h1,h2,X3,U6,List.all_map];rfl
       rw[e];exact q _ (Ww.new (Ww.refl _) hp)
    .have d:¬(xs.length:Int) <=4000:=by lia
     simp only[d,X1,Bool.not_false,if_true];simp only[h2,X1,Bool.and_false,XE]at q;exact q H (Ww.refl H)
   .have g:¬(1:Int) <=(xs.length:Int):=by lia
    simp only[g,X1,Bool.false_eq_true,if_false,Bool.not_false,if_true,true_and,exists_eq_left'];simp only[h1,X1,XE]at q;exact q H (Ww.refl H)
def N8(H:Hp)(number sender goal body keep:V):Bool:=MN number 0 65535 && (MH sender && (MH goal && (Dz H body && Ru keep)))
structure AU(H:Hp)(number sender goal body keep:V):Prop where
 n:∃t,Tf H number=some t
 s:∃t,Tf H sender=some t
 sl:∀z,sender= .str z->z.length <=100000
 g:∃t,Tf H goal=some t
 gl:∀z,goal= .str z->z.length <=100000
 b:∃t,Tf H body=some t
 bp:M7 H body
 k:∃t,Tf H keep=some t
theorem Ph{H H':Hp}(s:Ww H H'){x:V}{n:String}(ty:Tf H x=some n):Dz H' x=Dz H x:=by
 cases x with
 |ref a=>
  have ty:(H a).bind DG=some n:=ty;cases e:H a with
  |none=>rw[e]at ty;cases ty
  |some o=>
   show(match H' a with|some (.lst xs)=>_|_=>false)=(match H a with|some (.lst xs)=>_|_=>false);rw[s a o e,e]
 |_=>rfl
theorem M7.same{H H':Hp}(s:Ww H H'){x:V}{n:String}(ty:Tf H x=some n)(h:M7 H x):M7 H' x:=by
 intro a xs ex f;subst ex;have b:(H a).bind DG=some n:=ty;cases e:H a with
 |none=>rw[e]at b;cases b
 |some o=>
  have:=s a o e;rw[f]at this;cases this;obtain⟨h1,h2⟩:=h a xs rfl e;exact⟨h1,fun y c=>by obtain⟨m,d⟩:=h2 y c;exact⟨m,Cm s d⟩⟩
inductive Ia(vs:List V)(H:Hp)(Q:VK)(E:XK):Prop|mk (number sender goal body keep:_) (_:vs=[number,sender,goal,body,keep]) (_:AU H number sender goal body keep) (_:∀H',Ww H H'->Q (.bl (N8 H number sender goal body keep)) H')
abbrev Ic:Stmt:=top 30
theorem xB:Jv ["number","sender","goal","body","keep"] ["number","sender","goal","body","keep"] (Wt Ic):=by walk_at"e"
theorem xI{f:Wo}{fd:Wj}(F:JL K "are_shared_parts" "are_shared_parts" Ic f fd)(JX:Nt P w K mg base "is_number" 3 ["value"] [] Fu)(JT:Nt P w K mg base "is_name" 1 ["value"] [] Hh)
  (Ts:Nt P w K mg base "is_body" 4 ["value"] [] Ly) (Nc:Nt P w K mg base "is_truth" 1 ["value"] [] Kv):WA P w K mg base Je 5 f fd ["number","sender","goal","body","keep"] Ia:=by
 refine F.ok xB (fun vs H Q E h=>?_) (fun cdv A z s H vs Q E i h=>?_)
 .obtain⟨a,b,c,d,e,rfl,_⟩:=h;rfl
 .obtain⟨nu,se,go,bo,ke,rfl,⟨⟨tn,hn⟩,⟨ts,hs⟩,p,⟨tg,hg⟩,r,⟨tb,n⟩,v,⟨tk,hk⟩⟩,q⟩:=h;refine⟨_,(WV (Jr (Mo (N7 JX i.m rfl (WH 0 Wy)) (Mo (N7 JT i.m rfl (WH 1 Wy)) (Mo (N7 JT i.m rfl (WH 2 Wy)) (Mo (N7 Ts i.m rfl (WH 3 Wy)) (Db (N7 Nc i.m rfl (WH 4 Wy))))))))),?_⟩;walk_at"rd";unfold N8 at q;refine⟨nu,tn,rfl,hn,_,rfl,Mv (fun h1=>?_) (fun h1=>?_)⟩
  .refine⟨se,ts,rfl,hs,p,fun H1 s1=>⟨_,rfl,Mv (fun h2=>?_) (fun h2=>?_)⟩⟩
   .refine⟨go,tg,rfl,Cm s1 hg,r,fun H2 s2=>⟨_,rfl,Mv (fun l=>?_) (fun l=>?_)⟩⟩
    .have g:=s1.trans s2;refine⟨bo,tb,rfl,Cm g n,v.same g n,fun H3 o=>⟨_,rfl,Mv (fun j=>?_) (fun j=>?_)⟩⟩
     .refine⟨ke,tk,rfl,Cm (g.trans o) hk,?_⟩;rw[Ph g n]at j;simp only[h1,h2,l,j,U6]at q;exact q _ (g.trans o)
     .rw[Ph g n,UU]at j;simp only[h1,h2,l,j,U6,XE]at q;exact q _ (g.trans o)
    .rw[UU]at l;simp only[h1,h2,l,U6,XE]at q;exact q _ (s1.trans s2)
   .rw[UU]at h2;simp only[h1,h2,U6,XE]at q;exact q _ s1
  .rw[UU]at h1;simp only[h1,XE]at q;exact q H (Ww.refl H)
end
section
theorem J6{f:Str}{v:V}{fs:List (Str×V)}{n:Nat}(h:fs.length <=n):(N0 f v fs).length <=n+ 1:=YH (KB f v fs) (Nat.succ_le_succ h)
theorem WT{f g:Str}{v:V}{fs:List (Str×V)}(h:¬g=f):(N0 f v fs).lookup g=fs.lookup g:=by rw[AT,Y2 h]
theorem TV{f:Str}{v:V}{fs:List (Str×V)}:(N0 f v fs).lookup f=some v:=by rw[AT,Y3 rfl]
end
section
variable{P:Wh}{w:Wl}{K:Wm}{mg:Wd}{base:Wr}
structure A2(K:Wm)(C:Wo):Prop where
 cl:Ml K C
 number:WF K C "number"
 sender:WF K C "sender"
 goal:WF K C "goal"
 body:WF K C "body"
 keep:WF K C "keep"
structure NX(C:Wo)(H:Hp)(p:Wo)(nu se go bo ke:V):Prop where
 ex:∃dx fs,H p=some (.ins C dx fs)/\fs.lookup ("number":Str)=some nu/\fs.lookup ("sender":Str)=some se/\fs.lookup ("goal":Str)=some go/\fs.lookup ("body":Str)=some bo/\fs.lookup ("keep":Str)=some ke/\
  fs.lookup ("key":Str)=none/\fs.lookup ("is_like":Str)=none
inductive B9(C:Wo)(vs:List V)(H:Hp)(Q:VK)(E:XK):Prop|mk (p dx nu se go b ke xs:_) (_:vs=[.ref p,nu,se,go,.ref b,ke]) (_:H p=some (.ins C dx [])) (_:AU H nu se go (.ref b) ke) (_:N8 H nu se go (.ref b) ke=true) (_:H b=some (.lst xs)) (_:∀H' b',H b'=none->b'≠p->H' b'=some (.lst xs)->NX C H' p nu se go (.ref b') ke->Jh p H H'->Q .non H')
abbrev WE:Stmt:=Tr (top 33) 0
theorem tR:Jv ["self","number","sender","goal","body","keep"] ["self","number","sender","goal","body","keep"] (Wt WE):=by walk_at"e"
theorem yR {f C : Addr} {fd : FuncData} (F : ∃ (oc : Value) (od : Option Addr) (dV kV doc pm : Value) (an : Option Addr) (cdv ct : Value) (osl : Array (Option Value)),
  fd = W.fnOf "__init__" "Letter.__init__" (Mt WE) (WC WE) (Wt WE) dV kV doc pm an cdv ct /\ K.lookup f = some ⟨oc, od, .func fd, osl⟩ /\ W.codeIn K cdv "Letter.__init__" = true) (L : A2 K C) (B : Bt mg)
  (J2:Nt P w K mg base "are_shared_parts" 5 ["number","sender","goal","body","keep"] [] Ia):WA P w K mg base Je 6 f fd ["self","number","sender","goal","body","keep"] (B9 C):=by
 obtain⟨oc,od,dV,kV,doc,pm,an,cdv,ct,osl,rfl,lk,hcd⟩:=F;refine R5 lk hcd tR (fun vs H Q E h=>?_) (fun A i s H vs Q E hr h=>?_)
 .obtain⟨p,dx,nu,v,go,b,ke,xs,rfl,_⟩:=h;rfl
 .obtain⟨p,dx,nu,v,go,b,ke,xs,rfl,hp,hpl,hgd,hb,q⟩:=h
  suffices hh:∃t,Mf (To Je P w K mg base _ "Letter.__init__" (Wt WE) f cdv A i s H E).nox (WC WE) t/\t {nx:=fun _ H'=>Q .non H',rt:=Q} (L2.start _ _) H by
   obtain⟨t,h1,h2⟩:=hh;exact⟨t,h1.nox,h2⟩
  refine⟨_,(WN (Nf (TL (Te (N7 J2 hr.m rfl (WH 1 (WH 2 (WH 3 (WH 4 (WH 5 Wy)))))))) Gm Nr) (WN (DU (K:=K) rfl (Wu 0) (Wu 1) rfl) (WN (DU (K:=K) rfl (Wu 0) (Wu 2) rfl) (WN (DU (K:=K) rfl (Wu 0) (Wu 3) rfl) (WN (DU (K:=K) rfl (Wu 0) (RK (IM (K:=K) rfl) rfl B.blist (by rfl) (WH 4 Wy)) rfl) (WV (DU (K:=K) rfl (Wu 0) (Wu 5) rfl))))))),?_⟩;refine Ju fun N hN=>?_
  walk_at"rd";refine ⟨nu, v, go, .ref b, ke, rfl, hpl, fun H1 s1 => ⟨_, rfl, ?_⟩⟩;rw [hgd];simp only [Bool.not_true, Bool.false_eq_true, if_false];refine hN _ _ ?_;clear hN N;walk_at"rd";have hp1 := s1 p _ hp;have hb1 := s1 b _ hb;have d : b ≠ p := Wv hb hp (by intro z; cases z);have j : ([] : List (Str × V)).length <= 0 := Y5 0;refine ⟨C, dx, [], hp1, L.cl, L.number, by decide, C, dx, _, Jn, L.cl, L.sender, Yg (J6 j) (by decide), C, dx, _, Jn, L.cl, L.goal, Yg (J6 (J6 j)) (by decide), xs,
   .inl (WB.of (by rw [WM d, WM d, WM d]; exact hb1)), fun l n => ?_⟩
  have a:l≠p:=fun z=>by rw[z,Jn]at n;cases n
  have r:H1 l=none:=by rw[WM a,WM a,WM a]at n;exact n
  refine⟨C,dx,_,by rw[WM (Ne.symm a)];exact Jn,L.cl,L.body,Yg (J6 (J6 (J6 j))) (by decide),C,dx,_,Jn,L.cl,L.keep,Yg (J6 (J6 (J6 (J6 j)))) (by decide),?_⟩;refine q _ l (s1.free r) a (by rw[WM a,WM a,Jn]) ⟨dx,_,Jn,?_,?_,?_,?_,?_,?_,?_⟩ ?_
  .rw[WT,WT,WT,WT,TV] <;> decide +kernel
  .rw[WT,WT,WT,TV] <;> decide +kernel
  .rw[WT,WT,TV] <;> decide +kernel
  .rw[WT,TV] <;> decide +kernel
  .rw[TV]
  .rw[WT,WT,WT,WT,WT] <;> first|rfl|decide +kernel
  .rw[WT,WT,WT,WT,WT] <;> first|rfl|decide +kernel
  .intro c o e g;rw[WM g,WM g,WM (No (s1 c o e) r),WM g,WM g,WM g];exact s1 c o e
def ET:V->Bool
 | .int i=>decide (0 <=i) && decide (i%8=0)
 |_=>false
inductive Ps(vs:List V)(H:Hp)(Q:VK)(E:XK):Prop|mk (x n:_) (_:vs=[x]) (_:Tf H x=some n) (_:Q (.bl (ET x)) H)
abbrev Hr:Stmt:=top 31
theorem yE:Jv ["at"] ["at"] (Wt Hr):=by walk_at"e"
theorem uS{f:Wo}{fd:Wj}(F:JL K "is_place" "is_place" Hr f fd)(T:Cn mg)(Jw:Nt P w K mg base "is_whole" 1 ["value"] [] An):WA P w K mg base Je 2 f fd ["at"] Ps:=by
 refine F.ok yE (fun vs H Q E h=>?_) (fun c A a s H vs Q E b h=>?_)
 .obtain⟨x,n,rfl,_⟩:=h;rfl
 .obtain⟨x,n,rfl,ty,q⟩:=h;refine⟨_,(WV (Jr (Mo (N7 Jw b.m rfl (WH 0 Wy)) (Mo (TF (Nm C9) (Wu 0) J1 (M0 _)) (Db (TF (Gn Gx) (JJ (dI MO) (Wu 0) (RD rfl T.c_STEP)) J1 (M0 _))))))),?_⟩;walk_at"rd";refine⟨x,n,rfl,ty,_,rfl,Mv (fun h=>?_) (fun h=>?_)⟩
  .cases x <;> first|(simp[GJ]at h;done)|skip
   rename_i i
   walk_at"rd"
   by_cases h1:0 <=i
   .simp only[h1,X3,if_true];refine⟨by decide,rfl,?_⟩;simpa[ET,h1] using q
   .simp only[h1,X1,Bool.false_eq_true,if_false];simpa[ET,h1] using q
  .have e:ET x=false:=by cases x <;> first|rfl|(simp[GJ]at h)
   rw[e]at q;exact q
def RL(at' len:Int)(more:Bool):Bool:=if more then decide (len%8=0) && decide (at'+ len < 4000) else decide (at'+ len <=4000)
inductive Oq(vs:List V)(H:Hp)(Q:VK)(E:XK):Prop|mk (at' len more:_) (_:vs=[.int at',.int len,.bl more]) (_:Q (.bl (RL at' len more)) H)
abbrev KL:Stmt:=top 32
theorem jU:Jv ["at","length","more"] ["at","length","more"] (Wt KL):=by walk_at"e"
theorem xN{f:Wo}{fd:Wj}(F:JL K "has_room" "has_room" KL f fd)(T:Cn mg):WA P w K mg base Je 1 f fd ["at","length","more"] Oq:=by
 refine F.ok jU (fun vs H Q E h=>?_) (fun c A b s H vs Q E d h=>?_)
 .obtain⟨a,l,m,rfl,_⟩:=h;rfl
 .obtain⟨a,l,m,rfl,q⟩:=h;refine⟨_,(WN (Nf (Te (Wu 2)) (WV (Jr (Mo (TF (Gn Gx) (JJ (dI MO) (Wu 1) (RD rfl T.c_STEP)) J1 (M0 _)) (Db (TF (Nm ER) (JJ (Nm MY) (Wu 0) (Wu 1)) (RD rfl T.c_MOST_BYTES) (M0 _)))))) Nr) (WV (Jr (TF (Nm GU) (JJ (Nm MY) (Wu 0) (Wu 1)) (RD rfl T.c_MOST_BYTES) (M0 _))))),?_⟩;walk_at"rd";cases m with
  |true=>
   rw[Y3 rfl];refine⟨by decide,rfl,?_⟩;unfold RL at q;rw[Y3 rfl]at q
   by_cases h1:l%8=0
   .rw[Y3 (by simpa using h1)];simpa[h1] using q
   .rw[Y2 (by simpa using h1)];simpa[h1] using q
  |false=>
   rw[Y2 (by simp)];exact q
structure D5(K:Wm)(C:Wo):Prop where
 cl:Ml K C
 number:WF K C "number"
 sender:WF K C "sender"
 goal:WF K C "goal"
 at':WF K C "at"
 body:WF K C "body"
 more:WF K C "more"
 keep:WF K C "keep"
structure NG(C:Wo)(H:Hp)(p:Wo)(nu se go a bo mo ke:V):Prop where
 ex:∃dx fs,H p=some (.ins C dx fs)/\fs.lookup ("number":Str)=some nu/\fs.lookup ("sender":Str)=some se/\fs.lookup ("goal":Str)=some go/\fs.lookup ("at":Str)=some a/\fs.lookup ("body":Str)=some bo/\fs.lookup ("more":Str)=some mo/\fs.lookup ("keep":Str)=some ke/\
  fs.lookup ("key":Str)=none/\fs.lookup ("end":Str)=none/\fs.lookup ("is_like":Str)=none
theorem NG.same{C p:Wo}{H H':Hp}{nu se go a bo mo ke:V}(s:∀o,H p=some o->H' p=some o)(h:NG C H p nu se go a bo mo ke):NG C H' p nu se go a bo mo ke:=by
 obtain⟨dx,fs,b,r⟩:=h;exact⟨dx,fs,s _ b,r⟩
inductive Ba(C:Wo)(vs:List V)(H:Hp)(Q:VK)(E:XK):Prop|mk (p dx:Wo) (nu se go:V) (a:Int) (b:Wo) (mo:Bool) (ke:V) (xs:List V) (_:vs=[.ref p,nu,se,go,.int a,.ref b,.bl mo,ke]) (_:H p=some (.ins C dx [])) (_:AU H nu se go (.ref b) ke) (_:N8 H nu se go (.ref b) ke=true) (_:ET (.int a)=true) (_:H b=some (.lst xs)) (_:RL a xs.length mo=true) (_:∀H' b',H b'=none->b'≠p->H' b'=some (.lst xs)->NG C H' p nu se go (.int a) (.ref b') (.bl mo) ke->Jh p H H'->Q .non H')
abbrev WK:Stmt:=Tr (top 34) 0
theorem t6:Jv ["self","number","sender","goal","at","body","more","keep"] ["self","number","sender","goal","at","body","more","keep"] (Wt WK):=by walk_at"e"
theorem uZ {f C : Addr} {fd : FuncData} (F : ∃ (oc : Value) (od : Option Addr) (dV kV doc pm : Value) (an : Option Addr) (cdv ct : Value) (osl : Array (Option Value)),
  fd = W.fnOf "__init__" "Piece.__init__" (Mt WK) (WC WK) (Wt WK) dV kV doc pm an cdv ct /\ K.lookup f = some ⟨oc, od, .func fd, osl⟩ /\ W.codeIn K cdv "Piece.__init__" = true) (L : D5 K C) (B : Bt mg)
  (J2:Nt P w K mg base "are_shared_parts" 5 ["number","sender","goal","body","keep"] [] Ia) (Ta:Nt P w K mg base "is_place" 2 ["at"] [] Ps) (Nc:Nt P w K mg base "is_truth" 1 ["value"] [] Kv)
  (T9:Nt P w K mg base "has_room" 1 ["at","length","more"] [] Oq):WA P w K mg base Je 6 f fd ["self","number","sender","goal","at","body","more","keep"] (Ba C):=by
 obtain⟨oc,od,dV,kV,doc,pm,an,cdv,ct,osl,rfl,lk,hcd⟩:=F;refine R5 lk hcd t6 (fun vs H Q E h=>?_) (fun A r s H vs Q E hr h=>?_)
 .obtain⟨p,dx,nu,se,go,a,b,mo,ke,xs,rfl,_⟩:=h;rfl
 .obtain⟨p,dx,nu,se,go,a,b,mo,ke,xs,rfl,hp,hpl,hgd,hat,hb,v,q⟩:=h
  suffices hh:∃t,Mf (To Je P w K mg base _ "Piece.__init__" (Wt WK) f cdv A r s H E).nox (WC WK) t/\t {nx:=fun _ H'=>Q .non H',rt:=Q} (L2.start _ _) H by
   obtain⟨t,h1,h2⟩:=hh;exact⟨t,h1.nox,h2⟩
  refine⟨_,(WN (Nf (TL (Te (N7 J2 hr.m rfl (WH 1 (WH 2 (WH 3 (WH 5 (WH 7 Wy)))))))) Gm Nr) (WN (Nf (PW.pt (DQ (TL (Te (N7 Ta hr.m rfl (WH 4 Wy)))) (DQ (TL (Te (N7 Nc hr.m rfl (WH 6 Wy)))) (GH (TL (Te (N7 T9 hr.m rfl (WH 4 (Mj (Nh (D6 (D3 (K:=K) rfl)) B.len (WH 5 Wy)) (WH 6 Wy)))))))))) Gm Nr) (WN (DU (K:=K) rfl (Wu 0) (Wu 1) rfl) (WN (DU (K:=K) rfl (Wu 0) (Wu 2) rfl) (WN (DU (K:=K) rfl (Wu 0) (Wu 3) rfl) (WN (DU (K:=K) rfl (Wu 0) (Wu 4) rfl) (WN (DU (K:=K) rfl (Wu 0) (RK (IM (K:=K) rfl) rfl B.blist (by rfl) (WH 5 Wy)) rfl) (WN (DU (K:=K) rfl (Wu 0) (Wu 6) rfl) (WV (DU (K:=K) rfl (Wu 0) (Wu 7) rfl)))))))))),?_⟩;refine Ju fun N n=>?_
  walk_at"rd";refine⟨nu,se,go,.ref b,ke,rfl,hpl,fun H1 s1=>⟨_,rfl,?_⟩⟩;rw[hgd];simp only[Bool.not_true,Bool.false_eq_true,if_false];refine n _ _ ?_;clear n N;refine Ju fun N n=>?_
  walk_at"rd";refine ⟨.int a, _, rfl, rfl, _, rfl, ?_⟩;rw [hat];simp only [Bool.not_true, Bool.false_eq_true, if_false];refine ⟨.bl mo, _, rfl, rfl, _, rfl, ?_⟩;have hp1 := s1 p _ hp;have hb1 := s1 b _ hb;have i : b ≠ p := Wv hb hp (by intro z; cases z);have j : ([] : List (Str × V)).length <= 0 := Y5 0;simp only [Ru, Bool.not_true, Bool.false_eq_true, if_false];refine ⟨_, .inl (WB.of hb1), a, _, mo, rfl, _, rfl, ?_⟩;rw [v];simp only [Bool.not_true, Bool.false_eq_true, if_false];refine n _ _ ?_;clear n N;walk_at"rd";refine ⟨C, dx, [], hp1, L.cl, L.number, by decide, C, dx, _, Jn, L.cl, L.sender, Yg (J6 j) (by decide), C, dx, _, Jn, L.cl, L.goal, Yg (J6 (J6 j)) (by decide), C, dx, _, Jn, L.cl, L.at', Yg (J6 (J6 (J6 j))) (by decide), xs,
   .inl (WB.of (by rw [WM i, WM i, WM i, WM i]; exact hb1)), fun l hl => ?_⟩
  have d:l≠p:=fun z=>by rw[z,Jn]at hl;cases hl
  have hl1:H1 l=none:=by rw[WM d,WM d,WM d,WM d]at hl;exact hl
  refine⟨C,dx,_,by rw[WM (Ne.symm d)];exact Jn,L.cl,L.body,Yg (J6 (J6 (J6 (J6 j)))) (by decide),C,dx,_,Jn,L.cl,L.more,Yg (J6 (J6 (J6 (J6 (J6 j))))) (by decide),C,dx,_,Jn,L.cl,L.keep,Yg (J6 (J6 (J6 (J6 (J6 (J6 j)))))) (by decide),?_⟩;refine q _ l (s1.free hl1) d (by rw[WM d,WM d,WM d,Jn]) ⟨dx,_,Jn,?_,?_,?_,?_,?_,?_,?_,?_,?_,?_⟩ ?_
  .rw[WT,WT,WT,WT,WT,WT,TV] <;> decide +kernel
  .rw[WT,WT,WT,WT,WT,TV] <;> decide +kernel
  .rw[WT,WT,WT,WT,TV] <;> decide +kernel
  .rw[WT,WT,WT,TV] <;> decide +kernel
  .rw[WT,WT,TV] <;> decide +kernel
  .rw[WT,TV] <;> decide +kernel
  .rw[TV]
  .rw[WT,WT,WT,WT,WT,WT,WT] <;> first|rfl|decide +kernel
  .rw[WT,WT,WT,WT,WT,WT,WT] <;> first|rfl|decide +kernel
  .rw[WT,WT,WT,WT,WT,WT,WT] <;> first|rfl|decide +kernel
  .intro c o e g;rw[WM g,WM g,WM g,WM (No (s1 c o e) hl1),WM g,WM g,WM g,WM g];exact s1 c o e
inductive FG(C:Wo)(vs:List V)(H:Hp)(Q:VK)(E:XK):Prop|mk (p nu se go a bo mo ke:_) (_:vs=[.ref p]) (_:NG C H p nu se go a bo mo ke) (_:∀t,H t=none->Q (.ref t) (upd H t (.tup [nu,se,go])))
abbrev IF:Stmt:=Tr (top 34) 1
theorem Z1:Jv ["self"] ["self"] (Wt IF):=by walk_at"e"
theorem mQ{f C:Wo}{fd:Wj}(F:JL K "key" "Piece.key" IF f fd)(L:D5 K C):WA P w K mg base Je 1 f fd ["self"] (FG C):=by
 refine F.ok Z1 (fun vs H Q E h=>?_) (fun r A e s H vs Q E v h=>?_)
 .obtain⟨p,d,c,go,a,o,g,i,rfl,_⟩:=h;rfl
 .obtain⟨p,d,c,go,a,o,g,i,rfl,⟨dx,fs,b,n,l,j,_⟩,q⟩:=h;refine⟨_,(WV (Jr (d5 (MK (Bo (K:=K) rfl (Wu 0) rfl) (MK (Bo (K:=K) rfl (Wu 0) rfl) (MK (Bo (K:=K) rfl (Wu 0) rfl) Wy)))))),?_⟩;walk_at"rd";exact⟨C,dx,fs,b,L.cl,L.number,d,n,C,dx,fs,b,L.cl,L.sender,c,l,C,dx,fs,b,L.cl,L.goal,go,j,Ny (by decide),q⟩
inductive Ez(C:Wo)(vs:List V)(H:Hp)(Q:VK)(E:XK):Prop|mk (p:Wo) (nu se go:V) (a:Int) (b:Wo) (mo ke:V) (xs:List V) (_:vs=[.ref p]) (_:NG C H p nu se go (.int a) (.ref b) mo ke) (_:H b=some (.lst xs)) (_:Q (.int (a+ xs.length)) H)
abbrev HH:Stmt:=Tr (top 34) 2
theorem vH:Jv ["self"] ["self"] (Wt HH):=by walk_at"e"
theorem yG{f C:Wo}{fd:Wj}(F:JL K "end" "Piece.end" HH f fd)(L:D5 K C)(B:Bt mg):WA P w K mg base Je 1 f fd ["self"] (Ez C):=by
 refine F.ok vH (fun vs H Q E h=>?_) (fun r A d s H vs Q E v h=>?_)
 .obtain⟨p,g,e,go,a,bo,i,j,xs,rfl,_⟩:=h;rfl
 .obtain⟨p,g,e,go,a,b,i,j,xs,rfl,⟨dx,fs,c,f1,f2,z,o,n,_⟩,l,q⟩:=h;refine⟨_,(WV (Jr (JJ (Nm MY) (Bo (K:=K) rfl (Wu 0) rfl) (Nh (D6 (D3 (K:=K) rfl)) B.len (MK (Bo (K:=K) rfl (Wu 0) rfl) Wy))))),?_⟩;walk_at"rd";exact⟨C,dx,fs,c,L.cl,L.at',_,o,C,dx,fs,c,L.cl,L.body,_,n,b,rfl,xs,.inl (WB.of l),a,rfl,q⟩
def Df(H:Hp)(a:Wo):Prop:=(∃n,H a=some (.lst [.int n]))\/∃n m c,H a=some (.lst [.int n,.int m,.int c])
theorem vK(x y:Int):Gy (x%2147483647) y:=.inl ⟨by have:=V8 x (show(2147483647:Int)≠0 by decide);lia,by have:=Vn x (show(0:Int) < 2147483647 by decide);lia⟩
def N6(z:Str):Prop:=1 <=z.length/\z.length <=8/\z.cps.toList.all EC=true
theorem N6.is{z:Str}(h:N6 z):MH (.str z)=true:=by
 obtain⟨h1,h2,a⟩:=h;simp only[MH,h1,h2,a,X3,Bool.and_self]
end
section
variable{K:Wm}
theorem N6.ok{z:Str}(h:N6 z):PyData.strOk z=true:=by
 unfold PyData.strOk;rw[Array.all_eq_true];intro i hi;have a:=Xi.mp h.2.2 (z.cps[i]) (Array.getElem_mem_toList hi);unfold EC at a;simp only[YR,Y9]at a;simp only[Y9];lia
abbrev Ar(nu:Int)(z1 z2:Str):PyData:=.tuple [.int nu,.str z1,.str z2]
theorem Qu{H:Hp}{t:Wo}{nu:Int}{z1 z2:Str}(h:H t=some (.tup [.int nu,.str z1,.str z2])):Dp K H (.ref t) (Ar nu z1 z2):=
 .tup (JV.of h) (.cons (.int _) (.cons (.str _) (.cons (.str _) .nil)))
theorem QX(nu:Int){z1 z2:Str}(h1:N6 z1)(h2:N6 z2):SeqAt.shaped (Ar nu z1 z2)=true:=by
 simp[SeqAt.shaped,PyData.canLay0,PyData.canLayAll0,PyData.depth,PyData.depthAll,h1.ok,h2.ok]
theorem Co{H:Hp}{b:Wo}{ns:Wp}(h:H b=some (.lst (ns.map V.int))):Dp K H (.ref b) (.list (ns.map PyData.int)):=.lst (WB.of h) (NU.ints ns)
theorem QB(ns:Wp):PyData.eqv (.list (ns.map PyData.int)) (.list (ns.map PyData.int))=true:=by
 show PyData.eqvAll _ _=true;rw[W.ked_eqvAll];simp
theorem x4{n:Nat}(h:0 < n):GO n 0=some 0:=by
 have h':(0:Int) < (n:Int):=by lia
 unfold GO;rw[Y3 (by decide),Y3 h'];rfl
theorem nG{α:Type}{x:α}{xs:List α}:Mh (x::xs) 0=some x:=by
 unfold Mh;rw[List.length_cons,x4 (Nat.succ_pos _)];rfl
theorem PF{H:Hp}{nu:Int}{z1 z2:Str}{b:Wo}{ns:Wp}{k:Bool}(h0:0 <=nu)(h1:nu <=65535)(n1:N6 z1)(n2:N6 z2)(hb:H b=some (.lst (ns.map V.int)))(l1:1 <=ns.length)(l2:ns.length <=4000)(hns:∀x∈ns,0 <=x/\x <=255):
  AU H (.int nu) (.str z1) (.str z2) (.ref b) (.bl k)/\N8 H (.int nu) (.str z1) (.str z2) (.ref b) (.bl k)=true:=by
 refine⟨⟨⟨_,rfl⟩,⟨_,rfl⟩,fun z e=>?_,⟨_,rfl⟩,fun z e=>?_,⟨_,Qi hb⟩,fun a xs g f=>?_,⟨_,rfl⟩⟩,?_⟩
 .cases e;have:=n1.2.1;lia
 .cases e;have:=n2.2.1;lia
 .cases g;rw[hb]at f;cases f;refine⟨by rw[Y0];lia,fun y c=>?_⟩;obtain⟨i,_,rfl⟩:=Ya.mp c;exact⟨_,rfl⟩
 .unfold N8;rw[n1.is,n2.is,LH hb];have d:(ns.map V.int).all (fun y=>MN y 0 255)=true:=by
   rw[Xi];intro y c;obtain⟨i,hi,rfl⟩:=Ya.mp c;have:=hns i hi;simp[MN,this.1,this.2]
  rw[d];simp[MN,h0,h1,l1,l2,Ru]
end
section
variable{P:Wh}{w:Wl}{K:Wm}{mg:Wd}{base:Wr}
theorem uI(nu:Int)(z1 z2:Str)(nu':Int)(z1' z2':Str):PyData.eqv (Ar nu z1 z2) (Ar nu' z1' z2')=decide (nu=nu'/\z1=z1'/\z2=z2'):=by
 simp only[PyData.eqv,PyData.eqvAll,Bool.and_true];rw[Yz];simp
theorem NX.same{C p:Wo}{H H':Hp}{nu se go bo ke:V}(s:∀o,H p=some o->H' p=some o)(h:NX C H p nu se go bo ke):NX C H' p nu se go bo ke:=by
 obtain⟨dx,fs,a,r⟩:=h;exact⟨dx,fs,s _ a,r⟩
end
structure PD where
 nu:Int
 z1:Str
 z2:Str
 at':Int
 ns:List Int
 mo:Bool
 k:Bool
 deriving DecidableEq
structure PD.Ok(d:PD):Prop where
 n0:0 <=d.nu
 n1:d.nu <=65535
 k1:N6 d.z1
 k2:N6 d.z2
 l1:1 <=d.ns.length
 l2:d.ns.length <=4000
 by':∀x∈d.ns,0 <=x/\x <=255
 a0:0 <=d.at'
 a8:d.at'%8=0
 rm:RL d.at' d.ns.length d.mo=true
structure Jg(C:Wo)(H:Hp)(p b:Wo)(d:PD):Prop where
 ok:d.Ok
 ats:NG C H p (.int d.nu) (.str d.z1) (.str d.z2) (.int d.at') (.ref b) (.bl d.mo) (.bl d.k)
 bd:H b=some (.lst (d.ns.map V.int))
section
variable{P:Wh}{w:Wl}{K:Wm}{mg:Wd}{base:Wr}{C p b:Wo}{H G:Hp}
theorem Jg.mono{d:PD}(s:Ww H G)(h:Jg C H p b d):Jg C G p b d:=⟨h.ok,h.ats.same (s p),s _ _ h.bd⟩
theorem Jg.but{d:PD}{l:Wo}(s:Jh l H G)(h:Jg C H p b d)(n1:p≠l)(n2:b≠l):Jg C G p b d:=⟨h.ok,h.ats.same fun o e=>s p o e n1,s _ _ h.bd n2⟩
theorem Jg.ins{d:PD}(h:Jg C H p b d):∃dx fs,H p=some (.ins C dx fs):=by
 obtain⟨dx,fs,a,_⟩:=h.ats;exact⟨dx,fs,a⟩
theorem BZ{d:PD}(L:D5 K C)(h:Jg C H p b d):Nv K H (.ref p) "at" (.int d.at'):=by
 obtain⟨dx,fs,a,l,j,i,c,g,f,e,_⟩:=h.ats;exact⟨p,C,dx,fs,rfl,a,L.cl,L.at',c⟩
theorem Il{d:PD}(L:D5 K C)(h:Jg C H p b d):Nv K H (.ref p) "body" (.ref b):=by
 obtain⟨dx,fs,a,l,j,i,g,c,f,e,_⟩:=h.ats;exact⟨p,C,dx,fs,rfl,a,L.cl,L.body,c⟩
theorem QA{d:PD}(L:D5 K C)(h:Jg C H p b d):Nv K H (.ref p) "more" (.bl d.mo):=by
 obtain⟨dx,fs,a,l,j,i,g,f,c,e,_⟩:=h.ats;exact⟨p,C,dx,fs,rfl,a,L.cl,L.more,c⟩
theorem KM{d:PD}(h:Jg C H p b d):Ge C "key" H (.ref p):=by
 obtain⟨dx,fs,a,_,_,_,_,_,_,_,f,_⟩:=h.ats;exact⟨p,dx,fs,rfl,a,f⟩
theorem RJ{d:PD}(h:Jg C H p b d):Ge C "end" H (.ref p):=by
 obtain⟨dx,fs,a,_,_,_,_,_,_,_,_,f,_⟩:=h.ats;exact⟨p,dx,fs,rfl,a,f⟩
def PD.key(d:PD):Int×Str×Str:=(d.nu,d.z1,d.z2)
end
section
variable{P:Wh}{w:Wl}{K:Wm}{mg:Wd}{base:Wr}{C:Wo}
inductive IW(C:Wo)(vs:List V)(H:Hp)(Q:VK)(E:XK):Prop|mk (p b:Wo) (d:PD) (_:vs=[.ref p]) (_:Jg C H p b d) (_:∀t G,H t=none->Ww H G->G t=some (.tup [.int d.nu,.str d.z1,.str d.z2])->Q (.ref t) G)
theorem Lx(F:Nq P w K mg base C "key" 1 ["self"] [] (FG C)):Nq P w K mg base C "key" 1 ["self"] [] (IW C):=
 F.imp fun vs H Q E ⟨p,b,d,e,h,q⟩=>⟨p,_,_,_,_,_,_,_,e,h.ats,fun t a=>q t _ a (TZ a) Jn⟩
end
structure LD where
 nu:Int
 z1:Str
 z2:Str
 ns:List Int
 k:Bool
 deriving DecidableEq
structure LD.Ok(d:LD):Prop where
 n0:0 <=d.nu
 n1:d.nu <=65535
 k1:N6 d.z1
 k2:N6 d.z2
 l1:1 <=d.ns.length
 l2:d.ns.length <=4000
 by':∀x∈d.ns,0 <=x/\x <=255
structure MM(C:Wo)(H:Hp)(p b:Wo)(d:LD):Prop where
 ok:d.Ok
 ats:NX C H p (.int d.nu) (.str d.z1) (.str d.z2) (.ref b) (.bl d.k)
 bd:H b=some (.lst (d.ns.map V.int))
section
variable{P:Wh}{w:Wl}{K:Wm}{mg:Wd}{base:Wr}{C p b:Wo}{H G:Hp}
theorem MM.mono{d:LD}(s:Ww H G)(h:MM C H p b d):MM C G p b d:=⟨h.ok,h.ats.same (s p),s _ _ h.bd⟩
theorem MM.ins{d:LD}(h:MM C H p b d):∃dx fs,H p=some (.ins C dx fs):=by
 obtain⟨dx,fs,a,_⟩:=h.ats;exact⟨dx,fs,a⟩
theorem nZ{d:LD}(L:A2 K C)(h:MM C H p b d):Nv K H (.ref p) "body" (.ref b):=by
 obtain⟨dx,fs,a,i,g,f,c,e,_⟩:=h.ats;exact⟨p,C,dx,fs,rfl,a,L.cl,L.body,c⟩
end
section
variable{P:Wh}{w:Wl}{K:Wm}{mg:Wd}{base:Wr}{C:Wo}
def LD.whole(d:LD):PD:=⟨d.nu,d.z1,d.z2,0,d.ns,false,d.k⟩
end
section
variable{P:Wh}{w:Wl}{K:Wm}{mg:Wd}{base:Wr}
def Mb(C:Wo)(H:Hp)(ps:List (Addr×Addr))(ds:List PD):Prop:=Paired (fun(q:Addr×Addr) (d:PD)=>Jg C H q.1 q.2 d) ps ds
theorem Mb.len{C:Wo}{H:Hp}{ps:List (Addr×Addr)}{ds:List PD}(h:Mb C H ps ds):ps.length=ds.length:=Paired.length h
theorem Mb.mono{C:Wo}{H G:Hp}{ps:List (Addr×Addr)}{ds:List PD}(s:Ww H G)(h:Mb C H ps ds):Mb C G ps ds:=by
 induction h with
 |nil=>exact .nil
 |cons r _ ih=>exact .cons (r.mono s) ih
theorem Mb.get{C:Wo}{H:Hp}{ps:List (Addr×Addr)}{ds:List PD}(h:Mb C H ps ds){i:Nat}{q:Addr×Addr}(e:ps[i]?=some q):∃d,ds[i]?=some d/\Jg C H q.1 q.2 d:=by
 induction h generalizing i with
 |nil=>simp at e
 |cons r _ ih=>
  cases i with
  |zero=>
   simp only[List.getElem?_cons_zero,Option.some.injEq]at e;subst e;exact⟨_,rfl,r⟩
  |succ i=>exact ih (by simpa using e)
def M8(ps:List (Addr×Addr)):List V:=ps.map fun q=>V.ref q.1
theorem Kf(ps:List (Addr×Addr)):(M8 ps).length=ps.length:=Y0 ..
theorem FI{ps:List (Addr×Addr)}{i:Nat}{x:V}(h:(M8 ps)[i]?=some x):∃q,ps[i]?=some q/\x= .ref q.1:=by
 unfold M8 at h;rw[Yc]at h;cases e:ps[i]? with
 |none=>rw[e]at h;cases h
 |some q=>rw[e]at h;exact⟨q,rfl,(Option.some.inj h).symm⟩
inductive Kz(C:Wo)(vs:List V)(H:Hp)(Q:VK)(E:XK):Prop|mk (p b:Wo) (d:PD) (_:vs=[.ref p]) (_:Jg C H p b d) (_:Q (.int (d.at'+ d.ns.length)) H)
theorem LA{C:Wo}(F:Nq P w K mg base C "end" 1 ["self"] [] (Ez C)):Nq P w K mg base C "end" 1 ["self"] [] (Kz C):=
 F.imp fun vs H Q E ⟨p,b,d,e,h,q⟩=>⟨p,_,_,_,d.at',b,_,_,_,e,h.ats,h.bd,by rw[Y0];exact q⟩
end
def T7:List (Int×Int)->Prop
 |[]=>True
 |p::r=>p.1 < p.2/\(∀q∈r,p.2 < q.1)/\T7 r
def Jo(c:List (Int×Int))(x:Int):Prop:=∃p∈c,p.1 <=x/\x < p.2
theorem TM(x:Int):¬Jo [] x:=by rintro⟨p,hp,_⟩;exact nomatch hp
theorem WQ{p:Int×Int}{r:List (Int×Int)}{x:Int}:Jo (p::r) x↔(p.1 <=x/\x < p.2)\/Jo r x:=by
 constructor
 .rintro⟨q,hq,h⟩;rcases Yp.mp hq with rfl|hq
  .exact .inl h
  .exact .inr ⟨q,hq,h⟩
 .rintro(h|⟨q,hq,h⟩)
  .exact⟨p,Ys,h⟩
  .exact⟨q,Yi _ hq,h⟩
theorem Bl{c d:List (Int×Int)}{x:Int}:Jo (c++d) x↔Jo c x\/Jo d x:=by
 induction c with
 |nil=>simp[TM]
 |cons p r ih=>rw[List.cons_append,WQ,WQ,ih,or_assoc]
theorem AG{p:Int×Int}{r:List (Int×Int)}(h:∀q∈r,p.2 < q.1){x:Int}(hx:Jo r x):p.2 < x:=by
 obtain⟨q,a,h1,h2⟩:=hx;have:=h q a
 lia
theorem IN:∀{c d:List (Int×Int)},T7 c->T7 d->(∀x,Jo c x↔Jo d x)->c=d
 |[],[],_,_,_=>rfl
 |[],q::d,_,hd,h=>by
  exact absurd ((h q.1).mpr (WQ.mpr (.inl ⟨YJ _,hd.1⟩))) (TM _)
 |p::c,[],hc,_,h=>by
  exact absurd ((h p.1).mp (WQ.mpr (.inl ⟨YJ _,hc.1⟩))) (TM _)
 |p::c,q::d,hc,hd,h=>by
  obtain⟨hp,hpc,hc'⟩:=hc;obtain⟨j,g,i⟩:=hd;have key:∀x,(p.1 <=x/\x < p.2)\/Jo c x↔(q.1 <=x/\x < q.2)\/Jo d x:=fun x=>by rw[<-WQ,<-WQ];exact h x
  have f:∀{x},Jo c x->p.2 < x:=fun a=>AG hpc a
  have b:∀{x},Jo d x->q.2 < x:=fun a=>AG g a
  have n:p.1=q.1:=by
   have h1:=(key p.1).mp (.inl ⟨YJ _,hp⟩);have h2:=(key q.1).mpr (.inl ⟨YJ _,j⟩);rcases h1 with h1|h1
   .rcases h2 with h2|h2
    .lia
    .have:=f h2;lia
   .have:=b h1;rcases h2 with h2|h2
    .lia
    .have:=f h2;lia
  have l:p.2=q.2:=by
   have h1:¬p.2 < q.2:=fun z=>by
    rcases(key p.2).mpr (.inl ⟨by lia,z⟩) with h|h
    .lia
    .have:=f h;lia
   have h2:¬q.2 < p.2:=fun z=>by
    rcases(key q.2).mp (.inl ⟨by lia,z⟩) with h|h
    .lia
    .have:=b h;lia
   lia
  have e:p=q:=UB n l;subst e
  congr 1
  refine IN hc' i fun x=>?_
  constructor
  .intro a;have:=f a;rcases(key x).mp (.inr a) with z|z
   .lia
   .exact z
  .intro a;have:=b a;rcases(key x).mpr (.inr a) with z|z
   .lia
   .exact z
theorem Ix{c:List (Int×Int)}{p:Int×Int}(hc:T7 c)(hp:p.1 < p.2)(h:∀q∈c,q.2 < p.1):T7 (c++[p]):=by
 induction c with
 |nil=>exact⟨hp,fun _ h=>(nomatch h),trivial⟩
 |cons a r ih=>
  obtain⟨h1,h2,d⟩:=hc;refine⟨h1,fun q b=>?_,ih d fun q b=>h q (Yi _ b)⟩;rcases Yj.mp b with b|b
  .exact h2 q b
  .rw[Y8.mp b];exact h a Ys
theorem Sk{c d:List (Int×Int)}(hc:T7 c)(hd:T7 d)(h:∀p∈c,∀q∈d,p.2 < q.1):T7 (c++d):=by
 induction c with
 |nil=>exact hd
 |cons a r ih=>
  obtain⟨h1,h2,f⟩:=hc;refine⟨h1,fun q b=>?_,ih f fun p e=>h p (Yi _ e)⟩;rcases Yj.mp b with b|b
  .exact h2 q b
  .exact h a Ys q b
structure WS where
 ah:List (Int×Int)
 lo:Int
 hi:Int
 be:List (Int×Int)
def Th(s:WS)(p:Int×Int):WS:=
 if p.2 < s.lo then {s with ah:=s.ah++[p]} else if p.1 > s.hi then {s with be:=s.be++[p]} else {s with lo:=min s.lo p.1,hi:=max s.hi p.2}
def RW(c:List (Int×Int))(lo hi:Int):WS:=c.foldl Th ⟨[],lo,hi,[]⟩
def JF(c:List (Int×Int))(lo hi:Int):List (Int×Int):=(RW c lo hi).ah++[((RW c lo hi).lo,(RW c lo hi).hi)]++(RW c lo hi).be
structure Bk(lo hi:Int)(pre:List (Int×Int))(s:WS)(c:List (Int×Int)):Prop where
 cov:T7 c
 ca:T7 s.ah
 cb:T7 s.be
 lh:s.lo < s.hi
 al:∀p∈s.ah,p.2 < s.lo
 bh:∀p∈s.be,s.hi < p.1
 ac:∀p∈s.ah,∀q∈c,p.2 < q.1
 bc:∀p∈s.be,∀q∈c,p.2 < q.1
 bc2:s.be≠[]->∀q∈c,s.hi < q.1
 gl:s.lo=lo\/∀q∈c,s.lo < q.1
 gh:s.hi=hi\/∀q∈c,s.hi < q.1
 le:s.lo <=lo/\hi <=s.hi
 mem:∀x,(Jo s.ah x\/(s.lo <=x/\x < s.hi)\/Jo s.be x)↔(Jo pre x\/(lo <=x/\x < hi))
theorem uH{lo hi:Int}{pre:List (Int×Int)}{s:WS}{p:Int×Int}{r:List (Int×Int)}(h:Bk lo hi pre s (p::r)):Bk lo hi (pre++[p]) (Th s p) r:=by
 obtain⟨⟨hp,d,l⟩,o,cb,lh,w,bh,i,v,j,gl,n,le,mem⟩:=h;have f:∀x,Jo (pre++[p]) x↔Jo pre x\/(p.1 <=x/\x < p.2):=fun x=>by
  rw[Bl,WQ];simp[TM]
 unfold Th
 by_cases h1:p.2 < s.lo
 .rw[Y3 h1];have acp:=fun q b=>i q b p Ys
  refine⟨l,Ix o hp acp,cb,lh,?_,bh,?_,fun a c q b=>v a c q (Yi _ b),fun z q b=>j z q (Yi _ b),?_,?_,le,fun x=>?_⟩
  .intro q b;rcases Yj.mp b with b|b
   .exact w q b
   .rw[Y8.mp b];exact h1
  .intro q b a c;rcases Yj.mp b with b|b
   .exact i q b a (Yi _ c)
   .rw[Y8.mp b];exact d a c
  .rcases gl with g|g
   .exact .inl g
   .exact .inr fun q b=>g q (Yi _ b)
  .rcases n with g|g
   .exact .inl g
   .exact .inr fun q b=>g q (Yi _ b)
  .rw[f];have m:=mem x;show(Jo (s.ah++[p]) x\/_)↔_;rw[Bl,WQ];simp only[TM,VE];constructor
   .rintro((z|z)|z)
    .rcases m.mp (.inl z) with y|y
     .exact .inl (.inl y)
     .exact .inr y
    .exact .inl (.inr z)
    .rcases m.mp (.inr z) with y|y
     .exact .inl (.inl y)
     .exact .inr y
   .rintro((z|z)|z)
    .rcases m.mpr (.inl z) with y|y
     .exact .inl (.inl y)
     .exact .inr y
    .exact .inl (.inr z)
    .rcases m.mpr (.inr z) with y|y
     .exact .inl (.inl y)
     .exact .inr y
 .rw[Y2 h1]
  by_cases h2:p.1 > s.hi
  .rw[Y3 h2];refine⟨l,o,Ix cb hp fun q b=>v q b p Ys,lh,w,?_,fun q b a c=>i q b a (Yi _ c),?_,?_,?_,?_,le,fun x=>?_⟩
   .intro q b;rcases Yj.mp b with b|b
    .exact bh q b
    .rw[Y8.mp b];exact h2
   .intro q b a c;rcases Yj.mp b with b|b
    .exact v q b a (Yi _ c)
    .rw[Y8.mp b];exact d a c
   .intro _ q b;have:=d q b;show s.hi < q.1
    lia
   .rcases gl with g|g
    .exact .inl g
    .exact .inr fun q b=>g q (Yi _ b)
   .rcases n with g|g
    .exact .inl g
    .exact .inr fun q b=>g q (Yi _ b)
   .rw[f];have m:=mem x;show(_\/_\/Jo (s.be++[p]) x)↔_;rw[Bl,WQ];simp only[TM,VE];constructor
    .rintro(z|z|z|z)
     .rcases m.mp (.inl z) with y|y
      .exact .inl (.inl y)
      .exact .inr y
     .rcases m.mp (.inr (.inl z)) with y|y
      .exact .inl (.inl y)
      .exact .inr y
     .rcases m.mp (.inr (.inr z)) with y|y
      .exact .inl (.inl y)
      .exact .inr y
     .exact .inl (.inr z)
    .rintro((z|z)|z)
     .rcases m.mpr (.inl z) with y|y|y
      .exact .inl y
      .exact .inr (.inl y)
      .exact .inr (.inr (.inl y))
     .exact .inr (.inr (.inr z))
     .rcases m.mpr (.inr z) with y|y|y
      .exact .inl y
      .exact .inr (.inl y)
      .exact .inr (.inr (.inl y))
  .rw[Y2 h2];have e:s.be=[]:=by
    cases hb:s.be with
    |nil=>rfl
    |cons a t=>
     have:=j (by rw[hb];simp) p Ys;exact absurd this (by lia)
   refine⟨l,o,by rw[e];trivial,by show min s.lo p.1 < max s.hi p.2;lia,?_,by rw[e];exact fun _ h=>(nomatch h),fun q b a c=>i q b a (Yi _ c),by rw[e];exact fun _ h=>(nomatch h),fun z=>absurd e z,?_,?_,?_,fun x=>?_⟩
   .intro q b;have h3:=w q b;have h4:=i q b p Ys;show q.2 < min s.lo p.1
    lia
   .show min s.lo p.1=lo\/∀q∈r,min s.lo p.1 < q.1;exact .inr fun q b=>by have:=d q b;lia
   .show max s.hi p.2=hi\/∀q∈r,max s.hi p.2 < q.1;rcases n with g|g
    .by_cases h5:p.2 <=s.hi
     .exact .inl (by lia)
     .exact .inr fun q b=>by have:=d q b;lia
    .exact .inr fun q b=>by have h6:=g q (Yi _ b);have:=d q b;lia
   .show min s.lo p.1 <=lo/\hi <=max s.hi p.2
    lia
   .rw[f];have m:=mem x;rw[e]at m ⊢;show(Jo s.ah x\/(min s.lo p.1 <=x/\x < max s.hi p.2)\/Jo [] x)↔_;simp only[TM,VE]at m ⊢;constructor
    .rintro(z|z)
     .rcases m.mp (.inl z) with y|y
      .exact .inl (.inl y)
      .exact .inr y
     .by_cases h7:s.lo <=x/\x < s.hi
      .rcases m.mp (.inr h7) with y|y
       .exact .inl (.inl y)
       .exact .inr y
      .exact .inl (.inr (by lia))
    .rintro((z|z)|z)
     .rcases m.mpr (.inl z) with y|y
      .exact .inl y
      .exact .inr (by lia)
     .exact .inr (by lia)
     .rcases m.mpr (.inr z) with y|y
      .exact .inl y
      .exact .inr (by lia)
theorem Qd{lo hi:Int}:∀{pre c:List (Int×Int)} {s:WS},Bk lo hi pre s c->Bk lo hi (pre++c) (c.foldl Th s) []
 |pre,[],s,h=>by rw[List.append_nil];exact h
 |pre,p::r,s,h=>by
  have:=Qd (uH h);rw[List.append_assoc]at this;exact this
theorem Lv{c:List (Int×Int)}{lo hi:Int}(hc:T7 c)(h:lo < hi):T7 (JF c lo hi)/\∀x,Jo (JF c lo hi) x↔Jo c x\/(lo <=x/\x < hi):=by
 have j:Bk lo hi [] ⟨[],lo,hi,[]⟩ c:=⟨hc,trivial,trivial,h,fun _ z=>(nomatch z),fun _ z=>(nomatch z),fun _ z=>(nomatch z),fun _ z=>(nomatch z),fun z=>absurd rfl z,.inl rfl,.inl rfl,⟨YJ _,YJ _⟩,fun x=>by simp[TM]⟩;have h1:=Qd j;rw[List.nil_append]at h1;obtain⟨_,f,e,d,b,g,_,_,_,_,_,_,mem⟩:=h1;unfold JF RW;generalize List.foldl Th ⟨[],lo,hi,[]⟩ c=s at f e d b g mem ⊢;refine⟨Sk (Ix f d b) e fun p a q i=>?_,fun x=>?_⟩
 .have:=g q i;rcases Yj.mp a with a|a
  .have:=b p a;lia
  .rw[Y8.mp a];exact this
 .rw[Bl,Bl,WQ,<-mem x,or_assoc];simp[TM]
def total(c:List (Int×Int)):Int:=(c.map fun p=>p.2 - p.1).sum
def NO(e:Int)(re:Int):List (Int×Int)->List (Int×Int)
 |[]=>if re < e then [(re,e)] else []
 |p::r=>if e <=p.1 then(if re < e then [(re,e)] else []) else(if re < p.1 then [(re,p.1)] else [])++NO e p.2 r
theorem CZ{e:Int}:∀{c:List (Int×Int)} {re:Int},T7 c->(∀p∈c,re <=p.1)->T7 (NO e re c)/\(∀q∈NO e re c,re <=q.1)/\∀x,Jo (NO e re c) x↔(re <=x/\x < e/\¬Jo c x):=by
 have last:∀ (c:List (Int×Int)) (re:Int),(∀x,x < e->¬Jo c x)->T7 (if re < e then [(re,e)] else [])/\(∀q∈(if re < e then [(re,e)] else []),re <=q.1)/\∀x,Jo (if re < e then [(re,e)] else []) x↔(re <=x/\x < e/\¬Jo c x):=by
  intro c re i
  by_cases h:re < e
  .rw[Y3 h];refine⟨⟨h,fun _ z=>(nomatch z),trivial⟩,fun q a=>by rw[Y8.mp a];exact YJ _,fun x=>?_⟩;rw[WQ];simp only[TM,VE];exact⟨fun z=>⟨z.1,z.2,i x z.2⟩,fun z=>⟨z.1,z.2.1⟩⟩
  .rw[Y2 h];refine⟨trivial,fun _ z=>(nomatch z),fun x=>⟨fun z=>absurd z (TM _),fun z=>by lia⟩⟩
 intro c
 induction c with
 |nil=>intro re _ _;exact last [] re fun x _=>TM x
 |cons p r ih=>
  intro re i o;obtain⟨h1,h2,v⟩:=i;unfold NO
  by_cases he:e <=p.1
  .rw[Y3 he];refine last (p::r) re fun x n s=>?_
   rcases WQ.mp s with z|z
   .lia
   .have:=AG h2 z;lia
  .rw[Y2 he];obtain⟨l,g,j⟩:=ih v (re:=p.2) fun q a=>Wa (h2 q a)
   have w:=o p Ys
   by_cases hr:re < p.1
   .rw[Y3 hr];refine⟨⟨hr,fun q a=>by have:=g q a;show p.1 < q.1;lia,l⟩,fun q a=>?_,fun x=>?_⟩
    .rcases Yp.mp a with rfl|a
     .exact YJ _
     .have:=g q a;lia
    .show Jo ((re,p.1)::NO e p.2 r) x↔_;rw[WQ,j,WQ];constructor
     .rintro(z|⟨f,d,b⟩)
      .refine⟨z.1,by have:=z.2;lia,?_⟩;rintro(y|y)
       .have:=z.2;lia
       .have:=AG h2 y;have:=z.2;lia
      .exact⟨by lia,d,by rintro(y|y);lia;exact b y⟩
     .rintro⟨f,d,b⟩
      by_cases n:x < p.1
      .exact .inl ⟨f,n⟩
      .exact .inr ⟨by
        by_cases hx2:x < p.2
        .exact absurd (.inl ⟨by lia,hx2⟩) b
        .lia, d, fun y => b (.inr y)⟩
   .rw[Y2 hr];refine⟨l,fun q a=>by have:=g q a;lia,fun x=>?_⟩;rw[List.nil_append,j,WQ];constructor
    .rintro⟨f,d,b⟩;exact⟨by lia,d,by rintro(y|y);lia;exact b y⟩
    .rintro ⟨f, d, b⟩;exact ⟨by
      by_cases hx2:x < p.2
      .exact absurd (.inl ⟨by lia,hx2⟩) b
      .lia, d, fun y => b (.inr y)⟩
def Nk(re:Int):List (Int×Int)->Int
 |[]=>re
 |p::r=>Nk p.2 r
theorem Ko:∀{c:List (Int×Int)} {re:Int},T7 c->(∀x,Jo c x->x < Nk re c)/\(c≠[]->Jo c (Nk re c - 1))/\(∀p∈c,p.1 < Nk re c)
 |[],re,_=>⟨fun x z=>absurd z (TM _),fun z=>absurd rfl z,fun _ z=>(nomatch z)⟩
 |p::r,re,hc=>by
  obtain⟨h1,h2,h3⟩:=hc;obtain⟨e,d,b⟩:=Ko (re:=p.2) h3;have f:p.2 <=Nk p.2 r:=by
   cases r with
   |nil=>exact YJ _
   |cons q t=>have:=b q Ys;have:=h2 q Ys;lia
  refine⟨fun x z=>?_,fun _=>?_,fun q a=>?_⟩
  .show x < Nk p.2 r;rcases WQ.mp z with y|y
   .lia
   .exact e x y
  .show Jo (p::r) (Nk p.2 r - 1);rw[WQ];cases r with
   |nil=>exact .inl ⟨by show p.1 <=p.2 - 1;lia,by show p.2 - 1 < p.2;lia⟩
   |cons q t=>exact .inr (d (by simp))
  .show q.1 < Nk p.2 r;rcases Yp.mp a with rfl|a
   .lia
   .exact b q a
def GE(e:Option Int)(p:Int×Int):Bool:=match e with
 |none=>false
 |some x=>decide (x <=p.1)
def Q3(e:Option Int)(re:Int):List (Int×Option Int):=match e with
 |none=>[(re,none)]
 |some x=>if re < x then [(re,some x)] else []
def WR(e:Option Int)(re:Int):List (Int×Int)->List (Int×Option Int)
 |[]=>Q3 e re
 |p::r=>if GE e p=true then Q3 e re else(if re < p.1 then [(re,some p.1)] else [])++WR e p.2 r
def Ti(c:List (Int×Int)):List (Int×Option Int):=c.map fun p=>(p.1,some p.2)
theorem RN(c d:List (Int×Int)):Ti (c++d)=Ti c++Ti d:=Yn
theorem Fc(e:Int):∀ (c:List (Int×Int)) (re:Int),WR (some e) re c=Ti (NO e re c)
 |[],re=>by
  show(if re < e then [(re,some e)] else [])=Ti (if re < e then [(re,e)] else [])
  split <;> rfl
 |p::r,re=>by
  unfold WR NO;have es:GE (some e) p=decide (e <=p.1):=rfl;rw[es]
  by_cases h:e <=p.1
  .rw[Y3 (by simpa using h),Y3 h];show(if re < e then [(re,some e)] else [])=_
   split <;> rfl
  .rw[Y2 (by simpa using h),Y2 h,Fc e r p.2,RN]
   congr 1
   split <;> rfl
theorem Au:∀{c:List (Int×Int)} {re:Int},T7 c->WR none re c=Ti (NO (Nk re c) re c)++[(Nk re c,none)]
 |[],re,_=>by
  show [(re,none)]=Ti (if re < re then [(re,re)] else [])++[(re,none)];rw[Y2 (by lia)];rfl
 |p::r,re,hc=>by
  have h3:=(Ko (re:=re) hc).2.2 p Ys;unfold WR NO;rw[Y2 (show ¬GE none p=true from Yf),Au (re:=p.2) hc.2.2];have a:Nk re (p::r)=Nk p.2 r:=rfl;rw[a]at h3 ⊢;rw[Y2 (show ¬Nk p.2 r <=p.1 by lia),RN,List.append_assoc]
  congr 1
  split <;> rfl
def oV:Option Int->V
 |none=>.non
 |some n=>.int n
def AX(H:Hp)(x:V)(p:Int×Option Int):Prop:=∃t,x= .ref t/\H t=some (.tup [.int p.1,oV p.2])
def JY(H:Hp)(xs:List V)(c:List (Int×Option Int)):Prop:=Paired (fun x p=>AX H x p) xs c
def JE(H:Hp)(l:Wo)(c:List (Int×Option Int)):Prop:=∃xs,H l=some (.lst xs)/\JY H xs c
def Ey(H G:Hp):Prop:=∀t xs,H t=some (.tup xs)->G t=some (.tup xs)
section
variable{H G J:Hp}{l l':Wo}{xs ys:List V}{c d:List (Int×Option Int)}
theorem Gk(s:Ww H G):Ey H G:=fun t xs e=>s t _ e
theorem NZ(b:Jh l H G)(h:H l=some (.lst xs)):Ey H G:=fun t ys e=>b t _ e (Wv e h nofun)
theorem Rq{kvs:List (WU×V)}(b:Jh l H G)(h:H l=some (.dK kvs)):Ey H G:=fun t ys e=>b t _ e (Wv e h nofun)
theorem JY.tk(k:Ey H G)(h:JY H xs c):JY G xs c:=by
 induction h with
 |nil=>exact .nil
 |cons r _ ih=>obtain⟨t,e,z⟩:=r;exact .cons ⟨t,e,k _ _ z⟩ ih
theorem JY.len(h:JY H xs c):xs.length=c.length:=Paired.length h
theorem JY.app(h:JY H xs c)(k:JY H ys d):JY H (xs++ys) (c++d):=by
 induction h with
 |nil=>exact k
 |cons r _ ih=>exact .cons r ih
theorem JY.get(h:JY H xs c){i:Nat}{x:V}(e:xs[i]?=some x):∃p,c[i]?=some p/\AX H x p:=by
 induction h generalizing i with
 |nil=>simp at e
 |cons r _ ih=>
  cases i with
  |zero=>simp at e;subst e;exact⟨_,rfl,r⟩
  |succ i=>simp at e;simpa using ih e
theorem JE.same(s:Ww H G)(h:JE H l c):JE G l c:=by
 obtain⟨xs,e,k⟩:=h;exact⟨xs,s _ _ e,k.tk (Gk s)⟩
theorem E8(c:List (Int×Int)):(Ti c).length=c.length:=Y0 ..
theorem LN{c:List (Int×Int)}{i:Nat}{p:Int×Option Int}(e:(Ti c)[i]?=some p):∃q,c[i]?=some q/\p=(q.1,some q.2):=by
 unfold Ti at e;rw[Yc]at e;cases h:c[i]? with
 |none=>rw[h]at e;cases e
 |some q=>rw[h]at e;exact⟨q,rfl,(by simpa using e.symm)⟩
end
section
variable{P:Wh}{w:Wl}{K:Wm}{mg:Wd}{base:Wr}
inductive OG(vs:List V)(H:Hp)(Q:VK)(E:XK):Prop|mk (l t:Wo) (c:List (Int×Int)) (lo hi:Int) (_:vs=[.ref l,.ref t]) (_:JE H l (Ti c)) (_:c.length <=1000) (_:H t=some (.tup [.int lo,.int hi])) (_:∀l' G,H l'=none->Ww H G->JE G l' (Ti (JF c lo hi))->Q (.ref l') G)
abbrev Hz:Stmt:=top 36
theorem RH:Jv ["cover","span","low","high","ahead","behind","one"] ["cover","span"] (Wt Hz):=by walk_at"e"
theorem Zy{f:Wo}{fd:Wj}(F:JL K "with_span" "with_span" Hz f fd)(B:Bt mg):WA P w K mg base Je 1 f fd ["cover","span"] OG:=by
 refine F.ok RH (fun vs H Q E h=>?_) (fun cdv A outer s H vs Q E hr h=>?_)
 .obtain⟨l,t,c,lo,hi,rfl,_⟩:=h;rfl
 .obtain⟨l,t,c,lo,hi,rfl,⟨xs,hl,hc⟩,hz,ht,q⟩:=h;have hlen:xs.length=c.length:=by rw[hc.len,E8]
  refine⟨_,(WN (NL 2 RH (MD K (Wu 1) J1)) (WN (NL 3 RH (MD K (Wu 1) J1)) (WN (NL 4 RH (TD Wy)) (WN (NL 5 RH (TD Wy)) (WN (Gi X4 rfl (GG (K:=K) rfl (Wu 0)) (Mw 6 RH) (WV (Nf (T3 (Nm ER) (MD K (Wu 6) J1) (Wu 2)) (WV (MB (Dt (K:=K) rfl YL YS YT (R4 Rj) (Wu 4) (WH 6 Wy)))) (WV (Nf (T3 (Nm Hq) (MD K (Wu 6) J1) (Wu 3)) (WV (MB (Dt (K:=K) rfl YL YS YT (R4 Rj) (Wu 5) (WH 6 Wy)))) (WN (NL 2 RH (Nh (SQ rfl) B.min (WH 2 (MQ (MD K (Wu 6) J1) Wy)))) (WV (NL 3 RH (Nh (Ls rfl) B.max (WH 3 (MQ (MD K (Wu 6) J1) Wy))))))))))) (WV (Jr (JJ (CB AO) (JJ (CB AO) (Wu 4) (TD (JM (hs:=DY) (MI (WH 2 (WH 3 Wy))) Wy))) (Wu 5))))))))),?_⟩;walk_at"rd";refine⟨_,JV.of ht,_,rfl,_,JV.of ht,_,rfl,Ny (by simp),fun la G1 hla s1 h1=>⟨Ny (by simp),fun lb G2 hlb s2 h2=>⟨⟨_,WB.of (s2 l _ (s1 l _ hl))⟩,?_⟩⟩⟩;have nab:la≠lb:=No h1 hlb;have s02:=s1.trans s2;obtain⟨Pv,n⟩:∃Pv:Nat->L2.St->Hp->Prop,Pv=fun i σ' G=>∃ (st:WS) (v:Option V) (xa z:List V),st=(c.take i).foldl Th ⟨[],lo,hi,[]⟩/\σ'=[some (.ref l),some (.ref t),some (.int st.lo),some (.int st.hi),some (.ref la),some (.ref lb),v]/\Ww H G/\
   G la=some (.lst xa)/\JY G xa (Ti st.ah)/\G lb=some (.lst z)/\JY G z (Ti st.be)/\st.ah.length <=i/\st.be.length <=i:=⟨_,rfl⟩
  have hlb0:H lb=none:=s1.free hlb;refine Fe (xs:=xs) Pv (by rw[n];exact⟨_,none,[],[],rfl,rfl,s02,s2 la _ h1,.nil,h2,.nil,Y5 _,Y5 _⟩) ?_ ?_ ?_ <;> rw[n]
  .rintro i σ' G _ ⟨st,v,xa,z,_,_,o,_⟩;exact WB.of (o l _ hl)
  .rintro i x σ' G hx ⟨st,v,xa,z,est,rfl,o,ha,g,hb,d,la1,lb1⟩;rw[<-n];have hi':i < xs.length:=(Y4.mp hx).1;obtain⟨p',hp',t1,rfl,ht1⟩:=hc.get hx;obtain⟨p,hp,rfl⟩:=LN hp';have b:=o t1 _ ht1;have etake:c.take (i+ 1)=c.take i++[p]:=by rw[XU,hp];rfl
   have r:(c.take (i+ 1)).foldl Th ⟨[],lo,hi,[]⟩=Th st p:=by rw[etake,List.foldl_append,<-est];rfl
   walk_at"rd";refine⟨_,JV.of b,_,rfl,_,rfl,Mv (fun h1=>?_) (fun h1=>?_)⟩
   .have a:p.2 < st.lo:=by simpa using h1
    refine⟨.inl ⟨rfl,_,WB.of ha⟩,_,ha,DV (by have:=g.len;rw[E8]at this;lia),fun G3 b3 h3=>?_⟩;have tk:=NZ b3 ha;rw[n];refine⟨Th st p,some (.ref t1),xa++[.ref t1],z,r.symm,?_,o.butNew b3 hla,h3,?_,b3 lb _ hb (Ne.symm nab),?_,?_,?_⟩
    .unfold Th;rw[Y3 a]
    .have e:(Th st p).ah=st.ah++[p]:=by unfold Th;rw[Y3 a]
     rw[e,RN];exact(g.tk tk).app (.cons ⟨t1,rfl,tk _ _ b⟩ .nil)
    .have e:(Th st p).be=st.be:=by unfold Th;rw[Y3 a]
     rw[e];exact d.tk tk
    .have e:(Th st p).ah=st.ah++[p]:=by unfold Th;rw[Y3 a]
     rw[e];simp;lia
    .have e:(Th st p).be=st.be:=by unfold Th;rw[Y3 a]
     rw[e];lia
   .have a:¬p.2 < st.lo:=by simpa using h1
    refine⟨_,JV.of b,_,rfl,_,rfl,Mv (fun h2=>?_) (fun h2=>?_)⟩
    .have h2':p.1 > st.hi:=by simpa using h2
     refine⟨.inl ⟨rfl,_,WB.of hb⟩,_,hb,DV (by have:=d.len;rw[E8]at this;lia),fun G3 b3 h3=>?_⟩;have tk:=NZ b3 hb;have j:Th st p={st with be:=st.be++[p]}:=by unfold Th;rw[Y2 a,Y3 h2']
     rw[n];refine⟨Th st p,some (.ref t1),xa,z++[.ref t1],r.symm,by rw[j],o.butNew b3 hlb0,b3 la _ ha nab,by rw[j];exact g.tk tk,h3,?_,by rw[j];show st.ah.length <=i+ 1;lia,by rw[j];show(st.be++[p]).length <=i+ 1;simp;lia⟩;rw[j];show JY G3 _ (Ti (st.be++[p]));rw[RN];exact(d.tk tk).app (.cons ⟨t1,rfl,tk _ _ b⟩ .nil)
    .have h2':¬p.1 > st.hi:=by simpa using h2
     have j:Th st p={st with lo:=min st.lo p.1,hi:=max st.hi p.2}:=by unfold Th;rw[Y2 a,Y2 h2']
     refine⟨_,JV.of b,_,rfl,_,rfl,_,JV.of b,_,rfl,_,rfl,?_⟩;rw[n];refine⟨Th st p,some (.ref t1),xa,z,r.symm,?_,o,ha,by rw[j];exact g,hb,by rw[j];exact d,by rw[j];show st.ah.length <=i+ 1;lia,by rw[j];show st.be.length <=i+ 1;lia⟩;rw[j];have e1:(if p.1 < st.lo then p.1 else st.lo)=min st.lo p.1:=by split <;> lia
     have e2:(if p.2 > st.hi then p.2 else st.hi)=max st.hi p.2:=by split <;> lia
     rw[e1,e2]
  .rintro σ' G ⟨st,v,xa,z,est,rfl,o,ha,g,hb,d,la1,lb1⟩;walk_at"rd";have a:=g.len;have h2':=d.len;rw[E8]at a h2';refine⟨Ny (by simp),fun t2 G3 ht2 s3 h3=>⟨Ny (by simp),fun l3 G4 hl3 s4 h4=>⟨_,s4 la _ (s3 la _ ha),_,h4,Ny (by simp;lia),fun l5 G5 hl5 s5 h5=>⟨_,h5,_,s5 lb _ (s4 lb _ (s3 lb _ hb)),Ny (by simp;lia),fun l6 G6 hl6 s6 h6=>?_⟩⟩⟩⟩;have s36:=(s4.trans s5).trans s6;have sG6:=s3.trans s36;refine q l6 G6 ?_ (o.trans sG6) ⟨_,h6,?_⟩
   .exact o.free (s3.free (s4.free (s5.free hl6)))
   .have e:JF c lo hi=st.ah++[(st.lo,st.hi)]++st.be:=by
     unfold JF RW;rw[est,show c.take xs.length=c by rw[hlen,Xj]]
    rw[e,RN,RN];exact((g.tk (Gk sG6)).app (.cons ⟨t2,rfl,s36 t2 _ h3⟩ .nil)).app (d.tk (Gk sG6))
inductive P2(vs:List V)(H:Hp)(Q:VK)(E:XK):Prop|mk (l:Wo) (c:List (Int×Int)) (e:Option Int) (_:vs=[.ref l,oV e]) (_:JE H l (Ti c)) (_:c.length <=1000) (_:∀l' G,H l'=none->Ww H G->JE G l' (WR e 0 c)->Q (.ref l') G)
theorem jN{e:Option Int}{re:Int}{p:Int×Int}{r:List (Int×Int)}(h:GE e p=true):WR e re (p::r)=WR e re []:=by
 show(if GE e p=true then _ else _)=_;rw[Y3 h];rfl
theorem Sa{e:Option Int}{re:Int}{p:Int×Int}{r:List (Int×Int)}(h:GE e p=false):WR e re (p::r)=(if re < p.1 then [(re,some p.1)] else [])++WR e p.2 r:=by
 show(if GE e p=true then _ else _)=_;rw[Y2 (by rw[h];exact Yf)]
abbrev Ir:Stmt:=top 37
theorem EW:Jv ["cover","end","told","reached","low","high"] ["cover","end"] (Wt Ir):=by walk_at"e"
theorem uA{f:Wo}{fd:Wj}(F:JL K "lacking" "lacking" Ir f fd):WA P w K mg base Je 1 f fd ["cover","end"] P2:=by
 refine F.ok EW (fun vs H Q E h=>?_) (fun cdv A outer s H vs Q E hr h=>?_)
 .obtain⟨l,c,e,rfl,_⟩:=h;rfl
 .obtain⟨l,c,e,rfl,⟨xs,hl,hc⟩,hz,q⟩:=h;have hlen:xs.length=c.length:=by rw[hc.len,E8]
  refine⟨_,(WN (NL 2 EW (TD Wy)) (WN (NL 3 EW J1) (WN (Gi X4 rfl (GG (K:=K) rfl (Wu 0)) (Eg (K:=K) (n:=2) rfl rfl (Dn (Mw 4 EW) (Dn (Mw 5 EW) Ee))) (WN (Nf (PW.pt (EG (T3 Bu (Wu 1) DC) (Er (T3 (Nm C9) (Wu 4) (Wu 1))))) (WV Sw) Nr) (WN (Bm (Nf (T3 (Nm Hq) (Wu 4) (Wu 3)) (WV (MB (Dt (K:=K) rfl YL YS YT (R4 Rj) (Wu 2) (JM (hs:=DY) (MI (WH 3 (WH 4 Wy))) Wy)))) Nr)) (WV (NL 3 EW (Wu 5)))))) (WN (Bm (Nf (T3 P8 (Wu 1) DC) (WV (MB (Dt (K:=K) rfl YL YS YT (R4 Rj) (Wu 2) (JM (hs:=DY) (MI (WH 3 (Nz DC Wy))) Wy)))) (WV (Nf (T3 (Nm ER) (Wu 3) (Wu 1)) (WV (MB (Dt (K:=K) rfl YL YS YT (R4 Rj) (Wu 2) (JM (hs:=DY) (MI (WH 3 (WH 1 Wy))) Wy)))) Nr)))) (WV (Jr (Wu 2))))))),?_⟩;refine Ju fun N v=>?_
  walk_at"rd";refine⟨Ny (by simp),fun lt G1 hlt s1 h1=>v _ _ ?_⟩;clear v N;refine Ju fun N v=>?_
  walk_at"rd";refine v _ _ ?_;clear v N;refine Ju fun N v=>?_
  have tail:∀ (t:List (Int×Option Int)) (a:Int) (G:Hp) (j:List V) (v4 v5:Option V),Ww H G->G lt=some (.lst j)->JY G j t->t.length <=1001->WR e 0 c=t++WR e a []->
    N [some (.ref l),some (oV e),some (.ref lt),some (.int a),v4,v5] G:=by
   intro t a G j v4 v5 o r ht hl2 b;refine v _ _ ?_;have hxl:=ht.len;refine Ju fun N v=>?_
   obtain⟨R,eR⟩:∃R:L2.St->Hp->Prop,R=fun σ' G'=>∃g:List V,σ'=[some (.ref l),some (oV e),some (.ref lt),some (.int a),v4,v5]/\Ww H G'/\G' lt=some (.lst g)/\JY G' g (WR e 0 c):=⟨_,rfl⟩
   refine⟨R,?_,fun σ' G' hR=>v _ _ ?_⟩
   rotate_left
   .rw[eR]at hR;obtain⟨g,rfl,sG',hx',ht'⟩:=hR;walk_at"rd";exact q lt G' hlt sG' ⟨g,hx',ht'⟩
   clear v;cases e with
   |none=>
    have d:WR none 0 c=t++[(a,none)]:=b;walk_at"rd";simp only[oV,X3,if_true];refine⟨.inl ⟨rfl,_,WB.of r⟩,Ny (by simp),fun t2 G2 ht2 s2 h2=>⟨_,s2 lt _ r,DV (by lia),fun G3 b3 h3=>?_⟩⟩;have tk:=NZ b3 (s2 lt _ r);rw[eR];refine⟨_,rfl,(o.trans s2).butNew b3 hlt,h3,?_⟩;rw[d];exact((ht.tk (Gk s2)).tk tk).app (.cons ⟨t2,rfl,tk _ _ h2⟩ .nil)
   |some x=>
    have d:WR (some x) 0 c=t++(if a < x then [(a,some x)] else []):=b;walk_at"rd";simp only[oV,reduceCtorEq,X1,Bool.false_eq_true,if_false];refine⟨_,rfl,Mv (fun h=>?_) (fun h=>?_)⟩
    .have h':a < x:=by simpa using h
     rw[Y3 h']at d;refine⟨.inl ⟨rfl,_,WB.of r⟩,Ny (by simp),fun t2 G2 ht2 s2 h2=>⟨_,s2 lt _ r,DV (by lia),fun G3 b3 h3=>?_⟩⟩;have tk:=NZ b3 (s2 lt _ r);rw[eR];refine⟨_,rfl,(o.trans s2).butNew b3 hlt,h3,?_⟩;rw[d];exact((ht.tk (Gk s2)).tk tk).app (.cons ⟨t2,rfl,tk _ _ h2⟩ .nil)
    .have h':¬a < x:=by simpa using h
     rw[Y2 h',List.append_nil]at d;rw[eR];exact⟨j,rfl,o,r,by rw[d];exact ht⟩
  walk_at"rd";refine⟨⟨_,WB.of (s1 l _ hl)⟩,?_⟩;obtain⟨Pv,ePv⟩:∃Pv:Nat->L2.St->Hp->Prop,Pv=fun i σ' G=>∃ (t:List (Int×Option Int)) (a:Int) (j:List V) (v4 v5:Option V),σ'=[some (.ref l),some (oV e),some (.ref lt),some (.int a),v4,v5]/\Ww H G/\G lt=some (.lst j)/\JY G j t/\t.length <=i/\
   WR e 0 c=t++WR e a (c.drop i):=⟨_,rfl⟩
  refine Fe (xs:=xs) Pv (by rw[ePv];exact⟨[],0,[],none,none,rfl,s1,h1,.nil,Y5 _,by simp⟩) ?_ ?_ ?_ <;> rw[ePv]
  .rintro i σ' G _ ⟨t,a,j,v4,v5,_,o,_⟩;exact WB.of (o l _ hl)
  .rintro i x σ' G r ⟨t,a,j,v4,v5,rfl,o,ha,z,hti,b⟩;rw[<-ePv];have hi':i < xs.length:=(Y4.mp r).1;obtain⟨p',hp',t1,rfl,ht1⟩:=hc.get r;obtain⟨p,hp,rfl⟩:=LN hp';have ht1':=o t1 _ ht1;have edrop:c.drop i=p::c.drop (i+ 1):=by
    rw[YO (by lia)]
    congr 1
    have:=Y6 (l:=c) (i:=i) (by lia);rw[this]at hp;exact Option.some.inj hp
   rw[edrop]at b;refine⟨t1,_,rfl,JV.of ht1',rfl,_,_,rfl,_,_,rfl,rfl,?_⟩;refine Ju fun N2 hN2=>?_
   have brk:GE e p=true->N [some (.ref l),some (oV e),some (.ref lt),some (.int a),some (.int p.1),some (.int p.2)] G:=fun hs=>by
    rw[jN hs]at b;exact tail t a G j _ _ o ha z (by lia) b
   have goOn:GE e p=false->N2 [some (.ref l),some (oV e),some (.ref lt),some (.int a),some (.int p.1),some (.int p.2)] G:=fun hs=>by
    rw[Sa hs]at b;have hxl:=z.len;refine hN2 _ _ ?_;refine Ju fun N3 hN3=>?_
    obtain⟨R,eR⟩:∃R:L2.St->Hp->Prop,R=fun σ' G'=>∃ (t':List (Int×Option Int)) (g:List V),σ'=[some (.ref l),some (oV e),some (.ref lt),some (.int a),some (.int p.1),some (.int p.2)]/\Ww H G'/\G' lt=some (.lst g)/\JY G' g t'/\t'.length <=i+ 1/\WR e 0 c=t'++WR e p.2 (c.drop (i+ 1)):=⟨_,rfl⟩
    refine⟨R,?_,fun σ' G' hR=>hN3 _ _ ?_⟩
    rotate_left
    .rw[eR]at hR;obtain⟨t',g,rfl,sG',hx',ht',hl',d⟩:=hR;walk_at"rd";rw[ePv];exact⟨t',p.2,g,_,_,rfl,sG',hx',ht',hl',d⟩
    walk_at"rd";refine Mv (fun h=>?_) (fun h=>?_)
    .have h':a < p.1:=by simpa using h
     rw[Y3 h']at b;refine⟨.inl ⟨rfl,_,WB.of ha⟩,Ny (by decide),fun t2 G2 ht2 s2 h2=>⟨_,s2 lt _ ha,DV (by lia),fun G3 b3 h3=>?_⟩⟩;have tk:=NZ b3 (s2 lt _ ha);rw[eR];refine⟨t++[(a,some p.1)],_,rfl,(o.trans s2).butNew b3 hlt,h3,?_,by simp;lia,by rw[b,List.append_assoc]⟩;exact((z.tk (Gk s2)).tk tk).app (.cons ⟨t2,rfl,tk _ _ h2⟩ .nil)
    .have h':¬a < p.1:=by simpa using h
     rw[Y2 h',List.nil_append]at b;rw[eR];exact⟨t,j,rfl,o,ha,z,by lia,b⟩
   walk_at"rd";cases e with
   |none=>
    simp only[oV,X3,Bool.not_true,Bool.false_eq_true,if_false];exact goOn rfl
   |some x=>
    simp only[oV,reduceCtorEq,X1,Bool.not_false,if_true];refine⟨_,rfl,Mv (fun h=>?_) (fun h=>?_)⟩
    .exact brk h
    .exact goOn (by simpa[GE] using h)
  .rintro σ' G ⟨t,a,j,v4,v5,rfl,o,ha,z,hti,b⟩;exact tail t a G j v4 v5 o ha z (by lia) (by rw[b,UO (by lia)])
end
structure RS where
 st:List (Int×Int)
 cv:List (Int×Int)
 en:Option Int
 re:Int
def Dm(st:List (Int×Int)):List (WU×V):=st.map fun p=>(Sum.inl p.1,V.int p.2)
def Jc(st:List (Int×Int))(n:Int):Option Int:=(st.find? fun p=>decide (p.1=n)).map (·.2)
def DK(st:List (Int×Int))(n b:Int):List (Int×Int):=if(st.any fun p=>decide (p.1=n))=true then st.map (fun p=>if p.1=n then(p.1,b) else p) else st++[(n,b)]
theorem EJ(st:List (Int×Int))(n:Int):J5 (Dm st) (Sum.inl n)=(Jc st n).map V.int:=by
 unfold J5 Dm Jc
 induction st with
 |nil=>rfl
 |cons p r ih=>
  by_cases h:p.1=n
  .simp[YU,h]
  .have h':¬(Sum.inl p.1:WU)=Sum.inl n:=fun z=>h (U9 z)
   simp only[List.map_cons,YU,Yt h,Yt h'];exact ih
theorem Hl(st:List (Int×Int))(n b:Int):Md (Dm st) (Sum.inl n) (V.int b)=Dm (DK st n b):=by
 have e:((Dm st).any fun a=>decide (a.1=(Sum.inl n:WU)))=(st.any fun p=>decide (p.1=n)):=by
  unfold Dm;rw[List.any_map]
  congr 1
  funext p
  show decide ((Sum.inl p.1:WU)=Sum.inl n)=decide (p.1=n);rw[Yz,Y9,Y9];exact⟨U9,X0 _⟩
 unfold Md DK;rw[e]
 by_cases h:(st.any fun p=>decide (p.1=n))=true
 .rw[Y3 h,Y3 h];unfold Dm;rw[YM,YM];apply YV;intro p _;show(if(Sum.inl p.1:WU)=Sum.inl n then((Sum.inl p.1:WU),V.int b) else((Sum.inl p.1:WU),V.int p.2))=((Sum.inl (if p.1=n then(p.1,b) else p).1:WU),V.int (if p.1=n then(p.1,b) else p).2)
  by_cases hp:p.1=n
  .rw[Y3 hp,Y3 (X0 _ hp)]
  .rw[Y2 hp,Y2 (fun z=>hp (U9 z))]
 .rw[Y2 h,Y2 h];unfold Dm;rw[Yn];rfl
theorem Qt(st:List (Int×Int))(n b m:Int):Jc (DK st n b) m=if m=n then some b else Jc st m:=by
 have h:=X0 (fun k=>J5 k (Sum.inl m)) (Hl st n b);rw[mT,EJ,EJ]at h
 by_cases hm:m=n
 .rw[Y3 hm];rw[Y3 (X0 _ hm)]at h;cases e:Jc (DK st n b) m with
  |none=>rw[e]at h;cases h
  |some x=>rw[e]at h;have:=Option.some.inj h;rw[V.int.injEq]at this;rw[<-this]
 .rw[Y2 hm];rw[Y2 (fun z=>hm (U9 z))]at h;cases e:Jc (DK st n b) m with
  |none=>
   rw[e]at h;cases e2:Jc st m with
   |none=>rfl
   |some y=>rw[e2]at h;cases h
  |some x=>
   rw[e]at h;cases e2:Jc st m with
   |none=>rw[e2]at h;cases h
   |some y=>rw[e2]at h;have:=Option.some.inj h;rw[V.int.injEq]at this;rw[this]
theorem j7(st:List (Int×Int))(n b:Int):(DK st n b).length <=st.length+ 1:=by
 unfold DK;split
 .rw[Y0];lia
 .rw[List.length_append];exact Y5 _
def Jp(la:Bool):List (Int×Int)->Int->List Int->List (Int×Int)
 |st,_,[]=>st
 |st,n,b::bs=>Jp la (if la=true\/(Jc st n).isSome=false then DK st n b else st) (n+ 1) bs
def strange(rs:RS)(d:PD):Bool:=
 if d.mo=true then(match rs.en with|some e=>decide (e <=d.at'+ d.ns.length)|none=>false)
 else(match rs.en with|some e=> !decide (d.at'+ d.ns.length=e)|none=>decide (d.at'+ d.ns.length <=rs.re))
def N1(st:List (Int×Int)):Int->List Int->Option Int
 |_,[]=>none
 |n,b::bs=>match Jc st n with|some x=>if x=b then N1 st (n+ 1) bs else some n|none=>N1 st (n+ 1) bs
def Tp(la:Bool)(rs:RS)(d:PD):RS:=
 ⟨Jp la rs.st d.at' d.ns,JF rs.cv d.at' (d.at'+ d.ns.length),if d.mo=true then rs.en else some (d.at'+ d.ns.length),if d.mo=true then max rs.re (d.at'+ d.ns.length) else rs.re⟩
theorem AK(la:Bool):∀ (bs:Wp) (st:List (Int×Int)) (n:Int),(Jp la st n bs).length <=st.length+ bs.length
 |[],st,n=>Y5 _
 |b::bs,st,n=>by
  have h:=AK la bs (if la=true\/(Jc st n).isSome=false then DK st n b else st) (n+ 1);have h2:=j7 st n b;show(Jp la _ _ bs).length <=st.length+ (bs.length+ 1)
  split at h <;> rename_i hc
  .rw[Y3 hc];lia
  .rw[Y2 hc];lia
section
variable{P:Wh}{w:Wl}{K:Wm}{mg:Wd}{base:Wr}
structure Dv(K:Wm)(C:Wo):Prop where
 cl:Ml K C
 rule:WF K C "rule"
 standing:WF K C "standing"
 cover:WF K C "cover"
 ending:WF K C "ending"
 reach:WF K C "reach"
structure JP(C:Wo)(H:Hp)(p a l:Wo)(ru:Str)(rs:RS):Prop where
 ex:∃dx fs,H p=some (.ins C dx fs)/\fs.length <=5/\fs.lookup ("rule":Str)=some (.str ru)/\fs.lookup ("standing":Str)=some (.ref a)/\fs.lookup ("cover":Str)=some (.ref l)/\fs.lookup ("ending":Str)=some (oV rs.en)/\fs.lookup ("reach":Str)=some (.int rs.re)/\
  fs.lookup ("is_strange":Str)=none/\fs.lookup ("unlike_number":Str)=none/\fs.lookup ("take":Str)=none/\fs.lookup ("missing":Str)=none/\fs.lookup ("taken_body":Str)=none/\fs.lookup ("answer_to":Str)=none/\fs.lookup ("size":Str)=none/\fs.lookup ("number":Str)=none
 dk:H a=some (.dK (Dm rs.st))
 cv:JE H l (Ti rs.cv)
theorem JP.mono{C:Wo}{H G:Hp}{p a l:Wo}{ru:Str}{rs:RS}(s:Ww H G)(h:JP C H p a l ru rs):JP C G p a l ru rs:=by
 obtain⟨⟨dx,fs,b,r⟩,c,d⟩:=h;exact⟨⟨dx,fs,s _ _ b,r⟩,s _ _ c,d.same s⟩
variable{C p a l:Wo}{H:Hp}{ru:Str}{rs:RS}
theorem JP.ne{CP q b:Wo}{d:PD}(h:JP C H p a l ru rs)(k:Jg CP H q b d):q≠p/\b≠p/\q≠a/\b≠a:=by
 obtain⟨dx,fs,e,_,_,_,_,_,_,_,_,_,_,_,_,_,j⟩:=h.ex;obtain⟨n,fs',c,i,_⟩:=k.ats;have g:=k.bd;have f:=h.dk;refine⟨fun z=>?_,Wv g e nofun,Wv c f nofun,Wv g f nofun⟩;rw[z,e]at c;cases c;rw[j]at i;cases i
theorem Qc(la:Bool):∀ (bs:Wp) (st:List (Int×Int)) (n b:Int),Jp la st n (bs++[b])=(if la=true\/(Jc (Jp la st n bs) (n+ bs.length)).isSome=false then DK (Jp la st n bs) (n+ bs.length) b else Jp la st n bs)
 |[],st,n,b=>by
  show Jp la (if la=true\/(Jc st n).isSome=false then DK st n b else st) (n+ 1) []=_;simp[Jp]
 |x::bs,st,n,b=>by
  show Jp la _ (n+ 1) (bs++[b])=_;rw[Qc la bs];have e:n+ 1+ (bs.length:Int)=n+ ((x::bs).length:Int):=by rw[List.length_cons];lia
  rw[e];rfl
theorem FV(L:Dv K C)(h:JP C H p a l ru rs):Nv K H (.ref p) "rule" (.str ru):=by
 obtain⟨dx,fs,b,_,c,g,f,e,d,_⟩:=h.ex;exact⟨p,C,dx,fs,rfl,b,L.cl,L.rule,c⟩
theorem Ed(L:Dv K C)(h:JP C H p a l ru rs):Nv K H (.ref p) "standing" (.ref a):=by
 obtain⟨dx,fs,b,_,g,c,f,e,d,_⟩:=h.ex;exact⟨p,C,dx,fs,rfl,b,L.cl,L.standing,c⟩
theorem Qn(L:Dv K C)(h:JP C H p a l ru rs):Nv K H (.ref p) "cover" (.ref l):=by
 obtain⟨dx,fs,b,_,g,f,c,e,d,_⟩:=h.ex;exact⟨p,C,dx,fs,rfl,b,L.cl,L.cover,c⟩
theorem EI(L:Dv K C)(h:JP C H p a l ru rs):Nv K H (.ref p) "ending" (oV rs.en):=by
 obtain⟨dx,fs,b,_,g,f,e,c,d,_⟩:=h.ex;exact⟨p,C,dx,fs,rfl,b,L.cl,L.ending,c⟩
theorem Oc(L:Dv K C)(h:JP C H p a l ru rs):Nv K H (.ref p) "reach" (.int rs.re):=by
 obtain⟨dx,fs,b,_,g,f,e,d,c,_⟩:=h.ex;exact⟨p,C,dx,fs,rfl,b,L.cl,L.reach,c⟩
theorem LF(h:JP C H p a l ru rs):Ge C "is_strange" H (.ref p):=by
 obtain⟨dx,fs,b,_,_,_,_,_,_,f,_⟩:=h.ex;exact⟨p,dx,fs,rfl,b,f⟩
theorem wR(h:JP C H p a l ru rs):Ge C "unlike_number" H (.ref p):=by
 obtain⟨dx,fs,b,_,_,_,_,_,_,_,f,_⟩:=h.ex;exact⟨p,dx,fs,rfl,b,f⟩
theorem wY(h:JP C H p a l ru rs):Ge C "take" H (.ref p):=by
 obtain⟨dx,fs,b,_,_,_,_,_,_,_,_,f,_⟩:=h.ex;exact⟨p,dx,fs,rfl,b,f⟩
theorem HX(h:JP C H p a l ru rs):Ge C "missing" H (.ref p):=by
 obtain⟨dx,fs,b,_,_,_,_,_,_,_,_,_,f,_⟩:=h.ex;exact⟨p,dx,fs,rfl,b,f⟩
theorem n9(h:JP C H p a l ru rs):Ge C "taken_body" H (.ref p):=by
 obtain⟨dx,fs,b,_,_,_,_,_,_,_,_,_,_,f,_⟩:=h.ex;exact⟨p,dx,fs,rfl,b,f⟩
theorem dZ(h:JP C H p a l ru rs):Ge C "size" H (.ref p):=by
 obtain⟨dx,fs,b,_,_,_,_,_,_,_,_,_,_,_,_,f,_⟩:=h.ex;exact⟨p,dx,fs,rfl,b,f⟩
theorem Lz(h:JP C H p a l ru rs):Ge C "answer_to" H (.ref p):=by
 obtain⟨dx,fs,b,_,_,_,_,_,_,_,_,_,_,_,f,_⟩:=h.ex;exact⟨p,dx,fs,rfl,b,f⟩
end
section
variable{P:Wh}{w:Wl}{K:Wm}{mg:Wd}{base:Wr}
def EL(C:Wo)(f:Str)(H:Hp)(p b:Wo)(xs:List V):Prop:=∃dx fs,H p=some (.ins C dx fs)/\fs.lookup f=some (.ref b)/\H b=some (.lst xs)
def DL(C:Wo)(f:Str)(H:Hp)(p:Wo)(v:V):Prop:=∃dx fs,H p=some (.ins C dx fs)/\fs.lookup f=some v
structure GT(K:Wm)(C:Wo)(f:Str):Prop where
 cl:Ml K C
 na:WF K C f
abbrev Bh(K:Wm)(f:Wo)(fd:Wj)(q:Str)(st:Stmt):Prop:=∃ (oc:Wn) (od:Option Addr) (dV kV doc pm:Wn) (an:Option Addr) (cdv ct:Wn) (osl:Array (Option Value)),
  fd=W.fnOf "__init__" q (Mt st) (WC st) (Wt st) dV kV doc pm an cdv ct/\K.lookup f=some ⟨oc,od,.func fd,osl⟩/\W.codeIn K cdv q=true
inductive Qg(C:Wo)(vs:List V)(H:Hp)(Q:VK)(E:XK):Prop|mk (p dx b xs:_) (_:vs=[.ref p,.ref b]) (_:H p=some (.ins C dx [])) (_:H b=some (.lst xs)) (_:∀b' G,H b'=none->Jh p H G->EL C "body" G p b' xs->Q .non G)
abbrev JC:Stmt:=Tr (top 40) 0
theorem Sq:Jv ["self","body"] ["self","body"] (Wt JC):=by walk_at"e"
theorem m3{f C:Wo}{fd:Wj}(F:Bh K f fd "Whole.__init__" JC)(L:GT K C "body")(B:Bt mg):WA P w K mg base Je 1 f fd ["self","body"] (Qg C):=by
 obtain⟨oc,od,dV,kV,doc,pm,an,v,ct,osl,rfl,lk,l⟩:=F;refine R5 lk l Sq (fun vs H Q E h=>?_) (fun A a s H vs Q E hr h=>?_)
 .obtain⟨p,dx,b,xs,rfl,_⟩:=h;rfl
 .obtain⟨p,dx,b,xs,rfl,j,hb,q⟩:=h
  suffices hh:∃t,Mf (To Je P w K mg base _ "Whole.__init__" (Wt JC) f v A a s H E).nox (WC JC) t/\t {nx:=fun _ H'=>Q .non H',rt:=Q} (L2.start _ _) H by
   obtain⟨t,h1,h2⟩:=hh;exact⟨t,h1.nox,h2⟩
  refine⟨_,(WV (Mm (K:=K) rfl (Wu 0) (RK (Qs (Pk (K:=K) rfl)) rfl B.blist (by rfl) (WH 1 Wy)) rfl)),?_⟩;walk_at"rd";refine⟨_,.inl (WB.of hb),fun g G1 d s1 r=>?_⟩;refine⟨C,dx,[],s1 p _ j,L.cl,L.na,by decide,fun G2 z n=>?_⟩;have i:g≠p:=Ne.symm (No j d);exact q g G2 d (fun c o e hc=>z c o (s1 c o e) hc) ⟨dx,_,n,TV,z g _ r i⟩
inductive Ol(C:Wo)(vs:List V)(H:Hp)(Q:VK)(E:XK):Prop|mk (p dx b xs:_) (_:vs=[.ref p,.ref b]) (_:H p=some (.ins C dx [])) (_:H b=some (.lst xs)) (_:∀b' G,H b'=none->Jh p H G->EL C "spans" G p b' xs->Q .non G)
abbrev Jm:Stmt:=Tr (top 41) 0
theorem uG:Jv ["self","spans"] ["self","spans"] (Wt Jm):=by walk_at"e"
theorem ZP{f C:Wo}{fd:Wj}(F:Bh K f fd "Lacking.__init__" Jm)(L:GT K C "spans")(B:Bt mg):WA P w K mg base Je 1 f fd ["self","spans"] (Ol C):=by
 obtain⟨oc,od,dV,kV,doc,pm,an,v,ct,osl,rfl,lk,l⟩:=F;refine R5 lk l uG (fun vs H Q E h=>?_) (fun A a s H vs Q E hr h=>?_)
 .obtain⟨p,dx,b,xs,rfl,_⟩:=h;rfl
 .obtain⟨p,dx,b,xs,rfl,j,hb,q⟩:=h
  suffices hh:∃t,Mf (To Je P w K mg base _ "Lacking.__init__" (Wt Jm) f v A a s H E).nox (WC Jm) t/\t {nx:=fun _ H'=>Q .non H',rt:=Q} (L2.start _ _) H by
   obtain⟨t,h1,h2⟩:=hh;exact⟨t,h1.nox,h2⟩
  refine⟨_,(WV (Mm (K:=K) rfl (Wu 0) (RK (Qs (Pk (K:=K) rfl)) rfl B.blist (by rfl) (WH 1 Wy)) rfl)),?_⟩;walk_at"rd";refine⟨_,.inl (WB.of hb),fun g G1 d s1 r=>?_⟩;refine⟨C,dx,[],s1 p _ j,L.cl,L.na,by decide,fun G2 z n=>?_⟩;have i:g≠p:=Ne.symm (No j d);exact q g G2 d (fun c o e hc=>z c o (s1 c o e) hc) ⟨dx,_,n,TV,z g _ r i⟩
inductive QP(C:Wo)(vs:List V)(H:Hp)(Q:VK)(E:XK):Prop|mk (p dx v:_) (_:vs=[.ref p,v]) (_:H p=some (.ins C dx [])) (_:∀G,Jh p H G->DL C "at" G p v->Q .non G)
abbrev Jt:Stmt:=Tr (top 42) 0
theorem tS:Jv ["self","at"] ["self","at"] (Wt Jt):=by walk_at"e"
theorem dG{f C:Wo}{fd:Wj}(F:Bh K f fd "Unlike.__init__" Jt)(L:GT K C "at"):WA P w K mg base Je 1 f fd ["self","at"] (QP C):=by
 obtain⟨r,o,dV,kV,n,pm,an,d,ct,l,rfl,e,b⟩:=F;refine R5 e b tS (fun vs H Q E h=>?_) (fun A a s H vs Q E z h=>?_)
 .obtain⟨p,dx,v,rfl,_⟩:=h;rfl
 .obtain⟨p,dx,v,rfl,g,q⟩:=h
  suffices hh:∃t,Mf (To Je P w K mg base _ "Unlike.__init__" (Wt Jt) f d A a s H E).nox (WC Jt) t/\t {nx:=fun _ H'=>Q .non H',rt:=Q} (L2.start _ _) H by
   obtain⟨t,h1,h2⟩:=hh;exact⟨t,h1.nox,h2⟩
  refine⟨_,(WV (Mm (K:=K) rfl (Wu 0) (Wu 1) rfl)),?_⟩;walk_at"rd";exact⟨C,dx,[],g,L.cl,L.na,by decide,fun j i c=>q j i ⟨dx,_,c,TV⟩⟩
inductive C3(C:Wo)(f:Str)(vs:List V)(H:Hp)(Q:VK)(E:XK):Prop|mk (b xs:_) (_:vs=[.ref b]) (_:H b=some (.lst xs)) (_:∀p b' G,H p=none->H b'=none->Ww H G->EL C f G p b' xs->Q (.ref p) G)
theorem jF{C:Wo}(F:Dx P w K mg base "Whole" C 1 ["self","body"] [] (Qg C)):MZ P w K mg base "Whole" 1 (C3 C "body"):=by
 refine F.ct fun vs H Q h y dx G a n p s f=>?_
 obtain⟨b,xs,rfl,c,q⟩:=h;exact⟨y,dx,b,xs,rfl,f,s b _ c,fun l H' i j g=>⟨rfl,q y l H' a (s.free i) (fun d o e=>j d o (s d o e) (No e a)) g⟩⟩
theorem nA{C:Wo}(F:Dx P w K mg base "Lacking" C 1 ["self","spans"] [] (Ol C)):MZ P w K mg base "Lacking" 1 (C3 C "spans"):=by
 refine F.ct fun vs H Q h y dx G a n p s f=>?_
 obtain⟨b,xs,rfl,c,q⟩:=h;exact⟨y,dx,b,xs,rfl,f,s b _ c,fun l H' i j g=>⟨rfl,q y l H' a (s.free i) (fun d o e=>j d o (s d o e) (No e a)) g⟩⟩
inductive QR(C:Wo)(vs:List V)(H:Hp)(Q:VK)(E:XK):Prop|mk (v:_) (_:vs=[v]) (_:∀p G,H p=none->Ww H G->DL C "at" G p v->Q (.ref p) G)
theorem vD{C:Wo}(F:Dx P w K mg base "Unlike" C 1 ["self","at"] [] (QP C)):MZ P w K mg base "Unlike" 1 (QR C):=by
 refine F.ct fun vs H Q h y dx G a g i s b=>?_
 obtain⟨v,rfl,q⟩:=h;exact⟨y,dx,v,rfl,b,fun H' f c=>⟨rfl,q y H' a (fun d o e=>f d o (s d o e) (No e a)) c⟩⟩
inductive Oa(C:Wo)(vs:List V)(H:Hp)(Q:VK)(E:XK):Prop|mk (p dx ru:_) (_:vs=[.ref p,.str ru]) (_:H p=some (.ins C dx [])) (_:∀a l G,H a=none->H l=none->a≠l->Jh p H G->JP C G p a l ru ⟨[],[],none,0⟩->Q .non G)
abbrev Jk:Stmt:=Tr (top 43) 0
theorem jX:Jv ["self","rule"] ["self","rule"] (Wt Jk):=by walk_at"e"
theorem y7{f C:Wo}{fd:Wj}(F:Bh K f fd "Reading.__init__" Jk)(L:Dv K C):WA P w K mg base Je 1 f fd ["self","rule"] (Oa C):=by
 obtain⟨oc,od,dV,kV,doc,pm,an,cdv,ct,osl,rfl,lk,hcd⟩:=F;refine R5 lk hcd jX (fun vs H Q E h=>?_) (fun A j s H vs Q E hr h=>?_)
 .obtain⟨p,dx,ru,rfl,_⟩:=h;rfl
 .obtain⟨p,dx,ru,rfl,hp,q⟩:=h
  suffices hh:∃t,Mf (To Je P w K mg base _ "Reading.__init__" (Wt Jk) f cdv A j s H E).nox (WC Jk) t/\t {nx:=fun _ H'=>Q .non H',rt:=Q} (L2.start _ _) H by
   obtain⟨t,h1,h2⟩:=hh;exact⟨t,h1.nox,h2⟩
  refine⟨_,(WN (Mm (K:=K) rfl (Wu 0) (Wu 1) rfl) (WN (Mm (K:=K) rfl (Wu 0) Qq rfl) (WN (Mm (K:=K) rfl (Wu 0) (TD Wy) rfl) (WN (Mm (K:=K) rfl (Wu 0) DC rfl) (WV (Mm (K:=K) rfl (Wu 0) J1 rfl)))))),?_⟩;walk_at"rd";have g:([]:List (Str×V)).length <=0:=Y5 0;refine⟨C,dx,[],hp,L.cl,L.rule,by decide,fun G1 b1 z=>?_⟩;intro a Ga ha sa hGa;refine⟨C,dx,_,sa p _ z,L.cl,L.standing,Yg (J6 g) (by decide),fun G2 b2 v=>⟨Ny (by simp),fun l Gl n sl hGl=>?_⟩⟩;refine⟨C,dx,_,sl p _ v,L.cl,L.cover,Yg (J6 (J6 g)) (by decide),fun G3 b3 hG3=>?_⟩;refine⟨C,dx,_,hG3,L.cl,L.ending,Yg (J6 (J6 (J6 g))) (by decide),fun G4 b4 hG4=>?_⟩;refine⟨C,dx,_,hG4,L.cl,L.reach,Yg (J6 (J6 (J6 (J6 g)))) (by decide),fun G5 b5 hG5=>?_⟩;have d:a≠p:=Ne.symm (No z ha);have b:l≠p:=Ne.symm (No v n);have r:G2 a=some (.dK []):=b2 a _ hGa d;have nal:a≠l:=No r n;have haH:H a=none:=by
   cases e:H a with
   |none=>rfl
   |some o=>rw[b1 a o e d]at ha;cases ha
  have hlH:H l=none:=by
   cases e:H l with
   |none=>rfl
   |some o=>rw[b2 l o (sa l o (b1 l o e b)) b]at n;cases n
  refine q a l G5 haH hlH nal (fun c o e i=>b5 c o (b4 c o (b3 c o (sl c o (b2 c o (sa c o (b1 c o e i)) i)) i) i) i) ⟨⟨dx,_,hG5,?_,?_,?_,?_,?_,?_,?_,?_,?_,?_,?_,?_,?_,?_⟩,?_,?_⟩
  .exact J6 (J6 (J6 (J6 (J6 g))))
  .rw[WT,WT,WT,WT,TV] <;> decide +kernel
  .rw[WT,WT,WT,TV] <;> decide +kernel
  .rw[WT,WT,TV] <;> decide +kernel
  .rw[WT,TV] <;> first|rfl|decide +kernel
  .rw[TV]
  all_goals first
   |(rw[WT,WT,WT,WT,WT] <;> first|rfl|decide +kernel)
   |skip
  .exact b5 a _ (b4 a _ (b3 a _ (sl a _ r) d) d) d
  .exact⟨[],b5 l _ (b4 l _ (b3 l _ hGl b) b) b,.nil⟩
end
section
theorem Be{f:Str}{v x:V}:∀{fs:List (Str×V)},fs.lookup f=some x->(N0 f v fs).length=fs.length
 |[],h=>by cases h
 |(g,y)::r,h=>by
  show(if g=f then(g,v)::r else(g,y)::N0 f v r).length=_
  by_cases e:g=f
  .rw[Y3 e];rfl
  .rw[Y2 e,List.length_cons,List.length_cons];have hb:(f==g)=false:=Xe.mpr (fun z=>e z.symm);rw[show List.lookup f ((g,y)::r)=(match f==g with|true=>some y|false=>List.lookup f r) from rfl,hb]at h;rw[Be h]
theorem JE.tkp{H G:Hp}{l:Wo}{c:List (Int×Option Int)}(h:JE H l c)(k:Ey H G)(e:∀xs,H l=some (.lst xs)->G l=some (.lst xs)):JE G l c:=by
 obtain⟨xs,h1,h2⟩:=h;exact⟨xs,e xs h1,h2.tk k⟩
variable{C p a l:Wo}{H G:Hp}{ru:Str}{rs:RS}
theorem JP.dict{st:List (Int×Int)}(h:JP C H p a l ru rs)(b:Jh a H G)(e:G a=some (.dK (Dm st))):JP C G p a l ru {rs with st:=st}:=by
 obtain⟨⟨dx,fs,f,r⟩,c,g⟩:=h;exact⟨⟨dx,fs,b _ _ f (Wv f c nofun),r⟩,e,g.tkp (Rq b c) fun xs d=>b _ _ d (Wv d c nofun)⟩
theorem HF{C dx:Wo}{fs:List (Str×V)}(b:Jh p H G)(h:H p=some (.ins C dx fs)):Ey H G:=fun t ys e=>b t _ e (Wv e h nofun)
theorem JP.cover'{l' dx:Wo}{fs:List (Str×V)}{cv:List (Int×Int)}(h:JP C H p a l ru rs)(hp:H p=some (.ins C dx fs))(b:Jh p H G)(e:G p=some (.ins C dx (N0 "cover" (.ref l') fs)))(hc:JE H l' (Ti cv)):JP C G p a l' ru {rs with cv:=cv}:=by
 obtain⟨⟨dx',fs',c,f0,f1,f2,f3,w,v,s,r,q,o,n,j,i,g⟩,f,cv⟩:=h;rw[hp]at c;cases c;have tk:=HF b hp;refine⟨⟨dx,_,e,?_,?_,?_,?_,?_,?_,?_,?_,?_,?_,?_,?_,?_,?_⟩,b _ _ f (Wv f hp nofun),hc.tkp tk fun xs d=>b _ _ d (Wv d hp nofun)⟩
 .rw[Be f3];exact f0
 .rw[WT (by decide +kernel)];exact f1
 .rw[WT (by decide +kernel)];exact f2
 .rw[TV]
 .rw[WT (by decide +kernel)];exact w
 .rw[WT (by decide +kernel)];exact v
 .rw[WT (by decide +kernel)];exact s
 .rw[WT (by decide +kernel)];exact r
 .rw[WT (by decide +kernel)];exact q
 .rw[WT (by decide +kernel)];exact o
 .rw[WT (by decide +kernel)];exact n
 .rw[WT (by decide +kernel)];exact j
 .rw[WT (by decide +kernel)];exact i
 .rw[WT (by decide +kernel)];exact g
theorem JP.reach'{dx:Wo}{fs:List (Str×V)}{re:Int}(h:JP C H p a l ru rs)(hp:H p=some (.ins C dx fs))(b:Jh p H G)(e:G p=some (.ins C dx (N0 "reach" (.int re) fs))):JP C G p a l ru {rs with re:=re}:=by
 obtain⟨⟨dx',fs',c,f0,f1,f2,f3,w,v,s,r,q,o,n,j,i,g⟩,f,cv⟩:=h;rw[hp]at c;cases c;have tk:=HF b hp;refine⟨⟨dx,_,e,?_,?_,?_,?_,?_,?_,?_,?_,?_,?_,?_,?_,?_,?_⟩,b _ _ f (Wv f hp nofun),cv.tkp tk fun xs d=>b _ _ d (Wv d hp nofun)⟩
 .rw[Be v];exact f0
 .rw[WT (by decide +kernel)];exact f1
 .rw[WT (by decide +kernel)];exact f2
 .rw[WT (by decide +kernel)];exact f3
 .rw[WT (by decide +kernel)];exact w
 .rw[TV]
 .rw[WT (by decide +kernel)];exact s
 .rw[WT (by decide +kernel)];exact r
 .rw[WT (by decide +kernel)];exact q
 .rw[WT (by decide +kernel)];exact o
 .rw[WT (by decide +kernel)];exact n
 .rw[WT (by decide +kernel)];exact j
 .rw[WT (by decide +kernel)];exact i
 .rw[WT (by decide +kernel)];exact g
theorem JP.ending'{dx:Wo}{fs:List (Str×V)}{e':Int}(h:JP C H p a l ru rs)(hp:H p=some (.ins C dx fs))(b:Jh p H G)(e:G p=some (.ins C dx (N0 "ending" (.int e') fs))):JP C G p a l ru {rs with en:=some e'}:=by
 obtain⟨⟨dx',fs',c,f0,f1,f2,f3,w,v,s,r,q,o,n,j,i,g⟩,f,cv⟩:=h;rw[hp]at c;cases c;have tk:=HF b hp;refine⟨⟨dx,_,e,?_,?_,?_,?_,?_,?_,?_,?_,?_,?_,?_,?_,?_,?_⟩,b _ _ f (Wv f hp nofun),cv.tkp tk fun xs d=>b _ _ d (Wv d hp nofun)⟩
 .rw[Be w];exact f0
 .rw[WT (by decide +kernel)];exact f1
 .rw[WT (by decide +kernel)];exact f2
 .rw[WT (by decide +kernel)];exact f3
 .rw[TV];rfl
 .rw[WT (by decide +kernel)];exact v
 .rw[WT (by decide +kernel)];exact s
 .rw[WT (by decide +kernel)];exact r
 .rw[WT (by decide +kernel)];exact q
 .rw[WT (by decide +kernel)];exact o
 .rw[WT (by decide +kernel)];exact n
 .rw[WT (by decide +kernel)];exact j
 .rw[WT (by decide +kernel)];exact i
 .rw[WT (by decide +kernel)];exact g
theorem JP.ins(h:JP C H p a l ru rs):∃dx fs,H p=some (.ins C dx fs)/\fs.length <=5:=by
 obtain⟨⟨dx,fs,b,c,_⟩,_,_⟩:=h;exact⟨dx,fs,b,c⟩
end
section
variable{P:Wh}{w:Wl}{K:Wm}{mg:Wd}{base:Wr}
inductive C6(C CP:Wo)(vs:List V)(H:Hp)(Q:VK)(E:XK):Prop|mk (p a l q b:Wo) (ru:Str) (rs:RS) (d:PD) (_:vs=[.ref p,.ref q]) (_:JP C H p a l ru rs) (_:Jg CP H q b d) (_:Q (.bl (strange rs d)) H)
abbrev IH:Stmt:=Tr (top 43) 1
theorem yM:Jv ["self","piece"] ["self","piece"] (Wt IH):=by walk_at"e"
theorem uY{f C CP:Wo}{fd:Wj}(F:JL K "is_strange" "Reading.is_strange" IH f fd)(L:Dv K C)(LP:D5 K CP)(WL:Nq P w K mg base CP "end" 1 ["self"] [] (Kz CP)):WA P w K mg base Je 2 f fd ["self","piece"] (C6 C CP):=by
 refine F.ok yM (fun vs H Q E h=>?_) (fun r A n s H vs Q E j h=>?_)
 .obtain⟨p,a,l,q,b,ru,rs,d,rfl,_⟩:=h;rfl
 .obtain⟨p,a,l,q,b,ru,rs,d,rfl,i,c,k⟩:=h;refine⟨_,(WN (Nf (Te (JK K (Wu 1))) (WV (Jr (Mo (TF Bu (JK K (Wu 0)) DC (M0 _)) (Db (TF (Nm C9) (Mu (Wu 1) WL j.m) (JK K (Wu 0)) (M0 _)))))) Nr) (WN (Nf (T3 Bu (JK K (Wu 0)) DC) (WV (Jr (TF (RG Rv) (Mu (Wu 1) WL j.m) (JK K (Wu 0)) (M0 _)))) Nr) (WV (Jr (TF (Nm GU) (Mu (Wu 1) WL j.m) (JK K (Wu 0)) (M0 _)))))),?_⟩;walk_at"rd";refine⟨_,QA LP c,_,rfl,?_⟩;unfold strange at k;cases hm:d.mo with
  |true=>
   rw[hm,Y3 rfl]at k;rw[Y3 rfl];refine⟨_,EI L i,?_⟩;cases he:rs.en with
   |none=>
    rw[he]at k;exact k
   |some e=>
    rw[he]at k;rw[Y3 (by simp[oV])];have g:=EI L i;rw[he]at g;exact⟨RJ c,q,b,d,rfl,c,_,g,_,rfl,_,rfl,k⟩
  |false=>
   rw[hm,Y2 (by simp)]at k;rw[Y2 (by simp)];refine⟨_,EI L i,?_⟩;cases he:rs.en with
   |none=>
    rw[he]at k;rw[Y2 (by simp[oV])];exact⟨RJ c,q,b,d,rfl,c,_,Oc L i,_,rfl,_,rfl,k⟩
   |some e=>
    rw[he]at k;rw[Y3 (by simp[oV])];have g:=EI L i;rw[he]at g;refine⟨RJ c,q,b,d,rfl,c,_,g,rfl,?_⟩;have o:(!decide (V.int (d.at'+ d.ns.length)=oV (some e)))= !decide (d.at'+ d.ns.length=e):=by simp[oV]
    rw[o];exact k
inductive Hm(C CP:Wo)(vs:List V)(H:Hp)(Q:VK)(E:XK):Prop|mk (p a l q b:Wo) (ru:Str) (rs:RS) (d:PD) (_:vs=[.ref p,.ref q]) (_:JP C H p a l ru rs) (_:Jg CP H q b d) (_:(0 <=d.at'/\d.at' <=4000/\d.ns.length <=4000)) (_:∀G,Ww H G->Q (oV (N1 rs.st d.at' d.ns)) G)
abbrev ID:Stmt:=Tr (top 43) 2
theorem Ld:Jv ["self","piece","number","byte"] ["self","piece"] (Wt ID):=by walk_at"e"
theorem Zw{f C CP:Wo}{fd:Wj}(F:JL K "unlike_number" "Reading.unlike_number" ID f fd)(L:Dv K C)(LP:D5 K CP)(B3:CM mg):WA P w K mg base Je 1 f fd ["self","piece"] (Hm C CP):=by
 refine F.ok Ld (fun vs H Q E h=>?_) (fun cdv A outer s H vs Q E hr h=>?_)
 .obtain⟨p,a,l,q,b,ru,rs,d,rfl,_⟩:=h;rfl
 .obtain⟨p,a,l,q,b,ru,rs,d,rfl,hR,r,hd,k⟩:=h;refine⟨_,(WN (Gi X4 rfl (OM (K:=K) rfl rfl B3.enumerate (JK K (Wu 1)) (JK K (Wu 1))) (Eg (K:=K) (n:=2) rfl rfl (Dn (Mw 2 Ld) (Dn (Mw 3 Ld) Ee))) (WV (Nf (PW.pt (EG (EM (O6 (QH (Dw hr))) (Wu 2) (JK K (Wu 0)) (by with_unfolding_all rfl)) (Er (T3 (RG Rv) (Ek hr (JK K (Wu 0)) (Wu 2)) (Wu 3))))) (WV (Jr (Wu 2))) Nr))) (WV (Jr DC))),?_⟩;walk_at"rd";refine⟨_,Il LP r,_,BZ LP r,_,rfl,_,rfl,by lia,by lia,⟨_,WB.of r.bd⟩,?_⟩;obtain⟨Pv,c⟩:∃Pv:Nat->L2.St->Hp->Prop,Pv=fun i σ' G=>∃ (v2 z:Option V),σ'=[some (.ref p),some (.ref q),v2,z]/\Ww H G/\N1 rs.st d.at' d.ns=N1 rs.st (d.at'+ (i:Nat)) (d.ns.drop i):=⟨_,rfl⟩
  refine QL (xs:=d.ns.map V.int) Pv (by rw[c];exact⟨_,_,rfl,Ww.refl _,by simp⟩) ?_ ?_ ?_ <;> rw[c]
  .rintro i σ' G _ ⟨_,_,_,s,_⟩;exact WB.of (s b _ r.bd)
  .rintro i x t σ' G0 G hx ⟨v2,z,rfl,s0,e⟩ _ s1 ht;rw[<-c];have s:=s0.trans s1;rw[Yc]at hx;obtain⟨n,o,rfl⟩:=YA.mp hx;have v:i < d.ns.length:=by
    rcases Nat.lt_or_ge i d.ns.length with h|h
    .exact h
    .rw[Xt h]at o;cases o
   have hdr:d.ns.drop i=n::d.ns.drop (i+ 1):=by
    rw[YO v];rw[Y6 v]at o;rw[Option.some.inj o]
   rw[hdr]at e;have g:=hR.mono s;refine⟨t,_,rfl,JV.of ht,rfl,_,_,rfl,_,_,rfl,rfl,?_⟩;walk_at"rd";refine⟨_,Ed L g,_,rfl,_,g.dk,?_⟩;rw[EJ];have ei:d.at'+ (i:Int)+ 1=d.at'+ ((i+ 1:Nat):Int):=by lia
   have j:=e;rw[show N1 rs.st (d.at'+ (i:Nat)) (n::d.ns.drop (i+ 1))=(match Jc rs.st (d.at'+ (i:Nat)) with|some x=>if x=n then N1 rs.st (d.at'+ (i:Nat)+ 1) (d.ns.drop (i+ 1)) else some (d.at'+ (i:Nat))|none=>N1 rs.st (d.at'+ (i:Nat)+ 1) (d.ns.drop (i+ 1))) from rfl,ei]at j;cases hg:Jc rs.st (d.at'+ i) with
   |none=>
    rw[hg]at j;rw[Y2 (by simp),c];exact⟨_,_,rfl,s,j⟩
   |some x=>
    rw[hg]at j;rw[Y3 (by rfl)];refine⟨_,Ed L g,_,rfl,V.int x,?_,rfl,?_⟩
    .have:=TY.k (k:=Sum.inl (d.at'+ (i:Int))) g.dk;rw[EJ,hg]at this;exact this
    .by_cases hxn:x=n
     .rw[Y2 (by simp[hxn]),c];exact⟨_,_,rfl,s,by rw[j];exact Y3 hxn⟩
     .rw[Y3 (by simp[hxn])];have:=k G s;rw[j.trans (Y2 hxn)]at this;exact this
  .rintro σ' G ⟨v2,z,rfl,s,e⟩;rw[UN (by simp)]at e;have:=k G s;rw[e]at this;exact this
inductive Ks(C CP:Wo)(vs:List V)(H:Hp)(Q:VK)(E:XK):Prop|mk (p a l q b:Wo) (ru:Str) (rs:RS) (d:PD) (_:vs=[.ref p,.ref q]) (_:JP C H p a l ru rs) (_:Jg CP H q b d) (_:(0 <=d.at'/\d.at' <=4000/\d.ns.length <=4000)) (_:rs.st.length <=20000) (_:rs.cv.length <=1000) (_:∀l' G,H l'=none->(∀c o,H c=some o->c≠p->c≠a->G c=some o)->JP C G p a l' ru (Tp (decide (ru="last")) rs d)->Q .non G)
abbrev FU:Stmt:=Tr (top 43) 3
theorem Hb:Jv ["self","piece","number","byte"] ["self","piece"] (Wt FU):=by walk_at"e"
theorem nO{f C CP:Wo}{fd:Wj}(F:JL K "take" "Reading.take" FU f fd)(L:Dv K C)(LP:D5 K CP)(B:Bt mg)(B3:CM mg)(WL:Nq P w K mg base CP "end" 1 ["self"] [] (Kz CP))(NW:Nt P w K mg base "with_span" 1 ["cover","span"] [] OG):WA P w K mg base Je 2 f fd ["self","piece"] (Ks C CP):=by
 refine F.ok Hb (fun vs H Q E h=>?_) (fun cdv A outer s H vs Q E hr h=>?_)
 .obtain⟨p,a,l,q,b,ru,rs,d,rfl,_⟩:=h;rfl
 .obtain⟨p,a,l,q,b,ru,rs,d,rfl,hR,hP,hd,hst,hcv,k⟩:=h;refine⟨_,(WN (Gi X4 rfl (OM (K:=K) rfl rfl B3.enumerate (JK K (Wu 1)) (JK K (Wu 1))) (Eg (K:=K) (n:=2) rfl rfl (Dn (Mw 2 Hb) (Dn (Mw 3 Hb) Ee))) (WV (Nf (PW.pt (DQ (T3 (Gn Gx) (JK K (Wu 0)) TH) (GH (EM (Q7 (OU (Dw hr))) (Wu 2) (JK K (Wu 0)) (by with_unfolding_all rfl))))) (WV (P4 (Dw hr) (JK K (Wu 0)) (Wu 2) (Wu 3) rfl)) Nr))) (WN (Mm (K:=K) rfl (Wu 0) (N7 NW hr.m rfl (MK (JK K (Wu 0)) (JM (hs:=DY) (MI (MK (JK K (Wu 1)) (Mj (Mu (Wu 1) WL hr.m) Wy))) Wy))) rfl) (WV (Nf (Te (JK K (Wu 1))) (WV (Mm (K:=K) rfl (Wu 0) (Nh (Ls rfl) B.max (MK (JK K (Wu 0)) (Mj (Mu (Wu 1) WL hr.m) Wy))) rfl)) (WV (Mm (K:=K) rfl (Wu 0) (Mu (Wu 1) WL hr.m) rfl)))))),?_⟩;refine Ju fun N hN=>?_
  walk_at"rd";refine⟨_,Il LP hP,_,BZ LP hP,_,rfl,_,rfl,by lia,by lia,⟨_,WB.of hP.bd⟩,?_⟩;obtain⟨nqp,nbp,nqa,nba⟩:=hR.ne hP;obtain⟨Pv,v⟩:∃Pv:Nat->L2.St->Hp->Prop,Pv=fun i σ' G=>∃ (v2 v3:Option V),σ'=[some (.ref p),some (.ref q),v2,v3]/\Jh a H G/\G a=some (.dK (Dm (Jp (decide (ru="last")) rs.st d.at' (d.ns.take i)))):=⟨_,rfl⟩
  refine QL (xs:=d.ns.map V.int) Pv (by rw[v];exact⟨_,_,rfl,Jh.refl _ _,hR.dk⟩) ?_ ?_ ?_ <;> rw[v]
  .rintro i σ' G _ ⟨_,_,_,s,_⟩;exact WB.of (s b _ hP.bd nba)
  .rintro i x t σ' G0 G hx ⟨v2,v3,rfl,s0,hd0⟩ _ s1 ht;rw[<-v];have s:Jh a H G:=fun c o e hc=>s1 c o (s0 c o e hc)
   have g:=s1 a _ hd0;rw[Yc]at hx;obtain⟨n,hn,rfl⟩:=YA.mp hx;have hlt:i < d.ns.length:=by
    rcases Nat.lt_or_ge i d.ns.length with h|h
    .exact h
    .rw[Xt h]at hn;cases hn
   have htk:d.ns.take (i+ 1)=d.ns.take i++[n]:=by
    rw[List.take_succ,hn];rfl
   have hli:((d.ns.take i).length:Int)=i:=by rw[Yu];lia
   have hsz:=AK (decide (ru="last")) (d.ns.take i) rs.st d.at';refine⟨t,_,rfl,JV.of ht,rfl,_,_,rfl,_,_,rfl,rfl,?_⟩;have j:=hR.dict s g;have hst2:(Dm (Jp (decide (ru="last")) rs.st d.at' (d.ns.take i))).length < sizeLine:=by
    refine Yx (m:=30000) ?_ (Ny (by lia));unfold Dm;rw[Y0];rw[Yu]at hsz
    lia
   have r:=Qc (decide (ru="last")) (d.ns.take i) rs.st d.at' n;rw[hli]at r;walk_at"rd";refine⟨_,FV L j,rfl,?_⟩
   by_cases hru:ru="last"
   .rw[Y3 (by rw[hru];exact Yq rfl)];refine⟨_,Ed L j,_,rfl,_,g,hst2,fun G1 b1 h1=>?_⟩;rw[Hl]at h1;rw[Y3 (.inl (Yq hru))]at r;rw[v];refine⟨_,_,rfl,s.trans b1,?_⟩;rw[htk,r];exact h1
   .rw[Y2 (by simpa using hru)];refine⟨_,Ed L j,_,rfl,_,g,?_⟩;rw[EJ];cases hg:Jc (Jp (decide (ru="last")) rs.st d.at' (d.ns.take i)) (d.at'+ i) with
    |none=>
     rw[Y3 (by rfl)];refine⟨_,Ed L j,_,rfl,_,g,hst2,fun G1 b1 h1=>?_⟩;rw[Hl]at h1;rw[Y3 (.inr (by rw[hg];rfl))]at r;rw[v];refine⟨_,_,rfl,s.trans b1,?_⟩;rw[htk,r];exact h1
    |some x=>
     rw[Y2 (by simp)];rw[Y2 (by rw[hg];simp[hru])]at r;rw[v];refine⟨_,_,rfl,s,?_⟩;rw[htk,r];exact g
  .rintro σ' G ⟨v2,v3,rfl,s,g⟩;refine hN _ _ ?_;clear hN N;rw[YD (by simp)]at g;have j:=hR.dict s g;have ad:=hP.but s nqa nba;refine Ju fun N hN=>?_
   walk_at"rd";refine⟨_,Qn L j,_,BZ LP ad,RJ ad,q,b,d,rfl,ad,?_⟩;refine⟨Ny (by simp),fun t G2 ht s2 hG2=>?_⟩;refine⟨l,t,rs.cv,_,_,rfl,j.cv.same s2,hcv,hG2,fun l' G3 hl' s3 hC3=>?_⟩;have hl0:H l'=none:=s.free (s2.free hl') (Ne.symm (No g (s2.free hl')));have s13:=s2.trans s3;have hR3:=j.mono s13;have hP3:=ad.mono s13;obtain⟨dx,fs,hp3,hf5⟩:=hR3.ins;refine⟨C,dx,fs,hp3,L.cl,L.cover,by lia,fun G4 b4 hG4=>hN _ _ ?_⟩;clear hN N;have ac:=hR3.cover' hp3 b4 hG4 hC3;have z:=hP3.but b4 nqp nbp;have aa:∀c o,H c=some o->c≠p->c≠a->G4 c=some o:=fun c o e h1 h2=>b4 c o (s13 c o (s c o e h2)) h1
   obtain⟨dx4,fs4,ab,hf4⟩:=ac.ins;walk_at"rd";refine⟨_,QA LP z,_,rfl,?_⟩;cases hm:d.mo with
   |true=>
    rw[Y3 rfl];refine⟨_,Oc L ac,RJ z,q,b,d,rfl,z,_,rfl,_,rfl,C,dx4,fs4,ab,L.cl,L.reach,by lia,fun G5 b5 hG5=>?_⟩;have hR5:=ac.reach' ab b5 hG5;refine k l' G5 hl0 (fun c o e h1 h2=>b5 c o (aa c o e h1 h2) h1) ?_;unfold Tp;rw[Y3 hm,Y3 hm];have e:max rs.re (d.at'+ d.ns.length)=if d.at'+ d.ns.length > rs.re then d.at'+ d.ns.length else rs.re:=by split <;> lia
    rw[e];exact hR5
   |false=>
    rw[Y2 (by simp)];refine⟨RJ z,q,b,d,rfl,z,C,dx4,fs4,ab,L.cl,L.ending,by lia,fun G5 b5 hG5=>?_⟩;have hR5:=ac.ending' ab b5 hG5;refine k l' G5 hl0 (fun c o e h1 h2=>b5 c o (aa c o e h1 h2) h1) ?_;unfold Tp;rw[Y2 (by rw[hm];simp),Y2 (by rw[hm];simp)];exact hR5
inductive BV(C:Wo)(vs:List V)(H:Hp)(Q:VK)(E:XK):Prop|mk (p a l:Wo) (ru:Str) (rs:RS) (_:vs=[.ref p]) (_:JP C H p a l ru rs) (_:rs.cv.length <=1000) (_:∀m G,Ww H G->H m=none->JE G m (WR rs.en 0 rs.cv)->Q (.ref m) G)
abbrev Fj:Stmt:=Tr (top 43) 5
theorem So:Jv ["self"] ["self"] (Wt Fj):=by walk_at"e"
theorem mE{f C:Wo}{fd:Wj}(F:JL K "missing" "Reading.missing" Fj f fd)(L:Dv K C)(Tw:Nt P w K mg base "lacking" 1 ["cover","end"] [] P2):WA P w K mg base Je 2 f fd ["self"] (BV C):=by
 refine F.ok So (fun vs H Q E h=>?_) (fun j A c s H vs Q E d h=>?_)
 .obtain⟨p,a,l,ru,rs,rfl,_⟩:=h;rfl
 .obtain⟨p,a,l,ru,rs,rfl,b,e,k⟩:=h;refine⟨_,(WV (Jr (N7 Tw d.m rfl (MK (JK K (Wu 0)) (MK (JK K (Wu 0)) Wy))))),?_⟩;walk_at"rd";exact⟨_,Qn L b,_,EI L b,l,rs.cv,rs.en,rfl,b.cv,e,fun l' G i s g=>k l' G s i g⟩
inductive Ii(C:Wo)(vs:List V)(H:Hp)(Q:VK)(E:XK):Prop|mk (p a l:Wo) (ru:Str) (rs:RS) (e:Nat) (ns:Wp) (_:vs=[.ref p]) (_:JP C H p a l ru rs) (_:rs.en=some (e:Int)) (_:e <=65536) (_:ns.length=e) (_:(∀i:Nat,∀x,ns[i]?=some x->Jc rs.st i=some x)) (_:∀m G,Ww H G->H m=none->G m=some (.lst (ns.map V.int))->Q (.ref m) G)
abbrev Cr:Stmt:=Tr (top 43) 6
theorem uL:Jv ["self"] ["self"] (Wt Cr):=by walk_at"e"
theorem dJ{f C:Wo}{fd:Wj}(F:JL K "taken_body" "Reading.taken_body" Cr f fd)(L:Dv K C)(B:Bt mg):WA P w K mg base Je 1 f fd ["self"] (Ii C):=by
 refine F.ok uL (fun vs H Q E h=>?_) (fun cdv A r s H vs Q E z h=>?_)
 .obtain⟨p,a,l,ru,rs,e,c,rfl,_⟩:=h;rfl
 .obtain⟨p,a,l,ru,rs,e,c,rfl,g,he,hd,hn,hg,k⟩:=h;refine⟨_,(WV (Jr (Rb (N':=["number","self"]) (caps:=[none,some 0]) (DP (sc:=Wt Cr) (N:=["self"]) rfl rfl (by decide +kernel)) rfl (RY rfl B.range (MK (JK K (Wu 0)) Wy)) (fun _ _ _ _ _=>(Dk (i:=0) (DS (N:=["number","self"]) rfl (by decide +kernel)) rfl (Or.inl rfl))) (fun _ _ _ _ _=>GW) (fun _ _ _ _ _=>(Ek z (JK K (Wu 1)) (Wu 0)))))),?_⟩;walk_at"rd";have q:=EI L g;rw[he]at q;refine⟨_,q,_,rfl,by lia,by lia,?_⟩;rw[X6];obtain⟨j,b⟩:∃j:Nat->List V->L2.St->Hp->Prop,j=fun i ys σ' G=>∃v:Option V,σ'=[v,some (.ref p)]/\ys=(c.take i).map V.int/\G=H:=⟨_,rfl⟩
  refine He j (by rw[b];exact⟨none,rfl,rfl,rfl⟩) ?_ (Ny (by lia)) ?_ ?_ <;> rw[b]
  .rintro i ys σ' G' ⟨v,rfl,rfl,rfl⟩ _;rw[Y0,Yu];lia
  .rintro i ys σ' G' hi ⟨v,rfl,rfl,rfl⟩;rw[<-b];walk_at"rd";have n:i < c.length:=by lia
   have d:=hg i c[i] (Y6 n);refine⟨_,Ed L g,_,rfl,V.int c[i],?_,?_⟩
   .have:=TY.k (k:=Sum.inl (0+ (i:Int))) g.dk;rw[EJ,U1,d]at this;rw[U1];exact this
   .rw[b];exact⟨_,rfl,by rw[List.take_succ,Y6 n,Yn];rfl,rfl⟩
  .rintro ys σ' G' ⟨v,rfl,rfl,rfl⟩ m G h0 s o;rw[YD (by lia)]at o;exact k m G s h0 o
theorem Qp:∀ (c:List (Int×Int)) (st:WS),(c.foldl Th st).ah.length+ (c.foldl Th st).be.length <=st.ah.length+ st.be.length+ c.length
 |[],st=>Y5 _
 |p::r,st=>by
  have h:=Qp r (Th st p);have h2:(Th st p).ah.length+ (Th st p).be.length <=st.ah.length+ st.be.length+ 1:=by
   unfold Th
   split
   .simp;lia
   .split
    .simp;lia
    .simp
  rw[List.foldl_cons,List.length_cons];lia
theorem Qv(c:List (Int×Int))(lo hi:Int):(JF c lo hi).length <=c.length+ 1:=by
 have h:=Qp c ⟨[],lo,hi,[]⟩;unfold JF RW;simp only[List.length_append,List.length_cons,List.length_nil]at h ⊢
 lia
def NJ(p a:Wo)(H G:Hp):Prop:=∀c o,H c=some o->c≠p->c≠a->G c=some o
theorem NJ.free{p a:Wo}{H G:Hp}(kp:NJ p a H G){C l b:Wo}{ru:Str}{rs:RS}(hR:JP C G p a l ru rs)(h:G b=none):H b=none:=by
 cases e:H b with
 |none=>rfl
 |some o=>
  obtain⟨dx,fs,c,_⟩:=hR.ex;have:=kp b o e (Ne.symm (No c h)) (Ne.symm (No hR.dk h));rw[this]at h;cases h
inductive AM(C CP CW CU:Wo)(vs:List V)(H:Hp)(Q:VK)(E:XK):Prop|mk (p a l q b:Wo) (ru:Str) (rs:RS) (d:PD) (_:vs=[.ref p,.ref q]) (_:JP C H p a l ru rs) (_:Jg CP H q b d) (_:rs.st.length <=20000) (_:rs.cv.length <=900) (_:(strange rs d=true->(ru="refuse"->∀m G,Ww H G->DL CU "at" G m (.int d.at')->Q (.ref m) G)/\(¬ru="refuse"->Q .non H))) (_:(strange rs d=false->(∀n,ru="refuse"->N1 rs.st d.at' d.ns=some n->∀m G,Ww H G->DL CU "at" G m (.int n)->Q (.ref m) G)/\((ru="refuse"->N1 rs.st d.at' d.ns=none)->∀rs',rs'=Tp (decide (ru="last")) rs d->(WR rs'.en 0 rs'.cv≠[]->∀l' G,H l'=none->NJ p a H G->JP C G p a l' ru rs'->Q .non G)/\(WR rs'.en 0 rs'.cv=[]->∃ (e:Nat) (ns:Wp),rs'.en=some (e:Int)/\e <=4000/\ns.length=e/\(∀i:Nat,∀x,ns[i]?=some x->Jc rs'.st i=some x)/\∀m b' l' G,H b'=none->H l'=none->NJ p a H G->JP C G p a l' ru rs'->EL CW "body" G m b' (ns.map V.int)->Q (.ref m) G))))
theorem PD.Ok.bds{d:PD}(h:d.Ok):0 <=d.at'/\d.at' <=4000/\d.ns.length <=4000:=by
 have h1:=h.a0;have h2:=h.rm;have a:=h.l2;unfold RL at h2;refine⟨h1,?_,a⟩
 split at h2
 .simp only[YR,Y9]at h2;lia
 .simp only[Y9]at h2;lia
abbrev Lj:Stmt:=Tr (top 43) 7
theorem Om:Jv ["self","piece","number"] ["self","piece"] (Wt Lj):=by walk_at"e"
theorem xH{f C CP CW CU:Wo}{fd:Wj}(F:JL K "answer_to" "Reading.answer_to" Lj f fd)(L:Dv K C)(LP:D5 K CP)
  (WX:Nq P w K mg base C "is_strange" 2 ["self","piece"] [] (C6 C CP)) (Jf:Nq P w K mg base C "unlike_number" 1 ["self","piece"] [] (Hm C CP)) (Na:Nq P w K mg base C "take" 2 ["self","piece"] [] (Ks C CP))
  (WP:Nq P w K mg base C "missing" 2 ["self"] [] (BV C)) (Ji:Nq P w K mg base C "taken_body" 1 ["self"] [] (Ii C))
  (Ro:MZ P w K mg base "Whole" 1 (C3 CW "body")) (MV:MZ P w K mg base "Unlike" 1 (QR CU)):WA P w K mg base Je 3 f fd ["self","piece"] (AM C CP CW CU):=by
 refine F.ok Om (fun vs H Q E h=>?_) (fun cdv A outer s H vs Q E j h=>?_)
 .obtain⟨p,a,l,q,b,ru,rs,d,rfl,_⟩:=h;rfl
 .obtain⟨p,a,l,q,b,ru,rs,d,rfl,r,hP,hst,hcv,k1,k2⟩:=h;have hd:=hP.ok.bds;refine⟨_,(WN (Nf (Te (Mz (Wu 0) WX j.m (WH 1 Wy))) (WV (Jr (Pr (T3 (Gn Gx) (JK K (Wu 0)) TH) (Rs MV j.m rfl (MK (JK K (Wu 1)) Wy)) DC))) Nr) (WN (Bm (Nf (T3 (Gn Gx) (JK K (Wu 0)) TH) (WN (NL 2 Om (Mz (Wu 0) Jf j.m (WH 1 Wy))) (WV (Nf (T3 Bu (Wu 2) DC) (WV (Jr (Rs MV j.m rfl (WH 2 Wy)))) Nr))) Nr)) (WN (MB (Mz (Wu 0) Na j.m (WH 1 Wy))) (WV (Jr (Pr (T3 (HD (Ig (K:=K) (Room.units j) rfl)) (Mu (Wu 0) WP j.m) (TD Wy)) (Rs Ro j.m rfl (Mj (Mu (Wu 0) Ji j.m) Wy)) DC)))))),?_⟩;walk_at"rd";refine⟨LF r,p,a,l,q,b,ru,rs,d,rfl,r,hP,_,rfl,?_⟩;cases hs:strange rs d with
  |true=>
   obtain⟨q1,q2⟩:=k1 hs;rw[Y3 rfl];refine⟨_,FV L r,rfl,?_⟩
   by_cases hru:ru="refuse"
   .rw[Y3 (by rw[hru];exact Yq rfl)];exact⟨_,BZ LP hP,_,rfl,fun m G h0 s hA=>q1 hru m G s hA⟩
   .rw[Y2 (by simpa using hru)];exact q2 hru
  |false=>
   obtain⟨q1,q2⟩:=k2 hs;rw[Y2 (by simp)];obtain⟨R,eR⟩:∃R:L2.St->Hp->Prop,R=fun σ' G=>∃v,σ'=[some (.ref p),some (.ref q),v]/\Ww H G/\(ru="refuse"->N1 rs.st d.at' d.ns=none):=⟨_,rfl⟩
   refine⟨R,?_,fun σ' G hRr=>?_⟩
   .refine⟨_,FV L r,rfl,?_⟩
    by_cases hru:ru="refuse"
    .rw[Y3 (by rw[hru];exact Yq rfl)];refine⟨wR r,p,a,l,q,b,ru,rs,d,rfl,r,hP,hd,fun G s=>?_⟩;cases hu:N1 rs.st d.at' d.ns with
     |none=>
      rw[Y2 (by simp[oV]),eR];exact⟨_,rfl,s,fun _=>hu⟩
     |some n=>
      rw[Y3 (by simp[oV])];exact⟨_,rfl,fun m G2 h0 s2 hA=>q1 n hru hu m G2 (s.trans s2) hA⟩
    .rw[Y2 (by simpa using hru),eR];exact⟨_,rfl,Ww.refl _,fun z=>absurd z hru⟩
   .rw[eR]at hRr;obtain⟨v,rfl,s,hu⟩:=hRr;have hR1:=r.mono s;have hP1:=hP.mono s;obtain⟨q3,q4⟩:=q2 hu _ rfl;refine⟨_,rfl,wY hR1,_,rfl,p,a,l,q,b,ru,rs,d,rfl,hR1,hP1,hd,hst,by lia,fun l' G2 hl0 kp g=>?_⟩;have ab:(Tp (decide (ru="last")) rs d).cv.length <=1000:=by
     have:=Qv rs.cv d.at' (d.at'+ d.ns.length);show(JF rs.cv d.at' (d.at'+ d.ns.length)).length <=1000
     lia
    generalize Tp (decide (ru="last")) rs d=rs' at g q3 q4 ab;refine⟨_,rfl,HX g,p,a,l',ru,rs',rfl,g,ab,fun m G3 s3 hm hC=>⟨Ny (by simp),fun z G4 hz s4 hz4=>?_⟩⟩;obtain⟨xs,hx,hxc⟩:=hC;refine⟨m,rfl,xs,WB.of (s4 m _ hx),WB.of hz4,?_⟩;have i:=s3.trans s4;have aa:NJ p a H G4:=fun c o e h1 h2=>i c o (kp c o (s c o e) h1 h2)
    have hxl:=hxc.len
    by_cases hn:WR rs'.en 0 rs'.cv=[]
    .rw[hn]at hxl;rw[Y3 (Yq (show xs.length=0 from hxl))];obtain⟨e,ns,he,he2,hns,hg,q5⟩:=q4 hn;exact⟨_,rfl,n9 (g.mono i),p,a,l',ru,rs',e,ns,rfl,g.mono i,he,by lia,hns,hg,fun m5 G5 s5 hm5 h5=>⟨m5,_,rfl,h5,fun w b' G6 hw hb' s6 hA=>q5 w b' l' G6 (NJ.free (fun c o e h1 h2=>s5 c o (aa c o e h1 h2)) ((g.mono i).mono s5) hb') (s.free hl0) (fun c o e h1 h2=>s6 c o (s5 c o (aa c o e h1 h2))) (((g.mono i).mono s5).mono s6) hA⟩⟩
    .rw [Y2 (by
      simp only [Y9];intro hz;exact hn (Uc (by lia)))]
     exact q3 hn l' G4 (s.free hl0) aa (g.mono i)
theorem Fq(a b:Str):Rc (.str a) (.str b)=decide (a=b):=by
 show(a==b)=_;rw[Yz,UG,Y9]
inductive L7(C:Wo)(vs:List V)(H:Hp)(Q:VK)(E:XK):Prop|mk (ru:_) (_:vs=[.str ru]) (_:∀p a l G,H p=none->H a=none->H l=none->Ww H G->JP C G p a l ru ⟨[],[],none,0⟩->Q (.ref p) G)
theorem QJ{C:Wo}(F:Dx P w K mg base "Reading" C 1 ["self","rule"] [] (Oa C)):MZ P w K mg base "Reading" 1 (L7 C):=by
 refine F.ct fun vs H Q h y dx G b n r s i=>?_
 obtain⟨ru,rfl,q⟩:=h;exact⟨y,dx,ru,rfl,i,fun a l H' f c p j g=>⟨rfl,q y a l H' b (s.free f) (s.free c) (fun d o e=>j d o (s d o e) (No e b)) g⟩⟩
inductive FR(vs:List V)(H:Hp)(Q:VK)(E:XK):Prop|mk (ru:Str) (_:vs=[.str ru]) (_:Q (.bl (decide (ru="first"\/ru="last"\/ru="refuse"))) H)
abbrev Hi:Stmt:=top 18
theorem d7:Jv ["value"] ["value"] (Wt Hi):=by walk_at"e"
theorem nR{f aRULES:Wo}{fd:Wj}(F:JL K "is_rule" "is_rule" Hi f fd)(B:Bt mg)(g_RULES:mg "RULES"=some (.ref aRULES))(t_RULES:∀H,JV K H aRULES [.str "first",.str "last",.str "refuse"]):WA P w K mg base Je 1 f fd ["value"] FR:=by
 refine F.ok d7 (fun vs H Q E h=>?_) (fun b A a s H vs Q E c h=>?_)
 .obtain⟨ru,rfl,_⟩:=h;rfl
 .obtain⟨ru,rfl,k⟩:=h;refine⟨_,(WV (Jr (Mo (Nh (GC "str") B.isinstance (WH 0 (JM (hs:=MC) (GX (v:=.ty "str") rfl B.bstr (by rfl) rfl) Wy))) (Db (TF (KA (K:=K) rfl) (Wu 0) (Gz (v:=.ref aRULES) rfl g_RULES rfl) (by with_unfolding_all rfl)))))),?_⟩;walk_at"rd";rw[Y3 (by decide)];refine⟨aRULES,_,rfl,.inr (t_RULES H),rfl,rfl,?_⟩;have e:Rx (.str ru) [.str "first",.str "last",.str "refuse"]=decide (ru="first"\/ru="last"\/ru="refuse"):=by
   rw[Yz];simp only[Rx,Fq,XO,Wb,Vs,V5,Y9];exact⟨fun h=>h.imp XG (Or.imp XG XG),fun h=>h.imp XG (Or.imp XG XG)⟩
  rw[Y2 (by simp),e];exact k
inductive OJ(vs:List V)(H:Hp)(Q:VK)(E:XK):Prop|mk (ru:Str) (_:vs=[.str ru]) (_:(ru="first"\/ru="last"\/ru="refuse")) (_:Q .non H)
abbrev Ha:Stmt:=top 44
theorem dP:Jv ["rule"] ["rule"] (Wt Ha):=by walk_at"e"
theorem wE{f:Wo}{fd:Wj}(F:JL K "check_rule" "check_rule" Ha f fd)(Nx:Nt P w K mg base "is_rule" 1 ["value"] [] FR):WA P w K mg base Je 2 f fd ["rule"] OJ:=by
 refine F.ok dP (fun vs H Q E h=>?_) (fun d A b s H vs Q E c h=>?_)
 .obtain⟨ru,rfl,_⟩:=h;rfl
 .obtain⟨ru,rfl,a,k⟩:=h;refine⟨_,(WV (Nf (TL (Te (N7 Nx c.m rfl (WH 0 Wy)))) Gm Nr)),?_⟩;walk_at"rd";exact⟨ru,rfl,by rw[Yq a];exact⟨_,rfl,k⟩⟩
inductive Kr(CP:Wo)(vs:List V)(H:Hp)(Q:VK)(E:XK):Prop|mk (l:Wo) (ps:List (Addr×Addr)) (ds:List PD) (_:vs=[.ref l]) (_:H l=some (.lst (M8 ps))) (_:Mb CP H ps ds) (_:ds.length <=1000) (_:∀G,Ww H G->Q (.bl true) G)
abbrev Ad:Stmt:=top 45
theorem Z9:Jv ["value"] ["value"] (Wt Ad):=by walk_at"e"
theorem tJ{f CP:Wo}{fd:Wj}(F:JL K "are_pieces" "are_pieces" Ad f fd)(B:Bt mg)(LP:D5 K CP)(gC_Piece:mg "Piece"=some (.ref CP))(ic_Piece:GN K CP):WA P w K mg base Je 1 f fd ["value"] (Kr CP):=by
 refine F.ok Z9 (fun vs H Q E h=>?_) (fun cdv A o s H vs Q E hr h=>?_)
 .obtain⟨l,ps,ds,rfl,_⟩:=h;rfl
 .obtain⟨l,ps,ds,rfl,g,n,hn,k⟩:=h;have a:=LP.cl;refine⟨_,(WV (Jr (Mo (Nh (GC "list") B.isinstance (WH 0 (JM (hs:=MC) (GX (v:=.ty "list") rfl B.blist (by rfl) rfl) Wy))) (Db (Nh (F7 (K:=K) rfl rfl) B.all (JM (hs:=Rw) (Rb (N':=["part"]) (caps:=[none]) (DP (sc:=Wt Ad) (N:=["value"]) rfl rfl (by decide +kernel)) rfl (GG (K:=K) rfl (Wu 0)) (fun _ _ _ _ _=>(Dk (i:=0) (DS (N:=["part"]) rfl (by decide +kernel)) rfl (Or.inl rfl))) (fun _ _ _ _ _=>GW) (fun _ _ _ _ _=>(Nh (Q8 (K:=K) rfl a ic_Piece) B.isinstance (WH 0 (JM (hs:=MC) (Gz (v:=.ref CP) rfl gC_Piece rfl) Wy))))) Wy)))))),?_⟩;walk_at"rd";refine⟨_,Qi g,?_⟩;have e1:E4 "list" "list"=true:=by decide
  rw[e1,Y3 rfl];refine⟨⟨_,WB.of g⟩,?_⟩;have hpl:=n.length;obtain⟨j,b⟩:∃j:Nat->List V->L2.St->Hp->Prop,j=fun i ys σ' H1=>H1=H/\ys=(List.replicate i true).map V.bl/\∃v,σ'=[v]:=⟨_,rfl⟩
  refine B6 (xs:=M8 ps) j (by rw[b];exact⟨rfl,by simp,none,rfl⟩) ?_ (Ny (by unfold M8;rw[Y0];lia)) ?_ ?_ <;> rw[b]
  .rintro i ys σ' H1 ⟨rfl,rfl,_⟩ _;refine⟨WB.of g,?_⟩;simp
  .rintro i y ys σ' H1 r ⟨rfl,rfl,v,rfl⟩;rw[<-b];obtain⟨c,z,rfl⟩:=FI r;obtain⟨d,hd,hO⟩:=n.get z;walk_at"rd";obtain⟨dx,fs,hi⟩:=hO.ins;refine⟨dx,fs,hi,?_⟩;rw[b];exact⟨rfl,by rw[W0,Yn];rfl,_,rfl⟩
  .rintro ys σ' H1 ⟨rfl,rfl,_⟩ p G h0 q hG;walk_at"rd";refine⟨List.replicate (M8 ps).length true,WB.of hG,?_⟩;have e:(List.replicate (M8 ps).length true).all id=true:=by simp
   rw[e];exact k _ q
inductive HQ(CP:Wo)(vs:List V)(H:Hp)(Q:VK)(E:XK):Prop|mk (l:Wo) (ps:List (Addr×Addr)) (ds:List PD) (ky:Int×Str×Str) (_:vs=[.ref l]) (_:H l=some (.lst (M8 ps))) (_:Mb CP H ps ds) (_:1 <=ds.length) (_:ds.length <=1000) (_:(∀d∈ds,d.key=ky)) (_:∀G,Ww H G->Q (.bl true) G)
abbrev Ck:Stmt:=top 46
theorem dX:Jv ["pieces"] ["pieces"] (Wt Ck):=by walk_at"e"
theorem vZ{f CP:Wo}{fd:Wj}(F:JL K "of_one_key" "of_one_key" Ck f fd)(B:Bt mg)(Jy:Nq P w K mg base CP "key" 1 ["self"] [] (IW CP)):WA P w K mg base Je 2 f fd ["pieces"] (HQ CP):=by
 refine F.ok dX (fun vs H Q E h=>?_) (fun cdv A outer s H vs Q E hr h=>?_)
 .obtain⟨l,ps,ds,ky,rfl,_⟩:=h;rfl
 .obtain⟨l,ps,ds,ky,rfl,hl,n,h1,hn,o,k⟩:=h;refine⟨_,(WV (Jr (Nh (F7 (K:=K) rfl rfl) B.all (JM (hs:=Rw) (Rb (N':=["piece","pieces"]) (caps:=[none,some 0]) (DP (sc:=Wt Ck) (N:=["pieces"]) rfl rfl (by decide +kernel)) rfl (GG (K:=K) rfl (Wu 0)) (fun _ _ _ _ _=>(Dk (i:=0) (DS (N:=["piece","pieces"]) rfl (by decide +kernel)) rfl (Or.inl rfl))) (fun _ _ _ _ _=>GW) (fun _ _ _ _ _=>(TF (Bs (K:=K) (Room.units hr) rfl) (Mu (Wu 0) Jy hr.m) (Mu (Me K (Wu 1) J1) Jy hr.m) (M0 _)))) Wy)))),?_⟩;walk_at"rd";refine⟨⟨_,WB.of hl⟩,?_⟩;have hpl:=n.length;obtain⟨Pv,b⟩:∃Pv:Nat->List V->L2.St->Hp->Prop,Pv=fun i ys σ' H1=>Ww H H1/\ys=(List.replicate i true).map V.bl/\∃v,σ'=[v,some (.ref l)]:=⟨_,rfl⟩
  refine B6 (xs:=M8 ps) Pv (by rw[b];exact⟨Ww.refl _,by simp,none,rfl⟩) ?_ (Ny (by unfold M8;rw[Y0];lia)) ?_ ?_ <;> rw[b]
  .rintro i ys σ' H1 ⟨s,rfl,_⟩ _;refine⟨WB.of (s l _ hl),?_⟩;simp
  .rintro i y ys σ' H1 hy ⟨s,rfl,v,rfl⟩;rw[<-b];obtain⟨c,hc,rfl⟩:=FI hy;obtain⟨d,hd,hO⟩:=n.get hc;have z:=hO.mono s;obtain⟨c0,g⟩:∃c0,ps[0]?=some c0:=⟨ps[0],Y6 (by have:=n.len;lia)⟩;obtain⟨d0,hd0,j⟩:=n.get g;walk_at"rd";refine⟨KM z,_,_,d,rfl,z,fun t1 G1 ht1 s1 hG1=>?_⟩;have hat:Mh (M8 ps) 0=some (.ref c0.1):=by
    unfold M8;cases ps with
    |nil=>cases g
    |cons x r=>cases g;exact nG
   have q:=(j.mono s).mono s1;refine⟨_,WB.of (s1 l _ (s l _ hl)),_,hat,KM q,_,_,d0,rfl,q,fun t2 G2 ht2 s2 hG2=>?_⟩;refine⟨_,_,Qu (s2 t1 _ hG1),Qu hG2,QX _ hO.ok.k1 hO.ok.k2,QX _ j.ok.k1 j.ok.k2,?_⟩;have a:=o d (Yw hd);have hk2:=o d0 (Yw hd0);rw[<-hk2]at a;unfold PD.key at a;simp only[Prod.mk.injEq]at a;rw[uI,Yq a,b];exact⟨s.trans (s1.trans s2),by rw[W0,Yn];rfl,_,rfl⟩
  .rintro ys σ' H1 ⟨s,rfl,_⟩ p G h0 sG hG;walk_at"rd";refine⟨List.replicate (M8 ps).length true,WB.of hG,?_⟩;have e:(List.replicate (M8 ps).length true).all id=true:=by simp
   rw[e];exact k _ (s.trans sG)
def TN:RS:=⟨[],[],none,0⟩
abbrev HK:Stmt:=top 47
theorem Aq:Jv ["pieces","rule","reading","piece","answer"] ["pieces","rule"] (Wt HK):=by walk_at"e"
end
theorem FB{P:Int->Int->Prop}(la:Bool):∀ (bs:Wp) (st:List (Int×Int)) (n:Int),(∀k x,Jc st k=some x->P k x)->(∀i:Nat,∀x,bs[i]?=some x->P (n+ i) x)->∀k x,Jc (Jp la st n bs) k=some x->P k x
 |[],_,_,h,_=>h
 |b::bs,st,n,h,g=>by
  refine FB la bs _ (n+ 1) (fun k x hk=>?_) (fun i x hx=>?_)
  .split at hk
   .rw[Qt]at hk
    by_cases e:k=n
    .rw[Y3 e]at hk;have:=g 0 b rfl;rw[e,<-Option.some.inj hk];simpa using this
    .rw[Y2 e]at hk;exact h k x hk
   .exact h k x hk
  .have:=g (i+ 1) x hx;have e:n+ ((i+ 1:Nat):Int)=n+ 1+ (i:Int):=by lia
   rwa [e]at this
theorem IZ(la:Bool):∀ (bs:Wp) (st:List (Int×Int)) (n k:Int),(Jc (Jp la st n bs) k).isSome=true↔(Jc st k).isSome=true\/(n <=k/\k < n+ bs.length)
 |[],st,n,k=>by
  show(Jc st k).isSome=true↔_;exact⟨.inl,fun h=>h.elim id fun z=>by simp at z;lia⟩
 |b::bs,st,n,k=>by
  show(Jc (Jp la _ (n+ 1) bs) k).isSome=true↔_;rw[IZ la bs,List.length_cons];have e1:(n+ 1 <=k/\k < n+ 1+ (bs.length:Int))\/k=n↔(n <=k/\k < n+ ((bs.length+ 1:Nat):Int)):=by lia
  rw[<-e1]
  split <;> rename_i hc
  .rw[Qt]
   by_cases e:k=n
   .rw[Y3 e];exact⟨fun _=>.inr (.inr e),fun _=>.inl rfl⟩
   .rw[Y2 e];exact⟨fun h=>h.imp id .inl,fun h=>h.imp id fun z=>z.elim id fun z=>absurd z e⟩
  .constructor
   .exact fun h=>h.imp id .inl
   .rintro(h|h|h)
    .exact .inl h
    .exact .inr h
    .left
     rw[h];rcases VI (Jc st n).isSome with z|z
     .exact z
     .exact absurd (.inr z) hc
theorem OQ:∀ (bs:Wp) (st:List (Int×Int)) (n:Int),(∀i:Nat,∀x y,bs[i]?=some x->Jc st (n+ i)=some y->y=x)->N1 st n bs=none
 |[],_,_,_=>rfl
 |b::bs,st,n,h=>by
  have ih := OQ bs st (n + 1) fun i x y c a => h (i + 1) x y c (by
   have e:n+ ((i+ 1:Nat):Int)=n+ 1+ (i:Int):=by lia
   rw [e]; exact a)
  show(match Jc st n with|some x=>if x=b then N1 st (n+ 1) bs else some n|none=>N1 st (n+ 1) bs)=none;cases hg:Jc st n with
  |none=>exact ih
  |some y=>
   have:=h 0 b y rfl (by simpa using hg);show(if y=b then N1 st (n+ 1) bs else some n)=none;rw[Y3 this];exact ih
inductive tH where
 |whole (rs:RS)
 |unl (n:Int)
 |lack (rs:RS)
def Np(ru:Str):RS->List PD->tH
 |rs,[]=>.lack rs
 |rs,d::ds=>if strange rs d=true then(if ru="refuse" then .unl d.at' else Np ru rs ds) else
   match (if ru="refuse" then N1 rs.st d.at' d.ns else none) with
   |some n=>.unl n
   |none=>if WR (Tp (decide (ru="last")) rs d).en 0 (Tp (decide (ru="last")) rs d).cv=[] then .whole (Tp (decide (ru="last")) rs d) else Np ru (Tp (decide (ru="last")) rs d) ds
def JO(rs:RS):List Int:=(List.range (rs.en.getD 0).toNat).map fun i:Nat=>(Jc rs.st (i:Int)).getD 0
structure TJ(rs:RS):Prop where
 cov:T7 rs.cv
 dom:∀n,Jo rs.cv n↔(Jc rs.st n).isSome=true
 low:∀n,Jo rs.cv n->0 <=n
 en:∀e,rs.en=some e->0 <=e/\e <=4000
 top:∀n,Jo rs.cv n->n < 4000
theorem TJ.zero:TJ TN where
 cov:=trivial
 dom:=fun n=>⟨fun h=>absurd h (TM n),fun h=>by cases h⟩
 low:=fun n h=>absurd h (TM n)
 en:=fun e h=>by cases h
 top:=fun n h=>absurd h (TM n)
theorem PD.Ok.end'{d:PD}(h:d.Ok):0 <=d.at'/\d.at'+ d.ns.length <=4000/\1 <=d.ns.length:=by
 have h1:=h.a0;have h2:=h.rm;unfold RL at h2;refine⟨h1,?_,h.l1⟩
 split at h2
 .simp only[YR,Y9]at h2;lia
 .simp only[Y9]at h2;lia
theorem TJ.step{rs:RS}{d:PD}(la:Bool)(h:TJ rs)(hd:d.Ok):TJ (Tp la rs d):=by
 obtain⟨h1,h2,g⟩:=hd.end';have b:=Lv (c:=rs.cv) (lo:=d.at') (hi:=d.at'+ d.ns.length) h.cov (by lia);refine⟨b.1,fun n=>?_,fun n f=>?_,fun e a=>?_,fun n f=>?_⟩
 .show Jo (JF rs.cv d.at' (d.at'+ d.ns.length)) n↔(Jc (Jp la rs.st d.at' d.ns) n).isSome=true;rw[b.2,IZ,h.dom]
 .rcases(b.2 n).mp f with z|z
  .exact h.low n z
  .lia
 .have a:(if d.mo=true then rs.en else some (d.at'+ d.ns.length))=some e:=a
  split at a
  .exact h.en e a
  .have:=Option.some.inj a;lia
 .rcases(b.2 n).mp f with z|z
  .exact h.top n z
  .lia
theorem dB{c:List (Int×Int)}(hc:T7 c){p:Int×Int}(hp:p∈c):p.1 < p.2:=by
 induction c with
 |nil=>exact nomatch hp
 |cons q r ih=>
  obtain⟨h1,h2,a⟩:=hc;rcases Yp.mp hp with rfl|hp
  .exact h1
  .exact ih a hp
theorem TJ.body{rs:RS}(h:TJ rs)(hl:WR rs.en 0 rs.cv=[]):∃e:Nat,rs.en=some (e:Int)/\e <=4000/\(JO rs).length=e/\∀i:Nat,∀x,(JO rs)[i]?=some x->Jc rs.st i=some x:=by
 cases he:rs.en with
 |none=>rw[he,Au h.cov]at hl;exact absurd hl (by simp)
 |some e0=>
  obtain⟨a,b⟩:=h.en e0 he;obtain⟨e,rfl⟩:∃e:Nat,e0=e:=⟨e0.toNat,by lia⟩;rw[he,Fc]at hl;have hs:NO e 0 rs.cv=[]:=Ve.mp hl;have g:∀p∈rs.cv,0 <=p.1:=fun p o=>h.low p.1 ⟨p,o,YJ _,dB h.cov o⟩
  have j:∀n:Int,0 <=n->n < e->Jo rs.cv n:=fun n r h1=>by
   have:=(CZ (e:=(e:Int)) h.cov g).2.2 n;rw[hs]at this;exact YY fun z=>TM n (this.mpr ⟨r,h1,z⟩)
  have c:(JO rs).length=e:=by
   unfold JO;rw[he,Y0,YB];simp
  refine⟨e,rfl,by lia,c,fun i x d=>?_⟩;have hi:i < e:=by rw[<-c];exact(Y4.mp d).1
  have q:=(h.dom i).mp (j i (by lia) (by lia));obtain⟨y,l⟩:=Xw.mp q;unfold JO at d;rw[Yc,XD (by rw[he];simpa using hi)]at d;have f:(Jc rs.st (i:Int)).getD 0=x:=Option.some.inj d;rw[l]at f;rw[l,<-f];rfl
section
variable{P:Wh}{w:Wl}{K:Wm}{mg:Wd}{base:Wr}
def FX(CP CW CU CK:Wo):Sp:=fun vs H Q _=>∃ (l:Wo) (ru:Str) (ps:List (Addr×Addr)) (ds:List PD) (ky:Int×Str×Str),vs=[.ref l,.str ru]/\(ru="first"\/ru="last"\/ru="refuse")/\H l=some (.lst (M8 ps))/\Mb CP H ps ds/\1 <=ds.length/\ds.length <=300/\(ds.map fun d=>d.ns.length).sum <=20000/\(∀d∈ds,d.key=ky)/\
 match Np ru TN ds with
 | .whole rs=>∀m b G,H b=none->Ww H G->EL CW "body" G m b ((JO rs).map V.int)->Q (.ref m) G
 | .unl n=>∀m G,Ww H G->DL CU "at" G m (.int n)->Q (.ref m) G
 | .lack rs=>∀m b xs G,H b=none->Ww H G->EL CK "spans" G m b xs->JY G xs (WR rs.en 0 rs.cv)->Q (.ref m) G
theorem ZJ{f C CP CW CU CK:Wo}{fd:Wj}(F:JL K "judged" "judged" HK f fd)(NF:Nt P w K mg base "check_rule" 2 ["rule"] [] OJ)(NI:Nt P w K mg base "are_pieces" 1 ["value"] [] (Kr CP))(NE:Nt P w K mg base "of_one_key" 2 ["pieces"] [] (HQ CP))
  (Tt:MZ P w K mg base "Reading" 1 (L7 C)) (J0:Nq P w K mg base C "answer_to" 3 ["self","piece"] [] (AM C CP CW CU)) (WP:Nq P w K mg base C "missing" 2 ["self"] [] (BV C)) (DH:MZ P w K mg base "Lacking" 1 (C3 CK "spans")):WA P w K mg base Je 4 f fd ["pieces","rule"] (FX CP CW CU CK):=by
 refine F.ok Aq (fun vs H Q E h=>?_) (fun cdv A outer s H vs Q E g h=>?_)
 .obtain⟨l,ru,ps,ds,ky,rfl,_⟩:=h;rfl
 .obtain⟨l,ru,ps,ds,ky,rfl,hru,hl,hp,h1,hn,hsum,hky,v⟩:=h;refine⟨_,(WN (MB (N7 NF g.m rfl (WH 1 Wy))) (WN (Nf (PW.pt (DQ (TL (Te (N7 NI g.m rfl (WH 0 Wy)))) (DQ (T3 (HD (Ig (K:=K) (Room.units g) rfl)) (Wu 0) (TD Wy)) (GH (TL (Te (N7 NE g.m rfl (WH 0 Wy)))))))) Gm Nr) (WN (NL 2 Aq (Rs Tt g.m rfl (WH 1 Wy))) (WN (Gi X4 rfl (GG (K:=K) rfl (Wu 0)) (Mw 3 Aq) (WN (NL 4 Aq (Mz (Wu 2) J0 g.m (WH 3 Wy))) (WV (Nf (T3 Bu (Wu 4) DC) (WV (Jr (Wu 4))) Nr)))) (WV (Jr (Rs DH g.m rfl (Mj (Mu (Wu 2) WP g.m) Wy)))))))),?_⟩;walk_at"rd";refine⟨ru,rfl,hru,?_⟩;refine⟨l,ps,ds,rfl,hl,hp,by lia,fun G1 s1=>⟨_,rfl,?_⟩⟩;rw[Y2 (by simp)];have hpl:=hp.len;refine⟨Ny (by simp),fun z q hz s2 hz2=>⟨M8 ps,WB.of (s2 l _ (s1 l _ hl)),WB.of hz2,?_⟩⟩;rw[Y2 (by rw[Kf];simp only[Y9];lia)];have s12:=s1.trans s2;refine⟨l,ps,ds,ky,rfl,s12 l _ hl,hp.mono s12,h1,by lia,hky,fun G3 s3=>⟨_,rfl,?_⟩⟩;rw[Y2 (by simp)];have s13:=s12.trans s3;refine⟨ru,rfl,fun p a l0 G4 hp4 ha4 _ s4 hR4=>⟨⟨_,WB.of (s4 l _ (s13 l _ hl))⟩,?_⟩⟩;have s14:=s13.trans s4;have hpH:H p=none:=s13.free hp4;have haH:H a=none:=s13.free ha4;obtain⟨Pv,aa⟩:∃Pv:Nat->L2.St->Hp->Prop,Pv=fun i σ' G=>∃ (l':Wo) (v3 v4:Option V) (rs:RS),σ'=[some (.ref l),some (.str ru),some (.ref p),v3,v4]/\Ww H G/\JP C G p a l' ru rs/\TJ rs/\
   Np ru TN ds=Np ru rs (ds.drop i)/\rs.st.length+ ((ds.drop i).map fun d=>d.ns.length).sum <=20000/\rs.cv.length <=i:=⟨_,rfl⟩
  refine Fe (xs:=M8 ps) Pv (by rw[aa];exact⟨l0,_,_,TN,rfl,s14,hR4,TJ.zero,rfl,by simpa[TN] using hsum,Y5 _⟩) ?_ ?_ ?_ <;> rw[aa]
  .rintro i σ' G _ ⟨_,_,_,_,_,s,_⟩;exact WB.of (s l _ hl)
  .rintro i x σ' G hx ⟨l',v3,v4,rs,rfl,s,hR,hI,b,hst,hcv⟩;rw[<-aa];obtain⟨c,hc,rfl⟩:=FI hx;obtain⟨d,hd,hO⟩:=hp.get hc;have hO1:=hO.mono s;have hlt:i < ds.length:=(Y4.mp hd).1;have hdr:ds.drop i=d::ds.drop (i+ 1):=by
    rw[YO hlt];rw[Y6 hlt]at hd;rw[Option.some.inj hd]
   rw [hdr] at b hst;rw [List.map_cons, UQ] at hst;have hrun' : Np ru rs (d :: ds.drop (i + 1)) = (if strange rs d = true then (if ru = "refuse" then .unl d.at' else Np ru rs (ds.drop (i + 1))) else
    match (if ru="refuse" then N1 rs.st d.at' d.ns else none) with
    |some n=>.unl n
    | none => if WR (Tp (decide (ru = "last")) rs d).en 0 (Tp (decide (ru = "last")) rs d).cv = [] then .whole (Tp (decide (ru = "last")) rs d) else Np ru (Tp (decide (ru = "last")) rs d) (ds.drop (i + 1))) := rfl
   rw[hrun']at b;have hsame:∀{q},NJ p a G q->Ww H q:=fun kp c o e=>kp c o (s c o e) (No e hpH) (No e haH)
   walk_at"rd";refine⟨Lz hR,p,a,l',c.1,c.2,ru,rs,d,rfl,hR,hO1,by lia,by lia,fun hs=>⟨fun g m q s2 hA=>?_,fun g=>?_⟩,fun hs=>⟨fun n h2 h3 m q s2 hA=>?_,fun hu j ers=>?_⟩⟩
   .rw[Y3 hs,Y3 g]at b;rw[b]at v;walk_at"rd";exact v m q (s.trans s2) hA
   .rw[Y3 hs,Y2 g]at b;walk_at"rd";rw[aa];exact⟨l',_,_,rs,rfl,s,hR,hI,b,by lia,by lia⟩
   .rw[Y2 (by rw[hs];simp),Y3 h2,h3]at b;rw[b]at v;walk_at"rd";exact v m q (s.trans s2) hA
   .have hnone:(if ru="refuse" then N1 rs.st d.at' d.ns else none)=none:=by
     split
     .rename_i h;exact hu h
     .rfl
    rw[Y2 (by rw[hs];simp),hnone]at b;have hI':TJ j:=by rw[ers];exact hI.step _ hO.ok
    have hlen2:j.st.length <=rs.st.length+ d.ns.length:=by rw[ers];exact AK _ _ _ _
    have hcv2:j.cv.length <=i+ 1:=by
     rw[ers];have:=Qv rs.cv d.at' (d.at'+ d.ns.length);show(JF rs.cv d.at' (d.at'+ d.ns.length)).length <=i+ 1
     lia
    rw[<-ers]at b;refine⟨fun hne l2 q _ kp hR2=>?_,fun heq=>?_⟩
    .have r:Np ru TN ds=Np ru j (ds.drop (i+ 1)):=b.trans (Y2 hne);walk_at"rd";rw[aa];exact⟨l2,_,_,j,rfl,hsame kp,hR2,hI',r,by lia,hcv2⟩
    .have r:Np ru TN ds= .whole j:=b.trans (Y3 heq);rw[r]at v;obtain⟨e,b1,b2,b3,b4⟩:=hI'.body heq;refine⟨e,JO j,b1,b2,b3,b4,fun m b' _ q hb0 _ kp _ hA=>?_⟩;walk_at"rd";exact v m b' q (s.free hb0) (hsame kp) hA
  .rintro σ' G ⟨l',v3,v4,rs,rfl,s,hR,hI,b,hst,hcv⟩;rw[Kf,UN (by lia)]at b;rw[Kf]at hcv;walk_at"rd";refine⟨HX hR,p,a,l',ru,rs,rfl,hR,by lia,fun m G5 s5 hm hC=>?_⟩;obtain⟨xs,hx,hxc⟩:=hC;refine⟨m,xs,rfl,hx,fun w' b' G6 hw hb' s6 hA=>?_⟩;have e:Np ru TN ds= .lack rs:=b;rw[e]at v;exact v w' b' xs G6 ((s.trans s5).free hb') (s.trans (s5.trans s6)) hA (hxc.tk (Gk s6))
end
def oD:Option Int->PyData
 |none=>.none
 |some n=>.int n
def MS(p:Int×Option Int):PyData:=.tuple [.int p.1,oD p.2]
section
variable{P:Wh}{w:Wl}{K:Wm}{mg:Wd}{base:Wr}{H G:Hp}
theorem yC{xs:List V}{c:List (Int×Option Int)}(h:JY H xs c):NU K H xs (c.map MS):=by
 induction h with
 |nil=>exact .nil
 |@cons x p l1 l2 r _ ih=>
  obtain⟨t,rfl,e⟩:=r;refine .cons (.tup (JV.of e) (.cons (.int _) (.cons ?_ .nil))) ih;cases p.2 with
  |none=>exact .non
  |some n=>exact .int n
theorem F5{l:Wo}{c:List (Int×Option Int)}(h:JE H l c):Dp K H (.ref l) (.list (c.map MS)):=by
 obtain⟨xs,e,k⟩:=h;exact .lst (WB.of e) (yC k)
theorem Cz(c:List (Int×Option Int)):SeqAt.shaped (.list (c.map MS))=true:=by
 have h1:∀c:List (Int×Option Int),PyData.canLayAll0 (c.map MS)=true:=fun c=>by
  induction c with
  |nil=>rfl
  |cons p r ih=>
   obtain⟨a,b⟩:=p;cases b <;> simp[PyData.canLayAll0,PyData.canLay0,MS,oD,ih]
 have h2:∀c:List (Int×Option Int),PyData.depthAll (c.map MS) <=6:=fun c=>by
  induction c with
  |nil=>simp[PyData.depthAll]
  |cons p r ih=>
   obtain⟨a,b⟩:=p;cases b <;> (simp[PyData.depthAll,PyData.depth,MS,oD];lia)
 have d:=h2 c;simp[SeqAt.shaped,PyData.canLay0,h1 c,PyData.depth];lia
theorem mZ(p q:Int×Option Int):PyData.eqv (MS p) (MS q)=decide (p=q):=by
 obtain⟨a,b⟩:=p;obtain⟨d,c⟩:=q;rw[Yz];cases b <;> cases c <;> simp[MS,oD,PyData.eqv,PyData.eqvAll]
theorem Q4:∀c d:List (Int×Option Int),PyData.eqv (.list (c.map MS)) (.list (d.map MS))=decide (c=d):=by
 have h:∀c d:List (Int×Option Int),PyData.eqvAll (c.map MS) (d.map MS)=decide (c=d):=by
  intro c
  induction c with
  |nil=>intro d;cases d <;> simp[PyData.eqvAll]
  |cons p r ih=>
   intro d;cases d with
   |nil=>simp[PyData.eqvAll]
   |cons q t=>
    show(PyData.eqv (MS p) (MS q) && PyData.eqvAll (r.map MS) (t.map MS))=_;rw[mZ,ih,Yz];simp
 exact h
end
def NP(k:Int×Str×Str):List WU:=[Sum.inl k.1,Sum.inr k.2.1,Sum.inr k.2.2]
def D4(k:Int×Str×Str):List V:=[.int k.1,.str k.2.1,.str k.2.2]
theorem Rg{k j:Int×Str×Str}(h:NP k=NP j):k=j:=by
 unfold NP at h;simp only[List.cons.injEq,W2,W3,and_true]at h;exact UB h.1 (UB h.2.1 h.2.2)
structure RE where
 ky:Int×Str×Str
 p:Addr
 a:Addr
 l:Addr
 rs:RS
 first:Int
structure WJ where
 ru:Str
 wt:Int
 sp:Int
 out:Str
 ag:Str
 now:Int
 es:List RE
 ws:List ((Int×Str×Str)×Int)
def E6(R:WJ)(dr df dw:Wo):List (Str×V):=[("rule",.str R.ru),("wait",.int R.wt),("space",.int R.sp),("out",.str R.out),("again",.str R.ag),("now",.int R.now),("readings",.ref dr),("firsts",.ref df),("wholes",.ref dw)]
def My(es:List RE):List (List WU×V):=es.map fun e=>(NP e.ky,.ref e.p)
def MP(es:List RE):List (List WU×V):=es.map fun e=>(NP e.ky,.int e.first)
def Gd(ws:List ((Int×Str×Str)×Int)):List (List WU×V):=ws.map fun e=>(NP e.1,.int e.2)
structure Mn(K:Wm)(C:Wo):Prop where
 cl:Ml K C
 rule:WF K C "rule"
 wait:WF K C "wait"
 space:WF K C "space"
 out:WF K C "out"
 again:WF K C "again"
 now:WF K C "now"
 readings:WF K C "readings"
 firsts:WF K C "firsts"
 wholes:WF K C "wholes"
structure Wz(C CR:Wo)(H:Hp)(m dr df dw:Wo)(R:WJ):Prop where
 ex:∃dx fs,H m=some (.ins C dx fs)/\fs.length <=9/\∀f,fs.lookup f=(E6 R dr df dw).lookup f
 dR:H dr=some (.dT (My R.es))
 dF:H df=some (.dT (MP R.es))
 dW:H dw=some (.dT (Gd R.ws))
 n1:dr≠df
 n2:dr≠dw
 n3:df≠dw
 rd:∀e∈R.es,JP CR H e.p e.a e.l R.ru e.rs
 np:(R.es.map (·.p)).Nodup
 na:(R.es.map (·.a)).Nodup
 nk:(R.es.map (·.ky)).Nodup
section
variable{P:Wh}{w:Wl}{K:Wm}{mg:Wd}{base:Wr}{C CR m dr df dw:Wo}{H G:Hp}{R:WJ}
theorem Wz.mono(s:Ww H G)(h:Wz C CR H m dr df dw R):Wz C CR G m dr df dw R:=by
 obtain⟨dx,fs,e,r⟩:=h.ex;exact⟨⟨dx,fs,s _ _ e,r⟩,s _ _ h.dR,s _ _ h.dF,s _ _ h.dW,h.n1,h.n2,h.n3,fun e a=>(h.rd e a).mono s,h.np,h.na,h.nk⟩
theorem Wz.fld(h:Wz C CR H m dr df dw R)(cl:Ml K C){f:Str}{v:V}(na:WF K C f)(e:(E6 R dr df dw).lookup f=some v):Nv K H (.ref m) f v:=by
 obtain⟨dx,fs,a,_,b⟩:=h.ex;exact⟨m,C,dx,fs,rfl,a,cl,na,by rw[b f,e]⟩
theorem Qo(L:Mn K C)(h:Wz C CR H m dr df dw R):Nv K H (.ref m) "rule" (.str R.ru):=h.fld L.cl L.rule rfl
theorem vQ(L:Mn K C)(h:Wz C CR H m dr df dw R):Nv K H (.ref m) "wait" (.int R.wt):=h.fld L.cl L.wait rfl
theorem mX(L:Mn K C)(h:Wz C CR H m dr df dw R):Nv K H (.ref m) "space" (.int R.sp):=h.fld L.cl L.space rfl
theorem nJ(L:Mn K C)(h:Wz C CR H m dr df dw R):Nv K H (.ref m) "again" (.str R.ag):=h.fld L.cl L.again rfl
theorem AD(L:Mn K C)(h:Wz C CR H m dr df dw R):Nv K H (.ref m) "now" (.int R.now):=h.fld L.cl L.now rfl
theorem EE(L:Mn K C)(h:Wz C CR H m dr df dw R):Nv K H (.ref m) "readings" (.ref dr):=h.fld L.cl L.readings rfl
theorem Q0(L:Mn K C)(h:Wz C CR H m dr df dw R):Nv K H (.ref m) "firsts" (.ref df):=h.fld L.cl L.firsts rfl
theorem IE(L:Mn K C)(h:Wz C CR H m dr df dw R):Nv K H (.ref m) "wholes" (.ref dw):=h.fld L.cl L.wholes rfl
theorem Wz.mt(h:Wz C CR H m dr df dw R){f:Str}(e:(E6 R dr df dw).lookup f=none):Ge C f H (.ref m):=by
 obtain⟨dx,fs,a,_,b⟩:=h.ex;exact⟨m,dx,fs,rfl,a,by rw[b f,e]⟩
theorem EU{es:List RE}(hk:(es.map (·.ky)).Nodup){e:RE}(he:e∈es):J5 (My es) (NP e.ky)=some (.ref e.p):=by
 induction es with
 |nil=>exact nomatch he
 |cons x r ih=>
  unfold My J5;rw[List.map_cons,YU];rcases Yp.mp he with rfl|z
  .simp
  .have a:¬NP x.ky=NP e.ky:=fun q=>(YI.mp hk).1 (Ya.mpr ⟨e,z,(Rg q).symm⟩)
   rw[Yt a];exact ih (YI.mp hk).2 z
theorem Cy{es:List RE}(hk:(es.map (·.ky)).Nodup){e:RE}(he:e∈es):J5 (MP es) (NP e.ky)=some (.int e.first):=by
 induction es with
 |nil=>exact nomatch he
 |cons x r ih=>
  unfold MP J5;rw[List.map_cons,YU];rcases Yp.mp he with rfl|z
  .simp
  .have a:¬NP x.ky=NP e.ky:=fun q=>(YI.mp hk).1 (Ya.mpr ⟨e,z,(Rg q).symm⟩)
   rw[Yt a];exact ih (YI.mp hk).2 z
theorem Sd{es:List RE}{k:Int×Str×Str}(hk:k∉es.map (·.ky)):J5 (My es) (NP k)=none:=by
 unfold My J5;rw[Vo.mpr]
 .rfl
 .intro x a;obtain⟨e,b,rfl⟩:=Ya.mp a;simp only[Y9];exact fun q=>hk (Ya.mpr ⟨e,b,Rg q⟩)
theorem nX{es:List RE}{k:Int×Str×Str}(hk:k∉es.map (·.ky)):J5 (MP es) (NP k)=none:=by
 unfold MP J5;rw[Vo.mpr]
 .rfl
 .intro x a;obtain⟨e,b,rfl⟩:=Ya.mp a;simp only[Y9];exact fun q=>hk (Ya.mpr ⟨e,b,Rg q⟩)
def Nu(es:List RE)(k:Int×Str×Str):List RE:=es.filter fun e=> !decide (e.ky=k)
theorem xP(es:List RE)(k:Int×Str×Str):JN (My es) (NP k)=My (Nu es k):=by
 unfold JN My Nu;rw[VP]
 congr 1
 apply UL;intro e _;show(!decide (NP e.ky=NP k))= !decide (e.ky=k)
 congr 1
 rw[Yz,Y9,Y9];exact⟨Rg,X0 NP⟩
theorem uC(es:List RE)(k:Int×Str×Str):JN (MP es) (NP k)=MP (Nu es k):=by
 unfold JN MP Nu;rw[VP]
 congr 1
 apply UL;intro e _;show(!decide (NP e.ky=NP k))= !decide (e.ky=k)
 congr 1
 rw[Yz,Y9,Y9];exact⟨Rg,X0 NP⟩
theorem Wz.ne(h:Wz C CR H m dr df dw R):m≠dr/\m≠df/\m≠dw/\∀e∈R.es,m≠e.p/\m≠e.a/\e.p≠dr/\e.p≠df/\e.p≠dw/\e.a≠dr/\e.a≠df/\e.a≠dw:=by
 obtain⟨dx,fs,b,_,d⟩:=h.ex;refine⟨Wv b h.dR nofun,Wv b h.dF nofun,Wv b h.dW nofun,fun e f=>?_⟩;have r:=h.rd e f;obtain⟨g,fs',c,_,_,hs,_⟩:=r.ex;refine⟨fun z=>?_,Wv b r.dk nofun,Wv c h.dR nofun,Wv c h.dF nofun,Wv c h.dW nofun,Wv r.dk h.dR nofun,Wv r.dk h.dF nofun,Wv r.dk h.dW nofun⟩;rw[z,c]at b;cases b;rw[d]at hs;cases hs
def QK(d:Wo)(H G:Hp):Prop:=∀c o,H c=some o->c≠d->G c=some o
theorem JP.offD{p a l d:Wo}{ru:Str}{rs:RS}{kvs:List (List WU×V)}(b:QK d H G)(hd:H d=some (.dT kvs))(h:JP CR H p a l ru rs):JP CR G p a l ru rs:=by
 obtain⟨dx,fs,f,r⟩:=h.ex;obtain⟨xs,c,g⟩:=h.cv;exact⟨⟨dx,fs,b _ _ f (Wv f hd nofun),r⟩,b _ _ h.dk (Wv h.dk hd nofun),xs,b _ _ c (Wv c hd nofun),g.tk fun t ys e=>b _ _ e (Wv e hd nofun)⟩
theorem Wz.fldO(h:Wz C CR H m dr df dw R)(hG:∀o,H m=some o->G m=some o)(cl:Ml K C){f:Str}{v:V}(na:WF K C f)(e:(E6 R dr df dw).lookup f=some v):Nv K G (.ref m) f v:=by
 obtain⟨dx,fs,a,_,b⟩:=h.ex;exact⟨m,C,dx,fs,rfl,hG _ a,cl,na,by rw[b f,e]⟩
theorem gF{es:List RE}{i:Nat}{k:List WU}{v:V}(h:(My es)[i]?=some (k,v)):∃e,es[i]?=some e/\k=NP e.ky/\v= .ref e.p:=by
 unfold My at h;rw[Yc]at h;obtain⟨e,a,q⟩:=YA.mp h;cases q;exact⟨e,a,rfl,rfl⟩
theorem Zp{es:List RE}{i:Nat}{k:List WU}{v:V}(h:(MP es)[i]?=some (k,v)):∃e,es[i]?=some e/\k=NP e.ky/\v= .int e.first:=by
 unfold MP at h;rw[Yc]at h;obtain⟨e,a,q⟩:=YA.mp h;cases q;exact⟨e,a,rfl,rfl⟩
end
section
variable{P:Wh}{w:Wl}{K:Wm}{mg:Wd}{base:Wr}
def Fk(k:Int×Str×Str):Prop:=0 <=k.1/\k.1 <=65535/\N6 k.2.1/\N6 k.2.2
inductive Lo(vs:List V)(H:Hp)(Q:VK)(E:XK):Prop|mk (n lo:Int) (_:vs=[.int n,.int lo]) (_:Q (.bl (decide (lo <=n))) H)
abbrev IB:Stmt:=top 11
theorem dD:Jv ["value","low"] ["value","low"] (Wt IB):=by walk_at"e"
theorem gB{f:Wo}{fd:Wj}(F:JL K "is_whole_from" "is_whole_from" IB f fd)(Jw:Nt P w K mg base "is_whole" 1 ["value"] [] An):WA P w K mg base Je 2 f fd ["value","low"] Lo:=by
 refine F.ok dD (fun vs H Q E h=>?_) (fun c A a s H vs Q E b h=>?_)
 .obtain⟨n,lo,rfl,_⟩:=h;rfl
 .obtain⟨n,lo,rfl,q⟩:=h;refine⟨_,(WV (Jr (Mo (N7 Jw b.m rfl (WH 0 Wy)) (Db (TF (Nm C9) (Wu 0) (Wu 1) (M0 _)))))),?_⟩;walk_at"rd";exact⟨_,_,rfl,rfl,_,rfl,q⟩
inductive OA(vs:List V)(H:Hp)(Q:VK)(E:XK):Prop|mk (ru:Str) (_:vs=[.str ru]) (_:Q (.bl (decide (ru="oldest"\/ru="widest"\/ru="own"))) H)
abbrev Fl:Stmt:=top 19
theorem wA:Jv ["value"] ["value"] (Wt Fl):=by walk_at"e"
theorem vN{f aOUTS:Wo}{fd:Wj}(F:JL K "is_out" "is_out" Fl f fd)(B:Bt mg)(g_OUTS:mg "OUTS"=some (.ref aOUTS))(t_OUTS:∀H,JV K H aOUTS [.str "oldest",.str "widest",.str "own"]):WA P w K mg base Je 1 f fd ["value"] OA:=by
 refine F.ok wA (fun vs H Q E h=>?_) (fun b A a s H vs Q E c h=>?_)
 .obtain⟨ru,rfl,_⟩:=h;rfl
 .obtain⟨ru,rfl,k⟩:=h;refine⟨_,(WV (Jr (Mo (Nh (GC "str") B.isinstance (WH 0 (JM (hs:=MC) (GX (v:=.ty "str") rfl B.bstr (by rfl) rfl) Wy))) (Db (TF (KA (K:=K) rfl) (Wu 0) (Gz (v:=.ref aOUTS) rfl g_OUTS rfl) (by with_unfolding_all rfl)))))),?_⟩;walk_at"rd";rw[Y3 (by decide)];refine⟨aOUTS,_,rfl,.inr (t_OUTS H),rfl,rfl,?_⟩;have e:Rx (.str ru) [.str "oldest",.str "widest",.str "own"]=decide (ru="oldest"\/ru="widest"\/ru="own"):=by
   rw[Yz];simp only[Rx,Fq,XO,Wb,Vs,V5,Y9];exact⟨fun h=>h.imp XG (Or.imp XG XG),fun h=>h.imp XG (Or.imp XG XG)⟩
  rw[Y2 (by simp),e];exact k
inductive Ow(vs:List V)(H:Hp)(Q:VK)(E:XK):Prop|mk (ru:Str) (_:vs=[.str ru]) (_:Q (.bl (decide (ru="fresh"\/ru="rest"))) H)
abbrev IC:Stmt:=top 20
theorem u9:Jv ["value"] ["value"] (Wt IC):=by walk_at"e"
theorem mD{f aAGAINS:Wo}{fd:Wj}(F:JL K "is_again" "is_again" IC f fd)(B:Bt mg)(g_AGAINS:mg "AGAINS"=some (.ref aAGAINS))(t_AGAINS:∀H,JV K H aAGAINS [.str "fresh",.str "rest"]):WA P w K mg base Je 1 f fd ["value"] Ow:=by
 refine F.ok u9 (fun vs H Q E h=>?_) (fun b A a s H vs Q E c h=>?_)
 .obtain⟨ru,rfl,_⟩:=h;rfl
 .obtain⟨ru,rfl,k⟩:=h;refine⟨_,(WV (Jr (Mo (Nh (GC "str") B.isinstance (WH 0 (JM (hs:=MC) (GX (v:=.ty "str") rfl B.bstr (by rfl) rfl) Wy))) (Db (TF (KA (K:=K) rfl) (Wu 0) (Gz (v:=.ref aAGAINS) rfl g_AGAINS rfl) (by with_unfolding_all rfl)))))),?_⟩;walk_at"rd";rw[Y3 (by decide)];refine⟨aAGAINS,_,rfl,.inr (t_AGAINS H),rfl,rfl,?_⟩;have e:Rx (.str ru) [.str "fresh",.str "rest"]=decide (ru="fresh"\/ru="rest"):=by
   rw[Yz];simp only[Rx,Fq,XO,Wb,Vs,V5,Y9];exact⟨fun h=>h.imp XG XG,fun h=>h.imp XG XG⟩
  rw[Y2 (by simp),e];exact k
inductive LV(vs:List V)(H:Hp)(Q:VK)(E:XK):Prop|mk (t:Wo) (k:Int×Str×Str) (_:vs=[.ref t]) (_:H t=some (.tup (D4 k))) (_:Fk k) (_:∀G,Ww H G->Q (.bl true) G)
abbrev Ho:Stmt:=top 15
theorem Z0:Jv ["value"] ["value"] (Wt Ho):=by walk_at"e"
theorem xU{f:Wo}{fd:Wj}(F:JL K "is_key" "is_key" Ho f fd)(B:Bt mg)(JX:Nt P w K mg base "is_number" 3 ["value"] [] Fu)(JT:Nt P w K mg base "is_name" 1 ["value"] [] Hh):WA P w K mg base Je 4 f fd ["value"] LV:=by
 refine F.ok Z0 (fun vs H Q E h=>?_) (fun g A d s H vs Q E c h=>?_)
 .obtain⟨t,k,rfl,_⟩:=h;rfl
 .obtain⟨t,k,rfl,b,a,q⟩:=h;refine⟨_,(WN (Nf (PW.pt (DQ (TL (Te (Nh (GC "tuple") B.isinstance (WH 0 (JM (hs:=MC) (GX (v:=.ty "tuple") rfl B.btuple (by rfl) rfl) Wy))))) (GH (T3 (RG Rv) (Nh (D6 (D3 (K:=K) rfl)) B.len (WH 0 Wy)) J1)))) (WV (Jr Gv)) Nr) (WV (Jr (Mo (N7 JX c.m rfl (MQ (MD K (Wu 0) J1) Wy)) (Mo (N7 JT c.m rfl (MQ (MD K (Wu 0) J1) Wy)) (Db (N7 JT c.m rfl (MQ (MD K (Wu 0) J1) Wy)))))))),?_⟩;walk_at"rd";have st:=JV.of (K:=K) b;refine⟨_,xX b,?_⟩;rw[Y2 (by decide)];refine⟨_,.inr st,rfl,?_⟩;rw[Y2 (by simp[D4])];refine⟨_,st,_,rfl,_,_,rfl,rfl,_,rfl,?_⟩;rw[Y3 (by simp[MN,a.1,a.2.1])];have j:=a.2.2.1.2.1;have i:=a.2.2.2.2.1;refine⟨_,st,_,rfl,_,_,rfl,rfl,(fun z e=>by cases e;lia),fun H1 s1=>⟨_,rfl,?_⟩⟩;rw[Y3 (N6.is a.2.2.1)];refine⟨_,JV.of (s1 _ _ b),_,rfl,_,_,rfl,rfl,(fun z e=>by cases e;lia),fun H2 s2=>?_⟩;rw[N6.is a.2.2.2];exact q H2 (s1.trans s2)
inductive HE(C:Wo)(vs:List V)(H:Hp)(Q:VK)(E:XK):Prop|mk (p a l:Wo) (ru:Str) (rs:RS) (_:vs=[.ref p]) (_:JP C H p a l ru rs) (_:Q (.int rs.st.length) H)
abbrev Iq:Stmt:=Tr (top 43) 4
theorem Sz:Jv ["self"] ["self"] (Wt Iq):=by walk_at"e"
theorem gJ{f C:Wo}{fd:Wj}(F:JL K "size" "Reading.size" Iq f fd)(L:Dv K C)(B:Bt mg):WA P w K mg base Je 1 f fd ["self"] (HE C):=by
 refine F.ok Sz (fun vs H Q E h=>?_) (fun d A c s H vs Q E g h=>?_)
 .obtain⟨p,a,l,ru,rs,rfl,_⟩:=h;rfl
 .obtain⟨p,a,l,ru,rs,rfl,b,q⟩:=h;refine⟨_,(WV (Jr (Nh yA B.len (MK (JK K (Wu 0)) Wy)))),?_⟩;walk_at"rd";refine⟨_,Ed L b,_,rfl,_,b.dk,?_⟩;have e:(Dm rs.st).length=rs.st.length:=Y0 ..;rw[e];exact q
inductive KU(C CR:Wo)(vs:List V)(H:Hp)(Q:VK)(E:XK):Prop|mk (m dr df dw:Wo) (R:WJ) (t:Int) (_:vs=[.ref m,.int t]) (_:Wz C CR H m dr df dw R) (_:R.now <=t) (_:Q .non H)
abbrev FQ:Stmt:=Tr (top 49) 8
theorem yW:Jv ["self","time"] ["self","time"] (Wt FQ):=by walk_at"e"
theorem dQ{f C CR:Wo}{fd:Wj}(F:JL K "check_time" "Room.check_time" FQ f fd)(L:Mn K C)(J7:Nt P w K mg base "is_whole_from" 2 ["value","low"] [] Lo):WA P w K mg base Je 3 f fd ["self","time"] (KU C CR):=by
 refine F.ok yW (fun vs H Q E h=>?_) (fun e A a s H vs Q E c h=>?_)
 .obtain⟨m,dr,df,dw,R,t,rfl,_⟩:=h;rfl
 .obtain⟨m,dr,df,dw,R,t,rfl,d,b,q⟩:=h;refine⟨_,(WV (Nf (TL (Te (N7 J7 c.m rfl (WH 1 (MK (JK K (Wu 0)) Wy))))) Gm Nr)),?_⟩;walk_at"rd";refine⟨_,AD L d,t,R.now,rfl,?_⟩;rw[Yq b];exact⟨_,rfl,q⟩
inductive Bw(C CR:Wo)(vs:List V)(H:Hp)(Q:VK)(E:XK):Prop|mk (m dr df dw t:Wo) (R:WJ) (k:Int×Str×Str) (_:vs=[.ref m,.ref t]) (_:Wz C CR H m dr df dw R) (_:H t=some (.tup (D4 k))) (_:k∈R.es.map (·.ky)) (_:∀G,(∀c o,H c=some o->c≠dr->c≠df->G c=some o)->Wz C CR G m dr df dw {R with es:=Nu R.es k}->Q .non G)
abbrev Ft:Stmt:=Tr (top 49) 10
theorem t9:Jv ["self","key"] ["self","key"] (Wt Ft):=by walk_at"e"
theorem uP{f C CR:Wo}{fd:Wj}(F:JL K "let_go" "Room.let_go" Ft f fd)(L:Mn K C):WA P w K mg base Je 1 f fd ["self","key"] (Bw C CR):=by
 refine F.ok t9 (fun vs H Q E h=>?_) (fun cdv A outer s H vs Q E hr h=>?_)
 .obtain⟨m,dr,df,dw,t,R,k,rfl,_⟩:=h;rfl
 .obtain⟨m,dr,df,dw,t,R,k,rfl,a,l,hk,q⟩:=h;refine⟨_,(WN (MB (Dt (K:=K) rfl U4 UZ VX (OX (Dw hr)) (JK K (Wu 0)) (WH 1 Wy))) (WV (MB (Dt (K:=K) rfl U4 UZ VX (OX (Dw hr)) (JK K (Wu 0)) (WH 1 Wy))))),?_⟩;walk_at"rd";obtain⟨e,he,rfl⟩:=Ya.mp hk;obtain⟨g,v,nm3,nme⟩:=a.ne;refine⟨_,EE L a,.inr (.inr (.inl ⟨rfl,.inr ⟨_,a.dR⟩⟩)),dr,rfl,NP e.ky,_,a.dR,l,_,EU a.nk he,fun G1 d e1=>?_⟩;have hm1:∀o,H m=some o->G1 m=some o:=fun o h=>d m o h g
  have b:=d df _ a.dF (Ne.symm a.n1);have aa:=d t _ l (Wv l a.dR nofun);refine⟨_,a.fldO hm1 L.cl L.firsts rfl,.inr (.inr (.inl ⟨rfl,.inr ⟨_,b⟩⟩)),df,rfl,NP e.ky,_,b,aa,_,Cy a.nk he,fun r p e2=>?_⟩;rw[xP]at e1;rw[uC]at e2;have i:∀c o,H c=some o->c≠dr->c≠df->r c=some o:=fun c o h n1 n2=>p c o (d c o h n1) n2
  refine q r i ?_;obtain⟨dx,fs,hm,hl,hf⟩:=a.ex;have sub:∀x∈Nu R.es e.ky,x∈R.es:=fun x j=>(YZ.mp j).1
  refine⟨⟨dx,fs,i m _ hm g v,hl,hf⟩,p dr _ e1 a.n1,e2,i dw _ a.dW (Ne.symm a.n2) (Ne.symm a.n3),a.n1,a.n2,a.n3,fun x j=>?_,?_,?_,?_⟩
  .have h1:=(a.rd x (sub x j)).offD (G:=G1) (fun c o h n=>d c o h n) a.dR;exact h1.offD (G:=r) (fun c o h n=>p c o h n) b
  .exact a.np.sublist (Ut _ U2)
  .exact a.na.sublist (Ut _ U2)
  .exact a.nk.sublist (Ut _ U2)
def Di(es:List RE):Int:=(es.map fun e=>(e.rs.st.length:Int)).sum
inductive A4(C CR:Wo)(vs:List V)(H:Hp)(Q:VK)(E:XK):Prop|mk (m dr df dw:Wo) (R:WJ) (_:vs=[.ref m]) (_:Wz C CR H m dr df dw R) (_:R.es.length <=1000) (_:(∀e∈R.es,e.rs.st.length <=100000)) (_:∀G,Ww H G->Q (.int (Di R.es)) G)
abbrev CQ:Stmt:=Tr (top 49) 4
theorem yL:Jv ["self"] ["self"] (Wt CQ):=by walk_at"e"
theorem wW{f C CR:Wo}{fd:Wj}(F:JL K "bytes_kept" "Room.bytes_kept" CQ f fd)(L:Mn K C)(B2:BE mg)(Nb:Nq P w K mg base CR "size" 1 ["self"] [] (HE CR)):WA P w K mg base Je 2 f fd ["self"] (A4 C CR):=by
 refine F.ok yL (fun vs H Q E h=>?_) (fun cdv A outer s H vs Q E hr h=>?_)
 .obtain⟨m,dr,df,dw,R,rfl,_⟩:=h;rfl
 .obtain⟨m,dr,df,dw,R,rfl,d,hl,hb,q⟩:=h;refine⟨_,(WV (Jr (Nh (vL (K:=K) rfl rfl) B2.sum (JM (hs:=Rw) (tK (Rb (N':=["key","self"]) (caps:=[none,some 0]) (DP (sc:=Wt CQ) (N:=["self"]) rfl rfl (by decide +kernel)) rfl (PU (JK K (Wu 0))) (fun _ _ _ _ _=>(Dk (i:=0) (DS (N:=["key","self"]) rfl (by decide +kernel)) rfl (Or.inl rfl))) (fun _ _ _ _ _=>GW) (fun _ _ _ _ _=>(Mu (Ek hr (JK K (Wu 1)) (Wu 0)) Nb hr.m)))) Wy)))),?_⟩;walk_at"rd";obtain⟨nm1,nm2,nm3,nme⟩:=d.ne;have hrl:(My R.es).length=R.es.length:=Y0 ..;refine dL d.dR (fun Rr h=>by walk_at"rd";exact⟨_,EE L d,h⟩) (fun i ys σ'=>ys=((R.es.take i).map fun e=>V.int e.rs.st.length)/\∃v,σ'=[v,some (.ref m)]) ⟨rfl,_,rfl⟩ ?_ (by lia) ?_ ?_
  .rintro i ys σ' ⟨rfl,_⟩;rw[Y0,Yu];lia
  .rintro Hf o hfo hfd i b k v ys σ' hk hb ⟨rfl,v0,rfl⟩;obtain⟨e,he,rfl,rfl⟩:=gF hk;have hmem:=Yw he;have hbd:b≠dr:=Wv hb d.dR nofun;have g:QK dr H Hf:=fun c o h n=>by rw[hfo c n];exact h
   have hr1:=(d.rd e hmem).offD g d.dR;walk_at"rd";refine⟨_,d.fldO (fun o h=>g m o h nm1) L.cl L.readings rfl,_,rfl,_,.inr ⟨_,_,b,.inr ⟨o,hfd⟩,rfl,g b _ hb hbd,(EU d.nk hmem).symm⟩,?_⟩;refine⟨dZ hr1,e.p,e.a,e.l,R.ru,e.rs,rfl,hr1,?_⟩;rw[XU,he,Vm,Yn];exact⟨rfl,rfl⟩
  .rintro ys σ' ⟨rfl,_⟩ p G hp s1 e1;rw[hrl,YD (Y5 _)]at e1;have em:(R.es.map fun e=>V.int e.rs.st.length)=(R.es.map fun e=>(e.rs.st.length:Int)).map V.int:=by rw[YM];rfl
   rw[em]at e1;have bd:∀x∈R.es.map (fun e=>(e.rs.st.length:Int)),0 <=x/\x <=100000:=fun x hx=>by
    obtain⟨e,he,rfl⟩:=Ya.mp hx;have:=hb e he;lia
   have sm:∀l:List Int,(∀x∈l,0 <=x/\x <=100000)->0 <=l.sum/\l.sum <=100000*l.length:=fun l=>by
    induction l with
    |nil=>intro _;simp
    |cons x r ih=>
     intro h;have h1:=ih fun y hy=>h y (Yi _ hy)
     have h2:=h x Ys;rw[UQ,List.length_cons];lia
   refine⟨p,rfl,_,WB.of e1,fun x hx=>by have:=bd x hx;lia,fun j hj=>?_,q G s1⟩;have h1:=sm _ fun x hx=>bd x (YX (i:=j) hx)
   have h2:((R.es.map fun e=>(e.rs.st.length:Int)).take j).length <=1000:=by rw[Yu,Y0];lia
   lia
end
theorem Es{α β:Type}{f:α->β}:∀{l:List α} {x y:α},(l.map f).Nodup->x∈l->y∈l->x≠y->f x≠f y
 |[],_,_,_,hx,_,_=>nomatch hx
 |z::r,x,y,hn,hx,hy,ne=>by
  obtain⟨h1,h2⟩:=YI.mp hn;rcases Yp.mp hx with e1|hx2
  .rcases Yp.mp hy with e2|hy2
   .exact absurd (e1.trans e2.symm) ne
   .exact fun q=>h1 (Ya.mpr ⟨y,hy2,by rw[<-e1];exact q.symm⟩)
  .rcases Yp.mp hy with e2|hy2
   .exact fun q=>h1 (Ya.mpr ⟨x,hx2,by rw[<-e2];exact q⟩)
   .exact Es h2 hx2 hy2 ne
def Ao(ws:List ((Int×Str×Str)×Int))(k:Int×Str×Str):Option Int:=(ws.find? fun x=>decide (x.1=k)).map (·.2)
theorem Pt(ws:List ((Int×Str×Str)×Int))(k:Int×Str×Str):J5 (Gd ws) (NP k)=(Ao ws k).map V.int:=by
 unfold Gd J5 Ao
 induction ws with
 |nil=>rfl
 |cons x r ih=>
  rw[List.map_cons,YU,YU]
  by_cases h:x.1=k
  .rw[Yq h,Yq (by rw[h])];rfl
  .rw[Yt h,Yt (fun z=>h (Rg z))];exact ih
def GZ(R:WJ)(k:Int×Str×Str):Bool:=decide (R.ag="rest") && (match Ao R.ws k with|some t=>decide (R.now < t+ R.wt)|none=>false)
def Js(R:WJ)(e:RE):Bool:=decide (e.first+ R.wt <=R.now)
def D2(R:WJ):List (Int×Ky):=(R.es.filter (Js R)).map fun e=>(e.first,e.ky)
def B7(R:WJ):List RE:=R.es.filter fun e=> !Js R e
def Do(G:Hp)(l:Wo)(ks:List Ky)(why:Str):Prop:=∃ts:List (Addr×Addr),ts.length=ks.length/\G l=some (.lst (ts.map fun t=>.ref t.1))/\∀ (i:Nat) t k,ts[i]?=some t->ks[i]?=some k->G t.1=some (.tup [.str "gone",.ref t.2,.str why])/\G t.2=some (.tup (D4 k))
section
variable{P:Wh}{w:Wl}{K:Wm}{mg:Wd}{base:Wr}
inductive K0(C CR:Wo)(vs:List V)(H:Hp)(Q:VK)(E:XK):Prop|mk (m dr df dw t:Wo) (R:WJ) (k:Int×Str×Str) (_:vs=[.ref m,.ref t]) (_:Wz C CR H m dr df dw R) (_:H t=some (.tup (D4 k))) (_:Q (.bl (GZ R k)) H)
abbrev Ie:Stmt:=Tr (top 49) 12
theorem Z6:Jv ["self","key"] ["self","key"] (Wt Ie):=by walk_at"e"
theorem uO{f C CR:Wo}{fd:Wj}(F:JL K "is_resting" "Room.is_resting" Ie f fd)(L:Mn K C):WA P w K mg base Je 1 f fd ["self","key"] (K0 C CR):=by
 refine F.ok Z6 (fun vs H Q E h=>?_) (fun e A d s H vs Q E c h=>?_)
 .obtain⟨m,dr,df,dw,t,R,k,rfl,_⟩:=h;rfl
 .obtain⟨m,dr,df,dw,t,R,k,rfl,a,b,q⟩:=h;refine⟨_,(WV (Jr (Mo (TF (Gn Gx) (JK K (Wu 0)) TH (M0 _)) (Mo (TF (SU (Dw c)) (Wu 1) (JK K (Wu 0)) (by with_unfolding_all rfl)) (Db (TF (Nm ER) (JK K (Wu 0)) (JJ (Nm MY) (Ek c (JK K (Wu 0)) (Wu 1)) (JK K (Wu 0))) (M0 _))))))),?_⟩;walk_at"rd";refine⟨_,nJ L a,rfl,?_⟩;unfold GZ at q
  by_cases h1:R.ag="rest"
  .rw[Y3 (by rw[h1];simp)];refine⟨_,IE L a,dw,rfl,NP k,_,.inl a.dW,b,?_⟩;rw[Yq h1,U6]at q;rw[Pt];cases h2:Ao R.ws k with
   |none=>rw[h2]at q;exact q
   |some t0=>
    rw[h2]at q;exact⟨_,AD L a,_,IE L a,dw,rfl,_,.inr ⟨_,NP k,t,.inl a.dW,rfl,b,by rw[Pt,h2];rfl⟩,_,vQ L a,_,rfl,_,rfl,_,rfl,q⟩
  .rw[Y2 (by simpa using fun z=>h1 z)];rw[Yt h1,XE]at q;exact q
theorem Wz.butL{C CR m dr df dw l:Wo}{H G:Hp}{R:WJ}{xs:List V}(h:Wz C CR H m dr df dw R)(b:Jh l H G)(hl:H l=some (.lst xs))(hn:∀e∈R.es,e.l≠l):Wz C CR G m dr df dw R:=by
 obtain⟨dx,fs,f,r⟩:=h.ex;refine⟨⟨dx,fs,b _ _ f (Wv f hl nofun),r⟩,b _ _ h.dR (Wv h.dR hl nofun),b _ _ h.dF (Wv h.dF hl nofun),b _ _ h.dW (Wv h.dW hl nofun),h.n1,h.n2,h.n3,fun x c=>?_,h.np,h.na,h.nk⟩;have r:=h.rd x c;obtain⟨i,g,d,j⟩:=r.ex;obtain⟨ys,a,n⟩:=r.cv;exact⟨⟨i,g,b _ _ d (Wv d hl nofun),j⟩,b _ _ r.dk (Wv r.dk hl nofun),ys,b _ _ a (hn x c),n.tk (NZ b hl)⟩
theorem Oe{R:WJ}(hk:(R.es.map (·.ky)).Nodup){e:RE}(he:e∈R.es){p:Int×Ky}(hp:p∈D2 R)(h:e.ky=p.2):Js R e=true/\e.first=p.1:=by
 obtain⟨x,a,rfl⟩:=Ya.mp hp;obtain⟨h1,h2⟩:=YZ.mp a;have:e=x:=YY fun ne=>Es hk he h1 ne h
 rw[this];exact⟨h2,rfl⟩
def GM(R:WJ)(ps:List (Int×Ky)):List RE:=R.es.filter fun e=> !decide ((e.first,e.ky)∈ps)
theorem y9(R:WJ):GM R []=R.es:=by
 unfold GM;rw[Vc];intro e _;simp
theorem gD{R:WJ}(hk:(R.es.map (·.ky)).Nodup){ps:List (Int×Ky)}(h:ps.Perm (D2 R)):GM R ps=B7 R:=by
 unfold GM B7;apply UL;intro e a
 congr 1
 rw[Yz,Y9,h.mem_iff];exact⟨fun z=>(Oe hk a z rfl).1,fun z=>Ya.mpr ⟨e,YZ.mpr ⟨a,z⟩,rfl⟩⟩
theorem mM{R:WJ}(hk:(R.es.map (·.ky)).Nodup){qs:List (Int×Ky)}{p:Int×Ky}(hp:p∈D2 R):Nu (GM R qs) p.2=GM R (qs++[p]):=by
 unfold Nu GM;rw[List.filter_filter];apply UL;intro e a;rw[Yz];simp only[YR,Xo,X9,Yj,Y8,not_or];refine⟨fun z=>⟨z.2,fun q=>z.1 (by rw[<-q])⟩,fun z=>⟨fun q=>z.2 ?_,z.1⟩⟩;obtain⟨_,h2⟩:=Oe hk a hp q;rw[h2,q]
theorem vW{R:WJ}(hk:(R.es.map (·.ky)).Nodup):(D2 R).Nodup:=by
 have h1:((R.es.filter (Js R)).map (·.ky)).Nodup:=hk.sublist (Ut _ U2);unfold D2;rw[List.nodup_iff_pairwise_ne,UK]at h1 ⊢;exact h1.imp fun h z=>h (X0 (·.2) z)
def B0(H:Hp)(x:V)(q:Int×Ky):Prop:=∃t b,x= .ref t/\H t=some (.tup [.int q.1,.ref b])/\H b=some (.tup (D4 q.2))
inductive L0(C CR:Wo)(vs:List V)(H:Hp)(Q:VK)(E:XK):Prop|mk (m dr df dw:Wo) (R:WJ) (_:vs=[.ref m]) (_:Wz C CR H m dr df dw R) (_:R.es.length < 64) (_:∀ (ps:List (Int×Ky)) l G,ps.Perm (D2 R)->ps.Pairwise (fun a b=>R1 b a=false)->H l=none->(∀c o,H c=some o->c≠dr->c≠df->G c=some o)->Wz C CR G m dr df dw {R with es:=B7 R}->Do G l (ps.map (·.2)) "wait"->Q (.ref l) G)
abbrev AC:Stmt:=Tr (top 49) 11
theorem Br:Jv ["self","over","events","first","key"] ["self"] (Wt AC):=by walk_at"e"
theorem xF{f C CR:Wo}{fd:Wj}(F:JL K "end_waits" "Room.end_waits" AC f fd)(L:Mn K C)(B2:BE mg)(Jb:Nq P w K mg base C "let_go" 1 ["self","key"] [] (Bw C CR)):WA P w K mg base Je 2 f fd ["self"] (L0 C CR):=by
 refine F.ok Br (fun vs H Q E h=>?_) (fun cdv A outer s H vs Q E hr h=>?_)
 .obtain⟨m,dr,df,dw,R,rfl,_⟩:=h;rfl
 .obtain⟨m,dr,df,dw,R,rfl,g,hl,q⟩:=h;refine⟨_,(WN (ZV (At (i:=1) (N':=["key","self"]) (caps:=[none,some 0]) (DP (sc:=Wt AC) (N:=["self","over","events","first","key"]) rfl rfl (by decide +kernel)) rfl (Br).nd rfl (Or.inl rfl) (PU (JK K (Wu 0))) (fun _ _ _ _ _=>(Dk (i:=0) (DS (N:=["key","self"]) rfl (by decide +kernel)) rfl (Or.inl rfl))) (fun _ _ _ _ _=>(KJ (T3 (Nm GU) (JJ (Nm MY) (Ek hr (JK K (Wu 1)) (Wu 0)) (JK K (Wu 1))) (JK K (Wu 1))))) (fun _ _ _ _ _=>(MI (MQ (Ek hr (JK K (Wu 1)) (Wu 0)) (WH 0 Wy)))) rfl)) (WN (NL 2 Br (TD Wy)) (WN (Gi X4 rfl (GG (K:=K) rfl (Nh (ZN (K:=K) (Room.units hr) rfl) B2.sorted (WH 1 Wy))) (Eg (K:=K) (n:=2) rfl rfl (Dn (Mw 3 Br) (Dn (Mw 4 Br) Ee))) (WN (MB (Mz (Wu 0) Jb hr.m (WH 4 Wy))) (WV (MB (Dt (K:=K) rfl YL YS YT (R4 Rj) (Wu 2) (JM (hs:=DY) (MI (Nz TH (WH 4 (Nz TH Wy)))) Wy)))))) (WV (Jr (Wu 2)))))),?_⟩;refine Ju fun N hN=>?_
  walk_at"rd";obtain⟨nm1,nm2,nm3,nme⟩:=g.ne;have hrl:(MP R.es).length=R.es.length:=Y0 ..;refine wU (jJ g.dF (fun Rr h=>by walk_at"rd";exact⟨_,Q0 L g,h⟩) (fun i ys σ' Hf=>Pw (B0 Hf) ys (((R.es.take i).filter (Js R)).map fun e=>(e.first,e.ky))/\∃v,σ'=[v,some (.ref m)]) (fun Hf _=>⟨Pw.nil,_,rfl⟩) ?_ (by lia) ?_ ?_)
  .rintro i ys σ' Hf ⟨h1,_⟩;rw[h1.1,Y0];exact YH (Xh ..) (by rw[Yu];lia)
  .rintro Hf o off hfd i b k v ys σ' hk hb ⟨h1,v0,rfl⟩;obtain⟨e,he,rfl,rfl⟩:=Zp hk;have hmem:=Yw he;have hmo:=fun o h=>off m o h nm2
   walk_at"rd";refine⟨_,g.fldO hmo L.cl L.firsts rfl,_,rfl,_,.inr ⟨_,_,b,.inr ⟨o,hfd⟩,rfl,hb,(Cy g.nk hmem).symm⟩,_,g.fldO hmo L.cl L.wait rfl,_,rfl,_,rfl,_,g.fldO hmo L.cl L.now rfl,_,rfl,?_⟩;rw[XU,he,Vm,Vp,Yn]
   by_cases ho:e.first+ R.wt <=R.now
   .rw[Y3 (Yq ho)];have e0:[e].filter (Js R)=[e]:=by simp[Js,ho]
    refine⟨_,g.fldO hmo L.cl L.firsts rfl,_,rfl,_,.inr ⟨_,_,b,.inr ⟨o,hfd⟩,rfl,hb,(Cy g.nk hmem).symm⟩,Ny (by simp),fun p G hp s1 e1=>⟨?_,s1⟩⟩;rw[e0];exact(h1.imp fun x y ⟨t,b,h1,h2,h3⟩=>⟨t,b,h1,s1 _ _ h2,s1 _ _ h3⟩).snoc ⟨p,b,rfl,e1,s1 _ _ hb⟩
   .rw[Y2 (by simpa using ho)];have e0:[e].filter (Js R)=[]:=by simp[Js,ho]
    rw[e0,List.map_nil,List.append_nil];exact⟨h1,Ww.refl _⟩
  .rintro ys σ' Hn ⟨h1,_⟩ hold p G hp s1 s2 e1;rw[hrl,YD (Y5 _)]at h1;refine hN _ _ ?_;clear hN N;walk_at"rd";have hG:=g.mono s1;have ne2:∀{x:V} {y:Int×Ky},B0 Hn x y->B0 G x y:=fun {x y} ⟨t,b,h1,h2,h3⟩=>⟨t,b,h1,s2 _ _ h2 (fun _ _ z=>nomatch z),s2 _ _ h3 (fun _ _ z=>nomatch z)⟩
   have h2:Pw (B0 G) ys (D2 R):=h1.imp fun x y=>ne2
   refine⟨Ny (by simp),fun p1 G1 hp1 s3 e2=>⟨ys,WB.of (s3 p _ e1),D2 R,h2.1,fun i x q a b=>?_,?_,fun r l G2 aa hsort hl0 s4 e4=>?_⟩⟩
   .obtain⟨t,b,h1,h3,h4⟩:=h2.2 i x q a b;exact⟨t,h1,b,JV.of (s3 _ _ h3),JV.of (s3 _ _ h4)⟩
   .rw[h2.1];unfold D2;rw[Y0];exact Yg (Xh ..) hl
   obtain⟨ps,eps⟩:∃ps:List (Int×Ky),ps=r.map fun i=>(D2 R).getD i (0,0,"",""):=⟨_,rfl⟩
   obtain⟨zs,ezs⟩:∃zs:List V,zs=r.map fun i=>ys.getD i .non:=⟨_,rfl⟩
   have hpp:ps.Perm (D2 R):=by rw[eps];exact ZH (by rw[<-h2.1];exact aa)
   have hps:ps.Pairwise (fun a b=>R1 b a=false):=by rw[eps];exact hsort
   have hzp:Pw (B0 G2) zs ps:=by
    rw[ezs,eps];refine(h2.pick r fun i hi=>by simpa using aa.mem_iff.mp hi).imp fun x y ⟨t,b,h1,h3,h4⟩=>⟨t,b,h1,s4 _ _ (s3 _ _ h3),s4 _ _ (s3 _ _ h4)⟩
   rw[<-ezs]at e4;clear hsort aa eps ezs;refine⟨⟨_,WB.of e4⟩,?_⟩;have hR2:=hG.mono (s3.trans s4);refine Fe (xs:=zs) (fun i σ' G'=>(∃a b,σ'=[some (.ref m),some (.ref p),some (.ref p1),a,b])/\(∀c o,G2 c=some o->c≠dr->c≠df->c≠p1->G' c=some o)/\Wz C CR G' m dr df dw {R with es:=GM R (ps.take i)}/\Do G' p1 ((ps.take i).map (·.2)) "wait") ⟨⟨_,_,rfl⟩,fun c o h _ _ _=>h,?_,?_⟩ (fun i σ' G' _ h=>?_) (fun i x σ' G' hx h=>?_) fun σ' G' h=>?_
   .rw[List.take_zero,y9];exact hR2
   .exact⟨[],rfl,s4 _ _ e2,fun i t k h=>by simp at h⟩
   .exact WB.of (h.2.1 l _ e4 (Wv e4 hR2.dR nofun) (Wv e4 hR2.dF nofun) (fun z=>by rw[z,e2]at hl0;cases hl0))
   .obtain⟨⟨a,b,rfl⟩,kp,d,hE⟩:=h;obtain⟨pr,hpr,t,tb,rfl,ht,htb⟩:=hzp.get hx;have ab:∀{c:Wo} {xs:List V},G2 c=some (.tup xs)->G' c=some (.tup xs):=fun {c xs} h=>kp c _ h (Wv h hR2.dR nofun) (Wv h hR2.dF nofun) (Wv h (s4 _ _ e2) nofun)
    have hop:pr∈D2 R:=hpp.mem_iff.mp (Yw hpr);have hpt:ps.take (i+ 1)=ps.take i++[pr]:=by rw[XU,hpr];rfl
    have hin:pr.2∈(GM R (ps.take i)).map (·.ky):=by
     obtain⟨e,he,rfl⟩:=Ya.mp hop;refine Ya.mpr ⟨e,YZ.mpr ⟨(YZ.mp he).1,?_⟩,rfl⟩;have hnd:(ps.take (i+ 1)).Nodup:=((hpp.nodup_iff).mpr (vW g.nk)).sublist (Ue ..);rw[hpt,Xz]at hnd;simp only[Xo,X9];exact fun z=>hnd.2.2 _ z _ (Y8.mpr rfl) rfl
    walk_at"rd";refine⟨_,JV.of (ab ht),rfl,?_⟩;walk_at"rd";refine⟨d.mt rfl,m,dr,df,dw,tb,_,pr.2,rfl,d,ab htb,hin,fun G3 kp3 hR3=>?_⟩;obtain⟨ts,h1',h2',h3'⟩:=hE;have d1:=Wv h2' d.dR nofun;have d2:=Wv h2' d.dF nofun;have hp3:=kp3 p1 _ h2' d1 d2;have k3:∀{c:Wo} {xs:List V},G' c=some (.tup xs)->G3 c=some (.tup xs):=fun {c xs} h=>kp3 c _ h (Wv h d.dR nofun) (Wv h d.dF nofun)
    have hR3:Wz C CR G3 m dr df dw {R with es:=GM R (ps.take (i+ 1))}:=by rw[hpt,<-mM g.nk hop];exact hR3
    have htl:ts.length <=1000:=by
     rw[h1',Y0,Yu];have:=hpp.length_eq;unfold D2 at this;rw[Y0]at this;have:=Xh (Js R) R.es
     lia
    refine⟨.inl ⟨rfl,_,WB.of hp3⟩,Ny (by simp),fun t3 G4 ht3 s5 e5=>⟨_,s5 _ _ hp3,Yg (by rw[Y0];exact htl) (by rw[Ym];decide),fun G5 b5 e6=>⟨fun c o h n1 n2 n3=>b5 c o (s5 c o (kp3 c o (kp c o h n1 n2 n3) n1 n2)) n3,(hR3.mono s5).butL b5 (s5 _ _ hp3) (fun e he=>?_),?_⟩⟩⟩
    .obtain⟨ys',hy,_⟩:=(g.rd e (YZ.mp he).1).cv;exact fun z=>by rw[z]at hy;rw[s1 _ _ hy]at hp1;cases hp1
    .have k5:∀{c:Wo} {xs:List V},G4 c=some (.tup xs)->G5 c=some (.tup xs):=fun {c xs} h=>b5 c _ h (Wv h (s5 _ _ hp3) nofun)
     refine⟨ts++[(t3,tb)],?_,by rw[e6,Yn];rfl,?_⟩
     .rw[hpt,List.length_append,Yn,List.length_append,h1'];rfl
     .have hw : Pw (fun (t : Addr × Addr) (k : Ky) => G5 t.1 = some (.tup [.str "gone", .ref t.2, .str "wait"]) /\ G5 t.2 = some (.tup (D4 k))) ts ((ps.take i).map (·.2)) := ⟨h1', fun j x y a b => by
       obtain ⟨z1, z2⟩ := h3' j x y a b;exact ⟨k5 (s5 _ _ (k3 z1)), k5 (s5 _ _ (k3 z2))⟩⟩
      rw[hpt,Yn];exact(hw.snoc (x:=(t3,tb)) (y:=pr.2) ⟨k5 e5,k5 (s5 _ _ (k3 (ab htb)))⟩).2
   .obtain⟨⟨a,b,rfl⟩,kp,d,hE⟩:=h;rw[hzp.1,YD (Y5 _)]at d hE;rw[gD g.nk hpp]at d;walk_at"rd";refine q ps p1 G' hpp hps (s1.free hp1) (fun c o h n1 n2=>kp c o (s4 _ _ (s3 _ _ (s1 _ _ h))) n1 n2 (fun z=>?_)) d hE;rw[z]at h;rw[s1 _ _ h]at hp1;cases hp1
end
def LQ:Sp:=fun _ _ _ _=>False
inductive gI where
 |str
 |unl (n:Int)
 |keep (rs:RS)
 |whole (rs:RS)
def Jx(ru:Str)(rs:RS)(d:PD):gI:=
 if strange rs d=true then(if ru="refuse" then .unl d.at' else .str) else
  match (if ru="refuse" then N1 rs.st d.at' d.ns else none) with
  |some n=>.unl n
  |none=>if WR (Tp (decide (ru="last")) rs d).en 0 (Tp (decide (ru="last")) rs d).cv=[] then .whole (Tp (decide (ru="last")) rs d) else .keep (Tp (decide (ru="last")) rs d)
def Nw(es:List RE)(k:Int×Str×Str):RS:=match es.find? fun e=>decide (e.ky=k) with|some e=>e.rs|none=>TN
def Gg(R:WJ)(m dr df dw c:Wo):Prop:=c=m\/c=dr\/c=df\/c=dw\/∃e∈R.es,c=e.p\/c=e.a
def MX(R:WJ)(m dr df dw:Wo)(H G:Hp):Prop:=∀c o,H c=some o->¬Gg R m dr df dw c->G c=some o
abbrev AE:=(Int×Str×Str)×RS×Int
def J3(es:List RE):List AE:=es.map fun e=>(e.ky,e.rs,e.first)
def Jz(xs:List AE)(k:Int×Str×Str)(rs:RS)(now:Int):List AE:=if k∈xs.map (·.1) then xs.map (fun x=>if x.1=k then(k,rs,x.2.2) else x) else xs++[(k,rs,now)]
def NM(xs:List AE)(k:Int×Str×Str):List AE:=xs.filter fun x=> !decide (x.1=k)
structure TC(C CR:Wo)(H G:Hp)(m dr df dw:Wo)(R R':WJ)(xs:List AE)(ws:List ((Int×Str×Str)×Int)):Prop where
 kp:MX R m dr df dw H G
 ok:Wz C CR G m dr df dw R'
 es:J3 R'.es=xs
 ws':R'.ws=ws
 pr:R'.ru=R.ru/\R'.wt=R.wt/\R'.sp=R.sp/\R'.out=R.out/\R'.ag=R.ag/\R'.now=R.now
 nw:∀e∈R'.es,(∃e0∈R.es,e.p=e0.p/\e.a=e0.a)\/(H e.p=none/\H e.a=none)
 nl:∀e∈R'.es,(∃e0∈R.es,e.l=e0.l)\/H e.l=none
section
variable{P:Wh}{w:Wl}{K:Wm}{mg:Wd}{base:Wr}
inductive Fn(C CR:Wo)(vs:List V)(H:Hp)(Q:VK)(E:XK):Prop|mk (m dr df dw t:Wo) (R:WJ) (_:vs=[.ref m,.ref t]) (_:Wz C CR H m dr df dw R) (_:R.es.length <=1000) (_:(∀e∈R.es,e.rs.st.length <=100000)) (_:Di R.es <=R.sp) (_:∀l G,H l=none->Ww H G->G l=some (.lst [])->Q (.ref l) G)
abbrev Km:Stmt:=Tr (top 49) 14
theorem Ku:Jv ["self","own","events","key"] ["self","own"] (Wt Km):=by walk_at"e"
theorem x5{f C CR:Wo}{fd:Wj}(F:JL K "make_space" "Room.make_space" Km f fd)(L:Mn K C)(Ja:Nq P w K mg base C "bytes_kept" 2 ["self"] [] (A4 C CR))(Jb:Nq P w K mg base C "let_go" 1 ["self","key"] [] (Bw C CR))(JS:Nq P w K mg base C "first_out" 3 ["self","own"] [] LQ):WA P w K mg base Je 4 f fd ["self","own"] (Fn C CR):=by
 refine F.ok Ku (fun vs H Q E h=>?_) (fun r A d s H vs Q E c h=>?_)
 .obtain⟨m,dr,df,dw,t,R,rfl,_⟩:=h;rfl
 .obtain⟨m,dr,df,dw,t,R,rfl,l,i,j,hs,q⟩:=h;refine⟨_,(WN (NL 2 Ku (TD Wy)) (WN (wC X4 (T3 (Nm Hq) (Mu (Wu 0) Ja c.m) (JK K (Wu 0))) (WN (NL 3 Ku (Mz (Wu 0) JS c.m (WH 1 Wy))) (WN (MB (Mz (Wu 0) Jb c.m (WH 3 Wy))) (WV (MB (Dt (K:=K) rfl YL YS YT (R4 Rj) (Wu 2) (JM (hs:=DY) (MI (Nz TH (WH 3 (Nz TH Wy)))) Wy))))))) (WV (Jr (Wu 2))))),?_⟩;walk_at"rd";refine⟨Ny (by simp),fun p G g s1 n=>?_⟩;refine⟨fun e σ' G'=>σ'=[some (.ref m),some (.ref t),some (.ref p),none]/\Ww G G',⟨0,rfl,Ww.refl _⟩,?_⟩;rintro e σ' G' ⟨rfl,s2⟩;have a:=l.mono (s1.trans s2);walk_at"rd";refine⟨a.mt rfl,m,dr,df,dw,R,rfl,a,i,j,fun o b=>?_⟩;refine⟨_,mX L (a.mono b),_,rfl,_,rfl,?_⟩;rw[Y2 (by simp only[Y9];lia)];exact q p o g (s1.trans (s2.trans b)) (b _ _ (s2 _ _ n))
inductive O3(C:Wo)(vs:List V)(H:Hp)(Q:VK)(E:XK):Prop|mk (m dx:Wo) (ru out ag:Str) (wt sp:Int) (_:vs=[.ref m,.str ru,.int wt,.int sp,.str out,.str ag]) (_:H m=some (.ins C dx [])) (_:(ru="first"\/ru="last"\/ru="refuse")) (_:1 <=wt) (_:1 <=sp) (_:(out="oldest"\/out="widest"\/out="own")) (_:(ag="fresh"\/ag="rest")) (_:∀dr df dw G,H dr=none->H df=none->H dw=none->Jh m H G->(∀CR,Wz C CR G m dr df dw ⟨ru,wt,sp,out,ag,0,[],[]⟩)->Q .non G)
abbrev JZ:Stmt:=Tr (top 49) 0
theorem xV:Jv ["self","rule","wait","space","out","again"] ["self","rule","wait","space","out","again"] (Wt JZ):=by walk_at"e"
theorem uD{f C:Wo}{fd:Wj}(F:Bh K f fd "Room.__init__" JZ)(L:Mn K C)(Nx:Nt P w K mg base "is_rule" 1 ["value"] [] FR)(J7:Nt P w K mg base "is_whole_from" 2 ["value","low"] [] Lo)(Ma:Nt P w K mg base "is_out" 1 ["value"] [] OA)(T8:Nt P w K mg base "is_again" 1 ["value"] [] Ow):WA P w K mg base Je 3 f fd ["self","rule","wait","space","out","again"] (O3 C):=by
 obtain⟨oc,od,dV,kV,doc,pm,an,cdv,ct,osl,rfl,lk,hcd⟩:=F;refine R5 lk hcd xV (fun vs H Q E h=>?_) (fun A i s H vs Q E d h=>?_)
 .obtain⟨m,dx,ru,out,ag,wt,sp,rfl,_⟩:=h;rfl
 .obtain⟨m,dx,ru,out,ag,wt,sp,rfl,hm,h1,h2,h3,h4,h5,q⟩:=h
  suffices hh:∃t,Mf (To Je P w K mg base _ "Room.__init__" (Wt JZ) f cdv A i s H E).nox (WC JZ) t/\t {nx:=fun _ H'=>Q .non H',rt:=Q} (L2.start _ _) H by
   obtain⟨t,h1,h2⟩:=hh;exact⟨t,h1.nox,h2⟩
  refine⟨_,(WN (Nf (TL (Te (N7 Nx d.m rfl (WH 1 Wy)))) Gm Nr) (WN (Nf (PW.pt (DQ (TL (Te (N7 J7 d.m rfl (WH 2 (Nz J1 Wy))))) (GH (TL (Te (N7 J7 d.m rfl (WH 3 (Nz J1 Wy)))))))) Gm Nr) (WN (Nf (PW.pt (DQ (TL (Te (N7 Ma d.m rfl (WH 4 Wy)))) (GH (TL (Te (N7 T8 d.m rfl (WH 5 Wy))))))) Gm Nr) (WN (Mm (K:=K) rfl (Wu 0) (Wu 1) rfl) (WN (Mm (K:=K) rfl (Wu 0) (Wu 2) rfl) (WN (Mm (K:=K) rfl (Wu 0) (Wu 3) rfl) (WN (Mm (K:=K) rfl (Wu 0) (Wu 4) rfl) (WN (Mm (K:=K) rfl (Wu 0) (Wu 5) rfl) (WN (Mm (K:=K) rfl (Wu 0) J1 rfl) (WN (Mm (K:=K) rfl (Wu 0) FM rfl) (WN (Mm (K:=K) rfl (Wu 0) FM rfl) (WV (Mm (K:=K) rfl (Wu 0) FM rfl))))))))))))),?_⟩;refine Ju fun N b=>?_
  walk_at"rd";refine⟨ru,rfl,?_⟩;rw[Yq h1];refine⟨_,rfl,?_⟩;rw[Y2 (by simp)];refine b _ _ ?_;clear b N;refine Ju fun N b=>?_
  walk_at"rd";refine⟨wt,1,rfl,?_⟩;rw[Yq h2];refine⟨_,rfl,?_⟩;rw[Y2 (by simp)];refine⟨sp,1,rfl,?_⟩;rw[Yq h3];refine⟨_,rfl,?_⟩;rw[Y2 (by simp)];refine b _ _ ?_;clear b N;refine Ju fun N b=>?_
  walk_at"rd";refine⟨out,rfl,?_⟩;rw[Yq h4];refine⟨_,rfl,?_⟩;rw[Y2 (by simp)];refine⟨ag,rfl,?_⟩;rw[Yq h5];refine⟨_,rfl,?_⟩;rw[Y2 (by simp)];refine b _ _ ?_;clear b N;walk_at"rd";have a:([]:List (Str×V)).length <=0:=Y5 0;refine⟨C,dx,[],hm,L.cl,L.rule,by decide,fun G1 b1 g1=>?_⟩;refine⟨C,dx,_,g1,L.cl,L.wait,Yg (J6 a) (by decide),fun G2 b2 g2=>?_⟩;refine⟨C,dx,_,g2,L.cl,L.space,Yg (J6 (J6 a)) (by decide),fun G3 b3 g3=>?_⟩;refine⟨C,dx,_,g3,L.cl,L.out,Yg (J6 (J6 (J6 a))) (by decide),fun G4 b4 g4=>?_⟩;refine⟨C,dx,_,g4,L.cl,L.again,Yg (J6 (J6 (J6 (J6 a)))) (by decide),fun G5 b5 g5=>?_⟩;refine⟨C,dx,_,g5,L.cl,L.now,Yg (J6 (J6 (J6 (J6 (J6 a))))) (by decide),fun G6 b6 g6=>?_⟩;intro dr Ga ha sa ga;refine⟨C,dx,_,sa _ _ g6,L.cl,L.readings,Yg (J6 (J6 (J6 (J6 (J6 (J6 a)))))) (by decide),fun G7 b7 g7=>?_⟩;intro df Gb z r gb;refine⟨C,dx,_,r _ _ g7,L.cl,L.firsts,Yg (J6 (J6 (J6 (J6 (J6 (J6 (J6 a))))))) (by decide),fun G8 b8 g8=>?_⟩;intro dw Gc l g gc;refine⟨C,dx,_,g _ _ g8,L.cl,L.wholes,Yg (J6 (J6 (J6 (J6 (J6 (J6 (J6 (J6 a)))))))) (by decide),fun G9 p g9=>?_⟩;have j:dr≠m:=Ne.symm (No g6 ha);have v:df≠m:=Ne.symm (No g7 z);have n3:dw≠m:=Ne.symm (No g8 l);have a7:=b7 dr _ ga j;have a8:=b8 dr _ (r _ _ a7) j;have a9:=p dr _ (g _ _ a8) j;have c8:=b8 df _ gb v;have c9:=p df _ (g _ _ c8) v;have k6:Jh m H G6:=b1.trans (b2.trans (b3.trans (b4.trans (b5.trans b6))));have k7:Jh m H G7:=fun c o h n=>b7 c o (sa c o (k6 c o h n)) n
  have k8:Jh m H G8:=fun c o h n=>b8 c o (r c o (k7 c o h n)) n
  have k9:Jh m H G9:=fun c o h n=>p c o (g c o (k8 c o h n)) n
  refine q dr df dw G9 (k6.free ha j) (k7.free z v) (k8.free l n3) k9 fun CR=>⟨⟨dx,_,g9,?_,fun f=>rfl⟩,a9,c9,p dw _ gc n3,No a7 z,No a8 l,No c8 l,(fun e he=>nomatch he),Vf,Vf,Vf⟩
  exact J6 (J6 (J6 (J6 (J6 (J6 (J6 (J6 (J6 a))))))))
inductive HC(C CR:Wo)(vs:List V)(H:Hp)(Q:VK)(E:XK):Prop|mk (m dr df dw t:Wo) (R:WJ) (k:Int×Str×Str) (_:vs=[.ref m,.ref t]) (_:Wz C CR H m dr df dw R) (_:H t=some (.tup (D4 k))) (_:Fk k) (_:k∈R.es.map (·.ky)) (_:∀G,Ww H G->Q .non G)
abbrev KF:Stmt:=Tr (top 49) 9
theorem j9:Jv ["self","key"] ["self","key"] (Wt KF):=by walk_at"e"
theorem jY{f C CR:Wo}{fd:Wj}(F:JL K "check_kept" "Room.check_kept" KF f fd)(L:Mn K C)(TX:Nt P w K mg base "is_key" 4 ["value"] [] LV):WA P w K mg base Je 5 f fd ["self","key"] (HC C CR):=by
 refine F.ok j9 (fun vs H Q E h=>?_) (fun n A g s H vs Q E c h=>?_)
 .obtain⟨m,dr,df,dw,t,R,k,rfl,_⟩:=h;rfl
 .obtain⟨m,dr,df,dw,t,R,k,rfl,d,b,j,i,q⟩:=h;refine⟨_,(WV (Nf (PW.pt (DQ (TL (Te (N7 TX c.m rfl (WH 1 Wy)))) (GH (EM (xJ (Dw c)) (Wu 1) (JK K (Wu 0)) (by with_unfolding_all rfl))))) Gm Nr)),?_⟩;walk_at"rd";refine⟨t,k,rfl,b,j,fun G s1=>⟨_,rfl,?_⟩⟩;rw[Y2 (by simp)];have a:=d.mono s1;refine⟨_,EE L a,dr,rfl,NP k,_,.inl a.dR,s1 _ _ b,?_⟩;obtain⟨e,l,rfl⟩:=Ya.mp i;rw[EU d.nk l];exact q G s1
inductive FC(C CR:Wo)(vs:List V)(H:Hp)(Q:VK)(E:XK):Prop|mk (m dr df dw t:Wo) (R:WJ) (e:RE) (_:vs=[.ref m,.ref t]) (_:Wz C CR H m dr df dw R) (_:H t=some (.tup (D4 e.ky))) (_:Fk e.ky) (_:e∈R.es) (_:e.rs.cv.length <=1000) (_:∀l G,H l=none->Ww H G->JE G l (WR e.rs.en 0 e.rs.cv)->Q (.ref l) G)
abbrev KZ:Stmt:=Tr (top 49) 5
theorem mU:Jv ["self","key"] ["self","key"] (Wt KZ):=by walk_at"e"
theorem Sj{f C CR:Wo}{fd:Wj}(F:JL K "lacks" "Room.lacks" KZ f fd)(L:Mn K C)(JB:Nq P w K mg base C "check_kept" 5 ["self","key"] [] (HC C CR))(WP:Nq P w K mg base CR "missing" 2 ["self"] [] (BV CR)):WA P w K mg base Je 6 f fd ["self","key"] (FC C CR):=by
 refine F.ok mU (fun vs H Q E h=>?_) (fun cdv A n s H vs Q E g h=>?_)
 .obtain⟨m,dr,df,dw,t,R,e,rfl,_⟩:=h;rfl
 .obtain⟨m,dr,df,dw,t,R,e,rfl,c,j,r,i,v,q⟩:=h;refine⟨_,(WN (MB (Mz (Wu 0) JB g.m (WH 1 Wy))) (WV (Jr (Mu (Ek g (JK K (Wu 0)) (Wu 1)) WP g.m)))),?_⟩;walk_at"rd";refine⟨c.mt rfl,m,dr,df,dw,t,R,e.ky,rfl,c,j,r,Ya.mpr ⟨e,i,rfl⟩,fun G s1=>?_⟩;have b:=c.mono s1;have d:=b.rd e i;refine⟨_,EE L b,_,rfl,_,.inr ⟨_,NP e.ky,t,.inl b.dR,rfl,s1 _ _ j,(EU c.nk i).symm⟩,HX d,e.p,e.a,e.l,R.ru,e.rs,rfl,d,v,fun l G2 s2 o z=>?_⟩;exact q l G2 (s1.free o) (s1.trans s2) z
end
section
variable{C CR m dr df dw:Wo}{H G:Hp}{R:WJ}
theorem CS{es:List RE}(hk:(es.map (·.ky)).Nodup){e:RE}(he:e∈es):Nw es e.ky=e.rs:=by
 unfold Nw
 induction es with
 |nil=>exact nomatch he
 |cons x r ih=>
  rw[YU];rcases Yp.mp he with rfl|z
  .simp
  .have a:¬x.ky=e.ky:=fun q=>(YI.mp hk).1 (Ya.mpr ⟨e,z,q.symm⟩)
   rw[Yt a];exact ih (YI.mp hk).2 z
theorem Lq{es:List RE}{k:Int×Str×Str}(hk:k∉es.map (·.ky)):Nw es k=TN:=by
 unfold Nw;rw[Vo.mpr];intro e a;simp only[Y9];exact fun q=>hk (Ya.mpr ⟨e,a,q⟩)
theorem HU(es:List RE):(J3 es).map (·.1)=es.map (·.ky):=by unfold J3;rw[YM];rfl
def TQ(es:List RE)(k:Int×Str×Str)(l:Wo)(rs:RS):List RE:=es.map fun e=>if e.ky=k then {e with l:=l,rs:=rs} else e
theorem ZQ(es:List RE)(k:Int×Str×Str)(l:Wo)(rs:RS):My (TQ es k l rs)=My es:=by
 unfold My TQ;rw[YM];apply YV;intro e _;simp only[Function.comp]
 split <;> rfl
theorem jG(es:List RE)(k:Int×Str×Str)(l:Wo)(rs:RS):MP (TQ es k l rs)=MP es:=by
 unfold MP TQ;rw[YM];apply YV;intro e _;simp only[Function.comp]
 split <;> rfl
theorem AN{β:Type}(f:RE->β)(hf:∀e l rs,f {e with l:=l,rs:=rs}=f e)(es:List RE)(k:Int×Str×Str)(l:Wo)(rs:RS):(TQ es k l rs).map f=es.map f:=by
 unfold TQ;rw[YM];apply YV;intro e _;simp only[Function.comp]
 split
 .exact hf _ _ _
 .rfl
theorem QI{es:List RE}{k:Int×Str×Str}{l:Wo}{rs:RS}(now:Int)(hk:k∈es.map (·.ky)):J3 (TQ es k l rs)=Jz (J3 es) k rs now:=by
 unfold Jz;rw[Y3 (by rw[HU];exact hk)];unfold J3 TQ;rw[YM,YM];apply YV;intro e _;simp only[Function.comp]
 by_cases h:e.ky=k
 .rw[Y3 h,Y3 h,h]
 .rw[Y2 h,Y2 h]
theorem Qf{xs:List AE}{k:Int×Str×Str}{rs rs':RS}{now:Int}:Jz (Jz xs k rs now) k rs' now=Jz xs k rs' now:=by
 unfold Jz
 by_cases h:k∈xs.map (·.1)
 .rw[Y3 h,Y3 h];have h2:k∈(xs.map fun x=>if x.1=k then(k,rs,x.2.2) else x).map (·.1):=by
   rw[YM];obtain⟨x,a,rfl⟩:=Ya.mp h;exact Ya.mpr ⟨x,a,by simp[Function.comp]⟩
  rw[Y3 h2,YM];apply YV;intro x _;simp only[Function.comp]
  by_cases a:x.1=k
  .simp[a]
  .simp[a]
 .rw[Y2 h,Y2 h,Y3 (by simp),Yn];have e:(xs.map fun x=>if x.1=k then(k,rs',x.2.2) else x)=xs:=by
   conv=>rhs;rw[<-List.map_id xs]
   apply YV;intro x a;rw[Y2 (fun z=>h (Ya.mpr ⟨x,a,z⟩))];rfl
  rw[e];simp
theorem Oz(es:List RE)(k:Int×Str×Str):J3 (Nu es k)=NM (J3 es) k:=by
 unfold J3 Nu NM;rw[VP];rfl
theorem O0{xs:List AE}{k:Int×Str×Str}{rs:RS}{now:Int}:NM (Jz xs k rs now) k=NM xs k:=by
 unfold Jz NM
 by_cases h:k∈xs.map (·.1)
 .rw[Y3 h];clear h
  induction xs with
  |nil=>rfl
  |cons x r ih=>
   rw[List.map_cons,U0,U0,ih]
   by_cases hx:x.1=k
   .simp[hx]
   .simp[hx]
 .rw[Y2 h,Vp];simp
theorem JP.keepPA{p a p' a' l':Wo}{ru:Str}{rs':RS}(kp:NJ p a H G)(h:JP CR H p' a' l' ru rs')(n1:p'≠p)(n2:a'≠a){dx:Wo}{fs:List (Str×V)}(hp:H p=some (.ins CR dx fs)){kvs:List (WU×V)}(ha:H a=some (.dK kvs)):JP CR G p' a' l' ru rs':=by
 obtain⟨d,fs',b,r⟩:=h.ex;obtain⟨xs,c,f⟩:=h.cv;refine⟨⟨d,fs',kp _ _ b n1 (Wv b ha nofun),r⟩,kp _ _ h.dk (Wv h.dk hp nofun) n2,xs,kp _ _ c (Wv c hp nofun) (Wv c ha nofun),f.tk fun t ys e=>kp _ _ e (Wv e hp nofun) (Wv e ha nofun)⟩
theorem Wz.goOn{e:RE}{l:Wo}{rs:RS}(h:Wz C CR H m dr df dw R)(he:e∈R.es)(kp:NJ e.p e.a H G)(hr:JP CR G e.p e.a l R.ru rs):Wz C CR G m dr df dw {R with es:=TQ R.es e.ky l rs}:=by
 obtain⟨nm1,nm2,nm3,g⟩:=h.ne;obtain⟨w,v,s,r,q,o,n,j⟩:=g e he;obtain⟨dx,fs,hm,hl,hf⟩:=h.ex;have f:=h.rd e he;obtain⟨dxe,fse,i,_⟩:=f.ex;refine⟨⟨dx,fs,kp m _ hm w v,hl,hf⟩,?_,?_,kp dw _ h.dW (Ne.symm q) (Ne.symm j),h.n1,h.n2,h.n3,fun y hy=>?_,?_,?_,?_⟩
 .show G dr=some (.dT (My (TQ R.es e.ky l rs)));rw[ZQ];exact kp dr _ h.dR (Ne.symm s) (Ne.symm o)
 .show G df=some (.dT (MP (TQ R.es e.ky l rs)));rw[jG];exact kp df _ h.dF (Ne.symm r) (Ne.symm n)
 .obtain⟨c,b,rfl⟩:=Ya.mp hy
  by_cases hk:c.ky=e.ky
  .rw[Y3 hk];have:c=e:=by
    by_cases e1:c=e
    .exact e1
    .exact absurd hk (Es h.nk b he e1)
   subst this;exact hr
  .rw[Y2 hk];have d:c≠e:=fun z=>hk (by rw[z])
   exact(h.rd c b).keepPA kp (Es h.np b he d) (Es h.na b he d) i f.dk
 .show((TQ R.es e.ky l rs).map (·.p)).Nodup;rw[AN (·.p) (fun _ _ _=>rfl)];exact h.np
 .show((TQ R.es e.ky l rs).map (·.a)).Nodup;rw[AN (·.a) (fun _ _ _=>rfl)];exact h.na
 .show((TQ R.es e.ky l rs).map (·.ky)).Nodup;rw[AN (·.ky) (fun _ _ _=>rfl)];exact h.nk
end
section
variable{P:Wh}{w:Wl}{K:Wm}{mg:Wd}{base:Wr}
inductive PN(C:Wo)(vs:List V)(H:Hp)(Q:VK)(E:XK):Prop|mk (d:LD) (b:Wo) (_:vs=[.int d.nu,.str d.z1,.str d.z2,.ref b]) (_:d.k=false) (_:d.Ok) (_:H b=some (.lst (d.ns.map V.int))) (_:∀p b' G,H p=none->H b'=none->Ww H G->MM C G p b' d->Q (.ref p) G)
theorem vY{C:Wo}(F:Dx P w K mg base "Letter" C 6 ["self","number","sender","goal","body","keep"] [.bl false] (B9 C)):MZ P w K mg base "Letter" 6 (PN C):=by
 refine F.ct fun vs H Q h y dx G c v z s l=>?_
 obtain⟨d,b,rfl,f,ok,g,q⟩:=h;obtain⟨a,i⟩:=PF (k:=d.k) ok.n0 ok.n1 ok.k1 ok.k2 (s b _ g) ok.l1 ok.l2 ok.by'
 rw[f]at a i;exact⟨y,dx,_,_,_,b,_,_,rfl,l,a,i,s b _ g,fun H' r n h1 h2 j p=>⟨rfl,q y r H' c (s.free n) (fun d o e=>p d o (s d o e) (No e c)) ⟨ok,by rw[f];exact j,h2⟩⟩⟩
end
theorem ZI{t u v:TS}{D:L2.T5}{σ:L2.St}{H:Hp}(h:∀N:L2.St->Hp->Prop,(∀σ' H',v D σ' H'->N σ' H')->D9 t u {D with nx:=N} σ H):D9 t (D9 u v) D σ H:=h (v D) fun _ _ x=>x
structure Tc(rs:RS):Prop where
 iv:TJ rs
 by':∀n x,Jc rs.st n=some x->0 <=x/\x <=255
 e1:∀e,rs.en=some e->1 <=e
theorem Tc.zero:Tc TN:=⟨TJ.zero,fun n x h=>(by cases h),fun e h=>(by cases h)⟩
theorem Tc.step{rs:RS}{d:PD}(la:Bool)(h:Tc rs)(hd:d.Ok):Tc (Tp la rs d):=by
 refine⟨h.iv.step la hd,?_,fun e a=>?_⟩
 .refine FB (P:=fun _ x=>0 <=x/\x <=255) la d.ns rs.st d.at' h.by' fun i x b=>hd.by' x (Yw b)
 .have a:(if d.mo=true then rs.en else some (d.at'+ d.ns.length))=some e:=a;obtain⟨g,f,c⟩:=hd.end'
  split at a
  .exact h.e1 e a
  .have:=Option.some.inj a;lia
theorem Tc.body{rs:RS}(h:Tc rs)(hl:WR rs.en 0 rs.cv=[]):1 <=(JO rs).length/\(JO rs).length <=4000/\∀x∈JO rs,0 <=x/\x <=255:=by
 obtain⟨e,c,f,d,b⟩:=h.iv.body hl;have:=h.e1 e c;refine⟨by lia,by lia,fun x a=>?_⟩;obtain⟨i,hi,rfl⟩:=V3.mp a;exact h.by' i _ (b i _ (Y6 hi))
theorem jC{es:List RE}{now:Int}(hk:(es.map (·.ky)).Nodup){e:RE}(he:e∈es):Jz (J3 es) e.ky e.rs now=J3 es:=by
 unfold Jz;rw[Y3 (by rw[HU];exact Ya.mpr ⟨e,he,rfl⟩)];unfold J3;rw[YM];apply YV;intro x a;simp only[Function.comp]
 by_cases h:x.ky=e.ky
 .have:x=e:=YY fun ne=>Es hk a he ne h
  subst this;rw[Y3 rfl]
 .rw[Y2 h]
theorem HA{ru:Str}{rs:RS}{d:PD}(hs:strange rs d=false)(hu:ru="refuse"->N1 rs.st d.at' d.ns=none):Jx ru rs d=if WR (Tp (decide (ru="last")) rs d).en 0 (Tp (decide (ru="last")) rs d).cv=[] then .whole (Tp (decide (ru="last")) rs d) else .keep (Tp (decide (ru="last")) rs d):=by
 have a:(if ru="refuse" then N1 rs.st d.at' d.ns else none)=none:=by
  split
  .rename_i h;exact hu h
  .rfl
 unfold Jx;rw[Y2 (by rw[hs];simp),a]
theorem tZ(xs:List AE)(k:Int×Str×Str)(rs:RS)(now:Int):(Jz xs k rs now).length <=xs.length+ 1:=by
 unfold Jz
 split
 .rw[Y0];lia
 .rw[List.length_append];exact Y5 _
theorem xK{xs:List AE}{k:Int×Str×Str}{rs:RS}{now:Int}{y:AE}(h:y∈Jz xs k rs now):y∈xs\/y.2.1=rs:=by
 unfold Jz at h
 split at h
 .obtain⟨x,a,rfl⟩:=Ya.mp h
  split
  .exact .inr rfl
  .exact .inl a
 .rcases Yj.mp h with z|z
  .exact .inl z
  .rw[Y8.mp z];exact .inr rfl
def RB(xs:List AE):Int:=(xs.map fun x=>(x.2.1.st.length:Int)).sum
theorem Z7(es:List RE):RB (J3 es)=Di es:=by unfold RB Di J3;rw[YM];rfl
def ML(ws:List ((Int×Str×Str)×Int))(k:Int×Str×Str)(t:Int):List ((Int×Str×Str)×Int):=if k∈ws.map (·.1) then ws.map (fun x=>if x.1=k then(k,t) else x) else ws++[(k,t)]
theorem yJ(ws:List ((Int×Str×Str)×Int))(k:Int×Str×Str)(t:Int):Md (Gd ws) (NP k) (.int t)=Gd (ML ws k t):=by
 have e:((Gd ws).any fun b=>decide (b.1=NP k))=decide (k∈ws.map (·.1)):=by
  unfold Gd;rw[List.any_map,Yz,Y9,UV];constructor
  .rintro⟨x,a,h⟩;exact Ya.mpr ⟨x,a,Rg (X7 h)⟩
  .intro h;obtain⟨x,a,rfl⟩:=Ya.mp h;exact⟨x,a,Yq rfl⟩
 unfold Md ML;rw[e]
 by_cases h:k∈ws.map (·.1)
 .rw[Y3 (Yq h),Y3 h];unfold Gd;rw[YM,YM];apply YV;intro x _;simp only[Function.comp]
  by_cases a:x.1=k
  .rw[Y3 a,Y3 (by rw[a]),a]
  .rw[Y2 a,Y2 (fun z=>a (Rg z))]
 .rw[Y2 (by simpa using h),Y2 h];unfold Gd;rw[Yn];rfl
inductive Ev where
 |gone (k:Ky) (w:Str)
 |late (k:Ky)
 |strange (k:Ky)
 |whole (d:LD)
def Ik(CL:Wo)(G:Hp)(v:V):Ev->Prop
 | .gone k w=>∃t tk,v= .ref t/\G t=some (.tup [.str "gone",.ref tk,.str w])/\G tk=some (.tup (D4 k))
 | .late k=>∃t tk,v= .ref t/\G t=some (.tup [.str "late",.ref tk])/\G tk=some (.tup (D4 k))
 | .strange k=>∃t tk,v= .ref t/\G t=some (.tup [.str "strange",.ref tk])/\G tk=some (.tup (D4 k))
 | .whole d=>∃t pl bl,v= .ref t/\G t=some (.tup [.str "whole",.ref pl])/\MM CL G pl bl d
def R8(CL:Wo)(G:Hp)(l:Wo)(evs:List Ev):Prop:=∃xs,G l=some (.lst xs)/\Pw (Ik CL G) xs evs
def Tz(R:WJ)(d:PD):List AE×List ((Int×Str×Str)×Int)×List Ev:=
 if GZ R d.key=true then(J3 R.es,R.ws,[.late d.key]) else
 match Jx R.ru (Nw R.es d.key) d with
 | .str=>(Jz (J3 R.es) d.key (Nw R.es d.key) R.now,R.ws,[.strange d.key])
 | .unl _=>(NM (J3 R.es) d.key,R.ws,[.gone d.key "unlike"])
 | .keep rs=>(Jz (J3 R.es) d.key rs R.now,R.ws,[])
 | .whole rs=>(NM (J3 R.es) d.key,ML R.ws d.key R.now,[.whole ⟨d.nu,d.z1,d.z2,JO rs,false⟩])
section
variable{P:Wh}{w:Wl}{K:Wm}{mg:Wd}{base:Wr}
inductive Iy(C CR CP CL:Wo)(vs:List V)(H:Hp)(Q:VK)(E:XK):Prop|mk (m dr df dw q b:Wo) (R:WJ) (d:PD) (_:vs=[.ref m,.ref q]) (_:Wz C CR H m dr df dw R) (_:Jg CP H q b d) (_:R.es.length <=900) (_:R.ws.length <=1000) (_:(∀e∈R.es,e.rs.st.length <=10000/\e.rs.cv.length <=800/\Tc e.rs)) (_:(GZ R d.key=false->∀rs,Jx R.ru (Nw R.es d.key) d= .keep rs->RB (Jz (J3 R.es) d.key rs R.now) <=R.sp)) (_:∀R' l G,TC C CR H G m dr df dw R R' (Tz R d).1 (Tz R d).2.1->R8 CL G l (Tz R d).2.2->Q (.ref l) G)
abbrev IX:Stmt:=Tr (top 49) 13
theorem AB:Jv ["self","piece","key","reading","answer"] ["self","piece"] (Wt IX):=by walk_at"e"
theorem Zv{f C CR CP CW CU CL:Wo}{fd:Wj}(F:JL K "take_in" "Room.take_in" IX f fd)(L:Mn K C)(LW:GT K CW "body")(icW:GN K CW)(icU:GN K CU)(LU:GT K CU "at")(ww:W.kitOne K (.ref CW) (.ref CW)=some true)(uw:W.kitOne K (.ref CU) (.ref CW)=some false)(B:Bt mg)(gC_Whole:mg "Whole"=some (.ref CW))
  (Jy:Nq P w K mg base CP "key" 1 ["self"] [] (IW CP)) (JI:Nq P w K mg base C "is_resting" 1 ["self","key"] [] (K0 C CR)) (Tt:MZ P w K mg base "Reading" 1 (L7 CR)) (WX:Nq P w K mg base CR "is_strange" 2 ["self","piece"] [] (C6 CR CP)) (J0:Nq P w K mg base CR "answer_to" 3 ["self","piece"] [] (AM CR CP CW CU))
  (JD:Nq P w K mg base C "make_space" 4 ["self","own"] [] (Fn C CR)) (Jb:Nq P w K mg base C "let_go" 1 ["self","key"] [] (Bw C CR)) (D0:MZ P w K mg base "Letter" 6 (PN CL)):WA P w K mg base Je 8 f fd ["self","piece"] (Iy C CR CP CL):=by
 refine F.ok AB (fun vs H Q E h=>?_) (fun cdv A outer s H vs Q E hr h=>?_)
 .obtain⟨m,dr,df,dw,q,b,R,d,rfl,_⟩:=h;rfl
 .obtain⟨m,dr,df,dw,q,b,R,d,rfl,hR,hP,hel,hwl,hes,qk,q0⟩:=h;refine⟨_,(WN (NL 2 AB (Mu (Wu 1) Jy hr.m)) (WN (Nf (Te (Mz (Wu 0) JI hr.m (WH 2 Wy))) (WV (Jr (TD (JM (hs:=DY) (MI (Nz TH (WH 2 Wy))) Wy)))) Nr) (WN (NL 3 AB (Dt (K:=K) rfl U4 Um Vi (OT (Dw hr)) (JK K (Wu 0)) (WH 2 (Mj (Rs Tt hr.m rfl (MK (JK K (Wu 0)) Wy)) Wy)))) (WN (MB (Dt (K:=K) rfl U4 Um Vi (OT (Dw hr)) (JK K (Wu 0)) (WH 2 (MK (JK K (Wu 0)) Wy)))) (WN (Nf (PW.pt (EG (T3 (RG Rv) (JK K (Wu 0)) TH) (Er (Te (Mz (Wu 3) WX hr.m (WH 1 Wy)))))) (WV (Jr (TD (JM (hs:=DY) (MI (Nz TH (WH 2 Wy))) Wy)))) Nr) (WN (NL 4 AB (Mz (Wu 3) J0 hr.m (WH 1 Wy))) (WN (Nf (T3 P8 (Wu 4) DC) (WV (Jr (Mz (Wu 0) JD hr.m (WH 2 Wy)))) Nr) (WN (MB (Mz (Wu 0) Jb hr.m (WH 2 Wy))) (WN (Nf (Te (Nh (Ac (K:=K) rfl) B.isinstance (WH 4 (JM (hs:=MC) (Gz (v:=.ref CW) rfl gC_Whole rfl) Wy)))) (WN (Sr (Dw hr) (JK K (Wu 0)) (Wu 2) (JK K (Wu 0)) rfl) (WV (Jr (TD (JM (hs:=DY) (MI (Nz TH (Mj (Rs D0 hr.m rfl (MQ (MD K (Wu 2) J1) (MQ (MD K (Wu 2) J1) (MQ (MD K (Wu 2) J1) (MK (JK K (Wu 4)) Wy))))) Wy))) Wy))))) Nr) (WV (Jr (TD (JM (hs:=DY) (MI (Nz TH (WH 2 (Nz TH Wy)))) Wy))))))))))))),?_⟩;refine Ju fun N hN=>?_
  walk_at"rd";refine⟨KM hP,q,b,d,rfl,hP,fun tk G1 htk s1 e1=>hN _ _ ?_⟩;clear hN N;have hR1:=hR.mono s1;have hP1:=hP.mono s1;refine Ju fun N hN=>?_
  walk_at"rd";refine⟨hR1.mt rfl,m,dr,df,dw,tk,R,d.key,rfl,hR1,e1,_,rfl,?_⟩
  by_cases hrs:GZ R d.key=true
  .rw[Y3 hrs];refine⟨Ny (by simp),fun t G2 ht s2 e2=>⟨Ny (by simp),fun l G3 hl s3 e3=>?_⟩⟩;have s123:=s1.trans (s2.trans s3);unfold Tz at q0;rw[Y3 hrs]at q0;refine q0 R l G3 ⟨fun c o h _=>s123 c o h,hR.mono s123,rfl,rfl,⟨rfl,rfl,rfl,rfl,rfl,rfl⟩,fun e he=>.inl ⟨e,he,rfl,rfl⟩,fun e he=>.inl ⟨e,he,rfl⟩⟩ ⟨_,e3,.one ⟨t,tk,rfl,s3 _ _ e2,s3 _ _ (s2 _ _ e1)⟩⟩
  rw[Y2 hrs];refine hN _ _ ?_;clear hN N;have q0:match Jx R.ru (Nw R.es d.key) d with
    | .str=>∀R' l t tk G,TC C CR H G m dr df dw R R' (Jz (J3 R.es) d.key (Nw R.es d.key) R.now) R.ws->G l=some (.lst [.ref t])->G t=some (.tup [.str "strange",.ref tk])->G tk=some (.tup (D4 d.key))->Q (.ref l) G
    | .unl _=>∀R' l t tk G,TC C CR H G m dr df dw R R' (NM (J3 R.es) d.key) R.ws->G l=some (.lst [.ref t])->G t=some (.tup [.str "gone",.ref tk,.str "unlike"])->G tk=some (.tup (D4 d.key))->Q (.ref l) G
    | .keep rs=>RB (Jz (J3 R.es) d.key rs R.now) <=R.sp/\∀R' l G,TC C CR H G m dr df dw R R' (Jz (J3 R.es) d.key rs R.now) R.ws->G l=some (.lst [])->Q (.ref l) G
    | .whole rs=>∀R' l t pl bl G,TC C CR H G m dr df dw R R' (NM (J3 R.es) d.key) (ML R.ws d.key R.now)->G l=some (.lst [.ref t])->G t=some (.tup [.str "whole",.ref pl])->MM CL G pl bl ⟨d.nu,d.z1,d.z2,JO rs,false⟩->Q (.ref l) G:=by
   unfold Tz at q0;rw[Y2 hrs]at q0;have qk:=qk (XA.mpr hrs);cases hst:Jx R.ru (Nw R.es d.key) d with
   |str=>rw[hst]at q0;exact fun R' l t tk G hn x1 x2 x3=>q0 R' l G hn ⟨_,x1,.one ⟨t,tk,rfl,x2,x3⟩⟩
   |unl n=>rw[hst]at q0;exact fun R' l t tk G hn x1 x2 x3=>q0 R' l G hn ⟨_,x1,.one ⟨t,tk,rfl,x2,x3⟩⟩
   |keep rs=>rw[hst]at q0;exact⟨qk rs hst,fun R' l G hn x1=>q0 R' l G hn ⟨_,x1,.nil⟩⟩
   |whole rs=>rw[hst]at q0;exact fun R' l t pl bl G hn x1 x2 x3=>q0 R' l G hn ⟨_,x1,.one ⟨t,pl,bl,rfl,x2,x3⟩⟩
  obtain⟨nm1,nm2,nm3,nme⟩:=hR1.ne;refine ZI fun N hN=>?_
  have go:∀ (aa:List RE) (e:RE) (G:Hp),Wz C CR G m dr df dw {R with es:=aa}->MX R m dr df dw H G->e∈aa->e.ky=d.key->e.rs=Nw R.es d.key->J3 aa=Jz (J3 R.es) d.key (Nw R.es d.key) R.now->(∀x∈aa,((∃e0∈R.es,x.p=e0.p/\x.a=e0.a)\/(H x.p=none/\H x.a=none))/\((∃e0∈R.es,x.l=e0.l)\/H x.l=none))->(∀x∈R.es,∃y∈aa,y.p=x.p/\y.a=x.a)->Jg CP G q b d->G tk=some (.tup (D4 d.key))->
    N [some (.ref m),some (.ref q),some (.ref tk),some (.ref e.p),none] G:=by
   intro aa e G hG hkp he hek hers habs hnw hold hPG htkG;refine hN _ _ ?_;clear hN N;have hre:=hG.rd e he;have hcur:e.rs.st.length <=10000/\e.rs.cv.length <=800/\Tc e.rs:=by
    rw[hers]
    by_cases h:d.key∈R.es.map (·.ky)
    .obtain⟨x,g,hxk⟩:=Ya.mp h;have hxk:x.ky=d.key:=hxk;rw[<-hxk,CS hR.nk g];exact hes x g
    .rw[Lq h];exact⟨Yy _,Yy _,Tc.zero⟩
   rw[<-hers]at q0 habs;have hfree:∀c,G c=none->H c=none:=fun c j=>by
    cases h:H c with
    |none=>rfl
    |some o=>
     have:Gg R m dr df dw c:=YY fun n=>by rw[hkp c o h n]at j;cases j
     exfalso
     obtain⟨_,_,hmG,_⟩:=hG.ex;rcases this with rfl|rfl|rfl|rfl|⟨x,g,hxc⟩
     .rw[hmG]at j;cases j
     .rw[hG.dR]at j;cases j
     .rw[hG.dF]at j;cases j
     .rw[hG.dW]at j;cases j
     .obtain⟨y,hy,h1,h2⟩:=hold x g;have ry:=hG.rd y hy;obtain⟨_,_,hyp,_⟩:=ry.ex;rcases hxc with z|z
      .rw[z,<-h1,hyp]at j;cases j
      .rw[z,<-h2,ry.dk]at j;cases j
   have nxt:∀{G2:Hp} (es2:List RE) (ws2:List ((Int×Str×Str)×Int)),MX R m dr df dw H G2->Wz C CR G2 m dr df dw {R with es:=es2,ws:=ws2}->(∀x∈es2,∃y∈aa,x.p=y.p/\x.a=y.a/\(x.l=y.l\/H x.l=none))->TC C CR H G2 m dr df dw R {R with es:=es2,ws:=ws2} (J3 es2) ws2:=fun es2 ws2 k o h=>
    ⟨k, o, rfl, rfl, ⟨rfl, rfl, rfl, rfl, rfl, rfl⟩, fun x g => by
     obtain⟨y,hy,h1,h2,_⟩:=h x g;rw[h1,h2];exact(hnw y hy).1,fun x g=>by
     obtain⟨y,hy,_,_,h3|h3⟩:=h x g
     .rw[h3];exact(hnw y hy).2
     .exact .inr h3⟩
   refine Ju fun N hN=>?_
   have k6:(R.ru≠"refuse"->strange e.rs d=false)->N [some (.ref m),some (.ref q),some (.ref tk),some (.ref e.p),none] G:=fun hns=>by
    refine hN _ _ ?_;clear hN N;refine Ju fun N hN=>?_
    have unl:∀ (n:Int) (m':Wo) (G2:Hp),Ww G G2->DL CU "at" G2 m' (.int n)->Jx R.ru e.rs d= .unl n->N [some (.ref m),some (.ref q),some (.ref tk),some (.ref e.p),some (.ref m')] G2:=fun n m' G2 s2 hA hst=>by
     refine hN _ _ ?_;clear hN N;rw[hst]at q0;obtain⟨dx,fs,x1,x2⟩:=hA;have hG2:=hG.mono s2;refine Ju fun N hN=>?_
     walk_at"rd";refine hN _ _ ?_;clear hN N;refine Ju fun N hN=>?_
     walk_at"rd";refine⟨hG2.mt rfl,m,dr,df,dw,tk,{R with es:=aa},d.key,rfl,hG2,s2 _ _ htkG,Ya.mpr ⟨e,he,hek⟩,fun G3 kp3 hG3=>hN _ _ ?_⟩;clear hN N;have x3:=kp3 m' _ x1 (Wv x1 hG2.dR nofun) (Wv x1 hG2.dF nofun);have ab:=s2 _ _ htkG;have htk3:=kp3 tk _ ab (Wv ab hG2.dR nofun) (Wv ab hG2.dF nofun);walk_at"rd";refine⟨_,_,_,x3,LU.cl,icU,_,uw,?_⟩;rw[Y2 (by simp)];refine⟨Ny (by simp),fun t G4 ht s4 e4=>⟨Ny (by simp),fun l G5 hl s5 e5=>?_⟩⟩;have s45:=s4.trans s5;have hn:=nxt (G2:=G5) (Nu aa d.key) R.ws (fun c o h j=>s45 c o (kp3 c o (s2 c o (hkp c o h j)) (fun z=>j (.inr (.inl z))) (fun z=>j (.inr (.inr (.inl z)))))) (hG3.mono s45) fun x g=>⟨x,(YZ.mp g).1,rfl,rfl,.inl rfl⟩
     rw[Oz,habs,O0]at hn;exact q0 _ l t tk G5 hn e5 (s5 _ _ e4) (s45 _ _ htk3)
    walk_at"rd";refine⟨Lz hre,e.p,e.a,e.l,q,b,R.ru,e.rs,d,rfl,hre,hPG,by lia,by lia,fun hs=>⟨fun hr m' G2 s2 hA=>?_,fun hr=>?_⟩,fun hs=>⟨fun n h2 h3 m' G2 s2 hA=>?_,fun hu rs' ers=>⟨fun hne l' G2 hl0 kp i=>?_,fun heq=>?_⟩⟩⟩
    .have hst:Jx R.ru e.rs d= .unl d.at':=by unfold Jx;rw[Y3 hs,Y3 hr]
     exact unl _ m' G2 s2 hA hst
    .rw[hns hr]at hs;cases hs
    .have hst:Jx R.ru e.rs d= .unl n:=by unfold Jx;rw[Y2 (by rw[hs];simp),Y3 h2,h3]
     exact unl _ m' G2 s2 hA hst
    .have hst:Jx R.ru e.rs d= .keep rs':=by rw[HA hs hu,<-ers,Y2 hne]
     rw[hst]at q0;obtain⟨q1,q2⟩:=q0;have hl0':H l'=none:=hfree l' hl0;have hR3:=hG.goOn he kp i;have hlen:rs'.st.length <=e.rs.st.length+ d.ns.length:=by rw[ers];exact AK _ _ _ _
     have hdl:=hPG.ok.l2;have habs2:J3 (TQ aa e.ky l' rs')=Jz (J3 R.es) d.key rs' R.now:=by
      rw[QI R.now (Ya.mpr ⟨e,he,rfl⟩),habs,hek,Qf]
     have hel1:aa.length <=901:=by
      have h1:=X0 List.length habs;have h2:=tZ (J3 R.es) d.key e.rs R.now;unfold J3 at h1 h2;rw[Y0]at h1 h2
      lia
     have hbd1:∀x∈aa,x.rs.st.length <=10000:=fun x g=>by
      have:(x.ky,x.rs,x.first)∈Jz (J3 R.es) d.key e.rs R.now:=by rw[<-habs];exact Ya.mpr ⟨x,g,rfl⟩
      rcases xK this with z|z
      .obtain⟨y,hy,hz⟩:=Ya.mp z;have:y.rs=x.rs:=X0 (fun t=>t.2.1) hz;rw[<-this];exact(hes y hy).1
      .have:x.rs=e.rs:=z;rw[this];exact hcur.1
     refine hN _ _ ?_;clear unl hN N;refine Ju fun N hN=>?_
     walk_at"rd";refine⟨hR3.mt rfl,m,dr,df,dw,tk,{R with es:=TQ aa e.ky l' rs'},rfl,hR3,?_,fun x g=>?_,?_,fun l G4 hl s4 e4=>?_⟩
     .show(TQ aa e.ky l' rs').length <=1000;unfold TQ;rw[Y0];lia
     .obtain⟨y,hy,rfl⟩:=Ya.mp g
      split
      .show rs'.st.length <=100000;lia
      .have:=hbd1 y hy;lia
     .show Di (TQ aa e.ky l' rs') <=R.sp;rw[<-Z7,habs2];exact q1
     .have hn:=nxt (G2:=G4) (TQ aa e.ky l' rs') R.ws (fun c o h j=>s4 c o (kp c o (hkp c o h j) (fun z=>?_) (fun z=>?_))) (hR3.mono s4) fun x g=>?_
      .rw[habs2]at hn;exact q2 _ l G4 hn e4
      .rcases(hnw e he).1 with⟨e0,h0,z1,_⟩|⟨z1,_⟩
       .exact j (.inr (.inr (.inr (.inr ⟨e0,h0,.inl (z.trans z1)⟩))))
       .rw[z,z1]at h;cases h
      .rcases(hnw e he).1 with⟨e0,h0,_,z1⟩|⟨_,z1⟩
       .exact j (.inr (.inr (.inr (.inr ⟨e0,h0,.inr (z.trans z1)⟩))))
       .rw[z,z1]at h;cases h
      .obtain⟨y,hy,rfl⟩:=Ya.mp g;refine⟨y,hy,?_⟩
       split
       .exact⟨rfl,rfl,.inr hl0'⟩
       .exact⟨rfl,rfl,.inl rfl⟩
    .have hst:Jx R.ru e.rs d= .whole rs':=by rw[HA hs hu,<-ers,Y3 heq]
     rw[hst]at q0;have hI':Tc rs':=by rw[ers];exact hcur.2.2.step _ hPG.ok
     obtain⟨en,b1,b2,b3,b4⟩:=hI'.iv.body heq;obtain⟨c1,c2,c3⟩:=hI'.body heq;refine⟨en,JO rs',b1,b2,b3,b4,fun m' b' l' G2 hb0 hl0 kp i hA=>hN _ _ ?_⟩;clear unl hN N;have hl0':H l'=none:=hfree l' hl0;have hR3:=hG.goOn he kp i;obtain⟨dx,fs,x1,x2,x3⟩:=hA;have ab:=kp tk _ htkG (fun z=>by obtain⟨_,_,hpe,_⟩:=hre.ex;rw[z,hpe]at htkG;cases htkG) (fun z=>by have:=hre.dk;rw[z,this]at htkG;cases htkG);refine Ju fun N hN=>?_
     walk_at"rd";refine hN _ _ ?_;clear hN N;refine Ju fun N hN=>?_
     walk_at"rd";refine⟨hR3.mt rfl,m,dr,df,dw,tk,{R with es:=TQ aa e.ky l' rs'},d.key,rfl,hR3,ab,?_,fun G3 kp3 hG3=>hN _ _ ?_⟩
     .show d.key∈(TQ aa e.ky l' rs').map (·.ky);rw[AN (·.ky) (fun _ _ _=>rfl)];exact Ya.mpr ⟨e,he,hek⟩
     clear hN N;have off3:∀{c:Wo} {o:HO},G2 c=some o->(∀kvs,o≠ .dT kvs)->G3 c=some o:=fun h n=>kp3 _ _ h (fun z=>by rw[z,hR3.dR]at h;cases h;exact n _ rfl) (fun z=>by rw[z,hR3.dF]at h;cases h;exact n _ rfl)
     have y1:=off3 x1 (fun _ z=>nomatch z);have y3:=off3 x3 (fun _ z=>nomatch z);have htk3:=off3 ab (fun _ z=>nomatch z);walk_at"rd";refine⟨_,_,_,y1,LW.cl,icW,_,ww,?_⟩;rw[Y3 rfl];have hwl':(Gd R.ws).length=R.ws.length:=Y0 ..;refine⟨_,AD L hG3,_,IE L hG3,dw,rfl,NP d.key,_,hG3.dW,htk3,DV (show(Gd R.ws).length <=100000 by lia),fun G4 b4 e4=>?_⟩;have e4':G4 dw=some (.dT (Gd (ML R.ws d.key R.now))):=by rw[<-yJ];exact e4
     have off4:∀{c:Wo} {o:HO},G3 c=some o->(∀kvs,o≠ .dT kvs)->G4 c=some o:=fun h n=>b4 _ _ h (fun z=>by rw[z,hG3.dW]at h;cases h;exact n _ rfl)
     have z1:=off4 y1 (fun _ z=>nomatch z);have z3:=off4 y3 (fun _ z=>nomatch z);have htk4:=off4 htk3 (fun _ z=>nomatch z);refine⟨_,JV.of htk4,_,rfl,_,JV.of htk4,_,rfl,_,JV.of htk4,_,rfl,_,⟨m',CW,dx,fs,rfl,z1,LW.cl,LW.na,x2⟩,?_⟩;refine⟨⟨d.nu,d.z1,d.z2,JO rs',false⟩,b',rfl,rfl,⟨hPG.ok.n0,hPG.ok.n1,hPG.ok.k1,hPG.ok.k2,c1,c2,c3⟩,z3,fun pl bl G5 hpl hbl s5 hL=>⟨Ny (by simp),fun t G6 ht s6 e6=>⟨Ny (by simp),fun l G7 hl s7 e7=>?_⟩⟩⟩;have s57:=s5.trans (s6.trans s7);obtain⟨dxm,fsm,hm3,hlm,hfm⟩:=hG3.ex;have hG4:Wz C CR G4 m dr df dw {R with es:=Nu (TQ aa e.ky l' rs') d.key,ws:=ML R.ws d.key R.now}:=
      ⟨⟨dxm,fsm,off4 hm3 (fun _ z=>nomatch z),hlm,hfm⟩,b4 dr _ hG3.dR hR.n2,b4 df _ hG3.dF hR.n3,e4',hR.n1,hR.n2,hR.n3,fun x g=>(hG3.rd x g).offD (fun c o h n=>b4 c o h n) hG3.dW,hG3.np,hG3.na,hG3.nk⟩
     have hn:=nxt (G2:=G7) (Nu (TQ aa e.ky l' rs') d.key) (ML R.ws d.key R.now) (fun c o h j=>s57 c o (b4 c o (kp3 c o (kp c o (hkp c o h j) (fun z=>?_) (fun z=>?_)) (fun z=>j (.inr (.inl z))) (fun z=>j (.inr (.inr (.inl z))))) (fun z=>j (.inr (.inr (.inr (.inl z))))))) (hG4.mono s57) fun x g=>?_
     .rw[Oz,QI R.now (Ya.mpr ⟨e,he,rfl⟩),habs,hek,Qf,O0]at hn;exact q0 _ l t pl bl G7 hn e7 (s7 _ _ e6) (hL.mono (s6.trans s7))
     .rcases(hnw e he).1 with⟨e0,h0,z1,_⟩|⟨z1,_⟩
      .exact j (.inr (.inr (.inr (.inr ⟨e0,h0,.inl (z.trans z1)⟩))))
      .rw[z,z1]at h;cases h
     .rcases(hnw e he).1 with⟨e0,h0,_,z1⟩|⟨_,z1⟩
      .exact j (.inr (.inr (.inr (.inr ⟨e0,h0,.inr (z.trans z1)⟩))))
      .rw[z,z1]at h;cases h
     .obtain⟨y,hy,rfl⟩:=Ya.mp (YZ.mp g).1;refine⟨y,hy,?_⟩
      split
      .exact⟨rfl,rfl,.inr hl0'⟩
      .exact⟨rfl,rfl,.inl rfl⟩
   walk_at"rd";refine⟨_,Qo L hG,rfl,?_⟩
   by_cases hru:R.ru="refuse"
   .rw[Y2 (by rw[show({R with es:=aa}:WJ).ru=R.ru from rfl,hru];simp)];exact k6 fun z=>absurd hru z
   .rw[Y3 (by simpa using hru)];refine⟨LF hre,e.p,e.a,e.l,q,b,R.ru,e.rs,d,rfl,hre,hPG,_,rfl,Mv (fun hs=>?_) fun hs=>k6 fun _=>by simpa using hs⟩;refine⟨Ny (by simp),fun t G2 ht s2 e2=>⟨Ny (by simp),fun l G3 hl s3 e3=>?_⟩⟩;have hst:Jx R.ru e.rs d= .str:=by unfold Jx;rw[Y3 hs,Y2 hru]
    rw[hst]at q0;have s23:=s2.trans s3;have hn:=nxt aa R.ws (fun c o h j=>s23 c o (hkp c o h j)) (hG.mono s23) fun x g=>⟨x,g,rfl,rfl,.inl rfl⟩
    rw[habs]at hn;exact q0 _ l t tk G3 hn e3 (s3 _ _ e2) (s23 _ _ htkG)
  refine Ju fun N3 hN3=>?_
  walk_at"rd";have hkn:=hR.nk;have erl:(My R.es).length=R.es.length:=Y0 ..;have efl:(MP R.es).length=R.es.length:=Y0 ..;refine⟨_,EE L hR1,.inr (.inr (.inl ⟨rfl,.inr ⟨_,hR1.dR⟩⟩)),_,Qo L hR1,R.ru,rfl,fun p a l G2 hp2 ha2 hl2 s2 hRd=>?_⟩;have i:=hR1.mono s2;have ab:=s2 _ _ e1;refine⟨dr,rfl,NP d.key,_,i.dR,ab,DV (by lia),fun v hv=>hN3 _ _ ?_,fun hv G3 b3 e3=>hN3 _ _ ?_⟩ <;> clear hN3 N3
  .have hmem:d.key∈R.es.map (·.ky):=by
    by_cases h:d.key∈R.es.map (·.ky)
    .exact h
    .rw[Sd h]at hv;cases hv
   obtain⟨e,he,hek⟩:=Ya.mp hmem;have hek:e.ky=d.key:=hek;rw[<-hek,EU hkn he]at hv;cases hv;walk_at"rd";refine⟨_,Q0 L i,.inr (.inr (.inl ⟨rfl,.inr ⟨_,i.dF⟩⟩)),_,AD L i,df,rfl,NP d.key,_,i.dF,ab,DV (by lia),fun v hv=>?_,fun hv=>?_⟩
   .refine go R.es e G2 i (fun c o h _=>s2 c o (s1 c o h)) he hek (by rw[<-hek];exact(CS hkn he).symm) ?_ (fun x g=>⟨.inl ⟨x,g,rfl,rfl⟩,.inl ⟨x,g,rfl⟩⟩) (fun x g=>⟨x,g,rfl,rfl⟩) (hP1.mono s2) ab;rw[<-hek,CS hkn he,jC hkn he]
   .rw[<-hek,Cy hkn he]at hv;cases hv
  .have hmem:d.key∉R.es.map (·.ky):=fun h=>by
    obtain⟨e,he,hek⟩:=Ya.mp h;have hek:e.ky=d.key:=hek;rw[<-hek,EU hkn he]at hv;cases hv
   have hm3:∀o,G2 m=some o->G3 m=some o:=fun o h=>b3 m o h nm1
   have hf3:=b3 df _ i.dF (Ne.symm hR.n1);have htk3:=b3 tk _ ab (Wv ab i.dR nofun);walk_at"rd";refine⟨_,i.fldO hm3 L.cl L.firsts rfl,.inr (.inr (.inl ⟨rfl,.inr ⟨_,hf3⟩⟩)),_,i.fldO hm3 L.cl L.now rfl,df,rfl,NP d.key,_,hf3,htk3,DV (by lia),fun v hv=>?_,fun _ G4 b4 e4=>?_⟩
   .rw[nX hmem]at hv;cases hv
   .have kp:∀c o,G2 c=some o->c≠dr->c≠df->G4 c=some o:=fun c o h n1 n2=>b4 c o (b3 c o h n1) n2
    have off2:∀{p' a' l':Wo} {rs:RS},JP CR G2 p' a' l' R.ru rs->JP CR G4 p' a' l' R.ru rs:=fun h=>
     (h.offD (G:=G3) (fun c o h n=>b3 c o h n) i.dR).offD (G:=G4) (fun c o h n=>b4 c o h n) hf3
    obtain⟨dx,fs,hm,hl,hf⟩:=i.ex;have np':∀x∈R.es,x.p≠p/\x.a≠a:=fun x g=>by
     have r:=hR1.rd x g;obtain⟨_,_,hxp,_⟩:=r.ex;exact⟨No hxp hp2,No r.dk ha2⟩
    have nd:∀{β:Type} (f:RE->β),(R.es.map f).Nodup->(∀x∈R.es,f x≠f (⟨d.key,p,a,l,TN,R.now⟩:RE))->((R.es++[(⟨d.key,p,a,l,TN,R.now⟩:RE)]).map f).Nodup:=fun f h1 h2=>by
     rw[Yn,Xz];refine⟨h1,by simp,fun x g y hy z=>?_⟩;obtain⟨x0,hx0,rfl⟩:=Ya.mp g;have:y=f (⟨d.key,p,a,l,TN,R.now⟩:RE):=by simpa using hy
     exact h2 x0 hx0 (by rw[<-this];exact z)
    refine go (R.es++[(⟨d.key,p,a,l,TN,R.now⟩:RE)]) ⟨d.key,p,a,l,TN,R.now⟩ G4 ⟨⟨dx,fs,kp m _ hm nm1 nm2,hl,hf⟩,?_,?_,kp dw _ i.dW (Ne.symm hR.n2) (Ne.symm hR.n3),hR.n1,hR.n2,hR.n3,fun x g=>?_,nd (·.p) hR.np fun x g=>(np' x g).1,nd (·.a) hR.na fun x g=>(np' x g).2,nd (·.ky) hR.nk fun x g z=>hmem (Ya.mpr ⟨x,g,z⟩)⟩ (fun c o h j=>?_) (by simp) rfl (Lq hmem).symm ?_ (fun x g=>?_) (fun x g=>⟨x,YG _ g,rfl,rfl⟩) ?_ (kp tk _ ab (Wv ab i.dR nofun) (Wv ab i.dF nofun))
    .show G4 dr=some (.dT (My (R.es++[(⟨d.key,p,a,l,TN,R.now⟩:RE)])));rw[b4 dr _ e3 hR.n1];unfold My;rw[Yn];rfl
    .show G4 df=some (.dT (MP (R.es++[(⟨d.key,p,a,l,TN,R.now⟩:RE)])));rw[e4];unfold MP;rw[Yn];rfl
    .rcases Yj.mp g with z|z
     .exact off2 (i.rd x z)
     .rw[Y8.mp z];exact off2 hRd
    .exact kp c o (s2 c o (s1 c o h)) (fun z=>j (.inr (.inl z))) (fun z=>j (.inr (.inr (.inl z))))
    .unfold Jz;rw[Y2 (by rw[HU];exact hmem),Lq hmem];unfold J3;rw[Yn];rfl
    .rcases Yj.mp g with z|z
     .exact⟨.inl ⟨x,z,rfl,rfl⟩,.inl ⟨x,z,rfl⟩⟩
     .rw[Y8.mp z];exact⟨.inr ⟨s1.free hp2,s1.free ha2⟩,.inr (s1.free hl2)⟩
    .have hP2:=hP1.mono s2;obtain⟨dxq,fsq,hq⟩:=hP2.ins;exact⟨hP2.ok,hP2.ats.same fun o h=>kp q o h (Wv hq i.dR nofun) (Wv hq i.dF nofun),kp b _ hP2.bd (Wv hP2.bd i.dR nofun) (Wv hP2.bd i.dF nofun)⟩
theorem Wz.setNow{C CR m dr df dw dx:Wo}{H G:Hp}{R:WJ}{fs:List (Str×V)}{t:Int}(h:Wz C CR H m dr df dw R)(hm:H m=some (.ins C dx fs))(b:Jh m H G)(e:G m=some (.ins C dx (N0 "now" (.int t) fs))):Wz C CR G m dr df dw {R with now:=t}:=by
 obtain⟨dx',fs',c,hl,o⟩:=h.ex;rw[hm]at c;cases c;obtain⟨l,j,i,g⟩:=h.ne;have d:fs.lookup ("now":Str)=some (.int R.now):=by rw[o];rfl
 refine⟨⟨dx,_,e,by rw[Be d];exact hl,fun f=>?_⟩,b _ _ h.dR (Ne.symm l),b _ _ h.dF (Ne.symm j),b _ _ h.dW (Ne.symm i),h.n1,h.n2,h.n3,fun x n=>?_,h.np,h.na,h.nk⟩
 .by_cases hfn:f="now"
  .subst hfn;rw[TV];rfl
  .rw[WT hfn,o f];show List.lookup f (E6 R dr df dw)=List.lookup f (E6 {R with now:=t} dr df dw);have hb:(f==("now":Str))=false:=Xe.mpr hfn;simp only[E6,XZ,hb]
 .obtain⟨n1,n2,_⟩:=g x n;have r:=h.rd x n;obtain⟨s,p,w,v⟩:=r.ex;obtain⟨xs,a,hc⟩:=r.cv;exact⟨⟨s,p,b _ _ w (Ne.symm n1),v⟩,b _ _ r.dk (Ne.symm n2),xs,b _ _ a (Wv a hm nofun),hc.tk fun t ys q=>b _ _ q (Wv q hm nofun)⟩
theorem Jg.neM{C CR CP m dr df dw q b:Wo}{H:Hp}{R:WJ}{d:PD}(h:Wz C CR H m dr df dw R)(k:Jg CP H q b d):q≠m/\b≠m/\¬Gg R m dr df dw q/\¬Gg R m dr df dw b:=by
 obtain⟨dx,fs,l,_,o⟩:=h.ex;obtain⟨p,fs',a,n,_⟩:=k.ats;have c:=k.bd;have j:q≠m:=fun z=>by
  rw[z,l]at a;cases a;rw[o]at n;cases n
 have i:b≠m:=Wv c l nofun;refine⟨j,i,fun z=>?_,fun z=>?_⟩
 .rcases z with z|z|z|z|⟨e,he,z⟩
  .exact j z
  .exact Wv a h.dR nofun z
  .exact Wv a h.dF nofun z
  .exact Wv a h.dW nofun z
  .obtain⟨g,_,f,_⟩:=(h.rd e he).ne k;rcases z with z|z
   .exact g z
   .exact f z
 .rcases z with z|z|z|z|⟨e,he,z⟩
  .exact i z
  .exact Wv c h.dR nofun z
  .exact Wv c h.dF nofun z
  .exact Wv c h.dW nofun z
  .obtain⟨_,g,_,f⟩:=(h.rd e he).ne k;rcases z with z|z
   .exact g z
   .exact f z
theorem MX.tup{C CR m dr df dw c:Wo}{H G:Hp}{R:WJ}{xs:List V}(h:Wz C CR H m dr df dw R)(k:MX R m dr df dw H G)(hc:H c=some (.tup xs)):G c=some (.tup xs):=by
 refine k c _ hc fun z=>?_
 obtain⟨dx,fs,b,_⟩:=h.ex;rcases z with z|z|z|z|⟨e,he,z⟩
 .rw[z,b]at hc;cases hc
 .rw[z,h.dR]at hc;cases hc
 .rw[z,h.dF]at hc;cases hc
 .rw[z,h.dW]at hc;cases hc
 .have r:=h.rd e he;obtain⟨_,_,a,_⟩:=r.ex;rcases z with z|z
  .rw[z,a]at hc;cases hc
  .rw[z,r.dk]at hc;cases hc
def RC(ps:List (Int×Ky)):List Ev:=ps.map fun p=>.gone p.2 "wait"
def MU(R:WJ)(t:Int):WJ:={R with now:=t,es:=B7 {R with now:=t}}
theorem Do.evs{CL:Wo}{G:Hp}{l:Wo}{ps:List (Int×Ky)}(h:Do G l (ps.map (·.2)) "wait"):R8 CL G l (RC ps):=by
 obtain⟨i,h1,h2,g⟩:=h;rw[Y0]at h1;refine⟨_,h2,by unfold RC;rw[Y0,Y0,h1],fun j x y a b=>?_⟩;unfold RC at b;rw[Yc]at a b;obtain⟨t,e,rfl⟩:=YA.mp a;obtain⟨p,f,rfl⟩:=YA.mp b;obtain⟨d,c⟩:=g j t p.2 e (by rw[Yc,f];rfl);exact⟨t.1,t.2,rfl,d,c⟩
inductive BW(C CR CP CL:Wo)(vs:List V)(H:Hp)(Q:VK)(E:XK):Prop|mk (m dr df dw q b:Wo) (R:WJ) (d:PD) (t:Int) (_:vs=[.ref m,.int t,.ref q]) (_:Wz C CR H m dr df dw R) (_:Jg CP H q b d) (_:R.now <=t) (_:R.es.length < 64) (_:R.ws.length <=1000) (_:(∀e∈R.es,e.rs.st.length <=10000/\e.rs.cv.length <=800/\Tc e.rs)) (_:(GZ (MU R t) d.key=false->∀rs,Jx R.ru (Nw (MU R t).es d.key) d= .keep rs->RB (Jz (J3 (MU R t).es) d.key rs t) <=R.sp)) (_:∀ (ps:List (Int×Ky)) R' l G,ps.Perm (D2 {R with now:=t})->ps.Pairwise (fun a b=>R1 b a=false)->H l=none->TC C CR H G m dr df dw {R with now:=t} R' (Tz (MU R t) d).1 (Tz (MU R t) d).2.1->R8 CL G l (RC ps++(Tz (MU R t) d).2.2)->Q (.ref l) G)
abbrev KR:Stmt:=Tr (top 49) 1
theorem P7:Jv ["self","time","piece","events"] ["self","time","piece"] (Wt KR):=by walk_at"e"
theorem w5{f C CR CP CL:Wo}{fd:Wj}(F:JL K "come" "Room.come" KR f fd)(L:Mn K C)(LP:D5 K CP)(B:Bt mg)(gC_Piece:mg "Piece"=some (.ref CP))(ic_Piece:GN K CP)
  (JG:Nq P w K mg base C "check_time" 3 ["self","time"] [] (KU C CR)) (JQ:Nq P w K mg base C "end_waits" 2 ["self"] [] (L0 C CR)) (Nd:Nq P w K mg base C "take_in" 8 ["self","piece"] [] (Iy C CR CP CL)):WA P w K mg base Je 9 f fd ["self","time","piece"] (BW C CR CP CL):=by
 have cl_Piece:=LP.cl;refine F.ok P7 (fun vs H Q E h=>?_) (fun cdv A outer s H vs Q E hr h=>?_)
 .obtain⟨m,dr,df,dw,q,b,R,d,t,rfl,_⟩:=h;rfl
 .obtain⟨m,dr,df,dw,q,b,R,d,t,rfl,hR,hP,ht,hel,hwl,hes,qk,q0⟩:=h;refine⟨_,(WN (MB (Mz (Wu 0) JG hr.m (WH 1 Wy))) (WN (Nf (TL (Te (Nh (Q8 (K:=K) rfl cl_Piece ic_Piece) B.isinstance (WH 2 (JM (hs:=MC) (Gz (v:=.ref CP) rfl gC_Piece rfl) Wy))))) Gm Nr) (WN (Mm (K:=K) rfl (Wu 0) (Wu 1) rfl) (WN (NL 3 P7 (Mu (Wu 0) JQ hr.m)) (WN (MB (Dt (K:=K) rfl YL PySem.F.slot_list_extend PySem.F.type_list_extend (m8 tM) (Wu 3) (Mj (Mz (Wu 0) Nd hr.m (WH 2 Wy)) Wy))) (WV (Jr (Wu 3)))))))),?_⟩;obtain⟨dxq,fsq,hq⟩:=hP.ins;obtain⟨dx,fs,hm,hl,hf⟩:=hR.ex;obtain⟨nqm,nbm,nq,nb⟩:=Jg.neM hR hP;obtain⟨nm1,nm2,nm3,nme⟩:=hR.ne;refine Ju fun N hN=>?_
  walk_at"rd";refine⟨hR.mt rfl,m,dr,df,dw,R,t,rfl,hR,ht,hN _ _ ?_⟩;clear hN N;refine Ju fun N hN=>?_
  walk_at"rd";refine⟨dxq,fsq,hq,hN _ _ ?_⟩;clear hN N;refine Ju fun N hN=>?_
  walk_at"rd";refine⟨C,dx,fs,hm,L.cl,L.now,by lia,fun G1 b1 e1=>hN _ _ ?_⟩;clear hN N;have i:=hR.setNow hm b1 e1;have hP1:=hP.but b1 nqm nbm;refine Ju fun N hN=>?_
  walk_at"rd";refine⟨i.mt rfl,m,dr,df,dw,{R with now:=t},rfl,i,hel,fun ps l G2 hpp hps g k2 hR2 hE=>hN _ _ ?_⟩;clear hN N;walk_at"rd";have hR2:Wz C CR G2 m dr df dw (MU R t):=hR2;have hl0:H l=none:=b1.free g (Ne.symm (No e1 g));have hst:∀e∈(MU R t).es,e∈R.es:=fun e he=>(YZ.mp he).1
  obtain⟨dxq1,fsq1,hq1⟩:=hP1.ins;have hP2:Jg CP G2 q b d:=⟨hP1.ok,hP1.ats.same fun o h=>k2 q o h (Wv hq1 i.dR nofun) (Wv hq1 i.dF nofun),k2 b _ hP1.bd (Wv hP1.bd i.dR nofun) (Wv hP1.bd i.dF nofun)⟩;obtain⟨xs0,e2,hx0⟩:=(hE.evs:R8 CL G2 l (RC ps));have el:∀e∈R.es,e.l≠l:=fun e he=>by
   obtain⟨ys,hy,_⟩:=(i.rd e he).cv;exact No hy g
  have nl:¬Gg (MU R t) m dr df dw l:=fun z=>by
   rcases z with z|z|z|z|⟨e,he,z⟩
   .rw[z,e1]at g;cases g
   .rw[z,i.dR]at g;cases g
   .rw[z,i.dF]at g;cases g
   .rw[z,i.dW]at g;cases g
   .have r:=i.rd e (hst e he);obtain⟨_,_,hpe,_⟩:=r.ex;rcases z with z|z
    .rw[z,hpe]at g;cases g
    .rw[z,r.dk]at g;cases g
  have hxl:xs0.length <=1000:=by
   have h1:ps.length=(List.filter (Js {R with now:=t}) R.es).length:=hpp.length_eq.trans (Y0 ..);have h2:=Xh (Js {R with now:=t}) R.es;have h3:xs0.length=ps.length:=hx0.1.trans (Y0 ..);have h2:(List.filter (Js {R with now:=t}) R.es).length <=R.es.length:=h2
   lia
  refine⟨.inl ⟨rfl,_,WB.of e2⟩,hR2.mt rfl,m,dr,df,dw,q,b,MU R t,d,rfl,hR2,hP2,?_,hwl,fun e he=>hes e (hst e he),qk,fun R' l3 G3 hn hE3=>?_⟩
  .have:=Xh (fun e=> !Js {R with now:=t} e) R.es;show(List.filter (fun e=> !Js {R with now:=t} e) R.es).length <=900
   lia
  obtain ⟨xs3, e3, hx3⟩ := hE3;have hl3 : G3 l = some (.lst xs0) := hn.kp l _ e2 nl;have hx0' : Pw (Ik CL G3) xs0 (RC ps) := ⟨hx0.1, fun j x y a b => by
   have h1 := hx0.2 j x y a b;unfold RC at b;rw [Yc] at b;obtain ⟨p, hp, rfl⟩ := YA.mp b;obtain ⟨t1, tk, z1, z2, z3⟩ := h1;exact ⟨t1, tk, z1, hn.kp.tup hR2 z2, hn.kp.tup hR2 z3⟩⟩
  have hlen3:xs3.length <=1:=by
   rw[hx3.1];unfold Tz
   split
   .exact Y5 _
   .split <;> first|exact Y5 _|exact Yy _
  refine⟨l3,rfl,_,hl3,_,e3,YH (show _ <=1001 by lia) (Ny (n:=1001) (by decide)),fun G4 b4 e4=>?_⟩;refine q0 ps R' l G4 hpp hps hl0 ?_ ⟨_,e4,(hx0'.app hx3).imp fun x y h=>?_⟩
  .have hnl:∀e∈R'.es,e.l≠l:=fun e he=>by
    rcases hn.nl e he with⟨e0,h0,z⟩|z
    .rw[z];exact el e0 (hst e0 h0)
    .exact fun q=>by rw[q,e2]at z;cases z
   have frm:∀{c:Wo},G2 c=none->H c=none:=fun {c} hc=>by
    cases h:H c with
    |none=>rfl
    |some o=>
     by_cases hcm:c=m
     .rw[hcm]at hc;obtain⟨_,_,z,_⟩:=hR2.ex;rw[z]at hc;cases hc
     .by_cases h1:c=dr
      .rw[h1,hR2.dR]at hc;cases hc
      .by_cases h2:c=df
       .rw[h2,hR2.dF]at hc;cases hc
       .rw[k2 c o (b1 c o h hcm) h1 h2]at hc;cases hc
   refine⟨fun c o h hc=>b4 c o (hn.kp c o (k2 c o (b1 c o h fun z=>hc (.inl z)) (fun z=>hc (.inr (.inl z))) (fun z=>hc (.inr (.inr (.inl z))))) (fun z=>hc ?_)) (No h hl0),hn.ok.butL b4 hl3 hnl,hn.es,hn.ws',hn.pr,fun e he=>?_,fun e he=>?_⟩
   .rcases z with z|z|z|z|⟨e,he,z⟩
    .exact .inl z
    .exact .inr (.inl z)
    .exact .inr (.inr (.inl z))
    .exact .inr (.inr (.inr (.inl z)))
    .exact .inr (.inr (.inr (.inr ⟨e,hst e he,z⟩)))
   .rcases hn.nw e he with⟨e0,h0,z⟩|⟨z1,z2⟩
    .exact .inl ⟨e0,hst e0 h0,z⟩
    .exact .inr ⟨frm z1,frm z2⟩
   .rcases hn.nl e he with⟨e0,h0,z⟩|z
    .exact .inl ⟨e0,hst e0 h0,z⟩
    .exact .inr (frm z)
  .have k4:∀{c:Wo} {xs:List V},G3 c=some (.tup xs)->G4 c=some (.tup xs):=fun {c xs} h=>b4 c _ h (Wv h hl3 nofun)
   cases y with
   |gone k w=>obtain⟨t1,tk,z1,z2,z3⟩:=h;exact⟨t1,tk,z1,k4 z2,k4 z3⟩
   |late k=>obtain⟨t1,tk,z1,z2,z3⟩:=h;exact⟨t1,tk,z1,k4 z2,k4 z3⟩
   |strange k=>obtain⟨t1,tk,z1,z2,z3⟩:=h;exact⟨t1,tk,z1,k4 z2,k4 z3⟩
   |whole d'=>
    obtain⟨t1,pl,bl,z1,z2,hL⟩:=h;obtain⟨dxL,fsL,hpl⟩:=hL.ins;have nbl:bl≠l:=fun z=>by
     have hbl:=hL.bd;rw[z,hl3]at hbl;injection hbl with hbl;injection hbl with hbl;have h1:=hL.ok.l1;have hlt:0 < d'.ns.length:=h1;have ex:xs0[0]?=some (.int d'.ns[0]):=by rw[hbl,Yc,Y6 hlt];rfl
     obtain⟨y,hy,hR'⟩:=hx0'.get ex;unfold RC at hy;rw[Yc]at hy;obtain⟨p,_,rfl⟩:=YA.mp hy;obtain⟨_,_,z1,_⟩:=hR';cases z1
    exact⟨t1,pl,bl,z1,k4 z2,hL.ok,hL.ats.same fun o e=>b4 pl o e (Wv hpl hl3 nofun),b4 _ _ hL.bd nbl⟩
end
theorem SX(es:List RE):(My es).map (·.1)=(es.map (·.ky)).map fun k=>[Sum.inl k.1,Sum.inr k.2.1,Sum.inr k.2.2]:=by
 unfold My;rw[YM,YM];rfl
section
variable{P:Wh}{w:Wl}{K:Wm}{mg:Wd}{base:Wr}
def vX(G:Hp)(l:Wo)(ks:List Ky):Prop:=∃ts:List Addr,ts.length=ks.length/\G l=some (.lst (ts.map V.ref))/\∀ (i:Nat) t k,ts[i]?=some t->ks[i]?=some k->G t=some (.tup (D4 k))
inductive Lf(C CR:Wo)(vs:List V)(H:Hp)(Q:VK)(E:XK):Prop|mk (m dr df dw:Wo) (R:WJ) (_:vs=[.ref m]) (_:Wz C CR H m dr df dw R) (_:R.es.length < 64) (_:∀ (ks:List Ky) l G,ks.Perm (R.es.map (·.ky))->ks.Pairwise (fun a b=>Mi b a=false)->H l=none->Ww H G->vX G l ks->Q (.ref l) G)
abbrev Ib:Stmt:=Tr (top 49) 3
theorem ZT:Jv ["self"] ["self"] (Wt Ib):=by walk_at"e"
theorem vU{f C CR:Wo}{fd:Wj}(F:JL K "kept" "Room.kept" Ib f fd)(L:Mn K C)(B2:BE mg):WA P w K mg base Je 1 f fd ["self"] (Lf C CR):=by
 refine F.ok ZT (fun vs H Q E h=>?_) (fun z A g s H vs Q E o h=>?_)
 .obtain⟨m,dr,df,dw,R,rfl,_⟩:=h;rfl
 .obtain⟨m,dr,df,dw,R,rfl,e,r,q⟩:=h;refine⟨_,(WV (Jr (Nh (mS rfl (Room.units o)) B2.sorted (MK (JK K (Wu 0)) Wy)))),?_⟩;walk_at"rd";refine⟨_,EE L e,dr,rfl,_,e.dR,R.es.map (·.ky),SX _,by rw[Y0];exact r,fun ks j l G p hs c n d s1 v=>?_⟩;exact q ks l G p hs d s1 ⟨j,c,v,fun i t k a b=>s1 _ _ (n i t k a b)⟩
inductive Kg(K:Wm)(vs:List V)(H:Hp)(Q:VK)(E:XK):Prop|mk (a:Wo) (ns:Wp) (k:Nat) (_:vs=[.ref a,.int (k:Int)]) (_:WB K H a (ns.map V.int)) (_:∀c,Q (.int c) H)
abbrev Iu:Stmt:=top 51
theorem uJ:Jv ["_law_script","_law_k"] ["_law_script","_law_k"] (Wt Iu):=by walk_at"e"
theorem vS{f:Wo}{fd:Wj}(F:JL K "_law_cell_at" "_law_cell_at" Iu f fd)(B:Bt mg):WA P w K mg base Je 1 f fd ["_law_script","_law_k"] (Kg K):=by
 refine F.ok uJ (fun vs H Q E h=>?_) (fun i A e s H vs Q E j h=>?_)
 .obtain⟨a,b,k,rfl,_⟩:=h;rfl
 .obtain⟨a,b,k,rfl,c,q⟩:=h;refine⟨_,(WN (Nf (T3 (Nm ER) (Wu 1) (Nh (D6 (D3 (K:=K) rfl)) B.len (WH 0 Wy))) (WV (Jr (Me K (Wu 0) (Wu 1)))) Nr) (WV (Jr J1))),?_⟩;walk_at"rd";refine⟨_,.inl c,Mv (fun d=>?_) (fun d=>q 0)⟩;rw[Y9,Y0]at d;have g:k < b.length:=by lia
  exact⟨_,c,.int b[k],Ry (by rw[Yc,Y6 g];rfl),q _⟩
inductive IT(vs:List V)(H:Hp)(Q:VK)(E:XK):Prop|mk (c k:Int) (_:vs=[.int c,.int k]) (_:0 <=k) (_:k <=100000) (_:∀m:Int,0 <=m->m < 2147483399->Q (.int m) H)
abbrev Ki:Stmt:=top 52
theorem Kx:Jv ["_law_cell","_law_k","_law_number"] ["_law_cell","_law_k"] (Wt Ki):=by walk_at"e"
theorem nM{f:Wo}{fd:Wj}(F:JL K "_law_mixed" "_law_mixed" Ki f fd):WA P w K mg base Je 1 f fd ["_law_cell","_law_k"] IT:=by
 refine F.ok Kx (fun vs H Q E h=>?_) (fun d A a s H vs Q E e h=>?_)
 .obtain⟨c,k,rfl,_⟩:=h;rfl
 .obtain⟨c,k,rfl,g,h1,q⟩:=h;refine⟨_,(WN (NL 2 Kx (JJ (dI MO) (JJ (dI GQ) (JJ (Nm MY) (JJ (Nm MY) (JJ (dI MO) (Wu 0) J1) (JJ (dI GQ) J1 (Wu 1))) J1) J1) J1)) (WN (NL 2 Kx (JJ (dI MO) (JJ (dI GQ) (Wu 2) (JJ (Nm MY) (JJ (dI B1) (Wu 2) J1) J1)) J1)) (WV (Jr (JJ (dI MO) (JJ (dI GQ) (JJ (Nm MY) (Wu 2) (JJ (dI GQ) J1 (Wu 1))) (JJ (Nm MY) (JJ (dI B1) (Wu 2) J1) J1)) J1))))),?_⟩;walk_at"rd";have b:∀x y:Int,Gy (x%2147483647+ 7*k) y:=fun x y=>.inl ⟨by lia,by lia⟩
  refine⟨by decide,.inl ⟨by decide,by decide⟩,.inr ⟨by decide,by decide⟩,by decide,⟨by decide,by decide⟩,vK _ _,by decide,.inl ⟨by decide,by decide⟩,⟨by decide,by decide⟩,b _ _,by decide,?_⟩;exact q _ (V8 _ (by decide)) (Vn _ (by decide))
inductive OZ(C:Wo)(vs:List V)(H:Hp)(Q:VK)(E:XK):Prop|mk (d:PD) (b:Wo) (_:vs=[.int d.nu,.str d.z1,.str d.z2,.int d.at',.ref b,.bl d.mo]) (_:d.k=false) (_:d.Ok) (_:H b=some (.lst (d.ns.map V.int))) (_:∀p b' G,H p=none->H b'=none->Ww H G->Jg C G p b' d->Q (.ref p) G)
theorem Zt{C:Wo}(F:Dx P w K mg base "Piece" C 6 ["self","number","sender","goal","at","body","more","keep"] [.bl false] (Ba C)):MZ P w K mg base "Piece" 6 (OZ C):=by
 refine F.ct fun vs H Q h y dx G a v z s j=>?_
 obtain⟨d,b,rfl,g,ok,c,q⟩:=h;obtain⟨f,n⟩:=PF (k:=d.k) ok.n0 ok.n1 ok.k1 ok.k2 (s b _ c) ok.l1 ok.l2 ok.by'
 exact⟨y,dx,_,_,_,d.at',b,d.mo,_,_,by rw[g];rfl,j,f,n,by simp[ET,ok.a0,ok.a8],s b _ c,by rw[Y0];exact ok.rm,fun H' r l h1 h2 i p=>⟨rfl,q y r H' a (s.free l) (fun d o e=>p d o (s d o e) (No e a)) ⟨ok,i,h2⟩⟩⟩
def WG(B:Wp)(w k:Nat):PD:={nu:=9,z1:="ann",z2:="bo",at':=((w*k:Nat):Int),ns:=(B.drop (w*k)).take w,mo:=decide (w*k+ w < B.length),k:=false}
structure Jq(B:Wp)(w n:Nat):Prop where
 l1:1000 <=B.length
 l2:B.length <=4000
 by':∀x∈B,0 <=x/\x <=255
 w1:24 <=w
 w2:w <=160
 w8:8 ∣ w
 n1:w*(n - 1) < B.length
 n2:B.length <=w*n
 n0:1 <=n
theorem Sg(xs:List V)(lo hi:Nat):Rh xs (some (lo:Int)) (some (hi:Int))=(xs.drop lo).take (hi - lo):=by
 unfold Rh HT.sIx;simp only;rw[Y2 (by lia),Y2 (by lia),X6,X6]
 by_cases h:lo <=xs.length
 .rw[U8 h]
  by_cases h2:hi <=xs.length
  .rw[U8 h2]
  .rw[Nat.min_eq_right (by lia),YD (by rw[YQ];lia),YD (by rw[YQ];lia)]
 .rw[UO (by lia),UO (by lia)];simp
theorem uM:N6 "ann":=by unfold N6;decide +kernel
theorem Z5:N6 "bo":=by unfold N6;decide +kernel
theorem PR{B:Wp}{w k:Nat}(l2:B.length <=4000)(by':∀x∈B,0 <=x/\x <=255)(w1:24 <=w)(w2:w <=160)(w8:8 ∣ w)(h:w*k < B.length):(WG B w k).Ok:=by
 obtain⟨v,rfl⟩:=w8;have b:((B.drop (8*v*k)).take (8*v)).length=min (8*v) (B.length - 8*v*k):=by rw[Yu,YQ]
 have c:8*v*k=8*(v*k):=Nat.mul_assoc ..;refine⟨by show(0:Int) <=9;decide,by show(9:Int) <=65535;decide,uM,Z5,?_,?_,fun x a=>by' x (Xm (YX a)),Int.natCast_nonneg _,?_,?_⟩
 .show 1 <=((B.drop (8*v*k)).take (8*v)).length;lia
 .show((B.drop (8*v*k)).take (8*v)).length <=4000;lia
 .show((8*v*k:Nat):Int)%8=0;rw[c];lia
 .show RL ((8*v*k:Nat):Int) (((B.drop (8*v*k)).take (8*v)).length:Nat) (decide (8*v*k+ 8*v < B.length))=true;unfold RL;rw[b]
  by_cases q:8*v*k+ 8*v < B.length
  .rw[Yq q,Y3 rfl,YR,Y9,Y9]
   lia
  .rw[Yt q,Y2 (by decide),Y9]
   lia
theorem tQ{m w:Nat}(hw:0 < w)(hm:0 < m):∃n,R9 0 (m:Int) (w:Int)=n/\1 <=n/\w*(n - 1) < m/\m <=w*n:=by
 refine⟨_,rfl,?_⟩;have e:R9 0 (m:Int) (w:Int)=(m - 1) / w+ 1:=by
  unfold R9 Builtin.Range.rangeSize;rw[Y3 (by lia),Y3 (by lia)];have:((m:Int) - 0 - 1)=((m - 1:Nat):Int):=by lia
  rw[this,<-Int.natCast_ediv];generalize (m - 1) / w=q
  lia
 rw[e];have h1:=Nat.div_add_mod (m - 1) w;have h2:=Nat.mod_lt (m - 1) hw;generalize (m - 1) / w=q at h1 ⊢;generalize (m - 1)%w=r at h1 h2;refine⟨by lia,?_,?_⟩
 .rw[Nat.add_sub_cancel];lia
 .rw[Nat.mul_add,Nat.mul_one];lia
def Rt(CP:Wo)(B:Wp)(w:Nat)(G:Hp)(qs:List (Addr×Addr)):Prop:=∀ (k:Nat) (q b:Wo),qs[k]?=some (q,b)->Jg CP G q b (WG B w k)
inductive IQ(CP:Wo)(vs:List V)(H:Hp)(Q:VK)(E:XK):Prop|mk (c:Int) (_:vs=[.int c]) (_:∀ (t lb lp:Wo) (B:Wp) (w n:Nat) (qs:List (Addr×Addr)) G,H t=none->H lb=none->H lp=none->Ww H G->Jq B w n->qs.length=n->(∀p∈qs,H p.1=none/\H p.2=none)->Rt CP B w G qs->G t=some (.tup [.ref lb,.ref lp])->G lb=some (.lst (B.map V.int))->G lp=some (.lst (qs.map fun p=>V.ref p.1))->(∀p∈qs,p.2≠lb/\p.2≠lp)->Q (.ref t) G)
abbrev Ae:Stmt:=top 54
theorem Eb:Jv ["_law_cell","_law_many","_law_body","_law_width","_law_found","_law_at"] ["_law_cell"] (Wt Ae):=by walk_at"e"
theorem uW{f CP:Wo}{fd:Wj}(F:JL K "_law_pieces" "_law_pieces" Ae f fd)(B:Bt mg)(B3:CM mg)(NC:Nt P w K mg base "_law_mixed" 1 ["_law_cell","_law_k"] [] IT)(Dd:MZ P w K mg base "Piece" 6 (OZ CP)):WA P w K mg base Je 8 f fd ["_law_cell"] (IQ CP):=by
 refine F.ok Eb (fun vs H Q E h=>?_) (fun cdv A outer s H vs Q E hr h=>?_)
 .obtain⟨c,rfl,_⟩:=h;rfl
 .obtain⟨c,rfl,q⟩:=h;refine⟨_,(WN (NL 1 Eb (JJ (Nm MY) J1 (JJ (dI MO) (N7 NC hr.m rfl (WH 0 (Nz J1 Wy))) J1))) (WN (Bm (Nf (T3 (Gn Gx) (JJ (dI MO) (Wu 0) J1) J1) (WV (NL 1 Eb J1)) Nr)) (WN (At (i:=2) (N':=["_law_k","_law_cell"]) (caps:=[none,some 0]) (DP (sc:=Wt Ae) (N:=["_law_cell","_law_many","_law_body","_law_width","_law_found","_law_at"]) rfl rfl (by decide +kernel)) rfl (Eb).nd rfl (Or.inl rfl) (RY rfl B.range (WH 1 Wy)) (fun _ _ _ _ _=>(Dk (i:=0) (DS (N:=["_law_k","_law_cell"]) rfl (by decide +kernel)) rfl (Or.inl rfl))) (fun _ _ _ _ _=>GW) (fun _ _ _ _ _=>(JJ (dI MO) (JJ (Nm MY) (JJ (Nm MY) (JJ (dI GQ) (Wu 0) (Wu 0)) (JJ (dI B1) (Wu 0) J1)) (Wu 1)) J1)) rfl) (WN (NL 3 Eb (JJ (Nm MY) J1 (JJ (dI GQ) J1 (JJ (dI MO) (N7 NC hr.m rfl (WH 0 (Nz J1 Wy))) J1)))) (WN (NL 4 Eb (TD Wy)) (WN (Gi X4 rfl (uF rfl B.range (Nz J1 (WH 1 (WH 3 Wy)))) (Mw 5 Eb) (WV (MB (Dt (K:=K) rfl YL YS YT (R4 Rj) (Wu 4) (Mj (Rs Dd hr.m rfl (Nz J1 (Nz TH (Nz TH (WH 5 (MQ (d8 (dO (gK (K:=K) rfl)) (Wu 2) (Pu (Wu 5)) (Pu (JJ (Nm MY) (Wu 5) (Wu 3)))) (JM (hs:=Ap) (TF (Nm ER) (JJ (Nm MY) (Wu 5) (Wu 3)) (Wu 1) (M0 _)) Wy))))))) Wy))))) (WV (Jr (MI (WH 2 (WH 4 Wy))))))))))),?_⟩;refine Ju fun N a=>?_
  walk_at"rd";refine⟨c,0,rfl,by decide,by decide,fun m0 a0 a1=>⟨_,rfl,by decide,a _ _ ?_⟩⟩;clear a N;refine Ju fun N a=>?_
  walk_at"rd";refine⟨by decide,rfl,fun σ' H'=>H'=H/\∃m:Nat,1000 <=m/\m <=4000/\σ'=[some (V.int c),some (V.int (m:Int)),none,none,none,none],?_,?_⟩
  .split
   .exact⟨rfl,4000,by decide,by decide,rfl⟩
   .exact⟨rfl,(1000+ m0%3001).toNat,by lia,by lia,by rw[W8 (by lia)]⟩
  rintro σ' H' ⟨rfl,m,hm1,hm2,rfl⟩;refine a _ _ ?_;clear a N;refine Ju fun N a=>?_
  walk_at"rd";refine⟨by lia,by lia,?_⟩;rw[X6];obtain⟨Pv,d⟩:∃Pv:Nat->List V->L2.St->Hp->Prop,Pv=fun i ys σ' G=>∃ (ns:Wp) (v:Option V),ys=ns.map V.int/\ns.length=i/\(∀x∈ns,0 <=x/\x <=255)/\σ'=[v,some (.int c)]/\G=H':=⟨_,rfl⟩
  refine He Pv (by rw[d];exact⟨[],none,rfl,rfl,(fun _ h=>nomatch h),rfl,rfl⟩) ?_ (by rw[Ym];lia) ?_ ?_ <;> rw[d]
  .rintro i ys σ' G ⟨ns,v,rfl,hl,_⟩ _;rw[Y0];lia
  .rintro i ys σ' G hi ⟨ns,v,rfl,hl,hw,rfl,rfl⟩;rw[<-d];walk_at"rd";refine⟨.inl ⟨by lia,by lia⟩,⟨by decide,by decide⟩,by decide,?_⟩;rw[d];refine⟨ns++[_],_,by rw[Yn];rfl,by simp[hl],fun x g=>?_,rfl,rfl⟩;rcases Yj.mp g with z|z
   .exact hw x z
   .rw[Y8.mp z];lia
  rintro ys σ' H0 ⟨l,v,rfl,hl,hw,rfl,rfl⟩ lb G1 hlb s1 eB;refine a _ _ ?_;clear a N;refine Ju fun N a=>?_
  walk_at"rd";refine⟨c,1,rfl,by decide,by decide,fun m1 b0 b1=>⟨_,rfl,by decide,.inl ⟨by decide,by decide⟩,a _ _ ?_⟩⟩;clear a N;obtain⟨wd,hwd,w1,w2,w8⟩:∃wd:Nat,24+ 8*(m1%18)=(wd:Int)/\24 <=wd/\wd <=160/\8 ∣ wd:=⟨(24+ 8*(m1%18)).toNat,by lia,by lia,by lia,by lia⟩;rw[hwd];refine Ju fun N a=>?_
  walk_at"rd";refine⟨by decide,fun r G2 hlp s2 eP=>a _ _ ?_⟩;clear a N;refine Ju fun N a=>?_
  walk_at"rd";refine⟨by decide,by decide,by lia,by lia,by lia,by lia,?_⟩;obtain⟨n,hn,n0,n1,n2⟩:=tQ (m:=m) (w:=wd) (by lia) (by lia);rw[hn];have n3:n <=4001:=by
   have:1*(n - 1) <=wd*(n - 1):=V9 _ (by lia)
   lia
  have hlb2:lb≠r:=fun z=>by rw[z]at eB;rw[eB]at hlp;cases hlp
  obtain⟨Pv,d⟩:∃Pv:Nat->L2.St->Hp->Prop,Pv=fun i σ' G=>∃ (qs:List (Addr×Addr)) (v:Option V),qs.length=i/\σ'=[some (V.int c),some (V.int (m:Int)),some (.ref lb),some (V.int (wd:Int)),some (.ref r),v]/\Jh r G2 G/\G r=some (.lst (qs.map fun p=>V.ref p.1))/\(∀p∈qs,(H0 p.1=none/\H0 p.2=none)/\p.2≠lb/\p.2≠r/\p.1≠r)/\Rt CP l wd G qs:=⟨_,rfl⟩
  refine ZY Pv (by rw[d];exact⟨[],none,rfl,rfl,fun b o e _=>e,eP,(fun _ h=>nomatch h),fun k q b h=>by cases h⟩) ?_ ?_ <;> rw[d]
  .rintro i σ' G hi ⟨qs,v,hql,rfl,bG,eL,fr,ps⟩;rw[<-d];walk_at"rd";have eLb:G lb=some (.lst (l.map V.int)):=bG _ _ (s2 _ _ eB) hlb2;have hk:wd*i < l.length:=by
    have:wd*i <=wd*(n - 1):=X2 _ (by lia)
    lia
   have ok:=PR (B:=l) (w:=wd) (k:=i) (by lia) hw w1 w2 w8 hk;have e1:(0:Int)+ (i:Int)*(wd:Int)=((wd*i:Nat):Int):=by rw[U1,Int.natCast_mul,Int.mul_comm]
   rw[e1];refine⟨.inl ⟨rfl,_,WB.of eL⟩,_,WB.of eLb,fun p G3 hp s3 e3=>?_⟩;have e4:Rh (l.map V.int) (some ((wd*i:Nat):Int)) (some (((wd*i:Nat):Int)+ (wd:Int)))=(WG l wd i).ns.map V.int:=by
    rw[show((wd*i:Nat):Int)+ (wd:Int)=((wd*i+ wd:Nat):Int) by lia];have:=Sg (l.map V.int) (wd*i) (wd*i+ wd);rw[this,VL,<-List.map_drop,<-List.map_take];rfl
   rw[e4]at e3;have e5:decide (((wd*i:Nat):Int)+ (wd:Int) < (m:Int))=(WG l wd i).mo:=by
    show _=decide (wd*i+ wd < l.length);rw[hl];exact decide_eq_decide.mpr (by lia)
   rw [e5];refine ⟨WG l wd i, p, rfl, rfl, ok, e3, fun q b G4 hq hb s4 hP => ?_⟩;have eL4 := s4 _ _ (s3 _ _ eL);refine ⟨_, eL4, by rw [Y0, Ym]; lia, fun G5 b5 e5 => ?_⟩;have fH : ∀ {x}, G3 x = none -> H0 x = none := fun {x} h => (s1.trans s2).free (by
    cases z:G2 x with
    |none=>rfl
    |some o=>
     by_cases g:x=r
     .subst g;rw[s3 _ _ eL]at h;cases h
     .rw [s3 _ _ (bG _ _ z g)] at h; cases h)
   have nL:∀{x},G3 x=none->x≠r:=fun h z=>by rw[z,s3 _ _ eL]at h;cases h
   have nB:∀{x},G3 x=none->x≠lb:=fun h z=>by rw[z,s3 _ _ eLb]at h;cases h
   rw[d];refine⟨qs++[(q,b)],_,by simp[hql],rfl,fun x o e g=>b5 _ _ (s4 _ _ (s3 _ _ (bG _ _ e g))) g,by rw[e5,Yn];rfl,fun x g=>?_,fun k q' b' j=>?_⟩
   .rcases Yj.mp g with z|z
    .exact fr x z
    .rw[Y8.mp z];exact⟨⟨fH hq,fH hb⟩,nB hb,nL hb,nL hq⟩
   .rw[Xy]at j
    split at j
    .have hm:=fr _ (Yw j);exact((ps k q' b' j).mono (s3.trans s4)).but b5 hm.2.2.2 hm.2.2.1
    .rename_i hge
     have:k=qs.length:=by
      have:=(Y4.mp j).1;simp at this;lia
     subst this;rw[VH]at j;cases j;rw[hql];exact hP.but b5 (nL hq) (nL hb)
  .rintro σ' G ⟨qs, v, hql, rfl, bG, eL, fr, ps⟩;refine a _ _ ?_;clear a N;walk_at"rd";refine ⟨by rw [Ym]; decide, fun t G6 ht s6 e6 => ?_⟩;have fH : ∀ {x}, G x = none -> H0 x = none := fun {x} h => (s1.trans s2).free (by
    cases z:G2 x with
    |none=>rfl
    |some o=>
     by_cases g:x=r
     .subst g;rw[eL]at h;cases h
     .rw [bG _ _ z g] at h; cases h)
   have sH:Ww H0 G:=fun b o e=>bG _ _ (s2 _ _ (s1 _ _ e)) (fun z=>by rw[z,s1.free hlp]at e;cases e)
   exact q t lb r l wd n qs G6 (fH ht) hlb (s1.free hlp) (sH.trans s6) ⟨by lia,by lia,hw,w1,w2,w8,by lia,by lia,n0⟩ hql (fun p hp=>(fr p hp).1) (fun k q b h=>(ps k q b h).mono s6) e6 (s6 _ _ (bG _ _ (s2 _ _ eB) hlb2)) (s6 _ _ eL) fun p hp=>⟨(fr p hp).2.1,(fr p hp).2.2.1⟩
abbrev Jd:Str:=(("_law_order":Str)++(".<locals>.":Str))++("<lambda>":Str)
theorem Rp{H:Hp}{T l:Wo}{q:Str}{xs:List V}(t:TK H T q)(e:H l=some (.lst xs)):l≠T:=fun z=>by
 subst z;obtain⟨ps,h,_⟩:=t.ex;rw[e]at h;cases h
structure Ql(n:Nat)(os:List Nat)(last:Nat):Prop where
 nd:os.Nodup
 mem:∀k,k∈os↔(k < n/\k≠last)
 lt:last < n
def Tl(os:List Nat):List V:=os.map fun k:Nat=>V.int (k:Int)
inductive CO(T:Wo)(vs:List V)(H:Hp)(Q:VK)(E:XK):Prop|mk (n:Nat) (c:Int) (_:vs=[.int (n:Int),.int c]) (_:1 <=n) (_:n <=4001) (_:TK H T Jd) (_:∀ (t l:Wo) (os:List Nat) (last:Nat) G,H t=none->H l=none->Jh T H G->TK G T Jd->Ql n os last->G t=some (.tup [.ref l,.int (last:Int)])->G l=some (.lst (Tl os))->Q (.ref t) G)
abbrev BN:Stmt:=top 55
theorem Bf:Jv ["_law_many","_law_cell","_law_steps","_law_step","_law_order_here","_law_last"] ["_law_many","_law_cell"] (Wt BN):=by walk_at"e"
theorem ZM{f c0 T:Wo}{fd:Wj}(F:Ds K "_law_order" "_law_order" BN f fd (.ref c0))(B:Bt mg)(B2:BE mg)(LC:Gp mg base c0 T)(NC:Nt P w K mg base "_law_mixed" 1 ["_law_cell","_law_k"] [] IT):WA P w K mg base Je 9 f fd ["_law_many","_law_cell"] (CO T):=by
 refine F.ok Bf (fun vs H Q E h=>?_) (fun A outer s H vs Q E hr h=>?_)
 .obtain⟨n,c,rfl,_⟩:=h;rfl
 .obtain⟨n,c,rfl,n1,n2,tb,q⟩:=h;refine⟨_,(WN (NL 2 Bf (TD (Nz J1 (Nz J1 (Nz J1 (Nz J1 (JM (hs:=E9) (JJ (Nm FN) (Wu 0) J1) Wy))))))) (WN (F2 (i:=3) (Bf).nd rfl (Or.inr rfl) (Me K (Wu 2) (JJ (dI MO) (N7 NC hr.m rfl (WH 1 (Nz J1 Wy))) J1))) (WN (NL 4 Bf (uQ (k:=0) (q:=Jd) (y:="_law_k") (N':=["_law_step"]) (caps:=[some 3]) (K:=K) rfl rfl B2.sorted (by rfl) (RK (dM rfl) rfl B.blist (by rfl) (Mj (Zg rfl B.range (WH 0 Wy)) Wy)) LC rfl rfl (jA (sc:=Wt BN) (N:=["_law_many","_law_cell","_law_steps","_law_step","_law_order_here","_law_last"]) rfl rfl (by decide +kernel)) rfl (fun _ _ _ _ _=>rfl) (fun f c' cl A outer s H E hr=>(MI (JM (hs:=E9) (JJ (dI MO) (JJ (dI GQ) (Wu 0) (Wu 1)) J1) (WH 0 Wy)))) (fun _=>rfl) hr.m)) (WN (F2 (i:=5) (Bf).nd rfl (Or.inr rfl) (JJ (dI MO) (N7 NC hr.m rfl (WH 1 (Nz J1 Wy))) (Wu 0))) (WV (Jr (MI (JM (hs:=Rw) (Rb (N':=["_law_k","_law_last"]) (caps:=[none,some 5]) (DP (sc:=Wt BN) (N:=["_law_many","_law_cell","_law_steps","_law_step","_law_order_here","_law_last"]) rfl rfl (by decide +kernel)) rfl (GG (K:=K) rfl (Wu 4)) (fun _ _ _ _ _=>(Dk (i:=0) (DS (N:=["_law_k","_law_last"]) rfl (by decide +kernel)) rfl (Or.inl rfl))) (fun _ _ _ _ _=>(KJ (T3 (RG Rv) (Wu 0) (Wu 1)))) (fun _ _ _ _ _=>(Wu 0))) (WH 5 Wy))))))))),?_⟩;refine Ju fun N a=>?_
  walk_at"rd";refine⟨by rw[Ym];decide,fun ls G1 hls s1 e1=>a _ _ ?_⟩;clear a N;refine Ju fun N a=>?_
  walk_at"rd";refine⟨c,2,rfl,by decide,by decide,fun m0 a0 a1=>⟨_,rfl,by decide,_,WB.of e1,?_⟩⟩;obtain⟨st,est⟩:∃st:Int,Mh [V.int 1,V.int 7,V.int 11,V.int 13,V.int (↑n - 1)] (m0%5)=some (V.int st)/\0 <=st/\st <=4001:=by
   have:m0%5=0\/m0%5=1\/m0%5=2\/m0%5=3\/m0%5=4:=by lia
   rcases this with z|z|z|z|z <;> rw[z]
   .exact⟨1,rfl,by decide,by decide⟩
   .exact⟨7,rfl,by decide,by decide⟩
   .exact⟨11,rfl,by decide,by decide⟩
   .exact⟨13,rfl,by decide,by decide⟩
   .exact⟨_,rfl,by lia,by lia⟩
  refine⟨_,est.1,a _ _ ?_⟩;clear a N;refine Ju fun N a=>?_
  walk_at"rd";obtain ⟨cs, lcs, gcs⟩ : ∃ cs : List (Int × Int), cs.length = n /\ ∀ (j : Nat) p, cs[j]? = some p -> j < n /\ p = (((j : Int) * st % 251 : Int), (j : Int)) := ⟨(List.range n).map fun i : Nat => (((i : Int) * st % 251 : Int), (i : Int)), by simp, fun j p e => by
   rw [Yc] at e;obtain ⟨i, hi, rfl⟩ := YA.mp e;obtain ⟨hj, rfl⟩ := Y4.mp hi;simp at hj ⊢; exact hj⟩
  refine fun r G2 hr2 s2 e2=>⟨n,e2,by lia,fun l0 G3 hl0 s3 e3=>⟨tb.same (s1.trans (s2.trans s3)),fun f G4 hf b4 t4=>⟨l0,_,cs,rfl,WB.of (b4 l0 _ e3 (Rp (tb.same (s1.trans (s2.trans s3))) e3)),by rw[Y0,YB];exact lcs.symm,by rw[Y0,YB];lia,?_,?_⟩⟩⟩
  .intro j x p ex ep G kG;obtain⟨hj,rfl⟩:=gcs j p ep;rw[Yc,XD hj]at ex;cases ex;walk_at"rd";refine⟨.inl ⟨by lia,by lia⟩,by decide,by rw[Ym];decide,fun p G' hp s' e'=>⟨s',p,rfl,e'⟩⟩
  intro d l G5 pm sr hl s5 e5;refine a _ _ ?_;clear a N;refine Ju fun N a=>?_
  walk_at"rd";refine⟨c,3,rfl,by decide,by decide,fun m1 a2 a3=>⟨_,rfl,by lia,a _ _ ?_⟩⟩;clear a N;obtain⟨last,hla,hlt⟩:∃last:Nat,m1%(n:Int)=(last:Int)/\last < n:=⟨(m1%(n:Int)).toNat,by rw[W8 (V8 _ (by lia))],by have h1:=Vn m1 (show(0:Int) < n by lia);have h2:=V8 m1 (show(n:Int)≠0 by lia);lia⟩;rw[hla];walk_at"rd";rw[Y0,YB]at pm;have hrow:(d.map fun i=>((List.range n).map fun i:Nat=>V.int (i:Int)).getD i .non)=Tl d:=by
   unfold Tl;refine YV fun i hi=>?_
   have:i < n:=by have:=pm.mem_iff.mp hi;simpa using this
   rw[XQ,Yc,XD this];rfl
  rw[hrow]at e5;have hlen:(Tl d).length <=4001:=by unfold Tl;rw[Y0,pm.length_eq,YB];exact n2
  refine⟨⟨_,WB.of e5⟩,?_⟩;have hcmp:∀x:Nat,Et (V.int (x:Int)) (V.int (last:Int)) G5=Et (V.int (x:Int)) (V.int (last:Int)) G5:=fun _=>rfl
  obtain⟨Pv,ePv⟩:∃Pv:Nat->List V->L2.St->Hp->Prop,Pv=fun i ys σ' G=>∃ (v:Option V),ys=Tl ((d.take i).filter fun k=>decide (k≠last))/\σ'=[v,some (.int (last:Int))]/\G=G5:=⟨_,rfl⟩
  refine B6 (xs:=Tl d) Pv (by rw[ePv];exact⟨none,by simp[Tl],rfl,rfl⟩) ?_ (by rw[Ym];lia) ?_ ?_ <;> rw[ePv]
  .rintro i ys σ' G ⟨v,rfl,_,rfl⟩ _;refine⟨WB.of e5,?_⟩;unfold Tl;rw[Y0];exact YH (Xh _ _) (by rw[Yu];lia)
  .rintro i x ys σ' G g ⟨v,rfl,rfl,rfl⟩;unfold Tl at g;rw[Yc]at g;obtain⟨k,hk,rfl⟩:=YA.mp g;have tk:d.take (i+ 1)=d.take i++[k]:=by
    obtain⟨hh,rfl⟩:=Y4.mp hk;rw[YK hh]
   walk_at"rd";refine⟨rfl,?_⟩;rw[tk,Vp];unfold Tl
   by_cases hkl:k=last
   .subst hkl;simp
   .have:¬((k:Int)=(last:Int)):=by lia
    simp[this,hkl]
  .rintro ys σ' G ⟨v,rfl,rfl,rfl⟩ l2 G6 hl2 s6 e6;refine⟨by rw[Ym];decide,fun t G7 ht s7 e7=>?_⟩;have tk:d.take (Tl d).length=d:=by unfold Tl;rw[Y0,Xj]
   rw[tk]at e6;have b5:Jh T H G:=fun b o e hb=>s5 _ _ (b4 _ _ (s3 _ _ (s2 _ _ (s1 _ _ e))) hb)
   have fr:∀{x},G x=none->H x=none:=fun {x} g=>by
    cases z:H x with
    |none=>rfl
    |some o=>
     by_cases hb:x=T
     .subst hb;obtain⟨ps,h,_⟩:=(t4.same s5).ex;rw[h]at g;cases g
     .rw[b5 _ _ z hb]at g;cases g
   refine q t l2 _ last G7 (fr (s6.free ht)) (fr hl2) (fun b o e hb=>s7 _ _ (s6 _ _ (b5 _ _ e hb))) ((t4.same s5).same (s6.trans s7)) ⟨?_,fun k=>?_,hlt⟩ e7 (s7 _ _ e6)
   .exact(pm.nodup_iff.mpr VJ).filter _
   .rw[YZ,pm.mem_iff,Xc,Y9]
def Nn(f:List (Int×Int))(p:Int×Int):List (Int×Int):=match f.getLast? with
 |some q=>if q.2=p.1 then f.dropLast++[(q.1,p.2)] else f++[p]
 |none=>[p]
def Jl(B:Wp)(wd:Nat)(gv:List Nat):Nat->List (Int×Int)
 |0=>[]
 |n+ 1=>if n∈gv then Jl B wd gv n else Nn (Jl B wd gv n) ((WG B wd n).at',(WG B wd n).at'+ (WG B wd n).ns.length)
theorem CI{α:Type}(l:List α):l=[]\/∃c x,l=c++[x]:=by
 rcases List.eq_nil_or_concat l with z|⟨c,x,z⟩
 .exact .inl z
 .exact .inr ⟨c,x,by rw[z,List.concat_eq_append]⟩
theorem HW(B:Wp)(wd:Nat)(gv:List Nat):∀n,(Jl B wd gv n).length <=n
 |0=>Y5 _
 |n+ 1=>by
  have ih:=HW B wd gv n;show(if n∈gv then _ else _:List (Int×Int)).length <=n+ 1
  split
  .lia
  .unfold Nn;rcases CI (Jl B wd gv n) with z|⟨c0,l0,z⟩
   .rw[z];simp
   .rw[z,Uw];rw[z]at ih;simp at ih ⊢
    split <;> simp <;> lia
theorem wB{G:Hp}{ys:List V}{c:List (Int×Int)}{l0:Int×Int}(h:JY G ys (Ti c++Ti [l0])):∃ys0 y0,ys=ys0++[y0]/\JY G ys0 (Ti c)/\AX G y0 (l0.1,some l0.2):=by
 induction c generalizing ys with
 |nil=>
  cases h with
  |cons r t=>cases t;exact⟨[],_,rfl,.nil,r⟩
 |cons p c ih=>
  cases h with
  |cons r t=>
   obtain⟨ys0,y0,e,h1,h2⟩:=ih t;exact⟨_::ys0,y0,by rw[e];rfl,.cons r h1,h2⟩
structure Ch(H:Hp)(g:Wo)(gv:List Nat):Prop where
 ex:∃kvs:List (WU×V),H g=some (.dK kvs)/\kvs.map (·.1)=gv.map fun k:Nat=>Sum.inl (k:Int)
inductive FO(CP:Wo)(vs:List V)(H:Hp)(Q:VK)(E:XK):Prop|mk (lp g:Wo) (qs:List (Addr×Addr)) (B:Wp) (wd:Nat) (gv:List Nat) (_:vs=[.ref lp,.ref g]) (_:H lp=some (.lst (qs.map fun p=>V.ref p.1))) (_:Rt CP B wd H qs) (_:qs.length <=4001) (_:Ch H g gv) (_:∀l G,H l=none->Ww H G->JE G l (Ti (Jl B wd gv qs.length))->Q (.ref l) G)
abbrev KC:Stmt:=top 56
theorem BL:Jv ["_law_pieces_here","_law_given","_law_found","_law_k","_law_span"] ["_law_pieces_here","_law_given"] (Wt KC):=by walk_at"e"
theorem tU{f CP:Wo}{fd:Wj}(F:JL K "_law_spans" "_law_spans" KC f fd)(B:Bt mg)(LP:D5 K CP)(WL:Nq P w K mg base CP "end" 1 ["self"] [] (Ez CP)):WA P w K mg base Je 3 f fd ["_law_pieces_here","_law_given"] (FO CP):=by
 refine F.ok BL (fun vs H Q E h=>?_) (fun cdv A outer s H vs Q E hr h=>?_)
 .obtain⟨lp,g,qs,B,wd,gv,rfl,_⟩:=h;rfl
 .obtain⟨lp,g,qs,a,wd,gv,rfl,eL,ps,hz,hg,q⟩:=h;refine⟨_,(WN (NL 2 BL (TD Wy)) (WN (Gi X4 rfl (RY rfl B.range (Mj (Nh (D6 (D3 (K:=K) rfl)) B.len (WH 0 Wy)) Wy)) (Mw 3 BL) (WV (Nf (EM (Q7 (OU (Dw hr))) (Wu 3) (Wu 1) (by with_unfolding_all rfl)) (WN (NL 4 BL (MI (MK (JK K (Me K (Wu 0) (Wu 3))) (Mj (Mu (Me K (Wu 0) (Wu 3)) WL hr.m) Wy)))) (WN (Bm (Nf (PW.pt (EG (T3 (BR (Bx (K:=K) (Room.units hr) rfl)) (Wu 2) (TD Wy)) (Er (T3 (Gn Gx) (MD K (Me K (Wu 2) (Z3 xE J1)) J1) (MD K (Wu 4) J1))))) (WV (NL 4 BL (MI (MQ (MD K (x6 (K:=K) rfl YL PySem.F.slot_list_pop PySem.F.type_list_pop xZ (Wu 2)) J1) (MQ (MD K (Wu 4) J1) Wy))))) Nr)) (WV (MB (Dt (K:=K) rfl YL YS YT (R4 Rj) (Wu 2) (WH 4 Wy)))))) Nr))) (WV (Jr (Wu 2))))),?_⟩;refine Ju fun N hN=>?_
  walk_at"rd";refine⟨by decide,fun c G1 n s1 e1=>hN _ _ ?_⟩;clear hN N;refine Ju fun N hN=>?_
  walk_at"rd";have neL:lp≠c:=fun z=>by rw[z,n]at eL;cases eL
  refine⟨_,.inl (WB.of (s1 _ _ eL)),by rw[Y0];lia,by rw[Y0];lia,?_⟩;rw[Y0,X6];obtain⟨kvs,eG,hkv⟩:=hg.ex;have neG:g≠c:=fun z=>by rw[z,n]at eG;cases eG
  obtain⟨Pv,ePv⟩:∃Pv:Nat->L2.St->Hp->Prop,Pv=fun i σ' G=>∃ (ys:List V) (v3 v4:Option V),σ'=[some (V.ref lp),some (V.ref g),some (V.ref c),v3,v4]/\Jh c G1 G/\G c=some (.lst ys)/\JY G ys (Ti (Jl a wd gv i)):=⟨_,rfl⟩
  refine Aa Pv (by rw[ePv];exact⟨[],none,none,rfl,fun b o e _=>e,e1,.nil⟩) ?_ ?_ <;> rw[ePv]
  .rintro i σ' G hi ⟨ys,v3,v4,rfl,bG,eY,hc⟩;rw[<-ePv];obtain⟨⟨q1,b⟩,hq⟩:∃p,qs[i]?=some p:=⟨_,Y6 hi⟩;have hP1:Jg CP G1 q1 b (WG a wd i):=(ps i q1 b hq).mono s1;have nq:q1≠c/\b≠c:=by
    obtain⟨dx,fs,h⟩:=(ps i q1 b hq).ins;exact⟨(fun z=>by rw[z,n]at h;cases h),(fun z=>by have:=(ps i q1 b hq).bd;rw[z,n]at this;cases this)⟩
   have hP:Jg CP G q1 b (WG a wd i):=hP1.but bG nq.1 nq.2;have eLG:=bG _ _ (s1 _ _ eL) neL;have hat:Mh (qs.map fun p=>V.ref p.1) (0+ (i:Int))=some (V.ref q1):=by rw[U1];exact Ry (by rw[Yc,hq];rfl)
   have hin:(J5 kvs (Sum.inl (0+ (i:Int)))).isSome=decide (i∈gv):=by
    rw[Yz,Y9,<-Ea,UV];constructor
    .rintro⟨x,l,h⟩;have:x.1∈gv.map fun k:Nat=>(Sum.inl (k:Int):WU):=by rw[<-hkv];exact Ya.mpr ⟨x,l,rfl⟩
     obtain⟨k,hk,e⟩:=Ya.mp this;have e2:x.1=Sum.inl (0+ (i:Int)):=X7 h;rw[<-e]at e2;have:(k:Int)=0+ (i:Int):=U9 e2;have:k=i:=by lia
     rw[<-this];exact hk
    .intro h;have:(Sum.inl (0+ (i:Int)):WU)∈kvs.map (·.1):=by rw[hkv,U1];exact Ya.mpr ⟨i,h,rfl⟩
     obtain⟨x,l,e⟩:=Ya.mp this;exact⟨x,l,Yq e⟩
   walk_at"rd";refine⟨kvs,bG _ _ (s1 _ _ eG) neG,Mv (fun h0=>?_) (fun h0=>?_)⟩
   .rw[hin,Xo,X9]at h0;refine⟨_,WB.of eLG,_,hat,_,BZ LP hP,_,WB.of eLG,_,hat,RJ hP,q1,_,_,_,_,b,_,_,_,rfl,hP.ats,hP.bd,?_⟩;rw[Y0];obtain⟨j,epp⟩:∃j:Int×Int,j=((WG a wd i).at',(WG a wd i).at'+ ((WG a wd i).ns.length:Int)):=⟨_,rfl⟩;have epp1:(WG a wd i).at'=j.1:=by rw[epp]
    have epp2:(WG a wd i).at'+ ((WG a wd i).ns.length:Int)=j.2:=by rw[epp]
    rw[epp2,epp1];have eS:Jl a wd gv (i+ 1)=Nn (Jl a wd gv i) j:=by rw[epp];show(if i∈gv then _ else _)=_;rw[Y2 h0]
    refine⟨by rw[Ym];decide,fun t G2 ht s2 e2=>⟨by rw[Ym];decide,?_⟩⟩;have ntl:t≠c:=fun z=>by rw[z,eY]at ht;cases ht
    obtain⟨R,eR⟩:∃R:L2.St->Hp->Prop,R=fun σ' G'=>∃ (ys':List V) (t':Wo) (c':List (Int×Int)) (r:Int×Int),σ'=[some (V.ref lp),some (V.ref g),some (V.ref c),some (V.int (0+ (i:Int))),some (V.ref t')]/\Jh c G1 G'/\G' c=some (.lst ys')/\JY G' ys' (Ti c')/\G' t'=some (.tup [.int r.1,.int r.2])/\ys'.length <=4001/\Nn (Jl a wd gv i) j=c'++[r]:=⟨_,rfl⟩
    have hlen:ys.length <=i:=by rw[hc.len,E8];exact HW ..
    have stay:∀{G3:Hp},Ww G2 G3->¬(∃c0 l0,Jl a wd gv i=c0++[l0]/\l0.2=j.1)->R [some (V.ref lp),some (V.ref g),some (V.ref c),some (V.int (0+ (i:Int))),some (V.ref t)] G3:=fun {G3} d hno=>by
     rw[eR];refine⟨ys,t,Jl a wd gv i,j,rfl,fun x o e l=>d _ _ (s2 _ _ (bG _ _ e l)),d _ _ (s2 _ _ eY),hc.tk (Gk (s2.trans d)),d _ _ e2,by lia,?_⟩;unfold Nn;rcases CI (Jl a wd gv i) with z|⟨c0,l0,z⟩
     .rw[z];rfl
     .rw[z,Uw];show(if l0.2=j.1 then _ else _)=_;rw[Y2 fun q=>hno ⟨c0,l0,z,q⟩]
    refine⟨R,?_,?_⟩
    .intro p3 G3 hp3 d e3;have v:=d _ _ (s2 _ _ eY);refine⟨ys,WB.of v,WB.of e3,Mv (fun h1=>?_) (fun h1=>?_)⟩
     .rcases CI (Jl a wd gv i) with z|⟨c0,l0,z⟩
      .rw[hc.len,z]at h1;cases h1
      have hc3:=hc.tk (Gk (s2.trans d));rw[z,RN]at hc3;obtain⟨aa,y0,ey,hc0,hy0⟩:∃aa y0,ys=aa++[y0]/\JY G3 aa (Ti c0)/\AX G3 y0 (l0.1,some l0.2):=wB hc3;obtain⟨p0,rfl,ep0⟩:=hy0;have hla:Mh ys (-1)=some (V.ref p0):=by rw[ey];exact dC ..
      refine⟨ys,WB.of v,_,hla,p0,rfl,_,JV.of ep0,_,rfl,_,JV.of (d _ _ e2),_,rfl,rfl,Mv (fun h2=>?_) (fun h2=>?_)⟩
      .have h2:l0.2=j.1:=by simpa[oV] using h2
       refine⟨.inl ⟨rfl,_,WB.of v⟩,ys,v,V.ref p0,by rw[ey];simp,fun G4 b4 e4=>?_⟩;have n0:p0≠c:=Wv ep0 v nofun;refine⟨p0,rfl,_,JV.of (b4 _ _ ep0 n0),_,rfl,_,JV.of (b4 _ _ (d _ _ e2) ntl),_,rfl,by rw[Ym];decide,fun t' G5 ht' s5 e5=>?_⟩;rw[eR];have ey':ys.dropLast=aa:=by rw[ey];simp
       rw[ey']at e4;refine⟨aa,t',c0,(l0.1,j.2),rfl,fun x o e l=>s5 _ _ (b4 _ _ (d _ _ (s2 _ _ (bG _ _ e l))) l),s5 _ _ e4,(hc0.tk (NZ b4 v)).tk (Gk s5),e5,?_,?_⟩
       .have:=X0 List.length ey;simp at this;lia
       .unfold Nn;rw[z,Uw];show(if l0.2=j.1 then _ else _)=_;rw[Y3 h2,W1]
      .refine stay d ?_;rintro⟨c1,l1,z1,q⟩;rw[z]at z1;have:l0=l1:=(List.append_inj' z1 rfl).2|> List.cons.inj|>.1;rw[this]at h2;exact h2 (by simp[q,oV])
     .refine stay d ?_;rintro⟨c1,l1,z1,q⟩;apply h1;rw[hc.len,z1];simp[Ti]
    .rw[eR];rintro σ' G' ⟨ys',t',c',r,rfl,b',eY',hc',et',hl',es⟩;walk_at"rd";refine⟨.inl ⟨rfl,_,WB.of eY'⟩,_,eY',by rw[Ym];lia,fun G5 b5 e5=>?_⟩;rw[ePv];refine⟨_,_,_,rfl,fun x o e l=>b5 _ _ (b' _ _ e l) l,e5,?_⟩;rw[eS,es,RN];exact(hc'.tk (NZ b5 eY')).app (.cons ⟨t',rfl,b5 _ _ et' (Wv et' eY' nofun)⟩ .nil)
   .rw[ePv];rw[hin,Xo,X9,Classical.not_not]at h0;refine⟨ys,_,_,rfl,bG,eY,?_⟩;have:Jl a wd gv (i+ 1)=Jl a wd gv i:=by show(if i∈gv then _ else _)=_;rw[Y3 h0]
    rw[this];exact hc
  .rintro σ' G ⟨ys,v3,v4,rfl,bG,eY,hc⟩;refine hN _ _ ?_;clear hN N;walk_at"rd";exact q c G n (fun b o e=>bG _ _ (s1 _ _ e) fun z=>by rw[z,n]at e;cases e) ⟨ys,eY,hc⟩
def Mp(B:Wp)(wd k:Nat):Int:=(WG B wd k).at'+ ((WG B wd k).ns.length:Int)
def NT(gv:List Nat):Nat:=gv.foldr max 0
def RT(B:Wp)(wd n:Nat)(gv:List Nat):List (Int×Option Int):=
 if n - 1∈gv then Ti (Jl B wd gv n) else Ti (Jl B wd gv (NT gv+ 1))++[(Mp B wd (NT gv),none)]
theorem SJ{B:Wp}{wd n k:Nat}(hb:Jq B wd n)(hk:k < n):(WG B wd k).ns.length=if k+ 1 < n then wd else B.length - wd*k:=by
 show((B.drop (wd*k)).take wd).length=_;rw[Yu,YQ];have n1:=hb.n1;have n2:=hb.n2;have e:wd*k+ wd=wd*(k+ 1):=by rw[Nat.mul_succ]
 split
 .rename_i h
  have h1:wd*(k+ 1) <=wd*(n - 1):=X2 _ (by lia)
  lia
 .have a:k+ 1=n:=by lia
  rw[<-a,<-e]at n2
  lia
theorem Rn{B:Wp}{wd n k:Nat}(hb:Jq B wd n)(hk:k < n):Mp B wd k=if k+ 1 < n then((wd*(k+ 1):Nat):Int) else(B.length:Int):=by
 unfold Mp;rw[SJ hb hk];have n1:=hb.n1;show((wd*k:Nat):Int)+ _=_;have e:wd*k+ wd=wd*(k+ 1):=by rw[Nat.mul_succ]
 have h1:wd*k <=wd*(n - 1):=X2 _ (by lia)
 split <;> lia
theorem PQ{B:Wp}{wd n a b:Nat}(hb:Jq B wd n)(h:a < b)(hk:b < n):Mp B wd a < Mp B wd b:=by
 rw[Rn hb hk,Rn hb (Nat.lt_trans h hk),Y3 (by lia)];have w1:=hb.w1;have n1:=hb.n1;have h1:wd*(a+ 1) <=wd*b:=X2 _ (by lia);have h2:wd*(a+ 1) <=wd*(n - 1):=X2 _ (by lia);have e:wd*b+ wd=wd*(b+ 1):=by rw[Nat.mul_succ]
 split <;> lia
theorem F0{B:Wp}{wd n a b:Nat}(hb:Jq B wd n)(ha:a < n)(hk:b < n):Mp B wd a <=Mp B wd b↔a <=b:=by
 constructor
 .intro h
  by_cases z:a <=b
  .exact z
  .have:=PQ hb (Nat.lt_of_not_le z) ha;lia
 .intro h
  by_cases z:a=b
  .rw[z];exact YJ _
  .exact Wa (PQ hb (by lia) hk)
theorem Fd:∀{gv:List Nat},gv≠[]->NT gv∈gv
 |[],h=>absurd rfl h
 |[a],_=>by simp[NT]
 |a::b::r,_=>by
  have:=Fd (gv:=b::r) (by simp);have e:NT (a::b::r)=max a (NT (b::r)):=rfl;rw[e,Nat.max_def]
  split
  .exact Yi _ this
  .exact Ys
theorem FJ:∀{gv:List Nat} {k:Nat},k∈gv->k <=NT gv
 |a::r,k,h=>by
  have e:NT (a::r)=max a (NT r):=rfl;rw[e];rcases Yp.mp h with z|z
  .lia
  .have:=FJ z;lia
theorem PB{kvs:List (WU×V)}{gv:List Nat}(hkv:kvs.map (·.1)=gv.map fun k:Nat=>Sum.inl (k:Int))(i:Nat):(J5 kvs (Sum.inl (i:Int))).isSome=decide (i∈gv):=by
 rw[Yz,Y9,<-Ea,UV];constructor
 .rintro⟨x,a,h⟩;have:x.1∈gv.map fun k:Nat=>(Sum.inl (k:Int):WU):=by rw[<-hkv];exact Ya.mpr ⟨x,a,rfl⟩
  obtain⟨k,c,e⟩:=Ya.mp this;have b:x.1=Sum.inl (i:Int):=X7 h;rw[<-e]at b;have:(k:Int)=(i:Int):=U9 b;have:k=i:=by lia
  rw[<-this];exact c
 .intro h;have:(Sum.inl (i:Int):WU)∈kvs.map (·.1):=by rw[hkv];exact Ya.mpr ⟨i,h,rfl⟩
  obtain⟨x,a,e⟩:=Ya.mp this;exact⟨x,a,Yq e⟩
inductive Lm(C CR CP:Wo)(vs:List V)(H:Hp)(Q:VK)(E:XK):Prop|mk (m dr df dw lp g:Wo) (R:WJ) (e:RE) (qs:List (Addr×Addr)) (B:Wp) (wd:Nat) (gv:List Nat) (_:vs=[.ref m,.ref lp,.ref g]) (_:Wz C CR H m dr df dw R) (_:e∈R.es) (_:e.ky=((9:Int),("ann":Str),("bo":Str))) (_:e.rs.cv.length <=1000) (_:H lp=some (.lst (qs.map fun p=>V.ref p.1))) (_:Rt CP B wd H qs) (_:Jq B wd qs.length) (_:Ch H g gv) (_:gv≠[]) (_:gv.length <=qs.length) (_:(∀k∈gv,k < qs.length)) (_:∀G,Ww H G->Q (.bl (decide (WR e.rs.en 0 e.rs.cv=RT B wd qs.length gv))) G)
abbrev Ep:Stmt:=top 57
theorem As:Jv ["_law_room_here","_law_pieces_here","_law_given","_law_mine","_law_most","_law_early"] ["_law_room_here","_law_pieces_here","_law_given"] (Wt Ep):=by walk_at"e"
theorem Sn{f C CR CP:Wo}{fd:Wj}(F:JL K "_law_lacks_right" "_law_lacks_right" Ep f fd)(B:Bt mg)(LP:D5 K CP)(N5:Nq P w K mg base C "lacks" 6 ["self","key"] [] (FC C CR))(WL:Nq P w K mg base CP "end" 1 ["self"] [] (Ez CP))(NH:Nt P w K mg base "_law_spans" 3 ["_law_pieces_here","_law_given"] [] (FO CP)):WA P w K mg base Je 7 f fd ["_law_room_here","_law_pieces_here","_law_given"] (Lm C CR CP):=by
 refine F.ok As (fun vs H Q E h=>?_) (fun cdv A outer s H vs Q E hr h=>?_)
 .obtain⟨m,dr,df,dw,lp,g,R,e,d,B,wd,gv,rfl,_⟩:=h;rfl
 .obtain⟨m,dr,df,dw,lp,g,R,e,d,j,wd,gv,rfl,hR,he,ek,hcv,eL,ps,hb,hg,gn,gz,gl,q⟩:=h;refine⟨_,(WN (NL 3 As (MI (Nz J1 (Nz TH (Nz TH Wy))))) (WN (Nf (EM (O6 (QH (Dw hr))) (JJ (Nm FN) (Nh (D6 (D3 (K:=K) rfl)) B.len (WH 1 Wy)) J1) (Wu 2) (by with_unfolding_all rfl)) (WV (Jr (TF (Bs (K:=K) (Room.units hr) rfl) (Mz (Wu 0) N5 hr.m (WH 3 Wy)) (N7 NH hr.m rfl (WH 1 (WH 2 Wy))) (M0 _)))) Nr) (WN (F2 (i:=4) (As).nd rfl (Or.inr rfl) (Nh (jE (K:=K) rfl rfl) B.max (JM (hs:=Rw) (yK (Rb (N':=["_law_k","_law_pieces_here"]) (caps:=[none,some 1]) (DP (sc:=Wt Ep) (N:=["_law_room_here","_law_pieces_here","_law_given","_law_mine","_law_most","_law_early"]) rfl rfl (by decide +kernel)) rfl (gC (Wu 2)) (fun _ _ _ _ _=>(Dk (i:=0) (DS (N:=["_law_k","_law_pieces_here"]) rfl (by decide +kernel)) rfl (Or.inl rfl))) (fun _ _ _ _ _=>GW) (fun _ _ _ _ _=>(Mu (Me K (Wu 1) (Wu 0)) WL hr.m)))) Wy))) (WN (At (i:=5) (N':=["_law_k","_law_most","_law_pieces_here"]) (caps:=[none,some 4,some 1]) (DP (sc:=Wt Ep) (N:=["_law_room_here","_law_pieces_here","_law_given","_law_mine","_law_most","_law_early"]) rfl rfl (by decide +kernel)) rfl (As).nd rfl (Or.inl rfl) (RY rfl B.range (Mj (Nh (D6 (D3 (K:=K) rfl)) B.len (WH 1 Wy)) Wy)) (fun _ _ _ _ _=>(Dk (i:=0) (DS (N:=["_law_k","_law_most","_law_pieces_here"]) rfl (by decide +kernel)) rfl (Or.inl rfl))) (fun _ _ _ _ _=>(KJ (T3 (Nm GU) (Mu (Me K (Wu 2) (Wu 0)) WL hr.m) (Wu 1)))) (fun _ _ _ _ _=>(Wu 0)) rfl) (WV (Jr (TF (Bs (K:=K) (Room.units hr) rfl) (Mz (Wu 0) N5 hr.m (WH 3 Wy)) (JJ (CB AO) (N7 NH hr.m rfl (JM (hs:=Rw) (Rb (N':=["_law_k","_law_pieces_here"]) (caps:=[none,some 1]) (DP (sc:=Wt Ep) (N:=["_law_room_here","_law_pieces_here","_law_given","_law_mine","_law_most","_law_early"]) rfl rfl (by decide +kernel)) rfl (GG (K:=K) rfl (Wu 5)) (fun _ _ _ _ _=>(Dk (i:=0) (DS (N:=["_law_k","_law_pieces_here"]) rfl (by decide +kernel)) rfl (Or.inl rfl))) (fun _ _ _ _ _=>GW) (fun _ _ _ _ _=>(Me K (Wu 1) (Wu 0)))) (WH 2 Wy))) (TD (JM (hs:=DY) (MI (WH 4 (Nz DC Wy))) Wy))) (M0 _)))))))),?_⟩;refine Ju fun N r=>?_
  walk_at"rd";refine⟨by rw[Ym];decide,fun tk G1 htk s1 e1=>r _ _ ?_⟩;clear r N;refine Ju fun N r=>?_
  walk_at"rd";obtain⟨kvs,eG,hkv⟩:=hg.ex;have hn1:1 <=d.length:=by have n2:=hb.n2;have l1:=hb.l1;cases z:d.length with|zero=>rw[z,Nat.mul_zero]at n2;lia|succ k=>lia
  have hn4:d.length <=4001:=by
   have n1:=hb.n1;have l2:=hb.l2;have w1:=hb.w1;have:1*(d.length - 1) <=wd*(d.length - 1):=V9 _ (by lia)
   lia
  refine⟨_,.inl (WB.of (s1 _ _ eL)),kvs,s1 _ _ eG,?_⟩;rw[Y0,show((d.length:Int) - 1)=((d.length - 1:Nat):Int) by lia,PB hkv];refine Mv (fun h0=>?_) (fun h0=>?_)
  .rw[Y9]at h0;have eLk:RT j wd d.length gv=Ti (Jl j wd gv d.length):=Y3 h0;refine⟨(hR.mono s1).mt rfl,m,dr,df,dw,tk,R,e,rfl,hR.mono s1,by rw[ek];exact e1,by rw[ek];exact⟨by decide,by decide,by unfold N6;decide +kernel,by unfold N6;decide +kernel⟩,he,hcv,fun l G2 hl s2 hc=>?_⟩;refine⟨lp,g,d,j,wd,gv,rfl,s2 _ _ (s1 _ _ eL),fun k a b n=>(ps k a b n).mono (s1.trans s2),hn4,⟨kvs,s2 _ _ (s1 _ _ eG),hkv⟩,fun l2 G3 hl2 s3 hc2=>?_⟩;refine⟨_,_,F5 (JE.same s3 hc),F5 hc2,Cz _,Cz _,?_⟩;rw[Q4,<-eLk];exact q G3 ((s1.trans s2).trans s3)
  .rw[Y9]at h0;refine r _ _ ?_;clear r N;refine Ju fun N r=>?_
   walk_at"rd";have neGp:g≠lp:=Wv eG eL nofun;have hx:∀ (k:Nat) (G:Hp),k < d.length->Jh g H G->∃a,Mh (d.map fun p=>V.ref p.1) (k:Int)=some (V.ref a)/\Ge CP "end" G (V.ref a)/\∀R':VK,R' (.int (Mp j wd k)) G->Ez CP [V.ref a] G R' E0:=fun k G n sG=>by
    obtain⟨⟨a,b⟩,hq⟩:∃p,d[k]?=some p:=⟨_,Y6 n⟩;have nq:a≠g/\b≠g:=by
     obtain⟨dx,fs,h⟩:=(ps k a b hq).ins;exact⟨Wv h eG nofun,Wv (ps k a b hq).bd eG nofun⟩
    have hP:Jg CP G a b (WG j wd k):=(ps k a b hq).but sG nq.1 nq.2;refine⟨a,Ry (by rw[Yc,hq];rfl),RJ hP,fun R' h=>⟨a,_,_,_,_,b,_,_,_,rfl,hP.ats,hP.bd,?_⟩⟩;rw[Y0];exact h
   obtain⟨Pv,ePv⟩:∃Pv:Nat->List V->L2.St->Prop,Pv=fun i ys σ'=>∃ (v:Option V),ys=((gv.take i).map (Mp j wd)).map V.int/\σ'=[v,some (.ref lp)]:=⟨_,rfl⟩
   have hkl:kvs.length=gv.length:=by have:=X0 List.length hkv;simpa using this
   refine n7 (s1 _ _ eG) (fun R h=>by first|exact⟨_,rfl,h⟩|exact h) Pv (by rw[ePv];exact⟨none,rfl,rfl⟩) ?_ (by lia) ?_ ?_ <;> rw[ePv]
   .rintro i ys σ' ⟨v,rfl,_⟩;rw[Y0,Y0,Yu];lia
   .rintro Hf hf i k u ys σ' n ⟨v,rfl,rfl⟩;walk_at"rd";have bf:Jh g H Hf:=fun c o e hc=>by rw[hf c hc];exact s1 _ _ e
    have hki:∃k':Nat,k=Sum.inl (k':Int)/\gv[i]?=some k':=by
     have h1:(kvs.map (·.1))[i]?=some k:=by rw[Yc,n];rfl
     rw[hkv,Yc]at h1;obtain⟨k',h2,h3⟩:=YA.mp h1;exact⟨k',h3.symm,h2⟩
    obtain⟨k',rfl,hk'⟩:=hki;have hkq:k' < d.length:=gl k' (Yw hk');have tk:gv.take (i+ 1)=gv.take i++[k']:=by
     obtain⟨hh,rfl⟩:=Y4.mp hk';rw[YK hh]
    obtain⟨a,ha,hi,hs⟩:=hx k' Hf hkq bf;exact⟨_,(k':Int),rfl,WB.of (bf _ _ eL fun z=>neGp z.symm),_,ha,hi,hs _ ⟨by rw[tk,Yn,Yn];rfl,rfl⟩⟩
   .rintro ys σ' ⟨v,rfl,_⟩ p G2 hp s2 e2;rw[hkl,Xj]at e2;refine⟨p,rfl,gv.map (Mp j wd),WB.of e2,by simpa using gn,fun mst hm1 hm2=>r _ _ ?_⟩;clear r N;obtain⟨k0,hk0,rfl⟩:=Ya.mp hm1;have hmx:k0=NT gv:=by
     have h1:=hm2 _ (Ya.mpr ⟨_,Fd gn,rfl⟩);rw[F0 hb (gl _ (Fd gn)) (gl _ hk0)]at h1;have:=FJ hk0
     lia
    subst hmx;have s12:=s1.trans s2;have hml:=gl _ hk0;refine Ju fun N r=>?_
    walk_at"rd";refine⟨_,.inl (WB.of (s12 _ _ eL)),by rw[Y0];lia,by rw[Y0];lia,?_⟩;rw[Y0,X6];obtain⟨Pw,ePw⟩:∃Pw:Nat->List V->L2.St->Hp->Prop,Pw=fun i ys σ' G=>∃ (v:Option V),ys=Tl (List.range (min i (NT gv+ 1)))/\σ'=[v,some (.int (Mp j wd (NT gv))),some (.ref lp)]/\G=G2:=⟨_,rfl⟩
    refine He Pw (by rw[ePw];exact⟨none,by rw[Nat.zero_min];rfl,rfl,rfl⟩) ?_ (by rw[Ym];lia) ?_ ?_ <;> rw[ePw]
    .rintro i ys σ' G ⟨v,rfl,_⟩ _;unfold Tl;rw[Y0,YB];lia
    .rintro i ys σ' G hi ⟨v,rfl,rfl,rfl⟩;walk_at"rd";obtain⟨a,ha,hi',hs⟩:=hx i G hi s12.toBut;refine⟨_,WB.of (s12 _ _ eL),_,by rw[U1];exact ha,hi',hs _ ⟨_,rfl,Mv (fun h1=>?_) (fun h1=>?_)⟩⟩ <;> rw[Y9,F0 hb hi hml]at h1 <;> refine⟨?_,rfl⟩
     .rw[show min i (NT gv+ 1)=i by lia,show min (i+ 1) (NT gv+ 1)=i+ 1 by lia,List.range_succ,U1];unfold Tl;rw[Yn];rfl
     .rw[show min i (NT gv+ 1)=NT gv+ 1 by lia,show min (i+ 1) (NT gv+ 1)=NT gv+ 1 by lia]
    .rintro ys σ' G ⟨v,rfl,rfl,rfl⟩ l2 G3 hl2 s3 e3;have em:min d.length (NT gv+ 1)=NT gv+ 1:=by lia
     rw[em]at e3;refine r _ _ ?_;clear r N;walk_at"rd";have s13:=s12.trans s3;refine⟨(hR.mono s13).mt rfl,m,dr,df,dw,tk,R,e,rfl,hR.mono s13,by rw[ek];exact s3 _ _ (s2 _ _ e1),by rw[ek];exact⟨by decide,by decide,by unfold N6;decide +kernel,by unfold N6;decide +kernel⟩,he,hcv,fun l G4 hl s4 hc=>?_⟩;have s14:=s13.trans s4;have eLk:RT j wd d.length gv=Ti (Jl j wd gv (NT gv+ 1))++[(Mp j wd (NT gv),none)]:=Y2 h0;refine⟨⟨_,WB.of (s4 _ _ e3)⟩,?_⟩;have hrl:(Tl (List.range (NT gv+ 1))).length=NT gv+ 1:=by unfold Tl;rw[Y0,YB]
     obtain⟨Px,ePx⟩:∃Px:Nat->List V->L2.St->Hp->Prop,Px=fun i ys σ' G=>∃ (v:Option V),ys=(d.take i).map (fun p=>V.ref p.1)/\σ'=[v,some (.ref lp)]/\G=G4:=⟨_,rfl⟩
     refine B6 (xs:=Tl (List.range (NT gv+ 1))) Px (by rw[ePx];exact⟨none,rfl,rfl,rfl⟩) ?_ (by rw[hrl,Ym];lia) ?_ ?_ <;> rw[ePx]
     .rintro i ys σ' G' ⟨v,rfl,_,rfl⟩ _;exact⟨WB.of (s4 _ _ e3),by rw[Y0,Yu];lia⟩
     .rintro i x ys σ' G' hxi ⟨v,rfl,rfl,rfl⟩;unfold Tl at hxi;rw[Yc]at hxi;obtain⟨k,n,rfl⟩:=YA.mp hxi;obtain⟨hki,hk2⟩:=Y4.mp n;rw[List.getElem_range]at hk2;rw[YB]at hki;subst hk2;have hiq:i < d.length:=by lia
      walk_at"rd";refine⟨_,WB.of (s14 _ _ eL),_,Ry (by rw[Yc,Y6 hiq];rfl),?_⟩;rw[YK hiq,Yn];rfl
     .rintro ys σ' G' ⟨v,rfl,rfl,rfl⟩ l5 G5 hl5 s5 e5;rw[hrl]at e5;have s15:=s14.trans s5;have hql:(d.take (NT gv+ 1)).length=NT gv+ 1:=by rw[Yu];lia
      refine⟨l5,g,d.take (NT gv+ 1),j,wd,gv,rfl,e5,fun k a b n=>?_,by lia,⟨kvs,s15 _ _ eG,hkv⟩,fun l6 G6 hl6 s6 hc6=>?_⟩
      .rw[YE]at n
       split at n
       .exact(ps k a b n).mono s15
       .cases n
      rw[hql]at hc6;obtain⟨ys6,e6,k6⟩:=hc6;refine⟨by rw[Ym];decide,fun t7 G7 ht7 s7 e7=>⟨by rw[Ym];decide,fun l8 G8 hl8 s8 e8=>⟨l6,rfl,ys6,s8 _ _ (s7 _ _ e6),_,e8,?_,fun l9 G9 hl9 s9 e9=>?_⟩⟩⟩
      .rw[k6.len,E8,Ym];have:=HW j wd gv (NT gv+ 1);simp;lia
      .have hc9:JE G9 l9 (RT j wd d.length gv):=by
        rw[eLk];exact⟨_,e9,(k6.tk (Gk ((s7.trans s8).trans s9))).app (.cons ⟨t7,rfl,s9 _ _ (s8 _ _ e7)⟩ .nil)⟩
       have s49:Ww G' G9:=(((s5.trans s6).trans s7).trans s8).trans s9;refine⟨_,_,F5 (JE.same s49 hc),F5 hc9,Cz _,Cz _,?_⟩;rw[Q4];exact q G9 (s14.trans s49)
end
def GK(d:PD)(x:Int):Prop:=d.at' <=x/\x < d.at'+ d.ns.length
def Cs(B:Wp)(e:PD):Prop:=∃lo m:Nat,lo < m/\m <=B.length/\e.at'=lo/\e.ns=(B.drop lo).take (m - lo)/\e.mo=decide (m < B.length)
theorem Cs.len{B:Wp}{e:PD}(h:Cs B e):∃lo m:Nat,lo < m/\m <=B.length/\e.at'=lo/\e.ns.length=m - lo/\e.mo=decide (m < B.length)/\∀i x,e.ns[i]?=some x->B[lo+ i]?=some x:=by
 obtain⟨lo,m,h1,h2,f,c,d⟩:=h;have b:e.ns.length=m - lo:=by rw[c,Yu,YQ];lia
 refine⟨lo,m,h1,h2,f,b,d,fun i x a=>?_⟩;have hi:i < m - lo:=by rw[<-b];exact(Y4.mp a).1
 rw[c,VD hi,YN]at a;exact a
structure Wx(B:Wp)(rs:RS)(Z:List PD):Prop where
 st:∀n x,Jc rs.st n=some x->∃i:Nat,n=i/\B[i]?=some x
 cov:T7 rs.cv
 dom:∀n,Jo rs.cv n↔(Jc rs.st n).isSome=true
 tk:∀n,Jo rs.cv n↔∃d∈Z,GK d n
 en1:(∃d∈Z,d.mo=false)->rs.en=some (B.length:Int)
 en0:(∀d∈Z,d.mo=true)->rs.en=none
 re:rs.re < B.length
theorem Wx.zero{B:Wp}(h:1 <=B.length):Wx B TN [] where
 st:=fun n x h=>by cases h
 cov:=trivial
 dom:=fun n=>⟨fun h=>absurd h (TM n),fun h=>by cases h⟩
 tk:=fun n=>⟨fun h=>absurd h (TM n),fun⟨d,hd,_⟩=>nomatch hd⟩
 en1:=fun⟨d,hd,_⟩=>nomatch hd
 en0:=fun _=>rfl
 re:=by show(0:Int) < _;lia
theorem Wx.en{B:Wp}{rs:RS}{Z:List PD}(h:Wx B rs Z):rs.en=none\/rs.en=some (B.length:Int):=by
 by_cases e:∀d∈Z,d.mo=true
 .exact .inl (h.en0 e)
 .refine .inr (h.en1 ?_);have ⟨d,hd⟩:=Classical.not_forall.mp e;have ⟨h1,h2⟩:=Classical.not_imp.mp hd;exact⟨d,h1,by simpa using h2⟩
theorem Wx.step{B:Wp}{rs:RS}{Z:List PD}{d:PD}(la:Bool)(h:Wx B rs Z)(c:Cs B d):Wx B (Tp la rs d) (Z++[d]):=by
 obtain⟨lo,m,h1,h2,q,p,f,o⟩:=c.len;have g:=Lv (c:=rs.cv) (lo:=d.at') (hi:=d.at'+ d.ns.length) h.cov (by lia);have j:∀n,Jo (JF rs.cv d.at' (d.at'+ d.ns.length)) n↔(Jc (Jp la rs.st d.at' d.ns) n).isSome=true:=fun n=>by
  rw[g.2,IZ,h.dom]
 refine⟨?_,g.1,j,fun n=>?_,?_,?_,?_⟩
 .refine FB (P:=fun n x=>∃i:Nat,n=i/\B[i]?=some x) la d.ns rs.st d.at' h.st fun i x b=>⟨lo+ i,by lia,o i x b⟩
 .show Jo (JF rs.cv d.at' (d.at'+ d.ns.length)) n↔_;rw[g.2,h.tk];constructor
  .rintro(⟨e,a,b⟩|b)
   .exact⟨e,YG _ a,b⟩
   .exact⟨d,by simp,b⟩
  .rintro⟨e,a,b⟩;rcases Yj.mp a with a|a
   .exact .inl ⟨e,a,b⟩
   .rw[Y8.mp a]at b;exact .inr b
 .rintro⟨e,a,hm⟩;show(if d.mo=true then rs.en else some (d.at'+ d.ns.length))=_;cases hd:d.mo with
  |true=>
   rw[Y3 rfl];refine h.en1 ⟨e,?_,hm⟩;rcases Yj.mp a with a|a
   .exact a
   .rw[Y8.mp a,hd]at hm;cases hm
  |false=>
   rw[Y2 (by simp)];rw[hd]at f;have:=UD f.symm;rw[show d.at'+ (d.ns.length:Int)=(B.length:Int) by lia]
 .intro l;show(if d.mo=true then rs.en else some (d.at'+ d.ns.length))=_;rw[Y3 (l d (by simp))];exact h.en0 fun e a=>l e (YG _ a)
 .show(if d.mo=true then max rs.re (d.at'+ d.ns.length) else rs.re) < _;have:=h.re
  split <;> rename_i hm
  .rw[hm]at f;have:=X7 f.symm
   lia
  .exact this
theorem Wx.calm{B:Wp}{rs:RS}{Z:List PD}{d:PD}(h:Wx B rs Z)(c:Cs B d):strange rs d=false/\N1 rs.st d.at' d.ns=none:=by
 obtain⟨lo,m,h1,h2,r,q,a,n⟩:=c.len;constructor
 .unfold strange;have o:=h.re;cases hm:d.mo with
  |true=>
   rw[hm]at a;have:=X7 a.symm;rw[Y3 rfl];rcases h.en with e|e <;> rw[e];exact Yt (by lia)
  |false=>
   rw[hm]at a;have:=UD a.symm;rw[Y2 (by simp)];rcases h.en with e|e <;> rw[e]
   .exact Yt (by lia)
   .show(!decide (d.at'+ (d.ns.length:Int)=(B.length:Int)))=false;rw[Yq (show d.at'+ (d.ns.length:Int)=(B.length:Int) by lia)];rfl
 .refine OQ _ _ _ fun i x y l g=>?_
  obtain⟨j,p,f⟩:=h.st _ _ g;have b:=n i x l;rw[show j=lo+ i by lia,b]at f;exact(Option.some.inj f).symm
theorem Wx.nonneg{B:Wp}{rs:RS}{Z:List PD}(h:Wx B rs Z){n:Int}(hn:Jo rs.cv n):0 <=n/\n < B.length:=by
 rw[h.dom]at hn;obtain⟨x,a⟩:=Xw.mp hn;obtain⟨i,hi,b⟩:=h.st n x a;have:=(Y4.mp b).1
 lia
theorem OR{c:List (Int×Int)}(hc:T7 c){p:Int×Int}(hp:p∈c):p.1 < p.2:=by
 induction c with
 |nil=>exact nomatch hp
 |cons q r ih=>
  obtain⟨h1,h2,a⟩:=hc;rcases Yp.mp hp with rfl|hp
  .exact h1
  .exact ih a hp
theorem Wx.los{B:Wp}{rs:RS}{Z:List PD}(h:Wx B rs Z):∀p∈rs.cv,0 <=p.1:=fun p a=>(h.nonneg ⟨p,a,YJ _,OR h.cov a⟩).1
theorem Wx.full{B:Wp}{rs:RS}{Z:List PD}(h:Wx B rs Z)(hl:WR rs.en 0 rs.cv=[]):rs.en=some (B.length:Int)/\∀n:Int,0 <=n->n < B.length->Jo rs.cv n:=by
 rcases h.en with e|e
 .rw[e,Au h.cov]at hl;exact absurd hl (by simp)
 .rw[e,Fc]at hl;have hs:NO B.length 0 rs.cv=[]:=Ve.mp hl;refine⟨e,fun n a h1=>?_⟩;have:=(CZ (e:=B.length) h.cov h.los).2.2 n;rw[hs]at this;exact YY fun z=>TM n (this.mpr ⟨a,h1,z⟩)
theorem Eh{α:Type}[DecidableEq α]:∀{ks ts:List α},ks.Nodup->(∀k∈ks,k∈ts)->ks.length <=ts.length
 |[],_,_,_=>Yy _
 |k::r,ts,hn,h=>by
  have hk:=h k Ys;have h1:=Eh (ts:=ts.erase k) (YI.mp hn).2 fun j a=>(List.mem_erase_of_ne (fun e:j=k=>(YI.mp hn).1 (by rw[<-e];exact a))).mpr (h j (Yi _ a))
  rw[List.length_erase_of_mem hk]at h1;have:=List.length_pos_of_mem hk;rw[List.length_cons];lia
def Ej(ks:Wp)(n:Int):List Int:=if n∈ks then ks else ks++[n]
def AJ:List Int->Int->Nat->List Int
 |ks,_,0=>ks
 |ks,n,m+ 1=>AJ (Ej ks n) (n+ 1) m
theorem gO{ks:Wp}(n:Int)(h:ks.Nodup):(Ej ks n).Nodup:=by
 unfold Ej
 split
 .exact h
 .rename_i hk
  exact Xz.mpr ⟨h,by simp,fun u b v a e=>hk (by rw[Y8.mp a]at e;rw[<-e];exact b)⟩
theorem ON:∀ (m:Nat) {ks:Wp} (n:Int),ks.Nodup->(AJ ks n m).Nodup
 |0,_,_,h=>h
 |m+ 1,_,n,h=>ON m (n+ 1) (gO n h)
theorem KD(n:Int):∀st:List (Int×Int),(Jc st n).isSome=decide (n∈st.map (·.1))
 |[]=>rfl
 |p::r=>by
  unfold Jc;rw[YU]
  by_cases h:p.1=n
  .rw[Yq h];simp[h]
  .rw[Yt h];have ih:=KD n r;unfold Jc at ih;show((List.find? _ r).map _).isSome=_;rw[ih];have h':¬n=p.1:=fun e=>h e.symm
   simp[h']
theorem S9(st:List (Int×Int))(n b:Int):(DK st n b).map (·.1)=Ej (st.map (·.1)) n:=by
 have e:(st.any fun p=>decide (p.1=n))=decide (n∈st.map (·.1)):=by
  rw[Yz,Y9,UV];constructor
  .rintro⟨x,a,h⟩;exact Ya.mpr ⟨x,a,X7 h⟩
  .intro h;obtain⟨x,a,h⟩:=Ya.mp h;exact⟨x,a,Yq h⟩
 unfold DK Ej;rw[e]
 by_cases h:n∈st.map (·.1)
 .rw[Y3 (Yq h),Y3 h,YM];apply YV;intro x _;simp only[Function.comp]
  split <;> rfl
 .rw[Y2 (by rw[Y9];exact h),Y2 h,Yn];rfl
theorem Pz(la:Bool):∀ (bs:Wp) (st:List (Int×Int)) (n:Int),(Jp la st n bs).map (·.1)=AJ (st.map (·.1)) n bs.length
 |[],_,_=>rfl
 |b::bs,st,n=>by
  show(Jp la _ (n+ 1) bs).map (·.1)=AJ (Ej (st.map (·.1)) n) (n+ 1) bs.length;rw[Pz la bs]
  congr 1
  split <;> rename_i hc
  .exact S9 st n b
  .have h:n∈st.map (·.1):=by
    have:(Jc st n).isSome=true:=by
     rcases VI (Jc st n).isSome with z|z
     .exact z
     .exact absurd (.inr z) hc
    rw[KD]at this;exact X7 this
   unfold Ej;rw[Y3 h]
structure GP(B:Wp)(rs:RS):Prop where
 ex:∃Z,Wx B rs Z
 nd:(rs.st.map (·.1)).Nodup
 ib:Tc rs
theorem GP.zero{B:Wp}(h:1 <=B.length):GP B TN:=⟨⟨[],Wx.zero h⟩,.nil,Tc.zero⟩
theorem GP.step{B:Wp}{rs:RS}{d:PD}(la:Bool)(h:GP B rs)(c:Cs B d)(hd:d.Ok):GP B (Tp la rs d):=by
 obtain⟨Z,a⟩:=h.ex;refine⟨⟨_,a.step la c⟩,?_,h.ib.step la hd⟩;show((Jp la rs.st d.at' d.ns).map (·.1)).Nodup;rw[Pz];exact ON _ _ h.nd
theorem GP.mem{B:Wp}{rs:RS}(h:GP B rs)(n:Int):n∈rs.st.map (·.1)↔Jo rs.cv n:=by
 obtain⟨Z,a⟩:=h.ex;rw[a.dom,KD,Y9]
def M5(n:Nat):List Int:=(List.range n).map fun i:Nat=>((i:Nat):Int)
theorem GP.sub{B:Wp}{rs:RS}(h:GP B rs):∀k∈rs.st.map (·.1),k∈M5 B.length:=fun k a=>by
 obtain⟨Z,b⟩:=h.ex;have:=b.nonneg ((h.mem k).mp a);exact Ya.mpr ⟨k.toNat,Xc.mpr (by lia),by lia⟩
theorem GP.len{B:Wp}{rs:RS}(h:GP B rs):rs.st.length <=B.length:=by
 have:=Eh h.nd h.sub;unfold M5 at this;rw[Y0,Y0,YB]at this;exact this
theorem PJ(n:Nat):(M5 n).Nodup:=by
 unfold M5;refine UK.mpr (VJ.imp fun h e=>h (by lia))
theorem GP.body{B:Wp}{rs:RS}(h:GP B rs)(hl:WR rs.en 0 rs.cv=[]):JO rs=B:=by
 obtain⟨Z,a⟩:=h.ex;obtain⟨h1,h2⟩:=a.full hl;unfold JO;rw[h1];apply List.ext_getElem?;intro i;rw[Yc];show Option.map _ (List.range ((B.length:Int)).toNat)[i]?=_;rw[X6]
 by_cases hi:i < B.length
 .rw[XD hi];have:=h2 i (by lia) (by lia);rw[a.dom]at this;obtain⟨y,b⟩:=Xw.mp this;obtain⟨j,d,c⟩:=a.st _ _ b;rw[show j=i by lia]at c;rw[c];show some ((Jc rs.st (i:Int)).getD 0)=_;rw[b];rfl
 .rw[Xt (by rw[YB];lia),Xt (by lia)];rfl
theorem GP.calm{B:Wp}{rs:RS}{d:PD}(h:GP B rs)(c:Cs B d):strange rs d=false/\N1 rs.st d.at' d.ns=none:=by
 obtain⟨Z,a⟩:=h.ex;exact a.calm c
section
variable{B:Wp}{wd n:Nat}{gv:List Nat}{rs:RS}
theorem Jq.n167(hb:Jq B wd n):n <=167:=by
 have n1:=hb.n1;have l2:=hb.l2;have:24*(n - 1) <=wd*(n - 1):=V9 _ hb.w1
 lia
theorem Jq.lo(hb:Jq B wd n){k:Nat}(hk:k < n):wd*k < B.length:=Yg (X2 _ (by lia)) hb.n1
theorem Jq.ok(hb:Jq B wd n){k:Nat}(hk:k < n):(WG B wd k).Ok:=PR hb.l2 hb.by' hb.w1 hb.w2 hb.w8 (hb.lo hk)
theorem Dq(k:Nat)(x:Int):GK (WG B wd k) x↔((wd*k:Nat):Int) <=x/\x < Mp B wd k:=Iff.rfl
theorem Bz(hb:Jq B wd n){k:Nat}(hk:k < n):Cs B (WG B wd k):=by
 have a:=hb.lo hk;have w1:=hb.w1;refine⟨wd*k,min (wd*k+ wd) B.length,by lia,by lia,rfl,?_,?_⟩
 .show(B.drop (wd*k)).take wd=_
  by_cases h:wd*k+ wd <=B.length
  .rw[U8 h];congr 1;lia
  .rw[Nat.min_eq_right (by lia),YD (by rw[YQ];lia),YD (by rw[YQ];lia)]
 .show decide (wd*k+ wd < B.length)=_
  congr 1;apply propext;lia
theorem Lr(hb:Jq B wd n){k:Nat}(hk:k < n):(WG B wd k).mo=decide (k+ 1 < n):=by
 show decide (wd*k+ wd < B.length)=_
 congr 1;apply propext
 have e:wd*k+ wd=wd*(k+ 1):=by rw[Nat.mul_succ]
 constructor
 .intro h;refine YY fun z=>?_
  have:k+ 1=n:=by lia
  have n2:=hb.n2;rw[<-this,<-e]at n2
  lia
 .intro h;have:=hb.lo h
  lia
theorem Kk(hb:Jq B wd n){x:Int}(h0:0 <=x)(h1:x < B.length):∃k,k < n/\GK (WG B wd k) x:=by
 have w1:=hb.w1;obtain⟨a,c⟩:∃a:Nat,x=(a:Int):=⟨x.toNat,by lia⟩;subst c;have f:=Nat.div_add_mod a wd;have d:=Nat.mod_lt a (show 0 < wd by lia);have b:a / wd < n:=by
  refine Nat.div_lt_of_lt_mul ?_;have:=hb.n2
  lia
 refine⟨a / wd,b,(Dq _ _).mpr ⟨by lia,?_⟩⟩;rw[Rn hb b];have e:wd*(a / wd)+ wd=wd*(a / wd+ 1):=by rw[Nat.mul_succ]
 split <;> lia
theorem C4(hb:Jq B wd n){j k:Nat}(hj:j < n)(hk:k < n){x:Int}(a:GK (WG B wd j) x)(b:GK (WG B wd k) x):j=k:=by
 rw[Dq]at a b;have key:∀{j k:Nat},j < n->k < n->j < k->x < Mp B wd j->((wd*k:Nat):Int) <=x->False:=fun {j k} hj hk h h1 h2=>by
  rw[Rn hb hj,Y3 (by lia)]at h1;have:wd*(j+ 1) <=wd*k:=X2 _ h
  lia
 rcases Nat.lt_trichotomy j k with h|h|h
 .exact(key hj hk h a.2 b.1).elim
 .exact h
 .exact(key hk hj h b.2 a.1).elim
theorem CC(hb:Jq B wd n){k:Nat}(hk:k < n):GK (WG B wd k) ((wd*k:Nat):Int):=by
 rw[Dq];refine⟨YJ _,?_⟩;have:=hb.lo hk;have w1:=hb.w1;have e:wd*k+ wd=wd*(k+ 1):=by rw[Nat.mul_succ]
 rw[Rn hb hk]
 split <;> lia
def T2(gv:List Nat)(k:Nat):List Nat:=if k∈gv then gv else gv++[k]
theorem Dl(gv:List Nat)(k j:Nat):j∈T2 gv k↔j∈gv\/j=k:=by
 unfold T2
 split
 .rename_i h;exact⟨.inl,fun z=>z.elim id fun e=>by rw[e];exact h⟩
 .rw[Yj,Y8]
structure NR(B:Wp)(wd:Nat)(gv:List Nat)(rs:RS):Prop where
 gp:GP B rs
 zz:∃Z,Wx B rs Z/\∀d,d∈Z↔∃k∈gv,d=WG B wd k
theorem NR.zero(hb:Jq B wd n):NR B wd [] TN:=⟨GP.zero (by have:=hb.l1;lia),[],Wx.zero (by have:=hb.l1;lia),fun d=>⟨(fun h=>nomatch h),(fun⟨_,h,_⟩=>nomatch h)⟩⟩
theorem NR.step(hb:Jq B wd n)(h:NR B wd gv rs){k:Nat}(hk:k < n)(la:Bool):NR B wd (T2 gv k) (Tp la rs (WG B wd k)):=by
 obtain⟨Z,b,a⟩:=h.zz;refine⟨h.gp.step la (Bz hb hk) (hb.ok hk),_,b.step la (Bz hb hk),fun d=>?_⟩;rw[Yj,Y8,a];constructor
 .rintro(⟨j,hj,e⟩|e)
  .exact⟨j,(Dl ..).mpr (.inl hj),e⟩
  .exact⟨k,(Dl ..).mpr (.inr rfl),e⟩
 .rintro⟨j,hj,e⟩;rcases(Dl ..).mp hj with z|z
  .exact .inl ⟨j,z,e⟩
  .rw[z]at e;exact .inr e
theorem NR.cvr(h:NR B wd gv rs)(x:Int):Jo rs.cv x↔∃k∈gv,GK (WG B wd k) x:=by
 obtain⟨Z,c,b⟩:=h.zz;rw[c.tk];constructor
 .rintro⟨d,hd,hx⟩;obtain⟨k,a,rfl⟩:=(b d).mp hd;exact⟨k,a,hx⟩
 .rintro⟨k,a,hx⟩;exact⟨_,(b _).mpr ⟨k,a,rfl⟩,hx⟩
theorem NR.cov(h:NR B wd gv rs):T7 rs.cv:=by obtain⟨Z,a,_⟩:=h.zz;exact a.cov
theorem NR.los(h:NR B wd gv rs):∀p∈rs.cv,0 <=p.1:=by obtain⟨Z,a,_⟩:=h.zz;exact a.los
theorem NR.en(hb:Jq B wd n)(h:NR B wd gv rs)(gl:∀k∈gv,k < n):rs.en=if n - 1∈gv then some (B.length:Int) else none:=by
 obtain⟨Z,c,a⟩:=h.zz;have n0:=hb.n0
 split
 .rename_i hz
  refine c.en1 ⟨_,(a _).mpr ⟨_,hz,rfl⟩,?_⟩;rw[Lr hb (by lia)];exact Yt (by lia)
 .rename_i hz
  refine c.en0 fun d f=>?_
  obtain⟨k,b,rfl⟩:=(a d).mp f;have:=gl k b;rw[Lr hb this];refine Yq ?_;have:k≠n - 1:=fun e=>hz (by rw[<-e];exact b)
  lia
theorem wT{c:List (Int×Int)}(hc:T7 c){p:Int×Int}(hp:p∈c):¬Jo c (p.1 - 1):=by
 induction c with
 |nil=>exact nomatch hp
 |cons q r ih=>
  obtain⟨h1,h2,a⟩:=hc;rw[WQ];rcases Yp.mp hp with rfl|hp
  .rintro(z|⟨s,hs,z⟩)
   .lia
   .have:=h2 s hs;lia
  .rintro(z|z)
   .have:=h2 p hp;lia
   .exact ih a hp z
theorem ZA{c:List (Int×Int)}(hc:T7 c):(c.map (·.1)).Nodup:=by
 induction c with
 |nil=>exact .nil
 |cons q r ih=>
  obtain⟨h1,h2,a⟩:=hc;rw[List.map_cons];refine YI.mpr ⟨fun z=>?_,ih a⟩;obtain⟨s,hs,e⟩:=Ya.mp z;have:=h2 s hs
  lia
theorem NR.cvl(hb:Jq B wd n)(h:NR B wd gv rs)(gl:∀k∈gv,k < n):rs.cv.length <=n:=by
 have:=Eh (ZA h.cov) (ts:=(List.range n).map fun k:Nat=>((wd*k:Nat):Int)) fun x d=>by
  obtain⟨p,a,rfl⟩:=Ya.mp d;have c:Jo rs.cv p.1:=⟨p,a,YJ _,OR h.cov a⟩;obtain⟨k,b,e⟩:=(h.cvr _).mp c;rw[Dq]at e;refine Ya.mpr ⟨k,Xc.mpr (gl k b),?_⟩;refine YY fun z=>wT h.cov a ((h.cvr _).mpr ⟨k,b,(Dq _ _).mpr ⟨by lia,by lia⟩⟩)
 rw[Y0,Y0,YB]at this;exact this
theorem Tv{c:List (Int×Int)}{p:Int×Int}:T7 (c++[p])↔T7 c/\p.1 < p.2/\∀q∈c,q.2 < p.1:=by
 induction c with
 |nil=>exact⟨(fun h=>⟨trivial,h.1,(fun _ z=>nomatch z)⟩),fun h=>⟨h.2.1,(fun _ z=>nomatch z),trivial⟩⟩
 |cons q r ih=>
  constructor
  .rintro⟨h1,h2,h3⟩;obtain⟨d,b,a⟩:=ih.mp h3;refine⟨⟨h1,fun s hs=>h2 s (YG _ hs),d⟩,b,fun s hs=>?_⟩;rcases Yp.mp hs with rfl|hs
   .exact h2 p (by simp)
   .exact a s hs
  .rintro⟨⟨h1,h2,h3⟩,b,a⟩;refine⟨h1,fun s hs=>?_,ih.mpr ⟨h3,b,fun s hs=>a s (.tail _ hs)⟩⟩;rcases Yj.mp hs with z|z
   .exact h2 s z
   .rw[Y8.mp z];exact a q (.head _)
theorem Lc{c d:List (Int×Int)}{x:Int}:Jo (c++d) x↔Jo c x\/Jo d x:=by
 constructor
 .rintro⟨p,hp,h⟩;rcases Yj.mp hp with z|z
  .exact .inl ⟨p,z,h⟩
  .exact .inr ⟨p,z,h⟩
 .rintro(⟨p,hp,h⟩|⟨p,hp,h⟩)
  .exact⟨p,YG _ hp,h⟩
  .exact⟨p,Yv _ hp,h⟩
theorem Cp{p:Int×Int}{x:Int}:Jo [p] x↔p.1 <=x/\x < p.2:=by
 rw[WQ];simp only[TM,VE]
theorem x8{c:List (Int×Int)}{p:Int×Int}(hc:T7 c)(hp:p.1 < p.2)(hl:∀q∈c,q.2 <=p.1):T7 (Nn c p)/\(∀q∈Nn c p,q.2 <=p.2)/\∀x,Jo (Nn c p) x↔Jo c x\/(p.1 <=x/\x < p.2):=by
 unfold Nn;rcases CI c with z|⟨c0,l,z⟩
 .rw[z];refine⟨⟨hp,(fun _ z=>nomatch z),trivial⟩,fun q a=>by rw[Y8.mp a];exact YJ _,fun x=>?_⟩;show Jo [p] x↔_;rw[Cp];simp only[TM,false_or]
 .subst z;rw[Uw];obtain⟨h1,h2,b⟩:=Tv.mp hc;have f:=hl l (by simp);show T7 (if l.2=p.1 then _ else _)/\(∀q∈(if l.2=p.1 then _ else _),_)/\∀x,Jo (if l.2=p.1 then _ else _) x↔_
  split
  .rename_i e
   rw[W1];refine⟨Tv.mpr ⟨h1,by show l.1 < p.2;lia,b⟩,fun q a=>?_,fun x=>?_⟩
   .rcases Yj.mp a with z|z
    .have:=hl q (by simp[z]);lia
    .rw[Y8.mp z];exact YJ _
   .rw[Lc,Lc,Cp,Cp];show _\/(l.1 <=x/\x < p.2)↔_;constructor
    .rintro(z|z)
     .exact .inl (.inl z)
     .by_cases hx:x < p.1
      .exact .inl (.inr ⟨z.1,by lia⟩)
      .exact .inr ⟨by lia,z.2⟩
    .rintro((z|z)|z)
     .exact .inl z
     .exact .inr ⟨z.1,by lia⟩
     .exact .inr ⟨by lia,z.2⟩
  .rename_i e
   refine⟨Tv.mpr ⟨hc,hp,fun q a=>?_⟩,fun q a=>?_,fun x=>?_⟩
   .rcases Yj.mp a with z|z
    .have:=b q z;lia
    .rw[Y8.mp z];lia
   .rcases Yj.mp a with z|z
    .have:=hl q z;lia
    .rw[Y8.mp z];exact YJ _
   .rw[Lc (d:=[p]),Cp]
theorem K5(hb:Jq B wd n)(gv:List Nat):∀{m:Nat},m <=n->T7 (Jl B wd gv m)/\(∀q∈Jl B wd gv m,q.2 <=((wd*m:Nat):Int))/\∀x,Jo (Jl B wd gv m) x↔∃k,k < m/\k∉gv/\GK (WG B wd k) x
 |0,_=>⟨trivial,(fun _ z=>nomatch z),fun x=>⟨fun z=>absurd z (TM x),fun⟨k,h,_⟩=>absurd h (Nat.not_lt_zero k)⟩⟩
 |m+ 1,hm=>by
  obtain⟨i1,i2,i3⟩:=K5 hb gv (m:=m) (by lia);have f:Mp B wd m <=((wd*(m+ 1):Nat):Int):=by
   rw[Rn hb (by lia)];have:=hb.n2
   split
   .exact YJ _
   .have:n=m+ 1:=by lia
    subst this;lia
  have g:wd*m <=wd*(m+ 1):=X2 _ (by lia);show T7 (if m∈gv then _ else _)/\(∀q∈(if m∈gv then _ else _),_)/\∀x,Jo (if m∈gv then _ else _) x↔_
  split
  .rename_i hg
   refine⟨i1,fun q a=>by have:=i2 q a;lia,fun x=>?_⟩;rw[i3];constructor
   .rintro⟨k,hk,r⟩;exact⟨k,by lia,r⟩
   .rintro⟨k,hk,hkg,r⟩;have:k≠m:=fun e=>hkg (by rw[e];exact hg)
    exact⟨k,by lia,hkg,r⟩
  .rename_i hg
   have hs:=CC hb (k:=m) (by lia);rw[Dq]at hs;obtain⟨d,c,b⟩:=x8 (p:=((WG B wd m).at',(WG B wd m).at'+ ((WG B wd m).ns.length:Int))) i1 hs.2 i2;refine⟨d,fun q a=>Int.le_trans (c q a) f,fun x=>?_⟩;rw[b,i3];constructor
   .rintro(⟨k,hk,r⟩|z)
    .exact⟨k,by lia,r⟩
    .exact⟨m,by lia,hg,z⟩
   .rintro⟨k,hk,hkg,r⟩
    by_cases e:k=m
    .rw[e]at r;exact .inr r
    .exact .inl ⟨k,by lia,hkg,r⟩
theorem Qx(hg:∀m:Nat,m < n->m∈gv):∀m:Nat,m <=n->Jl B wd gv m=[]
 |0,_=>rfl
 |m+ 1,h=>by
  show(if m∈gv then _ else _)=_;rw[Y3 (hg m (by lia))];exact Qx hg m (by lia)
theorem NR.lack(hb:Jq B wd n)(h:NR B wd gv rs)(gn:gv≠[])(gl:∀k∈gv,k < n):WR rs.en 0 rs.cv=RT B wd n gv:=by
 unfold RT;rw[h.en hb gl]
 split
 .rename_i hz
  rw[Fc];obtain⟨r,a2,q⟩:=CZ (e:=(B.length:Int)) h.cov h.los;obtain⟨p,b2,o⟩:=K5 hb gv (Y5 n)
  congr 1
  refine IN r p fun x=>?_
  rw[q,o,h.cvr];constructor
  .rintro⟨h0,h1,h2⟩;obtain⟨k,b,a⟩:=Kk hb h0 h1;exact⟨k,b,fun z=>h2 ⟨k,z,a⟩,a⟩
  .rintro⟨k,b,hg,a⟩;have aa:=(Dq _ _).mp a;have he:=Rn hb b;have hl:=hb.lo b;have:Mp B wd k <=B.length:=by
    rw[he]
    split
    .rename_i z;have:=hb.lo z;lia
    .exact YJ _
   refine⟨by lia,by lia,fun⟨j,hj,hx⟩=>hg ?_⟩;rw[C4 hb b (gl j hj) a hx];exact hj
 .rename_i hz
  have i:=Fd gn;have c:=gl _ i;have w:=Rn hb c;have d:NT gv+ 1 < n:=by
   have:NT gv≠n - 1:=fun e=>hz (by rw[<-e];exact i)
   lia
  rw[Y3 d]at w;have l:Nk 0 rs.cv=Mp B wd (NT gv):=by
   obtain⟨t1,t2,_⟩:=Ko (re:=0) h.cov;have s:=CC hb c;rw[Dq]at s;have f:Jo rs.cv (Mp B wd (NT gv) - 1):=(h.cvr _).mpr ⟨_,i,(Dq _ _).mpr ⟨by lia,by lia⟩⟩;have h1:=t1 _ f;have v:rs.cv≠[]:=fun z=>by rw[z]at f;exact TM _ f
   obtain⟨k,b,a⟩:=(h.cvr _).mp (t2 v);rw[Dq]at a;have:=(F0 hb (gl k b) c).mpr (FJ b);omega
  rw[Au h.cov,l];obtain⟨r,a2,q⟩:=CZ (e:=Mp B wd (NT gv)) h.cov h.los;obtain⟨p,b2,o⟩:=K5 hb gv (Xv d)
  congr 2
  refine IN r p fun x=>?_
  rw[q,o,h.cvr];constructor
  .rintro⟨h0,h1,h2⟩;have hlo:=hb.lo d;obtain⟨k,b,a⟩:=Kk hb h0 (x:=x) (by lia);refine⟨k,?_,fun z=>h2 ⟨k,z,a⟩,a⟩;rw[Dq]at a;refine YY fun z=>?_
   have:wd*(NT gv+ 1) <=wd*k:=X2 _ (by lia)
   lia
  .rintro⟨k,b,hg,a⟩;have g:k < n:=by lia
   have aa:=(Dq _ _).mp a;have:=(F0 hb g c).mpr (by lia);refine⟨by lia,by lia,fun⟨j,hj,hx⟩=>hg ?_⟩;rw[C4 hb g (gl j hj) a hx];exact hj
theorem NR.some(hb:Jq B wd n)(h:NR B wd gv rs)(gl:∀k∈gv,k < n){j:Nat}(hj:j < n)(hg:j∉gv):WR rs.en 0 rs.cv≠[]:=fun z=>by
 obtain⟨Z,c,_⟩:=h.zz;have hs:=CC hb hj;obtain⟨k,a,b⟩:=(h.cvr _).mp ((c.full z).2 ((wd*j:Nat):Int) (by lia) (by have:=hb.lo hj;lia));exact hg (by rw[C4 hb hj (gl k a) hs b];exact a)
theorem NR.all(hb:Jq B wd n)(h:NR B wd gv rs)(gl:∀k∈gv,k < n)(hg:∀k:Nat,k < n->k∈gv):WR rs.en 0 rs.cv=[]/\JO rs=B:=by
 have n0:=hb.n0;have e:WR rs.en 0 rs.cv=[]:=by
  rw[h.lack hb (fun z=>by have:=hg 0 (by lia);rw[z]at this;exact nomatch this) gl];unfold RT;rw[Y3 (hg _ (by lia)),Qx hg n (Y5 _)];rfl
 exact⟨e,h.gp.body e⟩
end
def Ng:Ky:=((9:Int),("ann":Str),("bo":Str))
structure D8(B:Wp)(wd n:Nat)(gv:List Nat)(R:WJ):Prop where
 wt:R.wt=1000000000
 sp:(B.length:Int) <=R.sp
 ag:R.ag="fresh"
 ws:R.ws=[]
 gl:∀k∈gv,k < n
 es:(gv=[]/\R.es=[])\/∃e,R.es=[e]/\e.ky=Ng/\0 <=e.first/\NR B wd gv e.rs
section
variable{B:Wp}{wd n:Nat}{gv:List Nat}{R:WJ}{t:Int}
theorem D8.at(h:D8 B wd n gv R)(ht:t <=100000):MU R t={R with now:=t}/\D2 {R with now:=t}=[]:=by
 have b:∀e∈R.es,Js {R with now:=t} e=false:=fun e a=>by
  have h2:=h.wt;have h1:0 <=e.first:=by
   rcases h.es with⟨_,z⟩|⟨e0,z,_,q,_⟩
   .rw[z]at a;exact nomatch a
   .rw[z]at a;rw[Y8.mp a];exact q
  unfold Js;exact Yt (by show ¬e.first+ R.wt <=t;lia)
 constructor
 .unfold MU B7;have:R.es.filter (fun e=> !Js {R with now:=t} e)=R.es:=Vc.mpr fun e a=>by rw[b e a];rfl
  show WJ.mk R.ru R.wt R.sp R.out R.ag t (R.es.filter fun e=> !Js {R with now:=t} e) R.ws=_;rw[this]
 .unfold D2;have:R.es.filter (Js {R with now:=t})=[]:=List.filter_eq_nil_iff.mpr fun e a=>by rw[b e a];exact Yf
  show(R.es.filter (Js {R with now:=t})).map _=[];rw[this];rfl
theorem D8.rest(h:D8 B wd n gv R)(k:Ky):GZ {R with now:=t} k=false:=by
 unfold GZ;show(decide (R.ag="rest") && _)=false;rw[Yt (by rw[h.ag];decide +kernel)];rfl
theorem D8.cur(hb:Jq B wd n)(h:D8 B wd n gv R):NR B wd gv (Nw R.es Ng):=by
 rcases h.es with⟨z,w⟩|⟨e,z,ek,_,i⟩
 .rw[w,z];exact NR.zero hb
 .have:Nw R.es Ng=e.rs:=by
   rw[<-ek,z];exact CS (by simp) (Y8.mpr rfl)
  rw[this];exact i
theorem D8.sz(hb:Jq B wd n)(h:D8 B wd n gv R):R.es.length < 64/\R.ws.length <=1000/\∀e∈R.es,e.rs.st.length <=10000/\e.rs.cv.length <=800/\Tc e.rs:=by
 have l2:=hb.l2;have b:=hb.n167;rw[h.ws];rcases h.es with⟨_,w⟩|⟨e,z,ek,_,i⟩
 .rw[w];exact⟨by decide,by decide,(fun _ z=>nomatch z)⟩
 .rw[z];refine⟨by rw[UW];decide,by decide,fun x a=>?_⟩;rw[Y8.mp a];have h1:=i.gp.len;have h2:=i.cvl hb h.gl;exact⟨by lia,by lia,i.gp.ib⟩
theorem QQ(h:D8 B wd n gv R)(rs:RS):∃f,Jz (J3 R.es) Ng rs t=[(Ng,rs,f)]/\(0 <=t->0 <=f):=by
 rcases h.es with⟨_,w⟩|⟨e,z,ek,q,i⟩
 .rw[w];exact⟨t,rfl,id⟩
 .rw[z];refine⟨e.first,?_,fun _=>q⟩;unfold Jz J3;rw[Y3 (by simp[ek])];show [if e.ky=Ng then _ else _]=_;rw[Y3 ek]
theorem Z4(h:D8 B wd n gv R):NM (J3 R.es) Ng=[]:=by
 rcases h.es with⟨_,w⟩|⟨e,z,ek,q,i⟩
 .rw[w];rfl
 .rw[z];unfold NM J3;simp[ek]
theorem D8.step(hb:Jq B wd n)(h:D8 B wd n gv R)(ht:t <=100000)(t0:0 <=t){k:Nat}(hk:k < n):
  ((∃j,j < n/\j∉T2 gv k)->∃rs f,Tz (MU R t) (WG B wd k)=([(Ng,rs,f)],[],[])/\0 <=f/\NR B wd (T2 gv k) rs)/\
  ((∀j,j < n->j∈T2 gv k)->∃ws,Tz (MU R t) (WG B wd k)=([],ws,[.whole ⟨9,"ann","bo",B,false⟩]))/\
  (GZ (MU R t) (WG B wd k).key=false->∀rs,Jx R.ru (Nw (MU R t).es (WG B wd k).key) (WG B wd k)= .keep rs->RB (Jz (J3 (MU R t).es) (WG B wd k).key rs t) <=R.sp):=by
 have o:(WG B wd k).key=Ng:=rfl;have i:=h.cur hb;obtain⟨c1,c2⟩:=i.gp.calm (Bz hb hk);have a:=HA (ru:=R.ru) c1 fun _=>c2
 have b:=i.step hb hk (decide (R.ru="last"));obtain⟨rs,r⟩:∃rs,rs=Tp (decide (R.ru="last")) (Nw R.es Ng) (WG B wd k):=⟨_,rfl⟩;rw[<-r]at a b;have d:∀j∈T2 gv k,j < n:=fun j g=>by
  rcases(Dl ..).mp g with z|z
  .exact h.gl j z
  .rw[z];exact hk
 have q:=(h.at ht).1;have c:GZ {R with now:=t} Ng=false:=h.rest _;rw[q,o];refine⟨fun⟨j,g,l⟩=>?_,fun l=>?_,fun _ p hs'=>?_⟩
 .rw[Y2 (b.some hb d g l)]at a;obtain⟨f,e,v⟩:=QQ (t:=t) h rs;refine⟨rs,f,?_,v t0,b⟩;unfold Tz;rw[o,Y2 (by rw[c];exact Yf)];show(match Jx R.ru (Nw R.es Ng) (WG B wd k) with| .str=>_| .unl _=>_| .keep rs=>_| .whole rs=>_)=_;rw[a];show(Jz (J3 R.es) Ng rs t,R.ws,[])=_;rw[e,h.ws]
 .obtain⟨s,w⟩:=b.all hb d l;rw[Y3 s]at a;refine⟨ML R.ws Ng t,?_⟩;unfold Tz;rw[o,Y2 (by rw[c];exact Yf)];show(match Jx R.ru (Nw R.es Ng) (WG B wd k) with| .str=>_| .unl _=>_| .keep rs=>_| .whole rs=>_)=_;rw[a];show(NM (J3 R.es) Ng,ML R.ws Ng t,[Ev.whole ⟨9,"ann","bo",JO rs,false⟩])=_;rw[w,Z4 h]
 .have hs':Jx R.ru (Nw R.es Ng) (WG B wd k)= .keep p:=hs';rw[a]at hs'
  split at hs'
  .cases hs'
  .cases hs';obtain⟨f,e,_⟩:=QQ (t:=t) h rs;show RB (Jz (J3 R.es) Ng rs t) <=R.sp;rw[e];have:=b.gp.len;have hsp:=h.sp;unfold RB;simp only[List.map_cons,List.map_nil,UQ,List.sum_nil]
   lia
theorem dE{es:List RE}{k:Ky}{rs:RS}{f:Int}(h:J3 es=[(k,rs,f)]):∃e,es=[e]/\e.ky=k/\e.rs=rs/\e.first=f:=by
 cases es with
 |nil=>cases h
 |cons e r=>
  cases r with
  |cons _ _=>unfold J3 at h;simp at h
  |nil=>
   unfold J3 at h;simp only[List.map_cons,List.map_nil,List.cons.injEq,Prod.mk.injEq,and_true]at h;exact⟨e,rfl,h.1,h.2.1,h.2.2⟩
theorem D8.next(h:D8 B wd n gv R){k:Nat}(hk:k < n){R':WJ}{rs:RS}{f:Int}(f0:0 <=f)(i:NR B wd (T2 gv k) rs)(e1:J3 R'.es=[(Ng,rs,f)])(e2:R'.ws=[])(e3:R'.wt=R.wt)(e4:R'.sp=R.sp)(e5:R'.ag=R.ag):D8 B wd n (T2 gv k) R':=by
 obtain⟨e,z,a,b,c⟩:=dE e1;refine⟨by rw[e3];exact h.wt,by rw[e4];exact h.sp,by rw[e5];exact h.ag,e2,fun j d=>?_,.inr ⟨e,z,a,by rw[c];exact f0,by rw[b];exact i⟩⟩;rcases(Dl ..).mp d with z|z
 .exact h.gl j z
 .rw[z];exact hk
theorem Qe(n:Nat):(M5 n).length=n:=by unfold M5;rw[Y0,YB]
theorem Bv(n:Nat)(x:Int):x∈M5 n↔0 <=x/\x < n:=by
 unfold M5;rw[Ya];constructor
 .rintro⟨i,hi,rfl⟩;have:=Xc.mp hi;lia
 .rintro⟨a,b⟩;exact⟨x.toNat,Xc.mpr (by lia),by lia⟩
theorem NR.bytes(hb:Jq B wd n){rs:RS}(h:NR B wd gv rs){last:Nat}(hl:last < n)(hg:∀k,k∈gv↔(k < n/\k≠last)):rs.st.length+ (WG B wd last).ns.length=B.length:=by
 have o:=CC hb hl;have hle:Mp B wd last <=B.length:=by
  rw[Rn hb hl]
  split
  .rename_i z;have:=hb.lo z;lia
  .exact YJ _
 have s:Mp B wd last=((wd*last:Nat):Int)+ ((WG B wd last).ns.length:Int):=rfl;obtain⟨m,em⟩:∃m,m=(WG B wd last).ns.length:=⟨_,rfl⟩;rw[<-em]at s ⊢;have d:∀x:Int,x∈rs.st.map (·.1)↔(0 <=x/\x < B.length)/\¬GK (WG B wd last) x:=fun x=>by
  rw[h.gp.mem,h.cvr];constructor
  .rintro⟨k,g,c⟩;obtain⟨h1,h2⟩:=(hg k).mp g;obtain⟨Z,w,_⟩:=h.zz;have:=w.nonneg ((h.cvr x).mpr ⟨k,g,c⟩);exact⟨this,fun z=>h2 (C4 hb h1 hl c z)⟩
  .rintro⟨⟨h0,h1⟩,h2⟩;obtain⟨k,g,c⟩:=Kk hb h0 h1;exact⟨k,(hg k).mpr ⟨g,fun e=>h2 (by rw[<-e];exact c)⟩,c⟩
 have j:(rs.st.map (·.1)++(M5 m).map (fun i=>((wd*last:Nat):Int)+ i)).Nodup:=by
  refine Xz.mpr ⟨h.gp.nd,UK.mpr ((PJ m).imp fun q e=>q (by lia)),fun a v b l e=>?_⟩;subst e;obtain⟨i,hi,rfl⟩:=Ya.mp l;have:=(Bv ..).mp hi;exact((d _).mp v).2 ((Dq _ _).mpr ⟨by lia,by lia⟩)
 have r:=Eh j (ts:=M5 B.length) fun x f=>by
  rw[Bv];rcases Yj.mp f with z|z
  .exact((d x).mp z).1
  .obtain⟨i,hi,rfl⟩:=Ya.mp z;have:=(Bv ..).mp hi
   lia
 have p:=Eh (PJ B.length) (ts:=rs.st.map (·.1)++(M5 m).map (fun i=>((wd*last:Nat):Int)+ i)) fun x f=>by
  have f:=(Bv ..).mp f
  by_cases c:GK (WG B wd last) x
  .rw[Dq]at c;exact Yv _ (Ya.mpr ⟨x - ((wd*last:Nat):Int),(Bv ..).mpr ⟨by lia,by lia⟩,by lia⟩)
  .exact YG _ ((d x).mpr ⟨f,c⟩)
 rw[List.length_append,Y0,Y0,Qe,Qe]at r p
 lia
end
theorem NR.congr{B:Wp}{wd:Nat}{gv gw:List Nat}{rs:RS}(h:NR B wd gv rs)(e:∀k,k∈gv↔k∈gw):NR B wd gw rs:=by
 obtain⟨Z,b,a⟩:=h.zz;exact⟨h.gp,Z,b,fun d=>by rw[a];exact⟨fun⟨k,hk,q⟩=>⟨k,(e k).mp hk,q⟩,fun⟨k,hk,q⟩=>⟨k,(e k).mpr hk,q⟩⟩⟩
structure MT(C CR:Wo)(H1 G:Hp)(m dr df dw g:Wo)(R:WJ)(B:Wp)(wd n:Nat)(gc gv:List Nat):Prop where
 sm:Ww H1 G
 rm:Wz C CR G m dr df dw R
 a:D8 B wd n gc R
 fp:∀c,Gg R m dr df dw c->H1 c=none
 gd:Ch G g gv
 g1:H1 g=none
 g2:¬Gg R m dr df dw g
section
variable{P:Wh}{w:Wl}{K:Wm}{mg:Wd}{base:Wr}{C CR CP CL:Wo}{H1 G G':Hp}{m dr df dw g:Wo}{R R':WJ}{B:Wp}{wd n:Nat}{gc gv:List Nat}{t:Int}{k:Nat}{q b:Wo}
theorem MT.mono(h:MT C CR H1 G m dr df dw g R B wd n gc gv)(s:Ww G G'):MT C CR H1 G' m dr df dw g R B wd n gc gv:=by
 obtain⟨kvs,e,r⟩:=h.gd.ex;exact⟨h.sm.trans s,h.rm.mono s,h.a,h.fp,⟨kvs,s _ _ e,r⟩,h.g1,h.g2⟩
theorem MT.go(h:MT C CR H1 G m dr df dw g R B wd n gc gv){xs:List AE}{ws:List (Ky×Int)}(hn:TC C CR G G' m dr df dw {R with now:=t} R' xs ws):Ww H1 G'/\(∀c,Gg R' m dr df dw c->H1 c=none)/\Ch G' g gv/\¬Gg R' m dr df dw g:=by
 obtain⟨kvs,e,r⟩:=h.gd.ex;have d:∀c o,G c=some o->¬Gg R m dr df dw c->G' c=some o:=fun c o e z=>hn.kp c o e z
 have b:∀c,G c=none->H1 c=none:=fun c i=>by
  cases z:H1 c with
  |none=>rfl
  |some o=>rw[h.sm _ _ z]at i;cases i
 have a:∀c,Gg R' m dr df dw c->Gg R m dr df dw c\/G c=none:=fun c z=>by
  rcases z with z|z|z|z|⟨y,hy,z⟩
  .exact .inl (.inl z)
  .exact .inl (.inr (.inl z))
  .exact .inl (.inr (.inr (.inl z)))
  .exact .inl (.inr (.inr (.inr (.inl z))))
  .rcases hn.nw y hy with⟨e0,h0,h1,h2⟩|⟨h1,h2⟩
   .refine .inl (.inr (.inr (.inr (.inr ⟨e0,h0,?_⟩))));rw[<-h1,<-h2];exact z
   .rcases z with z|z
    .rw[z];exact .inr h1
    .rw[z];exact .inr h2
 refine⟨fun c o z=>d c o (h.sm _ _ z) fun f=>(by rw[h.fp c f]at z;cases z),fun c z=>?_,⟨kvs,d _ _ e h.g2,r⟩,fun z=>?_⟩
 .rcases a c z with f|f
  .exact h.fp c f
  .exact b c f
 .rcases a g z with f|f
  .exact h.g2 f
  .rw[e]at f;cases f
theorem MT.come(hb:Jq B wd n)(h:MT C CR H1 G m dr df dw g R B wd n gc gv)(hk:k < n)(hj:∃j,j < n/\j∉T2 gc k)(hp:Jg CP H1 q b (WG B wd k))(t0:0 <=t)(t1:t <=100000)(tn:R.now <=t){Q:VK}{E:XK}
  (hQ:∀R' l G',G l=none->MT C CR H1 G' m dr df dw g R' B wd n (T2 gc k) gv->R'.now=t->G' l=some (.lst [])->Q (.ref l) G'):BW C CR CP CL [.ref m,.int t,.ref q] G Q E:=by
 obtain⟨v,s,r⟩:=h.a.sz hb;obtain⟨o1,o2,o3⟩:=h.a.step hb t1 t0 hk;refine⟨m,dr,df,dw,q,b,R,WG B wd k,t,rfl,h.rm,hp.mono h.sm,tn,v,s,r,o3,fun ps R' l G' d _ hl c p=>?_⟩;obtain⟨rs,f,eo,f0,i⟩:=o1 hj;rw[(h.a.at t1).2]at d;have o:ps=[]:=List.Perm.eq_nil d;subst o;rw[eo]at c p;obtain⟨g1,g2,g3,g4⟩:=h.go c;obtain⟨p1,p2,p3,p4,z,w⟩:=c.pr;refine hQ R' l G' hl ⟨g1,c.ok,h.a.next hk f0 i c.es c.ws' p2 p3 z,g2,g3,h.g1,g4⟩ w ?_;obtain⟨xs,e,hx⟩:=p;have:xs=[]:=Uc (by rw[hx.1];rfl);rw[this]at e;exact e
theorem MT.last(hb:Jq B wd n)(h:MT C CR H1 G m dr df dw g R B wd n gc gv)(hk:k < n)(hj:∀j,j < n->j∈T2 gc k)(hp:Jg CP H1 q b (WG B wd k))(t0:0 <=t)(t1:t <=100000)(tn:R.now <=t){Q:VK}{E:XK}
  (hQ:∀R' l v G',Ww H1 G'->Wz C CR G' m dr df dw R'->R'.es=[]->G' l=some (.lst [v])->Ik CL G' v (.whole ⟨9,"ann","bo",B,false⟩)->Q (.ref l) G'):BW C CR CP CL [.ref m,.int t,.ref q] G Q E:=by
 obtain⟨z1,z,w⟩:=h.a.sz hb;obtain⟨o1,o2,o3⟩:=h.a.step hb t1 t0 hk;refine⟨m,dr,df,dw,q,b,R,WG B wd k,t,rfl,h.rm,hp.mono h.sm,tn,z1,z,w,o3,fun ps R' l G' f _ hl c s=>?_⟩;obtain⟨ws,eo⟩:=o2 hj;rw[(h.a.at t1).2]at f;have o:ps=[]:=List.Perm.eq_nil f;subst o;rw[eo]at c s;obtain⟨g1,g2,g3,g4⟩:=h.go c;obtain⟨xs,e,i⟩:=s;have p:R'.es=[]:=Ve.mp c.es;have d:xs.length=1:=i.1;obtain⟨v,rfl⟩:∃v,xs=[v]:=by
  cases xs with
  |nil=>cases d
  |cons v r=>cases r with
   |nil=>exact⟨v,rfl⟩
   |cons _ _=>simp at d
 exact hQ R' l v G' g1 c.ok p e (i.2 0 v _ rfl rfl)
theorem Wz.butD{kvs:List (WU×V)}(h:Wz C CR G m dr df dw R)(bt:Jh g G G')(eg:G g=some (.dK kvs))(n:∀e∈R.es,g≠e.a):Wz C CR G' m dr df dw R:=by
 obtain⟨dx,fs,w,r⟩:=h.ex;have d:∀{c:Wo} {C dx fs},G c=some (.ins C dx fs)->G' c=some (.ins C dx fs):=fun e=>bt _ _ e (Wv e eg nofun)
 have s:∀{c:Wo} {xs},G c=some (.lst xs)->G' c=some (.lst xs):=fun e=>bt _ _ e (Wv e eg nofun)
 have p:∀{c:Wo} {xs},G c=some (.tup xs)->G' c=some (.tup xs):=fun e=>bt _ _ e (Wv e eg nofun)
 have b:∀{c:Wo} {kvs},G c=some (.dT kvs)->G' c=some (.dT kvs):=fun e=>bt _ _ e (Wv e eg nofun)
 refine⟨⟨dx,fs,d w,r⟩,b h.dR,b h.dF,b h.dW,h.n1,h.n2,h.n3,fun e i=>?_,h.np,h.na,h.nk⟩;have r:=h.rd e i;obtain⟨l,j,v,o⟩:=r.ex;obtain⟨xs,f,hc⟩:=r.cv;exact⟨⟨l,j,d v,o⟩,bt _ _ r.dk fun z=>n e i z.symm,xs,s f,hc.tk fun t ys q=>p q⟩
theorem MT.put{kvs:List (WU×V)}{v:V}(h:MT C CR H1 G m dr df dw g R B wd n gc gv)(eg:G g=some (.dK kvs))(hkv:kvs.map (·.1)=gv.map fun k:Nat=>Sum.inl (k:Int))(bt:Jh g G G')(e':G' g=some (.dK (Md kvs (.inl (k:Int)) v)))(hk:k∉gv):MT C CR H1 G' m dr df dw g R B wd n gc (gv++[k]):=by
 refine⟨fun c o e=>bt _ _ (h.sm _ _ e) fun z=>(by rw[z,h.g1]at e;cases e),h.rm.butD bt eg fun e f z=>h.g2 (.inr (.inr (.inr (.inr ⟨e,f,.inr z⟩)))),h.a,h.fp,⟨_,e',?_⟩,h.g1,h.g2⟩;have d:(kvs.any fun b=>decide (b.1=(Sum.inl (k:Int):WU)))=false:=by rw[Ea,PB hkv];exact Yt hk
 unfold Md;rw[Y2 (by rw[d];exact Yf),Yn,Yn,hkv];rfl
inductive OL(C:Wo)(vs:List V)(H:Hp)(Q:VK)(E:XK):Prop|mk (ru out ag:Str) (wt sp:Int) (_:vs=[.str ru,.int wt,.int sp,.str out,.str ag]) (_:(ru="first"\/ru="last"\/ru="refuse")) (_:1 <=wt) (_:1 <=sp) (_:(out="oldest"\/out="widest"\/out="own")) (_:(ag="fresh"\/ag="rest")) (_:∀m dr df dw G,H m=none->H dr=none->H df=none->H dw=none->Ww H G->(∀CR,Wz C CR G m dr df dw ⟨ru,wt,sp,out,ag,0,[],[]⟩)->Q (.ref m) G)
theorem jO{C:Wo}(F:Dx P w K mg base "Room" C 3 ["self","rule","wait","space","out","again"] [] (O3 C)):MZ P w K mg base "Room" 3 (OL C):=by
 refine F.ct fun vs H Q h y dx G a aa hn s g=>?_
 obtain⟨ru,out,n,d,sp,rfl,h1,h2,l,j,i,q⟩:=h;exact⟨y,dx,ru,out,n,d,sp,rfl,g,h1,h2,l,j,i,fun dr df dw z v r p b f=>⟨rfl,q y dr df dw z a (s.free v) (s.free r) (s.free p) (fun c o e=>b c o (s c o e) (No e a)) f⟩⟩
end
section
variable{P:Wh}{w:Wl}{K:Wm}{mg:Wd}{base:Wr}
theorem SE(ns:Wp):PyData.canLayAll0 (ns.map PyData.int)=true/\PyData.depthAll (ns.map PyData.int) <=2:=by
 induction ns with
 |nil=>exact⟨rfl,by simp[PyData.depthAll]⟩
 |cons n r ih=>
  refine⟨by simp[PyData.canLayAll0,PyData.canLay0,ih.1],?_⟩;have:=ih.2;simp[PyData.depthAll,PyData.depth];lia
theorem CN(ns:Wp):SeqAt.shaped (.list (ns.map PyData.int))=true:=by
 obtain⟨a,b⟩:=SE ns;simp[SeqAt.shaped,PyData.canLay0,PyData.depth,a]
 lia
theorem QE{n last:Nat}{os:List Nat}(h:Ql n os last):os.length+ 1=n:=by
 have h1:=Eh (ks:=last::os) (ts:=List.range n) (YI.mpr ⟨fun z=>((h.mem _).mp z).2 rfl,h.nd⟩) fun k a=>by
  rcases Yp.mp a with z|z
  .rw[z];exact Xc.mpr h.lt
  .exact Xc.mpr ((h.mem _).mp z).1
 have h2:=Eh (ks:=List.range n) (ts:=last::os) VJ fun k a=>by
  by_cases z:k=last
  .rw[z];exact Ys
  .exact Yi _ ((h.mem _).mpr ⟨Xc.mp a,z⟩)
 rw[YB,List.length_cons]at h1 h2
 lia
inductive Ll(CP T:Wo)(vs:List V)(H:Hp)(Q:VK)(E:XK):Prop|mk (ru:Str) (lb lp:Wo) (c:Int) (B:Wp) (wd:Nat) (qs:List (Addr×Addr)) (_:vs=[.str ru,.ref lb,.ref lp,.int c]) (_:(ru="first"\/ru="last"\/ru="refuse")) (_:Jq B wd qs.length) (_:Rt CP B wd H qs) (_:H lb=some (.lst (B.map V.int))) (_:H lp=some (.lst (qs.map fun p=>V.ref p.1))) (_:TK H T Jd) (_:∀G,Jh T H G->TK G T Jd->Q (.bl true) G)
abbrev HJ:Stmt:=top 58
theorem GR:Jv ["_law_rule","_law_body","_law_pieces_here","_law_cell","_law_order_here","_law_last","_law_room_here","_law_given","_law_turn","_law_events","_law_k","_law_again"] ["_law_rule","_law_body","_law_pieces_here","_law_cell"] (Wt HJ):=by walk_at"e"
theorem tF{f C CR CP CL T:Wo}{fd:Wj}(F:JL K "_law_room" "_law_room" HJ f fd)(B:Bt mg)(LP:D5 K CP)(Tb:Nt P w K mg base "_law_order" 9 ["_law_many","_law_cell"] [] (CO T))(RZ:MZ P w K mg base "Room" 3 (OL C))(JW:Nq P w K mg base C "come" 9 ["self","time","piece"] [] (BW C CR CP CL))(Td:Nt P w K mg base "_law_lacks_right" 7 ["_law_room_here","_law_pieces_here","_law_given"] [] (Lm C CR CP))(Ja:Nq P w K mg base C "bytes_kept" 2 ["self"] [] (A4 C CR))(NV:Nq P w K mg base C "kept" 1 ["self"] [] (Lf C CR))(gC_Letter:mg "Letter"=some (.ref CL))(ic_Letter:GN K CL)(LL:A2 K CL)(ll:W.kitOne K (.ref CL) (.ref CL)=some true):WA P w K mg base Je 10 f fd ["_law_rule","_law_body","_law_pieces_here","_law_cell"] (Ll CP T):=by
 refine F.ok GR (fun vs H Q E h=>?_) (fun cdv A outer s H vs Q E hr h=>?_)
 .obtain⟨ru,lb,lp,c,B,wd,qs,rfl,_⟩:=h;rfl
 .obtain⟨ru,lb,lp,c,Bd,wd,qs,rfl,hru,hb,ps,eB,eL,tb,q⟩:=h;refine⟨_,(WN (Hj (N7 Tb hr.m rfl (Mj (Nh (D6 (D3 (K:=K) rfl)) B.len (WH 2 Wy)) (WH 3 Wy))) (Eg (K:=K) (n:=2) rfl rfl (Dn (Mw 4 GR) (Dn (Mw 5 GR) Ee)))) (WN (NL 6 GR (Rs RZ hr.m rfl (WH 0 (JM (hs:=E9) (JJ (dI O5) J1 J1) (MQ (Me K (TD (Mj (Nh (D6 (D3 (K:=K) rfl)) B.len (WH 1 Wy)) (JM (hs:=E9) (JJ (dI O5) J1 J1) Wy))) (JJ (dI MO) (JJ (dI B1) (Wu 3) J1) J1)) (Nz TH (Nz TH Wy))))))) (WN (NL 7 GR Qq) (WN (Gi X4 rfl (RY rfl B.range (JM (hs:=E9) (JJ (dI GQ) (JJ (dI GQ) J1 (RK (K4 FE) rfl B.bint (by rfl) (JM (hs:=Ap) (TF (Gn Gx) (JJ (dI MO) (JJ (dI B1) (Wu 3) J1) J1) J1 (M0 _)) Wy))) (RK (K4 FE) rfl B.bint (by rfl) (JM (hs:=Ap) (TF (BR (Bx (K:=K) (Room.units hr) rfl)) (Wu 4) (TD Wy) (M0 _)) Wy))) Wy)) (Mw 8 GR) (WV (Nf (T3 (BR (Bx (K:=K) (Room.units hr) rfl)) (Mz (Wu 6) JW hr.m (Nz J1 (MQ (Me K (Wu 2) (Me K (Wu 4) J1)) Wy))) (TD Wy)) (WV (Jr Gv)) Nr))) (WN (Gi X4 rfl (RY rfl B.range (Mj (Nh (D6 (D3 (K:=K) rfl)) B.len (WH 4 Wy)) Wy)) (Mw 8 GR) (WN (NL 10 GR (Me K (Wu 4) (Wu 8))) (WN (P4 (Dw hr) (Wu 7) (Wu 10) Gv rfl) (WN (Gi X4 rfl (RY rfl B.range (JM (hs:=E9) (JJ (Nm MY) J1 (RK (K4 FE) rfl B.bint (by rfl) (JM (hs:=Ap) (TF (Gn Gx) (JJ (dI MO) (Wu 8) J1) J1 (M0 _)) Wy))) Wy)) (Mw 11 GR) (WV (Nf (T3 (BR (Bx (K:=K) (Room.units hr) rfl)) (Mz (Wu 6) JW hr.m (WH 8 (MQ (Me K (Wu 2) (Wu 10)) Wy))) (TD Wy)) (WV (Jr Gv)) Nr))) (WV (Nf (PW.pt (EG (T3 (Gn Gx) (JJ (dI MO) (Wu 8) J1) J1) (Er (TL (Te (N7 Td hr.m rfl (WH 6 (WH 2 (WH 7 Wy))))))))) (WV (Jr Gv)) Nr)))))) (WN (Nf (PW.pt (EG (T3 (BR (Bx (K:=K) (Room.units hr) rfl)) (Wu 4) (TD Wy)) (Er (T3 (RG Rv) (Mu (Wu 6) Ja hr.m) (JJ (Nm FN) (Nh (D6 (D3 (K:=K) rfl)) B.len (WH 1 Wy)) (Nh (D6 (D3 (K:=K) rfl)) B.len (MK (JK K (Me K (Wu 2) (Wu 5))) Wy))))))) (WV (Jr Gv)) Nr) (WN (NL 9 GR (Mz (Wu 6) JW hr.m (Mj (Nh (D6 (D3 (K:=K) rfl)) B.len (WH 4 Wy)) (MQ (Me K (Wu 2) (Wu 5)) Wy)))) (WN (Nf (PW.pt (DQ (T3 (RG Rv) (Nh (D6 (D3 (K:=K) rfl)) B.len (WH 9 Wy)) J1) (DQ (T3 (RG Rv) (MD K (Me K (Wu 9) J1) J1) TH) (GH (TL (Te (Nh (Ac (K:=K) rfl) B.isinstance (MQ (MD K (Me K (Wu 9) J1) J1) (JM (hs:=MC) (Gz (v:=.ref CL) rfl gC_Letter rfl) Wy))))))))) (WV (Jr Gv)) Nr) (WV (Jr (Mo (TF (Bs (K:=K) (Room.units hr) rfl) (JK K (MD K (Me K (Wu 9) J1) J1)) (Wu 1) (M0 _)) (Db (TF (HD (Ig (K:=K) (Room.units hr) rfl)) (Mu (Wu 6) NV hr.m) (TD Wy) (M0 _)))))))))))))),?_⟩;refine Ju fun N d=>?_
  walk_at"rd";have n167:=hb.n167;refine⟨_,.inl (WB.of eL),?_⟩;rw[Y0];refine⟨qs.length,c,rfl,hb.n0,by lia,tb,fun t0 lo os last H1 ht0 hlo b1 tb1 ho e1 eO=>⟨t0,rfl,_,JV.of e1,rfl,_,_,rfl,_,_,rfl,rfl,d _ _ ?_⟩⟩;clear d N;have q1:∀G,Ww H1 G->Q (.bl true) G:=fun G s1=>q G (fun x o e hx=>s1 _ _ (b1 _ _ e hx)) (tb1.same s1)
  have ps1:Rt CP Bd wd H1 qs:=fun k a b hk=>by
   have hP:=ps k a b hk;obtain⟨dx,fs,h⟩:=hP.ins;exact hP.but b1 (fun z=>by obtain⟨tt,e,_⟩:=tb.ex;rw[z,e]at h;cases h) (Rp tb hP.bd)
  have eB1:=b1 _ _ eB (Rp tb eB);have eL1:=b1 _ _ eL (Rp tb eL);clear q ps tb b1 eB eL e1 ht0 hlo;have hos:=QE ho;have hl1:=hb.l1;have hl2:=hb.l2;refine Ju fun N d=>?_
  walk_at"rd";refine⟨by unfold Io;decide,_,.inl (WB.of eB1),by unfold Io;decide,by rw[Ym];decide,fun l1 G1 hl1 s1 e1=>⟨by unfold HG;decide,by decide,_,WB.of e1,?_⟩⟩;rw[Y0];obtain⟨sp,esp,hsp⟩:∃sp:Int,Mh [V.int (Bd.length:Int),V.int (10 ^ Int.toNat 9)] (c / 4%2)=some (V.int sp)/\(Bd.length:Int) <=sp:=by
   have:c / 4%2=0\/c / 4%2=1:=by lia
   rcases this with z|z <;> rw[z]
   .exact⟨_,rfl,YJ _⟩
   .exact⟨_,rfl,by show(Bd.length:Int) <=10 ^ 9;lia⟩
  refine⟨_,esp,ru,_,_,_,_,rfl,hru,by decide,by lia,.inr (.inr rfl),.inl rfl,fun m dr df dw G2 hm hdr hdf hdw s2 hR=>d _ _ ?_⟩;clear d N;refine Ju fun N d=>?_
  walk_at"rd";intro g G3 hg s3 e3;refine d _ _ ?_;clear d N;have s13:Ww H1 G3:=(s1.trans s2).trans s3;have fr1:∀{x},G1 x=none->H1 x=none:=fun {x} hx=>s1.free hx
  have fr2:∀{x},G2 x=none->H1 x=none:=fun {x} hx=>fr1 (s2.free hx)
  have S0:MT C CR H1 G3 m dr df dw g ⟨ru,10 ^ Int.toNat 9,sp,"own","fresh",0,[],[]⟩ Bd wd qs.length [] []:=by
   refine⟨s13,(hR CR).mono s3,⟨rfl,hsp,rfl,rfl,(fun _ z=>nomatch z),.inl ⟨rfl,rfl⟩⟩,fun c z=>?_,⟨[],e3,rfl⟩,fr2 hg,fun z=>?_⟩
   .rcases z with z|z|z|z|⟨y,hy,_⟩
    .rw[z];exact fr1 hm
    .rw[z];exact fr1 hdr
    .rw[z];exact fr1 hdf
    .rw[z];exact fr1 hdw
    .exact nomatch hy
   .obtain⟨dx,fs,hmm,_⟩:=(hR CR).ex;rcases z with z|z|z|z|⟨y,hy,_⟩
    .rw[z,hmm]at hg;cases hg
    .rw[z,(hR CR).dR]at hg;cases hg
    .rw[z,(hR CR).dF]at hg;cases hg
    .rw[z,(hR CR).dW]at hg;cases hg
    .exact nomatch hy
  obtain⟨R0,eR0⟩:∃R0:WJ,R0=⟨ru,10 ^ Int.toNat 9,sp,"own","fresh",0,[],[]⟩:=⟨_,rfl⟩;rw[<-eR0]at S0;have now0:R0.now=0:=by rw[eR0]
  clear eR0 hR s1 s2 s3 e1 hl1 hm hdr hdf hdw hg e3 esp;have hmo:∀k,k∈os->k < qs.length/\k≠last:=fun k hk=>(ho.mem k).mp hk
  have hpc:∀k,k < qs.length->∃a b,qs[k]?=some (a,b)/\Jg CP H1 a b (WG Bd wd k)/\Mh (qs.map fun p=>V.ref p.1) (k:Int)=some (V.ref a):=fun k hk=>by
   obtain⟨⟨a,b⟩,hq⟩:∃p,qs[k]?=some p:=⟨_,Y6 hk⟩;exact⟨a,b,hq,ps1 k a b hq,Ry (by rw[Yc,hq];rfl)⟩
  have hlk : ∀ {gc : List Nat} {k : Nat}, (∀ j ∈ gc, j ∈ os) -> k ∈ os -> ∃ j, j < qs.length /\ j ∉ T2 gc k := fun {gc k} h1 h2 => ⟨last, ho.lt, fun z => by
   rcases(Dl ..).mp z with z|z
   .exact(hmo _ (h1 _ z)).2 rfl
   .rw [<- z] at h2; exact (hmo _ h2).2 rfl⟩
  obtain⟨k0,os',eos⟩:∃k0 os',os=k0::os':=by
   cases os with
   |nil=>
    have n2:=hb.n2;have w2:=hb.w2;rw[<-hos]at n2;simp at n2;lia
   |cons a r=>exact⟨a,r,rfl⟩
  have hk0:k0∈os:=by rw[eos];exact Ys
  refine Ju fun N d=>?_
  walk_at"rd";refine⟨by unfold HG;decide,by decide,rfl,.inr ⟨.inl ⟨by decide,by decide⟩,by rw[Ym];decide,fun l4 G4 hl4 s4 e4=>⟨_,WB.of (s4 _ _ (S0.sm _ _ eO)),WB.of e4,.inr ?_⟩⟩⟩;have S1:=S0.mono s4;obtain⟨u1,eu1⟩:∃u:Int,u=(if decide (c / 8%8=5)=true then 1 else 0):=⟨_,rfl⟩;obtain⟨u2,eu2⟩:∃u:Int,u=(if(!decide ((Tl os).length=0))=true then 1 else 0):=⟨_,rfl⟩;have hu1:u1=0\/u1=1:=by rw[eu1];split <;> simp
  have hu2:u2=0\/u2=1:=by rw[eu2];split <;> simp
  rw[<-eu1,<-eu2];have hu3:0 <=1600*u1*u2/\1600*u1*u2 <=1600:=by rcases hu1 with z|z <;> rcases hu2 with y|y <;> rw[z,y] <;> decide
  refine⟨.inr (by rcases hu2 with y|y <;> rw[y] <;> decide),by lia,by lia,?_⟩;obtain⟨nn,enn⟩:∃nn:Nat,nn=(1600*u1*u2).toNat:=⟨_,rfl⟩;rw[<-enn];clear S0 eu1 eu2 hu1 hu2 hu3 enn e4 s4 hl4;obtain⟨Pv,ePv⟩:∃Pv:Nat->L2.St->Hp->Prop,Pv=fun i σ' G=>∃ (v:Option V) (R:WJ) (gc:List Nat),σ'=[some (V.str ru),some (V.ref lb),some (V.ref lp),some (V.int c),some (V.ref lo),some (V.int (last:Int)),some (V.ref m),some (V.ref g),v,none,none,none]/\MT C CR H1 G m dr df dw g R Bd wd qs.length gc []/\R.now=0/\∀j∈gc,j=k0:=⟨_,rfl⟩
  refine Aa Pv (by rw[ePv];exact⟨none,R0,[],rfl,S1,now0,(fun _ z=>nomatch z)⟩) ?_ ?_ <;> rw[ePv]
  .rintro i σ' G hi ⟨v,R,gc,rfl,S,nw,hgc⟩;rw[<-ePv];obtain⟨a,b,hq,hP,hat⟩:=hpc k0 (hmo k0 hk0).1;have hlo:Mh (Tl os) 0=some (V.int (k0:Int)):=by rw[eos];exact Ry (j:=0) rfl
   walk_at"rd";refine⟨S.rm.mt rfl,_,WB.of (S.sm _ _ eO),_,hlo,_,_,rfl,WB.of (S.sm _ _ eL1),_,hat,S.come hb (hmo k0 hk0).1 (hlk (fun j hj=>by rw[hgc j hj];exact hk0) hk0) hP (by decide) (by decide) (by lia) fun R' l G' hl S' nw' el=>⟨by rw[Ym];decide,fun p G5 hp s5 e5=>⟨l,rfl,[],WB.of (s5 _ _ el),WB.of e5,?_⟩⟩⟩;rw[Y2 (by simp),ePv];refine⟨_,R',T2 gc k0,rfl,S'.mono s5,nw',fun j hj=>?_⟩;rcases(Dl ..).mp hj with z|z
   .exact hgc j z
   .exact z
  .rintro σ' G ⟨v,R,gc,rfl,S,nw,hgc⟩;refine d _ _ ?_;clear d N;clear S1 ePv Pv;refine Ju fun N d=>?_
   walk_at"rd";have hno:(Tl os).length=os.length:=by unfold Tl;rw[Y0]
   refine⟨_,.inl (WB.of (S.sm _ _ eO)),by lia,by lia,?_⟩;rw[hno,X6];obtain⟨Pw,ePw⟩:∃Pw:Nat->L2.St->Hp->Prop,Pw=fun i σ' G=>∃ (v8 v10 v11:Option V) (R:WJ) (gc:List Nat),σ'=[some (V.str ru),some (V.ref lb),some (V.ref lp),some (V.int c),some (V.ref lo),some (V.int (last:Int)),some (V.ref m),some (V.ref g),v8,none,v10,v11]/\MT C CR H1 G m dr df dw g R Bd wd qs.length gc (os.take i)/\R.now <=i/\(∀j∈gc,j∈os.take (max i 1))/\∀j∈os.take i,j∈gc:=⟨_,rfl⟩
   refine Aa Pw (by rw[ePw];exact⟨v,none,none,R,gc,rfl,S,by rw[nw];exact YJ _,fun j hj=>by rw[hgc j hj,eos];exact Ys,(fun _ z=>nomatch z)⟩) ?_ ?_ <;> rw[ePw]
   .clear S nw hgc R gc v;rintro i σ' G hi ⟨v8,v10,v11,R,gc,rfl,S,nw,hg1,hg2⟩;rw[<-ePw];obtain⟨k,hk⟩:∃k,os[i]?=some k:=⟨_,Y6 hi⟩;have hko:k∈os:=Yw hk;have hkt:os.take (i+ 1)=os.take i++[k]:=by
     obtain⟨hh,rfl⟩:=Y4.mp hk;rw[YK hh]
    have hkn:k∉os.take i:=fun z=>by
     have:=ho.nd;rw[<-List.take_append_drop (i+ 1) os,hkt]at this;have:=(Xz.mp (Xz.mp this).1).2.2 k z k (by simp);exact this rfl
    obtain⟨kvs,eg,hkv⟩:=S.gd.ex;obtain⟨a,b,hq,hP,hat⟩:=hpc k (hmo k hko).1;refine Ju fun N d=>?_
    walk_at"rd";refine⟨_,WB.of (S.sm _ _ eO),_,by rw[U1];exact Ry (by unfold Tl;rw[Yc,hk];rfl),d _ _ ?_⟩;clear d N;refine Ju fun N d=>?_
    walk_at"rd";have hkl:kvs.length <=167:=by
     have h1:=X0 List.length hkv;rw[Y0,Y0,Yu]at h1
     lia
    refine⟨kvs,eg,by rw[Ym];lia,fun G2 b2 e2=>d _ _ ?_⟩;clear d N;have S2:=S.put eg hkv b2 e2 hkn;rw[<-hkt]at S2;clear S eg hkv hkl kvs b2 e2;refine Ju fun N d=>?_
    walk_at"rd";refine⟨by decide,rfl,.inr ?_⟩;obtain⟨u1,eu1⟩:∃u:Int,u=(if decide ((0+ (i:Int))%5=2)=true then 1 else 0):=⟨_,rfl⟩;have hu1:u1=0\/u1=1:=by rw[eu1];split <;> simp
    rw[<-eu1];refine⟨by lia,by lia,?_⟩;obtain⟨nn,enn⟩:∃nn:Nat,nn=(1+ u1).toNat:=⟨_,rfl⟩;have hnn:1 <=nn:=by lia
    rw[<-enn];clear eu1 hu1 enn;obtain⟨Px,ePx⟩:∃Px:Nat->L2.St->Hp->Prop,Px=fun z σ' G=>∃ (v11:Option V) (R:WJ) (gc:List Nat),σ'=[some (V.str ru),some (V.ref lb),some (V.ref lp),some (V.int c),some (V.ref lo),some (V.int (last:Int)),some (V.ref m),some (V.ref g),some (V.int (0+ (i:Int))),none,some (V.int (k:Int)),v11]/\MT C CR H1 G m dr df dw g R Bd wd qs.length gc (os.take (i+ 1))/\R.now <=i/\(∀j∈gc,j∈os.take (i+ 1))/\(∀j∈os.take i,j∈gc)/\(1 <=z->k∈gc):=⟨_,rfl⟩
    refine Aa Px (by rw[ePx];exact⟨v11,R,gc,rfl,S2,nw,fun j hj=>List.take_subset_take_left os (show max i 1 <=i+ 1 by lia) (hg1 j hj),hg2,fun z=>absurd z (by lia)⟩) ?_ ?_ <;> rw[ePx]
    .clear S2 nw hg1 hg2 R gc v11;rintro z σ' G hz ⟨v11,R,gc,rfl,S,nw,hg1,hg2,hg3⟩;rw[<-ePx];walk_at"rd";refine⟨S.rm.mt rfl,_,WB.of (S.sm _ _ eL1),_,hat,S.come hb (hmo k hko).1 (hlk (fun j hj=>YX (hg1 j hj)) hko) hP (by lia) (by lia) (by lia) fun R' l G' hl S' nw' el=>⟨by rw[Ym];decide,fun p G5 hp s5 e5=>⟨l,rfl,[],WB.of (s5 _ _ el),WB.of e5,?_⟩⟩⟩;rw[Y2 (by simp),ePx];refine⟨_,R',T2 gc k,rfl,S'.mono s5,by lia,fun j hj=>?_,fun j hj=>(Dl ..).mpr (.inl (hg2 j hj)),fun _=>(Dl ..).mpr (.inr rfl)⟩;rcases(Dl ..).mp hj with z|z
     .exact hg1 j z
     .rw[z,hkt];simp
    .clear S2 nw hg1 hg2 R gc v11;rintro σ' G' ⟨v11, R, gc, rfl, S, nw, hg1, hg2, hg3⟩;have hkg := hg3 hnn;have heq : ∀ j, j ∈ gc ↔ j ∈ os.take (i + 1) := fun j => ⟨hg1 j, fun z => by
      rw[hkt]at z;rcases Yj.mp z with z|z
      .exact hg2 j z
      .rw [Y8.mp z]; exact hkg⟩
     refine d _ _ ?_;clear d N;have fin:∀G5,Ww G' G5->Pw (i+ 1) [some (V.str ru),some (V.ref lb),some (V.ref lp),some (V.int c),some (V.ref lo),some (V.int (last:Int)),some (V.ref m),some (V.ref g),some (V.int (0+ (i:Int))),none,some (V.int (k:Int)),v11] G5:=fun G5 s5=>by
      rw[ePw];refine⟨_,_,_,R,gc,rfl,S.mono s5,by lia,fun j hj=>?_,fun j hj=>(heq j).mpr hj⟩;rw[show max (i+ 1) 1=i+ 1 by lia];exact(heq j).mp hj
     walk_at"rd";refine⟨by decide,rfl,Mv (fun h23=>?_) (fun h23=>fin _ (Ww.refl _))⟩;rcases S.a.es with⟨z,_⟩|⟨e,ees,ek,_,ie⟩
     .rw[z]at hkg;exact nomatch hkg
     have ie:=ie.congr heq;have gl':∀j∈os.take (i+ 1),j < qs.length:=fun j hj=>(hmo j (YX hj)).1
     have gn':os.take (i+ 1)≠[]:=by rw[hkt];simp
     have hcl:=ie.cvl hb gl';refine⟨m,dr,df,dw,lp,g,R,e,qs,Bd,wd,os.take (i+ 1),rfl,S.rm,by rw[ees];exact Y8.mpr rfl,ek,by lia,S.sm _ _ eL1,fun k a b hk=>(ps1 k a b hk).mono S.sm,hb,S.gd,gn',by rw[Yu];lia,gl',fun G5 s5=>⟨_,rfl,?_⟩⟩;rw[Yq (ie.lack hb gn' gl')];exact fin G5 s5
   .clear S nw hgc R gc v;rintro σ' G ⟨v8,v10,v11,R,gc,rfl,S,nw,hg1,hg2⟩;refine d _ _ ?_;clear d N;have hol:1 <=os.length:=by rw[eos];simp
    rw[show max os.length 1=os.length by lia,Xj]at hg1;rw[Xj]at hg2 S;have heq:∀j,j∈gc↔(j < qs.length/\j≠last):=fun j=>by
     rw[<-ho.mem];exact⟨hg1 j,hg2 j⟩
    obtain⟨e,ees,ie⟩:∃e,R.es=[e]/\NR Bd wd gc e.rs:=by
     rcases S.a.es with⟨z,_⟩|⟨e,ees,ek,_,ie⟩
     .have:=hg2 k0 hk0;rw[z]at this;exact nomatch this
     .exact⟨e,ees,ie⟩
    have hby:=ie.bytes hb ho.lt heq;obtain⟨a,b,hq,hP,hat⟩:=hpc last ho.lt;refine Ju fun N d=>?_
    walk_at"rd";refine⟨by rw[Ym];decide,fun l1 G1 hl1 s1 e1=>⟨_,WB.of (s1 _ _ (S.sm _ _ eO)),WB.of e1,?_⟩⟩;rw[Y3 (by rw[hno,Xo,X9];lia)];have S1:=S.mono s1;have hst:=ie.gp.len;refine⟨S1.rm.mt rfl,m,dr,df,dw,R,rfl,S1.rm,by rw[ees];simp,fun x hx=>by rw[ees]at hx;rw[Y8.mp hx];lia,fun G2 s2=>?_⟩;have S2:=S1.mono s2;have hP2:=hP.mono S2.sm;refine⟨_,.inl (WB.of (S2.sm _ _ eB1)),_,WB.of (S2.sm _ _ eL1),_,hat,_,Il LP hP2,_,rfl,_,.inl (WB.of hP2.bd),rfl,?_⟩;have etot:Di R.es=(Bd.length:Int) - ((WG Bd wd last).ns.length:Int):=by
     rw[ees];unfold Di;simp only[List.map_cons,List.map_nil,UQ,List.sum_nil];lia
    rw[Y2 (by rw[Y0,Y0,etot];simp)];refine d _ _ ?_;clear d N;refine Ju fun N d=>?_
    walk_at"rd";refine⟨S2.rm.mt rfl,_,.inl (WB.of (S2.sm _ _ eO)),_,WB.of (S2.sm _ _ eL1),_,hat,S2.last hb ho.lt (fun j hj=>?_) hP (by lia) (by rw[hno];lia) (by rw[hno];exact nw) fun R' l v G3 s3 hR3 hes3 el hev=>d _ _ ?_⟩
    .rw[Dl]
     by_cases z:j=last
     .exact .inr z
     .exact .inl ((heq j).mpr ⟨hj,z⟩)
    clear d N;obtain⟨tv,pl,bl,rfl,etv,hL⟩:=hev;refine Ju fun N d=>?_
    walk_at"rd";obtain⟨dxl,fsl,hli⟩:=hL.ins;refine⟨_,.inl (WB.of el),rfl,?_⟩;rw[Y2 (by simp)];refine⟨_,WB.of el,_,rfl,_,rfl,_,JV.of etv,_,rfl,rfl,?_⟩;rw[Y2 (by simp)];refine⟨_,WB.of el,_,rfl,_,rfl,_,JV.of etv,_,rfl,_,rfl,_,_,_,hli,LL.cl,ic_Letter,_,ll,?_⟩;rw[Y2 (by simp)];refine d _ _ ?_;clear d N;walk_at"rd";refine⟨_,WB.of el,_,rfl,_,rfl,_,JV.of etv,_,rfl,_,nZ LL hL,_,_,Co hL.bd,Co (s3 _ _ eB1),CN Bd,CN Bd,_,rfl,?_⟩;rw[Y3 (QB Bd)];refine⟨hR3.mt rfl,m,dr,df,dw,R',rfl,hR3,by rw[hes3];decide,fun ks l5 G5 hpp _ hl5 s5 hk5=>⟨by rw[Ym];decide,fun l6 G6 hl6 s6 e6=>?_⟩⟩;rw[hes3]at hpp;obtain⟨ts,t1,t2,_⟩:=hk5;rw[hpp.length_eq]at t1;refine⟨l5,rfl,_,WB.of (s6 _ _ t2),WB.of e6,?_⟩;rw[Y0,t1];exact q1 G6 ((s3.trans s5).trans s6)
theorem Pg{B:Wp}{wd n last:Nat}(hb:Jq B wd n)(ru:Str)(hl:last < n):∀ (ks gv:List Nat) (rs:RS),NR B wd gv rs->(∀k∈gv,k < n/\k≠last)->(∀k∈ks,k < n/\k≠last)->∃rs' gv',(∀ds,Np ru rs (ks.map (WG B wd)++ds)=Np ru rs' ds)/\NR B wd gv' rs'/\∀j,j∈gv'↔j∈gv\/j∈ks
 |[],gv,rs,h,_,_=>⟨rs,gv,fun _=>rfl,h,fun j=>⟨.inl,fun z=>z.elim id (fun z=>nomatch z)⟩⟩
 |k::ks,gv,rs,h,hg,hk=>by
  have hkn:=hk k Ys;have h':=h.step hb hkn.1 (decide (ru="last"));have b:∀j∈T2 gv k,j < n/\j≠last:=fun j a=>by
   rcases(Dl ..).mp a with z|z
   .exact hg j z
   .rw[z];exact hkn
  obtain⟨rs',gv',e,i,m⟩:=Pg hb ru hl ks _ _ h' b fun j a=>hk j (.tail _ a)
  refine⟨rs',gv',fun ds=>?_,i,fun j=>?_⟩
  .obtain⟨f,d⟩:=h.gp.calm (Bz hb hkn.1);have c:(if ru="refuse" then N1 rs.st (WG B wd k).at' (WG B wd k).ns else none)=none:=by
    split
    .exact d
    .rfl
   rw[<-e ds];show Np ru rs (WG B wd k::(ks.map (WG B wd)++ds))=_;unfold Np;rw[Y2 (by rw[f];exact Yf),c];show(if _ then _ else _)=_;rw[Y2 (h'.some hb (fun j a=>(b j a).1) hl fun z=>(b _ z).2 rfl)];cases hks:ks.map (WG B wd)++ds <;> simp[Np]
  .rw[m,Dl,Yp];constructor
   .rintro((z|z)|z)
    .exact .inl z
    .exact .inr (.inl z)
    .exact .inr (.inr z)
   .rintro(z|z|z)
    .exact .inl (.inl z)
    .exact .inl (.inr z)
    .exact .inr z
theorem Hy{H G:Hp}{a:Wo}{xs:List V}(h:WB K H a xs)(s:Ww H G):WB K G a xs:=by
 rcases h with(h|⟨o,h⟩)|h
 .exact .inl (.inl (s _ _ h))
 .exact .inl (.inr ⟨o,s _ _ h⟩)
 .exact .inr h
theorem w6{H G:Hp}{T a:Wo}{q:Str}{xs:List V}(h:WB K H a xs)(b:Jh T H G)(t:TK H T q):WB K G a xs:=by
 obtain⟨c,e,_⟩:=t.ex;rcases h with(h|⟨o,h⟩)|h
 .exact .inl (.inl (b _ _ h (Wv h e nofun)))
 .exact .inl (.inr ⟨o,b _ _ h (Wv h e nofun)⟩)
 .exact .inr h
inductive C0(K:Wm)(T:Wo)(vs:List V)(H:Hp)(Q:VK)(E:XK):Prop|mk (a:Wo) (ns:Wp) (_:vs=[.ref a]) (_:WB K H a (ns.map V.int)) (_:TK H T Jd) (_:∀G,Q (.bl true) G)
abbrev RI:Stmt:=top 59
theorem Rf:Jv ["_law_script","_law_cell","_law_body","_law_pieces_here","_law_rule","_law_order_here","_law_last","_law_row","_law_found"] ["_law_script"] (Wt RI):=by walk_at"e"
theorem Zf{f CP CW CU CK T:Wo}{fd:Wj}(F:JL K "law" "law" RI f fd)(B:Bt mg)(N9:Nt P w K mg base "_law_cell_at" 1 ["_law_script","_law_k"] [] (Kg K))(NY:Nt P w K mg base "_law_pieces" 8 ["_law_cell"] [] (IQ CP))(TB:Nt P w K mg base "_law_room" 10 ["_law_rule","_law_body","_law_pieces_here","_law_cell"] [] (Ll CP T))(Tb:Nt P w K mg base "_law_order" 9 ["_law_many","_law_cell"] [] (CO T))(Tn:Nt P w K mg base "judged" 4 ["pieces","rule"] [] (FX CP CW CU CK))(gC_Whole:mg "Whole"=some (.ref CW))(gC_Lacking:mg "Lacking"=some (.ref CK))(icW:GN K CW)(icK:GN K CK)(LW:GT K CW "body")(LK:GT K CK "spans")(ww:W.kitOne K (.ref CW) (.ref CW)=some true)(kk:W.kitOne K (.ref CK) (.ref CK)=some true):WA P w K mg base Je 11 f fd ["_law_script"] (C0 K T):=by
 refine F.ok Rf (fun vs H Q E h=>?_) (fun cdv A outer s H vs Q E hr h=>?_)
 .obtain⟨a,ns,rfl,_⟩:=h;rfl
 .obtain⟨a,ns,rfl,hS,tb,q⟩:=h;refine⟨_,(WN (NL 1 Rf (N7 N9 hr.m rfl (WH 0 (Nz J1 Wy)))) (WN (Hj (N7 NY hr.m rfl (WH 1 Wy)) (Eg (K:=K) (n:=2) rfl rfl (Dn (Mw 2 Rf) (Dn (Dk (i:=3) (Rf).nd rfl (Or.inr rfl)) Ee)))) (WN (NL 4 Rf (Me K (TD (Nz TH (Nz TH (Nz TH Wy)))) (JJ (dI MO) (N7 N9 hr.m rfl (WH 0 (Nz J1 Wy))) J1))) (WN (Nf (TL (Te (N7 TB hr.m rfl (WH 4 (WH 2 (WH 3 (Mj (N7 N9 hr.m rfl (WH 0 (Nz J1 Wy))) Wy))))))) (WV (Jr Gv)) Nr) (WN (Hj (N7 Tb hr.m rfl (Mj (Nh (D6 (D3 (K:=K) rfl)) B.len (WH 3 Wy)) (Mj (N7 N9 hr.m rfl (WH 0 (Nz J1 Wy))) Wy))) (Eg (K:=K) (n:=2) rfl rfl (Dn (Mw 5 Rf) (Dn (Mw 6 Rf) Ee)))) (WN (At (i:=7) (N':=["_law_k","_law_pieces_here"]) (caps:=[none,some 3]) (DP (sc:=Wt RI) (N:=["_law_script","_law_cell","_law_body","_law_pieces_here","_law_rule","_law_order_here","_law_last","_law_row","_law_found"]) rfl rfl (by decide +kernel)) rfl (Rf).nd rfl (Or.inl rfl) (GG (K:=K) rfl (Wu 5)) (fun _ _ _ _ _=>(Dk (i:=0) (DS (N:=["_law_k","_law_pieces_here"]) rfl (by decide +kernel)) rfl (Or.inl rfl))) (fun _ _ _ _ _=>GW) (fun _ _ _ _ _=>(Me K (Wu 1) (Wu 0))) rfl) (WN (Nf (TL (Te (Nh (Ac (K:=K) rfl) B.isinstance (Mj (N7 Tn hr.m rfl (WH 7 (WH 4 Wy))) (JM (hs:=MC) (Gz (v:=.ref CK) rfl gC_Lacking rfl) Wy))))) (WV (Jr Gv)) Nr) (WN (NL 8 Rf (N7 Tn hr.m rfl (JM (hs:=E9) (JJ (CB AO) (Wu 7) (TD (MQ (Me K (Wu 3) (Wu 6)) Wy))) (WH 4 Wy)))) (WV (Jr (Mo (Nh (Ac (K:=K) rfl) B.isinstance (WH 8 (JM (hs:=MC) (Gz (v:=.ref CW) rfl gC_Whole rfl) Wy))) (Db (TF (Bs (K:=K) (Room.units hr) rfl) (JK K (Wu 8)) (Wu 2) (M0 _)))))))))))))),?_⟩;refine Ju fun N c=>?_
  walk_at"rd";refine⟨a,ns,0,rfl,hS,fun c0=>c _ _ ?_⟩;clear c N;refine Ju fun N c=>?_
  walk_at"rd";refine⟨c0,rfl,fun t1 lb lp o wd n l G1 ht1 hlb hlp s1 hb hqn hqs ps e1 eB eL hdis=>⟨t1,rfl,_,JV.of e1,rfl,_,_,rfl,_,_,rfl,rfl,c _ _ ?_⟩⟩;clear c N;subst hqn;have hS1:=Hy hS s1;have tb1:=tb.same s1;clear hS tb s1 e1 ht1 hlb hlp hdis hqs;refine Ju fun N c=>?_
  walk_at"rd";refine⟨by rw[Ym];decide,fun l2 G2 hl2 s2 e2=>⟨a,ns,1,rfl,Hy hS1 s2,fun c1=>⟨_,rfl,by decide,_,WB.of e2,?_⟩⟩⟩;obtain⟨ru,eru,hru⟩:∃ru:Str,Mh [V.str "first",V.str "last",V.str "refuse"] (c1%3)=some (V.str ru)/\(ru="first"\/ru="last"\/ru="refuse"):=by
   have:c1%3=0\/c1%3=1\/c1%3=2:=by lia
   rcases this with z|z|z <;> rw[z]
   .exact⟨_,rfl,.inl rfl⟩
   .exact⟨_,rfl,.inr (.inl rfl)⟩
   .exact⟨_,rfl,.inr (.inr rfl)⟩
  refine⟨_,eru,c _ _ ?_⟩;clear c N eru e2;have hS2:=Hy hS1 s2;have tb2:=tb1.same s2;have ps2:Rt CP o wd G2 l:=fun k x y h=>(ps k x y h).mono s2
  have eB2:=s2 _ _ eB;have eL2:=s2 _ _ eL;clear hS1 tb1 ps eB eL s2 hl2;refine Ju fun N c=>?_
  walk_at"rd";refine⟨a,ns,1,rfl,hS2,fun c2=>⟨ru,lb,lp,c2,o,wd,l,rfl,hru,hb,ps2,eB2,eL2,tb2,fun G3 b3 tb3=>⟨_,rfl,?_⟩⟩⟩;rw[Y2 (by simp)];refine c _ _ ?_;clear c N;have pbut:∀{G G':Hp},Jh T G G'->TK G T Jd->Rt CP o wd G l->Rt CP o wd G' l:=fun b t p k x y hk=>by
   have hP:=p k x y hk;obtain⟨dx,fs,h⟩:=hP.ins;exact hP.but b (fun z=>by obtain⟨tt,e,_⟩:=t.ex;rw[z,e]at h;cases h) (Rp t hP.bd)
  have hS3:=w6 hS2 b3 tb2;have ps3:=pbut b3 tb2 ps2;have eB3:=b3 _ _ eB2 (Rp tb2 eB2);have eL3:=b3 _ _ eL2 (Rp tb2 eL2);clear hS2 ps2 eB2 eL2 b3 tb2;have n167:=hb.n167;refine Ju fun N c=>?_
  walk_at"rd";refine⟨_,.inl (WB.of eL3),a,ns,2,rfl,hS3,fun c3=>?_⟩;rw[Y0];refine⟨l.length,c3,rfl,hb.n0,by lia,tb3,fun t4 lo g last G4 ht4 hlo b4 tb4 ho e4 eO=>⟨t4,rfl,_,JV.of e4,rfl,_,_,rfl,_,_,rfl,rfl,c _ _ ?_⟩⟩;clear c N;have ps4:=pbut b4 tb3 ps3;have eB4:=b4 _ _ eB3 (Rp tb3 eB3);have eL4:=b4 _ _ eL3 (Rp tb3 eL3);clear hS3 ps3 eB3 eL3 b4 tb3 tb4 pbut ht4 hlo e4;have hos:=QE ho;have hmo:∀k,k∈g->k < l.length/\k≠last:=fun k hk=>(ho.mem k).mp hk
  refine Ju fun N c=>?_
  walk_at"rd";have hno:(Tl g).length=g.length:=by unfold Tl;rw[Y0]
  obtain⟨pk,epk⟩:∃pk:Nat->Addr×Addr,pk=fun k=>(l[k]?).getD (lp,lp):=⟨_,rfl⟩
  have hpk:∀k,k < l.length->Jg CP G4 (pk k).1 (pk k).2 (WG o wd k)/\Mh (l.map fun p=>V.ref p.1) (k:Int)=some (V.ref (pk k).1):=fun k hk=>by
   have hq:l[k]?=some (pk k):=by rw[epk];show l[k]?=some ((l[k]?).getD (lp,lp));rw[Y6 hk];rfl
   exact⟨ps4 k _ _ hq,Ry (by rw[Yc,hq];rfl)⟩
  clear epk;refine⟨⟨_,WB.of eO⟩,?_⟩;obtain⟨Pv,ePv⟩:∃Pv:Nat->List V->L2.St->Hp->Prop,Pv=fun i ys σ' G=>∃ (v:Option V),ys=M8 ((g.take i).map pk)/\σ'=[v,some (.ref lp)]/\G=G4:=⟨_,rfl⟩
  refine B6 (xs:=Tl g) Pv (by rw[ePv];exact⟨none,rfl,rfl,rfl⟩) ?_ (by rw[hno,Ym];lia) ?_ ?_ <;> rw[ePv]
  .rintro i ys σ' G ⟨v,rfl,_,rfl⟩ _;exact⟨WB.of eO,by unfold M8;rw[Y0,Y0,Yu];lia⟩
  .rintro i x ys σ' G hx ⟨v,rfl,rfl,rfl⟩;unfold Tl at hx;rw[Yc]at hx;obtain⟨k,hk,rfl⟩:=YA.mp hx;have tk:g.take (i+ 1)=g.take i++[k]:=by
    obtain⟨hh,rfl⟩:=Y4.mp hk;rw[YK hh]
   walk_at"rd";refine⟨_,WB.of eL4,_,(hpk k (hmo k (Yw hk)).1).2,?_⟩;rw[tk];unfold M8;rw[Yn,Yn];rfl
  rintro ys σ' G5 ⟨v,rfl,rfl,rfl⟩ lr G6 hlr s6 e6;rw[hno,Xj]at e6;refine c _ _ ?_;clear c N ePv Pv;obtain⟨rs,gv,hrun,i43,hgv⟩:=Pg hb ru ho.lt g [] TN (NR.zero hb) (fun _ z=>nomatch z) hmo;have hgv':∀j,j∈gv↔(j < l.length/\j≠last):=fun j=>by rw[hgv,<-ho.mem];exact⟨fun z=>z.elim (fun z=>nomatch z) id,.inr⟩
  have hdl:∀k,(WG o wd k).ns.length <=wd:=fun k=>by show((o.drop (wd*k)).take wd).length <=wd;rw[Yu];lia
  have hsum:∀ks:List Nat,((ks.map (WG o wd)).map fun d=>d.ns.length).sum <=wd*ks.length:=fun ks=>by
   induction ks with
   |nil=>simp
   |cons k r ih=>have:=hdl k;rw[List.map_cons,List.map_cons,UQ,List.length_cons,Nat.mul_succ];lia
  have hwn:wd*l.length <=4160:=by
   have n1:=hb.n1;have l2:=hb.l2;have w2:=hb.w2;have n0:=hb.n0;have e:wd*(l.length - 1)+ wd=wd*l.length:=by rw[<-Nat.mul_succ];congr 1;lia
   lia
  have hPL:∀ks:List Nat,(∀k∈ks,k < l.length)->Mb CP G5 (ks.map pk) (ks.map (WG o wd)):=fun ks h=>by
   induction ks with
   |nil=>exact .nil
   |cons k r ih=>exact .cons (hpk k (h k Ys)).1 (ih fun j hj=>h j (.tail _ hj))
  have hol:1 <=g.length:=by
   have n2:=hb.n2;have w2:=hb.w2;have l1:=hb.l1;cases z:g.length with
   |zero=>rw[z]at hos;rw[<-hos]at n2;simp at n2;lia
   |succ _=>lia
  have hw1:wd*g.length <=wd*l.length:=X2 _ (by lia);have hro:Np ru TN (g.map (WG o wd))= .lack rs:=by
   have:=hrun [];rw[List.append_nil]at this;rw[this];rfl
  refine Ju fun N c=>?_
  walk_at"rd";refine⟨lr,ru,g.map pk,g.map (WG o wd),Ng,rfl,hru,e6,(hPL g fun k hk=>(hmo k hk).1).mono s6,by rw[Y0];exact hol,by rw[Y0];lia,YH (hsum g) (by lia),fun d hd=>by obtain⟨k,_,rfl⟩:=Ya.mp hd;rfl,?_⟩;rw[hro];intro m7 b7 xs7 G7 hb7 s7 hA7 hc7;obtain⟨dx7,fs7,hm7,_⟩:=hA7;refine⟨m7,rfl,_,_,_,hm7,LK.cl,icK,_,kk,?_⟩;rw[Y2 (by simp)];refine c _ _ ?_;clear c N;have s67:=s6.trans s7;have hst:=i43.step hb ho.lt (decide (ru="last"));have hglA:∀j∈T2 gv last,j < l.length:=fun j hj=>by
   rcases(Dl ..).mp hj with z|z
   .exact((hgv' j).mp z).1
   .rw[z];exact ho.lt
  obtain⟨hl0,hB0⟩:=hst.all hb hglA fun j hj=>by
   rw[Dl]
   by_cases z:j=last
   .exact .inr z
   .exact .inl ((hgv' j).mpr ⟨hj,z⟩)
  obtain⟨rsw,ersw⟩:∃rsw,rsw=Tp (decide (ru="last")) rs (WG o wd last):=⟨_,rfl⟩;rw[<-ersw]at hl0 hB0;have hrw:Np ru TN ((g++[last]).map (WG o wd))= .whole rsw:=by
   rw[Yn,hrun];obtain⟨c1,c2⟩:=i43.gp.calm (Bz hb ho.lt);have hnone:(if ru="refuse" then N1 rs.st (WG o wd last).at' (WG o wd last).ns else none)=none:=by
    split
    .exact c2
    .rfl
   show Np ru rs [WG o wd last]=_;unfold Np;rw[Y2 (by rw[c1];exact Yf),hnone];show(if _ then _ else _)=_;rw[<-ersw,Y3 hl0]
  have hPLw:=hPL (g++[last]) fun k hk=>by
   rcases Yj.mp hk with z|z
   .exact(hmo k z).1
   .rw[Y8.mp z];exact ho.lt
  have hsw:=hsum (g++[last]);have hlw:(g++[last]).length=l.length:=by rw[List.length_append];exact hos
  rw[hlw]at hsw;refine Ju fun N c=>?_
  walk_at"rd";refine⟨_,WB.of (s67 _ _ eL4),_,(hpk last ho.lt).2,by rw[Ym];decide,fun l8 G8 hl8 s8 e8=>⟨_,s8 _ _ (s7 _ _ e6),_,e8,by unfold M8;rw[Y0,Y0,Ym];simp;lia,fun l9 G9 hl9 s9 e9=>?_⟩⟩;have s59:Ww G5 G9:=(s67.trans s8).trans s9;refine⟨l9,ru,(g++[last]).map pk,(g++[last]).map (WG o wd),Ng,rfl,hru,?_,hPLw.mono s59,by rw[Y0,hlw];exact hb.n0,by rw[Y0,hlw];lia,YH hsw (by lia),fun d hd=>by obtain⟨k,_,rfl⟩:=Ya.mp hd;rfl,?_⟩
  .rw[e9];unfold M8;rw[Yn,Yn];rfl
  rw[hrw];intro m b10 G10 hb10 s10 hA;rw[hB0]at hA;refine c _ _ ?_;clear c N;obtain⟨dxm,fsm,hmm,hfl,hbm⟩:=hA;walk_at"rd";refine⟨_,_,_,hmm,LW.cl,icW,_,ww,?_⟩;rw[Y3 rfl];refine⟨_,⟨m,CW,dxm,fsm,rfl,hmm,LW.cl,LW.na,hfl⟩,_,_,Co hbm,Co (s10 _ _ (s59 _ _ eB4)),CN o,CN o,?_⟩;rw[QB];exact q _
abbrev Ip:Stmt:=Tr (top 49) 15
theorem vF:Jv ["self","own","others"] ["self","own"] (Wt Ip):=by walk_at"e"
theorem Sf{f:Wo}{fd:Wj}(F:JL K "first_out" "Room.first_out" Ip f fd):WA P w K mg base Je 3 f fd ["self","own"] LQ:=
 F.ok vF (fun vs H Q E h=>h.elim) (fun b A a s H vs Q E c h=>h.elim)
end
theorem ZB{us:Wq}{v:Wn}(hl:(us++[v]).length=6):∃u0 u1 u2 u3 u4,us=[u0,u1,u2,u3,u4]:=by
 have a:us.length=5:=by rw[List.length_append]at hl;simpa using hl
 exact Fv a
theorem SD{K:Wm}{s:Wi}{T:Wo}{oT:Option Addr}{nT:Nat}{sT:Array (Option Value)}{kV dc pm cd ct:Wn}{an:Option Addr}{u0 u1 u2 u3 u4 u5:Wn}(kx:K.In s.heap)(h:K.lookup T=some ⟨.type "tuple",oT,.seq #[.bool false] nT,sT⟩):
  BindsTo s (W.fnOf "__init__" "Letter.__init__" (Mt WE) (WC WE) (Wt WE) (.ref T) kV dc pm an cd ct) ⟨[u0,u1,u2,u3,u4,u5],[]⟩ ((["self","number","sender","goal","body","keep"]:List Str).zip ([u0,u1,u2,u3,u4,u5]++[])):=by
 first
  |exact .of_eq rfl
  |exact .of_defaults rfl (kx _ _ h) rfl rfl rfl
theorem nQ{K:Wm}{s:Wi}{T:Wo}{oT:Option Addr}{nT:Nat}{sT:Array (Option Value)}{kV dc pm cd ct:Wn}{an:Option Addr}{u0 u1 u2 u3 u4:Wn}(kx:K.In s.heap)(h:K.lookup T=some ⟨.type "tuple",oT,.seq #[.bool false] nT,sT⟩):
  BindsTo s (W.fnOf "__init__" "Letter.__init__" (Mt WE) (WC WE) (Wt WE) (.ref T) kV dc pm an cd ct) ⟨[u0,u1,u2,u3,u4],[]⟩ ((["self","number","sender","goal","body","keep"]:List Str).zip ([u0,u1,u2,u3,u4]++[.bool false])):=by
 exact .of_defaults rfl (kx _ _ h) rfl rfl rfl
theorem wO{us:Wq}{v:Wn}(hl:(us++[v]).length=8):∃u0 u1 u2 u3 u4 u5 u6,us=[u0,u1,u2,u3,u4,u5,u6]:=by
 have a:us.length=7:=by rw[List.length_append]at hl;simpa using hl
 exact PP a
theorem w9{K:Wm}{s:Wi}{T:Wo}{oT:Option Addr}{nT:Nat}{sT:Array (Option Value)}{kV dc pm cd ct:Wn}{an:Option Addr}{u0 u1 u2 u3 u4 u5 u6 u7:Wn}(kx:K.In s.heap)(h:K.lookup T=some ⟨.type "tuple",oT,.seq #[.bool false] nT,sT⟩):
  BindsTo s (W.fnOf "__init__" "Piece.__init__" (Mt WK) (WC WK) (Wt WK) (.ref T) kV dc pm an cd ct) ⟨[u0,u1,u2,u3,u4,u5,u6,u7],[]⟩ ((["self","number","sender","goal","at","body","more","keep"]:List Str).zip ([u0,u1,u2,u3,u4,u5,u6,u7]++[])):=by
 first
  |exact .of_eq rfl
  |exact .of_defaults rfl (kx _ _ h) rfl rfl rfl
theorem ZD{K:Wm}{s:Wi}{T:Wo}{oT:Option Addr}{nT:Nat}{sT:Array (Option Value)}{kV dc pm cd ct:Wn}{an:Option Addr}{u0 u1 u2 u3 u4 u5 u6:Wn}(kx:K.In s.heap)(h:K.lookup T=some ⟨.type "tuple",oT,.seq #[.bool false] nT,sT⟩):
  BindsTo s (W.fnOf "__init__" "Piece.__init__" (Mt WK) (WC WK) (Wt WK) (.ref T) kV dc pm an cd ct) ⟨[u0,u1,u2,u3,u4,u5,u6],[]⟩ ((["self","number","sender","goal","at","body","more","keep"]:List Str).zip ([u0,u1,u2,u3,u4,u5,u6]++[.bool false])):=by
 exact .of_defaults rfl (kx _ _ h) rfl rfl rfl
local macro_rules | `(tactic| walk_at"b1") => `(tactic| exact fun _ _ _ _ _ _ us hl => by obtain ⟨_, e⟩ := DR hl; subst e; rfl)
local macro_rules | `(tactic| walk_at"b2") => `(tactic| exact fun _ _ _ _ _ _ us hl => by obtain ⟨_, _, e⟩ := Dg hl; subst e; rfl)
local macro_rules | `(tactic| walk_at"b3") => `(tactic| exact fun _ _ _ _ _ _ us hl => by obtain ⟨_, _, _, e⟩ := E2 hl; subst e; rfl)
local macro_rules | `(tactic| walk_at"b4") => `(tactic| exact fun _ _ _ _ _ _ us hl => by obtain ⟨_, _, _, _, e⟩ := Oj hl; subst e; rfl)
local macro_rules | `(tactic| walk_at"b5") => `(tactic| exact fun _ _ _ _ _ _ us hl => by obtain ⟨_, _, _, _, _, e⟩ := Fv hl; subst e; rfl)
local macro_rules | `(tactic| walk_at"b6") => `(tactic| exact fun _ _ _ _ _ _ us hl => by obtain ⟨_, _, _, _, _, _, e⟩ := Kc hl; subst e; rfl)
set_option maxHeartbeats 0 in
theorem FA{l:W.OpenLaw}{w:Wl}{K:Wm}{h:Wr}{mg:Wd}{fa:Wo}(X:K.In h)(G:h.Ns mainGlobals mg)(hfa:mg "law"=some (.ref fa))
  {f_is_whole f_is_whole_within f_is_whole_from f_is_truth f_is_number f_is_name f_is_key f_is_byte f_is_body f_is_rule f_is_out f_is_again f_are_shared_parts f_is_place f_has_room f_with_span f_lacking f_check_rule f_are_pieces f_of_one_key f_judged f_cell_at f_mixed f_lawpieces f_laworder cL_laworder tL_laworder f_lawspans f_lawlacks f_lawroom f_law C_Letter f_Letter_init T_Letter_init C_Piece f_Piece_key f_Piece_end f_Piece_init T_Piece_init C_Whole f_Whole_init C_Lacking f_Lacking_init C_Unlike f_Unlike_init C_Reading f_Reading_is_strange f_Reading_unlike_number f_Reading_take f_Reading_missing f_Reading_taken_body f_Reading_answer_to f_Reading_size f_Reading_init C_Room f_Room_check_time f_Room_let_go f_Room_is_resting f_Room_bytes_kept f_Room_end_waits f_Room_first_out f_Room_make_space f_Room_check_kept f_Room_lacks f_Room_kept f_Room_take_in f_Room_come f_Room_init:Wo}
  {aRULES:Wo}
  {aOUTS:Wo}
  {aAGAINS:Wo}
  (q_is_whole:GF K "is_whole" Iz f_is_whole)
  (q_is_whole_within:GF K "is_whole_within" I0 f_is_whole_within)
  (q_is_whole_from:GF K "is_whole_from" IB f_is_whole_from)
  (q_is_truth:GF K "is_truth" IS f_is_truth)
  (q_is_number:GF K "is_number" KS f_is_number)
  (q_is_name:GF K "is_name" C7 f_is_name)
  (q_is_key:GF K "is_key" Ho f_is_key)
  (q_is_byte:GF K "is_byte" IV f_is_byte)
  (q_is_body:GF K "is_body" Cj f_is_body)
  (q_is_rule:GF K "is_rule" Hi f_is_rule)
  (q_is_out:GF K "is_out" Fl f_is_out)
  (q_is_again:GF K "is_again" IC f_is_again)
  (q_are_shared_parts:GF K "are_shared_parts" Ic f_are_shared_parts)
  (q_is_place:GF K "is_place" Hr f_is_place)
  (q_has_room:GF K "has_room" KL f_has_room)
  (q_with_span:GF K "with_span" Hz f_with_span)
  (q_lacking:GF K "lacking" Ir f_lacking)
  (q_check_rule:GF K "check_rule" Ha f_check_rule)
  (q_are_pieces:GF K "are_pieces" Ad f_are_pieces)
  (q_of_one_key:GF K "of_one_key" Ck f_of_one_key)
  (q_judged:GF K "judged" HK f_judged)
  (q_cell_at:GF K "_law_cell_at" Iu f_cell_at)
  (q_mixed:GF K "_law_mixed" Ki f_mixed)
  (q_lawpieces:GF K "_law_pieces" Ae f_lawpieces)
  (q_laworder:GA K "_law_order" BN f_laworder cL_laworder tL_laworder)
  (q_lawspans:GF K "_law_spans" KC f_lawspans)
  (q_lawlacks:GF K "_law_lacks_right" Ep f_lawlacks)
  (q_lawroom:GF K "_law_room" HJ f_lawroom)
  (q_law:GF K "law" RI f_law)
  (qc_Letter:CF K "Letter" C_Letter)
  (na_Letter:NA K C_Letter ["number","sender","goal","body","keep"])
  (q_Letter_init:DF K C_Letter "Letter.__init__" WE f_Letter_init T_Letter_init)
  (qc_Piece:CF K "Piece" C_Piece)
  (na_Piece:NA K C_Piece ["number","sender","goal","at","body","more","keep"])
  (q_Piece_key:MF K C_Piece "key" "Piece.key" IF f_Piece_key)
  (q_Piece_end:MF K C_Piece "end" "Piece.end" HH f_Piece_end)
  (q_Piece_init:DF K C_Piece "Piece.__init__" WK f_Piece_init T_Piece_init)
  (qc_Whole:CF K "Whole" C_Whole)
  (na_Whole:NA K C_Whole ["body"])
  (q_Whole_init:MF K C_Whole "__init__" "Whole.__init__" JC f_Whole_init)
  (qc_Lacking:CF K "Lacking" C_Lacking)
  (na_Lacking:NA K C_Lacking ["spans"])
  (q_Lacking_init:MF K C_Lacking "__init__" "Lacking.__init__" Jm f_Lacking_init)
  (qc_Unlike:CF K "Unlike" C_Unlike)
  (na_Unlike:NA K C_Unlike ["at"])
  (q_Unlike_init:MF K C_Unlike "__init__" "Unlike.__init__" Jt f_Unlike_init)
  (qc_Reading:CF K "Reading" C_Reading)
  (na_Reading:NA K C_Reading ["rule","standing","cover","ending","reach"])
  (q_Reading_is_strange:MF K C_Reading "is_strange" "Reading.is_strange" IH f_Reading_is_strange)
  (q_Reading_unlike_number:MF K C_Reading "unlike_number" "Reading.unlike_number" ID f_Reading_unlike_number)
  (q_Reading_take:MF K C_Reading "take" "Reading.take" FU f_Reading_take)
  (q_Reading_missing:MF K C_Reading "missing" "Reading.missing" Fj f_Reading_missing)
  (q_Reading_taken_body:MF K C_Reading "taken_body" "Reading.taken_body" Cr f_Reading_taken_body)
  (q_Reading_answer_to:MF K C_Reading "answer_to" "Reading.answer_to" Lj f_Reading_answer_to)
  (q_Reading_size:MF K C_Reading "size" "Reading.size" Iq f_Reading_size)
  (q_Reading_init:MF K C_Reading "__init__" "Reading.__init__" Jk f_Reading_init)
  (qc_Room:CF K "Room" C_Room)
  (na_Room:NA K C_Room ["rule","wait","space","out","again","now","readings","firsts","wholes"])
  (q_Room_check_time:MF K C_Room "check_time" "Room.check_time" FQ f_Room_check_time)
  (q_Room_let_go:MF K C_Room "let_go" "Room.let_go" Ft f_Room_let_go)
  (q_Room_is_resting:MF K C_Room "is_resting" "Room.is_resting" Ie f_Room_is_resting)
  (q_Room_bytes_kept:MF K C_Room "bytes_kept" "Room.bytes_kept" CQ f_Room_bytes_kept)
  (q_Room_end_waits:MF K C_Room "end_waits" "Room.end_waits" AC f_Room_end_waits)
  (q_Room_first_out:MF K C_Room "first_out" "Room.first_out" Ip f_Room_first_out)
  (q_Room_make_space:MF K C_Room "make_space" "Room.make_space" Km f_Room_make_space)
  (q_Room_check_kept:MF K C_Room "check_kept" "Room.check_kept" KF f_Room_check_kept)
  (q_Room_lacks:MF K C_Room "lacks" "Room.lacks" KZ f_Room_lacks)
  (q_Room_kept:MF K C_Room "kept" "Room.kept" Ib f_Room_kept)
  (q_Room_take_in:MF K C_Room "take_in" "Room.take_in" IX f_Room_take_in)
  (q_Room_come:MF K C_Room "come" "Room.come" KR f_Room_come)
  (q_Room_init:MF K C_Room "__init__" "Room.__init__" JZ f_Room_init)
  (kt_Whole:W.typeIn K (.ref C_Whole)=some (.type "type")/\W.mroIn K C_Whole (.type "object")=some true)
  (kt_Unlike:W.typeIn K (.ref C_Unlike)=some (.type "type")/\W.mroIn K C_Unlike (.type "object")=some true)
  (kt_Lacking:W.typeIn K (.ref C_Lacking)=some (.type "type")/\W.mroIn K C_Lacking (.type "object")=some true)
  (kt_Letter:W.typeIn K (.ref C_Letter)=some (.type "type")/\W.mroIn K C_Letter (.type "object")=some true)
  (kmr_Whole_Whole:W.mroIn K C_Whole (.ref C_Whole)=some true)
  (kmr_Unlike_Whole:W.mroIn K C_Unlike (.ref C_Whole)=some false)
  (kmr_Lacking_Lacking:W.mroIn K C_Lacking (.ref C_Lacking)=some true)
  (kmr_Unlike_Unlike:W.mroIn K C_Unlike (.ref C_Unlike)=some true)
  (kmr_Letter_Letter:W.mroIn K C_Letter (.ref C_Letter)=some true)
  (qk:(∃t,W.nsIn K mainGlobals "MOST_NUMBER"=some (some (.int 65535 t)))/\(∃t,W.nsIn K mainGlobals "MOST_BYTE"=some (some (.int 255 t)))/\(∃t,W.nsIn K mainGlobals "MOST_SIGNS"=some (some (.int 8 t)))/\(∃t,W.nsIn K mainGlobals "MOST_BYTES"=some (some (.int 4000 t)))/\(∃t,W.nsIn K mainGlobals "STEP"=some (some (.int 8 t)))/\True)
  (q_RULES:W.nsIn K mainGlobals "RULES"=some (some (.ref aRULES))/\∃o n s u0 u1 u2,K.lookup aRULES=some ⟨.type "tuple",o,.seq #[.str "first" u0,.str "last" u1,.str "refuse" u2] n,s⟩)
  (q_OUTS:W.nsIn K mainGlobals "OUTS"=some (some (.ref aOUTS))/\∃o n s u0 u1 u2,K.lookup aOUTS=some ⟨.type "tuple",o,.seq #[.str "oldest" u0,.str "widest" u1,.str "own" u2] n,s⟩)
  (q_AGAINS:W.nsIn K mainGlobals "AGAINS"=some (some (.ref aAGAINS))/\∃o n s u0 u1,K.lookup aAGAINS=some ⟨.type "tuple",o,.seq #[.str "fresh" u0,.str "rest" u1] n,s⟩)
  (zs:NS K ["len","range","isinstance","all","min","max","int","bool","str","list","tuple","enumerate","zip","sum","sorted"])
  (nt:W.noTabs K=true):
  ∃ (c1 T1:Wo) (fd:Wj),W.tabIn K "_law_order"=some (c1,T1)/\W.noTabs K=true/\(∀ (s:Wi) (v:Wn),BindsTo s fd ⟨[v],[]⟩ [("_law_script",v)])/\∀base:Heap,W.Frag.In K base->base.Ns mainGlobals mg->Gp mg base c1 T1->WA l.prog w K mg base Je 11 fa fd ["_law_script"] (C0 K T1):=by
 obtain⟨a_law,oc,od,kV,dc,pm,an,cd,ct,sl,l_law,c_law,k_law⟩:=q_law;have e:=hfa.symm.trans (W.mg_of X G a_law);cases e;have BX:=CH (st:=RI) l_law c_law k_law;refine⟨cL_laworder,tL_laworder,W.fnOf "law" "law" (Mt RI) (WC RI) (Wt RI) .none kV dc pm an cd ct,q_laworder.tab,nt,fun s v=>.of_eq rfl,fun base kb nb LC_laworder=>?_⟩;have E:ME l.prog w K mg base:=⟨fun e=>W.mg_of X G e,fun e=>W.mg_none_of X G e⟩;have kit_Whole_Whole:W.kitOne K (.ref C_Whole) (.ref C_Whole)=some true:=B5 kmr_Whole_Whole kt_Whole.1 kt_Whole.2 kmr_Whole_Whole;have kit_Unlike_Whole:W.kitOne K (.ref C_Unlike) (.ref C_Whole)=some false:=B5 kmr_Unlike_Whole kt_Whole.1 kt_Whole.2 kmr_Unlike_Unlike;have kit_Lacking_Lacking:W.kitOne K (.ref C_Lacking) (.ref C_Lacking)=some true:=B5 kmr_Lacking_Lacking kt_Lacking.1 kt_Lacking.2 kmr_Lacking_Lacking;have kit_Unlike_Unlike:W.kitOne K (.ref C_Unlike) (.ref C_Unlike)=some true:=B5 kmr_Unlike_Unlike kt_Unlike.1 kt_Unlike.2 kmr_Unlike_Unlike;have kit_Letter_Letter:W.kitOne K (.ref C_Letter) (.ref C_Letter)=some true:=B5 kmr_Letter_Letter kt_Letter.1 kt_Letter.2 kmr_Letter_Letter;have m_Letter:=E.of qc_Letter.1;have cl_Letter:=qc_Letter.2.1;have ic_Letter:=qc_Letter.2.2.2.2;have m_Piece:=E.of qc_Piece.1;have cl_Piece:=qc_Piece.2.1;have ic_Piece:=qc_Piece.2.2.2.2;have m_Whole:=E.of qc_Whole.1;have cl_Whole:=qc_Whole.2.1;have ic_Whole:=qc_Whole.2.2.2.2;have m_Lacking:=E.of qc_Lacking.1;have cl_Lacking:=qc_Lacking.2.1;have ic_Lacking:=qc_Lacking.2.2.2.2;have cl_Unlike:=qc_Unlike.2.1;have ic_Unlike:=qc_Unlike.2.2.2.2;have cl_Reading:=qc_Reading.2.1;have cl_Room:=qc_Room.2.1;obtain⟨g_RULES,_,_,_,_,_,_,tt_RULES⟩:=q_RULES;have g_RULES:=E.of g_RULES;have t_RULES:∀H,L2.JV K H aRULES [.str "first",.str "last",.str "refuse"]:=fun H=>.inr ⟨_,_,_,tt_RULES,rfl,rfl,Ny (by simp),(.cons ⟨_,rfl⟩ (.cons ⟨_,rfl⟩ (.cons ⟨_,rfl⟩ .nil)))⟩
 obtain⟨g_OUTS,_,_,_,_,_,_,tt_OUTS⟩:=q_OUTS;have g_OUTS:=E.of g_OUTS;have t_OUTS:∀H,L2.JV K H aOUTS [.str "oldest",.str "widest",.str "own"]:=fun H=>.inr ⟨_,_,_,tt_OUTS,rfl,rfl,Ny (by simp),(.cons ⟨_,rfl⟩ (.cons ⟨_,rfl⟩ (.cons ⟨_,rfl⟩ .nil)))⟩
 obtain⟨g_AGAINS,_,_,_,_,_,tt_AGAINS⟩:=q_AGAINS;have g_AGAINS:=E.of g_AGAINS;have t_AGAINS:∀H,L2.JV K H aAGAINS [.str "fresh",.str "rest"]:=fun H=>.inr ⟨_,_,_,tt_AGAINS,rfl,rfl,Ny (by simp),(.cons ⟨_,rfl⟩ (.cons ⟨_,rfl⟩ .nil))⟩
 have B:Bt mg:=⟨E.no zs.1,E.no zs.2.1,E.no zs.2.2.1,E.no zs.2.2.2.1,E.no zs.2.2.2.2.1,E.no zs.2.2.2.2.2.1,E.no zs.2.2.2.2.2.2.1,E.no zs.2.2.2.2.2.2.2.1,E.no zs.2.2.2.2.2.2.2.2.1,E.no zs.2.2.2.2.2.2.2.2.2.1,E.no zs.2.2.2.2.2.2.2.2.2.2.1⟩;have B2:BE mg:=⟨E.no zs.2.2.2.2.2.2.2.2.2.2.2.2.2.1,E.no zs.2.2.2.2.2.2.2.2.2.2.2.2.2.2.1⟩;have B3:CM mg:=⟨E.no zs.2.2.2.2.2.2.2.2.2.2.2.1,E.no zs.2.2.2.2.2.2.2.2.2.2.2.2.1⟩;have T:Cn mg:=⟨qk.1.imp fun _ e=>E.of e,qk.2.1.imp fun _ e=>E.of e,qk.2.2.1.imp fun _ e=>E.of e,qk.2.2.2.1.imp fun _ e=>E.of e,qk.2.2.2.2.1.imp fun _ e=>E.of e⟩;have L:A2 K C_Letter:=⟨cl_Letter,na_Letter.1,na_Letter.2.1,na_Letter.2.2.1,na_Letter.2.2.2.1,na_Letter.2.2.2.2.1⟩;have LP:D5 K C_Piece:=⟨cl_Piece,na_Piece.1,na_Piece.2.1,na_Piece.2.2.1,na_Piece.2.2.2.1,na_Piece.2.2.2.2.1,na_Piece.2.2.2.2.2.1,na_Piece.2.2.2.2.2.2.1⟩;have LW:GT K C_Whole "body":=⟨cl_Whole,na_Whole.1⟩
 have LK:GT K C_Lacking "spans":=⟨cl_Lacking,na_Lacking.1⟩
 have LU:GT K C_Unlike "at":=⟨cl_Unlike,na_Unlike.1⟩
 have LR:Dv K C_Reading:=⟨cl_Reading,na_Reading.1,na_Reading.2.1,na_Reading.2.2.1,na_Reading.2.2.2.1,na_Reading.2.2.2.2.1⟩;have LM:Mn K C_Room:=⟨cl_Room,na_Room.1,na_Room.2.1,na_Room.2.2.1,na_Room.2.2.2.1,na_Room.2.2.2.2.1,na_Room.2.2.2.2.2.1,na_Room.2.2.2.2.2.2.1,na_Room.2.2.2.2.2.2.2.1,na_Room.2.2.2.2.2.2.2.2.1⟩;have g_is_whole:=E.fb q_is_whole (fun Jw=>nF Jw B) (by walk_at"b1");have g_is_whole_within:=E.fb q_is_whole_within (fun J9=>yZ J9 g_is_whole) (by walk_at"b3");have g_is_whole_from:=E.fb q_is_whole_from (fun J7=>gB J7 g_is_whole) (by walk_at"b2");have g_is_truth:=E.fb q_is_truth (fun Nc=>jR Nc B) (by walk_at"b1");have g_is_number:=E.fb q_is_number (fun JX=>tI JX T g_is_whole_within) (by walk_at"b1");have g_is_name:=E.fb q_is_name (fun JT=>j4 JT T B) (by walk_at"b1");have g_is_key:=E.fb q_is_key (fun TX=>xU TX B g_is_number g_is_name) (by walk_at"b1");have g_is_byte:=E.fb q_is_byte (fun Tu=>jD Tu T g_is_whole_within) (by walk_at"b1");have g_is_body:=E.fb q_is_body (fun Ts=>xG Ts T B g_is_byte) (by walk_at"b1");have g_is_rule:=E.fb q_is_rule (fun Nx=>nR Nx B g_RULES t_RULES) (by walk_at"b1");have g_is_out:=E.fb q_is_out (fun Ma=>vN Ma B g_OUTS t_OUTS) (by walk_at"b1");have g_is_again:=E.fb q_is_again (fun T8=>mD T8 B g_AGAINS t_AGAINS) (by walk_at"b1");have g_are_shared_parts:=E.fb q_are_shared_parts (fun J2=>xI J2 g_is_number g_is_name g_is_body g_is_truth) (by walk_at"b5");have g_is_place:=E.fb q_is_place (fun Ta=>uS Ta T g_is_whole) (by walk_at"b1");have g_has_room:=E.fb q_has_room (fun T9=>xN T9 T) (by walk_at"b3");obtain⟨a_Letter_init,i_Letter_init,_,_,_,_,_,_,_,_,_,l_Letter_init,c_Letter_init,_,_,_,t_Letter_init⟩:=q_Letter_init;have o_Letter:WA l.prog w K mg base Je 6 f_Letter_init _ ["self","number","sender","goal","body","keep"] (B9 C_Letter):=yR ⟨_,_,_,_,_,_,_,_,_,_,rfl,l_Letter_init,c_Letter_init⟩ L B g_are_shared_parts;have M_Letter:Mk K C_Letter f_Letter_init:=⟨qc_Letter.2.2.1,a_Letter_init,i_Letter_init,qc_Letter.2.2.2.1⟩;have i_Letter:Dx l.prog w K mg base "Letter" C_Letter 6 ["self","number","sender","goal","body","keep"] [] (B9 C_Letter):=⟨_,_,[],o_Letter,E.of qc_Letter.1,M_Letter,(fun s us kx hl=>by rw[List.append_nil]at hl ⊢;obtain⟨_,_,_,_,_,_,rfl⟩:=Kc hl;exact SD kx t_Letter_init),.nil⟩
 have i_Letter_d1:Dx l.prog w K mg base "Letter" C_Letter 6 ["self","number","sender","goal","body","keep"] [.bl false] (B9 C_Letter):=⟨_,_,[.bool false],o_Letter,E.of qc_Letter.1,M_Letter,(fun s us kx hl=>by obtain⟨u0,u1,u2,u3,u4,rfl⟩:=ZB hl;exact nQ kx t_Letter_init),.cons rfl .nil⟩
 obtain⟨a_Piece_init,i_Piece_init,_,_,_,_,_,_,_,_,_,l_Piece_init,c_Piece_init,_,_,_,t_Piece_init⟩:=q_Piece_init;have o_Piece:WA l.prog w K mg base Je 6 f_Piece_init _ ["self","number","sender","goal","at","body","more","keep"] (Ba C_Piece):=uZ ⟨_,_,_,_,_,_,_,_,_,_,rfl,l_Piece_init,c_Piece_init⟩ LP B g_are_shared_parts g_is_place g_is_truth g_has_room;have M_Piece:Mk K C_Piece f_Piece_init:=⟨qc_Piece.2.2.1,a_Piece_init,i_Piece_init,qc_Piece.2.2.2.1⟩;have i_Piece:Dx l.prog w K mg base "Piece" C_Piece 6 ["self","number","sender","goal","at","body","more","keep"] [] (Ba C_Piece):=⟨_,_,[],o_Piece,E.of qc_Piece.1,M_Piece,(fun s us kx hl=>by rw[List.append_nil]at hl ⊢;obtain⟨_,_,_,_,_,_,_,_,rfl⟩:=ZR hl;exact w9 kx t_Piece_init),.nil⟩
 have i_Piece_d1:Dx l.prog w K mg base "Piece" C_Piece 6 ["self","number","sender","goal","at","body","more","keep"] [.bl false] (Ba C_Piece):=⟨_,_,[.bool false],o_Piece,E.of qc_Piece.1,M_Piece,(fun s us kx hl=>by obtain⟨u0,u1,u2,u3,u4,u5,u6,rfl⟩:=wO hl;exact ZD kx t_Piece_init),.cons rfl .nil⟩
 have m_Piece_key:=E.mb (sp:=FG C_Piece) qc_Piece q_Piece_key (fun Jy=>mQ Jy LP) (by walk_at"b1");have m_Piece_end:=E.mb (sp:=Ez C_Piece) qc_Piece q_Piece_end (fun WL=>yG WL LP B) (by walk_at"b1");have g_with_span:=E.fb q_with_span (fun NW=>Zy NW B) (by walk_at"b2");have g_lacking:=E.fb q_lacking (fun Tw=>uA Tw) (by walk_at"b2");have i_Whole:=E.kb qc_Whole q_Whole_init (fun F=>m3 F LW B) (by walk_at"b2");have i_Lacking:=E.kb qc_Lacking q_Lacking_init (fun F=>ZP F LK B) (by walk_at"b2");have i_Unlike:=E.kb qc_Unlike q_Unlike_init (fun F=>dG F LU) (by walk_at"b2");have i_Reading:=E.kb qc_Reading q_Reading_init (fun F=>y7 F LR) (by walk_at"b2");have m_Reading_is_strange:=E.mb (sp:=C6 C_Reading C_Piece) qc_Reading q_Reading_is_strange (fun WX=>uY WX LR LP (LA m_Piece_end)) (by walk_at"b2");have m_Reading_unlike_number:=E.mb (sp:=Hm C_Reading C_Piece) qc_Reading q_Reading_unlike_number (fun Jf=>Zw Jf LR LP B3) (by walk_at"b2");have m_Reading_take:=E.mb (sp:=Ks C_Reading C_Piece) qc_Reading q_Reading_take (fun Na=>nO Na LR LP B B3 (LA m_Piece_end) g_with_span) (by walk_at"b2");have m_Reading_missing:=E.mb (sp:=BV C_Reading) qc_Reading q_Reading_missing (fun WP=>mE WP LR g_lacking) (by walk_at"b1");have m_Reading_taken_body:=E.mb (sp:=Ii C_Reading) qc_Reading q_Reading_taken_body (fun Ji=>dJ Ji LR B) (by walk_at"b1");have m_Reading_answer_to:=E.mb (sp:=AM C_Reading C_Piece C_Whole C_Unlike) qc_Reading q_Reading_answer_to (fun J0=>xH J0 LR LP m_Reading_is_strange m_Reading_unlike_number m_Reading_take m_Reading_missing m_Reading_taken_body (jF i_Whole) (vD i_Unlike)) (by walk_at"b2");have m_Reading_size:=E.mb (sp:=HE C_Reading) qc_Reading q_Reading_size (fun Nb=>gJ Nb LR B) (by walk_at"b1");have g_check_rule:=E.fb q_check_rule (fun NF=>wE NF g_is_rule) (by walk_at"b1");have g_are_pieces:=E.fb (sp:=Kr C_Piece) q_are_pieces (fun NI=>tJ NI B LP m_Piece ic_Piece) (by walk_at"b1");have g_of_one_key:=E.fb (sp:=HQ C_Piece) q_of_one_key (fun NE=>vZ NE B (Lx m_Piece_key)) (by walk_at"b1");have g_judged:=E.fb (sp:=FX C_Piece C_Whole C_Unlike C_Lacking) q_judged (fun Tn=>ZJ Tn g_check_rule g_are_pieces g_of_one_key (QJ i_Reading) m_Reading_answer_to m_Reading_missing (nA i_Lacking)) (by walk_at"b2");have i_Room:=E.kb qc_Room q_Room_init (fun F=>uD F LM g_is_rule g_is_whole_from g_is_out g_is_again) (by walk_at"b6");have m_Room_check_time:=E.mb (sp:=KU C_Room C_Reading) qc_Room q_Room_check_time (fun JG=>dQ JG LM g_is_whole_from) (by walk_at"b2");have m_Room_let_go:=E.mb (sp:=Bw C_Room C_Reading) qc_Room q_Room_let_go (fun Jb=>uP Jb LM) (by walk_at"b2");have m_Room_is_resting:=E.mb (sp:=K0 C_Room C_Reading) qc_Room q_Room_is_resting (fun JI=>uO JI LM) (by walk_at"b2");have m_Room_bytes_kept:=E.mb (sp:=A4 C_Room C_Reading) qc_Room q_Room_bytes_kept (fun Ja=>wW Ja LM B2 m_Reading_size) (by walk_at"b1");have m_Room_end_waits:=E.mb (sp:=L0 C_Room C_Reading) qc_Room q_Room_end_waits (fun JQ=>xF JQ LM B2 m_Room_let_go) (by walk_at"b1");have m_Room_first_out:=E.mb qc_Room q_Room_first_out (fun JS=>Sf JS) (by walk_at"b2");have m_Room_make_space:=E.mb (sp:=Fn C_Room C_Reading) qc_Room q_Room_make_space (fun JD=>x5 JD LM m_Room_bytes_kept m_Room_let_go m_Room_first_out) (by walk_at"b2");have m_Room_check_kept:=E.mb (sp:=HC C_Room C_Reading) qc_Room q_Room_check_kept (fun JB=>jY JB LM g_is_key) (by walk_at"b2");have m_Room_lacks:=E.mb (sp:=FC C_Room C_Reading) qc_Room q_Room_lacks (fun N5=>Sj N5 LM m_Room_check_kept m_Reading_missing) (by walk_at"b2");have m_Room_kept:=E.mb (sp:=Lf C_Room C_Reading) qc_Room q_Room_kept (fun NV=>vU NV LM B2) (by walk_at"b1");have m_Room_take_in:=E.mb (sp:=Iy C_Room C_Reading C_Piece C_Letter) qc_Room q_Room_take_in (fun Nd=>Zv Nd LM LW ic_Whole ic_Unlike LU kit_Whole_Whole kit_Unlike_Whole B m_Whole (Lx m_Piece_key) m_Room_is_resting (QJ i_Reading) m_Reading_is_strange m_Reading_answer_to m_Room_make_space m_Room_let_go (vY i_Letter_d1)) (by walk_at"b2");have m_Room_come:=E.mb (sp:=BW C_Room C_Reading C_Piece C_Letter) qc_Room q_Room_come (fun JW=>w5 JW LM LP B m_Piece ic_Piece m_Room_check_time m_Room_end_waits m_Room_take_in) (by walk_at"b3");have g_cell_at:=E.fb (sp:=Kg K) q_cell_at (fun N9=>vS N9 B) (by walk_at"b2");have g_mixed:=E.fb q_mixed (fun NC=>nM NC) (by walk_at"b2");have g_lawpieces:=E.fb (sp:=IQ C_Piece) q_lawpieces (fun NY=>uW NY B B3 g_mixed (Zt i_Piece_d1)) (by walk_at"b1");have g_laworder:=E.fa (sp:=CO tL_laworder) q_laworder (fun FA_laworder=>ZM FA_laworder B B2 LC_laworder g_mixed) (by walk_at"b2");have g_lawspans:=E.fb (sp:=FO C_Piece) q_lawspans (fun NH=>tU NH B LP m_Piece_end) (by walk_at"b2");have g_lawlacks:=E.fb (sp:=Lm C_Room C_Reading C_Piece) q_lawlacks (fun Td=>Sn Td B LP m_Room_lacks m_Piece_end g_lawspans) (by walk_at"b3");have g_lawroom:=E.fb (sp:=Ll C_Piece tL_laworder) q_lawroom (fun TB=>tF TB B LP g_laworder (jO i_Room) m_Room_come g_lawlacks m_Room_bytes_kept m_Room_kept m_Letter ic_Letter L kit_Letter_Letter) (by walk_at"b4");exact Zf (CU:=C_Unlike) BX B g_cell_at g_lawpieces g_lawroom g_laworder g_judged m_Whole m_Lacking ic_Whole ic_Lacking LW LK kit_Whole_Whole kit_Lacking_Lacking
theorem Zc{l:W.OpenLaw}{q:Wh}{loose:List Str}{XP:(Str->Option Value)->Heap->Prop}{YP:World->Heap->Prop}{d d1:DefRec}{K:Params->W.Frag}(hn:l.most=some 63)(hdf:d.params.defaults=[])
  (hY:∀ (w:Wl) (h:Wr),YP w h->(K w.params).In h) (hrec1:(recsOf q).find? (fun e=>e.name==("_law_order":Str))=some d1)
  (F:∀ (w:Wl) (mg:Wd) (fa:Wo) (h:Wr),(K w.params).In h->h.Ns mainGlobals mg->mg d.name=some (.ref fa)->∃ (c1 T1:Wo) (fd:Wj),W.tabIn (K w.params) "_law_order"=some (c1,T1)/\W.noTabs (K w.params)=true/\(∀ (s:Wi) (v:Wn),BindsTo s fd ⟨[v],[]⟩ [("_law_script",v)])/\∀base:Heap,W.Frag.In (K w.params) base->base.Ns mainGlobals mg->Gp mg base c1 T1->WA l.prog w (K w.params) mg base Je 11 fa fd ["_law_script"] (C0 (K w.params) T1)):
  W.WalkO q loose XP YP l.row.toRowW d [] (fun f vs=>PySem.call f vs):=
 L2.BU (y:="_law_order") (n:=63) (k:=11) (x:="_law_script") (sp:=fun w T1=>C0 (K w.params) T1) hn (by decide) hdf ⟨rfl,by decide,by decide⟩ hY hrec1 F fun _ _ _ a b g h1 c=>⟨a,b,rfl,c,⟨#[],h1,trivial,fun pos i e=>by cases e⟩,fun _=>rfl⟩
end Mine
namespace PySem.W.Fast
def tw14569028590791013796:=()
def tw9461622693191134049:=()
def tw5126761811966090841:=()
def tw3095733944547920660:=()
def tw460699557103937420:=()
def tw7953311131117138630:=()
def tw14469439036960808738:=()
def tw339363535806337679:=()
def tw17597147181158182712:=()
def tw16411179151844742472:=()
def tw363278517478892670:=()
def tw16017207284355722225:=()
def tw3829013257559997333:=()
def tw14308161933028040385:=()
def tw15255825951612784896:=()
def tw1987251181218125759:=()
def tw5624215799648052537:=()
def tw3223931664654693763:=()
def tw4563437196190938881:=()
def tw11458373960419951927:=()
def tw11360456541667084757:=()
def tw9315624276044670383:=()
def tw5088691093179931294:=()
def tw11731911951984790701:=()
def tw14427576787826573548:=()
def tw4038175963889029446:=()
def tw613888886915587379:=()
def tw15000936607324192698:=()
def tw2397247582845676812:=()
def tw4021771413321964572:=()
def tw17098688499342104118:=()
def tw907546753964938265:=()
def tw6501277190738047809:=()
def tw17991244502347505928:=()
def tw16597894669031309831:=()
def tw13915184843817164819:=()
def tw6681361351366212802:=()
def tw3221496372608540707:=()
def tw11474620482578074379:=()
def tw13881617808763602129:=()
def tw4524950601509762743:=()
def tw7122900200651660821:=()
def tw8649877270030866003:=()
def tw7332214195752179435:=()
def tw2984991877315736681:=()
def tw14832480391840800522:=()
def tw7500258357307005054:=()
def tw17756537828839379738:=()
def tw15181905264267491275:=()
def tw8540569697256591158:=()
def tw18393496454056339991:=()
def tw1399432868233714641:=()
def tw2017887280382177528:=()
def tw5634226340034522350:=()
def tw11692514210002367284:=()
def tw1962947026937527806:=()
def tw11061078529416899375:=()
def tw17820031913694579994:=()
def tw4551655681140109171:=()
def tw3297807241760670755:=()
def tw9448183385881100879:=()
def tw1539296650852371216:=()
def tw17290746655450550081:=()
def tw12080194976481340495:=()
def tw17536185462417897372:=()
def tw15098349619733713189:=()
def tw12927016277892592499:=()
def tw587352492794267282:=()
def tw2200678402432934591:=()
def tw12020714303456472236:=()
def tw812418454949159731:=()
def tw10200586370538921046:=()
def tw9652179313320517228:=()
def tw3723500976428223926:=()
def tw12070120772632118902:=()
def tw12064177717351698883:=()
def tw8933877897940195823:=()
def tw1380723028503941309:=()
def tw12872917655654792029:=()
def tw16296551635306771429:=()
def tw7345160421083278144:=()
def tw12116644063494870256:=()
def tw12720092527344705678:=()
def tw4844888393552150049:=()
def tw9138358200764731815:=()
def tw9202164319140057632:=()
def tw1341900349450110273:=()
def tw7928532880160213032:=()
def tw10576061512890520459:=()
def tw17875137917755268560:=()
def tw13293490874479410020:=()
def tw9852002392145014845:=()
def tw1585524196968594940:=()
def tw16964910071095578854:=()
def tw5776666605914633885:=()
def tw4368214729858980000:=()
def tw4823322039213971781:=()
def tw17696548590099301520:=()
def tw11704240894471393289:=()
def tw3525069514764635230:=()
def tw13684635404211365892:=()
def tw2697969812368645479:=()
def tw3112026607662005513:=()
def tw10441377438117298878:=()
def tw16480486091849411261:=()
def tw9999059873285981337:=()
def tw12406996363537848330:=()
def tw3705488217048608304:=()
def tw4010592995456537498:=()
def tw529586998858221289:=()
def tw7860337478328455911:=()
def tw12736184735618843907:=()
def tw12372415049772726569:=()
def tw18095291154311037648:=()
def tw6256749164100327016:=()
def tw11156794033532971374:=()
def tw10324380990857619851:=()
def tw17681298734680652590:=()
def tw16783868024699436272:=()
def tw13346598247153205691:=()
def tw2354601930517035917:=()
def tw3230979059363852489:=()
def tw17443196600515222409:=()
def tw9414449467735808187:=()
def tw753049420164440889:=()
def tw16768904643728493384:=()
def tw336504471872108374:=()
def tw714184760658286439:=()
def tw8566948365573637664:=()
def tw3693775403770814390:=()
def tw15214203055770253414:=()
def tw4127651006935952748:=()
def tw443526808919754126:=()
def tw8584363336981082149:=()
def tw18223608691786227682:=()
def tw5038837294979974864:=()
def tw13298583545676878377:=()
def tw13033691975230958164:=()
def tw509291423021302180:=()
def tw6858540614655623585:=()
def tw6289440304655895498:=()
def tw10085678351833779219:=()
def tw12244553412353217095:=()
def tw7220804789116229245:=()
def tw3312715992200937501:=()
def tw17232743982562007761:=()
def tw8063582042521429581:=()
def tw811119722137988696:=()
def tw16717010565465083744:=()
def tw14386319681772136142:=()
def tw4972129705827995328:=()
def tw12310147848733872095:=()
def tw16959076859210268661:=()
def tw15796738280994206813:=()
def tw9118683270110216053:=()
def tw4014162965099889146:=()
def tw2753112637933905397:=()
def tw8787707269286672976:=()
def tw11193843309896112714:=()
def tw4019359176809729882:=()
def tw7335735173264820382:=()
def tw2557039243032665824:=()
def tw3154263881869397494:=()
def tw11191646023474466020:=()
def tw3323097902551294148:=()
def tw4069875589853424846:=()
def tw13650094527596525774:=()
def tw17684085493503084939:=()
def tw18033262009849933329:=()
def tw16102037598326144343:=()
def tw5103968973963579380:=()
def tw12956009613716977680:=()
def tw18081048091975742702:=()
def tw2542050391969573344:=()
def tw5116913949061193443:=()
def tw15915859081258519258:=()
def tw14278226469811796533:=()
def tw4763296934940179506:=()
def tw5690879105471691246:=()
def tw16449553801633769808:=()
def tw6603976400821652954:=()
def tw13557119476809834264:=()
def tw11318501857062514650:=()
def tw689444501984517872:=()
def tw6482599458419319561:=()
def tw12339813525609054483:=()
def tw6384890310147008549:=()
def tw3508516842305047509:=()
def tw14654218403753052631:=()
def tw7896841493131515473:=()
def tw15307409329767852732:=()
def tw15791252670475473136:=()
def tw8677812408648335686:=()
def tw10407026141748648550:=()
def tw14910471320752591708:=()
def tw18048097412378865365:=()
def tw12708931246141263974:=()
def tw17516144246446580878:=()
def tw2401723124360752066:=()
def tw6949740231064417477:=()
def tw9191751940637644767:=()
def tw14843719189016382877:=()
def tw1042732125141826376:=()
def tw9853803683060001891:=()
def tw11084546587824393391:=()
def tw2296598524011072275:=()
def tw2677349619917842853:=()
def tw3595313557864182508:=()
def tw8600680551898154839:=()
def tw14822604407766233312:=()
def tw9106396545000297725:=()
def tw17900575334859033248:=()
def tw17888767313035243207:=()
def tw4173506432165832068:=()
def tw18143613260989198893:=()
def tw12155317865979621443:=()
def tw12281335814284675821:=()
def tw6791792561062373256:=()
def tw8940977399261119397:=()
def tw10694469355029239150:=()
def tw11706727408239021500:=()
def tw13570418804603871187:=()
def tw15404633832371519132:=()
def tw10827354876875800899:=()
def tw308640811812980641:=()
def tw7653395857515514123:=()
def tw10668110516911726448:=()
def tw4928399795576742633:=()
def tw17546541508003130180:=()
def tw8205391889934849024:=()
def tw8196212706318303726:=()
def tw10867684901755448337:=()
def tw3094837302428717285:=()
def tw3148645042354456557:=()
def tw17126712945256890336:=()
def tw1825469811540567479:=()
def tw12109293028280286756:=()
def tw6293436790768329509:=()
def tw9316362426711958167:=()
def tw7531221196444939916:=()
def tw17068430506035522939:=()
def tw625506038857709632:=()
def tw3323594610193183324:=()
def tw10533425206984038668:=()
def tw17998239901187098375:=()
def tw4868686084980314300:=()
def tw5790830435626911969:=()
def tw4833090861546470790:=()
def tw5987013855008326478:=()
def tw17543813646964290755:=()
def tw9595046347013186596:=()
def tw9801996420479991508:=()
def tw6117535812591354930:=()
def tw13355601849064440700:=()
def tw309625188686116739:=()
def tw14633912506357060949:=()
def tw9517939006854176453:=()
def tw3677895848018789613:=()
def tw12671701122733833830:=()
def tw12342652806342709756:=()
def tw10528302619109341060:=()
def tw936708862640690563:=()
def tw1053520156774608292:=()
def tw11731487913063081131:=()
def tw5222258514287956887:=()
def tw13492542402699892019:=()
def tw1531097735137158330:=()
def tw6822085954319100670:=()
def tw10168650839389108642:=()
def tw5380493986678691308:=()
def tw9597261670539207839:=()
def tw738806693149404522:=()
def tw13889048485043085052:=()
def tw13062957088369823049:=()
def tw5095822650191142641:=()
def tw11190982530998124893:=()
def tw1745375232648914951:=()
def tw9346143752266703063:=()
def tw2793167846839924715:=()
def tw14683534009806600979:=()
def tw10957143654493914763:=()
def tw16680621740896156562:=()
def tw682554738873131329:=()
def tw1052730663303507491:=()
def tw10261803197670940314:=()
def tw9567344798063071800:=()
def tw316818425203838875:=()
def tw1033403215673653166:=()
def tw10341528142758783698:=()
def tw8396723585396908669:=()
def tw6586069221282936124:=()
def tw3342514487281636084:=()
def tw9113241505580050581:=()
def tw8551723507949384518:=()
def tw16332315258245306205:=()
def tw15219316073315503359:=()
def tw7728647882522610457:=()
def tw10826015936963130432:=()
def tw6049333736843491110:=()
def tw3350829389502443619:=()
def tw3620523006404233466:=()
def tw14240268684427219481:=()
def tw13786944307305690151:=()
def tw6447830387606989808:=()
def tw6480972152571007380:=()
def tw11948731497982403750:=()
def tw1198239613795575510:=()
def tw15587293291196113176:=()
def tw5797319750832348255:=()
def tw6497924514409672283:=()
def tw12417116861081855192:=()
def tw12887830897262678689:=()
def tw5495522486172520333:=()
def tw16895154890446152696:=()
def tw4626639802804533421:=()
def tw7529767894744670864:=()
def tw7826051999842233335:=()
def tw12516541946102927883:=()
def tw15941633791397015571:=()
def tw10212613055166649269:=()
def tw11174758936506401199:=()
def tw13599602415601409038:=()
def tw13202399960319699710:=()
def tw1772241645834034212:=()
def tw6511541964980687894:=()
def tw11800520564181672672:=()
def tw14094499394354111112:=()
def tw11349016047784037088:=()
def tw5582262668313510978:=()
def tw12913274830114037283:=()
def tw12435875021118660259:=()
def tw11817468284460549238:=()
def tw12045581745510488807:=()
def tw2950944381653721599:=()
def tw17461170249826529353:=()
def tw12432894725421792232:=()
def tw17602909981357207626:=()
def tw8167538358655420553:=()
def tw18242690841546471171:=()
def tw14549562250147191593:=()
def tw8945384564096562851:=()
def tw12891175925980281581:=()
def tw12955206917472020666:=()
def tw6790841010494946259:=()
def tw1569379630794548769:=()
def tw12471816579399982287:=()
def tw10742172717678924127:=()
def tw3001812716344402262:=()
def tw16427038883492406562:=()
def tw3345455181695578698:=()
def tw18423167929427934966:=()
def tw5447725096147227484:=()
def tw3797418076100951501:=()
def tw12720944664519940702:=()
def tw15047096133296748689:=()
def tw15916193874725176980:=()
def tw12554372271384528292:=()
def tw9482104244113129458:=()
def tw2365678111126732265:=()
def tw12657867506959937730:=()
def tw2858236369354899791:=()
def tw5419284935138743713:=()
def tw11261172422912930696:=()
def tw8416106384938488434:=()
def tw16179005454585213076:=()
def tw12098718021232436512:=()
def tw15270097047618555192:=()
def tw3656137200035887234:=()
def tw1771050322886464259:=()
def tw10545551070694751326:=()
def tw10808796544936501095:=()
def tw11957755297347070859:=()
def tw14890876173334495913:=()
def tw9982006098766620120:=()
def tw3735627028144113663:=()
def tw2105296609739503975:=()
def tw9605065012341809568:=()
def tw12617544562141885806:=()
def tw17690376254125331314:=()
def tw14356392105569177383:=()
def tw236614324985036545:=()
def tw7788639259243837652:=()
def tw7760880365188567517:=()
def tw422473236454272570:=()
def tw698283061963465001:=()
def tw906672321900151613:=()
def tw8892332836187243012:=()
def tw2049878850484169029:=()
def tw3699942751683452855:=()
def tw3091680177618213967:=()
def tw5569818394021061663:=()
def tw16770446204270032211:=()
def tw3796785425422704358:=()
def tw11157799523389820046:=()
def tw7922573468018493176:=()
def tw3045569682093358408:=()
def tw15325875931303197967:=()
def tw952476371034871049:=()
def tw4399619900052673120:=()
def tw8132855774767392028:=()
def tw12959321088235049868:=()
def tw14000672064154777423:=()
def tw10147665775837523776:=()
def tw1579652650207846699:=()
def tw6190840472536616595:=()
def tw5298061409517200216:=()
def tw11470568351178703863:=()
def tw2780036590377558686:=()
def tw2724817874344400997:=()
def tw9149057464141395892:=()
def tw736150945128029118:=()
def tw17363949934387694972:=()
def tw10945018480176799512:=()
def tw8773287450326437591:=()
def tw5176310561030616725:=()
def tw14294998915308876358:=()
def tw15861522560464070578:=()
def tw4354592430723237324:=()
def tw7284666906951674386:=()
def tw11040345736582587791:=()
def tw5829985709533007358:=()
def tw17950468982554733071:=()
def tw2951793554028535090:=()
def tw7418525696075334854:=()
def tw799350484889932241:=()
def tw13171961349053307338:=()
def tw11030415343023432538:=()
def tw13915709028429446061:=()
def tw733605872860521142:=()
def tw1775953386587199209:=()
def tw13193000144294570513:=()
def tw641122970713850761:=()
def tw15401014544804827537:=()
def tw12712001971882109216:=()
def tw180332901103103495:=()
def tw5688787655683392881:=()
def tw7241586389069553131:=()
def tw17345575481724979543:=()
def tw15518969215532507868:=()
def tw5718485139501441070:=()
def tw7987951585335220498:=()
def tw14528472310118744989:=()
def tw4492130539623672658:=()
def tw10465626366550401343:=()
def tw1437086769395819298:=()
def tw10356650451093962848:=()
def tw3709325293617549990:=()
def tw2815871330645120168:=()
def tw1896432614710573638:=()
def tw318839367951115675:=()
def tw5298917770819688247:=()
def tw5683316164008172631:=()
def tw8668429697876634866:=()
def tw10385340729747048362:=()
def tw14328675037359170140:=()
def tw2056565582434539976:=()
def tw11888122473683232560:=()
def tw4991314009384521490:=()
def tw10079081065621520036:=()
def tw7243119285333481489:=()
def tw9406845039900784623:=()
def tw2810268190023686646:=()
def tw7677260203075836691:=()
def tw8907830209717035983:=()
def tw9776320525449043629:=()
def tw13979493022698933166:=()
def tw16848562796066934679:=()
def tw8204347155587080368:=()
def tw1667068375557817417:=()
def tw6552950202077372191:=()
def tw15302148515202304581:=()
def tw13576124356901079178:=()
def tw6289951099030523501:=()
def tw9874540706667477588:=()
def tw1501865349428465406:=()
def tw10895362470497423576:=()
def tw15243070445087032443:=()
def tw14812029963327522303:=()
def tw15911009764846319413:=()
def tw1061513038472711835:=()
def tw2868992491470430756:=()
def tw7436405557152749918:=()
def tw13468609049978778724:=()
def tw5322336572159027656:=()
def tw11104609705791701950:=()
def tw3200028435404681028:=()
def tw11011948985677169499:=()
def tw16415837399559070004:=()
def tw14196245110780293361:=()
def tw18403991795396342386:=()
def tw7778116941811796000:=()
def tw8059532755521593862:=()
def tw11428098418824644285:=()
def tw8157880653963666099:=()
def tw15803195524579427124:=()
def tw16501608875751717873:=()
def tw7327985234525597497:=()
def tw15456536551384027152:=()
def tw8652181898097516462:=()
def tw12720367621077452566:=()
def tw1751734213546345538:=()
def tw3105695779161130211:=()
def tw18200133302434682185:=()
def tw9997828330795550144:=()
def tw4041504166453319911:=()
def tw1596418454992933628:=()
def tw17771183308500181681:=()
def tw5348510111873683810:=()
def tw15866205899393414533:=()
def tw18376946913173264676:=()
def tw8808134241158044699:=()
def tw12384893279966380335:=()
def tw18034157428391223099:=()
def tw801088518983128691:=()
def tw4499719053931965149:=()
def tw615131265433782283:=()
def tw16043914553005274771:=()
def tw16799376810068481082:=()
def tw10493456172185988987:=()
def tw16297899932114993327:=()
def tw8155971407519890090:=()
def tw10359586914875787893:=()
def tw12499825395853575228:=()
def tw5818110852278463472:=()
def tw3347188041641797710:=()
def tw17327034721836013388:=()
def tw5357704892628930545:=()
def tw229100679789633212:=()
def tw13483980241857960831:=()
def tw15439620532830900434:=()
def tw2316126354356082657:=()
def tw1457562461815006350:=()
def tw16621976349854614792:=()
def tw10841568771399456287:=()
def tw10669125301035898489:=()
def tw16553435305244762523:=()
def tw5374594995653996509:=()
def tw10845149821859016149:=()
def tw7989863290832590671:=()
def tw11286388000802593244:=()
def tw5033787728426155443:=()
def tw15645752724107233549:=()
def tw8252707453015034206:=()
def tw14204330931282504759:=()
def tw11397998035423652187:=()
def tw3964060835637868314:=()
def tw11345614999652598290:=()
def tw2723080872145290705:=()
def tw41295158237434632:=()
def tw5989355856867426257:=()
def tw10390478736359746695:=()
def tw1558661439000546567:=()
def tw1644949785655801366:=()
def tw3047834596995473646:=()
def tw1316656605667562954:=()
def tw226743907482973782:=()
def tw9881463131308850179:=()
def tw9113105128688675632:=()
def tw11607212800610715257:=()
def tw14226010035871764703:=()
def tw8701619752689805150:=()
def tw8401271817706984264:=()
def tw9740399071857583578:=()
def tw9333461603662130796:=()
def tw16081099693351594263:=()
def tw16616189212288265985:=()
def tw16434180913254299266:=()
def tw870789713333780801:=()
def tw4668769154245360386:=()
def tw10515081285471896927:=()
def tw18022925247475467318:=()
def tw6253046585925986337:=()
def tw15809145129553403738:=()
def tw15104075715294329798:=()
def tw274573186127320471:=()
def tw11323733302772697342:=()
def tw14241866806900200555:=()
def tw15265681383657081477:=()
def tw948582957129307595:=()
def tw13517325633872947535:=()
def tw8816205199102229108:=()
def tw2900889736414291372:=()
def tw14353855162753857131:=()
def tw15287201297614540190:=()
def tw7667406578146274661:=()
def tw2239934562647751635:=()
def tw16828719753678290310:=()
def tw16752430385403334477:=()
def tw7816163665895133311:=()
def tw1104733010587351199:=()
def tw11863803893927861242:=()
def tw9866226518423851699:=()
def tw862566531876493606:=()
def tw12423051051059368726:=()
def tw3660612125646469068:=()
def tw16223380896550418915:=()
def tw9908448877341622049:=()
def tw9047577511373463739:=()
def tw18193889471121047045:=()
def tw4956568599472829187:=()
def tw11972474206777239997:=()
def tw7984276871596088623:=()
def tw10961300150325963708:=()
def tw14591259705889378044:=()
def tw17266419309115559916:=()
def tw3356724042887270559:=()
def tw7039496676876329703:=()
def tw1179855397562678849:=()
def tw12211458774828122212:=()
def tw8345625224340074434:=()
def tw16338815809941685281:=()
def tw8653287710546837003:=()
def tw5371979343830881549:=()
def tw15738383602455742627:=()
def tw167527194934801496:=()
def tw7921358374644724028:=()
def tw4341854878360068975:=()
def tw1210901355721862248:=()
def tw11877510017128644607:=()
def tw18444454876524398783:=()
def tw10184529245594813104:=()
def tw2805072370425312110:=()
def tw2691951814071968981:=()
def tw14435687208022906820:=()
def tw12569809978023821584:=()
def tw8174634819335349914:=()
def tw5271418863303687023:=()
def tw14603017838230693462:=()
def tw13488423840655868177:=()
def tw9634781628117799532:=()
def tw16895408723148937316:=()
def tw12282473843227494438:=()
def tw4460643502403703501:=()
def tw2739926879799052779:=()
def tw3724872102460872623:=()
def tw15792162854454020409:=()
def tw17301915007465787494:=()
def tw8524449970011522246:=()
def tw16996867115734754722:=()
def tw7080560627984628093:=()
def tw5176852809645072328:=()
def tw4104208890047909630:=()
def tw17555886856617023598:=()
def tw15628645473562903961:=()
def tw12118247863687358921:=()
def tw9995497684857452296:=()
def tw18365731454666594030:=()
def tw6326866066584864923:=()
def tw13959453550726916792:=()
def tw1050293417273061552:=()
def tw15034500567790305169:=()
def tw16346934612284433095:=()
def tw11292001884132845934:=()
def tw10510400800757325580:=()
def tw16433288248187191313:=()
def tw7344124226550685588:=()
def tw4588075102033491796:=()
def tw7671090601811333219:=()
def tw17355255764189573347:=()
def tw15040991177376631347:=()
def tw18019433910902577303:=()
def tw382126409709829907:=()
def tw17620288564459592517:=()
def tw1953574434751619971:=()
def tw2012156690115987461:=()
def tw4813057188961250949:=()
def tw2750139018294166065:=()
def tw16930997887990354339:=()
def tw15935708156233273617:=()
def tw1298193692204005195:=()
def tw943184661972095082:=()
def tw8673221683177270454:=()
def tw16837602221374261011:=()
def tw12848447965607104999:=()
def tw17181911839624772099:=()
def tw4548140982400256698:=()
def tw2453099997347165830:=()
end PySem.W.Fast
open PySem PySem.W PyProof.Rows
local macro_rules | `(tactic| walk_at"kf") => `(tactic| exact ⟨by k_is, _, _, _, _, _, _, _, _, _, by k_is, by k_is, by k_is⟩)
local macro_rules | `(tactic| walk_at"km") => `(tactic| exact ⟨by k_is, by k_is, _, _, _, _, _, _, _, _, _, by k_is, by k_is, by k_is⟩)
local macro_rules | `(tactic| walk_at"kd") => `(tactic| exact ⟨by k_is, by k_is, _, _, _, _, _, _, _, _, _, by k_is, by k_is, _, _, _, by k_is⟩)
local macro_rules | `(tactic| walk_at"kc") => `(tactic| exact ⟨by k_is, ⟨by k_is, by k_is, by k_is, by k_is⟩, by k_is, by k_is, ⟨by k_is, by k_is, by k_is, by k_is⟩⟩)
local macro_rules | `(tactic| walk_at"kn") => `(tactic| (repeat (first | exact trivial | refine ⟨by k_is, ?_⟩)))
local macro_rules | `(tactic| walk_at"ka") => `(tactic| exact ⟨by k_is, _, _, _, _, _, _, _, _, by k_is, by k_is, by k_is, _, _, _, _, by k_is, by exact rfl⟩)
local macro_rules | `(tactic| walk_at"kt") => `(tactic| kernel_rfl)
local macro_rules | `(tactic| walk_at"k2") => `(tactic| exact ⟨by k_is, by k_is⟩)
local macro_rules | `(tactic| walk_at"k1") => `(tactic| k_is)
set_option maxRecDepth 100000 in
set_option maxHeartbeats 0 in
theorem PySem.Challenge.cw_pieceways_k43_great_letters_holds : PySem.Challenge.rw_pieceways_k43_great_letters.Holds := by
 w_on;o_law;k_head;(case hw=>w_witness2)
 k_fill
 refine Mine.Zc (l:=PySem.Challenge.rw_pieceways_k43_great_letters) rfl rfl (fun w h Y=>PySem.W.km_in_of Y) rfl ?F
 case F=>
  intro w mg fa h KX G hmg;exact Mine.FA KX G hmg (by walk_at"kf") (by walk_at"kf") (by walk_at"kf") (by walk_at"kf") (by walk_at"kf") (by walk_at"kf") (by walk_at"kf") (by walk_at"kf") (by walk_at"kf") (by walk_at"kf") (by walk_at"kf") (by walk_at"kf") (by walk_at"kf") (by walk_at"kf") (by walk_at"kf") (by walk_at"kf") (by walk_at"kf") (by walk_at"kf") (by walk_at"kf") (by walk_at"kf") (by walk_at"kf") (by walk_at"kf") (by walk_at"kf") (by walk_at"kf") (by walk_at"ka") (by walk_at"kf") (by walk_at"kf") (by walk_at"kf") (by walk_at"kf") (by walk_at"kc") (by walk_at"kn") (by walk_at"kd") (by walk_at"kc") (by walk_at"kn") (by walk_at"km") (by walk_at"km") (by walk_at"kd") (by walk_at"kc") (by walk_at"kn") (by walk_at"km") (by walk_at"kc") (by walk_at"kn") (by walk_at"km") (by walk_at"kc") (by walk_at"kn") (by walk_at"km") (by walk_at"kc") (by walk_at"kn") (by walk_at"km") (by walk_at"km") (by walk_at"km") (by walk_at"km") (by walk_at"km") (by walk_at"km") (by walk_at"km") (by walk_at"km") (by walk_at"kc") (by walk_at"kn") (by walk_at"km") (by walk_at"km") (by walk_at"km") (by walk_at"km") (by walk_at"km") (by walk_at"km") (by walk_at"km") (by walk_at"km") (by walk_at"km") (by walk_at"km") (by walk_at"km") (by walk_at"km") (by walk_at"km") (by walk_at"k2") (by walk_at"k2") (by walk_at"k2") (by walk_at"k2") (by walk_at"k1") (by walk_at"k1") (by walk_at"k1") (by walk_at"k1") (by walk_at"k1") ⟨⟨_,by k_is⟩,⟨_,by k_is⟩,⟨_,by k_is⟩,⟨_,by k_is⟩,⟨_,by k_is⟩,trivial⟩ ⟨by k_is,_,_,_,_,_,_,by k_is⟩ ⟨by k_is,_,_,_,_,_,_,by k_is⟩ ⟨by k_is,_,_,_,_,_,by k_is⟩ (by walk_at"kn") (by walk_at"kt")
