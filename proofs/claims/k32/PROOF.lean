import PyProof.Rows.All
import Wide.All
import OpenK.AllK
import Wide.FinOn
import Lean
import PyProof.EqAt
import PyProof.EqKinds
import PyProof.TupleCall
import OpenK.KOwn
import KE.KIsAll
import KE.KLam
import KE.KEqDict
import PySem.Challenge.RW_pieceways_k32_many_keys_read
set_option Elab.async false
set_option linter.all false
set_option maxRecDepth 100000
set_option compiler.extract_closed false
noncomputable section
theorem hide_{G:Prop}(h:∀N:Prop,(G->N)->N):G:=h G id
local macro_rules|`(tactic|obtain $p:rcasesPatMed := $e:term)=>`(tactic|first|((refine hide_ fun N hN=>?_;rcases $e:term with $p)<;>(refine hN ?_;clear hN;clear N))|rcases $e:term with $p)
set_option bootstrap.genMatcherCode false
local macro_rules|`(command|def $n:declId $s:optDeclSig $v:declVal)=>`(command|noncomputable def $n:declId $s:optDeclSig $v:declVal)
def Y0:=@PySem.wpAny_bind
def Y1:=@if_neg
def Y2:=@PySem.wpAny_pure
def Y3:=@if_pos
def Y4:=@List.length_map
def Y5:=@List.getElem?_eq_getElem
def Y6:=@List.getElem?_eq_some_iff
def Y7:=@Nat.le_refl
def Y8:=@PySem.Heap.get?_push_of_some
def Y9:=@List.mem_singleton
def Ya:=@PyProof.Rows.wpS_bind
def Yb:=@PySem.Heap.lt_size
def Yc:=@List.size_toArray
def Yd:=@PyProof.Rows.wpS_pure
def Ye:=@List.mem_append
def Yf:=@List.getElem?_map
def Yg:=@decide_eq_true_eq
def Yh:=@PySem.Heap.get?_push_size
def Yi:=@Bool.false_ne_true
def Yj:=@List.mem_cons_of_mem
def Yk:=@decide_eq_true
def Yl:=@List.pairwise_append
def Ym:=@List.length_take
def Yn:=@PySem.wpAny_ite_false
def Yo:=@Nat.ne_of_lt
def Yp:=@List.mem_cons
def Yq:=@Array.getElem?_eq_getElem
def Yr:=@Option.some.inj
def Ys:=@decide_eq_false
def Yt:=@List.mem_append_right
def Yu:=@List.getD_eq_getElem?_getD
def Yv:=@Nat.zero_le
def Yw:=@List.map_append
def Yx:=@Nat.lt_of_lt_of_le
def Yy:=@List.mem_iff_getElem?
def Yz:=@List.drop_eq_getElem_cons
def YA:=@List.mem_cons_self
def YB:=@List.mem_of_getElem?
def YC:=@PySem.wpAny_setState_of
def YD:=@List.mem_map
def YE:=@Option.map_eq_some_iff
def YF:=@PySem.F.plainAttrs_list
def YG:=@List.take_append_drop
def YH:=@Nat.lt_of_le_of_lt
def YI:=@List.getElem?_take
def YJ:=@PySem.wpAny_holding
def YK:=@PySem.Heap.size_update
def YL:=@PySem.F.slot_list_append
def YM:=@PySem.F.type_list_append
def YN:=@Int.toNat_natCast
def YO:=@List.length_range
def YQ:=@PySem.Heap.get?_update_self
def YR:=@PySem.sizeLine_eq
def YS:=@List.take_of_length_le
def YT:=@Nat.le_trans
def YU:=@Bool.eq_iff_iff
def YV:=@PySem.Heap.get?_update_ne
def YW:=@PySem.PassesOwn.never
def YX:=@PySem.wpAny_call_entry
def YY:=@List.flatten_cons
def YZ:=@List.take_add_one
def X0:=@List.getElem?_drop
def X1:=@PySem.wpAny_mono
def X2:=@List.length_drop
def X3:=@PySem.wpAny_newObj_type
def X4:=@PyProof.Rows.wpS_forRange
def X5:=@List.mem_append_left
def X6:=@List.pairwise_iff_getElem
def X7:=@PySem.wpAny_ite_true
def X8:=@Bool.and_eq_true
def X9:=@decide_false
def Xa:=@List.getElem?_eq_none
def Xb:=@decide_true
def Xc:=@PySem.wpAny_callSpecial?_slot
def Xd:=@List.mem_of_mem_take
def Xe:=@List.all_eq_true
def Xf:=@List.replicate_succ
def Xg:=@PySem.wpAny_truthy_bool
def Xh:=@PySem.F.slot_dict_keyiterator_next
def Xi:=@of_decide_eq_true
def Xj:=@PySem.Heap.get?_push_ne
def Xk:=@Nat.zero_add
def Xl:=@PyProof.Rows.KeyOrd.kle_refl
def Xm:=@List.pairwise_cons
def Xn:=@congrArg
def Xo:=@List.mem_of_mem_drop
def Xp:=@List.take_length
def Xq:=@List.getElem?_append_right
def Xr:=@List.reverse_perm
def Xs:=@beq_eq_false_iff_ne
def Xt:=@List.nodup_cons
def Xu:=@PySem.wpAny_listItems
def Xv:=@List.zip_cons_cons
def Xw:=@PyProof.Rows.wpS_mono
def Xx:=@Nat.lt_irrefl
def Xy:=@Int.le_refl
def Xz:=@PySem.Around.under_plainId
def XA:=@List.pairwise_singleton
def XB:=@Nat.lt_succ_of_lt
def XC:=@PySem.wpAny_loadPart'
def XD:=@PySem.codeAny_builtin
def XE:=@Array.perm_iff_toList_perm
def XF:=@PySem.wpAny_rule
def XG:=@List.getElem_mem
def XH:=@List.pairwise_reverse
def XI:=@List.getElem?_eq_none_iff
def XJ:=@List.find?_cons
def XM:=@List.map_map
def XN:=@PySem.wpAny_attempt
def XO:=@PySem.wpAny_typeNameOfWhole_keyiter
def XQ:=@PySem.Heap.SameBut.update
def XR:=@beq_self_eq_true
def XS:=@PySem.wpAny_setField
def XT:=@List.drop_of_length_le
def XU:=@PySem.wpAny_Call_Name_kw
def XV:=@Array.getD_eq_getD_getElem?
def XW:=@PySem.F.called_set
def XX:=@Int.zero_add
def XY:=@PySem.wpAny_passesOwn
def XZ:=@List.Perm.append_left
def U0:=@Array.getElem?_eq_some_iff
def U1:=@PySem.wpAny_pyIter_list
def U2:=@Option.isSome_map
def U3:=@List.nodup_append
def U4:=@List.drop_sublist
def U5:=@Array.mem_toList_iff
def U6:=@PySem.W.kia_one
def U7:=@Nat.le_succ
def U8:=@Bool.false_and
def U9:=@PySem.codeAny_mono
def Ua:=@PySem.wpAny_isInstance
def Ub:=@Nat.add_zero
def Uc:=@List.take_succ_eq_append_getElem
def Ud:=@PySem.wpAny_askSetting
def Ue:=@PySem.mem_of_lookup
def Uf:=@List.toList_toArray
def Ug:=@List.getElem_of_mem
def Uh:=@List.length_filterMap_eq_countP
def Ui:=@PySem.MeetsSeq3.plain_eq_loop
def Uj:=@List.filter_cons_of_neg
def Uk:=@List.any_cons
def Ul:=@PySem.plainId_quiet
def Um:=@List.foldl_cons
def Uo:=@Nat.min_eq_left
def Up:=@PySem.tupleKind_room_in1
def Uq:=@PySem.wpAny_setField_rec
def Ur:=@Int.emod_lt_of_pos
def Us:=@Array.getElem?_eq_none
def Ut:=@List.reverse_singleton
def Uu:=@List.flatten_singleton
def Uv:=@List.take_append_of_le_length
def Uw:=@List.take_sublist
def Ux:=@PyProof.Rows.KeyOrd.kle_of_klt
def Uy:=@List.mem_range'_1
def Uz:=@PySem.Heap.size_push
def UA:=@List.length_singleton
def UB:=@PySem.F.slot_enumerate_next
def UC:=@PySem.wpAny_fieldsOf
def UD:=@List.perm_append_comm
def UE:=@PySem.wpAny_eqBool_int
def UF:=@List.lookup_cons
def UG:=@PyProof.Rows.KeyOrd.kle_trans
def UH:=@Nat.le_add_right
def UI:=@Prod.ext
def UJ:=@List.getElem?_append
def UK:=@PyProof.Rows.wpS_modify
def UL:=@PyProof.Rows.listUpdate_at
def UM:=@Bool.true_and
def UN:=@List.sum_cons
def UO:=@List.filterMap_cons
def UP:=@List.flatten_append
def UQ:=@List.mem_filter
def UR:=@PySem.Calls.call_function_entry
def US:=@Int.emod_nonneg
def UT:=@Nat.le_of_lt
def UU:=@List.mem_filterMap
def UV:=@Option.isSome_iff_exists
def UW:=@PySem.F.args_dict_keyiterator_next_1
def UX:=@of_decide_eq_false
def UY:=@List.length_range'
def UZ:=@PySem.SetTable.toList_insertAt
def V0:=@List.length_erase_of_mem
def V1:=@Array.getElem_mem_toList
def V2:=@Int.lt_of_lt_of_le
def V3:=@PySem.F.entry_dict_keyiterator_next
def V4:=@PyProof.Rows.wpS_get
def V5:=@Eq.symm
def V6:=@PyProof.Rows.F.plain_set_update_loop
def V7:=@List.filter_cons_of_pos
def V8:=@Bool.not_eq_true'
def V9:=@List.ext_getElem?
def Va:=@PySem.wpAny_dictEntries
def Vb:=@Bool.eq_false_iff
def Vc:=@bne_self_eq_false
def Vd:=@Array.toList_push
def Ve:=@Nat.lt_trichotomy
def Vf:=@Sum.inl.inj
def Vg:=@PySem.wpAny_of_eq
def Vh:=@PySem.wpAny_field
def Vi:=@PyProof.Rows.seqEpoch_at
def Vj:=@List.length_pos_of_mem
def Vk:=@PySem.SetTable.insertAt_perm
def Vl:=@List.drop_eq_nil_of_le
def Vm:=@PySem.wpAny_standAt
def Vn:=@PySem.wpAny_newList
def Vo:=@Nat.lt_succ_self
def Vp:=@or_false
def Vq:=@Bool.not_eq_true
def Vr:=@List.length_filter_le
def Vs:=@PySem.plainObj_wpAny_Assign_Attribute
def Vt:=@Array.getElem?_setIfInBounds_ne
def Vu:=@PySem.wpAny_execs_nil
def Vv:=@Nat.ne_of_gt
def Vw:=@PySem.wpAny_load
def Vx:=@beq_iff_eq
def Vy:=@List.length_set
def Vz:=@List.length_dropLast
def VA:=@List.forIn_cons
def VB:=@Option.map_some
def VC:=@PySem.codeAny_call_builtin
def VD:=@List.range_eq_range'
def VE:=@List.mem_erase_of_ne
def VF:=@Int.min_le_left
def VG:=@Int.le_max_left
def VH:=@Int.le_trans
def VI:=@List.drop_append_of_le_length
def VJ:=@PySem.wpAny_newTuple
def VL:=@PySem.isSubtype_stop
def VM:=@PySem.F.slot_dict_setdefault
def VN:=@PySem.W.kat_cons
def VO:=@PyProof.Rows.wpS_lift
def VP:=@PyProof.Rows.callWith_type1
def VQ:=@List.drop_length_add_append
def VR:=@PySem.Calls.Name_function_global
def VS:=@List.map_drop
def VT:=@Bool.or_false
def VU:=@Array.toList_setIfInBounds
def VW:=@List.length_eraseIdx_of_lt
def VX:=@List.perm_append_singleton
def VY:=@PySem.wpAny_pyIter_slot
def VZ:=@List.pairwise_map
def W0:=@List.getElem?_append_left
def W1:=@PySem.call_meets
def W2:=@List.getElem?_zip_eq_some
def W3:=@Nat.mod_lt
def W4:=@Classical.byContradiction
def W5:=@List.mem_of_find?_eq_some
def W6:=@PySem.W.kat_yes
def W7:=@PySem.wpAny_eqBool_str
def W8:=@Nat.le_of_eq
def W9:=@List.not_mem_nil
def Wa:=@Array.toList_inj
def Wb:=@List.ext_getElem
def Wc:=@List.mem_reverse
def Wd:=@List.mem_flatten
def We:=@PySem.wpAny_typeOf
def Wf:=@Array.size_setIfInBounds
def Wg:=@decide_eq_false_iff_not
def Wh:=@Nat.add_sub_cancel_left
def Wi:=@Option.bind_eq_some_iff
def Wj:=@PySem.F.plainAttrs_dict
def Wk:=@List.of_mem_zip
def Wl:=@PySem.wpAny_specialOf
def Wm:=@Array.Perm.refl
def Wn:=@PySem.codeAny_of_tree
def Wo:=@PySem.wpAny_dictEpoch
def Wp:=@List.getElem?_set_self
def Wq:=@PySem.F.slot_dict_iter
def Wr:=@Array.toList_filterMap
def Ws:=@List.find?_cons_of_pos
def Wt:=@List.find?_cons_of_neg
def Wu:=@List.mem_range
def Wv:=@List.cons_lt_cons_iff
def Ww:=@List.nodup_nil
def Wx:=@List.set_append_right
def Wy:=@List.getElem?_toArray
def Wz:=@PySem.isSubtype_type
def WA:=@List.Perm.refl
def WB:=@Array.mem_of_getElem?
def WC:=@List.take_succ
def WD:=@List.getElem?_set_ne
def WE:=@PySem.wpAny_call
def WF:=@List.mem_iff_getElem
def WG:=@List.replicate_succ'
def WH:=@List.getElem?_range
def WI:=@PyProof.Rows.lt_str
def WJ:=@Nat.sub_lt_sub_left
def WK:=@List.length_reverse
def WL:=@List.map_congr_left
def WM:=@Int.toNat_of_nonneg
def WN:=@Nat.sub_self
def WO:=@Nat.lt_or_ge
def WP:=@List.not_lt
section
open PySem
abbrev WQ:=Str->Option Value
abbrev WR:=Value->Shared->Prop
abbrev WT:=Unit->Shared->Prop
abbrev WU:=List (Addr×Obj)
abbrev WV:=PySem.Program
abbrev WW:=PySem.Shared
abbrev WX:=PySem.FuncData
abbrev WY:=PySem.Around
abbrev WZ:=PySem.World
abbrev J0:=PySem.W.Frag
abbrev J1:=PySem.Value
abbrev J2:=PySem.Addr
abbrev J3:=List Int
abbrev J5:=List Value
abbrev J6:=PySem.Heap
abbrev J7:=PySem.Expr
end
namespace L2
open PySem PySem.Spec PyProof.Rows
abbrev Jv:=Sum Int Str
def EG:Jv->Value->Bool
 | .inl k,v=>Value.isInt k v
 | .inr x,v=>Value.isStrOf x v
def wG(w:WZ):Jv->Int
 | .inl k=>hashInt k
 | .inr x=>hashStr w x
theorem GZ:∀{k:Jv} {v:J1},EG k v=true->(∃i t,k=Sum.inl i/\v=Value.int i t)\/(∃x t,k=Sum.inr x/\v=Value.str x t)
 | .inl i,v,h=>by
  obtain⟨t,e⟩:=Value.isInt_shape (k:=i) (v:=v) h;exact .inl ⟨i,t,rfl,e⟩
 | .inr x,v,h=>by
  obtain⟨t,e⟩:=Value.isStrOf_shape (x:=x) (v:=v) h;exact .inr ⟨x,t,rfl,e⟩
theorem wI(i:Int)(t:Tok):EG (.inl i) (.int i t)=true:=by simp[EG,Value.isInt]
theorem n5(x:Str)(t:Tok):EG (.inr x) (.str x t)=true:=by simp[EG,Value.isStrOf]
theorem QX(a b:Int):decide ((Sum.inl a:Jv)=Sum.inl b)=(a==b):=by
 by_cases e:a=b
 .subst e;simp
 .have h:¬(Sum.inl a:Jv)=Sum.inl b:=fun q=>e (Vf q)
  rw[Ys h];exact(Xs.mpr e).symm
theorem Sn(a b:Str):decide ((Sum.inr a:Jv)=Sum.inr b)=decide (a=b):=by
 by_cases e:a=b
 .subst e;simp
 .have h:¬(Sum.inr a:Jv)=Sum.inr b:=fun q=>e (Sum.inr.inj q)
  rw[Ys h,Ys e]
theorem Zd(a:Int)(b:Str):decide ((Sum.inl a:Jv)=Sum.inr b)=false:=Ys (fun q=>nomatch q)
theorem ZE(a:Str)(b:Int):decide ((Sum.inr a:Jv)=Sum.inl b)=false:=Ys (fun q=>nomatch q)
def Jk(prog:WV)(w:WZ):PySem.KeyKind prog w Jv where
 is:=EG
 hash:=wG w
 inj:=fun v a b ha hb=>by
  rcases GZ ha with⟨i,t,rfl,rfl⟩|⟨x,t,rfl,rfl⟩
  .rcases GZ hb with⟨j,u,rfl,e⟩|⟨y,u,rfl,e⟩
   .injection e with e1 _;rw[e1]
   .exact nomatch e
  .rcases GZ hb with⟨j,u,rfl,e⟩|⟨y,u,rfl,e⟩
   .exact nomatch e
   .injection e with e1 _;rw[e1]
 byValue:=fun k v h=>by
  rcases GZ h with⟨i,t,rfl,rfl⟩|⟨x,t,rfl,rfl⟩ <;> rfl
 pyHash:=fun hv h=>by
  rcases GZ hv with⟨i,t,rfl,rfl⟩|⟨x,t,rfl,rfl⟩
  .exact wpAny_pyHash_int h
  .exact wpAny_pyHash_str h
 eqBool:=fun hu hv h=>by
  rcases GZ hu with⟨i,t,rfl,rfl⟩|⟨x,t,rfl,rfl⟩
  .rcases GZ hv with⟨j,u,rfl,rfl⟩|⟨y,u,rfl,rfl⟩
   .rw[QX]at h;exact UE h
   .rw[Zd]at h;exact SeqAt.EqAt.int_str i t y u _ _ _ _ h
  .rcases GZ hv with⟨j,u,rfl,rfl⟩|⟨y,u,rfl,rfl⟩
   .rw[ZE]at h;exact SeqAt.EqAt.str_int x t j u _ _ _ _ h
   .rw[Sn]at h;exact W7 h
 «strs»:=fun k x t v h=>by
  rcases GZ h with⟨i,u,rfl,e⟩|⟨y,u,rfl,e⟩
  .exact nomatch e
  .injection e with e1 _;subst e1;cases v <;> rfl
theorem QQ(prog:WV)(w:WZ)(i:Int)(t:Tok):(Jk prog w).is (.inl i) (.int i t)=true:=wI i t
theorem Zh(prog:WV)(w:WZ)(x:Str)(t:Tok):(Jk prog w).is (.inr x) (.str x t)=true:=n5 x t
inductive V where
 |non|bl (b:Bool)|int (i:Int)|str (x:Str)|byt (b:Array UInt8)|flt (b:UInt64)|ref (a:J2)|ty (n:String)
 deriving DecidableEq
def Jg:V->Value->Prop
 | .non,u=>u=Value.none
 | .bl b,u=>u=Value.bool b
 | .int i,u=>∃t,u=Value.int i t
 | .str x,u=>∃t,u=Value.str x t
 | .byt b,u=>∃t,u=Value.bytes b t
 | .flt b,u=>∃t,u=Value.float b t
 | .ref a,u=>u=Value.ref a
 | .ty n,u=>u=Value.type n
abbrev Jd:List V->List Value->Prop:=Paired Jg
theorem Jd.length{xs:List V}{us:J5}(r:Jd xs us):xs.length=us.length:=Paired.length r
theorem Jd.get:∀{xs:List V} {us:J5} {i:Nat} {x:V},Jd xs us->xs[i]?=some x->∃u,us[i]?=some u/\Jg x u
 |_,_,_,_,.nil,e=>by simp at e
 |_,_,0,_,.cons r _,e=>by simp at e;subst e;exact⟨_,rfl,r⟩
 |_,_,i+ 1,x,.cons _ t,e=>by
  obtain⟨u,h1,h2⟩:=Jd.get (i:=i) (x:=x) t (by simpa using e);exact⟨u,by simpa using h1,h2⟩
theorem Jd.set{x:V}{u:J1}(r:Jg x u):∀{xs:List V} {us:J5} (i:Nat),Jd xs us->Jd (xs.set i x) (us.set i u)
 |_,_,_,.nil=>.nil
 |_,_,0,.cons _ t=>.cons r t
 |_,_,i+ 1,.cons q t=>.cons q (Jd.set r i t)
theorem Jd.append:∀{xs ys:List V} {us ws:J5},Jd xs us->Jd ys ws->Jd (xs++ys) (us++ws)
 |_,_,_,_,.nil,s=>s
 |_,_,_,_,.cons r t,s=>.cons r (Jd.append t s)
theorem Jd.take:∀{xs:List V} {us:J5} (n:Nat),Jd xs us->Jd (xs.take n) (us.take n)
 |_,_,0,_=>.nil
 |_,_,_+ 1,.nil=>.nil
 |_,_,n+ 1,.cons r t=>.cons r (Jd.take n t)
theorem Jd.drop:∀{xs:List V} {us:J5} (n:Nat),Jd xs us->Jd (xs.drop n) (us.drop n)
 |_,_,0,r=>r
 |_,_,_+ 1,.nil=>.nil
 |_,_,n+ 1,.cons _ t=>Jd.drop n t
def Th:Option V->Option Value->Prop
 |some v,some u=>Jg v u
 |none,none=>True
 |_,_=>False
def KV{κ:Type}:List (κ×V)->List (κ×Value)->Prop:=Paired fun(p:κ×V) (q:κ×Value)=>p.1=q.1/\Jg p.2 q.2
def kV:Jv->V
 | .inl i=>.int i
 | .inr x=>.str x
inductive HO where
 |lst (xs:List V)
 |tup (xs:List V)
 |dK (kvs:List (Jv×V))|dT (kvs:List (List Jv×V))
 |set (S:Int->Bool) (n:Nat)
 |ins (C dx:J2) (fs:List (Str×V))
 |own (x:J2)
 |xd (fs:List (Str×V))
 |met (f x:J2)
 |rng (lo hi:Int)
 |frz (o:Obj) (u:HO)
 |tbl (ps:Array Value)
 |ext (φ:Heap->Prop)
abbrev Hp:=Addr->Option HO
def upd(H:Hp)(a:J2)(o:HO):Hp:=fun b=>if b=a then some o else H b
theorem ND{H:Hp}{a:J2}{o:HO}:upd H a o a=some o:=by unfold upd;rw[Y3 rfl]
theorem JY{H:Hp}{a b:J2}{o:HO}(h:b≠a):upd H a o b=H b:=by unfold upd;rw[Y1 h]
theorem N6{H:Hp}{a b:J2}{o u:HO}(h:H a=some o)(h':H b=some u)(d:o≠u):a≠b:=by
 intro e;subst e;rw[h]at h';exact d (Yr h')
theorem Tg{H:Hp}{a b:J2}{o:HO}(h:H a=some o)(h':H b=none):a≠b:=by
 intro e;subst e;rw[h]at h';cases h'
section
variable(P:WV)(w:WZ)
def Jy(H:Hp)(h:J6)(a:J2):HO->Prop
 | .lst xs=>xs.length <=sizeLine/\∃ (its:J5) (n:Nat),Jd xs its/\h.get? a=some {cls:=.type "list",data:=.seq its.toArray n}
 | .tup xs=>xs.length <=sizeLine/\∃its:List Value,Jd xs its/\IsTup h a its.toArray
 | .dK kvs=>kvs.length <=sizeLine/\(a==sysModules)=false/\∃vs,KV kvs vs/\h.DictOf (Jk P w) a vs
 | .dT kvs=>kvs.length <=sizeLine/\(a==sysModules)=false/\∃xs:List (List Jv×Addr×Value),
   Paired (fun(p:List Jv×V) (q:List Jv×Addr×Value)=>p.1=q.1/\H q.2.1=some (.tup (p.1.map kV))/\Jg p.2 q.2.2) kvs xs/\
   ∃o es ep,h.get? a=some o/\o.ExactDict/\o.data= .dict es ep/\es.toList=xs.map (entryOfKey (tupleKind (Jk P w)))/\(xs.map (·.1)).Nodup
 | .set S n=>h.SetOf (intKind P w) a S n
 | .ins C dx fs=>H dx=some (.own a)/\fs.length <=1000/\dx≠a/\h.get? a=some (W.instObj C dx)/\
   ∃mA,h.Ns1 dx mA/\(∀f,Th (fs.lookup f) (mA f))/\PySem.Within mA (fs.map (·.1))
 | .own _=>∃o,h.get? a=some o
 | .xd fs=>∃mA,h.Ns1 a mA/\∀f,Th (fs.lookup f) (mA f)
 | .rng lo hi=>∃t u v,h.get? a=some {cls:=.type "range",data:=.fields #[.int lo t,.int hi u,.int 1 v]}
 | .frz o u=>h.get? a=some o/\Jy H h a u
 | .tbl ps=>h.get? a=some {cls:=.none,data:=.fields ps}
 | .met f x=>h.get? a=some (W.methodObj (.ref f) (.ref x))
 | .ext φ=>φ h/\(∃o,h.get? a=some o)/\∀h1 h2:Heap,φ h1->(∀o,h1.get? a=some o->h2.get? a=some o)->φ h2
def To(H:Hp)(h:J6):Prop:=∀a o,H a=some o->Jy P w H h a o
end
section
variable{P:WV}{w:WZ}{H H':Hp}{h h':J6}{a:J2}{o:HO}
theorem Jy.lt(x:Jy P w H h a o):a < h.objs.size:=by
 cases o with
 |lst xs=>obtain⟨_,_,_,_,e⟩:=x;exact Yb e
 |tup xs=>obtain⟨_,_,_,p⟩:=x;exact p.lt
 |dK kvs=>obtain⟨_,_,_,_,o,_,_,e,_⟩:=x;exact Yb e
 |dT kvs=>obtain⟨_,_,_,_,o,_,_,e,_⟩:=x;exact Yb e
 |set S n=>obtain⟨o,_,_,_,e,_⟩:=x;exact Yb e
 |ins C dx fs=>obtain⟨_,_,_,e,_⟩:=x;exact Yb e
 |own y=>obtain⟨_,e⟩:=x;exact Yb e
 |xd fs=>obtain⟨_,⟨_,_,_,e,_⟩,_⟩:=x;exact Yb e
 |rng lo hi=>obtain⟨_,_,_,e⟩:=x;exact Yb e
 |frz ob u=>obtain⟨e,_⟩:=x;exact Yb e
 |tbl ps=>exact Yb (show h.get? a=some _ from x)
 |met f y=>exact Yb (show h.get? a=some _ from x)
 |ext φ=>obtain⟨_,⟨_,e⟩,_⟩:=x;exact Yb e
theorem Paired.mapP{α β:Type}{F G:α->β->Prop}:∀{l₁:List α} {l₂:List β},Paired F l₁ l₂->(∀a b,F a b->G a b)->Paired G l₁ l₂
 |_,_,.nil,_=>.nil
 |_,_,.cons r t,f=>.cons (f _ _ r) (Paired.mapP t f)
theorem Jy.stay(x:Jy P w H h a o)(k:∀b u,(b=a\/H b=some (.own a))->h.get? b=some u->h'.get? b=some u)
  (ho:∀b,H b=some (.own a)->H' b=some (.own a)) (ht:∀b xs,H b=some (.tup xs)->H' b=some (.tup xs)):Jy P w H' h' a o:=by
 induction o with
 |lst xs=>obtain⟨z,g,n,r,e⟩:=x;exact⟨z,g,n,r,k _ _ (.inl rfl) e⟩
 |tup xs=>obtain⟨z,g,r,ob,e,c⟩:=x;exact⟨z,g,r,ob,k _ _ (.inl rfl) e,c⟩
 |dK kvs=>obtain⟨z,y,vs,r,ob,es,ep,e,c⟩:=x;exact⟨z,y,vs,r,ob,es,ep,k _ _ (.inl rfl) e,c⟩
 |dT kvs=>
  obtain⟨z,y,xs,r,ob,es,ep,e,c⟩:=x;exact⟨z,y,xs,Paired.mapP r fun p q z=>⟨z.1,ht _ _ z.2.1,z.2.2⟩,ob,es,ep,k _ _ (.inl rfl) e,c⟩
 |set S n=>obtain⟨ob,es,ep,t,e,c⟩:=x;exact⟨ob,es,ep,t,k _ _ (.inl rfl) e,c⟩
 |ins C dx fs=>
  obtain⟨d,z,ne,e,mA,⟨i,es,ep,j,c⟩,r⟩:=x;exact⟨ho _ d,z,ne,k _ _ (.inl rfl) e,mA,⟨i,es,ep,k _ _ (.inr d) j,c⟩,r⟩
 |own y=>obtain⟨ob,e⟩:=x;exact⟨ob,k _ _ (.inl rfl) e⟩
 |xd fs=>obtain⟨mA,⟨i,es,ep,e,c⟩,r⟩:=x;exact⟨mA,⟨i,es,ep,k _ _ (.inl rfl) e,c⟩,r⟩
 |rng lo hi=>obtain⟨t,u,v,e⟩:=x;exact⟨t,u,v,k _ _ (.inl rfl) e⟩
 |frz ob u ih=>obtain⟨e,q⟩:=x;exact⟨k _ _ (.inl rfl) e,ih q⟩
 |tbl ps=>
  have e:h.get? a=some {cls:=.none,data:=.fields ps}:=x;show h'.get? a=some {cls:=.none,data:=.fields ps};exact k a _ (.inl rfl) e
 |met f y=>
  have e:h.get? a=some (W.methodObj (.ref f) (.ref y)):=x;show h'.get? a=some (W.methodObj (.ref f) (.ref y));exact k a _ (.inl rfl) e
 |ext φ=>obtain⟨p,⟨o,e⟩,st⟩:=x;exact⟨st _ _ p fun o q=>k _ _ (.inl rfl) q,⟨o,k _ _ (.inl rfl) e⟩,st⟩
theorem To.lt(x:To P w H h)(e:H a=some o):a < h.objs.size:=(x a o e).lt
theorem To.fresh(x:To P w H h)(e:h.objs.size <=a):H a=none:=by
 cases q:H a with
 |none=>rfl
 |some u=>exact absurd (Yx (x.lt q) e) (Xx _)
theorem To.kept(x:To P w H h)(k:∀b u,h.get? b=some u->h'.get? b=some u):To P w H h':=fun a o e=>
 (x a o e).stay (fun b u _ q=>k b u q) (fun _ q=>q) fun _ _ q=>q
theorem To.laid(x:To P w H h)(k:∀b u,h.get? b=some u->h'.get? b=some u)(hp:h.objs.size <=a)(new:Jy P w (upd H a o) h' a o):To P w (upd H a o) h':=fun b u e=>by
 have d:=x.fresh hp
 by_cases hb:b=a
 .subst hb;rw[ND]at e;cases e;exact new
 .rw[JY hb]at e;exact(x b u e).stay (fun c v _ q=>k c v q) (fun c q=>by rw[JY (Tg q d)];exact q) fun c xs q=>by rw[JY (Tg q d)];exact q
end
def Rd(H:Hp)(a:J2)(u:HO):Prop:=H a=some u\/∃o,H a=some (.frz o u)
theorem Rd.ok{P:WV}{w:WZ}{H:Hp}{h:J6}{a:J2}{u:HO}(r:Rd H a u)(x:To P w H h):Jy P w H h a u:=by
 rcases r with r|⟨o,r⟩
 .exact x a u r
 .obtain⟨_,q⟩:=x a _ r;exact q
def Bu:Option HO->Prop
 |some (.lst _)=>True
 |some (.dK _)=>True
 |some (.dT _)=>True
 |some (.set _ _)=>True
 |some (.ins _ _ _)=>True
 |some (.ext _)=>True
 |_=>False
section
variable{P:WV}{w:WZ}{H:Hp}{h h':J6}{x e:J2}{o':HO}
theorem To.write(ok:To P w H h)(mu:Bu (H x))(he:e=x\/H e=some (.own x))(k:∀b u,b≠e->h.get? b=some u->h'.get? b=some u)(heo:∃u,h'.get? e=some u)
  (new:Jy P w (upd H x o') h' x o'):To P w (upd H x o') h':=fun b u q=>by
 have a:∀c y,H c=some (.own y)->c≠x:=fun c y r z=>by subst z;rw[r]at mu;exact mu
 have f:∀c xs,H c=some (.tup xs)->c≠x:=fun c xs r z=>by subst z;rw[r]at mu;exact mu
 by_cases hb:b=x
 .subst hb;rw[ND]at q;cases q;exact new
 .rw[JY hb]at q
  by_cases hbe:b=e
  .have g:H b=some (.own x):=by
    rcases he with z|z
    .exact absurd (hbe.trans z) hb
    .rw[hbe];exact z
   rw[q]at g;cases g;obtain⟨v,i⟩:=heo;exact⟨v,by rw[hbe];exact i⟩
  .refine(ok b u q).stay (fun c v d r=>k c v ?_ r) (fun c r=>by rw[JY (a c b r)];exact r) fun c xs r=>by rw[JY (f c xs r)];exact r
   rcases d with rfl|d
   .exact hbe
   .rintro rfl;rcases he with z|z
    .exact a c b d z
    .rw[d]at z;cases z;exact hb rfl
end
structure Un(fs ex:List Addr)(H H':Hp)(h h':J6):Prop where
 keep:∀b o,h.get? b=some o->H b=none->b∉fs->b∉ex->h'.get? b=some o
 slot:∀b o,h.get? b=some o->H b=none->b∈fs->b∉ex->∃sl,h'.get? b=some {o with slots:=sl}
 free:∀b o,h.get? b=some o->H b=none->b∉ex->H' b=none
 there:∀b o,h.get? b=some o->b∉ex->∃o',h'.get? b=some o'
 tups:∀b xs,H b=some (.tup xs)->H' b=some (.tup xs)
 frzs:∀b o u,H b=some (.frz o u)->H' b=some (.frz o u)
 tbls:∀b ps,H b=some (.tbl ps)->∃more,H' b=some (.tbl (ps++more))
section
variable{fs fs' ex ex':List Addr}{H H1 H2:Hp}{h h1 h2 h':J6}{a x e:J2}{o:HO}
theorem Un.any(u:Un fs ex H H1 h h1){b:J2}{ob:Obj}(q:h.get? b=some ob)(n:H b=none)(hx:b∉ex):∃sl,h1.get? b=some {ob with slots:=sl}:=by
 by_cases hb:b∈fs
 .exact u.slot b ob q n hb hx
 .exact⟨ob.slots,u.keep b ob q n hb hx⟩
theorem Un.kept(k:∀b u,h.get? b=some u->h'.get? b=some u):Un fs ex H H h h':=
 ⟨fun b a q _ _ _=>k b a q,fun b a q _ _ _=>⟨a.slots,k b a q⟩,fun _ _ _ n _=>n,fun b a q _=>⟨a,k b a q⟩,fun _ _ q=>q,fun _ _ _ q=>q,fun _ ps q=>⟨#[],by rw[q];simp⟩⟩
theorem Un.refl:Un fs ex H H h h:=Un.kept fun _ _ q=>q
theorem Un.laid(k:∀b u,h.get? b=some u->h'.get? b=some u)(hp:h.objs.size <=a)(hn:H a=none):Un fs ex H (upd H a o) h h' where
 keep:=fun b u q _ _ _=>k b u q
 slot:=fun b u q _ _ _=>⟨u.slots,k b u q⟩
 free:=fun b u q n _=>by rw[JY (Yo (Yx (Yb q) hp))];exact n
 there:=fun b u q _=>⟨u,k b u q⟩
 tups:=fun b xs q=>by rw[JY (Tg q hn)];exact q
 frzs:=fun b u xs q=>by rw[JY (Tg q hn)];exact q
 tbls:=fun b ps q=>⟨#[],by rw[JY (Tg q hn),q];simp⟩
theorem Un.write(mu:Bu (H x))(he:e=x\/H e=some (.own x))(k:∀b u,b≠e->h.get? b=some u->h'.get? b=some u)(heo:∃u,h'.get? e=some u):Un fs ex H (upd H x o) h h':=by
 have c:∀b,H b=none->b≠x:=fun b n z=>by subst z;rw[n]at mu;exact mu
 have d:∀b,H b=none->b≠e:=fun b n z=>by
  subst z;rcases he with r|r
  .exact c b n r
  .rw[n]at r;cases r
 have a:∀b u,H b=some u->¬Bu (some u)->b≠x:=fun b u q nm z=>by subst z;rw[q]at mu;exact nm mu
 refine ⟨fun b u q n _ _ => k b u (d b n) q, fun b u q n _ _ => ⟨u.slots, k b u (d b n) q⟩, fun b u q n _ => by rw [JY (c b n)]; exact n, fun b u q _ => ?_,
  fun b xs q => by rw [JY (a b _ q fun z => z)]; exact q, fun b u xs q => by rw [JY (a b _ q fun z => z)]; exact q, fun b ps q => ⟨#[], by rw [JY (a b _ q fun z => z), q]; simp⟩⟩
 by_cases hbe:b=e
 .subst hbe;exact heo
 .exact⟨u,k b u hbe q⟩
end
def Cs(h:J6)(H:Hp):List Addr:=(List.range h.objs.size).filter fun a=>(H a).isSome
def Rq(h:J6)(H:Hp):Heap:=W.hideAll h (Cs h H)
theorem Zx(h:J6)(H:Hp):(Rq h H).objs.size=h.objs.size:=W.hideAll_size _ _
theorem xW{h:J6}{H:Hp}{b:J2}{o:Obj}(e:h.get? b=some o)(n:H b=none):(Rq h H).get? b=some o:=
 W.hideAll_get _ e fun a=>by
  have q:(H b).isSome=true:=(UQ.mp a).2;rw[n]at q;simp at q
theorem x8{h:J6}{H:Hp}{b:J2}{o:Obj}(e:(Rq h H).get? b=some o):h.get? b=some o/\H b=none:=by
 have a:h.get? b=some o:=W.of_hideAll (Cs h H) e;refine⟨a,?_⟩;cases q:H b with
 |none=>rfl
 |some x=>
  have c:b∈Cs h H:=UQ.mpr ⟨Wu.mpr (Yb a),by simp[q]⟩;have z:(Rq h H).get? b=none:=W.hideAll_none (Cs h H) c;rw[z]at e;cases e
def xC(g h:J6)(L:J2):List (Addr×Obj):=(List.range h.objs.size).filterMap fun a=>if a=L\/(g.get? a).isSome=true then none else(h.get? a).map fun o=>(a,o)
def Jq(g h:J6)(L d:J2):List (Addr×Obj):=(xC g h L).filter fun p=>decide (p.1≠d)
structure Mod(K:J0)(mg:WQ)(base:J6):Prop where
 kin:K.In base
 glob:base.Ns mainGlobals mg
 blt:∃mb,base.Ns builtinsNs mb/\∀x:Str,x≠"__name__"->mb x=bootBuiltins x
 nolimit:base.NoLimit
structure Cx where
 prog:Program
 w:World
 K:W.Frag
 mg:Str->Option Value
 base:Heap
 A:Around
 N:List Str
 s₀:Shared
 H₀:Hp
 env:Env
 outer:List Env
 stack:List Env
 ex:List Addr
 fn:Str->Bool
 calm:Bool
 pn:List (Addr×Obj)
 xe:Value->Shared->Prop
def DW(l:List Env):List Addr:=l.filterMap (·.frame)
abbrev Cx.fs(X:Cx):List Addr:=DW X.outer
def B0(sc:Scope)(x:Str):Prop:=sc.names.lookup x=some .local\/sc.names.lookup x=some .cell\/sc.names.lookup x=some .free
def RN(sc:Scope)(x:Str):Prop:=sc.names.lookup x=some .local\/sc.names.lookup x=some .cell
def He(env:Env)(h:J6)(m:WQ)(x:Str)(u:J1):Prop:=
 (env.kindOf x=some .local/\m x=some u)\/((env.kindOf x=some .cell\/env.kindOf x=some .free)/\∃c,env.cells.lookup x=some c/\h.IsCell c (some u))
structure Cx.Ok(X:Cx):Prop where
 mod:Mod X.K X.mg X.base
 kind:X.env.scope.kind= .function
 glob:X.env.globals=mainGlobals
 blt:X.env.builtins=builtinsNs
 above:X.s₀.heap.objs.size <=X.env.locals
 inj:∀x y c,X.env.cells.lookup x=some c->X.env.cells.lookup y=some c->x=y
 has:∀x,(X.env.kindOf x=some .cell\/X.env.kindOf x=some .free)->∃c,X.env.cells.lookup x=some c
 cab:∀x c,X.fn x=true->X.env.cells.lookup x=some c->X.s₀.heap.objs.size <=c
 hd:X.calm=true->X.A.handled=none
 frames:X.A.frames=some X.stack
 stk:X.stack=X.outer\/(X.stack=X.env::X.outer/\X.env.frame=some X.env.locals)
 exf:∀b∈X.ex,b≠X.env.locals/\∀x c,X.env.cells.lookup x=some c->c≠b
 bs:∀b o,X.base.get? b=some o->X.s₀.heap.get? b=some o/\X.H₀ b=none
 bsz:X.base.objs.size <=X.s₀.heap.objs.size
 noex:∀b o,X.base.get? b=some o->b∉X.ex
 exfs:∀b∈X.ex,b∉X.fs
 funs:X.s₀.heap.FunFrames X.base X.outer
 frf:∀b∈X.fs,X.H₀ b=none
structure Jb(X:Cx)(pins:WU)(σ:List (Option V))(H:Hp)(s:WW):Prop where
 ok:X.Ok
 os:s.os=X.s₀.os
 bare:AllBare s.gens
 base:Un X.fs X.ex X.H₀ H X.s₀.heap s.heap
 loc:∃m,s.heap.Ns X.env.locals m/\∀ (i:Nat) (x:Str) (v:V),X.N[i]?=some x->σ[i]?=some (some v)->B0 X.env.scope x->∃u,Jg v u/\He X.env s.heap m x u
 cell:∀x c,X.env.cells.lookup x=some c->∃v,s.heap.IsCell c v
 free:H X.env.locals=none
 freeC:∀x c,X.env.cells.lookup x=some c->H c=none
 pin:∀p∈X.pn++pins,s.heap.get? p.1=some p.2/\H p.1=none/\p.1≠X.env.locals/\p.1∉X.fs/\∀v,p.2.data≠ .cell v
 hok:To X.prog X.w H s.heap
 len:σ.length=X.N.length
section
variable{X:Cx}{pins:WU}{σ:List (Option V)}{H H':Hp}{s:WW}{h':J6}
theorem Cx.Ok.nofr(ok:X.Ok){b:J2}{o:Obj}(e:X.base.get? b=some o):b∉X.fs:=fun a=>by
 have:=(ok.funs.mem a).1;rw[e]at this;cases this
theorem Jb.bs(I:Jb X pins σ H s):∀b o,X.base.get? b=some o->s.heap.get? b=some o/\H b=none:=fun b o e=>
 ⟨I.base.keep b o (I.ok.bs b o e).1 (I.ok.bs b o e).2 (I.ok.nofr e) (I.ok.noex b o e),I.base.free b o (I.ok.bs b o e).1 (I.ok.bs b o e).2 (I.ok.noex b o e)⟩
theorem Jb.bk(I:Jb X pins σ H s):∀b o,X.base.get? b=some o->s.heap.get? b=some o:=fun b o e=>(I.bs b o e).1
theorem Jb.mod(I:Jb X pins σ H s):Mod X.K X.mg X.base:=I.ok.mod
theorem Jb.kIn(I:Jb X pins σ H s):X.K.In s.heap:=I.ok.mod.kin.keeps I.bk
theorem Jb.lt(I:Jb X pins σ H s):X.env.locals < s.heap.objs.size:=let ⟨_,hn,_⟩:=I.loc;hn.lt
theorem Jb.sz(I:Jb X pins σ H s):X.s₀.heap.objs.size <=s.heap.objs.size:=YT I.ok.above (UT I.lt)
theorem Jb.nofs(I:Jb X pins σ H s){a:J2}(h:s.heap.objs.size <=a):a∉X.fs:=fun c=>by
 obtain⟨_,o,b,_⟩:=I.ok.funs.mem c;exact absurd (Yx (Yb b) (YT I.sz h)) (Xx _)
theorem Jb.cne(I:Jb X pins σ H s):∀x c,X.env.cells.lookup x=some c->c≠X.env.locals:=fun x c e z=>by
 obtain⟨v,o,b,hd⟩:=I.cell x c e;obtain⟨m,⟨o',es,ep,a,d,_⟩,_⟩:=I.loc;rw[z,a]at b;cases b;rw[d]at hd;cases hd
theorem Jb.funs(I:Jb X pins σ H s):s.heap.FunFrames X.base X.outer:=by
 have all:∀ (l:List Env),(∀b∈DW l,b∈X.fs)->X.s₀.heap.FunFrames X.base l->s.heap.FunFrames X.base l:=by
  intro l
  induction l with
  |nil=>intro _ _;trivial
  |cons env r ih=>
   intro d i;obtain⟨j,⟨L,o,hf,h,g,hd⟩,f⟩:=i;have c:L∈X.fs:=d L (by unfold DW;rw[UO,hf];exact YA);obtain⟨n,e⟩:=I.base.slot L o g (I.ok.frf L c) c fun z=>I.ok.exfs L z c
   exact⟨j,⟨L,_,hf,h,e,hd⟩,ih (fun b a=>d b (by unfold DW;rw[UO,hf];exact Yj _ a)) f⟩
 exact all X.outer (fun _ a=>a) I.ok.funs
theorem Jb.stack(I:Jb X pins σ H s):s.heap.FunFrames X.base X.stack:=by
 rcases I.ok.stk with e|⟨e,hf⟩
 .rw[e];exact I.funs
 .rw[e];obtain⟨m,a,_⟩:=I.loc;refine .cons (by rw[I.ok.kind];decide) hf a ?_ I.funs;exact Heap.get?_none_of_le (YT I.ok.bsz I.ok.above)
theorem Jb.stkSub(I:Jb X pins σ H s):∀b∈DW X.stack,b∈X.env.locals::X.fs:=fun b a=>by
 rcases I.ok.stk with e|⟨e,hf⟩
 .rw[e]at a;exact Yj _ a
 .rw[e]at a;unfold DW at a;rw[UO,hf]at a;exact a
theorem Jb.stkFree(I:Jb X pins σ H s):∀b∈DW X.stack,H b=none:=fun b a=>by
 rcases Yp.mp (I.stkSub b a) with e|a
 .rw[e];exact I.free
 .obtain⟨_,o,c,_⟩:=I.ok.funs.mem a;exact I.base.free b o c (I.ok.frf b a) fun z=>I.ok.exfs b z a
theorem Jb.step{g':Array GenState}{t':Nat}{d':Drawn}{ch:List Addr}(I:Jb X pins σ H s)
  (hch:∀b∈ch,(b∈X.ex\/X.s₀.heap.objs.size <=b)/\b≠X.env.locals/\(∀x c,X.env.cells.lookup x=some c->c≠b)/\∀p∈X.pn++pins,p.1≠b)
  (keep:∀b o,b≠X.env.locals->b∉X.fs->b∉ch->s.heap.get? b=some o->H b=none->h'.get? b=some o)
  (slot:∀b o,b≠X.env.locals->b∈X.fs->b∉ch->s.heap.get? b=some o->H b=none->∃sl,h'.get? b=some {o with slots:=sl}) (free:∀b o,b∉ch->s.heap.get? b=some o->H b=none->H' b=none)
  (there:∀b o,b∉ch->s.heap.get? b=some o->∃o',h'.get? b=some o')
  (tups:∀b xs,H b=some (.tup xs)->H' b=some (.tup xs)) (frzs:∀b o u,H b=some (.frz o u)->H' b=some (.frz o u)) (tbls:∀b ps,H b=some (.tbl ps)->∃more,H' b=some (.tbl (ps++more)))
  (ns:∀m,s.heap.Ns X.env.locals m->h'.Ns X.env.locals m) (hok:To X.prog X.w H' h') (hg:AllBare g'):
  Jb X pins σ H' {s with heap:=h',gens:=g',drawn:=d',toks:=t'}:=by
 have neL:∀b o,X.s₀.heap.get? b=some o->b≠X.env.locals:=fun b o e=>Yo (Yx (Yb e) I.ok.above)
 have j:∀b o,X.s₀.heap.get? b=some o->b∉X.ex->b∉ch:=fun b o e a h=>by
  rcases(hch b h).1 with z|z
  .exact a z
  .exact absurd (Yx (Yb e) z) (Xx _)
 have aa:∀x c,X.env.cells.lookup x=some c->∀v,s.heap.IsCell c v->h'.IsCell c v:=fun x c e v ⟨o,ho,hd⟩=>by
  have g:c∉ch:=fun z=>(hch c z).2.2.1 x c e rfl
  by_cases hc:c∈X.fs
  .obtain⟨sl,q⟩:=slot c o (I.cne x c e) hc g ho (I.freeC x c e);exact⟨_,q,hd⟩
  .exact⟨o,keep c o (I.cne x c e) hc g ho (I.freeC x c e),hd⟩
 refine⟨I.ok,I.os,hg,⟨fun b o e n h a=>?_,fun b o e n h a=>?_,fun b o e n a=>?_,fun b o e a=>?_,fun b xs e=>tups b xs (I.base.tups b xs e),fun b o xs e=>frzs b o xs (I.base.frzs b o xs e),fun b ps e=>?_⟩,?_,fun x c e=>?_,?_,fun x c e=>?_,fun p hp=>?_,hok,I.len⟩
 .exact keep b o (neL b o e) h (j b o e a) (I.base.keep b o e n h a) (I.base.free b o e n a)
 .obtain⟨sl,f⟩:=I.base.slot b o e n h a;obtain⟨sl',e2⟩:=slot b _ (neL b o e) h (j b o e a) f (I.base.free b o e n a);exact⟨sl',e2⟩
 .obtain⟨o',f⟩:=I.base.there b o e a;exact free b o' (j b o e a) f (I.base.free b o e n a)
 .obtain⟨o',f⟩:=I.base.there b o e a;exact there b o' (j b o e a) f
 .obtain⟨m1,f⟩:=I.base.tbls b ps e;obtain⟨m2,e2⟩:=tbls b _ f;exact⟨m1++m2,by rw[e2,Array.append_assoc]⟩
 .obtain⟨m,hn,hl⟩:=I.loc;refine⟨m,ns m hn,fun i x v f e2 e3=>?_⟩;obtain⟨u,r,l⟩:=hl i x v f e2 e3;refine⟨u,r,?_⟩;rcases l with l|⟨k,c,e,z⟩
  .exact .inl l
  .exact .inr ⟨k,c,e,aa x c e _ z⟩
 .obtain⟨v,z⟩:=I.cell x c e;exact⟨v,aa x c e v z⟩
 .obtain⟨m,⟨o,_,_,ho,_⟩,_⟩:=I.loc;exact free _ o (fun z=>(hch _ z).2.1 rfl) ho I.free
 .obtain⟨v,o,ho,hd⟩:=I.cell x c e;exact free c o (fun z=>(hch c z).2.2.1 x c e rfl) ho (I.freeC x c e)
 .obtain⟨e,n,ne,nf,d⟩:=I.pin p hp;have g:p.1∉ch:=fun z=>(hch p.1 z).2.2.2 p hp rfl
  exact⟨keep p.1 p.2 ne nf g e n,free p.1 p.2 g e n,ne,nf,d⟩
theorem Jb.un{t':Nat}(I:Jb X pins σ H s)(u:Un X.fs [] H H' s.heap h')(hok:To X.prog X.w H' h'):Jb X pins σ H' {s with heap:=h',toks:=t'}:=by
 obtain ⟨m, ⟨o, es, ep, d, r⟩, _⟩ := id I.loc;obtain ⟨l, j⟩ := u.any d I.free (by simp);exact I.step (g' := s.gens) (d' := s.drawn) (ch := []) (fun _ z => nomatch z) (fun b o _ c _ e n => u.keep b o e n c (by simp)) (fun b o _ c _ e n => u.slot b o e n c (by simp)) (fun b o _ e n => u.free b o e n (by simp)) (fun b o _ e => u.there b o e (by simp)) u.tups u.frzs u.tbls (fun p i => by
  obtain ⟨o', f, g, a, h⟩ := i;rw [d] at a; cases a;exact ⟨_, f, g, j, h⟩) hok I.bare
theorem Jb.call{g':Array GenState}{t':Nat}{d':Drawn}{ch:List Addr}(I:Jb X pins σ H s)(u:Un (DW X.stack) ch H H' s.heap h')(hok:To X.prog X.w H' h')(hg:AllBare g')
  (hch:∀b∈ch,(b∈X.ex\/X.s₀.heap.objs.size <=b)/\b≠X.env.locals/\(∀x c,X.env.cells.lookup x=some c->c≠b)/\∀p∈X.pn++pins,p.1≠b):
  Jb X pins σ H' {s with heap:=h',gens:=g',drawn:=d',toks:=t'}:=by
 obtain⟨m,⟨o,es,ep,g,r⟩,_⟩:=id I.loc;obtain⟨v,f⟩:=u.any g I.free fun z=>(hch _ z).2.1 rfl
 exact I.step (ch := ch) hch (fun b o f q a e n => u.keep b o e n (fun z => (Yp.mp (I.stkSub b z)).elim f q) a) (fun b o _ _ a e n => u.any e n a) (fun b o a e n => u.free b o e n a) (fun b o a e => u.there b o e a) u.tups u.frzs u.tbls (fun m' l => by
  obtain ⟨o', h, i, d, j⟩ := l;rw [g] at d; cases d;exact ⟨_, h, i, f, j⟩) hok hg
theorem Jb.turned{t':Nat}{it:J2}(I:Jb X pins σ H s)(k:∀b o,b≠it->s.heap.get? b=some o->h'.get? b=some o)(hn:H it=none)(hL:it≠X.env.locals)
  (h1:it∈X.ex\/X.s₀.heap.objs.size <=it) (h2:∀x c,X.env.cells.lookup x=some c->c≠it) (h3:∀p∈X.pn++pins,p.1≠it):Jb X pins σ H {s with heap:=h',toks:=t'}:=by
 have d:∀b u,H b=some u->b≠it:=fun b u e z=>by rw[z,hn]at e;cases e
 refine I.step (g':=s.gens) (d':=s.drawn) (ch:=[it]) (fun b h=>?_) (fun b o _ _ a e _=>k b o (fun z=>a (by simp[z])) e) (fun b o _ _ a e _=>⟨o.slots,k b o (fun z=>a (by simp[z])) e⟩) (fun _ _ _ _ n=>n)
  (fun b o a e=>⟨o,k b o (fun z=>a (by simp[z])) e⟩) (fun _ _ e=>e) (fun _ _ _ e=>e) (fun b ps e=>⟨#[],by rw[e];simp⟩) (fun m g=>?_) (fun b u e=>?_) I.bare
 .have e:b=it:=by simpa using h
  subst e;exact⟨h1,hL,h2,h3⟩
 .obtain⟨o,es,ep,f,r⟩:=g;exact⟨o,es,ep,k _ o (Ne.symm hL) f,r⟩
 .refine(I.hok b u e).stay (fun c v a q=>k c v ?_ q) (fun _ q=>q) fun _ _ q=>q
  rcases a with z|z
  .rw[z];exact d b u e
  .exact d c _ z
theorem Jb.tok(I:Jb X pins σ H s)(t:Nat):Jb X pins σ H {s with toks:=t}:=I.un (h':=s.heap) (t':=t) Un.refl I.hok
theorem Jb.kept{t':Nat}(I:Jb X pins σ H s)(k:∀b u,s.heap.get? b=some u->h'.get? b=some u):Jb X pins σ H {s with heap:=h',toks:=t'}:=I.un (Un.kept k) (I.hok.kept k)
theorem Jb.laid{a:J2}{o:HO}{t':Nat}(I:Jb X pins σ H s)(k:∀b u,s.heap.get? b=some u->h'.get? b=some u)(hp:s.heap.objs.size <=a)(new:Jy X.prog X.w (upd H a o) h' a o):
  Jb X pins σ (upd H a o) {s with heap:=h',toks:=t'}:=I.un (Un.laid k hp (I.hok.fresh hp)) (I.hok.laid k hp new)
theorem Jb.write{x e:J2}{o:HO}{t':Nat}(I:Jb X pins σ H s)(mu:Bu (H x))(he:e=x\/H e=some (.own x))(k:∀b u,b≠e->s.heap.get? b=some u->h'.get? b=some u)(heo:∃u,h'.get? e=some u)
  (new:Jy X.prog X.w (upd H x o) h' x o):Jb X pins σ (upd H x o) {s with heap:=h',toks:=t'}:=I.un (Un.write mu he k heo) (I.hok.write mu he k heo new)
theorem Jb.pins_of{pins':WU}(I:Jb X pins σ H s)(h:∀p∈pins',s.heap.get? p.1=some p.2/\H p.1=none/\p.1≠X.env.locals/\p.1∉X.fs/\∀v,p.2.data≠ .cell v):Jb X pins' σ H s:=
 ⟨I.ok,I.os,I.bare,I.base,I.loc,I.cell,I.free,I.freeC,fun p a=>(Ye.mp a).elim (fun z=>I.pin p (X5 _ z)) (h p),I.hok,I.len⟩
theorem Pp{N:List Str}(hN:N.Nodup){i j:Nat}{x:Str}(a:N[i]?=some x)(b:N[j]?=some x):i=j:=by
 obtain⟨h1,d⟩:=Y6.mp a;obtain⟨h2,c⟩:=Y6.mp b;exact(List.getElem_inj hN).mp (d.trans c.symm)
theorem nG{M:Model}{A:WY}{E:WR}{i:Nat}{x:Str}{v:V}{u:J1}{Q:WT}(I:Jb X pins σ H s)(hN:X.N.Nodup)(hi:X.N[i]?=some x)(hx:RN X.env.scope x)(r:Jg v u)
  (h:∀s',Jb X pins (σ.set i (some v)) H s'->(∃a,Heap.SameBut a s.heap s'.heap/\(a=X.env.locals\/X.env.cells.lookup x=some a))->Q () s') (hf:X.fn x=true\/X.env.scope.names.lookup x=some .local:=by first|exact .inl rfl|exact .inr rfl|assumption):wpAny M A (storeName X.env x u) Q E s:=by
 obtain⟨m,hn,hl⟩:=id I.loc;have hcls:(X.env.scope.kind== .class||(X.env.scope.kind== .module && X.env.locals !=X.env.globals))=false:=by rw[I.ok.kind];rfl
 have hiσ:i < σ.length:=by rw[I.len];exact(Y6.mp hi).1
 have cne:=I.cne;have aa:∀{a:J2} {h':J6},(∃o,s.heap.get? a=some o/\H a=none)->Heap.SameBut a s.heap h'->To X.prog X.w H h':=fun {a h'} ha f b ob e=>by
  obtain⟨_,_,hfree⟩:=ha;refine(I.hok b ob e).stay (fun c w' l q=>(f.2 c ?_).trans q) (fun _ q=>q) fun _ _ q=>q
  rintro rfl;rcases l with rfl|l
  .rw[hfree]at e;cases e
  .rw[hfree]at l;cases l
 rcases hx with hk|hk
 .refine wpAny_storeName_local hk hn (fun h' hn' f=>?_) hcls;obtain⟨oL,_,_,hoL,_⟩:=id hn;refine h _ ⟨I.ok,I.os,I.bare,⟨fun b o e n hb hx=>?_,fun b o e n hb hx=>?_,I.base.free,fun b o e hx=>?_,I.base.tups,I.base.frzs,I.base.tbls⟩,⟨_,hn',fun j y v' g e2 e3=>?_⟩,fun y c e=>?_,I.free,I.freeC,fun p hp=>?_,aa ⟨oL,hoL,I.free⟩ f,by simpa using I.len⟩ ⟨_,f,.inl rfl⟩
  .exact(f.2 b (Yo (Yx (Yb e) I.ok.above))).trans (I.base.keep b o e n hb hx)
  .obtain⟨sl,g⟩:=I.base.slot b o e n hb hx;exact⟨sl,(f.2 b (Yo (Yx (Yb e) I.ok.above))).trans g⟩
  .obtain⟨o',g⟩:=I.base.there b o e hx;exact⟨o',(f.2 b (Yo (Yx (Yb e) I.ok.above))).trans g⟩
  .by_cases hj:j=i
   .subst hj;rw[hi]at g;cases g;rw[Wp hiσ]at e2;cases e2;exact⟨u,r,.inl ⟨hk,by simp⟩⟩
   .rw[WD (Ne.symm hj)]at e2;obtain⟨u',r',q⟩:=hl j y v' g e2 e3;refine⟨u',r',?_⟩;rcases q with⟨k,e⟩|⟨k,c,e,z⟩
    .refine .inl ⟨k,?_⟩;have:y≠x:=fun e=>hj (Pp hN g (e▸hi))
     simp[this,e]
    .exact .inr ⟨k,c,e,z.sameBut f (cne y c e)⟩
  .obtain⟨w',z⟩:=I.cell y c e;exact⟨w',z.sameBut f (cne y c e)⟩
  .obtain⟨e,n,ne,nf,d⟩:=I.pin p hp;exact⟨(f.2 p.1 ne).trans e,n,ne,nf,d⟩
 .have hfn:X.fn x=true:=by
   rcases hf with z|z
   .exact z
   .rw[z]at hk;cases hk
  obtain⟨c,l⟩:=I.ok.has x (.inl hk);obtain⟨w',z⟩:=I.cell x c l;refine wpAny_storeName_cell I.ok.kind hk l z (fun h' hc' f=>?_);obtain⟨oc,hoc,hocd⟩:=id z;refine h {s with heap:=h'} ⟨I.ok,I.os,I.bare,⟨fun b o e n hb hx=>?_,fun b o e n hb hx=>?_,I.base.free,fun b o e hx=>?_,I.base.tups,I.base.frzs,I.base.tbls⟩,⟨m,hn.sameBut f (Ne.symm (cne x c l)),fun j y v' g e2 e3=>?_⟩,fun y c' e=>?_,I.free,I.freeC,fun p hp=>?_,aa ⟨oc,hoc,I.freeC x c l⟩ f,by simpa using I.len⟩ ⟨c,f,.inr l⟩
  .exact(f.2 b (Yo (Yx (Yb e) (I.ok.cab x c hfn l)))).trans (I.base.keep b o e n hb hx)
  .obtain⟨sl,g⟩:=I.base.slot b o e n hb hx;exact⟨sl,(f.2 b (Yo (Yx (Yb e) (I.ok.cab x c hfn l)))).trans g⟩
  .obtain⟨o',g⟩:=I.base.there b o e hx;exact⟨o',(f.2 b (Yo (Yx (Yb e) (I.ok.cab x c hfn l)))).trans g⟩
  .by_cases hj:j=i
   .subst hj;rw[hi]at g;cases g;rw[Wp hiσ]at e2;cases e2;exact⟨u,r,.inr ⟨.inl hk,c,l,hc'⟩⟩
   .rw[WD (Ne.symm hj)]at e2;obtain⟨u',r',q⟩:=hl j y v' g e2 e3;refine⟨u',r',?_⟩;rcases q with q|⟨k,c',e,z'⟩
    .exact .inl q
    .refine .inr ⟨k,c',e,z'.sameBut f ?_⟩;rintro rfl;exact hj (Pp hN g (I.ok.inj _ _ _ e l▸hi))
  .by_cases hcc:c'=c
   .subst hcc;exact⟨_,hc'⟩
   .obtain⟨w2,z2⟩:=I.cell y c' e;exact⟨w2,z2.sameBut f hcc⟩
  .obtain⟨e,n,ne,nf,d⟩:=I.pin p hp;refine⟨(f.2 p.1 ?_).trans e,n,ne,nf,d⟩;intro q;rw[q,hoc]at e;have q':oc=p.2:=Yr e;exact d w' (by rw[<-q'];exact hocd)
theorem K5{M:Model}{A:WY}{E:WR}{i:Nat}{x:Str}{v:V}{u:J1}{Q:WT}(I:Jb X pins σ H s)(hN:X.N.Nodup)(hi:X.N[i]?=some x)(hx:RN X.env.scope x)(r:Jg v u)
  (h:∀s',Jb X pins (σ.set i (some v)) H s'->Q () s') (hf:X.fn x=true\/X.env.scope.names.lookup x=some .local:=by first|exact .inl rfl|exact .inr rfl|assumption):wpAny M A (storeName X.env x u) Q E s:=
 nG I hN hi hx r (fun s' a _=>h s' a) hf
theorem Jb.call'{s':WW}{ch:List Addr}(I:Jb X pins σ H s)(ho:s'.os=s.os)(u:Un (DW X.stack) ch H H' s.heap s'.heap)(hok:To X.prog X.w H' s'.heap)(hg:AllBare s'.gens)
  (hch:∀b∈ch,(b∈X.ex\/X.s₀.heap.objs.size <=b)/\b≠X.env.locals/\(∀x c,X.env.cells.lookup x=some c->c≠b)/\∀p∈X.pn++pins,p.1≠b):Jb X pins σ H' s':=by
 obtain⟨h',g',d',t',o'⟩:=s';have e:o'=s.os:=ho;subst e;exact I.call (g':=g') (t':=t') (d':=d') u hok hg hch
end
abbrev XK:=Value->Option Addr->Hp->Prop
abbrev St:=List (Option V)
abbrev VK:=V->Hp->Prop
abbrev TE:=St->Hp->VK->Prop
abbrev TT:=St->Hp->(Bool->Hp->Prop)->Prop
abbrev TA:=St->Hp->(List V->Hp->Prop)->Prop
structure Dy where
 nx:St->Hp->Prop
 rt:VK
 bk:St->Hp->Prop:=fun _ _=>False
 ct:St->Hp->Prop:=fun _ _=>False
abbrev TS:=Dy->St->Hp->Prop
def EP(X:Cx)(pins:WU)(σ:St)(Q:VK)(u:J1)(s':WW):Prop:=∃v H',Jb X pins σ H' s'/\Jg v u/\Q v H'
def TP(X:Cx)(pins:WU)(σ:St)(Q:Bool->Hp->Prop)(b:Bool)(s':WW):Prop:=∃H',Jb X pins σ H' s'/\Q b H'
def AP(X:Cx)(pins:WU)(σ:St)(Q:List V->Hp->Prop)(us:J5)(s':WW):Prop:=∃vs H',Jb X pins σ H' s'/\Jd vs us/\Q vs H'
def SP(X:Cx)(pins:WU)(D:Dy)(f:Flow)(s':WW):Prop:=
 match f with
 | .next=>∃σ' H',Jb X pins σ' H' s'/\D.nx σ' H'
 | .brk=>∃σ' H',Jb X pins σ' H' s'/\D.bk σ' H'
 | .cont=>∃σ' H',Jb X pins σ' H' s'/\D.ct σ' H'
 | .ret u=>∃v σ' H',Jb X pins σ' H' s'/\Jg v u/\D.rt v H'
def PE(X:Cx)(e:J7)(t:TE):Prop:=
 ∀ (pins:WU) (s:WW) (σ:St) (H:Hp) (Q:VK),Jb X pins σ H s->t σ H Q->wpAny (model X.prog X.w) X.A (eval e X.env) (EP X pins σ Q) X.xe s
def PT(X:Cx)(e:J7)(t:TT):Prop:=
 ∀ (pins:WU) (s:WW) (σ:St) (H:Hp) (Q:Bool->Hp->Prop),Jb X pins σ H s->t σ H Q->wpAny (model X.prog X.w) X.A (isTrue e X.env (eval e X.env)) (TP X pins σ Q) X.xe s
def PW(X:Cx)(e:J7)(t:TT):Prop:=
 ∀ (whole:Sem Value) (pins:WU) (s:WW) (σ:St) (H:Hp) (Q:Bool->Hp->Prop),Jb X pins σ H s->t σ H Q->wpAny (model X.prog X.w) X.A (isTrue e X.env whole) (TP X pins σ Q) X.xe s
theorem PW.pt{X:Cx}{e:J7}{t:TT}(h:PW X e t):PT X e t:=h _
def PA(X:Cx)(es:List Expr)(t:TA):Prop:=
 ∀ (pos:Pos) (pins:WU) (s:WW) (σ:St) (H:Hp) (Q:List V->Hp->Prop),Jb X pins σ H s->t σ H Q->wpAny (model X.prog X.w) X.A (spliced (backTo pos (starEach es X.env))) (AP X pins σ Q) X.xe s
def PS(X:Cx)(st:Stmt)(t:TS):Prop:=
 ∀ (pins:WU) (s:WW) (σ:St) (H:Hp) (D:Dy),Jb X pins σ H s->t D σ H->wpAny (model X.prog X.w) X.A (exec st X.env) (SP X pins D) X.xe s
def ME(X:Cx)(st:List Stmt)(t:TS):Prop:=
 ∀ (pins:WU) (s:WW) (σ:St) (H:Hp) (D:Dy),Jb X pins σ H s->t D σ H->wpAny (model X.prog X.w) X.A (execs st X.env) (SP X pins D) X.xe s
theorem Jr{α:Type}{t:Sem α}{Q Q':α->Shared->Prop}{M:Model}{A:WY}{E:WR}{s:WW}(h:wpAny M A t Q E s)(hQ:∀a s,Q a s->Q' a s):wpAny M A t Q' E s:=X1 h hQ fun _ _ x=>x
section
variable{X:Cx}
def BO(i:Nat):TE:=fun σ H Q=>∃v,σ[i]?=some (some v)/\Q v H
def tC(v:V):TE:=fun _ H Q=>Q v H
theorem uY{i:Nat}{x:Str}{pos:Pos}(hN:X.N[i]?=some x)(hv:B0 X.env.scope x)(hd:(x==("__debug__":Str))=false:=by decide)(hcd:(x==("__classdict__":Str))=false:=by decide):PE X (.Name x pos) (BO i):=by
 intro pins s σ H Q I h;obtain⟨v,e,h⟩:=h;obtain⟨m,b,d⟩:=I.loc;obtain⟨u,r,l⟩:=d i x v hN e hv;have a:EP X pins σ Q u s:=⟨v,H,I,r,h⟩;rcases l with⟨hk,hm⟩|⟨hk,c,hc,hcell⟩
 .exact wpAny_Name (wpAny_loadName_local I.ok.kind hk b hm a) hd
 .rcases hk with hk|hk
  .exact wpAny_Name (wpAny_loadName_cell I.ok.kind hk hc hcell a) hd
  .exact wpAny_Name (wpAny_loadName_free I.ok.kind hk hc hcell a hcd) hd
theorem Jp{i j pos}:PE X (.Constant (.int i) j pos) (tC (.int i)):=fun _ _ _ H _ I h=>wpAny_Constant_int ⟨.int i,H,I.tok _,⟨_,rfl⟩,h⟩
theorem Re{b j pos}:PE X (.Constant (.bool b) j pos) (tC (.bl b)):=fun _ _ _ H _ I h=>Constant_bool ⟨.bl b,H,I,rfl,h⟩
theorem My{j pos}:PE X (.Constant .none j pos) (tC .non):=fun _ _ _ H _ I h=>Constant_none ⟨.non,H,I,rfl,h⟩
theorem N7{x j pos}:PE X (.Constant (.str x) j pos) (tC (.str x)):=fun _ _ _ H _ I h=>Calls.Constant_str ⟨.str x,H,I.tok _,⟨_,rfl⟩,h⟩
def Gl(X:Cx)(x:Str):Prop:=X.env.kindOf x=some .globalImplicit
theorem AA{E:WR}{pins:WU}{s:WW}{σ:St}{H:Hp}{x:Str}{u:J1}{pos:Pos}{Q:WR}(I:Jb X pins σ H s)(hg:Gl X x)(hm:X.mg x=some u)(h:Q u s)
  (hd:(x==("__debug__":Str))=false:=by decide):wpAny (model X.prog X.w) X.A (eval (.Name x pos) X.env) Q E s:=
 VR I.ok.kind hg (Calls.loadGlobal_global (by rw[I.ok.glob];exact I.mod.glob.keeps I.bk) hm h) hd
theorem BW{E:WR}{pins:WU}{s:WW}{σ:St}{H:Hp}{x:Str}{u:J1}{pos:Pos}{Q:WR}(I:Jb X pins σ H s)(hg:Gl X x)(hm:X.mg x=none)(hv:bootBuiltins x=some u)(h:Q u s)
  (hn:x≠"__name__":=by decide) (hd:(x==("__debug__":Str))=false:=by decide):wpAny (model X.prog X.w) X.A (eval (.Name x pos) X.env) Q E s:=by
 obtain⟨mb,h1,h2⟩:=I.mod.blt;exact VR I.ok.kind hg (Calls.loadGlobal_builtin (by rw[I.ok.glob];exact I.mod.glob.keeps I.bk) hm (by rw[I.ok.blt];exact h1.keeps I.bk) ((h2 x hn).trans hv) h) hd
theorem E3{x:Str}{v:V}{u:J1}{pos:Pos}(hg:Gl X x)(hm:X.mg x=some u)(r:Jg v u)(hd:(x==("__debug__":Str))=false:=by decide):PE X (.Name x pos) (tC v):=
 fun _ _ _ H _ I h=>AA I hg hm ⟨v,H,I,r,h⟩ hd
theorem GN{x:Str}{v:V}{u:J1}{pos:Pos}(hg:Gl X x)(hm:X.mg x=none)(hv:bootBuiltins x=some u)(r:Jg v u)(hn:x≠"__name__":=by decide)(hd:(x==("__debug__":Str))=false:=by decide):PE X (.Name x pos) (tC v):=
 fun _ _ _ H _ I h=>BW I hg hm hv ⟨v,H,I,r,h⟩ hn hd
variable{a b:J7}{ta tb:TE}{pos:Pos}
def tB(t:TE):TT:=fun σ H Q=>t σ H fun x H1=>∃c,x= .bl c/\Q c H1
theorem jB{e:J7}{t:TE}(h:PE X e t)(he:∀whole,isTrue e X.env whole=(do let v <-whole;standAt e.pos;holding [v] (truthy v)):=by intro _;rfl):PT X e (tB t):=by
 intro pins s σ H Q I c;refine isTrue_plain (Jr (h pins s σ H _ I c) fun v g ⟨x,H1,f,a,b⟩=>?_) (he _);obtain⟨d,rfl,q⟩:=b;cases a;exact Xg ⟨H1,f,q⟩
variable{tA tB':TT}{Jq:List Expr}
def Iy(t u:TT):TT:=fun σ H Q=>t σ H fun c H1=>if c=true then u σ H1 Q else Q false H1
def FX(t u:TT):TT:=fun σ H Q=>t σ H fun c H1=>if c=true then Q true H1 else u σ H1 Q
def Fd(t:TT):TT:=fun σ H Q=>t σ H fun c H1=>Q (!c) H1
theorem R5(ha:PT X a tA):PW X (.BoolOp .And [a] pos) tA:=by
 intro b pins s σ H Q I h;refine isTrue_and (Jr (ha pins s σ H Q I h) fun c d e=>?_);cases c with
 |true=>exact isTrue_and_nil e
 |false=>exact e
theorem RH(ha:PT X a tA):PW X (.BoolOp .Or [a] pos) tA:=by
 intro b pins s σ H Q I h;refine isTrue_or (Jr (ha pins s σ H Q I h) fun c d e=>?_);cases c with
 |false=>exact isTrue_or_nil e
 |true=>exact e
theorem Gy(ha:PT X a tA)(hb:PW X (.BoolOp .And (b::Jq) pos) tB'):PW X (.BoolOp .And (a::b::Jq) pos) (Iy tA tB'):=by
 intro f pins s σ H Q I h;refine isTrue_and (Jr (ha pins s σ H _ I h) fun c g ⟨H1,e,d⟩=>?_);cases c with
 |true=>exact hb f pins g σ H1 Q e d
 |false=>exact⟨H1,e,d⟩
theorem R9(ha:PT X a tA)(hb:PW X (.BoolOp .Or (b::Jq) pos) tB'):PW X (.BoolOp .Or (a::b::Jq) pos) (FX tA tB'):=by
 intro f pins s σ H Q I h;refine isTrue_or (Jr (ha pins s σ H _ I h) fun c g ⟨H1,e,d⟩=>?_);cases c with
 |true=>exact⟨H1,e,d⟩
 |false=>exact hb f pins g σ H1 Q e d
theorem MB(ha:PT X a tA):PT X (.UnaryOp .Not a pos) (Fd tA):=by
 intro pins s σ H Q I h;exact isTrue_not (ha pins s σ H (fun c H1=>Q (!c) H1) I h)
def ER(ta tb:TE):TE:=fun σ H Q=>ta σ H fun x H1=>∃c,x= .bl c/\if c=true then tb σ H1 Q else Q (.bl false) H1
def EF(ta tb:TE):TE:=fun σ H Q=>ta σ H fun x H1=>∃c,x= .bl c/\if c=true then Q (.bl true) H1 else tb σ H1 Q
def EH(ta:TE):TE:=fun σ H Q=>ta σ H fun x H1=>∃c,x= .bl c/\Q (.bl (!c)) H1
theorem Dr{op}{t:TE}(h:PE X a t):PE X (.BoolOp op [a] pos) t:=fun pins s σ H Q I b=>BoolOp_one (h pins s σ H Q I b)
theorem QI(ha:PE X a ta)(hb:PE X (.BoolOp .And (b::Jq) pos) tb):PE X (.BoolOp .And (a::b::Jq) pos) (ER ta tb):=by
 intro pins s σ H Q I h;refine BoolOp_and (Jr (ha pins s σ H _ I h) fun v f ⟨x,H1,e,g,d⟩=>?_);obtain⟨c,rfl,d⟩:=d;cases g;refine Xg ?_;cases c with
 |true=>exact hb pins f σ H1 Q e d
 |false=>exact⟨.bl false,H1,e,rfl,d⟩
theorem yD(ha:PE X a ta)(hb:PE X (.BoolOp .Or (b::Jq) pos) tb):PE X (.BoolOp .Or (a::b::Jq) pos) (EF ta tb):=by
 intro pins s σ H Q I h;refine BoolOp_or (Jr (ha pins s σ H _ I h) fun v f ⟨x,H1,e,g,d⟩=>?_);obtain⟨c,rfl,d⟩:=d;cases g;refine Xg ?_;cases c with
 |false=>exact hb pins f σ H1 Q e d
 |true=>exact⟨.bl true,H1,e,rfl,d⟩
theorem Z2(ha:PE X a ta):PE X (.UnaryOp .Not a pos) (EH ta):=by
 intro pins s σ H Q I h;refine UnaryOp_ (Jr (ha pins s σ H _ I h) fun v f ⟨x,H1,e,d,b⟩=>?_);obtain⟨c,rfl,b⟩:=b;cases d;exact not_of (Xg ⟨.bl (!c),H1,e,rfl,b⟩)
def IR(t:TT)(ta tb:TE):TE:=fun σ H Q=>t σ H fun c H1=>if c=true then ta σ H1 Q else tb σ H1 Q
theorem Qb{c:J7}(hc:PT X c tA)(ha:PE X a ta)(hb:PE X b tb):PE X (.IfExp c a b pos) (IR tA ta tb):=by
 intro pins s σ H Q I h;refine wpAny_IfExp (Jr (hc pins s σ H _ I h) fun d e ⟨H1,g,f⟩=>?_);cases d with
 |true=>exact ha pins e σ H1 Q g f
 |false=>exact hb pins e σ H1 Q g f
end
def Je(K:J0)(H:Hp)(a:J2)(xs:List V):Prop:=
 Rd H a (.lst xs)\/
  ∃ (o:Obj) (its:Array Value) (n:Nat),K.lookup a=some o/\o.cls= .type "list"/\o.dict=none/\o.data= .seq its n/\its.size <=sizeLine/\Jd xs its.toList
def JV(K:J0)(H:Hp)(a:J2)(xs:List V):Prop:=
 Rd H a (.tup xs)\/
  ∃ (o:Obj) (its:Array Value) (n:Nat),K.lookup a=some o/\o.cls= .type "tuple"/\o.data= .seq its n/\its.size <=sizeLine/\Jd xs its.toList
def xH:Value->Option V
 | .none=>some .non
 | .bool b=>some (.bl b)
 | .int i _=>some (.int i)
 | .str x _=>some (.str x)
 | .bytes b _=>some (.byt b)
 | .float b _=>some (.flt b)
 | .ref a=>some (.ref a)
 | .type n=>some (.ty n)
 |_=>none
theorem Jg.abs{x:V}{u:J1}(r:Jg x u):xH u=some x:=by
 cases x with
 |non=>cases r;rfl
 |bl _=>cases r;rfl
 |int _=>obtain⟨t,rfl⟩:=r;rfl
 |str _=>obtain⟨t,rfl⟩:=r;rfl
 |byt _=>obtain⟨t,rfl⟩:=r;rfl
 |flt _=>obtain⟨t,rfl⟩:=r;rfl
 |ref _=>cases r;rfl
 |ty _=>cases r;rfl
theorem Jg.inj{x y:V}{u:J1}(r:Jg x u)(q:Jg y u):x=y:=Yr (r.abs.symm.trans q.abs)
theorem Jd.inj:∀{xs ys:List V} {us:J5},Jd xs us->Jd ys us->xs=ys
 |_,_,_,.nil,.nil=>rfl
 |_,_,_,.cons r t,.cons r' t'=>by rw[r.inj r',Jd.inj t t']
section
variable{X:Cx}{pins:WU}{σ:St}{H:Hp}{s:WW}{a:J2}{xs ys:List V}
theorem Je.of{K:J0}(h:H a=some (.lst xs)):Je K H a xs:=.inl (.inl h)
theorem JV.of{K:J0}(h:H a=some (.tup xs)):JV K H a xs:=.inl (.inl h)
theorem Jb.list(I:Jb X pins σ H s)(h:Je X.K H a xs):∃its:List Value,Jd xs its/\PlainL s.heap a its.toArray/\xs.length <=sizeLine:=by
 rcases h with h|⟨o,its,n,hk,hc,hd,hs,hz,r⟩
 .obtain⟨z,its,n,r,e⟩:=h.ok I.hok;exact⟨its,r,⟨_,n,e,rfl,rfl,rfl⟩,z⟩
 .refine⟨its.toList,r,⟨o,n,I.kIn a o hk,hc,hd,by simpa using hs⟩,?_⟩;have e:=r.length;simp only[Array.length_toList]at e
  lia
theorem Jb.tuple(I:Jb X pins σ H s)(h:JV X.K H a xs):∃its:List Value,Jd xs its/\IsTup s.heap a its.toArray/\xs.length <=sizeLine:=by
 rcases h with h|⟨o,its,n,hk,hc,hs,hz,r⟩
 .obtain⟨z,its,r,p⟩:=h.ok I.hok;exact⟨its,r,p,z⟩
 .refine⟨its.toList,r,⟨o,I.kIn a o hk,hc,n,by simpa using hs⟩,?_⟩;have e:=r.length;simp only[Array.length_toList]at e
  lia
theorem Jb.list_inj(I:Jb X pins σ H s)(h:Je X.K H a xs)(h':Je X.K H a ys):xs=ys:=by
 obtain⟨c,r,⟨o,n,e,_,_,d⟩,_⟩:=I.list h;obtain⟨b,i,⟨o',j,f,_,_,g⟩,_⟩:=I.list h';rw[e]at f;cases f;rw[d]at g;injection g with d1 _;have:c=b:=by simpa using Xn Array.toList d1
 subst this;exact r.inj i
end
abbrev Cx.wish(X:Cx)(E:WR):Cx:={X with xe:=E}
abbrev Cx.nox(X:Cx):Cx:=X.wish fun _ _=>False
theorem Cx.Ok.wish{X:Cx}(ok:X.Ok)(E:WR):(X.wish E).Ok:=
 ⟨ok.mod,ok.kind,ok.glob,ok.blt,ok.above,ok.inj,ok.has,ok.cab,ok.hd,ok.frames,ok.stk,ok.exf,ok.bs,ok.bsz,ok.noex,ok.exfs,ok.funs,ok.frf⟩
theorem Cx.Ok.unwish{X:Cx}{E:WR}(ok:(X.wish E).Ok):X.Ok:=
 ⟨ok.mod,ok.kind,ok.glob,ok.blt,ok.above,ok.inj,ok.has,ok.cab,ok.hd,ok.frames,ok.stk,ok.exf,ok.bs,ok.bsz,ok.noex,ok.exfs,ok.funs,ok.frf⟩
section
variable{X:Cx}{pins:WU}{σ:St}{H:Hp}{s:WW}{E:WR}
theorem Jb.wish(I:Jb X pins σ H s)(E:WR):Jb (X.wish E) pins σ H s:=⟨I.ok.wish E,I.os,I.bare,I.base,I.loc,I.cell,I.free,I.freeC,I.pin,I.hok,I.len⟩
theorem Jb.unwish(I:Jb (X.wish E) pins σ H s):Jb X pins σ H s:=⟨I.ok.unwish,I.os,I.bare,I.base,I.loc,I.cell,I.free,I.freeC,I.pin,I.hok,I.len⟩
theorem SP.unwish{D:Dy}{f:Flow}{s':WW}(h:SP (X.wish E) pins D f s'):SP X pins D f s':=by
 cases f with
 |next=>obtain⟨σ',H',I,q⟩:=h;exact⟨σ',H',I.unwish,q⟩
 |brk=>obtain⟨σ',H',I,q⟩:=h;exact⟨σ',H',I.unwish,q⟩
 |cont=>obtain⟨σ',H',I,q⟩:=h;exact⟨σ',H',I.unwish,q⟩
 |ret u=>obtain⟨v,σ',H',I,r,q⟩:=h;exact⟨v,σ',H',I.unwish,r,q⟩
theorem ME.nox{st:List Stmt}{t:TS}(h:ME X.nox st t):ME X st t:=fun pins s σ H D I a=>
 X1 (h pins s σ H D (I.wish _) a) (fun _ _ q=>q.unwish) fun _ _ z=>False.elim z
end
section
variable{X:Cx}{st:Stmt}{Jq:List Stmt}{t u:TS}{e:J7}{te:TE}{pos:Pos}
def CZ:TS:=fun D σ H=>D.nx σ H
def A8(t u:TS):TS:=fun D σ H=>t {D with nx:=u D} σ H
theorem NG:ME X [] CZ:=fun _ _ σ H _ I h=>Vu ⟨σ,H,I,h⟩
theorem Jn(h1:PS X st t)(h2:ME X Jq u):ME X (st::Jq) (A8 t u):=by
 intro pins s σ H D I h;refine wpAny_execs_cons (Jr (h1 pins s σ H {D with nx:=u D} I h) fun f a q=>?_);cases f with
 |next=>
  obtain⟨σ',H',b,q⟩:=q;exact h2 pins a σ' H' D b q
 |ret v=>exact q
 |brk=>exact q
 |cont=>exact q
theorem Jl(h1:PS X st t):ME X [st] t:=by
 intro pins s σ H D I h;refine wpAny_execs_cons (Jr (h1 pins s σ H D I h) fun f a q=>?_);cases f with
 |next=>exact Vu q
 |ret v=>exact q
 |brk=>exact q
 |cont=>exact q
def Ko:TS:=fun D σ H=>D.bk σ H
theorem tD:PS X (.Break pos) Ko:=fun _ _ σ H _ I h=>wpAny_Break ⟨σ,H,I,h⟩
theorem Jb.quiet{pins:WU}{σ:St}{H:Hp}{s:WW}(I:Jb X pins σ H s):interactive X.env=false:=by simp[interactive,I.ok.kind]
def FH(te:TE):TS:=fun D σ H=>te σ H fun _ H1=>D.nx σ H1
theorem MW(he:PE X e te)(hs:swapsWith e none pos.line X.env=pure false:=by rfl):PS X (.Expr e pos) (FH te):=by
 intro pins s σ H D I h;exact wpAny_Expr_any (Jr (he pins s σ H _ I h) fun v c ⟨x,H1,b,d,a⟩=>⟨σ,H1,b,a⟩) I.quiet hs
def BZ(te:TE):TS:=fun D σ H=>te σ H D.rt
theorem JR(he:PE X e te):PS X (.Return (some e) pos) (BZ te):=by
 intro pins s σ H D I h;exact wpAny_Return_some (Jr (he pins s σ H _ I h) fun v d ⟨x,H1,c,a,b⟩=>⟨x,σ,H1,c,a,b⟩)
def HH(c:TT)(t u:TS):TS:=fun D σ H=>c σ H fun b H1=>if b=true then t D σ H1 else u D σ H1
theorem Np{c:J7}{a b:List Stmt}{tc:TT}(hc:PT X c tc)(ha:ME X a t)(hb:ME X b u):PS X (.If c a b pos) (HH tc t u):=by
 intro pins s σ H D I h;refine wpAny_If (Jr (hc pins s σ H _ I h) fun d e ⟨H1,g,f⟩=>?_);cases d with
 |true=>exact ha pins e σ H1 D g f
 |false=>exact hb pins e σ H1 D g f
def n9:TS:=fun _ _ _=>False
theorem B6{sts:List Stmt}:ME X sts n9:=fun _ _ _ _ _ _ h=>h.elim
end
abbrev TG:=V->St->Hp->(St->Hp->Prop)->Prop
abbrev RL:=List V->St->Hp->(St->Hp->Prop)->Prop
def PG(X:Cx)(target:J7)(t:TG):Prop:=
 ∀ (pins:WU) (s:WW) (σ:St) (H:Hp) (v:V) (u:J1) (Q:St->Hp->Prop),Jb X pins σ H s->Jg v u->t v σ H Q->
  wpAny (model X.prog X.w) X.A (assign target X.env u) (fun _ s'=>∃σ' H',Jb X pins σ' H' s'/\Q σ' H') X.xe s
def BJ(X:Cx)(ts:List Expr)(t:RL):Prop:=
 ∀ (pins:WU) (s:WW) (σ:St) (H:Hp) (vs:List V) (us:J5) (Q:St->Hp->Prop),Jb X pins σ H s->Jd vs us->t vs σ H Q->
  wpAny (model X.prog X.w) X.A (assignInOrder ((assignEach ts X.env).map (·.2)) us) (fun _ s'=>∃σ' H',Jb X pins σ' H' s'/\Q σ' H') X.xe s
abbrev AD:=V->V->V->Hp->(Hp->Prop)->Prop
def DS(X:Cx)(t:AD):Prop:=
 ∀ (pins:WU) (s:WW) (σ:St) (H:Hp) (o i v:V) (ov iv u:J1) (Q:Hp->Prop),Jb X pins σ H s->Jg o ov->Jg i iv->Jg v u->t o i v H Q->
  wpAny (model X.prog X.w) X.A (setItem ov iv u) (fun _ s'=>∃H',Jb X pins σ H' s'/\Q H') X.xe s
section
variable{X:Cx}{pos:Pos}
def R1(i:Nat):TG:=fun v σ H Q=>Q (σ.set i (some v)) H
theorem Ml{i:Nat}{x:Str}(hN:X.N.Nodup)(hi:X.N[i]?=some x)(hx:RN X.env.scope x)(hf:X.fn x=true\/X.env.scope.names.lookup x=some .local:=by first|exact .inl rfl|exact .inr rfl|assumption):PG X (.Name x pos) (R1 i):=by
 intro pins s σ H v u Q I r h;exact wpAny_assign_Name (K5 I hN hi hx r (fun s' a=>⟨_,H,a,h⟩) hf)
def IY:RL:=fun vs σ H Q=>vs=[]/\Q σ H
def IP(t:TG)(u:RL):RL:=fun vs σ H Q=>∃v r,vs=v::r/\t v σ H fun σ' H'=>u r σ' H' Q
theorem Rt:BJ X [] IY:=by
 intro pins s σ H vs a Q I r h;obtain⟨e,h⟩:=h;subst e;cases r;exact assignInOrder_nil ⟨σ,H,I,h⟩
theorem TL{e:J7}{es:List Expr}{t:TG}{u:RL}(h1:PG X e t)(h2:BJ X es u)
  (hs:(assignEach (e::es) X.env).map (·.2)=assign e X.env::(assignEach es X.env).map (·.2):=by rfl):BJ X (e::es) (IP t u):=by
 intro pins s σ H vs g Q I r h;obtain⟨v,f,c,h⟩:=h;subst c;cases r with
 |cons r rr=>
  rw[hs];refine assignInOrder_cons (Jr (h1 pins s σ H _ _ _ I r h) fun _ a ⟨σ1,H1,d,b⟩=>?_);exact h2 pins a σ1 H1 _ _ Q d rr b
def A5(K:J0)(n:Nat)(t:RL):TG:=fun v σ H Q=>∃a xs,v= .ref a/\JV K H a xs/\xs.length=n/\t xs σ H Q
theorem yC{es:List Expr}{k:Nat}{t:RL}{n:Nat}(hc:X.calm=true)(h:BJ X es t)
  (hn:(assignEach es X.env).length=n:=by rfl) (hst:(assignEach es X.env).findIdx? (·.1)=none:=by rfl):PG X (.Tuple es k pos) (A5 X.K n t):=by
 intro pins s σ H v u Q I r c;obtain⟨a,xs,l,i,j,c⟩:=c;subst l;cases r;obtain⟨q,d,g,w⟩:=I.tuple i;refine assign_Tuple_tuple (I.ok.hd hc) g (by simp[hn,<-j,d.length]) hst fun h' f=>?_
 have p:Jb X pins σ H {s with heap:=h'}:=I.kept (t':=s.toks) fun b o e=>f b o (Yo (Yb e)) e
 exact h pins _ σ H xs _ Q p (by simpa using d) c
def Hm(to ti:TE)(t:AD):TG:=fun v σ H Q=>to σ H fun o H1=>ti σ H1 fun i H2=>t o i v H2 fun H3=>Q σ H3
theorem ZG{o i:J7}{to ti:TE}{t:AD}(ho:PE X o to)(hi:PE X i ti)(hs:DS X t)
  (ha : ∀ v, assign (.Subscript o i pos) X.env v = (do
   let ov <-holding [v] (eval o X.env)
   let iv <-holding [v,ov] (eval i X.env)
   standAt pos
   holding [v,ov,iv] (setItem ov iv v)
   release [v, ov, iv] []) := by intro _; rfl) : PG X (.Subscript o i pos) (Hm to ti t) := by
 intro pins s σ H v u Q I r h;rw[ha];refine Y0 (YJ (Jr (ho pins s σ H _ I h) fun ov b ⟨x,H1,n,d,g⟩=>?_));refine Y0 (YJ (Jr (hi pins b σ H1 _ n g) fun iv a ⟨y,H2,l,c,f⟩=>?_));refine Y0 (Vm (Y0 (YJ (Jr (hs pins a σ H2 x y v ov iv u _ l d c r f) fun _ q ⟨p,j,e⟩=>?_))));exact wpAny_release ⟨σ,p,j,e⟩
def RP(te:TE)(g:TG):TS:=fun D σ H=>te σ H fun x H1=>g x σ H1 D.nx
theorem Bw{tg e:J7}{te:TE}{g:TG}(he:PE X e te)(hg:PG X tg g)(hs:swapsWithSole [tg] e pos.line X.env=pure false:=by rfl)(hw:swappedStores [tg] e X.env=pure none:=by rfl)
  (h1:(assignEach [tg] X.env).map (·.2)=[assign tg X.env]:=by rfl):PS X (.Assign [tg] e pos) (RP te g):=by
 intro pins s σ H D I h;refine wpAny_Assign_stores (Jr (he pins s σ H _ I h) fun v a ⟨x,H1,d,b,c⟩=>?_) hs hw;rw[h1];exact Jr (hg pins a σ H1 x v _ d b c) fun _ f q=>q
theorem CB{i:Nat}{x:Str}{e:J7}{te:TE}{pos':Pos}(hN:X.N.Nodup)(hi:X.N[i]?=some x)(hx:RN X.env.scope x)(he:PE X e te)(hs:swapsWith e (some (.Name x pos')) pos.line X.env=pure false:=by rfl)(hf:X.fn x=true\/X.env.scope.names.lookup x=some .local:=by first|exact .inl rfl|exact .inr rfl|assumption):
  PS X (.Assign [.Name x pos'] e pos) (RP te (R1 i)):=by
 intro pins s σ H D I h;refine wpAny_Assign_Name (Jr (he pins s σ H _ I h) fun v g ⟨y,H1,d,a,b⟩=>?_) hs;exact K5 d hN hi hx a (fun f c=>⟨_,H1,c,b⟩) hf
def uU(c:TT)(tb:TS):TS:=fun D σ H=>∃W:Nat->St->Hp->Prop,(∃m,W m σ H)/\∀m σ H,W m σ H->
 c σ H fun b H1=>if b=true then ∃N:St->Hp->Prop,(∀σ' H',N σ' H'->∃m',m' < m/\W m' σ' H')/\tb {D with nx:=N,ct:=N,bk:=D.nx} σ H1 else D.nx σ H1
theorem Pu{c:J7}{body:List Stmt}{tc:TT}{tb:TS}(hp:PassesOwn (model X.prog X.w) X.A X.env X.xe)(hc:PT X c tc)(hb:ME X body tb):PS X (.While c body [] pos) (uU tc tb):=by
 intro pins s σ H D I h;obtain⟨W,⟨m0,z⟩,i⟩:=h;refine wpAny_While (codeAny_whileLoop (fun n s'=>∃σ' H',Jb X pins σ' H' s'/\W n σ' H') ?_ m0 ⟨σ,H,I,z⟩);rintro n s1 ⟨σ1,H1,I1,u⟩;refine XY hp (Jr (hc pins s1 σ1 H1 _ I1 (i n σ1 H1 u)) fun b s2 ⟨H2,r,e⟩=>?_);cases b with
 |true=>
  obtain⟨N,q,e⟩:=e;rw[Y3 rfl];refine XY hp (Jr (hb pins s2 σ1 H2 _ r e) fun f s3 d=>?_);cases f with
  |next=>
   obtain⟨σ3,a,p,j⟩:=d;obtain⟨l,o,g⟩:=q σ3 a j;exact⟨l,o,σ3,a,p,g⟩
  |cont=>
   obtain⟨σ3,a,p,j⟩:=d;obtain⟨l,o,g⟩:=q σ3 a j;exact⟨l,o,σ3,a,p,g⟩
  |brk=>exact d
  |ret v=>exact d
 |false=>
  rw[Y1 Yi];exact Vu ⟨σ1,H2,r,e⟩
end
structure It where
 go:Nat->Hp->Prop
 yld:Nat->Hp->V->Hp->Prop
 stop:Nat->Hp->Prop
def M9(X:Cx)(pins:WU)(H:Hp)(b:J2):Prop:=
 H b=none/\b≠X.env.locals/\b∉X.fs/\(b∈X.ex\/X.s₀.heap.objs.size <=b)/\(∀x c,X.env.cells.lookup x=some c->c≠b)/\∀p∈X.pn++pins,p.1≠b
theorem Jb.fpOk{X:Cx}{pins:WU}{σ:St}{H H':Hp}{s:WW}{b:J2}(I:Jb X pins σ H s)(hb:s.heap.objs.size <=b)(hn:H' b=none):M9 X pins H' b:=by
 refine⟨hn,Vv (Yx I.lt hb),I.nofs hb,.inr (YT I.sz hb),fun x c e z=>?_,fun p a z=>?_⟩
 .obtain⟨v,q⟩:=I.cell x c e;exact absurd (Yx q.lt (by rw[z];exact hb)) (Xx _)
 .exact absurd (Yx (Yb (I.pin p a).1) (by rw[z];exact hb)) (Xx _)
structure EU(P:WV)(w:WZ)(K:J0)(tg:J7)(J:It)(fp:List Addr)(it:J2)(tn:Nat->Heap->Prop):Prop where
 mem:it∈fp
 obj:∀i h,tn i h->∀b∈fp,∃o,h.get? b=some o/\∀v,o.data≠ .cell v
 keep:∀i h h',tn i h->(∀b∈fp,∀o,h.get? b=some o->h'.get? b=some o)->tn i h'
 item:∀ (X:Cx),X.prog=P->X.w=w->X.K=K->X.calm=true->∀ (i:Nat) (pins:WU) (s:WW) (σ:St) (H:Hp) (E:WR),Jb X pins σ H s->(∀b∈fp,M9 X pins H b)->tn i s.heap->J.go i H->
  wpAny (model P w) X.A (pyNext (.ref it)) (fun r s1 => ∃ u, r = some u /\
   wpAny (model P w) X.A (letOwnedTupleGo tg (.ref it) u) (fun _ s2 => ∃ x H', Jb X pins σ H' s2 /\ Jg x u /\ J.yld i H x H' /\ tn (i + 1) s2.heap /\ ∀ b ∈ fp, H' b = none) E s1) E s
 done:∀ (X:Cx),X.prog=P->X.w=w->X.K=K->X.calm=true->∀ (i:Nat) (pins:WU) (s:WW) (σ:St) (H:Hp) (E:WR),Jb X pins σ H s->(∀b∈fp,M9 X pins H b)->tn i s.heap->J.stop i H->
  wpAny (model P w) X.A (pyNext (.ref it)) (fun r s1=>r=none/\Jb X pins σ H s1) E s
 self:∀ (A:WY) (i:Nat) (s:WW) (Q:WR) (E:WR),tn i s.heap->Q (.ref it) s->wpAny (model P w) A (pyIter (.ref it)) Q E s
abbrev TI:=St->Hp->(It->Hp->Prop)->Prop
def L0(X:Cx)(pins:WU)(σ:St)(tg:J7)(R:It->Hp->Prop)(itv:J1)(s2:WW):Prop:=
 ∃ (it:J2) (fp:List Addr) (tn:Nat->Heap->Prop) (J:It) (H':Hp),itv= .ref it/\Jb X pins σ H' s2/\EU X.prog X.w X.K tg J fp it tn/\tn 0 s2.heap/\(∀b∈fp,M9 X pins H' b)/\R J H'
def PI(X:Cx)(tg iter:J7)(wi:TI):Prop:=
 ∀ (pins:WU) (s:WW) (σ:St) (H:Hp) (R:It->Hp->Prop),Jb X pins σ H s->wi σ H R->
  wpAny (model X.prog X.w) X.A (eval iter X.env) (fun v s1=>wpAny (model X.prog X.w) X.A (pyIter v) (L0 X pins σ tg R) X.xe s1) X.xe s
theorem Ik{M:Model}{A:WY}{E:WR}{s:WW}{tg:J7}{it:J2}{u:J1}{o:Obj}{n:String}{vs:Array Value}{Q:WT}(ho:s.heap.get? it=some o)(hc:o.cls= .type n)(hd:o.data= .fields vs)
    (hn:["enumerate","zip","dict_itemiterator","dict_reverseitemiterator","odict_iterator","itertools.zip_longest","itertools.pairwise"].contains n=false) (hQ:Q () s):wpAny M A (letOwnedTupleGo tg (.ref it) u) Q E s:=by
  unfold letOwnedTupleGo
  cases tg <;> first
    |exact Y2 hQ
    | (cases u <;> first
        |exact Y2 hQ
        | (refine Y0 (Vw ho ?_)
           rw[hc,hd]
           show wpAny M A (if(["enumerate","zip","dict_itemiterator","dict_reverseitemiterator","odict_iterator","itertools.zip_longest","itertools.pairwise"].contains n && vs[0]?==some (rawInt _))=true then _ else _) Q E s
           rw[Y1 (by intro h;rw[hn,U8]at h;cases h)]
           exact Y2 hQ))
def Rv(K:J0)(a:J2):It:=
 ⟨fun i H=>∃xs x,Je K H a xs/\xs[i]?=some x,fun i H x H'=>H'=H/\∀xs,Je K H a xs->xs[i]?=some x,fun i H=>∃xs,Je K H a xs/\xs.length <=i⟩
def R8(lo:Int)(n:Nat):It:=⟨fun i _=>i < n,fun i H x H'=>H'=H/\x= .int (lo+ i),fun i _=>n <=i⟩
theorem ZI{P:WV}{w:WZ}{K:J0}{tg:J7}(a it:J2):EU P w K tg (Rv K a) [it] it (fun i h=>h.IsListIter it a i) where
 mem:=by simp
 obj:=fun i h st b f=>by
  have e:b=it:=by simpa using f
  subst e;obtain⟨o,e,c,d⟩:=st;exact⟨o,e,fun v z=>by rw[d]at z;cases z⟩
 keep:=fun i h h' st k=>st.at fun o e=>k it (by simp) o e
 item:=by
  intro X hP q hK hc i pins s σ H E I hf st r;subst hP q hK;obtain⟨xs,x,g,n⟩:=r;obtain⟨its,l,p,hz⟩:=I.list g;obtain⟨u,hu,ru⟩:=l.get n;obtain⟨f0,f1,f2,f3,f4,f5⟩:=hf it (by simp);refine wpAny_pyNext_list_item st p.isList (x:=u) (by simpa using hu) fun h' j sb=>?_
  have I1:Jb X pins σ H {s with heap:=h'}:=I.turned (t':=s.toks) (fun b o f e=>(sb.2 b f).trans e) f0 f1 f3 f4 f5;obtain⟨o,e,c,d⟩:=id j;exact⟨u,rfl,Ik (s:={s with heap:=h'}) e c d (by decide) ⟨x,H,I1,ru,⟨rfl,fun ys hy=>by rw[I.list_inj hy g];exact n⟩,j,fun b f=>(hf b f).1⟩⟩
 done:=by
  intro X hP q hK hc i pins s σ H E I hf st r;subst hP q hK;obtain⟨xs,g,n⟩:=r;obtain⟨its,l,p,hz⟩:=I.list g;obtain⟨f0,f1,f2,f3,f4,f5⟩:=hf it (by simp);have hl:=l.length;exact wpAny_pyNext_list_end (I.ok.hd hc) st p.isList (by simp;lia) fun h' eb=>⟨rfl,I.turned (t':=s.toks) (fun b o f e=>eb b o f e) f0 f1 f3 f4 f5⟩
 self:=fun _ _ _ _ _ st h=>wpAny_pyIter_listiter st h
theorem Qe{P:WV}{w:WZ}{K:PySem.W.Frag}{tg:J7}(it:J2)(lo:Int)(n:Nat):EU P w K tg (R8 lo n) [it] it (fun i h=>IsRangeIter h it (lo+ (i:Nat)*1) ((n:Int) - (i:Nat)) 1) where
 mem:=by simp
 obj:=fun i h st b a=>by
  have e:b=it:=by simpa using a
  subst e;exact ⟨_, st, fun v z => by
   have z' : Data.fields _ = Data.cell v := z;cases z'⟩
 keep:=fun i h h' st k=>k it (by simp) _ st
 item:=by
  intro X j d l g i pins s σ H E I hf st f;subst j d l;obtain⟨f0,u,f2,r,q,p⟩:=hf it (by simp);have W:=Walks.range (prog:=X.prog) (w:=X.w) (I.ok.hd g) it lo 1 n;refine W.item i s _ _ f st fun v h' tk hv c kk=>?_
  obtain⟨t,rfl⟩:=hv;have I1:Jb X pins σ H {s with heap:=h',toks:=tk}:=I.turned (fun b o a e=>kk b o (by simpa using a) e) f0 u r q p;refine⟨_,rfl,Ik (s:={s with heap:=h',toks:=tk}) (n:="range_iterator") c rfl rfl (by decide) ⟨.int (lo+ i),H,I1,⟨t,?_⟩,⟨rfl,rfl⟩,c,fun b a=>(hf b a).1⟩⟩;rw[Int.mul_one]
 done:=by
  intro X j d l g i pins s σ H E I hf st f;subst j d l;obtain⟨f0,u,f2,r,q,p⟩:=hf it (by simp);exact wpAny_pyNext_range_end (I.ok.hd g) st (by have:n <=i:=f;lia) fun h' eb=>⟨rfl,I.turned (t':=s.toks) (fun b o a e=>eb b o a e) f0 u r q p⟩
 self:=fun _ _ _ _ _ st h=>wpAny_pyIter_rangeiter st h
section
variable{X:Cx}{tg:J7}
def Ed(K:J0)(tl:TE):TI:=fun σ H R=>tl σ H fun x H1=>∃a,x= .ref a/\(∃xs,Je K H1 a xs)/\R (Rv K a) H1
theorem tL{l:J7}{tl:TE}(hl:PE X l tl):PI X tg l (Ed X.K tl):=by
 intro pins s σ H R I h;refine Jr (hl pins s σ H _ I h) fun v c ⟨x,H1,d,f,g⟩=>?_
 obtain⟨a,e,⟨xs,i⟩,q⟩:=g;subst e;cases f;obtain⟨n,r,p,u⟩:=d.list i;refine U1 p.isList ?_;refine⟨c.heap.objs.size,[c.heap.objs.size],_,_,H1,rfl,d.kept (t':=c.toks) fun b o e=>Y8 _ e,ZI a _,⟨_,Yh _ rfl,rfl,rfl⟩,fun b j=>?_,q⟩;have e:b=c.heap.objs.size:=by simpa using j
 subst e;exact d.fpOk (Y7 _) (d.hok.fresh (Y7 _))
theorem So{pins:WU}{σ:St}{H:Hp}{s:WW}{R:It->Hp->Prop}{E:WR}{lo hi:Int}{t u v:Tok}{tk:Nat}(I:Jb X pins σ H s)(h1: -(2 ^ 62) <=lo)(h2:lo < 2 ^ 62)(h3: -(2 ^ 62) <=hi)(h4:hi < 2 ^ 62)
  (q:R (R8 lo (hi - lo).toNat) H):wpAny (model X.prog X.w) X.A (pyIter (.ref s.heap.objs.size)) (L0 X pins σ tg R) E {s with heap:=s.heap.push {cls:=.type "range",data:=.fields #[.int lo t,.int hi u,.int 1 v]},toks:=tk}:=by
 refine wpAny_pyIter_range (IsRange.new ..) (small_one h1 h2 h3 h4) ?_;have a:Jb X pins σ H {s with heap:=s.heap.push {cls:=.type "range",data:=.fields #[.int lo t,.int hi u,.int 1 v]},toks:=tk}:=I.kept fun b o e=>Y8 _ e
 refine ⟨(s.heap.push { cls := .type "range", data := .fields #[.int lo t, .int hi u, .int 1 v] }).objs.size, [(s.heap.push { cls := .type "range", data := .fields #[.int lo t, .int hi u, .int 1 v] }).objs.size], _, _, H, rfl,
  a.kept (t' := tk) fun b o e => Y8 _ e, Qe _ lo (hi - lo).toNat, ?_, fun b c => ?_, q⟩
 .have f:lo+ ((0:Nat):Int)*1=lo:=by simp
  have d:(((hi - lo).toNat:Nat):Int) - ((0:Nat):Int)=Builtin.Range.rangeSize lo hi 1:=by rw[rangeSize_one];split <;> lia
  show IsRangeIter _ _ (lo+ ((0:Nat):Int)*1) ((((hi - lo).toNat:Nat):Int) - ((0:Nat):Int)) 1;rw[f,d];exact Yh _ rfl
 .have e:b=(s.heap.push {cls:=.type "range",data:=.fields #[.int lo t,.int hi u,.int 1 v]}).objs.size:=by simpa using c
  subst e;exact a.fpOk (Y7 _) (a.hok.fresh (Y7 _))
def EE(ta:TA):TI:=fun σ H R=>ta σ H fun vs H1=>∃j:Int,vs=[.int j]/\ -(2 ^ 62) <=j/\j < 2 ^ 62/\R (R8 0 j.toNat) H1
theorem SQ{a:J7}{ta:TA}{p pos:Pos}(hg:Gl X "range")(hm:X.mg "range"=none)(ha:PA X [a] ta)(hs:starEach [a] X.env=[(false,eval a X.env)]:=by rfl):PI X tg (.Call (.Name "range" p) [a] [] pos) (EE ta):=by
 intro pins s σ H R I h;refine Call_ (BW I hg hm boot_range (VP (Jr (ha pos pins s σ H _ I h) fun g i ⟨vs,H1,f,c,b⟩=>?_) hs rfl));obtain⟨j,e,b,d,q⟩:=b;subst e;cases c with
 |cons r rr=>
  cases rr;obtain⟨t,rfl⟩:=r;exact call_range_1 (So f (by lia) (by lia) b d (by simpa using q))
def Lm(wi:TI)(g:TG)(tb:TS):TS:=fun D σ H=>wi σ H fun J H1=>∃W:Nat->Nat->St->Hp->Prop,(∃m,W 0 m σ H1)/\∀i m σ H,W i m σ H->
 (J.stop i H/\D.nx σ H)\/(J.go i H/\∃N:St->Hp->Prop,(∀σ' H',N σ' H'->∃m',m' < m/\W (i+ 1) m' σ' H')/\∀x H',J.yld i H x H'->g x σ H' fun σ2 H2=>tb {D with nx:=N,ct:=N,bk:=D.nx} σ2 H2)
def Ba(fp:List Addr)(h:J6):List (Addr×Obj):=fp.filterMap fun b=>(h.get? b).map fun o=>(b,o)
theorem CT{fp:List Addr}{h:J6}{b:J2}{o:Obj}(hb:b∈fp)(e:h.get? b=some o):(b,o)∈Ba fp h:=UU.mpr ⟨b,hb,by rw[e];rfl⟩
theorem n4{fp:List Addr}{h:J6}{p:Addr×Obj}(hp:p∈Ba fp h):p.1∈fp/\h.get? p.1=some p.2:=by
 obtain⟨b,a,e⟩:=UU.mp hp;cases q:h.get? b with
 |none=>rw[q]at e;cases e
 |some o=>
  rw[q]at e;have c:(b,o)=p:=Yr e;subst c;exact⟨a,q⟩
theorem Jb.pinned{pins:WU}{σ:St}{H:Hp}{s:WW}{fp:List Addr}(I:Jb X pins σ H s)(hf:∀b∈fp,M9 X pins H b)(ho:∀b∈fp,∃o,s.heap.get? b=some o/\∀v,o.data≠ .cell v):Jb X (pins++Ba fp s.heap) σ H s:=
 I.pins_of fun p f=>(Ye.mp f).elim (fun z=>I.pin p (Yt _ z)) fun z=>by
  obtain⟨a,e⟩:=n4 z;obtain⟨i,h,g,_⟩:=hf p.1 a;obtain⟨o,c,d⟩:=ho p.1 a;rw[e]at c;cases c;exact⟨e,i,h,g,d⟩
theorem Jb.unpinned{pins pl:WU}{σ:St}{H:Hp}{s:WW}(I:Jb X (pins++pl) σ H s):Jb X pins σ H s:=I.pins_of fun p a=>I.pin p (Yt _ (X5 _ a))
theorem DZ{iter:J7}{body:List Stmt}{wi:TI}{g:TG}{tb:TS}{pos:Pos}(hp:PassesOwn (model X.prog X.w) X.A X.env X.xe)(hc:X.calm=true)(hi:PI X tg iter wi)(hg:PG X tg g)(hb:ME X body tb)
  (hs:∀x,foldedSetIterable iter X.env x=pure x:=by intro _;rfl):PS X (.For tg iter body [] pos) (Lm wi g tb):=by
 intro pins s σ H D I h;refine wpAny_For (Jr (hi pins s σ H _ I h) fun v s1 h1=>Jr h1 fun itv s2 h2=>?_) hs;obtain⟨it,fp,tn,J,H2,e,I2,T,st2,f2,W,⟨m0,w0⟩,turn⟩:=h2;subst e
 -- what stays true of the iterator's objects through the loop
 have l:∀{H':Hp},(∀b∈fp,H' b=none)->∀b∈fp,M9 X pins H' b:=fun hn b hb=>⟨hn b hb,(f2 b hb).2⟩
 refine codeAny_forLoop_any (fun n s'=>∃i σ' H',Jb X pins σ' H' s'/\tn i s'.heap/\(∀b∈fp,H' b=none)/\W i n σ' H') ?_ m0 ⟨0,σ,H2,I2,st2,fun b hb=>(f2 b hb).1,w0⟩;rintro n s3 ⟨i,σ3,H3,I3,st3,fr3,w3⟩;rcases turn i n σ3 H3 w3 with⟨stop,qn⟩|⟨go,N,hN,step⟩
 .refine XY hp (Jr (T.done X rfl rfl rfl hc i pins s3 σ3 H3 X.xe I3 (l fr3) st3 stop) fun r s4 ⟨hr,I4⟩=>?_);subst hr;exact Vu ⟨σ3,H3,I4,qn⟩
 .refine XY hp (Jr (T.item X rfl rfl rfl hc i pins s3 σ3 H3 X.xe I3 (l fr3) st3 go) fun r s4 ⟨u,hr,h4⟩=>?_);subst hr;refine XY hp (Jr h4 fun _ s5 ⟨x,H5,I5,r5,y5,q,fr5⟩=>?_);have I5':=I5.pinned (l fr5) (T.obj _ _ q);refine XY hp (Jr (hg _ s5 σ3 H5 x u _ I5' r5 (step x H5 y5)) fun _ s6 ⟨σ6,H6,I6,q6⟩=>?_);refine XY hp (Jr (hb _ s6 σ6 H6 _ I6 q6) fun f s7 j=>?_);have p:∀{σ7:St} {c:Hp},Jb X (pins++Ba fp s5.heap) σ7 c s7->N σ7 c->∃m,m < n/\∃i σ' H',Jb X pins σ' H' s7/\tn i s7.heap/\(∀b∈fp,H' b=none)/\W i m σ' H':=fun {σ7 c} a z=>by
   obtain⟨m',hm,w7⟩:=hN σ7 c z;refine⟨m',hm,i+ 1,σ7,c,a.unpinned,T.keep _ _ _ q fun b hb o e=>(a.pin (b,o) (Yt _ (Yt _ (CT hb e)))).1,fun b hb=>?_,w7⟩;obtain⟨o,e,d⟩:=T.obj _ _ q b hb;exact(a.pin (b,o) (Yt _ (Yt _ (CT hb e)))).2.1
  cases f with
  |next=>obtain⟨σ7,c,a,z⟩:=j;exact p a z
  |cont=>obtain⟨σ7,c,a,z⟩:=j;exact p a z
  |brk=>obtain⟨σ7,c,a,j⟩:=j;exact⟨σ7,c,a.unpinned,j⟩
  |ret v=>obtain⟨x7,σ7,c,a,r7,j⟩:=j;exact⟨x7,σ7,c,a.unpinned,r7,j⟩
end
theorem QE{K:PySem.W.Frag}{a:J2}{xs:List V}{g:TG}{tb:TS}{D:Dy}{σ:St}{H:Hp}(Pv:Nat->St->Hp->Prop)(h0:Pv 0 σ H)(hl:∀i σ H,i <=xs.length->Pv i σ H->Je K H a xs)
  (hs:∀i x σ H,xs[i]?=some x->Pv i σ H->g x σ H fun σ2 H2=>tb {D with nx:=Pv (i+ 1),ct:=Pv (i+ 1),bk:=D.nx} σ2 H2) (hd:∀σ H,Pv xs.length σ H->D.nx σ H):
  ∃W:Nat->Nat->St->Hp->Prop,(∃m,W 0 m σ H)/\∀i m σ H,W i m σ H->
   ((Rv K a).stop i H/\D.nx σ H)\/((Rv K a).go i H/\∃N:St->Hp->Prop,(∀σ' H',N σ' H'->∃m',m' < m/\W (i+ 1) m' σ' H')/\∀x H',(Rv K a).yld i H x H'->g x σ H' fun σ2 H2=>tb {D with nx:=N,ct:=N,bk:=D.nx} σ2 H2):=by
 refine⟨fun i m σ H=>m=xs.length - i/\i <=xs.length/\Pv i σ H,⟨xs.length,by simp,Yv _,h0⟩,?_⟩;rintro i m σ H ⟨rfl,hi,p⟩;have q:=hl i σ H hi p
 by_cases hlt:i < xs.length
 .refine .inr ⟨⟨xs,xs[i],q,by simp[hlt]⟩,Pv (i+ 1),fun σ' H' b=>⟨xs.length - (i+ 1),by lia,rfl,hlt,b⟩,fun x H' y=>?_⟩;obtain⟨e,y⟩:=y;subst e;exact hs i x σ _ (y xs q) p
 .have e:i=xs.length:=by lia
  subst e;exact .inl ⟨⟨xs,q,Y7 _⟩,hd σ H p⟩
theorem vH{lo:Int}{n:Nat}{g:TG}{tb:TS}{D:Dy}{σ:St}{H:Hp}(Pv:Nat->St->Hp->Prop)(h0:Pv 0 σ H)
  (hs:∀i σ H,i < n->Pv i σ H->g (.int (lo+ i)) σ H fun σ2 H2=>tb {D with nx:=Pv (i+ 1),ct:=Pv (i+ 1),bk:=D.nx} σ2 H2) (hd:∀σ H,Pv n σ H->D.nx σ H):
  ∃W:Nat->Nat->St->Hp->Prop,(∃m,W 0 m σ H)/\∀i m σ H,W i m σ H->
   ((R8 lo n).stop i H/\D.nx σ H)\/((R8 lo n).go i H/\∃N:St->Hp->Prop,(∀σ' H',N σ' H'->∃m',m' < m/\W (i+ 1) m' σ' H')/\∀x H',(R8 lo n).yld i H x H'->g x σ H' fun σ2 H2=>tb {D with nx:=N,ct:=N,bk:=D.nx} σ2 H2):=by
 refine⟨fun i m σ H=>m=n - i/\i <=n/\Pv i σ H,⟨n,by simp,Yv _,h0⟩,?_⟩;rintro i m σ H ⟨rfl,hi,p⟩
 by_cases hlt:i < n
 .refine .inr ⟨hlt,Pv (i+ 1),fun σ' H' a=>⟨n - (i+ 1),by lia,rfl,hlt,a⟩,fun x H' y=>?_⟩;obtain⟨e,y⟩:=y;subst e y;exact hs i σ _ hlt p
 .have e:i=n:=by lia
  subst e;exact .inl ⟨Y7 _,hd σ H p⟩
abbrev R2:=V->V->Hp->VK->Prop
def JW(X:Cx)(f:Value->Value->Sem Value)(r:R2):Prop:=
 ∀ (pins:WU) (s:WW) (σ:St) (H:Hp) (x y:V) (v u:J1) (Q:VK),Jb X pins σ H s->Jg x v->Jg y u->r x y H Q->
  wpAny (model X.prog X.w) X.A (f v u) (EP X pins σ Q) X.xe s
def IJ(X:Cx)(f:Value->Sem Value)(r:V->Hp->VK->Prop):Prop:=
 ∀ (pins:WU) (s:WW) (σ:St) (H:Hp) (x:V) (v:J1) (Q:VK),Jb X pins σ H s->Jg x v->r x H Q->
  wpAny (model X.prog X.w) X.A (f v) (EP X pins σ Q) X.xe s
def Jt(X:Cx)(f:J1)(r:List V->Hp->VK->Prop):Prop:=
 ∀ (pins:WU) (s:WW) (σ:St) (H:Hp) (xs:List V) (us:J5) (Q:VK),Jb X pins σ H s->Jd xs us->r xs H Q->
  wpAny (model X.prog X.w) X.A (call f us) (EP X pins σ Q) X.xe s
def Gi(r:R2)(ta tb:TE):TE:=fun σ H Q=>ta σ H fun x H1=>tb σ H1 fun y H2=>r x y H2 Q
def II(r:V->Hp->VK->Prop)(ta:TE):TE:=fun σ H Q=>ta σ H fun x H1=>r x H1 Q
def rI(C:Int->Int->Prop)(g:Int->Int->V):R2:=fun x y H Q=>∃i j,x= .int i/\y= .int j/\C i j/\Q (g i j) H
def GY(g:Int->Int->V):R2:=fun x y H Q=>∃i j,x= .int i/\y= .int j/\Q (g i j) H
def rU(g:Int->V):V->Hp->VK->Prop:=fun x H Q=>∃i,x= .int i/\Q (g i) H
section
variable{X:Cx}{a b c:J7}{ta tb tc:TE}{pos:Pos}
theorem IS(ha:PE X a ta)(hb:PE X b tb){pins:WU}{s:WW}{σ:St}{H:Hp}{R:V->V->Hp->Prop}(I:Jb X pins σ H s)
  (h:ta σ H fun x H1=>tb σ H1 fun y H2=>R x y H2) {Q:WR} {f:Value->Value->Sem Value}
  (hf:∀v u s2 x y H2,Jb X pins σ H2 s2->Jg x v->Jg y u->R x y H2->wpAny (model X.prog X.w) X.A (f v u) Q X.xe s2):
  wpAny (model X.prog X.w) X.A (eval a X.env) (fun v s₁=>wpAny (model X.prog X.w) X.A (eval b X.env) (fun u s₂=>wpAny (model X.prog X.w) X.A (f v u) Q X.xe s₂) X.xe s₁) X.xe s:=by
 refine Jr (ha pins s σ H _ I h) fun v c ⟨x,H1,l,e,i⟩=>?_
 refine Jr (hb pins c σ H1 _ l i) fun u s2 ⟨y,H2,j,d,g⟩=>?_
 exact hf v u s2 x y H2 j e d g
theorem JM{op:Operator}{r:R2}(ho:JW X (binaryOp op) r)(ha:PE X a ta)(hb:PE X b tb):PE X (.BinOp a op b pos) (Gi r ta tb):=by
 intro pins s σ H Q I h;exact wpAny_BinOp (IS ha hb I h fun v u c x y H2 d rx ry q=>ho pins c σ H2 x y v u Q d rx ry q)
theorem Zt{op:UnaryOp}{r:V->Hp->VK->Prop}(ho:IJ X (unaryOp op) r)(ha:PE X a ta):PE X (.UnaryOp op a pos) (II r ta):=by
 intro pins s σ H Q I h;exact UnaryOp_ (Jr (ha pins s σ H _ I h) fun v b ⟨x,H1,e,c,d⟩=>ho pins b σ H1 x v Q e c d)
theorem HY{f:Value->Value->Sem Value}{C:Int->Int->Prop}{g:Int->Int->Int}
  (rule:∀ (i j:Int) (t u:Tok) (s:WW) (Q:WR) (E:WR),C i j->Q (.int (g i j) s.toks) {s with toks:=s.toks+ 1}->wpAny (model X.prog X.w) X.A (f (.int i t) (.int j u)) Q E s):
  JW X f (rI C fun i j=>.int (g i j)):=by
 intro pins s σ H x y v u Q I rx ry h;obtain⟨i,j,rfl,rfl,b,q⟩:=h;obtain⟨t,rfl⟩:=rx;obtain⟨a,rfl⟩:=ry;exact rule i j t a s _ _ b ⟨.int (g i j),H,I.tok _,⟨_,rfl⟩,q⟩
theorem Qh{f:Value->Value->Sem Value}{g:Int->Int->Int}
  (rule:∀ (i j:Int) (t u:Tok) (s:WW) (Q:WR) (E:WR),Q (.int (g i j) s.toks) {s with toks:=s.toks+ 1}->wpAny (model X.prog X.w) X.A (f (.int i t) (.int j u)) Q E s):
  JW X f (GY fun i j=>.int (g i j)):=by
 intro pins s σ H x y v u Q I rx ry h;obtain⟨i,j,rfl,rfl,q⟩:=h;obtain⟨t,rfl⟩:=rx;obtain⟨a,rfl⟩:=ry;exact rule i j t a s _ _ ⟨.int (g i j),H,I.tok _,⟨_,rfl⟩,q⟩
theorem Cm{f:Value->Value->Sem Value}{g:Int->Int->Bool}
  (rule:∀ (i j:Int) (t u:Tok) (s:WW) (Q:WR) (E:WR),Q (.bool (g i j)) s->wpAny (model X.prog X.w) X.A (f (.int i t) (.int j u)) Q E s):
  JW X f (GY fun i j=>.bl (g i j)):=by
 intro pins s σ H x y v u Q I rx ry h;obtain⟨i,j,rfl,rfl,q⟩:=h;obtain⟨t,rfl⟩:=rx;obtain⟨a,rfl⟩:=ry;exact rule i j t a s _ _ ⟨.bl (g i j),H,I,rfl,q⟩
def GH(i j:Int):Prop:=(-(2 ^ 64) < i/\i < 2 ^ 64)\/(-(2 ^ 64) < j/\j < 2 ^ 64)
theorem GH.ok{i j:Int}(h:GH i j):IntMulOk i j:=by
 rcases h with⟨h1,h2⟩|⟨h1,h2⟩
 .exact .of_left (intBits_le_64 h1 h2)
 .exact .of_right (intBits_le_64 h1 h2)
theorem TJ:JW X (binaryOp .Add) (GY fun i j=>.int (i+ j)):=Qh fun _ _ _ _ _ _ _ q=>add_int q
theorem Rz:JW X (binaryOp .Mult) (rI GH fun i j=>.int (i*j)):=HY fun _ _ _ _ _ _ _ a q=>mul_int q a.ok
theorem Mf:JW X (binaryOp .Mod) (rI (fun _ j=>0 < j) fun i j=>.int (i%j)):=HY fun i j _ _ _ _ _ a q=>by
 have h1:(0:Int) < j:=a;exact mod_int' (by lia) (by rw[Int.fmod_eq_emod_of_nonneg i (by lia)];exact q)
theorem Z4{f:Value->Sem Value}{g:Int->Int}
  (rule:∀ (i:Int) (t:Tok) (s:WW) (Q:WR) (E:WR),Q (.int (g i) s.toks) {s with toks:=s.toks+ 1}->wpAny (model X.prog X.w) X.A (f (.int i t)) Q E s):
  IJ X f (rU fun i=>.int (g i)):=by
 intro pins s σ H x v Q I rx h;obtain⟨i,rfl,q⟩:=h;obtain⟨t,rfl⟩:=rx;exact rule i t s _ _ ⟨.int (g i),H,I.tok _,⟨_,rfl⟩,q⟩
theorem Sl:IJ X (unaryOp .USub) (rU fun i=>.int (-i)):=Z4 fun _ _ _ _ _ q=>neg_int q
end
def MU:V->V->Bool
 | .non,.non=>true| .non,.int _=>true| .int _,.non=>true| .non,.bl _=>true| .bl _,.non=>true| .non,.str _=>true| .str _,.non=>true
 | .int _,.int _=>true| .bl _,.bl _=>true| .str _,.str _=>true| .byt _,.byt _=>true
 | .int _,.str _=>true| .str _,.int _=>true| .bl _,.str _=>true| .str _,.bl _=>true
 |_,_=>false
def Ax:R2:=fun x y H Q=>MU x y=true/\Q (.bl (decide (x=y))) H
def AQ:R2:=fun x y H Q=>MU x y=true/\Q (.bl (!decide (x=y))) H
theorem Pr{i j:Int}:decide (V.int i=V.int j)=(i==j):=by
 rw[YU];simp
theorem KZ{i j:Bool}:decide (V.bl i=V.bl j)=(i==j):=by
 rw[YU];simp
theorem LN{i j:Str}:decide (V.str i=V.str j)=(i==j):=by
 rw[YU];simp
theorem Q9{i j:Array UInt8}:decide (V.byt i=V.byt j)=(i.toList==j.toList):=by
 rw[YU];cases i;cases j;simp
section
variable{X:Cx}{a b c:J7}{ta tb tc:TE}{pos:Pos}
theorem NU{pins:WU}{σ:St}{H:Hp}{s:WW}{Q:VK}{k k':Bool}(I:Jb X pins σ H s)(q:Q (.bl k) H)(e:k=k'):EP X pins σ Q (.bool k') s:=by
 subst e;exact⟨.bl k,H,I,rfl,q⟩
theorem Mr:JW X (compareOp .Eq) Ax:=by
 intro pins s σ H x y v u Q I rx ry h;obtain⟨b,q⟩:=h;cases x with
 |non=>
  cases rx;cases y with
  |non=>cases ry;exact PySem.EqNone.eq_none_none (NU I q (by simp))
  |bl j=>cases ry;exact PySem.EqNone.eq_none_bool (NU I q (by simp))
  |int j=>obtain⟨a,rfl⟩:=ry;exact PySem.EqNone.eq_none_int (NU I q (by simp))
  |str j=>obtain⟨a,rfl⟩:=ry;exact PySem.EqNone.eq_none_str (NU I q (by simp))
  |_=>exact absurd (show false=true from b) Yi
 |bl i=>
  cases rx;cases y with
  |non=>cases ry;exact PySem.EqNone.eq_bool_none (NU I q (by simp))
  |bl j=>cases ry;exact eq_bool (NU I q KZ)
  |str j=>obtain⟨a,rfl⟩:=ry;exact PySem.EqMixed.eq_bool_str (NU I q (by simp))
  |_=>exact absurd (show false=true from b) Yi
 |int i=>
  obtain⟨t,rfl⟩:=rx;cases y with
  |non=>cases ry;exact PySem.EqNone.eq_int_none (NU I q (by simp))
  |int j=>obtain⟨a,rfl⟩:=ry;exact eq_int (NU I q Pr)
  |str j=>obtain⟨a,rfl⟩:=ry;exact PySem.EqMixed.eq_int_str (NU I q (by simp))
  |_=>exact absurd (show false=true from b) Yi
 |str i=>
  obtain⟨t,rfl⟩:=rx;cases y with
  |non=>cases ry;exact PySem.EqNone.eq_str_none (NU I q (by simp))
  |bl j=>cases ry;exact PySem.EqMixed.eq_str_bool (NU I q (by simp))
  |int j=>obtain⟨a,rfl⟩:=ry;exact PySem.EqMixed.eq_str_int (NU I q (by simp))
  |str j=>obtain⟨a,rfl⟩:=ry;exact eq_str (NU I q LN)
  |_=>exact absurd (show false=true from b) Yi
 |byt i=>
  obtain⟨t,rfl⟩:=rx;cases y with
  |byt j=>obtain⟨a,rfl⟩:=ry;exact W.eq_bytes (NU I q Q9)
  |_=>exact absurd (show false=true from b) Yi
 |_=>cases y <;> exact absurd (show false=true from b) Yi
theorem Ka:JW X (compareOp .NotEq) AQ:=by
 intro pins s σ H x y v u Q I rx ry h;obtain⟨b,q⟩:=h;cases x with
 |non=>
  cases rx;cases y with
  |non=>cases ry;exact PySem.EqNone.ne_none_none (NU I q (by simp))
  |bl j=>cases ry;exact PySem.EqNone.ne_none_bool (NU I q (by simp))
  |int j=>obtain⟨a,rfl⟩:=ry;exact PySem.EqNone.ne_none_int (NU I q (by simp))
  |str j=>obtain⟨a,rfl⟩:=ry;exact PySem.EqNone.ne_none_str (NU I q (by simp))
  |_=>exact absurd (show false=true from b) Yi
 |bl i=>
  cases rx;cases y with
  |non=>cases ry;exact PySem.EqNone.ne_bool_none (NU I q (by simp))
  |bl j=>cases ry;exact ne_bool (NU I q (Xn not KZ))
  |str j=>obtain⟨a,rfl⟩:=ry;exact PySem.EqMixed.ne_bool_str (NU I q (by simp))
  |_=>exact absurd (show false=true from b) Yi
 |int i=>
  obtain⟨t,rfl⟩:=rx;cases y with
  |non=>cases ry;exact PySem.EqNone.ne_int_none (NU I q (by simp))
  |int j=>obtain⟨a,rfl⟩:=ry;exact ne_int (NU I q (Xn not Pr))
  |str j=>obtain⟨a,rfl⟩:=ry;exact PySem.EqMixed.ne_int_str (NU I q (by simp))
  |_=>exact absurd (show false=true from b) Yi
 |str i=>
  obtain⟨t,rfl⟩:=rx;cases y with
  |non=>cases ry;exact PySem.EqNone.ne_str_none (NU I q (by simp))
  |bl j=>cases ry;exact PySem.EqMixed.ne_str_bool (NU I q (by simp))
  |int j=>obtain⟨a,rfl⟩:=ry;exact PySem.EqMixed.ne_str_int (NU I q (by simp))
  |str j=>obtain⟨a,rfl⟩:=ry;exact ne_str (NU I q (Xn not LN))
  |_=>exact absurd (show false=true from b) Yi
 |byt i=>
  obtain⟨t,rfl⟩:=rx;cases y with
  |byt j=>obtain⟨a,rfl⟩:=ry;exact W.ne_bytes (NU I q (Xn not Q9))
  |_=>exact absurd (show false=true from b) Yi
 |_=>cases y <;> exact absurd (show false=true from b) Yi
theorem RE:JW X (compareOp .Lt) (GY fun i j=>.bl (decide (i < j))):=Cm fun _ _ _ _ _ _ _ q=>lt_int q
theorem Rs:JW X (compareOp .LtE) (GY fun i j=>.bl (decide (i <=j))):=Cm fun _ _ _ _ _ _ _ q=>le_int q
theorem Ev:JW X (compareOp .Gt) (GY fun i j=>.bl (decide (j < i))):=Cm fun _ _ _ _ _ _ _ q=>gt_int q
theorem Ia:JW X (compareOp .GtE) (GY fun i j=>.bl (decide (j <=i))):=Cm fun _ _ _ _ _ _ _ q=>ge_int q
theorem Ar:JW X (compareOp .Is) (fun x y H Q=>y= .non/\Q (.bl (decide (x= .non))) H):=by
 intro pins s σ H x y v u Q I rx ry h;obtain⟨rfl,q⟩:=h;cases ry;refine is_none_gen (NU I q ?_);cases x <;> first
  |(cases rx;rfl)
  |(obtain⟨t,rfl⟩:=rx;rfl)
theorem Eu:JW X (compareOp .IsNot) (fun x y H Q=>y= .non/\Q (.bl (!decide (x= .non))) H):=by
 intro pins s σ H x y v u Q I rx ry h;obtain⟨rfl,q⟩:=h;cases ry;refine isnot_none_gen (NU I q ?_);cases x <;> first
  |(cases rx;rfl)
  |(obtain⟨t,rfl⟩:=rx;rfl)
theorem Mp(b:J7){op:CmpOp}(h:op≠ .In:=by decide)(h2:op≠ .NotIn:=by decide):behindInMarks op b=false:=by
 have c:(op==CmpOp.In)=false:=by cases op <;> first|rfl|exact absurd rfl h
 have a:(op==CmpOp.NotIn)=false:=by cases op <;> first|rfl|exact absurd rfl h2
 cases b <;> simp[behindInMarks,c,a]
theorem Mo{op:CmpOp}{r:R2}(ho:JW X (compareOp op) r)(ha:PE X a ta)(hb:PE X b tb)(hm:behindInMarks op b=false):PE X (.Compare a [op] [b] pos) (Gi r ta tb):=by
 intro pins s σ H Q I h;exact wpAny_Compare1 (IS ha hb I h fun v u c x y H2 d rx ry q=>ho pins c σ H2 x y v u Q d rx ry q) hm
def By(t:TE):TT:=fun σ H Q=>t σ H fun x H'=>∃k,x= .bl k/\Q k H'
theorem uF{op:CmpOp}{r:R2}(ho:JW X (compareOp op) r)(ha:PE X a ta)(hb:PE X b tb)(hm:behindInMarks op b=false):PT X (.Compare a [op] [b] pos) (By (Gi r ta tb)):=by
 intro pins s σ H Q I h;refine wpAny_isTrue_Compare1 (Jr (ha pins s σ H _ I h) fun v f ⟨x, H1, w, j, o⟩ => Jr (hb pins f σ H1 _ w o) fun u d ⟨y, H2, q, i, n⟩ =>
  Jr (ho pins d σ H2 x y v u _ q j i n) fun c s3 ⟨z, H3, p, g, k, e, l⟩ => ?_) hm
 subst e;cases g;exact Xg ⟨H3,p,l⟩
def Ca(r r':R2)(ta tb tc:TE):TE:=fun σ H Q=>ta σ H fun x H1=>tb σ H1 fun y H2=>r x y H2 fun z H3=>∃k,z= .bl k/\
 (if k=true then tc σ H3 fun w' H4=>r' y w' H4 Q else Q (.bl false) H3)
theorem Kp{op op':CmpOp}{r r':R2}(ho:JW X (compareOp op) r)(ho':JW X (compareOp op') r')(ha:PE X a ta)(hb:PE X b tb)(hc:PE X c tc)
  (hm:lastMarks [op,op'] [b,c]=false:=by with_unfolding_all rfl):PE X (.Compare a [op,op'] [b,c] pos) (Ca r r' ta tb tc):=by
 intro pins s σ H Q I h;refine Compare_chain (Jr (ha pins s σ H _ I h) fun v w ⟨x, H1, I1, r1, q1⟩ => chain_link (Jr (hb pins w σ H1 _ I1 q1) fun u q ⟨y, H2, I2, f, q2⟩ =>
  Jr (ho pins q σ H2 x y v u _ I2 r1 f q2) fun d p ⟨z, j, i, r3, k, e, g⟩ => ?_)) hm
 subst e;cases r3;refine Xg ?_;cases k with
 |false=>exact ite_ff ⟨.bl false,j,i,rfl,g⟩
 |true=>exact ite_tt (chain_last (Jr (hc pins p σ j _ i g) fun n o ⟨l,H4,I4,r4,q4⟩=>ho' pins o σ H4 y l u n Q I4 f r4 q4))
theorem O7{op op':CmpOp}{r r':R2}(ho:JW X (compareOp op) r)(ho':JW X (compareOp op') r')(ha:PE X a ta)(hb:PE X b tb)(hc:PE X c tc)
  (hm:lastMarks [op,op'] [b,c]=false:=by with_unfolding_all rfl):PT X (.Compare a [op,op'] [b,c] pos) (By (Ca r r' ta tb tc)):=by
 intro pins s σ H Q I h;refine isTrue_chain (Jr (ha pins s σ H _ I h) fun v w ⟨x, H1, I1, r1, q1⟩ => test_link (Jr (hb pins w σ H1 _ I1 q1) fun u q ⟨y, H2, I2, f, q2⟩ =>
  Jr (ho pins q σ H2 x y v u _ I2 r1 f q2) fun d p ⟨z, j, i, r3, k, e, g⟩ => ?_)) hm
 subst e;cases r3;refine Xg ?_;cases k with
 |false=>
  obtain⟨k',e',q'⟩:=g;cases e';exact ite_ff ⟨j,i,q'⟩
 |true=>
  refine ite_tt (test_last (Jr (hc pins p σ j _ i g) fun n o ⟨l,H4,I4,r4,q4⟩=>Jr (ho' pins o σ H4 y l u n _ I4 f r4 q4) fun d' s5 ⟨z2,H5,I5,r5,k2,e2,q5⟩=>?_));subst e2;cases r5;exact Xg ⟨H5,I5,q5⟩
theorem BL:(sizeLine:Nat) < 2 ^ 63:=by rw[YR];decide
theorem R4{x:V}{us:J5}(r:Jd [x] us):∃u,us=[u]/\Jg x u:=by
 cases r with
 |cons r1 r2=>cases r2;exact⟨_,rfl,r1⟩
theorem Hz{x y:V}{us:J5}(r:Jd [x,y] us):∃u w',us=[u,w']/\Jg x u/\Jg y w':=by
 cases r with
 |cons r1 r2=>
  cases r2 with
  |cons r3 r4=>cases r4;exact⟨_,_,rfl,r1,r3⟩
theorem H9(hc:X.calm=true):Jt X (.builtin "max") (fun xs H Q=>∃i j,xs=[.int i,.int j]/\Q (.int (if j > i then j else i)) H):=by
 intro pins s σ H xs b Q I r h;obtain⟨i,j,rfl,q⟩:=h;obtain⟨u,a,rfl,⟨t,rfl⟩,⟨c,rfl⟩⟩:=Hz r;refine max_two_ints (I.ok.hd hc) fun h' tk k=>⟨_,H,I.kept k,?_,q⟩
 by_cases hj:j > i
 .rw[Y3 hj,Y3 hj];exact⟨_,rfl⟩
 .rw[Y1 hj,Y1 hj];exact⟨_,rfl⟩
theorem OI(hc:X.calm=true):Jt X (.builtin "min") (fun xs H Q=>∃i j,xs=[.int i,.int j]/\Q (.int (if j < i then j else i)) H):=by
 intro pins s σ H xs b Q I r h;obtain⟨i,j,rfl,q⟩:=h;obtain⟨u,a,rfl,⟨t,rfl⟩,⟨c,rfl⟩⟩:=Hz r;refine min_two_ints (I.ok.hd hc) fun h' tk k=>⟨_,H,I.kept k,?_,q⟩
 by_cases hj:j < i
 .rw[Y3 hj,Y3 hj];exact⟨_,rfl⟩
 .rw[Y1 hj,Y1 hj];exact⟨_,rfl⟩
end
structure Di(h:J6)(x dx C:J2)(mA:WQ):Prop where
 obj:h.get? x=some (W.instObj C dx)
 ns:h.Ns1 dx mA
 ne:dx≠x
theorem ZS{h:J6}{dx:J2}{mA:WQ}(n:h.Ns1 dx mA):∃od,h.get? dx=some od/\∀name,W.lookIn name od=some (mA name):=by
 obtain⟨o,es,ep,d,hd,g,_,f⟩:=n;refine⟨o,d,fun name=>?_⟩;have e:=f name;unfold nsFind findBy at e;rw[<-Array.find?_toList]at e;unfold W.lookIn;rw[hd];dsimp only
 split
 .rename_i y q
  rw[q]at e;exact Xn some e
 .rename_i q
  rw[q]at e;have a:es.toList.any (·.refKey)=false:=by
   rw[List.any_eq_false];intro y c;obtain⟨z,t,b⟩:=g y (U5.mp c);simp[DictEntry.refKey,b]
  have i:¬es.toList.any (·.refKey)=true:=by rw[a];exact Yi
  rw[Y1 i];exact Xn some e
theorem Di.look{h:J6}{x dx C:J2}{mA:WQ}(I:Di h x dx C mA):∃od,W.InstAt h x (W.instObj C dx) C (some od)/\∀name,W.lookIn name od=some (mA name):=
 let ⟨od,ho,hl⟩:=ZS I.ns
 ⟨od,⟨I.obj,rfl,rfl,ho⟩,hl⟩
section
variable{prog:WV}{w:WZ}{A:WY}{E:WR}{s:WW}{K:J0}{x dx C f:J2}{mA:WQ}{name:Str}{v:J1}
theorem u8{expr:Bool}{Q:WR}(X:K.In s.heap)(I:Di s.heap x dx C mA)(hg:W.plainGet K C name=true)(hh:W.hasDictIn K C=true)
  (ha:W.findIn K (.ref C) name=some none) (hv:mA name=some v) (hv':W.handedIn v=true) (h:Q v {s with toks:=s.toks+ 1}):
  wpAny (model prog w) A (getAttr (.ref x) name expr) Q E s:=by
 obtain⟨b,J,a⟩:=I.look;exact W.get_value X J (W.plainGet_of hg).1 (W.findObj_own hh ha rfl (by rw[a,hv])) hv' h
theorem Z6{pl:Sem Bool}{Q:Value×List Value->Shared->Prop}(X:K.In s.heap)(I:Di s.heap x dx C mA)(hg:W.plainGet K C name=true)
  (hf:W.findIn K (.ref C) name=some (some (.ref f))) (ht:W.isFn K (.ref f)=true) (hv:mA name=none) (h:Q (.ref f,[.ref x]) s):
  wpAny (model prog w) A (getMethod (.ref x) name pl) Q E s:=by
 obtain⟨a,J,b⟩:=I.look;exact W.method_fn X J (W.plainGet_of hg).1 (W.plainGet_of hg).2 hf (Vx.mp ht) (by show(W.lookIn name a).map (·.isSome)=some false;rw[b,hv];rfl) h
theorem jL{ns:List Str}{Q:WT}(X:K.In s.heap)(I:Di s.heap x dx C mA)
  (hs:W.findIn K (.ref C) "__setattr__"=some (some (.builtin "object.__setattr__"))) (hp:W.plainOver K C=true) (ht:W.takerIn K C name=some none) (hh:W.hasDictIn K C=true)
  (hw:PySem.Within mA ns) (hsz:ns.length <=sizeLine)
  (h:∀h',Di h' x dx C (fun y=>if y=name then some v else mA y)->Heap.SameBut dx s.heap h'->Q () {s with heap:=h',toks:=s.toks+ 2}):
  wpAny (model prog w) A (setAttr (.ref x) name v) Q E s:=by
 obtain⟨p,J,q⟩:=I.look;refine W.set_plain X J hs (W.osa_open (s:={s with toks:=s.toks+ 1}) (r:=none) X J hp ht fun b=>?_);obtain⟨u,l,g⟩:=W.any_some hh;have j:s.heap.get? x=some ⟨.ref C,some dx,.plain,#[]⟩:=I.obj;refine Y0 (Y2 (Y0 (Y0 (wpAny_loadPart j (Y0 (W.Looks.here (s:={s with toks:=s.toks+ 1}) (W.looks_clsIn X l) ?_))))));rw[g];refine Y2 (a:=some dx) (Y0 (Y2 (Y0 ?_)));refine wpAny_nsSet1 (s:={s with toks:=s.toks+ 1}) I.ns fun h' d c=>?_
 obtain⟨oD,n,o,e,f,i⟩:=d.count (PySem.Within.cons name v hw);refine Y0 (wpAny_lookBehind e (by rw[f];exact pastItsLine_dict (YT i (by rw[List.length_cons];lia))) ?_);exact Y2 (h _ ⟨(c.2 _ (Ne.symm I.ne)).trans I.obj,d,I.ne⟩ c)
theorem tT{R:Result->Shared->Prop}{vs:J5}{kw:List (Str×Value)}(X:K.In s.heap)(hm:W.makesIn K C=true)
  (hi:W.findIn K (.ref C) "__init__"=some (some (.ref f))) (hf:W.typeIn K (.ref f)=some (.type "function"))
  (h : codeAny (model prog w) (A.under (.builtin "type.__call__" ⟨.ref C :: vs, kw⟩)) (.call (.ref f) ⟨.ref (s.heap.objs.size + 1) :: vs, kw⟩) (W.InitBack (s.heap.objs.size + 1) R)
   { s with heap := (s.heap.push W.emptyDict).push (W.instObj C s.heap.objs.size) }) :
  codeAny (model prog w) A (.call (.ref C) ⟨vs,kw⟩) R s:=by
 obtain⟨hh,g,d,t,b⟩:=s;exact W.make_core (W.makes_of X hm) (W.looks_findIn X hi) (fun a=>W.bind_fn X a hf) (.inl rfl) h
end
def No(f:Str)(v:V):List (Str×V)->List (Str×V)
 |[]=>[(f,v)]
 |(g,x)::r=>if g=f then(g,v)::r else(g,x)::No f v r
theorem AC(f g:Str)(v:V):∀fs:List (Str×V),(No f v fs).lookup g=if g=f then some v else fs.lookup g
 |[]=>by
  show List.lookup g [(f,v)]=_
  by_cases h:g=f
  .have hb:(g==f)=true:=Vx.mpr h;simp only[List.lookup,hb,Y3 h]
  .have hb:(g==f)=false:=Xs.mpr h;simp only[List.lookup,hb,Y1 h]
 |(k,x)::r=>by
  have a:=AC f g v r;rw[show No f v ((k,x)::r)=(if k=f then(k,v)::r else(k,x)::No f v r) from rfl]
  by_cases hk:k=f
  .rw[Y3 hk]
   by_cases h:g=k
   .have hb:(g==k)=true:=Vx.mpr h;simp only[List.lookup,hb,Y3 (h.trans hk)]
   .have hb:(g==k)=false:=Xs.mpr h;simp only[List.lookup,hb,Y1 (fun e:g=f=>h (e.trans hk.symm))]
  .rw[Y1 hk]
   by_cases h:g=k
   .have hb:(g==k)=true:=Vx.mpr h;simp only[List.lookup,hb,Y1 (fun e:g=f=>hk (h.symm.trans e))]
   .have hb:(g==k)=false:=Xs.mpr h;simp only[List.lookup,hb];exact a
theorem IF(f:Str)(v:V):∀fs:List (Str×V),f∈(No f v fs).map (·.1)/\∀g,g∈fs.map (·.1)->g∈(No f v fs).map (·.1)
 |[]=>⟨by simp[No],fun g h=>by simp at h⟩
 |(k,x)::r=>by
  obtain⟨i1,i2⟩:=IF f v r;rw[show No f v ((k,x)::r)=(if k=f then(k,v)::r else(k,x)::No f v r) from rfl]
  by_cases hk:k=f
  .rw[Y3 hk];subst hk;exact⟨by simp,fun g h=>by simpa using h⟩
  .rw[Y1 hk];refine⟨?_,fun g h=>?_⟩
   .rw[List.map_cons];exact Yj _ i1
   .rw[List.map_cons]at h ⊢;rcases Yp.mp h with e|e
    .exact Yp.mpr (.inl e)
    .exact Yj _ (i2 g e)
theorem Hd(f:Str)(v:V):∀fs:List (Str×V),(No f v fs).length <=fs.length+ 1
 |[]=>by simp[No]
 |(k,x)::r=>by
  have ih:=Hd f v r;rw[show No f v ((k,x)::r)=(if k=f then(k,v)::r else(k,x)::No f v r) from rfl]
  by_cases hk:k=f
  .rw[Y3 hk,List.length_cons,List.length_cons];lia
  .rw[Y1 hk,List.length_cons,List.length_cons];lia
theorem Th.some_of{v:V}{o:Option Value}(r:Th (some v) o):∃u,o=some u/\Jg v u:=by
 cases o with
 |none=>exact(show False from r).elim
 |some u=>exact⟨u,rfl,r⟩
theorem Th.none_of{o:Option Value}(r:Th none o):o=none:=by
 cases o with
 |none=>rfl
 |some u=>exact(show False from r).elim
theorem nO{v:V}{u:J1}(r:Jg v u):W.handedIn u=true:=by
 cases v with
 |non=>cases (show u=Value.none from r);rfl
 |bl b=>cases (show u=Value.bool b from r);rfl
 |int i=>obtain⟨t,e⟩:=(show ∃t,u=Value.int i t from r);cases e;rfl
 |str x=>obtain⟨t,e⟩:=(show ∃t,u=Value.str x t from r);cases e;rfl
 |byt b=>obtain⟨t,e⟩:=(show ∃t,u=Value.bytes b t from r);cases e;rfl
 |flt b=>obtain⟨t,e⟩:=(show ∃t,u=Value.float b t from r);cases e;rfl
 |ref a=>cases (show u=Value.ref a from r);rfl
 |ty n=>cases (show u=Value.type n from r);rfl
section
variable{P:WV}{w:WZ}{H H':Hp}{h h':J6}{a C dx:J2}{fs fs':List (Str×V)}
theorem Cq(hok:To P w H h)(e:H a=some (.ins C dx fs)):∃mA,Di h a dx C mA/\(∀f,Th (fs.lookup f) (mA f))/\PySem.Within mA (fs.map (·.1))/\fs.length <=1000/\H dx=some (.own a):=by
 obtain⟨d,z,ne,b,mA,n,r,q⟩:=(show Jy P w H h a (.ins C dx fs) from hok a _ e);exact⟨mA,⟨b,n,ne⟩,r,q,z,d⟩
end
structure MQ(K:J0)(C:J2):Prop where
 pg:W.plainGet K C Str.empty=true
 hd:W.hasDictIn K C=true
 po:W.plainOver K C=true
 sa:W.findIn K (.ref C) "__setattr__"=some (some (.builtin "object.__setattr__"))
theorem MQ.get{K:J0}{C:J2}(c:MQ K C)(f:Str):W.plainGet K C f=true:=c.pg
def JC(K:J0)(C:J2)(f:Str):Prop:=W.findIn K (.ref C) f=some none
theorem JC.taker{K:J0}{C:J2}{f:Str}(n:JC K C f):W.takerIn K C f=some none:=by
 unfold W.takerIn;rw[show W.findIn K (.ref C) f=some none from n];rfl
structure Lf(K:J0)(C:J2)(m:Str)(f:J2):Prop where
 at_:W.findIn K (.ref C) m=some (some (.ref f))
 fn:W.isFn K (.ref f)=true
 kp:W.keepIn K (.ref f)=true
section
variable{X:Cx}{pins:WU}{σ:St}{H:Hp}{s:WW}{a C dx:J2}{fs:List (Str×V)}{f:Str}{v:V}{A:WY}{E:WR}
theorem O6{b:Bool}{Q:WR}(I:Jb X pins σ H s)(e:H a=some (.ins C dx fs))(c:MQ X.K C)(n:JC X.K C f)(l:fs.lookup f=some v)
  (h:∀u s',Jb X pins σ H s'->Jg v u->Q u s'):wpAny (model X.prog X.w) A (getAttr (.ref a) f b) Q E s:=by
 obtain⟨mA,O,r,_,_,_⟩:=Cq I.hok e;obtain⟨u,d,ru⟩:=Th.some_of (v:=v) (o:=mA f) (by rw[<-l];exact r f);exact u8 I.kIn O (c.get f) c.hd n d (nO ru) (h u _ (I.tok _) ru)
theorem Lo{m:Str}{g:J2}{pl:Sem Bool}{Q:Value×List Value->Shared->Prop}(I:Jb X pins σ H s)(e:H a=some (.ins C dx fs))(c:MQ X.K C)(k:Lf X.K C m g)(l:fs.lookup m=none)
  (h:Q (.ref g,[.ref a]) s):wpAny (model X.prog X.w) A (getMethod (.ref a) m pl) Q E s:=by
 obtain⟨mA,O,r,_,_,_⟩:=Cq I.hok e;have b:mA m=none:=Th.none_of (by rw[<-l];exact r m);exact Z6 I.kIn O (c.get m) k.at_ k.fn b h
theorem Lz{y:V}{u:J1}{Q:WT}(I:Jb X pins σ H s)(e:H a=some (.ins C dx fs))(c:MQ X.K C)(n:JC X.K C f)(hl:fs.length < 1000)(ry:Jg y u)
  (h:∀s',Jb X pins σ (upd H a (.ins C dx (No f y fs))) s'->Q () s'):wpAny (model X.prog X.w) A (setAttr (.ref a) f u) Q E s:=by
 obtain⟨mA,O,r,wi,_,i⟩:=Cq I.hok e;have l:(fs.map (·.1)).length <=sizeLine:=by rw[Y4,YR];lia
 refine jL I.kIn O c.sa c.po n.taker c.hd wi l fun h' d j=>h _ ?_
 have hd:∃o,h'.get? dx=some o:=let ⟨o,_,_,e',_⟩:=d.ns;⟨o,e'⟩;refine I.write (x:=a) (e:=dx) (by rw[e];exact True.intro) (.inr i) (fun b q v z=>(j.2 b v).trans z) hd ?_;refine⟨by rw[JY O.ne];exact i,?_,O.ne,d.obj,_,d.ns,fun g=>?_,fun g p=>?_⟩
 .have:=Hd f y fs;lia
 .show Th ((No f y fs).lookup g) (if g=f then some u else mA g);rw[AC]
  by_cases q:g=f
  .rw[Y3 q,Y3 q];exact ry
  .rw[Y1 q,Y1 q];exact r g
 .by_cases q:g=f
  .rw[q];exact(IF f y fs).1
  .refine(IF f y fs).2 g (wi g fun z=>p ?_);show(if g=f then some u else mA g)=none;rw[Y1 q];exact z
theorem Jb.made(I:Jb X pins σ H s):Jb X pins σ (upd (upd H s.heap.objs.size (.own (s.heap.objs.size+ 1))) (s.heap.objs.size+ 1) (.ins C s.heap.objs.size []))
  {s with heap:=(s.heap.push W.emptyDict).push (W.instObj C s.heap.objs.size)}:=by
 have c:(s.heap.push W.emptyDict).get? s.heap.objs.size=some W.emptyDict:=Yh s.heap rfl;have h:((s.heap.push W.emptyDict).push (W.instObj C s.heap.objs.size)).get? (s.heap.objs.size+ 1)=some (W.instObj C s.heap.objs.size):=by
  have:=Yh (s.heap.push W.emptyDict) (o:=W.instObj C s.heap.objs.size) rfl;rwa [Uz]at this
 have g:(s.heap.push W.emptyDict).Ns s.heap.objs.size (fun _=>none):=⟨W.emptyDict,#[],_,c,rfl,(fun e f=>absurd f (by simp)),fun _=>rfl⟩;have i:=I.laid (a:=s.heap.objs.size) (o:=.own (s.heap.objs.size+ 1)) (h':=s.heap.push W.emptyDict) (t':=s.toks) (fun b u q=>Y8 _ q) (Y7 _) ⟨_,c⟩;refine i.laid (a:=s.heap.objs.size+ 1) (o:=.ins C s.heap.objs.size []) (t':=s.toks) (fun b u q=>Y8 _ q) (W8 (Uz _ _)) ?_;have ne:s.heap.objs.size≠s.heap.objs.size+ 1:=Yo (Vo _);refine⟨by rw[JY ne,ND],Yv _,ne,h,fun _=>none,(Heap.Ns1.of_empty g).at fun o q=>Y8 _ q,fun _=>True.intro,fun y d=>absurd rfl d⟩
theorem OK{prog:WV}{w:WZ}{env:Env}{e:J7}{f:Str}{pos:Pos}{s:WW}{Q:WR}(hb:attributeBase e f env (eval e env)=eval e env)
  (h:wpAny (model prog w) A (eval e env) (fun o s₁=>wpAny (model prog w) A (getAttr o f true) Q E s₁) E s):wpAny (model prog w) A (eval (.Attribute e f pos) env) Q E s:=
 Attribute_any_ h (by rw[arm_eval_Attribute,hb])
end
def Ct(K:J0)(ta:TE)(f:Str):TE:=fun σ H Q=>ta σ H fun x H1=>∃a C dx fs v,x= .ref a/\H1 a=some (.ins C dx fs)/\MQ K C/\JC K C f/\fs.lookup f=some v/\Q v H1
def Ad(K:J0)(ta tv:TE)(f:Str):TS:=fun D σ H=>tv σ H fun y H1=>ta σ H1 fun x H2=>∃a C dx fs,x= .ref a/\H2 a=some (.ins C dx fs)/\MQ K C/\JC K C f/\fs.length < 1000/\
 D.nx σ (upd H2 a (.ins C dx (No f y fs)))
section
variable{X:Cx}{o e value:J7}{f:Str}{pos pos' tpos:Pos}{ta tv:TE}
theorem Zw(he:PE X e ta)(hb:attributeBase e f X.env (eval e X.env)=eval e X.env):PE X (.Attribute e f pos) (Ct X.K ta f):=by
 intro pins s σ H Q I h;refine OK hb (Jr (he pins s σ H _ I h) fun u o ⟨x,H1,g,rx,a,C,dx,fs,v,ex,b,c,n,l,q⟩=>?_);subst ex;obtain rfl:u=Value.ref a:=rx;exact O6 g b c n l fun i j d ru=>⟨v,H1,d,ru,q⟩
theorem tK(ha:PE X o ta)(hv:PE X value tv)(hs:swapsWith value (some (.Attribute o f pos')) pos.line X.env=pure false):PS X (.Assign [.Attribute o f pos'] value pos) (Ad X.K ta tv f):=by
 intro pins s σ H D I h;refine Vs (Jr (hv pins s σ H _ I h) fun u b ⟨y,H1,p,ry,q⟩=>Jr (ha pins b σ H1 _ p q) fun e v ⟨x,H2,j,rx,a,C,dx,fs,ex,g,c,n,l,d⟩=>?_) hs;subst ex;obtain rfl:e=Value.ref a:=rx;exact Lz j g c n l ry fun r i=>⟨σ,_,i,d⟩
end
section
variable{X:Cx}{pins:WU}{σ:St}{H:Hp}{s:WW}{A:WY}{E:WR}{Q:WR}{c:J1}{b:Bool}
inductive Ds(K:J0)(H:Hp):V->Value->Prop where
 |non:Ds K H .non (.type "NoneType")
 |bl (x:Bool):Ds K H (.bl x) (.type "bool")
 |int (i:Int):Ds K H (.int i) (.type "int")
 |str (x:Str):Ds K H (.str x) (.type "str")
 |flt (x:UInt64):Ds K H (.flt x) (.type "float")
 |lst {a:J2} {xs:List V} (e:H a=some (.lst xs)):Ds K H (.ref a) (.type "list")
 |frz {a:J2} {o:Obj} {xs:List V} (e:H a=some (.frz o (.lst xs))):Ds K H (.ref a) (.type "list")
 |tup {a:J2} {xs:List V} (e:H a=some (.tup xs)):Ds K H (.ref a) (.type "tuple")
 |dK {a:J2} {kvs:List (Jv×V)} (e:H a=some (.dK kvs)):Ds K H (.ref a) (.type "dict")
 |dT {a:J2} {kvs:List (List Jv×V)} (e:H a=some (.dT kvs)):Ds K H (.ref a) (.type "dict")
 |ins {a C dx:J2} {fs:List (Str×V)} (e:H a=some (.ins C dx fs)) (cl:MQ K C) (ha:W.findIn K (.ref C) "__class__"=some (some (.builtin "object.__class__")))
   (hn:W.specialIn K (.builtin "object.__class__") "__get__"=some (some (.builtin "getset_descriptor.__get__"))) (htk:W.takesIn K (.builtin "object.__class__")=some true)
   (hm:W.mroIn K C (.type "object")=some true):Ds K H (.ref a) (.ref C)
theorem wV{x:V}{u t:J1}(I:Jb X pins σ H s)(rx:Jg x u)(ty:Ds X.K H x t)(e:W.kitOne X.K t c=some b)(h:∀tk,Q (.bool b) {s with toks:=tk}):
  wpAny (model X.prog X.w) A (call (.builtin "isinstance") [u,c]) Q E s:=by
 cases ty with
 |non=>cases (show u=Value.none from rx);exact U6 W.kitx_none I.kIn True.intro e (fun z=>nomatch z) h
 |bl y=>cases (show u=Value.bool y from rx);exact U6 W.kitx_bool I.kIn True.intro e (fun z=>nomatch z) h
 |int i=>obtain⟨t,q⟩:=(show ∃t,u=Value.int i t from rx);cases q;exact U6 W.kitx_int I.kIn True.intro e (fun z=>nomatch z) h
 |str y=>obtain⟨t,q⟩:=(show ∃t,u=Value.str y t from rx);cases q;exact U6 W.kitx_str I.kIn True.intro e (fun z=>nomatch z) h
 |flt y=>obtain⟨t,q⟩:=(show ∃t,u=Value.float y t from rx);cases q;exact U6 W.kitx_float I.kIn True.intro e (fun z=>nomatch z) h
 |@lst a xs ea=>
  cases (show u=Value.ref a from rx);obtain⟨_,_,n,_,h1⟩:=(show Jy X.prog X.w H s.heap a (.lst xs) from I.hok a _ ea);exact U6 W.kitx_list I.kIn ⟨_,h1,rfl⟩ e (fun z=>nomatch z) h
 |@frz a ob xs ea=>
  cases (show u=Value.ref a from rx);obtain⟨_,_,_,n,_,h1⟩:=(show Jy X.prog X.w H s.heap a (.frz ob (.lst xs)) from I.hok a _ ea);exact U6 W.kitx_list I.kIn ⟨_,h1,rfl⟩ e (fun z=>nomatch z) h
 |@tup a xs ea=>
  cases (show u=Value.ref a from rx);obtain⟨_,_,_,p⟩:=(show Jy X.prog X.w H s.heap a (.tup xs) from I.hok a _ ea);obtain⟨o,h1,h2,_⟩:=p;exact U6 W.kitx_tuple I.kIn ⟨o,h1,h2⟩ e (fun z=>nomatch z) h
 |@dK a kvs ea=>
  cases (show u=Value.ref a from rx);obtain⟨_,_,vs,_,p⟩:=(show Jy X.prog X.w H s.heap a (.dK kvs) from I.hok a _ ea);obtain⟨o,es,ep,h1,h2,_⟩:=p;exact U6 W.kitx_dict I.kIn ⟨o,h1,h2.1⟩ e (fun z=>nomatch z) h
 |@dT a kvs ea=>
  cases (show u=Value.ref a from rx);obtain⟨_,_,xs,_,o,es,ep,h1,h2,_⟩:=(show Jy X.prog X.w H s.heap a (.dT kvs) from I.hok a _ ea);exact U6 W.kitx_dict I.kIn ⟨o,h1,h2.1⟩ e (fun z=>nomatch z) h
 |@ins a C dx fs ea cl ha hn htk hm=>
  cases (show u=Value.ref a from rx);obtain⟨mA,O,_⟩:=Cq I.hok ea;obtain⟨d,J,_⟩:=O.look;exact U6 (W.kitx_own (cl.get _) cl.hd ha hn htk hm) I.kIn J e (fun z=>nomatch z) h
end
structure Ju(k:Nat)(A:WY):Prop where
 hd:A.handled=none
 dp:A.depth+ 3*k+ 5 < recursionLimit
 un:A.units+ 16*k+ 200 < cLine
theorem Ju.mono{j k:Nat}{A:WY}(r:Ju k A)(h:j <=k):Ju j A:=⟨r.hd,by have:=r.dp;lia,by have:=r.un;lia⟩
theorem Ju.deeper{k:Nat}{A:WY}(r:Ju (k+ 1) A)(env:Env):Ju k (A.deeper env):=
 ⟨r.hd,by have:=r.dp;show A.depth+ 1+ 3*k+ 5 < _;lia,by have:=r.un;show A.units+ 3+ 16*k+ 200 < _;lia⟩
theorem vS{A:WY}{C:J2}{us:J5}{kw:List (Str×Value)}:(A.under (.builtin "type.__call__" ⟨.ref C::us,kw⟩)).depth=A.depth+ 1:=by
 first|rfl|simp[Around.under,Code.weight,Code.isCreation,Code.isGuard,Code.isCaller,Code.frames,Code.isFrame,guardIds]
theorem SO{A:WY}{C:J2}{us:J5}{kw:List (Str×Value)}:(A.under (.builtin "type.__call__" ⟨.ref C::us,kw⟩)).units=A.units+ 1:=by
 first|rfl|simp[Around.under,Code.cUnits,Code.frames,Code.isFrame]
theorem Ju.make{k:Nat}{A:WY}(r:Ju (k+ 1) A)(C:J2)(us:J5)(kw:List (Str×Value)):Ju k (A.under (.builtin "type.__call__" ⟨.ref C::us,kw⟩)):=
 ⟨r.hd,by have:=r.dp;rw[vS];lia,by have:=r.un;rw[SO];lia⟩
theorem Ju.depth{k:Nat}{A:WY}(r:Ju k A):A.depth < recursionLimit:=by have:=r.dp;lia
theorem Ju.units{k:Nat}{A:WY}(r:Ju k A):A.units+ 64 < cLine:=by have:=r.un;lia
def Gm:TA:=fun _ H Q=>Q [] H
def D7(ta:TE)(tr:TA):TA:=fun σ H Q=>ta σ H fun x H1=>tr σ H1 fun xs H2=>Q (x::xs) H2
section
variable{X:Cx}{e:J7}{es:List Expr}{te:TE}{t:TA}{pos:Pos}
theorem Jc:PA X [] Gm:=fun _ _ _ _ H Q I h=>Calls.spliced_nil ⟨[],H,I,.nil,h⟩
theorem JG(ha:PE X e te)(hr:PA X es t)(hs:starEach (e::es) X.env=(false,eval e X.env)::starEach es X.env:=by rfl):PA X (e::es) (D7 te t):=by
 intro pos pins s σ H Q I h;rw[hs];show wpAny _ _ (spliced ((false,eval e X.env)::backTo pos (starEach es X.env))) _ _ s;refine Calls.spliced_cons (Jr (ha pins s σ H _ I h) fun u a ⟨x,H1,i,c,f⟩=>?_);exact Jr (hr pos pins a σ H1 _ i f) fun j l ⟨xs,H2,g,b,d⟩=>⟨x::xs,H2,g,.cons c b,d⟩
def Hj(t:TA):TE:=fun σ H Q=>t σ H fun xs H1=>xs.length <=sizeLine/\∀p,H1 p=none->Q (.ref p) (upd H1 p (.tup xs))
theorem xS{x1}(h:PA X es t):PE X (.Tuple es x1 pos) (Hj t):=by
 intro pins s σ H Q I f;refine wpAny_Tuple_spliced (Jr (h pos pins s σ H _ I f) fun d a ⟨xs,H1,c,r,z,q⟩=>⟨by rw[<-r.length];exact z,?_⟩);have hf:H1 a.heap.objs.size=none:=c.hok.fresh (Y7 _);refine⟨.ref a.heap.objs.size,upd H1 a.heap.objs.size (.tup xs),c.laid (t':=a.toks) (fun b u e=>Y8 _ e) (Y7 _) ?_,rfl,q _ hf⟩;exact⟨z,d,r,⟨_,Yh _ rfl,rfl,_,rfl⟩⟩
end
abbrev Sp:=List V->Hp->VK->XK->Prop
abbrev Gn:=List Env->Hp->Shared->XK->Value->Shared->Prop
structure Df(P:WV)(w:WZ)(K:J0)(mg:WQ)(base:J6)(A:WY)(outer:List Env)(s:WW)(H:Hp):Prop where
 frames:A.frames=some outer
 mod:Mod K mg base
 bs:∀b o,base.get? b=some o->s.heap.get? b=some o/\H b=none
 bsz:base.objs.size <=s.heap.objs.size
 funs:s.heap.FunFrames base outer
 frf:∀b∈DW outer,H b=none
 hok:To P w H s.heap
 bare:AllBare s.gens
def CE(outer:List Env)(P:WV)(w:WZ)(H:Hp)(s:WW)(Q:VK)(u:J1)(s':WW):Prop:=
 ∃v H',s'.os=s.os/\AllBare s'.gens/\Un (DW outer) [] H H' s.heap s'.heap/\To P w H' s'.heap/\Jg v u/\Q v H'
def CR(CX:Gn)(outer:List Env)(P:WV)(w:WZ)(H:Hp)(s:WW)(Q:VK)(E:XK)(r:Result)(s':WW):Prop:=
 match r with
 | .ok (.ret u)=>CE outer P w H s Q u s'
 | .ok _=>False
 | .error e=>CX outer H s E e s'
structure Ji(P:WV)(w:WZ)(K:J0)(mg:WQ)(base:J6)(CX:Gn)(k:Nat)(f:J2)(fd:WX)(ps:List Str)(sp:Sp):Prop where
 len:∀vs H Q E,sp vs H Q E->vs.length=ps.length
 run:∀ (A:WY) (outer:List Env) (s:WW) (H:Hp) (args:Args) (us:J5) (vs:List V) (Q:VK) (E:XK),Ju k A->Df P w K mg base A outer s H->BindsTo s fd args (ps.zip us)->Jd vs us->sp vs H Q E->
  codeAny (model P w) A (.call (.ref f) args) (CR CX outer P w H s Q E) s
theorem Ji.imp{P:WV}{w:WZ}{K:J0}{mg:WQ}{base:J6}{CX:Gn}{k:Nat}{f:J2}{fd:WX}{ps:List Str}{sp sp':Sp}(F:Ji P w K mg base CX k f fd ps sp)
  (h:∀vs H Q E,sp' vs H Q E->sp vs H Q E):Ji P w K mg base CX k f fd ps sp':=
 ⟨fun vs H Q E q=>F.len vs H Q E (h _ _ _ _ q),fun A a s H b c vs Q E g i j d e=>F.run A a s H b c vs Q E g i j d (h _ _ _ _ e)⟩
theorem Df.make{P:WV}{w:WZ}{K:J0}{mg:WQ}{base:J6}{A:WY}{outer:List Env}{s:WW}{H:Hp}(e:Df P w K mg base A outer s H)(C:J2)(us:J5)(kw:List (Str×Value)):
  Df P w K mg base (A.under (.builtin "type.__call__" ⟨.ref C::us,kw⟩)) outer s H:=⟨by first|exact e.frames|(simpa[Around.under,Code.envs,Code.isFrame,pushEnvs] using e.frames),e.mod,e.bs,e.bsz,e.funs,e.frf,e.hok,e.bare⟩
section
variable{X:Cx}{pins:WU}{σ:St}{H:Hp}{s s':WW}
theorem Jb.env0(I:Jb X pins σ H s):Df X.prog X.w X.K X.mg X.base X.A X.stack s H:=
 ⟨I.ok.frames,I.ok.mod,I.bs,YT I.ok.bsz I.sz,I.stack,I.stkFree,I.hok,I.bare⟩
theorem Jb.after{Q:VK}{u:J1}(I:Jb X pins σ H s)(h:CE X.stack X.prog X.w H s Q u s'):EP X pins σ Q u s':=by
 obtain⟨v,H',os,a,un,e,r,q⟩:=h;obtain⟨hh,g,d,t,c⟩:=s';obtain rfl:c=s.os:=os;exact⟨v,H',I.call (h':=hh) (g':=g) (d':=d) (t':=t) (ch:=[]) un e a (fun b z=>absurd z (by simp)),r,q⟩
end
def E8(sp:Sp)(dvs:List V)(E:XK)(t:TA):TE:=fun σ H Q=>t σ H fun vs H1=>sp (vs++dvs) H1 Q E
def Td(K:J0)(fd:WX)(ps:List Str)(ds:J5):Prop:=
 ∀ (s:WW) (us:J5),K.In s.heap->(us++ds).length=ps.length->BindsTo s fd ⟨us,[]⟩ (ps.zip (us++ds))
theorem Td.all{K:J0}{fd:WX}{ps:List Str}(h:∀us:List Value,us.length=ps.length->bindArgs fd ⟨us,[]⟩=pure (ps.zip us)):Td K fd ps []:=fun s us _ a=>by
 rw[List.append_nil]at a ⊢;exact .of_eq (h us a)
def BE(CX:Gn)(X:Cx)(E:XK):Prop:=∀ (pins:WU) (σ:St) (H:Hp) (s:WW) (e:J1) (s':WW),Jb X pins σ H s->CX X.stack H s E e s'->X.xe e s'
section
variable{X:Cx}{CX:Gn}{k:Nat}{f C:J2}{fd:WX}{ps:List Str}{sp:Sp}{dvs:List V}{ds:J5}{E:XK}{x m:Str}{p pos apos:Pos}{e o:J7}{es:List Expr}{ta:TE}{t:TA}
theorem C0{pins:WU}{σ:St}{H:Hp}{s:WW}{Q:VK}{us:J5}{vs:List V}(F:Ji X.prog X.w X.K X.mg X.base CX k f fd ps sp)(hr:Ju k X.A)(hb:Td X.K fd ps ds)(hd:Jd dvs ds)(hx:BE CX X E)
  (I:Jb X pins σ H s) (r:Jd vs us) (h:sp (vs++dvs) H Q E):wpAny (model X.prog X.w) X.A (call (.ref f) us) (EP X pins σ Q) X.xe s:=by
 have b:Jd (vs++dvs) (us++ds):=r.append hd;have c:(us++ds).length=ps.length:=by rw[<-b.length];exact F.len _ _ _ _ h
 refine WE (U9 (F.run X.A X.stack s H ⟨us,[]⟩ (us++ds) (vs++dvs) Q E hr I.env0 (hb s us I.kIn c) b h) fun r s' a=>?_);cases r with
 |error e=>exact hx pins σ H s e s' I a
 |ok fl=>
  cases fl with
  |ret u=>exact I.after a
  |next=>exact False.elim a
  |brk=>exact False.elim a
  |cont=>exact False.elim a
theorem xZ(F:Ji X.prog X.w X.K X.mg X.base CX k f fd ps sp)(hr:Ju k X.A)(hg:Gl X x)(hm:X.mg x=some (.ref f))(hk:W.keepIn X.K (.ref f)=true)(hb:Td X.K fd ps ds)(hd:Jd dvs ds)(hx:BE CX X E)
  (ha:PA X (e::es) t) (hdb:(x==("__debug__":Str))=false:=by decide) (he:starEach (e::es) X.env=(false,eval e X.env)::starEach es X.env:=by rfl) (hpl:(backTo pos (starEach es X.env)).any (·.1)=false:=by rfl):
  PE X (.Call (.Name x p) (e::es) [] pos) (E8 sp dvs E t):=by
 intro pins s σ H Q I h;refine XU (AA I hg hm ?_ hdb);refine W.callWith_K (h₀:=X.base) I.ok.mod.kin hk (Jr (ha pos pins s σ H _ I h) fun b c ⟨vs,H1,a,r,q⟩=>⟨a.kIn,?_⟩) he hpl;exact C0 F hr hb hd hx a r q
theorem uD(F:Ji X.prog X.w X.K X.mg X.base CX k f fd ps sp)(hr:Ju k X.A)(hg:Gl X x)(hm:X.mg x=some (.ref f))(hk:W.keepIn X.K (.ref f)=true)(hb:Td X.K fd ps ds)(hd:Jd dvs ds)(hx:BE CX X E)
  (hdb:(x==("__debug__":Str))=false:=by decide):PE X (.Call (.Name x p) [] [] pos) (E8 sp dvs E Gm):=by
 intro pins s σ H Q I h;refine XU (AA I hg hm ?_ hdb);exact W.callWith_K0 I.kIn hk (C0 (us:=[]) F hr hb hd hx I .nil h)
structure Mk(K:J0)(C f:J2):Prop where
 makes:W.makesIn K C=true
 init:W.findIn K (.ref C) "__init__"=some (some (.ref f))
 fn:W.isFn K (.ref f)=true
 kp:W.keepIn K (.ref C)=true
theorem Qq{pins:WU}{σ:St}{H:Hp}{s:WW}{Q:VK}{us:J5}{vs:List V}(M:Mk X.K C f)(F:Ji X.prog X.w X.K X.mg X.base CX k f fd ps sp)(hr:Ju (k+ 1) X.A)(hb:Td X.K fd ps ds)(hd:Jd dvs ds)
  (hx:BE CX X E) (I:Jb X pins σ H s) (r:Jd vs us)
  (h:∀x dx,H x=none->H dx=none->dx≠x->sp (.ref x::(vs++dvs)) (upd (upd H dx (.own x)) x (.ins C dx [])) (fun v H2=>v= .non/\Q (.ref x) H2) E):
  wpAny (model X.prog X.w) X.A (call (.ref C) us) (EP X pins σ Q) X.xe s:=by
 have d:=h (s.heap.objs.size+ 1) s.heap.objs.size (I.hok.fresh (U7 _)) (I.hok.fresh (Y7 _)) (Yo (Vo _));have b:=Jb.made (C:=C) I;have c:Jd (V.ref (s.heap.objs.size+ 1)::(vs++dvs)) (Value.ref (s.heap.objs.size+ 1)::(us++ds)):=.cons rfl (r.append hd);have j:(Value.ref (s.heap.objs.size+ 1)::us++ds).length=ps.length:=by
  have e:=c.length;rw[F.len _ _ _ _ d]at e;exact e.symm
 refine WE (tT (f := f) I.kIn M.makes M.init (Vx.mp M.fn) (U9 (F.run _ X.stack _ _ ⟨Value.ref (s.heap.objs.size + 1) :: us, []⟩ (Value.ref (s.heap.objs.size + 1) :: (us ++ ds)) _ _ E (hr.make C us [])
  (b.env0.make C us []) (hb _ (Value.ref (s.heap.objs.size + 1) :: us) b.kIn j) c d) fun r s' a => ?_))
 cases r with
 |error e=>exact hx pins σ _ _ e s' b a
 |ok fl=>
  cases fl with
  |ret u=>
   obtain⟨v,H',n,g,l,i⟩:=b.after a;subst l;exact⟨g,⟨V.ref (s.heap.objs.size+ 1),H',n,rfl,i⟩⟩
  |next=>exact False.elim a
  |brk=>exact False.elim a
  |cont=>exact False.elim a
end
def PK(X:Cx)(kws:List Keyword)(t:TA):Prop:=
 ∀ (pos:Pos) (pins:WU) (s:WW) (σ:St) (H:Hp) (Q:List V->Hp->Prop),Jb X pins σ H s->t σ H Q->wpAny (model X.prog X.w) X.A (evalAll ((backToKw pos (keywordEach kws X.env)).map (·.2))) (AP X pins σ Q) X.xe s
section
variable{X:Cx}{CX:Gn}{k:Nat}{f C:J2}{fd:WX}{ps ks:List Str}{sp:Sp}{E:XK}{x m:Str}{p pos apos kpos:Pos}{e o:J7}{es:List Expr}{kws:List Keyword}{te ta:TE}{t tk:TA}{nm:Option Str}
theorem Se:PK X [] Gm:=fun _ _ _ _ H Q I h=>wpAny_evalAll_nil ⟨[],H,I,.nil,h⟩
theorem nV(ha:PE X e te)(hr:PK X kws t):PK X (⟨nm,e,kpos⟩::kws) (D7 te t):=by
 intro pos pins s σ H Q I h;show wpAny _ _ (evalAll ((do let v <-eval e X.env;standAt pos;pure v)::(backToKw pos (keywordEach kws X.env)).map (·.2))) _ _ s;refine wpAny_evalAll_cons (Y0 (Jr (ha pins s σ H _ I h) fun u a ⟨x,H1,i,c,f⟩=>Y0 (Vm (Y2 ?_))));exact Jr (hr pos pins a σ H1 _ i f) fun j l ⟨xs,H2,g,b,d⟩=>⟨x::xs,H2,g,.cons c b,d⟩
variable{g:List Value->List Value->List Value}{gV:List V->List V->List V}
end
structure Ng(N P:List Str)(sc:Scope):Prop where
 kind:sc.kind= .function
 co:sc.isCoroutine=false
 gen:sc.isGenerator=false
 nd:N.Nodup
 pre:N.take P.length=P
 par:∀x∈P,sc.names.lookup x=some .local\/sc.names.lookup x=some .cell
 nofree:∀y∈sc.names,y.2≠ .free
theorem KY{kindOf:Str->Option NameKind}{x:Str}:∀{binds:List (Str×Value)} {m:WQ},(∀v,(x,v)∉binds)->bindL kindOf binds m x=m x
 |[],_,_=>rfl
 |(n,v)::r,m,h=>by
  unfold bindL;rw[KY fun w hw=>h w (Yj _ hw)]
  split
  .have:x≠n:=by rintro rfl;exact h v YA
   simp[this]
  .rfl
theorem Q5{kindOf:Str->Option NameKind}{x:Str}:∀{binds:List (Str×Value)} {m:WQ},(∀v,(x,v)∉binds)->bindC kindOf binds m x=m x
 |[],_,_=>rfl
 |(n,v)::r,m,h=>by
  unfold bindC;rw[Q5 fun w hw=>h w (Yj _ hw)]
  split
  .rfl
  .have:x≠n:=by rintro rfl;exact h v YA
   simp[this]
theorem KU{kindOf:Str->Option NameKind}{x:Str}{v:J1}:∀{P:List Str} {vs:J5} {i:Nat} {m:WQ},P.Nodup->P[i]?=some x->vs[i]?=some v->kindOf x=some .local->
  bindL kindOf (P.zip vs) m x=some v
 |[],_,_,_,_,h,_,_=>by simp at h
 |_::_,[],_,_,_,_,h,_=>by simp at h
 |p::P,w::vs,0,m,nd,h1,h2,hk=>by
  simp at h1 h2;subst h1;subst h2;show bindL kindOf ((p,w)::P.zip vs) m p=_;unfold bindL;rw[KY fun v hv=>(Xt.mp nd).1 (Wk hv).1,Y3 hk];simp
 |p::P,w::vs,i+ 1,m,nd,h1,h2,hk=>by
  show bindL kindOf ((p,w)::P.zip vs) m x=_;unfold bindL;exact KU (i:=i) (Xt.mp nd).2 (by simpa using h1) (by simpa using h2) hk
theorem LB{kindOf:Str->Option NameKind}{x:Str}{v:J1}:∀{P:List Str} {vs:J5} {i:Nat} {m:WQ},P.Nodup->P[i]?=some x->vs[i]?=some v->kindOf x≠some .local->
  bindC kindOf (P.zip vs) m x=some v
 |[],_,_,_,_,h,_,_=>by simp at h
 |_::_,[],_,_,_,_,h,_=>by simp at h
 |p::P,w::vs,0,m,nd,h1,h2,hk=>by
  simp at h1 h2;subst h1;subst h2;show bindC kindOf ((p,w)::P.zip vs) m p=_;unfold bindC;rw[Q5 fun v hv=>(Xt.mp nd).1 (Wk hv).1,Y1 hk];simp
 |p::P,w::vs,i+ 1,m,nd,h1,h2,hk=>by
  show bindC kindOf ((p,w)::P.zip vs) m x=_;unfold bindC;exact LB (i:=i) (Xt.mp nd).2 (by simpa using h1) (by simpa using h2) hk
def start(N:List Str)(vs:List V):St:=vs.map some++List.replicate (N.length - vs.length) none
def M0(CX:Gn)(P:WV)(w:WZ)(K:J0)(mg:WQ)(base:J6)(N:List Str)(qual:Str)(scope:Scope)(f:J2)(cd:J1)(A:WY)(outer:List Env)(s:WW)(H:Hp)(E:XK):Cx where
 prog:=P
 w:=w
 K:=K
 mg:=mg
 base:=base
 A:=A.deeper (envOfC qual scope s.heap.objs.size f cd)
 N:=N
 s₀:=s
 H₀:=H
 env:=envOfC qual scope s.heap.objs.size f cd
 outer:=outer
 stack:=envOfC qual scope s.heap.objs.size f cd::outer
 ex:=[]
 calm:=true
 fn:=fun _=>true
 pn:=[]
 xe:=fun e s'=>wpAny (model P w) (A.deeper (envOfC qual scope s.heap.objs.size f cd)) (leaving (envOfC qual scope s.heap.objs.size f cd) e) (fun _ s''=>CX outer H s E e s'') (fun e' s''=>CX outer H s E e' s'') s'
theorem L1{sc:Scope}{n:Nat}{x:Str}(h:sc.names.lookup x=some .cell):∃c,(cellsFrom n sc.names []).lookup x=some c:=by
 have q:=W.cellsFrom_some sc.names n [] (.inl h);exact UV.mp q
theorem Z1{CX:Gn}{P:WV}{w:WZ}{K:J0}{mg:WQ}{base:J6}{N ps:List Str}{qual:Str}{scope:Scope}{f:J2}{cd:J1}{A:WY}{outer:List Env}{s s1:WW}{H:Hp}{E:XK}{us:J5}{vs:List V}
  (S:Ng N ps scope) (hd:A.handled=none) (e0:Df P w K mg base A outer s H) (hl:vs.length=ps.length) (r:Jd vs us)
  (x:InCallC s s.heap.objs.size (bindL (envOfC qual scope s.heap.objs.size f cd).kindOf (ps.zip us) fun _=>none) (cellsFrom (s.heap.objs.size+ 1) scope.names []) (bindC (envOfC qual scope s.heap.objs.size f cd).kindOf (ps.zip us) fun _=>none) s1):
  Jb (M0 CX P w K mg base N qual scope f cd A outer s H E) [] (start N vs) H s1:=by
 have hpl:ps.length <=N.length:=by have:=Xn List.length S.pre;rw[Ym]at this;lia
 obtain⟨h1,tk,rfl,hk⟩:=x.done;have g:∀b:Addr,b∉(M0 CX P w K mg base N qual scope f cd A outer s H E).ex:=fun b z=>absurd (show b∈([]:List Addr) from z) (by simp)
 refine ⟨⟨e0.mod, S.kind, rfl, rfl, Y7 _, fun y z c h1 h2 => ?_, fun y d => ?_, fun y c _ h => ?_, fun _ => hd, Around.frames_deeper e0.frames, .inr ⟨rfl, rfl⟩, fun b z => absurd z (g b), e0.bs, e0.bsz, fun b _ _ => g b, fun b z => absurd z (g b), e0.funs, e0.frf⟩,
  rfl, e0.bare, Un.kept hk, ⟨_, x.toInCall.ns, fun i y v h1 h2 h3 => ?_⟩, fun y c h => ⟨_, x.cell y c h⟩, e0.hok.fresh (Y7 _), fun y c h => ?_, fun p j => absurd (show p ∈ ([] : List (Addr × Obj)) from j) (by simp), e0.hok.kept hk, ?_⟩
 .exact name_of_addr x.apart (Ue h1) (Ue h2)
 .have d:scope.names.lookup y=some .cell\/scope.names.lookup y=some .free:=d;rcases d with d|d
  .exact L1 d
  .exact absurd rfl (S.nofree _ (Ue d))
 .exact UT (x.above y c (Ue h))
 .have hi:i < vs.length:=by
   unfold start at h2
   by_cases hi:i < vs.length
   .exact hi
   .rw[Xq (by simpa using hi)]at h2;rw[List.getElem?_replicate]at h2
    split at h2 <;> cases h2
  have ha:vs[i]?=some v:=by
   unfold start at h2;rw[W0 (by simpa using hi),Yf]at h2;cases e:vs[i]? with
   |none=>rw[e]at h2;cases h2
   |some a=>rw[e]at h2;cases h2;rfl
  obtain⟨u,o,rv⟩:=r.get ha;have j:ps[i]?=some y:=by
   rw[<-S.pre,List.getElem?_take_of_lt (by lia)];exact h1
  have l:ps.Nodup:=by rw[<-S.pre];exact S.nd.sublist (Uw _ _)
  refine⟨u,rv,?_⟩;rcases S.par y (YB j) with k|k
  .exact .inl ⟨k,KU l j o k⟩
  .obtain⟨c,e⟩:=L1 (n:=s.heap.objs.size+ 1) k;refine .inr ⟨.inl k,c,e,?_⟩;have q:=x.cell y c e;rw[LB l j o (by show scope.names.lookup y≠_;rw[k];decide)]at q;exact q
 .exact e0.hok.fresh (UT (x.above y c (Ue h)))
 .unfold start;show _=N.length;rw[List.length_append,Y4,List.length_replicate]
  lia
theorem EK{CX:Gn}{P:WV}{w:WZ}{K:J0}{mg:WQ}{base:J6}{k:Nat}{f:J2}{name qual:Str}{params:Arguments}{body:List Stmt}{scope:Scope}{dV kV doc pm cdv ct oc:J1}{an od:Option Addr}
  {osl:Array (Option Value)} {N ps:List Str} {sp:Sp} (lk:K.lookup f=some ⟨oc,od,.func (W.fnOf name qual params body scope dV kV doc pm an cdv ct),osl⟩) (hcd:W.codeIn K cdv qual=true) (S:Ng N ps scope)
  (len:∀vs H Q E,sp vs H Q E->vs.length=ps.length)
  (hbody : ∀ (A : Around) (outer : List Env) (s : Shared) (H : Hp) (vs : List V) (Q : VK) (E : XK), Ju k (A.deeper (envOfC qual scope s.heap.objs.size f cdv)) -> sp vs H Q E ->
   ∃ t, ME (M0 CX P w K mg base N qual scope f cdv A outer s H E) body t /\ t { nx := fun _ H' => Q .non H', rt := Q } (start N vs) H) :
  Ji P w K mg base CX (k+ 1) f (W.fnOf name qual params body scope dV kV doc pm an cdv ct) ps sp:=by
 refine⟨len,fun A outer s H args us vs Q E j c hb r g=>?_⟩;have hl:=len _ _ _ _ g;have z:K.In s.heap:=c.mod.kin.keeps fun b o e=>(c.bs b o e).1
 have p:s.heap.NoLimit:=c.mod.nolimit.keeps fun b o e=>(c.bs b o e).1
 have d:∀y∈ps.zip us,scope.names.lookup y.1=some .local\/(scope.names.lookup y.1=some .cell/\((cellsFrom (s.heap.objs.size+ 1) scope.names []).lookup y.1).isSome=true):=fun⟨n,v⟩ hy=>by
  rcases S.par n (Wk hy).1 with q|q
  .exact .inl q
  .exact .inr ⟨q,W.cellsFrom_some _ _ _ (.inl q)⟩
 refine codeAny_call_function j.depth (z _ _ lk) rfl S.co S.gen rfl (W.codeRec_of z hcd) (hb _ _ _ _ ?_);refine wpAny_newFunctionEnv_cells S.kind d fun env he l x=>?_
 subst he;refine⟨p.keeps x.toInCall.keep,codeAny_func ?_⟩;obtain⟨t,ht,hq⟩:=hbody A outer s H vs Q E (j.deeper _) g;have I:Jb (M0 CX P w K mg base N qual scope f cdv A outer s H E) [] (start N vs) H l:=Z1 S j.hd c hl r x;refine X1 (ht [] l (start N vs) H _ I hq) (fun fl s' a=>?_) fun e s' a=>a
 have h:∀{σ':St} {H':Hp} {v:V} {u:J1},Jb (M0 CX P w K mg base N qual scope f cdv A outer s H E) [] σ' H' s'->Jg v u->Q v H'->CE outer P w H s Q u s':=
  fun {σ' H' v u} J i q=>⟨v,H',J.os,J.bare,J.base,J.hok,i,q⟩
 cases fl with
 |ret u=>
  obtain⟨v,σ',H',J,i,q⟩:=a;exact h J i q
 |next=>
  obtain⟨σ',H',J,q⟩:=a;exact h (v:=V.non) (u:=Value.none) J rfl q
 |brk=>
  obtain⟨_,_,_,q⟩:=a;exact False.elim q
 |cont=>
  obtain⟨_,_,_,q⟩:=a;exact False.elim q
section
variable{X:Cx}{x:Str}{p pos:Pos}{e:J7}{es:List Expr}{t:TA}{id T:String}{r:List V->Hp->VK->Prop}
def Bb(r:List V->Hp->VK->Prop)(t:TA):TE:=fun σ H Q=>t σ H fun vs H1=>r vs H1 Q
theorem vM(hc:Jt X (.builtin id) r)(hg:Gl X x)(hm:X.mg x=none)(hv:bootBuiltins x=some (.builtin id))(ha:PA X (e::es) t)(hn:x≠"__name__":=by decide)(hdb:(x==("__debug__":Str))=false:=by decide)
  (he:starEach (e::es) X.env=(false,eval e X.env)::starEach es X.env:=by rfl) (hpl:(backTo pos (starEach es X.env)).any (·.1)=false:=by rfl):PE X (.Call (.Name x p) (e::es) [] pos) (Bb r t):=by
 intro pins s σ H Q I h;refine XU (BW I hg hm hv ?_ hn hdb);exact PyProof.Rows.callWith_builtin1 (Jr (ha pos pins s σ H _ I h) fun a b ⟨vs,H1,f,c,d⟩=>hc pins b σ H1 vs a Q f c d) he hpl
theorem Em(hc:Jt X (.type T) r)(hg:Gl X x)(hm:X.mg x=none)(hv:bootBuiltins x=some (.type T))(ha:PA X (e::es) t)(hn:x≠"__name__":=by decide)(hdb:(x==("__debug__":Str))=false:=by decide)
  (he:starEach (e::es) X.env=(false,eval e X.env)::starEach es X.env:=by rfl) (hpl:(backTo pos (starEach es X.env)).any (·.1)=false:=by rfl):PE X (.Call (.Name x p) (e::es) [] pos) (Bb r t):=by
 intro pins s σ H Q I h;refine XU (BW I hg hm hv ?_ hn hdb);exact VP (Jr (ha pos pins s σ H _ I h) fun a b ⟨vs,H1,f,c,d⟩=>hc pins b σ H1 vs a Q f c d) he hpl
end
end L2
namespace HT
open PySem PyProof.Rows
def lexLt:List Int->List Int->Bool
 |[],[]=>false
 |[],_::_=>true
 |_::_,[]=>false
 |x::xs,y::ys=>if x=y then lexLt xs ys else decide (x < y)
theorem lexLt_cons(x y:Int)(xs ys:J3):lexLt (x::xs) (y::ys)=if x=y then lexLt xs ys else decide (x < y):=rfl
theorem uC(A:WY)(s:WW)(a:Int)(t:Tok)(c:Int)(u:Tok):∃e,SeqAt.EqAt A s (.int a t) (.int c u) e/\(e=true↔a=c):=
 ⟨(a==c),SeqAt.EqAt.int_int a t c u,by simp⟩
theorem L9(A:WY)(s:WW)(a:Int)(t:Tok)(c:Int)(u:Tok)(prog:WV)(w:WZ)(E:WR)(Q:WR)(h:Q (.bool (decide (a < c))) s):
  wpAny (model prog w) A (richCompare .Lt (.int a t) (.int c u)) Q E s:=
 (PyProof.Rows.lt_int h:wpAny (model prog w) A (compareOp .Lt (.int a t) (.int c u)) Q E s)
section
variable{prog:WV}{w:WZ}{A:WY}{E:WR}{s:WW}
def sIx(n d:Nat):Option Int->Nat
 |none=>d
 |some v=>if v < 0 then(v+ (n:Int)).toNat else min v.toNat n
theorem sIx_nat(n d k:Nat):sIx n d (some (k:Int))=min k n:=by
 show(if(k:Int) < 0 then((k:Int)+ (n:Int)).toNat else min (k:Int).toNat n)=min k n;rw[Y1 (by lia),YN]
end
end HT
namespace L2
open PySem PySem.Spec PyProof.Rows
abbrev TO:=St->Hp->(Option Int->Hp->Prop)->Prop
def PO(X:Cx)(e:Option Expr)(t:TO):Prop:=
 ∀ (pins:WU) (s:WW) (σ:St) (H:Hp) (Q:Option Int->Hp->Prop),Jb X pins σ H s->t σ H Q->
  wpAny (model X.prog X.w) X.A (evalPart e X.env) (fun u s'=>∃o H',Jb X pins σ H' s'/\IsPart u o/\Q o H') X.xe s
def Hn(t:TE):TO:=fun σ H Q=>t σ H fun x H1=>∃i,x= .int i/\Q (some i) H1
section
variable{X:Cx}{e:J7}{te:TE}{lo hi:Option Expr}{tl th:TO}{pos p2:Pos}
theorem AW(h:PE X e te):PO X (some e) (Hn te):=by
 intro pins s σ H Q I c;rw[evalPart_some];refine Jr (h pins s σ H _ I c) fun u f ⟨x,H1,d,a,b⟩=>?_
 obtain⟨i,rfl,q⟩:=b;obtain⟨t,rfl⟩:=a;exact⟨some i,H1,d,.int i t,q⟩
def Rm(X:Cx)(r:V->Option Int->Option Int->Hp->VK->Prop):Prop:=
 ∀ (pins:WU) (s:WW) (σ:St) (H:Hp) (x:V) (v vl vu:J1) (lo hi:Option Int) (sl:J2) (Q:VK),Jb X pins σ H s->Jg x v->s.heap.IsSliceOf sl vl vu .none->IsPart vl lo->IsPart vu hi->r x lo hi H Q->
  ∃T id,typeLookup (.type T) "__getitem__"=pure (some (.builtin id))/\s.TypeIs v T/\wpAny (model X.prog X.w) X.A (getItem v (.ref sl)) (EP X pins σ Q) X.xe s
def FP(r:V->Option Int->Option Int->Hp->VK->Prop)(te:TE)(tl th:TO):TE:=fun σ H Q=>te σ H fun x H1=>tl σ H1 fun l H2=>th σ H2 fun u H3=>r x l u H3 Q
theorem Lk{r:V->Option Int->Option Int->Hp->VK->Prop}(hr:Rm X r)(he:PE X e te)(hl:PO X lo tl)(hu:PO X hi th):PE X (.Subscript e (.Slice lo hi none p2) pos) (FP r te tl th):=by
 intro pins s σ H Q I h;refine Subscript_ (Jr (he pins s σ H _ I h) fun v i ⟨x,H1,I1,j,p⟩=>?_);refine wpAny_Slice (Jr (hl pins i σ H1 _ I1 p) fun d g ⟨l,H2,I2,pl,o⟩=>Jr (hu pins g σ H2 _ I2 o) fun c a ⟨u,f,I3,z,n⟩=>?_);rw[evalPart_none];refine Y2 ?_;have I4:Jb X pins σ f {a with heap:=a.heap.push {cls:=.type "slice",data:=.fields #[d,c,.none]}}:=I3.kept (t':=a.toks) fun b ob q=>Y8 _ q
 obtain⟨T,id,hT,ht,hg⟩:=hr pins {a with heap:=a.heap.push {cls:=.type "slice",data:=.fields #[d,c,.none]}} σ f x v d c l u a.heap.objs.size Q I4 j (Heap.IsSliceOf.new ..) pl z n;show wpAny (model X.prog X.w) X.A (subscriptTail e (.Slice lo hi none p2) v (.ref a.heap.objs.size)) (EP X pins σ Q) X.xe {a with heap:=a.heap.push {cls:=.type "slice",data:=.fields #[d,c,.none]}};exact tail_any (ops:=[.ref a.heap.objs.size,v]) ht hT hg (by with_unfolding_all rfl)
def Dz(xs:List V)(lo hi:Option Int):List V:=(xs.drop (HT.sIx xs.length 0 lo)).take (HT.sIx xs.length xs.length hi - HT.sIx xs.length 0 lo)
theorem QO(xs:List V)(lo hi:Option Int):(Dz xs lo hi).length <=xs.length:=by
 unfold Dz;rw[Ym,X2]
 lia
end
def Gp(n:Nat)(i:Int):Option Nat:=if 0 <=i then(if i < n then some i.toNat else none) else if -(n:Int) <=i then some (i+ n).toNat else none
def Dj{α:Type}(xs:List α)(i:Int):Option α:=(Gp xs.length i).bind fun j=>xs[j]?
theorem PF{n:Nat}{i:Int}{j:Nat}(h:Gp n i=some j):seqIndex? i n=some j/\j < n/\ -(n:Int) <=i/\i < n:=by
 unfold Gp at h
 by_cases h0:0 <=i
 .rw[Y3 h0]at h
  by_cases h1:i < n
  .rw[Y3 h1]at h;have e:i.toNat=j:=Yr h;exact⟨by rw[seqIndex_of h0 h1,e],by lia,by lia,h1⟩
  .rw[Y1 h1]at h;cases h
 .rw[Y1 h0]at h
  by_cases h1: -(n:Int) <=i
  .rw[Y3 h1]at h;have e:(i+ n).toNat=j:=Yr h;exact⟨by rw[seqIndex_neg (by lia) h1,e],by lia,h1,by lia⟩
  .rw[Y1 h1]at h;cases h
theorem Lw{α:Type}{xs:List α}{i:Int}{v:α}(h:Dj xs i=some v):∃j,seqIndex? i xs.length=some j/\xs[j]?=some v/\j < xs.length/\ -(xs.length:Int) <=i/\i < xs.length:=by
 unfold Dj at h;cases e:Gp xs.length i with
 |none=>rw[e]at h;cases h
 |some j=>
  rw[e]at h;obtain⟨h1,h2,b,a⟩:=PF e;exact⟨j,h1,h,h2,b,a⟩
theorem Bv{α:Type}{xs:List α}{j:Nat}{v:α}(h:xs[j]?=some v):Dj xs (j:Int)=some v:=by
 have a:j < xs.length:=(Y6.mp h).1;have e:Gp xs.length (j:Int)=some j:=by
  unfold Gp;rw[Y3 (by lia),Y3 (by lia)];simp
 unfold Dj;rw[e];exact h
def Kf(b:J7):Prop:=∀o i,subscripted b false o i=operate [o,i] (getItem o i)
def Gk(X:Cx)(r:R2):Prop:=
 ∀ (value slice:J7) (pins:WU) (s:WW) (σ:St) (H:Hp) (x y:V) (v u:J1) (Q:VK),Jb X pins σ H s->Jg x v->Jg y u->r x y H Q->
  subscripted slice false v u=operate [v,u] (getItem v u)->wpAny (model X.prog X.w) X.A (subscriptTail value slice v u) (EP X pins σ Q) X.xe s
def AB(X:Cx)(id:String)(r:V->List V->Hp->VK->Prop):Prop:=
 ∀ (pins:WU) (s:WW) (σ:St) (H:Hp) (x:V) (xs:List V) (v:J1) (us:J5) (Q:VK),Jb X pins σ H s->Jg x v->Jd xs us->r x xs H Q->
  wpAny (model X.prog X.w) X.A (call (.builtin id) (v::us)) (EP X pins σ Q) X.xe s
section
variable{X:Cx}{a b:J7}{ta tb:TE}{pos:Pos}
theorem FS{r:R2}(hr:Gk X r)(ha:PE X a ta)(hb:PE X b tb)(hs:Kf b):PE X (.Subscript a b pos) (Gi r ta tb):=by
 intro pins s σ H Q I h;exact Subscript_ (IS ha hb I h fun v u c x y H2 d rx ry q=>hr a b pins c σ H2 x y v u Q d rx ry q (hs _ _))
def Bc(K:J0):R2:=fun x y H Q=>∃p xs i v,x= .ref p/\y= .int i/\Je K H p xs/\Dj xs i=some v/\Q v H
def B8(K:J0):R2:=fun x y H Q=>∃p xs i v,x= .ref p/\y= .int i/\JV K H p xs/\Dj xs i=some v/\Q v H
theorem QV:Gk X (Bc X.K):=by
 intro value l pins s σ H x y v u Q I rx ry h f;obtain⟨p,xs,i,z,rfl,rfl,n,he,q⟩:=h;cases rx;obtain⟨t,rfl⟩:=ry;obtain⟨e,r,b,hz⟩:=I.list n;obtain⟨j,h1,h2,h3,h4,h5⟩:=Lw he;obtain⟨w,g,d⟩:=r.get h2;have o:=r.length;have hn:=BL;have a:EP X pins σ Q w s:=⟨z,H,I,d,q⟩
 by_cases h0:0 <=i
 .have c:i.toNat=j:=by
   rw[seqIndex_of h0 h5]at h1;exact Yr h1
  exact item_listR b.isList h0 (by lia) (by rw[c];simpa using g) a f
 .have c:(i+ (e.toArray.size:Int)).toNat=j:=by
   rw[seqIndex_neg (by lia) h4]at h1;rw[Yc,<-o];exact Yr h1
  exact subscriptTail_builtinR (x:=w) b.isList.typeIs slot_list_getitem.lookup
   (wpAny_getItem_list_neg (Q:=fun r s'=>r=w/\EP X pins σ Q r s') b.isList (by lia) (by rw[Yc] <;> lia) (by lia) (by rw[c];simpa using g) ⟨rfl,a⟩) f
theorem QP:Gk X (B8 X.K):=by
 intro value d pins s σ H x y v u Q I rx ry h e;obtain⟨p,xs,i,z,rfl,rfl,f,l,q⟩:=h;cases rx;obtain⟨t,rfl⟩:=ry;obtain⟨o,r,b,hz⟩:=I.tuple f;obtain⟨j,h1,h2,h3,h4,h5⟩:=Lw l;obtain⟨w,n,a⟩:=r.get h2;have g:=r.length;have hn:=BL;have c:EP X pins σ Q w s:=⟨z,H,I,a,q⟩;exact subscriptTail_builtinR (x:=w) b.typeIs slot_tuple_getitem.lookup
  (getItem_tuple (j:=j) (Q:=fun r s'=>r=w/\EP X pins σ Q r s') b (by lia) (by lia) (by rw[Yc,<-g];exact h1) (by simpa using n) ⟨rfl,c⟩) e
theorem nZ(its:J5)(n j:Nat)(u:J1):Obj.mapSeq (·.setIfInBounds j u) {cls:=.type "list",data:=.seq its.toArray n}={cls:=.type "list",data:=.seq (its.set j u).toArray n}:=by
 simp[Obj.mapSeq]
theorem Jb.lst{pins:WU}{σ:St}{H:Hp}{s:WW}{p:J2}{xs:List V}(I:Jb X pins σ H s)(h:H p=some (.lst xs)):
  ∃ (its:J5) (n:Nat),Jd xs its/\s.heap.get? p=some {cls:=.type "list",data:=.seq its.toArray n}/\xs.length <=sizeLine:=by
 obtain⟨z,its,n,r,e⟩:=I.hok p _ h;exact⟨its,n,r,e,z⟩
theorem Jb.lstUpd{pins:WU}{σ:St}{H:Hp}{s:WW}{p:J2}{xs ys:List V}{its its':J5}{n n':Nat}{f:Obj->Obj}(I:Jb X pins σ H s)(h:H p=some (.lst xs))
  (ho:s.heap.get? p=some {cls:=.type "list",data:=.seq its.toArray n}) (hf:f {cls:=.type "list",data:=.seq its.toArray n}={cls:=.type "list",data:=.seq its'.toArray n'}) (r:Jd ys its') (hz:ys.length <=sizeLine) (t:Nat):
  Jb X pins σ (upd H p (.lst ys)) {s with heap:=s.heap.update p f,toks:=t}:=by
 have e:(s.heap.update p f).get? p=some {cls:=.type "list",data:=.seq its'.toArray n'}:=by
  rw[YQ f ho (by rw[hf] <;> rfl),hf]
 refine I.write (x:=p) (e:=p) (by rw[h];trivial) (.inl rfl) (fun b u a q=>(Heap.get?_update_other _ _ (Ne.symm a)).trans q) ⟨_,e⟩ ?_;exact⟨hz,its',n',r,e⟩
def Fs:V->V->V->Hp->(Hp->Prop)->Prop:=fun o i v H Q=>∃p xs k j,o= .ref p/\i= .int k/\H p=some (.lst xs)/\Gp xs.length k=some j/\Q (upd H p (.lst (xs.set j v)))
theorem GB:DS X Fs:=by
 intro pins s σ H o i v ov iv u Q I z ri w h;obtain⟨p,xs,k,j,rfl,rfl,e,hj,q⟩:=h;cases z;obtain⟨t,rfl⟩:=ri;obtain⟨a,n,r,b,hz⟩:=I.lst e;obtain⟨h1,h2,g,f⟩:=PF hj;have c:=r.length;have hn:=BL;have l:Jb X pins σ (upd H p (.lst (xs.set j v))) {s with heap:=s.heap.update p (Obj.mapSeq (·.setIfInBounds j u))}:=
  I.lstUpd e b (nZ a n j u) (r.set w j) (by rw[Vy];exact hz) s.toks
 by_cases h0:0 <=k
 .have d:k.toNat=j:=by
   rw[seqIndex_of h0 f]at h1;exact Yr h1
  exact W.ki_setAt b h0 (by lia) (by rw[Yc,<-c];exact f) (by rw[d];exact⟨_,l,q⟩)
 .have d:(k+ (a.toArray.size:Int)).toNat=j:=by
   rw[seqIndex_neg (by lia) g]at h1;rw[Yc,<-c];exact Yr h1
  exact W.ki_setBack b (by lia) (by rw[Yc,<-c];exact g) (by lia) (by rw[d];exact⟨_,l,q⟩)
theorem ZH(lo hi:Option Int)(n:Nat):(sliceBounds lo hi none n).1=((HT.sIx n 0 lo:Nat):Int)/\(sliceBounds lo hi none n).2.1=((HT.sIx n n hi:Nat):Int)/\(sliceBounds lo hi none n).2.2=1:=by
 refine⟨?_,?_,rfl⟩
 .cases lo with
  |none=>simp[sliceBounds,HT.sIx]
  |some i=>
   simp only[sliceBounds,HT.sIx,Option.getD_none,show(1:Int) > 0 by decide,if_true]
   by_cases h:i < 0
   .simp only[h,if_true] <;> lia
   .simp only[h,if_false] <;> lia
 .cases hi with
  |none=>simp[sliceBounds,HT.sIx]
  |some i=>
   simp only[sliceBounds,HT.sIx,Option.getD_none,show(1:Int) > 0 by decide,if_true]
   by_cases h:i < 0
   .simp only[h,if_true] <;> lia
   .simp only[h,if_false] <;> lia
theorem ZO(its:J5)(lo hi:Option Int):slicePick its.toArray lo hi none=((its.drop (HT.sIx its.length 0 lo)).take (HT.sIx its.length its.length hi - HT.sIx its.length 0 lo)).toArray:=by
 obtain⟨h1,h2,a⟩:=ZH lo hi its.toArray.size;unfold slicePick;rw[h1,h2,a];simp only[sliceRange_one,pick_run,Yc] <;> rfl
def C4(K:J0):V->Option Int->Option Int->Hp->VK->Prop:=fun x lo hi H Q=>∃a xs,x= .ref a/\Je K H a xs/\∀p,H p=none->Q (.ref p) (upd H p (.lst (Dz xs lo hi)))
theorem yN:Rm X (C4 X.K):=by
 intro pins s σ H x v p n lo hi u Q I rx j f e h;obtain⟨a,xs,rfl,i,q⟩:=h;cases rx;obtain⟨l,r,d,g⟩:=I.list i;have c:=r.length;refine⟨"list",_,slot_list_getitem.lookup,d.isList.typeIs,?_⟩;refine wpAny_getItem_list_slice d.isList j f e .none (by simp) ?_ (by rw[Yc] <;> lia);rw[ZO,<-c];refine⟨.ref s.heap.objs.size,_,I.laid (t':=s.toks) (o:=.lst (Dz xs lo hi)) (fun b w q=>Y8 _ q) (Y7 _) ?_,rfl,q _ (I.hok.fresh (Y7 _))⟩;exact⟨YT (QO xs lo hi) g,_,0,(r.drop (HT.sIx xs.length 0 lo)).take (HT.sIx xs.length xs.length hi - HT.sIx xs.length 0 lo),Yh _ rfl⟩
def RF:V->Bool
 | .non=>true
 | .bl _=>true
 | .int _=>true
 | .str _=>true
 |_=>false
def Ri:V->V->Bool
 | .non,.non=>true
 | .bl a,.bl b=>a==b
 | .bl a,.int b=>(if a then 1 else 0)==b
 | .int a,.bl b=>a==(if b then 1 else 0)
 | .int a,.int b=>a==b
 | .str a,.str b=>a==b
 |_,_=>false
theorem nF{A:WY}{s:WW}{y x:V}{u v:J1}(ry:Jg y u)(rx:Jg x v)(fy:RF y=true)(fx:RF x=true):SeqAt.EqAt A s u v (Ri y x):=by
 cases y with
 |non=>
  cases ry;cases x with
  |non=>cases rx;exact SeqAt.EqAt.same _
  |bl b=>cases rx;exact SeqAt.EqAt.none_bool b
  |int b=>obtain⟨t,rfl⟩:=rx;exact SeqAt.EqAt.none_int b t
  |str b=>obtain⟨t,rfl⟩:=rx;exact SeqAt.EqAt.none_str b t
  |_=>exact absurd (show false=true from fx) Yi
 |bl a=>
  cases ry;cases x with
  |non=>cases rx;exact SeqAt.EqAt.bool_none a
  |bl b=>cases rx;exact SeqAt.EqAt.bool_bool a b
  |int b=>obtain⟨t,rfl⟩:=rx;exact SeqAt.EqAt.bool_int a b t
  |str b=>obtain⟨t,rfl⟩:=rx;exact SeqAt.EqAt.bool_str a b t
  |_=>exact absurd (show false=true from fx) Yi
 |int a=>
  obtain⟨c,rfl⟩:=ry;cases x with
  |non=>cases rx;exact SeqAt.EqAt.int_none a c
  |bl b=>cases rx;exact SeqAt.EqAt.int_bool a c b
  |int b=>obtain⟨t,rfl⟩:=rx;exact SeqAt.EqAt.int_int a c b t
  |str b=>obtain⟨t,rfl⟩:=rx;exact SeqAt.EqAt.int_str a c b t
  |_=>exact absurd (show false=true from fx) Yi
 |str a=>
  obtain⟨c,rfl⟩:=ry;cases x with
  |non=>cases rx;exact SeqAt.EqAt.str_none a c
  |bl b=>cases rx;exact SeqAt.EqAt.str_bool a c b
  |int b=>obtain⟨t,rfl⟩:=rx;exact SeqAt.EqAt.str_int a c b t
  |str b=>obtain⟨t,rfl⟩:=rx;exact SeqAt.EqAt.str_str a c b t
  |_=>exact absurd (show false=true from fx) Yi
 |_=>exact absurd (show false=true from fy) Yi
def Rn(x:V)(u:J1):Bool:=match u with
 | .none=>Ri .non x
 | .bool b=>Ri (.bl b) x
 | .int i _=>Ri (.int i) x
 | .str z _=>Ri (.str z) x
 |_=>false
theorem Px{x y:V}{u:J1}(r:Jg y u)(f:RF y=true):Rn x u=Ri y x:=by
 cases y with
 |non=>cases r;rfl
 |bl b=>cases r;rfl
 |int i=>obtain⟨t,rfl⟩:=r;rfl
 |str z=>obtain⟨t,rfl⟩:=r;rfl
 |_=>exact absurd (show false=true from f) Yi
theorem F0{x:V}:∀{xs:List V} {us:J5},Jd xs us->xs.all RF=true->us.any (Rn x)=xs.any fun y=>Ri y x
 |_,_,.nil,_=>rfl
 |y::xs,u::us,.cons r t,f=>by
  rw[List.all_cons,X8]at f;rw[Uk,Uk,Px r f.1,F0 t f.2]
theorem Im{A:WY}{s:WW}{x:V}{v:J1}(rx:Jg x v)(fx:RF x=true):∀{xs:List V} {us:J5},Jd xs us->xs.all RF=true->∀u∈us,SeqAt.EqAt A s u v (Rn x u)
 |_,_,.nil,_=>fun u hu=>by cases hu
 |y::xs,u::us,.cons r t,f=>fun u' hu=>by
  rw[List.all_cons,X8]at f;rcases Yp.mp hu with rfl|hu
  .rw[Px r f.1];exact nF r rx f.1 fx
  .exact Im rx fx t f.2 u' hu
def EI(x:V)(xs:List V):Bool:=xs.any fun y=>Ri y x
def LZ(K:J0)(neg:Bool):R2:=fun x y H Q=>∃p xs,y= .ref p/\(Je K H p xs\/JV K H p xs)/\RF x=true/\xs.all RF=true/\Q (.bl (if neg then !EI x xs else EI x xs)) H
theorem n6:JW X (compareOp .In) (LZ X.K false):=by
 intro pins s σ H x y v u Q I rx ry h;obtain⟨p,xs,rfl,b,e,fs,q⟩:=h;cases ry;rcases b with b|b
 .obtain⟨a,r,c,f⟩:=I.list b;refine SeqAt.in_listAt (Rn x) c.isList (fun w d=>Im rx e r fs w (by simpa using d)) ⟨.bl _,H,I,rfl,?_⟩;rw[show a.toArray.any (Rn x)=a.any (Rn x) by simp,F0 r fs];exact q
 .obtain⟨a,r,c,f⟩:=I.tuple b;refine SeqAt.in_tupleAt (Rn x) c (fun w d=>Im rx e r fs w (by simpa using d)) ⟨.bl _,H,I,rfl,?_⟩;rw[show a.toArray.any (Rn x)=a.any (Rn x) by simp,F0 r fs];exact q
theorem tG:Jt X (.builtin "len") (fun xs H Q=>∃p ys,xs=[.ref p]/\(Je X.K H p ys\/JV X.K H p ys)/\Q (.int ys.length) H):=by
 intro pins s σ H xs g Q I r h;obtain⟨p,ys,rfl,b,q⟩:=h;obtain⟨u,rfl,rx⟩:=R4 r;cases rx;have i:=BL;rcases b with b|b
 .obtain⟨e,c,d,f⟩:=I.list b;have a:=c.length;exact Calls.call_len_list d.isList (by simp only[Yc] <;> lia) ⟨.int ys.length,H,I.tok _,⟨s.toks+ 1,by rw[Yc,a]⟩,q⟩
 .obtain⟨e,c,d,f⟩:=I.tuple b;have a:=c.length;exact len_tuple d (by simp only[Yc] <;> lia) ⟨.int ys.length,H,I.tok _,⟨s.toks+ 1,by rw[Yc,a]⟩,q⟩
theorem vV:Jt X (.builtin "len") (fun xs H Q=>∃z,xs=[.str z]/\z.length <=sizeLine/\Q (.int z.length) H):=by
 intro pins s σ H xs a Q I r h;obtain⟨z,rfl,b,q⟩:=h;obtain⟨u,rfl,t,rfl⟩:=R4 r;have c:=BL;exact len_str (by lia) ⟨.int z.length,H,I.tok _,⟨_,rfl⟩,q⟩
theorem Sj:Jt X (.type "list") (fun xs H Q=>∃p ys,xs=[.ref p]/\(Je X.K H p ys\/JV X.K H p ys)/\∀l,H l=none->Q (.ref l) (upd H l (.lst ys))):=by
 intro pins s σ H xs us Q I r h;obtain⟨p,ys,rfl,i,q⟩:=h;obtain⟨u,rfl,rx⟩:=R4 r;cases rx;have j:∀ (a:J5),Jd ys a->ys.length <=sizeLine->∀ (h':J6) (d:Nat),(∀b o',s.heap.get? b=some o'->h'.get? b=some o')->
   h'.get? s.heap.objs.size=some {cls:=.type "list",dict:=none,data:=.seq a.toArray d,slots:=#[]}->EP X pins σ Q (.ref s.heap.objs.size) {s with heap:=h'}:=fun a c g h' d f e=>
  ⟨.ref s.heap.objs.size,_,I.laid (t':=s.toks) f (Y7 _) (show Jy X.prog X.w _ h' _ (.lst ys) from⟨g,a,d,c,e⟩),rfl,q _ (I.hok.fresh (Y7 _))⟩
 rcases i with i|i
 .obtain⟨a,c,v,g⟩:=I.list i;have aa:=c.length;obtain⟨o,z,hc,n,hd⟩:=v.isList;exact call_list_seq p (.inl rfl) z hc hd (fun h' d f e=>j a c g h' d f e) (by simp only[Yc] <;> lia)
 .obtain⟨a,c,v,g⟩:=I.tuple i;have aa:=c.length;obtain⟨o,z,hc,n,hd⟩:=v;exact call_list_seq p (.inr rfl) z hc hd (fun h' d f e=>j a c g h' d f e) (by simp only[Yc] <;> lia)
def Br(K:J0)(T:String)(x:V)(H:Hp):Prop:=match x with
 | .str _=>T="str"
 | .int _=>T="int"
 | .ref p=>(T="list"/\∃xs,Je K H p xs)\/(T="tuple"/\∃o,K.lookup p=some o/\o.cls= .type "tuple"/\o.dict=none)\/
   (T="dict"/\((∃kvs,H p=some (.dK kvs))\/∃kvs,H p=some (.dT kvs)))\/(T="set"/\∃S n,H p=some (.set S n))
 |_=>False
theorem OG{pins:WU}{σ:St}{H:Hp}{s:WW}{T:String}{x:V}{v:J1}(I:Jb X pins σ H s)(r:Jg x v)(ty:Br X.K T x H):
  s.TypeIs v T/\∀a,v= .ref a->∃ob,s.heap.get? a=some ob/\ob.dict=none:=by
 cases x with
 |str z=>
  obtain⟨t,rfl⟩:=r;cases (show T="str" from ty);exact⟨typeIs_str s z t,fun _ e=>nomatch e⟩
 |int i=>
  obtain⟨t,rfl⟩:=r;cases (show T="int" from ty);exact⟨typeIs_int s i t,fun _ e=>nomatch e⟩
 |ref p=>
  cases r;rcases ty with⟨rfl,xs,hq⟩|⟨rfl,o,hk,hc,hd⟩|⟨rfl,hk⟩|⟨rfl,S,n,hk⟩
  .obtain⟨f,_,d,_⟩:=I.list hq;refine⟨d.isList.typeIs,fun a e=>?_⟩;cases e;obtain⟨o,n,e,c,hd,_⟩:=d;exact⟨o,e,hd⟩
  .refine⟨⟨o,I.kIn p o hk,hc⟩,fun a e=>?_⟩;cases e;exact⟨o,I.kIn _ o hk,hd⟩
  .have z:∃o,s.heap.get? p=some o/\o.ExactDict:=by
    rcases hk with⟨kvs,hk⟩|⟨kvs,hk⟩
    .obtain⟨_,_,_,_,o,_,_,e,ex,_⟩:=I.hok p _ hk;exact⟨o,e,ex⟩
    .obtain⟨_,_,_,_,o,_,_,e,ex,_⟩:=I.hok p _ hk;exact⟨o,e,ex⟩
   obtain⟨o,e,ex⟩:=z;refine⟨⟨o,e,ex.1⟩,fun a b=>?_⟩;cases b;exact⟨o,e,ex.2.1⟩
  .obtain⟨o,_,_,_,e,ex,_⟩:=I.hok p _ hk;refine⟨⟨o,e,ex.1⟩,fun a b=>?_⟩;cases b;exact⟨o,e,ex.2.1⟩
 |_=>exact False.elim ty
def CN(K:J0)(T:String)(r:V->List V->Hp->VK->Prop)(to:TE):TE:=fun σ H Q=>to σ H fun x H1=>Br K T x H1/\r x [] H1 Q
def AJ(K:J0)(T:String)(r:V->List V->Hp->VK->Prop)(to:TE)(t:TA):TE:=fun σ H Q=>to σ H fun x H1=>Br K T x H1/\t σ H1 fun xs H2=>r x xs H2 Q
variable{o e:J7}{es:List Expr}{to:TE}{t:TA}{name:Str}{apos cpos:Pos}{T id:String}{r:V->List V->Hp->VK->Prop}
theorem vP(pa:PlainAttrs T)(slot:Slot T name id)(hty:typeOf (.builtin id)=pure (.type "method_descriptor"))(hm:AB X id r)(ho:PE X o to)
  (hbase:attributeBase o name X.env (eval o X.env)=eval o X.env:=by rfl) (hline:(apos.endLine==cpos.line)=true:=by rfl):PE X (.Call (.Attribute o name apos) [] [] cpos) (CN X.K T r to):=by
 intro pins s σ H Q I h;refine wpAny_Call_method0_late hbase hline (Jr (ho pins s σ H _ I h) fun v c ⟨x,H1,b,a,ty,d⟩=>?_);obtain⟨h1,h2⟩:=OG b a ty;exact⟨T,id,pa,slot,hty,h1,h2,Calls.callWith_builtin rfl (PySem.evalArgs_none (hm pins c σ H1 x [] v [] Q b a .nil d))⟩
theorem vC(pa:PlainAttrs T)(slot:Slot T name id)(hty:typeOf (.builtin id)=pure (.type "method_descriptor"))(hm:AB X id r)(ho:PE X o to)(ha:PA X (e::es) t)
  (hbase:attributeBase o name X.env (eval o X.env)=eval o X.env:=by rfl)
  (hfew : ((backTo cpos (starEach (e :: es) X.env)).all (fun x => !x.1) && (backToKw cpos (keywordEach [] X.env)).all (fun x => x.1.isSome)
   && decide ((e :: es).length + ([] : List Keyword).length + (if ([] : List Keyword).isEmpty then 0 else 1) < 30)) = true := by rfl)
  (hline:(apos.endLine==cpos.line)=true:=by rfl) (hs:starEach (e::es) X.env=(false,eval e X.env)::starEach es X.env:=by rfl) (hplain:(backTo cpos (starEach es X.env)).any (·.1)=false:=by rfl):
  PE X (.Call (.Attribute o name apos) (e::es) [] cpos) (AJ X.K T r to t):=by
 intro pins s σ H Q I h;refine wpAny_Call_method_late hbase hfew hline rfl (Jr (ho pins s σ H _ I h) fun v g ⟨x,H1,c,a,ty,l⟩=>?_);obtain⟨h1,h2⟩:=OG c a ty;refine⟨T,id,pa,slot,hty,h1,h2,?_⟩;have b:=ha cpos pins g σ H1 _ c l;rw[hs]at b ⊢;refine Calls.callWith_builtin (by show(false||(backTo cpos (starEach es X.env)).any (·.1))=false;rw[hplain] <;> rfl) (Calls.evalArgs_plain ?_);exact Jr b fun d f ⟨vs,H2,n,i,j⟩=>hm pins f σ H2 x vs v d Q n a i j
end
def DY(X:Cx)(id:String)(r:V->List V->Hp->VK->Prop):Prop:=
 ∀ (pins:WU) (s:WW) (σ:St) (H:Hp) (x:V) (xs:List V) (v:J1) (us:J5) (Q:VK),Jb X pins σ H s->Jg x v->Jd xs us->r x xs H Q->
  wpAny (model X.prog X.w) X.A (call (.builtin id) (v::us)) (EP X pins σ Q) X.xe s
theorem Jd.one:∀{x:V} {us:J5},Jd [x] us->∃u,us=[u]/\Jg x u
 |_,_,.cons r .nil=>⟨_,rfl,r⟩
theorem Jd.zero:∀{us:J5},Jd [] us->us=[]
 |_,.nil=>rfl
theorem Jd.dropLast{xs:List V}{us:J5}(h:Jd xs us):Jd xs.dropLast us.dropLast:=by
 induction h with
 |nil=>exact .nil
 |cons r t ih=>
  cases t with
  |nil=>exact .nil
  |cons q t'=>exact .cons r ih
theorem Jd.rep{xs:List V}{us:J5}(h:Jd xs us):∀k:Nat,Jd (List.replicate k xs).flatten (List.replicate k us).flatten
 |0=>.nil
 |k+ 1=>by
  rw[Xf,Xf,YY,YY];exact Jd.append h (Jd.rep h k)
theorem Sv{α:Type}(l:List α):l.eraseIdx (l.length - 1)=l.dropLast:=by
 induction l with
 |nil=>rfl
 |cons a r ih=>
  cases r with
  |nil=>rfl
  |cons b r=>
   have e:(a::b::r).length - 1=((b::r).length - 1)+ 1:=by
    have h1:(a::b::r).length=r.length+ 2:=rfl;have h2:(b::r).length=r.length+ 1:=rfl
    lia
   rw[e,List.eraseIdx_cons_succ,ih]
   all_goals rfl
theorem Ob(its:J5):∀ (k:Nat) (acc:J5),
  List.foldl (fun x1 x2=>x1++x2) acc.toArray (List.replicate k its.toArray)=(acc++(List.replicate k its).flatten).toArray
 |0,acc=>by simp
 |k+ 1,acc=>by
  have e:acc.toArray++its.toArray=(acc++its).toArray:=by simp
  have a:(acc++its)++(List.replicate k its).flatten=acc++(List.replicate (k+ 1) its).flatten:=by
   rw[Xf,YY,List.append_assoc]
  rw[<-a,<-Ob its k (acc++its),<-e,Xf,Um]
section
variable{X:Cx}{pins:WU}{σ:St}{H:Hp}{s:WW}{l b:J2}{xs ys zs:List V}
theorem Jb.lset{its its':J5}{n:Nat}{f:Array Value->Array Value}{t':Nat}(I:Jb X pins σ H s)(hH:H l=some (.lst xs))
  (e:s.heap.get? l=some {cls:=.type "list",data:=.seq its.toArray n}) (hf:f its.toArray=its'.toArray) (hv:Jd ys its') (hz:ys.length <=sizeLine):
  Jb X pins σ (upd H l (.lst ys)) {s with heap:=s.heap.update l (Obj.mapSeq f),toks:=t'}:=by
 have q:=PySem.IsL.update e f;rw[hf]at q;refine I.write (x:=l) (e:=l) (by rw[hH];exact trivial) (.inl rfl) (fun c u b a=>(Heap.get?_update_other s.heap (Obj.mapSeq f) (Ne.symm b)).trans a) ⟨_,q⟩ ?_;exact⟨hz,its',_,hv,q⟩
theorem Jb.lnew{its:J5}{t':Nat}(I:Jb X pins σ H s)(hv:Jd ys its)(hz:ys.length <=sizeLine):
  Jb X pins σ (upd H s.heap.objs.size (.lst ys)) {s with heap:=s.heap.push {cls:=.type "list",data:=.seq its.toArray},toks:=t'}:=
 I.laid (fun _ _ q=>Y8 _ q) (Y7 _) ⟨hz,its,0,hv,Yh _ rfl⟩
theorem Jb.fresh(I:Jb X pins σ H s):H s.heap.objs.size=none:=I.hok.fresh (Y7 _)
theorem Jb.lstM(I:Jb X pins σ H s)(hH:H l=some (.lst xs)):xs.length <=sizeLine/\∃ (its:J5) (n:Nat),Jd xs its/\xs.length=its.length/\s.heap.get? l=some {cls:=.type "list",data:=.seq its.toArray n}:=by
 obtain⟨z,its,n,r,e⟩:=I.hok l _ hH;exact⟨z,its,n,r,r.length,e⟩
theorem yZ{n:Nat}(h:n <=sizeLine):Builtin.List.listTooLong n=false:=by
 unfold Builtin.List.listTooLong;exact Ys (by lia)
end
section
variable{X:Cx}
def IX:V->List V->Hp->VK->Prop:=fun x vs H Q=>∃l xs y,x= .ref l/\vs=[y]/\H l=some (.lst xs)/\xs.length < sizeLine/\Q .non (upd H l (.lst (xs++[y])))
theorem DR:DY X "list.append" IX:=by
 intro pins s σ H x vs v d Q I rx c h;obtain⟨l,xs,y,rfl,rfl,b,f,q⟩:=h;cases rx;obtain⟨u,rfl,ru⟩:=c.one;obtain⟨z,a,n,r,g,e⟩:=I.lstM b;refine W1 F.slot_list_append ⟨_,e,rfl⟩ F.entry_list_append (F.args_list_append_2 _ _) (PySem.list_append l a.toArray n u (by rw[Yc];lia)) ⟨e,?_⟩;refine⟨.non,_,I.lset (its':=a++[u]) b e (by simp) (r.append (.cons ru .nil)) ?_,rfl,q⟩;rw[List.length_append,UA]
 lia
def QA:V->List V->Hp->VK->Prop:=fun x vs H Q=>∃l xs y,x= .ref l/\vs=[]/\H l=some (.lst xs)/\xs[xs.length - 1]?=some y/\Q y (upd H l (.lst xs.dropLast))
theorem E2:DY X "list.pop" QA:=by
 intro pins s σ H x vs v o Q I rx f h;obtain⟨l,xs,y,rfl,rfl,d,g,q⟩:=h;cases rx;have c:=f.zero;subst c;obtain⟨z,a,n,r,j,e⟩:=I.lstM d;obtain⟨u,i,ru⟩:=r.get g;have b:a.toArray[a.toArray.size - 1]?=some u:=by
  show a.toArray[a.length - 1]?=some u;rw[<-Array.getElem?_toList,<-j];exact i
 refine W1 F.slot_list_pop ⟨_,e,rfl⟩ F.entry_list_pop (F.args_list_pop_1 _) (MeetsSeq.list_pop_last l a.toArray n u b (by rw[Yc];lia)) ⟨e,?_⟩;refine⟨y,_,I.lset (its':=a.dropLast) d e ?_ r.dropLast ?_,ru,q⟩
 .show a.toArray.eraseIdxIfInBounds (a.toArray.size - 1)=a.dropLast.toArray;rw[Yc,List.eraseIdxIfInBounds_toArray,Sv]
 .rw[Vz]
  lia
def vB:V->List V->Hp->VK->Prop:=fun x vs H Q=>∃l xs,x= .ref l/\vs=[]/\H l=some (.lst xs)/\Q .non (upd H l (.lst []))
theorem Gv:DY X "list.clear" vB:=by
 intro pins s σ H x vs v f Q I rx d h;obtain⟨l,xs,rfl,rfl,c,q⟩:=h;cases rx;have b:=d.zero;subst b;obtain⟨z,a,n,r,g,e⟩:=I.lstM c;refine W1 F.slot_list_clear ⟨_,e,rfl⟩ F.entry_list_clear (F.args_list_clear_1 _) (AutoSeq1.list_clear_list_0 l a.toArray n (by rw[Yc];lia)) ⟨e,?_⟩;exact⟨.non,_,I.lset (its':=[]) (ys:=[]) c e rfl .nil (Yv _),rfl,q⟩
def FI:R2:=fun x y H Q=>∃l b xs zs,x= .ref l/\y= .ref b/\H l=some (.lst xs)/\H b=some (.lst zs)/\xs.length+ zs.length <=sizeLine/\∀p,H p=none->Q (.ref p) (upd H p (.lst (xs++zs)))
theorem RY:JW X (binaryOp .Add) FI:=by
 intro pins s σ H x y v u Q I rx ry h;obtain⟨l,b,xs,zs,rfl,rfl,f,g,hz,q⟩:=h;cases rx;cases ry;obtain⟨z,c,n,r,hl,e⟩:=I.lstM f;obtain⟨p,a,w,d,o,j⟩:=I.lstM g;refine PySem.P.add_list e j ?_ (by rw[Yc,Yc];lia);have i:c.toArray++a.toArray=(c++a).toArray:=by simp
 rw[i];exact⟨.ref _,_,I.lnew (t':=s.toks) (r.append d) (by rw[List.length_append];lia),rfl,q _ I.fresh⟩
def nH:R2:=fun x y H Q=>∃l k xs,x= .ref l/\y= .int k/\H l=some (.lst xs)/\ -(2 ^ 63) <=k/\k < 2 ^ 63/\xs.length*k.toNat <=sizeLine/\
 ∀p,H p=none->Q (.ref p) (upd H p (.lst (List.replicate k.toNat xs).flatten))
theorem wP{α:Type}(xs:List α)(k:Nat):(List.replicate k xs).flatten.length=k*xs.length:=by
 induction k with
 |zero=>simp
 |succ k ih=>rw[Xf,YY,List.length_append,ih,Nat.succ_mul,Nat.add_comm]
theorem Ea:JW X (binaryOp .Mult) nH:=by
 intro pins s σ H x y v u Q I rx ry h;obtain⟨l,k,xs,rfl,rfl,hH,h1,h2,p,q⟩:=h;cases rx;obtain⟨t,rfl⟩:=ry;obtain⟨z,b,n,r,w,e⟩:=I.lstM hH;have i:b.toArray.size*k.toNat <=sizeLine:=by rw[Yc,<-w];exact p
 have o:¬b.toArray.size*k.toNat > (2 ^ 63 - 1) / 8:=by
  have:(sizeLine:Nat) <=(2 ^ 63 - 1) / 8:=by decide
  lia
 have j:¬(!Builtin.List.listFitsIndex k)=true:=by
  rw[fitsIndex_both h1 h2];exact Yi
 have c:¬Builtin.List.listTooLong (b.toArray.size*k.toNat)=true:=by
  rw[yZ i];exact Yi
 have g:List.foldl (fun f d=>f++d) #[] (List.replicate (if b.toArray.isEmpty=true then 0 else k.toNat) b.toArray)=(List.replicate k.toNat b).flatten.toArray:=by
  have f0:∀m:Nat,List.foldl (fun f d=>f++d) #[] (List.replicate m b.toArray)=(List.replicate m b).flatten.toArray:=fun m=>by
   have:=Ob b m [];rw[List.nil_append]at this;exact this
  rw[f0];cases b with
  |nil=>simp
  |cons a r'=>rw[Y1 (by simp)]
 refine wpAny_binaryOp_repeat_ref (T:="list") (U:="int") (by decide) ⟨_,e,rfl⟩ (fun s'=>typeIs_int s' k t) noFill_list_mul F.fills_int_mul F.slot_int_rmul repeat_list F.slot_int_index.lookup
  (W1 F.slot_int_rmul (typeIs_int s k t) F.entry_int_rmul (F.args_int_rmul_2 _ _) (int___rmul___int_list k t l b.toArray n)
   ⟨e, rfl, ⟨_, e, rfl⟩, W1 F.slot_list_mul ⟨_, e, rfl⟩ F.entry_list_mul (F.args_list_mul_2 _ _) (AutoListH.list___mul___list_int_3 l b.toArray n k t j o c) ⟨e, ?_⟩⟩)
 rw[g];exact⟨.ref _,_,I.lnew (t':=s.toks) (r.rep k.toNat) (by rw[wP,Nat.mul_comm];exact p),rfl,q _ I.fresh⟩
end
end L2
namespace Att
open PySem PySem.W PySem.Calls PyProof.Rows
theorem wB{P:Params}{h:J6}:∀ (ns:J3) (vs:J5),WellAll P h vs (ns.map WData.int)->IntsAre vs ns:=by
 intro ns
 induction ns with
 |nil=>
  intro vs w;rw[List.map_nil]at w;cases w;exact .nil
 |cons n ns ih=>
  intro vs w;rw[List.map_cons]at w;cases w with
  |cons a b=>
   cases a;exact .cons _ _ (ih _ b)
theorem Qi{l:OpenLaw}{n:Nat}(hn:l.most=some n){P:Params}{h:J6}{args:List WData}{vals:J5}
  (hpre:l.row.toRowW.claim.pre args=true) (hwl:WellAll P h vals args):
  ∃a vs ns,vals=[Value.ref a]/\args=[WData.list (ns.map WData.int)]/\h.get? a=some {cls:=.type "list",data:=.seq vs.toArray}/\IntsAre vs ns/\ns.length <=n:=by
 have f:WShape.hasAll [] args [.list .int]=true:=(pre_splitW hpre).1;have g:l.pre.holds [] {args:=args}=true:=(pre_splitW hpre).2;obtain⟨d,r,rfl,h1,h2⟩:=hasAllW_cons f;obtain rfl:=hasAllW_nil h2;obtain⟨xs,rfl,j⟩:=hasW_list h1;obtain⟨ns,rfl⟩:=items_int j;have e:ns.length <=n:=by
  unfold OpenLaw.pre at g;have c:(WTm.not (.lt (.lit (.int (n:Int))) (.len (.arg 0)))).holds [] {args:=[.list (ns.map .int)]}=true:=by
   have c:=(holds_andW g).1;rw[hn]at c;exact c
  have b:=condW_of c (w_not (w_lt w_lit (w_len_list (w_arg rfl))));rw[Y4]at b;refine Nat.le_of_not_lt fun q=>?_
  have i:(n:Int) < ((ns.length:Nat):Int):=by lia
  first
   |(rw[Yk i]at b;exact absurd b (by decide))
   |(simp at b;lia)
 cases hwl with
 |cons w1 w2=>
  cases w2;cases w1 with
  |list ho hall=>exact⟨_,_,ns,rfl,rfl,ho,wB ns _ hall,e⟩
theorem Zv(l:OpenLaw)(args:List WData):l.row.toRowW.claim.post args (.bool true) args=true:=
 postW_of (r:=l.row.toRowW) (X:=(true==true))
  (show WShape.has [] (.bool true) .bool=true by first|rfl|decide|simp[WShape.has,WShape.arms,WShape.armsAll])
  (show(WTm.eq .res (.lit (.bool true))).value [] {args:=args,res:=some (.bool true),after:=args}=some (.bool (true==true)) from w_eq_bool (w_res rfl) w_lit) rfl
theorem attach_call{l:OpenLaw}{n:Nat}{q:WV}{loose:List Str}{XP:(Str->Option Value)->Heap->Prop}{YP:World->Heap->Prop}{d:DefRec}
  (hn:l.most=some n) (hdf:d.params.defaults=[])
  (call : ∀ (w : World) (s₀ s₁ : Shared) (mg mb : Str -> Option Value) (fa : Addr) (o : Obj) (pm cd doc : Value) (a : Addr) (vs : List Value) (ns : List Int),
   Ground q loose [] XP w s₀ mg mb s₁.heap->YP w s₁.heap->
   s₁.heap.get? fa=some o->o.data= .func (docDef d.name d.params d.body d.scope pm cd doc)->s₁.heap.CodeRec cd d.name->mg d.name=some (.ref fa)->
   s₁.heap.get? a=some {cls:=.type "list",data:=.seq vs.toArray}->IntsAre vs ns->ns.length <=n->s₁.gens=#[]->
   codeAny (model l.prog w) callerA (.call (.ref fa) ⟨[.ref a], []⟩) (fun r s' => r = .ok (.ret (.bool true)) /\ OldK s₁.heap s'.heap /\ s'.os = s₁.os /\ AllBare s'.gens) s₁) :
  WalkO q loose XP YP l.row.toRowW d [] (fun f vs=>PySem.call f vs):=by
 intro w s₀ s₁ mg mb G Y fa o pm cd doc dV kV v hd j p i hg args s as c aa hrd h hlo;obtain rfl:dV= .none:=Dflts.none p hdf;obtain rfl:kV= .none:=Dflts.noKw p;obtain⟨a,vs,ns,rfl,rfl,e,b,g⟩:=Qi hn c h;refine enter_call (U9 (call w s₀ s₁ mg mb fa o pm cd doc a vs ns G Y v (fd_plain hd) j i e b g hg) fun r s' u=>?_);obtain⟨rfl,h2,h3,h4⟩:=u;exact⟨.inl ⟨.bool true,.bool true,[],rfl,fun _=>rfl,.bool true,Zv l _,fun _=>⟨List.Pairwise.nil,fun _ z=>(nomatch z)⟩⟩,h2,h3,h4⟩
section
variable{prog:WV}{w:WZ}{A:WY}{E:WR}{s:WW}{K:Frag}
def IV(h:J6)(L d:J2):List (Addr×Obj):=(List.range h.objs.size).filterMap fun a=>if a=L\/a=d then none else(h.get? a).map fun o=>(a,o)
end
end Att
namespace L2
open PySem PySem.Spec PyProof.Rows
theorem P7:∀{vs:J5} {ns:J3},IntsAre vs ns->Jd (ns.map V.int) vs
 |_,_,.nil=>.nil
 |_,_,.cons n t h=>.cons ⟨t,rfl⟩ (P7 h)
def FR(H:Hp):Prop:=∀b,H b=none\/∃o xs,H b=some (.frz o (.lst xs))
theorem j6{P:WV}{w:WZ}{K:J0}{mg mb:WQ}{CX:Gn}{k:Nat}{fa a:J2}{fd:WX}{x:Str}{sp:Sp}{s₁:WW}{vs:J5}{ns:J3}
  (KX:K.In s₁.heap) (hns:s₁.heap.Ns mainGlobals mg) (hb:s₁.heap.Ns builtinsNs mb) (hbb:∀x:Str,x≠"__name__"->mb x=bootBuiltins x) (hlim:s₁.heap.NoLimit) (hg:s₁.gens=#[])
  (ha:s₁.heap.get? a=some {cls:=.type "list",data:=.seq vs.toArray}) (hi:IntsAre vs ns) (hl:ns.length <=sizeLine) (hr:Ju k callerA)
  (F:∀base:Heap,K.In base->base.Ns mainGlobals mg->Ji P w K mg base CX k fa fd [x] sp) (hbind:∀ (s:WW) (u:J1),BindsTo s fd ⟨[u],[]⟩ [(x,u)])
  (hsp:∀H:Hp,FR H->Je K H a (ns.map V.int)->sp [.ref a] H (fun v _=>v= .bl true) fun _ _ _=>False)
  (hCX:∀H e s',CX [] H s₁ (fun _ _ _=>False) e s'->False):
  codeAny (model P w) callerA (.call (.ref fa) ⟨[.ref a],[]⟩) (fun r s'=>r= .ok (.ret (.bool true))/\OldK s₁.heap s'.heap/\s'.os=s₁.os/\AllBare s'.gens) s₁:=by
 have rv:=P7 hi;have p:=hi.length
 -- from an abstract heap in which nothing but the script may be tracked
 have i:∀H:Hp,FR H->Je K H a (ns.map V.int)->To P w H s₁.heap->(∀b,H b≠none->b=a)->(H a≠none->K.lookup a=none)->
   codeAny (model P w) callerA (.call (.ref fa) ⟨[.ref a],[]⟩) (fun r s'=>r= .ok (.ret (.bool true))/\OldK s₁.heap s'.heap/\s'.os=s₁.os/\AllBare s'.gens) s₁:=by
  intro H hO hS j hA hK;have c:∀{b:J2} {o:Obj},s₁.heap.get? b=some o->H b=none->(Rq s₁.heap H).get? b=some o:=fun e n=>xW e n
  have noA:∀{b:J2} {o:Obj} {es:Array DictEntry} {ep:Nat},s₁.heap.get? b=some o->o.data= .dict es ep->H b=none:=fun {b o es ep} e d=>by
   cases q:H b with
   |none=>rfl
   |some u=>
    have e':b=a:=hA b (by rw[q];simp);subst e';rw[ha]at e;cases e;have d':Data.seq vs.toArray _=Data.dict es ep:=d;cases d'
  have f:∀{b:J2} {m:WQ},s₁.heap.Ns b m->(Rq s₁.heap H).Ns b m:=fun {b m} ⟨o,es,ep,e,d,r⟩=>⟨o,es,ep,c e (noA e d),d,r⟩
  have l : K.In (Rq s₁.heap H) := fun b o e => c (KX b o e) (by
   cases q:H b with
   |none=>rfl
   |some u=>
    have e' : b = a := hA b (by rw [q]; simp);subst e';rw [hK (by rw [q]; simp)] at e; cases e)
  have hM:Mod K mg (Rq s₁.heap H):=⟨l,f hns,⟨mb,f hb,hbb⟩,let ⟨mc,h1,h2⟩:=hlim;⟨mc,f h1,h2⟩⟩;have e0:Df P w K mg (Rq s₁.heap H) callerA [] s₁ H:=⟨rfl,hM,fun b o e=>x8 e,W8 (Zx _ _),trivial,fun b hb=>absurd (show b∈([]:List Addr) from hb) (by simp),j,.of_eq hg⟩;refine U9 ((F _ l (f hns)).run callerA [] s₁ H ⟨[.ref a],[]⟩ [.ref a] [.ref a] _ _ hr e0 (hbind s₁ (.ref a)) (.cons rfl .nil) (hsp H hO hS)) fun r s' h=>?_
  cases r with
  |error e=>exact(hCX H e s' h).elim
  |ok fl=>
   cases fl with
   |next=>exact False.elim h
   |brk=>exact False.elim h
   |cont=>exact False.elim h
   |ret u=>
    obtain⟨v,H',os,bare,un,aa,r',q⟩:=h;have q':v= .bl true:=q;subst q';obtain rfl:u=Value.bool true:=r';refine⟨rfl,OldK.of_keep fun b o e=>?_,os,bare⟩;cases q:H b with
    |none=>exact un.keep b o e q (by intro z;exact absurd (show b∈([]:List Addr) from z) (by simp)) (by simp)
    |some u=>
     rcases hO b with z|⟨ob,xs,z⟩
     .rw[q]at z;cases z
     .have z2:=un.frzs b ob _ z;obtain⟨e1,_⟩:=j b _ z;obtain⟨e2,_⟩:=aa b _ z2;rw[e]at e1;cases e1;exact e2
 cases hk:K.lookup a with
 |some o=>
  -- the script is one of the module's own objects
  have e:=KX a o hk;rw[ha]at e;cases e;refine i (fun _=>none) (fun _=>.inl rfl) (.inr ⟨_,vs.toArray,_,hk,rfl,rfl,rfl,by rw[Yc,p];exact hl,by simpa using rv⟩) (fun b u z=>by have g:(none:Option HO)=some u:=z;cases g) (fun b z=>absurd rfl z) fun z=>absurd rfl z
 |none=>
  refine i (fun b=>if b=a then some (.frz {cls:=.type "list",data:=.seq vs.toArray} (.lst (ns.map V.int))) else none) (fun b=>?_) (.inl (.inr ⟨{cls:=.type "list",data:=.seq vs.toArray},Y3 rfl⟩)) (fun b u z=>?_) (fun b z=>?_) fun _=>hk
  .by_cases hb:b=a
   .exact .inr ⟨_,_,Y3 hb⟩
   .exact .inl (Y1 hb)
  .by_cases hb:b=a
   .have g:=(Y3 hb).symm.trans z;cases g;subst hb;exact⟨ha,by rw[Y4];exact hl,vs,_,rv,ha⟩
   .have g:=(Y1 hb).symm.trans z;cases g
  .by_cases hb:b=a
   .exact hb
   .exact absurd (Y1 hb) z
theorem AY{l:W.OpenLaw}{n k:Nat}{q:WV}{loose:List Str}{XP:(Str->Option Value)->Heap->Prop}{YP:World->Heap->Prop}{d:DefRec}{K:Params->W.Frag}{CX:World->Gn}{sp:World->Sp}{x:Str}
  (hn:l.most=some n) (hn2:n <=sizeLine) (hdf:d.params.defaults=[]) (hr:Ju k callerA)
  (hY:∀ (w:WZ) (h:J6),YP w h->(K w.params).In h)
  (F : ∀ (w : World) (mg : Str -> Option Value) (fa : Addr) (h : Heap), (K w.params).In h -> h.Ns mainGlobals mg -> mg d.name = some (.ref fa) ->
   ∃fd:FuncData,(∀ (s:WW) (u:J1),BindsTo s fd ⟨[u],[]⟩ [(x,u)])/\
    ∀ base : Heap, (K w.params).In base -> base.Ns mainGlobals mg -> Ji l.prog w (K w.params) mg base (CX w) k fa fd [x] (sp w))
  (hsp:∀ (w:WZ) (H:Hp) (a:J2) (ns:J3),ns.length <=n->FR H->Je (K w.params) H a (ns.map V.int)->sp w [.ref a] H (fun v _=>v= .bl true) fun _ _ _=>False)
  (hCX:∀ (w:WZ) (H:Hp) (s:WW) (e:J1) (s':WW),CX w [] H s (fun _ _ _=>False) e s'->False):
  W.WalkO q loose XP YP l.row.toRowW d [] (fun f vs=>PySem.call f vs):=by
 refine Att.attach_call hn hdf fun w s₀ z mg mb fa o pm cd doc a vs ns G Y ho hd hcd p j i c hg=>?_
 have r:=hY w _ Y;obtain⟨fd,hb,hF⟩:=F w mg fa _ r G.T.g p;exact j6 r G.T.g G.T.b G.T.builtins G.T.nolimit hg j i (YT c hn2) hr hF hb (fun H hO hS=>hsp w H a ns c hO hS) fun H e s'=>hCX w H z e s'
def DV(s:Stmt)(j:Nat):Stmt:=match s with
 | .ClassDef _ _ _ body _ _ _ _ _ _ _=>body.getD j (.Pass ⟨0,0,0,0⟩)
 |_=>.Pass ⟨0,0,0,0⟩
def De(s:Stmt):Arguments:=match s with
 | .FunctionDef _ a _ _ _ _ _ _ _ _=>a
 |_=>{posonlyargs:=[],args:=[],vararg:=none,kwonlyargs:=[],kw_defaults:=[],kwarg:=none,defaults:=[]}
def Jo(s:Stmt):List Stmt:=match s with
 | .FunctionDef _ _ b _ _ _ _ _ _ _=>b
 |_=>[]
def J8(s:Stmt):Scope:=match s with
 | .FunctionDef _ _ _ _ _ _ sc _ _ _=>sc
 |_=>{kind:=.function,names:=[],isGenerator:=false,isCoroutine:=false}
abbrev JN:Gn:=fun _ _ _ _ _ _=>False
abbrev E0:XK:=fun _ _ _=>False
theorem BX{X:Cx}:BE JN X E0:=fun _ _ _ _ _ _ _ h=>h.elim
structure Nk(K:J0)(x qual:Str)(st:Stmt)(f:J2)(fd:WX):Prop where
 ex:∃ (oc:J1) (od:Option Addr) (kV doc pm:J1) (an:Option Addr) (cdv ct:J1) (osl:Array (Option Value)),
  fd=W.fnOf x qual (De st) (Jo st) (J8 st) .none kV doc pm an cdv ct/\K.lookup f=some ⟨oc,od,.func fd,osl⟩/\W.codeIn K cdv qual=true
 kp:W.keepIn K (.ref f)=true
section
variable{P:WV}{w:WZ}{K:J0}{mg:WQ}{base:J6}
theorem Nk.ok{x qual:Str}{st:Stmt}{f:J2}{fd:WX}{N ps:List Str}{k:Nat}{sp:Sp}(F:Nk K x qual st f fd)(S:Ng N ps (J8 st))(len:∀vs H Q E,sp vs H Q E->vs.length=ps.length)
  (hbody : ∀ (cdv : Value) (A : Around) (outer : List Env) (s : Shared) (H : Hp) (vs : List V) (Q : VK) (E : XK), Ju k (A.deeper (envOfC qual (J8 st) s.heap.objs.size f cdv)) -> sp vs H Q E ->
   ∃ t, ME (M0 JN P w K mg base N qual (J8 st) f cdv A outer s H E).nox (Jo st) t /\ t { nx := fun _ H' => Q .non H', rt := Q } (start N vs) H) : Ji P w K mg base JN (k + 1) f fd ps sp := by
 obtain⟨l,j,kV,g,i,n,cdv,ct,e,rfl,c,b⟩:=F.ex;refine EK c b S len fun A outer s H vs Q E d a=>?_
 obtain⟨t,h,q⟩:=hbody cdv A outer s H vs Q E d a;exact⟨t,h.nox,q⟩
theorem Nk.binds{x qual:Str}{st:Stmt}{f:J2}{fd:WX}{ps:List Str}(F:Nk K x qual st f fd)
  (h:∀ (kV doc pm:J1) (an:Option Addr) (cdv ct:J1) (us:J5),us.length=ps.length->bindArgs (W.fnOf x qual (De st) (Jo st) (J8 st) .none kV doc pm an cdv ct) ⟨us,[]⟩=pure (ps.zip us)):Td K fd ps []:=by
 obtain⟨d,c,kV,doc,pm,an,cdv,ct,a,rfl,e,b⟩:=F.ex;exact .all (h kV doc pm an cdv ct)
theorem Hc{x qual:Str}{st:Stmt}{f:J2}{oc:J1}{od an:Option Addr}{osl:Array (Option Value)}{kV doc pm cdv ct:J1}(l:K.lookup f=some ⟨oc,od,.func (W.fnOf x qual (De st) (Jo st) (J8 st) .none kV doc pm an cdv ct),osl⟩)
  (c:W.codeIn K cdv qual=true) (k:W.keepIn K (.ref f)=true):Nk K x qual st f (W.fnOf x qual (De st) (Jo st) (J8 st) .none kV doc pm an cdv ct):=⟨⟨oc,od,kV,doc,pm,an,cdv,ct,osl,rfl,l,c⟩,k⟩
end
theorem Ra{A:WY}{k:Nat}(hr:Ju k A):A.units+ 1 < cLine:=YH (Nat.add_le_add_left (by decide:1 <=64) _) hr.units
section
variable{X:Cx}
theorem pv(i:Nat){x:Str}{pos:Pos}(hN:X.N[i]?=some x:=by rfl)(hv:B0 X.env.scope x:=by first|exact Or.inl rfl|exact Or.inr (Or.inl rfl)|exact Or.inr (Or.inr rfl))(hd:(x==("__debug__":Str))=false:=by decide)
  (hcd:(x==("__classdict__":Str))=false:=by decide):PE X (.Name x pos) (BO i):=uY hN hv hd hcd
end
theorem Ti{c A B:Prop}[Decidable c](h1:c->A)(h2:¬c->B):if c then A else B:=by
 by_cases h:c
 .rw[Y3 h];exact h1 h
 .rw[Y1 h];exact h2 h
def J9(H H':Hp):Prop:=∀b o,H b=some o->H' b=some o
theorem J9.refl(H:Hp):J9 H H:=fun _ _ h=>h
theorem J9.trans{H H1 H2:Hp}(a:J9 H H1)(b:J9 H1 H2):J9 H H2:=fun c o h=>b c o (a c o h)
theorem J9.free{H H':Hp}(e:J9 H H'){l:J2}(h:H' l=Option.none):H l=Option.none:=by
 cases q:H l with
 |none=>rfl
 |some o=>
  rw[e l o q]at h;cases h
end L2
set_option maxHeartbeats 4000000
namespace L2
open PySem PySem.Spec PyProof.Rows
theorem IN{env:Env}:∀ (names:List (Str×NameKind)) (cs:List (Str×Addr)),(∀x,(x,NameKind.free)∈names->∃c,env.cells.lookup x=some c)->
  (∀x c,cs.lookup x=some c->env.cells.lookup x=some c)->
  ∃cl,(forIn names cs fun(p:Str×NameKind) (r:List (Str×Addr))=>(match p with|(name,kind)=>(if(kind==NameKind.free)=true then(do let a <-cellOf env name;pure (ForInStep.yield ((name,a)::r))) else pure (ForInStep.yield r)):Sem (ForInStep (List (Str×Addr)))))=pure cl/\
   (∀x c,cl.lookup x=some c->env.cells.lookup x=some c)/\(∀x,(x,NameKind.free)∈names->∃c,cl.lookup x=some c)/\∀x,(∃c,cs.lookup x=some c)->∃c,cl.lookup x=some c
 |[],cs,_,h2=>⟨cs,rfl,h2,(fun _ h=>nomatch h),fun _ h=>h⟩
 |(n,k)::r,cs,h1,h2=>by
  by_cases hk:k=NameKind.free
  .subst hk;obtain ⟨c, hc⟩ := h1 n YA;obtain ⟨cl, e, a, b, d⟩ := IN r ((n, c) :: cs) (fun x f => h1 x (Yj _ f)) (fun x g f => by
    rw[UF]at f;cases q:x==n with
    |true=>rw[q]at f;cases f;rw[eq_of_beq q];exact hc
    | false => rw [q] at f; exact h2 x g f)
   refine⟨cl,?_,a,fun x f=>?_,fun x ⟨g,f⟩=>?_⟩
   .rw[VA];have:cellOf env n=pure c:=by unfold cellOf;rw[hc]
    simp only[this,XR,if_true];exact e
   .rcases Yp.mp f with z|z
    .cases z;exact d _ ⟨c,by simp[UF]⟩
    .exact b x z
   .refine d x ?_;rw[UF];cases q:x==n with
    |true=>exact⟨c,rfl⟩
    |false=>exact⟨g,f⟩
  .obtain⟨cl,e,a,b,d⟩:=IN r cs (fun x f=>h1 x (Yj _ f)) h2;have i:(k==NameKind.free)=false:=by simpa using hk
   refine⟨cl,?_,a,fun x f=>?_,d⟩
   .rw[VA];simp only[i,Bool.false_eq_true,if_false];exact e
   .rcases Yp.mp f with z|z
    .cases z;exact absurd rfl hk
    .exact b x z
theorem OV{scope:Scope}{env:Env}(h:∀x,(x,NameKind.free)∈scope.names->∃c,env.cells.lookup x=some c):
  ∃cl,closureFor scope env=pure cl/\(∀x c,cl.lookup x=some c->env.cells.lookup x=some c)/\∀x,(x,NameKind.free)∈scope.names->∃c,cl.lookup x=some c:=by
 obtain⟨cl,e,a,b,_⟩:=IN scope.names [] h (fun x c z=>nomatch z);refine⟨cl,?_,a,b⟩;unfold closureFor;show(forIn scope.names [] _ >>=fun d=>pure d)=pure cl;rw[show(forIn scope.names ([]:List (Str×Addr)) _:Sem _)=pure cl from e];rfl
theorem Hv{env:Env}{x:Str}:∀{names:List (Str×NameKind)} {k:NameKind},(names.map fun(n,k)=>if(k==NameKind.free && env.scope.kind== .function && env.kindOf n==some .cell) then(n,NameKind.cell) else(n,k)).lookup x=some k->
  (x,k)∈names\/(k=NameKind.cell/\(x,NameKind.free)∈names)
 |[],_,h=>by simp at h
 |(n,k')::r,k,h=>by
  have ih:=@Hv env x r k;have h':List.lookup x ((if(k'==NameKind.free && env.scope.kind== .function && env.kindOf n==some .cell)=true then(n,NameKind.cell) else(n,k'))::(r.map fun(n,k)=>if(k==NameKind.free && env.scope.kind== .function && env.kindOf n==some .cell) then(n,NameKind.cell) else(n,k)))=some k:=h
  by_cases hc:(k'==NameKind.free && env.scope.kind== .function && env.kindOf n==some .cell)=true
  .rw[Y3 hc,UF]at h';cases q:x==n with
   |true=>
    rw[q]at h';have e:NameKind.cell=k:=Yr h';have a:k'=NameKind.free:=by
     have:=(X8 _ _▸(X8 _ _▸hc).1).1;exact eq_of_beq this
    have ex:x=n:=eq_of_beq q;subst a ex;exact .inr ⟨e.symm,YA⟩
   |false=>
    rw[q]at h';rcases ih h' with z|⟨z1,z2⟩
    .exact .inl (Yj _ z)
    .exact .inr ⟨z1,Yj _ z2⟩
  .rw[Y1 hc,UF]at h';cases q:x==n with
   |true=>
    rw[q]at h';have e:k'=k:=Yr h';have ex:x=n:=eq_of_beq q;subst e ex;exact .inl YA
   |false=>
    rw[q]at h';rcases ih h' with z|⟨z1,z2⟩
    .exact .inl (Yj _ z)
    .exact .inr ⟨z1,Yj _ z2⟩
theorem ZV{prog:WV}{w:WZ}{A:WY}{R:Result->Shared->Prop}{s:WW}{elt target iter:J7}{ifs:List Expr}{scope:Scope}{pos:Pos}{it acc:J1}{env:Env}(I:Nat->Shared->Prop)
  (turn : ∀ n s, I n s -> wpAny (model prog w) A (pyNext it) (fun r s₁ => match r with
   |none=>R (.ok .next) s₁
   | some v => wpAny (model prog w) A (letOwnedTupleGo target it v) (fun _ s₀ => wpAny (model prog w) A (assign target env v) (fun _ s₂ =>
     wpAny (model prog w) A (forIn ifs true fun c r => if r = true then do let ok <- isTrue c env (eval c env); pure (ForInStep.yield ok) else pure (ForInStep.yield r)) (fun ok s₃ =>
      if ok = true then wpAny (model prog w) A (eval elt env) (fun x s₄ =>
       wpAny (model prog w) A (call (.builtin "list.append") [acc, x]) (fun _ s₅ => ∃ m, m < n /\ I m s₅) (fun _ _ => False) s₄) (fun _ _ => False) s₃
      else ∃ m, m < n /\ I m s₃) (fun _ _ => False) s₂) (fun _ _ => False) s₀) (fun _ _ => False) s₁) (fun _ _ => False) s)
  (n:Nat) (h:I n s):
  codeAny (model prog w) A (.compLoop (.ListComp elt [⟨target,iter,ifs,0⟩] scope pos) 0 it acc env) R s:=by
 refine codeAny_loop rfl I (fun n s i=>?_) n h;show wpAny _ A ((compTurn (.ListComp elt [⟨target,iter,ifs,0⟩] scope pos) 0 it acc env).onRaise (fun x=>do noteFrame x env;theTreesLotGoes x)) _ _ s;refine wpAny_noted (wpAny_noRaise ?_);rw[compTurn_list];refine Y0 (Vm (Y0 (X1 (turn n s i) (fun r s₁ b=>?_) fun _ _ h'=>h')));cases r with
 |none=>exact Y2 b
 |some v=>
  refine Y0 (X1 b (fun _ s₀ g=>?_) fun _ _ h'=>h');refine Y0 (X1 g (fun _ s₂ f=>Y0 (X1 f (fun ok s₃ a=>?_) fun _ _ h'=>h')) fun _ _ h'=>h');cases ok with
  |false=>exact Y2 ⟨rfl,a⟩
  |true=>
   exact Y0 (Y0 (X1 a (fun x s₄ e=>Y0 (X1 e (fun _ s₅ d=>Y2 (Y2 ⟨rfl,d⟩)) fun _ _ h'=>h')) fun _ _ h'=>h'))
def Nb(X:Cx)(N':List Str)(scope:Scope)(cl:List (Str×Addr))(C:J2)(s:WW)(H:Hp)(ex:List Addr):Cx:=
 {X with N:=N',s₀:=s,H₀:=H,env:=compEnvC scope cl C X.env,outer:=X.stack,ex:=ex,fn:=fun _=>false,pn:=[],xe:=fun _ _=>False}
def NR(caps:List (Option Nat))(σ:St):St:=caps.map fun o=>o.bind fun j=>(σ[j]?).join
def Qr(N N':List Str)(scope:Scope)(caps:List (Option Nat)):Prop:=
 caps.length=N'.length/\∀ (i j:Nat) (x:Str),N'[i]?=some x->caps[i]?=some (some j)->N[j]?=some x/\(x,NameKind.free)∈scope.names/\∀k,(x,k)∈scope.names->k=NameKind.free
structure BN(X:Cx)(N':List Str)(scope:Scope)(caps:List (Option Nat)):Prop where
 kind:scope.kind= .function
 nocell:∀y∈scope.names,y.2≠ .cell
 locs:∀y∈scope.names,y.2= .local->scope.names.lookup y.1=some .local
 cap:Qr X.N N' scope caps
 vis:∀x,(x,NameKind.free)∈scope.names->X.env.kindOf x=some .cell\/X.env.kindOf x=some .free
def HL:TT:=fun _ H Q=>Q true H
def Ek(caps:List (Option Nat))(g:TG)(tc:TT)(te:TE)(σ:St)(Q:VK)(J:It)(H1:Hp):Prop:=
 ∃W:Nat->Nat->List V->St->Hp->Prop,(∃m,W 0 m [] (NR caps σ) H1)/\∀i m ys σ' H,W i m ys σ' H->
  (J.stop i H/\ys.length <=sizeLine/\∀p,H p=none->Q (.ref p) (upd H p (.lst ys)))\/
  (J.go i H /\ ys.length < sizeLine /\ ∃ N : List V -> St -> Hp -> Prop, (∀ ys σ H, N ys σ H -> ∃ m', m' < m /\ W (i + 1) m' ys σ H) /\ ∀ x H', J.yld i H x H' -> g x σ' H' fun σ2 H2 => tc σ2 H2 fun b H3 =>
   if b = true then te σ2 H3 fun y H4 => N (ys ++ [y]) σ2 H4 else N ys σ2 H3)
def AV(caps:List (Option Nat))(wi:TI)(g:TG)(tc:TT)(te:TE):TE:=fun σ H Q=>wi σ H fun J H1=>Ek caps g tc te σ Q J H1
def DE(X:Cx)(ifs:List Expr)(t:TT):Prop:=
 ∀ (pins:WU) (s:WW) (σ:St) (H:Hp) (Q:Bool->Hp->Prop),Jb X pins σ H s->t σ H Q->
  wpAny (model X.prog X.w) X.A (forIn ifs true fun c r=>if r=true then do let ok <-isTrue c X.env (eval c X.env);pure (ForInStep.yield ok) else pure (ForInStep.yield r)) (TP X pins σ Q) X.xe s
theorem Dt{X:Cx}:DE X [] HL:=fun _ _ _ H _ I h=>wpAny_tests_nil ⟨H,I,h⟩
theorem Lu{X:Cx}{c:J7}{t:TT}(h:PT X c t):DE X [c] t:=fun pins s σ H Q I q=>wpAny_tests_one (h pins s σ H Q I q)
section
variable{X:Cx}{elt tg iter:J7}{ifs:List Expr}{scope:Scope}{pos:Pos}{N':List Str}{caps:List (Option Nat)}{wi:TI}{g:TG}{tc:TT}{te:TE}
def Tx(its:J5)(n:Nat):Obj:={cls:=.type "list",data:=.seq its.toArray n}
theorem OZ{pins:WU}{s2:WW}{σ:St}{H2:Hp}{J:It}{it:J2}{fp:List Addr}{tn:Nat->Heap->Prop}{cl:List (Str×Addr)}{Q:VK}{RR:Value->Addr->Result->Shared->Prop}
  (S:BN X N' scope caps) (hc:X.calm=true)
  (hcl1:∀x c,cl.lookup x=some c->X.env.cells.lookup x=some c) (hcl2:∀x,(x,NameKind.free)∈scope.names->∃c,cl.lookup x=some c)
  (hg:∀cl C s H ex,PG (Nb X N' scope cl C s H ex) tg g) (ht:∀C,DE (Nb X N' scope cl C s2 H2 fp) ifs tc) (he:∀cl C s H ex,PE (Nb X N' scope cl C s H ex) elt te)
  (I:Jb X pins σ H2 s2) (T:EU X.prog X.w X.K tg J fp it tn) (st:tn 0 s2.heap) (f2:∀b∈fp,M9 X pins H2 b)
  (W:Nat->Nat->List V->St->Hp->Prop) (w0:∃m,W 0 m [] (NR caps σ) H2)
  (turn : ∀ i m ys σ' H, W i m ys σ' H -> (J.stop i H /\ ys.length <= sizeLine /\ ∀ p, H p = none -> Q (.ref p) (upd H p (.lst ys))) \/
   (J.go i H /\ ys.length < sizeLine /\ ∃ N : List V -> St -> Hp -> Prop, (∀ ys σ H, N ys σ H -> ∃ m', m' < m /\ W (i + 1) m' ys σ H) /\ ∀ x H', J.yld i H x H' -> g x σ' H' fun σ2 H2 => tc σ2 H2 fun b H3 =>
    if b = true then te σ2 H3 fun y H4 => N (ys ++ [y]) σ2 H4 else N ys σ2 H3))
  (hRR : ∀ D C oC m s' H', Jb X (pins ++ [(C, oC)]) σ H' s' -> s'.heap.Ns C m -> Q (.ref D) H' -> X.s₀.heap.objs.size <= C -> (∀ x c, X.env.cells.lookup x = some c -> c ≠ C) -> (∀ p ∈ X.pn ++ pins, p.1 ≠ C) -> s'.heap.get? C = some oC ->
   RR (.ref D) C (.ok .next) s') {E : Value -> Shared -> Prop} :
  wpAny (model X.prog X.w) X.A (newList []) (fun acc s₃ => wpAny (model X.prog X.w) X.A (newFunctionEnv scope X.env.globals cl [] X.env.qual none .none (some X.env)) (fun cenv s₄ =>
   codeAny (model X.prog X.w) X.A (.compStart (.ListComp elt [⟨tg, iter, ifs, 0⟩] scope pos) 0 (.ref it) acc { cenv with scope := relabel scope X.env }) (RR acc cenv.locals) s₄) E s₃) E s2 := by
 refine X3 (wpAny_newFunctionEnv S.nocell (by intro y hy;simp at hy) (fun h₁ hns₁ hsb₁=>?_) S.kind);dsimp only at hns₁ hsb₁ ⊢;generalize hH2:s2.heap.push {cls:=.type "list",dict:=none,data:=.seq ([]:J5).toArray}=HP at hns₁ hsb₁ ⊢;have hC:HP.objs.size=s2.heap.objs.size+ 1:=by rw[<-hH2,Uz]
 generalize hCC:HP.objs.size=C at hns₁ hsb₁ hC ⊢;have hDC:s2.heap.objs.size≠C:=by rw[hC];exact Yo (Vo _)
 have aa:∀b,b < s2.heap.objs.size->b≠C:=fun b f=>by rw[hC];exact Yo (XB f)
 have old:∀b o,s2.heap.get? b=some o->h₁.get? b=some o:=fun b o e=>hsb₁.extBut b o (aa b (Yb e)) (Y8 _ (hH2▸Y8 _ e))
 have hacc:h₁.get? s2.heap.objs.size=some (Tx [] 0):=hsb₁.extBut _ _ hDC (Y8 _ (hH2▸Yh _ rfl));have fpLt:∀b∈fp,b < s2.heap.objs.size:=fun b f=>by obtain⟨o,e,_⟩:=T.obj _ _ st b f;exact Yb e
 have st₁:tn 0 h₁:=T.keep _ _ _ st fun b _ o e=>old b o e
 have sz:X.s₀.heap.objs.size <=s2.heap.objs.size:=I.sz;have cellLt:∀x c,X.env.cells.lookup x=some c->c < s2.heap.objs.size:=fun x c e=>by obtain⟨v,q⟩:=I.cell x c e;exact q.lt
 have okX:(Nb X N' scope cl C s2 H2 fp).Ok:=by
  refine ⟨I.ok.mod, S.kind, I.ok.glob, I.ok.blt, by show s2.heap.objs.size <= C; rw [hC]; exact U7 _, fun x y c a b => I.ok.inj x y c (hcl1 x c a) (hcl1 y c b), fun x hx => ?_, (fun x c z => by cases z), I.ok.hd, I.ok.frames, .inl rfl,
   fun b f => ⟨aa b (fpLt b f), fun x c e => (f2 b f).2.2.2.2.1 x c (hcl1 x c e)⟩, I.bs, YT I.ok.bsz sz, fun b o e f => ?_, fun b f z => ?_, I.stack, I.stkFree⟩
  .have key:∀k,(k=NameKind.cell\/k=NameKind.free)->(relabel scope X.env).names.lookup x=some k->∃c,cl.lookup x=some c:=fun k hk hx=>by
    rcases Hv hx with z|⟨_,z⟩
    .rcases hk with rfl|rfl
     .exact absurd rfl (S.nocell _ z)
     .exact hcl2 x z
    .exact hcl2 x z
   rcases hx with hx|hx
   .exact key _ (.inl rfl) hx
   .exact key _ (.inr rfl) hx
  .rcases(f2 b f).2.2.2.1 with z|z
   .exact I.ok.noex b o e z
   .exact absurd (Yx (Yb (I.ok.bs b o e).1) z) (Xx _)
  .rcases Yp.mp (I.stkSub b z) with y|y
   .exact(f2 b f).2.1 y
   .exact(f2 b f).2.2.1 y
 have freshC:∀b,s2.heap.objs.size <=b->H2 b=none:=fun b f=>I.hok.fresh f
 have capI:Jb (Nb X N' scope cl C s2 H2 fp) [(s2.heap.objs.size,Tx [] 0)] (NR caps σ) H2 {s2 with heap:=h₁,toks:=s2.toks+ ([]:List (Str×Value)).length}:=by
  refine⟨okX,rfl,I.bare,Un.kept old,⟨_,hns₁,fun i x v e1 e2 e3=>?_⟩,fun x c e=>?_,freshC C (by rw[hC];exact U7 _),fun x c e=>I.freeC x c (hcl1 x c e),fun p hp=>?_,I.hok.kept old,?_⟩
  .have e2':(caps[i]?).map (fun o=>o.bind fun j=>(σ[j]?).join)=some (some v):=by
    unfold NR at e2;rw[Yf]at e2;exact e2
   cases q:caps[i]? with
   |none=>rw[q]at e2';cases e2'
   |some o=>
    rw[q]at e2';cases o with
    |none=>cases e2'
    |some j=>
     have hv:(σ[j]?).join=some v:=Yr e2';obtain⟨hN,hfr,honly⟩:=S.cap.2 i j x e1 q;have hσ:σ[j]?=some (some v):=by
      cases r:σ[j]? with
      |none=>rw[r]at hv;cases hv
      |some o=>rw[r]at hv;rw[<-hv];rfl
     obtain⟨m,hn,hl⟩:=I.loc;have hkx:=S.vis x hfr;obtain⟨u,ru,lk⟩:=hl j x v hN hσ (by rcases hkx with z|z;exact .inr (.inl z);exact .inr (.inr z));refine⟨u,ru,.inr ?_⟩;obtain⟨c,hc'⟩:=hcl2 x hfr;have hcx:=hcl1 x c hc';rcases lk with⟨z,_⟩|⟨_,c',hc2,hcell⟩
     .rcases hkx with y|y <;> rw[y]at z <;> cases z
     .rw[hcx]at hc2;cases hc2;have hcell':h₁.IsCell c (some u):=by
       obtain⟨oc,q1,q2⟩:=hcell;exact⟨oc,old c oc q1,q2⟩
      refine⟨?_,c,hc',hcell'⟩;rcases e3 with z|z|z
      .rcases Hv z with y|⟨y,_⟩
       .have:=honly _ y;cases this
       .cases y
      .exact .inl z
      .exact .inr z
  .obtain⟨v,oc,q1,q2⟩:=I.cell x c (hcl1 x c e);exact⟨v,oc,old c oc q1,q2⟩
  .have e:p=(s2.heap.objs.size,Tx [] 0):=by simpa[Nb] using hp
   subst e;refine ⟨hacc, freshC _ (Y7 _), hDC, fun z => ?_, fun v z => by cases z⟩;exact absurd (show s2.heap.objs.size < s2.heap.objs.size from by
    rcases Yp.mp (I.stkSub _ z) with y|y
    .exact absurd (I.lt) (by rw[<-y];exact Xx _)
    .exact absurd y (I.nofs (Y7 _))) (Xx _)
  .unfold NR;rw[Y4];exact S.cap.1
 generalize hX':Nb X N' scope cl C s2 H2 fp=X' at okX capI;have ePr:X'.prog=X.prog:=by rw[<-hX'];rfl
 have eW:X'.w=X.w:=by rw[<-hX'];rfl
 have eK:X'.K=X.K:=by rw[<-hX'];rfl
 have eA:X'.A=X.A:=by rw[<-hX'];rfl
 have eEnv:X'.env=compEnvC scope cl C X.env:=by rw[<-hX'];rfl
 have eXe:X'.xe=fun _ _=>False:=by rw[<-hX'];rfl
 have eCalm:X'.calm=true:=by rw[<-hX'];exact hc
 have eLoc:X'.env.locals=C:=by rw[eEnv];rfl
 have eS0:X'.s₀=s2:=by rw[<-hX'];rfl
 have eEx:X'.ex=fp:=by rw[<-hX'];rfl
 have eFs:X'.fs=DW X.stack:=by rw[<-hX'];rfl
 have eCells:X'.env.cells=cl:=by rw[eEnv];rfl
 have ePn:X'.pn=[]:=by rw[<-hX'];rfl
 have eH0:X'.H₀=H2:=by rw[<-hX'];rfl
 have hgX:PG X' tg g:=hX'▸hg cl C s2 H2 fp;have htX:DE X' ifs tc:=hX'▸ht C;have heX:PE X' elt te:=hX'▸he cl C s2 H2 fp;obtain⟨m0,w0⟩:=w0;have nDfs:s2.heap.objs.size∉X'.fs:=fun z=>by
  rw[eFs]at z;rcases Yp.mp (I.stkSub _ z) with y|y
  .exact absurd (I.lt) (by rw[<-y];exact Xx _)
  .exact absurd y (I.nofs (Y7 _))
 have fpX:∀{H':Hp} {its:J5} {n:Nat},(∀b∈fp,H' b=none)->∀b∈fp,M9 X' [(s2.heap.objs.size,Tx its n)] H' b:=fun {H' its n} hn b f=>by
  refine⟨hn b f,by rw[eLoc];exact aa b (fpLt b f),fun z=>?_,.inl (by rw[eEx];exact f),fun x c e=>?_,fun p hp z=>?_⟩
  .rw[eFs]at z;rcases Yp.mp (I.stkSub b z) with y|y
   .exact(f2 b f).2.1 y
   .exact(f2 b f).2.2.1 y
  .rw[eCells]at e;exact(f2 b f).2.2.2.2.1 x c (hcl1 x c e)
  .rw[ePn]at hp;have e:p=(s2.heap.objs.size,Tx its n):=by simpa using hp
   subst e;exact absurd (fpLt b f) (by rw[<-z];exact Xx _)
 have loop:∀s₃:Shared,s₃={s2 with heap:=h₁,toks:=s2.toks+ ([]:List (Str×Value)).length}->
   codeAny (model X.prog X.w) X.A (.compLoop (.ListComp elt [⟨tg,iter,ifs,0⟩] scope pos) 0 (.ref it) (.ref s2.heap.objs.size) (compEnvC scope cl C X.env)) (RR (.ref s2.heap.objs.size) C) s₃:=by
  rintro s₃ rfl;rw[<-eEnv,<-eA];refine ZV (fun n s'=>∃i ys its k σ' H',Jb X' [(s2.heap.objs.size,Tx its k)] σ' H' s'/\tn i s'.heap/\(∀b∈fp,H' b=none)/\Jd ys its/\W i n ys σ' H') ?_ m0
   ⟨0,[],[],0,NR caps σ,H2,capI,st₁,fun b f=>(f2 b f).1,.nil,w0⟩
  rintro n s' ⟨i,ys,its,k,σ',H',I',st',fr',rv',w'⟩;rcases turn i n ys σ' H' w' with⟨stop,hsz,q⟩|⟨go,hsz,NN,hNN,step⟩
  .refine Jr (T.done X' ePr eW eK eCalm i _ s' σ' H' (fun _ _=>False) I' (fpX fr') st' stop) fun r s4 ⟨hr,I4⟩=>?_
   subst hr;have pinD:=(I4.pin (s2.heap.objs.size,Tx its k) (by rw[ePn];simp)).1;have freeD:=(I4.pin (s2.heap.objs.size,Tx its k) (by rw[ePn];simp)).2.1;have hq:=q s2.heap.objs.size freeD;obtain⟨mC,hnC,_⟩:=id I4.loc;rw[eLoc]at hnC;obtain⟨oC,es,ep,hoC,hdC,_⟩:=id hnC;have freeC':H' C=none:=by have:=I4.free;rw[eLoc]at this;exact this
   have l:=I4.base;rw[eS0,eEx,eFs,eH0]at l;have neD:∀b o,s2.heap.get? b=some o->b≠s2.heap.objs.size:=fun b o e=>Yo (Yb e)
   have neDH:∀b o,H2 b=some o->b≠s2.heap.objs.size:=fun b o e=>Yo (I.hok.lt e)
   have un4:Un (DW X.stack) fp H2 (upd H' s2.heap.objs.size (.lst ys)) s2.heap s4.heap:=
    ⟨l.keep, l.slot, fun b o e n hx => by rw [JY (neD b o e)]; exact l.free b o e n hx, l.there, fun b xs e => by rw [JY (neDH b _ e)]; exact l.tups b xs e,
     fun b o u e => by rw [JY (neDH b _ e)]; exact l.frzs b o u e, fun b ps e => by rw [JY (neDH b _ e)]; exact l.tbls b ps e⟩
   have hok4:To X.prog X.w (upd H' s2.heap.objs.size (.lst ys)) s4.heap:=by
    have h4:=I4.hok;rw[ePr,eW]at h4;intro b u e
    by_cases f:b=s2.heap.objs.size
    .subst f;rw[ND]at e;cases e;exact⟨hsz,its,k,rv',pinD⟩
    .rw[JY f]at e;refine(h4 b u e).stay (fun c v _ z=>z) (fun c z=>?_) (fun c xs z=>?_)
     .rw[JY];exact z;intro zz;rw[zz,freeD]at z;cases z
     .rw[JY];exact z;intro zz;rw[zz,freeD]at z;cases z
   have os4:s4.os=s2.os:=by have:=I4.os;rw[eS0]at this;exact this
   have J4:Jb X pins σ (upd H' s2.heap.objs.size (.lst ys)) s4:=I.call' (ch:=fp) os4 un4 hok4 I4.bare fun b f=>⟨(f2 b f).2.2.2.1,(f2 b f).2.1,(f2 b f).2.2.2.2.1,(f2 b f).2.2.2.2.2⟩
   have hCle:X.s₀.heap.objs.size <=C:=by rw[hC];exact Nat.le_succ_of_le sz
   have hCcell:∀x c,X.env.cells.lookup x=some c->c≠C:=fun x c e=>aa c (cellLt x c e)
   have hCpin:∀p∈X.pn++pins,p.1≠C:=fun p hp=>aa p.1 (Yb (I.pin p hp).1)
   have hCl:C≠X.env.locals:=fun z=>absurd I.lt (by rw[<-z,hC];exact Nat.not_lt.mpr (U7 _))
   refine hRR s2.heap.objs.size C oC mC s4 _ (J4.pins_of fun p hp=>?_) hnC hq hCle hCcell hCpin hoC;rcases Ye.mp hp with z|z
   .exact J4.pin p (Yt _ z)
   .have e:p=(C,oC):=by simpa using z
    subst e;refine⟨hoC,by rw[JY (Ne.symm hDC)];exact freeC',hCl,fun z=>?_,fun v z=>by rw[hdC]at z;cases z⟩;exact I.nofs (by rw[hC];exact U7 _) z
  .refine Jr (T.item X' ePr eW eK eCalm i _ s' σ' H' (fun _ _=>False) I' (fpX fr') st' go) fun r s4 ⟨u,hr,h4⟩=>?_
   subst hr;refine Jr h4 fun _ s5 ⟨x,H5,I5,r5,y5,st5,fr5⟩=>?_
   have I5':=I5.pinned (fpX fr5) (T.obj _ _ st5);have xeF:∀{α:Type} {t:Sem α} {Q:α->Shared->Prop} {s:WW},wpAny (model X.prog X.w) X'.A t Q X'.xe s->wpAny (model X.prog X.w) X'.A t Q (fun _ _=>False) s:=fun h=>by rw[eXe]at h;exact h
   have ag:=hgX _ s5 σ' H5 x u _ I5' r5 (step x H5 y5);rw[ePr,eW]at ag;refine Jr (xeF ag) fun _ s6 ⟨σ6,H6,I6,q6⟩=>?_
   have at':=htX _ s6 σ6 H6 _ I6 q6;rw[ePr,eW]at at';refine Jr (xeF at') fun b s7 ⟨H7,I7,q7⟩=>?_
   -- what the pins say behind the turn
   have back:∀{s8:WW} {H8:Hp},Jb X' ([(s2.heap.objs.size,Tx its k)]++Ba fp s5.heap) σ6 H8 s8->tn (i+ 1) s8.heap/\(∀b∈fp,H8 b=none)/\Jb X' [(s2.heap.objs.size,Tx its k)] σ6 H8 s8:=fun {s8 H8} I8=>by
    refine⟨T.keep _ _ _ st5 fun b f o e=>(I8.pin (b,o) (Yt _ (Yt _ (CT f e)))).1,fun b f=>?_,I8.unpinned⟩;obtain⟨o,e,d⟩:=T.obj _ _ st5 b f;exact(I8.pin (b,o) (Yt _ (Yt _ (CT f e)))).2.1
   cases b with
   |false=>
    simp only[Bool.false_eq_true,if_false]at q7 ⊢;obtain⟨m',hm,w7⟩:=hNN _ _ _ q7;obtain⟨t7,f7,I7'⟩:=back I7;exact⟨m',hm,i+ 1,ys,its,k,σ6,H7,I7',t7,f7,rv',w7⟩
   |true=>
    simp only[if_true]at q7 ⊢;have ae:=heX _ s7 σ6 H7 _ I7 q7;rw[ePr,eW]at ae;refine Jr (xeF ae) fun y s8 ⟨yv,H8,I8,r8,n8⟩=>?_
    obtain⟨m',hm,w8⟩:=hNN _ _ _ n8;obtain⟨t8,f8,I8'⟩:=back I8;have pinD:=I8'.pin (s2.heap.objs.size,Tx its k) (by rw[ePn];simp);have hlen:=rv'.length;refine append_at (its:=its.toArray) (n:=k) (hsz:=by rw[Yc,<-hlen];exact UT hsz) pinD.1 fun h9 hs9 hD9=>?_
    have I9:Jb X' [] σ6 H8 {s8 with heap:=h9,toks:=s8.toks}:=by
     refine(I8'.pins_of (pins':=[]) fun p hp=>by simp at hp).turned (it:=s2.heap.objs.size) (fun b o f e=>(hs9.2 b f).trans e) pinD.2.1 (by rw[eLoc];exact hDC) (.inr (by rw[eS0];exact Y7 _)) (fun x c e=>?_) fun p hp=>?_
     .rw[eCells]at e;exact Yo (cellLt x c (hcl1 x c e))
     .rw[ePn]at hp;simp at hp
    have ePush:({cls:=.type "list",data:=.seq (its.toArray.push y) (k+ 1)}:Obj)=Tx (its++[y]) (k+ 1):=by unfold Tx;rw[List.push_toArray]
    rw[ePush]at hD9;refine⟨m',hm,i+ 1,ys++[yv],its++[y],k+ 1,σ6,H8,?_,T.keep _ _ _ t8 fun b f o e=>(hs9.2 b (Yo (fpLt b f))).trans e,f8,rv'.append (.cons r8 .nil),w8⟩;refine I9.pins_of fun p hp=>?_
    have e:p=(s2.heap.objs.size,Tx (its++[y]) (k+ 1)):=by simpa using hp
    subst e;exact⟨hD9,pinD.2.1,by rw[eLoc];exact hDC,nDfs,fun v z=>by cases z⟩
 exact codeAny_compStart_list (loop _ rfl) (T.self _ 0 _ _ _ st₁ (loop _ rfl))
theorem Jb.cellsOf{pins:WU}{σ:St}{H:Hp}{s:WW}(I:Jb X pins σ H s)(S:BN X N' scope caps):∀x,(x,NameKind.free)∈scope.names->∃c,X.env.cells.lookup x=some c:=
 fun x a=>I.ok.has x (S.vis x a)
theorem DB(S:BN X N' scope caps)(hc:X.calm=true)(hi:PI X tg iter wi)
  (hg:∀cl C s H ex,PG (Nb X N' scope cl C s H ex) tg g) (ht:∀cl C s H ex,DE (Nb X N' scope cl C s H ex) ifs tc) (he:∀cl C s H ex,PE (Nb X N' scope cl C s H ex) elt te)
  (hs:∀x,foldedSetIterable iter X.env x=pure x:=by intro _;rfl):PE X (.ListComp elt [⟨tg,iter,ifs,0⟩] scope pos) (AV caps wi g tc te):=by
 intro pins s σ H Q I h;obtain⟨cl,u,i,f⟩:=OV (I.cellsOf S);rw[eval_ListComp];refine wpAny_comprehension_free (use:=none) rfl hs u S.kind S.locs (Jr (hi pins s σ H _ I h) fun v s1 h1=>Jr h1 fun itv s2 h2=>?_);obtain⟨it,fp,tn,J,H2,e,I2,T,l,f2,W,w,c⟩:=h2;subst e;refine OZ S hc i f hg (fun C=>ht _ C _ _ _) he I2 T l f2 W w c fun D C z m s' H' j hn q hC a d hoC=>?_
 refine⟨m,hn,fun h' r=>⟨.ref D,H',?_,rfl,q⟩⟩;have n:=j.pin (C,z) (Yt _ (Yt _ (by simp)));exact(j.pins_of (pins':=pins) fun p hp=>j.pin p (Yt _ (X5 _ hp))).turned (t':=s'.toks) (it:=C) (fun b o hb e=>(r.2 b hb).trans e) n.2.1 n.2.2.1 (.inr hC) a d
theorem O8{i:Nat}{x:Str}{pos' spos:Pos}(S:BN X N' scope caps)(hc:X.calm=true)(hN:X.N.Nodup)(hix:X.N[i]?=some x)(hx:RN X.env.scope x)(hi:PI X tg iter wi)
  (hg:∀cl C s H ex,PG (Nb X N' scope cl C s H ex) tg g) (ht:∀cl C s H ex,DE (Nb X N' scope cl C s H ex) ifs tc) (he:∀cl C s H ex,PE (Nb X N' scope cl C s H ex) elt te)
  (hsw:swapsWith (.ListComp elt [⟨tg,iter,ifs,0⟩] scope pos) (some (.Name x pos')) spos.line X.env=pure true)
  (hf:X.fn x=true\/X.env.scope.names.lookup x=some .local:=by first|exact .inl rfl|exact .inr rfl|assumption)
  (hs:∀x,foldedSetIterable iter X.env x=pure x:=by intro _;rfl):PS X (.Assign [.Name x pos'] (.ListComp elt [⟨tg,iter,ifs,0⟩] scope pos) spos) (RP (AV caps wi g tc te) (R1 i)):=by
 intro pins s σ H D I h;obtain ⟨cl, ecl, u, n⟩ := OV (I.cellsOf S);rw [exec_Assign_Name_used _ _ _ _ hsw];refine Y0 (Vm (Y0 ?_));show wpAny _ X.A (do let _ <- comprehension (.ListComp elt [⟨tg, iter, ifs, 0⟩] scope pos) scope X.env _ (newList []) false (eval iter X.env) (some (assign (.Name x pos') X.env))) _ _ s;refine Y0 (X1 (wpAny_comprehension_free (use := some (assign (.Name x pos') X.env)) (Q := fun _ s' => SP X pins D .next s') rfl hs ecl S.kind S.locs
  (Jr (hi pins s σ H _ I h) fun v s1 h1 => Jr h1 fun itv s2 h2 => ?_)) (fun _ s' hq => Y2 (Y2 hq)) fun _ _ e => e)
 obtain⟨it,fp,tn,J,H2,e,I2,T,z,f2,W,w0,f⟩:=h2;subst e;refine OZ (Q:=fun x H1=>R1 i x σ H1 D.nx) S hc u n hg (fun C=>ht _ C _ _ _) he I2 T z f2 W w0 f fun w C oC m s' H' I' hn q hC c l hoC=>?_
 show wpAny _ X.A (assign (.Name x pos') X.env (.ref w)) _ _ _;refine wpAny_assign_Name (K5 I' hN hix hx (v:=.ref w) rfl (fun d a=>?_) hf);have j:=a.pin (C,oC) (Yt _ (Yt _ (by simp)));have hn':d.heap.Ns C m:=by
  obtain⟨o,es,ep,ho,r⟩:=hn;rw[hoC]at ho;cases ho;exact⟨oC,es,ep,j.1,r⟩
 refine⟨m,hn',fun h' hs'=>⟨σ.set i (some (.ref w)),H',?_,q⟩⟩;exact(a.pins_of (pins':=pins) fun p hp=>a.pin p (Yt _ (X5 _ hp))).turned (t':=d.toks) (it:=C) (fun b o hb e=>(hs'.2 b hb).trans e) j.2.1 j.2.2.1 (.inr hC) c l
theorem PY{K:J0}{a:J2}{xs:List V}{σ:St}{H1:Hp}{Q:VK}(Pv:Nat->List V->St->Hp->Prop)(h0:Pv 0 [] (NR caps σ) H1)(hl:∀i ys σ H,Pv i ys σ H->i <=xs.length->Je K H a xs/\ys.length <=i)(hz:xs.length <=sizeLine)
  (hs:∀i x ys σ H,xs[i]?=some x->Pv i ys σ H->g x σ H fun σ2 H2=>tc σ2 H2 fun b H3=>if b=true then te σ2 H3 fun y H4=>Pv (i+ 1) (ys++[y]) σ2 H4 else Pv (i+ 1) ys σ2 H3)
  (hd:∀ys σ H,Pv xs.length ys σ H->∀p,H p=none->Q (.ref p) (upd H p (.lst ys))):
  Ek caps g tc te σ Q (Rv K a) H1:=by
 refine⟨fun i m ys σ H=>m=xs.length - i/\i <=xs.length/\Pv i ys σ H,⟨xs.length,by simp,Yv _,h0⟩,?_⟩;rintro i m ys σ H ⟨rfl,hi,p⟩;obtain⟨q,f⟩:=hl i ys σ H p hi
 by_cases hlt:i < xs.length
 .refine .inr ⟨⟨xs,xs[i],q,by simp[hlt]⟩,by lia,Pv (i+ 1),fun d σ' H' c=>⟨xs.length - (i+ 1),by lia,rfl,hlt,c⟩,fun x H' y=>?_⟩;obtain⟨e,y⟩:=y;subst e;exact hs i x ys σ _ (y xs q) p
 .have e:i=xs.length:=by lia
  subst e;exact .inl ⟨⟨xs,q,Y7 _⟩,by lia,hd ys σ H p⟩
theorem yO{lo:Int}{n:Nat}{σ:St}{H1:Hp}{Q:VK}(Pv:Nat->List V->St->Hp->Prop)(h0:Pv 0 [] (NR caps σ) H1)(hl:∀i ys σ H,Pv i ys σ H->i <=n->ys.length <=i)(hz:n <=sizeLine)
  (hs:∀i ys σ H,i < n->Pv i ys σ H->g (.int (lo+ i)) σ H fun σ2 H2=>tc σ2 H2 fun b H3=>if b=true then te σ2 H3 fun y H4=>Pv (i+ 1) (ys++[y]) σ2 H4 else Pv (i+ 1) ys σ2 H3)
  (hd:∀ys σ H,Pv n ys σ H->∀p,H p=none->Q (.ref p) (upd H p (.lst ys))):
  Ek caps g tc te σ Q (R8 lo n) H1:=by
 refine⟨fun i m ys σ H=>m=n - i/\i <=n/\Pv i ys σ H,⟨n,by simp,Yv _,h0⟩,?_⟩;rintro i m ys σ H ⟨rfl,hi,p⟩;have d:=hl i ys σ H p hi
 by_cases hlt:i < n
 .refine .inr ⟨hlt,by lia,Pv (i+ 1),fun c σ' H' a=>⟨n - (i+ 1),by lia,rfl,hlt,a⟩,fun x H' y=>?_⟩;obtain⟨e,y⟩:=y;subst e y;exact hs i ys σ _ hlt p
 .have e:i=n:=by lia
  subst e;exact .inl ⟨Y7 _,by lia,hd ys σ H p⟩
end
mutual
inductive Dp(K:J0)(H:Hp):V->PyData->Prop
 |non:Dp K H .non .none
 |bl (b:Bool):Dp K H (.bl b) (.bool b)
 |int (i:Int):Dp K H (.int i) (.int i)
 |str (x:Str):Dp K H (.str x) (.str x)
 |lst {a:J2} {xs:List V} {ds:List PyData}:Je K H a xs->T4 K H xs ds->Dp K H (.ref a) (.list ds)
 |tup {a:J2} {xs:List V} {ds:List PyData}:JV K H a xs->T4 K H xs ds->Dp K H (.ref a) (.tuple ds)
inductive T4(K:J0)(H:Hp):List V->List PyData->Prop
 |nil:T4 K H [] []
 |cons {x:V} {xs:List V} {d:PyData} {ds:List PyData}:Dp K H x d->T4 K H xs ds->T4 K H (x::xs) (d::ds)
end
theorem T4.ints{K:J0}{H:Hp}:∀ns:List Int,T4 K H (ns.map V.int) (ns.map PyData.int)
 |[]=>.nil
 |_::r=>.cons (.int _) (T4.ints r)
theorem La(ns:J3):SeqAt.shaped (.list (ns.map PyData.int))=true:=by
 have h1:∀ns:List Int,PyData.canLayAll0 (ns.map PyData.int)=true:=fun ns=>by
  induction ns with
  |nil=>rfl
  |cons n r ih=>simp[PyData.canLayAll0,PyData.canLay0,ih]
 have h2:∀ns:List Int,PyData.depthAll (ns.map PyData.int) <=2:=fun ns=>by
  induction ns with
  |nil=>simp[PyData.depthAll]
  |cons n r ih=>simp[PyData.depthAll,PyData.depth];lia
 have a:=h2 ns;simp[SeqAt.shaped,PyData.canLay0,h1 ns,PyData.depth];lia
section
variable{X:Cx}{pins:WU}{σ:St}{H:Hp}{s:WW}
mutual
theorem Jb.reads(I:Jb X pins σ H s):∀{x:V} {d:PyData} {u:J1},Dp X.K H x d->Jg x u->∃as,Reads s.heap u d as
 |_,_,u,.non,r=>by cases (show u=Value.none from r);exact⟨_,.none⟩
 |_,_,u,.bl b,r=>by cases (show u=Value.bool b from r);exact⟨_,.bool b⟩
 |_,_,u,.int i,r=>by obtain⟨t,rfl⟩:=(show ∃t,u=Value.int i t from r);exact⟨_,.int i t⟩
 |_,_,u,.str x,r=>by obtain⟨t,rfl⟩:=(show ∃t,u=Value.str x t from r);exact⟨_,.str x t⟩
 |_,_,u,.lst (a:=a) hl hd,r=>by
  cases (show u=Value.ref a from r);obtain⟨j,f,⟨o,n,e,h,_,c⟩,l⟩:=I.list hl;obtain⟨as,g⟩:=Jb.readsAll I hd f;exact⟨_,.list e h c (by simpa using g)⟩
 |_,_,u,.tup (a:=a) hl hd,r=>by
  cases (show u=Value.ref a from r);obtain⟨j,f,⟨o,e,h,n,c⟩,l⟩:=I.tuple hl;obtain⟨as,g⟩:=Jb.readsAll I hd f;exact⟨_,.tuple e h c (by simpa using g)⟩
theorem Jb.readsAll(I:Jb X pins σ H s):∀{xs:List V} {ds:List PyData} {us:J5},T4 X.K H xs ds->Jd xs us->∃as,ReadsAll s.heap us ds as
 |_,_,_,.nil,r=>by cases r;exact⟨_,.nil⟩
 |_,_,_,.cons h t,r=>by
  cases r with
  |cons r1 r2=>
   obtain⟨as,ra⟩:=Jb.reads I h r1;obtain⟨bs,a⟩:=Jb.readsAll I t r2;exact⟨_,.cons ra a⟩
end
end
def Ot(K:J0):R2:=fun x y H Q=>∃d e,Dp K H x d/\Dp K H y e/\SeqAt.shaped d=true/\SeqAt.shaped e=true/\Q (.bl (PyData.eqv d e)) H
def Og(K:J0):R2:=fun x y H Q=>∃d e,Dp K H x d/\Dp K H y e/\SeqAt.shaped d=true/\SeqAt.shaped e=true/\Q (.bl (!PyData.eqv d e)) H
section
variable{X:Cx}
theorem Qf(hu:X.A.units+ 64 < cLine):JW X (compareOp .Eq) (Ot X.K):=by
 intro pins s σ H x y v u Q I rx ry h;obtain⟨d,e,h1,h2,b,a,q⟩:=h;obtain⟨g,f⟩:=I.reads h1 rx;obtain⟨bs,c⟩:=I.reads h2 ry;exact eq_dataH f c b a hu (NU I q rfl)
theorem uT(hu:X.A.units+ 64 < cLine):JW X (compareOp .NotEq) (Og X.K):=by
 intro pins s σ H x y v u Q I rx ry h;obtain⟨d,e,h1,h2,b,a,q⟩:=h;obtain⟨g,f⟩:=I.reads h1 rx;obtain⟨bs,c⟩:=I.reads h2 ry;exact ne_dataH f c b a hu (NU I q rfl)
def I0:R2:=fun x y H Q=>∃i j,x= .str i/\y= .str j/\Q (.bl (!decide (j.cps.toList < i.cps.toList))) H
theorem O3:JW X (compareOp .LtE) I0:=by
 intro pins s σ H x y v u Q I rx ry h;obtain⟨i,j,rfl,rfl,q⟩:=h;obtain⟨t,rfl⟩:=rx;obtain⟨a,rfl⟩:=ry;exact PySem.P.le_str (NU I q rfl)
theorem uG(hc:X.calm=true):Jt X (.builtin "all") (fun xs H Q=>∃ (p:J2) (bs:List Bool),xs=[.ref p]/\Je X.K H p (bs.map V.bl)/\Q (.bl (bs.all id)) H):=by
 intro pins s σ H xs us Q I r h;obtain⟨p,bs,rfl,hq,q⟩:=h;obtain⟨u,rfl,rx⟩:=R4 r;cases rx;obtain⟨a,l,pl,hz⟩:=I.list hq;have hh:X.A.in1.handled=none:=I.ok.hd hc;have g:=pl.isList;have w:p < s.heap.objs.size:=by obtain⟨_,e,_⟩:=g;exact Yb e
 have f:bs.length=a.length:=by have:=l.length;simpa using this
 refine call_all_walk (U1 g ⟨s.heap.objs.size,_,_,_,_,_,fun i=>bs.getD i false,rfl,Walks.list hh s.heap.objs.size p (Yo w) a.toArray,⟨⟨_,Yh _ rfl,rfl,rfl⟩,g.push _⟩,?_,?_⟩)
 .intro i v s' Q' E' hv j;have c:a[i]?=some v:=by simpa using hv
  cases e:bs[i]? with
  |none=>
   have:a[i]?=none:=by
    rw[XI]at e ⊢;lia
   rw[this]at c;cases c
  |some b=>
   obtain⟨u,n,ru⟩:=l.get (i:=i) (x:=V.bl b) (by rw[Yf,e];rfl);rw[c]at n;cases n;cases (show v=Value.bool b from ru);have:bs.getD i false=b:=by simp[List.getD,e]
   dsimp only at j;rw[this]at j;exact Xg j
 .intro h' tk hk;have e:(List.range a.toArray.size).all (fun i=>bs.getD i false)=bs.all id:=by
   rw[Yc,<-f,YU,Xe,Xe];constructor
   .intro h x hx;obtain⟨i,hi,rfl⟩:=WF.mp hx;have:=h i (Wu.mpr hi);simpa[List.getD,hi] using this
   .intro h i hi;have d:=Wu.mp hi;have:=h bs[i] (XG d);simpa[List.getD,d] using this
  rw[e];exact⟨.bl (bs.all id),H,I.kept (t':=tk) fun b o z=>hk b o (by simpa using Yo (Yb z)) (Y8 _ z),rfl,q⟩
def LL:V->Value
 | .ty n=>.type n
 | .ref a=>.ref a
 |_=>.none
def SR:V->Bool
 | .ty _=>true
 | .ref _=>true
 |_=>false
def y4(K:J0):List V->Hp->VK->Prop:=fun xs H Q=>∃x c t b,xs=[x,c]/\Ds K H x t/\SR c=true/\W.kitOne K t (LL c)=some b/\Q (.bl b) H
theorem HX:Jt X (.builtin "isinstance") (y4 X.K):=by
 intro pins s σ H xs i Q I r h;obtain⟨x,c,t,b,rfl,ty,g,e,q⟩:=h;obtain⟨u,a,rfl,rx,d⟩:=Hz r;have f:a=LL c:=by cases c <;> first|exact d|cases g
 subst f;exact wV I rx ty e fun tk=>⟨.bl b,H,I.tok tk,rfl,q⟩
def HN(x:Str):It:=⟨fun i _=>i < x.cps.size,fun i H v H'=>H'=H/\∃c,x.cps[i]?=some c/\v= .str ⟨#[c]⟩,fun i _=>i=x.cps.size⟩
theorem Pe{P:WV}{w:WZ}{K:PySem.W.Frag}{tg:J7}{it:J2}{ty:String}{x:Str}{t:Tok}
  (W:∀A:Around,A.handled=none->Walks P w A it [it] [it] x.cps.size (SignAt x) (fun i h=>h.IsStrIter it ty x t i))
  (hself:∀ (A:WY) (i:Nat) (s:WW) (Q:WR) (E:WR),s.heap.IsStrIter it ty x t i->Q (.ref it) s->wpAny (model P w) A (pyIter (.ref it)) Q E s)
  (hn:["enumerate","zip","dict_itemiterator","dict_reverseitemiterator","odict_iterator","itertools.zip_longest","itertools.pairwise"].contains ty=false):
  EU P w K tg (HN x) [it] it (fun i h=>h.IsStrIter it ty x t i) where
 mem:=by simp
 obj:=fun i h st b a=>by
  have e:b=it:=by simpa using a
  subst e;obtain⟨o,e,c,d⟩:=st;exact⟨o,e,fun v z=>by rw[d]at z;cases z⟩
 keep:=fun i h h' st k=>by obtain⟨o,e,r⟩:=st;exact⟨o,k it (by simp) o e,r⟩
 item:=by
  intro X p g q n i pins s σ H E I hf st l;subst p g q;obtain⟨f0,f1,f2,f3,f4,f5⟩:=hf it (by simp);refine(W X.A (I.ok.hd n)).item i s _ _ l st fun v h' tk hv f j=>?_
  obtain⟨c,u,hc',rfl⟩:=hv;have I1:Jb X pins σ H {s with heap:=h',toks:=tk}:=I.turned (t':=tk) (fun b o a e=>j b o (by simpa using a) e) f0 f1 f3 f4 f5;obtain⟨o,e,cc,d⟩:=id f;exact⟨_,rfl,Ik (s:={s with heap:=h',toks:=tk}) e cc d hn ⟨.str ⟨#[c]⟩,H,I1,⟨u,rfl⟩,⟨rfl,c,hc',rfl⟩,f,fun b a=>(hf b a).1⟩⟩
 done:=by
  intro X p g q n i pins s σ H E I hf st l;subst p g q;obtain⟨f0,f1,f2,f3,f4,f5⟩:=hf it (by simp);have hg':i=x.cps.size:=l;subst hg';exact(W X.A (I.ok.hd n)).done s _ _ st fun h' tk j=>⟨rfl,I.turned (t':=tk) (fun b o a e=>j b o (by simpa using a) e) f0 f1 f3 f4 f5⟩
 self:=fun A i s Q E st h=>hself A i s Q E st h
def Kb(tl:TE):TI:=fun σ H R=>tl σ H fun x H1=>∃z,x= .str z/\R (HN z) H1
theorem tX{tg l:J7}{tl:TE}(hl:PE X l tl):PI X tg l (Kb tl):=by
 intro pins s σ H R I h;refine Jr (hl pins s σ H _ I h) fun v a ⟨x,H1,c,g,j⟩=>?_
 obtain⟨z,e,q⟩:=j;subst e;obtain⟨t,rfl⟩:=(show ∃t,v=Value.str z t from g);have d:∀b:Addr,b∈[a.heap.objs.size]->M9 X pins H1 b:=fun b n=>by
  have e:b=a.heap.objs.size:=by simpa using n
  subst e;exact c.fpOk (Y7 _) (c.hok.fresh (Y7 _))
 cases ha:z.cps.all (· < 128)
 .exact wpAny_pyIter_wide ha ⟨a.heap.objs.size, [a.heap.objs.size], _, _, H1, rfl, c.kept (t' := a.toks) fun b o e => Y8 _ e,
   Pe (fun A f => Walks.strWide f _ z t) (fun A i s Q E st h => wpAny_pyIter_striter_wide st h) (by decide), ⟨_, Yh _ rfl, rfl, rfl⟩, d, q⟩
 .exact wpAny_pyIter_ascii ha ⟨a.heap.objs.size, [a.heap.objs.size], _, _, H1, rfl, c.kept (t' := a.toks) fun b o e => Y8 _ e,
   Pe (fun A f => Walks.strAscii f _ z t) (fun A i s Q E st h => wpAny_pyIter_striter_ascii st h) (by decide), ⟨_, Yh _ rfl, rfl, rfl⟩, d, q⟩
theorem QG{caps:List (Option Nat)}{g:TG}{tc:TT}{te:TE}{z:Str}{σ:St}{H1:Hp}{Q:VK}(Pv:Nat->List V->St->Hp->Prop)(h0:Pv 0 [] (NR caps σ) H1)(hl:∀i ys σ H,Pv i ys σ H->i <=z.cps.size->ys.length <=i)(hz:z.cps.size <=sizeLine)
  (hs:∀i c ys σ H,z.cps[i]?=some c->Pv i ys σ H->g (.str ⟨#[c]⟩) σ H fun σ2 H2=>tc σ2 H2 fun b H3=>if b=true then te σ2 H3 fun y H4=>Pv (i+ 1) (ys++[y]) σ2 H4 else Pv (i+ 1) ys σ2 H3)
  (hd:∀ys σ H,Pv z.cps.size ys σ H->∀p,H p=none->Q (.ref p) (upd H p (.lst ys))):
  Ek caps g tc te σ Q (HN z) H1:=by
 refine⟨fun i m ys σ H=>m=z.cps.size - i/\i <=z.cps.size/\Pv i ys σ H,⟨z.cps.size,by simp,Yv _,h0⟩,?_⟩;rintro i m ys σ H ⟨rfl,hi,p⟩;have h:=hl i ys σ H p hi
 by_cases hlt:i < z.cps.size
 .refine .inr ⟨hlt,by lia,Pv (i+ 1),fun f σ' H' a=>⟨z.cps.size - (i+ 1),by lia,rfl,hlt,a⟩,fun x H' y=>?_⟩;obtain⟨e,c,d,y⟩:=y;subst e y;exact hs i c ys σ _ d p
 .have e:i=z.cps.size:=by lia
  subst e;exact .inl ⟨rfl,by lia,hd ys σ H p⟩
end
def Ph(N N':List Str)(scope:Scope)(caps:List (Option Nat))(sc:Scope):Bool:=
 decide (scope.kind= .function) && (scope.names.all fun y=>decide (y.2≠ .cell)) && (scope.names.all fun y=>decide (y.2= .local->scope.names.lookup y.1=some .local)) && decide (caps.length=N'.length) &&
 ((N'.zip caps).all fun p => match p.2 with
  |none=>true
  | some j => decide (N[j]? = some p.1) && decide ((p.1, NameKind.free) ∈ scope.names) && (scope.names.all fun y => decide (y.1 = p.1 -> y.2 = .free))) &&
 (scope.names.all fun y=>decide (y.2= .free->sc.names.lookup y.1=some .cell\/sc.names.lookup y.1=some .free))
theorem D6{X:Cx}{N':List Str}{scope:Scope}{caps:List (Option Nat)}{sc:Scope}{N:List Str}(hsc:X.env.scope=sc)(hN:X.N=N)(h:Ph N N' scope caps sc=true):BN X N' scope caps:=by
 subst hsc hN;unfold Ph at h;simp only[X8,Yg,Xe]at h;obtain⟨⟨⟨⟨⟨h1,h2⟩,g⟩,f⟩,e⟩,d⟩:=h;refine⟨h1,h2,g,⟨f,fun i j x n l=>?_⟩,fun x b=>?_⟩
 .have a:(x,some j)∈N'.zip caps:=by
   have:(N'.zip caps)[i]?=some (x,some j):=by
    rw[W2];exact⟨n,l⟩
   exact YB this
  have q:=e _ a;simp only[X8,Yg,Xe]at q;exact⟨q.1.1,q.1.2,fun k c=>q.2 _ c rfl⟩
 .exact d _ b rfl
theorem MK{X:Cx}{N:List Str}(h:X.N=N)(d:N.Nodup):X.N.Nodup:=h▸d
theorem Rw{X:Cx}{x:Str}{n:Int}{pos:Pos}(hg:Gl X x)(hm:∃t,X.mg x=some (.int n t))(hd:(x==("__debug__":Str))=false:=by decide):PE X (.Name x pos) (tC (.int n)):=by
 obtain⟨t,e⟩:=hm;exact E3 hg e ⟨t,rfl⟩ hd
structure NJ(P:WV)(w:WZ)(K:J0)(mg:WQ)(base:J6)(x:Str)(k:Nat)(ps:List Str)(dvs:List V)(sp:Sp):Prop where
 ex:∃ (f:J2) (fd:WX) (ds:J5),Ji P w K mg base JN k f fd ps sp/\mg x=some (.ref f)/\W.keepIn K (.ref f)=true/\Td K fd ps ds/\Jd dvs ds
structure Rg(P:WV)(w:WZ)(K:J0)(mg:WQ)(base:J6)(x:Str)(C:J2)(k:Nat)(ps:List Str)(dvs:List V)(sp:Sp):Prop where
 ex:∃ (f:J2) (fd:WX) (ds:J5),Ji P w K mg base JN k f fd ps sp/\mg x=some (.ref C)/\Mk K C f/\Td K fd ps ds/\Jd dvs ds
structure Mi(P:WV)(w:WZ)(K:J0)(mg:WQ)(base:J6)(C:J2)(m:Str)(k:Nat)(ps:List Str)(dvs:List V)(sp:Sp):Prop where
 ex:∃ (f:J2) (fd:WX) (ds:J5),Ji P w K mg base JN k f fd ps sp/\MQ K C/\Lf K C m f/\Td K fd ps ds/\Jd dvs ds
section
variable{X:Cx}{k:Nat}{C:J2}{ps:List Str}{sp:Sp}{dvs:List V}{x m:Str}{p pos apos:Pos}{e o:J7}{es:List Expr}{ta:TE}{t:TA}
theorem Nr(F:NJ X.prog X.w X.K X.mg X.base x k ps dvs sp)(hr:Ju k X.A)(hg:Gl X x)(ha:PA X (e::es) t)(hdb:(x==("__debug__":Str))=false:=by decide)
  (he:starEach (e::es) X.env=(false,eval e X.env)::starEach es X.env:=by rfl) (hpl:(backTo pos (starEach es X.env)).any (·.1)=false:=by rfl):PE X (.Call (.Name x p) (e::es) [] pos) (E8 sp dvs E0 t):=by
 obtain⟨f,fd,ds,G,a,b,c,hd⟩:=F.ex;exact xZ G hr hg a b c hd BX ha hdb he hpl
theorem yR(F:NJ X.prog X.w X.K X.mg X.base x k ps dvs sp)(hr:Ju k X.A)(hg:Gl X x)(hdb:(x==("__debug__":Str))=false:=by decide):PE X (.Call (.Name x p) [] [] pos) (E8 sp dvs E0 Gm):=by
 obtain⟨f,fd,ds,G,a,b,c,hd⟩:=F.ex;exact uD G hr hg a b c hd BX hdb
end
structure Bt(mg:WQ):Prop where
 len:mg "len"=none
 range:mg "range"=none
 isinstance:mg "isinstance"=none
 all:mg "all"=none
 min:mg "min"=none
 max:mg "max"=none
 bint:mg "int"=none
 bbool:mg "bool"=none
 bstr:mg "str"=none
 blist:mg "list"=none
 btuple:mg "tuple"=none
def Nd(a:J2)(H H':Hp):Prop:=∀b o,H b=some o->b≠a->H' b=some o
theorem Nd.refl(a:J2)(H:Hp):Nd a H H:=fun _ _ h _=>h
theorem Nd.trans{a:J2}{H H1 H2:Hp}(x:Nd a H H1)(y:Nd a H1 H2):Nd a H H2:=fun b o h n=>y b o (x b o h n) n
theorem Nd.upd{a:J2}{H:Hp}{o:HO}:Nd a H (upd H a o):=fun b _ h n=>by rw[JY n];exact h
def Ce(g:TG)(tb:TS)(D:Dy)(σ:St)(J:It)(H1:Hp):Prop:=∃W:Nat->Nat->St->Hp->Prop,(∃m,W 0 m σ H1)/\∀i m σ H,W i m σ H->
 (J.stop i H/\D.nx σ H)\/(J.go i H/\∃N:St->Hp->Prop,(∀σ' H',N σ' H'->∃m',m' < m/\W (i+ 1) m' σ' H')/\∀x H',J.yld i H x H'->g x σ H' fun σ2 H2=>tb {D with nx:=N,ct:=N,bk:=D.nx} σ2 H2)
theorem Pg(wi:TI)(g:TG)(tb:TS)(D:Dy)(σ:St)(H:Hp):Lm wi g tb D σ H=wi σ H fun J H1=>Ce g tb D σ J H1:=rfl
theorem RI{K:J0}{a:J2}{xs:List V}{g:TG}{tb:TS}{D:Dy}{σ:St}{H:Hp}(Pv:Nat->St->Hp->Prop)(h0:Pv 0 σ H)(hl:∀i σ H,i <=xs.length->Pv i σ H->Je K H a xs)
  (hs:∀i x σ H,xs[i]?=some x->Pv i σ H->g x σ H fun σ2 H2=>tb {D with nx:=Pv (i+ 1),ct:=Pv (i+ 1),bk:=D.nx} σ2 H2) (hd:∀σ H,Pv xs.length σ H->D.nx σ H):Ce g tb D σ (Rv K a) H:=QE Pv h0 hl hs hd
theorem HJ{lo:Int}{n:Nat}{g:TG}{tb:TS}{D:Dy}{σ:St}{H:Hp}(Pv:Nat->St->Hp->Prop)(h0:Pv 0 σ H)
  (hs:∀i σ H,i < n->Pv i σ H->g (.int (lo+ i)) σ H fun σ2 H2=>tb {D with nx:=Pv (i+ 1),ct:=Pv (i+ 1),bk:=D.nx} σ2 H2) (hd:∀σ H,Pv n σ H->D.nx σ H):Ce g tb D σ (R8 lo n) H:=vH Pv h0 hs hd
theorem JT{n:Nat}(h:n <=100000):n <=sizeLine:=YT h (by rw[YR];decide)
theorem Dq{n:Nat}(h:n <=100000):n < sizeLine:=YH h (by rw[YR];decide)
def DU:HO->Option String
 | .lst _=>some "list"
 | .tup _=>some "tuple"
 | .dK _=>some "dict"
 |_=>none
def Tt(H:Hp):V->Option String
 | .non=>some "NoneType"
 | .bl _=>some "bool"
 | .int _=>some "int"
 | .str _=>some "str"
 | .ref a=>(H a).bind DU
 |_=>none
def E7(n T:String):Bool:=n==T||(n=="bool" && T=="int")
theorem SN{K:J0}{H:Hp}{x:V}{n:String}(h:Tt H x=some n):Ds K H x (.type n)/\n∈["NoneType","bool","int","str","list","tuple","dict"]:=by
 cases x with
 |non=>cases h;exact⟨.non,by simp⟩
 |bl b=>cases h;exact⟨.bl b,by simp⟩
 |int i=>cases h;exact⟨.int i,by simp⟩
 |str i=>cases h;exact⟨.str i,by simp⟩
 |ref a=>
  have h:(H a).bind DU=some n:=h;cases e:H a with
  |none=>rw[e]at h;cases h
  |some o=>
   rw[e]at h;cases o <;> first|(cases h;done)|skip
   .cases h;exact⟨.lst e,by simp⟩
   .cases h;exact⟨.tup e,by simp⟩
   .cases h;exact⟨.dK e,by simp⟩
 |_=>cases h
theorem uZ{K:J0}{n T:String}(hn:n∈["NoneType","bool","int","str","list","tuple","dict"])(hT:T∈["bool","int","str","list","tuple","dict"]):W.kitOne K (.type n) (.type T)=some (E7 n T):=by
 simp only[Yp,W9,Vp]at hn hT;rcases hn with rfl|rfl|rfl|rfl|rfl|rfl|rfl <;> rcases hT with rfl|rfl|rfl|rfl|rfl|rfl <;> rfl
def IB(T:String):List V->Hp->VK->Prop:=fun xs H Q=>∃x n,xs=[x,.ty T]/\Tt H x=some n/\Q (.bl (E7 n T)) H
theorem GC{X:Cx}(T:String)(hT:T∈["bool","int","str","list","tuple","dict"]:=by decide):Jt X (.builtin "isinstance") (IB T):=by
 intro pins s σ H xs a Q I r h;obtain⟨x,n,rfl,ty,q⟩:=h;obtain⟨c,b⟩:=SN (K:=X.K) ty;exact HX pins s σ H _ a Q I r ⟨x,.ty T,_,_,rfl,c,rfl,uZ b hT,q⟩
theorem Bp{H:Hp}{a:J2}{xs:List V}(h:H a=some (.lst xs)):Tt H (.ref a)=some "list":=by show(H a).bind DU=_;rw[h];rfl
theorem nQ{H:Hp}{a:J2}{xs:List V}(h:H a=some (.tup xs)):Tt H (.ref a)=some "tuple":=by show(H a).bind DU=_;rw[h];rfl
theorem n7{H:Hp}{i:Int}:Tt H (.int i)=some "int":=rfl
theorem wO{H:Hp}{i:Bool}:Tt H (.bl i)=some "bool":=rfl
theorem Zp{H:Hp}{i:Str}:Tt H (.str i)=some "str":=rfl
theorem nP{H:Hp}:Tt H .non=some "NoneType":=rfl
def GR:V->Bool
 | .int _=>true
 |_=>false
def Ro:V->Bool
 | .bl _=>true
 |_=>false
def Hq:V->Bool
 | .str _=>true
 |_=>false
def Bq(H:Hp):V->Bool
 | .ref a=>match H a with
  |some (.lst _)=>true
  |_=>false
 |_=>false
theorem Fb{o:HO}{n:String}(h:DU o=some n):n="list"\/n="tuple"\/n="dict":=by
 cases o <;> first|(cases h;done)|(cases h;simp)
theorem QH{H:Hp}{x:V}{n:String}(h:Tt H x=some n):E7 n "int"=(GR x||Ro x):=by
 cases x with
 |ref a=>
  have h:(H a).bind DU=some n:=h;cases e:H a with
  |none=>rw[e]at h;cases h
  |some o=>
   rw[e]at h;rcases Fb h with rfl|rfl|rfl <;> rfl
 |_=>first|(cases h;done)|(cases h;rfl)
theorem OA{H:Hp}{x:V}{n:String}(h:Tt H x=some n):E7 n "bool"=Ro x:=by
 cases x with
 |ref a=>
  have h:(H a).bind DU=some n:=h;cases e:H a with
  |none=>rw[e]at h;cases h
  |some o=>
   rw[e]at h;rcases Fb h with rfl|rfl|rfl <;> rfl
 |_=>first|(cases h;done)|(cases h;rfl)
theorem yJ{H:Hp}{x:V}{n:String}(h:Tt H x=some n):E7 n "str"=Hq x:=by
 cases x with
 |ref a=>
  have h:(H a).bind DU=some n:=h;cases e:H a with
  |none=>rw[e]at h;cases h
  |some o=>
   rw[e]at h;rcases Fb h with rfl|rfl|rfl <;> rfl
 |_=>first|(cases h;done)|(cases h;rfl)
theorem uB{H:Hp}{x:V}{n:String}(h:Tt H x=some n):E7 n "list"=Bq H x:=by
 cases x with
 |ref a=>
  have h:(H a).bind DU=some n:=h;cases e:H a with
  |none=>rw[e]at h;cases h
  |some o=>
   rw[e]at h;have b:Bq H (.ref a)=match some o with|some (.lst _)=>true|_=>false:=by
    show(match H a with|some (.lst _)=>true|_=>false)=_;rw[e]
   rw[b];cases o <;> first|(cases h;done)|(cases h;rfl)
 |_=>first|(cases h;done)|(cases h;rfl)
theorem uW{H:Hp}{x:V}(h:Bq H x=true):∃a xs,x= .ref a/\H a=some (.lst xs):=by
 cases x with
 |ref a=>
  have h:(match H a with|some (.lst _)=>true|_=>false)=true:=h;cases e:H a with
  |none=>rw[e]at h;cases h
  |some o=>
   rw[e]at h;cases o <;> first|(cases h;done)|exact⟨a,_,rfl,e⟩
 |_=>cases h
theorem Ac{H H':Hp}(s:J9 H H'){x:V}{n:String}(h:Tt H x=some n):Tt H' x=some n:=by
 cases x with
 |ref a=>
  have h:(H a).bind DU=some n:=h;show(H' a).bind DU=some n;cases e:H a with
  |none=>rw[e]at h;cases h
  |some o=>rw[s a o e];rw[e]at h;exact h
 |_=>exact h
def MV(x:V)(lo hi:Int):Bool:=match x with
 | .int i=>decide (lo <=i) && decide (i <=hi)
 |_=>false
def EN(c:Nat):Bool:=decide (97 <=c) && decide (c <=122)
def MD:V->Bool
 | .str z=>decide (1 <=z.length) && decide (z.length <=8) && z.cps.toList.all EN
 |_=>false
def DP(H:Hp):V->Bool
 | .ref a=>match H a with
  |some (.lst xs)=>decide (1 <=xs.length) && decide (xs.length <=4000) && xs.all (fun y=>MV y 0 255)
  |_=>false
 |_=>false
theorem OF{H:Hp}{a:J2}{xs:List V}(h:H a=some (.lst xs)):DP H (.ref a)=(decide (1 <=xs.length) && decide (xs.length <=4000) && xs.all (fun y=>MV y 0 255)):=by
 show(match H a with|some (.lst xs)=>decide (1 <=xs.length) && decide (xs.length <=4000) && xs.all (fun y=>MV y 0 255)|_=>false)=_;rw[h]
theorem jO{H:Hp}{x:V}(h:Bq H x=false):DP H x=false:=by
 cases x with
 |ref a=>
  have h:(match H a with|some (.lst _)=>true|_=>false)=false:=h;show(match H a with|some (.lst xs)=>_|_=>false)=false;cases e:H a with
  |none=>rfl
  |some o=>
   rw[e]at h;cases o <;> first|rfl|cases h
 |_=>rfl
theorem J9.new{H H':Hp}{p:J2}{o:HO}(x:J9 H H')(h:H p=none):J9 H (upd H' p o):=fun b u e=>by
 rw[JY (Tg e h)];exact x b u e
theorem vY(c:Nat):((!decide ((⟨#[c]⟩:Str).cps.toList < ("a":Str).cps.toList))=decide (97 <=c))/\((!decide (("z":Str).cps.toList < (⟨#[c]⟩:Str).cps.toList))=decide (c <=122)):=by
 have g:("a":Str).cps.toList=[97]:=by decide +kernel
 have f:("z":Str).cps.toList=[122]:=by decide +kernel
 rw[g,f];have e:(⟨#[c]⟩:Str).cps.toList=[c]:=rfl;rw[e];have d:∀a b:Nat,([a] < [b])↔a < b:=fun a b=>by
  constructor
  .intro h;rcases Wv.mp h with h|⟨_,h⟩
   .exact h
   .exact absurd h (List.not_lt_nil _)
  .intro h;exact Wv.mpr (.inl h)
 constructor
 .rw[YU];simp only[V8,Wg,Yg,d];lia
 .rw[YU];simp only[V8,Wg,Yg,d];lia
def Hh(t:TS):TS:=fun D σ H=>∃R:St->Hp->Prop,t {D with nx:=R} σ H/\∀σ' H',R σ' H'->D.nx σ' H'
theorem DQ{X:Cx}{st:Stmt}{t:TS}(h:PS X st t):PS X st (Hh t):=by
 intro pins s σ H D I b;obtain⟨R,h1,h2⟩:=b;refine Jr (h pins s σ H _ I h1) fun f s' q=>?_
 cases f with
 |next=>obtain⟨σ',H',c,a⟩:=q;exact⟨σ',H',c,h2 σ' H' a⟩
 |brk=>exact q
 |cont=>exact q
 |ret v=>exact q
section
variable{X:Cx}{K:J0}
theorem OD(h:X.K=K):Gk X (Bc K):=h▸QV
theorem Qo(h:X.K=K):Gk X (B8 K):=h▸QP
theorem vQ(h:X.K=K):Rm X (C4 K):=h▸yN
def Al(K:J0):List V->Hp->VK->Prop:=fun xs H Q=>∃p ys,xs=[.ref p]/\(Je K H p ys\/JV K H p ys)/\Q (.int ys.length) H
def HM(K:J0):List V->Hp->VK->Prop:=fun xs H Q=>∃p ys,xs=[.ref p]/\(Je K H p ys\/JV K H p ys)/\∀l,H l=none->Q (.ref l) (upd H l (.lst ys))
def FL(K:J0):List V->Hp->VK->Prop:=fun xs H Q=>∃ (p:J2) (bs:List Bool),xs=[.ref p]/\Je K H p (bs.map V.bl)/\Q (.bl (bs.all id)) H
theorem D2(h:X.K=K):Jt X (.builtin "len") (Al K):=h▸tG
theorem LO(h:X.K=K):Jt X (.type "list") (HM K):=h▸Sj
theorem BY(hc:X.calm=true)(h:X.K=K):Jt X (.builtin "all") (FL K):=h▸uG hc
theorem Bz(hu:X.A.units+ 64 < cLine)(h:X.K=K):JW X (compareOp .Eq) (Ot K):=h▸Qf hu
theorem Hw(hu:X.A.units+ 64 < cLine)(h:X.K=K):JW X (compareOp .NotEq) (Og K):=h▸uT hu
theorem P9(h:X.K=K):JW X (compareOp .In) (LZ K false):=h▸n6
theorem B9{e:J7}{f:Str}{pos:Pos}{ta:TE}(h:X.K=K)(he:PE X e ta)(hb:attributeBase e f X.env (eval e X.env)=eval e X.env):PE X (.Attribute e f pos) (Ct K ta f):=h▸Zw he hb
theorem Eg{o value:J7}{f:Str}{pos pos':Pos}{ta tv:TE}(h:X.K=K)(ha:PE X o ta)(hv:PE X value tv)(hs:swapsWith value (some (.Attribute o f pos')) pos.line X.env=pure false):PS X (.Assign [.Attribute o f pos'] value pos) (Ad K ta tv f):=h▸tK ha hv hs
theorem Rl{es:List Expr}{k:Nat}{t:RL}{n:Nat}{pos:Pos}(h:X.K=K)(hc:X.calm=true)(hg:BJ X es t)
  (hn:(assignEach es X.env).length=n:=by rfl) (hst:(assignEach es X.env).findIdx? (·.1)=none:=by rfl):PG X (.Tuple es k pos) (A5 K n t):=h▸yC hc hg hn hst
theorem jF{tg l:J7}{tl:TE}(h:X.K=K)(hl:PE X l tl):PI X tg l (Ed K tl):=h▸tL hl
theorem DG{o e:J7}{es:List Expr}{to:TE}{t:TA}{name:Str}{apos cpos:Pos}{T id:String}{r:V->List V->Hp->VK->Prop}(h:X.K=K)(pa:PlainAttrs T)(slot:Slot T name id)(hty:typeOf (.builtin id)=pure (.type "method_descriptor"))(hm:AB X id r)(ho:PE X o to)(ha:PA X (e::es) t)
  (hbase:attributeBase o name X.env (eval o X.env)=eval o X.env:=by rfl)
  (hfew : ((backTo cpos (starEach (e :: es) X.env)).all (fun x => !x.1) && (backToKw cpos (keywordEach [] X.env)).all (fun x => x.1.isSome)
   && decide ((e :: es).length + ([] : List Keyword).length + (if ([] : List Keyword).isEmpty then 0 else 1) < 30)) = true := by rfl)
  (hline:(apos.endLine==cpos.line)=true:=by rfl) (hs:starEach (e::es) X.env=(false,eval e X.env)::starEach es X.env:=by rfl) (hplain:(backTo cpos (starEach es X.env)).any (·.1)=false:=by rfl):
  PE X (.Call (.Attribute o name apos) (e::es) [] cpos) (AJ K T r to t):=h▸vC pa slot hty hm ho ha hbase hfew hline hs hplain
end
theorem ML{H:Hp}{p:J2}{o:HO}(h:H p=none):J9 H (upd H p o):=(J9.refl H).new h
section
variable{X:Cx}{es:List Expr}{t:TA}{pos:Pos}
def C7(t:TA):TE:=fun σ H Q=>t σ H fun xs H1=>xs.length <=sizeLine/\∀p G,H1 p=none->J9 H1 G->G p=some (.tup xs)->Q (.ref p) G
def BI(t:TA):TE:=fun σ H Q=>t σ H fun xs H1=>xs.length <=sizeLine/\∀p G,H1 p=none->J9 H1 G->G p=some (.lst xs)->Q (.ref p) G
theorem TY{x1}(h:PA X es t):PE X (.Tuple es x1 pos) (C7 t):=by
 intro pins s σ H Q I f;refine wpAny_Tuple_spliced (Jr (h pos pins s σ H _ I f) fun d a ⟨xs,H1,c,r,z,q⟩=>⟨by rw[<-r.length];exact z,?_⟩);have hf:H1 a.heap.objs.size=none:=c.hok.fresh (Y7 _);refine⟨.ref a.heap.objs.size,upd H1 a.heap.objs.size (.tup xs),c.laid (t':=a.toks) (fun b u e=>Y8 _ e) (Y7 _) ?_,rfl,q _ _ hf (ML hf) ND⟩;exact⟨z,d,r,⟨_,Yh _ rfl,rfl,_,rfl⟩⟩
theorem Mt(h:PA X es t):PE X (.List es pos) (BI t):=by
 intro pins s σ H Q I f;refine wpAny_List_spliced (Jr (h pos pins s σ H _ I f) fun d a ⟨xs,H1,c,r,z,q⟩=>⟨by rw[<-r.length];exact z,?_⟩);have hf:H1 a.heap.objs.size=none:=c.hok.fresh (Y7 _);refine⟨.ref a.heap.objs.size,upd H1 a.heap.objs.size (.lst xs),c.laid (t':=a.toks) (fun b u e=>Y8 _ e) (Y7 _) ?_,rfl,q _ _ hf (ML hf) ND⟩;exact⟨z,d,0,r,Yh _ rfl⟩
end
section
variable{X:Cx}{K:J0}
theorem JW.imp{f:Value->Value->Sem Value}{r r':R2}(h:JW X f r)(hi:∀x y H Q,r' x y H Q->r x y H Q):JW X f r':=fun pins s σ H x y v u Q I rx ry q=>h pins s σ H x y v u Q I rx ry (hi _ _ _ _ q)
theorem Jt.imp{f:J1}{r r':List V->Hp->VK->Prop}(h:Jt X f r)(hi:∀xs H Q,r' xs H Q->r xs H Q):Jt X f r':=fun pins s σ H xs a Q I rx q=>h pins s σ H xs a Q I rx (hi _ _ _ q)
theorem DY.imp{id:String}{r r':V->List V->Hp->VK->Prop}(h:DY X id r)(hi:∀x xs H Q,r' x xs H Q->r x xs H Q):DY X id r':=fun pins s σ H x xs v a Q I rx b q=>h pins s σ H x xs v a Q I rx b (hi _ _ _ _ q)
theorem Rm.imp{r r':V->Option Int->Option Int->Hp->VK->Prop}(h:Rm X r)(hi:∀x a b H Q,r' x a b H Q->r x a b H Q):Rm X r':=fun pins s σ H x v e d lo c f Q I rx j i g q=>h pins s σ H x v e d lo c f Q I rx j i g (hi _ _ _ _ _ q)
theorem DS.imp{t t':AD}(h:DS X t)(hi:∀o i v H Q,t' o i v H Q->t o i v H Q):DS X t':=fun pins s σ H o i v d e u Q I a b c q=>h pins s σ H o i v d e u Q I a b c (hi _ _ _ _ _ q)
def AE:R2:=fun x y H Q=>∃l b xs zs,x= .ref l/\y= .ref b/\H l=some (.lst xs)/\H b=some (.lst zs)/\xs.length+ zs.length <=sizeLine/\∀p G,H p=none->J9 H G->G p=some (.lst (xs++zs))->Q (.ref p) G
theorem CM:JW X (binaryOp .Add) AE:=RY.imp fun x y H Q ⟨l,b,xs,zs,e,d,h1,h2,c,q⟩=>⟨l,b,xs,zs,e,d,h1,h2,c,fun p a=>q p _ a (ML a) ND⟩
def Co:R2:=fun x y H Q=>∃l k xs,x= .ref l/\y= .int k/\H l=some (.lst xs)/\ -(2 ^ 63) <=k/\k < 2 ^ 63/\xs.length*k.toNat <=sizeLine/\∀p G,H p=none->J9 H G->G p=some (.lst (List.replicate k.toNat xs).flatten)->Q (.ref p) G
theorem Sy:JW X (binaryOp .Mult) Co:=Ea.imp fun x y H Q ⟨l,k,xs,e,d,h1,h2,c,b,q⟩=>⟨l,k,xs,e,d,h1,h2,c,b,fun p a=>q p _ a (ML a) ND⟩
def Ap(K:J0):List V->Hp->VK->Prop:=fun xs H Q=>∃p ys,xs=[.ref p]/\(Je K H p ys\/JV K H p ys)/\∀l G,H l=none->J9 H G->G l=some (.lst ys)->Q (.ref l) G
theorem IW(h:X.K=K):Jt X (.type "list") (Ap K):=(LO h).imp fun xs H Q ⟨p,ys,e,h1,q⟩=>⟨p,ys,e,h1,fun l a=>q l _ a (ML a) ND⟩
def CC(K:J0):V->Option Int->Option Int->Hp->VK->Prop:=fun x lo hi H Q=>∃a xs,x= .ref a/\Je K H a xs/\∀p G,H p=none->J9 H G->G p=some (.lst (Dz xs lo hi))->Q (.ref p) G
theorem Pt(h:X.K=K):Rm X (CC K):=(vQ h).imp fun x a b H Q ⟨p,ys,e,h1,q⟩=>⟨p,ys,e,h1,fun l c=>q l _ c (ML c) ND⟩
def Az:V->List V->Hp->VK->Prop:=fun x vs H Q=>∃l xs y,x= .ref l/\vs=[y]/\H l=some (.lst xs)/\xs.length < sizeLine/\∀G,Nd l H G->G l=some (.lst (xs++[y]))->Q .non G
theorem Gw:DY X "list.append" Az:=DR.imp fun x xs H Q ⟨l,ys,y,b,a,h1,h2,q⟩=>⟨l,ys,y,b,a,h1,h2,q _ Nd.upd ND⟩
def Fc:V->List V->Hp->VK->Prop:=fun x vs H Q=>∃l xs y,x= .ref l/\vs=[]/\H l=some (.lst xs)/\xs[xs.length - 1]?=some y/\∀G,Nd l H G->G l=some (.lst xs.dropLast)->Q y G
theorem Ql:DY X "list.pop" Fc:=E2.imp fun x xs H Q ⟨l,ys,y,b,a,h1,h2,q⟩=>⟨l,ys,y,b,a,h1,h2,q _ Nd.upd ND⟩
def F2:V->List V->Hp->VK->Prop:=fun x vs H Q=>∃l xs,x= .ref l/\vs=[]/\H l=some (.lst xs)/\∀G,Nd l H G->G l=some (.lst [])->Q .non G
theorem xT:DY X "list.clear" F2:=Gv.imp fun x xs H Q ⟨l,ys,b,a,h1,q⟩=>⟨l,ys,b,a,h1,q _ Nd.upd ND⟩
def HB:V->V->V->Hp->(Hp->Prop)->Prop:=fun o i v H Q=>∃p xs k j,o= .ref p/\i= .int k/\H p=some (.lst xs)/\Gp xs.length k=some j/\∀G,Nd p H G->G p=some (.lst (xs.set j v))->Q G
theorem jM:DS X HB:=GB.imp fun o i v H Q ⟨p,xs,k,j,b,a,h1,h2,q⟩=>⟨p,xs,k,j,b,a,h1,h2,q _ Nd.upd ND⟩
def Ix(K:J0)(ta tv:TE)(f:Str):TS:=fun D σ H=>tv σ H fun y H1=>ta σ H1 fun x H2=>∃a C dx fs,x= .ref a/\H2 a=some (.ins C dx fs)/\MQ K C/\JC K C f/\fs.length < 1000/\
 ∀G,Nd a H2 G->G a=some (.ins C dx (No f y fs))->D.nx σ G
theorem Gx{o value:J7}{f:Str}{pos pos':Pos}{ta tv:TE}(h:X.K=K)(ha:PE X o ta)(hv:PE X value tv)(hs:swapsWith value (some (.Attribute o f pos')) pos.line X.env=pure false):PS X (.Assign [.Attribute o f pos'] value pos) (Ix K ta tv f):=by
 subst h;intro pins s σ H D I h;refine Vs (Jr (hv pins s σ H _ I h) fun u b ⟨y,H1,p,ry,q⟩=>Jr (ha pins b σ H1 _ p q) fun e v ⟨x,H2,j,rx,a,C,dx,fs,ex,g,c,n,l,d⟩=>?_) hs;subst ex;obtain rfl:e=Value.ref a:=rx;exact Lz j g c n l ry fun r i=>⟨σ,_,i,d _ Nd.upd ND⟩
end
def TQ(K:J0)(H:Hp)(x:V)(f:Str)(v:V):Prop:=∃a C dx fs,x= .ref a/\H a=some (.ins C dx fs)/\MQ K C/\JC K C f/\fs.lookup f=some v
def Cj(K:J0)(ta:TE)(f:Str):TE:=fun σ H Q=>ta σ H fun x H1=>∃v,TQ K H1 x f v/\Q v H1
theorem Qx{X:Cx}{K:J0}{e:J7}{f:Str}{pos:Pos}{ta:TE}(h:X.K=K)(he:PE X e ta)(hb:attributeBase e f X.env (eval e X.env)=eval e X.env):PE X (.Attribute e f pos) (Cj K ta f):=by
 subst h;intro pins s σ H Q I h;refine OK hb (Jr (he pins s σ H _ I h) fun u o ⟨x,H1,g,rx,v,⟨a,C,dx,fs,ex,b,c,n,l⟩,q⟩=>?_);subst ex;obtain rfl:u=Value.ref a:=rx;exact O6 g b c n l fun i j d ru=>⟨v,H1,d,ru,q⟩
theorem Oi{X:Cx}{K:J0}{o:J7}{to:TE}{name:Str}{apos cpos:Pos}{T id:String}{r:V->List V->Hp->VK->Prop}(h:X.K=K)(pa:PlainAttrs T)(slot:Slot T name id)(hty:typeOf (.builtin id)=pure (.type "method_descriptor"))(hm:AB X id r)(ho:PE X o to)
  (hbase:attributeBase o name X.env (eval o X.env)=eval o X.env:=by rfl) (hline:(apos.endLine==cpos.line)=true:=by rfl):PE X (.Call (.Attribute o name apos) [] [] cpos) (CN K T r to):=h▸vP pa slot hty hm ho hbase hline
structure Gr(P:WV)(w:WZ)(K:J0)(mg:WQ)(base:J6)(x:Str)(k:Nat)(sp:Sp):Prop where
 ex:∃ (f C:J2) (fd:WX) (ds:J5) (dvs:List V) (ps:List Str) (sp0:Sp),Ji P w K mg base JN k f fd ps sp0/\mg x=some (.ref C)/\Mk K C f/\Td K fd ps ds/\Jd dvs ds/\
  ∀vs H Q,sp vs H Q E0->∀y dx G,H y=none->H dx=none->dx≠y->J9 H G->G y=some (.ins C dx [])->sp0 (.ref y::(vs++dvs)) G (fun v H2=>v= .non/\Q (.ref y) H2) E0
theorem Rg.ct{P:WV}{w:WZ}{K:J0}{mg:WQ}{base:J6}{x:Str}{C:J2}{k:Nat}{ps:List Str}{dvs:List V}{sp sp':Sp}(F:Rg P w K mg base x C k ps dvs sp)
  (h:∀vs H Q,sp' vs H Q E0->∀y dx G,H y=none->H dx=none->dx≠y->J9 H G->G y=some (.ins C dx [])->sp (.ref y::(vs++dvs)) G (fun v H2=>v= .non/\Q (.ref y) H2) E0):Gr P w K mg base x k sp':=by
 obtain⟨f,fd,ds,G,a,M,b,hd⟩:=F.ex;exact⟨f,C,fd,ds,dvs,ps,sp,G,a,M,b,hd,h⟩
theorem Ey{X:Cx}{k:Nat}{sp:Sp}{x:Str}{p pos:Pos}{e:J7}{es:List Expr}{t:TA}(F:Gr X.prog X.w X.K X.mg X.base x k sp)(hr:Ju (k+ 1) X.A)(hg:Gl X x)(ha:PA X (e::es) t)(hdb:(x==("__debug__":Str))=false:=by decide)
  (he:starEach (e::es) X.env=(false,eval e X.env)::starEach es X.env:=by rfl) (hpl:(backTo pos (starEach es X.env)).any (·.1)=false:=by rfl):PE X (.Call (.Name x p) (e::es) [] pos) (E8 sp [] E0 t):=by
 obtain⟨f,C,fd,ds,dvs,ps,j,G,g,M,i,hd,hi⟩:=F.ex;intro pins s σ H Q I h;refine XU (AA I hg g ?_ hdb);refine W.callWith_K (h₀:=X.base) I.ok.mod.kin M.kp (Jr (ha pos pins s σ H _ I h) fun l n ⟨vs,H1,c,r,q⟩=>⟨c.kIn,?_⟩) he hpl;have q:sp (vs++[]) H1 Q E0:=q;rw[List.append_nil]at q;exact Qq M G hr i hd BX c r fun y dx b a d=>hi _ _ _ q y dx _ b a d ((ML a).new b) ND
def Rk(C:J2)(m:Str)(H:Hp)(x:V):Prop:=∃a dx fs,x= .ref a/\H a=some (.ins C dx fs)/\fs.lookup m=none
def Ak(C:J2)(m:Str)(sp:Sp)(dvs:List V)(ta:TE)(t:TA):TE:=fun σ H Q=>ta σ H fun x H1=>Rk C m H1 x/\t σ H1 fun vs H2=>sp (x::(vs++dvs)) H2 Q E0
section
variable{X:Cx}{k:Nat}{C:J2}{ps:List Str}{sp:Sp}{dvs:List V}{m:Str}{pos apos:Pos}{e o:J7}{es:List Expr}{ta:TE}{t:TA}
theorem A1{pl:Sem Bool}(he:PE X o ta)(F:Mi X.prog X.w X.K X.mg X.base C m k ps dvs sp)(hr:Ju k X.A)(ha:PA X (e::es) t)
  (hst:starEach (e::es) X.env=(false,eval e X.env)::starEach es X.env:=by rfl) (hpl:(backTo pos (starEach es X.env)).any (·.1)=false:=by rfl)
  (ht : eval (.Call (.Attribute o m apos) (e :: es) [] pos) X.env = (do
   let ov <-eval o X.env
   standAt apos.atName
   let (f,first) <-holding [ov] (getMethod ov m pl)
   callWith pos f first (backTo pos (starEach (e :: es) X.env)) (backToKw pos (keywordEach [] X.env))) := by rfl) :
  PE X (.Call (.Attribute o m apos) (e::es) [] pos) (Ak C m sp dvs ta t):=by
 obtain⟨f,fd,ds,G,c,b,n,hd⟩:=F.ex;intro pins s σ H Q I h;refine W.methodCall_KW (pl:=pl) (Jr (he pins s σ H _ I h) fun u i ⟨x,H1,g,rx,⟨a,dx,fs,ex,p,l⟩,q⟩=>?_) ht;subst ex;obtain rfl:u=Value.ref a:=rx;refine Lo g p c b l ?_;refine W.callWith_K (first:=[.ref a]) (h₀:=X.base) I.ok.mod.kin b.kp (Jr (ha pos pins i σ H1 _ g q) fun us v ⟨vs,H2,d,r,j⟩=>⟨d.kIn,?_⟩) hst hpl;exact C0 (us:=.ref a::us) (vs:=.ref a::vs) G hr n hd BX d (.cons rfl r) j
theorem Gh{pl:Sem Bool}(he:PE X o ta)(F:Mi X.prog X.w X.K X.mg X.base C m k ps dvs sp)(hr:Ju k X.A)
  (ht : eval (.Call (.Attribute o m apos) [] [] pos) X.env = (do
   let ov <-eval o X.env
   standAt apos.atName
   let (f,first) <-holding [ov] (getMethod ov m pl)
   callWith pos f first (backTo pos (starEach [] X.env)) (backToKw pos (keywordEach [] X.env))) := by rfl) :
  PE X (.Call (.Attribute o m apos) [] [] pos) (Ak C m sp dvs ta Gm):=by
 obtain⟨f,fd,ds,G,c,d,e,hd⟩:=F.ex;intro pins s σ H Q I h;refine W.methodCall_KW (pl:=pl) (Jr (he pins s σ H _ I h) fun u i ⟨x,H1,b,rx,⟨a,dx,fs,ex,g,l⟩,q⟩=>?_) ht;subst ex;obtain rfl:u=Value.ref a:=rx;refine Lo b g c d l ?_;exact W.callWith_K0 (first:=[.ref a]) b.kIn d.kp (C0 (us:=[.ref a]) (vs:=[.ref a]) G hr e hd BX b (.cons rfl .nil) q)
end
theorem J9.get{H G:Hp}{b:J2}{o:HO}(s:J9 H G)(h:H b=some o):G b=some o:=s b o h
theorem Nd.get{l:J2}{H G:Hp}{b:J2}{o:HO}(s:Nd l H G)(h:H b=some o)(n:b≠l):G b=some o:=s b o h n
theorem J9.butNew{l:J2}{H H' G:Hp}(s:J9 H H')(b:Nd l H' G)(h:H l=none):J9 H G:=fun c o e=>b c o (s c o e) (Tg e h)
theorem Nd.free{l:J2}{H G:Hp}(s:Nd l H G){b:J2}(h:G b=none)(n:b≠l):H b=none:=by
 cases e:H b with
 |none=>rfl
 |some o=>rw[s b o e n]at h;cases h
section
variable{caps:List (Option Nat)}{g:TG}{tc:TT}{te:TE}
theorem GT{K:J0}{a:J2}{xs:List V}{σ:St}{H1:Hp}{Q:VK}(Pv:Nat->List V->St->Hp->Prop)(h0:Pv 0 [] (NR caps σ) H1)(hl:∀i ys σ H,Pv i ys σ H->i <=xs.length->Je K H a xs/\ys.length <=i)(hz:xs.length <=sizeLine)
  (hs:∀i x ys σ H,xs[i]?=some x->Pv i ys σ H->g x σ H fun σ2 H2=>tc σ2 H2 fun b H3=>if b=true then te σ2 H3 fun y H4=>Pv (i+ 1) (ys++[y]) σ2 H4 else Pv (i+ 1) ys σ2 H3)
  (hd:∀ys σ H,Pv xs.length ys σ H->∀p G,H p=none->J9 H G->G p=some (.lst ys)->Q (.ref p) G):Ek caps g tc te σ Q (Rv K a) H1:=
 PY Pv h0 hl hz hs fun ys σ H h p c=>hd ys σ H h p _ c (ML c) ND
theorem Aw{lo:Int}{n:Nat}{σ:St}{H1:Hp}{Q:VK}(Pv:Nat->List V->St->Hp->Prop)(h0:Pv 0 [] (NR caps σ) H1)(hl:∀i ys σ H,Pv i ys σ H->i <=n->ys.length <=i)(hz:n <=sizeLine)
  (hs:∀i ys σ H,i < n->Pv i ys σ H->g (.int (lo+ i)) σ H fun σ2 H2=>tc σ2 H2 fun b H3=>if b=true then te σ2 H3 fun y H4=>Pv (i+ 1) (ys++[y]) σ2 H4 else Pv (i+ 1) ys σ2 H3)
  (hd:∀ys σ H,Pv n ys σ H->∀p G,H p=none->J9 H G->G p=some (.lst ys)->Q (.ref p) G):Ek caps g tc te σ Q (R8 lo n) H1:=
 yO Pv h0 hl hz hs fun ys σ H h p a=>hd ys σ H h p _ a (ML a) ND
end
structure RM(K:J0)(C:J2):Prop where
 ha:W.findIn K (.ref C) "__class__"=some (some (.builtin "object.__class__"))
 hn:W.specialIn K (.builtin "object.__class__") "__get__"=some (some (.builtin "getset_descriptor.__get__"))
 htk:W.takesIn K (.builtin "object.__class__")=some true
 hm:W.mroIn K C (.type "object")=some true
def Hf(C:J2):List V->Hp->VK->Prop:=fun xs H Q=>∃a dx fs,xs=[.ref a,.ref C]/\H a=some (.ins C dx fs)/\Q (.bl true) H
theorem uJ{X:Cx}{K:J0}{C:J2}(h:X.K=K)(cl:MQ K C)(ic:RM K C):Jt X (.builtin "isinstance") (Hf C):=by
 subst h;intro pins s σ H xs b Q I r hh;obtain⟨a,dx,fs,rfl,ha,q⟩:=hh;refine HX pins s σ H _ b Q I r ⟨.ref a,.ref C,.ref C,true,rfl,.ins ha cl ic.ha ic.hn ic.htk ic.hm,rfl,?_,q⟩;show W.kitOne X.K (.ref C) (.ref C)=some true;unfold W.kitOne;rw[Y3 (by simp)]
section
variable{P:WV}{w:WZ}{K:J0}{mg:WQ}{base:J6}
theorem Mi.imp{C:J2}{m:Str}{k:Nat}{ps:List Str}{dvs:List V}{sp sp':Sp}(F:Mi P w K mg base C m k ps dvs sp)(h:∀vs H Q E,sp' vs H Q E->sp vs H Q E):Mi P w K mg base C m k ps dvs sp':=by
 obtain⟨f,fd,ds,a,b,c,d,e⟩:=F.ex;exact⟨f,fd,ds,a.imp h,b,c,d,e⟩
end
theorem Nt{t u:TS}{D:Dy}{σ:St}{H:Hp}(h:∀N:St->Hp->Prop,(∀σ' H',u D σ' H'->N σ' H')->t {D with nx:=N} σ H):A8 t u D σ H:=h (u D) fun _ _ x=>x
theorem wR(ns:J3){lo hi:Nat}(h1:lo <=hi)(h2:hi <=ns.length):Dz (ns.map V.int) (some (lo:Int)) (some (hi:Int))=((ns.drop lo).take (hi - lo)).map V.int:=by
 unfold Dz;rw[HT.sIx_nat,HT.sIx_nat,Y4,Uo h2,Uo (YT h1 h2),List.map_take,VS]
section
variable{κ:Type}[DecidableEq κ]
def JD(kvs:List (κ×V))(k:κ):Option V:=(kvs.find? fun kv=>decide (kv.1=k)).map (·.2)
def M8(kvs:List (κ×V))(k:κ)(v:V):List (κ×V):=
 if(kvs.any fun kv=>decide (kv.1=k))=true then kvs.map (fun kv=>if kv.1=k then(kv.1,v) else kv) else kvs++[(k,v)]
theorem Gs{p:κ×V}{r:List (κ×V)}{k:κ}(e:p.1=k):JD (p::r) k=some p.2:=by simp[JD,XJ,e]
theorem Gu{p:κ×V}{r:List (κ×V)}{k:κ}(e:¬p.1=k):JD (p::r) k=JD r k:=by simp[JD,XJ,e]
theorem Aq(k:κ):∀kvs:List (κ×V),(kvs.any fun kv=>decide (kv.1=k))=(JD kvs k).isSome
 |[]=>rfl
 |p::r=>by
  rw[Uk]
  by_cases e:p.1=k
  .simp only[Gs e,Yk e,Bool.true_or,Option.isSome_some]
  .rw[Gu e,Ys e,Bool.false_or];exact Aq k r
theorem KH(k j:κ)(y:V):∀kvs:List (κ×V),JD (kvs.map fun kv=>if kv.1=k then(kv.1,y) else kv) j=(JD kvs j).map fun x=>if j=k then y else x
 |[]=>rfl
 |p::r=>by
  have ih:=KH k j y r;rw[List.map_cons]
  by_cases h:p.1=k
  .rw[Y3 h]
   by_cases e:p.1=j
   .rw[Gs (p:=(p.1,y)) e,Gs e,VB,Y3 (e.symm.trans h)]
   .rw[Gu (p:=(p.1,y)) e,Gu e,ih]
  .rw[Y1 h]
   by_cases e:p.1=j
   .rw[Gs (p:=p) e,Gs e,VB,Y1 (fun z=>h (e.trans z))]
   .rw[Gu (p:=p) e,Gu e,ih]
theorem Om(k j:κ)(y:V):∀kvs:List (κ×V),JD kvs k=none->JD (kvs++[(k,y)]) j=if j=k then some y else JD kvs j
 |[],_=>by
  by_cases e:k=j
  .rw[Y3 e.symm];exact Gs (p:=(k,y)) e
  .rw[Y1 (fun z=>e z.symm)];exact Gu (p:=(k,y)) e
 |p::r,hn=>by
  rw[List.cons_append];have hk:¬p.1=k:=fun z=>by rw[Gs z]at hn;cases hn
  rw[Gu hk]at hn;have a:=Om k j y r hn
  by_cases e:p.1=j
  .rw[Gs e,Gs e,Y1 (fun z=>hk (e.trans z))]
  .rw[Gu e,Gu e,a]
theorem Zs(kvs:List (κ×V))(k j:κ)(y:V):JD (M8 kvs k y) j=if j=k then some y else JD kvs j:=by
 unfold M8
 by_cases a:(kvs.any fun b=>decide (b.1=k))=true
 .rw[Y3 a,KH];rw[Aq]at a
  by_cases e:j=k
  .obtain⟨x,c⟩:=UV.mp a;rw[Y3 e,e,c,VB,Y3 rfl]
  .rw[Y1 e];cases JD kvs j with
   |none=>rfl
   |some x=>rw[VB,Y1 e]
 .rw[Y1 a];refine Om k j y kvs ?_;rw[Aq]at a;cases q:JD kvs k with
  |none=>rfl
  |some x=>rw[q]at a;exact(a rfl).elim
theorem F9(kvs:List (κ×V))(k:κ)(v:V):(M8 kvs k v).length <=kvs.length+ 1:=by
 unfold M8
 split
 .rw[Y4];lia
 .rw[List.length_append,List.length_cons,List.length_nil];lia
theorem Th.isSome_eq{o:Option V}{u:Option Value}(r:Th o u):o.isSome=u.isSome:=by
 cases o with
 |none=>cases u with
  |none=>rfl
  |some _=>exact(show False from r).elim
 |some _=>cases u with
  |none=>exact(show False from r).elim
  |some _=>rfl
theorem KV.val{kvs:List (κ×V)}{vs:List (κ×Value)}(r:KV kvs vs)(k:κ):Th (JD kvs k) (valueAt vs k):=by
 unfold KV at r
 induction r with
 |nil=>exact True.intro
 |@cons p q ps qs h t ih=>
  obtain⟨h1,h2⟩:=h
  by_cases e:p.1=k
  .have a:q.1=k:=h1.symm.trans e;have b:valueAt (q::qs) k=some q.2:=by simp[valueAt,XJ,a]
   rw[Gs e,b];exact h2
  .have a:¬q.1=k:=fun z=>e (h1.trans z)
   have b:valueAt (q::qs) k=valueAt qs k:=by simp[valueAt,XJ,a]
   rw[Gu e,b];exact ih
theorem KV.any{kvs:List (κ×V)}{vs:List (κ×Value)}(r:KV kvs vs)(k:κ):(kvs.any fun kv=>decide (kv.1=k))=vs.any fun kv=>decide (kv.1=k):=by
 unfold KV at r
 induction r with
 |nil=>rfl
 |cons h t ih=>rw[Uk,Uk,ih,h.1]
theorem KV.repl{kvs:List (κ×V)}{vs:List (κ×Value)}(r:KV kvs vs)(k:κ){y:V}{u:J1}(ry:Jg y u):
  KV (kvs.map fun kv=>if kv.1=k then(kv.1,y) else kv) (vs.map fun kv=>if kv.1=k then(kv.1,u) else kv):=by
 unfold KV at r ⊢
 induction r with
 |nil=>exact .nil
 |@cons p q ps qs h t ih=>
  rw[List.map_cons,List.map_cons];refine .cons ?_ ih;obtain⟨h1,h2⟩:=h
  by_cases e:p.1=k
  .rw[Y3 e,Y3 (h1.symm.trans e)];exact⟨h1,ry⟩
  .rw[Y1 e,Y1 (fun z=>e (h1.trans z))];exact⟨h1,h2⟩
theorem KV.put{kvs:List (κ×V)}{vs:List (κ×Value)}(r:KV kvs vs)(k:κ){y:V}{u:J1}(ry:Jg y u):KV (M8 kvs k y) (stored vs k u):=by
 unfold M8 stored;rw[r.any k]
 by_cases e:(vs.any fun a=>decide (a.1=k))=true
 .rw[Y3 e,Y3 e];exact r.repl k ry
 .rw[Y1 e,Y1 e];exact Paired.snoc r ⟨rfl,ry⟩
theorem KV.keys{kvs:List (κ×V)}{vs:List (κ×Value)}(r:KV kvs vs):kvs.map (·.1)=vs.map (·.1):=by
 unfold KV at r
 induction r with
 |nil=>rfl
 |cons h t ih=>rw[List.map_cons,List.map_cons,ih,h.1]
theorem KV.length{kvs:List (κ×V)}{vs:List (κ×Value)}(r:KV kvs vs):kvs.length=vs.length:=Paired.length r
end
theorem Ei{P:WV}{w:WZ}{k:Jv}{u:J1}(r:Jg (kV k) u):(Jk P w).is k u=true:=by
 cases k with
 |inl i=>obtain⟨t,e⟩:=(show ∃t,u=Value.int i t from r);subst e;exact QQ P w i t
 |inr x=>obtain⟨t,e⟩:=(show ∃t,u=Value.str x t from r);subst e;exact Zh P w x t
theorem A6{P:WV}{w:WZ}:∀{ks:List Jv} {us:J5},Jd (ks.map kV) us->ItemsAre (Jk P w) ks us
 |[],_,r=>by rw[List.map_nil]at r;cases r;exact .nil
 |k::ks,_,r=>by
  rw[List.map_cons]at r;cases r with
  |cons h t=>exact .cons (Ei h) (A6 t)
abbrev KT(H:Hp):List (List Jv×V)->List (List Jv×Addr×Value)->Prop:=Paired fun p q=>p.1=q.1/\H q.2.1=some (.tup (p.1.map kV))/\Jg p.2 q.2.2
theorem KT.val{H:Hp}{kvs:List (List Jv×V)}{xs:List (List Jv×Addr×Value)}(r:KT H kvs xs)(k:List Jv):Th (JD kvs k) ((atKey xs k).map (·.2)):=by
 induction r with
 |nil=>exact True.intro
 |@cons p q ps qs h t ih=>
  obtain⟨h1,_,h2⟩:=h
  by_cases e:p.1=k
  .have a:q.1=k:=h1.symm.trans e;have b:atKey (q::qs) k=some q.2:=by simp[atKey,XJ,a]
   rw[Gs e,b];exact h2
  .have a:¬q.1=k:=fun z=>e (h1.trans z)
   have b:atKey (q::qs) k=atKey qs k:=by simp[atKey,XJ,a]
   rw[Gu e,b];exact ih
theorem KT.repl{H:Hp}{kvs:List (List Jv×V)}{xs:List (List Jv×Addr×Value)}(r:KT H kvs xs)(k:List Jv){y:V}{u:J1}(ry:Jg y u):
  KT H (kvs.map fun kv=>if kv.1=k then(kv.1,y) else kv) (xs.map (putAt k u)):=by
 induction r with
 |nil=>exact .nil
 |@cons p q ps qs h t ih=>
  rw[List.map_cons,List.map_cons];refine .cons ?_ ih;obtain⟨h1,h2,a⟩:=h;unfold putAt
  by_cases e:p.1=k
  .rw[Y3 e,Y3 (h1.symm.trans e)];exact⟨h1,h2,ry⟩
  .rw[Y1 e,Y1 (fun z=>e (h1.trans z))];exact⟨h1,h2,a⟩
theorem KT.put{H:Hp}{kvs:List (List Jv×V)}{xs:List (List Jv×Addr×Value)}(r:KT H kvs xs)(k:List Jv){b:J2}{y:V}{u:J1}(hb:H b=some (.tup (k.map kV)))(ry:Jg y u):
  KT H (M8 kvs k y) (storedH xs k b u):=by
 have e:(kvs.any fun a=>decide (a.1=k))=(atKey xs k).isSome:=by
  rw[Aq,(r.val k).isSome_eq,U2]
 unfold M8 storedH;rw[e]
 by_cases q:(atKey xs k).isSome=true
 .rw[Y3 q,Y3 q];exact r.repl k ry
 .rw[Y1 q,Y1 q];exact Paired.snoc r ⟨rfl,hb,ry⟩
theorem KT.keeps{H H':Hp}{kvs:List (List Jv×V)}{xs:List (List Jv×Addr×Value)}(r:KT H kvs xs)(ht:∀b ys,H b=some (.tup ys)->H' b=some (.tup ys)):KT H' kvs xs:=
 Paired.mapP r fun _ _ z=>⟨z.1,ht _ _ z.2.1,z.2.2⟩
section
variable{P:WV}{w:WZ}{H:Hp}{h:J6}{a:J2}
theorem Oa{u:HO}(ok:To P w H h)(e:Rd H a u):Jy P w H h a u:=e.ok ok
theorem BQ{kvs:List (Jv×V)}(ok:To P w H h)(e:Rd H a (.dK kvs)):kvs.length <=sizeLine/\(a==sysModules)=false/\∃vs,KV kvs vs/\h.DictOf (Jk P w) a vs:=
 show Jy P w H h a (.dK kvs) from Oa ok e
theorem C5{kvs:List (Jv×V)}(ok:To P w H h)(e:H a=some (.dK kvs)):kvs.length <=sizeLine/\(a==sysModules)=false/\∃vs,KV kvs vs/\h.DictOf (Jk P w) a vs:=BQ ok (.inl e)
theorem E1{ks:List Jv}(ok:To P w H h)(e:H a=some (.tup (ks.map kV))):(tupleKind (Jk P w)).is h ks a:=by
 obtain⟨_,b,r,o,h1,h2,n,c⟩:=(show Jy P w H h a (.tup (ks.map kV)) from ok a _ e);exact⟨o,b.toArray,n,h1,h2,c,by simpa using A6 r⟩
theorem BV{kvs:List (List Jv×V)}(ok:To P w H h)(e:Rd H a (.dT kvs)):kvs.length <=sizeLine/\(a==sysModules)=false/\
  ∃xs,KT H kvs xs/\h.DictOfH (tupleKind (Jk P w)) a xs:=by
 obtain⟨z,y,xs,r,o,es,ep,h1,h2,f,d,c⟩:=(show Jy P w H h a (.dT kvs) from Oa ok e);refine⟨z,y,xs,r,o,es,ep,h1,h2,f,d,fun x b=>?_,c⟩;have all:∀{l:List (List Jv×V)} {m:List (List Jv×Addr×Value)},KT H l m->∀x∈m,(tupleKind (Jk P w)).is h x.1 x.2.1:=by
  intro l m q
  induction q with
  |nil=>intro x b;exact nomatch b
  |@cons p q ps qs hq t ih=>
   intro x b;rcases Yp.mp b with e|b
   .subst e;exact E1 ok (by rw[<-hq.1];exact hq.2.1)
   .exact ih x b
 exact all r x b
theorem O0{kvs:List (List Jv×V)}(ok:To P w H h)(e:H a=some (.dT kvs)):kvs.length <=sizeLine/\(a==sysModules)=false/\
  ∃xs,KT H kvs xs/\h.DictOfH (tupleKind (Jk P w)) a xs:=BV ok (.inl e)
end
def Nh(H:Hp)(a:J2)(y:V)(r:Option V):Prop:=
 (∃kvs k,Rd H a (.dK kvs)/\y=kV k/\r=JD kvs k)\/∃kvs k b,Rd H a (.dT kvs)/\y= .ref b/\H b=some (.tup (k.map kV))/\r=JD kvs k
def GI(H:Hp)(a:J2)(y v:V)(H':Hp):Prop:=
 (∃kvs k,H a=some (.dK kvs)/\y=kV k/\kvs.length < sizeLine/\H'=upd H a (.dK (M8 kvs k v)))\/
 ∃kvs k b,H a=some (.dT kvs)/\y= .ref b/\H b=some (.tup (k.map kV))/\kvs.length < sizeLine/\H'=upd H a (.dT (M8 kvs k v))
theorem Nh.k{H:Hp}{a:J2}{kvs:List (Jv×V)}{k:Jv}(e:H a=some (.dK kvs)):Nh H a (kV k) (JD kvs k):=.inl ⟨kvs,k,.inl e,rfl,rfl⟩
theorem Nh.t{H:Hp}{a b:J2}{kvs:List (List Jv×V)}{k:List Jv}(e:H a=some (.dT kvs))(eb:H b=some (.tup (k.map kV))):Nh H a (.ref b) (JD kvs k):=.inr ⟨kvs,k,b,.inl e,rfl,eb,rfl⟩
theorem GI.k{H:Hp}{a:J2}{kvs:List (Jv×V)}{k:Jv}{v:V}(e:H a=some (.dK kvs))(hl:kvs.length < sizeLine):GI H a (kV k) v (upd H a (.dK (M8 kvs k v))):=.inl ⟨kvs,k,e,rfl,hl,rfl⟩
section
variable{X:Cx}{pins:WU}{σ:St}{H:Hp}{s:WW}{a:J2}{y v:V}{u r:J1}{o:Option V}{A:WY}{E:WR}
theorem Jb.big(I:Jb X pins σ H s):sysModules < s.heap.objs.size:=by
 have h:mainGlobals < s.heap.objs.size:=(I.mod.glob.keeps I.bk).lt;exact Nat.lt_trans (by decide) h
theorem jC{Q:WR}(hu:A.units+ 1 < cLine)(I:Jb X pins σ H s)(g:Nh H a y (some v))(ry:Jg y u)(h:∀w' s',Jb X pins σ H s'->Jg v w'->Q w' s'):
  wpAny (model X.prog X.w) A (getItem (.ref a) u) Q E s:=by
 rcases g with⟨kvs,k,e,ey,l⟩|⟨kvs,k,b,e,ey,eb,l⟩
 .subst ey;obtain⟨z,hd,vs,d,i⟩:=BQ I.hok e;obtain⟨w',f,c⟩:=Th.some_of (v:=v) (o:=valueAt vs k) (by rw[l];exact d.val k);exact wpAny_getItem_of (Ei ry) i.mapOf f (h w' _ (I.tok _) c)
 .subst ey;cases (show u=Value.ref b from ry);obtain⟨z,hd,xs,d,i⟩:=BV I.hok e;obtain⟨w',f,c⟩:=Th.some_of (v:=v) (o:=(atKey xs k).map (·.2)) (by rw[l];exact d.val k);obtain⟨p,n,j⟩:=YE.mp f;refine wpAny_getItem_heap (Up hu) (E1 I.hok eb) i n ?_;rw[j];exact h w' _ (I.tok _) c
theorem Z5{Q:WR}(hu:A.units+ 1 < cLine)(I:Jb X pins σ H s)(g:Nh H a y o)(ry:Jg y u)(h:∀s',Jb X pins σ H s'->Q (.bool o.isSome) s'):
  wpAny (model X.prog X.w) A (compareOp .In u (.ref a)) Q E s:=by
 rcases g with⟨kvs,k,e,ey,l⟩|⟨kvs,k,b,e,ey,eb,l⟩
 .subst ey;obtain⟨z,hd,vs,c,d⟩:=BQ I.hok e;refine wpAny_in_of (Ei ry) hd d.mapOf ?_;rw[<-(c.val k).isSome_eq,<-l];exact h _ (I.tok _)
 .subst ey;cases (show u=Value.ref b from ry);obtain⟨z,hd,xs,c,d⟩:=BV I.hok e;refine wpAny_in_heap (Up hu) (E1 I.hok eb) hd d ?_;have q:=(c.val k).isSome_eq;rw[U2]at q;rw[<-q,<-l];exact h _ (I.tok _)
theorem nN{Q:WR}(hu:A.units+ 1 < cLine)(I:Jb X pins σ H s)(g:Nh H a y o)(ry:Jg y u)(h:∀s',Jb X pins σ H s'->Q (.bool (!o.isSome)) s'):
  wpAny (model X.prog X.w) A (compareOp .NotIn u (.ref a)) Q E s:=by
 rcases g with⟨kvs,k,e,ey,l⟩|⟨kvs,k,b,e,ey,eb,l⟩
 .subst ey;obtain⟨z,hd,vs,c,d⟩:=BQ I.hok e;refine wpAny_notIn_of (Ei ry) hd d.mapOf ?_;rw[<-(c.val k).isSome_eq,<-l];exact h _ (I.tok _)
 .subst ey;cases (show u=Value.ref b from ry);obtain⟨z,hd,xs,c,d⟩:=BV I.hok e;refine wpAny_notIn_heap (Up hu) (E1 I.hok eb) hd d ?_;have q:=(c.val k).isSome_eq;rw[U2]at q;rw[<-q,<-l];exact h _ (I.tok _)
theorem AU{h':J6}{t':Nat}{ob:HO}(I:Jb X pins σ H s)(mu:Bu (H a))(hs:Heap.SameBut a s.heap h')(he:∃q,h'.get? a=some q)(new:Jy X.prog X.w (upd H a ob) h' a ob):
  Jb X pins σ (upd H a ob) {s with heap:=h',toks:=t'}:=
 I.write (x:=a) (e:=a) mu (.inl rfl) (fun b q c z=>(hs.2 b c).trans z) he new
theorem LI{P:WV}{w:WZ}{H':Hp}{h':J6}{kvs:List (Jv×V)}{vs:List (Jv×Value)}(z:kvs.length <=sizeLine)(hd:(a==sysModules)=false)(rel:KV kvs vs)(dd:h'.DictOf (Jk P w) a vs):
  Jy P w H' h' a (.dK kvs):=⟨z,hd,vs,rel,dd⟩
theorem PX{H':Hp}{Q:WT}(hu:A.units+ 1 < cLine)(I:Jb X pins σ H s)(g:GI H a y v H')(ry:Jg y u)(rv:Jg v r)(h:∀s',Jb X pins σ H' s'->Q () s'):
  wpAny (model X.prog X.w) A (setItem (.ref a) u r) Q E s:=by
 rcases g with⟨kvs,k,e,ey,l,eH⟩|⟨kvs,k,b,e,ey,eb,l,eH⟩
 .subst ey eH;obtain⟨z,hd,vs,d,p⟩:=C5 I.hok e;have j:vs.length <=sizeLine:=by rw[<-d.length];exact z
  have o:(M8 kvs k v).length <=sizeLine:=by have:=F9 kvs k v;lia
  refine wpAny_setItem_pairs (hsz:=j) (Ei ry) p fun h' f n=>h _ ?_
  have he:∃q,h'.get? a=some q:=let ⟨q,_,_,i,_⟩:=f;⟨q,i⟩;exact AU I (by rw[e];exact True.intro) n he (LI o hd (d.put k rv) f)
 .subst ey eH;cases (show u=Value.ref b from ry);obtain⟨z,hd,xs,d,p⟩:=O0 I.hok e;have j:xs.length <=sizeLine:=by rw[<-Paired.length d];exact z
  have o:(M8 kvs k v).length <=sizeLine:=by have:=F9 kvs k v;lia
  refine wpAny_setItem_heap (hsz:=j) (Up hu) (E1 I.hok eb) p fun h' f n=>h _ ?_
  obtain⟨q,es,ep,i,h2,h3,h4,_,h5⟩:=f;refine AU I (by rw[e];exact True.intro) n ⟨q,i⟩ ⟨o,hd,_,(d.put k eb rv).keeps fun c ys ec=>?_,q,es,ep,i,h2,h3,h4,h5⟩;rw[JY (N6 ec e (fun z=>nomatch z))];exact ec
end
def Iu(i:J7):Prop:=∀ov iv,subscripted i false ov iv=operate [ov,iv] (getItem ov iv)
theorem QD{prog:WV}{w:WZ}{A:WY}{E:WR}{s:WW}{env:Env}{value slice:J7}{pos:Pos}{T id:String}{Q:WR}
  (hl:typeLookup (.type T) "__getitem__"=pure (some (.builtin id))) (hs:Iu slice)
  (h:wpAny (model prog w) A (eval value env) (fun o s₁=>wpAny (model prog w) A (eval slice env) (fun i s₂=>s₂.TypeIs o T/\wpAny (model prog w) A (getItem o i) Q E s₂) E s₁) E s):
  wpAny (model prog w) A (eval (.Subscript value slice pos) env) Q E s:=by
 refine Subscript_ (X1 h (fun o s₁ f=>X1 f (fun i s₂ b=>?_) fun _ _ x=>x) fun _ _ x=>x);obtain⟨d,b⟩:=b;unfold subscriptTail;refine Y0 ?_;rw[getitemInPython_of_ne d.not_modules];refine Y0 (Wl d hl ?_);have a:wpAny (model prog w) A (subscripted slice false o i) (fun r c=>wpAny (model prog w) A (letTemporaryGo value o r >>=fun _=>pure r) Q E c) E s₂:=by
  rw[hs o i];exact wpAny_operating (X1 b (fun r c e=>Y0 (wpAny_letTemporaryGo (Y2 e))) fun _ _ x=>x)
 first
  |exact Y2 (Y0 a)
  |exact Y0 (Y2 (Y0 a))
  |exact Y0 a
theorem Qt{X:Cx}{pins:WU}{σ:St}{H:Hp}{s:WW}{a:J2}{y:V}{o:Option V}(I:Jb X pins σ H s)(g:Nh H a y o):s.TypeIs (.ref a) "dict":=by
 rcases g with⟨kvs,k,e,_,_⟩|⟨kvs,k,b,e,_,_,_⟩
 .obtain⟨_,_,vs,_,c⟩:=BQ I.hok e;exact c.typeIs
 .obtain⟨_,_,xs,_,c⟩:=BV I.hok e;exact c.typeIs
def C3(td ty:TE):TE:=fun σ H Q=>td σ H fun x H1=>ty σ H1 fun y H2=>∃a v,x= .ref a/\Nh H2 a y (some v)/\Q v H2
section
variable{X:Cx}{o i e value:J7}{pos pos' tpos:Pos}{td ty tv:TE}
theorem yE(hu:X.A.units+ 1 < cLine)(ho:PE X o td)(hi:PE X i ty)(hs:Iu i):PE X (.Subscript o i pos) (C3 td ty):=by
 intro pins s σ H Q I h;refine QD PySem.F.slot_dict_getitem.lookup hs (Jr (ho pins s σ H _ I h) fun u d ⟨x,H1,l,rx,f⟩=>Jr (hi pins d σ H1 _ l f) fun r q ⟨y,H2,c,ry,a,v,ex,g,e⟩=>?_);subst ex;obtain rfl:u=Value.ref a:=rx;exact⟨Qt c g,jC hu c g ry fun n p j b=>⟨v,H2,j,b,e⟩⟩
end
theorem LG{P:WV}{w:WZ}{H:Hp}(h:J6)(hb:sysModules < h.objs.size):Jy P w H (h.push {cls:=.type "dict",data:=.dict #[]}) h.objs.size (.dK []):=
 ⟨Yv _,Xs.mpr (Ne.symm (Yo hb)),[],.nil,Heap.DictOf.new h⟩
theorem j8{P:WV}{w:WZ}{H:Hp}(h:J6)(hb:sysModules < h.objs.size):Jy P w H (h.push {cls:=.type "dict",data:=.dict #[]}) h.objs.size (.dT []):=
 ⟨Yv _,Xs.mpr (Ne.symm (Yo hb)),[],.nil,_,#[],0,Yh _ rfl,⟨rfl,rfl,rfl⟩,rfl,rfl,Ww⟩
def yW:TE:=fun _ H Q=>∀p,H p=none->Q (.ref p) (upd H p (.dK []))
def Zo:TE:=fun _ H Q=>∀p,H p=none->Q (.ref p) (upd H p (.dT []))
section
variable{X:Cx}{pos:Pos}
theorem xB:PE X (.Dict [] [] pos) yW:=fun pins s σ H Q I h=>
 wpAny_Dict_empty ⟨.ref s.heap.objs.size,_,I.laid (a:=s.heap.objs.size) (o:=.dK []) (t':=s.toks) (fun _ _ q=>Y8 _ q) (Y7 _) (LG s.heap I.big),rfl,h _ (I.hok.fresh (Y7 _))⟩
theorem jS:PE X (.Dict [] [] pos) Zo:=fun pins s σ H Q I h=>
 wpAny_Dict_empty ⟨.ref s.heap.objs.size,_,I.laid (a:=s.heap.objs.size) (o:=.dT []) (t':=s.toks) (fun _ _ q=>Y8 _ q) (Y7 _) (j8 s.heap I.big),rfl,h _ (I.hok.fresh (Y7 _))⟩
end
def BG:List (TE×TE)->St->Hp->(List (V×V)->Hp->Prop)->Prop
 |[],_,H,Q=>Q [] H
 |(tk,tv)::r,σ,H,Q=>tk σ H fun x H1=>tv σ H1 fun y H2=>BG r σ H2 fun ps H3=>Q ((x,y)::ps) H3
abbrev VV:List (V×V)->List (Value×Value)->Prop:=Paired fun p q=>Jg p.1 q.1/\Jg p.2 q.2
def Cy(X:Cx)(pos:Pos)(keys:List (Option Expr))(values:List Expr)(trs:List (TE×TE)):Prop:=
 ∀ (pins:WU) (s:WW) (σ:St) (H:Hp) (Q:List (V×V)->Hp->Prop),Jb X pins σ H s->BG trs σ H Q->
  wpAny (model X.prog X.w) X.A (evalPairs (pairTrees keys values X.env pos)) (fun vs s'=>∃ps H',Jb X pins σ H' s'/\VV ps vs/\Q ps H') X.xe s
theorem Si{X:Cx}{pos:Pos}:Cy X pos [] [] []:=fun pins s σ H Q I h=>pairTrees_nil_walk ⟨[],H,I,.nil,h⟩
theorem Fa{X:Cx}{pos:Pos}{k v:J7}{ks:List (Option Expr)}{vs:List Expr}{tk tv:TE}{trs:List (TE×TE)}(hk:PE X k tk)(hv:PE X v tv)(hr:Cy X pos ks vs trs):
  Cy X pos (some k::ks) (v::vs) ((tk,tv)::trs):=fun pins s σ H Q I h=>
 pairTrees_cons_walk (Jr (hk pins s σ H _ I h) fun u c ⟨x, H1, j, rx, f⟩ => Jr (hv pins c σ H1 _ j f) fun o b ⟨y, H2, i, ry, e⟩ =>
  Jr (hr pins b σ H2 _ i e) fun n p ⟨ps, l, g, a, d⟩ => ⟨(x, y) :: ps, l, g, .cons ⟨rx, ry⟩ a, d⟩)
def BC(kvs more:List (Jv×V)):List (Jv×V):=more.foldl (fun acc kv=>M8 acc kv.1 kv.2) kvs
theorem KV.merge:∀{more:List (Jv×V)} {rs:List (Jv×Value)} {kvs:List (Jv×V)} {vs:List (Jv×Value)},KV more rs->KV kvs vs->KV (BC kvs more) (merged vs rs):=by
 intro more rs kvs vs r;unfold KV at r
 induction r generalizing kvs vs with
 |nil=>intro q;exact q
 |@cons p q ps qs h t ih=>
  intro a;have e:KV (M8 kvs p.1 p.2) (stored vs q.1 q.2):=by
   have:=a.put p.1 h.2;rw[<-h.1];exact this
  exact ih e
theorem Q4:∀ (more kvs:List (Jv×V)),(BC kvs more).length <=kvs.length+ more.length
 |[],kvs=>by show kvs.length <=kvs.length+ 0;lia
 |p::r,kvs=>by
  have h1:=Q4 r (M8 kvs p.1 p.2);have h2:=F9 kvs p.1 p.2;show(BC (M8 kvs p.1 p.2) r).length <=_;rw[List.length_cons];lia
theorem Oh{P:WV}{w:WZ}:∀{kvs:List (Jv×V)} {ws:List (Value×Value)},VV (kvs.map fun kv=>(kV kv.1,kv.2)) ws->∃rs,Carries (Jk P w) ws rs/\KV kvs rs
 |[],_,r=>by rw[List.map_nil]at r;cases r;exact⟨[],True.intro,.nil⟩
 |p::kvs,_,r=>by
  rw[List.map_cons]at r;cases r with
  |@cons a b as bs h t=>
   obtain⟨rs,c,q⟩:=Oh (P:=P) (w:=w) t;obtain⟨e,d⟩:=b;exact⟨(p.1,d)::rs,⟨Ei h.1,rfl,c⟩,.cons ⟨rfl,h.2⟩ q⟩
def IA(trs:List (TE×TE)):TE:=fun σ H Q=>∀p,H p=none->BG trs σ (upd H p (.dK [])) fun ps H2=>H2 p=some (.dK [])/\∃kvs:List (Jv×V),ps=kvs.map (fun kv=>(kV kv.1,kv.2))/\kvs.length <=15/\Q (.ref p) (upd H2 p (.dK (BC [] kvs)))
theorem QC{X:Cx}{pos:Pos}{keys:List (Option Expr)}{values:List Expr}{trs:List (TE×TE)}(h:Cy X pos keys values trs)(hall:keys.all (·.isSome)=true)(hl:keys.length=values.length)(h0:keys≠[])
  (h15:keys.length <=15):PE X (.Dict keys values pos) (IA trs):=by
 intro pins s σ H Q I q;have r:=I.hok.fresh (Y7 s.heap.objs.size);have I1:=I.laid (a:=s.heap.objs.size) (o:=.dK []) (h':=s.heap.push {cls:=.type "dict",data:=.dict #[]}) (t':=s.toks) (fun _ _ q=>Y8 _ q) (Y7 _) (LG s.heap I.big);refine wpAny_Dict_walk (knd:=Jk X.prog X.w) hall hl h0 h15 (Jr (h pins _ σ _ _ I1 (q _ r)) fun ws s2 ⟨ps,H2,g,f,e,b,ep,lk,l⟩=>?_);subst ep;obtain⟨rs,c,i⟩:=Oh (P:=X.prog) (w:=X.w) f;obtain⟨z,hd,vs0,j,v⟩:=C5 g.hok e;cases j;refine⟨rs,c,v,fun h' d p=>⟨.ref s.heap.objs.size,_,?_,rfl,l⟩⟩;have n:(BC [] b).length <=sizeLine:=by
  have h1:=Q4 b [];rw[List.length_nil]at h1;rw[YR];lia
 have u:∃q,h'.get? s.heap.objs.size=some q:=let ⟨q,_,_,hq,_⟩:=d;⟨q,hq⟩;exact AU g (by rw[e];exact True.intro) p u (LI n hd (i.merge .nil) d)
theorem Kl:∀{ns:J3} {us:J5},Jd (ns.map V.int) us->IntsAre us ns
 |[],_,r=>by cases r;exact .nil
 |n::ns,_,r=>by
  cases r with
  |cons h t=>
   obtain⟨tk,rfl⟩:=(show ∃t,_=Value.int n t from h);exact .cons n tk (Kl t)
end L2
set_option maxHeartbeats 400000
namespace L2
open PySem PySem.Spec PyProof.Rows
theorem tV{P:WV}{w:WZ}{k:Jv}{u:J1}(h:(Jk P w).is k u=true):Jg (kV k) u:=by
 rcases GZ (k:=k) (v:=u) h with⟨i,t,rfl,rfl⟩|⟨x,t,rfl,rfl⟩
 .exact⟨t,rfl⟩
 .exact⟨t,rfl⟩
theorem Ll:∀{xs:List V} {us:J5},us.length=xs.length->(∀ (j:Nat) v,us[j]?=some v->∃x,xs[j]?=some x/\Jg x v)->Jd xs us
 |[],[],_,_=>.nil
 |[],_::_,h,_=>by simp at h
 |_::_,[],h,_=>by simp at h
 |x::xs,u::us,h,g=>by
  obtain⟨y,e,r⟩:=g 0 u rfl;have b:x=y:=by simpa using e
  subst b;exact .cons r (Ll (by simpa using h) fun j v a=>by simpa using g (j+ 1) v (by simpa using a))
section
variable{X:Cx}
def Ft:List V->Hp->VK->Prop:=fun xs H Q=>∃a kvs,xs=[V.ref a]/\H a=some (.dK kvs)/\∀l G,H l=none->J9 H G->G l=some (.lst (kvs.map fun kv=>kV kv.1))->Q (.ref l) G
theorem vN(hc:X.calm=true):Jt X (.type "list") Ft:=by
 intro pins s σ H xs us Q I r h;obtain⟨a,b,rfl,ha,q⟩:=h;obtain⟨u,rfl,rx⟩:=R4 r;cases rx;obtain⟨l,hd,vs,i,o,es,ep,d1,d2,d3,d4,d5,d6⟩:=C5 I.hok ha;have hh:X.A.handled=none:=I.ok.hd hc;have c:b.length=vs.length:=i.length;have z:s.heap.DictAt (Jk X.prog X.w) a vs ep:=⟨o,es,d1,d2,d3,d4,d5,d6⟩;refine W.kdl_call (W.kdl_dict (knd:=Jk X.prog X.w) (ep:=ep) hd) hh z (by rw[<-c];exact l) fun h' tk aa c' hk hl d=>?_
 have hf:H s.heap.objs.size=none:=I.hok.fresh (Y7 _);refine⟨.ref s.heap.objs.size,upd H s.heap.objs.size (.lst (b.map fun kv=>kV kv.1)),I.laid (t':=tk) hk (Y7 _) ?_,rfl,q _ _ hf (ML hf) ND⟩;refine⟨by rw[Y4];exact l,aa.toList,c',?_,hl⟩;refine Ll (by rw[Array.length_toList,d.1,Y4,c]) fun j v hv=>?_
 obtain⟨k,x,e,n⟩:=d.2 j v (by rw[<-Array.getElem?_toList];exact hv);refine⟨kV k,?_,tV n⟩;have g:=i.keys;rw[Yf];have f:(vs.map (·.1))[j]?=some k:=by rw[Yf,e];rfl
 rw[<-g,Yf]at f;cases e3:b[j]? with
 |none=>rw[e3]at f;cases f
 |some p=>
  rw[e3]at f;have:p.1=k:=by simpa using f
  simp[this]
end
structure Ae(mg:WQ):Prop where
 sum:mg "sum"=none
 sorted:mg "sorted"=none
section
variable{X:Cx}{pos pos':Pos}{o i value:J7}{td ty tv:TE}
def Fg:TE:=fun _ H Q=>∀p G,H p=none->J9 H G->G p=some (.dK [])->Q (.ref p) G
theorem Lr:PE X (.Dict [] [] pos) Fg:=fun pins s σ H Q I h=>xB pins s σ H Q I fun p a=>h p _ a (ML a) ND
def FE(td ty tv:TE):TS:=fun D σ H=>tv σ H fun v H1=>td σ H1 fun x H2=>ty σ H2 fun y H3=>∃a n kvs,x= .ref a/\y= .int n/\H3 a=some (.dK kvs)/\kvs.length < sizeLine/\∀G,Nd a H3 G->G a=some (.dK (M8 kvs (.inl n) v))->D.nx σ G
theorem Od(hu:X.A.units+ 1 < cLine)(ho:PE X o td)(hi:PE X i ty)(hv:PE X value tv)(hs:swapsWith value (some (.Subscript o i pos')) pos.line X.env=pure false):
  PS X (.Assign [.Subscript o i pos'] value pos) (FE td ty tv):=by
 intro pins s σ H D I h;refine wpAny_Assign_Subscript (Jr (hv pins s σ H _ I h) fun r c ⟨v,H1,I1,d,g⟩=>Jr (ho pins c σ H1 _ I1 g) fun u b ⟨x,H2,z,rx,f⟩=>Jr (hi pins b σ H2 _ z f) fun iv s3 ⟨y,H3,w,ry,a,n,kvs,ex,l,p,j,e⟩=>?_) hs;subst ex l;obtain rfl:u=Value.ref a:=rx;exact PX hu w (GI.k (k:=Sum.inl n) p j) ry d fun s4 q=>⟨σ,_,q,e _ Nd.upd ND⟩
def C8:R2:=fun y x H Q=>∃a n kvs,y= .int n/\x= .ref a/\H a=some (.dK kvs)/\Q (.bl (!(JD kvs (Sum.inl n)).isSome)) H
theorem HF(hu:X.A.units+ 1 < cLine):JW X (compareOp .NotIn) C8:=by
 intro pins s σ H y x v u Q I ry rx h;obtain⟨a,n,d,rfl,rfl,b,q⟩:=h;cases rx;exact nN hu I (Nh.k (k:=Sum.inl n) b) ry fun s' c=>⟨.bl _,H,c,rfl,q⟩
end
end L2
set_option maxHeartbeats 4000000
namespace L2
open PySem PySem.Spec PyProof.Rows
section
variable{X:Cx}{K:J0}
def jV(i j:Int):Prop:=0 < j/\j < 18446744073709551616
theorem Ee:JW X (binaryOp .FloorDiv) (rI jV fun i j=>.int (i / j)):=HY fun i j _ _ _ _ _ a q=>by
 have h1:(0:Int) < j:=a.1;have h2:j < 18446744073709551616:=a.2;refine floordiv_int (by omega) (by rw[Int.fdiv_eq_ediv_of_nonneg i (by omega)];exact q) (.inl (PyProof.noPylong_of_log2 ?_));have:j.natAbs.log2 < 64:=(Nat.log2_lt (by omega)).mpr (by omega);omega
end
end L2
namespace L2
open PySem PySem.Spec PyProof.Rows PySem.W
section
variable{α β:Type}{N:Nat}{lt:Nat->Nat->Bool}
def M5(N:Nat)(lt:Nat->Nat->Bool):KasT α->(α->Prop)->Prop
 | .ret a,Q=>Q a
 | .ask i j k,Q=>i < N/\j < N/\M5 N lt (k (lt i j)) Q
theorem M5.bind{f:α->KasT β}{Q:β->Prop}:∀{t:KasT α},M5 N lt t (fun a=>M5 N lt (f a) Q)->M5 N lt (t.bind f) Q
 | .ret _,h=>h
 | .ask i j k,h=>⟨h.1,h.2.1,M5.bind (t:=k (lt i j)) h.2.2⟩
theorem M5.wp{cmp:Nat->Nat->(Bool->Shared->Prop)->Shared->Prop}{s:WW}{R:α->Shared->Prop}{Q:α->Prop}(hc:∀i j C,i < N->j < N->C (lt i j) s->cmp i j C s)(hq:∀a,Q a->R a s):∀{t:KasT α},M5 N lt t Q->t.kasWp cmp R s
 | .ret a,h=>hq a h
 | .ask i j k,h=>hc i j _ h.1 h.2.1 (M5.wp hc hq (t:=k (lt i j)) h.2.2)
end
section
variable{O:KeyOrd}{key:Nat->O.α}{N:Nat}{p:Array Nat}
def SK(O:KeyOrd)(key:Nat->O.α)(p:Array Nat)(i:Nat):O.α:=key (p.getD i 0)
def MS(O:KeyOrd)(key:Nat->O.α)(p:Array Nat)(k:Nat):Prop:=∀i j,i <=j->j < k->O.kle (SK O key p i) (SK O key p j)
def Bk(O:KeyOrd)(key:Nat->O.α)(p:Array Nat)(k:Nat):Prop:=∀i j,i <=j->j < k->O.kle (SK O key p j) (SK O key p i)
theorem BP{q:Array Nat}{i j:Nat}(h:p[i]?=q[j]?):SK O key p i=SK O key q j:=by
 unfold SK;rw[XV,XV,h]
theorem Kq{src d:Nat}(hs:src < p.size)(hd:d <=src)(k:Nat):
  SK O key (bubble p src d) k=if k=src - d then SK O key p src else if src - d < k/\k <=src then SK O key p (k - 1) else SK O key p k:=by
 have e:=getElem?_bubble hs d hd k
 by_cases h1:k=src - d
 .rw[Y3 h1]at e ⊢;exact BP e
 .rw[Y1 h1]at e ⊢
  by_cases h2:src - d < k/\k <=src
  .rw[Y3 h2]at e ⊢;exact BP e
  .rw[Y1 h2]at e ⊢;exact BP e
theorem Fx{i j:Nat}(hj:j <=p.size)(k:Nat):SK O key (kas_rev p i j) k=if i <=k/\k < j then SK O key p (i+ j - 1 - k) else SK O key p k:=by
 unfold kas_rev;have e:=getElem?_mirror_all (i:=i) hj k
 by_cases h1:i <=k/\k < j
 .rw[Y3 h1]at e ⊢;exact BP e
 .rw[Y1 h1]at e ⊢;exact BP e
theorem Bs{i j:Nat}(hj:j <=p.size)(heq:∀k,i <=k->k < j->SK O key p k=SK O key p (j - 1))(k:Nat):SK O key (kas_rev p i j) k=SK O key p k:=by
 rw[Fx hj]
 split
 .rw[heq _ (by lia) (by lia),heq k (by lia) (by lia)]
 .rfl
def Js(N:Nat)(p:Array Nat):Prop:=p.Perm (List.toArray (List.range N))
theorem Js.size(h:Js N p):p.size=N:=by have:=Array.Perm.size_eq h;simpa using this
theorem Js.lt(h:Js N p)(h0:0 < N)(i:Nat):p.getD i 0 < N:=by
 by_cases hi:i < p.size
 .have e:p.getD i 0=p[i]:=by simp[Array.getD,hi]
  rw[e];have a:p[i]∈(List.toArray (List.range N)).toList:=(XE.mp h).mem_iff.mp (by simp);simpa using a
 .have e:p.getD i 0=0:=by simp[Array.getD,hi]
  rw[e];exact h0
theorem Js.rev(h:Js N p)(i j:Nat):Js N (kas_rev p i j):=(mirror_perm _ _ _ _).trans h
theorem Js.bub(h:Js N p)(i j:Nat):Js N (bubble p i j):=(bubble_perm _ _ _).trans h
abbrev NK(O:KeyOrd)(key:Nat->O.α)(i j:Nat):Bool:=O.blt (key i) (key j)
theorem F3(h0:0 < N)(hp:Js N p){Q:Nat->Prop}:∀ (f n:Nat),1 <=n->MS O key p n->(∀m,n <=m->m <=n+ f->MS O key p m->(m=n+ f\/O.klt (SK O key p m) (SK O key p (m - 1)))->Q m)->M5 N (NK O key) (kas_asc p f n) Q
 |0,n,_,hs,h=>h n (Y7 _) (Y7 _) hs (.inl rfl)
 |f+ 1,n,h1,hs,h=>by
  refine⟨hp.lt h0 _,hp.lt h0 _,?_⟩;cases hl:NK O key (p.getD n 0) (p.getD (n - 1) 0) with
  |true=>
   simp only[if_true];exact h n (Y7 _) (by lia) hs (.inr hl)
  |false=>
   simp only[Bool.false_eq_true,if_false];refine F3 h0 hp f (n+ 1) (by lia) (fun i j hij hj=>?_) fun m a b c d=>h m (by lia) (by lia) c (d.elim (fun e=>.inl (by lia)) .inr)
   by_cases hjx:j < n
   .exact hs i j hij hjx
   .obtain rfl:j=n:=by lia
    by_cases hi':i=j
    .subst hi';exact Xl _
    .exact UG (hs i (j - 1) (by lia) (by lia)) hl
theorem A0(h0:0 < N){Q:Array Nat×Nat×Nat->Prop}:∀ (f:Nat) (p:Array Nat) (n q:Nat),Js N p->1 <=n->n+ f <=N->Bk O key p n->q+ 1 <=n->(∀i,n - (q+ 1) <=i->i < n->SK O key p i=SK O key p (n - 1))->
  (∀p' m q',Js N p'->n <=m->m <=n+ f->Bk O key p' m->q'+ 1 <=m->(∀i,m - (q'+ 1) <=i->i < m->SK O key p' i=SK O key p' (m - 1))->Q (p',m,q'))->M5 N (NK O key) (kas_desc f p n q) Q
 |0,p,n,q,hp,h1,hn,hs,hq,he,h=>h p n q hp (Y7 _) (Y7 _) hs hq he
 |f+ 1,p,n,q,hp,h1,hn,hs,hq,he,h=>by
  have hsz:n <=p.size:=by rw[hp.size];lia
  refine⟨hp.lt h0 _,hp.lt h0 _,?_⟩;cases hl:NK O key (p.getD n 0) (p.getD (n - 1) 0) with
  |true=>
   simp only[if_true];have l:∀xs:Array Nat,(∀k,SK O key xs k=SK O key p k)->Bk O key xs (n+ 1):=by
    intro xs s i j o u;rw[s,s]
    by_cases hjx:j < n
    .exact hs i j o hjx
    .obtain rfl:j=n:=by lia
     by_cases hi':i=j
     .subst hi';exact Xl _
     .exact UG (Ux (show O.klt (SK O key p j) (SK O key p (j - 1)) from hl)) (hs i (j - 1) (by lia) (by lia))
   by_cases hneq:q > 0
   .rw[Y3 hneq];exact A0 h0 f _ (n+ 1) 0 (hp.rev _ _) (by lia) (by lia) (l _ (Bs hsz he)) (by lia) (fun i h1 h2=>by congr 1;lia) fun p' m q' a b c d e g=>h p' m q' a (by lia) (by lia) d e g
   .rw[Y1 hneq];exact A0 h0 f _ (n+ 1) 0 hp (by lia) (by lia) (l _ fun _=>rfl) (by lia) (fun i h1 h2=>by congr 1;lia) fun p' m q' a b c d e g=>h p' m q' a (by lia) (by lia) d e g
  |false=>
   simp only[Bool.false_eq_true,if_false];refine⟨hp.lt h0 _,hp.lt h0 _,?_⟩;cases hl2:NK O key (p.getD (n - 1) 0) (p.getD n 0) with
   |true=>
    simp only[if_true];exact h p n q hp (Y7 _) (by lia) hs hq he
   |false=>
    simp only[Bool.false_eq_true,if_false];have r:SK O key p n=SK O key p (n - 1):=KeyOrd.kle_antisymm hl2 hl;refine A0 h0 f p (n+ 1) (q+ 1) hp (by lia) (by lia) (fun i j o u=>?_) (by lia) (fun i h1 h2=>?_) fun p' m q' a b c d e g=>h p' m q' a (by lia) (by lia) d e g
    .by_cases hjx:j < n
     .exact hs i j o hjx
     .obtain rfl:j=n:=by lia
      by_cases hi':i=j
      .subst hi';exact Xl _
      .rw[r];exact hs i (j - 1) (by lia) (by lia)
    .rw[show n+ 1 - 1=n by lia]
     by_cases hix:i=n
     .subst hix;rfl
     .rw[r];exact he i (by lia) (by lia)
theorem KP(h0:0 < N)(hp:Js N p){n nrem:Nat}{Q:Nat×Array Nat->Prop}(h1:1 <=n)(hnn:n <=nrem)(hN:nrem <=N)(hs:Bk O key p n)
  (h:∀m p',Js N p'->1 <=m->m <=nrem->MS O key p' m->Q (m,p')):M5 N (NK O key) (kas_tail3 n nrem p) Q:=by
 unfold kas_tail3;have d:n <=p.size:=by rw[hp.size];lia
 refine M5.bind (F3 h0 (hp.rev 0 n) _ _ h1 ?_ fun m a b c _=>h m _ (hp.rev 0 n) (by lia) (by lia) c);intro i j e f;rw[Fx d,Fx d,Y3 (by lia),Y3 (by lia)];exact hs _ _ (by lia) (by lia)
theorem PJ(h0:0 < N)(hp:Js N p){n nrem:Nat}{Q:Nat×Array Nat->Prop}(hnn:n+ 1 <=nrem)(hN:nrem <=N)(hs:Bk O key p (n+ 1))
  (h:∀m p',Js N p'->1 <=m->m <=nrem->MS O key p' m->Q (m,p')):M5 N (NK O key) (kas_descPart n nrem p) Q:=by
 unfold kas_descPart;refine M5.bind (A0 h0 _ _ _ _ hp (by lia) (by lia) hs (by lia) (fun i h1 h2=>by congr 1;lia) fun p' m o a b c d e g=>?_);dsimp only;have f:m <=p'.size:=by rw[a.size];lia
 by_cases hq:o > 0
 .rw[Y3 hq];refine KP h0 (a.rev _ _) (by lia) (by lia) hN ?_ h;intro i j l q;rw[Bs f g,Bs f g];exact d i j l q
 .rw[Y1 hq];exact KP h0 a (by lia) (by lia) hN d h
theorem uQ(h0:0 < N)(hp:Js N p){nrem:Nat}{Q:Nat×Array Nat->Prop}(h1:1 <=nrem)(hN:nrem <=N)
  (h:∀m p',Js N p'->1 <=m->m <=nrem->MS O key p' m->Q (m,p')):M5 N (NK O key) (kas_count nrem p) Q:=by
 unfold kas_count;refine M5.bind (F3 h0 hp _ _ (Y7 1) (fun i j f l=>by obtain rfl:i=j:=(by lia);exact Xl _) fun n d s b g=>?_)
 by_cases hnn:n=nrem
 .rw[Y3 (by simpa using hnn)];exact h n p hp d (by lia) b
 .rw[Y1 (by simpa using hnn)];have e:O.klt (SK O key p n) (SK O key p (n - 1)):=g.resolve_left (by lia)
  by_cases hgt:n > 1
  .rw[Y3 hgt];refine⟨hp.lt h0 _,hp.lt h0 _,?_⟩;cases hrose:NK O key (p.getD 0 0) (p.getD (n - 1) 0) with
   |true=>
    simp only[if_true];exact h n p hp d (by lia) b
   |false=>
    simp only[Bool.false_eq_true,if_false];have c:n <=p.size:=by rw[hp.size];lia
    have a:∀k,0 <=k->k < n->SK O key p k=SK O key p (n - 1):=by
     intro k _ o;have r:=b 0 k (by lia) o;have q:=b k (n - 1) (by lia) (by lia);exact KeyOrd.kle_antisymm q (UG (show O.kle (SK O key p (n - 1)) (SK O key p 0) from hrose) r)
    refine PJ h0 (hp.rev _ _) (by lia) hN ?_ h;intro i j f l;rw[Bs c a,Bs c a]
    by_cases hjn:j < n
    .rw[a i (by lia) (by lia),a j (by lia) hjn];exact Xl _
    .obtain rfl:j=n:=by lia
     by_cases hi':i=j
     .subst hi';exact Xl _
     .rw[a i (by lia) (by lia)];exact Ux e
  .rw[Y1 hgt];obtain rfl:n=1:=by lia
   refine PJ h0 hp (by lia) hN ?_ h;intro i j f l
   by_cases hi':i=j
   .subst hi';exact Xl _
   .obtain rfl:i=0:=by lia
    obtain rfl:j=1:=by lia
    exact Ux e
theorem Fi(h0:0 < N)(hp:Js N p){k:Nat}(hs:MS O key p k){Q:Nat->Prop}:∀ (f l r:Nat),l <=r->r <=k->r - l <=f->(∀i,i < l->O.kle (SK O key p i) (SK O key p k))->(∀i,r <=i->i < k->O.klt (SK O key p k) (SK O key p i))->
  (∀l,l <=k->(∀i,i < l->O.kle (SK O key p i) (SK O key p k))->(∀i,l <=i->i < k->O.klt (SK O key p k) (SK O key p i))->Q l)->M5 N (NK O key) (kas_place p k f l r) Q
 |0,l,r,h1,h2,h3,hlo,hhi,h=>by
  obtain rfl:l=r:=by lia
  exact h l h2 hlo hhi
 |f+ 1,l,r,h1,h2,h3,hlo,hhi,h=>by
  unfold kas_place
  by_cases hge:l≥r
  .rw[Y3 hge];obtain rfl:l=r:=by lia
   exact h l h2 hlo hhi
  .rw[Y1 hge];refine⟨hp.lt h0 _,hp.lt h0 _,?_⟩;cases hl:NK O key (p.getD k 0) (p.getD ((l+ r) / 2) 0) with
   |true=>
    simp only[if_true];refine Fi h0 hp hs f _ _ (by lia) (by lia) (by lia) hlo (fun i a b=>?_) h;exact KeyOrd.klt_of_klt_of_kle (show O.klt (SK O key p k) (SK O key p ((l+ r) / 2)) from hl) (hs _ _ a b)
   |false=>
    simp only[Bool.false_eq_true,if_false];refine Fi h0 hp hs f _ _ (by lia) (by lia) (by lia) (fun i a=>?_) hhi h;exact UG (hs i ((l+ r) / 2) (by lia) (by lia)) (show O.kle (SK O key p ((l+ r) / 2)) (SK O key p k) from hl)
theorem Kr(h0:0 < N){Q:Array Nat->Prop}:∀ (f:Nat) (p:Array Nat) (k:Nat),Js N p->k+ f <=N->MS O key p k->(∀p',Js N p'->MS O key p' (k+ f)->Q p')->M5 N (NK O key) (kas_bin f p k) Q
 |0,p,k,hp,hk,hs,h=>h p hp hs
 |f+ 1,p,k,hp,hk,hs,h=>by
  unfold kas_bin;refine M5.bind (Fi h0 hp hs k 0 k (by lia) (by lia) (by lia) (fun i hi=>by lia) (fun i a b=>by lia) fun l hl hlo hhi=>?_);refine Kr h0 f _ (k+ 1) (hp.bub _ _) (by lia) ?_ fun p' a b=>h p' a (by rw[show k+ (f+ 1)=k+ 1+ f by lia];exact b)
  have hks:k < p.size:=by rw[hp.size];lia
  intro i j c d;rw[Kq hks (by lia),Kq hks (by lia),show k - (k - l)=l by lia]
  repeat' split
  all_goals first
   |(exfalso;lia)
   |exact Xl _
   |exact hlo _ (by lia)
   |exact Ux (hhi _ (by lia) (by lia))
   |exact hs _ _ (by lia) (by lia)
theorem jQ(h0:0 < N){Q:Array Nat->Prop}(h:∀p,Js N p->MS O key p N->Q p):M5 N (NK O key) (kas_sort N) Q:=by
 unfold kas_sort;refine M5.bind (uQ h0 (Wm _) h0 (Y7 _) fun m f d h1 g c=>?_);dsimp only
 by_cases hlt:m < N
 .rw[Y3 hlt];have e:max m 1=m:=by lia
  rw[e];refine Kr h0 _ _ _ d (by lia) c fun p2 a b=>h p2 a ?_
  rwa [show m+ (N - m)=N by lia]at b
 .rw[Y1 hlt];obtain rfl:m=N:=by lia
  exact h f d c
end
section
variable{prog:WV}{w:WZ}{A:WY}{E:WR}{s:WW}{O:KeyOrd}{key:Nat->O.α}{κ:SortKind}{vs:J5}
theorem LV(vs:J5):(List.range vs.length).map (fun i=>vs.getD i Value.none)=vs:=by
 apply V9;intro i;rw[Yf]
 by_cases h:i < vs.length
 .rw[WH h,Y5 h];simp[h]
 .rw[Xa (by simpa using h),Xa (by simpa using h)];rfl
end
section
variable{prog:WV}{w:WZ}{A:WY}{E:WR}{s:WW}
theorem xU{a b:Int}{t u:Tok}{Q:WR}(h:Q (.bool (decide (a < b))) s):wpAny (model prog w) A (richCompare .Lt (.int a t) (.int b u)) Q E s:=
 CmpOf.ints_lt (P := fun i v => (i = 0 /\ v = .int a t) \/ (i ≠ 0 /\ v = .int b u)) (fun i => if i = 0 then a else b) (by
  rintro i v (⟨rfl,rfl⟩|⟨h,rfl⟩)
  .exact⟨t,rfl⟩
  .exact ⟨u, by rw [Y1 h]⟩) 0 1 _ _ s Q E (.inl ⟨rfl, rfl⟩) (.inr ⟨by decide, rfl⟩) h
theorem L3{b:Bool}{x y:Int}{t u:Tok}{Q:Bool->Shared->Prop}(h:Q (decide (x < y)) s):wpAny (model prog w) A (oneLt' b (.int x t) (.int y u)) Q E s:=by
 cases b with
 |true=>exact oneLt_int h
 |false=>exact kat_one _ _ (show wpAny (model prog w) A (richCompare .Lt _ _) (W.BoolBack Q) E s from xU h)
end
end L2
namespace L2
open PySem PySem.Spec PyProof.Rows
section
variable{X:Cx}{pins:WU}{σ:St}{H:Hp}{s:WW}{h':J6}
theorem Jb.turnL{t':Nat}{wr:List Addr}(I:Jb X pins σ H s)(hf:∀b∈wr,M9 X pins H b)(k:∀b o,b∉wr->s.heap.get? b=some o->h'.get? b=some o):Jb X pins σ H {s with heap:=h',toks:=t'}:=by
 have f:∀b u,H b=some u->b∉wr:=fun b u e z=>by rw[(hf b z).1]at e;cases e
 refine I.step (g':=s.gens) (d':=s.drawn) (ch:=wr) (fun b d=>⟨(hf b d).2.2.2.1,(hf b d).2.1,(hf b d).2.2.2.2.1,(hf b d).2.2.2.2.2⟩) (fun b o _ _ a e _=>k b o a e) (fun b o _ _ a e _=>⟨o.slots,k b o a e⟩) (fun _ _ _ _ n=>n)
  (fun b o a e=>⟨o,k b o a e⟩) (fun _ _ e=>e) (fun _ _ _ e=>e) (fun b ps e=>⟨#[],by rw[e];simp⟩) (fun m h=>?_) (fun b u e=>?_) I.bare
 .obtain⟨o,es,ep,g,r⟩:=h;exact⟨o,es,ep,k _ o (fun z=>(hf _ z).2.1 rfl) g,r⟩
 .refine(I.hok b u e).stay (fun c v a q=>k c v ?_ q) (fun _ q=>q) fun _ _ q=>q
  rcases a with z|z
  .rw[z];exact f b u e
  .exact f c _ z
theorem Jb.turnNew{t':Nat}{wr:List Addr}{a:J2}{o:HO}(I:Jb X pins σ H s)(hf:∀b∈wr,M9 X pins H b)(k:∀b o,b∉wr->s.heap.get? b=some o->h'.get? b=some o)(hp:s.heap.objs.size <=a)
  (new:Jy X.prog X.w (upd H a o) h' a o):Jb X pins σ (upd H a o) {s with heap:=h',toks:=t'}:=by
 have g:H a=none:=I.hok.fresh hp;have h:∀b u,H b=some u->b∉wr:=fun b u e z=>by rw[(hf b z).1]at e;cases e
 refine I.step (g':=s.gens) (d':=s.drawn) (ch:=wr) (fun b f=>⟨(hf b f).2.2.2.1,(hf b f).2.1,(hf b f).2.2.2.2.1,(hf b f).2.2.2.2.2⟩) (fun b o _ _ d e _=>k b o d e) (fun b o _ _ d e _=>⟨o.slots,k b o d e⟩)
  (fun b o _ e n=>by rw[JY (Yo (Yx (Yb e) hp))];exact n)
  (fun b o d e=>⟨o,k b o d e⟩) (fun b xs e=>by rw[JY (Tg e g)];exact e) (fun b o u e=>by rw[JY (Tg e g)];exact e) (fun b ps e=>⟨#[],by rw[JY (Tg e g),e];simp⟩) (fun m j=>?_) (fun b u e=>?_) I.bare
 .obtain⟨o,es,ep,i,r⟩:=j;exact⟨o,es,ep,k _ o (fun z=>(hf _ z).2.1 rfl) i,r⟩
 .by_cases f:b=a
  .subst f;rw[ND]at e;cases e;exact new
  .rw[JY f]at e;refine(I.hok b u e).stay (fun c v d q=>k c v ?_ q) (fun c q=>by rw[JY (Tg q g)];exact q) fun c xs q=>by rw[JY (Tg q g)];exact q
   rcases d with z|z
   .rw[z];exact h b u e
   .exact h c _ z
end
theorem ZB{h:J6}{a b:J2}{o o':Obj}(e:h.get? a=some o)(e':h.get? b=some o')(hc:o.cls≠o'.cls):a≠b:=fun z=>by
 subst z;rw[e]at e';cases e';exact hc rfl
structure FO(mg:WQ):Prop where
 enumerate:mg "enumerate"=none
 zip:mg "zip"=none
end L2
namespace L2
open PySem PySem.Spec PyProof.Rows
open Sem (wp)
open AutoSeq1 (wpAny_loadPart')
section
variable{prog:WV}{w:WZ}{A:WY}{E:WR}{s:WW}
theorem yH{T newId:String}{self:J1}{Jq:J5}{kw:List (Str×Value)}(hl:typeLookup (.type T) "__init__"=pure (some (.builtin "object.__init__")))
  (hm:Bind.madeBy (.type T)=pure (some newId)) (hne:(some newId !=some "object.__new__")=true):
  Meets (Builtin.«object.__init__» ⟨self::Jq,kw⟩) (fun _ R s=>s.TypeIs self T/\R (.ok (.ret .none)) s):=by
 refine Meets.of_wp fun prog w A R s ⟨c,b⟩=>?_
 cases Jq with
 |nil=>
  cases kw with
  |nil=>exact Y2 ⟨_,rfl,b⟩
  |cons k kw=>(repeat (any_goals (first|assumption|wp_step)));exact⟨_,rfl,b⟩
 |cons a Jq=>(repeat (any_goals (first|assumption|wp_step)));exact⟨_,rfl,b⟩
theorem u9{T newId:String}{Bn:Builtin}{args:J5}{kw:List (Str×Value)}{S:_root_.PySem.Spec}{Q:WR}(ft:TypeCalled T newId "object.__init__")(hne:(some newId !=some "object.__new__")=true)
  (hct:checkTypeCall T ⟨args,kw⟩=pure ()) (hcn:checkBuiltinCall newId ⟨.type T::args,kw⟩=pure ()) (hok:∀obj,argsOk "object.__init__" ⟨obj::args,kw⟩) (entryN:entryFor table newId=some Bn) (g:Meets (Bn ⟨.type T::args,kw⟩) S)
  (h:S A.in1 (wants (fun obj s₁=>s₁.TypeIs obj T/\Q obj s₁) E) s):wpAny (model prog w) A (call (.type T) args kw) Q E s:=by
 obtain⟨c,tl,o⟩:=ft.mro;have i:=ft.made;have l:=ft.sub;refine WE (Wn ?_);show wpAny _ _ (callAny (.type T) _) _ _ _;refine Y2 ⟨Code.quiet_builtin _ (by decide +kernel),XD F.entry_type_call ?_⟩;rw[Around.under_plain (weight_type_call_type T args kw) (units_type_call_type T args kw)];have h1:=ft.notType;have h2:=ft.canCreate
 repeat (any_goals (first|assumption|wp_step))
 refine U9 (VC ft.plain entryN (Vg hcn (g prog w A.in1 _ s h))) fun r s₁ b=>?_
 cases r with
 |error e=>exact b
 |ok fl=>
  cases fl with
  |ret obj=>
   obtain⟨f,n⟩:=(show s₁.TypeIs obj T/\Q obj s₁ from b);have q:=ft.init.lookup;have u:=ft.init.bind obj
   repeat (any_goals (first|assumption|wp_step))
   refine U9 (VC ft.init.plain F.entry_object_init (ft.init.check _ _ _ _ _ _ _ _ f (hok obj) (yH ft.init.lookup ft.made hne prog w A.in1 (wants (fun r d=>r= .none/\Q obj d) E) s₁ ⟨f,rfl,n⟩))) fun j d a=>?_
   cases j with
   |error e=>exact a
   |ok fl₂=>
    cases fl₂ with
    |ret r=>
     obtain⟨rfl,p⟩:=a
     repeat (any_goals (first|assumption|wp_step))
    |_=>exact a.elim
  |_=>exact b.elim
end
theorem Zc(l:J2)(items:Array Value)(n:Nat)(dct:Option Addr)(sl:Array (Option Value))(c:Int)(t:Tok)(hc:Builtin.SmallTypes.fitsIndex c=true):
  Meets (Builtin.«enumerate.__new__» ⟨[.type "enumerate", .ref l], [("start", .int c t)]⟩) (fun _ R s => s.heap.get? l = some { cls := .type "list", dict := dct, data := .seq items n, slots := sl } /\
   R (.ok (.ret (.ref (s.heap.push {cls:=.type "list_iterator",data:=.fields #[.ref l,.int 0 0]}).objs.size)))
    { s with heap := (s.heap.push { cls := .type "list_iterator", data := .fields #[.ref l, .int 0 0] }).push { cls := .type "enumerate", data := .fields #[.none, .bool false, .ref s.heap.objs.size, rawInt c, .none, .none] } }) :=
 .of_wp fun prog w A R s h=>by
  obtain⟨i,g,d,tk,e⟩:=s;obtain⟨a,h⟩:=h;have f:=sub_enumerate;have b:Heap.IsList (Shared.heap ⟨i,g,d,tk,e⟩) l items:=⟨_,a,rfl,n,rfl⟩
  wp_walk using XC a
  refine wpAny_stack_any fun st=>Y2 ?_
  split
  .rename_i c' _ _ _ _ _
   cases (c'==Value.type "enumerate")
   .wp_walk using XC a,U1 b
    exact⟨_,rfl,h⟩
   .wp_walk using XC a,U1 b
    exact⟨_,rfl,h⟩
  .wp_walk using XC a,U1 b
   exact⟨_,rfl,h⟩
section
variable{prog:WV}{w:WZ}{A:WY}{E:WR}{s:WW}
theorem Zf(a b:J1):checkTypeCall "enumerate" ⟨[a],[("start",b)]⟩=pure ():=by kernel_rfl
theorem uS(a b:J1):checkBuiltinCall "enumerate.__new__" ⟨[.type "enumerate",a],[("start",b)]⟩=pure ():=by kernel_rfl
theorem Zi(o a b:J1):argsOk "object.__init__" ⟨[o,a],[("start",b)]⟩:=by unfold argsOk;kernel_rfl
theorem vA{l:J2}{items:Array Value}{c:Int}{t:Tok}{Q:WR}(hL:s.heap.IsList l items)(hc:Builtin.SmallTypes.fitsIndex c=true)
  (h:∀h',IsEnum h' (s.heap.objs.size+ 1) s.heap.objs.size c .none->h'.IsListIter s.heap.objs.size l 0->(∀b o,s.heap.get? b=some o->h'.get? b=some o)->Q (.ref (s.heap.objs.size+ 1)) {s with heap:=h'}):
  wpAny (model prog w) A (call (.type "enumerate") [.ref l] [("start",.int c t)]) Q E s:=by
 obtain⟨⟨q,g,p,i⟩,j,a,n,hd⟩:=hL
 replace a:q= .type "list":=a
 replace hd:p= .seq items n:=hd
 subst a hd;refine u9 F.called_enumerate (by decide) (Zf _ _) (uS _ _) (fun d => Zi d _ _) F.entry_enumerate_new (Zc l items n g i c t hc) ⟨j, ?_⟩;have e : (s.heap.push { cls := .type "list_iterator", data := .fields #[.ref l, .int 0 0] }).objs.size = s.heap.objs.size + 1 := Uz ..;show _ /\ _;rw [e];have f : IsEnum ((s.heap.push { cls := .type "list_iterator", data := .fields #[.ref l, .int 0 0] }).push
   { cls := .type "enumerate", data := .fields #[.none, .bool false, .ref s.heap.objs.size, rawInt c, .none, .none] }) (s.heap.objs.size + 1) s.heap.objs.size c .none := by
  have:=Yh (s.heap.push {cls:=.type "list_iterator",data:=.fields #[.ref l,.int 0 0]})
   (o:={cls:=.type "enumerate",data:=.fields #[.none,.bool false,.ref s.heap.objs.size,rawInt c,.none,.none]}) rfl
  rw[e]at this;exact this
 exact⟨⟨_,f,rfl⟩,h _ f ⟨_,Y8 _ (Yh _ rfl),rfl,rfl⟩ fun b o x=>Y8 _ (Y8 _ x)⟩
theorem yU{e it l:J2}{i:Nat}{c:Int}{items:Array Value}{x old:J1}{Q:Option Value->Shared->Prop}(he:IsEnum s.heap e it c old)(hit:s.heap.IsListIter it l i)(hl:s.heap.IsList l items)(hx:items[i]?=some x)(hne:e≠it)
  (hQ : ∀ h', IsEnumOut h' e it (c + 1) x s.heap.objs.size -> h'.IsListIter it l (i + 1) -> h'.get? s.heap.objs.size = some { cls := .type "tuple", data := .seq #[.int c s.toks, x] } ->
   (∀ b o, b ≠ e -> b ≠ it -> s.heap.get? b = some o -> h'.get? b = some o) -> Q (some (.ref s.heap.objs.size)) { s with heap := h', toks := s.toks + 1 }) : wpAny (model prog w) A (pyNext (.ref e)) Q E s := by
 have hT:s.TypeIs (.ref e) "enumerate":=⟨_,he,rfl⟩
 unfold pyNext;refine Y0 (XN (Xc (name:=Str.ofString "__next__") hT UB (YX UB hT F.entry_enumerate_next ?_ (F.args_enumerate_next_1 _))));obtain⟨n,g,d,tk,f⟩:=s;show wpAny _ _ (field (.ref e) 2 >>=_) _ _ _;refine Y0 (Vh he rfl (x:=.ref it) rfl (Y0 (wpAny_nextOf_list_item hit hl hx fun j hit₁ hs₁=>?_)));have u:Heap.SameBut it n j:=hs₁;have v:IsEnum j e it c old:=(u.2 e hne).trans he;refine Y0 (Vh v rfl (x:=rawInt c) rfl ?_);refine Y0 (m:=field (.ref e) 4) (Vh (s:=⟨j,g,d,tk,f⟩) v rfl (x:=.none) rfl ?_);show wpAny _ _ (mkInt c >>=_) _ _ ⟨j,g,d,tk,f⟩;refine Y0 (wpAny_mkInt ?_);show wpAny _ _ (setField (.ref e) 3 (rawInt (c+ 1)) >>=_) _ _ ⟨j,g,d,tk+ 1,f⟩;refine Y0 (Uq v (by simp) fun h₂ he₂ hs₂=>?_);have q:Heap.SameBut e j h₂:=hs₂;have he2:IsEnum h₂ e it (c+ 1) old:=he₂;show wpAny _ _ (setField (.ref e) 4 .none >>=_) _ _ ⟨h₂,g,d,tk+ 1,f⟩;refine Y0 (Uq he2 (by simp) fun h he₃ hs₃=>?_);have p:Heap.SameBut e h₂ h:=hs₃;have he3:IsEnum h e it (c+ 1) old:=he₃;show wpAny _ _ (newTuple [.int c tk,x] >>=_) _ _ ⟨h,g,d,tk+ 1,f⟩;refine Y0 (VJ ?_);have z:IsEnum (h.push {cls:=.type "tuple",data:=.seq #[.int c tk,x]}) e it (c+ 1) old:=Y8 _ he3;generalize hh:h.push {cls:=.type "tuple",data:=.seq #[.int c tk,x]}=h₄ at z;have hsz:h.objs.size=n.objs.size:=by rw[p.1,q.1,u.1]
 have hel:e < n.objs.size:=Yb he;have ht4:h₄.get? n.objs.size=some {cls:=.type "tuple",data:=.seq #[.int c tk,x]}:=by rw[<-hh,<-hsz];exact Yh _ rfl
 have hk4:∀b o,b≠e->b≠it->n.get? b=some o->h₄.get? b=some o:=fun b o a hbi hb=>by
  rw[<-hh];exact Y8 _ (p.extBut b o a (q.extBut b o a (u.extBut b o hbi hb)))
 have hit4:h₄.IsListIter it l (i+ 1):=by
  rw[<-hh];obtain⟨o,ho,r⟩:=(hit₁.extBut q.extBut (Ne.symm hne)).extBut p.extBut (Ne.symm hne);exact⟨o,Y8 _ ho,r⟩
 show wpAny _ _ (Builtin.SmallTypes.ownedTupleIsFree (.ref e) >>=_) _ _ ⟨h₄,g,d,tk+ 1,f⟩;rw[hsz];clear hh he3 p he₃ hs₃ he2 q he₂ hs₂ v u hs₁ hit₁ hsz h h₂ j;refine Y0 ?_;unfold Builtin.SmallTypes.ownedTupleIsFree;refine Y0 (Vh z rfl (x:=.none) rfl (Y2 ?_));simp only[if_true];refine Y0 (XF (Y0 (Vh z rfl (x:=old) rfl (Y0 (Uq z (by simp) fun h₅ he₅ hs₅=>?_)))));have hs5:Heap.SameBut e h₄ h₅:=hs₅;have he5:IsEnum h₅ e it (c+ 1) x:=he₅;show wpAny _ _ (Builtin.SmallTypes.ownedTupleHandOut (.ref e) (.ref n.objs.size) >>=_) _ _ ⟨h₅,g,d,tk+ 1,f⟩;refine Y0 ?_;unfold Builtin.SmallTypes.ownedTupleHandOut;refine Y0 (Uq he5 (by simp) fun h₆ he₆ hs₆=>?_);have hs6:Heap.SameBut e h₅ h₆:=hs₆;have he6:IsEnumOut h₆ e it (c+ 1) x n.objs.size:=he₆;refine Uq he6 (by simp) fun h₇ he₇ hs₇=>?_
 have hs7:Heap.SameBut e h₆ h₇:=hs₇;refine Y0 (wpAny_letGo (Y2 ⟨_,rfl,Y2 (hQ h₇ he₇ ?_ ?_ ?_)⟩))
 .exact((hit4.extBut hs5.extBut (Ne.symm hne)).extBut hs6.extBut (Ne.symm hne)).extBut hs7.extBut (Ne.symm hne)
 .exact hs7.extBut _ _ (Vv hel) (hs6.extBut _ _ (Vv hel) (hs5.extBut _ _ (Vv hel) ht4))
 .exact fun b o a hbi hb=>hs7.extBut b o a (hs6.extBut b o a (hs5.extBut b o a (hk4 b o a hbi hb)))
theorem ZD{e it l:J2}{i:Nat}{c:Int}{items:Array Value}{old:J1}{Q:Option Value->Shared->Prop}(hh:A.handled=none)(he:IsEnum s.heap e it c old)(hit:s.heap.IsListIter it l i)(hl:s.heap.IsList l items)(hx:items[i]?=none)
  (hQ:∀h',Heap.ExtBut it s.heap h'->Q none {s with heap:=h'}):wpAny (model prog w) A (pyNext (.ref e)) Q E s:=by
 have f:s.TypeIs (.ref e) "enumerate":=⟨_,he,rfl⟩
 unfold pyNext;refine Y0 (XN (Xc (name:=Str.ofString "__next__") f UB (YX UB f F.entry_enumerate_next ?_ (F.args_enumerate_next_1 _))));show wpAny _ _ (field (.ref e) 2 >>=_) _ _ _;refine Y0 (Vh he rfl (x:=.ref it) rfl (Y0 (wpAny_nextOf_list_end hh hit hl hx fun h' x d a=>?_)));obtain⟨o,g,h⟩:=a;exact Y0 (Ua (T:="StopIteration") (b:=true) ⟨o,g,h⟩ VL (Y2 (hQ _ d)))
end
def AM(K:J0)(a:J2)(c:Int):It:=
 ⟨fun i H=>∃xs x,Je K H a xs/\xs[i]?=some x,fun i H x H'=>∃t y,x= .ref t/\H t=none/\J9 H H'/\H' t=some (.tup [.int (c+ i),y])/\∀xs,Je K H a xs->xs[i]?=some y,fun i H=>∃xs,Je K H a xs/\xs.length <=i⟩
theorem SY{P:WV}{w:WZ}{K:J0}{elts:List Expr}{k:Nat}{pos:Pos}(l e it:J2)(c:Int):EU P w K (.Tuple elts k pos) (AM K l c) [e,it] e (fun i h=>(∃old,IsEnum h e it (c+ (i:Nat)) old)/\h.IsListIter it l i) where
 mem:=by simp
 obj:=fun i h st b a=>by
  obtain⟨⟨old,f⟩,o,ho,hc,hd⟩:=st;rcases Yp.mp a with rfl|a
  .exact⟨_,f,fun v z=>by cases z⟩
  .have e:b=it:=by simpa using a
   subst e;exact⟨o,ho,fun v z=>by rw[hd]at z;cases z⟩
 keep:=fun i h h' st n=>⟨⟨st.1.choose,n e (by simp) _ st.1.choose_spec⟩,st.2.at fun o x=>n it (by simp) o x⟩
 item:=by
  intro X hP hw hK hc i pins s σ H E I hf st hg;subst hP hw hK;obtain⟨xs,x,r,hx⟩:=hg;obtain⟨its,rv,p,hz⟩:=I.list r;obtain⟨u,hu,ru⟩:=rv.get hx;obtain⟨⟨old,f⟩,g⟩:=st;obtain⟨oit,j,cit,dit⟩:=id g;have ab:e≠it:=ZB f j (by rw[cit];(try dsimp only);decide);have aa:e < s.heap.objs.size:=Yb f;have hil:it < s.heap.objs.size:=Yb j;refine yU f g p.isList (x:=u) (by simpa using hu) ab fun h1 ho hit1 hT1 k1=>⟨_,rfl,wpAny_letOwnedTupleGo_enum ho fun h2 he2 hs2=>?_⟩
  have d:Heap.SameBut e h1 h2:=hs2;have hn:H s.heap.objs.size=none:=I.hok.fresh (Y7 _);have n:∀b o,b∉[e,it]->s.heap.get? b=some o->h2.get? b=some o:=fun b o a z=>(d.2 b fun q=>a (by simp[q])).trans (k1 b o (fun q=>a (by simp[q])) (fun q=>a (by simp[q])) z)
  have hT2:h2.get? s.heap.objs.size=some {cls:=.type "tuple",data:=.seq #[.int (c+ (i:Nat)) s.toks,u]}:=(d.2 _ (Vv aa)).trans hT1;refine⟨.ref s.heap.objs.size,upd H s.heap.objs.size (.tup [.int (c+ i),x]),I.turnNew (t':=s.toks+ 1) hf n (Y7 _) ⟨by show 2 <=sizeLine;decide,[.int (c+ i) s.toks,u],.cons ⟨_,rfl⟩ (.cons ru .nil),⟨_,hT2,rfl,_,rfl⟩⟩,rfl,⟨_,x,rfl,hn,ML hn,ND,fun ys hys=>?_⟩,⟨⟨u,?_⟩,hit1.at fun o y=>(d.2 it ab.symm).trans y⟩,fun b a=>?_⟩
  .rw[I.list_inj hys r];exact hx
  .have e1:c+ ((i+ 1:Nat):Int)=c+ (i:Nat)+ 1:=by omega
   rw[e1];exact he2
  .have hbn:=(hf b a).1;have:b≠s.heap.objs.size:=by
    rcases Yp.mp a with rfl|a
    .exact Yo aa
    .rw[Y9.mp a];exact Yo hil
   rw[JY this];exact hbn
 done:=by
  intro X hP hw hK hc i pins s σ H E I hf st hg;subst hP hw hK;obtain⟨xs,r,hx⟩:=hg;obtain⟨its,rv,p,hz⟩:=I.list r;obtain⟨⟨old,f⟩,g⟩:=st;have hl:=rv.length;exact ZD (I.ok.hd hc) f g p.isList (by simp;omega) fun h' eb=>⟨rfl,I.turnL (t':=s.toks) hf fun b o a x=>eb b o (fun z=>a (by simp[z])) x⟩
 self:=fun _ _ _ _ _ st h=>wpAny_pyIter_enum st.1.choose_spec h
section
variable{M:Model}{A:WY}{E:WR}{s:WW}{env:Env}
theorem QZ{pos:Pos}{T:String}{e:J7}{kws:List Keyword}{Q:WR}
  (h:wpAny M A (spliced (backTo pos (starEach [e] env))) (fun vs s₁=>wpAny M A (evalAll ((backToKw pos (keywordEach kws env)).map (·.2))) (fun kvs s₂=>wpAny M A (call (.type T) vs (((backToKw pos (keywordEach kws env)).filterMap (·.1)).zip kvs)) Q E s₂) E s₁) E s)
  (he:backTo pos (starEach [e] env)=(false,eval e env)::backTo pos (starEach [] env)) (hplain:(backTo pos (starEach [e] env)).any (·.1)=false)
  (hall:(backToKw pos (keywordEach kws env)).all (·.1.isSome)=true) (hkw:(backToKw pos (keywordEach kws env)).any (·.1.isNone)=false):
  wpAny M A (callWith pos (.type T) [] (backTo pos (starEach [e] env)) (backToKw pos (keywordEach kws env))) Q E s:=by
 unfold callWith;have h':wpAny M A (evalArgs (.type T) true (backTo pos (starEach [e] env)) (backToKw pos (keywordEach kws env))) (fun a s₁=>wpAny M A (call (.type T) ([]++a.pos) a.kw) Q E s₁) E s:=by
  rw[he]at h ⊢;exact evalArgs_kwB hall h
 refine Y0 (YJ (X1 h' (fun a s₁ b=>Y0 (Vm ?_)) fun _ _ x=>x));simp only[hplain,hkw,VT];exact Y0 (Y2 (Y0 (X1 b (fun r s₂ c=>Y0 (YJ (wpAny_point (Y2 c)))) fun _ _ x=>x)))
end
section
variable{X:Cx}{K:J0}
def HK(K:J0)(ta tb:TE):TI:=fun σ H R=>ta σ H fun x H1=>tb σ H1 fun y H2=>∃l c,x= .ref l/\y= .int c/\ -(2 ^ 62) <=c/\c < 2 ^ 62/\(∃xs,Je K H2 l xs)/\R (AM K l c) H2
theorem O9{e e2:J7}{ta tb:TE}{elts:List Expr}{k:Nat}{pos' p pos kp:Pos}(h:X.K=K)(hg:Gl X "enumerate")(hm:X.mg "enumerate"=none)(ha:PE X e ta)(hb:PE X e2 tb)
  (he:backTo pos (starEach [e] X.env)=(false,eval e X.env)::backTo pos (starEach [] X.env):=by rfl) (hs:starEach [e] X.env=(false,eval e X.env)::starEach [] X.env:=by rfl)
  (hpl:(backTo pos (starEach [e] X.env)).any (·.1)=false:=by rfl):PI X (.Tuple elts k pos') (.Call (.Name "enumerate" p) [e] [⟨some "start",e2,kp⟩] pos) (HK K ta tb):=by
 subst h;intro pins s σ H R I h;refine XU (BW I hg hm boot_enumerate ?_);have h':D7 ta Gm σ H (fun vs H1=>D7 tb Gm σ H1 fun zs H2=>match vs,zs with|[x],[y]=>∃l c,x= .ref l/\y= .int c/\ -(2 ^ 62) <=c/\c < 2 ^ 62/\(∃xs,Je X.K H2 l xs)/\R (AM X.K l c) H2|_,_=>False):=h;refine QZ (Jr (JG ha Jc hs pos pins s σ H _ I h') fun us o ⟨vs,H1,I1,r,q⟩=>Jr (nV hb Se pos pins o σ H1 _ I1 q) fun ws a ⟨zs,H2,f,j,d⟩=>?_) he hpl rfl rfl;cases r with
 |nil=>cases j <;> exact False.elim d
 |cons r1 rr=>
  cases rr with
  |cons _ _=>cases j <;> exact False.elim d
  |nil=>
   cases j with
   |nil=>exact False.elim d
   |cons z1 zz=>
    cases zz with
    |cons _ _=>exact False.elim d
    |nil=>
     obtain⟨l,c,rfl,rfl,c1,c2,⟨xs,w⟩,u⟩:=d;cases r1;obtain⟨t,rfl⟩:=z1;obtain⟨its,rv,v,hz⟩:=f.list w;refine vA v.isList (by unfold Builtin.SmallTypes.fitsIndex;simp;omega) fun h' g n z=>wpAny_pyIter_enum g ?_
     refine⟨_,[a.heap.objs.size+ 1,a.heap.objs.size],_,_,H2,rfl,f.kept (t':=a.toks) z,SY l _ a.heap.objs.size c,⟨⟨Value.none,?_⟩,n⟩,fun b hb=>?_,u⟩
     .rw[show c+ ((0:Nat):Int)=c by omega];exact g
     .have i:a.heap.objs.size <=b:=by
       rcases Yp.mp hb with rfl|hb
       .exact U7 _
       .rw[Y9.mp hb];exact Y7 _
      exact f.fpOk i (f.hok.fresh i)
end
theorem Ld{K:J0}{a:J2}{c:Int}{xs:List V}{g:TG}{tb:TS}{D:Dy}{σ:St}{H:Hp}(Pv:Nat->St->Hp->Prop)(h0:Pv 0 σ H)(hl:∀i σ H,i <=xs.length->Pv i σ H->Je K H a xs)
  (hs:∀i x t σ H H',xs[i]?=some x->Pv i σ H->H t=none->J9 H H'->H' t=some (.tup [.int (c+ i),x])->g (.ref t) σ H' fun σ2 H2=>tb {D with nx:=Pv (i+ 1),ct:=Pv (i+ 1),bk:=D.nx} σ2 H2) (hd:∀σ H,Pv xs.length σ H->D.nx σ H):Ce g tb D σ (AM K a c) H:=by
 refine⟨fun i m σ H=>m=xs.length - i/\i <=xs.length/\Pv i σ H,⟨xs.length,by simp,Yv _,h0⟩,?_⟩;rintro i m σ H ⟨rfl,hi,p⟩;have q:=hl i σ H hi p
 by_cases hlt:i < xs.length
 .refine .inr ⟨⟨xs,xs[i],q,by simp[hlt]⟩,Pv (i+ 1),fun σ' H' b=>⟨xs.length - (i+ 1),by omega,rfl,hlt,b⟩,fun x H' y=>?_⟩;obtain⟨t,y,rfl,h1,h2,f,d⟩:=y;exact hs i y t σ H H' (d xs q) p h1 h2 f
 .have e:i=xs.length:=by omega
  subst e;exact .inl ⟨⟨xs,q,Y7 _⟩,hd σ H p⟩
section
variable{X:Cx}{K:J0}
def A4(K:J0):R2:=fun x y H Q=>∃a b xs,x= .ref a/\y= .ref b/\Je K H a xs/\Je K H b []/\Q (.bl (decide (xs.length=0))) H
theorem K9(hu:X.A.units+ 64 < cLine)(h:X.K=K):JW X (compareOp .Eq) (A4 K):=by
 subst h;intro pins s σ H x y v u Q I rx ry h;obtain⟨a,b,xs,rfl,rfl,h1,h2,q⟩:=h;cases rx;cases ry;obtain⟨d,g,p,o⟩:=I.list h1;obtain⟨i,c,p2,n⟩:=I.list h2;cases c;have f:=g.length
 by_cases h0:xs.length=0
 .refine PySem.SeqAt.eq_listAt (e:=fun _=>true) p.isList p2.isList (by rw[Yc,Yc,<-f,h0];rfl) (YH (UH _ 64) hu) ?_ ?_
  .intro j h1;rw[Yc]at h1;omega
  .have l:d.toArray.size=0:=by rw[Yc];omega
   rw[l];rw[Yk h0]at q;exact NU I q rfl
 .refine PySem.SeqAt.eq_list_lengthsAt p.isList p2.isList (by rw[Yc,Yc,<-f];simp;exact fun z=>h0 (by rw[z];rfl)) (YH (UH _ 64) hu) ?_;rw[Ys h0]at q;exact NU I q rfl
def AK:R2:=fun y x H Q=>∃a n kvs,y= .int n/\x= .ref a/\H a=some (.dK kvs)/\Q (.bl (JD kvs (Sum.inl n)).isSome) H
theorem QU(hu:X.A.units+ 1 < cLine):JW X (compareOp .In) AK:=by
 intro pins s σ H y x v u Q I ry rx h;obtain⟨a,n,d,rfl,rfl,b,q⟩:=h;cases rx;exact Z5 hu I (Nh.k (k:=Sum.inl n) b) ry fun s' c=>⟨.bl _,H,c,rfl,q⟩
end
end L2
namespace L2
open PySem PySem.Spec PyProof.Rows
section
variable{X:Cx}{pos pos' p0:Pos}{o i value:J7}{td ty tv tz:TE}
def HR(td ty tv:TE):TS:=fun D σ H=>tv σ H fun v H1=>td σ H1 fun x H2=>ty σ H2 fun y H3=>∃a n kvs,x= .ref a/\y= .str n/\H3 a=some (.dK kvs)/\kvs.length < sizeLine/\∀G,Nd a H3 G->G a=some (.dK (M8 kvs (.inr n) v))->D.nx σ G
theorem Ps(hu:X.A.units+ 1 < cLine)(ho:PE X o td)(hi:PE X i ty)(hv:PE X value tv)(hs:swapsWith value (some (.Subscript o i pos')) pos.line X.env=pure false):
  PS X (.Assign [.Subscript o i pos'] value pos) (HR td ty tv):=by
 intro pins s σ H D I h;refine wpAny_Assign_Subscript (Jr (hv pins s σ H _ I h) fun r c ⟨v,H1,I1,d,g⟩=>Jr (ho pins c σ H1 _ I1 g) fun u b ⟨x,H2,z,rx,f⟩=>Jr (hi pins b σ H2 _ z f) fun iv s3 ⟨y,H3,w,ry,a,n,kvs,ex,l,p,j,e⟩=>?_) hs;subst ex l;obtain rfl:u=Value.ref a:=rx;exact PX hu w (GI.k (k:=Sum.inr n) p j) ry d fun s4 q=>⟨σ,_,q,e _ Nd.upd ND⟩
def Iv:V->List V->Hp->VK->Prop:=fun x vs H Q=>∃a n kvs z,x= .ref a/\vs=[.int n,z]/\H a=some (.dK kvs)/\Q ((JD kvs (Sum.inl n)).getD z) H
theorem yT:DY X "dict.get" Iv:=by
 intro pins s σ H x vs v i Q I rx f h;obtain⟨a,n,d,z,rfl,rfl,g,q⟩:=h;cases rx;cases f with
 |cons r1 t=>
  cases t with
  |cons r2 t2=>
   cases t2;obtain⟨j,hd,vs,c,e⟩:=C5 I.hok g;refine call_meetsIn F.slot_dict_get e.mapOf.typeIs F.entry_dict_get (F.args_dict_get_3 _ _ _) (meets_dict_get_default (Jk X.prog X.w) a (k:=Sum.inl n) (Ei (k:=Sum.inl n) r1) hd _) ⟨_,e.mapOf,?_⟩;have b:=c.val (Sum.inl n);refine⟨_,H,I.tok _,?_,q⟩;cases e1:JD d (Sum.inl n) with
   |none=>
    cases e2:valueAt vs (Sum.inl n) with
    |none=>exact r2
    |some u=>rw[e1,e2]at b;exact b.elim
   |some y=>
    cases e2:valueAt vs (Sum.inl n) with
    |none=>rw[e1,e2]at b;exact b.elim
    |some u=>rw[e1,e2]at b;exact b
end
theorem xM{n:Nat}(f:Nat->Int):argBest (fun i j=>decide (f i > f j)) n <=n/\∀i,i <=n->f i <=f (argBest (fun i j=>decide (f i > f j)) n):=by
 induction n with
 |zero=>exact⟨by simp[argBest],fun i hi=>by obtain rfl:i=0:=(by lia);simp[argBest]⟩
 |succ n ih=>
  by_cases h:f (argBest (fun i j=>decide (f i > f j)) n) < f (n+ 1)
  .have e:argBest (fun i j=>decide (f i > f j)) (n+ 1)=n+ 1:=by simp[argBest,h]
   rw[e];refine⟨Y7 _,fun i hi=>?_⟩
   by_cases hi':i=n+ 1
   .subst hi';exact Xy _
   .have:=ih.2 i (by lia);lia
  .have e:argBest (fun i j=>decide (f i > f j)) (n+ 1)=argBest (fun i j=>decide (f i > f j)) n:=by simp[argBest,h]
   rw[e];refine⟨by lia,fun i hi=>?_⟩
   by_cases hi':i=n+ 1
   .subst hi';lia
   .exact ih.2 i (by lia)
section
variable{X:Cx}{K:J0}
def F1(K:J0):List V->Hp->VK->Prop:=fun xs H Q=>∃ (p:J2) (ns:J3),xs=[.ref p]/\Je K H p (ns.map V.int)/\ns≠[]/\∀v,v∈ns->(∀y∈ns,y <=v)->Q (.int v) H
theorem nD(hc:X.calm=true)(h:X.K=K):Jt X (.builtin "max") (F1 K):=by
 subst h;intro pins s σ H xs us Q I r hh;obtain⟨p,a,rfl,hq,f,q⟩:=hh;obtain⟨u,rfl,rx⟩:=R4 r;cases rx;obtain⟨b,w,z,hz⟩:=I.list hq;have hh:X.A.in1.handled=none:=I.ok.hd hc;have hi:IntsAre b a:=Kl w;obtain⟨xs,d⟩:=hi.allInts.items;have j:s.heap.IsList p (intItems xs):=d▸z.isList;have o:a=xs.toList.map (·.1):=by
  rw[<-nums_intItems,<-d];exact(show numsOf b.toArray.toList=a from hi.numsOf).symm
 have e:xs.size=a.length:=by rw[o];simp
 have c:0 < xs.size:=by rw[e];exact List.length_pos_iff.mpr f
 refine max_intList hh j c fun v h' tk hv hk=>?_
 obtain⟨t,rfl⟩:=intItems_at hv;obtain⟨b1,b2⟩:=xM (n:=xs.size - 1) (numAt xs);have g:∀i (hi:i < a.length),numAt xs i=a[i]:=fun i hi=>by
  have:a[i]?=(xs.toList.map (·.1))[i]?:=by rw[<-o]
  rw[Y5 hi,Yf]at this;unfold numAt;have e2:xs[i]?=xs.toList[i]?:=by simp
  rw[e2,<-this];rfl
 refine⟨.int _,H,I.kept (t':=tk) hk,⟨t,rfl⟩,q _ ?_ fun y hy=>?_⟩
 .rw[g _ (by lia)];exact XG _
 .obtain⟨k,l,rfl⟩:=WF.mp hy;rw[<-g k l];exact b2 k (by lia)
end
def Hs(K:J0):List V->Hp->VK->Prop:=fun xs H Q=>∃a C1 C2 dx fs b,xs=[.ref a,.ref C2]/\H a=some (.ins C1 dx fs)/\MQ K C1/\RM K C1/\W.kitOne K (.ref C1) (.ref C2)=some b/\Q (.bl b) H
theorem AT{X:Cx}{K:J0}(h:X.K=K):Jt X (.builtin "isinstance") (Hs K):=by
 subst h;intro pins s σ H xs d Q I r hh;obtain⟨a,i,g,dx,fs,b,rfl,ha,f,c,e,q⟩:=hh;exact HX pins s σ H _ d Q I r ⟨.ref a,.ref g,.ref i,b,rfl,.ins ha f c.ha c.hn c.htk c.hm,rfl,e,q⟩
section
variable{Jq es:List Expr}{env:Env}{pos:Pos}{a b c:J7}
theorem Dn{k:Nat}:starEach (.Tuple es k pos::Jq) env=(false,eval (.Tuple es k pos) env)::starEach Jq env:=rfl
theorem OU:starEach (.List es pos::Jq) env=(false,eval (.List es pos) env)::starEach Jq env:=rfl
theorem Mh{v:Const}{k:Nat}:starEach (.Constant v k pos::Jq) env=(false,eval (.Constant v k pos) env)::starEach Jq env:=rfl
theorem MJ{x:Str}:starEach (.Name x pos::Jq) env=(false,eval (.Name x pos) env)::starEach Jq env:=rfl
theorem RJ{o:Operator}:starEach (.BinOp a o b pos::Jq) env=(false,eval (.BinOp a o b pos) env)::starEach Jq env:=rfl
theorem Z3{ks:List Keyword}:starEach (.Call a es ks pos::Jq) env=(false,eval (.Call a es ks pos) env)::starEach Jq env:=rfl
theorem vT{x:Str}:starEach (.Attribute a x pos::Jq) env=(false,eval (.Attribute a x pos) env)::starEach Jq env:=rfl
theorem tU:starEach (.Subscript a b pos::Jq) env=(false,eval (.Subscript a b pos) env)::starEach Jq env:=rfl
theorem Eh{gs:List Comprehension}{sc:Scope}:starEach (.ListComp a gs sc pos::Jq) env=(false,eval (.ListComp a gs sc pos) env)::starEach Jq env:=rfl
theorem Sa{o:UnaryOp}:starEach (.UnaryOp o a pos::Jq) env=(false,eval (.UnaryOp o a pos) env)::starEach Jq env:=rfl
end
section
variable{prog:WV}{w:WZ}{J:Type}[DecidableEq J]{knd:HeapKind prog w J}{A:WY}{E:WR}{s:WW}{d a:J2}{k:J}{xs:List (J×Addr×Value)}
theorem w9{v:J1}{Q:WR}(hu:knd.room A)(hkey:knd.is s.heap k a)(hm:s.heap.DictOfH knd d xs)(hz:xs.length <=sizeLine)(h1:∀p,atKey xs k=some p->Q p.2 {s with toks:=s.toks+ knd.draws k})
  (h2:atKey xs k=none->∀h',h'.DictOfH knd d (xs++[(k,a,v)])->Heap.SameBut d s.heap h'->Q v {s with heap:=h',toks:=s.toks+ knd.draws k}):wpAny (model prog w) A (dictSetDefault d (.ref a) v) Q E s:=by
 obtain⟨o,es,ep,b,hc,hd,c,g,l⟩:=hm;have r:es.size <=sizeLine:=by rw[size_of_entries c];exact hz
 unfold dictSetDefault
 try with_reducible refine YJ ?_
 refine Y0 (knd.pyHash hu hkey (Y0 (wpAny_dictFind_heap (s:={s with toks:=s.toks+ knd.draws k}) hu hkey b hd c g l (fun f=>?_) fun j q n=>?_)))
 .have i:k∉xs.map (·.1):=not_mem_keys_of_get f;refine Y0 (XF (Y0 (wpAny_updateDictKeys (hz:=r) (s:={s with toks:=s.toks+ knd.draws k}) b hd (Y2 (h2 (atKey_none_of_get f) _ ⟨_,_,ep+ 1,YQ _ b (Obj.isFreed_of_dict (Obj.data_mapDictKeys hd _)),hc.mapDictKeys _,Obj.data_mapDictKeys hd _,?_,?_,?_⟩ (XQ ..))))))
  .simp[c,entryOfKey]
  .intro x h;rcases Ye.mp h with z|z
   .exact knd.keeps (g x z) b hd (XQ ..)
   .rw[Y9.mp z];exact knd.keeps hkey b hd (XQ ..)
  .rw[Yw,U3];refine⟨l,by simp,fun x h y u e=>i ?_⟩;have:y=k:=by simpa using u
   rw[<-this,<-e];exact h
 .refine Y0 (Va (s:={s with toks:=s.toks+ knd.draws k}) b hd ?_);rw[entry_at c j,n];exact Y0 (XF (Y2 (h1 q (atKey_of_get l n))))
end
section
variable{prog:WV}{w:WZ}{J:Type}[DecidableEq J]{knd:HeapKind prog w J}{d a:J2}
theorem jR (hd : (d == sysModules) = false) (dflt : Value) : MeetsIn prog w (Builtin.«dict.setdefault» ⟨[.ref d, .ref a, dflt], []⟩) (fun A R s => knd.room A.in1 /\ ∃ k xs, knd.is s.heap k a /\ s.heap.DictOfH knd d xs /\ xs.length <= sizeLine /\
  (∀ p, atKey xs k = some p -> R (.ok (.ret p.2)) { s with toks := s.toks + knd.draws k }) /\ (atKey xs k = none -> ∀ h', h'.DictOfH knd d (xs ++ [(k, a, dflt)]) -> Heap.SameBut d s.heap h' -> R (.ok (.ret dflt)) { s with heap := h', toks := s.toks + knd.draws k })) :=
 .of_wp fun A R s ⟨e,k,xs,i,b,c,h1,h2⟩=>by
  unfold Builtin.«dict.setdefault»;refine Y0 (?_:wpAny _ _ (Builtin.Dict.keyAndDefault _ _) _ _ _);unfold Builtin.Dict.keyAndDefault;refine Y0 (wpAny_notOrdered_dict b.typeIs (?_:wpAny _ _ (pure (d,Value.ref a,some dflt)) _ _ s));refine Y2 (?_:wpAny _ _ (if(d==sysModules)=true then _ else(dictSetDefault d (.ref a) dflt >>=_)) _ _ s);rw[Y1 (by simp[hd])];exact Y0 (w9 e i b c (fun p g=>Y2 ⟨_,rfl,h1 p g⟩) fun h h' j f=>Y2 ⟨_,rfl,h2 h h' j f⟩)
end
section
variable{X:Cx}{K:J0}
theorem KT.app{H:Hp}{kvs:List (List Jv×V)}{xs:List (List Jv×Addr×Value)}{k:List Jv}{v:V}{b:J2}{u:J1}(r:KT H kvs xs)(hb:H b=some (.tup (k.map kV)))(rv:Jg v u):KT H (kvs++[(k,v)]) (xs++[(k,b,u)]):=by
 induction r with
 |nil=>exact .cons ⟨rfl,hb,rv⟩ .nil
 |cons q _ ih=>exact .cons q ih
def FN:V->List V->Hp->VK->Prop:=fun x vs H Q=>∃ (a b:J2) (k:List Jv) (kvs:List (List Jv×V)) (z:V),x= .ref a/\vs=[.ref b,z]/\H a=some (.dT kvs)/\H b=some (.tup (k.map kV))/\kvs.length < sizeLine/\
 (∀v,JD kvs k=some v->Q v H)/\(JD kvs k=none->∀G,Nd a H G->G a=some (.dT (kvs++[(k,z)]))->Q z G)
theorem xJ(hu:X.A.units+ 1 < cLine):DY X "dict.setdefault" FN:=by
 intro pins s σ H x vs v us Q I rx rv h;obtain⟨a,b,k,g,z,rfl,rfl,i,n,hl,q1,q2⟩:=h;cases rx;cases rv with
 |cons r1 t1=>
  cases t1 with
  |cons r2 t2=>
   cases t2;cases r1;obtain⟨hz,hd,xs,f,u⟩:=O0 I.hok i;have j:xs.length <=sizeLine:=by rw[<-Paired.length f];exact hz
   have d:=f.val k;refine call_meetsIn VM u.typeIs PySem.F.entry_dict_setdefault (PySem.F.args_dict_setdefault_3 _ _ _) (jR (knd:=tupleKind (Jk X.prog X.w)) hd _) ⟨Up hu,k,xs,E1 I.hok n,u,j,fun p hp=>?_,fun hn h' r hs=>?_⟩
   .rw[hp]at d;cases e:JD g k with
    |none=>rw[e]at d;exact d.elim
    |some y=>rw[e]at d;exact⟨y,H,I.tok _,d,q1 y e⟩
   .rw[hn]at d;cases e:JD g k with
    |some y=>rw[e]at d;exact d.elim
    |none=>
     obtain⟨q,es,ep,l,h2,h3,h4,_,h5⟩:=r;refine⟨z,upd H a (.dT (g++[(k,z)])),?_,r2,q2 e _ Nd.upd ND⟩;refine AU I (by rw[i];exact True.intro) hs ⟨q,l⟩ ⟨by rw[List.length_append];exact hl,hd,_,(f.app n r2).keeps fun c ys o=>?_,q,es,ep,l,h2,h3,h4,h5⟩;rw[JY (N6 o i (fun z=>nomatch z))];exact o
end
section
variable{prog:WV}{w:WZ}{A:WY}{E:WR}{s:WW}{d it:J2}{o:Obj}{es:Array DictEntry}{ep i n:Nat}
theorem SH{Q:WR}(hd:(d==sysModules)=false)(ho:s.heap.get? d=some o)(hc:o.ExactDict)(hdat:o.data= .dict es ep)
  (hQ:Q (.ref s.heap.objs.size) {s with heap:=s.heap.push {cls:=.type "dict_keyiterator",data:=.fields #[.ref d,.int 0 0,.int es.size 0,.int ep 0]}}):wpAny (model prog w) A (pyIter (.ref d)) Q E s:=by
 have a:s.TypeIs (.ref d) "dict":=⟨o,ho,hc.1⟩
 refine VY a Wq (YX Wq a PySem.F.entry_dict_iter ?_ (PySem.F.args_dict_iter_1 _));unfold Builtin.«dict.__iter__»;refine Y0 (?_:wpAny _ _ (Builtin.Dict.dictSlotNone _ _) _ _ _);unfold Builtin.Dict.dictSlotNone;refine Y0 (wpAny_notOrdered_dict a (?_:wpAny _ _ (pure (Value.ref d)) _ _ s));refine Y2 (?_:wpAny _ _ (Builtin.Dict.showsAll d >>=_) _ _ s);unfold Builtin.Dict.showsAll;rw[Y1 (by simp[hd])];refine Y0 (Y2 (Y0 (Va ho hdat (Y0 (Wo ho hdat (Y0 (X3 (Y2 ⟨_,rfl,"dict_keyiterator",_,⟨_,Yh _ rfl,rfl⟩,Xh.lookup,?_⟩))))))));simpa[rawInt] using hQ
theorem QB{Q:Option Value->Shared->Prop}(hit:s.heap.IsKeyIter it d i es.size ep)(ho:s.heap.get? d=some o)(hdd:o.data= .dict es ep)(hlt:i < es.size)
  (hQ:∀h',h'.IsKeyIter it d (i+ 1) es.size ep->Heap.SameBut it s.heap h'->Q (some es[i].key) {s with heap:=h'}):wpAny (model prog w) A (pyNext (.ref it)) Q E s:=by
 obtain⟨f,a,e,hd⟩:=id hit;have c:=hit.typeIs;unfold pyNext;refine Y0 (XN (Xc (name:=Str.ofString "__next__") c Xh (YX Xh c V3 ?_ (UW _))));refine Y0 (Y2 (Y0 (Y0 ?_)));refine Y0 (XO c (Y2 (Y0 (UC a hd ?_))));simp only[show Builtin.Dict_items.ownsTuple "dict_keyiterator"=false by decide,Bool.false_eq_true,if_false];refine(?_:wpAny _ _ (if(Value.ref d==Value.none)=true then _ else _) _ _ s);rw[Y1 (show ¬((Value.ref d==Value.none)=true) from fun z=>Bool.noConfusion z)];refine Y0 (Y2 (Y0 (Va ho hdd ?_)));rw[Y1 (by simp)];refine Y0 (Y2 (Y0 (Wo ho hdd ?_)));rw[Y1 (by simp)];refine Y2 ?_;simp only[show ¬((i:Int) < 0) by omega,if_false,YN,Yq hlt];refine Y0 (Y0 (XO c (Y2 (Y0 (wpAny_isOneOf_keyiter c ?_)))));refine(?_:wpAny _ _ (setField (.ref it) 1 (rawInt ((i:Int)+ 1)) >>=_) _ _ s);refine Y0 (XS a hd (by simp) ?_);have b:(s.heap.update it (Obj.mapFields (·.setIfInBounds 1 (rawInt ((i:Int)+ 1))))).IsKeyIter it d (i+ 1) es.size ep:=
  ⟨_,YQ _ a (Obj.isFreed_of_fields (Obj.data_mapFields hd _)),(Obj.cls_mapFields ..).trans e,by rw[Obj.data_mapFields hd];simp[rawInt]⟩
 refine Y0 (YJ (Y0 (wpAny_isOneOf_keyiter (s:={s with heap:=s.heap.update it (Obj.mapFields (·.setIfInBounds 1 (rawInt ((i:Int)+ 1))))}) b.typeIs ?_)));refine(?_:wpAny _ _ (pure es[i].key) _ _ _);exact Y2 (Y2 ⟨_,rfl,Y2 (hQ _ b (XQ ..))⟩)
theorem SV{Q:Option Value->Shared->Prop}(hh:A.handled=none)(hit:s.heap.IsKeyIter it d i es.size ep)(ho:s.heap.get? d=some o)(hdd:o.data= .dict es ep)(hge:es.size <=i)
  (hQ:∀h',Heap.ExtBut it s.heap h'->Q none {s with heap:=h'}):wpAny (model prog w) A (pyNext (.ref it)) Q E s:=by
 obtain⟨f,e,g,hd⟩:=id hit;have c:=hit.typeIs;unfold pyNext;refine Y0 (XN (Xc (name:=Str.ofString "__next__") c Xh (YX Xh c V3 ?_ (UW _))));refine Y0 (Y2 (Y0 (Y0 ?_)));refine Y0 (XO c (Y2 (Y0 (UC e hd ?_))));simp only[show Builtin.Dict_items.ownsTuple "dict_keyiterator"=false by decide,Bool.false_eq_true,if_false];refine(?_:wpAny _ _ (if(Value.ref d==Value.none)=true then _ else _) _ _ s);rw[Y1 (show ¬((Value.ref d==Value.none)=true) from fun z=>Bool.noConfusion z)];refine Y0 (Y2 (Y0 (Va ho hdd ?_)));rw[Y1 (by simp)];refine Y0 (Y2 (Y0 (Wo ho hdd ?_)));rw[Y1 (by simp)];refine Y2 ?_;simp only[show ¬((i:Int) < 0) by omega,if_false,YN,Us hge];refine Y0 (Y0 (XO c (Y2 ?_)));refine(?_:wpAny _ _ (setField (.ref it) 0 .none >>=_) _ _ s);refine Y0 (XS e hd (by simp) ?_);refine(?_:wpAny _ _ (newExc (.type "StopIteration") [] >>=_) _ _ _);refine Y0 ?_;simp only[newExc,newTuple];refine Y0 (X3 (Y0 (m:=firstArgMember _ _) (Vg (a:=Value.none) (by first|rfl|(simp only[firstArgMember];rfl)) (X3 ?_ (by size_fits)))) (by size_fits));simp only[raiseNew];refine Y0 (wpAny_handled ?_);rw[show A.in1.handled=none from hh];refine Y0 (Y2 (wpAny_throw ?_));exact Y0 (Ua (T:="StopIteration") (b:=true) ⟨_,Yh _ rfl,rfl⟩ VL (Y2 (hQ _ (((XQ ..).extBut.push _).push _))))
end
theorem KT.at'{H:Hp}:∀{kvs:List (List Jv×V)} {xs:List (List Jv×Addr×Value)},KT H kvs xs->∀{i:Nat} {x:List Jv×Addr×Value},xs[i]?=some x->∃v,kvs[i]?=some (x.1,v)/\H x.2.1=some (.tup (x.1.map kV)):=by
 intro kvs xs r
 induction r with
 |nil=>intro i x h;simp at h
 |@cons p q ps qs hq t ih=>
  intro i x h;cases i with
  |zero=>
   simp only[List.getElem?_cons_zero,Option.some.injEq]at h;subst h;refine⟨p.2,by simp[<-hq.1],by rw[<-hq.1];exact hq.2.1⟩
  |succ i=>exact ih (by simpa using h)
section
variable{X:Cx}{pos pos' p0:Pos}{o i value:J7}{td ty tv tz:TE}
def Hu:TE:=fun _ H Q=>∀p G,H p=none->J9 H G->G p=some (.dT [])->Q (.ref p) G
theorem xL:PE X (.Dict [] [] p0) Hu:=by
 intro pins s σ H Q I h;exact jS pins s σ H Q I fun p a=>h p _ a (ML a) ND
end
end L2
namespace L2
open PySem PySem.Spec PyProof.Rows PySem.W
section
variable{X:Cx}{K:J0}
def AG(K:J0):R2:=fun x y H Q=>∃a b xs,x= .ref a/\y= .ref b/\Je K H a xs/\Je K H b []/\Q (.bl (!decide (xs.length=0))) H
theorem QJ(hu:X.A.units+ 64 < cLine)(h:X.K=K):JW X (compareOp .NotEq) (AG K):=by
 subst h;intro pins s σ H x y v u Q I rx ry h;obtain⟨a,b,xs,rfl,rfl,h1,h2,q⟩:=h;cases rx;cases ry;obtain⟨d,g,p,o⟩:=I.list h1;obtain⟨i,c,p2,n⟩:=I.list h2;cases c;have f:=g.length
 by_cases h0:xs.length=0
 .refine PySem.SeqAt.RcNeAt.lists (e:=fun _=>true) p.isList p2.isList (by rw[Yc,Yc,<-f,h0];rfl) (YH (UH _ 64) hu) (fun j h1 h2=>?_) X.prog X.w _ _ ?_
  .rw[Yc]at h1
   lia
  .have l:d.toArray.size=0:=by rw[Yc];lia
   rw[l];rw[Yk h0]at q;exact NU I q rfl
 .refine PySem.SeqAt.RcNeAt.lists_lengths p.isList p2.isList (by rw[Yc,Yc,<-f];simp;exact fun z=>h0 (by rw[z];rfl)) (YH (UH _ 64) hu) X.prog X.w _ _ ?_;rw[Ys h0]at q;exact NU I q rfl
end
end L2
namespace L2
open PySem PySem.Spec PyProof.Rows
end L2
namespace L2
open PySem PySem.Spec PyProof.Rows PySem.Builtin PySem.Builtin.ObjectAttr PySem.Builtin.Getset_descriptor
end L2
namespace L2
open PySem PySem.Spec PyProof.Rows
def HT:HO:=.ext fun _=>True
def Holds(cl:List (Str×Addr))(h:J6)(N':List Str)(σ:St):Prop:=∀ (i:Nat) (x:Str) (v:V),N'[i]?=some x->σ[i]?=some (some v)->∃c o u,cl.lookup x=some c/\h.get? c=some o/\o.data= .cell (some u)/\Jg v u
end L2
namespace L2
open PySem PySem.Spec PyProof.Rows PySem.W
abbrev Ky:=Int×Str×Str
def D3(a b:Str):Bool:=decide (a.cps.toList < b.cps.toList)
theorem CH(a:Str):D3 a a=false:=Ys (List.lt_irrefl _)
theorem On{a b c:Str}(h1:D3 a b=true)(h2:D3 b c=true):D3 a c=true:=Yk (List.lt_trans (Xi h1) (Xi h2))
theorem KO{a b c:Str}(h:D3 a c=true):D3 a b=true\/D3 b c=true:=by
 by_cases h1:a.cps.toList < b.cps.toList
 .exact .inl (Yk h1)
 .exact .inr (Yk (List.lt_of_le_of_lt (WP.mp h1) (Xi h)))
theorem FM{a b:Str}(h1:D3 a b=false)(h2:D3 b a=false):a=b:=by
 have e:=List.le_antisymm (WP.mp (UX h2)) (WP.mp (UX h1));cases a;cases b;simp only[PySem.Str.mk.injEq];exact Wa.mp e
theorem tE{a b:Str}(h:D3 a b=true):a≠b:=fun e=>by rw[e,CH]at h;cases h
def TV(a b:Ky):Bool:=if a.1=b.1 then(if a.2.1=b.2.1 then D3 a.2.2 b.2.2 else D3 a.2.1 b.2.1) else decide (a.1 < b.1)
theorem Tb{a b:Ky}:TV a b=true↔a.1 < b.1\/a.1=b.1/\(D3 a.2.1 b.2.1=true\/a.2.1=b.2.1/\D3 a.2.2 b.2.2=true):=by
 unfold TV
 by_cases h1:a.1=b.1
 .rw[Y3 h1]
  by_cases h2:a.2.1=b.2.1
  .rw [Y3 h2];exact ⟨fun h => .inr ⟨h1, .inr ⟨h2, h⟩⟩, fun h => by
    rcases h with h|⟨_,h|⟨_,h⟩⟩
    .lia
    .exact absurd h2 (tE h)
    .exact h⟩
  .rw [Y1 h2];exact ⟨fun h => .inr ⟨h1, .inl h⟩, fun h => by
    rcases h with h|⟨_,h|⟨h,_⟩⟩
    .lia
    .exact h
    .exact absurd h h2⟩
 .rw[Y1 h1,Yg];exact⟨.inl,fun h=>h.elim id fun z=>absurd z.1 h1⟩
theorem nU{a b c:Ky}(h:TV a c=true):TV a b=true\/TV b c=true:=by
 rw[Tb]at*;rw[Tb]
 by_cases h1:a.1 < b.1
 .exact .inl (.inl h1)
 .by_cases h2:b.1 < c.1
  .exact .inr (.inl h2)
  .rcases h with h|⟨e,h⟩
   .lia
   .have f:a.1=b.1:=by lia
    have d:b.1=c.1:=by lia
    rcases h with h|⟨e3,h⟩
    .rcases KO (b:=b.2.1) h with h|h
     .exact .inl (.inr ⟨f,.inl h⟩)
     .exact .inr (.inr ⟨d,.inl h⟩)
    .by_cases e4:a.2.1=b.2.1
     .rcases KO (b:=b.2.2) h with h|h
      .exact .inl (.inr ⟨f,.inr ⟨e4,h⟩⟩)
      .exact .inr (.inr ⟨d,.inr ⟨by rw[<-e4];exact e3,h⟩⟩)
     .cases h3:D3 a.2.1 b.2.1 with
      |true=>exact .inl (.inr ⟨f,.inl rfl⟩)
      |false=>
       cases h4:D3 b.2.1 a.2.1 with
       |true=>exact .inr (.inr ⟨d,.inl (by rw[<-e3];exact h4)⟩)
       |false=>exact absurd (FM h3 h4) e4
theorem yY{a b c:Ky}(h1:TV a b=true)(h2:TV b c=true):TV a c=true:=by
 rw[Tb]at*;rcases h1 with h1|⟨e1,h1⟩
 .rcases h2 with h2|⟨e2,h2⟩
  .exact .inl (by lia)
  .exact .inl (by lia)
 .rcases h2 with h2|⟨e2,h2⟩
  .exact .inl (by lia)
  .refine .inr ⟨by lia,?_⟩;rcases h1 with h1|⟨f1,h1⟩
   .rcases h2 with h2|⟨f2,h2⟩
    .exact .inl (On h1 h2)
    .exact .inl (by rw[<-f2];exact h1)
   .rcases h2 with h2|⟨f2,h2⟩
    .exact .inl (by rw[f1];exact h2)
    .exact .inr ⟨f1.trans f2,On h1 h2⟩
theorem nB(a:Ky):TV a a=false:=by
 unfold TV;rw[Y3 rfl,Y3 rfl];exact CH _
theorem xA{a b:Ky}(h1:TV a b=false)(h2:TV b a=false):a=b:=by
 have e:=fun z=>Yi (h1.symm.trans (Tb.mpr z))
 have d:=fun z=>Yi (h2.symm.trans (Tb.mpr z))
 have c:a.1=b.1:=by
  rcases Int.lt_trichotomy a.1 b.1 with h|h|h
  .exact absurd (.inl h) e
  .exact h
  .exact absurd (.inl h) d
 have f:a.2.1=b.2.1:=FM (Vb.mpr fun z=>e (.inr ⟨c,.inl z⟩)) (Vb.mpr fun z=>d (.inr ⟨c.symm,.inl z⟩));have g:a.2.2=b.2.2:=FM (Vb.mpr fun z=>e (.inr ⟨c,.inr ⟨f,z⟩⟩)) (Vb.mpr fun z=>d (.inr ⟨c.symm,.inr ⟨f.symm,z⟩⟩));exact UI c (UI f g)
def DJ:KeyOrd:=⟨Ky,TV,nB,fun _ _ _=>yY,fun _ _ _=>nU,fun _ _=>xA⟩
end L2
namespace HT
open PySem PyProof.Rows
def ltK:Int ⊕ Str->Int ⊕ Str->Bool
 | .inl a,.inl b=>decide (a < b)
 | .inr a,.inr b=>decide (a.cps.toList < b.cps.toList)
 |_,_=>false
def lexK:List (Int ⊕ Str)->List (Int ⊕ Str)->Bool
 |[],[]=>false
 |[],_::_=>true
 |_::_,[]=>false
 |x::xs,y::ys=>if x=y then lexK xs ys else ltK x y
inductive TB:List Value->List (Int ⊕ Str)->Prop where
 |nil:TB [] []
 |int (a:Int) (t:Tok) {vs ks}:TB vs ks->TB (.int a t::vs) (.inl a::ks)
 |str (a:Str) (t:Tok) {vs ks}:TB vs ks->TB (.str a t::vs) (.inr a::ks)
theorem TB.length{vs:J5}{ks:List (Int ⊕ Str)}(h:TB vs ks):vs.length=ks.length:=by
 induction h with
 |nil=>rfl
 |int _ _ _ ih=>simp[ih]
 |str _ _ _ ih=>simp[ih]
inductive Rx:List (Int ⊕ Str)->List (Int ⊕ Str)->Prop where
 |nil:Rx [] []
 |int (a b:Int) {ks js}:Rx ks js->Rx (.inl a::ks) (.inl b::js)
 |str (a b:Str) {ks js}:Rx ks js->Rx (.inr a::ks) (.inr b::js)
theorem LF(x y:Int ⊕ Str)(xs ys):lexK (x::xs) (y::ys)=if x=y then lexK xs ys else ltK x y:=rfl
theorem tQ(A:WY)(s:WW)(a:Str)(t:Tok)(c:Str)(u:Tok):∃e,SeqAt.EqAt A s (.str a t) (.str c u) e/\(e=true↔a=c):=
 ⟨(a==c),SeqAt.EqAt.str_str a t c u,by simp⟩
theorem SM(A:WY)(s:WW)(a:Str)(t:Tok)(c:Str)(u:Tok)(prog:WV)(w:WZ)(E:WR)(Q:WR)(h:Q (.bool (decide (a.cps.toList < c.cps.toList))) s):
  wpAny (model prog w) A (richCompare .Lt (.str a t) (.str c u)) Q E s:=
 (WI h:wpAny (model prog w) A (compareOp .Lt (.str a t) (.str c u)) Q E s)
section
open PySem.SeqAt
open PySem.AutoSeq1 (wpAny_loadPart')
open PySem.MeetsSeq PySem.MeetsSeq2 PySem.MeetsSeq3
theorem S8(l b:J2)(items items2:Array Value)(n n2:Nat)(dd dd2:Option Addr)(sl sl2:Array (Option Value))(ns ms:List (Int ⊕ Str))(hi:TB items.toList ns)(hj:TB items2.toList ms)(hsh:Rx ns ms):
  Meets (Builtin.«tuple.__lt__» ⟨[.ref l,.ref b],[]⟩)
   (fun _ R s => s.heap.get? l = some { cls := .type "tuple", dict := dd, data := .seq items n, slots := sl } /\ s.heap.get? b = some { cls := .type "tuple", dict := dd2, data := .seq items2 n2, slots := sl2 } /\
    R (.ok (.ret (.bool (lexK ns ms)))) s) :=
 .of_wp fun prog w A R s h=>by
  obtain⟨j,g,d,tk,i⟩:=s;obtain⟨v,z,h⟩:=h;have f2:=AutoSeq1.sub_tuple_tuple;have z1:items.size=ns.length:=by rw[<-hi.length];simp
  have z2:items2.size=ms.length:=by rw[<-hj.length];simp
  wp_walk using XC v, XC z, wpAny_forIn_list _ (fun Jq b s' => b.1 = none /\ s' = ⟨j, g, d, tk, i⟩ /\ ∃ (vs ws : List Value) (ns' ms' : List (Int ⊕ Str)), Jq = vs.zip ws /\
   TB vs ns' /\ TB ws ms' /\ Rx ns' ms' /\ ns'.length + items2.size = ms'.length + items.size /\ R (.ok (.ret (.bool (lexK ns' ms')))) ⟨j, g, d, tk, i⟩) _
  case turn=>
   rintro⟨y,x⟩ Jq b s' ⟨hb',rfl,vs,ws,ns',ms',hz,hvi,hwi,hsh',hlen,hR⟩;cases hsh' with
   |nil=>
    cases hvi;rw[List.zip_nil_left]at hz;cases hz
   |int a c hs=>
    cases hvi with
    |int _ t hvi'=>
    cases hwi with
    |int _ u hwi'=>
     rw[Xv]at hz;injection hz with hyx hrest;injection hyx with hy hx;subst hy hx;rw[LF]at hR;simp only[List.length_cons]at hlen;obtain⟨e,p,f⟩:=uC A.in1 ⟨j,g,d,tk,i⟩ a t c u;refine Y0 (p prog w _ _ ?_);cases e with
     |true=>
      rw[Y3 (Xn Sum.inl (f.mp rfl))]at hR
      wp_walk
      exact⟨rfl,rfl,_,_,_,_,hrest,hvi',hwi',hs,by lia,hR⟩
     |false=>
      rw[Y1 (fun q=>absurd (f.mpr (Vf q)) Yi)]at hR;have o:=L9 A.in1 ⟨j,g,d,tk,i⟩ a t c u prog w
      wp_walk using o
      exact⟨_,rfl,by simpa[ltK] using hR⟩
   |str a c hs=>
    cases hvi with
    |str _ t hvi'=>
    cases hwi with
    |str _ u hwi'=>
     rw[Xv]at hz;injection hz with hyx hrest;injection hyx with hy hx;subst hy hx;rw[LF]at hR;simp only[List.length_cons]at hlen;obtain⟨e,p,f⟩:=tQ A.in1 ⟨j,g,d,tk,i⟩ a t c u;refine Y0 (p prog w _ _ ?_);cases e with
     |true=>
      rw[Y3 (Xn Sum.inr (f.mp rfl))]at hR
      wp_walk
      exact⟨rfl,rfl,_,_,_,_,hrest,hvi',hwi',hs,by lia,hR⟩
     |false=>
      rw[Y1 (fun q=>absurd (f.mpr (Sum.inr.inj q)) Yi)]at hR;have o:=SM A.in1 ⟨j,g,d,tk,i⟩ a t c u prog w
      wp_walk using o
      exact⟨_,rfl,by simpa[ltK] using hR⟩
  case fin=>
   rintro⟨b1,b2⟩ s' ⟨hb',rfl,vs,ws,ns',ms',hz,hvi,hwi,hsh',hlen,hR⟩;simp only at hb';subst hb';have r:lexK ns' ms'=decide (items.size < items2.size):=by
    cases hsh' with
    |nil=>
     simp only[List.length_nil]at hlen;exact(Ys (by lia)).symm
    |int a c hs=>
     cases hvi with
     |int _ t _=>
     cases hwi with
     |int _ u _=>rw[Xv]at hz;cases hz
    |str a c hs=>
     cases hvi with
     |str _ t _=>
     cases hwi with
     |str _ u _=>rw[Xv]at hz;cases hz
   rw[r]at hR
   wp_walk
   exact⟨_,rfl,by simpa[Builtin.Tuple.tupleCompareSizes] using hR⟩
  case h=>
   exact⟨rfl,rfl,items.toList,items2.toList,ns,ms,rfl,hi,hj,hsh,by lia,h⟩
end
section
variable{prog:WV}{w:WZ}{A:WY}{E:WR}{s:WW}
theorem lt_tupKeys{l b:J2}{items items2:Array Value}{ns ms:List (Int ⊕ Str)}{Q:WR}(hl:IsTup s.heap l items)(hb:IsTup s.heap b items2)(hi:TB items.toList ns)(hj:TB items2.toList ms)(hsh:Rx ns ms)
  (hu:A.units < cLine) (h:Q (.bool (lexK ns ms)) s):wpAny (model prog w) A (compareOp .Lt (.ref l) (.ref b)) Q E s:=by
 obtain⟨⟨v,q,r,o⟩,f,g,n,hd⟩:=id hl;obtain⟨⟨u,i,j,e⟩,a,d,p,c⟩:=id hb;simp only at g hd d c;subst g hd d c;exact richCompare_meets_room (op:=.Lt) ⟨_,f,rfl⟩ ⟨_,a,rfl⟩ PySem.F.slot_tuple_lt PySem.F.entry_tuple_lt (PySem.F.args_tuple_lt_2 _ _) (S8 l b items items2 n p q i o e ns ms hi hj hsh)
  ⟨f,a,show Value.bool (lexK ns ms)≠Value.notImplemented/\Q (.bool (lexK ns ms)) s from⟨(fun x=>nomatch x),h⟩⟩ hu
end
end HT
namespace L2
open PySem PySem.Spec PyProof.Rows PySem.W
section
variable{prog:WV}{w:WZ}{A:WY}{E:WR}{s:WW}{O:KeyOrd}{key:Nat->O.α}{κ:SortKind}{vs:J5}
structure RB(prog:WV)(w:WZ)(h:J6)(O:KeyOrd)(key:Nat->O.α)(κ:SortKind)(vs:J5):Prop where
 kind:∀ (A:WY) (s:WW) (Q:SortKind->Shared->Prop),(∀b o,h.get? b=some o->s.heap.get? b=some o)->2 <=vs.length->Q κ s->wpAny (model prog w) A (keyKind' vs.toArray) Q (fun _ _=>False) s
 cmp:∀ (A:WY) (s:WW) (i j:Nat) (C:Bool->Shared->Prop),A.units < cLine->(∀b o,h.get? b=some o->s.heap.get? b=some o)->i < vs.length->j < vs.length->C (NK O key i j) s->kas_ask prog w A κ vs i j C s
theorem ZQ{a:J2}{n:Nat}{P:PySem.Fin->Shared->Prop}{h₀:J6}(ho:s.heap.get? a=some (seqObj "list" vs.toArray n))(ha0:h₀.objs.size <=a)(hk:∀b o,h₀.get? b=some o->s.heap.get? b=some o)
  (S:RB prog w h₀ O key κ vs) (h64:vs.length < 64) (hu:A.units < cLine)
  (h:∀p:Array Nat,Js vs.length p->MS O key p vs.length->P (.done (.ret .none)) {s with heap:=sortedHeap s.heap a vs (List.toArray (p.toList.map fun i=>vs.getD i Value.none))}):
  wpAny (model prog w) A (Builtin.«list.sort» ⟨[.ref a],[]⟩) P E s:=by
 rw[list_sort_plain];have ha:a < s.heap.objs.size:=Yb ho;refine Y0 (listItems_at ho rfl ?_);refine Y0 (UL ho rfl ?_ (by rw[Yc,YR];lia) (Yv _));obtain⟨z,g⟩:∃z,(s.heap.update a (Obj.mapSeq fun _=>#[])).get? a=some (seqObj "list" #[] z):=⟨_,get?_update_seq ho (fun _=>#[])⟩;refine Y0 (Vi g rfl ?_);refine Y0 (VJ ?_ (by show vs.length <=_;rw[YR];lia));refine Y0 (Vn ?_ (Yv _));refine YJ ?_;have d:(((s.heap.update a (Obj.mapSeq fun _=>#[])).push (seqObj "tuple" vs.toArray 0)).push (seqObj "list" #[] 0)).get? a=some (seqObj "list" #[] z):=by
  rw[Xj _ _ _ (by rw[size_push',YK];exact Yo (XB ha)),Xj _ _ _ (by rw[YK];exact Yo ha)];exact g
 have keep:∀b o,h₀.get? b=some o->(((s.heap.update a (Obj.mapSeq fun _=>#[])).push (seqObj "tuple" vs.toArray 0)).push (seqObj "list" #[] 0)).get? b=some o:=fun b o q=>by
  have hb:b < h₀.objs.size:=Yb q;have q':=hk b o q;have l:b < s.heap.objs.size:=Yb q';rw[Xj _ _ _ (by rw[size_push',YK];exact Yo (XB l)),Xj _ _ _ (by rw[YK];exact Yo l),YV _ _ _ _ (Yo (Yx hb ha0))];exact q'
 show wpAny (model prog w) A _ P E {s with heap:=((s.heap.update a (Obj.mapSeq fun _=>#[])).push (seqObj "tuple" vs.toArray 0)).push (seqObj "list" #[] 0)};dsimp only;have hsz:vs.toArray.size=vs.length:=by simp
 by_cases h2:vs.toArray.size < 2
 .rw[Y3 h2,Y3 h2];refine Y0 (Y2 ?_);rw[StateT.run_pure];refine Y0 (Y2 ?_);dsimp only;refine Y0 (Vi d rfl ?_);refine Y0 (UL d rfl ?_ (Yv _) (hsz2:=by rw[Array.size_map];show(pairsOf vs).size <=_;rw[pairsOf_size,YR];lia));simp only[Vc,Bool.false_eq_true,if_false];have e:Array.map (fun x:Keyed=>x.2) (vs.toArray.zip vs.toArray)=List.toArray ((List.toArray (List.range vs.length)).toList.map fun i=>vs.getD i Value.none):=by
   apply Wa.mp;simp only[LV];rw[Array.toList_map];show List.map (fun x:Keyed=>x.2) (vs.toArray.zip vs.toArray).toList=vs;rw[Array.toList_zip];show List.map Prod.snd (List.zip vs vs)=vs;rw[List.map_snd_zip];exact Y7 _
  have:=h (List.toArray (List.range vs.length)) (Wm _) (fun i j hij hj=>by obtain rfl:i=j:=(by lia);exact Xl _);rw[<-e]at this;exact Y2 this
 .rw[Y1 h2,Y1 h2];have r:2 <=vs.length:=by lia
  refine Y0 (X1 (S.kind A _ (fun κ' s' => κ' = κ /\ s' = { s with heap := ((s.heap.update a (Obj.mapSeq fun _ => #[])).push (seqObj "tuple" vs.toArray 0)).push (seqObj "list" #[] 0) }) keep r ⟨rfl, rfl⟩) ?_ fun _ _ x => x.elim);rintro _ _ ⟨rfl, rfl⟩;refine Y0 (X1 (kat_run (E := E) (Q := fun c s' => ∃ p : Array Nat, p.size = vs.length /\ arrOf c = p.map (kas_item (vs.toArray.zip vs.toArray)) /\ failedOf c = none /\ Js vs.length p /\ MS O key p vs.length /\ s' = { s with heap := ((s.heap.update a (Obj.mapSeq fun _ => #[])).push (seqObj "tuple" vs.toArray 0)).push (seqObj "list" #[] 0) })
   (G:=fun p s'=>Js vs.length p/\MS O key p vs.length/\s'={s with heap:=((s.heap.update a (Obj.mapSeq fun _=>#[])).push (seqObj "tuple" vs.toArray 0)).push (seqObj "list" #[] 0)})
   rfl r h64 (fun p' c s' a1 a2 a3 a4=>⟨p',a1,a2,a3,a4.1,a4.2.1,a4.2.2⟩)
   (M5.wp (N := vs.length) (lt := NK O key) (Q := fun p => Js vs.length p /\ MS O key p vs.length) (fun i j C hi hj hC => S.cmp A _ i j C hu keep hi hj hC) (fun p f => ⟨f.1, f.2, rfl⟩) (jQ (by lia) fun p b1 b2 => ⟨b1, b2⟩))) ?_ fun _ _ e => e)
  rintro⟨⟨⟩,c⟩ s' ⟨p,f,har,hf,b1,b2,rfl⟩;dsimp only;have v:=kat_snds rfl har;have u:(List.toArray (p.toList.map fun i=>vs.getD i Value.none)).size=vs.length:=by rw[Yc,Y4,Array.length_toList,f]
  rw[v];refine Y0 (Vi d rfl ?_);refine Y0 (UL d rfl ?_ (Yv _) (YT (W8 u) (by rw[YR];lia)));rw[hf];simp only[Vc,Bool.false_eq_true,if_false];exact Y2 (h p b1 b2)
end
def N9(h:J6)(v:J1)(k:Ky):Prop:=∃a t u r,v= .ref a/\IsTup h a #[.int k.1 t,.str k.2.1 u,.str k.2.2 r]
theorem IsTup.keep{h h':J6}{a:J2}{its:Array Value}(k:∀b o,h.get? b=some o->h'.get? b=some o)(x:IsTup h a its):IsTup h' a its:=by
 obtain⟨o,h1,h2⟩:=x;exact⟨o,k _ _ h1,h2⟩
theorem N9.keep{h h':J6}{v:J1}{k:Ky}(kp:∀b o,h.get? b=some o->h'.get? b=some o)(x:N9 h v k):N9 h' v k:=by
 obtain⟨a,t,u,r,e,h1⟩:=x;exact⟨a,t,u,r,e,IsTup.keep kp h1⟩
section
variable{prog:WV}{w:WZ}{A:WY}{E:WR}{s:WW}
theorem OT{x y:Str}{t u:Tok}{Q:Bool->Shared->Prop}{b:Bool}{i:Nat}(h:Q (D3 x y) s):wpAny (model prog w) A (oneLt' (b && i+ 1==0) (.str x t) (.str y u)) Q E s:=by
 rw[show(b && i+ 1==0)=false by simp];exact kat_one _ _ (WI h)
theorem nY{x y:J1}{k j:Ky}{Q:WR}(hx:N9 s.heap x k)(hy:N9 s.heap y j)(hu:A.units < cLine)(h:Q (.bool (TV k j)) s):wpAny (model prog w) A (compareOp .Lt x y) Q E s:=by
 obtain⟨a,t,u,r,rfl,h1⟩:=hx;obtain⟨b,d,c,f,rfl,h2⟩:=hy;refine HT.lt_tupKeys (ns:=[.inl k.1,.inr k.2.1,.inr k.2.2]) (ms:=[.inl j.1,.inr j.2.1,.inr j.2.2]) h1 h2 (.int _ _ (.str _ _ (.str _ _ .nil))) (.int _ _ (.str _ _ (.str _ _ .nil))) (.int _ _ (.str _ _ (.str _ _ .nil))) hu ?_;have e:HT.lexK [.inl k.1,.inr k.2.1,.inr k.2.2] [.inl j.1,.inr j.2.1,.inr j.2.2]=TV k j:=by
  unfold TV;simp only[HT.lexK,HT.ltK,Sum.inl.injEq,Sum.inr.injEq]
  by_cases h1:k.1=j.1
  .rw[Y3 h1,Y3 h1]
   by_cases h2:k.2.1=j.2.1
   .rw[Y3 h2,Y3 h2]
    by_cases h3:k.2.2=j.2.2
    .rw[Y3 h3,h3,CH]
    .rw[Y1 h3];rfl
   .rw[Y1 h2,Y1 h2];rfl
  .rw[Y1 h1,Y1 h1]
 rw[e];exact h
theorem xY{x y:J1}{k j:Ky}{Q:Bool->Shared->Prop}(hx:N9 s.heap x k)(hy:N9 s.heap y j)(hu:A.units < cLine)(h:Q (decide (k=j)) s):wpAny (model prog w) A (eqBool x y) Q E s:=by
 obtain⟨a,t,u,r,rfl,o,z,v,n,q⟩:=hx;obtain⟨b,i,g,l,rfl,o',f,d,p,c⟩:=hy;refine wpAny_eqBool_tuple (knd:=Jk prog w) (x:=[.inl k.1,.inr k.2.1,.inr k.2.2]) (y:=[.inl j.1,.inr j.2.1,.inr j.2.2]) hu ⟨o,_,n,z,v,q,A6 (.cons ⟨t,rfl⟩ (.cons ⟨u,rfl⟩ (.cons ⟨r,rfl⟩ .nil)))⟩ ⟨o',_,p,f,d,c,A6 (.cons ⟨i,rfl⟩ (.cons ⟨g,rfl⟩ (.cons ⟨l,rfl⟩ .nil)))⟩ ?_;have e:decide (([.inl k.1,.inr k.2.1,.inr k.2.2]:List Jv)=[.inl j.1,.inr j.2.1,.inr j.2.2])=decide (k=j):=by
  rw[YU,Yg,Yg];simp only[List.cons.injEq,Sum.inl.injEq,Sum.inr.injEq,and_true];exact⟨fun h=>UI h.1 (UI h.2.1 h.2.2),fun h=>by rw[h];exact⟨rfl,rfl,rfl⟩⟩
 rw[e];exact h
theorem Kv{R:Heap->Value->α->Prop}(hR:∀h v p,R h v p->∃a n t o its m,v= .ref a/\h.get? a=some o/\o.cls= .type "tuple"/\o.data= .seq its m/\its[0]?=some (.int n t)):∀{vs:J5} {c:List α} {h:J6},(∀ (i:Nat) v p,vs[i]?=some v->c[i]?=some p->R h v p)->vs.length=c.length->∃fs,KatTups h vs fs/\fs.length=vs.length/\∀f∈fs,∃n t,f=Value.int n t
 |[],c,h,_,e=>⟨[],trivial,rfl,fun f hf=>by simp at hf⟩
 |v::vs,[],h,_,e=>by simp at e
 |v::vs,p::c,h,hp,e=>by
  obtain⟨fs,k1,k2,k3⟩:=Kv hR (vs:=vs) (c:=c) (h:=h) (fun i v p a b=>hp (i+ 1) v p (by simpa using a) (by simpa using b)) (by simpa using e);obtain⟨a,n,t,o,its,m,rfl,d,g,hd,j⟩:=hR _ _ _ (hp 0 v p rfl rfl);refine⟨Value.int n t::fs,KatTups.cons d g hd j k1,by simp[k2],fun f hf=>?_⟩;rcases Yp.mp hf with rfl|hf
  .exact⟨_,_,rfl⟩
  .exact k3 f hf
theorem Pn{vs:J5}{c:List Ky}{h:J6}(hp:∀ (i:Nat) v p,vs[i]?=some v->c[i]?=some p->N9 h v p)(hl:vs.length=c.length):
  RB prog w h DJ (fun i=>c.getD i (0,"","")) (tuples' (Value.type "int" !=Value.type "tuple")) vs where
 kind A s Q hk h2 hQ:=by
  obtain⟨fs,k1,k2,k3⟩:=Kv (R:=N9) (fun h v p ⟨a,t,u,r,e,o,d,l,n,hd⟩=>⟨a,p.1,t,o,_,n,e,d,l,hd,rfl⟩) (fun i v p e1 e2=>(hp i v p e1 e2).keep hk) hl;refine kat_kind (T:=Value.type "int") k1 (by lia) (fun v hv=>?_) (by decide) hQ;obtain⟨n,t,rfl⟩:=k3 v hv;exact Looks.of_pure rfl
 cmp A s i j C hu hk hi hj hC:=by
  have gi:vs[i]?=some (vs.getD i Value.none):=by rw[Y5 hi];simp[hi]
  have gj:vs[j]?=some (vs.getD j Value.none):=by rw[Y5 hj];simp[hj]
  have ci:c[i]?=some (c.getD i (0,"","")):=by rw[Y5 (by lia)];simp[show i < c.length by lia]
  have cj:c[j]?=some (c.getD j (0,"","")):=by rw[Y5 (by lia)];simp[show j < c.length by lia]
  obtain⟨a,t,u,r,e,o,d,l,n,hd⟩:=(hp i _ _ gi ci).keep hk;obtain⟨a',z,q,r',e',o',f,hc',n',g⟩:=(hp j _ _ gj cj).keep hk;unfold kas_ask;rw[e,e'];have b:C (TV (c.getD i (0,"","")) (c.getD j (0,"",""))) s:=hC;generalize c.getD i (0,"","")=x at*;generalize c.getD j (0,"","")=y at*;refine kat_lt d hd f g ?_;show KatLex prog w A _ _ C [(Value.int x.1 t,Value.int y.1 z),(Value.str x.2.1 u,Value.str y.2.1 q),(Value.str x.2.2 r,Value.str y.2.2 r')] 0 s;unfold TV at b;refine VN (UE ?_)
  by_cases h1:x.1=y.1
  .rw[show(x.1==y.1)=true by simpa using h1];rw[Y3 h1]at b;refine W6 (VN (W7 ?_))
   by_cases h2:x.2.1=y.2.1
   .rw[Yk h2];rw[Y3 h2]at b;refine W6 (VN (W7 ?_))
    by_cases h3:x.2.2=y.2.2
    .rw[Yk h3];refine W6 (kat_nil ?_);rw[h3,CH]at b;exact b
    .rw[Ys h3];exact kat_no (OT b)
   .rw[Ys h2];rw[Y1 h2]at b;exact kat_no (OT b)
  .rw[show(x.1==y.1)=false by simpa using h1];rw[Y1 h1]at b;exact kat_no (L3 b)
end
def Me(k:Ky):List V:=[.int k.1,.str k.2.1,.str k.2.2]
section
variable{X:Cx}{pins:WU}{s:WW}{σ:St}{H:Hp}
theorem Ho{t:J2}{k:Ky}(I:Jb X pins σ H s)(h:JV X.K H t (Me k)):N9 s.heap (.ref t) k:=by
 obtain⟨d,r,p,_⟩:=I.tuple h;cases r with
 |cons r1 r=>
  cases r with
  |cons r2 r=>
   cases r with
   |cons r3 r=>
    cases r;obtain⟨c,rfl⟩:=(show ∃t,_=Value.int k.1 t from r1);obtain⟨b,rfl⟩:=(show ∃t,_=Value.str k.2.1 t from r2);obtain⟨a,rfl⟩:=(show ∃t,_=Value.str k.2.2 t from r3);exact⟨t,c,b,a,rfl,p⟩
end
section
variable{X:Cx}{K:J0}
theorem Ls{xs:List V}{its:J5}(rv:Jd xs its):∀r:List Nat,(∀i∈r,i < xs.length)->Jd (r.map fun i=>xs.getD i .non) (r.map fun i=>its.getD i Value.none)
 |[],_=>.nil
 |i::r,hr=>by
  refine .cons ?_ (Ls rv r fun j hj=>hr j (.tail _ hj));have hi:i < xs.length:=hr i (.head _);obtain⟨u,a,ru⟩:=rv.get (i:=i) (x:=xs[i]) (Y5 hi);have c:xs.getD i .non=xs[i]:=by simp[hi]
  have b:its.getD i Value.none=u:=by rw[Yu,a];rfl
  show Jg (xs.getD i .non) (its.getD i Value.none);rw[c,b];exact ru
theorem HA{O:KeyOrd}{c:List O.α}{d:O.α}{pa:Array Nat}{n:Nat}(a1:Js n pa)(a2:MS O (fun i=>c.getD i d) pa n):(pa.toList.map fun i=>c.getD i d).Pairwise (fun a b=>O.blt b a=false):=by
 rw[VZ,X6];intro i j hi e g;have f:pa.size=n:=a1.size;have:=a2 i j (UT g) (by simpa[f] using e);have l:pa.getD i 0=pa.toList[i]:=by simp at hi;simp[Array.getD,hi]
 have h:pa.getD j 0=pa.toList[j]:=by simp at e;simp[Array.getD,e]
 unfold SK at this;rw[l,h]at this;exact this
end
section
variable{prog:WV}{w:WZ}{A:WY}{d:J2}{o:Obj}{es:Array DictEntry}{ep:Nat}
theorem ZZ(hh:A.handled=none)(I:J2)(hne:d≠I)(hdat:o.data= .dict es ep):
  Walks prog w A I [I,d] [I] es.size (fun i v=>∃e,es[i]?=some e/\v=e.key) (fun i h=>h.IsKeyIter I d i es.size ep/\h.get? d=some o) where
 sub:=fun b a=>by simp at a;simp[a]
 frame:=fun _ _ _ st j=>⟨let ⟨oi,a1,a2⟩:=st.1;⟨oi,j I (by simp) _ a1,a2⟩,j d (by simp) _ st.2⟩
 item:=fun i s Q E hi st c=>by
  refine QB st.1 st.2 hdat hi fun h' g f=>?_
  exact c _ h' s.toks ⟨_,Yq hi,rfl⟩ ⟨g,f.extBut d o hne st.2⟩ fun b o a e=>f.extBut b o (fun h=>a (by simp[h])) e
 done:=fun s Q E st c=>SV hh st.1 st.2 hdat (Y7 _) fun h' l=>c h' s.toks fun b o a e=>l b o (fun h=>a (by simp[h])) e
 self:=fun _ _ _ _ st c=>wpAny_pyIter_keyiter st.1 c
theorem yV(lo:(d==sysModules)=false)(hc:o.ExactDict)(hdat:o.data= .dict es ep):KdlSrc prog w "dict" d d es.size (fun i v=>∃e,es[i]?=some e/\v=e.key) (fun h=>h.get? d=some o) where
 type:=fun _ a=>⟨o,a,hc.1⟩
 there:=fun _ a=>⟨Yb a,Yb a⟩
 keep:=fun _ _ a c=>c d (.inl rfl) o a
 notList:=by decide
 notTuple:=by decide
 hint:=fun _ _ _ _ a b=>kdl_hint_dict ⟨o,a,hc.1⟩ b
 iter:=fun _ _ hh a=>⟨_,_,(fun _ _ b=>SH lo a hc hdat b),ZZ hh _ (Yo (Yb a)) hdat,⟨⟨_,Yh _ rfl,rfl,rfl⟩,Y8 _ a⟩⟩
end
section
variable{X:Cx}
def Il:List V->Hp->VK->Prop:=fun as H Q=>∃ (a:J2) (kvs:List (List Jv×V)) (c:List Ky),as=[V.ref a]/\H a=some (.dT kvs)/\kvs.map (·.1)=c.map (fun k=>[Sum.inl k.1,Sum.inr k.2.1,Sum.inr k.2.2])/\c.length < 64/\
 ∀ (ks:List Ky) (ts:List Addr) l G,ks.Perm c->ks.Pairwise (fun a b=>TV b a=false)->ts.length=ks.length->(∀ (i:Nat) t k,ts[i]?=some t->ks[i]?=some k->H t=some (.tup (Me k)))->H l=none->J9 H G->G l=some (.lst (ts.map V.ref))->Q (.ref l) G
theorem Z9(hc:X.calm=true)(hu:X.A.units+ 64 < cLine):Jt X (.builtin "sorted") Il:=by
 intro pins s σ H xs us Q I r h;obtain⟨a,kvs,c,rfl,ha,hks,h64,q⟩:=h;obtain⟨u,rfl,rx⟩:=R4 r;cases rx;obtain⟨z,y,xs,r,o,es,ep,h1,h2,h3,h4,h5⟩:=(show Jy X.prog X.w H s.heap a (.dT kvs) from I.hok a _ ha);have hxl:xs.length=es.size:=by rw[<-Array.length_toList,h4,Y4]
 have hkl:=Paired.length r;have hcl:c.length=es.size:=by
  have:=Xn List.length hks;rw[Y4,Y4]at this;lia
 have hh:X.A.in1.handled=none:=I.ok.hd hc;refine UR kind_sorted plain_sorted entry_sorted (args_sorted1 _) ?_;unfold Builtin.«sorted»;refine Y0 (m:=checkCount "sorted" 1 1 _) (Y2 ?_);refine Y0 (kdu_collect (A:=X.A.in1) (yV (prog:=X.prog) (w:=X.w) y h2 h3) hh h1 (by rw[<-hxl,<-hkl];exact z) fun h' tk acc hk ac=>?_);have I2:Jb X pins σ H {s with heap:=h',toks:=tk}:=I.kept hk;obtain⟨vs,ad⟩:∃vs,vs=acc.toList:=⟨_,rfl⟩;rw[<-ad];have hvl:vs.length=es.size:=by rw[ad,Array.length_toList];exact ac.1
 have hat:∀ (i:Nat) v,vs[i]?=some v->∃t k,v=Value.ref t/\c[i]?=some k/\xs[i]?.map (·.2.1)=some t/\H t=some (.tup (Me k)):=fun i v hv=>by
  rw[ad,Array.getElem?_toList]at hv;obtain⟨e,he,rfl⟩:=ac.2 i v hv;have ab:i < es.size:=(U0.mp he).1;have hx:xs[i]?=some (xs[i]'(by lia)):=Y5 (by lia);obtain⟨v,hv,hb⟩:=KT.at' r hx;have hke:es.toList[i]?=(xs.map (entryOfKey (tupleKind (Jk X.prog X.w))))[i]?:=by rw[h4]
  rw[Yf,hx,Array.getElem?_toList,he]at hke;have hkk:(kvs.map (·.1))[i]?=some xs[i].1:=by rw[Yf,hv];rfl
  rw[hks,Yf]at hkk;obtain⟨k,hk1,hk2⟩:=YE.mp hkk;refine⟨xs[i].2.1,k,?_,hk1,by rw[hx];rfl,?_⟩
  .rw[Yr hke];rfl
  .rw[hb,<-hk2];rfl
 have hpr:∀ (i:Nat) v k,vs[i]?=some v->c[i]?=some k->N9 h' v k:=fun i v k l g=>by
  obtain⟨t,k',rfl,e3,_,ht⟩:=hat i v l;rw[g]at e3;cases e3;exact Ho I2 (JV.of ht)
 have hsl:vs.length <=sizeLine:=by rw[hvl,<-hcl,YR];lia
 refine Y0 (Vn ?_ hsl);have aa:(h'.push (seqObj "list" vs.toArray 0)).get? h'.objs.size=some (seqObj "list" vs.toArray 0):=Yh _ rfl;have keep:∀b o,h'.get? b=some o->(h'.push (seqObj "list" vs.toArray 0)).get? b=some o:=fun b o q=>Y8 _ q
 have S:RB X.prog X.w h' DJ (fun i=>c.getD i (0,"","")) (tuples' (Value.type "int" !=Value.type "tuple")) vs:=Pn hpr (by lia);refine Y0 (YJ (YX slot_list_sort ⟨_,aa,rfl⟩ entry_list_sort (ZQ (h₀:=h') aa (Y7 _) keep S (by lia) (by show X.A.units+ 1+ 1 < cLine;lia) fun p a1 a2=>⟨_,rfl,?_⟩) (args_list_sort _)));obtain⟨e,he⟩:=sortedHeap_at (n:=0) (vs:=vs) (out:=(List.map (fun i=>vs.getD i Value.none) p.toList).toArray) aa;have hf:H h'.objs.size=none:=I2.hok.fresh (Y7 _);have f:p.toList.Perm (List.range c.length):=by rw[show c.length=vs.length by lia];exact XE.mp a1
 have hb:∀i∈p.toList,i < c.length:=fun i hi=>by simpa using f.mem_iff.mp hi
 obtain⟨d,eas⟩:∃d:List Addr,d=xs.map (·.2.1):=⟨_,rfl⟩;have hal:d.length=c.length:=by rw[eas,Y4];lia
 have has:∀i,i < c.length->vs.getD i Value.none= .ref (d.getD i 0)/\H (d.getD i 0)=some (.tup (Me (c.getD i (0,"","")))):=fun i hi=>by
  have gi:vs[i]?=some (vs.getD i Value.none):=by rw[Y5 (by lia)];simp[show i < vs.length by lia]
  obtain⟨t,k,l,g,e3,e4⟩:=hat i _ gi;have et:d.getD i 0=t:=by rw[eas,Yu,Yf,e3];rfl
  have ek:c.getD i (0,"","")=k:=by rw[Yu,g];rfl
  rw[et,ek];exact⟨l,e4⟩
 have ae:Jd ((p.toList.map fun i=>d.getD i 0).map V.ref) (p.toList.map fun i=>vs.getD i Value.none):=by
  have:∀r:List Nat,(∀i∈r,i < c.length)->Jd ((r.map fun i=>d.getD i 0).map V.ref) (r.map fun i=>vs.getD i Value.none):=by
   intro r
   induction r with
   |nil=>exact fun _=>.nil
   |cons i r ih=>
    intro hr;refine .cons ?_ (ih fun j hj=>hr j (.tail _ hj));exact(has i (hr i (.head _))).1
  exact this _ hb
 have hln:(p.toList.map fun i=>d.getD i 0).length=c.length:=by rw[Y4,f.length_eq,YO]
 refine Y2 ⟨_,rfl,.ref h'.objs.size,upd H h'.objs.size (.lst ((p.toList.map fun i=>d.getD i 0).map V.ref)),I2.laid (t':=tk) (fun b o z'=>?_) (Y7 _) ?_,rfl,q (p.toList.map fun i=>c.getD i (0,"","")) _ _ _ ?_ (HA a1 a2) ?_ ?_ hf (ML hf) ND⟩
 .have ab:=Yb z';rw[sortedHeap_old (Yo ab) (by rw[Uz];exact XB ab)];exact Y8 _ z'
 .exact⟨by rw[Y4,hln,YR];lia,_,e,ae,he⟩
 .have h1:=f.map fun i=>c.getD i ((0,"",""):Ky)
  have h2:(List.range c.length).map (fun i=>c.getD i ((0,"",""):Ky))=c:=by
   apply Wb
   .simp
   .intro i hi _;have:i < c.length:=by simpa using hi
    simp[this]
  rw[h2]at h1;exact h1
 .rw[Y4,Y4]
 .intro i t k l g;rw[Yf]at l g;obtain⟨j,hj,rfl⟩:=YE.mp l;rw[hj]at g;cases g;exact(has j (hb j (YB hj))).2
end
def Pw{α β:Type}(R:α->β->Prop)(xs:List α)(ys:List β):Prop:=xs.length=ys.length/\∀ (j:Nat) x y,xs[j]?=some x->ys[j]?=some y->R x y
theorem Pw.nil{α β:Type}{R:α->β->Prop}:Pw R [] []:=⟨rfl,fun j x y h=>by simp at h⟩
theorem Pw.imp{α β:Type}{R S:α->β->Prop}{xs:List α}{ys:List β}(h:Pw R xs ys)(f:∀x y,R x y->S x y):Pw S xs ys:=⟨h.1,fun j x y a b=>f x y (h.2 j x y a b)⟩
theorem Pw.app{α β:Type}{R:α->β->Prop}{xs xs':List α}{ys ys':List β}(h:Pw R xs ys)(h':Pw R xs' ys'):Pw R (xs++xs') (ys++ys'):=by
 refine⟨by rw[List.length_append,List.length_append,h.1,h'.1],fun j x y a b=>?_⟩;rw[UJ]at a b
 by_cases hj:j < xs.length
 .rw[Y3 hj]at a;rw[Y3 (by rw[<-h.1];exact hj)]at b;exact h.2 j x y a b
 .rw[Y1 hj]at a;rw[Y1 (by rw[<-h.1];exact hj)]at b;rw[h.1]at a;exact h'.2 _ x y a b
theorem Pw.one {α β : Type} {R : α -> β -> Prop} {x : α} {y : β} (h : R x y) : Pw R [x] [y] := ⟨rfl, fun j a b c d => by
 cases j with
 |zero=>cases c;cases d;exact h
 | succ j => simp at c⟩
theorem Pw.snoc{α β:Type}{R:α->β->Prop}{xs:List α}{ys:List β}{x:α}{y:β}(h:Pw R xs ys)(hx:R x y):Pw R (xs++[x]) (ys++[y]):=h.app (.one hx)
theorem Pw.get{α β:Type}{R:α->β->Prop}{xs:List α}{ys:List β}(h:Pw R xs ys){i:Nat}{x:α}(hx:xs[i]?=some x):∃y,ys[i]?=some y/\R x y:=by
 have hi:i < xs.length:=(Y6.mp hx).1;have e:ys[i]?=some (ys[i]'(by rw[<-h.1];exact hi)):=Y5 (by rw[<-h.1];exact hi);exact⟨_,e,h.2 i x _ hx e⟩
end L2
namespace HT
open PySem PyProof.Rows
end HT
namespace L2
open PySem PySem.Spec PyProof.Rows PySem.W
end L2
namespace HT
open PySem PyProof.Rows
end HT
namespace L2
open PySem PySem.Spec PyProof.Rows PySem.W
end L2
namespace L2
open PySem PySem.Spec PyProof.Rows
theorem RC{us:J5}{n:Nat}(h:us.length=n+ 1):∃a r,us=a::r/\r.length=n:=by
 cases us with
 |nil=>cases h
 |cons a r=>exact⟨a,r,rfl,Nat.succ.inj h⟩
theorem DN{us:J5}(h:us.length=1):∃a,us=[a]:=by
 obtain⟨a,r,e,g⟩:=RC h;rw[List.eq_nil_of_length_eq_zero g]at e;exact⟨a,e⟩
theorem Dd{us:J5}(h:us.length=2):∃a a1,us=[a,a1]:=by
 obtain⟨a,r,e,g⟩:=RC h;obtain⟨a1,z⟩:=DN g;rw[z]at e;exact⟨_,_,e⟩
theorem Eb{us:J5}(h:us.length=3):∃a a1 a2,us=[a,a1,a2]:=by
 obtain⟨a,r,e,g⟩:=RC h;obtain⟨a1,a2,z⟩:=Dd g;rw[z]at e;exact⟨_,_,_,e⟩
theorem Sm{us:J5}(h:us.length=4):∃a a1 a2 a3,us=[a,a1,a2,a3]:=by
 obtain⟨a,r,e,g⟩:=RC h;obtain⟨a1,a2,a3,z⟩:=Eb g;rw[z]at e;exact⟨_,_,_,_,e⟩
theorem OE{us:J5}(h:us.length=5):∃a a1 a2 a3 a4,us=[a,a1,a2,a3,a4]:=by
 obtain⟨a,r,e,g⟩:=RC h;obtain⟨a1,a2,a3,a4,z⟩:=Sm g;rw[z]at e;exact⟨_,_,_,_,_,e⟩
theorem wQ{us:J5}(h:us.length=6):∃a a1 a2 a3 a4 a5,us=[a,a1,a2,a3,a4,a5]:=by
 obtain⟨a,r,e,g⟩:=RC h;obtain⟨a1,a2,a3,a4,a5,z⟩:=OE g;rw[z]at e;exact⟨_,_,_,_,_,_,e⟩
theorem Oc{us:J5}(h:us.length=7):∃a a1 a2 a3 a4 a5 a6,us=[a,a1,a2,a3,a4,a5,a6]:=by
 obtain⟨a,r,e,g⟩:=RC h;obtain⟨a1,a2,a3,a4,a5,a6,z⟩:=wQ g;rw[z]at e;exact⟨_,_,_,_,_,_,_,e⟩
theorem nE{us:J5}(h:us.length=8):∃a a1 a2 a3 a4 a5 a6 a7,us=[a,a1,a2,a3,a4,a5,a6,a7]:=by
 obtain⟨a,r,e,g⟩:=RC h;obtain⟨a1,a2,a3,a4,a5,a6,a7,z⟩:=Oc g;rw[z]at e;exact⟨_,_,_,_,_,_,_,_,e⟩
structure Dk(P:WV)(w:WZ)(K:J0)(mg:WQ)(base:J6):Prop where
 of:∀{n:Str} {v:J1},W.nsIn K mainGlobals n=some (some v)->mg n=some v
 no:∀{n:Str},W.nsIn K mainGlobals n=some none->mg n=none
def FF(K:J0)(n q:Str)(st:Stmt)(f:J2):Prop:=∃ (oc:J1) (od:Option Addr) (kV dc pm:J1) (an:Option Addr) (cd ct:J1) (sl:Array (Option Value)),
 K.lookup f=some ⟨oc,od,.func (W.fnOf n q (De st) (Jo st) (J8 st) .none kV dc pm an cd ct),sl⟩/\W.codeIn K cd q=true/\W.keepIn K (.ref f)=true
def GF(K:J0)(n:Str)(st:Stmt)(f:J2):Prop:=W.nsIn K mainGlobals n=some (some (.ref f))/\FF K n n st f
def MF(K:J0)(C:J2)(m q:Str)(st:Stmt)(f:J2):Prop:=W.findIn K (.ref C) m=some (some (.ref f))/\W.isFn K (.ref f)=true/\FF K m q st f
def DF(K:J0)(C:J2)(q:Str)(st:Stmt)(f T:J2):Prop:=W.findIn K (.ref C) "__init__"=some (some (.ref f))/\W.isFn K (.ref f)=true/\∃ (oc:J1) (od:Option Addr) (kV dc pm:J1) (an:Option Addr) (cd ct:J1) (sl:Array (Option Value)),
 K.lookup f=some ⟨oc,od,.func (W.fnOf "__init__" q (De st) (Jo st) (J8 st) (.ref T) kV dc pm an cd ct),sl⟩/\W.codeIn K cd q=true/\∃ (oT:Option Addr) (nT:Nat) (sT:Array (Option Value)),K.lookup T=some ⟨.type "tuple",oT,.seq #[.bool false] nT,sT⟩
def CF(K:J0)(n:Str)(C:J2):Prop:=W.nsIn K mainGlobals n=some (some (.ref C))/\MQ K C/\W.makesIn K C=true/\W.keepIn K (.ref C)=true/\RM K C
def NA(K:J0)(C:J2):List Str->Prop
 |[]=>True
 |x::r=>W.findIn K (.ref C) x=some none/\NA K C r
def NS(K:J0):List Str->Prop
 |[]=>True
 |x::r=>W.nsIn K mainGlobals x=some none/\NS K r
section
variable{P:WV}{w:WZ}{K:J0}{mg:WQ}{base:J6}{n q m:Str}{st:Stmt}{f C:J2}{k:Nat}{ps:List Str}{sp:Sp}
theorem FF.fn(h:FF K n q st f):∃fd,Nk K n q st f fd/\W.keepIn K (.ref f)=true:=by
 obtain⟨g,e,kV,i,d,o,j,ct,b,l,c,a⟩:=h;exact⟨_,Hc l c a,a⟩
theorem Dk.fb(E:Dk P w K mg base)(g:GF K n st f)(h:∀{fd},Nk K n n st f fd->Ji P w K mg base JN k f fd ps sp)
  (hb:∀ (kV doc pm:J1) (an:Option Addr) (cdv ct:J1) (us:J5),us.length=ps.length->bindArgs (W.fnOf n n (De st) (Jo st) (J8 st) .none kV doc pm an cdv ct) ⟨us,[]⟩=pure (ps.zip us)):NJ P w K mg base n k ps [] sp:=by
 obtain⟨fd,F,a⟩:=g.2.fn;exact⟨f,fd,[],h F,E.of g.1,a,F.binds hb,.nil⟩
theorem Dk.mb(E:Dk P w K mg base){cn:Str}(c:CF K cn C)(g:MF K C m q st f)(h:∀{fd},Nk K m q st f fd->Ji P w K mg base JN k f fd ps sp)
  (hb:∀ (kV doc pm:J1) (an:Option Addr) (cdv ct:J1) (us:J5),us.length=ps.length->bindArgs (W.fnOf m q (De st) (Jo st) (J8 st) .none kV doc pm an cdv ct) ⟨us,[]⟩=pure (ps.zip us)):Mi P w K mg base C m k ps [] sp:=by
 obtain⟨fd,F,a⟩:=g.2.2.fn;exact⟨f,fd,[],h F,c.2.1,⟨g.1,g.2.1,a⟩,F.binds hb,.nil⟩
theorem Dk.kb(E:Dk P w K mg base){cn:Str}(c:CF K cn C)(g:MF K C "__init__" q st f)
  (h:∀{fd},(∃ (oc:J1) (od:Option Addr) (dV kV doc pm:J1) (an:Option Addr) (cdv ct:J1) (osl:Array (Option Value)),fd=W.fnOf "__init__" q (De st) (Jo st) (J8 st) dV kV doc pm an cdv ct/\K.lookup f=some ⟨oc,od,.func fd,osl⟩/\W.codeIn K cdv q=true)->Ji P w K mg base JN k f fd ps sp)
  (hb:∀ (kV doc pm:J1) (an:Option Addr) (cdv ct:J1) (us:J5),us.length=ps.length->bindArgs (W.fnOf "__init__" q (De st) (Jo st) (J8 st) .none kV doc pm an cdv ct) ⟨us,[]⟩=pure (ps.zip us)):Rg P w K mg base cn C k ps [] sp:=by
 obtain⟨oc,od,kV,e,pm,an,i,ct,b,l,a,d⟩:=g.2.2;exact⟨f,_,[],h ⟨oc,od,.none,kV,e,pm,an,i,ct,b,rfl,l,a⟩,E.of c.1,⟨c.2.2.1,g.1,g.2.1,c.2.2.2.1⟩,(Hc l a d).binds hb,.nil⟩
end
end L2
namespace L2
open PySem PySem.Spec PyProof.Rows PySem.W
section
variable{O:KeyOrd}{key:Nat->O.α}
def Pc(O:KeyOrd)(key:Nat->O.α)(i j:Nat):Prop:=if i < j then O.blt (key j) (key i)=false else O.blt (key i) (key j)=true
theorem Pc.irr{i:Nat}(h:Pc O key i i):False:=by
 unfold Pc at h;rw[Y1 (Xx _),O.irrefl]at h;cases h
theorem Pc.le{i j:Nat}(h:Pc O key i j):O.kle (key i) (key j):=by
 unfold Pc at h;split at h
 .exact h
 .exact Ux h
theorem Pc.trans{i j k:Nat}(h1:Pc O key i j)(h2:Pc O key j k):Pc O key i k:=by
 by_cases hik:i < k
 .unfold Pc;rw[Y3 hik];exact UG h1.le h2.le
 .have h:O.blt (key i) (key j)=true\/O.blt (key j) (key k)=true:=by
   by_cases hij:i < j
   .right;unfold Pc at h2;rw[Y1 (by lia)]at h2;exact h2
   .left;unfold Pc at h1;rw[Y1 hij]at h1;exact h1
  unfold Pc;rw[Y1 hik];rcases h with h|h
  .rcases O.negTrans _ (key k) _ h with a|a
   .exact a
   .have:=h2.le;unfold KeyOrd.kle at this;rw[this]at a;cases a
  .rcases O.negTrans _ (key i) _ h with a|a
   .have:=h1.le;unfold KeyOrd.kle at this;rw[this]at a;cases a
   .exact a
theorem Pc.tot{i j:Nat}(h:i≠j)(n:¬Pc O key i j):Pc O key j i:=by
 unfold Pc at n ⊢
 by_cases hij:i < j
 .rw[Y3 hij]at n;rw[Y1 (by lia)];simpa using n
 .rw[Y1 hij]at n;rw[Y3 (by lia)];simpa using n
theorem Pc.no{i j:Nat}(h:Pc O key i j):¬Pc O key j i:=fun h'=>(h.trans h').irr
theorem Pc.ask{i j:Nat}(h:i < j):NK O key j i=true↔Pc O key j i:=by
 unfold Pc NK;rw[Y1 (by lia)]
theorem Pc.ask'{i j:Nat}(h:i < j):NK O key j i=false↔Pc O key i j:=by
 unfold Pc NK;rw[Y3 h]
end
section
variable{prog:WV}{w:WZ}{A:WY}{E:WR}{s:WW}{O:KeyOrd}{key:Nat->O.α}{κ:SortKind}{it:Nat->Keyed}{N:Nat}
def Go(prog:WV)(w:WZ)(A:WY)(s:WW)(κ:SortKind)(it:Nat->Keyed)(N:Nat)(lt:Nat->Nat->Bool):Prop:=
 ∀ (i j:Nat) (C:Bool->Shared->Prop),i < N->j < N->C (lt i j) s->wpAny (model prog w) A (keyLt' κ (it i).1 (it j).1) C (fun _ _=>False) s
structure Dc(κ:SortKind)(it:Nat->Keyed)(l:List Nat)(st:SortSt):Prop where
 kind:kindOf st=κ
 ok:failedOf st=none
 arr:arrOf st=(l.map it).toArray
variable{lt:Nat->Nat->Bool}
theorem Bm{st:SortSt}{i j:Nat}{Q:Option Bool->SortSt->Prop}(C:Go prog w A s κ it N lt)(hk:kindOf st=κ)(hi:i < N)(hj:j < N)(h:Q (some (lt i j)) st):
  wpS (model prog w) A E s (lt' (it i) (it j)) Q st:=by
 rw[lt'_eq];refine Ya (V4 ?_);rw[hk];refine Ya (VO (XN (X1 (C i j (fun b s'=>s'=s/\b=lt i j) hi hj ⟨rfl,rfl⟩) (fun b s' q=>?_) fun _ _ e=>e.elim)));obtain⟨rfl,rfl⟩:=q;exact⟨rfl,Yd h⟩
theorem M6{st:SortSt}{v:Array Keyed}{i:Nat}{x:Keyed}{Q:Keyed->SortSt->Prop}(e:v[i]?=some x)(h:Q x st):wpS (model prog w) A E s (elem' v i) Q st:=by
 rw[elem'_eq,e];exact Yd h
def KJ:Bool->Keyed->Array Keyed->Nat->Nat->Nat->StateT SortSt Sem (Option Nat):=sortPriv%PySem.Builtin.gallop
theorem nS{st:SortSt}{left:Bool}{v:Array Keyed}{i x y:Nat}{Q:Option Bool->SortSt->Prop}(C:Go prog w A s κ it N lt)(hk:kindOf st=κ)(hx:x < N)(hy:y < N)(e:v[i]?=some (it x))
  (h:Q (some (if left then lt x y else !lt y x)) st):
  wpS (model prog w) A E s (elem' v i >>=fun x=>if left=true then lt' x (it y) else lt' (it y) x >>=fun r=>pure (Option.map (fun x=> !x) r)) Q st:=by
 refine Ya (M6 e ?_);cases left with
 |true=>exact Bm C hk hx hy h
 |false=>
  refine Ya (Bm C hk hy hx ?_);exact Yd h
theorem AI{k x a b:Nat}(h:a <=k - x)(q:b < a):b <=k - (x+ 1):=by rw[Nat.sub_succ];exact Nat.le_pred_of_lt (Yx q h)
theorem Fj{l r:Nat}(q:l < r):l <=(l+ r) / 2/\(l+ r) / 2 < r:=⟨(Nat.le_div_iff_mul_le (by decide)).mpr (by lia),Nat.div_lt_of_lt_mul (by lia)⟩
theorem wM{l r:Nat}(q:l < r):(l+ r) / 2 - l < r - l:=Nat.sub_lt_sub_right (Fj q).1 (Fj q).2
theorem uH{l r:Nat}(q:l < r):r - ((l+ r) / 2+ 1) < r - l:=WJ q (Nat.lt_succ_of_le (Fj q).1)
theorem vR{l r:Nat}(q:l < r):r - (l+ (r - l) / 2+ 1) < r - l:=WJ q (Nat.lt_succ_of_le (UH ..))
theorem xO{l r:Nat}(q:l < r):l+ (r - l) / 2 - l < r - l:=by rw[Wh];exact Nat.div_lt_self (Nat.sub_pos_of_lt q) (by decide)
theorem ZF{l r:Nat}(q:l < r):l+ (r - l) / 2 <=r:=by have:=Nat.div_le_self (r - l) 2;lia
theorem Sq{t c o:Nat}(h:t+ 1 <=o\/t - o < c):t+ 1 - min o (t+ 1) <=c:=by
 by_cases q:t+ 1 <=o
 .rw[Nat.min_eq_right q,WN];exact Yv _
 .rw[Uo (by lia)];have:=h.resolve_left q
  lia
theorem ED{st:SortSt}{left:Bool}{v:Array Keyed}{b n t y c:Nat}{Q:Option Nat->SortSt->Prop}(C:Go prog w A s κ it N lt)(hk:kindOf st=κ)(hy:y < N)(ht:t < n)(hc:c <=n)
  (hb:∀i,i < n->∃x,x < N/\v[b+ i]?=some (it x)/\(if left then lt x y else !lt y x)=decide (i < c)) (h:Q (some c) st):
  wpS (model prog w) A E s (KJ left (it y) v b n t) Q st:=by
 have ask:∀ (i:Nat) (R:Option Bool->SortSt->Prop),i < n->R (some (decide (i < c))) st->wpS (model prog w) A E s (elem' v (b+ i) >>=fun x=>if left=true then lt' x (it y) else lt' (it y) x >>=fun r=>pure (Option.map (fun x=> !x) r)) R st:=fun i R hi hR=>by
  obtain⟨x,z,e,eb⟩:=hb i hi;refine nS C hk z hy e ?_;rw[eb];exact hR
 have aa:∀ (f:Nat->Option (Option Nat)×Nat×Nat->StateT SortSt Sem (ForInStep (Option (Option Nat)×Nat×Nat))) (lo hi:Nat),
   (∀x lo hi (R:ForInStep (Option (Option Nat)×Nat×Nat)->SortSt->Prop),hi <=n->(hi <=lo->R (.done (none,lo,hi)) st)->(lo < hi->lo+ (hi - lo) / 2 < c->R (.yield (none,lo+ (hi - lo) / 2+ 1,hi)) st)->(lo < hi->c <=lo+ (hi - lo) / 2->R (.yield (none,lo,lo+ (hi - lo) / 2)) st)->wpS (model prog w) A E s (f x (none,lo,hi)) R st)->
   lo <=c->c <=hi->hi <=n->wpS (model prog w) A E s (forIn [0:n] (none,lo,hi) f) (fun r a=>a=st/\r=(none,c,c)) st:=fun f lo hi hf h1 h2 j=>by
  refine X4 (I:=fun x r a=>a=st/\∃lo hi,r=(none,lo,hi)/\lo <=c/\c <=hi/\hi <=n/\hi - lo <=n - x) ?_ ?_ ⟨rfl,lo,hi,rfl,h1,h2,j,by lia⟩
  .rintro x r a - z ⟨rfl,lo,hi,rfl,h1,h2,j,p⟩;refine hf x lo hi _ j (fun q=>⟨rfl,?_⟩) (fun g d=>⟨rfl,_,_,rfl,d,h2,j,AI p (vR g)⟩) fun g d=>⟨rfl,_,_,rfl,h1,d,YT (ZF g) j,AI p (xO g)⟩
   obtain rfl:lo=c:=by lia
   obtain rfl:hi=lo:=by lia
   rfl
  .rintro r a ⟨rfl,lo,hi,rfl,h1,h2,j,p⟩;obtain rfl:lo=c:=by lia
   obtain rfl:hi=lo:=by lia
   exact⟨rfl,rfl⟩
 unfold KJ;refine Ya (ask t _ ht ?_)
 by_cases q:t < c
 .simp only[q,Xb,if_true];refine Ya (Xw (X4 (I:=fun x r a=>a=st/\∃l o,r=(none,l,o)/\t+ l < c/\x+ 1 <=o) (Q:=fun r a=>a=st/\∃l o,r=(none,l,o)/\t+ l < c/\(n - t <=o\/c <=t+ o)) ?_ ?_ ⟨rfl,0,1,rfl,by lia,by lia⟩) ?_)
  .rintro x r a - z ⟨rfl,l,o,rfl,h1,h2⟩;dsimp only
   by_cases g:o≥n - t
   .rw[Y3 g];exact Yd ⟨rfl,l,o,rfl,h1,.inl g⟩
   .rw[Y1 g];refine Ya (ask _ _ (by lia) ?_)
    by_cases d:t+ o < c
    .simp only[d,Xb,Bool.not_true,Bool.false_eq_true,if_false];exact Yd ⟨rfl,o,_,rfl,d,by lia⟩
    .simp only[d,X9,Bool.not_false,if_true];exact Yd ⟨rfl,l,o,rfl,h1,.inr (by lia)⟩
  .rintro r a ⟨rfl,l,o,rfl,h1,h2⟩;exact⟨rfl,l,o,rfl,h1,.inl (by lia)⟩
  .rintro r a ⟨rfl,l,o,rfl,h1,h2⟩;dsimp only;refine Ya (Xw (aa _ _ _ ?_ (by lia) (by lia) (by lia)) ?_)
   .intro x lo hi R h1 h2 j p;dsimp only
    by_cases q:lo≥hi
    .rw[Y3 q];exact Yd (h2 q)
    .rw[Y1 q];refine Ya (ask _ _ (by lia) ?_)
     by_cases d:lo+ (hi - lo) / 2 < c
     .simp only[d,Xb,if_true];exact Yd (j (by lia) d)
     .simp only[d,X9,Bool.false_eq_true,if_false];exact Yd (p (by lia) (by lia))
   rintro r ab ⟨rfl,rfl⟩;exact Yd h
 .simp only[q,X9,Bool.false_eq_true,if_false];refine Ya (Xw (X4 (I:=fun x r a=>a=st/\∃l o,r=(none,l,o)/\l <=t/\c <=t - l/\x+ 1 <=o) (Q:=fun r a=>a=st/\∃l o,r=(none,l,o)/\l <=t/\c <=t - l/\(t+ 1 <=o\/t - o < c)) ?_ ?_ ⟨rfl,0,1,rfl,by lia,by lia,by lia⟩) ?_)
  .rintro x r a - z ⟨rfl,l,o,rfl,u,h1,h2⟩;dsimp only
   by_cases g:o≥t+ 1
   .rw[Y3 g];exact Yd ⟨rfl,l,o,rfl,u,h1,.inl g⟩
   .rw[Y1 g];refine Ya (ask _ _ (by lia) ?_)
    by_cases d:t - o < c
    .simp only[d,Xb,if_true];exact Yd ⟨rfl,l,o,rfl,u,h1,.inr d⟩
    .simp only[d,X9,Bool.false_eq_true,if_false];exact Yd ⟨rfl,o,_,rfl,by lia,by lia,by lia⟩
  .rintro r a ⟨rfl,l,o,rfl,u,h1,h2⟩;exact⟨rfl,l,o,rfl,u,h1,.inl (by lia)⟩
  .rintro r a ⟨rfl,l,o,rfl,u,h1,h2⟩;dsimp only;refine Ya (Xw (aa _ _ _ ?_ (Sq h2) (by lia) (by lia)) ?_)
   .intro x lo hi R h1 h2 j p;dsimp only
    by_cases q:lo≥hi
    .rw[Y3 q];exact Yd (h2 q)
    .rw[Y1 q];refine Ya (ask _ _ (by lia) ?_)
     by_cases d:lo+ (hi - lo) / 2 < c
     .simp only[d,Xb,if_true];exact Yd (j (by lia) d)
     .simp only[d,X9,Bool.false_eq_true,if_false];exact Yd (p (by lia) (by lia))
   rintro r ab ⟨rfl,rfl⟩;exact Yd h
end
section
variable{P:Nat->Nat->Prop}{l zs rx ry:List Nat}
structure Mg(P:Nat->Nat->Prop)(l zs rx ry:List Nat):Prop where
 sx:(zs++rx).Pairwise P
 sy:(zs++ry).Pairwise P
 pm:(zs++(rx++ry)).Perm l
theorem Mg.x{cx:List Nat}(M:Mg P l zs (cx++rx) ry)(h:∀x∈cx,∀y∈ry,P x y):Mg P l (zs++cx) rx ry:=by
 refine⟨by simpa[List.append_assoc] using M.sx,?_,by simpa[List.append_assoc] using M.pm⟩;have a:=M.sx;have b:=M.sy;rw[Yl]at a b;rw[List.append_assoc,Yl,Yl];refine⟨a.1,⟨(Yl.mp a.2.1).1,b.2.1,h⟩,fun u c v d=>?_⟩;rcases Ye.mp d with q|q
 .exact a.2.2 u c v (X5 _ q)
 .exact b.2.2 u c v q
theorem Mg.swap(M:Mg P l zs rx ry):Mg P l zs ry rx:=⟨M.sy,M.sx,(XZ _ UD).trans M.pm⟩
theorem Mg.y{cy:List Nat}(M:Mg P l zs rx (cy++ry))(h:∀x∈cy,∀y∈rx,P x y):Mg P l (zs++cy) rx ry:=(M.swap.x h).swap
theorem Ao(T:∀{i j k},P i j->P j k->P i k)(y:Nat):∀{l:List Nat},l.Pairwise P->∃c,c <=l.length/\∀i x,l[i]?=some x->(P x y↔i < c)
 |[],_=>⟨0,Y7 _,fun i x h=>by simp at h⟩
 |a::l,h=>by
  rw[Xm]at h
  by_cases q:P a y
  .obtain⟨c,h1,h2⟩:=Ao T y h.2;refine⟨c+ 1,by simpa using h1,fun i x e=>?_⟩;cases i with
   |zero=>simp at e;subst e;exact⟨fun _=>by lia,fun _=>q⟩
   |succ i=>simp at e;rw[h2 i x e];lia
  .refine⟨0,by lia,fun i x e=>⟨fun p=>?_,fun p=>by lia⟩⟩;cases i with
   |zero=>simp at e;subst e;exact absurd p q
   |succ i=>simp at e;exact absurd (T (h.1 x (YB e)) p) q
end
section
variable{P:Nat->Nat->Prop}{it:Nat->Keyed}{xs ys:List Nat}{out:Array Keyed}{ia ib k:Nat}
def DH(P:Nat->Nat->Prop)(it:Nat->Keyed)(l:List Nat)(r:Array Keyed):Prop:=∃zs:List Nat,r=(zs.map it).toArray/\zs.Perm l/\zs.Pairwise P
def Mn(P:Nat->Nat->Prop)(it:Nat->Keyed)(xs ys:List Nat)(out:Array Keyed)(ia ib k:Nat):Prop:=
 ∃zs:List Nat,out=(zs.map it).toArray/\Mg P (xs++ys) zs (xs.drop ia) (ys.drop ib)/\k <=zs.length/\ia <=xs.length/\ib <=ys.length
theorem D8(l:List Nat)(i j:Nat):((l.map it).toArray).extract i j=(((l.drop i).take (j - i)).map it).toArray:=by
 simp[List.extract_toArray,List.map_take,VS]
theorem Mn.len(h:Mn P it xs ys out ia ib k):k+ (xs.length - ia)+ (ys.length - ib) <=xs.length+ ys.length:=by
 obtain⟨zs,_,M,a,_,_⟩:=h;have:=M.pm.length_eq;simp at this;lia
theorem Mn.done(h:Mn P it xs ys out ia ib k)(e:ia=xs.length\/ib=ys.length):DH P it (xs++ys) (out++((xs.map it).toArray).extract ia ((xs.map it).toArray).size++((ys.map it).toArray).extract ib ((ys.map it).toArray).size):=by
 obtain⟨zs,rfl,M,_,_,_⟩:=h;refine⟨zs++(xs.drop ia++ys.drop ib),?_,M.pm,?_⟩
 .rw[D8,D8];simp[YS]
 .rcases e with rfl|rfl
  .simpa using M.sy
  .simpa using M.sx
theorem Mn.last(h:Mn P it xs ys out ia ib k)(e:ia+ 1=xs.length)(hl:∀x∈xs.drop ia,∀y∈ys,P y x):DH P it (xs++ys) (out++((ys.map it).toArray).extract ib ((ys.map it).toArray).size++((xs.map it).toArray).extract ia ((xs.map it).toArray).size):=by
 obtain⟨zs,rfl,M,_,_,_⟩:=h;refine⟨zs++(ys.drop ib++xs.drop ia),?_,M.swap.pm,?_⟩
 .rw[D8,D8];simp[YS]
 .have a:=M.sx;have b:=M.sy;rw[Yl]at a b ⊢;refine⟨a.1,Yl.mpr ⟨b.2.1,a.2.1,fun u c v d=>hl v d u (Xo c)⟩,fun u c v d=>?_⟩;rcases Ye.mp d with q|q
  .exact b.2.2 u c v q
  .exact a.2.2 u c v q
theorem Mn.fromY(h:Mn P it xs ys out ia ib k){c:Nat}(hc:ib+ c <=ys.length)(hp:∀i x,i < c->ys[ib+ i]?=some x->∀u∈xs.drop ia,P x u):Mn P it xs ys (out++((ys.map it).toArray).extract ib (ib+ c)) ia (ib+ c) (k+ c):=by
 obtain⟨zs,rfl,M,h1,h2,d⟩:=h;have e:ys.drop ib=(ys.drop ib).take c++ys.drop (ib+ c):=by rw[<-List.drop_drop,YG]
 refine⟨zs++(ys.drop ib).take c,?_,?_,?_,h2,hc⟩
 .rw[D8];simp
 .rw[e]at M;refine M.y fun x a u b=>?_
  obtain⟨i,hi⟩:=Yy.mp a;rw[YI]at hi
  split at hi
  .rename_i hic
   rw[X0]at hi;exact hp i x hic hi u b
  .cases hi
 .simp;lia
theorem Mn.fromX(h:Mn P it xs ys out ia ib k){c:Nat}(hc:ia+ c <=xs.length)(hp:∀i x,i < c->xs[ia+ i]?=some x->∀u∈ys.drop ib,P x u):Mn P it xs ys (out++((xs.map it).toArray).extract ia (ia+ c)) (ia+ c) ib (k+ c):=by
 obtain⟨zs,rfl,M,h1,h2,d⟩:=h;have e:xs.drop ia=(xs.drop ia).take c++xs.drop (ia+ c):=by rw[<-List.drop_drop,YG]
 refine⟨zs++(xs.drop ia).take c,?_,?_,?_,hc,d⟩
 .rw[D8];simp
 .rw[e]at M;refine M.x fun x a u b=>?_
  obtain⟨i,hi⟩:=Yy.mp a;rw[YI]at hi
  split at hi
  .rename_i hic
   rw[X0]at hi;exact hp i x hic hi u b
  .cases hi
 .simp;lia
theorem Ez{l:List Nat}{i x:Nat}(e:l[i]?=some x):out.push (it x)=out++((l.map it).toArray).extract i (i+ 1):=by
 rw[D8];obtain⟨h,rfl⟩:=Y6.mp e;have:(l.drop i).take (i+ 1 - i)=[l[i]]:=by
  rw[show i+ 1 - i=1 by lia,Yz h];rfl
 rw[this];simp
theorem TZ{l:List Nat}{i x:Nat}(e:l[i]?=some x):((l.map it).toArray)[i]?=some (it x):=by simp[e]
end
section
variable{prog:WV}{w:WZ}{A:WY}{E:WR}{s:WW}{O:KeyOrd}{key:Nat->O.α}{κ:SortKind}{it:Nat->Keyed}{N:Nat}
structure Mj(st st':SortSt):Prop where
 kind:kindOf st'=kindOf st
 arr:arrOf st'=arrOf st
 pend:pendingOf st'=pendingOf st
 fail:failedOf st'=failedOf st
structure D4(O:KeyOrd)(key:Nat->O.α)(N:Nat)(xs ys:List Nat):Prop where
 sx:xs.Pairwise (Pc O key)
 sy:ys.Pairwise (Pc O key)
 lo:∀x∈xs,∀y∈ys,x < y
 bx:∀x∈xs,x < N
 by':∀y∈ys,y < N
structure GL(O:KeyOrd)(key:Nat->O.α)(N:Nat)(xs ys:List Nat):Prop extends D4 O key N xs ys where
 first:∀x y,xs[0]?=some x->ys[0]?=some y->Pc O key y x
 last:∀x y,xs[xs.length - 1]?=some x->ys[ys.length - 1]?=some y->Pc O key y x
 nx:0 < xs.length
 ny:0 < ys.length
section
variable{xs ys:List Nat}{out:Array Keyed}{ia ib k:Nat}
theorem Rf{l:List Nat}{i x y:Nat}(S:l.Pairwise (Pc O key))(e:l[i]?=some x)(p:Pc O key y x):∀u∈l.drop i,Pc O key y u:=fun u b=>by
 obtain⟨h,rfl⟩:=Y6.mp e;have a:=S.sublist (U4 i l);rw[Yz h]at b a;rw[Xm]at a;rcases Yp.mp b with rfl|q
 .exact p
 .exact p.trans (a.1 u q)
theorem Au{l:List Nat}{x y:Nat}(S:l.Pairwise (Pc O key))(e:l[l.length - 1]?=some x)(p:Pc O key x y):∀u∈l,Pc O key u y:=fun u a=>by
 obtain⟨i,hi⟩:=Yy.mp a;obtain⟨h,rfl⟩:=Y6.mp hi;obtain⟨h',rfl⟩:=Y6.mp e
 by_cases q:i=l.length - 1
 .subst q;exact p
 .exact(X6.mp S i _ h h' (by lia)).trans p
theorem GL.lastY(T:GL O key N xs ys)(e:ia+ 1=xs.length):∀x∈xs.drop ia,∀y∈ys,Pc O key y x:=fun x a=>by
 have b:xs.drop ia=[xs[ia]'(by lia)]:=by rw[Yz (by lia),XT (by lia)]
 rw[b]at a;obtain rfl:=Y9.mp a;exact Au T.sy (Y5 (by have:=T.ny;lia)) (T.last _ _ (by rw[Y6];exact⟨by lia,by congr 1;lia⟩) (Y5 (by have:=T.ny;lia)))
theorem D4.ne(T:D4 O key N xs ys){x y:Nat}(hx:x∈xs)(hy:y∈ys):x≠y:=Yo (T.lo x hx y hy)
theorem NF{l:List Nat}{i x:Nat}(e:l[i]?=some x):x∈l:=YB e
theorem Ts{l:List Nat}{i:Nat}(h:i < l.length):∃x,l[i]?=some x:=⟨_,Y5 h⟩
theorem GL.start(T:GL O key N xs ys){y:Nat}(e:ys[0]?=some y):Mn (Pc O key) it xs ys #[it y] 0 1 1:=by
 have a:Mn (Pc O key) it xs ys #[] 0 0 0:=⟨[],rfl,⟨by simpa using T.sx,by simpa using T.sy,by simp⟩,Yv _,Yv _,Yv _⟩;obtain⟨x,d⟩:=Ts T.nx;have b:=a.fromY (c:=1) (by have:=T.ny;lia) fun i z hi f=>by
  obtain rfl:i=0:=by lia
  rw[Xk,e]at f;cases f;exact Rf T.sx d (T.first _ _ d e)
 rw[<-Ez e]at b;simpa using b
theorem D4.galR(T:D4 O key N xs ys){y:Nat}(hy:y∈ys)(ia n:Nat)(hn:ia+ n <=xs.length):∃c,c <=n/\(∀i,i < n->∃x,x < N/\((xs.map it).toArray)[ia+ i]?=some (it x)/\(if false=true then NK O key x y else !NK O key y x)=decide (i < c))/\∀i x,i < n->xs[ia+ i]?=some x->(i < c->Pc O key x y)/\(c <=i->Pc O key y x):=by
 obtain⟨c,h1,h2⟩:=Ao (P:=Pc O key) (fun a b=>a.trans b) y (T.sx.sublist ((Uw n (xs.drop ia)).trans (U4 ia xs)));have d:c <=n:=by simp at h1;lia
 have at':∀i x,i < n->xs[ia+ i]?=some x->(Pc O key x y↔i < c):=fun i x hi e=>h2 i x (by rw[YI,Y3 hi,X0];exact e)
 refine⟨c,d,fun i hi=>?_,fun i x hi e=>⟨(at' i x hi e).mpr,fun q=>Pc.tot (T.ne (NF e) hy) fun p=>by have:=(at' i x hi e).mp p;lia⟩⟩;obtain⟨x,e⟩:=Ts (l:=xs) (i:=ia+ i) (by lia);refine⟨x,T.bx x (NF e),TZ e,?_⟩;rw[Y1 (by decide)]
 by_cases q:i < c
 .rw[(Pc.ask' (T.lo x (NF e) y hy)).mpr ((at' i x hi e).mpr q)];simp[q]
 .rw[(Pc.ask (T.lo x (NF e) y hy)).mpr (Pc.tot (T.ne (NF e) hy) fun p=>q ((at' i x hi e).mp p))];simp[q]
theorem D4.galL(T:D4 O key N xs ys){x:Nat}(hx:x∈xs)(ib n:Nat)(hn:ib+ n <=ys.length):∃c,c <=n/\(∀i,i < n->∃y,y < N/\((ys.map it).toArray)[ib+ i]?=some (it y)/\(if true=true then NK O key y x else !NK O key x y)=decide (i < c))/\∀i y,i < n->ys[ib+ i]?=some y->(i < c->Pc O key y x)/\(c <=i->Pc O key x y):=by
 obtain⟨c,h1,h2⟩:=Ao (P:=Pc O key) (fun a b=>a.trans b) x (T.sy.sublist ((Uw n (ys.drop ib)).trans (U4 ib ys)));have d:c <=n:=by simp at h1;lia
 have at':∀i y,i < n->ys[ib+ i]?=some y->(Pc O key y x↔i < c):=fun i y hi e=>h2 i y (by rw[YI,Y3 hi,X0];exact e)
 refine⟨c,d,fun i hi=>?_,fun i y hi e=>⟨(at' i y hi e).mpr,fun q=>Pc.tot (T.ne hx (NF e)).symm fun p=>by have:=(at' i y hi e).mp p;lia⟩⟩;obtain⟨y,e⟩:=Ts (l:=ys) (i:=ib+ i) (by lia);refine⟨y,T.by' y (NF e),TZ e,?_⟩;rw[Y3 rfl]
 by_cases q:i < c
 .rw[(Pc.ask (T.lo x hx y (NF e))).mpr ((at' i y hi e).mpr q)];simp[q]
 .rw[(Pc.ask' (T.lo x hx y (NF e))).mpr (Pc.tot (T.ne hx (NF e)).symm fun p=>q ((at' i y hi e).mp p))];simp[q]
end
theorem Mj.rfl'(st:SortSt):Mj st st:=⟨rfl,rfl,rfl,rfl⟩
theorem Mj.trans{a b c:SortSt}(h1:Mj a b)(h2:Mj b c):Mj a c:=⟨h2.1.trans h1.1,h2.2.trans h1.2,h2.3.trans h1.3,h2.4.trans h1.4⟩
theorem Mv{τ β:Type}{M:Model}{a b:StateT τ Sem β}{Q:β->τ->Prop}{st:τ}{c:Prop}{dc:Decidable c}(h:c)(H:wpS M A E s a Q st):wpS M A E s (if c then a else b) Q st:=by rw[Y3 h];exact H
theorem Mx{τ β:Type}{M:Model}{a b:StateT τ Sem β}{Q:β->τ->Prop}{st:τ}{c:Prop}{dc:Decidable c}(h:¬c)(H:wpS M A E s b Q st):wpS M A E s (if c then a else b) Q st:=by rw[Y1 h];exact H
theorem Lv{τ α β:Type}{M:Model}{X:α->StateT τ Sem β}{Q:β->τ->Prop}{st:τ}{c:Prop}{dc:Decidable c}{a b:α}(h:∀g,wpS M A E s (X g) Q st):wpS M A E s (if c then X a else X b) Q st:=by
 split
 .exact h _
 .exact h _
theorem CV{τ α γ β:Type}{M:Model}{X:α->γ->StateT τ Sem β}{B:StateT τ Sem β}{Q:β->τ->Prop}{st:τ}{c:Prop}{dc:Decidable c}{o:α}{i:γ}(P:α->γ->Prop)(hX:∀a b,P a b->wpS M A E s (X a b) Q st)
  (h1:c->(∀a b,P a b->wpS M A E s (X a b) Q st)->wpS M A E s B Q st) (h0:¬c->P o i):wpS M A E s (if c then B else X o i) Q st:=by
 split
 .exact h1 ‹_› hX
 .exact hX _ _ (h0 ‹_›)
def L7:Nat->StateT SortSt Sem Unit:=sortPriv%PySem.Builtin.setMinGallop
theorem AR{st:SortSt}{g:Nat}{Q:Unit->SortSt->Prop}(h:∀st',Mj st st'->Q () st'):wpS (model prog w) A E s (L7 g) Q st:=by
 unfold L7;refine UK (h _ ⟨rfl,rfl,rfl,rfl⟩)
def LY:Array Keyed->Array Keyed->StateT SortSt Sem (Array Keyed):=sortPriv%PySem.Builtin.mergeLo
theorem Qu{st:SortSt}{xs ys:List Nat}{Q:Array Keyed->SortSt->Prop}(C:Go prog w A s κ it N (NK O key))(hk:kindOf st=κ)(T:GL O key N xs ys)
  (h:∀r st',Mj st st'->DH (Pc O key) it (xs++ys) r->Q r st'):wpS (model prog w) A E s (LY (xs.map it).toArray (ys.map it).toArray) Q st:=by
 unfold LY;refine Ya (VO (XF ⟨rfl,?_⟩));obtain⟨y0,hy0⟩:=Ts T.ny;have hst:=T.start (it:=it) hy0;refine Ya (M6 (TZ hy0) ?_);have zx:(xs.map it).toArray.size=xs.length:=by simp
 have zy:(ys.map it).toArray.size=ys.length:=by simp
 have nx:=T.nx;have ny:=T.ny;dsimp only
 by_cases q1:1=ys.length
 .refine Mv (by rw[zy];simp[q1]) ?_;exact Yd (h _ _ (.rfl' _) (hst.done (.inr q1)))
 refine Mx (by rw[zy];simpa using q1) ?_
 by_cases q2:0+ 1=xs.length
 .refine Mv (by rw[zx];simpa using q2) ?_;exact Yd (h _ _ (.rfl' _) (hst.last q2 (T.lastY q2)))
 refine Mx (by rw [zx]; simpa using q2) ?_;refine Ya (V4 ?_);refine Ya (Xw (X4
  (I:=fun x r st'=>Mj st st'/\∃out ia ib g k,r=(none,out,ia,ib,g)/\Mn (Pc O key) it xs ys out ia ib k/\x <=k/\ia+ 1 < xs.length/\ib < ys.length)
  (Q := fun r st' => Mj st st' /\ ∃ z u, r = (some z, u) /\ DH (Pc O key) it (xs ++ ys) z) ?_ ?_ ⟨.rfl' _, _, _, _, _, _, rfl, hst, by lia, by lia, by lia⟩) ?_)
 case _=>
  rintro x r st' - hx ⟨K, out, ia, ib, g, k, rfl, M, hk', h1, h2⟩;dsimp -zeta only;refine Ya (Xw (X4
   (I:=fun x r st'=>Mj st st'/\∃out ia ib v n j,r=(none,out,ia,ib,v,n)/\Mn (Pc O key) it xs ys out ia ib j/\k+ x <=j/\ia+ 1 < xs.length/\ib < ys.length)
   (Q := fun r st' => Mj st st' /\ ((∃ z u, r = (some z, u) /\ DH (Pc O key) it (xs ++ ys) z) \/ ∃ out ia ib v n j, r = (none, out, ia, ib, v, n) /\ Mn (Pc O key) it xs ys out ia ib j /\ k + 1 <= j /\ ia + 1 < xs.length /\ ib < ys.length)) ?_ ?_ ⟨K, _, _, _, _, _, _, rfl, M, by lia, h1, h2⟩) ?_)
  case _=>
   clear K M h1 h2 hk' hst;rintro x r st' - hx ⟨K,out,ia,ib,v,n,j,rfl,M,hj,h1,h2⟩;dsimp only;obtain⟨x,ex⟩:=Ts (l:=xs) (i:=ia) (by lia);obtain⟨y,e⟩:=Ts (l:=ys) (i:=ib) (by lia);have lxy:=T.lo _ (NF ex) _ (NF e);refine Ya (M6 (TZ e) ?_);refine Ya (M6 (TZ ex) ?_);refine Ya (Bm C (K.kind.trans hk) (T.by' _ (NF e)) (T.bx _ (NF ex)) ?_);cases q:NK O key y x with
   |true=>
    have p:=(Pc.ask lxy).mp q;have M':=M.fromY (c:=1) (by lia) fun i z hi f=>by
     obtain rfl:i=0:=by lia
     rw[Ub,e]at f;cases f;exact Rf T.sx ex p
    rw[<-Ez e]at M';refine Mv rfl ?_;refine Ya (M6 (TZ e) ?_);rw[zy]
    by_cases q3:ib+ 1=ys.length
    .refine Mv (by simpa using q3) ?_;exact Yd ⟨K,.inl ⟨_,_,rfl,by rw[<-zy];exact M'.done (.inr q3)⟩⟩
    .refine Mx (by simpa using q3) ?_
     split
     .exact Yd ⟨K,.inr ⟨_,_,_,_,_,_,rfl,M',by lia,h1,by lia⟩⟩
     .exact Yd ⟨K,_,_,_,_,_,_,rfl,M',by lia,h1,by lia⟩
   |false=>
    have p:=(Pc.ask' lxy).mp q;have M':=M.fromX (c:=1) (by lia) fun i z hi f=>by
     obtain rfl:i=0:=by lia
     rw[Ub,ex]at f;cases f;exact Rf T.sy e p
    rw[<-Ez ex]at M';refine Mx Yi ?_;refine Ya (M6 (TZ ex) ?_);rw[zx]
    by_cases q3:ia+ 1+ 1=xs.length
    .refine Mv (by simpa using q3) ?_;exact Yd ⟨K,.inl ⟨_,_,rfl,by rw[<-zx];exact M'.last q3 (T.lastY q3)⟩⟩
    .refine Mx (by simpa using q3) ?_
     split
     .exact Yd ⟨K,.inr ⟨_,_,_,_,_,_,rfl,M',by lia,by lia,h2⟩⟩
     .exact Yd ⟨K,_,_,_,_,_,_,rfl,M',by lia,by lia,h2⟩
  case _=>
   rintro r st' ⟨K,out,ia,ib,v,n,j,rfl,M,hj,h1,h2⟩;exact⟨K,.inr ⟨_,_,_,_,_,_,rfl,M,by rw[zx,zy]at hj;lia,h1,h2⟩⟩
  case _=>
   clear K M h1 h2 hst;rintro r st' ⟨K,⟨z,u,rfl,F⟩|⟨out,ia,ib,v,n,j,rfl,M,hj,h1,h2⟩⟩
   .exact Yd ⟨K,_,_,rfl,F⟩
   dsimp -zeta only;refine Ya (VO (XF ⟨rfl, ?_⟩));refine Ya (Xw (X4
    (I:=fun x r st'=>Mj st st'/\∃out ia ib g v n j,r=(none,out,ia,ib,g,v,n)/\Mn (Pc O key) it xs ys out ia ib j/\k+ 1 <=j/\ia+ 1 < xs.length/\ib < ys.length)
    (Q := fun r st' => Mj st st' /\ ((∃ z u, r = (some z, u) /\ DH (Pc O key) it (xs ++ ys) z) \/ ∃ out ia ib g v n j, r = (none, out, ia, ib, g, v, n) /\ Mn (Pc O key) it xs ys out ia ib j /\ k + 1 <= j /\ ia + 1 < xs.length /\ ib < ys.length)) ?_ ?_ ⟨K, _, _, _, _, _, _, _, rfl, M, by lia, h1, h2⟩) ?_)
   case _=>
    clear K M h1 h2 hj;rintro x r st' - hx ⟨K,out,ia,ib,g,v,n,j,rfl,M,hj,h1,h2⟩;dsimp only;obtain⟨y,e⟩:=Ts (l:=ys) (i:=ib) (by lia);generalize g - 1=g1;apply Lv (a:=g1) (b:=g);intro g';refine Ya (AR fun st1 K1=>?_);have K2:=K.trans K1;refine Ya (M6 (TZ e) ?_);obtain⟨c,hc,hb,hx'⟩:=T.galR (it:=it) (NF e) ia (xs.length - ia) (by lia);rw[zx,zy];refine Ya (ED C (K2.kind.trans hk) (T.by' _ (NF e)) (by lia) hc hb ?_);dsimp only;have y1:∀x,xs[ia+ c]?=some x->Pc O key y x:=fun x ex=>(hx' c x (by have:=(Y6.mp ex).1;lia) ex).2 (Y7 _)
    apply CV (o:=out) (i:=ia) (fun o1 i1=>∃j1,Mn (Pc O key) it xs ys o1 i1 ib j1/\(∀x,xs[i1]?=some x->Pc O key y x)/\i1+ 1 < xs.length/\k+ 1 <=j1)
    rotate_left
    .intro q0 J;have M1:=M.fromX (c:=c) (by lia) (fun i z hi f=>Rf T.sy e ((hx' i z (by lia) f).1 hi))
     by_cases q3:ia+ c+ 1=xs.length
     .refine Mv (by simpa using q3) ?_;exact Yd ⟨K2,.inl ⟨_,_,rfl,by rw[<-zx,<-zy];exact M1.last q3 (T.lastY q3)⟩⟩
     refine Mx (by simpa using q3) ?_
     by_cases q4:ia+ c=xs.length
     .refine Mv (by simpa using q4) ?_;exact Yd ⟨K2,.inl ⟨_,_,rfl,by have:=M1.done (.inl q4);simpa only[zx,zy] using this⟩⟩
     refine Mx (by simpa using q4) ?_;exact J _ _ ⟨_,M1,y1,by lia,by lia⟩
    .intro q0;obtain rfl:c=0:=by lia
     exact⟨_,M,y1,h1,hj⟩
    clear hb hx' y1 hc M h1 hj;rintro o1 i1 ⟨j1,M1,y1,l1,l2⟩;refine Ya (M6 (TZ e) ?_);obtain⟨x1,ex⟩:=Ts (l:=xs) (i:=i1) (by lia);have M2:=M1.fromY (c:=1) (by lia) fun i z hi f=>by
     obtain rfl:i=0:=by lia
     rw[Ub,e]at f;cases f;exact Rf T.sx ex (y1 _ ex)
    rw[<-Ez e]at M2
    by_cases q5:ib+ 1=ys.length
    .refine Mv (by simpa using q5) ?_;exact Yd ⟨K2,.inl ⟨_,_,rfl,by have:=M2.done (.inr q5);simpa only[zx,zy] using this⟩⟩
    refine Mx (by simpa using q5) ?_;refine Ya (M6 (TZ ex) ?_);obtain⟨d,hd,hb2,hy2⟩:=T.galL (it:=it) (NF ex) (ib+ 1) (ys.length - (ib+ 1)) (by lia);refine Ya (ED C (K2.kind.trans hk) (T.bx _ (NF ex)) (by lia) hd hb2 ?_);dsimp only;have x2:∀y,ys[ib+ 1+ d]?=some y->Pc O key x1 y:=fun y e=>(hy2 d y (by have:=(Y6.mp e).1;lia) e).2 (Y7 _)
    obtain⟨o2,eo2⟩:∃o2,o2=o1.push (it y):=⟨_,rfl⟩;obtain⟨i2,ei2⟩:∃i2,i2=ib+ 1:=⟨_,rfl⟩;rw[<-eo2,<-ei2]at M2;rw[<-ei2]at hy2 x2 hd q5;rw[<-eo2,<-ei2];apply CV (o:=o2) (i:=i2) (fun o2 i2=>∃j2,Mn (Pc O key) it xs ys o2 i1 i2 j2/\(∀y,ys[i2]?=some y->Pc O key x1 y)/\i2 < ys.length/\k+ 1 <=j2)
    rotate_left
    .intro q6 J;have M3:=M2.fromY (c:=d) (by lia) (fun i z hi f=>Rf T.sx ex ((hy2 i z (by lia) f).1 hi))
     by_cases q7:i2+ d=ys.length
     .refine Mv (by simpa using q7) ?_;exact Yd ⟨K2,.inl ⟨_,_,rfl,by have:=M3.done (.inr q7);simpa only[zx,zy] using this⟩⟩
     refine Mx (by simpa using q7) ?_;exact J _ _ ⟨_,M3,x2,by lia,by lia⟩
    .intro q6;obtain rfl:d=0:=by lia
     exact⟨_,M2,x2,by lia,by lia⟩
    clear hb2 hy2 x2 hd M2 M1 q5 y1 l2 ei2 eo2 i2 o2;rintro o2 i2 ⟨j2,M3,x2,l3,l4⟩;refine Ya (M6 (TZ ex) ?_);obtain⟨y2,ey2⟩:=Ts (l:=ys) (i:=i2) l3;have M4:=M3.fromX (c:=1) (by lia) fun i z hi f=>by
     obtain rfl:i=0:=by lia
     rw[Ub,ex]at f;cases f;exact Rf T.sy ey2 (x2 _ ey2)
    rw[<-Ez ex]at M4
    by_cases q8:i1+ 1+ 1=xs.length
    .refine Mv (by simpa using q8) ?_;exact Yd ⟨K2,.inl ⟨_,_,rfl,by have:=M4.last q8 (T.lastY q8);simpa only[zx,zy] using this⟩⟩
    refine Mx (by simpa using q8) ?_
    split
    .exact Yd ⟨K2,.inr ⟨_,_,_,_,_,_,_,rfl,M4,by lia,by lia,l3⟩⟩
    .exact Yd ⟨K2,_,_,_,_,_,_,_,rfl,M4,by lia,by lia,l3⟩
   case _=>
    rintro r st' ⟨K,out,ia,ib,g,v,n,j,rfl,M,hj,h1,h2⟩;exact⟨K,.inr ⟨_,_,_,_,_,_,_,rfl,M,hj,h1,h2⟩⟩
   case _=>
    rintro r st' ⟨K,⟨z,u,rfl,F⟩|⟨out,ia,ib,g,v,n,j,rfl,M,hj,h1,h2⟩⟩
    .exact Yd ⟨K,_,_,rfl,F⟩
    dsimp -zeta only;refine Ya (AR fun st'' K'=>?_);exact Yd ⟨K.trans K',_,_,_,_,_,rfl,M,by lia,h1,h2⟩
 case _=>
  rintro r st' ⟨K,out,ia,ib,g,k,rfl,M,hk',h1,h2⟩;have:=M.len;rw[zx,zy]at hk'
  lia
 case _=>
  rintro r st' ⟨K,z,u,rfl,F⟩;exact Yd (h _ _ K F)
end
section
variable{P:Nat->Nat->Prop}{it:Nat->Keyed}{xs ys:List Nat}{out:Array Keyed}{na nb k:Nat}
def TW(P:Nat->Nat->Prop)(it:Nat->Keyed)(xs ys:List Nat)(out:Array Keyed)(na nb k:Nat):Prop:=
 ∃zs:List Nat,out=(zs.map it).toArray/\Mg (fun a b=>P b a) (xs++ys) zs (xs.take na).reverse (ys.take nb).reverse/\k <=zs.length/\na <=xs.length/\nb <=ys.length
theorem TW.len(h:TW P it xs ys out na nb k):k+ na+ nb <=xs.length+ ys.length:=by
 obtain⟨zs,_,M,a,_,_⟩:=h;have:=M.pm.length_eq;simp at this;lia
theorem TW.res{zs:List Nat}(M:Mg (fun a b=>P b a) (xs++ys) zs (xs.take na).reverse (ys.take nb).reverse):(xs.take na++zs.reverse).Pairwise P/\(ys.take nb++zs.reverse).Pairwise P/\(xs.take na++(ys.take nb++zs.reverse)).Perm (xs++ys):=by
 refine⟨?_,?_,?_⟩
 .have:=XH.mpr M.sx;simpa using this
 .have:=XH.mpr M.sy;simpa using this
 .refine List.Perm.trans ?_ M.pm;rw[<-List.append_assoc];refine UD.trans ?_;exact(Xr _).append ((Xr _).symm.append (Xr _).symm)
theorem TW.done(h:TW P it xs ys out na nb k)(e:na=0\/nb=0):DH P it (xs++ys) (((xs.map it).toArray).extract 0 na++((ys.map it).toArray).extract 0 nb++out.reverse):=by
 obtain⟨zs,rfl,M,_,_,_⟩:=h;obtain⟨c,b,a⟩:=TW.res M;refine⟨xs.take na++(ys.take nb++zs.reverse),?_,a,?_⟩
 .rw[D8,D8];simp
 .rcases e with rfl|rfl
  .simpa using b
  .simpa using c
theorem TW.first(h:TW P it xs ys out na nb k)(hl:∀y∈ys.take nb,∀x∈xs,P y x):DH P it (xs++ys) (((ys.map it).toArray).extract 0 nb++((xs.map it).toArray).extract 0 na++out.reverse):=by
 obtain⟨zs,rfl,M,_,_,_⟩:=h;obtain⟨b,a,d⟩:=TW.res M;refine⟨ys.take nb++(xs.take na++zs.reverse),?_,List.Perm.trans ?_ d,?_⟩
 .rw[D8,D8];simp
 .rw[<-List.append_assoc,<-List.append_assoc];exact UD.append_right _
 .rw[Yl]at b a;refine Yl.mpr ⟨a.1,Yl.mpr b,fun u c v e=>?_⟩;rcases Ye.mp e with q|q
  .exact hl u c v (Xd q)
  .exact a.2.2 u c v q
theorem OJ{l:List Nat}{n c:Nat}(hc:c <=n):(l.take n).reverse=((l.drop (n - c)).take (n - (n - c))).reverse++(l.take (n - c)).reverse:=by
 rw[<-List.reverse_append]
 congr 1
 rw[<-List.take_add];congr 1;lia
theorem TW.fromX(h:TW P it xs ys out na nb k){c:Nat}(hc:c <=na)(hp:∀i x,na - c <=i->i < na->xs[i]?=some x->∀u∈ys.take nb,P u x):TW P it xs ys (out++(((xs.map it).toArray).extract (na - c) na).reverse) (na - c) nb (k+ c):=by
 obtain⟨zs,rfl,M,h1,h2,d⟩:=h;refine⟨zs++((xs.drop (na - c)).take (na - (na - c))).reverse,?_,?_,?_,by lia,d⟩
 .rw[D8];simp
 .rw[OJ hc]at M;refine M.x fun x a u b=>?_
  rw[Wc]at a b;obtain⟨i,hi⟩:=Yy.mp a;rw[YI]at hi
  split at hi
  .rename_i hic
   rw[X0]at hi;exact hp _ x (by lia) (by lia) hi u b
  .cases hi
 .simp;lia
theorem TW.fromY(h:TW P it xs ys out na nb k){c:Nat}(hc:c <=nb)(hp:∀i x,nb - c <=i->i < nb->ys[i]?=some x->∀u∈xs.take na,P u x):TW P it xs ys (out++(((ys.map it).toArray).extract (nb - c) nb).reverse) na (nb - c) (k+ c):=by
 obtain⟨zs,rfl,M,h1,h2,d⟩:=h;refine⟨zs++((ys.drop (nb - c)).take (nb - (nb - c))).reverse,?_,?_,?_,h2,by lia⟩
 .rw[D8];simp
 .rw[OJ (l:=ys) hc]at M;refine M.y fun x a u b=>?_
  rw[Wc]at a b;obtain⟨i,hi⟩:=Yy.mp a;rw[YI]at hi
  split at hi
  .rename_i hic
   rw[X0]at hi;exact hp _ x (by lia) (by lia) hi u b
  .cases hi
 .simp;lia
theorem BS{l:List Nat}{n x:Nat}(hn:1 <=n)(e:l[n - 1]?=some x):out.push (it x)=out++(((l.map it).toArray).extract (n - 1) n).reverse:=by
 have:=Ez (it:=it) (out:=out) e;rw[this,show n - 1+ 1=n by lia,D8];obtain⟨h,rfl⟩:=Y6.mp e;have a:(l.drop (n - 1)).take (n - (n - 1))=[l[n - 1]]:=by
  rw[show n - (n - 1)=1 by lia,Yz h];rfl
 rw[a];simp
end
section
variable{prog:WV}{w:WZ}{A:WY}{E:WR}{s:WW}{O:KeyOrd}{key:Nat->O.α}{κ:SortKind}{it:Nat->Keyed}{N:Nat}{xs ys:List Nat}
theorem Ep{l:List Nat}{n x y:Nat}(S:l.Pairwise (Pc O key))(e:l[n - 1]?=some x)(p:Pc O key x y):∀u∈l.take n,Pc O key u y:=fun u a=>by
 obtain⟨i,hi⟩:=Yy.mp a;rw[YI]at hi
 split at hi
 .rename_i hin
  obtain⟨h,rfl⟩:=Y6.mp hi;obtain⟨h',rfl⟩:=Y6.mp e
  by_cases q:i=n - 1
  .subst q;exact p
  .exact(X6.mp S i _ h h' (by lia)).trans p
 .cases hi
theorem GL.firstX(T:GL O key N xs ys){nb:Nat}(e:nb=1):∀y∈ys.take nb,∀x∈xs,Pc O key y x:=fun y b x f=>by
 subst e;obtain⟨d,c⟩:=Ts T.ny;obtain⟨g,h1⟩:=Ts T.nx;have:ys.take 1=[d]:=by
  obtain⟨h,rfl⟩:=Y6.mp c;cases ys with
  |nil=>cases h
  |cons a l=>rfl
 rw[this]at b;obtain rfl:=Y9.mp b;exact Rf T.sx h1 (T.first _ _ h1 c) x (by simpa using f)
theorem GL.startR(T:GL O key N xs ys){x:Nat}(e:xs[xs.length - 1]?=some x):TW (Pc O key) it xs ys #[it x] (xs.length - 1) ys.length 1:=by
 have a:TW (Pc O key) it xs ys #[] xs.length ys.length 0:=⟨[],rfl,⟨?_,?_,?_⟩,Yv _,Y7 _,Y7 _⟩
 .have b:=a.fromX (c:=1) (by have:=T.nx;lia) fun i z h1 h2 d=>by
   obtain rfl:i=xs.length - 1:=by lia
   rw[e]at d;cases d;rw[Xp];exact fun u f=>T.lastY (ia:=xs.length - 1) (by lia) x (Yy.mpr ⟨0,by simpa using e⟩) u f
  rw[<-BS (by have:=T.nx;lia) e]at b;simpa using b
 .simpa[XH] using T.sx
 .simpa[XH] using T.sy
 .simp only[Xp,List.nil_append];exact(Xr _).append (Xr _)
def Lb:Array Keyed->Array Keyed->StateT SortSt Sem (Array Keyed):=sortPriv%PySem.Builtin.mergeHi
theorem ZL{st:SortSt}{Q:Array Keyed->SortSt->Prop}(C:Go prog w A s κ it N (NK O key))(hk:kindOf st=κ)(T:GL O key N xs ys)
  (h:∀r st',Mj st st'->DH (Pc O key) it (xs++ys) r->Q r st'):wpS (model prog w) A E s (Lb (xs.map it).toArray (ys.map it).toArray) Q st:=by
 unfold Lb;refine Ya (VO (XF ⟨rfl,?_⟩));have zx:(xs.map it).toArray.size=xs.length:=by simp
 have zy:(ys.map it).toArray.size=ys.length:=by simp
 have nx:=T.nx;have ny:=T.ny;obtain⟨x0,hx0⟩:=Ts (l:=xs) (i:=xs.length - 1) (by lia);have hst:=T.startR (it:=it) hx0;refine Ya (M6 (TZ (by rw[zx];exact hx0)) ?_);dsimp only;rw[zx,zy]
 by_cases q1:xs.length - 1=0
 .refine Mv (by simpa using q1) ?_;exact Yd (h _ _ (.rfl' _) (hst.done (.inl q1)))
 refine Mx (by simpa using q1) ?_
 by_cases q2:ys.length=1
 .refine Mv (by simpa using q2) ?_;exact Yd (h _ _ (.rfl' _) (hst.first (T.firstX q2)))
 refine Mx (by simpa using q2) ?_;refine Ya (V4 ?_);refine Ya (Xw (X4
  (I:=fun x r st'=>Mj st st'/\∃na nb out g k,r=(none,na,nb,out,g)/\TW (Pc O key) it xs ys out na nb k/\x <=k/\1 <=na/\2 <=nb)
  (Q := fun r st' => Mj st st' /\ ∃ z u, r = (some z, u) /\ DH (Pc O key) it (xs ++ ys) z) ?_ ?_ ⟨.rfl' _, _, _, _, _, _, rfl, hst, by lia, by lia, by lia⟩) ?_)
 case _=>
  rintro x r st' - hx ⟨K, na, nb, out, g, k, rfl, M, hk', h1, h2⟩;dsimp -zeta only;refine Ya (Xw (X4
   (I:=fun x r st'=>Mj st st'/\∃na nb out ac bc j,r=(none,na,nb,out,ac,bc)/\TW (Pc O key) it xs ys out na nb j/\k+ x <=j/\1 <=na/\2 <=nb)
   (Q := fun r st' => Mj st st' /\ ((∃ z u, r = (some z, u) /\ DH (Pc O key) it (xs ++ ys) z) \/ ∃ na nb out ac bc j, r = (none, na, nb, out, ac, bc) /\ TW (Pc O key) it xs ys out na nb j /\ k + 1 <= j /\ 1 <= na /\ 2 <= nb)) ?_ ?_ ⟨K, _, _, _, _, _, _, rfl, M, by lia, h1, h2⟩) ?_)
  case _=>
   clear K M h1 h2 hk' hst;rintro x r st' - hx ⟨K,na,nb,out,ac,bc,j,rfl,M,hj,h1,h2⟩;dsimp only;have len:=M;obtain⟨-,-,-,-,DN,Dd⟩:=len;obtain⟨x,ex⟩:=Ts (l:=xs) (i:=na - 1) (by lia);obtain⟨y,f⟩:=Ts (l:=ys) (i:=nb - 1) (by lia);have lxy:=T.lo _ (NF ex) _ (NF f);refine Ya (M6 (TZ f) ?_);refine Ya (M6 (TZ ex) ?_);refine Ya (Bm C (K.kind.trans hk) (T.by' _ (NF f)) (T.bx _ (NF ex)) ?_);cases q:NK O key y x with
   |true=>
    have p:=(Pc.ask lxy).mp q;have M':=M.fromX (c:=1) (by lia) fun i z hi hi2 v=>by
     obtain rfl:i=na - 1:=by lia
     rw[ex]at v;cases v;exact Ep T.sy f p
    rw[<-BS h1 ex]at M';refine Mv rfl ?_;refine Ya (M6 (TZ ex) ?_)
    by_cases q3:na - 1=0
    .refine Mv (by simpa using q3) ?_;exact Yd ⟨K,.inl ⟨_,_,rfl,M'.done (.inl q3)⟩⟩
    .refine Mx (by simpa using q3) ?_
     split
     .exact Yd ⟨K,.inr ⟨_,_,_,_,_,_,rfl,M',by lia,by lia,h2⟩⟩
     .exact Yd ⟨K,_,_,_,_,_,_,rfl,M',by lia,by lia,h2⟩
   |false=>
    have p:=(Pc.ask' lxy).mp q;have M':=M.fromY (c:=1) (by lia) fun i z hi hi2 v=>by
     obtain rfl:i=nb - 1:=by lia
     rw[f]at v;cases v;exact Ep T.sx ex p
    rw[<-BS (by lia) f]at M';refine Mx Yi ?_;refine Ya (M6 (TZ f) ?_)
    by_cases q3:nb - 1=1
    .refine Mv (by simpa using q3) ?_;exact Yd ⟨K,.inl ⟨_,_,rfl,M'.first (T.firstX q3)⟩⟩
    .refine Mx (by simpa using q3) ?_
     split
     .exact Yd ⟨K,.inr ⟨_,_,_,_,_,_,rfl,M',by lia,h1,by lia⟩⟩
     .exact Yd ⟨K,_,_,_,_,_,_,rfl,M',by lia,h1,by lia⟩
  case _=>
   rintro r st' ⟨K,na,nb,out,ac,bc,j,rfl,M,hj,h1,h2⟩;exact⟨K,.inr ⟨_,_,_,_,_,_,rfl,M,by lia,h1,h2⟩⟩
  case _=>
   clear K M h1 h2 hst;rintro r st' ⟨K,⟨z,u,rfl,F⟩|⟨na,nb,out,ac,bc,j,rfl,M,hj,h1,h2⟩⟩
   .exact Yd ⟨K,_,_,rfl,F⟩
   dsimp -zeta only;refine Ya (VO (XF ⟨rfl, ?_⟩));refine Ya (Xw (X4
    (I:=fun x r st'=>Mj st st'/\∃na nb out g ac bc j,r=(none,na,nb,out,g,ac,bc)/\TW (Pc O key) it xs ys out na nb j/\k+ 1 <=j/\1 <=na/\2 <=nb)
    (Q := fun r st' => Mj st st' /\ ((∃ z u, r = (some z, u) /\ DH (Pc O key) it (xs ++ ys) z) \/ ∃ na nb out g ac bc j, r = (none, na, nb, out, g, ac, bc) /\ TW (Pc O key) it xs ys out na nb j /\ k + 1 <= j /\ 1 <= na /\ 2 <= nb)) ?_ ?_ ⟨K, _, _, _, _, _, _, _, rfl, M, by lia, h1, h2⟩) ?_)
   case _=>
    clear K M h1 h2 hj;rintro x r st' - hx ⟨K,na,nb,out,g,ac,bc,j,rfl,M,hj,h1,h2⟩;dsimp only;have len:=M;obtain⟨-,-,-,-,DN,Dd⟩:=len;obtain⟨y,f⟩:=Ts (l:=ys) (i:=nb - 1) (by lia);generalize g - 1=g1;apply Lv (a:=g1) (b:=g);intro g';refine Ya (AR fun st1 K1=>?_);have K2:=K.trans K1;refine Ya (M6 (TZ f) ?_);obtain⟨c,hc,hb,hx'⟩:=T.galR (it:=it) (NF f) 0 na (by lia);refine Ya (ED C (K2.kind.trans hk) (T.by' _ (NF f)) (by lia) hc hb ?_);dsimp only;have hx2:∀i x,i < na->xs[i]?=some x->(i < c->Pc O key x y)/\(c <=i->Pc O key y x):=fun i x hi e=>hx' i x hi (by rw[Xk];exact e)
    have y1:∀x,1 <=c->xs[c - 1]?=some x->Pc O key x y:=fun x h1 ex=>(hx2 (c - 1) x (by lia) ex).1 (by lia)
    clear hx' hb;obtain⟨d1,ed1⟩:∃d1,d1=na - c:=⟨_,rfl⟩;rw[<-ed1];apply CV (o:=out) (i:=na) (fun o1 n1=>∃j1,TW (Pc O key) it xs ys o1 n1 nb j1/\(∀x,xs[n1 - 1]?=some x->Pc O key x y)/\1 <=n1/\k+ 1 <=j1)
    rotate_left
    .intro q0 J;have M1:=M.fromX (c:=na - c) (by lia) (fun i z hi hi2 v=>Ep T.sy f ((hx2 i z hi2 v).2 (by lia)));rw[show na - (na - c)=c by lia]at M1
     by_cases q3:c=0
     .refine Mv (by simpa using q3) ?_;exact Yd ⟨K2,.inl ⟨_,_,rfl,M1.done (.inl q3)⟩⟩
     refine Mx (by simpa using q3) ?_;exact J _ _ ⟨_,M1,fun x ex=>y1 x (by lia) ex,by lia,by lia⟩
    .intro q0;obtain rfl:c=na:=by lia
     exact⟨_,M,fun x ex=>y1 x h1 ex,h1,hj⟩
    clear hx2 y1 hc M h1 hj ed1 DN Dd;rintro o1 n1 ⟨j1,M1,y1,l1,l2⟩;have len:=M1;obtain⟨-,-,-,-,DN,Dd⟩:=len;refine Ya (M6 (TZ f) ?_);obtain⟨x1,ex⟩:=Ts (l:=xs) (i:=n1 - 1) (by lia);have M2:=M1.fromY (c:=1) (by lia) fun i z hi hi2 v=>by
     obtain rfl:i=nb - 1:=by lia
     rw[f]at v;cases v;exact Ep T.sx ex (y1 _ ex)
    rw[<-BS (by lia) f]at M2
    by_cases q5:nb - 1=1
    .refine Mv (by simpa using q5) ?_;exact Yd ⟨K2,.inl ⟨_,_,rfl,M2.first (T.firstX q5)⟩⟩
    refine Mx (by simpa using q5) ?_;refine Ya (M6 (TZ ex) ?_);obtain⟨o2,eo2⟩:∃o2,o2=o1.push (it y):=⟨_,rfl⟩;obtain⟨n,en2⟩:∃n,n=nb - 1:=⟨_,rfl⟩;have l3:2 <=n:=by lia
    rw[<-eo2,<-en2]at M2;rw[<-en2];obtain⟨d,hd,hb2,hy2⟩:=T.galL (it:=it) (NF ex) 0 n (by lia);refine Ya (ED C (K2.kind.trans hk) (T.bx _ (NF ex)) (by lia) hd hb2 ?_);dsimp only;have hy3:∀i y,i < n->ys[i]?=some y->(i < d->Pc O key y x1)/\(d <=i->Pc O key x1 y):=fun i y hi e=>hy2 i y hi (by rw[Xk];exact e)
    have x2:∀y,1 <=d->ys[d - 1]?=some y->Pc O key y x1:=fun y h1 f=>(hy3 (d - 1) y (by lia) f).1 (by lia)
    clear hy2 hb2;obtain⟨d2,ed2⟩:∃d2,d2=n - d:=⟨_,rfl⟩;rw[<-ed2,<-eo2];apply CV (o:=o2) (i:=n) (fun o2 n=>∃j2,TW (Pc O key) it xs ys o2 n1 n j2/\(∀y,ys[n - 1]?=some y->Pc O key y x1)/\2 <=n/\k+ 1 <=j2)
    rotate_left
    .intro q6 J;have M3:=M2.fromY (c:=n - d) (by lia) (fun i z hi hi2 v=>Ep T.sx ex ((hy3 i z hi2 v).2 (by lia)));rw[show n - (n - d)=d by lia]at M3
     by_cases q7:d=1
     .refine Mv (by simpa using q7) ?_;exact Yd ⟨K2,.inl ⟨_,_,rfl,M3.first (T.firstX q7)⟩⟩
     refine Mx (by simpa using q7) ?_
     by_cases q8:d=0
     .refine Mv (by simpa using q8) ?_;exact Yd ⟨K2,.inl ⟨_,_,rfl,M3.done (.inr q8)⟩⟩
     refine Mx (by simpa using q8) ?_;exact J _ _ ⟨_,M3,fun y f=>x2 y (by lia) f,by lia,by lia⟩
    .intro q6;obtain rfl:d=n:=by lia
     exact⟨_,M2,fun y f=>x2 y (by lia) f,l3,by lia⟩
    clear hy3 x2 hd M2 M1 ed2 q5 y1 l2 l3 Dd en2 eo2 o2 n;rintro o2 n ⟨j2,M3,x2,l3,l4⟩;refine Ya (M6 (TZ ex) ?_);obtain⟨y2,ey2⟩:=Ts (l:=ys) (i:=n - 1) (by obtain⟨-,-,-,-,-,Eb⟩:=M3;lia);have M4:=M3.fromX (c:=1) (by lia) fun i z hi hi2 v=>by
     obtain rfl:i=n1 - 1:=by lia
     rw[ex]at v;cases v;exact Ep T.sy ey2 (x2 _ ey2)
    rw[<-BS l1 ex]at M4
    by_cases q9:n1 - 1=0
    .refine Mv (by simpa using q9) ?_;exact Yd ⟨K2,.inl ⟨_,_,rfl,M4.done (.inl q9)⟩⟩
    refine Mx (by simpa using q9) ?_
    split
    .exact Yd ⟨K2,.inr ⟨_,_,_,_,_,_,_,rfl,M4,by lia,by lia,l3⟩⟩
    .exact Yd ⟨K2,_,_,_,_,_,_,_,rfl,M4,by lia,by lia,l3⟩
   case _=>
    rintro r st' ⟨K,na,nb,out,g,ac,bc,j,rfl,M,hj,h1,h2⟩;exact⟨K,.inr ⟨_,_,_,_,_,_,_,rfl,M,hj,h1,h2⟩⟩
   case _=>
    rintro r st' ⟨K,⟨z,u,rfl,F⟩|⟨na,nb,out,g,ac,bc,j,rfl,M,hj,h1,h2⟩⟩
    .exact Yd ⟨K,_,_,rfl,F⟩
    dsimp -zeta only;refine Ya (AR fun st'' K'=>?_);exact Yd ⟨K.trans K',_,_,_,_,_,rfl,M,by lia,h1,h2⟩
 case _=>
  rintro r st' ⟨K,na,nb,out,g,k,rfl,M,hk',h1,h2⟩;have:=M.len
  lia
 case _=>
  rintro r st' ⟨K,z,u,rfl,F⟩;exact Yd (h _ _ K F)
end
theorem Py{α:Type}(b:Nat):∀ (ms:List α) (n:Nat) (v:Array α),b+ n+ ms.length <=v.size->
  (ms.zipIdx n).foldl (fun a x=>a.setIfInBounds (b+ x.2) x.1) v=(v.toList.take (b+ n)++ms++v.toList.drop (b+ n+ ms.length)).toArray
 |[],n,v,h=>by simp
 |m::ms,n,v,h=>by
  rw[List.zipIdx_cons,Um];have hz:b+ (n+ 1)+ ms.length <=(v.setIfInBounds (b+ n) m).size:=by simp at h ⊢;lia
  refine(Py b ms (n+ 1) _ hz).trans ?_
  congr 1
  have c:b+ n < v.toList.length:=by simp at h ⊢;lia
  rw[VU];have f:(v.toList.set (b+ n) m).take (b+ (n+ 1))=v.toList.take (b+ n)++[m]:=by
   rw[show b+ (n+ 1)=b+ n+ 1 by lia,List.take_set,Uc c,Wx _ _ (by simp;lia)];have d:b+ n - min (b+ n) v.size=0:=by simp at c;lia
   simp[d]
  have e:(v.toList.set (b+ n) m).drop (b+ (n+ 1)+ ms.length)=v.toList.drop (b+ n+ (m::ms).length):=by
   rw[List.drop_set_of_lt (by lia)];congr 1;simp;lia
  rw[f,e];simp
section
variable{prog:WV}{w:WZ}{A:WY}{E:WR}{s:WW}{O:KeyOrd}{key:Nat->O.α}{κ:SortKind}{it:Nat->Keyed}{N:Nat}
theorem Pj{p X q:List Nat}{i:Nat}(h:i < X.length):(((p++X++q).map it).toArray)[p.length+ i]?=((X.map it).toArray)[i]?:=by
 simp[UJ,h]
theorem x6{st:SortSt}{p X Y q:List Nat}{i pw pw':Nat}{Q:Bool->SortSt->Prop}(C:Go prog w A s κ it N (NK O key))(S:Dc κ it (p++X++Y++q) st)(T:D4 O key N X Y)
  (nx:0 < X.length) (ny:0 < Y.length) (e1:(pendingOf st)[i]?=some (p.length,X.length,pw)) (e2:(pendingOf st)[i+ 1]?=some (p.length+ X.length,Y.length,pw'))
  (h:∀Z st',Z.Perm (X++Y)->Z.Pairwise (Pc O key)->Dc κ it (p++Z++q) st'->pendingOf st'=((pendingOf st).setIfInBounds i (p.length,X.length+ Y.length,pw)).eraseIdxIfInBounds (i+ 1)->Q true st'):
  wpS (model prog w) A E s (mergeAt' i) Q st:=by
 unfold mergeAt';refine Ya (V4 ?_);have ar:(sortPriv%PySem.Builtin.SortState.a) st=((p++X++Y++q).map it).toArray:=S.arr;rw[e1,e2,ar];dsimp only;obtain⟨y0,g⟩:=Ts ny;obtain⟨xl,n⟩:=Ts (l:=X) (i:=X.length - 1) (by lia);refine Ya (UK (f:=fun _=>_) ?_);have atX:∀i,i < X.length->(((p++X++Y++q).map it).toArray)[p.length+ i]?=((X.map it).toArray)[i]?:=fun i hi=>by rw[List.append_assoc];exact Pj hi
 have atY:∀i,i < Y.length->(((p++X++Y++q).map it).toArray)[p.length+ X.length+ i]?=((Y.map it).toArray)[i]?:=fun i hi=>by
  have:=Pj (it:=it) (p:=p++X) (X:=Y) (q:=q) hi;rwa [List.length_append]at this
 refine Ya (M6 (x:=it y0) (by have:=atY 0 ny;rw[Ub]at this;rw[this];exact TZ g) ?_);obtain⟨c,hc,hb,hx'⟩:=T.galR (it:=it) (NF g) 0 X.length (by lia);have hx:∀i x,X[i]?=some x->(i < c->Pc O key x y0)/\(c <=i->Pc O key y0 x):=fun i x e=>hx' i x (Y6.mp e).1 (by rw[Xk];exact e)
 refine Ya (ED C S.kind (T.by' _ (NF g)) nx hc (fun i hi => by
  obtain ⟨x, h1, h2, v⟩ := hb i hi;exact ⟨x, h1, by rw [atX i hi]; rwa [Xk] at h2, v⟩) ?_)
 dsimp only
 by_cases q1:X.length - c=0
 .rw[Y3 (by simpa using q1)];obtain rfl:c=X.length:=by lia
  refine Yd (h (X++Y) _ (.refl _) (Yl.mpr ⟨T.sx,T.sy,fun x h1 y h2=>?_⟩) ⟨S.kind,S.ok,by rw[<-List.append_assoc p X Y]⟩ rfl);obtain⟨i,e⟩:=Yy.mp h1;exact Rf T.sy g ((hx i x e).1 (Y6.mp e).1) y h2
 rw[Y1 (by simpa using q1)];refine Ya (M6 (x:=it xl) (by rw[show p.length+ c+ (X.length - c) - 1=p.length+ (X.length - 1) by lia,atX _ (by lia)];exact TZ n) ?_);obtain⟨d,hd,hb2,u⟩:=T.galL (it:=it) (NF n) 0 Y.length (by lia);have hy:∀i y,Y[i]?=some y->(i < d->Pc O key y xl)/\(d <=i->Pc O key xl y):=fun i y e=>u i y (Y6.mp e).1 (by rw[Xk];exact e)
 refine Ya (ED C S.kind (T.bx _ (NF n)) (by lia) hd (fun i hi => by
  obtain ⟨x, h1, h2, v⟩ := hb2 i hi;exact ⟨x, h1, by rw [atY i hi]; rwa [Xk] at h2, v⟩) ?_)
 dsimp only
 by_cases q2:d=0
 .exfalso
  subst q2;exact((hy 0 y0 g).2 (Y7 _)).no ((hx _ _ n).2 (by lia))
 rw[Y1 (by simpa using q2)];have ex:(((p++X++Y++q).map it).toArray).extract (p.length+ c) (p.length+ X.length)=((X.drop c).map it).toArray:=by
  rw[D8]
  congr 2
  rw[List.append_assoc,List.append_assoc,<-List.drop_drop,List.drop_left,VI hc,Uv (by rw[X2];lia),YS (by rw[X2];lia)]
 have ey:(((p++X++Y++q).map it).toArray).extract (p.length+ X.length) (p.length+ X.length+ d)=((Y.take d).map it).toArray:=by
  rw[D8]
  congr 2
  rw[List.append_assoc (p++X),<-List.length_append,List.drop_left,Uv (by lia),Wh]
 rw[ex,ey];have T':GL O key N (X.drop c) (Y.take d):=
  ⟨⟨T.sx.sublist (U4 _ _), T.sy.sublist (Uw _ _), fun x h1 y h2 => T.lo x (Xo h1) y (Xd h2), fun x h1 => T.bx x (Xo h1), fun y h2 => T.by' y (Xd h2)⟩,
   (fun x y a1 o => by
    rw [X0] at a1;rw [YI, Y3 (by lia), g] at o;cases o;exact (hx _ x a1).2 (by lia)),
   (fun x y a1 o => by
    rw[X2,X0,show c+ (X.length - c - 1)=X.length - 1 by lia,n]at a1;cases a1;rw[YI]at o
    split at o
    .rename_i hlt
     exact(hy _ y o).1 hlt
    .cases o),
   by rw [X2]; lia, by rw [Ym]; lia⟩
 have fin:∀ (r:Array Keyed) (b:SortSt),DH (Pc O key) it (X.drop c++Y.take d) r->kindOf b=κ->failedOf b=none->arrOf b=((p++X++Y++q).map it).toArray->
   ∃Z,Z.Perm (X++Y)/\Z.Pairwise (Pc O key)/\r.toList.zipIdx.foldl (fun a x=>match x with|(p',j)=>a.setIfInBounds (p.length+ c+ j) p') (arrOf b)=((p++Z++q).map it).toArray:=fun r b F h1 h2 v=>by
  obtain⟨zs,rfl,pm,srt⟩:=F;refine⟨X.take c++zs++Y.drop d,?_,?_,?_⟩
  .have e:X++Y=X.take c++(X.drop c++Y.take d)++Y.drop d:=by rw[<-List.append_assoc (X.take c),YG,List.append_assoc,YG]
   rw[e];exact(pm.append_left _).append_right _
  .have mz:∀z∈zs,z∈X.drop c\/z∈Y.take d:=fun z hz=>Ye.mp (pm.mem_iff.mp hz)
   have sX:=Yl.mp (by rw[YG];exact T.sx:(X.take c++X.drop c).Pairwise (Pc O key));have sY:=Yl.mp (by rw[YG];exact T.sy:(Y.take d++Y.drop d).Pairwise (Pc O key));have xy:∀x∈X.take c,∀y∈Y,Pc O key x y:=fun x h1 y h2=>by
    obtain⟨i,e⟩:=Yy.mp h1;rw[YI]at e
    split at e
    .rename_i hic
     exact Rf T.sy g ((hx i x e).1 hic) y h2
    .cases e
   have yx:∀y∈Y.drop d,∀x∈X,Pc O key x y:=fun y h1=>by
    obtain⟨i,e⟩:=Yy.mp h1;rw[X0]at e;exact Au T.sx n ((hy _ y e).2 (by lia))
   rw[List.append_assoc,Yl,Yl];refine⟨sX.1,⟨srt,sY.2.1,fun z hz y u=>?_⟩,fun x h1 z hz=>?_⟩
   .rcases mz z hz with q|q
    .exact yx y u z (Xo q)
    .exact sY.2.2 z q y u
   .rcases Ye.mp hz with q|q
    .rcases mz z q with q|q
     .exact sX.2.2 x h1 z q
     .exact xy x h1 z (Xd q)
    .exact xy x h1 z (Xo q)
  .have hl:=pm.length_eq;rw[List.length_append,X2,Ym,Uo hd]at hl;have:=Py (p.length+ c) (zs.map it) 0 (arrOf b) (by rw[v];simp;lia);refine Eq.trans this ?_;rw[v]
   congr 1
   rw[Uf,<-List.map_take,<-VS,<-Yw,<-Yw,Y4]
   congr 1
   rw[Ub,hl,show p.length+ c+ (X.length - c+ d)=p.length+ (X.length+ d) by lia,List.append_assoc p X,List.append_assoc p (X++Y),List.append_assoc X,List.take_length_add_append,VQ,VQ,Uv hc,VI hd];simp[List.append_assoc]
 by_cases q3:X.length - c <=d
 case' pos=>
  rw[Y3 q3];refine Ya (Qu C S.kind T' fun r b K F=>?_)
 case' neg=>
  rw[Y1 q3];refine Ya (ZL C S.kind T' fun r b K F=>?_)
 all_goals
  obtain⟨Z,z1,z2,z3⟩:=fin r b F (K.kind.trans S.kind) (K.fail.trans S.ok) K.arr;refine Ya (UK ?_);refine Ya (V4 ?_);have ok:((sortPriv%PySem.Builtin.SortState.failed) b)=none:=K.fail.trans S.ok;refine Yd ?_;dsimp only;rw[ok];exact h Z _ z1 z2 ⟨K.kind.trans S.kind,rfl,z3⟩ K.pend
end
section
variable{it:Nat->Keyed}
theorem DM{α:Type}{a M c:List α}{k:Nat}:(a++M++c)[k]?=if k < a.length then a[k]? else if k < a.length+ M.length then M[k - a.length]? else c[k - a.length - M.length]?:=by
 rw[List.append_assoc,UJ]
 split
 .rfl
 .rw[UJ]
  by_cases h:k - a.length < M.length
  .rw[Y3 h,Y3 (by lia)]
  .rw[Y1 h,Y1 (by lia)]
theorem QY{a M c:List Nat}{i j:Nat}(hi:i=a.length)(hj:j=a.length+ M.length):mirror (((a++M++c).map it).toArray) i j ((j - i) / 2)=((a++M.reverse++c).map it).toArray:=by
 subst hi;subst hj;apply Array.ext_getElem?;intro k;rw[getElem?_mirror_all (by simp)];simp only[Wy,Yf];rw[DM,DM,DM,WK]
 by_cases h1:k < a.length
 .rw[Y1 (by lia),Y3 h1,Y3 h1]
 .by_cases h2:k < a.length+ M.length
  .rw[Y3 (by lia),Y1 (by lia),Y3 (by lia),Y1 h1,Y3 h2,List.getElem?_reverse (by lia)]
   congr 2;lia
  .rw[Y1 (by lia),Y1 h1,Y1 h2,Y1 h1,Y1 h2]
theorem nK{a B c:List Nat}{e k d:Nat}(hk:k=a.length+ B.length)(hd:d=B.length):bubble (((a++(B++[e])++c).map it).toArray) k d=((a++([e]++B)++c).map it).toArray:=by
 subst hk;subst hd;apply Array.ext_getElem?;intro k;rw[getElem?_bubble (by simp) _ (by lia)];simp only[Wy,Yf];rw[DM,DM,DM,DM];simp only[List.length_append,UA]
 by_cases h1:k < a.length
 .rw[Y1 (by lia),Y1 (by lia),Y3 h1,Y3 h1]
 .by_cases h2:k=a.length
  .subst h2;rw[Y3 (by lia),Y1 (by lia),Y3 (by lia),Y1 (by lia),Y3 (by lia)];simp
  .by_cases h3:k < a.length+ (B.length+ 1)
   .rw[Y1 (by lia),Y3 (by lia),Y1 (by lia),Y3 (by lia),Y1 (by lia),Y3 (by lia)];rw[W0 (by lia),Xq (by simp;lia)]
    congr 2;simp;lia
   .rw[Y1 (by lia),Y1 (by lia),Y1 (by lia),Y1 (by lia),Y1 (by lia),Y1 (by lia)]
    congr 2;lia
end
section
variable{prog:WV}{w:WZ}{A:WY}{E:WR}{s:WW}{O:KeyOrd}{key:Nat->O.α}{κ:SortKind}{it:Nat->Keyed}{N:Nat}
structure Tu(κ:SortKind)(it:Nat->Keyed)(pd:Array (Nat×Nat×Nat))(l:List Nat)(st:SortSt):Prop extends Dc κ it l st where
 pend:pendingOf st=pd
variable{pd:Array (Nat×Nat×Nat)}
theorem Eo{st:SortSt}{l:List Nat}{i j x y:Nat}{Q:Option Bool->SortSt->Prop}(C:Go prog w A s κ it N (NK O key))(S:Tu κ it pd l st)(hi:l[i]?=some x)(hj:l[j]?=some y)(hx:x < N)(hy:y < N)(h:Q (some (NK O key x y)) st):
  wpS (model prog w) A E s (ltAt' i j) Q st:=by
 rw[ltAt'_eq];refine Ya (V4 ?_);have b:(sortPriv%PySem.Builtin.SortState.a) st=(l.map it).toArray:=S.arr;dsimp only;rw[show arrOf st=(l.map it).toArray from S.arr];refine Ya (M6 (TZ hi) ?_);refine Ya (M6 (TZ hj) ?_);exact Bm C S.kind hx hy h
theorem A7{st:SortSt}{a M c:List Nat}{i j:Nat}{Q:Unit->SortSt->Prop}(S:Tu κ it pd (a++M++c) st)(hi:i=a.length)(hj:j=a.length+ M.length)(h:∀st',Tu κ it pd (a++M.reverse++c) st'->Q () st'):
  wpS (model prog w) A E s (reverseSlice' i j) Q st:=by
 rw[reverseSlice'_eq];refine UK (h _ ⟨⟨S.kind,S.ok,?_⟩,S.pend⟩);show mirror (arrOf st) i j ((j - i) / 2)=_;rw[show arrOf st=_ from S.arr];exact QY hi hj
theorem Z0{st:SortSt}{a B c:List Nat}{e k d:Nat}{Q:Unit->SortSt->Prop}(S:Tu κ it pd (a++(B++[e])++c) st)(hk:k=a.length+ B.length)(hd:d=a.length)(h:∀st',Tu κ it pd (a++([e]++B)++c) st'->Q () st'):
  wpS (model prog w) A E s (moveDown' k d) Q st:=by
 rw[moveDown'_eq];refine UK (h _ ⟨⟨S.kind,S.ok,?_⟩,S.pend⟩);show bubble (arrOf st) k (k - d)=_;rw[show arrOf st=_ from S.arr];exact nK hk (by lia)
def RQ(R:List Nat):Prop:=R.Pairwise (· < ·)
theorem QW{st:SortSt}{p U R:List Nat}{lo n ok:Nat}{Q:Bool->SortSt->Prop}(C:Go prog w A s κ it N (NK O key))(S:Tu κ it pd (p++U++R) st)(hp:lo=p.length)(hU:ok=U.length)(h1:1 <=ok)(hn:ok <=n)(hR:n <=U.length+ R.length)
  (sU:U.Pairwise (Pc O key)) (rR:RQ R) (uR:∀u∈U,∀r∈R,u < r) (bU:∀u∈U,u < N) (bR:∀r∈R,r < N)
  (h:∀V st',Tu κ it pd (p++V++R.drop (n - ok)) st'->V.Pairwise (Pc O key)->V.Perm (U++R.take (n - ok))->Q true st'):wpS (model prog w) A E s (binarySort' lo n ok) Q st:=by
 rw [binarySort'_eq, show max ok 1 = ok by lia];refine Ya (Xw (X4 (I := fun k c st' => c = (none, ()) /\ ∃ V, Tu κ it pd (p ++ V ++ R.drop (k - ok)) st' /\ V.Pairwise (Pc O key) /\ V.Perm (U ++ R.take (k - ok)))
  (Q := fun c st' => c = (none, ()) /\ ∃ V, Tu κ it pd (p ++ V ++ R.drop (n - ok)) st' /\ V.Pairwise (Pc O key) /\ V.Perm (U ++ R.take (n - ok))) ?step ?fin ⟨rfl, U, by simpa using S, sU, by simp⟩) ?post)
 case post=>
  rintro c st' ⟨rfl,V,o,sV,j⟩;exact Yd (h V st' o sV j)
 case fin=>
  rintro c st' ⟨hc,V,o,sV,j⟩;rw[show max ok n=n by lia]at o j;exact⟨hc,V,o,sV,j⟩
 case step=>
  rintro k c st' hak hkn ⟨rfl,V,o,sV,j⟩;dsimp only;have lV:V.length=k:=by have:=j.length_eq;simp at this;lia
  obtain⟨e,ee⟩:=Ts (l:=R) (i:=k - ok) (by lia);have eN:e < N:=bR e (NF ee);have dr:R.drop (k - ok)=e::R.drop (k+ 1 - ok):=by
   obtain⟨hh,rfl⟩:=Y6.mp ee;rw[Yz hh];congr 2;lia
  have mV:∀v∈V,v < e/\v < N:=fun v hv=>by
   rcases Ye.mp (j.mem_iff.mp hv) with q|q
   .exact⟨uR v q e (NF ee),bU v q⟩
   .obtain⟨i,hi⟩:=Yy.mp q;rw[YI]at hi
    split at hi
    .rename_i hik
     obtain⟨b1,rfl⟩:=Y6.mp hi;obtain⟨b2,rfl⟩:=Y6.mp ee;exact⟨X6.mp rR _ _ b1 b2 hik,bR _ (XG _)⟩
    .cases hi
  obtain ⟨d, hc0, g⟩ := Ao (P := Pc O key) (fun a b => a.trans b) e sV;rw [dr] at o;refine Ya (Xw (X4 (I := fun x c f => f = st' /\ ∃ l r, c = (none, l, r) /\ l <= d /\ d <= r /\ r <= k /\ r - l <= k - x)
   (Q := fun c f => f = st' /\ c = (none, d, d)) ?istep ?ifin ⟨rfl, 0, k, rfl, by lia, by lia, by lia, by lia⟩) ?ipost)
  case ifin=>
   rintro c f ⟨rfl,l,r,rfl,a1,a2,a3,a4⟩;obtain rfl:l=d:=by lia
   obtain rfl:r=l:=by lia
   exact⟨rfl,rfl⟩
  case istep=>
   rintro x c f _ hxk ⟨rfl,l,r,rfl,a1,a2,a3,a4⟩;dsimp only
   by_cases hge:l≥r
   .rw[Y3 hge];obtain rfl:l=d:=by lia
    obtain rfl:r=l:=by lia
    exact Yd ⟨rfl,rfl⟩
   .rw[Y1 hge];obtain⟨v,ev⟩:=Ts (l:=V) (i:=(l+ r) / 2) (by lia);refine Ya (Eo (x:=e) (y:=v) C o (by rw[DM,Y1 (by lia),Y1 (by lia),show lo+ k - p.length - V.length=0 by lia];rfl) (by rw[DM,Y1 (by lia),Y3 (by lia),show lo+ (l+ r) / 2 - p.length=(l+ r) / 2 by lia];exact ev) eN (mV v (NF ev)).2 ?_);cases q:NK O key e v with
    |true=>
     have:=(g _ v ev);have p1:=(Pc.ask (mV v (NF ev)).1).mp q;have:¬(l+ r) / 2 < d:=fun z=>(this.mpr z).no p1
     simp only[if_true];exact Yd ⟨rfl,l,(l+ r) / 2,rfl,a1,by lia,by lia,AI a4 (wM (by lia))⟩
    |false=>
     have:=(g _ v ev).mp ((Pc.ask' (mV v (NF ev)).1).mp q);simp only[Bool.false_eq_true,if_false];exact Yd ⟨rfl,(l+ r) / 2+ 1,r,rfl,by lia,a2,a3,AI a4 (uH (by lia))⟩
  case ipost=>
   rintro c f ⟨rfl,rfl⟩;dsimp only;have S2:Tu κ it pd ((p++V.take d)++(V.drop d++[e])++R.drop (k+ 1 - ok)) f:=by
    have e:p++V++e::R.drop (k+ 1 - ok)=(p++V.take d)++(V.drop d++[e])++R.drop (k+ 1 - ok):=by
     rw[List.append_assoc p (V.take d),<-List.append_assoc (V.take d),YG];simp
    rwa [e]at o
   refine Ya (Z0 S2 (by simp;lia) (by simp;lia) fun st3 S3=>Yd ⟨rfl,V.take d++([e]++V.drop d),?_,?_,?_⟩)
   .simpa[List.append_assoc] using S3
   .have sV':=Yl.mp (by rw[YG];exact sV:(V.take d++V.drop d).Pairwise (Pc O key));have hlo:∀v∈V.take d,Pc O key v e:=fun v hv=>by
     obtain⟨i,hi⟩:=Yy.mp hv;rw[YI]at hi
     split at hi
     .rename_i hik;exact(g i v hi).mpr hik
     .cases hi
    have hhi:∀v∈V.drop d,Pc O key e v:=fun v hv=>by
     obtain⟨i,hi⟩:=Yy.mp hv;rw[X0]at hi;exact Pc.tot (by have:=(mV v (NF hi)).1;lia) fun z=>by have:=(g _ v hi).mp z;lia
    refine Yl.mpr ⟨sV'.1,Xm.mpr ⟨hhi,sV'.2.1⟩,fun a ha b hb=>?_⟩;rcases Yp.mp hb with rfl|hb
    .exact hlo a ha
    .exact sV'.2.2 a ha b hb
   .have et:R.take (k+ 1 - ok)=R.take (k - ok)++[e]:=by
     obtain⟨hh,rfl⟩:=Y6.mp ee;rw[show k+ 1 - ok=k - ok+ 1 by lia,Uc hh]
    refine List.Perm.trans (l₂:=V++[e]) ?_ (by rw[et,<-List.append_assoc];exact j.append_right [e]);refine List.Perm.trans (XZ _ UD) ?_;rw[<-List.append_assoc,YG]
end
section
variable{O:KeyOrd}{key:Nat->O.α}
structure GX(O:KeyOrd)(key:Nat->O.α)(R:List Nat)(n neq:Nat)(W G:List Nat):Prop where
 srt:(W++G.reverse).Pairwise (fun a b=>Pc O key b a)
 pm:(W++G).Perm (R.take n)
 len:G.length=neq+ 1
 eqv:∀a∈G,∀b∈G,O.blt (key a) (key b)=false
 low:∀a∈W,∀b∈G,a < b
theorem IE{R:List Nat}(r:RQ R){i j x y:Nat}(hi:R[i]?=some x)(hj:R[j]?=some y)(h:i < j):x < y:=by
 obtain⟨a,rfl⟩:=Y6.mp hi;obtain⟨b,rfl⟩:=Y6.mp hj;exact X6.mp r i j a b h
theorem EY{R:List Nat}(r:RQ R){n x y:Nat}(hy:R[n]?=some y)(hx:x∈R.take n):x < y:=by
 obtain⟨i,hi⟩:=Yy.mp hx;rw[YI]at hi
 split at hi
 .rename_i h;exact IE r hi hy h
 .cases hi
theorem BA{R:List Nat}{n e:Nat}(h:R[n]?=some e):R.take (n+ 1)=R.take n++[e]:=by
 obtain⟨hh,rfl⟩:=Y6.mp h;rw[Uc hh]
theorem Cb{R:List Nat}{n e:Nat}(h:R[n]?=some e):R.drop n=[e]++R.drop (n+ 1):=by
 obtain⟨hh,rfl⟩:=Y6.mp h;rw[Yz hh];rfl
theorem FD{a b c:O.α}(h:O.blt a b=true)(h2:O.blt c b=false):O.blt a c=true:=by
 rcases O.negTrans _ c _ h with q|q
 .exact q
 .rw[h2]at q;cases q
theorem Q2{i j:Nat}(h:Pc O key i j)(hij:j < i):O.blt (key i) (key j)=true:=by
 unfold Pc at h;rwa [Y1 (by lia)]at h
theorem IH{i j:Nat}(h:O.blt (key i) (key j)=true)(hij:j < i):Pc O key i j:=by
 unfold Pc;rwa [Y1 (by lia)]
variable{R W G:List Nat}{n neq e:Nat}
theorem GX.less(F:GX O key R n neq W G)(r:RQ R)(he:R[n]?=some e){g:Nat}(hg:G[G.length - 1]?=some g)(h:O.blt (key e) (key g)=true):GX O key R (n+ 1) 0 (W++G.reverse) [e]:=by
 have mem:∀x∈W++G.reverse,x < e:=fun x f=>EY r he (F.pm.mem_iff.mp (by simpa using f))
 have i:g∈G:=YB hg;have lt:∀x∈W++G.reverse,O.blt (key e) (key x)=true:=fun x f=>by
  rcases Ye.mp f with q|q
  .have p:=(Yl.mp F.srt).2.2 x q g (by simpa using i);exact FD h p.le
  .exact FD h (F.eqv x (by simpa using q) g i)
 refine⟨?_,?_,rfl,fun a c b d=>?_,fun a c b d=>by obtain rfl:=Y9.mp d;exact mem a c⟩
 .rw[Ut];refine Yl.mpr ⟨F.srt,XA _ _,fun a c b d=>?_⟩;obtain rfl:=Y9.mp d;exact IH (lt a c) (mem a c)
 .rw[BA he];exact((XZ _ (Xr _)).trans F.pm).append_right _
 .obtain rfl:=Y9.mp c;obtain rfl:=Y9.mp d;exact O.irrefl _
theorem GX.same(F:GX O key R n neq W G)(r:RQ R)(he:R[n]?=some e){g:Nat}(hg:G[G.length - 1]?=some g)(h1:O.blt (key e) (key g)=false)(h2:O.blt (key g) (key e)=false):GX O key R (n+ 1) (neq+ 1) W (G++[e]):=by
 have h:g∈G:=YB hg;have j:key e=key g:=O.total _ _ h1 h2;have mem:∀x∈W++G,x < e:=fun x i=>EY r he (F.pm.mem_iff.mp i)
 have s:=Yl.mp F.srt;refine⟨?_,?_,by simp[F.len],fun a d b c=>?_,fun a d b c=>?_⟩
 .rw[List.reverse_append,Ut];refine Yl.mpr ⟨s.1,Xm.mpr ⟨fun b c=>?_,s.2.1⟩,fun a d b c=>?_⟩
  .have f:b∈G:=by simpa using c
   unfold Pc;rw[Y3 (mem b (Yt _ f)),j];exact F.eqv g h b f
  .rcases Yp.mp c with rfl|c
   .have p:=s.2.2 a d g (by simpa using h);refine IH ?_ (mem a (X5 _ d));rw[j];exact Q2 p (F.low a d g h)
   .exact s.2.2 a d b c
 .rw[BA he,<-List.append_assoc];exact F.pm.append_right _
 .have l:∀x∈G++[e],∃y∈G,key x=key y:=fun x i=>by
   rcases Ye.mp i with q|q
   .exact⟨x,q,rfl⟩
   .obtain rfl:=Y9.mp q;exact⟨g,h,j⟩
  obtain⟨z,o,v⟩:=l a d;obtain⟨w,f,u⟩:=l b c;rw[v,u];exact F.eqv z o w f
 .rcases Ye.mp c with q|q
  .exact F.low a d b q
  .obtain rfl:=Y9.mp q;exact mem a (X5 _ d)
end
section
variable{prog:WV}{w:WZ}{A:WY}{E:WR}{s:WW}{O:KeyOrd}{key:Nat->O.α}{κ:SortKind}{it:Nat->Keyed}{N:Nat}{pd:Array (Nat×Nat×Nat)}
theorem ZY{τ β:Type}{M:Model}{X B:StateT τ Sem β}{Q:β->τ->Prop}{st:τ}{c:Prop}{dc:Decidable c}(P:τ->Prop)(hX:∀st',P st'->wpS M A E s X Q st')
  (h1:c->(∀st',P st'->wpS M A E s X Q st')->wpS M A E s B Q st) (h0:¬c->P st):wpS M A E s (if c then B else X) Q st:=by
 split
 .exact h1 ‹_› hX
 .exact hX _ (h0 ‹_›)
theorem vE{st:SortSt}{p R:List Nat}{lo nrem:Nat}{Q:Option Nat->SortSt->Prop}(C:Go prog w A s κ it N (NK O key))(S:Tu κ it pd (p++R) st)(hp:lo=p.length)(hn:nrem=R.length)(h1:1 <=nrem)(rR:RQ R)(bR:∀r∈R,r < N)
  (h:∀m U st',1 <=m->m <=nrem->Tu κ it pd (p++U++R.drop m) st'->U.Pairwise (Pc O key)->U.Perm (R.take m)->Q (some m) st'):wpS (model prog w) A E s (countRun' lo nrem) Q st:=by
 rw[countRun'_eq];have at':∀{i x},R[i]?=some x->(p++R)[lo+ i]?=some x:=fun {i x} e=>by rw[Xq (by lia),show lo+ i - p.length=i by lia];exact e
 refine Ya (Xw (X4 (I := fun x c st' => st' = st /\ c = (none, x) /\ (R.take x).Pairwise (Pc O key))
  (Q := fun c st' => st' = st /\ ∃ n, c = (none, n) /\ 1 <= n /\ n <= nrem /\ (R.take n).Pairwise (Pc O key) /\ (n < nrem -> ∀ x y, R[n]? = some x -> R[n - 1]? = some y -> Pc O key x y)) ?_ ?_ ⟨rfl, rfl, ?_⟩) ?_)
 .rintro x c st' hx1 hx2 ⟨rfl,rfl,u⟩;dsimp only;obtain⟨e,d⟩:=Ts (l:=R) (i:=x) (by lia);obtain⟨g,j⟩:=Ts (l:=R) (i:=x - 1) (by lia);have lg:=IE rR j d (by lia);refine Ya (Eo (x:=e) (y:=g) C S (at' d) (by rw[show lo+ x - 1=lo+ (x - 1) by lia];exact at' j) (bR e (NF d)) (bR g (NF j)) ?_);cases q:NK O key e g with
  |true=>
   simp only[if_true];exact Yd ⟨rfl,x,rfl,hx1,by lia,u,fun _ a b ea eb=>by rw[d]at ea;rw[j]at eb;cases ea;cases eb;exact(Pc.ask lg).mp q⟩
  |false=>
   simp only[Bool.false_eq_true,if_false];refine Yd ⟨rfl,rfl,?_⟩;rw[BA d];refine Yl.mpr ⟨u,XA _ _,fun a ha b hb=>?_⟩;obtain rfl:=Y9.mp hb;exact Au u (by rw[Ym,Uo (by lia),YI,Y3 (by lia)];exact j) ((Pc.ask' lg).mp q) a ha
 .rintro c st' ⟨rfl,rfl,u⟩;rw[show max 1 nrem=nrem by lia]at u ⊢;exact⟨rfl,nrem,rfl,h1,Y7 _,u,fun z=>by lia⟩
 .have:(R.take 1).length <=1:=by simp;lia
  rcases hh:R.take 1 with _|⟨a,_|⟨b,l⟩⟩
  .exact .nil
  .exact XA _ _
  .rw[hh]at this;simp at this
 rintro c st' ⟨rfl,n,rfl,n1,n2,u,nx⟩;dsimp only
 by_cases q1:n=nrem
 .rw[Y3 (by simpa using q1)];exact Yd (h n (R.take n) _ n1 n2 (by rw[List.append_assoc,YG];exact S) u (.refl _))
 rw[Y1 (by simpa using q1)];obtain⟨e,d⟩:=Ts (l:=R) (i:=n) (by lia);obtain⟨g,j⟩:=Ts (l:=R) (i:=n - 1) (by lia);have eg:=Q2 (nx (by lia) e g d j) (IE rR j d (by lia));have base:∀{st'},Tu κ it pd (p++(R.take n).reverse++R.drop n) st'->(∀x∈R.take n,O.blt (key x) (key g)=false)->GX O key R (n+ 1) 0 (R.take n).reverse [e]/\Tu κ it pd (p++((R.take n).reverse++[e])++R.drop (n+ 1)) st':=fun {st'} S' al=>by
  refine⟨⟨?_,?_,rfl,fun a ha b hb=>?_,fun a ha b hb=>?_⟩,?_⟩
  .rw[Ut];refine Yl.mpr ⟨XH.mpr u,XA _ _,fun a ha b hb=>?_⟩;obtain rfl:=Y9.mp hb;rw[Wc]at ha;exact IH (FD eg (al a ha)) (EY rR d ha)
  .rw[BA d];exact(Xr _).append_right _
  .obtain rfl:=Y9.mp ha;obtain rfl:=Y9.mp hb;exact O.irrefl _
  .obtain rfl:=Y9.mp hb;exact EY rR d (by simpa using ha)
  .rw[Cb d]at S';simpa[List.append_assoc] using S'
 apply ZY (fun st1=>GX O key R (n+ 1) 0 (R.take n).reverse [e]/\Tu κ it pd (p++((R.take n).reverse++[e])++R.drop (n+ 1)) st1)
 rotate_left
 .intro q2 J;obtain⟨f,hf⟩:=Ts (l:=R) (i:=0) (by lia);refine Ya (Eo (x:=f) (y:=g) C S (by have:=at' hf;rwa [Ub]at this) (by rw[show lo+ n - 1=lo+ (n - 1) by lia];exact at' j) (bR f (NF hf)) (bR g (NF j)) ?_);cases q3:NK O key f g with
  |true=>
   simp only[if_true];exact Yd (h n (R.take n) _ n1 n2 (by rw[List.append_assoc,YG];exact S) u (.refl _))
  |false=>?_
  simp only[Bool.false_eq_true,if_false];have S0:Tu κ it pd (p++R.take n++R.drop n) st':=by rw[List.append_assoc,YG];exact S
  refine Ya (A7 S0 hp (by rw[Ym,Uo (by lia)];lia) fun st1 S1=>?_);exact J _ <|base S1 fun x hx=>by
   cases q4:O.blt (key x) (key g) with
   |false=>rfl
   |true=>
    exfalso
    rcases O.negTrans _ (key f) _ q4 with q|q
    .obtain⟨i,hi⟩:=Yy.mp hx
     by_cases i0:i=0
     .subst i0;rw[YI,Y3 (by lia),hf]at hi;cases hi;rw[O.irrefl]at q;cases q
     .obtain⟨hi',rfl⟩:=Y6.mp hi;have hf':(R.take n)[0]?=some f:=by rw[YI,Y3 (by lia)];exact hf
      obtain⟨h0,rfl⟩:=Y6.mp hf';have:=(X6.mp u 0 i h0 hi' (by lia)).le;unfold KeyOrd.kle at this;rw[this]at q;cases q
    .unfold NK at q3;rw[q3]at q;cases q
 .intro q2;have t1:R.take n=[g]:=by
   obtain rfl:n=1:=by lia
   obtain⟨hh,rfl⟩:=Y6.mp j;cases R with
   |nil=>simp at hh
   |cons a l=>rfl
  exact base (st':=st') (by rw[t1,Ut,<-t1,List.append_assoc,YG];exact S) fun x hx=>by
   rw[t1]at hx;obtain rfl:=Y9.mp hx;exact O.irrefl _
 clear S;rintro st1 ⟨F, o⟩;refine Ya (VO (XF ⟨rfl, ?_⟩));refine Ya (Xw (X4 (I := fun x c st' => ∃ neq W G, c = (none, x, neq) /\ Tu κ it pd (p ++ (W ++ G) ++ R.drop x) st' /\ GX O key R x neq W G)
  (Q := fun c st' => ∃ x neq W G, c = (none, x, neq) /\ n <= x /\ x <= nrem /\ Tu κ it pd (p ++ (W ++ G) ++ R.drop x) st' /\ GX O key R x neq W G) ?_ ?_ ⟨0, _, _, rfl, o, F⟩) ?_)
 .clear o F;rintro x c st2 hx1 hx2 ⟨neq,W,G,rfl,o,F⟩;dsimp only;have lW:(W++G).length=x:=by rw[F.pm.length_eq,Ym];lia
  rw[List.length_append]at lW;have lG:=F.len;obtain⟨e,d⟩:=Ts (l:=R) (i:=x) (by lia);obtain⟨g,j⟩:=Ts (l:=G) (i:=G.length - 1) (by lia);have gR:g∈R:=Xd (F.pm.mem_iff.mp (Yt _ (NF j)));have ae:(p++(W++G)++R.drop x)[lo+ x]?=some e:=by
   rw[DM,Y1 (by lia),Y1 (by rw[List.length_append];lia),List.length_append,show lo+ x - p.length - (W.length+ G.length)=0 by lia,X0];exact d
  have ag:(p++(W++G)++R.drop x)[lo+ x - 1]?=some g:=by
   rw[DM,Y1 (by lia),Y3 (by rw[List.length_append];lia),Xq (by lia),show lo+ x - 1 - p.length - W.length=G.length - 1 by lia];exact j
  refine Ya (Eo (x:=e) (y:=g) C o ae ag (bR e (NF d)) (bR g gR) ?_);cases q3:NK O key e g with
  |true=>
   have F':=F.less rR d j q3;simp only[if_true];have fin:∀{st3},Tu κ it pd (p++W++G.reverse++R.drop x) st3->Tu κ it pd (p++(W++G.reverse++[e])++R.drop (x+ 1)) st3:=fun {st3} S3=>by rw[Cb d]at S3;simpa[List.append_assoc] using S3
   by_cases q4:neq > 0
   .rw[Y3 q4];have S3:Tu κ it pd ((p++W)++G++R.drop x) st2:=by simpa[List.append_assoc] using o
    refine Ya (A7 S3 (by rw[List.length_append];lia) (by rw[List.length_append];lia) fun st3 S4=>?_);exact Yd ⟨0,_,_,rfl,fin S4,F'⟩
   .rw[Y1 q4];refine Yd ⟨0,_,_,rfl,fin ?_,F'⟩;have:G.reverse=G:=by
     match G,F.len with
     |[a],_=>rfl
     |[],h=>simp at h
     |a::b::l,h=>simp at h;lia
    rw[this];simpa[List.append_assoc] using o
  |false=>
   simp only[Bool.false_eq_true,if_false];refine Ya (Eo (x:=g) (y:=e) C o ag ae (bR g gR) (bR e (NF d)) ?_);cases q4:NK O key g e with
   |true=>
    simp only[if_true];exact Yd ⟨x,neq,W,G,rfl,by lia,by lia,o,F⟩
   |false=>
    simp only[Bool.false_eq_true,if_false];refine Yd ⟨neq+ 1,W,G++[e],rfl,?_,F.same rR d j q3 q4⟩;rw[Cb d]at o;simpa[List.append_assoc] using o
 .rintro c st2 ⟨neq,W,G,rfl,o,F⟩;rw[show max (n+ 1) nrem=nrem by lia]at o F ⊢;exact⟨nrem,neq,W,G,rfl,by lia,Y7 _,o,F⟩
 .clear o F;rintro c st2 ⟨m,neq,W,G,rfl,m1,m2,o,F⟩;dsimp only;have lW:(W++G).length=m:=by rw[F.pm.length_eq,Ym];lia
  rw[List.length_append]at lW;have lG:=F.len;have S3:Tu κ it pd ((p++W)++G++R.drop m) st2:=by simpa[List.append_assoc] using o
  by_cases q4:neq > 0
  case' pos=>
   rw[Y3 q4];refine Ya (A7 S3 (by rw[List.length_append];lia) (by rw[List.length_append];lia) fun st3 S4=>?_)
  case' neg=>
   rw[Y1 q4];have S4:Tu κ it pd ((p++W)++G.reverse++R.drop m) st2:=by
    have:G.reverse=G:=by
     match G,F.len with
     |[a],_=>rfl
     |[],h=>simp at h
     |a::b::l,h=>simp at h;lia
    rw[this];exact S3
  all_goals
   have S5 := S4;rw [List.append_assoc p] at S5;refine Ya (A7 S5 hp (by rw [List.length_append, WK]; lia) fun st4 S6 => ?_);have sU : (W ++ G.reverse).reverse.Pairwise (Pc O key) := XH.mpr F.srt;have v : (W ++ G.reverse).reverse.Perm (R.take m) := (Xr _).trans ((XZ _ (Xr _)).trans F.pm);refine Ya (Xw (X4 (I := fun x c st' => ∃ U, c = (none, x) /\ st' = st4 /\ Tu κ it pd (p ++ U ++ R.drop x) st' /\ U.Pairwise (Pc O key) /\ U.Perm (R.take x))
    (Q := fun c st' => ∃ x U, c = (none, x) /\ m <= x /\ x <= nrem /\ Tu κ it pd (p ++ U ++ R.drop x) st' /\ U.Pairwise (Pc O key) /\ U.Perm (R.take x)) ?_ ?_ ⟨_, rfl, rfl, S6, sU, v⟩) ?_)
   .rintro x c st5 hx1 hx2 ⟨U,rfl,rfl,S7,sU,v⟩;dsimp only;have lU:U.length=x:=by rw[v.length_eq,Ym];lia
    obtain⟨e,d⟩:=Ts (l:=R) (i:=x) (by lia);obtain⟨g,j⟩:=Ts (l:=U) (i:=U.length - 1) (by lia);have gT:=v.mem_iff.mp (NF j);have gR:g∈R:=Xd gT;refine Ya (Eo (x:=e) (y:=g) C S7 (by rw[DM,Y1 (by lia),Y1 (by lia),show lo+ x - p.length - U.length=0 by lia,X0];exact d) (by rw[DM,Y1 (by lia),Y3 (by lia),show lo+ x - 1 - p.length=U.length - 1 by lia];exact j) (bR e (NF d)) (bR g gR) ?_);have ge:=EY rR d gT;cases q5:NK O key e g with
    |true=>
     simp only[if_true];exact Yd ⟨x,U,rfl,hx1,by lia,S7,sU,v⟩
    |false=>
     simp only[Bool.false_eq_true,if_false];refine Yd ⟨U++[e],rfl,rfl,?_,?_,?_⟩
     .rw[Cb d]at S7;simpa[List.append_assoc] using S7
     .refine Yl.mpr ⟨sU,XA _ _,fun a ha b hb=>?_⟩;obtain rfl:=Y9.mp hb;exact Au sU j ((Pc.ask' ge).mp q5) a ha
     .rw[BA d];exact v.append_right _
   .rintro c st5 ⟨U,rfl,rfl,S7,sU,v⟩;rw[show max m nrem=nrem by lia]at S7 v ⊢;exact⟨nrem,U,rfl,m2,Y7 _,S7,sU,v⟩
   .rintro c st5 ⟨x,U,rfl,x1,x2,S7,sU,v⟩;exact Yd (h x U _ (by lia) x2 S7 sU v)
end
def NM:Nat->List (List Nat)->List (Nat×Nat×Nat)->Prop
 |_,[],[]=>True
 |b,g::gs,e::es=>e.1=b/\e.2.1=g.length/\NM (b+ g.length) gs es
 |_,_,_=>False
theorem NM.len:∀{b gs es},NM b gs es->es.length=gs.length
 |_,[],[],_=>rfl
 |_,_::_,_::_,h=>by simp[NM.len h.2.2]
 |_,[],_::_,h=>h.elim
 |_,_::_,[],h=>h.elim
theorem NM.app:∀{b pre gs es},NM b (pre++gs) es->∃e1 e2,es=e1++e2/\e1.length=pre.length/\NM b pre e1/\NM (b+ pre.flatten.length) gs e2
 |b,[],gs,es,h=>⟨[],es,rfl,rfl,trivial,by simpa using h⟩
 |b,g::pre,gs,[],h=>h.elim
 |b,g::pre,gs,e::es,h=>by
  obtain⟨e1,e2,rfl,l,a,c⟩:=NM.app h.2.2;refine⟨e::e1,e2,rfl,by simp[l],⟨h.1,h.2.1,a⟩,?_⟩;rw[YY,List.length_append,<-Nat.add_assoc];exact c
theorem NM.join:∀{b pre gs e1 e2},NM b pre e1->NM (b+ pre.flatten.length) gs e2->NM b (pre++gs) (e1++e2)
 |b,[],gs,[],e2,_,h=>by simpa using h
 |b,g::pre,gs,e::e1,e2,h,h2=>⟨h.1,h.2.1,NM.join h.2.2 (by rw[YY,List.length_append,<-Nat.add_assoc]at h2;exact h2)⟩
 |b,[],gs,_::_,e2,h,_=>h.elim
 |b,_::_,gs,[],e2,h,_=>h.elim
theorem NM.pw:∀{b gs es i p},NM b gs es->NM b gs (es.modify i fun x=>(x.1,x.2.1,p))
 |_,[],[],i,_,h=>by simpa using h
 |_,_::_,e::es,0,_,h=>⟨h.1,h.2.1,h.2.2⟩
 |_,_::_,e::es,i+ 1,_,h=>⟨h.1,h.2.1,NM.pw h.2.2⟩
 |_,[],_::_,_,_,h=>h.elim
 |_,_::_,[],_,_,h=>h.elim
section
variable{O:KeyOrd}{key:Nat->O.α}
structure Db(O:KeyOrd)(key:Nat->O.α)(lo:Nat)(gs:List (List Nat)):Prop where
 srt:∀g∈gs,g.Pairwise (Pc O key)/\0 < g.length
 low:gs.Pairwise (fun a b=>∀x∈a,∀y∈b,x < y)
 pm:gs.flatten.Perm (List.range lo)
theorem Db.merge{lo:Nat}{pre post:List (List Nat)}{X Y Z:List Nat}(h:Db O key lo (pre++X::Y::post))(z1:Z.Perm (X++Y))(z2:Z.Pairwise (Pc O key)):Db O key lo (pre++Z::post):=by
 have o:=h.srt X (by simp);have l:=Yl.mp h.low;have j:=Xm.mp l.2.1;have i:=Xm.mp j.2;refine⟨fun g n=>?_,?_,?_⟩
 .rcases Ye.mp n with q|q
  .exact h.srt g (X5 _ q)
  .rcases Yp.mp q with rfl|q
   .refine⟨z2,?_⟩;rw[z1.length_eq,List.length_append];lia
   .exact h.srt g (by simp[q])
 .refine Yl.mpr ⟨l.1,Xm.mpr ⟨fun b e x d y c=>?_,i.2⟩,fun a f b e x d y c=>?_⟩
  .rcases Ye.mp (z1.mem_iff.mp d) with q|q
   .exact j.1 b (Yj _ e) x q y c
   .exact i.1 b e x q y c
  .rcases Yp.mp e with rfl|q
   .rcases Ye.mp (z1.mem_iff.mp c) with q|q
    .exact l.2.2 a f X (by simp) x d y q
    .exact l.2.2 a f Y (by simp) x d y q
   .exact l.2.2 a f b (by simp[q]) x d y c
 .refine List.Perm.trans ?_ h.pm;rw[UP,UP,YY,YY,YY,<-List.append_assoc X];exact XZ _ (z1.append_right _)
theorem Db.push{lo n:Nat}{gs:List (List Nat)}{U:List Nat}(h:Db O key lo gs)(u1:U.Perm (List.range' lo n))(u2:U.Pairwise (Pc O key))(hn:0 < n):Db O key (lo+ n) (gs++[U]):=by
 refine⟨fun g f=>?_,?_,?_⟩
 .rcases Ye.mp f with q|q
  .exact h.srt g q
  .obtain rfl:=Y9.mp q;exact⟨u2,by rw[u1.length_eq,UY];exact hn⟩
 .refine Yl.mpr ⟨h.low,XA _ _,fun a j b i x d y c=>?_⟩;obtain rfl:=Y9.mp i;have h1:x < lo:=by have:=h.pm.mem_iff.mp (Wd.mpr ⟨a,j,d⟩);simpa using this
  have h2:=u1.mem_iff.mp c;rw[Uy]at h2;lia
 .rw[UP,Uu];have e:List.range (lo+ n)=List.range lo++List.range' lo n:=by
   rw[VD,VD,<-List.range'_append_1,Xk]
  rw[e];exact h.pm.append u1
end
section
variable{prog:WV}{w:WZ}{A:WY}{E:WR}{s:WW}{O:KeyOrd}{key:Nat->O.α}{κ:SortKind}{it:Nat->Keyed}{N:Nat}
structure DX(O:KeyOrd)(key:Nat->O.α)(κ:SortKind)(it:Nat->Keyed)(lo:Nat)(gs:List (List Nat))(Jq:List Nat)(st:SortSt):Prop where
 ok:Dc κ it (gs.flatten++Jq) st
 segs:Db O key lo gs
 ents:NM 0 gs (pendingOf st).toList
theorem PN{α:Type}:∀{l:List α} {i:Nat},i+ 1 < l.length->∃pre x y post,l=pre++x::y::post/\pre.length=i
 |[],_,h=>by simp at h
 |[_],_,h=>by simp at h
 |a::b::l,0,_=>⟨[],a,b,l,rfl,rfl⟩
 |a::b::l,i+ 1,h=>by
  obtain⟨pre,x,y,post,e,hl⟩:=PN (l:=b::l) (i:=i) (by simpa using h);exact⟨a::pre,x,y,post,by rw[e];rfl,by simp[hl]⟩
theorem Ku{st:SortSt}{lo i:Nat}{gs:List (List Nat)}{Jq:List Nat}{Q:Bool->SortSt->Prop}(C:Go prog w A s κ it N (NK O key))(S:DX O key κ it lo gs Jq st)(hlo:lo <=N)(hi:i+ 1 < gs.length)
  (h:∀gs' st',DX O key κ it lo gs' Jq st'->gs'.length+ 1=gs.length->Q true st'):wpS (model prog w) A E s (mergeAt' i) Q st:=by
 obtain⟨c,X,Y,d,rfl,hl⟩:=PN hi;have f:=S.segs;obtain⟨e,e2,j,l1,a1,a2⟩:=S.ents.app
 match e2,a2 with
 |⟨x1,x2,x3⟩::⟨y1,y2,y3⟩::es,a2=>
  obtain⟨b1,z,u,r,q⟩:=a2;simp only[Xk]at b1 z u r q;subst b1;subst z;subst u;subst r;have p:=f.srt X (by simp);have o:=f.srt Y (by simp);have l:∀g∈c++X::Y::d,∀x∈g,x < N:=fun g hg x hx=>by
   have:=f.pm.mem_iff.mp (Wd.mpr ⟨g,hg,hx⟩);simp at this;lia
  have low:=(Xm.mp (Yl.mp f.low).2.1).1 Y (by simp);have ar:Dc κ it (c.flatten++X++Y++(d.flatten++Jq)) st:=by
   have:=S.ok;simpa[List.append_assoc] using this
  have g1:(pendingOf st)[i]?=some (c.flatten.length,X.length,x3):=by
   rw[<-Array.getElem?_toList,j,Xq (by lia),show i - e.length=0 by lia];rfl
  have g2:(pendingOf st)[i+ 1]?=some (c.flatten.length+ X.length,Y.length,y3):=by
   rw[<-Array.getElem?_toList,j,Xq (by lia),show i+ 1 - e.length=1 by lia];rfl
  refine x6 C ar ⟨p.1,o.1,low,l X (by simp),l Y (by simp)⟩ p.2 o.2 g1 g2 fun Z st' n z2 S' pe=>?_
  refine h (c++Z::d) st' ⟨?_,f.merge n z2,?_⟩ (by simp;lia)
  .simpa[List.append_assoc] using S'
  .rw[pe];have:(((pendingOf st).setIfInBounds i (c.flatten.length,X.length+ Y.length,x3)).eraseIdxIfInBounds (i+ 1)).toList=e++(c.flatten.length,X.length+ Y.length,x3)::es:=by
    have k:∀ (a b:Nat×Nat×Nat) (v:Nat×Nat×Nat),((e++a::b::es).set i v).eraseIdx (i+ 1)=e++v::es:=fun a b v=>by
     rw[Wx _ _ (by lia),show i - e.length=0 by lia,List.set_cons_zero,List.eraseIdx_append_of_length_le (by lia),show i+ 1 - e.length=1 by lia];rfl
    have sz:i+ 1 < (pendingOf st).size:=by rw[<-Array.length_toList,j];simp;lia
    rw[Array.eraseIdxIfInBounds,dif_pos (by simpa using sz),Array.toList_eraseIdx,VU,j,k]
   rw[this];refine a1.join ⟨by simp,?_,?_⟩
   .rw[n.length_eq,List.length_append]
   .rw[n.length_eq,List.length_append];rw[<-Nat.add_assoc,Xk];exact q
theorem vU{st:SortSt}{Q:Unit->SortSt->Prop}(C:Go prog w A s κ it N (NK O key))(hst:Tu κ it #[] (List.range N) st)(h2:1 <=N)
  (h:∀ (p:List Nat) st',Dc κ it p st'->p.Perm (List.range N)->p.Pairwise (Pc O key)->Q () st'):wpS (model prog w) A E s sortRuns' Q st:=by
 rw[sortRuns'_eq];refine Ya (V4 ?_);have sz:(arrOf st).size=N:=by rw[show arrOf st=_ from hst.arr];simp
 dsimp only;rw [sz];have s0 : DX O key κ it 0 [] (List.range' 0 N) st := ⟨by have := hst.1; rwa [VD] at this, ⟨fun g hg => by simp at hg, .nil, .refl _⟩, by rw [hst.pend]; exact trivial⟩;refine Ya (Xw (X4 (I := fun x c st' => ∃ lo b, c = (none, lo) /\ DX O key κ it lo b (List.range' lo (N - lo)) st' /\ lo <= N /\ (x <= lo \/ lo = N) /\ b.length <= lo)
  (Q := fun c st' => ∃ b, c = (none, N) /\ DX O key κ it N b [] st' /\ b.length <= N) ?_ ?_ ⟨0, [], rfl, s0, Yv _, .inl (Y7 _), Y7 _⟩) ?_)
 .rintro x c j - hx ⟨lo,b,rfl,S,hlo,hxl,l⟩;dsimp only
  by_cases q1:lo≥N
  .rw[Y3 q1];obtain rfl:lo=N:=by lia
   refine Yd ⟨b,rfl,?_,l⟩;rw[WN]at S;exact S
  rw[Y1 q1];have Sp1:Tu κ it (pendingOf j) (b.flatten++List.range' lo (N - lo)) j:=⟨S.ok,rfl⟩;have fl:b.flatten.length=lo:=by rw[S.segs.pm.length_eq,YO]
  have ris:RQ (List.range' lo (N - lo)):=List.pairwise_lt_range';have bR:∀r∈List.range' lo (N - lo),r < N:=fun r hr=>by rw[Uy]at hr;lia
  refine Ya (vE C Sp1 fl.symm (by simp) (by lia) ris bR fun m U i m1 m2 S2 sU pU=>?_);dsimp only;have tk:∀k,k <=N - lo->(List.range' lo (N - lo)).take k=List.range' lo k:=fun k hk=>by rw[List.take_range'_of_length_ge hk]
  have dp:∀k,k <=N - lo->(List.range' lo (N - lo)).drop k=List.range' (lo+ k) (N - (lo+ k)):=fun k hk=>by rw[List.drop_range',Nat.mul_one];congr 1;lia
  by_cases q2:m < minRun' N N 0
  case' pos=>
   rw[Y3 q2];refine Ya (VO (XF ⟨rfl,?_⟩));have lU:U.length=m:=by rw[pU.length_eq,tk m m2,UY]
   refine Ya (QW C S2 fl.symm lU.symm m1 (by lia) (by rw [lU, X2, UY]; lia) sU (ris.sublist (U4 _ _)) (fun u hu r hr => by
    have a:=pU.mem_iff.mp hu;rw[tk m m2,Uy]at a;rw[dp m m2,Uy]at hr;lia) (fun u hu=>by
    have a := pU.mem_iff.mp hu; rw [tk m m2, Uy] at a; lia) (fun r hr => bR r (Xo hr)) fun V v S3 sV pV => ?_)
   simp only[Bool.not_true,Bool.false_eq_true,if_false];have n1:m <=min (N - lo) (minRun' N N 0):=by lia
   have n2:min (N - lo) (minRun' N N 0) <=N - lo:=by lia
   generalize min (N - lo) (minRun' N N 0)=n at S3 pV n1 n2 ⊢;have o:Tu κ it (pendingOf j) (b.flatten++V++List.range' (lo+ n) (N - (lo+ n))) v:=by
    rw[List.drop_drop,show m+ (n - m)=n by lia,dp n n2]at S3;exact S3
   have aa:V.Perm (List.range' lo n):=by
    refine pV.trans ((pU.append_right _).trans ?_);rw[<-List.take_add,show m+ (n - m)=n by lia,tk n n2]
   have hn:1 <=n:=by lia
  case' neg=>
   rw[Y1 q2];have n2:=m2;have hn:=m1;have o:Tu κ it (pendingOf j) (b.flatten++U++List.range' (lo+ m) (N - (lo+ m))) i:=by rw[dp m m2]at S2;exact S2
   have aa:U.Perm (List.range' lo m):=by rw[tk m m2]at pU;exact pU
   have sV:=sU;clear S2 pU m1 m2 q2;generalize m=n at o aa n2 hn ⊢;generalize U=V at o aa sV;generalize i=v at o ⊢
  all_goals
   have S4:DX O key κ it lo b (V++List.range' (lo+ n) (N - (lo+ n))) v:=⟨by have:=o.1;rwa [List.append_assoc]at this,S.segs,by rw[o.pend];exact S.ents⟩;have fin:∀{d st'},DX O key κ it lo d (V++List.range' (lo+ n) (N - (lo+ n))) st'->d.length <=lo->DX O key κ it (lo+ n) (d++[V]) (List.range' (lo+ n) (N - (lo+ n))) (setPending st' ((pendingOf st').push (lo,n,0)))/\(d++[V]).length <=lo+ n:=fun {d st'} e l5=>by
    refine⟨⟨⟨e.ok.kind,e.ok.ok,?_⟩,e.segs.push aa sV hn,?_⟩,by simp;lia⟩
    .show arrOf st'=_;rw[show arrOf st'=_ from e.ok.arr,UP,Uu,List.append_assoc]
    .show NM 0 _ ((pendingOf st').push (lo,n,0)).toList;rw[Vd];refine e.ents.join ⟨?_,?_,trivial⟩
     .rw[e.segs.pm.length_eq,YO,Xk]
     .rw[aa.length_eq,UY]
   refine Ya (V4 ?_);cases hbk:(pendingOf v).back? with
   |none=>
    dsimp only;obtain⟨f1,f2⟩:=fin S4 l;exact Ya (UK (Yd ⟨lo+ n,_,rfl,f1,by lia,by lia,f2⟩))
   |some z=>
    obtain⟨z1,z2,z3⟩:=z;dsimp only;generalize power' N (2*z1+ z2) (2*z1+ z2+ z2+ n) N=pw;refine Ya (Xw (X4 (I:=fun x c st'=>∃d,c=(none,())/\DX O key κ it lo d (V++List.range' (lo+ n) (N - (lo+ n))) st'/\d.length <=lo) (Q:=fun c st'=>∃d,c=(none,())/\DX O key κ it lo d (V++List.range' (lo+ n) (N - (lo+ n))) st'/\d.length <=lo) ?_ (fun _ _ z=>z) ⟨b,rfl,S4,l⟩) ?_)
    .rintro x c f - hx ⟨d,rfl,e,l5⟩;refine Ya (V4 ?_);have pl:(pendingOf f).size=d.length:=by rw[<-Array.length_toList];exact e.ents.len
     by_cases q5:(pendingOf f).size > 1
     .rw[Y3 q5];cases hq:(pendingOf f)[(pendingOf f).size - 2]? with
      |none=>exact Yd ⟨d,rfl,e,l5⟩
      |some y=>
       obtain⟨y1,y2,y3⟩:=y;dsimp only
       split
       .exact Yd ⟨d,rfl,e,l5⟩
       .refine Ya (Ku C e hlo (by lia) fun gs6 st6 S6 l6=>?_);simp only[Bool.not_true,Bool.false_eq_true,if_false];exact Yd ⟨gs6,rfl,S6,by lia⟩
     .rw[Y1 q5];exact Yd ⟨d,rfl,e,l5⟩
    .rintro c f ⟨d, rfl, e, l5⟩;dsimp only;have S6 : DX O key κ it lo d (V ++ List.range' (lo + n) (N - (lo + n))) (setPending f ((pendingOf f).modify ((pendingOf f).size - 1) fun x => (x.1, x.2.1, pw))) := ⟨⟨e.ok.kind, e.ok.ok, e.ok.arr⟩, e.segs, by
      show NM 0 d ((pendingOf f).modify _ _).toList;rw [Array.toList_modify]; exact e.ents.pw⟩
     obtain⟨f1,f2⟩:=fin S6 l5;refine Ya (UK (Ya (UK (Yd ⟨lo+ n,_,rfl,f1,by lia,by lia,f2⟩))))
 .rintro c j ⟨lo,b,rfl,S,hlo,hxl,l⟩;obtain rfl:lo=N:=by lia
  refine⟨b,rfl,?_,l⟩;rw[WN]at S;exact S
 .rintro c j ⟨b,rfl,S,l⟩;dsimp only;refine Ya (Xw (X4 (I:=fun x c st'=>∃b,c=(none,())/\DX O key κ it N b [] st'/\b.length+ x <=N+ 1/\1 <=b.length) (Q:=fun c st'=>∃b,c=(none,())/\DX O key κ it N b [] st'/\b.length=1) ?_ ?_ ⟨b,rfl,S,by lia,?_⟩) ?_)
  .rintro x c i - hx ⟨b,rfl,S,hg,hg1⟩;refine Ya (V4 ?_);have pl:(pendingOf i).size=b.length:=by rw[<-Array.length_toList];exact S.ents.len
   rw[pl]
   by_cases q:b.length <=1
   .rw[Y3 q];exact Yd ⟨b,rfl,S,by lia⟩
   rw[Y1 q];generalize hb:(if b.length - 2 > 0 then Option.map (fun x=>x.2.1) (pendingOf i)[b.length - 2 - 1]? else none)=bf
   split
   all_goals
    refine Ya (Ku C S (Y7 _) ?_ fun d v S3 l3=>?_)
    .lia
    .simp only[Bool.not_true,Bool.false_eq_true,if_false];exact Yd ⟨d,rfl,S3,by lia,by lia⟩
  .rintro c i ⟨b,rfl,S,hg,hg1⟩;exact⟨b,rfl,S,by lia⟩
  .cases b with
   |nil=>have:=S.segs.pm.length_eq;simp at this;lia
   |cons=>simp
  .rintro c i ⟨b,rfl,S,hg⟩;refine Yd ?_
   match b,hg,S with
   |[g],_,S=>
    have:=S.ok;rw[List.append_nil,Uu]at this;have pm:=S.segs.pm;rw[Uu]at pm;exact h g _ this pm (S.segs.srt g (by simp)).1
end
section
variable{prog:WV}{w:WZ}{A:WY}{E:WR}{s:WW}{O:KeyOrd}{key:Nat->O.α}{κ:SortKind}{vs ks:J5}
theorem yG{p:List Nat}{n:Nat}(h:p.Pairwise (Pc O key))(hn:p.length=n):MS O key p.toArray n:=fun i j e f=>by
 unfold SK
 by_cases q:i=j
 .subst q;exact Xl _
 .have b:i < p.length:=by lia
  have a:j < p.length:=by lia
  have:=(X6.mp h i j b a (by lia)).le;have d:p.toArray.getD i 0=p[i]:=by simp[Array.getD,b]
  have c:p.toArray.getD j 0=p[j]:=by simp[Array.getD,a]
  rw[d,c];exact this
theorem v9{Q:SortSt->Shared->Prop}(hl:ks.length=vs.length)(h2:1 <=vs.length)(C:∀ (i j:Nat) (C':Bool->Shared->Prop),i < vs.length->j < vs.length->C' (NK O key i j) s->kas_ask prog w A κ ks i j C' s)
  (h:∀ (p:List Nat) st',arrOf st'=p.toArray.map (kas_item (ks.toArray.zip vs.toArray))->failedOf st'=none->p.Perm (List.range vs.length)->p.Pairwise (Pc O key)->Q st' s):
  wpAny (model prog w) A ((sortRuns').run (SortSt.mk' κ (ks.toArray.zip vs.toArray) #[] 7 none)) (fun r s'=>Q r.2 s') E s:=by
 have sz:(ks.toArray.zip vs.toArray).size=vs.length:=by simp[hl]
 have a : Tu κ (kas_item (ks.toArray.zip vs.toArray)) #[] (List.range vs.length) (SortSt.mk' κ (ks.toArray.zip vs.toArray) #[] 7 none) := ⟨⟨rfl, rfl, by
  have e := kas_range (ks.toArray.zip vs.toArray);rw [sz] at e;show ks.toArray.zip vs.toArray = _;rw [<- List.map_toArray]; exact e.symm⟩, rfl⟩
 have ok:Go prog w A s κ (kas_item (ks.toArray.zip vs.toArray)) vs.length (NK O key):=fun i j C' hi d f=>by
  have:=C i j C' hi d f;unfold kas_ask at this;rw[kat_item hl,kat_item hl];exact this
 have:=vU (E:=E) (Q:=fun _ st'=>Q st' s) ok a h2 fun p st' S c b=>h p st' (by rw[show arrOf st'=_ from S.arr,<-List.map_toArray]) S.ok c b
 unfold wpS at this;exact X1 this (fun r s' q=>by obtain⟨rfl,q⟩:=q;exact q) fun _ _ e=>e
end
end L2
namespace L2
open PySem PySem.Spec PyProof.Rows
end L2
namespace L2
open PySem PySem.Spec PyProof.Rows PySem.W
end L2
namespace L2
open PySem PySem.Spec PyProof.Rows
end L2
namespace L2
open PySem PySem.Spec PyProof.Rows PySem.W
section
variable{prog:WV}{w:WZ}{A:WY}{E:WR}{s:WW}{O:KeyOrd}{key:Nat->O.α}{κ:SortKind}{vs:J5}
theorem L5{a:J2}{n:Nat}{P:PySem.Fin->Shared->Prop}{h₀:J6}(ho:s.heap.get? a=some (seqObj "list" vs.toArray n))(ha0:h₀.objs.size <=a)(hk:∀b o,h₀.get? b=some o->s.heap.get? b=some o)
  (S:RB prog w h₀ O key κ vs) (h64:vs.length <=100000) (hu:A.units < cLine)
  (h:∀p:Array Nat,Js vs.length p->MS O key p vs.length->P (.done (.ret .none)) {s with heap:=sortedHeap s.heap a vs (List.toArray (p.toList.map fun i=>vs.getD i Value.none))}):
  wpAny (model prog w) A (Builtin.«list.sort» ⟨[.ref a],[]⟩) P E s:=by
 rw[list_sort_plain];have ha:a < s.heap.objs.size:=Yb ho;refine Y0 (listItems_at ho rfl ?_);refine Y0 (UL ho rfl ?_ (by rw[Yc,YR];lia) (Yv _));obtain⟨u,f⟩:∃u,(s.heap.update a (Obj.mapSeq fun _=>#[])).get? a=some (seqObj "list" #[] u):=⟨_,get?_update_seq ho (fun _=>#[])⟩;refine Y0 (Vi f rfl ?_);refine Y0 (VJ ?_ (by show vs.length <=_;rw[YR];lia));refine Y0 (Vn ?_ (Yv _));refine YJ ?_;have d:(((s.heap.update a (Obj.mapSeq fun _=>#[])).push (seqObj "tuple" vs.toArray 0)).push (seqObj "list" #[] 0)).get? a=some (seqObj "list" #[] u):=by
  rw[Xj _ _ _ (by rw[size_push',YK];exact Yo (XB ha)),Xj _ _ _ (by rw[YK];exact Yo ha)];exact f
 have keep:∀b o,h₀.get? b=some o->(((s.heap.update a (Obj.mapSeq fun _=>#[])).push (seqObj "tuple" vs.toArray 0)).push (seqObj "list" #[] 0)).get? b=some o:=fun b o q=>by
  have hb:b < h₀.objs.size:=Yb q;have z:=hk b o q;have g:b < s.heap.objs.size:=Yb z;rw[Xj _ _ _ (by rw[size_push',YK];exact Yo (XB g)),Xj _ _ _ (by rw[YK];exact Yo g),YV _ _ _ _ (Yo (Yx hb ha0))];exact z
 show wpAny (model prog w) A _ P E {s with heap:=((s.heap.update a (Obj.mapSeq fun _=>#[])).push (seqObj "tuple" vs.toArray 0)).push (seqObj "list" #[] 0)};dsimp only;have hsz:vs.toArray.size=vs.length:=by simp
 by_cases h2:vs.toArray.size < 2
 .rw[Y3 h2,Y3 h2];refine Y0 (Y2 ?_);rw[StateT.run_pure];refine Y0 (Y2 ?_);dsimp only;refine Y0 (Vi d rfl ?_);refine Y0 (UL d rfl ?_ (Yv _) (hsz2:=by rw[Array.size_map];show(pairsOf vs).size <=_;rw[pairsOf_size,YR];lia));simp only[Vc,Bool.false_eq_true,if_false];have e:Array.map (fun x:Keyed=>x.2) (vs.toArray.zip vs.toArray)=List.toArray ((List.toArray (List.range vs.length)).toList.map fun i=>vs.getD i Value.none):=by
   apply Wa.mp;simp only[LV];rw[Array.toList_map];show List.map (fun x:Keyed=>x.2) (vs.toArray.zip vs.toArray).toList=vs;rw[Array.toList_zip];show List.map Prod.snd (List.zip vs vs)=vs;rw[List.map_snd_zip];exact Y7 _
  have:=h (List.toArray (List.range vs.length)) (Wm _) (fun i j hij hj=>by obtain rfl:i=j:=(by lia);exact Xl _);rw[<-e]at this;exact Y2 this
 .rw[Y1 h2,Y1 h2];have h2':2 <=vs.length:=by lia
  refine Y0 (X1 (S.kind A _ (fun κ' s' => κ' = κ /\ s' = { s with heap := ((s.heap.update a (Obj.mapSeq fun _ => #[])).push (seqObj "tuple" vs.toArray 0)).push (seqObj "list" #[] 0) }) keep h2' ⟨rfl, rfl⟩) ?_ fun _ _ x => x.elim);rintro _ _ ⟨rfl, rfl⟩;refine Y0 (X1 (v9 (E := E) (O := O) (key := key) (Q := fun c s' => ∃ p : Array Nat, p.size = vs.length /\ arrOf c = p.map (kas_item (vs.toArray.zip vs.toArray)) /\ failedOf c = none /\ Js vs.length p /\ MS O key p vs.length /\ s' = { s with heap := ((s.heap.update a (Obj.mapSeq fun _ => #[])).push (seqObj "tuple" vs.toArray 0)).push (seqObj "list" #[] 0) })
   rfl (by lia) (fun i j C' hi hj hC => S.cmp A _ i j C' hu keep hi hj hC) fun p c a1 a2 v a4 => ⟨p.toArray, by rw [Yc, v.length_eq, YO], a1, a2, by unfold Js; exact XE.mpr (by simpa using v), yG a4 (by rw [v.length_eq, YO]), rfl⟩) ?_ fun _ _ e => e)
  rintro⟨⟨⟩,c⟩ s' ⟨p,hp,har,hf,b1,b2,rfl⟩;dsimp only;have r:=kat_snds rfl har;have l:(List.toArray (p.toList.map fun i=>vs.getD i Value.none)).size=vs.length:=by rw[Yc,Y4,Array.length_toList,hp]
  rw[r];refine Y0 (Vi d rfl ?_);refine Y0 (UL d rfl ?_ (Yv _) (YT (W8 l) (by rw[YR];lia)));rw[hf];simp only[Vc,Bool.false_eq_true,if_false];exact Y2 (h p b1 b2)
theorem jA{l:J2}{Q:WR}(hl:s.heap.IsList l vs.toArray)(S:RB prog w s.heap O key κ vs)(h64:vs.length <=100000)(hu:A.units+ 2 < cLine)
  (h:∀p:Array Nat,Js vs.length p->MS O key p vs.length->Q (.ref (s.heap.objs.size+ 1)) {s with heap:=sortedAll s.heap vs (List.toArray (p.toList.map fun i=>vs.getD i Value.none))}):
  wpAny (model prog w) A (call (.builtin "sorted") [.ref l]) Q E s:=by
 refine UR kind_sorted plain_sorted entry_sorted (args_sorted1 _) ?_;unfold Builtin.«sorted»;refine Y0 (m:=checkCount "sorted" 1 1 _) (Y2 ?_);refine Y0 (collect_list hl ?_ (by rw[YR];lia));refine Y0 (Vn ?_ (by rw[YR];lia));have a:((s.heap.push (seqObj "list" #[] 0)).update s.heap.objs.size (Obj.mapSeq (·++vs.toArray))).objs.size=s.heap.objs.size+ 1:=by
  rw[YK,size_push']
 have d:(((s.heap.push (seqObj "list" #[] 0)).update s.heap.objs.size (Obj.mapSeq (·++vs.toArray))).push (seqObj "list" vs.toArray 0)).get? (s.heap.objs.size+ 1)=some (seqObj "list" vs.toArray 0):=by
  rw[<-a];exact Yh _ rfl
 have keep:∀b o,s.heap.get? b=some o->(((s.heap.push (seqObj "list" #[] 0)).update s.heap.objs.size (Obj.mapSeq (·++vs.toArray))).push (seqObj "list" vs.toArray 0)).get? b=some o:=fun b o q=>by
  have c:b < s.heap.objs.size:=Yb q;rw[Xj _ _ _ (by rw[a];exact Yo (XB c)),YV _ _ _ _ (Yo c),Xj _ _ _ (Yo c)];exact q
 show wpAny _ _ _ _ _ {s with heap:=((s.heap.push (seqObj "list" #[] 0)).update s.heap.objs.size (Obj.mapSeq (·++vs.toArray))).push (seqObj "list" vs.toArray 0)};rw[a];refine Y0 (YJ (YX slot_list_sort ⟨_,d,rfl⟩ entry_list_sort (L5 (h₀:=s.heap) d (U7 _) keep S h64 (by show A.units+ 1+ 1 < cLine;lia) fun p f e=>⟨_,rfl,?_⟩) (args_list_sort _)));exact Y2 ⟨_,rfl,h p f e⟩
end
section
variable{X:Cx}{K:J0}
def AF(K:J0)(O:KeyOrd)(d:O.α)(RA:Hp->V->O.α->Prop):List V->Hp->VK->Prop:=fun as H Q=>∃ (p:J2) (xs:List V) (c:List O.α),as=[.ref p]/\Je K H p xs/\xs.length=c.length/\(∀ (i:Nat) (x:V) (q:O.α),xs[i]?=some x->c[i]?=some q->RA H x q)/\xs.length <=100000/\
 ∀ (r:List Nat) l G,r.Perm (List.range xs.length)->(r.map fun i=>c.getD i d).Pairwise (fun a b=>O.blt b a=false)->H l=none->J9 H G->G l=some (.lst (r.map fun i=>xs.getD i .non))->Q (.ref l) G
theorem y6{O:KeyOrd}{d:O.α}{κ:SortKind}{RA:Hp->V->O.α->Prop}{RV:Heap->Value->O.α->Prop}(h:X.K=K)(hu:X.A.units+ 64 < cLine)
  (hv:∀{pins s σ H x v q},Jb X pins σ H s->Jg x v->RA H x q->RV s.heap v q)
  (ask:∀{vs:J5} {c:List O.α} {h:J6},(∀ (i:Nat) v p,vs[i]?=some v->c[i]?=some p->RV h v p)->vs.length=c.length->RB X.prog X.w h O (fun i=>c.getD i d) κ vs):Jt X (.builtin "sorted") (AF K O d RA):=by
 subst h;intro pins s σ H xs us Q I r hh;obtain⟨p,xs,c,rfl,hq,hlc,hp,h64,q⟩:=hh;obtain⟨u,rfl,rx⟩:=R4 r;cases rx;obtain⟨a,j,pl,hz⟩:=I.list hq;have l:xs.length=a.length:=j.length;have aa:∀ (i:Nat) v q,a[i]?=some v->c[i]?=some q->RV s.heap v q:=fun i v q e1 e2=>by
  have hi:i < a.length:=(Y6.mp e1).1;have ex:xs[i]?=some (xs[i]'(by lia)):=Y5 (by lia);obtain⟨u,hu,ru⟩:=j.get (i:=i) (x:=_) ex;rw[e1]at hu;cases hu;exact hv I ru (hp i _ q ex e2)
 refine jA pl.isList (ask aa (by lia)) (by lia) (by lia) fun g a1 a2=>?_
 obtain⟨e,he⟩:=sortedAll_at s.heap a (List.toArray (g.toList.map fun i=>a.getD i Value.none));have hf:H (s.heap.objs.size+ 1)=none:=I.hok.fresh (U7 _);have f:g.toList.Perm (List.range xs.length):=by rw[l];exact XE.mp a1
 have hb:∀i∈g.toList,i < xs.length:=fun i hi=>by simpa using f.mem_iff.mp hi
 have n:(g.toList.map fun i=>xs.getD i .non).length <=sizeLine:=by
  rw[Y4,f.length_eq,YO];exact hz
 refine⟨.ref (s.heap.objs.size+ 1),upd H (s.heap.objs.size+ 1) (.lst (g.toList.map fun i=>xs.getD i .non)),I.laid (t':=s.toks) (fun b o z=>sortedAll_old z) (U7 _) ?_,rfl,q _ _ _ f (HA a1 a2) hf (ML hf) ND⟩;refine⟨n,g.toList.map fun i=>a.getD i Value.none,e,Ls j _ hb,?_⟩;simpa using he
end
section
variable{X:Cx}
theorem xP(hu:X.A.units+ 64 < cLine){pins:WU}{s:WW}{σ:St}{H:Hp}{Q:VK}{vs:J5}{as:List Addr}{c:List Ky}(I2:Jb X pins σ H s)(hvl:vs.length=c.length)(hal:as.length=c.length)(has:∀i,i < c.length->vs.getD i Value.none= .ref (as.getD i 0)/\H (as.getD i 0)=some (.tup (Me (c.getD i (0,"","")))))(h64:c.length <=100000)
  (q : ∀ (ks : List Ky) (ts : List Addr) l G, ks.Perm c -> ks.Pairwise (fun a b => TV b a = false) -> ts.length = ks.length -> (∀ (i : Nat) t k, ts[i]? = some t -> ks[i]? = some k -> H t = some (.tup (Me k))) -> H l = none -> J9 H G -> G l = some (.lst (ts.map V.ref)) -> Q (.ref l) G) : wpAny (model X.prog X.w) X.A.in1 (do
   let l <-newList vs
   let _ <-holding [l] (call (.builtin "list.sort") [l])
   ret l) (fun fin s' => ∃ v, fin = .done (.ret v) /\ EP X pins σ Q v s') X.xe s := by
 have hpr:∀ (i:Nat) v k,vs[i]?=some v->c[i]?=some k->N9 s.heap v k:=fun i v k z f=>by
  have hi:=(Y6.mp f).1;obtain⟨g1,g2⟩:=has i hi;rw[Yu,z]at g1;rw[Yu (l:=c),f]at g2;rw[show v=_ from g1];exact Ho I2 (JV.of g2)
 have hsl:vs.length <=sizeLine:=by rw[hvl,YR];lia
 refine Y0 (Vn ?_ hsl);have g:(s.heap.push (seqObj "list" vs.toArray 0)).get? s.heap.objs.size=some (seqObj "list" vs.toArray 0):=Yh _ rfl;have keep:∀b o,s.heap.get? b=some o->(s.heap.push (seqObj "list" vs.toArray 0)).get? b=some o:=fun b o q=>Y8 _ q
 have S:RB X.prog X.w s.heap DJ (fun i=>c.getD i (0,"","")) (tuples' (Value.type "int" !=Value.type "tuple")) vs:=Pn hpr (by lia);refine Y0 (YJ (YX slot_list_sort ⟨_,g,rfl⟩ entry_list_sort (L5 (h₀:=s.heap) g (Y7 _) keep S (by lia) (by show X.A.units+ 1+ 1 < cLine;lia) fun p a1 a2=>⟨_,rfl,?_⟩) (args_list_sort _)));obtain⟨e,he⟩:=sortedHeap_at (n:=0) (vs:=vs) (out:=(List.map (fun i=>vs.getD i Value.none) p.toList).toArray) g;have hf:H s.heap.objs.size=none:=I2.hok.fresh (Y7 _);have d:p.toList.Perm (List.range c.length):=by rw[show c.length=vs.length by lia];exact XE.mp a1
 have hb:∀i∈p.toList,i < c.length:=fun i hi=>by simpa using d.mem_iff.mp hi
 have h:Jd ((p.toList.map fun i=>as.getD i 0).map V.ref) (p.toList.map fun i=>vs.getD i Value.none):=by
  have:∀r:List Nat,(∀i∈r,i < c.length)->Jd ((r.map fun i=>as.getD i 0).map V.ref) (r.map fun i=>vs.getD i Value.none):=by
   intro r
   induction r with
   |nil=>exact fun _=>.nil
   |cons i r ih=>
    intro hr;refine .cons ?_ (ih fun j u=>hr j (.tail _ u));exact(has i (hr i (.head _))).1
  exact this _ hb
 have hln:(p.toList.map fun i=>as.getD i 0).length=c.length:=by rw[Y4,d.length_eq,YO]
 refine Y2 ⟨_,rfl,.ref s.heap.objs.size,upd H s.heap.objs.size (.lst ((p.toList.map fun i=>as.getD i 0).map V.ref)),I2.laid (t':=s.toks) (fun b o z'=>?_) (Y7 _) ?_,rfl,q (p.toList.map fun i=>c.getD i (0,"","")) _ _ _ ?_ (HA a1 a2) ?_ ?_ hf (ML hf) ND⟩
 .have aa:=Yb z';rw[sortedHeap_old (Yo aa) (by rw[Uz];exact XB aa)];exact Y8 _ z'
 .exact⟨by rw[Y4,hln,YR];lia,_,e,h,he⟩
 .have h1:=d.map fun i=>c.getD i ((0,"",""):Ky)
  have h2:(List.range c.length).map (fun i=>c.getD i ((0,"",""):Ky))=c:=by
   apply Wb
   .simp
   .intro i hi _;have:i < c.length:=by simpa using hi
    simp[this]
  rw[h2]at h1;exact h1
 .rw[Y4,Y4]
 .intro i t k z f;rw[Yf]at z f;obtain⟨j,u,rfl⟩:=YE.mp z;rw[u]at f;cases f;exact(has j (hb j (YB u))).2
end
def B5:KeyOrd where
 α:=Int
 blt a b:=decide (a < b)
 irrefl a:=by simp
 trans a b c:=by simp;lia
 negTrans a b c:=by simp;lia
 total a b:=by simp;lia
abbrev MT(w:WZ):Bool:=w.params.followText "set-order"
def Dv(w:WZ):Obj:={cls:=.type "set",data:=.set #[] 0 (SetTable.fresh 0 0 (!MT w))}
theorem SC:entryFor table "set.__iter__"=some Builtin.«frozenset.__iter__»:=entryFor_alias (id':="frozenset.__iter__") (by kernel_rfl) rfl (by kernel_rfl) (by kernel_rfl)
theorem Cf:entryFor table "set_iterator.__next__"=some Builtin.«set_iterator.__next__»:=entryFor_of_tree (by kernel_rfl)
section
variable{prog:WV}{w:WZ}{A:WY}{E:WR}{s:WW}
theorem w5(a:J1){Q₁:WR}(h:Q₁ (.ref s.heap.objs.size) {s with heap:=s.heap.push (Dv w)}):
  codeAny (model prog w) A (Code.call (.builtin "set.__new__") ⟨[.type "set",a],[]⟩) (wants Q₁ E) s:=by
 refine Wn (Y0 (Vg (F.newCall_set_1 a) (Y2 ⟨Ul F.plain_set_new _,XD F.entry_set_new ?_⟩)));rw[Xz F.plain_set_new];refine Y0 (Y0 (Y2 (Yn (by rfl) (Y0 (Vg sub_set_self (Yn (by rfl) (Y2 ?_)))))));refine Y0 ?_;unfold newSet;refine Y0 ?_;unfold setsByText;refine Y0 (Ud (Y2 ?_));refine X3 (Y2 ?_);exact h
theorem Zg{R:Result->Shared->Prop}{S I l:J2}{items:Array Value}{h₀:J6}{U:Nat}(hh:A.in1.handled=none)(hIl:l≠I)(hSI:S≠I)(hSl:S≠l)(h0S:h₀.objs.size <=S)(h0I:h₀.objs.size <=I)(hU:A.in1.units <=U)(J:Nat->Obj->Prop)
  (hs : ∀ (i : Nat) (v : Value) (o : Obj) (s' : Shared) (A' : Around) (E' : Value -> Shared -> Prop) (Q' : Bool -> Shared -> Prop), items[i]? = some v -> J i o -> s'.heap.get? S = some o -> (∀ b o, h₀.get? b = some o -> s'.heap.get? b = some o) -> A'.units <= U ->
   (∀ (b : Bool) (o' : Obj) (h' : Heap) (tk : Nat), J (i + 1) o' -> Heap.SameBut S s'.heap h' -> h'.get? S = some o' -> Q' b { s' with heap := h', toks := tk }) -> wpAny (model prog w) A' (setAdd S v) Q' E' s') :
  ∀ (k i:Nat) (s:WW),items.size - i=k->i <=items.size->s.heap.IsListIter I l i->s.heap.IsList l items->∀o,J i o->s.heap.get? S=some o->(∀b o,h₀.get? b=some o->s.heap.get? b=some o)->
   (∀ (o:Obj) (h':J6) (tk:Nat),J items.size o->h'.get? S=some o->(∀b o,h₀.get? b=some o->h'.get? b=some o)->R (.ok (.ret .none)) {s with heap:=h',toks:=tk})->
   codeAny (model prog w) A (Code.builtin "set.update.loop" ⟨[.ref S,.ref I],[]⟩) R s:=by
 have W:=Walks.list (prog:=prog) (w:=w) hh I l hIl items;intro k
 induction k with
 |zero=>
  intro i s c hi h1 h2 o n j keep p;obtain rfl:i=items.size:=by lia
  refine XD F.entry_set_update_loop ?_;rw[Xz V6];refine Y0 (W.done s _ _ ⟨h1,h2⟩ fun h' tk c=>Y2 ?_);exact p o h' tk n (c S o (by simp[hSI]) j) fun b o e=>c b o (by have:=Yb e;simp;lia) (keep b o e)
 |succ k ih=>
  intro i s c hi h1 h2 o n j keep p;have f:i < items.size:=by lia
  refine XD F.entry_set_update_loop ?_;rw[Xz V6];refine Y0 (W.item i s _ _ f ⟨h1,h2⟩ fun v h' tk hv d g=>?_);have u:∀b o,h₀.get? b=some o->h'.get? b=some o:=fun b o e=>g b o (by have:=Yb e;simp;lia) (keep b o e)
  refine Y0 (YJ (hs i v o _ _ _ _ hv n (g S o (by simp[hSI]) j) u hU fun bb o' h2' tk2 aa a z=>?_));refine Y2 ⟨Ul V6 _,ih (i+ 1) _ (by lia) f ?_ ?_ o' aa z ?_ ?_⟩
  .obtain⟨h,r,q⟩:=d.1;exact⟨h,(a.2 I (Ne.symm hSI)).trans r,q⟩
  .obtain⟨h,r,q⟩:=d.2;exact⟨h,(a.2 l (Ne.symm hSl)).trans r,q⟩
  .exact fun b o e=>(a.2 b (by have:=Yb e;lia)).trans (u b o e)
  .exact p
theorem Zn{l:J2}{items:Array Value}{Q:WR}(J:Nat->Obj->Prop)(hh:A.handled=none)(hl:s.heap.IsList l items)(h0:J 0 (Dv w))
  (hs : ∀ (i : Nat) (v : Value) (o : Obj) (s' : Shared) (A' : Around) (E' : Value -> Shared -> Prop) (Q' : Bool -> Shared -> Prop), items[i]? = some v -> J i o -> s'.heap.get? s.heap.objs.size = some o -> (∀ b o, s.heap.get? b = some o -> s'.heap.get? b = some o) -> A'.units <= A.units + 8 ->
   (∀ (b : Bool) (o' : Obj) (h' : Heap) (tk : Nat), J (i + 1) o' -> Heap.SameBut s.heap.objs.size s'.heap h' -> h'.get? s.heap.objs.size = some o' -> Q' b { s' with heap := h', toks := tk }) -> wpAny (model prog w) A' (setAdd s.heap.objs.size v) Q' E' s')
  (hQ:∀ (o:Obj) (h':J6) (tk:Nat),J items.size o->h'.get? s.heap.objs.size=some o->(∀b o,s.heap.get? b=some o->h'.get? b=some o)->Q (.ref s.heap.objs.size) {s with heap:=h',toks:=tk}):
  wpAny (model prog w) A (call (.type "set") [.ref l]) Q E s:=by
 obtain⟨c,tl,hmro⟩:=XW.mro;have hmade:=XW.made;have hsub:=XW.sub;refine WE (Wn ?_);show wpAny _ _ (callAny (.type "set") _) _ _ _;refine Y2 ⟨Code.quiet_builtin _ (by decide +kernel),XD F.entry_type_call ?_⟩;rw[Around.under_plain (weight_type_call_type "set" [Value.ref l] []) rfl];have h1:=XW.notType;have h2:=XW.canCreate;have hct:=F.typeCall_set_1 (Value.ref l)
 repeat (any_goals (first|assumption|wp_step))
 refine U9 (w5 (E:=E) (Q₁:=fun obj j=>obj= .ref s.heap.objs.size/\j={s with heap:=s.heap.push (Dv w)}) (.ref l) ⟨rfl,rfl⟩) fun r j n=>?_
 cases r with
 |error e=>exact n
 |ok fl=>
  cases fl with
  |ret obj=>
   obtain⟨rfl,rfl⟩:=(show obj= .ref s.heap.objs.size/\j={s with heap:=s.heap.push (Dv w)} from n);have hS:=Yh s.heap (o:=Dv w) rfl;have hT:(⟨s.heap.push (Dv w),s.gens,s.drawn,s.toks,s.os⟩:WW).TypeIs (.ref s.heap.objs.size) "set":=⟨_,hS,rfl⟩
   have hli:=XW.init.lookup;have hbi:=XW.init.bind (.ref s.heap.objs.size)
   repeat (any_goals (first|assumption|wp_step))
   obtain⟨z,f,h,nl,g⟩:=hl;have a:(s.heap.push (Dv w)).get? l=some z:=Y8 _ f;have hl1:(s.heap.push (Dv w)).IsList l items:=⟨_,a,h,nl,g⟩;refine U9 (VC (R:=wants (fun r q=>r= .none/\∃ (o:Obj) (h':J6) (tk:Nat),J items.size o/\h'.get? s.heap.objs.size=some o/\(∀b o,s.heap.get? b=some o->h'.get? b=some o)/\q={s with heap:=h',toks:=tk}) E) XW.init.plain F.entry_set_init (check_set_init_1 hT ?_)) fun r₂ q d=>?_
   .have hsls:=F.sub_list_set;have hslf:=F.sub_list_frozenset;obtain⟨ocls,odict,odata,u⟩:=z;cases h;cases g;unfold Builtin.«set.__init__»
    wp_walk using XC a,U1 hl1
    have p:(s.heap.push (Dv w)).objs.size=s.heap.objs.size+ 1:=size_push' ..;have hlt:l < s.heap.objs.size:=Yb f;have hI:((s.heap.push (Dv w)).push {cls:=.type "list_iterator",data:=.fields #[.ref l,.int 0 0]}).get? (s.heap.push (Dv w)).objs.size=some {cls:=.type "list_iterator",data:=.fields #[.ref l,.int 0 0]}:=Yh _ rfl;refine Zg (A:=A.in1.in1) (S:=s.heap.objs.size) (I:=(s.heap.push (Dv w)).objs.size) (l:=l) (items:=items) (h₀:=s.heap) (U:=A.units+ 8) hh (by rw[p];lia) (by rw[p];lia) (by lia) (Y7 _) (by rw[p];lia) (by show A.units+ 1+ 1+ 1 <=_;lia) J hs items.size 0 ⟨(s.heap.push (Dv w)).push {cls:=.type "list_iterator",data:=.fields #[.ref l,.int 0 0]},s.gens,s.drawn,s.toks,s.os⟩ rfl (Yv _) ⟨_,hI,rfl,rfl⟩ ⟨_,Y8 _ a,rfl,nl,rfl⟩ (Dv w) h0 (Y8 _ hS) (fun b o e=>by exact Y8 _ (Y8 _ e)) fun o h' tk a1 a2 a3=>?_
    exact Y2 (Y2 ⟨rfl,o,h',tk,a1,a2,a3,rfl⟩)
   .cases r₂ with
    |error e=>exact d
    |ok fl₂=>
     cases fl₂ with
     |ret r=>
      obtain⟨rfl,o,h',tk,j1,j2,j3,rfl⟩:=d
      repeat (any_goals (first|assumption|wp_step))
      exact hQ o h' tk j1 j2 j3
     |_=>exact d.elim
  |_=>exact n.elim
end
abbrev GG(xs:Array Nat):Prop:=xs.toList.Pairwise (· < ·)
theorem EB{xs:Array Nat}(h:GG xs){i k:Nat}(hik:i < k)(hk:k < xs.size)(d:Nat):xs.getD i d < xs.getD k d:=by
 have:=X6.mp h i k (by simpa using (by lia:i < xs.size)) (by simpa using hk) hik;simpa[Array.getD,hk,(by lia:i < xs.size)] using this
theorem jY{xs:Array Nat}(h:GG xs)(j:Nat):∀ (f lo hi:Nat),lo <=hi->hi <=xs.size->hi - lo <=f->(∀i,i < lo->xs.getD i j < j)->(∀i,hi <=i->i < xs.size->j <=xs.getD i j)->
  SetTable.below.go xs j f lo hi <=xs.size/\(∀i,i < SetTable.below.go xs j f lo hi->xs.getD i j < j)/\∀i,SetTable.below.go xs j f lo hi <=i->i < xs.size->j <=xs.getD i j:=by
 intro f
 induction f with
 |zero=>
  intro lo hi h1 h2 e b a;obtain rfl:lo=hi:=by lia
  rw[SetTable.below.go];exact⟨h2,b,a⟩
 |succ f ih=>
  intro lo hi h1 h2 e b a;rw[SetTable.below.go]
  by_cases hl:lo < hi
  .rw[Y3 hl];dsimp only
   by_cases hm:xs.getD ((lo+ hi) / 2) j < j
   .rw[Y3 hm];refine ih _ _ (by lia) h2 (by lia) (fun i c=>?_) a
    by_cases he:i=(lo+ hi) / 2
    .rw[he];exact hm
    .exact Nat.lt_trans (EB h (show i < (lo+ hi) / 2 by lia) (by lia) j) hm
   .rw[Y1 hm];refine ih _ _ (by lia) (by lia) (by lia) b fun i c d=>?_
    by_cases he:i=(lo+ hi) / 2
    .rw[he];lia
    .have:=EB h (show(lo+ hi) / 2 < i by lia) d j
     lia
  .rw[Y1 hl];obtain rfl:lo=hi:=by lia
   exact⟨h2,b,a⟩
theorem EW{xs:Array Nat}(h:GG xs)(j:Nat):SetTable.below xs j <=xs.size/\(∀i,i < SetTable.below xs j->xs.getD i j < j)/\∀i,SetTable.below xs j <=i->i < xs.size->j <=xs.getD i j:=
 jY h j xs.size 0 xs.size (Yv _) (Y7 _) (by lia) (fun i hi=>by lia) fun i a b=>by lia
theorem Qy{xs:Array Nat}(h:GG xs){j:Nat}(hj:xs[SetTable.below xs j]?≠some j):GG (SetTable.insertAt xs (SetTable.below xs j) j):=by
 obtain⟨p,n,f⟩:=EW h j;unfold GG;rw[UZ];have b:∀i (hi:i < xs.size),xs.getD i j=xs.toList[i]'(by simpa using hi):=fun i hi=>by simp[Array.getD,hi]
 refine Yl.mpr ⟨h.sublist (Uw ..),Xm.mpr ⟨fun x e=>?_,h.sublist (U4 ..)⟩,fun x e y d=>?_⟩
 .obtain⟨i,hi,rfl⟩:=Ug e;rw[List.getElem_drop];have a:SetTable.below xs j+ i < xs.size:=by simpa using (by rw[X2]at hi;lia:SetTable.below xs j+ i < xs.toList.length)
  have:=f (SetTable.below xs j+ i) (by lia) a;rw[b _ a]at this
  by_cases h0:i=0
  .subst h0;rw[show SetTable.below xs j+ 0=SetTable.below xs j from rfl]at a;have o:xs[SetTable.below xs j]≠j:=fun z=>hj (by rw[Yq a,z])
   simp at this ⊢
   lia
  .have h1:=EB h (show SetTable.below xs j < SetTable.below xs j+ i by lia) a j;have h2:=f (SetTable.below xs j) (Y7 _) (by lia);rw[b _ a]at h1
   lia
 .obtain⟨i,hi,rfl⟩:=Ug e;rw[Ym]at hi;have a:i < xs.size:=by simpa using (by lia:i < xs.toList.length)
  have h1:=n i (by lia);rw[b _ a]at h1;have l:(xs.toList.take (SetTable.below xs j))[i]'(by rw[Ym];exact hi)=xs.toList[i]'(by simpa using a):=List.getElem_take ..;rw[l];rcases Yp.mp d with rfl|d
  .exact h1
  .obtain⟨k,g,rfl⟩:=Ug d;rw[List.getElem_drop];have c:SetTable.below xs j+ k < xs.size:=by simpa using (by rw[X2]at g;lia:SetTable.below xs j+ k < xs.toList.length)
   have h2:=f (SetTable.below xs j+ k) (by lia) c;rw[b _ c]at h2
   lia
structure Ni(w:WZ)(t:SetTable):Prop where
 led:t.led= !MT w
 dum:t.dummies=#[]
 ris:GG t.place
theorem Fy(j:Nat):SetTable.has #[] j=false:=rfl
theorem PQ{t:SetTable}{j:Nat}(h:t.slot j= .empty):t.place[SetTable.below t.place j]?≠some j:=by
 unfold SetTable.slot at h;dsimp only at h;intro z;rw[Y3 (by rw[z];exact XR _)]at h;cases h
theorem Ni.put{w:WZ}{t:SetTable}(T:Ni w t){j:Nat}(hj:t.slot j= .empty):Ni w (t.put j).1:=by
 refine⟨T.led,?_,Qy T.ris (PQ hj)⟩;show(if SetTable.has t.dummies j=true then _ else t.dummies)=#[];rw[T.dum,Y1 (by rw[Fy];exact Yi)]
theorem Ni.laid{w:WZ}{t:SetTable}(T:Ni w t){hs:Array Int}{n:Nat}{t':SetTable}{o:Array Nat}(h:t.relaid hs n=some (t',o)):Ni w t':=by
 unfold SetTable.relaid SetTable.laid at h;obtain⟨f,_,h⟩:=Wi.mp h;cases h;refine⟨T.led,rfl,?_⟩;show List.Pairwise _ _;simp only[Uf];refine VZ.mpr (List.Pairwise.filterMap _ (R:=(· < ·)) (fun a i d b e g c=>?_) List.pairwise_lt_range);obtain⟨_,_,rfl⟩:=YE.mp e;obtain⟨_,_,rfl⟩:=YE.mp c;exact d
theorem Ni.plain{w:WZ}{t:SetTable}(T:Ni w t)(b:Bool):Ni w (if b=true then t else {t with plain:=false}):=by
 split
 .exact T
 .exact⟨T.led,T.dum,T.ris⟩
section
variable{prog:WV}{w:WZ}{A:WY}{E:WR}{s:WW}
theorem ON{o:Obj}{es:Array (Int×Value)}{ep:Nat}{t:SetTable}(hx:o.ExactSet):({cls:=o.cls,dict:=o.dict,data:=.set es ep t,slots:=o.slots}:Obj).isFreed=false:=by
 obtain⟨c,b,d,a⟩:=o;obtain⟨rfl,rfl,rfl⟩:=hx;rfl
end
theorem Jf:Slot "set_iterator" (Str.ofString "__next__") "set_iterator.__next__":=by
 refine Slot.of (owner:="set_iterator") (n:="__next__") (by rw[typeLookup_type,builtinLookup_eq_fast];kernel_rfl) (by kernel_rfl) (by kernel_rfl) (by kernel_rfl) (Or.inl (by kernel_rfl)) (by rw[Wz];kernel_rfl) (by kernel_rfl)
theorem Ch(a:J1):argsOk "set_iterator.__next__" ⟨[a],[]⟩:=by
 unfold argsOk
 first|kernel_rfl|(rw[signature?_of (id':="set_iterator.__next__") (by kernel_rfl)];kernel_rfl)|trace_state
def TR(f:J1)(i:Nat)(S:J2)(n ep:Nat):Obj:={cls:=.type "set_iterator",data:=.fields #[f,.int i 0,.ref S,.int n 0,.int ep 0]}
section
variable{prog:WV}{w:WZ}{A:WY}{E:WR}{s:WW}{S I:J2}{o:Obj}{es:Array (Int×Value)}{ep i:Nat}{t:SetTable}{f:J1}
theorem KA{Q:Bool->Shared->Prop}(hT:s.TypeIs (.ref S) "set")(h:Q false s):wpAny (model prog w) A (Builtin.List.listLengthHint (.ref S)) Q E s:=by
 unfold Builtin.List.listLengthHint;refine Y0 (Wl hT F.slot_set_len.lookup ?_);dsimp only;rw[show splitId "set.__len__"=some ("set","__len__") by kernel_rfl];refine Y0 (Ua hT XW.sub ?_);simp only[Bool.not_true,Bool.false_eq_true,if_false];exact X7 (by kernel_rfl) (Y0 (We hT (Y2 h)))
theorem Qd{α:Type}{xs:List α}{k:Nat}(h:k < xs.length):(xs[k]::xs.eraseIdx k).Perm xs:=by
 rw[List.eraseIdx_eq_take_drop_succ];refine List.perm_middle.symm.trans ?_;rw[List.getElem_cons_drop,YG]
theorem tN{α:Type}{Q:List α->Shared->Prop}:∀ (n:Nat) (xs:List α) (s:WW),xs.length <=n->(∀ys d,ys.Perm xs->Q ys {s with drawn:=d})->wpAny (model prog w) A (drawOrder n xs) Q E s:=by
 intro n
 induction n generalizing Q with
 |zero=>
  intro xs s g c;obtain rfl:xs=[]:=List.eq_nil_of_length_eq_zero (by lia);exact Y2 (c [] s.drawn (WA _))
 |succ n ih=>
  intro xs s g c;cases xs with
  |nil=>exact Y2 (c [] s.drawn (WA _))
  |cons x xs=>
   unfold drawOrder;refine Y0 (fun Γ p e=>?_);unfold choose;rw[Sem.wp_choose];refine⟨by simp,?_⟩;have b:(model prog w).w.draws Source.order (s.drawn.get Source.order)%(x::xs).length < (x::xs).length:=W3 _ (by simp);generalize (model prog w).w.draws Source.order (s.drawn.get Source.order)%(x::xs).length=k at b;refine Y2 (M:=model prog w) (A:=A) (a:=k) (Q:=fun i s'=>wpAny (model prog w) A _ Q E s') ?_ Γ p e;rw[Y5 b];refine Y0 (ih _ _ (by rw[VW b];lia) fun ys d f=>Y2 (c _ d ?_));exact(f.cons _).trans (Qd b)
theorem xE{Q:WR}(ho:s.heap.get? S=some o)(hx:o.ExactSet)(hd:o.data= .set es ep t)(hf:t.fits es.size=true)(hz:es.size <=5000)
  (hB:MT w=false->(t.plain=false/\1 < es.size)->∀ (ys:List Nat) d,ys.Perm (List.range es.size)->Q (.ref (s.heap.objs.size+ 1)) {s with drawn:=d,heap:=(s.heap.push {cls:=.type "tuple",data:=.seq (ys.map fun i:Nat=>Value.int (i:Int) 0).toArray 0}).push (TR (.ref s.heap.objs.size) 0 S es.size ep)})
  (hA:(MT w=true\/t.plain=true\/es.size <=1)->Q (.ref s.heap.objs.size) {s with heap:=s.heap.push (TR (.int 0 0) 0 S es.size ep)}):wpAny (model prog w) A (pyIter (.ref S)) Q E s:=by
 have c:s.TypeIs (.ref S) "set":=⟨o,ho,hx.1⟩
 refine VY c F.slot_set_iter (YX F.slot_set_iter c SC ?_ (F.args_set_iter_1 _));unfold Builtin.«frozenset.__iter__»;refine Y0 (Y0 (Y2 (Y2 ?_)));refine Y0 (Y0 (Y0 (YC ho hd hf (Y2 (Y2 ?_)))));unfold setDrawn setsByText;refine Y0 (Y0 (YC ho hd hf (Y0 (Y0 (Ud (Y2 (Y2 ?_)))))))
 by_cases hc:(!MT w && (!t.plain && decide (es.size > 1)))=true
 .simp only[X8,V8,Yg]at hc;refine X7 (Yk (show(!MT w && (!t.plain && decide (es.size > 1)))=true by simp[hc])) ?_;refine Y0 (tN _ _ _ (by simp) fun ys d a=>?_);refine Y0 (VJ ?_ (by rw[Y4,a.length_eq,YO,YR];dsimp only;lia));have b:(s.heap.push {cls:=.type "tuple",data:=.seq (ys.map fun i:Nat=>rawInt (i:Int)).toArray 0}).get? S=some o:=Y8 _ ho;refine Y0 (Y0 (YC b hd hf (Y2 ?_)));refine Y0 (X3 (Y2 ⟨_,rfl,"set_iterator",_,⟨_,Yh _ rfl,rfl⟩,Jf.lookup,?_⟩));have:=hB hc.1 hc.2 ys d a;rw[<-size_push' s.heap {cls:=.type "tuple",data:=.seq (ys.map fun i:Nat=>Value.int (i:Int) 0).toArray 0}]at this;exact this
 .refine Yn (Ys (show ¬(!MT w && (!t.plain && decide (es.size > 1)))=true from hc)) ?_;refine Y0 (Y2 (Y0 (Y0 (YC ho hd hf (Y2 ?_)))));refine Y0 (X3 (Y2 ⟨_,rfl,"set_iterator",_,⟨_,Yh _ rfl,rfl⟩,Jf.lookup,?_⟩));refine hA ?_;cases hb:MT w
  .cases a:t.plain
   .refine .inr (.inr ?_);simp[hb,a]at hc;exact hc
   .exact .inr (.inl rfl)
  .exact .inl rfl
theorem uM{h:J6}{f g:J1}{n k:Nat}(hit:h.get? I=some (TR f i S n ep)):((h.update I (Obj.mapFields (·.setIfInBounds 0 g))).update I (Obj.mapFields (·.setIfInBounds 1 (rawInt (k:Int))))).get? I=some (TR g k S n ep):=by
 have h1:(h.update I (Obj.mapFields (·.setIfInBounds 0 g))).get? I=some (TR g i S n ep):=by
  rw[YQ _ hit rfl];rfl
 rw[YQ _ h1 rfl];rfl
theorem QR{h:J6}{f:J1}{n k:Nat}(hit:h.get? I=some (TR f i S n ep)):(h.update I (Obj.mapFields (·.setIfInBounds 1 (rawInt (k:Int))))).get? I=some (TR f k S n ep):=by
 rw[YQ _ hit rfl];rfl
theorem LD{Q:Option Value->Shared->Prop}{slot nx:Nat}{x:J1}(hit:s.heap.get? I=some (TR (.int slot 0) i S es.size ep))(ho:s.heap.get? S=some o)(hd:o.data= .set es ep t)(hf:t.fits es.size=true)
  (hn:∀ (A':WY) (E':WR) (Q':Option (Value×Nat)->Shared->Prop),Q' (some (x,nx)) s->wpAny (model prog w) A' (setNext S slot i ep) Q' E' s)
  (hQ:∀h',h'.get? I=some (TR (.int nx 0) (i+ 1) S es.size ep)->Heap.SameBut I s.heap h'->Q (some x) {s with heap:=h'}):wpAny (model prog w) A (pyNext (.ref I)) Q E s:=by
 have c:s.TypeIs (.ref I) "set_iterator":=⟨_,hit,rfl⟩
 unfold pyNext;refine Y0 (XN (Xc (name:=Str.ofString "__next__") c Jf (YX Jf c Cf ?_ (Ch _))));unfold Builtin.«set_iterator.__next__»;refine Y0 (Y2 (Y0 (UC hit rfl ?_)));refine(?_:wpAny _ _ (setEntries S >>=_) _ _ _);refine Y0 (Y0 (YC ho hd hf (Y2 ?_)));refine Yn (by simp) ?_;refine Y0 ?_;simp only[YN];refine hn _ _ _ ?_;refine Y0 (XS hit rfl (by simp) ?_);have h1:(s.heap.update I (Obj.mapFields (·.setIfInBounds 0 (rawInt (nx:Int))))).get? I=some (TR (.int nx 0) i S es.size ep):=by
  rw[YQ _ hit rfl];rfl
 refine Y0 (XS h1 rfl (by simp) ?_);refine Y2 ⟨_,rfl,Y2 (hQ _ ?_ ?_)⟩
 .exact uM (g:=.int nx 0) (k:=i+ 1) hit
 .exact⟨by rw[YK,YK],fun b a=>by rw[YV _ _ _ _ a,YV _ _ _ _ a]⟩
theorem Q7{Q:Option Value->Shared->Prop}{slot:Nat}(hh:A.handled=none)(hit:s.heap.get? I=some (TR (.int slot 0) i S es.size ep))(ho:s.heap.get? S=some o)(hd:o.data= .set es ep t)(hf:t.fits es.size=true)
  (hn:∀ (A':WY) (E':WR) (Q':Option (Value×Nat)->Shared->Prop),Q' none s->wpAny (model prog w) A' (setNext S slot i ep) Q' E' s)
  (hQ:∀h',Heap.ExtBut I s.heap h'->Q none {s with heap:=h'}):wpAny (model prog w) A (pyNext (.ref I)) Q E s:=by
 have c:s.TypeIs (.ref I) "set_iterator":=⟨_,hit,rfl⟩
 unfold pyNext;refine Y0 (XN (Xc (name:=Str.ofString "__next__") c Jf (YX Jf c Cf ?_ (Ch _))));unfold Builtin.«set_iterator.__next__»;refine Y0 (Y2 (Y0 (UC hit rfl ?_)));refine(?_:wpAny _ _ (setEntries S >>=_) _ _ _);refine Y0 (Y0 (YC ho hd hf (Y2 ?_)));refine Yn (by simp) ?_;refine Y0 ?_;simp only[YN];refine hn _ _ _ ?_;refine Y0 (XS hit rfl (by simp) ?_);refine(?_:wpAny _ _ (newExc (.type "StopIteration") [] >>=_) _ _ _);refine Y0 ?_;simp only[newExc,newTuple];refine Y0 (X3 (Y0 (m:=firstArgMember _ _) (Vg (a:=Value.none) (by first|rfl|(simp only[firstArgMember];rfl)) (X3 ?_ (by size_fits)))) (by size_fits));simp only[raiseNew];refine Y0 (wpAny_handled ?_);rw[show A.in1.handled=none from hh];refine Y0 (Y2 (wpAny_throw ?_));exact Y0 (Ua (T:="StopIteration") (b:=true) ⟨_,Yh _ rfl,rfl⟩ VL (Y2 (hQ _ (((XQ ..).extBut.push _).push _))))
theorem OC{Q:Option (Value×Nat)->Shared->Prop}{slot:Nat}(hb:MT w=true)(ho:s.heap.get? S=some o)(hd:o.data= .set es ep t)(hf:t.fits es.size=true)(hQ:Q ((pickOrder (w.params.setOrder S ep) es)[i]?.map fun e=>(e.2,slot)) s):wpAny (model prog w) A (setNext S slot i ep) Q E s:=by
 unfold setNext setsByText;refine Y0 (YC ho hd hf (Y0 (Y0 (Ud (Y2 ?_)))));refine X7 (Yk (show MT w=true from hb)) ?_;refine Yn (by simp) ?_;unfold setWalk setsByText;refine Y0 (Y0 (YC ho hd hf (Y0 (Y0 (Ud (Y2 ?_))))));refine X7 (Yk (show MT w=true from hb)) ?_;exact Y0 (Ud (Y2 (Y2 hQ)))
theorem KQ{Q:Option (Value×Nat)->Shared->Prop}{slot:Nat}(hb:MT w=false)(hp:t.plain=true\/es.size <=1)(hl:t.led=true)(ho:s.heap.get? S=some o)(hd:o.data= .set es ep t)(hf:t.fits es.size=true)
  (hQ:Q (match es[SetTable.below t.place slot]?,t.place[SetTable.below t.place slot]? with|some (_,x),some j=>some (x,j+ 1)|_,_=>none) s):wpAny (model prog w) A (setNext S slot i ep) Q E s:=by
 unfold setNext setsByText;refine Y0 (YC ho hd hf (Y0 (Y0 (Ud (Y2 ?_)))));refine Yn (Ys (show ¬MT w=true by simp[hb])) ?_;refine Yn (Ys (show ¬(!t.plain && decide (es.size > 1))=true from fun z=>?_)) ?_
 .simp only[X8,V8,Yg]at z;rcases hp with hp|hp
  .rw[hp]at z;cases z.1
  .lia
 refine Y0 (Yn (Ys (show ¬(!t.led && !es.isEmpty)=true by simp[hl])) (Y2 ?_));exact Y2 hQ
end
theorem Oz:Slot "set_iterator" (Str.ofString "__iter__") "set_iterator.__iter__":=
 Slot.of (owner:="set_iterator") (n:="__iter__") (by rw[typeLookup_type,builtinLookup_eq_fast];kernel_rfl) (by kernel_rfl) (by kernel_rfl) (by kernel_rfl) (Or.inl (by kernel_rfl)) (by rw[Wz];kernel_rfl) (by kernel_rfl)
theorem w6:entryFor table "set_iterator.__iter__"=some Builtin.«dict_keyiterator.__iter__»:=entryFor_alias (id':="dict_keyiterator.__iter__") (by kernel_rfl) rfl (by kernel_rfl) (by kernel_rfl)
theorem yF(a:J1):argsOk "set_iterator.__iter__" ⟨[a],[]⟩:=by
 unfold argsOk;kernel_rfl
theorem wD{α:Type}(next:Nat->Nat):∀ (f k:Nat) (left:List α) (out:Array α),left.length <=f->(pickOrder.go next f k left out).toList.Perm (out.toList++left):=by
 intro f
 induction f with
 |zero=>
  intro k left out h;obtain rfl:left=[]:=List.eq_nil_of_length_eq_zero (by lia);rw[pickOrder.go,List.append_nil]
 |succ f ih=>
  intro k left out h;rw[pickOrder.go];cases left with
  |nil=>simp
  |cons x xs=>
   have a:next k%(x::xs).length < (x::xs).length:=W3 _ (by simp);generalize next k%(x::xs).length=j at a;rw[Y5 a];dsimp only;refine(ih _ _ _ (by rw[VW a];lia)).trans ?_;rw[Vd,List.append_assoc];exact(Qd a).append_left _
theorem Ab{α:Type}(next:Nat->Nat)(xs:Array α):(pickOrder next xs).toList.Perm xs.toList:=by
 have:=wD next xs.size 0 xs.toList #[] (by simp);simpa[pickOrder] using this
theorem nC{xs:Array Nat}(h:GG xs):SetTable.below xs 0=0:=by
 obtain⟨_,a,_⟩:=EW h 0;rcases Nat.eq_zero_or_pos (SetTable.below xs 0) with e|e
 .exact e
 .have:=a 0 e;lia
theorem xX{xs:Array Nat}(h:GG xs){i:Nat}(hi:i < xs.size):SetTable.below xs (xs[i]+ 1)=i+ 1:=by
 obtain⟨f,b,a⟩:=EW h (xs[i]+ 1);have e:∀d,xs.getD i d=xs[i]:=fun d=>by simp[Array.getD,hi]
 rcases Ve (SetTable.below xs (xs[i]+ 1)) (i+ 1) with c|c|c
 .have:=a i (by lia) hi;rw[e]at this;lia
 .exact c
 .have h1:=b (i+ 1) c;have h2:=EB h (Vo i) (show i+ 1 < xs.size by lia) (xs[i]+ 1);rw[e]at h2;lia
section
variable{prog:WV}{w:WZ}{A:WY}{E:WR}{s:WW}{S I T0:J2}{o:Obj}{es:Array (Int×Value)}{ep i:Nat}{t:SetTable}{f:J1}
theorem nM{Q:Option Value->Shared->Prop}{ys:List Nat}{k:Nat}{e:Int×Value}(hit:s.heap.get? I=some (TR (.ref T0) i S es.size ep))(h0:s.heap.get? T0=some {cls:=.type "tuple",data:=.seq (ys.map fun i:Nat=>Value.int (i:Int) 0).toArray 0})(ho:s.heap.get? S=some o)(hd:o.data= .set es ep t)(hf:t.fits es.size=true)(hk:ys[i]?=some k)(he:es[k]?=some e)
  (hQ:∀h',h'.get? I=some (TR (.ref T0) (i+ 1) S es.size ep)->Heap.SameBut I s.heap h'->Q (some e.2) {s with heap:=h'}):wpAny (model prog w) A (pyNext (.ref I)) Q E s:=by
 have a:s.TypeIs (.ref I) "set_iterator":=⟨_,hit,rfl⟩
 unfold pyNext;refine Y0 (XN (Xc (name:=Str.ofString "__next__") a Jf (YX Jf a Cf ?_ (Ch _))));unfold Builtin.«set_iterator.__next__»;refine Y0 (Y2 (Y0 (UC hit rfl ?_)));refine(?_:wpAny _ _ (setEntries S >>=_) _ _ _);refine Y0 (Y0 (YC ho hd hf (Y2 ?_)));refine Yn (by simp) ?_;refine(?_:wpAny _ _ (seqItems? (.ref T0) >>=_) _ _ _);refine Y0 (Y0 (Vw h0 (Y2 ?_)));have d:(ys.map fun i:Nat=>Value.int (i:Int) 0).toArray[i]?=some (.int k 0):=by simp[hk]
 simp only[YN,d];unfold setNextDrawn;refine Y0 (Y0 (YC ho hd hf ?_));refine Yn (by simp) ?_;simp only[YN,he];refine Y2 ?_;refine Y0 (XS hit rfl (by simp) ?_);refine Y2 ⟨_,rfl,Y2 (hQ _ ?_ ?_)⟩
 .exact QR (k:=i+ 1) hit
 .exact⟨by rw[YK],fun b c=>by rw[YV _ _ _ _ c]⟩
theorem ZJ{Q:Option Value->Shared->Prop}{ys:List Nat}(hh:A.handled=none)(hit:s.heap.get? I=some (TR (.ref T0) i S es.size ep))(h0:s.heap.get? T0=some {cls:=.type "tuple",data:=.seq (ys.map fun i:Nat=>Value.int (i:Int) 0).toArray 0})(ho:s.heap.get? S=some o)(hd:o.data= .set es ep t)(hf:t.fits es.size=true)(hk:ys[i]?=none)
  (hQ:∀h',Heap.ExtBut I s.heap h'->Q none {s with heap:=h'}):wpAny (model prog w) A (pyNext (.ref I)) Q E s:=by
 have d:s.TypeIs (.ref I) "set_iterator":=⟨_,hit,rfl⟩
 unfold pyNext;refine Y0 (XN (Xc (name:=Str.ofString "__next__") d Jf (YX Jf d Cf ?_ (Ch _))));unfold Builtin.«set_iterator.__next__»;refine Y0 (Y2 (Y0 (UC hit rfl ?_)));refine(?_:wpAny _ _ (setEntries S >>=_) _ _ _);refine Y0 (Y0 (YC ho hd hf (Y2 ?_)));refine Yn (by simp) ?_;refine(?_:wpAny _ _ (seqItems? (.ref T0) >>=_) _ _ _);refine Y0 (Y0 (Vw h0 (Y2 ?_)));have f:(ys.map fun i:Nat=>Value.int (i:Int) 0).toArray[i]?=none:=by
  simpa using hk
 simp only[YN,f];refine Y0 (XS hit rfl (by simp) ?_);have h1:(s.heap.update I (Obj.mapFields (·.setIfInBounds 0 (rawInt 0)))).get? I=some (TR (.int 0 0) i S es.size ep):=by
  rw[YQ _ hit rfl];rfl
 refine Y0 (XS h1 rfl (by simp) ?_);refine(?_:wpAny _ _ (newExc (.type "StopIteration") [] >>=_) _ _ _);refine Y0 ?_;simp only[newExc,newTuple];refine Y0 (X3 (Y0 (m:=firstArgMember _ _) (Vg (a:=Value.none) (by first|rfl|(simp only[firstArgMember];rfl)) (X3 ?_ (by size_fits)))) (by size_fits));simp only[raiseNew];refine Y0 (wpAny_handled ?_);rw[show A.in1.handled=none from hh];refine Y0 (Y2 (wpAny_throw ?_));refine Y0 (Ua (T:="StopIteration") (b:=true) ⟨_,Yh _ rfl,rfl⟩ VL (Y2 (hQ _ (Heap.ExtBut.push (Heap.ExtBut.push (fun b o c e=>?_) _) _))));rw[YV _ _ _ _ c,YV _ _ _ _ c];exact e
theorem Ip{Q:WR}(h:s.heap.get? I=some (TR f i S es.size ep))(hQ:Q (.ref I) s):wpAny (model prog w) A (pyIter (.ref I)) Q E s:=by
 have a:s.TypeIs (.ref I) "set_iterator":=⟨_,h,rfl⟩
 exact VY a Oz (YX Oz a w6 (Y2 ⟨_,rfl,"set_iterator",_,a,Jf.lookup,hQ⟩) (yF _))
variable(hh:A.handled=none)(hSI:S≠I)(hd:o.data= .set es ep t)(hf:t.fits es.size=true)
include hh hSI hd hf
theorem Qj(hb:MT w=true):Walks prog w A I [I,S] [I] es.size (fun i v=>((pickOrder (w.params.setOrder S ep) es).toList.map (·.2))[i]?=some v) (fun i h=>h.get? I=some (TR (.int 0 0) i S es.size ep)/\h.get? S=some o) where
 sub:=fun b hb=>by simp at hb;simp[hb]
 frame:=fun _ _ _ st c=>⟨c I (by simp) _ st.1,c S (by simp) _ st.2⟩
 item:=fun i s Q E hi st a=>by
  have f:(pickOrder (w.params.setOrder S ep) es).size=es.size:=by simpa using (Ab (w.params.setOrder S ep) es).length_eq
  have d:(pickOrder (w.params.setOrder S ep) es)[i]?=some ((pickOrder (w.params.setOrder S ep) es)[i]'(by lia)):=Yq (by lia);refine LD (slot:=0) (nx:=0) (x:=((pickOrder (w.params.setOrder S ep) es)[i]'(by lia)).2) st.1 st.2 hd hf (fun n l j h=>OC hb st.2 hd hf (by rw[d];exact h)) fun h' h1 h2=>?_
  exact a _ h' s.toks (by rw[Yf,Array.getElem?_toList,d];rfl) ⟨h1,(h2.2 S hSI).trans st.2⟩ fun b o hb e=>(h2.2 b (by simpa using hb)).trans e
 done:=fun s Q E st a=>by
  have f:(pickOrder (w.params.setOrder S ep) es).size=es.size:=by simpa using (Ab (w.params.setOrder S ep) es).length_eq
  exact Q7 (slot:=0) hh st.1 st.2 hd hf (fun n l j h=>OC hb st.2 hd hf (by rw[Us (by lia)];exact h)) fun h' g=>a h' s.toks fun b o hb e=>g b o (by simpa using hb) e
 self:=fun _ _ _ _ st a=>Ip st.1 a
theorem Qz(hb:MT w=false)(hp:t.plain=true\/es.size <=1)(T:Ni w t):Walks prog w A I [I,S] [I] es.size (fun i v=>(es.toList.map (·.2))[i]?=some v) (fun i h=>(∃slot:Nat,h.get? I=some (TR (.int slot 0) i S es.size ep)/\SetTable.below t.place slot=i)/\h.get? S=some o) where
 sub:=fun b hb=>by simp at hb;simp[hb]
 frame:=fun _ _ _ st g=>⟨st.1.imp fun _ q=>⟨g I (by simp) _ q.1,q.2⟩,g S (by simp) _ st.2⟩
 item:=fun i s Q E hi st c=>by
  obtain⟨⟨slot,h1,h2⟩,a⟩:=st;have f:t.led=true:=by rw[T.led,hb];rfl
  have z:t.place.size=es.size:=by
   have:=hf;unfold SetTable.fits at this;simp at this;exact this.1
  have d:i < t.place.size:=by lia
  refine LD (slot:=slot) (nx:=t.place[i]+ 1) (x:=es[i].2) h1 a hd hf (fun u r p h=>KQ hb hp f a hd hf (by rw[h2,Yq hi,Yq d];exact h)) fun h' n j=>?_
  exact c _ h' s.toks (by rw[Yf,Array.getElem?_toList,Yq hi];rfl) ⟨⟨_,n,xX T.ris d⟩,(j.2 S hSI).trans a⟩ fun b o hb e=>(j.2 b (by simpa using hb)).trans e
 done:=fun s Q E st c=>by
  obtain⟨⟨slot,h1,h2⟩,a⟩:=st;have f:t.led=true:=by rw[T.led,hb];rfl
  exact Q7 (slot:=slot) hh h1 a hd hf (fun u r p h=>KQ hb hp f a hd hf (by rw[h2,Us (Y7 _)];exact h)) fun h' l=>c h' s.toks fun b o hb e=>l b o (by simpa using hb) e
 self:=fun _ _ _ _ st c=>by obtain⟨⟨slot,h1,h2⟩,a⟩:=st;exact Ip h1 c
theorem y9{ys:List Nat}(hT0:T0≠I)(hy:ys.Perm (List.range es.size)):Walks prog w A I [I,S,T0] [I] es.size (fun i v=>(ys.map fun k=>(es.toList.map (·.2)).getD k .none)[i]?=some v) (fun i h=>h.get? I=some (TR (.ref T0) i S es.size ep)/\h.get? T0=some {cls:=.type "tuple",data:=.seq (ys.map fun i:Nat=>Value.int (i:Int) 0).toArray 0}/\h.get? S=some o) where
 sub:=fun b c=>by simp at c;simp[c]
 frame:=fun _ _ _ st a=>⟨a I (by simp) _ st.1,a T0 (by simp) _ st.2.1,a S (by simp) _ st.2.2⟩
 item:=fun i s Q E hi st d=>by
  have g:ys.length=es.size:=by rw[hy.length_eq,YO]
  have f:ys[i]?=some (ys[i]'(by lia)):=Y5 (by lia);have a:ys[i]'(by lia) < es.size:=by simpa using hy.mem_iff.mp (XG (l:=ys) (n:=i) (by lia))
  refine nM st.1 st.2.1 st.2.2 hd hf f (Yq a) fun h' h1 h2=>?_
  refine d _ h' s.toks ?_ ⟨h1,(h2.2 T0 hT0).trans st.2.1,(h2.2 S hSI).trans st.2.2⟩ fun b o c e=>(h2.2 b (by simpa using c)).trans e
  rw[Yf,f];simp[Yu,a]
 done:=fun s Q E st d=>by
  have g:ys.length=es.size:=by rw[hy.length_eq,YO]
  exact ZJ hh st.1 st.2.1 st.2.2 hd hf (Xa (by lia)) fun h' j=>d h' s.toks fun b o c e=>j b o (by simpa using c) e
 self:=fun _ _ _ _ st d=>Ip st.1 d
end
section
variable{prog:WV}{w:WZ}{A:WY}{E:WR}{s:WW}{S:J2}{o:Obj}{es:Array (Int×Value)}{ep:Nat}{t:SetTable}
theorem Ov{L:J2}{c:Nat}{Q:WT}(h:s.heap.get? L=some {cls:=.type "list",data:=.seq #[] c})
  (hQ:∀ (h':J6) (c':Nat),Heap.SameBut L s.heap h'->h'.get? L=some {cls:=.type "list",data:=.seq #[] c'}->Q () {s with heap:=h'}):wpAny (model prog w) A (Builtin.List.listTouch (.ref L)) Q E s:=by
 unfold Builtin.List.listTouch;refine Y0 (wpAny_updateSeq h rfl ?_);have h2:=YQ (Obj.mapSeq fun x=>x.push Value.none) h rfl;refine wpAny_updateSeq h2 rfl ?_;have d:=YQ (Obj.mapSeq fun x=>x.pop) h2 rfl;exact hQ _ _ ⟨by rw[YK,YK],fun b a=>by rw[YV _ _ _ _ a,YV _ _ _ _ a]⟩ d
theorem Io{I L:J2}{n:Nat}{fp:List Addr}{P:Nat->Value->Prop}{St:Nat->Heap->Prop}{vs:J5}{h1:J6}{c:Nat}{res:J1}{RR:Result->Shared->Prop}(W:Walks prog w A.in1 I fp [I] n P St)(hn:n <=5000)(hLf:L∉fp)(st:St 0 h1)(hL:h1.get? L=some {cls:=.type "list",data:=.seq #[] c})(hP:∀i v,P i v->vs[i]?=some v)(hl:vs.length=n)
  (hRR:∀ (h':J6) (tk c':Nat),(∀b o,b≠L->b≠I->h1.get? b=some o->h'.get? b=some o)->h'.get? L=some {cls:=.type "list",data:=.seq vs.toArray c'}->RR (.ok (.ret res)) {s with heap:=h',toks:=tk}):
  codeAny (model prog w) A (Code.builtin "list.extend.loop" ⟨[.ref L,.ref I,res],[]⟩) RR {s with heap:=h1}:=by
 refine codeAny_extend_loopS W.toS (by rw[YR];lia) L hLf _ n 0 _ #[] c rfl (Yv _) st hL (ItemsOf.nil _) fun s' d c' f g a=>?_
 have e:d.toList=vs:=by
  refine V9 fun i=>?_
  by_cases hi:i < d.size
  .rw[Array.getElem?_toList,Yq hi];exact(hP i _ (a.2 i _ (Yq hi))).symm
  .rw[Xa (by simp;lia),Xa (by have:=a.1;lia)]
 rw[f.eq_with];refine hRR s'.heap s'.toks c' (fun b o j h e=>f.heap b o (by simp[j,h]) e) ?_;rw[<-e];exact g
theorem jD(hh:A.handled=none)(ho:s.heap.get? S=some o)(hx:o.ExactSet)(hd:o.data= .set es ep t)(hf:t.fits es.size=true)(T:Ni w t)(hz:es.size <=5000){R:List Value->Shared->Prop}
  (hR:∀ (h':J6) (tk:Nat) (d:Drawn) (vs:J5),(∀b o,s.heap.get? b=some o->h'.get? b=some o)->vs.Perm (es.toList.map (·.2))->R vs {s with heap:=h',toks:=tk,drawn:=d}):wpAny (model prog w) A (collect (.ref S)) R E s:=by
 unfold collect;refine Y0 (wpAny_runValue (XD entry_proto_collect' ?_));rw [Xz F.plain_proto_collect];unfold Builtin.«proto.collect»;refine Y0 (X3 (Y2 ⟨Ul F.plain_list_iadd _, XD entry_list_iadd' ?_⟩));rw [Xz F.plain_list_iadd];have hS1 : (s.heap.push { cls := .type "list", data := .seq #[] 0 }).get? s.heap.objs.size = some { cls := .type "list", data := .seq #[] 0 } := Yh _ rfl;have g : (s.heap.push { cls := .type "list", data := .seq #[] 0 }).get? S = some o := Y8 _ ho;have hlt := Yb ho;have r : ∀ (h' : Heap) (tk : Nat) (d : Drawn) (u : Array Value) (n : Nat), (∀ b o, s.heap.get? b = some o -> h'.get? b = some o) -> h'.get? s.heap.objs.size = some { cls := .type "list", data := .seq u n } -> u.toList.Perm (es.toList.map (·.2)) -> wpAny (model prog w) A (do
   let __do_lift <-load s.heap.objs.size
   match __do_lift.data with
    |Data.seq xs epoch=>pure xs.toList
    | x => unsupported "internal:collect") R E { s with heap := h', toks := tk, drawn := d } := fun h' tk d u n a1 a2 a3 => Y0 (Vw a2 (Y2 (hR h' tk d _ a1 a3)))
 unfold Builtin.«list.__iadd__»;refine Y0 (Y2 ?_);refine(?_:wpAny _ _ (Builtin.List.listExtendWith (.ref s.heap.objs.size) (.ref S) (.ref s.heap.objs.size)) _ _ _);unfold Builtin.List.listExtendWith;have hT1:(⟨s.heap.push {cls:=.type "list",data:=.seq #[] 0},s.gens,s.drawn,s.toks,s.os⟩:WW).TypeIs (.ref S) "set":=⟨o,g,hx.1⟩
 refine Y0 (We hT1 ?_);have hne:(Builtin.List.listSameRef (.ref s.heap.objs.size) (.ref S))=false:=by
  show(s.heap.objs.size==S)=false;simp;lia
 simp only[hne,show(Value.type "set"==Value.type "list")=false from rfl,show(Value.type "set"==Value.type "tuple")=false from rfl,VT,Bool.false_eq_true,if_false];refine Y0 (xE (A:=A.in1) g hx hd hf hz (fun z hp ys d hy=>?_) fun hc=>?_)
 .have j:∀b o,(s.heap.push {cls:=.type "list",data:=.seq #[] 0}).get? b=some o->(((s.heap.push {cls:=.type "list",data:=.seq #[] 0}).push {cls:=.type "tuple",data:=.seq (ys.map fun i:Nat=>Value.int (i:Int) 0).toArray 0}).push (TR (.ref (s.heap.push {cls:=.type "list",data:=.seq #[] 0}).objs.size) 0 S es.size ep)).get? b=some o:=fun b o e=>Y8 _ (Y8 _ e)
  have f:(s.heap.push {cls:=.type "list",data:=.seq #[] 0}).objs.size=s.heap.objs.size+ 1:=size_push' ..;have hI:(((s.heap.push {cls:=.type "list",data:=.seq #[] 0}).push {cls:=.type "tuple",data:=.seq (ys.map fun i:Nat=>Value.int (i:Int) 0).toArray 0}).push (TR (.ref (s.heap.push {cls:=.type "list",data:=.seq #[] 0}).objs.size) 0 S es.size ep)).get? ((s.heap.push {cls:=.type "list",data:=.seq #[] 0}).objs.size+ 1)=some (TR (.ref (s.heap.push {cls:=.type "list",data:=.seq #[] 0}).objs.size) 0 S es.size ep):=by
   rw[<-size_push' (s.heap.push {cls:=.type "list",data:=.seq #[] 0}) {cls:=.type "tuple",data:=.seq (ys.map fun i:Nat=>Value.int (i:Int) 0).toArray 0}];exact Yh _ rfl
  have hT0:(((s.heap.push {cls:=.type "list",data:=.seq #[] 0}).push {cls:=.type "tuple",data:=.seq (ys.map fun i:Nat=>Value.int (i:Int) 0).toArray 0}).push (TR (.ref (s.heap.push {cls:=.type "list",data:=.seq #[] 0}).objs.size) 0 S es.size ep)).get? (s.heap.push {cls:=.type "list",data:=.seq #[] 0}).objs.size=some {cls:=.type "tuple",data:=.seq (ys.map fun i:Nat=>Value.int (i:Int) 0).toArray 0}:=Y8 _ (Yh _ rfl);refine Y0 (YJ (KA ⟨o,j _ _ g,hx.1⟩ ?_));refine X7 (by kernel_rfl) (Y0 (XF (Y0 (Ov (j _ _ hS1) fun h2 c2 c p=>Y2 ⟨Ul F.plain_extend_loop _,?_⟩))));have hyl:ys.length=es.size:=by rw[hy.length_eq,YO]
  have W:=y9 (prog:=prog) (w:=w) (A:=A.in1) (I:=(s.heap.push {cls:=.type "list",data:=.seq #[] 0}).objs.size+ 1) (T0:=(s.heap.push {cls:=.type "list",data:=.seq #[] 0}).objs.size) (S:=S) (ys:=ys) hh (by rw[f];lia) hd hf (by lia) hy;refine Io (s:={s with drawn:=d}) W hz (by rw[f];simp;lia) ⟨(c.2 _ (by rw[f];lia)).trans hI,(c.2 _ (by rw[f];lia)).trans hT0,(c.2 _ (by lia)).trans (j _ _ g)⟩ p (fun i v h=>h) (by rw[Y4];exact hyl) fun h' tk n q l=>?_
  refine r h' tk d _ n (fun b o e=>q b o (by have:=Yb e;lia) (by have:=Yb e;rw[f];lia) ((c.2 b (by have:=Yb e;lia)).trans (j _ _ (Y8 _ e)))) l ?_;have:=hy.map fun k=>(es.toList.map (·.2)).getD k .none
  rw[Uf];refine this.trans (List.Perm.of_eq ?_);apply Wb
  .simp
  .intro i a b;rw[List.getElem_map,List.getElem_range];simp only[Y4]at b;simp[Yu,show i < es.size by simpa using b]
 .have j:∀b o,(s.heap.push {cls:=.type "list",data:=.seq #[] 0}).get? b=some o->((s.heap.push {cls:=.type "list",data:=.seq #[] 0}).push (TR (.int 0 0) 0 S es.size ep)).get? b=some o:=fun b o e=>Y8 _ e
  have f:(s.heap.push {cls:=.type "list",data:=.seq #[] 0}).objs.size=s.heap.objs.size+ 1:=size_push' ..;have hI:=Yh (s.heap.push {cls:=.type "list",data:=.seq #[] 0}) (o:=TR (.int 0 0) 0 S es.size ep) rfl;refine Y0 (YJ (KA ⟨o,j _ _ g,hx.1⟩ ?_));refine X7 (by kernel_rfl) (Y0 (XF (Y0 (Ov (j _ _ hS1) fun h2 c2 c p=>Y2 ⟨Ul F.plain_extend_loop _,?_⟩))))
  by_cases z:MT w=true
  .have W:=Qj (prog:=prog) (w:=w) (A:=A.in1) (I:=(s.heap.push {cls:=.type "list",data:=.seq #[] 0}).objs.size) (S:=S) hh (by rw[f];lia) hd hf z;refine Io (s:=s) W hz (by rw[f];simp;lia) ⟨(c.2 _ (by rw[f];lia)).trans hI,(c.2 _ (by lia)).trans (j _ _ g)⟩ p (fun i v h=>h) (by rw[Y4,(Ab _ es).length_eq,Array.length_toList]) fun h' tk n q l=>?_
   exact r h' tk s.drawn _ n (fun b o e=>q b o (by have:=Yb e;lia) (by have:=Yb e;rw[f];lia) ((c.2 b (by have:=Yb e;lia)).trans (j _ _ (Y8 _ e)))) l (by rw[Uf];exact(Ab _ es).map _)
  .have hb':MT w=false:=by simpa using z
   have W:=Qz (prog:=prog) (w:=w) (A:=A.in1) (I:=(s.heap.push {cls:=.type "list",data:=.seq #[] 0}).objs.size) (S:=S) hh (by rw[f];lia) hd hf hb' (hc.resolve_left z) T;refine Io (s:=s) W hz (by rw[f];simp;lia) ⟨⟨0,(c.2 _ (by rw[f];lia)).trans hI,nC T.ris⟩,(c.2 _ (by lia)).trans (j _ _ g)⟩ p (fun i v h=>h) (by simp) fun h' tk n q l=>?_
   exact r h' tk s.drawn _ n (fun b o e=>q b o (by have:=Yb e;lia) (by have:=Yb e;rw[f];lia) ((c.2 b (by have:=Yb e;lia)).trans (j _ _ (Y8 _ e)))) l (by rw[Uf])
end
structure Qc(mg:WQ):Prop where
 bset:mg "set"=none
section
variable{X:Cx}{K:J0}{w:WZ}
theorem Jb.drawn{pins:WU}{σ:St}{H:Hp}{s:WW}(I:Jb X pins σ H s)(d:Drawn):Jb X pins σ H {s with drawn:=d}:=⟨I.ok,I.os,I.bare,I.base,I.loc,I.cell,I.free,I.freeC,I.pin,I.hok,I.len⟩
end
theorem PM:∀ (m:Nat) (l:List Nat),l.length < m->∃j,j < m/\j∉l:=by
 intro m
 induction m with
 |zero=>intro l h;lia
 |succ m ih=>
  intro l h
  by_cases hm:m∈l
  .obtain⟨j,h1,h2⟩:=ih (l.erase m) (by rw[V0 hm];have:=Vj hm;lia);exact⟨j,by lia,fun z=>h2 ((VE (by lia)).mpr z)⟩
  .exact⟨m,by lia,hm⟩
theorem Q1{t:SetTable}(hd:t.dummies=#[]){j:Nat}(h:j∉t.place.toList):t.slot j= .empty:=by
 unfold SetTable.slot;dsimp only;rw[Y1,hd,Y1 (by rw[Fy];exact Yi)];intro z;have:=eq_of_beq z;exact h (U5.mpr (WB this))
def MN(mask i pt:Nat):SetTable.Probe:={j:=i,more:=SetTable.runEnd mask i - i,i:=i,perturb:=pt,dummy:=none}
def Jx(t:SetTable):Nat->SetTable.Probe->SetTable.Probe
 |0,p=>p
 |n+ 1,p=>Jx t n (t.advance p)
theorem EZ(t:SetTable):∀ (a b:Nat) (p:SetTable.Probe),Jx t (a+ b) p=Jx t b (Jx t a p)
 |0,b,p=>by rw[Xk];rfl
 |a+ 1,b,p=>by rw[show a+ 1+ b=(a+ b)+ 1 by lia];exact EZ t a b _
def MP(mask:Nat):Nat->Nat×Nat->Nat×Nat
 |0,q=>q
 |n+ 1,q=>MP mask n (SetTable.leap mask q.1 q.2)
theorem IZ(mask:Nat):∀ (a b:Nat) (q:Nat×Nat),MP mask (a+ b) q=MP mask b (MP mask a q)
 |0,b,p=>by rw[Xk];rfl
 |a+ 1,b,p=>by rw[show a+ 1+ b=(a+ b)+ 1 by lia];exact IZ mask a b _
theorem KI{t:SetTable}:∀ (m:Nat) (p:SetTable.Probe),p.more=m->p.dummy=none->Jx t (m+ 1) p=MN t.mask (SetTable.leap t.mask p.i p.perturb).1 (SetTable.leap t.mask p.i p.perturb).2:=by
 intro m
 induction m with
 |zero=>
  intro p h hd;show t.advance p=_;unfold SetTable.advance;rw[Y1 (by lia)];unfold MN;simp[hd]
 |succ m ih=>
  intro p h hd;show Jx t (m+ 1) (t.advance p)=_;have e:t.advance p={p with j:=p.j+ 1,more:=p.more - 1}:=by
   unfold SetTable.advance;rw[Y3 (by lia)]
  rw[e];exact ih _ (by show p.more - 1=m;lia) hd
theorem tO(mask i:Nat):SetTable.runEnd mask i - i <=9:=by unfold SetTable.runEnd;split <;> lia
theorem nX{t:SetTable}:∀ (n i pt:Nat),∃a,a <=10*n/\Jx t a (MN t.mask i pt)=MN t.mask (MP t.mask n (i,pt)).1 (MP t.mask n (i,pt)).2:=by
 intro n
 induction n with
 |zero=>intro i pt;exact⟨0,by lia,rfl⟩
 |succ n ih=>
  intro i pt;have h1:=KI (t:=t) _ (MN t.mask i pt) rfl rfl;obtain⟨a,h2,c⟩:=ih (SetTable.leap t.mask i pt).1 (SetTable.leap t.mask i pt).2;refine⟨SetTable.runEnd t.mask i - i+ 1+ a,by have:=tO t.mask i;lia,?_⟩;rw[EZ];have b:Jx t (SetTable.runEnd t.mask i - i+ 1) (MN t.mask i pt)=MN t.mask (SetTable.leap t.mask i pt).1 (SetTable.leap t.mask i pt).2:=h1;rw[b];exact c
theorem L4(mask:Nat):∀ (n:Nat) (q:Nat×Nat),(MP mask n q).2=q.2 / 32 ^ n
 |0,q=>by simp[MP]
 |n+ 1,q=>by
  show(MP mask n _).2=_;rw[L4 mask n];show q.2 / 32 / 32 ^ n=_;rw[Nat.div_div_eq_div_mul,Nat.pow_succ,Nat.mul_comm]
def HD(m i:Nat):Nat:=(i*5+ 1)%m
def MY(m:Nat):Nat->Nat->Nat
 |0,i=>i
 |n+ 1,i=>MY m n (HD m i)
theorem OO(mask:Nat):∀ (n i:Nat),MP mask n (i,0)=(MY (mask+ 1) n i,0)
 |0,i=>rfl
 |n+ 1,i=>by
  show MP mask n (SetTable.leap mask i 0)=_;rw[show SetTable.leap mask i 0=(HD (mask+ 1) i,0) by simp[SetTable.leap,HD]];exact OO mask n _
def RX(m:Nat):Prop:=∀i,i < m->∀j,j < m->∃k,k < m/\MY m k i=j
theorem jT:RX 8:=by
 have h:(List.range 8).all (fun i=>(List.range 8).all fun j=>(List.range 8).any fun k=>MY 8 k i==j)=true:=by decide +kernel
 intro i hi j a;have:=Xe.mp (Xe.mp h i (by simpa using hi)) j (by simpa using a);obtain⟨k,h1,h2⟩:=List.any_eq_true.mp this;exact⟨k,by simpa using h1,eq_of_beq h2⟩
theorem Pq:RX 32:=by
 have h:(List.range 32).all (fun i=>(List.range 32).all fun j=>(List.range 32).any fun k=>MY 32 k i==j)=true:=by decide +kernel
 intro i hi j a;have:=Xe.mp (Xe.mp h i (by simpa using hi)) j (by simpa using a);obtain⟨k,h1,h2⟩:=List.any_eq_true.mp this;exact⟨k,by simpa using h1,eq_of_beq h2⟩
theorem PP{mask:Nat}(F:RX (mask+ 1))(i pt:Nat)(hp:pt < 2 ^ 64){j:Nat}(hj:j < mask+ 1):∃n,n <=mask+ 13/\(MP mask n (i,pt)).1=j:=by
 have b:(MP mask 13 (i,pt)).2=0:=by
  rw[L4];exact Nat.div_eq_of_lt (Yx hp (by decide))
 have a:(MP mask 13 (i,pt)).1 < mask+ 1:=by
  rw[show(13:Nat)=12+ 1 from rfl,IZ];exact W3 _ (by lia)
 obtain⟨k,h1,h2⟩:=F _ a j hj;refine⟨13+ k,by lia,?_⟩;rw[IZ,show MP mask 13 (i,pt)=((MP mask 13 (i,pt)).1,0) from by rw[<-b],OO];exact h2
def B1(t:SetTable)(d:Nat)(p:SetTable.Probe):Prop:=p.dummy=none/\∃a,a <=d/\t.slot (Jx t a p).j= .empty
theorem yS{t:SetTable}(F:RX (t.mask+ 1))(hd:t.dummies=#[])(hn:t.place.size < t.mask+ 1)(h:Int):B1 t (10*(t.mask+ 13)) (t.probeStart h):=by
 obtain⟨j,h1,h2⟩:=PM (t.mask+ 1) t.place.toList (by simpa using hn);have b:SetTable.bits h < 2 ^ 64:=by unfold SetTable.bits;lia
 obtain⟨n,f,d⟩:=PP F (SetTable.bits h%(t.mask+ 1)) (SetTable.bits h) b h1;obtain⟨a,e,c⟩:=nX (t:=t) n (SetTable.bits h%(t.mask+ 1)) (SetTable.bits h);refine⟨rfl,a,by lia,?_⟩;show t.slot (Jx t a (MN t.mask _ _)).j=_;rw[c];show t.slot (MP t.mask n _).1=_;rw[d];exact Q1 hd h2
theorem wH{t:SetTable}{p:SetTable.Probe}(h:p.dummy=none):(t.advance p).dummy=none:=by
 unfold SetTable.advance;split <;> first|exact h|(split;exact h)
def T7(ow:Array (Option Nat))(n:Nat):List Nat:=(List.range n).filterMap fun j=>ow.getD j none
theorem vK{ow:Array (Option Nat)}{j k:Nat}(hj:j < ow.size)(h0:ow.getD j none=none):∀n,(j < n->(T7 (ow.setIfInBounds j (some k)) n).Perm (k::T7 ow n))/\(n <=j->T7 (ow.setIfInBounds j (some k)) n=T7 ow n):=by
 have e:∀i,(ow.setIfInBounds j (some k)).getD i none=if i=j then some k else ow.getD i none:=fun i=>by
  by_cases hi:i=j
  .subst hi;rw[Y3 rfl];simp[Array.getD,hj]
  .rw[Y1 hi];simp only[XV,Vt (Ne.symm hi)]
 intro n
 induction n with
 |zero=>exact⟨fun h=>by lia,fun _=>rfl⟩
 |succ n ih=>
  have s:∀o:Array (Option Nat),T7 o (n+ 1)=T7 o n++(match o.getD n none with|some x=>[x]|none=>[]):=fun o=>by
   unfold T7;rw[List.range_succ,List.filterMap_append]
   congr 1
   rw[UO,List.filterMap_nil];cases h:o.getD n none <;> rfl
  refine⟨fun h=>?_,fun h=>?_⟩
  .rw[s,s,e]
   by_cases hn:n=j
   .subst hn;rw[Y3 rfl,h0,ih.2 (Y7 _),List.append_nil];exact VX ..
   .rw[Y1 hn];exact((ih.1 (by lia)).append_right _)
  .rw[s,s,e,Y1 (by lia),ih.2 (by lia)]
theorem QK{mask:Nat}{ow:Array (Option Nat)}:∀ (f i pt:Nat),(∃n,n < f/\ow.getD (MP mask n (i,pt)).1 (some 0)=none)->∃j,SetTable.layClean.free mask ow f i pt=some j/\ow.getD j (some 0)=none:=by
 intro f
 induction f with
 |zero=>intro i pt ⟨n,h,_⟩;lia
 |succ f ih=>
  intro i pt ⟨n,h1,h2⟩;rw[SetTable.layClean.free];cases hf:List.find? (fun k=>(ow.getD (i+ k) (some 0)).isNone) (List.range (SetTable.runEnd mask i+ 1 - i)) with
  |some k=>
   exact⟨i+ k,rfl,by have:=List.find?_some hf;simpa using this⟩
  |none=>
   cases n with
   |zero=>
    exfalso
    have := List.find?_eq_none.mp hf 0 (by
     have:i <=SetTable.runEnd mask i:=by unfold SetTable.runEnd;split <;> lia
     simp; lia)
    rw[Ub]at this;have a:ow.getD i (some 0)=none:=h2;rw[a]at this;exact this rfl
   |succ n=>exact ih _ _ ⟨n,by lia,h2⟩
def Dh(mask:Nat)(acc:Option (Array (Option Nat)×Nat))(h:Int):Option (Array (Option Nat)×Nat):=do
 let __x <-acc
 match __x with
  |(owner,k)=>do
   let j <-SetTable.layClean.free mask owner (SetTable.turns mask) (SetTable.bits h%(mask+ 1)) (SetTable.bits h)
   pure (owner.setIfInBounds j (some k),k+ 1)
theorem Sg{mask:Nat}(F:RX (mask+ 1)):∀ (hs:J3) (ow:Array (Option Nat)) (k:Nat),ow.size=mask+ 1->(T7 ow (mask+ 1)).Perm (List.range k)->k+ hs.length < mask+ 1->
  ∃ow',hs.foldl (Dh mask) (some (ow,k))=some (ow',k+ hs.length)/\ow'.size=mask+ 1/\(T7 ow' (mask+ 1)).Perm (List.range (k+ hs.length)):=by
 intro hs
 induction hs with
 |nil=>intro ow k h1 h2 _;exact⟨ow,rfl,h1,h2⟩
 |cons h hs ih=>
  intro ow k h1 h2 l;rw[List.length_cons]at l;obtain⟨s,f,r⟩:∃j,j < mask+ 1/\ow.getD j none=none:=by
   obtain ⟨j, b, g⟩ := PM (mask + 1) ((List.range (mask + 1)).filter fun j => (ow.getD j none).isSome) (by
    have e:((List.range (mask+ 1)).filter fun j=>(ow.getD j none).isSome).length=(T7 ow (mask+ 1)).length:=by
     unfold T7;rw[Uh,List.countP_eq_length_filter]
    rw [e, h2.length_eq, YO]; lia)
   refine⟨j,b,?_⟩;cases hh:ow.getD j none with
   |none=>rfl
   |some x=>exact absurd (UQ.mpr ⟨by simpa using b,by rw[hh];rfl⟩) g
  have c:∀j,j < mask+ 1->ow.getD j (some 0)=ow.getD j none:=fun j a=>by simp[Array.getD,h1,a]
  have i:SetTable.bits h < 2 ^ 64:=by unfold SetTable.bits;lia
  obtain⟨n,u,p⟩:=PP F (SetTable.bits h%(mask+ 1)) (SetTable.bits h) i f;obtain⟨j,o,d⟩:=QK (mask:=mask) (ow:=ow) (SetTable.turns mask) (SetTable.bits h%(mask+ 1)) (SetTable.bits h) ⟨n,by unfold SetTable.turns;lia,by rw[p,c _ f];exact r⟩;have a:j < ow.size:=by
   rcases WO j ow.size with q|q
   .exact q
   .simp[Array.getD,show ¬j < ow.size by lia]at d
  have st:Dh mask (some (ow,k)) h=some (ow.setIfInBounds j (some k),k+ 1):=by
   show(SetTable.layClean.free mask ow (SetTable.turns mask) _ _ >>=_)=_;rw[o];rfl
  rw[Um,st,List.length_cons,show k+ (hs.length+ 1)=k+ 1+ hs.length by lia];refine ih _ _ (by rw[Wf];exact h1) ?_ (by lia);refine((vK a (by rw[<-c j (by lia)];exact d) (mask+ 1)).1 (by lia)).trans ?_;rw[List.range_succ];exact(h2.cons _).trans (VX ..).symm
theorem Qm{t:SetTable}{es:Array (Int×Value)}{n:Nat}(F:RX (SetTable.sizeAbove n - 1+ 1))(hn:es.size < SetTable.sizeAbove n - 1+ 1):
  ∃t' o,t.relaid (es.map (·.1)) n=some (t',o)/\t'.mask=SetTable.sizeAbove n - 1/\t'.place.size=es.size/\t'.dummies=#[]/\(o.filterMap (fun x=>es[x]?)).toList.Perm es.toList/\o.toList.Perm (List.range es.size):=by
 obtain ⟨a, h1, h2, b⟩ := Sg F (es.map (·.1)).toList (Array.replicate (SetTable.sizeAbove n - 1 + 1) none) 0 (by simp) (by
  have:T7 (Array.replicate (SetTable.sizeAbove n - 1+ 1) none) (SetTable.sizeAbove n - 1+ 1)=[]:=by
   unfold T7;rw[List.filterMap_eq_nil_iff];intro j g;simp[Array.getD]
  rw [this]; exact .nil) (by simpa using hn)
 have f:SetTable.layClean (SetTable.sizeAbove n - 1) (es.map (·.1))=some a:=by
  unfold SetTable.layClean;rw[<-Array.foldl_toList];have d:List.foldl (Dh (SetTable.sizeAbove n - 1)) (some (Array.replicate (SetTable.sizeAbove n - 1+ 1) none,0)) (es.map (·.1)).toList=_:=h1;exact(Xn _ d).trans rfl
 have c:(es.map (·.1)).toList.length=es.size:=by simp
 rw[c,Xk]at b;have e:(List.map (fun x=>x.2) ((List.range (SetTable.sizeAbove n - 1+ 1)).filterMap fun j=>Option.map (fun x=>(j,x)) (a.getD j none)))=T7 a (SetTable.sizeAbove n - 1+ 1):=by
  unfold T7;rw[List.map_filterMap]
  congr 1
  funext j
  cases a.getD j none <;> rfl
 refine⟨_,_,by unfold SetTable.relaid SetTable.laid;rw[f];rfl,rfl,?_,rfl,?_,?_⟩
 .show(List.toArray _).size=_;rw[Yc,Y4];have:((List.range (SetTable.sizeAbove n - 1+ 1)).filterMap fun j=>Option.map (fun x=>(j,x)) (a.getD j none)).length=(T7 a (SetTable.sizeAbove n - 1+ 1)).length:=by
   unfold T7;rw[Uh,Uh]
   congr 1
   funext j
   simp
  rw[this,b.length_eq,YO]
 .rw[Wr];show(List.filterMap _ (List.map _ _)).Perm _;rw[e];refine(b.filterMap _).trans (List.Perm.of_eq ?_);exact filterMap_getElem?_range es
 .show(List.map _ _).Perm _;rw[e];exact b
abbrev TK(P:WV)(w:WZ):=tupleKind (Jk P w)
section
variable{prog:WV}{w:WZ}{A:WY}{E:WR}{s:WW}
theorem xF{k:Jv}{v:J1}(h:(Jk prog w).is k v=true):(∃n t,v= .int n t)\/∃z t,v= .str z t:=by
 cases k with
 |inl n=>
  cases v with
  |int i t=>exact .inl ⟨i,t,rfl⟩
  |_=>cases h
 |inr z=>
  cases v with
  |str i t=>exact .inr ⟨i,t,rfl⟩
  |_=>cases h
theorem Kx:∀{ks:List Jv} {vs:J5},PySem.ItemsAre (Jk prog w) ks vs->∀v∈vs,(∃n t,v= .int n t)\/∃z t,v= .str z t:=by
 intro ks vs h v a;obtain⟨k,b⟩:∃k,(Jk prog w).is k v=true:=by
  induction h with
  |nil=>cases a
  |cons h1 _ ih=>
   rcases Yp.mp a with rfl|a
   .exact⟨_,h1⟩
   .exact ih a
 exact xF b
theorem Li{Q:Option Bool×Unit->Shared->Prop}{f:Value->Option Bool×Unit->Sem (ForInStep (Option Bool×Unit))}:∀ (l:J5),(∀y∈l,∀R:ForInStep (Option Bool×Unit)->Shared->Prop,R (.yield (none,())) s->wpAny (model prog w) A (f y (none,())) R E s)->Q (none,()) s->wpAny (model prog w) A (forIn l (none,()) f) Q E s:=by
 intro l
 induction l with
 |nil=>intro _ a;exact Y2 a
 |cons y l ih=>
  intro hf a;rw[VA];exact Y0 (hf y (.head _) _ (ih (fun z b=>hf z (.tail _ b)) a))
theorem PC{a:J2}{k:List Jv}{Q:Bool->Shared->Prop}(hk:(TK prog w).is s.heap k a)(hQ:Q false s):wpAny (model prog w) A (ofAClassStatement 8 (.ref a)) Q E s:=by
 obtain⟨o,g,n,h1,h2,f,e⟩:=hk;show wpAny _ _ (ofAClassStatement (7+ 1) (.ref a)) _ _ _;unfold ofAClassStatement;have d:s.TypeIs (.ref a) "tuple":=⟨o,h1,h2⟩
 refine Y0 (We d ?_);refine X7 (by rfl) (Y0 (Y2 (Yn (by rfl) ?_)));refine Y0 (Y0 (Vw h1 ?_));rw[f];refine Y2 ?_;dsimp only;refine Y0 ?_;rw[<-Array.forIn_toList];refine Li _ (fun y c R b=>?_) (Y2 hQ);rcases Kx e y c with⟨n,t,rfl⟩|⟨z,t,rfl⟩
 .exact Y0 (Y2 (Yn (by rfl) (Y2 b)))
 .exact Y0 (Y2 (Yn (by rfl) (Y2 b)))
theorem Ly{a:J2}{k:List Jv}(hk:(TK prog w).is s.heap k a)(l:J5)(hl:∀y∈l,∃b k',y= .ref b/\(TK prog w).is s.heap k' b){Q:Bool->Shared->Prop}(hQ:Q false s):wpAny (model prog w) A (searchCouldBeSeen (.ref a) l) Q E s:=by
 unfold searchCouldBeSeen;refine Y0 (Li _ (fun y e R d=>?_) (Y2 hQ));obtain⟨b,k',rfl,c⟩:=hl y e;dsimp only
 by_cases hc:(a==b||carriedByValue (.ref a) && carriedByValue (.ref b))=true
 .rw[Y3 hc];exact Y2 d
 .rw[Y1 hc];refine Y0 ((TK prog w).quiet hk (Yn (by rfl) (Y0 ((TK prog w).quiet c (Yn (by rfl) ?_)))));exact Y0 (PC hk (Yn (by rfl) (Y0 (PC c (Yn (by rfl) (Y2 d))))))
theorem SW{Q:Option Bool×Unit->Shared->Prop}{f:Value->Option Bool×Unit->Sem (ForInStep (Option Bool×Unit))}:∀ (l:J5),(∀y∈l,∀R:ForInStep (Option Bool×Unit)->Shared->Prop,R (.yield (none,())) s->R (.done (some false,())) s->wpAny (model prog w) A (f y (none,())) R E s)->Q (none,()) s->Q (some false,()) s->wpAny (model prog w) A (forIn l (none,()) f) Q E s:=by
 intro l
 induction l with
 |nil=>intro _ b _;exact Y2 b
 |cons y l ih=>
  intro hf b a;rw[VA];exact Y0 (hf y (.head _) _ (ih (fun z c=>hf z (.tail _ c)) b a) (Y2 a))
theorem wT{a:J2}{k:List Jv}{Q:Bool->Shared->Prop}(hk:(TK prog w).is s.heap k a)(hQ:∀b,Q b s):wpAny (model prog w) A (hashByValue 8 (.ref a)) Q E s:=by
 obtain⟨o,i,n,h1,h2,h,g⟩:=hk;show wpAny _ _ (hashByValue (7+ 1) (.ref a)) _ _ _;unfold hashByValue;have f:s.TypeIs (.ref a) "tuple":=⟨o,h1,h2⟩
 refine Y0 (Wl f F.slot_tuple_hash.lookup ?_);dsimp only;refine Y0 (Y0 (Vw h1 ?_));rw[h];refine Y2 ?_;refine Y0 ?_;rw[<-Array.forIn_toList];refine SW _ (fun y e R d c=>?_) (Y2 (hQ true)) (Y2 (hQ false));rcases Kx g y e with⟨n,t,rfl⟩|⟨z,t,rfl⟩
 .exact Y0 (Y2 (Yn (by rfl) (Y2 d)))
 .exact Y0 (Y2 (X7 (by rfl) (Y2 c)))
end
section
variable{X:Cx}{K:J0}
def NE(k:Ky):List Jv:=[.inl k.1,.inr k.2.1,.inr k.2.2]
theorem Cp{a b:Ky}(h:NE a=NE b):a=b:=by
 obtain⟨i,g,f⟩:=a;obtain⟨e,d,c⟩:=b;unfold NE at h;simp at h;obtain⟨rfl,rfl,rfl⟩:=h;rfl
end
theorem vI{t t':SetTable}(h:t.mask=t'.mask)(p:SetTable.Probe):t.advance p=t'.advance p:=by unfold SetTable.advance;rw[h]
theorem CG{t t':SetTable}(h:t.mask=t'.mask):∀ (n:Nat) (p:SetTable.Probe),Jx t n p=Jx t' n p
 |0,p=>rfl
 |n+ 1,p=>by
  show Jx t n (t.advance p)=Jx t' n (t'.advance p);rw[vI h,CG h n]
theorem Oq{t t':SetTable}(h:t.mask=t'.mask)(x:Int):t.probeStart x=t'.probeStart x:=by unfold SetTable.probeStart;rw[h]
def EX(t:SetTable)(h:Int)(j:Nat):Prop:=∃a,(Jx t a (t.probeStart h)).j=j/\∀b,b < a->t.slot (Jx t b (t.probeStart h)).j≠ .empty
def D0(t:SetTable)(es:Array (Int×Value)):Prop:=∀q∈t.place.toList.zip es.toList,EX t q.2.1 q.1
theorem wS{t:SetTable}{j i:Nat}(h:t.slot j= .live i):t.place[i]?=some j:=by
 unfold SetTable.slot at h;dsimp only at h
 split at h
 .rename_i hb
  cases h;exact eq_of_beq hb
 .split at h <;> cases h
theorem FB{t:SetTable}(r:GG t.place){j:Nat}(h:j∈t.place.toList):t.slot j≠ .empty:=by
 intro z;have h1:=PQ z;obtain⟨i,hi,e⟩:=Ug h;obtain⟨p,n,l⟩:=EW r j;have a:i < t.place.size:=by simpa using hi
 have b:t.place[i]=j:=by simpa using e
 have g:∀k (f:k < t.place.size) d,t.place.getD k d=t.place[k]:=fun k f d=>by simp[Array.getD,f]
 rcases Ve i (SetTable.below t.place j) with c|c|c
 .have:=n i c;rw[g i a,b]at this;lia
 .rw[<-c,Yq a,b]at h1;exact h1 rfl
 .have h2:=EB r c a j;have o:=l _ (Y7 _) (by lia);rw[g i a,b]at h2
  lia
theorem Qk{t:SetTable}(hd:t.dummies=#[]){ha:Nat->Int}{h:Int}:∀ (d f:Nat) (p:SetTable.Probe),B1 t d p->d < f->
  ∃ b, b <= d /\ (∀ a, a < b -> ∃ i, t.slot (Jx t a p).j = .live i /\ ha i ≠ h) /\ ((t.slot (Jx t b p).j = .empty /\ SetTable.probe.go t ha h f p = some (.empty (Jx t b p).j none)) \/
   ∃ i, t.slot (Jx t b p).j = .live i /\ ha i = h /\ SetTable.probe.go t ha h f p = some (.candidate (Jx t b p).j i (Jx t (b + 1) p)) /\ b + 1 <= d /\ B1 t (d - (b + 1)) (Jx t (b + 1) p)) := by
 intro d
 induction d with
 |zero=>
  intro f p ⟨l,a,h1,h2⟩ hf;obtain rfl:a=0:=by lia
  obtain⟨f,rfl⟩:∃g,f=g+ 1:=⟨f - 1,by lia⟩;have e:t.slot p.j= .empty:=h2;refine⟨0,Y7 _,fun a h=>by lia,.inl ⟨h2,?_⟩⟩;rw[SetTable.probe.go,e,l];rfl
 |succ d ih=>
  intro f p ⟨l,a,h1,h2⟩ hf;obtain⟨f,rfl⟩:∃g,f=g+ 1:=⟨f - 1,by lia⟩;cases hs:t.slot p.j with
  |empty=>
   refine⟨0,Yv _,fun a h=>by lia,.inl ⟨hs,?_⟩⟩;rw[SetTable.probe.go,hs,l];rfl
  |dummy=>
   exfalso
   unfold SetTable.slot at hs;dsimp only at hs;rw[hd]at hs
   split at hs
   .cases hs
   .rw[Y1 (by rw[Fy];exact Yi)]at hs;cases hs
  |live i=>
   have r:a≠0:=fun z=>by
    subst z;have e:t.slot p.j= .empty:=h2;rw[hs]at e;cases e
   obtain⟨a,rfl⟩:∃c,a=c+ 1:=⟨a - 1,by lia⟩;have n:B1 t d (t.advance p):=⟨wH l,a,by lia,h2⟩
   by_cases hh:ha i=h
   .refine⟨0,Yv _,fun a h=>by lia,.inr ⟨i,hs,hh,?_,by lia,n⟩⟩;rw[SetTable.probe.go,hs];dsimp only;rw[Y3 (by rw[hh];exact XR _)];rfl
   .obtain⟨b,s,q,o⟩:=ih f _ n (by lia);refine⟨b+ 1,by lia,fun a' h'=>?_,?_⟩
    .cases a' with
     |zero=>exact⟨i,hs,hh⟩
     |succ a'=>exact q a' (by lia)
    .rw[SetTable.probe.go,hs];dsimp only;rw[Y1 (by simpa using hh)];rcases o with⟨g1,g2⟩|⟨i',g1,g2,g3,g4,g5⟩
     .exact .inl ⟨g1,g2⟩
     .exact .inr ⟨i',g1,g2,g3,by lia,by rw[show d+ 1 - (b+ 1+ 1)=d - (b+ 1) by lia];exact g5⟩
section
variable{prog:WV}{w:WZ}{A:WY}{E:WR}{s:WW}
theorem wK{S a:J2}{o:Obj}{es:Array (Int×Value)}{ep:Nat}{t:SetTable}{k:List Jv}{Q:SetFound->Shared->Prop}(hr:(TK prog w).room A)(hk:(TK prog w).is s.heap k a)(ho:s.heap.get? S=some o)(hd:o.data= .set es ep t)(hf:t.fits es.size=true)(T:Ni w t)(hg:t.gaveWay=false)
  (he:∀e∈es.toList,∃b k',e=((TK prog w).hash k',.ref b)/\(TK prog w).is s.heap k' b) (hin:(∃b,((TK prog w).hash k,Value.ref b)∈es.toList/\(TK prog w).is s.heap k b)->Q (.there none) s)
  (hout:(∀c i,t.slot (Jx t c (t.probeStart ((TK prog w).hash k))).j= .live i->∀b,es[i]?=some ((TK prog w).hash k,.ref b)->(∀b',b' < c->t.slot (Jx t b' (t.probeStart ((TK prog w).hash k))).j≠ .empty)->¬(TK prog w).is s.heap k b)->∀j,t.slot j= .empty->(∃c,(Jx t c (t.probeStart ((TK prog w).hash k))).j=j/\∀b,b < c->t.slot (Jx t b (t.probeStart ((TK prog w).hash k))).j≠ .empty)->Q (.free j false) s):
  ∀ (d f c:Nat) (stand:Option SetTable.Probe),stand.getD (t.probeStart ((TK prog w).hash k))=Jx t c (t.probeStart ((TK prog w).hash k))->(∀b,b < c->t.slot (Jx t b (t.probeStart ((TK prog w).hash k))).j≠ .empty)->(∀b,b < c->∀i,t.slot (Jx t b (t.probeStart ((TK prog w).hash k))).j= .live i->∀x,es[i]?=some ((TK prog w).hash k,.ref x)->¬(TK prog w).is s.heap k x)->
  B1 t d (stand.getD (t.probeStart ((TK prog w).hash k)))->d < f->d <=10*(t.mask+ 13)->wpAny (model prog w) A (setSearchFrom S (.ref a) ((TK prog w).hash k) true f stand) Q E s:=by
 intro d
 induction d using Nat.strongRecOn with
 |_ d ih=>
  intro f c stand hst hne hno hn hdf hdm;obtain⟨f,rfl⟩:∃g,f=g+ 1:=⟨f - 1,by lia⟩;unfold setSearchFrom;refine Y0 (YC ho hd hf ?_);dsimp only;refine Yn (by rw[hg];rfl) ?_;unfold SetTable.probe;have hz:t.place.size=es.size:=by
   have:=hf;unfold SetTable.fits at this;simp at this;exact this.1
  obtain⟨b,b1,b2,b3⟩:=Qk (ha:=fun i=>(Option.map (fun x=>x.1) es[i]?).getD 0) (h:=(TK prog w).hash k) T.dum d (10*SetTable.turns t.mask) _ hn (by unfold SetTable.turns;lia);have l:∀n,Jx t n (stand.getD (t.probeStart ((TK prog w).hash k)))=Jx t (c+ n) (t.probeStart ((TK prog w).hash k)):=fun n=>by rw[hst,<-EZ]
  have ac:∀b',b' < c+ b->t.slot (Jx t b' (t.probeStart ((TK prog w).hash k))).j≠ .empty:=fun b' h=>by
   by_cases hc:b' < c
   .exact hne b' hc
   .obtain⟨i,q,v⟩:=b2 (b' - c) (by lia);rw[l,show c+ (b' - c)=b' by lia]at q;rw[q];intro z;cases z
  have ab:∀b',b' < c+ b->∀i,t.slot (Jx t b' (t.probeStart ((TK prog w).hash k))).j= .live i->∀x,es[i]?=some ((TK prog w).hash k,.ref x)->¬(TK prog w).is s.heap k x:=fun b' h i hi x hx=>by
   by_cases hc:b' < c
   .exact hno b' hc i hi x hx
   .obtain⟨i',q,v⟩:=b2 (b' - c) (by lia);rw[l,show c+ (b' - c)=b' by lia,hi]at q;cases q;rw[hx]at v;exact absurd rfl v
  rcases b3 with⟨q2,q1⟩|⟨i,q2,q3,q1,q4,q5⟩
  .generalize hgo:SetTable.probe.go t _ _ _ _=r;have e:r=some (.empty _ none):=hgo.symm.trans q1;subst e;rw[l]at q2 ⊢;refine Y2 (hout (fun c' i hi x hx hb=>?_) _ q2 ⟨c+ b,rfl,ac⟩);rcases Ve c' (c+ b) with h|h|h
   .exact ab c' h i hi x hx
   .rw[h,q2]at hi;cases hi
   .exact absurd q2 (hb _ h)
  .generalize hgo:SetTable.probe.go t _ _ _ _=r;have e:r=some (.candidate _ i _):=hgo.symm.trans q1;subst e;dsimp only;have hi:i < es.size:=by
    rw[<-hz];exact(U0.mp (wS q2)).1
   obtain⟨x,k',hb1,ae⟩:=he es[i] (V1 hi);have p:es[i]?=some ((TK prog w).hash k',.ref x):=by rw[Yq hi,hb1]
   have hhk:(TK prog w).hash k'=(TK prog w).hash k:=by
    have q3':(Option.map (fun x=>x.1) es[i]?).getD 0=(TK prog w).hash k:=q3;rw[p]at q3';exact q3'
   have go:∀ (Q':Bool->Shared->Prop),Q' (decide (k'=k)) s->wpAny (model prog w) A (eqBool (.ref x) (.ref a)) Q' E s:=fun Q' h=>(TK prog w).eqBool hr ae hk h
   by_cases hkk:k'=k
   .subst hkk;have hq:=hin ⟨x,by rw[<-hb1];exact V1 hi,ae⟩
    by_cases hl:(!t.led)=true
    .rw[Y3 hl];refine Y0 (Ly hk _ (fun y u=>?_) (Yn (by rfl) ?_))
     .obtain⟨e,h1,rfl⟩:=YD.mp u;obtain⟨b,k',q,v⟩:=he e (by simp at h1;exact U5.mpr h1.1);exact⟨b,k',by rw[q],v⟩
     rw[p];refine Y0 (YJ (go _ ?_));rw[Yk rfl];exact Y0 (YC ho hd hf (X7 (by rfl) (Y2 hq)))
    .rw[Y1 hl,p];refine Y0 (YJ (go _ ?_));rw[Yk rfl];exact Y0 (YC ho hd hf (X7 (by rfl) (Y2 hq)))
   .have nxt:wpAny (model prog w) A (setSearchFrom S (.ref a) ((TK prog w).hash k) true f (some (Jx t (b+ 1) (stand.getD (t.probeStart ((TK prog w).hash k)))))) Q E s:=by
     refine ih (d - (b+ 1)) (by lia) f (c+ (b+ 1)) _ (l (b+ 1)) (fun b' h=>?_) (fun b' h i' ad y u=>?_) q5 (by lia) (by lia)
     .by_cases hc:b' < c+ b
      .exact ac b' hc
      .obtain rfl:b'=c+ b:=by lia
       rw[<-l,q2];intro z;cases z
     .by_cases hc:b' < c+ b
      .exact ab b' hc i' ad y u
      .obtain rfl:b'=c+ b:=by lia
       rw[<-l,q2]at ad;cases ad;rw[p]at u;have aa:=(Prod.mk.inj (Yr u)).2;injection aa with aa;exact fun z=>hkk ((TK prog w).inj ae (aa▸z))
    by_cases hl:(!t.led)=true
    .rw[Y3 hl];refine Y0 (Ly hk _ (fun y u=>?_) (Yn (by rfl) ?_))
     .obtain⟨e,h1,rfl⟩:=YD.mp u;obtain⟨b,k',q,v⟩:=he e (by simp at h1;exact U5.mpr h1.1);exact⟨b,k',by rw[q],v⟩
     rw[p];refine Y0 (YJ (go _ ?_));rw[Ys hkk];refine Y0 (YC ho hd hf (Yn (by rfl) ?_));dsimp only;rw[show t.sameMemory t.moves t.mask=some true by unfold SetTable.sameMemory;rw[Y3 (XR _)]];dsimp only;rw[Y3 rfl,q2];dsimp only;rw[p];refine Y0 ?_;refine(?_:wpAny _ _ (if(x==x)=true then pure true else _) _ _ _);exact X7 (by simp) (Y2 (Y0 (Y2 (Yn (by rfl) nxt))))
    .rw[Y1 hl,p];refine Y0 (YJ (go _ ?_));rw[Ys hkk];refine Y0 (YC ho hd hf (Yn (by rfl) ?_));dsimp only;rw[show t.sameMemory t.moves t.mask=some true by unfold SetTable.sameMemory;rw[Y3 (XR _)]];dsimp only;rw[Y3 rfl,q2];dsimp only;rw[p];refine Y0 ?_;refine(?_:wpAny _ _ (if(x==x)=true then pure true else _) _ _ _);exact X7 (by simp) (Y2 (Y0 (Y2 (Yn (by rfl) nxt))))
end
theorem Pl{α β:Type}(a:α)(b:β):∀ (p:Nat) (l1:List α) (l2:List β),l1.length=l2.length->p <=l1.length->(l1.take p++a::l1.drop p).zip (l2.take p++b::l2.drop p)=(l1.zip l2).take p++(a,b)::(l1.zip l2).drop p
 |0,l1,l2,_,_=>rfl
 |p+ 1,[],l2,_,h=>by simp at h
 |p+ 1,x::l1,[],h,_=>by simp at h
 |p+ 1,x::l1,y::l2,h,hp=>by
  have:=Pl a b p l1 l2 (by simpa using h) (by simpa using hp);simp only[List.take_succ_cons,List.drop_succ_cons,List.cons_append,Xv];rw[this]
theorem xN{t:SetTable}(hd:t.dummies=#[]){x:Nat}(h:t.slot x≠ .empty):x∈t.place.toList:=W4 fun z=>h (Q1 hd z)
theorem EX.mono{t t1:SetTable}(hm:t.mask=t1.mask)(hs:∀x,t.slot x≠ .empty->t1.slot x≠ .empty){h:Int}{j:Nat}(r:EX t h j):EX t1 h j:=by
 obtain⟨a,h1,h2⟩:=r;refine⟨a,by rw[<-Oq hm,<-CG hm];exact h1,fun b c=>?_⟩;rw[<-Oq hm,<-CG hm];exact hs _ (h2 b c)
theorem D0.put{w:WZ}{t:SetTable}{es:Array (Int×Value)}{j:Nat}{e:Int×Value}(T:Ni w t)(hz:t.place.size=es.size)(hj:t.slot j= .empty)(R:D0 t es)(r:EX t e.1 j):D0 (t.put j).1 (SetTable.insertAt es (t.put j).2 e):=by
 have f:=T.put hj;have b:∀x,t.slot x≠ .empty->(t.put j).1.slot x≠ .empty:=fun x h=>by
  refine FB f.ris ?_;have:=xN T.dum h;exact(Vk t.place (SetTable.below t.place j) j).mem_iff.mpr (by rw[Vd];exact X5 _ this)
 intro q c;have d:=(EW T.ris j).1;have a:q∈(SetTable.insertAt t.place (SetTable.below t.place j) j).toList.zip (SetTable.insertAt es (SetTable.below t.place j) e).toList:=c;rw[UZ,UZ,Pl _ _ _ _ _ (by simpa using hz) (by simpa using d),Ye,Yp]at a;rcases a with h|rfl|h
 .exact(R q (Xd h)).mono (t:=t) (t1:=(t.put j).1) (by rfl) b
 .exact r.mono (t:=t) (t1:=(t.put j).1) (by rfl) b
 .exact(R q (Xo h)).mono (t:=t) (t1:=(t.put j).1) (by rfl) b
def tm(mask:Nat):SetTable:={mask:=mask,place:=#[],dummies:=#[],finger:=0,led:=true,moves:=0,plain:=true}
def Bo(mask:Nat)(ow:Array (Option Nat))(i pt j:Nat):Prop:=∃a,(Jx (tm mask) a (MN mask i pt)).j=j/\∀b,b < a->(Jx (tm mask) b (MN mask i pt)).j < mask+ 1/\ow.getD (Jx (tm mask) b (MN mask i pt)).j none≠none
theorem Pf{t:SetTable}:∀ (b:Nat) (p:SetTable.Probe),b <=p.more->Jx t b p={p with j:=p.j+ b,more:=p.more - b}
 |0,p,_=>rfl
 |b+ 1,p,h=>by
  show Jx t b (t.advance p)=_;have e:t.advance p={p with j:=p.j+ 1,more:=p.more - 1}:=by unfold SetTable.advance;rw[Y3 (by lia)]
  rw[e,Pf b _ (by show b <=p.more - 1;lia)];show SetTable.Probe.mk _ _ _ _ _=SetTable.Probe.mk _ _ _ _ _
  congr 1 <;> lia
theorem j5{mask:Nat}{ow:Array (Option Nat)}(hs:ow.size=mask+ 1):∀ (f i pt j:Nat),i < mask+ 1->SetTable.layClean.free mask ow f i pt=some j->Bo mask ow i pt j:=by
 have e:∀j,j < mask+ 1->ow.getD j (some 0)=ow.getD j none:=fun j n=>by simp[Array.getD,hs,n]
 intro f
 induction f with
 |zero=>intro i pt j _ h;rw[SetTable.layClean.free]at h;cases h
 |succ f ih=>
  intro i pt j hi h;rw[SetTable.layClean.free]at h;have o:SetTable.runEnd mask i < mask+ 1/\i <=SetTable.runEnd mask i:=by unfold SetTable.runEnd;split <;> lia
  have at':∀b,b <=SetTable.runEnd mask i - i->(Jx (tm mask) b (MN mask i pt)).j=i+ b:=fun b c=>by rw[Pf b _ c];rfl
  cases hf:List.find? (fun k=>(ow.getD (i+ k) (some 0)).isNone) (List.range (SetTable.runEnd mask i+ 1 - i)) with
  |some k=>
   rw[hf]at h;cases h;have p:k < SetTable.runEnd mask i+ 1 - i:=by simpa using W5 hf
   refine⟨k,at' k (by lia),fun b c=>?_⟩;rw[at' b (by lia)];refine⟨by lia,?_⟩;rw[<-e _ (by lia)];intro z;have h1:=List.find?_range_eq_some.mp hf;have:=h1.2.2 b c;simp[z]at this
  |none=>
   rw[hf]at h;have h':SetTable.layClean.free mask ow f (SetTable.leap mask i pt).1 (SetTable.leap mask i pt).2=some j:=h;obtain⟨a,l,g⟩:=ih _ _ j (W3 _ (by lia)) h';have h1:Jx (tm mask) (SetTable.runEnd mask i - i+ 1) (MN mask i pt)=MN mask (SetTable.leap mask i pt).1 (SetTable.leap mask i pt).2:=KI (t:=tm mask) _ (MN mask i pt) rfl rfl;refine⟨SetTable.runEnd mask i - i+ 1+ a,by rw[EZ,h1];exact l,fun b c=>?_⟩
   by_cases hc:b <=SetTable.runEnd mask i - i
   .rw[at' b hc];refine⟨by lia,?_⟩;rw[<-e _ (by lia)];intro z;have:=List.find?_eq_none.mp hf b (by simp;lia);rw[z]at this;exact this rfl
   .obtain⟨d,rfl⟩:∃d,b=SetTable.runEnd mask i - i+ 1+ d:=⟨b - (SetTable.runEnd mask i - i+ 1),by lia⟩;rw[EZ,h1];exact g d (by lia)
theorem Bo.mono{mask:Nat}{ow ow':Array (Option Nat)}(h:∀x,ow.getD x none≠none->ow'.getD x none≠none){i pt j:Nat}(p:Bo mask ow i pt j):Bo mask ow' i pt j:=by
 obtain⟨a,h1,h2⟩:=p;exact⟨a,h1,fun b c=>⟨(h2 b c).1,h _ (h2 b c).2⟩⟩
def Pk(mask:Nat)(ow:Array (Option Nat))(h:Int)(j:Nat):Prop:=Bo mask ow (SetTable.bits h%(mask+ 1)) (SetTable.bits h) j
theorem Zq{mask:Nat}(hall:J3):∀ (hs:J3) (ow ow':Array (Option Nat)) (k k':Nat),ow.size=mask+ 1->hall.drop k=hs->(∀j i,ow.getD j none=some i->∃h,hall[i]?=some h/\Pk mask ow h j)->hs.foldl (Dh mask) (some (ow,k))=some (ow',k')->∀j i,ow'.getD j none=some i->∃h,hall[i]?=some h/\Pk mask ow' h j:=by
 intro hs
 induction hs with
 |nil=>intro ow ow' k k' _ _ h1 h2;cases h2;exact h1
 |cons h hs ih=>
  intro ow ow' k k' b c h1 h2;rw[Um]at h2;have q:hall[k]?=some h:=by
   have:=Xn (·[0]?) c;simpa using this
  have d:hall.drop (k+ 1)=hs:=by rw[<-List.drop_drop,c];rfl
  cases hf:SetTable.layClean.free mask ow (SetTable.turns mask) (SetTable.bits h%(mask+ 1)) (SetTable.bits h) with
  |none=>
   exfalso
   have:Dh mask (some (ow,k)) h=none:=by
    show(SetTable.layClean.free mask ow (SetTable.turns mask) _ _ >>=_)=_;rw[hf];rfl
   rw[this]at h2;have p:∀l:List Int,l.foldl (Dh mask) none=none:=fun l=>by
    induction l with
    |nil=>rfl
    |cons x l ih=>rw[Um];exact ih
   rw[p]at h2;cases h2
  |some j0=>
   have st:Dh mask (some (ow,k)) h=some (ow.setIfInBounds j0 (some k),k+ 1):=by
    show(SetTable.layClean.free mask ow (SetTable.turns mask) _ _ >>=_)=_;rw[hf];rfl
   rw[st]at h2;have f:=j5 b _ _ _ _ (W3 _ (by lia)) hf;have e:∀i,(ow.setIfInBounds j0 (some k)).getD i none=if i=j0/\j0 < ow.size then some k else ow.getD i none:=fun i=>by
    by_cases hi:i=j0
    .subst hi
     by_cases hb:i < ow.size
     .rw[Y3 ⟨rfl,hb⟩];simp[Array.getD,hb]
     .rw[Y1 (fun z=>hb z.2)];simp[Array.getD,hb]
    .rw[Y1 (fun z=>hi z.1)];simp only[XV,Vt (Ne.symm hi)]
   have mono:∀x,ow.getD x none≠none->(ow.setIfInBounds j0 (some k)).getD x none≠none:=fun x o=>by
    rw[e];split
    .intro z;cases z
    .exact o
   refine ih _ _ _ _ (by rw[Wf];exact b) d (fun j i a=>?_) h2;rw[e]at a
   split at a
   .rename_i hc
    cases a;rw[hc.1];exact⟨h,q,f.mono mono⟩
   .obtain⟨h',n,g⟩:=h1 j i a;exact⟨h',n,g.mono mono⟩
theorem ZA{w:WZ}{t t':SetTable}{es:Array (Int×Value)}{n:Nat}{o:Array Nat}(T:Ni w t)(h:t.relaid (es.map (·.1)) n=some (t',o))(hall:∀x∈o.toList,x < es.size):D0 t' (o.filterMap (fun x=>es[x]?)):=by
 have T':=T.laid h;unfold SetTable.relaid SetTable.laid at h;obtain⟨ow,s,h⟩:=Wi.mp h;cases h;unfold SetTable.layClean at s;obtain⟨⟨c,k1⟩,d,rfl⟩:=YE.mp s;rw[<-Array.foldl_toList]at d;have hp:=Zq (mask:=SetTable.sizeAbove n - 1) (es.map (·.1)).toList (es.map (·.1)).toList (Array.replicate (SetTable.sizeAbove n - 1+ 1) none) c 0 k1 (by simp) rfl (fun j i h=>by simp[Array.getD]at h) d;have mem:∀j k,j < SetTable.sizeAbove n - 1+ 1->c.getD j none=some k->j∈(List.map (fun x=>x.1) ((List.range (SetTable.sizeAbove n - 1+ 1)).filterMap fun j=>Option.map (fun x=>(j,x)) (c.getD j none))):=fun j k hj g=>by
  refine YD.mpr ⟨(j,k),UU.mpr ⟨j,by simpa using hj,by rw[g];rfl⟩,rfl⟩
 intro q u;have hz:(List.map (fun x=>x.1) ((List.range (SetTable.sizeAbove n - 1+ 1)).filterMap fun j=>Option.map (fun x=>(j,x)) (c.getD j none))).zip (List.filterMap (fun x=>es[x]?) (List.map (fun x=>x.2) ((List.range (SetTable.sizeAbove n - 1+ 1)).filterMap fun j=>Option.map (fun x=>(j,x)) (c.getD j none))))=((List.range (SetTable.sizeAbove n - 1+ 1)).filterMap fun j=>Option.map (fun x=>(j,x)) (c.getD j none)).map fun x=>(x.1,es.getD x.2 (0,.none)):=by
  have key:∀l:List (Nat×Nat),(∀x∈l,x.2 < es.size)->(l.map fun x=>x.1).zip ((l.map fun x=>x.2).filterMap fun x=>es[x]?)=l.map fun x=>(x.1,es.getD x.2 (0,.none)):=by
   intro l
   induction l with
   |nil=>intro _;rfl
   |cons x l ih=>
    intro v;have f:=v x (.head _);rw[List.map_cons,List.map_cons,List.filterMap_cons_some (Yq f),Xv,ih (fun y e=>v y (.tail _ e)),List.map_cons];simp[Array.getD,f]
  refine key _ fun x f=>hall x.2 ?_
  exact YD.mpr ⟨x,f,rfl⟩
 rw[Wr]at u;have r:q∈(List.map (fun x=>x.1) ((List.range (SetTable.sizeAbove n - 1+ 1)).filterMap fun j=>Option.map (fun x=>(j,x)) (c.getD j none))).zip (List.filterMap (fun x=>es[x]?) (List.map (fun x=>x.2) ((List.range (SetTable.sizeAbove n - 1+ 1)).filterMap fun j=>Option.map (fun x=>(j,x)) (c.getD j none)))):=u;rw[hz]at r;obtain⟨⟨j,k⟩,g1,rfl⟩:=YD.mp r;obtain⟨j',g2,g3⟩:=UU.mp g1;obtain⟨k',g4,g5⟩:=YE.mp g3;cases g5;obtain⟨hh,g6,a,g7,g8⟩:=hp j k g4;have g:k < es.size:=hall k (YD.mpr ⟨(j,k),g1,rfl⟩);have e1:(es.getD k (0,.none)).1=hh:=by
  simp at g6;obtain⟨y,e⟩:=g6;simp[Array.getD,g];rw[Yq g]at e;rw[Yr e]
 dsimp only;rw[e1];obtain⟨TT,p⟩:∃TT:SetTable,TT={mask:=SetTable.sizeAbove n - 1,place:=(List.map (fun x=>x.1) ((List.range (SetTable.sizeAbove n - 1+ 1)).filterMap fun j=>Option.map (fun x=>(j,x)) (c.getD j none))).toArray,dummies:=#[],finger:=t.finger,led:=t.led,moves:=t.movedTo (SetTable.sizeAbove n - 1),plain:=t.plain}:=⟨_,rfl⟩;rw[<-p]at T' ⊢;have e2:∀b,(Jx TT b (TT.probeStart hh)).j=(Jx (tm (SetTable.sizeAbove n - 1)) b (MN (SetTable.sizeAbove n - 1) (SetTable.bits hh%(SetTable.sizeAbove n - 1+ 1)) (SetTable.bits hh))).j:=fun b=>by
  rw[show TT.probeStart hh=(MN (SetTable.sizeAbove n - 1) (SetTable.bits hh%(SetTable.sizeAbove n - 1+ 1)) (SetTable.bits hh)) by rw[p];rfl,CG (t:=TT) (t':=tm (SetTable.sizeAbove n - 1)) (by rw[p];rfl)]
 refine⟨a,by rw[e2];exact g7,fun b hb=>?_⟩;have z:=g8 b hb;rw[e2];refine FB T'.ris ?_;cases hc:c.getD (Jx (tm (SetTable.sizeAbove n - 1)) b (MN (SetTable.sizeAbove n - 1) (SetTable.bits hh%(SetTable.sizeAbove n - 1+ 1)) (SetTable.bits hh))).j none with
 |none=>exact absurd hc z.2
 |some x=>
  have h9:=mem _ x z.1 hc;rw[p];exact h9
theorem uX{t:SetTable}(r:GG t.place){i j:Nat}(h:t.place[i]?=some j):t.slot j= .live i:=by
 obtain⟨hi,b⟩:=U0.mp h;have n:=FB r (j:=j) (U5.mpr (WB h));have e:SetTable.below t.place j=i:=by
  obtain⟨p,l,g⟩:=EW r j;have f:∀k (a:k < t.place.size) d,t.place.getD k d=t.place[k]:=fun k a d=>by simp[Array.getD,a]
  rcases Ve i (SetTable.below t.place j) with c|c|c
  .have:=l i c;rw[f i hi,b]at this;lia
  .exact c.symm
  .have h2:=EB r c hi j;have o:=g _ (Y7 _) (by lia);rw[f i hi,b]at h2;lia
 unfold SetTable.slot;dsimp only;rw[e,Y3 (by rw[h];exact XR _)]
def GO(P:WV)(w:WZ)(R:List Jv->Addr->Prop)(o:Obj)(ks:List (List Jv)):Prop:=∃es ep t,o.ExactSet/\o.data= .set es ep t/\t.fits es.size=true/\Ni w t/\(t.mask=7/\es.size <=4\/t.mask=31/\es.size <=8)/\D0 t es/\es.size=ks.length/\ks.Nodup/\(∀e∈es.toList,∃k b,e=((TK P w).hash k,.ref b)/\R k b/\k∈ks)/\∀k∈ks,∃b,((TK P w).hash k,Value.ref b)∈es.toList/\R k b
section
variable{prog:WV}{w:WZ}{A:WY}{E:WR}{s:WW}
theorem SJ{S a:J2}{o:Obj}{ks:List (List Jv)}{k:List Jv}{Q:Bool->Shared->Prop}{R:List Jv->Addr->Prop}(hr:(TK prog w).room A)(hR:∀k a,R k a->(TK prog w).is s.heap k a)(hka:R k a)(ho:s.heap.get? S=some o)(hS:GO prog w R o ks)(hn:k∉ks->ks.length <=7)
  (hQ:∀ (b:Bool) (o':Obj) (h':J6) (tk:Nat) (ks':List (List Jv)),GO prog w R o' ks'->(k∈ks/\ks'=ks\/k∉ks/\ks'=ks++[k])->Heap.SameBut S s.heap h'->h'.get? S=some o'->Q b {s with heap:=h',toks:=tk}):wpAny (model prog w) A (setAdd S (.ref a)) Q E s:=by
 have hS0:=hS;obtain⟨es,ep,t,hx,hd,hf,T,hm,R0,hsz,hnd,he,he2⟩:=hS;have hk:=hR k a hka;have hz:t.place.size=es.size:=by
  have:=hf;unfold SetTable.fits at this;simp at this;exact this.1
 have F:RX (t.mask+ 1):=by
  rcases hm with⟨h,_⟩|⟨h,_⟩ <;> rw[h]
  .exact jT
  .exact Pq
 unfold setAdd;refine YJ (Y0 ((TK prog w).pyHash hr hk ?_));unfold setAddHashed;refine YJ ?_;show wpAny _ _ (setAddHashedIn S (.ref a) ((TK prog w).hash k) (99999+ 1)) _ _ _;unfold setAddHashedIn;refine Y0 (YC ho hd hf ?_);dsimp only;refine Yn (by rfl) ?_;refine Y0 ?_;unfold setSearch;refine wK (s:={s with toks:=s.toks+ (TK prog w).draws k}) hr hk ho hd hf T (by unfold SetTable.gaveWay;rcases hm with⟨h,_⟩|⟨h,_⟩ <;> rw[h] <;> rfl) (fun e h1=>?_) (fun h1=>?_) (fun h1 j hj hpath=>?_) (10*(t.mask+ 13)) 100000 0 none rfl (fun b h=>by lia) (fun b h=>by lia) (yS F T.dum (by rcases hm with⟨h,_⟩|⟨h,_⟩ <;> lia) _) (by rcases hm with⟨h,_⟩|⟨h,_⟩ <;> rw[h] <;> decide) (Y7 _)
 .obtain⟨k',b,g,v,g3⟩:=he e h1;exact⟨b,k',g,hR _ _ v⟩
 .obtain⟨b,g,v⟩:=h1;obtain⟨k',b',g3,g4,g5⟩:=he _ g;have:b=b':=by
   have:=(Prod.mk.inj g3).2;injection this
  subst this;have:k=k':=(TK prog w).inj v (hR _ _ g4);subst this;refine Y2 (hQ false o s.heap _ ks hS0 (.inl ⟨g5,rfl⟩) ⟨rfl,fun _ _=>rfl⟩ ho)
 have hnew:k∉ks:=fun z=>by
  obtain⟨b,g,v⟩:=he2 k z;obtain⟨i,hi,hie⟩:=Ug g;have hi':i < es.size:=by simpa using hi
  have hie':es[i]?=some ((TK prog w).hash k,.ref b):=by rw[Yq hi'];simpa using hie
  have hp:t.place[i]?=some t.place[i]:=Yq (by lia);have hq:(t.place[i],((TK prog w).hash k,Value.ref b))∈t.place.toList.zip es.toList:=by
   refine Yy.mpr ⟨i,?_⟩;rw[W2];exact⟨by rw[Array.getElem?_toList];exact hp,by rw[Array.getElem?_toList];exact hie'⟩
  obtain⟨c,c1,c2⟩:=R0 _ hq;exact h1 c i (by rw[c1];exact uX T.ris hp) b hie' c2 (hR _ _ v)
 have hn7:=hn hnew;refine Y0 (YC ho hd hf ?_);have T1:=T.put hj;have RR:=D0.put (e:=((TK prog w).hash k,Value.ref a)) T hz hj R0 hpath;have p1:=Vk es (t.put j).2 ((TK prog w).hash k,.ref a);have z1:(t.put j).1.place.size=es.size+ 1:=by
  have:=(Vk t.place (SetTable.below t.place j) j).length_eq;simp only[Array.length_toList,Array.size_push]at this;show(SetTable.insertAt t.place (SetTable.below t.place j) j).size=_;rw[this,hz]
 have z2:(SetTable.insertAt es (t.put j).2 ((TK prog w).hash k,Value.ref a)).size=es.size+ 1:=by
  have:=p1.length_eq;simpa using this
 have mk1:(t.put j).1.mask=t.mask:=rfl;generalize t.put j=z at T1 p1 z1 z2 mk1 RR;obtain⟨t1,p⟩:=z;dsimp only at T1 p1 z1 z2 mk1 RR ⊢;generalize SetTable.insertAt es p ((TK prog w).hash k,Value.ref a)=es1 at p1 z2 RR;have fin:∀ (f:Array (Int×Value)) (l:SetTable) (ep':Nat) (h':J6) (tk:Nat),f.toList.Perm es1.toList->l.fits f.size=true->Ni w l->(l.mask=7/\f.size <=4\/l.mask=31/\f.size <=8)->D0 l f->Heap.SameBut S s.heap h'->h'.get? S=some {cls:=o.cls,dict:=o.dict,data:=.set f ep' l,slots:=o.slots}->Q true {s with heap:=h',toks:=tk}:=fun f l ep' h' tk q1 q2 q3 q4 qr q5 q6=>by
  have mem:∀e,e∈f.toList↔e∈es.toList\/e=((TK prog w).hash k,Value.ref a):=fun e=>by
   rw[q1.mem_iff,p1.mem_iff,Vd,Ye,Y9]
  refine hQ true {cls:=o.cls,dict:=o.dict,data:=.set f ep' l,slots:=o.slots} h' tk (ks++[k]) ⟨f,ep',l,hx,rfl,q2,q3,q4,qr,?_,?_,fun e h1=>?_,fun k' h1=>?_⟩ (.inr ⟨hnew,rfl⟩) q5 q6
  .rw[List.length_append,UA,<-hsz,<-z2];simpa using q1.length_eq
  .exact U3.mpr ⟨hnd,by simp,fun a ha b hb=>by rw[Y9]at hb;subst hb;exact fun z=>hnew (z▸ha)⟩
  .rcases(mem e).mp h1 with h2|rfl
   .obtain⟨k',b,g,v,g3⟩:=he e h2;exact⟨k',b,g,v,X5 _ g3⟩
   .exact⟨k,a,rfl,hka,Yt _ (.head _)⟩
  .rcases Ye.mp h1 with h2|h2
   .obtain⟨b,g,v⟩:=he2 k' h2;exact⟨b,(mem _).mpr (.inl g),v⟩
   .rw[Y9.mp h2];exact⟨a,(mem _).mpr (.inr rfl),hka⟩
 have sl:∀n:Nat,n <=5000->n <=sizeLine:=fun n h=>by rw[YR];lia
 have tail : ∀ (d : SetTable), Ni w d -> d.place.size = es.size + 1 -> d.mask = t.mask -> D0 d es1 -> wpAny (model prog w) A (do
   storeSet S es1 d
   if(!false && d.tooFull)=true then do
     setRelay S (SetTable.grown (es.size+ 1))
     pure true
    else pure true) Q E { s with toks := s.toks + (TK prog w).draws k } := fun d T2 z3 m2 R2 => by
  have f2:d.fits es1.size=true:=by
   unfold SetTable.fits SetTable.fill;rw[T2.dum,z3,z2,m2];simp;rcases hm with⟨h,_⟩|⟨h,_⟩ <;> lia
  have fl:d.fill=es.size+ 1:=by unfold SetTable.fill;rw[T2.dum,z3];rfl
  refine Y0 (wpAny_storeSet_of ho hd ?_ (sl _ (by rcases hm with⟨h,_⟩|⟨h,_⟩ <;> lia)));have q:=putSet_of es1 d hd;have g:(s.heap.update S (Obj.putSet es1 d)).get? S=some {cls:=o.cls,dict:=o.dict,data:=Data.set es1 (ep+ 1) d,slots:=o.slots}:=by
   rw[YQ _ ho (by rw[q];exact ON hx),q]
  have b1:Heap.SameBut S s.heap (s.heap.update S (Obj.putSet es1 d)):=⟨YK ..,fun b hb=>YV _ _ _ _ hb⟩
  by_cases hc:(!false && d.tooFull)=true
  .rw[Y3 hc];have r:d.fill*5≥d.mask*3:=by simpa[SetTable.tooFull] using hc
   rw[fl,m2]at r;have h5:es.size=4/\t.mask=7:=by
    rcases hm with⟨h,h2⟩|⟨h,h2⟩
    .rw[h]at r;exact⟨by lia,h⟩
    .rw[h]at r;exfalso;lia
   rw[h5.1];unfold setRelay;refine Y0 (Y0 (YC g rfl f2 ?_));dsimp only;refine Yn (by decide +kernel) ?_;obtain⟨l,o',r1,r2,r3,r4,r5,r6⟩:=Qm (t:=d) (es:=es1) (n:=SetTable.grown (4+ 1)) (by rw[show SetTable.sizeAbove (SetTable.grown (4+ 1)) - 1+ 1=32 by decide +kernel];exact Pq) (by rw[show SetTable.sizeAbove (SetTable.grown (4+ 1)) - 1+ 1=32 by decide +kernel,z2];lia);rw[r1];have u:(o'.filterMap (fun x=>es1[x]?)).size=es1.size:=by rw[<-Array.length_toList,r5.length_eq,Array.length_toList]
   have T3:=T2.laid r1;have R3:=ZA T2 r1 fun x hx=>by simpa using r6.mem_iff.mp hx
   refine Y0 (?_:wpAny _ _ (if((o'.filterMap (fun x=>es1[x]?)).size !=es1.size)=true then _ else pure (o'.filterMap (fun x=>es1[x]?),l)) _ _ _);refine Yn (by simp[u]) (Y2 ?_);dsimp only;refine wpAny_storeSet_of g rfl (Y2 ?_) (sl _ (by rw[u];lia));have q2:=putSet_of (o:={cls:=o.cls,dict:=o.dict,data:=Data.set es1 (ep+ 1) d,slots:=o.slots}) (o'.filterMap (fun x=>es1[x]?)) l rfl;refine fin _ l (ep+ 2) _ _ r5 ?_ T3 (.inr ⟨?_,by rw[u];lia⟩) R3 ⟨by rw[YK,YK],fun b hb=>by rw[YV _ _ _ _ hb];exact b1.2 b hb⟩ ?_
   .unfold SetTable.fits SetTable.fill;rw[r4,r3,u,r2,show SetTable.sizeAbove (SetTable.grown (4+ 1)) - 1=31 by decide +kernel];simp;lia
   .rw[r2];decide +kernel
   .rw[YQ _ g (by rw[q2];exact ON hx),q2]
  .rw[Y1 hc];refine Y2 (fin _ _ _ _ _ (WA _) f2 T2 ?_ R2 b1 g);have r:¬d.fill*5≥d.mask*3:=by simpa[SetTable.tooFull] using hc
   rw[fl,m2]at r;rw[m2,z2];rcases hm with⟨h,h2⟩|⟨h,h2⟩
   .rw[h]at r;exact .inl ⟨h,by lia⟩
   .exact .inr ⟨h,by lia⟩
 by_cases hp:t1.plain=true
 .rw[Y3 hp];refine Y0 (wT hk fun bv=>?_);refine tail _ (T1.plain bv) ?_ ?_ ?_
  .cases bv <;> exact z1
  .cases bv <;> exact mk1
  .cases bv
   .exact fun q hq=>EX.mono (t:=t1) (t1:={t1 with plain:=false}) rfl (fun x h=>h) (RR q hq)
   .exact RR
 .rw[Y1 hp];exact Y0 (Y2 (tail t1 T1 z1 mk1 RR))
end
theorem PB{α:Type}[DecidableEq α]:∀{ks c:List α},ks.Nodup->(∀k∈ks,k∈c)->c.length=ks.length->c.Perm ks
 |[],c,_,_,h=>by rw[List.eq_nil_of_length_eq_zero h]
 |k::ks,c,hn,ha,h=>by
  have hk:=ha k (.head _);have:=PB (ks:=ks) (c:=c.erase k) (Xt.mp hn).2 (fun a h'=>(VE (fun z:a=k=>(Xt.mp hn).1 (z▸h'))).mpr (ha a (.tail _ h'))) (by rw[V0 hk,h];rfl);exact(List.perm_cons_erase hk).trans (this.cons k)
section
variable{X:Cx}{K:J0}{w:WZ}{P:WV}
def Aj(H:Hp)(k:List Jv)(b:J2):Prop:=∃k':Ky,k=NE k'/\H b=some (.tup (Me k'))
def FK(K:J0)(w:WZ)(P:WV):List V->Hp->VK->Prop:=fun as H Q=>∃ (p:J2) (ts:List Addr) (c u:List Ky),as=[.ref p]/\Je K H p (ts.map V.ref)/\ts.length=c.length/\(∀ (i:Nat) t k,ts[i]?=some t->c[i]?=some k->H t=some (.tup (Me k)))/\u.length <=8/\(∀k∈c,k∈u)/\∀ (o:Obj) (m:List Ky) l G,m.Nodup->(∀k,k∈m↔k∈c)->GO P w (Aj H) o (m.map NE)->H l=none->J9 H G->G l=some (.frz o (.own l))->Q (.ref l) G
theorem An{m u:List Ky}(hn:m.Nodup)(h:∀k∈m,k∈u):m.length <=u.length:=by
 induction m generalizing u with
 |nil=>exact Yv _
 |cons k m ih=>
  have b:=h k (.head _);have:=ih (u:=u.erase k) (Xt.mp hn).2 fun a h'=>(VE (fun z:a=k=>(Xt.mp hn).1 (z▸h'))).mpr (h a (.tail _ h'))
  rw[V0 b]at this;have:=Vj b;rw[List.length_cons];lia
theorem wZ(hc:X.calm=true)(hu:X.A.units+ 64 < cLine)(h:X.K=K)(hw:X.w=w)(hP:X.prog=P):Jt X (.type "set") (FK K w P):=by
 subst h;subst hw;subst hP;intro pins s σ H xs us Q I r hh;obtain⟨p,ts,c,u,rfl,hq,htl,htk,hul,hcu,q⟩:=hh;obtain⟨v,rfl,rx⟩:=R4 r;cases rx;obtain⟨l,rv,pl,hz⟩:=I.list hq;have hlen:ts.length=l.length:=by simpa using rv.length
 refine Zn (fun i o=>∃m:List Ky,m.Nodup/\(∀k,k∈m↔k∈c.take i)/\GO X.prog X.w (Aj H) o (m.map NE)) (I.ok.hd hc) pl.isList ?_ (fun i v o s' A' E' Q' hv hj ho n hu' hQ=>?_) fun o h' tk hj ho n=>?_
 .exact⟨[],.nil,fun k=>by simp,#[],0,SetTable.fresh 0 0 (!MT X.w),⟨rfl,rfl,rfl⟩,rfl,rfl,⟨rfl,rfl,.nil⟩,.inl ⟨rfl,Yv _⟩,fun q hq=>by simp at hq,rfl,.nil,fun e he=>by simp at he,fun k n=>by simp at n⟩
 .obtain⟨m,d,j,hS⟩:=hj;have hv':l[i]?=some v:=by simpa using hv
  have hi:i < l.length:=(Y6.mp hv').1;have hx:(ts.map V.ref)[i]?=some (V.ref (ts[i]'(by lia))):=by rw[Yf,Y5 (by lia)];rfl
  obtain⟨x,hu2,ru⟩:=rv.get (i:=i) hx;rw[hv']at hu2;cases hu2;cases ru;have g:c[i]?=some (c[i]'(by lia)):=Y5 (by lia);have hk2:H (ts[i]'(by lia))=some (.tup (Me (c[i]'(by lia)))):=htk i _ _ (Y5 (by lia)) g;generalize c[i]'(by lia)=k0 at g hk2;have aa:∀k,NE k∈m.map NE↔k∈m:=fun k=>⟨fun z=>by obtain⟨k',h1,h2⟩:=YD.mp z;rw[<-Cp h2];exact h1,fun z=>YD.mpr ⟨k,z,rfl⟩⟩
  have f:∀k,k∈c.take (i+ 1)↔k∈c.take i\/k=k0:=fun k=>by
   rw[YZ,g,Ye];simp
  refine SJ (k:=NE k0) (R:=Aj H) (show A'.units < cLine by lia) (fun k b ⟨k',e1,e2⟩=>?_) ⟨_,rfl,hk2⟩ ho hS (fun hnew=>?_) fun b o' h' tk ks' hS' hks hsb ho'=>hQ b o' h' tk ?_ hsb ho'
  .obtain⟨o1,i1,n1,a1,a2,a3,a4⟩:=E1 (ks:=NE k') I.hok e2;subst e1;exact⟨o1,i1,n1,n _ _ a1,a2,a3,a4⟩
  .rw[Y4];have:(m++[k0]).length <=u.length:=An (U3.mpr ⟨d,by simp,fun a ha b hb=>by rw[Y9]at hb;subst hb;exact fun z=>hnew ((aa _).mpr (z▸ha))⟩) fun k hk'=>by
    rcases Ye.mp hk' with z|z
    .exact hcu k (Xd ((j k).mp z))
    .rw[Y9.mp z];exact hcu _ (YB g)
   rw[List.length_append,UA]at this
   lia
  .rcases hks with⟨h1,rfl⟩|⟨h1,rfl⟩
   .refine⟨m,d,fun k=>?_,hS'⟩;rw[f,<-j];exact⟨.inl,fun z=>z.elim id fun e=>e▸(aa _).mp h1⟩
   .refine⟨m++[k0],U3.mpr ⟨d,by simp,fun a ha b hb=>by rw[Y9]at hb;subst hb;exact fun z=>h1 ((aa _).mpr (z▸ha))⟩,fun k=>?_,by rw[Yw];exact hS'⟩;rw[f,<-j,Ye,Y9]
 .obtain⟨m,d,j,hS⟩:=hj;have hf:H s.heap.objs.size=none:=I.hok.fresh (Y7 _);rw[Yc,<-hlen,htl,YS (Y7 _)]at j;exact⟨.ref s.heap.objs.size,upd H s.heap.objs.size (.frz o (.own s.heap.objs.size)),I.laid (t':=tk) n (Y7 _) ⟨ho,_,ho⟩,rfl,q o m _ _ d j hS hf (ML hf) ND⟩
def HI(w:WZ)(P:WV):List V->Hp->VK->Prop:=fun as H Q=>∃ (p:J2) (o:Obj) (m:List Ky) (H0:Hp),as=[.ref p]/\H p=some (.frz o (.own p))/\J9 H0 H/\GO P w (Aj H0) o (m.map NE)/\m.length <=8/\∀ (ks:List Ky) (ts:List Addr) l G,ks.Perm m->ks.Pairwise (fun a b=>TV b a=false)->ts.length=ks.length->(∀ (i:Nat) t k,ts[i]?=some t->ks[i]?=some k->H t=some (.tup (Me k)))->H l=none->J9 H G->G l=some (.lst (ts.map V.ref))->Q (.ref l) G
theorem vZ(hc:X.calm=true)(hu:X.A.units+ 64 < cLine)(hw:X.w=w)(hP:X.prog=P):Jt X (.builtin "sorted") (HI w P):=by
 subst hw;subst hP;intro pins s σ H xs us Q I r hh;obtain⟨p,o,m,H0,rfl,hp,hs0,hS,hml,q⟩:=hh;obtain⟨v,rfl,rx⟩:=R4 r;cases rx;obtain⟨ho,_⟩:=(show s.heap.get? p=some o/\_ from I.hok p _ hp);obtain⟨es,ep,t,h1,h2,hf,T,hm,_,hsz,hnd,he,he2⟩:=hS;rw[Y4]at hsz;refine UR kind_sorted plain_sorted entry_sorted (args_sorted1 _) ?_;unfold Builtin.«sorted»;refine Y0 (m:=checkCount "sorted" 1 1 _) (Y2 ?_);refine Y0 (jD (A:=X.A.in1) (I.ok.hd hc) ho h1 h2 hf T (by lia) fun h' tk d vs hk hvs=>?_);have I2:Jb X pins σ H {s with heap:=h',toks:=tk,drawn:=d}:=(I.kept hk).drawn d;have hvl:vs.length=es.size:=by rw[hvs.length_eq,Y4,Array.length_toList]
 -- each value is a key's tuple
 have hall:∀v∈vs,∃b,v= .ref b/\∃k:Ky,H b=some (.tup (Me k))/\k∈m:=fun v j=>by
  obtain⟨e,he1,rfl⟩:=YD.mp (hvs.mem_iff.mp j);obtain⟨k,b,g1,⟨k',g2,g3⟩,g4⟩:=he e he1;obtain⟨k2,g5,g6⟩:=YD.mp g4;rw[g2]at g6;exact⟨b,by rw[g1],k',hs0 _ _ g3,by rw[<-Cp g6];exact g5⟩
 obtain⟨bs,aa⟩:∃bs:List Addr,bs=vs.map fun v=>match v with| .ref b=>b|_=>0:=⟨_,rfl⟩
 have hbl:bs.length=vs.length:=by rw[aa,Y4]
 have hb1:∀ (i:Nat) v,vs[i]?=some v->∃b,bs[i]?=some b/\v= .ref b:=fun i v j=>by
  obtain⟨b,e,_⟩:=hall v (YB j);exact⟨b,by rw[aa,Yf,j,e];rfl,e⟩
 have hkey:∀b∈bs,∃k:Ky,H b=some (.tup (Me k))/\k∈m:=fun b hb=>by
  rw[aa]at hb;obtain⟨v,j,e⟩:=YD.mp hb;obtain⟨b',f,k,g,n⟩:=hall v j;rw[f]at e;have e:b'=b:=e;exact⟨k,by rw[<-e];exact g,n⟩
 obtain⟨c,hcl,hck⟩:∃c:List Ky,c.length=bs.length/\∀ (i:Nat) b k,bs[i]?=some b->c[i]?=some k->H b=some (.tup (Me k))/\k∈m:=by
  clear aa hb1 hbl
  induction bs with
  |nil=>exact⟨[],rfl,fun i b k h=>by simp at h⟩
  |cons b bs ih=>
   obtain⟨c,g1,g2⟩:=ih fun b' h=>hkey b' (.tail _ h)
   obtain⟨k,g3,g4⟩:=hkey b (.head _);refine⟨k::c,by rw[List.length_cons,List.length_cons,g1],fun i b' k' f g=>?_⟩;cases i with
   |zero=>simp at f g;subst f;subst g;exact⟨g3,g4⟩
   |succ i=>simp at f g;exact g2 i b' k' f g
 have hcm:c.Perm m:=by
  have hmn:m.Nodup:=by
   rw[List.nodup_iff_pairwise_ne,VZ]at hnd;exact hnd.imp fun h z=>h (by rw[z])
  refine PB hmn (fun k hk'=>?_) (by lia);obtain⟨b,g1,k2,g2,g3⟩:=he2 (NE k) (YD.mpr ⟨k,hk',rfl⟩);have j:Value.ref b∈vs:=hvs.mem_iff.mpr (YD.mpr ⟨_,g1,rfl⟩);obtain⟨i,hi⟩:=Yy.mp j;obtain⟨b',f,g⟩:=hb1 i _ hi;cases g;have hlt:=(Y6.mp f).1;have u:c[i]?=some (c[i]'(by lia)):=Y5 (by lia);have:=(hck i b _ f u).1;rw[hs0 _ _ g3,<-Cp g2]at this;have n:Me k=Me (c[i]'(by lia)):=by
   injection this with this;injection this
  have e4:k=c[i]'(by lia):=by
   unfold Me at n;simp at n;exact UI n.1 (UI n.2.1 n.2.2)
  rw[e4];exact XG _
 refine xP hu I2 (vs:=vs) (as:=bs) (c:=c) (by lia) (by lia) (fun i hi=>?_) (by rw[hcm.length_eq];lia) fun ks ts l G hp=>q ks ts l G (hp.trans hcm)
 have gi:vs[i]?=some (vs[i]'(by lia)):=Y5 (by lia);obtain⟨b,f,g⟩:=hb1 i _ gi;have u:c[i]?=some (c[i]'hi):=Y5 hi;have h3:=(hck i b _ f u).1;rw[Yu,gi,Yu,f,Yu,u];exact⟨g,h3⟩
end
def mI(x:V)(Q:Int->Prop):Prop:=match x with| .int i=>Q i|_=>False
def mB(x:V)(Q:Bool->Prop):Prop:=match x with| .bl i=>Q i|_=>False
def mR(x:V)(Q:Addr->Prop):Prop:=match x with| .ref i=>Q i|_=>False
def mV(x:Option (Option V))(Q:V->Prop):Prop:=match x with|some (some v)=>Q v|_=>False
def mA(x:List V)(Q:V->Prop):Prop:=match x with|[v]=>Q v|_=>False
def mC(c:Bool)(A B:Prop):Prop:=if c=true then A else B
theorem xK(A B:Prop):mC true A B=A:=rfl
theorem ZR(A B:Prop):mC false A B=B:=rfl
theorem Sz(c:TT)(t u:TS)(D:Dy)(σ:St)(H:Hp):HH c t u D σ H=c σ H fun b H1=>mC b (t D σ H1) (u D σ H1):=rfl
theorem ZT(t u:TT)(σ:St)(H:Hp)(Q:Bool->Hp->Prop):Iy t u σ H Q=t σ H fun c H1=>mC c (u σ H1 Q) (Q false H1):=rfl
theorem tP(t u:TT)(σ:St)(H:Hp)(Q:Bool->Hp->Prop):FX t u σ H Q=t σ H fun c H1=>mC c (Q true H1) (u σ H1 Q):=rfl
theorem jW(t:TT)(ta tb:TE)(σ:St)(H:Hp)(Q:VK):IR t ta tb σ H Q=t σ H fun c H1=>mC c (ta σ H1 Q) (tb σ H1 Q):=rfl
theorem FJ(i:Int)(Q:Int->Prop):mI (.int i) Q=Q i:=rfl
theorem IU(i:Bool)(Q:Bool->Prop):mB (.bl i) Q=Q i:=rfl
theorem Of(i:J2)(Q:Addr->Prop):mR (.ref i) Q=Q i:=rfl
theorem K3(v:V)(Q:V->Prop):mV (some (some v)) Q=Q v:=rfl
theorem PL(v:V)(Q:V->Prop):mA [v] Q=Q v:=rfl
theorem Rj(x:V)(Q:Int->Prop):mI x Q=∃i,x= .int i/\Q i:=propext ⟨fun h=>by cases x <;> first|exact⟨_,rfl,h⟩|exact h.elim,fun⟨_,e,h⟩=>by subst e;exact h⟩
theorem BF(x:V)(Q:Bool->Prop):mB x Q=∃i,x= .bl i/\Q i:=propext ⟨fun h=>by cases x <;> first|exact⟨_,rfl,h⟩|exact h.elim,fun⟨_,e,h⟩=>by subst e;exact h⟩
theorem Dx(x:V)(Q:Addr->Prop):mR x Q=∃i,x= .ref i/\Q i:=propext ⟨fun h=>by cases x <;> first|exact⟨_,rfl,h⟩|exact h.elim,fun⟨_,e,h⟩=>by subst e;exact h⟩
theorem P0(x:Option (Option V))(Q:V->Prop):mV x Q=∃v,x=some (some v)/\Q v:=propext ⟨fun h=>by rcases x with _|_|v <;> first|exact⟨_,rfl,h⟩|exact h.elim,fun⟨_,e,h⟩=>by subst e;exact h⟩
theorem Bx(x:List V)(Q:V->Prop):mA x Q=∃v,x=[v]/\Q v:=propext ⟨fun h=>by rcases x with _|⟨v,_|⟨u,l⟩⟩ <;> first|exact⟨_,rfl,h⟩|exact h.elim,fun⟨_,e,h⟩=>by subst e;exact h⟩
section
variable{X:Cx}{K:J0}
def EC(i:Nat):TE:=fun σ H Q=>mV σ[i]? fun v=>Q v H
theorem Ja(i:Nat){x:Str}{pos:Pos}(hN:X.N[i]?=some x:=by rfl)(hv:B0 X.env.scope x:=by first|exact Or.inl rfl|exact Or.inr (Or.inl rfl)|exact Or.inr (Or.inr rfl))(hd:(x==("__debug__":Str))=false:=by decide)(hcd:(x==("__classdict__":Str))=false:=by decide):PE X (.Name x pos) (EC i):=
 fun pins s σ H Q I h=>pv i hN hv hd hcd pins s σ H Q I (by unfold EC at h;rw[P0]at h;exact h)
def CS(C:Int->Int->Prop)(g:Int->Int->V):R2:=fun x y H Q=>mI x fun i=>mI y fun j=>C i j/\Q (g i j) H
def BM(g:Int->Int->V):R2:=fun x y H Q=>mI x fun i=>mI y fun j=>Q (g i j) H
theorem dI{f:Value->Value->Sem Value}{C:Int->Int->Prop}{g:Int->Int->V}(h:JW X f (rI C g)):JW X f (CS C g):=h.imp fun x y H Q q=>by
 unfold CS at q;simp only[Rj]at q;obtain⟨i,e,j,a,q⟩:=q;exact⟨i,j,e,a,q⟩
theorem Nj{f:Value->Value->Sem Value}{g:Int->Int->V}(h:JW X f (GY g)):JW X f (BM g):=h.imp fun x y H Q q=>by
 unfold BM at q;simp only[Rj]at q;obtain⟨i,e,j,a,q⟩:=q;exact⟨i,j,e,a,q⟩
def Bd:R2:=fun x y H Q=>match x,y with
 | .int a,.int b=>MU (.int a) (.int b)=true/\Q (.bl (decide (a=b))) H
 | .str a,.str b=>MU (.str a) (.str b)=true/\Q (.bl (decide (a=b))) H
 |x,y=>MU x y=true/\Q (.bl (decide (x=y))) H
def BD:R2:=fun x y H Q=>match x,y with
 | .int a,.int b=>MU (.int a) (.int b)=true/\Q (.bl (!decide (a=b))) H
 | .str a,.str b=>MU (.str a) (.str b)=true/\Q (.bl (!decide (a=b))) H
 |x,y=>MU x y=true/\Q (.bl (!decide (x=y))) H
theorem KN(a b:Int)(H:Hp)(Q:VK):Bd (.int a) (.int b) H Q=(MU (.int a) (.int b)=true/\Q (.bl (decide (a=b))) H):=rfl
theorem KF(a b:Str)(H:Hp)(Q:VK):Bd (.str a) (.str b) H Q=(MU (.str a) (.str b)=true/\Q (.bl (decide (a=b))) H):=rfl
theorem Le(a b:Int)(H:Hp)(Q:VK):BD (.int a) (.int b) H Q=(MU (.int a) (.int b)=true/\Q (.bl (!decide (a=b))) H):=rfl
theorem Kz(a b:Str)(H:Hp)(Q:VK):BD (.str a) (.str b) H Q=(MU (.str a) (.str b)=true/\Q (.bl (!decide (a=b))) H):=rfl
theorem Lp(x y:V)(H:Hp)(Q:VK):Bd x y H Q=(MU x y=true/\Q (.bl (decide (x=y))) H):=by
 unfold Bd
 split
 .simp[MU]
 .simp[MU]
 .rfl
theorem OQ(x y:V)(H:Hp)(Q:VK):BD x y H Q=(MU x y=true/\Q (.bl (!decide (x=y))) H):=by
 unfold BD
 split
 .simp[MU]
 .simp[MU]
 .rfl
theorem Mz{f:Value->Value->Sem Value}(h:JW X f Ax):JW X f Bd:=h.imp fun x y H Q q=>by rw[Lp]at q;exact q
theorem Fe{f:Value->Value->Sem Value}(h:JW X f AQ):JW X f BD:=h.imp fun x y H Q q=>by rw[OQ]at q;exact q
def R7(t:TE):TT:=fun σ H Q=>t σ H fun x H1=>mB x fun c=>Q c H1
theorem Oj(t:TE):tB t=R7 t:=by unfold tB R7;simp only[BF]
theorem cB{e:J7}{t:TE}(h:PT X e (tB t)):PT X e (R7 t):=Oj t▸h
theorem cT{e:J7}{t:TE}(h:PT X e (By t)):PT X e (R7 t):=Oj t▸h
def EQ(ta tb:TE):TE:=fun σ H Q=>ta σ H fun x H1=>mB x fun c=>mC c (tb σ H1 Q) (Q (.bl false) H1)
def EA(ta tb:TE):TE:=fun σ H Q=>ta σ H fun x H1=>mB x fun c=>mC c (Q (.bl true) H1) (tb σ H1 Q)
def Er(ta:TE):TE:=fun σ H Q=>ta σ H fun x H1=>mB x fun c=>Q (.bl (!c)) H1
theorem jE{e:J7}{ta tb:TE}(h:PE X e (ER ta tb)):PE X e (EQ ta tb):=by
 have:EQ ta tb=ER ta tb:=by unfold EQ ER mC;simp only[BF]
 rw[this];exact h
theorem vO{e:J7}{ta tb:TE}(h:PE X e (EF ta tb)):PE X e (EA ta tb):=by
 have:EA ta tb=EF ta tb:=by unfold EA EF mC;simp only[BF]
 rw[this];exact h
theorem uV{e:J7}{ta:TE}(h:PE X e (EH ta)):PE X e (Er ta):=by
 have:Er ta=EH ta:=by unfold Er EH;simp only[BF]
 rw[this];exact h
def Ai(K:J0):List V->Hp->VK->Prop:=fun xs H Q=>mA xs fun x=>mR x fun p=>∃ys,(Je K H p ys\/JV K H p ys)/\Q (.int ys.length) H
theorem D1{f:J1}(h:Jt X f (Al K)):Jt X f (Ai K):=h.imp fun xs H Q q=>by
 unfold Ai at q;simp only[Bx,Dx]at q;obtain⟨x,e,p,rfl,ys,h1,q⟩:=q;exact⟨p,ys,e,h1,q⟩
theorem Gk.imp{r r':R2}(h:Gk X r)(hi:∀x y H Q,r' x y H Q->r x y H Q):Gk X r':=fun a b pins s σ H x y v u Q I rx ry q z=>h a b pins s σ H x y v u Q I rx ry (hi _ _ _ _ q) z
def Bf(K:J0):R2:=fun x y H Q=>mR x fun p=>∃xs,mI y fun i=>Je K H p xs/\∃v,Dj xs i=some v/\Q v H
def BH(K:J0):R2:=fun x y H Q=>mR x fun p=>∃xs,mI y fun i=>JV K H p xs/\∃v,Dj xs i=some v/\Q v H
theorem Sw(h:Gk X (Bc K)):Gk X (Bf K):=h.imp fun x y H Q q=>by
 unfold Bf at q;simp only[Rj,Dx]at q;obtain⟨p,e,xs,i,a,h1,v,h2,q⟩:=q;exact⟨p,xs,i,v,e,a,h1,h2,q⟩
theorem ZU(h:Gk X (B8 K)):Gk X (BH K):=h.imp fun x y H Q q=>by
 unfold BH at q;simp only[Rj,Dx]at q;obtain⟨p,e,xs,i,a,h1,v,h2,q⟩:=q;exact⟨p,xs,i,v,e,a,h1,h2,q⟩
def CD:V->List V->Hp->VK->Prop:=fun x vs H Q=>mR x fun l=>mA vs fun y=>∃xs,H l=some (.lst xs)/\xs.length < sizeLine/\∀G,Nd l H G->G l=some (.lst (xs++[y]))->Q .non G
theorem Gz{id:String}(h:DY X id Az):DY X id CD:=h.imp fun x vs H Q q=>by
 unfold CD at q;simp only[Bx,Dx]at q;obtain⟨l,e,y,a,xs,h1,h2,q⟩:=q;exact⟨l,xs,y,e,a,h1,h2,q⟩
def A3(K:J0):List V->Hp->VK->Prop:=fun vs H Q=>mA vs fun x=>mR x fun p=>∃ys,(Je K H p ys\/JV K H p ys)/\∀l G,H l=none->J9 H G->G l=some (.lst ys)->Q (.ref l) G
theorem Hb{f:J1}(h:Jt X f (Ap K)):Jt X f (A3 K):=h.imp fun xs H Q q=>by
 unfold A3 at q;simp only[Bx,Dx]at q;obtain⟨x,e,p,rfl,ys,h1,q⟩:=q;exact⟨p,ys,e,h1,q⟩
def Ci:R2:=fun x y H Q=>mR x fun l=>mR y fun b=>∃xs,H l=some (.lst xs)/\∃zs,H b=some (.lst zs)/\xs.length+ zs.length <=sizeLine/\∀p G,H p=none->J9 H G->G p=some (.lst (xs++zs))->Q (.ref p) G
theorem Kg{f:Value->Value->Sem Value}(h:JW X f AE):JW X f Ci:=h.imp fun x y H Q q=>by
 unfold Ci at q;simp only[Dx]at q;obtain⟨l,e,b,a,xs,h1,zs,h2,q⟩:=q;exact⟨l,b,xs,zs,e,a,h1,h2,q⟩
def ES(ta:TA):TI:=fun σ H R=>ta σ H fun vs H1=>mA vs fun x=>mI x fun j=> -(2 ^ 62) <=j/\j < 2 ^ 62/\R (R8 0 j.toNat) H1
theorem ZX{tg e:J7}{ta:TA}(h:PI X tg e (EE ta)):PI X tg e (ES ta):=by
 have:ES ta=EE ta:=by
  unfold ES EE
  funext σ H R;congr;funext vs H1
  simp only[Bx,Rj];exact propext ⟨fun⟨x,e,j,e2,q⟩=>⟨j,by rw[e,e2],q⟩,fun⟨j,e,q⟩=>⟨_,e,j,rfl,q⟩⟩
 rw[this];exact h
def Ej(K:J0)(tl:TE):TI:=fun σ H R=>tl σ H fun x H1=>mR x fun a=>(∃xs,Je K H1 a xs)/\R (Rv K a) H1
theorem nL{tg e:J7}{tl:TE}(h:PI X tg e (Ed K tl)):PI X tg e (Ej K tl):=by
 have:Ej K tl=Ed K tl:=by unfold Ej Ed;simp only[Dx]
 rw[this];exact h
def Cr(K:J0):R2:=fun x y H Q=>mR x fun a=>mR y fun b=>∃xs,Je K H a xs/\Je K H b []/\Q (.bl (!decide (xs.length=0))) H
def CL(K:J0):R2:=fun x y H Q=>mR x fun a=>mR y fun b=>∃xs,Je K H a xs/\Je K H b []/\Q (.bl (decide (xs.length=0))) H
theorem Qs{f:Value->Value->Sem Value}(h:JW X f (AG K)):JW X f (Cr K):=h.imp fun x y H Q q=>by
 unfold Cr at q;simp only[Dx]at q;obtain⟨a,e,b,c,xs,h1,h2,q⟩:=q;exact⟨a,b,xs,e,c,h1,h2,q⟩
theorem FG{f:Value->Value->Sem Value}(h:JW X f (A4 K)):JW X f (CL K):=h.imp fun x y H Q q=>by
 unfold CL at q;simp only[Dx]at q;obtain⟨a,e,b,c,xs,h1,h2,q⟩:=q;exact⟨a,b,xs,e,c,h1,h2,q⟩
def AL:R2:=fun y x H Q=>mI y fun n=>mR x fun a=>∃kvs,H a=some (.dK kvs)/\Q (.bl (JD kvs (Sum.inl n)).isSome) H
def A2:R2:=fun y x H Q=>mI y fun n=>mR x fun a=>∃kvs,H a=some (.dK kvs)/\Q (.bl (!(JD kvs (Sum.inl n)).isSome)) H
theorem Su{f:Value->Value->Sem Value}(h:JW X f AK):JW X f AL:=h.imp fun x y H Q q=>by
 unfold AL at q;simp only[Dx,Rj]at q;obtain⟨n,e,a,c,b,h1,q⟩:=q;exact⟨a,n,b,e,c,h1,q⟩
theorem Ih{f:Value->Value->Sem Value}(h:JW X f C8):JW X f A2:=h.imp fun x y H Q q=>by
 unfold A2 at q;simp only[Dx,Rj]at q;obtain⟨n,e,a,c,b,h1,q⟩:=q;exact⟨a,n,b,e,c,h1,q⟩
def AN:R2:=fun x y H Q=>mR x fun l=>mI y fun k=>∃xs,H l=some (.lst xs)/\ -(2 ^ 63) <=k/\k < 2 ^ 63/\xs.length*k.toNat <=sizeLine/\∀p G,H p=none->J9 H G->G p=some (.lst (List.replicate k.toNat xs).flatten)->Q (.ref p) G
theorem xG{f:Value->Value->Sem Value}(h:JW X f Co):JW X f AN:=h.imp fun x y H Q q=>by
 unfold AN at q;simp only[Dx,Rj]at q;obtain⟨l,e,k,a,xs,q⟩:=q;exact⟨l,k,xs,e,a,q⟩
def Ah(K:J0):V->Option Int->Option Int->Hp->VK->Prop:=fun x lo hi H Q=>mR x fun a=>∃xs,Je K H a xs/\∀p G,H p=none->J9 H G->G p=some (.lst (Dz xs lo hi))->Q (.ref p) G
theorem O4(h:Rm X (CC K)):Rm X (Ah K):=h.imp fun x lo hi H Q q=>by
 unfold Ah at q;simp only[Dx]at q;obtain⟨a,e,xs,q⟩:=q;exact⟨a,xs,e,q⟩
variable{a b:J7}{ta tb:TE}{Jq:List Expr}{pos:Pos}
theorem TU{e:J7}{t:TE}(h:PE X e t)(he:∀whole,isTrue e X.env whole=(do let v <-whole;standAt e.pos;holding [v] (truthy v)):=by intro _;rfl):PT X e (R7 t):=cB (jB h he)
theorem EL{op:CmpOp}{r:R2}(ho:JW X (compareOp op) r)(ha:PE X a ta)(hb:PE X b tb)(hm:behindInMarks op b=false):PT X (.Compare a [op] [b] pos) (R7 (Gi r ta tb)):=cT (uF ho ha hb hm)
theorem MZ(ha:PE X a ta)(hb:PE X (.BoolOp .And (b::Jq) pos) tb):PE X (.BoolOp .And (a::b::Jq) pos) (EQ ta tb):=jE (QI ha hb)
theorem Pi(ha:PE X a ta)(hb:PE X (.BoolOp .Or (b::Jq) pos) tb):PE X (.BoolOp .Or (a::b::Jq) pos) (EA ta tb):=vO (yD ha hb)
theorem As(ha:PE X a ta):PE X (.UnaryOp .Not a pos) (Er ta):=uV (Z2 ha)
theorem RU{tg a:J7}{ta:TA}{p pos:Pos}(hg:Gl X "range")(hm:X.mg "range"=none)(ha:PA X [a] ta)(hs:starEach [a] X.env=[(false,eval a X.env)]:=by rfl):PI X tg (.Call (.Name "range" p) [a] [] pos) (ES ta):=ZX (SQ hg hm ha hs)
theorem MG{tg l:J7}{tl:TE}(h:X.K=K)(hl:PE X l tl):PI X tg l (Ej K tl):=nL (jF h hl)
end
theorem _root_.L2.Ju.m{j k:Nat}{A:WY}(r:Ju k A)(h:j <=k:=by decide):Ju j A:=r.mono h
section
variable{X:Cx}{es:List Expr}{t:TA}{te ta tb:TE}{pos:Pos}{x:Str}{ps N:List Str}{a b:J7}
theorem Jj(i:Nat)(hr:PA X es t)(hN:X.N[i]?=some x:=by rfl)(hv:B0 X.env.scope x:=by first|exact Or.inl rfl|exact Or.inr (Or.inl rfl)|exact Or.inr (Or.inr rfl))(hd:(x==("__debug__":Str))=false:=by decide)(hcd:(x==("__classdict__":Str))=false:=by decide):PA X (.Name x pos::es) (D7 (EC i) t):=JG (Ja i hN hv hd hcd) hr MJ
theorem TX{v:Const}{k:Nat}(ha:PE X (.Constant v k pos) te)(hr:PA X es t):PA X (.Constant v k pos::es) (D7 te t):=JG ha hr Mh
theorem Gj(ha:PE X (.Subscript a b pos) te)(hr:PA X es t):PA X (.Subscript a b pos::es) (D7 te t):=JG ha hr tU
theorem DD(ha:PE X (.Attribute a x pos) te)(hr:PA X es t):PA X (.Attribute a x pos::es) (D7 te t):=JG ha hr vT
theorem Mm{gs:List Expr}{ks:List Keyword}(ha:PE X (.Call a gs ks pos) te)(hr:PA X es t):PA X (.Call a gs ks pos::es) (D7 te t):=JG ha hr Z3
theorem NH(i:Nat){pos':Pos}(S:Ng X.N ps X.env.scope)(he:PE X a te)(hi:X.N[i]?=some x:=by rfl)(hx:RN X.env.scope x:=by exact Or.inl rfl)(hs:swapsWith a (some (.Name x pos')) pos.line X.env=pure false:=by rfl)(hf:X.fn x=true\/X.env.scope.names.lookup x=some .local:=by first|exact .inl rfl|exact .inr rfl|assumption):
  PS X (.Assign [.Name x pos'] a pos) (RP te (R1 i)):=CB S.nd hi hx he hs hf
theorem Tv(i:Nat)(S:Ng X.N ps X.env.scope)(hi:X.N[i]?=some x:=by rfl)(hx:RN X.env.scope x:=by exact Or.inl rfl)(hf:X.fn x=true\/X.env.scope.names.lookup x=some .local:=by first|exact .inl rfl|exact .inr rfl|assumption):PG X (.Name x pos) (R1 i):=Ml S.nd hi hx hf
theorem Tq(K:J0)(he:PE X a te)(h:X.K=K:=by rfl)(hb:attributeBase a x X.env (eval a X.env)=eval a X.env:=by rfl):PE X (.Attribute a x pos) (Cj K te x):=Qx h he hb
theorem DK(K:J0)(ha:PE X a ta)(hb:PE X b tb)(h:X.K=K:=by rfl)(hs:Kf b:=by exact fun _ _=>rfl):PE X (.Subscript a b pos) (Gi (Bf K) ta tb):=FS (Sw (OD h)) ha hb hs
theorem MI(K:J0)(ha:PE X a ta)(hb:PE X b tb)(h:X.K=K:=by rfl)(hs:Kf b:=by exact fun _ _=>rfl):PE X (.Subscript a b pos) (Gi (BH K) ta tb):=FS (ZU (Qo h)) ha hb hs
theorem NC{op:CmpOp}{r:R2}(ho:JW X (compareOp op) r)(ha:PE X a ta)(hb:PE X b tb)(hm:behindInMarks op b=false:=by exact Mp _):PT X (.Compare a [op] [b] pos) (R7 (Gi r ta tb)):=EL ho ha hb hm
theorem MC{k:Nat}{A:WY}(hr:Ju k A)(ha:PE X a ta)(hb:PE X b tb)(e:X.A=A:=by rfl)(hs:Iu b:=by exact fun _ _=>rfl):PE X (.Subscript a b pos) (C3 ta tb):=yE (e▸Ra hr) ha hb hs
theorem Nz{id:String}{r:List V->Hp->VK->Prop}{p:Pos}(hc:Jt X (.builtin id) r)(hm:X.mg x=none)(ha:PA X (a::es) t)(hg:Gl X x:=by rfl)(hv:bootBuiltins x=some (.builtin id):=by rfl)(hn:x≠"__name__":=by decide)(hdb:(x==("__debug__":Str))=false:=by decide)
  (he:starEach (a::es) X.env=(false,eval a X.env)::starEach es X.env:=by rfl) (hpl:(backTo pos (starEach es X.env)).any (·.1)=false:=by rfl):PE X (.Call (.Name x p) (a::es) [] pos) (Bb r t):=vM hc hg hm hv ha hn hdb he hpl
end
end L2
namespace HT
open PySem PyProof.Rows
section
variable{prog:WV}{w:WZ}{A:WY}{E:WR}{s:WW}
theorem RO:∀{vs:J5} {ns:J3},IntsAre vs ns->∀i:Nat,vs[i]?=none/\ns[i]?=none\/∃ (n:Int) (t:Tok),vs[i]?=some (Value.int n t)/\ns[i]?=some n
 |_,_,.nil,i=>.inl ⟨rfl,rfl⟩
 |_,_,.cons n t h,0=>.inr ⟨n,t,rfl,rfl⟩
 |_,_,.cons n t h,i+ 1=>by simpa using RO h i
theorem jK{R:Result->Shared->Prop}{l b:J2}{ol ob:Obj}{items items2:Array Value}{n n2:Nat}{ns ms:J3}(hl:s.heap.get? l=some ol)(dl:ol.data= .seq items n)(hb:s.heap.get? b=some ob)(db:ob.data= .seq items2 n2)(hi:IntsAre items.toList ns)(hj:IntsAre items2.toList ms):
  ∀ (m i:Nat),items.size - i=m->i <=items.size->i <=items2.size->R (.ok (.ret (.bool (lexLt (ns.drop i) (ms.drop i))))) s->codeAny (model prog w) A (Code.builtin "list.__eq__.loop" ⟨[.ref l,.ref b,.int i 0,.int 0 0],[]⟩) R s:=by
 have g:items.size=ns.length:=by rw[<-hi.length];simp
 have f:items2.size=ms.length:=by rw[<-hj.length];simp
 intro m
 induction m with
 |zero=>
  intro i e d c a;refine XD MeetsSeq3.entry_eq_loop ?_;rw[Xz Ui];refine(?_:wpAny _ _ (Builtin.List.listItems (.ref l) >>=_) _ _ _);refine Y0 (Xu hl dl (Y0 (Xu hb db ?_)));rw[YN,Us (by lia)];refine(?_:wpAny _ _ (Builtin.List.listItems (.ref l) >>=_) _ _ _);refine Y0 (Xu hl dl (Y0 (Xu hb db (Y2 ?_))));refine(?_:R (.ok (.ret (.bool (decide (items.size < items2.size))))) s);rw[Vl (by lia)]at a;cases hd:ms.drop i with
  |nil=>
   have:=List.drop_eq_nil_iff.mp hd;rw[hd]at a;rw[Ys (by lia)];exact a
  |cons y ys=>
   have:=Xn List.length hd;rw[X2,List.length_cons]at this;rw[hd]at a;rw[Yk (by lia)];exact a
 |succ m ih=>
  intro i e d c a;refine XD MeetsSeq3.entry_eq_loop ?_;rw[Xz Ui];refine(?_:wpAny _ _ (Builtin.List.listItems (.ref l) >>=_) _ _ _);refine Y0 (Xu hl dl (Y0 (Xu hb db ?_)));rw[YN];rcases RO hi i with⟨_,q⟩|⟨x,t,q1,q2⟩
  .rw[XI]at q;lia
  rw[<-Array.getElem?_toList,q1];rcases RO hj i with⟨q3,q4⟩|⟨y,u,q3,q4⟩
  .rw[<-Array.getElem?_toList,q3];refine(?_:wpAny _ _ (Builtin.List.listItems (.ref l) >>=_) _ _ _);refine Y0 (Xu hl dl (Y0 (Xu hb db (Y2 ?_))));refine(?_:R (.ok (.ret (.bool (decide (items.size < items2.size))))) s);rw[XI]at q4;have h1:i < ns.length:=(Y6.mp q2).1;rw[Yz h1,Vl q4]at a;rw[Ys (by lia)];exact a
  .rw[<-Array.getElem?_toList,q3];obtain⟨h1,rfl⟩:=Y6.mp q2;obtain⟨h2,rfl⟩:=Y6.mp q4;rw[Yz h1,Yz h2,lexLt_cons]at a;refine(?_:wpAny _ _ (eqBool _ _ >>=_) _ _ _);refine Y0 (UE ?_)
   by_cases hxy:ns[i]=ms[i]
   .rw[Y3 hxy]at a;refine X7 (by simpa using hxy) (Y2 ⟨Ul Ui _,?_⟩);have:=ih (i+ 1) (by lia) (by lia) (by lia) a;exact this
   .rw[Y1 hxy]at a;refine Yn (by simpa using hxy) ?_;refine Y0 (Xu hl dl (Y0 (Xu hb db ?_)));rw[<-Array.getElem?_toList,q1,<-Array.getElem?_toList,q3];refine(?_:wpAny _ _ (richCompare .Lt _ _ >>=_) _ _ _);exact Y0 (L9 _ _ _ _ _ _ prog w _ _ (Y2 a))
theorem SX(l b:J2)(ol ob:Obj)(items items2:Array Value)(n n2:Nat)(ns ms:J3)(cl:ol.cls= .type "list")(cb:ob.cls= .type "list")(dl:ol.data= .seq items n)(db:ob.data= .seq items2 n2)(hi:IntsAre items.toList ns)(hj:IntsAre items2.toList ms):
  Meets (Builtin.«list.__lt__» ⟨[.ref l,.ref b],[]⟩) (fun _ R s=>s.heap.get? l=some ol/\s.heap.get? b=some ob/\R (.ok (.ret (.bool (lexLt ns ms)))) s):=by
 intro prog w A R s ⟨c,a,e⟩;unfold Builtin.«list.__lt__»;have d:s.TypeIs (.ref b) "list":=⟨ob,a,cb⟩
 refine Y0 (Y2 ?_);refine(?_:wpAny _ _ (isInstance (.ref b) (.type "list") >>=_) _ _ _);refine Y0 (Ua d (b:=true) (by rw[Wz];kernel_rfl) (Yn (by rfl) (Yn (by rfl) (Y2 ⟨Ul Ui _,?_⟩))));exact jK c dl a db hi hj items.size 0 (by lia) (Yv _) (Yv _) e
theorem lt_listInts{l b:J2}{items items2:Array Value}{ns ms:J3}{Q:WR}(hl:s.heap.IsList l items)(hb:s.heap.IsList b items2)(hi:IntsAre items.toList ns)(hj:IntsAre items2.toList ms)(hu:A.units < cLine)(h:Q (.bool (lexLt ns ms)) s):wpAny (model prog w) A (compareOp .Lt (.ref l) (.ref b)) Q E s:=by
 obtain⟨g,d,f,n,hd⟩:=hl;obtain⟨i,a,c,j,e⟩:=hb;exact richCompare_meets_room (op:=.Lt) ⟨_,d,f⟩ ⟨_,a,c⟩ PySem.F.slot_list_lt PySem.F.entry_list_lt (PySem.F.args_list_lt_2 _ _) (SX l b g i items items2 n j ns ms f c hd e hi hj)
  ⟨d,a,show Value.bool (lexLt ns ms)≠Value.notImplemented/\Q (.bool (lexLt ns ms)) s from⟨(fun x=>nomatch x),h⟩⟩ hu
theorem eq_listInts{l b:J2}{items items2:Array Value}{ns ms:J3}{Q:Bool->Shared->Prop}(hl:s.heap.IsList l items)(hb:s.heap.IsList b items2)(hi:IntsAre items.toList ns)(hj:IntsAre items2.toList ms)(hu:A.units < cLine)(h:Q (decide (ns=ms)) s):wpAny (model prog w) A (eqBool (.ref l) (.ref b)) Q E s:=by
 unfold eqBool;refine YJ ?_
 by_cases hlb:l=b
 .subst hlb;refine X7 (by simp) (Y0 (XF (Y2 ?_)));have:ns=ms:=by
   obtain⟨o,h1,_,n,h2⟩:=hl;obtain⟨o',d,_,p,c⟩:=hb;rw[h1]at d;cases d;rw[h2]at c;cases c;apply V9;intro i;rcases RO hi i with⟨a1,a2⟩|⟨x,t,a1,a2⟩ <;> rcases RO hj i with⟨c1,c2⟩|⟨y,u,c1,c2⟩
   .rw[a2,c2]
   .rw[a1]at c1;cases c1
   .rw[a1]at c1;cases c1
   .rw[a1]at c1;cases c1;rw[a2,c2]
  rw[Yk this]at h;exact h
 .refine Yn (by simpa using hlb) ?_;refine(?_:wpAny _ _ (richCompare .Eq _ _ >>=_) _ _ _);have g:items.size=ns.length:=by rw[<-hi.length];simp
  have f:items2.size=ms.length:=by rw[<-hj.length];simp
  refine Y0 ?_
  by_cases hs:items.size=items2.size
  .refine(SeqAt.eq_listAt (e:=fun j=>decide (ns.getD j 0=ms.getD j 0)) hl hb hs hu (fun j h1 h2=>?_) ?_:wpAny _ _ (compareOp .Eq _ _) _ _ _)
   .rcases RO hi j with⟨a1,a2⟩|⟨x,t,a1,a2⟩
    .rw[XI]at a2;lia
    rcases RO hj j with⟨c1,c2⟩|⟨y,u,c1,c2⟩
    .rw[XI]at c2;lia
    rw[Array.getElem?_toList,Yq h1]at a1;rw[Array.getElem?_toList,Yq h2]at c1;rw[Yr a1,Yr c1,Yu,a2,Yu,c2];intro prog w E Q a;refine UE ?_;have e:(x==y)=decide (x=y):=by
     by_cases hxy:x=y <;> simp[hxy]
    rw[e];exact a
   .have e:((List.range items.size).all fun j=>decide (ns.getD j 0=ms.getD j 0))=decide (ns=ms):=by
     rw[YU,Xe,Yg];constructor
     .intro a;apply V9;intro i
      by_cases hii:i < items.size
      .have:=Xi (a i (by simpa using hii));rw[Y5 (by lia),Y5 (by lia)];simpa[Yu,show i < ns.length by lia,show i < ms.length by lia] using this
      .rw[Xa (by lia),Xa (by lia)]
     .intro a j _;rw[a];simp
    rw[e];exact Y2 h
  .refine(SeqAt.eq_list_lengthsAt hl hb (by simpa using hs) hu ?_:wpAny _ _ (compareOp .Eq _ _) _ _ _);rw[Ys (fun z=>hs (by rw[g,f,z]))]at h;exact Y2 h
end
end HT
namespace L2
open PySem PySem.Spec PyProof.Rows PySem.W
def Ke(O1 O2:KeyOrd)[DecidableEq O1.α]:KeyOrd where
 α:=O1.α×O2.α
 blt a b:=if a.1=b.1 then O2.blt a.2 b.2 else O1.blt a.1 b.1
 irrefl a:=by rw[Y3 rfl];exact O2.irrefl _
 trans a b c h1 h2:=by
  by_cases e1:a.1=b.1
  .rw[Y3 e1]at h1
   by_cases e2:b.1=c.1
   .rw[Y3 e2]at h2;rw[Y3 (e1.trans e2)];exact O2.trans _ _ _ h1 h2
   .rw[Y1 e2]at h2;rw[Y1 (fun z=>e2 (e1.symm.trans z)),e1];exact h2
  .rw[Y1 e1]at h1
   by_cases e2:b.1=c.1
   .rw[Y1 (fun z=>e1 (z.trans e2.symm)),<-e2];exact h1
   .rw[Y1 e2]at h2;have h3:=O1.trans _ _ _ h1 h2;rw[Y1 (fun z=>by rw[z,O1.irrefl]at h3;cases h3)];exact h3
 negTrans a b c h:=by
  have ne:∀x y:O1.α,O1.blt x y=true->x≠y:=fun x y q z=>by rw[z,O1.irrefl]at q;cases q
  by_cases e:a.1=c.1
  .rw[Y3 e]at h
   by_cases e1:a.1=b.1
   .rw[Y3 e1,Y3 (e1.symm.trans e)];exact O2.negTrans _ _ _ h
   .rw[Y1 e1,Y1 (fun z=>e1 (e.trans z.symm)),<-e];cases q:O1.blt a.1 b.1 with
    |true=>exact .inl rfl
    |false=>
     cases q2:O1.blt b.1 a.1 with
     |true=>exact .inr rfl
     |false=>exact absurd (O1.total _ _ q q2) e1
  .rw[Y1 e]at h;rcases O1.negTrans _ b.1 _ h with q|q
   .rw[Y1 (ne _ _ q)];exact .inl q
   .rw[Y1 (ne _ _ q)];exact .inr q
 total a b h1 h2:=by
  by_cases e:a.1=b.1
  .rw[Y3 e]at h1;rw[Y3 e.symm]at h2;exact UI e (O2.total _ _ h1 h2)
  .rw[Y1 e]at h1;rw[Y1 (Ne.symm e)]at h2;exact absurd (O1.total _ _ h1 h2) e
theorem KM:∀a:List Int,HT.lexLt a a=false
 |[]=>rfl
 |x::xs=>by rw[HT.lexLt_cons,Y3 rfl];exact KM xs
theorem KC:∀a b:List Int,HT.lexLt a b=false->HT.lexLt b a=false->a=b
 |[],[],_,_=>rfl
 |[],y::ys,h,_=>by cases h
 |x::xs,[],_,h=>by cases h
 |x::xs,y::ys,h1,h2=>by
  rw[HT.lexLt_cons]at h1 h2
  by_cases e:x=y
  .rw[Y3 e]at h1;rw[Y3 e.symm]at h2;rw[e,KC xs ys h1 h2]
  .rw[Y1 e]at h1;rw[Y1 (Ne.symm e)]at h2;have:=UX h1;have:=UX h2;exact absurd (by lia) e
theorem Ij:∀a b c:List Int,HT.lexLt a c=true->HT.lexLt a b=true\/HT.lexLt b c=true
 |[],[],c,h=>.inr h
 |[],y::ys,c,h=>.inl rfl
 |x::xs,b,[],h=>by cases h
 |x::xs,[],z::zs,h=>.inr rfl
 |x::xs,y::ys,z::zs,h=>by
  rw[HT.lexLt_cons]at h;rw[HT.lexLt_cons,HT.lexLt_cons]
  by_cases e1:x=y
  .rw[Y3 e1]
   by_cases e2:y=z
   .rw[Y3 e2];rw[Y3 (e1.trans e2)]at h;exact Ij xs ys zs h
   .rw[Y1 e2];rw[Y1 (fun q=>e2 (e1.symm.trans q)),e1]at h;exact .inr h
  .rw[Y1 e1]
   by_cases e2:y=z
   .rw[Y1 (fun q=>e1 (q.trans e2.symm)),<-e2]at h;exact .inl h
   .rw[Y1 e2]
    by_cases e3:x=z
    .rcases Int.lt_or_lt_of_ne e1 with q|q
     .exact .inl (Yk q)
     .exact .inr (Yk (e3▸q))
    .rw[Y1 e3]at h;have:=Xi h
     by_cases q:x < y
     .exact .inl (Yk q)
     .exact .inr (Yk (by lia))
theorem jN(a b c:J3)(h1:HT.lexLt a b=true)(h2:HT.lexLt b c=true):HT.lexLt a c=true:=by
 rcases Ij a c b h1 with q|q
 .exact q
 .exfalso
  have key:∀x y:List Int,HT.lexLt x y=true->HT.lexLt y x=true->False:=by
   intro x
   induction x with
   |nil=>intro y _ h;cases y <;> cases h
   |cons x xs ih=>
    intro y h1 h2;cases y with
    |nil=>cases h1
    |cons y ys=>
     rw[HT.lexLt_cons]at h1 h2
     by_cases e:x=y
     .rw[Y3 e]at h1;rw[Y3 e.symm]at h2;exact ih ys h1 h2
     .rw[Y1 e]at h1;rw[Y1 (Ne.symm e)]at h2;have:=Xi h1;have:=Xi h2
      lia
  exact key b c h2 q
def RK:KeyOrd where
 α:=List Int
 blt:=HT.lexLt
 irrefl:=KM
 trans:=jN
 negTrans:=Ij
 total:=KC
def Zr:KeyOrd where
 α:=Bool
 blt a b:= !a && b
 irrefl:=by decide
 trans:=by decide
 negTrans:=by decide
 total:=by decide
instance:DecidableEq DJ.α:=inferInstanceAs (DecidableEq Ky)
instance:DecidableEq B5.α:=inferInstanceAs (DecidableEq Int)
instance:DecidableEq RK.α:=inferInstanceAs (DecidableEq (List Int))
def E5:KeyOrd:=Ke DJ (Ke B5 (Ke RK Zr))
abbrev GS:=Ky×Int×List Int×Bool
def Dl(h:J6)(v:J1)(q:GS):Prop:=∃a b t l its,v= .ref a/\IsTup h a #[.ref b,.int q.2.1 t,.ref l,.bool q.2.2.2]/\N9 h (.ref b) q.1/\h.IsList l its/\IntsAre its.toList q.2.2.1
theorem Dl.keep{h h':J6}{v:J1}{q:GS}(hk:∀b o,h.get? b=some o->h'.get? b=some o)(p:Dl h v q):Dl h' v q:=by
 obtain⟨a,b,t,l,c,e,⟨o,h1,h2,n,g⟩,d,⟨f,j,i⟩,hi⟩:=p;exact⟨a,b,t,l,c,e,⟨o,hk _ _ h1,h2,n,g⟩,d.keep hk,⟨f,hk _ _ j,i⟩,hi⟩
section
variable{prog:WV}{w:WZ}
theorem LX{h:J6}:∀{vs:J5} {c:List GS},(∀ (i:Nat) v p,vs[i]?=some v->c[i]?=some p->Dl h v p)->vs.length=c.length->∃fs,KatTups h vs fs/\fs.length=vs.length/\∀f∈fs,∃b o,f=Value.ref b/\h.get? b=some o/\o.cls= .type "tuple"
 |[],c,_,e=>⟨[],trivial,rfl,fun f hf=>by simp at hf⟩
 |v::vs,[],_,e=>by simp at e
 |v::vs,p::c,hp,e=>by
  obtain⟨fs,k1,k2,k3⟩:=LX (vs:=vs) (c:=c) (fun i v p a b=>hp (i+ 1) v p (by simpa using a) (by simpa using b)) (by simpa using e);obtain⟨a,b,t,l,s,rfl,⟨o,j,q,n,hd⟩,⟨u,_,_,_,r,o',d,g,_⟩,_⟩:=hp 0 v p rfl rfl;cases r;refine⟨Value.ref b::fs,KatTups.cons j q hd rfl k1,by simp[k2],fun f hf=>?_⟩;rcases Yp.mp hf with rfl|hf
  .exact⟨_,o',rfl,d,g⟩
  .exact k3 f hf
theorem vF{A:WY}{E:WR}{s:WW}{p q:Bool}{Q:Bool->Shared->Prop}(h:Q (p==q) s):wpAny (model prog w) A (eqBool (.bool p) (.bool q)) Q E s:=by
 unfold eqBool;show wpAny _ _ (if(Value.bool p==Value.bool q)=true then _ else _) Q E s
 by_cases hab:(Value.bool p==Value.bool q)=true
 .rw[Y3 hab];have e:p=q:=by have:=eq_of_beq hab;injection this
  subst e;exact Y0 (XF (Y2 (by simpa using h)))
 .rw[Y1 hab];exact Y0 (PyProof.Rows.eq_bool (Xg (by cases p <;> cases q <;> exact h)))
theorem y7{vs:J5}{c:List GS}{h:J6}(hp:∀ (i:Nat) v p,vs[i]?=some v->c[i]?=some p->Dl h v p)(hl:vs.length=c.length):
  RB prog w h E5 (fun i=>c.getD i ((0,"",""),0,[],false)) (tuples' (Value.type "tuple" !=Value.type "tuple")) vs where
 kind A s Q hk h2 hQ:=by
  obtain⟨fs,k1,k2,k3⟩:=LX (h:=s.heap) (fun i v p e1 e2=>(hp i v p e1 e2).keep hk) hl;refine kat_kind (T:=Value.type "tuple") k1 (by lia) (fun v hv=>?_) (by decide) hQ;obtain⟨b,o,rfl,ho,hc⟩:=k3 v hv;intro A Q E s' hk' hq;exact We ⟨o,hk' _ _ ho,hc⟩ hq
 cmp A s i j C hu hk hi hj hC:=by
  have gi:vs[i]?=some (vs.getD i Value.none):=by rw[Y5 hi];simp[hi]
  have gj:vs[j]?=some (vs.getD j Value.none):=by rw[Y5 hj];simp[hj]
  have ci:c[i]?=some (c.getD i ((0,"",""),0,[],false)):=by rw[Y5 (by lia)];simp[show i < c.length by lia]
  have cj:c[j]?=some (c.getD j ((0,"",""),0,[],false)):=by rw[Y5 (by lia)];simp[show j < c.length by lia]
  obtain⟨a,b,t,l,its,e,⟨o,ho,hc,n,hd⟩,aa,u,ac⟩:=(hp i _ _ gi ci).keep hk;obtain⟨a',b',t',l',its',e',⟨o',ho',hc',n',hd'⟩,z,r,ab⟩:=(hp j _ _ gj cj).keep hk;unfold kas_ask;rw[e,e'];have hC':C (E5.blt (c.getD i ((0,"",""),0,[],false)) (c.getD j ((0,"",""),0,[],false))) s:=hC;generalize c.getD i ((0,"",""),0,[],false)=x at*;generalize c.getD j ((0,"",""),0,[],false)=y at*;obtain⟨x1,g,x3,x4⟩:=x;obtain⟨y1,f,y3,q⟩:=y;refine kat_lt ho hd ho' hd' ?_;show KatLex prog w A _ _ C [(Value.ref b,Value.ref b'),(Value.int g t,Value.int f t'),(Value.ref l,Value.ref l'),(Value.bool x4,Value.bool q)] 0 s;have d:C (if x1=y1 then(if g=f then(if x3=y3 then(!x4 && q) else HT.lexLt x3 y3) else decide (g < f)) else TV x1 y1) s:=hC';have bf:∀k:Nat,(((Value.type "tuple" !=Value.type "tuple") && (k==0)):Bool)=false:=fun k=>by simp
  refine VN (xY aa z hu ?_)
  by_cases h1:x1=y1
  .rw[Yk h1];rw[Y3 h1]at d;refine W6 (VN (UE ?_))
   by_cases h2:g=f
   .rw[show(g==f)=true by simpa using h2];rw[Y3 h2]at d;refine W6 (VN (HT.eq_listInts u r ac ab hu ?_))
    by_cases h3:x3=y3
    .rw[Yk h3];rw[Y3 h3]at d;refine W6 (VN (vF ?_))
     by_cases h4:x4=q
     .subst h4;rw[XR];refine W6 (kat_nil ?_);cases x4 <;> exact d
     .rw[Xs.mpr h4];refine kat_no ?_;rw[bf];refine kat_one _ _ (PyProof.Rows.lt_bool ?_);cases x4 <;> cases q <;> first|exact d|exact absurd rfl h4
    .rw[Ys h3];rw[Y1 h3]at d;refine kat_no ?_;rw[bf];exact kat_one _ _ (HT.lt_listInts u r ac ab hu d)
   .rw[show(g==f)=false by simpa using h2];rw[Y1 h2]at d;exact kat_no (L3 d)
  .rw[Ys h1];rw[Y1 h1]at d;refine kat_no ?_;rw[bf];exact kat_one _ _ (nY aa z hu d)
end
section
variable{X:Cx}{pins:WU}{s:WW}{σ:St}{H:Hp}
theorem tH{t b l:J2}{q:GS}(I:Jb X pins σ H s)(h:JV X.K H t [.ref b,.int q.2.1,.ref l,.bl q.2.2.2])(hb:JV X.K H b (Me q.1))(hl:Je X.K H l (q.2.2.1.map V.int)):Dl s.heap (.ref t) q:=by
 obtain⟨f,r,p,_⟩:=I.tuple h;cases r with
 |cons r1 r=>
  cases r with
  |cons r2 r=>
   cases r with
   |cons r3 r=>
    cases r with
    |cons r4 r=>
     cases r;cases r1;obtain⟨a,rfl⟩:=(show ∃t,_=Value.int q.2.1 t from r2);cases r3;cases r4;obtain⟨e,c,d,_⟩:=I.list hl;exact⟨t,b,a,l,e.toArray,rfl,p,Ho I hb,d.isList,Kl c⟩
end
section
variable{X:Cx}{K:J0}
def Fo(K:J0):Hp->V->GS->Prop:=fun H x q=>∃t b l,x= .ref t/\JV K H t [.ref b,.int q.2.1,.ref l,.bl q.2.2.2]/\JV K H b (Me q.1)/\Je K H l (q.2.2.1.map V.int)
def Fq(K:J0):=AF K E5 (((0,"",""),0,[],false):GS) (Fo K)
theorem Qg(hu:X.A.units+ 64 < cLine)(h:X.K=K):Jt X (.builtin "sorted") (Fq K):=by
 subst h;refine y6 (RV:=Dl) rfl hu (fun I r ⟨t,b,l,e,c,f,a⟩=>?_) fun d a=>y7 d a
 subst e;cases r;exact tH I c f a
end
end L2
namespace Mine
open PySem L2 PyProof.Rows
local macro_rules | `(tactic| walk_at"e")=>`(tactic| exact ⟨rfl,rfl,rfl,by decide +kernel,rfl,by decide +kernel,by decide +kernel⟩)
local macro_rules | `(tactic| walk_at"rd") => do
 let f:=fun(s:String)=>(s.splitOn " ").toArray.mapM fun x=>`(Lean.Parser.Tactic.simpLemma|$(Lean.mkIdent x.toName):term)
 let a<-f "Pg Bool.not_true Bool.not_false EC CS BM R7 EQ EA Er Ai Bf BH CD A3 Ci ES Ej Cr CL AL A2 AN Ah FJ IU Of K3 PL KN KF Le Kz Nat.reduceAdd A8 Ko CZ Hh Al HM FL RP R1 BO tC Gi II By tB BZ FH E8 D7 Gm Bb Hj Fd ER EF EH Ca Ct Ad AJ CN Hm A5 IP IY FP Hn rI GY rU Ax AQ IB I0 Kb Ed EE AV HL NR Bc B8 IX Fs FI C4 L2.start BI C7 AE Co Ap CC Az Fc F2 HB Ix Ak Cj Hf HK A4 AK HR Iv F1 Hs FN Hu AG AF FK HI Fq Fo Il IA BG C3 Ft C8 Fg FE List.map_cons List.map_nil List.length_cons List.length_nil List.cons_append List.nil_append List.getElem?_cons_zero List.getElem?_cons_succ List.set_cons_zero List.set_cons_succ Option.bind_some Option.bind_none Option.join_some List.replicate"
 let b<-f "xK ZR Sz ZT tP jW"
 let c<-f "Rj BF Dx P0 Bx Lp OQ HH Iy FX IR Nat.reduceSub List.append_nil Option.some.injEq V.int.injEq V.bl.injEq V.str.injEq V.ref.injEq V.ty.injEq exists_eq_left' exists_eq_left exists_and_left and_assoc and_true true_and List.cons.injEq exists_eq exists_eq' exists_const Nat.reduceLT Nat.reduceLeDiff if_true Bool.false_eq_true if_false reduceCtorEq false_and and_false exists_false n7 wO Zp nP"
 `(tactic|((try dsimp only[$b,*,$a,*]);(try dsimp only[mC]);(try simp only[$a,*,$c,*])))
local macro_rules | `(tactic| walk_at"wt") => `(tactic| dsimp only [R7, Gi, EC, BM, K3, FJ, IU, List.getElem?_cons_zero, List.getElem?_cons_succ])
local macro_rules | `(tactic| walk_at"ne") => `(tactic| first | assumption | (apply Ne.symm; assumption) | grind [J9, Nd])
local macro_rules | `(tactic| walk_at"hp") => `(tactic| first | assumption | exact ND | (refine J9.get (by assumption) ?_; walk_at"hp") | (refine Nd.get (by assumption) ?_ ?_; (· walk_at"hp"); (· walk_at"ne")))
def top(i:Nat):Stmt:=PySem.Challenge.pw_pieceways_k32_many_keys_read.main.body.getD i (.Pass ⟨0,0,0,0⟩)
structure Cn(mg:WQ):Prop where
 c_MOST_NUMBER:∃t,mg "MOST_NUMBER"=some (.int 65535 t)
 c_MOST_BYTE:∃t,mg "MOST_BYTE"=some (.int 255 t)
 c_MOST_SIGNS:∃t,mg "MOST_SIGNS"=some (.int 8 t)
 c_MOST_BYTES:∃t,mg "MOST_BYTES"=some (.int 4000 t)
 c_STEP:∃t,mg "STEP"=some (.int 8 t)
section
variable{P:WV}{w:WZ}{K:J0}{mg:WQ}{base:J6}
inductive Hg(vs:List V)(H:Hp)(Q:VK)(E:XK):Prop|mk (x n:_) (_:vs=[x]) (_:Tt H x=some n) (_:Q (.bl (GR x)) H)
abbrev Iw:Stmt:=top 7
theorem uL:Ng ["value"] ["value"] (J8 Iw):=by walk_at"e"
theorem vL{f:J2}{fd:WX}(F:Nk K "is_whole" "is_whole" Iw f fd)(B:Bt mg):Ji P w K mg base JN 1 f fd ["value"] Hg:=by
 refine F.ok uL (fun vs H Q E h=>?_) (fun b A a s H vs Q E c h=>?_)
 .obtain⟨x,n,rfl,_⟩:=h;rfl
 .obtain⟨x,n,rfl,ty,q⟩:=h;refine⟨_,(Jl (JR (MZ (Nz (GC "int") B.isinstance (Jj 0 (JG (hs:=MJ) (GN (v:=.ty "int") rfl B.bint (by rfl) rfl) Jc))) (Dr (As (Nz (GC "bool") B.isinstance (Jj 0 (JG (hs:=MJ) (GN (v:=.ty "bool") rfl B.bbool (by rfl) rfl) Jc)))))))),?_⟩;walk_at"rd";refine⟨n,ty,?_⟩;rw[QH ty];refine Ti (fun h=>⟨n,ty,?_⟩) (fun h=>?_)
  .rw[OA ty];have e:(!Ro x)=GR x:=by cases x <;> first|rfl|(simp[GR,Ro]at h)
   rw[e];exact q
  .have e:GR x=false:=by cases x <;> first|rfl|(simp[GR,Ro]at h)
   rw[e]at q;exact q
inductive IG(vs:List V)(H:Hp)(Q:VK)(E:XK):Prop|mk (x n lo hi:_) (_:vs=[x,.int lo,.int hi]) (_:Tt H x=some n) (_:Q (.bl (MV x lo hi)) H)
abbrev HG:Stmt:=top 8
theorem uK:Ng ["value","low","high"] ["value","low","high"] (J8 HG):=by walk_at"e"
theorem tI{f:J2}{fd:WX}(F:Nk K "is_whole_within" "is_whole_within" HG f fd)(NB:NJ P w K mg base "is_whole" 1 ["value"] [] Hg):Ji P w K mg base JN 2 f fd ["value","low","high"] IG:=by
 refine F.ok uK (fun vs H Q E h=>?_) (fun c A a s H vs Q E b h=>?_)
 .obtain⟨x,n,lo,hi,rfl,_⟩:=h;rfl
 .obtain⟨x,n,lo,hi,rfl,ty,q⟩:=h;refine⟨_,(Jl (JR (MZ (Nr NB b.m rfl (Jj 0 Jc)) (Dr (Kp (Nj Rs) (Nj Rs) (Ja 1) (Ja 0) (Ja 2)))))),?_⟩;walk_at"rd";refine⟨x,n,rfl,ty,_,rfl,?_⟩;refine Ti (fun h=>?_) (fun h=>?_)
  .cases x <;> first|(simp[GR]at h;done)|skip
   rename_i i
   walk_at"rd"
   by_cases h1:lo <=i
   .simp only[h1,Xb,if_true];simpa[MV,h1] using q
   .simp only[h1,X9,Bool.false_eq_true,if_false];simpa[MV,h1] using q
  .have e:MV x lo hi=false:=by cases x <;> first|rfl|(simp[GR]at h)
   rw[e]at q;exact q
inductive Hk(vs:List V)(H:Hp)(Q:VK)(E:XK):Prop|mk (x n:_) (_:vs=[x]) (_:Tt H x=some n) (_:Q (.bl (Ro x)) H)
abbrev FC:Stmt:=top 9
theorem Sb:Ng ["value"] ["value"] (J8 FC):=by walk_at"e"
theorem Zj{f:J2}{fd:WX}(F:Nk K "is_truth" "is_truth" FC f fd)(B:Bt mg):Ji P w K mg base JN 1 f fd ["value"] Hk:=by
 refine F.ok Sb (fun vs H Q E h=>?_) (fun b A a s H vs Q E c h=>?_)
 .obtain⟨x,n,rfl,_⟩:=h;rfl
 .obtain⟨x,n,rfl,ty,q⟩:=h;refine⟨_,(Jl (JR (Nz (GC "bool") B.isinstance (Jj 0 (JG (hs:=MJ) (GN (v:=.ty "bool") rfl B.bbool (by rfl) rfl) Jc))))),?_⟩;walk_at"rd";exact⟨n,ty,by rw[OA ty];exact q⟩
inductive Q0(vs:List V)(H:Hp)(Q:VK)(E:XK):Prop|mk (x n:_) (_:vs=[x]) (_:Tt H x=some n) (_:Q (.bl (MV x 0 65535)) H)
abbrev Kn:Stmt:=top 10
theorem vW:Ng ["value"] ["value"] (J8 Kn):=by walk_at"e"
theorem wC{f:J2}{fd:WX}(F:Nk K "is_number" "is_number" Kn f fd)(T:Cn mg)(JB:NJ P w K mg base "is_whole_within" 2 ["value","low","high"] [] IG):Ji P w K mg base JN 3 f fd ["value"] Q0:=by
 refine F.ok vW (fun vs H Q E h=>?_) (fun c A a s H vs Q E b h=>?_)
 .obtain⟨x,n,rfl,_⟩:=h;rfl
 .obtain⟨x,n,rfl,ty,q⟩:=h;refine⟨_,(Jl (JR (Nr JB b.m rfl (Jj 0 (TX Jp (JG (hs:=MJ) (Rw rfl T.c_MOST_NUMBER) Jc)))))),?_⟩;walk_at"rd";exact⟨x,n,0,65535,rfl,ty,q⟩
inductive OR(vs:List V)(H:Hp)(Q:VK)(E:XK):Prop|mk (x n:_) (_:vs=[x]) (_:Tt H x=some n) (_:Q (.bl (MV x 0 255)) H)
abbrev Ha:Stmt:=top 12
theorem jI:Ng ["value"] ["value"] (J8 Ha):=by walk_at"e"
theorem tM{f:J2}{fd:WX}(F:Nk K "is_byte" "is_byte" Ha f fd)(T:Cn mg)(JB:NJ P w K mg base "is_whole_within" 2 ["value","low","high"] [] IG):Ji P w K mg base JN 3 f fd ["value"] OR:=by
 refine F.ok jI (fun vs H Q E h=>?_) (fun c A a s H vs Q E b h=>?_)
 .obtain⟨x,n,rfl,_⟩:=h;rfl
 .obtain⟨x,n,rfl,ty,q⟩:=h;refine⟨_,(Jl (JR (Nr JB b.m rfl (Jj 0 (TX Jp (JG (hs:=MJ) (Rw rfl T.c_MOST_BYTE) Jc)))))),?_⟩;walk_at"rd";exact⟨x,n,0,255,rfl,ty,q⟩
inductive Kw(vs:List V)(H:Hp)(Q:VK)(E:XK):Prop|mk (x n:_) (_:vs=[x]) (_:Tt H x=some n) (_:(∀z,x= .str z->z.length <=100000)) (_:∀H',J9 H H'->Q (.bl (MD x)) H')
abbrev AO:Stmt:=top 11
theorem vX:Ng ["value"] ["value"] (J8 AO):=by walk_at"e"
theorem jH{f:J2}{fd:WX}(F:Nk K "is_name" "is_name" AO f fd)(T:Cn mg)(B:Bt mg):Ji P w K mg base JN 1 f fd ["value"] Kw:=by
 refine F.ok vX (fun vs H Q E h=>?_) (fun cdv A outer s H vs Q E hr h=>?_)
 .obtain⟨x,n,rfl,_⟩:=h;rfl
 .obtain⟨x,n,rfl,ty,hz,q⟩:=h;refine⟨_,(Jn (Np (PW.pt (R9 (MB (TU (Nz (GC "str") B.isinstance (Jj 0 (JG (hs:=MJ) (GN (v:=.ty "str") rfl B.bstr (by rfl) rfl) Jc))))) (RH (MB (O7 (Nj Rs) (Nj Rs) Jp (Nz vV B.len (Jj 0 Jc)) (Rw rfl T.c_MOST_SIGNS)))))) (Jl (JR Re)) NG) (Jl (JR (Nz (BY (K:=K) rfl rfl) B.all (JG (hs:=Eh) (DB (N':=["sign"]) (caps:=[none]) (D6 (sc:=J8 AO) (N:=["value"]) rfl rfl (by decide +kernel)) rfl (tX (Ja 0)) (fun _ _ _ _ _=>(Ml (i:=0) (MK (N:=["sign"]) rfl (by decide +kernel)) rfl (Or.inl rfl))) (fun _ _ _ _ _=>Dt) (fun _ _ _ _ _=>(Kp O3 O3 N7 (Ja 0) N7))) Jc))))),?_⟩;walk_at"rd";refine⟨n,ty,?_⟩;rw[yJ ty];cases x <;> first
   |(simp only[Hq,Bool.not_false,if_true];exact q H (J9.refl H))
   |skip
  rename_i z
  have j:=hz z rfl;simp only[Hq,Bool.not_true,Bool.false_eq_true,if_false];walk_at"rd";refine⟨JT j,?_⟩;have o:∀b,MD (.str z)=b->∀H',J9 H H'->Q (.bl b) H':=fun b e H' s=>e▸q H' s
  by_cases h1:1 <=z.length
  .have g:(1:Int) <=(z.length:Int):=by lia
   simp only[g,Xb,if_true]
   by_cases h2:z.length <=8
   .have d:(z.length:Int) <=8:=by lia
    simp only[d,Xb,Bool.not_true,Bool.false_eq_true,if_false];have u:z.cps.size=z.length:=rfl;obtain⟨r,a⟩:∃r:Nat->List V->L2.St->Hp->Prop,r=fun i ys σ' H1=>H1=H/\i <=z.cps.size/\ys=(z.cps.toList.take i).map (fun c=>V.bl (EN c))/\∃v,σ'=[v]:=⟨_,rfl⟩
    refine QG r (by rw[a];exact⟨rfl,Yv _,by simp,none,rfl⟩) ?_ (by rw[u];exact JT j) ?_ ?_ <;> rw[a]
    .rintro i ys σ' H1 ⟨_,hi,rfl,_⟩ _;simp only[Y4,Ym];lia
    .rintro i c ys σ' H1 hc ⟨rfl,hi,rfl,v,rfl⟩;rw[<-a];have l:i < z.cps.size:=(U0.mp hc).1;walk_at"rd";obtain⟨e1,e2⟩:=vY c;rw[e1,e2];have et:z.cps.toList.take (i+ 1)=z.cps.toList.take i++[c]:=by
      rw[YZ];have:z.cps.toList[i]?=some c:=by rw[Array.getElem?_toList];exact hc
      rw[this];rfl
     have eb:V.bl (EN c)=V.bl (decide (97 <=c) && decide (c <=122)):=rfl
     by_cases k1:97 <=c
     .simp only[k1,Xb,if_true];rw[a];exact⟨rfl,l,by rw[et,Yw,List.map_cons,List.map_nil,eb];simp[k1],_,rfl⟩
     .simp only[k1,X9,Bool.false_eq_true,if_false];rw[a];exact⟨rfl,l,by rw[et,Yw,List.map_cons,List.map_nil,eb];simp[k1],_,rfl⟩
    .rintro ys σ' H1 ⟨rfl,_,rfl,_⟩ p hp;walk_at"rd";refine⟨z.cps.toList.map EN,Je.of ?_,?_⟩
     .rw[ND];have:z.cps.toList.take z.cps.size=z.cps.toList:=by rw[YS];simp
      rw[this,XM];rfl
     .refine o _ ?_ _ (J9.new (J9.refl _) hp);simp only[MD,h1,h2,Xb,UM,List.all_map];rfl
   .have d:¬(z.length:Int) <=8:=by lia
    simp only[d,X9,Bool.not_false,if_true];exact o _ (by simp[MD,h2]) H (J9.refl H)
  .have g:¬(1:Int) <=(z.length:Int):=by lia
   simp only[g,X9,Bool.false_eq_true,if_false,Bool.not_false,if_true,true_and,exists_eq_left'];exact o _ (by simp[MD,h1]) H (J9.refl H)
def Mc(H:Hp)(x:V):Prop:=∀a xs,x= .ref a->H a=some (.lst xs)->xs.length <=100000/\∀y∈xs,∃n,Tt H y=some n
inductive Oe(vs:List V)(H:Hp)(Q:VK)(E:XK):Prop|mk (x n:_) (_:vs=[x]) (_:Tt H x=some n) (_:Mc H x) (_:∀H',J9 H H'->Q (.bl (DP H x)) H')
abbrev Cg:Stmt:=top 13
theorem Zz:Ng ["value"] ["value"] (J8 Cg):=by walk_at"e"
theorem Sf{f:J2}{fd:WX}(F:Nk K "is_body" "is_body" Cg f fd)(T:Cn mg)(B:Bt mg)(TC:NJ P w K mg base "is_byte" 3 ["value"] [] OR):Ji P w K mg base JN 4 f fd ["value"] Oe:=by
 refine F.ok Zz (fun vs H Q E h=>?_) (fun cdv A z s H vs Q E hr h=>?_)
 .obtain⟨x,n,rfl,_⟩:=h;rfl
 .obtain⟨x,n,rfl,ty,hz,q⟩:=h;refine⟨_,(Jn (Np (PW.pt (R9 (MB (TU (Nz (GC "list") B.isinstance (Jj 0 (JG (hs:=MJ) (GN (v:=.ty "list") rfl B.blist (by rfl) rfl) Jc))))) (RH (MB (O7 (Nj Rs) (Nj Rs) Jp (Nz (D1 (D2 (K:=K) rfl)) B.len (Jj 0 Jc)) (Rw rfl T.c_MOST_BYTES)))))) (Jl (JR Re)) NG) (Jl (JR (Nz (BY (K:=K) rfl rfl) B.all (JG (hs:=Eh) (DB (N':=["part"]) (caps:=[none]) (D6 (sc:=J8 Cg) (N:=["value"]) rfl rfl (by decide +kernel)) rfl (MG (K:=K) rfl (Ja 0)) (fun _ _ _ _ _=>(Ml (i:=0) (MK (N:=["part"]) rfl (by decide +kernel)) rfl (Or.inl rfl))) (fun _ _ _ _ _=>Dt) (fun _ _ _ _ _=>(Nr TC hr.m rfl (Jj 0 Jc)))) Jc))))),?_⟩;walk_at"rd";refine⟨n,ty,?_⟩;rw[uB ty];cases hL:Bq H x with
  |false=>
   simp only[Bool.not_false,if_true];have e:=jO hL;rw[e]at q;exact q H (J9.refl H)
  |true=>
   obtain⟨a,xs,rfl,c⟩:=uW hL;obtain⟨l,r⟩:=hz a xs rfl c;rw[OF c]at q;simp only[Bool.not_true,Bool.false_eq_true,if_false];walk_at"rd";refine⟨xs,.inl (Je.of c),?_⟩
   by_cases h1:1 <=xs.length
   .have g:(1:Int) <=(xs.length:Int):=by lia
    simp only[g,Xb,if_true]
    by_cases h2:xs.length <=4000
    .have d:(xs.length:Int) <=4000:=by lia
     simp only[d,Xb,Bool.not_true,Bool.false_eq_true,if_false];refine⟨⟨xs,Je.of c⟩,?_⟩;obtain⟨o,b⟩:∃o:Nat->List V->L2.St->Hp->Prop,o=fun i ys σ' H1=>H1=H/\i <=xs.length/\ys=(xs.take i).map (fun y=>V.bl (MV y 0 255))/\∃v,σ'=[v]:=⟨_,rfl⟩
     refine PY (xs:=xs) o (by rw[b];exact⟨rfl,Yv _,by simp,none,rfl⟩) ?_ (JT l) ?_ ?_ <;> rw[b]
     .rintro i ys σ' H1 ⟨rfl,hi,rfl,_⟩ _;refine⟨Je.of c,?_⟩;simp only[Y4,Ym];lia
     .rintro i y ys σ' H1 j ⟨rfl,hi,rfl,v,rfl⟩;rw[<-b];have u:i < xs.length:=(Y6.mp j).1;obtain⟨m,hm⟩:=r y (YB j);walk_at"rd";refine⟨y,m,rfl,hm,?_⟩;rw[b];refine⟨rfl,u,?_,_,rfl⟩;rw[YZ,j,Option.toList_some,Yw,List.map_cons,List.map_nil]
     .rintro ys σ' H1 ⟨rfl,_,rfl,_⟩ p hp;walk_at"rd";refine⟨xs.map (fun y=>MV y 0 255),Je.of ?_,?_⟩
      .rw[ND,YS (Y7 _),XM];rfl
      .have e:(xs.map (fun y=>MV y 0 255)).all id=(decide (1 <=xs.length) && decide (xs.length <=4000) && xs.all (fun y=>MV y 0 255)):=by
        simp only[h1,h2,Xb,UM,List.all_map];rfl
       rw[e];exact q _ (J9.new (J9.refl _) hp)
    .have d:¬(xs.length:Int) <=4000:=by lia
     simp only[d,X9,Bool.not_false,if_true];simp only[h2,X9,Bool.and_false,U8]at q;exact q H (J9.refl H)
   .have g:¬(1:Int) <=(xs.length:Int):=by lia
    simp only[g,X9,Bool.false_eq_true,if_false,Bool.not_false,if_true,true_and,exists_eq_left'];simp only[h1,X9,U8]at q;exact q H (J9.refl H)
def NQ(H:Hp)(number sender goal body keep:V):Bool:=MV number 0 65535 && (MD sender && (MD goal && (DP H body && Ro keep)))
structure IL(H:Hp)(number sender goal body keep:V):Prop where
 n:∃t,Tt H number=some t
 s:∃t,Tt H sender=some t
 sl:∀z,sender= .str z->z.length <=100000
 g:∃t,Tt H goal=some t
 gl:∀z,goal= .str z->z.length <=100000
 b:∃t,Tt H body=some t
 bp:Mc H body
 k:∃t,Tt H keep=some t
theorem PH{H H':Hp}(s:J9 H H'){x:V}{n:String}(ty:Tt H x=some n):DP H' x=DP H x:=by
 cases x with
 |ref a=>
  have ty:(H a).bind DU=some n:=ty;cases e:H a with
  |none=>rw[e]at ty;cases ty
  |some o=>
   show(match H' a with|some (.lst xs)=>_|_=>false)=(match H a with|some (.lst xs)=>_|_=>false);rw[s a o e,e]
 |_=>rfl
theorem Mc.same{H H':Hp}(s:J9 H H'){x:V}{n:String}(ty:Tt H x=some n)(h:Mc H x):Mc H' x:=by
 intro a xs ex f;subst ex;have b:(H a).bind DU=some n:=ty;cases e:H a with
 |none=>rw[e]at b;cases b
 |some o=>
  have:=s a o e;rw[f]at this;cases this;obtain⟨h1,h2⟩:=h a xs rfl e;exact⟨h1,fun y c=>by obtain⟨m,d⟩:=h2 y c;exact⟨m,Ac s d⟩⟩
inductive LA(vs:List V)(H:Hp)(Q:VK)(E:XK):Prop|mk (number sender goal body keep:_) (_:vs=[number,sender,goal,body,keep]) (_:IL H number sender goal body keep) (_:∀H',J9 H H'->Q (.bl (NQ H number sender goal body keep)) H')
abbrev HQ:Stmt:=top 21
theorem QL:Ng ["number","sender","goal","body","keep"] ["number","sender","goal","body","keep"] (J8 HQ):=by walk_at"e"
theorem SI{f:J2}{fd:WX}(F:Nk K "are_shared_parts" "are_shared_parts" HQ f fd)(Ta:NJ P w K mg base "is_number" 3 ["value"] [] Q0)(Te:NJ P w K mg base "is_name" 1 ["value"] [] Kw)
  (TF:NJ P w K mg base "is_body" 4 ["value"] [] Oe) (Ny:NJ P w K mg base "is_truth" 1 ["value"] [] Hk):Ji P w K mg base JN 5 f fd ["number","sender","goal","body","keep"] LA:=by
 refine F.ok QL (fun vs H Q E h=>?_) (fun cdv A aa s H vs Q E i h=>?_)
 .obtain⟨a,b,c,d,e,rfl,_⟩:=h;rfl
 .obtain⟨nu,se,go,bo,ke,rfl,⟨⟨tn,hn⟩,⟨ts,hs⟩,u,⟨tg,hg⟩,v,⟨tb,o⟩,z,⟨tk,hk⟩⟩,q⟩:=h;refine⟨_,(Jl (JR (MZ (Nr Ta i.m rfl (Jj 0 Jc)) (MZ (Nr Te i.m rfl (Jj 1 Jc)) (MZ (Nr Te i.m rfl (Jj 2 Jc)) (MZ (Nr TF i.m rfl (Jj 3 Jc)) (Dr (Nr Ny i.m rfl (Jj 4 Jc))))))))),?_⟩;walk_at"rd";unfold NQ at q;refine⟨nu,tn,rfl,hn,_,rfl,Ti (fun h1=>?_) (fun h1=>?_)⟩
  .refine⟨se,ts,rfl,hs,u,fun H1 n=>⟨_,rfl,Ti (fun h2=>?_) (fun h2=>?_)⟩⟩
   .refine⟨go,tg,rfl,Ac n hg,v,fun H2 r=>⟨_,rfl,Ti (fun l=>?_) (fun l=>?_)⟩⟩
    .have g:=n.trans r;refine⟨bo,tb,rfl,Ac g o,z.same g o,fun H3 p=>⟨_,rfl,Ti (fun j=>?_) (fun j=>?_)⟩⟩
     .refine⟨ke,tk,rfl,Ac (g.trans p) hk,?_⟩;rw[PH g o]at j;simp only[h1,h2,l,j,UM]at q;exact q _ (g.trans p)
     .rw[PH g o,Vq]at j;simp only[h1,h2,l,j,UM,U8]at q;exact q _ (g.trans p)
    .rw[Vq]at l;simp only[h1,h2,l,UM,U8]at q;exact q _ (n.trans r)
   .rw[Vq]at h2;simp only[h1,h2,UM,U8]at q;exact q _ n
  .rw[Vq]at h1;simp only[h1,U8]at q;exact q H (J9.refl H)
end
section
theorem T6{f:Str}{v:V}{fs:List (Str×V)}{n:Nat}(h:fs.length <=n):(No f v fs).length <=n+ 1:=YT (Hd f v fs) (Nat.succ_le_succ h)
theorem Jw{f g:Str}{v:V}{fs:List (Str×V)}(h:¬g=f):(No f v fs).lookup g=fs.lookup g:=by rw[AC,Y1 h]
theorem MR{f:Str}{v:V}{fs:List (Str×V)}:(No f v fs).lookup f=some v:=by rw[AC,Y3 rfl]
end
section
variable{P:WV}{w:WZ}{K:J0}{mg:WQ}{base:J6}
def EM:V->Bool
 | .int i=>decide (0 <=i) && decide (i%8=0)
 |_=>false
inductive Kt(vs:List V)(H:Hp)(Q:VK)(E:XK):Prop|mk (x n:_) (_:vs=[x]) (_:Tt H x=some n) (_:Q (.bl (EM x)) H)
abbrev Kj:Stmt:=top 22
theorem tJ:Ng ["at"] ["at"] (J8 Kj):=by walk_at"e"
theorem uN{f:J2}{fd:WX}(F:Nk K "is_place" "is_place" Kj f fd)(T:Cn mg)(NB:NJ P w K mg base "is_whole" 1 ["value"] [] Hg):Ji P w K mg base JN 2 f fd ["at"] Kt:=by
 refine F.ok tJ (fun vs H Q E h=>?_) (fun c A a s H vs Q E b h=>?_)
 .obtain⟨x,n,rfl,_⟩:=h;rfl
 .obtain⟨x,n,rfl,ty,q⟩:=h;refine⟨_,(Jl (JR (MZ (Nr NB b.m rfl (Jj 0 Jc)) (MZ (Mo (Nj Ia) (Ja 0) Jp (Mp _)) (Dr (Mo (Mz Mr) (JM (dI Mf) (Ja 0) (Rw rfl T.c_STEP)) Jp (Mp _))))))),?_⟩;walk_at"rd";refine⟨x,n,rfl,ty,_,rfl,Ti (fun h=>?_) (fun h=>?_)⟩
  .cases x <;> first|(simp[GR]at h;done)|skip
   rename_i i
   walk_at"rd"
   by_cases h1:0 <=i
   .simp only[h1,Xb,if_true];refine⟨by decide,rfl,?_⟩;simpa[EM,h1] using q
   .simp only[h1,X9,Bool.false_eq_true,if_false];simpa[EM,h1] using q
  .have e:EM x=false:=by cases x <;> first|rfl|(simp[GR]at h)
   rw[e]at q;exact q
def Ry(at' len:Int)(more:Bool):Bool:=if more then decide (len%8=0) && decide (at'+ len < 4000) else decide (at'+ len <=4000)
inductive KL(vs:List V)(H:Hp)(Q:VK)(E:XK):Prop|mk (at' len more:_) (_:vs=[.int at',.int len,.bl more]) (_:Q (.bl (Ry at' len more)) H)
abbrev HZ:Stmt:=top 23
theorem xD:Ng ["at","length","more"] ["at","length","more"] (J8 HZ):=by walk_at"e"
theorem vJ{f:J2}{fd:WX}(F:Nk K "has_room" "has_room" HZ f fd)(T:Cn mg):Ji P w K mg base JN 1 f fd ["at","length","more"] KL:=by
 refine F.ok xD (fun vs H Q E h=>?_) (fun c A b s H vs Q E d h=>?_)
 .obtain⟨a,l,m,rfl,_⟩:=h;rfl
 .obtain⟨a,l,m,rfl,q⟩:=h;refine⟨_,(Jn (Np (TU (Ja 2)) (Jl (JR (MZ (Mo (Mz Mr) (JM (dI Mf) (Ja 1) (Rw rfl T.c_STEP)) Jp (Mp _)) (Dr (Mo (Nj RE) (JM (Nj TJ) (Ja 0) (Ja 1)) (Rw rfl T.c_MOST_BYTES) (Mp _)))))) NG) (Jl (JR (Mo (Nj Rs) (JM (Nj TJ) (Ja 0) (Ja 1)) (Rw rfl T.c_MOST_BYTES) (Mp _))))),?_⟩;walk_at"rd";cases m with
  |true=>
   rw[Y3 rfl];refine⟨by decide,rfl,?_⟩;unfold Ry at q;rw[Y3 rfl]at q
   by_cases h1:l%8=0
   .rw[Y3 (by simpa using h1)];simpa[h1] using q
   .rw[Y1 (by simpa using h1)];simpa[h1] using q
  |false=>
   rw[Y1 (by simp)];exact q
structure Gg(K:J0)(C:J2):Prop where
 cl:MQ K C
 number:JC K C "number"
 sender:JC K C "sender"
 goal:JC K C "goal"
 at':JC K C "at"
 body:JC K C "body"
 more:JC K C "more"
 keep:JC K C "keep"
structure NX(C:J2)(H:Hp)(p:J2)(nu se go a bo mo ke:V):Prop where
 ex:∃dx fs,H p=some (.ins C dx fs)/\fs.lookup ("number":Str)=some nu/\fs.lookup ("sender":Str)=some se/\fs.lookup ("goal":Str)=some go/\fs.lookup ("at":Str)=some a/\fs.lookup ("body":Str)=some bo/\fs.lookup ("more":Str)=some mo/\fs.lookup ("keep":Str)=some ke/\
  fs.lookup ("key":Str)=none/\fs.lookup ("end":Str)=none/\fs.lookup ("is_like":Str)=none
theorem NX.same{C p:J2}{H H':Hp}{nu se go a bo mo ke:V}(s:∀o,H p=some o->H' p=some o)(h:NX C H p nu se go a bo mo ke):NX C H' p nu se go a bo mo ke:=by
 obtain⟨dx,fs,b,r⟩:=h;exact⟨dx,fs,s _ b,r⟩
inductive Bg(C:J2)(vs:List V)(H:Hp)(Q:VK)(E:XK):Prop|mk (p dx:J2) (nu se go:V) (a:Int) (b:J2) (mo:Bool) (ke:V) (xs:List V) (_:vs=[.ref p,nu,se,go,.int a,.ref b,.bl mo,ke]) (_:H p=some (.ins C dx [])) (_:IL H nu se go (.ref b) ke) (_:NQ H nu se go (.ref b) ke=true) (_:EM (.int a)=true) (_:H b=some (.lst xs)) (_:Ry a xs.length mo=true) (_:∀H' b',H b'=none->b'≠p->H' b'=some (.lst xs)->NX C H' p nu se go (.int a) (.ref b') (.bl mo) ke->Nd p H H'->Q .non H')
abbrev Jh:Stmt:=DV (top 24) 0
theorem yB:Ng ["self","number","sender","goal","at","body","more","keep"] ["self","number","sender","goal","at","body","more","keep"] (J8 Jh):=by walk_at"e"
theorem ZM {f C : Addr} {fd : FuncData} (F : ∃ (oc : Value) (od : Option Addr) (dV kV doc pm : Value) (an : Option Addr) (cdv ct : Value) (osl : Array (Option Value)),
  fd = W.fnOf "__init__" "Piece.__init__" (De Jh) (Jo Jh) (J8 Jh) dV kV doc pm an cdv ct /\ K.lookup f = some ⟨oc, od, .func fd, osl⟩ /\ W.codeIn K cdv "Piece.__init__" = true) (L : Gg K C) (B : Bt mg)
  (JU:NJ P w K mg base "are_shared_parts" 5 ["number","sender","goal","body","keep"] [] LA) (Tp:NJ P w K mg base "is_place" 2 ["at"] [] Kt) (Ny:NJ P w K mg base "is_truth" 1 ["value"] [] Hk)
  (Tn:NJ P w K mg base "has_room" 1 ["at","length","more"] [] KL):Ji P w K mg base JN 6 f fd ["self","number","sender","goal","at","body","more","keep"] (Bg C):=by
 obtain⟨oc,od,dV,kV,doc,pm,an,cdv,ct,osl,rfl,lk,hcd⟩:=F;refine EK lk hcd yB (fun vs H Q E h=>?_) (fun A u s H vs Q E hr h=>?_)
 .obtain⟨p,dx,nu,se,go,a,b,mo,ke,xs,rfl,_⟩:=h;rfl
 .obtain⟨p,dx,nu,se,go,a,b,mo,ke,xs,rfl,hp,hpl,hgd,hat,hb,v,q⟩:=h
  suffices hh:∃t,ME (M0 JN P w K mg base _ "Piece.__init__" (J8 Jh) f cdv A u s H E).nox (Jo Jh) t/\t {nx:=fun _ H'=>Q .non H',rt:=Q} (L2.start _ _) H by
   obtain⟨t,h1,h2⟩:=hh;exact⟨t,h1.nox,h2⟩
  refine⟨_,(Jn (Np (MB (TU (Nr JU hr.m rfl (Jj 1 (Jj 2 (Jj 3 (Jj 5 (Jj 7 Jc)))))))) B6 NG) (Jn (Np (PW.pt (R9 (MB (TU (Nr Tp hr.m rfl (Jj 4 Jc)))) (R9 (MB (TU (Nr Ny hr.m rfl (Jj 6 Jc)))) (RH (MB (TU (Nr Tn hr.m rfl (Jj 4 (Mm (Nz (D1 (D2 (K:=K) rfl)) B.len (Jj 5 Jc)) (Jj 6 Jc)))))))))) B6 NG) (Jn (Eg (K:=K) rfl (Ja 0) (Ja 1) rfl) (Jn (Eg (K:=K) rfl (Ja 0) (Ja 2) rfl) (Jn (Eg (K:=K) rfl (Ja 0) (Ja 3) rfl) (Jn (Eg (K:=K) rfl (Ja 0) (Ja 4) rfl) (Jn (Eg (K:=K) rfl (Ja 0) (Em (LO (K:=K) rfl) rfl B.blist (by rfl) (Jj 5 Jc)) rfl) (Jn (Eg (K:=K) rfl (Ja 0) (Ja 6) rfl) (Jl (Eg (K:=K) rfl (Ja 0) (Ja 7) rfl)))))))))),?_⟩;refine Nt fun N r=>?_
  walk_at"rd";refine⟨nu,se,go,.ref b,ke,rfl,hpl,fun H1 n=>⟨_,rfl,?_⟩⟩;rw[hgd];simp only[Bool.not_true,Bool.false_eq_true,if_false];refine r _ _ ?_;clear r N;refine Nt fun N r=>?_
  walk_at"rd";refine ⟨.int a, _, rfl, rfl, _, rfl, ?_⟩;rw [hat];simp only [Bool.not_true, Bool.false_eq_true, if_false];refine ⟨.bl mo, _, rfl, rfl, _, rfl, ?_⟩;have hp1 := n p _ hp;have hb1 := n b _ hb;have i : b ≠ p := N6 hb hp (by intro z; cases z);have j : ([] : List (Str × V)).length <= 0 := Y7 0;simp only [Ro, Bool.not_true, Bool.false_eq_true, if_false];refine ⟨_, .inl (Je.of hb1), a, _, mo, rfl, _, rfl, ?_⟩;rw [v];simp only [Bool.not_true, Bool.false_eq_true, if_false];refine r _ _ ?_;clear r N;walk_at"rd";refine ⟨C, dx, [], hp1, L.cl, L.number, by decide, C, dx, _, ND, L.cl, L.sender, YH (T6 j) (by decide), C, dx, _, ND, L.cl, L.goal, YH (T6 (T6 j)) (by decide), C, dx, _, ND, L.cl, L.at', YH (T6 (T6 (T6 j))) (by decide), xs,
   .inl (Je.of (by rw [JY i, JY i, JY i, JY i]; exact hb1)), fun l hl => ?_⟩
  have d:l≠p:=fun z=>by rw[z,ND]at hl;cases hl
  have hl1:H1 l=none:=by rw[JY d,JY d,JY d,JY d]at hl;exact hl
  refine⟨C,dx,_,by rw[JY (Ne.symm d)];exact ND,L.cl,L.body,YH (T6 (T6 (T6 (T6 j)))) (by decide),C,dx,_,ND,L.cl,L.more,YH (T6 (T6 (T6 (T6 (T6 j))))) (by decide),C,dx,_,ND,L.cl,L.keep,YH (T6 (T6 (T6 (T6 (T6 (T6 j)))))) (by decide),?_⟩;refine q _ l (n.free hl1) d (by rw[JY d,JY d,JY d,ND]) ⟨dx,_,ND,?_,?_,?_,?_,?_,?_,?_,?_,?_,?_⟩ ?_
  .rw[Jw,Jw,Jw,Jw,Jw,Jw,MR] <;> decide +kernel
  .rw[Jw,Jw,Jw,Jw,Jw,MR] <;> decide +kernel
  .rw[Jw,Jw,Jw,Jw,MR] <;> decide +kernel
  .rw[Jw,Jw,Jw,MR] <;> decide +kernel
  .rw[Jw,Jw,MR] <;> decide +kernel
  .rw[Jw,MR] <;> decide +kernel
  .rw[MR]
  .rw[Jw,Jw,Jw,Jw,Jw,Jw,Jw] <;> first|rfl|decide +kernel
  .rw[Jw,Jw,Jw,Jw,Jw,Jw,Jw] <;> first|rfl|decide +kernel
  .rw[Jw,Jw,Jw,Jw,Jw,Jw,Jw] <;> first|rfl|decide +kernel
  .intro c o e g;rw[JY g,JY g,JY g,JY (Tg (n c o e) hl1),JY g,JY g,JY g,JY g];exact n c o e
inductive Fu(C:J2)(vs:List V)(H:Hp)(Q:VK)(E:XK):Prop|mk (p nu se go a bo mo ke:_) (_:vs=[.ref p]) (_:NX C H p nu se go a bo mo ke) (_:∀t,H t=none->Q (.ref t) (upd H t (.tup [nu,se,go])))
abbrev Hx:Stmt:=DV (top 24) 1
theorem Sh:Ng ["self"] ["self"] (J8 Hx):=by walk_at"e"
theorem Zm{f C:J2}{fd:WX}(F:Nk K "key" "Piece.key" Hx f fd)(L:Gg K C):Ji P w K mg base JN 1 f fd ["self"] (Fu C):=by
 refine F.ok Sh (fun vs H Q E h=>?_) (fun u A g s H vs Q E v h=>?_)
 .obtain⟨p,d,c,e,a,r,i,j,rfl,_⟩:=h;rfl
 .obtain⟨p,d,c,e,a,r,i,j,rfl,⟨dx,fs,b,o,n,l,_⟩,q⟩:=h;refine⟨_,(Jl (JR (xS (DD (B9 (K:=K) rfl (Ja 0) rfl) (DD (B9 (K:=K) rfl (Ja 0) rfl) (DD (B9 (K:=K) rfl (Ja 0) rfl) Jc)))))),?_⟩;walk_at"rd";exact⟨C,dx,fs,b,L.cl,L.number,d,o,C,dx,fs,b,L.cl,L.sender,c,n,C,dx,fs,b,L.cl,L.goal,e,l,JT (by decide),q⟩
inductive F6(C:J2)(vs:List V)(H:Hp)(Q:VK)(E:XK):Prop|mk (p:J2) (nu se go:V) (a:Int) (b:J2) (mo ke:V) (xs:List V) (_:vs=[.ref p]) (_:NX C H p nu se go (.int a) (.ref b) mo ke) (_:H b=some (.lst xs)) (_:Q (.int (a+ xs.length)) H)
abbrev Hr:Stmt:=DV (top 24) 2
theorem wE:Ng ["self"] ["self"] (J8 Hr):=by walk_at"e"
theorem nR{f C:J2}{fd:WX}(F:Nk K "end" "Piece.end" Hr f fd)(L:Gg K C)(B:Bt mg):Ji P w K mg base JN 1 f fd ["self"] (F6 C):=by
 refine F.ok wE (fun vs H Q E h=>?_) (fun u A d s H vs Q E v h=>?_)
 .obtain⟨p,g,e,n,a,bo,i,j,xs,rfl,_⟩:=h;rfl
 .obtain⟨p,g,e,n,a,b,i,j,xs,rfl,⟨dx,fs,c,f1,f2,z,r,o,_⟩,l,q⟩:=h;refine⟨_,(Jl (JR (JM (Nj TJ) (B9 (K:=K) rfl (Ja 0) rfl) (Nz (D1 (D2 (K:=K) rfl)) B.len (DD (B9 (K:=K) rfl (Ja 0) rfl) Jc))))),?_⟩;walk_at"rd";exact⟨C,dx,fs,c,L.cl,L.at',_,r,C,dx,fs,c,L.cl,L.body,_,o,b,rfl,xs,.inl (Je.of l),a,rfl,q⟩
def Dc(H:Hp)(a:J2):Prop:=(∃n,H a=some (.lst [.int n]))\/∃n m c,H a=some (.lst [.int n,.int m,.int c])
theorem QT(x y:Int):GH (x%2147483647) y:=.inl ⟨by have:=US x (show(2147483647:Int)≠0 by decide);lia,by have:=Ur x (show(0:Int) < 2147483647 by decide);lia⟩
def T8(z:Str):Prop:=1 <=z.length/\z.length <=8/\z.cps.toList.all EN=true
theorem T8.is{z:Str}(h:T8 z):MD (.str z)=true:=by
 obtain⟨h1,h2,a⟩:=h;simp only[MD,h1,h2,a,Xb,Bool.and_self]
end
section
variable{K:J0}
theorem T8.ok{z:Str}(h:T8 z):PyData.strOk z=true:=by
 unfold PyData.strOk;rw[Array.all_eq_true];intro i hi;have a:=Xe.mp h.2.2 (z.cps[i]) (V1 hi);unfold EN at a;simp only[X8,Yg]at a;simp only[Yg];lia
abbrev Ef(nu:Int)(z1 z2:Str):PyData:=.tuple [.int nu,.str z1,.str z2]
theorem Be{H:Hp}{t:J2}{nu:Int}{z1 z2:Str}(h:H t=some (.tup [.int nu,.str z1,.str z2])):Dp K H (.ref t) (Ef nu z1 z2):=
 .tup (JV.of h) (.cons (.int _) (.cons (.str _) (.cons (.str _) .nil)))
theorem Cd(nu:Int){z1 z2:Str}(h1:T8 z1)(h2:T8 z2):SeqAt.shaped (Ef nu z1 z2)=true:=by
 simp[SeqAt.shaped,PyData.canLay0,PyData.canLayAll0,PyData.depth,PyData.depthAll,h1.ok,h2.ok]
theorem SU(nu:Int)(z1 z2:Str):PyData.eqv (Ef nu z1 z2) (Ef nu z1 z2)=true:=by simp[PyData.eqv,PyData.eqvAll]
theorem LJ{H:Hp}{b:J2}{ns:J3}(h:H b=some (.lst (ns.map V.int))):Dp K H (.ref b) (.list (ns.map PyData.int)):=.lst (Je.of h) (T4.ints ns)
theorem SD(ns:J3):PyData.eqv (.list (ns.map PyData.int)) (.list (ns.map PyData.int))=true:=by
 show PyData.eqvAll _ _=true;rw[W.ked_eqvAll];simp
theorem SG{n:Nat}(h:0 < n):Gp n 0=some 0:=by
 have h':(0:Int) < (n:Int):=by lia
 unfold Gp;rw[Y3 (by decide),Y3 h'];rfl
theorem Sk{α:Type}{x:α}{xs:List α}:Dj (x::xs) 0=some x:=by
 unfold Dj;rw[List.length_cons,SG (Nat.succ_pos _)];rfl
theorem wL(ns:J3)(lo hi:Option Int):∃ms:List Int,Dz (ns.map V.int) lo hi=ms.map V.int/\ms.length <=ns.length:=by
 refine⟨(ns.drop (HT.sIx (ns.map V.int).length 0 lo)).take (HT.sIx (ns.map V.int).length (ns.map V.int).length hi - HT.sIx (ns.map V.int).length 0 lo),?_,?_⟩
 .unfold Dz;rw[List.map_take,VS]
 .rw[Ym,X2];lia
theorem tF{H:Hp}{nu:Int}{z1 z2:Str}{b:J2}{ns:J3}{k:Bool}(h0:0 <=nu)(h1:nu <=65535)(n1:T8 z1)(n2:T8 z2)(hb:H b=some (.lst (ns.map V.int)))(l1:1 <=ns.length)(l2:ns.length <=4000)(hns:∀x∈ns,0 <=x/\x <=255):
  IL H (.int nu) (.str z1) (.str z2) (.ref b) (.bl k)/\NQ H (.int nu) (.str z1) (.str z2) (.ref b) (.bl k)=true:=by
 refine⟨⟨⟨_,rfl⟩,⟨_,rfl⟩,fun z e=>?_,⟨_,rfl⟩,fun z e=>?_,⟨_,Bp hb⟩,fun a xs g f=>?_,⟨_,rfl⟩⟩,?_⟩
 .cases e;have:=n1.2.1;lia
 .cases e;have:=n2.2.1;lia
 .cases g;rw[hb]at f;cases f;refine⟨by rw[Y4];lia,fun y c=>?_⟩;obtain⟨i,_,rfl⟩:=YD.mp c;exact⟨_,rfl⟩
 .unfold NQ;rw[n1.is,n2.is,OF hb];have d:(ns.map V.int).all (fun y=>MV y 0 255)=true:=by
   rw[Xe];intro y c;obtain⟨i,hi,rfl⟩:=YD.mp c;have:=hns i hi;simp[MV,this.1,this.2]
  rw[d];simp[MV,h0,h1,l1,l2,Ro]
inductive CJ(K:J0)(vs:List V)(H:Hp)(Q:VK)(E:XK):Prop|mk (a:J2) (ns:J3) (_:vs=[.ref a]) (_:Je K H a (ns.map V.int)) (_:ns.length <=63) (_:∀H',Q (.bl true) H')
end
section
variable{P:WV}{w:WZ}{K:J0}{mg:WQ}{base:J6}
theorem OM(nu:Int)(z1 z2:Str)(nu':Int)(z1' z2':Str):PyData.eqv (Ef nu z1 z2) (Ef nu' z1' z2')=decide (nu=nu'/\z1=z1'/\z2=z2'):=by
 simp only[PyData.eqv,PyData.eqvAll,Bool.and_true];rw[YU];simp
end
structure PD where
 nu:Int
 z1:Str
 z2:Str
 at':Int
 ns:List Int
 mo:Bool
 k:Bool
 deriving DecidableEq
structure PD.Ok(d:PD):Prop where
 n0:0 <=d.nu
 n1:d.nu <=65535
 k1:T8 d.z1
 k2:T8 d.z2
 l1:1 <=d.ns.length
 l2:d.ns.length <=4000
 by':∀x∈d.ns,0 <=x/\x <=255
 a0:0 <=d.at'
 a8:d.at'%8=0
 rm:Ry d.at' d.ns.length d.mo=true
structure Nx(C:J2)(H:Hp)(p b:J2)(d:PD):Prop where
 ok:d.Ok
 ats:NX C H p (.int d.nu) (.str d.z1) (.str d.z2) (.int d.at') (.ref b) (.bl d.mo) (.bl d.k)
 bd:H b=some (.lst (d.ns.map V.int))
section
variable{P:WV}{w:WZ}{K:J0}{mg:WQ}{base:J6}{C p b:J2}{H G:Hp}
theorem Nx.mono{d:PD}(s:J9 H G)(h:Nx C H p b d):Nx C G p b d:=⟨h.ok,h.ats.same (s p),s _ _ h.bd⟩
theorem Nx.but{d:PD}{l:J2}(s:Nd l H G)(h:Nx C H p b d)(n1:p≠l)(n2:b≠l):Nx C G p b d:=⟨h.ok,h.ats.same fun o e=>s p o e n1,s _ _ h.bd n2⟩
theorem Nx.ins{d:PD}(h:Nx C H p b d):∃dx fs,H p=some (.ins C dx fs):=by
 obtain⟨dx,fs,a,_⟩:=h.ats;exact⟨dx,fs,a⟩
theorem Cv{d:PD}(L:Gg K C)(h:Nx C H p b d):TQ K H (.ref p) "at" (.int d.at'):=by
 obtain⟨dx,fs,a,l,j,i,c,g,f,e,_⟩:=h.ats;exact⟨p,C,dx,fs,rfl,a,L.cl,L.at',c⟩
theorem Q6{d:PD}(L:Gg K C)(h:Nx C H p b d):TQ K H (.ref p) "body" (.ref b):=by
 obtain⟨dx,fs,a,l,j,i,g,c,f,e,_⟩:=h.ats;exact⟨p,C,dx,fs,rfl,a,L.cl,L.body,c⟩
theorem P4{d:PD}(L:Gg K C)(h:Nx C H p b d):TQ K H (.ref p) "more" (.bl d.mo):=by
 obtain⟨dx,fs,a,l,j,i,g,f,c,e,_⟩:=h.ats;exact⟨p,C,dx,fs,rfl,a,L.cl,L.more,c⟩
theorem Kc{d:PD}(h:Nx C H p b d):Rk C "key" H (.ref p):=by
 obtain⟨dx,fs,a,_,_,_,_,_,_,_,f,_⟩:=h.ats;exact⟨p,dx,fs,rfl,a,f⟩
theorem En{d:PD}(h:Nx C H p b d):Rk C "end" H (.ref p):=by
 obtain⟨dx,fs,a,_,_,_,_,_,_,_,_,f,_⟩:=h.ats;exact⟨p,dx,fs,rfl,a,f⟩
def PD.key(d:PD):Int×Str×Str:=(d.nu,d.z1,d.z2)
end
section
variable{P:WV}{w:WZ}{K:J0}{mg:WQ}{base:J6}{C:J2}
inductive Iq(C:J2)(vs:List V)(H:Hp)(Q:VK)(E:XK):Prop|mk (p b:J2) (d:PD) (_:vs=[.ref p]) (_:Nx C H p b d) (_:∀t G,H t=none->J9 H G->G t=some (.tup [.int d.nu,.str d.z1,.str d.z2])->Q (.ref t) G)
theorem Ks(F:Mi P w K mg base C "key" 1 ["self"] [] (Fu C)):Mi P w K mg base C "key" 1 ["self"] [] (Iq C):=
 F.imp fun vs H Q E ⟨p,b,d,e,h,q⟩=>⟨p,_,_,_,_,_,_,_,e,h.ats,fun t a=>q t _ a (ML a) ND⟩
end
section
variable{P:WV}{w:WZ}{K:J0}{mg:WQ}{base:J6}
def NY(C:J2)(H:Hp)(ps:List (Addr×Addr))(ds:List PD):Prop:=Paired (fun(q:Addr×Addr) (d:PD)=>Nx C H q.1 q.2 d) ps ds
theorem NY.len{C:J2}{H:Hp}{ps:List (Addr×Addr)}{ds:List PD}(h:NY C H ps ds):ps.length=ds.length:=Paired.length h
theorem NY.mono{C:J2}{H G:Hp}{ps:List (Addr×Addr)}{ds:List PD}(s:J9 H G)(h:NY C H ps ds):NY C G ps ds:=by
 induction h with
 |nil=>exact .nil
 |cons r _ ih=>exact .cons (r.mono s) ih
theorem NY.app{C:J2}{H:Hp}{ps qs:List (Addr×Addr)}{ds es:List PD}(h:NY C H ps ds)(k:NY C H qs es):NY C H (ps++qs) (ds++es):=by
 induction h with
 |nil=>exact k
 |cons r _ ih=>exact .cons r ih
theorem NY.get{C:J2}{H:Hp}{ps:List (Addr×Addr)}{ds:List PD}(h:NY C H ps ds){i:Nat}{q:Addr×Addr}(e:ps[i]?=some q):∃d,ds[i]?=some d/\Nx C H q.1 q.2 d:=by
 induction h generalizing i with
 |nil=>simp at e
 |cons r _ ih=>
  cases i with
  |zero=>
   simp only[List.getElem?_cons_zero,Option.some.injEq]at e;subst e;exact⟨_,rfl,r⟩
  |succ i=>exact ih (by simpa using e)
def N8(ps:List (Addr×Addr)):List V:=ps.map fun q=>V.ref q.1
theorem Ew(ps:List (Addr×Addr)):(N8 ps).length=ps.length:=Y4 ..
theorem KD(a b:List (Addr×Addr)):N8 (a++b)=N8 a++N8 b:=Yw
theorem C6{ps:List (Addr×Addr)}{i:Nat}{x:V}(h:(N8 ps)[i]?=some x):∃q,ps[i]?=some q/\x= .ref q.1:=by
 unfold N8 at h;rw[Yf]at h;cases e:ps[i]? with
 |none=>rw[e]at h;cases h
 |some q=>rw[e]at h;exact⟨q,rfl,(Yr h).symm⟩
inductive Ff(C:J2)(vs:List V)(H:Hp)(Q:VK)(E:XK):Prop|mk (p b:J2) (d:PD) (_:vs=[.ref p]) (_:Nx C H p b d) (_:Q (.int (d.at'+ d.ns.length)) H)
theorem Pb{C:J2}(F:Mi P w K mg base C "end" 1 ["self"] [] (F6 C)):Mi P w K mg base C "end" 1 ["self"] [] (Ff C):=
 F.imp fun vs H Q E ⟨p,b,d,e,h,q⟩=>⟨p,_,_,_,d.at',b,_,_,_,e,h.ats,h.bd,by rw[Y4];exact q⟩
end
def Md:List (Int×Int)->Prop
 |[]=>True
 |p::r=>p.1 < p.2/\(∀q∈r,p.2 < q.1)/\Md r
def Nu(c:List (Int×Int))(x:Int):Prop:=∃p∈c,p.1 <=x/\x < p.2
theorem Mw(x:Int):¬Nu [] x:=by rintro⟨p,hp,_⟩;exact nomatch hp
theorem Jm{p:Int×Int}{r:List (Int×Int)}{x:Int}:Nu (p::r) x↔(p.1 <=x/\x < p.2)\/Nu r x:=by
 constructor
 .rintro⟨q,hq,h⟩;rcases Yp.mp hq with rfl|hq
  .exact .inl h
  .exact .inr ⟨q,hq,h⟩
 .rintro(h|⟨q,hq,h⟩)
  .exact⟨p,YA,h⟩
  .exact⟨q,Yj _ hq,h⟩
theorem El{c d:List (Int×Int)}{x:Int}:Nu (c++d) x↔Nu c x\/Nu d x:=by
 induction c with
 |nil=>simp[Mw]
 |cons p r ih=>rw[List.cons_append,Jm,Jm,ih,or_assoc]
theorem CI{p:Int×Int}{r:List (Int×Int)}(h:∀q∈r,p.2 < q.1){x:Int}(hx:Nu r x):p.2 < x:=by
 obtain⟨q,a,h1,h2⟩:=hx;have:=h q a
 lia
theorem Ol:∀{c d:List (Int×Int)},Md c->Md d->(∀x,Nu c x↔Nu d x)->c=d
 |[],[],_,_,_=>rfl
 |[],q::d,_,hd,h=>by
  exact absurd ((h q.1).mpr (Jm.mpr (.inl ⟨Xy _,hd.1⟩))) (Mw _)
 |p::c,[],hc,_,h=>by
  exact absurd ((h p.1).mp (Jm.mpr (.inl ⟨Xy _,hc.1⟩))) (Mw _)
 |p::c,q::d,hc,hd,h=>by
  obtain⟨hp,hpc,hc'⟩:=hc;obtain⟨j,g,i⟩:=hd;have key:∀x,(p.1 <=x/\x < p.2)\/Nu c x↔(q.1 <=x/\x < q.2)\/Nu d x:=fun x=>by rw[<-Jm,<-Jm];exact h x
  have f:∀{x},Nu c x->p.2 < x:=fun a=>CI hpc a
  have b:∀{x},Nu d x->q.2 < x:=fun a=>CI g a
  have n:p.1=q.1:=by
   have h1:=(key p.1).mp (.inl ⟨Xy _,hp⟩);have h2:=(key q.1).mpr (.inl ⟨Xy _,j⟩);rcases h1 with h1|h1
   .rcases h2 with h2|h2
    .lia
    .have:=f h2;lia
   .have:=b h1;rcases h2 with h2|h2
    .lia
    .have:=f h2;lia
  have l:p.2=q.2:=by
   have h1:¬p.2 < q.2:=fun z=>by
    rcases(key p.2).mpr (.inl ⟨by lia,z⟩) with h|h
    .lia
    .have:=f h;lia
   have h2:¬q.2 < p.2:=fun z=>by
    rcases(key q.2).mp (.inl ⟨by lia,z⟩) with h|h
    .lia
    .have:=b h;lia
   lia
  have e:p=q:=UI n l;subst e
  congr 1
  refine Ol hc' i fun x=>?_
  constructor
  .intro a;have:=f a;rcases(key x).mp (.inr a) with z|z
   .lia
   .exact z
  .intro a;have:=b a;rcases(key x).mpr (.inr a) with z|z
   .lia
   .exact z
theorem Am{c:List (Int×Int)}{p:Int×Int}(hc:Md c)(hp:p.1 < p.2)(h:∀q∈c,q.2 < p.1):Md (c++[p]):=by
 induction c with
 |nil=>exact⟨hp,fun _ h=>(nomatch h),trivial⟩
 |cons a r ih=>
  obtain⟨h1,h2,d⟩:=hc;refine⟨h1,fun q b=>?_,ih d fun q b=>h q (Yj _ b)⟩;rcases Ye.mp b with b|b
  .exact h2 q b
  .rw[Y9.mp b];exact h a YA
theorem QM{c d:List (Int×Int)}(hc:Md c)(hd:Md d)(h:∀p∈c,∀q∈d,p.2 < q.1):Md (c++d):=by
 induction c with
 |nil=>exact hd
 |cons a r ih=>
  obtain⟨h1,h2,f⟩:=hc;refine⟨h1,fun q b=>?_,ih f fun p e=>h p (Yj _ e)⟩;rcases Ye.mp b with b|b
  .exact h2 q b
  .exact h a YA q b
structure WS where
 ah:List (Int×Int)
 lo:Int
 hi:Int
 be:List (Int×Int)
def Tr(s:WS)(p:Int×Int):WS:=
 if p.2 < s.lo then {s with ah:=s.ah++[p]} else if p.1 > s.hi then {s with be:=s.be++[p]} else {s with lo:=min s.lo p.1,hi:=max s.hi p.2}
def RT(c:List (Int×Int))(lo hi:Int):WS:=c.foldl Tr ⟨[],lo,hi,[]⟩
def Nl(c:List (Int×Int))(lo hi:Int):List (Int×Int):=(RT c lo hi).ah++[((RT c lo hi).lo,(RT c lo hi).hi)]++(RT c lo hi).be
structure BB(lo hi:Int)(pre:List (Int×Int))(s:WS)(c:List (Int×Int)):Prop where
 cov:Md c
 ca:Md s.ah
 cb:Md s.be
 lh:s.lo < s.hi
 al:∀p∈s.ah,p.2 < s.lo
 bh:∀p∈s.be,s.hi < p.1
 ac:∀p∈s.ah,∀q∈c,p.2 < q.1
 bc:∀p∈s.be,∀q∈c,p.2 < q.1
 bc2:s.be≠[]->∀q∈c,s.hi < q.1
 gl:s.lo=lo\/∀q∈c,s.lo < q.1
 gh:s.hi=hi\/∀q∈c,s.hi < q.1
 le:s.lo <=lo/\hi <=s.hi
 mem:∀x,(Nu s.ah x\/(s.lo <=x/\x < s.hi)\/Nu s.be x)↔(Nu pre x\/(lo <=x/\x < hi))
theorem wJ{lo hi:Int}{pre:List (Int×Int)}{s:WS}{p:Int×Int}{r:List (Int×Int)}(h:BB lo hi pre s (p::r)):BB lo hi (pre++[p]) (Tr s p) r:=by
 obtain⟨⟨hp,d,n⟩,u,cb,l,w,bh,i,v,j,gl,o,le,mem⟩:=h;have f:∀x,Nu (pre++[p]) x↔Nu pre x\/(p.1 <=x/\x < p.2):=fun x=>by
  rw[El,Jm];simp[Mw]
 unfold Tr
 by_cases h1:p.2 < s.lo
 .rw[Y3 h1];have acp:=fun q b=>i q b p YA
  refine⟨n,Am u hp acp,cb,l,?_,bh,?_,fun a c q b=>v a c q (Yj _ b),fun z q b=>j z q (Yj _ b),?_,?_,le,fun x=>?_⟩
  .intro q b;rcases Ye.mp b with b|b
   .exact w q b
   .rw[Y9.mp b];exact h1
  .intro q b a c;rcases Ye.mp b with b|b
   .exact i q b a (Yj _ c)
   .rw[Y9.mp b];exact d a c
  .rcases gl with g|g
   .exact .inl g
   .exact .inr fun q b=>g q (Yj _ b)
  .rcases o with g|g
   .exact .inl g
   .exact .inr fun q b=>g q (Yj _ b)
  .rw[f];have m:=mem x;show(Nu (s.ah++[p]) x\/_)↔_;rw[El,Jm];simp only[Mw,Vp];constructor
   .rintro((z|z)|z)
    .rcases m.mp (.inl z) with y|y
     .exact .inl (.inl y)
     .exact .inr y
    .exact .inl (.inr z)
    .rcases m.mp (.inr z) with y|y
     .exact .inl (.inl y)
     .exact .inr y
   .rintro((z|z)|z)
    .rcases m.mpr (.inl z) with y|y
     .exact .inl (.inl y)
     .exact .inr y
    .exact .inl (.inr z)
    .rcases m.mpr (.inr z) with y|y
     .exact .inl (.inl y)
     .exact .inr y
 .rw[Y1 h1]
  by_cases h2:p.1 > s.hi
  .rw[Y3 h2];refine⟨n,u,Am cb hp fun q b=>v q b p YA,l,w,?_,fun q b a c=>i q b a (Yj _ c),?_,?_,?_,?_,le,fun x=>?_⟩
   .intro q b;rcases Ye.mp b with b|b
    .exact bh q b
    .rw[Y9.mp b];exact h2
   .intro q b a c;rcases Ye.mp b with b|b
    .exact v q b a (Yj _ c)
    .rw[Y9.mp b];exact d a c
   .intro _ q b;have:=d q b;show s.hi < q.1
    lia
   .rcases gl with g|g
    .exact .inl g
    .exact .inr fun q b=>g q (Yj _ b)
   .rcases o with g|g
    .exact .inl g
    .exact .inr fun q b=>g q (Yj _ b)
   .rw[f];have m:=mem x;show(_\/_\/Nu (s.be++[p]) x)↔_;rw[El,Jm];simp only[Mw,Vp];constructor
    .rintro(z|z|z|z)
     .rcases m.mp (.inl z) with y|y
      .exact .inl (.inl y)
      .exact .inr y
     .rcases m.mp (.inr (.inl z)) with y|y
      .exact .inl (.inl y)
      .exact .inr y
     .rcases m.mp (.inr (.inr z)) with y|y
      .exact .inl (.inl y)
      .exact .inr y
     .exact .inl (.inr z)
    .rintro((z|z)|z)
     .rcases m.mpr (.inl z) with y|y|y
      .exact .inl y
      .exact .inr (.inl y)
      .exact .inr (.inr (.inl y))
     .exact .inr (.inr (.inr z))
     .rcases m.mpr (.inr z) with y|y|y
      .exact .inl y
      .exact .inr (.inl y)
      .exact .inr (.inr (.inl y))
  .rw[Y1 h2];have e:s.be=[]:=by
    cases hb:s.be with
    |nil=>rfl
    |cons a t=>
     have:=j (by rw[hb];simp) p YA;exact absurd this (by lia)
   refine⟨n,u,by rw[e];trivial,Int.lt_of_le_of_lt (VF ..) (V2 l (VG ..)),?_,by rw[e];exact fun _ h=>(nomatch h),fun q b a c=>i q b a (Yj _ c),by rw[e];exact fun _ h=>(nomatch h),fun z=>absurd e z,?_,?_,?_,fun x=>?_⟩
   .intro q b;have h3:=w q b;have h4:=i q b p YA;exact Int.lt_min.mpr ⟨h3,h4⟩
   .show min s.lo p.1=lo\/∀q∈r,min s.lo p.1 < q.1;exact .inr fun q b=>by have:=d q b;lia
   .show max s.hi p.2=hi\/∀q∈r,max s.hi p.2 < q.1;rcases o with g|g
    .by_cases h5:p.2 <=s.hi
     .exact .inl (by lia)
     .exact .inr fun q b=>by have:=d q b;lia
    .exact .inr fun q b=>by have h6:=g q (Yj _ b);have:=d q b;lia
   .exact⟨VH (VF ..) le.1,VH le.2 (VG ..)⟩
   .rw[f];have m:=mem x;rw[e]at m ⊢;show(Nu s.ah x\/(min s.lo p.1 <=x/\x < max s.hi p.2)\/Nu [] x)↔_;simp only[Mw,Vp]at m ⊢;constructor
    .rintro(z|z)
     .rcases m.mp (.inl z) with y|y
      .exact .inl (.inl y)
      .exact .inr y
     .by_cases h7:s.lo <=x/\x < s.hi
      .rcases m.mp (.inr h7) with y|y
       .exact .inl (.inl y)
       .exact .inr y
      .exact .inl (.inr (by lia))
    .rintro((z|z)|z)
     .exact(m.mpr (.inl z)).imp id fun y=>⟨VH (VF ..) y.1,V2 y.2 (VG ..)⟩
     .exact .inr ⟨VH (Int.min_le_right ..) z.1,V2 z.2 (Int.le_max_right ..)⟩
     .exact(m.mpr (.inr z)).imp id fun y=>⟨VH (VF ..) y.1,V2 y.2 (VG ..)⟩
theorem Po{lo hi:Int}:∀{pre c:List (Int×Int)} {s:WS},BB lo hi pre s c->BB lo hi (pre++c) (c.foldl Tr s) []
 |pre,[],s,h=>by rw[List.append_nil];exact h
 |pre,p::r,s,h=>by
  have:=Po (wJ h);rw[List.append_assoc]at this;exact this
theorem Z7{c:List (Int×Int)}{lo hi:Int}(hc:Md c)(h:lo < hi):Md (Nl c lo hi)/\∀x,Nu (Nl c lo hi) x↔Nu c x\/(lo <=x/\x < hi):=by
 have j:BB lo hi [] ⟨[],lo,hi,[]⟩ c:=⟨hc,trivial,trivial,h,fun _ z=>(nomatch z),fun _ z=>(nomatch z),fun _ z=>(nomatch z),fun _ z=>(nomatch z),fun z=>absurd rfl z,.inl rfl,.inl rfl,⟨Xy _,Xy _⟩,fun x=>by simp[Mw]⟩;have h1:=Po j;rw[List.nil_append]at h1;obtain⟨_,f,e,d,b,g,_,_,_,_,_,_,mem⟩:=h1;unfold Nl RT;generalize List.foldl Tr ⟨[],lo,hi,[]⟩ c=s at f e d b g mem ⊢;refine⟨QM (Am f d b) e fun p a q i=>?_,fun x=>?_⟩
 .have:=g q i;rcases Ye.mp a with a|a
  .have:=b p a;lia
  .rw[Y9.mp a];exact this
 .rw[El,El,Jm,<-mem x,or_assoc];simp[Mw]
def total(c:List (Int×Int)):Int:=(c.map fun p=>p.2 - p.1).sum
def T5(e:Int)(re:Int):List (Int×Int)->List (Int×Int)
 |[]=>if re < e then [(re,e)] else []
 |p::r=>if e <=p.1 then(if re < e then [(re,e)] else []) else(if re < p.1 then [(re,p.1)] else [])++T5 e p.2 r
theorem KG{e:Int}:∀{c:List (Int×Int)} {re:Int},Md c->(∀p∈c,re <=p.1)->Md (T5 e re c)/\(∀q∈T5 e re c,re <=q.1)/\∀x,Nu (T5 e re c) x↔(re <=x/\x < e/\¬Nu c x):=by
 have last:∀ (c:List (Int×Int)) (re:Int),(∀x,x < e->¬Nu c x)->Md (if re < e then [(re,e)] else [])/\(∀q∈(if re < e then [(re,e)] else []),re <=q.1)/\∀x,Nu (if re < e then [(re,e)] else []) x↔(re <=x/\x < e/\¬Nu c x):=by
  intro c re i
  by_cases h:re < e
  .rw[Y3 h];refine⟨⟨h,fun _ z=>(nomatch z),trivial⟩,fun q a=>by rw[Y9.mp a];exact Xy _,fun x=>?_⟩;rw[Jm];simp only[Mw,Vp];exact⟨fun z=>⟨z.1,z.2,i x z.2⟩,fun z=>⟨z.1,z.2.1⟩⟩
  .rw[Y1 h];refine⟨trivial,fun _ z=>(nomatch z),fun x=>⟨fun z=>absurd z (Mw _),fun z=>by lia⟩⟩
 intro c
 induction c with
 |nil=>intro re _ _;exact last [] re fun x _=>Mw x
 |cons p r ih=>
  intro re i o;obtain⟨h1,h2,u⟩:=i;unfold T5
  by_cases he:e <=p.1
  .rw[Y3 he];refine last (p::r) re fun x n s=>?_
   rcases Jm.mp s with z|z
   .lia
   .have:=CI h2 z;lia
  .rw[Y1 he];obtain⟨l,g,j⟩:=ih u (re:=p.2) fun q a=>Int.le_of_lt (h2 q a)
   have v:=o p YA
   by_cases hr:re < p.1
   .rw[Y3 hr];refine⟨⟨hr,fun q a=>by have:=g q a;show p.1 < q.1;lia,l⟩,fun q a=>?_,fun x=>?_⟩
    .rcases Yp.mp a with rfl|a
     .exact Xy _
     .have:=g q a;lia
    .show Nu ((re,p.1)::T5 e p.2 r) x↔_;rw[Jm,j,Jm];constructor
     .rintro(z|⟨f,d,b⟩)
      .refine⟨z.1,by have:=z.2;lia,?_⟩;rintro(y|y)
       .have:=z.2;lia
       .have:=CI h2 y;have:=z.2;lia
      .exact⟨by lia,d,by rintro(y|y);lia;exact b y⟩
     .rintro⟨f,d,b⟩
      by_cases n:x < p.1
      .exact .inl ⟨f,n⟩
      .exact .inr ⟨by
        by_cases hx2:x < p.2
        .exact absurd (.inl ⟨by lia,hx2⟩) b
        .lia, d, fun y => b (.inr y)⟩
   .rw[Y1 hr];refine⟨l,fun q a=>by have:=g q a;lia,fun x=>?_⟩;rw[List.nil_append,j,Jm];constructor
    .rintro⟨f,d,b⟩;exact⟨by lia,d,by rintro(y|y);lia;exact b y⟩
    .rintro ⟨f, d, b⟩;exact ⟨by
      by_cases hx2:x < p.2
      .exact absurd (.inl ⟨by lia,hx2⟩) b
      .lia, d, fun y => b (.inr y)⟩
def Nw(re:Int):List (Int×Int)->Int
 |[]=>re
 |p::r=>Nw p.2 r
theorem CY:∀{c:List (Int×Int)} {re:Int},Md c->(∀x,Nu c x->x < Nw re c)/\(c≠[]->Nu c (Nw re c - 1))/\(∀p∈c,p.1 < Nw re c)
 |[],re,_=>⟨fun x z=>absurd z (Mw _),fun z=>absurd rfl z,fun _ z=>(nomatch z)⟩
 |p::r,re,hc=>by
  obtain⟨h1,h2,h3⟩:=hc;obtain⟨e,d,b⟩:=CY (re:=p.2) h3;have ge:p.2 <=Nw p.2 r:=by
   cases r with
   |nil=>exact Xy _
   |cons q t=>have:=b q YA;have:=h2 q YA;lia
  refine⟨fun x z=>?_,fun _=>?_,fun q a=>?_⟩
  .show x < Nw p.2 r;rcases Jm.mp z with y|y
   .lia
   .exact e x y
  .show Nu (p::r) (Nw p.2 r - 1);rw[Jm];cases r with
   |nil=>exact .inl ⟨by show p.1 <=p.2 - 1;lia,by show p.2 - 1 < p.2;lia⟩
   |cons q t=>exact .inr (d (by simp))
  .show q.1 < Nw p.2 r;rcases Yp.mp a with rfl|a
   .lia
   .exact b q a
def GQ(e:Option Int)(p:Int×Int):Bool:=match e with
 |none=>false
 |some x=>decide (x <=p.1)
def LQ(e:Option Int)(re:Int):List (Int×Option Int):=match e with
 |none=>[(re,none)]
 |some x=>if re < x then [(re,some x)] else []
def T9(e:Option Int)(re:Int):List (Int×Int)->List (Int×Option Int)
 |[]=>LQ e re
 |p::r=>if GQ e p=true then LQ e re else(if re < p.1 then [(re,some p.1)] else [])++T9 e p.2 r
def NO(c:List (Int×Int)):List (Int×Option Int):=c.map fun p=>(p.1,some p.2)
theorem E9(c d:List (Int×Int)):NO (c++d)=NO c++NO d:=Yw
theorem IT(e:Int):∀ (c:List (Int×Int)) (re:Int),T9 (some e) re c=NO (T5 e re c)
 |[],re=>by
  show(if re < e then [(re,some e)] else [])=NO (if re < e then [(re,e)] else [])
  split <;> rfl
 |p::r,re=>by
  unfold T9 T5;have es:GQ (some e) p=decide (e <=p.1):=rfl;rw[es]
  by_cases h:e <=p.1
  .rw[Y3 (by simpa using h),Y3 h];show(if re < e then [(re,some e)] else [])=_
   split <;> rfl
  .rw[Y1 (by simpa using h),Y1 h,IT e r p.2,E9]
   congr 1
   split <;> rfl
theorem HS:∀{c:List (Int×Int)} {re:Int},Md c->T9 none re c=NO (T5 (Nw re c) re c)++[(Nw re c,none)]
 |[],re,_=>by
  show [(re,none)]=NO (if re < re then [(re,re)] else [])++[(re,none)];rw[Y1 (by lia)];rfl
 |p::r,re,hc=>by
  have h3:=(CY (re:=re) hc).2.2 p YA;unfold T9 T5;rw[Y1 (show ¬GQ none p=true from Yi),HS (re:=p.2) hc.2.2];have a:Nw re (p::r)=Nw p.2 r:=rfl;rw[a]at h3 ⊢;rw[Y1 (show ¬Nw p.2 r <=p.1 by lia),E9,List.append_assoc]
  congr 1
  split <;> rfl
def oV:Option Int->V
 |none=>.non
 |some n=>.int n
def Q8(H:Hp)(x:V)(p:Int×Option Int):Prop:=∃t,x= .ref t/\H t=some (.tup [.int p.1,oV p.2])
def Nm(H:Hp)(xs:List V)(c:List (Int×Option Int)):Prop:=Paired (fun x p=>Q8 H x p) xs c
def JS(H:Hp)(l:J2)(c:List (Int×Option Int)):Prop:=∃xs,H l=some (.lst xs)/\Nm H xs c
def Tj(H G:Hp):Prop:=∀t xs,H t=some (.tup xs)->G t=some (.tup xs)
section
variable{H G J:Hp}{l l':J2}{xs ys:List V}{c d:List (Int×Option Int)}
theorem Gf(s:J9 H G):Tj H G:=fun t xs e=>s t _ e
theorem E6(b:Nd l H G)(h:H l=some (.lst xs)):Tj H G:=fun t ys e=>b t _ e (N6 e h nofun)
theorem Rr{kvs:List (Jv×V)}(b:Nd l H G)(h:H l=some (.dK kvs)):Tj H G:=fun t ys e=>b t _ e (N6 e h nofun)
theorem Tj.trans(a:Tj H G)(b:Tj G J):Tj H J:=fun t xs e=>b t xs (a t xs e)
theorem Nm.tk(k:Tj H G)(h:Nm H xs c):Nm G xs c:=by
 induction h with
 |nil=>exact .nil
 |cons r _ ih=>obtain⟨t,e,z⟩:=r;exact .cons ⟨t,e,k _ _ z⟩ ih
theorem Nm.len(h:Nm H xs c):xs.length=c.length:=Paired.length h
theorem Nm.app(h:Nm H xs c)(k:Nm H ys d):Nm H (xs++ys) (c++d):=by
 induction h with
 |nil=>exact k
 |cons r _ ih=>exact .cons r ih
theorem Nm.get(h:Nm H xs c){i:Nat}{x:V}(e:xs[i]?=some x):∃p,c[i]?=some p/\Q8 H x p:=by
 induction h generalizing i with
 |nil=>simp at e
 |cons r _ ih=>
  cases i with
  |zero=>simp at e;subst e;exact⟨_,rfl,r⟩
  |succ i=>simp at e;simpa using ih e
theorem JS.same(s:J9 H G)(h:JS H l c):JS G l c:=by
 obtain⟨xs,e,k⟩:=h;exact⟨xs,s _ _ e,k.tk (Gf s)⟩
theorem RW(c:List (Int×Int)):(NO c).length=c.length:=Y4 ..
theorem P1{c:List (Int×Int)}{i:Nat}{p:Int×Option Int}(e:(NO c)[i]?=some p):∃q,c[i]?=some q/\p=(q.1,some q.2):=by
 unfold NO at e;rw[Yf]at e;cases h:c[i]? with
 |none=>rw[h]at e;cases e
 |some q=>rw[h]at e;exact⟨q,rfl,(by simpa using e.symm)⟩
end
section
variable{P:WV}{w:WZ}{K:J0}{mg:WQ}{base:J6}
inductive P2(vs:List V)(H:Hp)(Q:VK)(E:XK):Prop|mk (l t:J2) (c:List (Int×Int)) (lo hi:Int) (_:vs=[.ref l,.ref t]) (_:JS H l (NO c)) (_:c.length <=1000) (_:H t=some (.tup [.int lo,.int hi])) (_:∀l' G,H l'=none->J9 H G->JS G l' (NO (Nl c lo hi))->Q (.ref l') G)
abbrev Fk:Stmt:=top 26
theorem RD:Ng ["cover","span","low","high","ahead","behind","one"] ["cover","span"] (J8 Fk):=by walk_at"e"
theorem Zy{f:J2}{fd:WX}(F:Nk K "with_span" "with_span" Fk f fd)(B:Bt mg):Ji P w K mg base JN 1 f fd ["cover","span"] P2:=by
 refine F.ok RD (fun vs H Q E h=>?_) (fun cdv A outer s H vs Q E hr h=>?_)
 .obtain⟨l,t,c,lo,hi,rfl,_⟩:=h;rfl
 .obtain⟨l,t,c,lo,hi,rfl,⟨xs,hl,hc⟩,hz,ht,q⟩:=h;have hlen:xs.length=c.length:=by rw[hc.len,RW]
  refine⟨_,(Jn (NH 2 RD (MI K (Ja 1) Jp)) (Jn (NH 3 RD (MI K (Ja 1) Jp)) (Jn (NH 4 RD (Mt Jc)) (Jn (NH 5 RD (Mt Jc)) (Jn (DZ YW rfl (MG (K:=K) rfl (Ja 0)) (Tv 6 RD) (Jl (Np (NC (Nj RE) (MI K (Ja 6) Jp) (Ja 2)) (Jl (MW (DG (K:=K) rfl YF YL YM (Gz Gw) (Ja 4) (Jj 6 Jc)))) (Jl (Np (NC (Nj Ev) (MI K (Ja 6) Jp) (Ja 3)) (Jl (MW (DG (K:=K) rfl YF YL YM (Gz Gw) (Ja 5) (Jj 6 Jc)))) (Jn (NH 2 RD (Nz (OI rfl) B.min (Jj 2 (Gj (MI K (Ja 6) Jp) Jc)))) (Jl (NH 3 RD (Nz (H9 rfl) B.max (Jj 3 (Gj (MI K (Ja 6) Jp) Jc))))))))))) (Jl (JR (JM (Kg CM) (JM (Kg CM) (Ja 4) (Mt (JG (hs:=Dn) (TY (Jj 2 (Jj 3 Jc))) Jc))) (Ja 5))))))))),?_⟩;walk_at"rd";refine⟨_,JV.of ht,_,rfl,_,JV.of ht,_,rfl,JT (by simp),fun la G1 hla s1 h1=>⟨JT (by simp),fun lb G2 hlb s2 h2=>⟨⟨_,Je.of (s2 l _ (s1 l _ hl))⟩,?_⟩⟩⟩;have nab:la≠lb:=Tg h1 hlb;have s02:=s1.trans s2;obtain⟨Pv,n⟩:∃Pv:Nat->L2.St->Hp->Prop,Pv=fun i σ' G=>∃ (st:WS) (v:Option V) (z u:List V),st=(c.take i).foldl Tr ⟨[],lo,hi,[]⟩/\σ'=[some (.ref l),some (.ref t),some (.int st.lo),some (.int st.hi),some (.ref la),some (.ref lb),v]/\J9 H G/\
   G la=some (.lst z)/\Nm G z (NO st.ah)/\G lb=some (.lst u)/\Nm G u (NO st.be)/\st.ah.length <=i/\st.be.length <=i:=⟨_,rfl⟩
  have hlb0:H lb=none:=s1.free hlb;refine RI (xs:=xs) Pv (by rw[n];exact⟨_,none,[],[],rfl,rfl,s02,s2 la _ h1,.nil,h2,.nil,Y7 _,Y7 _⟩) ?_ ?_ ?_ <;> rw[n]
  .rintro i σ' G _ ⟨st,v,z,u,_,_,o,_⟩;exact Je.of (o l _ hl)
  .rintro i x σ' G hx ⟨st,v,z,u,est,rfl,o,ha,g,hb,d,la1,lb1⟩;rw[<-n];have hi':i < xs.length:=(Y6.mp hx).1;obtain⟨p',hp',t1,rfl,ht1⟩:=hc.get hx;obtain⟨p,hp,rfl⟩:=P1 hp';have b:=o t1 _ ht1;have etake:c.take (i+ 1)=c.take i++[p]:=by rw[YZ,hp];rfl
   have r:(c.take (i+ 1)).foldl Tr ⟨[],lo,hi,[]⟩=Tr st p:=by rw[etake,List.foldl_append,<-est];rfl
   walk_at"rd";refine⟨_,JV.of b,_,rfl,_,rfl,Ti (fun h1=>?_) (fun h1=>?_)⟩
   .have a:p.2 < st.lo:=by simpa using h1
    refine⟨.inl ⟨rfl,_,Je.of ha⟩,_,ha,Dq (by have:=g.len;rw[RW]at this;lia),fun G3 b3 h3=>?_⟩;have tk:=E6 b3 ha;rw[n];refine⟨Tr st p,some (.ref t1),z++[.ref t1],u,r.symm,?_,o.butNew b3 hla,h3,?_,b3 lb _ hb (Ne.symm nab),?_,?_,?_⟩
    .unfold Tr;rw[Y3 a]
    .have e:(Tr st p).ah=st.ah++[p]:=by unfold Tr;rw[Y3 a]
     rw[e,E9];exact(g.tk tk).app (.cons ⟨t1,rfl,tk _ _ b⟩ .nil)
    .have e:(Tr st p).be=st.be:=by unfold Tr;rw[Y3 a]
     rw[e];exact d.tk tk
    .have e:(Tr st p).ah=st.ah++[p]:=by unfold Tr;rw[Y3 a]
     rw[e];simp;lia
    .have e:(Tr st p).be=st.be:=by unfold Tr;rw[Y3 a]
     rw[e];lia
   .have a:¬p.2 < st.lo:=by simpa using h1
    refine⟨_,JV.of b,_,rfl,_,rfl,Ti (fun h2=>?_) (fun h2=>?_)⟩
    .have h2':p.1 > st.hi:=by simpa using h2
     refine⟨.inl ⟨rfl,_,Je.of hb⟩,_,hb,Dq (by have:=d.len;rw[RW]at this;lia),fun G3 b3 h3=>?_⟩;have tk:=E6 b3 hb;have j:Tr st p={st with be:=st.be++[p]}:=by unfold Tr;rw[Y1 a,Y3 h2']
     rw[n];refine⟨Tr st p,some (.ref t1),z,u++[.ref t1],r.symm,by rw[j],o.butNew b3 hlb0,b3 la _ ha nab,by rw[j];exact g.tk tk,h3,?_,by rw[j];show st.ah.length <=i+ 1;lia,by rw[j];show(st.be++[p]).length <=i+ 1;simp;lia⟩;rw[j];show Nm G3 _ (NO (st.be++[p]));rw[E9];exact(d.tk tk).app (.cons ⟨t1,rfl,tk _ _ b⟩ .nil)
    .have h2':¬p.1 > st.hi:=by simpa using h2
     have j:Tr st p={st with lo:=min st.lo p.1,hi:=max st.hi p.2}:=by unfold Tr;rw[Y1 a,Y1 h2']
     refine⟨_,JV.of b,_,rfl,_,rfl,_,JV.of b,_,rfl,_,rfl,?_⟩;rw[n];refine⟨Tr st p,some (.ref t1),z,u,r.symm,?_,o,ha,by rw[j];exact g,hb,by rw[j];exact d,by rw[j];show st.ah.length <=i+ 1;lia,by rw[j];show st.be.length <=i+ 1;lia⟩;rw[j];have e1:(if p.1 < st.lo then p.1 else st.lo)=min st.lo p.1:=by split <;> lia
     have e2:(if p.2 > st.hi then p.2 else st.hi)=max st.hi p.2:=by split <;> lia
     rw[e1,e2]
  .rintro σ' G ⟨st,v,z,u,est,rfl,o,ha,g,hb,d,la1,lb1⟩;walk_at"rd";have a:=g.len;have h2':=d.len;rw[RW]at a h2';refine⟨JT (by simp),fun t2 G3 ht2 s3 h3=>⟨JT (by simp),fun l3 G4 hl3 s4 h4=>⟨_,s4 la _ (s3 la _ ha),_,h4,JT (by simp;lia),fun l5 G5 hl5 s5 h5=>⟨_,h5,_,s5 lb _ (s4 lb _ (s3 lb _ hb)),JT (by simp;lia),fun l6 G6 hl6 s6 h6=>?_⟩⟩⟩⟩;have s36:=(s4.trans s5).trans s6;have sG6:=s3.trans s36;refine q l6 G6 ?_ (o.trans sG6) ⟨_,h6,?_⟩
   .exact o.free (s3.free (s4.free (s5.free hl6)))
   .have e:Nl c lo hi=st.ah++[(st.lo,st.hi)]++st.be:=by
     unfold Nl RT;rw[est,show c.take xs.length=c by rw[hlen,Xp]]
    rw[e,E9,E9];exact((g.tk (Gf sG6)).app (.cons ⟨t2,rfl,s36 t2 _ h3⟩ .nil)).app (d.tk (Gf sG6))
inductive KR(vs:List V)(H:Hp)(Q:VK)(E:XK):Prop|mk (l:J2) (c:List (Int×Int)) (e:Option Int) (_:vs=[.ref l,oV e]) (_:JS H l (NO c)) (_:c.length <=1000) (_:∀l' G,H l'=none->J9 H G->JS G l' (T9 e 0 c)->Q (.ref l') G)
theorem yM{e:Option Int}{re:Int}{p:Int×Int}{r:List (Int×Int)}(h:GQ e p=true):T9 e re (p::r)=T9 e re []:=by
 show(if GQ e p=true then _ else _)=_;rw[Y3 h];rfl
theorem xR{e:Option Int}{re:Int}{p:Int×Int}{r:List (Int×Int)}(h:GQ e p=false):T9 e re (p::r)=(if re < p.1 then [(re,some p.1)] else [])++T9 e p.2 r:=by
 show(if GQ e p=true then _ else _)=_;rw[Y1 (by rw[h];exact Yi)]
abbrev Kh:Stmt:=top 27
theorem EJ:Ng ["cover","end","told","reached","low","high"] ["cover","end"] (J8 Kh):=by walk_at"e"
theorem SF{f:J2}{fd:WX}(F:Nk K "lacking" "lacking" Kh f fd):Ji P w K mg base JN 1 f fd ["cover","end"] KR:=by
 refine F.ok EJ (fun vs H Q E h=>?_) (fun cdv A outer s H vs Q E hr h=>?_)
 .obtain⟨l,c,e,rfl,_⟩:=h;rfl
 .obtain⟨l,c,e,rfl,⟨xs,hl,hc⟩,hz,q⟩:=h;have hlen:xs.length=c.length:=by rw[hc.len,RW]
  refine⟨_,(Jn (NH 2 EJ (Mt Jc)) (Jn (NH 3 EJ Jp) (Jn (DZ YW rfl (MG (K:=K) rfl (Ja 0)) (Rl (K:=K) (n:=2) rfl rfl (TL (Tv 4 EJ) (TL (Tv 5 EJ) Rt))) (Jn (Np (PW.pt (Gy (NC Eu (Ja 1) My) (R5 (NC (Nj Ia) (Ja 4) (Ja 1))))) (Jl tD) NG) (Jn (DQ (Np (NC (Nj Ev) (Ja 4) (Ja 3)) (Jl (MW (DG (K:=K) rfl YF YL YM (Gz Gw) (Ja 2) (JG (hs:=Dn) (TY (Jj 3 (Jj 4 Jc))) Jc)))) NG)) (Jl (NH 3 EJ (Ja 5)))))) (Jn (DQ (Np (NC Ar (Ja 1) My) (Jl (MW (DG (K:=K) rfl YF YL YM (Gz Gw) (Ja 2) (JG (hs:=Dn) (TY (Jj 3 (TX My Jc))) Jc)))) (Jl (Np (NC (Nj RE) (Ja 3) (Ja 1)) (Jl (MW (DG (K:=K) rfl YF YL YM (Gz Gw) (Ja 2) (JG (hs:=Dn) (TY (Jj 3 (Jj 1 Jc))) Jc)))) NG)))) (Jl (JR (Ja 2))))))),?_⟩;refine Nt fun N v=>?_
  walk_at"rd";refine⟨JT (by simp),fun lt G1 hlt s1 h1=>v _ _ ?_⟩;clear v N;refine Nt fun N v=>?_
  walk_at"rd";refine v _ _ ?_;clear v N;refine Nt fun N v=>?_
  have tail:∀ (t:List (Int×Option Int)) (a:Int) (G:Hp) (o:List V) (v4 v5:Option V),J9 H G->G lt=some (.lst o)->Nm G o t->t.length <=1001->T9 e 0 c=t++T9 e a []->
    N [some (.ref l),some (oV e),some (.ref lt),some (.int a),v4,v5] G:=by
   intro t a G o v4 v5 r u ht hl2 b;refine v _ _ ?_;have hxl:=ht.len;refine Nt fun N v=>?_
   obtain⟨R,eR⟩:∃R:L2.St->Hp->Prop,R=fun σ' z=>∃g:List V,σ'=[some (.ref l),some (oV e),some (.ref lt),some (.int a),v4,v5]/\J9 H z/\z lt=some (.lst g)/\Nm z g (T9 e 0 c):=⟨_,rfl⟩
   refine⟨R,?_,fun σ' z hR=>v _ _ ?_⟩
   rotate_left
   .rw[eR]at hR;obtain⟨g,rfl,sG',hx',ht'⟩:=hR;walk_at"rd";exact q lt z hlt sG' ⟨g,hx',ht'⟩
   clear v;cases e with
   |none=>
    have d:T9 none 0 c=t++[(a,none)]:=b;walk_at"rd";simp only[oV,Xb,if_true];refine⟨.inl ⟨rfl,_,Je.of u⟩,JT (by simp),fun t2 G2 ht2 j h2=>⟨_,j lt _ u,Dq (by lia),fun G3 b3 h3=>?_⟩⟩;have tk:=E6 b3 (j lt _ u);rw[eR];refine⟨_,rfl,(r.trans j).butNew b3 hlt,h3,?_⟩;rw[d];exact((ht.tk (Gf j)).tk tk).app (.cons ⟨t2,rfl,tk _ _ h2⟩ .nil)
   |some x=>
    have d:T9 (some x) 0 c=t++(if a < x then [(a,some x)] else []):=b;walk_at"rd";simp only[oV,reduceCtorEq,X9,Bool.false_eq_true,if_false];refine⟨_,rfl,Ti (fun h=>?_) (fun h=>?_)⟩
    .have h':a < x:=by simpa using h
     rw[Y3 h']at d;refine⟨.inl ⟨rfl,_,Je.of u⟩,JT (by simp),fun t2 G2 ht2 j h2=>⟨_,j lt _ u,Dq (by lia),fun G3 b3 h3=>?_⟩⟩;have tk:=E6 b3 (j lt _ u);rw[eR];refine⟨_,rfl,(r.trans j).butNew b3 hlt,h3,?_⟩;rw[d];exact((ht.tk (Gf j)).tk tk).app (.cons ⟨t2,rfl,tk _ _ h2⟩ .nil)
    .have h':¬a < x:=by simpa using h
     rw[Y1 h',List.append_nil]at d;rw[eR];exact⟨o,rfl,r,u,by rw[d];exact ht⟩
  walk_at"rd";refine⟨⟨_,Je.of (s1 l _ hl)⟩,?_⟩;obtain⟨Pv,ePv⟩:∃Pv:Nat->L2.St->Hp->Prop,Pv=fun i σ' G=>∃ (t:List (Int×Option Int)) (a:Int) (o:List V) (v4 v5:Option V),σ'=[some (.ref l),some (oV e),some (.ref lt),some (.int a),v4,v5]/\J9 H G/\G lt=some (.lst o)/\Nm G o t/\t.length <=i/\
   T9 e 0 c=t++T9 e a (c.drop i):=⟨_,rfl⟩
  refine RI (xs:=xs) Pv (by rw[ePv];exact⟨[],0,[],none,none,rfl,s1,h1,.nil,Y7 _,by simp⟩) ?_ ?_ ?_ <;> rw[ePv]
  .rintro i σ' G _ ⟨t,a,o,v4,v5,_,r,_⟩;exact Je.of (r l _ hl)
  .rintro i x σ' G u ⟨t,a,o,v4,v5,rfl,r,ha,aa,hti,b⟩;rw[<-ePv];have hi':i < xs.length:=(Y6.mp u).1;obtain⟨p',hp',t1,rfl,ht1⟩:=hc.get u;obtain⟨p,hp,rfl⟩:=P1 hp';have ht1':=r t1 _ ht1;have edrop:c.drop i=p::c.drop (i+ 1):=by
    rw[Yz (by lia)]
    congr 1
    have:=Y5 (l:=c) (i:=i) (by lia);rw[this]at hp;exact Yr hp
   rw[edrop]at b;refine⟨t1,_,rfl,JV.of ht1',rfl,_,_,rfl,_,_,rfl,rfl,?_⟩;refine Nt fun N2 hN2=>?_
   have brk:GQ e p=true->N [some (.ref l),some (oV e),some (.ref lt),some (.int a),some (.int p.1),some (.int p.2)] G:=fun hs=>by
    rw[yM hs]at b;exact tail t a G o _ _ r ha aa (by lia) b
   have goOn:GQ e p=false->N2 [some (.ref l),some (oV e),some (.ref lt),some (.int a),some (.int p.1),some (.int p.2)] G:=fun hs=>by
    rw[xR hs]at b;have hxl:=aa.len;refine hN2 _ _ ?_;refine Nt fun N3 hN3=>?_
    obtain⟨R,eR⟩:∃R:L2.St->Hp->Prop,R=fun σ' z=>∃ (t':List (Int×Option Int)) (g:List V),σ'=[some (.ref l),some (oV e),some (.ref lt),some (.int a),some (.int p.1),some (.int p.2)]/\J9 H z/\z lt=some (.lst g)/\Nm z g t'/\t'.length <=i+ 1/\T9 e 0 c=t'++T9 e p.2 (c.drop (i+ 1)):=⟨_,rfl⟩
    refine⟨R,?_,fun σ' z hR=>hN3 _ _ ?_⟩
    rotate_left
    .rw[eR]at hR;obtain⟨t',g,rfl,sG',hx',ht',hl',d⟩:=hR;walk_at"rd";rw[ePv];exact⟨t',p.2,g,_,_,rfl,sG',hx',ht',hl',d⟩
    walk_at"rd";refine Ti (fun h=>?_) (fun h=>?_)
    .have h':a < p.1:=by simpa using h
     rw[Y3 h']at b;refine⟨.inl ⟨rfl,_,Je.of ha⟩,JT (by decide),fun t2 G2 ht2 j h2=>⟨_,j lt _ ha,Dq (by lia),fun G3 b3 h3=>?_⟩⟩;have tk:=E6 b3 (j lt _ ha);rw[eR];refine⟨t++[(a,some p.1)],_,rfl,(r.trans j).butNew b3 hlt,h3,?_,by simp;lia,by rw[b,List.append_assoc]⟩;exact((aa.tk (Gf j)).tk tk).app (.cons ⟨t2,rfl,tk _ _ h2⟩ .nil)
    .have h':¬a < p.1:=by simpa using h
     rw[Y1 h',List.nil_append]at b;rw[eR];exact⟨t,o,rfl,r,ha,aa,by lia,b⟩
   walk_at"rd";cases e with
   |none=>
    simp only[oV,Xb,Bool.not_true,Bool.false_eq_true,if_false];exact goOn rfl
   |some x=>
    simp only[oV,reduceCtorEq,X9,Bool.not_false,if_true];refine⟨_,rfl,Ti (fun h=>?_) (fun h=>?_)⟩
    .exact brk h
    .exact goOn (by simpa[GQ] using h)
  .rintro σ' G ⟨t,a,o,v4,v5,rfl,r,ha,aa,hti,b⟩;exact tail t a G o v4 v5 r ha aa (by lia) (by rw[b,Vl (by lia)])
end
structure RS where
 st:List (Int×Int)
 cv:List (Int×Int)
 en:Option Int
 re:Int
def MA(st:List (Int×Int)):List (Jv×V):=st.map fun p=>(Sum.inl p.1,V.int p.2)
def JL(st:List (Int×Int))(n:Int):Option Int:=(st.find? fun p=>decide (p.1=n)).map (·.2)
def GM(st:List (Int×Int))(n b:Int):List (Int×Int):=if(st.any fun p=>decide (p.1=n))=true then st.map (fun p=>if p.1=n then(p.1,b) else p) else st++[(n,b)]
theorem Rc(st:List (Int×Int))(n:Int):JD (MA st) (Sum.inl n)=(JL st n).map V.int:=by
 unfold JD MA JL
 induction st with
 |nil=>rfl
 |cons p r ih=>
  by_cases h:p.1=n
  .simp[XJ,h]
  .have h':¬(Sum.inl p.1:Jv)=Sum.inl n:=fun z=>h (Vf z)
   simp only[List.map_cons,XJ,Ys h,Ys h'];exact ih
theorem Bi(st:List (Int×Int))(n b:Int):M8 (MA st) (Sum.inl n) (V.int b)=MA (GM st n b):=by
 have e:((MA st).any fun a=>decide (a.1=(Sum.inl n:Jv)))=(st.any fun p=>decide (p.1=n)):=by
  unfold MA;rw[List.any_map]
  congr 1
  funext p
  show decide ((Sum.inl p.1:Jv)=Sum.inl n)=decide (p.1=n);rw[YU,Yg,Yg];exact⟨Vf,Xn _⟩
 unfold M8 GM;rw[e]
 by_cases h:(st.any fun p=>decide (p.1=n))=true
 .rw[Y3 h,Y3 h];unfold MA;rw[XM,XM];apply WL;intro p _;show(if(Sum.inl p.1:Jv)=Sum.inl n then((Sum.inl p.1:Jv),V.int b) else((Sum.inl p.1:Jv),V.int p.2))=((Sum.inl (if p.1=n then(p.1,b) else p).1:Jv),V.int (if p.1=n then(p.1,b) else p).2)
  by_cases hp:p.1=n
  .rw[Y3 hp,Y3 (Xn _ hp)]
  .rw[Y1 hp,Y1 (fun z=>hp (Vf z))]
 .rw[Y1 h,Y1 h];unfold MA;rw[Yw];rfl
theorem yQ(st:List (Int×Int))(n b m:Int):JL (GM st n b) m=if m=n then some b else JL st m:=by
 have h:=Xn (fun k=>JD k (Sum.inl m)) (Bi st n b);rw[Zs,Rc,Rc]at h
 by_cases hm:m=n
 .rw[Y3 hm];rw[Y3 (Xn _ hm)]at h;cases e:JL (GM st n b) m with
  |none=>rw[e]at h;cases h
  |some x=>rw[e]at h;have:=Yr h;rw[V.int.injEq]at this;rw[<-this]
 .rw[Y1 hm];rw[Y1 (fun z=>hm (Vf z))]at h;cases e:JL (GM st n b) m with
  |none=>
   rw[e]at h;cases e2:JL st m with
   |none=>rfl
   |some y=>rw[e2]at h;cases h
  |some x=>
   rw[e]at h;cases e2:JL st m with
   |none=>rw[e2]at h;cases h
   |some y=>rw[e2]at h;have:=Yr h;rw[V.int.injEq]at this;rw[this]
theorem ZK(st:List (Int×Int))(n b:Int):(GM st n b).length <=st.length+ 1:=by
 unfold GM;split
 .rw[Y4];lia
 .rw[List.length_append];exact Y7 _
def Mq(la:Bool):List (Int×Int)->Int->List Int->List (Int×Int)
 |st,_,[]=>st
 |st,n,b::bs=>Mq la (if la=true\/(JL st n).isSome=false then GM st n b else st) (n+ 1) bs
def strange(rs:RS)(d:PD):Bool:=
 if d.mo=true then(match rs.en with|some e=>decide (e <=d.at'+ d.ns.length)|none=>false)
 else(match rs.en with|some e=> !decide (d.at'+ d.ns.length=e)|none=>decide (d.at'+ d.ns.length <=rs.re))
def Na(st:List (Int×Int)):Int->List Int->Option Int
 |_,[]=>none
 |n,b::bs=>match JL st n with|some x=>if x=b then Na st (n+ 1) bs else some n|none=>Na st (n+ 1) bs
def JF(la:Bool)(rs:RS)(d:PD):RS:=
 ⟨Mq la rs.st d.at' d.ns,Nl rs.cv d.at' (d.at'+ d.ns.length),if d.mo=true then rs.en else some (d.at'+ d.ns.length),if d.mo=true then max rs.re (d.at'+ d.ns.length) else rs.re⟩
theorem Es(la:Bool):∀ (bs:J3) (st:List (Int×Int)) (n:Int),(Mq la st n bs).length <=st.length+ bs.length
 |[],st,n=>Y7 _
 |b::bs,st,n=>by
  have h:=Es la bs (if la=true\/(JL st n).isSome=false then GM st n b else st) (n+ 1);have h2:=ZK st n b;show(Mq la _ _ bs).length <=st.length+ (bs.length+ 1)
  split at h <;> rename_i hc
  .rw[Y3 hc];lia
  .rw[Y1 hc];lia
section
variable{P:WV}{w:WZ}{K:J0}{mg:WQ}{base:J6}
structure DC(K:J0)(C:J2):Prop where
 cl:MQ K C
 rule:JC K C "rule"
 standing:JC K C "standing"
 cover:JC K C "cover"
 ending:JC K C "ending"
 reach:JC K C "reach"
structure NL(C:J2)(H:Hp)(p a l:J2)(ru:Str)(rs:RS):Prop where
 ex:∃dx fs,H p=some (.ins C dx fs)/\fs.length <=5/\fs.lookup ("rule":Str)=some (.str ru)/\fs.lookup ("standing":Str)=some (.ref a)/\fs.lookup ("cover":Str)=some (.ref l)/\fs.lookup ("ending":Str)=some (oV rs.en)/\fs.lookup ("reach":Str)=some (.int rs.re)/\
  fs.lookup ("is_strange":Str)=none/\fs.lookup ("unlike_number":Str)=none/\fs.lookup ("take":Str)=none/\fs.lookup ("missing":Str)=none/\fs.lookup ("taken_body":Str)=none/\fs.lookup ("answer_to":Str)=none/\fs.lookup ("size":Str)=none/\fs.lookup ("number":Str)=none
 dk:H a=some (.dK (MA rs.st))
 cv:JS H l (NO rs.cv)
theorem NL.mono{C:J2}{H G:Hp}{p a l:J2}{ru:Str}{rs:RS}(s:J9 H G)(h:NL C H p a l ru rs):NL C G p a l ru rs:=by
 obtain⟨⟨dx,fs,b,r⟩,c,d⟩:=h;exact⟨⟨dx,fs,s _ _ b,r⟩,s _ _ c,d.same s⟩
variable{C p a l:J2}{H:Hp}{ru:Str}{rs:RS}
theorem NL.ne{CP q b:J2}{d:PD}(h:NL C H p a l ru rs)(k:Nx CP H q b d):q≠p/\b≠p/\q≠a/\b≠a:=by
 obtain⟨dx,fs,e,_,_,_,_,_,_,_,_,_,_,_,_,_,i⟩:=h.ex;obtain⟨j,fs',c,g,_⟩:=k.ats;have f:=k.bd;have hd:=h.dk;refine⟨fun z=>?_,N6 f e nofun,N6 c hd nofun,N6 f hd nofun⟩;rw[z,e]at c;cases c;rw[i]at g;cases g
theorem Ht(la:Bool):∀ (bs:J3) (st:List (Int×Int)) (n b:Int),Mq la st n (bs++[b])=(if la=true\/(JL (Mq la st n bs) (n+ bs.length)).isSome=false then GM (Mq la st n bs) (n+ bs.length) b else Mq la st n bs)
 |[],st,n,b=>by
  show Mq la (if la=true\/(JL st n).isSome=false then GM st n b else st) (n+ 1) []=_;simp[Mq]
 |x::bs,st,n,b=>by
  show Mq la _ (n+ 1) (bs++[b])=_;rw[Ht la bs];have e:n+ 1+ (bs.length:Int)=n+ ((x::bs).length:Int):=by rw[List.length_cons];lia
  rw[e];rfl
theorem IQ(L:DC K C)(h:NL C H p a l ru rs):TQ K H (.ref p) "rule" (.str ru):=by
 obtain⟨dx,fs,b,_,c,g,f,e,d,_⟩:=h.ex;exact⟨p,C,dx,fs,rfl,b,L.cl,L.rule,c⟩
theorem ET(L:DC K C)(h:NL C H p a l ru rs):TQ K H (.ref p) "standing" (.ref a):=by
 obtain⟨dx,fs,b,_,g,c,f,e,d,_⟩:=h.ex;exact⟨p,C,dx,fs,rfl,b,L.cl,L.standing,c⟩
theorem OB(L:DC K C)(h:NL C H p a l ru rs):TQ K H (.ref p) "cover" (.ref l):=by
 obtain⟨dx,fs,b,_,g,f,c,e,d,_⟩:=h.ex;exact⟨p,C,dx,fs,rfl,b,L.cl,L.cover,c⟩
theorem EV(L:DC K C)(h:NL C H p a l ru rs):TQ K H (.ref p) "ending" (oV rs.en):=by
 obtain⟨dx,fs,b,_,g,f,e,c,d,_⟩:=h.ex;exact⟨p,C,dx,fs,rfl,b,L.cl,L.ending,c⟩
theorem KS(L:DC K C)(h:NL C H p a l ru rs):TQ K H (.ref p) "reach" (.int rs.re):=by
 obtain⟨dx,fs,b,_,g,f,e,d,c,_⟩:=h.ex;exact⟨p,C,dx,fs,rfl,b,L.cl,L.reach,c⟩
theorem jZ(h:NL C H p a l ru rs):Rk C "is_strange" H (.ref p):=by
 obtain⟨dx,fs,b,_,_,_,_,_,_,f,_⟩:=h.ex;exact⟨p,dx,fs,rfl,b,f⟩
theorem Sd(h:NL C H p a l ru rs):Rk C "unlike_number" H (.ref p):=by
 obtain⟨dx,fs,b,_,_,_,_,_,_,_,f,_⟩:=h.ex;exact⟨p,dx,fs,rfl,b,f⟩
theorem SZ(h:NL C H p a l ru rs):Rk C "take" H (.ref p):=by
 obtain⟨dx,fs,b,_,_,_,_,_,_,_,_,f,_⟩:=h.ex;exact⟨p,dx,fs,rfl,b,f⟩
theorem Oo(h:NL C H p a l ru rs):Rk C "missing" H (.ref p):=by
 obtain⟨dx,fs,b,_,_,_,_,_,_,_,_,_,f,_⟩:=h.ex;exact⟨p,dx,fs,rfl,b,f⟩
theorem jJ(h:NL C H p a l ru rs):Rk C "taken_body" H (.ref p):=by
 obtain⟨dx,fs,b,_,_,_,_,_,_,_,_,_,_,f,_⟩:=h.ex;exact⟨p,dx,fs,rfl,b,f⟩
theorem jU(h:NL C H p a l ru rs):Rk C "answer_to" H (.ref p):=by
 obtain⟨dx,fs,b,_,_,_,_,_,_,_,_,_,_,_,f,_⟩:=h.ex;exact⟨p,dx,fs,rfl,b,f⟩
end
section
variable{P:WV}{w:WZ}{K:J0}{mg:WQ}{base:J6}
def TN(C:J2)(f:Str)(H:Hp)(p b:J2)(xs:List V):Prop:=∃dx fs,H p=some (.ins C dx fs)/\fs.lookup f=some (.ref b)/\H b=some (.lst xs)
def D9(C:J2)(f:Str)(H:Hp)(p:J2)(v:V):Prop:=∃dx fs,H p=some (.ins C dx fs)/\fs.lookup f=some v
structure Rp(K:J0)(C:J2)(f:Str):Prop where
 cl:MQ K C
 na:JC K C f
abbrev At(K:J0)(f:J2)(fd:WX)(q:Str)(st:Stmt):Prop:=∃ (oc:J1) (od:Option Addr) (dV kV doc pm:J1) (an:Option Addr) (cdv ct:J1) (osl:Array (Option Value)),
  fd=W.fnOf "__init__" q (De st) (Jo st) (J8 st) dV kV doc pm an cdv ct/\K.lookup f=some ⟨oc,od,.func fd,osl⟩/\W.codeIn K cdv q=true
inductive OX(C:J2)(vs:List V)(H:Hp)(Q:VK)(E:XK):Prop|mk (p dx b xs:_) (_:vs=[.ref p,.ref b]) (_:H p=some (.ins C dx [])) (_:H b=some (.lst xs)) (_:∀b' G,H b'=none->Nd p H G->TN C "body" G p b' xs->Q .non G)
abbrev N5:Stmt:=DV (top 30) 0
theorem xI:Ng ["self","body"] ["self","body"] (J8 N5):=by walk_at"e"
theorem xQ{f C:J2}{fd:WX}(F:At K f fd "Whole.__init__" N5)(L:Rp K C "body")(B:Bt mg):Ji P w K mg base JN 1 f fd ["self","body"] (OX C):=by
 obtain⟨oc,od,dV,kV,doc,pm,an,v,ct,osl,rfl,lk,n⟩:=F;refine EK lk n xI (fun vs H Q E h=>?_) (fun A a s H vs Q E hr h=>?_)
 .obtain⟨p,dx,b,xs,rfl,_⟩:=h;rfl
 .obtain⟨p,dx,b,xs,rfl,l,hb,q⟩:=h
  suffices hh:∃t,ME (M0 JN P w K mg base _ "Whole.__init__" (J8 N5) f v A a s H E).nox (Jo N5) t/\t {nx:=fun _ H'=>Q .non H',rt:=Q} (L2.start _ _) H by
   obtain⟨t,h1,h2⟩:=hh;exact⟨t,h1.nox,h2⟩
  refine⟨_,(Jl (Gx (K:=K) rfl (Ja 0) (Em (Hb (IW (K:=K) rfl)) rfl B.blist (by rfl) (Jj 1 Jc)) rfl)),?_⟩;walk_at"rd";refine⟨_,.inl (Je.of hb),fun g G1 d i u=>?_⟩;refine⟨C,dx,[],i p _ l,L.cl,L.na,by decide,fun G2 z r=>?_⟩;have j:g≠p:=Ne.symm (Tg l d);exact q g G2 d (fun c o e hc=>z c o (i c o e) hc) ⟨dx,_,r,MR,z g _ u j⟩
inductive Q3(C:J2)(vs:List V)(H:Hp)(Q:VK)(E:XK):Prop|mk (p dx b xs:_) (_:vs=[.ref p,.ref b]) (_:H p=some (.ins C dx [])) (_:H b=some (.lst xs)) (_:∀b' G,H b'=none->Nd p H G->TN C "spans" G p b' xs->Q .non G)
abbrev JJ:Stmt:=DV (top 31) 0
theorem Zl:Ng ["self","spans"] ["self","spans"] (J8 JJ):=by walk_at"e"
theorem yX{f C:J2}{fd:WX}(F:At K f fd "Lacking.__init__" JJ)(L:Rp K C "spans")(B:Bt mg):Ji P w K mg base JN 1 f fd ["self","spans"] (Q3 C):=by
 obtain⟨oc,od,dV,kV,doc,pm,an,v,ct,osl,rfl,lk,n⟩:=F;refine EK lk n Zl (fun vs H Q E h=>?_) (fun A a s H vs Q E hr h=>?_)
 .obtain⟨p,dx,b,xs,rfl,_⟩:=h;rfl
 .obtain⟨p,dx,b,xs,rfl,l,hb,q⟩:=h
  suffices hh:∃t,ME (M0 JN P w K mg base _ "Lacking.__init__" (J8 JJ) f v A a s H E).nox (Jo JJ) t/\t {nx:=fun _ H'=>Q .non H',rt:=Q} (L2.start _ _) H by
   obtain⟨t,h1,h2⟩:=hh;exact⟨t,h1.nox,h2⟩
  refine⟨_,(Jl (Gx (K:=K) rfl (Ja 0) (Em (Hb (IW (K:=K) rfl)) rfl B.blist (by rfl) (Jj 1 Jc)) rfl)),?_⟩;walk_at"rd";refine⟨_,.inl (Je.of hb),fun g G1 d i u=>?_⟩;refine⟨C,dx,[],i p _ l,L.cl,L.na,by decide,fun G2 z r=>?_⟩;have j:g≠p:=Ne.symm (Tg l d);exact q g G2 d (fun c o e hc=>z c o (i c o e) hc) ⟨dx,_,r,MR,z g _ u j⟩
inductive Pm(C:J2)(vs:List V)(H:Hp)(Q:VK)(E:XK):Prop|mk (p dx v:_) (_:vs=[.ref p,v]) (_:H p=some (.ins C dx [])) (_:∀G,Nd p H G->D9 C "at" G p v->Q .non G)
abbrev JQ:Stmt:=DV (top 32) 0
theorem QN:Ng ["self","at"] ["self","at"] (J8 JQ):=by walk_at"e"
theorem Ze{f C:J2}{fd:WX}(F:At K f fd "Unlike.__init__" JQ)(L:Rp K C "at"):Ji P w K mg base JN 1 f fd ["self","at"] (Pm C):=by
 obtain⟨u,r,dV,kV,n,o,an,d,ct,l,rfl,e,b⟩:=F;refine EK e b QN (fun vs H Q E h=>?_) (fun A a s H vs Q E z h=>?_)
 .obtain⟨p,dx,v,rfl,_⟩:=h;rfl
 .obtain⟨p,dx,v,rfl,g,q⟩:=h
  suffices hh:∃t,ME (M0 JN P w K mg base _ "Unlike.__init__" (J8 JQ) f d A a s H E).nox (Jo JQ) t/\t {nx:=fun _ H'=>Q .non H',rt:=Q} (L2.start _ _) H by
   obtain⟨t,h1,h2⟩:=hh;exact⟨t,h1.nox,h2⟩
  refine⟨_,(Jl (Gx (K:=K) rfl (Ja 0) (Ja 1) rfl)),?_⟩;walk_at"rd";exact⟨C,dx,[],g,L.cl,L.na,by decide,fun j i c=>q j i ⟨dx,_,c,MR⟩⟩
inductive Cu(C:J2)(f:Str)(vs:List V)(H:Hp)(Q:VK)(E:XK):Prop|mk (b xs:_) (_:vs=[.ref b]) (_:H b=some (.lst xs)) (_:∀p b' G,H p=none->H b'=none->J9 H G->TN C f G p b' xs->Q (.ref p) G)
theorem Qp{C:J2}(F:Rg P w K mg base "Whole" C 1 ["self","body"] [] (OX C)):Gr P w K mg base "Whole" 1 (Cu C "body"):=by
 refine F.ct fun vs H Q h y dx G a n p s f=>?_
 obtain⟨b,xs,rfl,c,q⟩:=h;exact⟨y,dx,b,xs,rfl,f,s b _ c,fun l H' i j g=>⟨rfl,q y l H' a (s.free i) (fun d o e=>j d o (s d o e) (Tg e a)) g⟩⟩
theorem SA{C:J2}(F:Rg P w K mg base "Lacking" C 1 ["self","spans"] [] (Q3 C)):Gr P w K mg base "Lacking" 1 (Cu C "spans"):=by
 refine F.ct fun vs H Q h y dx G a n p s f=>?_
 obtain⟨b,xs,rfl,c,q⟩:=h;exact⟨y,dx,b,xs,rfl,f,s b _ c,fun l H' i j g=>⟨rfl,q y l H' a (s.free i) (fun d o e=>j d o (s d o e) (Tg e a)) g⟩⟩
inductive OL(C:J2)(vs:List V)(H:Hp)(Q:VK)(E:XK):Prop|mk (v:_) (_:vs=[v]) (_:∀p G,H p=none->J9 H G->D9 C "at" G p v->Q (.ref p) G)
theorem j9{C:J2}(F:Rg P w K mg base "Unlike" C 1 ["self","at"] [] (Pm C)):Gr P w K mg base "Unlike" 1 (OL C):=by
 refine F.ct fun vs H Q h y dx G a g i s b=>?_
 obtain⟨v,rfl,q⟩:=h;exact⟨y,dx,v,rfl,b,fun H' f c=>⟨rfl,q y H' a (fun d o e=>f d o (s d o e) (Tg e a)) c⟩⟩
inductive O5(C:J2)(vs:List V)(H:Hp)(Q:VK)(E:XK):Prop|mk (p dx ru:_) (_:vs=[.ref p,.str ru]) (_:H p=some (.ins C dx [])) (_:∀a l G,H a=none->H l=none->a≠l->Nd p H G->NL C G p a l ru ⟨[],[],none,0⟩->Q .non G)
abbrev JK:Stmt:=DV (top 33) 0
theorem nI:Ng ["self","rule"] ["self","rule"] (J8 JK):=by walk_at"e"
theorem nW{f C:J2}{fd:WX}(F:At K f fd "Reading.__init__" JK)(L:DC K C):Ji P w K mg base JN 1 f fd ["self","rule"] (O5 C):=by
 obtain⟨oc,od,dV,kV,doc,pm,an,cdv,ct,osl,rfl,lk,hcd⟩:=F;refine EK lk hcd nI (fun vs H Q E h=>?_) (fun A j s H vs Q E hr h=>?_)
 .obtain⟨p,dx,ru,rfl,_⟩:=h;rfl
 .obtain⟨p,dx,ru,rfl,hp,q⟩:=h
  suffices hh:∃t,ME (M0 JN P w K mg base _ "Reading.__init__" (J8 JK) f cdv A j s H E).nox (Jo JK) t/\t {nx:=fun _ H'=>Q .non H',rt:=Q} (L2.start _ _) H by
   obtain⟨t,h1,h2⟩:=hh;exact⟨t,h1.nox,h2⟩
  refine⟨_,(Jn (Gx (K:=K) rfl (Ja 0) (Ja 1) rfl) (Jn (Gx (K:=K) rfl (Ja 0) Lr rfl) (Jn (Gx (K:=K) rfl (Ja 0) (Mt Jc) rfl) (Jn (Gx (K:=K) rfl (Ja 0) My rfl) (Jl (Gx (K:=K) rfl (Ja 0) Jp rfl)))))),?_⟩;walk_at"rd";have g:([]:List (Str×V)).length <=0:=Y7 0;refine⟨C,dx,[],hp,L.cl,L.rule,by decide,fun G1 b1 v=>?_⟩;intro a Ga ha sa hGa;refine⟨C,dx,_,sa p _ v,L.cl,L.standing,YH (T6 g) (by decide),fun G2 b2 u=>⟨JT (by simp),fun l Gl n z hGl=>?_⟩⟩;refine⟨C,dx,_,z p _ u,L.cl,L.cover,YH (T6 (T6 g)) (by decide),fun G3 b3 hG3=>?_⟩;refine⟨C,dx,_,hG3,L.cl,L.ending,YH (T6 (T6 (T6 g))) (by decide),fun G4 b4 hG4=>?_⟩;refine⟨C,dx,_,hG4,L.cl,L.reach,YH (T6 (T6 (T6 (T6 g)))) (by decide),fun G5 b5 hG5=>?_⟩;have d:a≠p:=Ne.symm (Tg v ha);have b:l≠p:=Ne.symm (Tg u n);have r:G2 a=some (.dK []):=b2 a _ hGa d;have nal:a≠l:=Tg r n;have haH:H a=none:=by
   cases e:H a with
   |none=>rfl
   |some o=>rw[b1 a o e d]at ha;cases ha
  have hlH:H l=none:=by
   cases e:H l with
   |none=>rfl
   |some o=>rw[b2 l o (sa l o (b1 l o e b)) b]at n;cases n
  refine q a l G5 haH hlH nal (fun c o e i=>b5 c o (b4 c o (b3 c o (z c o (b2 c o (sa c o (b1 c o e i)) i)) i) i) i) ⟨⟨dx,_,hG5,?_,?_,?_,?_,?_,?_,?_,?_,?_,?_,?_,?_,?_,?_⟩,?_,?_⟩
  .exact T6 (T6 (T6 (T6 (T6 g))))
  .rw[Jw,Jw,Jw,Jw,MR] <;> decide +kernel
  .rw[Jw,Jw,Jw,MR] <;> decide +kernel
  .rw[Jw,Jw,MR] <;> decide +kernel
  .rw[Jw,MR] <;> first|rfl|decide +kernel
  .rw[MR]
  all_goals first
   |(rw[Jw,Jw,Jw,Jw,Jw] <;> first|rfl|decide +kernel)
   |skip
  .exact b5 a _ (b4 a _ (b3 a _ (z a _ r) d) d) d
  .exact⟨[],b5 l _ (b4 l _ (b3 l _ hGl b) b) b,.nil⟩
end
section
theorem Aa{f:Str}{v x:V}:∀{fs:List (Str×V)},fs.lookup f=some x->(No f v fs).length=fs.length
 |[],h=>by cases h
 |(g,y)::r,h=>by
  show(if g=f then(g,v)::r else(g,y)::No f v r).length=_
  by_cases e:g=f
  .rw[Y3 e];rfl
  .rw[Y1 e,List.length_cons,List.length_cons];have hb:(f==g)=false:=Xs.mpr (fun z=>e z.symm);rw[show List.lookup f ((g,y)::r)=(match f==g with|true=>some y|false=>List.lookup f r) from rfl,hb]at h;rw[Aa h]
theorem JS.tkp{H G:Hp}{l:J2}{c:List (Int×Option Int)}(h:JS H l c)(k:Tj H G)(e:∀xs,H l=some (.lst xs)->G l=some (.lst xs)):JS G l c:=by
 obtain⟨xs,h1,h2⟩:=h;exact⟨xs,e xs h1,h2.tk k⟩
variable{C p a l:J2}{H G:Hp}{ru:Str}{rs:RS}
theorem NL.dict{st:List (Int×Int)}(h:NL C H p a l ru rs)(b:Nd a H G)(e:G a=some (.dK (MA st))):NL C G p a l ru {rs with st:=st}:=by
 obtain⟨⟨dx,fs,f,r⟩,c,g⟩:=h;exact⟨⟨dx,fs,b _ _ f (N6 f c nofun),r⟩,e,g.tkp (Rr b c) fun xs d=>b _ _ d (N6 d c nofun)⟩
theorem F4{C dx:J2}{fs:List (Str×V)}(b:Nd p H G)(h:H p=some (.ins C dx fs)):Tj H G:=fun t ys e=>b t _ e (N6 e h nofun)
theorem NL.cover'{l' dx:J2}{fs:List (Str×V)}{cv:List (Int×Int)}(h:NL C H p a l ru rs)(hp:H p=some (.ins C dx fs))(b:Nd p H G)(e:G p=some (.ins C dx (No "cover" (.ref l') fs)))(hc:JS H l' (NO cv)):NL C G p a l' ru {rs with cv:=cv}:=by
 obtain⟨⟨dx',fs',c,f0,f1,f2,w,v,u,s,r,q,o,n,j,i,g⟩,f,cv⟩:=h;rw[hp]at c;cases c;have tk:=F4 b hp;refine⟨⟨dx,_,e,?_,?_,?_,?_,?_,?_,?_,?_,?_,?_,?_,?_,?_,?_⟩,b _ _ f (N6 f hp nofun),hc.tkp tk fun xs d=>b _ _ d (N6 d hp nofun)⟩
 .rw[Aa w];exact f0
 .rw[Jw (by decide +kernel)];exact f1
 .rw[Jw (by decide +kernel)];exact f2
 .rw[MR]
 .rw[Jw (by decide +kernel)];exact v
 .rw[Jw (by decide +kernel)];exact u
 .rw[Jw (by decide +kernel)];exact s
 .rw[Jw (by decide +kernel)];exact r
 .rw[Jw (by decide +kernel)];exact q
 .rw[Jw (by decide +kernel)];exact o
 .rw[Jw (by decide +kernel)];exact n
 .rw[Jw (by decide +kernel)];exact j
 .rw[Jw (by decide +kernel)];exact i
 .rw[Jw (by decide +kernel)];exact g
theorem NL.reach'{dx:J2}{fs:List (Str×V)}{re:Int}(h:NL C H p a l ru rs)(hp:H p=some (.ins C dx fs))(b:Nd p H G)(e:G p=some (.ins C dx (No "reach" (.int re) fs))):NL C G p a l ru {rs with re:=re}:=by
 obtain⟨⟨dx',fs',c,f0,f1,f2,w,v,u,s,r,q,o,n,j,i,g⟩,f,cv⟩:=h;rw[hp]at c;cases c;have tk:=F4 b hp;refine⟨⟨dx,_,e,?_,?_,?_,?_,?_,?_,?_,?_,?_,?_,?_,?_,?_,?_⟩,b _ _ f (N6 f hp nofun),cv.tkp tk fun xs d=>b _ _ d (N6 d hp nofun)⟩
 .rw[Aa u];exact f0
 .rw[Jw (by decide +kernel)];exact f1
 .rw[Jw (by decide +kernel)];exact f2
 .rw[Jw (by decide +kernel)];exact w
 .rw[Jw (by decide +kernel)];exact v
 .rw[MR]
 .rw[Jw (by decide +kernel)];exact s
 .rw[Jw (by decide +kernel)];exact r
 .rw[Jw (by decide +kernel)];exact q
 .rw[Jw (by decide +kernel)];exact o
 .rw[Jw (by decide +kernel)];exact n
 .rw[Jw (by decide +kernel)];exact j
 .rw[Jw (by decide +kernel)];exact i
 .rw[Jw (by decide +kernel)];exact g
theorem NL.ending'{dx:J2}{fs:List (Str×V)}{e':Int}(h:NL C H p a l ru rs)(hp:H p=some (.ins C dx fs))(b:Nd p H G)(e:G p=some (.ins C dx (No "ending" (.int e') fs))):NL C G p a l ru {rs with en:=some e'}:=by
 obtain⟨⟨dx',fs',c,f0,f1,f2,w,v,u,s,r,q,o,n,j,i,g⟩,f,cv⟩:=h;rw[hp]at c;cases c;have tk:=F4 b hp;refine⟨⟨dx,_,e,?_,?_,?_,?_,?_,?_,?_,?_,?_,?_,?_,?_,?_,?_⟩,b _ _ f (N6 f hp nofun),cv.tkp tk fun xs d=>b _ _ d (N6 d hp nofun)⟩
 .rw[Aa v];exact f0
 .rw[Jw (by decide +kernel)];exact f1
 .rw[Jw (by decide +kernel)];exact f2
 .rw[Jw (by decide +kernel)];exact w
 .rw[MR];rfl
 .rw[Jw (by decide +kernel)];exact u
 .rw[Jw (by decide +kernel)];exact s
 .rw[Jw (by decide +kernel)];exact r
 .rw[Jw (by decide +kernel)];exact q
 .rw[Jw (by decide +kernel)];exact o
 .rw[Jw (by decide +kernel)];exact n
 .rw[Jw (by decide +kernel)];exact j
 .rw[Jw (by decide +kernel)];exact i
 .rw[Jw (by decide +kernel)];exact g
theorem NL.ins(h:NL C H p a l ru rs):∃dx fs,H p=some (.ins C dx fs)/\fs.length <=5:=by
 obtain⟨⟨dx,fs,b,c,_⟩,_,_⟩:=h;exact⟨dx,fs,b,c⟩
end
section
variable{P:WV}{w:WZ}{K:J0}{mg:WQ}{base:J6}
inductive K7(C CP:J2)(vs:List V)(H:Hp)(Q:VK)(E:XK):Prop|mk (p a l q b:J2) (ru:Str) (rs:RS) (d:PD) (_:vs=[.ref p,.ref q]) (_:NL C H p a l ru rs) (_:Nx CP H q b d) (_:Q (.bl (strange rs d)) H)
abbrev Fl:Stmt:=DV (top 33) 1
theorem Z8:Ng ["self","piece"] ["self","piece"] (J8 Fl):=by walk_at"e"
theorem wY{f C CP:J2}{fd:WX}(F:Nk K "is_strange" "Reading.is_strange" Fl f fd)(L:DC K C)(LP:Gg K CP)(Jz:Mi P w K mg base CP "end" 1 ["self"] [] (Ff CP)):Ji P w K mg base JN 2 f fd ["self","piece"] (K7 C CP):=by
 refine F.ok Z8 (fun vs H Q E h=>?_) (fun o A j s H vs Q E i h=>?_)
 .obtain⟨p,a,l,q,b,ru,rs,d,rfl,_⟩:=h;rfl
 .obtain⟨p,a,l,q,b,ru,rs,d,rfl,g,c,k⟩:=h;refine⟨_,(Jn (Np (TU (Tq K (Ja 1))) (Jl (JR (MZ (Mo Eu (Tq K (Ja 0)) My (Mp _)) (Dr (Mo (Nj Ia) (Gh (Ja 1) Jz i.m) (Tq K (Ja 0)) (Mp _)))))) NG) (Jn (Np (NC Eu (Tq K (Ja 0)) My) (Jl (JR (Mo (Fe Ka) (Gh (Ja 1) Jz i.m) (Tq K (Ja 0)) (Mp _)))) NG) (Jl (JR (Mo (Nj Rs) (Gh (Ja 1) Jz i.m) (Tq K (Ja 0)) (Mp _)))))),?_⟩;walk_at"rd";refine⟨_,P4 LP c,_,rfl,?_⟩;unfold strange at k;cases hm:d.mo with
  |true=>
   rw[hm,Y3 rfl]at k;rw[Y3 rfl];refine⟨_,EV L g,?_⟩;cases he:rs.en with
   |none=>
    rw[he]at k;exact k
   |some e=>
    rw[he]at k;rw[Y3 (by simp[oV])];have hf:=EV L g;rw[he]at hf;exact⟨En c,q,b,d,rfl,c,_,hf,_,rfl,_,rfl,k⟩
  |false=>
   rw[hm,Y1 (by simp)]at k;rw[Y1 (by simp)];refine⟨_,EV L g,?_⟩;cases he:rs.en with
   |none=>
    rw[he]at k;rw[Y1 (by simp[oV])];exact⟨En c,q,b,d,rfl,c,_,KS L g,_,rfl,_,rfl,k⟩
   |some e=>
    rw[he]at k;rw[Y3 (by simp[oV])];have hf:=EV L g;rw[he]at hf;refine⟨En c,q,b,d,rfl,c,_,hf,rfl,?_⟩;have n:(!decide (V.int (d.at'+ d.ns.length)=oV (some e)))= !decide (d.at'+ d.ns.length=e):=by simp[oV]
    rw[n];exact k
inductive Km(C CP:J2)(vs:List V)(H:Hp)(Q:VK)(E:XK):Prop|mk (p a l q b:J2) (ru:Str) (rs:RS) (d:PD) (_:vs=[.ref p,.ref q]) (_:NL C H p a l ru rs) (_:Nx CP H q b d) (_:(0 <=d.at'/\d.at' <=4000/\d.ns.length <=4000)) (_:∀G,J9 H G->Q (oV (Na rs.st d.at' d.ns)) G)
abbrev IK:Stmt:=DV (top 33) 2
theorem ID:Ng ["self","piece","number","byte"] ["self","piece"] (J8 IK):=by walk_at"e"
theorem uE{f C CP:J2}{fd:WX}(F:Nk K "unlike_number" "Reading.unlike_number" IK f fd)(L:DC K C)(LP:Gg K CP)(B3:FO mg):Ji P w K mg base JN 1 f fd ["self","piece"] (Km C CP):=by
 refine F.ok ID (fun vs H Q E h=>?_) (fun cdv A outer s H vs Q E hr h=>?_)
 .obtain⟨p,a,l,q,b,ru,rs,d,rfl,_⟩:=h;rfl
 .obtain⟨p,a,l,q,b,ru,rs,d,rfl,hR,r,hd,k⟩:=h;refine⟨_,(Jn (DZ YW rfl (O9 (K:=K) rfl rfl B3.enumerate (Tq K (Ja 1)) (Tq K (Ja 1))) (Rl (K:=K) (n:=2) rfl rfl (TL (Tv 2 ID) (TL (Tv 3 ID) Rt))) (Jl (Np (PW.pt (Gy (EL (Su (QU (Ra hr))) (Ja 2) (Tq K (Ja 0)) (by with_unfolding_all rfl)) (R5 (NC (Fe Ka) (MC hr (Tq K (Ja 0)) (Ja 2)) (Ja 3))))) (Jl (JR (Ja 2))) NG))) (Jl (JR My))),?_⟩;walk_at"rd";refine⟨_,Q6 LP r,_,Cv LP r,_,rfl,_,rfl,by lia,by lia,⟨_,Je.of r.bd⟩,?_⟩;obtain⟨Pv,c⟩:∃Pv:Nat->L2.St->Hp->Prop,Pv=fun i σ' G=>∃ (z v:Option V),σ'=[some (.ref p),some (.ref q),z,v]/\J9 H G/\Na rs.st d.at' d.ns=Na rs.st (d.at'+ (i:Nat)) (d.ns.drop i):=⟨_,rfl⟩
  refine Ld (xs:=d.ns.map V.int) Pv (by rw[c];exact⟨_,_,rfl,J9.refl _,by simp⟩) ?_ ?_ ?_ <;> rw[c]
  .rintro i σ' G _ ⟨_,_,_,s,_⟩;exact Je.of (s b _ r.bd)
  .rintro i x t σ' G0 G hx ⟨z,v,rfl,s0,e⟩ _ s1 ht;rw[<-c];have s:=s0.trans s1;rw[Yf]at hx;obtain⟨n,o,rfl⟩:=YE.mp hx;have u:i < d.ns.length:=by
    rcases WO i d.ns.length with h|h
    .exact h
    .rw[Xa h]at o;cases o
   have hdr:d.ns.drop i=n::d.ns.drop (i+ 1):=by
    rw[Yz u];rw[Y5 u]at o;rw[Yr o]
   rw[hdr]at e;have g:=hR.mono s;refine⟨t,_,rfl,JV.of ht,rfl,_,_,rfl,_,_,rfl,rfl,?_⟩;walk_at"rd";refine⟨_,ET L g,_,rfl,_,g.dk,?_⟩;rw[Rc];have ei:d.at'+ (i:Int)+ 1=d.at'+ ((i+ 1:Nat):Int):=by lia
   have j:=e;rw[show Na rs.st (d.at'+ (i:Nat)) (n::d.ns.drop (i+ 1))=(match JL rs.st (d.at'+ (i:Nat)) with|some x=>if x=n then Na rs.st (d.at'+ (i:Nat)+ 1) (d.ns.drop (i+ 1)) else some (d.at'+ (i:Nat))|none=>Na rs.st (d.at'+ (i:Nat)+ 1) (d.ns.drop (i+ 1))) from rfl,ei]at j;cases hg:JL rs.st (d.at'+ i) with
   |none=>
    rw[hg]at j;rw[Y1 (by simp),c];exact⟨_,_,rfl,s,j⟩
   |some x=>
    rw[hg]at j;rw[Y3 (by rfl)];refine⟨_,ET L g,_,rfl,V.int x,?_,rfl,?_⟩
    .have:=Nh.k (k:=Sum.inl (d.at'+ (i:Int))) g.dk;rw[Rc,hg]at this;exact this
    .by_cases hxn:x=n
     .rw[Y1 (by simp[hxn]),c];exact⟨_,_,rfl,s,by rw[j];exact Y3 hxn⟩
     .rw[Y3 (by simp[hxn])];have:=k G s;rw[j.trans (Y1 hxn)]at this;exact this
  .rintro σ' G ⟨z,v,rfl,s,e⟩;rw[XT (by simp)]at e;have:=k G s;rw[e]at this;exact this
inductive Kk(C CP:J2)(vs:List V)(H:Hp)(Q:VK)(E:XK):Prop|mk (p a l q b:J2) (ru:Str) (rs:RS) (d:PD) (_:vs=[.ref p,.ref q]) (_:NL C H p a l ru rs) (_:Nx CP H q b d) (_:(0 <=d.at'/\d.at' <=4000/\d.ns.length <=4000)) (_:rs.st.length <=20000) (_:rs.cv.length <=1000) (_:∀l' G,H l'=none->(∀c o,H c=some o->c≠p->c≠a->G c=some o)->NL C G p a l' ru (JF (decide (ru="last")) rs d)->Q .non G)
abbrev FZ:Stmt:=DV (top 33) 3
theorem Fp:Ng ["self","piece","number","byte"] ["self","piece"] (J8 FZ):=by walk_at"e"
theorem xV{f C CP:J2}{fd:WX}(F:Nk K "take" "Reading.take" FZ f fd)(L:DC K C)(LP:Gg K CP)(B:Bt mg)(B3:FO mg)(Jz:Mi P w K mg base CP "end" 1 ["self"] [] (Ff CP))(Tc:NJ P w K mg base "with_span" 1 ["cover","span"] [] P2):Ji P w K mg base JN 2 f fd ["self","piece"] (Kk C CP):=by
 refine F.ok Fp (fun vs H Q E h=>?_) (fun cdv A outer s H vs Q E hr h=>?_)
 .obtain⟨p,a,l,q,b,ru,rs,d,rfl,_⟩:=h;rfl
 .obtain⟨p,a,l,q,b,ru,rs,d,rfl,hR,hP,hd,hst,hcv,k⟩:=h;refine⟨_,(Jn (DZ YW rfl (O9 (K:=K) rfl rfl B3.enumerate (Tq K (Ja 1)) (Tq K (Ja 1))) (Rl (K:=K) (n:=2) rfl rfl (TL (Tv 2 Fp) (TL (Tv 3 Fp) Rt))) (Jl (Np (PW.pt (R9 (NC (Mz Mr) (Tq K (Ja 0)) N7) (RH (EL (Ih (HF (Ra hr))) (Ja 2) (Tq K (Ja 0)) (by with_unfolding_all rfl))))) (Jl (Od (Ra hr) (Tq K (Ja 0)) (Ja 2) (Ja 3) rfl)) NG))) (Jn (Gx (K:=K) rfl (Ja 0) (Nr Tc hr.m rfl (DD (Tq K (Ja 0)) (JG (hs:=Dn) (TY (DD (Tq K (Ja 1)) (Mm (Gh (Ja 1) Jz hr.m) Jc))) Jc))) rfl) (Jl (Np (TU (Tq K (Ja 1))) (Jl (Gx (K:=K) rfl (Ja 0) (Nz (H9 rfl) B.max (DD (Tq K (Ja 0)) (Mm (Gh (Ja 1) Jz hr.m) Jc))) rfl)) (Jl (Gx (K:=K) rfl (Ja 0) (Gh (Ja 1) Jz hr.m) rfl)))))),?_⟩;refine Nt fun N hN=>?_
  walk_at"rd";refine⟨_,Q6 LP hP,_,Cv LP hP,_,rfl,_,rfl,by lia,by lia,⟨_,Je.of hP.bd⟩,?_⟩;obtain⟨nqp,nbp,nqa,nba⟩:=hR.ne hP;obtain⟨Pv,u⟩:∃Pv:Nat->L2.St->Hp->Prop,Pv=fun i σ' G=>∃ (v2 v3:Option V),σ'=[some (.ref p),some (.ref q),v2,v3]/\Nd a H G/\G a=some (.dK (MA (Mq (decide (ru="last")) rs.st d.at' (d.ns.take i)))):=⟨_,rfl⟩
  refine Ld (xs:=d.ns.map V.int) Pv (by rw[u];exact⟨_,_,rfl,Nd.refl _ _,hR.dk⟩) ?_ ?_ ?_ <;> rw[u]
  .rintro i σ' G _ ⟨_,_,_,s,_⟩;exact Je.of (s b _ hP.bd nba)
  .rintro i x t σ' G0 G hx ⟨v2,v3,rfl,s0,hd0⟩ _ s1 ht;rw[<-u];have s:Nd a H G:=fun c o e hc=>s1 c o (s0 c o e hc)
   have g:=s1 a _ hd0;rw[Yf]at hx;obtain⟨n,hn,rfl⟩:=YE.mp hx;have hlt:i < d.ns.length:=by
    rcases WO i d.ns.length with h|h
    .exact h
    .rw[Xa h]at hn;cases hn
   have htk:d.ns.take (i+ 1)=d.ns.take i++[n]:=by
    rw[WC,hn];rfl
   have hli:((d.ns.take i).length:Int)=i:=by rw[Ym];lia
   have hsz:=Es (decide (ru="last")) (d.ns.take i) rs.st d.at';refine⟨t,_,rfl,JV.of ht,rfl,_,_,rfl,_,_,rfl,rfl,?_⟩;have j:=hR.dict s g;have hst2:(MA (Mq (decide (ru="last")) rs.st d.at' (d.ns.take i))).length < sizeLine:=by
    refine Yx (m:=30000) ?_ (JT (by lia));unfold MA;rw[Y4];rw[Ym]at hsz
    lia
   have r:=Ht (decide (ru="last")) (d.ns.take i) rs.st d.at' n;rw[hli]at r;walk_at"rd";refine⟨_,IQ L j,rfl,?_⟩
   by_cases hru:ru="last"
   .rw[Y3 (by rw[hru];exact Yk rfl)];refine⟨_,ET L j,_,rfl,_,g,hst2,fun G1 b1 h1=>?_⟩;rw[Bi]at h1;rw[Y3 (.inl (Yk hru))]at r;rw[u];refine⟨_,_,rfl,s.trans b1,?_⟩;rw[htk,r];exact h1
   .rw[Y1 (by simpa using hru)];refine⟨_,ET L j,_,rfl,_,g,?_⟩;rw[Rc];cases hg:JL (Mq (decide (ru="last")) rs.st d.at' (d.ns.take i)) (d.at'+ i) with
    |none=>
     rw[Y3 (by rfl)];refine⟨_,ET L j,_,rfl,_,g,hst2,fun G1 b1 h1=>?_⟩;rw[Bi]at h1;rw[Y3 (.inr (by rw[hg];rfl))]at r;rw[u];refine⟨_,_,rfl,s.trans b1,?_⟩;rw[htk,r];exact h1
    |some x=>
     rw[Y1 (by simp)];rw[Y1 (by rw[hg];simp[hru])]at r;rw[u];refine⟨_,_,rfl,s,?_⟩;rw[htk,r];exact g
  .rintro σ' G ⟨v2,v3,rfl,s,g⟩;refine hN _ _ ?_;clear hN N;rw[YS (by simp)]at g;have j:=hR.dict s g;have ac:=hP.but s nqa nba;refine Nt fun N hN=>?_
   walk_at"rd";refine⟨_,OB L j,_,Cv LP ac,En ac,q,b,d,rfl,ac,?_⟩;refine⟨JT (by simp),fun t G2 ht s2 hG2=>?_⟩;refine⟨l,t,rs.cv,_,_,rfl,j.cv.same s2,hcv,hG2,fun l' G3 hl' s3 hC3=>?_⟩;have hl0:H l'=none:=s.free (s2.free hl') (Ne.symm (Tg g (s2.free hl')));have s13:=s2.trans s3;have hR3:=j.mono s13;have hP3:=ac.mono s13;obtain⟨dx,fs,hp3,hf5⟩:=hR3.ins;refine⟨C,dx,fs,hp3,L.cl,L.cover,by lia,fun G4 b4 hG4=>hN _ _ ?_⟩;clear hN N;have ab:=hR3.cover' hp3 b4 hG4 hC3;have v:=hP3.but b4 nqp nbp;have z:∀c o,H c=some o->c≠p->c≠a->G4 c=some o:=fun c o e h1 h2=>b4 c o (s13 c o (s c o e h2)) h1
   obtain⟨dx4,fs4,aa,hf4⟩:=ab.ins;walk_at"rd";refine⟨_,P4 LP v,_,rfl,?_⟩;cases hm:d.mo with
   |true=>
    rw[Y3 rfl];refine⟨_,KS L ab,En v,q,b,d,rfl,v,_,rfl,_,rfl,C,dx4,fs4,aa,L.cl,L.reach,by lia,fun G5 b5 hG5=>?_⟩;have hR5:=ab.reach' aa b5 hG5;refine k l' G5 hl0 (fun c o e h1 h2=>b5 c o (z c o e h1 h2) h1) ?_;unfold JF;rw[Y3 hm,Y3 hm];have e:max rs.re (d.at'+ d.ns.length)=if d.at'+ d.ns.length > rs.re then d.at'+ d.ns.length else rs.re:=by split <;> lia
    rw[e];exact hR5
   |false=>
    rw[Y1 (by simp)];refine⟨En v,q,b,d,rfl,v,C,dx4,fs4,aa,L.cl,L.ending,by lia,fun G5 b5 hG5=>?_⟩;have hR5:=ab.ending' aa b5 hG5;refine k l' G5 hl0 (fun c o e h1 h2=>b5 c o (z c o e h1 h2) h1) ?_;unfold JF;rw[Y1 (by rw[hm];simp),Y1 (by rw[hm];simp)];exact hR5
inductive A9(C:J2)(vs:List V)(H:Hp)(Q:VK)(E:XK):Prop|mk (p a l:J2) (ru:Str) (rs:RS) (_:vs=[.ref p]) (_:NL C H p a l ru rs) (_:rs.cv.length <=1000) (_:∀m G,J9 H G->H m=none->JS G m (T9 rs.en 0 rs.cv)->Q (.ref m) G)
abbrev FV:Stmt:=DV (top 33) 5
theorem nJ:Ng ["self"] ["self"] (J8 FV):=by walk_at"e"
theorem Qw{f C:J2}{fd:WX}(F:Nk K "missing" "Reading.missing" FV f fd)(L:DC K C)(TD:NJ P w K mg base "lacking" 1 ["cover","end"] [] KR):Ji P w K mg base JN 2 f fd ["self"] (A9 C):=by
 refine F.ok nJ (fun vs H Q E h=>?_) (fun i A c s H vs Q E d h=>?_)
 .obtain⟨p,a,l,ru,rs,rfl,_⟩:=h;rfl
 .obtain⟨p,a,l,ru,rs,rfl,b,hd,k⟩:=h;refine⟨_,(Jl (JR (Nr TD d.m rfl (DD (Tq K (Ja 0)) (DD (Tq K (Ja 0)) Jc))))),?_⟩;walk_at"rd";exact⟨_,OB L b,_,EV L b,l,rs.cv,rs.en,rfl,b.cv,hd,fun l' G g s e=>k l' G s g e⟩
inductive Fv(C:J2)(vs:List V)(H:Hp)(Q:VK)(E:XK):Prop|mk (p a l:J2) (ru:Str) (rs:RS) (e:Nat) (ns:J3) (_:vs=[.ref p]) (_:NL C H p a l ru rs) (_:rs.en=some (e:Int)) (_:e <=65536) (_:ns.length=e) (_:(∀i:Nat,∀x,ns[i]?=some x->JL rs.st i=some x)) (_:∀m G,J9 H G->H m=none->G m=some (.lst (ns.map V.int))->Q (.ref m) G)
abbrev Cw:Stmt:=DV (top 33) 6
theorem j4:Ng ["self"] ["self"] (J8 Cw):=by walk_at"e"
theorem jG{f C:J2}{fd:WX}(F:Nk K "taken_body" "Reading.taken_body" Cw f fd)(L:DC K C)(B:Bt mg):Ji P w K mg base JN 1 f fd ["self"] (Fv C):=by
 refine F.ok j4 (fun vs H Q E h=>?_) (fun cdv A r s H vs Q E u h=>?_)
 .obtain⟨p,a,l,ru,rs,e,c,rfl,_⟩:=h;rfl
 .obtain⟨p,a,l,ru,rs,e,c,rfl,g,he,hd,hn,z,k⟩:=h;refine⟨_,(Jl (JR (DB (N':=["number","self"]) (caps:=[none,some 0]) (D6 (sc:=J8 Cw) (N:=["self"]) rfl rfl (by decide +kernel)) rfl (RU rfl B.range (DD (Tq K (Ja 0)) Jc)) (fun _ _ _ _ _=>(Ml (i:=0) (MK (N:=["number","self"]) rfl (by decide +kernel)) rfl (Or.inl rfl))) (fun _ _ _ _ _=>Dt) (fun _ _ _ _ _=>(MC u (Tq K (Ja 1)) (Ja 0)))))),?_⟩;walk_at"rd";have hf:=EV L g;rw[he]at hf;refine⟨_,hf,_,rfl,by lia,by lia,?_⟩;rw[YN];obtain⟨j,b⟩:∃j:Nat->List V->L2.St->Hp->Prop,j=fun i ys σ' G=>∃v:Option V,σ'=[v,some (.ref p)]/\ys=(c.take i).map V.int/\G=H:=⟨_,rfl⟩
  refine Aw j (by rw[b];exact⟨none,rfl,rfl,rfl⟩) ?_ (JT (by lia)) ?_ ?_ <;> rw[b]
  .rintro i ys σ' q ⟨v,rfl,rfl,rfl⟩ _;rw[Y4,Ym];lia
  .rintro i ys σ' q hi ⟨v,rfl,rfl,rfl⟩;rw[<-b];walk_at"rd";have n:i < c.length:=by lia
   have d:=z i c[i] (Y5 n);refine⟨_,ET L g,_,rfl,V.int c[i],?_,?_⟩
   .have:=Nh.k (k:=Sum.inl (0+ (i:Int))) g.dk;rw[Rc,XX,d]at this;rw[XX];exact this
   .rw[b];exact⟨_,rfl,by rw[WC,Y5 n,Yw];rfl,rfl⟩
  .rintro ys σ' q ⟨v,rfl,rfl,rfl⟩ m G h0 s o;rw[YS (by lia)]at o;exact k m G s h0 o
theorem PU:∀ (c:List (Int×Int)) (st:WS),(c.foldl Tr st).ah.length+ (c.foldl Tr st).be.length <=st.ah.length+ st.be.length+ c.length
 |[],st=>Y7 _
 |p::r,st=>by
  have h:=PU r (Tr st p);have h2:(Tr st p).ah.length+ (Tr st p).be.length <=st.ah.length+ st.be.length+ 1:=by
   unfold Tr
   split
   .simp;lia
   .split
    .simp;lia
    .simp
  rw[Um,List.length_cons];lia
theorem P3(c:List (Int×Int))(lo hi:Int):(Nl c lo hi).length <=c.length+ 1:=by
 have h:=PU c ⟨[],lo,hi,[]⟩;unfold Nl RT;simp only[List.length_append,List.length_cons,List.length_nil]at h ⊢
 lia
def Nn(p a:J2)(H G:Hp):Prop:=∀c o,H c=some o->c≠p->c≠a->G c=some o
theorem Nn.free{p a:J2}{H G:Hp}(kp:Nn p a H G){C l b:J2}{ru:Str}{rs:RS}(hR:NL C G p a l ru rs)(h:G b=none):H b=none:=by
 cases e:H b with
 |none=>rfl
 |some o=>
  obtain⟨dx,fs,c,_⟩:=hR.ex;have:=kp b o e (Ne.symm (Tg c h)) (Ne.symm (Tg hR.dk h));rw[this]at h;cases h
inductive Hl(C CP CW CU:J2)(vs:List V)(H:Hp)(Q:VK)(E:XK):Prop|mk (p a l q b:J2) (ru:Str) (rs:RS) (d:PD) (_:vs=[.ref p,.ref q]) (_:NL C H p a l ru rs) (_:Nx CP H q b d) (_:rs.st.length <=20000) (_:rs.cv.length <=900) (_:(strange rs d=true->(ru="refuse"->∀m G,J9 H G->D9 CU "at" G m (.int d.at')->Q (.ref m) G)/\(¬ru="refuse"->Q .non H))) (_:(strange rs d=false->(∀n,ru="refuse"->Na rs.st d.at' d.ns=some n->∀m G,J9 H G->D9 CU "at" G m (.int n)->Q (.ref m) G)/\((ru="refuse"->Na rs.st d.at' d.ns=none)->∀rs',rs'=JF (decide (ru="last")) rs d->(T9 rs'.en 0 rs'.cv≠[]->∀l' G,H l'=none->Nn p a H G->NL C G p a l' ru rs'->Q .non G)/\(T9 rs'.en 0 rs'.cv=[]->∃ (e:Nat) (ns:J3),rs'.en=some (e:Int)/\e <=4000/\ns.length=e/\(∀i:Nat,∀x,ns[i]?=some x->JL rs'.st i=some x)/\∀m b' l' G,H b'=none->H l'=none->Nn p a H G->NL C G p a l' ru rs'->TN CW "body" G m b' (ns.map V.int)->Q (.ref m) G))))
theorem PD.Ok.bds{d:PD}(h:d.Ok):0 <=d.at'/\d.at' <=4000/\d.ns.length <=4000:=by
 have h1:=h.a0;have h2:=h.rm;have a:=h.l2;unfold Ry at h2;refine⟨h1,?_,a⟩
 split at h2
 .simp only[X8,Yg]at h2;lia
 .simp only[Yg]at h2;lia
abbrev Fm:Stmt:=DV (top 33) 7
theorem Lc:Ng ["self","piece","number"] ["self","piece"] (J8 Fm):=by walk_at"e"
theorem wU{f C CP CW CU:J2}{fd:WX}(F:Nk K "answer_to" "Reading.answer_to" Fm f fd)(L:DC K C)(LP:Gg K CP)
  (JI:Mi P w K mg base C "is_strange" 2 ["self","piece"] [] (K7 C CP)) (JE:Mi P w K mg base C "unlike_number" 1 ["self","piece"] [] (Km C CP)) (Nv:Mi P w K mg base C "take" 2 ["self","piece"] [] (Kk C CP))
  (JA:Mi P w K mg base C "missing" 2 ["self"] [] (A9 C)) (JH:Mi P w K mg base C "taken_body" 1 ["self"] [] (Fv C))
  (Rh:Gr P w K mg base "Whole" 1 (Cu CW "body")) (D5:Gr P w K mg base "Unlike" 1 (OL CU)):Ji P w K mg base JN 3 f fd ["self","piece"] (Hl C CP CW CU):=by
 refine F.ok Lc (fun vs H Q E h=>?_) (fun cdv A outer s H vs Q E j h=>?_)
 .obtain⟨p,a,l,q,b,ru,rs,d,rfl,_⟩:=h;rfl
 .obtain⟨p,a,l,q,b,ru,rs,d,rfl,r,hP,hst,hcv,k1,k2⟩:=h;have hd:=hP.ok.bds;refine⟨_,(Jn (Np (TU (A1 (Ja 0) JI j.m (Jj 1 Jc))) (Jl (JR (Qb (NC (Mz Mr) (Tq K (Ja 0)) N7) (Ey D5 j.m rfl (DD (Tq K (Ja 1)) Jc)) My))) NG) (Jn (DQ (Np (NC (Mz Mr) (Tq K (Ja 0)) N7) (Jn (NH 2 Lc (A1 (Ja 0) JE j.m (Jj 1 Jc))) (Jl (Np (NC Eu (Ja 2) My) (Jl (JR (Ey D5 j.m rfl (Jj 2 Jc)))) NG))) NG)) (Jn (MW (A1 (Ja 0) Nv j.m (Jj 1 Jc))) (Jl (JR (Qb (NC (FG (K9 (K:=K) (Ju.units j) rfl)) (Gh (Ja 0) JA j.m) (Mt Jc)) (Ey Rh j.m rfl (Mm (Gh (Ja 0) JH j.m) Jc)) My)))))),?_⟩;walk_at"rd";refine⟨jZ r,p,a,l,q,b,ru,rs,d,rfl,r,hP,_,rfl,?_⟩;cases hs:strange rs d with
  |true=>
   obtain⟨q1,q2⟩:=k1 hs;rw[Y3 rfl];refine⟨_,IQ L r,rfl,?_⟩
   by_cases hru:ru="refuse"
   .rw[Y3 (by rw[hru];exact Yk rfl)];exact⟨_,Cv LP hP,_,rfl,fun m G h0 s hA=>q1 hru m G s hA⟩
   .rw[Y1 (by simpa using hru)];exact q2 hru
  |false=>
   obtain⟨q1,q2⟩:=k2 hs;rw[Y1 (by simp)];obtain⟨R,eR⟩:∃R:L2.St->Hp->Prop,R=fun σ' G=>∃v,σ'=[some (.ref p),some (.ref q),v]/\J9 H G/\(ru="refuse"->Na rs.st d.at' d.ns=none):=⟨_,rfl⟩
   refine⟨R,?_,fun σ' G hRr=>?_⟩
   .refine⟨_,IQ L r,rfl,?_⟩
    by_cases hru:ru="refuse"
    .rw[Y3 (by rw[hru];exact Yk rfl)];refine⟨Sd r,p,a,l,q,b,ru,rs,d,rfl,r,hP,hd,fun G s=>?_⟩;cases hu:Na rs.st d.at' d.ns with
     |none=>
      rw[Y1 (by simp[oV]),eR];exact⟨_,rfl,s,fun _=>hu⟩
     |some n=>
      rw[Y3 (by simp[oV])];exact⟨_,rfl,fun m G2 h0 s2 hA=>q1 n hru hu m G2 (s.trans s2) hA⟩
    .rw[Y1 (by simpa using hru),eR];exact⟨_,rfl,J9.refl _,fun z=>absurd z hru⟩
   .rw[eR]at hRr;obtain⟨v,rfl,s,hu⟩:=hRr;have hR1:=r.mono s;have hP1:=hP.mono s;obtain⟨q3,q4⟩:=q2 hu _ rfl;refine⟨_,rfl,SZ hR1,_,rfl,p,a,l,q,b,ru,rs,d,rfl,hR1,hP1,hd,hst,by lia,fun l' G2 hl0 kp g=>?_⟩;have aa:(JF (decide (ru="last")) rs d).cv.length <=1000:=by
     have:=P3 rs.cv d.at' (d.at'+ d.ns.length);show(Nl rs.cv d.at' (d.at'+ d.ns.length)).length <=1000
     lia
    generalize JF (decide (ru="last")) rs d=rs' at g q3 q4 aa;refine⟨_,rfl,Oo g,p,a,l',ru,rs',rfl,g,aa,fun m G3 s3 hm hC=>⟨JT (by simp),fun z G4 hz s4 hz4=>?_⟩⟩;obtain⟨xs,hx,hxc⟩:=hC;refine⟨m,rfl,xs,Je.of (s4 m _ hx),Je.of hz4,?_⟩;have i:=s3.trans s4;have u:Nn p a H G4:=fun c o e h1 h2=>i c o (kp c o (s c o e) h1 h2)
    have hxl:=hxc.len
    by_cases hn:T9 rs'.en 0 rs'.cv=[]
    .rw[hn]at hxl;rw[Y3 (Yk (show xs.length=0 from hxl))];obtain⟨e,ns,he,he2,hns,hg,q5⟩:=q4 hn;exact⟨_,rfl,jJ (g.mono i),p,a,l',ru,rs',e,ns,rfl,g.mono i,he,by lia,hns,hg,fun m5 G5 s5 hm5 h5=>⟨m5,_,rfl,h5,fun w b' G6 hw hb' s6 hA=>q5 w b' l' G6 (Nn.free (fun c o e h1 h2=>s5 c o (u c o e h1 h2)) ((g.mono i).mono s5) hb') (s.free hl0) (fun c o e h1 h2=>s6 c o (s5 c o (u c o e h1 h2))) (((g.mono i).mono s5).mono s6) hA⟩⟩
    .rw [Y1 (by
      simp only [Yg];intro hz;exact hn (List.eq_nil_of_length_eq_zero (by lia)))]
     exact q3 hn l' G4 (s.free hl0) u (g.mono i)
theorem OP(a b:Str):Ri (.str a) (.str b)=decide (a=b):=by
 show(a==b)=_;rw[YU,Vx,Yg]
inductive Ou(C:J2)(vs:List V)(H:Hp)(Q:VK)(E:XK):Prop|mk (ru:_) (_:vs=[.str ru]) (_:∀p a l G,H p=none->H a=none->H l=none->J9 H G->NL C G p a l ru ⟨[],[],none,0⟩->Q (.ref p) G)
theorem tW{C:J2}(F:Rg P w K mg base "Reading" C 1 ["self","rule"] [] (O5 C)):Gr P w K mg base "Reading" 1 (Ou C):=by
 refine F.ct fun vs H Q h y dx G b n r s i=>?_
 obtain⟨ru,rfl,q⟩:=h;exact⟨y,dx,ru,rfl,i,fun a l H' f c p j g=>⟨rfl,q y a l H' b (s.free f) (s.free c) (fun d o e=>j d o (s d o e) (Tg e b)) g⟩⟩
inductive L6(vs:List V)(H:Hp)(Q:VK)(E:XK):Prop|mk (ru:Str) (_:vs=[.str ru]) (_:Q (.bl (decide (ru="first"\/ru="last"\/ru="refuse"))) H)
abbrev FY:Stmt:=top 14
theorem ZN:Ng ["value"] ["value"] (J8 FY):=by walk_at"e"
theorem x9{f aRULES:J2}{fd:WX}(F:Nk K "is_rule" "is_rule" FY f fd)(B:Bt mg)(g_RULES:mg "RULES"=some (.ref aRULES))(t_RULES:∀H,JV K H aRULES [.str "first",.str "last",.str "refuse"]):Ji P w K mg base JN 1 f fd ["value"] L6:=by
 refine F.ok ZN (fun vs H Q E h=>?_) (fun b A a s H vs Q E c h=>?_)
 .obtain⟨ru,rfl,_⟩:=h;rfl
 .obtain⟨ru,rfl,k⟩:=h;refine⟨_,(Jl (JR (MZ (Nz (GC "str") B.isinstance (Jj 0 (JG (hs:=MJ) (GN (v:=.ty "str") rfl B.bstr (by rfl) rfl) Jc))) (Dr (Mo (P9 (K:=K) rfl) (Ja 0) (E3 (v:=.ref aRULES) rfl g_RULES rfl) (by with_unfolding_all rfl)))))),?_⟩;walk_at"rd";rw[Y3 (by decide)];refine⟨aRULES,_,rfl,.inr (t_RULES H),rfl,rfl,?_⟩;have e:EI (.str ru) [.str "first",.str "last",.str "refuse"]=decide (ru="first"\/ru="last"\/ru="refuse"):=by
   rw[YU];simp only[EI,OP,Uk,List.any_nil,VT,Bool.or_eq_true,Yg];exact⟨fun h=>h.imp V5 (Or.imp V5 V5),fun h=>h.imp V5 (Or.imp V5 V5)⟩
  rw[Y1 (by simp),e];exact k
inductive HW(vs:List V)(H:Hp)(Q:VK)(E:XK):Prop|mk (ru:Str) (_:vs=[.str ru]) (_:(ru="first"\/ru="last"\/ru="refuse")) (_:Q .non H)
abbrev HV:Stmt:=top 34
theorem wA:Ng ["rule"] ["rule"] (J8 HV):=by walk_at"e"
theorem y8{f:J2}{fd:WX}(F:Nk K "check_rule" "check_rule" HV f fd)(TH:NJ P w K mg base "is_rule" 1 ["value"] [] L6):Ji P w K mg base JN 2 f fd ["rule"] HW:=by
 refine F.ok wA (fun vs H Q E h=>?_) (fun d A b s H vs Q E c h=>?_)
 .obtain⟨ru,rfl,_⟩:=h;rfl
 .obtain⟨ru,rfl,a,k⟩:=h;refine⟨_,(Jl (Np (MB (TU (Nr TH c.m rfl (Jj 0 Jc)))) B6 NG)),?_⟩;walk_at"rd";exact⟨ru,rfl,by rw[Yk a];exact⟨_,rfl,k⟩⟩
inductive Ay(CP:J2)(vs:List V)(H:Hp)(Q:VK)(E:XK):Prop|mk (l:J2) (ps:List (Addr×Addr)) (ds:List PD) (_:vs=[.ref l]) (_:H l=some (.lst (N8 ps))) (_:NY CP H ps ds) (_:ds.length <=1000) (_:∀G,J9 H G->Q (.bl true) G)
abbrev Af:Stmt:=top 35
theorem SL:Ng ["value"] ["value"] (J8 Af):=by walk_at"e"
theorem vD{f CP:J2}{fd:WX}(F:Nk K "are_pieces" "are_pieces" Af f fd)(B:Bt mg)(LP:Gg K CP)(gC_Piece:mg "Piece"=some (.ref CP))(ic_Piece:RM K CP):Ji P w K mg base JN 1 f fd ["value"] (Ay CP):=by
 refine F.ok SL (fun vs H Q E h=>?_) (fun cdv A o s H vs Q E hr h=>?_)
 .obtain⟨l,ps,ds,rfl,_⟩:=h;rfl
 .obtain⟨l,ps,ds,rfl,g,n,hn,k⟩:=h;have a:=LP.cl;refine⟨_,(Jl (JR (MZ (Nz (GC "list") B.isinstance (Jj 0 (JG (hs:=MJ) (GN (v:=.ty "list") rfl B.blist (by rfl) rfl) Jc))) (Dr (Nz (BY (K:=K) rfl rfl) B.all (JG (hs:=Eh) (DB (N':=["part"]) (caps:=[none]) (D6 (sc:=J8 Af) (N:=["value"]) rfl rfl (by decide +kernel)) rfl (MG (K:=K) rfl (Ja 0)) (fun _ _ _ _ _=>(Ml (i:=0) (MK (N:=["part"]) rfl (by decide +kernel)) rfl (Or.inl rfl))) (fun _ _ _ _ _=>Dt) (fun _ _ _ _ _=>(Nz (uJ (K:=K) rfl a ic_Piece) B.isinstance (Jj 0 (JG (hs:=MJ) (E3 (v:=.ref CP) rfl gC_Piece rfl) Jc))))) Jc)))))),?_⟩;walk_at"rd";refine⟨_,Bp g,?_⟩;have e1:E7 "list" "list"=true:=by decide
  rw[e1,Y3 rfl];refine⟨⟨_,Je.of g⟩,?_⟩;have hpl:=n.length;obtain⟨j,b⟩:∃j:Nat->List V->L2.St->Hp->Prop,j=fun i ys σ' H1=>H1=H/\ys=(List.replicate i true).map V.bl/\∃v,σ'=[v]:=⟨_,rfl⟩
  refine GT (xs:=N8 ps) j (by rw[b];exact⟨rfl,by simp,none,rfl⟩) ?_ (JT (by unfold N8;rw[Y4];lia)) ?_ ?_ <;> rw[b]
  .rintro i ys σ' H1 ⟨rfl,rfl,_⟩ _;refine⟨Je.of g,?_⟩;simp
  .rintro i y ys σ' H1 r ⟨rfl,rfl,v,rfl⟩;rw[<-b];obtain⟨c,u,rfl⟩:=C6 r;obtain⟨d,hd,z⟩:=n.get u;walk_at"rd";obtain⟨dx,fs,hi⟩:=z.ins;refine⟨dx,fs,hi,?_⟩;rw[b];exact⟨rfl,by rw[WG,Yw];rfl,_,rfl⟩
  .rintro ys σ' H1 ⟨rfl,rfl,_⟩ p G h0 q hG;walk_at"rd";refine⟨List.replicate (N8 ps).length true,Je.of hG,?_⟩;have e:(List.replicate (N8 ps).length true).all id=true:=by simp
   rw[e];exact k _ q
inductive HU(CP:J2)(vs:List V)(H:Hp)(Q:VK)(E:XK):Prop|mk (l:J2) (ps:List (Addr×Addr)) (ds:List PD) (ky:Int×Str×Str) (_:vs=[.ref l]) (_:H l=some (.lst (N8 ps))) (_:NY CP H ps ds) (_:1 <=ds.length) (_:ds.length <=1000) (_:(∀d∈ds,d.key=ky)) (_:∀G,J9 H G->Q (.bl true) G)
abbrev Cc:Stmt:=top 36
theorem SB:Ng ["pieces"] ["pieces"] (J8 Cc):=by walk_at"e"
theorem QS{f CP:J2}{fd:WX}(F:Nk K "of_one_key" "of_one_key" Cc f fd)(B:Bt mg)(JX:Mi P w K mg base CP "key" 1 ["self"] [] (Iq CP)):Ji P w K mg base JN 2 f fd ["pieces"] (HU CP):=by
 refine F.ok SB (fun vs H Q E h=>?_) (fun cdv A outer s H vs Q E hr h=>?_)
 .obtain⟨l,ps,ds,ky,rfl,_⟩:=h;rfl
 .obtain⟨l,ps,ds,ky,rfl,hl,n,h1,hn,o,k⟩:=h;refine⟨_,(Jl (JR (Nz (BY (K:=K) rfl rfl) B.all (JG (hs:=Eh) (DB (N':=["piece","pieces"]) (caps:=[none,some 0]) (D6 (sc:=J8 Cc) (N:=["pieces"]) rfl rfl (by decide +kernel)) rfl (MG (K:=K) rfl (Ja 0)) (fun _ _ _ _ _=>(Ml (i:=0) (MK (N:=["piece","pieces"]) rfl (by decide +kernel)) rfl (Or.inl rfl))) (fun _ _ _ _ _=>Dt) (fun _ _ _ _ _=>(Mo (Bz (K:=K) (Ju.units hr) rfl) (Gh (Ja 0) JX hr.m) (Gh (DK K (Ja 1) Jp) JX hr.m) (Mp _)))) Jc)))),?_⟩;walk_at"rd";refine⟨⟨_,Je.of hl⟩,?_⟩;have hpl:=n.length;obtain⟨Pv,b⟩:∃Pv:Nat->List V->L2.St->Hp->Prop,Pv=fun i ys σ' H1=>J9 H H1/\ys=(List.replicate i true).map V.bl/\∃v,σ'=[v,some (.ref l)]:=⟨_,rfl⟩
  refine GT (xs:=N8 ps) Pv (by rw[b];exact⟨J9.refl _,by simp,none,rfl⟩) ?_ (JT (by unfold N8;rw[Y4];lia)) ?_ ?_ <;> rw[b]
  .rintro i ys σ' H1 ⟨s,rfl,_⟩ _;refine⟨Je.of (s l _ hl),?_⟩;simp
  .rintro i y ys σ' H1 hy ⟨s,rfl,v,rfl⟩;rw[<-b];obtain⟨c,hc,rfl⟩:=C6 hy;obtain⟨d,hd,hO⟩:=n.get hc;have u:=hO.mono s;obtain⟨c0,g⟩:∃c0,ps[0]?=some c0:=⟨ps[0],Y5 (by have:=n.len;lia)⟩;obtain⟨d0,hd0,j⟩:=n.get g;walk_at"rd";refine⟨Kc u,_,_,d,rfl,u,fun t1 G1 ht1 z hG1=>?_⟩;have hat:Dj (N8 ps) 0=some (.ref c0.1):=by
    unfold N8;cases ps with
    |nil=>cases g
    |cons x r=>cases g;exact Sk
   have q:=(j.mono s).mono z;refine⟨_,Je.of (z l _ (s l _ hl)),_,hat,Kc q,_,_,d0,rfl,q,fun t2 G2 ht2 s2 hG2=>?_⟩;refine⟨_,_,Be (s2 t1 _ hG1),Be hG2,Cd _ hO.ok.k1 hO.ok.k2,Cd _ j.ok.k1 j.ok.k2,?_⟩;have a:=o d (YB hd);have hk2:=o d0 (YB hd0);rw[<-hk2]at a;unfold PD.key at a;simp only[Prod.mk.injEq]at a;rw[OM,Yk a,b];exact⟨s.trans (z.trans s2),by rw[WG,Yw];rfl,_,rfl⟩
  .rintro ys σ' H1 ⟨s,rfl,_⟩ p G h0 sG hG;walk_at"rd";refine⟨List.replicate (N8 ps).length true,Je.of hG,?_⟩;have e:(List.replicate (N8 ps).length true).all id=true:=by simp
   rw[e];exact k _ (s.trans sG)
def Ms:RS:=⟨[],[],none,0⟩
abbrev Kd:Stmt:=top 37
theorem Av:Ng ["pieces","rule","reading","piece","answer"] ["pieces","rule"] (J8 Kd):=by walk_at"e"
end
theorem Oy(la:Bool):∀ (bs:J3) (st:List (Int×Int)) (n k:Int),(JL (Mq la st n bs) k).isSome=true↔(JL st k).isSome=true\/(n <=k/\k < n+ bs.length)
 |[],st,n,k=>by
  show(JL st k).isSome=true↔_;exact⟨.inl,fun h=>h.elim id fun z=>by simp at z;lia⟩
 |b::bs,st,n,k=>by
  show(JL (Mq la _ (n+ 1) bs) k).isSome=true↔_;rw[Oy la bs,List.length_cons];have e1:(n+ 1 <=k/\k < n+ 1+ (bs.length:Int))\/k=n↔(n <=k/\k < n+ ((bs.length+ 1:Nat):Int)):=by lia
  rw[<-e1]
  split <;> rename_i hc
  .rw[yQ]
   by_cases e:k=n
   .rw[Y3 e];exact⟨fun _=>.inr (.inr e),fun _=>.inl rfl⟩
   .rw[Y1 e];exact⟨fun h=>h.imp id .inl,fun h=>h.imp id fun z=>z.elim id fun z=>absurd z e⟩
  .constructor
   .exact fun h=>h.imp id .inl
   .rintro(h|h|h)
    .exact .inl h
    .exact .inr h
    .left
     rw[h];rcases Bool.eq_false_or_eq_true (JL st n).isSome with z|z
     .exact z
     .exact absurd (.inr z) hc
inductive Ki where
 |whole (rs:RS)
 |unl (n:Int)
 |lack (rs:RS)
def Nf(ru:Str):RS->List PD->Ki
 |rs,[]=>.lack rs
 |rs,d::ds=>if strange rs d=true then(if ru="refuse" then .unl d.at' else Nf ru rs ds) else
   match (if ru="refuse" then Na rs.st d.at' d.ns else none) with
   |some n=>.unl n
   |none=>if T9 (JF (decide (ru="last")) rs d).en 0 (JF (decide (ru="last")) rs d).cv=[] then .whole (JF (decide (ru="last")) rs d) else Nf ru (JF (decide (ru="last")) rs d) ds
def NT(rs:RS):List Int:=(List.range (rs.en.getD 0).toNat).map fun i:Nat=>(JL rs.st (i:Int)).getD 0
structure NZ(rs:RS):Prop where
 cov:Md rs.cv
 dom:∀n,Nu rs.cv n↔(JL rs.st n).isSome=true
 low:∀n,Nu rs.cv n->0 <=n
 en:∀e,rs.en=some e->0 <=e/\e <=4000
 top:∀n,Nu rs.cv n->n < 4000
theorem NZ.zero:NZ Ms where
 cov:=trivial
 dom:=fun n=>⟨fun h=>absurd h (Mw n),fun h=>by cases h⟩
 low:=fun n h=>absurd h (Mw n)
 en:=fun e h=>by cases h
 top:=fun n h=>absurd h (Mw n)
theorem PD.Ok.end'{d:PD}(h:d.Ok):0 <=d.at'/\d.at'+ d.ns.length <=4000/\1 <=d.ns.length:=by
 have h1:=h.a0;have h2:=h.rm;unfold Ry at h2;refine⟨h1,?_,h.l1⟩
 split at h2
 .simp only[X8,Yg]at h2;lia
 .simp only[Yg]at h2;lia
theorem NZ.step{rs:RS}{d:PD}(la:Bool)(h:NZ rs)(hd:d.Ok):NZ (JF la rs d):=by
 obtain⟨h1,h2,g⟩:=hd.end';have b:=Z7 (c:=rs.cv) (lo:=d.at') (hi:=d.at'+ d.ns.length) h.cov (by lia);refine⟨b.1,fun n=>?_,fun n f=>?_,fun e a=>?_,fun n f=>?_⟩
 .show Nu (Nl rs.cv d.at' (d.at'+ d.ns.length)) n↔(JL (Mq la rs.st d.at' d.ns) n).isSome=true;rw[b.2,Oy,h.dom]
 .rcases(b.2 n).mp f with z|z
  .exact h.low n z
  .lia
 .have a:(if d.mo=true then rs.en else some (d.at'+ d.ns.length))=some e:=a
  split at a
  .exact h.en e a
  .have:=Yr a;lia
 .rcases(b.2 n).mp f with z|z
  .exact h.top n z
  .lia
theorem L8{c:List (Int×Int)}(hc:Md c){p:Int×Int}(hp:p∈c):p.1 < p.2:=by
 induction c with
 |nil=>exact nomatch hp
 |cons q r ih=>
  obtain⟨h1,h2,a⟩:=hc;rcases Yp.mp hp with rfl|hp
  .exact h1
  .exact ih a hp
theorem NZ.body{rs:RS}(h:NZ rs)(hl:T9 rs.en 0 rs.cv=[]):∃e:Nat,rs.en=some (e:Int)/\e <=4000/\(NT rs).length=e/\∀i:Nat,∀x,(NT rs)[i]?=some x->JL rs.st i=some x:=by
 cases he:rs.en with
 |none=>rw[he,HS h.cov]at hl;exact absurd hl (by simp)
 |some e0=>
  obtain⟨a,b⟩:=h.en e0 he;obtain⟨e,rfl⟩:∃e:Nat,e0=e:=⟨e0.toNat,by lia⟩;rw[he,IT]at hl;have q:T5 e 0 rs.cv=[]:=List.map_eq_nil_iff.mp hl;have g:∀p∈rs.cv,0 <=p.1:=fun p o=>h.low p.1 ⟨p,o,Xy _,L8 h.cov o⟩
  have j:∀n:Int,0 <=n->n < e->Nu rs.cv n:=fun n r h1=>by
   have:=(KG (e:=(e:Int)) h.cov g).2.2 n;rw[q]at this;exact W4 fun z=>Mw n (this.mpr ⟨r,h1,z⟩)
  have c:(NT rs).length=e:=by
   unfold NT;rw[he,Y4,YO];simp
  refine⟨e,rfl,by lia,c,fun i x d=>?_⟩;have hi:i < e:=by rw[<-c];exact(Y6.mp d).1
  have hd:=(h.dom i).mp (j i (by lia) (by lia));obtain⟨y,l⟩:=UV.mp hd;unfold NT at d;rw[Yf,WH (by rw[he];simpa using hi)]at d;have f:(JL rs.st (i:Int)).getD 0=x:=Yr d;rw[l]at f;rw[l,<-f];rfl
section
variable{P:WV}{w:WZ}{K:J0}{mg:WQ}{base:J6}
def FQ(CP CW CU CK:J2):Sp:=fun vs H Q _=>∃ (l:J2) (ru:Str) (ps:List (Addr×Addr)) (ds:List PD) (ky:Int×Str×Str),vs=[.ref l,.str ru]/\(ru="first"\/ru="last"\/ru="refuse")/\H l=some (.lst (N8 ps))/\NY CP H ps ds/\1 <=ds.length/\ds.length <=700/\(ds.map fun d=>d.ns.length).sum <=20000/\(∀d∈ds,d.key=ky)/\
 match Nf ru Ms ds with
 | .whole rs=>∀m b G,H b=none->J9 H G->TN CW "body" G m b ((NT rs).map V.int)->Q (.ref m) G
 | .unl n=>∀m G,J9 H G->D9 CU "at" G m (.int n)->Q (.ref m) G
 | .lack rs=>∀m b xs G,H b=none->J9 H G->TN CK "spans" G m b xs->Nm G xs (T9 rs.en 0 rs.cv)->Q (.ref m) G
theorem vG{f C CP CW CU CK:J2}{fd:WX}(F:Nk K "judged" "judged" Kd f fd)(JZ:NJ P w K mg base "check_rule" 2 ["rule"] [] HW)(N4:NJ P w K mg base "are_pieces" 1 ["value"] [] (Ay CP))(NV:NJ P w K mg base "of_one_key" 2 ["pieces"] [] (HU CP))
  (DI:Gr P w K mg base "Reading" 1 (Ou C)) (JO:Mi P w K mg base C "answer_to" 3 ["self","piece"] [] (Hl C CP CW CU)) (JA:Mi P w K mg base C "missing" 2 ["self"] [] (A9 C)) (DL:Gr P w K mg base "Lacking" 1 (Cu CK "spans")):Ji P w K mg base JN 4 f fd ["pieces","rule"] (FQ CP CW CU CK):=by
 refine F.ok Av (fun vs H Q E h=>?_) (fun cdv A outer s H vs Q E g h=>?_)
 .obtain⟨l,ru,ps,ds,ky,rfl,_⟩:=h;rfl
 .obtain⟨l,ru,ps,ds,ky,rfl,hru,hl,hp,h1,hn,hsum,hky,u⟩:=h;refine⟨_,(Jn (MW (Nr JZ g.m rfl (Jj 1 Jc))) (Jn (Np (PW.pt (R9 (MB (TU (Nr N4 g.m rfl (Jj 0 Jc)))) (R9 (NC (FG (K9 (K:=K) (Ju.units g) rfl)) (Ja 0) (Mt Jc)) (RH (MB (TU (Nr NV g.m rfl (Jj 0 Jc)))))))) B6 NG) (Jn (NH 2 Av (Ey DI g.m rfl (Jj 1 Jc))) (Jn (DZ YW rfl (MG (K:=K) rfl (Ja 0)) (Tv 3 Av) (Jn (NH 4 Av (A1 (Ja 2) JO g.m (Jj 3 Jc))) (Jl (Np (NC Eu (Ja 4) My) (Jl (JR (Ja 4))) NG)))) (Jl (JR (Ey DL g.m rfl (Mm (Gh (Ja 2) JA g.m) Jc)))))))),?_⟩;walk_at"rd";refine⟨ru,rfl,hru,?_⟩;refine⟨l,ps,ds,rfl,hl,hp,by lia,fun G1 s1=>⟨_,rfl,?_⟩⟩;rw[Y1 (by simp)];have hpl:=hp.len;refine⟨JT (by simp),fun z q hz s2 hz2=>⟨N8 ps,Je.of (s2 l _ (s1 l _ hl)),Je.of hz2,?_⟩⟩;rw[Y1 (by rw[Ew];simp only[Yg];lia)];have s12:=s1.trans s2;refine⟨l,ps,ds,ky,rfl,s12 l _ hl,hp.mono s12,h1,by lia,hky,fun G3 s3=>⟨_,rfl,?_⟩⟩;rw[Y1 (by simp)];have s13:=s12.trans s3;refine⟨ru,rfl,fun p a l0 G4 hp4 ha4 _ s4 hR4=>⟨⟨_,Je.of (s4 l _ (s13 l _ hl))⟩,?_⟩⟩;have s14:=s13.trans s4;have hpH:H p=none:=s13.free hp4;have haH:H a=none:=s13.free ha4;obtain⟨Pv,v⟩:∃Pv:Nat->L2.St->Hp->Prop,Pv=fun i σ' G=>∃ (l':J2) (v3 v4:Option V) (rs:RS),σ'=[some (.ref l),some (.str ru),some (.ref p),v3,v4]/\J9 H G/\NL C G p a l' ru rs/\NZ rs/\
   Nf ru Ms ds=Nf ru rs (ds.drop i)/\rs.st.length+ ((ds.drop i).map fun d=>d.ns.length).sum <=20000/\rs.cv.length <=i:=⟨_,rfl⟩
  refine RI (xs:=N8 ps) Pv (by rw[v];exact⟨l0,_,_,Ms,rfl,s14,hR4,NZ.zero,rfl,by simpa[Ms] using hsum,Y7 _⟩) ?_ ?_ ?_ <;> rw[v]
  .rintro i σ' G _ ⟨_,_,_,_,_,s,_⟩;exact Je.of (s l _ hl)
  .rintro i x σ' G hx ⟨l',v3,v4,rs,rfl,s,hR,hI,b,hst,hcv⟩;rw[<-v];obtain⟨c,hc,rfl⟩:=C6 hx;obtain⟨d,hd,hO⟩:=hp.get hc;have hO1:=hO.mono s;have hlt:i < ds.length:=(Y6.mp hd).1;have hdr:ds.drop i=d::ds.drop (i+ 1):=by
    rw[Yz hlt];rw[Y5 hlt]at hd;rw[Yr hd]
   rw [hdr] at b hst;rw [List.map_cons, UN] at hst;have hrun' : Nf ru rs (d :: ds.drop (i + 1)) = (if strange rs d = true then (if ru = "refuse" then .unl d.at' else Nf ru rs (ds.drop (i + 1))) else
    match (if ru="refuse" then Na rs.st d.at' d.ns else none) with
    |some n=>.unl n
    | none => if T9 (JF (decide (ru = "last")) rs d).en 0 (JF (decide (ru = "last")) rs d).cv = [] then .whole (JF (decide (ru = "last")) rs d) else Nf ru (JF (decide (ru = "last")) rs d) (ds.drop (i + 1))) := rfl
   rw[hrun']at b;have hsame:∀{q},Nn p a G q->J9 H q:=fun kp c o e=>kp c o (s c o e) (Tg e hpH) (Tg e haH)
   walk_at"rd";refine⟨jU hR,p,a,l',c.1,c.2,ru,rs,d,rfl,hR,hO1,by lia,by lia,fun hs=>⟨fun g m q s2 hA=>?_,fun g=>?_⟩,fun hs=>⟨fun n h2 h3 m q s2 hA=>?_,fun hu j ers=>?_⟩⟩
   .rw[Y3 hs,Y3 g]at b;rw[b]at u;walk_at"rd";exact u m q (s.trans s2) hA
   .rw[Y3 hs,Y1 g]at b;walk_at"rd";rw[v];exact⟨l',_,_,rs,rfl,s,hR,hI,b,by lia,by lia⟩
   .rw[Y1 (by rw[hs];simp),Y3 h2,h3]at b;rw[b]at u;walk_at"rd";exact u m q (s.trans s2) hA
   .have hnone:(if ru="refuse" then Na rs.st d.at' d.ns else none)=none:=by
     split
     .rename_i h;exact hu h
     .rfl
    rw[Y1 (by rw[hs];simp),hnone]at b;have hI':NZ j:=by rw[ers];exact hI.step _ hO.ok
    have hlen2:j.st.length <=rs.st.length+ d.ns.length:=by rw[ers];exact Es _ _ _ _
    have hcv2:j.cv.length <=i+ 1:=by
     rw[ers];have:=P3 rs.cv d.at' (d.at'+ d.ns.length);show(Nl rs.cv d.at' (d.at'+ d.ns.length)).length <=i+ 1
     lia
    rw[<-ers]at b;refine⟨fun hne l2 q _ kp hR2=>?_,fun heq=>?_⟩
    .have r:Nf ru Ms ds=Nf ru j (ds.drop (i+ 1)):=b.trans (Y1 hne);walk_at"rd";rw[v];exact⟨l2,_,_,j,rfl,hsame kp,hR2,hI',r,by lia,hcv2⟩
    .have r:Nf ru Ms ds= .whole j:=b.trans (Y3 heq);rw[r]at u;obtain⟨e,b1,b2,b3,b4⟩:=hI'.body heq;refine⟨e,NT j,b1,b2,b3,b4,fun m b' _ q hb0 _ kp _ hA=>?_⟩;walk_at"rd";exact u m b' q (s.free hb0) (hsame kp) hA
  .rintro σ' G ⟨l',v3,v4,rs,rfl,s,hR,hI,b,hst,hcv⟩;rw[Ew,XT (by lia)]at b;rw[Ew]at hcv;walk_at"rd";refine⟨Oo hR,p,a,l',ru,rs,rfl,hR,by lia,fun m G5 s5 hm hC=>?_⟩;obtain⟨xs,hx,hxc⟩:=hC;refine⟨m,xs,rfl,hx,fun w' b' G6 hw hb' s6 hA=>?_⟩;have e:Nf ru Ms ds= .lack rs:=b;rw[e]at u;exact u w' b' xs G6 ((s.trans s5).free hb') (s.trans (s5.trans s6)) hA (hxc.tk (Gf s6))
end
def oD:Option Int->PyData
 |none=>.none
 |some n=>.int n
def MO(p:Int×Option Int):PyData:=.tuple [.int p.1,oD p.2]
section
variable{P:WV}{w:WZ}{K:J0}{mg:WQ}{base:J6}{H G:Hp}
theorem w4{xs:List V}{c:List (Int×Option Int)}(h:Nm H xs c):T4 K H xs (c.map MO):=by
 induction h with
 |nil=>exact .nil
 |@cons x p l1 l2 r _ ih=>
  obtain⟨t,rfl,e⟩:=r;refine .cons (.tup (JV.of e) (.cons (.int _) (.cons ?_ .nil))) ih;cases p.2 with
  |none=>exact .non
  |some n=>exact .int n
theorem LH{l:J2}{c:List (Int×Option Int)}(h:JS H l c):Dp K H (.ref l) (.list (c.map MO)):=by
 obtain⟨xs,e,k⟩:=h;exact .lst (Je.of e) (w4 k)
theorem P6(c:List (Int×Option Int)):SeqAt.shaped (.list (c.map MO))=true:=by
 have h1:∀c:List (Int×Option Int),PyData.canLayAll0 (c.map MO)=true:=fun c=>by
  induction c with
  |nil=>rfl
  |cons p r ih=>
   obtain⟨a,b⟩:=p;cases b <;> simp[PyData.canLayAll0,PyData.canLay0,MO,oD,ih]
 have h2:∀c:List (Int×Option Int),PyData.depthAll (c.map MO) <=6:=fun c=>by
  induction c with
  |nil=>simp[PyData.depthAll]
  |cons p r ih=>
   obtain⟨a,b⟩:=p;cases b <;> (simp[PyData.depthAll,PyData.depth,MO,oD];lia)
 have d:=h2 c;simp[SeqAt.shaped,PyData.canLay0,h1 c,PyData.depth];lia
theorem yA(p q:Int×Option Int):PyData.eqv (MO p) (MO q)=decide (p=q):=by
 obtain⟨a,b⟩:=p;obtain⟨d,c⟩:=q;rw[YU];cases b <;> cases c <;> simp[MO,oD,PyData.eqv,PyData.eqvAll]
theorem tR:∀c d:List (Int×Option Int),PyData.eqv (.list (c.map MO)) (.list (d.map MO))=decide (c=d):=by
 have h:∀c d:List (Int×Option Int),PyData.eqvAll (c.map MO) (d.map MO)=decide (c=d):=by
  intro c
  induction c with
  |nil=>intro d;cases d <;> simp[PyData.eqvAll]
  |cons p r ih=>
   intro d;cases d with
   |nil=>simp[PyData.eqvAll]
   |cons q t=>
    show(PyData.eqv (MO p) (MO q) && PyData.eqvAll (r.map MO) (t.map MO))=_;rw[yA,ih,YU];simp
 exact h
end
def DA{α:Type}(k:Int×Str×Str)(ps:List α)(ds:List PD):List α:=((ps.zip ds).filter fun x=>decide (x.2.key=k)).map (·.1)
def GW(k:Int×Str×Str)(ds:List PD):List PD:=ds.filter fun d=>decide (d.key=k)
theorem Ib{α:Type}(k:Int×Str×Str){ps:List α}{ds:List PD}(p:α)(d:PD)(h:ps.length=ds.length):DA k (ps++[p]) (ds++[d])=DA k ps ds++if d.key=k then [p] else []:=by
 unfold DA;rw[List.zip_append h,List.filter_append,Yw]
 congr 1
 by_cases e:d.key=k
 .rw[Y3 e];simp[e]
 .rw[Y1 e];simp[e]
theorem P5{α:Type}{k:Int×Str×Str}:∀{ps:List α} {ds:List PD},(∀d∈ds,d.key≠k)->DA k ps ds=[]
 |[],ds,_=>rfl
 |p::ps,[],_=>rfl
 |p::ps,d::ds,h=>by
  have ih:=P5 (ps:=ps) (ds:=ds) fun e a=>h e (.tail _ a)
  unfold DA at ih ⊢;rw[Xv,Uj (by simpa using h d (.head _))];exact ih
theorem LC{α:Type}{R:α->PD->Prop}{ps:List α}{ds:List PD}(k:Int×Str×Str)(h:Paired R ps ds):Paired R (DA k ps ds) (GW k ds):=by
 induction h with
 |nil=>exact .nil
 |@cons p d ps ds r _ ih=>
  unfold DA GW at ih ⊢;rw[Xv]
  by_cases e:d.key=k
  .rw[V7 (by simpa using e),V7 (by simpa using e)];exact .cons r ih
  .rw[Uj (by simpa using e),Uj (by simpa using e)];exact ih
def R6(kas:List (Ky×Addr)):List (List Jv×V):=kas.map fun x=>(NE x.1,V.ref x.2)
theorem F5:∀ (kas:List (Ky×Addr)) (k:Ky),JD (R6 kas) (NE k)=(kas.find? fun x=>decide (x.1=k)).map fun x=>V.ref x.2
 |[],k=>rfl
 |x::kas,k=>by
  have ih:=F5 kas k;unfold R6 at ih ⊢;rw[List.map_cons]
  by_cases e:x.1=k
  .rw[Gs (by rw[e]),Ws (by simpa using e)];rfl
  .rw[Gu (fun z=>e (Cp z)),Wt (by simpa using e)];exact ih
theorem K4{α β:Type}{f:α->β}:∀{l:List α},(l.map f).Nodup->∀{x y},x∈l->y∈l->f x=f y->x=y
 |a::l,h,x,y,hx,hy,e=>by
  rw[List.map_cons,Xt]at h;rcases Yp.mp hx with ex|hx' <;> rcases Yp.mp hy with ey|hy'
  .rw[ex,ey]
  .exact absurd (YD.mpr ⟨_,hy',by rw[<-e,ex]⟩) h.1
  .exact absurd (YD.mpr ⟨_,hx',by rw[e,ey]⟩) h.1
  .exact K4 h.2 hx' hy' e
structure BK(H G:Hp)(m:J2)(ps:List (Addr×Addr))(ds:List PD)(kas:List (Ky×Addr)):Prop where
 dt:G m=some (.dT (R6 kas))
 nk:(kas.map (·.1)).Nodup
 na:(kas.map (·.2)).Nodup
 ls:∀x∈kas,H x.2=none/\G x.2=some (.lst (N8 (DA x.1 ps ds)))
 ky:∀k,k∈kas.map (·.1)↔∃d∈ds,d.key=k
theorem BK.get{H G:Hp}{m:J2}{ps:List (Addr×Addr)}{ds:List PD}{kas:List (Ky×Addr)}(B:BK H G m ps ds kas){k:Ky}{v:V}(h:JD (R6 kas) (NE k)=some v):∃a,v= .ref a/\(k,a)∈kas:=by
 rw[F5]at h;obtain⟨x,b,rfl⟩:=YE.mp h;have h1:=W5 b;have h2:=List.find?_some b;rw[Yg]at h2;exact⟨x.2,rfl,by rw[<-h2];exact h1⟩
theorem BK.mem{H G:Hp}{m:J2}{ps:List (Addr×Addr)}{ds:List PD}{kas:List (Ky×Addr)}(B:BK H G m ps ds kas){k:Ky}{a:J2}(h:(k,a)∈kas):JD (R6 kas) (NE k)=some (.ref a):=by
 rw[F5];have b:=B.nk;clear B
 induction kas with
 |nil=>exact nomatch h
 |cons x r ih=>
  rw[List.map_cons,Xt]at b;rcases Yp.mp h with e|h
  .rw[<-e,Ws (by simp)];rfl
  .rw[Wt (by rw[Yg];exact fun z=>b.1 (YD.mpr ⟨_,h,z.symm⟩))];exact ih h b.2
theorem BK.no{H G:Hp}{m:J2}{ps:List (Addr×Addr)}{ds:List PD}{kas:List (Ky×Addr)}(B:BK H G m ps ds kas){k:Ky}(h:JD (R6 kas) (NE k)=none):k∉kas.map (·.1):=fun c=>by
 obtain⟨x,b,rfl⟩:=YD.mp c;rw[B.mem (a:=x.2) b]at h;cases h
theorem BK.old{H G G':Hp}{m a:J2}{ps:List (Addr×Addr)}{ds:List PD}{kas:List (Ky×Addr)}(B:BK H G m ps ds kas){p:Addr×Addr}{d:PD}(hl:ps.length=ds.length)(ha:(d.key,a)∈kas)(b:Nd a G G')(e:G' a=some (.lst (N8 (DA d.key ps ds)++[.ref p.1]))):BK H G' m (ps++[p]) (ds++[d]) kas:=by
 refine⟨b _ _ B.dt (fun z=>?_),B.nk,B.na,fun x c=>⟨(B.ls x c).1,?_⟩,fun k=>?_⟩
 .have:=(B.ls _ ha).2;rw[<-z,B.dt]at this;cases this
 .rw[Ib _ _ _ hl]
  by_cases ex:x.2=a
  .have:x.1=d.key:=by
    have f:=B.na;have:=K4 f c ha ex;rw[this]
   rw[this,Y3 rfl,ex,e,KD];rfl
  .rw[Y1 (fun z=>ex ?_),List.append_nil]
   .exact b _ _ (B.ls x c).2 ex
   .have:=K4 B.nk c ha z.symm;rw[this]
 .rw[B.ky];constructor
  .rintro⟨e,he,h⟩;exact⟨e,Ye.mpr (.inl he),h⟩
  .rintro⟨e,he,h⟩;rcases Ye.mp he with he|he
   .exact⟨e,he,h⟩
   .rw[Y9.mp he]at h;rw[<-B.ky,<-h];exact YD.mpr ⟨_,ha,rfl⟩
theorem BK.mono{H G G':Hp}{m:J2}{ps:List (Addr×Addr)}{ds:List PD}{kas:List (Ky×Addr)}(s:J9 G G')(B:BK H G m ps ds kas):BK H G' m ps ds kas:=⟨s _ _ B.dt,B.nk,B.na,fun x a=>⟨(B.ls x a).1,s _ _ (B.ls x a).2⟩,B.ky⟩
theorem BK.new{H G G':Hp}{m a:J2}{ps:List (Addr×Addr)}{ds:List PD}{kas:List (Ky×Addr)}(B:BK H G m ps ds kas){p:Addr×Addr}{d:PD}(hl:ps.length=ds.length)(hk:d.key∉kas.map (·.1))(hf:H a=none)(hg:G a=none)(kp:∀c o,G c=some o->c≠m->G' c=some o)(e1:G' m=some (.dT (R6 kas++[(NE d.key,.ref a)])))(e2:G' a=some (.lst [.ref p.1])):BK H G' m (ps++[p]) (ds++[d]) (kas++[(d.key,a)]):=by
 have l:∀x∈kas,x.2≠a:=fun x b z=>by
  have:=(B.ls x b).2;rw[z,hg]at this;cases this
 refine⟨by rw[e1];unfold R6;rw[Yw];rfl,?_,?_,fun x b=>?_,fun k=>?_⟩
 .rw[Yw];refine U3.mpr ⟨B.nk,by simp,fun x b y g z=>hk ?_⟩;have i:y=d.key:=Y9.mp g;rw[<-i,<-z];exact b
 .rw[Yw];refine U3.mpr ⟨B.na,by simp,fun x b y g z=>?_⟩;obtain⟨n,j,rfl⟩:=YD.mp b;exact l n j (z.trans (Y9.mp g))
 .rw[Ib _ _ _ hl];rcases Ye.mp b with b|b
  .rw[Y1 (fun z=>hk (by rw[z];exact YD.mpr ⟨_,b,rfl⟩)),List.append_nil];refine⟨(B.ls x b).1,kp _ _ (B.ls x b).2 fun z=>?_⟩;have:=(B.ls x b).2;rw[z,B.dt]at this;cases this
  .rw[Y9.mp b];refine⟨hf,?_⟩;rw[Y3 rfl,P5 (fun e f z=>hk ((B.ky _).mpr ⟨e,f,z⟩))];exact e2
 .rw[Yw,Ye,B.ky];constructor
  .rintro(⟨e,f,h⟩|h)
   .exact⟨e,Ye.mpr (.inl f),h⟩
   .exact⟨d,Ye.mpr (.inr (.head _)),(Y9.mp h).symm⟩
  .rintro⟨e,f,h⟩;rcases Ye.mp f with f|f
   .exact .inl ⟨e,f,h⟩
   .rw[Y9.mp f]at h;exact .inr (by rw[<-h];exact .head _)
section
variable{P:WV}{w:WZ}{K:J0}{mg:WQ}{base:J6}
inductive Ir(CP:J2)(vs:List V)(H:Hp)(Q:VK)(E:XK):Prop|mk (l:J2) (ps:List (Addr×Addr)) (ds:List PD) (_:vs=[.ref l]) (_:H l=some (.lst (N8 ps))) (_:NY CP H ps ds) (_:ps.length <=700) (_:∀m kas G,H m=none->J9 H G->BK H G m ps ds kas->Q (.ref m) G)
abbrev Ic:Stmt:=top 38
theorem Fh:Ng ["pieces","told","piece"] ["pieces"] (J8 Ic):=by walk_at"e"
theorem Sr{f CP:J2}{fd:WX}(F:Nk K "by_key" "by_key" Ic f fd)(JX:Mi P w K mg base CP "key" 1 ["self"] [] (Iq CP)):Ji P w K mg base JN 2 f fd ["pieces"] (Ir CP):=by
 refine F.ok Fh (fun vs H Q E h=>?_) (fun cdv A outer s H vs Q E hr h=>?_)
 .obtain⟨l,ps,ds,rfl,_⟩:=h;rfl
 .obtain⟨l,ps,ds,rfl,hl,hp,hn,q⟩:=h;refine⟨_,(Jn (NH 1 Fh xL) (Jn (DZ YW rfl (MG (K:=K) rfl (Ja 0)) (Tv 2 Fh) (Jl (MW (DG (K:=K) rfl YF YL YM (Gz Gw) (DG (K:=K) rfl Wj VM PySem.F.type_dict_setdefault (xJ (Ra hr)) (Ja 1) (Mm (Gh (Ja 2) JX hr.m) (JG (hs:=OU) (Mt Jc) Jc))) (Jj 2 Jc))))) (Jl (JR (Ja 1))))),?_⟩;walk_at"rd";intro m G0 hm s0 hG0;have hpl:=hp.len;refine⟨⟨_,Je.of (s0 _ _ hl)⟩,?_⟩;obtain⟨Pv,j⟩:∃Pv:Nat->L2.St->Hp->Prop,Pv=fun i σ' G=>∃ (v:Option V) (b:List (Ky×Addr)),σ'=[some (.ref l),some (.ref m),v]/\J9 H G/\BK H G m (ps.take i) (ds.take i) b/\b.length <=i:=⟨_,rfl⟩
  refine RI (xs:=N8 ps) Pv (by rw[j];exact⟨none,[],rfl,s0,⟨hG0,Ww,Ww,(fun _ h=>nomatch h),fun k=>⟨(fun h=>nomatch h),fun⟨_,h,_⟩=>nomatch h⟩⟩,Y7 _⟩) ?_ ?_ ?_ <;> rw[j]
  .rintro i σ' G _ ⟨v,b,_,s,_⟩;exact Je.of (s l _ hl)
  .rintro i x σ' G hx ⟨v,b,rfl,s,B,hkl⟩;rw[<-j];obtain⟨c,hc,rfl⟩:=C6 hx;obtain⟨d,hd,hO⟩:=hp.get hc;have hO1:=hO.mono s;have hlt:i < ds.length:=(Y6.mp hd).1;have ep:ps.take (i+ 1)=ps.take i++[c]:=by rw[YZ,hc];rfl
   have ed:ds.take (i+ 1)=ds.take i++[d]:=by rw[YZ,hd];rfl
   have htl:(ps.take i).length=(ds.take i).length:=by rw[Ym,Ym,hpl]
   have hLen : ∀ k, (N8 (DA k (ps.take i) (ds.take i))).length < sizeLine := fun k => Dq (by
    have h1 := Vr (fun x : (Addr × Addr) × PD => decide (x.2.key = k)) ((ps.take i).zip (ds.take i));rw [List.length_zip, Ym, Ym] at h1;rw [Ew]; unfold DA; rw [Y4]; omega)
   walk_at"rd";refine⟨.inr (.inr (.inl ⟨rfl,.inr ⟨_,B.dt⟩⟩)),Kc hO1,c.1,c.2,d,rfl,hO1,fun t G1 ht r et=>⟨JT (by simp),fun z G2 hz p ez=>⟨t,rfl,NE d.key,_,(B.mono (r.trans p)).dt,p _ _ et,Dq (by unfold R6;rw[Y4];omega),fun v hv=>?_,fun hv G3 b3 e3=>?_⟩⟩⟩
   .have B2:=B.mono (r.trans p);obtain⟨a,rfl,ha⟩:=B2.get hv;refine⟨.inl ⟨rfl,_,Je.of (B2.ls _ ha).2⟩,a,rfl,_,(B2.ls _ ha).2,hLen _,fun G4 u e4=>?_⟩;rw[j];exact⟨_,b,rfl,(s.trans (r.trans p)).butNew u (B.ls _ ha).1,by rw[ep,ed];exact B2.old htl ha u e4,by omega⟩
   .have B2:=B.mono (r.trans p);have g:G z=none:=r.free hz;have hzm:z≠m:=fun e=>by rw[e,B.dt]at g;cases g
    refine⟨.inl ⟨rfl,_,Je.of (b3 _ _ ez hzm)⟩,[],b3 _ _ ez hzm,Dq (by simp),fun G4 u e4=>?_⟩;rw[j];have hzH:H z=none:=s.free g;have kp:∀c o,G c=some o->c≠m->G4 c=some o:=fun c' o h n=>u _ _ (b3 _ _ ((r.trans p) _ _ h) n) (fun e=>by rw[e,g]at h;cases h)
    exact⟨_,b++[(d.key,z)],rfl,((s.trans (r.trans p)).butNew b3 hm).butNew u hzH,by rw[ep,ed];exact B.new htl (B2.no hv) hzH g kp (u _ _ e3 hzm.symm) e4,by rw[List.length_append];exact Nat.succ_le_succ hkl⟩
  .rintro σ' G ⟨v,b,rfl,s,B,_⟩;rw[Ew,Xp,hpl,Xp]at B;walk_at"rd";exact q m b G hm s B
end
def GA(CW CU CK:J2)(G:Hp)(v:V):Ki->Prop
 | .whole rs=>∃m b,v= .ref m/\TN CW "body" G m b ((NT rs).map V.int)
 | .unl n=>∃m,v= .ref m/\D9 CU "at" G m (.int n)
 | .lack rs=>∃m b xs,v= .ref m/\TN CK "spans" G m b xs/\Nm G xs (T9 rs.en 0 rs.cv)
theorem GA.mono{CW CU CK:J2}{H G:Hp}{v:V}{o:Ki}(s:J9 H G)(h:GA CW CU CK H v o):GA CW CU CK G v o:=by
 have d:∀{C m b f xs},TN C f H m b xs->TN C f G m b xs:=fun⟨dx,fs,a,b',c⟩=>⟨dx,fs,s _ _ a,b',s _ _ c⟩
 cases o with
 |whole rs=>obtain⟨m,b,e,h⟩:=h;exact⟨m,b,e,d h⟩
 |unl n=>obtain⟨m,e,dx,fs,a,b⟩:=h;exact⟨m,e,dx,fs,s _ _ a,b⟩
 |lack rs=>obtain⟨m,b,xs,e,h,g⟩:=h;exact⟨m,b,xs,e,d h,g.tk (Gf s)⟩
def MX(CW CU CK:J2)(G:Hp)(ru:Str)(ds:List PD)(y:V)(k:Ky):Prop:=∃t tk v,y= .ref t/\G t=some (.tup [.ref tk,v])/\G tk=some (.tup (Me k))/\GA CW CU CK G v (Nf ru Ms (GW k ds))
theorem MX.mono{CW CU CK:J2}{H G:Hp}{ru:Str}{ds:List PD}{y:V}{k:Ky}(s:J9 H G)(h:MX CW CU CK H ru ds y k):MX CW CU CK G ru ds y k:=by
 obtain⟨t,tk,v,e,a,b,c⟩:=h;exact⟨t,tk,v,e,s _ _ a,s _ _ b,c.mono s⟩
theorem Bl{CW CU CK:J2}{H G:Hp}{ru:Str}{ds:List PD}{ys:List V}{ks:List Ky}(s:J9 H G)(h:Pw (MX CW CU CK H ru ds) ys ks):Pw (MX CW CU CK G ru ds) ys ks:=h.imp fun _ _ r=>r.mono s
structure AH(ds:List PD)(ks:List Ky):Prop where
 nd:ks.Nodup
 so:ks.Pairwise fun a b=>TV b a=false
 ky:∀k,k∈ks↔∃d∈ds,d.key=k
theorem Fw(k:Ky):∀ds:List PD,((GW k ds).map fun d=>d.ns.length).sum <=(ds.map fun d=>d.ns.length).sum
 |[]=>Y7 _
 |d::ds=>by
  have ih:=Fw k ds;unfold GW at ih ⊢
  by_cases e:d.key=k
  .rw[V7 (by simpa using e),List.map_cons,List.map_cons,UN,UN];omega
  .rw[Uj (by simpa using e),List.map_cons,UN];omega
section
variable{P:WV}{w:WZ}{K:J0}{mg:WQ}{base:J6}
inductive Ii(CP CW CU CK:J2)(vs:List V)(H:Hp)(Q:VK)(E:XK):Prop|mk (l:J2) (ru:Str) (ps:List (Addr×Addr)) (ds:List PD) (kt:List Ky) (_:vs=[.ref l,.str ru]) (_:(ru="first"\/ru="last"\/ru="refuse")) (_:H l=some (.lst (N8 ps))) (_:NY CP H ps ds) (_:ds.length <=700) (_:(ds.map fun d=>d.ns.length).sum <=20000) (_:kt.length <=8) (_:(∀d∈ds,d.key∈kt)) (_:∀m ys ks G,H m=none->J9 H G->G m=some (.lst ys)->Pw (MX CW CU CK G ru ds) ys ks->AH ds ks->Q (.ref m) G)
abbrev CQ:Stmt:=top 39
theorem Lj:Ng ["pieces","rule","parted"] ["pieces","rule"] (J8 CQ):=by walk_at"e"
theorem jP{f CP CW CU CK:J2}{fd:WX}(F:Nk K "read_all" "read_all" CQ f fd)(B2:Ae mg)(JZ:NJ P w K mg base "check_rule" 2 ["rule"] [] HW)(N4:NJ P w K mg base "are_pieces" 1 ["value"] [] (Ay CP))(Mb:NJ P w K mg base "by_key" 2 ["pieces"] [] (Ir CP))
  (M7:NJ P w K mg base "judged" 4 ["pieces","rule"] [] (FQ CP CW CU CK)):Ji P w K mg base JN 5 f fd ["pieces","rule"] (Ii CP CW CU CK):=by
 refine F.ok Lj (fun vs H Q E h=>?_) (fun cdv A outer s H vs Q E hr h=>?_)
 .obtain⟨l,ru,ps,ds,kt,rfl,_⟩:=h;rfl
 .obtain⟨l,ru,ps,ds,kt,rfl,hru,hl,hp,hn,hsum,hkt,hkm,q⟩:=h;refine⟨_,(Jn (MW (Nr JZ hr.m rfl (Jj 1 Jc))) (Jn (Np (MB (TU (Nr N4 hr.m rfl (Jj 0 Jc)))) B6 NG) (Jn (CB (i:=2) (Lj).nd rfl (Or.inr rfl) (Nr Mb hr.m rfl (Jj 0 Jc))) (Jl (JR (DB (N':=["key","rule","parted"]) (caps:=[none,some 1,some 2]) (D6 (sc:=J8 CQ) (N:=["pieces","rule","parted"]) rfl rfl (by decide +kernel)) rfl (MG (K:=K) rfl (Nz (Z9 rfl (Ju.units hr)) B2.sorted (Jj 2 Jc))) (fun _ _ _ _ _=>(Ml (i:=0) (MK (N:=["key","rule","parted"]) rfl (by decide +kernel)) rfl (Or.inl rfl))) (fun _ _ _ _ _=>Dt) (fun _ _ _ _ _=>(TY (Jj 0 (Mm (Nr M7 hr.m rfl (Gj (MC hr (Ja 2) (Ja 0)) (Jj 1 Jc))) Jc)))))))))),?_⟩;walk_at"rd";have hpl:=hp.len;refine⟨ru,rfl,hru,l,ps,ds,rfl,hl,hp,by omega,fun G1 s1=>⟨_,rfl,?_⟩⟩;rw[Y1 (by simp)];refine⟨l,ps,ds,rfl,s1 _ _ hl,hp.mono s1,by omega,fun m kas G2 hm s2 B=>?_⟩;have hkl:kas.length <=kt.length:=by
   have:=An (u:=kt) B.nk fun k hk=>by
    obtain⟨d,hd,e⟩:=(B.ky k).mp hk;rw[<-e];exact hkm d hd
   rwa [Y4]at this
  refine⟨m,rfl,_,B.dt,kas.map (·.1),by unfold R6 NE;rw[XM,XM];rfl,by rw[Y4];omega,fun ks ts l2 G3 o hso htl hts hl2 s3 hG3=>⟨⟨_,Je.of hG3⟩,?_⟩⟩;have hKs:AH ds ks:=⟨o.nodup_iff.mpr B.nk,hso,fun k=>by rw[o.mem_iff];exact B.ky k⟩;have s12:=s1.trans s2;have s13:=s12.trans s3;have htr:(ts.map V.ref).length=ks.length:=by rw[Y4,htl]
  have hkl2:ks.length <=8:=by
   have:=o.length_eq;rw[Y4]at this;omega
  clear o;obtain⟨Pv,r⟩:∃Pv:Nat->List V->L2.St->Hp->Prop,Pv=fun i ys σ' G=>∃v:Option V,σ'=[v,some (.str ru),some (.ref m)]/\J9 G3 G/\Pw (MX CW CU CK G ru ds) ys (ks.take i):=⟨_,rfl⟩
  refine GT (xs:=ts.map V.ref) Pv (by rw[r];exact⟨none,rfl,J9.refl _,.nil⟩) ?_ (JT (by omega)) ?_ ?_ <;> rw[r]
  .rintro i ys σ' G ⟨v,rfl,s,z⟩ hi;refine⟨Je.of (s _ _ hG3),?_⟩;rw[z.1,Ym];omega
  .rintro i x ys σ' G hx ⟨v,rfl,s,z⟩;rw[<-r];rw[Yf]at hx;obtain⟨t,ht,rfl⟩:=YE.mp hx;have hi:i < ts.length:=(Y6.mp ht).1;obtain⟨k,hk⟩:∃k,ks[i]?=some k:=⟨_,Y5 (by omega)⟩;have ek:ks.take (i+ 1)=ks.take i++[k]:=by rw[YZ,hk];rfl
   have hkt2:=hts i t k ht hk;have hmem:k∈kas.map (·.1):=(B.ky k).mpr ((hKs.ky k).mp (YB hk));obtain⟨⟨b,a⟩,ha,ek'⟩:=YD.mp hmem;have ek':b=k:=ek';subst ek';have B4:=B.mono (s3.trans s);have s14:=s13.trans s;walk_at"rd";have hg:Nh G m (.ref t) (some (.ref a)):=by
    have:=Nh.t (k:=NE b) B4.dt (show G t=some (.tup ((NE b).map kV)) from(s3.trans s) _ _ hkt2);rwa [B4.mem ha]at this
   have fin : ∀ v H1, J9 G H1 -> GA CW CU CK H1 v (Nf ru Ms (GW b ds)) -> 2 <= sizeLine /\ ∀ (p : Addr) (j : Hp), H1 p = none -> J9 H1 j -> j p = some (.tup [.ref t, v]) -> Pv (i + 1) (ys ++ [.ref p]) [some (.ref t), some (.str ru), some (.ref m)] j := fun v H1 c g => ⟨JT (by simp), fun p j _ s6 h6 => by
    rw [r];refine ⟨_, rfl, s.trans (c.trans s6), ?_⟩;rw [ek];exact (Bl (c.trans s6) z).snoc ⟨p, t, v, rfl, h6, ((s3.trans s).trans (c.trans s6)) _ _ hkt2, g.mono s6⟩⟩
   have hone:1 <=(GW b ds).length:=by
    obtain⟨d,hd,e⟩:=(B.ky b).mp hmem;exact Vj (UQ.mpr ⟨hd,by simpa using e⟩)
   refine⟨_,hg,a,ru,DA b ps ds,GW b ds,b,rfl,hru,(B4.ls _ ha).2,NY.mono s14 (LC b hp),hone,YT (Vr _ _) hn,YT (Fw b ds) hsum,fun d hd=>by simpa using (UQ.mp hd).2,?_⟩;cases e:Nf ru Ms (GW b ds) with
   |whole rs=>exact fun m' b' j _ c g=>fin _ _ c (by rw[e];exact⟨m',b',rfl,g⟩)
   |unl n=>exact fun m' j c g=>fin _ _ c (by rw[e];exact⟨m',rfl,g⟩)
   |lack rs=>exact fun m' b' xs j _ c g hc=>fin _ _ c (by rw[e];exact⟨m',b',xs,rfl,g,hc⟩)
  .rintro ys σ' G ⟨v,rfl,s,z⟩ p G4 hp4 s4 h4;rw[htr,Xp]at z;exact q p ys ks G4 ((s13.trans s).free hp4) ((s13.trans s).trans s4) h4 (Bl s4 z) hKs
inductive HC(K:J0)(vs:List V)(H:Hp)(Q:VK)(E:XK):Prop|mk (a:J2) (ns:J3) (k:Nat) (_:vs=[.ref a,.int (k:Int)]) (_:Je K H a (ns.map V.int)) (_:∀c,Q (.int c) H)
abbrev FA:Stmt:=top 41
theorem ZC:Ng ["_law_script","_law_k"] ["_law_script","_law_k"] (J8 FA):=by walk_at"e"
theorem Zb{f:J2}{fd:WX}(F:Nk K "_law_cell_at" "_law_cell_at" FA f fd)(B:Bt mg):Ji P w K mg base JN 1 f fd ["_law_script","_law_k"] (HC K):=by
 refine F.ok ZC (fun vs H Q E h=>?_) (fun i A e s H vs Q E j h=>?_)
 .obtain⟨a,b,k,rfl,_⟩:=h;rfl
 .obtain⟨a,b,k,rfl,c,q⟩:=h;refine⟨_,(Jn (Np (NC (Nj RE) (Ja 1) (Nz (D1 (D2 (K:=K) rfl)) B.len (Jj 0 Jc))) (Jl (JR (DK K (Ja 0) (Ja 1)))) NG) (Jl (JR Jp))),?_⟩;walk_at"rd";refine⟨_,.inl c,Ti (fun d=>?_) (fun d=>q 0)⟩;rw[Yg,Y4]at d;have g:k < b.length:=by omega
  exact⟨_,c,.int b[k],Bv (by rw[Yf,Y5 g];rfl),q _⟩
inductive Ag(vs:List V)(H:Hp)(Q:VK)(E:XK):Prop|mk (c k:Int) (_:vs=[.int c,.int k]) (_:0 <=k) (_:k <=100000) (_:∀m:Int,0 <=m->m < 2147483399->Q (.int m) H)
abbrev FW:Stmt:=top 42
theorem F8:Ng ["_law_cell","_law_k","_law_number"] ["_law_cell","_law_k"] (J8 FW):=by walk_at"e"
theorem nA{f:J2}{fd:WX}(F:Nk K "_law_mixed" "_law_mixed" FW f fd):Ji P w K mg base JN 1 f fd ["_law_cell","_law_k"] Ag:=by
 refine F.ok F8 (fun vs H Q E h=>?_) (fun d A a s H vs Q E e h=>?_)
 .obtain⟨c,k,rfl,_⟩:=h;rfl
 .obtain⟨c,k,rfl,g,h1,q⟩:=h;refine⟨_,(Jn (NH 2 F8 (JM (dI Mf) (JM (dI Rz) (JM (Nj TJ) (JM (Nj TJ) (JM (dI Mf) (Ja 0) Jp) (JM (dI Rz) Jp (Ja 1))) Jp) Jp) Jp)) (Jn (NH 2 F8 (JM (dI Mf) (JM (dI Rz) (Ja 2) (JM (Nj TJ) (JM (dI Ee) (Ja 2) Jp) Jp)) Jp)) (Jl (JR (JM (dI Mf) (JM (dI Rz) (JM (Nj TJ) (Ja 2) (JM (dI Rz) Jp (Ja 1))) (JM (Nj TJ) (JM (dI Ee) (Ja 2) Jp) Jp)) Jp))))),?_⟩;walk_at"rd";have b:∀x y:Int,GH (x%2147483647+ 7*k) y:=fun x y=>.inl ⟨by omega,by omega⟩
  refine⟨by decide,.inl ⟨by decide,by decide⟩,.inr ⟨by decide,by decide⟩,by decide,⟨by decide,by decide⟩,QT _ _,by decide,.inl ⟨by decide,by decide⟩,⟨by decide,by decide⟩,b _ _,by decide,?_⟩;exact q _ (US _ (by decide)) (Ur _ (by decide))
inductive PR(vs:List V)(H:Hp)(Q:VK)(E:XK):Prop|mk (c:Int) (n:Nat) (_:vs=[.int c,.int (n:Int)]) (_:n <=10) (_:∀l (xs:J3) G,H l=none->J9 H G->G l=some (.lst (xs.map V.int))->xs.length=n->(∀x∈xs,0 <=x/\x < 5040)->Q (.ref l) G)
abbrev Iz:Stmt:=top 43
theorem BU:Ng ["_law_cell","_law_many","_law_found","_law_left","_law_k"] ["_law_cell","_law_many"] (J8 Iz):=by walk_at"e"
theorem yI{f:J2}{fd:WX}(F:Nk K "_law_digits" "_law_digits" Iz f fd)(B:Bt mg)(Tf:NJ P w K mg base "_law_mixed" 1 ["_law_cell","_law_k"] [] Ag):Ji P w K mg base JN 2 f fd ["_law_cell","_law_many"] PR:=by
 refine F.ok BU (fun vs H Q E h=>?_) (fun cdv A outer s H vs Q E hr h=>?_)
 .obtain⟨c,n,rfl,_⟩:=h;rfl
 .obtain⟨c,n,rfl,hn,q⟩:=h;refine⟨_,(Jn (NH 2 BU (Mt Jc)) (Jn (NH 3 BU (JM (dI Ee) (Ja 0) Jp)) (Jn (DZ YW rfl (RU rfl B.range (Jj 1 Jc)) (Tv 4 BU) (Jn (DQ (Np (PW.pt (Gy (NC (Mz Mr) (JM (dI Mf) (Ja 0) Jp) Jp) (R5 (NC (Nj Ev) (Ja 3) Jp)))) (Jl (MW (DG (K:=K) rfl YF YL YM (Gz Gw) (Ja 2) (JG (hs:=RJ) (JM (dI Mf) (Ja 3) Jp) Jc)))) (Jl (MW (DG (K:=K) rfl YF YL YM (Gz Gw) (Ja 2) (JG (hs:=RJ) (JM (dI Mf) (Nr Tf hr.m rfl (Jj 0 (Jj 4 Jc))) Jp) Jc)))))) (Jl (NH 3 BU (JM (dI Ee) (Ja 3) Jp))))) (Jl (JR (Ja 2)))))),?_⟩;walk_at"rd";refine⟨JT (by simp),fun p G hp s0 hG=>⟨⟨by decide,by decide⟩,by omega,by omega,?_⟩⟩;rw[YN];obtain⟨Pv,j⟩:∃Pv:Nat->L2.St->Hp->Prop,Pv=fun i σ' G=>∃ (a:Int) (v:Option V) (xs:J3),σ'=[some (.int c),some (.int (n:Int)),some (.ref p),some (.int a),v]/\J9 H G/\G p=some (.lst (xs.map V.int))/\xs.length=i/\∀x∈xs,0 <=x/\x < 5040:=⟨_,rfl⟩
  refine HJ Pv (by rw[j];exact⟨_,_,[],rfl,s0,hG,rfl,fun _ h=>nomatch h⟩) ?_ ?_ <;> rw[j]
  .rintro i σ' l hi ⟨a,v,xs,rfl,u,h1,hl,hx⟩;rw[<-j];have hi6:i < n:=hi;walk_at"rd";refine⟨by decide,rfl,fun σ' G'=>∃ (x:Int) (v:Option V),σ'=[some (.int c),some (.int (n:Int)),some (.ref p),some (.int a),v]/\J9 H G'/\G' p=some (.lst ((xs++[x]).map V.int))/\0 <=x/\x < 5040,?_,?_⟩
   .have g:∀{x:Int} {d:Hp},Nd p l d->d p=some (.lst (xs.map V.int++[.int x]))->J9 H d/\d p=some (.lst ((xs++[x]).map V.int)):=fun b e=>⟨u.butNew b hp,by rw[e,Yw];rfl⟩
    have big:(xs.map V.int).length < sizeLine:=Dq (by rw[Y4];omega);have ty:Br K "list" (.ref p) l:=.inl ⟨rfl,_,Je.of h1⟩
    have mx : Br K "list" (.ref p) l /\ Ag [V.int c, V.int (0 + ↑i)] l (fun x H1 => ∃ m, x = V.int m /\ (0 : Int) < 5040 /\ ∃ ys, H1 p = some (HO.lst ys) /\ ys.length < sizeLine /\ ∀ (G : Hp), Nd p H1 G -> G p = some (HO.lst (ys ++ [V.int (m % 5040)])) ->
      ∃ (x : Int) (v' : Option V), [some (V.int c), some (V.int (n : Int)), some (V.ref p), some (V.int a), some (V.int (0 + ↑i))] = [some (.int c), some (.int (n : Int)), some (.ref p), some (.int a), v'] /\ J9 H G /\ G p = some (.lst ((xs ++ [x]).map V.int)) /\ 0 <= x /\ x < 5040) E0 :=
     ⟨ty,c,_,rfl,by omega,by omega,fun m m0 m1=>⟨m,rfl,by decide,_,h1,big,fun d r o=>⟨m%5040,_,rfl,(g r o).1,(g r o).2,by omega,by omega⟩⟩⟩
    refine Ti (fun _=>Ti (fun _=>?_) fun _=>mx) fun _=>mx
    exact⟨ty,by decide,_,h1,big,fun d r o=>⟨a%5040,_,rfl,(g r o).1,(g r o).2,by omega,by omega⟩⟩
   .rintro σ2 d ⟨x,v',rfl,s2,h2,x0,x1⟩;walk_at"rd";refine⟨⟨by decide,by decide⟩,?_⟩;rw[j];refine⟨_,_,xs++[x],rfl,s2,h2,by rw[List.length_append,hl];rfl,fun y hy=>?_⟩;rcases Ye.mp hy with z|z
    .exact hx y z
    .rw[Y9.mp z];exact⟨x0,x1⟩
  .rintro σ' l ⟨a,v,xs,rfl,u,h1,hl,hx⟩;walk_at"rd";exact q p xs l hp u h1 hl hx
def JP:List (Int×Str×Str):=[(7,"ann","bo"),(7,"ann","bob"),(7,"bo","ann"),(8,"ann","bo"),(70,"an","bo"),(0,"a","a"),(65535,"zzzzzzzz","b")]
def Dw(n:Int):Int×Str×Str:=JP.getD (n%7).toNat (0,"a","a")
def FU(k:Int×Str×Str):List V:=[.int k.1,.str k.2.1,.str k.2.2]
inductive Lq(vs:List V)(H:Hp)(Q:VK)(E:XK):Prop|mk (n:Int) (_:vs=[.int n]) (_:∀t G,H t=none->J9 H G->G t=some (.tup (FU (Dw n)))->Q (.ref t) G)
theorem Ec{x y z:V}{σ:L2.St}{H:Hp}{Q:VK}(h:∀p G,H p=none->J9 H G->G p=some (.tup [x,y,z])->Q (.ref p) G):C7 (D7 (tC x) (D7 (tC y) (D7 (tC z) Gm))) σ H Q:=⟨JT (by simp),h⟩
abbrev FT:Stmt:=top 44
theorem Os:Ng ["_law_digit","_law_some"] ["_law_digit"] (J8 FT):=by walk_at"e"
theorem ZP{f:J2}{fd:WX}(F:Nk K "_law_key" "_law_key" FT f fd):Ji P w K mg base JN 1 f fd ["_law_digit"] Lq:=by
 refine F.ok Os (fun vs H Q E h=>?_) (fun cdv A outer s H vs Q E hr h=>?_)
 .obtain⟨n,rfl,_⟩:=h;rfl
 .obtain⟨n,rfl,q⟩:=h;refine⟨_,(@Jn _ _ _ _ _ (@CB _ _ 1 _ _ _ _ (Os).nd rfl (Or.inl rfl) (@Mt _ _ _ _ (@JG _ _ _ _ _ (@TY _ _ _ _ _ (@JG _ _ _ _ _ (@Jp _ _ _ _) (@JG _ _ _ _ _ (@N7 _ _ _ _) (@JG _ _ _ _ _ (@N7 _ _ _ _) Jc Mh) Mh) Mh)) (@JG _ _ _ _ _ (@TY _ _ _ _ _ (@JG _ _ _ _ _ (@Jp _ _ _ _) (@JG _ _ _ _ _ (@N7 _ _ _ _) (@JG _ _ _ _ _ (@N7 _ _ _ _) Jc Mh) Mh) Mh)) (@JG _ _ _ _ _ (@TY _ _ _ _ _ (@JG _ _ _ _ _ (@Jp _ _ _ _) (@JG _ _ _ _ _ (@N7 _ _ _ _) (@JG _ _ _ _ _ (@N7 _ _ _ _) Jc Mh) Mh) Mh)) (@JG _ _ _ _ _ (@TY _ _ _ _ _ (@JG _ _ _ _ _ (@Jp _ _ _ _) (@JG _ _ _ _ _ (@N7 _ _ _ _) (@JG _ _ _ _ _ (@N7 _ _ _ _) Jc Mh) Mh) Mh)) (@JG _ _ _ _ _ (@TY _ _ _ _ _ (@JG _ _ _ _ _ (@Jp _ _ _ _) (@JG _ _ _ _ _ (@N7 _ _ _ _) (@JG _ _ _ _ _ (@N7 _ _ _ _) Jc Mh) Mh) Mh)) Jc Dn) Dn) Dn) Dn) Dn)) (by rfl) (Or.inl rfl)) (@Jl _ _ _ (@JR _ _ _ _ (@FS _ _ _ _ _ _ _ (OD (K:=K) rfl) (@JM _ _ _ _ _ _ _ _ CM (pv 1) (@Mt _ _ _ _ (@JG _ _ _ _ _ (@TY _ _ _ _ _ (@JG _ _ _ _ _ (@Jp _ _ _ _) (@JG _ _ _ _ _ (@N7 _ _ _ _) (@JG _ _ _ _ _ (@N7 _ _ _ _) Jc Mh) Mh) Mh)) (@JG _ _ _ _ _ (@TY _ _ _ _ _ (@JG _ _ _ _ _ (@Jp _ _ _ _) (@JG _ _ _ _ _ (@N7 _ _ _ _) (@JG _ _ _ _ _ (@N7 _ _ _ _) Jc Mh) Mh) Mh)) Jc Dn) Dn))) (@JM _ _ _ _ _ _ _ _ Mf (pv 0) (@Jp _ _ _ _)) (fun _ _=>rfl))))),?_⟩;refine Nt fun N hN=>?_
  simp only[RP,BI,D7,Gm,R1,L2.start,List.map_cons,List.map_nil,List.length_cons,List.length_nil,Nat.reduceAdd,Nat.reduceSub,List.replicate,List.cons_append,List.nil_append,List.append_nil,List.set_cons_zero,List.set_cons_succ];refine Ec fun p1 G1 h1 v e1=>Ec fun p2 G2 h2 u e2=>Ec fun p3 G3 h3 o e3=>Ec fun p4 G4 h4 j e4=>Ec fun p5 G5 h5 i e5=>⟨JT (by simp),fun l G6 hl c e6=>hN _ _ ?_⟩
  clear hN N;simp only[BZ,Gi,BO,tC,BI,D7,Gm,List.getElem?_cons_zero,List.getElem?_cons_succ,Option.some.injEq,exists_eq_left',exists_eq_left];refine Ec fun p6 G7 h7 s7 e7=>Ec fun p7 G8 h8 s8 e8=>⟨JT (by simp),fun l2 G9 hl2 r e9=>?_⟩
  walk_at"rd";have b:=s7.trans (s8.trans r);refine⟨_,b _ _ e6,_,e9,JT (by simp),fun l3 g hl3 a e10=>⟨by decide,_,Je.of e10,?_⟩⟩;have sT:J9 H g:=v.trans (u.trans (o.trans (j.trans (i.trans (c.trans (b.trans a))))));have key:∀p,(∃z,z p=none/\J9 H z)->(g p=some (.tup (FU (Dw n))))->Q (.ref p) g:=fun p ⟨z,e,s'⟩ h=>q p g (s'.free e) sT h
  have hm:n%7=0\/n%7=1\/n%7=2\/n%7=3\/n%7=4\/n%7=5\/n%7=6:=by omega
  have t1:=u.trans (o.trans (j.trans (i.trans (c.trans (b.trans a)))));have t2:=o.trans (j.trans (i.trans (c.trans (b.trans a))));have t3:=j.trans (i.trans (c.trans (b.trans a)));have t4:=i.trans (c.trans (b.trans a));have t5:=c.trans (b.trans a);have t6:=s8.trans (r.trans a);have t7:=r.trans a;have sa:=v.trans u;have sb:=sa.trans o;have sc:=sb.trans j;have sd:=sc.trans i;have se:=sd.trans c;have sf:=se.trans s7;have d:∀m:Nat,n%7=(m:Int)->Dw n=JP.getD m (0,"a","a"):=fun m h=>by unfold Dw;rw[h];rfl
  rcases hm with h|h|h|h|h|h|h <;> rw[h]
  .exact⟨_,rfl,key p1 ⟨H,h1,J9.refl _⟩ (by rw[d 0 h];exact t1 _ _ e1)⟩
  .exact⟨_,rfl,key p2 ⟨G1,h2,v⟩ (by rw[d 1 h];exact t2 _ _ e2)⟩
  .exact⟨_,rfl,key p3 ⟨G2,h3,sa⟩ (by rw[d 2 h];exact t3 _ _ e3)⟩
  .exact⟨_,rfl,key p4 ⟨G3,h4,sb⟩ (by rw[d 3 h];exact t4 _ _ e4)⟩
  .exact⟨_,rfl,key p5 ⟨G4,h5,sc⟩ (by rw[d 4 h];exact t5 _ _ e5)⟩
  .exact⟨_,rfl,key p6 ⟨G6,h7,se⟩ (by rw[d 5 h];exact t6 _ _ e7)⟩
  .exact⟨_,rfl,key p7 ⟨G7,h8,sf⟩ (by rw[d 6 h];exact t7 _ _ e8)⟩
inductive KW(vs:List V)(H:Hp)(Q:VK)(E:XK):Prop|mk (c k:Int) (_:vs=[.int c,.int k]) (_:0 <=k) (_:k <=100) (_:∀l (ns:J3) G,H l=none->J9 H G->G l=some (.lst (ns.map V.int))->1 <=ns.length->ns.length <=40->(∀x∈ns,0 <=x/\x <=255)->Q (.ref l) G)
abbrev Ck:Stmt:=top 45
theorem OS:Ng ["_law_cell","_law_k","_law_many"] ["_law_cell","_law_k"] (J8 Ck):=by walk_at"e"
theorem Zu{f:J2}{fd:WX}(F:Nk K "_law_body" "_law_body" Ck f fd)(B:Bt mg)(Tf:NJ P w K mg base "_law_mixed" 1 ["_law_cell","_law_k"] [] Ag):Ji P w K mg base JN 2 f fd ["_law_cell","_law_k"] KW:=by
 refine F.ok OS (fun vs H Q E h=>?_) (fun cdv A r s H vs Q E j h=>?_)
 .obtain⟨c,k,rfl,_⟩:=h;rfl
 .obtain⟨c,k,rfl,h0,h1,q⟩:=h;refine⟨_,(Jn (NH 2 OS (JM (Nj TJ) Jp (JM (dI Mf) (Nr Tf j.m rfl (Jj 0 (Jj 1 Jc))) Jp))) (Jl (JR (DB (N':=["_law_j","_law_cell","_law_k"]) (caps:=[none,some 0,some 1]) (D6 (sc:=J8 Ck) (N:=["_law_cell","_law_k","_law_many"]) rfl rfl (by decide +kernel)) rfl (RU rfl B.range (Jj 2 Jc)) (fun _ _ _ _ _=>(Ml (i:=0) (MK (N:=["_law_j","_law_cell","_law_k"]) rfl (by decide +kernel)) rfl (Or.inl rfl))) (fun _ _ _ _ _=>Dt) (fun _ _ _ _ _=>(JM (dI Mf) (JM (dI Ee) (Nr Tf j.m rfl (Jj 1 (JG (hs:=RJ) (JM (Nj TJ) (JM (Nj TJ) (JM (dI Rz) Jp (Ja 2)) Jp) (Ja 0)) Jc))) Jp) Jp)))))),?_⟩;walk_at"rd";refine⟨c,k,rfl,h0,by omega,fun m m0 m1=>⟨_,rfl,by decide,by omega,by omega,?_⟩⟩;obtain⟨n,hn⟩:∃n:Nat,(1+ m%40).toNat=n:=⟨_,rfl⟩;rw[hn];obtain⟨g,b⟩:∃g:Nat->List V->L2.St->Hp->Prop,g=fun i ys σ' G=>∃ (a:J3) (v:Option V),ys=a.map V.int/\a.length=i/\(∀x∈a,0 <=x/\x <=255)/\σ'=[v,some (.int c),some (.int k)]/\G=H:=⟨_,rfl⟩
  refine Aw g (by rw[b];exact⟨[],none,rfl,rfl,(fun _ h=>nomatch h),rfl,rfl⟩) ?_ (JT (by omega)) ?_ ?_ <;> rw[b]
  .rintro i ys σ' G ⟨a,v,rfl,e,_⟩ _;rw[Y4];omega
  .rintro i ys σ' G hi ⟨a,v,rfl,e,d,rfl,rfl⟩;rw[<-b];walk_at"rd";refine⟨.inl ⟨by decide,by decide⟩,c,_,rfl,by omega,by omega,fun m' a0 a1=>⟨_,rfl,⟨by decide,by decide⟩,by decide,?_⟩⟩;rw[b];refine⟨a++[m' / 7%256],_,by rw[Yw];rfl,by simp[e],fun x hx=>?_,rfl,rfl⟩;rcases Ye.mp hx with z|z
   .exact d x z
   .rw[Y9.mp z];omega
  .rintro ys σ' G ⟨a,v,rfl,e,d,rfl,rfl⟩ l G2 o u p;exact q l a G2 o u p (by omega) (by omega) d
structure GE(H:Hp)(t tk b:J2)(d:PD):Prop where
 ok:d.Ok
 k:d.k=false
 tp:H t=some (.tup [.ref tk,.int d.at',.ref b,.bl d.mo])
 ky:H tk=some (.tup (FU d.key))
 bd:H b=some (.lst (d.ns.map V.int))
theorem SE(n:Int):0 <=(Dw n).1/\(Dw n).1 <=65535/\T8 (Dw n).2.1/\T8 (Dw n).2.2:=by
 have h:∀m:_root_.Fin 7,0 <=(JP.getD m.val (0,"a","a")).1/\(JP.getD m.val (0,"a","a")).1 <=65535/\T8 (JP.getD m.val (0,"a","a")).2.1/\T8 (JP.getD m.val (0,"a","a")).2.2:=by
  unfold T8
  decide +kernel
 exact h ⟨(n%7).toNat,by omega⟩
theorem ZW{n k:Nat}(h:k < n):Gp n (k:Int)=some k:=by
 unfold Gp;rw[Y3 (by omega),Y3 (by omega)];rfl
structure Pd(A L:Nat)(lo:Nat)(ms:J3)(mo:Bool):Prop where
 l8:lo%8=0
 lA:lo <=A
 m1:1 <=ms.length
 mL:ms.length <=L
 by':∀x∈ms,0 <=x/\x <=255
 m8:mo=true->ms.length%8=0
inductive PV(vs:List V)(H:Hp)(Q:VK)(E:XK):Prop|mk (l lg:J2) (bs:List Addr) (xs:J3) (_:vs=[.ref l,.ref lg]) (_:H l=some (.lst (bs.map V.ref))) (_:1 <=bs.length) (_:bs.length <=7) (_:(∀b∈bs,∃ns:List Int,H b=some (.lst (ns.map V.int))/\1 <=ns.length/\ns.length <=40/\∀x∈ns,0 <=x/\x <=255)) (_:H lg=some (.lst (xs.map V.int))) (_:6 <=xs.length) (_:(∀x∈xs,0 <=x/\x < 5040)) (_:∀t tk b d G i,H t=none->H tk=none->H b=none->J9 H G->GE G t tk b d->d.key=Dw i->0 <=i->i < bs.length->d.ns.length <=25->Q (.ref t) G)
abbrev F7:Stmt:=top 46
theorem GV:Ng ["_law_bodies","_law_digits_here","_law_at","_law_body_here","_law_low","_law_high","_law_some","_law_more","_law_way"] ["_law_bodies","_law_digits_here"] (J8 F7):=by walk_at"e"
theorem SS{f:J2}{fd:WX}(F:Nk K "_law_piece" "_law_piece" F7 f fd)(B:Bt mg)(GD:NJ P w K mg base "_law_key" 1 ["_law_digit"] [] Lq):Ji P w K mg base JN 2 f fd ["_law_bodies","_law_digits_here"] PV:=by
 refine F.ok GV (fun vs H Q E h=>?_) (fun cdv A outer s H vs Q E hr h=>?_)
 .obtain⟨l,v,bs,xs,rfl,_⟩:=h;rfl
 .obtain⟨l,v,bs,xs,rfl,hl,hb1,hb2,hbs,u,hx6,hx,q⟩:=h;refine⟨_,(Jn (NH 2 GV (JM (dI Mf) (DK K (Ja 1) Jp) (Nz (D1 (D2 (K:=K) rfl)) B.len (Jj 0 Jc)))) (Jn (NH 3 GV (DK K (Ja 0) (Ja 2))) (Jn (NH 4 GV (JM (dI Rz) Jp (JM (dI Mf) (DK K (Ja 1) Jp) (JM (dI Ee) (JM (Nj TJ) (Nz (D1 (D2 (K:=K) rfl)) B.len (Jj 3 Jc)) Jp) Jp)))) (Jn (NH 5 GV (Nz (OI rfl) B.min (Mm (Nz (D1 (D2 (K:=K) rfl)) B.len (Jj 3 Jc)) (JG (hs:=RJ) (JM (Nj TJ) (Ja 4) (JM (dI Rz) Jp (JM (Nj TJ) Jp (JM (dI Mf) (DK K (Ja 1) Jp) Jp)))) Jc)))) (Jn (NH 6 GV (Em (Hb (IW (K:=K) rfl)) rfl B.blist (by rfl) (Gj (Lk (O4 (Pt (K:=K) rfl)) (Ja 3) (AW (Ja 4)) (AW (Ja 5))) Jc))) (Jn (NH 7 GV (Mo (Nj RE) (Ja 5) (Nz (D1 (D2 (K:=K) rfl)) B.len (Jj 3 Jc)) (Mp _))) (Jn (NH 8 GV (JM (dI Mf) (DK K (Ja 1) Jp) Jp)) (Jn (DQ (Np (NC (Mz Mr) (Ja 8) Jp) (Jl (Bw (JM (dI Mf) (DK K (Ja 1) Jp) Jp) (ZG (Ja 6) (JM (dI Mf) (DK K (Ja 1) Jp) (Nz (D1 (D2 (K:=K) rfl)) B.len (Jj 6 Jc))) jM))) NG)) (Jn (DQ (Np (NC (Mz Mr) (Ja 8) Jp) (Jl (NH 4 GV (JM (Nj TJ) (Ja 4) Jp))) NG)) (Jn (DQ (Np (PW.pt (Gy (NC (Mz Mr) (Ja 8) Jp) (R5 (NC (Mz Mr) (JM (dI Mf) (Nz (D1 (D2 (K:=K) rfl)) B.len (Jj 6 Jc)) Jp) Jp)))) (Jl (NH 7 GV (As (Ja 7)))) NG)) (Jn (DQ (Np (PW.pt (Gy (NC (Mz Mr) (Ja 8) Jp) (R5 (MB (TU (Ja 7)))))) (Jl (MW (DG (K:=K) rfl YF YL YM (Gz Gw) (Ja 6) (JG (hs:=RJ) (JM (dI Mf) (DK K (Ja 1) Jp) Jp) Jc)))) NG)) (Jn (DQ (Np (PW.pt (Gy (NC (Mz Mr) (Ja 8) Jp) (Gy (MB (TU (Ja 7))) (R5 (NC (Nj Ev) (Nz (D1 (D2 (K:=K) rfl)) B.len (Jj 6 Jc)) Jp))))) (Jl (MW (Oi (K:=K) rfl YF PySem.F.slot_list_pop PySem.F.type_list_pop Ql (Ja 6)))) NG)) (Jl (JR (TY (Mm (Nr GD hr.m rfl (Jj 2 Jc)) (Jj 4 (Jj 6 (Jj 7 Jc))))))))))))))))))),?_⟩;have hat:∀i:Nat,i < 6->∃x,Dj (xs.map V.int) (i:Int)=some (.int x)/\0 <=x/\x < 5040:=fun i hi=>by
   have h:i < xs.length:=by omega
   exact⟨xs[i],Bv (by rw[Yf,Y5 h];rfl),hx _ (XG h)⟩
  obtain⟨x0,a0,b0,c0⟩:=hat 0 (by omega);obtain⟨x1,a1,b1,c1⟩:=hat 1 (by omega);obtain⟨x2,a2,b2,c2⟩:=hat 2 (by omega);obtain⟨x3,a3,b3,c3⟩:=hat 3 (by omega);obtain⟨x4,a4,b4,c4⟩:=hat 4 (by omega);obtain⟨x5,a5,b5,c5⟩:=hat 5 (by omega);have hlm:(bs.map V.ref).length=bs.length:=Y4 ..;refine Nt fun N j=>?_
  walk_at"rd";refine⟨_,Je.of u,_,a0,_,.inl (Je.of hl),_,rfl,by rw[hlm];omega,j _ _ ?_⟩;clear j N;rw[hlm];obtain⟨i,hi⟩:∃i:Nat,x0%(bs.length:Int)=i:=⟨(x0%(bs.length:Int)).toNat,by rw[WM (US _ (by omega))]⟩;have hib:i < bs.length:=by have:=Ur x0 (show(0:Int) < bs.length by omega);omega
  rw[hi];obtain⟨ns,hns,n1,n2,n3⟩:=hbs bs[i] (XG hib);have hnl:(ns.map V.int).length=ns.length:=Y4 ..;refine Nt fun N j=>?_
  walk_at"rd";refine⟨_,Je.of hl,_,Bv (by rw[Yf,Y5 hib];rfl),j _ _ ?_⟩;clear j N;generalize bs[i]=b at hns;refine Nt fun N j=>?_
  walk_at"rd";obtain⟨m,hm⟩:∃m:Nat,(ns.length+ 7) / 8=m:=⟨_,rfl⟩;have hmI:((ns.length:Int)+ 7) / 8=m:=by omega
  have e1:=US x1 (show(m:Int)≠0 by omega);have e2:=Ur x1 (show(0:Int) < m by omega);obtain⟨r,hr1⟩:∃r:Nat,x1%(m:Int)=r:=⟨(x1%(m:Int)).toNat,by omega⟩;refine⟨_,Je.of u,_,a1,_,.inl (Je.of hns),⟨by decide,by decide⟩,_,rfl,?_⟩;rw[hnl,hmI,hr1];have e3:(8:Int)*r=((8*r:Nat):Int):=by omega
  rw[e3];refine⟨by omega,.inl ⟨by decide,by decide⟩,j _ _ ?_⟩;clear j N;obtain⟨lo,hlo⟩:∃lo:Nat,8*r=lo:=⟨_,rfl⟩;rw[hlo];have hlt:lo < ns.length:=by omega
  refine Nt fun N j=>?_
  walk_at"rd";obtain⟨hi,hhi⟩:∃hi:Nat,min ns.length (lo+ 8*(1+ (x2%3).toNat))=hi:=⟨_,rfl⟩;have hh1:lo < hi/\hi <=ns.length/\hi - lo <=24/\(hi=ns.length\/(hi - lo)%8=0):=by omega
  have ehi:(if(lo:Int)+ 8*(1+ x2%3) < (ns.length:Int) then(lo:Int)+ 8*(1+ x2%3) else(ns.length:Int))=hi:=by split <;> omega
  refine⟨_,.inl (Je.of hns),_,Je.of u,_,a2,_,rfl,by decide,.inl ⟨by decide,by decide⟩,?_⟩;rw[hnl,ehi];refine j _ _ ?_;clear j N ehi;refine Nt fun N j=>?_
  walk_at"rd";refine⟨_,Je.of hns,fun l1 G1 hl1 s1 h1=>⟨_,.inl (Je.of h1),fun ls G2 hls s2 h2=>j _ _ ?_⟩⟩;clear j N;rw[wR ns (UT hh1.1) hh1.2.1]at h2;have s02:=s1.trans s2;have hls0:H ls=none:=s1.free hls;refine Nt fun N j=>?_
  walk_at"rd";refine⟨_,.inl (Je.of (s02 b _ hns)),?_⟩;rw[hnl];refine j _ _ ?_;clear j N;refine Nt fun N j=>?_
  walk_at"rd";refine⟨_,Je.of (s02 v _ u),_,a3,_,rfl,by decide,j _ _ ?_⟩;clear j N;obtain⟨mo,hmo⟩:∃mo:Bool,decide ((hi:Int) < ns.length)=mo:=⟨_,rfl⟩;obtain⟨g,hms⟩:∃g:List Int,(ns.drop lo).take (hi - lo)=g:=⟨_,rfl⟩;have hml:g.length=hi - lo:=by rw[<-hms,Ym,X2];omega
  have n : Pd 40 24 lo g mo := ⟨by omega, by omega, by omega, by omega, fun x hx => n3 x (Xo (Xd (by rw [hms]; exact hx))), fun h => by
   rw [h] at hmo;have := Xi hmo;omega⟩
  rw[hmo];rw[hms]at h2;clear hms hml hmo;obtain⟨p,hway⟩:∃p:Int,x3%24=p:=⟨_,rfl⟩;rw[hway];obtain⟨R,o⟩:∃R:Nat->Nat->L2.St->Hp->Prop,R=fun A L σ' G'=>∃ (lo:Nat) (g:J3) (mo:Bool),σ'=[some (.ref l),some (.ref v),some (.int i),some (.ref b),some (.int lo),some (.int hi),some (.ref ls),some (.bl mo),some (.int p)]/\J9 H G'/\G' ls=some (.lst (g.map V.int))/\Pd A L lo g mo:=⟨_,rfl⟩
  have hR:R 40 24 [some (.ref l),some (.ref v),some (.int i),some (.ref b),some (.int lo),some (.int hi),some (.ref ls),some (.bl mo),some (.int p)] G2:=by rw[o];exact⟨lo,g,mo,rfl,s02,h2,n⟩
  have lset:∀ (g:J3) (k:Nat) (y:Int),(g.map V.int).set k (.int y)=(g.set k y).map V.int:=fun g k y=>by rw[List.map_set]
  refine Nt fun N j=>?_
  refine⟨R 40 24,?_,fun σa Ga ha=>j σa Ga ?_⟩
  .walk_at"rd";refine⟨rfl,Ti (fun _=>?_) fun _=>hR⟩;obtain⟨k,hk⟩:∃k:Nat,x4%((g.map V.int).length:Int)=k:=⟨(x4%((g.map V.int).length:Int)).toNat,by rw[WM (US _ (by rw[Y4];have:=n.m1;omega))]⟩;have hk2:k < (g.map V.int).length:=by have:=Ur x4 (show(0:Int) < (g.map V.int).length by rw[Y4];have:=n.m1;omega);omega
   refine⟨_,Je.of (s02 v _ u),_,a5,_,rfl,by decide,_,Je.of (s02 v _ u),_,a4,_,.inl (Je.of h2),_,rfl,by omega,_,h2,?_⟩;rw[hk];refine⟨k,ZW hk2,fun G3 b3 e3=>?_⟩;rw[o];rw[lset]at e3;refine⟨lo,_,mo,rfl,s02.butNew b3 hls0,e3,⟨n.l8,n.lA,by rw[Vy];exact n.m1,by rw[Vy];exact n.mL,fun x hx=>?_,by rw[Vy];exact n.m8⟩⟩;rcases List.mem_or_eq_of_mem_set hx with z|z
   .exact n.by' x z
   .rw[z];omega
  clear j N hR n h2;refine Nt fun N j=>?_
  refine⟨R 48 24,?_,fun σb Gb hb=>j σb Gb ?_⟩
  .rw[o]at ha;obtain⟨lo,g,mo,rfl,s,h,c⟩:=ha;walk_at"rd";refine⟨rfl,Ti (fun _=>?_) fun _=>?_⟩ <;> rw[o]
   .exact⟨lo+ 8,g,mo,by simp,s,h,⟨by have:=c.l8;omega,by have:=c.lA;omega,c.m1,c.mL,c.by',c.m8⟩⟩
   .exact⟨lo,g,mo,rfl,s,h,⟨c.l8,by have:=c.lA;omega,c.m1,c.mL,c.by',c.m8⟩⟩
  clear j N ha;refine Nt fun N j=>?_
  refine⟨R 48 24,?_,fun σc Gc hc=>j σc Gc ?_⟩
  .rw[o]at hb;obtain⟨lo,g,mo,rfl,s,h,c⟩:=hb;have stay:R 48 24 [some (.ref l),some (.ref v),some (.int i),some (.ref b),some (.int lo),some (.int hi),some (.ref ls),some (.bl mo),some (.int p)] Gb:=by rw[o];exact⟨lo,g,mo,rfl,s,h,c⟩
   walk_at"rd";refine⟨rfl,Ti (fun _=>⟨_,.inl (Je.of h),by decide,rfl,Ti (fun h8=>?_) fun _=>stay⟩) fun _=>stay⟩;rw[o];rw[Yg,Y4]at h8;exact⟨lo,g,!mo,rfl,s,h,⟨c.l8,c.lA,c.m1,c.mL,c.by',fun _=>by omega⟩⟩
  clear j N hb;refine Nt fun N j=>?_
  refine⟨R 48 25,?_,fun σd Gd hd=>j σd Gd ?_⟩
  .rw[o]at hc;obtain⟨lo,g,mo,rfl,s,h,c⟩:=hc;have stay:R 48 25 [some (.ref l),some (.ref v),some (.int i),some (.ref b),some (.int lo),some (.int hi),some (.ref ls),some (.bl mo),some (.int p)] Gc:=by rw[o];exact⟨lo,g,mo,rfl,s,h,⟨c.l8,c.lA,c.m1,by have:=c.mL;omega,c.by',c.m8⟩⟩
   walk_at"rd";refine⟨rfl,Ti (fun _=>Ti (fun hm=>?_) fun _=>stay) fun _=>stay⟩;refine⟨.inl ⟨rfl,_,Je.of h⟩,_,Je.of (s v _ u),_,a5,_,rfl,by decide,_,h,Dq (by rw[Y4];have:=c.mL;omega),fun G3 b3 e3=>?_⟩;rw[o];refine⟨lo,g++[x5%256],mo,rfl,s.butNew b3 hls0,by rw[e3,Yw];rfl,⟨c.l8,c.lA,by simp,by rw[List.length_append];have:=c.mL;simp;omega,fun x hx=>?_,fun z=>by rw[z]at hm;simp at hm⟩⟩;rcases Ye.mp hx with z|z
   .exact c.by' x z
   .rw[Y9.mp z];omega
  clear j N hc;refine Nt fun N j=>?_
  refine⟨R 48 25,?_,fun σe Ge he=>j σe Ge ?_⟩
  .rw[o]at hd;obtain⟨lo,g,mo,rfl,s,h,c⟩:=hd;have stay:R 48 25 [some (.ref l),some (.ref v),some (.int i),some (.ref b),some (.int lo),some (.int hi),some (.ref ls),some (.bl mo),some (.int p)] Gd:=by rw[o];exact⟨lo,g,mo,rfl,s,h,c⟩
   walk_at"rd";refine⟨rfl,Ti (fun _=>Ti (fun hm=>⟨_,.inl (Je.of h),Ti (fun hl1=>?_) fun _=>stay⟩) fun _=>stay) fun _=>stay⟩;rw[Yg,Y4]at hl1;have hlast:(g.map V.int).length - 1 < (g.map V.int).length:=by rw[Y4];omega
   refine⟨.inl ⟨rfl,_,Je.of h⟩,_,h,_,Y5 hlast,fun G3 b3 e3=>?_⟩;rw[o];refine⟨lo,g.dropLast,mo,rfl,s.butNew b3 hls0,by rw[e3,List.map_dropLast],⟨c.l8,c.lA,by rw[Vz];omega,by rw[Vz];have:=c.mL;omega,fun x hx=>c.by' x (List.dropLast_subset _ hx),fun z=>by rw[z]at hm;simp at hm⟩⟩
  clear j N hd;rw[o]at he;obtain⟨lo,g,mo,rfl,s,h,c⟩:=he;walk_at"rd";refine⟨i,rfl,fun tk G3 htk s3 e3=>⟨JT (by simp),fun t G4 ht s4 e4=>?_⟩⟩;obtain⟨d,ed⟩:∃d:PD,d=⟨(Dw i).1,(Dw i).2.1,(Dw i).2.2,lo,g,mo,false⟩:=⟨_,rfl⟩;have dk:d.key=Dw i:=by rw[ed];rfl
  have dok:d.Ok:=by
   obtain⟨k1,k2,k3,k4⟩:=SE i;rw[ed];refine⟨k1,k2,k3,k4,c.m1,by have:=c.mL;show g.length <=4000;omega,c.by',by show(0:Int) <=lo;omega,by have:=c.l8;show(lo:Int)%8=0;omega,?_⟩;show Ry lo g.length mo=true;have c1:=c.lA;have c2:=c.mL;unfold Ry;cases mo with
   |true=>
    have:=c.m8 rfl;simp only[if_true,X8,Yg];omega
   |false=>simp only[Bool.false_eq_true,if_false,Yg];omega
  have dns:d.ns=g:=by rw[ed]
  have s34:=s3.trans s4;refine q t tk ls d G4 i (s.free (s3.free ht)) (s.free htk) hls0 (s.trans s34) ⟨dok,by rw[ed],?_,?_,by rw[dns];exact s34 _ _ h⟩ dk (by omega) (by omega) (by rw[dns];have:=c.mL;omega)
  .rw[e4,ed]
  .rw[dk];exact s4 _ _ e3
end
def GJ(a:J2)(en:Option Int)(re:Int):List (Jv×V):=[(Sum.inr "bytes",.ref a),(Sum.inr "end",oV en),(Sum.inr "most",.int re)]
theorem Pa(a:J2)(en:Option Int)(re:Int):JD (GJ a en re) (Sum.inr "bytes")=some (.ref a):=by rfl
theorem uA(a:J2)(en:Option Int)(re:Int):JD (GJ a en re) (Sum.inr "end")=some (oV en):=by rfl
theorem Ow(a:J2)(en:Option Int)(re:Int):JD (GJ a en re) (Sum.inr "most")=some (.int re):=by rfl
theorem yK(a:J2)(en:Option Int)(re m:Int):M8 (GJ a en re) (Sum.inr "most") (.int m)=GJ a en m:=by rfl
theorem jX(a:J2)(en:Option Int)(re e:Int):M8 (GJ a en re) (Sum.inr "end") (.int e)=GJ a (some e) re:=by rfl
structure MM(H:Hp)(h a:J2)(rs:RS):Prop where
 hd:H h=some (.dK (GJ a rs.en rs.re))
 bs:H a=some (.dK (MA rs.st))
 ne:h≠a
section
variable{P:WV}{w:WZ}{K:J0}{mg:WQ}{base:J6}{H G:Hp}{h a t tk b:J2}{rs:RS}{d:PD}
theorem MM.mono(s:J9 H G)(k:MM H h a rs):MM G h a rs:=⟨s _ _ k.hd,s _ _ k.bs,k.ne⟩
theorem GE.mono(s:J9 H G)(k:GE H t tk b d):GE G t tk b d:=⟨k.ok,k.k,s _ _ k.tp,s _ _ k.ky,s _ _ k.bd⟩
theorem MM.gb(k:MM H h a rs):Nh H h (.str "bytes") (some (.ref a)):=by
 have:=Nh.k (k:=Sum.inr "bytes") k.hd;rwa [Pa]at this
theorem MM.ge(k:MM H h a rs):Nh H h (.str "end") (some (oV rs.en)):=by
 have:=Nh.k (k:=Sum.inr "end") k.hd;rwa [uA]at this
theorem MM.gm(k:MM H h a rs):Nh H h (.str "most") (some (.int rs.re)):=by
 have:=Nh.k (k:=Sum.inr "most") k.hd;rwa [Ow]at this
inductive PZ(vs:List V)(H:Hp)(Q:VK)(E:XK):Prop|mk (h a t tk b:J2) (rs:RS) (d:PD) (_:vs=[.ref h,.ref t]) (_:MM H h a rs) (_:GE H t tk b d) (_:Q (.bl (strange rs d)) H)
abbrev Ie:Stmt:=top 47
theorem Et:Ng ["_law_heap_here","_law_piece_here","_law_key_here","_law_at","_law_body_here","_law_more","_law_end"] ["_law_heap_here","_law_piece_here"] (J8 Ie):=by walk_at"e"
theorem Ss{f:J2}{fd:WX}(F:Nk K "_law_strange" "_law_strange" Ie f fd)(B:Bt mg):Ji P w K mg base JN 1 f fd ["_law_heap_here","_law_piece_here"] PZ:=by
 refine F.ok Et (fun vs H Q E h=>?_) (fun r A o s H vs Q E c h=>?_)
 .obtain⟨h,a,t,tk,b,rs,d,rfl,_⟩:=h;rfl
 .obtain⟨h,a,t,tk,b,rs,d,rfl,i,j,q⟩:=h;refine⟨_,(Jn (Bw (Ja 1) (Rl (K:=K) (n:=4) rfl rfl (TL (Tv 2 Et) (TL (Tv 3 Et) (TL (Tv 4 Et) (TL (Tv 5 Et) Rt)))))) (Jn (NH 6 Et (JM (Nj TJ) (Ja 3) (Nz (D1 (D2 (K:=K) rfl)) B.len (Jj 4 Jc)))) (Jn (Np (NC Ar (MC c (Ja 0) N7) My) (Jl (JR (MZ (As (Ja 5)) (Dr (Mo (Nj Rs) (Ja 6) (MC c (Ja 0) N7) (Mp _)))))) NG) (Jl (JR (Pi (Mo (Nj Ev) (Ja 6) (MC c (Ja 0) N7) (Mp _)) (Pi (MZ (Ja 5) (Dr (Mo (Mz Mr) (Ja 6) (MC c (Ja 0) N7) (Mp _)))) (Dr (MZ (As (Ja 5)) (Dr (Mo (Fe Ka) (Ja 6) (MC c (Ja 0) N7) (Mp _)))))))))))),?_⟩;walk_at"rd";refine⟨_,JV.of j.tp,rfl,_,_,rfl,_,_,rfl,_,_,rfl,_,_,rfl,rfl,b,rfl,_,.inl (Je.of j.bd),_,rfl,_,i.ge,?_⟩;rw[Y4];unfold strange at q;cases he:rs.en with
  |none=>
   rw[he]at q;rw[Y3 (by simp[oV])];refine⟨_,rfl,?_⟩;cases hm:d.mo with
   |true=>rw[hm]at q;exact q
   |false=>rw[hm]at q;exact⟨_,i.gm,_,rfl,q⟩
  |some e=>
   rw[he]at q;have g:=i.ge;rw[he]at g;rw[Y1 (by simp[oV])];refine⟨_,g,_,rfl,?_⟩;have l:∀x:Int,(V.int x=oV (some e))↔x=e:=fun x=>by simp[oV]
   cases hm:d.mo with
   |true=>
    rw[hm]at q;dsimp only at q;refine Ti (fun h1=>?_) fun h1=>⟨_,rfl,?_⟩
    .rw[Yg]at h1;rwa [Y3 rfl,Yk (show e <=d.at'+ d.ns.length by omega)]at q
    .rw[Yg]at h1;rw[Y3 rfl];refine⟨_,g,rfl,Ti (fun h2=>?_) fun h2=>⟨_,rfl,?_⟩⟩
     .rw[Yg,l]at h2;rwa [Y3 rfl,Yk (show e <=d.at'+ d.ns.length by omega)]at q
     .rw[Yg,l]at h2;rw[Y1 (by simp)];rwa [Y3 rfl,Ys (show ¬e <=d.at'+ d.ns.length by omega)]at q
   |false=>
    rw[hm]at q;rw[Y1 (by simp)]at q;dsimp only at q;refine Ti (fun h1=>?_) fun h1=>⟨_,rfl,?_⟩
    .rw[Yg]at h1;rwa [Ys (show ¬d.at'+ d.ns.length=e by omega)]at q
    .rw[Y1 (by simp)];refine⟨_,rfl,?_⟩;rw[Y3 (by rfl)];refine⟨_,g,rfl,?_⟩;have p:(!decide (V.int (d.at'+ ↑d.ns.length)=oV (some e)))= !decide (d.at'+ (d.ns.length:Int)=e):=by simp[oV]
     rw[p];exact q
inductive Lg(vs:List V)(H:Hp)(Q:VK)(E:XK):Prop|mk (h a t tk b:J2) (rs:RS) (d:PD) (_:vs=[.ref h,.ref t]) (_:MM H h a rs) (_:GE H t tk b d) (_:Q (oV (Na rs.st d.at' d.ns)) H)
abbrev Fn:Stmt:=top 48
theorem Ex:Ng ["_law_heap_here","_law_piece_here","_law_key_here","_law_at","_law_body_here","_law_more","_law_k"] ["_law_heap_here","_law_piece_here"] (J8 Fn):=by walk_at"e"
theorem wN{f:J2}{fd:WX}(F:Nk K "_law_unlike" "_law_unlike" Fn f fd)(B:Bt mg):Ji P w K mg base JN 1 f fd ["_law_heap_here","_law_piece_here"] Lg:=by
 refine F.ok Ex (fun vs H Q E h=>?_) (fun cdv A z s H vs Q E p h=>?_)
 .obtain⟨h,a,t,tk,b,rs,d,rfl,_⟩:=h;rfl
 .obtain⟨h,a,t,tk,b,rs,d,rfl,l,g,q⟩:=h;refine⟨_,(Jn (Bw (Ja 1) (Rl (K:=K) (n:=4) rfl rfl (TL (Tv 2 Ex) (TL (Tv 3 Ex) (TL (Tv 4 Ex) (TL (Tv 5 Ex) Rt)))))) (Jn (DZ YW rfl (RU rfl B.range (Mm (Nz (D1 (D2 (K:=K) rfl)) B.len (Jj 4 Jc)) Jc)) (Tv 6 Ex) (Jl (Np (NC (Hw (K:=K) (Ju.units p) rfl) (DG (K:=K) rfl Wj PySem.F.slot_dict_get PySem.F.type_dict_get yT (MC p (Ja 0) N7) (JG (hs:=RJ) (JM (Nj TJ) (Ja 3) (Ja 6)) (Gj (DK K (Ja 4) (Ja 6)) Jc))) (DK K (Ja 4) (Ja 6))) (Jl (JR (JM (Nj TJ) (Ja 3) (Ja 6)))) NG))) (Jl (JR My)))),?_⟩;walk_at"rd";have l2:=g.ok.l2;have r:(d.ns.map V.int).length=d.ns.length:=Y4 ..;refine⟨_,JV.of g.tp,rfl,_,_,rfl,_,_,rfl,_,_,rfl,_,_,rfl,rfl,b,rfl,_,.inl (Je.of g.bd),by omega,by omega,?_⟩;rw[r,YN];obtain⟨o,c⟩:∃o:Nat->L2.St->Hp->Prop,o=fun i σ' G=>∃ (v:Option V),σ'=[some (.ref h),some (.ref t),some (.ref tk),some (.int d.at'),some (.ref b),some (.bl d.mo),v]/\G=H/\Na rs.st d.at' d.ns=Na rs.st (d.at'+ (i:Nat)) (d.ns.drop i):=⟨_,rfl⟩
  refine HJ o (by rw[c];exact⟨_,rfl,rfl,by simp⟩) ?_ ?_ <;> rw[c]
  .rintro i σ' G hi ⟨v,rfl,rfl,e⟩;rw[<-c];walk_at"rd";have hn:d.ns[i]?=some d.ns[i]:=Y5 hi;have j:Dj (d.ns.map V.int) (0+ (i:Int))=some (.int d.ns[i]):=by rw[XX];exact Bv (by rw[Yf,hn];rfl)
   refine⟨_,l.gb,?_,_,Je.of g.bd,_,j,_,rfl,_,l.bs,_,Je.of g.bd,_,j,?_⟩
   .exact .inr (.inr (.inl ⟨rfl,.inl ⟨_,l.bs⟩⟩))
   rw[XX,Rc];have u:d.ns.drop i=d.ns[i]::d.ns.drop (i+ 1):=Yz hi;rw[u]at e;have ei:d.at'+ (i:Int)+ 1=d.at'+ ((i+ 1:Nat):Int):=by omega
   rw[show Na rs.st (d.at'+ (i:Nat)) (d.ns[i]::d.ns.drop (i+ 1))=(match JL rs.st (d.at'+ (i:Nat)) with|some x=>if x=d.ns[i] then Na rs.st (d.at'+ (i:Nat)+ 1) (d.ns.drop (i+ 1)) else some (d.at'+ (i:Nat))|none=>Na rs.st (d.at'+ (i:Nat)+ 1) (d.ns.drop (i+ 1))) from rfl,ei]at e;cases hg:JL rs.st (d.at'+ i) with
   |none=>
    rw[hg]at e;refine⟨_,_,.int _,.int _,rfl,rfl,?_⟩;refine⟨_,rfl,?_⟩;rw[Y1 (by simp[PyData.eqv]),c];exact⟨_,rfl,rfl,e⟩
   |some x=>
    rw[hg]at e;refine⟨_,_,.int _,.int _,rfl,rfl,?_⟩;refine⟨_,rfl,?_⟩
    by_cases hx:x=d.ns[i]
    .rw[Y1 (by simp[PyData.eqv,hx]),c];exact⟨_,rfl,rfl,e.trans (Y3 hx)⟩
    .rw[Y3 (by simp[PyData.eqv,hx])];rw[e.trans (Y1 hx)]at q;exact q
  .rintro σ' G ⟨v,rfl,rfl,e⟩;walk_at"rd";rw[XT (Y7 _)]at e;rw[e]at q;exact q
inductive OY(vs:List V)(H:Hp)(Q:VK)(E:XK):Prop|mk (h a t tk b:J2) (ru:Str) (rs:RS) (d:PD) (_:vs=[.ref h,.ref t,.str ru]) (_:MM H h a rs) (_:GE H t tk b d) (_:rs.st.length <=20000) (_:∀G,Nn h a H G->MM G h a (JF (decide (ru="last")) rs d)->Q .non G)
abbrev Fz:Stmt:=top 49
theorem EO:Ng ["_law_heap_here","_law_piece_here","_law_rule","_law_key_here","_law_at","_law_body_here","_law_more","_law_k"] ["_law_heap_here","_law_piece_here","_law_rule"] (J8 Fz):=by walk_at"e"
theorem yP{f:J2}{fd:WX}(F:Nk K "_law_put" "_law_put" Fz f fd)(B:Bt mg):Ji P w K mg base JN 1 f fd ["_law_heap_here","_law_piece_here","_law_rule"] OY:=by
 refine F.ok EO (fun vs H Q E h=>?_) (fun cdv A outer s H vs Q E hr h=>?_)
 .obtain⟨h,a,t,tk,b,ru,rs,d,rfl,_⟩:=h;rfl
 .obtain⟨h,a,t,tk,b,ru,rs,d,rfl,p,hP,hst,q⟩:=h;refine⟨_,(Jn (Bw (Ja 1) (Rl (K:=K) (n:=4) rfl rfl (TL (Tv 3 EO) (TL (Tv 4 EO) (TL (Tv 5 EO) (TL (Tv 6 EO) Rt)))))) (Jn (DZ YW rfl (RU rfl B.range (Mm (Nz (D1 (D2 (K:=K) rfl)) B.len (Jj 5 Jc)) Jc)) (Tv 7 EO) (Jl (Np (PW.pt (R9 (NC (Mz Mr) (Ja 2) N7) (RH (EL (Ih (HF (Ra hr))) (JM (Nj TJ) (Ja 4) (Ja 7)) (MC hr (Ja 0) N7) (by with_unfolding_all rfl))))) (Jl (Od (Ra hr) (MC hr (Ja 0) N7) (JM (Nj TJ) (Ja 4) (Ja 7)) (DK K (Ja 5) (Ja 7)) rfl)) NG))) (Jl (Np (TU (Ja 6)) (Jl (Ps (Ra hr) (Ja 0) N7 (Nz (H9 rfl) B.max (Gj (MC hr (Ja 0) N7) (JG (hs:=RJ) (JM (Nj TJ) (Ja 4) (Nz (D1 (D2 (K:=K) rfl)) B.len (Jj 5 Jc))) Jc))) rfl)) (Jl (Ps (Ra hr) (Ja 0) N7 (JM (Nj TJ) (Ja 4) (Nz (D1 (D2 (K:=K) rfl)) B.len (Jj 5 Jc))) rfl)))))),?_⟩;walk_at"rd";have l2:=hP.ok.l2;have hlm:(d.ns.map V.int).length=d.ns.length:=Y4 ..;refine⟨_,JV.of hP.tp,rfl,_,_,rfl,_,_,rfl,_,_,rfl,_,_,rfl,rfl,b,rfl,_,.inl (Je.of hP.bd),by omega,by omega,?_⟩;rw[hlm,YN];have nba:b≠a:=N6 hP.bd p.bs nofun;have nbh:b≠h:=N6 hP.bd p.hd nofun;have nah:=Ne.symm p.ne;obtain⟨Pv,l⟩:∃Pv:Nat->L2.St->Hp->Prop,Pv=fun i σ' G=>∃ (v:Option V),σ'=[some (.ref h),some (.ref t),some (.str ru),some (.ref tk),some (.int d.at'),some (.ref b),some (.bl d.mo),v]/\Nd a H G/\G a=some (.dK (MA (Mq (decide (ru="last")) rs.st d.at' (d.ns.take i)))):=⟨_,rfl⟩
  refine HJ Pv (by rw[l];exact⟨_,rfl,Nd.refl _ _,p.bs⟩) ?_ ?_ <;> rw[l]
  .rintro i σ' G hi ⟨v,rfl,s,g⟩;rw[<-l];have hn:d.ns[i]?=some d.ns[i]:=Y5 hi;have htk:d.ns.take (i+ 1)=d.ns.take i++[d.ns[i]]:=by rw[WC,hn];rfl
   have hli:((d.ns.take i).length:Int)=i:=by rw[Ym];omega
   have hsz:=Es (decide (ru="last")) (d.ns.take i) rs.st d.at';have hst2:(MA (Mq (decide (ru="last")) rs.st d.at' (d.ns.take i))).length < sizeLine:=Dq (by unfold MA;rw[Y4];rw[Ym]at hsz;omega);have j:=Ht (decide (ru="last")) (d.ns.take i) rs.st d.at' d.ns[i];rw[hli]at j;have u:=s b _ hP.bd nba;have r:=s h _ p.hd p.ne;have hat:Dj (d.ns.map V.int) (0+ (i:Int))=some (.int d.ns[i]):=by rw[XX];exact Bv (by rw[Yf,hn];rfl)
   have hgb:Nh G h (.str "bytes") (some (.ref a)):=by
    have:=Nh.k (k:=Sum.inr "bytes") r;rwa [Pa]at this
   walk_at"rd";rw[XX]at hat;rw[XX]
   by_cases hru:ru="last"
   .refine⟨rfl,?_⟩;rw[Y3 (by rw[hru];exact Yk rfl)];refine⟨_,Je.of u,_,hat,_,hgb,_,rfl,_,g,hst2,fun G1 b1 h1=>?_⟩;rw[Bi]at h1;rw[Y3 (.inl (Yk hru))]at j;rw[l];refine⟨_,rfl,s.trans b1,?_⟩;rw[htk,j];exact h1
   .refine⟨rfl,?_⟩;rw[Y1 (by simpa using hru)];refine⟨_,hgb,_,rfl,_,g,?_⟩;rw[Rc];cases hg:JL (Mq (decide (ru="last")) rs.st d.at' (d.ns.take i)) (d.at'+ i) with
    |none=>
     rw[Y3 (by rfl)];refine⟨_,Je.of u,_,hat,_,hgb,_,rfl,_,g,hst2,fun G1 b1 h1=>?_⟩;rw[Bi]at h1;rw[Y3 (.inr (by rw[hg];rfl))]at j;rw[l];refine⟨_,rfl,s.trans b1,?_⟩;rw[htk,j];exact h1
    |some x=>
     rw[Y1 (by simp)];rw[Y1 (by rw[hg];simp[hru])]at j;rw[l];refine⟨_,rfl,s,?_⟩;rw[htk,j];exact g
  .rintro σ' G ⟨v,rfl,s,g⟩;rw[YS (Y7 _)]at g;have u:=s b _ hP.bd nba;have r:=s h _ p.hd p.ne;have hgm:Nh G h (.str "most") (some (.int rs.re)):=by
    have:=Nh.k (k:=Sum.inr "most") r;rwa [Ow]at this
   walk_at"rd";have fin:∀{G2:Hp} {en:Option Int} {re:Int},Nd h G G2->G2 h=some (.dK (GJ a en re))->(JF (decide (ru="last")) rs d).en=en->(JF (decide (ru="last")) rs d).re=re->Q .non G2:=fun b2 e2 h1 h2=>
    q _ (fun c o e n1 n2=>b2 c o (s c o e n2) n1) ⟨by rw[h1,h2];exact e2,b2 a _ g nah,p.ne⟩
   have lh:(GJ a rs.en rs.re).length < sizeLine:=Dq (by simp[GJ]);cases hm:d.mo with
   |true=>
    rw[Y3 rfl];refine⟨_,hgm,_,.inl (Je.of u),_,rfl,_,r,lh,fun G2 b2 e2=>fin b2 (by rw[yK]at e2;exact e2) ?_ ?_⟩
    .show(if d.mo=true then rs.en else some _)=rs.en;rw[hm];rfl
    .show(if d.mo=true then max rs.re (d.at'+ d.ns.length) else rs.re)=_;rw[hm,Y3 rfl,hlm]
     split <;> omega
   |false=>
    rw[Y1 (by simp)];refine⟨_,.inl (Je.of u),_,r,lh,fun G2 b2 e2=>fin b2 (by rw[jX]at e2;exact e2) ?_ ?_⟩
    .show(if d.mo=true then rs.en else some (d.at'+ d.ns.length))=some _;rw[hm,hlm];rfl
    .show(if d.mo=true then _ else rs.re)=rs.re;rw[hm];rfl
inductive Qa(vs:List V)(H:Hp)(Q:VK)(E:XK):Prop|mk (_:vs=[]) (_:∀h a G,H h=none->H a=none->J9 H G->MM G h a Ms->Q (.ref h) G)
abbrev IC:Stmt:=top 51
theorem Sc:Ng [] [] (J8 IC):=by walk_at"e"
theorem wF{f:J2}{fd:WX}(F:Nk K "_law_heap" "_law_heap" IC f fd):Ji P w K mg base JN 1 f fd [] Qa:=by
 refine F.ok Sc (fun vs H Q E h=>?_) (fun u A n s H vs Q E v h=>?_)
 .obtain⟨rfl,_⟩:=h;rfl
 .obtain⟨rfl,q⟩:=h;refine⟨_,(@Jl _ _ _ (@JR _ _ _ _ (@QC _ _ _ _ _ (@Fa _ _ _ _ _ _ _ _ _ (@N7 _ _ _ _) (@Lr _ _) (@Fa _ _ _ _ _ _ _ _ _ (@N7 _ _ _ _) (@My _ _ _) (@Fa _ _ _ _ _ _ _ _ _ (@N7 _ _ _ _) (@Jp _ _ _ _) (@Si _ _)))) rfl rfl (by simp) (by simp)))),?_⟩;walk_at"rd";intro p l b G a i r;have d:b≠p:=fun z=>by rw[z,ND]at a;cases a
  have g:H b=none:=by rwa [JY d]at a
  refine⟨i p _ ND,[(Sum.inr "bytes",.ref b),(Sum.inr "end",.non),(Sum.inr "most",.int 0)],rfl,by simp,?_⟩;refine q p b _ l g (fun c o e=>?_) ⟨ND,by rw[JY d];exact r,Ne.symm d⟩;have j:c≠p:=Tg e l;rw[JY j];exact i c o (by rw[JY j];exact e)
end
structure DO(E:Int)(cv:List (Int×Int))(low:Int)(f:List (Int×Int)):Prop where
 l0:0 <=low
 cov:Md f
 mem:∀x,Nu f x↔0 <=x/\x < low/\x < E/\¬Nu cv x
 lt:∀q∈f,q.2 < low
 len:(f.length:Int) <=low
theorem DO.zero{E:Int}{cv:List (Int×Int)}:DO E cv 0 []:=⟨Xy _,trivial,fun x=>⟨fun h=>absurd h (Mw x),fun h=>by omega⟩,(fun _ h=>nomatch h),by simp⟩
theorem DO.skip{E:Int}{cv f:List (Int×Int)}{low:Int}(h:DO E cv low f)(hx:¬low < E\/Nu cv low):DO E cv (low+ 1) f:=by
 refine⟨by have:=h.l0;omega,h.cov,fun x=>?_,fun q g=>by have:=h.lt q g;omega,by have:=h.len;omega⟩;rw[h.mem];constructor
 .rintro⟨a,b,c,d⟩;exact⟨a,by omega,c,d⟩
 .rintro⟨a,b,c,d⟩;refine⟨a,?_,c,d⟩
  by_cases e:x=low
  .subst e;rcases hx with z|z
   .exact absurd c z
   .exact absurd z d
  .omega
theorem DO.add{E:Int}{cv f:List (Int×Int)}{low high:Int}(h:DO E cv low f)(h1:low < high)(h2:high <=E)(h3:∀x,low <=x->x < high->¬Nu cv x)(hx:¬high < E\/Nu cv high):DO E cv (high+ 1) (f++[(low,high)]):=by
 have l0:=h.l0;refine⟨by omega,Am h.cov h1 h.lt,fun x=>?_,fun q g=>?_,by have:=h.len;rw[List.length_append];simp;omega⟩
 .rw[El,h.mem,Jm];simp only[Mw,Vp];constructor
  .rintro(⟨a,b,c,d⟩|⟨a,b⟩)
   .exact⟨a,by omega,c,d⟩
   .exact⟨by omega,by omega,by omega,h3 x a b⟩
  .rintro⟨a,b,c,d⟩
   by_cases e:x < low
   .exact .inl ⟨a,e,c,d⟩
   .refine .inr ⟨by omega,?_⟩
    by_cases e2:x=high
    .subst e2;rcases hx with z|z
     .exact absurd c z
     .exact absurd z d
    .omega
 .rcases Ye.mp g with z|z
  .have:=h.lt q z;omega
  .rw[Y9.mp z];show high < high+ 1;omega
theorem DO.done{E:Int}{cv f:List (Int×Int)}{low:Int}(h:DO E cv low f)(hE:¬low < E)(hc:Md cv)(h0:∀p∈cv,0 <=p.1):f=T5 E 0 cv:=by
 obtain⟨a,b,c⟩:=KG (e:=E) hc h0;refine Ol h.cov a fun x=>?_
 rw[h.mem,c];constructor
 .rintro⟨a,b,c,d⟩;exact⟨a,c,d⟩
 .rintro⟨a,c,d⟩;exact⟨a,by omega,c,d⟩
theorem NZ.los{rs:RS}(h:NZ rs):∀p∈rs.cv,0 <=p.1:=fun p a=>h.low p.1 ⟨p,a,Xy _,L8 h.cov a⟩
theorem Du{st:List (Int×Int)}{n:Int}:n∈st.map (·.1)↔(JL st n).isSome=true:=by
 unfold JL;rw[U2,List.find?_isSome,YD];constructor
 .rintro⟨p,hp,rfl⟩;exact⟨p,hp,by simp⟩
 .rintro⟨p,hp,e⟩;exact⟨p,hp,by simpa using e⟩
theorem NZ.topE{rs:RS}(h:NZ rs){v:Int}(h1:v∈(-1:Int)::rs.st.map (·.1))(h2:∀y∈(-1:Int)::rs.st.map (·.1),y <=v):Nw 0 rs.cv=v+ 1/\0 <=v+ 1/\v+ 1 <=4000:=by
 obtain⟨g,f,i⟩:=CY (re:=0) h.cov;have j:=h2 (-1) YA;have d:v= -1\/Nu rs.cv v:=by
  rcases Yp.mp h1 with z|z
  .exact .inl z
  .exact .inr ((h.dom v).mpr (Du.mp z))
 have e:v+ 1 <=4000:=by
  rcases d with z|z
  .omega
  .have:=h.top v z;omega
 refine⟨?_,by omega,e⟩
 by_cases hc:rs.cv=[]
 .rw[hc]at d ⊢;rcases d with z|z
  .rw[z];rfl
  .exact absurd z (Mw v)
 .have a:=f hc;have b:=h2 _ (Yj _ (Du.mpr ((h.dom _).mp a)));have c:=h.low _ a;rcases d with z|z
  .omega
  .have:=g v z;omega
section
variable{P:WV}{w:WZ}{K:J0}{mg:WQ}{base:J6}
inductive HE(vs:List V)(H:Hp)(Q:VK)(E:XK):Prop|mk (h a:J2) (rs:RS) (_:vs=[.ref h]) (_:MM H h a rs) (_:NZ rs) (_:rs.st.length <=20000) (_:∀l G,H l=none->J9 H G->JS G l (T9 rs.en 0 rs.cv)->Q (.ref l) G)
abbrev K0:Stmt:=top 50
theorem RG:Ng ["_law_heap_here","_law_found","_law_end","_law_low","_law_high"] ["_law_heap_here"] (J8 K0):=by walk_at"e"
theorem yL{f:J2}{fd:WX}(F:Nk K "_law_spans" "_law_spans" K0 f fd)(B:Bt mg):Ji P w K mg base JN 1 f fd ["_law_heap_here"] HE:=by
 refine F.ok RG (fun vs H Q E h=>?_) (fun cdv A outer s H vs Q E hr h=>?_)
 .obtain⟨h,a,rs,rfl,_⟩:=h;rfl
 .obtain⟨h,a,rs,rfl,hL,hI,hst,q⟩:=h;refine⟨_,(Jn (NH 1 RG (Mt Jc)) (Jn (NH 2 RG (MC hr (Ja 0) N7)) (Jn (DQ (Np (NC Ar (Ja 2) My) (Jl (NH 2 RG (JM (Nj TJ) (Nz (nD (K:=K) rfl rfl) B.max (JG (hs:=RJ) (JM (Kg CM) (Mt (JG (hs:=Sa) (Zt Sl Jp) Jc)) (Em (vN rfl) rfl B.blist (by rfl) (Gj (MC hr (Ja 0) N7) Jc))) Jc)) Jp))) NG)) (Jn (NH 3 RG Jp) (Jn (Pu YW (NC (Nj RE) (Ja 3) (Ja 2)) (Jn (NH 4 RG (Ja 3)) (Jn (Pu YW (PW.pt (Gy (NC (Nj RE) (Ja 4) (Ja 2)) (R5 (EL (Ih (HF (Ra hr))) (Ja 4) (MC hr (Ja 0) N7) (by with_unfolding_all rfl))))) (Jl (NH 4 RG (JM (Nj TJ) (Ja 4) Jp)))) (Jn (DQ (Np (NC (Nj Ev) (Ja 4) (Ja 3)) (Jl (MW (DG (K:=K) rfl YF YL YM (Gz Gw) (Ja 1) (JG (hs:=Dn) (TY (Jj 3 (Jj 4 Jc))) Jc)))) NG)) (Jl (NH 3 RG (JM (Nj TJ) (Ja 4) Jp))))))) (Jn (DQ (Np (NC Ar (MC hr (Ja 0) N7) My) (Jl (MW (DG (K:=K) rfl YF YL YM (Gz Gw) (Ja 1) (JG (hs:=Dn) (TY (Jj 2 (TX My Jc))) Jc)))) NG)) (Jl (JR (Ja 1))))))))),?_⟩;walk_at"rd";refine⟨JT (by simp),fun p G hp s0 hG=>?_⟩;have hL0:=hL.mono s0;obtain⟨R,eR⟩:∃R:L2.St->Hp->Prop,R=fun σ' g=>∃E:Int,σ'=[some (.ref h),some (.ref p),some (.int E),none,none]/\J9 H g/\g p=some (.lst [])/\0 <=E/\E <=4000/\(rs.en=some E\/rs.en=none/\Nw 0 rs.cv=E):=⟨_,rfl⟩
  refine⟨_,hL0.ge,R,?_,?_⟩
  .cases he:rs.en with
   |none=>
    rw[Y3 (by simp[oV])];refine⟨JT (by simp),fun l1 G1 hl1 r e1=>⟨_,(hL0.mono r).gb,_,rfl,_,(hL0.mono r).bs,fun l2 G2 hl2 i e2=>⟨_,i _ _ e1,_,e2,JT (by simp[MA];omega),fun l3 G3 hl3 s3 e3=>?_⟩⟩⟩;have e4:[V.int (-1)]++(MA rs.st).map (fun kv=>kV kv.1)=((-1:Int)::rs.st.map (·.1)).map V.int:=by
     unfold MA;rw[XM,List.map_cons,XM];rfl
    rw[e4]at e3;refine⟨_,Je.of e3,by simp,fun v hv1 hv2=>?_⟩;obtain⟨t1,t2,t3⟩:=hI.topE hv1 hv2;have s13:=r.trans (i.trans s3);rw[eR];exact⟨v+ 1,rfl,s0.trans s13,s13 p _ hG,t2,t3,.inr ⟨he,t1⟩⟩
   |some e=>
    rw[Y1 (by simp[oV]),eR];exact⟨e,rfl,s0,hG,(hI.en e he).1,(hI.en e he).2,.inl he⟩
  .rintro σ' g hR;rw[eR]at hR;obtain⟨E,rfl,s,hpl,E0,E4,hE⟩:=hR;walk_at"rd";obtain⟨W,eW⟩:∃W:Nat->L2.St->Hp->Prop,W=fun m σ' g=>∃ (d:Int) (v:Option V) (f:List (Int×Int)),σ'=[some (.ref h),some (.ref p),some (.int E),some (.int d),v]/\J9 H g/\JS g p (NO f)/\DO E rs.cv d f/\d <=E+ 1/\m=(E+ 1 - d).toNat:=⟨_,rfl⟩
   refine⟨W,⟨_,by rw[eW];exact⟨0,_,[],rfl,s,⟨[],hpl,.nil⟩,.zero,by omega,rfl⟩⟩,?_⟩;rw[eW];rintro m σ' G1 ⟨d,v,f,rfl,r,hc,hS,hle,rfl⟩;rw[<-eW];have hL1:=hL.mono r;walk_at"wt"
   by_cases hlt:d < E
   .rw[Y3 (Yk hlt)];refine⟨fun σ' g=>∃ (j:Int) (v:Option V) (f:List (Int×Int)),σ'=[some (.ref h),some (.ref p),some (.int E),some (.int j),v]/\J9 H g/\JS g p (NO f)/\DO E rs.cv j f/\j <=E+ 1/\d < j,?_,?_⟩
    .rintro σ' g ⟨j,v,f,rfl,a1,a2,a3,a4,a5⟩;refine⟨(E+ 1 - j).toNat,by omega,?_⟩;rw[eW];exact⟨j,v,f,rfl,a1,a2,a3,a4,rfl⟩
    refine Nt fun N1 o=>?_
    walk_at"rd";refine o _ _ ?_;clear o N1;refine Nt fun N1 o=>?_
    have exit:∀c:Int,d <=c->c <=E->(∀x,d <=x->x < c->¬Nu rs.cv x)->(¬c < E\/Nu rs.cv c)->N1 [some (.ref h),some (.ref p),some (.int E),some (.int d),some (.int c)] G1:=fun c a1 a2 a3 hx=>by
     refine o _ _ ?_;clear o N1;refine Nt fun N1 o=>?_
     walk_at"rd";refine⟨fun σ' g=>σ'=[some (.ref h),some (.ref p),some (.int E),some (.int d),some (.int c)]/\J9 H g/\∃f,JS g p (NO f)/\DO E rs.cv (c+ 1) f,?_,?_⟩
     .by_cases hlh:d < c
      .rw[Y3 (Yk hlh)];obtain⟨xs,n,u⟩:=hc;refine⟨.inl ⟨rfl,_,Je.of n⟩,JT (by simp),fun t G2 ht i e2=>⟨xs,i p _ n,Dq (by rw[u.len,RW];have:=hS.len;omega),fun G3 b3 e3=>?_⟩⟩;have ntp:t≠p:=Ne.symm (Tg n ht);refine⟨rfl,(r.trans i).butNew b3 hp,f++[(d,c)],⟨_,e3,?_⟩,hS.add hlh a2 a3 hx⟩;rw[E9];exact Nm.app (u.tk ((Gf i).trans (E6 b3 (i p _ n)))) (.cons ⟨t,rfl,b3 t _ e2 ntp⟩ .nil)
      .rw[Y1 (by simpa using hlh)];have e:c=d:=by omega
       rw[e]at hx;exact⟨rfl,r,f,hc,by rw[e];exact hS.skip hx⟩
     .rintro σ' g ⟨rfl,i,f',hc',hS'⟩;refine o _ _ ?_;walk_at"rd";exact⟨i,f',hc',hS',by omega,by omega⟩
    refine⟨fun m σ' g=>∃c:Int,σ'=[some (.ref h),some (.ref p),some (.int E),some (.int d),some (.int c)]/\g=G1/\d <=c/\c <=E/\(∀x,d <=x->x < c->¬Nu rs.cv x)/\m=(E - c).toNat,⟨_,d,rfl,rfl,by omega,by omega,fun x a b=>by omega,rfl⟩,?_⟩;rintro m σ' g ⟨c,rfl,eG,a1,a2,a3,rfl⟩;rw[eG];clear eG g;walk_at"rd"
    by_cases h1:c < E
    .rw[Y3 (Yk h1)];refine⟨_,hL1.gb,_,rfl,_,hL1.bs,?_⟩;rw[Rc]
     by_cases h2:Nu rs.cv c
     .have:=(hI.dom c).mp h2;rw[Y1 (by rw[U2,this];simp)];exact exit c a1 a2 a3 (.inr h2)
     .have h3:¬(JL rs.st c).isSome=true:=fun z=>h2 ((hI.dom c).mpr z)
      rw[Y3 (by rw[U2];simpa using h3)];refine⟨fun σ' g=>σ'=[some (.ref h),some (.ref p),some (.int E),some (.int d),some (.int (c+ 1))]/\g=G1,?_,rfl,rfl⟩;rintro σ' g ⟨rfl,rfl⟩;refine⟨_,?_,c+ 1,rfl,rfl,by omega,by omega,fun x b1 b2=>?_,rfl⟩
      .omega
      .by_cases e:x=c
       .rw[e];exact h2
       .exact a3 x b1 (by omega)
    .rw[Y1 (by simpa using h1)];exact exit c a1 a2 a3 (.inl h1)
   .rw[Y1 (by simpa using hlt)];have hf:=hS.done hlt hI.cov hI.los;walk_at"rd";refine⟨fun σ' g=>∃l v,σ'=[some (.ref h),some (.ref p),some (.int E),l,v]/\J9 H g/\JS g p (T9 rs.en 0 rs.cv),⟨_,hL1.ge,?_⟩,?_⟩
    .rcases hE with he|⟨he,ht⟩
     .rw[he,Y1 (by simp[oV])];refine⟨_,_,rfl,r,?_⟩;rw[IT,<-hf];exact hc
     .rw[he,Y3 (by simp[oV])];obtain⟨xs,n,u⟩:=hc;refine⟨.inl ⟨rfl,_,Je.of n⟩,JT (by simp),fun t G2 ht' i e2=>⟨xs,i p _ n,Dq (by rw[u.len,RW];have:=hS.len;omega),fun G3 b3 e3=>?_⟩⟩;have ntp:t≠p:=Ne.symm (Tg n ht');refine⟨_,_,rfl,(r.trans i).butNew b3 hp,?_⟩;rw[HS hI.cov,ht,<-hf];exact⟨_,e3,Nm.app (u.tk ((Gf i).trans (E6 b3 (i p _ n)))) (.cons ⟨t,rfl,b3 t _ e2 ntp⟩ .nil)⟩
    .rintro σ' g ⟨l,v,rfl,i,hc2⟩;exact⟨_,rfl,q p g hp i hc2⟩
inductive KB(vs:List V)(H:Hp)(Q:VK)(E:XK):Prop|mk (h a t tk b:J2) (ru:Str) (rs:RS) (d:PD) (_:vs=[.ref h,.ref t,.str ru]) (_:MM H h a rs) (_:GE H t tk b d) (_:NZ rs) (_:rs.st.length+ d.ns.length <=20000) (_:(strange rs d=true->(ru="refuse"->∀r G,J9 H G->G r=some (.tup [.str "unlike",.int d.at'])->Q (.ref r) G)/\(¬ru="refuse"->∀r G,J9 H G->G r=some (.tup [.str "strange",.non])->Q (.ref r) G))) (_:(strange rs d=false->(∀n,ru="refuse"->Na rs.st d.at' d.ns=some n->∀r G,J9 H G->G r=some (.tup [.str "unlike",.int n])->Q (.ref r) G)/\((ru="refuse"->Na rs.st d.at' d.ns=none)->∀rs',rs'=JF (decide (ru="last")) rs d->(T9 rs'.en 0 rs'.cv≠[]->∀r G,Nn h a H G->MM G h a rs'->G r=some (.tup [.str "kept",.non])->Q (.ref r) G)/\(T9 rs'.en 0 rs'.cv=[]->∀r b' G,Nn h a H G->G r=some (.tup [.str "whole",.ref b'])->G b'=some (.lst ((NT rs').map V.int))->Q (.ref r) G))))
abbrev AS:Stmt:=top 52
theorem wW:Ng ["_law_heap_here","_law_piece_here","_law_rule"] ["_law_heap_here","_law_piece_here","_law_rule"] (J8 AS):=by walk_at"e"
theorem wX{f:J2}{fd:WX}(F:Nk K "_law_taken" "_law_taken" AS f fd)(B:Bt mg)(Nq:NJ P w K mg base "_law_strange" 1 ["_law_heap_here","_law_piece_here"] [] PZ)(NI:NJ P w K mg base "_law_unlike" 1 ["_law_heap_here","_law_piece_here"] [] Lg)
  (GP:NJ P w K mg base "_law_put" 1 ["_law_heap_here","_law_piece_here","_law_rule"] [] OY) (Tw:NJ P w K mg base "_law_spans" 1 ["_law_heap_here"] [] HE):Ji P w K mg base JN 2 f fd ["_law_heap_here","_law_piece_here","_law_rule"] KB:=by
 refine F.ok wW (fun vs H Q E h=>?_) (fun cdv A outer s H vs Q E p h=>?_)
 .obtain⟨h,a,t,tk,b,ru,rs,d,rfl,_⟩:=h;rfl
 .obtain⟨h,a,t,tk,b,ru,rs,d,rfl,hL,q,hI,hst,q1,q2⟩:=h;refine⟨_,(Jn (Np (PW.pt (Gy (NC (Mz Mr) (Ja 2) N7) (R5 (TU (Nr Nq p.m rfl (Jj 0 (Jj 1 Jc))))))) (Jl (JR (TY (TX N7 (Gj (MI K (Ja 1) Jp) Jc))))) NG) (Jn (Np (PW.pt (Gy (NC (Mz Mr) (Ja 2) N7) (R5 (NC Eu (Nr NI p.m rfl (Jj 0 (Jj 1 Jc))) My)))) (Jl (JR (TY (TX N7 (Mm (Nr NI p.m rfl (Jj 0 (Jj 1 Jc))) Jc))))) NG) (Jn (Np (TU (Nr Nq p.m rfl (Jj 0 (Jj 1 Jc)))) (Jl (JR (TY (TX N7 (TX My Jc))))) NG) (Jn (MW (Nr GP p.m rfl (Jj 0 (Jj 1 (Jj 2 Jc))))) (Jn (Np (NC (FG (K9 (K:=K) (Ju.units p) rfl)) (Nr Tw p.m rfl (Jj 0 Jc)) (Mt Jc)) (Jl (JR (TY (TX N7 (JG (hs:=Eh) (DB (N':=["_law_k","_law_heap_here"]) (caps:=[none,some 0]) (D6 (sc:=J8 AS) (N:=["_law_heap_here","_law_piece_here","_law_rule"]) rfl rfl (by decide +kernel)) rfl (RU rfl B.range (Gj (MC p (Ja 0) N7) Jc)) (fun _ _ _ _ _=>(Ml (i:=0) (MK (N:=["_law_k","_law_heap_here"]) rfl (by decide +kernel)) rfl (Or.inl rfl))) (fun _ _ _ _ _=>Dt) (fun _ _ _ _ _=>(MC p (MC p (Ja 1) N7) (Ja 0)))) Jc))))) NG) (Jl (JR (TY (TX N7 (TX My Jc)))))))))),?_⟩;have at1:Dj [V.ref tk,.int d.at',.ref b,.bl d.mo] 1=some (.int d.at'):=rfl;refine Nt fun N j=>?_
  have k1:(ru="refuse"->strange rs d=false)->N [some (.ref h),some (.ref t),some (.str ru)] H:=fun hf=>by
   refine j _ _ ?_;clear j N;refine Nt fun N j=>?_
   have k2:(strange rs d=false->ru="refuse"->Na rs.st d.at' d.ns=none)->N [some (.ref h),some (.ref t),some (.str ru)] H:=fun hu=>by
    refine j _ _ ?_;clear j N;refine Nt fun N j=>?_
    walk_at"rd";refine⟨h,a,t,tk,b,rs,d,rfl,hL,q,_,rfl,Ti (fun hs=>?_) fun hs=>?_⟩
    .refine⟨JT (by simp),fun r G g s e=>(q1 hs).2 (fun z=>?_) r G s e⟩;rw[hf z]at hs;cases hs
    .have hs:strange rs d=false:=by simpa using hs
     refine j _ _ ?_;clear j N;obtain⟨q3,q4⟩:=(q2 hs).2 (hu hs) _ rfl;refine Nt fun N j=>?_
     walk_at"rd";refine⟨h,a,t,tk,b,ru,rs,d,rfl,hL,q,by omega,fun G kp hL'=>j _ _ ?_⟩;clear j N;have hI':=hI.step (decide (ru="last")) q.ok;have hl2:(JF (decide (ru="last")) rs d).st.length <=rs.st.length+ d.ns.length:=Es _ _ _ _;generalize JF (decide (ru="last")) rs d=rs' at q3 q4 hL' hI' hl2;walk_at"rd";refine⟨h,a,rs',rfl,hL',hI',by omega,fun l G2 hl s2 hc=>⟨JT (by simp),fun z G3 hz s3 ez=>⟨_,rfl,?_⟩⟩⟩;obtain⟨xs,hx1,hx2⟩:=hc;refine⟨xs,Je.of (s3 _ _ hx1),Je.of ez,?_⟩;have hxl:=hx2.len;have s23:=s2.trans s3;have u:=hL'.mono s23;have kp3:Nn h a H G3:=fun c o e n1 n2=>s23 c o (kp c o e n1 n2)
     by_cases hn:T9 rs'.en 0 rs'.cv=[]
     .rw[hn]at hxl;rw[Y3 (Yk (show xs.length=0 from hxl))];obtain⟨e,b1,b2,b3,b4⟩:=hI'.body hn;have hg:=u.ge;rw[b1]at hg;refine⟨_,hg,_,rfl,by omega,by omega,?_⟩;rw[YN];obtain⟨Pv,aa⟩:∃Pv:Nat->List V->L2.St->Hp->Prop,Pv=fun i ys σ' G=>G=G3/\ys=((NT rs').take i).map V.int/\∃v,σ'=[v,some (.ref h)]:=⟨_,rfl⟩
      refine Aw Pv (by rw[aa];exact⟨rfl,rfl,_,rfl⟩) ?_ (JT (by omega)) ?_ ?_ <;> rw[aa]
      .rintro i ys σ' G ⟨rfl,rfl,_⟩ _;rw[Y4,Ym];omega
      .rintro i ys σ' G hi ⟨eG,rfl,v,rfl⟩;rw[<-aa,eG];clear eG G;have hib:i < (NT rs').length:=by omega
       have hg2:=b4 i _ (Y5 hib);walk_at"rd";refine⟨_,u.gb,_,rfl,.int (NT rs')[i],?_,?_⟩
       .have:=Nh.k (k:=Sum.inl (0+ (i:Int))) u.bs;rw[Rc,XX,hg2]at this;rw[XX];exact this
       .rw[aa];exact⟨rfl,by rw[YZ,Y5 hib,Yw];rfl,_,rfl⟩
      .rintro ys σ' G ⟨eG,rfl,_⟩ b' G4 hb' s4 e4;rw[eG]at s4;rw[YS (by omega)]at e4;refine⟨JT (by simp),fun r G5 hr5 s5 e5=>q4 hn r b' G5 (fun c o e n1 n2=>s5 c o (s4 c o (kp3 c o e n1 n2))) e5 (s5 _ _ e4)⟩
     .rw [Y1 (by
       simp only [Yg];intro hz;exact hn (List.eq_nil_of_length_eq_zero (by omega)))]
      exact⟨JT (by simp),fun r G4 hr4 s4 e4=>q3 hn r G4 (fun c o e n1 n2=>s4 c o (kp3 c o e n1 n2)) (u.mono s4) e4⟩
   walk_at"rd";refine⟨rfl,Ti (fun g=>⟨h,a,t,tk,b,rs,d,rfl,hL,q,?_⟩) fun g=>k2 fun _ z=>absurd (Yk z) g⟩;have hru:=Xi g;have hs:=hf hru
   try dsimp only
   cases hu:Na rs.st d.at' d.ns with
   |none=>
    rw[Y1 (by simp[oV])];exact k2 fun _ _=>hu
   |some n=>
    rw[Y3 (by simp[oV])];refine⟨h,a,t,tk,b,rs,d,rfl,hL,q,?_⟩;rw[hu];exact⟨JT (by simp),fun r G h0 s e=>(q2 hs).1 n hru hu r G s e⟩
  walk_at"rd";refine⟨rfl,Ti (fun g=>⟨h,a,t,tk,b,rs,d,rfl,hL,q,_,rfl,Ti (fun hs=>?_) fun hs=>k1 fun _=>by simpa using hs⟩) fun g=>k1 fun z=>absurd (Yk z) g⟩;exact⟨_,JV.of q.tp,_,at1,JT (by simp),fun r G h0 s e=>(q1 hs).1 (Xi g) r G s e⟩
def TM(H:Hp)(ps:List (Addr×Addr×Addr))(ds:List PD):Prop:=Paired (fun(q:Addr×Addr×Addr) (d:PD)=>GE H q.1 q.2.1 q.2.2 d) ps ds
def Mu(ps:List (Addr×Addr×Addr)):List V:=ps.map fun q=>V.ref q.1
theorem TM.len{H:Hp}{ps:List (Addr×Addr×Addr)}{ds:List PD}(h:TM H ps ds):ps.length=ds.length:=Paired.length h
theorem TM.mono{H G:Hp}{ps:List (Addr×Addr×Addr)}{ds:List PD}(s:J9 H G)(h:TM H ps ds):TM G ps ds:=by
 induction h with
 |nil=>exact .nil
 |cons r _ ih=>exact .cons (r.mono s) ih
theorem TM.get{H:Hp}{ps:List (Addr×Addr×Addr)}{ds:List PD}(h:TM H ps ds){i:Nat}{q:Addr×Addr×Addr}(e:ps[i]?=some q):∃d,ds[i]?=some d/\GE H q.1 q.2.1 q.2.2 d:=by
 induction h generalizing i with
 |nil=>simp at e
 |cons r _ ih=>
  cases i with
  |zero=>
   simp only[List.getElem?_cons_zero,Option.some.injEq]at e;subst e;exact⟨_,rfl,r⟩
  |succ i=>exact ih (by simpa using e)
theorem Do(ps:List (Addr×Addr×Addr)):(Mu ps).length=ps.length:=Y4 ..
theorem Bj{ps:List (Addr×Addr×Addr)}{i:Nat}{x:V}(h:(Mu ps)[i]?=some x):∃q,ps[i]?=some q/\x= .ref q.1:=by
 unfold Mu at h;rw[Yf]at h;cases e:ps[i]? with
 |none=>rw[e]at h;cases h
 |some q=>rw[e]at h;exact⟨q,rfl,(Yr h).symm⟩
theorem Ln(w:Str):EI (.str w) [.str "whole",.str "unlike"]=decide (w="whole"\/w="unlike"):=by
 rw[YU];simp only[EI,OP,Uk,List.any_nil,VT,Bool.or_eq_true,Yg];exact⟨fun h=>h.imp V5 V5,fun h=>h.imp V5 V5⟩
def OW:Sp:=fun vs H Q _=>∃ (l:J2) (ru:Str) (ps:List (Addr×Addr×Addr)) (ds:List PD),vs=[.ref l,.str ru]/\H l=some (.lst (Mu ps))/\TM H ps ds/\(ds.map fun d=>d.ns.length).sum <=20000/\
 match Nf ru Ms ds with
 | .whole rs=>∀r b G,J9 H G->G r=some (.tup [.str "whole",.ref b])->G b=some (.lst ((NT rs).map V.int))->Q (.ref r) G
 | .unl n=>∀r G,J9 H G->G r=some (.tup [.str "unlike",.int n])->Q (.ref r) G
 | .lack rs=>∀r b G,J9 H G->G r=some (.tup [.str "lacking",.ref b])->JS G b (T9 rs.en 0 rs.cv)->Q (.ref r) G
abbrev Ig:Stmt:=top 53
theorem Bh:Ng ["_law_pieces","_law_rule","_law_heap_here","_law_piece_here","_law_told","_law_what"] ["_law_pieces","_law_rule"] (J8 Ig):=by walk_at"e"
theorem QF{f:J2}{fd:WX}(F:Nk K "_law_due" "_law_due" Ig f fd)(Dg:NJ P w K mg base "_law_heap" 1 [] [] Qa)(Tl:NJ P w K mg base "_law_taken" 2 ["_law_heap_here","_law_piece_here","_law_rule"] [] KB)(Tw:NJ P w K mg base "_law_spans" 1 ["_law_heap_here"] [] HE):Ji P w K mg base JN 3 f fd ["_law_pieces","_law_rule"] OW:=by
 refine F.ok Bh (fun vs H Q E h=>?_) (fun cdv A outer s H vs Q E hr h=>?_)
 .obtain⟨l,ru,ps,ds,rfl,_⟩:=h;rfl
 .obtain⟨l,ru,ps,ds,rfl,hl,hp,hsum,q0⟩:=h;refine⟨_,(Jn (NH 2 Bh (yR Dg hr.m rfl)) (Jn (DZ YW rfl (MG (K:=K) rfl (Ja 0)) (Tv 3 Bh) (Jn (Bw (Nr Tl hr.m rfl (Jj 2 (Jj 3 (Jj 1 Jc)))) (Rl (K:=K) (n:=2) rfl rfl (TL (Tv 4 Bh) (TL (Tv 5 Bh) Rt)))) (Jl (Np (EL (P9 (K:=K) rfl) (Ja 4) (TY (TX N7 (TX N7 Jc))) (by with_unfolding_all rfl)) (Jl (JR (TY (Jj 4 (Jj 5 Jc))))) NG)))) (Jl (JR (TY (TX N7 (Mm (Nr Tw hr.m rfl (Jj 2 Jc)) Jc))))))),?_⟩;walk_at"rd";refine⟨rfl,fun h a G1 hh ha s1 hL1=>⟨⟨_,Je.of (s1 l _ hl)⟩,?_⟩⟩;obtain⟨Pv,ePv⟩:∃Pv:Nat->L2.St->Hp->Prop,Pv=fun i σ' G=>∃ (v3 v4 v5:Option V) (rs:RS),σ'=[some (.ref l),some (.str ru),some (.ref h),v3,v4,v5]/\J9 H G/\MM G h a rs/\NZ rs/\Nf ru Ms ds=Nf ru rs (ds.drop i)/\rs.st.length+ ((ds.drop i).map fun d=>d.ns.length).sum <=20000:=⟨_,rfl⟩
  refine RI (xs:=Mu ps) Pv (by rw[ePv];exact⟨_,_,_,Ms,rfl,s1,hL1,NZ.zero,rfl,by simpa[Ms] using hsum⟩) ?_ ?_ ?_ <;> rw[ePv]
  .rintro i σ' G _ ⟨_,_,_,_,_,s,_⟩;exact Je.of (s l _ hl)
  .rintro i x σ' G hx ⟨v3,v4,v5,rs,rfl,s,hL,hI,b,hst⟩;rw[<-ePv];obtain⟨c,hc,rfl⟩:=Bj hx;obtain⟨d,hd,hO⟩:=TM.get hp hc;have hO1:=hO.mono s;have hlt:i < ds.length:=(Y6.mp hd).1;have hdr:ds.drop i=d::ds.drop (i+ 1):=by
    rw[Yz hlt];rw[Y5 hlt]at hd;rw[Yr hd]
   rw [hdr] at b hst;rw [List.map_cons, UN] at hst;have hrun' : Nf ru rs (d :: ds.drop (i + 1)) = (if strange rs d = true then (if ru = "refuse" then .unl d.at' else Nf ru rs (ds.drop (i + 1))) else
    match (if ru="refuse" then Na rs.st d.at' d.ns else none) with
    |some n=>.unl n
    | none => if T9 (JF (decide (ru = "last")) rs d).en 0 (JF (decide (ru = "last")) rs d).cv = [] then .whole (JF (decide (ru = "last")) rs d) else Nf ru (JF (decide (ru = "last")) rs d) (ds.drop (i + 1))) := rfl
   rw[hrun']at b;have hsame:∀{q},Nn h a G q->J9 H q:=fun kp c o e=>kp c o (s c o e) (Tg e hh) (Tg e ha)
   refine Nt fun N hN=>?_
   have ret:∀ (w:Str) (x:V) (q:Hp),(w="whole"\/w="unlike")->(∀r g,J9 q g->g r=some (.tup [.str w,x])->Q (.ref r) g)->N [some (.ref l),some (.str ru),some (.ref h),some (.ref c.1),some (.str w),some x] q:=fun w x q hw hq=>by
    refine hN _ _ ?_;walk_at"rd";refine⟨JT (by simp),fun p G hp s4 e4=>⟨p,_,rfl,.inr (JV.of e4),rfl,rfl,?_⟩⟩;rw[Y1 (by simp),Ln];refine⟨_,rfl,?_⟩;rw[Y3 (Yk hw)];exact⟨JT (by simp),fun r g hr3 j v=>hq r g (s4.trans j) v⟩
   have stay:∀ (w:Str) (x:V) (q:Hp),¬(w="whole"\/w="unlike")->(∀g,J9 q g->Pv (i+ 1) [some (.ref l),some (.str ru),some (.ref h),some (.ref c.1),some (.str w),some x] g)->N [some (.ref l),some (.str ru),some (.ref h),some (.ref c.1),some (.str w),some x] q:=fun w x q hw hq=>by
    refine hN _ _ ?_;walk_at"rd";refine⟨JT (by simp),fun p G hp s4 e4=>⟨p,_,rfl,.inr (JV.of e4),rfl,rfl,?_⟩⟩;rw[Y1 (by simp),Ln];refine⟨_,rfl,?_⟩;rw[Y1 (by simpa using hw)];exact hq G s4
   walk_at"rd";refine⟨h,a,c.1,c.2.1,c.2.2,ru,rs,d,rfl,hL,hO1,hI,by omega,fun hs=>⟨fun hr r q s2 z=>?_,fun hr r q s2 z=>?_⟩,fun hs=>⟨fun n h2 h3 r q s2 z=>?_,fun hu rs' ers=>?_⟩⟩
   .rw[Y3 hs,Y3 hr]at b;rw[b]at q0;exact⟨r,rfl,_,JV.of z,rfl,_,_,rfl,_,_,rfl,rfl,ret _ _ _ (.inr rfl) fun r' g j v=>q0 r' g (s.trans (s2.trans j)) v⟩
   .rw[Y3 hs,Y1 hr]at b;refine⟨r,rfl,_,JV.of z,rfl,_,_,rfl,_,_,rfl,rfl,stay _ _ _ (by decide +kernel) fun g j=>?_⟩;rw[ePv];exact⟨_,_,_,rs,rfl,s.trans (s2.trans j),hL.mono (s2.trans j),hI,b,by omega⟩
   .rw[Y1 (by rw[hs];simp),Y3 h2,h3]at b;rw[b]at q0;exact⟨r,rfl,_,JV.of z,rfl,_,_,rfl,_,_,rfl,rfl,ret _ _ _ (.inr rfl) fun r' g j v=>q0 r' g (s.trans (s2.trans j)) v⟩
   .have hnone:(if ru="refuse" then Na rs.st d.at' d.ns else none)=none:=by
     split
     .rename_i h;exact hu h
     .rfl
    rw[Y1 (by rw[hs];simp),hnone]at b;have hI':NZ rs':=by rw[ers];exact hI.step _ hO.ok
    have hlen2:rs'.st.length <=rs.st.length+ d.ns.length:=by rw[ers];exact Es _ _ _ _
    rw[<-ers]at b;refine⟨fun hne r q kp hL2 z=>?_,fun heq r b' q kp z eb=>?_⟩
    .have u:Nf ru Ms ds=Nf ru rs' (ds.drop (i+ 1)):=b.trans (Y1 hne);refine⟨r,rfl,_,JV.of z,rfl,_,_,rfl,_,_,rfl,rfl,stay _ _ _ (by decide +kernel) fun g j=>?_⟩;rw[ePv];exact⟨_,_,_,rs',rfl,(hsame kp).trans j,hL2.mono j,hI',u,by omega⟩
    .have u:Nf ru Ms ds= .whole rs':=b.trans (Y3 heq);rw[u]at q0;exact⟨r,rfl,_,JV.of z,rfl,_,_,rfl,_,_,rfl,rfl,ret _ _ _ (.inl rfl) fun r' g j v=>q0 r' b' g ((hsame kp).trans j) v (j _ _ eb)⟩
  .rintro σ' G ⟨v3,v4,v5,rs,rfl,s,hL,hI,b,hst⟩;rw[Do,XT (by have:=TM.len hp;omega)]at b hst;walk_at"rd";have e:Nf ru Ms ds= .lack rs:=b;rw[e]at q0;refine⟨h,a,rs,rfl,hL,hI,by simp at hst;omega,fun l2 q hl2 s2 hc=>⟨JT (by simp),fun r g hr3 j v=>q0 r l2 g (s.trans (s2.trans j)) v (hc.same j)⟩⟩
theorem Gq{C1 C2:J2}{b r:Bool}{x:J1}(h1:W.mroIn K C1 (.ref C2)=some b)(h2:W.typeIn K (.ref C2)=some (.type "type"))(h3:W.mroIn K C2 x=some r)(hs:W.mroIn K C1 (.ref C1)=some true):W.kitOne K (.ref C1) (.ref C2)=some b:=by
 unfold W.kitOne
 by_cases e:C1=C2
 .subst e;rw[h1]at hs;rw[Y3 (by simp),<-hs]
 .rw[Y1 (by simpa using e)];show(if((W.clsIn K C2).isSome && W.typeIn K (.ref C2)==some (.type "type"))=true then W.subIn K (.ref C1) (.ref C2) else none)=some b;have a:(W.clsIn K C2).isSome=true:=by
   unfold W.mroIn at h3;cases hq:W.clsIn K C2 with
   |none=>rw[hq]at h3;cases h3
   |some cd=>rfl
  rw[Y3 (by rw[a,h2];simp)];exact h1
structure Op(K:J0)(CW CK CU CA:J2):Prop where
 icW:RM K CW
 icK:RM K CK
 icU:RM K CU
 ww:W.kitOne K (.ref CW) (.ref CW)=some true
 wk:W.kitOne K (.ref CW) (.ref CK)=some false
 wu:W.kitOne K (.ref CW) (.ref CU)=some false
 wa:W.kitOne K (.ref CW) (.ref CA)=some true
 kw:W.kitOne K (.ref CK) (.ref CW)=some false
 kk:W.kitOne K (.ref CK) (.ref CK)=some true
 ku:W.kitOne K (.ref CK) (.ref CU)=some false
 ka:W.kitOne K (.ref CK) (.ref CA)=some true
 uw:W.kitOne K (.ref CU) (.ref CW)=some false
 uk:W.kitOne K (.ref CU) (.ref CK)=some false
 uu:W.kitOne K (.ref CU) (.ref CU)=some true
 ua:W.kitOne K (.ref CU) (.ref CA)=some true
inductive Hi(CW CK CU:J2)(vs:List V)(H:Hp)(Q:VK)(E:XK):Prop|mk (m r:J2) (_:vs=[.ref m,.ref r]) (_:((∃ (b b2:J2) (ns:J3),TN CW "body" H m b (ns.map V.int)/\H r=some (.tup [.str "whole",.ref b2])/\H b2=some (.lst (ns.map V.int)))\/(∃ (b b2:J2) (xs:List V) (c:List (Int×Option Int)),TN CK "spans" H m b xs/\Nm H xs c/\H r=some (.tup [.str "lacking",.ref b2])/\JS H b2 c)\/(∃ (n:Int),D9 CU "at" H m (.int n)/\H r=some (.tup [.str "unlike",.int n])))) (_:∀G,J9 H G->Q (.bl true) G)
abbrev AZ:Stmt:=top 54
theorem K6:Ng ["_law_found","_law_due_here","_law_kinds","_law_words"] ["_law_found","_law_due_here"] (J8 AZ):=by walk_at"e"
theorem Sx{f CW CK CU CA:J2}{fd:WX}(F:Nk K "_law_right" "_law_right" AZ f fd)(B:Bt mg)(X:Op K CW CK CU CA)(LW:Rp K CW "body")(LK:Rp K CK "spans")(LU:Rp K CU "at")
  (gC_Whole:mg "Whole"=some (.ref CW)) (gC_Lacking:mg "Lacking"=some (.ref CK)) (gC_Unlike:mg "Unlike"=some (.ref CU)) (gC_Answer:mg "Answer"=some (.ref CA)):Ji P w K mg base JN 1 f fd ["_law_found","_law_due_here"] (Hi CW CK CU):=by
 refine F.ok K6 (fun vs H Q E h=>?_) (fun cdv A outer s H vs Q E a h=>?_)
 .obtain⟨m,r,rfl,_⟩:=h;rfl
 .obtain⟨m,r,rfl,hd,q⟩:=h;refine⟨_,(Jn (NH 2 K6 (Mt (Mm (Nz (AT (K:=K) rfl) B.isinstance (Jj 0 (JG (hs:=MJ) (E3 (v:=.ref CW) rfl gC_Whole rfl) Jc))) (Mm (Nz (AT (K:=K) rfl) B.isinstance (Jj 0 (JG (hs:=MJ) (E3 (v:=.ref CK) rfl gC_Lacking rfl) Jc))) (Mm (Nz (AT (K:=K) rfl) B.isinstance (Jj 0 (JG (hs:=MJ) (E3 (v:=.ref CU) rfl gC_Unlike rfl) Jc))) Jc))))) (Jn (NH 3 K6 (Mt (TX N7 (TX N7 (TX N7 Jc))))) (Jn (Np (PW.pt (R9 (MB (TU (Nz (AT (K:=K) rfl) B.isinstance (Jj 0 (JG (hs:=MJ) (E3 (v:=.ref CA) rfl gC_Answer rfl) Jc))))) (RH (NC (Hw (K:=K) (Ju.units a) rfl) (Ja 2) (DB (N':=["_law_word","_law_due_here"]) (caps:=[none,some 1]) (D6 (sc:=J8 AZ) (N:=["_law_found","_law_due_here","_law_kinds","_law_words"]) rfl rfl (by decide +kernel)) rfl (MG (K:=K) rfl (Ja 3)) (fun _ _ _ _ _=>(Ml (i:=0) (MK (N:=["_law_word","_law_due_here"]) rfl (by decide +kernel)) rfl (Or.inl rfl))) (fun _ _ _ _ _=>Dt) (fun _ _ _ _ _=>(Mo (Mz Mr) (MI K (Ja 1) Jp) (Ja 0) (Mp _)))))))) (Jl (JR Re)) NG) (Jn (Np (NC (Mz Mr) (MI K (Ja 1) Jp) N7) (Jl (JR (MZ (Nz (GC "list") B.isinstance (DD (Tq K (Ja 0)) (JG (hs:=MJ) (GN (v:=.ty "list") rfl B.blist (by rfl) rfl) Jc))) (Dr (Mo (Bz (K:=K) (Ju.units a) rfl) (Tq K (Ja 0)) (MI K (Ja 1) Jp) (Mp _)))))) NG) (Jn (Np (NC (Mz Mr) (MI K (Ja 1) Jp) N7) (Jl (JR (MZ (Nz (GC "list") B.isinstance (DD (Tq K (Ja 0)) (JG (hs:=MJ) (GN (v:=.ty "list") rfl B.blist (by rfl) rfl) Jc))) (Dr (Mo (Bz (K:=K) (Ju.units a) rfl) (Tq K (Ja 0)) (MI K (Ja 1) Jp) (Mp _)))))) NG) (Jl (JR (Mo (Bz (K:=K) (Ju.units a) rfl) (Tq K (Ja 0)) (MI K (Ja 1) Jp) (Mp _))))))))),?_⟩;obtain⟨C,dx,fs,o,x0,e,bk,g,hm,cl,z,i1,i2,i3,i4,hr0,e1,e2,e3⟩:∃ (C dx:J2) (fs:List (Str×V)) (o:Str) (x0:V) (e bk g:Bool),H m=some (.ins C dx fs)/\MQ K C/\RM K C/\W.kitOne K (.ref C) (.ref CW)=some e/\W.kitOne K (.ref C) (.ref CK)=some bk/\W.kitOne K (.ref C) (.ref CU)=some g/\W.kitOne K (.ref C) (.ref CA)=some true/\
    H r=some (.tup [.str o,x0])/\decide (o="whole")=e/\decide (o="lacking")=bk/\decide (o="unlike")=g:=by
   rcases hd with⟨b,b2,ns,⟨dx,fs,h1,_⟩,h2,_⟩|⟨b,b2,xs,c,⟨dx,fs,h1,_⟩,_,h2,_⟩|⟨n,⟨dx,fs,h1,_⟩,h2⟩
   .exact⟨_,dx,fs,_,_,true,false,false,h1,LW.cl,X.icW,X.ww,X.wk,X.wu,X.wa,h2,by decide +kernel,by decide +kernel,by decide +kernel⟩
   .exact⟨_,dx,fs,_,_,false,true,false,h1,LK.cl,X.icK,X.kw,X.kk,X.ku,X.ka,h2,by decide +kernel,by decide +kernel,by decide +kernel⟩
   .exact⟨_,dx,fs,_,_,false,false,true,h1,LU.cl,X.icU,X.uw,X.uk,X.uu,X.ua,h2,by decide +kernel,by decide +kernel,by decide +kernel⟩
  refine Nt fun N j=>?_
  walk_at"rd";refine⟨_,_,_,hm,cl,z,_,i1,_,_,_,hm,cl,z,_,i2,_,_,_,hm,cl,z,_,i3,JT (by simp),fun p1 G1 hp1 s1 g1=>j _ _ ?_⟩;clear j N;refine Nt fun N j=>?_
  walk_at"rd";refine⟨JT (by simp),fun p2 G2 hp2 s2 g2=>j _ _ ?_⟩;clear j N;have u:=s1.trans s2;refine Nt fun N j=>?_
  walk_at"rd";refine⟨_,_,_,u _ _ hm,cl,z,_,i4,?_⟩;rw[Y1 (by simp)];refine⟨⟨_,Je.of g2⟩,?_⟩;have hr2:=u _ _ hr0;obtain⟨Pv,l⟩:∃Pv:Nat->List V->L2.St->Hp->Prop,Pv=fun i ys σ' G=>G=G2/\ys=([e,bk,g].take i).map V.bl/\∃v,σ'=[v,some (.ref r)]:=⟨_,rfl⟩
  refine GT (xs:=[.str "whole",.str "lacking",.str "unlike"]) Pv (by rw[l];exact⟨rfl,rfl,_,rfl⟩) ?_ (JT (by simp)) ?_ ?_ <;> rw[l]
  .rintro i ys σ' G ⟨rfl,rfl,_⟩ _;exact⟨Je.of g2,by rw[Y4,Ym];omega⟩
  .rintro i y ys σ' G hy ⟨eG,rfl,v,rfl⟩;rw[<-l,eG];clear eG G;obtain⟨wd,ewd,hwd⟩:∃wd:Str,y= .str wd/\([e,bk,g].take (i+ 1)).map V.bl=([e,bk,g].take i).map V.bl++[.bl (decide (o=wd))]:=by
    match i,hy with
    |0,hy=>cases hy;exact⟨_,rfl,by rw[e1];rfl⟩
    |1,hy=>cases hy;exact⟨_,rfl,by rw[e2];rfl⟩
    |2,hy=>cases hy;exact⟨_,rfl,by rw[e3];rfl⟩
   subst ewd;walk_at"rd";refine⟨_,JV.of hr2,_,rfl,rfl,?_⟩;rw[l];refine⟨rfl,?_,_,rfl⟩;rw[hwd];simp
  .rintro ys σ' G ⟨eG,rfl,_⟩ p3 p hp3 s3 g3;rw[eG]at s3;have g1':=s3 _ _ (s2 _ _ g1);refine⟨.list [.bool e,.bool bk,.bool g],.list [.bool e,.bool bk,.bool g],.lst (Je.of g1') (.cons (.bl _) (.cons (.bl _) (.cons (.bl _) .nil))),.lst (Je.of g3) (.cons (.bl _) (.cons (.bl _) (.cons (.bl _) .nil))),rfl,rfl,?_⟩;rw[show PyData.eqv (.list [.bool e,.bool bk,.bool g]) (.list [.bool e,.bool bk,.bool g])=true by simp[PyData.eqv,PyData.eqvAll]];refine⟨_,rfl,?_⟩;rw[Y1 (by simp)];refine j _ _ ?_;clear j N;have d:=u.trans s3;clear i1 i2 i3 i4 e1 e2 e3 hr0 hr2 hm cl z;rcases hd with⟨b,b2,ns,⟨dx,fs,h1,h2,h3⟩,h4,h5⟩|⟨b,b2,xs,c,⟨dx,fs,h1,h2,h3⟩,h4,h5,h6⟩|⟨n,⟨dx,fs,h1,h2⟩,h4⟩
   .have a:=d _ _ h4;have hb:=d _ _ h3;have hf:TQ K p (.ref m) "body" (.ref b):=⟨m,CW,dx,fs,rfl,d _ _ h1,LW.cl,LW.na,h2⟩
    walk_at"rd";refine⟨_,JV.of a,_,rfl,rfl,?_⟩;rw[Y3 (by simp)];refine⟨_,hf,_,Bp hb,?_⟩;rw[Y3 (by decide)];refine⟨_,hf,_,JV.of a,_,rfl,_,_,LJ hb,LJ (d _ _ h5),La _,La _,?_⟩;rw[SD];exact q p d
   .have a:=d _ _ h5;have hb:=d _ _ h3;have hf:TQ K p (.ref m) "spans" (.ref b):=⟨m,CK,dx,fs,rfl,d _ _ h1,LK.cl,LK.na,h2⟩
    walk_at"rd";refine⟨_,JV.of a,_,rfl,rfl,?_⟩;rw[Y1 (by simp;decide +kernel)];refine⟨_,JV.of a,_,rfl,rfl,?_⟩;rw[Y3 (by simp)];refine⟨_,hf,_,Bp hb,?_⟩;rw[Y3 (by decide)];refine⟨_,hf,_,JV.of a,_,rfl,_,_,LH ⟨_,hb,h4.tk (Gf d)⟩,LH (h6.same d),P6 _,P6 _,?_⟩;rw[tR,Yk rfl];exact q p d
   .have a:=d _ _ h4;have hf:TQ K p (.ref m) "at" (.int n):=⟨m,CU,dx,fs,rfl,d _ _ h1,LU.cl,LU.na,h2⟩
    walk_at"rd";refine⟨_,JV.of a,_,rfl,rfl,?_⟩;rw[Y1 (by simp;decide +kernel)];refine⟨_,JV.of a,_,rfl,rfl,?_⟩;rw[Y1 (by simp;decide +kernel)];refine⟨_,hf,_,JV.of a,_,rfl,_,_,.int _,.int _,rfl,rfl,?_⟩;rw[show PyData.eqv (.int n) (.int n)=true by simp[PyData.eqv]];exact q p d
end
def Ru(k:Int×Str×Str):Prop:=0 <=k.1/\k.1 <=65535/\T8 k.2.1/\T8 k.2.2
section
variable{P:WV}{w:WZ}{K:J0}{mg:WQ}{base:J6}
def Da(k:Ky):PyData:=Ef k.1 k.2.1 k.2.2
theorem IM{G:Hp}:∀{zs:List V} {ks:List Ky},Pw (fun x k=>∃t,x=V.ref t/\G t=some (.tup (Me k))) zs ks->T4 K G zs (ks.map Da)
 |[],[],_=>.nil
 |[],_::_,h=>absurd h.1 (by simp)
 |_::_,[],h=>absurd h.1 (by simp)
 |x::zs,k::ks,h=>by
  obtain⟨t,rfl,ht⟩:=h.2 0 x k rfl rfl;exact .cons (Be ht) (IM ⟨by have:=h.1;simpa using this,fun j x y a b=>h.2 (j+ 1) x y (by simpa using a) (by simpa using b)⟩)
theorem P8{ks:List Ky}(h:∀k∈ks,Ru k):SeqAt.shaped (.list (ks.map Da))=true:=by
 have h1:∀c:List Ky,(∀k∈c,Ru k)->PyData.canLayAll0 (c.map Da)=true:=fun c=>by
  induction c with
  |nil=>exact fun _=>rfl
  |cons p r ih=>
   intro b;have a:=b p (.head _);simp[PyData.canLayAll0,PyData.canLay0,Da,a.2.2.1.ok,a.2.2.2.ok,ih fun k d=>b k (.tail _ d)]
 have h2:∀c:List Ky,PyData.depthAll (c.map Da) <=6:=fun c=>by
  induction c with
  |nil=>simp[PyData.depthAll]
  |cons p r ih=>simp[PyData.depthAll,PyData.depth,Da];omega
 have e:=h2 ks;simp[SeqAt.shaped,PyData.canLay0,h1 ks h,PyData.depth];omega
theorem Qv(ks:List Ky):PyData.eqv (.list (ks.map Da)) (.list (ks.map Da))=true:=by
 have h:∀c:List Ky,PyData.eqvAll (c.map Da) (c.map Da)=true:=fun c=>by
  induction c with
  |nil=>simp[PyData.eqvAll]
  |cons p r ih=>
   show(PyData.eqv (Da p) (Da p) && PyData.eqvAll (r.map Da) (r.map Da))=true;unfold Da at ih ⊢;rw[SU,ih];rfl
 exact h ks
end
theorem Zk{ds:List PD}{ks js:List Ky}(hK:AH ds ks)(hn:js.Nodup)(hs:js.Pairwise fun a b=>TV b a=false)(hm:∀k,k∈js↔∃d∈ds,d.key=k):js=ks:=
 List.Perm.eq_of_pairwise (fun a b _ _ h1 h2=>DJ.total a b h2 h1) hs hK.so ((List.perm_ext_iff_of_nodup hn hK.nd).mpr fun k=>(hm k).trans (hK.ky k).symm)
section
variable{P:WV}{w:WZ}{K:J0}{mg:WQ}{base:J6}
inductive Hy(CW CK CU:J2)(vs:List V)(H:Hp)(Q:VK)(E:XK):Prop|mk (m l:J2) (ru:Str) (ys:List V) (ks kt:List Ky) (ps:List (Addr×Addr×Addr)) (ds:List PD) (_:vs=[.ref m,.ref l,.str ru]) (_:H m=some (.lst ys)) (_:Pw (MX CW CU CK H ru ds) ys ks) (_:AH ds ks) (_:H l=some (.lst (Mu ps))) (_:TM H ps ds) (_:ds.length <=700) (_:(ds.map fun d=>d.ns.length).sum <=20000) (_:kt.length <=8) (_:(∀d∈ds,d.key∈kt)) (_:∀G,J9 H G->Q (.bl true) G)
abbrev RZ:Stmt:=top 55
theorem C9:Ng ["_law_found","_law_pieces","_law_rule","_law_keys","_law_key_here","_law_answer"] ["_law_found","_law_pieces","_law_rule"] (J8 RZ):=by walk_at"e"
theorem Qn{f CW CK CU:J2}{fd:WX}(F:Nk K "_law_all_right" "_law_all_right" RZ f fd)(B:Bt mg)(B2:Ae mg)(B7:Qc mg)(GK:NJ P w K mg base "_law_due" 3 ["_law_pieces","_law_rule"] [] OW)(MH:NJ P w K mg base "_law_right" 1 ["_law_found","_law_due_here"] [] (Hi CW CK CU)):Ji P w K mg base JN 4 f fd ["_law_found","_law_pieces","_law_rule"] (Hy CW CK CU):=by
 refine F.ok C9 (fun vs H Q E h=>?_) (fun cdv A outer s H vs Q E hr h=>?_)
 .obtain⟨m,l,ru,ys,ks,kt,ps,ds,rfl,_⟩:=h;rfl
 .obtain⟨m,l,ru,ys,ks,kt,ps,ds,rfl,hm,hy,hK,hl,hp,hn,hsum,hkt,hkm,q⟩:=h;refine⟨_,(Jn (NH 3 C9 (Nz (vZ (w:=w) (P:=P) rfl (Ju.units hr) rfl rfl) B2.sorted (Mm (Em (wZ (K:=K) (w:=w) (P:=P) rfl (Ju.units hr) rfl rfl rfl) rfl B7.bset (by rfl) (JG (hs:=Eh) (DB (N':=["_law_piece_here"]) (caps:=[none]) (D6 (sc:=J8 RZ) (N:=["_law_found","_law_pieces","_law_rule","_law_keys","_law_key_here","_law_answer"]) rfl rfl (by decide +kernel)) rfl (MG (K:=K) rfl (Ja 1)) (fun _ _ _ _ _=>(Ml (i:=0) (MK (N:=["_law_piece_here"]) rfl (by decide +kernel)) rfl (Or.inl rfl))) (fun _ _ _ _ _=>Dt) (fun _ _ _ _ _=>(MI K (Ja 0) Jp))) Jc)) Jc))) (Jn (Np (PW.pt (R9 (MB (TU (Nz (GC "list") B.isinstance (Jj 0 (JG (hs:=MJ) (GN (v:=.ty "list") rfl B.blist (by rfl) rfl) Jc))))) (RH (NC (Hw (K:=K) (Ju.units hr) rfl) (DB (N':=["_law_one"]) (caps:=[none]) (D6 (sc:=J8 RZ) (N:=["_law_found","_law_pieces","_law_rule","_law_keys","_law_key_here","_law_answer"]) rfl rfl (by decide +kernel)) rfl (MG (K:=K) rfl (Ja 0)) (fun _ _ _ _ _=>(Ml (i:=0) (MK (N:=["_law_one"]) rfl (by decide +kernel)) rfl (Or.inl rfl))) (fun _ _ _ _ _=>Dt) (fun _ _ _ _ _=>(MI K (Ja 0) Jp))) (Ja 3))))) (Jl (JR Re)) NG) (Jn (Np (NC (Qs (QJ (K:=K) (Ju.units hr) rfl)) (DB (N':=["_law_one"]) (caps:=[none]) (D6 (sc:=J8 RZ) (N:=["_law_found","_law_pieces","_law_rule","_law_keys","_law_key_here","_law_answer"]) rfl rfl (by decide +kernel)) rfl (MG (K:=K) rfl (Ja 0)) (fun _ _ _ _ _=>(Ml (i:=0) (MK (N:=["_law_one"]) rfl (by decide +kernel)) rfl (Or.inl rfl))) (fun _ _ _ _ _=>(Lu (MB (TU (Nz (GC "tuple") B.isinstance (Jj 0 (JG (hs:=MJ) (GN (v:=.ty "tuple") rfl B.btuple (by rfl) rfl) Jc))))))) (fun _ _ _ _ _=>(Ja 0))) (Mt Jc)) (Jl (JR Re)) NG) (Jn (DZ YW rfl (MG (K:=K) rfl (Ja 0)) (Rl (K:=K) (n:=2) rfl rfl (TL (Ml (i:=4) (C9).nd rfl (Or.inr rfl)) (TL (Tv 5 C9) Rt))) (Jl (Np (MB (TU (Nr MH hr.m rfl (Jj 5 (Mm (Nr GK hr.m rfl (JG (hs:=Eh) (DB (N':=["_law_piece_here","_law_key_here"]) (caps:=[none,some 4]) (D6 (sc:=J8 RZ) (N:=["_law_found","_law_pieces","_law_rule","_law_keys","_law_key_here","_law_answer"]) rfl rfl (by decide +kernel)) rfl (MG (K:=K) rfl (Ja 1)) (fun _ _ _ _ _=>(Ml (i:=0) (MK (N:=["_law_piece_here","_law_key_here"]) rfl (by decide +kernel)) rfl (Or.inl rfl))) (fun _ _ _ _ _=>(Lu (NC (Bz (K:=K) (Ju.units hr) rfl) (MI K (Ja 0) Jp) (Ja 1)))) (fun _ _ _ _ _=>(Ja 0))) (Jj 2 Jc))) Jc))))) (Jl (JR Re)) NG))) (Jl (JR Re)))))),?_⟩;refine Nt fun N hN=>?_
  walk_at"rd";have hpl:=hp.len;refine⟨⟨_,Je.of hl⟩,GT (xs:=Mu ps) (fun i zs σ' G=>G=H/\zs=(ps.take i).map (fun x=>V.ref x.2.1)/\∃v,σ'=[v]) ⟨rfl,rfl,_,rfl⟩ ?_ (JT (by rw[Do];omega)) ?_ ?_⟩
  .rintro i zs σ' G ⟨rfl,rfl,_⟩ hi;exact⟨Je.of hl,by rw[Y4,Ym];omega⟩
  .rintro i x zs σ' G hx ⟨rfl,rfl,v,rfl⟩;obtain⟨c,hc,rfl⟩:=Bj hx;obtain⟨d,hd,hO⟩:=hp.get hc;walk_at"rd";exact⟨_,JV.of hO.tp,_,rfl,by rw[YZ,hc,Yw];rfl⟩
  .rintro zs σ' G ⟨rfl,rfl,v,rfl⟩ p1 G1 hp1 s1 e1;have hp':=hp.mono s1;rw[Do,Xp]at e1;refine⟨p1,rfl,ps.map (·.2.1),Je.of (by rw[e1,XM];rfl),ds.map (·.key),by simp[hpl],fun i t k ht g=>?_,kt,hkt,fun k g=>?_,fun o mm l1 G2 hnd hmm hS hl1 s2 e2=>⟨o,e2,mm,G1,s2,hS,?_,fun js ts l2 G3 hpm hso htl hts hl2 s3 e3=>?_⟩⟩
   .rw[Yf]at ht g;obtain⟨c,hc,rfl⟩:=YE.mp ht;obtain⟨d,hd,hO⟩:=hp'.get hc;rw[hd]at g;cases g;exact hO.ky
   .obtain⟨d,hd,rfl⟩:=YD.mp g;exact hkm d hd
   .refine YT (An (u:=kt) hnd fun k g=>?_) hkt;obtain⟨d,hd,rfl⟩:=YD.mp ((hmm k).mp g);exact hkm d hd
   .obtain rfl:js=ks:=Zk hK (hpm.nodup_iff.mpr hnd) hso fun k=>by rw[hpm.mem_iff,hmm,YD]
    refine hN _ _ ?_;clear hN N hpm hnd hmm hS hso;have s13:=s1.trans (s2.trans s3);have hts3:∀ (i:Nat) t k,ts[i]?=some t->js[i]?=some k->G3 t=some (.tup (Me k)):=fun i t k a b=>s3 _ _ (hts i t k a b)
    clear hts e1 e2 hl1 hl2 hp1;refine Nt fun N hN=>?_
    walk_at"rd";have hm3:=s13 _ _ hm;have hy3:=Bl s13 hy;have hyl:=hy3.1;have hjl:js.length <=8:=YT (An (u:=kt) hK.nd fun k g=>by obtain⟨d,hd,e⟩:=(hK.ky k).mp g;rw[<-e];exact hkm d hd) hkt;have hkok:∀k∈js,Ru k:=fun k g=>by
     obtain⟨d,hd,rfl⟩:=(hK.ky k).mp g;obtain⟨i,hi⟩:=Yy.mp hd;obtain⟨c,hc⟩:∃c,ps[i]?=some c:=⟨_,Y5 (by rw[hpl];exact(Y6.mp hi).1)⟩;obtain⟨d',hd',hO⟩:=hp.get hc;rw[hi]at hd';cases hd';exact⟨hO.ok.n0,hO.ok.n1,hO.ok.k1,hO.ok.k2⟩
    refine⟨_,Bp hm3,?_⟩;rw[Y1 (by decide)];refine⟨⟨_,Je.of hm3⟩,GT (xs:=ys) (fun i zs σ' G=>G=G3/\Pw (fun x k=>∃t,x=V.ref t/\G3 t=some (.tup (Me k))) zs (js.take i)/\∃v,σ'=[v]) ⟨rfl,⟨rfl,fun j x y h=>by simp at h⟩,_,rfl⟩ ?_ (JT (by omega)) ?_ ?_⟩
    .rintro i zs σ' G ⟨rfl,hz,_⟩ hi;exact⟨Je.of hm3,by rw[hz.1,Ym];omega⟩
    .rintro i x zs σ' G hx ⟨rfl,hz,v,rfl⟩;obtain⟨k,g,t,tk,va,rfl,ht,htk,hA⟩:=hy3.get hx;walk_at"rd";refine⟨_,JV.of ht,_,rfl,?_⟩;rw[YZ,g];exact hz.snoc ⟨tk,rfl,htk⟩
    .rintro zs σ' G ⟨rfl,hz,v,rfl⟩ p4 G4 hp4 s4 e4;rw[hyl,Xp]at hz;refine⟨_,_,.lst (Je.of e4) (IM (hz.imp fun x k ⟨t,a,b⟩=>⟨t,a,s4 _ _ b⟩)),.lst (Je.of (s4 _ _ e3)) (IM ⟨by rw[Y4,htl],fun j x y a b=>?_⟩),P8 hkok,P8 hkok,_,rfl,?_⟩
     .rw[Yf]at a;obtain⟨t,ht,rfl⟩:=YE.mp a;exact⟨t,rfl,s4 _ _ (hts3 j t y ht b)⟩
     rw[Qv,Y1 (by simp)];refine hN _ _ ?_;clear hN N hz e4 hp4 zs;have s14:=s13.trans s4;have hm4:=s14 _ _ hm;have hy4:=Bl s14 hy;have hp5:=hp.mono s14;have hl4:=s14 _ _ hl;clear hm3 hy3 hts3 e3 htl s13 s4 s3 s2 s1 hp' hl hm hy;refine Nt fun N hN=>?_
     walk_at"rd";refine⟨⟨_,Je.of hm4⟩,GT (xs:=ys) (fun i zs σ' G=>G=G4/\zs=[]/\∃v,σ'=[v]) ⟨rfl,rfl,_,rfl⟩ ?_ (JT (by omega)) ?_ ?_⟩
     .rintro i zs σ' G ⟨rfl,rfl,_⟩ hi;exact⟨Je.of hm4,Yv _⟩
     .rintro i x zs σ' G hx ⟨rfl,rfl,v,rfl⟩;obtain⟨k,g,t,tk,va,rfl,ht,htk,hA⟩:=hy4.get hx;walk_at"rd";refine⟨_,nQ ht,?_⟩;rw[Y1 (by decide)]
      trivial
     .rintro zs σ' G ⟨rfl,rfl,v,rfl⟩ p5 G5 hp5 s5 e5;refine⟨JT (by simp),fun p6 G6 hp6 s6 e6=>⟨p5,rfl,[],Je.of (s6 _ _ e5),Je.of e6,?_⟩⟩;rw[Y1 (by decide)];refine hN _ _ ?_;clear hN N;have s46:=s5.trans s6;clear e5 e6 hp5 hp6;have s06:=s14.trans s46;refine Nt fun N hN=>?_
      walk_at"rd";have hm6:=s46 _ _ hm4;have hy6:=Bl s46 hy4;have hp6:=hp5.mono s46;have hl6:=s46 _ _ hl4;obtain⟨Pv,ePv⟩:∃Pv:Nat->L2.St->Hp->Prop,Pv=fun i σ' G=>∃v4 v5:Option V,σ'=[some (.ref m),some (.ref l),some (.str ru),some (.ref l2),v4,v5]/\J9 G6 G:=⟨_,rfl⟩
      refine⟨⟨_,Je.of hm6⟩,RI (xs:=ys) Pv (by rw[ePv];exact⟨_,_,rfl,J9.refl _⟩) ?_ ?_ ?_⟩ <;> rw[ePv]
      .rintro i σ' G _ ⟨v4,v5,rfl,s⟩;exact Je.of (s _ _ hm6)
      .rintro i x σ' G hx ⟨v4,v5,rfl,s⟩;rw[<-ePv];obtain⟨k,g,t,tk,va,rfl,ht,htk,hA⟩:=hy6.get hx;walk_at"rd";refine⟨_,JV.of (s _ _ ht),rfl,_,_,rfl,_,_,rfl,rfl,⟨_,Je.of (s _ _ hl6)⟩,?_⟩;have hp7:=hp6.mono s;have htk7:=s _ _ htk;have hkk:Ru k:=hkok k (YB g);refine GT (xs:=Mu ps) (fun i zs σ' G'=>G'=G/\zs=Mu (DA k (ps.take i) (ds.take i))/\∃v,σ'=[v,some (.ref tk)]) ⟨rfl,rfl,_,rfl⟩ ?_ (JT (by rw[Do];omega)) ?_ ?_
       .rintro i zs σ' G' ⟨rfl,rfl,_⟩ hi;refine⟨Je.of (s _ _ hl6),?_⟩;have h1:=Vr (fun x:(Addr×Addr×Addr)×PD=>decide (x.2.key=k)) ((ps.take i).zip (ds.take i));rw[List.length_zip,Ym,Ym]at h1;rw[Do];unfold DA;rw[Y4];omega
       .rintro i x zs σ' G' hx ⟨rfl,rfl,v,rfl⟩;obtain⟨c,hc,rfl⟩:=Bj hx;obtain⟨d,hd,hO⟩:=hp7.get hc;have htl:(ps.take i).length=(ds.take i).length:=by rw[Ym,Ym,hpl]
        walk_at"rd";refine⟨_,JV.of hO.tp,_,rfl,_,_,Be (nu:=d.key.1) (z1:=d.key.2.1) (z2:=d.key.2.2) hO.ky,Be (nu:=k.1) (z1:=k.2.1) (z2:=k.2.2) htk7,Cd _ hO.ok.k1 hO.ok.k2,Cd _ hkk.2.2.1 hkk.2.2.2,_,rfl,?_⟩;rw[OM,YZ,YZ,hc,hd];rw[show(some c).toList=[c] from rfl,show(some d).toList=[d] from rfl,Ib k _ _ htl]
        by_cases e:d.key=k
        .rw[Y3 e,Y3 (by rw[e];simp)];exact⟨rfl,by unfold Mu;rw[Yw];rfl⟩
        .rw[Y1 e,Y1 (by simp only[Yg];exact fun z=>e (UI z.1 (UI z.2.1 z.2.2))),List.append_nil];exact⟨rfl,rfl⟩
       .rintro zs σ' G' ⟨rfl, rfl, v, rfl⟩ lz G8 hlz s8 e8;rw [Do, Xp, hpl, Xp] at e8;have hA8 := hA.mono (s.trans s8);have hp8 := TM.mono s8 (LC k hp7);have fin : ∀ G, J9 G8 G -> ∃ b, V.bl true = V.bl b /\ if (!b) = true then Q (.bl false) G else Pv (i + 1) [some (.ref m), some (.ref l), some (.str ru), some (.ref l2), some (.ref tk), some va] G := fun G9 p => ⟨true, rfl, by
         rw [Y1 (by simp), ePv];exact ⟨_, _, rfl, s.trans (s8.trans p)⟩⟩
        refine⟨lz,ru,_,_,rfl,e8,hp8,YT (Fw k ds) hsum,?_⟩;cases e:Nf ru Ms (GW k ds) with
        |whole rs=>
         rw[e]at hA8;obtain⟨m',b',rfl,hA9⟩:=hA8;exact fun r b G9 p h9 h10=>⟨m',r,rfl,.inl ⟨b',b,_,by obtain⟨dx,fs,x1,x2,x3⟩:=hA9;exact⟨dx,fs,p _ _ x1,x2,p _ _ x3⟩,h9,h10⟩,fun G10 s10=>fin G10 (p.trans s10)⟩
        |unl n=>
         rw[e]at hA8;obtain⟨m',rfl,dx,fs,x1,x2⟩:=hA8;exact fun r G9 p h9=>⟨m',r,rfl,.inr (.inr ⟨n,⟨dx,fs,p _ _ x1,x2⟩,h9⟩),fun G10 s10=>fin G10 (p.trans s10)⟩
        |lack rs=>
         rw[e]at hA8;obtain⟨m',b',xs,rfl,⟨dx,fs,x1,x2,x3⟩,hc⟩:=hA8;exact fun r b G9 p h9 h10=>⟨m',r,rfl,.inr (.inl ⟨b',b,xs,_,⟨dx,fs,p _ _ x1,x2,p _ _ x3⟩,hc.tk (Gf p),h9,h10⟩),fun G10 s10=>fin G10 (p.trans s10)⟩
      .rintro σ' G ⟨v4,v5,rfl,s⟩;refine hN _ _ ?_;walk_at"rd";exact q G (s06.trans s)
theorem uO(n:Int):Dw n∈JP:=by
 have h:∀m:_root_.Fin 7,JP.getD m.val (0,"a","a")∈JP:=by decide +kernel
 exact h ⟨(n%7).toNat,by omega⟩
inductive LS(C:J2)(vs:List V)(H:Hp)(Q:VK)(E:XK):Prop|mk (d:PD) (b:J2) (_:vs=[.int d.nu,.str d.z1,.str d.z2,.int d.at',.ref b,.bl d.mo]) (_:d.k=false) (_:d.Ok) (_:H b=some (.lst (d.ns.map V.int))) (_:∀p b' G,H p=none->H b'=none->J9 H G->Nx C G p b' d->Q (.ref p) G)
theorem j7{C:J2}(F:Rg P w K mg base "Piece" C 6 ["self","number","sender","goal","at","body","more","keep"] [.bl false] (Bg C)):Gr P w K mg base "Piece" 6 (LS C):=by
 refine F.ct fun vs H Q h y dx G a u v s j=>?_
 obtain⟨d,b,rfl,g,ok,c,q⟩:=h;obtain⟨f,n⟩:=tF (k:=d.k) ok.n0 ok.n1 ok.k1 ok.k2 (s b _ c) ok.l1 ok.l2 ok.by'
 exact⟨y,dx,_,_,_,d.at',b,d.mo,_,_,by rw[g];rfl,j,f,n,by simp[EM,ok.a0,ok.a8],s b _ c,by rw[Y4];exact ok.rm,fun H' r l h1 h2 i p=>⟨rfl,q y r H' a (s.free l) (fun d o e=>p d o (s d o e) (Tg e a)) ⟨ok,i,h2⟩⟩⟩
theorem CO{H G:Hp}{a:J2}{xs:List V}(s:J9 H G)(h:Je K H a xs):Je K G a xs:=by
 rcases h with(h|⟨o,h⟩)|h
 .exact .inl (.inl (s _ _ h))
 .exact .inl (.inr ⟨o,s _ _ h⟩)
 .exact .inr h
def Cz(G:Hp)(bs:List Addr):Prop:=∀b∈bs,∃ns:List Int,G b=some (.lst (ns.map V.int))/\1 <=ns.length/\ns.length <=40/\∀x∈ns,0 <=x/\x <=255
theorem Cz.mono{G G':Hp}{bs:List Addr}(s:J9 G G')(h:Cz G bs):Cz G' bs:=fun b d=>by
 obtain⟨c,a,r⟩:=h b d;exact⟨c,s _ _ a,r⟩
theorem Lh{H:Hp}{ps qs:List (Addr×Addr×Addr)}{ds es:List PD}(h:TM H ps ds)(k:TM H qs es):TM H (ps++qs) (ds++es):=by
 induction h with
 |nil=>exact k
 |cons r _ ih=>exact .cons r ih
def DT(G:Hp)(l:J2)(n:Nat):Prop:=∃ (ps:List (Addr×Addr×Addr)) (ds:List PD),G l=some (.lst (Mu ps))/\TM G ps ds/\ds.length <=n/\∀d∈ds,d.key∈JP/\d.ns.length <=25
theorem DT.mono{G G':Hp}{l:J2}{n:Nat}(s:J9 G G')(h:DT G l n):DT G' l n:=by
 obtain⟨ps,ds,a,b,c⟩:=h;exact⟨ps,ds,s _ _ a,b.mono s,c⟩
theorem DT.rep{G:Hp}{l:J2}{ps:List (Addr×Addr×Addr)}{ds:List PD}(h:TM G ps ds):∀n:Nat,TM G (List.replicate n ps).flatten (List.replicate n ds).flatten
 |0=>.nil
 |n+ 1=>by rw[Xf,Xf,YY,YY];exact Lh h (DT.rep (l:=l) h n)
theorem OH(ps:List (Addr×Addr×Addr)):∀n:Nat,(List.replicate n (Mu ps)).flatten=Mu (List.replicate n ps).flatten
 |0=>rfl
 |n+ 1=>by rw[Xf,Xf,YY,YY,OH ps n];unfold Mu;rw[Yw]
def Lx:PD:=⟨0,"","",0,[],false,false⟩
theorem LM{G:Hp}{ps:List (Addr×Addr×Addr)}{ds:List PD}(h:TM G ps ds):∀r:List Nat,(∀i∈r,i < ps.length)->TM G (r.map fun i=>ps.getD i (0,0,0)) (r.map fun i=>ds.getD i Lx)
 |[],_=>.nil
 |i::r,hr=>by
  have hi:=hr i (.head _);have b:ps[i]?=some (ps.getD i (0,0,0)):=by rw[Y5 hi];simp[hi]
  obtain⟨d,hd,c⟩:=h.get b;refine .cons ?_ (LM h r fun j a=>hr j (.tail _ a));show GE G _ _ _ (ds.getD i Lx);rw[Yu (l:=ds),hd];exact c
theorem DT.sort{G G':Hp}{l l':J2}{ps:List (Addr×Addr×Addr)}{ds:List PD}{n:Nat}(h:TM G ps ds)(hn:ds.length <=n)(hk:∀d∈ds,d.key∈JP/\d.ns.length <=25)(s:J9 G G'){r:List Nat}(hr:r.Perm (List.range (Mu ps).length))(e:G' l'=some (.lst (r.map fun i=>(Mu ps).getD i .non))):DT G' l' n:=by
 have a:∀i∈r,i < ps.length:=fun i hi=>by
  have:=hr.mem_iff.mp hi;rw[Do]at this;simpa using this
 have b:=h.len;refine⟨_,_,?_,TM.mono s (LM h r a),?_,fun d hd=>?_⟩
 .rw[e];refine Xn (fun z=>some (HO.lst z)) ?_;unfold Mu;rw[XM];refine WL fun i hi=>?_
  have:=a i hi;simp[Yu,this]
 .rw[Y4,hr.length_eq,YO,Do];omega
 .obtain⟨i,hi,rfl⟩:=YD.mp hd;have:=a i hi;have h2:i < ds.length:=by omega
  refine hk _ ?_;rw[Yu,Y5 h2];exact XG h2
theorem Ox:∀ds:List PD,(∀d∈ds,d.ns.length <=25)->(ds.map fun d=>d.ns.length).sum <=25*ds.length
 |[],_=>by simp
 |d::r,h=>by
  have:=Ox r fun x a=>h x (Yj _ a)
  have:=h d YA;rw[List.map_cons,UN,List.length_cons];omega
abbrev GU:Stmt:=top 56
theorem Rb:Ng ["_law_script","_law_many","_law_bodies","_law_pieces","_law_turned","_law_rule","_law_row","_law_told","_law_found"] ["_law_script"] (J8 GU):=by walk_at"e"
theorem uI{f CP CW CK CU:J2}{fd:WX}(F:Nk K "law" "law" GU f fd)(B:Bt mg)(B2:Ae mg)
  (NP:NJ P w K mg base "_law_cell_at" 1 ["_law_script","_law_k"] [] (HC K)) (Tz:NJ P w K mg base "_law_body" 2 ["_law_cell","_law_k"] [] KW) (Ma:NJ P w K mg base "_law_digits" 2 ["_law_cell","_law_many"] [] PR) (Tk:NJ P w K mg base "_law_piece" 2 ["_law_bodies","_law_digits_here"] [] PV)
  (Dm:Gr P w K mg base "Piece" 6 (LS CP)) (NW:NJ P w K mg base "read_all" 5 ["pieces","rule"] [] (Ii CP CW CU CK)) (Nc:NJ P w K mg base "_law_all_right" 4 ["_law_found","_law_pieces","_law_rule"] [] (Hy CW CK CU)):Ji P w K mg base JN 8 f fd ["_law_script"] (CJ K):=by
 refine F.ok Rb (fun vs H Q E h=>?_) (fun cdv A outer s H vs Q E u h=>?_)
 .obtain⟨a,ns,rfl,_⟩:=h;rfl
 .obtain⟨a,ns,rfl,ha,hn63,q⟩:=h;refine⟨_,(Jn (NH 1 Rb (JM (Nj TJ) Jp (JM (dI Mf) (Nr NP u.m rfl (Jj 0 (TX Jp Jc))) Jp))) (Jn (CB (i:=2) (Rb).nd rfl (Or.inr rfl) (DB (N':=["_law_k","_law_script"]) (caps:=[none,some 0]) (D6 (sc:=J8 GU) (N:=["_law_script","_law_many","_law_bodies","_law_pieces","_law_turned","_law_rule","_law_row","_law_told","_law_found"]) rfl rfl (by decide +kernel)) rfl (RU rfl B.range (Jj 1 Jc)) (fun _ _ _ _ _=>(Ml (i:=0) (MK (N:=["_law_k","_law_script"]) rfl (by decide +kernel)) rfl (Or.inl rfl))) (fun _ _ _ _ _=>Dt) (fun _ _ _ _ _=>(Nr Tz u.m rfl (Mm (Nr NP u.m rfl (Jj 1 (TX Jp Jc))) (Jj 0 Jc)))))) (Jn (O8 (i:=3) (N':=["_law_cell","_law_bodies"]) (caps:=[none,some 2]) (D6 (sc:=J8 GU) (N:=["_law_script","_law_many","_law_bodies","_law_pieces","_law_turned","_law_rule","_law_row","_law_told","_law_found"]) rfl rfl (by decide +kernel)) rfl (Rb).nd rfl (Or.inl rfl) (MG (K:=K) rfl (Lk (O4 (Pt (K:=K) rfl)) (Ja 0) (AW Jp) (AW Jp))) (fun _ _ _ _ _=>(Ml (i:=0) (MK (N:=["_law_cell","_law_bodies"]) rfl (by decide +kernel)) rfl (Or.inl rfl))) (fun _ _ _ _ _=>Dt) (fun _ _ _ _ _=>(Nr Tk u.m rfl (Jj 1 (Mm (Nr Ma u.m rfl (Jj 0 (TX Jp Jc))) Jc)))) rfl) (Jn (DQ (Np (NC (Mz Mr) (JM (dI Mf) (JM (dI Ee) (Nr NP u.m rfl (Jj 0 (TX Jp Jc))) Jp) Jp) Jp) (Jl (NH 3 Rb (JM (xG Sy) (Ja 3) Jp))) NG)) (Jn (NH 4 Rb (Nz (Qg (K:=K) (Ju.units u) rfl) B2.sorted (Jj 3 Jc))) (Jn (DZ YW rfl (MG (K:=K) rfl (Mt (TX N7 (TX N7 (TX N7 Jc))))) (Tv 5 Rb) (Jl (DZ YW rfl (MG (K:=K) rfl (Mt (Jj 3 (Jj 4 (JG (hs:=OU) (Mt Jc) Jc))))) (Tv 6 Rb) (Jn (O8 (i:=7) (N':=["_law_key_here","_law_at","_law_body_here","_law_more"]) (caps:=[none,none,none,none]) (D6 (sc:=J8 GU) (N:=["_law_script","_law_many","_law_bodies","_law_pieces","_law_turned","_law_rule","_law_row","_law_told","_law_found"]) rfl rfl (by decide +kernel)) rfl (Rb).nd rfl (Or.inl rfl) (MG (K:=K) rfl (Ja 6)) (fun _ _ _ _ _=>(Rl (K:=K) (n:=4) rfl rfl (TL (Ml (i:=0) (MK (N:=["_law_key_here","_law_at","_law_body_here","_law_more"]) rfl (by decide +kernel)) rfl (Or.inl rfl)) (TL (Ml (i:=1) (MK (N:=["_law_key_here","_law_at","_law_body_here","_law_more"]) rfl (by decide +kernel)) rfl (Or.inl rfl)) (TL (Ml (i:=2) (MK (N:=["_law_key_here","_law_at","_law_body_here","_law_more"]) rfl (by decide +kernel)) rfl (Or.inl rfl)) (TL (Ml (i:=3) (MK (N:=["_law_key_here","_law_at","_law_body_here","_law_more"]) rfl (by decide +kernel)) rfl (Or.inl rfl)) Rt)))))) (fun _ _ _ _ _=>Dt) (fun _ _ _ _ _=>(Ey Dm u.m rfl (Gj (MI K (Ja 0) Jp) (Gj (MI K (Ja 0) Jp) (Gj (MI K (Ja 0) Jp) (Jj 1 (Jj 2 (Jj 3 Jc)))))))) rfl) (Jn (NH 8 Rb (Nr NW u.m rfl (Jj 7 (Jj 5 Jc)))) (Jn (Np (MB (TU (Nr Nc u.m rfl (Jj 8 (Jj 6 (Jj 5 Jc)))))) (Jl (JR Re)) NG) (Jn (MW (Oi (K:=K) rfl YF PySem.F.slot_list_clear PySem.F.type_list_clear xT (Ja 8))) (Jl (Np (PW.pt (Gy (NC (Nj RE) (Nz (D1 (D2 (K:=K) rfl)) B.len (Jj 6 Jc)) Jp) (R5 (MB (TU (Nr Nc u.m rfl (Mm (Nr NW u.m rfl (Jj 7 (Jj 5 Jc))) (Jj 6 (Jj 5 Jc))))))))) (Jl (JR Re)) NG))))))))) (Jl (JR Re)))))))),?_⟩;refine Nt fun N g=>?_
  walk_at"rd";refine⟨a,ns,0,rfl,ha,fun c0=>⟨c0,rfl,by decide,g _ _ ?_⟩⟩;clear g N;refine Nt fun N g=>?_
  walk_at"rd";obtain⟨nb,enb⟩:∃nb:Nat,nb=(1+ c0%7).toNat:=⟨_,rfl⟩;have hnb:1 <=nb/\nb <=7:=by omega
  refine⟨by omega,by omega,?_⟩;rw[<-enb];obtain⟨o,e⟩:∃o:Nat->List V->L2.St->Hp->Prop,o=fun i ys σ' G=>∃ (v:Option V) (bs:List Addr),ys=bs.map V.ref/\bs.length=i/\σ'=[v,some (.ref a)]/\J9 H G/\Cz G bs:=⟨_,rfl⟩
  refine Aw o (by rw[e];exact⟨_,[],rfl,rfl,rfl,J9.refl _,fun b hb=>nomatch hb⟩) ?_ (JT (by omega)) ?_ ?_ <;> rw[e]
  .rintro i ys σ' G ⟨v,bs,rfl,hl,_⟩ _;rw[Y4];omega
  .rintro i ys σ' G hi ⟨v,bs,rfl,hl,rfl,sG,hb⟩;rw[<-e];walk_at"rd";refine⟨a,ns,1,rfl,CO sG ha,fun c1=>⟨c1,_,rfl,by omega,by omega,fun l ms G2 hl2 s2 e2 h1 h2 h3=>?_⟩⟩;rw[e];refine⟨_,bs++[l],by rw[Yw];rfl,by simp[hl],rfl,sG.trans s2,fun b hb'=>?_⟩;rcases Ye.mp hb' with z|z
   .exact(hb.mono s2) b z
   .rw[Y9.mp z];exact⟨ms,e2,h1,h2,h3⟩
  rintro ys σ' G ⟨v,bs,rfl,hbl,rfl,sG,hb⟩ lb G2 hlb s2 e2;refine g _ _ ?_;clear g N;have ha2:Je K G2 a (ns.map V.int):=CO (sG.trans s2) ha;have hb2:=hb.mono s2;clear e o hb sG s2 hlb ha;refine Nt fun N g=>?_
  walk_at"rd";refine⟨_,ha2,fun lc G3 hlc s3 e3=>⟨⟨_,Je.of e3⟩,?_⟩⟩;obtain⟨cs,hcs,hcl⟩:∃cs:List Int,Dz (ns.map V.int) (some 2) (some 42)=cs.map V.int/\cs.length <=40:=by
   have hl:(Dz (ns.map V.int) (some 2) (some 42)).length <=40:=by
    show(Dz (ns.map V.int) (some ((2:Nat):Int)) (some ((42:Nat):Int))).length <=40;unfold Dz;rw[HT.sIx_nat,HT.sIx_nat,Ym,X2];omega
   obtain⟨zs,hz,_⟩:=wL ns (some 2) (some 42);rw[hz,Y4]at hl;exact⟨zs,hz,hl⟩
  rw[hcs]at e3;have hb3:=hb2.mono s3;have e23:=s3 _ _ e2;have ha3:=CO s3 ha2;clear hb2 e2 ha2 s3 hcs;obtain⟨o,e⟩:∃o:Nat->List V->L2.St->Hp->Prop,o=fun i ys σ' G=>∃ (ps:List (Addr×Addr×Addr)) (ds:List PD) (v:Option V),ys=Mu ps/\ps.length=i/\σ'=[v,some (.ref lb)]/\J9 G3 G/\TM G ps ds/\∀d∈ds,d.key∈JP/\d.ns.length <=25:=⟨_,rfl⟩
  refine GT (xs:=cs.map V.int) o (by rw[e];exact⟨[],[],_,rfl,rfl,rfl,J9.refl _,.nil,fun _ h=>nomatch h⟩) ?_ (JT (by rw[Y4];omega)) ?_ ?_ <;> rw[e]
  .rintro i ys σ' G ⟨ps,ds,v,rfl,rfl,rfl,s,_⟩ _;exact⟨Je.of (s _ _ e3),by rw[Do];exact Y7 _⟩
  .rintro i y ys σ' G hy ⟨ps,ds,v,rfl,rfl,rfl,s,hp,hk⟩;rw[<-e];rw[Yf]at hy;obtain⟨c,hc,rfl⟩:=YE.mp hy;walk_at"rd";refine⟨c,6,rfl,by decide,fun lg xs G6 hlg s6 h6 x1 x2=>?_⟩;refine⟨lb,lg,bs,xs,rfl,s6 _ _ (s _ _ e23),by omega,by omega,hb3.mono (s.trans s6),h6,by omega,x2,fun t tk b d G7 j ht htk hb s7 hP hkey j0 j1 hl7=>?_⟩;rw[e];refine⟨ps++[(t,tk,b)],ds++[d],_,by unfold Mu;rw[Yw];rfl,by simp,rfl,s.trans (s6.trans s7),Lh (hp.mono (s6.trans s7)) (.cons hP .nil),fun d' hd'=>?_⟩;rcases Ye.mp hd' with z|z
   .exact hk d' z
   .rw[Y9.mp z];exact⟨by rw[hkey];exact uO j,hl7⟩
  rintro ys σ' G ⟨ps,ds,v,rfl,hpl,rfl,s,hp,hk⟩ lp G6 hlp s6 h6;refine g _ _ ?_;clear g N;rw[Y4]at hpl;have hdl:=hp.len;have hR:DT G6 lp 40:=⟨ps,ds,h6,hp.mono s6,by omega,hk⟩;have ha6:=CO (s.trans s6) ha3;clear s s6 hp hlp h6 e3 e23 hb3 ha3 e o hk hdl hpl;refine Nt fun N g=>?_
  walk_at"rd";refine⟨fun σ' G=>∃lq,σ'=[some (.ref a),some (.int (1+ c0%7)),some (.ref lb),some (.ref lq),none,none,none,none,none]/\DT G lq 600,⟨a,ns,0,rfl,ha6,fun c2=>⟨c2,rfl,⟨by decide,by decide⟩,by decide,rfl,Ti (fun _=>?_) fun _=>?_⟩⟩,?_⟩
  .obtain⟨ps,ds,r1,r2,r3,r4⟩:=hR;have hl2:=r2.len;refine⟨_,r1,by decide,by decide,JT (by rw[Do,show Int.toNat 15=15 from rfl];omega),fun p G7 hp7 s7 h7=>⟨p,rfl,(List.replicate 15 ps).flatten,(List.replicate 15 ds).flatten,?_,TM.mono s7 (DT.rep (l:=p) r2 15),?_,fun d hd=>?_⟩⟩
   .rw[h7];exact Xn (fun z=>some (HO.lst z)) (OH ps 15)
   .rw[List.length_flatten,List.map_replicate,List.sum_replicate_nat];omega
   .obtain⟨l,hl,hd⟩:=Wd.mp hd;rw[(List.mem_replicate.mp hl).2]at hd;exact r4 d hd
  .obtain⟨ps,ds,r1,r2,r3,r4⟩:=hR;exact⟨lp,rfl,ps,ds,r1,r2,by omega,r4⟩
  rintro σ7 G7 ⟨lq,rfl,hQ⟩;refine g _ _ ?_;clear g N hR ha6;refine Nt fun N g=>?_
  walk_at"rd";have hQ':=hQ;obtain⟨ps,ds,r1,r2,r3,r4⟩:=hQ';have hdl:=r2.len;obtain⟨c4,ec4⟩:∃c4:List GS,c4=ds.map fun d=>(d.key,d.at',d.ns,d.mo):=⟨_,rfl⟩
  have hc4:c4.length=ds.length:=by rw[ec4,Y4]
  refine⟨_,Je.of r1,c4,by rw[Do];exact hdl.trans hc4.symm,fun i x y hx hy=>?_,by rw[Do];omega,fun r lt G8 u _ hlt s8 e8=>g _ _ ?_⟩
  .obtain⟨c,hc,rfl⟩:=Bj hx;obtain⟨d,hd,hO⟩:=r2.get hc;have hy':c4[i]?=some (y:GS):=hy;rw[ec4,Yf,hd]at hy';obtain rfl:(d.key,d.at',d.ns,d.mo)=(y:GS):=Yr hy';exact⟨_,rfl,_,_,JV.of hO.tp,JV.of hO.ky,Je.of hO.bd⟩
  clear g N;have hT:DT G8 lt 600:=DT.sort (l:=lt) r2 r3 r4 s8 u e8;have hQ8:=hQ.mono s8;clear hQ r1 r2 r3 r4 u e8 hlt s8 hdl;refine Nt fun N0 hN0=>?_
  walk_at"rd";refine⟨JT (by simp),fun lr G9 hlr s9 h9=>⟨⟨_,Je.of h9⟩,?_⟩⟩;have hT9:=hT.mono s9;have hQ9:=hQ8.mono s9;clear hT hQ8 s9;obtain⟨o,e⟩:∃o:Nat->L2.St->Hp->Prop,o=fun i σ' G=>∃ (v5 v6 v7 v8:Option V),σ'=[some (.ref a),some (.int (1+ c0%7)),some (.ref lb),some (.ref lq),some (.ref lt),v5,v6,v7,v8]/\J9 G9 G:=⟨_,rfl⟩
  refine RI (xs:=[V.str "first",V.str "last",V.str "refuse"]) o (by rw[e];exact⟨_,_,_,_,rfl,J9.refl _⟩) ?_ ?_ ?_ <;> rw[e]
  .rintro i σ' G _ ⟨_,_,_,_,_,s⟩;exact Je.of (s _ _ h9)
  .rintro i x σ' G hx ⟨v5,v6,v7,v8,rfl,s⟩;rw[<-e];obtain⟨ru,hru,rfl⟩:∃ru:Str,(ru="first"\/ru="last"\/ru="refuse")/\x= .str ru:=by
    have:=YB hx;simp only[Yp,W9,Vp]at this;rcases this with rfl|rfl|rfl
    .exact⟨_,.inl rfl,rfl⟩
    .exact⟨_,.inr (.inl rfl),rfl⟩
    .exact⟨_,.inr (.inr rfl),rfl⟩
   walk_at"rd";refine⟨JT (by simp),fun pe Ge hpe se he=>⟨JT (by simp),fun pr G0 hpr s0 h0=>⟨⟨_,Je.of h0⟩,?_⟩⟩⟩;have sb:=s.trans (se.trans s0);have hrow:∀x∈[V.ref lq,V.ref lt,V.ref pe],∃lw,x= .ref lw/\DT G0 lw 600:=fun x hx=>by
    simp only[Yp,W9,Vp]at hx;rcases hx with rfl|rfl|rfl
    .exact⟨_,rfl,hQ9.mono sb⟩
    .exact⟨_,rfl,hT9.mono sb⟩
    .exact⟨_,rfl,[],[],s0 _ _ he,.nil,Yv _,fun _ h=>nomatch h⟩
   clear he hpe hpr;obtain⟨Pz,ePz⟩:∃Pz:Nat->L2.St->Hp->Prop,Pz=fun i σ' G=>∃ (v6 v7 v8:Option V),σ'=[some (.ref a),some (.int (1+ c0%7)),some (.ref lb),some (.ref lq),some (.ref lt),some (.str ru),v6,v7,v8]/\J9 G0 G:=⟨_,rfl⟩
   refine RI (xs:=[V.ref lq,V.ref lt,V.ref pe]) Pz (by rw[ePz];exact⟨_,_,_,rfl,J9.refl _⟩) ?_ ?_ ?_ <;> rw[ePz]
   .rintro i σ' G _ ⟨_,_,_,_,s⟩;exact Je.of (s _ _ h0)
   .rintro j x σ' G1 hx ⟨v6,v7,v8,rfl,s1⟩;rw[<-ePz];obtain⟨lw,rfl,hW⟩:=hrow x (YB hx);obtain⟨ps,ds,r1,r2,r3,r4⟩:=hW.mono s1;have hdl:=r2.len;simp only[R1,List.set_cons_succ,List.set_cons_zero];refine Nt fun N g=>?_
    walk_at"rd";refine⟨⟨_,Je.of r1⟩,?_⟩;obtain⟨o,e⟩:∃o:Nat->List V->L2.St->Hp->Prop,o=fun i ys σ' G=>∃ (qs:List (Addr×Addr)) (v0 v1 v2 v3:Option V),ys=N8 qs/\qs.length=i/\σ'=[v0,v1,v2,v3]/\J9 G1 G/\NY CP G qs (ds.take i):=⟨_,rfl⟩
    refine GT (xs:=Mu ps) o (by rw[e];exact⟨[],_,_,_,_,rfl,rfl,rfl,J9.refl _,.nil⟩) ?_ (JT (by rw[Do];omega)) ?_ ?_ <;> rw[e]
    .rintro i ys σ' G ⟨qs,v0,v1,v2,v3,rfl,rfl,rfl,s,_⟩ _;exact⟨Je.of (s _ _ r1),by rw[Ew];exact Y7 _⟩
    .rintro i y ys σ' G hy ⟨qs,v0,v1,v2,v3,rfl,rfl,rfl,s,hq⟩;rw[<-e];obtain⟨c,hc,rfl⟩:=Bj hy;obtain⟨d,hd,hO⟩:=TM.get r2 hc;have hO1:=hO.mono s;have hky:=JV.of (K:=K) hO1.ky;refine⟨c.1,_,rfl,JV.of hO1.tp,rfl,_,_,rfl,_,_,rfl,_,_,rfl,_,_,rfl,rfl,?_⟩;walk_at"rd";refine⟨_,hky,_,rfl,_,hky,_,rfl,_,hky,_,rfl,?_⟩;refine⟨d,c.2.2,rfl,hO.k,hO.ok,hO1.bd,fun p b' G7 hp7 hb7 s7 hP=>?_⟩;rw[e];refine⟨qs++[(p,b')],_,_,_,_,by rw[KD];rfl,by simp,rfl,s.trans s7,?_⟩;rw[YZ,hd,Option.toList_some];exact NY.app (hq.mono s7) (.cons hP .nil)
    rintro ys σ' G ⟨qs,v0,v1,v2,v3,rfl,hql,rfl,s,hq⟩ lh G2 hlh s2 h2;refine g _ _ ?_;clear g N;rw[Do]at hql hq;rw[YS (by omega)]at hq;have hq2:=hq.mono s2;have s12:=s.trans s2;have hp2:=r2.mono s12;have hl2:=s12 _ _ r1;have s02:=s1.trans s12;have hsum:(ds.map fun d=>d.ns.length).sum <=20000:=by
     have:=Ox ds fun d hd=>(r4 d hd).2
     omega
    clear s s2 hq e o s12 r1 r2;refine Nt fun N g=>?_
    walk_at"rd";refine⟨lh,ru,qs,ds,JP,rfl,hru,h2,hq2,by omega,hsum,by decide,fun d hd=>(r4 d hd).1,fun m ys ks G3 hm s3 h3 hy hK=>g _ _ ?_⟩;clear g N;refine Nt fun N g=>?_
    walk_at"rd";refine⟨m,lw,ru,ys,ks,JP,ps,ds,rfl,h3,hy,hK,s3 _ _ hl2,hp2.mono s3,by omega,hsum,by decide,fun d hd=>(r4 d hd).1,fun G4 s4=>⟨true,rfl,?_⟩⟩;rw[Y1 (by simp)];refine g _ _ ?_;clear g N;refine Nt fun N g=>?_
    walk_at"rd";refine⟨.inl ⟨rfl,_,Je.of (s4 _ _ h3)⟩,_,s4 _ _ h3,fun G5 b5 e5=>g _ _ ?_⟩;clear g N;have s25:J9 G2 G5:=(s3.trans s4).butNew b5 hm;have h5:=s25 _ _ h2;have hq5:=hq2.mono s25;have hp5:=hp2.mono s25;have hl5:=s25 _ _ hl2;have s05:=s02.trans s25;clear s3 s4 s25 h3 hy hK b5 e5 hm h2 hq2 hp2 hl2 s02;walk_at"rd";refine⟨_,.inl (Je.of hl5),Ti (fun _=>?_) fun _=>by rw[ePz];exact⟨_,_,_,rfl,s05⟩⟩;refine⟨lh,ru,qs,ds,JP,rfl,hru,h5,hq5,by omega,hsum,by decide,fun d hd=>(r4 d hd).1,fun m2 ys ks G6 _ s6 h6 hy hK=>?_⟩;refine⟨m2,lw,ru,ys,ks,JP,ps,ds,rfl,h6,hy,hK,s6 _ _ hl5,hp5.mono s6,by omega,hsum,by decide,fun d hd=>(r4 d hd).1,fun G7 s7=>⟨true,rfl,?_⟩⟩;rw[Y1 (by simp),ePz];exact⟨_,_,_,rfl,s05.trans (s6.trans s7)⟩
   .rintro σ' G1 ⟨v6,v7,v8,rfl,s1⟩;rw[e];exact⟨_,_,_,_,rfl,sb.trans s1⟩
  .rintro σ' G ⟨v5,v6,v7,v8,rfl,s⟩;refine hN0 _ _ ?_;walk_at"rd";exact q G
end
theorem uP{us:J5}{v:J1}(hl:(us++[v]).length=8):∃u0 u1 u2 u3 u4 u5 u6,us=[u0,u1,u2,u3,u4,u5,u6]:=by
 have a:us.length=7:=by rw[List.length_append]at hl;simpa using hl
 exact Oc a
theorem S9{K:J0}{s:WW}{T:J2}{oT:Option Addr}{nT:Nat}{sT:Array (Option Value)}{kV dc pm cd ct:J1}{an:Option Addr}{u0 u1 u2 u3 u4 u5 u6 u7:J1}(kx:K.In s.heap)(h:K.lookup T=some ⟨.type "tuple",oT,.seq #[.bool false] nT,sT⟩):
  BindsTo s (W.fnOf "__init__" "Piece.__init__" (De Jh) (Jo Jh) (J8 Jh) (.ref T) kV dc pm an cd ct) ⟨[u0,u1,u2,u3,u4,u5,u6,u7],[]⟩ ((["self","number","sender","goal","at","body","more","keep"]:List Str).zip ([u0,u1,u2,u3,u4,u5,u6,u7]++[])):=by
 first
  |exact .of_eq rfl
  |exact .of_defaults rfl (kx _ _ h) rfl rfl rfl
theorem Za{K:J0}{s:WW}{T:J2}{oT:Option Addr}{nT:Nat}{sT:Array (Option Value)}{kV dc pm cd ct:J1}{an:Option Addr}{u0 u1 u2 u3 u4 u5 u6:J1}(kx:K.In s.heap)(h:K.lookup T=some ⟨.type "tuple",oT,.seq #[.bool false] nT,sT⟩):
  BindsTo s (W.fnOf "__init__" "Piece.__init__" (De Jh) (Jo Jh) (J8 Jh) (.ref T) kV dc pm an cd ct) ⟨[u0,u1,u2,u3,u4,u5,u6],[]⟩ ((["self","number","sender","goal","at","body","more","keep"]:List Str).zip ([u0,u1,u2,u3,u4,u5,u6]++[.bool false])):=by
 exact .of_defaults rfl (kx _ _ h) rfl rfl rfl
local macro_rules | `(tactic| walk_at"b0") => `(tactic| exact fun _ _ _ _ _ _ us hl => by have e := List.eq_nil_of_length_eq_zero hl; subst e; rfl)
local macro_rules | `(tactic| walk_at"b1") => `(tactic| exact fun _ _ _ _ _ _ us hl => by obtain ⟨_, e⟩ := DN hl; subst e; rfl)
local macro_rules | `(tactic| walk_at"b2") => `(tactic| exact fun _ _ _ _ _ _ us hl => by obtain ⟨_, _, e⟩ := Dd hl; subst e; rfl)
local macro_rules | `(tactic| walk_at"b3") => `(tactic| exact fun _ _ _ _ _ _ us hl => by obtain ⟨_, _, _, e⟩ := Eb hl; subst e; rfl)
local macro_rules | `(tactic| walk_at"b5") => `(tactic| exact fun _ _ _ _ _ _ us hl => by obtain ⟨_, _, _, _, _, e⟩ := OE hl; subst e; rfl)
set_option maxHeartbeats 0 in
theorem K8{l:W.OpenLaw}{w:WZ}{K:J0}{h:J6}{mg:WQ}{fa:J2}(X:K.In h)(G:h.Ns mainGlobals mg)(hfa:mg "law"=some (.ref fa))
  {f_is_whole f_is_whole_within f_is_truth f_is_number f_is_name f_is_byte f_is_body f_is_rule f_are_shared_parts f_is_place f_has_room f_with_span f_lacking f_check_rule f_are_pieces f_of_one_key f_judged f_by_key f_read_all f_cell_at f_mixed f_digits f_key f_lawbody f_lawpiece f_lawstrange f_lawunlike f_put f_spans f_heap f_lawtaken f_due f_right f_lawallright f_law C_Piece f_Piece_key f_Piece_end f_Piece_init T_Piece_init C_Whole f_Whole_init C_Lacking f_Lacking_init C_Unlike f_Unlike_init C_Reading f_Reading_is_strange f_Reading_unlike_number f_Reading_take f_Reading_missing f_Reading_taken_body f_Reading_answer_to f_Reading_init C_Answer:J2}
  {aRULES:J2}
  (q_is_whole:GF K "is_whole" Iw f_is_whole)
  (q_is_whole_within:GF K "is_whole_within" HG f_is_whole_within)
  (q_is_truth:GF K "is_truth" FC f_is_truth)
  (q_is_number:GF K "is_number" Kn f_is_number)
  (q_is_name:GF K "is_name" AO f_is_name)
  (q_is_byte:GF K "is_byte" Ha f_is_byte)
  (q_is_body:GF K "is_body" Cg f_is_body)
  (q_is_rule:GF K "is_rule" FY f_is_rule)
  (q_are_shared_parts:GF K "are_shared_parts" HQ f_are_shared_parts)
  (q_is_place:GF K "is_place" Kj f_is_place)
  (q_has_room:GF K "has_room" HZ f_has_room)
  (q_with_span:GF K "with_span" Fk f_with_span)
  (q_lacking:GF K "lacking" Kh f_lacking)
  (q_check_rule:GF K "check_rule" HV f_check_rule)
  (q_are_pieces:GF K "are_pieces" Af f_are_pieces)
  (q_of_one_key:GF K "of_one_key" Cc f_of_one_key)
  (q_judged:GF K "judged" Kd f_judged)
  (q_by_key:GF K "by_key" Ic f_by_key)
  (q_read_all:GF K "read_all" CQ f_read_all)
  (q_cell_at:GF K "_law_cell_at" FA f_cell_at)
  (q_mixed:GF K "_law_mixed" FW f_mixed)
  (q_digits:GF K "_law_digits" Iz f_digits)
  (q_key:GF K "_law_key" FT f_key)
  (q_lawbody:GF K "_law_body" Ck f_lawbody)
  (q_lawpiece:GF K "_law_piece" F7 f_lawpiece)
  (q_lawstrange:GF K "_law_strange" Ie f_lawstrange)
  (q_lawunlike:GF K "_law_unlike" Fn f_lawunlike)
  (q_put:GF K "_law_put" Fz f_put)
  (q_spans:GF K "_law_spans" K0 f_spans)
  (q_heap:GF K "_law_heap" IC f_heap)
  (q_lawtaken:GF K "_law_taken" AS f_lawtaken)
  (q_due:GF K "_law_due" Ig f_due)
  (q_right:GF K "_law_right" AZ f_right)
  (q_lawallright:GF K "_law_all_right" RZ f_lawallright)
  (q_law:GF K "law" GU f_law)
  (qc_Piece:CF K "Piece" C_Piece)
  (na_Piece:NA K C_Piece ["number","sender","goal","at","body","more","keep"])
  (q_Piece_key:MF K C_Piece "key" "Piece.key" Hx f_Piece_key)
  (q_Piece_end:MF K C_Piece "end" "Piece.end" Hr f_Piece_end)
  (q_Piece_init:DF K C_Piece "Piece.__init__" Jh f_Piece_init T_Piece_init)
  (qc_Whole:CF K "Whole" C_Whole)
  (na_Whole:NA K C_Whole ["body"])
  (q_Whole_init:MF K C_Whole "__init__" "Whole.__init__" N5 f_Whole_init)
  (qc_Lacking:CF K "Lacking" C_Lacking)
  (na_Lacking:NA K C_Lacking ["spans"])
  (q_Lacking_init:MF K C_Lacking "__init__" "Lacking.__init__" JJ f_Lacking_init)
  (qc_Unlike:CF K "Unlike" C_Unlike)
  (na_Unlike:NA K C_Unlike ["at"])
  (q_Unlike_init:MF K C_Unlike "__init__" "Unlike.__init__" JQ f_Unlike_init)
  (qc_Reading:CF K "Reading" C_Reading)
  (na_Reading:NA K C_Reading ["rule","standing","cover","ending","reach"])
  (q_Reading_is_strange:MF K C_Reading "is_strange" "Reading.is_strange" Fl f_Reading_is_strange)
  (q_Reading_unlike_number:MF K C_Reading "unlike_number" "Reading.unlike_number" IK f_Reading_unlike_number)
  (q_Reading_take:MF K C_Reading "take" "Reading.take" FZ f_Reading_take)
  (q_Reading_missing:MF K C_Reading "missing" "Reading.missing" FV f_Reading_missing)
  (q_Reading_taken_body:MF K C_Reading "taken_body" "Reading.taken_body" Cw f_Reading_taken_body)
  (q_Reading_answer_to:MF K C_Reading "answer_to" "Reading.answer_to" Fm f_Reading_answer_to)
  (q_Reading_init:MF K C_Reading "__init__" "Reading.__init__" JK f_Reading_init)
  (aC_Answer:W.nsIn K mainGlobals "Answer"=some (some (.ref C_Answer)))
  (kt_Whole:W.typeIn K (.ref C_Whole)=some (.type "type")/\W.mroIn K C_Whole (.type "object")=some true)
  (kt_Lacking:W.typeIn K (.ref C_Lacking)=some (.type "type")/\W.mroIn K C_Lacking (.type "object")=some true)
  (kt_Unlike:W.typeIn K (.ref C_Unlike)=some (.type "type")/\W.mroIn K C_Unlike (.type "object")=some true)
  (kt_Answer:W.typeIn K (.ref C_Answer)=some (.type "type")/\W.mroIn K C_Answer (.type "object")=some true)
  (kmr_Whole_Whole:W.mroIn K C_Whole (.ref C_Whole)=some true)
  (kmr_Whole_Lacking:W.mroIn K C_Whole (.ref C_Lacking)=some false)
  (kmr_Whole_Unlike:W.mroIn K C_Whole (.ref C_Unlike)=some false)
  (kmr_Whole_Answer:W.mroIn K C_Whole (.ref C_Answer)=some true)
  (kmr_Lacking_Whole:W.mroIn K C_Lacking (.ref C_Whole)=some false)
  (kmr_Lacking_Lacking:W.mroIn K C_Lacking (.ref C_Lacking)=some true)
  (kmr_Lacking_Unlike:W.mroIn K C_Lacking (.ref C_Unlike)=some false)
  (kmr_Lacking_Answer:W.mroIn K C_Lacking (.ref C_Answer)=some true)
  (kmr_Unlike_Whole:W.mroIn K C_Unlike (.ref C_Whole)=some false)
  (kmr_Unlike_Lacking:W.mroIn K C_Unlike (.ref C_Lacking)=some false)
  (kmr_Unlike_Unlike:W.mroIn K C_Unlike (.ref C_Unlike)=some true)
  (kmr_Unlike_Answer:W.mroIn K C_Unlike (.ref C_Answer)=some true)
  (qk:(∃t,W.nsIn K mainGlobals "MOST_NUMBER"=some (some (.int 65535 t)))/\(∃t,W.nsIn K mainGlobals "MOST_BYTE"=some (some (.int 255 t)))/\(∃t,W.nsIn K mainGlobals "MOST_SIGNS"=some (some (.int 8 t)))/\(∃t,W.nsIn K mainGlobals "MOST_BYTES"=some (some (.int 4000 t)))/\(∃t,W.nsIn K mainGlobals "STEP"=some (some (.int 8 t)))/\True)
  (q_RULES:W.nsIn K mainGlobals "RULES"=some (some (.ref aRULES))/\∃o n s u0 u1 u2,K.lookup aRULES=some ⟨.type "tuple",o,.seq #[.str "first" u0,.str "last" u1,.str "refuse" u2] n,s⟩)
  (zs:NS K ["len","range","isinstance","all","min","max","int","bool","str","list","tuple","enumerate","zip","sum","sorted","set"]):
  ∃fd:FuncData,(∀ (s:WW) (v:J1),BindsTo s fd ⟨[v],[]⟩ [("_law_script",v)])/\∀base:Heap,K.In base->base.Ns mainGlobals mg->Ji l.prog w K mg base JN 8 fa fd ["_law_script"] (CJ K):=by
 obtain⟨a_law,oc,od,kV,dc,pm,an,cd,ct,sl,l_law,c_law,k_law⟩:=q_law;have e:=hfa.symm.trans (W.mg_of X G a_law);cases e;have BR:=Hc (st:=GU) l_law c_law k_law;refine⟨W.fnOf "law" "law" (De GU) (Jo GU) (J8 GU) .none kV dc pm an cd ct,fun s v=>.of_eq rfl,fun base kb nb=>?_⟩;have E:Dk l.prog w K mg base:=⟨fun e=>W.mg_of X G e,fun e=>W.mg_none_of X G e⟩;have kit_Whole_Whole:W.kitOne K (.ref C_Whole) (.ref C_Whole)=some true:=Gq kmr_Whole_Whole kt_Whole.1 kt_Whole.2 kmr_Whole_Whole;have kit_Whole_Lacking:W.kitOne K (.ref C_Whole) (.ref C_Lacking)=some false:=Gq kmr_Whole_Lacking kt_Lacking.1 kt_Lacking.2 kmr_Whole_Whole;have kit_Whole_Unlike:W.kitOne K (.ref C_Whole) (.ref C_Unlike)=some false:=Gq kmr_Whole_Unlike kt_Unlike.1 kt_Unlike.2 kmr_Whole_Whole;have kit_Whole_Answer:W.kitOne K (.ref C_Whole) (.ref C_Answer)=some true:=Gq kmr_Whole_Answer kt_Answer.1 kt_Answer.2 kmr_Whole_Whole;have kit_Lacking_Whole:W.kitOne K (.ref C_Lacking) (.ref C_Whole)=some false:=Gq kmr_Lacking_Whole kt_Whole.1 kt_Whole.2 kmr_Lacking_Lacking;have kit_Lacking_Lacking:W.kitOne K (.ref C_Lacking) (.ref C_Lacking)=some true:=Gq kmr_Lacking_Lacking kt_Lacking.1 kt_Lacking.2 kmr_Lacking_Lacking;have kit_Lacking_Unlike:W.kitOne K (.ref C_Lacking) (.ref C_Unlike)=some false:=Gq kmr_Lacking_Unlike kt_Unlike.1 kt_Unlike.2 kmr_Lacking_Lacking;have kit_Lacking_Answer:W.kitOne K (.ref C_Lacking) (.ref C_Answer)=some true:=Gq kmr_Lacking_Answer kt_Answer.1 kt_Answer.2 kmr_Lacking_Lacking;have kit_Unlike_Whole:W.kitOne K (.ref C_Unlike) (.ref C_Whole)=some false:=Gq kmr_Unlike_Whole kt_Whole.1 kt_Whole.2 kmr_Unlike_Unlike;have kit_Unlike_Lacking:W.kitOne K (.ref C_Unlike) (.ref C_Lacking)=some false:=Gq kmr_Unlike_Lacking kt_Lacking.1 kt_Lacking.2 kmr_Unlike_Unlike;have kit_Unlike_Unlike:W.kitOne K (.ref C_Unlike) (.ref C_Unlike)=some true:=Gq kmr_Unlike_Unlike kt_Unlike.1 kt_Unlike.2 kmr_Unlike_Unlike;have kit_Unlike_Answer:W.kitOne K (.ref C_Unlike) (.ref C_Answer)=some true:=Gq kmr_Unlike_Answer kt_Answer.1 kt_Answer.2 kmr_Unlike_Unlike;have m_Piece:=E.of qc_Piece.1;have cl_Piece:=qc_Piece.2.1;have ic_Piece:=qc_Piece.2.2.2.2;have m_Whole:=E.of qc_Whole.1;have cl_Whole:=qc_Whole.2.1;have ic_Whole:=qc_Whole.2.2.2.2;have m_Lacking:=E.of qc_Lacking.1;have cl_Lacking:=qc_Lacking.2.1;have ic_Lacking:=qc_Lacking.2.2.2.2;have m_Unlike:=E.of qc_Unlike.1;have cl_Unlike:=qc_Unlike.2.1;have ic_Unlike:=qc_Unlike.2.2.2.2;have cl_Reading:=qc_Reading.2.1;have m_Answer:=E.of aC_Answer;obtain⟨g_RULES,_,_,_,_,_,_,tt_RULES⟩:=q_RULES;have g_RULES:=E.of g_RULES;have t_RULES:∀H,L2.JV K H aRULES [.str "first",.str "last",.str "refuse"]:=fun H=>.inr ⟨_,_,_,tt_RULES,rfl,rfl,JT (by simp),(.cons ⟨_,rfl⟩ (.cons ⟨_,rfl⟩ (.cons ⟨_,rfl⟩ .nil)))⟩
 have B:Bt mg:=⟨E.no zs.1,E.no zs.2.1,E.no zs.2.2.1,E.no zs.2.2.2.1,E.no zs.2.2.2.2.1,E.no zs.2.2.2.2.2.1,E.no zs.2.2.2.2.2.2.1,E.no zs.2.2.2.2.2.2.2.1,E.no zs.2.2.2.2.2.2.2.2.1,E.no zs.2.2.2.2.2.2.2.2.2.1,E.no zs.2.2.2.2.2.2.2.2.2.2.1⟩;have B2:Ae mg:=⟨E.no zs.2.2.2.2.2.2.2.2.2.2.2.2.2.1,E.no zs.2.2.2.2.2.2.2.2.2.2.2.2.2.2.1⟩;have B7:Qc mg:=⟨E.no zs.2.2.2.2.2.2.2.2.2.2.2.2.2.2.2.1⟩;have B3:FO mg:=⟨E.no zs.2.2.2.2.2.2.2.2.2.2.2.1,E.no zs.2.2.2.2.2.2.2.2.2.2.2.2.1⟩;have T:Cn mg:=⟨qk.1.imp fun _ e=>E.of e,qk.2.1.imp fun _ e=>E.of e,qk.2.2.1.imp fun _ e=>E.of e,qk.2.2.2.1.imp fun _ e=>E.of e,qk.2.2.2.2.1.imp fun _ e=>E.of e⟩;have LP:Gg K C_Piece:=⟨cl_Piece,na_Piece.1,na_Piece.2.1,na_Piece.2.2.1,na_Piece.2.2.2.1,na_Piece.2.2.2.2.1,na_Piece.2.2.2.2.2.1,na_Piece.2.2.2.2.2.2.1⟩;have LW:Rp K C_Whole "body":=⟨cl_Whole,na_Whole.1⟩
 have LK:Rp K C_Lacking "spans":=⟨cl_Lacking,na_Lacking.1⟩
 have LU:Rp K C_Unlike "at":=⟨cl_Unlike,na_Unlike.1⟩
 have LR:DC K C_Reading:=⟨cl_Reading,na_Reading.1,na_Reading.2.1,na_Reading.2.2.1,na_Reading.2.2.2.1,na_Reading.2.2.2.2.1⟩;have AX:Op K C_Whole C_Lacking C_Unlike C_Answer:=⟨ic_Whole,ic_Lacking,ic_Unlike,kit_Whole_Whole,kit_Whole_Lacking,kit_Whole_Unlike,kit_Whole_Answer,kit_Lacking_Whole,kit_Lacking_Lacking,kit_Lacking_Unlike,kit_Lacking_Answer,kit_Unlike_Whole,kit_Unlike_Lacking,kit_Unlike_Unlike,kit_Unlike_Answer⟩;have g_is_whole:=E.fb q_is_whole (fun NB=>vL NB B) (by walk_at"b1");have g_is_whole_within:=E.fb q_is_whole_within (fun JB=>tI JB g_is_whole) (by walk_at"b3");have g_is_truth:=E.fb q_is_truth (fun Ny=>Zj Ny B) (by walk_at"b1");have g_is_number:=E.fb q_is_number (fun Ta=>wC Ta T g_is_whole_within) (by walk_at"b1");have g_is_name:=E.fb q_is_name (fun Te=>jH Te T B) (by walk_at"b1");have g_is_byte:=E.fb q_is_byte (fun TC=>tM TC T g_is_whole_within) (by walk_at"b1");have g_is_body:=E.fb q_is_body (fun TF=>Sf TF T B g_is_byte) (by walk_at"b1");have g_is_rule:=E.fb q_is_rule (fun TH=>x9 TH B g_RULES t_RULES) (by walk_at"b1");have g_are_shared_parts:=E.fb q_are_shared_parts (fun JU=>SI JU g_is_number g_is_name g_is_body g_is_truth) (by walk_at"b5");have g_is_place:=E.fb q_is_place (fun Tp=>uN Tp T g_is_whole) (by walk_at"b1");have g_has_room:=E.fb q_has_room (fun Tn=>vJ Tn T) (by walk_at"b3");obtain⟨a_Piece_init,i_Piece_init,_,_,_,_,_,_,_,_,_,l_Piece_init,c_Piece_init,_,_,_,t_Piece_init⟩:=q_Piece_init;have o_Piece:Ji l.prog w K mg base JN 6 f_Piece_init _ ["self","number","sender","goal","at","body","more","keep"] (Bg C_Piece):=ZM ⟨_,_,_,_,_,_,_,_,_,_,rfl,l_Piece_init,c_Piece_init⟩ LP B g_are_shared_parts g_is_place g_is_truth g_has_room;have M_Piece:Mk K C_Piece f_Piece_init:=⟨qc_Piece.2.2.1,a_Piece_init,i_Piece_init,qc_Piece.2.2.2.1⟩;have i_Piece:Rg l.prog w K mg base "Piece" C_Piece 6 ["self","number","sender","goal","at","body","more","keep"] [] (Bg C_Piece):=⟨_,_,[],o_Piece,E.of qc_Piece.1,M_Piece,(fun s us kx hl=>by rw[List.append_nil]at hl ⊢;obtain⟨_,_,_,_,_,_,_,_,rfl⟩:=nE hl;exact S9 kx t_Piece_init),.nil⟩
 have i_Piece_d1:Rg l.prog w K mg base "Piece" C_Piece 6 ["self","number","sender","goal","at","body","more","keep"] [.bl false] (Bg C_Piece):=⟨_,_,[.bool false],o_Piece,E.of qc_Piece.1,M_Piece,(fun s us kx hl=>by obtain⟨u0,u1,u2,u3,u4,u5,u6,rfl⟩:=uP hl;exact Za kx t_Piece_init),.cons rfl .nil⟩
 have m_Piece_key:=E.mb (sp:=Fu C_Piece) qc_Piece q_Piece_key (fun JX=>Zm JX LP) (by walk_at"b1");have m_Piece_end:=E.mb (sp:=F6 C_Piece) qc_Piece q_Piece_end (fun Jz=>nR Jz LP B) (by walk_at"b1");have g_with_span:=E.fb q_with_span (fun Tc=>Zy Tc B) (by walk_at"b2");have g_lacking:=E.fb q_lacking (fun TD=>SF TD) (by walk_at"b2");have i_Whole:=E.kb qc_Whole q_Whole_init (fun F=>xQ F LW B) (by walk_at"b2");have i_Lacking:=E.kb qc_Lacking q_Lacking_init (fun F=>yX F LK B) (by walk_at"b2");have i_Unlike:=E.kb qc_Unlike q_Unlike_init (fun F=>Ze F LU) (by walk_at"b2");have i_Reading:=E.kb qc_Reading q_Reading_init (fun F=>nW F LR) (by walk_at"b2");have m_Reading_is_strange:=E.mb (sp:=K7 C_Reading C_Piece) qc_Reading q_Reading_is_strange (fun JI=>wY JI LR LP (Pb m_Piece_end)) (by walk_at"b2");have m_Reading_unlike_number:=E.mb (sp:=Km C_Reading C_Piece) qc_Reading q_Reading_unlike_number (fun JE=>uE JE LR LP B3) (by walk_at"b2");have m_Reading_take:=E.mb (sp:=Kk C_Reading C_Piece) qc_Reading q_Reading_take (fun Nv=>xV Nv LR LP B B3 (Pb m_Piece_end) g_with_span) (by walk_at"b2");have m_Reading_missing:=E.mb (sp:=A9 C_Reading) qc_Reading q_Reading_missing (fun JA=>Qw JA LR g_lacking) (by walk_at"b1");have m_Reading_taken_body:=E.mb (sp:=Fv C_Reading) qc_Reading q_Reading_taken_body (fun JH=>jG JH LR B) (by walk_at"b1");have m_Reading_answer_to:=E.mb (sp:=Hl C_Reading C_Piece C_Whole C_Unlike) qc_Reading q_Reading_answer_to (fun JO=>wU JO LR LP m_Reading_is_strange m_Reading_unlike_number m_Reading_take m_Reading_missing m_Reading_taken_body (Qp i_Whole) (j9 i_Unlike)) (by walk_at"b2");have g_check_rule:=E.fb q_check_rule (fun JZ=>y8 JZ g_is_rule) (by walk_at"b1");have g_are_pieces:=E.fb (sp:=Ay C_Piece) q_are_pieces (fun N4=>vD N4 B LP m_Piece ic_Piece) (by walk_at"b1");have g_of_one_key:=E.fb (sp:=HU C_Piece) q_of_one_key (fun NV=>QS NV B (Ks m_Piece_key)) (by walk_at"b1");have g_judged:=E.fb (sp:=FQ C_Piece C_Whole C_Unlike C_Lacking) q_judged (fun M7=>vG M7 g_check_rule g_are_pieces g_of_one_key (tW i_Reading) m_Reading_answer_to m_Reading_missing (SA i_Lacking)) (by walk_at"b2");have g_by_key:=E.fb (sp:=Ir C_Piece) q_by_key (fun Mb=>Sr Mb (Ks m_Piece_key)) (by walk_at"b1");have g_read_all:=E.fb (sp:=Ii C_Piece C_Whole C_Unlike C_Lacking) q_read_all (fun NW=>jP NW B2 g_check_rule g_are_pieces g_by_key g_judged) (by walk_at"b2");have g_cell_at:=E.fb (sp:=HC K) q_cell_at (fun NP=>Zb NP B) (by walk_at"b2");have g_mixed:=E.fb q_mixed (fun Tf=>nA Tf) (by walk_at"b2");have g_digits:=E.fb q_digits (fun Ma=>yI Ma B g_mixed) (by walk_at"b2");have g_key:=E.fb q_key (fun GD=>ZP GD) (by walk_at"b1");have g_lawbody:=E.fb q_lawbody (fun Tz=>Zu Tz B g_mixed) (by walk_at"b2");have g_lawpiece:=E.fb q_lawpiece (fun Tk=>SS Tk B g_key) (by walk_at"b2");have g_lawstrange:=E.fb q_lawstrange (fun Nq=>Ss Nq B) (by walk_at"b2");have g_lawunlike:=E.fb q_lawunlike (fun NI=>wN NI B) (by walk_at"b2");have g_put:=E.fb q_put (fun GP=>yP GP B) (by walk_at"b3");have g_spans:=E.fb q_spans (fun Tw=>yL Tw B) (by walk_at"b1");have g_heap:=E.fb q_heap (fun Dg=>wF Dg) (by walk_at"b0");have g_lawtaken:=E.fb q_lawtaken (fun Tl=>wX Tl B g_lawstrange g_lawunlike g_put g_spans) (by walk_at"b3");have g_due:=E.fb q_due (fun GK=>QF GK g_heap g_lawtaken g_spans) (by walk_at"b2");have g_right:=E.fb (sp:=Hi C_Whole C_Lacking C_Unlike) q_right (fun MH=>Sx MH B AX LW LK LU m_Whole m_Lacking m_Unlike m_Answer) (by walk_at"b2");have g_lawallright:=E.fb (sp:=Hy C_Whole C_Lacking C_Unlike) q_lawallright (fun Nc=>Qn Nc B B2 B7 g_due g_right) (by walk_at"b3");exact uI BR B B2 g_cell_at g_lawbody g_digits g_lawpiece (j7 i_Piece_d1) g_read_all g_lawallright
theorem tS{l:W.OpenLaw}{q:WV}{loose:List Str}{XP:(Str->Option Value)->Heap->Prop}{YP:World->Heap->Prop}{d:DefRec}{K:Params->W.Frag}(hn:l.most=some 63)(hdf:d.params.defaults=[])
  (hY:∀ (w:WZ) (h:J6),YP w h->(K w.params).In h)
  (F : ∀ (w : World) (mg : Str -> Option Value) (fa : Addr) (h : Heap), (K w.params).In h -> h.Ns mainGlobals mg -> mg d.name = some (.ref fa) ->
   ∃ fd : FuncData, (∀ (s : Shared) (u : Value), BindsTo s fd ⟨[u], []⟩ [("_law_script", u)]) /\ ∀ base : Heap, (K w.params).In base -> base.Ns mainGlobals mg -> Ji l.prog w (K w.params) mg base JN 8 fa fd ["_law_script"] (CJ (K w.params))) :
  W.WalkO q loose XP YP l.row.toRowW d [] (fun f vs=>PySem.call f vs):=
 L2.AY (n:=63) (k:=8) (x:="_law_script") (CX:=fun _=>JN) (sp:=fun w=>CJ (K w.params)) hn (by decide) hdf ⟨rfl,by decide,by decide⟩ hY F (fun _ _ a b c _ e=>⟨a,b,rfl,e,c,fun _=>rfl⟩) fun _ _ _ _ _ z=>z
end Mine
namespace PySem.W.Fast
def tw11768979294514040122:=()
def tw8913690101951229495:=()
def tw12638915794859379608:=()
def tw18338143499734409446:=()
def tw2569577271967555821:=()
def tw8893861029249205907:=()
def tw15223062743465047613:=()
def tw9020667719647950139:=()
def tw17022187782972233554:=()
def tw17963345014060740689:=()
def tw7525462152848764601:=()
def tw1122091721850102721:=()
def tw4112108829303940804:=()
def tw11982971420623763137:=()
def tw10780221027171757738:=()
def tw9714412404927591544:=()
def tw15900114002674726813:=()
def tw12385700846308180797:=()
def tw1131254769626695603:=()
def tw17111767348763504452:=()
def tw9265900228383086078:=()
def tw4882106879083410542:=()
def tw12031444572527417985:=()
def tw2191321458161895602:=()
def tw8503892374477926355:=()
def tw4922480901789837705:=()
def tw16406444287291452280:=()
def tw18277689338382029458:=()
def tw5254841909879551425:=()
def tw10906648404479084624:=()
def tw6985662953432112583:=()
def tw2257059714653317546:=()
def tw13604096156306079275:=()
def tw9403772167144146188:=()
def tw12829759742035058775:=()
def tw10916098671819448864:=()
def tw575233294834137254:=()
def tw5295810263472343558:=()
def tw14877951082143169700:=()
def tw8481668708083201721:=()
def tw2953633198708582171:=()
def tw2151272505650318070:=()
def tw12856859574270027492:=()
def tw16089331665095319644:=()
def tw7331638691764914899:=()
def tw9844863127824091676:=()
def tw16232058579926332301:=()
def tw18332376363380559272:=()
def tw8988450798399423103:=()
def tw4650499924546430128:=()
def tw10505198149985271538:=()
def tw321175261918734706:=()
def tw7018914810944974133:=()
def tw394999964997955004:=()
def tw5290214080357081717:=()
def tw1591917349006641826:=()
def tw15606819708825890351:=()
def tw6384759680567522942:=()
def tw6301009975793099782:=()
def tw14944692205125171058:=()
def tw13147052536969354203:=()
def tw474976538748816741:=()
def tw3779561122333998376:=()
def tw98144018478616332:=()
def tw10313390888324347848:=()
def tw5132975991780591447:=()
def tw954830861246878468:=()
def tw17577247568972642318:=()
def tw11090816576438691931:=()
def tw2529613764232392371:=()
def tw5743888482071477077:=()
def tw11147781478764232771:=()
def tw10501857624826198977:=()
def tw1093502017825565724:=()
def tw10420071038478271406:=()
def tw125783526287046271:=()
def tw9982865432723075545:=()
def tw9571844560895016127:=()
def tw17562964480264022866:=()
def tw14259894408124755101:=()
def tw11480820781394291427:=()
def tw17207122688753499625:=()
def tw9374083859677718489:=()
def tw17552565897346095220:=()
def tw12485252889339125690:=()
def tw11715305768174168148:=()
def tw5520647870207700629:=()
def tw9416722527542942657:=()
def tw10613831316902236853:=()
def tw3858985276213628051:=()
def tw7985644002671796872:=()
def tw13559179215233266998:=()
def tw16943690961286700211:=()
def tw3226606099545256895:=()
def tw10664604841522884111:=()
def tw3985573781566879059:=()
def tw303544899820046665:=()
def tw15552497202428015498:=()
def tw16056353473088228651:=()
def tw12870047307249095907:=()
def tw10237479479379856033:=()
def tw17140579166064274127:=()
def tw2960766729429658259:=()
def tw17835831756335862703:=()
def tw8310585602360265504:=()
def tw12593652672584665406:=()
def tw14251038192560043821:=()
def tw5706479275945647773:=()
def tw7739590265075519028:=()
def tw1443117954267822738:=()
def tw2535018831011209588:=()
def tw10627928446979895424:=()
def tw5318916934714235266:=()
def tw14544818207438279297:=()
def tw7176916441423634989:=()
def tw8829677771497755111:=()
def tw1302314918107703020:=()
def tw12189291809460841818:=()
def tw10704843597540032239:=()
def tw86428949360220077:=()
def tw14533655698458597900:=()
def tw13188130467662938893:=()
def tw5097336714606659378:=()
def tw824632624453789131:=()
def tw10852613618038487367:=()
def tw13866647213278549240:=()
def tw14713729154360220109:=()
def tw7207763951740277204:=()
def tw16267384803411325181:=()
def tw9914747807089378142:=()
def tw13646885198538361250:=()
def tw8444534927964387483:=()
def tw2801702119670966817:=()
def tw7861754207456234412:=()
def tw4049197093857291771:=()
def tw17329253315268242616:=()
def tw3807137754302608433:=()
def tw1329077593564512237:=()
def tw67813036754509314:=()
def tw7040383975478987048:=()
def tw16812503215013018453:=()
def tw16280516022783889711:=()
def tw6999201812988676249:=()
def tw14676551160300639241:=()
def tw6880820788612866444:=()
def tw9941371802591498832:=()
def tw16090525728673896419:=()
def tw5907968950341899069:=()
def tw14899238515100912210:=()
def tw11949597887224158888:=()
def tw17172433088158221647:=()
def tw2975655284138714504:=()
def tw15114108547662071565:=()
def tw15880660918749679334:=()
def tw3962340321054411036:=()
def tw15514578378239014143:=()
def tw13295851374882884021:=()
def tw6674723017236200378:=()
def tw4698375869010907232:=()
def tw10549210836473662809:=()
def tw15298959334319724685:=()
def tw993785160687968808:=()
def tw2669357157596230695:=()
def tw15553671504573208104:=()
def tw8610316694030311856:=()
def tw1798163333648458372:=()
def tw6813735039659781637:=()
def tw12759855572091123445:=()
def tw2625599589136021565:=()
def tw2949338458570089381:=()
def tw15606355173390154322:=()
def tw3377735176187166132:=()
def tw3666741803254272662:=()
def tw17670712305425628225:=()
def tw13780296633003579309:=()
def tw9250269019691108922:=()
def tw17404161166173492211:=()
def tw3943579787981704621:=()
def tw14954360050736896221:=()
def tw12954986696609124112:=()
def tw15904874448002135264:=()
def tw18202999676207894988:=()
def tw12551600388729687615:=()
def tw9809533630386023498:=()
def tw12455192712258328075:=()
def tw10448305769367260338:=()
def tw9638827850487069190:=()
def tw17751155178711682783:=()
def tw14188551704530630761:=()
def tw14580121670608466763:=()
def tw13931211816703469042:=()
def tw11654864699365423270:=()
def tw16732808644887647655:=()
def tw3976489802385230327:=()
def tw16216766833749040286:=()
def tw7544661179240305520:=()
def tw9978359623901286181:=()
def tw8569943925714745732:=()
def tw9212589645631852001:=()
def tw4788836219586513547:=()
def tw2655926062031874735:=()
def tw14182035052438344988:=()
def tw9796634690344183503:=()
def tw7738689058659676501:=()
def tw14502871433328436933:=()
def tw16795486353848212760:=()
def tw711413388508227310:=()
def tw16867139183737304762:=()
def tw11569823976569920037:=()
def tw15706571252573656368:=()
def tw2327583146902209124:=()
def tw9513739838094289655:=()
def tw12706397174386218424:=()
def tw10283290613664344628:=()
def tw14413060187114078615:=()
def tw15531220319077651927:=()
def tw18208012453132697528:=()
def tw2697560739263262262:=()
def tw6075237863884534131:=()
def tw8782530673430443099:=()
def tw7290122175161706588:=()
def tw2191362673411869648:=()
def tw6106126202457054459:=()
def tw11178630620633106255:=()
def tw16575807093629966190:=()
def tw584500398812774574:=()
def tw1025037034497358872:=()
def tw9921401420943690962:=()
def tw370579359511837964:=()
def tw15371751092822243903:=()
def tw1176564302437718497:=()
def tw12298427946751556213:=()
def tw2399696281184086171:=()
def tw12821392031059586911:=()
def tw15576599533591855184:=()
def tw13425961637140780848:=()
def tw13218421654546365763:=()
def tw14027711082087967018:=()
def tw16120577676025072685:=()
def tw8735545589555706952:=()
def tw16039549775732213573:=()
def tw3389601092401690731:=()
def tw1723940113021990726:=()
def tw2180588525249035556:=()
def tw18391035069237323803:=()
def tw5733575924770216954:=()
def tw6501840238560596420:=()
def tw1783477593759149037:=()
def tw6623257123931024433:=()
def tw3937429276070527018:=()
def tw1013566096475037677:=()
def tw15087060246025914541:=()
def tw13734694943757299986:=()
def tw12502444355798413497:=()
def tw3512403462565667163:=()
def tw8042293815290555847:=()
def tw1808044518104844244:=()
def tw16322645454695671502:=()
def tw11885979245096099850:=()
def tw5476101789042708655:=()
def tw5577452980806987836:=()
def tw14731048943007796156:=()
def tw12275070421102949412:=()
def tw2252881588520333668:=()
def tw3376539034278381147:=()
def tw151227752375846902:=()
def tw17303703228403003014:=()
def tw801387830198164492:=()
def tw12443797545273398541:=()
def tw6536418135624535978:=()
def tw1447632520180152290:=()
def tw7422687204669802059:=()
def tw4071175633179785346:=()
def tw15754497981135673843:=()
def tw10492353312691759427:=()
def tw8089772094834121708:=()
def tw2527437068713700308:=()
def tw11412891632273772721:=()
def tw9991627832407020952:=()
def tw9826894025173462678:=()
def tw8959204427976042624:=()
def tw17717729396426956924:=()
def tw12764703652961252141:=()
def tw8229129675353821451:=()
def tw8853117767413678976:=()
def tw16515397882542431137:=()
def tw2217343623856058885:=()
def tw14724691958154863192:=()
def tw2357897336922380975:=()
def tw6431085695186890926:=()
def tw11262986759116664300:=()
def tw14999897201868035339:=()
def tw3521078780785475948:=()
def tw17887890300850926536:=()
def tw10901726370333998893:=()
def tw9250308391838509896:=()
def tw3227349596458541467:=()
def tw4928705763987842509:=()
def tw5500503846031748694:=()
def tw14447598954690873341:=()
def tw7185909048518698956:=()
def tw11045395127939865664:=()
def tw17169241107915981619:=()
def tw11254570948657161261:=()
def tw13035090212879614560:=()
def tw7361456152055600357:=()
def tw15062688287819355752:=()
def tw5407151327420243140:=()
def tw8898984250883200516:=()
def tw3573155482814624821:=()
def tw4373554356876324330:=()
def tw507361074325594441:=()
def tw1411100763759882547:=()
def tw5219026370298665361:=()
def tw1446056957507726343:=()
def tw12813007625369511344:=()
def tw3578330922585795475:=()
def tw8895384946158899203:=()
def tw6374020015514691252:=()
def tw11267739704572911821:=()
def tw11205731513129720381:=()
def tw3206021501417954181:=()
def tw536531749306729419:=()
def tw5809158005595915158:=()
def tw4648773617416841402:=()
def tw2601158383674361412:=()
def tw18046738686035282598:=()
def tw63217399216078634:=()
def tw1291906327677587626:=()
def tw6147799916005674580:=()
def tw898872169351274105:=()
def tw4883469491472420002:=()
def tw2943461004827076516:=()
def tw1096436625834671614:=()
def tw18433776703034601228:=()
def tw6465943125121659913:=()
def tw1700617836044251169:=()
def tw846058905800040980:=()
def tw11031876947741456952:=()
def tw3216647546040430705:=()
def tw11313283648320360095:=()
def tw6972456618527512220:=()
def tw12868658201956836501:=()
def tw7075139636831246305:=()
def tw8616415930992825914:=()
def tw867388249354285477:=()
def tw4593581130355055982:=()
def tw15740526508566437966:=()
def tw11359024563482472726:=()
def tw3598776008254216534:=()
def tw11459251182558601212:=()
def tw3947137158849979196:=()
def tw18240309582654519437:=()
def tw8758191819093622768:=()
def tw12947807784898974698:=()
def tw5645254025557414171:=()
def tw12118972422766412414:=()
def tw8653364809612202848:=()
def tw15208156806361941588:=()
def tw6922110287824348886:=()
def tw9476089515464558792:=()
def tw4616752576480335980:=()
def tw9407117839975374641:=()
def tw6654759097270449854:=()
def tw9357178345568051967:=()
def tw17549284012889688501:=()
def tw536267743801274960:=()
def tw14175837859014772504:=()
def tw8031866706600689720:=()
def tw1344869986983641643:=()
def tw1224131503924287464:=()
def tw10474165299199470645:=()
def tw15834704745557032553:=()
def tw2245715122965900253:=()
def tw9383672791104565787:=()
def tw10820513022512440855:=()
def tw17718453430435679070:=()
def tw12416887918357236915:=()
def tw11863376290352604575:=()
def tw7091522558228726646:=()
def tw4068138562692440854:=()
def tw7184058484485913062:=()
def tw13939675117927550495:=()
def tw3704873044181396139:=()
def tw2063791020830589203:=()
def tw692553306248070330:=()
def tw7721877962860171306:=()
def tw2992789974324543992:=()
def tw1409199541750012478:=()
def tw6324324398897718908:=()
def tw13652557970045034074:=()
def tw2510785418254538444:=()
def tw9983725145380515861:=()
def tw7337414904118359041:=()
def tw17320454310982251317:=()
def tw18056606473529949633:=()
def tw12297813768527315885:=()
def tw695547245141552013:=()
def tw14082476010455773475:=()
def tw5957587720329814276:=()
def tw993297282976325664:=()
def tw4376862023275914587:=()
def tw6596348065716140888:=()
def tw10396548965300404724:=()
def tw17606271814555391451:=()
def tw9036036049041797930:=()
def tw14741316760594320709:=()
def tw2873121863906838003:=()
def tw3673200118448246055:=()
def tw12144621636067008705:=()
def tw4777382616037930782:=()
def tw17675647744273814065:=()
def tw16361271940688874716:=()
def tw4935975873296390717:=()
def tw481737747079177893:=()
def tw2850516807189842693:=()
def tw175228305564096997:=()
def tw15814330709270375282:=()
def tw1329787734549271902:=()
def tw11886134610867366096:=()
end PySem.W.Fast
open PySem PySem.W PyProof.Rows
local macro_rules | `(tactic| walk_at"kf") => `(tactic| exact ⟨by k_is, _, _, _, _, _, _, _, _, _, by k_is, by k_is, by k_is⟩)
local macro_rules | `(tactic| walk_at"km") => `(tactic| exact ⟨by k_is, by k_is, _, _, _, _, _, _, _, _, _, by k_is, by k_is, by k_is⟩)
local macro_rules | `(tactic| walk_at"kd") => `(tactic| exact ⟨by k_is, by k_is, _, _, _, _, _, _, _, _, _, by k_is, by k_is, _, _, _, by k_is⟩)
local macro_rules | `(tactic| walk_at"kc") => `(tactic| exact ⟨by k_is, ⟨by k_is, by k_is, by k_is, by k_is⟩, by k_is, by k_is, ⟨by k_is, by k_is, by k_is, by k_is⟩⟩)
local macro_rules | `(tactic| walk_at"kn") => `(tactic| (repeat (first | exact trivial | refine ⟨by k_is, ?_⟩)))
local macro_rules | `(tactic| walk_at"k2") => `(tactic| exact ⟨by k_is, by k_is⟩)
local macro_rules | `(tactic| walk_at"k1") => `(tactic| k_is)
set_option maxRecDepth 100000 in
set_option maxHeartbeats 0 in
theorem PySem.Challenge.cw_pieceways_k32_many_keys_read_holds : PySem.Challenge.rw_pieceways_k32_many_keys_read.Holds := by
 w_on;o_law;k_head;(case hw=>w_witness2)
 k_fill
 refine Mine.tS (l:=PySem.Challenge.rw_pieceways_k32_many_keys_read) rfl rfl (fun w h Y=>PySem.W.kIn_of Y) ?F
 case F=>
  intro w mg fa h KX G hmg;exact Mine.K8 KX G hmg (by walk_at"kf") (by walk_at"kf") (by walk_at"kf") (by walk_at"kf") (by walk_at"kf") (by walk_at"kf") (by walk_at"kf") (by walk_at"kf") (by walk_at"kf") (by walk_at"kf") (by walk_at"kf") (by walk_at"kf") (by walk_at"kf") (by walk_at"kf") (by walk_at"kf") (by walk_at"kf") (by walk_at"kf") (by walk_at"kf") (by walk_at"kf") (by walk_at"kf") (by walk_at"kf") (by walk_at"kf") (by walk_at"kf") (by walk_at"kf") (by walk_at"kf") (by walk_at"kf") (by walk_at"kf") (by walk_at"kf") (by walk_at"kf") (by walk_at"kf") (by walk_at"kf") (by walk_at"kf") (by walk_at"kf") (by walk_at"kf") (by walk_at"kf") (by walk_at"kc") (by walk_at"kn") (by walk_at"km") (by walk_at"km") (by walk_at"kd") (by walk_at"kc") (by walk_at"kn") (by walk_at"km") (by walk_at"kc") (by walk_at"kn") (by walk_at"km") (by walk_at"kc") (by walk_at"kn") (by walk_at"km") (by walk_at"kc") (by walk_at"kn") (by walk_at"km") (by walk_at"km") (by walk_at"km") (by walk_at"km") (by walk_at"km") (by walk_at"km") (by walk_at"km") (by walk_at"k1") (by walk_at"k2") (by walk_at"k2") (by walk_at"k2") (by walk_at"k2") (by walk_at"k1") (by walk_at"k1") (by walk_at"k1") (by walk_at"k1") (by walk_at"k1") (by walk_at"k1") (by walk_at"k1") (by walk_at"k1") (by walk_at"k1") (by walk_at"k1") (by walk_at"k1") (by walk_at"k1") ⟨⟨_,by k_is⟩,⟨_,by k_is⟩,⟨_,by k_is⟩,⟨_,by k_is⟩,⟨_,by k_is⟩,trivial⟩ ⟨by k_is,_,_,_,_,_,_,by k_is⟩ (by walk_at"kn")
