import PyProof.Rows.All
import Wide.All
import OpenK.AllK
import Wide.FinOn
import Lean
import PyProof.EqAt
import PyProof.EqKinds
import PyProof.TupleCall
import OpenK.KOwn
import KE.KIsAll
import KE.KLam
import KE.KEqDict
import PySem.Challenge.RW_pieceways_k41_a_room_by_a_model
set_option Elab.async false
set_option linter.all false
set_option maxRecDepth 100000
set_option compiler.extract_closed false
noncomputable section
theorem hide_{G:Prop}(h:∀N:Prop,(G->N)->N):G:=h G id
local macro_rules|`(tactic|obtain $p:rcasesPatMed := $e:term)=>`(tactic|first|((refine hide_ fun N hN=>?_;rcases $e:term with $p)<;>(refine hN ?_;clear hN;clear N))|rcases $e:term with $p)
set_option bootstrap.genMatcherCode false
local macro_rules|`(command|def $n:declId $s:optDeclSig $v:declVal)=>`(command|noncomputable def $n:declId $s:optDeclSig $v:declVal)
def Y0:=@PySem.wpAny_bind
def Y1:=@List.length_map
def Y2:=@if_neg
def Y3:=@List.mem_map
def Y4:=@PySem.wpAny_pure
def Y5:=@if_pos
def Y6:=@Nat.le_refl
def Y7:=@List.getElem?_eq_getElem
def Y8:=@PySem.Heap.get?_push_of_some
def Y9:=@List.getElem?_map
def Ya:=@Nat.lt_of_le_of_lt
def Yb:=@decide_eq_true_eq
def Yc:=@PySem.Heap.get?_push_size
def Yd:=@decide_eq_true
def Ye:=@PySem.Heap.lt_size
def Yf:=@List.map_append
def Yg:=@List.mem_singleton
def Yh:=@List.size_toArray
def Yi:=@Bool.false_ne_true
def Yj:=@Nat.ne_of_lt
def Yk:=@List.mem_cons_of_mem
def Yl:=@List.mem_cons
def Ym:=@List.mem_filter
def Yn:=@Option.map_eq_some_iff
def Yo:=@List.map_map
def Yp:=@decide_eq_false
def Yq:=@List.getElem?_eq_some_iff
def Yr:=@PySem.F.plainAttrs_list
def Ys:=@List.length_append
def Yt:=@List.length_take
def Yu:=@PySem.F.slot_list_append
def Yv:=@PySem.F.type_list_append
def Yw:=@Bool.eq_iff_iff
def Yx:=@List.mem_of_getElem?
def Yy:=@List.mem_append_right
def Yz:=@List.length_filter_le
def YA:=@List.take_of_length_le
def YB:=@List.mem_append
def YC:=@List.mem_cons_self
def YD:=@Nat.le_trans
def YE:=@List.nodup_cons
def YF:=@Nat.zero_le
def YG:=@Nat.lt_of_lt_of_le
def YH:=@PySem.Heap.get?_update_other
def YI:=@List.filter_sublist
def YJ:=@PySem.F.plainAttrs_dict
def YK:=@List.take_add_one
def YL:=@Nat.le_succ
def YM:=@PySem.wpAny_newObj_type
def YN:=@List.find?_cons
def YO:=@List.map_congr_left
def YQ:=@PySem.wpAny_holding
def YR:=@PySem.wpAny_call_entry
def YS:=@PySem.wpAny_dictEntries
def YT:=@PySem.PassesOwn.never
def YU:=@congrArg
def YV:=@PySem.sizeLine_eq
def YW:=@Int.toNat_natCast
def YX:=@PySem.F.slot_dict_keyiterator_next
def YY:=@Bool.eq_false_iff
def YZ:=@Int.le_refl
def X0:=@Bool.and_eq_true
def X1:=@PySem.F.plain_min_loop
def X2:=@PySem.Heap.SameBut.update
def X3:=@PySem.Heap.get?_update_self
def X4:=@PySem.wpAny_truthy_bool
def X5:=@of_decide_eq_true
def X6:=@decide_eq_false_iff_not
def X7:=@PySem.wpAny_callSpecial?_slot
def X8:=@List.getD_eq_getElem?_getD
def X9:=@PySem.wpAny_mono
def Xa:=@PySem.wpAny_setField_rec
def Xb:=@PySem.F.slot_dict_valueiterator_next
def Xc:=@Option.toList_some
def Xd:=@List.filter_map
def Xe:=@Array.getElem?_eq_getElem
def Xf:=@PySem.F.slot_dict_itemiterator_next
def Xg:=@beq_eq_false_iff_ne
def Xh:=@Nat.lt_succ_of_lt
def Xi:=@PySem.Heap.size_push
def Xj:=@PySem.wpAny_loadPart'
def Xk:=@List.getElem_mem
def Xl:=@List.filter_eq_self
def Xm:=@PySem.wpAny_dictEpoch
def Xn:=@PySem.wpAny_notOrdered_dict
def Xo:=@PySem.wpAny_Call_Name_kw
def Xp:=@PySem.tupleKind_room_in1
def Xq:=@decide_false
def Xr:=@List.find?_eq_none
def Xs:=@Nat.lt_irrefl
def Xt:=@decide_true
def Xu:=@PySem.wpAny_pyIter_list
def Xv:=@Bool.not_eq_true'
def Xw:=@List.filter_congr
def Xx:=@PyProof.Rows.KeyOrd.kle_refl
def Xy:=@PySem.wpAny_letGo
def Xz:=@PySem.wpAny_field
def XA:=@List.Sublist.map
def XB:=@PySem.F.slot_dict_pop
def XC:=@List.filter_append
def XD:=@Classical.byContradiction
def XE:=@Nat.le_of_lt
def XF:=@List.mem_iff_getElem
def XG:=@PySem.wpAny_typeNameOfWhole_itemiter
def XH:=@PySem.wpAny_typeNameOfWhole_keyiter
def XI:=@PySem.wpAny_typeNameOfWhole_valiter
def XJ:=@Bool.false_and
def XM:=@Eq.symm
def XN:=@Int.zero_add
def XO:=@PySem.wpAny_passesOwn
def XQ:=@List.any_cons
def XR:=@Array.perm_iff_toList_perm
def XS:=@PySem.plainId_quiet
def XT:=@PySem.wpAny_attempt
def XU:=@Option.isSome_map
def XV:=@PySem.Heap.get?_push_ne
def XW:=@List.mem_append_left
def XX:=@List.getElem?_eq_none_iff
def XY:=@PySem.W.kia_one
def XZ:=@Nat.lt_succ_self
def U0:=@List.lookup_cons
def U1:=@List.all_eq_true
def U2:=@PySem.call_meetsIn
def U3:=@List.filter_cons
def U4:=@PySem.F.slot_dict_values
def U5:=@PySem.mem_of_lookup
def U6:=@List.length_pos_iff
def U7:=@List.filter_cons_of_neg
def U8:=@List.filter_cons_of_pos
def U9:=@Bool.true_and
def Ua:=@List.sum_cons
def Ub:=@PySem.wpAny_updateSeq
def Uc:=@Int.emod_lt_of_pos
def Ud:=@Prod.ext
def Ue:=@List.nodup_append
def Uf:=@List.append_assoc
def Ug:=@Nat.ne_of_gt
def Uh:=@PySem.codeAny_mono
def Ui:=@List.length_singleton
def Uj:=@List.getElem?_eq_none
def Uk:=@PySem.wpAny_tryCatch
def Ul:=@PySem.F.slot_enumerate_next
def Um:=@PySem.F.slot_dict_setdefault
def Uo:=@PySem.wpAny_fieldsOf
def Up:=@PySem.F.type_dict_pop
def Uq:=@Int.le_trans
def Ur:=@PySem.Around.under_plainId
def Us:=@PySem.Obj.data_mapDictKeys
def Ut:=@PySem.Heap.size_update
def Uu:=@List.getElem?_append_right
def Uv:=@Array.getElem?_eq_some_iff
def Uw:=@PySem.F.args_dict_valueiterator_next_1
def Ux:=@List.getElem?_append_left
def Uy:=@List.getElem?_zip_eq_some
def Uz:=@PySem.codeAny_builtin
def UA:=@PySem.Calls.call_function_entry
def UB:=@Int.emod_nonneg
def UC:=@List.drop_eq_getElem_cons
def UD:=@PySem.F.entry_dict_valueiterator_next
def UE:=@PySem.F.args_dict_itemiterator_next_1
def UF:=@Option.isSome_iff_exists
def UG:=@PySem.F.args_dict_keyiterator_next_1
def UH:=@PySem.Obj.data_mapFields
def UI:=@List.zip_cons_cons
def UJ:=@PySem.F.entry_dict_itemiterator_next
def UK:=@PySem.F.type_dict_values
def UL:=@beq_iff_eq
def UM:=@List.nodup_nil
def UN:=@PySem.wpAny_rule
def UO:=@PySem.F.entry_dict_keyiterator_next
def UP:=@PySem.wpAny_setField
def UQ:=@PyProof.Rows.KeyOrd.kle_of_klt
def UR:=@PySem.wpAny_pyIter_slot
def US:=@List.length_range
def UT:=@Sum.inl.inj
def UU:=@PySem.wpAny_Assign_Subscript
def UV:=@PySem.wpAny_of_eq
def UW:=@Array.getElem?_eq_none
def UX:=@PySem.wpAny_isOneOf_itemiter
def UY:=@PySem.wpAny_standAt
def UZ:=@List.length_drop
def V0:=@PyProof.Rows.KeyOrd.kle_trans
def V1:=@PySem.F.entry_min_loop
def V2:=@PySem.wpAny_isInstance
def V3:=@Bool.not_eq_true
def V4:=@PySem.F.slot_dict_get
def V5:=@PySem.wpAny_isOneOf_valiter
def V6:=@PySem.plainObj_wpAny_Assign_Attribute
def V7:=@PySem.wpAny_execs_nil
def V8:=@List.length_set
def V9:=@List.length_dropLast
def Va:=@Option.map_some
def Vb:=@PySem.codeAny_call_builtin
def Vc:=@PySem.size_of_entries
def Vd:=@List.mem_of_mem_take
def Ve:=@Nat.le_add_left
def Vf:=@PySem.F.slot_dict_values_iter
def Vg:=@List.filterMap_cons
def Vh:=@PySem.wpAny_dictFind_heap
def Vi:=@or_false
def Vj:=@PySem.wpAny_seqItems
def Vk:=@PySem.isSubtype_stop
def Vl:=@PySem.F.slot_dict_items_iter
def Vm:=@PySem.F.type_dict_setdefault
def Vn:=@PyProof.Rows.callWith_type1
def Vo:=@Array.getD_eq_getD_getElem?
def Vp:=@List.filter_filter
def Vq:=@PySem.Calls.Name_function_global
def Vr:=@Int.fdiv_eq_ediv_of_nonneg
def Vs:=@Bool.or_false
def Vt:=@PySem.wpAny_newList
def Vu:=@PySem.wpAny_call
def Vv:=@PySem.wpAny_missedRemoval_other
def Vw:=@List.mem_of_find?_eq_some
def Vx:=@PySem.wpAny_eqBool_int
def Vy:=@PySem.wpAny_eqBool_str
def Vz:=@List.ext_getElem
def VA:=@List.Perm.eq_of_pairwise
def VB:=@PySem.F.args_tuple_lt_2
def VC:=@PySem.F.slot_dict_items
def VD:=@List.of_mem_zip
def VE:=@Bool.or_eq_true
def VF:=@List.getElem?_set_self
def VG:=@PySem.F.entry_dict_pop
def VH:=@PySem.F.slot_dict_iter
def VI:=@PySem.F.entry_tuple_lt
def VJ:=@PySem.F.slot_dict_keys
def VL:=@List.drop_of_length_le
def VM:=@Option.map_eq_none_iff
def VN:=@List.length_pos_of_mem
def VO:=@List.mem_range
def VP:=@List.cons_lt_cons_iff
def VQ:=@PySem.wpAny_newTuple
def VR:=@PySem.F.slot_tuple_lt
def VS:=@List.take_succ
def VT:=@List.find?_map
def VU:=@PySem.F.type_dict_get
def VW:=@List.getElem?_set_ne
def VX:=@PySem.Walks.list
def VY:=@Sum.inl.injEq
def VZ:=@Sum.inr.injEq
def W0:=@List.getElem?_range
def W1:=@PyProof.Rows.lt_str
def W2:=@List.map_eq_nil_iff
def W3:=@Int.toNat_of_nonneg
def W4:=@Nat.le_of_eq
def W5:=@List.any_map
def W6:=@List.any_nil
def W7:=@List.not_lt
section
open PySem
abbrev W8:=Str->Option Value
abbrev W9:=Value->Shared->Prop
abbrev Wa:=Unit->Shared->Prop
abbrev Wb:=List (Addr×Obj)
abbrev Wc:=PySem.Program
abbrev We:=PySem.Shared
abbrev Wf:=PySem.FuncData
abbrev Wg:=PySem.Around
abbrev Wh:=PySem.World
abbrev Wi:=PySem.W.Frag
abbrev Wj:=PySem.Value
abbrev Wk:=PySem.Addr
abbrev Wl:=List Int
abbrev Wm:=List Value
abbrev Wn:=PySem.Heap
abbrev Wo:=PySem.Expr
end
namespace L2
open PySem PySem.Spec PyProof.Rows
abbrev WO:=Sum Int Str
def Bj:WO->Value->Bool
 | .inl k,v=>Value.isInt k v
 | .inr x,v=>Value.isStrOf x v
def uI(w:Wh):WO->Int
 | .inl k=>hashInt k
 | .inr x=>hashStr w x
theorem Ra:∀{k:WO} {v:Wj},Bj k v=true->(∃i t,k=Sum.inl i/\v=Value.int i t)\/(∃x t,k=Sum.inr x/\v=Value.str x t)
 | .inl i,v,h=>by
  obtain⟨t,e⟩:=Value.isInt_shape (k:=i) (v:=v) h;exact .inl ⟨i,t,rfl,e⟩
 | .inr x,v,h=>by
  obtain⟨t,e⟩:=Value.isStrOf_shape (x:=x) (v:=v) h;exact .inr ⟨x,t,rfl,e⟩
theorem ZZ(i:Int)(t:Tok):Bj (.inl i) (.int i t)=true:=by simp[Bj,Value.isInt]
theorem nY(x:Str)(t:Tok):Bj (.inr x) (.str x t)=true:=by simp[Bj,Value.isStrOf]
theorem w6(a b:Int):decide ((Sum.inl a:WO)=Sum.inl b)=(a==b):=by
 by_cases e:a=b
 .subst e;simp
 .have h:¬(Sum.inl a:WO)=Sum.inl b:=fun q=>e (UT q)
  rw[Yp h];exact(Xg.mpr e).symm
theorem yR(a b:Str):decide ((Sum.inr a:WO)=Sum.inr b)=decide (a=b):=by
 by_cases e:a=b
 .subst e;simp
 .have h:¬(Sum.inr a:WO)=Sum.inr b:=fun q=>e (Sum.inr.inj q)
  rw[Yp h,Yp e]
theorem vX(a:Int)(b:Str):decide ((Sum.inl a:WO)=Sum.inr b)=false:=Yp (fun q=>nomatch q)
theorem vU(a:Str)(b:Int):decide ((Sum.inr a:WO)=Sum.inl b)=false:=Yp (fun q=>nomatch q)
def WF(prog:Wc)(w:Wh):PySem.KeyKind prog w WO where
 is:=Bj
 hash:=uI w
 inj:=fun v a b ha hb=>by
  rcases Ra ha with⟨i,t,rfl,rfl⟩|⟨x,t,rfl,rfl⟩
  .rcases Ra hb with⟨j,u,rfl,e⟩|⟨y,u,rfl,e⟩
   .injection e with e1 _;rw[e1]
   .exact nomatch e
  .rcases Ra hb with⟨j,u,rfl,e⟩|⟨y,u,rfl,e⟩
   .exact nomatch e
   .injection e with e1 _;rw[e1]
 byValue:=fun k v h=>by
  rcases Ra h with⟨i,t,rfl,rfl⟩|⟨x,t,rfl,rfl⟩ <;> rfl
 pyHash:=fun hv h=>by
  rcases Ra hv with⟨i,t,rfl,rfl⟩|⟨x,t,rfl,rfl⟩
  .exact wpAny_pyHash_int h
  .exact wpAny_pyHash_str h
 eqBool:=fun hu hv h=>by
  rcases Ra hu with⟨i,t,rfl,rfl⟩|⟨x,t,rfl,rfl⟩
  .rcases Ra hv with⟨j,u,rfl,rfl⟩|⟨y,u,rfl,rfl⟩
   .rw[w6]at h;exact Vx h
   .rw[vX]at h;exact SeqAt.EqAt.int_str i t y u _ _ _ _ h
  .rcases Ra hv with⟨j,u,rfl,rfl⟩|⟨y,u,rfl,rfl⟩
   .rw[vU]at h;exact SeqAt.EqAt.str_int x t j u _ _ _ _ h
   .rw[yR]at h;exact Vy h
 «strs»:=fun k x t v h=>by
  rcases Ra h with⟨i,u,rfl,e⟩|⟨y,u,rfl,e⟩
  .exact nomatch e
  .injection e with e1 _;subst e1;cases v <;> rfl
theorem nR(prog:Wc)(w:Wh)(i:Int)(t:Tok):(WF prog w).is (.inl i) (.int i t)=true:=ZZ i t
theorem r0(prog:Wc)(w:Wh)(x:Str)(t:Tok):(WF prog w).is (.inr x) (.str x t)=true:=nY x t
inductive V where
 |non|bl (b:Bool)|int (i:Int)|str (x:Str)|byt (b:Array UInt8)|flt (b:UInt64)|ref (a:Wk)|ty (n:String)
 deriving DecidableEq
def WJ:V->Value->Prop
 | .non,u=>u=Value.none
 | .bl b,u=>u=Value.bool b
 | .int i,u=>∃t,u=Value.int i t
 | .str x,u=>∃t,u=Value.str x t
 | .byt b,u=>∃t,u=Value.bytes b t
 | .flt b,u=>∃t,u=Value.float b t
 | .ref a,u=>u=Value.ref a
 | .ty n,u=>u=Value.type n
abbrev WD:List V->List Value->Prop:=Paired WJ
theorem WD.length{xs:List V}{us:Wm}(r:WD xs us):xs.length=us.length:=Paired.length r
theorem WD.get:∀{xs:List V} {us:Wm} {i:Nat} {x:V},WD xs us->xs[i]?=some x->∃u,us[i]?=some u/\WJ x u
 |_,_,_,_,.nil,e=>by simp at e
 |_,_,0,_,.cons r _,e=>by simp at e;subst e;exact⟨_,rfl,r⟩
 |_,_,i+ 1,x,.cons _ t,e=>by
  obtain⟨u,h1,h2⟩:=WD.get (i:=i) (x:=x) t (by simpa using e);exact⟨u,by simpa using h1,h2⟩
theorem WD.set{x:V}{u:Wj}(r:WJ x u):∀{xs:List V} {us:Wm} (i:Nat),WD xs us->WD (xs.set i x) (us.set i u)
 |_,_,_,.nil=>.nil
 |_,_,0,.cons _ t=>.cons r t
 |_,_,i+ 1,.cons q t=>.cons q (WD.set r i t)
theorem WD.append:∀{xs ys:List V} {us ws:Wm},WD xs us->WD ys ws->WD (xs++ys) (us++ws)
 |_,_,_,_,.nil,s=>s
 |_,_,_,_,.cons r t,s=>.cons r (WD.append t s)
theorem WD.take:∀{xs:List V} {us:Wm} (n:Nat),WD xs us->WD (xs.take n) (us.take n)
 |_,_,0,_=>.nil
 |_,_,_+ 1,.nil=>.nil
 |_,_,n+ 1,.cons r t=>.cons r (WD.take n t)
theorem WD.drop:∀{xs:List V} {us:Wm} (n:Nat),WD xs us->WD (xs.drop n) (us.drop n)
 |_,_,0,r=>r
 |_,_,_+ 1,.nil=>.nil
 |_,_,n+ 1,.cons _ t=>WD.drop n t
def Td:Option V->Option Value->Prop
 |some v,some u=>WJ v u
 |none,none=>True
 |_,_=>False
def KV{κ:Type}:List (κ×V)->List (κ×Value)->Prop:=Paired fun(p:κ×V) (q:κ×Value)=>p.1=q.1/\WJ p.2 q.2
def kV:WO->V
 | .inl i=>.int i
 | .inr x=>.str x
inductive HO where
 |lst (xs:List V)
 |tup (xs:List V)
 |dK (kvs:List (WO×V))|dT (kvs:List (List WO×V))
 |set (S:Int->Bool) (n:Nat)
 |ins (C dx:Wk) (fs:List (Str×V))
 |own (x:Wk)
 |xd (fs:List (Str×V))
 |met (f x:Wk)
 |rng (lo hi:Int)
 |frz (o:Obj) (u:HO)
 |tbl (ps:Array Value)
 |ext (φ:Heap->Prop)
abbrev Hp:=Addr->Option HO
def upd(H:Hp)(a:Wk)(o:HO):Hp:=fun b=>if b=a then some o else H b
theorem Jp{H:Hp}{a:Wk}{o:HO}:upd H a o a=some o:=by unfold upd;rw[Y5 rfl]
theorem WT{H:Hp}{a b:Wk}{o:HO}(h:b≠a):upd H a o b=H b:=by unfold upd;rw[Y2 h]
theorem Wr{H:Hp}{a b:Wk}{o u:HO}(h:H a=some o)(h':H b=some u)(d:o≠u):a≠b:=by
 intro e;subst e;rw[h]at h';exact d (Option.some.inj h')
theorem N0{H:Hp}{a b:Wk}{o:HO}(h:H a=some o)(h':H b=none):a≠b:=by
 intro e;subst e;rw[h]at h';cases h'
section
variable(P:Wc)(w:Wh)
def WR(H:Hp)(h:Wn)(a:Wk):HO->Prop
 | .lst xs=>xs.length <=sizeLine/\∃ (its:Wm) (n:Nat),WD xs its/\h.get? a=some {cls:=.type "list",data:=.seq its.toArray n}
 | .tup xs=>xs.length <=sizeLine/\∃its:List Value,WD xs its/\IsTup h a its.toArray
 | .dK kvs=>kvs.length <=sizeLine/\(a==sysModules)=false/\∃vs,KV kvs vs/\h.DictOf (WF P w) a vs
 | .dT kvs=>kvs.length <=sizeLine/\(a==sysModules)=false/\∃xs:List (List WO×Addr×Value),
   Paired (fun(p:List WO×V) (q:List WO×Addr×Value)=>p.1=q.1/\H q.2.1=some (.tup (p.1.map kV))/\WJ p.2 q.2.2) kvs xs/\
   ∃o es ep,h.get? a=some o/\o.ExactDict/\o.data= .dict es ep/\es.toList=xs.map (entryOfKey (tupleKind (WF P w)))/\(xs.map (·.1)).Nodup
 | .set S n=>h.SetOf (intKind P w) a S n
 | .ins C dx fs=>H dx=some (.own a)/\fs.length <=1000/\dx≠a/\h.get? a=some (W.instObj C dx)/\
   ∃mA,h.Ns1 dx mA/\(∀f,Td (fs.lookup f) (mA f))/\PySem.Within mA (fs.map (·.1))
 | .own _=>∃o,h.get? a=some o
 | .xd fs=>∃mA,h.Ns1 a mA/\∀f,Td (fs.lookup f) (mA f)
 | .rng lo hi=>∃t u v,h.get? a=some {cls:=.type "range",data:=.fields #[.int lo t,.int hi u,.int 1 v]}
 | .frz o u=>h.get? a=some o/\WR H h a u
 | .tbl ps=>h.get? a=some {cls:=.none,data:=.fields ps}
 | .met f x=>h.get? a=some (W.methodObj (.ref f) (.ref x))
 | .ext φ=>φ h/\(∃o,h.get? a=some o)/\∀h1 h2:Heap,φ h1->(∀o,h1.get? a=some o->h2.get? a=some o)->φ h2
def Tt(H:Hp)(h:Wn):Prop:=∀a o,H a=some o->WR P w H h a o
end
section
variable{P:Wc}{w:Wh}{H H':Hp}{h h':Wn}{a:Wk}{o:HO}
theorem WR.lt(x:WR P w H h a o):a < h.objs.size:=by
 cases o with
 |lst xs=>obtain⟨_,_,_,_,e⟩:=x;exact Ye e
 |tup xs=>obtain⟨_,_,_,p⟩:=x;exact p.lt
 |dK kvs=>obtain⟨_,_,_,_,o,_,_,e,_⟩:=x;exact Ye e
 |dT kvs=>obtain⟨_,_,_,_,o,_,_,e,_⟩:=x;exact Ye e
 |set S n=>obtain⟨o,_,_,_,e,_⟩:=x;exact Ye e
 |ins C dx fs=>obtain⟨_,_,_,e,_⟩:=x;exact Ye e
 |own y=>obtain⟨_,e⟩:=x;exact Ye e
 |xd fs=>obtain⟨_,⟨_,_,_,e,_⟩,_⟩:=x;exact Ye e
 |rng lo hi=>obtain⟨_,_,_,e⟩:=x;exact Ye e
 |frz ob u=>obtain⟨e,_⟩:=x;exact Ye e
 |tbl ps=>exact Ye (show h.get? a=some _ from x)
 |met f y=>exact Ye (show h.get? a=some _ from x)
 |ext φ=>obtain⟨_,⟨_,e⟩,_⟩:=x;exact Ye e
theorem Paired.mapP{α β:Type}{F G:α->β->Prop}:∀{l₁:List α} {l₂:List β},Paired F l₁ l₂->(∀a b,F a b->G a b)->Paired G l₁ l₂
 |_,_,.nil,_=>.nil
 |_,_,.cons r t,f=>.cons (f _ _ r) (Paired.mapP t f)
theorem WR.stay(x:WR P w H h a o)(k:∀b u,(b=a\/H b=some (.own a))->h.get? b=some u->h'.get? b=some u)
  (ho:∀b,H b=some (.own a)->H' b=some (.own a)) (ht:∀b xs,H b=some (.tup xs)->H' b=some (.tup xs)):WR P w H' h' a o:=by
 induction o with
 |lst xs=>obtain⟨z,i,n,r,e⟩:=x;exact⟨z,i,n,r,k _ _ (.inl rfl) e⟩
 |tup xs=>obtain⟨z,i,r,ob,e,c⟩:=x;exact⟨z,i,r,ob,k _ _ (.inl rfl) e,c⟩
 |dK kvs=>obtain⟨z,y,vs,r,ob,es,ep,e,c⟩:=x;exact⟨z,y,vs,r,ob,es,ep,k _ _ (.inl rfl) e,c⟩
 |dT kvs=>
  obtain⟨z,y,xs,r,ob,es,ep,e,c⟩:=x;exact⟨z,y,xs,Paired.mapP r fun p q z=>⟨z.1,ht _ _ z.2.1,z.2.2⟩,ob,es,ep,k _ _ (.inl rfl) e,c⟩
 |set S n=>obtain⟨ob,es,ep,t,e,c⟩:=x;exact⟨ob,es,ep,t,k _ _ (.inl rfl) e,c⟩
 |ins C dx fs=>
  obtain⟨d,z,ne,e,mA,⟨j,es,ep,s,c⟩,r⟩:=x;exact⟨ho _ d,z,ne,k _ _ (.inl rfl) e,mA,⟨j,es,ep,k _ _ (.inr d) s,c⟩,r⟩
 |own y=>obtain⟨ob,e⟩:=x;exact⟨ob,k _ _ (.inl rfl) e⟩
 |xd fs=>obtain⟨mA,⟨j,es,ep,e,c⟩,r⟩:=x;exact⟨mA,⟨j,es,ep,k _ _ (.inl rfl) e,c⟩,r⟩
 |rng lo hi=>obtain⟨t,u,v,e⟩:=x;exact⟨t,u,v,k _ _ (.inl rfl) e⟩
 |frz ob u ih=>obtain⟨e,q⟩:=x;exact⟨k _ _ (.inl rfl) e,ih q⟩
 |tbl ps=>
  have e:h.get? a=some {cls:=.none,data:=.fields ps}:=x;show h'.get? a=some {cls:=.none,data:=.fields ps};exact k a _ (.inl rfl) e
 |met f y=>
  have e:h.get? a=some (W.methodObj (.ref f) (.ref y)):=x;show h'.get? a=some (W.methodObj (.ref f) (.ref y));exact k a _ (.inl rfl) e
 |ext φ=>obtain⟨p,⟨o,e⟩,st⟩:=x;exact⟨st _ _ p fun o q=>k _ _ (.inl rfl) q,⟨o,k _ _ (.inl rfl) e⟩,st⟩
theorem Tt.lt(x:Tt P w H h)(e:H a=some o):a < h.objs.size:=(x a o e).lt
theorem Tt.fresh(x:Tt P w H h)(e:h.objs.size <=a):H a=none:=by
 cases q:H a with
 |none=>rfl
 |some u=>exact absurd (YG (x.lt q) e) (Xs _)
theorem Tt.kept(x:Tt P w H h)(k:∀b u,h.get? b=some u->h'.get? b=some u):Tt P w H h':=fun a o e=>
 (x a o e).stay (fun b u _ q=>k b u q) (fun _ q=>q) fun _ _ q=>q
theorem Tt.laid(x:Tt P w H h)(k:∀b u,h.get? b=some u->h'.get? b=some u)(hp:h.objs.size <=a)(new:WR P w (upd H a o) h' a o):Tt P w (upd H a o) h':=fun b u e=>by
 have d:=x.fresh hp
 by_cases hb:b=a
 .subst hb;rw[Jp]at e;cases e;exact new
 .rw[WT hb]at e;exact(x b u e).stay (fun c v _ q=>k c v q) (fun c q=>by rw[WT (N0 q d)];exact q) fun c xs q=>by rw[WT (N0 q d)];exact q
end
def Rd(H:Hp)(a:Wk)(u:HO):Prop:=H a=some u\/∃o,H a=some (.frz o u)
theorem Rd.ok{P:Wc}{w:Wh}{H:Hp}{h:Wn}{a:Wk}{u:HO}(r:Rd H a u)(x:Tt P w H h):WR P w H h a u:=by
 rcases r with r|⟨o,r⟩
 .exact x a u r
 .obtain⟨_,q⟩:=x a _ r;exact q
def A9:Option HO->Prop
 |some (.lst _)=>True
 |some (.dK _)=>True
 |some (.dT _)=>True
 |some (.set _ _)=>True
 |some (.ins _ _ _)=>True
 |some (.ext _)=>True
 |_=>False
section
variable{P:Wc}{w:Wh}{H:Hp}{h h':Wn}{x e:Wk}{o':HO}
theorem Tt.write(ok:Tt P w H h)(mu:A9 (H x))(he:e=x\/H e=some (.own x))(k:∀b u,b≠e->h.get? b=some u->h'.get? b=some u)(heo:∃u,h'.get? e=some u)
  (new:WR P w (upd H x o') h' x o'):Tt P w (upd H x o') h':=fun b u q=>by
 have a:∀c y,H c=some (.own y)->c≠x:=fun c y r z=>by subst z;rw[r]at mu;exact mu
 have f:∀c xs,H c=some (.tup xs)->c≠x:=fun c xs r z=>by subst z;rw[r]at mu;exact mu
 by_cases hb:b=x
 .subst hb;rw[Jp]at q;cases q;exact new
 .rw[WT hb]at q
  by_cases hbe:b=e
  .have i:H b=some (.own x):=by
    rcases he with z|z
    .exact absurd (hbe.trans z) hb
    .rw[hbe];exact z
   rw[q]at i;cases i;obtain⟨v,j⟩:=heo;exact⟨v,by rw[hbe];exact j⟩
  .refine(ok b u q).stay (fun c v d r=>k c v ?_ r) (fun c r=>by rw[WT (a c b r)];exact r) fun c xs r=>by rw[WT (f c xs r)];exact r
   rcases d with rfl|d
   .exact hbe
   .rintro rfl;rcases he with z|z
    .exact a c b d z
    .rw[d]at z;cases z;exact hb rfl
end
structure Un(fs ex:List Addr)(H H':Hp)(h h':Wn):Prop where
 keep:∀b o,h.get? b=some o->H b=none->b∉fs->b∉ex->h'.get? b=some o
 slot:∀b o,h.get? b=some o->H b=none->b∈fs->b∉ex->∃sl,h'.get? b=some {o with slots:=sl}
 free:∀b o,h.get? b=some o->H b=none->b∉ex->H' b=none
 there:∀b o,h.get? b=some o->b∉ex->∃o',h'.get? b=some o'
 tups:∀b xs,H b=some (.tup xs)->H' b=some (.tup xs)
 frzs:∀b o u,H b=some (.frz o u)->H' b=some (.frz o u)
 tbls:∀b ps,H b=some (.tbl ps)->∃more,H' b=some (.tbl (ps++more))
section
variable{fs fs' ex ex':List Addr}{H H1 H2:Hp}{h h1 h2 h':Wn}{a x e:Wk}{o:HO}
theorem Un.any(u:Un fs ex H H1 h h1){b:Wk}{ob:Obj}(q:h.get? b=some ob)(n:H b=none)(hx:b∉ex):∃sl,h1.get? b=some {ob with slots:=sl}:=by
 by_cases hb:b∈fs
 .exact u.slot b ob q n hb hx
 .exact⟨ob.slots,u.keep b ob q n hb hx⟩
theorem Un.kept(k:∀b u,h.get? b=some u->h'.get? b=some u):Un fs ex H H h h':=
 ⟨fun b a q _ _ _=>k b a q,fun b a q _ _ _=>⟨a.slots,k b a q⟩,fun _ _ _ n _=>n,fun b a q _=>⟨a,k b a q⟩,fun _ _ q=>q,fun _ _ _ q=>q,fun _ ps q=>⟨#[],by rw[q];simp⟩⟩
theorem Un.refl:Un fs ex H H h h:=Un.kept fun _ _ q=>q
theorem Un.laid(k:∀b u,h.get? b=some u->h'.get? b=some u)(hp:h.objs.size <=a)(hn:H a=none):Un fs ex H (upd H a o) h h' where
 keep:=fun b u q _ _ _=>k b u q
 slot:=fun b u q _ _ _=>⟨u.slots,k b u q⟩
 free:=fun b u q n _=>by rw[WT (Yj (YG (Ye q) hp))];exact n
 there:=fun b u q _=>⟨u,k b u q⟩
 tups:=fun b xs q=>by rw[WT (N0 q hn)];exact q
 frzs:=fun b u xs q=>by rw[WT (N0 q hn)];exact q
 tbls:=fun b ps q=>⟨#[],by rw[WT (N0 q hn),q];simp⟩
theorem Un.write(mu:A9 (H x))(he:e=x\/H e=some (.own x))(k:∀b u,b≠e->h.get? b=some u->h'.get? b=some u)(heo:∃u,h'.get? e=some u):Un fs ex H (upd H x o) h h':=by
 have c:∀b,H b=none->b≠x:=fun b n z=>by subst z;rw[n]at mu;exact mu
 have d:∀b,H b=none->b≠e:=fun b n z=>by
  subst z;rcases he with r|r
  .exact c b n r
  .rw[n]at r;cases r
 have a:∀b u,H b=some u->¬A9 (some u)->b≠x:=fun b u q nm z=>by subst z;rw[q]at mu;exact nm mu
 refine ⟨fun b u q n _ _ => k b u (d b n) q, fun b u q n _ _ => ⟨u.slots, k b u (d b n) q⟩, fun b u q n _ => by rw [WT (c b n)]; exact n, fun b u q _ => ?_,
  fun b xs q => by rw [WT (a b _ q fun z => z)]; exact q, fun b u xs q => by rw [WT (a b _ q fun z => z)]; exact q, fun b ps q => ⟨#[], by rw [WT (a b _ q fun z => z), q]; simp⟩⟩
 by_cases hbe:b=e
 .subst hbe;exact heo
 .exact⟨u,k b u hbe q⟩
end
def F6(h:Wn)(H:Hp):List Addr:=(List.range h.objs.size).filter fun a=>(H a).isSome
def Rj(h:Wn)(H:Hp):Heap:=W.hideAll h (F6 h H)
theorem dL(h:Wn)(H:Hp):(Rj h H).objs.size=h.objs.size:=W.hideAll_size _ _
theorem jH{h:Wn}{H:Hp}{b:Wk}{o:Obj}(e:h.get? b=some o)(n:H b=none):(Rj h H).get? b=some o:=
 W.hideAll_get _ e fun a=>by
  have q:(H b).isSome=true:=(Ym.mp a).2;rw[n]at q;simp at q
theorem rJ{h:Wn}{H:Hp}{b:Wk}{o:Obj}(e:(Rj h H).get? b=some o):h.get? b=some o/\H b=none:=by
 have a:h.get? b=some o:=W.of_hideAll (F6 h H) e;refine⟨a,?_⟩;cases q:H b with
 |none=>rfl
 |some x=>
  have c:b∈F6 h H:=Ym.mpr ⟨VO.mpr (Ye a),by simp[q]⟩;have z:(Rj h H).get? b=none:=W.hideAll_none (F6 h H) c;rw[z]at e;cases e
def uZ(g h:Wn)(L:Wk):List (Addr×Obj):=(List.range h.objs.size).filterMap fun a=>if a=L\/(g.get? a).isSome=true then none else(h.get? a).map fun o=>(a,o)
def rest(g h:Wn)(L d:Wk):List (Addr×Obj):=(uZ g h L).filter fun p=>decide (p.1≠d)
structure Mod(K:Wi)(mg:W8)(base:Wn):Prop where
 kin:K.In base
 glob:base.Ns mainGlobals mg
 blt:∃mb,base.Ns builtinsNs mb/\∀x:Str,x≠"__name__"->mb x=bootBuiltins x
 nolimit:base.NoLimit
structure Cx where
 prog:Program
 w:World
 K:W.Frag
 mg:Str->Option Value
 base:Heap
 A:Around
 N:List Str
 s₀:Shared
 H₀:Hp
 env:Env
 outer:List Env
 stack:List Env
 ex:List Addr
 fn:Str->Bool
 calm:Bool
 pn:List (Addr×Obj)
 xe:Value->Shared->Prop
def Gq(l:List Env):List Addr:=l.filterMap (·.frame)
abbrev Cx.fs(X:Cx):List Addr:=Gq X.outer
def Ac(sc:Scope)(x:Str):Prop:=sc.names.lookup x=some .local\/sc.names.lookup x=some .cell\/sc.names.lookup x=some .free
def El(sc:Scope)(x:Str):Prop:=sc.names.lookup x=some .local\/sc.names.lookup x=some .cell
def Ia(env:Env)(h:Wn)(m:W8)(x:Str)(u:Wj):Prop:=
 (env.kindOf x=some .local/\m x=some u)\/((env.kindOf x=some .cell\/env.kindOf x=some .free)/\∃c,env.cells.lookup x=some c/\h.IsCell c (some u))
structure Cx.Ok(X:Cx):Prop where
 mod:Mod X.K X.mg X.base
 kind:X.env.scope.kind= .function
 glob:X.env.globals=mainGlobals
 blt:X.env.builtins=builtinsNs
 above:X.s₀.heap.objs.size <=X.env.locals
 inj:∀x y c,X.env.cells.lookup x=some c->X.env.cells.lookup y=some c->x=y
 has:∀x,(X.env.kindOf x=some .cell\/X.env.kindOf x=some .free)->∃c,X.env.cells.lookup x=some c
 cab:∀x c,X.fn x=true->X.env.cells.lookup x=some c->X.s₀.heap.objs.size <=c
 hd:X.calm=true->X.A.handled=none
 frames:X.A.frames=some X.stack
 stk:X.stack=X.outer\/(X.stack=X.env::X.outer/\X.env.frame=some X.env.locals)
 exf:∀b∈X.ex,b≠X.env.locals/\∀x c,X.env.cells.lookup x=some c->c≠b
 bs:∀b o,X.base.get? b=some o->X.s₀.heap.get? b=some o/\X.H₀ b=none
 bsz:X.base.objs.size <=X.s₀.heap.objs.size
 noex:∀b o,X.base.get? b=some o->b∉X.ex
 exfs:∀b∈X.ex,b∉X.fs
 funs:X.s₀.heap.FunFrames X.base X.outer
 frf:∀b∈X.fs,X.H₀ b=none
structure Wv(X:Cx)(pins:Wb)(σ:List (Option V))(H:Hp)(s:We):Prop where
 ok:X.Ok
 os:s.os=X.s₀.os
 bare:AllBare s.gens
 base:Un X.fs X.ex X.H₀ H X.s₀.heap s.heap
 loc:∃m,s.heap.Ns X.env.locals m/\∀ (i:Nat) (x:Str) (v:V),X.N[i]?=some x->σ[i]?=some (some v)->Ac X.env.scope x->∃u,WJ v u/\Ia X.env s.heap m x u
 cell:∀x c,X.env.cells.lookup x=some c->∃v,s.heap.IsCell c v
 free:H X.env.locals=none
 freeC:∀x c,X.env.cells.lookup x=some c->H c=none
 pin:∀p∈X.pn++pins,s.heap.get? p.1=some p.2/\H p.1=none/\p.1≠X.env.locals/\p.1∉X.fs/\∀v,p.2.data≠ .cell v
 hok:Tt X.prog X.w H s.heap
 len:σ.length=X.N.length
section
variable{X:Cx}{pins:Wb}{σ:List (Option V)}{H H':Hp}{s:We}{h':Wn}
theorem Cx.Ok.nofr(ok:X.Ok){b:Wk}{o:Obj}(e:X.base.get? b=some o):b∉X.fs:=fun a=>by
 have:=(ok.funs.mem a).1;rw[e]at this;cases this
theorem Wv.bs(I:Wv X pins σ H s):∀b o,X.base.get? b=some o->s.heap.get? b=some o/\H b=none:=fun b o e=>
 ⟨I.base.keep b o (I.ok.bs b o e).1 (I.ok.bs b o e).2 (I.ok.nofr e) (I.ok.noex b o e),I.base.free b o (I.ok.bs b o e).1 (I.ok.bs b o e).2 (I.ok.noex b o e)⟩
theorem Wv.bk(I:Wv X pins σ H s):∀b o,X.base.get? b=some o->s.heap.get? b=some o:=fun b o e=>(I.bs b o e).1
theorem Wv.mod(I:Wv X pins σ H s):Mod X.K X.mg X.base:=I.ok.mod
theorem Wv.kIn(I:Wv X pins σ H s):X.K.In s.heap:=I.ok.mod.kin.keeps I.bk
theorem Wv.lt(I:Wv X pins σ H s):X.env.locals < s.heap.objs.size:=let ⟨_,hn,_⟩:=I.loc;hn.lt
theorem Wv.sz(I:Wv X pins σ H s):X.s₀.heap.objs.size <=s.heap.objs.size:=YD I.ok.above (XE I.lt)
theorem Wv.nofs(I:Wv X pins σ H s){a:Wk}(h:s.heap.objs.size <=a):a∉X.fs:=fun c=>by
 obtain⟨_,o,b,_⟩:=I.ok.funs.mem c;exact absurd (YG (Ye b) (YD I.sz h)) (Xs _)
theorem Wv.cne(I:Wv X pins σ H s):∀x c,X.env.cells.lookup x=some c->c≠X.env.locals:=fun x c e z=>by
 obtain⟨v,o,b,f⟩:=I.cell x c e;obtain⟨m,⟨o',es,ep,a,d,_⟩,_⟩:=I.loc;rw[z,a]at b;cases b;rw[d]at f;cases f
theorem Wv.funs(I:Wv X pins σ H s):s.heap.FunFrames X.base X.outer:=by
 have all:∀ (l:List Env),(∀b∈Gq l,b∈X.fs)->X.s₀.heap.FunFrames X.base l->s.heap.FunFrames X.base l:=by
  intro l
  induction l with
  |nil=>intro _ _;trivial
  |cons env r ih=>
   intro f n;obtain⟨p,⟨L,o,a,j,i,q⟩,h⟩:=n;have d:L∈X.fs:=f L (by unfold Gq;rw[Vg,a];exact YC);obtain⟨u,e⟩:=I.base.slot L o i (I.ok.frf L d) d fun z=>I.ok.exfs L z d
   exact⟨p,⟨L,_,a,j,e,q⟩,ih (fun b c=>f b (by unfold Gq;rw[Vg,a];exact Yk _ c)) h⟩
 exact all X.outer (fun _ c=>c) I.ok.funs
theorem Wv.stack(I:Wv X pins σ H s):s.heap.FunFrames X.base X.stack:=by
 rcases I.ok.stk with e|⟨e,hf⟩
 .rw[e];exact I.funs
 .rw[e];obtain⟨m,a,_⟩:=I.loc;refine .cons (by rw[I.ok.kind];decide) hf a ?_ I.funs;exact Heap.get?_none_of_le (YD I.ok.bsz I.ok.above)
theorem Wv.stkSub(I:Wv X pins σ H s):∀b∈Gq X.stack,b∈X.env.locals::X.fs:=fun b a=>by
 rcases I.ok.stk with e|⟨e,hf⟩
 .rw[e]at a;exact Yk _ a
 .rw[e]at a;unfold Gq at a;rw[Vg,hf]at a;exact a
theorem Wv.stkFree(I:Wv X pins σ H s):∀b∈Gq X.stack,H b=none:=fun b a=>by
 rcases Yl.mp (I.stkSub b a) with e|a
 .rw[e];exact I.free
 .obtain⟨_,o,c,_⟩:=I.ok.funs.mem a;exact I.base.free b o c (I.ok.frf b a) fun z=>I.ok.exfs b z a
theorem Wv.step{g':Array GenState}{t':Nat}{d':Drawn}{ch:List Addr}(I:Wv X pins σ H s)
  (hch:∀b∈ch,(b∈X.ex\/X.s₀.heap.objs.size <=b)/\b≠X.env.locals/\(∀x c,X.env.cells.lookup x=some c->c≠b)/\∀p∈X.pn++pins,p.1≠b)
  (keep:∀b o,b≠X.env.locals->b∉X.fs->b∉ch->s.heap.get? b=some o->H b=none->h'.get? b=some o)
  (slot:∀b o,b≠X.env.locals->b∈X.fs->b∉ch->s.heap.get? b=some o->H b=none->∃sl,h'.get? b=some {o with slots:=sl}) (free:∀b o,b∉ch->s.heap.get? b=some o->H b=none->H' b=none)
  (there:∀b o,b∉ch->s.heap.get? b=some o->∃o',h'.get? b=some o')
  (tups:∀b xs,H b=some (.tup xs)->H' b=some (.tup xs)) (frzs:∀b o u,H b=some (.frz o u)->H' b=some (.frz o u)) (tbls:∀b ps,H b=some (.tbl ps)->∃more,H' b=some (.tbl (ps++more)))
  (ns:∀m,s.heap.Ns X.env.locals m->h'.Ns X.env.locals m) (hok:Tt X.prog X.w H' h') (hg:AllBare g'):
  Wv X pins σ H' {s with heap:=h',gens:=g',drawn:=d',toks:=t'}:=by
 have neL:∀b o,X.s₀.heap.get? b=some o->b≠X.env.locals:=fun b o e=>Yj (YG (Ye e) I.ok.above)
 have y:∀b o,X.s₀.heap.get? b=some o->b∉X.ex->b∉ch:=fun b o e a j=>by
  rcases(hch b j).1 with z|z
  .exact a z
  .exact absurd (YG (Ye e) z) (Xs _)
 have aa:∀x c,X.env.cells.lookup x=some c->∀v,s.heap.IsCell c v->h'.IsCell c v:=fun x c e v ⟨o,ho,hd⟩=>by
  have h:c∉ch:=fun z=>(hch c z).2.2.1 x c e rfl
  by_cases hc:c∈X.fs
  .obtain⟨sl,q⟩:=slot c o (I.cne x c e) hc h ho (I.freeC x c e);exact⟨_,q,hd⟩
  .exact⟨o,keep c o (I.cne x c e) hc h ho (I.freeC x c e),hd⟩
 refine⟨I.ok,I.os,hg,⟨fun b o e n j a=>?_,fun b o e n j a=>?_,fun b o e n a=>?_,fun b o e a=>?_,fun b xs e=>tups b xs (I.base.tups b xs e),fun b o xs e=>frzs b o xs (I.base.frzs b o xs e),fun b ps e=>?_⟩,?_,fun x c e=>?_,?_,fun x c e=>?_,fun p hp=>?_,hok,I.len⟩
 .exact keep b o (neL b o e) j (y b o e a) (I.base.keep b o e n j a) (I.base.free b o e n a)
 .obtain⟨sl,f⟩:=I.base.slot b o e n j a;obtain⟨sl',e2⟩:=slot b _ (neL b o e) j (y b o e a) f (I.base.free b o e n a);exact⟨sl',e2⟩
 .obtain⟨o',f⟩:=I.base.there b o e a;exact free b o' (y b o e a) f (I.base.free b o e n a)
 .obtain⟨o',f⟩:=I.base.there b o e a;exact there b o' (y b o e a) f
 .obtain⟨m1,f⟩:=I.base.tbls b ps e;obtain⟨m2,e2⟩:=tbls b _ f;exact⟨m1++m2,by rw[e2,Array.append_assoc]⟩
 .obtain⟨m,hn,hl⟩:=I.loc;refine⟨m,ns m hn,fun i x v f e2 e3=>?_⟩;obtain⟨u,r,l⟩:=hl i x v f e2 e3;refine⟨u,r,?_⟩;rcases l with l|⟨k,c,e,z⟩
  .exact .inl l
  .exact .inr ⟨k,c,e,aa x c e _ z⟩
 .obtain⟨v,z⟩:=I.cell x c e;exact⟨v,aa x c e v z⟩
 .obtain⟨m,⟨o,_,_,ho,_⟩,_⟩:=I.loc;exact free _ o (fun z=>(hch _ z).2.1 rfl) ho I.free
 .obtain⟨v,o,ho,hd⟩:=I.cell x c e;exact free c o (fun z=>(hch c z).2.2.1 x c e rfl) ho (I.freeC x c e)
 .obtain⟨e,n,ne,nf,d⟩:=I.pin p hp;have h:p.1∉ch:=fun z=>(hch p.1 z).2.2.2 p hp rfl
  exact⟨keep p.1 p.2 ne nf h e n,free p.1 p.2 h e n,ne,nf,d⟩
theorem Wv.un{t':Nat}(I:Wv X pins σ H s)(u:Un X.fs [] H H' s.heap h')(hok:Tt X.prog X.w H' h'):Wv X pins σ H' {s with heap:=h',toks:=t'}:=by
 obtain ⟨m, ⟨o, es, ep, d, r⟩, _⟩ := id I.loc;obtain ⟨q, p⟩ := u.any d I.free (by simp);exact I.step (g' := s.gens) (d' := s.drawn) (ch := []) (fun _ z => nomatch z) (fun b o _ c _ e n => u.keep b o e n c (by simp)) (fun b o _ c _ e n => u.slot b o e n c (by simp)) (fun b o _ e n => u.free b o e n (by simp)) (fun b o _ e => u.there b o e (by simp)) u.tups u.frzs u.tbls (fun v j => by
  obtain ⟨o', f, h, a, i⟩ := j;rw [d] at a; cases a;exact ⟨_, f, h, p, i⟩) hok I.bare
theorem Wv.call{g':Array GenState}{t':Nat}{d':Drawn}{ch:List Addr}(I:Wv X pins σ H s)(u:Un (Gq X.stack) ch H H' s.heap h')(hok:Tt X.prog X.w H' h')(hg:AllBare g')
  (hch:∀b∈ch,(b∈X.ex\/X.s₀.heap.objs.size <=b)/\b≠X.env.locals/\(∀x c,X.env.cells.lookup x=some c->c≠b)/\∀p∈X.pn++pins,p.1≠b):
  Wv X pins σ H' {s with heap:=h',gens:=g',drawn:=d',toks:=t'}:=by
 obtain⟨m,⟨o,es,ep,h,r⟩,_⟩:=id I.loc;obtain⟨sl,f⟩:=u.any h I.free fun z=>(hch _ z).2.1 rfl
 exact I.step (ch := ch) hch (fun b o f y a e n => u.keep b o e n (fun z => (Yl.mp (I.stkSub b z)).elim f y) a) (fun b o _ _ a e n => u.any e n a) (fun b o a e n => u.free b o e n a) (fun b o a e => u.there b o e a) u.tups u.frzs u.tbls (fun m' v => by
  obtain ⟨o', i, j, d, q⟩ := v;rw [h] at d; cases d;exact ⟨_, i, j, f, q⟩) hok hg
theorem Wv.turned{t':Nat}{it:Wk}(I:Wv X pins σ H s)(k:∀b o,b≠it->s.heap.get? b=some o->h'.get? b=some o)(hn:H it=none)(hL:it≠X.env.locals)
  (h1:it∈X.ex\/X.s₀.heap.objs.size <=it) (h2:∀x c,X.env.cells.lookup x=some c->c≠it) (h3:∀p∈X.pn++pins,p.1≠it):Wv X pins σ H {s with heap:=h',toks:=t'}:=by
 have d:∀b u,H b=some u->b≠it:=fun b u e z=>by rw[z,hn]at e;cases e
 refine I.step (g':=s.gens) (d':=s.drawn) (ch:=[it]) (fun b i=>?_) (fun b o _ _ a e _=>k b o (fun z=>a (by simp[z])) e) (fun b o _ _ a e _=>⟨o.slots,k b o (fun z=>a (by simp[z])) e⟩) (fun _ _ _ _ n=>n)
  (fun b o a e=>⟨o,k b o (fun z=>a (by simp[z])) e⟩) (fun _ _ e=>e) (fun _ _ _ e=>e) (fun b ps e=>⟨#[],by rw[e];simp⟩) (fun m h=>?_) (fun b u e=>?_) I.bare
 .have e:b=it:=by simpa using i
  subst e;exact⟨h1,hL,h2,h3⟩
 .obtain⟨o,es,ep,f,r⟩:=h;exact⟨o,es,ep,k _ o (Ne.symm hL) f,r⟩
 .refine(I.hok b u e).stay (fun c v a q=>k c v ?_ q) (fun _ q=>q) fun _ _ q=>q
  rcases a with z|z
  .rw[z];exact d b u e
  .exact d c _ z
theorem Wv.tok(I:Wv X pins σ H s)(t:Nat):Wv X pins σ H {s with toks:=t}:=I.un (h':=s.heap) (t':=t) Un.refl I.hok
theorem Wv.kept{t':Nat}(I:Wv X pins σ H s)(k:∀b u,s.heap.get? b=some u->h'.get? b=some u):Wv X pins σ H {s with heap:=h',toks:=t'}:=I.un (Un.kept k) (I.hok.kept k)
theorem Wv.laid{a:Wk}{o:HO}{t':Nat}(I:Wv X pins σ H s)(k:∀b u,s.heap.get? b=some u->h'.get? b=some u)(hp:s.heap.objs.size <=a)(new:WR X.prog X.w (upd H a o) h' a o):
  Wv X pins σ (upd H a o) {s with heap:=h',toks:=t'}:=I.un (Un.laid k hp (I.hok.fresh hp)) (I.hok.laid k hp new)
theorem Wv.write{x e:Wk}{o:HO}{t':Nat}(I:Wv X pins σ H s)(mu:A9 (H x))(he:e=x\/H e=some (.own x))(k:∀b u,b≠e->s.heap.get? b=some u->h'.get? b=some u)(heo:∃u,h'.get? e=some u)
  (new:WR X.prog X.w (upd H x o) h' x o):Wv X pins σ (upd H x o) {s with heap:=h',toks:=t'}:=I.un (Un.write mu he k heo) (I.hok.write mu he k heo new)
theorem Wv.pins_of{pins':Wb}(I:Wv X pins σ H s)(h:∀p∈pins',s.heap.get? p.1=some p.2/\H p.1=none/\p.1≠X.env.locals/\p.1∉X.fs/\∀v,p.2.data≠ .cell v):Wv X pins' σ H s:=
 ⟨I.ok,I.os,I.bare,I.base,I.loc,I.cell,I.free,I.freeC,fun p a=>(YB.mp a).elim (fun z=>I.pin p (XW _ z)) (h p),I.hok,I.len⟩
theorem SU{N:List Str}(hN:N.Nodup){i j:Nat}{x:Str}(a:N[i]?=some x)(b:N[j]?=some x):i=j:=by
 obtain⟨h1,d⟩:=Yq.mp a;obtain⟨h2,c⟩:=Yq.mp b;exact(List.getElem_inj hN).mp (d.trans c.symm)
theorem xW{M:Model}{A:Wg}{E:W9}{i:Nat}{x:Str}{v:V}{u:Wj}{Q:Wa}(I:Wv X pins σ H s)(hN:X.N.Nodup)(hi:X.N[i]?=some x)(hx:El X.env.scope x)(r:WJ v u)
  (h:∀s',Wv X pins (σ.set i (some v)) H s'->(∃a,Heap.SameBut a s.heap s'.heap/\(a=X.env.locals\/X.env.cells.lookup x=some a))->Q () s') (hf:X.fn x=true\/X.env.scope.names.lookup x=some .local:=by first|exact .inl rfl|exact .inr rfl|assumption):wpAny M A (storeName X.env x u) Q E s:=by
 obtain⟨m,hn,hl⟩:=id I.loc;have hcls:(X.env.scope.kind== .class||(X.env.scope.kind== .module && X.env.locals !=X.env.globals))=false:=by rw[I.ok.kind];rfl
 have hiσ:i < σ.length:=by rw[I.len];exact(Yq.mp hi).1
 have cne:=I.cne;have tracked:∀{a:Wk} {h':Wn},(∃o,s.heap.get? a=some o/\H a=none)->Heap.SameBut a s.heap h'->Tt X.prog X.w H h':=fun {a h'} ha f b ob e=>by
  obtain⟨_,_,hfree⟩:=ha;refine(I.hok b ob e).stay (fun c w' hc q=>(f.2 c ?_).trans q) (fun _ q=>q) fun _ _ q=>q
  rintro rfl;rcases hc with rfl|hc
  .rw[hfree]at e;cases e
  .rw[hfree]at hc;cases hc
 rcases hx with hk|hk
 .refine wpAny_storeName_local hk hn (fun h' hn' f=>?_) hcls;obtain⟨oL,_,_,hoL,_⟩:=id hn;refine h _ ⟨I.ok,I.os,I.bare,⟨fun b o e n hb hx=>?_,fun b o e n hb hx=>?_,I.base.free,fun b o e hx=>?_,I.base.tups,I.base.frzs,I.base.tbls⟩,⟨_,hn',fun j y v' e1 e2 e3=>?_⟩,fun y c e=>?_,I.free,I.freeC,fun p hp=>?_,tracked ⟨oL,hoL,I.free⟩ f,by simpa using I.len⟩ ⟨_,f,.inl rfl⟩
  .exact(f.2 b (Yj (YG (Ye e) I.ok.above))).trans (I.base.keep b o e n hb hx)
  .obtain⟨sl,e1⟩:=I.base.slot b o e n hb hx;exact⟨sl,(f.2 b (Yj (YG (Ye e) I.ok.above))).trans e1⟩
  .obtain⟨o',e1⟩:=I.base.there b o e hx;exact⟨o',(f.2 b (Yj (YG (Ye e) I.ok.above))).trans e1⟩
  .by_cases hj:j=i
   .subst hj;rw[hi]at e1;cases e1;rw[VF hiσ]at e2;cases e2;exact⟨u,r,.inl ⟨hk,by simp⟩⟩
   .rw[VW (Ne.symm hj)]at e2;obtain⟨u',r',q⟩:=hl j y v' e1 e2 e3;refine⟨u',r',?_⟩;rcases q with⟨k,e⟩|⟨k,c,e,z⟩
    .refine .inl ⟨k,?_⟩;have:y≠x:=fun e=>hj (SU hN e1 (e▸hi))
     simp[this,e]
    .exact .inr ⟨k,c,e,z.sameBut f (cne y c e)⟩
  .obtain⟨w',z⟩:=I.cell y c e;exact⟨w',z.sameBut f (cne y c e)⟩
  .obtain⟨e,n,ne,nf,d⟩:=I.pin p hp;exact⟨(f.2 p.1 ne).trans e,n,ne,nf,d⟩
 .have hfn:X.fn x=true:=by
   rcases hf with z|z
   .exact z
   .rw[z]at hk;cases hk
  obtain⟨c,hc⟩:=I.ok.has x (.inl hk);obtain⟨w',z⟩:=I.cell x c hc;refine wpAny_storeName_cell I.ok.kind hk hc z (fun h' hc' f=>?_);obtain⟨oc,hoc,hocd⟩:=id z;refine h {s with heap:=h'} ⟨I.ok,I.os,I.bare,⟨fun b o e n hb hx=>?_,fun b o e n hb hx=>?_,I.base.free,fun b o e hx=>?_,I.base.tups,I.base.frzs,I.base.tbls⟩,⟨m,hn.sameBut f (Ne.symm (cne x c hc)),fun j y v' e1 e2 e3=>?_⟩,fun y c' e=>?_,I.free,I.freeC,fun p hp=>?_,tracked ⟨oc,hoc,I.freeC x c hc⟩ f,by simpa using I.len⟩ ⟨c,f,.inr hc⟩
  .exact(f.2 b (Yj (YG (Ye e) (I.ok.cab x c hfn hc)))).trans (I.base.keep b o e n hb hx)
  .obtain⟨sl,e1⟩:=I.base.slot b o e n hb hx;exact⟨sl,(f.2 b (Yj (YG (Ye e) (I.ok.cab x c hfn hc)))).trans e1⟩
  .obtain⟨o',e1⟩:=I.base.there b o e hx;exact⟨o',(f.2 b (Yj (YG (Ye e) (I.ok.cab x c hfn hc)))).trans e1⟩
  .by_cases hj:j=i
   .subst hj;rw[hi]at e1;cases e1;rw[VF hiσ]at e2;cases e2;exact⟨u,r,.inr ⟨.inl hk,c,hc,hc'⟩⟩
   .rw[VW (Ne.symm hj)]at e2;obtain⟨u',r',q⟩:=hl j y v' e1 e2 e3;refine⟨u',r',?_⟩;rcases q with q|⟨k,c',e,z'⟩
    .exact .inl q
    .refine .inr ⟨k,c',e,z'.sameBut f ?_⟩;rintro rfl;exact hj (SU hN e1 (I.ok.inj _ _ _ e hc▸hi))
  .by_cases hcc:c'=c
   .subst hcc;exact⟨_,hc'⟩
   .obtain⟨w2,z2⟩:=I.cell y c' e;exact⟨w2,z2.sameBut f hcc⟩
  .obtain⟨e,n,ne,nf,d⟩:=I.pin p hp;refine⟨(f.2 p.1 ?_).trans e,n,ne,nf,d⟩;intro q;rw[q,hoc]at e;have q':oc=p.2:=Option.some.inj e;exact d w' (by rw[<-q'];exact hocd)
theorem Hy{M:Model}{A:Wg}{E:W9}{i:Nat}{x:Str}{v:V}{u:Wj}{Q:Wa}(I:Wv X pins σ H s)(hN:X.N.Nodup)(hi:X.N[i]?=some x)(hx:El X.env.scope x)(r:WJ v u)
  (h:∀s',Wv X pins (σ.set i (some v)) H s'->Q () s') (hf:X.fn x=true\/X.env.scope.names.lookup x=some .local:=by first|exact .inl rfl|exact .inr rfl|assumption):wpAny M A (storeName X.env x u) Q E s:=
 xW I hN hi hx r (fun s' a _=>h s' a) hf
theorem Wv.call'{s':We}{ch:List Addr}(I:Wv X pins σ H s)(ho:s'.os=s.os)(u:Un (Gq X.stack) ch H H' s.heap s'.heap)(hok:Tt X.prog X.w H' s'.heap)(hg:AllBare s'.gens)
  (hch:∀b∈ch,(b∈X.ex\/X.s₀.heap.objs.size <=b)/\b≠X.env.locals/\(∀x c,X.env.cells.lookup x=some c->c≠b)/\∀p∈X.pn++pins,p.1≠b):Wv X pins σ H' s':=by
 obtain⟨h',g',d',t',o'⟩:=s';have e:o'=s.os:=ho;subst e;exact I.call (g':=g') (t':=t') (d':=d') u hok hg hch
end
abbrev XK:=Value->Option Addr->Hp->Prop
abbrev St:=List (Option V)
abbrev VK:=V->Hp->Prop
abbrev TE:=St->Hp->VK->Prop
abbrev TT:=St->Hp->(Bool->Hp->Prop)->Prop
abbrev TA:=St->Hp->(List V->Hp->Prop)->Prop
structure Tl where
 nx:St->Hp->Prop
 rt:VK
 bk:St->Hp->Prop:=fun _ _=>False
 ct:St->Hp->Prop:=fun _ _=>False
abbrev TS:=Tl->St->Hp->Prop
def EP(X:Cx)(pins:Wb)(σ:St)(Q:VK)(u:Wj)(s':We):Prop:=∃v H',Wv X pins σ H' s'/\WJ v u/\Q v H'
def TP(X:Cx)(pins:Wb)(σ:St)(Q:Bool->Hp->Prop)(b:Bool)(s':We):Prop:=∃H',Wv X pins σ H' s'/\Q b H'
def AP(X:Cx)(pins:Wb)(σ:St)(Q:List V->Hp->Prop)(us:Wm)(s':We):Prop:=∃vs H',Wv X pins σ H' s'/\WD vs us/\Q vs H'
def SP(X:Cx)(pins:Wb)(D:Tl)(f:Flow)(s':We):Prop:=
 match f with
 | .next=>∃σ' H',Wv X pins σ' H' s'/\D.nx σ' H'
 | .brk=>∃σ' H',Wv X pins σ' H' s'/\D.bk σ' H'
 | .cont=>∃σ' H',Wv X pins σ' H' s'/\D.ct σ' H'
 | .ret u=>∃v σ' H',Wv X pins σ' H' s'/\WJ v u/\D.rt v H'
def PE(X:Cx)(e:Wo)(t:TE):Prop:=
 ∀ (pins:Wb) (s:We) (σ:St) (H:Hp) (Q:VK),Wv X pins σ H s->t σ H Q->wpAny (model X.prog X.w) X.A (eval e X.env) (EP X pins σ Q) X.xe s
def PT(X:Cx)(e:Wo)(t:TT):Prop:=
 ∀ (pins:Wb) (s:We) (σ:St) (H:Hp) (Q:Bool->Hp->Prop),Wv X pins σ H s->t σ H Q->wpAny (model X.prog X.w) X.A (isTrue e X.env (eval e X.env)) (TP X pins σ Q) X.xe s
def PW(X:Cx)(e:Wo)(t:TT):Prop:=
 ∀ (whole:Sem Value) (pins:Wb) (s:We) (σ:St) (H:Hp) (Q:Bool->Hp->Prop),Wv X pins σ H s->t σ H Q->wpAny (model X.prog X.w) X.A (isTrue e X.env whole) (TP X pins σ Q) X.xe s
theorem PW.pt{X:Cx}{e:Wo}{t:TT}(h:PW X e t):PT X e t:=h _
def PA(X:Cx)(es:List Expr)(t:TA):Prop:=
 ∀ (pos:Pos) (pins:Wb) (s:We) (σ:St) (H:Hp) (Q:List V->Hp->Prop),Wv X pins σ H s->t σ H Q->wpAny (model X.prog X.w) X.A (spliced (backTo pos (starEach es X.env))) (AP X pins σ Q) X.xe s
def PS(X:Cx)(st:Stmt)(t:TS):Prop:=
 ∀ (pins:Wb) (s:We) (σ:St) (H:Hp) (D:Tl),Wv X pins σ H s->t D σ H->wpAny (model X.prog X.w) X.A (exec st X.env) (SP X pins D) X.xe s
def MP(X:Cx)(st:List Stmt)(t:TS):Prop:=
 ∀ (pins:Wb) (s:We) (σ:St) (H:Hp) (D:Tl),Wv X pins σ H s->t D σ H->wpAny (model X.prog X.w) X.A (execs st X.env) (SP X pins D) X.xe s
theorem WW{α:Type}{t:Sem α}{Q Q':α->Shared->Prop}{M:Model}{A:Wg}{E:W9}{s:We}(h:wpAny M A t Q E s)(hQ:∀a s,Q a s->Q' a s):wpAny M A t Q' E s:=X9 h hQ fun _ _ x=>x
section
variable{X:Cx}
def BZ(i:Nat):TE:=fun σ H Q=>∃v,σ[i]?=some (some v)/\Q v H
def tC(v:V):TE:=fun _ H Q=>Q v H
theorem vK{i:Nat}{x:Str}{pos:Pos}(hN:X.N[i]?=some x)(hv:Ac X.env.scope x)(hd:(x==("__debug__":Str))=false:=by decide)(hcd:(x==("__classdict__":Str))=false:=by decide):PE X (.Name x pos) (BZ i):=by
 intro pins s σ H Q I h;obtain⟨v,e,h⟩:=h;obtain⟨m,b,d⟩:=I.loc;obtain⟨u,r,l⟩:=d i x v hN e hv;have a:EP X pins σ Q u s:=⟨v,H,I,r,h⟩;rcases l with⟨hk,hm⟩|⟨hk,c,hc,hcell⟩
 .exact wpAny_Name (wpAny_loadName_local I.ok.kind hk b hm a) hd
 .rcases hk with hk|hk
  .exact wpAny_Name (wpAny_loadName_cell I.ok.kind hk hc hcell a) hd
  .exact wpAny_Name (wpAny_loadName_free I.ok.kind hk hc hcell a hcd) hd
theorem WE{i j pos}:PE X (.Constant (.int i) j pos) (tC (.int i)):=fun _ _ _ H _ I h=>wpAny_Constant_int ⟨.int i,H,I.tok _,⟨_,rfl⟩,h⟩
theorem Re{b j pos}:PE X (.Constant (.bool b) j pos) (tC (.bl b)):=fun _ _ _ H _ I h=>Constant_bool ⟨.bl b,H,I,rfl,h⟩
theorem Mf{j pos}:PE X (.Constant .none j pos) (tC .non):=fun _ _ _ H _ I h=>Constant_none ⟨.non,H,I,rfl,h⟩
theorem WK{x j pos}:PE X (.Constant (.str x) j pos) (tC (.str x)):=fun _ _ _ H _ I h=>Calls.Constant_str ⟨.str x,H,I.tok _,⟨_,rfl⟩,h⟩
def Gl(X:Cx)(x:Str):Prop:=X.env.kindOf x=some .globalImplicit
theorem BC{E:W9}{pins:Wb}{s:We}{σ:St}{H:Hp}{x:Str}{u:Wj}{pos:Pos}{Q:W9}(I:Wv X pins σ H s)(hg:Gl X x)(hm:X.mg x=some u)(h:Q u s)
  (hd:(x==("__debug__":Str))=false:=by decide):wpAny (model X.prog X.w) X.A (eval (.Name x pos) X.env) Q E s:=
 Vq I.ok.kind hg (Calls.loadGlobal_global (by rw[I.ok.glob];exact I.mod.glob.keeps I.bk) hm h) hd
theorem EM{E:W9}{pins:Wb}{s:We}{σ:St}{H:Hp}{x:Str}{u:Wj}{pos:Pos}{Q:W9}(I:Wv X pins σ H s)(hg:Gl X x)(hm:X.mg x=none)(hv:bootBuiltins x=some u)(h:Q u s)
  (hn:x≠"__name__":=by decide) (hd:(x==("__debug__":Str))=false:=by decide):wpAny (model X.prog X.w) X.A (eval (.Name x pos) X.env) Q E s:=by
 obtain⟨mb,h1,h2⟩:=I.mod.blt;exact Vq I.ok.kind hg (Calls.loadGlobal_builtin (by rw[I.ok.glob];exact I.mod.glob.keeps I.bk) hm (by rw[I.ok.blt];exact h1.keeps I.bk) ((h2 x hn).trans hv) h) hd
theorem Eb{x:Str}{v:V}{u:Wj}{pos:Pos}(hg:Gl X x)(hm:X.mg x=some u)(r:WJ v u)(hd:(x==("__debug__":Str))=false:=by decide):PE X (.Name x pos) (tC v):=
 fun _ _ _ H _ I h=>BC I hg hm ⟨v,H,I,r,h⟩ hd
theorem R5{x:Str}{v:V}{u:Wj}{pos:Pos}(hg:Gl X x)(hm:X.mg x=none)(hv:bootBuiltins x=some u)(r:WJ v u)(hn:x≠"__name__":=by decide)(hd:(x==("__debug__":Str))=false:=by decide):PE X (.Name x pos) (tC v):=
 fun _ _ _ H _ I h=>EM I hg hm hv ⟨v,H,I,r,h⟩ hn hd
variable{a b:Wo}{ta tb:TE}{pos:Pos}
def tB(t:TE):TT:=fun σ H Q=>t σ H fun x H1=>∃c,x= .bl c/\Q c H1
theorem bB{e:Wo}{t:TE}(h:PE X e t)(he:∀whole,isTrue e X.env whole=(do let v <-whole;standAt e.pos;holding [v] (truthy v)):=by intro _;rfl):PT X e (tB t):=by
 intro pins s σ H Q I c;refine isTrue_plain (WW (h pins s σ H _ I c) fun v i ⟨x,H1,f,a,b⟩=>?_) (he _);obtain⟨d,rfl,q⟩:=b;cases a;exact X4 ⟨H1,f,q⟩
variable{tA tB':TT}{rest:List Expr}
def KO(t u:TT):TT:=fun σ H Q=>t σ H fun c H1=>if c=true then u σ H1 Q else Q false H1
def Kl(t u:TT):TT:=fun σ H Q=>t σ H fun c H1=>if c=true then Q true H1 else u σ H1 Q
def Ll(t:TT):TT:=fun σ H Q=>t σ H fun c H1=>Q (!c) H1
theorem DD(ha:PT X a tA):PW X (.BoolOp .And [a] pos) tA:=by
 intro b pins s σ H Q I h;refine isTrue_and (WW (ha pins s σ H Q I h) fun c d e=>?_);cases c with
 |true=>exact isTrue_and_nil e
 |false=>exact e
theorem DH(ha:PT X a tA):PW X (.BoolOp .Or [a] pos) tA:=by
 intro b pins s σ H Q I h;refine isTrue_or (WW (ha pins s σ H Q I h) fun c d e=>?_);cases c with
 |false=>exact isTrue_or_nil e
 |true=>exact e
theorem D3(ha:PT X a tA)(hb:PW X (.BoolOp .And (b::rest) pos) tB'):PW X (.BoolOp .And (a::b::rest) pos) (KO tA tB'):=by
 intro f pins s σ H Q I h;refine isTrue_and (WW (ha pins s σ H _ I h) fun c i ⟨H1,e,d⟩=>?_);cases c with
 |true=>exact hb f pins i σ H1 Q e d
 |false=>exact⟨H1,e,d⟩
theorem Dh(ha:PT X a tA)(hb:PW X (.BoolOp .Or (b::rest) pos) tB'):PW X (.BoolOp .Or (a::b::rest) pos) (Kl tA tB'):=by
 intro f pins s σ H Q I h;refine isTrue_or (WW (ha pins s σ H _ I h) fun c i ⟨H1,e,d⟩=>?_);cases c with
 |true=>exact⟨H1,e,d⟩
 |false=>exact hb f pins i σ H1 Q e d
theorem MA(ha:PT X a tA):PT X (.UnaryOp .Not a pos) (Ll tA):=by
 intro pins s σ H Q I h;exact isTrue_not (ha pins s σ H (fun c H1=>Q (!c) H1) I h)
def Bp(ta tb:TE):TE:=fun σ H Q=>ta σ H fun x H1=>∃c,x= .bl c/\if c=true then tb σ H1 Q else Q (.bl false) H1
def ET(ta tb:TE):TE:=fun σ H Q=>ta σ H fun x H1=>∃c,x= .bl c/\if c=true then Q (.bl true) H1 else tb σ H1 Q
def EF(ta:TE):TE:=fun σ H Q=>ta σ H fun x H1=>∃c,x= .bl c/\Q (.bl (!c)) H1
theorem Dj{op}{t:TE}(h:PE X a t):PE X (.BoolOp op [a] pos) t:=fun pins s σ H Q I b=>BoolOp_one (h pins s σ H Q I b)
theorem gC(ha:PE X a ta)(hb:PE X (.BoolOp .And (b::rest) pos) tb):PE X (.BoolOp .And (a::b::rest) pos) (Bp ta tb):=by
 intro pins s σ H Q I h;refine BoolOp_and (WW (ha pins s σ H _ I h) fun v f ⟨x,H1,e,i,d⟩=>?_);obtain⟨c,rfl,d⟩:=d;cases i;refine X4 ?_;cases c with
 |true=>exact hb pins f σ H1 Q e d
 |false=>exact⟨.bl false,H1,e,rfl,d⟩
theorem j8(ha:PE X a ta)(hb:PE X (.BoolOp .Or (b::rest) pos) tb):PE X (.BoolOp .Or (a::b::rest) pos) (ET ta tb):=by
 intro pins s σ H Q I h;refine BoolOp_or (WW (ha pins s σ H _ I h) fun v f ⟨x,H1,e,i,d⟩=>?_);obtain⟨c,rfl,d⟩:=d;cases i;refine X4 ?_;cases c with
 |false=>exact hb pins f σ H1 Q e d
 |true=>exact⟨.bl true,H1,e,rfl,d⟩
theorem nL(ha:PE X a ta):PE X (.UnaryOp .Not a pos) (EF ta):=by
 intro pins s σ H Q I h;refine UnaryOp_ (WW (ha pins s σ H _ I h) fun v f ⟨x,H1,e,d,b⟩=>?_);obtain⟨c,rfl,b⟩:=b;cases d;exact not_of (X4 ⟨.bl (!c),H1,e,rfl,b⟩)
def Fx(t:TT)(ta tb:TE):TE:=fun σ H Q=>t σ H fun c H1=>if c=true then ta σ H1 Q else tb σ H1 Q
theorem Ov{c:Wo}(hc:PT X c tA)(ha:PE X a ta)(hb:PE X b tb):PE X (.IfExp c a b pos) (Fx tA ta tb):=by
 intro pins s σ H Q I h;refine wpAny_IfExp (WW (hc pins s σ H _ I h) fun d e ⟨H1,i,f⟩=>?_);cases d with
 |true=>exact ha pins e σ H1 Q i f
 |false=>exact hb pins e σ H1 Q i f
end
def WA(K:Wi)(H:Hp)(a:Wk)(xs:List V):Prop:=
 Rd H a (.lst xs)\/
  ∃ (o:Obj) (its:Array Value) (n:Nat),K.lookup a=some o/\o.cls= .type "list"/\o.dict=none/\o.data= .seq its n/\its.size <=sizeLine/\WD xs its.toList
def Ja(K:Wi)(H:Hp)(a:Wk)(xs:List V):Prop:=
 Rd H a (.tup xs)\/
  ∃ (o:Obj) (its:Array Value) (n:Nat),K.lookup a=some o/\o.cls= .type "tuple"/\o.data= .seq its n/\its.size <=sizeLine/\WD xs its.toList
def nE:Value->Option V
 | .none=>some .non
 | .bool b=>some (.bl b)
 | .int i _=>some (.int i)
 | .str x _=>some (.str x)
 | .bytes b _=>some (.byt b)
 | .float b _=>some (.flt b)
 | .ref a=>some (.ref a)
 | .type n=>some (.ty n)
 |_=>none
theorem WJ.abs{x:V}{u:Wj}(r:WJ x u):nE u=some x:=by
 cases x with
 |non=>cases r;rfl
 |bl _=>cases r;rfl
 |int _=>obtain⟨t,rfl⟩:=r;rfl
 |str _=>obtain⟨t,rfl⟩:=r;rfl
 |byt _=>obtain⟨t,rfl⟩:=r;rfl
 |flt _=>obtain⟨t,rfl⟩:=r;rfl
 |ref _=>cases r;rfl
 |ty _=>cases r;rfl
theorem WJ.inj{x y:V}{u:Wj}(r:WJ x u)(q:WJ y u):x=y:=Option.some.inj (r.abs.symm.trans q.abs)
theorem WD.inj:∀{xs ys:List V} {us:Wm},WD xs us->WD ys us->xs=ys
 |_,_,_,.nil,.nil=>rfl
 |_,_,_,.cons r t,.cons r' t'=>by rw[r.inj r',WD.inj t t']
section
variable{X:Cx}{pins:Wb}{σ:St}{H:Hp}{s:We}{a:Wk}{xs ys:List V}
theorem WA.of{K:Wi}(h:H a=some (.lst xs)):WA K H a xs:=.inl (.inl h)
theorem Ja.of{K:Wi}(h:H a=some (.tup xs)):Ja K H a xs:=.inl (.inl h)
theorem Wv.list(I:Wv X pins σ H s)(h:WA X.K H a xs):∃its:List Value,WD xs its/\PlainL s.heap a its.toArray/\xs.length <=sizeLine:=by
 rcases h with h|⟨o,its,n,hk,hc,hd,hs,hz,r⟩
 .obtain⟨z,its,n,r,e⟩:=h.ok I.hok;exact⟨its,r,⟨_,n,e,rfl,rfl,rfl⟩,z⟩
 .refine⟨its.toList,r,⟨o,n,I.kIn a o hk,hc,hd,by simpa using hs⟩,?_⟩;have e:=r.length;simp only[Array.length_toList]at e
  lia
theorem Wv.tuple(I:Wv X pins σ H s)(h:Ja X.K H a xs):∃its:List Value,WD xs its/\IsTup s.heap a its.toArray/\xs.length <=sizeLine:=by
 rcases h with h|⟨o,its,n,hk,hc,hs,hz,r⟩
 .obtain⟨z,its,r,p⟩:=h.ok I.hok;exact⟨its,r,p,z⟩
 .refine⟨its.toList,r,⟨o,I.kIn a o hk,hc,n,by simpa using hs⟩,?_⟩;have e:=r.length;simp only[Array.length_toList]at e
  lia
theorem Wv.list_inj(I:Wv X pins σ H s)(h:WA X.K H a xs)(h':WA X.K H a ys):xs=ys:=by
 obtain⟨c,r,⟨o,n,e,_,_,d⟩,_⟩:=I.list h;obtain⟨b,j,⟨o',p,f,_,_,i⟩,_⟩:=I.list h';rw[e]at f;cases f;rw[d]at i;injection i with d1 _;have:c=b:=by simpa using YU Array.toList d1
 subst this;exact r.inj j
end
abbrev Cx.wish(X:Cx)(E:W9):Cx:={X with xe:=E}
abbrev Cx.nox(X:Cx):Cx:=X.wish fun _ _=>False
theorem Cx.Ok.wish{X:Cx}(ok:X.Ok)(E:W9):(X.wish E).Ok:=
 ⟨ok.mod,ok.kind,ok.glob,ok.blt,ok.above,ok.inj,ok.has,ok.cab,ok.hd,ok.frames,ok.stk,ok.exf,ok.bs,ok.bsz,ok.noex,ok.exfs,ok.funs,ok.frf⟩
theorem Cx.Ok.unwish{X:Cx}{E:W9}(ok:(X.wish E).Ok):X.Ok:=
 ⟨ok.mod,ok.kind,ok.glob,ok.blt,ok.above,ok.inj,ok.has,ok.cab,ok.hd,ok.frames,ok.stk,ok.exf,ok.bs,ok.bsz,ok.noex,ok.exfs,ok.funs,ok.frf⟩
section
variable{X:Cx}{pins:Wb}{σ:St}{H:Hp}{s:We}{E:W9}
theorem Wv.wish(I:Wv X pins σ H s)(E:W9):Wv (X.wish E) pins σ H s:=⟨I.ok.wish E,I.os,I.bare,I.base,I.loc,I.cell,I.free,I.freeC,I.pin,I.hok,I.len⟩
theorem Wv.unwish(I:Wv (X.wish E) pins σ H s):Wv X pins σ H s:=⟨I.ok.unwish,I.os,I.bare,I.base,I.loc,I.cell,I.free,I.freeC,I.pin,I.hok,I.len⟩
theorem SP.unwish{D:Tl}{f:Flow}{s':We}(h:SP (X.wish E) pins D f s'):SP X pins D f s':=by
 cases f with
 |next=>obtain⟨σ',H',I,q⟩:=h;exact⟨σ',H',I.unwish,q⟩
 |brk=>obtain⟨σ',H',I,q⟩:=h;exact⟨σ',H',I.unwish,q⟩
 |cont=>obtain⟨σ',H',I,q⟩:=h;exact⟨σ',H',I.unwish,q⟩
 |ret u=>obtain⟨v,σ',H',I,r,q⟩:=h;exact⟨v,σ',H',I.unwish,r,q⟩
theorem MP.nox{st:List Stmt}{t:TS}(h:MP X.nox st t):MP X st t:=fun pins s σ H D I a=>
 X9 (h pins s σ H D (I.wish _) a) (fun _ _ q=>q.unwish) fun _ _ z=>False.elim z
end
section
variable{X:Cx}{st:Stmt}{rest:List Stmt}{t u:TS}{e:Wo}{te:TE}{pos:Pos}
def FQ:TS:=fun D σ H=>D.nx σ H
def Dz(t u:TS):TS:=fun D σ H=>t {D with nx:=u D} σ H
theorem JV:MP X [] FQ:=fun _ _ σ H _ I h=>V7 ⟨σ,H,I,h⟩
theorem WB(h1:PS X st t)(h2:MP X rest u):MP X (st::rest) (Dz t u):=by
 intro pins s σ H D I h;refine wpAny_execs_cons (WW (h1 pins s σ H {D with nx:=u D} I h) fun f a q=>?_);cases f with
 |next=>
  obtain⟨σ',H',b,q⟩:=q;exact h2 pins a σ' H' D b q
 |ret v=>exact q
 |brk=>exact q
 |cont=>exact q
theorem WH(h1:PS X st t):MP X [st] t:=by
 intro pins s σ H D I h;refine wpAny_execs_cons (WW (h1 pins s σ H D I h) fun f a q=>?_);cases f with
 |next=>exact V7 q
 |ret v=>exact q
 |brk=>exact q
 |cont=>exact q
def HA:TS:=fun D σ H=>D.bk σ H
theorem eP:PS X (.Break pos) HA:=fun _ _ σ H _ I h=>wpAny_Break ⟨σ,H,I,h⟩
theorem Wv.quiet{pins:Wb}{σ:St}{H:Hp}{s:We}(I:Wv X pins σ H s):interactive X.env=false:=by simp[interactive,I.ok.kind]
def HH(te:TE):TS:=fun D σ H=>te σ H fun _ H1=>D.nx σ H1
theorem Ta(he:PE X e te)(hs:swapsWith e none pos.line X.env=pure false:=by rfl):PS X (.Expr e pos) (HH te):=by
 intro pins s σ H D I h;exact wpAny_Expr_any (WW (he pins s σ H _ I h) fun v c ⟨x,H1,b,d,a⟩=>⟨σ,H1,b,a⟩) I.quiet hs
def Fp(te:TE):TS:=fun D σ H=>te σ H D.rt
theorem Jd(he:PE X e te):PS X (.Return (some e) pos) (Fp te):=by
 intro pins s σ H D I h;exact wpAny_Return_some (WW (he pins s σ H _ I h) fun v d ⟨x,H1,c,a,b⟩=>⟨x,σ,H1,c,a,b⟩)
def Ix(c:TT)(t u:TS):TS:=fun D σ H=>c σ H fun b H1=>if b=true then t D σ H1 else u D σ H1
theorem JJ{c:Wo}{a b:List Stmt}{tc:TT}(hc:PT X c tc)(ha:MP X a t)(hb:MP X b u):PS X (.If c a b pos) (Ix tc t u):=by
 intro pins s σ H D I h;refine wpAny_If (WW (hc pins s σ H _ I h) fun d e ⟨H1,i,f⟩=>?_);cases d with
 |true=>exact ha pins e σ H1 D i f
 |false=>exact hb pins e σ H1 D i f
def gG:TS:=fun _ _ _=>False
theorem Ro{sts:List Stmt}:MP X sts gG:=fun _ _ _ _ _ _ h=>h.elim
end
abbrev TG:=V->St->Hp->(St->Hp->Prop)->Prop
abbrev RK:=List V->St->Hp->(St->Hp->Prop)->Prop
def PG(X:Cx)(target:Wo)(t:TG):Prop:=
 ∀ (pins:Wb) (s:We) (σ:St) (H:Hp) (v:V) (u:Wj) (Q:St->Hp->Prop),Wv X pins σ H s->WJ v u->t v σ H Q->
  wpAny (model X.prog X.w) X.A (assign target X.env u) (fun _ s'=>∃σ' H',Wv X pins σ' H' s'/\Q σ' H') X.xe s
def BB(X:Cx)(ts:List Expr)(t:RK):Prop:=
 ∀ (pins:Wb) (s:We) (σ:St) (H:Hp) (vs:List V) (us:Wm) (Q:St->Hp->Prop),Wv X pins σ H s->WD vs us->t vs σ H Q->
  wpAny (model X.prog X.w) X.A (assignInOrder ((assignEach ts X.env).map (·.2)) us) (fun _ s'=>∃σ' H',Wv X pins σ' H' s'/\Q σ' H') X.xe s
abbrev Ci:=V->V->V->Hp->(Hp->Prop)->Prop
def Gj(X:Cx)(t:Ci):Prop:=
 ∀ (pins:Wb) (s:We) (σ:St) (H:Hp) (o i v:V) (ov iv u:Wj) (Q:Hp->Prop),Wv X pins σ H s->WJ o ov->WJ i iv->WJ v u->t o i v H Q->
  wpAny (model X.prog X.w) X.A (setItem ov iv u) (fun _ s'=>∃H',Wv X pins σ H' s'/\Q H') X.xe s
section
variable{X:Cx}{pos:Pos}
def Go(i:Nat):TG:=fun v σ H Q=>Q (σ.set i (some v)) H
theorem Ms{i:Nat}{x:Str}(hN:X.N.Nodup)(hi:X.N[i]?=some x)(hx:El X.env.scope x)(hf:X.fn x=true\/X.env.scope.names.lookup x=some .local:=by first|exact .inl rfl|exact .inr rfl|assumption):PG X (.Name x pos) (Go i):=by
 intro pins s σ H v u Q I r h;exact wpAny_assign_Name (Hy I hN hi hx r (fun s' a=>⟨_,H,a,h⟩) hf)
def Lz:RK:=fun vs σ H Q=>vs=[]/\Q σ H
def Kr(t:TG)(u:RK):RK:=fun vs σ H Q=>∃v r,vs=v::r/\t v σ H fun σ' H'=>u r σ' H' Q
theorem GV:BB X [] Lz:=by
 intro pins s σ H vs a Q I r h;obtain⟨e,h⟩:=h;subst e;cases r;exact assignInOrder_nil ⟨σ,H,I,h⟩
theorem TL{e:Wo}{es:List Expr}{t:TG}{u:RK}(h1:PG X e t)(h2:BB X es u)
  (hs:(assignEach (e::es) X.env).map (·.2)=assign e X.env::(assignEach es X.env).map (·.2):=by rfl):BB X (e::es) (Kr t u):=by
 intro pins s σ H vs i Q I r h;obtain⟨v,f,c,h⟩:=h;subst c;cases r with
 |cons r rr=>
  rw[hs];refine assignInOrder_cons (WW (h1 pins s σ H _ _ _ I r h) fun _ a ⟨σ1,H1,d,b⟩=>?_);exact h2 pins a σ1 H1 _ _ Q d rr b
def C0(K:Wi)(n:Nat)(t:RK):TG:=fun v σ H Q=>∃a xs,v= .ref a/\Ja K H a xs/\xs.length=n/\t xs σ H Q
theorem yD{es:List Expr}{k:Nat}{t:RK}{n:Nat}(hc:X.calm=true)(h:BB X es t)
  (hn:(assignEach es X.env).length=n:=by rfl) (hst:(assignEach es X.env).findIdx? (·.1)=none:=by rfl):PG X (.Tuple es k pos) (C0 X.K n t):=by
 intro pins s σ H v u Q I r c;obtain⟨a,xs,q,j,p,c⟩:=c;subst q;cases r;obtain⟨x,d,i,y⟩:=I.tuple j;refine assign_Tuple_tuple (I.ok.hd hc) i (by simp[hn,<-p,d.length]) hst fun h' f=>?_
 have w:Wv X pins σ H {s with heap:=h'}:=I.kept (t':=s.toks) fun b o e=>f b o (Yj (Ye e)) e
 exact h pins _ σ H xs _ Q w (by simpa using d) c
def Ii(to ti:TE)(t:Ci):TG:=fun v σ H Q=>to σ H fun o H1=>ti σ H1 fun i H2=>t o i v H2 fun H3=>Q σ H3
theorem rB{o i:Wo}{to ti:TE}{t:Ci}(ho:PE X o to)(hi:PE X i ti)(hs:Gj X t)
  (ha : ∀ v, assign (.Subscript o i pos) X.env v = (do
   let ov <-holding [v] (eval o X.env)
   let iv <-holding [v,ov] (eval i X.env)
   standAt pos
   holding [v,ov,iv] (setItem ov iv v)
   release [v, ov, iv] []) := by intro _; rfl) : PG X (.Subscript o i pos) (Ii to ti t) := by
 intro pins s σ H v u Q I r h;rw[ha];refine Y0 (YQ (WW (ho pins s σ H _ I h) fun ov b ⟨x,H1,q,d,j⟩=>?_));refine Y0 (YQ (WW (hi pins b σ H1 _ q j) fun iv a ⟨y,H2,p,c,f⟩=>?_));refine Y0 (UY (Y0 (YQ (WW (hs pins a σ H2 x y v ov iv u _ p d c r f) fun _ z ⟨w,n,e⟩=>?_))));exact wpAny_release ⟨σ,w,n,e⟩
def E1(te:TE)(g:TG):TS:=fun D σ H=>te σ H fun x H1=>g x σ H1 D.nx
theorem EB{tg e:Wo}{te:TE}{g:TG}(he:PE X e te)(hg:PG X tg g)(hs:swapsWithSole [tg] e pos.line X.env=pure false:=by rfl)(hw:swappedStores [tg] e X.env=pure none:=by rfl)
  (h1:(assignEach [tg] X.env).map (·.2)=[assign tg X.env]:=by rfl):PS X (.Assign [tg] e pos) (E1 te g):=by
 intro pins s σ H D I h;refine wpAny_Assign_stores (WW (he pins s σ H _ I h) fun v a ⟨x,H1,d,b,c⟩=>?_) hs hw;rw[h1];exact WW (hg pins a σ H1 x v _ d b c) fun _ f q=>q
theorem IR{i:Nat}{x:Str}{e:Wo}{te:TE}{pos':Pos}(hN:X.N.Nodup)(hi:X.N[i]?=some x)(hx:El X.env.scope x)(he:PE X e te)(hs:swapsWith e (some (.Name x pos')) pos.line X.env=pure false:=by rfl)(hf:X.fn x=true\/X.env.scope.names.lookup x=some .local:=by first|exact .inl rfl|exact .inr rfl|assumption):
  PS X (.Assign [.Name x pos'] e pos) (E1 te (Go i)):=by
 intro pins s σ H D I h;refine wpAny_Assign_Name (WW (he pins s σ H _ I h) fun v j ⟨y,H1,d,a,b⟩=>?_) hs;exact Hy d hN hi hx a (fun f c=>⟨_,H1,c,b⟩) hf
def mX(c:TT)(tb:TS):TS:=fun D σ H=>∃W:Nat->St->Hp->Prop,(∃m,W m σ H)/\∀m σ H,W m σ H->
 c σ H fun b H1=>if b=true then ∃N:St->Hp->Prop,(∀σ' H',N σ' H'->∃m',m' < m/\W m' σ' H')/\tb {D with nx:=N,ct:=N,bk:=D.nx} σ H1 else D.nx σ H1
theorem Cy{c:Wo}{body:List Stmt}{tc:TT}{tb:TS}(hp:PassesOwn (model X.prog X.w) X.A X.env X.xe)(hc:PT X c tc)(hb:MP X body tb):PS X (.While c body [] pos) (mX tc tb):=by
 intro pins s σ H D I h;obtain⟨W,⟨m0,w0⟩,j⟩:=h;refine wpAny_While (codeAny_whileLoop (fun n s'=>∃σ' H',Wv X pins σ' H' s'/\W n σ' H') ?_ m0 ⟨σ,H,I,w0⟩);rintro n s1 ⟨σ1,H1,I1,z⟩;refine XO hp (WW (hc pins s1 σ1 H1 _ I1 (j n σ1 H1 z)) fun b s2 ⟨H2,y,e⟩=>?_);cases b with
 |true=>
  obtain⟨N,x,e⟩:=e;rw[Y5 rfl];refine XO hp (WW (hb pins s2 σ1 H2 _ y e) fun f s3 d=>?_);cases f with
  |next=>
   obtain⟨σ3,a,u,p⟩:=d;obtain⟨q,r,i⟩:=x σ3 a p;exact⟨q,r,σ3,a,u,i⟩
  |cont=>
   obtain⟨σ3,a,u,p⟩:=d;obtain⟨q,r,i⟩:=x σ3 a p;exact⟨q,r,σ3,a,u,i⟩
  |brk=>exact d
  |ret v=>exact d
 |false=>
  rw[Y2 Yi];exact V7 ⟨σ1,H2,y,e⟩
end
structure It where
 go:Nat->Hp->Prop
 yld:Nat->Hp->V->Hp->Prop
 stop:Nat->Hp->Prop
def Mx(X:Cx)(pins:Wb)(H:Hp)(b:Wk):Prop:=
 H b=none/\b≠X.env.locals/\b∉X.fs/\(b∈X.ex\/X.s₀.heap.objs.size <=b)/\(∀x c,X.env.cells.lookup x=some c->c≠b)/\∀p∈X.pn++pins,p.1≠b
theorem Wv.fpOk{X:Cx}{pins:Wb}{σ:St}{H H':Hp}{s:We}{b:Wk}(I:Wv X pins σ H s)(hb:s.heap.objs.size <=b)(hn:H' b=none):Mx X pins H' b:=by
 refine⟨hn,Ug (YG I.lt hb),I.nofs hb,.inr (YD I.sz hb),fun x c e z=>?_,fun p a z=>?_⟩
 .obtain⟨v,q⟩:=I.cell x c e;exact absurd (YG q.lt (by rw[z];exact hb)) (Xs _)
 .exact absurd (YG (Ye (I.pin p a).1) (by rw[z];exact hb)) (Xs _)
structure Rq(P:Wc)(w:Wh)(K:Wi)(tg:Wo)(J:It)(fp:List Addr)(it:Wk)(tn:Nat->Heap->Prop):Prop where
 mem:it∈fp
 obj:∀i h,tn i h->∀b∈fp,∃o,h.get? b=some o/\∀v,o.data≠ .cell v
 keep:∀i h h',tn i h->(∀b∈fp,∀o,h.get? b=some o->h'.get? b=some o)->tn i h'
 item:∀ (X:Cx),X.prog=P->X.w=w->X.K=K->X.calm=true->∀ (i:Nat) (pins:Wb) (s:We) (σ:St) (H:Hp) (E:W9),Wv X pins σ H s->(∀b∈fp,Mx X pins H b)->tn i s.heap->J.go i H->
  wpAny (model P w) X.A (pyNext (.ref it)) (fun r s1 => ∃ u, r = some u /\
   wpAny (model P w) X.A (letOwnedTupleGo tg (.ref it) u) (fun _ s2 => ∃ x H', Wv X pins σ H' s2 /\ WJ x u /\ J.yld i H x H' /\ tn (i + 1) s2.heap /\ ∀ b ∈ fp, H' b = none) E s1) E s
 done:∀ (X:Cx),X.prog=P->X.w=w->X.K=K->X.calm=true->∀ (i:Nat) (pins:Wb) (s:We) (σ:St) (H:Hp) (E:W9),Wv X pins σ H s->(∀b∈fp,Mx X pins H b)->tn i s.heap->J.stop i H->
  wpAny (model P w) X.A (pyNext (.ref it)) (fun r s1=>r=none/\Wv X pins σ H s1) E s
 self:∀ (A:Wg) (i:Nat) (s:We) (Q:W9) (E:W9),tn i s.heap->Q (.ref it) s->wpAny (model P w) A (pyIter (.ref it)) Q E s
abbrev TI:=St->Hp->(It->Hp->Prop)->Prop
def Qy(X:Cx)(pins:Wb)(σ:St)(tg:Wo)(R:It->Hp->Prop)(itv:Wj)(s2:We):Prop:=
 ∃ (it:Wk) (fp:List Addr) (tn:Nat->Heap->Prop) (J:It) (H':Hp),itv= .ref it/\Wv X pins σ H' s2/\Rq X.prog X.w X.K tg J fp it tn/\tn 0 s2.heap/\(∀b∈fp,Mx X pins H' b)/\R J H'
def PI(X:Cx)(tg iter:Wo)(wi:TI):Prop:=
 ∀ (pins:Wb) (s:We) (σ:St) (H:Hp) (R:It->Hp->Prop),Wv X pins σ H s->wi σ H R->
  wpAny (model X.prog X.w) X.A (eval iter X.env) (fun v s1=>wpAny (model X.prog X.w) X.A (pyIter v) (Qy X pins σ tg R) X.xe s1) X.xe s
theorem A5{M:Model}{A:Wg}{E:W9}{s:We}{tg:Wo}{it:Wk}{u:Wj}{o:Obj}{n:String}{vs:Array Value}{Q:Wa}(ho:s.heap.get? it=some o)(hc:o.cls= .type n)(hd:o.data= .fields vs)
    (hn:["enumerate","zip","dict_itemiterator","dict_reverseitemiterator","odict_iterator","itertools.zip_longest","itertools.pairwise"].contains n=false) (hQ:Q () s):wpAny M A (letOwnedTupleGo tg (.ref it) u) Q E s:=by
  unfold letOwnedTupleGo
  cases tg <;> first
    |exact Y4 hQ
    | (cases u <;> first
        |exact Y4 hQ
        | (refine Y0 (wpAny_load ho ?_)
           rw[hc,hd]
           show wpAny M A (if(["enumerate","zip","dict_itemiterator","dict_reverseitemiterator","odict_iterator","itertools.zip_longest","itertools.pairwise"].contains n && vs[0]?==some (rawInt _))=true then _ else _) Q E s
           rw[Y2 (by intro h;rw[hn,XJ]at h;cases h)]
           exact Y4 hQ))
def Rn(K:Wi)(a:Wk):It:=
 ⟨fun i H=>∃xs x,WA K H a xs/\xs[i]?=some x,fun i H x H'=>H'=H/\∀xs,WA K H a xs->xs[i]?=some x,fun i H=>∃xs,WA K H a xs/\xs.length <=i⟩
def R8(lo:Int)(n:Nat):It:=⟨fun i _=>i < n,fun i H x H'=>H'=H/\x= .int (lo+ i),fun i _=>n <=i⟩
theorem Zp{P:Wc}{w:Wh}{K:Wi}{tg:Wo}(a it:Wk):Rq P w K tg (Rn K a) [it] it (fun i h=>h.IsListIter it a i) where
 mem:=by simp
 obj:=fun i h st b f=>by
  have e:b=it:=by simpa using f
  subst e;obtain⟨o,e,c,d⟩:=st;exact⟨o,e,fun v z=>by rw[d]at z;cases z⟩
 keep:=fun i h h' st k=>st.at fun o e=>k it (by simp) o e
 item:=by
  intro X hP hw hK hc i pins s σ H E I n st hg;subst hP hw hK;obtain⟨xs,x,j,y⟩:=hg;obtain⟨its,r,p,hz⟩:=I.list j;obtain⟨u,hu,ru⟩:=r.get y;obtain⟨f0,f1,f2,f3,f4,f5⟩:=n it (by simp);refine wpAny_pyNext_list_item st p.isList (x:=u) (by simpa using hu) fun h' q sb=>?_
  have I1:Wv X pins σ H {s with heap:=h'}:=I.turned (t':=s.toks) (fun b o f e=>(sb.2 b f).trans e) f0 f1 f3 f4 f5;obtain⟨o,e,c,d⟩:=id q;exact⟨u,rfl,A5 (s:={s with heap:=h'}) e c d (by decide) ⟨x,H,I1,ru,⟨rfl,fun ys hy=>by rw[I.list_inj hy j];exact y⟩,q,fun b f=>(n b f).1⟩⟩
 done:=by
  intro X hP hw hK hc i pins s σ H E I n st hg;subst hP hw hK;obtain⟨xs,j,y⟩:=hg;obtain⟨its,r,p,hz⟩:=I.list j;obtain⟨f0,f1,f2,f3,f4,f5⟩:=n it (by simp);have hl:=r.length;exact wpAny_pyNext_list_end (I.ok.hd hc) st p.isList (by simp;lia) fun h' eb=>⟨rfl,I.turned (t':=s.toks) (fun b o f e=>eb b o f e) f0 f1 f3 f4 f5⟩
 self:=fun _ _ _ _ _ st h=>wpAny_pyIter_listiter st h
theorem d0{P:Wc}{w:Wh}{K:PySem.W.Frag}{tg:Wo}(it:Wk)(lo:Int)(n:Nat):Rq P w K tg (R8 lo n) [it] it (fun i h=>IsRangeIter h it (lo+ (i:Nat)*1) ((n:Int) - (i:Nat)) 1) where
 mem:=by simp
 obj:=fun i h st b a=>by
  have e:b=it:=by simpa using a
  subst e;exact ⟨_, st, fun v z => by
   have z' : Data.fields _ = Data.cell v := z;cases z'⟩
 keep:=fun i h h' st k=>k it (by simp) _ st
 item:=by
  intro X q f r p i pins s σ H E I c st j;subst q f r;obtain⟨f0,f1,f2,y,x,u⟩:=c it (by simp);have W:=Walks.range (prog:=X.prog) (w:=X.w) (I.ok.hd p) it lo 1 n;refine W.item i s _ _ j st fun v h' tk hv d kk=>?_
  obtain⟨t,rfl⟩:=hv;have I1:Wv X pins σ H {s with heap:=h',toks:=tk}:=I.turned (fun b o a e=>kk b o (by simpa using a) e) f0 f1 y x u;refine⟨_,rfl,A5 (s:={s with heap:=h',toks:=tk}) (n:="range_iterator") d rfl rfl (by decide) ⟨.int (lo+ i),H,I1,⟨t,?_⟩,⟨rfl,rfl⟩,d,fun b a=>(c b a).1⟩⟩;rw[Int.mul_one]
 done:=by
  intro X q f r p i pins s σ H E I c st j;subst q f r;obtain⟨f0,f1,f2,y,x,u⟩:=c it (by simp);exact wpAny_pyNext_range_end (I.ok.hd p) st (by have:n <=i:=j;lia) fun h' eb=>⟨rfl,I.turned (t':=s.toks) (fun b o a e=>eb b o a e) f0 f1 y x u⟩
 self:=fun _ _ _ _ _ st h=>wpAny_pyIter_rangeiter st h
section
variable{X:Cx}{tg:Wo}
def Em(K:Wi)(tl:TE):TI:=fun σ H R=>tl σ H fun x H1=>∃a,x= .ref a/\(∃xs,WA K H1 a xs)/\R (Rn K a) H1
theorem gT{l:Wo}{tl:TE}(hl:PE X l tl):PI X tg l (Em X.K tl):=by
 intro pins s σ H R I h;refine WW (hl pins s σ H _ I h) fun v c ⟨x,H1,d,f,i⟩=>?_
 obtain⟨a,e,⟨xs,j⟩,q⟩:=i;subst e;cases f;obtain⟨r,u,p,w⟩:=d.list j;refine Xu p.isList ?_;refine⟨c.heap.objs.size,[c.heap.objs.size],_,_,H1,rfl,d.kept (t':=c.toks) fun b o e=>Y8 _ e,Zp a _,⟨_,Yc _ rfl,rfl,rfl⟩,fun b n=>?_,q⟩;have e:b=c.heap.objs.size:=by simpa using n
 subst e;exact d.fpOk (Y6 _) (d.hok.fresh (Y6 _))
theorem y8{pins:Wb}{σ:St}{H:Hp}{s:We}{R:It->Hp->Prop}{E:W9}{lo hi:Int}{t u v:Tok}{tk:Nat}(I:Wv X pins σ H s)(h1: -(2 ^ 62) <=lo)(h2:lo < 2 ^ 62)(h3: -(2 ^ 62) <=hi)(h4:hi < 2 ^ 62)
  (q:R (R8 lo (hi - lo).toNat) H):wpAny (model X.prog X.w) X.A (pyIter (.ref s.heap.objs.size)) (Qy X pins σ tg R) E {s with heap:=s.heap.push {cls:=.type "range",data:=.fields #[.int lo t,.int hi u,.int 1 v]},toks:=tk}:=by
 refine wpAny_pyIter_range (IsRange.new ..) (small_one h1 h2 h3 h4) ?_;have a:Wv X pins σ H {s with heap:=s.heap.push {cls:=.type "range",data:=.fields #[.int lo t,.int hi u,.int 1 v]},toks:=tk}:=I.kept fun b o e=>Y8 _ e
 refine ⟨(s.heap.push { cls := .type "range", data := .fields #[.int lo t, .int hi u, .int 1 v] }).objs.size, [(s.heap.push { cls := .type "range", data := .fields #[.int lo t, .int hi u, .int 1 v] }).objs.size], _, _, H, rfl,
  a.kept (t' := tk) fun b o e => Y8 _ e, d0 _ lo (hi - lo).toNat, ?_, fun b c => ?_, q⟩
 .have f:lo+ ((0:Nat):Int)*1=lo:=by simp
  have d:(((hi - lo).toNat:Nat):Int) - ((0:Nat):Int)=Builtin.Range.rangeSize lo hi 1:=by rw[rangeSize_one];split <;> lia
  show IsRangeIter _ _ (lo+ ((0:Nat):Int)*1) ((((hi - lo).toNat:Nat):Int) - ((0:Nat):Int)) 1;rw[f,d];exact Yc _ rfl
 .have e:b=(s.heap.push {cls:=.type "range",data:=.fields #[.int lo t,.int hi u,.int 1 v]}).objs.size:=by simpa using c
  subst e;exact a.fpOk (Y6 _) (a.hok.fresh (Y6 _))
def Bc(ta:TA):TI:=fun σ H R=>ta σ H fun vs H1=>∃j:Int,vs=[.int j]/\ -(2 ^ 62) <=j/\j < 2 ^ 62/\R (R8 0 j.toNat) H1
theorem wS{a:Wo}{ta:TA}{p pos:Pos}(hg:Gl X "range")(hm:X.mg "range"=none)(ha:PA X [a] ta)(hs:starEach [a] X.env=[(false,eval a X.env)]:=by rfl):PI X tg (.Call (.Name "range" p) [a] [] pos) (Bc ta):=by
 intro pins s σ H R I h;refine Call_ (EM I hg hm boot_range (Vn (WW (ha pos pins s σ H _ I h) fun i n ⟨vs,H1,f,c,b⟩=>?_) hs rfl));obtain⟨j,e,b,d,q⟩:=b;subst e;cases c with
 |cons r rr=>
  cases rr;obtain⟨t,rfl⟩:=r;exact call_range_1 (y8 f (by lia) (by lia) b d (by simpa using q))
def OI(wi:TI)(g:TG)(tb:TS):TS:=fun D σ H=>wi σ H fun J H1=>∃W:Nat->Nat->St->Hp->Prop,(∃m,W 0 m σ H1)/\∀i m σ H,W i m σ H->
 (J.stop i H/\D.nx σ H)\/(J.go i H/\∃N:St->Hp->Prop,(∀σ' H',N σ' H'->∃m',m' < m/\W (i+ 1) m' σ' H')/\∀x H',J.yld i H x H'->g x σ H' fun σ2 H2=>tb {D with nx:=N,ct:=N,bk:=D.nx} σ2 H2)
def A8(fp:List Addr)(h:Wn):List (Addr×Obj):=fp.filterMap fun b=>(h.get? b).map fun o=>(b,o)
theorem Ay{fp:List Addr}{h:Wn}{b:Wk}{o:Obj}(hb:b∈fp)(e:h.get? b=some o):(b,o)∈A8 fp h:=List.mem_filterMap.mpr ⟨b,hb,by rw[e];rfl⟩
theorem u9{fp:List Addr}{h:Wn}{p:Addr×Obj}(hp:p∈A8 fp h):p.1∈fp/\h.get? p.1=some p.2:=by
 obtain⟨b,a,e⟩:=List.mem_filterMap.mp hp;cases q:h.get? b with
 |none=>rw[q]at e;cases e
 |some o=>
  rw[q]at e;have c:(b,o)=p:=Option.some.inj e;subst c;exact⟨a,q⟩
theorem Wv.pinned{pins:Wb}{σ:St}{H:Hp}{s:We}{fp:List Addr}(I:Wv X pins σ H s)(hf:∀b∈fp,Mx X pins H b)(ho:∀b∈fp,∃o,s.heap.get? b=some o/\∀v,o.data≠ .cell v):Wv X (pins++A8 fp s.heap) σ H s:=
 I.pins_of fun p f=>(YB.mp f).elim (fun z=>I.pin p (Yy _ z)) fun z=>by
  obtain⟨a,e⟩:=u9 z;obtain⟨j,i,h,_⟩:=hf p.1 a;obtain⟨o,c,d⟩:=ho p.1 a;rw[e]at c;cases c;exact⟨e,j,i,h,d⟩
theorem Wv.unpinned{pins pl:Wb}{σ:St}{H:Hp}{s:We}(I:Wv X (pins++pl) σ H s):Wv X pins σ H s:=I.pins_of fun p a=>I.pin p (Yy _ (XW _ a))
theorem GT{iter:Wo}{body:List Stmt}{wi:TI}{g:TG}{tb:TS}{pos:Pos}(hp:PassesOwn (model X.prog X.w) X.A X.env X.xe)(hc:X.calm=true)(hi:PI X tg iter wi)(hg:PG X tg g)(hb:MP X body tb)
  (hs:∀x,foldedSetIterable iter X.env x=pure x:=by intro _;rfl):PS X (.For tg iter body [] pos) (OI wi g tb):=by
 intro pins s σ H D I h;refine wpAny_For (WW (hi pins s σ H _ I h) fun v s1 h1=>WW h1 fun itv s2 h2=>?_) hs;obtain⟨it,fp,tn,J,H2,e,I2,T,st2,f2,W,⟨m0,w0⟩,turn⟩:=h2;subst e
 -- what stays true of the iterator's objects through the loop
 have p:∀{H':Hp},(∀b∈fp,H' b=none)->∀b∈fp,Mx X pins H' b:=fun hn b hb=>⟨hn b hb,(f2 b hb).2⟩
 refine codeAny_forLoop_any (fun n s'=>∃i σ' H',Wv X pins σ' H' s'/\tn i s'.heap/\(∀b∈fp,H' b=none)/\W i n σ' H') ?_ m0 ⟨0,σ,H2,I2,st2,fun b hb=>(f2 b hb).1,w0⟩;rintro n s3 ⟨i,σ3,H3,I3,st3,fr3,w3⟩;rcases turn i n σ3 H3 w3 with⟨stop,qn⟩|⟨go,N,hN,step⟩
 .refine XO hp (WW (T.done X rfl rfl rfl hc i pins s3 σ3 H3 X.xe I3 (p fr3) st3 stop) fun r s4 ⟨hr,I4⟩=>?_);subst hr;exact V7 ⟨σ3,H3,I4,qn⟩
 .refine XO hp (WW (T.item X rfl rfl rfl hc i pins s3 σ3 H3 X.xe I3 (p fr3) st3 go) fun r s4 ⟨u,hr,h4⟩=>?_);subst hr;refine XO hp (WW h4 fun _ s5 ⟨x,H5,I5,r5,y5,y,fr5⟩=>?_);have I5':=I5.pinned (p fr5) (T.obj _ _ y);refine XO hp (WW (hg _ s5 σ3 H5 x u _ I5' r5 (step x H5 y5)) fun _ s6 ⟨σ6,H6,I6,q6⟩=>?_);refine XO hp (WW (hb _ s6 σ6 H6 _ I6 q6) fun f s7 j=>?_);have q:∀{σ7:St} {c:Hp},Wv X (pins++A8 fp s5.heap) σ7 c s7->N σ7 c->∃m,m < n/\∃i σ' H',Wv X pins σ' H' s7/\tn i s7.heap/\(∀b∈fp,H' b=none)/\W i m σ' H':=fun {σ7 c} a z=>by
   obtain⟨m',hm,w7⟩:=hN σ7 c z;refine⟨m',hm,i+ 1,σ7,c,a.unpinned,T.keep _ _ _ y fun b hb o e=>(a.pin (b,o) (Yy _ (Yy _ (Ay hb e)))).1,fun b hb=>?_,w7⟩;obtain⟨o,e,d⟩:=T.obj _ _ y b hb;exact(a.pin (b,o) (Yy _ (Yy _ (Ay hb e)))).2.1
  cases f with
  |next=>obtain⟨σ7,c,a,z⟩:=j;exact q a z
  |cont=>obtain⟨σ7,c,a,z⟩:=j;exact q a z
  |brk=>obtain⟨σ7,c,a,j⟩:=j;exact⟨σ7,c,a.unpinned,j⟩
  |ret v=>obtain⟨x7,σ7,c,a,r7,j⟩:=j;exact⟨x7,σ7,c,a.unpinned,r7,j⟩
end
theorem gB{K:PySem.W.Frag}{a:Wk}{xs:List V}{g:TG}{tb:TS}{D:Tl}{σ:St}{H:Hp}(Pv:Nat->St->Hp->Prop)(h0:Pv 0 σ H)(hl:∀i σ H,i <=xs.length->Pv i σ H->WA K H a xs)
  (hs:∀i x σ H,xs[i]?=some x->Pv i σ H->g x σ H fun σ2 H2=>tb {D with nx:=Pv (i+ 1),ct:=Pv (i+ 1),bk:=D.nx} σ2 H2) (hd:∀σ H,Pv xs.length σ H->D.nx σ H):
  ∃W:Nat->Nat->St->Hp->Prop,(∃m,W 0 m σ H)/\∀i m σ H,W i m σ H->
   ((Rn K a).stop i H/\D.nx σ H)\/((Rn K a).go i H/\∃N:St->Hp->Prop,(∀σ' H',N σ' H'->∃m',m' < m/\W (i+ 1) m' σ' H')/\∀x H',(Rn K a).yld i H x H'->g x σ H' fun σ2 H2=>tb {D with nx:=N,ct:=N,bk:=D.nx} σ2 H2):=by
 refine⟨fun i m σ H=>m=xs.length - i/\i <=xs.length/\Pv i σ H,⟨xs.length,by simp,YF _,h0⟩,?_⟩;rintro i m σ H ⟨rfl,hi,p⟩;have q:=hl i σ H hi p
 by_cases hlt:i < xs.length
 .refine .inr ⟨⟨xs,xs[i],q,by simp[hlt]⟩,Pv (i+ 1),fun σ' H' b=>⟨xs.length - (i+ 1),by lia,rfl,hlt,b⟩,fun x H' y=>?_⟩;obtain⟨e,y⟩:=y;subst e;exact hs i x σ _ (y xs q) p
 .have e:i=xs.length:=by lia
  subst e;exact .inl ⟨⟨xs,q,Y6 _⟩,hd σ H p⟩
theorem jE{lo:Int}{n:Nat}{g:TG}{tb:TS}{D:Tl}{σ:St}{H:Hp}(Pv:Nat->St->Hp->Prop)(h0:Pv 0 σ H)
  (hs:∀i σ H,i < n->Pv i σ H->g (.int (lo+ i)) σ H fun σ2 H2=>tb {D with nx:=Pv (i+ 1),ct:=Pv (i+ 1),bk:=D.nx} σ2 H2) (hd:∀σ H,Pv n σ H->D.nx σ H):
  ∃W:Nat->Nat->St->Hp->Prop,(∃m,W 0 m σ H)/\∀i m σ H,W i m σ H->
   ((R8 lo n).stop i H/\D.nx σ H)\/((R8 lo n).go i H/\∃N:St->Hp->Prop,(∀σ' H',N σ' H'->∃m',m' < m/\W (i+ 1) m' σ' H')/\∀x H',(R8 lo n).yld i H x H'->g x σ H' fun σ2 H2=>tb {D with nx:=N,ct:=N,bk:=D.nx} σ2 H2):=by
 refine⟨fun i m σ H=>m=n - i/\i <=n/\Pv i σ H,⟨n,by simp,YF _,h0⟩,?_⟩;rintro i m σ H ⟨rfl,hi,p⟩
 by_cases hlt:i < n
 .refine .inr ⟨hlt,Pv (i+ 1),fun σ' H' a=>⟨n - (i+ 1),by lia,rfl,hlt,a⟩,fun x H' y=>?_⟩;obtain⟨e,y⟩:=y;subst e y;exact hs i σ _ hlt p
 .have e:i=n:=by lia
  subst e;exact .inl ⟨Y6 _,hd σ H p⟩
abbrev R2:=V->V->Hp->VK->Prop
def JW(X:Cx)(f:Value->Value->Sem Value)(r:R2):Prop:=
 ∀ (pins:Wb) (s:We) (σ:St) (H:Hp) (x y:V) (v u:Wj) (Q:VK),Wv X pins σ H s->WJ x v->WJ y u->r x y H Q->
  wpAny (model X.prog X.w) X.A (f v u) (EP X pins σ Q) X.xe s
def Kj(X:Cx)(f:Value->Sem Value)(r:V->Hp->VK->Prop):Prop:=
 ∀ (pins:Wb) (s:We) (σ:St) (H:Hp) (x:V) (v:Wj) (Q:VK),Wv X pins σ H s->WJ x v->r x H Q->
  wpAny (model X.prog X.w) X.A (f v) (EP X pins σ Q) X.xe s
def WY(X:Cx)(f:Wj)(r:List V->Hp->VK->Prop):Prop:=
 ∀ (pins:Wb) (s:We) (σ:St) (H:Hp) (xs:List V) (us:Wm) (Q:VK),Wv X pins σ H s->WD xs us->r xs H Q->
  wpAny (model X.prog X.w) X.A (call f us) (EP X pins σ Q) X.xe s
def DM(r:R2)(ta tb:TE):TE:=fun σ H Q=>ta σ H fun x H1=>tb σ H1 fun y H2=>r x y H2 Q
def L8(r:V->Hp->VK->Prop)(ta:TE):TE:=fun σ H Q=>ta σ H fun x H1=>r x H1 Q
def rI(C:Int->Int->Prop)(g:Int->Int->V):R2:=fun x y H Q=>∃i j,x= .int i/\y= .int j/\C i j/\Q (g i j) H
def GK(g:Int->Int->V):R2:=fun x y H Q=>∃i j,x= .int i/\y= .int j/\Q (g i j) H
def rU(g:Int->V):V->Hp->VK->Prop:=fun x H Q=>∃i,x= .int i/\Q (g i) H
section
variable{X:Cx}{a b c:Wo}{ta tb tc:TE}{pos:Pos}
theorem Lh(ha:PE X a ta)(hb:PE X b tb){pins:Wb}{s:We}{σ:St}{H:Hp}{R:V->V->Hp->Prop}(I:Wv X pins σ H s)
  (h:ta σ H fun x H1=>tb σ H1 fun y H2=>R x y H2) {Q:W9} {f:Value->Value->Sem Value}
  (hf:∀v u s2 x y H2,Wv X pins σ H2 s2->WJ x v->WJ y u->R x y H2->wpAny (model X.prog X.w) X.A (f v u) Q X.xe s2):
  wpAny (model X.prog X.w) X.A (eval a X.env) (fun v s₁=>wpAny (model X.prog X.w) X.A (eval b X.env) (fun u s₂=>wpAny (model X.prog X.w) X.A (f v u) Q X.xe s₂) X.xe s₁) X.xe s:=by
 refine WW (ha pins s σ H _ I h) fun v c ⟨x,H1,p,e,j⟩=>?_
 refine WW (hb pins c σ H1 _ p j) fun u s2 ⟨y,H2,n,d,i⟩=>?_
 exact hf v u s2 x y H2 n e d i
theorem J9{op:Operator}{r:R2}(ho:JW X (binaryOp op) r)(ha:PE X a ta)(hb:PE X b tb):PE X (.BinOp a op b pos) (DM r ta tb):=by
 intro pins s σ H Q I h;exact wpAny_BinOp (Lh ha hb I h fun v u c x y H2 f e d q=>ho pins c σ H2 x y v u Q f e d q)
theorem Pj{op:UnaryOp}{r:V->Hp->VK->Prop}(ho:Kj X (unaryOp op) r)(ha:PE X a ta):PE X (.UnaryOp op a pos) (L8 r ta):=by
 intro pins s σ H Q I h;exact UnaryOp_ (WW (ha pins s σ H _ I h) fun v b ⟨x,H1,e,c,d⟩=>ho pins b σ H1 x v Q e c d)
theorem BH{f:Value->Value->Sem Value}{C:Int->Int->Prop}{g:Int->Int->Int}
  (rule:∀ (i j:Int) (t u:Tok) (s:We) (Q:W9) (E:W9),C i j->Q (.int (g i j) s.toks) {s with toks:=s.toks+ 1}->wpAny (model X.prog X.w) X.A (f (.int i t) (.int j u)) Q E s):
  JW X f (rI C fun i j=>.int (g i j)):=by
 intro pins s σ H x y v u Q I c b h;obtain⟨i,j,rfl,rfl,d,q⟩:=h;obtain⟨t,rfl⟩:=c;obtain⟨a,rfl⟩:=b;exact rule i j t a s _ _ d ⟨.int (g i j),H,I.tok _,⟨_,rfl⟩,q⟩
theorem Sh{f:Value->Value->Sem Value}{g:Int->Int->Int}
  (rule:∀ (i j:Int) (t u:Tok) (s:We) (Q:W9) (E:W9),Q (.int (g i j) s.toks) {s with toks:=s.toks+ 1}->wpAny (model X.prog X.w) X.A (f (.int i t) (.int j u)) Q E s):
  JW X f (GK fun i j=>.int (g i j)):=by
 intro pins s σ H x y v u Q I c b h;obtain⟨i,j,rfl,rfl,q⟩:=h;obtain⟨t,rfl⟩:=c;obtain⟨a,rfl⟩:=b;exact rule i j t a s _ _ ⟨.int (g i j),H,I.tok _,⟨_,rfl⟩,q⟩
theorem Cg{f:Value->Value->Sem Value}{g:Int->Int->Bool}
  (rule:∀ (i j:Int) (t u:Tok) (s:We) (Q:W9) (E:W9),Q (.bool (g i j)) s->wpAny (model X.prog X.w) X.A (f (.int i t) (.int j u)) Q E s):
  JW X f (GK fun i j=>.bl (g i j)):=by
 intro pins s σ H x y v u Q I c b h;obtain⟨i,j,rfl,rfl,q⟩:=h;obtain⟨t,rfl⟩:=c;obtain⟨a,rfl⟩:=b;exact rule i j t a s _ _ ⟨.bl (g i j),H,I,rfl,q⟩
def yU(i j:Int):Prop:=0 < j/\j < 1073741824
def vE(i j:Int):Prop:=0 <=j/\j <=1000000/\i.natAbs < 2 ^ 64
def GL(i j:Int):Prop:=(-(2 ^ 64) < i/\i < 2 ^ 64)\/(-(2 ^ 64) < j/\j < 2 ^ 64)
theorem GL.ok{i j:Int}(h:GL i j):IntMulOk i j:=by
 rcases h with⟨h1,h2⟩|⟨h1,h2⟩
 .exact .of_left (intBits_le_64 h1 h2)
 .exact .of_right (intBits_le_64 h1 h2)
theorem NW:JW X (binaryOp .Add) (GK fun i j=>.int (i+ j)):=Sh fun _ _ _ _ _ _ _ q=>add_int q
theorem Pp:JW X (binaryOp .Sub) (GK fun i j=>.int (i - j)):=Sh fun _ _ _ _ _ _ _ q=>sub_int q
theorem Rw:JW X (binaryOp .Mult) (rI GL fun i j=>.int (i*j)):=BH fun _ _ _ _ _ _ _ a q=>mul_int q a.ok
theorem B9:JW X (binaryOp .FloorDiv) (rI yU fun i j=>.int (i / j)):=BH fun i j _ _ _ _ _ a q=>by
 have h1:(0:Int) < j:=a.1;have h2:j < 1073741824:=a.2;exact floordiv_int (by lia) (by rw[Vr i (by lia)];exact q) (.inl (PyProof.noPylong_small (by lia)))
theorem Th:JW X (binaryOp .Mod) (rI (fun _ j=>0 < j) fun i j=>.int (i%j)):=BH fun i j _ _ _ _ _ a q=>by
 have h1:(0:Int) < j:=a;exact mod_int' (by lia) (by rw[Int.fmod_eq_emod_of_nonneg i (by lia)];exact q)
theorem OC:JW X (binaryOp .Pow) (rI vE fun i j=>.int (i ^ j.toNat)):=BH fun _ _ _ _ _ _ _ a q=>pow_int_small a.1 a.2.1 a.2.2 q
theorem wW{f:Value->Sem Value}{g:Int->Int}
  (rule:∀ (i:Int) (t:Tok) (s:We) (Q:W9) (E:W9),Q (.int (g i) s.toks) {s with toks:=s.toks+ 1}->wpAny (model X.prog X.w) X.A (f (.int i t)) Q E s):
  Kj X f (rU fun i=>.int (g i)):=by
 intro pins s σ H x v Q I a h;obtain⟨i,rfl,q⟩:=h;obtain⟨t,rfl⟩:=a;exact rule i t s _ _ ⟨.int (g i),H,I.tok _,⟨_,rfl⟩,q⟩
theorem QG:Kj X (unaryOp .USub) (rU fun i=>.int (-i)):=wW fun _ _ _ _ _ q=>neg_int q
end
def D6:V->V->Bool
 | .non,.non=>true| .non,.int _=>true| .int _,.non=>true| .non,.bl _=>true| .bl _,.non=>true| .non,.str _=>true| .str _,.non=>true
 | .int _,.int _=>true| .bl _,.bl _=>true| .str _,.str _=>true| .byt _,.byt _=>true
 | .int _,.str _=>true| .str _,.int _=>true| .bl _,.str _=>true| .str _,.bl _=>true
 |_,_=>false
def AW:R2:=fun x y H Q=>D6 x y=true/\Q (.bl (decide (x=y))) H
def Fd:R2:=fun x y H Q=>D6 x y=true/\Q (.bl (!decide (x=y))) H
theorem Qf{i j:Int}:decide (V.int i=V.int j)=(i==j):=by
 rw[Yw];simp
theorem Z1{i j:Bool}:decide (V.bl i=V.bl j)=(i==j):=by
 rw[Yw];simp
theorem P1{i j:Str}:decide (V.str i=V.str j)=(i==j):=by
 rw[Yw];simp
theorem QQ{i j:Array UInt8}:decide (V.byt i=V.byt j)=(i.toList==j.toList):=by
 rw[Yw];cases i;cases j;simp
section
variable{X:Cx}{a b c:Wo}{ta tb tc:TE}{pos:Pos}
theorem NY{pins:Wb}{σ:St}{H:Hp}{s:We}{Q:VK}{k k':Bool}(I:Wv X pins σ H s)(q:Q (.bl k) H)(e:k=k'):EP X pins σ Q (.bool k') s:=by
 subst e;exact⟨.bl k,H,I,rfl,q⟩
theorem TH:JW X (compareOp .Eq) AW:=by
 intro pins s σ H x y v u Q I d a h;obtain⟨c,q⟩:=h;cases x with
 |non=>
  cases d;cases y with
  |non=>cases a;exact PySem.EqNone.eq_none_none (NY I q (by simp))
  |bl j=>cases a;exact PySem.EqNone.eq_none_bool (NY I q (by simp))
  |int j=>obtain⟨b,rfl⟩:=a;exact PySem.EqNone.eq_none_int (NY I q (by simp))
  |str j=>obtain⟨b,rfl⟩:=a;exact PySem.EqNone.eq_none_str (NY I q (by simp))
  |_=>exact absurd (show false=true from c) Yi
 |bl i=>
  cases d;cases y with
  |non=>cases a;exact PySem.EqNone.eq_bool_none (NY I q (by simp))
  |bl j=>cases a;exact eq_bool (NY I q Z1)
  |str j=>obtain⟨b,rfl⟩:=a;exact PySem.EqMixed.eq_bool_str (NY I q (by simp))
  |_=>exact absurd (show false=true from c) Yi
 |int i=>
  obtain⟨t,rfl⟩:=d;cases y with
  |non=>cases a;exact PySem.EqNone.eq_int_none (NY I q (by simp))
  |int j=>obtain⟨b,rfl⟩:=a;exact eq_int (NY I q Qf)
  |str j=>obtain⟨b,rfl⟩:=a;exact PySem.EqMixed.eq_int_str (NY I q (by simp))
  |_=>exact absurd (show false=true from c) Yi
 |str i=>
  obtain⟨t,rfl⟩:=d;cases y with
  |non=>cases a;exact PySem.EqNone.eq_str_none (NY I q (by simp))
  |bl j=>cases a;exact PySem.EqMixed.eq_str_bool (NY I q (by simp))
  |int j=>obtain⟨b,rfl⟩:=a;exact PySem.EqMixed.eq_str_int (NY I q (by simp))
  |str j=>obtain⟨b,rfl⟩:=a;exact eq_str (NY I q P1)
  |_=>exact absurd (show false=true from c) Yi
 |byt i=>
  obtain⟨t,rfl⟩:=d;cases y with
  |byt j=>obtain⟨b,rfl⟩:=a;exact W.eq_bytes (NY I q QQ)
  |_=>exact absurd (show false=true from c) Yi
 |_=>cases y <;> exact absurd (show false=true from c) Yi
theorem Rz:JW X (compareOp .NotEq) Fd:=by
 intro pins s σ H x y v u Q I d a h;obtain⟨c,q⟩:=h;cases x with
 |non=>
  cases d;cases y with
  |non=>cases a;exact PySem.EqNone.ne_none_none (NY I q (by simp))
  |bl j=>cases a;exact PySem.EqNone.ne_none_bool (NY I q (by simp))
  |int j=>obtain⟨b,rfl⟩:=a;exact PySem.EqNone.ne_none_int (NY I q (by simp))
  |str j=>obtain⟨b,rfl⟩:=a;exact PySem.EqNone.ne_none_str (NY I q (by simp))
  |_=>exact absurd (show false=true from c) Yi
 |bl i=>
  cases d;cases y with
  |non=>cases a;exact PySem.EqNone.ne_bool_none (NY I q (by simp))
  |bl j=>cases a;exact ne_bool (NY I q (YU not Z1))
  |str j=>obtain⟨b,rfl⟩:=a;exact PySem.EqMixed.ne_bool_str (NY I q (by simp))
  |_=>exact absurd (show false=true from c) Yi
 |int i=>
  obtain⟨t,rfl⟩:=d;cases y with
  |non=>cases a;exact PySem.EqNone.ne_int_none (NY I q (by simp))
  |int j=>obtain⟨b,rfl⟩:=a;exact ne_int (NY I q (YU not Qf))
  |str j=>obtain⟨b,rfl⟩:=a;exact PySem.EqMixed.ne_int_str (NY I q (by simp))
  |_=>exact absurd (show false=true from c) Yi
 |str i=>
  obtain⟨t,rfl⟩:=d;cases y with
  |non=>cases a;exact PySem.EqNone.ne_str_none (NY I q (by simp))
  |bl j=>cases a;exact PySem.EqMixed.ne_str_bool (NY I q (by simp))
  |int j=>obtain⟨b,rfl⟩:=a;exact PySem.EqMixed.ne_str_int (NY I q (by simp))
  |str j=>obtain⟨b,rfl⟩:=a;exact ne_str (NY I q (YU not P1))
  |_=>exact absurd (show false=true from c) Yi
 |byt i=>
  obtain⟨t,rfl⟩:=d;cases y with
  |byt j=>obtain⟨b,rfl⟩:=a;exact W.ne_bytes (NY I q (YU not QQ))
  |_=>exact absurd (show false=true from c) Yi
 |_=>cases y <;> exact absurd (show false=true from c) Yi
theorem Rp:JW X (compareOp .Lt) (GK fun i j=>.bl (decide (i < j))):=Cg fun _ _ _ _ _ _ _ q=>lt_int q
theorem GU:JW X (compareOp .LtE) (GK fun i j=>.bl (decide (i <=j))):=Cg fun _ _ _ _ _ _ _ q=>le_int q
theorem Gu:JW X (compareOp .Gt) (GK fun i j=>.bl (decide (j < i))):=Cg fun _ _ _ _ _ _ _ q=>gt_int q
theorem CN:JW X (compareOp .GtE) (GK fun i j=>.bl (decide (j <=i))):=Cg fun _ _ _ _ _ _ _ q=>ge_int q
theorem A2:JW X (compareOp .Is) (fun x y H Q=>y= .non/\Q (.bl (decide (x= .non))) H):=by
 intro pins s σ H x y v u Q I a b h;obtain⟨rfl,q⟩:=h;cases b;refine is_none_gen (NY I q ?_);cases x <;> first
  |(cases a;rfl)
  |(obtain⟨t,rfl⟩:=a;rfl)
theorem Bb:JW X (compareOp .IsNot) (fun x y H Q=>y= .non/\Q (.bl (!decide (x= .non))) H):=by
 intro pins s σ H x y v u Q I a b h;obtain⟨rfl,q⟩:=h;cases b;refine isnot_none_gen (NY I q ?_);cases x <;> first
  |(cases a;rfl)
  |(obtain⟨t,rfl⟩:=a;rfl)
theorem MI(b:Wo){op:CmpOp}(h:op≠ .In:=by decide)(h2:op≠ .NotIn:=by decide):behindInMarks op b=false:=by
 have c:(op==CmpOp.In)=false:=by cases op <;> first|rfl|exact absurd rfl h
 have a:(op==CmpOp.NotIn)=false:=by cases op <;> first|rfl|exact absurd rfl h2
 cases b <;> simp[behindInMarks,c,a]
theorem Mp{op:CmpOp}{r:R2}(ho:JW X (compareOp op) r)(ha:PE X a ta)(hb:PE X b tb)(hm:behindInMarks op b=false):PE X (.Compare a [op] [b] pos) (DM r ta tb):=by
 intro pins s σ H Q I h;exact wpAny_Compare1 (Lh ha hb I h fun v u c x y H2 f e d q=>ho pins c σ H2 x y v u Q f e d q) hm
def Ad(t:TE):TT:=fun σ H Q=>t σ H fun x H'=>∃k,x= .bl k/\Q k H'
theorem wD{op:CmpOp}{r:R2}(ho:JW X (compareOp op) r)(ha:PE X a ta)(hb:PE X b tb)(hm:behindInMarks op b=false):PT X (.Compare a [op] [b] pos) (Ad (DM r ta tb)):=by
 intro pins s σ H Q I h;refine wpAny_isTrue_Compare1 (WW (ha pins s σ H _ I h) fun v f ⟨x, H1, I1, n, w⟩ => WW (hb pins f σ H1 _ I1 w) fun u d ⟨y, H2, I2, j, q⟩ =>
  WW (ho pins d σ H2 x y v u _ I2 n j q) fun c s3 ⟨z, H3, I3, i, k, e, p⟩ => ?_) hm
 subst e;cases i;exact X4 ⟨H3,I3,p⟩
def Cq(r r':R2)(ta tb tc:TE):TE:=fun σ H Q=>ta σ H fun x H1=>tb σ H1 fun y H2=>r x y H2 fun z H3=>∃k,z= .bl k/\
 (if k=true then tc σ H3 fun w' H4=>r' y w' H4 Q else Q (.bl false) H3)
theorem Pi{op op':CmpOp}{r r':R2}(ho:JW X (compareOp op) r)(ho':JW X (compareOp op') r')(ha:PE X a ta)(hb:PE X b tb)(hc:PE X c tc)
  (hm:lastMarks [op,op'] [b,c]=false:=by with_unfolding_all rfl):PE X (.Compare a [op,op'] [b,c] pos) (Cq r r' ta tb tc):=by
 intro pins s σ H Q I h;refine Compare_chain (WW (ha pins s σ H _ I h) fun v s1 ⟨x, H1, I1, r1, q1⟩ => chain_link (WW (hb pins s1 σ H1 _ I1 q1) fun u s2 ⟨y, H2, I2, f, q2⟩ =>
  WW (ho pins s2 σ H2 x y v u _ I2 r1 f q2) fun d s3 ⟨z, n, j, r3, k, e, i⟩ => ?_)) hm
 subst e;cases r3;refine X4 ?_;cases k with
 |false=>exact ite_ff ⟨.bl false,n,j,rfl,i⟩
 |true=>exact ite_tt (chain_last (WW (hc pins s3 σ n _ j i) fun q w ⟨p,H4,I4,r4,q4⟩=>ho' pins w σ H4 y p u q Q I4 f r4 q4))
theorem QB{op op':CmpOp}{r r':R2}(ho:JW X (compareOp op) r)(ho':JW X (compareOp op') r')(ha:PE X a ta)(hb:PE X b tb)(hc:PE X c tc)
  (hm:lastMarks [op,op'] [b,c]=false:=by with_unfolding_all rfl):PT X (.Compare a [op,op'] [b,c] pos) (Ad (Cq r r' ta tb tc)):=by
 intro pins s σ H Q I h;refine isTrue_chain (WW (ha pins s σ H _ I h) fun v s1 ⟨x, H1, I1, r1, q1⟩ => test_link (WW (hb pins s1 σ H1 _ I1 q1) fun u s2 ⟨y, H2, I2, f, q2⟩ =>
  WW (ho pins s2 σ H2 x y v u _ I2 r1 f q2) fun d s3 ⟨z, n, j, r3, k, e, i⟩ => ?_)) hm
 subst e;cases r3;refine X4 ?_;cases k with
 |false=>
  obtain⟨k',e',q'⟩:=i;cases e';exact ite_ff ⟨n,j,q'⟩
 |true=>
  refine ite_tt (test_last (WW (hc pins s3 σ n _ j i) fun q w ⟨p,H4,I4,r4,q4⟩=>WW (ho' pins w σ H4 y p u q _ I4 f r4 q4) fun d' s5 ⟨z2,H5,I5,r5,k2,e2,q5⟩=>?_));subst e2;cases r5;exact X4 ⟨H5,I5,q5⟩
theorem Af:(sizeLine:Nat) < 2 ^ 63:=by rw[YV];decide
theorem Dw{x:V}{us:Wm}(r:WD [x] us):∃u,us=[u]/\WJ x u:=by
 cases r with
 |cons r1 r2=>cases r2;exact⟨_,rfl,r1⟩
theorem O1{x y:V}{us:Wm}(r:WD [x,y] us):∃u w',us=[u,w']/\WJ x u/\WJ y w':=by
 cases r with
 |cons r1 r2=>
  cases r2 with
  |cons r3 r4=>cases r4;exact⟨_,_,rfl,r1,r3⟩
theorem Fa(hc:X.calm=true):WY X (.builtin "max") (fun xs H Q=>∃i j,xs=[.int i,.int j]/\Q (.int (if j > i then j else i)) H):=by
 intro pins s σ H xs b Q I r h;obtain⟨i,j,rfl,q⟩:=h;obtain⟨u,a,rfl,⟨t,rfl⟩,⟨c,rfl⟩⟩:=O1 r;refine max_two_ints (I.ok.hd hc) fun h' tk k=>⟨_,H,I.kept k,?_,q⟩
 by_cases hj:j > i
 .rw[Y5 hj,Y5 hj];exact⟨_,rfl⟩
 .rw[Y2 hj,Y2 hj];exact⟨_,rfl⟩
theorem OP(hc:X.calm=true):WY X (.builtin "min") (fun xs H Q=>∃i j,xs=[.int i,.int j]/\Q (.int (if j < i then j else i)) H):=by
 intro pins s σ H xs b Q I r h;obtain⟨i,j,rfl,q⟩:=h;obtain⟨u,a,rfl,⟨t,rfl⟩,⟨c,rfl⟩⟩:=O1 r;refine min_two_ints (I.ok.hd hc) fun h' tk k=>⟨_,H,I.kept k,?_,q⟩
 by_cases hj:j < i
 .rw[Y5 hj,Y5 hj];exact⟨_,rfl⟩
 .rw[Y2 hj,Y2 hj];exact⟨_,rfl⟩
end
structure DJ(h:Wn)(x dx C:Wk)(mA:W8):Prop where
 obj:h.get? x=some (W.instObj C dx)
 ns:h.Ns1 dx mA
 ne:dx≠x
theorem ZK{h:Wn}{dx:Wk}{mA:W8}(n:h.Ns1 dx mA):∃od,h.get? dx=some od/\∀name,W.lookIn name od=some (mA name):=by
 obtain⟨o,es,ep,d,j,i,_,f⟩:=n;refine⟨o,d,fun name=>?_⟩;have e:=f name;unfold nsFind findBy at e;rw[<-Array.find?_toList]at e;unfold W.lookIn;rw[j];dsimp only
 split
 .rename_i y q
  rw[q]at e;exact YU some e
 .rename_i q
  rw[q]at e;have a:es.toList.any (·.refKey)=false:=by
   rw[List.any_eq_false];intro y c;obtain⟨z,t,b⟩:=i y (Array.mem_toList_iff.mp c);simp[DictEntry.refKey,b]
  have p:¬es.toList.any (·.refKey)=true:=by rw[a];exact Yi
  rw[Y2 p];exact YU some e
theorem DJ.look{h:Wn}{x dx C:Wk}{mA:W8}(I:DJ h x dx C mA):∃od,W.InstAt h x (W.instObj C dx) C (some od)/\∀name,W.lookIn name od=some (mA name):=
 let ⟨od,ho,hl⟩:=ZK I.ns
 ⟨od,⟨I.obj,rfl,rfl,ho⟩,hl⟩
section
variable{prog:Wc}{w:Wh}{A:Wg}{E:W9}{s:We}{K:Wi}{x dx C f:Wk}{mA:W8}{name:Str}{v:Wj}
theorem eM{expr:Bool}{Q:W9}(X:K.In s.heap)(I:DJ s.heap x dx C mA)(hg:W.plainGet K C name=true)(hh:W.hasDictIn K C=true)
  (ha:W.findIn K (.ref C) name=some none) (hv:mA name=some v) (hv':W.handedIn v=true) (h:Q v {s with toks:=s.toks+ 1}):
  wpAny (model prog w) A (getAttr (.ref x) name expr) Q E s:=by
 obtain⟨b,J,a⟩:=I.look;exact W.get_value X J (W.plainGet_of hg).1 (W.findObj_own hh ha rfl (by rw[a,hv])) hv' h
theorem vP{pl:Sem Bool}{Q:Value×List Value->Shared->Prop}(X:K.In s.heap)(I:DJ s.heap x dx C mA)(hg:W.plainGet K C name=true)
  (hf:W.findIn K (.ref C) name=some (some (.ref f))) (ht:W.isFn K (.ref f)=true) (hv:mA name=none) (h:Q (.ref f,[.ref x]) s):
  wpAny (model prog w) A (getMethod (.ref x) name pl) Q E s:=by
 obtain⟨a,J,b⟩:=I.look;exact W.method_fn X J (W.plainGet_of hg).1 (W.plainGet_of hg).2 hf (UL.mp ht) (by show(W.lookIn name a).map (·.isSome)=some false;rw[b,hv];rfl) h
theorem eS{ns:List Str}{Q:Wa}(X:K.In s.heap)(I:DJ s.heap x dx C mA)
  (hs:W.findIn K (.ref C) "__setattr__"=some (some (.builtin "object.__setattr__"))) (hp:W.plainOver K C=true) (ht:W.takerIn K C name=some none) (hh:W.hasDictIn K C=true)
  (hw:PySem.Within mA ns) (hsz:ns.length <=sizeLine)
  (h:∀h',DJ h' x dx C (fun y=>if y=name then some v else mA y)->Heap.SameBut dx s.heap h'->Q () {s with heap:=h',toks:=s.toks+ 2}):
  wpAny (model prog w) A (setAttr (.ref x) name v) Q E s:=by
 obtain⟨z,J,hl⟩:=I.look;refine W.set_plain X J hs (W.osa_open (s:={s with toks:=s.toks+ 1}) (r:=none) X J hp ht fun b=>?_);obtain⟨cd,p,i⟩:=W.any_some hh;have n:s.heap.get? x=some ⟨.ref C,some dx,.plain,#[]⟩:=I.obj;refine Y0 (Y4 (Y0 (Y0 (wpAny_loadPart n (Y0 (W.Looks.here (s:={s with toks:=s.toks+ 1}) (W.looks_clsIn X p) ?_))))));rw[i];refine Y4 (a:=some dx) (Y0 (Y4 (Y0 ?_)));refine wpAny_nsSet1 (s:={s with toks:=s.toks+ 1}) I.ns fun h' d c=>?_
 obtain⟨oD,q,u,e,f,j⟩:=d.count (PySem.Within.cons name v hw);refine Y0 (wpAny_lookBehind e (by rw[f];exact pastItsLine_dict (YD j (by rw[List.length_cons];lia))) ?_);exact Y4 (h _ ⟨(c.2 _ (Ne.symm I.ne)).trans I.obj,d,I.ne⟩ c)
theorem Os{R:Result->Shared->Prop}{vs:Wm}{kw:List (Str×Value)}(X:K.In s.heap)(hm:W.makesIn K C=true)
  (hi:W.findIn K (.ref C) "__init__"=some (some (.ref f))) (hf:W.typeIn K (.ref f)=some (.type "function"))
  (h : codeAny (model prog w) (A.under (.builtin "type.__call__" ⟨.ref C :: vs, kw⟩)) (.call (.ref f) ⟨.ref (s.heap.objs.size + 1) :: vs, kw⟩) (W.InitBack (s.heap.objs.size + 1) R)
   { s with heap := (s.heap.push W.emptyDict).push (W.instObj C s.heap.objs.size) }) :
  codeAny (model prog w) A (.call (.ref C) ⟨vs,kw⟩) R s:=by
 obtain⟨c,g,d,t,b⟩:=s;exact W.make_core (W.makes_of X hm) (W.looks_findIn X hi) (fun a=>W.bind_fn X a hf) (.inl rfl) h
end
def Ni(f:Str)(v:V):List (Str×V)->List (Str×V)
 |[]=>[(f,v)]
 |(g,x)::r=>if g=f then(g,v)::r else(g,x)::Ni f v r
theorem Fo(f g:Str)(v:V):∀fs:List (Str×V),(Ni f v fs).lookup g=if g=f then some v else fs.lookup g
 |[]=>by
  show List.lookup g [(f,v)]=_
  by_cases h:g=f
  .have hb:(g==f)=true:=UL.mpr h;simp only[List.lookup,hb,Y5 h]
  .have hb:(g==f)=false:=Xg.mpr h;simp only[List.lookup,hb,Y2 h]
 |(k,x)::r=>by
  have a:=Fo f g v r;rw[show Ni f v ((k,x)::r)=(if k=f then(k,v)::r else(k,x)::Ni f v r) from rfl]
  by_cases hk:k=f
  .rw[Y5 hk]
   by_cases h:g=k
   .have hb:(g==k)=true:=UL.mpr h;simp only[List.lookup,hb,Y5 (h.trans hk)]
   .have hb:(g==k)=false:=Xg.mpr h;simp only[List.lookup,hb,Y2 (fun e:g=f=>h (e.trans hk.symm))]
  .rw[Y2 hk]
   by_cases h:g=k
   .have hb:(g==k)=true:=UL.mpr h;simp only[List.lookup,hb,Y2 (fun e:g=f=>hk (h.symm.trans e))]
   .have hb:(g==k)=false:=Xg.mpr h;simp only[List.lookup,hb];exact a
theorem KH(f:Str)(v:V):∀fs:List (Str×V),f∈(Ni f v fs).map (·.1)/\∀g,g∈fs.map (·.1)->g∈(Ni f v fs).map (·.1)
 |[]=>⟨by simp[Ni],fun g h=>by simp at h⟩
 |(k,x)::r=>by
  obtain⟨i1,i2⟩:=KH f v r;rw[show Ni f v ((k,x)::r)=(if k=f then(k,v)::r else(k,x)::Ni f v r) from rfl]
  by_cases hk:k=f
  .rw[Y5 hk];subst hk;exact⟨by simp,fun g h=>by simpa using h⟩
  .rw[Y2 hk];refine⟨?_,fun g h=>?_⟩
   .rw[List.map_cons];exact Yk _ i1
   .rw[List.map_cons]at h ⊢;rcases Yl.mp h with e|e
    .exact Yl.mpr (.inl e)
    .exact Yk _ (i2 g e)
theorem KC(f:Str)(v:V):∀fs:List (Str×V),(Ni f v fs).length <=fs.length+ 1
 |[]=>by simp[Ni]
 |(k,x)::r=>by
  have ih:=KC f v r;rw[show Ni f v ((k,x)::r)=(if k=f then(k,v)::r else(k,x)::Ni f v r) from rfl]
  by_cases hk:k=f
  .rw[Y5 hk,List.length_cons,List.length_cons];lia
  .rw[Y2 hk,List.length_cons,List.length_cons];lia
theorem Td.some_of{v:V}{o:Option Value}(r:Td (some v) o):∃u,o=some u/\WJ v u:=by
 cases o with
 |none=>exact(show False from r).elim
 |some u=>exact⟨u,rfl,r⟩
theorem Td.none_of{o:Option Value}(r:Td none o):o=none:=by
 cases o with
 |none=>rfl
 |some u=>exact(show False from r).elim
theorem yL{v:V}{u:Wj}(r:WJ v u):W.handedIn u=true:=by
 cases v with
 |non=>cases (show u=Value.none from r);rfl
 |bl b=>cases (show u=Value.bool b from r);rfl
 |int i=>obtain⟨t,e⟩:=(show ∃t,u=Value.int i t from r);cases e;rfl
 |str x=>obtain⟨t,e⟩:=(show ∃t,u=Value.str x t from r);cases e;rfl
 |byt b=>obtain⟨t,e⟩:=(show ∃t,u=Value.bytes b t from r);cases e;rfl
 |flt b=>obtain⟨t,e⟩:=(show ∃t,u=Value.float b t from r);cases e;rfl
 |ref a=>cases (show u=Value.ref a from r);rfl
 |ty n=>cases (show u=Value.type n from r);rfl
section
variable{P:Wc}{w:Wh}{H H':Hp}{h h':Wn}{a C dx:Wk}{fs fs':List (Str×V)}
theorem AC(hok:Tt P w H h)(e:H a=some (.ins C dx fs)):∃mA,DJ h a dx C mA/\(∀f,Td (fs.lookup f) (mA f))/\PySem.Within mA (fs.map (·.1))/\fs.length <=1000/\H dx=some (.own a):=by
 obtain⟨d,z,ne,b,mA,n,r,q⟩:=(show WR P w H h a (.ins C dx fs) from hok a _ e);exact⟨mA,⟨b,n,ne⟩,r,q,z,d⟩
end
structure MN(K:Wi)(C:Wk):Prop where
 pg:W.plainGet K C Str.empty=true
 hd:W.hasDictIn K C=true
 po:W.plainOver K C=true
 sa:W.findIn K (.ref C) "__setattr__"=some (some (.builtin "object.__setattr__"))
theorem MN.get{K:Wi}{C:Wk}(c:MN K C)(f:Str):W.plainGet K C f=true:=c.pg
def WI(K:Wi)(C:Wk)(f:Str):Prop:=W.findIn K (.ref C) f=some none
theorem WI.taker{K:Wi}{C:Wk}{f:Str}(n:WI K C f):W.takerIn K C f=some none:=by
 unfold W.takerIn;rw[show W.findIn K (.ref C) f=some none from n];rfl
structure SF(K:Wi)(C:Wk)(m:Str)(f:Wk):Prop where
 at_:W.findIn K (.ref C) m=some (some (.ref f))
 fn:W.isFn K (.ref f)=true
 kp:W.keepIn K (.ref f)=true
section
variable{X:Cx}{pins:Wb}{σ:St}{H:Hp}{s:We}{a C dx:Wk}{fs:List (Str×V)}{f:Str}{v:V}{A:Wg}{E:W9}
theorem Zm{b:Bool}{Q:W9}(I:Wv X pins σ H s)(e:H a=some (.ins C dx fs))(c:MN X.K C)(n:WI X.K C f)(l:fs.lookup f=some v)
  (h:∀u s',Wv X pins σ H s'->WJ v u->Q u s'):wpAny (model X.prog X.w) A (getAttr (.ref a) f b) Q E s:=by
 obtain⟨mA,O,r,_,_,_⟩:=AC I.hok e;obtain⟨u,d,ru⟩:=Td.some_of (v:=v) (o:=mA f) (by rw[<-l];exact r f);exact eM I.kIn O (c.get f) c.hd n d (yL ru) (h u _ (I.tok _) ru)
theorem Zd{m:Str}{g:Wk}{pl:Sem Bool}{Q:Value×List Value->Shared->Prop}(I:Wv X pins σ H s)(e:H a=some (.ins C dx fs))(c:MN X.K C)(k:SF X.K C m g)(l:fs.lookup m=none)
  (h:Q (.ref g,[.ref a]) s):wpAny (model X.prog X.w) A (getMethod (.ref a) m pl) Q E s:=by
 obtain⟨mA,O,r,_,_,_⟩:=AC I.hok e;have b:mA m=none:=Td.none_of (by rw[<-l];exact r m);exact vP I.kIn O (c.get m) k.at_ k.fn b h
theorem On{y:V}{u:Wj}{Q:Wa}(I:Wv X pins σ H s)(e:H a=some (.ins C dx fs))(c:MN X.K C)(n:WI X.K C f)(hl:fs.length < 1000)(ry:WJ y u)
  (h:∀s',Wv X pins σ (upd H a (.ins C dx (Ni f y fs))) s'->Q () s'):wpAny (model X.prog X.w) A (setAttr (.ref a) f u) Q E s:=by
 obtain⟨mA,O,r,wi,_,i⟩:=AC I.hok e;have p:(fs.map (·.1)).length <=sizeLine:=by rw[Y1,YV];lia
 refine eS I.kIn O c.sa c.po n.taker c.hd wi p fun h' d j=>h _ ?_
 have hd:∃o,h'.get? dx=some o:=let ⟨o,_,_,e',_⟩:=d.ns;⟨o,e'⟩;refine I.write (x:=a) (e:=dx) (by rw[e];exact True.intro) (.inr i) (fun b q hb z=>(j.2 b hb).trans z) hd ?_;refine⟨by rw[WT O.ne];exact i,?_,O.ne,d.obj,_,d.ns,fun g=>?_,fun g v=>?_⟩
 .have:=KC f y fs;lia
 .show Td ((Ni f y fs).lookup g) (if g=f then some u else mA g);rw[Fo]
  by_cases q:g=f
  .rw[Y5 q,Y5 q];exact ry
  .rw[Y2 q,Y2 q];exact r g
 .by_cases q:g=f
  .rw[q];exact(KH f y fs).1
  .refine(KH f y fs).2 g (wi g fun z=>v ?_);show(if g=f then some u else mA g)=none;rw[Y2 q];exact z
theorem Wv.made(I:Wv X pins σ H s):Wv X pins σ (upd (upd H s.heap.objs.size (.own (s.heap.objs.size+ 1))) (s.heap.objs.size+ 1) (.ins C s.heap.objs.size []))
  {s with heap:=(s.heap.push W.emptyDict).push (W.instObj C s.heap.objs.size)}:=by
 have c:(s.heap.push W.emptyDict).get? s.heap.objs.size=some W.emptyDict:=Yc s.heap rfl;have i:((s.heap.push W.emptyDict).push (W.instObj C s.heap.objs.size)).get? (s.heap.objs.size+ 1)=some (W.instObj C s.heap.objs.size):=by
  have:=Yc (s.heap.push W.emptyDict) (o:=W.instObj C s.heap.objs.size) rfl;rwa [Xi]at this
 have h:(s.heap.push W.emptyDict).Ns s.heap.objs.size (fun _=>none):=⟨W.emptyDict,#[],_,c,rfl,(fun e f=>absurd f (by simp)),fun _=>rfl⟩;have j:=I.laid (a:=s.heap.objs.size) (o:=.own (s.heap.objs.size+ 1)) (h':=s.heap.push W.emptyDict) (t':=s.toks) (fun b u q=>Y8 _ q) (Y6 _) ⟨_,c⟩;refine j.laid (a:=s.heap.objs.size+ 1) (o:=.ins C s.heap.objs.size []) (t':=s.toks) (fun b u q=>Y8 _ q) (W4 (Xi _ _)) ?_;have ne:s.heap.objs.size≠s.heap.objs.size+ 1:=Yj (XZ _);refine⟨by rw[WT ne,Jp],YF _,ne,i,fun _=>none,(Heap.Ns1.of_empty h).at fun o q=>Y8 _ q,fun _=>True.intro,fun y d=>absurd rfl d⟩
theorem SC{prog:Wc}{w:Wh}{env:Env}{e:Wo}{f:Str}{pos:Pos}{s:We}{Q:W9}(hb:attributeBase e f env (eval e env)=eval e env)
  (h:wpAny (model prog w) A (eval e env) (fun o s₁=>wpAny (model prog w) A (getAttr o f true) Q E s₁) E s):wpAny (model prog w) A (eval (.Attribute e f pos) env) Q E s:=
 Attribute_any_ h (by rw[arm_eval_Attribute,hb])
end
def C5(K:Wi)(ta:TE)(f:Str):TE:=fun σ H Q=>ta σ H fun x H1=>∃a C dx fs v,x= .ref a/\H1 a=some (.ins C dx fs)/\MN K C/\WI K C f/\fs.lookup f=some v/\Q v H1
def CK(K:Wi)(ta tv:TE)(f:Str):TS:=fun D σ H=>tv σ H fun y H1=>ta σ H1 fun x H2=>∃a C dx fs,x= .ref a/\H2 a=some (.ins C dx fs)/\MN K C/\WI K C f/\fs.length < 1000/\
 D.nx σ (upd H2 a (.ins C dx (Ni f y fs)))
section
variable{X:Cx}{o e value:Wo}{f:Str}{pos pos' tpos:Pos}{ta tv:TE}
theorem jJ(he:PE X e ta)(hb:attributeBase e f X.env (eval e X.env)=eval e X.env):PE X (.Attribute e f pos) (C5 X.K ta f):=by
 intro pins s σ H Q I h;refine SC hb (WW (he pins s σ H _ I h) fun u w ⟨x,H1,j,b,a,C,dx,fs,v,ex,d,c,n,l,q⟩=>?_);subst ex;obtain rfl:u=Value.ref a:=b;exact Zm j d c n l fun p r i ru=>⟨v,H1,i,ru,q⟩
theorem gY(ha:PE X o ta)(hv:PE X value tv)(hs:swapsWith value (some (.Attribute o f pos')) pos.line X.env=pure false):PS X (.Assign [.Attribute o f pos'] value pos) (CK X.K ta tv f):=by
 intro pins s σ H D I h;refine V6 (WW (hv pins s σ H _ I h) fun u b ⟨y,H1,v,d,q⟩=>WW (ha pins b σ H1 _ v q) fun ov z ⟨x,H2,r,e,a,C,dx,fs,ex,j,c,n,l,i⟩=>?_) hs;subst ex;obtain rfl:ov=Value.ref a:=e;exact On r j c n l d fun w p=>⟨σ,_,p,i⟩
end
section
variable{X:Cx}{pins:Wb}{σ:St}{H:Hp}{s:We}{A:Wg}{E:W9}{Q:W9}{c:Wj}{b:Bool}
inductive DO(K:Wi)(H:Hp):V->Value->Prop where
 |non:DO K H .non (.type "NoneType")
 |bl (x:Bool):DO K H (.bl x) (.type "bool")
 |int (i:Int):DO K H (.int i) (.type "int")
 |str (x:Str):DO K H (.str x) (.type "str")
 |flt (x:UInt64):DO K H (.flt x) (.type "float")
 |lst {a:Wk} {xs:List V} (e:H a=some (.lst xs)):DO K H (.ref a) (.type "list")
 |frz {a:Wk} {o:Obj} {xs:List V} (e:H a=some (.frz o (.lst xs))):DO K H (.ref a) (.type "list")
 |tup {a:Wk} {xs:List V} (e:H a=some (.tup xs)):DO K H (.ref a) (.type "tuple")
 |dK {a:Wk} {kvs:List (WO×V)} (e:H a=some (.dK kvs)):DO K H (.ref a) (.type "dict")
 |dT {a:Wk} {kvs:List (List WO×V)} (e:H a=some (.dT kvs)):DO K H (.ref a) (.type "dict")
 |ins {a C dx:Wk} {fs:List (Str×V)} (e:H a=some (.ins C dx fs)) (cl:MN K C) (ha:W.findIn K (.ref C) "__class__"=some (some (.builtin "object.__class__")))
   (hn:W.specialIn K (.builtin "object.__class__") "__get__"=some (some (.builtin "getset_descriptor.__get__"))) (htk:W.takesIn K (.builtin "object.__class__")=some true)
   (hm:W.mroIn K C (.type "object")=some true):DO K H (.ref a) (.ref C)
theorem ZL{x:V}{u t:Wj}(I:Wv X pins σ H s)(rx:WJ x u)(ty:DO X.K H x t)(e:W.kitOne X.K t c=some b)(h:∀tk,Q (.bool b) {s with toks:=tk}):
  wpAny (model X.prog X.w) A (call (.builtin "isinstance") [u,c]) Q E s:=by
 cases ty with
 |non=>cases (show u=Value.none from rx);exact XY W.kitx_none I.kIn True.intro e (fun z=>nomatch z) h
 |bl y=>cases (show u=Value.bool y from rx);exact XY W.kitx_bool I.kIn True.intro e (fun z=>nomatch z) h
 |int i=>obtain⟨t,q⟩:=(show ∃t,u=Value.int i t from rx);cases q;exact XY W.kitx_int I.kIn True.intro e (fun z=>nomatch z) h
 |str y=>obtain⟨t,q⟩:=(show ∃t,u=Value.str y t from rx);cases q;exact XY W.kitx_str I.kIn True.intro e (fun z=>nomatch z) h
 |flt y=>obtain⟨t,q⟩:=(show ∃t,u=Value.float y t from rx);cases q;exact XY W.kitx_float I.kIn True.intro e (fun z=>nomatch z) h
 |@lst a xs ea=>
  cases (show u=Value.ref a from rx);obtain⟨_,_,n,_,h1⟩:=(show WR X.prog X.w H s.heap a (.lst xs) from I.hok a _ ea);exact XY W.kitx_list I.kIn ⟨_,h1,rfl⟩ e (fun z=>nomatch z) h
 |@frz a ob xs ea=>
  cases (show u=Value.ref a from rx);obtain⟨_,_,_,n,_,h1⟩:=(show WR X.prog X.w H s.heap a (.frz ob (.lst xs)) from I.hok a _ ea);exact XY W.kitx_list I.kIn ⟨_,h1,rfl⟩ e (fun z=>nomatch z) h
 |@tup a xs ea=>
  cases (show u=Value.ref a from rx);obtain⟨_,_,_,p⟩:=(show WR X.prog X.w H s.heap a (.tup xs) from I.hok a _ ea);obtain⟨o,h1,h2,_⟩:=p;exact XY W.kitx_tuple I.kIn ⟨o,h1,h2⟩ e (fun z=>nomatch z) h
 |@dK a kvs ea=>
  cases (show u=Value.ref a from rx);obtain⟨_,_,vs,_,p⟩:=(show WR X.prog X.w H s.heap a (.dK kvs) from I.hok a _ ea);obtain⟨o,es,ep,h1,h2,_⟩:=p;exact XY W.kitx_dict I.kIn ⟨o,h1,h2.1⟩ e (fun z=>nomatch z) h
 |@dT a kvs ea=>
  cases (show u=Value.ref a from rx);obtain⟨_,_,xs,_,o,es,ep,h1,h2,_⟩:=(show WR X.prog X.w H s.heap a (.dT kvs) from I.hok a _ ea);exact XY W.kitx_dict I.kIn ⟨o,h1,h2.1⟩ e (fun z=>nomatch z) h
 |@ins a C dx fs ea cl ha hn htk hm=>
  cases (show u=Value.ref a from rx);obtain⟨mA,O,_⟩:=AC I.hok ea;obtain⟨d,J,_⟩:=O.look;exact XY (W.kitx_own (cl.get _) cl.hd ha hn htk hm) I.kIn J e (fun z=>nomatch z) h
end
structure Room(k:Nat)(A:Wg):Prop where
 hd:A.handled=none
 dp:A.depth+ 3*k+ 5 < recursionLimit
 un:A.units+ 16*k+ 200 < cLine
theorem Room.mono{j k:Nat}{A:Wg}(r:Room k A)(h:j <=k):Room j A:=⟨r.hd,by have:=r.dp;lia,by have:=r.un;lia⟩
theorem Room.deeper{k:Nat}{A:Wg}(r:Room (k+ 1) A)(env:Env):Room k (A.deeper env):=
 ⟨r.hd,by have:=r.dp;show A.depth+ 1+ 3*k+ 5 < _;lia,by have:=r.un;show A.units+ 3+ 16*k+ 200 < _;lia⟩
theorem xH{A:Wg}{C:Wk}{us:Wm}{kw:List (Str×Value)}:(A.under (.builtin "type.__call__" ⟨.ref C::us,kw⟩)).depth=A.depth+ 1:=by
 first|rfl|simp[Around.under,Code.weight,Code.isCreation,Code.isGuard,Code.isCaller,Code.frames,Code.isFrame,guardIds]
theorem d8{A:Wg}{C:Wk}{us:Wm}{kw:List (Str×Value)}:(A.under (.builtin "type.__call__" ⟨.ref C::us,kw⟩)).units=A.units+ 1:=by
 first|rfl|simp[Around.under,Code.cUnits,Code.frames,Code.isFrame]
theorem Room.make{k:Nat}{A:Wg}(r:Room (k+ 1) A)(C:Wk)(us:Wm)(kw:List (Str×Value)):Room k (A.under (.builtin "type.__call__" ⟨.ref C::us,kw⟩)):=
 ⟨r.hd,by have:=r.dp;rw[xH];lia,by have:=r.un;rw[d8];lia⟩
theorem Room.depth{k:Nat}{A:Wg}(r:Room k A):A.depth < recursionLimit:=by have:=r.dp;lia
theorem Room.units{k:Nat}{A:Wg}(r:Room k A):A.units+ 64 < cLine:=by have:=r.un;lia
def Dx:TA:=fun _ H Q=>Q [] H
def D0(ta:TE)(tr:TA):TA:=fun σ H Q=>ta σ H fun x H1=>tr σ H1 fun xs H2=>Q (x::xs) H2
section
variable{X:Cx}{e:Wo}{es:List Expr}{te:TE}{t:TA}{pos:Pos}
theorem Wu:PA X [] Dx:=fun _ _ _ _ H Q I h=>Calls.spliced_nil ⟨[],H,I,.nil,h⟩
theorem J7(ha:PE X e te)(hr:PA X es t)(hs:starEach (e::es) X.env=(false,eval e X.env)::starEach es X.env:=by rfl):PA X (e::es) (D0 te t):=by
 intro pos pins s σ H Q I h;rw[hs];show wpAny _ _ (spliced ((false,eval e X.env)::backTo pos (starEach es X.env))) _ _ s;refine Calls.spliced_cons (WW (ha pins s σ H _ I h) fun u a ⟨x,H1,j,c,f⟩=>?_);exact WW (hr pos pins a σ H1 _ j f) fun n p ⟨xs,H2,i,b,d⟩=>⟨x::xs,H2,i,.cons c b,d⟩
def Kq(t:TA):TE:=fun σ H Q=>t σ H fun xs H1=>xs.length <=sizeLine/\∀p,H1 p=none->Q (.ref p) (upd H1 p (.tup xs))
theorem Qh{x1}(h:PA X es t):PE X (.Tuple es x1 pos) (Kq t):=by
 intro pins s σ H Q I f;refine wpAny_Tuple_spliced (WW (h pos pins s σ H _ I f) fun d a ⟨xs,H1,c,r,z,q⟩=>⟨by rw[<-r.length];exact z,?_⟩);have i:H1 a.heap.objs.size=none:=c.hok.fresh (Y6 _);refine⟨.ref a.heap.objs.size,upd H1 a.heap.objs.size (.tup xs),c.laid (t':=a.toks) (fun b u e=>Y8 _ e) (Y6 _) ?_,rfl,q _ i⟩;exact⟨z,d,r,⟨_,Yc _ rfl,rfl,_,rfl⟩⟩
end
abbrev Sp:=List V->Hp->VK->XK->Prop
abbrev Gy:=List Env->Hp->Shared->XK->Value->Shared->Prop
structure DG(P:Wc)(w:Wh)(K:Wi)(mg:W8)(base:Wn)(A:Wg)(outer:List Env)(s:We)(H:Hp):Prop where
 frames:A.frames=some outer
 mod:Mod K mg base
 bs:∀b o,base.get? b=some o->s.heap.get? b=some o/\H b=none
 bsz:base.objs.size <=s.heap.objs.size
 funs:s.heap.FunFrames base outer
 frf:∀b∈Gq outer,H b=none
 hok:Tt P w H s.heap
 bare:AllBare s.gens
def CE(outer:List Env)(P:Wc)(w:Wh)(H:Hp)(s:We)(Q:VK)(u:Wj)(s':We):Prop:=
 ∃v H',s'.os=s.os/\AllBare s'.gens/\Un (Gq outer) [] H H' s.heap s'.heap/\Tt P w H' s'.heap/\WJ v u/\Q v H'
def CR(CX:Gy)(outer:List Env)(P:Wc)(w:Wh)(H:Hp)(s:We)(Q:VK)(E:XK)(r:Result)(s':We):Prop:=
 match r with
 | .ok (.ret u)=>CE outer P w H s Q u s'
 | .ok _=>False
 | .error e=>CX outer H s E e s'
structure Wz(P:Wc)(w:Wh)(K:Wi)(mg:W8)(base:Wn)(CX:Gy)(k:Nat)(f:Wk)(fd:Wf)(ps:List Str)(sp:Sp):Prop where
 len:∀vs H Q E,sp vs H Q E->vs.length=ps.length
 run:∀ (A:Wg) (outer:List Env) (s:We) (H:Hp) (args:Args) (us:Wm) (vs:List V) (Q:VK) (E:XK),Room k A->DG P w K mg base A outer s H->BindsTo s fd args (ps.zip us)->WD vs us->sp vs H Q E->
  codeAny (model P w) A (.call (.ref f) args) (CR CX outer P w H s Q E) s
theorem Wz.imp{P:Wc}{w:Wh}{K:Wi}{mg:W8}{base:Wn}{CX:Gy}{k:Nat}{f:Wk}{fd:Wf}{ps:List Str}{sp sp':Sp}(F:Wz P w K mg base CX k f fd ps sp)
  (h:∀vs H Q E,sp' vs H Q E->sp vs H Q E):Wz P w K mg base CX k f fd ps sp':=
 ⟨fun vs H Q E q=>F.len vs H Q E (h _ _ _ _ q),fun A a s H b c vs Q E i j n d e=>F.run A a s H b c vs Q E i j n d (h _ _ _ _ e)⟩
theorem DG.make{P:Wc}{w:Wh}{K:Wi}{mg:W8}{base:Wn}{A:Wg}{outer:List Env}{s:We}{H:Hp}(e:DG P w K mg base A outer s H)(C:Wk)(us:Wm)(kw:List (Str×Value)):
  DG P w K mg base (A.under (.builtin "type.__call__" ⟨.ref C::us,kw⟩)) outer s H:=⟨by first|exact e.frames|(simpa[Around.under,Code.envs,Code.isFrame,pushEnvs] using e.frames),e.mod,e.bs,e.bsz,e.funs,e.frf,e.hok,e.bare⟩
section
variable{X:Cx}{pins:Wb}{σ:St}{H:Hp}{s s':We}
theorem Wv.env0(I:Wv X pins σ H s):DG X.prog X.w X.K X.mg X.base X.A X.stack s H:=
 ⟨I.ok.frames,I.ok.mod,I.bs,YD I.ok.bsz I.sz,I.stack,I.stkFree,I.hok,I.bare⟩
theorem Wv.after{Q:VK}{u:Wj}(I:Wv X pins σ H s)(h:CE X.stack X.prog X.w H s Q u s'):EP X pins σ Q u s':=by
 obtain⟨v,H',os,a,un,e,r,q⟩:=h;obtain⟨f,g,d,t,c⟩:=s';obtain rfl:c=s.os:=os;exact⟨v,H',I.call (h':=f) (g':=g) (d':=d) (t':=t) (ch:=[]) un e a (fun b z=>absurd z (by simp)),r,q⟩
end
def Ep(sp:Sp)(dvs:List V)(E:XK)(t:TA):TE:=fun σ H Q=>t σ H fun vs H1=>sp (vs++dvs) H1 Q E
def T3(K:Wi)(fd:Wf)(ps:List Str)(ds:Wm):Prop:=
 ∀ (s:We) (us:Wm),K.In s.heap->(us++ds).length=ps.length->BindsTo s fd ⟨us,[]⟩ (ps.zip (us++ds))
theorem T3.all{K:Wi}{fd:Wf}{ps:List Str}(h:∀us:List Value,us.length=ps.length->bindArgs fd ⟨us,[]⟩=pure (ps.zip us)):T3 K fd ps []:=fun s us _ a=>by
 rw[List.append_nil]at a ⊢;exact .of_eq (h us a)
def BQ(CX:Gy)(X:Cx)(E:XK):Prop:=∀ (pins:Wb) (σ:St) (H:Hp) (s:We) (e:Wj) (s':We),Wv X pins σ H s->CX X.stack H s E e s'->X.xe e s'
section
variable{X:Cx}{CX:Gy}{k:Nat}{f C:Wk}{fd:Wf}{ps:List Str}{sp:Sp}{dvs:List V}{ds:Wm}{E:XK}{x m:Str}{p pos apos:Pos}{e o:Wo}{es:List Expr}{ta:TE}{t:TA}
theorem Ct{pins:Wb}{σ:St}{H:Hp}{s:We}{Q:VK}{us:Wm}{vs:List V}(F:Wz X.prog X.w X.K X.mg X.base CX k f fd ps sp)(hr:Room k X.A)(hb:T3 X.K fd ps ds)(hd:WD dvs ds)(hx:BQ CX X E)
  (I:Wv X pins σ H s) (r:WD vs us) (h:sp (vs++dvs) H Q E):wpAny (model X.prog X.w) X.A (call (.ref f) us) (EP X pins σ Q) X.xe s:=by
 have b:WD (vs++dvs) (us++ds):=r.append hd;have c:(us++ds).length=ps.length:=by rw[<-b.length];exact F.len _ _ _ _ h
 refine Vu (Uh (F.run X.A X.stack s H ⟨us,[]⟩ (us++ds) (vs++dvs) Q E hr I.env0 (hb s us I.kIn c) b h) fun r s' a=>?_);cases r with
 |error e=>exact hx pins σ H s e s' I a
 |ok fl=>
  cases fl with
  |ret u=>exact I.after a
  |next=>exact False.elim a
  |brk=>exact False.elim a
  |cont=>exact False.elim a
theorem wP(F:Wz X.prog X.w X.K X.mg X.base CX k f fd ps sp)(hr:Room k X.A)(hg:Gl X x)(hm:X.mg x=some (.ref f))(hk:W.keepIn X.K (.ref f)=true)(hb:T3 X.K fd ps ds)(hd:WD dvs ds)(hx:BQ CX X E)
  (ha:PA X (e::es) t) (hdb:(x==("__debug__":Str))=false:=by decide) (he:starEach (e::es) X.env=(false,eval e X.env)::starEach es X.env:=by rfl) (hpl:(backTo pos (starEach es X.env)).any (·.1)=false:=by rfl):
  PE X (.Call (.Name x p) (e::es) [] pos) (Ep sp dvs E t):=by
 intro pins s σ H Q I h;refine Xo (BC I hg hm ?_ hdb);refine W.callWith_K (h₀:=X.base) I.ok.mod.kin hk (WW (ha pos pins s σ H _ I h) fun b c ⟨vs,H1,a,r,q⟩=>⟨a.kIn,?_⟩) he hpl;exact Ct F hr hb hd hx a r q
theorem bV(F:Wz X.prog X.w X.K X.mg X.base CX k f fd ps sp)(hr:Room k X.A)(hg:Gl X x)(hm:X.mg x=some (.ref f))(hk:W.keepIn X.K (.ref f)=true)(hb:T3 X.K fd ps ds)(hd:WD dvs ds)(hx:BQ CX X E)
  (hdb:(x==("__debug__":Str))=false:=by decide):PE X (.Call (.Name x p) [] [] pos) (Ep sp dvs E Dx):=by
 intro pins s σ H Q I h;refine Xo (BC I hg hm ?_ hdb);exact W.callWith_K0 I.kIn hk (Ct (us:=[]) F hr hb hd hx I .nil h)
structure Mk(K:Wi)(C f:Wk):Prop where
 makes:W.makesIn K C=true
 init:W.findIn K (.ref C) "__init__"=some (some (.ref f))
 fn:W.isFn K (.ref f)=true
 kp:W.keepIn K (.ref C)=true
theorem eD{pins:Wb}{σ:St}{H:Hp}{s:We}{Q:VK}{us:Wm}{vs:List V}(M:Mk X.K C f)(F:Wz X.prog X.w X.K X.mg X.base CX k f fd ps sp)(hr:Room (k+ 1) X.A)(hb:T3 X.K fd ps ds)(hd:WD dvs ds)
  (hx:BQ CX X E) (I:Wv X pins σ H s) (r:WD vs us)
  (h:∀x dx,H x=none->H dx=none->dx≠x->sp (.ref x::(vs++dvs)) (upd (upd H dx (.own x)) x (.ins C dx [])) (fun v H2=>v= .non/\Q (.ref x) H2) E):
  wpAny (model X.prog X.w) X.A (call (.ref C) us) (EP X pins σ Q) X.xe s:=by
 have d:=h (s.heap.objs.size+ 1) s.heap.objs.size (I.hok.fresh (YL _)) (I.hok.fresh (Y6 _)) (Yj (XZ _));have b:=Wv.made (C:=C) I;have c:WD (V.ref (s.heap.objs.size+ 1)::(vs++dvs)) (Value.ref (s.heap.objs.size+ 1)::(us++ds)):=.cons rfl (r.append hd);have n:(Value.ref (s.heap.objs.size+ 1)::us++ds).length=ps.length:=by
  have e:=c.length;rw[F.len _ _ _ _ d]at e;exact e.symm
 refine Vu (Os (f := f) I.kIn M.makes M.init (UL.mp M.fn) (Uh (F.run _ X.stack _ _ ⟨Value.ref (s.heap.objs.size + 1) :: us, []⟩ (Value.ref (s.heap.objs.size + 1) :: (us ++ ds)) _ _ E (hr.make C us [])
  (b.env0.make C us []) (hb _ (Value.ref (s.heap.objs.size + 1) :: us) b.kIn n) c d) fun r s' a => ?_))
 cases r with
 |error e=>exact hx pins σ _ _ e s' b a
 |ok fl=>
  cases fl with
  |ret u=>
   obtain⟨v,H',q,i,p,j⟩:=b.after a;subst p;exact⟨i,⟨V.ref (s.heap.objs.size+ 1),H',q,rfl,j⟩⟩
  |next=>exact False.elim a
  |brk=>exact False.elim a
  |cont=>exact False.elim a
end
def PK(X:Cx)(kws:List Keyword)(t:TA):Prop:=
 ∀ (pos:Pos) (pins:Wb) (s:We) (σ:St) (H:Hp) (Q:List V->Hp->Prop),Wv X pins σ H s->t σ H Q->wpAny (model X.prog X.w) X.A (evalAll ((backToKw pos (keywordEach kws X.env)).map (·.2))) (AP X pins σ Q) X.xe s
section
variable{X:Cx}{CX:Gy}{k:Nat}{f C:Wk}{fd:Wf}{ps ks:List Str}{sp:Sp}{E:XK}{x m:Str}{p pos apos kpos:Pos}{e o:Wo}{es:List Expr}{kws:List Keyword}{te ta:TE}{t tk:TA}{nm:Option Str}
theorem Ho:PK X [] Dx:=fun _ _ _ _ H Q I h=>wpAny_evalAll_nil ⟨[],H,I,.nil,h⟩
theorem O3(ha:PE X e te)(hr:PK X kws t):PK X (⟨nm,e,kpos⟩::kws) (D0 te t):=by
 intro pos pins s σ H Q I h;show wpAny _ _ (evalAll ((do let v <-eval e X.env;standAt pos;pure v)::(backToKw pos (keywordEach kws X.env)).map (·.2))) _ _ s;refine wpAny_evalAll_cons (Y0 (WW (ha pins s σ H _ I h) fun u a ⟨x,H1,j,c,f⟩=>Y0 (UY (Y4 ?_))));exact WW (hr pos pins a σ H1 _ j f) fun n p ⟨xs,H2,i,b,d⟩=>⟨x::xs,H2,i,.cons c b,d⟩
variable{g:List Value->List Value->List Value}{gV:List V->List V->List V}
end
structure Jx(N P:List Str)(sc:Scope):Prop where
 kind:sc.kind= .function
 co:sc.isCoroutine=false
 gen:sc.isGenerator=false
 nd:N.Nodup
 pre:N.take P.length=P
 par:∀x∈P,sc.names.lookup x=some .local\/sc.names.lookup x=some .cell
 nofree:∀y∈sc.names,y.2≠ .free
theorem SD{kindOf:Str->Option NameKind}{x:Str}:∀{binds:List (Str×Value)} {m:W8},(∀v,(x,v)∉binds)->bindL kindOf binds m x=m x
 |[],_,_=>rfl
 |(n,v)::r,m,h=>by
  unfold bindL;rw[SD fun w hw=>h w (Yk _ hw)]
  split
  .have:x≠n:=by rintro rfl;exact h v YC
   simp[this]
  .rfl
theorem Sk{kindOf:Str->Option NameKind}{x:Str}:∀{binds:List (Str×Value)} {m:W8},(∀v,(x,v)∉binds)->bindC kindOf binds m x=m x
 |[],_,_=>rfl
 |(n,v)::r,m,h=>by
  unfold bindC;rw[Sk fun w hw=>h w (Yk _ hw)]
  split
  .rfl
  .have:x≠n:=by rintro rfl;exact h v YC
   simp[this]
theorem Z0{kindOf:Str->Option NameKind}{x:Str}{v:Wj}:∀{P:List Str} {vs:Wm} {i:Nat} {m:W8},P.Nodup->P[i]?=some x->vs[i]?=some v->kindOf x=some .local->
  bindL kindOf (P.zip vs) m x=some v
 |[],_,_,_,_,h,_,_=>by simp at h
 |_::_,[],_,_,_,_,h,_=>by simp at h
 |p::P,w::vs,0,m,nd,h1,h2,hk=>by
  simp at h1 h2;subst h1;subst h2;show bindL kindOf ((p,w)::P.zip vs) m p=_;unfold bindL;rw[SD fun v hv=>(YE.mp nd).1 (VD hv).1,Y5 hk];simp
 |p::P,w::vs,i+ 1,m,nd,h1,h2,hk=>by
  show bindL kindOf ((p,w)::P.zip vs) m x=_;unfold bindL;exact Z0 (i:=i) (YE.mp nd).2 (by simpa using h1) (by simpa using h2) hk
theorem S6{kindOf:Str->Option NameKind}{x:Str}{v:Wj}:∀{P:List Str} {vs:Wm} {i:Nat} {m:W8},P.Nodup->P[i]?=some x->vs[i]?=some v->kindOf x≠some .local->
  bindC kindOf (P.zip vs) m x=some v
 |[],_,_,_,_,h,_,_=>by simp at h
 |_::_,[],_,_,_,_,h,_=>by simp at h
 |p::P,w::vs,0,m,nd,h1,h2,hk=>by
  simp at h1 h2;subst h1;subst h2;show bindC kindOf ((p,w)::P.zip vs) m p=_;unfold bindC;rw[Sk fun v hv=>(YE.mp nd).1 (VD hv).1,Y2 hk];simp
 |p::P,w::vs,i+ 1,m,nd,h1,h2,hk=>by
  show bindC kindOf ((p,w)::P.zip vs) m x=_;unfold bindC;exact S6 (i:=i) (YE.mp nd).2 (by simpa using h1) (by simpa using h2) hk
def start(N:List Str)(vs:List V):St:=vs.map some++List.replicate (N.length - vs.length) none
def Mi(CX:Gy)(P:Wc)(w:Wh)(K:Wi)(mg:W8)(base:Wn)(N:List Str)(qual:Str)(scope:Scope)(f:Wk)(cd:Wj)(A:Wg)(outer:List Env)(s:We)(H:Hp)(E:XK):Cx where
 prog:=P
 w:=w
 K:=K
 mg:=mg
 base:=base
 A:=A.deeper (envOfC qual scope s.heap.objs.size f cd)
 N:=N
 s₀:=s
 H₀:=H
 env:=envOfC qual scope s.heap.objs.size f cd
 outer:=outer
 stack:=envOfC qual scope s.heap.objs.size f cd::outer
 ex:=[]
 calm:=true
 fn:=fun _=>true
 pn:=[]
 xe:=fun e s'=>wpAny (model P w) (A.deeper (envOfC qual scope s.heap.objs.size f cd)) (leaving (envOfC qual scope s.heap.objs.size f cd) e) (fun _ s''=>CX outer H s E e s'') (fun e' s''=>CX outer H s E e' s'') s'
theorem Po{sc:Scope}{n:Nat}{x:Str}(h:sc.names.lookup x=some .cell):∃c,(cellsFrom n sc.names []).lookup x=some c:=by
 have q:=W.cellsFrom_some sc.names n [] (.inl h);exact UF.mp q
theorem uA{CX:Gy}{P:Wc}{w:Wh}{K:Wi}{mg:W8}{base:Wn}{N ps:List Str}{qual:Str}{scope:Scope}{f:Wk}{cd:Wj}{A:Wg}{outer:List Env}{s s1:We}{H:Hp}{E:XK}{us:Wm}{vs:List V}
  (S:Jx N ps scope) (hd:A.handled=none) (e0:DG P w K mg base A outer s H) (hl:vs.length=ps.length) (r:WD vs us)
  (x:InCallC s s.heap.objs.size (bindL (envOfC qual scope s.heap.objs.size f cd).kindOf (ps.zip us) fun _=>none) (cellsFrom (s.heap.objs.size+ 1) scope.names []) (bindC (envOfC qual scope s.heap.objs.size f cd).kindOf (ps.zip us) fun _=>none) s1):
  Wv (Mi CX P w K mg base N qual scope f cd A outer s H E) [] (start N vs) H s1:=by
 have hpl:ps.length <=N.length:=by have:=YU List.length S.pre;rw[Yt]at this;lia
 obtain⟨h1,tk,rfl,hk⟩:=x.done;have j:∀b:Addr,b∉(Mi CX P w K mg base N qual scope f cd A outer s H E).ex:=fun b z=>absurd (show b∈([]:List Addr) from z) (by simp)
 refine ⟨⟨e0.mod, S.kind, rfl, rfl, Y6 _, fun y z c h1 h2 => ?_, fun y d => ?_, fun y c _ h => ?_, fun _ => hd, Around.frames_deeper e0.frames, .inr ⟨rfl, rfl⟩, fun b z => absurd z (j b), e0.bs, e0.bsz, fun b _ _ => j b, fun b z => absurd z (j b), e0.funs, e0.frf⟩,
  rfl, e0.bare, Un.kept hk, ⟨_, x.toInCall.ns, fun i y v h1 h2 h3 => ?_⟩, fun y c h => ⟨_, x.cell y c h⟩, e0.hok.fresh (Y6 _), fun y c h => ?_, fun p hp => absurd (show p ∈ ([] : List (Addr × Obj)) from hp) (by simp), e0.hok.kept hk, ?_⟩
 .exact name_of_addr x.apart (U5 h1) (U5 h2)
 .have d:scope.names.lookup y=some .cell\/scope.names.lookup y=some .free:=d;rcases d with d|d
  .exact Po d
  .exact absurd rfl (S.nofree _ (U5 d))
 .exact XE (x.above y c (U5 h))
 .have hi:i < vs.length:=by
   unfold start at h2
   by_cases hi:i < vs.length
   .exact hi
   .rw[Uu (by simpa using hi)]at h2;rw[List.getElem?_replicate]at h2
    split at h2 <;> cases h2
  have ha:vs[i]?=some v:=by
   unfold start at h2;rw[Ux (by simpa using hi),Y9]at h2;cases e:vs[i]? with
   |none=>rw[e]at h2;cases h2
   |some a=>rw[e]at h2;cases h2;rfl
  obtain⟨u,hu,rv⟩:=r.get ha;have hp:ps[i]?=some y:=by
   rw[<-S.pre,List.getElem?_take_of_lt (by lia)];exact h1
  have ndP:ps.Nodup:=by rw[<-S.pre];exact S.nd.sublist (List.take_sublist _ _)
  refine⟨u,rv,?_⟩;rcases S.par y (Yx hp) with k|k
  .exact .inl ⟨k,Z0 ndP hp hu k⟩
  .obtain⟨c,e⟩:=Po (n:=s.heap.objs.size+ 1) k;refine .inr ⟨.inl k,c,e,?_⟩;have q:=x.cell y c e;rw[S6 ndP hp hu (by show scope.names.lookup y≠_;rw[k];decide)]at q;exact q
 .exact e0.hok.fresh (XE (x.above y c (U5 h)))
 .unfold start;show _=N.length;rw[Ys,Y1,List.length_replicate]
  lia
theorem E7{CX:Gy}{P:Wc}{w:Wh}{K:Wi}{mg:W8}{base:Wn}{k:Nat}{f:Wk}{name qual:Str}{params:Arguments}{body:List Stmt}{scope:Scope}{dV kV doc pm cdv ct oc:Wj}{an od:Option Addr}
  {osl:Array (Option Value)} {N ps:List Str} {sp:Sp} (lk:K.lookup f=some ⟨oc,od,.func (W.fnOf name qual params body scope dV kV doc pm an cdv ct),osl⟩) (hcd:W.codeIn K cdv qual=true) (S:Jx N ps scope)
  (len:∀vs H Q E,sp vs H Q E->vs.length=ps.length)
  (hbody : ∀ (A : Around) (outer : List Env) (s : Shared) (H : Hp) (vs : List V) (Q : VK) (E : XK), Room k (A.deeper (envOfC qual scope s.heap.objs.size f cdv)) -> sp vs H Q E ->
   ∃ t, MP (Mi CX P w K mg base N qual scope f cdv A outer s H E) body t /\ t { nx := fun _ H' => Q .non H', rt := Q } (start N vs) H) :
  Wz P w K mg base CX (k+ 1) f (W.fnOf name qual params body scope dV kV doc pm an cdv ct) ps sp:=by
 refine⟨len,fun A outer s H args us vs Q E p c hb r h=>?_⟩;have hl:=len _ _ _ _ h;have KX:K.In s.heap:=c.mod.kin.keeps fun b o e=>(c.bs b o e).1
 have aa:s.heap.NoLimit:=c.mod.nolimit.keeps fun b o e=>(c.bs b o e).1
 have d:∀y∈ps.zip us,scope.names.lookup y.1=some .local\/(scope.names.lookup y.1=some .cell/\((cellsFrom (s.heap.objs.size+ 1) scope.names []).lookup y.1).isSome=true):=fun⟨n,v⟩ hy=>by
  rcases S.par n (VD hy).1 with q|q
  .exact .inl q
  .exact .inr ⟨q,W.cellsFrom_some _ _ _ (.inl q)⟩
 refine codeAny_call_function p.depth (KX _ _ lk) rfl S.co S.gen rfl (W.codeRec_of KX hcd) (hb _ _ _ _ ?_);refine wpAny_newFunctionEnv_cells S.kind d fun env he z x=>?_
 subst he;refine⟨aa.keeps x.toInCall.keep,codeAny_func ?_⟩;obtain⟨t,ht,hq⟩:=hbody A outer s H vs Q E (p.deeper _) h;have I:Wv (Mi CX P w K mg base N qual scope f cdv A outer s H E) [] (start N vs) H z:=uA S p.hd c hl r x;refine X9 (ht [] z (start N vs) H _ I hq) (fun fl s' a=>?_) fun e s' a=>a
 have i:∀{σ':St} {H':Hp} {v:V} {u:Wj},Wv (Mi CX P w K mg base N qual scope f cdv A outer s H E) [] σ' H' s'->WJ v u->Q v H'->CE outer P w H s Q u s':=
  fun {σ' H' v u} J j q=>⟨v,H',J.os,J.bare,J.base,J.hok,j,q⟩
 cases fl with
 |ret u=>
  obtain⟨v,σ',H',J,j,q⟩:=a;exact i J j q
 |next=>
  obtain⟨σ',H',J,q⟩:=a;exact i (v:=V.non) (u:=Value.none) J rfl q
 |brk=>
  obtain⟨_,_,_,q⟩:=a;exact False.elim q
 |cont=>
  obtain⟨_,_,_,q⟩:=a;exact False.elim q
section
variable{X:Cx}{x:Str}{p pos:Pos}{e:Wo}{es:List Expr}{t:TA}{id T:String}{r:List V->Hp->VK->Prop}
def A1(r:List V->Hp->VK->Prop)(t:TA):TE:=fun σ H Q=>t σ H fun vs H1=>r vs H1 Q
theorem mD(hc:WY X (.builtin id) r)(hg:Gl X x)(hm:X.mg x=none)(hv:bootBuiltins x=some (.builtin id))(ha:PA X (e::es) t)(hn:x≠"__name__":=by decide)(hdb:(x==("__debug__":Str))=false:=by decide)
  (he:starEach (e::es) X.env=(false,eval e X.env)::starEach es X.env:=by rfl) (hpl:(backTo pos (starEach es X.env)).any (·.1)=false:=by rfl):PE X (.Call (.Name x p) (e::es) [] pos) (A1 r t):=by
 intro pins s σ H Q I h;refine Xo (EM I hg hm hv ?_ hn hdb);exact PyProof.Rows.callWith_builtin1 (WW (ha pos pins s σ H _ I h) fun a b ⟨vs,H1,f,c,d⟩=>hc pins b σ H1 vs a Q f c d) he hpl
theorem Bu(hc:WY X (.type T) r)(hg:Gl X x)(hm:X.mg x=none)(hv:bootBuiltins x=some (.type T))(ha:PA X (e::es) t)(hn:x≠"__name__":=by decide)(hdb:(x==("__debug__":Str))=false:=by decide)
  (he:starEach (e::es) X.env=(false,eval e X.env)::starEach es X.env:=by rfl) (hpl:(backTo pos (starEach es X.env)).any (·.1)=false:=by rfl):PE X (.Call (.Name x p) (e::es) [] pos) (A1 r t):=by
 intro pins s σ H Q I h;refine Xo (EM I hg hm hv ?_ hn hdb);exact Vn (WW (ha pos pins s σ H _ I h) fun a b ⟨vs,H1,f,c,d⟩=>hc pins b σ H1 vs a Q f c d) he hpl
end
end L2
namespace HT
open PySem PyProof.Rows
theorem eqAt_int(A:Wg)(s:We)(a:Int)(t:Tok)(c:Int)(u:Tok):∃e,SeqAt.EqAt A s (.int a t) (.int c u) e/\(e=true↔a=c):=
 ⟨(a==c),SeqAt.EqAt.int_int a t c u,by simp⟩
theorem rcLt_int(A:Wg)(s:We)(a:Int)(t:Tok)(c:Int)(u:Tok)(prog:Wc)(w:Wh)(E:W9)(Q:W9)(h:Q (.bool (decide (a < c))) s):
  wpAny (model prog w) A (richCompare .Lt (.int a t) (.int c u)) Q E s:=
 (PyProof.Rows.lt_int h:wpAny (model prog w) A (compareOp .Lt (.int a t) (.int c u)) Q E s)
section
variable{prog:Wc}{w:Wh}{A:Wg}{E:W9}{s:We}
def sIx(n d:Nat):Option Int->Nat
 |none=>d
 |some v=>if v < 0 then(v+ (n:Int)).toNat else min v.toNat n
theorem sIx_nat(n d k:Nat):sIx n d (some (k:Int))=min k n:=by
 show(if(k:Int) < 0 then((k:Int)+ (n:Int)).toNat else min (k:Int).toNat n)=min k n;rw[Y2 (by lia),YW]
end
end HT
namespace L2
open PySem PySem.Spec PyProof.Rows
abbrev TO:=St->Hp->(Option Int->Hp->Prop)->Prop
def PO(X:Cx)(e:Option Expr)(t:TO):Prop:=
 ∀ (pins:Wb) (s:We) (σ:St) (H:Hp) (Q:Option Int->Hp->Prop),Wv X pins σ H s->t σ H Q->
  wpAny (model X.prog X.w) X.A (evalPart e X.env) (fun u s'=>∃o H',Wv X pins σ H' s'/\IsPart u o/\Q o H') X.xe s
def Ku(t:TE):TO:=fun σ H Q=>t σ H fun x H1=>∃i,x= .int i/\Q (some i) H1
section
variable{X:Cx}{e:Wo}{te:TE}{lo hi:Option Expr}{tl th:TO}{pos p2:Pos}
theorem C4(h:PE X e te):PO X (some e) (Ku te):=by
 intro pins s σ H Q I c;rw[evalPart_some];refine WW (h pins s σ H _ I c) fun u f ⟨x,H1,d,a,b⟩=>?_
 obtain⟨i,rfl,q⟩:=b;obtain⟨t,rfl⟩:=a;exact⟨some i,H1,d,.int i t,q⟩
def RB(X:Cx)(r:V->Option Int->Option Int->Hp->VK->Prop):Prop:=
 ∀ (pins:Wb) (s:We) (σ:St) (H:Hp) (x:V) (v vl vu:Wj) (lo hi:Option Int) (sl:Wk) (Q:VK),Wv X pins σ H s->WJ x v->s.heap.IsSliceOf sl vl vu .none->IsPart vl lo->IsPart vu hi->r x lo hi H Q->
  ∃T id,typeLookup (.type T) "__getitem__"=pure (some (.builtin id))/\s.TypeIs v T/\wpAny (model X.prog X.w) X.A (getItem v (.ref sl)) (EP X pins σ Q) X.xe s
def Lu(r:V->Option Int->Option Int->Hp->VK->Prop)(te:TE)(tl th:TO):TE:=fun σ H Q=>te σ H fun x H1=>tl σ H1 fun l H2=>th σ H2 fun u H3=>r x l u H3 Q
theorem Qk{r:V->Option Int->Option Int->Hp->VK->Prop}(hr:RB X r)(he:PE X e te)(hl:PO X lo tl)(hu:PO X hi th):PE X (.Subscript e (.Slice lo hi none p2) pos) (Lu r te tl th):=by
 intro pins s σ H Q I h;refine Subscript_ (WW (he pins s σ H _ I h) fun v j ⟨x,H1,I1,n,z⟩=>?_);refine wpAny_Slice (WW (hl pins j σ H1 _ I1 z) fun d i ⟨l,H2,I2,pl,y⟩=>WW (hu pins i σ H2 _ I2 y) fun c a ⟨u,f,I3,pu,p⟩=>?_);rw[evalPart_none];refine Y4 ?_;have I4:Wv X pins σ f {a with heap:=a.heap.push {cls:=.type "slice",data:=.fields #[d,c,.none]}}:=I3.kept (t':=a.toks) fun b ob q=>Y8 _ q
 obtain⟨T,id,hT,ht,hg⟩:=hr pins {a with heap:=a.heap.push {cls:=.type "slice",data:=.fields #[d,c,.none]}} σ f x v d c l u a.heap.objs.size Q I4 n (Heap.IsSliceOf.new ..) pl pu p;show wpAny (model X.prog X.w) X.A (subscriptTail e (.Slice lo hi none p2) v (.ref a.heap.objs.size)) (EP X pins σ Q) X.xe {a with heap:=a.heap.push {cls:=.type "slice",data:=.fields #[d,c,.none]}};exact tail_any (ops:=[.ref a.heap.objs.size,v]) ht hT hg (by with_unfolding_all rfl)
def DY(xs:List V)(lo hi:Option Int):List V:=(xs.drop (HT.sIx xs.length 0 lo)).take (HT.sIx xs.length xs.length hi - HT.sIx xs.length 0 lo)
theorem rV(xs:List V)(lo hi:Option Int):(DY xs lo hi).length <=xs.length:=by
 unfold DY;rw[Yt,UZ]
 lia
end
def GY(n:Nat)(i:Int):Option Nat:=if 0 <=i then(if i < n then some i.toNat else none) else if -(n:Int) <=i then some (i+ n).toNat else none
def Mn{α:Type}(xs:List α)(i:Int):Option α:=(GY xs.length i).bind fun j=>xs[j]?
theorem Zc{n:Nat}{i:Int}{j:Nat}(h:GY n i=some j):seqIndex? i n=some j/\j < n/\ -(n:Int) <=i/\i < n:=by
 unfold GY at h
 by_cases h0:0 <=i
 .rw[Y5 h0]at h
  by_cases h1:i < n
  .rw[Y5 h1]at h;have e:i.toNat=j:=Option.some.inj h;exact⟨by rw[seqIndex_of h0 h1,e],by lia,by lia,h1⟩
  .rw[Y2 h1]at h;cases h
 .rw[Y2 h0]at h
  by_cases h1: -(n:Int) <=i
  .rw[Y5 h1]at h;have e:(i+ n).toNat=j:=Option.some.inj h;exact⟨by rw[seqIndex_neg (by lia) h1,e],by lia,h1,by lia⟩
  .rw[Y2 h1]at h;cases h
theorem Pz{α:Type}{xs:List α}{i:Int}{v:α}(h:Mn xs i=some v):∃j,seqIndex? i xs.length=some j/\xs[j]?=some v/\j < xs.length/\ -(xs.length:Int) <=i/\i < xs.length:=by
 unfold Mn at h;cases e:GY xs.length i with
 |none=>rw[e]at h;cases h
 |some j=>
  rw[e]at h;obtain⟨h1,h2,b,a⟩:=Zc e;exact⟨j,h1,h,h2,b,a⟩
theorem Gk{α:Type}{xs:List α}{j:Nat}{v:α}(h:xs[j]?=some v):Mn xs (j:Int)=some v:=by
 have a:j < xs.length:=(Yq.mp h).1;have e:GY xs.length (j:Int)=some j:=by
  unfold GY;rw[Y5 (by lia),Y5 (by lia)];simp
 unfold Mn;rw[e];exact h
def Fi(b:Wo):Prop:=∀o i,subscripted b false o i=operate [o,i] (getItem o i)
def DI(X:Cx)(r:R2):Prop:=
 ∀ (value slice:Wo) (pins:Wb) (s:We) (σ:St) (H:Hp) (x y:V) (v u:Wj) (Q:VK),Wv X pins σ H s->WJ x v->WJ y u->r x y H Q->
  subscripted slice false v u=operate [v,u] (getItem v u)->wpAny (model X.prog X.w) X.A (subscriptTail value slice v u) (EP X pins σ Q) X.xe s
def Au(X:Cx)(id:String)(r:V->List V->Hp->VK->Prop):Prop:=
 ∀ (pins:Wb) (s:We) (σ:St) (H:Hp) (x:V) (xs:List V) (v:Wj) (us:Wm) (Q:VK),Wv X pins σ H s->WJ x v->WD xs us->r x xs H Q->
  wpAny (model X.prog X.w) X.A (call (.builtin id) (v::us)) (EP X pins σ Q) X.xe s
section
variable{X:Cx}{a b:Wo}{ta tb:TE}{pos:Pos}
theorem DU{r:R2}(hr:DI X r)(ha:PE X a ta)(hb:PE X b tb)(hs:Fi b):PE X (.Subscript a b pos) (DM r ta tb):=by
 intro pins s σ H Q I h;exact Subscript_ (Lh ha hb I h fun v u c x y H2 f e d q=>hr a b pins c σ H2 x y v u Q f e d q (hs _ _))
def Ai(K:Wi):R2:=fun x y H Q=>∃p xs i v,x= .ref p/\y= .int i/\WA K H p xs/\Mn xs i=some v/\Q v H
def A3(K:Wi):R2:=fun x y H Q=>∃p xs i v,x= .ref p/\y= .int i/\Ja K H p xs/\Mn xs i=some v/\Q v H
theorem u8:DI X (Ai X.K):=by
 intro value aa pins s σ H x y v u Q I rx ry h f;obtain⟨p,xs,i,z,rfl,rfl,hq,he,q⟩:=h;cases rx;obtain⟨t,rfl⟩:=ry;obtain⟨e,r,b,hz⟩:=I.list hq;obtain⟨j,h1,h2,h3,h4,h5⟩:=Pz he;obtain⟨w,n,d⟩:=r.get h2;have hl:=r.length;have hn:=Af;have a:EP X pins σ Q w s:=⟨z,H,I,d,q⟩
 by_cases h0:0 <=i
 .have c:i.toNat=j:=by
   rw[seqIndex_of h0 h5]at h1;exact Option.some.inj h1
  exact item_listR b.isList h0 (by lia) (by rw[c];simpa using n) a f
 .have c:(i+ (e.toArray.size:Int)).toNat=j:=by
   rw[seqIndex_neg (by lia) h4]at h1;rw[Yh,<-hl];exact Option.some.inj h1
  exact subscriptTail_builtinR (x:=w) b.isList.typeIs slot_list_getitem.lookup
   (wpAny_getItem_list_neg (Q:=fun r s'=>r=w/\EP X pins σ Q r s') b.isList (by lia) (by rw[Yh] <;> lia) (by lia) (by rw[c];simpa using n) ⟨rfl,a⟩) f
theorem wL:DI X (A3 X.K):=by
 intro value d pins s σ H x y v u Q I f e h n;obtain⟨p,xs,i,z,rfl,rfl,hq,he,q⟩:=h;cases f;obtain⟨t,rfl⟩:=e;obtain⟨its,r,b,hz⟩:=I.tuple hq;obtain⟨j,h1,h2,h3,h4,h5⟩:=Pz he;obtain⟨w,ew,a⟩:=r.get h2;have hl:=r.length;have hn:=Af;have c:EP X pins σ Q w s:=⟨z,H,I,a,q⟩;exact subscriptTail_builtinR (x:=w) b.typeIs slot_tuple_getitem.lookup
  (getItem_tuple (j:=j) (Q:=fun r s'=>r=w/\EP X pins σ Q r s') b (by lia) (by lia) (by rw[Yh,<-hl];exact h1) (by simpa using ew) ⟨rfl,c⟩) n
theorem eI(its:Wm)(n j:Nat)(u:Wj):Obj.mapSeq (·.setIfInBounds j u) {cls:=.type "list",data:=.seq its.toArray n}={cls:=.type "list",data:=.seq (its.set j u).toArray n}:=by
 simp[Obj.mapSeq]
theorem Wv.lst{pins:Wb}{σ:St}{H:Hp}{s:We}{p:Wk}{xs:List V}(I:Wv X pins σ H s)(h:H p=some (.lst xs)):
  ∃ (its:Wm) (n:Nat),WD xs its/\s.heap.get? p=some {cls:=.type "list",data:=.seq its.toArray n}/\xs.length <=sizeLine:=by
 obtain⟨z,its,n,r,e⟩:=I.hok p _ h;exact⟨its,n,r,e,z⟩
theorem Wv.lstUpd{pins:Wb}{σ:St}{H:Hp}{s:We}{p:Wk}{xs ys:List V}{its its':Wm}{n n':Nat}{f:Obj->Obj}(I:Wv X pins σ H s)(h:H p=some (.lst xs))
  (ho:s.heap.get? p=some {cls:=.type "list",data:=.seq its.toArray n}) (hf:f {cls:=.type "list",data:=.seq its.toArray n}={cls:=.type "list",data:=.seq its'.toArray n'}) (r:WD ys its') (hz:ys.length <=sizeLine) (t:Nat):
  Wv X pins σ (upd H p (.lst ys)) {s with heap:=s.heap.update p f,toks:=t}:=by
 have e:(s.heap.update p f).get? p=some {cls:=.type "list",data:=.seq its'.toArray n'}:=by
  rw[X3 f ho (by rw[hf] <;> rfl),hf]
 refine I.write (x:=p) (e:=p) (by rw[h];trivial) (.inl rfl) (fun b u a q=>(YH _ _ (Ne.symm a)).trans q) ⟨_,e⟩ ?_;exact⟨hz,its',n',r,e⟩
def IV:V->V->V->Hp->(Hp->Prop)->Prop:=fun o i v H Q=>∃p xs k j,o= .ref p/\i= .int k/\H p=some (.lst xs)/\GY xs.length k=some j/\Q (upd H p (.lst (xs.set j v)))
theorem GA:Gj X IV:=by
 intro pins s σ H o i v ov iv u Q I z ri y h;obtain⟨p,xs,k,j,rfl,rfl,e,hj,q⟩:=h;cases z;obtain⟨t,rfl⟩:=ri;obtain⟨a,n,r,b,hz⟩:=I.lst e;obtain⟨h1,h2,w,f⟩:=Zc hj;have c:=r.length;have hn:=Af;have x:Wv X pins σ (upd H p (.lst (xs.set j v))) {s with heap:=s.heap.update p (Obj.mapSeq (·.setIfInBounds j u))}:=
  I.lstUpd e b (eI a n j u) (r.set y j) (by rw[V8];exact hz) s.toks
 by_cases h0:0 <=k
 .have d:k.toNat=j:=by
   rw[seqIndex_of h0 f]at h1;exact Option.some.inj h1
  exact W.ki_setAt b h0 (by lia) (by rw[Yh,<-c];exact f) (by rw[d];exact⟨_,x,q⟩)
 .have d:(k+ (a.toArray.size:Int)).toNat=j:=by
   rw[seqIndex_neg (by lia) w]at h1;rw[Yh,<-c];exact Option.some.inj h1
  exact W.ki_setBack b (by lia) (by rw[Yh,<-c];exact w) (by lia) (by rw[d];exact⟨_,x,q⟩)
theorem ZG(lo hi:Option Int)(n:Nat):(sliceBounds lo hi none n).1=((HT.sIx n 0 lo:Nat):Int)/\(sliceBounds lo hi none n).2.1=((HT.sIx n n hi:Nat):Int)/\(sliceBounds lo hi none n).2.2=1:=by
 refine⟨?_,?_,rfl⟩
 .cases lo with
  |none=>simp[sliceBounds,HT.sIx]
  |some i=>
   simp only[sliceBounds,HT.sIx,Option.getD_none,show(1:Int) > 0 by decide,if_true]
   by_cases h:i < 0
   .simp only[h,if_true] <;> lia
   .simp only[h,if_false] <;> lia
 .cases hi with
  |none=>simp[sliceBounds,HT.sIx]
  |some i=>
   simp only[sliceBounds,HT.sIx,Option.getD_none,show(1:Int) > 0 by decide,if_true]
   by_cases h:i < 0
   .simp only[h,if_true] <;> lia
   .simp only[h,if_false] <;> lia
theorem ZQ(its:Wm)(lo hi:Option Int):slicePick its.toArray lo hi none=((its.drop (HT.sIx its.length 0 lo)).take (HT.sIx its.length its.length hi - HT.sIx its.length 0 lo)).toArray:=by
 obtain⟨h1,h2,a⟩:=ZG lo hi its.toArray.size;unfold slicePick;rw[h1,h2,a];simp only[sliceRange_one,pick_run,Yh] <;> rfl
def F4(K:Wi):V->Option Int->Option Int->Hp->VK->Prop:=fun x lo hi H Q=>∃a xs,x= .ref a/\WA K H a xs/\∀p,H p=none->Q (.ref p) (upd H p (.lst (DY xs lo hi)))
theorem mP:RB X (F4 X.K):=by
 intro pins s σ H x v y w lo hi z Q I e p i f h;obtain⟨a,xs,rfl,n,q⟩:=h;cases e;obtain⟨u,r,d,j⟩:=I.list n;have c:=r.length;refine⟨"list",_,slot_list_getitem.lookup,d.isList.typeIs,?_⟩;refine wpAny_getItem_list_slice d.isList p i f .none (by simp) ?_ (by rw[Yh] <;> lia);rw[ZQ,<-c];refine⟨.ref s.heap.objs.size,_,I.laid (t':=s.toks) (o:=.lst (DY xs lo hi)) (fun b ob q=>Y8 _ q) (Y6 _) ?_,rfl,q _ (I.hok.fresh (Y6 _))⟩;exact⟨YD (rV xs lo hi) j,_,0,(r.drop (HT.sIx xs.length 0 lo)).take (HT.sIx xs.length xs.length hi - HT.sIx xs.length 0 lo),Yc _ rfl⟩
def RY:V->Bool
 | .non=>true
 | .bl _=>true
 | .int _=>true
 | .str _=>true
 |_=>false
def RF:V->V->Bool
 | .non,.non=>true
 | .bl a,.bl b=>a==b
 | .bl a,.int b=>(if a then 1 else 0)==b
 | .int a,.bl b=>a==(if b then 1 else 0)
 | .int a,.int b=>a==b
 | .str a,.str b=>a==b
 |_,_=>false
theorem dN{A:Wg}{s:We}{y x:V}{u v:Wj}(ry:WJ y u)(rx:WJ x v)(fy:RY y=true)(fx:RY x=true):SeqAt.EqAt A s u v (RF y x):=by
 cases y with
 |non=>
  cases ry;cases x with
  |non=>cases rx;exact SeqAt.EqAt.same _
  |bl b=>cases rx;exact SeqAt.EqAt.none_bool b
  |int b=>obtain⟨t,rfl⟩:=rx;exact SeqAt.EqAt.none_int b t
  |str b=>obtain⟨t,rfl⟩:=rx;exact SeqAt.EqAt.none_str b t
  |_=>exact absurd (show false=true from fx) Yi
 |bl a=>
  cases ry;cases x with
  |non=>cases rx;exact SeqAt.EqAt.bool_none a
  |bl b=>cases rx;exact SeqAt.EqAt.bool_bool a b
  |int b=>obtain⟨t,rfl⟩:=rx;exact SeqAt.EqAt.bool_int a b t
  |str b=>obtain⟨t,rfl⟩:=rx;exact SeqAt.EqAt.bool_str a b t
  |_=>exact absurd (show false=true from fx) Yi
 |int a=>
  obtain⟨c,rfl⟩:=ry;cases x with
  |non=>cases rx;exact SeqAt.EqAt.int_none a c
  |bl b=>cases rx;exact SeqAt.EqAt.int_bool a c b
  |int b=>obtain⟨t,rfl⟩:=rx;exact SeqAt.EqAt.int_int a c b t
  |str b=>obtain⟨t,rfl⟩:=rx;exact SeqAt.EqAt.int_str a c b t
  |_=>exact absurd (show false=true from fx) Yi
 |str a=>
  obtain⟨c,rfl⟩:=ry;cases x with
  |non=>cases rx;exact SeqAt.EqAt.str_none a c
  |bl b=>cases rx;exact SeqAt.EqAt.str_bool a c b
  |int b=>obtain⟨t,rfl⟩:=rx;exact SeqAt.EqAt.str_int a c b t
  |str b=>obtain⟨t,rfl⟩:=rx;exact SeqAt.EqAt.str_str a c b t
  |_=>exact absurd (show false=true from fx) Yi
 |_=>exact absurd (show false=true from fy) Yi
def Ri(x:V)(u:Wj):Bool:=match u with
 | .none=>RF .non x
 | .bool b=>RF (.bl b) x
 | .int i _=>RF (.int i) x
 | .str z _=>RF (.str z) x
 |_=>false
theorem PV{x y:V}{u:Wj}(r:WJ y u)(f:RY y=true):Ri x u=RF y x:=by
 cases y with
 |non=>cases r;rfl
 |bl b=>cases r;rfl
 |int i=>obtain⟨t,rfl⟩:=r;rfl
 |str z=>obtain⟨t,rfl⟩:=r;rfl
 |_=>exact absurd (show false=true from f) Yi
theorem Hb{x:V}:∀{xs:List V} {us:Wm},WD xs us->xs.all RY=true->us.any (Ri x)=xs.any fun y=>RF y x
 |_,_,.nil,_=>rfl
 |y::xs,u::us,.cons r t,f=>by
  rw[List.all_cons,X0]at f;rw[XQ,XQ,PV r f.1,Hb t f.2]
theorem Hv{A:Wg}{s:We}{x:V}{v:Wj}(rx:WJ x v)(fx:RY x=true):∀{xs:List V} {us:Wm},WD xs us->xs.all RY=true->∀u∈us,SeqAt.EqAt A s u v (Ri x u)
 |_,_,.nil,_=>fun u hu=>by cases hu
 |y::xs,u::us,.cons r t,f=>fun u' hu=>by
  rw[List.all_cons,X0]at f;rcases Yl.mp hu with rfl|hu
  .rw[PV r f.1];exact dN r rx f.1 fx
  .exact Hv rx fx t f.2 u' hu
def RU(x:V)(xs:List V):Bool:=xs.any fun y=>RF y x
def Sf(K:Wi)(neg:Bool):R2:=fun x y H Q=>∃p xs,y= .ref p/\(WA K H p xs\/Ja K H p xs)/\RY x=true/\xs.all RY=true/\Q (.bl (if neg then !RU x xs else RU x xs)) H
theorem uM:JW X (compareOp .In) (Sf X.K false):=by
 intro pins s σ H x y v u Q I e i h;obtain⟨p,xs,rfl,b,f,fs,q⟩:=h;cases i;rcases b with b|b
 .obtain⟨a,r,c,j⟩:=I.list b;refine SeqAt.in_listAt (Ri x) c.isList (fun w d=>Hv e f r fs w (by simpa using d)) ⟨.bl _,H,I,rfl,?_⟩;rw[show a.toArray.any (Ri x)=a.any (Ri x) by simp,Hb r fs];exact q
 .obtain⟨a,r,c,j⟩:=I.tuple b;refine SeqAt.in_tupleAt (Ri x) c (fun w d=>Hv e f r fs w (by simpa using d)) ⟨.bl _,H,I,rfl,?_⟩;rw[show a.toArray.any (Ri x)=a.any (Ri x) by simp,Hb r fs];exact q
theorem mN:WY X (.builtin "len") (fun xs H Q=>∃p ys,xs=[.ref p]/\(WA X.K H p ys\/Ja X.K H p ys)/\Q (.int ys.length) H):=by
 intro pins s σ H xs j Q I r h;obtain⟨p,ys,rfl,b,q⟩:=h;obtain⟨u,rfl,f⟩:=Dw r;cases f;have n:=Af;rcases b with b|b
 .obtain⟨e,c,d,i⟩:=I.list b;have a:=c.length;exact Calls.call_len_list d.isList (by simp only[Yh] <;> lia) ⟨.int ys.length,H,I.tok _,⟨s.toks+ 1,by rw[Yh,a]⟩,q⟩
 .obtain⟨e,c,d,i⟩:=I.tuple b;have a:=c.length;exact len_tuple d (by simp only[Yh] <;> lia) ⟨.int ys.length,H,I.tok _,⟨s.toks+ 1,by rw[Yh,a]⟩,q⟩
theorem eQ:WY X (.builtin "len") (fun xs H Q=>∃z,xs=[.str z]/\z.length <=sizeLine/\Q (.int z.length) H):=by
 intro pins s σ H xs a Q I r h;obtain⟨z,rfl,b,q⟩:=h;obtain⟨u,rfl,t,rfl⟩:=Dw r;have c:=Af;exact len_str (by lia) ⟨.int z.length,H,I.tok _,⟨_,rfl⟩,q⟩
theorem wJ:WY X (.type "list") (fun xs H Q=>∃p ys,xs=[.ref p]/\(WA X.K H p ys\/Ja X.K H p ys)/\∀l,H l=none->Q (.ref l) (upd H l (.lst ys))):=by
 intro pins s σ H xs us Q I r h;obtain⟨p,ys,rfl,i,q⟩:=h;obtain⟨u,rfl,rx⟩:=Dw r;cases rx;have j:∀ (a:Wm),WD ys a->ys.length <=sizeLine->∀ (h':Wn) (d:Nat),(∀b o',s.heap.get? b=some o'->h'.get? b=some o')->
   h'.get? s.heap.objs.size=some {cls:=.type "list",dict:=none,data:=.seq a.toArray d,slots:=#[]}->EP X pins σ Q (.ref s.heap.objs.size) {s with heap:=h'}:=fun a c f h' d kp e=>
  ⟨.ref s.heap.objs.size,_,I.laid (t':=s.toks) kp (Y6 _) (show WR X.prog X.w _ h' _ (.lst ys) from⟨f,a,d,c,e⟩),rfl,q _ (I.hok.fresh (Y6 _))⟩
 rcases i with i|i
 .obtain⟨a,c,v,f⟩:=I.list i;have y:=c.length;obtain⟨o,x,hc,n,z⟩:=v.isList;exact call_list_seq p (.inl rfl) x hc z (fun h' d kp e=>j a c f h' d kp e) (by simp only[Yh] <;> lia)
 .obtain⟨a,c,v,f⟩:=I.tuple i;have y:=c.length;obtain⟨o,x,hc,n,z⟩:=v;exact call_list_seq p (.inr rfl) x hc z (fun h' d kp e=>j a c f h' d kp e) (by simp only[Yh] <;> lia)
def A6(K:Wi)(T:String)(x:V)(H:Hp):Prop:=match x with
 | .str _=>T="str"
 | .int _=>T="int"
 | .ref p=>(T="list"/\∃xs,WA K H p xs)\/(T="tuple"/\∃o,K.lookup p=some o/\o.cls= .type "tuple"/\o.dict=none)\/
   (T="dict"/\((∃kvs,H p=some (.dK kvs))\/∃kvs,H p=some (.dT kvs)))\/(T="set"/\∃S n,H p=some (.set S n))
 |_=>False
theorem QV{pins:Wb}{σ:St}{H:Hp}{s:We}{T:String}{x:V}{v:Wj}(I:Wv X pins σ H s)(r:WJ x v)(ty:A6 X.K T x H):
  s.TypeIs v T/\∀a,v= .ref a->∃ob,s.heap.get? a=some ob/\ob.dict=none:=by
 cases x with
 |str z=>
  obtain⟨t,rfl⟩:=r;cases (show T="str" from ty);exact⟨typeIs_str s z t,fun _ e=>nomatch e⟩
 |int i=>
  obtain⟨t,rfl⟩:=r;cases (show T="int" from ty);exact⟨typeIs_int s i t,fun _ e=>nomatch e⟩
 |ref p=>
  cases r;rcases ty with⟨rfl,xs,hq⟩|⟨rfl,o,hk,hc,b⟩|⟨rfl,hk⟩|⟨rfl,S,n,hk⟩
  .obtain⟨h,_,f,_⟩:=I.list hq;refine⟨f.isList.typeIs,fun a e=>?_⟩;cases e;obtain⟨o,n,e,c,b,_⟩:=f;exact⟨o,e,b⟩
  .refine⟨⟨o,I.kIn p o hk,hc⟩,fun a e=>?_⟩;cases e;exact⟨o,I.kIn _ o hk,b⟩
  .have z:∃o,s.heap.get? p=some o/\o.ExactDict:=by
    rcases hk with⟨kvs,hk⟩|⟨kvs,hk⟩
    .obtain⟨_,_,_,_,o,_,_,e,ex,_⟩:=I.hok p _ hk;exact⟨o,e,ex⟩
    .obtain⟨_,_,_,_,o,_,_,e,ex,_⟩:=I.hok p _ hk;exact⟨o,e,ex⟩
   obtain⟨o,e,ex⟩:=z;refine⟨⟨o,e,ex.1⟩,fun a d=>?_⟩;cases d;exact⟨o,e,ex.2.1⟩
  .obtain⟨o,_,_,_,e,ex,_⟩:=I.hok p _ hk;refine⟨⟨o,e,ex.1⟩,fun a d=>?_⟩;cases d;exact⟨o,e,ex.2.1⟩
 |_=>exact False.elim ty
def Fl(K:Wi)(T:String)(r:V->List V->Hp->VK->Prop)(to:TE):TE:=fun σ H Q=>to σ H fun x H1=>A6 K T x H1/\r x [] H1 Q
def CH(K:Wi)(T:String)(r:V->List V->Hp->VK->Prop)(to:TE)(t:TA):TE:=fun σ H Q=>to σ H fun x H1=>A6 K T x H1/\t σ H1 fun xs H2=>r x xs H2 Q
variable{o e:Wo}{es:List Expr}{to:TE}{t:TA}{name:Str}{apos cpos:Pos}{T id:String}{r:V->List V->Hp->VK->Prop}
theorem tH(pa:PlainAttrs T)(slot:Slot T name id)(hty:typeOf (.builtin id)=pure (.type "method_descriptor"))(hm:Au X id r)(ho:PE X o to)
  (hbase:attributeBase o name X.env (eval o X.env)=eval o X.env:=by rfl) (hline:(apos.endLine==cpos.line)=true:=by rfl):PE X (.Call (.Attribute o name apos) [] [] cpos) (Fl X.K T r to):=by
 intro pins s σ H Q I h;refine wpAny_Call_method0_late hbase hline (WW (ho pins s σ H _ I h) fun v c ⟨x,H1,b,a,ty,d⟩=>?_);obtain⟨h1,h2⟩:=QV b a ty;exact⟨T,id,pa,slot,hty,h1,h2,Calls.callWith_builtin rfl (PySem.evalArgs_none (hm pins c σ H1 x [] v [] Q b a .nil d))⟩
theorem tP(pa:PlainAttrs T)(slot:Slot T name id)(hty:typeOf (.builtin id)=pure (.type "method_descriptor"))(hm:Au X id r)(ho:PE X o to)(ha:PA X (e::es) t)
  (hbase:attributeBase o name X.env (eval o X.env)=eval o X.env:=by rfl)
  (hfew : ((backTo cpos (starEach (e :: es) X.env)).all (fun x => !x.1) && (backToKw cpos (keywordEach [] X.env)).all (fun x => x.1.isSome)
   && decide ((e :: es).length + ([] : List Keyword).length + (if ([] : List Keyword).isEmpty then 0 else 1) < 30)) = true := by rfl)
  (hline:(apos.endLine==cpos.line)=true:=by rfl) (hs:starEach (e::es) X.env=(false,eval e X.env)::starEach es X.env:=by rfl) (hplain:(backTo cpos (starEach es X.env)).any (·.1)=false:=by rfl):
  PE X (.Call (.Attribute o name apos) (e::es) [] cpos) (CH X.K T r to t):=by
 intro pins s σ H Q I h;refine wpAny_Call_method_late hbase hfew hline rfl (WW (ho pins s σ H _ I h) fun v i ⟨x,H1,c,a,ty,p⟩=>?_);obtain⟨h1,h2⟩:=QV c a ty;refine⟨T,id,pa,slot,hty,h1,h2,?_⟩;have b:=ha cpos pins i σ H1 _ c p;rw[hs]at b ⊢;refine Calls.callWith_builtin (by show(false||(backTo cpos (starEach es X.env)).any (·.1))=false;rw[hplain] <;> rfl) (Calls.evalArgs_plain ?_);exact WW b fun d f ⟨vs,H2,q,j,n⟩=>hm pins f σ H2 x vs v d Q q a j n
end
def ML(X:Cx)(id:String)(r:V->List V->Hp->VK->Prop):Prop:=
 ∀ (pins:Wb) (s:We) (σ:St) (H:Hp) (x:V) (xs:List V) (v:Wj) (us:Wm) (Q:VK),Wv X pins σ H s->WJ x v->WD xs us->r x xs H Q->
  wpAny (model X.prog X.w) X.A (call (.builtin id) (v::us)) (EP X pins σ Q) X.xe s
theorem WD.one:∀{x:V} {us:Wm},WD [x] us->∃u,us=[u]/\WJ x u
 |_,_,.cons r .nil=>⟨_,rfl,r⟩
theorem WD.zero:∀{us:Wm},WD [] us->us=[]
 |_,.nil=>rfl
theorem WD.dropLast{xs:List V}{us:Wm}(h:WD xs us):WD xs.dropLast us.dropLast:=by
 induction h with
 |nil=>exact .nil
 |cons r t ih=>
  cases t with
  |nil=>exact .nil
  |cons q t'=>exact .cons r ih
theorem wE{α:Type}(l:List α):l.eraseIdx (l.length - 1)=l.dropLast:=by
 induction l with
 |nil=>rfl
 |cons a r ih=>
  cases r with
  |nil=>rfl
  |cons b r=>
   have e:(a::b::r).length - 1=((b::r).length - 1)+ 1:=by
    have h1:(a::b::r).length=r.length+ 2:=rfl;have h2:(b::r).length=r.length+ 1:=rfl
    lia
   rw[e,List.eraseIdx_cons_succ,ih]
   all_goals rfl
section
variable{X:Cx}{pins:Wb}{σ:St}{H:Hp}{s:We}{l b:Wk}{xs ys zs:List V}
theorem Wv.lset{its its':Wm}{n:Nat}{f:Array Value->Array Value}{t':Nat}(I:Wv X pins σ H s)(hH:H l=some (.lst xs))
  (e:s.heap.get? l=some {cls:=.type "list",data:=.seq its.toArray n}) (hf:f its.toArray=its'.toArray) (hv:WD ys its') (hz:ys.length <=sizeLine):
  Wv X pins σ (upd H l (.lst ys)) {s with heap:=s.heap.update l (Obj.mapSeq f),toks:=t'}:=by
 have q:=PySem.IsL.update e f;rw[hf]at q;refine I.write (x:=l) (e:=l) (by rw[hH];exact trivial) (.inl rfl) (fun c u b a=>(YH s.heap (Obj.mapSeq f) (Ne.symm b)).trans a) ⟨_,q⟩ ?_;exact⟨hz,its',_,hv,q⟩
theorem Wv.lnew{its:Wm}{t':Nat}(I:Wv X pins σ H s)(hv:WD ys its)(hz:ys.length <=sizeLine):
  Wv X pins σ (upd H s.heap.objs.size (.lst ys)) {s with heap:=s.heap.push {cls:=.type "list",data:=.seq its.toArray},toks:=t'}:=
 I.laid (fun _ _ q=>Y8 _ q) (Y6 _) ⟨hz,its,0,hv,Yc _ rfl⟩
theorem Wv.fresh(I:Wv X pins σ H s):H s.heap.objs.size=none:=I.hok.fresh (Y6 _)
theorem Wv.lstM(I:Wv X pins σ H s)(hH:H l=some (.lst xs)):xs.length <=sizeLine/\∃ (its:Wm) (n:Nat),WD xs its/\xs.length=its.length/\s.heap.get? l=some {cls:=.type "list",data:=.seq its.toArray n}:=by
 obtain⟨z,its,n,r,e⟩:=I.hok l _ hH;exact⟨z,its,n,r,r.length,e⟩
theorem w9{n:Nat}(h:n <=sizeLine):Builtin.List.listTooLong n=false:=by
 unfold Builtin.List.listTooLong;exact Yp (by lia)
end
section
variable{X:Cx}
def Ki:V->List V->Hp->VK->Prop:=fun x vs H Q=>∃l xs y,x= .ref l/\vs=[y]/\H l=some (.lst xs)/\xs.length < sizeLine/\Q .non (upd H l (.lst (xs++[y])))
theorem Gf:ML X "list.append" Ki:=by
 intro pins s σ H x vs v f Q I c d h;obtain⟨l,xs,y,rfl,rfl,b,i,q⟩:=h;cases c;obtain⟨u,rfl,ru⟩:=d.one;obtain⟨z,a,n,r,j,e⟩:=I.lstM b;refine call_meets F.slot_list_append ⟨_,e,rfl⟩ F.entry_list_append (F.args_list_append_2 _ _) (PySem.list_append l a.toArray n u (by rw[Yh];lia)) ⟨e,?_⟩;refine⟨.non,_,I.lset (its':=a++[u]) b e (by simp) (r.append (.cons ru .nil)) ?_,rfl,q⟩;rw[Ys,Ui]
 lia
def FA:V->List V->Hp->VK->Prop:=fun x vs H Q=>∃l b xs zs,x= .ref l/\vs=[.ref b]/\H l=some (.lst xs)/\H b=some (.lst zs)/\xs.length+ zs.length <=sizeLine/\Q .non (upd H l (.lst (xs++zs)))
theorem Gg:ML X "list.extend" FA:=by
 intro pins s σ H x vs v us Q I i j h;obtain⟨l,b,xs,zs,rfl,rfl,f,y,hz,q⟩:=h;cases i;obtain⟨u,rfl,ru⟩:=j.one;cases ru;obtain⟨z,its,n,r,hl,e⟩:=I.lstM f;obtain⟨z2,a,w,p,hl2,e2⟩:=I.lstM y;have d:its.toArray.size+ a.toArray.size <=sizeLine:=by rw[Yh,Yh];lia
 have c:¬(!its.toArray.isEmpty && Builtin.List.listTooLong (its.toArray.size+ a.toArray.size))=true:=by
  rw[w9 d,Bool.and_false];exact Yi
 refine call_meets F.slot_list_extend ⟨_,e,rfl⟩ F.entry_list_extend (F.args_list_extend_2 _ _)
  (AutoSeq1.list_extend_list_list_0 l its.toArray n b a.toArray w c (by rw[Yh];lia) (by lia)) ⟨e,e2,?_⟩
 refine⟨.non,_,I.lset (its':=its++a) f e (by simp) (r.append p) ?_,rfl,q⟩;rw[Ys]
 lia
def j4:V->List V->Hp->VK->Prop:=fun x vs H Q=>∃l xs y,x= .ref l/\vs=[]/\H l=some (.lst xs)/\xs[xs.length - 1]?=some y/\Q y (upd H l (.lst xs.dropLast))
theorem Ej:ML X "list.pop" j4:=by
 intro pins s σ H x vs v us Q I f i h;obtain⟨l,xs,y,rfl,rfl,d,j,q⟩:=h;cases f;have c:=i.zero;subst c;obtain⟨z,a,n,r,w,e⟩:=I.lstM d;obtain⟨u,p,ru⟩:=r.get j;have b:a.toArray[a.toArray.size - 1]?=some u:=by
  show a.toArray[a.length - 1]?=some u;rw[<-Array.getElem?_toList,<-w];exact p
 refine call_meets F.slot_list_pop ⟨_,e,rfl⟩ F.entry_list_pop (F.args_list_pop_1 _) (MeetsSeq.list_pop_last l a.toArray n u b (by rw[Yh];lia)) ⟨e,?_⟩;refine⟨y,_,I.lset (its':=a.dropLast) d e ?_ r.dropLast ?_,ru,q⟩
 .show a.toArray.eraseIdxIfInBounds (a.toArray.size - 1)=a.dropLast.toArray;rw[Yh,List.eraseIdxIfInBounds_toArray,wE]
 .rw[V9]
  lia
def Hq:R2:=fun x y H Q=>∃l b xs zs,x= .ref l/\y= .ref b/\H l=some (.lst xs)/\H b=some (.lst zs)/\xs.length+ zs.length <=sizeLine/\∀p,H p=none->Q (.ref p) (upd H p (.lst (xs++zs)))
theorem En:JW X (binaryOp .Add) Hq:=by
 intro pins s σ H x y v u Q I f d h;obtain⟨l,b,xs,zs,rfl,rfl,j,p,hz,q⟩:=h;cases f;cases d;obtain⟨z,c,n,r,hl,e⟩:=I.lstM j;obtain⟨z2,a,n2,i,hl2,e2⟩:=I.lstM p;refine PySem.P.add_list e e2 ?_ (by rw[Yh,Yh];lia);have w:c.toArray++a.toArray=(c++a).toArray:=by simp
 rw[w];exact⟨.ref _,_,I.lnew (t':=s.toks) (r.append i) (by rw[Ys];lia),rfl,q _ I.fresh⟩
end
end L2
namespace Att
open PySem PySem.W PySem.Calls PyProof.Rows
theorem tV{P:Params}{h:Wn}:∀ (ns:Wl) (vs:Wm),WellAll P h vs (ns.map WData.int)->IntsAre vs ns:=by
 intro ns
 induction ns with
 |nil=>
  intro vs w;rw[List.map_nil]at w;cases w;exact .nil
 |cons n ns ih=>
  intro vs w;rw[List.map_cons]at w;cases w with
  |cons a b=>
   cases a;exact .cons _ _ (ih _ b)
theorem rE{l:OpenLaw}{n:Nat}(hn:l.most=some n){P:Params}{h:Wn}{args:List WData}{vals:Wm}
  (hpre:l.row.toRowW.claim.pre args=true) (hwl:WellAll P h vals args):
  ∃a vs ns,vals=[Value.ref a]/\args=[WData.list (ns.map WData.int)]/\h.get? a=some {cls:=.type "list",data:=.seq vs.toArray}/\IntsAre vs ns/\ns.length <=n:=by
 have f:WShape.hasAll [] args [.list .int]=true:=(pre_splitW hpre).1;have i:l.pre.holds [] {args:=args}=true:=(pre_splitW hpre).2;obtain⟨d,r,rfl,h1,h2⟩:=hasAllW_cons f;obtain rfl:=hasAllW_nil h2;obtain⟨xs,rfl,p⟩:=hasW_list h1;obtain⟨ns,rfl⟩:=items_int p;have e:ns.length <=n:=by
  unfold OpenLaw.pre at i;have c:(WTm.not (.lt (.lit (.int (n:Int))) (.len (.arg 0)))).holds [] {args:=[.list (ns.map .int)]}=true:=by
   have c:=(holds_andW i).1;rw[hn]at c;exact c
  have b:=condW_of c (w_not (w_lt w_lit (w_len_list (w_arg rfl))));rw[Y1]at b;refine Nat.le_of_not_lt fun q=>?_
  have j:(n:Int) < ((ns.length:Nat):Int):=by lia
  first
   |(rw[Yd j]at b;exact absurd b (by decide))
   |(simp at b;lia)
 cases hwl with
 |cons w1 w2=>
  cases w2;cases w1 with
  |list ho hall=>exact⟨_,_,ns,rfl,rfl,ho,tV ns _ hall,e⟩
theorem gS(l:OpenLaw)(args:List WData):l.row.toRowW.claim.post args (.bool true) args=true:=
 postW_of (r:=l.row.toRowW) (X:=(true==true))
  (show WShape.has [] (.bool true) .bool=true by first|rfl|decide|simp[WShape.has,WShape.arms,WShape.armsAll])
  (show(WTm.eq .res (.lit (.bool true))).value [] {args:=args,res:=some (.bool true),after:=args}=some (.bool (true==true)) from w_eq_bool (w_res rfl) w_lit) rfl
theorem attach_call{l:OpenLaw}{n:Nat}{q:Wc}{loose:List Str}{XP:(Str->Option Value)->Heap->Prop}{YP:World->Heap->Prop}{d:DefRec}
  (hn:l.most=some n) (hdf:d.params.defaults=[])
  (call : ∀ (w : World) (s₀ s₁ : Shared) (mg mb : Str -> Option Value) (fa : Addr) (o : Obj) (pm cd doc : Value) (a : Addr) (vs : List Value) (ns : List Int),
   Ground q loose [] XP w s₀ mg mb s₁.heap->YP w s₁.heap->
   s₁.heap.get? fa=some o->o.data= .func (docDef d.name d.params d.body d.scope pm cd doc)->s₁.heap.CodeRec cd d.name->mg d.name=some (.ref fa)->
   s₁.heap.get? a=some {cls:=.type "list",data:=.seq vs.toArray}->IntsAre vs ns->ns.length <=n->s₁.gens=#[]->
   codeAny (model l.prog w) callerA (.call (.ref fa) ⟨[.ref a], []⟩) (fun r s' => r = .ok (.ret (.bool true)) /\ OldK s₁.heap s'.heap /\ s'.os = s₁.os /\ AllBare s'.gens) s₁) :
  WalkO q loose XP YP l.row.toRowW d [] (fun f vs=>PySem.call f vs):=by
 intro w s₀ s₁ mg mb G Y fa o pm cd doc dV kV x hd p s j hg args u as c z hrd i hlo;obtain rfl:dV= .none:=Dflts.none s hdf;obtain rfl:kV= .none:=Dflts.noKw s;obtain⟨a,vs,ns,rfl,rfl,e,b,h⟩:=rE hn c i;refine enter_call (Uh (call w s₀ s₁ mg mb fa o pm cd doc a vs ns G Y x (fd_plain hd) p j e b h hg) fun r s' v=>?_);obtain⟨rfl,h2,h3,h4⟩:=v;exact⟨.inl ⟨.bool true,.bool true,[],rfl,fun _=>rfl,.bool true,gS l _,fun _=>⟨List.Pairwise.nil,fun _ y=>(nomatch y)⟩⟩,h2,h3,h4⟩
section
variable{prog:Wc}{w:Wh}{A:Wg}{E:W9}{s:We}{K:Frag}
def Ig(h:Wn)(L d:Wk):List (Addr×Obj):=(List.range h.objs.size).filterMap fun a=>if a=L\/a=d then none else(h.get? a).map fun o=>(a,o)
end
end Att
namespace L2
open PySem PySem.Spec PyProof.Rows
theorem Qo:∀{vs:Wm} {ns:Wl},IntsAre vs ns->WD (ns.map V.int) vs
 |_,_,.nil=>.nil
 |_,_,.cons n t h=>.cons ⟨t,rfl⟩ (Qo h)
def HV(H:Hp):Prop:=∀b,H b=none\/∃o xs,H b=some (.frz o (.lst xs))
theorem wZ{P:Wc}{w:Wh}{K:Wi}{mg mb:W8}{CX:Gy}{k:Nat}{fa a:Wk}{fd:Wf}{x:Str}{sp:Sp}{s₁:We}{vs:Wm}{ns:Wl}
  (KX:K.In s₁.heap) (hns:s₁.heap.Ns mainGlobals mg) (hb:s₁.heap.Ns builtinsNs mb) (hbb:∀x:Str,x≠"__name__"->mb x=bootBuiltins x) (hlim:s₁.heap.NoLimit) (hg:s₁.gens=#[])
  (ha:s₁.heap.get? a=some {cls:=.type "list",data:=.seq vs.toArray}) (hi:IntsAre vs ns) (hl:ns.length <=sizeLine) (hr:Room k callerA)
  (F:∀base:Heap,K.In base->base.Ns mainGlobals mg->Wz P w K mg base CX k fa fd [x] sp) (hbind:∀ (s:We) (u:Wj),BindsTo s fd ⟨[u],[]⟩ [(x,u)])
  (hsp:∀H:Hp,HV H->WA K H a (ns.map V.int)->sp [.ref a] H (fun v _=>v= .bl true) fun _ _ _=>False)
  (hCX:∀H e s',CX [] H s₁ (fun _ _ _=>False) e s'->False):
  codeAny (model P w) callerA (.call (.ref fa) ⟨[.ref a],[]⟩) (fun r s'=>r= .ok (.ret (.bool true))/\OldK s₁.heap s'.heap/\s'.os=s₁.os/\AllBare s'.gens) s₁:=by
 have rv:=Qo hi;have aa:=hi.length
 -- from an abstract heap in which nothing but the script may be tracked
 have j:∀H:Hp,HV H->WA K H a (ns.map V.int)->Tt P w H s₁.heap->(∀b,H b≠none->b=a)->(H a≠none->K.lookup a=none)->
   codeAny (model P w) callerA (.call (.ref fa) ⟨[.ref a],[]⟩) (fun r s'=>r= .ok (.ret (.bool true))/\OldK s₁.heap s'.heap/\s'.os=s₁.os/\AllBare s'.gens) s₁:=by
  intro H hO hS p hA hK;have c:∀{b:Wk} {o:Obj},s₁.heap.get? b=some o->H b=none->(Rj s₁.heap H).get? b=some o:=fun e n=>jH e n
  have noA:∀{b:Wk} {o:Obj} {es:Array DictEntry} {ep:Nat},s₁.heap.get? b=some o->o.data= .dict es ep->H b=none:=fun {b o es ep} e d=>by
   cases q:H b with
   |none=>rfl
   |some u=>
    have e':b=a:=hA b (by rw[q];simp);subst e';rw[ha]at e;cases e;have d':Data.seq vs.toArray _=Data.dict es ep:=d;cases d'
  have f:∀{b:Wk} {m:W8},s₁.heap.Ns b m->(Rj s₁.heap H).Ns b m:=fun {b m} ⟨o,es,ep,e,d,r⟩=>⟨o,es,ep,c e (noA e d),d,r⟩
  have y : K.In (Rj s₁.heap H) := fun b o e => c (KX b o e) (by
   cases q:H b with
   |none=>rfl
   |some u=>
    have e' : b = a := hA b (by rw [q]; simp);subst e';rw [hK (by rw [q]; simp)] at e; cases e)
  have hM:Mod K mg (Rj s₁.heap H):=⟨y,f hns,⟨mb,f hb,hbb⟩,let ⟨mc,h1,h2⟩:=hlim;⟨mc,f h1,h2⟩⟩;have e0:DG P w K mg (Rj s₁.heap H) callerA [] s₁ H:=⟨rfl,hM,fun b o e=>rJ e,W4 (dL _ _),trivial,fun b hb=>absurd (show b∈([]:List Addr) from hb) (by simp),p,.of_eq hg⟩;refine Uh ((F _ y (f hns)).run callerA [] s₁ H ⟨[.ref a],[]⟩ [.ref a] [.ref a] _ _ hr e0 (hbind s₁ (.ref a)) (.cons rfl .nil) (hsp H hO hS)) fun r s' h=>?_
  cases r with
  |error e=>exact(hCX H e s' h).elim
  |ok fl=>
   cases fl with
   |next=>exact False.elim h
   |brk=>exact False.elim h
   |cont=>exact False.elim h
   |ret u=>
    obtain⟨v,H',os,bare,un,ab,r',q⟩:=h;have q':v= .bl true:=q;subst q';obtain rfl:u=Value.bool true:=r';refine⟨rfl,OldK.of_keep fun b o e=>?_,os,bare⟩;cases q:H b with
    |none=>exact un.keep b o e q (by intro z;exact absurd (show b∈([]:List Addr) from z) (by simp)) (by simp)
    |some u=>
     rcases hO b with z|⟨ob,xs,z⟩
     .rw[q]at z;cases z
     .have z2:=un.frzs b ob _ z;obtain⟨e1,_⟩:=p b _ z;obtain⟨e2,_⟩:=ab b _ z2;rw[e]at e1;cases e1;exact e2
 cases hk:K.lookup a with
 |some o=>
  -- the script is one of the module's own objects
  have e:=KX a o hk;rw[ha]at e;cases e;refine j (fun _=>none) (fun _=>.inl rfl) (.inr ⟨_,vs.toArray,_,hk,rfl,rfl,rfl,by rw[Yh,aa];exact hl,by simpa using rv⟩) (fun b u z=>by have i:(none:Option HO)=some u:=z;cases i) (fun b z=>absurd rfl z) fun z=>absurd rfl z
 |none=>
  refine j (fun b=>if b=a then some (.frz {cls:=.type "list",data:=.seq vs.toArray} (.lst (ns.map V.int))) else none) (fun b=>?_) (.inl (.inr ⟨{cls:=.type "list",data:=.seq vs.toArray},Y5 rfl⟩)) (fun b u z=>?_) (fun b z=>?_) fun _=>hk
  .by_cases hb:b=a
   .exact .inr ⟨_,_,Y5 hb⟩
   .exact .inl (Y2 hb)
  .by_cases hb:b=a
   .have i:=(Y5 hb).symm.trans z;cases i;subst hb;exact⟨ha,by rw[Y1];exact hl,vs,_,rv,ha⟩
   .have i:=(Y2 hb).symm.trans z;cases i
  .by_cases hb:b=a
   .exact hb
   .exact absurd (Y2 hb) z
theorem Cr{l:W.OpenLaw}{n k:Nat}{q:Wc}{loose:List Str}{XP:(Str->Option Value)->Heap->Prop}{YP:World->Heap->Prop}{d:DefRec}{K:Params->W.Frag}{CX:World->Gy}{sp:World->Sp}{x:Str}
  (hn:l.most=some n) (hn2:n <=sizeLine) (hdf:d.params.defaults=[]) (hr:Room k callerA)
  (hY:∀ (w:Wh) (h:Wn),YP w h->(K w.params).In h)
  (F : ∀ (w : World) (mg : Str -> Option Value) (fa : Addr) (h : Heap), (K w.params).In h -> h.Ns mainGlobals mg -> mg d.name = some (.ref fa) ->
   ∃fd:FuncData,(∀ (s:We) (u:Wj),BindsTo s fd ⟨[u],[]⟩ [(x,u)])/\
    ∀ base : Heap, (K w.params).In base -> base.Ns mainGlobals mg -> Wz l.prog w (K w.params) mg base (CX w) k fa fd [x] (sp w))
  (hsp:∀ (w:Wh) (H:Hp) (a:Wk) (ns:Wl),ns.length <=n->HV H->WA (K w.params) H a (ns.map V.int)->sp w [.ref a] H (fun v _=>v= .bl true) fun _ _ _=>False)
  (hCX:∀ (w:Wh) (H:Hp) (s:We) (e:Wj) (s':We),CX w [] H s (fun _ _ _=>False) e s'->False):
  W.WalkO q loose XP YP l.row.toRowW d [] (fun f vs=>PySem.call f vs):=by
 refine Att.attach_call hn hdf fun w s₀ y mg mb fa o pm cd doc a vs ns G Y ho hd hcd p j i c z=>?_
 have r:=hY w _ Y;obtain⟨fd,hb,hF⟩:=F w mg fa _ r G.T.g p;exact wZ r G.T.g G.T.b G.T.builtins G.T.nolimit z j i (YD c hn2) hr hF hb (fun H hO hS=>hsp w H a ns c hO hS) fun H e s'=>hCX w H y e s'
def To(s:Stmt)(j:Nat):Stmt:=match s with
 | .ClassDef _ _ _ body _ _ _ _ _ _ _=>body.getD j (.Pass ⟨0,0,0,0⟩)
 |_=>.Pass ⟨0,0,0,0⟩
def MT(s:Stmt):Arguments:=match s with
 | .FunctionDef _ a _ _ _ _ _ _ _ _=>a
 |_=>{posonlyargs:=[],args:=[],vararg:=none,kwonlyargs:=[],kw_defaults:=[],kwarg:=none,defaults:=[]}
def WN(s:Stmt):List Stmt:=match s with
 | .FunctionDef _ _ b _ _ _ _ _ _ _=>b
 |_=>[]
def Wp(s:Stmt):Scope:=match s with
 | .FunctionDef _ _ _ _ _ _ sc _ _ _=>sc
 |_=>{kind:=.function,names:=[],isGenerator:=false,isCoroutine:=false}
abbrev Jf:Gy:=fun _ _ _ _ _ _=>False
abbrev E0:XK:=fun _ _ _=>False
theorem BW{X:Cx}:BQ Jf X E0:=fun _ _ _ _ _ _ _ h=>h.elim
structure JE(K:Wi)(x qual:Str)(st:Stmt)(f:Wk)(fd:Wf):Prop where
 ex:∃ (oc:Wj) (od:Option Addr) (kV doc pm:Wj) (an:Option Addr) (cdv ct:Wj) (osl:Array (Option Value)),
  fd=W.fnOf x qual (MT st) (WN st) (Wp st) .none kV doc pm an cdv ct/\K.lookup f=some ⟨oc,od,.func fd,osl⟩/\W.codeIn K cdv qual=true
 kp:W.keepIn K (.ref f)=true
section
variable{P:Wc}{w:Wh}{K:Wi}{mg:W8}{base:Wn}
theorem JE.ok{x qual:Str}{st:Stmt}{f:Wk}{fd:Wf}{N ps:List Str}{k:Nat}{sp:Sp}(F:JE K x qual st f fd)(S:Jx N ps (Wp st))(len:∀vs H Q E,sp vs H Q E->vs.length=ps.length)
  (hbody : ∀ (cdv : Value) (A : Around) (outer : List Env) (s : Shared) (H : Hp) (vs : List V) (Q : VK) (E : XK), Room k (A.deeper (envOfC qual (Wp st) s.heap.objs.size f cdv)) -> sp vs H Q E ->
   ∃ t, MP (Mi Jf P w K mg base N qual (Wp st) f cdv A outer s H E).nox (WN st) t /\ t { nx := fun _ H' => Q .non H', rt := Q } (start N vs) H) : Wz P w K mg base Jf (k + 1) f fd ps sp := by
 obtain⟨p,n,kV,i,j,r,cdv,ct,e,rfl,c,b⟩:=F.ex;refine E7 c b S len fun A outer s H vs Q E d a=>?_
 obtain⟨t,h,q⟩:=hbody cdv A outer s H vs Q E d a;exact⟨t,h.nox,q⟩
theorem JE.binds{x qual:Str}{st:Stmt}{f:Wk}{fd:Wf}{ps:List Str}(F:JE K x qual st f fd)
  (h:∀ (kV doc pm:Wj) (an:Option Addr) (cdv ct:Wj) (us:Wm),us.length=ps.length->bindArgs (W.fnOf x qual (MT st) (WN st) (Wp st) .none kV doc pm an cdv ct) ⟨us,[]⟩=pure (ps.zip us)):T3 K fd ps []:=by
 obtain⟨d,c,kV,doc,pm,an,cdv,ct,a,rfl,e,b⟩:=F.ex;exact .all (h kV doc pm an cdv ct)
theorem K2{x qual:Str}{st:Stmt}{f:Wk}{oc:Wj}{od an:Option Addr}{osl:Array (Option Value)}{kV doc pm cdv ct:Wj}(l:K.lookup f=some ⟨oc,od,.func (W.fnOf x qual (MT st) (WN st) (Wp st) .none kV doc pm an cdv ct),osl⟩)
  (c:W.codeIn K cdv qual=true) (k:W.keepIn K (.ref f)=true):JE K x qual st f (W.fnOf x qual (MT st) (WN st) (Wp st) .none kV doc pm an cdv ct):=⟨⟨oc,od,kV,doc,pm,an,cdv,ct,osl,rfl,l,c⟩,k⟩
end
theorem TZ{A:Wg}{k:Nat}(hr:Room k A):A.units+ 1 < cLine:=Ya (Nat.add_le_add_left (by decide:1 <=64) _) hr.units
section
variable{X:Cx}
theorem pv(i:Nat){x:Str}{pos:Pos}(hN:X.N[i]?=some x:=by rfl)(hv:Ac X.env.scope x:=by first|exact Or.inl rfl|exact Or.inr (Or.inl rfl)|exact Or.inr (Or.inr rfl))(hd:(x==("__debug__":Str))=false:=by decide)
  (hcd:(x==("__classdict__":Str))=false:=by decide):PE X (.Name x pos) (BZ i):=vK hN hv hd hcd
end
theorem Tj{c A B:Prop}[Decidable c](h1:c->A)(h2:¬c->B):if c then A else B:=by
 by_cases h:c
 .rw[Y5 h];exact h1 h
 .rw[Y2 h];exact h2 h
def Ws(H H':Hp):Prop:=∀b o,H b=some o->H' b=some o
theorem Ws.refl(H:Hp):Ws H H:=fun _ _ h=>h
theorem Ws.trans{H H1 H2:Hp}(a:Ws H H1)(b:Ws H1 H2):Ws H H2:=fun c o h=>b c o (a c o h)
theorem Ws.free{H H':Hp}(e:Ws H H'){l:Wk}(h:H' l=Option.none):H l=Option.none:=by
 cases q:H l with
 |none=>rfl
 |some o=>
  rw[e l o q]at h;cases h
end L2
set_option maxHeartbeats 4000000
namespace L2
open PySem PySem.Spec PyProof.Rows
theorem LI{env:Env}:∀ (names:List (Str×NameKind)) (cs:List (Str×Addr)),(∀x,(x,NameKind.free)∈names->∃c,env.cells.lookup x=some c)->
  (∀x c,cs.lookup x=some c->env.cells.lookup x=some c)->
  ∃cl,(forIn names cs fun(p:Str×NameKind) (r:List (Str×Addr))=>(match p with|(name,kind)=>(if(kind==NameKind.free)=true then(do let a <-cellOf env name;pure (ForInStep.yield ((name,a)::r))) else pure (ForInStep.yield r)):Sem (ForInStep (List (Str×Addr)))))=pure cl/\
   (∀x c,cl.lookup x=some c->env.cells.lookup x=some c)/\(∀x,(x,NameKind.free)∈names->∃c,cl.lookup x=some c)/\∀x,(∃c,cs.lookup x=some c)->∃c,cl.lookup x=some c
 |[],cs,_,h2=>⟨cs,rfl,h2,(fun _ h=>nomatch h),fun _ h=>h⟩
 |(n,k)::r,cs,h1,h2=>by
  by_cases hk:k=NameKind.free
  .subst hk;obtain ⟨c, hc⟩ := h1 n YC;obtain ⟨cl, e, a, b, d⟩ := LI r ((n, c) :: cs) (fun x f => h1 x (Yk _ f)) (fun x i f => by
    rw[U0]at f;cases q:x==n with
    |true=>rw[q]at f;cases f;rw[eq_of_beq q];exact hc
    | false => rw [q] at f; exact h2 x i f)
   refine⟨cl,?_,a,fun x f=>?_,fun x ⟨i,f⟩=>?_⟩
   .rw[List.forIn_cons];have:cellOf env n=pure c:=by unfold cellOf;rw[hc]
    simp only[this,beq_self_eq_true,if_true];exact e
   .rcases Yl.mp f with z|z
    .cases z;exact d _ ⟨c,by simp[U0]⟩
    .exact b x z
   .refine d x ?_;rw[U0];cases q:x==n with
    |true=>exact⟨c,rfl⟩
    |false=>exact⟨i,f⟩
  .obtain⟨cl,e,a,b,d⟩:=LI r cs (fun x f=>h1 x (Yk _ f)) h2;have j:(k==NameKind.free)=false:=by simpa using hk
   refine⟨cl,?_,a,fun x f=>?_,d⟩
   .rw[List.forIn_cons];simp only[j,Bool.false_eq_true,if_false];exact e
   .rcases Yl.mp f with z|z
    .cases z;exact absurd rfl hk
    .exact b x z
theorem P9{scope:Scope}{env:Env}(h:∀x,(x,NameKind.free)∈scope.names->∃c,env.cells.lookup x=some c):
  ∃cl,closureFor scope env=pure cl/\(∀x c,cl.lookup x=some c->env.cells.lookup x=some c)/\∀x,(x,NameKind.free)∈scope.names->∃c,cl.lookup x=some c:=by
 obtain⟨cl,e,a,b,_⟩:=LI scope.names [] h (fun x c z=>nomatch z);refine⟨cl,?_,a,b⟩;unfold closureFor;show(forIn scope.names [] _ >>=fun d=>pure d)=pure cl;rw[show(forIn scope.names ([]:List (Str×Addr)) _:Sem _)=pure cl from e];rfl
theorem Io{env:Env}{x:Str}:∀{names:List (Str×NameKind)} {k:NameKind},(names.map fun(n,k)=>if(k==NameKind.free && env.scope.kind== .function && env.kindOf n==some .cell) then(n,NameKind.cell) else(n,k)).lookup x=some k->
  (x,k)∈names\/(k=NameKind.cell/\(x,NameKind.free)∈names)
 |[],_,h=>by simp at h
 |(n,k')::r,k,h=>by
  have ih:=@Io env x r k;have h':List.lookup x ((if(k'==NameKind.free && env.scope.kind== .function && env.kindOf n==some .cell)=true then(n,NameKind.cell) else(n,k'))::(r.map fun(n,k)=>if(k==NameKind.free && env.scope.kind== .function && env.kindOf n==some .cell) then(n,NameKind.cell) else(n,k)))=some k:=h
  by_cases hc:(k'==NameKind.free && env.scope.kind== .function && env.kindOf n==some .cell)=true
  .rw[Y5 hc,U0]at h';cases q:x==n with
   |true=>
    rw[q]at h';have e:NameKind.cell=k:=Option.some.inj h';have a:k'=NameKind.free:=by
     have:=(X0 _ _▸(X0 _ _▸hc).1).1;exact eq_of_beq this
    have ex:x=n:=eq_of_beq q;subst a ex;exact .inr ⟨e.symm,YC⟩
   |false=>
    rw[q]at h';rcases ih h' with z|⟨z1,z2⟩
    .exact .inl (Yk _ z)
    .exact .inr ⟨z1,Yk _ z2⟩
  .rw[Y2 hc,U0]at h';cases q:x==n with
   |true=>
    rw[q]at h';have e:k'=k:=Option.some.inj h';have ex:x=n:=eq_of_beq q;subst e ex;exact .inl YC
   |false=>
    rw[q]at h';rcases ih h' with z|⟨z1,z2⟩
    .exact .inl (Yk _ z)
    .exact .inr ⟨z1,Yk _ z2⟩
theorem ZJ{prog:Wc}{w:Wh}{A:Wg}{R:Result->Shared->Prop}{s:We}{elt target iter:Wo}{ifs:List Expr}{scope:Scope}{pos:Pos}{it acc:Wj}{env:Env}(I:Nat->Shared->Prop)
  (turn : ∀ n s, I n s -> wpAny (model prog w) A (pyNext it) (fun r s₁ => match r with
   |none=>R (.ok .next) s₁
   | some v => wpAny (model prog w) A (letOwnedTupleGo target it v) (fun _ s₀ => wpAny (model prog w) A (assign target env v) (fun _ s₂ =>
     wpAny (model prog w) A (forIn ifs true fun c r => if r = true then do let ok <- isTrue c env (eval c env); pure (ForInStep.yield ok) else pure (ForInStep.yield r)) (fun ok s₃ =>
      if ok = true then wpAny (model prog w) A (eval elt env) (fun x s₄ =>
       wpAny (model prog w) A (call (.builtin "list.append") [acc, x]) (fun _ s₅ => ∃ m, m < n /\ I m s₅) (fun _ _ => False) s₄) (fun _ _ => False) s₃
      else ∃ m, m < n /\ I m s₃) (fun _ _ => False) s₂) (fun _ _ => False) s₀) (fun _ _ => False) s₁) (fun _ _ => False) s)
  (n:Nat) (h:I n s):
  codeAny (model prog w) A (.compLoop (.ListComp elt [⟨target,iter,ifs,0⟩] scope pos) 0 it acc env) R s:=by
 refine codeAny_loop rfl I (fun n s j=>?_) n h;show wpAny _ A ((compTurn (.ListComp elt [⟨target,iter,ifs,0⟩] scope pos) 0 it acc env).onRaise (fun x=>do noteFrame x env;theTreesLotGoes x)) _ _ s;refine wpAny_noted (wpAny_noRaise ?_);rw[compTurn_list];refine Y0 (UY (Y0 (X9 (turn n s j) (fun r s₁ b=>?_) fun _ _ h'=>h')));cases r with
 |none=>exact Y4 b
 |some v=>
  refine Y0 (X9 b (fun _ s₀ i=>?_) fun _ _ h'=>h');refine Y0 (X9 i (fun _ s₂ f=>Y0 (X9 f (fun ok s₃ a=>?_) fun _ _ h'=>h')) fun _ _ h'=>h');cases ok with
  |false=>exact Y4 ⟨rfl,a⟩
  |true=>
   exact Y0 (Y0 (X9 a (fun x s₄ e=>Y0 (X9 e (fun _ s₅ d=>Y4 (Y4 ⟨rfl,d⟩)) fun _ _ h'=>h')) fun _ _ h'=>h'))
def Nc(X:Cx)(N':List Str)(scope:Scope)(cl:List (Str×Addr))(C:Wk)(s:We)(H:Hp)(ex:List Addr):Cx:=
 {X with N:=N',s₀:=s,H₀:=H,env:=compEnvC scope cl C X.env,outer:=X.stack,ex:=ex,fn:=fun _=>false,pn:=[],xe:=fun _ _=>False}
def N5(caps:List (Option Nat))(σ:St):St:=caps.map fun o=>o.bind fun j=>(σ[j]?).join
def Zr(N N':List Str)(scope:Scope)(caps:List (Option Nat)):Prop:=
 caps.length=N'.length/\∀ (i j:Nat) (x:Str),N'[i]?=some x->caps[i]?=some (some j)->N[j]?=some x/\(x,NameKind.free)∈scope.names/\∀k,(x,k)∈scope.names->k=NameKind.free
structure BX(X:Cx)(N':List Str)(scope:Scope)(caps:List (Option Nat)):Prop where
 kind:scope.kind= .function
 nocell:∀y∈scope.names,y.2≠ .cell
 locs:∀y∈scope.names,y.2= .local->scope.names.lookup y.1=some .local
 cap:Zr X.N N' scope caps
 vis:∀x,(x,NameKind.free)∈scope.names->X.env.kindOf x=some .cell\/X.env.kindOf x=some .free
def K6:TT:=fun _ H Q=>Q true H
def EI(caps:List (Option Nat))(g:TG)(tc:TT)(te:TE)(σ:St)(Q:VK)(J:It)(H1:Hp):Prop:=
 ∃W:Nat->Nat->List V->St->Hp->Prop,(∃m,W 0 m [] (N5 caps σ) H1)/\∀i m ys σ' H,W i m ys σ' H->
  (J.stop i H/\ys.length <=sizeLine/\∀p,H p=none->Q (.ref p) (upd H p (.lst ys)))\/
  (J.go i H /\ ys.length < sizeLine /\ ∃ N : List V -> St -> Hp -> Prop, (∀ ys σ H, N ys σ H -> ∃ m', m' < m /\ W (i + 1) m' ys σ H) /\ ∀ x H', J.yld i H x H' -> g x σ' H' fun σ2 H2 => tc σ2 H2 fun b H3 =>
   if b = true then te σ2 H3 fun y H4 => N (ys ++ [y]) σ2 H4 else N ys σ2 H3)
def GQ(caps:List (Option Nat))(wi:TI)(g:TG)(tc:TT)(te:TE):TE:=fun σ H Q=>wi σ H fun J H1=>EI caps g tc te σ Q J H1
def DW(X:Cx)(ifs:List Expr)(t:TT):Prop:=
 ∀ (pins:Wb) (s:We) (σ:St) (H:Hp) (Q:Bool->Hp->Prop),Wv X pins σ H s->t σ H Q->
  wpAny (model X.prog X.w) X.A (forIn ifs true fun c r=>if r=true then do let ok <-isTrue c X.env (eval c X.env);pure (ForInStep.yield ok) else pure (ForInStep.yield r)) (TP X pins σ Q) X.xe s
theorem DC{X:Cx}:DW X [] K6:=fun _ _ _ H _ I h=>wpAny_tests_nil ⟨H,I,h⟩
theorem Ah{X:Cx}{c:Wo}{t:TT}(h:PT X c t):DW X [c] t:=fun pins s σ H Q I q=>wpAny_tests_one (h pins s σ H Q I q)
section
variable{X:Cx}{elt tg iter:Wo}{ifs:List Expr}{scope:Scope}{pos:Pos}{N':List Str}{caps:List (Option Nat)}{wi:TI}{g:TG}{tc:TT}{te:TE}
def TR(its:Wm)(n:Nat):Obj:={cls:=.type "list",data:=.seq its.toArray n}
theorem So{pins:Wb}{s2:We}{σ:St}{H2:Hp}{J:It}{it:Wk}{fp:List Addr}{tn:Nat->Heap->Prop}{cl:List (Str×Addr)}{Q:VK}{RR:Value->Addr->Result->Shared->Prop}
  (S:BX X N' scope caps) (hc:X.calm=true)
  (hcl1:∀x c,cl.lookup x=some c->X.env.cells.lookup x=some c) (hcl2:∀x,(x,NameKind.free)∈scope.names->∃c,cl.lookup x=some c)
  (hg:∀cl C s H ex,PG (Nc X N' scope cl C s H ex) tg g) (ht:∀C,DW (Nc X N' scope cl C s2 H2 fp) ifs tc) (he:∀cl C s H ex,PE (Nc X N' scope cl C s H ex) elt te)
  (I:Wv X pins σ H2 s2) (T:Rq X.prog X.w X.K tg J fp it tn) (st:tn 0 s2.heap) (f2:∀b∈fp,Mx X pins H2 b)
  (W:Nat->Nat->List V->St->Hp->Prop) (w0:∃m,W 0 m [] (N5 caps σ) H2)
  (turn : ∀ i m ys σ' H, W i m ys σ' H -> (J.stop i H /\ ys.length <= sizeLine /\ ∀ p, H p = none -> Q (.ref p) (upd H p (.lst ys))) \/
   (J.go i H /\ ys.length < sizeLine /\ ∃ N : List V -> St -> Hp -> Prop, (∀ ys σ H, N ys σ H -> ∃ m', m' < m /\ W (i + 1) m' ys σ H) /\ ∀ x H', J.yld i H x H' -> g x σ' H' fun σ2 H2 => tc σ2 H2 fun b H3 =>
    if b = true then te σ2 H3 fun y H4 => N (ys ++ [y]) σ2 H4 else N ys σ2 H3))
  (hRR : ∀ D C oC m s' H', Wv X (pins ++ [(C, oC)]) σ H' s' -> s'.heap.Ns C m -> Q (.ref D) H' -> X.s₀.heap.objs.size <= C -> (∀ x c, X.env.cells.lookup x = some c -> c ≠ C) -> (∀ p ∈ X.pn ++ pins, p.1 ≠ C) -> s'.heap.get? C = some oC ->
   RR (.ref D) C (.ok .next) s') {E : Value -> Shared -> Prop} :
  wpAny (model X.prog X.w) X.A (newList []) (fun acc s₃ => wpAny (model X.prog X.w) X.A (newFunctionEnv scope X.env.globals cl [] X.env.qual none .none (some X.env)) (fun cenv s₄ =>
   codeAny (model X.prog X.w) X.A (.compStart (.ListComp elt [⟨tg, iter, ifs, 0⟩] scope pos) 0 (.ref it) acc { cenv with scope := relabel scope X.env }) (RR acc cenv.locals) s₄) E s₃) E s2 := by
 refine YM (wpAny_newFunctionEnv S.nocell (by intro y hy;simp at hy) (fun h₁ hns₁ hsb₁=>?_) S.kind);dsimp only at hns₁ hsb₁ ⊢;generalize hH2:s2.heap.push {cls:=.type "list",dict:=none,data:=.seq ([]:Wm).toArray}=HP at hns₁ hsb₁ ⊢;have hC:HP.objs.size=s2.heap.objs.size+ 1:=by rw[<-hH2,Xi]
 generalize hCC:HP.objs.size=C at hns₁ hsb₁ hC ⊢;have hDC:s2.heap.objs.size≠C:=by rw[hC];exact Yj (XZ _)
 have ab:∀b,b < s2.heap.objs.size->b≠C:=fun b f=>by rw[hC];exact Yj (Xh f)
 have old:∀b o,s2.heap.get? b=some o->h₁.get? b=some o:=fun b o e=>hsb₁.extBut b o (ab b (Ye e)) (Y8 _ (hH2▸Y8 _ e))
 have hacc:h₁.get? s2.heap.objs.size=some (TR [] 0):=hsb₁.extBut _ _ hDC (Y8 _ (hH2▸Yc _ rfl));have fpLt:∀b∈fp,b < s2.heap.objs.size:=fun b f=>by obtain⟨o,e,_⟩:=T.obj _ _ st b f;exact Ye e
 have st₁:tn 0 h₁:=T.keep _ _ _ st fun b _ o e=>old b o e
 have sz:X.s₀.heap.objs.size <=s2.heap.objs.size:=I.sz;have cellLt:∀x c,X.env.cells.lookup x=some c->c < s2.heap.objs.size:=fun x c e=>by obtain⟨v,q⟩:=I.cell x c e;exact q.lt
 have okX:(Nc X N' scope cl C s2 H2 fp).Ok:=by
  refine ⟨I.ok.mod, S.kind, I.ok.glob, I.ok.blt, by show s2.heap.objs.size <= C; rw [hC]; exact YL _, fun x y c a b => I.ok.inj x y c (hcl1 x c a) (hcl1 y c b), fun x hx => ?_, (fun x c z => by cases z), I.ok.hd, I.ok.frames, .inl rfl,
   fun b f => ⟨ab b (fpLt b f), fun x c e => (f2 b f).2.2.2.2.1 x c (hcl1 x c e)⟩, I.bs, YD I.ok.bsz sz, fun b o e f => ?_, fun b f z => ?_, I.stack, I.stkFree⟩
  .have key:∀k,(k=NameKind.cell\/k=NameKind.free)->(relabel scope X.env).names.lookup x=some k->∃c,cl.lookup x=some c:=fun k hk hx=>by
    rcases Io hx with z|⟨_,z⟩
    .rcases hk with rfl|rfl
     .exact absurd rfl (S.nocell _ z)
     .exact hcl2 x z
    .exact hcl2 x z
   rcases hx with hx|hx
   .exact key _ (.inl rfl) hx
   .exact key _ (.inr rfl) hx
  .rcases(f2 b f).2.2.2.1 with z|z
   .exact I.ok.noex b o e z
   .exact absurd (YG (Ye (I.ok.bs b o e).1) z) (Xs _)
  .rcases Yl.mp (I.stkSub b z) with y|y
   .exact(f2 b f).2.1 y
   .exact(f2 b f).2.2.1 y
 have freshC:∀b,s2.heap.objs.size <=b->H2 b=none:=fun b f=>I.hok.fresh f
 have capI:Wv (Nc X N' scope cl C s2 H2 fp) [(s2.heap.objs.size,TR [] 0)] (N5 caps σ) H2 {s2 with heap:=h₁,toks:=s2.toks+ ([]:List (Str×Value)).length}:=by
  refine⟨okX,rfl,I.bare,Un.kept old,⟨_,hns₁,fun i x v e1 e2 e3=>?_⟩,fun x c e=>?_,freshC C (by rw[hC];exact YL _),fun x c e=>I.freeC x c (hcl1 x c e),fun p hp=>?_,I.hok.kept old,?_⟩
  .have e2':(caps[i]?).map (fun o=>o.bind fun j=>(σ[j]?).join)=some (some v):=by
    unfold N5 at e2;rw[Y9]at e2;exact e2
   cases q:caps[i]? with
   |none=>rw[q]at e2';cases e2'
   |some o=>
    rw[q]at e2';cases o with
    |none=>cases e2'
    |some j=>
     have hv:(σ[j]?).join=some v:=Option.some.inj e2';obtain⟨hN,hfr,honly⟩:=S.cap.2 i j x e1 q;have hσ:σ[j]?=some (some v):=by
      cases r:σ[j]? with
      |none=>rw[r]at hv;cases hv
      |some o=>rw[r]at hv;rw[<-hv];rfl
     obtain⟨m,hn,hl⟩:=I.loc;have hkx:=S.vis x hfr;obtain⟨u,ru,lk⟩:=hl j x v hN hσ (by rcases hkx with z|z;exact .inr (.inl z);exact .inr (.inr z));refine⟨u,ru,.inr ?_⟩;obtain⟨c,hc'⟩:=hcl2 x hfr;have hcx:=hcl1 x c hc';rcases lk with⟨z,_⟩|⟨_,c',hc2,hcell⟩
     .rcases hkx with y|y <;> rw[y]at z <;> cases z
     .rw[hcx]at hc2;cases hc2;have hcell':h₁.IsCell c (some u):=by
       obtain⟨oc,q1,q2⟩:=hcell;exact⟨oc,old c oc q1,q2⟩
      refine⟨?_,c,hc',hcell'⟩;rcases e3 with z|z|z
      .rcases Io z with y|⟨y,_⟩
       .have:=honly _ y;cases this
       .cases y
      .exact .inl z
      .exact .inr z
  .obtain⟨v,oc,q1,q2⟩:=I.cell x c (hcl1 x c e);exact⟨v,oc,old c oc q1,q2⟩
  .have e:p=(s2.heap.objs.size,TR [] 0):=by simpa[Nc] using hp
   subst e;refine ⟨hacc, freshC _ (Y6 _), hDC, fun z => ?_, fun v z => by cases z⟩;exact absurd (show s2.heap.objs.size < s2.heap.objs.size from by
    rcases Yl.mp (I.stkSub _ z) with y|y
    .exact absurd (I.lt) (by rw[<-y];exact Xs _)
    .exact absurd y (I.nofs (Y6 _))) (Xs _)
  .unfold N5;rw[Y1];exact S.cap.1
 generalize hX':Nc X N' scope cl C s2 H2 fp=X' at okX capI;have ePr:X'.prog=X.prog:=by rw[<-hX'];rfl
 have eW:X'.w=X.w:=by rw[<-hX'];rfl
 have eK:X'.K=X.K:=by rw[<-hX'];rfl
 have eA:X'.A=X.A:=by rw[<-hX'];rfl
 have eEnv:X'.env=compEnvC scope cl C X.env:=by rw[<-hX'];rfl
 have eXe:X'.xe=fun _ _=>False:=by rw[<-hX'];rfl
 have eCalm:X'.calm=true:=by rw[<-hX'];exact hc
 have eLoc:X'.env.locals=C:=by rw[eEnv];rfl
 have eS0:X'.s₀=s2:=by rw[<-hX'];rfl
 have eEx:X'.ex=fp:=by rw[<-hX'];rfl
 have eFs:X'.fs=Gq X.stack:=by rw[<-hX'];rfl
 have eCells:X'.env.cells=cl:=by rw[eEnv];rfl
 have ePn:X'.pn=[]:=by rw[<-hX'];rfl
 have eH0:X'.H₀=H2:=by rw[<-hX'];rfl
 have hgX:PG X' tg g:=hX'▸hg cl C s2 H2 fp;have htX:DW X' ifs tc:=hX'▸ht C;have heX:PE X' elt te:=hX'▸he cl C s2 H2 fp;obtain⟨m0,w0⟩:=w0;have nDfs:s2.heap.objs.size∉X'.fs:=fun z=>by
  rw[eFs]at z;rcases Yl.mp (I.stkSub _ z) with y|y
  .exact absurd (I.lt) (by rw[<-y];exact Xs _)
  .exact absurd y (I.nofs (Y6 _))
 have fpX:∀{H':Hp} {its:Wm} {n:Nat},(∀b∈fp,H' b=none)->∀b∈fp,Mx X' [(s2.heap.objs.size,TR its n)] H' b:=fun {H' its n} hn b f=>by
  refine⟨hn b f,by rw[eLoc];exact ab b (fpLt b f),fun z=>?_,.inl (by rw[eEx];exact f),fun x c e=>?_,fun p hp z=>?_⟩
  .rw[eFs]at z;rcases Yl.mp (I.stkSub b z) with y|y
   .exact(f2 b f).2.1 y
   .exact(f2 b f).2.2.1 y
  .rw[eCells]at e;exact(f2 b f).2.2.2.2.1 x c (hcl1 x c e)
  .rw[ePn]at hp;have e:p=(s2.heap.objs.size,TR its n):=by simpa using hp
   subst e;exact absurd (fpLt b f) (by rw[<-z];exact Xs _)
 have loop:∀s₃:Shared,s₃={s2 with heap:=h₁,toks:=s2.toks+ ([]:List (Str×Value)).length}->
   codeAny (model X.prog X.w) X.A (.compLoop (.ListComp elt [⟨tg,iter,ifs,0⟩] scope pos) 0 (.ref it) (.ref s2.heap.objs.size) (compEnvC scope cl C X.env)) (RR (.ref s2.heap.objs.size) C) s₃:=by
  rintro s₃ rfl;rw[<-eEnv,<-eA];refine ZJ (fun n s'=>∃i ys its k σ' H',Wv X' [(s2.heap.objs.size,TR its k)] σ' H' s'/\tn i s'.heap/\(∀b∈fp,H' b=none)/\WD ys its/\W i n ys σ' H') ?_ m0
   ⟨0,[],[],0,N5 caps σ,H2,capI,st₁,fun b f=>(f2 b f).1,.nil,w0⟩
  rintro n s' ⟨i,ys,its,k,σ',H',I',st',fr',rv',w'⟩;rcases turn i n ys σ' H' w' with⟨stop,hsz,q⟩|⟨go,hsz,NN,hNN,step⟩
  .refine WW (T.done X' ePr eW eK eCalm i _ s' σ' H' (fun _ _=>False) I' (fpX fr') st' stop) fun r s4 ⟨hr,I4⟩=>?_
   subst hr;have pinD:=(I4.pin (s2.heap.objs.size,TR its k) (by rw[ePn];simp)).1;have freeD:=(I4.pin (s2.heap.objs.size,TR its k) (by rw[ePn];simp)).2.1;have hq:=q s2.heap.objs.size freeD;obtain⟨mC,hnC,_⟩:=id I4.loc;rw[eLoc]at hnC;obtain⟨oC,es,ep,hoC,hdC,_⟩:=id hnC;have freeC':H' C=none:=by have:=I4.free;rw[eLoc]at this;exact this
   have aa:=I4.base;rw[eS0,eEx,eFs,eH0]at aa;have neD:∀b o,s2.heap.get? b=some o->b≠s2.heap.objs.size:=fun b o e=>Yj (Ye e)
   have neDH:∀b o,H2 b=some o->b≠s2.heap.objs.size:=fun b o e=>Yj (I.hok.lt e)
   have un4:Un (Gq X.stack) fp H2 (upd H' s2.heap.objs.size (.lst ys)) s2.heap s4.heap:=
    ⟨aa.keep, aa.slot, fun b o e n hx => by rw [WT (neD b o e)]; exact aa.free b o e n hx, aa.there, fun b xs e => by rw [WT (neDH b _ e)]; exact aa.tups b xs e,
     fun b o u e => by rw [WT (neDH b _ e)]; exact aa.frzs b o u e, fun b ps e => by rw [WT (neDH b _ e)]; exact aa.tbls b ps e⟩
   have hok4:Tt X.prog X.w (upd H' s2.heap.objs.size (.lst ys)) s4.heap:=by
    have h4:=I4.hok;rw[ePr,eW]at h4;intro b u e
    by_cases f:b=s2.heap.objs.size
    .subst f;rw[Jp]at e;cases e;exact⟨hsz,its,k,rv',pinD⟩
    .rw[WT f]at e;refine(h4 b u e).stay (fun c v _ z=>z) (fun c z=>?_) (fun c xs z=>?_)
     .rw[WT];exact z;intro zz;rw[zz,freeD]at z;cases z
     .rw[WT];exact z;intro zz;rw[zz,freeD]at z;cases z
   have os4:s4.os=s2.os:=by have:=I4.os;rw[eS0]at this;exact this
   have J4:Wv X pins σ (upd H' s2.heap.objs.size (.lst ys)) s4:=I.call' (ch:=fp) os4 un4 hok4 I4.bare fun b f=>⟨(f2 b f).2.2.2.1,(f2 b f).2.1,(f2 b f).2.2.2.2.1,(f2 b f).2.2.2.2.2⟩
   have hCle:X.s₀.heap.objs.size <=C:=by rw[hC];exact Nat.le_succ_of_le sz
   have hCcell:∀x c,X.env.cells.lookup x=some c->c≠C:=fun x c e=>ab c (cellLt x c e)
   have hCpin:∀p∈X.pn++pins,p.1≠C:=fun p hp=>ab p.1 (Ye (I.pin p hp).1)
   have hCl:C≠X.env.locals:=fun z=>absurd I.lt (by rw[<-z,hC];exact Nat.not_lt.mpr (YL _))
   refine hRR s2.heap.objs.size C oC mC s4 _ (J4.pins_of fun p hp=>?_) hnC hq hCle hCcell hCpin hoC;rcases YB.mp hp with z|z
   .exact J4.pin p (Yy _ z)
   .have e:p=(C,oC):=by simpa using z
    subst e;refine⟨hoC,by rw[WT (Ne.symm hDC)];exact freeC',hCl,fun z=>?_,fun v z=>by rw[hdC]at z;cases z⟩;exact I.nofs (by rw[hC];exact YL _) z
  .refine WW (T.item X' ePr eW eK eCalm i _ s' σ' H' (fun _ _=>False) I' (fpX fr') st' go) fun r s4 ⟨u,hr,h4⟩=>?_
   subst hr;refine WW h4 fun _ s5 ⟨x,H5,I5,r5,y5,st5,fr5⟩=>?_
   have I5':=I5.pinned (fpX fr5) (T.obj _ _ st5);have xeF:∀{α:Type} {t:Sem α} {Q:α->Shared->Prop} {s:We},wpAny (model X.prog X.w) X'.A t Q X'.xe s->wpAny (model X.prog X.w) X'.A t Q (fun _ _=>False) s:=fun h=>by rw[eXe]at h;exact h
   have ag:=hgX _ s5 σ' H5 x u _ I5' r5 (step x H5 y5);rw[ePr,eW]at ag;refine WW (xeF ag) fun _ s6 ⟨σ6,H6,I6,q6⟩=>?_
   have at':=htX _ s6 σ6 H6 _ I6 q6;rw[ePr,eW]at at';refine WW (xeF at') fun b s7 ⟨H7,I7,q7⟩=>?_
   -- what the pins say behind the turn
   have back:∀{s8:We} {H8:Hp},Wv X' ([(s2.heap.objs.size,TR its k)]++A8 fp s5.heap) σ6 H8 s8->tn (i+ 1) s8.heap/\(∀b∈fp,H8 b=none)/\Wv X' [(s2.heap.objs.size,TR its k)] σ6 H8 s8:=fun {s8 H8} I8=>by
    refine⟨T.keep _ _ _ st5 fun b f o e=>(I8.pin (b,o) (Yy _ (Yy _ (Ay f e)))).1,fun b f=>?_,I8.unpinned⟩;obtain⟨o,e,d⟩:=T.obj _ _ st5 b f;exact(I8.pin (b,o) (Yy _ (Yy _ (Ay f e)))).2.1
   cases b with
   |false=>
    simp only[Bool.false_eq_true,if_false]at q7 ⊢;obtain⟨m',hm,w7⟩:=hNN _ _ _ q7;obtain⟨t7,f7,I7'⟩:=back I7;exact⟨m',hm,i+ 1,ys,its,k,σ6,H7,I7',t7,f7,rv',w7⟩
   |true=>
    simp only[if_true]at q7 ⊢;have ae:=heX _ s7 σ6 H7 _ I7 q7;rw[ePr,eW]at ae;refine WW (xeF ae) fun y s8 ⟨yv,H8,I8,r8,n8⟩=>?_
    obtain⟨m',hm,w8⟩:=hNN _ _ _ n8;obtain⟨t8,f8,I8'⟩:=back I8;have pinD:=I8'.pin (s2.heap.objs.size,TR its k) (by rw[ePn];simp);have hlen:=rv'.length;refine append_at (its:=its.toArray) (n:=k) (hsz:=by rw[Yh,<-hlen];exact XE hsz) pinD.1 fun h9 hs9 hD9=>?_
    have I9:Wv X' [] σ6 H8 {s8 with heap:=h9,toks:=s8.toks}:=by
     refine(I8'.pins_of (pins':=[]) fun p hp=>by simp at hp).turned (it:=s2.heap.objs.size) (fun b o f e=>(hs9.2 b f).trans e) pinD.2.1 (by rw[eLoc];exact hDC) (.inr (by rw[eS0];exact Y6 _)) (fun x c e=>?_) fun p hp=>?_
     .rw[eCells]at e;exact Yj (cellLt x c (hcl1 x c e))
     .rw[ePn]at hp;simp at hp
    have ePush:({cls:=.type "list",data:=.seq (its.toArray.push y) (k+ 1)}:Obj)=TR (its++[y]) (k+ 1):=by unfold TR;rw[List.push_toArray]
    rw[ePush]at hD9;refine⟨m',hm,i+ 1,ys++[yv],its++[y],k+ 1,σ6,H8,?_,T.keep _ _ _ t8 fun b f o e=>(hs9.2 b (Yj (fpLt b f))).trans e,f8,rv'.append (.cons r8 .nil),w8⟩;refine I9.pins_of fun p hp=>?_
    have e:p=(s2.heap.objs.size,TR (its++[y]) (k+ 1)):=by simpa using hp
    subst e;exact⟨hD9,pinD.2.1,by rw[eLoc];exact hDC,nDfs,fun v z=>by cases z⟩
 exact codeAny_compStart_list (loop _ rfl) (T.self _ 0 _ _ _ st₁ (loop _ rfl))
theorem Wv.cellsOf{pins:Wb}{σ:St}{H:Hp}{s:We}(I:Wv X pins σ H s)(S:BX X N' scope caps):∀x,(x,NameKind.free)∈scope.names->∃c,X.env.cells.lookup x=some c:=
 fun x a=>I.ok.has x (S.vis x a)
theorem Di(S:BX X N' scope caps)(hc:X.calm=true)(hi:PI X tg iter wi)
  (hg:∀cl C s H ex,PG (Nc X N' scope cl C s H ex) tg g) (ht:∀cl C s H ex,DW (Nc X N' scope cl C s H ex) ifs tc) (he:∀cl C s H ex,PE (Nc X N' scope cl C s H ex) elt te)
  (hs:∀x,foldedSetIterable iter X.env x=pure x:=by intro _;rfl):PE X (.ListComp elt [⟨tg,iter,ifs,0⟩] scope pos) (GQ caps wi g tc te):=by
 intro pins s σ H Q I h;obtain⟨cl,w,i,f⟩:=P9 (I.cellsOf S);rw[eval_ListComp];refine wpAny_comprehension_free (use:=none) rfl hs w S.kind S.locs (WW (hi pins s σ H _ I h) fun v s1 h1=>WW h1 fun itv s2 h2=>?_);obtain⟨it,fp,tn,J,H2,e,I2,T,n,f2,W,y,c⟩:=h2;subst e;refine So S hc i f hg (fun C=>ht _ C _ _ _) he I2 T n f2 W y c fun D C z m s' H' j hn q hC a d hoC=>?_
 refine⟨m,hn,fun h' u=>⟨.ref D,H',?_,rfl,q⟩⟩;have r:=j.pin (C,z) (Yy _ (Yy _ (by simp)));exact(j.pins_of (pins':=pins) fun p hp=>j.pin p (Yy _ (XW _ hp))).turned (t':=s'.toks) (it:=C) (fun b o hb e=>(u.2 b hb).trans e) r.2.1 r.2.2.1 (.inr hC) a d
theorem CC{i:Nat}{x:Str}{pos' spos:Pos}(S:BX X N' scope caps)(hc:X.calm=true)(hN:X.N.Nodup)(hix:X.N[i]?=some x)(hx:El X.env.scope x)(hi:PI X tg iter wi)
  (hg:∀cl C s H ex,PG (Nc X N' scope cl C s H ex) tg g) (ht:∀cl C s H ex,DW (Nc X N' scope cl C s H ex) ifs tc) (he:∀cl C s H ex,PE (Nc X N' scope cl C s H ex) elt te)
  (hsw:swapsWith (.ListComp elt [⟨tg,iter,ifs,0⟩] scope pos) (some (.Name x pos')) spos.line X.env=pure true)
  (hf:X.fn x=true\/X.env.scope.names.lookup x=some .local:=by first|exact .inl rfl|exact .inr rfl|assumption)
  (hs:∀x,foldedSetIterable iter X.env x=pure x:=by intro _;rfl):PS X (.Assign [.Name x pos'] (.ListComp elt [⟨tg,iter,ifs,0⟩] scope pos) spos) (E1 (GQ caps wi g tc te) (Go i)):=by
 intro pins s σ H D I h;obtain ⟨cl, ecl, w, u⟩ := P9 (I.cellsOf S);rw [exec_Assign_Name_used _ _ _ _ hsw];refine Y0 (UY (Y0 ?_));show wpAny _ X.A (do let _ <- comprehension (.ListComp elt [⟨tg, iter, ifs, 0⟩] scope pos) scope X.env _ (newList []) false (eval iter X.env) (some (assign (.Name x pos') X.env))) _ _ s;refine Y0 (X9 (wpAny_comprehension_free (use := some (assign (.Name x pos') X.env)) (Q := fun _ s' => SP X pins D .next s') rfl hs ecl S.kind S.locs
  (WW (hi pins s σ H _ I h) fun v s1 h1 => WW h1 fun itv s2 h2 => ?_)) (fun _ s' hq => Y4 (Y4 hq)) fun _ _ e => e)
 obtain⟨it,fp,tn,J,H2,e,I2,T,z,f2,W,w0,f⟩:=h2;subst e;refine So (Q:=fun x H1=>Go i x σ H1 D.nx) S hc w u hg (fun C=>ht _ C _ _ _) he I2 T z f2 W w0 f fun y C oC m s' H' I' hn q hC c n hoC=>?_
 show wpAny _ X.A (assign (.Name x pos') X.env (.ref y)) _ _ _;refine wpAny_assign_Name (Hy I' hN hix hx (v:=.ref y) rfl (fun d a=>?_) hf);have j:=a.pin (C,oC) (Yy _ (Yy _ (by simp)));have hn':d.heap.Ns C m:=by
  obtain⟨o,es,ep,ho,r⟩:=hn;rw[hoC]at ho;cases ho;exact⟨oC,es,ep,j.1,r⟩
 refine⟨m,hn',fun h' hs'=>⟨σ.set i (some (.ref y)),H',?_,q⟩⟩;exact(a.pins_of (pins':=pins) fun p hp=>a.pin p (Yy _ (XW _ hp))).turned (t':=d.toks) (it:=C) (fun b o hb e=>(hs'.2 b hb).trans e) j.2.1 j.2.2.1 (.inr hC) c n
theorem Oz{K:Wi}{a:Wk}{xs:List V}{σ:St}{H1:Hp}{Q:VK}(Pv:Nat->List V->St->Hp->Prop)(h0:Pv 0 [] (N5 caps σ) H1)(hl:∀i ys σ H,Pv i ys σ H->i <=xs.length->WA K H a xs/\ys.length <=i)(hz:xs.length <=sizeLine)
  (hs:∀i x ys σ H,xs[i]?=some x->Pv i ys σ H->g x σ H fun σ2 H2=>tc σ2 H2 fun b H3=>if b=true then te σ2 H3 fun y H4=>Pv (i+ 1) (ys++[y]) σ2 H4 else Pv (i+ 1) ys σ2 H3)
  (hd:∀ys σ H,Pv xs.length ys σ H->∀p,H p=none->Q (.ref p) (upd H p (.lst ys))):
  EI caps g tc te σ Q (Rn K a) H1:=by
 refine⟨fun i m ys σ H=>m=xs.length - i/\i <=xs.length/\Pv i ys σ H,⟨xs.length,by simp,YF _,h0⟩,?_⟩;rintro i m ys σ H ⟨rfl,hi,p⟩;obtain⟨q,f⟩:=hl i ys σ H p hi
 by_cases hlt:i < xs.length
 .refine .inr ⟨⟨xs,xs[i],q,by simp[hlt]⟩,by lia,Pv (i+ 1),fun d σ' H' c=>⟨xs.length - (i+ 1),by lia,rfl,hlt,c⟩,fun x H' y=>?_⟩;obtain⟨e,y⟩:=y;subst e;exact hs i x ys σ _ (y xs q) p
 .have e:i=xs.length:=by lia
  subst e;exact .inl ⟨⟨xs,q,Y6 _⟩,by lia,hd ys σ H p⟩
theorem y9{lo:Int}{n:Nat}{σ:St}{H1:Hp}{Q:VK}(Pv:Nat->List V->St->Hp->Prop)(h0:Pv 0 [] (N5 caps σ) H1)(hl:∀i ys σ H,Pv i ys σ H->i <=n->ys.length <=i)(hz:n <=sizeLine)
  (hs:∀i ys σ H,i < n->Pv i ys σ H->g (.int (lo+ i)) σ H fun σ2 H2=>tc σ2 H2 fun b H3=>if b=true then te σ2 H3 fun y H4=>Pv (i+ 1) (ys++[y]) σ2 H4 else Pv (i+ 1) ys σ2 H3)
  (hd:∀ys σ H,Pv n ys σ H->∀p,H p=none->Q (.ref p) (upd H p (.lst ys))):
  EI caps g tc te σ Q (R8 lo n) H1:=by
 refine⟨fun i m ys σ H=>m=n - i/\i <=n/\Pv i ys σ H,⟨n,by simp,YF _,h0⟩,?_⟩;rintro i m ys σ H ⟨rfl,hi,p⟩;have d:=hl i ys σ H p hi
 by_cases hlt:i < n
 .refine .inr ⟨hlt,by lia,Pv (i+ 1),fun c σ' H' a=>⟨n - (i+ 1),by lia,rfl,hlt,a⟩,fun x H' y=>?_⟩;obtain⟨e,y⟩:=y;subst e y;exact hs i ys σ _ hlt p
 .have e:i=n:=by lia
  subst e;exact .inl ⟨Y6 _,by lia,hd ys σ H p⟩
end
mutual
inductive Dp(K:Wi)(H:Hp):V->PyData->Prop
 |non:Dp K H .non .none
 |bl (b:Bool):Dp K H (.bl b) (.bool b)
 |int (i:Int):Dp K H (.int i) (.int i)
 |str (x:Str):Dp K H (.str x) (.str x)
 |lst {a:Wk} {xs:List V} {ds:List PyData}:WA K H a xs->WQ K H xs ds->Dp K H (.ref a) (.list ds)
 |tup {a:Wk} {xs:List V} {ds:List PyData}:Ja K H a xs->WQ K H xs ds->Dp K H (.ref a) (.tuple ds)
inductive WQ(K:Wi)(H:Hp):List V->List PyData->Prop
 |nil:WQ K H [] []
 |cons {x:V} {xs:List V} {d:PyData} {ds:List PyData}:Dp K H x d->WQ K H xs ds->WQ K H (x::xs) (d::ds)
end
theorem WQ.ints{K:Wi}{H:Hp}:∀ns:List Int,WQ K H (ns.map V.int) (ns.map PyData.int)
 |[]=>.nil
 |_::r=>.cons (.int _) (WQ.ints r)
section
variable{X:Cx}{pins:Wb}{σ:St}{H:Hp}{s:We}
mutual
theorem Wv.reads(I:Wv X pins σ H s):∀{x:V} {d:PyData} {u:Wj},Dp X.K H x d->WJ x u->∃as,Reads s.heap u d as
 |_,_,u,.non,r=>by cases (show u=Value.none from r);exact⟨_,.none⟩
 |_,_,u,.bl b,r=>by cases (show u=Value.bool b from r);exact⟨_,.bool b⟩
 |_,_,u,.int i,r=>by obtain⟨t,rfl⟩:=(show ∃t,u=Value.int i t from r);exact⟨_,.int i t⟩
 |_,_,u,.str x,r=>by obtain⟨t,rfl⟩:=(show ∃t,u=Value.str x t from r);exact⟨_,.str x t⟩
 |_,_,u,.lst (a:=a) hl hd,r=>by
  cases (show u=Value.ref a from r);obtain⟨p,f,⟨o,n,e,j,_,c⟩,q⟩:=I.list hl;obtain⟨as,h⟩:=Wv.readsAll I hd f;exact⟨_,.list e j c (by simpa using h)⟩
 |_,_,u,.tup (a:=a) hl hd,r=>by
  cases (show u=Value.ref a from r);obtain⟨p,f,⟨o,e,j,n,c⟩,q⟩:=I.tuple hl;obtain⟨as,h⟩:=Wv.readsAll I hd f;exact⟨_,.tuple e j c (by simpa using h)⟩
theorem Wv.readsAll(I:Wv X pins σ H s):∀{xs:List V} {ds:List PyData} {us:Wm},WQ X.K H xs ds->WD xs us->∃as,ReadsAll s.heap us ds as
 |_,_,_,.nil,r=>by cases r;exact⟨_,.nil⟩
 |_,_,_,.cons h t,r=>by
  cases r with
  |cons r1 r2=>
   obtain⟨as,ra⟩:=Wv.reads I h r1;obtain⟨bs,a⟩:=Wv.readsAll I t r2;exact⟨_,.cons ra a⟩
end
end
def KR(K:Wi):R2:=fun x y H Q=>∃d e,Dp K H x d/\Dp K H y e/\SeqAt.shaped d=true/\SeqAt.shaped e=true/\Q (.bl (PyData.eqv d e)) H
def Lj(K:Wi):R2:=fun x y H Q=>∃d e,Dp K H x d/\Dp K H y e/\SeqAt.shaped d=true/\SeqAt.shaped e=true/\Q (.bl (!PyData.eqv d e)) H
section
variable{X:Cx}
theorem tQ(hu:X.A.units+ 64 < cLine):JW X (compareOp .Eq) (KR X.K):=by
 intro pins s σ H x y v u Q I f c h;obtain⟨d,e,h1,h2,b,a,q⟩:=h;obtain⟨n,j⟩:=I.reads h1 f;obtain⟨bs,i⟩:=I.reads h2 c;exact eq_dataH j i b a hu (NY I q rfl)
theorem xK(hu:X.A.units+ 64 < cLine):JW X (compareOp .NotEq) (Lj X.K):=by
 intro pins s σ H x y v u Q I f c h;obtain⟨d,e,h1,h2,b,a,q⟩:=h;obtain⟨n,j⟩:=I.reads h1 f;obtain⟨bs,i⟩:=I.reads h2 c;exact ne_dataH j i b a hu (NY I q rfl)
def Lr:R2:=fun x y H Q=>∃i j,x= .str i/\y= .str j/\Q (.bl (!decide (j.cps.toList < i.cps.toList))) H
theorem Qw:JW X (compareOp .LtE) Lr:=by
 intro pins s σ H x y v u Q I b a h;obtain⟨i,j,rfl,rfl,q⟩:=h;obtain⟨t,rfl⟩:=b;obtain⟨c,rfl⟩:=a;exact PySem.P.le_str (NY I q rfl)
theorem gE(hc:X.calm=true):WY X (.builtin "all") (fun xs H Q=>∃ (p:Wk) (bs:List Bool),xs=[.ref p]/\WA X.K H p (bs.map V.bl)/\Q (.bl (bs.all id)) H):=by
 intro pins s σ H xs us Q I r h;obtain⟨p,bs,rfl,hq,q⟩:=h;obtain⟨u,rfl,rx⟩:=Dw r;cases rx;obtain⟨a,w,pl,hz⟩:=I.list hq;have hh:X.A.in1.handled=none:=I.ok.hd hc;have j:=pl.isList;have z:p < s.heap.objs.size:=by obtain⟨_,e,_⟩:=j;exact Ye e
 have f:bs.length=a.length:=by have:=w.length;simpa using this
 refine call_all_walk (Xu j ⟨s.heap.objs.size,_,_,_,_,_,fun i=>bs.getD i false,rfl,VX hh s.heap.objs.size p (Yj z) a.toArray,⟨⟨_,Yc _ rfl,rfl,rfl⟩,j.push _⟩,?_,?_⟩)
 .intro i v s' Q' E' hv n;have c:a[i]?=some v:=by simpa using hv
  cases e:bs[i]? with
  |none=>
   have:a[i]?=none:=by
    rw[XX]at e ⊢;lia
   rw[this]at c;cases c
  |some b=>
   obtain⟨u,y,ru⟩:=w.get (i:=i) (x:=V.bl b) (by rw[Y9,e];rfl);rw[c]at y;cases y;cases (show v=Value.bool b from ru);have:bs.getD i false=b:=by simp[List.getD,e]
   dsimp only at n;rw[this]at n;exact X4 n
 .intro h' tk hk;have e:(List.range a.toArray.size).all (fun i=>bs.getD i false)=bs.all id:=by
   rw[Yh,<-f,Yw,U1,U1];constructor
   .intro h x hx;obtain⟨i,hi,rfl⟩:=XF.mp hx;have:=h i (VO.mpr hi);simpa[List.getD,hi] using this
   .intro h i hi;have d:=VO.mp hi;have:=h bs[i] (Xk d);simpa[List.getD,d] using this
  rw[e];exact⟨.bl (bs.all id),H,I.kept (t':=tk) fun b o eo=>hk b o (by simpa using Yj (Ye eo)) (Y8 _ eo),rfl,q⟩
def Sn:V->Value
 | .ty n=>.type n
 | .ref a=>.ref a
 |_=>.none
def Zs:V->Bool
 | .ty _=>true
 | .ref _=>true
 |_=>false
def yP(K:Wi):List V->Hp->VK->Prop:=fun xs H Q=>∃x c t b,xs=[x,c]/\DO K H x t/\Zs c=true/\W.kitOne K t (Sn c)=some b/\Q (.bl b) H
theorem L7:WY X (.builtin "isinstance") (yP X.K):=by
 intro pins s σ H xs n Q I r h;obtain⟨x,c,t,b,rfl,ty,j,e,q⟩:=h;obtain⟨u,a,rfl,d,f⟩:=O1 r;have i:a=Sn c:=by cases c <;> first|exact f|cases j
 subst i;exact ZL I d ty e fun tk=>⟨.bl b,H,I.tok tk,rfl,q⟩
def FP(x:Str):It:=⟨fun i _=>i < x.cps.size,fun i H v H'=>H'=H/\∃c,x.cps[i]?=some c/\v= .str ⟨#[c]⟩,fun i _=>i=x.cps.size⟩
theorem SX{P:Wc}{w:Wh}{K:PySem.W.Frag}{tg:Wo}{it:Wk}{ty:String}{x:Str}{t:Tok}
  (W:∀A:Around,A.handled=none->Walks P w A it [it] [it] x.cps.size (SignAt x) (fun i h=>h.IsStrIter it ty x t i))
  (hself:∀ (A:Wg) (i:Nat) (s:We) (Q:W9) (E:W9),s.heap.IsStrIter it ty x t i->Q (.ref it) s->wpAny (model P w) A (pyIter (.ref it)) Q E s)
  (hn:["enumerate","zip","dict_itemiterator","dict_reverseitemiterator","odict_iterator","itertools.zip_longest","itertools.pairwise"].contains ty=false):
  Rq P w K tg (FP x) [it] it (fun i h=>h.IsStrIter it ty x t i) where
 mem:=by simp
 obj:=fun i h st b a=>by
  have e:b=it:=by simpa using a
  subst e;obtain⟨o,e,c,d⟩:=st;exact⟨o,e,fun v z=>by rw[d]at z;cases z⟩
 keep:=fun i h h' st k=>by obtain⟨o,e,r⟩:=st;exact⟨o,k it (by simp) o e,r⟩
 item:=by
  intro X hP n hK y i pins s σ H E I f st q;subst hP n hK;obtain⟨f0,f1,f2,f3,f4,f5⟩:=f it (by simp);refine(W X.A (I.ok.hd y)).item i s _ _ q st fun v h' tk hv j p=>?_
  obtain⟨c,u,hc',rfl⟩:=hv;have I1:Wv X pins σ H {s with heap:=h',toks:=tk}:=I.turned (t':=tk) (fun b o a e=>p b o (by simpa using a) e) f0 f1 f3 f4 f5;obtain⟨o,e,cc,d⟩:=id j;exact⟨_,rfl,A5 (s:={s with heap:=h',toks:=tk}) e cc d hn ⟨.str ⟨#[c]⟩,H,I1,⟨u,rfl⟩,⟨rfl,c,hc',rfl⟩,j,fun b a=>(f b a).1⟩⟩
 done:=by
  intro X hP n hK y i pins s σ H E I f st q;subst hP n hK;obtain⟨f0,f1,f2,f3,f4,f5⟩:=f it (by simp);have hg':i=x.cps.size:=q;subst hg';exact(W X.A (I.ok.hd y)).done s _ _ st fun h' tk p=>⟨rfl,I.turned (t':=tk) (fun b o a e=>p b o (by simpa using a) e) f0 f1 f3 f4 f5⟩
 self:=fun A i s Q E st h=>hself A i s Q E st h
def Ls(tl:TE):TI:=fun σ H R=>tl σ H fun x H1=>∃z,x= .str z/\R (FP z) H1
theorem n6{tg l:Wo}{tl:TE}(hl:PE X l tl):PI X tg l (Ls tl):=by
 intro pins s σ H R I h;refine WW (hl pins s σ H _ I h) fun v a ⟨x,H1,c,j,n⟩=>?_
 obtain⟨z,e,q⟩:=n;subst e;obtain⟨t,rfl⟩:=(show ∃t,v=Value.str z t from j);have d:∀b:Addr,b∈[a.heap.objs.size]->Mx X pins H1 b:=fun b p=>by
  have e:b=a.heap.objs.size:=by simpa using p
  subst e;exact c.fpOk (Y6 _) (c.hok.fresh (Y6 _))
 cases ha:z.cps.all (· < 128)
 .exact wpAny_pyIter_wide ha ⟨a.heap.objs.size, [a.heap.objs.size], _, _, H1, rfl, c.kept (t' := a.toks) fun b o e => Y8 _ e,
   SX (fun A f => Walks.strWide f _ z t) (fun A i s Q E st h => wpAny_pyIter_striter_wide st h) (by decide), ⟨_, Yc _ rfl, rfl, rfl⟩, d, q⟩
 .exact wpAny_pyIter_ascii ha ⟨a.heap.objs.size, [a.heap.objs.size], _, _, H1, rfl, c.kept (t' := a.toks) fun b o e => Y8 _ e,
   SX (fun A f => Walks.strAscii f _ z t) (fun A i s Q E st h => wpAny_pyIter_striter_ascii st h) (by decide), ⟨_, Yc _ rfl, rfl, rfl⟩, d, q⟩
theorem x8{caps:List (Option Nat)}{g:TG}{tc:TT}{te:TE}{z:Str}{σ:St}{H1:Hp}{Q:VK}(Pv:Nat->List V->St->Hp->Prop)(h0:Pv 0 [] (N5 caps σ) H1)(hl:∀i ys σ H,Pv i ys σ H->i <=z.cps.size->ys.length <=i)(hz:z.cps.size <=sizeLine)
  (hs:∀i c ys σ H,z.cps[i]?=some c->Pv i ys σ H->g (.str ⟨#[c]⟩) σ H fun σ2 H2=>tc σ2 H2 fun b H3=>if b=true then te σ2 H3 fun y H4=>Pv (i+ 1) (ys++[y]) σ2 H4 else Pv (i+ 1) ys σ2 H3)
  (hd:∀ys σ H,Pv z.cps.size ys σ H->∀p,H p=none->Q (.ref p) (upd H p (.lst ys))):
  EI caps g tc te σ Q (FP z) H1:=by
 refine⟨fun i m ys σ H=>m=z.cps.size - i/\i <=z.cps.size/\Pv i ys σ H,⟨z.cps.size,by simp,YF _,h0⟩,?_⟩;rintro i m ys σ H ⟨rfl,hi,p⟩;have h:=hl i ys σ H p hi
 by_cases hlt:i < z.cps.size
 .refine .inr ⟨hlt,by lia,Pv (i+ 1),fun f σ' H' a=>⟨z.cps.size - (i+ 1),by lia,rfl,hlt,a⟩,fun x H' y=>?_⟩;obtain⟨e,c,d,y⟩:=y;subst e y;exact hs i c ys σ _ d p
 .have e:i=z.cps.size:=by lia
  subst e;exact .inl ⟨rfl,by lia,hd ys σ H p⟩
end
def Za(N N':List Str)(scope:Scope)(caps:List (Option Nat))(sc:Scope):Bool:=
 decide (scope.kind= .function) && (scope.names.all fun y=>decide (y.2≠ .cell)) && (scope.names.all fun y=>decide (y.2= .local->scope.names.lookup y.1=some .local)) && decide (caps.length=N'.length) &&
 ((N'.zip caps).all fun p => match p.2 with
  |none=>true
  | some j => decide (N[j]? = some p.1) && decide ((p.1, NameKind.free) ∈ scope.names) && (scope.names.all fun y => decide (y.1 = p.1 -> y.2 = .free))) &&
 (scope.names.all fun y=>decide (y.2= .free->sc.names.lookup y.1=some .cell\/sc.names.lookup y.1=some .free))
theorem MR{X:Cx}{N':List Str}{scope:Scope}{caps:List (Option Nat)}{sc:Scope}{N:List Str}(hsc:X.env.scope=sc)(hN:X.N=N)(h:Za N N' scope caps sc=true):BX X N' scope caps:=by
 subst hsc hN;unfold Za at h;simp only[X0,Yb,U1]at h;obtain⟨⟨⟨⟨⟨h1,h2⟩,n⟩,f⟩,e⟩,d⟩:=h;refine⟨h1,h2,n,⟨f,fun i j x r p=>?_⟩,fun x b=>?_⟩
 .have a:(x,some j)∈N'.zip caps:=by
   have:(N'.zip caps)[i]?=some (x,some j):=by
    rw[Uy];exact⟨r,p⟩
   exact Yx this
  have q:=e _ a;simp only[X0,Yb,U1]at q;exact⟨q.1.1,q.1.2,fun k c=>q.2 _ c rfl⟩
 .exact d _ b rfl
theorem MB{X:Cx}{N:List Str}(h:X.N=N)(d:N.Nodup):X.N.Nodup:=h▸d
theorem RM{X:Cx}{x:Str}{n:Int}{pos:Pos}(hg:Gl X x)(hm:∃t,X.mg x=some (.int n t))(hd:(x==("__debug__":Str))=false:=by decide):PE X (.Name x pos) (tC (.int n)):=by
 obtain⟨t,e⟩:=hm;exact Eb hg e ⟨t,rfl⟩ hd
structure N6(P:Wc)(w:Wh)(K:Wi)(mg:W8)(base:Wn)(x:Str)(k:Nat)(ps:List Str)(dvs:List V)(sp:Sp):Prop where
 ex:∃ (f:Wk) (fd:Wf) (ds:Wm),Wz P w K mg base Jf k f fd ps sp/\mg x=some (.ref f)/\W.keepIn K (.ref f)=true/\T3 K fd ps ds/\WD dvs ds
structure Gv(P:Wc)(w:Wh)(K:Wi)(mg:W8)(base:Wn)(x:Str)(C:Wk)(k:Nat)(ps:List Str)(dvs:List V)(sp:Sp):Prop where
 ex:∃ (f:Wk) (fd:Wf) (ds:Wm),Wz P w K mg base Jf k f fd ps sp/\mg x=some (.ref C)/\Mk K C f/\T3 K fd ps ds/\WD dvs ds
structure Nv(P:Wc)(w:Wh)(K:Wi)(mg:W8)(base:Wn)(C:Wk)(m:Str)(k:Nat)(ps:List Str)(dvs:List V)(sp:Sp):Prop where
 ex:∃ (f:Wk) (fd:Wf) (ds:Wm),Wz P w K mg base Jf k f fd ps sp/\MN K C/\SF K C m f/\T3 K fd ps ds/\WD dvs ds
section
variable{X:Cx}{k:Nat}{C:Wk}{ps:List Str}{sp:Sp}{dvs:List V}{x m:Str}{p pos apos:Pos}{e o:Wo}{es:List Expr}{ta:TE}{t:TA}
theorem JT(F:N6 X.prog X.w X.K X.mg X.base x k ps dvs sp)(hr:Room k X.A)(hg:Gl X x)(ha:PA X (e::es) t)(hdb:(x==("__debug__":Str))=false:=by decide)
  (he:starEach (e::es) X.env=(false,eval e X.env)::starEach es X.env:=by rfl) (hpl:(backTo pos (starEach es X.env)).any (·.1)=false:=by rfl):PE X (.Call (.Name x p) (e::es) [] pos) (Ep sp dvs E0 t):=by
 obtain⟨f,fd,ds,G,a,b,d,c⟩:=F.ex;exact wP G hr hg a b d c BW ha hdb he hpl
theorem vN(F:N6 X.prog X.w X.K X.mg X.base x k ps dvs sp)(hr:Room k X.A)(hg:Gl X x)(hdb:(x==("__debug__":Str))=false:=by decide):PE X (.Call (.Name x p) [] [] pos) (Ep sp dvs E0 Dx):=by
 obtain⟨f,fd,ds,G,a,b,d,c⟩:=F.ex;exact bV G hr hg a b d c BW hdb
end
structure Bt(mg:W8):Prop where
 len:mg "len"=none
 range:mg "range"=none
 isinstance:mg "isinstance"=none
 all:mg "all"=none
 min:mg "min"=none
 max:mg "max"=none
 bint:mg "int"=none
 bbool:mg "bool"=none
 bstr:mg "str"=none
 blist:mg "list"=none
 btuple:mg "tuple"=none
def JC(a:Wk)(H H':Hp):Prop:=∀b o,H b=some o->b≠a->H' b=some o
theorem JC.refl(a:Wk)(H:Hp):JC a H H:=fun _ _ h _=>h
theorem JC.trans{a:Wk}{H H1 H2:Hp}(x:JC a H H1)(y:JC a H1 H2):JC a H H2:=fun b o h n=>y b o (x b o h n) n
theorem JC.upd{a:Wk}{H:Hp}{o:HO}:JC a H (upd H a o):=fun b _ h n=>by rw[WT n];exact h
def F2(g:TG)(tb:TS)(D:Tl)(σ:St)(J:It)(H1:Hp):Prop:=∃W:Nat->Nat->St->Hp->Prop,(∃m,W 0 m σ H1)/\∀i m σ H,W i m σ H->
 (J.stop i H/\D.nx σ H)\/(J.go i H/\∃N:St->Hp->Prop,(∀σ' H',N σ' H'->∃m',m' < m/\W (i+ 1) m' σ' H')/\∀x H',J.yld i H x H'->g x σ H' fun σ2 H2=>tb {D with nx:=N,ct:=N,bk:=D.nx} σ2 H2)
theorem Sy(wi:TI)(g:TG)(tb:TS)(D:Tl)(σ:St)(H:Hp):OI wi g tb D σ H=wi σ H fun J H1=>F2 g tb D σ J H1:=rfl
theorem Bw{K:Wi}{a:Wk}{xs:List V}{g:TG}{tb:TS}{D:Tl}{σ:St}{H:Hp}(Pv:Nat->St->Hp->Prop)(h0:Pv 0 σ H)(hl:∀i σ H,i <=xs.length->Pv i σ H->WA K H a xs)
  (hs:∀i x σ H,xs[i]?=some x->Pv i σ H->g x σ H fun σ2 H2=>tb {D with nx:=Pv (i+ 1),ct:=Pv (i+ 1),bk:=D.nx} σ2 H2) (hd:∀σ H,Pv xs.length σ H->D.nx σ H):F2 g tb D σ (Rn K a) H:=gB Pv h0 hl hs hd
theorem HD{lo:Int}{n:Nat}{g:TG}{tb:TS}{D:Tl}{σ:St}{H:Hp}(Pv:Nat->St->Hp->Prop)(h0:Pv 0 σ H)
  (hs:∀i σ H,i < n->Pv i σ H->g (.int (lo+ i)) σ H fun σ2 H2=>tb {D with nx:=Pv (i+ 1),ct:=Pv (i+ 1),bk:=D.nx} σ2 H2) (hd:∀σ H,Pv n σ H->D.nx σ H):F2 g tb D σ (R8 lo n) H:=jE Pv h0 hs hd
theorem Jc{n:Nat}(h:n <=100000):n <=sizeLine:=YD h (by rw[YV];decide)
theorem Tn{n:Nat}(h:n <=100000):n < sizeLine:=Ya h (by rw[YV];decide)
def DN:HO->Option String
 | .lst _=>some "list"
 | .tup _=>some "tuple"
 | .dK _=>some "dict"
 |_=>none
def TN(H:Hp):V->Option String
 | .non=>some "NoneType"
 | .bl _=>some "bool"
 | .int _=>some "int"
 | .str _=>some "str"
 | .ref a=>(H a).bind DN
 |_=>none
def ED(n T:String):Bool:=n==T||(n=="bool" && T=="int")
theorem mF{K:Wi}{H:Hp}{x:V}{n:String}(h:TN H x=some n):DO K H x (.type n)/\n∈["NoneType","bool","int","str","list","tuple","dict"]:=by
 cases x with
 |non=>cases h;exact⟨.non,by simp⟩
 |bl b=>cases h;exact⟨.bl b,by simp⟩
 |int i=>cases h;exact⟨.int i,by simp⟩
 |str i=>cases h;exact⟨.str i,by simp⟩
 |ref a=>
  have h:(H a).bind DN=some n:=h;cases e:H a with
  |none=>rw[e]at h;cases h
  |some o=>
   rw[e]at h;cases o <;> first|(cases h;done)|skip
   .cases h;exact⟨.lst e,by simp⟩
   .cases h;exact⟨.tup e,by simp⟩
   .cases h;exact⟨.dK e,by simp⟩
 |_=>cases h
theorem dB{K:Wi}{n T:String}(hn:n∈["NoneType","bool","int","str","list","tuple","dict"])(hT:T∈["bool","int","str","list","tuple","dict"]):W.kitOne K (.type n) (.type T)=some (ED n T):=by
 simp only[Yl,List.not_mem_nil,Vi]at hn hT;rcases hn with rfl|rfl|rfl|rfl|rfl|rfl|rfl <;> rcases hT with rfl|rfl|rfl|rfl|rfl|rfl <;> rfl
def KQ(T:String):List V->Hp->VK->Prop:=fun xs H Q=>∃x n,xs=[x,.ty T]/\TN H x=some n/\Q (.bl (ED n T)) H
theorem R6{X:Cx}(T:String)(hT:T∈["bool","int","str","list","tuple","dict"]:=by decide):WY X (.builtin "isinstance") (KQ T):=by
 intro pins s σ H xs a Q I r h;obtain⟨x,n,rfl,ty,q⟩:=h;obtain⟨c,b⟩:=mF (K:=X.K) ty;exact L7 pins s σ H _ a Q I r ⟨x,.ty T,_,_,rfl,c,rfl,dB b hT,q⟩
theorem aK{H:Hp}{a:Wk}{xs:List V}(h:H a=some (.lst xs)):TN H (.ref a)=some "list":=by show(H a).bind DN=_;rw[h];rfl
theorem rO{H:Hp}{a:Wk}{xs:List V}(h:H a=some (.tup xs)):TN H (.ref a)=some "tuple":=by show(H a).bind DN=_;rw[h];rfl
theorem aB{H:Hp}{i:Int}:TN H (.int i)=some "int":=rfl
theorem nK{H:Hp}{i:Bool}:TN H (.bl i)=some "bool":=rfl
theorem j2{H:Hp}{i:Str}:TN H (.str i)=some "str":=rfl
theorem uX{H:Hp}:TN H .non=some "NoneType":=rfl
def R1:V->Bool
 | .int _=>true
 |_=>false
def Rh:V->Bool
 | .bl _=>true
 |_=>false
def IE:V->Bool
 | .str _=>true
 |_=>false
def Ag(H:Hp):V->Bool
 | .ref a=>match H a with
  |some (.lst _)=>true
  |_=>false
 |_=>false
theorem FR{o:HO}{n:String}(h:DN o=some n):n="list"\/n="tuple"\/n="dict":=by
 cases o <;> first|(cases h;done)|(cases h;simp)
theorem rP{H:Hp}{x:V}{n:String}(h:TN H x=some n):ED n "int"=(R1 x||Rh x):=by
 cases x with
 |ref a=>
  have h:(H a).bind DN=some n:=h;cases e:H a with
  |none=>rw[e]at h;cases h
  |some o=>
   rw[e]at h;rcases FR h with rfl|rfl|rfl <;> rfl
 |_=>first|(cases h;done)|(cases h;rfl)
theorem OA{H:Hp}{x:V}{n:String}(h:TN H x=some n):ED n "bool"=Rh x:=by
 cases x with
 |ref a=>
  have h:(H a).bind DN=some n:=h;cases e:H a with
  |none=>rw[e]at h;cases h
  |some o=>
   rw[e]at h;rcases FR h with rfl|rfl|rfl <;> rfl
 |_=>first|(cases h;done)|(cases h;rfl)
theorem uT{H:Hp}{x:V}{n:String}(h:TN H x=some n):ED n "str"=IE x:=by
 cases x with
 |ref a=>
  have h:(H a).bind DN=some n:=h;cases e:H a with
  |none=>rw[e]at h;cases h
  |some o=>
   rw[e]at h;rcases FR h with rfl|rfl|rfl <;> rfl
 |_=>first|(cases h;done)|(cases h;rfl)
theorem rT{H:Hp}{x:V}{n:String}(h:TN H x=some n):ED n "list"=Ag H x:=by
 cases x with
 |ref a=>
  have h:(H a).bind DN=some n:=h;cases e:H a with
  |none=>rw[e]at h;cases h
  |some o=>
   rw[e]at h;have b:Ag H (.ref a)=match some o with|some (.lst _)=>true|_=>false:=by
    show(match H a with|some (.lst _)=>true|_=>false)=_;rw[e]
   rw[b];cases o <;> first|(cases h;done)|(cases h;rfl)
 |_=>first|(cases h;done)|(cases h;rfl)
theorem nJ{H:Hp}{x:V}(h:Ag H x=true):∃a xs,x= .ref a/\H a=some (.lst xs):=by
 cases x with
 |ref a=>
  have h:(match H a with|some (.lst _)=>true|_=>false)=true:=h;cases e:H a with
  |none=>rw[e]at h;cases h
  |some o=>
   rw[e]at h;cases o <;> first|(cases h;done)|exact⟨a,_,rfl,e⟩
 |_=>cases h
theorem CD{H H':Hp}(s:Ws H H'){x:V}{n:String}(h:TN H x=some n):TN H' x=some n:=by
 cases x with
 |ref a=>
  have h:(H a).bind DN=some n:=h;show(H' a).bind DN=some n;cases e:H a with
  |none=>rw[e]at h;cases h
  |some o=>rw[s a o e];rw[e]at h;exact h
 |_=>exact h
def D2(x:V)(lo hi:Int):Bool:=match x with
 | .int i=>decide (lo <=i) && decide (i <=hi)
 |_=>false
def EE(c:Nat):Bool:=decide (97 <=c) && decide (c <=122)
def MW:V->Bool
 | .str z=>decide (1 <=z.length) && decide (z.length <=8) && z.cps.toList.all EE
 |_=>false
def Gn(H:Hp):V->Bool
 | .ref a=>match H a with
  |some (.lst xs)=>decide (1 <=xs.length) && decide (xs.length <=4000) && xs.all (fun y=>D2 y 0 255)
  |_=>false
 |_=>false
theorem Oe{H:Hp}{a:Wk}{xs:List V}(h:H a=some (.lst xs)):Gn H (.ref a)=(decide (1 <=xs.length) && decide (xs.length <=4000) && xs.all (fun y=>D2 y 0 255)):=by
 show(match H a with|some (.lst xs)=>decide (1 <=xs.length) && decide (xs.length <=4000) && xs.all (fun y=>D2 y 0 255)|_=>false)=_;rw[h]
theorem uC{H:Hp}{x:V}(h:Ag H x=false):Gn H x=false:=by
 cases x with
 |ref a=>
  have h:(match H a with|some (.lst _)=>true|_=>false)=false:=h;show(match H a with|some (.lst xs)=>_|_=>false)=false;cases e:H a with
  |none=>rfl
  |some o=>
   rw[e]at h;cases o <;> first|rfl|cases h
 |_=>rfl
theorem Ws.new{H H':Hp}{p:Wk}{o:HO}(x:Ws H H')(h:H p=none):Ws H (upd H' p o):=fun b u e=>by
 rw[WT (N0 e h)];exact x b u e
theorem nQ(c:Nat):((!decide ((⟨#[c]⟩:Str).cps.toList < ("a":Str).cps.toList))=decide (97 <=c))/\((!decide (("z":Str).cps.toList < (⟨#[c]⟩:Str).cps.toList))=decide (c <=122)):=by
 have i:("a":Str).cps.toList=[97]:=by decide +kernel
 have f:("z":Str).cps.toList=[122]:=by decide +kernel
 rw[i,f];have e:(⟨#[c]⟩:Str).cps.toList=[c]:=rfl;rw[e];have d:∀a b:Nat,([a] < [b])↔a < b:=fun a b=>by
  constructor
  .intro h;rcases VP.mp h with h|⟨_,h⟩
   .exact h
   .exact absurd h (List.not_lt_nil _)
  .intro h;exact VP.mpr (.inl h)
 constructor
 .rw[Yw];simp only[Xv,X6,Yb,d];lia
 .rw[Yw];simp only[Xv,X6,Yb,d];lia
def KU(t:TS):TS:=fun D σ H=>∃R:St->Hp->Prop,t {D with nx:=R} σ H/\∀σ' H',R σ' H'->D.nx σ' H'
theorem DE{X:Cx}{st:Stmt}{t:TS}(h:PS X st t):PS X st (KU t):=by
 intro pins s σ H D I b;obtain⟨R,h1,h2⟩:=b;refine WW (h pins s σ H _ I h1) fun f s' q=>?_
 cases f with
 |next=>obtain⟨σ',H',c,a⟩:=q;exact⟨σ',H',c,h2 σ' H' a⟩
 |brk=>exact q
 |cont=>exact q
 |ret v=>exact q
section
variable{X:Cx}{K:Wi}
theorem Gp(h:X.K=K):DI X (Ai K):=h▸u8
theorem Ze(h:X.K=K):DI X (A3 K):=h▸wL
theorem jR(h:X.K=K):RB X (F4 K):=h▸mP
def AV(K:Wi):List V->Hp->VK->Prop:=fun xs H Q=>∃p ys,xs=[.ref p]/\(WA K H p ys\/Ja K H p ys)/\Q (.int ys.length) H
def HM(K:Wi):List V->Hp->VK->Prop:=fun xs H Q=>∃p ys,xs=[.ref p]/\(WA K H p ys\/Ja K H p ys)/\∀l,H l=none->Q (.ref l) (upd H l (.lst ys))
def IS(K:Wi):List V->Hp->VK->Prop:=fun xs H Q=>∃ (p:Wk) (bs:List Bool),xs=[.ref p]/\WA K H p (bs.map V.bl)/\Q (.bl (bs.all id)) H
theorem MV(h:X.K=K):WY X (.builtin "len") (AV K):=h▸mN
theorem FB(h:X.K=K):WY X (.type "list") (HM K):=h▸wJ
theorem QK(hc:X.calm=true)(h:X.K=K):WY X (.builtin "all") (IS K):=h▸gE hc
theorem LJ(hu:X.A.units+ 64 < cLine)(h:X.K=K):JW X (compareOp .Eq) (KR K):=h▸tQ hu
theorem RO(hu:X.A.units+ 64 < cLine)(h:X.K=K):JW X (compareOp .NotEq) (Lj K):=h▸xK hu
theorem K7(h:X.K=K):JW X (compareOp .In) (Sf K false):=h▸uM
theorem RT{e:Wo}{f:Str}{pos:Pos}{ta:TE}(h:X.K=K)(he:PE X e ta)(hb:attributeBase e f X.env (eval e X.env)=eval e X.env):PE X (.Attribute e f pos) (C5 K ta f):=h▸jJ he hb
theorem Gz{o value:Wo}{f:Str}{pos pos':Pos}{ta tv:TE}(h:X.K=K)(ha:PE X o ta)(hv:PE X value tv)(hs:swapsWith value (some (.Attribute o f pos')) pos.line X.env=pure false):PS X (.Assign [.Attribute o f pos'] value pos) (CK K ta tv f):=h▸gY ha hv hs
theorem GM{es:List Expr}{k:Nat}{t:RK}{n:Nat}{pos:Pos}(h:X.K=K)(hc:X.calm=true)(hg:BB X es t)
  (hn:(assignEach es X.env).length=n:=by rfl) (hst:(assignEach es X.env).findIdx? (·.1)=none:=by rfl):PG X (.Tuple es k pos) (C0 K n t):=h▸yD hc hg hn hst
theorem gH{tg l:Wo}{tl:TE}(h:X.K=K)(hl:PE X l tl):PI X tg l (Em K tl):=h▸gT hl
theorem Md{o e:Wo}{es:List Expr}{to:TE}{t:TA}{name:Str}{apos cpos:Pos}{T id:String}{r:V->List V->Hp->VK->Prop}(h:X.K=K)(pa:PlainAttrs T)(slot:Slot T name id)(hty:typeOf (.builtin id)=pure (.type "method_descriptor"))(hm:Au X id r)(ho:PE X o to)(ha:PA X (e::es) t)
  (hbase:attributeBase o name X.env (eval o X.env)=eval o X.env:=by rfl)
  (hfew : ((backTo cpos (starEach (e :: es) X.env)).all (fun x => !x.1) && (backToKw cpos (keywordEach [] X.env)).all (fun x => x.1.isSome)
   && decide ((e :: es).length + ([] : List Keyword).length + (if ([] : List Keyword).isEmpty then 0 else 1) < 30)) = true := by rfl)
  (hline:(apos.endLine==cpos.line)=true:=by rfl) (hs:starEach (e::es) X.env=(false,eval e X.env)::starEach es X.env:=by rfl) (hplain:(backTo cpos (starEach es X.env)).any (·.1)=false:=by rfl):
  PE X (.Call (.Attribute o name apos) (e::es) [] cpos) (CH K T r to t):=h▸tP pa slot hty hm ho ha hbase hfew hline hs hplain
end
theorem Mc{H:Hp}{p:Wk}{o:HO}(h:H p=none):Ws H (upd H p o):=(Ws.refl H).new h
section
variable{X:Cx}{es:List Expr}{t:TA}{pos:Pos}
def Az(t:TA):TE:=fun σ H Q=>t σ H fun xs H1=>xs.length <=sizeLine/\∀p G,H1 p=none->Ws H1 G->G p=some (.tup xs)->Q (.ref p) G
def BY(t:TA):TE:=fun σ H Q=>t σ H fun xs H1=>xs.length <=sizeLine/\∀p G,H1 p=none->Ws H1 G->G p=some (.lst xs)->Q (.ref p) G
theorem NO{x1}(h:PA X es t):PE X (.Tuple es x1 pos) (Az t):=by
 intro pins s σ H Q I i;refine wpAny_Tuple_spliced (WW (h pos pins s σ H _ I i) fun f a ⟨xs,H1,d,r,z,q⟩=>⟨by rw[<-r.length];exact z,?_⟩);have c:H1 a.heap.objs.size=none:=d.hok.fresh (Y6 _);refine⟨.ref a.heap.objs.size,upd H1 a.heap.objs.size (.tup xs),d.laid (t':=a.toks) (fun b u e=>Y8 _ e) (Y6 _) ?_,rfl,q _ _ c (Mc c) Jp⟩;exact⟨z,f,r,⟨_,Yc _ rfl,rfl,_,rfl⟩⟩
theorem Te(h:PA X es t):PE X (.List es pos) (BY t):=by
 intro pins s σ H Q I i;refine wpAny_List_spliced (WW (h pos pins s σ H _ I i) fun f a ⟨xs,H1,d,r,z,q⟩=>⟨by rw[<-r.length];exact z,?_⟩);have c:H1 a.heap.objs.size=none:=d.hok.fresh (Y6 _);refine⟨.ref a.heap.objs.size,upd H1 a.heap.objs.size (.lst xs),d.laid (t':=a.toks) (fun b u e=>Y8 _ e) (Y6 _) ?_,rfl,q _ _ c (Mc c) Jp⟩;exact⟨z,f,0,r,Yc _ rfl⟩
end
section
variable{X:Cx}{K:Wi}
theorem JW.imp{f:Value->Value->Sem Value}{r r':R2}(h:JW X f r)(hi:∀x y H Q,r' x y H Q->r x y H Q):JW X f r':=fun pins s σ H x y v u Q I b a q=>h pins s σ H x y v u Q I b a (hi _ _ _ _ q)
theorem WY.imp{f:Wj}{r r':List V->Hp->VK->Prop}(h:WY X f r)(hi:∀xs H Q,r' xs H Q->r xs H Q):WY X f r':=fun pins s σ H xs a Q I b q=>h pins s σ H xs a Q I b (hi _ _ _ q)
theorem ML.imp{id:String}{r r':V->List V->Hp->VK->Prop}(h:ML X id r)(hi:∀x xs H Q,r' x xs H Q->r x xs H Q):ML X id r':=fun pins s σ H x xs v a Q I b c q=>h pins s σ H x xs v a Q I b c (hi _ _ _ _ q)
theorem RB.imp{r r':V->Option Int->Option Int->Hp->VK->Prop}(h:RB X r)(hi:∀x a b H Q,r' x a b H Q->r x a b H Q):RB X r':=fun pins s σ H x v e d lo c f Q I i p n j q=>h pins s σ H x v e d lo c f Q I i p n j (hi _ _ _ _ _ q)
theorem Gj.imp{t t':Ci}(h:Gj X t)(hi:∀o i v H Q,t' o i v H Q->t o i v H Q):Gj X t':=fun pins s σ H o i v ov d u Q I a b c q=>h pins s σ H o i v ov d u Q I a b c (hi _ _ _ _ _ q)
def Ar:R2:=fun x y H Q=>∃l b xs zs,x= .ref l/\y= .ref b/\H l=some (.lst xs)/\H b=some (.lst zs)/\xs.length+ zs.length <=sizeLine/\∀p G,H p=none->Ws H G->G p=some (.lst (xs++zs))->Q (.ref p) G
theorem Eo:JW X (binaryOp .Add) Ar:=En.imp fun x y H Q ⟨l,b,xs,zs,e,d,h1,h2,c,q⟩=>⟨l,b,xs,zs,e,d,h1,h2,c,fun p a=>q p _ a (Mc a) Jp⟩
def Fg(K:Wi):List V->Hp->VK->Prop:=fun xs H Q=>∃p ys,xs=[.ref p]/\(WA K H p ys\/Ja K H p ys)/\∀l G,H l=none->Ws H G->G l=some (.lst ys)->Q (.ref l) G
theorem QF(h:X.K=K):WY X (.type "list") (Fg K):=(FB h).imp fun xs H Q ⟨p,ys,e,h1,q⟩=>⟨p,ys,e,h1,fun l a=>q l _ a (Mc a) Jp⟩
def Ax(K:Wi):V->Option Int->Option Int->Hp->VK->Prop:=fun x lo hi H Q=>∃a xs,x= .ref a/\WA K H a xs/\∀p G,H p=none->Ws H G->G p=some (.lst (DY xs lo hi))->Q (.ref p) G
theorem PH(h:X.K=K):RB X (Ax K):=(jR h).imp fun x a b H Q ⟨p,ys,e,h1,q⟩=>⟨p,ys,e,h1,fun l c=>q l _ c (Mc c) Jp⟩
def F3:V->List V->Hp->VK->Prop:=fun x vs H Q=>∃l xs y,x= .ref l/\vs=[y]/\H l=some (.lst xs)/\xs.length < sizeLine/\∀G,JC l H G->G l=some (.lst (xs++[y]))->Q .non G
theorem Da:ML X "list.append" F3:=Gf.imp fun x xs H Q ⟨l,ys,y,b,a,h1,h2,q⟩=>⟨l,ys,y,b,a,h1,h2,q _ JC.upd Jp⟩
def AA:V->List V->Hp->VK->Prop:=fun x vs H Q=>∃l b xs zs,x= .ref l/\vs=[.ref b]/\H l=some (.lst xs)/\H b=some (.lst zs)/\xs.length+ zs.length <=sizeLine/\∀G,JC l H G->G l=some (.lst (xs++zs))->Q .non G
theorem vI:ML X "list.extend" AA:=Gg.imp fun x xs H Q ⟨l,b,ys,zs,d,c,h1,h2,a,q⟩=>⟨l,b,ys,zs,d,c,h1,h2,a,q _ JC.upd Jp⟩
def Hh:V->List V->Hp->VK->Prop:=fun x vs H Q=>∃l xs y,x= .ref l/\vs=[]/\H l=some (.lst xs)/\xs[xs.length - 1]?=some y/\∀G,JC l H G->G l=some (.lst xs.dropLast)->Q y G
theorem jF:ML X "list.pop" Hh:=Ej.imp fun x xs H Q ⟨l,ys,y,b,a,h1,h2,q⟩=>⟨l,ys,y,b,a,h1,h2,q _ JC.upd Jp⟩
def Ir:V->V->V->Hp->(Hp->Prop)->Prop:=fun o i v H Q=>∃p xs k j,o= .ref p/\i= .int k/\H p=some (.lst xs)/\GY xs.length k=some j/\∀G,JC p H G->G p=some (.lst (xs.set j v))->Q G
theorem uS:Gj X Ir:=GA.imp fun o i v H Q ⟨p,xs,k,j,b,a,h1,h2,q⟩=>⟨p,xs,k,j,b,a,h1,h2,q _ JC.upd Jp⟩
def Fy(K:Wi)(ta tv:TE)(f:Str):TS:=fun D σ H=>tv σ H fun y H1=>ta σ H1 fun x H2=>∃a C dx fs,x= .ref a/\H2 a=some (.ins C dx fs)/\MN K C/\WI K C f/\fs.length < 1000/\
 ∀G,JC a H2 G->G a=some (.ins C dx (Ni f y fs))->D.nx σ G
theorem MH{o value:Wo}{f:Str}{pos pos':Pos}{ta tv:TE}(h:X.K=K)(ha:PE X o ta)(hv:PE X value tv)(hs:swapsWith value (some (.Attribute o f pos')) pos.line X.env=pure false):PS X (.Assign [.Attribute o f pos'] value pos) (Fy K ta tv f):=by
 subst h;intro pins s σ H D I h;refine V6 (WW (hv pins s σ H _ I h) fun u b ⟨y,H1,v,d,q⟩=>WW (ha pins b σ H1 _ v q) fun ov z ⟨x,H2,r,e,a,C,dx,fs,ex,j,c,n,l,i⟩=>?_) hs;subst ex;obtain rfl:ov=Value.ref a:=e;exact On r j c n l d fun w p=>⟨σ,_,p,i _ JC.upd Jp⟩
end
def Nb(K:Wi)(H:Hp)(x:V)(f:Str)(v:V):Prop:=∃a C dx fs,x= .ref a/\H a=some (.ins C dx fs)/\MN K C/\WI K C f/\fs.lookup f=some v
def As(K:Wi)(ta:TE)(f:Str):TE:=fun σ H Q=>ta σ H fun x H1=>∃v,Nb K H1 x f v/\Q v H1
theorem nZ{X:Cx}{K:Wi}{e:Wo}{f:Str}{pos:Pos}{ta:TE}(h:X.K=K)(he:PE X e ta)(hb:attributeBase e f X.env (eval e X.env)=eval e X.env):PE X (.Attribute e f pos) (As K ta f):=by
 subst h;intro pins s σ H Q I h;refine SC hb (WW (he pins s σ H _ I h) fun u w ⟨x,H1,j,b,v,⟨a,C,dx,fs,ex,d,c,n,l⟩,q⟩=>?_);subst ex;obtain rfl:u=Value.ref a:=b;exact Zm j d c n l fun p r i ru=>⟨v,H1,i,ru,q⟩
theorem Bd{X:Cx}{K:Wi}{o:Wo}{to:TE}{name:Str}{apos cpos:Pos}{T id:String}{r:V->List V->Hp->VK->Prop}(h:X.K=K)(pa:PlainAttrs T)(slot:Slot T name id)(hty:typeOf (.builtin id)=pure (.type "method_descriptor"))(hm:Au X id r)(ho:PE X o to)
  (hbase:attributeBase o name X.env (eval o X.env)=eval o X.env:=by rfl) (hline:(apos.endLine==cpos.line)=true:=by rfl):PE X (.Call (.Attribute o name apos) [] [] cpos) (Fl K T r to):=h▸tH pa slot hty hm ho hbase hline
structure Gw(P:Wc)(w:Wh)(K:Wi)(mg:W8)(base:Wn)(x:Str)(k:Nat)(sp:Sp):Prop where
 ex:∃ (f C:Wk) (fd:Wf) (ds:Wm) (dvs:List V) (ps:List Str) (sp0:Sp),Wz P w K mg base Jf k f fd ps sp0/\mg x=some (.ref C)/\Mk K C f/\T3 K fd ps ds/\WD dvs ds/\
  ∀vs H Q,sp vs H Q E0->∀y dx G,H y=none->H dx=none->dx≠y->Ws H G->G y=some (.ins C dx [])->sp0 (.ref y::(vs++dvs)) G (fun v H2=>v= .non/\Q (.ref y) H2) E0
theorem Gv.ct{P:Wc}{w:Wh}{K:Wi}{mg:W8}{base:Wn}{x:Str}{C:Wk}{k:Nat}{ps:List Str}{dvs:List V}{sp sp':Sp}(F:Gv P w K mg base x C k ps dvs sp)
  (h:∀vs H Q,sp' vs H Q E0->∀y dx G,H y=none->H dx=none->dx≠y->Ws H G->G y=some (.ins C dx [])->sp (.ref y::(vs++dvs)) G (fun v H2=>v= .non/\Q (.ref y) H2) E0):Gw P w K mg base x k sp':=by
 obtain⟨f,fd,ds,G,a,M,c,b⟩:=F.ex;exact⟨f,C,fd,ds,dvs,ps,sp,G,a,M,c,b,h⟩
theorem B0{X:Cx}{k:Nat}{sp:Sp}{x:Str}{p pos:Pos}{e:Wo}{es:List Expr}{t:TA}(F:Gw X.prog X.w X.K X.mg X.base x k sp)(hr:Room (k+ 1) X.A)(hg:Gl X x)(ha:PA X (e::es) t)(hdb:(x==("__debug__":Str))=false:=by decide)
  (he:starEach (e::es) X.env=(false,eval e X.env)::starEach es X.env:=by rfl) (hpl:(backTo pos (starEach es X.env)).any (·.1)=false:=by rfl):PE X (.Call (.Name x p) (e::es) [] pos) (Ep sp [] E0 t):=by
 obtain⟨f,C,fd,ds,dvs,ps,u,G,i,M,n,j,hi⟩:=F.ex;intro pins s σ H Q I h;refine Xo (BC I hg i ?_ hdb);refine W.callWith_K (h₀:=X.base) I.ok.mod.kin M.kp (WW (ha pos pins s σ H _ I h) fun v z ⟨vs,H1,c,r,q⟩=>⟨c.kIn,?_⟩) he hpl;have q:sp (vs++[]) H1 Q E0:=q;rw[List.append_nil]at q;exact eD M G hr n j BW c r fun y dx b a d=>hi _ _ _ q y dx _ b a d ((Mc a).new b) Jp
def Gx(C:Wk)(m:Str)(H:Hp)(x:V):Prop:=∃a dx fs,x= .ref a/\H a=some (.ins C dx fs)/\fs.lookup m=none
def At(C:Wk)(m:Str)(sp:Sp)(dvs:List V)(ta:TE)(t:TA):TE:=fun σ H Q=>ta σ H fun x H1=>Gx C m H1 x/\t σ H1 fun vs H2=>sp (x::(vs++dvs)) H2 Q E0
section
variable{X:Cx}{k:Nat}{C:Wk}{ps:List Str}{sp:Sp}{dvs:List V}{m:Str}{pos apos:Pos}{e o:Wo}{es:List Expr}{ta:TE}{t:TA}
theorem MK{pl:Sem Bool}(he:PE X o ta)(F:Nv X.prog X.w X.K X.mg X.base C m k ps dvs sp)(hr:Room k X.A)(ha:PA X (e::es) t)
  (hst:starEach (e::es) X.env=(false,eval e X.env)::starEach es X.env:=by rfl) (hpl:(backTo pos (starEach es X.env)).any (·.1)=false:=by rfl)
  (ht : eval (.Call (.Attribute o m apos) (e :: es) [] pos) X.env = (do
   let ov <-eval o X.env
   standAt apos.atName
   let (f,first) <-holding [ov] (getMethod ov m pl)
   callWith pos f first (backTo pos (starEach (e :: es) X.env)) (backToKw pos (keywordEach [] X.env))) := by rfl) :
  PE X (.Call (.Attribute o m apos) (e::es) [] pos) (At C m sp dvs ta t):=by
 obtain⟨f,fd,ds,G,c,b,y,v⟩:=F.ex;intro pins s σ H Q I h;refine W.methodCall_KW (pl:=pl) (WW (he pins s σ H _ I h) fun u j ⟨x,H1,i,n,⟨a,dx,fs,ex,z,l⟩,q⟩=>?_) ht;subst ex;obtain rfl:u=Value.ref a:=n;refine Zd i z c b l ?_;refine W.callWith_K (first:=[.ref a]) (h₀:=X.base) I.ok.mod.kin b.kp (WW (ha pos pins j σ H1 _ i q) fun us s2 ⟨vs,H2,d,r,p⟩=>⟨d.kIn,?_⟩) hst hpl;exact Ct (us:=.ref a::us) (vs:=.ref a::vs) G hr y v BW d (.cons rfl r) p
theorem Mq{pl:Sem Bool}(he:PE X o ta)(F:Nv X.prog X.w X.K X.mg X.base C m k ps dvs sp)(hr:Room k X.A)
  (ht : eval (.Call (.Attribute o m apos) [] [] pos) X.env = (do
   let ov <-eval o X.env
   standAt apos.atName
   let (f,first) <-holding [ov] (getMethod ov m pl)
   callWith pos f first (backTo pos (starEach [] X.env)) (backToKw pos (keywordEach [] X.env))) := by rfl) :
  PE X (.Call (.Attribute o m apos) [] [] pos) (At C m sp dvs ta Dx):=by
 obtain⟨f,fd,ds,G,c,d,j,i⟩:=F.ex;intro pins s σ H Q I h;refine W.methodCall_KW (pl:=pl) (WW (he pins s σ H _ I h) fun u p ⟨x,H1,b,e,⟨a,dx,fs,ex,n,l⟩,q⟩=>?_) ht;subst ex;obtain rfl:u=Value.ref a:=e;refine Zd b n c d l ?_;exact W.callWith_K0 (first:=[.ref a]) b.kIn d.kp (Ct (us:=[.ref a]) (vs:=[.ref a]) G hr j i BW b (.cons rfl .nil) q)
end
theorem Ws.get{H G:Hp}{b:Wk}{o:HO}(s:Ws H G)(h:H b=some o):G b=some o:=s b o h
theorem JC.get{l:Wk}{H G:Hp}{b:Wk}{o:HO}(s:JC l H G)(h:H b=some o)(n:b≠l):G b=some o:=s b o h n
theorem Ws.butNew{l:Wk}{H H' G:Hp}(s:Ws H H')(b:JC l H' G)(h:H l=none):Ws H G:=fun c o e=>b c o (s c o e) (N0 e h)
theorem JC.free{l:Wk}{H G:Hp}(s:JC l H G){b:Wk}(h:G b=none)(n:b≠l):H b=none:=by
 cases e:H b with
 |none=>rfl
 |some o=>rw[s b o e n]at h;cases h
section
variable{caps:List (Option Nat)}{g:TG}{tc:TT}{te:TE}
theorem AX{K:Wi}{a:Wk}{xs:List V}{σ:St}{H1:Hp}{Q:VK}(Pv:Nat->List V->St->Hp->Prop)(h0:Pv 0 [] (N5 caps σ) H1)(hl:∀i ys σ H,Pv i ys σ H->i <=xs.length->WA K H a xs/\ys.length <=i)(hz:xs.length <=sizeLine)
  (hs:∀i x ys σ H,xs[i]?=some x->Pv i ys σ H->g x σ H fun σ2 H2=>tc σ2 H2 fun b H3=>if b=true then te σ2 H3 fun y H4=>Pv (i+ 1) (ys++[y]) σ2 H4 else Pv (i+ 1) ys σ2 H3)
  (hd:∀ys σ H,Pv xs.length ys σ H->∀p G,H p=none->Ws H G->G p=some (.lst ys)->Q (.ref p) G):EI caps g tc te σ Q (Rn K a) H1:=
 Oz Pv h0 hl hz hs fun ys σ H h p c=>hd ys σ H h p _ c (Mc c) Jp
theorem Cs{lo:Int}{n:Nat}{σ:St}{H1:Hp}{Q:VK}(Pv:Nat->List V->St->Hp->Prop)(h0:Pv 0 [] (N5 caps σ) H1)(hl:∀i ys σ H,Pv i ys σ H->i <=n->ys.length <=i)(hz:n <=sizeLine)
  (hs:∀i ys σ H,i < n->Pv i ys σ H->g (.int (lo+ i)) σ H fun σ2 H2=>tc σ2 H2 fun b H3=>if b=true then te σ2 H3 fun y H4=>Pv (i+ 1) (ys++[y]) σ2 H4 else Pv (i+ 1) ys σ2 H3)
  (hd:∀ys σ H,Pv n ys σ H->∀p G,H p=none->Ws H G->G p=some (.lst ys)->Q (.ref p) G):EI caps g tc te σ Q (R8 lo n) H1:=
 y9 Pv h0 hl hz hs fun ys σ H h p a=>hd ys σ H h p _ a (Mc a) Jp
end
structure Ez(K:Wi)(C:Wk):Prop where
 ha:W.findIn K (.ref C) "__class__"=some (some (.builtin "object.__class__"))
 hn:W.specialIn K (.builtin "object.__class__") "__get__"=some (some (.builtin "getset_descriptor.__get__"))
 htk:W.takesIn K (.builtin "object.__class__")=some true
 hm:W.mroIn K C (.type "object")=some true
def Lv(C:Wk):List V->Hp->VK->Prop:=fun xs H Q=>∃a dx fs,xs=[.ref a,.ref C]/\H a=some (.ins C dx fs)/\Q (.bl true) H
theorem uU{X:Cx}{K:Wi}{C:Wk}(h:X.K=K)(cl:MN K C)(ic:Ez K C):WY X (.builtin "isinstance") (Lv C):=by
 subst h;intro pins s σ H xs b Q I r c;obtain⟨a,dx,fs,rfl,ha,q⟩:=c;refine L7 pins s σ H _ b Q I r ⟨.ref a,.ref C,.ref C,true,rfl,.ins ha cl ic.ha ic.hn ic.htk ic.hm,rfl,?_,q⟩;show W.kitOne X.K (.ref C) (.ref C)=some true;unfold W.kitOne;rw[Y5 (by simp)]
section
variable{P:Wc}{w:Wh}{K:Wi}{mg:W8}{base:Wn}
theorem Nv.imp{C:Wk}{m:Str}{k:Nat}{ps:List Str}{dvs:List V}{sp sp':Sp}(F:Nv P w K mg base C m k ps dvs sp)(h:∀vs H Q E,sp' vs H Q E->sp vs H Q E):Nv P w K mg base C m k ps dvs sp':=by
 obtain⟨f,fd,ds,a,b,c,d,e⟩:=F.ex;exact⟨f,fd,ds,a.imp h,b,c,d,e⟩
end
theorem WX{t u:TS}{D:Tl}{σ:St}{H:Hp}(h:∀N:St->Hp->Prop,(∀σ' H',u D σ' H'->N σ' H')->t {D with nx:=N} σ H):Dz t u D σ H:=h (u D) fun _ _ x=>x
theorem xZ(ns:Wl){lo hi:Nat}(h1:lo <=hi)(h2:hi <=ns.length):DY (ns.map V.int) (some (lo:Int)) (some (hi:Int))=((ns.drop lo).take (hi - lo)).map V.int:=by
 unfold DY;rw[HT.sIx_nat,HT.sIx_nat,Y1,Nat.min_eq_left h2,Nat.min_eq_left (YD h1 h2),List.map_take,List.map_drop]
section
variable{κ:Type}[DecidableEq κ]
def WM(kvs:List (κ×V))(k:κ):Option V:=(kvs.find? fun kv=>decide (kv.1=k)).map (·.2)
def TC(kvs:List (κ×V))(k:κ)(v:V):List (κ×V):=
 if(kvs.any fun kv=>decide (kv.1=k))=true then kvs.map (fun kv=>if kv.1=k then(kv.1,v) else kv) else kvs++[(k,v)]
theorem GP{p:κ×V}{r:List (κ×V)}{k:κ}(e:p.1=k):WM (p::r) k=some p.2:=by simp[WM,YN,e]
theorem GI{p:κ×V}{r:List (κ×V)}{k:κ}(e:¬p.1=k):WM (p::r) k=WM r k:=by simp[WM,YN,e]
theorem Cu(k:κ):∀kvs:List (κ×V),(kvs.any fun kv=>decide (kv.1=k))=(WM kvs k).isSome
 |[]=>rfl
 |p::r=>by
  rw[XQ]
  by_cases e:p.1=k
  .simp only[GP e,Yd e,Bool.true_or,Option.isSome_some]
  .rw[GI e,Yp e,Bool.false_or];exact Cu k r
theorem Sr(k j:κ)(y:V):∀kvs:List (κ×V),WM (kvs.map fun kv=>if kv.1=k then(kv.1,y) else kv) j=(WM kvs j).map fun x=>if j=k then y else x
 |[]=>rfl
 |p::r=>by
  have ih:=Sr k j y r;rw[List.map_cons]
  by_cases h:p.1=k
  .rw[Y5 h]
   by_cases e:p.1=j
   .rw[GP (p:=(p.1,y)) e,GP e,Va,Y5 (e.symm.trans h)]
   .rw[GI (p:=(p.1,y)) e,GI e,ih]
  .rw[Y2 h]
   by_cases e:p.1=j
   .rw[GP (p:=p) e,GP e,Va,Y2 (fun z=>h (e.trans z))]
   .rw[GI (p:=p) e,GI e,ih]
theorem Qa(k j:κ)(y:V):∀kvs:List (κ×V),WM kvs k=none->WM (kvs++[(k,y)]) j=if j=k then some y else WM kvs j
 |[],_=>by
  by_cases e:k=j
  .rw[Y5 e.symm];exact GP (p:=(k,y)) e
  .rw[Y2 (fun z=>e z.symm)];exact GI (p:=(k,y)) e
 |p::r,hn=>by
  rw[List.cons_append];have hk:¬p.1=k:=fun z=>by rw[GP z]at hn;cases hn
  rw[GI hk]at hn;have a:=Qa k j y r hn
  by_cases e:p.1=j
  .rw[GP e,GP e,Y2 (fun z=>hk (e.trans z))]
  .rw[GI e,GI e,a]
theorem nW(kvs:List (κ×V))(k j:κ)(y:V):WM (TC kvs k y) j=if j=k then some y else WM kvs j:=by
 unfold TC
 by_cases a:(kvs.any fun b=>decide (b.1=k))=true
 .rw[Y5 a,Sr];rw[Cu]at a
  by_cases e:j=k
  .obtain⟨x,c⟩:=UF.mp a;rw[Y5 e,e,c,Va,Y5 rfl]
  .rw[Y2 e];cases WM kvs j with
   |none=>rfl
   |some x=>rw[Va,Y2 e]
 .rw[Y2 a];refine Qa k j y kvs ?_;rw[Cu]at a;cases q:WM kvs k with
  |none=>rfl
  |some x=>rw[q]at a;exact(a rfl).elim
theorem IB(kvs:List (κ×V))(k:κ)(v:V):(TC kvs k v).length <=kvs.length+ 1:=by
 unfold TC
 split
 .rw[Y1];lia
 .rw[Ys,List.length_cons,List.length_nil];lia
theorem Td.isSome_eq{o:Option V}{u:Option Value}(r:Td o u):o.isSome=u.isSome:=by
 cases o with
 |none=>cases u with
  |none=>rfl
  |some _=>exact(show False from r).elim
 |some _=>cases u with
  |none=>exact(show False from r).elim
  |some _=>rfl
theorem KV.val{kvs:List (κ×V)}{vs:List (κ×Value)}(r:KV kvs vs)(k:κ):Td (WM kvs k) (valueAt vs k):=by
 unfold KV at r
 induction r with
 |nil=>exact True.intro
 |@cons p q ps qs h t ih=>
  obtain⟨h1,h2⟩:=h
  by_cases e:p.1=k
  .have a:q.1=k:=h1.symm.trans e;have b:valueAt (q::qs) k=some q.2:=by simp[valueAt,YN,a]
   rw[GP e,b];exact h2
  .have a:¬q.1=k:=fun z=>e (h1.trans z)
   have b:valueAt (q::qs) k=valueAt qs k:=by simp[valueAt,YN,a]
   rw[GI e,b];exact ih
theorem KV.any{kvs:List (κ×V)}{vs:List (κ×Value)}(r:KV kvs vs)(k:κ):(kvs.any fun kv=>decide (kv.1=k))=vs.any fun kv=>decide (kv.1=k):=by
 unfold KV at r
 induction r with
 |nil=>rfl
 |cons h t ih=>rw[XQ,XQ,ih,h.1]
theorem KV.repl{kvs:List (κ×V)}{vs:List (κ×Value)}(r:KV kvs vs)(k:κ){y:V}{u:Wj}(ry:WJ y u):
  KV (kvs.map fun kv=>if kv.1=k then(kv.1,y) else kv) (vs.map fun kv=>if kv.1=k then(kv.1,u) else kv):=by
 unfold KV at r ⊢
 induction r with
 |nil=>exact .nil
 |@cons p q ps qs h t ih=>
  rw[List.map_cons,List.map_cons];refine .cons ?_ ih;obtain⟨h1,h2⟩:=h
  by_cases e:p.1=k
  .rw[Y5 e,Y5 (h1.symm.trans e)];exact⟨h1,ry⟩
  .rw[Y2 e,Y2 (fun z=>e (h1.trans z))];exact⟨h1,h2⟩
theorem KV.put{kvs:List (κ×V)}{vs:List (κ×Value)}(r:KV kvs vs)(k:κ){y:V}{u:Wj}(ry:WJ y u):KV (TC kvs k y) (stored vs k u):=by
 unfold TC stored;rw[r.any k]
 by_cases e:(vs.any fun a=>decide (a.1=k))=true
 .rw[Y5 e,Y5 e];exact r.repl k ry
 .rw[Y2 e,Y2 e];exact Paired.snoc r ⟨rfl,ry⟩
theorem KV.keys{kvs:List (κ×V)}{vs:List (κ×Value)}(r:KV kvs vs):kvs.map (·.1)=vs.map (·.1):=by
 unfold KV at r
 induction r with
 |nil=>rfl
 |cons h t ih=>rw[List.map_cons,List.map_cons,ih,h.1]
theorem KV.length{kvs:List (κ×V)}{vs:List (κ×Value)}(r:KV kvs vs):kvs.length=vs.length:=Paired.length r
end
theorem Eu{P:Wc}{w:Wh}{k:WO}{u:Wj}(r:WJ (kV k) u):(WF P w).is k u=true:=by
 cases k with
 |inl i=>obtain⟨t,e⟩:=(show ∃t,u=Value.int i t from r);subst e;exact nR P w i t
 |inr x=>obtain⟨t,e⟩:=(show ∃t,u=Value.str x t from r);subst e;exact r0 P w x t
theorem Co{P:Wc}{w:Wh}:∀{ks:List WO} {us:Wm},WD (ks.map kV) us->ItemsAre (WF P w) ks us
 |[],_,r=>by rw[List.map_nil]at r;cases r;exact .nil
 |k::ks,_,r=>by
  rw[List.map_cons]at r;cases r with
  |cons h t=>exact .cons (Eu h) (Co t)
abbrev KT(H:Hp):List (List WO×V)->List (List WO×Addr×Value)->Prop:=Paired fun p q=>p.1=q.1/\H q.2.1=some (.tup (p.1.map kV))/\WJ p.2 q.2.2
theorem KT.val{H:Hp}{kvs:List (List WO×V)}{xs:List (List WO×Addr×Value)}(r:KT H kvs xs)(k:List WO):Td (WM kvs k) ((atKey xs k).map (·.2)):=by
 induction r with
 |nil=>exact True.intro
 |@cons p q ps qs h t ih=>
  obtain⟨h1,_,h2⟩:=h
  by_cases e:p.1=k
  .have a:q.1=k:=h1.symm.trans e;have b:atKey (q::qs) k=some q.2:=by simp[atKey,YN,a]
   rw[GP e,b];exact h2
  .have a:¬q.1=k:=fun z=>e (h1.trans z)
   have b:atKey (q::qs) k=atKey qs k:=by simp[atKey,YN,a]
   rw[GI e,b];exact ih
theorem KT.repl{H:Hp}{kvs:List (List WO×V)}{xs:List (List WO×Addr×Value)}(r:KT H kvs xs)(k:List WO){y:V}{u:Wj}(ry:WJ y u):
  KT H (kvs.map fun kv=>if kv.1=k then(kv.1,y) else kv) (xs.map (putAt k u)):=by
 induction r with
 |nil=>exact .nil
 |@cons p q ps qs h t ih=>
  rw[List.map_cons,List.map_cons];refine .cons ?_ ih;obtain⟨h1,h2,a⟩:=h;unfold putAt
  by_cases e:p.1=k
  .rw[Y5 e,Y5 (h1.symm.trans e)];exact⟨h1,h2,ry⟩
  .rw[Y2 e,Y2 (fun z=>e (h1.trans z))];exact⟨h1,h2,a⟩
theorem KT.put{H:Hp}{kvs:List (List WO×V)}{xs:List (List WO×Addr×Value)}(r:KT H kvs xs)(k:List WO){b:Wk}{y:V}{u:Wj}(hb:H b=some (.tup (k.map kV)))(ry:WJ y u):
  KT H (TC kvs k y) (storedH xs k b u):=by
 have e:(kvs.any fun a=>decide (a.1=k))=(atKey xs k).isSome:=by
  rw[Cu,(r.val k).isSome_eq,XU]
 unfold TC storedH;rw[e]
 by_cases q:(atKey xs k).isSome=true
 .rw[Y5 q,Y5 q];exact r.repl k ry
 .rw[Y2 q,Y2 q];exact Paired.snoc r ⟨rfl,hb,ry⟩
theorem KT.keeps{H H':Hp}{kvs:List (List WO×V)}{xs:List (List WO×Addr×Value)}(r:KT H kvs xs)(ht:∀b ys,H b=some (.tup ys)->H' b=some (.tup ys)):KT H' kvs xs:=
 Paired.mapP r fun _ _ z=>⟨z.1,ht _ _ z.2.1,z.2.2⟩
section
variable{P:Wc}{w:Wh}{H:Hp}{h:Wn}{a:Wk}
theorem Q4{u:HO}(ok:Tt P w H h)(e:Rd H a u):WR P w H h a u:=e.ok ok
theorem EY{kvs:List (WO×V)}(ok:Tt P w H h)(e:Rd H a (.dK kvs)):kvs.length <=sizeLine/\(a==sysModules)=false/\∃vs,KV kvs vs/\h.DictOf (WF P w) a vs:=
 show WR P w H h a (.dK kvs) from Q4 ok e
theorem A4{kvs:List (WO×V)}(ok:Tt P w H h)(e:H a=some (.dK kvs)):kvs.length <=sizeLine/\(a==sysModules)=false/\∃vs,KV kvs vs/\h.DictOf (WF P w) a vs:=EY ok (.inl e)
theorem Rm{ks:List WO}(ok:Tt P w H h)(e:H a=some (.tup (ks.map kV))):(tupleKind (WF P w)).is h ks a:=by
 obtain⟨_,b,r,o,h1,h2,n,c⟩:=(show WR P w H h a (.tup (ks.map kV)) from ok a _ e);exact⟨o,b.toArray,n,h1,h2,c,by simpa using Co r⟩
theorem BM{kvs:List (List WO×V)}(ok:Tt P w H h)(e:Rd H a (.dT kvs)):kvs.length <=sizeLine/\(a==sysModules)=false/\
  ∃xs,KT H kvs xs/\h.DictOfH (tupleKind (WF P w)) a xs:=by
 obtain⟨z,y,xs,r,o,es,ep,h1,h2,f,d,c⟩:=(show WR P w H h a (.dT kvs) from Q4 ok e);refine⟨z,y,xs,r,o,es,ep,h1,h2,f,d,fun x b=>?_,c⟩;have all:∀{l:List (List WO×V)} {m:List (List WO×Addr×Value)},KT H l m->∀x∈m,(tupleKind (WF P w)).is h x.1 x.2.1:=by
  intro l m q
  induction q with
  |nil=>intro x b;exact nomatch b
  |@cons p q ps qs hq t ih=>
   intro x b;rcases Yl.mp b with e|b
   .subst e;exact Rm ok (by rw[<-hq.1];exact hq.2.1)
   .exact ih x b
 exact all r x b
theorem RN{kvs:List (List WO×V)}(ok:Tt P w H h)(e:H a=some (.dT kvs)):kvs.length <=sizeLine/\(a==sysModules)=false/\
  ∃xs,KT H kvs xs/\h.DictOfH (tupleKind (WF P w)) a xs:=BM ok (.inl e)
end
def Nx(H:Hp)(a:Wk)(y:V)(r:Option V):Prop:=
 (∃kvs k,Rd H a (.dK kvs)/\y=kV k/\r=WM kvs k)\/∃kvs k b,Rd H a (.dT kvs)/\y= .ref b/\H b=some (.tup (k.map kV))/\r=WM kvs k
def D9(H:Hp)(a:Wk)(y v:V)(H':Hp):Prop:=
 (∃kvs k,H a=some (.dK kvs)/\y=kV k/\kvs.length < sizeLine/\H'=upd H a (.dK (TC kvs k v)))\/
 ∃kvs k b,H a=some (.dT kvs)/\y= .ref b/\H b=some (.tup (k.map kV))/\kvs.length < sizeLine/\H'=upd H a (.dT (TC kvs k v))
theorem Nx.k{H:Hp}{a:Wk}{kvs:List (WO×V)}{k:WO}(e:H a=some (.dK kvs)):Nx H a (kV k) (WM kvs k):=.inl ⟨kvs,k,.inl e,rfl,rfl⟩
theorem D9.k{H:Hp}{a:Wk}{kvs:List (WO×V)}{k:WO}{v:V}(e:H a=some (.dK kvs))(hl:kvs.length < sizeLine):D9 H a (kV k) v (upd H a (.dK (TC kvs k v))):=.inl ⟨kvs,k,e,rfl,hl,rfl⟩
theorem D9.t{H:Hp}{a b:Wk}{kvs:List (List WO×V)}{k:List WO}{v:V}(e:H a=some (.dT kvs))(eb:H b=some (.tup (k.map kV)))(hl:kvs.length < sizeLine):
  D9 H a (.ref b) v (upd H a (.dT (TC kvs k v))):=.inr ⟨kvs,k,b,e,rfl,eb,hl,rfl⟩
section
variable{X:Cx}{pins:Wb}{σ:St}{H:Hp}{s:We}{a:Wk}{y v:V}{u r:Wj}{o:Option V}{A:Wg}{E:W9}
theorem Wv.big(I:Wv X pins σ H s):sysModules < s.heap.objs.size:=by
 have h:mainGlobals < s.heap.objs.size:=(I.mod.glob.keeps I.bk).lt;exact Nat.lt_trans (by decide) h
theorem gX{Q:W9}(hu:A.units+ 1 < cLine)(I:Wv X pins σ H s)(g:Nx H a y (some v))(ry:WJ y u)(h:∀w' s',Wv X pins σ H s'->WJ v w'->Q w' s'):
  wpAny (model X.prog X.w) A (getItem (.ref a) u) Q E s:=by
 rcases g with⟨kvs,k,e,ey,l⟩|⟨kvs,k,b,e,ey,eb,l⟩
 .subst ey;obtain⟨z,n,vs,d,dd⟩:=EY I.hok e;obtain⟨w',f,c⟩:=Td.some_of (v:=v) (o:=valueAt vs k) (by rw[l];exact d.val k);exact wpAny_getItem_of (Eu ry) dd.mapOf f (h w' _ (I.tok _) c)
 .subst ey;cases (show u=Value.ref b from ry);obtain⟨z,n,xs,d,dd⟩:=BM I.hok e;obtain⟨w',f,c⟩:=Td.some_of (v:=v) (o:=(atKey xs k).map (·.2)) (by rw[l];exact d.val k);obtain⟨p,j,i⟩:=Yn.mp f;refine wpAny_getItem_heap (Xp hu) (Rm I.hok eb) dd j ?_;rw[i];exact h w' _ (I.tok _) c
theorem Pm{Q:W9}(hu:A.units+ 1 < cLine)(I:Wv X pins σ H s)(g:Nx H a y o)(ry:WJ y u)(h:∀s',Wv X pins σ H s'->Q (.bool o.isSome) s'):
  wpAny (model X.prog X.w) A (compareOp .In u (.ref a)) Q E s:=by
 rcases g with⟨kvs,k,e,ey,l⟩|⟨kvs,k,b,e,ey,eb,l⟩
 .subst ey;obtain⟨z,d,vs,c,dd⟩:=EY I.hok e;refine wpAny_in_of (Eu ry) d dd.mapOf ?_;rw[<-(c.val k).isSome_eq,<-l];exact h _ (I.tok _)
 .subst ey;cases (show u=Value.ref b from ry);obtain⟨z,d,xs,c,dd⟩:=BM I.hok e;refine wpAny_in_heap (Xp hu) (Rm I.hok eb) d dd ?_;have q:=(c.val k).isSome_eq;rw[XU]at q;rw[<-q,<-l];exact h _ (I.tok _)
theorem Z4{Q:W9}(hu:A.units+ 1 < cLine)(I:Wv X pins σ H s)(g:Nx H a y o)(ry:WJ y u)(h:∀s',Wv X pins σ H s'->Q (.bool (!o.isSome)) s'):
  wpAny (model X.prog X.w) A (compareOp .NotIn u (.ref a)) Q E s:=by
 rcases g with⟨kvs,k,e,ey,l⟩|⟨kvs,k,b,e,ey,eb,l⟩
 .subst ey;obtain⟨z,d,vs,c,dd⟩:=EY I.hok e;refine wpAny_notIn_of (Eu ry) d dd.mapOf ?_;rw[<-(c.val k).isSome_eq,<-l];exact h _ (I.tok _)
 .subst ey;cases (show u=Value.ref b from ry);obtain⟨z,d,xs,c,dd⟩:=BM I.hok e;refine wpAny_notIn_heap (Xp hu) (Rm I.hok eb) d dd ?_;have q:=(c.val k).isSome_eq;rw[XU]at q;rw[<-q,<-l];exact h _ (I.tok _)
theorem EV{h':Wn}{t':Nat}{ob:HO}(I:Wv X pins σ H s)(mu:A9 (H a))(hs:Heap.SameBut a s.heap h')(he:∃q,h'.get? a=some q)(new:WR X.prog X.w (upd H a ob) h' a ob):
  Wv X pins σ (upd H a ob) {s with heap:=h',toks:=t'}:=
 I.write (x:=a) (e:=a) mu (.inl rfl) (fun b q c z=>(hs.2 b c).trans z) he new
theorem PX{P:Wc}{w:Wh}{H':Hp}{h':Wn}{kvs:List (WO×V)}{vs:List (WO×Value)}(z:kvs.length <=sizeLine)(hd:(a==sysModules)=false)(rel:KV kvs vs)(dd:h'.DictOf (WF P w) a vs):
  WR P w H' h' a (.dK kvs):=⟨z,hd,vs,rel,dd⟩
theorem Le{H':Hp}{Q:Wa}(hu:A.units+ 1 < cLine)(I:Wv X pins σ H s)(g:D9 H a y v H')(ry:WJ y u)(rv:WJ v r)(h:∀s',Wv X pins σ H' s'->Q () s'):
  wpAny (model X.prog X.w) A (setItem (.ref a) u r) Q E s:=by
 rcases g with⟨kvs,k,e,ey,l,eH⟩|⟨kvs,k,b,e,ey,eb,l,eH⟩
 .subst ey eH;obtain⟨z,x,vs,d,dd⟩:=A4 I.hok e;have j:vs.length <=sizeLine:=by rw[<-d.length];exact z
  have p:(TC kvs k v).length <=sizeLine:=by have:=IB kvs k v;lia
  refine wpAny_setItem_pairs (hsz:=j) (Eu ry) dd fun h' f n=>h _ ?_
  have he:∃q,h'.get? a=some q:=let ⟨q,_,_,i,_⟩:=f;⟨q,i⟩;exact EV I (by rw[e];exact True.intro) n he (PX p x (d.put k rv) f)
 .subst ey eH;cases (show u=Value.ref b from ry);obtain⟨z,x,xs,d,dd⟩:=RN I.hok e;have j:xs.length <=sizeLine:=by rw[<-Paired.length d];exact z
  have p:(TC kvs k v).length <=sizeLine:=by have:=IB kvs k v;lia
  refine wpAny_setItem_heap (hsz:=j) (Xp hu) (Rm I.hok eb) dd fun h' f n=>h _ ?_
  obtain⟨q,es,ep,i,h2,h3,h4,_,h5⟩:=f;refine EV I (by rw[e];exact True.intro) n ⟨q,i⟩ ⟨p,x,_,(d.put k eb rv).keeps fun c ys ec=>?_,q,es,ep,i,h2,h3,h4,h5⟩;rw[WT (Wr ec e (fun z=>nomatch z))];exact ec
end
section
variable{X:Cx}{pins:Wb}{σ:St}{H:Hp}{s:We}{a:Wk}{kvs:List (WO×V)}{k:WO}{u:Wj}{A:Wg}{E:W9}
theorem yO{Q:W9}(I:Wv X pins σ H s)(e:Rd H a (.dK kvs))(h:∀t s',Wv X pins σ H s'->Q (.int kvs.length t) s'):wpAny (model X.prog X.w) A (call (.builtin "len") [.ref a]) Q E s:=by
 obtain⟨z,c,vs,b,dd⟩:=EY I.hok e;refine call_len_dict c dd (by rw[<-b.length];rw[YV]at z;lia) ?_;rw[<-b.length];exact h _ _ (I.tok _)
end
def HC(i:Wo):Prop:=∀ov iv,subscripted i false ov iv=operate [ov,iv] (getItem ov iv)
theorem uQ{prog:Wc}{w:Wh}{A:Wg}{E:W9}{s:We}{env:Env}{value slice:Wo}{pos:Pos}{T id:String}{Q:W9}
  (hl:typeLookup (.type T) "__getitem__"=pure (some (.builtin id))) (hs:HC slice)
  (h:wpAny (model prog w) A (eval value env) (fun o s₁=>wpAny (model prog w) A (eval slice env) (fun i s₂=>s₂.TypeIs o T/\wpAny (model prog w) A (getItem o i) Q E s₂) E s₁) E s):
  wpAny (model prog w) A (eval (.Subscript value slice pos) env) Q E s:=by
 refine Subscript_ (X9 h (fun o s₁ f=>X9 f (fun i s₂ b=>?_) fun _ _ x=>x) fun _ _ x=>x);obtain⟨d,b⟩:=b;unfold subscriptTail;refine Y0 ?_;rw[getitemInPython_of_ne d.not_modules];refine Y0 (wpAny_specialOf d hl ?_);have a:wpAny (model prog w) A (subscripted slice false o i) (fun r c=>wpAny (model prog w) A (letTemporaryGo value o r >>=fun _=>pure r) Q E c) E s₂:=by
  rw[hs o i];exact wpAny_operating (X9 b (fun r c e=>Y0 (wpAny_letTemporaryGo (Y4 e))) fun _ _ x=>x)
 first
  |exact Y4 (Y0 a)
  |exact Y0 (Y4 (Y0 a))
  |exact Y0 a
theorem jU{X:Cx}{pins:Wb}{σ:St}{H:Hp}{s:We}{a:Wk}{y:V}{o:Option V}(I:Wv X pins σ H s)(g:Nx H a y o):s.TypeIs (.ref a) "dict":=by
 rcases g with⟨kvs,k,e,_,_⟩|⟨kvs,k,b,e,_,_,_⟩
 .obtain⟨_,_,vs,_,dd⟩:=EY I.hok e;exact dd.typeIs
 .obtain⟨_,_,xs,_,dd⟩:=BM I.hok e;exact dd.typeIs
def Cj(td ty:TE):TE:=fun σ H Q=>td σ H fun x H1=>ty σ H1 fun y H2=>∃a v,x= .ref a/\Nx H2 a y (some v)/\Q v H2
section
variable{X:Cx}{o i e value:Wo}{pos pos' tpos:Pos}{td ty tv:TE}
theorem gM(hu:X.A.units+ 1 < cLine)(ho:PE X o td)(hi:PE X i ty)(hs:HC i):PE X (.Subscript o i pos) (Cj td ty):=by
 intro pins s σ H Q I h;refine uQ PySem.F.slot_dict_getitem.lookup hs (WW (ho pins s σ H _ I h) fun u d ⟨x,H1,q,f,n⟩=>WW (hi pins d σ H1 _ q n) fun iv z ⟨y,H2,c,e,a,v,ex,g,j⟩=>?_);subst ex;obtain rfl:u=Value.ref a:=f;exact⟨jU c g,gX hu c g e fun r w p b=>⟨v,H2,p,b,j⟩⟩
end
theorem QY{P:Wc}{w:Wh}{H:Hp}(h:Wn)(hb:sysModules < h.objs.size):WR P w H (h.push {cls:=.type "dict",data:=.dict #[]}) h.objs.size (.dK []):=
 ⟨YF _,Xg.mpr (Ne.symm (Yj hb)),[],.nil,Heap.DictOf.new h⟩
theorem bD{P:Wc}{w:Wh}{H:Hp}(h:Wn)(hb:sysModules < h.objs.size):WR P w H (h.push {cls:=.type "dict",data:=.dict #[]}) h.objs.size (.dT []):=
 ⟨YF _,Xg.mpr (Ne.symm (Yj hb)),[],.nil,_,#[],0,Yc _ rfl,⟨rfl,rfl,rfl⟩,rfl,rfl,UM⟩
def xO:TE:=fun _ H Q=>∀p,H p=none->Q (.ref p) (upd H p (.dK []))
def gJ:TE:=fun _ H Q=>∀p,H p=none->Q (.ref p) (upd H p (.dT []))
section
variable{X:Cx}{pos:Pos}
theorem vJ:PE X (.Dict [] [] pos) xO:=fun pins s σ H Q I h=>
 wpAny_Dict_empty ⟨.ref s.heap.objs.size,_,I.laid (a:=s.heap.objs.size) (o:=.dK []) (t':=s.toks) (fun _ _ q=>Y8 _ q) (Y6 _) (QY s.heap I.big),rfl,h _ (I.hok.fresh (Y6 _))⟩
theorem nV:PE X (.Dict [] [] pos) gJ:=fun pins s σ H Q I h=>
 wpAny_Dict_empty ⟨.ref s.heap.objs.size,_,I.laid (a:=s.heap.objs.size) (o:=.dT []) (t':=s.toks) (fun _ _ q=>Y8 _ q) (Y6 _) (bD s.heap I.big),rfl,h _ (I.hok.fresh (Y6 _))⟩
end
def Aa:List (TE×TE)->St->Hp->(List (V×V)->Hp->Prop)->Prop
 |[],_,H,Q=>Q [] H
 |(tk,tv)::r,σ,H,Q=>tk σ H fun x H1=>tv σ H1 fun y H2=>Aa r σ H2 fun ps H3=>Q ((x,y)::ps) H3
abbrev VV:List (V×V)->List (Value×Value)->Prop:=Paired fun p q=>WJ p.1 q.1/\WJ p.2 q.2
def Aq(X:Cx)(pos:Pos)(keys:List (Option Expr))(values:List Expr)(trs:List (TE×TE)):Prop:=
 ∀ (pins:Wb) (s:We) (σ:St) (H:Hp) (Q:List (V×V)->Hp->Prop),Wv X pins σ H s->Aa trs σ H Q->
  wpAny (model X.prog X.w) X.A (evalPairs (pairTrees keys values X.env pos)) (fun vs s'=>∃ps H',Wv X pins σ H' s'/\VV ps vs/\Q ps H') X.xe s
theorem Lw{X:Cx}{pos:Pos}:Aq X pos [] [] []:=fun pins s σ H Q I h=>pairTrees_nil_walk ⟨[],H,I,.nil,h⟩
theorem Rf{X:Cx}{pos:Pos}{k v:Wo}{ks:List (Option Expr)}{vs:List Expr}{tk tv:TE}{trs:List (TE×TE)}(hk:PE X k tk)(hv:PE X v tv)(hr:Aq X pos ks vs trs):
  Aq X pos (some k::ks) (v::vs) ((tk,tv)::trs):=fun pins s σ H Q I h=>
 pairTrees_cons_walk (WW (hk pins s σ H _ I h) fun u c ⟨x, H1, q, e, j⟩ => WW (hv pins c σ H1 _ q j) fun z b ⟨y, H2, p, d, i⟩ =>
  WW (hr pins b σ H2 _ p i) fun w s3 ⟨ps, r, n, a, f⟩ => ⟨(x, y) :: ps, r, n, .cons ⟨e, d⟩ a, f⟩)
def Es(kvs more:List (WO×V)):List (WO×V):=more.foldl (fun acc kv=>TC acc kv.1 kv.2) kvs
theorem KV.merge:∀{more:List (WO×V)} {rs:List (WO×Value)} {kvs:List (WO×V)} {vs:List (WO×Value)},KV more rs->KV kvs vs->KV (Es kvs more) (merged vs rs):=by
 intro more rs kvs vs r;unfold KV at r
 induction r generalizing kvs vs with
 |nil=>intro q;exact q
 |@cons p q ps qs h t ih=>
  intro a;have e:KV (TC kvs p.1 p.2) (stored vs q.1 q.2):=by
   have:=a.put p.1 h.2;rw[<-h.1];exact this
  exact ih e
theorem Z3:∀ (more kvs:List (WO×V)),(Es kvs more).length <=kvs.length+ more.length
 |[],kvs=>by show kvs.length <=kvs.length+ 0;lia
 |p::r,kvs=>by
  have h1:=Z3 r (TC kvs p.1 p.2);have h2:=IB kvs p.1 p.2;show(Es (TC kvs p.1 p.2) r).length <=_;rw[List.length_cons];lia
theorem SV{P:Wc}{w:Wh}:∀{kvs:List (WO×V)} {ws:List (Value×Value)},VV (kvs.map fun kv=>(kV kv.1,kv.2)) ws->∃rs,Carries (WF P w) ws rs/\KV kvs rs
 |[],_,r=>by rw[List.map_nil]at r;cases r;exact⟨[],True.intro,.nil⟩
 |p::kvs,_,r=>by
  rw[List.map_cons]at r;cases r with
  |@cons a b as bs h t=>
   obtain⟨rs,c,q⟩:=SV (P:=P) (w:=w) t;obtain⟨e,d⟩:=b;exact⟨(p.1,d)::rs,⟨Eu h.1,rfl,c⟩,.cons ⟨rfl,h.2⟩ q⟩
def LH(trs:List (TE×TE)):TE:=fun σ H Q=>∀p,H p=none->Aa trs σ (upd H p (.dK [])) fun ps H2=>H2 p=some (.dK [])/\∃kvs:List (WO×V),ps=kvs.map (fun kv=>(kV kv.1,kv.2))/\kvs.length <=15/\Q (.ref p) (upd H2 p (.dK (Es [] kvs)))
theorem HJ{X:Cx}{pos:Pos}{keys:List (Option Expr)}{values:List Expr}{trs:List (TE×TE)}(h:Aq X pos keys values trs)(hall:keys.all (·.isSome)=true)(hl:keys.length=values.length)(h0:keys≠[])
  (h15:keys.length <=15):PE X (.Dict keys values pos) (LH trs):=by
 intro pins s σ H Q I q;have r:=I.hok.fresh (Y6 s.heap.objs.size);have x:=I.laid (a:=s.heap.objs.size) (o:=.dK []) (h':=s.heap.push {cls:=.type "dict",data:=.dict #[]}) (t':=s.toks) (fun _ _ q=>Y8 _ q) (Y6 _) (QY s.heap I.big);refine wpAny_Dict_walk (knd:=WF X.prog X.w) hall hl h0 h15 (WW (h pins _ σ _ _ x (q _ r)) fun ws s2 ⟨ps,H2,f,d,e,kvs,ep,lk,j⟩=>?_);subst ep;obtain⟨rs,c,rk⟩:=SV (P:=X.prog) (w:=X.w) d;obtain⟨z,v,y,i,dd⟩:=A4 f.hok e;cases i;refine⟨rs,c,dd,fun h' b p=>⟨.ref s.heap.objs.size,_,?_,rfl,j⟩⟩;have n:(Es [] kvs).length <=sizeLine:=by
  have h1:=Z3 kvs [];rw[List.length_nil]at h1;rw[YV];lia
 have u:∃q,h'.get? s.heap.objs.size=some q:=let ⟨q,_,_,hq,_⟩:=b;⟨q,hq⟩;exact EV f (by rw[e];exact True.intro) p u (PX n v (rk.merge .nil) b)
section
variable{X:Cx}
theorem ZE:WY X (.builtin "len") (fun xs H Q=>∃a kvs,xs=[V.ref a]/\H a=some (.dK kvs)/\Q (.int kvs.length) H):=by
 intro pins s σ H xs d Q I r h;obtain⟨a,kvs,rfl,b,q⟩:=h;obtain⟨u,rfl,ru⟩:=Dw r;cases ru;exact yO I (.inl b) fun t s' c=>⟨.int kvs.length,H,c,⟨t,rfl⟩,q⟩
end
theorem Kc:∀{ns:Wl} {us:Wm},WD (ns.map V.int) us->IntsAre us ns
 |[],_,r=>by cases r;exact .nil
 |n::ns,_,r=>by
  cases r with
  |cons h t=>
   obtain⟨tk,rfl⟩:=(show ∃t,_=Value.int n t from h);exact .cons n tk (Kc t)
theorem QS:∀{ns:Wl} {us:Wm},IntsAre us ns->WD (ns.map V.int) us
 |_,_,.nil=>.nil
 |_,_,.cons n t h=>.cons ⟨t,rfl⟩ (QS h)
section
variable{X:Cx}{K:Wi}
def Ld(K:Wi):List V->Hp->VK->Prop:=fun xs H Q=>∃ (p:Wk) (ns:Wl),xs=[.ref p]/\WA K H p (ns.map V.int)/\ns.length < 64/\∀ (ms:Wl) l G,ms.Perm ns->ms.Pairwise (· <=·)->H l=none->Ws H G->G l=some (.lst (ms.map V.int))->Q (.ref l) G
theorem SG(h:X.K=K):WY X (.builtin "sorted") (Ld K):=by
 subst h;intro pins s σ H xs us Q I r hh;obtain⟨p,i,rfl,hq,h64,q⟩:=hh;obtain⟨u,rfl,x⟩:=Dw r;cases x;obtain⟨c,f,y,n⟩:=I.list hq;have hI:IntsAre c i:=Kc f;have hlen:i.length=c.length:=by have:=f.length;simpa using this
 refine sorted_ints y.isList hI (by lia) fun d a a1 w a3=>?_
 obtain⟨e,he⟩:=sortedAll_at s.heap c d;have v:H (s.heap.objs.size+ 1)=none:=I.hok.fresh (YL _);have j:(a.map V.int).length <=sizeLine:=by
  rw[Y1,w.length_eq];rw[Y1]at n;exact n
 refine⟨.ref (s.heap.objs.size+ 1),upd H (s.heap.objs.size+ 1) (.lst (a.map V.int)),I.laid (t':=s.toks) (fun b o z=>sortedAll_old z) (YL _) ?_,rfl,q a _ _ w a3 v (Mc v) Jp⟩;exact⟨j,d.toList,e,QS a1,he⟩
def Hk(K:Wi):List V->Hp->VK->Prop:=fun xs H Q=>∃ (p:Wk) (ns:Wl),xs=[.ref p]/\WA K H p (ns.map V.int)/\(∀x∈ns,-(2 ^ 62) <=x/\x < 2 ^ 62)/\(∀j,j <=ns.length-> -(2 ^ 62) <=(ns.take j).sum/\(ns.take j).sum < 2 ^ 62)/\Q (.int ns.sum) H
theorem Qd(hc:X.calm=true)(h:X.K=K):WY X (.builtin "sum") (Hk K):=by
 subst h;intro pins s σ H xs us Q I r z;obtain⟨p,a,rfl,hq,hb,hs,q⟩:=z;obtain⟨u,rfl,rx⟩:=Dw r;cases rx;obtain⟨c,rv,pl,hz⟩:=I.list hq;have z:X.A.in1.handled=none:=I.ok.hd hc;have y:=pl.isList;have n:p < s.heap.objs.size:=by obtain⟨_,e,_⟩:=y;exact Ye e
 have f:a.length=c.length:=by have:=rv.length;simpa using this
 refine call_sum_walk (Xu y ⟨s.heap.objs.size,_,_,_,_,_,fun i=>a.getD i 0,rfl,VX z s.heap.objs.size p (Yj n) c.toArray,⟨⟨_,Yc _ rfl,rfl,rfl⟩,y.push _⟩,?_,?_,?_,?_⟩)
 .intro b hb';have:b=s.heap.objs.size\/b=p:=by simpa using hb'
  show b < (s.heap.push _).objs.size;rw[Xi];rcases this with rfl|rfl
  .exact XZ _
  .exact Xh n
 .intro i v hv;have d:c[i]?=some v:=by simpa using hv
  cases e:a[i]? with
  |none=>
   have:c[i]?=none:=by
    rw[XX]at e ⊢;lia
   rw[this]at d;cases d
  |some b=>
   obtain⟨u,hu,ru⟩:=rv.get (i:=i) (x:=V.int b) (by rw[Y9,e];rfl);rw[d]at hu;cases hu;obtain⟨t,rfl⟩:=(show ∃t,v=Value.int b t from ru);exact⟨t,by simp[List.getD,e]⟩
 .intro j hj;have w:j < a.length:=by simpa[f] using hj
  have e1:a.getD j 0=a[j]:=by simp[List.getD,w]
  have h1:=hb _ (Xk w);have h2:=hs (j+ 1) (by lia);rw[preSum_getD];dsimp only;rw[e1];exact⟨⟨by lia,by lia⟩,by lia,by lia⟩
 .intro h' tk t' hk;have e:preSum (fun i=>a.getD i 0) c.toArray.size=a.sum:=by
   rw[preSum_getD,Yh,<-f,List.take_length]
  rw[e];exact⟨.int a.sum,H,I.kept (t':=tk) fun b o eo=>hk b o (by simpa using Yj (Ye eo)) (Y8 _ eo),⟨t',rfl⟩,q⟩
end
end L2
set_option maxHeartbeats 400000
namespace L2
open PySem PySem.Spec PyProof.Rows
section
variable{prog:Wc}{w:Wh}{A:Wg}{E:W9}{s:We}
theorem vH{id:String}{b:Builtin}{args:Wm}{kw:List (Str×Value)}{Q:W9}(hk:builtinKind id=none)(hp:plainId id=true)(hb:entryFor table id=some b)(ha:argsOk id ⟨args,kw⟩)
  (hc:wpAny (model prog w) A.in1 (b ⟨args,kw⟩) (fun f s'=>∃c,f= .again c/\c.quiet=true/\codeAny (model prog w) A c (fun r s'=>match r with| .ok (.ret v)=>Q v s'| .ok _=>False| .error e=>E e s') s') E s):
  wpAny (model prog w) A (call (.builtin id) args kw) Q E s:=by
 refine Vu (Vb hp hb ?_); simp only [checkBuiltinCall, hk];have a := X9 (Q' := fun h s' => match h with
   | .done f=>(match (Except.ok f:Result) with| .ok (.ret v)=>Q v s'| .ok _=>False| .error e=>E e s')
   | .again c' => c'.quiet = true /\ codeAny (model prog w) A c' (fun r s' => match r with | .ok (.ret v) => Q v s' | .ok _ => False | .error e => E e s') s') hc (fun f s' ⟨c, e, z⟩ => by subst e; exact z) fun _ _ z => z
 cases hsig:Manifest.signature? id with
 |none=>exact Y4 a
 |some sig=>
  have d:Bind.checkArgs id sig ⟨args,kw⟩=pure ():=by simpa only[argsOk,hsig] using ha
  simp only[d];exact Y4 a
end
section
variable{prog:Wc}{w:Wh}{A:Wg}{R:Result->Shared->Prop}{I:Wk}{fp wr:List Addr}{n:Nat}{P:Nat->Value->Prop}{St:Nat->Heap->Prop}
theorem BK{a b:Wj}:(#[a,b]:Array Value).size <=sizeLine:=by show 2 <=sizeLine;rw[YV];decide
theorem F9{a b:Wj}:(#[a,b]:Array Value).size <=sizeLine+ 1:=Nat.le_succ_of_le BK
theorem O4:(#[]:Array Value).size <=sizeLine+ 1:=YF _
end
theorem nD{P:Wc}{w:Wh}{k:WO}{u:Wj}(h:(WF P w).is k u=true):WJ (kV k) u:=by
 rcases Ra (k:=k) (v:=u) h with⟨i,t,rfl,rfl⟩|⟨x,t,rfl,rfl⟩
 .exact⟨t,rfl⟩
 .exact⟨t,rfl⟩
theorem Z8:∀{xs:List V} {us:Wm},us.length=xs.length->(∀ (j:Nat) v,us[j]?=some v->∃x,xs[j]?=some x/\WJ x v)->WD xs us
 |[],[],_,_=>.nil
 |[],_::_,h,_=>by simp at h
 |_::_,[],h,_=>by simp at h
 |x::xs,u::us,h,g=>by
  obtain⟨y,e,r⟩:=g 0 u rfl;have b:x=y:=by simpa using e
  subst b;exact .cons r (Z8 (by simpa using h) fun j v a=>by simpa using g (j+ 1) v (by simpa using a))
section
variable{X:Cx}
def FN:List V->Hp->VK->Prop:=fun xs H Q=>∃a kvs,xs=[V.ref a]/\H a=some (.dK kvs)/\∀l G,H l=none->Ws H G->G l=some (.lst (kvs.map fun kv=>kV kv.1))->Q (.ref l) G
theorem ZF(hc:X.calm=true):WY X (.type "list") FN:=by
 intro pins s σ H xs us Q I r h;obtain⟨a,kvs,rfl,ha,q⟩:=h;obtain⟨u,rfl,rx⟩:=Dw r;cases rx;obtain⟨n,hd,vs,i,o,es,ep,d1,d2,d3,d4,d5,d6⟩:=A4 I.hok ha;have hh:X.A.handled=none:=I.ok.hd hc;have b:kvs.length=vs.length:=i.length;have aa:s.heap.DictAt (WF X.prog X.w) a vs ep:=⟨o,es,d1,d2,d3,d4,d5,d6⟩;refine W.kdl_call (W.kdl_dict (knd:=WF X.prog X.w) (ep:=ep) hd) hh aa (by rw[<-b];exact n) fun h' tk ab c' hk hl c=>?_
 have z:H s.heap.objs.size=none:=I.hok.fresh (Y6 _);refine⟨.ref s.heap.objs.size,upd H s.heap.objs.size (.lst (kvs.map fun kv=>kV kv.1)),I.laid (t':=tk) hk (Y6 _) ?_,rfl,q _ _ z (Mc z) Jp⟩;refine⟨by rw[Y1];exact n,ab.toList,c',?_,hl⟩;refine Z8 (by rw[Array.length_toList,c.1,Y1,b]) fun j v hv=>?_
 obtain⟨k,x,e,y⟩:=c.2 j v (by rw[<-Array.getElem?_toList];exact hv);refine⟨kV k,?_,nD y⟩;have f:=i.keys;rw[Y9];have d:(vs.map (·.1))[j]?=some k:=by rw[Y9,e];rfl
 rw[<-f,Y9]at d;cases e3:kvs[j]? with
 |none=>rw[e3]at d;cases d
 |some p=>
  rw[e3]at d;have:p.1=k:=by simpa using d
  simp[this]
end
structure GO(mg:W8):Prop where
 sum:mg "sum"=none
 sorted:mg "sorted"=none
section
variable{X:Cx}{pos pos':Pos}{o i value:Wo}{td ty tv:TE}
def ID:TE:=fun _ H Q=>∀p G,H p=none->Ws H G->G p=some (.dK [])->Q (.ref p) G
theorem Q3:PE X (.Dict [] [] pos) ID:=fun pins s σ H Q I h=>vJ pins s σ H Q I fun p a=>h p _ a (Mc a) Jp
def FX(td ty tv:TE):TS:=fun D σ H=>tv σ H fun v H1=>td σ H1 fun x H2=>ty σ H2 fun y H3=>∃a n kvs,x= .ref a/\y= .int n/\H3 a=some (.dK kvs)/\kvs.length < sizeLine/\∀G,JC a H3 G->G a=some (.dK (TC kvs (.inl n) v))->D.nx σ G
theorem Sz(hu:X.A.units+ 1 < cLine)(ho:PE X o td)(hi:PE X i ty)(hv:PE X value tv)(hs:swapsWith value (some (.Subscript o i pos')) pos.line X.env=pure false):
  PS X (.Assign [.Subscript o i pos'] value pos) (FX td ty tv):=by
 intro pins s σ H D I h;refine UU (WW (hv pins s σ H _ I h) fun r c ⟨v,H1,I1,f,q⟩=>WW (ho pins c σ H1 _ I1 q) fun u b ⟨x,H2,I2,e,p⟩=>WW (hi pins b σ H2 _ I2 p) fun iv s3 ⟨y,H3,I3,d,a,n,kvs,ex,z,ea,w,j⟩=>?_) hs;subst ex z;obtain rfl:u=Value.ref a:=e;exact Le hu I3 (D9.k (k:=Sum.inl n) ea w) d f fun s4 I4=>⟨σ,_,I4,j _ JC.upd Jp⟩
def Cv:R2:=fun y x H Q=>∃a n kvs,y= .int n/\x= .ref a/\H a=some (.dK kvs)/\Q (.bl (!(WM kvs (Sum.inl n)).isSome)) H
theorem LQ(hu:X.A.units+ 1 < cLine):JW X (compareOp .NotIn) Cv:=by
 intro pins s σ H y x v u Q I b c h;obtain⟨a,n,kvs,rfl,rfl,d,q⟩:=h;cases c;exact Z4 hu I (Nx.k (k:=Sum.inl n) d) b fun s' e=>⟨.bl _,H,e,rfl,q⟩
def Ln:List V->Hp->VK->Prop:=fun xs H Q=>∃a kvs,xs=[V.ref a]/\H a=some (.dK kvs)/\Q (.int kvs.length) H
theorem AD:WY X (.builtin "len") Ln:=ZE
end
end L2
set_option maxHeartbeats 4000000
namespace L2
open PySem PySem.Spec PyProof.Rows
end L2
namespace L2
open PySem PySem.Spec PyProof.Rows PySem.W
section
variable{α β:Type}{N:Nat}{lt:Nat->Nat->Bool}
def Mr(N:Nat)(lt:Nat->Nat->Bool):KasT α->(α->Prop)->Prop
 | .ret a,Q=>Q a
 | .ask i j k,Q=>i < N/\j < N/\Mr N lt (k (lt i j)) Q
theorem Mr.bind{f:α->KasT β}{Q:β->Prop}:∀{t:KasT α},Mr N lt t (fun a=>Mr N lt (f a) Q)->Mr N lt (t.bind f) Q
 | .ret _,h=>h
 | .ask i j k,h=>⟨h.1,h.2.1,Mr.bind (t:=k (lt i j)) h.2.2⟩
theorem Mr.wp{cmp:Nat->Nat->(Bool->Shared->Prop)->Shared->Prop}{s:We}{R:α->Shared->Prop}{Q:α->Prop}(hc:∀i j C,i < N->j < N->C (lt i j) s->cmp i j C s)(hq:∀a,Q a->R a s):∀{t:KasT α},Mr N lt t Q->t.kasWp cmp R s
 | .ret a,h=>hq a h
 | .ask i j k,h=>hc i j _ h.1 h.2.1 (Mr.wp hc hq (t:=k (lt i j)) h.2.2)
end
section
variable{O:KeyOrd}{key:Nat->O.α}{N:Nat}{p:Array Nat}
def SK(O:KeyOrd)(key:Nat->O.α)(p:Array Nat)(i:Nat):O.α:=key (p.getD i 0)
def Dt(O:KeyOrd)(key:Nat->O.α)(p:Array Nat)(k:Nat):Prop:=∀i j,i <=j->j < k->O.kle (SK O key p i) (SK O key p j)
def Ab(O:KeyOrd)(key:Nat->O.α)(p:Array Nat)(k:Nat):Prop:=∀i j,i <=j->j < k->O.kle (SK O key p j) (SK O key p i)
theorem Bx{q:Array Nat}{i j:Nat}(h:p[i]?=q[j]?):SK O key p i=SK O key q j:=by
 unfold SK;rw[Vo,Vo,h]
theorem SI{src d:Nat}(hs:src < p.size)(hd:d <=src)(k:Nat):
  SK O key (bubble p src d) k=if k=src - d then SK O key p src else if src - d < k/\k <=src then SK O key p (k - 1) else SK O key p k:=by
 have e:=getElem?_bubble hs d hd k
 by_cases h1:k=src - d
 .rw[Y5 h1]at e ⊢;exact Bx e
 .rw[Y2 h1]at e ⊢
  by_cases h2:src - d < k/\k <=src
  .rw[Y5 h2]at e ⊢;exact Bx e
  .rw[Y2 h2]at e ⊢;exact Bx e
theorem Km{i j:Nat}(hj:j <=p.size)(k:Nat):SK O key (kas_rev p i j) k=if i <=k/\k < j then SK O key p (i+ j - 1 - k) else SK O key p k:=by
 unfold kas_rev;have e:=getElem?_mirror_all (i:=i) hj k
 by_cases h1:i <=k/\k < j
 .rw[Y5 h1]at e ⊢;exact Bx e
 .rw[Y2 h1]at e ⊢;exact Bx e
theorem BP{i j:Nat}(hj:j <=p.size)(heq:∀k,i <=k->k < j->SK O key p k=SK O key p (j - 1))(k:Nat):SK O key (kas_rev p i j) k=SK O key p k:=by
 rw[Km hj]
 split
 .rw[heq _ (by lia) (by lia),heq k (by lia) (by lia)]
 .rfl
def Jl(N:Nat)(p:Array Nat):Prop:=p.Perm (List.toArray (List.range N))
theorem Jl.size(h:Jl N p):p.size=N:=by have:=Array.Perm.size_eq h;simpa using this
theorem Jl.lt(h:Jl N p)(h0:0 < N)(i:Nat):p.getD i 0 < N:=by
 by_cases hi:i < p.size
 .have e:p.getD i 0=p[i]:=by simp[Array.getD,hi]
  rw[e];have a:p[i]∈(List.toArray (List.range N)).toList:=(XR.mp h).mem_iff.mp (by simp);simpa using a
 .have e:p.getD i 0=0:=by simp[Array.getD,hi]
  rw[e];exact h0
theorem Jl.rev(h:Jl N p)(i j:Nat):Jl N (kas_rev p i j):=(mirror_perm _ _ _ _).trans h
theorem Jl.bub(h:Jl N p)(i j:Nat):Jl N (bubble p i j):=(bubble_perm _ _ _).trans h
abbrev Dv(O:KeyOrd)(key:Nat->O.α)(i j:Nat):Bool:=O.blt (key i) (key j)
theorem FC(h0:0 < N)(hp:Jl N p){Q:Nat->Prop}:∀ (f n:Nat),1 <=n->Dt O key p n->(∀m,n <=m->m <=n+ f->Dt O key p m->(m=n+ f\/O.klt (SK O key p m) (SK O key p (m - 1)))->Q m)->Mr N (Dv O key) (kas_asc p f n) Q
 |0,n,_,hs,h=>h n (Y6 _) (Y6 _) hs (.inl rfl)
 |f+ 1,n,h1,hs,h=>by
  refine⟨hp.lt h0 _,hp.lt h0 _,?_⟩;cases hl:Dv O key (p.getD n 0) (p.getD (n - 1) 0) with
  |true=>
   simp only[if_true];exact h n (Y6 _) (by lia) hs (.inr hl)
  |false=>
   simp only[Bool.false_eq_true,if_false];refine FC h0 hp f (n+ 1) (by lia) (fun i j hij hj=>?_) fun m a b c d=>h m (by lia) (by lia) c (d.elim (fun e=>.inl (by lia)) .inr)
   by_cases hjx:j < n
   .exact hs i j hij hjx
   .obtain rfl:j=n:=by lia
    by_cases hi':i=j
    .subst hi';exact Xx _
    .exact V0 (hs i (j - 1) (by lia) (by lia)) hl
theorem CG(h0:0 < N){Q:Array Nat×Nat×Nat->Prop}:∀ (f:Nat) (p:Array Nat) (n q:Nat),Jl N p->1 <=n->n+ f <=N->Ab O key p n->q+ 1 <=n->(∀i,n - (q+ 1) <=i->i < n->SK O key p i=SK O key p (n - 1))->
  (∀p' m q',Jl N p'->n <=m->m <=n+ f->Ab O key p' m->q'+ 1 <=m->(∀i,m - (q'+ 1) <=i->i < m->SK O key p' i=SK O key p' (m - 1))->Q (p',m,q'))->Mr N (Dv O key) (kas_desc f p n q) Q
 |0,p,n,q,hp,h1,hn,hs,hq,he,h=>h p n q hp (Y6 _) (Y6 _) hs hq he
 |f+ 1,p,n,q,hp,h1,hn,hs,hq,he,h=>by
  have hsz:n <=p.size:=by rw[hp.size];lia
  refine⟨hp.lt h0 _,hp.lt h0 _,?_⟩;cases hl:Dv O key (p.getD n 0) (p.getD (n - 1) 0) with
  |true=>
   simp only[if_true];have r:∀xs:Array Nat,(∀k,SK O key xs k=SK O key p k)->Ab O key xs (n+ 1):=by
    intro xs v i j s w;rw[v,v]
    by_cases hjx:j < n
    .exact hs i j s hjx
    .obtain rfl:j=n:=by lia
     by_cases hi':i=j
     .subst hi';exact Xx _
     .exact V0 (UQ (show O.klt (SK O key p j) (SK O key p (j - 1)) from hl)) (hs i (j - 1) (by lia) (by lia))
   by_cases hneq:q > 0
   .rw[Y5 hneq];exact CG h0 f _ (n+ 1) 0 (hp.rev _ _) (by lia) (by lia) (r _ (BP hsz he)) (by lia) (fun i h1 h2=>by congr 1;lia) fun p' m q' a b c d e g=>h p' m q' a (by lia) (by lia) d e g
   .rw[Y2 hneq];exact CG h0 f _ (n+ 1) 0 hp (by lia) (by lia) (r _ fun _=>rfl) (by lia) (fun i h1 h2=>by congr 1;lia) fun p' m q' a b c d e g=>h p' m q' a (by lia) (by lia) d e g
  |false=>
   simp only[Bool.false_eq_true,if_false];refine⟨hp.lt h0 _,hp.lt h0 _,?_⟩;cases hl2:Dv O key (p.getD (n - 1) 0) (p.getD n 0) with
   |true=>
    simp only[if_true];exact h p n q hp (Y6 _) (by lia) hs hq he
   |false=>
    simp only[Bool.false_eq_true,if_false];have u:SK O key p n=SK O key p (n - 1):=KeyOrd.kle_antisymm hl2 hl;refine CG h0 f p (n+ 1) (q+ 1) hp (by lia) (by lia) (fun i j s w=>?_) (by lia) (fun i h1 h2=>?_) fun p' m q' a b c d e g=>h p' m q' a (by lia) (by lia) d e g
    .by_cases hjx:j < n
     .exact hs i j s hjx
     .obtain rfl:j=n:=by lia
      by_cases hi':i=j
      .subst hi';exact Xx _
      .rw[u];exact hs i (j - 1) (by lia) (by lia)
    .rw[show n+ 1 - 1=n by lia]
     by_cases hix:i=n
     .subst hix;rfl
     .rw[u];exact he i (by lia) (by lia)
theorem Se(h0:0 < N)(hp:Jl N p){n nrem:Nat}{Q:Nat×Array Nat->Prop}(h1:1 <=n)(hnn:n <=nrem)(hN:nrem <=N)(hs:Ab O key p n)
  (h:∀m p',Jl N p'->1 <=m->m <=nrem->Dt O key p' m->Q (m,p')):Mr N (Dv O key) (kas_tail3 n nrem p) Q:=by
 unfold kas_tail3;have d:n <=p.size:=by rw[hp.size];lia
 refine Mr.bind (FC h0 (hp.rev 0 n) _ _ h1 ?_ fun m a b c _=>h m _ (hp.rev 0 n) (by lia) (by lia) c);intro i j e f;rw[Km d,Km d,Y5 (by lia),Y5 (by lia)];exact hs _ _ (by lia) (by lia)
theorem Qx(h0:0 < N)(hp:Jl N p){n nrem:Nat}{Q:Nat×Array Nat->Prop}(hnn:n+ 1 <=nrem)(hN:nrem <=N)(hs:Ab O key p (n+ 1))
  (h:∀m p',Jl N p'->1 <=m->m <=nrem->Dt O key p' m->Q (m,p')):Mr N (Dv O key) (kas_descPart n nrem p) Q:=by
 unfold kas_descPart;refine Mr.bind (CG h0 _ _ _ _ hp (by lia) (by lia) hs (by lia) (fun i h1 h2=>by congr 1;lia) fun p' m r a b c d e g=>?_);dsimp only;have f:m <=p'.size:=by rw[a.size];lia
 by_cases hq:r > 0
 .rw[Y5 hq];refine Se h0 (a.rev _ _) (by lia) (by lia) hN ?_ h;intro i j q s;rw[BP f g,BP f g];exact d i j q s
 .rw[Y2 hq];exact Se h0 a (by lia) (by lia) hN d h
theorem mZ(h0:0 < N)(hp:Jl N p){nrem:Nat}{Q:Nat×Array Nat->Prop}(h1:1 <=nrem)(hN:nrem <=N)
  (h:∀m p',Jl N p'->1 <=m->m <=nrem->Dt O key p' m->Q (m,p')):Mr N (Dv O key) (kas_count nrem p) Q:=by
 unfold kas_count;refine Mr.bind (FC h0 hp _ _ (Y6 1) (fun i j f r=>by obtain rfl:i=j:=(by lia);exact Xx _) fun n d w b q=>?_)
 by_cases hnn:n=nrem
 .rw[Y5 (by simpa using hnn)];exact h n p hp d (by lia) b
 .rw[Y2 (by simpa using hnn)];have e:O.klt (SK O key p n) (SK O key p (n - 1)):=q.resolve_left (by lia)
  by_cases hgt:n > 1
  .rw[Y5 hgt];refine⟨hp.lt h0 _,hp.lt h0 _,?_⟩;cases hrose:Dv O key (p.getD 0 0) (p.getD (n - 1) 0) with
   |true=>
    simp only[if_true];exact h n p hp d (by lia) b
   |false=>
    simp only[Bool.false_eq_true,if_false];have c:n <=p.size:=by rw[hp.size];lia
    have a:∀k,0 <=k->k < n->SK O key p k=SK O key p (n - 1):=by
     intro k _ s;have v:=b 0 k (by lia) s;have u:=b k (n - 1) (by lia) (by lia);exact KeyOrd.kle_antisymm u (V0 (show O.kle (SK O key p (n - 1)) (SK O key p 0) from hrose) v)
    refine Qx h0 (hp.rev _ _) (by lia) hN ?_ h;intro i j f r;rw[BP c a,BP c a]
    by_cases hjn:j < n
    .rw[a i (by lia) (by lia),a j (by lia) hjn];exact Xx _
    .obtain rfl:j=n:=by lia
     by_cases hi':i=j
     .subst hi';exact Xx _
     .rw[a i (by lia) (by lia)];exact UQ e
  .rw[Y2 hgt];obtain rfl:n=1:=by lia
   refine Qx h0 hp (by lia) hN ?_ h;intro i j f r
   by_cases hi':i=j
   .subst hi';exact Xx _
   .obtain rfl:i=0:=by lia
    obtain rfl:j=1:=by lia
    exact UQ e
theorem HU(h0:0 < N)(hp:Jl N p){k:Nat}(hs:Dt O key p k){Q:Nat->Prop}:∀ (f l r:Nat),l <=r->r <=k->r - l <=f->(∀i,i < l->O.kle (SK O key p i) (SK O key p k))->(∀i,r <=i->i < k->O.klt (SK O key p k) (SK O key p i))->
  (∀l,l <=k->(∀i,i < l->O.kle (SK O key p i) (SK O key p k))->(∀i,l <=i->i < k->O.klt (SK O key p k) (SK O key p i))->Q l)->Mr N (Dv O key) (kas_place p k f l r) Q
 |0,l,r,h1,h2,h3,hlo,hhi,h=>by
  obtain rfl:l=r:=by lia
  exact h l h2 hlo hhi
 |f+ 1,l,r,h1,h2,h3,hlo,hhi,h=>by
  unfold kas_place
  by_cases hge:l≥r
  .rw[Y5 hge];obtain rfl:l=r:=by lia
   exact h l h2 hlo hhi
  .rw[Y2 hge];refine⟨hp.lt h0 _,hp.lt h0 _,?_⟩;cases hl:Dv O key (p.getD k 0) (p.getD ((l+ r) / 2) 0) with
   |true=>
    simp only[if_true];refine HU h0 hp hs f _ _ (by lia) (by lia) (by lia) hlo (fun i a b=>?_) h;exact KeyOrd.klt_of_klt_of_kle (show O.klt (SK O key p k) (SK O key p ((l+ r) / 2)) from hl) (hs _ _ a b)
   |false=>
    simp only[Bool.false_eq_true,if_false];refine HU h0 hp hs f _ _ (by lia) (by lia) (by lia) (fun i a=>?_) hhi h;exact V0 (hs i ((l+ r) / 2) (by lia) (by lia)) (show O.kle (SK O key p ((l+ r) / 2)) (SK O key p k) from hl)
theorem PU(h0:0 < N){Q:Array Nat->Prop}:∀ (f:Nat) (p:Array Nat) (k:Nat),Jl N p->k+ f <=N->Dt O key p k->(∀p',Jl N p'->Dt O key p' (k+ f)->Q p')->Mr N (Dv O key) (kas_bin f p k) Q
 |0,p,k,hp,hk,hs,h=>h p hp hs
 |f+ 1,p,k,hp,hk,hs,h=>by
  unfold kas_bin;refine Mr.bind (HU h0 hp hs k 0 k (by lia) (by lia) (by lia) (fun i hi=>by lia) (fun i a b=>by lia) fun l hl hlo hhi=>?_);refine PU h0 f _ (k+ 1) (hp.bub _ _) (by lia) ?_ fun p' a b=>h p' a (by rw[show k+ (f+ 1)=k+ 1+ f by lia];exact b)
  have hks:k < p.size:=by rw[hp.size];lia
  intro i j c d;rw[SI hks (by lia),SI hks (by lia),show k - (k - l)=l by lia]
  repeat' split
  all_goals first
   |(exfalso;lia)
   |exact Xx _
   |exact hlo _ (by lia)
   |exact UQ (hhi _ (by lia) (by lia))
   |exact hs _ _ (by lia) (by lia)
theorem dQ(h0:0 < N){Q:Array Nat->Prop}(h:∀p,Jl N p->Dt O key p N->Q p):Mr N (Dv O key) (kas_sort N) Q:=by
 unfold kas_sort;refine Mr.bind (mZ h0 (Array.Perm.refl _) h0 (Y6 _) fun m f d h1 i c=>?_);dsimp only
 by_cases hlt:m < N
 .rw[Y5 hlt];have e:max m 1=m:=by lia
  rw[e];refine PU h0 _ _ _ d (by lia) c fun p2 a b=>h p2 a ?_
  rwa [show m+ (N - m)=N by lia]at b
 .rw[Y2 hlt];obtain rfl:m=N:=by lia
  exact h f d c
end
section
variable{prog:Wc}{w:Wh}{A:Wg}{E:W9}{s:We}{O:KeyOrd}{key:Nat->O.α}{κ:SortKind}{vs:Wm}
theorem j0(vs:Wm):(List.range vs.length).map (fun i=>vs.getD i Value.none)=vs:=by
 apply List.ext_getElem?;intro i;rw[Y9]
 by_cases h:i < vs.length
 .rw[W0 h,Y7 h];simp[h]
 .rw[Uj (by simpa using h),Uj (by simpa using h)];rfl
end
section
variable{prog:Wc}{w:Wh}{A:Wg}{E:W9}{s:We}
theorem QE{a b:Int}{t u:Tok}{Q:W9}(h:Q (.bool (decide (a < b))) s):wpAny (model prog w) A (richCompare .Lt (.int a t) (.int b u)) Q E s:=
 CmpOf.ints_lt (P := fun i v => (i = 0 /\ v = .int a t) \/ (i ≠ 0 /\ v = .int b u)) (fun i => if i = 0 then a else b) (by
  rintro i v (⟨rfl,rfl⟩|⟨h,rfl⟩)
  .exact⟨t,rfl⟩
  .exact ⟨u, by rw [Y2 h]⟩) 0 1 _ _ s Q E (.inl ⟨rfl, rfl⟩) (.inr ⟨by decide, rfl⟩) h
theorem Z6{b:Bool}{x y:Int}{t u:Tok}{Q:Bool->Shared->Prop}(h:Q (decide (x < y)) s):wpAny (model prog w) A (oneLt' b (.int x t) (.int y u)) Q E s:=by
 cases b with
 |true=>exact oneLt_int h
 |false=>exact kat_one _ _ (show wpAny (model prog w) A (richCompare .Lt _ _) (W.BoolBack Q) E s from QE h)
end
end L2
namespace L2
open PySem PySem.Spec PyProof.Rows
section
variable{X:Cx}{pins:Wb}{σ:St}{H:Hp}{s:We}{h':Wn}
theorem Wv.turnL{t':Nat}{wr:List Addr}(I:Wv X pins σ H s)(hf:∀b∈wr,Mx X pins H b)(k:∀b o,b∉wr->s.heap.get? b=some o->h'.get? b=some o):Wv X pins σ H {s with heap:=h',toks:=t'}:=by
 have f:∀b u,H b=some u->b∉wr:=fun b u e z=>by rw[(hf b z).1]at e;cases e
 refine I.step (g':=s.gens) (d':=s.drawn) (ch:=wr) (fun b d=>⟨(hf b d).2.2.2.1,(hf b d).2.1,(hf b d).2.2.2.2.1,(hf b d).2.2.2.2.2⟩) (fun b o _ _ a e _=>k b o a e) (fun b o _ _ a e _=>⟨o.slots,k b o a e⟩) (fun _ _ _ _ n=>n)
  (fun b o a e=>⟨o,k b o a e⟩) (fun _ _ e=>e) (fun _ _ _ e=>e) (fun b ps e=>⟨#[],by rw[e];simp⟩) (fun m i=>?_) (fun b u e=>?_) I.bare
 .obtain⟨o,es,ep,h,r⟩:=i;exact⟨o,es,ep,k _ o (fun z=>(hf _ z).2.1 rfl) h,r⟩
 .refine(I.hok b u e).stay (fun c v a q=>k c v ?_ q) (fun _ q=>q) fun _ _ q=>q
  rcases a with z|z
  .rw[z];exact f b u e
  .exact f c _ z
theorem Wv.turnNew{t':Nat}{wr:List Addr}{a:Wk}{o:HO}(I:Wv X pins σ H s)(hf:∀b∈wr,Mx X pins H b)(k:∀b o,b∉wr->s.heap.get? b=some o->h'.get? b=some o)(hp:s.heap.objs.size <=a)
  (new:WR X.prog X.w (upd H a o) h' a o):Wv X pins σ (upd H a o) {s with heap:=h',toks:=t'}:=by
 have h:H a=none:=I.hok.fresh hp;have i:∀b u,H b=some u->b∉wr:=fun b u e z=>by rw[(hf b z).1]at e;cases e
 refine I.step (g':=s.gens) (d':=s.drawn) (ch:=wr) (fun b f=>⟨(hf b f).2.2.2.1,(hf b f).2.1,(hf b f).2.2.2.2.1,(hf b f).2.2.2.2.2⟩) (fun b o _ _ d e _=>k b o d e) (fun b o _ _ d e _=>⟨o.slots,k b o d e⟩)
  (fun b o _ e n=>by rw[WT (Yj (YG (Ye e) hp))];exact n)
  (fun b o d e=>⟨o,k b o d e⟩) (fun b xs e=>by rw[WT (N0 e h)];exact e) (fun b o u e=>by rw[WT (N0 e h)];exact e) (fun b ps e=>⟨#[],by rw[WT (N0 e h),e];simp⟩) (fun m p=>?_) (fun b u e=>?_) I.bare
 .obtain⟨o,es,ep,j,r⟩:=p;exact⟨o,es,ep,k _ o (fun z=>(hf _ z).2.1 rfl) j,r⟩
 .by_cases f:b=a
  .subst f;rw[Jp]at e;cases e;exact new
  .rw[WT f]at e;refine(I.hok b u e).stay (fun c v d q=>k c v ?_ q) (fun c q=>by rw[WT (N0 q h)];exact q) fun c xs q=>by rw[WT (N0 q h)];exact q
   rcases d with z|z
   .rw[z];exact i b u e
   .exact i c _ z
end
theorem j6{h:Wn}{a b:Wk}{o o':Obj}(e:h.get? a=some o)(e':h.get? b=some o')(hc:o.cls≠o'.cls):a≠b:=fun z=>by
 subst z;rw[e]at e';cases e';exact hc rfl
def Dq(val:Nat->Int):Nat->Int
 |0=>val 0
 |j+ 1=>if val (j+ 1) < Dq val j then val (j+ 1) else Dq val j
section
variable{prog:Wc}{w:Wh}{A:Wg}{R:Result->Shared->Prop}{I:Wk}{fp wr:List Addr}{n:Nat}{P:Nat->Value->Prop}{St:Nat->Heap->Prop}
def vS(val:Nat->Int)(j:Nat)(old:Array Value):Prop:=(j=0/\old=#[])\/∃i t,j=i+ 1/\old=#[.int (Dq val i) t,.int (Dq val i) t]
theorem eL(W:Walks prog w A.in1 I fp wr n P St)(val:Nat->Int)(hval:∀i v,P i v->∃t,v= .int (val i) t)(d:Wj)(S:Wk)(hSf:S∉fp):
  ∀ (k j:Nat) (s:We) (old:Array Value) (c:Nat),n - j=k->j <=n->St j s.heap->vS val j old->s.heap.get? S=some {cls:=.type "list",dict:=none,data:=.seq old c,slots:=#[]}->
  (∀v h' tk,(n=0->v=d)->(∀m,n=m+ 1->∃t,v= .int (Dq val m) t)->(∀b o,b∉wr->b≠S->s.heap.get? b=some o->h'.get? b=some o)->R (.ok (.ret v)) {s with heap:=h',toks:=tk})->
  codeAny (model prog w) A (.builtin "min.loop" ⟨[.ref I,.none,.ref S],[("default",d)]⟩) R s:=by
 have hSw:S∉wr:=fun z=>hSf (W.sub _ z)
 have hnm:(toString "min"++toString ".loop":String)="min.loop":=by decide
 intro k
 induction k with
 |zero=>
  intro j s old c hk hj hst hB hS hR;obtain rfl:j=n:=by lia
  refine Uz V1 ?_;rw[Ur X1 _];refine Y0 (Vj hS rfl (Y0 (Uk (W.done s _ _ hst fun h' tk p=>?_))));have u:=p S _ hSw hS;rcases hB with⟨h0,rfl⟩|⟨i,t,hi,rfl⟩
  .refine Y0 (UN (Y4 ?_));exact hR d h' tk (fun _=>rfl) (fun m z=>by lia) fun b o a _ e=>p b o a e
  .refine Y0 (Ub (hz:=BK) (_hz':=O4) u rfl (Y0 (Xy (Y4 ?_))));exact hR _ _ tk (fun z=>by lia) (fun m z=>⟨t,by rw[show i=m by lia]⟩) fun b o a h e=>(YH _ _ (Ne.symm h)).trans (p b o a e)
 |succ k ih=>
  intro j s old c hk hj hst hB hS hR;refine Uz V1 ?_;rw[Ur X1 _];refine Y0 (Vj hS rfl (Y0 (Uk (W.item j s _ _ (by lia) hst fun v h' tk hP aa p=>?_))));have u:=p S _ hSw hS;obtain⟨t,rfl⟩:=hval j v hP;rcases hB with⟨rfl,rfl⟩|⟨i,t',rfl,rfl⟩
  .refine Y0 (Y4 ?_);show wpAny _ A.in1 (updateSeq S (fun _=>#[.int (val 0) t,.int (val 0) t]) >>=fun _=>again _) _ _ _;refine Y0 (Ub (f:=fun _=>#[.int (val 0) t,.int (val 0) t]) (xs:=#[]) (n:=c) u rfl ?_ (YF _) F9);rw[hnm];refine Y4 ⟨XS X1 _,ih 1 _ _ _ (by lia) (by lia) (W.frame _ _ _ aa fun b x o e=>(YH _ _ (fun z:S=b=>hSf (by rw[z];exact x))).trans e) (.inr ⟨0,t,rfl,rfl⟩) (X3 _ u rfl) ?_⟩;exact fun v' y q z1 z2 r=>hR v' y q z1 z2 fun b o a h e=>r b o a h ((YH _ _ (Ne.symm h)).trans (p b o a e))
  .refine Y0 (Y4 (Y0 (Uk (YQ (Y0 (QE ?_))))));refine Y0 (YQ (X4 (Y0 (Xy (Y4 ?_)))))
   by_cases x:val (i+ 1) < Dq val i
   .have eU:Dq val (i+ 1)=val (i+ 1):=by show(if _ then _ else _)=_;rw[Y5 x]
    simp only[x,Xt,if_true];refine Y0 (Ub (f:=fun _=>#[.int (val (i+ 1)) t,.int (val (i+ 1)) t]) (n:=c) u rfl (Y0 (Xy ?_)) BK F9);rw[hnm];refine Y4 ⟨XS X1 _,ih (i+ 1+ 1) _ _ _ (by lia) (by lia) (W.frame _ _ _ aa fun b x o e=>(YH _ _ (fun z:S=b=>hSf (by rw[z];exact x))).trans e) (.inr ⟨i+ 1,t,rfl,by rw[eU]⟩) (X3 _ u rfl) ?_⟩;exact fun v' y q z1 z2 r=>hR v' y q z1 z2 fun b o a h e=>r b o a h ((YH _ _ (Ne.symm h)).trans (p b o a e))
   .have eU:Dq val (i+ 1)=Dq val i:=by show(if _ then _ else _)=_;rw[Y2 x]
    simp only[x,Xq,Bool.false_eq_true,if_false];refine Y0 (Xy ?_);rw[hnm];refine Y4 ⟨XS X1 _,ih (i+ 1+ 1) _ _ _ (by lia) (by lia) aa (.inr ⟨i+ 1,t',rfl,by rw[eU]⟩) u ?_⟩;exact fun v' y q z1 z2 r=>hR v' y q z1 z2 fun b o a h e=>r b o a h (p b o a e)
end
theorem Qs(val:Nat->Int):∀m,(∃i,i <=m/\Dq val m=val i)/\∀i,i <=m->Dq val m <=val i
 | 0 => ⟨⟨0, Y6 _, rfl⟩, fun i hi => by
   have:i=0:=by lia
   subst this; exact YZ _⟩
 |m+ 1=>by
  obtain⟨⟨i,hi,e⟩,h⟩:=Qs val m
  by_cases hb:val (m+ 1) < Dq val m
  .have a:Dq val (m+ 1)=val (m+ 1):=by show(if _ then _ else _)=_;rw[Y5 hb]
   refine⟨⟨m+ 1,Y6 _,a⟩,fun j b=>?_⟩;rw[a]
   by_cases hj':j=m+ 1
   .rw[hj'];exact YZ _
   .have:=h j (by lia);lia
  .have a:Dq val (m+ 1)=Dq val m:=by show(if _ then _ else _)=_;rw[Y2 hb]
   refine⟨⟨i,by lia,by rw[a,e]⟩,fun j b=>?_⟩;rw[a]
   by_cases hj':j=m+ 1
   .rw[hj'];lia
   .exact h j (by lia)
theorem wH(a d:Wj):argsOk "min" ⟨[a],[("default",d)]⟩:=by unfold argsOk;kernel_rfl
def Ak(K:Wi):V->V->Hp->VK->Prop:=fun x d H Q=>∃ (p:Wk) (ns:Wl),x= .ref p/\WA K H p (ns.map V.int)/\(ns=[]->Q d H)/\∀v,v∈ns->(∀y∈ns,v <=y)->Q (.int v) H
def K3(K:Wi)(ta tb:TE):TE:=fun σ H Q=>ta σ H fun x H1=>tb σ H1 fun d H2=>Ak K x d H2 Q
section
variable{X:Cx}{K:Wi}
theorem jO{pins:Wb}{s:We}{σ:St}{H:Hp}{x d:V}{u w':Wj}{Q:VK}(hc:X.calm=true)(I:Wv X pins σ H s)(rx:WJ x u)(rd:WJ d w')(h:Ak X.K x d H Q):
  wpAny (model X.prog X.w) X.A (call (.builtin "min") [u] [("default",w')]) (EP X pins σ Q) X.xe s:=by
 obtain⟨p,c,rfl,hq,q0,q1⟩:=h;cases rx;obtain⟨f,rv,pl,hz⟩:=I.list hq;have hh:X.A.in1.handled=none:=I.ok.hd hc;have hl:=pl.isList;have n:p < s.heap.objs.size:=by obtain⟨_,e,_⟩:=hl;exact Ye e
 have aa:c.length=f.length:=by have:=rv.length;simpa using this
 refine vH F.kind_min F.plain_min F.entry_min (wH _ _) ?_;show wpAny _ X.A.in1 (Builtin.Builtins.bindParams "min" ["key","default"] 0 ⟨[],[("default",w')]⟩ >>=_) _ _ s;refine Y0 (UV (show Builtin.Builtins.bindParams "min" ["key","default"] 0 ⟨[],[("default",w')]⟩=pure [none,some w'] from rfl) ?_);refine Y0 (Y4 (Y0 (Xu hl (Y0 (YM ?_)))));have hnm:(toString "min"++toString ".loop":String)="min.loop":=by decide
 rw[hnm];have W:=VX (prog:=X.prog) (w:=X.w) hh s.heap.objs.size p (Yj n) f.toArray;refine Y4 ⟨_,rfl,XS X1 _,eL W (fun i=>c.getD i 0) ?_ w' _ ?_ _ 0 _ _ _ rfl (YF _) (W.frame _ _ _ ⟨⟨_,Yc _ rfl,rfl,rfl⟩,hl.push _⟩ fun b _ o e=>Y8 _ e) (.inl ⟨rfl,rfl⟩) (Yc _ rfl) ?_⟩
 .intro i v hv;have j:f[i]?=some v:=by simpa using hv
  cases e:c[i]? with
  |none=>
   have:f[i]?=none:=by
    rw[XX]at e ⊢;lia
   rw[this]at j;cases j
  |some b=>
   obtain⟨u,hu,ru⟩:=rv.get (i:=i) (x:=V.int b) (by rw[Y9,e];rfl);rw[j]at hu;cases hu;obtain⟨t,rfl⟩:=(show ∃t,v=Value.int b t from ru);exact⟨t,by simp[List.getD,e]⟩
 .intro z;rw[Yl,Yg]at z;dsimp only at z;rw[Xi]at z;rcases z with z|z
  .exact absurd z (Nat.succ_ne_self _)
  .rw[<-z]at n;exact absurd n (Nat.not_lt.mpr (YL _))
 .intro v h' tk z1 z2 hk;have kept:∀b o,s.heap.get? b=some o->h'.get? b=some o:=fun b o eo=>by
   have hb:=Ye eo;refine hk b o ?_ ?_ (Y8 _ (Y8 _ eo))
   .intro z;have e:b=s.heap.objs.size:=by simpa using z
    exact absurd e (Yj hb)
   .intro z;dsimp only at z;rw[Xi]at z;exact absurd z (Yj (Xh hb))
  have q:f.toArray.size=c.length:=by rw[Yh,aa]
  cases hns:c with
  |nil=>
   rw[z1 (by rw[q,hns];rfl)];exact⟨d,H,I.kept (t':=tk) kept,rd,q0 hns⟩
  |cons a r=>
   obtain⟨t,rfl⟩:=z2 r.length (by rw[q,hns];rfl);obtain⟨⟨i,hi,e⟩,hmx⟩:=Qs (fun i=>c.getD i 0) r.length;have hl2:c.length=r.length+ 1:=by rw[hns];rfl
   refine⟨.int (Dq (fun i=>c.getD i 0) r.length),H,I.kept (t':=tk) kept,⟨t,rfl⟩,q1 _ ?_ fun y hy=>?_⟩
   .rw[e];have:c.getD i 0=c[i]'(by lia):=by simp[List.getD,show i < c.length by lia]
    show c.getD i 0∈c;rw[this];exact Xk _
   .obtain⟨k,hk',rfl⟩:=XF.mp hy;have:=hmx k (by lia);have e2:c.getD k 0=c[k]:=by simp[List.getD,hk']
    rw[<-e2];exact this
theorem yG{e e2:Wo}{ta tb:TE}{x:Str}{p pos kp:Pos}(h:X.K=K)(hx:x="min")(hc:X.calm=true)(hg:Gl X x)(hm:X.mg x=none)(hv:bootBuiltins x=some (.builtin "min"))(ha:PE X e ta)(hb:PE X e2 tb)
  (hn:x≠"__name__":=by decide) (hdb:(x==("__debug__":Str))=false:=by decide)
  (he:backTo pos (starEach [e] X.env)=(false,eval e X.env)::backTo pos (starEach [] X.env):=by rfl) (hs:starEach [e] X.env=(false,eval e X.env)::starEach [] X.env:=by rfl)
  (hpl:(backTo pos (starEach [e] X.env)).any (·.1)=false:=by rfl):PE X (.Call (.Name x p) [e] [⟨some "default",e2,kp⟩] pos) (K3 K ta tb):=by
 subst h;intro pins s σ H Q I h;refine Xo (EM I hg hm hv ?_ hn hdb);have h':D0 ta Dx σ H (fun vs H1=>D0 tb Dx σ H1 fun zs H2=>match vs,zs with|[x],[d]=>Ak X.K x d H2 Q|_,_=>False):=h;refine callWith_kw (WW (J7 ha Wu hs pos pins s σ H _ I h') fun n c ⟨vs,H1,i,r,q⟩=>WW (O3 hb Ho pos pins c σ H1 _ i q) fun j u ⟨zs,H2,f,b,a⟩=>?_) he hpl;cases r with
 |nil=>cases b <;> exact False.elim a
 |cons r1 rr=>
  cases rr with
  |cons _ _=>cases b <;> exact False.elim a
  |nil=>
   cases b with
   |nil=>exact False.elim a
   |cons z1 zz=>
    cases zz with
    |cons _ _=>exact False.elim a
    |nil=>exact jO hc f r1 z1 a
end
structure LO(mg:W8):Prop where
 enumerate:mg "enumerate"=none
 zip:mg "zip"=none
end L2
namespace L2
open PySem PySem.Spec PyProof.Rows
open Sem (wp)
open AutoSeq1 (wpAny_loadPart')
section
variable{prog:Wc}{w:Wh}{A:Wg}{E:W9}{s:We}
theorem rC{T newId:String}{self:Wj}{rest:Wm}{kw:List (Str×Value)}(hl:typeLookup (.type T) "__init__"=pure (some (.builtin "object.__init__")))
  (hm:Bind.madeBy (.type T)=pure (some newId)) (hne:(some newId !=some "object.__new__")=true):
  Meets (Builtin.«object.__init__» ⟨self::rest,kw⟩) (fun _ R s=>s.TypeIs self T/\R (.ok (.ret .none)) s):=by
 refine Meets.of_wp fun prog w A R s ⟨c,b⟩=>?_
 cases rest with
 |nil=>
  cases kw with
  |nil=>exact Y4 ⟨_,rfl,b⟩
  |cons k kw=>(repeat (any_goals (first|assumption|wp_step)));exact⟨_,rfl,b⟩
 |cons a rest=>(repeat (any_goals (first|assumption|wp_step)));exact⟨_,rfl,b⟩
theorem tO{T newId:String}{Bn:Builtin}{args:Wm}{kw:List (Str×Value)}{S:_root_.PySem.Spec}{Q:W9}(ft:TypeCalled T newId "object.__init__")(hne:(some newId !=some "object.__new__")=true)
  (hct:checkTypeCall T ⟨args,kw⟩=pure ()) (hcn:checkBuiltinCall newId ⟨.type T::args,kw⟩=pure ()) (hok:∀obj,argsOk "object.__init__" ⟨obj::args,kw⟩) (entryN:entryFor table newId=some Bn) (g:Meets (Bn ⟨.type T::args,kw⟩) S)
  (h:S A.in1 (wants (fun obj s₁=>s₁.TypeIs obj T/\Q obj s₁) E) s):wpAny (model prog w) A (call (.type T) args kw) Q E s:=by
 obtain⟨c,tl,q⟩:=ft.mro;have i:=ft.made;have n:=ft.sub;refine Vu (codeAny_of_tree ?_);show wpAny _ _ (callAny (.type T) _) _ _ _;refine Y4 ⟨Code.quiet_builtin _ (by decide +kernel),Uz F.entry_type_call ?_⟩;rw[Around.under_plain (weight_type_call_type T args kw) (units_type_call_type T args kw)];have h1:=ft.notType;have h2:=ft.canCreate
 repeat (any_goals (first|assumption|wp_step))
 refine Uh (Vb ft.plain entryN (UV hcn (g prog w A.in1 _ s h))) fun r s₁ b=>?_
 cases r with
 |error e=>exact b
 |ok fl=>
  cases fl with
  |ret obj=>
   obtain⟨f,p⟩:=(show s₁.TypeIs obj T/\Q obj s₁ from b);have v:=ft.init.lookup;have x:=ft.init.bind obj
   repeat (any_goals (first|assumption|wp_step))
   refine Uh (Vb ft.init.plain F.entry_object_init (ft.init.check _ _ _ _ _ _ _ _ f (hok obj) (rC ft.init.lookup ft.made hne prog w A.in1 (wants (fun r d=>r= .none/\Q obj d) E) s₁ ⟨f,rfl,p⟩))) fun j d a=>?_
   cases j with
   |error e=>exact a
   |ok fl₂=>
    cases fl₂ with
    |ret r=>
     obtain⟨rfl,u⟩:=a
     repeat (any_goals (first|assumption|wp_step))
    |_=>exact a.elim
  |_=>exact b.elim
end
theorem yN(l:Wk)(items:Array Value)(n:Nat)(dct:Option Addr)(sl:Array (Option Value))(c:Int)(t:Tok)(hc:Builtin.SmallTypes.fitsIndex c=true):
  Meets (Builtin.«enumerate.__new__» ⟨[.type "enumerate", .ref l], [("start", .int c t)]⟩) (fun _ R s => s.heap.get? l = some { cls := .type "list", dict := dct, data := .seq items n, slots := sl } /\
   R (.ok (.ret (.ref (s.heap.push {cls:=.type "list_iterator",data:=.fields #[.ref l,.int 0 0]}).objs.size)))
    { s with heap := (s.heap.push { cls := .type "list_iterator", data := .fields #[.ref l, .int 0 0] }).push { cls := .type "enumerate", data := .fields #[.none, .bool false, .ref s.heap.objs.size, rawInt c, .none, .none] } }) :=
 .of_wp fun prog w A R s h=>by
  obtain⟨i,g,d,tk,e⟩:=s;obtain⟨a,h⟩:=h;have f:=sub_enumerate;have b:Heap.IsList (Shared.heap ⟨i,g,d,tk,e⟩) l items:=⟨_,a,rfl,n,rfl⟩
  wp_walk using Xj a
  refine wpAny_stack_any fun st=>Y4 ?_
  split
  .rename_i c' _ _ _ _ _
   cases (c'==Value.type "enumerate")
   .wp_walk using Xj a,Xu b
    exact⟨_,rfl,h⟩
   .wp_walk using Xj a,Xu b
    exact⟨_,rfl,h⟩
  .wp_walk using Xj a,Xu b
   exact⟨_,rfl,h⟩
section
variable{prog:Wc}{w:Wh}{A:Wg}{E:W9}{s:We}
theorem aC(a b:Wj):checkTypeCall "enumerate" ⟨[a],[("start",b)]⟩=pure ():=by kernel_rfl
theorem n5(a b:Wj):checkBuiltinCall "enumerate.__new__" ⟨[.type "enumerate",a],[("start",b)]⟩=pure ():=by kernel_rfl
theorem vY(o a b:Wj):argsOk "object.__init__" ⟨[o,a],[("start",b)]⟩:=by unfold argsOk;kernel_rfl
theorem tI{l:Wk}{items:Array Value}{c:Int}{t:Tok}{Q:W9}(hL:s.heap.IsList l items)(hc:Builtin.SmallTypes.fitsIndex c=true)
  (h:∀h',IsEnum h' (s.heap.objs.size+ 1) s.heap.objs.size c .none->h'.IsListIter s.heap.objs.size l 0->(∀b o,s.heap.get? b=some o->h'.get? b=some o)->Q (.ref (s.heap.objs.size+ 1)) {s with heap:=h'}):
  wpAny (model prog w) A (call (.type "enumerate") [.ref l] [("start",.int c t)]) Q E s:=by
 obtain⟨⟨u,j,r,p⟩,q,a,n,d⟩:=hL
 replace a:u= .type "list":=a
 replace d:r= .seq items n:=d
 subst a d;refine tO F.called_enumerate (by decide) (aC _ _) (n5 _ _) (fun e => vY e _ _) F.entry_enumerate_new (yN l items n j p c t hc) ⟨q, ?_⟩;have f : (s.heap.push { cls := .type "list_iterator", data := .fields #[.ref l, .int 0 0] }).objs.size = s.heap.objs.size + 1 := Xi ..;show _ /\ _;rw [f];have i : IsEnum ((s.heap.push { cls := .type "list_iterator", data := .fields #[.ref l, .int 0 0] }).push
   { cls := .type "enumerate", data := .fields #[.none, .bool false, .ref s.heap.objs.size, rawInt c, .none, .none] }) (s.heap.objs.size + 1) s.heap.objs.size c .none := by
  have:=Yc (s.heap.push {cls:=.type "list_iterator",data:=.fields #[.ref l,.int 0 0]})
   (o:={cls:=.type "enumerate",data:=.fields #[.none,.bool false,.ref s.heap.objs.size,rawInt c,.none,.none]}) rfl
  rw[f]at this;exact this
 exact⟨⟨_,i,rfl⟩,h _ i ⟨_,Y8 _ (Yc _ rfl),rfl,rfl⟩ fun b o x=>Y8 _ (Y8 _ x)⟩
theorem uJ{e it l:Wk}{i:Nat}{c:Int}{items:Array Value}{x old:Wj}{Q:Option Value->Shared->Prop}(he:IsEnum s.heap e it c old)(hit:s.heap.IsListIter it l i)(hl:s.heap.IsList l items)(hx:items[i]?=some x)(hne:e≠it)
  (hQ : ∀ h', IsEnumOut h' e it (c + 1) x s.heap.objs.size -> h'.IsListIter it l (i + 1) -> h'.get? s.heap.objs.size = some { cls := .type "tuple", data := .seq #[.int c s.toks, x] } ->
   (∀ b o, b ≠ e -> b ≠ it -> s.heap.get? b = some o -> h'.get? b = some o) -> Q (some (.ref s.heap.objs.size)) { s with heap := h', toks := s.toks + 1 }) : wpAny (model prog w) A (pyNext (.ref e)) Q E s := by
 have hT:s.TypeIs (.ref e) "enumerate":=⟨_,he,rfl⟩
 unfold pyNext;refine Y0 (XT (X7 (name:=Str.ofString "__next__") hT Ul (YR Ul hT F.entry_enumerate_next ?_ (F.args_enumerate_next_1 _))));obtain⟨n,g,d,tk,f⟩:=s;show wpAny _ _ (field (.ref e) 2 >>=_) _ _ _;refine Y0 (Xz he rfl (x:=.ref it) rfl (Y0 (wpAny_nextOf_list_item hit hl hx fun j ae hs₁=>?_)));have u:Heap.SameBut it n j:=hs₁;have v:IsEnum j e it c old:=(u.2 e hne).trans he;refine Y0 (Xz v rfl (x:=rawInt c) rfl ?_);refine Y0 (m:=field (.ref e) 4) (Xz (s:=⟨j,g,d,tk,f⟩) v rfl (x:=.none) rfl ?_);show wpAny _ _ (mkInt c >>=_) _ _ ⟨j,g,d,tk,f⟩;refine Y0 (wpAny_mkInt ?_);show wpAny _ _ (setField (.ref e) 3 (rawInt (c+ 1)) >>=_) _ _ ⟨j,g,d,tk+ 1,f⟩;refine Y0 (Xa v (by simp) fun z he₂ hs₂=>?_);have q:Heap.SameBut e j z:=hs₂;have he2:IsEnum z e it (c+ 1) old:=he₂;show wpAny _ _ (setField (.ref e) 4 .none >>=_) _ _ ⟨z,g,d,tk+ 1,f⟩;refine Y0 (Xa he2 (by simp) fun h he₃ hs₃=>?_);have p:Heap.SameBut e z h:=hs₃;have he3:IsEnum h e it (c+ 1) old:=he₃;show wpAny _ _ (newTuple [.int c tk,x] >>=_) _ _ ⟨h,g,d,tk+ 1,f⟩;refine Y0 (VQ ?_);have y:IsEnum (h.push {cls:=.type "tuple",data:=.seq #[.int c tk,x]}) e it (c+ 1) old:=Y8 _ he3;generalize hh:h.push {cls:=.type "tuple",data:=.seq #[.int c tk,x]}=h₄ at y;have aa:h.objs.size=n.objs.size:=by rw[p.1,q.1,u.1]
 have af:e < n.objs.size:=Ye he;have ht4:h₄.get? n.objs.size=some {cls:=.type "tuple",data:=.seq #[.int c tk,x]}:=by rw[<-hh,<-aa];exact Yc _ rfl
 have hk4:∀b o,b≠e->b≠it->n.get? b=some o->h₄.get? b=some o:=fun b o a ag hb=>by
  rw[<-hh];exact Y8 _ (p.extBut b o a (q.extBut b o a (u.extBut b o ag hb)))
 have hit4:h₄.IsListIter it l (i+ 1):=by
  rw[<-hh];obtain⟨o,ho,r⟩:=(ae.extBut q.extBut (Ne.symm hne)).extBut p.extBut (Ne.symm hne);exact⟨o,Y8 _ ho,r⟩
 show wpAny _ _ (Builtin.SmallTypes.ownedTupleIsFree (.ref e) >>=_) _ _ ⟨h₄,g,d,tk+ 1,f⟩;rw[aa];clear hh he3 p he₃ hs₃ he2 q he₂ hs₂ v u hs₁ ae aa h z j;refine Y0 ?_;unfold Builtin.SmallTypes.ownedTupleIsFree;refine Y0 (Xz y rfl (x:=.none) rfl (Y4 ?_));simp only[if_true];refine Y0 (UN (Y0 (Xz y rfl (x:=old) rfl (Y0 (Xa y (by simp) fun h₅ he₅ hs₅=>?_)))));have ad:Heap.SameBut e h₄ h₅:=hs₅;have he5:IsEnum h₅ e it (c+ 1) x:=he₅;show wpAny _ _ (Builtin.SmallTypes.ownedTupleHandOut (.ref e) (.ref n.objs.size) >>=_) _ _ ⟨h₅,g,d,tk+ 1,f⟩;refine Y0 ?_;unfold Builtin.SmallTypes.ownedTupleHandOut;refine Y0 (Xa he5 (by simp) fun h₆ he₆ hs₆=>?_);have ac:Heap.SameBut e h₅ h₆:=hs₆;have he6:IsEnumOut h₆ e it (c+ 1) x n.objs.size:=he₆;refine Xa he6 (by simp) fun h₇ he₇ hs₇=>?_
 have ab:Heap.SameBut e h₆ h₇:=hs₇;refine Y0 (Xy (Y4 ⟨_,rfl,Y4 (hQ h₇ he₇ ?_ ?_ ?_)⟩))
 .exact((hit4.extBut ad.extBut (Ne.symm hne)).extBut ac.extBut (Ne.symm hne)).extBut ab.extBut (Ne.symm hne)
 .exact ab.extBut _ _ (Ug af) (ac.extBut _ _ (Ug af) (ad.extBut _ _ (Ug af) ht4))
 .exact fun b o a ag hb=>ab.extBut b o a (ac.extBut b o a (ad.extBut b o a (hk4 b o a ag hb)))
theorem mE{e it l:Wk}{i:Nat}{c:Int}{items:Array Value}{old:Wj}{Q:Option Value->Shared->Prop}(hh:A.handled=none)(he:IsEnum s.heap e it c old)(hit:s.heap.IsListIter it l i)(hl:s.heap.IsList l items)(hx:items[i]?=none)
  (hQ:∀h',Heap.ExtBut it s.heap h'->Q none {s with heap:=h'}):wpAny (model prog w) A (pyNext (.ref e)) Q E s:=by
 have f:s.TypeIs (.ref e) "enumerate":=⟨_,he,rfl⟩
 unfold pyNext;refine Y0 (XT (X7 (name:=Str.ofString "__next__") f Ul (YR Ul f F.entry_enumerate_next ?_ (F.args_enumerate_next_1 _))));show wpAny _ _ (field (.ref e) 2 >>=_) _ _ _;refine Y0 (Xz he rfl (x:=.ref it) rfl (Y0 (wpAny_nextOf_list_end hh hit hl hx fun h' x d a=>?_)));obtain⟨o,h,j⟩:=a;exact Y0 (V2 (T:="StopIteration") (b:=true) ⟨o,h,j⟩ Vk (Y4 (hQ _ d)))
end
def AK(K:Wi)(a:Wk)(c:Int):It:=
 ⟨fun i H=>∃xs x,WA K H a xs/\xs[i]?=some x,fun i H x H'=>∃t y,x= .ref t/\H t=none/\Ws H H'/\H' t=some (.tup [.int (c+ i),y])/\∀xs,WA K H a xs->xs[i]?=some y,fun i H=>∃xs,WA K H a xs/\xs.length <=i⟩
theorem m3{P:Wc}{w:Wh}{K:Wi}{elts:List Expr}{k:Nat}{pos:Pos}(l e it:Wk)(c:Int):Rq P w K (.Tuple elts k pos) (AK K l c) [e,it] e (fun i h=>(∃old,IsEnum h e it (c+ (i:Nat)) old)/\h.IsListIter it l i) where
 mem:=by simp
 obj:=fun i h st b a=>by
  obtain⟨⟨old,f⟩,o,ho,hc,hd⟩:=st;rcases Yl.mp a with rfl|a
  .exact⟨_,f,fun v z=>by cases z⟩
  .have e:b=it:=by simpa using a
   subst e;exact⟨o,ho,fun v z=>by rw[hd]at z;cases z⟩
 keep:=fun i h h' st r=>⟨⟨st.1.choose,r e (by simp) _ st.1.choose_spec⟩,st.2.at fun o x=>r it (by simp) o x⟩
 item:=by
  intro X hP hw hK hc i pins s σ H E I hf st hg;subst hP hw hK;obtain⟨xs,x,hq,hx⟩:=hg;obtain⟨its,rv,p,hz⟩:=I.list hq;obtain⟨u,hu,ru⟩:=rv.get hx;obtain⟨⟨old,f⟩,j⟩:=st;obtain⟨oit,n,cit,dit⟩:=id j;have hei:e≠it:=j6 f n (by rw[cit];(try dsimp only);decide);have hel:e < s.heap.objs.size:=Ye f;have hil:it < s.heap.objs.size:=Ye n;refine uJ f j p.isList (x:=u) (by simpa using hu) hei fun h1 ho hit1 hT1 k1=>⟨_,rfl,wpAny_letOwnedTupleGo_enum ho fun h2 he2 hs2=>?_⟩
  have d:Heap.SameBut e h1 h2:=hs2;have hn:H s.heap.objs.size=none:=I.hok.fresh (Y6 _);have r:∀b o,b∉[e,it]->s.heap.get? b=some o->h2.get? b=some o:=fun b o a z=>(d.2 b fun q=>a (by simp[q])).trans (k1 b o (fun q=>a (by simp[q])) (fun q=>a (by simp[q])) z)
  have hT2:h2.get? s.heap.objs.size=some {cls:=.type "tuple",data:=.seq #[.int (c+ (i:Nat)) s.toks,u]}:=(d.2 _ (Ug hel)).trans hT1;refine⟨.ref s.heap.objs.size,upd H s.heap.objs.size (.tup [.int (c+ i),x]),I.turnNew (t':=s.toks+ 1) hf r (Y6 _) ⟨by show 2 <=sizeLine;decide,[.int (c+ i) s.toks,u],.cons ⟨_,rfl⟩ (.cons ru .nil),⟨_,hT2,rfl,_,rfl⟩⟩,rfl,⟨_,x,rfl,hn,Mc hn,Jp,fun ys hys=>?_⟩,⟨⟨u,?_⟩,hit1.at fun o y=>(d.2 it hei.symm).trans y⟩,fun b a=>?_⟩
  .rw[I.list_inj hys hq];exact hx
  .have e1:c+ ((i+ 1:Nat):Int)=c+ (i:Nat)+ 1:=by omega
   rw[e1];exact he2
  .have hbn:=(hf b a).1;have:b≠s.heap.objs.size:=by
    rcases Yl.mp a with rfl|a
    .exact Yj hel
    .rw[Yg.mp a];exact Yj hil
   rw[WT this];exact hbn
 done:=by
  intro X hP hw hK hc i pins s σ H E I hf st hg;subst hP hw hK;obtain⟨xs,hq,hx⟩:=hg;obtain⟨its,rv,p,hz⟩:=I.list hq;obtain⟨⟨old,f⟩,j⟩:=st;have hl:=rv.length;exact mE (I.ok.hd hc) f j p.isList (by simp;omega) fun h' eb=>⟨rfl,I.turnL (t':=s.toks) hf fun b o a x=>eb b o (fun z=>a (by simp[z])) x⟩
 self:=fun _ _ _ _ _ st h=>wpAny_pyIter_enum st.1.choose_spec h
section
variable{M:Model}{A:Wg}{E:W9}{s:We}{env:Env}
theorem nU{pos:Pos}{T:String}{e:Wo}{kws:List Keyword}{Q:W9}
  (h:wpAny M A (spliced (backTo pos (starEach [e] env))) (fun vs s₁=>wpAny M A (evalAll ((backToKw pos (keywordEach kws env)).map (·.2))) (fun kvs s₂=>wpAny M A (call (.type T) vs (((backToKw pos (keywordEach kws env)).filterMap (·.1)).zip kvs)) Q E s₂) E s₁) E s)
  (he:backTo pos (starEach [e] env)=(false,eval e env)::backTo pos (starEach [] env)) (hplain:(backTo pos (starEach [e] env)).any (·.1)=false)
  (hall:(backToKw pos (keywordEach kws env)).all (·.1.isSome)=true) (hkw:(backToKw pos (keywordEach kws env)).any (·.1.isNone)=false):
  wpAny M A (callWith pos (.type T) [] (backTo pos (starEach [e] env)) (backToKw pos (keywordEach kws env))) Q E s:=by
 unfold callWith;have h':wpAny M A (evalArgs (.type T) true (backTo pos (starEach [e] env)) (backToKw pos (keywordEach kws env))) (fun a s₁=>wpAny M A (call (.type T) ([]++a.pos) a.kw) Q E s₁) E s:=by
  rw[he]at h ⊢;exact evalArgs_kwB hall h
 refine Y0 (YQ (X9 h' (fun a s₁ b=>Y0 (UY ?_)) fun _ _ x=>x));simp only[hplain,hkw,Vs];exact Y0 (Y4 (Y0 (X9 b (fun r s₂ c=>Y0 (YQ (wpAny_point (Y4 c)))) fun _ _ x=>x)))
end
section
variable{X:Cx}{K:Wi}
def Fu(K:Wi)(ta tb:TE):TI:=fun σ H R=>ta σ H fun x H1=>tb σ H1 fun y H2=>∃l c,x= .ref l/\y= .int c/\ -(2 ^ 62) <=c/\c < 2 ^ 62/\(∃xs,WA K H2 l xs)/\R (AK K l c) H2
theorem PR{e e2:Wo}{ta tb:TE}{elts:List Expr}{k:Nat}{pos' p pos kp:Pos}(h:X.K=K)(hg:Gl X "enumerate")(hm:X.mg "enumerate"=none)(ha:PE X e ta)(hb:PE X e2 tb)
  (he:backTo pos (starEach [e] X.env)=(false,eval e X.env)::backTo pos (starEach [] X.env):=by rfl) (hs:starEach [e] X.env=(false,eval e X.env)::starEach [] X.env:=by rfl)
  (hpl:(backTo pos (starEach [e] X.env)).any (·.1)=false:=by rfl):PI X (.Tuple elts k pos') (.Call (.Name "enumerate" p) [e] [⟨some "start",e2,kp⟩] pos) (Fu K ta tb):=by
 subst h;intro pins s σ H R I h;refine Xo (EM I hg hm boot_enumerate ?_);have h':D0 ta Dx σ H (fun vs H1=>D0 tb Dx σ H1 fun zs H2=>match vs,zs with|[x],[y]=>∃l c,x= .ref l/\y= .int c/\ -(2 ^ 62) <=c/\c < 2 ^ 62/\(∃xs,WA X.K H2 l xs)/\R (AK X.K l c) H2|_,_=>False):=h;refine nU (WW (J7 ha Wu hs pos pins s σ H _ I h') fun us v ⟨vs,H1,I1,r,q⟩=>WW (O3 hb Ho pos pins v σ H1 _ I1 q) fun ws a ⟨zs,H2,f,n,d⟩=>?_) he hpl rfl rfl;cases r with
 |nil=>cases n <;> exact False.elim d
 |cons r1 rr=>
  cases rr with
  |cons _ _=>cases n <;> exact False.elim d
  |nil=>
   cases n with
   |nil=>exact False.elim d
   |cons z1 zz=>
    cases zz with
    |cons _ _=>exact False.elim d
    |nil=>
     obtain⟨l,c,rfl,rfl,c1,c2,⟨xs,hq⟩,w⟩:=d;cases r1;obtain⟨t,rfl⟩:=z1;obtain⟨its,rv,z,hz⟩:=f.list hq;refine tI z.isList (by unfold Builtin.SmallTypes.fitsIndex;simp;omega) fun h' i u hk=>wpAny_pyIter_enum i ?_
     refine⟨_,[a.heap.objs.size+ 1,a.heap.objs.size],_,_,H2,rfl,f.kept (t':=a.toks) hk,m3 l _ a.heap.objs.size c,⟨⟨Value.none,?_⟩,u⟩,fun b hb=>?_,w⟩
     .rw[show c+ ((0:Nat):Int)=c by omega];exact i
     .have j:a.heap.objs.size <=b:=by
       rcases Yl.mp hb with rfl|hb
       .exact YL _
       .rw[Yg.mp hb];exact Y6 _
      exact f.fpOk j (f.hok.fresh j)
end
theorem SR{K:Wi}{a:Wk}{c:Int}{xs:List V}{g:TG}{tb:TS}{D:Tl}{σ:St}{H:Hp}(Pv:Nat->St->Hp->Prop)(h0:Pv 0 σ H)(hl:∀i σ H,i <=xs.length->Pv i σ H->WA K H a xs)
  (hs:∀i x t σ H H',xs[i]?=some x->Pv i σ H->H t=none->Ws H H'->H' t=some (.tup [.int (c+ i),x])->g (.ref t) σ H' fun σ2 H2=>tb {D with nx:=Pv (i+ 1),ct:=Pv (i+ 1),bk:=D.nx} σ2 H2) (hd:∀σ H,Pv xs.length σ H->D.nx σ H):F2 g tb D σ (AK K a c) H:=by
 refine⟨fun i m σ H=>m=xs.length - i/\i <=xs.length/\Pv i σ H,⟨xs.length,by simp,YF _,h0⟩,?_⟩;rintro i m σ H ⟨rfl,hi,p⟩;have q:=hl i σ H hi p
 by_cases hlt:i < xs.length
 .refine .inr ⟨⟨xs,xs[i],q,by simp[hlt]⟩,Pv (i+ 1),fun σ' H' b=>⟨xs.length - (i+ 1),by omega,rfl,hlt,b⟩,fun x H' y=>?_⟩;obtain⟨t,y,rfl,h1,h2,f,d⟩:=y;exact hs i y t σ H H' (d xs q) p h1 h2 f
 .have e:i=xs.length:=by omega
  subst e;exact .inl ⟨⟨xs,q,Y6 _⟩,hd σ H p⟩
section
variable{X:Cx}{K:Wi}
def AY(K:Wi):R2:=fun x y H Q=>∃a b xs,x= .ref a/\y= .ref b/\WA K H a xs/\WA K H b []/\Q (.bl (decide (xs.length=0))) H
theorem Pe(hu:X.A.units+ 64 < cLine)(h:X.K=K):JW X (compareOp .Eq) (AY K):=by
 subst h;intro pins s σ H x y v u Q I n i h;obtain⟨a,b,xs,rfl,rfl,h1,h2,q⟩:=h;cases n;cases i;obtain⟨d,r,p,hz⟩:=I.list h1;obtain⟨w,c,p2,hz2⟩:=I.list h2;cases c;have f:=r.length
 by_cases h0:xs.length=0
 .refine PySem.SeqAt.eq_listAt (e:=fun _=>true) p.isList p2.isList (by rw[Yh,Yh,<-f,h0];rfl) (Ya (Nat.le_add_right _ 64) hu) ?_ ?_
  .intro j h1;rw[Yh]at h1;omega
  .have e0:d.toArray.size=0:=by rw[Yh];omega
   rw[e0];rw[Yd h0]at q;exact NY I q rfl
 .refine PySem.SeqAt.eq_list_lengthsAt p.isList p2.isList (by rw[Yh,Yh,<-f];simp;exact fun z=>h0 (by rw[z];rfl)) (Ya (Nat.le_add_right _ 64) hu) ?_;rw[Yp h0]at q;exact NY I q rfl
def Cp:R2:=fun y x H Q=>∃a n kvs,y= .int n/\x= .ref a/\H a=some (.dK kvs)/\Q (.bl (WM kvs (Sum.inl n)).isSome) H
theorem xG(hu:X.A.units+ 1 < cLine):JW X (compareOp .In) Cp:=by
 intro pins s σ H y x v u Q I b c h;obtain⟨a,n,kvs,rfl,rfl,d,q⟩:=h;cases c;exact Pm hu I (Nx.k (k:=Sum.inl n) d) b fun s' e=>⟨.bl _,H,e,rfl,q⟩
end
end L2
namespace L2
open PySem PySem.Spec PyProof.Rows
section
variable{X:Cx}{pos pos' p0:Pos}{o i value:Wo}{td ty tv tz:TE}
def KW(td ty tv:TE):TS:=fun D σ H=>tv σ H fun v H1=>td σ H1 fun x H2=>ty σ H2 fun y H3=>∃a n kvs,x= .ref a/\y= .str n/\H3 a=some (.dK kvs)/\kvs.length < sizeLine/\∀G,JC a H3 G->G a=some (.dK (TC kvs (.inr n) v))->D.nx σ G
theorem Br(hu:X.A.units+ 1 < cLine)(ho:PE X o td)(hi:PE X i ty)(hv:PE X value tv)(hs:swapsWith value (some (.Subscript o i pos')) pos.line X.env=pure false):
  PS X (.Assign [.Subscript o i pos'] value pos) (KW td ty tv):=by
 intro pins s σ H D I h;refine UU (WW (hv pins s σ H _ I h) fun r c ⟨v,H1,I1,f,q⟩=>WW (ho pins c σ H1 _ I1 q) fun u b ⟨x,H2,I2,e,p⟩=>WW (hi pins b σ H2 _ I2 p) fun iv s3 ⟨y,H3,I3,d,a,n,kvs,ex,z,ea,w,j⟩=>?_) hs;subst ex z;obtain rfl:u=Value.ref a:=e;exact Le hu I3 (D9.k (k:=Sum.inr n) ea w) d f fun s4 I4=>⟨σ,_,I4,j _ JC.upd Jp⟩
def Ic:V->List V->Hp->VK->Prop:=fun x vs H Q=>∃a n kvs z,x= .ref a/\vs=[.int n,z]/\H a=some (.dK kvs)/\Q ((WM kvs (Sum.inl n)).getD z) H
theorem Zw:ML X "dict.get" Ic:=by
 intro pins s σ H x vs v j Q I d e h;obtain⟨a,n,kvs,z,rfl,rfl,i,q⟩:=h;cases d;cases e with
 |cons r1 t=>
  cases t with
  |cons r2 t2=>
   cases t2;obtain⟨p,f,vs,c,dd⟩:=A4 I.hok i;refine U2 F.slot_dict_get dd.mapOf.typeIs F.entry_dict_get (F.args_dict_get_3 _ _ _) (meets_dict_get_default (WF X.prog X.w) a (k:=Sum.inl n) (Eu (k:=Sum.inl n) r1) f _) ⟨_,dd.mapOf,?_⟩;have b:=c.val (Sum.inl n);refine⟨_,H,I.tok _,?_,q⟩;cases e1:WM kvs (Sum.inl n) with
   |none=>
    cases e2:valueAt vs (Sum.inl n) with
    |none=>exact r2
    |some u=>rw[e1,e2]at b;exact b.elim
   |some y=>
    cases e2:valueAt vs (Sum.inl n) with
    |none=>rw[e1,e2]at b;exact b.elim
    |some u=>rw[e1,e2]at b;exact b
end
theorem bE{n:Nat}(f:Nat->Int):argBest (fun i j=>decide (f i > f j)) n <=n/\∀i,i <=n->f i <=f (argBest (fun i j=>decide (f i > f j)) n):=by
 induction n with
 |zero=>exact⟨by simp[argBest],fun i hi=>by obtain rfl:i=0:=(by lia);simp[argBest]⟩
 |succ n ih=>
  by_cases h:f (argBest (fun i j=>decide (f i > f j)) n) < f (n+ 1)
  .have e:argBest (fun i j=>decide (f i > f j)) (n+ 1)=n+ 1:=by simp[argBest,h]
   rw[e];refine⟨Y6 _,fun i hi=>?_⟩
   by_cases hi':i=n+ 1
   .subst hi';exact YZ _
   .have:=ih.2 i (by lia);lia
  .have e:argBest (fun i j=>decide (f i > f j)) (n+ 1)=argBest (fun i j=>decide (f i > f j)) n:=by simp[argBest,h]
   rw[e];refine⟨by lia,fun i hi=>?_⟩
   by_cases hi':i=n+ 1
   .subst hi';lia
   .exact ih.2 i (by lia)
section
variable{X:Cx}{K:Wi}
def Ij(K:Wi):List V->Hp->VK->Prop:=fun xs H Q=>∃ (p:Wk) (ns:Wl),xs=[.ref p]/\WA K H p (ns.map V.int)/\ns≠[]/\∀v,v∈ns->(∀y∈ns,y <=v)->Q (.int v) H
theorem vF(hc:X.calm=true)(h:X.K=K):WY X (.builtin "max") (Ij K):=by
 subst h;intro pins s σ H xs us Q I r d;obtain⟨p,a,rfl,hq,j,q⟩:=d;obtain⟨u,rfl,rx⟩:=Dw r;cases rx;obtain⟨b,rv,pl,hz⟩:=I.list hq;have d:X.A.in1.handled=none:=I.ok.hd hc;have hi:IntsAre b a:=Kc rv;obtain⟨xs,e⟩:=hi.allInts.items;have x:s.heap.IsList p (intItems xs):=e▸pl.isList;have e1:a=xs.toList.map (·.1):=by
  rw[<-nums_intItems,<-e];exact(show numsOf b.toArray.toList=a from hi.numsOf).symm
 have f:xs.size=a.length:=by rw[e1];simp
 have c:0 < xs.size:=by rw[f];exact U6.mpr j
 refine max_intList d x c fun v h' tk hv hk=>?_
 obtain⟨t,rfl⟩:=intItems_at hv;obtain⟨b1,b2⟩:=bE (n:=xs.size - 1) (numAt xs);have w:∀i (hi:i < a.length),numAt xs i=a[i]:=fun i hi=>by
  have:a[i]?=(xs.toList.map (·.1))[i]?:=by rw[<-e1]
  rw[Y7 hi,Y9]at this;unfold numAt;have e2:xs[i]?=xs.toList[i]?:=by simp
  rw[e2,<-this];rfl
 refine⟨.int _,H,I.kept (t':=tk) hk,⟨t,rfl⟩,q _ ?_ fun y hy=>?_⟩
 .rw[w _ (by lia)];exact Xk _
 .obtain⟨k,z,rfl⟩:=XF.mp hy;rw[<-w k z];exact b2 k (by lia)
end
def LA(K:Wi):List V->Hp->VK->Prop:=fun xs H Q=>∃a C1 C2 dx fs b,xs=[.ref a,.ref C2]/\H a=some (.ins C1 dx fs)/\MN K C1/\Ez K C1/\W.kitOne K (.ref C1) (.ref C2)=some b/\Q (.bl b) H
theorem QH{X:Cx}{K:Wi}(h:X.K=K):WY X (.builtin "isinstance") (LA K):=by
 subst h;intro pins s σ H xs d Q I r f;obtain⟨a,n,j,dx,fs,b,rfl,ha,i,c,e,q⟩:=f;exact L7 pins s σ H _ d Q I r ⟨.ref a,.ref j,.ref n,b,rfl,.ins ha i c.ha c.hn c.htk c.hm,rfl,e,q⟩
section
variable{rest es:List Expr}{env:Env}{pos:Pos}{a b c:Wo}
theorem Mh{k:Nat}:starEach (.Tuple es k pos::rest) env=(false,eval (.Tuple es k pos) env)::starEach rest env:=rfl
theorem TM{v:Const}{k:Nat}:starEach (.Constant v k pos::rest) env=(false,eval (.Constant v k pos) env)::starEach rest env:=rfl
theorem Dl{x:Str}:starEach (.Name x pos::rest) env=(false,eval (.Name x pos) env)::starEach rest env:=rfl
theorem Dm{o:Operator}:starEach (.BinOp a o b pos::rest) env=(false,eval (.BinOp a o b pos) env)::starEach rest env:=rfl
theorem mG{ks:List Keyword}:starEach (.Call a es ks pos::rest) env=(false,eval (.Call a es ks pos) env)::starEach rest env:=rfl
theorem rM{x:Str}:starEach (.Attribute a x pos::rest) env=(false,eval (.Attribute a x pos) env)::starEach rest env:=rfl
theorem xB:starEach (.Subscript a b pos::rest) env=(false,eval (.Subscript a b pos) env)::starEach rest env:=rfl
theorem GB{gs:List Comprehension}{sc:Scope}:starEach (.ListComp a gs sc pos::rest) env=(false,eval (.ListComp a gs sc pos) env)::starEach rest env:=rfl
theorem S8{o:UnaryOp}:starEach (.UnaryOp o a pos::rest) env=(false,eval (.UnaryOp o a pos) env)::starEach rest env:=rfl
end
section
variable{prog:Wc}{w:Wh}{J:Type}[DecidableEq J]{knd:HeapKind prog w J}{A:Wg}{E:W9}{s:We}{d a:Wk}{k:J}{xs:List (J×Addr×Value)}
def Jj{β:Type}(xs:List (J×β))(k:J):List (J×β):=xs.filter fun x=> !decide (x.1=k)
theorem wQ{β:Type}{xs:List (J×β)}(h:k∉xs.map (·.1)):Jj xs k=xs:=by
 unfold Jj;refine Xl.mpr fun x a=>?_
 have:x.1≠k:=fun e=>h (Y3.mpr ⟨x,a,e⟩)
 simp[this]
theorem QZ{β:Type}:∀{xs:List (J×β)} {j:Nat} {p:β},(xs.map (·.1)).Nodup->xs[j]?=some (k,p)->xs.eraseIdx j=Jj xs k
 |[],_,_,_,h=>by simp at h
 |x::r,0,p,hn,h=>by
  simp only[List.getElem?_cons_zero,Option.some.injEq]at h;subst h;have hn':k∉r.map (·.1):=(YE.mp hn).1;show r=Jj ((k,p)::r) k;unfold Jj;rw[U3,Y2 (by simp)];exact(wQ hn').symm
 |x::r,j+ 1,p,hn,h=>by
  simp only[List.getElem?_cons_succ]at h;have c:k∈r.map (·.1):=Y3.mpr ⟨(k,p),Yx h,rfl⟩;have a:¬x.1=k:=fun e=>(YE.mp hn).1 (by show x.1∈_;rw[e];exact c)
  have b:=QZ (YE.mp hn).2 h;show x::r.eraseIdx j=Jj (x::r) k;rw[b];unfold Jj;rw[U3,Y5 (by simp[a])]
theorem QU{α β:Type}(f:α->β):∀ (l:List α) (j:Nat),(l.map f).eraseIdx j=(l.eraseIdx j).map f
 |[],_=>rfl
 |_::_,0=>rfl
 |x::r,j+ 1=>by show f x::(r.map f).eraseIdx j=f x::(r.eraseIdx j).map f;rw[QU f r j]
theorem P3{p:Addr×Value}{Q:Option DictEntry->Shared->Prop}(hu:knd.room A)(hkey:knd.is s.heap k a)(hm:s.heap.DictOfH knd d xs)(hp:atKey xs k=some p)(hz:xs.length <=sizeLine)
  (hQ:∀h',h'.DictOfH knd d (Jj xs k)->Heap.SameBut d s.heap h'->Q (some ⟨knd.hash k,.ref p.1,p.2⟩) {s with heap:=h',toks:=s.toks+ knd.draws k}):wpAny (model prog w) A (Builtin.Dict.takeOut d (.ref a)) Q E s:=by
 obtain⟨o,es,ep,c,v,b,f,h,e⟩:=hm;have r:es.size <=sizeLine:=by rw[Vc f];exact hz
 unfold Builtin.Dict.takeOut
 try with_reducible refine YQ ?_
 refine Y0 (knd.pyHash hu hkey (Y0 (Vh (s:={s with toks:=s.toks+ knd.draws k}) hu hkey c b f h e (fun n=>?_) fun j q i=>?_)))
 .rw[atKey_none_of_get n]at hp;cases hp
 .rw[atKey_of_get e i]at hp;obtain rfl:=Option.some.inj hp;refine Y0 (YS (s:={s with toks:=s.toks+ knd.draws k}) c b ?_);rw[entry_at f j,i];refine Y0 (wpAny_updateDictKeys (hz:=r) (s:={s with toks:=s.toks+ knd.draws k}) c b (Y4 (hQ _ ⟨_,_,ep+ 1,X3 _ c (Obj.isFreed_of_dict (Us b _)),v.mapDictKeys _,Us b _,?_,?_,?_⟩ (X2 ..))))
  .rw[<-QZ e i];have y:(es.eraseIdxIfInBounds j).toList=es.toList.eraseIdx j:=by simp
   rw[y,f,QU]
  .intro x u;exact knd.keeps (h x (Ym.mp u).1) c b (X2 ..)
  .exact List.Nodup.sublist (XA _ YI) e
theorem uV{v:Wj}{Q:W9}(hu:knd.room A)(hkey:knd.is s.heap k a)(hm:s.heap.DictOfH knd d xs)(hz:xs.length <=sizeLine)(h1:∀p,atKey xs k=some p->Q p.2 {s with toks:=s.toks+ knd.draws k})
  (h2:atKey xs k=none->∀h',h'.DictOfH knd d (xs++[(k,a,v)])->Heap.SameBut d s.heap h'->Q v {s with heap:=h',toks:=s.toks+ knd.draws k}):wpAny (model prog w) A (dictSetDefault d (.ref a) v) Q E s:=by
 obtain⟨o,es,ep,c,hc,b,f,i,u⟩:=hm;have hes:es.size <=sizeLine:=by rw[Vc f];exact hz
 unfold dictSetDefault
 try with_reducible refine YQ ?_
 refine Y0 (knd.pyHash hu hkey (Y0 (Vh (s:={s with toks:=s.toks+ knd.draws k}) hu hkey c b f i u (fun h=>?_) fun j q hj=>?_)))
 .have r:k∉xs.map (·.1):=not_mem_keys_of_get h;refine Y0 (UN (Y0 (wpAny_updateDictKeys (hz:=hes) (s:={s with toks:=s.toks+ knd.draws k}) c b (Y4 (h2 (atKey_none_of_get h) _ ⟨_,_,ep+ 1,X3 _ c (Obj.isFreed_of_dict (Us b _)),hc.mapDictKeys _,Us b _,?_,?_,?_⟩ (X2 ..))))))
  .simp[f,entryOfKey]
  .intro x n;rcases YB.mp n with z|z
   .exact knd.keeps (i x z) c b (X2 ..)
   .rw[Yg.mp z];exact knd.keeps hkey c b (X2 ..)
  .rw[Yf,Ue];refine⟨u,by simp,fun x n y hy e=>r ?_⟩;have:y=k:=by simpa using hy
   rw[<-this,<-e];exact n
 .refine Y0 (YS (s:={s with toks:=s.toks+ knd.draws k}) c b ?_);rw[entry_at f j,hj];exact Y0 (UN (Y4 (h1 q (atKey_of_get u hj))))
end
section
variable{prog:Wc}{w:Wh}{J:Type}[DecidableEq J]{knd:HeapKind prog w J}{d a:Wk}
theorem uF (hd : (d == sysModules) = false) (dflt : Value) : MeetsIn prog w (Builtin.«dict.setdefault» ⟨[.ref d, .ref a, dflt], []⟩) (fun A R s => knd.room A.in1 /\ ∃ k xs, knd.is s.heap k a /\ s.heap.DictOfH knd d xs /\ xs.length <= sizeLine /\
  (∀ p, atKey xs k = some p -> R (.ok (.ret p.2)) { s with toks := s.toks + knd.draws k }) /\ (atKey xs k = none -> ∀ h', h'.DictOfH knd d (xs ++ [(k, a, dflt)]) -> Heap.SameBut d s.heap h' -> R (.ok (.ret dflt)) { s with heap := h', toks := s.toks + knd.draws k })) :=
 .of_wp fun A R s ⟨e,k,xs,j,b,c,h1,h2⟩=>by
  unfold Builtin.«dict.setdefault»;refine Y0 (?_:wpAny _ _ (Builtin.Dict.keyAndDefault _ _) _ _ _);unfold Builtin.Dict.keyAndDefault;refine Y0 (Xn b.typeIs (?_:wpAny _ _ (pure (d,Value.ref a,some dflt)) _ _ s));refine Y4 (?_:wpAny _ _ (if(d==sysModules)=true then _ else(dictSetDefault d (.ref a) dflt >>=_)) _ _ s);rw[Y2 (by simp[hd])];exact Y0 (uV e j b c (fun p h=>Y4 ⟨_,rfl,h1 p h⟩) fun i h' dd f=>Y4 ⟨_,rfl,h2 i h' dd f⟩)
theorem x9 : MeetsIn prog w (Builtin.«dict.pop» ⟨[.ref d, .ref a], []⟩) (fun A R s => knd.room A.in1 /\ ∃ k xs p, knd.is s.heap k a /\ s.heap.DictOfH knd d xs /\ xs.length <= sizeLine /\ atKey xs k = some p /\
  ∀ h', h'.DictOfH knd d (Jj xs k) -> Heap.SameBut d s.heap h' -> R (.ok (.ret p.2)) { s with heap := h', toks := s.toks + knd.draws k }) :=
 .of_wp fun A R s ⟨n,k,xs,p,u,c,j,b,h⟩=>by
  obtain⟨o,es,ep,r,hc,x,v,ac,hn⟩:=id c;unfold Builtin.«dict.pop»;refine Y0 (?_:wpAny _ _ (Builtin.Dict.keyAndDefault _ _) _ _ _);unfold Builtin.Dict.keyAndDefault;refine Y0 (Xn c.typeIs (?_:wpAny _ _ (pure (d,Value.ref a,none)) _ _ s));refine Y4 ?_;have i:(keyPart (.ref a)).isSome=false:=rfl;have f:es.isEmpty=false:=by
   have ab:=Vc v;have e:xs≠[]:=fun z=>by rw[z]at b;cases b
   have aa:0 < xs.length:=U6.mpr e;have y:¬es.size=0:=by lia
   unfold Array.isEmpty;exact Yp y
  simp only[i,Bool.false_eq_true,if_false];refine Y0 (YS r x (Y0 (Y4 ?_)));rw[f];simp only[Bool.false_eq_true,if_false];refine Y0 (P3 n u c b j fun h' dd q=>?_);simp only[Option.isNone_some,Bool.false_eq_true,if_false];exact Y0 (Xy (Y4 ⟨_,rfl,h h' dd q⟩))
end
section
variable{X:Cx}{K:Wi}
theorem KT.app{H:Hp}{kvs:List (List WO×V)}{xs:List (List WO×Addr×Value)}{k:List WO}{v:V}{b:Wk}{u:Wj}(r:KT H kvs xs)(hb:H b=some (.tup (k.map kV)))(rv:WJ v u):KT H (kvs++[(k,v)]) (xs++[(k,b,u)]):=by
 induction r with
 |nil=>exact .cons ⟨rfl,hb,rv⟩ .nil
 |cons q _ ih=>exact .cons q ih
theorem KT.less{H:Hp}{kvs:List (List WO×V)}{xs:List (List WO×Addr×Value)}{k:List WO}(r:KT H kvs xs):KT H (Jj kvs k) (Jj xs k):=by
 induction r with
 |nil=>exact .nil
 |@cons p q ps qs hq t ih=>
  unfold Jj at ih ⊢;rw[U3,U3,<-hq.1]
  split
  .exact .cons hq ih
  .exact ih
def KI:V->List V->Hp->VK->Prop:=fun x vs H Q=>∃ (a b:Wk) (k:List WO) (kvs:List (List WO×V)) (z:V),x= .ref a/\vs=[.ref b,z]/\H a=some (.dT kvs)/\H b=some (.tup (k.map kV))/\kvs.length < sizeLine/\
 (∀v,WM kvs k=some v->Q v H)/\(WM kvs k=none->∀G,JC a H G->G a=some (.dT (kvs++[(k,z)]))->Q z G)
theorem Om(hu:X.A.units+ 1 < cLine):ML X "dict.setdefault" KI:=by
 intro pins s σ H x vs v us Q I rx rv h;obtain⟨a,b,k,kvs,z,rfl,rfl,i,u,hl,q1,q2⟩:=h;cases rx;cases rv with
 |cons r1 t1=>
  cases t1 with
  |cons r2 t2=>
   cases t2;cases r1;obtain⟨hz,r,xs,f,dd⟩:=RN I.hok i;have j:xs.length <=sizeLine:=by rw[<-Paired.length f];exact hz
   have d:=f.val k;refine U2 Um dd.typeIs PySem.F.entry_dict_setdefault (PySem.F.args_dict_setdefault_3 _ _ _) (uF (knd:=tupleKind (WF X.prog X.w)) r _) ⟨Xp hu,k,xs,Rm I.hok u,dd,j,fun p hp=>?_,fun hn h' dd' hs=>?_⟩
   .rw[hp]at d;cases e:WM kvs k with
    |none=>rw[e]at d;exact d.elim
    |some y=>rw[e]at d;exact⟨y,H,I.tok _,d,q1 y e⟩
   .rw[hn]at d;cases e:WM kvs k with
    |some y=>rw[e]at d;exact d.elim
    |none=>
     obtain⟨q,es,ep,n,h2,h3,h4,_,h5⟩:=dd';refine⟨z,upd H a (.dT (kvs++[(k,z)])),?_,r2,q2 e _ JC.upd Jp⟩;refine EV I (by rw[i];exact True.intro) hs ⟨q,n⟩ ⟨by rw[Ys];exact hl,r,_,(f.app u r2).keeps fun c ys ec=>?_,q,es,ep,n,h2,h3,h4,h5⟩;rw[WT (Wr ec i (fun z=>nomatch z))];exact ec
def Hi:V->List V->Hp->VK->Prop:=fun x vs H Q=>∃ (a b:Wk) (k:List WO) (kvs:List (List WO×V)) (v:V),x= .ref a/\vs=[.ref b]/\H a=some (.dT kvs)/\H b=some (.tup (k.map kV))/\WM kvs k=some v/\
 ∀G,JC a H G->G a=some (.dT (Jj kvs k))->Q v G
theorem Pf(hu:X.A.units+ 1 < cLine):ML X "dict.pop" Hi:=by
 intro pins s σ H x vs v us Q I rx rv h;obtain⟨a,b,k,kvs,z,rfl,rfl,i,hb,j,q⟩:=h;cases rx;cases rv with
 |cons r1 t1=>
  cases t1;cases r1;obtain⟨n,hd,xs,e,dd⟩:=RN I.hok i;have r:xs.length <=sizeLine:=by rw[<-Paired.length e];exact n
  have f:=e.val k;rw[j]at f;cases hp:atKey xs k with
  |none=>rw[hp]at f;exact f.elim
  |some p=>
   rw[hp]at f;refine U2 XB dd.typeIs VG (PySem.F.args_dict_pop_2 _ _) (x9 (knd:=tupleKind (WF X.prog X.w)) (d:=a) (a:=b)) ⟨Xp hu,k,xs,p,Rm I.hok hb,dd,r,hp,fun h' aa hs=>?_⟩;obtain⟨o,es,ep,u,h2,h3,h4,_,h5⟩:=aa;refine⟨z,upd H a (.dT (Jj kvs k)),?_,f,q _ JC.upd Jp⟩;refine EV I (by rw[i];exact True.intro) hs ⟨o,u⟩ ⟨YD (Yz _ _) n,hd,_,(KT.less e).keeps fun c ys y=>?_,o,es,ep,u,h2,h3,h4,h5⟩;rw[WT (Wr y i (fun z=>nomatch z))];exact y
end
section
variable{X:Cx}{pins:Wb}{σ:St}{H:Hp}{s:We}{d:Wk}{u0 u1:HO}
theorem Wv.retag(I:Wv X pins σ H s)(e:H d=some u0)(n1:∀xs,u0≠ .tup xs)(n2:∀x,u0≠ .own x)(n3:∀ps,u0≠ .tbl ps)(n4:∀o u,X.H₀ d≠some (.frz o u))(new:WR X.prog X.w (upd H d u1) s.heap d u1):Wv X pins σ (upd H d u1) s:=by
 have ne:∀{b:Wk},H b=none->b≠d:=fun h z=>by rw[z,e]at h;cases h
 have a:∀b xs,H b=some (.tup xs)->upd H d u1 b=some (.tup xs):=fun b xs h=>by
  rw[WT (fun z=>by rw[z,e]at h;exact n1 xs (Option.some.inj h))];exact h
 have i:∀b x,H b=some (.own x)->upd H d u1 b=some (.own x):=fun b x h=>by
  rw[WT (fun z=>by rw[z,e]at h;exact n2 x (Option.some.inj h))];exact h
 refine⟨I.ok,I.os,I.bare,⟨I.base.keep,I.base.slot,fun b o q n j=>?_,I.base.there,fun b xs q=>a b xs (I.base.tups b xs q),fun b o u q=>?_,fun b ps q=>?_⟩,I.loc,I.cell,?_,fun x c q=>?_,fun p r=>?_,fun b u q=>?_,I.len⟩
 .have:=I.base.free b o q n j;rw[WT (ne this)];exact this
 .rw[WT (fun z=>n4 o u (by rw[<-z];exact q))];exact I.base.frzs b o u q
 .obtain⟨m,h⟩:=I.base.tbls b ps q;exact⟨m,by rw[WT (fun z=>by rw[z,e]at h;exact n3 _ (Option.some.inj h))];exact h⟩
 .rw[WT (ne I.free)];exact I.free
 .rw[WT (ne (I.freeC x c q))];exact I.freeC x c q
 .obtain⟨a1,f,y⟩:=I.pin p r;exact⟨a1,by rw[WT (ne f)];exact f,y⟩
 .by_cases hb:b=d
  .subst hb;rw[Jp]at q;cases q;exact new
  .rw[WT hb]at q;exact(I.hok b u q).stay (fun c v _ h=>h) (fun c h=>i c b h) a
theorem Wv.freeze{kvs:List (List WO×V)}{o:Obj}(I:Wv X pins σ H s)(e:H d=some (.dT kvs))(ho:s.heap.get? d=some o):Wv X pins σ (upd H d (.frz o (.dT kvs))) s:=by
 refine I.retag e (fun _ z=>nomatch z) (fun _ z=>nomatch z) (fun _ z=>nomatch z) (fun o u z=>?_) ⟨ho,?_⟩
 .have:=I.base.frzs d o u z;rw[e]at this;cases this
 .exact(I.hok d _ e).stay (fun c v _ h=>h) (fun c h=>by rw[WT (Wr h e (fun z=>nomatch z))];exact h) fun c xs h=>by rw[WT (Wr h e (fun z=>nomatch z))];exact h
theorem Wv.thaw{kvs:List (List WO×V)}{o:Obj}(I:Wv X pins σ H s)(e:H d=some (.frz o (.dT kvs)))(n4:∀o u,X.H₀ d≠some (.frz o u)):Wv X pins σ (upd H d (.dT kvs)) s:=by
 refine I.retag e (fun _ z=>nomatch z) (fun _ z=>nomatch z) (fun _ z=>nomatch z) n4 ?_;have h1:WR X.prog X.w H s.heap d (.dT kvs):=(I.hok d _ e).2;exact h1.stay (fun c v _ h=>h) (fun c h=>by rw[WT (Wr h e (fun z=>nomatch z))];exact h) fun c xs h=>by rw[WT (Wr h e (fun z=>nomatch z))];exact h
end
section
variable{prog:Wc}{w:Wh}{A:Wg}{E:W9}{s:We}{d it:Wk}{o:Obj}{es:Array DictEntry}{ep i n:Nat}
theorem SZ{Q:W9}(hd:(d==sysModules)=false)(ho:s.heap.get? d=some o)(hc:o.ExactDict)(hdat:o.data= .dict es ep)
  (hQ:Q (.ref s.heap.objs.size) {s with heap:=s.heap.push {cls:=.type "dict_keyiterator",data:=.fields #[.ref d,.int 0 0,.int es.size 0,.int ep 0]}}):wpAny (model prog w) A (pyIter (.ref d)) Q E s:=by
 have a:s.TypeIs (.ref d) "dict":=⟨o,ho,hc.1⟩
 refine UR a VH (YR VH a PySem.F.entry_dict_iter ?_ (PySem.F.args_dict_iter_1 _));unfold Builtin.«dict.__iter__»;refine Y0 (?_:wpAny _ _ (Builtin.Dict.dictSlotNone _ _) _ _ _);unfold Builtin.Dict.dictSlotNone;refine Y0 (Xn a (?_:wpAny _ _ (pure (Value.ref d)) _ _ s));refine Y4 (?_:wpAny _ _ (Builtin.Dict.showsAll d >>=_) _ _ s);unfold Builtin.Dict.showsAll;rw[Y2 (by simp[hd])];refine Y0 (Y4 (Y0 (YS ho hdat (Y0 (Xm ho hdat (Y0 (YM (Y4 ⟨_,rfl,"dict_keyiterator",_,⟨_,Yc _ rfl,rfl⟩,YX.lookup,?_⟩))))))));simpa[rawInt] using hQ
theorem Pr{Q:Option Value->Shared->Prop}(hit:s.heap.IsKeyIter it d i es.size ep)(ho:s.heap.get? d=some o)(hdd:o.data= .dict es ep)(hlt:i < es.size)
  (hQ:∀h',h'.IsKeyIter it d (i+ 1) es.size ep->Heap.SameBut it s.heap h'->Q (some es[i].key) {s with heap:=h'}):wpAny (model prog w) A (pyNext (.ref it)) Q E s:=by
 obtain⟨h,a,f,e⟩:=id hit;have c:=hit.typeIs;unfold pyNext;refine Y0 (XT (X7 (name:=Str.ofString "__next__") c YX (YR YX c UO ?_ (UG _))));refine Y0 (Y4 (Y0 (Y0 ?_)));refine Y0 (XH c (Y4 (Y0 (Uo a e ?_))));simp only[show Builtin.Dict_items.ownsTuple "dict_keyiterator"=false by decide,Bool.false_eq_true,if_false];refine(?_:wpAny _ _ (if(Value.ref d==Value.none)=true then _ else _) _ _ s);rw[Y2 (show ¬((Value.ref d==Value.none)=true) from fun z=>Bool.noConfusion z)];refine Y0 (Y4 (Y0 (YS ho hdd ?_)));rw[Y2 (by simp)];refine Y0 (Y4 (Y0 (Xm ho hdd ?_)));rw[Y2 (by simp)];refine Y4 ?_;simp only[show ¬((i:Int) < 0) by omega,if_false,YW,Xe hlt];refine Y0 (Y0 (XH c (Y4 (Y0 (wpAny_isOneOf_keyiter c ?_)))));refine(?_:wpAny _ _ (setField (.ref it) 1 (rawInt ((i:Int)+ 1)) >>=_) _ _ s);refine Y0 (UP a e (by simp) ?_);have b:(s.heap.update it (Obj.mapFields (·.setIfInBounds 1 (rawInt ((i:Int)+ 1))))).IsKeyIter it d (i+ 1) es.size ep:=
  ⟨_,X3 _ a (Obj.isFreed_of_fields (UH e _)),(Obj.cls_mapFields ..).trans f,by rw[UH e];simp[rawInt]⟩
 refine Y0 (YQ (Y0 (wpAny_isOneOf_keyiter (s:={s with heap:=s.heap.update it (Obj.mapFields (·.setIfInBounds 1 (rawInt ((i:Int)+ 1))))}) b.typeIs ?_)));refine(?_:wpAny _ _ (pure es[i].key) _ _ _);exact Y4 (Y4 ⟨_,rfl,Y4 (hQ _ b (X2 ..))⟩)
theorem QX{Q:Option Value->Shared->Prop}(hh:A.handled=none)(hit:s.heap.IsKeyIter it d i es.size ep)(ho:s.heap.get? d=some o)(hdd:o.data= .dict es ep)(hge:es.size <=i)
  (hQ:∀h',Heap.ExtBut it s.heap h'->Q none {s with heap:=h'}):wpAny (model prog w) A (pyNext (.ref it)) Q E s:=by
 obtain⟨h,e,j,f⟩:=id hit;have c:=hit.typeIs;unfold pyNext;refine Y0 (XT (X7 (name:=Str.ofString "__next__") c YX (YR YX c UO ?_ (UG _))));refine Y0 (Y4 (Y0 (Y0 ?_)));refine Y0 (XH c (Y4 (Y0 (Uo e f ?_))));simp only[show Builtin.Dict_items.ownsTuple "dict_keyiterator"=false by decide,Bool.false_eq_true,if_false];refine(?_:wpAny _ _ (if(Value.ref d==Value.none)=true then _ else _) _ _ s);rw[Y2 (show ¬((Value.ref d==Value.none)=true) from fun z=>Bool.noConfusion z)];refine Y0 (Y4 (Y0 (YS ho hdd ?_)));rw[Y2 (by simp)];refine Y0 (Y4 (Y0 (Xm ho hdd ?_)));rw[Y2 (by simp)];refine Y4 ?_;simp only[show ¬((i:Int) < 0) by omega,if_false,YW,UW hge];refine Y0 (Y0 (XH c (Y4 ?_)));refine(?_:wpAny _ _ (setField (.ref it) 0 .none >>=_) _ _ s);refine Y0 (UP e f (by simp) ?_);refine(?_:wpAny _ _ (newExc (.type "StopIteration") [] >>=_) _ _ _);refine Y0 ?_;simp only[newExc,newTuple];refine Y0 (YM (Y0 (m:=firstArgMember _ _) (UV (a:=Value.none) (by first|rfl|(simp only[firstArgMember];rfl)) (YM ?_ (by size_fits)))) (by size_fits));simp only[raiseNew];refine Y0 (wpAny_handled ?_);rw[show A.in1.handled=none from hh];refine Y0 (Y4 (wpAny_throw ?_));exact Y0 (V2 (T:="StopIteration") (b:=true) ⟨_,Yc _ rfl,rfl⟩ Vk (Y4 (hQ _ (((X2 ..).extBut.push _).push _))))
end
def Qv(d:Wk)(o:Obj)(kvs:List (List WO×V)):It:=
 ⟨fun i H=>H d=some (.frz o (.dT kvs))/\i < kvs.length,fun i H x H'=>H'=H/\∃b k v,x= .ref b/\kvs[i]?=some (k,v)/\H b=some (.tup (k.map kV)),fun i H=>H d=some (.frz o (.dT kvs))/\kvs.length <=i⟩
theorem KT.at'{H:Hp}:∀{kvs:List (List WO×V)} {xs:List (List WO×Addr×Value)},KT H kvs xs->∀{i:Nat} {x:List WO×Addr×Value},xs[i]?=some x->∃v,kvs[i]?=some (x.1,v)/\H x.2.1=some (.tup (x.1.map kV)):=by
 intro kvs xs r
 induction r with
 |nil=>intro i x h;simp at h
 |@cons p q ps qs hq t ih=>
  intro i x h;cases i with
  |zero=>
   simp only[List.getElem?_cons_zero,Option.some.injEq]at h;subst h;refine⟨p.2,by simp[<-hq.1],by rw[<-hq.1];exact hq.2.1⟩
  |succ i=>exact ih (by simpa using h)
theorem xL{P:Wc}{w:Wh}{K:Wi}{tg:Wo}{o:Obj}{kvs:List (List WO×V)}{es:Array DictEntry}{ep:Nat}(d it:Wk)(hdat:o.data= .dict es ep)(hsz:es.size=kvs.length):Rq P w K tg (Qv d o kvs) [it] it (fun i h=>h.IsKeyIter it d i es.size ep) where
 mem:=by simp
 obj:=fun i h st b a=>by
  have e:b=it:=by simpa using a
  subst e;obtain⟨o,e,c,d⟩:=st;exact⟨o,e,fun v z=>by rw[d]at z;cases z⟩
 keep:=fun i h h' st k=>by
  obtain⟨q,e,r⟩:=st;exact⟨q,k it (by simp) q e,r⟩
 item:=by
  intro X hP u hK hc i pins s σ H E I j st x;subst hP u hK;obtain⟨hF,hi⟩:=x;obtain⟨f0,f1,f2,f3,f4,f5⟩:=j it (by simp);obtain⟨f,hob⟩:=(show s.heap.get? d=some o/\WR X.prog X.w H s.heap d (.dT kvs) from I.hok d _ hF);obtain⟨z,y,xs,r,o',es',ep',q1,q2,q3,q4,q5⟩:=hob;rw[f]at q1;cases q1;rw[hdat]at q3;cases q3;have p:i < es.size:=by omega
  refine Pr st f hdat p fun h' n sb=>?_
  have I1:Wv X pins σ H {s with heap:=h'}:=I.turned (t':=s.toks) (fun b o a e=>(sb.2 b a).trans e) f0 f1 f3 f4 f5;obtain⟨q,e,c,dd⟩:=id n;have hxl:xs.length=es.size:=by rw[<-Array.length_toList,q4,Y1]
  have hx:xs[i]?=some xs[i]:=Y7 (by omega);obtain⟨v,hv,a⟩:=KT.at' r hx;have hk:es[i].key= .ref xs[i].2.1:=by
   have:es.toList[i]?=(xs.map (entryOfKey (tupleKind (WF X.prog X.w))))[i]?:=by rw[q4]
   rw[Y9,hx,Array.getElem?_toList,Xe p]at this;rw[Option.some.inj this];rfl
  exact⟨_,rfl,A5 (s:={s with heap:=h'}) e c dd (by decide) ⟨.ref xs[i].2.1,H,I1,hk,⟨rfl,_,_,v,rfl,hv,a⟩,n,fun b a=>(j b a).1⟩⟩
 done:=by
  intro X hP u hK hc i pins s σ H E I j st x;subst hP u hK;obtain⟨hF,hi⟩:=x;obtain⟨f0,f1,f2,f3,f4,f5⟩:=j it (by simp);have f:s.heap.get? d=some o:=(show s.heap.get? d=some o/\WR X.prog X.w H s.heap d (.dT kvs) from I.hok d _ hF).1;exact QX (I.ok.hd hc) st f hdat (by omega) fun h' eb=>⟨rfl,I.turned (t':=s.toks) (fun b o a e=>eb b o a e) f0 f1 f3 f4 f5⟩
 self:=fun A i s Q E st h=>by
  exact wpAny_pyIter_keyiter st h
section
variable{X:Cx}{K:Wi}
def AT(td:TE):TI:=fun σ H R=>td σ H fun x H1=>∃a kvs,x= .ref a/\H1 a=some (.dT kvs)/\∀o,R (Qv a o kvs) (upd H1 a (.frz o (.dT kvs)))
theorem EX{tg e:Wo}{td:TE}(hl:PE X e td):PI X tg e (AT td):=by
 intro pins s σ H R I h;refine WW (hl pins s σ H _ I h) fun v c ⟨x,H1,n,p,a,kvs,ex,j,q⟩=>?_
 subst ex;cases p;obtain⟨z,y,xs,r,o,es,ep,i,q2,f,u,q5⟩:=(show WR X.prog X.w H1 c.heap a (.dT kvs) from n.hok a _ j);have hxl:xs.length=es.size:=by rw[<-Array.length_toList,u,Y1]
 have hkl:=Paired.length r;refine SZ y i q2 f ?_;have d:=n.freeze j i;refine⟨c.heap.objs.size,[c.heap.objs.size],_,_,_,rfl,d.kept (t':=c.toks) fun b o e=>Y8 _ e,xL a _ f (by omega),⟨_,Yc _ rfl,rfl,rfl⟩,fun b hb=>?_,q o⟩;have e:b=c.heap.objs.size:=by simpa using hb
 subst e;exact d.fpOk (Y6 _) (d.hok.fresh (Y6 _))
def Er(t:TE):TE:=fun σ H Q=>∃d kvs,H d=some (.dT kvs)/\t σ H fun v H'=>∃o,H' d=some (.frz o (.dT kvs))/\Q v (upd H' d (.dT kvs))
theorem E8{e:Wo}{t:TE}(h:PE X e t):PE X e (Er t):=by
 intro pins s σ H Q I a;obtain⟨d,kvs,f,a⟩:=a;have b:∀o u,X.H₀ d≠some (.frz o u):=fun o u z=>by have:=I.base.frzs d o u z;rw[f]at this;cases this
 exact WW (h pins s σ H _ I a) fun u j ⟨v,H1,i,r,o,c,q⟩=>⟨v,_,i.thaw c b,r,q⟩
end
section
variable{caps:List (Option Nat)}{g:TG}{tc:TT}{te td:TE}{d:Wk}{kvs:List (List WO×V)}{σ:St}{H:Hp}{Q:VK}
theorem HB(hd:H d=some (.dT kvs))(htd:∀R:VK,R (.ref d) H->td σ H R)(Pv:Nat->List V->St->Prop)(h0:Pv 0 [] (N5 caps σ))(hl:∀i ys σ',Pv i ys σ'->ys.length <=i)(hz:kvs.length <=100000)
  (hs:∀Hf o,(∀c,c≠d->Hf c=H c)->Hf d=some (.frz o (.dT kvs))->∀i b k v ys σ',kvs[i]?=some (k,v)->H b=some (.tup (k.map kV))->Pv i ys σ'->g (.ref b) σ' Hf fun σ2 H2=>tc σ2 H2 fun c H3=>if c=true then te σ2 H3 fun y H4=>Pv (i+ 1) (ys++[y]) σ2/\H4=Hf else Pv (i+ 1) ys σ2/\H3=Hf)
  (he:∀ys σ',Pv kvs.length ys σ'->∀p G,H p=none->Ws H G->G p=some (.lst ys)->Q (.ref p) G):Er (GQ caps (AT td) g tc te) σ H Q:=by
 refine⟨d,kvs,hd,htd _ ⟨d,kvs,rfl,hd,fun o=>?_⟩⟩;obtain⟨Hf,r⟩:∃Hf,Hf=upd H d (.frz o (.dT kvs)):=⟨_,rfl⟩;rw[<-r];have f:Hf d=some (.frz o (.dT kvs)):=by rw[r,Jp]
 have h:∀c,c≠d->Hf c=H c:=fun c j=>by rw[r,WT j]
 refine⟨fun i m ys σ' H'=>m=kvs.length - i/\i <=kvs.length/\Pv i ys σ'/\H'=Hf,⟨kvs.length,by simp,YF _,h0,rfl⟩,?_⟩;rintro i m ys σ' H' ⟨rfl,hi,p,rfl⟩;have hy:=hl i ys σ' p
 by_cases hlt:i < kvs.length
 .refine .inr ⟨⟨f,hlt⟩,Ya (XE (Ya hy hlt)) (Tn hz),fun s σ2 H2=>Pv (i+ 1) s σ2/\H2=H',fun s σ2 H2 q=>⟨kvs.length - (i+ 1),by omega,rfl,hlt,q⟩,fun x H2 y=>?_⟩;obtain⟨e,b,k,v,ex,hk,w⟩:=y;subst e ex;have hbd:b≠d:=fun z=>by rw[z,f]at w;cases w
  exact hs H2 o h f i b k v ys σ' hk (by rw[<-h b hbd];exact w) p
 .have e:i=kvs.length:=by omega
  subst e;refine .inl ⟨⟨f,Y6 _⟩,Jc (YD hy hz),fun n a=>⟨o,?_,he ys σ' p n _ ?_ (fun c u e=>?_) ?_⟩⟩
  .have:d≠n:=fun z=>by rw[<-z,f]at a;cases a
   rw[WT this];exact f
  .have:n≠d:=fun z=>by rw[z,f]at a;cases a
   rw[<-h n this];exact a
  .by_cases j:c=d
   .rw[j,hd]at e;rw[j,Jp];exact e
   .have:c≠n:=fun z=>by rw[<-z,h c j]at a;rw[a]at e;cases e
    rw[WT j,WT this,h c j];exact e
  .have:n≠d:=fun z=>by rw[z,f]at a;cases a
   rw[WT this,Jp]
end
section
variable{X:Cx}{pos pos' p0:Pos}{o i value:Wo}{td ty tv tz:TE}
def K0(td ty tv:TE):TS:=fun D σ H=>tv σ H fun v H1=>td σ H1 fun x H2=>ty σ H2 fun y H3=>∃ (a b:Wk) (k:List WO) (kvs:List (List WO×V)),x= .ref a/\y= .ref b/\H3 a=some (.dT kvs)/\H3 b=some (.tup (k.map kV))/\kvs.length < sizeLine/\∀G,JC a H3 G->G a=some (.dT (TC kvs k v))->D.nx σ G
theorem Ck(hu:X.A.units+ 1 < cLine)(ho:PE X o td)(hi:PE X i ty)(hv:PE X value tv)(hs:swapsWith value (some (.Subscript o i pos')) pos.line X.env=pure false):
  PS X (.Assign [.Subscript o i pos'] value pos) (K0 td ty tv):=by
 intro pins s σ H D I h;refine UU (WW (hv pins s σ H _ I h) fun r d ⟨v,H1,I1,j,q⟩=>WW (ho pins d σ H1 _ I1 q) fun u c ⟨x,H2,I2,f,p⟩=>WW (hi pins c σ H2 _ I2 p) fun iv s3 ⟨y,H3,I3,e,a,b,k,kvs,ex,z,ea,eb,w,n⟩=>?_) hs;subst ex z;obtain rfl:u=Value.ref a:=f;exact Le hu I3 (D9.t (k:=k) ea eb w) e j fun s4 I4=>⟨σ,_,I4,n _ JC.upd Jp⟩
def IZ:R2:=fun y x H Q=>∃ (a b:Wk) (k:List WO) (kvs:List (List WO×V)),y= .ref b/\x= .ref a/\Rd H a (.dT kvs)/\H b=some (.tup (k.map kV))/\Q (.bl (WM kvs k).isSome) H
theorem Zj(hu:X.A.units+ 1 < cLine):JW X (compareOp .In) IZ:=by
 intro pins s σ H y x v u Q I c d h;obtain⟨a,b,k,kvs,rfl,rfl,f,e,q⟩:=h;cases d;exact Pm hu I (.inr ⟨kvs,k,b,f,rfl,e,rfl⟩) c fun s' i=>⟨.bl _,H,i,rfl,q⟩
def FH:R2:=fun y x H Q=>∃ (a b:Wk) (k:List WO) (kvs:List (List WO×V)),y= .ref b/\x= .ref a/\Rd H a (.dT kvs)/\H b=some (.tup (k.map kV))/\Q (.bl (!(WM kvs k).isSome)) H
theorem Ph(hu:X.A.units+ 1 < cLine):JW X (compareOp .NotIn) FH:=by
 intro pins s σ H y x v u Q I c d h;obtain⟨a,b,k,kvs,rfl,rfl,f,e,q⟩:=h;cases d;exact Z4 hu I (.inr ⟨kvs,k,b,f,rfl,e,rfl⟩) c fun s' i=>⟨.bl _,H,i,rfl,q⟩
def HG:TE:=fun _ H Q=>∀p G,H p=none->Ws H G->G p=some (.dT [])->Q (.ref p) G
theorem EN:PE X (.Dict [] [] p0) HG:=by
 intro pins s σ H Q I h;exact nV pins s σ H Q I fun p a=>h p _ a (Mc a) Jp
end
section
variable{X:Cx}
def Zl(t:TS):TS:=fun D σ H=>∃d kvs,H d=some (.dT kvs)/\t {nx:=fun σ' H'=>∃o,H' d=some (.frz o (.dT kvs))/\D.nx σ' (upd H' d (.dT kvs)),rt:=fun _ _=>False} σ H
theorem IJ{st:Stmt}{t:TS}(h:PS X st t):PS X st (Zl t):=by
 intro pins s σ H D I a;obtain⟨d,kvs,e,a⟩:=a;have b:∀o u,X.H₀ d≠some (.frz o u):=fun o u z=>by have:=I.base.frzs d o u z;rw[e]at this;cases this
 refine WW (h pins s σ H _ I a) fun f j k=>?_
 cases f with
 |next=>obtain⟨σ',H',i,o,c,q⟩:=k;exact⟨σ',_,i.thaw c b,q⟩
 |brk=>obtain⟨_,_,_,q⟩:=k;exact q.elim
 |cont=>obtain⟨_,_,_,q⟩:=k;exact q.elim
 |ret u=>obtain⟨_,_,_,_,_,q⟩:=k;exact q.elim
theorem QT{caps:List (Option Nat)}{wi:TI}{g:TG}{tc:TT}{te:TE}{i:Nat}{D:Tl}{σ:St}{H:Hp}(h:Er (GQ caps wi g tc te) σ H fun v G=>D.nx (σ.set i (some v)) G):Zl (E1 (GQ caps wi g tc te) (Go i)) D σ H:=h
end
end L2
namespace L2
open PySem PySem.Spec PyProof.Rows PySem.W
end L2
namespace L2
open PySem PySem.Spec PyProof.Rows
end L2
namespace L2
open PySem PySem.Spec PyProof.Rows PySem.Builtin PySem.Builtin.ObjectAttr PySem.Builtin.Getset_descriptor
end L2
namespace L2
open PySem PySem.Spec PyProof.Rows
def HT:HO:=.ext fun _=>True
def Holds(cl:List (Str×Addr))(h:Wn)(N':List Str)(σ:St):Prop:=∀ (i:Nat) (x:Str) (v:V),N'[i]?=some x->σ[i]?=some (some v)->∃c o u,cl.lookup x=some c/\h.get? c=some o/\o.data= .cell (some u)/\WJ v u
def Sa(R:V->Hp->Prop)(vs:List V)(G:Hp):Prop:=match vs with
 |[x]=>R x G
 |_=>False
theorem yJ{R:V->Hp->Prop}{vs:List V}{G:Hp}(h:Sa R vs G):∃x,vs=[x]/\R x G:=by
 match vs,h with
 |[x],h=>exact⟨x,rfl,h⟩
end L2
namespace L2
open PySem PySem.Spec PyProof.Rows PySem.W
abbrev Ky:=Int×Str×Str
def Dg(a b:Str):Bool:=decide (a.cps.toList < b.cps.toList)
theorem Fn(a:Str):Dg a a=false:=Yp (List.lt_irrefl _)
theorem Qt{a b c:Str}(h1:Dg a b=true)(h2:Dg b c=true):Dg a c=true:=Yd (List.lt_trans (X5 h1) (X5 h2))
theorem Ql{a b c:Str}(h:Dg a c=true):Dg a b=true\/Dg b c=true:=by
 by_cases h1:a.cps.toList < b.cps.toList
 .exact .inl (Yd h1)
 .exact .inr (Yd (List.lt_of_le_of_lt (W7.mp h1) (X5 h)))
theorem HS{a b:Str}(h1:Dg a b=false)(h2:Dg b a=false):a=b:=by
 have e:=List.le_antisymm (W7.mp (of_decide_eq_false h2)) (W7.mp (of_decide_eq_false h1));cases a;cases b;simp only[PySem.Str.mk.injEq];exact Array.toList_inj.mp e
theorem aL{a b:Str}(h:Dg a b=true):a≠b:=fun e=>by rw[e,Fn]at h;cases h
def TQ(a b:Ky):Bool:=if a.1=b.1 then(if a.2.1=b.2.1 then Dg a.2.2 b.2.2 else Dg a.2.1 b.2.1) else decide (a.1 < b.1)
theorem T2{a b:Ky}:TQ a b=true↔a.1 < b.1\/a.1=b.1/\(Dg a.2.1 b.2.1=true\/a.2.1=b.2.1/\Dg a.2.2 b.2.2=true):=by
 unfold TQ
 by_cases h1:a.1=b.1
 .rw[Y5 h1]
  by_cases h2:a.2.1=b.2.1
  .rw [Y5 h2];exact ⟨fun h => .inr ⟨h1, .inr ⟨h2, h⟩⟩, fun h => by
    rcases h with h|⟨_,h|⟨_,h⟩⟩
    .lia
    .exact absurd h2 (aL h)
    .exact h⟩
  .rw [Y2 h2];exact ⟨fun h => .inr ⟨h1, .inl h⟩, fun h => by
    rcases h with h|⟨_,h|⟨h,_⟩⟩
    .lia
    .exact h
    .exact absurd h h2⟩
 .rw[Y2 h1,Yb];exact⟨.inl,fun h=>h.elim id fun z=>absurd z.1 h1⟩
theorem Px{a b c:Ky}(h:TQ a c=true):TQ a b=true\/TQ b c=true:=by
 rw[T2]at*;rw[T2]
 by_cases h1:a.1 < b.1
 .exact .inl (.inl h1)
 .by_cases h2:b.1 < c.1
  .exact .inr (.inl h2)
  .rcases h with h|⟨e,h⟩
   .lia
   .have f:a.1=b.1:=by lia
    have d:b.1=c.1:=by lia
    rcases h with h|⟨e3,h⟩
    .rcases Ql (b:=b.2.1) h with h|h
     .exact .inl (.inr ⟨f,.inl h⟩)
     .exact .inr (.inr ⟨d,.inl h⟩)
    .by_cases e4:a.2.1=b.2.1
     .rcases Ql (b:=b.2.2) h with h|h
      .exact .inl (.inr ⟨f,.inr ⟨e4,h⟩⟩)
      .exact .inr (.inr ⟨d,.inr ⟨by rw[<-e4];exact e3,h⟩⟩)
     .cases h3:Dg a.2.1 b.2.1 with
      |true=>exact .inl (.inr ⟨f,.inl rfl⟩)
      |false=>
       cases h4:Dg b.2.1 a.2.1 with
       |true=>exact .inr (.inr ⟨d,.inl (by rw[<-e3];exact h4)⟩)
       |false=>exact absurd (HS h3 h4) e4
theorem OW{a b c:Ky}(h1:TQ a b=true)(h2:TQ b c=true):TQ a c=true:=by
 rw[T2]at*;rcases h1 with h1|⟨e1,h1⟩
 .rcases h2 with h2|⟨e2,h2⟩
  .exact .inl (by lia)
  .exact .inl (by lia)
 .rcases h2 with h2|⟨e2,h2⟩
  .exact .inl (by lia)
  .refine .inr ⟨by lia,?_⟩;rcases h1 with h1|⟨f1,h1⟩
   .rcases h2 with h2|⟨f2,h2⟩
    .exact .inl (Qt h1 h2)
    .exact .inl (by rw[<-f2];exact h1)
   .rcases h2 with h2|⟨f2,h2⟩
    .exact .inl (by rw[f1];exact h2)
    .exact .inr ⟨f1.trans f2,Qt h1 h2⟩
theorem Cb(a:Ky):TQ a a=false:=by
 unfold TQ;rw[Y5 rfl,Y5 rfl];exact Fn _
theorem F7{a b:Ky}(h1:TQ a b=false)(h2:TQ b a=false):a=b:=by
 have e:=fun z=>Yi (h1.symm.trans (T2.mpr z))
 have d:=fun z=>Yi (h2.symm.trans (T2.mpr z))
 have c:a.1=b.1:=by
  rcases Int.lt_trichotomy a.1 b.1 with h|h|h
  .exact absurd (.inl h) e
  .exact h
  .exact absurd (.inl h) d
 have f:a.2.1=b.2.1:=HS (YY.mpr fun z=>e (.inr ⟨c,.inl z⟩)) (YY.mpr fun z=>d (.inr ⟨c.symm,.inl z⟩));have i:a.2.2=b.2.2:=HS (YY.mpr fun z=>e (.inr ⟨c,.inr ⟨f,z⟩⟩)) (YY.mpr fun z=>d (.inr ⟨c.symm,.inr ⟨f.symm,z⟩⟩));exact Ud c (Ud f i)
def L4:KeyOrd:=⟨Ky,TQ,Cb,fun _ _ _=>OW,fun _ _ _=>Px,fun _ _=>F7⟩
def J5(a b:Int×Ky):Bool:=if a.1=b.1 then TQ a.2 b.2 else decide (a.1 < b.1)
theorem NR{a b:Int×Ky}:J5 a b=true↔a.1 < b.1\/a.1=b.1/\TQ a.2 b.2=true:=by
 unfold J5
 by_cases h:a.1=b.1
 .rw[Y5 h];exact⟨fun z=>.inr ⟨h,z⟩,fun z=>z.elim (fun q=>by lia) fun q=>q.2⟩
 .rw[Y2 h,Yb];exact⟨.inl,fun z=>z.elim id fun q=>absurd q.1 h⟩
def De:KeyOrd where
 α:=Int×Ky
 blt:=J5
 irrefl a:=by unfold J5;rw[Y5 rfl];exact Cb _
 trans a b c h1 h2:=by
  rw[NR]at*;rcases h1 with h1|⟨e1,h1⟩
  .rcases h2 with h2|⟨e2,h2⟩
   .exact .inl (by lia)
   .exact .inl (by lia)
  .rcases h2 with h2|⟨e2,h2⟩
   .exact .inl (by lia)
   .exact .inr ⟨by lia,OW h1 h2⟩
 negTrans a b c h:=by
  rw[NR]at*;rw[NR]
  by_cases h1:a.1 < b.1
  .exact .inl (.inl h1)
  .by_cases h2:b.1 < c.1
   .exact .inr (.inl h2)
   .rcases h with h|⟨e,h⟩
    .lia
    .rcases Px (b:=b.2) h with h|h
     .exact .inl (.inr ⟨by lia,h⟩)
     .exact .inr (.inr ⟨by lia,h⟩)
 total a b h1 h2:=by
  have n1:=fun z=>Yi (h1.symm.trans (NR.mpr z))
  have n2:=fun z=>Yi (h2.symm.trans (NR.mpr z))
  have e1:a.1=b.1:=by
   rcases Int.lt_trichotomy a.1 b.1 with h|h|h
   .exact absurd (.inl h) n1
   .exact h
   .exact absurd (.inl h) n2
  exact Ud e1 (F7 (YY.mpr fun z=>n1 (.inr ⟨e1,z⟩)) (YY.mpr fun z=>n2 (.inr ⟨e1.symm,z⟩)))
end L2
namespace HT
open PySem PyProof.Rows
def ltK:Int ⊕ Str->Int ⊕ Str->Bool
 | .inl a,.inl b=>decide (a < b)
 | .inr a,.inr b=>decide (a.cps.toList < b.cps.toList)
 |_,_=>false
def lexK:List (Int ⊕ Str)->List (Int ⊕ Str)->Bool
 |[],[]=>false
 |[],_::_=>true
 |_::_,[]=>false
 |x::xs,y::ys=>if x=y then lexK xs ys else ltK x y
inductive M5:List Value->List (Int ⊕ Str)->Prop where
 |nil:M5 [] []
 |int (a:Int) (t:Tok) {vs ks}:M5 vs ks->M5 (.int a t::vs) (.inl a::ks)
 |str (a:Str) (t:Tok) {vs ks}:M5 vs ks->M5 (.str a t::vs) (.inr a::ks)
theorem M5.length{vs:Wm}{ks:List (Int ⊕ Str)}(h:M5 vs ks):vs.length=ks.length:=by
 induction h with
 |nil=>rfl
 |int _ _ _ ih=>simp[ih]
 |str _ _ _ ih=>simp[ih]
inductive RL:List (Int ⊕ Str)->List (Int ⊕ Str)->Prop where
 |nil:RL [] []
 |int (a b:Int) {ks js}:RL ks js->RL (.inl a::ks) (.inl b::js)
 |str (a b:Str) {ks js}:RL ks js->RL (.inr a::ks) (.inr b::js)
theorem QR(x y:Int ⊕ Str)(xs ys):lexK (x::xs) (y::ys)=if x=y then lexK xs ys else ltK x y:=rfl
theorem m9(A:Wg)(s:We)(a:Str)(t:Tok)(c:Str)(u:Tok):∃e,SeqAt.EqAt A s (.str a t) (.str c u) e/\(e=true↔a=c):=
 ⟨(a==c),SeqAt.EqAt.str_str a t c u,by simp⟩
theorem bW(A:Wg)(s:We)(a:Str)(t:Tok)(c:Str)(u:Tok)(prog:Wc)(w:Wh)(E:W9)(Q:W9)(h:Q (.bool (decide (a.cps.toList < c.cps.toList))) s):
  wpAny (model prog w) A (richCompare .Lt (.str a t) (.str c u)) Q E s:=
 (W1 h:wpAny (model prog w) A (compareOp .Lt (.str a t) (.str c u)) Q E s)
section
open PySem.SeqAt
open PySem.AutoSeq1 (wpAny_loadPart')
open PySem.MeetsSeq PySem.MeetsSeq2 PySem.MeetsSeq3
theorem ZA(l b:Wk)(items items2:Array Value)(n n2:Nat)(dd dd2:Option Addr)(sl sl2:Array (Option Value))(ns ms:List (Int ⊕ Str))(hi:M5 items.toList ns)(hj:M5 items2.toList ms)(hsh:RL ns ms):
  Meets (Builtin.«tuple.__lt__» ⟨[.ref l,.ref b],[]⟩)
   (fun _ R s => s.heap.get? l = some { cls := .type "tuple", dict := dd, data := .seq items n, slots := sl } /\ s.heap.get? b = some { cls := .type "tuple", dict := dd2, data := .seq items2 n2, slots := sl2 } /\
    R (.ok (.ret (.bool (lexK ns ms)))) s) :=
 .of_wp fun prog w A R s h=>by
  obtain⟨j,g,d,tk,i⟩:=s;obtain⟨z,hb,h⟩:=h;have f2:=AutoSeq1.sub_tuple_tuple;have z1:items.size=ns.length:=by rw[<-hi.length];simp
  have z2:items2.size=ms.length:=by rw[<-hj.length];simp
  wp_walk using Xj z, Xj hb, wpAny_forIn_list _ (fun rest b s' => b.1 = none /\ s' = ⟨j, g, d, tk, i⟩ /\ ∃ (vs ws : List Value) (ns' ms' : List (Int ⊕ Str)), rest = vs.zip ws /\
   M5 vs ns' /\ M5 ws ms' /\ RL ns' ms' /\ ns'.length + items2.size = ms'.length + items.size /\ R (.ok (.ret (.bool (lexK ns' ms')))) ⟨j, g, d, tk, i⟩) _
  case turn=>
   rintro⟨y,x⟩ rest b s' ⟨hb',rfl,vs,ws,ns',ms',hz,hvi,hwi,hsh',hlen,hR⟩;cases hsh' with
   |nil=>
    cases hvi;rw[List.zip_nil_left]at hz;cases hz
   |int a c hs=>
    cases hvi with
    |int _ t hvi'=>
    cases hwi with
    |int _ u hwi'=>
     rw[UI]at hz;injection hz with hyx hrest;injection hyx with hy hx;subst hy hx;rw[QR]at hR;simp only[List.length_cons]at hlen;obtain⟨e,r,f⟩:=eqAt_int A.in1 ⟨j,g,d,tk,i⟩ a t c u;refine Y0 (r prog w _ _ ?_);cases e with
     |true=>
      rw[Y5 (YU Sum.inl (f.mp rfl))]at hR
      wp_walk
      exact⟨rfl,rfl,_,_,_,_,hrest,hvi',hwi',hs,by lia,hR⟩
     |false=>
      rw[Y2 (fun q=>absurd (f.mpr (UT q)) Yi)]at hR;have p:=rcLt_int A.in1 ⟨j,g,d,tk,i⟩ a t c u prog w
      wp_walk using p
      exact⟨_,rfl,by simpa[ltK] using hR⟩
   |str a c hs=>
    cases hvi with
    |str _ t hvi'=>
    cases hwi with
    |str _ u hwi'=>
     rw[UI]at hz;injection hz with hyx hrest;injection hyx with hy hx;subst hy hx;rw[QR]at hR;simp only[List.length_cons]at hlen;obtain⟨e,r,f⟩:=m9 A.in1 ⟨j,g,d,tk,i⟩ a t c u;refine Y0 (r prog w _ _ ?_);cases e with
     |true=>
      rw[Y5 (YU Sum.inr (f.mp rfl))]at hR
      wp_walk
      exact⟨rfl,rfl,_,_,_,_,hrest,hvi',hwi',hs,by lia,hR⟩
     |false=>
      rw[Y2 (fun q=>absurd (f.mpr (Sum.inr.inj q)) Yi)]at hR;have p:=bW A.in1 ⟨j,g,d,tk,i⟩ a t c u prog w
      wp_walk using p
      exact⟨_,rfl,by simpa[ltK] using hR⟩
  case fin=>
   rintro⟨b1,b2⟩ s' ⟨hb',rfl,vs,ws,ns',ms',hz,hvi,hwi,hsh',hlen,hR⟩;simp only at hb';subst hb';have v:lexK ns' ms'=decide (items.size < items2.size):=by
    cases hsh' with
    |nil=>
     simp only[List.length_nil]at hlen;exact(Yp (by lia)).symm
    |int a c hs=>
     cases hvi with
     |int _ t _=>
     cases hwi with
     |int _ u _=>rw[UI]at hz;cases hz
    |str a c hs=>
     cases hvi with
     |str _ t _=>
     cases hwi with
     |str _ u _=>rw[UI]at hz;cases hz
   rw[v]at hR
   wp_walk
   exact⟨_,rfl,by simpa[Builtin.Tuple.tupleCompareSizes] using hR⟩
  case h=>
   exact⟨rfl,rfl,items.toList,items2.toList,ns,ms,rfl,hi,hj,hsh,by lia,h⟩
end
section
variable{prog:Wc}{w:Wh}{A:Wg}{E:W9}{s:We}
theorem lt_tupKeys{l b:Wk}{items items2:Array Value}{ns ms:List (Int ⊕ Str)}{Q:W9}(hl:IsTup s.heap l items)(hb:IsTup s.heap b items2)(hi:M5 items.toList ns)(hj:M5 items2.toList ms)(hsh:RL ns ms)
  (hu:A.units < cLine) (h:Q (.bool (lexK ns ms)) s):wpAny (model prog w) A (compareOp .Lt (.ref l) (.ref b)) Q E s:=by
 obtain⟨⟨z,dd,v,r⟩,f,j,n,i⟩:=id hl;obtain⟨⟨y,p,q,e⟩,a,d,u,c⟩:=id hb;simp only at j i d c;subst j i d c;exact richCompare_meets_room (op:=.Lt) ⟨_,f,rfl⟩ ⟨_,a,rfl⟩ VR VI (VB _ _) (ZA l b items items2 n u dd p r e ns ms hi hj hsh)
  ⟨f,a,show Value.bool (lexK ns ms)≠Value.notImplemented/\Q (.bool (lexK ns ms)) s from⟨(fun x=>nomatch x),h⟩⟩ hu
end
end HT
namespace L2
open PySem PySem.Spec PyProof.Rows PySem.W
section
variable{prog:Wc}{w:Wh}{A:Wg}{E:W9}{s:We}{O:KeyOrd}{key:Nat->O.α}{κ:SortKind}{vs:Wm}
structure Ee(prog:Wc)(w:Wh)(h:Wn)(O:KeyOrd)(key:Nat->O.α)(κ:SortKind)(vs:Wm):Prop where
 kind:∀ (A:Wg) (s:We) (Q:SortKind->Shared->Prop),(∀b o,h.get? b=some o->s.heap.get? b=some o)->2 <=vs.length->Q κ s->wpAny (model prog w) A (keyKind' vs.toArray) Q (fun _ _=>False) s
 cmp:∀ (A:Wg) (s:We) (i j:Nat) (C:Bool->Shared->Prop),A.units < cLine->(∀b o,h.get? b=some o->s.heap.get? b=some o)->i < vs.length->j < vs.length->C (Dv O key i j) s->kas_ask prog w A κ vs i j C s
theorem Kp{a:Wk}{n:Nat}{P:PySem.Fin->Shared->Prop}{h₀:Wn}(ho:s.heap.get? a=some (seqObj "list" vs.toArray n))(ha0:h₀.objs.size <=a)(hk:∀b o,h₀.get? b=some o->s.heap.get? b=some o)
  (S:Ee prog w h₀ O key κ vs) (h64:vs.length < 64) (hu:A.units < cLine)
  (h:∀p:Array Nat,Jl vs.length p->Dt O key p vs.length->P (.done (.ret .none)) {s with heap:=sortedHeap s.heap a vs (List.toArray (p.toList.map fun i=>vs.getD i Value.none))}):
  wpAny (model prog w) A (Builtin.«list.sort» ⟨[.ref a],[]⟩) P E s:=by
 rw[list_sort_plain];have ha:a < s.heap.objs.size:=Ye ho;refine Y0 (listItems_at ho rfl ?_);refine Y0 (listUpdate_at ho rfl ?_ (by rw[Yh,YV];lia) (YF _));obtain⟨e1,r⟩:∃e1,(s.heap.update a (Obj.mapSeq fun _=>#[])).get? a=some (seqObj "list" #[] e1):=⟨_,get?_update_seq ho (fun _=>#[])⟩;refine Y0 (seqEpoch_at r rfl ?_);refine Y0 (VQ ?_ (by show vs.length <=_;rw[YV];lia));refine Y0 (Vt ?_ (YF _));refine YQ ?_;have d:(((s.heap.update a (Obj.mapSeq fun _=>#[])).push (seqObj "tuple" vs.toArray 0)).push (seqObj "list" #[] 0)).get? a=some (seqObj "list" #[] e1):=by
  rw[XV _ _ _ (by rw[size_push',Ut];exact Yj (Xh ha)),XV _ _ _ (by rw[Ut];exact Yj ha)];exact r
 have keep:∀b o,h₀.get? b=some o->(((s.heap.update a (Obj.mapSeq fun _=>#[])).push (seqObj "tuple" vs.toArray 0)).push (seqObj "list" #[] 0)).get? b=some o:=fun b o q=>by
  have hb:b < h₀.objs.size:=Ye q;have q':=hk b o q;have u:b < s.heap.objs.size:=Ye q';rw[XV _ _ _ (by rw[size_push',Ut];exact Yj (Xh u)),XV _ _ _ (by rw[Ut];exact Yj u),Heap.get?_update_ne _ _ _ _ (Yj (YG hb ha0))];exact q'
 show wpAny (model prog w) A _ P E {s with heap:=((s.heap.update a (Obj.mapSeq fun _=>#[])).push (seqObj "tuple" vs.toArray 0)).push (seqObj "list" #[] 0)};dsimp only;have hsz:vs.toArray.size=vs.length:=by simp
 by_cases h2:vs.toArray.size < 2
 .rw[Y5 h2,Y5 h2];refine Y0 (Y4 ?_);rw[StateT.run_pure];refine Y0 (Y4 ?_);dsimp only;refine Y0 (seqEpoch_at d rfl ?_);refine Y0 (listUpdate_at d rfl ?_ (YF _) (hsz2:=by rw[Array.size_map];show(pairsOf vs).size <=_;rw[pairsOf_size,YV];lia));simp only[bne_self_eq_false,Bool.false_eq_true,if_false];have e:Array.map (fun x:Keyed=>x.2) (vs.toArray.zip vs.toArray)=List.toArray ((List.toArray (List.range vs.length)).toList.map fun i=>vs.getD i Value.none):=by
   apply Array.toList_inj.mp;simp only[j0];rw[Array.toList_map];show List.map (fun x:Keyed=>x.2) (vs.toArray.zip vs.toArray).toList=vs;rw[Array.toList_zip];show List.map Prod.snd (List.zip vs vs)=vs;rw[List.map_snd_zip];exact Y6 _
  have:=h (List.toArray (List.range vs.length)) (Array.Perm.refl _) (fun i j hij hj=>by obtain rfl:i=j:=(by lia);exact Xx _);rw[<-e]at this;exact Y4 this
 .rw[Y2 h2,Y2 h2];have v:2 <=vs.length:=by lia
  refine Y0 (X9 (S.kind A _ (fun κ' s' => κ' = κ /\ s' = { s with heap := ((s.heap.update a (Obj.mapSeq fun _ => #[])).push (seqObj "tuple" vs.toArray 0)).push (seqObj "list" #[] 0) }) keep v ⟨rfl, rfl⟩) ?_ fun _ _ x => x.elim);rintro _ _ ⟨rfl, rfl⟩;refine Y0 (X9 (kat_run (E := E) (Q := fun c s' => ∃ p : Array Nat, p.size = vs.length /\ arrOf c = p.map (kas_item (vs.toArray.zip vs.toArray)) /\ failedOf c = none /\ Jl vs.length p /\ Dt O key p vs.length /\ s' = { s with heap := ((s.heap.update a (Obj.mapSeq fun _ => #[])).push (seqObj "tuple" vs.toArray 0)).push (seqObj "list" #[] 0) })
   (G:=fun p s'=>Jl vs.length p/\Dt O key p vs.length/\s'={s with heap:=((s.heap.update a (Obj.mapSeq fun _=>#[])).push (seqObj "tuple" vs.toArray 0)).push (seqObj "list" #[] 0)})
   rfl v h64 (fun p' c s' a1 a2 a3 a4=>⟨p',a1,a2,a3,a4.1,a4.2.1,a4.2.2⟩)
   (Mr.wp (N := vs.length) (lt := Dv O key) (Q := fun p => Jl vs.length p /\ Dt O key p vs.length) (fun i j C hi hj hC => S.cmp A _ i j C hu keep hi hj hC) (fun p f => ⟨f.1, f.2, rfl⟩) (dQ (by lia) fun p b1 b2 => ⟨b1, b2⟩))) ?_ fun _ _ e => e)
  rintro⟨⟨⟩,c⟩ s' ⟨p,f,har,hf,b1,b2,rfl⟩;dsimp only;have z:=kat_snds rfl har;have y:(List.toArray (p.toList.map fun i=>vs.getD i Value.none)).size=vs.length:=by rw[Yh,Y1,Array.length_toList,f]
  rw[z];refine Y0 (seqEpoch_at d rfl ?_);refine Y0 (listUpdate_at d rfl ?_ (YF _) (YD (W4 y) (by rw[YV];lia)));rw[hf];simp only[bne_self_eq_false,Bool.false_eq_true,if_false];exact Y4 (h p b1 b2)
theorem nC{l:Wk}{Q:W9}(hl:s.heap.IsList l vs.toArray)(S:Ee prog w s.heap O key κ vs)(h64:vs.length < 64)(hu:A.units+ 2 < cLine)
  (h:∀p:Array Nat,Jl vs.length p->Dt O key p vs.length->Q (.ref (s.heap.objs.size+ 1)) {s with heap:=sortedAll s.heap vs (List.toArray (p.toList.map fun i=>vs.getD i Value.none))}):
  wpAny (model prog w) A (call (.builtin "sorted") [.ref l]) Q E s:=by
 refine UA kind_sorted plain_sorted entry_sorted (args_sorted1 _) ?_;unfold Builtin.«sorted»;refine Y0 (m:=checkCount "sorted" 1 1 _) (Y4 ?_);refine Y0 (collect_list hl ?_ (by rw[YV];lia));refine Y0 (Vt ?_ (by rw[YV];lia));have a:((s.heap.push (seqObj "list" #[] 0)).update s.heap.objs.size (Obj.mapSeq (·++vs.toArray))).objs.size=s.heap.objs.size+ 1:=by
  rw[Ut,size_push']
 have d:(((s.heap.push (seqObj "list" #[] 0)).update s.heap.objs.size (Obj.mapSeq (·++vs.toArray))).push (seqObj "list" vs.toArray 0)).get? (s.heap.objs.size+ 1)=some (seqObj "list" vs.toArray 0):=by
  rw[<-a];exact Yc _ rfl
 have keep:∀b o,s.heap.get? b=some o->(((s.heap.push (seqObj "list" #[] 0)).update s.heap.objs.size (Obj.mapSeq (·++vs.toArray))).push (seqObj "list" vs.toArray 0)).get? b=some o:=fun b o q=>by
  have c:b < s.heap.objs.size:=Ye q;rw[XV _ _ _ (by rw[a];exact Yj (Xh c)),Heap.get?_update_ne _ _ _ _ (Yj c),XV _ _ _ (Yj c)];exact q
 show wpAny _ _ _ _ _ {s with heap:=((s.heap.push (seqObj "list" #[] 0)).update s.heap.objs.size (Obj.mapSeq (·++vs.toArray))).push (seqObj "list" vs.toArray 0)};rw[a];refine Y0 (YQ (YR slot_list_sort ⟨_,d,rfl⟩ entry_list_sort (Kp (h₀:=s.heap) d (YL _) keep S h64 (by show A.units+ 1+ 1 < cLine;lia) fun p f e=>⟨_,rfl,?_⟩) (args_list_sort _)));exact Y4 ⟨_,rfl,h p f e⟩
end
def N8(h:Wn)(v:Wj)(k:Ky):Prop:=∃a t u r,v= .ref a/\IsTup h a #[.int k.1 t,.str k.2.1 u,.str k.2.2 r]
def Ng(h:Wn)(v:Wj)(p:Int×Ky):Prop:=∃a t b,v= .ref a/\IsTup h a #[.int p.1 t,.ref b]/\N8 h (.ref b) p.2
theorem IsTup.keep{h h':Wn}{a:Wk}{its:Array Value}(k:∀b o,h.get? b=some o->h'.get? b=some o)(x:IsTup h a its):IsTup h' a its:=by
 obtain⟨o,h1,h2⟩:=x;exact⟨o,k _ _ h1,h2⟩
theorem N8.keep{h h':Wn}{v:Wj}{k:Ky}(kp:∀b o,h.get? b=some o->h'.get? b=some o)(x:N8 h v k):N8 h' v k:=by
 obtain⟨a,t,u,r,e,h1⟩:=x;exact⟨a,t,u,r,e,IsTup.keep kp h1⟩
theorem Ng.keep{h h':Wn}{v:Wj}{p:Int×Ky}(kp:∀b o,h.get? b=some o->h'.get? b=some o)(x:Ng h v p):Ng h' v p:=by
 obtain⟨a,t,b,e,h1,h2⟩:=x;exact⟨a,t,b,e,IsTup.keep kp h1,h2.keep kp⟩
section
variable{prog:Wc}{w:Wh}{A:Wg}{E:W9}{s:We}
theorem SO{x y:Str}{t u:Tok}{Q:Bool->Shared->Prop}{b:Bool}{i:Nat}(h:Q (Dg x y) s):wpAny (model prog w) A (oneLt' (b && i+ 1==0) (.str x t) (.str y u)) Q E s:=by
 rw[show(b && i+ 1==0)=false by simp];exact kat_one _ _ (W1 h)
theorem SB{x y:Wj}{k j:Ky}{Q:W9}(hx:N8 s.heap x k)(hy:N8 s.heap y j)(hu:A.units < cLine)(h:Q (.bool (TQ k j)) s):wpAny (model prog w) A (compareOp .Lt x y) Q E s:=by
 obtain⟨a,t,u,r,rfl,h1⟩:=hx;obtain⟨b,d,c,f,rfl,h2⟩:=hy;refine HT.lt_tupKeys (ns:=[.inl k.1,.inr k.2.1,.inr k.2.2]) (ms:=[.inl j.1,.inr j.2.1,.inr j.2.2]) h1 h2 (.int _ _ (.str _ _ (.str _ _ .nil))) (.int _ _ (.str _ _ (.str _ _ .nil))) (.int _ _ (.str _ _ (.str _ _ .nil))) hu ?_;have e:HT.lexK [.inl k.1,.inr k.2.1,.inr k.2.2] [.inl j.1,.inr j.2.1,.inr j.2.2]=TQ k j:=by
  unfold TQ;simp only[HT.lexK,HT.ltK,VY,VZ]
  by_cases h1:k.1=j.1
  .rw[Y5 h1,Y5 h1]
   by_cases h2:k.2.1=j.2.1
   .rw[Y5 h2,Y5 h2]
    by_cases h3:k.2.2=j.2.2
    .rw[Y5 h3,h3,Fn]
    .rw[Y2 h3];rfl
   .rw[Y2 h2,Y2 h2];rfl
  .rw[Y2 h1,Y2 h1]
 rw[e];exact h
theorem SA{x y:Wj}{k j:Ky}{Q:Bool->Shared->Prop}(hx:N8 s.heap x k)(hy:N8 s.heap y j)(hu:A.units < cLine)(h:Q (decide (k=j)) s):wpAny (model prog w) A (eqBool x y) Q E s:=by
 obtain⟨a,t,u,r,rfl,o,e1,e2,n,z⟩:=hx;obtain⟨b,p,i,q,rfl,o',f,d,v,c⟩:=hy;refine wpAny_eqBool_tuple (knd:=WF prog w) (x:=[.inl k.1,.inr k.2.1,.inr k.2.2]) (y:=[.inl j.1,.inr j.2.1,.inr j.2.2]) hu ⟨o,_,n,e1,e2,z,Co (.cons ⟨t,rfl⟩ (.cons ⟨u,rfl⟩ (.cons ⟨r,rfl⟩ .nil)))⟩ ⟨o',_,v,f,d,c,Co (.cons ⟨p,rfl⟩ (.cons ⟨i,rfl⟩ (.cons ⟨q,rfl⟩ .nil)))⟩ ?_;have e:decide (([.inl k.1,.inr k.2.1,.inr k.2.2]:List WO)=[.inl j.1,.inr j.2.1,.inr j.2.2])=decide (k=j):=by
  rw[Yw,Yb,Yb];simp only[List.cons.injEq,VY,VZ,and_true];exact⟨fun h=>Ud h.1 (Ud h.2.1 h.2.2),fun h=>by rw[h];exact⟨rfl,rfl,rfl⟩⟩
 rw[e];exact h
theorem HI{R:Heap->Value->α->Prop}(hR:∀h v p,R h v p->∃a n t o its m,v= .ref a/\h.get? a=some o/\o.cls= .type "tuple"/\o.data= .seq its m/\its[0]?=some (.int n t)):∀{vs:Wm} {c:List α} {h:Wn},(∀ (i:Nat) v p,vs[i]?=some v->c[i]?=some p->R h v p)->vs.length=c.length->∃fs,KatTups h vs fs/\fs.length=vs.length/\∀f∈fs,∃n t,f=Value.int n t
 |[],c,h,_,e=>⟨[],trivial,rfl,fun f hf=>by simp at hf⟩
 |v::vs,[],h,_,e=>by simp at e
 |v::vs,p::c,h,hp,e=>by
  obtain⟨fs,k1,k2,k3⟩:=HI hR (vs:=vs) (c:=c) (h:=h) (fun i v p a b=>hp (i+ 1) v p (by simpa using a) (by simpa using b)) (by simpa using e);obtain⟨a,n,t,o,its,m,rfl,d,q,j,r⟩:=hR _ _ _ (hp 0 v p rfl rfl);refine⟨Value.int n t::fs,KatTups.cons d q j r k1,by simp[k2],fun f hf=>?_⟩;rcases Yl.mp hf with rfl|hf
  .exact⟨_,_,rfl⟩
  .exact k3 f hf
theorem Q6{vs:Wm}{c:List Ky}{h:Wn}(hp:∀ (i:Nat) v p,vs[i]?=some v->c[i]?=some p->N8 h v p)(hl:vs.length=c.length):
  Ee prog w h L4 (fun i=>c.getD i (0,"","")) (tuples' (Value.type "int" !=Value.type "tuple")) vs where
 kind A s Q hk h2 hQ:=by
  obtain⟨fs,k1,k2,k3⟩:=HI (R:=N8) (fun h v p ⟨a,t,u,r,e,o,d,hc,n,f⟩=>⟨a,p.1,t,o,_,n,e,d,hc,f,rfl⟩) (fun i v p e1 e2=>(hp i v p e1 e2).keep hk) hl;refine kat_kind (T:=Value.type "int") k1 (by lia) (fun v hv=>?_) (by decide) hQ;obtain⟨n,t,rfl⟩:=k3 v hv;exact Looks.of_pure rfl
 cmp A s i j C hu hk hi hj hC:=by
  have gi:vs[i]?=some (vs.getD i Value.none):=by rw[Y7 hi];simp[hi]
  have gj:vs[j]?=some (vs.getD j Value.none):=by rw[Y7 hj];simp[hj]
  have ci:c[i]?=some (c.getD i (0,"","")):=by rw[Y7 (by lia)];simp[show i < c.length by lia]
  have cj:c[j]?=some (c.getD j (0,"","")):=by rw[Y7 (by lia)];simp[show j < c.length by lia]
  obtain⟨a,t,u,r,e,o,d,hc,n,f⟩:=(hp i _ _ gi ci).keep hk;obtain⟨a',t',u',r',e',o',q,hc',n',z⟩:=(hp j _ _ gj cj).keep hk;unfold kas_ask;rw[e,e'];have b:C (TQ (c.getD i (0,"","")) (c.getD j (0,"",""))) s:=hC;generalize c.getD i (0,"","")=x at*;generalize c.getD j (0,"","")=y at*;refine kat_lt d f q z ?_;show KatLex prog w A _ _ C [(Value.int x.1 t,Value.int y.1 t'),(Value.str x.2.1 u,Value.str y.2.1 u'),(Value.str x.2.2 r,Value.str y.2.2 r')] 0 s;unfold TQ at b;refine kat_cons (Vx ?_)
  by_cases h1:x.1=y.1
  .rw[show(x.1==y.1)=true by simpa using h1];rw[Y5 h1]at b;refine kat_yes (kat_cons (Vy ?_))
   by_cases h2:x.2.1=y.2.1
   .rw[Yd h2];rw[Y5 h2]at b;refine kat_yes (kat_cons (Vy ?_))
    by_cases h3:x.2.2=y.2.2
    .rw[Yd h3];refine kat_yes (kat_nil ?_);rw[h3,Fn]at b;exact b
    .rw[Yp h3];exact kat_no (SO b)
   .rw[Yp h2];rw[Y2 h2]at b;exact kat_no (SO b)
  .rw[show(x.1==y.1)=false by simpa using h1];rw[Y2 h1]at b;exact kat_no (Z6 b)
theorem wX{vs:Wm}{c:List (Int×Ky)}{h:Wn}(hp:∀ (i:Nat) v p,vs[i]?=some v->c[i]?=some p->Ng h v p)(hl:vs.length=c.length):
  Ee prog w h De (fun i=>c.getD i (0,0,"","")) (tuples' (Value.type "int" !=Value.type "tuple")) vs where
 kind A s Q hk h2 hQ:=by
  obtain⟨fs,k1,k2,k3⟩:=HI (R:=Ng) (fun h v p ⟨a,t,b,e,⟨o,r,hc,n,u⟩,_⟩=>⟨a,p.1,t,o,_,n,e,r,hc,u,rfl⟩) (fun i v p e1 e2=>(hp i v p e1 e2).keep hk) hl;refine kat_kind (T:=Value.type "int") k1 (by lia) (fun v hv=>?_) (by decide) hQ;obtain⟨n,t,rfl⟩:=k3 v hv;exact Looks.of_pure rfl
 cmp A s i j C hu hk hi hj hC:=by
  have gi:vs[i]?=some (vs.getD i Value.none):=by rw[Y7 hi];simp[hi]
  have gj:vs[j]?=some (vs.getD j Value.none):=by rw[Y7 hj];simp[hj]
  have ci:c[i]?=some (c.getD i (0,0,"","")):=by rw[Y7 (by lia)];simp[show i < c.length by lia]
  have cj:c[j]?=some (c.getD j (0,0,"","")):=by rw[Y7 (by lia)];simp[show j < c.length by lia]
  obtain⟨a,t,b,e,⟨o,r,hc,n,u⟩,q⟩:=(hp i _ _ gi ci).keep hk;obtain⟨a',t',b',e',⟨o',z,hc',n',aa⟩,f⟩:=(hp j _ _ gj cj).keep hk;unfold kas_ask;rw[e,e'];have d:C (J5 (c.getD i (0,0,"","")) (c.getD j (0,0,"",""))) s:=hC;generalize c.getD i (0,0,"","")=x at*;generalize c.getD j (0,0,"","")=y at*;refine kat_lt r u z aa ?_;show KatLex prog w A _ _ C [(Value.int x.1 t,Value.int y.1 t'),(Value.ref b,Value.ref b')] 0 s;unfold J5 at d;refine kat_cons (Vx ?_)
  by_cases h1:x.1=y.1
  .rw[show(x.1==y.1)=true by simpa using h1];rw[Y5 h1]at d;refine kat_yes (kat_cons (SA q f hu ?_))
   by_cases h2:x.2=y.2
   .rw[Yd h2];refine kat_yes (kat_nil ?_);rw[h2,Cb]at d;exact d
   .rw[Yp h2];refine kat_no ?_;rw[show(((Value.type "int" !=Value.type "tuple") && (0+ 1==0)):Bool)=false by simp];exact kat_one _ _ (SB q f hu d)
  .rw[show(x.1==y.1)=false by simpa using h1];rw[Y2 h1]at d;exact kat_no (Z6 d)
end
def R3(k:Ky):List V:=[.int k.1,.str k.2.1,.str k.2.2]
section
variable{X:Cx}{pins:Wb}{s:We}{σ:St}{H:Hp}
theorem KJ{t:Wk}{k:Ky}(I:Wv X pins σ H s)(h:Ja X.K H t (R3 k)):N8 s.heap (.ref t) k:=by
 obtain⟨d,r,p,_⟩:=I.tuple h;cases r with
 |cons r1 r=>
  cases r with
  |cons r2 r=>
   cases r with
   |cons r3 r=>
    cases r;obtain⟨c,rfl⟩:=(show ∃t,_=Value.int k.1 t from r1);obtain⟨b,rfl⟩:=(show ∃t,_=Value.str k.2.1 t from r2);obtain⟨a,rfl⟩:=(show ∃t,_=Value.str k.2.2 t from r3);exact⟨t,c,b,a,rfl,p⟩
theorem SQ{t b:Wk}{n:Int}{k:Ky}(I:Wv X pins σ H s)(h:Ja X.K H t [.int n,.ref b])(hb:Ja X.K H b (R3 k)):Ng s.heap (.ref t) (n,k):=by
 obtain⟨c,r,p,_⟩:=I.tuple h;cases r with
 |cons r1 r=>
  cases r with
  |cons r2 r=>
   cases r;obtain⟨a,rfl⟩:=(show ∃t,_=Value.int n t from r1);cases r2;exact⟨t,a,b,rfl,p,KJ I hb⟩
end
section
variable{X:Cx}{K:Wi}
def F0(K:Wi)(O:KeyOrd)(d:O.α)(RA:Hp->V->O.α->Prop):List V->Hp->VK->Prop:=fun as H Q=>∃ (p:Wk) (xs:List V) (c:List O.α),as=[.ref p]/\WA K H p xs/\xs.length=c.length/\(∀ (i:Nat) (x:V) (q:O.α),xs[i]?=some x->c[i]?=some q->RA H x q)/\xs.length < 64/\
 ∀ (r:List Nat) l G,r.Perm (List.range xs.length)->(r.map fun i=>c.getD i d).Pairwise (fun a b=>O.blt b a=false)->H l=none->Ws H G->G l=some (.lst (r.map fun i=>xs.getD i .non))->Q (.ref l) G
theorem Z9{xs:List V}{its:Wm}(rv:WD xs its):∀r:List Nat,(∀i∈r,i < xs.length)->WD (r.map fun i=>xs.getD i .non) (r.map fun i=>its.getD i Value.none)
 |[],_=>.nil
 |i::r,hr=>by
  refine .cons ?_ (Z9 rv r fun j hj=>hr j (.tail _ hj));have hi:i < xs.length:=hr i (.head _);obtain⟨u,a,ru⟩:=rv.get (i:=i) (x:=xs[i]) (Y7 hi);have c:xs.getD i .non=xs[i]:=by simp[hi]
  have b:its.getD i Value.none=u:=by rw[X8,a];rfl
  show WJ (xs.getD i .non) (its.getD i Value.none);rw[c,b];exact ru
theorem IY{O:KeyOrd}{c:List O.α}{d:O.α}{pa:Array Nat}{n:Nat}(a1:Jl n pa)(a2:Dt O (fun i=>c.getD i d) pa n):(pa.toList.map fun i=>c.getD i d).Pairwise (fun a b=>O.blt b a=false):=by
 rw[List.pairwise_map,List.pairwise_iff_getElem];intro i j hi e h;have f:pa.size=n:=a1.size;have:=a2 i j (XE h) (by simpa[f] using e);have q:pa.getD i 0=pa.toList[i]:=by simp at hi;simp[Array.getD,hi]
 have p:pa.getD j 0=pa.toList[j]:=by simp at e;simp[Array.getD,e]
 unfold SK at this;rw[q,p]at this;exact this
theorem Zo{O:KeyOrd}{d:O.α}{κ:SortKind}{RA:Hp->V->O.α->Prop}{RV:Heap->Value->O.α->Prop}(h:X.K=K)(hu:X.A.units+ 64 < cLine)
  (hv:∀{pins s σ H x v q},Wv X pins σ H s->WJ x v->RA H x q->RV s.heap v q)
  (ask:∀{vs:Wm} {c:List O.α} {h:Wn},(∀ (i:Nat) v p,vs[i]?=some v->c[i]?=some p->RV h v p)->vs.length=c.length->Ee X.prog X.w h O (fun i=>c.getD i d) κ vs):WY X (.builtin "sorted") (F0 K O d RA):=by
 subst h;intro pins s σ H xs us Q I r hh;obtain⟨p,xs,c,rfl,hq,hlc,hp,h64,q⟩:=hh;obtain⟨u,rfl,rx⟩:=Dw r;cases rx;obtain⟨a,n,pl,hz⟩:=I.list hq;have y:xs.length=a.length:=n.length;have ab:∀ (i:Nat) v q,a[i]?=some v->c[i]?=some q->RV s.heap v q:=fun i v q e1 e2=>by
  have hi:i < a.length:=(Yq.mp e1).1;have ex:xs[i]?=some (xs[i]'(by lia)):=Y7 (by lia);obtain⟨u,hu,ru⟩:=n.get (i:=i) (x:=_) ex;rw[e1]at hu;cases hu;exact hv I ru (hp i _ q ex e2)
 refine nC pl.isList (ask ab (by lia)) (by lia) (by lia) fun j a1 a2=>?_
 obtain⟨e,he⟩:=sortedAll_at s.heap a (List.toArray (j.toList.map fun i=>a.getD i Value.none));have hf:H (s.heap.objs.size+ 1)=none:=I.hok.fresh (YL _);have f:j.toList.Perm (List.range xs.length):=by rw[y];exact XR.mp a1
 have hb:∀i∈j.toList,i < xs.length:=fun i hi=>by simpa using f.mem_iff.mp hi
 have aa:(j.toList.map fun i=>xs.getD i .non).length <=sizeLine:=by
  rw[Y1,f.length_eq,US];exact hz
 refine⟨.ref (s.heap.objs.size+ 1),upd H (s.heap.objs.size+ 1) (.lst (j.toList.map fun i=>xs.getD i .non)),I.laid (t':=s.toks) (fun b o z=>sortedAll_old z) (YL _) ?_,rfl,q _ _ _ f (IY a1 a2) hf (Mc hf) Jp⟩;refine⟨aa,j.toList.map fun i=>a.getD i Value.none,e,Z9 n _ hb,?_⟩;simpa using he
def C3(K:Wi):Hp->V->Int×Ky->Prop:=fun H x q=>∃t b,x= .ref t/\Ja K H t [.int q.1,.ref b]/\Ja K H b (R3 q.2)
def LN(K:Wi):=F0 K De ((0,0,"",""):Int×Ky) (C3 K)
theorem C8(hu:X.A.units+ 64 < cLine)(h:X.K=K):WY X (.builtin "sorted") (LN K):=by
 subst h;refine Zo (RV:=Ng) rfl hu (fun I r ⟨t,b,e,a,f⟩=>?_) fun c d=>wX c d
 subst e;cases r;exact SQ I a f
end
section
variable{prog:Wc}{w:Wh}{A:Wg}{d:Wk}{o:Obj}{es:Array DictEntry}{ep:Nat}
theorem Oa(hh:A.handled=none)(I:Wk)(hne:d≠I)(hdat:o.data= .dict es ep):
  Walks prog w A I [I,d] [I] es.size (fun i v=>∃e,es[i]?=some e/\v=e.key) (fun i h=>h.IsKeyIter I d i es.size ep/\h.get? d=some o) where
 sub:=fun b a=>by simp at a;simp[a]
 frame:=fun _ _ _ st n=>⟨let ⟨oi,a1,a2⟩:=st.1;⟨oi,n I (by simp) _ a1,a2⟩,n d (by simp) _ st.2⟩
 item:=fun i s Q E hi st c=>by
  refine Pr st.1 st.2 hdat hi fun h' j f=>?_
  exact c _ h' s.toks ⟨_,Xe hi,rfl⟩ ⟨j,f.extBut d o hne st.2⟩ fun b o a e=>f.extBut b o (fun h=>a (by simp[h])) e
 done:=fun s Q E st c=>QX hh st.1 st.2 hdat (Y6 _) fun h' p=>c h' s.toks fun b o a e=>p b o (fun h=>a (by simp[h])) e
 self:=fun _ _ _ _ st c=>wpAny_pyIter_keyiter st.1 c
theorem bM(lo:(d==sysModules)=false)(hc:o.ExactDict)(hdat:o.data= .dict es ep):KdlSrc prog w "dict" d d es.size (fun i v=>∃e,es[i]?=some e/\v=e.key) (fun h=>h.get? d=some o) where
 type:=fun _ a=>⟨o,a,hc.1⟩
 there:=fun _ a=>⟨Ye a,Ye a⟩
 keep:=fun _ _ a c=>c d (.inl rfl) o a
 notList:=by decide
 notTuple:=by decide
 hint:=fun _ _ _ _ a b=>kdl_hint_dict ⟨o,a,hc.1⟩ b
 iter:=fun _ _ f a=>⟨_,_,(fun _ _ b=>SZ lo a hc hdat b),Oa f _ (Yj (Ye a)) hdat,⟨⟨_,Yc _ rfl,rfl,rfl⟩,Y8 _ a⟩⟩
end
section
variable{X:Cx}
def FD:List V->Hp->VK->Prop:=fun as H Q=>∃ (a:Wk) (kvs:List (List WO×V)) (c:List Ky),as=[V.ref a]/\H a=some (.dT kvs)/\kvs.map (·.1)=c.map (fun k=>[Sum.inl k.1,Sum.inr k.2.1,Sum.inr k.2.2])/\c.length < 64/\
 ∀ (ks:List Ky) (ts:List Addr) l G,ks.Perm c->ks.Pairwise (fun a b=>TQ b a=false)->ts.length=ks.length->(∀ (i:Nat) t k,ts[i]?=some t->ks[i]?=some k->H t=some (.tup (R3 k)))->H l=none->Ws H G->G l=some (.lst (ts.map V.ref))->Q (.ref l) G
theorem tN(hc:X.calm=true)(hu:X.A.units+ 64 < cLine):WY X (.builtin "sorted") FD:=by
 intro pins s σ H xs us Q I r h;obtain⟨a,kvs,c,rfl,ha,hks,h64,q⟩:=h;obtain⟨u,rfl,rx⟩:=Dw r;cases rx;obtain⟨z,y,xs,r,o,es,ep,h1,h2,h3,h4,h5⟩:=(show WR X.prog X.w H s.heap a (.dT kvs) from I.hok a _ ha);have hxl:xs.length=es.size:=by rw[<-Array.length_toList,h4,Y1]
 have hkl:=Paired.length r;have hcl:c.length=es.size:=by
  have:=YU List.length hks;rw[Y1,Y1]at this;lia
 have hh:X.A.in1.handled=none:=I.ok.hd hc;refine UA kind_sorted plain_sorted entry_sorted (args_sorted1 _) ?_;unfold Builtin.«sorted»;refine Y0 (m:=checkCount "sorted" 1 1 _) (Y4 ?_);refine Y0 (kdu_collect (A:=X.A.in1) (bM (prog:=X.prog) (w:=X.w) y h2 h3) hh h1 (by rw[<-hxl,<-hkl];exact z) fun h' tk acc hk hacc=>?_);have I2:Wv X pins σ H {s with heap:=h',toks:=tk}:=I.kept hk;obtain⟨vs,evs⟩:∃vs,vs=acc.toList:=⟨_,rfl⟩;rw[<-evs];have hvl:vs.length=es.size:=by rw[evs,Array.length_toList];exact hacc.1
 have hat:∀ (i:Nat) v,vs[i]?=some v->∃t k,v=Value.ref t/\c[i]?=some k/\xs[i]?.map (·.2.1)=some t/\H t=some (.tup (R3 k)):=fun i v hv=>by
  rw[evs,Array.getElem?_toList]at hv;obtain⟨e,he,rfl⟩:=hacc.2 i v hv;have hlt:i < es.size:=(Uv.mp he).1;have hx:xs[i]?=some (xs[i]'(by lia)):=Y7 (by lia);obtain⟨v,hv,hb⟩:=KT.at' r hx;have hke:es.toList[i]?=(xs.map (entryOfKey (tupleKind (WF X.prog X.w))))[i]?:=by rw[h4]
  rw[Y9,hx,Array.getElem?_toList,he]at hke;have hkk:(kvs.map (·.1))[i]?=some xs[i].1:=by rw[Y9,hv];rfl
  rw[hks,Y9]at hkk;obtain⟨k,hk1,hk2⟩:=Yn.mp hkk;refine⟨xs[i].2.1,k,?_,hk1,by rw[hx];rfl,?_⟩
  .rw[Option.some.inj hke];rfl
  .rw[hb,<-hk2];rfl
 have hpr:∀ (i:Nat) v k,vs[i]?=some v->c[i]?=some k->N8 h' v k:=fun i v k e1 x=>by
  obtain⟨t,k',rfl,e3,_,ht⟩:=hat i v e1;rw[x]at e3;cases e3;exact KJ I2 (Ja.of ht)
 have hsl:vs.length <=sizeLine:=by rw[hvl,<-hcl,YV];lia
 refine Y0 (Vt ?_ hsl);have hoL:(h'.push (seqObj "list" vs.toArray 0)).get? h'.objs.size=some (seqObj "list" vs.toArray 0):=Yc _ rfl;have keep:∀b o,h'.get? b=some o->(h'.push (seqObj "list" vs.toArray 0)).get? b=some o:=fun b o q=>Y8 _ q
 have S:Ee X.prog X.w h' L4 (fun i=>c.getD i (0,"","")) (tuples' (Value.type "int" !=Value.type "tuple")) vs:=Q6 hpr (by lia);refine Y0 (YQ (YR slot_list_sort ⟨_,hoL,rfl⟩ entry_list_sort (Kp (h₀:=h') hoL (Y6 _) keep S (by lia) (by show X.A.units+ 1+ 1 < cLine;lia) fun p a1 a2=>⟨_,rfl,?_⟩) (args_list_sort _)));obtain⟨e,he⟩:=sortedHeap_at (n:=0) (vs:=vs) (out:=(List.map (fun i=>vs.getD i Value.none) p.toList).toArray) hoL;have hf:H h'.objs.size=none:=I2.hok.fresh (Y6 _);have f:p.toList.Perm (List.range c.length):=by rw[show c.length=vs.length by lia];exact XR.mp a1
 have hb:∀i∈p.toList,i < c.length:=fun i hi=>by simpa using f.mem_iff.mp hi
 obtain⟨d,eas⟩:∃d:List Addr,d=xs.map (·.2.1):=⟨_,rfl⟩;have hal:d.length=c.length:=by rw[eas,Y1];lia
 have has:∀i,i < c.length->vs.getD i Value.none= .ref (d.getD i 0)/\H (d.getD i 0)=some (.tup (R3 (c.getD i (0,"","")))):=fun i hi=>by
  have gi:vs[i]?=some (vs.getD i Value.none):=by rw[Y7 (by lia)];simp[show i < vs.length by lia]
  obtain⟨t,k,e1,x,e3,e4⟩:=hat i _ gi;have et:d.getD i 0=t:=by rw[eas,X8,Y9,e3];rfl
  have ek:c.getD i (0,"","")=k:=by rw[X8,x];rfl
  rw[et,ek];exact⟨e1,e4⟩
 have hvals:WD ((p.toList.map fun i=>d.getD i 0).map V.ref) (p.toList.map fun i=>vs.getD i Value.none):=by
  have:∀r:List Nat,(∀i∈r,i < c.length)->WD ((r.map fun i=>d.getD i 0).map V.ref) (r.map fun i=>vs.getD i Value.none):=by
   intro r
   induction r with
   |nil=>exact fun _=>.nil
   |cons i r ih=>
    intro hr;refine .cons ?_ (ih fun j hj=>hr j (.tail _ hj));exact(has i (hr i (.head _))).1
  exact this _ hb
 have hln:(p.toList.map fun i=>d.getD i 0).length=c.length:=by rw[Y1,f.length_eq,US]
 refine Y4 ⟨_,rfl,.ref h'.objs.size,upd H h'.objs.size (.lst ((p.toList.map fun i=>d.getD i 0).map V.ref)),I2.laid (t':=tk) (fun b o z'=>?_) (Y6 _) ?_,rfl,q (p.toList.map fun i=>c.getD i (0,"","")) _ _ _ ?_ (IY a1 a2) ?_ ?_ hf (Mc hf) Jp⟩
 .have hlt:=Ye z';rw[sortedHeap_old (Yj hlt) (by rw[Xi];exact Xh hlt)];exact Y8 _ z'
 .exact⟨by rw[Y1,hln,YV];lia,_,e,hvals,he⟩
 .have h1:=f.map fun i=>c.getD i ((0,"",""):Ky)
  have h2:(List.range c.length).map (fun i=>c.getD i ((0,"",""):Ky))=c:=by
   apply Vz
   .simp
   .intro i hi _;have:i < c.length:=by simpa using hi
    simp[this]
  rw[h2]at h1;exact h1
 .rw[Y1,Y1]
 .intro i t k e1 x;rw[Y9]at e1 x;obtain⟨j,hj,rfl⟩:=Yn.mp e1;rw[hj]at x;cases x;exact(has j (hb j (Yx hj))).2
end
section
variable{caps:List (Option Nat)}{g:TG}{tc:TT}{te td:TE}{d:Wk}{kvs:List (List WO×V)}{σ:St}{H:Hp}{Q:VK}
theorem Pk(hd:H d=some (.dT kvs))(htd:∀R:VK,R (.ref d) H->td σ H R)(Pv:Nat->List V->St->Hp->Prop)(h0:∀Hf,(∀c,c≠d->Hf c=H c)->Pv 0 [] (N5 caps σ) Hf)(hl:∀i ys σ' Hf,Pv i ys σ' Hf->ys.length <=i)(hz:kvs.length <=100000)
  (hs:∀Hf o,(∀c u,H c=some u->c≠d->Hf c=some u)->Hf d=some (.frz o (.dT kvs))->∀i b k v ys σ',kvs[i]?=some (k,v)->Hf b=some (.tup (k.map kV))->Pv i ys σ' Hf->g (.ref b) σ' Hf fun σ2 H2=>tc σ2 H2 fun c H3=>if c=true then te σ2 H3 fun y H4=>Pv (i+ 1) (ys++[y]) σ2 H4/\Ws Hf H4 else Pv (i+ 1) ys σ2 H3/\Ws Hf H3)
  (he:∀ys σ' Hn,Pv kvs.length ys σ' Hn->(∀c u,H c=some u->c≠d->Hn c=some u)->∀p G,H p=none->Ws H G->(∀c u,Hn c=some u->(∀o w,u≠ .frz o w)->G c=some u)->G p=some (.lst ys)->Q (.ref p) G):Er (GQ caps (AT td) g tc te) σ H Q:=by
 refine⟨d,kvs,hd,htd _ ⟨d,kvs,rfl,hd,fun o=>?_⟩⟩;obtain⟨Hf,aa⟩:∃Hf,Hf=upd H d (.frz o (.dT kvs)):=⟨_,rfl⟩;rw[<-aa];have s:Hf d=some (.frz o (.dT kvs)):=by rw[aa,Jp]
 have hfo:∀c,c≠d->Hf c=H c:=fun c j=>by rw[aa,WT j]
 refine⟨fun i m ys σ' H'=>m=kvs.length - i/\i <=kvs.length/\Pv i ys σ' H'/\Ws Hf H',⟨kvs.length,by simp,YF _,h0 Hf hfo,Ws.refl _⟩,?_⟩;rintro i m ys σ' H' ⟨rfl,hi,p,r⟩;have hy:=hl i ys σ' H' p;have f:∀c u,H c=some u->c≠d->H' c=some u:=fun c u e n=>r c u (by rw[hfo c n];exact e)
 by_cases hlt:i < kvs.length
 .refine .inr ⟨⟨r _ _ s,hlt⟩,Ya (XE (Ya hy hlt)) (Tn hz),fun ys2 σ2 H2=>Pv (i+ 1) ys2 σ2 H2/\Ws H' H2,fun ys2 σ2 H2 q=>⟨kvs.length - (i+ 1),by omega,rfl,hlt,q.1,r.trans q.2⟩,fun x H2 y=>?_⟩;obtain⟨e,b,k,v,ex,hk,hb⟩:=y;subst e ex;exact hs H2 o f (r _ _ s) i b k v ys σ' hk hb p
 .have e:i=kvs.length:=by omega
  subst e;have h:=r _ _ s;refine .inl ⟨⟨h,Y6 _⟩,Jc (YD hy hz),fun p' a=>?_⟩;have n1:d≠p':=fun z=>by rw[<-z,h]at a;cases a
  refine⟨o,by rw[WT n1];exact h,he ys σ' H' p f p' _ ?_ (fun c u e=>?_) (fun c u e n=>?_) ?_⟩
  .cases e:H p' with
   |none=>rfl
   |some u=>rw[f p' u e (Ne.symm n1)]at a;cases a
  .by_cases j:c=d
   .rw[j,hd]at e;rw[j,Jp];exact e
   .have e':=f c u e j;rw[WT j,WT (fun z=>by rw[z,a]at e';cases e')];exact e'
  .have n:c≠d:=fun z=>by rw[z,h]at e;exact n _ _ (Option.some.inj e).symm
   rw[WT n,WT (fun z=>by rw[z,a]at e;cases e)];exact e
  .rw[WT (Ne.symm n1),Jp]
end
def Pw{α β:Type}(R:α->β->Prop)(xs:List α)(ys:List β):Prop:=xs.length=ys.length/\∀ (j:Nat) x y,xs[j]?=some x->ys[j]?=some y->R x y
theorem Pw.nil{α β:Type}{R:α->β->Prop}:Pw R [] []:=⟨rfl,fun j x y h=>by simp at h⟩
theorem Pw.imp{α β:Type}{R S:α->β->Prop}{xs:List α}{ys:List β}(h:Pw R xs ys)(f:∀x y,R x y->S x y):Pw S xs ys:=⟨h.1,fun j x y a b=>f x y (h.2 j x y a b)⟩
theorem Pw.app{α β:Type}{R:α->β->Prop}{xs xs':List α}{ys ys':List β}(h:Pw R xs ys)(h':Pw R xs' ys'):Pw R (xs++xs') (ys++ys'):=by
 refine⟨by rw[Ys,Ys,h.1,h'.1],fun j x y a b=>?_⟩;rw[List.getElem?_append]at a b
 by_cases hj:j < xs.length
 .rw[Y5 hj]at a;rw[Y5 (by rw[<-h.1];exact hj)]at b;exact h.2 j x y a b
 .rw[Y2 hj]at a;rw[Y2 (by rw[<-h.1];exact hj)]at b;rw[h.1]at a;exact h'.2 _ x y a b
theorem Pw.one {α β : Type} {R : α -> β -> Prop} {x : α} {y : β} (h : R x y) : Pw R [x] [y] := ⟨rfl, fun j a b c d => by
 cases j with
 |zero=>cases c;cases d;exact h
 | succ j => simp at c⟩
theorem Pw.snoc{α β:Type}{R:α->β->Prop}{xs:List α}{ys:List β}{x:α}{y:β}(h:Pw R xs ys)(hx:R x y):Pw R (xs++[x]) (ys++[y]):=h.app (.one hx)
theorem Pw.get{α β:Type}{R:α->β->Prop}{xs:List α}{ys:List β}(h:Pw R xs ys){i:Nat}{x:α}(hx:xs[i]?=some x):∃y,ys[i]?=some y/\R x y:=by
 have hi:i < xs.length:=(Yq.mp hx).1;have e:ys[i]?=some (ys[i]'(by rw[<-h.1];exact hi)):=Y7 (by rw[<-h.1];exact hi);exact⟨_,e,h.2 i x _ hx e⟩
theorem Pw.pick{α β:Type}{R:α->β->Prop}{xs:List α}{ys:List β}{a:α}{b:β}(h:Pw R xs ys):∀r:List Nat,(∀i∈r,i < xs.length)->Pw R (r.map fun i=>xs.getD i a) (r.map fun i=>ys.getD i b)
 |[],_=>.nil
 |i::r,hr=>by
  have hi:=hr i (.head _);have c:i < ys.length:=by rw[<-h.1];exact hi
  have f:xs[i]?=some (xs.getD i a):=by rw[Y7 hi];simp[hi]
  have e:ys[i]?=some (ys.getD i b):=by rw[Y7 c];simp[c]
  exact(Pw.one (h.2 i _ _ f e)).app (h.pick r fun j d=>hr j (.tail _ d))
theorem L9{α:Type}{c:List α}{d:α}{r:List Nat}(h:r.Perm (List.range c.length)):(r.map fun i=>c.getD i d).Perm c:=by
 have h1:=h.map fun i=>c.getD i d
 have h2:(List.range c.length).map (fun i=>c.getD i d)=c:=by
  apply Vz
  .simp
  .intro i hi _;have:i < c.length:=by simpa using hi
   simp[this]
 rw[h2]at h1;exact h1
section
variable{X:Cx}
def FZ:V->List V->Hp->VK->Prop:=fun x vs H Q=>∃ (a b:Wk) (k:List WO) (kvs:List (List WO×V)) (z:V),x= .ref a/\vs=[.ref b,z]/\H a=some (.dT kvs)/\H b=some (.tup (k.map kV))/\Q ((WM kvs k).getD z) H
theorem wU(hu:X.A.units+ 1 < cLine):ML X "dict.get" FZ:=by
 intro pins s σ H x vs v p Q I e f h;obtain⟨a,b,k,kvs,z,rfl,rfl,n,j,q⟩:=h;cases e;cases f with
 |cons r1 t1=>
  cases t1 with
  |cons r2 t2=>
   cases t2;cases r1;obtain⟨r,i,xs,d,dd⟩:=RN I.hok n;have c:=d.val k;refine U2 V4 dd.typeIs PySem.F.entry_dict_get (PySem.F.args_dict_get_3 _ _ _) (meetsH_dict_get_default (tupleKind (WF X.prog X.w)) a b i _) ⟨Xp hu,k,xs,Rm I.hok j,dd,?_⟩;refine⟨_,H,I.tok _,?_,q⟩;cases e1:WM kvs k with
   |none=>
    cases e2:atKey xs k with
    |none=>exact r2
    |some u=>rw[e1,e2]at c;exact c.elim
   |some y=>
    cases e2:atKey xs k with
    |none=>rw[e1,e2]at c;exact c.elim
    |some u=>rw[e1,e2]at c;exact c
end
def RI(a:Wk):Obj:={cls:=.type "dict_values",data:=.fields #[.ref a]}
section
variable{prog:Wc}{w:Wh}{A:Wg}{E:W9}{s:We}{d it v:Wk}{o:Obj}{es:Array DictEntry}{ep i n:Nat}
theorem uB(hd:(d==sysModules)=false):MeetsIn prog w (Builtin.«dict.values» ⟨[.ref d],[]⟩) (fun _ R s=>s.TypeIs (.ref d) "dict"/\R (.ok (.ret (.ref s.heap.objs.size))) {s with heap:=s.heap.push (RI d)}):=
 .of_wp fun A R s ⟨a,h⟩=>by
  refine Y0 ?_;unfold Builtin.Dict.noArgs;refine Y0 (Xn a (?_:wpAny _ _ (pure d) _ _ s));refine Y4 (?_:wpAny _ _ (Builtin.Dict.showsAll d >>=_) _ _ s);unfold Builtin.Dict.showsAll;rw[Y2 (by rw[hd];exact Yi)];exact Y0 (Y4 (Y0 (YM (Y4 ⟨_,rfl,h⟩))))
theorem rN{Q:W9}(hv:s.heap.get? v=some (RI d))(ho:s.heap.get? d=some o)(hdat:o.data= .dict es ep)
  (hQ:Q (.ref s.heap.objs.size) {s with heap:=s.heap.push {cls:=.type "dict_valueiterator",data:=.fields #[.ref d,.int 0 0,.int es.size 0,.int ep 0]}}):wpAny (model prog w) A (pyIter (.ref v)) Q E s:=by
 have a:s.TypeIs (.ref v) "dict_values":=⟨_,hv,rfl⟩
 refine UR a Vf (YR Vf a PySem.F.entry_dict_values_iter ?_ (PySem.F.args_dict_values_iter_1 _));unfold Builtin.«dict_values.__iter__»;refine Y0 (Y4 (Y0 ?_));unfold Builtin.Dict_items.dictOf;refine Y0 (Xz hv rfl (x:=.ref d) rfl (Y4 (Y0 ?_)));unfold Builtin.Dict_items.newIterator;refine Y0 (YS ho hdat (Y0 (Xm ho hdat ?_)));simp only[show Builtin.Dict_items.ownsTuple "dict_valueiterator"=false by decide,Bool.false_eq_true,if_false];refine YM (Y4 ⟨_,rfl,"dict_valueiterator",_,⟨_,Yc _ rfl,rfl⟩,Xb.lookup,?_⟩);simpa[rawInt] using hQ
theorem ZC{Q:Option Value->Shared->Prop}(hit:s.heap.IsValIter it d i es.size ep)(ho:s.heap.get? d=some o)(hdd:o.data= .dict es ep)(hlt:i < es.size)
  (hQ:∀h',h'.IsValIter it d (i+ 1) es.size ep->Heap.SameBut it s.heap h'->Q (some es[i].val) {s with heap:=h'}):wpAny (model prog w) A (pyNext (.ref it)) Q E s:=by
 obtain⟨h,b,f,e⟩:=id hit;have c:=hit.typeIs;unfold pyNext;refine Y0 (XT (X7 (name:=Str.ofString "__next__") c Xb (YR Xb c UD ?_ (Uw _))));refine Y0 (Y4 (Y0 (Y0 ?_)));refine Y0 (XI c (Y4 (Y0 (Uo b e ?_))));simp only[show Builtin.Dict_items.ownsTuple "dict_valueiterator"=false by decide,Bool.false_eq_true,if_false];refine(?_:wpAny _ _ (if(Value.ref d==Value.none)=true then _ else _) _ _ s);rw[Y2 (show ¬((Value.ref d==Value.none)=true) from fun z=>Bool.noConfusion z)];refine Y0 (Y4 (Y0 (YS ho hdd ?_)));rw[Y2 (by simp)];refine Y0 (Y4 (Y0 (Xm ho hdd ?_)));rw[Y2 (by simp)];refine Y4 ?_;simp only[show ¬((i:Int) < 0) by omega,if_false,YW,Xe hlt];refine Y0 (Y0 (XI c (Y4 (Y0 (V5 c ?_)))));refine(?_:wpAny _ _ (setField (.ref it) 1 (rawInt ((i:Int)+ 1)) >>=_) _ _ s);refine Y0 (UP b e (by simp) ?_);have a:(s.heap.update it (Obj.mapFields (·.setIfInBounds 1 (rawInt ((i:Int)+ 1))))).IsValIter it d (i+ 1) es.size ep:=
  ⟨_,X3 _ b (Obj.isFreed_of_fields (UH e _)),(Obj.cls_mapFields ..).trans f,by rw[UH e];simp[rawInt]⟩
 refine Y0 (YQ (Y0 (V5 (s:={s with heap:=s.heap.update it (Obj.mapFields (·.setIfInBounds 1 (rawInt ((i:Int)+ 1))))}) a.typeIs ?_)));refine Y0 (V5 (s:={s with heap:=s.heap.update it (Obj.mapFields (·.setIfInBounds 1 (rawInt ((i:Int)+ 1))))}) a.typeIs ?_);refine(?_:wpAny _ _ (pure es[i].val) _ _ _);exact Y4 (Y4 ⟨_,rfl,Y4 (hQ _ a (X2 ..))⟩)
theorem mY{Q:Option Value->Shared->Prop}(hh:A.handled=none)(hit:s.heap.IsValIter it d i es.size ep)(ho:s.heap.get? d=some o)(hdd:o.data= .dict es ep)(hge:es.size <=i)
  (hQ:∀h',Heap.ExtBut it s.heap h'->Q none {s with heap:=h'}):wpAny (model prog w) A (pyNext (.ref it)) Q E s:=by
 obtain⟨h,e,j,f⟩:=id hit;have c:=hit.typeIs;unfold pyNext;refine Y0 (XT (X7 (name:=Str.ofString "__next__") c Xb (YR Xb c UD ?_ (Uw _))));refine Y0 (Y4 (Y0 (Y0 ?_)));refine Y0 (XI c (Y4 (Y0 (Uo e f ?_))));simp only[show Builtin.Dict_items.ownsTuple "dict_valueiterator"=false by decide,Bool.false_eq_true,if_false];refine(?_:wpAny _ _ (if(Value.ref d==Value.none)=true then _ else _) _ _ s);rw[Y2 (show ¬((Value.ref d==Value.none)=true) from fun z=>Bool.noConfusion z)];refine Y0 (Y4 (Y0 (YS ho hdd ?_)));rw[Y2 (by simp)];refine Y0 (Y4 (Y0 (Xm ho hdd ?_)));rw[Y2 (by simp)];refine Y4 ?_;simp only[show ¬((i:Int) < 0) by omega,if_false,YW,UW hge];refine Y0 (Y0 (XI c (Y4 ?_)));refine(?_:wpAny _ _ (setField (.ref it) 0 .none >>=_) _ _ s);refine Y0 (UP e f (by simp) ?_);refine(?_:wpAny _ _ (newExc (.type "StopIteration") [] >>=_) _ _ _);refine Y0 ?_;simp only[newExc,newTuple];refine Y0 (YM (Y0 (m:=firstArgMember _ _) (UV (a:=Value.none) (by first|rfl|(simp only[firstArgMember];rfl)) (YM ?_ (by size_fits)))) (by size_fits));simp only[raiseNew];refine Y0 (wpAny_handled ?_);rw[show A.in1.handled=none from hh];refine Y0 (Y4 (wpAny_throw ?_));exact Y0 (V2 (T:="StopIteration") (b:=true) ⟨_,Yc _ rfl,rfl⟩ Vk (Y4 (hQ _ (((X2 ..).extBut.push _).push _))))
end
def QJ(d:Wk)(o:Obj)(kvs:List (List WO×V)):It:=
 ⟨fun i H=>H d=some (.frz o (.dT kvs))/\i < kvs.length,fun i H x H'=>H'=H/\∃k,kvs[i]?=some (k,x),fun i H=>H d=some (.frz o (.dT kvs))/\kvs.length <=i⟩
theorem KT.val'{H:Hp}:∀{kvs:List (List WO×V)} {xs:List (List WO×Addr×Value)},KT H kvs xs->∀{i:Nat} {x:List WO×Addr×Value},xs[i]?=some x->∃v,kvs[i]?=some (x.1,v)/\WJ v x.2.2:=by
 intro kvs xs r
 induction r with
 |nil=>intro i x h;simp at h
 |@cons p q ps qs hq t ih=>
  intro i x h;cases i with
  |zero=>
   cases h;exact⟨p.2,by rw[List.getElem?_cons_zero,<-hq.1],hq.2.2⟩
  |succ i=>
   rw[List.getElem?_cons_succ]at h ⊢;exact ih h
theorem dU{P:Wc}{w:Wh}{K:Wi}{tg:Wo}{o:Obj}{kvs:List (List WO×V)}{es:Array DictEntry}{ep:Nat}(d it:Wk)(hdat:o.data= .dict es ep)(hsz:es.size=kvs.length):Rq P w K tg (QJ d o kvs) [it] it (fun i h=>h.IsValIter it d i es.size ep) where
 mem:=by simp
 obj:=fun i h st b a=>by
  have e:b=it:=by simpa using a
  subst e;obtain⟨o,e,c,d⟩:=st;exact⟨o,e,fun v z=>by rw[d]at z;cases z⟩
 keep:=fun i h h' st k=>by
  obtain⟨q,e,r⟩:=st;exact⟨q,k it (by simp) q e,r⟩
 item:=by
  intro X hP u hK hc i pins s σ H E I j st x;subst hP u hK;obtain⟨hF,hi⟩:=x;obtain⟨f0,f1,f2,f3,f4,f5⟩:=j it (by simp);obtain⟨f,hob⟩:=(show s.heap.get? d=some o/\WR X.prog X.w H s.heap d (.dT kvs) from I.hok d _ hF);obtain⟨z,y,xs,r,o',es',ep',q1,q2,q3,q4,q5⟩:=hob;rw[f]at q1;cases q1;rw[hdat]at q3;cases q3;have p:i < es.size:=by omega
  refine ZC st f hdat p fun h' n sb=>?_
  have I1:Wv X pins σ H {s with heap:=h'}:=I.turned (t':=s.toks) (fun b o a e=>(sb.2 b a).trans e) f0 f1 f3 f4 f5;obtain⟨q,e,c,dd⟩:=id n;have hxl:xs.length=es.size:=by rw[<-Array.length_toList,q4,Y1]
  have hx:xs[i]?=some xs[i]:=Y7 (by omega);obtain⟨v,hv,a⟩:=KT.val' r hx;have hk:es[i].val=xs[i].2.2:=by
   have:es.toList[i]?=(xs.map (entryOfKey (tupleKind (WF X.prog X.w))))[i]?:=by rw[q4]
   rw[Y9,hx,Array.getElem?_toList,Xe p]at this;rw[Option.some.inj this];rfl
  exact⟨_,rfl,A5 (s:={s with heap:=h'}) e c dd (by decide) ⟨v,H,I1,by rw[hk];exact a,⟨rfl,_,hv⟩,n,fun b a=>(j b a).1⟩⟩
 done:=by
  intro X hP u hK hc i pins s σ H E I j st x;subst hP u hK;obtain⟨hF,hi⟩:=x;obtain⟨f0,f1,f2,f3,f4,f5⟩:=j it (by simp);have f:s.heap.get? d=some o:=(show s.heap.get? d=some o/\WR X.prog X.w H s.heap d (.dT kvs) from I.hok d _ hF).1;exact mY (I.ok.hd hc) st f hdat (by omega) fun h' eb=>⟨rfl,I.turned (t':=s.toks) (fun b o a e=>eb b o a e) f0 f1 f3 f4 f5⟩
 self:=fun A i s Q E st h=>by
  exact wpAny_pyIter_valiter st h
section
variable{X:Cx}{K:Wi}
def Ko:V->List V->Hp->VK->Prop:=fun x vs H Q=>∃ (a:Wk) (kvs:List (List WO×V)),x= .ref a/\vs=[]/\H a=some (.dT kvs)/\∀v G,H v=none->Ws H G->G v=some (.frz (RI a) (.own a))->Q (.ref v) G
theorem Hm:ML X "dict.values" Ko:=by
 intro pins s σ H x vs v p Q I e f h;obtain⟨a,kvs,rfl,rfl,j,q⟩:=h;cases e;cases f;obtain⟨r,i,xs,n,dd⟩:=RN I.hok j;have d:H s.heap.objs.size=none:=I.hok.fresh (Y6 _);have c:(s.heap.push (RI a)).get? s.heap.objs.size=some (RI a):=Yc _ rfl;refine U2 U4 dd.typeIs PySem.F.entry_dict_values (PySem.F.args_dict_values_1 _) (uB i) ⟨dd.typeIs,?_⟩;exact⟨.ref s.heap.objs.size,upd H s.heap.objs.size (.frz (RI a) (.own a)),I.laid (t':=s.toks) (fun b o z=>Y8 _ z) (Y6 _) ⟨c,_,c⟩,rfl,q _ _ d (Mc d) Jp⟩
def AU(td:TE):TI:=fun σ H R=>td σ H fun x H1=>∃v a kvs,x= .ref v/\H1 v=some (.frz (RI a) (.own a))/\H1 a=some (.dT kvs)/\∀o,R (QJ a o kvs) (upd H1 a (.frz o (.dT kvs)))
theorem L0{tg e:Wo}{td:TE}(hl:PE X e td):PI X tg e (AU td):=by
 intro pins s σ H R I h;refine WW (hl pins s σ H _ I h) fun v c ⟨x,H1,f,u,i,a,kvs,ex,ev,p,q⟩=>?_
 subst ex;cases u;obtain⟨z,y,xs,r,o,es,ep,n,q2,j,q4,q5⟩:=(show WR X.prog X.w H1 c.heap a (.dT kvs) from f.hok a _ p);obtain⟨hv,_⟩:=(show c.heap.get? i=some (RI a)/\_ from f.hok i _ ev);have hxl:xs.length=es.size:=by rw[<-Array.length_toList,q4,Y1]
 have hkl:=Paired.length r;refine rN hv n j ?_;have d:=f.freeze p n;refine⟨c.heap.objs.size,[c.heap.objs.size],_,_,_,rfl,d.kept (t':=c.toks) fun b o e=>Y8 _ e,dU a _ j (by omega),⟨_,Yc _ rfl,rfl,rfl⟩,fun b hb=>?_,q o⟩;have e:b=c.heap.objs.size:=by simpa using hb
 subst e;exact d.fpOk (Y6 _) (d.hok.fresh (Y6 _))
end
section
variable{caps:List (Option Nat)}{g:TG}{tc:TT}{te td:TE}{d:Wk}{kvs:List (List WO×V)}{σ:St}{H:Hp}{Q:VK}
theorem LB(hd:H d=some (.dT kvs))(htd:∀R:VK,(∀v H1,H v=none->Ws H H1->H1 v=some (.frz (RI d) (.own d))->R (.ref v) H1)->td σ H R)(Pv:Nat->List V->St->Prop)(h0:Pv 0 [] (N5 caps σ))(hl:∀i ys σ',Pv i ys σ'->ys.length <=i)(hz:kvs.length <=100000)
  (hs:∀Hf o,(∀c u,H c=some u->c≠d->Hf c=some u)->Hf d=some (.frz o (.dT kvs))->∀i k v ys σ',kvs[i]?=some (k,v)->Pv i ys σ'->g v σ' Hf fun σ2 H2=>tc σ2 H2 fun c H3=>if c=true then te σ2 H3 fun y H4=>Pv (i+ 1) (ys++[y]) σ2/\H4=Hf else Pv (i+ 1) ys σ2/\H3=Hf)
  (he:∀ys σ',Pv kvs.length ys σ'->∀p G,H p=none->Ws H G->G p=some (.lst ys)->Q (.ref p) G):Er (GQ caps (AU td) g tc te) σ H Q:=by
 refine⟨d,kvs,hd,htd _ fun v0 H1 hv0 s e0=>⟨v0,d,kvs,rfl,e0,s _ _ hd,fun o=>?_⟩⟩;obtain⟨Hf,r⟩:∃Hf,Hf=upd H1 d (.frz o (.dT kvs)):=⟨_,rfl⟩;rw[<-r];have a:Hf d=some (.frz o (.dT kvs)):=by rw[r,Jp]
 have j:∀c,c≠d->Hf c=H1 c:=fun c b=>by rw[r,WT b]
 refine⟨fun i m ys σ' H'=>m=kvs.length - i/\i <=kvs.length/\Pv i ys σ'/\H'=Hf,⟨kvs.length,by simp,YF _,h0,rfl⟩,?_⟩;rintro i m ys σ' H' ⟨rfl,hi,p,rfl⟩;have hy:=hl i ys σ' p
 by_cases hlt:i < kvs.length
 .refine .inr ⟨⟨a,hlt⟩,Ya (XE (Ya hy hlt)) (Tn hz),fun aa σ2 H2=>Pv (i+ 1) aa σ2/\H2=H',fun aa σ2 H2 q=>⟨kvs.length - (i+ 1),by omega,rfl,hlt,q⟩,fun x H2 y=>?_⟩;obtain⟨e,k,hk⟩:=y;subst e;exact hs H2 o (fun c u h n=>by rw[j c n];exact s _ _ h) a i k x ys σ' hk p
 .have e:i=kvs.length:=by omega
  subst e;refine .inl ⟨⟨a,Y6 _⟩,Jc (YD hy hz),fun w f=>?_⟩;have n1:d≠w:=fun z=>by rw[<-z,a]at f;cases f
  have ab:H1 w=none:=by rw[<-j w (Ne.symm n1)];exact f
  refine⟨o,by rw[WT n1];exact a,he ys σ' p w _ (s.free ab) (fun c u e=>?_) ?_⟩
  .by_cases b:c=d
   .rw[b,hd]at e;rw[b,Jp];exact e
   .have e':=s _ _ e;rw[WT b,WT (fun z=>by rw[z,ab]at e';cases e'),j c b];exact e'
  .rw[WT (Ne.symm n1),Jp]
end
def Rt(a:Wk):Obj:={cls:=.type "dict_items",data:=.fields #[.ref a]}
section
variable{prog:Wc}{w:Wh}{A:Wg}{E:W9}{s:We}{d it v:Wk}{o:Obj}{es:Array DictEntry}{ep i n:Nat}{ok ov:Wj}
theorem wN(hd:(d==sysModules)=false):MeetsIn prog w (Builtin.«dict.items» ⟨[.ref d],[]⟩) (fun _ R s=>s.TypeIs (.ref d) "dict"/\R (.ok (.ret (.ref s.heap.objs.size))) {s with heap:=s.heap.push (Rt d)}):=
 .of_wp fun A R s ⟨a,h⟩=>by
  unfold Builtin.«dict.items»;refine Y0 ?_;unfold Builtin.Dict.noArgs;refine Y0 (Xn a (?_:wpAny _ _ (pure d) _ _ s));refine Y4 (?_:wpAny _ _ (Builtin.Dict.showsAll d >>=_) _ _ s);unfold Builtin.Dict.showsAll;rw[Y2 (by rw[hd];exact Yi)];exact Y0 (Y4 (Y0 (YM (Y4 ⟨_,rfl,h⟩))))
theorem xY{Q:W9}(hv:s.heap.get? v=some (Rt d))(ho:s.heap.get? d=some o)(hdat:o.data= .dict es ep)
  (hQ:Q (.ref s.heap.objs.size) {s with heap:=s.heap.push {cls:=.type "dict_itemiterator",data:=.fields #[.none,.bool false,.ref d,.int 0 0,.int es.size 0,.int ep 0,.none,.none]}}):wpAny (model prog w) A (pyIter (.ref v)) Q E s:=by
 have a:s.TypeIs (.ref v) "dict_items":=⟨_,hv,rfl⟩
 refine UR a Vl (YR Vl a PySem.F.entry_dict_items_iter ?_ (PySem.F.args_dict_items_iter_1 _));unfold Builtin.«dict_items.__iter__»;refine Y0 (Y4 (Y0 ?_));unfold Builtin.Dict_items.dictOf;refine Y0 (Xz hv rfl (x:=.ref d) rfl (Y4 (Y0 ?_)));unfold Builtin.Dict_items.newIterator;refine Y0 (YS ho hdat (Y0 (Xm ho hdat ?_)));simp only[show Builtin.Dict_items.ownsTuple "dict_itemiterator"=true by decide,if_true];refine YM (Y4 ⟨_,rfl,"dict_itemiterator",_,⟨_,Yc _ rfl,rfl⟩,Xf.lookup,?_⟩) (by simp only[sizeOk,Builtin.Dict_items.ownedTupleFields,Yh,Ys,List.length_cons,List.length_nil,YV];lia);simpa[rawInt,Builtin.Dict_items.ownedTupleFields] using hQ
theorem dA{Q:Option Value->Shared->Prop}(hit:IsItemIter s.heap it d i es.size ep ok ov)(ho:s.heap.get? d=some o)(hdd:o.data= .dict es ep)(hlt:i < es.size)
  (hQ : ∀ h', IsItemIterOut h' it d (i + 1) es.size ep es[i].key es[i].val s.heap.objs.size -> h'.get? s.heap.objs.size = some { cls := .type "tuple", data := .seq #[es[i].key, es[i].val] } ->
   (∀ b o, b ≠ it -> s.heap.get? b = some o -> h'.get? b = some o) -> Q (some (.ref s.heap.objs.size)) { s with heap := h' }) : wpAny (model prog w) A (pyNext (.ref it)) Q E s := by
 obtain⟨c,g,dr,tk,h⟩:=s;have j:Shared.TypeIs ⟨c,g,dr,tk,h⟩ (.ref it) "dict_itemiterator":=⟨_,hit,rfl⟩
 unfold pyNext;refine Y0 (XT (X7 (name:=Str.ofString "__next__") j Xf (YR Xf j UJ ?_ (UE _))));refine Y0 (Y4 (Y0 (Y0 ?_)));refine Y0 (XG j (Y4 (Y0 (Uo hit rfl ?_))));simp only[show Builtin.Dict_items.ownsTuple "dict_itemiterator"=true by decide,if_true];refine(?_:wpAny _ _ (if(Value.ref d==Value.none)=true then _ else _) _ _ _);rw[Y2 (show ¬((Value.ref d==Value.none)=true) from fun z=>Bool.noConfusion z)];refine Y0 (Y4 (Y0 (YS ho hdd ?_)));rw[Y2 (by simp)];refine Y0 (Y4 (Y0 (Xm ho hdd ?_)));rw[Y2 (by simp)];refine Y4 ?_;simp only[show ¬((i:Int) < 0) by lia,if_false,YW,Xe hlt];refine Y0 (Y0 (XG j (Y4 (Y0 (UX j ?_)))));refine(?_:wpAny _ _ (setField (.ref it) 3 (rawInt ((i:Int)+ 1)) >>=_) _ _ ⟨c,g,dr,tk,h⟩);refine Y0 (Xa hit (by simp) fun h1 p q=>?_);have q:Heap.SameBut it c h1:=q;have p:IsItemIter h1 it d (i+ 1) es.size ep ok ov:=by
  unfold IsItemIter;rw[show((i+ 1:Nat):Int)=(i:Int)+ 1 by lia];simpa[rawInt] using p
 have r:Shared.TypeIs ⟨h1,g,dr,tk,h⟩ (.ref it) "dict_itemiterator":=⟨_,p,rfl⟩
 refine Y0 (YQ (Y0 (UX r (Y0 (UX r ?_)))));refine(?_:wpAny _ _ (Builtin.Dict_items.pairFromOwner (.ref it) 6 es[i].key es[i].val) _ _ ⟨h1,g,dr,tk,h⟩);unfold Builtin.Dict_items.pairFromOwner;refine Y0 (VQ ?_);have z1:h1.objs.size=c.objs.size:=q.1;have hil:it < c.objs.size:=Ye hit;obtain⟨h2,f⟩:∃h2,h2=h1.push {cls:=.type "tuple",data:=.seq #[es[i].key,es[i].val]}:=⟨_,rfl⟩;have n:IsItemIter h2 it d (i+ 1) es.size ep ok ov:=by rw[f];exact Y8 _ p
 have t2:h2.get? c.objs.size=some {cls:=.type "tuple",data:=.seq #[es[i].key,es[i].val]}:=by rw[f,<-z1];exact Yc _ rfl
 have k2:∀b o,b≠it->c.get? b=some o->h2.get? b=some o:=fun b o a e=>by rw[f];exact Y8 _ (q.extBut b o a e)
 rw[z1];refine(?_:wpAny _ _ (Builtin.Dict_items.ownedTupleIsFree (.ref it) >>=_) _ _ ⟨h1.push {cls:=.type "tuple",data:=.seq #[es[i].key,es[i].val]},g,dr,tk,h⟩);rw[<-f];refine Y0 ?_;unfold Builtin.Dict_items.ownedTupleIsFree;refine Y0 (Xz n rfl (x:=.none) rfl (Y4 ?_));simp only[if_true];refine Y0 (Xz n rfl (x:=ok) rfl (Y0 (Xz n rfl (x:=ov) rfl ?_)));refine Y0 (Xa n (by simp) fun h3 f3 b3=>?_);have b3:Heap.SameBut it h2 h3:=b3;have f3:IsItemIter h3 it d (i+ 1) es.size ep es[i].key ov:=f3;refine Y0 (Xa f3 (by simp) fun y f4 b4=>?_);have b4:Heap.SameBut it h3 y:=b4;have f4:IsItemIter y it d (i+ 1) es.size ep es[i].key es[i].val:=f4;refine Y0 (Xa f4 (by simp) fun v f5 b5=>?_);have b5:Heap.SameBut it y v:=b5;have f5:IsItemIterOut v it d (i+ 1) es.size ep es[i].key es[i].val c.objs.size:=f5;refine Y0 (Xa f5 (by simp) fun u f6 b6=>?_);have b6:Heap.SameBut it v u:=b6;have k6:∀b o,b≠it->h2.get? b=some o->u.get? b=some o:=fun b o a e=>b6.extBut b o a (b5.extBut b o a (b4.extBut b o a (b3.extBut b o a e)))
 exact Y0 (Xy (Y4 (Y4 ⟨_,rfl,Y4 (hQ u f6 (k6 _ _ (Ug hil) t2) fun b o a e=>k6 b o a (k2 b o a e))⟩)))
theorem rD{Q:Option Value->Shared->Prop}(hh:A.handled=none)(hit:IsItemIter s.heap it d i es.size ep ok ov)(ho:s.heap.get? d=some o)(hdd:o.data= .dict es ep)(hge:es.size <=i)
  (hQ:∀h',Heap.ExtBut it s.heap h'->Q none {s with heap:=h'}):wpAny (model prog w) A (pyNext (.ref it)) Q E s:=by
 have c:s.TypeIs (.ref it) "dict_itemiterator":=⟨_,hit,rfl⟩
 unfold pyNext;refine Y0 (XT (X7 (name:=Str.ofString "__next__") c Xf (YR Xf c UJ ?_ (UE _))));refine Y0 (Y4 (Y0 (Y0 ?_)));refine Y0 (XG c (Y4 (Y0 (Uo hit rfl ?_))));simp only[show Builtin.Dict_items.ownsTuple "dict_itemiterator"=true by decide,if_true];refine(?_:wpAny _ _ (if(Value.ref d==Value.none)=true then _ else _) _ _ s);rw[Y2 (show ¬((Value.ref d==Value.none)=true) from fun z=>Bool.noConfusion z)];refine Y0 (Y4 (Y0 (YS ho hdd ?_)));rw[Y2 (by simp)];refine Y0 (Y4 (Y0 (Xm ho hdd ?_)));rw[Y2 (by simp)];refine Y4 ?_;simp only[show ¬((i:Int) < 0) by omega,if_false,YW,UW hge];refine Y0 (Y0 (XG c (Y4 ?_)));refine(?_:wpAny _ _ (setField (.ref it) 2 .none >>=_) _ _ s);refine Y0 (UP hit rfl (by simp) ?_);refine(?_:wpAny _ _ (newExc (.type "StopIteration") [] >>=_) _ _ _);refine Y0 ?_;simp only[newExc,newTuple];refine Y0 (YM (Y0 (m:=firstArgMember _ _) (UV (a:=Value.none) (by first|rfl|(simp only[firstArgMember];rfl)) (YM ?_ (by size_fits)))) (by size_fits));simp only[raiseNew];refine Y0 (wpAny_handled ?_);rw[show A.in1.handled=none from hh];refine Y0 (Y4 (wpAny_throw ?_));exact Y0 (V2 (T:="StopIteration") (b:=true) ⟨_,Yc _ rfl,rfl⟩ Vk (Y4 (hQ _ (((X2 ..).extBut.push _).push _))))
end
def PC(d:Wk)(o:Obj)(kvs:List (List WO×V)):It:=
 ⟨fun i H=>H d=some (.frz o (.dT kvs))/\i < kvs.length,fun i H x H'=>∃t b k y,x= .ref t/\H t=none/\Ws H H'/\H' t=some (.tup [.ref b,y])/\kvs[i]?=some (k,y)/\H b=some (.tup (k.map kV)),fun i H=>H d=some (.frz o (.dT kvs))/\kvs.length <=i⟩
theorem vQ{P:Wc}{w:Wh}{K:Wi}{elts:List Expr}{k:Nat}{pos:Pos}{o:Obj}{kvs:List (List WO×V)}{es:Array DictEntry}{ep:Nat}(d it:Wk)(hdat:o.data= .dict es ep)(hsz:es.size=kvs.length):Rq P w K (.Tuple elts k pos) (PC d o kvs) [it] it (fun i h=>∃ok ov,IsItemIter h it d i es.size ep ok ov) where
 mem:=by simp
 obj:=fun i h st b a=>by
  have e:b=it:=by simpa using a
  subst e;obtain⟨ok,ov,e⟩:=st;exact⟨_,e,fun v z=>by cases z⟩
 keep:=fun i h h' st k=>by
  obtain⟨ok,ov,e⟩:=st;exact⟨ok,ov,k it (by simp) _ e⟩
 item:=by
  intro X hP hw hK hc i pins s σ H E I f st hg;subst hP hw hK;obtain⟨hF,hi⟩:=hg;obtain⟨f0,f1,f2,f3,f4,f5⟩:=f it (by simp);obtain⟨j,hob⟩:=(show s.heap.get? d=some o/\WR X.prog X.w H s.heap d (.dT kvs) from I.hok d _ hF);obtain⟨z,y,xs,r,o',es',ep',q1,q2,q3,q4,q5⟩:=hob;rw[j]at q1;cases q1;rw[hdat]at q3;cases q3;have p:i < es.size:=by omega
  obtain⟨ok,ov,c⟩:=st;have q:it < s.heap.objs.size:=Ye c;refine dA c j hdat p fun h1 hout ht k1=>?_
  have hxl:xs.length=es.size:=by rw[<-Array.length_toList,q4,Y1]
  have hx:xs[i]?=some xs[i]:=Y7 (by omega);obtain⟨v,hv,a⟩:=KT.at' r hx;obtain⟨v',n,hrel⟩:=KT.val' r hx;rw[hv]at n;have ev:v'=v:=(YU (·.2) (Option.some.inj n)).symm;subst ev;have u:es[i]=entryOfKey (tupleKind (WF X.prog X.w)) xs[i]:=by
   have:es.toList[i]?=(xs.map (entryOfKey (tupleKind (WF X.prog X.w))))[i]?:=by rw[q4]
   rw[Y9,hx,Array.getElem?_toList,Xe p]at this;exact Option.some.inj this
  have hk:es[i].key= .ref xs[i].2.1:=by rw[u];rfl
  have hvv:es[i].val=xs[i].2.2:=by rw[u];rfl
  refine⟨_,rfl,wpAny_letOwnedTupleGo_items hout fun h2 hit2 sb=>?_⟩;have hn:H s.heap.objs.size=none:=I.hok.fresh (Y6 _);have kk:∀b o,b∉[it]->s.heap.get? b=some o->h2.get? b=some o:=fun b o a x=>by
   have aa:b≠it:=fun z=>a (by simp[z])
   exact sb.extBut b o aa (k1 b o aa x)
  have ht2:h2.get? s.heap.objs.size=some {cls:=.type "tuple",data:=.seq #[es[i].key,es[i].val]}:=sb.extBut _ _ (Ug q) ht;refine⟨.ref s.heap.objs.size,upd H s.heap.objs.size (.tup [.ref xs[i].2.1,v']),I.turnNew (t':=s.toks) f kk (Y6 _) ⟨by show 2 <=sizeLine;decide,[es[i].key,es[i].val],.cons hk (.cons (by rw[hvv];exact hrel) .nil),⟨_,ht2,rfl,0,rfl⟩⟩,rfl,⟨s.heap.objs.size,xs[i].2.1,_,v',rfl,hn,Mc hn,Jp,hv,a⟩,⟨_,_,hit2⟩,fun b a=>?_⟩;have hbn:=(f b a).1;have:b≠s.heap.objs.size:=fun z=>by
   have e:b=it:=by simpa using a
   rw[e]at z;exact Yj q z
  rw[WT this];exact hbn
 done:=by
  intro X hP hw hK hc i pins s σ H E I f st hg;subst hP hw hK;obtain⟨hF,hi⟩:=hg;have j:s.heap.get? d=some o:=(show s.heap.get? d=some o/\WR X.prog X.w H s.heap d (.dT kvs) from I.hok d _ hF).1;obtain⟨ok,ov,c⟩:=st;exact rD (I.ok.hd hc) c j hdat (by omega) fun h' eb=>⟨rfl,I.turnL (t':=s.toks) f fun b o a x=>eb b o (fun z=>a (by simp[z])) x⟩
 self:=fun A i s Q E st h=>by
  obtain⟨ok,ov,c⟩:=st;exact kcp_self c h
section
variable{X:Cx}{K:Wi}
def Ly:V->List V->Hp->VK->Prop:=fun x vs H Q=>∃ (a:Wk) (kvs:List (List WO×V)),x= .ref a/\vs=[]/\H a=some (.dT kvs)/\∀v G,H v=none->Ws H G->G v=some (.frz (Rt a) (.own a))->Q (.ref v) G
theorem rR:ML X "dict.items" Ly:=by
 intro pins s σ H x vs v p Q I e f h;obtain⟨a,kvs,rfl,rfl,j,q⟩:=h;cases e;cases f;obtain⟨r,i,xs,n,dd⟩:=RN I.hok j;have d:H s.heap.objs.size=none:=I.hok.fresh (Y6 _);have c:(s.heap.push (Rt a)).get? s.heap.objs.size=some (Rt a):=Yc _ rfl;refine U2 VC dd.typeIs PySem.F.entry_dict_items (PySem.F.args_dict_items_1 _) (wN i) ⟨dd.typeIs,?_⟩;exact⟨.ref s.heap.objs.size,upd H s.heap.objs.size (.frz (Rt a) (.own a)),I.laid (t':=s.toks) (fun b o z=>Y8 _ z) (Y6 _) ⟨c,_,c⟩,rfl,q _ _ d (Mc d) Jp⟩
def CO(td:TE):TI:=fun σ H R=>td σ H fun x H1=>∃v a kvs,x= .ref v/\H1 v=some (.frz (Rt a) (.own a))/\H1 a=some (.dT kvs)/\∀o,R (PC a o kvs) (upd H1 a (.frz o (.dT kvs)))
theorem ZP{elts:List Expr}{k:Nat}{pos:Pos}{e:Wo}{td:TE}(hl:PE X e td):PI X (.Tuple elts k pos) e (CO td):=by
 intro pins s σ H R I h;refine WW (hl pins s σ H _ I h) fun v c ⟨x,H1,f,u,i,a,kvs,ex,ev,p,q⟩=>?_
 subst ex;cases u;obtain⟨z,y,xs,r,o,es,ep,n,q2,j,q4,q5⟩:=(show WR X.prog X.w H1 c.heap a (.dT kvs) from f.hok a _ p);obtain⟨hv,_⟩:=(show c.heap.get? i=some (Rt a)/\_ from f.hok i _ ev);have hxl:xs.length=es.size:=by rw[<-Array.length_toList,q4,Y1]
 have hkl:=Paired.length r;refine xY hv n j ?_;have d:=f.freeze p n;refine⟨c.heap.objs.size,[c.heap.objs.size],_,_,_,rfl,d.kept (t':=c.toks) fun b o e=>Y8 _ e,vQ a _ j (by omega),⟨_,_,Yc _ rfl⟩,fun b hb=>?_,q o⟩;have e:b=c.heap.objs.size:=by simpa using hb
 subst e;exact d.fpOk (Y6 _) (d.hok.fresh (Y6 _))
end
end L2
namespace HT
open PySem PyProof.Rows
def LexG(A:Wg)(s:We):List (Value×Value)->Bool->Prop
 |[],r=>r=false
 |(x,y)::rest,r=>∃e,SeqAt.EqAt A s x y e/\(e=true->LexG A s rest r)/\(e=false->∀ (prog:Wc) (w:Wh) (E:W9) (Q:W9),Q (.bool r) s->wpAny (model prog w) A (richCompare .Lt x y) Q E s)
section
open PySem.SeqAt
open PySem.AutoSeq1 (wpAny_loadPart')
open PySem.MeetsSeq PySem.MeetsSeq2 PySem.MeetsSeq3
theorem vL(l b:Wk)(items items2:Array Value)(n n2:Nat)(dd dd2:Option Addr)(sl sl2:Array (Option Value))(r:Bool)(hsz:items.size=items2.size):
  Meets (Builtin.«tuple.__lt__» ⟨[.ref l,.ref b],[]⟩)
   (fun A R s => s.heap.get? l = some { cls := .type "tuple", dict := dd, data := .seq items n, slots := sl } /\ s.heap.get? b = some { cls := .type "tuple", dict := dd2, data := .seq items2 n2, slots := sl2 } /\
    LexG A.in1 s (items.toList.zip items2.toList) r /\ R (.ok (.ret (.bool r))) s) :=
 .of_wp fun prog w A R s h=>by
  obtain⟨f,g,d,tk,a⟩:=s;obtain⟨p,u,i,h⟩:=h;have v:=AutoSeq1.sub_tuple_tuple
  wp_walk using Xj p,Xj u,wpAny_forIn_list _ (fun rest b s'=>b.1=none/\s'=⟨f,g,d,tk,a⟩/\LexG A.in1 ⟨f,g,d,tk,a⟩ rest r) _
  case turn=>
   rintro⟨y,x⟩ rest b s' ⟨hb',rfl,hL⟩;obtain⟨e,q,h1,h2⟩:=hL;refine Y0 (q prog w _ _ ?_);cases e with
   |true=>
    wp_walk
    exact⟨rfl,rfl,h1 rfl⟩
   |false=>
    have c:=h2 rfl prog w
    wp_walk using c
    exact⟨_,rfl,h⟩
  case fin=>
   rintro⟨b1,b2⟩ s' ⟨hb',rfl,hL⟩;simp only at hb';subst hb';have j:r=false:=hL;subst j
   wp_walk
   exact⟨_,rfl,by simpa[Builtin.Tuple.tupleCompareSizes,hsz] using h⟩
  case h=>
   exact⟨rfl,rfl,i⟩
end
section
variable{prog:Wc}{w:Wh}{A:Wg}{E:W9}{s:We}
theorem lt_tupG{l b:Wk}{items items2:Array Value}{r:Bool}{Q:W9}(hl:IsTup s.heap l items)(hb:IsTup s.heap b items2)(hsz:items.size=items2.size)(hx:LexG A.in1 s (items.toList.zip items2.toList) r)
  (hu:A.units < cLine) (h:Q (.bool r) s):wpAny (model prog w) A (richCompare .Lt (.ref l) (.ref b)) Q E s:=by
 obtain⟨⟨aa,dd,y,u⟩,f,j,n,i⟩:=id hl;obtain⟨⟨z,p,q,e⟩,a,d,v,c⟩:=id hb;simp only at j i d c;subst j i d c;exact richCompare_meets_room (op:=.Lt) ⟨_,f,rfl⟩ ⟨_,a,rfl⟩ VR VI (VB _ _) (vL l b items items2 n v dd p u e r hsz)
  ⟨f,a,hx,show Value.bool r≠Value.notImplemented/\Q (.bool r) s from⟨(fun x=>nomatch x),h⟩⟩ hu
end
end HT
namespace L2
open PySem PySem.Spec PyProof.Rows PySem.W
section
variable{prog:Wc}{w:Wh}{A:Wg}{E:W9}{s:We}
theorem jP{x y:Wj}{p q:Int×Ky}{Q:W9}(hx:Ng s.heap x p)(hy:Ng s.heap y q)(hu:A.units+ 2 < cLine)(h:Q (.bool (J5 p q)) s):wpAny (model prog w) A (richCompare .Lt x y) Q E s:=by
 obtain⟨a,t,b,rfl,h1,v⟩:=hx;obtain⟨a',j,b',rfl,h2,u⟩:=hy;refine HT.lt_tupG (r:=J5 p q) h1 h2 rfl ?_ (by lia) h;have i:A.in1.units < cLine:=by show A.units+ 1 < cLine;lia
 show HT.LexG A.in1 s [(Value.int p.1 t,Value.int q.1 j),(Value.ref b,Value.ref b')] (J5 p q);obtain⟨e,he,d⟩:=HT.eqAt_int A.in1 s p.1 t q.1 j;refine⟨e,he,fun z=>⟨decide (p.2=q.2),fun prog w E Q c=>SA v u i c,fun n=>?_,fun n prog w E Q c=>?_⟩,fun z prog w E Q c=>?_⟩
 .have f:=d.mp z;have e2:=X5 n;show J5 p q=false;unfold J5;rw[Y5 f,e2];exact Cb _
 .have f:=d.mp z;have:J5 p q=TQ p.2 q.2:=by unfold J5;rw[Y5 f]
  rw[this]at c;exact SB v u i c
 .have f:¬p.1=q.1:=fun q'=>by have:=d.mpr q';rw[z]at this;cases this
  have:J5 p q=decide (p.1 < q.1):=by unfold J5;rw[Y2 f]
  rw[this]at c;exact HT.rcLt_int A.in1 s p.1 t q.1 j prog w E Q c
end
section
variable{prog:Wc}{w:Wh}{A:Wg}{R:Result->Shared->Prop}{I:Wk}{fp wr:List Addr}{n:Nat}{P:Nat->Value->Prop}{St:Nat->Heap->Prop}
def aI(P:Nat->Value->Prop)(bt:Nat->Nat->Bool)(j:Nat)(old:Array Value):Prop:=(j=0/\old=#[])\/∃i v,j=i+ 1/\old=#[v,v]/\P (argBest bt i) v
theorem vA(W:Walks prog w A.in1 I fp wr n P St)(bt:Nat->Nat->Bool)(h₀:Wn)(hcmp:∀i j vi vj (s:We) (Q:W9) (E:W9),(∀b o,h₀.get? b=some o->s.heap.get? b=some o)->P i vi->P j vj->Q (.bool (bt i j)) s->wpAny (model prog w) A.in1 (richCompare .Lt vi vj) Q E s)
  (S:Wk) (hSf:S∉fp) (hw0:∀b o,h₀.get? b=some o->b∉wr/\b≠S) (hn:0 < n):
  ∀ (k j:Nat) (s:We) (old:Array Value) (c:Nat),n - j=k->j <=n->St j s.heap->aI P bt j old->(∀b o,h₀.get? b=some o->s.heap.get? b=some o)->s.heap.get? S=some {cls:=.type "list",dict:=none,data:=.seq old c,slots:=#[]}->
  (∀v h' tk,P (argBest bt (n - 1)) v->(∀b o,b∉wr->b≠S->s.heap.get? b=some o->h'.get? b=some o)->R (.ok (.ret v)) {s with heap:=h',toks:=tk})->
  codeAny (model prog w) A (.builtin "min.loop" ⟨[.ref I,.none,.ref S],[]⟩) R s:=by
 have hSw:S∉wr:=fun z=>hSf (W.sub _ z)
 have hnm:(toString "min"++toString ".loop":String)="min.loop":=by decide
 intro k
 induction k with
 |zero=>
  intro j s old c hk hj hst hB h0 hS hR;obtain rfl:j=n:=by lia
  refine Uz V1 ?_;rw[Ur X1 _];refine Y0 (Vj hS rfl (Y0 (Uk (W.done s _ _ hst fun h' tk h=>?_))));have r:=h S _ hSw hS;rcases hB with⟨z,rfl⟩|⟨i,v,hi,rfl,hP⟩
  .lia
  .refine Y0 (Ub (hz:=BK) (_hz':=O4) r rfl (Y0 (Xy (Y4 ?_))));exact hR v _ tk (by rw[show j - 1=i by lia];exact hP) fun b o a d e=>(YH _ _ (Ne.symm d)).trans (h b o a e)
 |succ k ih=>
  intro j s old c hk hj hst hB h0 hS hR;refine Uz V1 ?_;rw[Ur X1 _];refine Y0 (Vj hS rfl (Y0 (Uk (W.item j s _ _ (by lia) hst fun v h' tk hP y h=>?_))));have r:=h S _ hSw hS;have aa:∀b o,h₀.get? b=some o->h'.get? b=some o:=fun b o e=>h b o (hw0 b o e).1 (h0 b o e)
  rcases hB with⟨rfl,rfl⟩|⟨i,u,rfl,rfl,hPb⟩
  .refine Y0 (Y4 ?_);show wpAny _ A.in1 (updateSeq S (fun _=>#[v,v]) >>=fun _=>again _) _ _ _;refine Y0 (Ub (f:=fun _=>#[v,v]) (xs:=#[]) (n:=c) r rfl ?_ (YF _) F9);rw[hnm];refine Y4 ⟨XS X1 _,ih 1 _ _ _ (by lia) (by lia) (W.frame _ _ _ y fun b hb o e=>(YH _ _ (fun z:S=b=>hSf (by rw[z];exact hb))).trans e) (.inr ⟨0,v,rfl,rfl,hP⟩) (fun b o e=>(YH _ _ (Ne.symm (hw0 b o e).2)).trans (aa b o e)) (X3 _ r rfl) ?_⟩;exact fun u x p z1 q=>hR u x p z1 fun b o a d e=>q b o a d ((YH _ _ (Ne.symm d)).trans (h b o a e))
  .refine Y0 (Y4 (Y0 (Uk (YQ (Y0 (hcmp (i+ 1) (argBest bt i) v u _ _ _ aa hP hPb ?_))))));refine Y0 (YQ (X4 (Y0 (Xy (Y4 ?_)))));cases hb:bt (i+ 1) (argBest bt i) with
   |true=>
    simp only[if_true];refine Y0 (Ub (f:=fun _=>#[v,v]) (n:=c) r rfl (Y0 (Xy ?_)) BK F9);rw[hnm];refine Y4 ⟨XS X1 _,ih (i+ 1+ 1) _ _ _ (by lia) (by lia) (W.frame _ _ _ y fun b hb o e=>(YH _ _ (fun z:S=b=>hSf (by rw[z];exact hb))).trans e) (.inr ⟨i+ 1,v,rfl,rfl,by simp only[argBest,hb,if_true];exact hP⟩) (fun b o e=>(YH _ _ (Ne.symm (hw0 b o e).2)).trans (aa b o e)) (X3 _ r rfl) ?_⟩;exact fun u x p z1 q=>hR u x p z1 fun b o a d e=>q b o a d ((YH _ _ (Ne.symm d)).trans (h b o a e))
   |false=>
    simp only[Bool.false_eq_true,if_false];refine Y0 (Xy ?_);rw[hnm];refine Y4 ⟨XS X1 _,ih (i+ 1+ 1) _ _ _ (by lia) (by lia) y (.inr ⟨i+ 1,u,rfl,rfl,by simp only[argBest,hb,Bool.false_eq_true,if_false];exact hPb⟩) aa r ?_⟩;exact fun u x p z1 q=>hR u x p z1 fun b o a d e=>q b o a d (h b o a e)
end
theorem vO{n:Nat}{O:KeyOrd}(key:Nat->O.α):argBest (fun i j=>O.blt (key i) (key j)) n <=n/\∀i,i <=n->O.blt (key i) (key (argBest (fun i j=>O.blt (key i) (key j)) n))=false:=by
 induction n with
 |zero=>exact⟨by simp[argBest],fun i hi=>by obtain rfl:i=0:=(by lia);simp[argBest];exact O.irrefl _⟩
 |succ n ih=>
  by_cases h:O.blt (key (n+ 1)) (key (argBest (fun i j=>O.blt (key i) (key j)) n))=true
  .have e:argBest (fun i j=>O.blt (key i) (key j)) (n+ 1)=n+ 1:=by simp[argBest,h]
   rw[e];refine⟨Y6 _,fun i hi=>?_⟩
   by_cases hi':i=n+ 1
   .subst hi';exact O.irrefl _
   .refine YY.mpr fun z=>?_
    have h1:=ih.2 i (by lia);have h2:=O.trans _ _ _ z h;rw[h1]at h2;cases h2
  .have e:argBest (fun i j=>O.blt (key i) (key j)) (n+ 1)=argBest (fun i j=>O.blt (key i) (key j)) n:=by simp[argBest,h]
   rw[e];refine⟨by lia,fun i hi=>?_⟩
   by_cases hi':i=n+ 1
   .subst hi';exact YY.mpr h
   .exact ih.2 i (by lia)
def L6(K:Wi):List V->Hp->VK->Prop:=fun xs H Q=>∃ (p:Wk) (zs:List V) (c:List (Int×Ky)),xs=[.ref p]/\WA K H p zs/\zs.length=c.length/\(∀ (i:Nat) x q,zs[i]?=some x->c[i]?=some q->C3 K H x q)/\c≠[]/\
 ∀ (i:Nat) x q,zs[i]?=some x->c[i]?=some q->(∀q'∈c,J5 q' q=false)->Q x H
section
variable{X:Cx}{K:Wi}
theorem SM(hc:X.calm=true)(hu:X.A.units+ 64 < cLine)(h:X.K=K):WY X (.builtin "min") (L6 K):=by
 subst h;intro pins s σ H xs us Q I r hh;obtain⟨p,zs,c,rfl,hq,hlc,hp,hne,q⟩:=hh;obtain⟨u,rfl,rx⟩:=Dw r;cases rx;obtain⟨a,rv,pl,hz⟩:=I.list hq;have hh:X.A.in1.handled=none:=I.ok.hd hc;have hl:=pl.isList;have f:p < s.heap.objs.size:=by obtain⟨_,e,_⟩:=hl;exact Ye e
 have hlen:zs.length=a.length:=rv.length;have hpos:0 < a.length:=by have:=U6.mpr hne;lia
 have hpr:∀ (i:Nat) v q,a[i]?=some v->c[i]?=some q->Ng s.heap v q:=fun i v q e1 e2=>by
  have hi:i < a.length:=(Yq.mp e1).1;have ex:zs[i]?=some (zs[i]'(by lia)):=Y7 (by lia);obtain⟨u,hu,ru⟩:=rv.get (i:=i) (x:=_) ex;rw[e1]at hu;cases hu;obtain⟨t,b,e,ht,d⟩:=hp i _ q ex e2;rw[e]at ru;cases ru;exact SQ I ht d
 have hnm:(toString "min"++toString ".loop":String)="min.loop":=by decide
 refine call_function_tree F.kind_min F.plain_min F.entry_min (F.args_min1 _) ?_;show wpAny _ X.A.in1 (Builtin.Builtins.bindParams "min" ["key","default"] 0 ⟨[],[]⟩ >>=_) _ _ s;refine Y0 (UV (show Builtin.Builtins.bindParams "min" ["key","default"] 0 ⟨[],[]⟩=pure [none,none] from rfl) ?_);refine Y0 (Y4 (Y0 (Xu hl (Y0 (YM ?_)))));rw[hnm];have W:=VX (prog:=X.prog) (w:=X.w) hh s.heap.objs.size p (Yj f) a.toArray;have hsz:a.toArray.size=a.length:=Yh;refine Y4 ⟨XS X1 _,vA W (fun i j=>J5 (c.getD i (0,0,"","")) (c.getD j (0,0,"",""))) s.heap ?_ _ ?_ ?_ (by rw[hsz];exact hpos) _ 0 _ _ _ rfl (YF _) (W.frame _ _ _ ⟨⟨_,Yc _ rfl,rfl,rfl⟩,hl.push _⟩ fun b _ o e=>Y8 _ e) (.inl ⟨rfl,rfl⟩) (fun b o e=>Y8 _ (Y8 _ e)) (Yc _ rfl) ?_⟩
 .intro i j vi vj s' Q' E' hk hi hj hQ;have hi':a[i]?=some vi:=by simpa using hi
  have hj':a[j]?=some vj:=by simpa using hj
  have li:=(Yq.mp hi').1;have lj:=(Yq.mp hj').1;have ci:c[i]?=some (c.getD i (0,0,"","")):=by rw[Y7 (by lia)];simp[show i < c.length by lia]
  have cj:c[j]?=some (c.getD j (0,0,"","")):=by rw[Y7 (by lia)];simp[show j < c.length by lia]
  exact jP ((hpr i vi _ hi' ci).keep hk) ((hpr j vj _ hj' cj).keep hk) (by show X.A.units+ 1+ 2 < cLine;lia) hQ
 .intro z;rw[Yl,Yg]at z;dsimp only at z;rw[Xi]at z;rcases z with z|z
  .exact absurd z (Nat.succ_ne_self _)
  .rw[<-z]at f;exact absurd f (Nat.not_lt.mpr (YL _))
 .intro b o eo;have d:=Ye eo;refine⟨fun z=>?_,fun z=>?_⟩
  .have e:b=s.heap.objs.size:=by simpa using z
   exact absurd e (Yj d)
  .dsimp only at z;rw[Xi]at z;exact absurd z (Yj (Xh d))
 .intro v h' tk y hk;have kept:∀b o,s.heap.get? b=some o->h'.get? b=some o:=fun b o eo=>by
   have d:=Ye eo;refine hk b o ?_ ?_ (Y8 _ (Y8 _ eo))
   .intro z;have e:b=s.heap.objs.size:=by simpa using z
    exact absurd e (Yj d)
   .intro z;dsimp only at z;rw[Xi]at z;exact absurd z (Yj (Xh d))
  obtain⟨b1,b2⟩:=vO (n:=a.toArray.size - 1) (O:=De) (fun i=>c.getD i (0,0,"",""));obtain⟨m,em⟩:∃m,m=argBest (fun i j=>J5 (c.getD i (0,0,"","")) (c.getD j (0,0,"",""))) (a.toArray.size - 1):=⟨_,rfl⟩;have b1:m <=a.toArray.size - 1:=by rw[em];exact b1
  have b2:∀i,i <=a.toArray.size - 1->J5 (c.getD i (0,0,"","")) (c.getD m (0,0,"",""))=false:=by rw[em];exact b2
  rw[<-em]at y;have y:a[m]?=some v:=by simpa using y
  have hm:m < a.length:=by lia
  have ez:zs[m]?=some (zs[m]'(by lia)):=Y7 (by lia);obtain⟨u,hu',ru⟩:=rv.get (i:=m) (x:=_) ez;rw[y]at hu';cases hu';have cm:c[m]?=some (c.getD m (0,0,"","")):=by rw[Y7 (by lia)];simp[show m < c.length by lia]
  refine⟨_,H,I.kept (t':=tk) kept,ru,q m _ _ ez cm fun q' hq'=>?_⟩;obtain⟨i,hi,rfl⟩:=XF.mp hq';have:=b2 i (by lia);rwa [show c.getD i (0,0,"","")=c[i] by simp[hi]]at this
end
section
variable{prog:Wc}{w:Wh}{J:Type}[DecidableEq J]{knd:HeapKind prog w J}{A:Wg}{E:W9}{s:We}{d a:Wk}{k:J}{xs:List (J×Addr×Value)}
theorem vC{Q:Option DictEntry->Shared->Prop}(hu:knd.room A)(hkey:knd.is s.heap k a)(hm:s.heap.DictOfH knd d xs)(hp:atKey xs k=none)
  (hQ:Q none {s with toks:=s.toks+ knd.draws k}):wpAny (model prog w) A (Builtin.Dict.takeOut d (.ref a)) Q E s:=by
 obtain⟨o,es,ep,e,p,i,h,c,b⟩:=hm;unfold Builtin.Dict.takeOut
 try with_reducible refine YQ ?_
 refine Y0 (knd.pyHash hu hkey (Y0 (Vh (s:={s with toks:=s.toks+ knd.draws k}) hu hkey e i h c b (fun n=>?_) fun j q f=>?_)))
 .exact Y4 hQ
 .rw[atKey_of_get b f]at hp;cases hp
theorem gD (dv : Value) (hsm : (d == sysModules) = false) : MeetsIn prog w (Builtin.«dict.pop» ⟨[.ref d, .ref a, dv], []⟩) (fun A R s => knd.room A.in1 /\ ∃ k xs, knd.is s.heap k a /\ s.heap.DictOfH knd d xs /\ xs.length <= sizeLine /\
  (∀p,atKey xs k=some p->∀h',h'.DictOfH knd d (Jj xs k)->Heap.SameBut d s.heap h'->R (.ok (.ret p.2)) {s with heap:=h',toks:=s.toks+ knd.draws k})/\
  (atKey xs k = none -> ∀ tk, R (.ok (.ret dv)) { s with toks := tk })) :=
 .of_wp fun A R s ⟨f,k,xs,i,b,j,h1,h2⟩=>by
  obtain⟨o,es,ep,q,hc,u,r,aa,hn⟩:=id b;unfold Builtin.«dict.pop»;refine Y0 (?_:wpAny _ _ (Builtin.Dict.keyAndDefault _ _) _ _ _);unfold Builtin.Dict.keyAndDefault;refine Y0 (Xn b.typeIs (?_:wpAny _ _ (pure (d,Value.ref a,some dv)) _ _ s));refine Y4 ?_;have h:(keyPart (.ref a)).isSome=false:=rfl;simp only[h,Bool.false_eq_true,if_false];refine Y0 (YS q u (Y0 (Y4 ?_)));cases hp:atKey xs k with
  |some p=>
   have c:es.isEmpty=false:=by
    have y:=Vc r;have e:xs≠[]:=fun z=>by rw[z]at hp;cases hp
    have x:0 < xs.length:=U6.mpr e;have v:¬es.size=0:=by lia
    unfold Array.isEmpty;exact Yp v
   rw[c];simp only[Bool.false_eq_true,if_false];refine Y0 (P3 f i b hp j fun h' dd n=>?_);simp only[Option.isNone_some,Bool.false_eq_true,if_false];exact Y0 (Xy (Y4 ⟨_,rfl,h1 p hp h' dd n⟩))
  |none=>
   cases c:es.isEmpty with
   |true=>
    simp only[if_true];refine Y0 (UN (Y0 (Y4 ?_)));simp only[Option.isNone_none,if_true];refine Y0 (Vv hsm ?_);exact Y0 (UN (Y4 ⟨dv,rfl,h2 hp _⟩))
   |false=>
    simp only[Bool.false_eq_true,if_false];refine Y0 (vC f i b hp ?_);simp only[Option.isNone_none,if_true];refine Y0 (Vv hsm ?_);exact Y0 (UN (Y4 ⟨dv,rfl,h2 hp _⟩))
end
section
variable{X:Cx}{K:Wi}
def Ft:V->List V->Hp->VK->Prop:=fun x vs H Q=>∃ (a b:Wk) (k:List WO) (kvs:List (List WO×V)) (z:V),x= .ref a/\vs=[.ref b,z]/\H a=some (.dT kvs)/\H b=some (.tup (k.map kV))/\
 (∀v,WM kvs k=some v->∀G,JC a H G->G a=some (.dT (Jj kvs k))->Q v G)/\(WM kvs k=none->Q z H)
theorem OH(hu:X.A.units+ 1 < cLine):ML X "dict.pop" Ft:=by
 intro pins s σ H x vs v us Q I rx rv h;obtain⟨a,b,k,kvs,z,rfl,rfl,n,hb,q1,q2⟩:=h;cases rx;cases rv with
 |cons r1 t1=>
  cases t1 with
  |cons r2 t2=>
   cases t2;cases r1;obtain⟨q,hd,xs,i,dd⟩:=RN I.hok n;have r:xs.length <=sizeLine:=by rw[<-Paired.length i];exact q
   have f:=i.val k;refine U2 XB dd.typeIs VG (PySem.F.args_dict_pop_3 _ _ _) (gD (knd:=tupleKind (WF X.prog X.w)) (d:=a) (a:=b) _ hd) ⟨Xp hu,k,xs,Rm I.hok hb,dd,r,fun p j h' dd' hs=>?_,fun j tk=>?_⟩
   .rw[j]at f;cases e:WM kvs k with
    |none=>rw[e]at f;exact f.elim
    |some y=>
     rw[e]at f;obtain⟨o,es,ep,u,h2,h3,h4,_,h5⟩:=dd';refine⟨y,upd H a (.dT (Jj kvs k)),?_,f,q1 y e _ JC.upd Jp⟩;refine EV I (by rw[n];exact True.intro) hs ⟨o,u⟩ ⟨YD (Yz _ _) q,hd,_,(KT.less i).keeps fun c ys ec=>?_,o,es,ep,u,h2,h3,h4,h5⟩;rw[WT (Wr ec n (fun z=>nomatch z))];exact ec
   .rw[j]at f;cases e:WM kvs k with
    |some y=>rw[e]at f;exact f.elim
    |none=>exact⟨z,H,I.tok _,r2,q2 e⟩
end
def RD(a:Wk):Obj:={cls:=.type "dict_keys",data:=.fields #[.ref a]}
section
variable{prog:Wc}{w:Wh}{A:Wg}{E:W9}{s:We}{d r v:Wk}{o:Obj}{es:Array DictEntry}{ep:Nat}
theorem jV(hd:(d==sysModules)=false):MeetsIn prog w (Builtin.«dict.keys» ⟨[.ref d],[]⟩) (fun _ R s=>s.TypeIs (.ref d) "dict"/\R (.ok (.ret (.ref s.heap.objs.size))) {s with heap:=s.heap.push (RD d)}):=
 .of_wp fun A R s ⟨a,h⟩=>by
  refine Y0 ?_;unfold Builtin.Dict.noArgs;refine Y0 (Xn a (?_:wpAny _ _ (pure d) _ _ s));refine Y4 (?_:wpAny _ _ (Builtin.Dict.showsAll d >>=_) _ _ s);unfold Builtin.Dict.showsAll;rw[Y2 (by rw[hd];exact Yi)];exact Y0 (Y4 (Y0 (YM (Y4 ⟨_,rfl,h⟩))))
theorem tF{Q:W9}(hv:s.heap.get? v=some (RD d))(ho:s.heap.get? d=some o)(hdat:o.data= .dict es ep)
  (hQ:Q (.ref s.heap.objs.size) {s with heap:=s.heap.push {cls:=.type "dict_keyiterator",data:=.fields #[.ref d,.int 0 0,.int es.size 0,.int ep 0]}}):wpAny (model prog w) A (pyIter (.ref v)) Q E s:=by
 have a:s.TypeIs (.ref v) "dict_keys":=⟨_,hv,rfl⟩
 refine UR a kdl_slot_keys_iter (YR kdl_slot_keys_iter a kdl_entry_keys_iter ?_ (kdl_args_keys_iter _));unfold Builtin.«dict_keys.__iter__»;refine Y0 (Y4 (Y0 ?_));unfold Builtin.Dict_items.dictOf;refine Y0 (Xz hv rfl (x:=.ref d) rfl (Y4 (Y0 ?_)));unfold Builtin.Dict_items.newIterator;refine Y0 (YS ho hdat (Y0 (Xm ho hdat ?_)));simp only[show Builtin.Dict_items.ownsTuple "dict_keyiterator"=false by decide,Bool.false_eq_true,if_false];refine YM (Y4 ⟨_,rfl,"dict_keyiterator",_,⟨_,Yc _ rfl,rfl⟩,YX.lookup,?_⟩);simpa[rawInt] using hQ
theorem bN(hdat:o.data= .dict es ep):KdlSrc prog w "dict_keys" r d es.size (fun i v=>∃e,es[i]?=some e/\v=e.key) (fun h=>h.get? r=some (RD d)/\h.get? d=some o) where
 type:=fun _ a=>⟨_,a.1,rfl⟩
 there:=fun _ a=>⟨Ye a.1,Ye a.2⟩
 keep:=fun _ _ a c=>⟨c r (.inl rfl) _ a.1,c d (.inr rfl) o a.2⟩
 notList:=by decide
 notTuple:=by decide
 hint:=fun _ _ _ _ a b=>kdl_hint_keys ⟨_,a.1,rfl⟩ b
 iter:=fun _ _ f a=>⟨_,_,(fun _ _ b=>tF a.1 a.2 hdat b),Oa f _ (Yj (Ye a.2)) hdat,⟨⟨_,Yc _ rfl,rfl,rfl⟩,Y8 _ a.2⟩⟩
end
section
variable{X:Cx}{K:Wi}
def Hd:V->List V->Hp->VK->Prop:=fun x vs H Q=>∃ (a:Wk) (kvs:List (List WO×V)),x= .ref a/\vs=[]/\H a=some (.dT kvs)/\∀v G,H v=none->Ws H G->G v=some (.frz (RD a) (.own a))->Q (.ref v) G
theorem wK:ML X "dict.keys" Hd:=by
 intro pins s σ H x vs v p Q I e f h;obtain⟨a,kvs,rfl,rfl,j,q⟩:=h;cases e;cases f;obtain⟨r,i,xs,n,dd⟩:=RN I.hok j;have d:H s.heap.objs.size=none:=I.hok.fresh (Y6 _);have c:(s.heap.push (RD a)).get? s.heap.objs.size=some (RD a):=Yc _ rfl;refine U2 VJ dd.typeIs PySem.F.entry_dict_keys (PySem.F.args_dict_keys_1 _) (jV i) ⟨dd.typeIs,?_⟩;exact⟨.ref s.heap.objs.size,upd H s.heap.objs.size (.frz (RD a) (.own a)),I.laid (t':=s.toks) (fun b o z=>Y8 _ z) (Y6 _) ⟨c,_,c⟩,rfl,q _ _ d (Mc d) Jp⟩
def IM:List V->Hp->VK->Prop:=fun as H Q=>∃ (v a:Wk) (kvs:List (List WO×V)) (c:List Ky),as=[V.ref v]/\H v=some (.frz (RD a) (.own a))/\H a=some (.dT kvs)/\kvs.map (·.1)=c.map (fun k=>[Sum.inl k.1,Sum.inr k.2.1,Sum.inr k.2.2])/\c.length < 64/\
 ∀ (ks:List Ky) (ts:List Addr) l G,ks.Perm c->ks.Pairwise (fun a b=>TQ b a=false)->ts.length=ks.length->(∀ (i:Nat) t k,ts[i]?=some t->ks[i]?=some k->H t=some (.tup (R3 k)))->H l=none->Ws H G->G l=some (.lst (ts.map V.ref))->Q (.ref l) G
theorem yE(hc:X.calm=true)(hu:X.A.units+ 64 < cLine):WY X (.builtin "sorted") IM:=by
 intro pins s σ H xs us Q I r h;obtain⟨v0,a,kvs,c,rfl,hv0,ha,hks,h64,q⟩:=h;obtain⟨u,rfl,rx⟩:=Dw r;cases rx;obtain⟨z,y,xs,r,o,es,ep,h1,h2,h3,h4,h5⟩:=(show WR X.prog X.w H s.heap a (.dT kvs) from I.hok a _ ha);have hxl:xs.length=es.size:=by rw[<-Array.length_toList,h4,Y1]
 have hkl:=Paired.length r;have hcl:c.length=es.size:=by
  have:=YU List.length hks;rw[Y1,Y1]at this;lia
 obtain⟨hvv,_⟩:=(show s.heap.get? v0=some (RD a)/\_ from I.hok v0 _ hv0);have hh:X.A.in1.handled=none:=I.ok.hd hc;refine UA kind_sorted plain_sorted entry_sorted (args_sorted1 _) ?_;unfold Builtin.«sorted»;refine Y0 (m:=checkCount "sorted" 1 1 _) (Y4 ?_);refine Y0 (kdu_collect (A:=X.A.in1) (bN (prog:=X.prog) (w:=X.w) (r:=v0) h3) hh ⟨hvv,h1⟩ (by rw[<-hxl,<-hkl];exact z) fun h' tk acc hk hacc=>?_);have I2:Wv X pins σ H {s with heap:=h',toks:=tk}:=I.kept hk;obtain⟨vs,evs⟩:∃vs,vs=acc.toList:=⟨_,rfl⟩;rw[<-evs];have hvl:vs.length=es.size:=by rw[evs,Array.length_toList];exact hacc.1
 have hat:∀ (i:Nat) v,vs[i]?=some v->∃t k,v=Value.ref t/\c[i]?=some k/\xs[i]?.map (·.2.1)=some t/\H t=some (.tup (R3 k)):=fun i v hv=>by
  rw[evs,Array.getElem?_toList]at hv;obtain⟨e,he,rfl⟩:=hacc.2 i v hv;have hlt:i < es.size:=(Uv.mp he).1;have hx:xs[i]?=some (xs[i]'(by lia)):=Y7 (by lia);obtain⟨v,hv,hb⟩:=KT.at' r hx;have hke:es.toList[i]?=(xs.map (entryOfKey (tupleKind (WF X.prog X.w))))[i]?:=by rw[h4]
  rw[Y9,hx,Array.getElem?_toList,he]at hke;have hkk:(kvs.map (·.1))[i]?=some xs[i].1:=by rw[Y9,hv];rfl
  rw[hks,Y9]at hkk;obtain⟨k,hk1,hk2⟩:=Yn.mp hkk;refine⟨xs[i].2.1,k,?_,hk1,by rw[hx];rfl,?_⟩
  .rw[Option.some.inj hke];rfl
  .rw[hb,<-hk2];rfl
 have hpr:∀ (i:Nat) v k,vs[i]?=some v->c[i]?=some k->N8 h' v k:=fun i v k e1 x=>by
  obtain⟨t,k',rfl,e3,_,ht⟩:=hat i v e1;rw[x]at e3;cases e3;exact KJ I2 (Ja.of ht)
 have hsl:vs.length <=sizeLine:=by rw[hvl,<-hcl,YV];lia
 refine Y0 (Vt ?_ hsl);have hoL:(h'.push (seqObj "list" vs.toArray 0)).get? h'.objs.size=some (seqObj "list" vs.toArray 0):=Yc _ rfl;have keep:∀b o,h'.get? b=some o->(h'.push (seqObj "list" vs.toArray 0)).get? b=some o:=fun b o q=>Y8 _ q
 have S:Ee X.prog X.w h' L4 (fun i=>c.getD i (0,"","")) (tuples' (Value.type "int" !=Value.type "tuple")) vs:=Q6 hpr (by lia);refine Y0 (YQ (YR slot_list_sort ⟨_,hoL,rfl⟩ entry_list_sort (Kp (h₀:=h') hoL (Y6 _) keep S (by lia) (by show X.A.units+ 1+ 1 < cLine;lia) fun p a1 a2=>⟨_,rfl,?_⟩) (args_list_sort _)));obtain⟨e,he⟩:=sortedHeap_at (n:=0) (vs:=vs) (out:=(List.map (fun i=>vs.getD i Value.none) p.toList).toArray) hoL;have hf:H h'.objs.size=none:=I2.hok.fresh (Y6 _);have f:p.toList.Perm (List.range c.length):=by rw[show c.length=vs.length by lia];exact XR.mp a1
 have hb:∀i∈p.toList,i < c.length:=fun i hi=>by simpa using f.mem_iff.mp hi
 obtain⟨d,eas⟩:∃d:List Addr,d=xs.map (·.2.1):=⟨_,rfl⟩;have hal:d.length=c.length:=by rw[eas,Y1];lia
 have has:∀i,i < c.length->vs.getD i Value.none= .ref (d.getD i 0)/\H (d.getD i 0)=some (.tup (R3 (c.getD i (0,"","")))):=fun i hi=>by
  have gi:vs[i]?=some (vs.getD i Value.none):=by rw[Y7 (by lia)];simp[show i < vs.length by lia]
  obtain⟨t,k,e1,x,e3,e4⟩:=hat i _ gi;have et:d.getD i 0=t:=by rw[eas,X8,Y9,e3];rfl
  have ek:c.getD i (0,"","")=k:=by rw[X8,x];rfl
  rw[et,ek];exact⟨e1,e4⟩
 have hvals:WD ((p.toList.map fun i=>d.getD i 0).map V.ref) (p.toList.map fun i=>vs.getD i Value.none):=by
  have:∀r:List Nat,(∀i∈r,i < c.length)->WD ((r.map fun i=>d.getD i 0).map V.ref) (r.map fun i=>vs.getD i Value.none):=by
   intro r
   induction r with
   |nil=>exact fun _=>.nil
   |cons i r ih=>
    intro hr;refine .cons ?_ (ih fun j hj=>hr j (.tail _ hj));exact(has i (hr i (.head _))).1
  exact this _ hb
 have hln:(p.toList.map fun i=>d.getD i 0).length=c.length:=by rw[Y1,f.length_eq,US]
 refine Y4 ⟨_,rfl,.ref h'.objs.size,upd H h'.objs.size (.lst ((p.toList.map fun i=>d.getD i 0).map V.ref)),I2.laid (t':=tk) (fun b o z'=>?_) (Y6 _) ?_,rfl,q (p.toList.map fun i=>c.getD i (0,"","")) _ _ _ ?_ (IY a1 a2) ?_ ?_ hf (Mc hf) Jp⟩
 .have hlt:=Ye z';rw[sortedHeap_old (Yj hlt) (by rw[Xi];exact Xh hlt)];exact Y8 _ z'
 .exact⟨by rw[Y1,hln,YV];lia,_,e,hvals,he⟩
 .have h1:=f.map fun i=>c.getD i ((0,"",""):Ky)
  have h2:(List.range c.length).map (fun i=>c.getD i ((0,"",""):Ky))=c:=by
   apply Vz
   .simp
   .intro i hi _;have:i < c.length:=by simpa using hi
    simp[this]
  rw[h2]at h1;exact h1
 .rw[Y1,Y1]
 .intro i t k e1 x;rw[Y9]at e1 x;obtain⟨j,hj,rfl⟩:=Yn.mp e1;rw[hj]at x;cases x;exact(has j (hb j (Yx hj))).2
end
end L2
namespace HT
open PySem PyProof.Rows
end HT
namespace L2
open PySem PySem.Spec PyProof.Rows PySem.W
section
variable{X:Cx}{K:Wi}
def Ap(K:Wi):R2:=fun x y H Q=>∃p xs i v,x= .ref p/\y= .int i/\(WA K H p xs\/Ja K H p xs)/\Mn xs i=some v/\Q v H
theorem aJ(h:X.K=K):DI X (Ap K):=by
 intro value a pins s σ H x y v u Q I d c r e;obtain⟨p,xs,i,z,n,j,b|b,f,q⟩:=r
 .exact Gp h value a pins s σ H x y v u Q I d c ⟨p,xs,i,z,n,j,b,f,q⟩ e
 .exact Ze h value a pins s σ H x y v u Q I d c ⟨p,xs,i,z,n,j,b,f,q⟩ e
end
end L2
namespace L2
open PySem PySem.Spec PyProof.Rows
theorem RQ{us:Wm}{n:Nat}(h:us.length=n+ 1):∃a r,us=a::r/\r.length=n:=by
 cases us with
 |nil=>cases h
 |cons a r=>exact⟨a,r,rfl,Nat.succ.inj h⟩
theorem Qn{us:Wm}(h:us.length=1):∃a,us=[a]:=by
 obtain⟨a,r,e,g⟩:=RQ h;rw[List.eq_nil_of_length_eq_zero g]at e;exact⟨a,e⟩
theorem Z5{us:Wm}(h:us.length=2):∃a a1,us=[a,a1]:=by
 obtain⟨a,r,e,g⟩:=RQ h;obtain⟨a1,z⟩:=Qn g;rw[z]at e;exact⟨_,_,e⟩
theorem Zb{us:Wm}(h:us.length=3):∃a a1 a2,us=[a,a1,a2]:=by
 obtain⟨a,r,e,g⟩:=RQ h;obtain⟨a1,a2,z⟩:=Z5 g;rw[z]at e;exact⟨_,_,_,e⟩
theorem Oo{us:Wm}(h:us.length=4):∃a a1 a2 a3,us=[a,a1,a2,a3]:=by
 obtain⟨a,r,e,g⟩:=RQ h;obtain⟨a1,a2,a3,z⟩:=Zb g;rw[z]at e;exact⟨_,_,_,_,e⟩
theorem Li{us:Wm}(h:us.length=5):∃a a1 a2 a3 a4,us=[a,a1,a2,a3,a4]:=by
 obtain⟨a,r,e,g⟩:=RQ h;obtain⟨a1,a2,a3,a4,z⟩:=Oo g;rw[z]at e;exact⟨_,_,_,_,_,e⟩
theorem K1{us:Wm}(h:us.length=6):∃a a1 a2 a3 a4 a5,us=[a,a1,a2,a3,a4,a5]:=by
 obtain⟨a,r,e,g⟩:=RQ h;obtain⟨a1,a2,a3,a4,a5,z⟩:=Li g;rw[z]at e;exact⟨_,_,_,_,_,_,e⟩
theorem OQ{us:Wm}(h:us.length=7):∃a a1 a2 a3 a4 a5 a6,us=[a,a1,a2,a3,a4,a5,a6]:=by
 obtain⟨a,r,e,g⟩:=RQ h;obtain⟨a1,a2,a3,a4,a5,a6,z⟩:=K1 g;rw[z]at e;exact⟨_,_,_,_,_,_,_,e⟩
theorem bG{us:Wm}(h:us.length=8):∃a a1 a2 a3 a4 a5 a6 a7,us=[a,a1,a2,a3,a4,a5,a6,a7]:=by
 obtain⟨a,r,e,g⟩:=RQ h;obtain⟨a1,a2,a3,a4,a5,a6,a7,z⟩:=OQ g;rw[z]at e;exact⟨_,_,_,_,_,_,_,_,e⟩
structure Du(P:Wc)(w:Wh)(K:Wi)(mg:W8)(base:Wn):Prop where
 of:∀{n:Str} {v:Wj},W.nsIn K mainGlobals n=some (some v)->mg n=some v
 no:∀{n:Str},W.nsIn K mainGlobals n=some none->mg n=none
def FF(K:Wi)(n q:Str)(st:Stmt)(f:Wk):Prop:=∃ (oc:Wj) (od:Option Addr) (kV dc pm:Wj) (an:Option Addr) (cd ct:Wj) (sl:Array (Option Value)),
 K.lookup f=some ⟨oc,od,.func (W.fnOf n q (MT st) (WN st) (Wp st) .none kV dc pm an cd ct),sl⟩/\W.codeIn K cd q=true/\W.keepIn K (.ref f)=true
def GF(K:Wi)(n:Str)(st:Stmt)(f:Wk):Prop:=W.nsIn K mainGlobals n=some (some (.ref f))/\FF K n n st f
def MF(K:Wi)(C:Wk)(m q:Str)(st:Stmt)(f:Wk):Prop:=W.findIn K (.ref C) m=some (some (.ref f))/\W.isFn K (.ref f)=true/\FF K m q st f
def DF(K:Wi)(C:Wk)(q:Str)(st:Stmt)(f T:Wk):Prop:=W.findIn K (.ref C) "__init__"=some (some (.ref f))/\W.isFn K (.ref f)=true/\∃ (oc:Wj) (od:Option Addr) (kV dc pm:Wj) (an:Option Addr) (cd ct:Wj) (sl:Array (Option Value)),
 K.lookup f=some ⟨oc,od,.func (W.fnOf "__init__" q (MT st) (WN st) (Wp st) (.ref T) kV dc pm an cd ct),sl⟩/\W.codeIn K cd q=true/\∃ (oT:Option Addr) (nT:Nat) (sT:Array (Option Value)),K.lookup T=some ⟨.type "tuple",oT,.seq #[.bool false] nT,sT⟩
def CF(K:Wi)(n:Str)(C:Wk):Prop:=W.nsIn K mainGlobals n=some (some (.ref C))/\MN K C/\W.makesIn K C=true/\W.keepIn K (.ref C)=true/\Ez K C
def NA(K:Wi)(C:Wk):List Str->Prop
 |[]=>True
 |x::r=>W.findIn K (.ref C) x=some none/\NA K C r
def NS(K:Wi):List Str->Prop
 |[]=>True
 |x::r=>W.nsIn K mainGlobals x=some none/\NS K r
section
variable{P:Wc}{w:Wh}{K:Wi}{mg:W8}{base:Wn}{n q m:Str}{st:Stmt}{f C:Wk}{k:Nat}{ps:List Str}{sp:Sp}
theorem FF.fn(h:FF K n q st f):∃fd,JE K n q st f fd/\W.keepIn K (.ref f)=true:=by
 obtain⟨e,d,kV,i,b,p,j,ct,a,l,c,kp⟩:=h;exact⟨_,K2 l c kp,kp⟩
theorem Du.fb(E:Du P w K mg base)(g:GF K n st f)(h:∀{fd},JE K n n st f fd->Wz P w K mg base Jf k f fd ps sp)
  (hb:∀ (kV doc pm:Wj) (an:Option Addr) (cdv ct:Wj) (us:Wm),us.length=ps.length->bindArgs (W.fnOf n n (MT st) (WN st) (Wp st) .none kV doc pm an cdv ct) ⟨us,[]⟩=pure (ps.zip us)):N6 P w K mg base n k ps [] sp:=by
 obtain⟨fd,F,kp⟩:=g.2.fn;exact⟨f,fd,[],h F,E.of g.1,kp,F.binds hb,.nil⟩
theorem Du.mb(E:Du P w K mg base){cn:Str}(c:CF K cn C)(g:MF K C m q st f)(h:∀{fd},JE K m q st f fd->Wz P w K mg base Jf k f fd ps sp)
  (hb:∀ (kV doc pm:Wj) (an:Option Addr) (cdv ct:Wj) (us:Wm),us.length=ps.length->bindArgs (W.fnOf m q (MT st) (WN st) (Wp st) .none kV doc pm an cdv ct) ⟨us,[]⟩=pure (ps.zip us)):Nv P w K mg base C m k ps [] sp:=by
 obtain⟨fd,F,kp⟩:=g.2.2.fn;exact⟨f,fd,[],h F,c.2.1,⟨g.1,g.2.1,kp⟩,F.binds hb,.nil⟩
theorem Du.kb(E:Du P w K mg base){cn:Str}(c:CF K cn C)(g:MF K C "__init__" q st f)
  (h:∀{fd},(∃ (oc:Wj) (od:Option Addr) (dV kV doc pm:Wj) (an:Option Addr) (cdv ct:Wj) (osl:Array (Option Value)),fd=W.fnOf "__init__" q (MT st) (WN st) (Wp st) dV kV doc pm an cdv ct/\K.lookup f=some ⟨oc,od,.func fd,osl⟩/\W.codeIn K cdv q=true)->Wz P w K mg base Jf k f fd ps sp)
  (hb:∀ (kV doc pm:Wj) (an:Option Addr) (cdv ct:Wj) (us:Wm),us.length=ps.length->bindArgs (W.fnOf "__init__" q (MT st) (WN st) (Wp st) .none kV doc pm an cdv ct) ⟨us,[]⟩=pure (ps.zip us)):Gv P w K mg base cn C k ps [] sp:=by
 obtain⟨oc,od,kV,d,pm,an,e,ct,b,l,a,kp⟩:=g.2.2;exact⟨f,_,[],h ⟨oc,od,.none,kV,d,pm,an,e,ct,b,rfl,l,a⟩,E.of c.1,⟨c.2.2.1,g.1,g.2.1,c.2.2.2.1⟩,(K2 l a kp).binds hb,.nil⟩
end
section
variable{X:Cx}{K:Wi}
def mK(i j:Int):Prop:=0 < j/\j < 1267650600228229401496703205376
theorem Bo:JW X (binaryOp .FloorDiv) (rI mK fun i j=>.int (i / j)):=BH fun i j _ _ _ _ _ a q=>by
 have h1:(0:Int) < j:=a.1;have h2:j < 1267650600228229401496703205376:=a.2;refine floordiv_int (by omega) (by rw[Vr i (by omega)];exact q) (.inl (PyProof.noPylong_of_log2 ?_));have:j.natAbs.log2 < 100:=(Nat.log2_lt (by omega)).mpr (by omega);omega
end
section
variable{X:Cx}
def Kz:List V->Hp->VK->Prop:=fun xs H Q=>∃a kvs,xs=[V.ref a]/\H a=some (.dK kvs)/\∀l G,H l=none->Ws H G->G l=some (.dK kvs)->Q (.ref l) G
theorem nG:WY X (.type "dict") Kz:=by
 intro pins s σ H xs us Q I r h;obtain⟨a,kvs,rfl,y,q⟩:=h;obtain⟨u,rfl,v⟩:=Dw r;cases v;obtain⟨i,x,vs,c,p⟩:=A4 I.hok y;have f:kvs.length=vs.length:=c.length;refine kt_call_dict x p (by rw[<-f];exact i) fun h' n w=>?_
 have j:H s.heap.objs.size=none:=I.hok.fresh (Y6 _);have d:(s.heap.objs.size==sysModules)=false:=Xg.mpr (Ne.symm (Yj I.big));refine⟨.ref s.heap.objs.size,upd H s.heap.objs.size (.dK kvs),I.laid (t':=s.toks) (fun b ob e=>?_) (Y6 _) ?_,rfl,q _ _ j (Mc j) Jp⟩
 .exact w.2 b (fun z=>absurd (Ye e) (by rw[z];exact Xs _))▸Y8 _ e
 .exact⟨i,d,vs,c,n⟩
theorem mM:JW X (compareOp .Is) (fun x y H Q=>∃a b:Bool,x= .bl a/\y= .bl b/\Q (.bl (decide (a=b))) H):=by
 intro pins s σ H x y v u Q I d c h;obtain⟨a,b,rfl,rfl,q⟩:=h;cases d;cases c;refine Y4 ?_;refine NY I q ?_;cases a <;> cases b <;> rfl
end
structure PB(mg:W8):Prop where
 bdict:mg "dict"=none
structure Fb(P:Wc)(w:Wh)(K:Wi)(mg:W8)(base:Wn)(x n:Str)(k:Nat)(sp:Sp):Prop where
 ex:∃ (f C:Wk) (fd:Wf) (ps:List Str) (sp0:Sp),Wz P w K mg base Jf k f fd ps sp0/\mg x=some (.ref C)/\Mk K C f/\(∀ (s:We) (us:Wm) (u:Wj),K.In s.heap->us.length+ 1=ps.length->BindsTo s fd ⟨us,[(n,u)]⟩ (ps.zip (us++[u])))/\
  ∀vs H Q,sp vs H Q E0->∀y dx G,H y=none->H dx=none->dx≠y->Ws H G->G y=some (.ins C dx [])->sp0 (.ref y::vs) G (fun v H2=>v= .non/\Q (.ref y) H2) E0
def I0(sp:Sp)(t:TA)(tb:TE):TE:=fun σ H Q=>t σ H fun vs H1=>tb σ H1 fun z H2=>sp (vs++[z]) H2 Q E0
theorem rQ{X:Cx}{k:Nat}{sp:Sp}{x n:Str}{p pos kp:Pos}{e e2:Wo}{es:List Expr}{t:TA}{tb:TE}(F:Fb X.prog X.w X.K X.mg X.base x n k sp)(hr:Room (k+ 1) X.A)(hg:Gl X x)(ha:PA X (e::es) t)(hb2:PE X e2 tb)(hdb:(x==("__debug__":Str))=false:=by decide)
  (he:starEach (e::es) X.env=(false,eval e X.env)::starEach es X.env:=by rfl) (hall:(backToKw pos (keywordEach [⟨some n,e2,kp⟩] X.env)).all (·.1.isSome)=true:=by rfl) (hpl:((backTo pos (starEach (e::es) X.env)).any (·.1)||(backToKw pos (keywordEach [⟨some n,e2,kp⟩] X.env)).any (·.1.isNone))=false:=by rfl):PE X (.Call (.Name x p) (e::es) [⟨some n,e2,kp⟩] pos) (I0 sp t tb):=by
 obtain⟨f,C,fd,ps,sp0,G,hm,M,hbd,hi⟩:=F.ex;intro pins s σ H Q I h;refine Xo (BC I hg hm ?_ hdb);refine W.callWith_KW (h₀:=X.base) I.ok.mod.kin M.kp hall (WW (ha pos pins s σ H (fun vs H1=>D0 tb Dx σ H1 (Sa fun z H2=>sp (vs++[z]) H2 Q E0)) I h) fun c s1 ⟨vs,H1,I1,r,q⟩=>WW (O3 hb2 Ho pos pins s1 σ H1 _ I1 q) fun ws a ⟨zs,H2,d,rz,i⟩=>⟨d.kIn,?_⟩) hpl he;obtain⟨z,rfl,i⟩:=yJ i;obtain⟨u,rfl,ru⟩:=Dw rz;have hq:=hi _ _ _ i (a.heap.objs.size+ 1) a.heap.objs.size (upd (upd H2 a.heap.objs.size (.own (a.heap.objs.size+ 1))) (a.heap.objs.size+ 1) (.ins C a.heap.objs.size [])) (d.hok.fresh (YL _)) (d.hok.fresh (Y6 _)) (Yj (XZ _)) ((Mc (d.hok.fresh (Y6 _))).new (d.hok.fresh (YL _))) Jp;have j:=Wv.made (C:=C) d;have y:WD (V.ref (a.heap.objs.size+ 1)::(vs++[z])) (Value.ref (a.heap.objs.size+ 1)::(c++[u])):=.cons rfl (r.append (.cons ru .nil));have hl:(Value.ref (a.heap.objs.size+ 1)::c).length+ 1=ps.length:=by
  have e:=y.length;rw[G.len _ _ _ _ hq]at e;simp at e ⊢;lia
 refine Vu (Os (f := f) (kw := [(n, u)]) d.kIn M.makes M.init (UL.mp M.fn) (Uh (G.run _ X.stack _ _ ⟨Value.ref (a.heap.objs.size + 1) :: c, [(n, u)]⟩ (Value.ref (a.heap.objs.size + 1) :: (c ++ [u])) _ _ E0 (hr.make C c [(n, u)])
  (j.env0.make C c [(n, u)]) (hbd _ (Value.ref (a.heap.objs.size + 1) :: c) u j.kIn hl) y hq) fun r s' b => ?_))
 cases r with
 |error e=>exact b.elim
 |ok fl=>
  cases fl with
  |ret u=>
   obtain⟨v,H',I4,rv,ev,q3⟩:=j.after b;subst ev;exact⟨rv,⟨V.ref (a.heap.objs.size+ 1),H',I4,rfl,q3⟩⟩
  |next=>exact False.elim b
  |brk=>exact False.elim b
  |cont=>exact False.elim b
section
variable{caps:List (Option Nat)}{g:TG}{tc:TT}{te td:TE}{d:Wk}{kvs:List (List WO×V)}{σ:St}{H:Hp}{Q:VK}
theorem rY(hd:H d=some (.dT kvs))(htd:∀R:VK,(∀v H1,H v=none->Ws H H1->H1 v=some (.frz (Rt d) (.own d))->R (.ref v) H1)->td σ H R)(Pv:Nat->List V->St->Hp->Prop)(h0:∀Hf,Pv 0 [] (N5 caps σ) Hf)(hm:∀i ys σ' Hf Hg,Pv i ys σ' Hf->Ws Hf Hg->Pv i ys σ' Hg)(hl:∀i ys σ' Hf,Pv i ys σ' Hf->ys.length <=i)(hz:kvs.length <=100000)
  (hs:∀H0 Hf o,Ws H0 Hf->(∀c u,H c=some u->c≠d->Hf c=some u)->Hf d=some (.frz o (.dT kvs))->∀i t b k v ys σ',kvs[i]?=some (k,v)->Hf t=some (.tup [.ref b,v])->Hf b=some (.tup (k.map kV))->Pv i ys σ' Hf->g (.ref t) σ' Hf fun σ2 H2=>tc σ2 H2 fun c H3=>if c=true then te σ2 H3 fun y H4=>Pv (i+ 1) (ys++[y]) σ2 H4/\Ws H0 H4 else Pv (i+ 1) ys σ2 H3/\Ws H0 H3)
  (he:∀ys σ' Hn,Pv kvs.length ys σ' Hn->∀p G,H p=none->Ws H G->(∀c u,Hn c=some u->(∀o w,u≠ .frz o w)->G c=some u)->G p=some (.lst ys)->Q (.ref p) G):Er (GQ caps (CO td) g tc te) σ H Q:=by
 refine⟨d,kvs,hd,htd _ fun v0 H1 hv0 s0 e0=>⟨v0,d,kvs,rfl,e0,s0 _ _ hd,fun o=>?_⟩⟩;obtain⟨Hf,ab⟩:∃Hf,Hf=upd H1 d (.frz o (.dT kvs)):=⟨_,rfl⟩;rw[<-ab];have aa:Hf d=some (.frz o (.dT kvs)):=by rw[ab,Jp]
 have hfo:∀c,c≠d->Hf c=H1 c:=fun c j=>by rw[ab,WT j]
 refine⟨fun i m ys σ' H'=>m=kvs.length - i/\i <=kvs.length/\Pv i ys σ' H'/\Ws Hf H',⟨kvs.length,by simp,YF _,h0 Hf,Ws.refl _⟩,?_⟩;rintro i m ys σ' H' ⟨rfl,hi,p,s⟩;have hy:=hl i ys σ' H' p;have f:∀c u,H c=some u->c≠d->H' c=some u:=fun c u e n=>s c u (by rw[hfo c n];exact s0 _ _ e)
 by_cases hlt:i < kvs.length
 .refine .inr ⟨⟨s _ _ aa,hlt⟩,Ya (XE (Ya hy hlt)) (Tn hz),fun ys2 σ2 H2=>Pv (i+ 1) ys2 σ2 H2/\Ws H' H2,fun ys2 σ2 H2 q=>⟨kvs.length - (i+ 1),by omega,rfl,hlt,q.1,s.trans q.2⟩,fun x H2 y=>?_⟩;obtain⟨t,b,k,v,rfl,ht,r,e2,hk,hb⟩:=y;exact hs H' H2 o r (fun c u e n=>r _ _ (f c u e n)) (r _ _ (s _ _ aa)) i t b k v ys σ' hk e2 (r _ _ hb) (hm _ _ _ _ _ p r)
 .have e:i=kvs.length:=by omega
  subst e;have h:=s _ _ aa;refine .inl ⟨⟨h,Y6 _⟩,Jc (YD hy hz),fun p' a=>?_⟩;have n1:d≠p':=fun z=>by rw[<-z,h]at a;cases a
  refine⟨o,by rw[WT n1];exact h,he ys σ' H' p p' _ ?_ (fun c u e=>?_) (fun c u e n=>?_) ?_⟩
  .cases e:H p' with
   |none=>rfl
   |some u=>rw[f p' u e (Ne.symm n1)]at a;cases a
  .by_cases j:c=d
   .rw[j,hd]at e;rw[j,Jp];exact e
   .have e':=f c u e j;rw[WT j,WT (fun z=>by rw[z,a]at e';cases e')];exact e'
  .have n:c≠d:=fun z=>by rw[z,h]at e;exact n _ _ (Option.some.inj e).symm
   rw[WT n,WT (fun z=>by rw[z,a]at e;cases e)];exact e
  .rw[WT (Ne.symm n1),Jp]
end
end L2
namespace L2
open PySem PySem.Spec PyProof.Rows PySem.W
section
variable{O:KeyOrd}{key:Nat->O.α}
def Pc(O:KeyOrd)(key:Nat->O.α)(i j:Nat):Prop:=if i < j then O.blt (key j) (key i)=false else O.blt (key i) (key j)=true
end
section
variable{prog:Wc}{w:Wh}{A:Wg}{E:W9}{s:We}{O:KeyOrd}{key:Nat->O.α}{κ:SortKind}{it:Nat->Keyed}{N:Nat}
structure j3(κ:SortKind)(it:Nat->Keyed)(l:List Nat)(st:SortSt):Prop where
 kind:kindOf st=κ
 ok:failedOf st=none
 arr:arrOf st=(l.map it).toArray
variable{lt:Nat->Nat->Bool}
end
end L2
namespace L2
open PySem PySem.Spec PyProof.Rows
end L2
namespace L2
open PySem PySem.Spec PyProof.Rows PySem.W
end L2
namespace L2
open PySem PySem.Spec PyProof.Rows
end L2
namespace L2
open PySem PySem.Spec PyProof.Rows PySem.W
def mI(x:V)(Q:Int->Prop):Prop:=match x with| .int i=>Q i|_=>False
def mB(x:V)(Q:Bool->Prop):Prop:=match x with| .bl i=>Q i|_=>False
def mR(x:V)(Q:Addr->Prop):Prop:=match x with| .ref i=>Q i|_=>False
def mV(x:Option (Option V))(Q:V->Prop):Prop:=match x with|some (some v)=>Q v|_=>False
def mA(x:List V)(Q:V->Prop):Prop:=match x with|[v]=>Q v|_=>False
def mC(c:Bool)(A B:Prop):Prop:=if c=true then A else B
theorem xQ(A B:Prop):mC true A B=A:=rfl
theorem tM(A B:Prop):mC false A B=B:=rfl
theorem bL(c:TT)(t u:TS)(D:Tl)(σ:St)(H:Hp):Ix c t u D σ H=c σ H fun b H1=>mC b (t D σ H1) (u D σ H1):=rfl
theorem yW(t u:TT)(σ:St)(H:Hp)(Q:Bool->Hp->Prop):KO t u σ H Q=t σ H fun c H1=>mC c (u σ H1 Q) (Q false H1):=rfl
theorem uN(t u:TT)(σ:St)(H:Hp)(Q:Bool->Hp->Prop):Kl t u σ H Q=t σ H fun c H1=>mC c (Q true H1) (u σ H1 Q):=rfl
theorem r6(t:TT)(ta tb:TE)(σ:St)(H:Hp)(Q:VK):Fx t ta tb σ H Q=t σ H fun c H1=>mC c (ta σ H1 Q) (tb σ H1 Q):=rfl
theorem Hj(i:Int)(Q:Int->Prop):mI (.int i) Q=Q i:=rfl
theorem HZ(i:Bool)(Q:Bool->Prop):mB (.bl i) Q=Q i:=rfl
theorem Qq(i:Wk)(Q:Addr->Prop):mR (.ref i) Q=Q i:=rfl
theorem FI(v:V)(Q:V->Prop):mV (some (some v)) Q=Q v:=rfl
theorem Zf(v:V)(Q:V->Prop):mA [v] Q=Q v:=rfl
theorem Rx(x:V)(Q:Int->Prop):mI x Q=∃i,x= .int i/\Q i:=propext ⟨fun h=>by cases x <;> first|exact⟨_,rfl,h⟩|exact h.elim,fun⟨_,e,h⟩=>by subst e;exact h⟩
theorem Ae(x:V)(Q:Bool->Prop):mB x Q=∃i,x= .bl i/\Q i:=propext ⟨fun h=>by cases x <;> first|exact⟨_,rfl,h⟩|exact h.elim,fun⟨_,e,h⟩=>by subst e;exact h⟩
theorem DQ(x:V)(Q:Addr->Prop):mR x Q=∃i,x= .ref i/\Q i:=propext ⟨fun h=>by cases x <;> first|exact⟨_,rfl,h⟩|exact h.elim,fun⟨_,e,h⟩=>by subst e;exact h⟩
theorem OO(x:Option (Option V))(Q:V->Prop):mV x Q=∃v,x=some (some v)/\Q v:=propext ⟨fun h=>by rcases x with _|_|v <;> first|exact⟨_,rfl,h⟩|exact h.elim,fun⟨_,e,h⟩=>by subst e;exact h⟩
theorem EG(x:List V)(Q:V->Prop):mA x Q=∃v,x=[v]/\Q v:=propext ⟨fun h=>by rcases x with _|⟨v,_|⟨u,l⟩⟩ <;> first|exact⟨_,rfl,h⟩|exact h.elim,fun⟨_,e,h⟩=>by subst e;exact h⟩
section
variable{X:Cx}{K:Wi}
def RJ(i:Nat):TE:=fun σ H Q=>mV σ[i]? fun v=>Q v H
theorem Wq(i:Nat){x:Str}{pos:Pos}(hN:X.N[i]?=some x:=by rfl)(hv:Ac X.env.scope x:=by first|exact Or.inl rfl|exact Or.inr (Or.inl rfl)|exact Or.inr (Or.inr rfl))(hd:(x==("__debug__":Str))=false:=by decide)(hcd:(x==("__classdict__":Str))=false:=by decide):PE X (.Name x pos) (RJ i):=
 fun pins s σ H Q I h=>pv i hN hv hd hcd pins s σ H Q I (by unfold RJ at h;rw[OO]at h;exact h)
def AZ(C:Int->Int->Prop)(g:Int->Int->V):R2:=fun x y H Q=>mI x fun i=>mI y fun j=>C i j/\Q (g i j) H
def BF(g:Int->Int->V):R2:=fun x y H Q=>mI x fun i=>mI y fun j=>Q (g i j) H
theorem dI{f:Value->Value->Sem Value}{C:Int->Int->Prop}{g:Int->Int->V}(h:JW X f (rI C g)):JW X f (AZ C g):=h.imp fun x y H Q q=>by
 unfold AZ at q;simp only[Rx]at q;obtain⟨i,e,j,a,q⟩:=q;exact⟨i,j,e,a,q⟩
theorem Jy{f:Value->Value->Sem Value}{g:Int->Int->V}(h:JW X f (GK g)):JW X f (BF g):=h.imp fun x y H Q q=>by
 unfold BF at q;simp only[Rx]at q;obtain⟨i,e,j,a,q⟩:=q;exact⟨i,j,e,a,q⟩
def BV:R2:=fun x y H Q=>match x,y with
 | .int a,.int b=>D6 (.int a) (.int b)=true/\Q (.bl (decide (a=b))) H
 | .str a,.str b=>D6 (.str a) (.str b)=true/\Q (.bl (decide (a=b))) H
 |x,y=>D6 x y=true/\Q (.bl (decide (x=y))) H
def BS:R2:=fun x y H Q=>match x,y with
 | .int a,.int b=>D6 (.int a) (.int b)=true/\Q (.bl (!decide (a=b))) H
 | .str a,.str b=>D6 (.str a) (.str b)=true/\Q (.bl (!decide (a=b))) H
 |x,y=>D6 x y=true/\Q (.bl (!decide (x=y))) H
theorem Qp(a b:Int)(H:Hp)(Q:VK):BV (.int a) (.int b) H Q=(D6 (.int a) (.int b)=true/\Q (.bl (decide (a=b))) H):=rfl
theorem Sw(a b:Str)(H:Hp)(Q:VK):BV (.str a) (.str b) H Q=(D6 (.str a) (.str b)=true/\Q (.bl (decide (a=b))) H):=rfl
theorem Pa(a b:Int)(H:Hp)(Q:VK):BS (.int a) (.int b) H Q=(D6 (.int a) (.int b)=true/\Q (.bl (!decide (a=b))) H):=rfl
theorem Pl(a b:Str)(H:Hp)(Q:VK):BS (.str a) (.str b) H Q=(D6 (.str a) (.str b)=true/\Q (.bl (!decide (a=b))) H):=rfl
theorem Sb(x y:V)(H:Hp)(Q:VK):BV x y H Q=(D6 x y=true/\Q (.bl (decide (x=y))) H):=by
 unfold BV
 split
 .simp[D6]
 .simp[D6]
 .rfl
theorem Of(x y:V)(H:Hp)(Q:VK):BS x y H Q=(D6 x y=true/\Q (.bl (!decide (x=y))) H):=by
 unfold BS
 split
 .simp[D6]
 .simp[D6]
 .rfl
theorem TJ{f:Value->Value->Sem Value}(h:JW X f AW):JW X f BV:=h.imp fun x y H Q q=>by rw[Sb]at q;exact q
theorem RC{f:Value->Value->Sem Value}(h:JW X f Fd):JW X f BS:=h.imp fun x y H Q q=>by rw[Of]at q;exact q
def GC(t:TE):TT:=fun σ H Q=>t σ H fun x H1=>mB x fun c=>Q c H1
theorem OY(t:TE):tB t=GC t:=by unfold tB GC;simp only[Ae]
theorem cB{e:Wo}{t:TE}(h:PT X e (tB t)):PT X e (GC t):=OY t▸h
theorem cT{e:Wo}{t:TE}(h:PT X e (Ad t)):PT X e (GC t):=OY t▸h
def EH(ta tb:TE):TE:=fun σ H Q=>ta σ H fun x H1=>mB x fun c=>mC c (tb σ H1 Q) (Q (.bl false) H1)
def Bf(ta tb:TE):TE:=fun σ H Q=>ta σ H fun x H1=>mB x fun c=>mC c (Q (.bl true) H1) (tb σ H1 Q)
def Bq(ta:TE):TE:=fun σ H Q=>ta σ H fun x H1=>mB x fun c=>Q (.bl (!c)) H1
theorem tY{e:Wo}{ta tb:TE}(h:PE X e (Bp ta tb)):PE X e (EH ta tb):=by
 have:EH ta tb=Bp ta tb:=by unfold EH Bp mC;simp only[Ae]
 rw[this];exact h
theorem bR{e:Wo}{ta tb:TE}(h:PE X e (ET ta tb)):PE X e (Bf ta tb):=by
 have:Bf ta tb=ET ta tb:=by unfold Bf ET mC;simp only[Ae]
 rw[this];exact h
theorem tZ{e:Wo}{ta:TE}(h:PE X e (EF ta)):PE X e (Bq ta):=by
 have:Bq ta=EF ta:=by unfold Bq EF;simp only[Ae]
 rw[this];exact h
def Av(K:Wi):List V->Hp->VK->Prop:=fun xs H Q=>mA xs fun x=>mR x fun p=>∃ys,(WA K H p ys\/Ja K H p ys)/\Q (.int ys.length) H
theorem MX{f:Wj}(h:WY X f (AV K)):WY X f (Av K):=h.imp fun xs H Q q=>by
 unfold Av at q;simp only[EG,DQ]at q;obtain⟨x,e,p,rfl,ys,h1,q⟩:=q;exact⟨p,ys,e,h1,q⟩
theorem DI.imp{r r':R2}(h:DI X r)(hi:∀x y H Q,r' x y H Q->r x y H Q):DI X r':=fun a b pins s σ H x y v u Q I d c q z=>h a b pins s σ H x y v u Q I d c (hi _ _ _ _ q) z
def Aj(K:Wi):R2:=fun x y H Q=>mR x fun p=>∃xs,mI y fun i=>WA K H p xs/\∃v,Mn xs i=some v/\Q v H
def BG(K:Wi):R2:=fun x y H Q=>mR x fun p=>∃xs,mI y fun i=>Ja K H p xs/\∃v,Mn xs i=some v/\Q v H
def BU(K:Wi):R2:=fun x y H Q=>mR x fun p=>∃xs,mI y fun i=>(WA K H p xs\/Ja K H p xs)/\∃v,Mn xs i=some v/\Q v H
theorem tD(h:DI X (Ai K)):DI X (Aj K):=h.imp fun x y H Q q=>by
 unfold Aj at q;simp only[Rx,DQ]at q;obtain⟨p,e,xs,i,a,h1,v,h2,q⟩:=q;exact⟨p,xs,i,v,e,a,h1,h2,q⟩
theorem j5(h:DI X (A3 K)):DI X (BG K):=h.imp fun x y H Q q=>by
 unfold BG at q;simp only[Rx,DQ]at q;obtain⟨p,e,xs,i,a,h1,v,h2,q⟩:=q;exact⟨p,xs,i,v,e,a,h1,h2,q⟩
theorem mU(h:DI X (Ap K)):DI X (BU K):=h.imp fun x y H Q q=>by
 unfold BU at q;simp only[Rx,DQ]at q;obtain⟨p,e,xs,i,a,h1,v,h2,q⟩:=q;exact⟨p,xs,i,v,e,a,h1,h2,q⟩
def CA:V->List V->Hp->VK->Prop:=fun x vs H Q=>mR x fun l=>mA vs fun y=>∃xs,H l=some (.lst xs)/\xs.length < sizeLine/\∀G,JC l H G->G l=some (.lst (xs++[y]))->Q .non G
theorem Dc{id:String}(h:ML X id F3):ML X id CA:=h.imp fun x vs H Q q=>by
 unfold CA at q;simp only[EG,DQ]at q;obtain⟨l,e,y,a,xs,h1,h2,q⟩:=q;exact⟨l,xs,y,e,a,h1,h2,q⟩
def CT(K:Wi):List V->Hp->VK->Prop:=fun vs H Q=>mA vs fun x=>mR x fun p=>∃ys,(WA K H p ys\/Ja K H p ys)/\∀l G,H l=none->Ws H G->G l=some (.lst ys)->Q (.ref l) G
theorem Q8{f:Wj}(h:WY X f (Fg K)):WY X f (CT K):=h.imp fun xs H Q q=>by
 unfold CT at q;simp only[EG,DQ]at q;obtain⟨x,e,p,rfl,ys,h1,q⟩:=q;exact⟨p,ys,e,h1,q⟩
def Ch:R2:=fun x y H Q=>mR x fun l=>mR y fun b=>∃xs,H l=some (.lst xs)/\∃zs,H b=some (.lst zs)/\xs.length+ zs.length <=sizeLine/\∀p G,H p=none->Ws H G->G p=some (.lst (xs++zs))->Q (.ref p) G
theorem Bs{f:Value->Value->Sem Value}(h:JW X f Ar):JW X f Ch:=h.imp fun x y H Q q=>by
 unfold Ch at q;simp only[DQ]at q;obtain⟨l,e,b,a,xs,h1,zs,h2,q⟩:=q;exact⟨l,b,xs,zs,e,a,h1,h2,q⟩
def Bl(ta:TA):TI:=fun σ H R=>ta σ H fun vs H1=>mA vs fun x=>mI x fun j=> -(2 ^ 62) <=j/\j < 2 ^ 62/\R (R8 0 j.toNat) H1
theorem ZH{tg e:Wo}{ta:TA}(h:PI X tg e (Bc ta)):PI X tg e (Bl ta):=by
 have:Bl ta=Bc ta:=by
  unfold Bl Bc
  funext σ H R;congr;funext vs H1
  simp only[EG,Rx];exact propext ⟨fun⟨x,e,j,e2,q⟩=>⟨j,by rw[e,e2],q⟩,fun⟨j,e,q⟩=>⟨_,e,j,rfl,q⟩⟩
 rw[this];exact h
def EQ(K:Wi)(tl:TE):TI:=fun σ H R=>tl σ H fun x H1=>mR x fun a=>(∃xs,WA K H1 a xs)/\R (Rn K a) H1
theorem rH{tg e:Wo}{tl:TE}(h:PI X tg e (Em K tl)):PI X tg e (EQ K tl):=by
 have:EQ K tl=Em K tl:=by unfold EQ Em;simp only[DQ]
 rw[this];exact h
def Ce(K:Wi):R2:=fun x y H Q=>mR x fun a=>mR y fun b=>∃xs,WA K H a xs/\WA K H b []/\Q (.bl (decide (xs.length=0))) H
theorem Q5{f:Value->Value->Sem Value}(h:JW X f (AY K)):JW X f (Ce K):=h.imp fun x y H Q q=>by
 unfold Ce at q;simp only[DQ]at q;obtain⟨a,e,b,c,xs,h1,h2,q⟩:=q;exact⟨a,b,xs,e,c,h1,h2,q⟩
def AH:R2:=fun y x H Q=>mI y fun n=>mR x fun a=>∃kvs,H a=some (.dK kvs)/\Q (.bl (WM kvs (Sum.inl n)).isSome) H
def Aw:R2:=fun y x H Q=>mI y fun n=>mR x fun a=>∃kvs,H a=some (.dK kvs)/\Q (.bl (!(WM kvs (Sum.inl n)).isSome)) H
theorem vG{f:Value->Value->Sem Value}(h:JW X f Cp):JW X f AH:=h.imp fun x y H Q q=>by
 unfold AH at q;simp only[DQ,Rx]at q;obtain⟨n,e,a,b,kvs,h1,q⟩:=q;exact⟨a,n,kvs,e,b,h1,q⟩
theorem Il{f:Value->Value->Sem Value}(h:JW X f Cv):JW X f Aw:=h.imp fun x y H Q q=>by
 unfold Aw at q;simp only[DQ,Rx]at q;obtain⟨n,e,a,b,kvs,h1,q⟩:=q;exact⟨a,n,kvs,e,b,h1,q⟩
def AR(K:Wi):V->Option Int->Option Int->Hp->VK->Prop:=fun x lo hi H Q=>mR x fun a=>∃xs,WA K H a xs/\∀p G,H p=none->Ws H G->G p=some (.lst (DY xs lo hi))->Q (.ref p) G
theorem PN(h:RB X (Ax K)):RB X (AR K):=h.imp fun x lo hi H Q q=>by
 unfold AR at q;simp only[DQ]at q;obtain⟨a,e,xs,q⟩:=q;exact⟨a,xs,e,q⟩
def AI:V->List V->Hp->VK->Prop:=fun x vs H Q=>mR x fun l=>mA vs fun y=>mR y fun b=>∃xs,H l=some (.lst xs)/\∃zs,H b=some (.lst zs)/\xs.length+ zs.length <=sizeLine/\∀G,JC l H G->G l=some (.lst (xs++zs))->Q .non G
theorem ZD{id:String}(h:ML X id AA):ML X id AI:=h.imp fun x vs H Q q=>by
 unfold AI at q;simp only[EG,DQ]at q;obtain⟨l,e,y,a,b,rfl,xs,h1,zs,h2,q⟩:=q;exact⟨l,b,xs,zs,e,a,h1,h2,q⟩
variable{a b:Wo}{ta tb:TE}{rest:List Expr}{pos:Pos}
theorem Tx{e:Wo}{t:TE}(h:PE X e t)(he:∀whole,isTrue e X.env whole=(do let v <-whole;standAt e.pos;holding [v] (truthy v)):=by intro _;rfl):PT X e (GC t):=cB (bB h he)
theorem RW{op:CmpOp}{r:R2}(ho:JW X (compareOp op) r)(ha:PE X a ta)(hb:PE X b tb)(hm:behindInMarks op b=false):PT X (.Compare a [op] [b] pos) (GC (DM r ta tb)):=cT (wD ho ha hb hm)
theorem MJ(ha:PE X a ta)(hb:PE X (.BoolOp .And (b::rest) pos) tb):PE X (.BoolOp .And (a::b::rest) pos) (EH ta tb):=tY (gC ha hb)
theorem Zh(ha:PE X a ta)(hb:PE X (.BoolOp .Or (b::rest) pos) tb):PE X (.BoolOp .Or (a::b::rest) pos) (Bf ta tb):=bR (j8 ha hb)
theorem CY(ha:PE X a ta):PE X (.UnaryOp .Not a pos) (Bq ta):=tZ (nL ha)
theorem Ef{tg a:Wo}{ta:TA}{p pos:Pos}(hg:Gl X "range")(hm:X.mg "range"=none)(ha:PA X [a] ta)(hs:starEach [a] X.env=[(false,eval a X.env)]:=by rfl):PI X tg (.Call (.Name "range" p) [a] [] pos) (Bl ta):=ZH (wS hg hm ha hs)
theorem GE{tg l:Wo}{tl:TE}(h:X.K=K)(hl:PE X l tl):PI X tg l (EQ K tl):=rH (gH h hl)
end
theorem _root_.L2.Room.m{j k:Nat}{A:Wg}(r:Room k A)(h:j <=k:=by decide):Room j A:=r.mono h
section
variable{X:Cx}{es:List Expr}{t:TA}{te ta tb:TE}{pos:Pos}{x:Str}{ps N:List Str}{a b:Wo}
theorem Wx(i:Nat)(hr:PA X es t)(hN:X.N[i]?=some x:=by rfl)(hv:Ac X.env.scope x:=by first|exact Or.inl rfl|exact Or.inr (Or.inl rfl)|exact Or.inr (Or.inr rfl))(hd:(x==("__debug__":Str))=false:=by decide)(hcd:(x==("__classdict__":Str))=false:=by decide):PA X (.Name x pos::es) (D0 (RJ i) t):=J7 (Wq i hN hv hd hcd) hr Dl
theorem NI{v:Const}{k:Nat}(ha:PE X (.Constant v k pos) te)(hr:PA X es t):PA X (.Constant v k pos::es) (D0 te t):=J7 ha hr TM
theorem NT(ha:PE X (.Subscript a b pos) te)(hr:PA X es t):PA X (.Subscript a b pos::es) (D0 te t):=J7 ha hr xB
theorem TF(ha:PE X (.Attribute a x pos) te)(hr:PA X es t):PA X (.Attribute a x pos::es) (D0 te t):=J7 ha hr rM
theorem MG{gs:List Expr}{ks:List Keyword}(ha:PE X (.Call a gs ks pos) te)(hr:PA X es t):PA X (.Call a gs ks pos::es) (D0 te t):=J7 ha hr mG
theorem JP(i:Nat){pos':Pos}(S:Jx X.N ps X.env.scope)(he:PE X a te)(hi:X.N[i]?=some x:=by rfl)(hx:El X.env.scope x:=by exact Or.inl rfl)(hs:swapsWith a (some (.Name x pos')) pos.line X.env=pure false:=by rfl)(hf:X.fn x=true\/X.env.scope.names.lookup x=some .local:=by first|exact .inl rfl|exact .inr rfl|assumption):
  PS X (.Assign [.Name x pos'] a pos) (E1 te (Go i)):=IR S.nd hi hx he hs hf
theorem Tg(i:Nat)(S:Jx X.N ps X.env.scope)(hi:X.N[i]?=some x:=by rfl)(hx:El X.env.scope x:=by exact Or.inl rfl)(hf:X.fn x=true\/X.env.scope.names.lookup x=some .local:=by first|exact .inl rfl|exact .inr rfl|assumption):PG X (.Name x pos) (Go i):=Ms S.nd hi hx hf
theorem Jv(K:Wi)(he:PE X a te)(h:X.K=K:=by rfl)(hb:attributeBase a x X.env (eval a X.env)=eval a X.env:=by rfl):PE X (.Attribute a x pos) (As K te x):=nZ h he hb
theorem Mm(K:Wi)(ha:PE X a ta)(hb:PE X b tb)(h:X.K=K:=by rfl)(hs:Fi b:=by exact fun _ _=>rfl):PE X (.Subscript a b pos) (DM (Aj K) ta tb):=DU (tD (Gp h)) ha hb hs
theorem Mz(K:Wi)(ha:PE X a ta)(hb:PE X b tb)(h:X.K=K:=by rfl)(hs:Fi b:=by exact fun _ _=>rfl):PE X (.Subscript a b pos) (DM (BG K) ta tb):=DU (j5 (Ze h)) ha hb hs
theorem Iv(K:Wi)(ha:PE X a ta)(hb:PE X b tb)(h:X.K=K:=by rfl)(hs:Fi b:=by exact fun _ _=>rfl):PE X (.Subscript a b pos) (DM (BU K) ta tb):=DU (mU (aJ h)) ha hb hs
theorem JA{op:CmpOp}{r:R2}(ho:JW X (compareOp op) r)(ha:PE X a ta)(hb:PE X b tb)(hm:behindInMarks op b=false:=by exact MI _):PT X (.Compare a [op] [b] pos) (GC (DM r ta tb)):=RW ho ha hb hm
theorem Jt{k:Nat}{A:Wg}(hr:Room k A)(ha:PE X a ta)(hb:PE X b tb)(e:X.A=A:=by rfl)(hs:HC b:=by exact fun _ _=>rfl):PE X (.Subscript a b pos) (Cj ta tb):=gM (e▸TZ hr) ha hb hs
theorem N4{id:String}{r:List V->Hp->VK->Prop}{p:Pos}(hc:WY X (.builtin id) r)(hm:X.mg x=none)(ha:PA X (a::es) t)(hg:Gl X x:=by rfl)(hv:bootBuiltins x=some (.builtin id):=by rfl)(hn:x≠"__name__":=by decide)(hdb:(x==("__debug__":Str))=false:=by decide)
  (he:starEach (a::es) X.env=(false,eval a X.env)::starEach es X.env:=by rfl) (hpl:(backTo pos (starEach es X.env)).any (·.1)=false:=by rfl):PE X (.Call (.Name x p) (a::es) [] pos) (A1 r t):=mD hc hg hm hv ha hn hdb he hpl
end
end L2
namespace Mine
open PySem L2 PyProof.Rows
local macro_rules | `(tactic| walk_at"e")=>`(tactic| exact ⟨rfl,rfl,rfl,by decide +kernel,rfl,by decide +kernel,by decide +kernel⟩)
local macro_rules | `(tactic| walk_at"rd") => do
 let f:=fun(s:String)=>(s.splitOn " ").toArray.mapM fun x=>`(Lean.Parser.Tactic.simpLemma|$(Lean.mkIdent x.toName):term)
 let a<-f "Sy Bool.not_true Bool.not_false RJ AZ BF GC EH Bf Bq Av Aj BG BU CA CT Ch Bl EQ Ce AH Aw AR AI Hj HZ Qq FI Zf Qp Sw Pa Pl Nat.reduceAdd I0 Kz Dz HA FQ KU AV HM IS E1 Go BZ tC DM L8 Ad tB Fp HH Ep D0 Dx A1 Kq Ll Bp ET EF Cq C5 CK CH Fl Ii C0 Kr Lz Lu Ku rI GK rU AW Fd KQ Lr Ls Em Bc GQ K6 N5 Ai A3 Ap FA Ki IV Hq F4 L2.start BY Az Ar Fg Ax F3 AA Hh Ir Fy At As Lv Ld Hk Fu AY Cp KW Ic Ij LA KI Hi IZ FH K0 HG L6 Ft Hd IM LN Ly Ko CO AU FZ FD F0 C3 LH Aa Cj K3 Ak FN Cv Ln ID FX List.map_cons List.map_nil List.length_cons List.length_nil List.cons_append List.nil_append List.getElem?_cons_zero List.getElem?_cons_succ List.set_cons_zero List.set_cons_succ Option.bind_some Option.bind_none Option.join_some List.replicate"
 let b<-f "xQ tM bL yW uN r6"
 let c<-f "Rx Ae DQ OO EG Sb Of Ix KO Kl Fx Nat.reduceSub List.append_nil Option.some.injEq V.int.injEq V.bl.injEq V.str.injEq V.ref.injEq V.ty.injEq exists_eq_left' exists_eq_left exists_and_left and_assoc and_true true_and List.cons.injEq exists_eq exists_eq' exists_const Nat.reduceLT Nat.reduceLeDiff if_true Bool.false_eq_true if_false reduceCtorEq false_and and_false exists_false aB nK j2 uX"
 `(tactic|((try dsimp only[$b,*,$a,*]);(try dsimp only[mC]);(try simp only[$a,*,$c,*])))
local macro_rules | `(tactic| walk_at"wt") => `(tactic| dsimp only [GC, DM, RJ, BF, FI, Hj, HZ, List.getElem?_cons_zero, List.getElem?_cons_succ])
local macro_rules | `(tactic| walk_at"ne") => `(tactic| first | assumption | (apply Ne.symm; assumption) | grind [Ws, JC])
local macro_rules | `(tactic| walk_at"hp") => `(tactic| first | assumption | exact Jp | (refine Ws.get (by assumption) ?_; walk_at"hp") | (refine JC.get (by assumption) ?_ ?_; (· walk_at"hp"); (· walk_at"ne")))
def top(i:Nat):Stmt:=PySem.Challenge.pw_pieceways_k41_a_room_by_a_model.main.body.getD i (.Pass ⟨0,0,0,0⟩)
structure Cn(mg:W8):Prop where
 c_MOST_NUMBER:∃t,mg "MOST_NUMBER"=some (.int 65535 t)
 c_MOST_BYTE:∃t,mg "MOST_BYTE"=some (.int 255 t)
 c_MOST_SIGNS:∃t,mg "MOST_SIGNS"=some (.int 8 t)
 c_MOST_BYTES:∃t,mg "MOST_BYTES"=some (.int 4000 t)
 c_STEP:∃t,mg "STEP"=some (.int 8 t)
section
variable{P:Wc}{w:Wh}{K:Wi}{mg:W8}{base:Wn}
inductive Cz(vs:List V)(H:Hp)(Q:VK)(E:XK):Prop|mk (x n:_) (_:vs=[x]) (_:TN H x=some n) (_:Q (.bl (R1 x)) H)
abbrev FK:Stmt:=top 9
theorem eE:Jx ["value"] ["value"] (Wp FK):=by walk_at"e"
theorem nN{f:Wk}{fd:Wf}(F:JE K "is_whole" "is_whole" FK f fd)(B:Bt mg):Wz P w K mg base Jf 1 f fd ["value"] Cz:=by
 refine F.ok eE (fun vs H Q E h=>?_) (fun b A a s H vs Q E c h=>?_)
 .obtain⟨x,n,rfl,_⟩:=h;rfl
 .obtain⟨x,n,rfl,ty,q⟩:=h;refine⟨_,(WH (Jd (MJ (N4 (R6 "int") B.isinstance (Wx 0 (J7 (hs:=Dl) (R5 (v:=.ty "int") rfl B.bint (by rfl) rfl) Wu))) (Dj (CY (N4 (R6 "bool") B.isinstance (Wx 0 (J7 (hs:=Dl) (R5 (v:=.ty "bool") rfl B.bbool (by rfl) rfl) Wu)))))))),?_⟩;walk_at"rd";refine⟨n,ty,?_⟩;rw[rP ty];refine Tj (fun h=>⟨n,ty,?_⟩) (fun h=>?_)
  .rw[OA ty];have e:(!Rh x)=R1 x:=by cases x <;> first|rfl|(simp[R1,Rh]at h)
   rw[e];exact q
  .have e:R1 x=false:=by cases x <;> first|rfl|(simp[R1,Rh]at h)
   rw[e]at q;exact q
inductive KP(vs:List V)(H:Hp)(Q:VK)(E:XK):Prop|mk (x n lo hi:_) (_:vs=[x,.int lo,.int hi]) (_:TN H x=some n) (_:Q (.bl (D2 x lo hi)) H)
abbrev FE:Stmt:=top 10
theorem Zv:Jx ["value","low","high"] ["value","low","high"] (Wp FE):=by walk_at"e"
theorem eZ{f:Wk}{fd:Wf}(F:JE K "is_whole_within" "is_whole_within" FE f fd)(JQ:N6 P w K mg base "is_whole" 1 ["value"] [] Cz):Wz P w K mg base Jf 2 f fd ["value","low","high"] KP:=by
 refine F.ok Zv (fun vs H Q E h=>?_) (fun c A a s H vs Q E b h=>?_)
 .obtain⟨x,n,lo,hi,rfl,_⟩:=h;rfl
 .obtain⟨x,n,lo,hi,rfl,ty,q⟩:=h;refine⟨_,(WH (Jd (MJ (JT JQ b.m rfl (Wx 0 Wu)) (Dj (Pi (Jy GU) (Jy GU) (Wq 1) (Wq 0) (Wq 2)))))),?_⟩;walk_at"rd";refine⟨x,n,rfl,ty,_,rfl,?_⟩;refine Tj (fun h=>?_) (fun h=>?_)
  .cases x <;> first|(simp[R1]at h;done)|skip
   rename_i i
   walk_at"rd"
   by_cases h1:lo <=i
   .simp only[h1,Xt,if_true];simpa[D2,h1] using q
   .simp only[h1,Xq,Bool.false_eq_true,if_false];simpa[D2,h1] using q
  .have e:D2 x lo hi=false:=by cases x <;> first|rfl|(simp[R1]at h)
   rw[e]at q;exact q
inductive FV(vs:List V)(H:Hp)(Q:VK)(E:XK):Prop|mk (x n:_) (_:vs=[x]) (_:TN H x=some n) (_:Q (.bl (Rh x)) H)
abbrev K5:Stmt:=top 12
theorem r9:Jx ["value"] ["value"] (Wp K5):=by walk_at"e"
theorem jT{f:Wk}{fd:Wf}(F:JE K "is_truth" "is_truth" K5 f fd)(B:Bt mg):Wz P w K mg base Jf 1 f fd ["value"] FV:=by
 refine F.ok r9 (fun vs H Q E h=>?_) (fun b A a s H vs Q E c h=>?_)
 .obtain⟨x,n,rfl,_⟩:=h;rfl
 .obtain⟨x,n,rfl,ty,q⟩:=h;refine⟨_,(WH (Jd (N4 (R6 "bool") B.isinstance (Wx 0 (J7 (hs:=Dl) (R5 (v:=.ty "bool") rfl B.bbool (by rfl) rfl) Wu))))),?_⟩;walk_at"rd";exact⟨n,ty,by rw[OA ty];exact q⟩
inductive Ha(vs:List V)(H:Hp)(Q:VK)(E:XK):Prop|mk (x n:_) (_:vs=[x]) (_:TN H x=some n) (_:Q (.bl (D2 x 0 65535)) H)
abbrev Hl:Stmt:=top 13
theorem rK:Jx ["value"] ["value"] (Wp Hl):=by walk_at"e"
theorem bF{f:Wk}{fd:Wf}(F:JE K "is_number" "is_number" Hl f fd)(T:Cn mg)(Ji:N6 P w K mg base "is_whole_within" 2 ["value","low","high"] [] KP):Wz P w K mg base Jf 3 f fd ["value"] Ha:=by
 refine F.ok rK (fun vs H Q E h=>?_) (fun c A a s H vs Q E b h=>?_)
 .obtain⟨x,n,rfl,_⟩:=h;rfl
 .obtain⟨x,n,rfl,ty,q⟩:=h;refine⟨_,(WH (Jd (JT Ji b.m rfl (Wx 0 (NI WE (J7 (hs:=Dl) (RM rfl T.c_MOST_NUMBER) Wu)))))),?_⟩;walk_at"rd";exact⟨x,n,0,65535,rfl,ty,q⟩
inductive Pn(vs:List V)(H:Hp)(Q:VK)(E:XK):Prop|mk (x n:_) (_:vs=[x]) (_:TN H x=some n) (_:Q (.bl (D2 x 0 255)) H)
abbrev Lo:Stmt:=top 16
theorem wV:Jx ["value"] ["value"] (Wp Lo):=by walk_at"e"
theorem bI{f:Wk}{fd:Wf}(F:JE K "is_byte" "is_byte" Lo f fd)(T:Cn mg)(Ji:N6 P w K mg base "is_whole_within" 2 ["value","low","high"] [] KP):Wz P w K mg base Jf 3 f fd ["value"] Pn:=by
 refine F.ok wV (fun vs H Q E h=>?_) (fun c A a s H vs Q E b h=>?_)
 .obtain⟨x,n,rfl,_⟩:=h;rfl
 .obtain⟨x,n,rfl,ty,q⟩:=h;refine⟨_,(WH (Jd (JT Ji b.m rfl (Wx 0 (NI WE (J7 (hs:=Dl) (RM rfl T.c_MOST_BYTE) Wu)))))),?_⟩;walk_at"rd";exact⟨x,n,0,255,rfl,ty,q⟩
inductive Kw(vs:List V)(H:Hp)(Q:VK)(E:XK):Prop|mk (x n:_) (_:vs=[x]) (_:TN H x=some n) (_:(∀z,x= .str z->z.length <=100000)) (_:∀H',Ws H H'->Q (.bl (MW x)) H')
abbrev C6:Stmt:=top 14
theorem wF:Jx ["value"] ["value"] (Wp C6):=by walk_at"e"
theorem ZX{f:Wk}{fd:Wf}(F:JE K "is_name" "is_name" C6 f fd)(T:Cn mg)(B:Bt mg):Wz P w K mg base Jf 1 f fd ["value"] Kw:=by
 refine F.ok wF (fun vs H Q E h=>?_) (fun cdv A outer s H vs Q E hr h=>?_)
 .obtain⟨x,n,rfl,_⟩:=h;rfl
 .obtain⟨x,n,rfl,ty,hz,q⟩:=h;refine⟨_,(WB (JJ (PW.pt (Dh (MA (Tx (N4 (R6 "str") B.isinstance (Wx 0 (J7 (hs:=Dl) (R5 (v:=.ty "str") rfl B.bstr (by rfl) rfl) Wu))))) (DH (MA (QB (Jy GU) (Jy GU) WE (N4 eQ B.len (Wx 0 Wu)) (RM rfl T.c_MOST_SIGNS)))))) (WH (Jd Re)) JV) (WH (Jd (N4 (QK (K:=K) rfl rfl) B.all (J7 (hs:=GB) (Di (N':=["sign"]) (caps:=[none]) (MR (sc:=Wp C6) (N:=["value"]) rfl rfl (by decide +kernel)) rfl (n6 (Wq 0)) (fun _ _ _ _ _=>(Ms (i:=0) (MB (N:=["sign"]) rfl (by decide +kernel)) rfl (Or.inl rfl))) (fun _ _ _ _ _=>DC) (fun _ _ _ _ _=>(Pi Qw Qw WK (Wq 0) WK))) Wu))))),?_⟩;walk_at"rd";refine⟨n,ty,?_⟩;rw[uT ty];cases x <;> first
   |(simp only[IE,Bool.not_false,if_true];exact q H (Ws.refl H))
   |skip
  rename_i z
  have r:=hz z rfl;simp only[IE,Bool.not_true,Bool.false_eq_true,if_false];walk_at"rd";refine⟨Jc r,?_⟩;have y:∀b,MW (.str z)=b->∀H',Ws H H'->Q (.bl b) H':=fun b e H' s=>e▸q H' s
  by_cases h1:1 <=z.length
  .have j:(1:Int) <=(z.length:Int):=by lia
   simp only[j,Xt,if_true]
   by_cases h2:z.length <=8
   .have d:(z.length:Int) <=8:=by lia
    simp only[d,Xt,Bool.not_true,Bool.false_eq_true,if_false];have hsz:z.cps.size=z.length:=rfl;obtain⟨Pv,a⟩:∃Pv:Nat->List V->L2.St->Hp->Prop,Pv=fun i ys σ' H1=>H1=H/\i <=z.cps.size/\ys=(z.cps.toList.take i).map (fun c=>V.bl (EE c))/\∃v,σ'=[v]:=⟨_,rfl⟩
    refine x8 Pv (by rw[a];exact⟨rfl,YF _,by simp,none,rfl⟩) ?_ (by rw[hsz];exact Jc r) ?_ ?_ <;> rw[a]
    .rintro i ys σ' H1 ⟨_,hi,rfl,_⟩ _;simp only[Y1,Yt];lia
    .rintro i c ys σ' H1 hc ⟨rfl,hi,rfl,v,rfl⟩;rw[<-a];have u:i < z.cps.size:=(Uv.mp hc).1;walk_at"rd";obtain⟨e1,e2⟩:=nQ c;rw[e1,e2];have et:z.cps.toList.take (i+ 1)=z.cps.toList.take i++[c]:=by
      rw[YK];have:z.cps.toList[i]?=some c:=by rw[Array.getElem?_toList];exact hc
      rw[this];rfl
     have eb:V.bl (EE c)=V.bl (decide (97 <=c) && decide (c <=122)):=rfl
     by_cases k1:97 <=c
     .simp only[k1,Xt,if_true];rw[a];exact⟨rfl,u,by rw[et,Yf,List.map_cons,List.map_nil,eb];simp[k1],_,rfl⟩
     .simp only[k1,Xq,Bool.false_eq_true,if_false];rw[a];exact⟨rfl,u,by rw[et,Yf,List.map_cons,List.map_nil,eb];simp[k1],_,rfl⟩
    .rintro ys σ' H1 ⟨rfl,_,rfl,_⟩ p hp;walk_at"rd";refine⟨z.cps.toList.map EE,WA.of ?_,?_⟩
     .rw[Jp];have:z.cps.toList.take z.cps.size=z.cps.toList:=by rw[YA];simp
      rw[this,Yo];rfl
     .refine y _ ?_ _ (Ws.new (Ws.refl _) hp);simp only[MW,h1,h2,Xt,U9,List.all_map];rfl
   .have d:¬(z.length:Int) <=8:=by lia
    simp only[d,Xq,Bool.not_false,if_true];exact y _ (by simp[MW,h2]) H (Ws.refl H)
  .have j:¬(1:Int) <=(z.length:Int):=by lia
   simp only[j,Xq,Bool.false_eq_true,if_false,Bool.not_false,if_true,true_and,exists_eq_left'];exact y _ (by simp[MW,h1]) H (Ws.refl H)
def Mt(H:Hp)(x:V):Prop:=∀a xs,x= .ref a->H a=some (.lst xs)->xs.length <=100000/\∀y∈xs,∃n,TN H y=some n
inductive Qu(vs:List V)(H:Hp)(Q:VK)(E:XK):Prop|mk (x n:_) (_:vs=[x]) (_:TN H x=some n) (_:Mt H x) (_:∀H',Ws H H'->Q (.bl (Gn H x)) H')
abbrev F5:Stmt:=top 17
theorem uY:Jx ["value"] ["value"] (Wp F5):=by walk_at"e"
theorem rA{f:Wk}{fd:Wf}(F:JE K "is_body" "is_body" F5 f fd)(T:Cn mg)(B:Bt mg)(M7:N6 P w K mg base "is_byte" 3 ["value"] [] Pn):Wz P w K mg base Jf 4 f fd ["value"] Qu:=by
 refine F.ok uY (fun vs H Q E h=>?_) (fun cdv A ac s H vs Q E hr h=>?_)
 .obtain⟨x,n,rfl,_⟩:=h;rfl
 .obtain⟨x,n,rfl,ty,hz,q⟩:=h;refine⟨_,(WB (JJ (PW.pt (Dh (MA (Tx (N4 (R6 "list") B.isinstance (Wx 0 (J7 (hs:=Dl) (R5 (v:=.ty "list") rfl B.blist (by rfl) rfl) Wu))))) (DH (MA (QB (Jy GU) (Jy GU) WE (N4 (MX (MV (K:=K) rfl)) B.len (Wx 0 Wu)) (RM rfl T.c_MOST_BYTES)))))) (WH (Jd Re)) JV) (WH (Jd (N4 (QK (K:=K) rfl rfl) B.all (J7 (hs:=GB) (Di (N':=["part"]) (caps:=[none]) (MR (sc:=Wp F5) (N:=["value"]) rfl rfl (by decide +kernel)) rfl (GE (K:=K) rfl (Wq 0)) (fun _ _ _ _ _=>(Ms (i:=0) (MB (N:=["part"]) rfl (by decide +kernel)) rfl (Or.inl rfl))) (fun _ _ _ _ _=>DC) (fun _ _ _ _ _=>(JT M7 hr.m rfl (Wx 0 Wu)))) Wu))))),?_⟩;walk_at"rd";refine⟨n,ty,?_⟩;rw[rT ty];cases hL:Ag H x with
  |false=>
   simp only[Bool.not_false,if_true];have e:=uC hL;rw[e]at q;exact q H (Ws.refl H)
  |true=>
   obtain⟨a,xs,rfl,c⟩:=nJ hL;obtain⟨u,aa⟩:=hz a xs rfl c;rw[Oe c]at q;simp only[Bool.not_true,Bool.false_eq_true,if_false];walk_at"rd";refine⟨xs,.inl (WA.of c),?_⟩
   by_cases h1:1 <=xs.length
   .have j:(1:Int) <=(xs.length:Int):=by lia
    simp only[j,Xt,if_true]
    by_cases h2:xs.length <=4000
    .have d:(xs.length:Int) <=4000:=by lia
     simp only[d,Xt,Bool.not_true,Bool.false_eq_true,if_false];refine⟨⟨xs,WA.of c⟩,?_⟩;obtain⟨z,b⟩:∃z:Nat->List V->L2.St->Hp->Prop,z=fun i ys σ' H1=>H1=H/\i <=xs.length/\ys=(xs.take i).map (fun y=>V.bl (D2 y 0 255))/\∃v,σ'=[v]:=⟨_,rfl⟩
     refine Oz (xs:=xs) z (by rw[b];exact⟨rfl,YF _,by simp,none,rfl⟩) ?_ (Jc u) ?_ ?_ <;> rw[b]
     .rintro i ys σ' H1 ⟨rfl,hi,rfl,_⟩ _;refine⟨WA.of c,?_⟩;simp only[Y1,Yt];lia
     .rintro i y ys σ' H1 r ⟨rfl,hi,rfl,v,rfl⟩;rw[<-b];have ab:i < xs.length:=(Yq.mp r).1;obtain⟨m,hm⟩:=aa y (Yx r);walk_at"rd";refine⟨y,m,rfl,hm,?_⟩;rw[b];refine⟨rfl,ab,?_,_,rfl⟩;rw[YK,r,Xc,Yf,List.map_cons,List.map_nil]
     .rintro ys σ' H1 ⟨rfl,_,rfl,_⟩ p hp;walk_at"rd";refine⟨xs.map (fun y=>D2 y 0 255),WA.of ?_,?_⟩
      .rw[Jp,YA (Y6 _),Yo];rfl
      .have e:(xs.map (fun y=>D2 y 0 255)).all id=(decide (1 <=xs.length) && decide (xs.length <=4000) && xs.all (fun y=>D2 y 0 255)):=by
        simp only[h1,h2,Xt,U9,List.all_map];rfl
       rw[e];exact q _ (Ws.new (Ws.refl _) hp)
    .have d:¬(xs.length:Int) <=4000:=by lia
     simp only[d,Xq,Bool.not_false,if_true];simp only[h2,Xq,Bool.and_false,XJ]at q;exact q H (Ws.refl H)
   .have j:¬(1:Int) <=(xs.length:Int):=by lia
    simp only[j,Xq,Bool.false_eq_true,if_false,Bool.not_false,if_true,true_and,exists_eq_left'];simp only[h1,Xq,XJ]at q;exact q H (Ws.refl H)
def Nu(H:Hp)(number sender goal body keep:V):Bool:=D2 number 0 65535 && (MW sender && (MW goal && (Gn H body && Rh keep)))
structure Fc(H:Hp)(number sender goal body keep:V):Prop where
 n:∃t,TN H number=some t
 s:∃t,TN H sender=some t
 sl:∀z,sender= .str z->z.length <=100000
 g:∃t,TN H goal=some t
 gl:∀z,goal= .str z->z.length <=100000
 b:∃t,TN H body=some t
 bp:Mt H body
 k:∃t,TN H keep=some t
theorem Ps{H H':Hp}(s:Ws H H'){x:V}{n:String}(ty:TN H x=some n):Gn H' x=Gn H x:=by
 cases x with
 |ref a=>
  have ty:(H a).bind DN=some n:=ty;cases e:H a with
  |none=>rw[e]at ty;cases ty
  |some o=>
   show(match H' a with|some (.lst xs)=>_|_=>false)=(match H a with|some (.lst xs)=>_|_=>false);rw[s a o e,e]
 |_=>rfl
theorem Mt.same{H H':Hp}(s:Ws H H'){x:V}{n:String}(ty:TN H x=some n)(h:Mt H x):Mt H' x:=by
 intro a xs ex f;subst ex;have b:(H a).bind DN=some n:=ty;cases e:H a with
 |none=>rw[e]at b;cases b
 |some o=>
  have:=s a o e;rw[f]at this;cases this;obtain⟨h1,h2⟩:=h a xs rfl e;exact⟨h1,fun y c=>by obtain⟨m,d⟩:=h2 y c;exact⟨m,CD s d⟩⟩
inductive Ip(vs:List V)(H:Hp)(Q:VK)(E:XK):Prop|mk (number sender goal body keep:_) (_:vs=[number,sender,goal,body,keep]) (_:Fc H number sender goal body keep) (_:∀H',Ws H H'->Q (.bl (Nu H number sender goal body keep)) H')
abbrev Fs:Stmt:=top 30
theorem wC:Jx ["number","sender","goal","body","keep"] ["number","sender","goal","body","keep"] (Wp Fs):=by walk_at"e"
theorem dC{f:Wk}{fd:Wf}(F:JE K "are_shared_parts" "are_shared_parts" Fs f fd)(Nj:N6 P w K mg base "is_number" 3 ["value"] [] Ha)(Nd:N6 P w K mg base "is_name" 1 ["value"] [] Kw)
  (Ma:N6 P w K mg base "is_body" 4 ["value"] [] Qu) (NC:N6 P w K mg base "is_truth" 1 ["value"] [] FV):Wz P w K mg base Jf 5 f fd ["number","sender","goal","body","keep"] Ip:=by
 refine F.ok wC (fun vs H Q E h=>?_) (fun cdv A ab s H vs Q E j h=>?_)
 .obtain⟨a,b,c,d,e,rfl,_⟩:=h;rfl
 .obtain⟨nu,se,go,bo,ke,rfl,⟨⟨tn,hn⟩,⟨ts,hs⟩,y,⟨tg,hg⟩,z,⟨tb,u⟩,aa,⟨tk,hk⟩⟩,q⟩:=h;refine⟨_,(WH (Jd (MJ (JT Nj j.m rfl (Wx 0 Wu)) (MJ (JT Nd j.m rfl (Wx 1 Wu)) (MJ (JT Nd j.m rfl (Wx 2 Wu)) (MJ (JT Ma j.m rfl (Wx 3 Wu)) (Dj (JT NC j.m rfl (Wx 4 Wu))))))))),?_⟩;walk_at"rd";unfold Nu at q;refine⟨nu,tn,rfl,hn,_,rfl,Tj (fun h1=>?_) (fun h1=>?_)⟩
  .refine⟨se,ts,rfl,hs,y,fun H1 r=>⟨_,rfl,Tj (fun h2=>?_) (fun h2=>?_)⟩⟩
   .refine⟨go,tg,rfl,CD r hg,z,fun H2 x=>⟨_,rfl,Tj (fun p=>?_) (fun p=>?_)⟩⟩
    .have i:=r.trans x;refine⟨bo,tb,rfl,CD i u,aa.same i u,fun H3 v=>⟨_,rfl,Tj (fun n=>?_) (fun n=>?_)⟩⟩
     .refine⟨ke,tk,rfl,CD (i.trans v) hk,?_⟩;rw[Ps i u]at n;simp only[h1,h2,p,n,U9]at q;exact q _ (i.trans v)
     .rw[Ps i u,V3]at n;simp only[h1,h2,p,n,U9,XJ]at q;exact q _ (i.trans v)
    .rw[V3]at p;simp only[h1,h2,p,U9,XJ]at q;exact q _ (r.trans x)
   .rw[V3]at h2;simp only[h1,h2,U9,XJ]at q;exact q _ r
  .rw[V3]at h1;simp only[h1,XJ]at q;exact q H (Ws.refl H)
end
section
theorem Jg{f:Str}{v:V}{fs:List (Str×V)}{n:Nat}(h:fs.length <=n):(Ni f v fs).length <=n+ 1:=YD (KC f v fs) (Nat.succ_le_succ h)
theorem WU{f g:Str}{v:V}{fs:List (Str×V)}(h:¬g=f):(Ni f v fs).lookup g=fs.lookup g:=by rw[Fo,Y2 h]
theorem Mw{f:Str}{v:V}{fs:List (Str×V)}:(Ni f v fs).lookup f=some v:=by rw[Fo,Y5 rfl]
end
section
variable{P:Wc}{w:Wh}{K:Wi}{mg:W8}{base:Wn}
structure GW(K:Wi)(C:Wk):Prop where
 cl:MN K C
 number:WI K C "number"
 sender:WI K C "sender"
 goal:WI K C "goal"
 body:WI K C "body"
 keep:WI K C "keep"
structure Nz(C:Wk)(H:Hp)(p:Wk)(nu se go bo ke:V):Prop where
 ex:∃dx fs,H p=some (.ins C dx fs)/\fs.lookup ("number":Str)=some nu/\fs.lookup ("sender":Str)=some se/\fs.lookup ("goal":Str)=some go/\fs.lookup ("body":Str)=some bo/\fs.lookup ("keep":Str)=some ke/\
  fs.lookup ("key":Str)=none/\fs.lookup ("is_like":Str)=none
inductive Am(C:Wk)(vs:List V)(H:Hp)(Q:VK)(E:XK):Prop|mk (p dx nu se go b ke xs:_) (_:vs=[.ref p,nu,se,go,.ref b,ke]) (_:H p=some (.ins C dx [])) (_:Fc H nu se go (.ref b) ke) (_:Nu H nu se go (.ref b) ke=true) (_:H b=some (.lst xs)) (_:∀H' b',H b'=none->b'≠p->H' b'=some (.lst xs)->Nz C H' p nu se go (.ref b') ke->JC p H H'->Q .non H')
abbrev WG:Stmt:=To (top 33) 0
theorem gR:Jx ["self","number","sender","goal","body","keep"] ["self","number","sender","goal","body","keep"] (Wp WG):=by walk_at"e"
theorem vV {f C : Addr} {fd : FuncData} (F : ∃ (oc : Value) (od : Option Addr) (dV kV doc pm : Value) (an : Option Addr) (cdv ct : Value) (osl : Array (Option Value)),
  fd = W.fnOf "__init__" "Letter.__init__" (MT WG) (WN WG) (Wp WG) dV kV doc pm an cdv ct /\ K.lookup f = some ⟨oc, od, .func fd, osl⟩ /\ W.codeIn K cdv "Letter.__init__" = true) (L : GW K C) (B : Bt mg)
  (Je:N6 P w K mg base "are_shared_parts" 5 ["number","sender","goal","body","keep"] [] Ip):Wz P w K mg base Jf 6 f fd ["self","number","sender","goal","body","keep"] (Am C):=by
 obtain⟨oc,od,dV,kV,doc,pm,an,cdv,ct,osl,rfl,lk,hcd⟩:=F;refine E7 lk hcd gR (fun vs H Q E h=>?_) (fun A n s H vs Q E hr h=>?_)
 .obtain⟨p,dx,y,x,go,b,ke,xs,rfl,_⟩:=h;rfl
 .obtain⟨p,dx,y,x,go,b,ke,xs,rfl,hp,hpl,hgd,hb,q⟩:=h
  suffices hh:∃t,MP (Mi Jf P w K mg base _ "Letter.__init__" (Wp WG) f cdv A n s H E).nox (WN WG) t/\t {nx:=fun _ H'=>Q .non H',rt:=Q} (L2.start _ _) H by
   obtain⟨t,h1,h2⟩:=hh;exact⟨t,h1.nox,h2⟩
  refine⟨_,(WB (JJ (MA (Tx (JT Je hr.m rfl (Wx 1 (Wx 2 (Wx 3 (Wx 4 (Wx 5 Wu)))))))) Ro JV) (WB (Gz (K:=K) rfl (Wq 0) (Wq 1) rfl) (WB (Gz (K:=K) rfl (Wq 0) (Wq 2) rfl) (WB (Gz (K:=K) rfl (Wq 0) (Wq 3) rfl) (WB (Gz (K:=K) rfl (Wq 0) (Bu (FB (K:=K) rfl) rfl B.blist (by rfl) (Wx 4 Wu)) rfl) (WH (Gz (K:=K) rfl (Wq 0) (Wq 5) rfl))))))),?_⟩;refine WX fun N hN=>?_
  walk_at"rd";refine ⟨y, x, go, .ref b, ke, rfl, hpl, fun H1 d => ⟨_, rfl, ?_⟩⟩;rw [hgd];simp only [Bool.not_true, Bool.false_eq_true, if_false];refine hN _ _ ?_;clear hN N;walk_at"rd";have hp1 := d p _ hp;have hb1 := d b _ hb;have i : b ≠ p := Wr hb hp (by intro z; cases z);have r : ([] : List (Str × V)).length <= 0 := Y6 0;refine ⟨C, dx, [], hp1, L.cl, L.number, by decide, C, dx, _, Jp, L.cl, L.sender, Ya (Jg r) (by decide), C, dx, _, Jp, L.cl, L.goal, Ya (Jg (Jg r)) (by decide), xs,
   .inl (WA.of (by rw [WT i, WT i, WT i]; exact hb1)), fun l u => ?_⟩
  have a:l≠p:=fun z=>by rw[z,Jp]at u;cases u
  have v:H1 l=none:=by rw[WT a,WT a,WT a]at u;exact u
  refine⟨C,dx,_,by rw[WT (Ne.symm a)];exact Jp,L.cl,L.body,Ya (Jg (Jg (Jg r))) (by decide),C,dx,_,Jp,L.cl,L.keep,Ya (Jg (Jg (Jg (Jg r)))) (by decide),?_⟩;refine q _ l (d.free v) a (by rw[WT a,WT a,Jp]) ⟨dx,_,Jp,?_,?_,?_,?_,?_,?_,?_⟩ ?_
  .rw[WU,WU,WU,WU,Mw] <;> decide +kernel
  .rw[WU,WU,WU,Mw] <;> decide +kernel
  .rw[WU,WU,Mw] <;> decide +kernel
  .rw[WU,Mw] <;> decide +kernel
  .rw[Mw]
  .rw[WU,WU,WU,WU,WU] <;> first|rfl|decide +kernel
  .rw[WU,WU,WU,WU,WU] <;> first|rfl|decide +kernel
  .intro c o e j;rw[WT j,WT j,WT (N0 (d c o e) v),WT j,WT j,WT j];exact d c o e
inductive Lc(C:Wk)(vs:List V)(H:Hp)(Q:VK)(E:XK):Prop|mk (p nu se go bo ke:_) (_:vs=[.ref p]) (_:Nz C H p nu se go bo ke) (_:∀t,H t=none->Q (.ref t) (upd H t (.tup [nu,se,go])))
abbrev Kx:Stmt:=To (top 33) 1
theorem rW:Jx ["self"] ["self"] (Wp Kx):=by walk_at"e"
theorem ZS{f C:Wk}{fd:Wf}(F:JE K "key" "Letter.key" Kx f fd)(L:GW K C):Wz P w K mg base Jf 1 f fd ["self"] (Lc C):=by
 refine F.ok rW (fun vs H Q E h=>?_) (fun v A e s H vs Q E x h=>?_)
 .obtain⟨p,c,b,d,u,i,rfl,_⟩:=h;rfl
 .obtain⟨p,c,b,d,u,i,rfl,⟨dx,fs,a,r,n,j,_⟩,q⟩:=h;refine⟨_,(WH (Jd (Qh (TF (RT (K:=K) rfl (Wq 0) rfl) (TF (RT (K:=K) rfl (Wq 0) rfl) (TF (RT (K:=K) rfl (Wq 0) rfl) Wu)))))),?_⟩;walk_at"rd";exact⟨C,dx,fs,a,L.cl,L.number,c,r,C,dx,fs,a,L.cl,L.sender,b,n,C,dx,fs,a,L.cl,L.goal,d,j,Jc (by decide),q⟩
def EC:V->Bool
 | .int i=>decide (0 <=i) && decide (i%8=0)
 |_=>false
inductive OF(vs:List V)(H:Hp)(Q:VK)(E:XK):Prop|mk (x n:_) (_:vs=[x]) (_:TN H x=some n) (_:Q (.bl (EC x)) H)
abbrev LV:Stmt:=top 31
theorem xU:Jx ["at"] ["at"] (Wp LV):=by walk_at"e"
theorem yI{f:Wk}{fd:Wf}(F:JE K "is_place" "is_place" LV f fd)(T:Cn mg)(JQ:N6 P w K mg base "is_whole" 1 ["value"] [] Cz):Wz P w K mg base Jf 2 f fd ["at"] OF:=by
 refine F.ok xU (fun vs H Q E h=>?_) (fun c A a s H vs Q E b h=>?_)
 .obtain⟨x,n,rfl,_⟩:=h;rfl
 .obtain⟨x,n,rfl,ty,q⟩:=h;refine⟨_,(WH (Jd (MJ (JT JQ b.m rfl (Wx 0 Wu)) (MJ (Mp (Jy CN) (Wq 0) WE (MI _)) (Dj (Mp (TJ TH) (J9 (dI Th) (Wq 0) (RM rfl T.c_STEP)) WE (MI _))))))),?_⟩;walk_at"rd";refine⟨x,n,rfl,ty,_,rfl,Tj (fun h=>?_) (fun h=>?_)⟩
  .cases x <;> first|(simp[R1]at h;done)|skip
   rename_i i
   walk_at"rd"
   by_cases h1:0 <=i
   .simp only[h1,Xt,if_true];refine⟨by decide,rfl,?_⟩;simpa[EC,h1] using q
   .simp only[h1,Xq,Bool.false_eq_true,if_false];simpa[EC,h1] using q
  .have e:EC x=false:=by cases x <;> first|rfl|(simp[R1]at h)
   rw[e]at q;exact q
def E2(at' len:Int)(more:Bool):Bool:=if more then decide (len%8=0) && decide (at'+ len < 4000) else decide (at'+ len <=4000)
inductive Q1(vs:List V)(H:Hp)(Q:VK)(E:XK):Prop|mk (at' len more:_) (_:vs=[.int at',.int len,.bl more]) (_:Q (.bl (E2 at' len more)) H)
abbrev FG:Stmt:=top 32
theorem xM:Jx ["at","length","more"] ["at","length","more"] (Wp FG):=by walk_at"e"
theorem eX{f:Wk}{fd:Wf}(F:JE K "has_room" "has_room" FG f fd)(T:Cn mg):Wz P w K mg base Jf 1 f fd ["at","length","more"] Q1:=by
 refine F.ok xM (fun vs H Q E h=>?_) (fun c A b s H vs Q E d h=>?_)
 .obtain⟨a,l,m,rfl,_⟩:=h;rfl
 .obtain⟨a,l,m,rfl,q⟩:=h;refine⟨_,(WB (JJ (Tx (Wq 2)) (WH (Jd (MJ (Mp (TJ TH) (J9 (dI Th) (Wq 1) (RM rfl T.c_STEP)) WE (MI _)) (Dj (Mp (Jy Rp) (J9 (Jy NW) (Wq 0) (Wq 1)) (RM rfl T.c_MOST_BYTES) (MI _)))))) JV) (WH (Jd (Mp (Jy GU) (J9 (Jy NW) (Wq 0) (Wq 1)) (RM rfl T.c_MOST_BYTES) (MI _))))),?_⟩;walk_at"rd";cases m with
  |true=>
   rw[Y5 rfl];refine⟨by decide,rfl,?_⟩;unfold E2 at q;rw[Y5 rfl]at q
   by_cases h1:l%8=0
   .rw[Y5 (by simpa using h1)];simpa[h1] using q
   .rw[Y2 (by simpa using h1)];simpa[h1] using q
  |false=>
   rw[Y2 (by simp)];exact q
structure Gm(K:Wi)(C:Wk):Prop where
 cl:MN K C
 number:WI K C "number"
 sender:WI K C "sender"
 goal:WI K C "goal"
 at':WI K C "at"
 body:WI K C "body"
 more:WI K C "more"
 keep:WI K C "keep"
structure NX(C:Wk)(H:Hp)(p:Wk)(nu se go a bo mo ke:V):Prop where
 ex:∃dx fs,H p=some (.ins C dx fs)/\fs.lookup ("number":Str)=some nu/\fs.lookup ("sender":Str)=some se/\fs.lookup ("goal":Str)=some go/\fs.lookup ("at":Str)=some a/\fs.lookup ("body":Str)=some bo/\fs.lookup ("more":Str)=some mo/\fs.lookup ("keep":Str)=some ke/\
  fs.lookup ("key":Str)=none/\fs.lookup ("end":Str)=none/\fs.lookup ("is_like":Str)=none
theorem NX.same{C p:Wk}{H H':Hp}{nu se go a bo mo ke:V}(s:∀o,H p=some o->H' p=some o)(h:NX C H p nu se go a bo mo ke):NX C H' p nu se go a bo mo ke:=by
 obtain⟨dx,fs,b,r⟩:=h;exact⟨dx,fs,s _ b,r⟩
inductive BI(C:Wk)(vs:List V)(H:Hp)(Q:VK)(E:XK):Prop|mk (p dx:Wk) (nu se go:V) (a:Int) (b:Wk) (mo:Bool) (ke:V) (xs:List V) (_:vs=[.ref p,nu,se,go,.int a,.ref b,.bl mo,ke]) (_:H p=some (.ins C dx [])) (_:Fc H nu se go (.ref b) ke) (_:Nu H nu se go (.ref b) ke=true) (_:EC (.int a)=true) (_:H b=some (.lst xs)) (_:E2 a xs.length mo=true) (_:∀H' b',H b'=none->b'≠p->H' b'=some (.lst xs)->NX C H' p nu se go (.int a) (.ref b') (.bl mo) ke->JC p H H'->Q .non H')
abbrev WC:Stmt:=To (top 34) 0
theorem ZY:Jx ["self","number","sender","goal","at","body","more","keep"] ["self","number","sender","goal","at","body","more","keep"] (Wp WC):=by walk_at"e"
theorem ZW {f C : Addr} {fd : FuncData} (F : ∃ (oc : Value) (od : Option Addr) (dV kV doc pm : Value) (an : Option Addr) (cdv ct : Value) (osl : Array (Option Value)),
  fd = W.fnOf "__init__" "Piece.__init__" (MT WC) (WN WC) (Wp WC) dV kV doc pm an cdv ct /\ K.lookup f = some ⟨oc, od, .func fd, osl⟩ /\ W.codeIn K cdv "Piece.__init__" = true) (L : Gm K C) (B : Bt mg)
  (Je:N6 P w K mg base "are_shared_parts" 5 ["number","sender","goal","body","keep"] [] Ip) (Tp:N6 P w K mg base "is_place" 2 ["at"] [] OF) (NC:N6 P w K mg base "is_truth" 1 ["value"] [] FV)
  (TD:N6 P w K mg base "has_room" 1 ["at","length","more"] [] Q1):Wz P w K mg base Jf 6 f fd ["self","number","sender","goal","at","body","more","keep"] (BI C):=by
 obtain⟨oc,od,dV,kV,doc,pm,an,cdv,ct,osl,rfl,lk,hcd⟩:=F;refine E7 lk hcd ZY (fun vs H Q E h=>?_) (fun A v s H vs Q E y h=>?_)
 .obtain⟨p,dx,nu,se,go,a,b,mo,ke,xs,rfl,_⟩:=h;rfl
 .obtain⟨p,dx,nu,se,go,a,b,mo,ke,xs,rfl,hp,hpl,hgd,hat,hb,x,q⟩:=h
  suffices hh:∃t,MP (Mi Jf P w K mg base _ "Piece.__init__" (Wp WC) f cdv A v s H E).nox (WN WC) t/\t {nx:=fun _ H'=>Q .non H',rt:=Q} (L2.start _ _) H by
   obtain⟨t,h1,h2⟩:=hh;exact⟨t,h1.nox,h2⟩
  refine⟨_,(WB (JJ (MA (Tx (JT Je y.m rfl (Wx 1 (Wx 2 (Wx 3 (Wx 5 (Wx 7 Wu)))))))) Ro JV) (WB (JJ (PW.pt (Dh (MA (Tx (JT Tp y.m rfl (Wx 4 Wu)))) (Dh (MA (Tx (JT NC y.m rfl (Wx 6 Wu)))) (DH (MA (Tx (JT TD y.m rfl (Wx 4 (MG (N4 (MX (MV (K:=K) rfl)) B.len (Wx 5 Wu)) (Wx 6 Wu)))))))))) Ro JV) (WB (Gz (K:=K) rfl (Wq 0) (Wq 1) rfl) (WB (Gz (K:=K) rfl (Wq 0) (Wq 2) rfl) (WB (Gz (K:=K) rfl (Wq 0) (Wq 3) rfl) (WB (Gz (K:=K) rfl (Wq 0) (Wq 4) rfl) (WB (Gz (K:=K) rfl (Wq 0) (Bu (FB (K:=K) rfl) rfl B.blist (by rfl) (Wx 5 Wu)) rfl) (WB (Gz (K:=K) rfl (Wq 0) (Wq 6) rfl) (WH (Gz (K:=K) rfl (Wq 0) (Wq 7) rfl)))))))))),?_⟩;refine WX fun N u=>?_
  walk_at"rd";refine⟨nu,se,go,.ref b,ke,rfl,hpl,fun H1 r=>⟨_,rfl,?_⟩⟩;rw[hgd];simp only[Bool.not_true,Bool.false_eq_true,if_false];refine u _ _ ?_;clear u N;refine WX fun N u=>?_
  walk_at"rd";refine ⟨.int a, _, rfl, rfl, _, rfl, ?_⟩;rw [hat];simp only [Bool.not_true, Bool.false_eq_true, if_false];refine ⟨.bl mo, _, rfl, rfl, _, rfl, ?_⟩;have hp1 := r p _ hp;have hb1 := r b _ hb;have j : b ≠ p := Wr hb hp (by intro z; cases z);have n : ([] : List (Str × V)).length <= 0 := Y6 0;simp only [Rh, Bool.not_true, Bool.false_eq_true, if_false];refine ⟨_, .inl (WA.of hb1), a, _, mo, rfl, _, rfl, ?_⟩;rw [x];simp only [Bool.not_true, Bool.false_eq_true, if_false];refine u _ _ ?_;clear u N;walk_at"rd";refine ⟨C, dx, [], hp1, L.cl, L.number, by decide, C, dx, _, Jp, L.cl, L.sender, Ya (Jg n) (by decide), C, dx, _, Jp, L.cl, L.goal, Ya (Jg (Jg n)) (by decide), C, dx, _, Jp, L.cl, L.at', Ya (Jg (Jg (Jg n))) (by decide), xs,
   .inl (WA.of (by rw [WT j, WT j, WT j, WT j]; exact hb1)), fun l hl => ?_⟩
  have d:l≠p:=fun z=>by rw[z,Jp]at hl;cases hl
  have hl1:H1 l=none:=by rw[WT d,WT d,WT d,WT d]at hl;exact hl
  refine⟨C,dx,_,by rw[WT (Ne.symm d)];exact Jp,L.cl,L.body,Ya (Jg (Jg (Jg (Jg n)))) (by decide),C,dx,_,Jp,L.cl,L.more,Ya (Jg (Jg (Jg (Jg (Jg n))))) (by decide),C,dx,_,Jp,L.cl,L.keep,Ya (Jg (Jg (Jg (Jg (Jg (Jg n)))))) (by decide),?_⟩;refine q _ l (r.free hl1) d (by rw[WT d,WT d,WT d,Jp]) ⟨dx,_,Jp,?_,?_,?_,?_,?_,?_,?_,?_,?_,?_⟩ ?_
  .rw[WU,WU,WU,WU,WU,WU,Mw] <;> decide +kernel
  .rw[WU,WU,WU,WU,WU,Mw] <;> decide +kernel
  .rw[WU,WU,WU,WU,Mw] <;> decide +kernel
  .rw[WU,WU,WU,Mw] <;> decide +kernel
  .rw[WU,WU,Mw] <;> decide +kernel
  .rw[WU,Mw] <;> decide +kernel
  .rw[Mw]
  .rw[WU,WU,WU,WU,WU,WU,WU] <;> first|rfl|decide +kernel
  .rw[WU,WU,WU,WU,WU,WU,WU] <;> first|rfl|decide +kernel
  .rw[WU,WU,WU,WU,WU,WU,WU] <;> first|rfl|decide +kernel
  .intro c o e i;rw[WT i,WT i,WT i,WT (N0 (r c o e) hl1),WT i,WT i,WT i,WT i];exact r c o e
inductive IU(C:Wk)(vs:List V)(H:Hp)(Q:VK)(E:XK):Prop|mk (p nu se go a bo mo ke:_) (_:vs=[.ref p]) (_:NX C H p nu se go a bo mo ke) (_:∀t,H t=none->Q (.ref t) (upd H t (.tup [nu,se,go])))
abbrev Kt:Stmt:=To (top 34) 1
theorem j1:Jx ["self"] ["self"] (Wp Kt):=by walk_at"e"
theorem nB{f C:Wk}{fd:Wf}(F:JE K "key" "Piece.key" Kt f fd)(L:Gm K C):Wz P w K mg base Jf 1 f fd ["self"] (IU C):=by
 refine F.ok j1 (fun vs H Q E h=>?_) (fun y A i s H vs Q E z h=>?_)
 .obtain⟨p,d,c,e,a,x,j,n,rfl,_⟩:=h;rfl
 .obtain⟨p,d,c,e,a,x,j,n,rfl,⟨dx,fs,b,v,u,r,_⟩,q⟩:=h;refine⟨_,(WH (Jd (Qh (TF (RT (K:=K) rfl (Wq 0) rfl) (TF (RT (K:=K) rfl (Wq 0) rfl) (TF (RT (K:=K) rfl (Wq 0) rfl) Wu)))))),?_⟩;walk_at"rd";exact⟨C,dx,fs,b,L.cl,L.number,d,v,C,dx,fs,b,L.cl,L.sender,c,u,C,dx,fs,b,L.cl,L.goal,e,r,Jc (by decide),q⟩
inductive Ka(C:Wk)(vs:List V)(H:Hp)(Q:VK)(E:XK):Prop|mk (p:Wk) (nu se go:V) (a:Int) (b:Wk) (mo ke:V) (xs:List V) (_:vs=[.ref p]) (_:NX C H p nu se go (.int a) (.ref b) mo ke) (_:H b=some (.lst xs)) (_:Q (.int (a+ xs.length)) H)
abbrev FY:Stmt:=To (top 34) 2
theorem mS:Jx ["self"] ["self"] (Wp FY):=by walk_at"e"
theorem wB{f C:Wk}{fd:Wf}(F:JE K "end" "Piece.end" FY f fd)(L:Gm K C)(B:Bt mg):Wz P w K mg base Jf 1 f fd ["self"] (Ka C):=by
 refine F.ok mS (fun vs H Q E h=>?_) (fun y A d s H vs Q E z h=>?_)
 .obtain⟨p,i,e,u,a,bo,j,n,xs,rfl,_⟩:=h;rfl
 .obtain⟨p,i,e,u,a,b,j,n,xs,rfl,⟨dx,fs,c,f1,f2,f3,x,v,_⟩,r,q⟩:=h;refine⟨_,(WH (Jd (J9 (Jy NW) (RT (K:=K) rfl (Wq 0) rfl) (N4 (MX (MV (K:=K) rfl)) B.len (TF (RT (K:=K) rfl (Wq 0) rfl) Wu))))),?_⟩;walk_at"rd";exact⟨C,dx,fs,c,L.cl,L.at',_,x,C,dx,fs,c,L.cl,L.body,_,v,b,rfl,xs,.inl (WA.of r),a,rfl,q⟩
def j3(H:Hp)(a:Wk):Prop:=(∃n,H a=some (.lst [.int n]))\/∃n m c,H a=some (.lst [.int n,.int m,.int c])
theorem xP(x y:Int):GL (x%2147483647) y:=.inl ⟨by have:=UB x (show(2147483647:Int)≠0 by decide);lia,by have:=Uc x (show(0:Int) < 2147483647 by decide);lia⟩
def NM(z:Str):Prop:=1 <=z.length/\z.length <=8/\z.cps.toList.all EE=true
theorem NM.is{z:Str}(h:NM z):MW (.str z)=true:=by
 obtain⟨h1,h2,a⟩:=h;simp only[MW,h1,h2,a,Xt,Bool.and_self]
end
section
variable{K:Wi}
theorem NM.ok{z:Str}(h:NM z):PyData.strOk z=true:=by
 unfold PyData.strOk;rw[Array.all_eq_true];intro i hi;have a:=U1.mp h.2.2 (z.cps[i]) (Array.getElem_mem_toList hi);unfold EE at a;simp only[X0,Yb]at a;simp only[Yb];lia
abbrev DA(nu:Int)(z1 z2:Str):PyData:=.tuple [.int nu,.str z1,.str z2]
theorem Do{H:Hp}{t:Wk}{nu:Int}{z1 z2:Str}(h:H t=some (.tup [.int nu,.str z1,.str z2])):Dp K H (.ref t) (DA nu z1 z2):=
 .tup (Ja.of h) (.cons (.int _) (.cons (.str _) (.cons (.str _) .nil)))
theorem Bg(nu:Int){z1 z2:Str}(h1:NM z1)(h2:NM z2):SeqAt.shaped (DA nu z1 z2)=true:=by
 simp[SeqAt.shaped,PyData.canLay0,PyData.canLayAll0,PyData.depth,PyData.depthAll,h1.ok,h2.ok]
theorem Qj(nu:Int)(z1 z2:Str):PyData.eqv (DA nu z1 z2) (DA nu z1 z2)=true:=by simp[PyData.eqv,PyData.eqvAll]
theorem Qm(ns:Wl):PyData.eqv (.list (ns.map PyData.int)) (.list (ns.map PyData.int))=true:=by
 show PyData.eqvAll _ _=true;rw[W.ked_eqvAll];simp
theorem eT(ns:Wl)(lo hi:Option Int):∃ms:List Int,DY (ns.map V.int) lo hi=ms.map V.int/\ms.length <=ns.length:=by
 refine⟨(ns.drop (HT.sIx (ns.map V.int).length 0 lo)).take (HT.sIx (ns.map V.int).length (ns.map V.int).length hi - HT.sIx (ns.map V.int).length 0 lo),?_,?_⟩
 .unfold DY;rw[List.map_take,List.map_drop]
 .rw[Yt,UZ];lia
theorem PJ{H:Hp}{nu:Int}{z1 z2:Str}{b:Wk}{ns:Wl}{k:Bool}(h0:0 <=nu)(h1:nu <=65535)(n1:NM z1)(n2:NM z2)(hb:H b=some (.lst (ns.map V.int)))(l1:1 <=ns.length)(l2:ns.length <=4000)(hns:∀x∈ns,0 <=x/\x <=255):
  Fc H (.int nu) (.str z1) (.str z2) (.ref b) (.bl k)/\Nu H (.int nu) (.str z1) (.str z2) (.ref b) (.bl k)=true:=by
 refine⟨⟨⟨_,rfl⟩,⟨_,rfl⟩,fun z e=>?_,⟨_,rfl⟩,fun z e=>?_,⟨_,aK hb⟩,fun a xs h f=>?_,⟨_,rfl⟩⟩,?_⟩
 .cases e;have:=n1.2.1;lia
 .cases e;have:=n2.2.1;lia
 .cases h;rw[hb]at f;cases f;refine⟨by rw[Y1];lia,fun y c=>?_⟩;obtain⟨i,_,rfl⟩:=Y3.mp c;exact⟨_,rfl⟩
 .unfold Nu;rw[n1.is,n2.is,Oe hb];have d:(ns.map V.int).all (fun y=>D2 y 0 255)=true:=by
   rw[U1];intro y c;obtain⟨i,hi,rfl⟩:=Y3.mp c;have:=hns i hi;simp[D2,this.1,this.2]
  rw[d];simp[D2,h0,h1,l1,l2,Rh]
inductive AG(K:Wi)(vs:List V)(H:Hp)(Q:VK)(E:XK):Prop|mk (a:Wk) (ns:Wl) (_:vs=[.ref a]) (_:WA K H a (ns.map V.int)) (_:ns.length <=63) (_:∀H',Q (.bl true) H')
end
section
variable{P:Wc}{w:Wh}{K:Wi}{mg:W8}{base:Wn}
theorem Zq(nu:Int)(z1 z2:Str)(nu':Int)(z1' z2':Str):PyData.eqv (DA nu z1 z2) (DA nu' z1' z2')=decide (nu=nu'/\z1=z1'/\z2=z2'):=by
 simp only[PyData.eqv,PyData.eqvAll,Bool.and_true];rw[Yw];simp
theorem Nz.same{C p:Wk}{H H':Hp}{nu se go bo ke:V}(s:∀o,H p=some o->H' p=some o)(h:Nz C H p nu se go bo ke):Nz C H' p nu se go bo ke:=by
 obtain⟨dx,fs,a,r⟩:=h;exact⟨dx,fs,s _ a,r⟩
end
structure PD where
 nu:Int
 z1:Str
 z2:Str
 at':Int
 ns:List Int
 mo:Bool
 k:Bool
 deriving DecidableEq
structure PD.Ok(d:PD):Prop where
 n0:0 <=d.nu
 n1:d.nu <=65535
 k1:NM d.z1
 k2:NM d.z2
 l1:1 <=d.ns.length
 l2:d.ns.length <=4000
 by':∀x∈d.ns,0 <=x/\x <=255
 a0:0 <=d.at'
 a8:d.at'%8=0
 rm:E2 d.at' d.ns.length d.mo=true
structure JN(C:Wk)(H:Hp)(p b:Wk)(d:PD):Prop where
 ok:d.Ok
 ats:NX C H p (.int d.nu) (.str d.z1) (.str d.z2) (.int d.at') (.ref b) (.bl d.mo) (.bl d.k)
 bd:H b=some (.lst (d.ns.map V.int))
section
variable{P:Wc}{w:Wh}{K:Wi}{mg:W8}{base:Wn}{C p b:Wk}{H G:Hp}
theorem JN.mono{d:PD}(s:Ws H G)(h:JN C H p b d):JN C G p b d:=⟨h.ok,h.ats.same (s p),s _ _ h.bd⟩
theorem JN.but{d:PD}{l:Wk}(s:JC l H G)(h:JN C H p b d)(n1:p≠l)(n2:b≠l):JN C G p b d:=⟨h.ok,h.ats.same fun o e=>s p o e n1,s _ _ h.bd n2⟩
theorem JN.ins{d:PD}(h:JN C H p b d):∃dx fs,H p=some (.ins C dx fs):=by
 obtain⟨dx,fs,a,_⟩:=h.ats;exact⟨dx,fs,a⟩
theorem C7{d:PD}(L:Gm K C)(h:JN C H p b d):Nb K H (.ref p) "at" (.int d.at'):=by
 obtain⟨dx,fs,a,q,n,j,c,i,f,e,_⟩:=h.ats;exact⟨p,C,dx,fs,rfl,a,L.cl,L.at',c⟩
theorem Iq{d:PD}(L:Gm K C)(h:JN C H p b d):Nb K H (.ref p) "body" (.ref b):=by
 obtain⟨dx,fs,a,q,n,j,i,c,f,e,_⟩:=h.ats;exact⟨p,C,dx,fs,rfl,a,L.cl,L.body,c⟩
theorem OK{d:PD}(L:Gm K C)(h:JN C H p b d):Nb K H (.ref p) "more" (.bl d.mo):=by
 obtain⟨dx,fs,a,q,n,j,i,f,c,e,_⟩:=h.ats;exact⟨p,C,dx,fs,rfl,a,L.cl,L.more,c⟩
theorem mQ{d:PD}(h:JN C H p b d):Gx C "key" H (.ref p):=by
 obtain⟨dx,fs,a,_,_,_,_,_,_,_,f,_⟩:=h.ats;exact⟨p,dx,fs,rfl,a,f⟩
theorem Eg{d:PD}(h:JN C H p b d):Gx C "end" H (.ref p):=by
 obtain⟨dx,fs,a,_,_,_,_,_,_,_,_,f,_⟩:=h.ats;exact⟨p,dx,fs,rfl,a,f⟩
inductive KD(C:Wk)(vs:List V)(H:Hp)(Q:VK)(E:XK):Prop|mk (d:PD) (b:Wk) (_:vs=[.int d.nu,.str d.z1,.str d.z2,.int d.at',.ref b,.bl d.mo,.bl d.k]) (_:d.Ok) (_:H b=some (.lst (d.ns.map V.int))) (_:∀p b' G,H p=none->H b'=none->Ws H G->JN C G p b' d->Q (.ref p) G)
def PD.key(d:PD):Int×Str×Str:=(d.nu,d.z1,d.z2)
end
section
variable{P:Wc}{w:Wh}{K:Wi}{mg:W8}{base:Wn}{C:Wk}
inductive SW(C:Wk)(vs:List V)(H:Hp)(Q:VK)(E:XK):Prop|mk (p b:Wk) (d:PD) (_:vs=[.ref p]) (_:JN C H p b d) (_:∀t G,H t=none->Ws H G->G t=some (.tup [.int d.nu,.str d.z1,.str d.z2])->Q (.ref t) G)
theorem aM(F:Nv P w K mg base C "key" 1 ["self"] [] (IU C)):Nv P w K mg base C "key" 1 ["self"] [] (SW C):=
 F.imp fun vs H Q E ⟨p,b,d,e,h,q⟩=>⟨p,_,_,_,_,_,_,_,e,h.ats,fun t a=>q t _ a (Mc a) Jp⟩
end
structure LD where
 nu:Int
 z1:Str
 z2:Str
 ns:List Int
 k:Bool
 deriving DecidableEq
structure LD.Ok(d:LD):Prop where
 n0:0 <=d.nu
 n1:d.nu <=65535
 k1:NM d.z1
 k2:NM d.z2
 l1:1 <=d.ns.length
 l2:d.ns.length <=4000
 by':∀x∈d.ns,0 <=x/\x <=255
structure Tf(C:Wk)(H:Hp)(p b:Wk)(d:LD):Prop where
 ok:d.Ok
 ats:Nz C H p (.int d.nu) (.str d.z1) (.str d.z2) (.ref b) (.bl d.k)
 bd:H b=some (.lst (d.ns.map V.int))
section
variable{P:Wc}{w:Wh}{K:Wi}{mg:W8}{base:Wn}{C p b:Wk}{H G:Hp}
theorem Tf.mono{d:LD}(s:Ws H G)(h:Tf C H p b d):Tf C G p b d:=⟨h.ok,h.ats.same (s p),s _ _ h.bd⟩
theorem Tf.ins{d:LD}(h:Tf C H p b d):∃dx fs,H p=some (.ins C dx fs):=by
 obtain⟨dx,fs,a,_⟩:=h.ats;exact⟨dx,fs,a⟩
theorem dG{d:LD}(L:GW K C)(h:Tf C H p b d):Nb K H (.ref p) "number" (.int d.nu):=by
 obtain⟨dx,fs,a,c,j,i,f,e,_⟩:=h.ats;exact⟨p,C,dx,fs,rfl,a,L.cl,L.number,c⟩
theorem wA{d:LD}(L:GW K C)(h:Tf C H p b d):Nb K H (.ref p) "sender" (.str d.z1):=by
 obtain⟨dx,fs,a,j,c,i,f,e,_⟩:=h.ats;exact⟨p,C,dx,fs,rfl,a,L.cl,L.sender,c⟩
theorem aG{d:LD}(L:GW K C)(h:Tf C H p b d):Nb K H (.ref p) "goal" (.str d.z2):=by
 obtain⟨dx,fs,a,j,i,c,f,e,_⟩:=h.ats;exact⟨p,C,dx,fs,rfl,a,L.cl,L.goal,c⟩
theorem aE{d:LD}(L:GW K C)(h:Tf C H p b d):Nb K H (.ref p) "body" (.ref b):=by
 obtain⟨dx,fs,a,j,i,f,c,e,_⟩:=h.ats;exact⟨p,C,dx,fs,rfl,a,L.cl,L.body,c⟩
theorem j7{d:LD}(L:GW K C)(h:Tf C H p b d):Nb K H (.ref p) "keep" (.bl d.k):=by
 obtain⟨dx,fs,a,j,i,f,e,c,_⟩:=h.ats;exact⟨p,C,dx,fs,rfl,a,L.cl,L.keep,c⟩
theorem SS{d:LD}(h:Tf C H p b d):Gx C "key" H (.ref p):=by
 obtain⟨dx,fs,a,_,_,_,_,_,f,_⟩:=h.ats;exact⟨p,dx,fs,rfl,a,f⟩
end
section
variable{P:Wc}{w:Wh}{K:Wi}{mg:W8}{base:Wn}{C:Wk}
def LD.whole(d:LD):PD:=⟨d.nu,d.z1,d.z2,0,d.ns,false,d.k⟩
end
section
variable{P:Wc}{w:Wh}{K:Wi}{mg:W8}{base:Wn}
inductive AS(C:Wk)(vs:List V)(H:Hp)(Q:VK)(E:XK):Prop|mk (p b:Wk) (d:PD) (_:vs=[.ref p]) (_:JN C H p b d) (_:Q (.int (d.at'+ d.ns.length)) H)
theorem LK{C:Wk}(F:Nv P w K mg base C "end" 1 ["self"] [] (Ka C)):Nv P w K mg base C "end" 1 ["self"] [] (AS C):=
 F.imp fun vs H Q E ⟨p,b,d,e,h,q⟩=>⟨p,_,_,_,d.at',b,_,_,_,e,h.ats,h.bd,by rw[Y1];exact q⟩
end
def MC:List (Int×Int)->Prop
 |[]=>True
 |p::r=>p.1 < p.2/\(∀q∈r,p.2 < q.1)/\MC r
def Nt(c:List (Int×Int))(x:Int):Prop:=∃p∈c,p.1 <=x/\x < p.2
theorem MS(x:Int):¬Nt [] x:=by rintro⟨p,hp,_⟩;exact nomatch hp
theorem WV{p:Int×Int}{r:List (Int×Int)}{x:Int}:Nt (p::r) x↔(p.1 <=x/\x < p.2)\/Nt r x:=by
 constructor
 .rintro⟨q,hq,h⟩;rcases Yl.mp hq with rfl|hq
  .exact .inl h
  .exact .inr ⟨q,hq,h⟩
 .rintro(h|⟨q,hq,h⟩)
  .exact⟨p,YC,h⟩
  .exact⟨q,Yk _ hq,h⟩
theorem EL{c d:List (Int×Int)}{x:Int}:Nt (c++d) x↔Nt c x\/Nt d x:=by
 induction c with
 |nil=>simp[MS]
 |cons p r ih=>rw[List.cons_append,WV,WV,ih,or_assoc]
theorem CJ{p:Int×Int}{r:List (Int×Int)}(h:∀q∈r,p.2 < q.1){x:Int}(hx:Nt r x):p.2 < x:=by
 obtain⟨q,a,h1,h2⟩:=hx;have:=h q a
 lia
theorem O8:∀{c d:List (Int×Int)},MC c->MC d->(∀x,Nt c x↔Nt d x)->c=d
 |[],[],_,_,_=>rfl
 |[],q::d,_,hd,h=>by
  exact absurd ((h q.1).mpr (WV.mpr (.inl ⟨YZ _,hd.1⟩))) (MS _)
 |p::c,[],hc,_,h=>by
  exact absurd ((h p.1).mp (WV.mpr (.inl ⟨YZ _,hc.1⟩))) (MS _)
 |p::c,q::d,hc,hd,h=>by
  obtain⟨hp,hpc,hc'⟩:=hc;obtain⟨n,i,j⟩:=hd;have key:∀x,(p.1 <=x/\x < p.2)\/Nt c x↔(q.1 <=x/\x < q.2)\/Nt d x:=fun x=>by rw[<-WV,<-WV];exact h x
  have f:∀{x},Nt c x->p.2 < x:=fun a=>CJ hpc a
  have b:∀{x},Nt d x->q.2 < x:=fun a=>CJ i a
  have s:p.1=q.1:=by
   have h1:=(key p.1).mp (.inl ⟨YZ _,hp⟩);have h2:=(key q.1).mpr (.inl ⟨YZ _,n⟩);rcases h1 with h1|h1
   .rcases h2 with h2|h2
    .lia
    .have:=f h2;lia
   .have:=b h1;rcases h2 with h2|h2
    .lia
    .have:=f h2;lia
  have r:p.2=q.2:=by
   have h1:¬p.2 < q.2:=fun z=>by
    rcases(key p.2).mpr (.inl ⟨by lia,z⟩) with h|h
    .lia
    .have:=f h;lia
   have h2:¬q.2 < p.2:=fun z=>by
    rcases(key q.2).mp (.inl ⟨by lia,z⟩) with h|h
    .lia
    .have:=b h;lia
   lia
  have e:p=q:=Ud s r;subst e
  congr 1
  refine O8 hc' j fun x=>?_
  constructor
  .intro a;have:=f a;rcases(key x).mp (.inr a) with z|z
   .lia
   .exact z
  .intro a;have:=b a;rcases(key x).mpr (.inr a) with z|z
   .lia
   .exact z
theorem AF{c:List (Int×Int)}{p:Int×Int}(hc:MC c)(hp:p.1 < p.2)(h:∀q∈c,q.2 < p.1):MC (c++[p]):=by
 induction c with
 |nil=>exact⟨hp,fun _ h=>(nomatch h),trivial⟩
 |cons a r ih=>
  obtain⟨h1,h2,d⟩:=hc;refine⟨h1,fun q b=>?_,ih d fun q b=>h q (Yk _ b)⟩;rcases YB.mp b with b|b
  .exact h2 q b
  .rw[Yg.mp b];exact h a YC
theorem bA{c d:List (Int×Int)}(hc:MC c)(hd:MC d)(h:∀p∈c,∀q∈d,p.2 < q.1):MC (c++d):=by
 induction c with
 |nil=>exact hd
 |cons a r ih=>
  obtain⟨h1,h2,f⟩:=hc;refine⟨h1,fun q b=>?_,ih f fun p e=>h p (Yk _ e)⟩;rcases YB.mp b with b|b
  .exact h2 q b
  .exact h a YC q b
structure WS where
 ah:List (Int×Int)
 lo:Int
 hi:Int
 be:List (Int×Int)
def TK(s:WS)(p:Int×Int):WS:=
 if p.2 < s.lo then {s with ah:=s.ah++[p]} else if p.1 > s.hi then {s with be:=s.be++[p]} else {s with lo:=min s.lo p.1,hi:=max s.hi p.2}
def Ed(c:List (Int×Int))(lo hi:Int):WS:=c.foldl TK ⟨[],lo,hi,[]⟩
def Nn(c:List (Int×Int))(lo hi:Int):List (Int×Int):=(Ed c lo hi).ah++[((Ed c lo hi).lo,(Ed c lo hi).hi)]++(Ed c lo hi).be
structure An(lo hi:Int)(pre:List (Int×Int))(s:WS)(c:List (Int×Int)):Prop where
 cov:MC c
 ca:MC s.ah
 cb:MC s.be
 lh:s.lo < s.hi
 al:∀p∈s.ah,p.2 < s.lo
 bh:∀p∈s.be,s.hi < p.1
 ac:∀p∈s.ah,∀q∈c,p.2 < q.1
 bc:∀p∈s.be,∀q∈c,p.2 < q.1
 bc2:s.be≠[]->∀q∈c,s.hi < q.1
 gl:s.lo=lo\/∀q∈c,s.lo < q.1
 gh:s.hi=hi\/∀q∈c,s.hi < q.1
 le:s.lo <=lo/\hi <=s.hi
 mem:∀x,(Nt s.ah x\/(s.lo <=x/\x < s.hi)\/Nt s.be x)↔(Nt pre x\/(lo <=x/\x < hi))
theorem gZ{lo hi:Int}{pre:List (Int×Int)}{s:WS}{p:Int×Int}{r:List (Int×Int)}(h:An lo hi pre s (p::r)):An lo hi (pre++[p]) (TK s p) r:=by
 obtain⟨⟨hp,d,u⟩,w,cb,lh,al,bh,j,bc,n,gl,v,le,i⟩:=h;have f:∀x,Nt (pre++[p]) x↔Nt pre x\/(p.1 <=x/\x < p.2):=fun x=>by
  rw[EL,WV];simp[MS]
 unfold TK
 by_cases h1:p.2 < s.lo
 .rw[Y5 h1];have acp:=fun q b=>j q b p YC
  refine⟨u,AF w hp acp,cb,lh,?_,bh,?_,fun a c q b=>bc a c q (Yk _ b),fun z q b=>n z q (Yk _ b),?_,?_,le,fun x=>?_⟩
  .intro q b;rcases YB.mp b with b|b
   .exact al q b
   .rw[Yg.mp b];exact h1
  .intro q b a c;rcases YB.mp b with b|b
   .exact j q b a (Yk _ c)
   .rw[Yg.mp b];exact d a c
  .rcases gl with g|g
   .exact .inl g
   .exact .inr fun q b=>g q (Yk _ b)
  .rcases v with g|g
   .exact .inl g
   .exact .inr fun q b=>g q (Yk _ b)
  .rw[f];have m:=i x;show(Nt (s.ah++[p]) x\/_)↔_;rw[EL,WV];simp only[MS,Vi];constructor
   .rintro((z|z)|z)
    .rcases m.mp (.inl z) with y|y
     .exact .inl (.inl y)
     .exact .inr y
    .exact .inl (.inr z)
    .rcases m.mp (.inr z) with y|y
     .exact .inl (.inl y)
     .exact .inr y
   .rintro((z|z)|z)
    .rcases m.mpr (.inl z) with y|y
     .exact .inl (.inl y)
     .exact .inr y
    .exact .inl (.inr z)
    .rcases m.mpr (.inr z) with y|y
     .exact .inl (.inl y)
     .exact .inr y
 .rw[Y2 h1]
  by_cases h2:p.1 > s.hi
  .rw[Y5 h2];refine⟨u,w,AF cb hp fun q b=>bc q b p YC,lh,al,?_,fun q b a c=>j q b a (Yk _ c),?_,?_,?_,?_,le,fun x=>?_⟩
   .intro q b;rcases YB.mp b with b|b
    .exact bh q b
    .rw[Yg.mp b];exact h2
   .intro q b a c;rcases YB.mp b with b|b
    .exact bc q b a (Yk _ c)
    .rw[Yg.mp b];exact d a c
   .intro _ q b;have:=d q b;show s.hi < q.1
    lia
   .rcases gl with g|g
    .exact .inl g
    .exact .inr fun q b=>g q (Yk _ b)
   .rcases v with g|g
    .exact .inl g
    .exact .inr fun q b=>g q (Yk _ b)
   .rw[f];have m:=i x;show(_\/_\/Nt (s.be++[p]) x)↔_;rw[EL,WV];simp only[MS,Vi];constructor
    .rintro(z|z|z|z)
     .rcases m.mp (.inl z) with y|y
      .exact .inl (.inl y)
      .exact .inr y
     .rcases m.mp (.inr (.inl z)) with y|y
      .exact .inl (.inl y)
      .exact .inr y
     .rcases m.mp (.inr (.inr z)) with y|y
      .exact .inl (.inl y)
      .exact .inr y
     .exact .inl (.inr z)
    .rintro((z|z)|z)
     .rcases m.mpr (.inl z) with y|y|y
      .exact .inl y
      .exact .inr (.inl y)
      .exact .inr (.inr (.inl y))
     .exact .inr (.inr (.inr z))
     .rcases m.mpr (.inr z) with y|y|y
      .exact .inl y
      .exact .inr (.inl y)
      .exact .inr (.inr (.inl y))
  .rw[Y2 h2];have e:s.be=[]:=by
    cases hb:s.be with
    |nil=>rfl
    |cons a t=>
     have:=n (by rw[hb];simp) p YC;exact absurd this (by lia)
   refine⟨u,w,by rw[e];trivial,by show min s.lo p.1 < max s.hi p.2;lia,?_,by rw[e];exact fun _ h=>(nomatch h),fun q b a c=>j q b a (Yk _ c),by rw[e];exact fun _ h=>(nomatch h),fun z=>absurd e z,?_,?_,?_,fun x=>?_⟩
   .intro q b;have h3:=al q b;have h4:=j q b p YC;show q.2 < min s.lo p.1
    lia
   .show min s.lo p.1=lo\/∀q∈r,min s.lo p.1 < q.1;exact .inr fun q b=>by have:=d q b;lia
   .show max s.hi p.2=hi\/∀q∈r,max s.hi p.2 < q.1;rcases v with g|g
    .by_cases h5:p.2 <=s.hi
     .exact .inl (by lia)
     .exact .inr fun q b=>by have:=d q b;lia
    .exact .inr fun q b=>by have h6:=g q (Yk _ b);have:=d q b;lia
   .show min s.lo p.1 <=lo/\hi <=max s.hi p.2
    lia
   .rw[f];have m:=i x;rw[e]at m ⊢;show(Nt s.ah x\/(min s.lo p.1 <=x/\x < max s.hi p.2)\/Nt [] x)↔_;simp only[MS,Vi]at m ⊢;constructor
    .rintro(z|z)
     .rcases m.mp (.inl z) with y|y
      .exact .inl (.inl y)
      .exact .inr y
     .by_cases h7:s.lo <=x/\x < s.hi
      .rcases m.mp (.inr h7) with y|y
       .exact .inl (.inl y)
       .exact .inr y
      .exact .inl (.inr (by lia))
    .rintro((z|z)|z)
     .rcases m.mpr (.inl z) with y|y
      .exact .inl y
      .exact .inr (by lia)
     .exact .inr (by lia)
     .rcases m.mpr (.inr z) with y|y
      .exact .inl y
      .exact .inr (by lia)
theorem P6{lo hi:Int}:∀{pre c:List (Int×Int)} {s:WS},An lo hi pre s c->An lo hi (pre++c) (c.foldl TK s) []
 |pre,[],s,h=>by rw[List.append_nil];exact h
 |pre,p::r,s,h=>by
  have:=P6 (gZ h);rw[Uf]at this;exact this
theorem bS{c:List (Int×Int)}{lo hi:Int}(hc:MC c)(h:lo < hi):MC (Nn c lo hi)/\∀x,Nt (Nn c lo hi) x↔Nt c x\/(lo <=x/\x < hi):=by
 have n:An lo hi [] ⟨[],lo,hi,[]⟩ c:=⟨hc,trivial,trivial,h,fun _ z=>(nomatch z),fun _ z=>(nomatch z),fun _ z=>(nomatch z),fun _ z=>(nomatch z),fun z=>absurd rfl z,.inl rfl,.inl rfl,⟨YZ _,YZ _⟩,fun x=>by simp[MS]⟩;have h1:=P6 n;rw[List.nil_append]at h1;obtain⟨_,f,e,lh,d,i,_,_,_,_,_,_,b⟩:=h1;unfold Nn Ed;generalize List.foldl TK ⟨[],lo,hi,[]⟩ c=s at f e lh d i b ⊢;refine⟨bA (AF f lh d) e fun p a q j=>?_,fun x=>?_⟩
 .have:=i q j;rcases YB.mp a with a|a
  .have:=d p a;lia
  .rw[Yg.mp a];exact this
 .rw[EL,EL,WV,<-b x,or_assoc];simp[MS]
def total(c:List (Int×Int)):Int:=(c.map fun p=>p.2 - p.1).sum
def NZ(e:Int)(re:Int):List (Int×Int)->List (Int×Int)
 |[]=>if re < e then [(re,e)] else []
 |p::r=>if e <=p.1 then(if re < e then [(re,e)] else []) else(if re < p.1 then [(re,p.1)] else [])++NZ e p.2 r
theorem Zi{e:Int}:∀{c:List (Int×Int)} {re:Int},MC c->(∀p∈c,re <=p.1)->MC (NZ e re c)/\(∀q∈NZ e re c,re <=q.1)/\∀x,Nt (NZ e re c) x↔(re <=x/\x < e/\¬Nt c x):=by
 have f:∀ (c:List (Int×Int)) (re:Int),(∀x,x < e->¬Nt c x)->MC (if re < e then [(re,e)] else [])/\(∀q∈(if re < e then [(re,e)] else []),re <=q.1)/\∀x,Nt (if re < e then [(re,e)] else []) x↔(re <=x/\x < e/\¬Nt c x):=by
  intro c re n
  by_cases h:re < e
  .rw[Y5 h];refine⟨⟨h,fun _ z=>(nomatch z),trivial⟩,fun q a=>by rw[Yg.mp a];exact YZ _,fun x=>?_⟩;rw[WV];simp only[MS,Vi];exact⟨fun z=>⟨z.1,z.2,n x z.2⟩,fun z=>⟨z.1,z.2.1⟩⟩
  .rw[Y2 h];refine⟨trivial,fun _ z=>(nomatch z),fun x=>⟨fun z=>absurd z (MS _),fun z=>by lia⟩⟩
 intro c
 induction c with
 |nil=>intro re _ _;exact f [] re fun x _=>MS x
 |cons p r ih=>
  intro re n w;obtain⟨h1,h2,h3⟩:=n;unfold NZ
  by_cases he:e <=p.1
  .rw[Y5 he];refine f (p::r) re fun x v aa=>?_
   rcases WV.mp aa with z|z
   .lia
   .have:=CJ h2 z;lia
  .rw[Y2 he];obtain⟨u,j,s⟩:=ih h3 (re:=p.2) fun q a=>Int.le_of_lt (h2 q a)
   have hp:=w p YC
   by_cases hr:re < p.1
   .rw[Y5 hr];refine⟨⟨hr,fun q a=>by have:=j q a;show p.1 < q.1;lia,u⟩,fun q a=>?_,fun x=>?_⟩
    .rcases Yl.mp a with rfl|a
     .exact YZ _
     .have:=j q a;lia
    .show Nt ((re,p.1)::NZ e p.2 r) x↔_;rw[WV,s,WV];constructor
     .rintro(z|⟨i,d,b⟩)
      .refine⟨z.1,by have:=z.2;lia,?_⟩;rintro(y|y)
       .have:=z.2;lia
       .have:=CJ h2 y;have:=z.2;lia
      .exact⟨by lia,d,by rintro(y|y);lia;exact b y⟩
     .rintro⟨i,d,b⟩
      by_cases v:x < p.1
      .exact .inl ⟨i,v⟩
      .exact .inr ⟨by
        by_cases hx2:x < p.2
        .exact absurd (.inl ⟨by lia,hx2⟩) b
        .lia, d, fun y => b (.inr y)⟩
   .rw[Y2 hr];refine⟨u,fun q a=>by have:=j q a;lia,fun x=>?_⟩;rw[List.nil_append,s,WV];constructor
    .rintro⟨i,d,b⟩;exact⟨by lia,d,by rintro(y|y);lia;exact b y⟩
    .rintro ⟨i, d, b⟩;exact ⟨by
      by_cases hx2:x < p.2
      .exact absurd (.inl ⟨by lia,hx2⟩) b
      .lia, d, fun y => b (.inr y)⟩
def NE(re:Int):List (Int×Int)->Int
 |[]=>re
 |p::r=>NE p.2 r
theorem Hx:∀{c:List (Int×Int)} {re:Int},MC c->(∀x,Nt c x->x < NE re c)/\(c≠[]->Nt c (NE re c - 1))/\(∀p∈c,p.1 < NE re c)
 |[],re,_=>⟨fun x z=>absurd z (MS _),fun z=>absurd rfl z,fun _ z=>(nomatch z)⟩
 |p::r,re,hc=>by
  obtain⟨h1,h2,h3⟩:=hc;obtain⟨e,d,b⟩:=Hx (re:=p.2) h3;have ge:p.2 <=NE p.2 r:=by
   cases r with
   |nil=>exact YZ _
   |cons q t=>have:=b q YC;have:=h2 q YC;lia
  refine⟨fun x z=>?_,fun _=>?_,fun q a=>?_⟩
  .show x < NE p.2 r;rcases WV.mp z with y|y
   .lia
   .exact e x y
  .show Nt (p::r) (NE p.2 r - 1);rw[WV];cases r with
   |nil=>exact .inl ⟨by show p.1 <=p.2 - 1;lia,by show p.2 - 1 < p.2;lia⟩
   |cons q t=>exact .inr (d (by simp))
  .show q.1 < NE p.2 r;rcases Yl.mp a with rfl|a
   .lia
   .exact b q a
def R7(e:Option Int)(p:Int×Int):Bool:=match e with
 |none=>false
 |some x=>decide (x <=p.1)
def Cd(e:Option Int)(re:Int):List (Int×Option Int):=match e with
 |none=>[(re,none)]
 |some x=>if re < x then [(re,some x)] else []
def T0(e:Option Int)(re:Int):List (Int×Int)->List (Int×Option Int)
 |[]=>Cd e re
 |p::r=>if R7 e p=true then Cd e re else(if re < p.1 then [(re,some p.1)] else [])++T0 e p.2 r
def NL(c:List (Int×Int)):List (Int×Option Int):=c.map fun p=>(p.1,some p.2)
theorem Ex(c d:List (Int×Int)):NL (c++d)=NL c++NL d:=Yf
theorem FS(e:Int):∀ (c:List (Int×Int)) (re:Int),T0 (some e) re c=NL (NZ e re c)
 |[],re=>by
  show(if re < e then [(re,some e)] else [])=NL (if re < e then [(re,e)] else [])
  split <;> rfl
 |p::r,re=>by
  unfold T0 NZ;have es:R7 (some e) p=decide (e <=p.1):=rfl;rw[es]
  by_cases h:e <=p.1
  .rw[Y5 (by simpa using h),Y5 h];show(if re < e then [(re,some e)] else [])=_
   split <;> rfl
  .rw[Y2 (by simpa using h),Y2 h,FS e r p.2,Ex]
   congr 1
   split <;> rfl
theorem HX:∀{c:List (Int×Int)} {re:Int},MC c->T0 none re c=NL (NZ (NE re c) re c)++[(NE re c,none)]
 |[],re,_=>by
  show [(re,none)]=NL (if re < re then [(re,re)] else [])++[(re,none)];rw[Y2 (by lia)];rfl
 |p::r,re,hc=>by
  have h3:=(Hx (re:=re) hc).2.2 p YC;unfold T0 NZ;rw[Y2 (show ¬R7 none p=true from Yi),HX (re:=p.2) hc.2.2];have a:NE re (p::r)=NE p.2 r:=rfl;rw[a]at h3 ⊢;rw[Y2 (show ¬NE p.2 r <=p.1 by lia),Ex,Uf]
  congr 1
  split <;> rfl
def oV:Option Int->V
 |none=>.non
 |some n=>.int n
def SY(H:Hp)(x:V)(p:Int×Option Int):Prop:=∃t,x= .ref t/\H t=some (.tup [.int p.1,oV p.2])
def NB(H:Hp)(xs:List V)(c:List (Int×Option Int)):Prop:=Paired (fun x p=>SY H x p) xs c
def JR(H:Hp)(l:Wk)(c:List (Int×Option Int)):Prop:=∃xs,H l=some (.lst xs)/\NB H xs c
def Ti(H G:Hp):Prop:=∀t xs,H t=some (.tup xs)->G t=some (.tup xs)
section
variable{H G J:Hp}{l l':Wk}{xs ys:List V}{c d:List (Int×Option Int)}
theorem Ru(s:Ws H G):Ti H G:=fun t xs e=>s t _ e
theorem T1(b:JC l H G)(h:H l=some (.lst xs)):Ti H G:=fun t ys e=>b t _ e (Wr e h nofun)
theorem RG{kvs:List (WO×V)}(b:JC l H G)(h:H l=some (.dK kvs)):Ti H G:=fun t ys e=>b t _ e (Wr e h nofun)
theorem Ti.trans(a:Ti H G)(b:Ti G J):Ti H J:=fun t xs e=>b t xs (a t xs e)
theorem NB.tk(k:Ti H G)(h:NB H xs c):NB G xs c:=by
 induction h with
 |nil=>exact .nil
 |cons r _ ih=>obtain⟨t,e,z⟩:=r;exact .cons ⟨t,e,k _ _ z⟩ ih
theorem NB.len(h:NB H xs c):xs.length=c.length:=Paired.length h
theorem NB.app(h:NB H xs c)(k:NB H ys d):NB H (xs++ys) (c++d):=by
 induction h with
 |nil=>exact k
 |cons r _ ih=>exact .cons r ih
theorem NB.get(h:NB H xs c){i:Nat}{x:V}(e:xs[i]?=some x):∃p,c[i]?=some p/\SY H x p:=by
 induction h generalizing i with
 |nil=>simp at e
 |cons r _ ih=>
  cases i with
  |zero=>simp at e;subst e;exact⟨_,rfl,r⟩
  |succ i=>simp at e;simpa using ih e
theorem JR.same(s:Ws H G)(h:JR H l c):JR G l c:=by
 obtain⟨xs,e,k⟩:=h;exact⟨xs,s _ _ e,k.tk (Ru s)⟩
theorem Eh(c:List (Int×Int)):(NL c).length=c.length:=Y1 ..
theorem Oy{c:List (Int×Int)}{i:Nat}{p:Int×Option Int}(e:(NL c)[i]?=some p):∃q,c[i]?=some q/\p=(q.1,some q.2):=by
 unfold NL at e;rw[Y9]at e;cases h:c[i]? with
 |none=>rw[h]at e;cases e
 |some q=>rw[h]at e;exact⟨q,rfl,(by simpa using e.symm)⟩
end
section
variable{P:Wc}{w:Wh}{K:Wi}{mg:W8}{base:Wn}
inductive OT(vs:List V)(H:Hp)(Q:VK)(E:XK):Prop|mk (l t:Wk) (c:List (Int×Int)) (lo hi:Int) (_:vs=[.ref l,.ref t]) (_:JR H l (NL c)) (_:c.length <=1000) (_:H t=some (.tup [.int lo,.int hi])) (_:∀l' G,H l'=none->Ws H G->JR G l' (NL (Nn c lo hi))->Q (.ref l') G)
abbrev Kg:Stmt:=top 36
theorem E3:Jx ["cover","span","low","high","ahead","behind","one"] ["cover","span"] (Wp Kg):=by walk_at"e"
theorem eO{f:Wk}{fd:Wf}(F:JE K "with_span" "with_span" Kg f fd)(B:Bt mg):Wz P w K mg base Jf 1 f fd ["cover","span"] OT:=by
 refine F.ok E3 (fun vs H Q E h=>?_) (fun cdv A outer s H vs Q E hr h=>?_)
 .obtain⟨l,t,c,lo,hi,rfl,_⟩:=h;rfl
 .obtain⟨l,t,c,lo,hi,rfl,⟨xs,hl,hc⟩,hz,ht,q⟩:=h;have hlen:xs.length=c.length:=by rw[hc.len,Eh]
  refine⟨_,(WB (JP 2 E3 (Mz K (Wq 1) WE)) (WB (JP 3 E3 (Mz K (Wq 1) WE)) (WB (JP 4 E3 (Te Wu)) (WB (JP 5 E3 (Te Wu)) (WB (GT YT rfl (GE (K:=K) rfl (Wq 0)) (Tg 6 E3) (WH (JJ (JA (Jy Rp) (Mz K (Wq 6) WE) (Wq 2)) (WH (Ta (Md (K:=K) rfl Yr Yu Yv (Dc Da) (Wq 4) (Wx 6 Wu)))) (WH (JJ (JA (Jy Gu) (Mz K (Wq 6) WE) (Wq 3)) (WH (Ta (Md (K:=K) rfl Yr Yu Yv (Dc Da) (Wq 5) (Wx 6 Wu)))) (WB (JP 2 E3 (N4 (OP rfl) B.min (Wx 2 (NT (Mz K (Wq 6) WE) Wu)))) (WH (JP 3 E3 (N4 (Fa rfl) B.max (Wx 3 (NT (Mz K (Wq 6) WE) Wu))))))))))) (WH (Jd (J9 (Bs Eo) (J9 (Bs Eo) (Wq 4) (Te (J7 (hs:=Mh) (NO (Wx 2 (Wx 3 Wu))) Wu))) (Wq 5))))))))),?_⟩;walk_at"rd";refine⟨_,Ja.of ht,_,rfl,_,Ja.of ht,_,rfl,Jc (by simp),fun la G1 hla s1 h1=>⟨Jc (by simp),fun lb G2 hlb s2 h2=>⟨⟨_,WA.of (s2 l _ (s1 l _ hl))⟩,?_⟩⟩⟩;have nab:la≠lb:=N0 h1 hlb;have s02:=s1.trans s2;obtain⟨Pv,r⟩:∃Pv:Nat->L2.St->Hp->Prop,Pv=fun i σ' G=>∃ (st:WS) (v:Option V) (xa z:List V),st=(c.take i).foldl TK ⟨[],lo,hi,[]⟩/\σ'=[some (.ref l),some (.ref t),some (.int st.lo),some (.int st.hi),some (.ref la),some (.ref lb),v]/\Ws H G/\
   G la=some (.lst xa)/\NB G xa (NL st.ah)/\G lb=some (.lst z)/\NB G z (NL st.be)/\st.ah.length <=i/\st.be.length <=i:=⟨_,rfl⟩
  have hlb0:H lb=none:=s1.free hlb;refine Bw (xs:=xs) Pv (by rw[r];exact⟨_,none,[],[],rfl,rfl,s02,s2 la _ h1,.nil,h2,.nil,Y6 _,Y6 _⟩) ?_ ?_ ?_ <;> rw[r]
  .rintro i σ' G _ ⟨st,v,xa,z,_,_,u,_⟩;exact WA.of (u l _ hl)
  .rintro i x σ' G hx ⟨st,v,xa,z,est,rfl,u,ha,j,hb,d,la1,lb1⟩;rw[<-r];have hi':i < xs.length:=(Yq.mp hx).1;obtain⟨p',hp',t1,rfl,ht1⟩:=hc.get hx;obtain⟨p,hp,rfl⟩:=Oy hp';have b:=u t1 _ ht1;have etake:c.take (i+ 1)=c.take i++[p]:=by rw[YK,hp];rfl
   have y:(c.take (i+ 1)).foldl TK ⟨[],lo,hi,[]⟩=TK st p:=by rw[etake,List.foldl_append,<-est];rfl
   walk_at"rd";refine⟨_,Ja.of b,_,rfl,_,rfl,Tj (fun h1=>?_) (fun h1=>?_)⟩
   .have a:p.2 < st.lo:=by simpa using h1
    refine⟨.inl ⟨rfl,_,WA.of ha⟩,_,ha,Tn (by have:=j.len;rw[Eh]at this;lia),fun G3 b3 h3=>?_⟩;have tk:=T1 b3 ha;rw[r];refine⟨TK st p,some (.ref t1),xa++[.ref t1],z,y.symm,?_,u.butNew b3 hla,h3,?_,b3 lb _ hb (Ne.symm nab),?_,?_,?_⟩
    .unfold TK;rw[Y5 a]
    .have e:(TK st p).ah=st.ah++[p]:=by unfold TK;rw[Y5 a]
     rw[e,Ex];exact(j.tk tk).app (.cons ⟨t1,rfl,tk _ _ b⟩ .nil)
    .have e:(TK st p).be=st.be:=by unfold TK;rw[Y5 a]
     rw[e];exact d.tk tk
    .have e:(TK st p).ah=st.ah++[p]:=by unfold TK;rw[Y5 a]
     rw[e];simp;lia
    .have e:(TK st p).be=st.be:=by unfold TK;rw[Y5 a]
     rw[e];lia
   .have a:¬p.2 < st.lo:=by simpa using h1
    refine⟨_,Ja.of b,_,rfl,_,rfl,Tj (fun h2=>?_) (fun h2=>?_)⟩
    .have h2':p.1 > st.hi:=by simpa using h2
     refine⟨.inl ⟨rfl,_,WA.of hb⟩,_,hb,Tn (by have:=d.len;rw[Eh]at this;lia),fun G3 b3 h3=>?_⟩;have tk:=T1 b3 hb;have n:TK st p={st with be:=st.be++[p]}:=by unfold TK;rw[Y2 a,Y5 h2']
     rw[r];refine⟨TK st p,some (.ref t1),xa,z++[.ref t1],y.symm,by rw[n],u.butNew b3 hlb0,b3 la _ ha nab,by rw[n];exact j.tk tk,h3,?_,by rw[n];show st.ah.length <=i+ 1;lia,by rw[n];show(st.be++[p]).length <=i+ 1;simp;lia⟩;rw[n];show NB G3 _ (NL (st.be++[p]));rw[Ex];exact(d.tk tk).app (.cons ⟨t1,rfl,tk _ _ b⟩ .nil)
    .have h2':¬p.1 > st.hi:=by simpa using h2
     have n:TK st p={st with lo:=min st.lo p.1,hi:=max st.hi p.2}:=by unfold TK;rw[Y2 a,Y2 h2']
     refine⟨_,Ja.of b,_,rfl,_,rfl,_,Ja.of b,_,rfl,_,rfl,?_⟩;rw[r];refine⟨TK st p,some (.ref t1),xa,z,y.symm,?_,u,ha,by rw[n];exact j,hb,by rw[n];exact d,by rw[n];show st.ah.length <=i+ 1;lia,by rw[n];show st.be.length <=i+ 1;lia⟩;rw[n];have e1:(if p.1 < st.lo then p.1 else st.lo)=min st.lo p.1:=by split <;> lia
     have e2:(if p.2 > st.hi then p.2 else st.hi)=max st.hi p.2:=by split <;> lia
     rw[e1,e2]
  .rintro σ' G ⟨st,v,xa,z,est,rfl,u,ha,j,hb,d,la1,lb1⟩;walk_at"rd";have a:=j.len;have h2':=d.len;rw[Eh]at a h2';refine⟨Jc (by simp),fun t2 G3 ht2 s3 h3=>⟨Jc (by simp),fun l3 G4 hl3 s4 h4=>⟨_,s4 la _ (s3 la _ ha),_,h4,Jc (by simp;lia),fun l5 G5 hl5 s5 h5=>⟨_,h5,_,s5 lb _ (s4 lb _ (s3 lb _ hb)),Jc (by simp;lia),fun l6 G6 hl6 s6 h6=>?_⟩⟩⟩⟩;have s36:=(s4.trans s5).trans s6;have sG6:=s3.trans s36;refine q l6 G6 ?_ (u.trans sG6) ⟨_,h6,?_⟩
   .exact u.free (s3.free (s4.free (s5.free hl6)))
   .have e:Nn c lo hi=st.ah++[(st.lo,st.hi)]++st.be:=by
     unfold Nn Ed;rw[est,show c.take xs.length=c by rw[hlen,List.take_length]]
    rw[e,Ex,Ex];exact((j.tk (Ru sG6)).app (.cons ⟨t2,rfl,s36 t2 _ h3⟩ .nil)).app (d.tk (Ru sG6))
inductive Ss(vs:List V)(H:Hp)(Q:VK)(E:XK):Prop|mk (l:Wk) (c:List (Int×Int)) (e:Option Int) (_:vs=[.ref l,oV e]) (_:JR H l (NL c)) (_:c.length <=1000) (_:∀l' G,H l'=none->Ws H G->JR G l' (T0 e 0 c)->Q (.ref l') G)
theorem yZ{e:Option Int}{re:Int}{p:Int×Int}{r:List (Int×Int)}(h:R7 e p=true):T0 e re (p::r)=T0 e re []:=by
 show(if R7 e p=true then _ else _)=_;rw[Y5 h];rfl
theorem gN{e:Option Int}{re:Int}{p:Int×Int}{r:List (Int×Int)}(h:R7 e p=false):T0 e re (p::r)=(if re < p.1 then [(re,some p.1)] else [])++T0 e p.2 r:=by
 show(if R7 e p=true then _ else _)=_;rw[Y2 (by rw[h];exact Yi)]
abbrev Kn:Stmt:=top 37
theorem EK:Jx ["cover","end","told","reached","low","high"] ["cover","end"] (Wp Kn):=by walk_at"e"
theorem uK{f:Wk}{fd:Wf}(F:JE K "lacking" "lacking" Kn f fd):Wz P w K mg base Jf 1 f fd ["cover","end"] Ss:=by
 refine F.ok EK (fun vs H Q E h=>?_) (fun cdv A outer s H vs Q E hr h=>?_)
 .obtain⟨l,c,e,rfl,_⟩:=h;rfl
 .obtain⟨l,c,e,rfl,⟨xs,hl,hc⟩,hz,q⟩:=h;have hlen:xs.length=c.length:=by rw[hc.len,Eh]
  refine⟨_,(WB (JP 2 EK (Te Wu)) (WB (JP 3 EK WE) (WB (GT YT rfl (GE (K:=K) rfl (Wq 0)) (GM (K:=K) (n:=2) rfl rfl (TL (Tg 4 EK) (TL (Tg 5 EK) GV))) (WB (JJ (PW.pt (D3 (JA Bb (Wq 1) Mf) (DD (JA (Jy CN) (Wq 4) (Wq 1))))) (WH eP) JV) (WB (DE (JJ (JA (Jy Gu) (Wq 4) (Wq 3)) (WH (Ta (Md (K:=K) rfl Yr Yu Yv (Dc Da) (Wq 2) (J7 (hs:=Mh) (NO (Wx 3 (Wx 4 Wu))) Wu)))) JV)) (WH (JP 3 EK (Wq 5)))))) (WB (DE (JJ (JA A2 (Wq 1) Mf) (WH (Ta (Md (K:=K) rfl Yr Yu Yv (Dc Da) (Wq 2) (J7 (hs:=Mh) (NO (Wx 3 (NI Mf Wu))) Wu)))) (WH (JJ (JA (Jy Rp) (Wq 3) (Wq 1)) (WH (Ta (Md (K:=K) rfl Yr Yu Yv (Dc Da) (Wq 2) (J7 (hs:=Mh) (NO (Wx 3 (Wx 1 Wu))) Wu)))) JV)))) (WH (Jd (Wq 2))))))),?_⟩;refine WX fun N z=>?_
  walk_at"rd";refine⟨Jc (by simp),fun lt G1 hlt s1 h1=>z _ _ ?_⟩;clear z N;refine WX fun N z=>?_
  walk_at"rd";refine z _ _ ?_;clear z N;refine WX fun N z=>?_
  have tail:∀ (t:List (Int×Option Int)) (a:Int) (G:Hp) (u:List V) (v4 v5:Option V),Ws H G->G lt=some (.lst u)->NB G u t->t.length <=1001->T0 e 0 c=t++T0 e a []->
    N [some (.ref l),some (oV e),some (.ref lt),some (.int a),v4,v5] G:=by
   intro t a G u v4 v5 v y ht hl2 b;refine z _ _ ?_;have hxl:=ht.len;refine WX fun N z=>?_
   obtain⟨R,eR⟩:∃R:L2.St->Hp->Prop,R=fun σ' G'=>∃j:List V,σ'=[some (.ref l),some (oV e),some (.ref lt),some (.int a),v4,v5]/\Ws H G'/\G' lt=some (.lst j)/\NB G' j (T0 e 0 c):=⟨_,rfl⟩
   refine⟨R,?_,fun σ' G' hR=>z _ _ ?_⟩
   rotate_left
   .rw[eR]at hR;obtain⟨j,rfl,sG',hx',ht'⟩:=hR;walk_at"rd";exact q lt G' hlt sG' ⟨j,hx',ht'⟩
   clear z;cases e with
   |none=>
    have d:T0 none 0 c=t++[(a,none)]:=b;walk_at"rd";simp only[oV,Xt,if_true];refine⟨.inl ⟨rfl,_,WA.of y⟩,Jc (by simp),fun t2 G2 ht2 r h2=>⟨_,r lt _ y,Tn (by lia),fun G3 b3 h3=>?_⟩⟩;have tk:=T1 b3 (r lt _ y);rw[eR];refine⟨_,rfl,(v.trans r).butNew b3 hlt,h3,?_⟩;rw[d];exact((ht.tk (Ru r)).tk tk).app (.cons ⟨t2,rfl,tk _ _ h2⟩ .nil)
   |some x=>
    have d:T0 (some x) 0 c=t++(if a < x then [(a,some x)] else []):=b;walk_at"rd";simp only[oV,reduceCtorEq,Xq,Bool.false_eq_true,if_false];refine⟨_,rfl,Tj (fun h=>?_) (fun h=>?_)⟩
    .have h':a < x:=by simpa using h
     rw[Y5 h']at d;refine⟨.inl ⟨rfl,_,WA.of y⟩,Jc (by simp),fun t2 G2 ht2 r h2=>⟨_,r lt _ y,Tn (by lia),fun G3 b3 h3=>?_⟩⟩;have tk:=T1 b3 (r lt _ y);rw[eR];refine⟨_,rfl,(v.trans r).butNew b3 hlt,h3,?_⟩;rw[d];exact((ht.tk (Ru r)).tk tk).app (.cons ⟨t2,rfl,tk _ _ h2⟩ .nil)
    .have h':¬a < x:=by simpa using h
     rw[Y2 h',List.append_nil]at d;rw[eR];exact⟨u,rfl,v,y,by rw[d];exact ht⟩
  walk_at"rd";refine⟨⟨_,WA.of (s1 l _ hl)⟩,?_⟩;obtain⟨Pv,ePv⟩:∃Pv:Nat->L2.St->Hp->Prop,Pv=fun i σ' G=>∃ (t:List (Int×Option Int)) (a:Int) (u:List V) (v4 v5:Option V),σ'=[some (.ref l),some (oV e),some (.ref lt),some (.int a),v4,v5]/\Ws H G/\G lt=some (.lst u)/\NB G u t/\t.length <=i/\
   T0 e 0 c=t++T0 e a (c.drop i):=⟨_,rfl⟩
  refine Bw (xs:=xs) Pv (by rw[ePv];exact⟨[],0,[],none,none,rfl,s1,h1,.nil,Y6 _,by simp⟩) ?_ ?_ ?_ <;> rw[ePv]
  .rintro i σ' G _ ⟨t,a,u,v4,v5,_,v,_⟩;exact WA.of (v l _ hl)
  .rintro i x σ' G y ⟨t,a,u,v4,v5,rfl,v,ha,hca,hti,b⟩;rw[<-ePv];have hi':i < xs.length:=(Yq.mp y).1;obtain⟨p',hp',t1,rfl,ht1⟩:=hc.get y;obtain⟨p,hp,rfl⟩:=Oy hp';have ht1':=v t1 _ ht1;have edrop:c.drop i=p::c.drop (i+ 1):=by
    rw[UC (by lia)]
    congr 1
    have:=Y7 (l:=c) (i:=i) (by lia);rw[this]at hp;exact Option.some.inj hp
   rw[edrop]at b;refine⟨t1,_,rfl,Ja.of ht1',rfl,_,_,rfl,_,_,rfl,rfl,?_⟩;refine WX fun N2 hN2=>?_
   have brk:R7 e p=true->N [some (.ref l),some (oV e),some (.ref lt),some (.int a),some (.int p.1),some (.int p.2)] G:=fun hs=>by
    rw[yZ hs]at b;exact tail t a G u _ _ v ha hca (by lia) b
   have goOn:R7 e p=false->N2 [some (.ref l),some (oV e),some (.ref lt),some (.int a),some (.int p.1),some (.int p.2)] G:=fun hs=>by
    rw[gN hs]at b;have hxl:=hca.len;refine hN2 _ _ ?_;refine WX fun N3 hN3=>?_
    obtain⟨R,eR⟩:∃R:L2.St->Hp->Prop,R=fun σ' G'=>∃ (t':List (Int×Option Int)) (j:List V),σ'=[some (.ref l),some (oV e),some (.ref lt),some (.int a),some (.int p.1),some (.int p.2)]/\Ws H G'/\G' lt=some (.lst j)/\NB G' j t'/\t'.length <=i+ 1/\T0 e 0 c=t'++T0 e p.2 (c.drop (i+ 1)):=⟨_,rfl⟩
    refine⟨R,?_,fun σ' G' hR=>hN3 _ _ ?_⟩
    rotate_left
    .rw[eR]at hR;obtain⟨t',j,rfl,sG',hx',ht',hl',d⟩:=hR;walk_at"rd";rw[ePv];exact⟨t',p.2,j,_,_,rfl,sG',hx',ht',hl',d⟩
    walk_at"rd";refine Tj (fun h=>?_) (fun h=>?_)
    .have h':a < p.1:=by simpa using h
     rw[Y5 h']at b;refine⟨.inl ⟨rfl,_,WA.of ha⟩,Jc (by decide),fun t2 G2 ht2 r h2=>⟨_,r lt _ ha,Tn (by lia),fun G3 b3 h3=>?_⟩⟩;have tk:=T1 b3 (r lt _ ha);rw[eR];refine⟨t++[(a,some p.1)],_,rfl,(v.trans r).butNew b3 hlt,h3,?_,by simp;lia,by rw[b,Uf]⟩;exact((hca.tk (Ru r)).tk tk).app (.cons ⟨t2,rfl,tk _ _ h2⟩ .nil)
    .have h':¬a < p.1:=by simpa using h
     rw[Y2 h',List.nil_append]at b;rw[eR];exact⟨t,u,rfl,v,ha,hca,by lia,b⟩
   walk_at"rd";cases e with
   |none=>
    simp only[oV,Xt,Bool.not_true,Bool.false_eq_true,if_false];exact goOn rfl
   |some x=>
    simp only[oV,reduceCtorEq,Xq,Bool.not_false,if_true];refine⟨_,rfl,Tj (fun h=>?_) (fun h=>?_)⟩
    .exact brk h
    .exact goOn (by simpa[R7] using h)
  .rintro σ' G ⟨t,a,u,v4,v5,rfl,v,ha,hca,hti,b⟩;exact tail t a G u v4 v5 v ha hca (by lia) (by rw[b,List.drop_eq_nil_of_le (by lia)])
end
structure RS where
 st:List (Int×Int)
 cv:List (Int×Int)
 en:Option Int
 re:Int
def Ml(st:List (Int×Int)):List (WO×V):=st.map fun p=>(Sum.inl p.1,V.int p.2)
def Jz(st:List (Int×Int))(n:Int):Option Int:=(st.find? fun p=>decide (p.1=n)).map (·.2)
def GJ(st:List (Int×Int))(n b:Int):List (Int×Int):=if(st.any fun p=>decide (p.1=n))=true then st.map (fun p=>if p.1=n then(p.1,b) else p) else st++[(n,b)]
theorem Rb(st:List (Int×Int))(n:Int):WM (Ml st) (Sum.inl n)=(Jz st n).map V.int:=by
 unfold WM Ml Jz
 induction st with
 |nil=>rfl
 |cons p r ih=>
  by_cases h:p.1=n
  .simp[YN,h]
  .have h':¬(Sum.inl p.1:WO)=Sum.inl n:=fun z=>h (UT z)
   simp only[List.map_cons,YN,Yp h,Yp h'];exact ih
theorem A7(st:List (Int×Int))(n b:Int):TC (Ml st) (Sum.inl n) (V.int b)=Ml (GJ st n b):=by
 have e:((Ml st).any fun a=>decide (a.1=(Sum.inl n:WO)))=(st.any fun p=>decide (p.1=n)):=by
  unfold Ml;rw[W5]
  congr 1
  funext p
  show decide ((Sum.inl p.1:WO)=Sum.inl n)=decide (p.1=n);rw[Yw,Yb,Yb];exact⟨UT,YU _⟩
 unfold TC GJ;rw[e]
 by_cases h:(st.any fun p=>decide (p.1=n))=true
 .rw[Y5 h,Y5 h];unfold Ml;rw[Yo,Yo];apply YO;intro p _;show(if(Sum.inl p.1:WO)=Sum.inl n then((Sum.inl p.1:WO),V.int b) else((Sum.inl p.1:WO),V.int p.2))=((Sum.inl (if p.1=n then(p.1,b) else p).1:WO),V.int (if p.1=n then(p.1,b) else p).2)
  by_cases hp:p.1=n
  .rw[Y5 hp,Y5 (YU _ hp)]
  .rw[Y2 hp,Y2 (fun z=>hp (UT z))]
 .rw[Y2 h,Y2 h];unfold Ml;rw[Yf];rfl
theorem O6(st:List (Int×Int))(n b m:Int):Jz (GJ st n b) m=if m=n then some b else Jz st m:=by
 have h:=YU (fun k=>WM k (Sum.inl m)) (A7 st n b);rw[nW,Rb,Rb]at h
 by_cases hm:m=n
 .rw[Y5 hm];rw[Y5 (YU _ hm)]at h;cases e:Jz (GJ st n b) m with
  |none=>rw[e]at h;cases h
  |some x=>rw[e]at h;have:=Option.some.inj h;rw[V.int.injEq]at this;rw[<-this]
 .rw[Y2 hm];rw[Y2 (fun z=>hm (UT z))]at h;cases e:Jz (GJ st n b) m with
  |none=>
   rw[e]at h;cases e2:Jz st m with
   |none=>rfl
   |some y=>rw[e2]at h;cases h
  |some x=>
   rw[e]at h;cases e2:Jz st m with
   |none=>rw[e2]at h;cases h
   |some y=>rw[e2]at h;have:=Option.some.inj h;rw[V.int.injEq]at this;rw[this]
theorem aD(st:List (Int×Int))(n b:Int):(GJ st n b).length <=st.length+ 1:=by
 unfold GJ;split
 .rw[Y1];lia
 .rw[Ys];exact Y6 _
def JG(la:Bool):List (Int×Int)->Int->List Int->List (Int×Int)
 |st,_,[]=>st
 |st,n,b::bs=>JG la (if la=true\/(Jz st n).isSome=false then GJ st n b else st) (n+ 1) bs
def strange(rs:RS)(d:PD):Bool:=
 if d.mo=true then(match rs.en with|some e=>decide (e <=d.at'+ d.ns.length)|none=>false)
 else(match rs.en with|some e=> !decide (d.at'+ d.ns.length=e)|none=>decide (d.at'+ d.ns.length <=rs.re))
def Nm(st:List (Int×Int)):Int->List Int->Option Int
 |_,[]=>none
 |n,b::bs=>match Jz st n with|some x=>if x=b then Nm st (n+ 1) bs else some n|none=>Nm st (n+ 1) bs
def JB(la:Bool)(rs:RS)(d:PD):RS:=
 ⟨JG la rs.st d.at' d.ns,Nn rs.cv d.at' (d.at'+ d.ns.length),if d.mo=true then rs.en else some (d.at'+ d.ns.length),if d.mo=true then max rs.re (d.at'+ d.ns.length) else rs.re⟩
theorem Ec(la:Bool):∀ (bs:Wl) (st:List (Int×Int)) (n:Int),(JG la st n bs).length <=st.length+ bs.length
 |[],st,n=>Y6 _
 |b::bs,st,n=>by
  have h:=Ec la bs (if la=true\/(Jz st n).isSome=false then GJ st n b else st) (n+ 1);have h2:=aD st n b;show(JG la _ _ bs).length <=st.length+ (bs.length+ 1)
  split at h <;> rename_i hc
  .rw[Y5 hc];lia
  .rw[Y2 hc];lia
section
variable{P:Wc}{w:Wh}{K:Wi}{mg:W8}{base:Wn}
structure DP(K:Wi)(C:Wk):Prop where
 cl:MN K C
 rule:WI K C "rule"
 standing:WI K C "standing"
 cover:WI K C "cover"
 ending:WI K C "ending"
 reach:WI K C "reach"
structure Nh(C:Wk)(H:Hp)(p a l:Wk)(ru:Str)(rs:RS):Prop where
 ex:∃dx fs,H p=some (.ins C dx fs)/\fs.length <=5/\fs.lookup ("rule":Str)=some (.str ru)/\fs.lookup ("standing":Str)=some (.ref a)/\fs.lookup ("cover":Str)=some (.ref l)/\fs.lookup ("ending":Str)=some (oV rs.en)/\fs.lookup ("reach":Str)=some (.int rs.re)/\
  fs.lookup ("is_strange":Str)=none/\fs.lookup ("unlike_number":Str)=none/\fs.lookup ("take":Str)=none/\fs.lookup ("missing":Str)=none/\fs.lookup ("taken_body":Str)=none/\fs.lookup ("answer_to":Str)=none/\fs.lookup ("size":Str)=none/\fs.lookup ("number":Str)=none
 dk:H a=some (.dK (Ml rs.st))
 cv:JR H l (NL rs.cv)
theorem Nh.mono{C:Wk}{H G:Hp}{p a l:Wk}{ru:Str}{rs:RS}(s:Ws H G)(h:Nh C H p a l ru rs):Nh C G p a l ru rs:=by
 obtain⟨⟨dx,fs,b,r⟩,c,d⟩:=h;exact⟨⟨dx,fs,s _ _ b,r⟩,s _ _ c,d.same s⟩
variable{C p a l:Wk}{H:Hp}{ru:Str}{rs:RS}
theorem Nh.ne{CP q b:Wk}{d:PD}(h:Nh C H p a l ru rs)(k:JN CP H q b d):q≠p/\b≠p/\q≠a/\b≠a:=by
 obtain⟨dx,fs,e,_,_,_,_,_,_,_,_,_,_,_,_,_,n⟩:=h.ex;obtain⟨r,fs',c,j,_⟩:=k.ats;have i:=k.bd;have f:=h.dk;refine⟨fun z=>?_,Wr i e nofun,Wr c f nofun,Wr i f nofun⟩;rw[z,e]at c;cases c;rw[n]at j;cases j
theorem L3(la:Bool):∀ (bs:Wl) (st:List (Int×Int)) (n b:Int),JG la st n (bs++[b])=(if la=true\/(Jz (JG la st n bs) (n+ bs.length)).isSome=false then GJ (JG la st n bs) (n+ bs.length) b else JG la st n bs)
 |[],st,n,b=>by
  show JG la (if la=true\/(Jz st n).isSome=false then GJ st n b else st) (n+ 1) []=_;simp[JG]
 |x::bs,st,n,b=>by
  show JG la _ (n+ 1) (bs++[b])=_;rw[L3 la bs];have e:n+ 1+ (bs.length:Int)=n+ ((x::bs).length:Int):=by rw[List.length_cons];lia
  rw[e];rfl
theorem Fz(L:DP K C)(h:Nh C H p a l ru rs):Nb K H (.ref p) "rule" (.str ru):=by
 obtain⟨dx,fs,b,_,c,i,f,e,d,_⟩:=h.ex;exact⟨p,C,dx,fs,rfl,b,L.cl,L.rule,c⟩
theorem EA(L:DP K C)(h:Nh C H p a l ru rs):Nb K H (.ref p) "standing" (.ref a):=by
 obtain⟨dx,fs,b,_,i,c,f,e,d,_⟩:=h.ex;exact⟨p,C,dx,fs,rfl,b,L.cl,L.standing,c⟩
theorem Z7(L:DP K C)(h:Nh C H p a l ru rs):Nb K H (.ref p) "cover" (.ref l):=by
 obtain⟨dx,fs,b,_,i,f,c,e,d,_⟩:=h.ex;exact⟨p,C,dx,fs,rfl,b,L.cl,L.cover,c⟩
theorem Bv(L:DP K C)(h:Nh C H p a l ru rs):Nb K H (.ref p) "ending" (oV rs.en):=by
 obtain⟨dx,fs,b,_,i,f,e,c,d,_⟩:=h.ex;exact⟨p,C,dx,fs,rfl,b,L.cl,L.ending,c⟩
theorem Qc(L:DP K C)(h:Nh C H p a l ru rs):Nb K H (.ref p) "reach" (.int rs.re):=by
 obtain⟨dx,fs,b,_,i,f,e,d,c,_⟩:=h.ex;exact⟨p,C,dx,fs,rfl,b,L.cl,L.reach,c⟩
theorem S9(h:Nh C H p a l ru rs):Gx C "is_strange" H (.ref p):=by
 obtain⟨dx,fs,b,_,_,_,_,_,_,f,_⟩:=h.ex;exact⟨p,dx,fs,rfl,b,f⟩
theorem xD(h:Nh C H p a l ru rs):Gx C "unlike_number" H (.ref p):=by
 obtain⟨dx,fs,b,_,_,_,_,_,_,_,f,_⟩:=h.ex;exact⟨p,dx,fs,rfl,b,f⟩
theorem bT(h:Nh C H p a l ru rs):Gx C "take" H (.ref p):=by
 obtain⟨dx,fs,b,_,_,_,_,_,_,_,_,f,_⟩:=h.ex;exact⟨p,dx,fs,rfl,b,f⟩
theorem Sq(h:Nh C H p a l ru rs):Gx C "missing" H (.ref p):=by
 obtain⟨dx,fs,b,_,_,_,_,_,_,_,_,_,f,_⟩:=h.ex;exact⟨p,dx,fs,rfl,b,f⟩
theorem eV(h:Nh C H p a l ru rs):Gx C "taken_body" H (.ref p):=by
 obtain⟨dx,fs,b,_,_,_,_,_,_,_,_,_,_,f,_⟩:=h.ex;exact⟨p,dx,fs,rfl,b,f⟩
theorem LX(h:Nh C H p a l ru rs):Gx C "size" H (.ref p):=by
 obtain⟨dx,fs,b,_,_,_,_,_,_,_,_,_,_,_,_,f,_⟩:=h.ex;exact⟨p,dx,fs,rfl,b,f⟩
theorem nO(h:Nh C H p a l ru rs):Gx C "answer_to" H (.ref p):=by
 obtain⟨dx,fs,b,_,_,_,_,_,_,_,_,_,_,_,f,_⟩:=h.ex;exact⟨p,dx,fs,rfl,b,f⟩
end
section
variable{P:Wc}{w:Wh}{K:Wi}{mg:W8}{base:Wn}
def LZ(C:Wk)(f:Str)(H:Hp)(p b:Wk)(xs:List V):Prop:=∃dx fs,H p=some (.ins C dx fs)/\fs.lookup f=some (.ref b)/\H b=some (.lst xs)
def GH(C:Wk)(f:Str)(H:Hp)(p:Wk)(v:V):Prop:=∃dx fs,H p=some (.ins C dx fs)/\fs.lookup f=some v
structure EO(K:Wi)(C:Wk)(f:Str):Prop where
 cl:MN K C
 na:WI K C f
abbrev AL(K:Wi)(f:Wk)(fd:Wf)(q:Str)(st:Stmt):Prop:=∃ (oc:Wj) (od:Option Addr) (dV kV doc pm:Wj) (an:Option Addr) (cdv ct:Wj) (osl:Array (Option Value)),
  fd=W.fnOf "__init__" q (MT st) (WN st) (Wp st) dV kV doc pm an cdv ct/\K.lookup f=some ⟨oc,od,.func fd,osl⟩/\W.codeIn K cdv q=true
inductive Ox(C:Wk)(vs:List V)(H:Hp)(Q:VK)(E:XK):Prop|mk (p dx b xs:_) (_:vs=[.ref p,.ref b]) (_:H p=some (.ins C dx [])) (_:H b=some (.lst xs)) (_:∀b' G,H b'=none->JC p H G->LZ C "body" G p b' xs->Q .non G)
abbrev JX:Stmt:=To (top 40) 0
theorem wM:Jx ["self","body"] ["self","body"] (Wp JX):=by walk_at"e"
theorem vD{f C:Wk}{fd:Wf}(F:AL K f fd "Whole.__init__" JX)(L:EO K C "body")(B:Bt mg):Wz P w K mg base Jf 1 f fd ["self","body"] (Ox C):=by
 obtain⟨oc,od,dV,kV,doc,pm,an,y,ct,osl,rfl,lk,u⟩:=F;refine E7 lk u wM (fun vs H Q E h=>?_) (fun A a s H vs Q E hr h=>?_)
 .obtain⟨p,dx,b,xs,rfl,_⟩:=h;rfl
 .obtain⟨p,dx,b,xs,rfl,r,hb,q⟩:=h
  suffices hh:∃t,MP (Mi Jf P w K mg base _ "Whole.__init__" (Wp JX) f y A a s H E).nox (WN JX) t/\t {nx:=fun _ H'=>Q .non H',rt:=Q} (L2.start _ _) H by
   obtain⟨t,h1,h2⟩:=hh;exact⟨t,h1.nox,h2⟩
  refine⟨_,(WH (MH (K:=K) rfl (Wq 0) (Bu (Q8 (QF (K:=K) rfl)) rfl B.blist (by rfl) (Wx 1 Wu)) rfl)),?_⟩;walk_at"rd";refine⟨_,.inl (WA.of hb),fun i G1 d j x=>?_⟩;refine⟨C,dx,[],j p _ r,L.cl,L.na,by decide,fun G2 z v=>?_⟩;have n:i≠p:=Ne.symm (N0 r d);exact q i G2 d (fun c o e hc=>z c o (j c o e) hc) ⟨dx,_,v,Mw,z i _ x n⟩
inductive S5(C:Wk)(vs:List V)(H:Hp)(Q:VK)(E:XK):Prop|mk (p dx v:_) (_:vs=[.ref p,v]) (_:H p=some (.ins C dx [])) (_:∀G,JC p H G->GH C "at" G p v->Q .non G)
abbrev JO:Stmt:=To (top 41) 0
theorem vB:Jx ["self","at"] ["self","at"] (Wp JO):=by walk_at"e"
theorem eY{f C:Wk}{fd:Wf}(F:AL K f fd "Unlike.__init__" JO)(L:EO K C "at"):Wz P w K mg base Jf 1 f fd ["self","at"] (S5 C):=by
 obtain⟨z,y,dV,kV,u,x,an,d,ct,r,rfl,e,b⟩:=F;refine E7 e b vB (fun vs H Q E h=>?_) (fun A a s H vs Q E hr h=>?_)
 .obtain⟨p,dx,v,rfl,_⟩:=h;rfl
 .obtain⟨p,dx,v,rfl,i,q⟩:=h
  suffices hh:∃t,MP (Mi Jf P w K mg base _ "Unlike.__init__" (Wp JO) f d A a s H E).nox (WN JO) t/\t {nx:=fun _ H'=>Q .non H',rt:=Q} (L2.start _ _) H by
   obtain⟨t,h1,h2⟩:=hh;exact⟨t,h1.nox,h2⟩
  refine⟨_,(WH (MH (K:=K) rfl (Wq 0) (Wq 1) rfl)),?_⟩;walk_at"rd";exact⟨C,dx,[],i,L.cl,L.na,by decide,fun n j c=>q n j ⟨dx,_,c,Mw⟩⟩
inductive ON(C:Wk)(f:Str)(vs:List V)(H:Hp)(Q:VK)(E:XK):Prop|mk (b xs:_) (_:vs=[.ref b]) (_:H b=some (.lst xs)) (_:∀p b' G,H p=none->H b'=none->Ws H G->LZ C f G p b' xs->Q (.ref p) G)
theorem bY{C:Wk}(F:Gv P w K mg base "Whole" C 1 ["self","body"] [] (Ox C)):Gw P w K mg base "Whole" 1 (ON C "body"):=by
 refine F.ct fun vs H Q h y dx G a r u s f=>?_
 obtain⟨b,xs,rfl,c,q⟩:=h;exact⟨y,dx,b,xs,rfl,f,s b _ c,fun p H' j n i=>⟨rfl,q y p H' a (s.free j) (fun d o e=>n d o (s d o e) (N0 e a)) i⟩⟩
inductive Pb(C:Wk)(vs:List V)(H:Hp)(Q:VK)(E:XK):Prop|mk (v:_) (_:vs=[v]) (_:∀p G,H p=none->Ws H G->GH C "at" G p v->Q (.ref p) G)
theorem jS{C:Wk}(F:Gv P w K mg base "Unlike" C 1 ["self","at"] [] (S5 C)):Gw P w K mg base "Unlike" 1 (Pb C):=by
 refine F.ct fun vs H Q h y dx G a i j s b=>?_
 obtain⟨v,rfl,q⟩:=h;exact⟨y,dx,v,rfl,b,fun H' f c=>⟨rfl,q y H' a (fun d o e=>f d o (s d o e) (N0 e a)) c⟩⟩
inductive OL(C:Wk)(vs:List V)(H:Hp)(Q:VK)(E:XK):Prop|mk (p dx ru:_) (_:vs=[.ref p,.str ru]) (_:H p=some (.ins C dx [])) (_:∀a l G,H a=none->H l=none->a≠l->JC p H G->Nh C G p a l ru ⟨[],[],none,0⟩->Q .non G)
abbrev JH:Stmt:=To (top 42) 0
theorem dZ:Jx ["self","rule"] ["self","rule"] (Wp JH):=by walk_at"e"
theorem Zt{f C:Wk}{fd:Wf}(F:AL K f fd "Reading.__init__" JH)(L:DP K C):Wz P w K mg base Jf 1 f fd ["self","rule"] (OL C):=by
 obtain⟨oc,od,dV,kV,doc,pm,an,cdv,ct,osl,rfl,lk,hcd⟩:=F;refine E7 lk hcd dZ (fun vs H Q E h=>?_) (fun A n s H vs Q E hr h=>?_)
 .obtain⟨p,dx,ru,rfl,_⟩:=h;rfl
 .obtain⟨p,dx,ru,rfl,hp,q⟩:=h
  suffices hh:∃t,MP (Mi Jf P w K mg base _ "Reading.__init__" (Wp JH) f cdv A n s H E).nox (WN JH) t/\t {nx:=fun _ H'=>Q .non H',rt:=Q} (L2.start _ _) H by
   obtain⟨t,h1,h2⟩:=hh;exact⟨t,h1.nox,h2⟩
  refine⟨_,(WB (MH (K:=K) rfl (Wq 0) (Wq 1) rfl) (WB (MH (K:=K) rfl (Wq 0) Q3 rfl) (WB (MH (K:=K) rfl (Wq 0) (Te Wu) rfl) (WB (MH (K:=K) rfl (Wq 0) Mf rfl) (WH (MH (K:=K) rfl (Wq 0) WE rfl)))))),?_⟩;walk_at"rd";have i:([]:List (Str×V)).length <=0:=Y6 0;refine⟨C,dx,[],hp,L.cl,L.rule,by decide,fun G1 b1 x=>?_⟩;intro a Ga ha z hGa;refine⟨C,dx,_,z p _ x,L.cl,L.standing,Ya (Jg i) (by decide),fun G2 b2 v=>⟨Jc (by simp),fun l Gl r y hGl=>?_⟩⟩;refine⟨C,dx,_,y p _ v,L.cl,L.cover,Ya (Jg (Jg i)) (by decide),fun G3 b3 hG3=>?_⟩;refine⟨C,dx,_,hG3,L.cl,L.ending,Ya (Jg (Jg (Jg i))) (by decide),fun G4 b4 hG4=>?_⟩;refine⟨C,dx,_,hG4,L.cl,L.reach,Ya (Jg (Jg (Jg (Jg i)))) (by decide),fun G5 b5 hG5=>?_⟩;have d:a≠p:=Ne.symm (N0 x ha);have b:l≠p:=Ne.symm (N0 v r);have u:G2 a=some (.dK []):=b2 a _ hGa d;have nal:a≠l:=N0 u r;have haH:H a=none:=by
   cases e:H a with
   |none=>rfl
   |some o=>rw[b1 a o e d]at ha;cases ha
  have hlH:H l=none:=by
   cases e:H l with
   |none=>rfl
   |some o=>rw[b2 l o (z l o (b1 l o e b)) b]at r;cases r
  refine q a l G5 haH hlH nal (fun c o e j=>b5 c o (b4 c o (b3 c o (y c o (b2 c o (z c o (b1 c o e j)) j)) j) j) j) ⟨⟨dx,_,hG5,?_,?_,?_,?_,?_,?_,?_,?_,?_,?_,?_,?_,?_,?_⟩,?_,?_⟩
  .exact Jg (Jg (Jg (Jg (Jg i))))
  .rw[WU,WU,WU,WU,Mw] <;> decide +kernel
  .rw[WU,WU,WU,Mw] <;> decide +kernel
  .rw[WU,WU,Mw] <;> decide +kernel
  .rw[WU,Mw] <;> first|rfl|decide +kernel
  .rw[Mw]
  all_goals first
   |(rw[WU,WU,WU,WU,WU] <;> first|rfl|decide +kernel)
   |skip
  .exact b5 a _ (b4 a _ (b3 a _ (y a _ u) d) d) d
  .exact⟨[],b5 l _ (b4 l _ (b3 l _ hGl b) b) b,.nil⟩
end
section
theorem Bz{f:Str}{v x:V}:∀{fs:List (Str×V)},fs.lookup f=some x->(Ni f v fs).length=fs.length
 |[],h=>by cases h
 |(g,y)::r,h=>by
  show(if g=f then(g,v)::r else(g,y)::Ni f v r).length=_
  by_cases e:g=f
  .rw[Y5 e];rfl
  .rw[Y2 e,List.length_cons,List.length_cons];have hb:(f==g)=false:=Xg.mpr (fun z=>e z.symm);rw[show List.lookup f ((g,y)::r)=(match f==g with|true=>some y|false=>List.lookup f r) from rfl,hb]at h;rw[Bz h]
theorem JR.tkp{H G:Hp}{l:Wk}{c:List (Int×Option Int)}(h:JR H l c)(k:Ti H G)(e:∀xs,H l=some (.lst xs)->G l=some (.lst xs)):JR G l c:=by
 obtain⟨xs,h1,h2⟩:=h;exact⟨xs,e xs h1,h2.tk k⟩
variable{C p a l:Wk}{H G:Hp}{ru:Str}{rs:RS}
theorem Nh.dict{st:List (Int×Int)}(h:Nh C H p a l ru rs)(b:JC a H G)(e:G a=some (.dK (Ml st))):Nh C G p a l ru {rs with st:=st}:=by
 obtain⟨⟨dx,fs,f,r⟩,c,i⟩:=h;exact⟨⟨dx,fs,b _ _ f (Wr f c nofun),r⟩,e,i.tkp (RG b c) fun xs d=>b _ _ d (Wr d c nofun)⟩
theorem Ik{C dx:Wk}{fs:List (Str×V)}(b:JC p H G)(h:H p=some (.ins C dx fs)):Ti H G:=fun t ys e=>b t _ e (Wr e h nofun)
theorem Nh.cover'{l' dx:Wk}{fs:List (Str×V)}{cv:List (Int×Int)}(h:Nh C H p a l ru rs)(hp:H p=some (.ins C dx fs))(b:JC p H G)(e:G p=some (.ins C dx (Ni "cover" (.ref l') fs)))(hc:JR H l' (NL cv)):Nh C G p a l' ru {rs with cv:=cv}:=by
 obtain⟨⟨dx',fs',c,f0,f1,f2,y,x,w,v,u,s,r,q,n,j,i⟩,f,cv⟩:=h;rw[hp]at c;cases c;have tk:=Ik b hp;refine⟨⟨dx,_,e,?_,?_,?_,?_,?_,?_,?_,?_,?_,?_,?_,?_,?_,?_⟩,b _ _ f (Wr f hp nofun),hc.tkp tk fun xs d=>b _ _ d (Wr d hp nofun)⟩
 .rw[Bz y];exact f0
 .rw[WU (by decide +kernel)];exact f1
 .rw[WU (by decide +kernel)];exact f2
 .rw[Mw]
 .rw[WU (by decide +kernel)];exact x
 .rw[WU (by decide +kernel)];exact w
 .rw[WU (by decide +kernel)];exact v
 .rw[WU (by decide +kernel)];exact u
 .rw[WU (by decide +kernel)];exact s
 .rw[WU (by decide +kernel)];exact r
 .rw[WU (by decide +kernel)];exact q
 .rw[WU (by decide +kernel)];exact n
 .rw[WU (by decide +kernel)];exact j
 .rw[WU (by decide +kernel)];exact i
theorem Nh.reach'{dx:Wk}{fs:List (Str×V)}{re:Int}(h:Nh C H p a l ru rs)(hp:H p=some (.ins C dx fs))(b:JC p H G)(e:G p=some (.ins C dx (Ni "reach" (.int re) fs))):Nh C G p a l ru {rs with re:=re}:=by
 obtain⟨⟨dx',fs',c,f0,f1,f2,y,x,w,v,u,s,r,q,n,j,i⟩,f,cv⟩:=h;rw[hp]at c;cases c;have tk:=Ik b hp;refine⟨⟨dx,_,e,?_,?_,?_,?_,?_,?_,?_,?_,?_,?_,?_,?_,?_,?_⟩,b _ _ f (Wr f hp nofun),cv.tkp tk fun xs d=>b _ _ d (Wr d hp nofun)⟩
 .rw[Bz w];exact f0
 .rw[WU (by decide +kernel)];exact f1
 .rw[WU (by decide +kernel)];exact f2
 .rw[WU (by decide +kernel)];exact y
 .rw[WU (by decide +kernel)];exact x
 .rw[Mw]
 .rw[WU (by decide +kernel)];exact v
 .rw[WU (by decide +kernel)];exact u
 .rw[WU (by decide +kernel)];exact s
 .rw[WU (by decide +kernel)];exact r
 .rw[WU (by decide +kernel)];exact q
 .rw[WU (by decide +kernel)];exact n
 .rw[WU (by decide +kernel)];exact j
 .rw[WU (by decide +kernel)];exact i
theorem Nh.ending'{dx:Wk}{fs:List (Str×V)}{e':Int}(h:Nh C H p a l ru rs)(hp:H p=some (.ins C dx fs))(b:JC p H G)(e:G p=some (.ins C dx (Ni "ending" (.int e') fs))):Nh C G p a l ru {rs with en:=some e'}:=by
 obtain⟨⟨dx',fs',c,f0,f1,f2,y,x,w,v,u,s,r,q,n,j,i⟩,f,cv⟩:=h;rw[hp]at c;cases c;have tk:=Ik b hp;refine⟨⟨dx,_,e,?_,?_,?_,?_,?_,?_,?_,?_,?_,?_,?_,?_,?_,?_⟩,b _ _ f (Wr f hp nofun),cv.tkp tk fun xs d=>b _ _ d (Wr d hp nofun)⟩
 .rw[Bz x];exact f0
 .rw[WU (by decide +kernel)];exact f1
 .rw[WU (by decide +kernel)];exact f2
 .rw[WU (by decide +kernel)];exact y
 .rw[Mw];rfl
 .rw[WU (by decide +kernel)];exact w
 .rw[WU (by decide +kernel)];exact v
 .rw[WU (by decide +kernel)];exact u
 .rw[WU (by decide +kernel)];exact s
 .rw[WU (by decide +kernel)];exact r
 .rw[WU (by decide +kernel)];exact q
 .rw[WU (by decide +kernel)];exact n
 .rw[WU (by decide +kernel)];exact j
 .rw[WU (by decide +kernel)];exact i
theorem Nh.ins(h:Nh C H p a l ru rs):∃dx fs,H p=some (.ins C dx fs)/\fs.length <=5:=by
 obtain⟨⟨dx,fs,b,c,_⟩,_,_⟩:=h;exact⟨dx,fs,b,c⟩
end
section
variable{P:Wc}{w:Wh}{K:Wi}{mg:W8}{base:Wn}
inductive Fh(C CP:Wk)(vs:List V)(H:Hp)(Q:VK)(E:XK):Prop|mk (p a l q b:Wk) (ru:Str) (rs:RS) (d:PD) (_:vs=[.ref p,.ref q]) (_:Nh C H p a l ru rs) (_:JN CP H q b d) (_:Q (.bl (strange rs d)) H)
abbrev Lx:Stmt:=To (top 42) 1
theorem yB:Jx ["self","piece"] ["self","piece"] (Wp Lx):=by walk_at"e"
theorem bP{f C CP:Wk}{fd:Wf}(F:JE K "is_strange" "Reading.is_strange" Lx f fd)(L:DP K C)(LP:Gm K CP)(J0:Nv P w K mg base CP "end" 1 ["self"] [] (AS CP)):Wz P w K mg base Jf 2 f fd ["self","piece"] (Fh C CP):=by
 refine F.ok yB (fun vs H Q E h=>?_) (fun v A r s H vs Q E n h=>?_)
 .obtain⟨p,a,l,q,b,ru,rs,d,rfl,_⟩:=h;rfl
 .obtain⟨p,a,l,q,b,ru,rs,d,rfl,j,c,k⟩:=h;refine⟨_,(WB (JJ (Tx (Jv K (Wq 1))) (WH (Jd (MJ (Mp Bb (Jv K (Wq 0)) Mf (MI _)) (Dj (Mp (Jy CN) (Mq (Wq 1) J0 n.m) (Jv K (Wq 0)) (MI _)))))) JV) (WB (JJ (JA Bb (Jv K (Wq 0)) Mf) (WH (Jd (Mp (RC Rz) (Mq (Wq 1) J0 n.m) (Jv K (Wq 0)) (MI _)))) JV) (WH (Jd (Mp (Jy GU) (Mq (Wq 1) J0 n.m) (Jv K (Wq 0)) (MI _)))))),?_⟩;walk_at"rd";refine⟨_,OK LP c,_,rfl,?_⟩;unfold strange at k;cases hm:d.mo with
  |true=>
   rw[hm,Y5 rfl]at k;rw[Y5 rfl];refine⟨_,Bv L j,?_⟩;cases he:rs.en with
   |none=>
    rw[he]at k;exact k
   |some e=>
    rw[he]at k;rw[Y5 (by simp[oV])];have i:=Bv L j;rw[he]at i;exact⟨Eg c,q,b,d,rfl,c,_,i,_,rfl,_,rfl,k⟩
  |false=>
   rw[hm,Y2 (by simp)]at k;rw[Y2 (by simp)];refine⟨_,Bv L j,?_⟩;cases he:rs.en with
   |none=>
    rw[he]at k;rw[Y2 (by simp[oV])];exact⟨Eg c,q,b,d,rfl,c,_,Qc L j,_,rfl,_,rfl,k⟩
   |some e=>
    rw[he]at k;rw[Y5 (by simp[oV])];have i:=Bv L j;rw[he]at i;refine⟨Eg c,q,b,d,rfl,c,_,i,rfl,?_⟩;have u:(!decide (V.int (d.at'+ d.ns.length)=oV (some e)))= !decide (d.at'+ d.ns.length=e):=by simp[oV]
    rw[u];exact k
inductive O2(C CP:Wk)(vs:List V)(H:Hp)(Q:VK)(E:XK):Prop|mk (p a l q b:Wk) (ru:Str) (rs:RS) (d:PD) (_:vs=[.ref p,.ref q]) (_:Nh C H p a l ru rs) (_:JN CP H q b d) (_:(0 <=d.at'/\d.at' <=4000/\d.ns.length <=4000)) (_:∀G,Ws H G->Q (oV (Nm rs.st d.at' d.ns)) G)
abbrev Hz:Stmt:=To (top 42) 2
theorem LG:Jx ["self","piece","number","byte"] ["self","piece"] (Wp Hz):=by walk_at"e"
theorem Zn{f C CP:Wk}{fd:Wf}(F:JE K "unlike_number" "Reading.unlike_number" Hz f fd)(L:DP K C)(LP:Gm K CP)(B3:LO mg):Wz P w K mg base Jf 1 f fd ["self","piece"] (O2 C CP):=by
 refine F.ok LG (fun vs H Q E h=>?_) (fun cdv A outer s H vs Q E hr h=>?_)
 .obtain⟨p,a,l,q,b,ru,rs,d,rfl,_⟩:=h;rfl
 .obtain⟨p,a,l,q,b,ru,rs,d,rfl,hR,v,hd,k⟩:=h;refine⟨_,(WB (GT YT rfl (PR (K:=K) rfl rfl B3.enumerate (Jv K (Wq 1)) (Jv K (Wq 1))) (GM (K:=K) (n:=2) rfl rfl (TL (Tg 2 LG) (TL (Tg 3 LG) GV))) (WH (JJ (PW.pt (D3 (RW (vG (xG (TZ hr))) (Wq 2) (Jv K (Wq 0)) (by with_unfolding_all rfl)) (DD (JA (RC Rz) (Jt hr (Jv K (Wq 0)) (Wq 2)) (Wq 3))))) (WH (Jd (Wq 2))) JV))) (WH (Jd Mf))),?_⟩;walk_at"rd";refine⟨_,Iq LP v,_,C7 LP v,_,rfl,_,rfl,by lia,by lia,⟨_,WA.of v.bd⟩,?_⟩;obtain⟨Pv,c⟩:∃Pv:Nat->L2.St->Hp->Prop,Pv=fun i σ' G=>∃ (v2 z:Option V),σ'=[some (.ref p),some (.ref q),v2,z]/\Ws H G/\Nm rs.st d.at' d.ns=Nm rs.st (d.at'+ (i:Nat)) (d.ns.drop i):=⟨_,rfl⟩
  refine SR (xs:=d.ns.map V.int) Pv (by rw[c];exact⟨_,_,rfl,Ws.refl _,by simp⟩) ?_ ?_ ?_ <;> rw[c]
  .rintro i σ' G _ ⟨_,_,_,s,_⟩;exact WA.of (s b _ v.bd)
  .rintro i x t σ' G0 G hx ⟨v2,z,rfl,s0,e⟩ _ s1 ht;rw[<-c];have s:=s0.trans s1;rw[Y9]at hx;obtain⟨n,u,rfl⟩:=Yn.mp hx;have y:i < d.ns.length:=by
    rcases Nat.lt_or_ge i d.ns.length with h|h
    .exact h
    .rw[Uj h]at u;cases u
   have hdr:d.ns.drop i=n::d.ns.drop (i+ 1):=by
    rw[UC y];rw[Y7 y]at u;rw[Option.some.inj u]
   rw[hdr]at e;have j:=hR.mono s;refine⟨t,_,rfl,Ja.of ht,rfl,_,_,rfl,_,_,rfl,rfl,?_⟩;walk_at"rd";refine⟨_,EA L j,_,rfl,_,j.dk,?_⟩;rw[Rb];have ei:d.at'+ (i:Int)+ 1=d.at'+ ((i+ 1:Nat):Int):=by lia
   have r:=e;rw[show Nm rs.st (d.at'+ (i:Nat)) (n::d.ns.drop (i+ 1))=(match Jz rs.st (d.at'+ (i:Nat)) with|some x=>if x=n then Nm rs.st (d.at'+ (i:Nat)+ 1) (d.ns.drop (i+ 1)) else some (d.at'+ (i:Nat))|none=>Nm rs.st (d.at'+ (i:Nat)+ 1) (d.ns.drop (i+ 1))) from rfl,ei]at r;cases hg:Jz rs.st (d.at'+ i) with
   |none=>
    rw[hg]at r;rw[Y2 (by simp),c];exact⟨_,_,rfl,s,r⟩
   |some x=>
    rw[hg]at r;rw[Y5 (by rfl)];refine⟨_,EA L j,_,rfl,V.int x,?_,rfl,?_⟩
    .have:=Nx.k (k:=Sum.inl (d.at'+ (i:Int))) j.dk;rw[Rb,hg]at this;exact this
    .by_cases hxn:x=n
     .rw[Y2 (by simp[hxn]),c];exact⟨_,_,rfl,s,by rw[r];exact Y5 hxn⟩
     .rw[Y5 (by simp[hxn])];have:=k G s;rw[r.trans (Y2 hxn)]at this;exact this
  .rintro σ' G ⟨v2,z,rfl,s,e⟩;rw[VL (by simp)]at e;have:=k G s;rw[e]at this;exact this
inductive Lb(C CP:Wk)(vs:List V)(H:Hp)(Q:VK)(E:XK):Prop|mk (p a l q b:Wk) (ru:Str) (rs:RS) (d:PD) (_:vs=[.ref p,.ref q]) (_:Nh C H p a l ru rs) (_:JN CP H q b d) (_:(0 <=d.at'/\d.at' <=4000/\d.ns.length <=4000)) (_:rs.st.length <=20000) (_:rs.cv.length <=1000) (_:∀l' G,H l'=none->(∀c o,H c=some o->c≠p->c≠a->G c=some o)->Nh C G p a l' ru (JB (decide (ru="last")) rs d)->Q .non G)
abbrev Kh:Stmt:=To (top 42) 3
theorem II:Jx ["self","piece","number","byte"] ["self","piece"] (Wp Kh):=by walk_at"e"
theorem aF{f C CP:Wk}{fd:Wf}(F:JE K "take" "Reading.take" Kh f fd)(L:DP K C)(LP:Gm K CP)(B:Bt mg)(B3:LO mg)(J0:Nv P w K mg base CP "end" 1 ["self"] [] (AS CP))(T6:N6 P w K mg base "with_span" 1 ["cover","span"] [] OT):Wz P w K mg base Jf 2 f fd ["self","piece"] (Lb C CP):=by
 refine F.ok II (fun vs H Q E h=>?_) (fun cdv A outer s H vs Q E hr h=>?_)
 .obtain⟨p,a,l,q,b,ru,rs,d,rfl,_⟩:=h;rfl
 .obtain⟨p,a,l,q,b,ru,rs,d,rfl,hR,hP,hd,hst,hcv,k⟩:=h;refine⟨_,(WB (GT YT rfl (PR (K:=K) rfl rfl B3.enumerate (Jv K (Wq 1)) (Jv K (Wq 1))) (GM (K:=K) (n:=2) rfl rfl (TL (Tg 2 II) (TL (Tg 3 II) GV))) (WH (JJ (PW.pt (Dh (JA (TJ TH) (Jv K (Wq 0)) WK) (DH (RW (Il (LQ (TZ hr))) (Wq 2) (Jv K (Wq 0)) (by with_unfolding_all rfl))))) (WH (Sz (TZ hr) (Jv K (Wq 0)) (Wq 2) (Wq 3) rfl)) JV))) (WB (MH (K:=K) rfl (Wq 0) (JT T6 hr.m rfl (TF (Jv K (Wq 0)) (J7 (hs:=Mh) (NO (TF (Jv K (Wq 1)) (MG (Mq (Wq 1) J0 hr.m) Wu))) Wu))) rfl) (WH (JJ (Tx (Jv K (Wq 1))) (WH (MH (K:=K) rfl (Wq 0) (N4 (Fa rfl) B.max (TF (Jv K (Wq 0)) (MG (Mq (Wq 1) J0 hr.m) Wu))) rfl)) (WH (MH (K:=K) rfl (Wq 0) (Mq (Wq 1) J0 hr.m) rfl)))))),?_⟩;refine WX fun N hN=>?_
  walk_at"rd";refine⟨_,Iq LP hP,_,C7 LP hP,_,rfl,_,rfl,by lia,by lia,⟨_,WA.of hP.bd⟩,?_⟩;obtain⟨nqp,nbp,nqa,nba⟩:=hR.ne hP;obtain⟨Pv,v⟩:∃Pv:Nat->L2.St->Hp->Prop,Pv=fun i σ' G=>∃ (v2 v3:Option V),σ'=[some (.ref p),some (.ref q),v2,v3]/\JC a H G/\G a=some (.dK (Ml (JG (decide (ru="last")) rs.st d.at' (d.ns.take i)))):=⟨_,rfl⟩
  refine SR (xs:=d.ns.map V.int) Pv (by rw[v];exact⟨_,_,rfl,JC.refl _ _,hR.dk⟩) ?_ ?_ ?_ <;> rw[v]
  .rintro i σ' G _ ⟨_,_,_,s,_⟩;exact WA.of (s b _ hP.bd nba)
  .rintro i x t σ' G0 G hx ⟨v2,v3,rfl,s0,hd0⟩ _ s1 ht;rw[<-v];have s:JC a H G:=fun c o e hc=>s1 c o (s0 c o e hc)
   have j:=s1 a _ hd0;rw[Y9]at hx;obtain⟨n,hn,rfl⟩:=Yn.mp hx;have hlt:i < d.ns.length:=by
    rcases Nat.lt_or_ge i d.ns.length with h|h
    .exact h
    .rw[Uj h]at hn;cases hn
   have htk:d.ns.take (i+ 1)=d.ns.take i++[n]:=by
    rw[VS,hn];rfl
   have hli:((d.ns.take i).length:Int)=i:=by rw[Yt];lia
   have hsz:=Ec (decide (ru="last")) (d.ns.take i) rs.st d.at';refine⟨t,_,rfl,Ja.of ht,rfl,_,_,rfl,_,_,rfl,rfl,?_⟩;have r:=hR.dict s j;have hst2:(Ml (JG (decide (ru="last")) rs.st d.at' (d.ns.take i))).length < sizeLine:=by
    refine YG (m:=30000) ?_ (Jc (by lia));unfold Ml;rw[Y1];rw[Yt]at hsz
    lia
   have u:=L3 (decide (ru="last")) (d.ns.take i) rs.st d.at' n;rw[hli]at u;walk_at"rd";refine⟨_,Fz L r,rfl,?_⟩
   by_cases hru:ru="last"
   .rw[Y5 (by rw[hru];exact Yd rfl)];refine⟨_,EA L r,_,rfl,_,j,hst2,fun G1 b1 h1=>?_⟩;rw[A7]at h1;rw[Y5 (.inl (Yd hru))]at u;rw[v];refine⟨_,_,rfl,s.trans b1,?_⟩;rw[htk,u];exact h1
   .rw[Y2 (by simpa using hru)];refine⟨_,EA L r,_,rfl,_,j,?_⟩;rw[Rb];cases hg:Jz (JG (decide (ru="last")) rs.st d.at' (d.ns.take i)) (d.at'+ i) with
    |none=>
     rw[Y5 (by rfl)];refine⟨_,EA L r,_,rfl,_,j,hst2,fun G1 b1 h1=>?_⟩;rw[A7]at h1;rw[Y5 (.inr (by rw[hg];rfl))]at u;rw[v];refine⟨_,_,rfl,s.trans b1,?_⟩;rw[htk,u];exact h1
    |some x=>
     rw[Y2 (by simp)];rw[Y2 (by rw[hg];simp[hru])]at u;rw[v];refine⟨_,_,rfl,s,?_⟩;rw[htk,u];exact j
  .rintro σ' G ⟨v2,v3,rfl,s,j⟩;refine hN _ _ ?_;clear hN N;rw[YA (by simp)]at j;have r:=hR.dict s j;have ac:=hP.but s nqa nba;refine WX fun N hN=>?_
   walk_at"rd";refine⟨_,Z7 L r,_,C7 LP ac,Eg ac,q,b,d,rfl,ac,?_⟩;refine⟨Jc (by simp),fun t G2 ht s2 hG2=>?_⟩;refine⟨l,t,rs.cv,_,_,rfl,r.cv.same s2,hcv,hG2,fun l' G3 hl' s3 hC3=>?_⟩;have hl0:H l'=none:=s.free (s2.free hl') (Ne.symm (N0 j (s2.free hl')));have s13:=s2.trans s3;have hR3:=r.mono s13;have hP3:=ac.mono s13;obtain⟨dx,fs,hp3,hf5⟩:=hR3.ins;refine⟨C,dx,fs,hp3,L.cl,L.cover,by lia,fun G4 b4 hG4=>hN _ _ ?_⟩;clear hN N;have ab:=hR3.cover' hp3 b4 hG4 hC3;have y:=hP3.but b4 nqp nbp;have z:∀c o,H c=some o->c≠p->c≠a->G4 c=some o:=fun c o e h1 h2=>b4 c o (s13 c o (s c o e h2)) h1
   obtain⟨dx4,fs4,aa,hf4⟩:=ab.ins;walk_at"rd";refine⟨_,OK LP y,_,rfl,?_⟩;cases hm:d.mo with
   |true=>
    rw[Y5 rfl];refine⟨_,Qc L ab,Eg y,q,b,d,rfl,y,_,rfl,_,rfl,C,dx4,fs4,aa,L.cl,L.reach,by lia,fun G5 b5 hG5=>?_⟩;have hR5:=ab.reach' aa b5 hG5;refine k l' G5 hl0 (fun c o e h1 h2=>b5 c o (z c o e h1 h2) h1) ?_;unfold JB;rw[Y5 hm,Y5 hm];have e:max rs.re (d.at'+ d.ns.length)=if d.at'+ d.ns.length > rs.re then d.at'+ d.ns.length else rs.re:=by split <;> lia
    rw[e];exact hR5
   |false=>
    rw[Y2 (by simp)];refine⟨Eg y,q,b,d,rfl,y,C,dx4,fs4,aa,L.cl,L.ending,by lia,fun G5 b5 hG5=>?_⟩;have hR5:=ab.ending' aa b5 hG5;refine k l' G5 hl0 (fun c o e h1 h2=>b5 c o (z c o e h1 h2) h1) ?_;unfold JB;rw[Y2 (by rw[hm];simp),Y2 (by rw[hm];simp)];exact hR5
inductive Cf(C:Wk)(vs:List V)(H:Hp)(Q:VK)(E:XK):Prop|mk (p a l:Wk) (ru:Str) (rs:RS) (_:vs=[.ref p]) (_:Nh C H p a l ru rs) (_:rs.cv.length <=1000) (_:∀m G,Ws H G->H m=none->JR G m (T0 rs.en 0 rs.cv)->Q (.ref m) G)
abbrev HK:Stmt:=To (top 42) 5
theorem jC:Jx ["self"] ["self"] (Wp HK):=by walk_at"e"
theorem n7{f C:Wk}{fd:Wf}(F:JE K "missing" "Reading.missing" HK f fd)(L:DP K C)(M6:N6 P w K mg base "lacking" 1 ["cover","end"] [] Ss):Wz P w K mg base Jf 2 f fd ["self"] (Cf C):=by
 refine F.ok jC (fun vs H Q E h=>?_) (fun n A c s H vs Q E d h=>?_)
 .obtain⟨p,a,l,ru,rs,rfl,_⟩:=h;rfl
 .obtain⟨p,a,l,ru,rs,rfl,b,e,k⟩:=h;refine⟨_,(WH (Jd (JT M6 d.m rfl (TF (Jv K (Wq 0)) (TF (Jv K (Wq 0)) Wu))))),?_⟩;walk_at"rd";exact⟨_,Z7 L b,_,Bv L b,l,rs.cv,rs.en,rfl,b.cv,e,fun l' G j s i=>k l' G s j i⟩
inductive KG(C:Wk)(vs:List V)(H:Hp)(Q:VK)(E:XK):Prop|mk (p a l:Wk) (ru:Str) (rs:RS) (e:Nat) (ns:Wl) (_:vs=[.ref p]) (_:Nh C H p a l ru rs) (_:rs.en=some (e:Int)) (_:e <=65536) (_:ns.length=e) (_:(∀i:Nat,∀x,ns[i]?=some x->Jz rs.st i=some x)) (_:∀m G,Ws H G->H m=none->G m=some (.lst (ns.map V.int))->Q (.ref m) G)
abbrev Ff:Stmt:=To (top 42) 6
theorem yF:Jx ["self"] ["self"] (Wp Ff):=by walk_at"e"
theorem Zu{f C:Wk}{fd:Wf}(F:JE K "taken_body" "Reading.taken_body" Ff f fd)(L:DP K C)(B:Bt mg):Wz P w K mg base Jf 1 f fd ["self"] (KG C):=by
 refine F.ok yF (fun vs H Q E h=>?_) (fun cdv A y s H vs Q E z h=>?_)
 .obtain⟨p,a,l,ru,rs,e,c,rfl,_⟩:=h;rfl
 .obtain⟨p,a,l,ru,rs,e,c,rfl,j,he,hd,hn,hg,k⟩:=h;refine⟨_,(WH (Jd (Di (N':=["number","self"]) (caps:=[none,some 0]) (MR (sc:=Wp Ff) (N:=["self"]) rfl rfl (by decide +kernel)) rfl (Ef rfl B.range (TF (Jv K (Wq 0)) Wu)) (fun _ _ _ _ _=>(Ms (i:=0) (MB (N:=["number","self"]) rfl (by decide +kernel)) rfl (Or.inl rfl))) (fun _ _ _ _ _=>DC) (fun _ _ _ _ _=>(Jt z (Jv K (Wq 1)) (Wq 0)))))),?_⟩;walk_at"rd";have u:=Bv L j;rw[he]at u;refine⟨_,u,_,rfl,by lia,by lia,?_⟩;rw[YW];obtain⟨n,b⟩:∃n:Nat->List V->L2.St->Hp->Prop,n=fun i ys σ' G=>∃v:Option V,σ'=[v,some (.ref p)]/\ys=(c.take i).map V.int/\G=H:=⟨_,rfl⟩
  refine Cs n (by rw[b];exact⟨none,rfl,rfl,rfl⟩) ?_ (Jc (by lia)) ?_ ?_ <;> rw[b]
  .rintro i ys σ' x ⟨v,rfl,rfl,rfl⟩ _;rw[Y1,Yt];lia
  .rintro i ys σ' x hi ⟨v,rfl,rfl,rfl⟩;rw[<-b];walk_at"rd";have q:i < c.length:=by lia
   have d:=hg i c[i] (Y7 q);refine⟨_,EA L j,_,rfl,V.int c[i],?_,?_⟩
   .have:=Nx.k (k:=Sum.inl (0+ (i:Int))) j.dk;rw[Rb,XN,d]at this;rw[XN];exact this
   .rw[b];exact⟨_,rfl,by rw[VS,Y7 q,Yf];rfl,rfl⟩
  .rintro ys σ' x ⟨v,rfl,rfl,rfl⟩ m G h0 s r;rw[YA (by lia)]at r;exact k m G s h0 r
theorem O9:∀ (c:List (Int×Int)) (st:WS),(c.foldl TK st).ah.length+ (c.foldl TK st).be.length <=st.ah.length+ st.be.length+ c.length
 |[],st=>Y6 _
 |p::r,st=>by
  have h:=O9 r (TK st p);have h2:(TK st p).ah.length+ (TK st p).be.length <=st.ah.length+ st.be.length+ 1:=by
   unfold TK
   split
   .simp;omega
   .split
    .simp;omega
    .simp
  rw[List.foldl_cons,List.length_cons];omega
theorem Od(c:List (Int×Int))(lo hi:Int):(Nn c lo hi).length <=c.length+ 1:=by
 have h:=O9 c ⟨[],lo,hi,[]⟩;unfold Nn Ed;simp only[Ys,List.length_cons,List.length_nil]at h ⊢;omega
def N9(p a:Wk)(H G:Hp):Prop:=∀c o,H c=some o->c≠p->c≠a->G c=some o
theorem N9.free{p a:Wk}{H G:Hp}(kp:N9 p a H G){C l b:Wk}{ru:Str}{rs:RS}(hR:Nh C G p a l ru rs)(h:G b=none):H b=none:=by
 cases e:H b with
 |none=>rfl
 |some o=>
  obtain⟨dx,fs,c,_⟩:=hR.ex;have:=kp b o e (Ne.symm (N0 c h)) (Ne.symm (N0 hR.dk h));rw[this]at h;cases h
inductive LC(C CP CW CU:Wk)(vs:List V)(H:Hp)(Q:VK)(E:XK):Prop|mk (p a l q b:Wk) (ru:Str) (rs:RS) (d:PD) (_:vs=[.ref p,.ref q]) (_:Nh C H p a l ru rs) (_:JN CP H q b d) (_:rs.st.length <=20000) (_:rs.cv.length <=900) (_:(strange rs d=true->(ru="refuse"->∀m G,Ws H G->GH CU "at" G m (.int d.at')->Q (.ref m) G)/\(¬ru="refuse"->Q .non H))) (_:(strange rs d=false->(∀n,ru="refuse"->Nm rs.st d.at' d.ns=some n->∀m G,Ws H G->GH CU "at" G m (.int n)->Q (.ref m) G)/\((ru="refuse"->Nm rs.st d.at' d.ns=none)->∀rs',rs'=JB (decide (ru="last")) rs d->(T0 rs'.en 0 rs'.cv≠[]->∀l' G,H l'=none->N9 p a H G->Nh C G p a l' ru rs'->Q .non G)/\(T0 rs'.en 0 rs'.cv=[]->∃ (e:Nat) (ns:Wl),rs'.en=some (e:Int)/\e <=4000/\ns.length=e/\(∀i:Nat,∀x,ns[i]?=some x->Jz rs'.st i=some x)/\∀m b' l' G,H b'=none->H l'=none->N9 p a H G->Nh C G p a l' ru rs'->LZ CW "body" G m b' (ns.map V.int)->Q (.ref m) G))))
theorem PD.Ok.bds{d:PD}(h:d.Ok):0 <=d.at'/\d.at' <=4000/\d.ns.length <=4000:=by
 have h1:=h.a0;have h2:=h.rm;have a:=h.l2;unfold E2 at h2;refine⟨h1,?_,a⟩
 split at h2
 .simp only[X0,Yb]at h2;omega
 .simp only[Yb]at h2;omega
abbrev Iw:Stmt:=To (top 42) 7
theorem Og:Jx ["self","piece","number"] ["self","piece"] (Wp Iw):=by walk_at"e"
theorem bU{f C CP CW CU:Wk}{fd:Wf}(F:JE K "answer_to" "Reading.answer_to" Iw f fd)(L:DP K C)(LP:Gm K CP)
  (WZ:Nv P w K mg base C "is_strange" 2 ["self","piece"] [] (Fh C CP)) (Jr:Nv P w K mg base C "unlike_number" 1 ["self","piece"] [] (O2 C CP)) (NF:Nv P w K mg base C "take" 2 ["self","piece"] [] (Lb C CP))
  (Jn:Nv P w K mg base C "missing" 2 ["self"] [] (Cf C)) (JF:Nv P w K mg base C "taken_body" 1 ["self"] [] (KG C))
  (Rv:Gw P w K mg base "Whole" 1 (ON CW "body")) (D7:Gw P w K mg base "Unlike" 1 (Pb CU)):Wz P w K mg base Jf 3 f fd ["self","piece"] (LC C CP CW CU):=by
 refine F.ok Og (fun vs H Q E h=>?_) (fun cdv A outer s H vs Q E r h=>?_)
 .obtain⟨p,a,l,q,b,ru,rs,d,rfl,_⟩:=h;rfl
 .obtain⟨p,a,l,q,b,ru,rs,d,rfl,u,hP,hst,hcv,k1,k2⟩:=h;have hd:=hP.ok.bds;refine⟨_,(WB (JJ (Tx (MK (Wq 0) WZ r.m (Wx 1 Wu))) (WH (Jd (Ov (JA (TJ TH) (Jv K (Wq 0)) WK) (B0 D7 r.m rfl (TF (Jv K (Wq 1)) Wu)) Mf))) JV) (WB (DE (JJ (JA (TJ TH) (Jv K (Wq 0)) WK) (WB (JP 2 Og (MK (Wq 0) Jr r.m (Wx 1 Wu))) (WH (JJ (JA Bb (Wq 2) Mf) (WH (Jd (B0 D7 r.m rfl (Wx 2 Wu)))) JV))) JV)) (WB (Ta (MK (Wq 0) NF r.m (Wx 1 Wu))) (WH (Jd (Ov (JA (Q5 (Pe (K:=K) (Room.units r) rfl)) (Mq (Wq 0) Jn r.m) (Te Wu)) (B0 Rv r.m rfl (MG (Mq (Wq 0) JF r.m) Wu)) Mf)))))),?_⟩;walk_at"rd";refine⟨S9 u,p,a,l,q,b,ru,rs,d,rfl,u,hP,_,rfl,?_⟩;cases hs:strange rs d with
  |true=>
   obtain⟨q1,q2⟩:=k1 hs;rw[Y5 rfl];refine⟨_,Fz L u,rfl,?_⟩
   by_cases hru:ru="refuse"
   .rw[Y5 (by rw[hru];exact Yd rfl)];exact⟨_,C7 LP hP,_,rfl,fun m G h0 s hA=>q1 hru m G s hA⟩
   .rw[Y2 (by simpa using hru)];exact q2 hru
  |false=>
   obtain⟨q1,q2⟩:=k2 hs;rw[Y2 (by simp)];obtain⟨R,eR⟩:∃R:L2.St->Hp->Prop,R=fun σ' G=>∃v,σ'=[some (.ref p),some (.ref q),v]/\Ws H G/\(ru="refuse"->Nm rs.st d.at' d.ns=none):=⟨_,rfl⟩
   refine⟨R,?_,fun σ' G hRr=>?_⟩
   .refine⟨_,Fz L u,rfl,?_⟩
    by_cases hru:ru="refuse"
    .rw[Y5 (by rw[hru];exact Yd rfl)];refine⟨xD u,p,a,l,q,b,ru,rs,d,rfl,u,hP,hd,fun G s=>?_⟩;cases hu:Nm rs.st d.at' d.ns with
     |none=>
      rw[Y2 (by simp[oV]),eR];exact⟨_,rfl,s,fun _=>hu⟩
     |some n=>
      rw[Y5 (by simp[oV])];exact⟨_,rfl,fun m G2 h0 s2 hA=>q1 n hru hu m G2 (s.trans s2) hA⟩
    .rw[Y2 (by simpa using hru),eR];exact⟨_,rfl,Ws.refl _,fun z=>absurd z hru⟩
   .rw[eR]at hRr;obtain⟨v,rfl,s,hu⟩:=hRr;have hR1:=u.mono s;have hP1:=hP.mono s;obtain⟨q3,q4⟩:=q2 hu _ rfl;refine⟨_,rfl,bT hR1,_,rfl,p,a,l,q,b,ru,rs,d,rfl,hR1,hP1,hd,hst,by omega,fun l' G2 hl0 kp i=>?_⟩;have y:(JB (decide (ru="last")) rs d).cv.length <=1000:=by
     have:=Od rs.cv d.at' (d.at'+ d.ns.length);show(Nn rs.cv d.at' (d.at'+ d.ns.length)).length <=1000;omega
    generalize JB (decide (ru="last")) rs d=rs' at i q3 q4 y;refine⟨_,rfl,Sq i,p,a,l',ru,rs',rfl,i,y,fun m G3 s3 hm hC=>⟨Jc (by simp),fun z G4 hz s4 hz4=>?_⟩⟩;obtain⟨xs,hx,hxc⟩:=hC;refine⟨m,rfl,xs,WA.of (s4 m _ hx),WA.of hz4,?_⟩;have j:=s3.trans s4;have x:N9 p a H G4:=fun c o e h1 h2=>j c o (kp c o (s c o e) h1 h2)
    have hxl:=hxc.len
    by_cases hn:T0 rs'.en 0 rs'.cv=[]
    .rw[hn]at hxl;rw[Y5 (Yd (show xs.length=0 from hxl))];obtain⟨e,ns,he,he2,hns,hg,q5⟩:=q4 hn;exact⟨_,rfl,eV (i.mono j),p,a,l',ru,rs',e,ns,rfl,i.mono j,he,by omega,hns,hg,fun m5 G5 s5 hm5 h5=>⟨m5,_,rfl,h5,fun w b' G6 hw hb' s6 hA=>q5 w b' l' G6 (N9.free (fun c o e h1 h2=>s5 c o (x c o e h1 h2)) ((i.mono j).mono s5) hb') (s.free hl0) (fun c o e h1 h2=>s6 c o (s5 c o (x c o e h1 h2))) (((i.mono j).mono s5).mono s6) hA⟩⟩
    .rw [Y2 (by
      simp only [Yb];intro hz;exact hn (List.eq_nil_of_length_eq_zero (by omega)))]
     exact q3 hn l' G4 (s.free hl0) x (i.mono j)
theorem Iu(a b:Str):RF (.str a) (.str b)=decide (a=b):=by
 show(a==b)=_;rw[Yw,UL,Yb]
inductive Qg(C:Wk)(vs:List V)(H:Hp)(Q:VK)(E:XK):Prop|mk (ru:_) (_:vs=[.str ru]) (_:∀p a l G,H p=none->H a=none->H l=none->Ws H G->Nh C G p a l ru ⟨[],[],none,0⟩->Q (.ref p) G)
theorem tL{C:Wk}(F:Gv P w K mg base "Reading" C 1 ["self","rule"] [] (OL C)):Gw P w K mg base "Reading" 1 (Qg C):=by
 refine F.ct fun vs H Q h y dx G b p u s j=>?_
 obtain⟨ru,rfl,q⟩:=h;exact⟨y,dx,ru,rfl,j,fun a l H' f c r n i=>⟨rfl,q y a l H' b (s.free f) (s.free c) (fun d o e=>n d o (s d o e) (N0 e b)) i⟩⟩
inductive Ot(vs:List V)(H:Hp)(Q:VK)(E:XK):Prop|mk (ru:Str) (_:vs=[.str ru]) (_:Q (.bl (decide (ru="first"\/ru="last"\/ru="refuse"))) H)
abbrev Hr:Stmt:=top 18
theorem jK:Jx ["value"] ["value"] (Wp Hr):=by walk_at"e"
theorem bQ{f aRULES:Wk}{fd:Wf}(F:JE K "is_rule" "is_rule" Hr f fd)(B:Bt mg)(g_RULES:mg "RULES"=some (.ref aRULES))(t_RULES:∀H,Ja K H aRULES [.str "first",.str "last",.str "refuse"]):Wz P w K mg base Jf 1 f fd ["value"] Ot:=by
 refine F.ok jK (fun vs H Q E h=>?_) (fun b A a s H vs Q E c h=>?_)
 .obtain⟨ru,rfl,_⟩:=h;rfl
 .obtain⟨ru,rfl,k⟩:=h;refine⟨_,(WH (Jd (MJ (N4 (R6 "str") B.isinstance (Wx 0 (J7 (hs:=Dl) (R5 (v:=.ty "str") rfl B.bstr (by rfl) rfl) Wu))) (Dj (Mp (K7 (K:=K) rfl) (Wq 0) (Eb (v:=.ref aRULES) rfl g_RULES rfl) (by with_unfolding_all rfl)))))),?_⟩;walk_at"rd";rw[Y5 (by decide)];refine⟨aRULES,_,rfl,.inr (t_RULES H),rfl,rfl,?_⟩;have e:RU (.str ru) [.str "first",.str "last",.str "refuse"]=decide (ru="first"\/ru="last"\/ru="refuse"):=by
   rw[Yw];simp only[RU,Iu,XQ,W6,Vs,VE,Yb];exact⟨fun h=>h.imp XM (Or.imp XM XM),fun h=>h.imp XM (Or.imp XM XM)⟩
  rw[Y2 (by simp),e];exact k
def Dd:RS:=⟨[],[],none,0⟩
end
theorem Sj{P:Int->Int->Prop}(la:Bool):∀ (bs:Wl) (st:List (Int×Int)) (n:Int),(∀k x,Jz st k=some x->P k x)->(∀i:Nat,∀x,bs[i]?=some x->P (n+ i) x)->∀k x,Jz (JG la st n bs) k=some x->P k x
 |[],_,_,h,_=>h
 |b::bs,st,n,h,g=>by
  refine Sj la bs _ (n+ 1) (fun k x hk=>?_) (fun i x hx=>?_)
  .split at hk
   .rw[O6]at hk
    by_cases e:k=n
    .rw[Y5 e]at hk;have:=g 0 b rfl;rw[e,<-Option.some.inj hk];simpa using this
    .rw[Y2 e]at hk;exact h k x hk
   .exact h k x hk
  .have:=g (i+ 1) x hx;have e:n+ ((i+ 1:Nat):Int)=n+ 1+ (i:Int):=by lia
   rwa [e]at this
theorem SL(la:Bool):∀ (bs:Wl) (st:List (Int×Int)) (n k:Int),(Jz (JG la st n bs) k).isSome=true↔(Jz st k).isSome=true\/(n <=k/\k < n+ bs.length)
 |[],st,n,k=>by
  show(Jz st k).isSome=true↔_;exact⟨.inl,fun h=>h.elim id fun z=>by simp at z;lia⟩
 |b::bs,st,n,k=>by
  show(Jz (JG la _ (n+ 1) bs) k).isSome=true↔_;rw[SL la bs,List.length_cons];have e1:(n+ 1 <=k/\k < n+ 1+ (bs.length:Int))\/k=n↔(n <=k/\k < n+ ((bs.length+ 1:Nat):Int)):=by lia
  rw[<-e1]
  split <;> rename_i hc
  .rw[O6]
   by_cases e:k=n
   .rw[Y5 e];exact⟨fun _=>.inr (.inr e),fun _=>.inl rfl⟩
   .rw[Y2 e];exact⟨fun h=>h.imp id .inl,fun h=>h.imp id fun z=>z.elim id fun z=>absurd z e⟩
  .constructor
   .exact fun h=>h.imp id .inl
   .rintro(h|h|h)
    .exact .inl h
    .exact .inr h
    .left
     rw[h];rcases Bool.eq_false_or_eq_true (Jz st n).isSome with z|z
     .exact z
     .exact absurd (.inr z) hc
def JU(rs:RS):List Int:=(List.range (rs.en.getD 0).toNat).map fun i:Nat=>(Jz rs.st (i:Int)).getD 0
structure NK(rs:RS):Prop where
 cov:MC rs.cv
 dom:∀n,Nt rs.cv n↔(Jz rs.st n).isSome=true
 low:∀n,Nt rs.cv n->0 <=n
 en:∀e,rs.en=some e->0 <=e/\e <=4000
 top:∀n,Nt rs.cv n->n < 4000
theorem NK.zero:NK Dd where
 cov:=trivial
 dom:=fun n=>⟨fun h=>absurd h (MS n),fun h=>by cases h⟩
 low:=fun n h=>absurd h (MS n)
 en:=fun e h=>by cases h
 top:=fun n h=>absurd h (MS n)
theorem PD.Ok.end'{d:PD}(h:d.Ok):0 <=d.at'/\d.at'+ d.ns.length <=4000/\1 <=d.ns.length:=by
 have h1:=h.a0;have h2:=h.rm;unfold E2 at h2;refine⟨h1,?_,h.l1⟩
 split at h2
 .simp only[X0,Yb]at h2;omega
 .simp only[Yb]at h2;omega
theorem NK.step{rs:RS}{d:PD}(la:Bool)(h:NK rs)(hd:d.Ok):NK (JB la rs d):=by
 obtain⟨h1,h2,i⟩:=hd.end';have b:=bS (c:=rs.cv) (lo:=d.at') (hi:=d.at'+ d.ns.length) h.cov (by omega);refine⟨b.1,fun n=>?_,fun n f=>?_,fun e a=>?_,fun n f=>?_⟩
 .show Nt (Nn rs.cv d.at' (d.at'+ d.ns.length)) n↔(Jz (JG la rs.st d.at' d.ns) n).isSome=true;rw[b.2,SL,h.dom]
 .rcases(b.2 n).mp f with z|z
  .exact h.low n z
  .omega
 .have a:(if d.mo=true then rs.en else some (d.at'+ d.ns.length))=some e:=a
  split at a
  .exact h.en e a
  .have:=Option.some.inj a;omega
 .rcases(b.2 n).mp f with z|z
  .exact h.top n z
  .omega
theorem PL{c:List (Int×Int)}(hc:MC c){p:Int×Int}(hp:p∈c):p.1 < p.2:=by
 induction c with
 |nil=>exact nomatch hp
 |cons q r ih=>
  obtain⟨h1,h2,a⟩:=hc;rcases Yl.mp hp with rfl|hp
  .exact h1
  .exact ih a hp
theorem NK.body{rs:RS}(h:NK rs)(hl:T0 rs.en 0 rs.cv=[]):∃e:Nat,rs.en=some (e:Int)/\e <=4000/\(JU rs).length=e/\∀i:Nat,∀x,(JU rs)[i]?=some x->Jz rs.st i=some x:=by
 cases he:rs.en with
 |none=>rw[he,HX h.cov]at hl;exact absurd hl (by simp)
 |some e0=>
  obtain⟨a,b⟩:=h.en e0 he;obtain⟨e,rfl⟩:∃e:Nat,e0=e:=⟨e0.toNat,by omega⟩;rw[he,FS]at hl;have u:NZ e 0 rs.cv=[]:=W2.mp hl;have j:∀p∈rs.cv,0 <=p.1:=fun p s=>h.low p.1 ⟨p,s,YZ _,PL h.cov s⟩
  have q:∀n:Int,0 <=n->n < e->Nt rs.cv n:=fun n w h1=>by
   have:=(Zi (e:=(e:Int)) h.cov j).2.2 n;rw[u]at this;exact XD fun z=>MS n (this.mpr ⟨w,h1,z⟩)
  have c:(JU rs).length=e:=by
   unfold JU;rw[he,Y1,US];simp
  refine⟨e,rfl,by omega,c,fun i x d=>?_⟩;have hi:i < e:=by rw[<-c];exact(Yq.mp d).1
  have v:=(h.dom i).mp (q i (by omega) (by omega));obtain⟨y,r⟩:=UF.mp v;unfold JU at d;rw[Y9,W0 (by rw[he];simpa using hi)]at d;have f:(Jz rs.st (i:Int)).getD 0=x:=Option.some.inj d;rw[r]at f;rw[r,<-f];rfl
def oD:Option Int->PyData
 |none=>.none
 |some n=>.int n
def D5(p:Int×Option Int):PyData:=.tuple [.int p.1,oD p.2]
section
variable{P:Wc}{w:Wh}{K:Wi}{mg:W8}{base:Wn}{H G:Hp}
theorem Ow{xs:List V}{c:List (Int×Option Int)}(h:NB H xs c):WQ K H xs (c.map D5):=by
 induction h with
 |nil=>exact .nil
 |@cons x p l1 l2 r _ ih=>
  obtain⟨t,rfl,e⟩:=r;refine .cons (.tup (Ja.of e) (.cons (.int _) (.cons ?_ .nil))) ih;cases p.2 with
  |none=>exact .non
  |some n=>exact .int n
theorem wT{l:Wk}{c:List (Int×Option Int)}(h:JR H l c):Dp K H (.ref l) (.list (c.map D5)):=by
 obtain⟨xs,e,k⟩:=h;exact .lst (WA.of e) (Ow k)
theorem OZ(c:List (Int×Option Int)):SeqAt.shaped (.list (c.map D5))=true:=by
 have h1:∀c:List (Int×Option Int),PyData.canLayAll0 (c.map D5)=true:=fun c=>by
  induction c with
  |nil=>rfl
  |cons p r ih=>
   obtain⟨a,b⟩:=p;cases b <;> simp[PyData.canLayAll0,PyData.canLay0,D5,oD,ih]
 have h2:∀c:List (Int×Option Int),PyData.depthAll (c.map D5) <=6:=fun c=>by
  induction c with
  |nil=>simp[PyData.depthAll]
  |cons p r ih=>
   obtain⟨a,b⟩:=p;cases b <;> (simp[PyData.depthAll,PyData.depth,D5,oD];lia)
 have d:=h2 c;simp[SeqAt.shaped,PyData.canLay0,h1 c,PyData.depth];lia
theorem bO(p q:Int×Option Int):PyData.eqv (D5 p) (D5 q)=decide (p=q):=by
 obtain⟨a,b⟩:=p;obtain⟨d,c⟩:=q;rw[Yw];cases b <;> cases c <;> simp[D5,oD,PyData.eqv,PyData.eqvAll]
theorem xV:∀c d:List (Int×Option Int),PyData.eqv (.list (c.map D5)) (.list (d.map D5))=decide (c=d):=by
 have h:∀c d:List (Int×Option Int),PyData.eqvAll (c.map D5) (d.map D5)=decide (c=d):=by
  intro c
  induction c with
  |nil=>intro d;cases d <;> simp[PyData.eqvAll]
  |cons p r ih=>
   intro d;cases d with
   |nil=>simp[PyData.eqvAll]
   |cons q t=>
    show(PyData.eqv (D5 p) (D5 q) && PyData.eqvAll (r.map D5) (t.map D5))=_;rw[bO,ih,Yw];simp
 exact h
end
def Ju(k:Int×Str×Str):List WO:=[Sum.inl k.1,Sum.inr k.2.1,Sum.inr k.2.2]
def NG(k:Int×Str×Str):List V:=[.int k.1,.str k.2.1,.str k.2.2]
theorem DR{k j:Int×Str×Str}(h:Ju k=Ju j):k=j:=by
 unfold Ju at h;simp only[List.cons.injEq,VY,VZ,and_true]at h;exact Ud h.1 (Ud h.2.1 h.2.2)
structure RE where
 ky:Int×Str×Str
 p:Addr
 a:Addr
 l:Addr
 rs:RS
 first:Int
structure JM where
 ru:Str
 wt:Int
 sp:Int
 out:Str
 ag:Str
 now:Int
 es:List RE
 ws:List ((Int×Str×Str)×Int)
def Ey(R:JM)(dr df dw:Wk):List (Str×V):=[("rule",.str R.ru),("wait",.int R.wt),("space",.int R.sp),("out",.str R.out),("again",.str R.ag),("now",.int R.now),("readings",.ref dr),("firsts",.ref df),("wholes",.ref dw)]
def MM(es:List RE):List (List WO×V):=es.map fun e=>(Ju e.ky,.ref e.p)
def MU(es:List RE):List (List WO×V):=es.map fun e=>(Ju e.ky,.int e.first)
def Ds(ws:List ((Int×Str×Str)×Int)):List (List WO×V):=ws.map fun e=>(Ju e.1,.int e.2)
structure M8(K:Wi)(C:Wk):Prop where
 cl:MN K C
 rule:WI K C "rule"
 wait:WI K C "wait"
 space:WI K C "space"
 out:WI K C "out"
 again:WI K C "again"
 now:WI K C "now"
 readings:WI K C "readings"
 firsts:WI K C "firsts"
 wholes:WI K C "wholes"
structure Ww(C CR:Wk)(H:Hp)(m dr df dw:Wk)(R:JM):Prop where
 ex:∃dx fs,H m=some (.ins C dx fs)/\fs.length <=9/\∀f,fs.lookup f=(Ey R dr df dw).lookup f
 dR:H dr=some (.dT (MM R.es))
 dF:H df=some (.dT (MU R.es))
 dW:H dw=some (.dT (Ds R.ws))
 n1:dr≠df
 n2:dr≠dw
 n3:df≠dw
 rd:∀e∈R.es,Nh CR H e.p e.a e.l R.ru e.rs
 np:(R.es.map (·.p)).Nodup
 na:(R.es.map (·.a)).Nodup
 nk:(R.es.map (·.ky)).Nodup
section
variable{P:Wc}{w:Wh}{K:Wi}{mg:W8}{base:Wn}{C CR m dr df dw:Wk}{H G:Hp}{R:JM}
theorem Ww.mono(s:Ws H G)(h:Ww C CR H m dr df dw R):Ww C CR G m dr df dw R:=by
 obtain⟨dx,fs,e,r⟩:=h.ex;exact⟨⟨dx,fs,s _ _ e,r⟩,s _ _ h.dR,s _ _ h.dF,s _ _ h.dW,h.n1,h.n2,h.n3,fun e a=>(h.rd e a).mono s,h.np,h.na,h.nk⟩
theorem Ww.fld(h:Ww C CR H m dr df dw R)(cl:MN K C){f:Str}{v:V}(na:WI K C f)(e:(Ey R dr df dw).lookup f=some v):Nb K H (.ref m) f v:=by
 obtain⟨dx,fs,a,_,b⟩:=h.ex;exact⟨m,C,dx,fs,rfl,a,cl,na,by rw[b f,e]⟩
theorem Ih(L:M8 K C)(h:Ww C CR H m dr df dw R):Nb K H (.ref m) "rule" (.str R.ru):=h.fld L.cl L.rule rfl
theorem O5(L:M8 K C)(h:Ww C CR H m dr df dw R):Nb K H (.ref m) "wait" (.int R.wt):=h.fld L.cl L.wait rfl
theorem Ke(L:M8 K C)(h:Ww C CR H m dr df dw R):Nb K H (.ref m) "space" (.int R.sp):=h.fld L.cl L.space rfl
theorem Kk(L:M8 K C)(h:Ww C CR H m dr df dw R):Nb K H (.ref m) "out" (.str R.out):=h.fld L.cl L.out rfl
theorem QA(L:M8 K C)(h:Ww C CR H m dr df dw R):Nb K H (.ref m) "again" (.str R.ag):=h.fld L.cl L.again rfl
theorem EJ(L:M8 K C)(h:Ww C CR H m dr df dw R):Nb K H (.ref m) "now" (.int R.now):=h.fld L.cl L.now rfl
theorem RH(L:M8 K C)(h:Ww C CR H m dr df dw R):Nb K H (.ref m) "readings" (.ref dr):=h.fld L.cl L.readings rfl
theorem BL(L:M8 K C)(h:Ww C CR H m dr df dw R):Nb K H (.ref m) "firsts" (.ref df):=h.fld L.cl L.firsts rfl
theorem Fv(L:M8 K C)(h:Ww C CR H m dr df dw R):Nb K H (.ref m) "wholes" (.ref dw):=h.fld L.cl L.wholes rfl
theorem Ww.mt(h:Ww C CR H m dr df dw R){f:Str}(e:(Ey R dr df dw).lookup f=none):Gx C f H (.ref m):=by
 obtain⟨dx,fs,a,_,b⟩:=h.ex;exact⟨m,dx,fs,rfl,a,by rw[b f,e]⟩
theorem RP{es:List RE}(hk:(es.map (·.ky)).Nodup){e:RE}(he:e∈es):WM (MM es) (Ju e.ky)=some (.ref e.p):=by
 induction es with
 |nil=>exact nomatch he
 |cons x r ih=>
  unfold MM WM;rw[List.map_cons,YN];rcases Yl.mp he with rfl|z
  .simp
  .have a:¬Ju x.ky=Ju e.ky:=fun q=>(YE.mp hk).1 (Y3.mpr ⟨e,z,(DR q).symm⟩)
   rw[Yp a];exact ih (YE.mp hk).2 z
theorem Ei{es:List RE}(hk:(es.map (·.ky)).Nodup){e:RE}(he:e∈es):WM (MU es) (Ju e.ky)=some (.int e.first):=by
 induction es with
 |nil=>exact nomatch he
 |cons x r ih=>
  unfold MU WM;rw[List.map_cons,YN];rcases Yl.mp he with rfl|z
  .simp
  .have a:¬Ju x.ky=Ju e.ky:=fun q=>(YE.mp hk).1 (Y3.mpr ⟨e,z,(DR q).symm⟩)
   rw[Yp a];exact ih (YE.mp hk).2 z
theorem vM{es:List RE}{k:Int×Str×Str}(hk:k∉es.map (·.ky)):WM (MM es) (Ju k)=none:=by
 unfold MM WM;rw[Xr.mpr]
 .rfl
 .intro x a;obtain⟨e,b,rfl⟩:=Y3.mp a;simp only[Yb];exact fun q=>hk (Y3.mpr ⟨e,b,DR q⟩)
theorem uR{es:List RE}{k:Int×Str×Str}(hk:k∉es.map (·.ky)):WM (MU es) (Ju k)=none:=by
 unfold MU WM;rw[Xr.mpr]
 .rfl
 .intro x a;obtain⟨e,b,rfl⟩:=Y3.mp a;simp only[Yb];exact fun q=>hk (Y3.mpr ⟨e,b,DR q⟩)
def JS(es:List RE)(k:Int×Str×Str):List RE:=es.filter fun e=> !decide (e.ky=k)
theorem xA(es:List RE)(k:Int×Str×Str):Jj (MM es) (Ju k)=MM (JS es k):=by
 unfold Jj MM JS;rw[Xd]
 congr 1
 apply Xw;intro e _;show(!decide (Ju e.ky=Ju k))= !decide (e.ky=k)
 congr 1
 rw[Yw,Yb,Yb];exact⟨DR,YU Ju⟩
theorem xC(es:List RE)(k:Int×Str×Str):Jj (MU es) (Ju k)=MU (JS es k):=by
 unfold Jj MU JS;rw[Xd]
 congr 1
 apply Xw;intro e _;show(!decide (Ju e.ky=Ju k))= !decide (e.ky=k)
 congr 1
 rw[Yw,Yb,Yb];exact⟨DR,YU Ju⟩
theorem Ww.ne(h:Ww C CR H m dr df dw R):m≠dr/\m≠df/\m≠dw/\∀e∈R.es,m≠e.p/\m≠e.a/\e.p≠dr/\e.p≠df/\e.p≠dw/\e.a≠dr/\e.a≠df/\e.a≠dw:=by
 obtain⟨dx,fs,b,_,f⟩:=h.ex;refine⟨Wr b h.dR nofun,Wr b h.dF nofun,Wr b h.dW nofun,fun e i=>?_⟩;have r:=h.rd e i;obtain⟨j,fs',c,_,_,d,_⟩:=r.ex;refine⟨fun z=>?_,Wr b r.dk nofun,Wr c h.dR nofun,Wr c h.dF nofun,Wr c h.dW nofun,Wr r.dk h.dR nofun,Wr r.dk h.dF nofun,Wr r.dk h.dW nofun⟩;rw[z,c]at b;cases b;rw[f]at d;cases d
def K4(d:Wk)(H G:Hp):Prop:=∀c o,H c=some o->c≠d->G c=some o
theorem Nh.offD{p a l d:Wk}{ru:Str}{rs:RS}{kvs:List (List WO×V)}(b:K4 d H G)(hd:H d=some (.dT kvs))(h:Nh CR H p a l ru rs):Nh CR G p a l ru rs:=by
 obtain⟨dx,fs,f,r⟩:=h.ex;obtain⟨xs,c,i⟩:=h.cv;exact⟨⟨dx,fs,b _ _ f (Wr f hd nofun),r⟩,b _ _ h.dk (Wr h.dk hd nofun),xs,b _ _ c (Wr c hd nofun),i.tk fun t ys e=>b _ _ e (Wr e hd nofun)⟩
theorem Ww.fldO(h:Ww C CR H m dr df dw R)(hG:∀o,H m=some o->G m=some o)(cl:MN K C){f:Str}{v:V}(na:WI K C f)(e:(Ey R dr df dw).lookup f=some v):Nb K G (.ref m) f v:=by
 obtain⟨dx,fs,a,_,b⟩:=h.ex;exact⟨m,C,dx,fs,rfl,hG _ a,cl,na,by rw[b f,e]⟩
theorem O7{es:List RE}{i:Nat}{k:List WO}{v:V}(h:(MM es)[i]?=some (k,v)):∃e,es[i]?=some e/\k=Ju e.ky/\v= .ref e.p:=by
 unfold MM at h;rw[Y9]at h;obtain⟨e,a,q⟩:=Yn.mp h;cases q;exact⟨e,a,rfl,rfl⟩
theorem Q7{es:List RE}{i:Nat}{k:List WO}{v:V}(h:(MU es)[i]?=some (k,v)):∃e,es[i]?=some e/\k=Ju e.ky/\v= .int e.first:=by
 unfold MU at h;rw[Y9]at h;obtain⟨e,a,q⟩:=Yn.mp h;cases q;exact⟨e,a,rfl,rfl⟩
end
section
variable{P:Wc}{w:Wh}{K:Wi}{mg:W8}{base:Wn}
def Na(k:Int×Str×Str):Prop:=0 <=k.1/\k.1 <=65535/\NM k.2.1/\NM k.2.2
inductive Fq(vs:List V)(H:Hp)(Q:VK)(E:XK):Prop|mk (n lo:Int) (_:vs=[.int n,.int lo]) (_:Q (.bl (decide (lo <=n))) H)
abbrev L5:Stmt:=top 11
theorem nH:Jx ["value","low"] ["value","low"] (Wp L5):=by walk_at"e"
theorem yH{f:Wk}{fd:Wf}(F:JE K "is_whole_from" "is_whole_from" L5 f fd)(JQ:N6 P w K mg base "is_whole" 1 ["value"] [] Cz):Wz P w K mg base Jf 2 f fd ["value","low"] Fq:=by
 refine F.ok nH (fun vs H Q E h=>?_) (fun c A a s H vs Q E b h=>?_)
 .obtain⟨n,lo,rfl,_⟩:=h;rfl
 .obtain⟨n,lo,rfl,q⟩:=h;refine⟨_,(WH (Jd (MJ (JT JQ b.m rfl (Wx 0 Wu)) (Dj (Mp (Jy CN) (Wq 0) (Wq 1) (MI _)))))),?_⟩;walk_at"rd";exact⟨_,_,rfl,rfl,_,rfl,q⟩
inductive Zk(vs:List V)(H:Hp)(Q:VK)(E:XK):Prop|mk (ru:Str) (_:vs=[.str ru]) (_:Q (.bl (decide (ru="oldest"\/ru="widest"\/ru="own"))) H)
abbrev IK:Stmt:=top 19
theorem tW:Jx ["value"] ["value"] (Wp IK):=by walk_at"e"
theorem gF{f aOUTS:Wk}{fd:Wf}(F:JE K "is_out" "is_out" IK f fd)(B:Bt mg)(g_OUTS:mg "OUTS"=some (.ref aOUTS))(t_OUTS:∀H,Ja K H aOUTS [.str "oldest",.str "widest",.str "own"]):Wz P w K mg base Jf 1 f fd ["value"] Zk:=by
 refine F.ok tW (fun vs H Q E h=>?_) (fun b A a s H vs Q E c h=>?_)
 .obtain⟨ru,rfl,_⟩:=h;rfl
 .obtain⟨ru,rfl,k⟩:=h;refine⟨_,(WH (Jd (MJ (N4 (R6 "str") B.isinstance (Wx 0 (J7 (hs:=Dl) (R5 (v:=.ty "str") rfl B.bstr (by rfl) rfl) Wu))) (Dj (Mp (K7 (K:=K) rfl) (Wq 0) (Eb (v:=.ref aOUTS) rfl g_OUTS rfl) (by with_unfolding_all rfl)))))),?_⟩;walk_at"rd";rw[Y5 (by decide)];refine⟨aOUTS,_,rfl,.inr (t_OUTS H),rfl,rfl,?_⟩;have e:RU (.str ru) [.str "oldest",.str "widest",.str "own"]=decide (ru="oldest"\/ru="widest"\/ru="own"):=by
   rw[Yw];simp only[RU,Iu,XQ,W6,Vs,VE,Yb];exact⟨fun h=>h.imp XM (Or.imp XM XM),fun h=>h.imp XM (Or.imp XM XM)⟩
  rw[Y2 (by simp),e];exact k
inductive OM(vs:List V)(H:Hp)(Q:VK)(E:XK):Prop|mk (ru:Str) (_:vs=[.str ru]) (_:Q (.bl (decide (ru="fresh"\/ru="rest"))) H)
abbrev HW:Stmt:=top 20
theorem nF:Jx ["value"] ["value"] (Wp HW):=by walk_at"e"
theorem jL{f aAGAINS:Wk}{fd:Wf}(F:JE K "is_again" "is_again" HW f fd)(B:Bt mg)(g_AGAINS:mg "AGAINS"=some (.ref aAGAINS))(t_AGAINS:∀H,Ja K H aAGAINS [.str "fresh",.str "rest"]):Wz P w K mg base Jf 1 f fd ["value"] OM:=by
 refine F.ok nF (fun vs H Q E h=>?_) (fun b A a s H vs Q E c h=>?_)
 .obtain⟨ru,rfl,_⟩:=h;rfl
 .obtain⟨ru,rfl,k⟩:=h;refine⟨_,(WH (Jd (MJ (N4 (R6 "str") B.isinstance (Wx 0 (J7 (hs:=Dl) (R5 (v:=.ty "str") rfl B.bstr (by rfl) rfl) Wu))) (Dj (Mp (K7 (K:=K) rfl) (Wq 0) (Eb (v:=.ref aAGAINS) rfl g_AGAINS rfl) (by with_unfolding_all rfl)))))),?_⟩;walk_at"rd";rw[Y5 (by decide)];refine⟨aAGAINS,_,rfl,.inr (t_AGAINS H),rfl,rfl,?_⟩;have e:RU (.str ru) [.str "fresh",.str "rest"]=decide (ru="fresh"\/ru="rest"):=by
   rw[Yw];simp only[RU,Iu,XQ,W6,Vs,VE,Yb];exact⟨fun h=>h.imp XM XM,fun h=>h.imp XM XM⟩
  rw[Y2 (by simp),e];exact k
inductive PM(vs:List V)(H:Hp)(Q:VK)(E:XK):Prop|mk (t:Wk) (k:Int×Str×Str) (_:vs=[.ref t]) (_:H t=some (.tup (NG k))) (_:Na k) (_:∀G,Ws H G->Q (.bl true) G)
abbrev Hs:Stmt:=top 15
theorem tU:Jx ["value"] ["value"] (Wp Hs):=by walk_at"e"
theorem uO{f:Wk}{fd:Wf}(F:JE K "is_key" "is_key" Hs f fd)(B:Bt mg)(Nj:N6 P w K mg base "is_number" 3 ["value"] [] Ha)(Nd:N6 P w K mg base "is_name" 1 ["value"] [] Kw):Wz P w K mg base Jf 4 f fd ["value"] PM:=by
 refine F.ok tU (fun vs H Q E h=>?_) (fun n A i s H vs Q E c h=>?_)
 .obtain⟨t,k,rfl,_⟩:=h;rfl
 .obtain⟨t,k,rfl,b,a,q⟩:=h;refine⟨_,(WB (JJ (PW.pt (Dh (MA (Tx (N4 (R6 "tuple") B.isinstance (Wx 0 (J7 (hs:=Dl) (R5 (v:=.ty "tuple") rfl B.btuple (by rfl) rfl) Wu))))) (DH (JA (RC Rz) (N4 (MX (MV (K:=K) rfl)) B.len (Wx 0 Wu)) WE)))) (WH (Jd Re)) JV) (WH (Jd (MJ (JT Nj c.m rfl (NT (Mz K (Wq 0) WE) Wu)) (MJ (JT Nd c.m rfl (NT (Mz K (Wq 0) WE) Wu)) (Dj (JT Nd c.m rfl (NT (Mz K (Wq 0) WE) Wu)))))))),?_⟩;walk_at"rd";have st:=Ja.of (K:=K) b;refine⟨_,rO b,?_⟩;rw[Y2 (by decide)];refine⟨_,.inr st,rfl,?_⟩;rw[Y2 (by simp[NG])];refine⟨_,st,_,rfl,_,_,rfl,rfl,_,rfl,?_⟩;rw[Y5 (by simp[D2,a.1,a.2.1])];have r:=a.2.2.1.2.1;have p:=a.2.2.2.2.1;refine⟨_,st,_,rfl,_,_,rfl,rfl,(fun z e=>by cases e;lia),fun H1 d=>⟨_,rfl,?_⟩⟩;rw[Y5 (NM.is a.2.2.1)];refine⟨_,Ja.of (d _ _ b),_,rfl,_,_,rfl,rfl,(fun z e=>by cases e;lia),fun H2 j=>?_⟩;rw[NM.is a.2.2.2];exact q H2 (d.trans j)
inductive Cc(C:Wk)(vs:List V)(H:Hp)(Q:VK)(E:XK):Prop|mk (p a l:Wk) (ru:Str) (rs:RS) (_:vs=[.ref p]) (_:Nh C H p a l ru rs) (_:Q (.int rs.st.length) H)
abbrev LY:Stmt:=To (top 42) 4
theorem wI:Jx ["self"] ["self"] (Wp LY):=by walk_at"e"
theorem m4{f C:Wk}{fd:Wf}(F:JE K "size" "Reading.size" LY f fd)(L:DP K C)(B:Bt mg):Wz P w K mg base Jf 1 f fd ["self"] (Cc C):=by
 refine F.ok wI (fun vs H Q E h=>?_) (fun d A c s H vs Q E i h=>?_)
 .obtain⟨p,a,l,ru,rs,rfl,_⟩:=h;rfl
 .obtain⟨p,a,l,ru,rs,rfl,b,q⟩:=h;refine⟨_,(WH (Jd (N4 AD B.len (TF (Jv K (Wq 0)) Wu)))),?_⟩;walk_at"rd";refine⟨_,EA L b,_,rfl,_,b.dk,?_⟩;have e:(Ml rs.st).length=rs.st.length:=Y1 ..;rw[e];exact q
inductive CZ(C CR:Wk)(vs:List V)(H:Hp)(Q:VK)(E:XK):Prop|mk (m dr df dw:Wk) (R:JM) (t:Int) (_:vs=[.ref m,.int t]) (_:Ww C CR H m dr df dw R) (_:R.now <=t) (_:Q .non H)
abbrev FM:Stmt:=To (top 44) 8
theorem vR:Jx ["self","time"] ["self","time"] (Wp FM):=by walk_at"e"
theorem tS{f C CR:Wk}{fd:Wf}(F:JE K "check_time" "Room.check_time" FM f fd)(L:M8 K C)(Jh:N6 P w K mg base "is_whole_from" 2 ["value","low"] [] Fq):Wz P w K mg base Jf 3 f fd ["self","time"] (CZ C CR):=by
 refine F.ok vR (fun vs H Q E h=>?_) (fun e A a s H vs Q E c h=>?_)
 .obtain⟨m,dr,df,dw,R,t,rfl,_⟩:=h;rfl
 .obtain⟨m,dr,df,dw,R,t,rfl,d,b,q⟩:=h;refine⟨_,(WH (JJ (MA (Tx (JT Jh c.m rfl (Wx 1 (TF (Jv K (Wq 0)) Wu))))) Ro JV)),?_⟩;walk_at"rd";refine⟨_,EJ L d,t,R.now,rfl,?_⟩;rw[Yd b];exact⟨_,rfl,q⟩
inductive BA(C CR:Wk)(vs:List V)(H:Hp)(Q:VK)(E:XK):Prop|mk (m dr df dw t:Wk) (R:JM) (k:Int×Str×Str) (_:vs=[.ref m,.ref t]) (_:Ww C CR H m dr df dw R) (_:H t=some (.tup (NG k))) (_:k∈R.es.map (·.ky)) (_:∀G,(∀c o,H c=some o->c≠dr->c≠df->G c=some o)->Ww C CR G m dr df dw {R with es:=JS R.es k}->Q .non G)
abbrev Kb:Stmt:=To (top 44) 10
theorem eF:Jx ["self","key"] ["self","key"] (Wp Kb):=by walk_at"e"
theorem tE{f C CR:Wk}{fd:Wf}(F:JE K "let_go" "Room.let_go" Kb f fd)(L:M8 K C):Wz P w K mg base Jf 1 f fd ["self","key"] (BA C CR):=by
 refine F.ok eF (fun vs H Q E h=>?_) (fun cdv A outer s H vs Q E hr h=>?_)
 .obtain⟨m,dr,df,dw,t,R,k,rfl,_⟩:=h;rfl
 .obtain⟨m,dr,df,dw,t,R,k,rfl,a,p,hk,q⟩:=h;refine⟨_,(WB (Ta (Md (K:=K) rfl YJ XB Up (Pf (TZ hr)) (Jv K (Wq 0)) (Wx 1 Wu))) (WH (Ta (Md (K:=K) rfl YJ XB Up (Pf (TZ hr)) (Jv K (Wq 0)) (Wx 1 Wu))))),?_⟩;walk_at"rd";obtain⟨e,he,rfl⟩:=Y3.mp hk;obtain⟨i,y,nm3,nme⟩:=a.ne;refine⟨_,RH L a,.inr (.inr (.inl ⟨rfl,.inr ⟨_,a.dR⟩⟩)),dr,rfl,Ju e.ky,_,a.dR,p,_,RP a.nk he,fun G1 d e1=>?_⟩;have hm1:∀o,H m=some o->G1 m=some o:=fun o h=>d m o h i
  have b:=d df _ a.dF (Ne.symm a.n1);have aa:=d t _ p (Wr p a.dR nofun);refine⟨_,a.fldO hm1 L.cl L.firsts rfl,.inr (.inr (.inl ⟨rfl,.inr ⟨_,b⟩⟩)),df,rfl,Ju e.ky,_,b,aa,_,Ei a.nk he,fun u r e2=>?_⟩;rw[xA]at e1;rw[xC]at e2;have kp:∀c o,H c=some o->c≠dr->c≠df->u c=some o:=fun c o h n1 n2=>r c o (d c o h n1) n2
  refine q u kp ?_;obtain⟨dx,fs,hm,hl,hf⟩:=a.ex;have v:∀x∈JS R.es e.ky,x∈R.es:=fun x j=>(Ym.mp j).1
  refine⟨⟨dx,fs,kp m _ hm i y,hl,hf⟩,r dr _ e1 a.n1,e2,kp dw _ a.dW (Ne.symm a.n2) (Ne.symm a.n3),a.n1,a.n2,a.n3,fun x j=>?_,?_,?_,?_⟩
  .have h1:=(a.rd x (v x j)).offD (G:=G1) (fun c o h n=>d c o h n) a.dR;exact h1.offD (G:=u) (fun c o h n=>r c o h n) b
  .exact a.np.sublist (XA _ YI)
  .exact a.na.sublist (XA _ YI)
  .exact a.nk.sublist (XA _ YI)
def MZ(es:List RE):Int:=(es.map fun e=>(e.rs.st.length:Int)).sum
inductive AB(C CR:Wk)(vs:List V)(H:Hp)(Q:VK)(E:XK):Prop|mk (m dr df dw:Wk) (R:JM) (_:vs=[.ref m]) (_:Ww C CR H m dr df dw R) (_:R.es.length <=1000) (_:(∀e∈R.es,e.rs.st.length <=100000)) (_:∀G,Ws H G->Q (.int (MZ R.es)) G)
abbrev C9:Stmt:=To (top 44) 4
theorem xJ:Jx ["self"] ["self"] (Wp C9):=by walk_at"e"
theorem vZ{f C CR:Wk}{fd:Wf}(F:JE K "bytes_kept" "Room.bytes_kept" C9 f fd)(L:M8 K C)(B2:GO mg)(Jq:Nv P w K mg base CR "size" 1 ["self"] [] (Cc CR)):Wz P w K mg base Jf 2 f fd ["self"] (AB C CR):=by
 refine F.ok xJ (fun vs H Q E h=>?_) (fun cdv A outer s H vs Q E hr h=>?_)
 .obtain⟨m,dr,df,dw,R,rfl,_⟩:=h;rfl
 .obtain⟨m,dr,df,dw,R,rfl,d,hl,hb,q⟩:=h;refine⟨_,(WH (Jd (N4 (Qd (K:=K) rfl rfl) B2.sum (J7 (hs:=GB) (E8 (Di (N':=["key","self"]) (caps:=[none,some 0]) (MR (sc:=Wp C9) (N:=["self"]) rfl rfl (by decide +kernel)) rfl (EX (Jv K (Wq 0))) (fun _ _ _ _ _=>(Ms (i:=0) (MB (N:=["key","self"]) rfl (by decide +kernel)) rfl (Or.inl rfl))) (fun _ _ _ _ _=>DC) (fun _ _ _ _ _=>(Mq (Jt hr (Jv K (Wq 1)) (Wq 0)) Jq hr.m)))) Wu)))),?_⟩;walk_at"rd";obtain⟨nm1,nm2,nm3,nme⟩:=d.ne;have hrl:(MM R.es).length=R.es.length:=Y1 ..;refine HB d.dR (fun Rr h=>by walk_at"rd";exact⟨_,RH L d,h⟩) (fun i ys σ'=>ys=((R.es.take i).map fun e=>V.int e.rs.st.length)/\∃v,σ'=[v,some (.ref m)]) ⟨rfl,_,rfl⟩ ?_ (by lia) ?_ ?_
  .rintro i ys σ' ⟨rfl,_⟩;rw[Y1,Yt];lia
  .rintro Hf o hfo hfd i b k v ys σ' hk hb ⟨rfl,v0,rfl⟩;obtain⟨e,he,rfl,rfl⟩:=O7 hk;have hmem:=Yx he;have hbd:b≠dr:=Wr hb d.dR nofun;have u:K4 dr H Hf:=fun c o h n=>by rw[hfo c n];exact h
   have hr1:=(d.rd e hmem).offD u d.dR;walk_at"rd";refine⟨_,d.fldO (fun o h=>u m o h nm1) L.cl L.readings rfl,_,rfl,_,.inr ⟨_,_,b,.inr ⟨o,hfd⟩,rfl,u b _ hb hbd,(RP d.nk hmem).symm⟩,?_⟩;refine⟨LX hr1,e.p,e.a,e.l,R.ru,e.rs,rfl,hr1,?_⟩;rw[YK,he,Xc,Yf];exact⟨rfl,rfl⟩
  .rintro ys σ' ⟨rfl,_⟩ p G hp s1 e1;rw[hrl,YA (Y6 _)]at e1;have em:(R.es.map fun e=>V.int e.rs.st.length)=(R.es.map fun e=>(e.rs.st.length:Int)).map V.int:=by rw[Yo];rfl
   rw[em]at e1;have bd:∀x∈R.es.map (fun e=>(e.rs.st.length:Int)),0 <=x/\x <=100000:=fun x hx=>by
    obtain⟨e,he,rfl⟩:=Y3.mp hx;have:=hb e he;lia
   have sm:∀l:List Int,(∀x∈l,0 <=x/\x <=100000)->0 <=l.sum/\l.sum <=100000*l.length:=fun l=>by
    induction l with
    |nil=>intro _;simp
    |cons x r ih=>
     intro h;have h1:=ih fun y hy=>h y (Yk _ hy)
     have h2:=h x YC;rw[Ua,List.length_cons];lia
   refine⟨p,rfl,_,WA.of e1,fun x hx=>by have:=bd x hx;lia,fun j hj=>?_,q G s1⟩;have h1:=sm _ fun x hx=>bd x (Vd (i:=j) hx)
   have h2:((R.es.map fun e=>(e.rs.st.length:Int)).take j).length <=1000:=by rw[Yt,Y1];lia
   lia
end
theorem EW{α β:Type}{f:α->β}:∀{l:List α} {x y:α},(l.map f).Nodup->x∈l->y∈l->x≠y->f x≠f y
 |[],_,_,_,hx,_,_=>nomatch hx
 |z::r,x,y,hn,hx,hy,ne=>by
  obtain⟨h1,h2⟩:=YE.mp hn;rcases Yl.mp hx with e1|hx2
  .rcases Yl.mp hy with e2|hy2
   .exact absurd (e1.trans e2.symm) ne
   .exact fun q=>h1 (Y3.mpr ⟨y,hy2,by rw[<-e1];exact q.symm⟩)
  .rcases Yl.mp hy with e2|hy2
   .exact fun q=>h1 (Y3.mpr ⟨x,hx2,by rw[<-e2];exact q⟩)
   .exact EW h2 hx2 hy2 ne
def B1(ws:List ((Int×Str×Str)×Int))(k:Int×Str×Str):Option Int:=(ws.find? fun x=>decide (x.1=k)).map (·.2)
theorem IF(ws:List ((Int×Str×Str)×Int))(k:Int×Str×Str):WM (Ds ws) (Ju k)=(B1 ws k).map V.int:=by
 unfold Ds WM B1
 induction ws with
 |nil=>rfl
 |cons x r ih=>
  rw[List.map_cons,YN,YN]
  by_cases h:x.1=k
  .rw[Yd h,Yd (by rw[h])];rfl
  .rw[Yp h,Yp (fun z=>h (DR z))];exact ih
def Bh(R:JM)(k:Int×Str×Str):Bool:=decide (R.ag="rest") && (match B1 R.ws k with|some t=>decide (R.now < t+ R.wt)|none=>false)
def DL(R:JM)(e:RE):Bool:=decide (e.first+ R.wt <=R.now)
def MY(R:JM):List (Int×Ky):=(R.es.filter (DL R)).map fun e=>(e.first,e.ky)
def AJ(R:JM):List RE:=R.es.filter fun e=> !DL R e
def NP(G:Hp)(l:Wk)(ks:List Ky)(why:Str):Prop:=∃ts:List (Addr×Addr),ts.length=ks.length/\G l=some (.lst (ts.map fun t=>.ref t.1))/\∀ (i:Nat) t k,ts[i]?=some t->ks[i]?=some k->G t.1=some (.tup [.str "gone",.ref t.2,.str why])/\G t.2=some (.tup (NG k))
section
variable{P:Wc}{w:Wh}{K:Wi}{mg:W8}{base:Wn}
inductive Ht(C CR:Wk)(vs:List V)(H:Hp)(Q:VK)(E:XK):Prop|mk (m dr df dw t:Wk) (R:JM) (k:Int×Str×Str) (_:vs=[.ref m,.ref t]) (_:Ww C CR H m dr df dw R) (_:H t=some (.tup (NG k))) (_:Q (.bl (Bh R k)) H)
abbrev KM:Stmt:=To (top 44) 12
theorem gL:Jx ["self","key"] ["self","key"] (Wp KM):=by walk_at"e"
theorem yS{f C CR:Wk}{fd:Wf}(F:JE K "is_resting" "Room.is_resting" KM f fd)(L:M8 K C):Wz P w K mg base Jf 1 f fd ["self","key"] (Ht C CR):=by
 refine F.ok gL (fun vs H Q E h=>?_) (fun e A d s H vs Q E c h=>?_)
 .obtain⟨m,dr,df,dw,t,R,k,rfl,_⟩:=h;rfl
 .obtain⟨m,dr,df,dw,t,R,k,rfl,a,b,q⟩:=h;refine⟨_,(WH (Jd (MJ (Mp (TJ TH) (Jv K (Wq 0)) WK (MI _)) (MJ (Mp (Zj (TZ c)) (Wq 1) (Jv K (Wq 0)) (by with_unfolding_all rfl)) (Dj (Mp (Jy Rp) (Jv K (Wq 0)) (J9 (Jy NW) (Jt c (Jv K (Wq 0)) (Wq 1)) (Jv K (Wq 0))) (MI _))))))),?_⟩;walk_at"rd";refine⟨_,QA L a,rfl,?_⟩;unfold Bh at q
  by_cases h1:R.ag="rest"
  .rw[Y5 (by rw[h1];simp)];refine⟨_,Fv L a,dw,rfl,Ju k,_,.inl a.dW,b,?_⟩;rw[Yd h1,U9]at q;rw[IF];cases h2:B1 R.ws k with
   |none=>rw[h2]at q;exact q
   |some t0=>
    rw[h2]at q;exact⟨_,EJ L a,_,Fv L a,dw,rfl,_,.inr ⟨_,Ju k,t,.inl a.dW,rfl,b,by rw[IF,h2];rfl⟩,_,O5 L a,_,rfl,_,rfl,_,rfl,q⟩
  .rw[Y2 (by simpa using fun z=>h1 z)];rw[Yp h1,XJ]at q;exact q
theorem Ww.butL{C CR m dr df dw l:Wk}{H G:Hp}{R:JM}{xs:List V}(h:Ww C CR H m dr df dw R)(b:JC l H G)(hl:H l=some (.lst xs))(hn:∀e∈R.es,e.l≠l):Ww C CR G m dr df dw R:=by
 obtain⟨dx,fs,f,r⟩:=h.ex;refine⟨⟨dx,fs,b _ _ f (Wr f hl nofun),r⟩,b _ _ h.dR (Wr h.dR hl nofun),b _ _ h.dF (Wr h.dF hl nofun),b _ _ h.dW (Wr h.dW hl nofun),h.n1,h.n2,h.n3,fun x c=>?_,h.np,h.na,h.nk⟩;have r:=h.rd x c;obtain⟨j,i,d,n⟩:=r.ex;obtain⟨ys,a,p⟩:=r.cv;exact⟨⟨j,i,b _ _ d (Wr d hl nofun),n⟩,b _ _ r.dk (Wr r.dk hl nofun),ys,b _ _ a (hn x c),p.tk (T1 b hl)⟩
theorem Qz{R:JM}(hk:(R.es.map (·.ky)).Nodup){e:RE}(he:e∈R.es){p:Int×Ky}(hp:p∈MY R)(h:e.ky=p.2):DL R e=true/\e.first=p.1:=by
 obtain⟨x,a,rfl⟩:=Y3.mp hp;obtain⟨h1,h2⟩:=Ym.mp a;have:e=x:=XD fun ne=>EW hk he h1 ne h
 rw[this];exact⟨h2,rfl⟩
def R9(R:JM)(ps:List (Int×Ky)):List RE:=R.es.filter fun e=> !decide ((e.first,e.ky)∈ps)
theorem y7(R:JM):R9 R []=R.es:=by
 unfold R9;rw[Xl];intro e _;simp
theorem gW{R:JM}(hk:(R.es.map (·.ky)).Nodup){ps:List (Int×Ky)}(h:ps.Perm (MY R)):R9 R ps=AJ R:=by
 unfold R9 AJ;apply Xw;intro e a
 congr 1
 rw[Yw,Yb,h.mem_iff];exact⟨fun z=>(Qz hk a z rfl).1,fun z=>Y3.mpr ⟨e,Ym.mpr ⟨a,z⟩,rfl⟩⟩
theorem xR{R:JM}(hk:(R.es.map (·.ky)).Nodup){qs:List (Int×Ky)}{p:Int×Ky}(hp:p∈MY R):JS (R9 R qs) p.2=R9 R (qs++[p]):=by
 unfold JS R9;rw[Vp];apply Xw;intro e a;rw[Yw];simp only[X0,Xv,X6,YB,Yg,not_or];refine⟨fun z=>⟨z.2,fun q=>z.1 (by rw[<-q])⟩,fun z=>⟨fun q=>z.2 ?_,z.1⟩⟩;obtain⟨_,h2⟩:=Qz hk a hp q;rw[h2,q]
theorem ZM{R:JM}(hk:(R.es.map (·.ky)).Nodup):(MY R).Nodup:=by
 have h1:((R.es.filter (DL R)).map (·.ky)).Nodup:=hk.sublist (XA _ YI);unfold MY;rw[List.nodup_iff_pairwise_ne,List.pairwise_map]at h1 ⊢;exact h1.imp fun h z=>h (YU (·.2) z)
def Gh(H:Hp)(x:V)(q:Int×Ky):Prop:=∃t b,x= .ref t/\H t=some (.tup [.int q.1,.ref b])/\H b=some (.tup (NG q.2))
inductive AO(C CR:Wk)(vs:List V)(H:Hp)(Q:VK)(E:XK):Prop|mk (m dr df dw:Wk) (R:JM) (_:vs=[.ref m]) (_:Ww C CR H m dr df dw R) (_:R.es.length < 64) (_:∀ (ps:List (Int×Ky)) l G,ps.Perm (MY R)->ps.Pairwise (fun a b=>J5 b a=false)->H l=none->(∀c o,H c=some o->c≠dr->c≠df->G c=some o)->Ww C CR G m dr df dw {R with es:=AJ R}->NP G l (ps.map (·.2)) "wait"->Q (.ref l) G)
abbrev Fe:Stmt:=To (top 44) 11
theorem Al:Jx ["self","over","events","first","key"] ["self"] (Wp Fe):=by walk_at"e"
theorem jN{f C CR:Wk}{fd:Wf}(F:JE K "end_waits" "Room.end_waits" Fe f fd)(L:M8 K C)(B2:GO mg)(Jo:Nv P w K mg base C "let_go" 1 ["self","key"] [] (BA C CR)):Wz P w K mg base Jf 2 f fd ["self"] (AO C CR):=by
 refine F.ok Al (fun vs H Q E h=>?_) (fun cdv A outer s H vs Q E hr h=>?_)
 .obtain⟨m,dr,df,dw,R,rfl,_⟩:=h;rfl
 .obtain⟨m,dr,df,dw,R,rfl,u,hl,q⟩:=h;refine⟨_,(WB (IJ (CC (i:=1) (N':=["key","self"]) (caps:=[none,some 0]) (MR (sc:=Wp Fe) (N:=["self","over","events","first","key"]) rfl rfl (by decide +kernel)) rfl (Al).nd rfl (Or.inl rfl) (EX (Jv K (Wq 0))) (fun _ _ _ _ _=>(Ms (i:=0) (MB (N:=["key","self"]) rfl (by decide +kernel)) rfl (Or.inl rfl))) (fun _ _ _ _ _=>(Ah (JA (Jy GU) (J9 (Jy NW) (Jt hr (Jv K (Wq 1)) (Wq 0)) (Jv K (Wq 1))) (Jv K (Wq 1))))) (fun _ _ _ _ _=>(NO (NT (Jt hr (Jv K (Wq 1)) (Wq 0)) (Wx 0 Wu)))) rfl)) (WB (JP 2 Al (Te Wu)) (WB (GT YT rfl (GE (K:=K) rfl (N4 (C8 (K:=K) (Room.units hr) rfl) B2.sorted (Wx 1 Wu))) (GM (K:=K) (n:=2) rfl rfl (TL (Tg 3 Al) (TL (Tg 4 Al) GV))) (WB (Ta (MK (Wq 0) Jo hr.m (Wx 4 Wu))) (WH (Ta (Md (K:=K) rfl Yr Yu Yv (Dc Da) (Wq 2) (J7 (hs:=Mh) (NO (NI WK (Wx 4 (NI WK Wu)))) Wu)))))) (WH (Jd (Wq 2)))))),?_⟩;refine WX fun N hN=>?_
  walk_at"rd";obtain⟨nm1,nm2,nm3,nme⟩:=u.ne;have hrl:(MU R.es).length=R.es.length:=Y1 ..;refine QT (Pk u.dF (fun Rr h=>by walk_at"rd";exact⟨_,BL L u,h⟩) (fun i ys σ' Hf=>Pw (Gh Hf) ys (((R.es.take i).filter (DL R)).map fun e=>(e.first,e.ky))/\∃v,σ'=[v,some (.ref m)]) (fun Hf _=>⟨Pw.nil,_,rfl⟩) ?_ (by lia) ?_ ?_)
  .rintro i ys σ' Hf ⟨h1,_⟩;rw[h1.1,Y1];exact YD (Yz ..) (by rw[Yt];lia)
  .rintro Hf o off hfd i b k v ys σ' hk hb ⟨h1,v0,rfl⟩;obtain⟨e,he,rfl,rfl⟩:=Q7 hk;have hmem:=Yx he;have hmo:=fun o h=>off m o h nm2
   walk_at"rd";refine⟨_,u.fldO hmo L.cl L.firsts rfl,_,rfl,_,.inr ⟨_,_,b,.inr ⟨o,hfd⟩,rfl,hb,(Ei u.nk hmem).symm⟩,_,u.fldO hmo L.cl L.wait rfl,_,rfl,_,rfl,_,u.fldO hmo L.cl L.now rfl,_,rfl,?_⟩;rw[YK,he,Xc,XC,Yf]
   by_cases ho:e.first+ R.wt <=R.now
   .rw[Y5 (Yd ho)];have e0:[e].filter (DL R)=[e]:=by simp[DL,ho]
    refine⟨_,u.fldO hmo L.cl L.firsts rfl,_,rfl,_,.inr ⟨_,_,b,.inr ⟨o,hfd⟩,rfl,hb,(Ei u.nk hmem).symm⟩,Jc (by simp),fun p G hp s1 e1=>⟨?_,s1⟩⟩;rw[e0];exact(h1.imp fun x y ⟨t,b,h1,h2,h3⟩=>⟨t,b,h1,s1 _ _ h2,s1 _ _ h3⟩).snoc ⟨p,b,rfl,e1,s1 _ _ hb⟩
   .rw[Y2 (by simpa using ho)];have e0:[e].filter (DL R)=[]:=by simp[DL,ho]
    rw[e0,List.map_nil,List.append_nil];exact⟨h1,Ws.refl _⟩
  .rintro ys σ' Hn ⟨h1,_⟩ hold p G hp s1 s2 e1;rw[hrl,YA (Y6 _)]at h1;refine hN _ _ ?_;clear hN N;walk_at"rd";have hG:=u.mono s1;have ne2:∀{x:V} {y:Int×Ky},Gh Hn x y->Gh G x y:=fun {x y} ⟨t,b,h1,h2,h3⟩=>⟨t,b,h1,s2 _ _ h2 (fun _ _ z=>nomatch z),s2 _ _ h3 (fun _ _ z=>nomatch z)⟩
   have h2:Pw (Gh G) ys (MY R):=h1.imp fun x y=>ne2
   refine⟨Jc (by simp),fun p1 G1 hp1 s3 e2=>⟨ys,WA.of (s3 p _ e1),MY R,h2.1,fun i x q a b=>?_,?_,fun r l G2 hperm hsort hl0 s4 e4=>?_⟩⟩
   .obtain⟨t,b,h1,h3,h4⟩:=h2.2 i x q a b;exact⟨t,h1,b,Ja.of (s3 _ _ h3),Ja.of (s3 _ _ h4)⟩
   .rw[h2.1];unfold MY;rw[Y1];exact Ya (Yz ..) hl
   obtain⟨ps,eps⟩:∃ps:List (Int×Ky),ps=r.map fun i=>(MY R).getD i (0,0,"",""):=⟨_,rfl⟩
   obtain⟨zs,ezs⟩:∃zs:List V,zs=r.map fun i=>ys.getD i .non:=⟨_,rfl⟩
   have hpp:ps.Perm (MY R):=by rw[eps];exact L9 (by rw[<-h2.1];exact hperm)
   have hps:ps.Pairwise (fun a b=>J5 b a=false):=by rw[eps];exact hsort
   have hzp:Pw (Gh G2) zs ps:=by
    rw[ezs,eps];refine(h2.pick r fun i hi=>by simpa using hperm.mem_iff.mp hi).imp fun x y ⟨t,b,h1,h3,h4⟩=>⟨t,b,h1,s4 _ _ (s3 _ _ h3),s4 _ _ (s3 _ _ h4)⟩
   rw[<-ezs]at e4;clear hsort hperm eps ezs;refine⟨⟨_,WA.of e4⟩,?_⟩;have hR2:=hG.mono (s3.trans s4);refine Bw (xs:=zs) (fun i σ' G'=>(∃a b,σ'=[some (.ref m),some (.ref p),some (.ref p1),a,b])/\(∀c o,G2 c=some o->c≠dr->c≠df->c≠p1->G' c=some o)/\Ww C CR G' m dr df dw {R with es:=R9 R (ps.take i)}/\NP G' p1 ((ps.take i).map (·.2)) "wait") ⟨⟨_,_,rfl⟩,fun c o h _ _ _=>h,?_,?_⟩ (fun i σ' G' _ h=>?_) (fun i x σ' G' hx h=>?_) fun σ' G' h=>?_
   .rw[List.take_zero,y7];exact hR2
   .exact⟨[],rfl,s4 _ _ e2,fun i t k h=>by simp at h⟩
   .exact WA.of (h.2.1 l _ e4 (Wr e4 hR2.dR nofun) (Wr e4 hR2.dF nofun) (fun z=>by rw[z,e2]at hl0;cases hl0))
   .obtain⟨⟨a,b,rfl⟩,kp,d,hE⟩:=h;obtain⟨pr,hpr,t,tb,rfl,ht,htb⟩:=hzp.get hx;have hkeep:∀{c:Wk} {xs:List V},G2 c=some (.tup xs)->G' c=some (.tup xs):=fun {c xs} h=>kp c _ h (Wr h hR2.dR nofun) (Wr h hR2.dF nofun) (Wr h (s4 _ _ e2) nofun)
    have hop:pr∈MY R:=hpp.mem_iff.mp (Yx hpr);have hpt:ps.take (i+ 1)=ps.take i++[pr]:=by rw[YK,hpr];rfl
    have hin:pr.2∈(R9 R (ps.take i)).map (·.ky):=by
     obtain⟨e,he,rfl⟩:=Y3.mp hop;refine Y3.mpr ⟨e,Ym.mpr ⟨(Ym.mp he).1,?_⟩,rfl⟩;have hnd:(ps.take (i+ 1)).Nodup:=((hpp.nodup_iff).mpr (ZM u.nk)).sublist (List.take_sublist ..);rw[hpt,Ue]at hnd;simp only[Xv,X6];exact fun z=>hnd.2.2 _ z _ (Yg.mpr rfl) rfl
    walk_at"rd";refine⟨_,Ja.of (hkeep ht),rfl,?_⟩;walk_at"rd";refine⟨d.mt rfl,m,dr,df,dw,tb,_,pr.2,rfl,d,hkeep htb,hin,fun G3 kp3 hR3=>?_⟩;obtain⟨ts,h1',h2',h3'⟩:=hE;have d1:=Wr h2' d.dR nofun;have d2:=Wr h2' d.dF nofun;have hp3:=kp3 p1 _ h2' d1 d2;have k3:∀{c:Wk} {xs:List V},G' c=some (.tup xs)->G3 c=some (.tup xs):=fun {c xs} h=>kp3 c _ h (Wr h d.dR nofun) (Wr h d.dF nofun)
    have hR3:Ww C CR G3 m dr df dw {R with es:=R9 R (ps.take (i+ 1))}:=by rw[hpt,<-xR u.nk hop];exact hR3
    have htl:ts.length <=1000:=by
     rw[h1',Y1,Yt];have:=hpp.length_eq;unfold MY at this;rw[Y1]at this;have:=Yz (DL R) R.es
     lia
    refine⟨.inl ⟨rfl,_,WA.of hp3⟩,Jc (by simp),fun t3 G4 ht3 s5 e5=>⟨_,s5 _ _ hp3,Ya (by rw[Y1];exact htl) (by rw[YV];decide),fun G5 b5 e6=>⟨fun c o h n1 n2 n3=>b5 c o (s5 c o (kp3 c o (kp c o h n1 n2 n3) n1 n2)) n3,(hR3.mono s5).butL b5 (s5 _ _ hp3) (fun e he=>?_),?_⟩⟩⟩
    .obtain⟨ys',hy,_⟩:=(u.rd e (Ym.mp he).1).cv;exact fun z=>by rw[z]at hy;rw[s1 _ _ hy]at hp1;cases hp1
    .have k5:∀{c:Wk} {xs:List V},G4 c=some (.tup xs)->G5 c=some (.tup xs):=fun {c xs} h=>b5 c _ h (Wr h (s5 _ _ hp3) nofun)
     refine⟨ts++[(t3,tb)],?_,by rw[e6,Yf];rfl,?_⟩
     .rw[hpt,Ys,Yf,Ys,h1'];rfl
     .have hw : Pw (fun (t : Addr × Addr) (k : Ky) => G5 t.1 = some (.tup [.str "gone", .ref t.2, .str "wait"]) /\ G5 t.2 = some (.tup (NG k))) ts ((ps.take i).map (·.2)) := ⟨h1', fun j x y a b => by
       obtain ⟨z1, z2⟩ := h3' j x y a b;exact ⟨k5 (s5 _ _ (k3 z1)), k5 (s5 _ _ (k3 z2))⟩⟩
      rw[hpt,Yf];exact(hw.snoc (x:=(t3,tb)) (y:=pr.2) ⟨k5 e5,k5 (s5 _ _ (k3 (hkeep htb)))⟩).2
   .obtain⟨⟨a,b,rfl⟩,kp,d,hE⟩:=h;rw[hzp.1,YA (Y6 _)]at d hE;rw[gW u.nk hpp]at d;walk_at"rd";refine q ps p1 G' hpp hps (s1.free hp1) (fun c o h n1 n2=>kp c o (s4 _ _ (s3 _ _ (s1 _ _ h))) n1 n2 (fun z=>?_)) d hE;rw[z]at h;rw[s1 _ _ h]at hp1;cases hp1
end
inductive t9 where
 |str
 |unl (n:Int)
 |keep (rs:RS)
 |whole (rs:RS)
def Jb(ru:Str)(rs:RS)(d:PD):t9:=
 if strange rs d=true then(if ru="refuse" then .unl d.at' else .str) else
  match (if ru="refuse" then Nm rs.st d.at' d.ns else none) with
  |some n=>.unl n
  |none=>if T0 (JB (decide (ru="last")) rs d).en 0 (JB (decide (ru="last")) rs d).cv=[] then .whole (JB (decide (ru="last")) rs d) else .keep (JB (decide (ru="last")) rs d)
def Np(es:List RE)(k:Int×Str×Str):RS:=match es.find? fun e=>decide (e.ky=k) with|some e=>e.rs|none=>Dd
def Rg(R:JM)(m dr df dw c:Wk):Prop:=c=m\/c=dr\/c=df\/c=dw\/∃e∈R.es,c=e.p\/c=e.a
def Me(R:JM)(m dr df dw:Wk)(H G:Hp):Prop:=∀c o,H c=some o->¬Rg R m dr df dw c->G c=some o
abbrev AE:=(Int×Str×Str)×RS×Int
def Wt(es:List RE):List AE:=es.map fun e=>(e.ky,e.rs,e.first)
def J6(xs:List AE)(k:Int×Str×Str)(rs:RS)(now:Int):List AE:=if k∈xs.map (·.1) then xs.map (fun x=>if x.1=k then(k,rs,x.2.2) else x) else xs++[(k,rs,now)]
def WP(xs:List AE)(k:Int×Str×Str):List AE:=xs.filter fun x=> !decide (x.1=k)
structure TW(C CR:Wk)(H G:Hp)(m dr df dw:Wk)(R R':JM)(xs:List AE)(ws:List ((Int×Str×Str)×Int)):Prop where
 kp:Me R m dr df dw H G
 ok:Ww C CR G m dr df dw R'
 es:Wt R'.es=xs
 ws':R'.ws=ws
 pr:R'.ru=R.ru/\R'.wt=R.wt/\R'.sp=R.sp/\R'.out=R.out/\R'.ag=R.ag/\R'.now=R.now
 nw:∀e∈R'.es,(∃e0∈R.es,e.p=e0.p/\e.a=e0.a)\/(H e.p=none/\H e.a=none)
 nl:∀e∈R'.es,(∃e0∈R.es,e.l=e0.l)\/H e.l=none
section
variable{P:Wc}{w:Wh}{K:Wi}{mg:W8}{base:Wn}
inductive Ol(C:Wk)(vs:List V)(H:Hp)(Q:VK)(E:XK):Prop|mk (m dx:Wk) (ru out ag:Str) (wt sp:Int) (_:vs=[.ref m,.str ru,.int wt,.int sp,.str out,.str ag]) (_:H m=some (.ins C dx [])) (_:(ru="first"\/ru="last"\/ru="refuse")) (_:1 <=wt) (_:1 <=sp) (_:(out="oldest"\/out="widest"\/out="own")) (_:(ag="fresh"\/ag="rest")) (_:∀dr df dw G,H dr=none->H df=none->H dw=none->JC m H G->(∀CR,Ww C CR G m dr df dw ⟨ru,wt,sp,out,ag,0,[],[]⟩)->Q .non G)
abbrev Nl:Stmt:=To (top 44) 0
theorem m7:Jx ["self","rule","wait","space","out","again"] ["self","rule","wait","space","out","again"] (Wp Nl):=by walk_at"e"
theorem dJ{f C:Wk}{fd:Wf}(F:AL K f fd "Room.__init__" Nl)(L:M8 K C)(M3:N6 P w K mg base "is_rule" 1 ["value"] [] Ot)(Jh:N6 P w K mg base "is_whole_from" 2 ["value","low"] [] Fq)(My:N6 P w K mg base "is_out" 1 ["value"] [] Zk)(Tv:N6 P w K mg base "is_again" 1 ["value"] [] OM):Wz P w K mg base Jf 3 f fd ["self","rule","wait","space","out","again"] (Ol C):=by
 obtain⟨oc,od,dV,kV,doc,pm,an,cdv,ct,osl,rfl,lk,hcd⟩:=F;refine E7 lk hcd m7 (fun vs H Q E h=>?_) (fun A j s H vs Q E d h=>?_)
 .obtain⟨m,dx,ru,out,ag,wt,sp,rfl,_⟩:=h;rfl
 .obtain⟨m,dx,ru,out,ag,wt,sp,rfl,hm,h1,h2,h3,h4,h5,q⟩:=h
  suffices hh:∃t,MP (Mi Jf P w K mg base _ "Room.__init__" (Wp Nl) f cdv A j s H E).nox (WN Nl) t/\t {nx:=fun _ H'=>Q .non H',rt:=Q} (L2.start _ _) H by
   obtain⟨t,h1,h2⟩:=hh;exact⟨t,h1.nox,h2⟩
  refine⟨_,(WB (JJ (MA (Tx (JT M3 d.m rfl (Wx 1 Wu)))) Ro JV) (WB (JJ (PW.pt (Dh (MA (Tx (JT Jh d.m rfl (Wx 2 (NI WE Wu))))) (DH (MA (Tx (JT Jh d.m rfl (Wx 3 (NI WE Wu)))))))) Ro JV) (WB (JJ (PW.pt (Dh (MA (Tx (JT My d.m rfl (Wx 4 Wu)))) (DH (MA (Tx (JT Tv d.m rfl (Wx 5 Wu))))))) Ro JV) (WB (MH (K:=K) rfl (Wq 0) (Wq 1) rfl) (WB (MH (K:=K) rfl (Wq 0) (Wq 2) rfl) (WB (MH (K:=K) rfl (Wq 0) (Wq 3) rfl) (WB (MH (K:=K) rfl (Wq 0) (Wq 4) rfl) (WB (MH (K:=K) rfl (Wq 0) (Wq 5) rfl) (WB (MH (K:=K) rfl (Wq 0) WE rfl) (WB (MH (K:=K) rfl (Wq 0) EN rfl) (WB (MH (K:=K) rfl (Wq 0) EN rfl) (WH (MH (K:=K) rfl (Wq 0) EN rfl))))))))))))),?_⟩;refine WX fun N b=>?_
  walk_at"rd";refine⟨ru,rfl,?_⟩;rw[Yd h1];refine⟨_,rfl,?_⟩;rw[Y2 (by simp)];refine b _ _ ?_;clear b N;refine WX fun N b=>?_
  walk_at"rd";refine⟨wt,1,rfl,?_⟩;rw[Yd h2];refine⟨_,rfl,?_⟩;rw[Y2 (by simp)];refine⟨sp,1,rfl,?_⟩;rw[Yd h3];refine⟨_,rfl,?_⟩;rw[Y2 (by simp)];refine b _ _ ?_;clear b N;refine WX fun N b=>?_
  walk_at"rd";refine⟨out,rfl,?_⟩;rw[Yd h4];refine⟨_,rfl,?_⟩;rw[Y2 (by simp)];refine⟨ag,rfl,?_⟩;rw[Yd h5];refine⟨_,rfl,?_⟩;rw[Y2 (by simp)];refine b _ _ ?_;clear b N;walk_at"rd";have a:([]:List (Str×V)).length <=0:=Y6 0;refine⟨C,dx,[],hm,L.cl,L.rule,by decide,fun G1 b1 g1=>?_⟩;refine⟨C,dx,_,g1,L.cl,L.wait,Ya (Jg a) (by decide),fun G2 b2 g2=>?_⟩;refine⟨C,dx,_,g2,L.cl,L.space,Ya (Jg (Jg a)) (by decide),fun G3 b3 g3=>?_⟩;refine⟨C,dx,_,g3,L.cl,L.out,Ya (Jg (Jg (Jg a))) (by decide),fun G4 b4 g4=>?_⟩;refine⟨C,dx,_,g4,L.cl,L.again,Ya (Jg (Jg (Jg (Jg a)))) (by decide),fun G5 b5 g5=>?_⟩;refine⟨C,dx,_,g5,L.cl,L.now,Ya (Jg (Jg (Jg (Jg (Jg a))))) (by decide),fun G6 b6 g6=>?_⟩;intro dr Ga ha sa ga;refine⟨C,dx,_,sa _ _ g6,L.cl,L.readings,Ya (Jg (Jg (Jg (Jg (Jg (Jg a)))))) (by decide),fun G7 b7 g7=>?_⟩;intro df Gb y v gb;refine⟨C,dx,_,v _ _ g7,L.cl,L.firsts,Ya (Jg (Jg (Jg (Jg (Jg (Jg (Jg a))))))) (by decide),fun G8 z g8=>?_⟩;intro dw Gc r i gc;refine⟨C,dx,_,i _ _ g8,L.cl,L.wholes,Ya (Jg (Jg (Jg (Jg (Jg (Jg (Jg (Jg a)))))))) (by decide),fun G9 u g9=>?_⟩;have p:dr≠m:=Ne.symm (N0 g6 ha);have x:df≠m:=Ne.symm (N0 g7 y);have n3:dw≠m:=Ne.symm (N0 g8 r);have a7:=b7 dr _ ga p;have a8:=z dr _ (v _ _ a7) p;have a9:=u dr _ (i _ _ a8) p;have c8:=z df _ gb x;have c9:=u df _ (i _ _ c8) x;have k6:JC m H G6:=b1.trans (b2.trans (b3.trans (b4.trans (b5.trans b6))));have k7:JC m H G7:=fun c o h n=>b7 c o (sa c o (k6 c o h n)) n
  have k8:JC m H G8:=fun c o h n=>z c o (v c o (k7 c o h n)) n
  have k9:JC m H G9:=fun c o h n=>u c o (i c o (k8 c o h n)) n
  refine q dr df dw G9 (k6.free ha p) (k7.free y x) (k8.free r n3) k9 fun CR=>⟨⟨dx,_,g9,?_,fun f=>rfl⟩,a9,c9,u dw _ gc n3,N0 a7 y,N0 a8 r,N0 c8 r,(fun e he=>nomatch he),UM,UM,UM⟩
  exact Jg (Jg (Jg (Jg (Jg (Jg (Jg (Jg (Jg a))))))))
inductive CI(C CR:Wk)(vs:List V)(H:Hp)(Q:VK)(E:XK):Prop|mk (m dr df dw t:Wk) (R:JM) (k:Int×Str×Str) (_:vs=[.ref m,.ref t]) (_:Ww C CR H m dr df dw R) (_:H t=some (.tup (NG k))) (_:Na k) (_:k∈R.es.map (·.ky)) (_:∀G,Ws H G->Q .non G)
abbrev HR:Stmt:=To (top 44) 9
theorem ZR:Jx ["self","key"] ["self","key"] (Wp HR):=by walk_at"e"
theorem wR{f C CR:Wk}{fd:Wf}(F:JE K "check_kept" "Room.check_kept" HR f fd)(L:M8 K C)(Mv:N6 P w K mg base "is_key" 4 ["value"] [] PM):Wz P w K mg base Jf 5 f fd ["self","key"] (CI C CR):=by
 refine F.ok ZR (fun vs H Q E h=>?_) (fun u A j s H vs Q E d h=>?_)
 .obtain⟨m,dr,df,dw,t,R,k,rfl,_⟩:=h;rfl
 .obtain⟨m,dr,df,dw,t,R,k,rfl,i,c,p,n,q⟩:=h;refine⟨_,(WH (JJ (PW.pt (Dh (MA (Tx (JT Mv d.m rfl (Wx 1 Wu)))) (DH (RW (Ph (TZ d)) (Wq 1) (Jv K (Wq 0)) (by with_unfolding_all rfl))))) Ro JV)),?_⟩;walk_at"rd";refine⟨t,k,rfl,c,p,fun G b=>⟨_,rfl,?_⟩⟩;rw[Y2 (by simp)];have a:=i.mono b;refine⟨_,RH L a,dr,rfl,Ju k,_,.inl a.dR,b _ _ c,?_⟩;obtain⟨e,r,rfl⟩:=Y3.mp n;rw[RP i.nk r];exact q G b
inductive FO(C CR:Wk)(vs:List V)(H:Hp)(Q:VK)(E:XK):Prop|mk (m dr df dw t:Wk) (R:JM) (e:RE) (_:vs=[.ref m,.ref t]) (_:Ww C CR H m dr df dw R) (_:H t=some (.tup (NG e.ky))) (_:Na e.ky) (_:e∈R.es) (_:e.rs.cv.length <=1000) (_:∀l G,H l=none->Ws H G->JR G l (T0 e.rs.en 0 e.rs.cv)->Q (.ref l) G)
abbrev Iy:Stmt:=To (top 44) 5
theorem ZU:Jx ["self","key"] ["self","key"] (Wp Iy):=by walk_at"e"
theorem nM{f C CR:Wk}{fd:Wf}(F:JE K "lacks" "Room.lacks" Iy f fd)(L:M8 K C)(Jk:Nv P w K mg base C "check_kept" 5 ["self","key"] [] (CI C CR))(Jn:Nv P w K mg base CR "missing" 2 ["self"] [] (Cf CR)):Wz P w K mg base Jf 6 f fd ["self","key"] (FO C CR):=by
 refine F.ok ZU (fun vs H Q E h=>?_) (fun cdv A u s H vs Q E j h=>?_)
 .obtain⟨m,dr,df,dw,t,R,e,rfl,_⟩:=h;rfl
 .obtain⟨m,dr,df,dw,t,R,e,rfl,d,r,y,n,z,q⟩:=h;refine⟨_,(WB (Ta (MK (Wq 0) Jk j.m (Wx 1 Wu))) (WH (Jd (Mq (Jt j (Jv K (Wq 0)) (Wq 1)) Jn j.m)))),?_⟩;walk_at"rd";refine⟨d.mt rfl,m,dr,df,dw,t,R,e.ky,rfl,d,r,y,Y3.mpr ⟨e,n,rfl⟩,fun G c=>?_⟩;have b:=d.mono c;have i:=b.rd e n;refine⟨_,RH L b,_,rfl,_,.inr ⟨_,Ju e.ky,t,.inl b.dR,rfl,c _ _ r,(RP d.nk n).symm⟩,Sq i,e.p,e.a,e.l,R.ru,e.rs,rfl,i,z,fun l G2 v x hC=>?_⟩;exact q l G2 (c.free x) (c.trans v) hC
end
section
variable{C CR m dr df dw:Wk}{H G:Hp}{R:JM}
theorem HY{es:List RE}(hk:(es.map (·.ky)).Nodup){e:RE}(he:e∈es):Np es e.ky=e.rs:=by
 unfold Np
 induction es with
 |nil=>exact nomatch he
 |cons x r ih=>
  rw[YN];rcases Yl.mp he with rfl|z
  .simp
  .have a:¬x.ky=e.ky:=fun q=>(YE.mp hk).1 (Y3.mpr ⟨e,z,q.symm⟩)
   rw[Yp a];exact ih (YE.mp hk).2 z
theorem Kf{es:List RE}{k:Int×Str×Str}(hk:k∉es.map (·.ky)):Np es k=Dd:=by
 unfold Np;rw[Xr.mpr];intro e a;simp only[Yb];exact fun q=>hk (Y3.mpr ⟨e,a,q⟩)
theorem IN(es:List RE):(Wt es).map (·.1)=es.map (·.ky):=by unfold Wt;rw[Yo];rfl
def TX(es:List RE)(k:Int×Str×Str)(l:Wk)(rs:RS):List RE:=es.map fun e=>if e.ky=k then {e with l:=l,rs:=rs} else e
theorem jM(es:List RE)(k:Int×Str×Str)(l:Wk)(rs:RS):MM (TX es k l rs)=MM es:=by
 unfold MM TX;rw[Yo];apply YO;intro e _;simp only[Function.comp]
 split <;> rfl
theorem bK(es:List RE)(k:Int×Str×Str)(l:Wk)(rs:RS):MU (TX es k l rs)=MU es:=by
 unfold MU TX;rw[Yo];apply YO;intro e _;simp only[Function.comp]
 split <;> rfl
theorem Cm{β:Type}(f:RE->β)(hf:∀e l rs,f {e with l:=l,rs:=rs}=f e)(es:List RE)(k:Int×Str×Str)(l:Wk)(rs:RS):(TX es k l rs).map f=es.map f:=by
 unfold TX;rw[Yo];apply YO;intro e _;simp only[Function.comp]
 split
 .exact hf _ _ _
 .rfl
theorem P7{es:List RE}{k:Int×Str×Str}{l:Wk}{rs:RS}(now:Int)(hk:k∈es.map (·.ky)):Wt (TX es k l rs)=J6 (Wt es) k rs now:=by
 unfold J6;rw[Y5 (by rw[IN];exact hk)];unfold Wt TX;rw[Yo,Yo];apply YO;intro e _;simp only[Function.comp]
 by_cases h:e.ky=k
 .rw[Y5 h,Y5 h,h]
 .rw[Y2 h,Y2 h]
theorem OU{xs:List AE}{k:Int×Str×Str}{rs rs':RS}{now:Int}:J6 (J6 xs k rs now) k rs' now=J6 xs k rs' now:=by
 unfold J6
 by_cases h:k∈xs.map (·.1)
 .rw[Y5 h,Y5 h];have h2:k∈(xs.map fun x=>if x.1=k then(k,rs,x.2.2) else x).map (·.1):=by
   rw[Yo];obtain⟨x,a,rfl⟩:=Y3.mp h;exact Y3.mpr ⟨x,a,by simp[Function.comp]⟩
  rw[Y5 h2,Yo];apply YO;intro x _;simp only[Function.comp]
  by_cases a:x.1=k
  .simp[a]
  .simp[a]
 .rw[Y2 h,Y2 h,Y5 (by simp),Yf];have e:(xs.map fun x=>if x.1=k then(k,rs',x.2.2) else x)=xs:=by
   conv=>rhs;rw[<-List.map_id xs]
   apply YO;intro x a;rw[Y2 (fun z=>h (Y3.mpr ⟨x,a,z⟩))];rfl
  rw[e];simp
theorem P4(es:List RE)(k:Int×Str×Str):Wt (JS es k)=WP (Wt es) k:=by
 unfold Wt JS WP;rw[Xd];rfl
theorem Fk{xs:List AE}{k:Int×Str×Str}{rs:RS}{now:Int}:WP (J6 xs k rs now) k=WP xs k:=by
 unfold J6 WP
 by_cases h:k∈xs.map (·.1)
 .rw[Y5 h];clear h
  induction xs with
  |nil=>rfl
  |cons x r ih=>
   rw[List.map_cons,U3,U3,ih]
   by_cases hx:x.1=k
   .simp[hx]
   .simp[hx]
 .rw[Y2 h,XC];simp
theorem Nh.keepPA{p a p' a' l':Wk}{ru:Str}{rs':RS}(kp:N9 p a H G)(h:Nh CR H p' a' l' ru rs')(n1:p'≠p)(n2:a'≠a){dx:Wk}{fs:List (Str×V)}(hp:H p=some (.ins CR dx fs)){kvs:List (WO×V)}(ha:H a=some (.dK kvs)):Nh CR G p' a' l' ru rs':=by
 obtain⟨d,fs',b,r⟩:=h.ex;obtain⟨xs,c,f⟩:=h.cv;refine⟨⟨d,fs',kp _ _ b n1 (Wr b ha nofun),r⟩,kp _ _ h.dk (Wr h.dk hp nofun) n2,xs,kp _ _ c (Wr c hp nofun) (Wr c ha nofun),f.tk fun t ys e=>kp _ _ e (Wr e hp nofun) (Wr e ha nofun)⟩
theorem Ww.goOn{e:RE}{l:Wk}{rs:RS}(h:Ww C CR H m dr df dw R)(he:e∈R.es)(kp:N9 e.p e.a H G)(hr:Nh CR G e.p e.a l R.ru rs):Ww C CR G m dr df dw {R with es:=TX R.es e.ky l rs}:=by
 obtain⟨nm1,nm2,nm3,i⟩:=h.ne;obtain⟨x,w,v,u,s,r,q,n⟩:=i e he;obtain⟨dx,fs,hm,hl,hf⟩:=h.ex;have f:=h.rd e he;obtain⟨dxe,fse,j,_⟩:=f.ex;refine⟨⟨dx,fs,kp m _ hm x w,hl,hf⟩,?_,?_,kp dw _ h.dW (Ne.symm s) (Ne.symm n),h.n1,h.n2,h.n3,fun y hy=>?_,?_,?_,?_⟩
 .show G dr=some (.dT (MM (TX R.es e.ky l rs)));rw[jM];exact kp dr _ h.dR (Ne.symm v) (Ne.symm r)
 .show G df=some (.dT (MU (TX R.es e.ky l rs)));rw[bK];exact kp df _ h.dF (Ne.symm u) (Ne.symm q)
 .obtain⟨c,b,rfl⟩:=Y3.mp hy
  by_cases hk:c.ky=e.ky
  .rw[Y5 hk];have:c=e:=by
    by_cases e1:c=e
    .exact e1
    .exact absurd hk (EW h.nk b he e1)
   subst this;exact hr
  .rw[Y2 hk];have d:c≠e:=fun z=>hk (by rw[z])
   exact(h.rd c b).keepPA kp (EW h.np b he d) (EW h.na b he d) j f.dk
 .show((TX R.es e.ky l rs).map (·.p)).Nodup;rw[Cm (·.p) (fun _ _ _=>rfl)];exact h.np
 .show((TX R.es e.ky l rs).map (·.a)).Nodup;rw[Cm (·.a) (fun _ _ _=>rfl)];exact h.na
 .show((TX R.es e.ky l rs).map (·.ky)).Nodup;rw[Cm (·.ky) (fun _ _ _=>rfl)];exact h.nk
end
def Nk(xs:List AE):Int:=(xs.map fun x=>(x.2.1.st.length:Int)).sum
def D1(xs:List AE)(k:Ky):Int:=((xs.find? fun x=>decide (x.1=k)).map fun x=>(x.2.1.st.length:Int)).getD 0
def TV(out:Str)(own:Ky)(xs:List AE):List (Int×Ky):=(xs.filter fun x=> !decide (x.1=own)).map fun x=>(if out="oldest" then x.2.2 else -(x.2.1.st.length:Int),x.1)
def Db:List (Int×Ky)->Option (Int×Ky)
 |[]=>none
 |x::xs=>some (xs.foldl (fun a b=>if J5 b a=true then b else a) x)
def Mo(out:Str)(sp:Int)(own:Ky)(xs:List AE):Ky:=if out="own"\/sp < D1 xs own then own else((Db (TV out own xs)).map (·.2)).getD own
def WL(out:Str)(sp:Int)(own:Ky):Nat->List AE->List AE×List Ky
 |0,xs=>(xs,[])
 |n+ 1,xs=>if Nk xs <=sp then(xs,[]) else((WL out sp own n (WP xs (Mo out sp own xs))).1,Mo out sp own xs::(WL out sp own n (WP xs (Mo out sp own xs))).2)
theorem BO:∀ (xs:List (Int×Ky)) (x:Int×Ky),xs.foldl (fun a b=>if J5 b a=true then b else a) x∈x::xs/\∀q∈x::xs,J5 q (xs.foldl (fun a b=>if J5 b a=true then b else a) x)=false
 |[],x=>⟨Yg.mpr rfl,fun q hq=>by rw[Yg.mp hq];exact De.irrefl x⟩
 |y::ys,x=>by
  obtain⟨h1,h2⟩:=BO ys (if J5 y x=true then y else x);rw[List.foldl_cons];generalize ys.foldl (fun a b=>if J5 b a=true then b else a) (if J5 y x=true then y else x)=r at h1 h2
  by_cases hyx:J5 y x=true
  .rw[Y5 hyx]at h1 h2;refine⟨.tail _ h1,fun q hq=>?_⟩;rcases Yl.mp hq with rfl|z
   .refine YY.mpr fun z=>?_
    have d:=De.trans _ _ _ hyx z;have c:J5 y r=true:=d;rw[h2 y (.head _)]at c;cases c
   .exact h2 q z
  .rw[Y2 hyx]at h1 h2;refine⟨?_,fun q hq=>?_⟩
   .rcases Yl.mp h1 with z|z
    .rw[z];exact .head _
    .exact .tail _ (.tail _ z)
   .rcases Yl.mp hq with rfl|z
    .exact h2 q (.head _)
    .rcases Yl.mp z with rfl|z
     .refine YY.mpr fun z=>?_
      rcases De.negTrans q x r z with d|d
      .exact hyx d
      .have c:J5 x r=true:=d;rw[h2 x (.head _)]at c;cases c
     .exact h2 q (.tail _ z)
theorem Q2{c:List (Int×Ky)}{q:Int×Ky}(hq:q∈c)(h:∀q'∈c,J5 q' q=false):Db c=some q:=by
 cases c with
 |nil=>exact nomatch hq
 |cons x xs=>
  obtain⟨h1,h2⟩:=BO xs x;exact YU some (De.total _ _ (h _ h1) (h2 q hq))
theorem dM{es:List RE}(hk:(es.map (·.ky)).Nodup){e:RE}(he:e∈es):D1 (Wt es) e.ky=e.rs.st.length:=by
 unfold D1 Wt;rw[VT];have:es.find? ((fun x:AE=>decide (x.1=e.ky)) ∘ fun e=>(e.ky,e.rs,e.first))=some e:=by
  induction es with
  |nil=>exact nomatch he
  |cons x r ih=>
   rw[YN];rcases Yl.mp he with rfl|z
   .simp
   .have a:¬x.ky=e.ky:=fun q=>(YE.mp hk).1 (Y3.mpr ⟨e,z,q.symm⟩)
    have:((fun x:AE=>decide (x.1=e.ky)) ∘ fun e=>(e.ky,e.rs,e.first)) x=false:=Yp a;rw[this];exact ih (YE.mp hk).2 z
 rw[this];rfl
theorem E9(es:List RE):(Wt es).map (·.1)=es.map (·.ky):=by
 unfold Wt;rw[Yo];rfl
theorem QM(es:List RE)(k:Ky):Wt (JS es k)=WP (Wt es) k:=by
 unfold Wt JS WP;rw[Xd];rfl
theorem La{out:Str}{sp:Int}{own:Ky}{xs:List AE}(hn:(xs.map (·.1)).Nodup)(ht:sp < Nk xs)(hs:D1 xs own <=sp):TV out own xs≠[]:=by
 intro z;have h0:∀x∈xs,x.1=own:=fun x a=>by
  refine XD fun n=>?_
  have:(if out="oldest" then x.2.2 else -(x.2.1.st.length:Int),x.1)∈TV out own xs:=Y3.mpr ⟨x,Ym.mpr ⟨a,by simpa using n⟩,rfl⟩;rw[z]at this;exact nomatch this
 match xs,hn,h0 with
 |[],_,_=>unfold Nk at ht;unfold D1 at hs;simp at ht hs;omega
 |[x],_,h0=>
  unfold Nk at ht;unfold D1 at hs;rw[YN,Yd (h0 x (.head _))]at hs;simp at ht hs;omega
 |x::y::r,hn,h0=>
  rw[List.map_cons,List.map_cons,h0 x (.head _),h0 y (.tail _ (.head _))]at hn;exact(YE.mp hn).1 (.head _)
section
variable{P:Wc}{w:Wh}{K:Wi}{mg:W8}{base:Wn}
inductive O0(C CR:Wk)(vs:List V)(H:Hp)(Q:VK)(E:XK):Prop|mk (m dr df dw t:Wk) (R:JM) (own:Ky) (_:vs=[.ref m,.ref t]) (_:Ww C CR H m dr df dw R) (_:H t=some (.tup (NG own))) (_:own∈R.es.map (·.ky)) (_:R.es.length <=1000) (_:(∀e∈R.es,Na e.ky)) (_:(D1 (Wt R.es) own <=R.sp->TV R.out own (Wt R.es)≠[])) (_:∀t' G,Ws H G->G t'=some (.tup (NG (Mo R.out R.sp own (Wt R.es))))->Q (.ref t') G)
abbrev EZ:Stmt:=To (top 44) 15
theorem P8:Jx ["self","own","others"] ["self","own"] (Wp EZ):=by walk_at"e"
theorem ZN{f C CR:Wk}{fd:Wf}(F:JE K "first_out" "Room.first_out" EZ f fd)(L:M8 K C)(B:Bt mg)(Jq:Nv P w K mg base CR "size" 1 ["self"] [] (Cc CR)):Wz P w K mg base Jf 3 f fd ["self","own"] (O0 C CR):=by
 refine F.ok P8 (fun vs H Q E h=>?_) (fun cdv A outer s H vs Q E hr h=>?_)
 .obtain⟨m,dr,df,dw,t,R,own,rfl,_⟩:=h;rfl
 .obtain⟨m,dr,df,dw,t,R,own,rfl,u,ht,hown,hl,hok,hpr,q⟩:=h;refine⟨_,(WB (JJ (PW.pt (Dh (JA (TJ TH) (Jv K (Wq 0)) WK) (DH (JA (Jy Gu) (Mq (Jt hr (Jv K (Wq 0)) (Wq 1)) Jq hr.m) (Jv K (Wq 0)))))) (WH (Jd (Wq 1))) JV) (WB (IJ (CC (i:=2) (N':=["key","own"]) (caps:=[none,some 1]) (MR (sc:=Wp EZ) (N:=["self","own","others"]) rfl rfl (by decide +kernel)) rfl (P8).nd rfl (Or.inl rfl) (EX (Jv K (Wq 0))) (fun _ _ _ _ _=>(Ms (i:=0) (MB (N:=["key","own"]) rfl (by decide +kernel)) rfl (Or.inl rfl))) (fun _ _ _ _ _=>(Ah (JA (RO (K:=K) (Room.units hr) rfl) (Wq 0) (Wq 1)))) (fun _ _ _ _ _=>(Wq 0)) rfl)) (WB (JJ (JA (TJ TH) (Jv K (Wq 0)) WK) (WH (Jd (Mz K (N4 (SM (K:=K) rfl (Room.units hr) rfl) B.min (J7 (hs:=GB) (Di (N':=["key","self"]) (caps:=[none,some 0]) (MR (sc:=Wp EZ) (N:=["self","own","others"]) rfl rfl (by decide +kernel)) rfl (GE (K:=K) rfl (Wq 2)) (fun _ _ _ _ _=>(Ms (i:=0) (MB (N:=["key","self"]) rfl (by decide +kernel)) rfl (Or.inl rfl))) (fun _ _ _ _ _=>DC) (fun _ _ _ _ _=>(NO (NT (Jt hr (Jv K (Wq 1)) (Wq 0)) (Wx 0 Wu))))) Wu)) WE))) JV) (WH (Jd (Mz K (N4 (SM (K:=K) rfl (Room.units hr) rfl) B.min (J7 (hs:=GB) (Di (N':=["key","self"]) (caps:=[none,some 0]) (MR (sc:=Wp EZ) (N:=["self","own","others"]) rfl rfl (by decide +kernel)) rfl (GE (K:=K) rfl (Wq 2)) (fun _ _ _ _ _=>(Ms (i:=0) (MB (N:=["key","self"]) rfl (by decide +kernel)) rfl (Or.inl rfl))) (fun _ _ _ _ _=>DC) (fun _ _ _ _ _=>(NO (J7 (hs:=S8) (Pj QG (Mq (Jt hr (Jv K (Wq 1)) (Wq 0)) Jq hr.m)) (Wx 0 Wu))))) Wu)) WE)))))),?_⟩;refine WX fun N hN=>?_
  walk_at"rd";obtain⟨e,he,rfl⟩:=Y3.mp hown;have hsz:=dM u.nk he;refine⟨_,Kk L u,rfl,?_⟩
  by_cases ho:R.out="own"
  .rw[Y5 (by rw[ho];simp)];refine q t H (Ws.refl _) ?_;have:Mo R.out R.sp e.ky (Wt R.es)=e.ky:=by unfold Mo;rw[Y5 (.inl ho)]
   rw[this];exact ht
  rw[Y2 (by simpa using ho)];refine⟨_,RH L u,dr,rfl,_,.inr ⟨_,Ju e.ky,t,.inl u.dR,rfl,ht,(RP u.nk he).symm⟩,LX (u.rd e he),e.p,e.a,e.l,R.ru,e.rs,rfl,u.rd e he,_,Ke L u,_,rfl,R.sp,rfl,?_⟩
  by_cases hs:R.sp < (e.rs.st.length:Int)
  .rw[Y5 (Yd hs)];refine q t H (Ws.refl _) ?_;have:Mo R.out R.sp e.ky (Wt R.es)=e.ky:=by unfold Mo;rw[Y5 (.inr (by rw[hsz];exact hs))]
   rw[this];exact ht
  rw[Y2 (by simpa using hs)];refine hN _ _ ?_;clear hN N;have efa:Mo R.out R.sp e.ky (Wt R.es)=((Db (TV R.out e.ky (Wt R.es))).map (·.2)).getD e.ky:=by unfold Mo;rw[Y2 (by rw[hsz];exact fun z=>z.elim ho hs)]
  have hne:=hpr (by rw[hsz];omega);rw[efa]at q;refine WX fun N hN=>?_
  walk_at"rd";obtain⟨nm1,nm2,nm3,nme⟩:=u.ne;have hrl:(MM R.es).length=R.es.length:=Y1 ..;have hKe:=hok e he;obtain⟨Pv,ePv⟩:∃Pv:Nat->List V->L2.St->Prop,Pv=fun i ys σ'=>∃ (bs:List Addr) (v:Option V),ys=bs.map V.ref/\σ'=[v,some (.ref t)]/\Pw (fun b (x:RE)=>H b=some (.tup (NG x.ky))) bs ((R.es.take i).filter fun x=> !decide (x.ky=e.ky)):=⟨_,rfl⟩
  refine HB u.dR (fun Rr h=>by walk_at"rd";exact⟨_,RH L u,h⟩) Pv (by rw[ePv];exact⟨[],_,rfl,rfl,(.nil:Pw _ [] [])⟩) ?_ (by omega) ?_ ?_ <;> rw[ePv]
  .rintro i ys σ' ⟨bs,v,rfl,rfl,hw⟩;rw[Y1,hw.1];have:=Yz (fun x:RE=> !decide (x.ky=e.ky)) (R.es.take i);rw[Yt]at this;omega
  .rintro Hf o hfo hfd i b k v ys σ' hk hb ⟨bs,v0,rfl,rfl,hw⟩;rw[<-ePv];obtain⟨x,n,rfl,rfl⟩:=O7 hk;have hKx:=hok x (Yx n);have hb':Hf b=some (.tup (NG x.ky)):=by rw[hfo b (Wr hb u.dR nofun)];exact hb
   have ht':Hf t=some (.tup (NG e.ky)):=by rw[hfo t (Wr ht u.dR nofun)];exact ht
   walk_at"rd";refine⟨_,_,Do hb',Do ht',Bg _ hKx.2.2.1 hKx.2.2.2,Bg _ hKe.2.2.1 hKe.2.2.2,_,rfl,?_⟩;have ee:PyData.eqv (DA x.ky.1 x.ky.2.1 x.ky.2.2) (DA e.ky.1 e.ky.2.1 e.ky.2.2)=decide (x.ky=e.ky):=by
    rw[Zq,Yw,Yb,Yb];exact⟨fun h=>Ud h.1 (Ud h.2.1 h.2.2),fun h=>by rw[h];exact⟨rfl,rfl,rfl⟩⟩
   have etk:R.es.take (i+ 1)=R.es.take i++[x]:=by rw[YK,n];rfl
   rw[ee]
   by_cases hxe:x.ky=e.ky
   .rw[Y2 (by simpa using hxe),ePv];refine⟨⟨bs,_,rfl,rfl,?_⟩,rfl⟩;rw[etk,XC,U7 (by simpa using hxe),List.filter_nil,List.append_nil];exact hw
   .rw[Y5 (by simpa using hxe),ePv];refine⟨⟨bs++[b],_,by rw[Yf];rfl,rfl,?_⟩,rfl⟩;rw[etk,XC,U8 (by simpa using hxe),List.filter_nil];exact hw.snoc hb
  .rintro ys σ' ⟨bs,v,rfl,rfl,hw⟩ lo G1 hlo s1 e1;refine hN _ _ ?_;clear hN N;rw[hrl,YA (Y6 _)]at hw;obtain⟨d,eot⟩:∃d,d=R.es.filter fun x=> !decide (x.ky=e.ky):=⟨_,rfl⟩
   rw[<-eot]at hw;have hot:∀x∈d,x∈R.es:=fun x n=>by rw[eot]at n;exact(Ym.mp n).1
   have hotl:d.length <=R.es.length:=by rw[eot];exact Yz _ _
   have hR1:=u.mono s1;have eprs:TV R.out e.ky (Wt R.es)=d.map fun x=>(if R.out="oldest" then x.first else -(x.rs.st.length:Int),x.ky):=by
    unfold TV Wt;rw[Xd,Yo,eot];rfl
   have fin:∀ (G2:Hp) (ps:List Addr) (gs:Wl),Ws G1 G2->gs.length=d.length->(∀ (j:Nat) p b (x:RE) g,ps[j]?=some p->bs[j]?=some b->d[j]?=some x->gs[j]?=some g->G2 p=some (.tup [.int g,.ref b]))->ps.length=d.length->(d.zip gs).map (fun z=>(z.2,z.1.ky))=TV R.out e.ky (Wt R.es)->∀ (lp:Wk),G2 lp=some (.lst (ps.map V.ref))->
     ∃p,V.ref lp=V.ref p/\∃x,WA K G2 p x/\∃x_1:List (Int×Ky),x.length=x_1.length/\(∀ (i:Nat) (x_2:V) (q:Int×Ky),x[i]?=some x_2->x_1[i]?=some q->∃t,x_2=V.ref t/\∃x,Ja K G2 t [V.int q.1,V.ref x]/\Ja K G2 x (R3 q.2))/\x_1≠[]/\
      ∀ (i:Nat) (x_2:V) (q:Int×Ky),x[i]?=some x_2->x_1[i]?=some q->(∀q':Int×Ky,q'∈x_1->J5 q' q=false)->∃p,x_2=V.ref p/\∃x,Ja K G2 p x/\∃x_3,Mn x 1=some x_3/\Q x_3 G2:=fun G2 ps gs s2 hg hp c hz lp elp=>by
    have hpw:∀ (i:Nat) x q',(ps.map V.ref)[i]?=some x->(TV R.out e.ky (Wt R.es))[i]?=some q'->∃p b,x= .ref p/\G2 p=some (.tup [.int q'.1,.ref b])/\G2 b=some (.tup (NG q'.2)):=fun i x q' n hq'=>by
     rw[Y9]at n;obtain⟨p,hp',rfl⟩:=Yn.mp n;rw[<-hz,Y9]at hq';obtain⟨z,hz',rfl⟩:=Yn.mp hq';obtain⟨h1,h2⟩:=Uy.mp hz';have hil:=(Yq.mp h1).1;have hb':bs[i]?=some (bs[i]'(by rw[hw.1];exact hil)):=Y7 _;exact⟨p,_,rfl,hp i p _ z.1 z.2 hp' hb' h1 h2,s2 _ _ (s1 _ _ (hw.2 i _ z.1 hb' h1))⟩
    have hlc:(ps.map V.ref).length=(TV R.out e.ky (Wt R.es)).length:=by rw[Y1,<-hz,Y1,List.length_zip];omega
    refine⟨lp,rfl,_,WA.of elp,TV R.out e.ky (Wt R.es),hlc,fun i x q' n hq'=>?_,hne,fun i x q' n hq' hmin=>?_⟩
    .obtain⟨p,b,h1,h2,r⟩:=hpw i x q' n hq';exact⟨p,h1,b,Ja.of h2,Ja.of r⟩
    .obtain⟨p,b,h1,h2,r⟩:=hpw i x q' n hq';refine⟨p,h1,_,Ja.of h2,_,rfl,q b G2 (s1.trans s2) ?_⟩;rw[Q2 (Yx hq') hmin];exact r
   have tw:∀ (g:RE->Int),(∀x∈d,(if R.out="oldest" then x.first else -(x.rs.st.length:Int))=g x)->(d.zip (d.map g)).map (fun z=>(z.2,z.1.ky))=TV R.out e.ky (Wt R.es):=fun g hg=>by
    rw[eprs];apply List.ext_getElem?;intro j;rw[Y9,Y9];cases hj:d[j]? with
    |none=>
     have:(d.zip (d.map g))[j]?=none:=by
      rw[XX]at hj ⊢;rw[List.length_zip,Y1];omega
     rw[this];rfl
    |some x=>
     have:(d.zip (d.map g))[j]?=some (x,g x):=Uy.mpr ⟨hj,by rw[Y9,hj];rfl⟩;rw[this];show some (g x,x.ky)=some (_,x.ky);rw[hg x (Yx hj)]
   refine WX fun N hN=>?_
   walk_at"rd";refine⟨_,Kk L hR1,rfl,?_⟩
   by_cases hod:R.out="oldest"
   .rw[Y5 (by rw[hod];simp)];refine⟨⟨_,WA.of e1⟩,?_⟩;obtain⟨Pc,ePc⟩:∃Pc:Nat->List V->L2.St->Hp->Prop,Pc=fun j ys σ' G'=>∃ (v:Option V) (ps:List Addr),ys=ps.map V.ref/\ps.length=j/\σ'=[v,some (.ref m)]/\Ws G1 G'/\∀ (i:Nat) p b (x:RE),ps[i]?=some p->bs[i]?=some b->d[i]?=some x->G' p=some (.tup [.int x.first,.ref b]):=⟨_,rfl⟩
    refine AX (xs:=bs.map V.ref) Pc (by rw[ePc];exact⟨_,[],rfl,rfl,rfl,Ws.refl _,(fun i p b x h=>by cases h)⟩) ?_ (Jc (by rw[Y1,hw.1];omega)) ?_ ?_ <;> rw[ePc]
    .rintro j ys σ' G' ⟨v,ps,rfl,c,rfl,sG,_⟩ _;exact⟨WA.of (sG _ _ e1),by rw[Y1];omega⟩
    .rintro j y ys σ' G' hy ⟨v,ps,rfl,c,rfl,sG,hp⟩;rw[<-ePc];rw[Y9]at hy;obtain⟨b,hb,rfl⟩:=Yn.mp hy;obtain⟨x,n,hbx⟩:=hw.get hb;have hxm:=hot x (Yx n);have hRG:=hR1.mono sG;walk_at"rd";refine⟨_,BL L hRG,df,rfl,_,.inr ⟨_,Ju x.ky,b,.inl hRG.dF,rfl,sG _ _ (s1 _ _ hbx),(Ei u.nk hxm).symm⟩,Jc (by simp),fun p3 G3 hp3 s3 e3=>?_⟩;rw[ePc];refine⟨_,ps++[p3],by rw[Yf];rfl,by simp[c],rfl,sG.trans s3,fun i p b' x' h1 h2 r=>?_⟩
     by_cases hij:i < j
     .rw[Ux (by omega)]at h1;exact s3 _ _ (hp i p b' x' h1 h2 r)
     .have hij':i=j:=by have:=(Yq.mp h1).1;simp at this;omega
      subst hij';rw[Uu (by omega),c,Nat.sub_self]at h1;rw[hb]at h2;rw[n]at r;cases h1;cases h2;cases r;exact e3
    .rintro ys σ' G' ⟨v, ps, rfl, c, rfl, sG, hp⟩ lp G2 hlp s2 e2;rw [Y1, hw.1] at c;exact fin G2 ps (d.map fun x => x.first) (sG.trans s2) (Y1 ..) (fun j p b x g h1 h2 r h4 => by
      rw [Y9, r] at h4;cases h4;exact s2 _ _ (hp j p b x h1 h2 r)) c (tw _ fun x _ => Y5 hod) lp e2
   .rw[Y2 (by simpa using hod)];refine hN _ _ ?_;clear hN N;walk_at"rd";refine⟨⟨_,WA.of e1⟩,?_⟩;obtain⟨Pc,ePc⟩:∃Pc:Nat->List V->L2.St->Hp->Prop,Pc=fun j ys σ' G'=>∃ (v:Option V) (ps:List Addr),ys=ps.map V.ref/\ps.length=j/\σ'=[v,some (.ref m)]/\Ws G1 G'/\∀ (i:Nat) p b (x:RE),ps[i]?=some p->bs[i]?=some b->d[i]?=some x->G' p=some (.tup [.int (-(x.rs.st.length:Int)),.ref b]):=⟨_,rfl⟩
    refine AX (xs:=bs.map V.ref) Pc (by rw[ePc];exact⟨_,[],rfl,rfl,rfl,Ws.refl _,(fun i p b x h=>by cases h)⟩) ?_ (Jc (by rw[Y1,hw.1];omega)) ?_ ?_ <;> rw[ePc]
    .rintro j ys σ' G' ⟨v,ps,rfl,c,rfl,sG,_⟩ _;exact⟨WA.of (sG _ _ e1),by rw[Y1];omega⟩
    .rintro j y ys σ' G' hy ⟨v,ps,rfl,c,rfl,sG,hp⟩;rw[<-ePc];rw[Y9]at hy;obtain⟨b,hb,rfl⟩:=Yn.mp hy;obtain⟨x,n,hbx⟩:=hw.get hb;have hxm:=hot x (Yx n);have hRG:=hR1.mono sG;walk_at"rd";refine⟨_,RH L hRG,dr,rfl,_,.inr ⟨_,Ju x.ky,b,.inl hRG.dR,rfl,sG _ _ (s1 _ _ hbx),(RP u.nk hxm).symm⟩,LX (hRG.rd x hxm),x.p,x.a,x.l,R.ru,x.rs,rfl,hRG.rd x hxm,_,rfl,Jc (by simp),fun p3 G3 hp3 s3 e3=>?_⟩;rw[ePc];refine⟨_,ps++[p3],by rw[Yf];rfl,by simp[c],rfl,sG.trans s3,fun i p b' x' h1 h2 r=>?_⟩
     by_cases hij:i < j
     .rw[Ux (by omega)]at h1;exact s3 _ _ (hp i p b' x' h1 h2 r)
     .have hij':i=j:=by have:=(Yq.mp h1).1;simp at this;omega
      subst hij';rw[Uu (by omega),c,Nat.sub_self]at h1;rw[hb]at h2;rw[n]at r;cases h1;cases h2;cases r;exact e3
    .rintro ys σ' G' ⟨v, ps, rfl, c, rfl, sG, hp⟩ lp G2 hlp s2 e2;rw [Y1, hw.1] at c;exact fin G2 ps (d.map fun x => -(x.rs.st.length : Int)) (sG.trans s2) (Y1 ..) (fun j p b x g h1 h2 r h4 => by
      rw [Y9, r] at h4;cases h4;exact s2 _ _ (hp j p b x h1 h2 r)) c (tw _ fun x _ => Y2 hod) lp e2
end
theorem Et{xs ys:List AE}(h:xs.Sublist ys):Nk xs <=Nk ys:=by
 induction h with
 |slnil=>exact YZ _
 |cons a _ ih=>unfold Nk at ih ⊢;rw[List.map_cons,Ua];omega
 |cons_cons a _ ih=>unfold Nk at ih ⊢;rw[List.map_cons,List.map_cons,Ua,Ua];omega
theorem uP(es:List RE):MZ es=Nk (Wt es):=by
 unfold MZ Nk Wt;rw[Yo];rfl
theorem yY{es:List RE}{k:Ky}(hk:(es.map (·.ky)).Nodup)(h:k∈es.map (·.ky)):(JS es k).length+ 1=es.length:=by
 induction es with
 |nil=>exact nomatch h
 |cons x r ih=>
  unfold JS at ih ⊢;rw[List.map_cons]at h hk;obtain⟨h1,h2⟩:=YE.mp hk
  by_cases hx:x.ky=k
  .rw[U7 (by simpa using hx),List.length_cons];have:r.filter (fun e=> !decide (e.ky=k))=r:=Xl.mpr fun e a=>by
    simp only[Xv,X6];exact fun z=>h1 (Y3.mpr ⟨e,a,by rw[z,hx]⟩)
   rw[this]
  .rw[U8 (by simpa using hx),List.length_cons,List.length_cons,ih h2 ((Yl.mp h).resolve_left fun z=>hx z.symm)]
theorem FU{out:Str}{sp:Int}{own:Ky}{xs:List AE}(ho:own∈xs.map (·.1))(h:D1 xs own <=sp->TV out own xs≠[]):Mo out sp own xs∈xs.map (·.1):=by
 unfold Mo
 split
 .exact ho
 .rename_i hn
  have c:=h (by have:=fun z=>hn (.inr z);omega);cases hp:TV out own xs with
  |nil=>exact absurd hp c
  |cons x r=>
   obtain⟨h1,_⟩:=BO r x;have h2:(r.foldl (fun a b=>if J5 b a=true then b else a) x)∈TV out own xs:=by rw[hp];exact h1
   obtain⟨y,d,e⟩:=Y3.mp h2;show(r.foldl (fun a b=>if J5 b a=true then b else a) x).2∈_;rw[<-e];exact Y3.mpr ⟨y,(Ym.mp d).1,rfl⟩
section
variable{P:Wc}{w:Wh}{K:Wi}{mg:W8}{base:Wn}
def Ao(R:JM)(own:Ky):List AE×List Ky:=WL R.out R.sp own (R.es.length+ 1) (Wt R.es)
inductive KN(C CR:Wk)(vs:List V)(H:Hp)(Q:VK)(E:XK):Prop|mk (m dr df dw t:Wk) (R:JM) (own:Ky) (_:vs=[.ref m,.ref t]) (_:Ww C CR H m dr df dw R) (_:H t=some (.tup (NG own))) (_:own∈R.es.map (·.ky)) (_:R.es.length <=1000) (_:(∀e∈R.es,e.rs.st.length <=100000)) (_:(∀e∈R.es,Na e.ky)) (_:Nk (WP (Wt R.es) own) <=R.sp) (_:∀es' l G,Wt es'=(Ao R own).1->(∀x∈es',x∈R.es)->H l=none->(∀c o,H c=some o->c≠dr->c≠df->G c=some o)->Ww C CR G m dr df dw {R with es:=es'}->NP G l (Ao R own).2 "room"->Q (.ref l) G)
abbrev Kv:Stmt:=To (top 44) 14
theorem Ib:Jx ["self","own","events","key"] ["self","own"] (Wp Kv):=by walk_at"e"
theorem yM{f C CR:Wk}{fd:Wf}(F:JE K "make_space" "Room.make_space" Kv f fd)(L:M8 K C)(J8:Nv P w K mg base C "bytes_kept" 2 ["self"] [] (AB C CR))(Jo:Nv P w K mg base C "let_go" 1 ["self","key"] [] (BA C CR))(Nf:Nv P w K mg base C "first_out" 3 ["self","own"] [] (O0 C CR)):Wz P w K mg base Jf 4 f fd ["self","own"] (KN C CR):=by
 refine F.ok Ib (fun vs H Q E h=>?_) (fun cdv A outer s H vs Q E hr h=>?_)
 .obtain⟨m,dr,df,dw,t,R,own,rfl,_⟩:=h;rfl
 .obtain⟨m,dr,df,dw,t,R,own,rfl,hR,ht,hown,hl,hb,hok,hot,q⟩:=h;refine⟨_,(WB (JP 2 Ib (Te Wu)) (WB (Cy YT (JA (Jy Gu) (Mq (Wq 0) J8 hr.m) (Jv K (Wq 0))) (WB (JP 3 Ib (MK (Wq 0) Nf hr.m (Wx 1 Wu))) (WB (Ta (MK (Wq 0) Jo hr.m (Wx 3 Wu))) (WH (Ta (Md (K:=K) rfl Yr Yu Yv (Dc Da) (Wq 2) (J7 (hs:=Mh) (NO (NI WK (Wx 3 (NI WK Wu)))) Wu))))))) (WH (Jd (Wq 2))))),?_⟩;refine WX fun N hN=>?_
  walk_at"rd";refine⟨Jc (by simp),fun p G hp s1 e1=>hN _ _ ?_⟩;clear hN N;refine WX fun N hN=>?_
  obtain⟨Wd,eW⟩:∃Wd:Nat->L2.St->Hp->Prop,Wd=fun mm σ' G'=>∃ (v:Option V) (es:List RE) (gs:List Ky),σ'=[some (.ref m),some (.ref t),some (.ref p),v]/\mm=es.length/\(∀x∈es,x∈R.es)/\es.Sublist R.es/\gs.length+ es.length=R.es.length/\(Ao R own=((WL R.out R.sp own (es.length+ 1) (Wt es)).1,gs++(WL R.out R.sp own (es.length+ 1) (Wt es)).2))/\(own∈es.map (·.ky)\/Nk (Wt es) <=R.sp)/\
    (∀c o,H c=some o->c≠dr->c≠df->G' c=some o)/\Ww C CR G' m dr df dw {R with es:=es}/\NP G' p gs "room":=⟨_,rfl⟩
  have hw0:∀c o,H c=some o->c≠dr->c≠df->G c=some o:=fun c o h _ _=>s1 _ _ h
  refine⟨Wd,⟨R.es.length,?_⟩,?_⟩ <;> rw[eW]
  .exact⟨_,R.es,[],rfl,rfl,fun x hx=>hx,List.Sublist.refl _,by simp,rfl,.inl hown,hw0,hR.mono s1,[],rfl,e1,fun i t k h=>by simp at h⟩
  rintro mm σ' G' ⟨v,es,gs,rfl,rfl,n,hsl,hgl,hsp,hor,kp,aa,hE⟩;rw[<-eW];have hel:es.length <=R.es.length:=hsl.length_le;walk_at"rd";refine⟨aa.mt rfl,m,dr,df,dw,_,rfl,aa,by show es.length <=1000;omega,fun e he=>hb e (n e he),fun G2 s2=>?_⟩;have ab:=aa.mono s2;have etot:MZ es=Nk (Wt es):=uP es;refine⟨_,Ke L ab,_,rfl,_,rfl,?_⟩
  by_cases hts:R.sp < Nk (Wt es)
  .rw[Y5 (by show decide (R.sp < MZ es)=true;rw[etot];exact Yd hts)];have hin:own∈es.map (·.ky):=hor.resolve_right (by omega);have hink:own∈(Wt es).map (·.1):=by rw[E9];exact hin
   have hnk:((Wt es).map (·.1)).Nodup:=by rw[E9];exact aa.nk
   have hpn:D1 (Wt es) own <=R.sp->TV R.out own (Wt es)≠[]:=fun hs=>La hnk hts hs
   have hfm:=FU (out:=R.out) (sp:=R.sp) hink hpn;rw[E9]at hfm;obtain⟨d,ekk⟩:∃d,d=Mo R.out R.sp own (Wt es):=⟨_,rfl⟩;rw[<-ekk]at hfm;have ht2:G2 t=some (.tup (NG own)):=s2 _ _ (kp t _ ht (Wr ht hR.dR nofun) (Wr ht hR.dF nofun));have hlen:=yY aa.nk hfm;have hlen:(JS es d).length+ 1=es.length:=hlen;refine⟨Wd (es.length - 1),fun σ'' H'' h=>⟨es.length - 1,by omega,h⟩,?_⟩;refine⟨ab.mt rfl,m,dr,df,dw,t,_,own,rfl,ab,ht2,hin,by show es.length <=1000;omega,fun e he=>hok e (n e he),hpn,fun t' G3 s3 e3=>?_⟩;have r:=ab.mono s3;have e3':G3 t'=some (.tup (NG d)):=by rw[ekk];exact e3
   refine⟨r.mt rfl,m,dr,df,dw,t',_,d,rfl,r,e3',hfm,fun G4 k4 hR4=>?_⟩;obtain⟨ts,h1,h2,h3⟩:=hE;have s23:=s2.trans s3;have hp3:=s23 _ _ h2;have hp4:=k4 p _ hp3 (Wr hp3 r.dR nofun) (Wr hp3 r.dF nofun);have t4:∀{c:Wk} {xs:List V},G3 c=some (.tup xs)->G4 c=some (.tup xs):=fun {c xs} h=>k4 c _ h (Wr h r.dR nofun) (Wr h r.dF nofun)
   have htl:ts.length <=1000:=by rw[h1];omega
   refine⟨.inl ⟨rfl,_,WA.of hp4⟩,Jc (by simp),fun p5 G5 hp5 u e5=>⟨_,u _ _ hp4,Ya (by rw[Y1];exact htl) (by rw[YV];decide),fun G6 b6 e6=>?_⟩⟩;have t6:∀{c:Wk} {xs:List V},G5 c=some (.tup xs)->G6 c=some (.tup xs):=fun {c xs} h=>b6 c _ h (Wr h (u _ _ hp4) nofun)
   have hsub':∀x∈JS es d,x∈es:=fun x hx=>(Ym.mp hx).1
   rw[eW];refine⟨_,JS es d,gs++[d],rfl,by omega,fun x hx=>n x (hsub' x hx),List.Sublist.trans YI hsl,by rw[Ys,Ui];omega,?_,?_,fun c o h n1 n2=>b6 c o (u _ _ (k4 c o (s23 _ _ (kp c o h n1 n2)) n1 n2)) (N0 h hp),(hR4.mono u).butL b6 (u _ _ hp4) (fun e he=>?_),?_⟩
   .rw[hsp];have est:WL R.out R.sp own (es.length+ 1) (Wt es)=((WL R.out R.sp own es.length (WP (Wt es) d)).1,d::(WL R.out R.sp own es.length (WP (Wt es) d)).2):=by
     show(if Nk (Wt es) <=R.sp then _ else _)=_;rw[Y2 (by omega),<-ekk]
    rw[est,hlen,QM,Uf];rfl
   .by_cases hko:d=own
    .right
     rw[QM,hko];refine Uq (Et ?_) hot;unfold WP Wt;exact(hsl.map _).filter _
    .left
     obtain⟨e,he,hek⟩:=Y3.mp hin;exact Y3.mpr ⟨e,Ym.mpr ⟨he,by simp only[Xv,X6];exact fun z=>hko (z.symm.trans hek)⟩,hek⟩
   .obtain⟨ys',hy,_⟩:=(hR.rd e (n e (hsub' e he))).cv;exact N0 hy hp
   .have hw:Pw (fun(t:Addr×Addr) (k:Ky)=>G6 t.1=some (.tup [.str "gone",.ref t.2,.str "room"])/\G6 t.2=some (.tup (NG k))) ts gs:=⟨h1,fun j x y a b=>⟨t6 (u _ _ (t4 (s23 _ _ (h3 j x y a b).1))),t6 (u _ _ (t4 (s23 _ _ (h3 j x y a b).2)))⟩⟩;have hw2:=hw.snoc (x:=(p5,t')) (y:=d) ⟨t6 e5,t6 (u _ _ (t4 e3'))⟩;exact⟨ts++[(p5,t')],hw2.1,by rw[e6,Yf];rfl,hw2.2⟩
  .rw[Y2 (by show ¬decide (R.sp < MZ es)=true;rw[etot];simpa using hts)];refine hN _ _ ?_;walk_at"rd";have hend:WL R.out R.sp own (es.length+ 1) (Wt es)=(Wt es,[]):=by
    show(if Nk (Wt es) <=R.sp then _ else _)=_;rw[Y5 (by omega)]
   rw[hend]at hsp;refine q es p G2 (by rw[hsp]) n hp (fun c o h n1 n2=>s2 _ _ (kp c o h n1 n2)) ab ?_
   .rw[hsp,List.append_nil];obtain⟨ts,h1,h2,h3⟩:=hE;exact⟨ts,h1,s2 _ _ h2,fun i t' k a b=>⟨s2 _ _ (h3 i t' k a b).1,s2 _ _ (h3 i t' k a b).2⟩⟩
inductive Pg(C:Wk)(vs:List V)(H:Hp)(Q:VK)(E:XK):Prop|mk (d:LD) (b:Wk) (_:vs=[.int d.nu,.str d.z1,.str d.z2,.ref b]) (_:d.k=false) (_:d.Ok) (_:H b=some (.lst (d.ns.map V.int))) (_:∀p b' G,H p=none->H b'=none->Ws H G->Tf C G p b' d->Q (.ref p) G)
theorem xN{C:Wk}(F:Gv P w K mg base "Letter" C 6 ["self","number","sender","goal","body","keep"] [.bl false] (Am C)):Gw P w K mg base "Letter" 6 (Pg C):=by
 refine F.ct fun vs H Q h y dx G c x z s p=>?_
 obtain⟨d,b,rfl,f,ok,i,q⟩:=h;obtain⟨a,j⟩:=PJ (k:=d.k) ok.n0 ok.n1 ok.k1 ok.k2 (s b _ i) ok.l1 ok.l2 ok.by'
 rw[f]at a j;exact⟨y,dx,_,_,_,b,_,_,rfl,p,a,j,s b _ i,fun H' v r h1 h2 n u=>⟨rfl,q y v H' c (s.free r) (fun d o e=>u d o (s d o e) (N0 e c)) ⟨ok,by rw[f];exact n,h2⟩⟩⟩
end
theorem xI{t u v:TS}{D:L2.Tl}{σ:L2.St}{H:Hp}(h:∀N:L2.St->Hp->Prop,(∀σ' H',v D σ' H'->N σ' H')->Dz t u {D with nx:=N} σ H):Dz t (Dz u v) D σ H:=h (v D) fun _ _ x=>x
structure NV(rs:RS):Prop where
 iv:NK rs
 by':∀n x,Jz rs.st n=some x->0 <=x/\x <=255
 e1:∀e,rs.en=some e->1 <=e
theorem NV.zero:NV Dd:=⟨NK.zero,fun n x h=>(by cases h),fun e h=>(by cases h)⟩
theorem NV.step{rs:RS}{d:PD}(la:Bool)(h:NV rs)(hd:d.Ok):NV (JB la rs d):=by
 refine⟨h.iv.step la hd,?_,fun e a=>?_⟩
 .refine Sj (P:=fun _ x=>0 <=x/\x <=255) la d.ns rs.st d.at' h.by' fun i x b=>hd.by' x (Yx b)
 .have a:(if d.mo=true then rs.en else some (d.at'+ d.ns.length))=some e:=a;obtain⟨j,f,c⟩:=hd.end'
  split at a
  .exact h.e1 e a
  .have:=Option.some.inj a;omega
theorem NV.body{rs:RS}(h:NV rs)(hl:T0 rs.en 0 rs.cv=[]):1 <=(JU rs).length/\(JU rs).length <=4000/\∀x∈JU rs,0 <=x/\x <=255:=by
 obtain⟨e,c,f,d,b⟩:=h.iv.body hl;have:=h.e1 e c;refine⟨by omega,by omega,fun x a=>?_⟩;obtain⟨i,hi,rfl⟩:=XF.mp a;exact h.by' i _ (b i _ (Y7 hi))
theorem FW{es:List RE}{now:Int}(hk:(es.map (·.ky)).Nodup){e:RE}(he:e∈es):J6 (Wt es) e.ky e.rs now=Wt es:=by
 unfold J6;rw[Y5 (by rw[IN];exact Y3.mpr ⟨e,he,rfl⟩)];unfold Wt;rw[Yo];apply YO;intro x a;simp only[Function.comp]
 by_cases h:x.ky=e.ky
 .have:x=e:=XD fun ne=>EW hk a he ne h
  subst this;rw[Y5 rfl]
 .rw[Y2 h]
theorem Pd{ru:Str}{rs:RS}{d:PD}(hs:strange rs d=false)(hu:ru="refuse"->Nm rs.st d.at' d.ns=none):Jb ru rs d=if T0 (JB (decide (ru="last")) rs d).en 0 (JB (decide (ru="last")) rs d).cv=[] then .whole (JB (decide (ru="last")) rs d) else .keep (JB (decide (ru="last")) rs d):=by
 have a:(if ru="refuse" then Nm rs.st d.at' d.ns else none)=none:=by
  split
  .rename_i h;exact hu h
  .rfl
 unfold Jb;rw[Y2 (by rw[hs];simp),a]
theorem Qb(xs:List AE)(k:Int×Str×Str)(rs:RS)(now:Int):(J6 xs k rs now).length <=xs.length+ 1:=by
 unfold J6
 split
 .rw[Y1];omega
 .rw[Ys];exact Y6 _
theorem SH{xs:List AE}{k:Int×Str×Str}{rs:RS}{now:Int}{y:AE}(h:y∈J6 xs k rs now):y∈xs\/y.2.1=rs:=by
 unfold J6 at h
 split at h
 .obtain⟨x,a,rfl⟩:=Y3.mp h
  split
  .exact .inr rfl
  .exact .inl a
 .rcases YB.mp h with z|z
  .exact .inl z
  .rw[Yg.mp z];exact .inr rfl
theorem Q0(es:List RE):Nk (Wt es)=MZ es:=by unfold Nk MZ Wt;rw[Yo];rfl
def Mj(ws:List ((Int×Str×Str)×Int))(k:Int×Str×Str)(t:Int):List ((Int×Str×Str)×Int):=if k∈ws.map (·.1) then ws.map (fun x=>if x.1=k then(k,t) else x) else ws++[(k,t)]
theorem Oq(ws:List ((Int×Str×Str)×Int))(k:Int×Str×Str)(t:Int):TC (Ds ws) (Ju k) (.int t)=Ds (Mj ws k t):=by
 have e:((Ds ws).any fun b=>decide (b.1=Ju k))=decide (k∈ws.map (·.1)):=by
  unfold Ds;rw[W5,Yw,Yb,List.any_eq_true];constructor
  .rintro⟨x,a,h⟩;exact Y3.mpr ⟨x,a,DR (X5 h)⟩
  .intro h;obtain⟨x,a,rfl⟩:=Y3.mp h;exact⟨x,a,Yd rfl⟩
 unfold TC Mj;rw[e]
 by_cases h:k∈ws.map (·.1)
 .rw[Y5 (Yd h),Y5 h];unfold Ds;rw[Yo,Yo];apply YO;intro x _;simp only[Function.comp]
  by_cases a:x.1=k
  .rw[Y5 a,Y5 (by rw[a]),a]
  .rw[Y2 a,Y2 (fun z=>a (DR z))]
 .rw[Y2 (by simpa using h),Y2 h];unfold Ds;rw[Yf];rfl
inductive Ev where
 |gone (k:Ky) (w:Str)
 |late (k:Ky)
 |strange (k:Ky)
 |whole (d:LD)
def GX(CL:Wk)(G:Hp)(v:V):Ev->Prop
 | .gone k w=>∃t tk,v= .ref t/\G t=some (.tup [.str "gone",.ref tk,.str w])/\G tk=some (.tup (NG k))
 | .late k=>∃t tk,v= .ref t/\G t=some (.tup [.str "late",.ref tk])/\G tk=some (.tup (NG k))
 | .strange k=>∃t tk,v= .ref t/\G t=some (.tup [.str "strange",.ref tk])/\G tk=some (.tup (NG k))
 | .whole d=>∃t pl bl,v= .ref t/\G t=some (.tup [.str "whole",.ref pl])/\Tf CL G pl bl d
def F8(CL:Wk)(G:Hp)(l:Wk)(evs:List Ev):Prop:=∃xs,G l=some (.lst xs)/\Pw (GX CL G) xs evs
def EU(CL:Wk)(H G:Hp)(v:V):Ev->Prop
 | .whole d=>∃t pl bl,v= .ref t/\G t=some (.tup [.str "whole",.ref pl])/\Tf CL G pl bl d/\∀ys,H bl≠some (.lst ys)
 | .gone k w=>GX CL G v (.gone k w)
 | .late k=>GX CL G v (.late k)
 | .strange k=>GX CL G v (.strange k)
theorem EU.o{CL:Wk}{H G:Hp}{v:V}{ev:Ev}(h:EU CL H G v ev):GX CL G v ev:=by
 cases ev with
 |whole d=>obtain⟨t,a,c,h1,h2,b,_⟩:=h;exact⟨t,a,c,h1,h2,b⟩
 |gone k w=>exact h
 |late k=>exact h
 |strange k=>exact h
def GS(CL:Wk)(H G:Hp)(l:Wk)(evs:List Ev):Prop:=∃xs,G l=some (.lst xs)/\Pw (EU CL H G) xs evs
def DT(R:JM)(own:Ky)(xs:List AE):List AE×List Ky:=WL R.out R.sp own (xs.length+ 1) xs
theorem NP.evsR{CL:Wk}{H G:Hp}{l:Wk}{ks:List Ky}(h:NP G l ks "room"):GS CL H G l (ks.map fun k=>.gone k "room"):=by
 obtain⟨n,h1,h2,i⟩:=h;refine⟨_,h2,by rw[Y1,Y1,h1],fun j x y a b=>?_⟩;rw[Y9]at a b;obtain⟨t,e,rfl⟩:=Yn.mp a;obtain⟨k,f,rfl⟩:=Yn.mp b;obtain⟨d,c⟩:=i j t k e f;exact⟨t.1,t.2,rfl,d,c⟩
theorem Ww.lstN{C CR m dr df dw c:Wk}{H:Hp}{R:JM}{xs:List V}(h:Ww C CR H m dr df dw R)(hc:H c=some (.lst xs)):¬Rg R m dr df dw c:=fun z=>by
 obtain⟨dx,fs,b,_⟩:=h.ex;rcases z with z|z|z|z|⟨e,he,z⟩
 .exact Wr hc b nofun z
 .exact Wr hc h.dR nofun z
 .exact Wr hc h.dF nofun z
 .exact Wr hc h.dW nofun z
 .have r:=h.rd e he;obtain⟨_,_,a,_⟩:=r.ex;rcases z with z|z
  .exact Wr hc a nofun z
  .exact Wr hc r.dk nofun z
def JD(R:JM)(d:PD):List AE×List ((Int×Str×Str)×Int)×List Ev:=
 if Bh R d.key=true then(Wt R.es,R.ws,[.late d.key]) else
 match Jb R.ru (Np R.es d.key) d with
 | .str=>(J6 (Wt R.es) d.key (Np R.es d.key) R.now,R.ws,[.strange d.key])
 | .unl _=>(WP (Wt R.es) d.key,R.ws,[.gone d.key "unlike"])
 | .keep rs=>((DT R d.key (J6 (Wt R.es) d.key rs R.now)).1,R.ws,(DT R d.key (J6 (Wt R.es) d.key rs R.now)).2.map fun k=>.gone k "room")
 | .whole rs=>(WP (Wt R.es) d.key,Mj R.ws d.key R.now,[.whole ⟨d.nu,d.z1,d.z2,JU rs,false⟩])
section
variable{P:Wc}{w:Wh}{K:Wi}{mg:W8}{base:Wn}
inductive IH(C CR CP CL:Wk)(vs:List V)(H:Hp)(Q:VK)(E:XK):Prop|mk (m dr df dw q b:Wk) (R:JM) (d:PD) (_:vs=[.ref m,.ref q]) (_:Ww C CR H m dr df dw R) (_:JN CP H q b d) (_:R.es.length <=900) (_:R.ws.length <=1000) (_:(∀e∈R.es,e.rs.st.length <=10000/\e.rs.cv.length <=800/\NV e.rs)) (_:Nk (WP (Wt R.es) d.key) <=R.sp) (_:(∀e∈R.es,Na e.ky)) (_:∀R' l G,TW C CR H G m dr df dw R R' (JD R d).1 (JD R d).2.1->GS CL H G l (JD R d).2.2->Q (.ref l) G)
abbrev FJ:Stmt:=To (top 44) 13
theorem Fm:Jx ["self","piece","key","reading","answer"] ["self","piece"] (Wp FJ):=by walk_at"e"
theorem gO{f C CR CP CW CU CL:Wk}{fd:Wf}(F:JE K "take_in" "Room.take_in" FJ f fd)(L:M8 K C)(LW:EO K CW "body")(icW:Ez K CW)(icU:Ez K CU)(LU:EO K CU "at")(ww:W.kitOne K (.ref CW) (.ref CW)=some true)(uw:W.kitOne K (.ref CU) (.ref CW)=some false)(B:Bt mg)(gC_Whole:mg "Whole"=some (.ref CW))
  (T7:Nv P w K mg base CP "key" 1 ["self"] [] (SW CP)) (JZ:Nv P w K mg base C "is_resting" 1 ["self","key"] [] (Ht C CR)) (DX:Gw P w K mg base "Reading" 1 (Qg CR)) (WZ:Nv P w K mg base CR "is_strange" 2 ["self","piece"] [] (Fh CR CP)) (JK:Nv P w K mg base CR "answer_to" 3 ["self","piece"] [] (LC CR CP CW CU))
  (JY:Nv P w K mg base C "make_space" 4 ["self","own"] [] (KN C CR)) (Jo:Nv P w K mg base C "let_go" 1 ["self","key"] [] (BA C CR)) (D8:Gw P w K mg base "Letter" 6 (Pg CL)):Wz P w K mg base Jf 8 f fd ["self","piece"] (IH C CR CP CL):=by
 refine F.ok Fm (fun vs H Q E h=>?_) (fun cdv A outer s H vs Q E hr h=>?_)
 .obtain⟨m,dr,df,dw,q,b,R,d,rfl,_⟩:=h;rfl
 .obtain⟨m,dr,df,dw,q,b,R,d,rfl,hR,hP,hel,hwl,hes,htot,hkok,q0⟩:=h;refine⟨_,(WB (JP 2 Fm (Mq (Wq 1) T7 hr.m)) (WB (JJ (Tx (MK (Wq 0) JZ hr.m (Wx 2 Wu))) (WH (Jd (Te (J7 (hs:=Mh) (NO (NI WK (Wx 2 Wu))) Wu)))) JV) (WB (JP 3 Fm (Md (K:=K) rfl YJ Um Vm (Om (TZ hr)) (Jv K (Wq 0)) (Wx 2 (MG (B0 DX hr.m rfl (TF (Jv K (Wq 0)) Wu)) Wu)))) (WB (Ta (Md (K:=K) rfl YJ Um Vm (Om (TZ hr)) (Jv K (Wq 0)) (Wx 2 (TF (Jv K (Wq 0)) Wu)))) (WB (JJ (PW.pt (D3 (JA (RC Rz) (Jv K (Wq 0)) WK) (DD (Tx (MK (Wq 3) WZ hr.m (Wx 1 Wu)))))) (WH (Jd (Te (J7 (hs:=Mh) (NO (NI WK (Wx 2 Wu))) Wu)))) JV) (WB (JP 4 Fm (MK (Wq 3) JK hr.m (Wx 1 Wu))) (WB (JJ (JA A2 (Wq 4) Mf) (WH (Jd (MK (Wq 0) JY hr.m (Wx 2 Wu)))) JV) (WB (Ta (MK (Wq 0) Jo hr.m (Wx 2 Wu))) (WB (JJ (Tx (N4 (QH (K:=K) rfl) B.isinstance (Wx 4 (J7 (hs:=Dl) (Eb (v:=.ref CW) rfl gC_Whole rfl) Wu)))) (WB (Ck (TZ hr) (Jv K (Wq 0)) (Wq 2) (Jv K (Wq 0)) rfl) (WH (Jd (Te (J7 (hs:=Mh) (NO (NI WK (MG (B0 D8 hr.m rfl (NT (Mz K (Wq 2) WE) (NT (Mz K (Wq 2) WE) (NT (Mz K (Wq 2) WE) (TF (Jv K (Wq 4)) Wu))))) Wu))) Wu))))) JV) (WH (Jd (Te (J7 (hs:=Mh) (NO (NI WK (Wx 2 (NI WK Wu)))) Wu))))))))))))),?_⟩;refine WX fun N hN=>?_
  walk_at"rd";refine⟨mQ hP,q,b,d,rfl,hP,fun tk G1 htk s1 e1=>hN _ _ ?_⟩;clear hN N;have hR1:=hR.mono s1;have hP1:=hP.mono s1;refine WX fun N hN=>?_
  walk_at"rd";refine⟨hR1.mt rfl,m,dr,df,dw,tk,R,d.key,rfl,hR1,e1,_,rfl,?_⟩
  by_cases hrs:Bh R d.key=true
  .rw[Y5 hrs];refine⟨Jc (by simp),fun t G2 ht s2 e2=>⟨Jc (by simp),fun l G3 hl s3 e3=>?_⟩⟩;have s123:=s1.trans (s2.trans s3);unfold JD at q0;rw[Y5 hrs]at q0;refine q0 R l G3 ⟨fun c o h _=>s123 c o h,hR.mono s123,rfl,rfl,⟨rfl,rfl,rfl,rfl,rfl,rfl⟩,fun e he=>.inl ⟨e,he,rfl,rfl⟩,fun e he=>.inl ⟨e,he,rfl⟩⟩ ⟨_,e3,.one ⟨t,tk,rfl,s3 _ _ e2,s3 _ _ (s2 _ _ e1)⟩⟩
  rw[Y2 hrs];refine hN _ _ ?_;clear hN N;have q0:match Jb R.ru (Np R.es d.key) d with
    | .str=>∀R' l t tk G,TW C CR H G m dr df dw R R' (J6 (Wt R.es) d.key (Np R.es d.key) R.now) R.ws->G l=some (.lst [.ref t])->G t=some (.tup [.str "strange",.ref tk])->G tk=some (.tup (NG d.key))->Q (.ref l) G
    | .unl _=>∀R' l t tk G,TW C CR H G m dr df dw R R' (WP (Wt R.es) d.key) R.ws->G l=some (.lst [.ref t])->G t=some (.tup [.str "gone",.ref tk,.str "unlike"])->G tk=some (.tup (NG d.key))->Q (.ref l) G
    | .keep rs=>∀R' l G,TW C CR H G m dr df dw R R' (DT R d.key (J6 (Wt R.es) d.key rs R.now)).1 R.ws->NP G l (DT R d.key (J6 (Wt R.es) d.key rs R.now)).2 "room"->Q (.ref l) G
    | .whole rs=>∀R' l t pl bl G,TW C CR H G m dr df dw R R' (WP (Wt R.es) d.key) (Mj R.ws d.key R.now)->G l=some (.lst [.ref t])->G t=some (.tup [.str "whole",.ref pl])->Tf CL G pl bl ⟨d.nu,d.z1,d.z2,JU rs,false⟩->(∀ys,H bl≠some (.lst ys))->Q (.ref l) G:=by
   unfold JD at q0;rw[Y2 hrs]at q0;cases hst:Jb R.ru (Np R.es d.key) d with
   |str=>rw[hst]at q0;exact fun R' l t tk G hn x1 x2 x3=>q0 R' l G hn ⟨_,x1,.one ⟨t,tk,rfl,x2,x3⟩⟩
   |unl n=>rw[hst]at q0;exact fun R' l t tk G hn x1 x2 x3=>q0 R' l G hn ⟨_,x1,.one ⟨t,tk,rfl,x2,x3⟩⟩
   |keep rs=>rw[hst]at q0;exact fun R' l G hn x1=>q0 R' l G hn x1.evsR
   |whole rs=>rw[hst]at q0;exact fun R' l t pl bl G hn x1 x2 x3 x4=>q0 R' l G hn ⟨_,x1,.one ⟨t,pl,bl,rfl,x2,x3,x4⟩⟩
  obtain⟨nm1,nm2,nm3,nme⟩:=hR1.ne;refine xI fun N hN=>?_
  have go:∀ (j:List RE) (e:RE) (G:Hp),Ww C CR G m dr df dw {R with es:=j}->Me R m dr df dw H G->e∈j->e.ky=d.key->e.rs=Np R.es d.key->Wt j=J6 (Wt R.es) d.key (Np R.es d.key) R.now->(∀x∈j,((∃e0∈R.es,x.p=e0.p/\x.a=e0.a)\/(H x.p=none/\H x.a=none))/\((∃e0∈R.es,x.l=e0.l)\/H x.l=none))->(∀x∈R.es,∃y∈j,y.p=x.p/\y.a=x.a)->JN CP G q b d->G tk=some (.tup (NG d.key))->
    N [some (.ref m),some (.ref q),some (.ref tk),some (.ref e.p),none] G:=by
   intro j e G hG hkp he hek hers habs hnw hold hPG htkG;refine hN _ _ ?_;clear hN N;have hre:=hG.rd e he;have hcur:e.rs.st.length <=10000/\e.rs.cv.length <=800/\NV e.rs:=by
    rw[hers]
    by_cases h:d.key∈R.es.map (·.ky)
    .obtain⟨x,i,hxk⟩:=Y3.mp h;have hxk:x.ky=d.key:=hxk;rw[<-hxk,HY hR.nk i];exact hes x i
    .rw[Kf h];exact⟨YF _,YF _,NV.zero⟩
   rw[<-hers]at q0 habs;have hfree:∀c,G c=none->H c=none:=fun c hc=>by
    cases h:H c with
    |none=>rfl
    |some o=>
     have:Rg R m dr df dw c:=XD fun n=>by rw[hkp c o h n]at hc;cases hc
     exfalso
     obtain⟨_,_,hmG,_⟩:=hG.ex;rcases this with rfl|rfl|rfl|rfl|⟨x,i,hxc⟩
     .rw[hmG]at hc;cases hc
     .rw[hG.dR]at hc;cases hc
     .rw[hG.dF]at hc;cases hc
     .rw[hG.dW]at hc;cases hc
     .obtain⟨y,hy,h1,h2⟩:=hold x i;have ry:=hG.rd y hy;obtain⟨_,_,hyp,_⟩:=ry.ex;rcases hxc with z|z
      .rw[z,<-h1,hyp]at hc;cases hc
      .rw[z,<-h2,ry.dk]at hc;cases hc
   have nxt:∀{G2:Hp} (es2:List RE) (ws2:List ((Int×Str×Str)×Int)),Me R m dr df dw H G2->Ww C CR G2 m dr df dw {R with es:=es2,ws:=ws2}->(∀x∈es2,∃y∈j,x.p=y.p/\x.a=y.a/\(x.l=y.l\/H x.l=none))->TW C CR H G2 m dr df dw R {R with es:=es2,ws:=ws2} (Wt es2) ws2:=fun es2 ws2 k o h=>
    ⟨k, o, rfl, rfl, ⟨rfl, rfl, rfl, rfl, rfl, rfl⟩, fun x i => by
     obtain⟨y,hy,h1,h2,_⟩:=h x i;rw[h1,h2];exact(hnw y hy).1,fun x i=>by
     obtain⟨y,hy,_,_,h3|h3⟩:=h x i
     .rw[h3];exact(hnw y hy).2
     .exact .inr h3⟩
   refine WX fun N hN=>?_
   have k6:(R.ru≠"refuse"->strange e.rs d=false)->N [some (.ref m),some (.ref q),some (.ref tk),some (.ref e.p),none] G:=fun hns=>by
    refine hN _ _ ?_;clear hN N;refine WX fun N hN=>?_
    have unl:∀ (n:Int) (m':Wk) (G2:Hp),Ws G G2->GH CU "at" G2 m' (.int n)->Jb R.ru e.rs d= .unl n->N [some (.ref m),some (.ref q),some (.ref tk),some (.ref e.p),some (.ref m')] G2:=fun n m' G2 s2 hA hst=>by
     refine hN _ _ ?_;clear hN N;rw[hst]at q0;obtain⟨dx,fs,x1,x2⟩:=hA;have hG2:=hG.mono s2;refine WX fun N hN=>?_
     walk_at"rd";refine hN _ _ ?_;clear hN N;refine WX fun N hN=>?_
     walk_at"rd";refine⟨hG2.mt rfl,m,dr,df,dw,tk,{R with es:=j},d.key,rfl,hG2,s2 _ _ htkG,Y3.mpr ⟨e,he,hek⟩,fun G3 kp3 hG3=>hN _ _ ?_⟩;clear hN N;have x3:=kp3 m' _ x1 (Wr x1 hG2.dR nofun) (Wr x1 hG2.dF nofun);have htk2:=s2 _ _ htkG;have htk3:=kp3 tk _ htk2 (Wr htk2 hG2.dR nofun) (Wr htk2 hG2.dF nofun);walk_at"rd";refine⟨_,_,_,x3,LU.cl,icU,_,uw,?_⟩;rw[Y2 (by simp)];refine⟨Jc (by simp),fun t G4 ht s4 e4=>⟨Jc (by simp),fun l G5 hl s5 e5=>?_⟩⟩;have s45:=s4.trans s5;have hn:=nxt (G2:=G5) (JS j d.key) R.ws (fun c o h hc=>s45 c o (kp3 c o (s2 c o (hkp c o h hc)) (fun z=>hc (.inr (.inl z))) (fun z=>hc (.inr (.inr (.inl z)))))) (hG3.mono s45) fun x i=>⟨x,(Ym.mp i).1,rfl,rfl,.inl rfl⟩
     rw[P4,habs,Fk]at hn;exact q0 _ l t tk G5 hn e5 (s5 _ _ e4) (s45 _ _ htk3)
    walk_at"rd";refine⟨nO hre,e.p,e.a,e.l,q,b,R.ru,e.rs,d,rfl,hre,hPG,by omega,by omega,fun hs=>⟨fun hr m' G2 s2 hA=>?_,fun hr=>?_⟩,fun hs=>⟨fun n h2 h3 m' G2 s2 hA=>?_,fun hu u ers=>⟨fun hne l' G2 hl0 kp hR2=>?_,fun heq=>?_⟩⟩⟩
    .have hst:Jb R.ru e.rs d= .unl d.at':=by unfold Jb;rw[Y5 hs,Y5 hr]
     exact unl _ m' G2 s2 hA hst
    .rw[hns hr]at hs;cases hs
    .have hst:Jb R.ru e.rs d= .unl n:=by unfold Jb;rw[Y2 (by rw[hs];simp),Y5 h2,h3]
     exact unl _ m' G2 s2 hA hst
    .have hst:Jb R.ru e.rs d= .keep u:=by rw[Pd hs hu,<-ers,Y2 hne]
     rw[hst]at q0;have hl0':H l'=none:=hfree l' hl0;have hR3:=hG.goOn he kp hR2;have hlen:u.st.length <=e.rs.st.length+ d.ns.length:=by rw[ers];exact Ec _ _ _ _
     have hdl:=hPG.ok.l2;have habs2:Wt (TX j e.ky l' u)=J6 (Wt R.es) d.key u R.now:=by
      rw[P7 R.now (Y3.mpr ⟨e,he,rfl⟩),habs,hek,OU]
     have hel1:j.length <=901:=by
      have h1:=YU List.length habs;have h2:=Qb (Wt R.es) d.key e.rs R.now;unfold Wt at h1 h2;rw[Y1]at h1 h2;omega
     have hbd1:∀x∈j,x.rs.st.length <=10000:=fun x i=>by
      have:(x.ky,x.rs,x.first)∈J6 (Wt R.es) d.key e.rs R.now:=by rw[<-habs];exact Y3.mpr ⟨x,i,rfl⟩
      rcases SH this with z|z
      .obtain⟨y,hy,hz⟩:=Y3.mp z;have:y.rs=x.rs:=YU (fun t=>t.2.1) hz;rw[<-this];exact(hes y hy).1
      .have:x.rs=e.rs:=z;rw[this];exact hcur.1
     refine hN _ _ ?_;clear unl hN N;refine WX fun N hN=>?_
     walk_at"rd";have htk2:=kp tk _ htkG (fun z=>by obtain⟨_,_,hpe,_⟩:=hre.ex;rw[z,hpe]at htkG;cases htkG) (fun z=>by have:=hre.dk;rw[z,this]at htkG;cases htkG);have hupd:(TX j e.ky l' u).length=(J6 (Wt R.es) d.key u R.now).length:=by rw[<-habs2];exact(Y1 ..).symm
     have hsk:Ao {R with es:=TX j e.ky l' u} d.key=DT R d.key (J6 (Wt R.es) d.key u R.now):=by
      unfold Ao DT;show WL R.out R.sp d.key ((TX j e.ky l' u).length+ 1) (Wt (TX j e.ky l' u))=_;rw[hupd,habs2]
     refine⟨hR3.mt rfl,m,dr,df,dw,tk,{R with es:=TX j e.ky l' u},d.key,rfl,hR3,htk2,?_,?_,fun x i=>?_,fun x i=>?_,?_,fun es' l G4 hes' hsub hl k4 hR4 hG4=>?_⟩
     .show d.key∈(TX j e.ky l' u).map (·.ky);rw[<-E9,habs2];unfold J6
      split
      .rename_i hin
       obtain⟨x,i,hxk⟩:=Y3.mp hin;exact Y3.mpr ⟨(d.key,u,x.2.2),Y3.mpr ⟨x,i,by rw[Y5 hxk]⟩,rfl⟩
      .simp
     .show(TX j e.ky l' u).length <=1000;unfold TX;rw[Y1];omega
     .obtain⟨y,hy,rfl⟩:=Y3.mp i
      split
      .show u.st.length <=100000;omega
      .have:=hbd1 y hy;omega
     .have hxk:x.ky∈(Wt (TX j e.ky l' u)).map (·.1):=by rw[E9];exact Y3.mpr ⟨x,i,rfl⟩
      rw[habs2]at hxk;have hin:x.ky=d.key\/x.ky∈(Wt R.es).map (·.1):=by
       unfold J6 at hxk
       split at hxk
       .obtain⟨y,hy,hyk⟩:=Y3.mp hxk;obtain⟨z,hz,rfl⟩:=Y3.mp hy
        by_cases hzk:z.1=d.key
        .rw[Y5 hzk]at hyk;exact .inl hyk.symm
        .rw[Y2 hzk]at hyk;exact .inr (Y3.mpr ⟨z,hz,hyk⟩)
       .rw[Yf]at hxk;rcases YB.mp hxk with z|z
        .exact .inr z
        .exact .inl (by simpa using z)
      rcases hin with z|z
      .rw[z];exact⟨hPG.ok.n0,hPG.ok.n1,hPG.ok.k1,hPG.ok.k2⟩
      .rw[E9]at z;obtain⟨y,hy,hyk⟩:=Y3.mp z;rw[<-hyk];exact hkok y hy
     .show Nk (WP (Wt (TX j e.ky l' u)) d.key) <=R.sp;rw[habs2,Fk];exact htot
     .rw[hsk]at hes' hG4;have hn:=nxt (G2:=G4) es' R.ws (fun c o h hc=>k4 c o (kp c o (hkp c o h hc) (fun z=>?_) (fun z=>?_)) (fun z=>hc (.inr (.inl z))) (fun z=>hc (.inr (.inr (.inl z))))) hR4 fun x i=>?_
      .rw[hes']at hn;exact q0 _ l G4 hn hG4
      .rcases(hnw e he).1 with⟨e0,h0,z1,_⟩|⟨z1,_⟩
       .exact hc (.inr (.inr (.inr (.inr ⟨e0,h0,.inl (z.trans z1)⟩))))
       .rw[z,z1]at h;cases h
      .rcases(hnw e he).1 with⟨e0,h0,_,z1⟩|⟨_,z1⟩
       .exact hc (.inr (.inr (.inr (.inr ⟨e0,h0,.inr (z.trans z1)⟩))))
       .rw[z,z1]at h;cases h
      .obtain⟨y,hy,rfl⟩:=Y3.mp (hsub x i);refine⟨y,hy,?_⟩
       split
       .exact⟨rfl,rfl,.inr hl0'⟩
       .exact⟨rfl,rfl,.inl rfl⟩
    .have hst:Jb R.ru e.rs d= .whole u:=by rw[Pd hs hu,<-ers,Y5 heq]
     rw[hst]at q0;have hI':NV u:=by rw[ers];exact hcur.2.2.step _ hPG.ok
     obtain⟨en,b1,b2,b3,b4⟩:=hI'.iv.body heq;obtain⟨c1,c2,c3⟩:=hI'.body heq;refine⟨en,JU u,b1,b2,b3,b4,fun m' b' l' G2 hb0 hl0 kp hR2 hA=>hN _ _ ?_⟩;clear unl hN N;have hl0':H l'=none:=hfree l' hl0;have hR3:=hG.goOn he kp hR2;obtain⟨dx,fs,x1,x2,x3⟩:=hA;have htk2:=kp tk _ htkG (fun z=>by obtain⟨_,_,hpe,_⟩:=hre.ex;rw[z,hpe]at htkG;cases htkG) (fun z=>by have:=hre.dk;rw[z,this]at htkG;cases htkG);refine WX fun N hN=>?_
     walk_at"rd";refine hN _ _ ?_;clear hN N;refine WX fun N hN=>?_
     walk_at"rd";refine⟨hR3.mt rfl,m,dr,df,dw,tk,{R with es:=TX j e.ky l' u},d.key,rfl,hR3,htk2,?_,fun G3 kp3 hG3=>hN _ _ ?_⟩
     .show d.key∈(TX j e.ky l' u).map (·.ky);rw[Cm (·.ky) (fun _ _ _=>rfl)];exact Y3.mpr ⟨e,he,hek⟩
     clear hN N;have off3:∀{c:Wk} {o:HO},G2 c=some o->(∀kvs,o≠ .dT kvs)->G3 c=some o:=fun h n=>kp3 _ _ h (fun z=>by rw[z,hR3.dR]at h;cases h;exact n _ rfl) (fun z=>by rw[z,hR3.dF]at h;cases h;exact n _ rfl)
     have y1:=off3 x1 (fun _ z=>nomatch z);have y3:=off3 x3 (fun _ z=>nomatch z);have htk3:=off3 htk2 (fun _ z=>nomatch z);walk_at"rd";refine⟨_,_,_,y1,LW.cl,icW,_,ww,?_⟩;rw[Y5 rfl];have hwl':(Ds R.ws).length=R.ws.length:=Y1 ..;refine⟨_,EJ L hG3,_,Fv L hG3,dw,rfl,Ju d.key,_,hG3.dW,htk3,Tn (show(Ds R.ws).length <=100000 by omega),fun G4 b4 e4=>?_⟩;have e4':G4 dw=some (.dT (Ds (Mj R.ws d.key R.now))):=by rw[<-Oq];exact e4
     have off4:∀{c:Wk} {o:HO},G3 c=some o->(∀kvs,o≠ .dT kvs)->G4 c=some o:=fun h n=>b4 _ _ h (fun z=>by rw[z,hG3.dW]at h;cases h;exact n _ rfl)
     have z1:=off4 y1 (fun _ z=>nomatch z);have z3:=off4 y3 (fun _ z=>nomatch z);have htk4:=off4 htk3 (fun _ z=>nomatch z);refine⟨_,Ja.of htk4,_,rfl,_,Ja.of htk4,_,rfl,_,Ja.of htk4,_,rfl,_,⟨m',CW,dx,fs,rfl,z1,LW.cl,LW.na,x2⟩,?_⟩;refine⟨⟨d.nu,d.z1,d.z2,JU u,false⟩,b',rfl,rfl,⟨hPG.ok.n0,hPG.ok.n1,hPG.ok.k1,hPG.ok.k2,c1,c2,c3⟩,z3,fun pl bl G5 hpl hbl s5 hL=>⟨Jc (by simp),fun t G6 ht s6 e6=>⟨Jc (by simp),fun l G7 hl s7 e7=>?_⟩⟩⟩;have s57:=s5.trans (s6.trans s7);obtain⟨dxm,fsm,hm3,hlm,hfm⟩:=hG3.ex;have hG4:Ww C CR G4 m dr df dw {R with es:=JS (TX j e.ky l' u) d.key,ws:=Mj R.ws d.key R.now}:=
      ⟨⟨dxm,fsm,off4 hm3 (fun _ z=>nomatch z),hlm,hfm⟩,b4 dr _ hG3.dR hR.n2,b4 df _ hG3.dF hR.n3,e4',hR.n1,hR.n2,hR.n3,fun x i=>(hG3.rd x i).offD (fun c o h n=>b4 c o h n) hG3.dW,hG3.np,hG3.na,hG3.nk⟩
     have k04:Me R m dr df dw H G4:=fun c o h hc=>by
      refine b4 c o (kp3 c o (kp c o (hkp c o h hc) (fun z=>?_) (fun z=>?_)) (fun z=>hc (.inr (.inl z))) (fun z=>hc (.inr (.inr (.inl z))))) (fun z=>hc (.inr (.inr (.inr (.inl z)))))
      .rcases(hnw e he).1 with⟨e0,h0,z1,_⟩|⟨z1,_⟩
       .exact hc (.inr (.inr (.inr (.inr ⟨e0,h0,.inl (z.trans z1)⟩))))
       .rw[z,z1]at h;cases h
      .rcases(hnw e he).1 with⟨e0,h0,_,z1⟩|⟨_,z1⟩
       .exact hc (.inr (.inr (.inr (.inr ⟨e0,h0,.inr (z.trans z1)⟩))))
       .rw[z,z1]at h;cases h
     have hn:=nxt (G2:=G7) (JS (TX j e.ky l' u) d.key) (Mj R.ws d.key R.now) (fun c o h hc=>s57 c o (k04 c o h hc)) (hG4.mono s57) fun x i=>?_
     .rw[P4,P7 R.now (Y3.mpr ⟨e,he,rfl⟩),habs,hek,OU,Fk]at hn;refine q0 _ l t pl bl G7 hn e7 (s7 _ _ e6) (hL.mono (s6.trans s7)) fun ys h=>?_
      rw[k04 _ _ h (hR.lstN h)]at hbl;cases hbl
     .obtain⟨y,hy,rfl⟩:=Y3.mp (Ym.mp i).1;refine⟨y,hy,?_⟩
      split
      .exact⟨rfl,rfl,.inr hl0'⟩
      .exact⟨rfl,rfl,.inl rfl⟩
   walk_at"rd";refine⟨_,Ih L hG,rfl,?_⟩
   by_cases hru:R.ru="refuse"
   .rw[Y2 (by rw[show({R with es:=j}:JM).ru=R.ru from rfl,hru];simp)];exact k6 fun z=>absurd hru z
   .rw[Y5 (by simpa using hru)];refine⟨S9 hre,e.p,e.a,e.l,q,b,R.ru,e.rs,d,rfl,hre,hPG,_,rfl,Tj (fun hs=>?_) fun hs=>k6 fun _=>by simpa using hs⟩;refine⟨Jc (by simp),fun t G2 ht s2 e2=>⟨Jc (by simp),fun l G3 hl s3 e3=>?_⟩⟩;have hst:Jb R.ru e.rs d= .str:=by unfold Jb;rw[Y5 hs,Y2 hru]
    rw[hst]at q0;have s23:=s2.trans s3;have hn:=nxt j R.ws (fun c o h hc=>s23 c o (hkp c o h hc)) (hG.mono s23) fun x i=>⟨x,i,rfl,rfl,.inl rfl⟩
    rw[habs]at hn;exact q0 _ l t tk G3 hn e3 (s3 _ _ e2) (s23 _ _ htkG)
  refine WX fun N3 hN3=>?_
  walk_at"rd";have hkn:=hR.nk;have erl:(MM R.es).length=R.es.length:=Y1 ..;have efl:(MU R.es).length=R.es.length:=Y1 ..;refine⟨_,RH L hR1,.inr (.inr (.inl ⟨rfl,.inr ⟨_,hR1.dR⟩⟩)),_,Ih L hR1,R.ru,rfl,fun p a l G2 hp2 ha2 hl2 s2 hRd=>?_⟩;have hR2:=hR1.mono s2;have htk2:=s2 _ _ e1;refine⟨dr,rfl,Ju d.key,_,hR2.dR,htk2,Tn (by omega),fun v hv=>hN3 _ _ ?_,fun hv G3 b3 e3=>hN3 _ _ ?_⟩ <;> clear hN3 N3
  .have hmem:d.key∈R.es.map (·.ky):=by
    by_cases h:d.key∈R.es.map (·.ky)
    .exact h
    .rw[vM h]at hv;cases hv
   obtain⟨e,he,hek⟩:=Y3.mp hmem;have hek:e.ky=d.key:=hek;rw[<-hek,RP hkn he]at hv;cases hv;walk_at"rd";refine⟨_,BL L hR2,.inr (.inr (.inl ⟨rfl,.inr ⟨_,hR2.dF⟩⟩)),_,EJ L hR2,df,rfl,Ju d.key,_,hR2.dF,htk2,Tn (by omega),fun v hv=>?_,fun hv=>?_⟩
   .refine go R.es e G2 hR2 (fun c o h _=>s2 c o (s1 c o h)) he hek (by rw[<-hek];exact(HY hkn he).symm) ?_ (fun x i=>⟨.inl ⟨x,i,rfl,rfl⟩,.inl ⟨x,i,rfl⟩⟩) (fun x i=>⟨x,i,rfl,rfl⟩) (hP1.mono s2) htk2;rw[<-hek,HY hkn he,FW hkn he]
   .rw[<-hek,Ei hkn he]at hv;cases hv
  .have hmem:d.key∉R.es.map (·.ky):=fun h=>by
    obtain⟨e,he,hek⟩:=Y3.mp h;have hek:e.ky=d.key:=hek;rw[<-hek,RP hkn he]at hv;cases hv
   have hm3:∀o,G2 m=some o->G3 m=some o:=fun o h=>b3 m o h nm1
   have hf3:=b3 df _ hR2.dF (Ne.symm hR.n1);have htk3:=b3 tk _ htk2 (Wr htk2 hR2.dR nofun);walk_at"rd";refine⟨_,hR2.fldO hm3 L.cl L.firsts rfl,.inr (.inr (.inl ⟨rfl,.inr ⟨_,hf3⟩⟩)),_,hR2.fldO hm3 L.cl L.now rfl,df,rfl,Ju d.key,_,hf3,htk3,Tn (by omega),fun v hv=>?_,fun _ G4 b4 e4=>?_⟩
   .rw[uR hmem]at hv;cases hv
   .have kp:∀c o,G2 c=some o->c≠dr->c≠df->G4 c=some o:=fun c o h n1 n2=>b4 c o (b3 c o h n1) n2
    have off2:∀{p' a' l':Wk} {rs:RS},Nh CR G2 p' a' l' R.ru rs->Nh CR G4 p' a' l' R.ru rs:=fun h=>
     (h.offD (G:=G3) (fun c o h n=>b3 c o h n) hR2.dR).offD (G:=G4) (fun c o h n=>b4 c o h n) hf3
    obtain⟨dx,fs,hm,hl,hf⟩:=hR2.ex;have np':∀x∈R.es,x.p≠p/\x.a≠a:=fun x i=>by
     have r:=hR1.rd x i;obtain⟨_,_,hxp,_⟩:=r.ex;exact⟨N0 hxp hp2,N0 r.dk ha2⟩
    have nd:∀{β:Type} (f:RE->β),(R.es.map f).Nodup->(∀x∈R.es,f x≠f (⟨d.key,p,a,l,Dd,R.now⟩:RE))->((R.es++[(⟨d.key,p,a,l,Dd,R.now⟩:RE)]).map f).Nodup:=fun f h1 h2=>by
     rw[Yf,Ue];refine⟨h1,by simp,fun x i y hy z=>?_⟩;obtain⟨x0,hx0,rfl⟩:=Y3.mp i;have:y=f (⟨d.key,p,a,l,Dd,R.now⟩:RE):=by simpa using hy
     exact h2 x0 hx0 (by rw[<-this];exact z)
    refine go (R.es++[(⟨d.key,p,a,l,Dd,R.now⟩:RE)]) ⟨d.key,p,a,l,Dd,R.now⟩ G4 ⟨⟨dx,fs,kp m _ hm nm1 nm2,hl,hf⟩,?_,?_,kp dw _ hR2.dW (Ne.symm hR.n2) (Ne.symm hR.n3),hR.n1,hR.n2,hR.n3,fun x i=>?_,nd (·.p) hR.np fun x i=>(np' x i).1,nd (·.a) hR.na fun x i=>(np' x i).2,nd (·.ky) hR.nk fun x i z=>hmem (Y3.mpr ⟨x,i,z⟩)⟩ (fun c o h hc=>?_) (by simp) rfl (Kf hmem).symm ?_ (fun x i=>?_) (fun x i=>⟨x,XW _ i,rfl,rfl⟩) ?_ (kp tk _ htk2 (Wr htk2 hR2.dR nofun) (Wr htk2 hR2.dF nofun))
    .show G4 dr=some (.dT (MM (R.es++[(⟨d.key,p,a,l,Dd,R.now⟩:RE)])));rw[b4 dr _ e3 hR.n1];unfold MM;rw[Yf];rfl
    .show G4 df=some (.dT (MU (R.es++[(⟨d.key,p,a,l,Dd,R.now⟩:RE)])));rw[e4];unfold MU;rw[Yf];rfl
    .rcases YB.mp i with z|z
     .exact off2 (hR2.rd x z)
     .rw[Yg.mp z];exact off2 hRd
    .exact kp c o (s2 c o (s1 c o h)) (fun z=>hc (.inr (.inl z))) (fun z=>hc (.inr (.inr (.inl z))))
    .unfold J6;rw[Y2 (by rw[IN];exact hmem),Kf hmem];unfold Wt;rw[Yf];rfl
    .rcases YB.mp i with z|z
     .exact⟨.inl ⟨x,z,rfl,rfl⟩,.inl ⟨x,z,rfl⟩⟩
     .rw[Yg.mp z];exact⟨.inr ⟨s1.free hp2,s1.free ha2⟩,.inr (s1.free hl2)⟩
    .have hP2:=hP1.mono s2;obtain⟨dxq,fsq,hq⟩:=hP2.ins;exact⟨hP2.ok,hP2.ats.same fun o h=>kp q o h (Wr hq hR2.dR nofun) (Wr hq hR2.dF nofun),kp b _ hP2.bd (Wr hP2.bd hR2.dR nofun) (Wr hP2.bd hR2.dF nofun)⟩
theorem Ww.setNow{C CR m dr df dw dx:Wk}{H G:Hp}{R:JM}{fs:List (Str×V)}{t:Int}(h:Ww C CR H m dr df dw R)(hm:H m=some (.ins C dx fs))(b:JC m H G)(e:G m=some (.ins C dx (Ni "now" (.int t) fs))):Ww C CR G m dr df dw {R with now:=t}:=by
 obtain⟨dx',fs',c,hl,u⟩:=h.ex;rw[hm]at c;cases c;obtain⟨p,n,j,i⟩:=h.ne;have d:fs.lookup ("now":Str)=some (.int R.now):=by rw[u];rfl
 refine⟨⟨dx,_,e,by rw[Bz d];exact hl,fun f=>?_⟩,b _ _ h.dR (Ne.symm p),b _ _ h.dF (Ne.symm n),b _ _ h.dW (Ne.symm j),h.n1,h.n2,h.n3,fun x s=>?_,h.np,h.na,h.nk⟩
 .by_cases hfn:f="now"
  .subst hfn;rw[Mw];rfl
  .rw[WU hfn,u f];show List.lookup f (Ey R dr df dw)=List.lookup f (Ey {R with now:=t} dr df dw);have hb:(f==("now":Str))=false:=Xg.mpr hfn;simp only[Ey,U0,hb]
 .obtain⟨n1,n2,_⟩:=i x s;have r:=h.rd x s;obtain⟨w,v,hp,y⟩:=r.ex;obtain⟨xs,a,hc⟩:=r.cv;exact⟨⟨w,v,b _ _ hp (Ne.symm n1),y⟩,b _ _ r.dk (Ne.symm n2),xs,b _ _ a (Wr a hm nofun),hc.tk fun t ys q=>b _ _ q (Wr q hm nofun)⟩
theorem JN.neM{C CR CP m dr df dw q b:Wk}{H:Hp}{R:JM}{d:PD}(h:Ww C CR H m dr df dw R)(k:JN CP H q b d):q≠m/\b≠m/\¬Rg R m dr df dw q/\¬Rg R m dr df dw b:=by
 obtain⟨dx,fs,p,_,s⟩:=h.ex;obtain⟨u,fs',a,r,_⟩:=k.ats;have c:=k.bd;have n:q≠m:=fun z=>by
  rw[z,p]at a;cases a;rw[s]at r;cases r
 have j:b≠m:=Wr c p nofun;refine⟨n,j,fun z=>?_,fun z=>?_⟩
 .rcases z with z|z|z|z|⟨e,he,z⟩
  .exact n z
  .exact Wr a h.dR nofun z
  .exact Wr a h.dF nofun z
  .exact Wr a h.dW nofun z
  .obtain⟨i,_,f,_⟩:=(h.rd e he).ne k;rcases z with z|z
   .exact i z
   .exact f z
 .rcases z with z|z|z|z|⟨e,he,z⟩
  .exact j z
  .exact Wr c h.dR nofun z
  .exact Wr c h.dF nofun z
  .exact Wr c h.dW nofun z
  .obtain⟨_,i,_,f⟩:=(h.rd e he).ne k;rcases z with z|z
   .exact i z
   .exact f z
theorem Me.tup{C CR m dr df dw c:Wk}{H G:Hp}{R:JM}{xs:List V}(h:Ww C CR H m dr df dw R)(k:Me R m dr df dw H G)(hc:H c=some (.tup xs)):G c=some (.tup xs):=by
 refine k c _ hc fun z=>?_
 obtain⟨dx,fs,b,_⟩:=h.ex;rcases z with z|z|z|z|⟨e,he,z⟩
 .rw[z,b]at hc;cases hc
 .rw[z,h.dR]at hc;cases hc
 .rw[z,h.dF]at hc;cases hc
 .rw[z,h.dW]at hc;cases hc
 .have r:=h.rd e he;obtain⟨_,_,a,_⟩:=r.ex;rcases z with z|z
  .rw[z,a]at hc;cases hc
  .rw[z,r.dk]at hc;cases hc
def Jw(ps:List (Int×Ky)):List Ev:=ps.map fun p=>.gone p.2 "wait"
def T8(R:JM)(t:Int):JM:={R with now:=t,es:=AJ {R with now:=t}}
theorem NP.evs{CL:Wk}{G:Hp}{l:Wk}{ps:List (Int×Ky)}(h:NP G l (ps.map (·.2)) "wait"):F8 CL G l (Jw ps):=by
 obtain⟨n,h1,h2,i⟩:=h;rw[Y1]at h1;refine⟨_,h2,by unfold Jw;rw[Y1,Y1,h1],fun j x y a b=>?_⟩;unfold Jw at b;rw[Y9]at a b;obtain⟨t,e,rfl⟩:=Yn.mp a;obtain⟨p,f,rfl⟩:=Yn.mp b;obtain⟨d,c⟩:=i j t p.2 e (by rw[Y9,f];rfl);exact⟨t.1,t.2,rfl,d,c⟩
theorem eB(out:Str)(sp:Int)(own:Ky)(n:Nat):∀xs:List AE,(WL out sp own n xs).2.length <=n:=by
 induction n with
 |zero=>intro xs;exact Y6 _
 |succ n ih=>
  intro xs;unfold WL
  split
  .exact YF _
  .exact Nat.succ_le_succ (ih _)
theorem OJ(R:JM)(d:PD):(JD R d).2.2.length <=(Wt R.es).length+ 2:=by
 unfold JD
 split
 .exact Ve _ _
 .split
  .exact Ve _ _
  .exact Ve _ _
  .rename_i rs _
   show(List.map _ _).length <=_;rw[Y1];unfold DT;have h1:=eB R.out R.sp d.key ((J6 (Wt R.es) d.key rs R.now).length+ 1) (J6 (Wt R.es) d.key rs R.now);have h2:=Qb (Wt R.es) d.key rs R.now;omega
  .exact Ve _ _
inductive KA(C CR CP CL:Wk)(vs:List V)(H:Hp)(Q:VK)(E:XK):Prop|mk (m dr df dw q b:Wk) (R:JM) (d:PD) (t:Int) (_:vs=[.ref m,.int t,.ref q]) (_:Ww C CR H m dr df dw R) (_:JN CP H q b d) (_:R.now <=t) (_:R.es.length < 64) (_:R.ws.length <=1000) (_:(∀e∈R.es,e.rs.st.length <=10000/\e.rs.cv.length <=800/\NV e.rs)) (_:Nk (WP (Wt (T8 R t).es) d.key) <=R.sp) (_:(∀e∈R.es,Na e.ky)) (_:∀ (ps:List (Int×Ky)) R' l G,ps.Perm (MY {R with now:=t})->ps.Pairwise (fun a b=>J5 b a=false)->H l=none->TW C CR H G m dr df dw {R with now:=t} R' (JD (T8 R t) d).1 (JD (T8 R t) d).2.1->GS CL H G l (Jw ps++(JD (T8 R t) d).2.2)->(∀e∈R'.es,e.l≠l)->Q (.ref l) G)
abbrev LF:Stmt:=To (top 44) 1
theorem P0:Jx ["self","time","piece","events"] ["self","time","piece"] (Wp LF):=by walk_at"e"
theorem bJ{f C CR CP CL:Wk}{fd:Wf}(F:JE K "come" "Room.come" LF f fd)(L:M8 K C)(LP:Gm K CP)(B:Bt mg)(gC_Piece:mg "Piece"=some (.ref CP))(ic_Piece:Ez K CP)
  (Jm:Nv P w K mg base C "check_time" 3 ["self","time"] [] (CZ C CR)) (Js:Nv P w K mg base C "end_waits" 2 ["self"] [] (AO C CR)) (Ny:Nv P w K mg base C "take_in" 8 ["self","piece"] [] (IH C CR CP CL)):Wz P w K mg base Jf 9 f fd ["self","time","piece"] (KA C CR CP CL):=by
 have cl_Piece:=LP.cl;refine F.ok P0 (fun vs H Q E h=>?_) (fun cdv A outer s H vs Q E hr h=>?_)
 .obtain⟨m,dr,df,dw,q,b,R,d,t,rfl,_⟩:=h;rfl
 .obtain⟨m,dr,df,dw,q,b,R,d,t,rfl,hR,hP,ht,hel,hwl,hes,qt,qk,q0⟩:=h;refine⟨_,(WB (Ta (MK (Wq 0) Jm hr.m (Wx 1 Wu))) (WB (JJ (MA (Tx (N4 (uU (K:=K) rfl cl_Piece ic_Piece) B.isinstance (Wx 2 (J7 (hs:=Dl) (Eb (v:=.ref CP) rfl gC_Piece rfl) Wu))))) Ro JV) (WB (MH (K:=K) rfl (Wq 0) (Wq 1) rfl) (WB (JP 3 P0 (Mq (Wq 0) Js hr.m)) (WB (Ta (Md (K:=K) rfl Yr PySem.F.slot_list_extend PySem.F.type_list_extend (ZD vI) (Wq 3) (MG (MK (Wq 0) Ny hr.m (Wx 2 Wu)) Wu))) (WH (Jd (Wq 3)))))))),?_⟩;obtain⟨dxq,fsq,hq⟩:=hP.ins;obtain⟨dx,fs,hm,hl,hf⟩:=hR.ex;obtain⟨nqm,nbm,nq,nb⟩:=JN.neM hR hP;obtain⟨nm1,nm2,nm3,nme⟩:=hR.ne;refine WX fun N hN=>?_
  walk_at"rd";refine⟨hR.mt rfl,m,dr,df,dw,R,t,rfl,hR,ht,hN _ _ ?_⟩;clear hN N;refine WX fun N hN=>?_
  walk_at"rd";refine⟨dxq,fsq,hq,hN _ _ ?_⟩;clear hN N;refine WX fun N hN=>?_
  walk_at"rd";refine⟨C,dx,fs,hm,L.cl,L.now,by omega,fun G1 b1 e1=>hN _ _ ?_⟩;clear hN N;have u:=hR.setNow hm b1 e1;have hP1:=hP.but b1 nqm nbm;refine WX fun N hN=>?_
  walk_at"rd";refine⟨u.mt rfl,m,dr,df,dw,{R with now:=t},rfl,u,hel,fun ps l G2 hpp hps i k2 hR2 hE=>hN _ _ ?_⟩;clear hN N;walk_at"rd";have hR2:Ww C CR G2 m dr df dw (T8 R t):=hR2;have hl0:H l=none:=b1.free i (Ne.symm (N0 e1 i));have hst:∀e∈(T8 R t).es,e∈R.es:=fun e he=>(Ym.mp he).1
  obtain⟨dxq1,fsq1,hq1⟩:=hP1.ins;have hP2:JN CP G2 q b d:=⟨hP1.ok,hP1.ats.same fun o h=>k2 q o h (Wr hq1 u.dR nofun) (Wr hq1 u.dF nofun),k2 b _ hP1.bd (Wr hP1.bd u.dR nofun) (Wr hP1.bd u.dF nofun)⟩;obtain⟨xs0,e2,hx0⟩:=(hE.evs:F8 CL G2 l (Jw ps));have el:∀e∈R.es,e.l≠l:=fun e he=>by
   obtain⟨ys,hy,_⟩:=(u.rd e he).cv;exact N0 hy i
  have nl:¬Rg (T8 R t) m dr df dw l:=fun z=>by
   rcases z with z|z|z|z|⟨e,he,z⟩
   .rw[z,e1]at i;cases i
   .rw[z,u.dR]at i;cases i
   .rw[z,u.dF]at i;cases i
   .rw[z,u.dW]at i;cases i
   .have r:=u.rd e (hst e he);obtain⟨_,_,hpe,_⟩:=r.ex;rcases z with z|z
    .rw[z,hpe]at i;cases i
    .rw[z,r.dk]at i;cases i
  have hxl:xs0.length <=1000:=by
   have h1:ps.length=(List.filter (DL {R with now:=t}) R.es).length:=hpp.length_eq.trans (Y1 ..);have h2:=Yz (DL {R with now:=t}) R.es;have h3:xs0.length=ps.length:=hx0.1.trans (Y1 ..);have h2:(List.filter (DL {R with now:=t}) R.es).length <=R.es.length:=h2;omega
  refine⟨.inl ⟨rfl,_,WA.of e2⟩,hR2.mt rfl,m,dr,df,dw,q,b,T8 R t,d,rfl,hR2,hP2,?_,hwl,fun e he=>hes e (hst e he),qt,fun e he=>qk e (hst e he),fun R' l3 G3 hn hE3=>?_⟩
  .have:=Yz (fun e=> !DL {R with now:=t} e) R.es;show(List.filter (fun e=> !DL {R with now:=t} e) R.es).length <=900;omega
  obtain ⟨xs3, e3, hx3⟩ := hE3;have hl3 : G3 l = some (.lst xs0) := hn.kp l _ e2 nl;have hx0' : Pw (EU CL G2 G3) xs0 (Jw ps) := ⟨hx0.1, fun j x y a b => by
   have h1 := hx0.2 j x y a b;unfold Jw at b;rw [Y9] at b;obtain ⟨p, hp, rfl⟩ := Yn.mp b;obtain ⟨t1, tk, z1, z2, z3⟩ := h1;exact ⟨t1, tk, z1, hn.kp.tup hR2 z2, hn.kp.tup hR2 z3⟩⟩
  have hal:(Wt (T8 R t).es).length <=R.es.length:=by
   unfold Wt;rw[Y1];exact Yz _ _
  have hlen3:xs3.length <=66:=by
   rw[hx3.1];have:=OJ (T8 R t) d;omega
  refine⟨l3,rfl,_,hl3,_,e3,YD (show _ <=1066 by omega) (Jc (n:=1066) (by decide)),fun G4 b4 e4=>?_⟩;have hnl:∀e∈R'.es,e.l≠l:=fun e he=>by
   rcases hn.nl e he with⟨e0,h0,z⟩|z
   .rw[z];exact el e0 (hst e0 h0)
   .exact fun q=>by rw[q,e2]at z;cases z
  refine q0 ps R' l G4 hpp hps hl0 ?_ ⟨_,e4,(hx0'.app hx3).imp fun x y h=>?_⟩ hnl
  .have frm:∀{c:Wk},G2 c=none->H c=none:=fun {c} hc=>by
    cases h:H c with
    |none=>rfl
    |some o=>
     by_cases hcm:c=m
     .rw[hcm]at hc;obtain⟨_,_,z,_⟩:=hR2.ex;rw[z]at hc;cases hc
     .by_cases h1:c=dr
      .rw[h1,hR2.dR]at hc;cases hc
      .by_cases h2:c=df
       .rw[h2,hR2.dF]at hc;cases hc
       .rw[k2 c o (b1 c o h hcm) h1 h2]at hc;cases hc
   refine⟨fun c o h hc=>b4 c o (hn.kp c o (k2 c o (b1 c o h fun z=>hc (.inl z)) (fun z=>hc (.inr (.inl z))) (fun z=>hc (.inr (.inr (.inl z))))) (fun z=>hc ?_)) (N0 h hl0),hn.ok.butL b4 hl3 hnl,hn.es,hn.ws',hn.pr,fun e he=>?_,fun e he=>?_⟩
   .rcases z with z|z|z|z|⟨e,he,z⟩
    .exact .inl z
    .exact .inr (.inl z)
    .exact .inr (.inr (.inl z))
    .exact .inr (.inr (.inr (.inl z)))
    .exact .inr (.inr (.inr (.inr ⟨e,hst e he,z⟩)))
   .rcases hn.nw e he with⟨e0,h0,z⟩|⟨z1,z2⟩
    .exact .inl ⟨e0,hst e0 h0,z⟩
    .exact .inr ⟨frm z1,frm z2⟩
   .rcases hn.nl e he with⟨e0,h0,z⟩|z
    .exact .inl ⟨e0,hst e0 h0,z⟩
    .exact .inr (frm z)
  .have k4:∀{c:Wk} {xs:List V},G3 c=some (.tup xs)->G4 c=some (.tup xs):=fun {c xs} h=>b4 c _ h (Wr h hl3 nofun)
   cases y with
   |gone k w=>obtain⟨t1,tk,z1,z2,z3⟩:=h;exact⟨t1,tk,z1,k4 z2,k4 z3⟩
   |late k=>obtain⟨t1,tk,z1,z2,z3⟩:=h;exact⟨t1,tk,z1,k4 z2,k4 z3⟩
   |strange k=>obtain⟨t1,tk,z1,z2,z3⟩:=h;exact⟨t1,tk,z1,k4 z2,k4 z3⟩
   |whole d'=>
    obtain⟨t1,pl,bl,z1,z2,hL,hnb⟩:=h;obtain⟨dxL,fsL,hpl⟩:=hL.ins;have nbl:bl≠l:=fun z=>by
     have hbl:=hL.bd;rw[z,hl3]at hbl;injection hbl with hbl;injection hbl with hbl;have h1:=hL.ok.l1;have hlt:0 < d'.ns.length:=h1;have ex:xs0[0]?=some (.int d'.ns[0]):=by rw[hbl,Y9,Y7 hlt];rfl
     obtain⟨y,hy,hR'⟩:=hx0'.get ex;unfold Jw at hy;rw[Y9]at hy;obtain⟨p,_,rfl⟩:=Yn.mp hy;obtain⟨_,_,z1,_⟩:=hR';cases z1
    refine⟨t1,pl,bl,z1,k4 z2,⟨hL.ok,hL.ats.same fun o e=>b4 pl o e (Wr hpl hl3 nofun),b4 _ _ hL.bd nbl⟩,fun ys h=>?_⟩;have h1:=b1 bl _ h (Wr h hm nofun);exact hnb ys (k2 bl _ h1 (Wr h1 u.dR nofun) (Wr h1 u.dF nofun))
end
theorem jB(es:List RE):(MM es).map (·.1)=(es.map (·.ky)).map fun k=>[Sum.inl k.1,Sum.inr k.2.1,Sum.inr k.2.2]:=by
 unfold MM;rw[Yo,Yo];rfl
section
variable{P:Wc}{w:Wh}{K:Wi}{mg:W8}{base:Wn}
def Ew(G:Hp)(l:Wk)(ks:List Ky):Prop:=∃ts:List Addr,ts.length=ks.length/\G l=some (.lst (ts.map V.ref))/\∀ (i:Nat) t k,ts[i]?=some t->ks[i]?=some k->G t=some (.tup (NG k))
inductive Hw(C CR:Wk)(vs:List V)(H:Hp)(Q:VK)(E:XK):Prop|mk (m dr df dw:Wk) (R:JM) (_:vs=[.ref m]) (_:Ww C CR H m dr df dw R) (_:R.es.length < 64) (_:∀ (ks:List Ky) l G,ks.Perm (R.es.map (·.ky))->ks.Pairwise (fun a b=>TQ b a=false)->H l=none->Ws H G->Ew G l ks->Q (.ref l) G)
abbrev IA:Stmt:=To (top 44) 3
theorem gA:Jx ["self"] ["self"] (Wp IA):=by walk_at"e"
theorem ZO{f C CR:Wk}{fd:Wf}(F:JE K "kept" "Room.kept" IA f fd)(L:M8 K C)(B2:GO mg):Wz P w K mg base Jf 1 f fd ["self"] (Hw C CR):=by
 refine F.ok gA (fun vs H Q E h=>?_) (fun aa A n s H vs Q E v h=>?_)
 .obtain⟨m,dr,df,dw,R,rfl,_⟩:=h;rfl
 .obtain⟨m,dr,df,dw,R,rfl,j,y,q⟩:=h;refine⟨_,(WH (Jd (N4 (tN rfl (Room.units v)) B2.sorted (TF (Jv K (Wq 0)) Wu)))),?_⟩;walk_at"rd";refine⟨_,RH L j,dr,rfl,_,j.dR,R.es.map (·.ky),jB _,by rw[Y1];exact y,fun ks p l G x u d r e c z=>?_⟩;exact q ks l G x u e c ⟨p,d,z,fun i t k a b=>c _ _ (r i t k a b)⟩
inductive Lp(C CR:Wk)(vs:List V)(H:Hp)(Q:VK)(E:XK):Prop|mk (m dr df dw t:Wk) (R:JM) (e:RE) (_:vs=[.ref m,.ref t]) (_:Ww C CR H m dr df dw R) (_:H t=some (.tup (NG e.ky))) (_:Na e.ky) (_:e∈R.es) (_:∀G,Ws H G->Q (.int e.first) G)
abbrev IP:Stmt:=To (top 44) 6
theorem xF:Jx ["self","key"] ["self","key"] (Wp IP):=by walk_at"e"
theorem aA{f C CR:Wk}{fd:Wf}(F:JE K "since" "Room.since" IP f fd)(L:M8 K C)(Jk:Nv P w K mg base C "check_kept" 5 ["self","key"] [] (CI C CR)):Wz P w K mg base Jf 6 f fd ["self","key"] (Lp C CR):=by
 refine F.ok xF (fun vs H Q E h=>?_) (fun r A n s H vs Q E i h=>?_)
 .obtain⟨m,dr,df,dw,t,R,e,rfl,_⟩:=h;rfl
 .obtain⟨m,dr,df,dw,t,R,e,rfl,a,d,p,j,q⟩:=h;refine⟨_,(WB (Ta (MK (Wq 0) Jk i.m (Wx 1 Wu))) (WH (Jd (Jt i (Jv K (Wq 0)) (Wq 1))))),?_⟩;walk_at"rd";refine⟨a.mt rfl,m,dr,df,dw,t,R,e.ky,rfl,a,d,p,Y3.mpr ⟨e,j,rfl⟩,fun G c=>?_⟩;have b:=a.mono c;exact⟨_,BL L b,_,rfl,_,.inr ⟨_,Ju e.ky,t,.inl b.dF,rfl,c _ _ d,(Ei a.nk j).symm⟩,q G c⟩
inductive L1(C CR:Wk)(vs:List V)(H:Hp)(Q:VK)(E:XK):Prop|mk (m dr df dw:Wk) (R:JM) (_:vs=[.ref m]) (_:Ww C CR H m dr df dw R) (_:R.es.length <=1000) (_:∀G,Ws H G->(R.es=[]->Q .non G)/\(∀n:Int,n∈R.es.map (fun e=>e.first+ R.wt)->(∀e∈R.es,n <=e.first+ R.wt)->Q (.int n) G))
abbrev AM:Stmt:=To (top 44) 7
theorem tR:Jx ["self"] ["self"] (Wp AM):=by walk_at"e"
theorem jY{f C CR:Wk}{fd:Wf}(F:JE K "ends_at" "Room.ends_at" AM f fd)(L:M8 K C)(B:Bt mg)(B2:GO mg):Wz P w K mg base Jf 1 f fd ["self"] (L1 C CR):=by
 refine F.ok tR (fun vs H Q E h=>?_) (fun cdv A outer s H vs Q E hr h=>?_)
 .obtain⟨m,dr,df,dw,R,rfl,_⟩:=h;rfl
 .obtain⟨m,dr,df,dw,R,rfl,a,hl,q⟩:=h;refine⟨_,(WH (Jd (yG (K:=K) rfl rfl rfl rfl B.min (by rfl) (E8 (Di (N':=["key","self"]) (caps:=[none,some 0]) (MR (sc:=Wp AM) (N:=["self"]) rfl rfl (by decide +kernel)) rfl (EX (Jv K (Wq 0))) (fun _ _ _ _ _=>(Ms (i:=0) (MB (N:=["key","self"]) rfl (by decide +kernel)) rfl (Or.inl rfl))) (fun _ _ _ _ _=>DC) (fun _ _ _ _ _=>(J9 (Jy NW) (Jt hr (Jv K (Wq 1)) (Wq 0)) (Jv K (Wq 1)))))) Mf))),?_⟩;walk_at"rd";obtain⟨nm1,y,nm3,nme⟩:=a.ne;have aa:(MU R.es).length=R.es.length:=Y1 ..;refine HB a.dF (fun Rr h=>by walk_at"rd";exact⟨_,BL L a,h⟩) (fun i ys σ'=>ys=((R.es.take i).map fun e=>V.int (e.first+ R.wt))/\∃v,σ'=[v,some (.ref m)]) ⟨rfl,_,rfl⟩ ?_ (by omega) ?_ ?_
  .rintro i ys σ' ⟨rfl,_⟩;rw[Y1,Yt];omega
  .rintro Hf o ab ac i b k v ys σ' hk hb ⟨rfl,v0,rfl⟩;obtain⟨e,d,rfl,rfl⟩:=Q7 hk;have u:=Yx d;have ad:b≠df:=Wr hb a.dF nofun;have j:K4 df H Hf:=fun c o h n=>by rw[ab c n];exact h
   have r:=fun o h=>j m o h y
   walk_at"rd";refine⟨_,a.fldO r L.cl L.firsts rfl,_,rfl,_,.inr ⟨_,_,b,.inr ⟨o,ac⟩,rfl,j b _ hb ad,(Ei a.nk u).symm⟩,_,a.fldO r L.cl L.wait rfl,_,rfl,_,rfl,?_⟩;rw[YK,d,Xc,Yf];rfl
  .rintro ys σ' ⟨rfl,_⟩ p G hp s1 x;rw[aa,YA (Y6 _)]at x;have em:(R.es.map fun e=>V.int (e.first+ R.wt))=(R.es.map fun e=>e.first+ R.wt).map V.int:=by rw[Yo];rfl
   rw[em]at x;obtain⟨q1,q2⟩:=q G s1;refine⟨p,rfl,_,WA.of x,fun h=>q1 (W2.mp h),fun v h1 h2=>q2 v h1 fun e d=>h2 _ (Y3.mpr ⟨e,d,rfl⟩)⟩
inductive IQ(K:Wi)(vs:List V)(H:Hp)(Q:VK)(E:XK):Prop|mk (a:Wk) (ns:Wl) (k:Nat) (_:vs=[.ref a,.int (k:Int)]) (_:WA K H a (ns.map V.int)) (_:∀c,Q (.int c) H)
abbrev HF:Stmt:=top 46
theorem uG:Jx ["_law_script","_law_k"] ["_law_script","_law_k"] (Wp HF):=by walk_at"e"
theorem wG{f:Wk}{fd:Wf}(F:JE K "_law_cell_at" "_law_cell_at" HF f fd)(B:Bt mg):Wz P w K mg base Jf 1 f fd ["_law_script","_law_k"] (IQ K):=by
 refine F.ok uG (fun vs H Q E h=>?_) (fun j A e s H vs Q E n h=>?_)
 .obtain⟨a,b,k,rfl,_⟩:=h;rfl
 .obtain⟨a,b,k,rfl,c,q⟩:=h;refine⟨_,(WB (JJ (JA (Jy Rp) (Wq 1) (N4 (MX (MV (K:=K) rfl)) B.len (Wx 0 Wu))) (WH (Jd (Mm K (Wq 0) (Wq 1)))) JV) (WH (Jd WE))),?_⟩;walk_at"rd";refine⟨_,.inl c,Tj (fun d=>?_) (fun d=>q 0)⟩;rw[Yb,Y1]at d;have i:k < b.length:=by omega
  exact⟨_,c,.int b[k],Gk (by rw[Y9,Y7 i];rfl),q _⟩
inductive Ca(vs:List V)(H:Hp)(Q:VK)(E:XK):Prop|mk (c k:Int) (_:vs=[.int c,.int k]) (_:0 <=k) (_:k <=100000) (_:∀m:Int,0 <=m->m < 2147483399->Q (.int m) H)
abbrev K8:Stmt:=top 47
theorem KY:Jx ["_law_cell","_law_k","_law_number"] ["_law_cell","_law_k"] (Wp K8):=by walk_at"e"
theorem xX{f:Wk}{fd:Wf}(F:JE K "_law_mixed" "_law_mixed" K8 f fd):Wz P w K mg base Jf 1 f fd ["_law_cell","_law_k"] Ca:=by
 refine F.ok KY (fun vs H Q E h=>?_) (fun d A a s H vs Q E e h=>?_)
 .obtain⟨c,k,rfl,_⟩:=h;rfl
 .obtain⟨c,k,rfl,i,h1,q⟩:=h;refine⟨_,(WB (JP 2 KY (J9 (dI Th) (J9 (dI Rw) (J9 (Jy NW) (J9 (Jy NW) (J9 (dI Th) (Wq 0) WE) (J9 (dI Rw) WE (Wq 1))) WE) WE) WE)) (WB (JP 2 KY (J9 (dI Th) (J9 (dI Rw) (Wq 2) (J9 (Jy NW) (J9 (dI B9) (Wq 2) WE) WE)) WE)) (WH (Jd (J9 (dI Th) (J9 (dI Rw) (J9 (Jy NW) (Wq 2) (J9 (dI Rw) WE (Wq 1))) (J9 (Jy NW) (J9 (dI B9) (Wq 2) WE) WE)) WE))))),?_⟩;walk_at"rd";have b:∀x y:Int,GL (x%2147483647+ 7*k) y:=fun x y=>.inl ⟨by omega,by omega⟩
  refine⟨by decide,.inl ⟨by decide,by decide⟩,.inr ⟨by decide,by decide⟩,by decide,⟨by decide,by decide⟩,xP _ _,by decide,.inl ⟨by decide,by decide⟩,⟨by decide,by decide⟩,b _ _,by decide,?_⟩;exact q _ (UB _ (by decide)) (Uc _ (by decide))
inductive Q9(vs:List V)(H:Hp)(Q:VK)(E:XK):Prop|mk (c:Int) (n:Nat) (_:vs=[.int c,.int (n:Int)]) (_:n <=10) (_:∀l (xs:Wl) G,H l=none->Ws H G->G l=some (.lst (xs.map V.int))->xs.length=n->(∀x∈xs,0 <=x/\x < 5040)->Q (.ref l) G)
abbrev Im:Stmt:=top 48
theorem BD:Jx ["_law_cell","_law_many","_law_found","_law_left","_law_k"] ["_law_cell","_law_many"] (Wp Im):=by walk_at"e"
theorem uD{f:Wk}{fd:Wf}(F:JE K "_law_digits" "_law_digits" Im f fd)(B:Bt mg)(Tb:N6 P w K mg base "_law_mixed" 1 ["_law_cell","_law_k"] [] Ca):Wz P w K mg base Jf 2 f fd ["_law_cell","_law_many"] Q9:=by
 refine F.ok BD (fun vs H Q E h=>?_) (fun cdv A outer s H vs Q E hr h=>?_)
 .obtain⟨c,n,rfl,_⟩:=h;rfl
 .obtain⟨c,n,rfl,hn,q⟩:=h;refine⟨_,(WB (JP 2 BD (Te Wu)) (WB (JP 3 BD (J9 (dI B9) (Wq 0) WE)) (WB (GT YT rfl (Ef rfl B.range (Wx 1 Wu)) (Tg 4 BD) (WB (DE (JJ (PW.pt (D3 (JA (TJ TH) (J9 (dI Th) (Wq 0) WE) WE) (DD (JA (Jy Gu) (Wq 3) WE)))) (WH (Ta (Md (K:=K) rfl Yr Yu Yv (Dc Da) (Wq 2) (J7 (hs:=Dm) (J9 (dI Th) (Wq 3) WE) Wu)))) (WH (Ta (Md (K:=K) rfl Yr Yu Yv (Dc Da) (Wq 2) (J7 (hs:=Dm) (J9 (dI Th) (JT Tb hr.m rfl (Wx 0 (Wx 4 Wu))) WE) Wu)))))) (WH (JP 3 BD (J9 (dI B9) (Wq 3) WE))))) (WH (Jd (Wq 2)))))),?_⟩;walk_at"rd";refine⟨Jc (by simp),fun p G hp s0 hG=>⟨⟨by decide,by decide⟩,by omega,by omega,?_⟩⟩;rw[YW];obtain⟨Pv,r⟩:∃Pv:Nat->L2.St->Hp->Prop,Pv=fun i σ' G=>∃ (a:Int) (v:Option V) (xs:Wl),σ'=[some (.int c),some (.int (n:Int)),some (.ref p),some (.int a),v]/\Ws H G/\G p=some (.lst (xs.map V.int))/\xs.length=i/\∀x∈xs,0 <=x/\x < 5040:=⟨_,rfl⟩
  refine HD Pv (by rw[r];exact⟨_,_,[],rfl,s0,hG,rfl,fun _ h=>nomatch h⟩) ?_ ?_ <;> rw[r]
  .rintro i σ' u hi ⟨a,v,xs,rfl,s1,h1,hl,hx⟩;rw[<-r];have hi6:i < n:=hi;walk_at"rd";refine⟨by decide,rfl,fun σ' G'=>∃ (x:Int) (v:Option V),σ'=[some (.int c),some (.int (n:Int)),some (.ref p),some (.int a),v]/\Ws H G'/\G' p=some (.lst ((xs++[x]).map V.int))/\0 <=x/\x < 5040,?_,?_⟩
   .have j:∀{x:Int} {d:Hp},JC p u d->d p=some (.lst (xs.map V.int++[.int x]))->Ws H d/\d p=some (.lst ((xs++[x]).map V.int)):=fun b e=>⟨s1.butNew b hp,by rw[e,Yf];rfl⟩
    have big:(xs.map V.int).length < sizeLine:=Tn (by rw[Y1];omega);have ty:A6 K "list" (.ref p) u:=.inl ⟨rfl,_,WA.of h1⟩
    have mx : A6 K "list" (.ref p) u /\ Ca [V.int c, V.int (0 + ↑i)] u (fun x H1 => ∃ m, x = V.int m /\ (0 : Int) < 5040 /\ ∃ ys, H1 p = some (HO.lst ys) /\ ys.length < sizeLine /\ ∀ (G : Hp), JC p H1 G -> G p = some (HO.lst (ys ++ [V.int (m % 5040)])) ->
      ∃ (x : Int) (v' : Option V), [some (V.int c), some (V.int (n : Int)), some (V.ref p), some (V.int a), some (V.int (0 + ↑i))] = [some (.int c), some (.int (n : Int)), some (.ref p), some (.int a), v'] /\ Ws H G /\ G p = some (.lst ((xs ++ [x]).map V.int)) /\ 0 <= x /\ x < 5040) E0 :=
     ⟨ty,c,_,rfl,by omega,by omega,fun m m0 m1=>⟨m,rfl,by decide,_,h1,big,fun d b2 e2=>⟨m%5040,_,rfl,(j b2 e2).1,(j b2 e2).2,by omega,by omega⟩⟩⟩
    refine Tj (fun _=>Tj (fun _=>?_) fun _=>mx) fun _=>mx
    exact⟨ty,by decide,_,h1,big,fun d b2 e2=>⟨a%5040,_,rfl,(j b2 e2).1,(j b2 e2).2,by omega,by omega⟩⟩
   .rintro σ2 d ⟨x,v',rfl,s2,h2,x0,x1⟩;walk_at"rd";refine⟨⟨by decide,by decide⟩,?_⟩;rw[r];refine⟨_,_,xs++[x],rfl,s2,h2,by rw[Ys,hl];rfl,fun y hy=>?_⟩;rcases YB.mp hy with z|z
    .exact hx y z
    .rw[Yg.mp z];exact⟨x0,x1⟩
  .rintro σ' u ⟨a,v,xs,rfl,s1,h1,hl,hx⟩;walk_at"rd";exact q p xs u hp s1 h1 hl hx
def JL:List (Int×Str×Str):=[(7,"ann","bo"),(7,"ann","bob"),(7,"bo","ann"),(8,"ann","bo"),(70,"an","bo"),(0,"a","a"),(65535,"zzzzzzzz","b")]
def Dn(n:Int):Int×Str×Str:=JL.getD (n%7).toNat (0,"a","a")
def Hu(k:Int×Str×Str):List V:=[.int k.1,.str k.2.1,.str k.2.2]
inductive Si(vs:List V)(H:Hp)(Q:VK)(E:XK):Prop|mk (n:Int) (_:vs=[.int n]) (_:∀t G,H t=none->Ws H G->G t=some (.tup (Hu (Dn n)))->Q (.ref t) G)
theorem E6{x y z:V}{σ:L2.St}{H:Hp}{Q:VK}(h:∀p G,H p=none->Ws H G->G p=some (.tup [x,y,z])->Q (.ref p) G):Az (D0 (tC x) (D0 (tC y) (D0 (tC z) Dx))) σ H Q:=⟨Jc (by simp),h⟩
abbrev Lq:Stmt:=top 49
theorem Py:Jx ["_law_digit","_law_some"] ["_law_digit"] (Wp Lq):=by walk_at"e"
theorem Zy{f:Wk}{fd:Wf}(F:JE K "_law_key" "_law_key" Lq f fd):Wz P w K mg base Jf 1 f fd ["_law_digit"] Si:=by
 refine F.ok Py (fun vs H Q E h=>?_) (fun cdv A outer s H vs Q E hr h=>?_)
 .obtain⟨n,rfl,_⟩:=h;rfl
 .obtain⟨n,rfl,q⟩:=h;refine⟨_,(@WB _ _ _ _ _ (@IR _ _ 1 _ _ _ _ (Py).nd rfl (Or.inl rfl) (@Te _ _ _ _ (@J7 _ _ _ _ _ (@NO _ _ _ _ _ (@J7 _ _ _ _ _ (@WE _ _ _ _) (@J7 _ _ _ _ _ (@WK _ _ _ _) (@J7 _ _ _ _ _ (@WK _ _ _ _) Wu TM) TM) TM)) (@J7 _ _ _ _ _ (@NO _ _ _ _ _ (@J7 _ _ _ _ _ (@WE _ _ _ _) (@J7 _ _ _ _ _ (@WK _ _ _ _) (@J7 _ _ _ _ _ (@WK _ _ _ _) Wu TM) TM) TM)) (@J7 _ _ _ _ _ (@NO _ _ _ _ _ (@J7 _ _ _ _ _ (@WE _ _ _ _) (@J7 _ _ _ _ _ (@WK _ _ _ _) (@J7 _ _ _ _ _ (@WK _ _ _ _) Wu TM) TM) TM)) (@J7 _ _ _ _ _ (@NO _ _ _ _ _ (@J7 _ _ _ _ _ (@WE _ _ _ _) (@J7 _ _ _ _ _ (@WK _ _ _ _) (@J7 _ _ _ _ _ (@WK _ _ _ _) Wu TM) TM) TM)) (@J7 _ _ _ _ _ (@NO _ _ _ _ _ (@J7 _ _ _ _ _ (@WE _ _ _ _) (@J7 _ _ _ _ _ (@WK _ _ _ _) (@J7 _ _ _ _ _ (@WK _ _ _ _) Wu TM) TM) TM)) Wu Mh) Mh) Mh) Mh) Mh)) (by rfl) (Or.inl rfl)) (@WH _ _ _ (@Jd _ _ _ _ (@DU _ _ _ _ _ _ _ (Gp (K:=K) rfl) (@J9 _ _ _ _ _ _ _ _ Eo (pv 1) (@Te _ _ _ _ (@J7 _ _ _ _ _ (@NO _ _ _ _ _ (@J7 _ _ _ _ _ (@WE _ _ _ _) (@J7 _ _ _ _ _ (@WK _ _ _ _) (@J7 _ _ _ _ _ (@WK _ _ _ _) Wu TM) TM) TM)) (@J7 _ _ _ _ _ (@NO _ _ _ _ _ (@J7 _ _ _ _ _ (@WE _ _ _ _) (@J7 _ _ _ _ _ (@WK _ _ _ _) (@J7 _ _ _ _ _ (@WK _ _ _ _) Wu TM) TM) TM)) Wu Mh) Mh))) (@J9 _ _ _ _ _ _ _ _ Th (pv 0) (@WE _ _ _ _)) (fun _ _=>rfl))))),?_⟩;refine WX fun N hN=>?_
  simp only[E1,BY,D0,Dx,Go,L2.start,List.map_cons,List.map_nil,List.length_cons,List.length_nil,Nat.reduceAdd,Nat.reduceSub,List.replicate,List.cons_append,List.nil_append,List.append_nil,List.set_cons_zero,List.set_cons_succ];refine E6 fun p1 G1 h1 y e1=>E6 fun p2 G2 h2 x e2=>E6 fun p3 G3 h3 u e3=>E6 fun p4 G4 h4 r e4=>E6 fun p5 G5 h5 j e5=>⟨Jc (by simp),fun l G6 hl c e6=>hN _ _ ?_⟩
  clear hN N;simp only[Fp,DM,BZ,tC,BY,D0,Dx,List.getElem?_cons_zero,List.getElem?_cons_succ,Option.some.injEq,exists_eq_left',exists_eq_left];refine E6 fun p6 G7 h7 s7 e7=>E6 fun p7 G8 h8 s8 e8=>⟨Jc (by simp),fun l2 G9 hl2 v e9=>?_⟩
  walk_at"rd";have b:=s7.trans (s8.trans v);refine⟨_,b _ _ e6,_,e9,Jc (by simp),fun l3 i hl3 a e10=>⟨by decide,_,WA.of e10,?_⟩⟩;have sT:Ws H i:=y.trans (x.trans (u.trans (r.trans (j.trans (c.trans (b.trans a))))));have key:∀p,(∃z,z p=none/\Ws H z)->(i p=some (.tup (Hu (Dn n))))->Q (.ref p) i:=fun p ⟨z,e,s'⟩ h=>q p i (s'.free e) sT h
  have hm:n%7=0\/n%7=1\/n%7=2\/n%7=3\/n%7=4\/n%7=5\/n%7=6:=by omega
  have t1:=x.trans (u.trans (r.trans (j.trans (c.trans (b.trans a)))));have t2:=u.trans (r.trans (j.trans (c.trans (b.trans a))));have t3:=r.trans (j.trans (c.trans (b.trans a)));have t4:=j.trans (c.trans (b.trans a));have t5:=c.trans (b.trans a);have t6:=s8.trans (v.trans a);have t7:=v.trans a;have sa:=y.trans x;have sb:=sa.trans u;have sc:=sb.trans r;have sd:=sc.trans j;have se:=sd.trans c;have sf:=se.trans s7;have d:∀m:Nat,n%7=(m:Int)->Dn n=JL.getD m (0,"a","a"):=fun m h=>by unfold Dn;rw[h];rfl
  rcases hm with h|h|h|h|h|h|h <;> rw[h]
  .exact⟨_,rfl,key p1 ⟨H,h1,Ws.refl _⟩ (by rw[d 0 h];exact t1 _ _ e1)⟩
  .exact⟨_,rfl,key p2 ⟨G1,h2,y⟩ (by rw[d 1 h];exact t2 _ _ e2)⟩
  .exact⟨_,rfl,key p3 ⟨G2,h3,sa⟩ (by rw[d 2 h];exact t3 _ _ e3)⟩
  .exact⟨_,rfl,key p4 ⟨G3,h4,sb⟩ (by rw[d 3 h];exact t4 _ _ e4)⟩
  .exact⟨_,rfl,key p5 ⟨G4,h5,sc⟩ (by rw[d 4 h];exact t5 _ _ e5)⟩
  .exact⟨_,rfl,key p6 ⟨G6,h7,se⟩ (by rw[d 5 h];exact t6 _ _ e7)⟩
  .exact⟨_,rfl,key p7 ⟨G7,h8,sf⟩ (by rw[d 6 h];exact t7 _ _ e8)⟩
inductive PQ(vs:List V)(H:Hp)(Q:VK)(E:XK):Prop|mk (c k:Int) (_:vs=[.int c,.int k]) (_:0 <=k) (_:k <=100) (_:∀l (ns:Wl) G,H l=none->Ws H G->G l=some (.lst (ns.map V.int))->1 <=ns.length->ns.length <=40->(∀x∈ns,0 <=x/\x <=255)->Q (.ref l) G)
abbrev AQ:Stmt:=top 50
theorem Sl:Jx ["_law_cell","_law_k","_law_many"] ["_law_cell","_law_k"] (Wp AQ):=by walk_at"e"
theorem dO{f:Wk}{fd:Wf}(F:JE K "_law_body" "_law_body" AQ f fd)(B:Bt mg)(Tb:N6 P w K mg base "_law_mixed" 1 ["_law_cell","_law_k"] [] Ca):Wz P w K mg base Jf 2 f fd ["_law_cell","_law_k"] PQ:=by
 refine F.ok Sl (fun vs H Q E h=>?_) (fun cdv A y s H vs Q E p h=>?_)
 .obtain⟨c,k,rfl,_⟩:=h;rfl
 .obtain⟨c,k,rfl,h0,h1,q⟩:=h;refine⟨_,(WB (JP 2 Sl (J9 (Jy NW) WE (J9 (dI Th) (JT Tb p.m rfl (Wx 0 (Wx 1 Wu))) WE))) (WH (Jd (Di (N':=["_law_j","_law_cell","_law_k"]) (caps:=[none,some 0,some 1]) (MR (sc:=Wp AQ) (N:=["_law_cell","_law_k","_law_many"]) rfl rfl (by decide +kernel)) rfl (Ef rfl B.range (Wx 2 Wu)) (fun _ _ _ _ _=>(Ms (i:=0) (MB (N:=["_law_j","_law_cell","_law_k"]) rfl (by decide +kernel)) rfl (Or.inl rfl))) (fun _ _ _ _ _=>DC) (fun _ _ _ _ _=>(J9 (dI Th) (J9 (dI B9) (JT Tb p.m rfl (Wx 1 (J7 (hs:=Dm) (J9 (Jy NW) (J9 (Jy NW) (J9 (dI Rw) WE (Wq 2)) WE) (Wq 0)) Wu))) WE) WE)))))),?_⟩;walk_at"rd";refine⟨c,k,rfl,h0,by omega,fun m m0 m1=>⟨_,rfl,by decide,by omega,by omega,?_⟩⟩;obtain⟨n,hn⟩:∃n:Nat,(1+ m%40).toNat=n:=⟨_,rfl⟩;rw[hn];obtain⟨j,b⟩:∃j:Nat->List V->L2.St->Hp->Prop,j=fun i ys σ' G=>∃ (a:Wl) (v:Option V),ys=a.map V.int/\a.length=i/\(∀x∈a,0 <=x/\x <=255)/\σ'=[v,some (.int c),some (.int k)]/\G=H:=⟨_,rfl⟩
  refine Cs j (by rw[b];exact⟨[],none,rfl,rfl,(fun _ h=>nomatch h),rfl,rfl⟩) ?_ (Jc (by omega)) ?_ ?_ <;> rw[b]
  .rintro i ys σ' G ⟨a,v,rfl,e,_⟩ _;rw[Y1];omega
  .rintro i ys σ' G hi ⟨a,v,rfl,e,d,rfl,rfl⟩;rw[<-b];walk_at"rd";refine⟨.inl ⟨by decide,by decide⟩,c,_,rfl,by omega,by omega,fun m' a0 a1=>⟨_,rfl,⟨by decide,by decide⟩,by decide,?_⟩⟩;rw[b];refine⟨a++[m' / 7%256],_,by rw[Yf];rfl,by simp[e],fun x hx=>?_,rfl,rfl⟩;rcases YB.mp hx with z|z
   .exact d x z
   .rw[Yg.mp z];omega
  .rintro ys σ' G ⟨a,v,rfl,e,d,rfl,rfl⟩ l G2 r s2 u;exact q l a G2 r s2 u (by omega) (by omega) d
structure Rk(H:Hp)(t tk b:Wk)(d:PD):Prop where
 ok:d.Ok
 k:d.k=false
 tp:H t=some (.tup [.ref tk,.int d.at',.ref b,.bl d.mo])
 ky:H tk=some (.tup (Hu d.key))
 bd:H b=some (.lst (d.ns.map V.int))
theorem Zg(n:Int):0 <=(Dn n).1/\(Dn n).1 <=65535/\NM (Dn n).2.1/\NM (Dn n).2.2:=by
 have h:∀m:_root_.Fin 7,0 <=(JL.getD m.val (0,"a","a")).1/\(JL.getD m.val (0,"a","a")).1 <=65535/\NM (JL.getD m.val (0,"a","a")).2.1/\NM (JL.getD m.val (0,"a","a")).2.2:=by
  unfold NM
  decide +kernel
 exact h ⟨(n%7).toNat,by omega⟩
theorem bC{n k:Nat}(h:k < n):GY n (k:Int)=some k:=by
 unfold GY;rw[Y5 (by omega),Y5 (by omega)];rfl
structure P2(A L:Nat)(lo:Nat)(ms:Wl)(mo:Bool):Prop where
 l8:lo%8=0
 lA:lo <=A
 m1:1 <=ms.length
 mL:ms.length <=L
 by':∀x∈ms,0 <=x/\x <=255
 m8:mo=true->ms.length%8=0
inductive Qe(vs:List V)(H:Hp)(Q:VK)(E:XK):Prop|mk (l lg:Wk) (bs:List Addr) (xs:Wl) (_:vs=[.ref l,.ref lg]) (_:H l=some (.lst (bs.map V.ref))) (_:1 <=bs.length) (_:bs.length <=7) (_:(∀b∈bs,∃ns:List Int,H b=some (.lst (ns.map V.int))/\1 <=ns.length/\ns.length <=40/\∀x∈ns,0 <=x/\x <=255)) (_:H lg=some (.lst (xs.map V.int))) (_:6 <=xs.length) (_:(∀x∈xs,0 <=x/\x < 5040)) (_:∀t tk b d G i,H t=none->H tk=none->H b=none->Ws H G->Rk G t tk b d->d.key=Dn i->0 <=i->i < bs.length->d.ns.length <=41->Q (.ref t) G)
abbrev Ie:Stmt:=top 51
theorem GZ:Jx ["_law_bodies","_law_digits_here","_law_at","_law_body_here","_law_low","_law_high","_law_some","_law_more","_law_way"] ["_law_bodies","_law_digits_here"] (Wp Ie):=by walk_at"e"
theorem gK{f:Wk}{fd:Wf}(F:JE K "_law_piece" "_law_piece" Ie f fd)(B:Bt mg)(GN:N6 P w K mg base "_law_key" 1 ["_law_digit"] [] Si):Wz P w K mg base Jf 2 f fd ["_law_bodies","_law_digits_here"] Qe:=by
 refine F.ok GZ (fun vs H Q E h=>?_) (fun cdv A outer s H vs Q E hr h=>?_)
 .obtain⟨l,lg,bs,xs,rfl,_⟩:=h;rfl
 .obtain⟨l,lg,bs,xs,rfl,hl,hb1,hb2,hbs,aa,hx6,hx,q⟩:=h;refine⟨_,(WB (JP 2 GZ (J9 (dI Th) (Mm K (Wq 1) WE) (N4 (MX (MV (K:=K) rfl)) B.len (Wx 0 Wu)))) (WB (JP 3 GZ (Mm K (Wq 0) (Wq 2))) (WB (JP 4 GZ (J9 (dI Rw) WE (J9 (dI Th) (Mm K (Wq 1) WE) (J9 (dI B9) (J9 (Jy NW) (N4 (MX (MV (K:=K) rfl)) B.len (Wx 3 Wu)) WE) WE)))) (WB (JP 5 GZ (N4 (OP rfl) B.min (MG (N4 (MX (MV (K:=K) rfl)) B.len (Wx 3 Wu)) (J7 (hs:=Dm) (J9 (Jy NW) (Wq 4) (J9 (dI Rw) WE (J9 (Jy NW) WE (J9 (dI Th) (Mm K (Wq 1) WE) WE)))) Wu)))) (WB (JP 6 GZ (Bu (Q8 (QF (K:=K) rfl)) rfl B.blist (by rfl) (NT (Qk (PN (PH (K:=K) rfl)) (Wq 3) (C4 (Wq 4)) (C4 (Wq 5))) Wu))) (WB (JP 7 GZ (Mp (Jy Rp) (Wq 5) (N4 (MX (MV (K:=K) rfl)) B.len (Wx 3 Wu)) (MI _))) (WB (JP 8 GZ (J9 (dI Th) (Mm K (Wq 1) WE) WE)) (WB (DE (JJ (JA (TJ TH) (Wq 8) WE) (WH (EB (J9 (dI Th) (Mm K (Wq 1) WE) WE) (rB (Wq 6) (J9 (dI Th) (Mm K (Wq 1) WE) (N4 (MX (MV (K:=K) rfl)) B.len (Wx 6 Wu))) uS))) JV)) (WB (DE (JJ (JA (TJ TH) (Wq 8) WE) (WH (JP 4 GZ (J9 (Jy NW) (Wq 4) WE))) JV)) (WB (DE (JJ (PW.pt (D3 (JA (TJ TH) (Wq 8) WE) (DD (JA (TJ TH) (J9 (dI Th) (N4 (MX (MV (K:=K) rfl)) B.len (Wx 6 Wu)) WE) WE)))) (WH (JP 7 GZ (CY (Wq 7)))) JV)) (WB (DE (JJ (PW.pt (D3 (JA (TJ TH) (Wq 8) WE) (DD (MA (Tx (Wq 7)))))) (WH (Ta (Md (K:=K) rfl Yr Yu Yv (Dc Da) (Wq 6) (J7 (hs:=Dm) (J9 (dI Th) (Mm K (Wq 1) WE) WE) Wu)))) JV)) (WB (DE (JJ (PW.pt (D3 (JA (TJ TH) (Wq 8) WE) (D3 (MA (Tx (Wq 7))) (DD (JA (Jy Gu) (N4 (MX (MV (K:=K) rfl)) B.len (Wx 6 Wu)) WE))))) (WH (Ta (Bd (K:=K) rfl Yr PySem.F.slot_list_pop PySem.F.type_list_pop jF (Wq 6)))) JV)) (WH (Jd (NO (MG (JT GN hr.m rfl (Wx 2 Wu)) (Wx 4 (Wx 6 (Wx 7 Wu))))))))))))))))))),?_⟩;have hat:∀i:Nat,i < 6->∃x,Mn (xs.map V.int) (i:Int)=some (.int x)/\0 <=x/\x < 5040:=fun i hi=>by
   have h:i < xs.length:=by omega
   exact⟨xs[i],Gk (by rw[Y9,Y7 h];rfl),hx _ (Xk h)⟩
  obtain⟨x0,a0,b0,c0⟩:=hat 0 (by omega);obtain⟨x1,a1,b1,c1⟩:=hat 1 (by omega);obtain⟨x2,a2,b2,c2⟩:=hat 2 (by omega);obtain⟨x3,a3,b3,c3⟩:=hat 3 (by omega);obtain⟨x4,a4,b4,c4⟩:=hat 4 (by omega);obtain⟨x5,a5,b5,c5⟩:=hat 5 (by omega);have hlm:(bs.map V.ref).length=bs.length:=Y1 ..;refine WX fun N n=>?_
  walk_at"rd";refine⟨_,WA.of aa,_,a0,_,.inl (WA.of hl),_,rfl,by rw[hlm];omega,n _ _ ?_⟩;clear n N;rw[hlm];obtain⟨i,hi⟩:∃i:Nat,x0%(bs.length:Int)=i:=⟨(x0%(bs.length:Int)).toNat,by rw[W3 (UB _ (by omega))]⟩;have hib:i < bs.length:=by have:=Uc x0 (show(0:Int) < bs.length by omega);omega
  rw[hi];obtain⟨ns,hns,n1,n2,n3⟩:=hbs bs[i] (Xk hib);have hnl:(ns.map V.int).length=ns.length:=Y1 ..;refine WX fun N n=>?_
  walk_at"rd";refine⟨_,WA.of hl,_,Gk (by rw[Y9,Y7 hib];rfl),n _ _ ?_⟩;clear n N;generalize bs[i]=b at hns;refine WX fun N n=>?_
  walk_at"rd";obtain⟨m,hm⟩:∃m:Nat,(ns.length+ 7) / 8=m:=⟨_,rfl⟩;have hmI:((ns.length:Int)+ 7) / 8=m:=by omega
  have e1:=UB x1 (show(m:Int)≠0 by omega);have e2:=Uc x1 (show(0:Int) < m by omega);obtain⟨r,hr1⟩:∃r:Nat,x1%(m:Int)=r:=⟨(x1%(m:Int)).toNat,by omega⟩;refine⟨_,WA.of aa,_,a1,_,.inl (WA.of hns),⟨by decide,by decide⟩,_,rfl,?_⟩;rw[hnl,hmI,hr1];have e3:(8:Int)*r=((8*r:Nat):Int):=by omega
  rw[e3];refine⟨by omega,.inl ⟨by decide,by decide⟩,n _ _ ?_⟩;clear n N;obtain⟨lo,hlo⟩:∃lo:Nat,8*r=lo:=⟨_,rfl⟩;rw[hlo];have hlt:lo < ns.length:=by omega
  refine WX fun N n=>?_
  walk_at"rd";obtain⟨hi,hhi⟩:∃hi:Nat,min ns.length (lo+ 8*(1+ (x2%3).toNat))=hi:=⟨_,rfl⟩;have hh1:lo < hi/\hi <=ns.length/\hi - lo <=24/\(hi=ns.length\/(hi - lo)%8=0):=by omega
  have ehi:(if(lo:Int)+ 8*(1+ x2%3) < (ns.length:Int) then(lo:Int)+ 8*(1+ x2%3) else(ns.length:Int))=hi:=by split <;> omega
  refine⟨_,.inl (WA.of hns),_,WA.of aa,_,a2,_,rfl,by decide,.inl ⟨by decide,by decide⟩,?_⟩;rw[hnl,ehi];refine n _ _ ?_;clear n N ehi;refine WX fun N n=>?_
  walk_at"rd";refine⟨_,WA.of hns,fun l1 G1 hl1 s1 h1=>⟨_,.inl (WA.of h1),fun ls G2 hls s2 h2=>n _ _ ?_⟩⟩;clear n N;rw[xZ ns (XE hh1.1) hh1.2.1]at h2;have s02:=s1.trans s2;have hls0:H ls=none:=s1.free hls;refine WX fun N n=>?_
  walk_at"rd";refine⟨_,.inl (WA.of (s02 b _ hns)),?_⟩;rw[hnl];refine n _ _ ?_;clear n N;refine WX fun N n=>?_
  walk_at"rd";refine⟨_,WA.of (s02 lg _ aa),_,a3,_,rfl,by decide,n _ _ ?_⟩;clear n N;obtain⟨mo,hmo⟩:∃mo:Bool,decide ((hi:Int) < ns.length)=mo:=⟨_,rfl⟩;obtain⟨j,hms⟩:∃j:List Int,(ns.drop lo).take (hi - lo)=j:=⟨_,rfl⟩;have hml:j.length=hi - lo:=by rw[<-hms,Yt,UZ];omega
  have p : P2 40 24 lo j mo := ⟨by omega, by omega, by omega, by omega, fun x hx => n3 x (List.mem_of_mem_drop (Vd (by rw [hms]; exact hx))), fun h => by
   rw [h] at hmo;have := X5 hmo;omega⟩
  rw[hmo];rw[hms]at h2;clear hms hml hmo;obtain⟨v,hway⟩:∃v:Int,x3%24=v:=⟨_,rfl⟩;rw[hway];obtain⟨R,u⟩:∃R:Nat->Nat->L2.St->Hp->Prop,R=fun A L σ' G'=>∃ (lo:Nat) (j:Wl) (mo:Bool),σ'=[some (.ref l),some (.ref lg),some (.int i),some (.ref b),some (.int lo),some (.int hi),some (.ref ls),some (.bl mo),some (.int v)]/\Ws H G'/\G' ls=some (.lst (j.map V.int))/\P2 A L lo j mo:=⟨_,rfl⟩
  have hR:R 40 24 [some (.ref l),some (.ref lg),some (.int i),some (.ref b),some (.int lo),some (.int hi),some (.ref ls),some (.bl mo),some (.int v)] G2:=by rw[u];exact⟨lo,j,mo,rfl,s02,h2,p⟩
  have lset:∀ (j:Wl) (k:Nat) (y:Int),(j.map V.int).set k (.int y)=(j.set k y).map V.int:=fun j k y=>by rw[List.map_set]
  refine WX fun N n=>?_
  refine⟨R 40 24,?_,fun σa Ga ha=>n σa Ga ?_⟩
  .walk_at"rd";refine⟨rfl,Tj (fun _=>?_) fun _=>hR⟩;obtain⟨k,hk⟩:∃k:Nat,x4%((j.map V.int).length:Int)=k:=⟨(x4%((j.map V.int).length:Int)).toNat,by rw[W3 (UB _ (by rw[Y1];have:=p.m1;omega))]⟩;have hk2:k < (j.map V.int).length:=by have:=Uc x4 (show(0:Int) < (j.map V.int).length by rw[Y1];have:=p.m1;omega);omega
   refine⟨_,WA.of (s02 lg _ aa),_,a5,_,rfl,by decide,_,WA.of (s02 lg _ aa),_,a4,_,.inl (WA.of h2),_,rfl,by omega,_,h2,?_⟩;rw[hk];refine⟨k,bC hk2,fun G3 b3 e3=>?_⟩;rw[u];rw[lset]at e3;refine⟨lo,_,mo,rfl,s02.butNew b3 hls0,e3,⟨p.l8,p.lA,by rw[V8];exact p.m1,by rw[V8];exact p.mL,fun x hx=>?_,by rw[V8];exact p.m8⟩⟩;rcases List.mem_or_eq_of_mem_set hx with z|z
   .exact p.by' x z
   .rw[z];omega
  clear n N hR p h2;refine WX fun N n=>?_
  refine⟨R 48 24,?_,fun σb Gb hb=>n σb Gb ?_⟩
  .rw[u]at ha;obtain⟨lo,j,mo,rfl,s,h,c⟩:=ha;walk_at"rd";refine⟨rfl,Tj (fun _=>?_) fun _=>?_⟩ <;> rw[u]
   .exact⟨lo+ 8,j,mo,by simp,s,h,⟨by have:=c.l8;omega,by have:=c.lA;omega,c.m1,c.mL,c.by',c.m8⟩⟩
   .exact⟨lo,j,mo,rfl,s,h,⟨c.l8,by have:=c.lA;omega,c.m1,c.mL,c.by',c.m8⟩⟩
  clear n N ha;refine WX fun N n=>?_
  refine⟨R 48 24,?_,fun σc Gc hc=>n σc Gc ?_⟩
  .rw[u]at hb;obtain⟨lo,j,mo,rfl,s,h,c⟩:=hb;have stay:R 48 24 [some (.ref l),some (.ref lg),some (.int i),some (.ref b),some (.int lo),some (.int hi),some (.ref ls),some (.bl mo),some (.int v)] Gb:=by rw[u];exact⟨lo,j,mo,rfl,s,h,c⟩
   walk_at"rd";refine⟨rfl,Tj (fun _=>⟨_,.inl (WA.of h),by decide,rfl,Tj (fun h8=>?_) fun _=>stay⟩) fun _=>stay⟩;rw[u];rw[Yb,Y1]at h8;exact⟨lo,j,!mo,rfl,s,h,⟨c.l8,c.lA,c.m1,c.mL,c.by',fun _=>by omega⟩⟩
  clear n N hb;refine WX fun N n=>?_
  refine⟨R 48 25,?_,fun σd Gd hd=>n σd Gd ?_⟩
  .rw[u]at hc;obtain⟨lo,j,mo,rfl,s,h,c⟩:=hc;have stay:R 48 25 [some (.ref l),some (.ref lg),some (.int i),some (.ref b),some (.int lo),some (.int hi),some (.ref ls),some (.bl mo),some (.int v)] Gc:=by rw[u];exact⟨lo,j,mo,rfl,s,h,⟨c.l8,c.lA,c.m1,by have:=c.mL;omega,c.by',c.m8⟩⟩
   walk_at"rd";refine⟨rfl,Tj (fun _=>Tj (fun hm=>?_) fun _=>stay) fun _=>stay⟩;refine⟨.inl ⟨rfl,_,WA.of h⟩,_,WA.of (s lg _ aa),_,a5,_,rfl,by decide,_,h,Tn (by rw[Y1];have:=c.mL;omega),fun G3 b3 e3=>?_⟩;rw[u];refine⟨lo,j++[x5%256],mo,rfl,s.butNew b3 hls0,by rw[e3,Yf];rfl,⟨c.l8,c.lA,by simp,by rw[Ys];have:=c.mL;simp;omega,fun x hx=>?_,fun z=>by rw[z]at hm;simp at hm⟩⟩;rcases YB.mp hx with z|z
   .exact c.by' x z
   .rw[Yg.mp z];omega
  clear n N hc;refine WX fun N n=>?_
  refine⟨R 48 25,?_,fun σe Ge he=>n σe Ge ?_⟩
  .rw[u]at hd;obtain⟨lo,j,mo,rfl,s,h,c⟩:=hd;have stay:R 48 25 [some (.ref l),some (.ref lg),some (.int i),some (.ref b),some (.int lo),some (.int hi),some (.ref ls),some (.bl mo),some (.int v)] Gd:=by rw[u];exact⟨lo,j,mo,rfl,s,h,c⟩
   walk_at"rd";refine⟨rfl,Tj (fun _=>Tj (fun hm=>⟨_,.inl (WA.of h),Tj (fun hl1=>?_) fun _=>stay⟩) fun _=>stay) fun _=>stay⟩;rw[Yb,Y1]at hl1;have hlast:(j.map V.int).length - 1 < (j.map V.int).length:=by rw[Y1];omega
   refine⟨.inl ⟨rfl,_,WA.of h⟩,_,h,_,Y7 hlast,fun G3 b3 e3=>?_⟩;rw[u];refine⟨lo,j.dropLast,mo,rfl,s.butNew b3 hls0,by rw[e3,List.map_dropLast],⟨c.l8,c.lA,by rw[V9];omega,by rw[V9];have:=c.mL;omega,fun x hx=>c.by' x (List.dropLast_subset _ hx),fun z=>by rw[z]at hm;simp at hm⟩⟩
  clear n N hd;rw[u]at he;obtain⟨lo,j,mo,rfl,s,h,c⟩:=he;walk_at"rd";refine⟨i,rfl,fun tk G3 htk s3 e3=>⟨Jc (by simp),fun t G4 ht s4 e4=>?_⟩⟩;obtain⟨d,ed⟩:∃d:PD,d=⟨(Dn i).1,(Dn i).2.1,(Dn i).2.2,lo,j,mo,false⟩:=⟨_,rfl⟩;have dk:d.key=Dn i:=by rw[ed];rfl
  have dok:d.Ok:=by
   obtain⟨k1,k2,k3,k4⟩:=Zg i;rw[ed];refine⟨k1,k2,k3,k4,c.m1,by have:=c.mL;show j.length <=4000;omega,c.by',by show(0:Int) <=lo;omega,by have:=c.l8;show(lo:Int)%8=0;omega,?_⟩;show E2 lo j.length mo=true;have c1:=c.lA;have c2:=c.mL;unfold E2;cases mo with
   |true=>
    have:=c.m8 rfl;simp only[if_true,X0,Yb];omega
   |false=>simp only[Bool.false_eq_true,if_false,Yb];omega
  have dns:d.ns=j:=by rw[ed]
  have s34:=s3.trans s4;refine q t tk ls d G4 i (s.free (s3.free ht)) (s.free htk) hls0 (s.trans s34) ⟨dok,by rw[ed],?_,?_,by rw[dns];exact s34 _ _ h⟩ dk (by omega) (by omega) (by rw[dns];have:=c.mL;omega)
  .rw[e4,ed]
  .rw[dk];exact s4 _ _ e3
end
def GG(a:Wk)(en:Option Int)(re:Int):List (WO×V):=[(Sum.inr "bytes",.ref a),(Sum.inr "end",oV en),(Sum.inr "most",.int re)]
theorem Ob(a:Wk)(en:Option Int)(re:Int):WM (GG a en re) (Sum.inr "bytes")=some (.ref a):=by rfl
theorem n9(a:Wk)(en:Option Int)(re:Int):WM (GG a en re) (Sum.inr "end")=some (oV en):=by rfl
theorem OD(a:Wk)(en:Option Int)(re:Int):WM (GG a en re) (Sum.inr "most")=some (.int re):=by rfl
theorem vT(a:Wk)(en:Option Int)(re m:Int):TC (GG a en re) (Sum.inr "most") (.int m)=GG a en m:=by rfl
theorem wO(a:Wk)(en:Option Int)(re e:Int):TC (GG a en re) (Sum.inr "end") (.int e)=GG a (some e) re:=by rfl
structure M9(H:Hp)(h a:Wk)(rs:RS):Prop where
 hd:H h=some (.dK (GG a rs.en rs.re))
 bs:H a=some (.dK (Ml rs.st))
 ne:h≠a
section
variable{P:Wc}{w:Wh}{K:Wi}{mg:W8}{base:Wn}{H G:Hp}{h a t tk b:Wk}{rs:RS}{d:PD}
theorem M9.mono(s:Ws H G)(k:M9 H h a rs):M9 G h a rs:=⟨s _ _ k.hd,s _ _ k.bs,k.ne⟩
theorem Rk.mono(s:Ws H G)(k:Rk H t tk b d):Rk G t tk b d:=⟨k.ok,k.k,s _ _ k.tp,s _ _ k.ky,s _ _ k.bd⟩
theorem M9.gb(k:M9 H h a rs):Nx H h (.str "bytes") (some (.ref a)):=by
 have:=Nx.k (k:=Sum.inr "bytes") k.hd;rwa [Ob]at this
theorem M9.ge(k:M9 H h a rs):Nx H h (.str "end") (some (oV rs.en)):=by
 have:=Nx.k (k:=Sum.inr "end") k.hd;rwa [n9]at this
theorem M9.gm(k:M9 H h a rs):Nx H h (.str "most") (some (.int rs.re)):=by
 have:=Nx.k (k:=Sum.inr "most") k.hd;rwa [OD]at this
inductive PP(vs:List V)(H:Hp)(Q:VK)(E:XK):Prop|mk (h a t tk b:Wk) (rs:RS) (d:PD) (_:vs=[.ref h,.ref t]) (_:M9 H h a rs) (_:Rk H t tk b d) (_:Q (.bl (strange rs d)) H)
abbrev KB:Stmt:=top 52
theorem ES:Jx ["_law_heap_here","_law_piece_here","_law_key_here","_law_at","_law_body_here","_law_more","_law_end"] ["_law_heap_here","_law_piece_here"] (Wp KB):=by walk_at"e"
theorem yT{f:Wk}{fd:Wf}(F:JE K "_law_strange" "_law_strange" KB f fd)(B:Bt mg):Wz P w K mg base Jf 1 f fd ["_law_heap_here","_law_piece_here"] PP:=by
 refine F.ok ES (fun vs H Q E h=>?_) (fun y A u s H vs Q E c h=>?_)
 .obtain⟨h,a,t,tk,b,rs,d,rfl,_⟩:=h;rfl
 .obtain⟨h,a,t,tk,b,rs,d,rfl,j,p,q⟩:=h;refine⟨_,(WB (EB (Wq 1) (GM (K:=K) (n:=4) rfl rfl (TL (Tg 2 ES) (TL (Tg 3 ES) (TL (Tg 4 ES) (TL (Tg 5 ES) GV)))))) (WB (JP 6 ES (J9 (Jy NW) (Wq 3) (N4 (MX (MV (K:=K) rfl)) B.len (Wx 4 Wu)))) (WB (JJ (JA A2 (Jt c (Wq 0) WK) Mf) (WH (Jd (MJ (CY (Wq 5)) (Dj (Mp (Jy GU) (Wq 6) (Jt c (Wq 0) WK) (MI _)))))) JV) (WH (Jd (Zh (Mp (Jy Gu) (Wq 6) (Jt c (Wq 0) WK) (MI _)) (Zh (MJ (Wq 5) (Dj (Mp (TJ TH) (Wq 6) (Jt c (Wq 0) WK) (MI _)))) (Dj (MJ (CY (Wq 5)) (Dj (Mp (RC Rz) (Wq 6) (Jt c (Wq 0) WK) (MI _)))))))))))),?_⟩;walk_at"rd";refine⟨_,Ja.of p.tp,rfl,_,_,rfl,_,_,rfl,_,_,rfl,_,_,rfl,rfl,b,rfl,_,.inl (WA.of p.bd),_,rfl,_,j.ge,?_⟩;rw[Y1];unfold strange at q;cases he:rs.en with
  |none=>
   rw[he]at q;rw[Y5 (by simp[oV])];refine⟨_,rfl,?_⟩;cases hm:d.mo with
   |true=>rw[hm]at q;exact q
   |false=>rw[hm]at q;exact⟨_,j.gm,_,rfl,q⟩
  |some e=>
   rw[he]at q;have i:=j.ge;rw[he]at i;rw[Y2 (by simp[oV])];refine⟨_,i,_,rfl,?_⟩;have r:∀x:Int,(V.int x=oV (some e))↔x=e:=fun x=>by simp[oV]
   cases hm:d.mo with
   |true=>
    rw[hm]at q;dsimp only at q;refine Tj (fun h1=>?_) fun h1=>⟨_,rfl,?_⟩
    .rw[Yb]at h1;rwa [Y5 rfl,Yd (show e <=d.at'+ d.ns.length by omega)]at q
    .rw[Yb]at h1;rw[Y5 rfl];refine⟨_,i,rfl,Tj (fun h2=>?_) fun h2=>⟨_,rfl,?_⟩⟩
     .rw[Yb,r]at h2;rwa [Y5 rfl,Yd (show e <=d.at'+ d.ns.length by omega)]at q
     .rw[Yb,r]at h2;rw[Y2 (by simp)];rwa [Y5 rfl,Yp (show ¬e <=d.at'+ d.ns.length by omega)]at q
   |false=>
    rw[hm]at q;rw[Y2 (by simp)]at q;dsimp only at q;refine Tj (fun h1=>?_) fun h1=>⟨_,rfl,?_⟩
    .rw[Yb]at h1;rwa [Yp (show ¬d.at'+ d.ns.length=e by omega)]at q
    .rw[Y2 (by simp)];refine⟨_,rfl,?_⟩;rw[Y5 (by rfl)];refine⟨_,i,rfl,?_⟩;have v:(!decide (V.int (d.at'+ ↑d.ns.length)=oV (some e)))= !decide (d.at'+ (d.ns.length:Int)=e):=by simp[oV]
     rw[v];exact q
inductive Pu(vs:List V)(H:Hp)(Q:VK)(E:XK):Prop|mk (h a t tk b:Wk) (rs:RS) (d:PD) (_:vs=[.ref h,.ref t]) (_:M9 H h a rs) (_:Rk H t tk b d) (_:Q (oV (Nm rs.st d.at' d.ns)) H)
abbrev KF:Stmt:=top 53
theorem Bk:Jx ["_law_heap_here","_law_piece_here","_law_key_here","_law_at","_law_body_here","_law_more","_law_k"] ["_law_heap_here","_law_piece_here"] (Wp KF):=by walk_at"e"
theorem eC{f:Wk}{fd:Wf}(F:JE K "_law_unlike" "_law_unlike" KF f fd)(B:Bt mg):Wz P w K mg base Jf 1 f fd ["_law_heap_here","_law_piece_here"] Pu:=by
 refine F.ok Bk (fun vs H Q E h=>?_) (fun cdv A ab s H vs Q E y h=>?_)
 .obtain⟨h,a,t,tk,b,rs,d,rfl,_⟩:=h;rfl
 .obtain⟨h,a,t,tk,b,rs,d,rfl,r,j,q⟩:=h;refine⟨_,(WB (EB (Wq 1) (GM (K:=K) (n:=4) rfl rfl (TL (Tg 2 Bk) (TL (Tg 3 Bk) (TL (Tg 4 Bk) (TL (Tg 5 Bk) GV)))))) (WB (GT YT rfl (Ef rfl B.range (MG (N4 (MX (MV (K:=K) rfl)) B.len (Wx 4 Wu)) Wu)) (Tg 6 Bk) (WH (JJ (JA (RO (K:=K) (Room.units y) rfl) (Md (K:=K) rfl YJ V4 VU Zw (Jt y (Wq 0) WK) (J7 (hs:=Dm) (J9 (Jy NW) (Wq 3) (Wq 6)) (NT (Mm K (Wq 4) (Wq 6)) Wu))) (Mm K (Wq 4) (Wq 6))) (WH (Jd (J9 (Jy NW) (Wq 3) (Wq 6)))) JV))) (WH (Jd Mf)))),?_⟩;walk_at"rd";have l2:=j.ok.l2;have z:(d.ns.map V.int).length=d.ns.length:=Y1 ..;refine⟨_,Ja.of j.tp,rfl,_,_,rfl,_,_,rfl,_,_,rfl,_,_,rfl,rfl,b,rfl,_,.inl (WA.of j.bd),by omega,by omega,?_⟩;rw[z,YW];obtain⟨u,c⟩:∃u:Nat->L2.St->Hp->Prop,u=fun i σ' G=>∃ (v:Option V),σ'=[some (.ref h),some (.ref t),some (.ref tk),some (.int d.at'),some (.ref b),some (.bl d.mo),v]/\G=H/\Nm rs.st d.at' d.ns=Nm rs.st (d.at'+ (i:Nat)) (d.ns.drop i):=⟨_,rfl⟩
  refine HD u (by rw[c];exact⟨_,rfl,rfl,by simp⟩) ?_ ?_ <;> rw[c]
  .rintro i σ' G hi ⟨v,rfl,rfl,e⟩;rw[<-c];walk_at"rd";have hn:d.ns[i]?=some d.ns[i]:=Y7 hi;have p:Mn (d.ns.map V.int) (0+ (i:Int))=some (.int d.ns[i]):=by rw[XN];exact Gk (by rw[Y9,hn];rfl)
   refine⟨_,r.gb,?_,_,WA.of j.bd,_,p,_,rfl,_,r.bs,_,WA.of j.bd,_,p,?_⟩
   .exact .inr (.inr (.inl ⟨rfl,.inl ⟨_,r.bs⟩⟩))
   rw[XN,Rb];have aa:d.ns.drop i=d.ns[i]::d.ns.drop (i+ 1):=UC hi;rw[aa]at e;have ei:d.at'+ (i:Int)+ 1=d.at'+ ((i+ 1:Nat):Int):=by omega
   rw[show Nm rs.st (d.at'+ (i:Nat)) (d.ns[i]::d.ns.drop (i+ 1))=(match Jz rs.st (d.at'+ (i:Nat)) with|some x=>if x=d.ns[i] then Nm rs.st (d.at'+ (i:Nat)+ 1) (d.ns.drop (i+ 1)) else some (d.at'+ (i:Nat))|none=>Nm rs.st (d.at'+ (i:Nat)+ 1) (d.ns.drop (i+ 1))) from rfl,ei]at e;cases hg:Jz rs.st (d.at'+ i) with
   |none=>
    rw[hg]at e;refine⟨_,_,.int _,.int _,rfl,rfl,?_⟩;refine⟨_,rfl,?_⟩;rw[Y2 (by simp[PyData.eqv]),c];exact⟨_,rfl,rfl,e⟩
   |some x=>
    rw[hg]at e;refine⟨_,_,.int _,.int _,rfl,rfl,?_⟩;refine⟨_,rfl,?_⟩
    by_cases hx:x=d.ns[i]
    .rw[Y2 (by simp[PyData.eqv,hx]),c];exact⟨_,rfl,rfl,e.trans (Y5 hx)⟩
    .rw[Y5 (by simp[PyData.eqv,hx])];rw[e.trans (Y2 hx)]at q;exact q
  .rintro σ' G ⟨v,rfl,rfl,e⟩;walk_at"rd";rw[VL (Y6 _)]at e;rw[e]at q;exact q
inductive Oh(vs:List V)(H:Hp)(Q:VK)(E:XK):Prop|mk (h a t tk b:Wk) (ru:Str) (rs:RS) (d:PD) (_:vs=[.ref h,.ref t,.str ru]) (_:M9 H h a rs) (_:Rk H t tk b d) (_:rs.st.length <=20000) (_:∀G,N9 h a H G->M9 G h a (JB (decide (ru="last")) rs d)->Q .non G)
abbrev K9:Stmt:=top 54
theorem Ba:Jx ["_law_heap_here","_law_piece_here","_law_rule","_law_key_here","_law_at","_law_body_here","_law_more","_law_k"] ["_law_heap_here","_law_piece_here","_law_rule"] (Wp K9):=by walk_at"e"
theorem bZ{f:Wk}{fd:Wf}(F:JE K "_law_put" "_law_put" K9 f fd)(B:Bt mg):Wz P w K mg base Jf 1 f fd ["_law_heap_here","_law_piece_here","_law_rule"] Oh:=by
 refine F.ok Ba (fun vs H Q E h=>?_) (fun cdv A outer s H vs Q E hr h=>?_)
 .obtain⟨h,a,t,tk,b,ru,rs,d,rfl,_⟩:=h;rfl
 .obtain⟨h,a,t,tk,b,ru,rs,d,rfl,u,hP,hst,q⟩:=h;refine⟨_,(WB (EB (Wq 1) (GM (K:=K) (n:=4) rfl rfl (TL (Tg 3 Ba) (TL (Tg 4 Ba) (TL (Tg 5 Ba) (TL (Tg 6 Ba) GV)))))) (WB (GT YT rfl (Ef rfl B.range (MG (N4 (MX (MV (K:=K) rfl)) B.len (Wx 5 Wu)) Wu)) (Tg 7 Ba) (WH (JJ (PW.pt (Dh (JA (TJ TH) (Wq 2) WK) (DH (RW (Il (LQ (TZ hr))) (J9 (Jy NW) (Wq 4) (Wq 7)) (Jt hr (Wq 0) WK) (by with_unfolding_all rfl))))) (WH (Sz (TZ hr) (Jt hr (Wq 0) WK) (J9 (Jy NW) (Wq 4) (Wq 7)) (Mm K (Wq 5) (Wq 7)) rfl)) JV))) (WH (JJ (Tx (Wq 6)) (WH (Br (TZ hr) (Wq 0) WK (N4 (Fa rfl) B.max (NT (Jt hr (Wq 0) WK) (J7 (hs:=Dm) (J9 (Jy NW) (Wq 4) (N4 (MX (MV (K:=K) rfl)) B.len (Wx 5 Wu))) Wu))) rfl)) (WH (Br (TZ hr) (Wq 0) WK (J9 (Jy NW) (Wq 4) (N4 (MX (MV (K:=K) rfl)) B.len (Wx 5 Wu))) rfl)))))),?_⟩;walk_at"rd";have l2:=hP.ok.l2;have hlm:(d.ns.map V.int).length=d.ns.length:=Y1 ..;refine⟨_,Ja.of hP.tp,rfl,_,_,rfl,_,_,rfl,_,_,rfl,_,_,rfl,rfl,b,rfl,_,.inl (WA.of hP.bd),by omega,by omega,?_⟩;rw[hlm,YW];have nba:b≠a:=Wr hP.bd u.bs nofun;have nbh:b≠h:=Wr hP.bd u.hd nofun;have nah:=Ne.symm u.ne;obtain⟨Pv,r⟩:∃Pv:Nat->L2.St->Hp->Prop,Pv=fun i σ' G=>∃ (v:Option V),σ'=[some (.ref h),some (.ref t),some (.str ru),some (.ref tk),some (.int d.at'),some (.ref b),some (.bl d.mo),v]/\JC a H G/\G a=some (.dK (Ml (JG (decide (ru="last")) rs.st d.at' (d.ns.take i)))):=⟨_,rfl⟩
  refine HD Pv (by rw[r];exact⟨_,rfl,JC.refl _ _,u.bs⟩) ?_ ?_ <;> rw[r]
  .rintro i σ' G hi ⟨v,rfl,s,j⟩;rw[<-r];have hn:d.ns[i]?=some d.ns[i]:=Y7 hi;have htk:d.ns.take (i+ 1)=d.ns.take i++[d.ns[i]]:=by rw[VS,hn];rfl
   have hli:((d.ns.take i).length:Int)=i:=by rw[Yt];omega
   have hsz:=Ec (decide (ru="last")) (d.ns.take i) rs.st d.at';have hst2:(Ml (JG (decide (ru="last")) rs.st d.at' (d.ns.take i))).length < sizeLine:=Tn (by unfold Ml;rw[Y1];rw[Yt]at hsz;omega);have p:=L3 (decide (ru="last")) (d.ns.take i) rs.st d.at' d.ns[i];rw[hli]at p;have aa:=s b _ hP.bd nba;have y:=s h _ u.hd u.ne;have hat:Mn (d.ns.map V.int) (0+ (i:Int))=some (.int d.ns[i]):=by rw[XN];exact Gk (by rw[Y9,hn];rfl)
   have hgb:Nx G h (.str "bytes") (some (.ref a)):=by
    have:=Nx.k (k:=Sum.inr "bytes") y;rwa [Ob]at this
   walk_at"rd";rw[XN]at hat;rw[XN]
   by_cases hru:ru="last"
   .refine⟨rfl,?_⟩;rw[Y5 (by rw[hru];exact Yd rfl)];refine⟨_,WA.of aa,_,hat,_,hgb,_,rfl,_,j,hst2,fun G1 b1 h1=>?_⟩;rw[A7]at h1;rw[Y5 (.inl (Yd hru))]at p;rw[r];refine⟨_,rfl,s.trans b1,?_⟩;rw[htk,p];exact h1
   .refine⟨rfl,?_⟩;rw[Y2 (by simpa using hru)];refine⟨_,hgb,_,rfl,_,j,?_⟩;rw[Rb];cases hg:Jz (JG (decide (ru="last")) rs.st d.at' (d.ns.take i)) (d.at'+ i) with
    |none=>
     rw[Y5 (by rfl)];refine⟨_,WA.of aa,_,hat,_,hgb,_,rfl,_,j,hst2,fun G1 b1 h1=>?_⟩;rw[A7]at h1;rw[Y5 (.inr (by rw[hg];rfl))]at p;rw[r];refine⟨_,rfl,s.trans b1,?_⟩;rw[htk,p];exact h1
    |some x=>
     rw[Y2 (by simp)];rw[Y2 (by rw[hg];simp[hru])]at p;rw[r];refine⟨_,rfl,s,?_⟩;rw[htk,p];exact j
  .rintro σ' G ⟨v,rfl,s,j⟩;rw[YA (Y6 _)]at j;have aa:=s b _ hP.bd nba;have y:=s h _ u.hd u.ne;have hgm:Nx G h (.str "most") (some (.int rs.re)):=by
    have:=Nx.k (k:=Sum.inr "most") y;rwa [OD]at this
   walk_at"rd";have fin:∀{G2:Hp} {en:Option Int} {re:Int},JC h G G2->G2 h=some (.dK (GG a en re))->(JB (decide (ru="last")) rs d).en=en->(JB (decide (ru="last")) rs d).re=re->Q .non G2:=fun b2 e2 h1 h2=>
    q _ (fun c o e n1 n2=>b2 c o (s c o e n2) n1) ⟨by rw[h1,h2];exact e2,b2 a _ j nah,u.ne⟩
   have lh:(GG a rs.en rs.re).length < sizeLine:=Tn (by simp[GG]);cases hm:d.mo with
   |true=>
    rw[Y5 rfl];refine⟨_,hgm,_,.inl (WA.of aa),_,rfl,_,y,lh,fun G2 b2 e2=>fin b2 (by rw[vT]at e2;exact e2) ?_ ?_⟩
    .show(if d.mo=true then rs.en else some _)=rs.en;rw[hm];rfl
    .show(if d.mo=true then max rs.re (d.at'+ d.ns.length) else rs.re)=_;rw[hm,Y5 rfl,hlm]
     split <;> omega
   |false=>
    rw[Y2 (by simp)];refine⟨_,.inl (WA.of aa),_,y,lh,fun G2 b2 e2=>fin b2 (by rw[wO]at e2;exact e2) ?_ ?_⟩
    .show(if d.mo=true then rs.en else some (d.at'+ d.ns.length))=some _;rw[hm,hlm];rfl
    .show(if d.mo=true then _ else rs.re)=rs.re;rw[hm];rfl
inductive Qi(vs:List V)(H:Hp)(Q:VK)(E:XK):Prop|mk (_:vs=[]) (_:∀h a G,H h=none->H a=none->Ws H G->M9 G h a Dd->Q (.ref h) G)
abbrev Lf:Stmt:=top 56
theorem xT:Jx [] [] (Wp Lf):=by walk_at"e"
theorem rX{f:Wk}{fd:Wf}(F:JE K "_law_heap" "_law_heap" Lf f fd):Wz P w K mg base Jf 1 f fd [] Qi:=by
 refine F.ok xT (fun vs H Q E h=>?_) (fun x A u s H vs Q E y h=>?_)
 .obtain⟨rfl,_⟩:=h;rfl
 .obtain⟨rfl,q⟩:=h;refine⟨_,(@WH _ _ _ (@Jd _ _ _ _ (@HJ _ _ _ _ _ (@Rf _ _ _ _ _ _ _ _ _ (@WK _ _ _ _) (@Q3 _ _) (@Rf _ _ _ _ _ _ _ _ _ (@WK _ _ _ _) (@Mf _ _ _) (@Rf _ _ _ _ _ _ _ _ _ (@WK _ _ _ _) (@WE _ _ _ _) (@Lw _ _)))) rfl rfl (by simp) (by simp)))),?_⟩;walk_at"rd";intro p r b G a j v;have d:b≠p:=fun z=>by rw[z,Jp]at a;cases a
  have i:H b=none:=by rwa [WT d]at a
  refine⟨j p _ Jp,[(Sum.inr "bytes",.ref b),(Sum.inr "end",.non),(Sum.inr "most",.int 0)],rfl,by simp,?_⟩;refine q p b _ r i (fun c o e=>?_) ⟨Jp,by rw[WT d];exact v,Ne.symm d⟩;have n:c≠p:=N0 e r;rw[WT n];exact j c o (by rw[WT n];exact e)
end
structure DZ(E:Int)(cv:List (Int×Int))(low:Int)(f:List (Int×Int)):Prop where
 l0:0 <=low
 cov:MC f
 mem:∀x,Nt f x↔0 <=x/\x < low/\x < E/\¬Nt cv x
 lt:∀q∈f,q.2 < low
 len:(f.length:Int) <=low
theorem DZ.zero{E:Int}{cv:List (Int×Int)}:DZ E cv 0 []:=⟨YZ _,trivial,fun x=>⟨fun h=>absurd h (MS x),fun h=>by omega⟩,(fun _ h=>nomatch h),by simp⟩
theorem DZ.skip{E:Int}{cv f:List (Int×Int)}{low:Int}(h:DZ E cv low f)(hx:¬low < E\/Nt cv low):DZ E cv (low+ 1) f:=by
 refine⟨by have:=h.l0;omega,h.cov,fun x=>?_,fun q i=>by have:=h.lt q i;omega,by have:=h.len;omega⟩;rw[h.mem];constructor
 .rintro⟨a,b,c,d⟩;exact⟨a,by omega,c,d⟩
 .rintro⟨a,b,c,d⟩;refine⟨a,?_,c,d⟩
  by_cases e:x=low
  .subst e;rcases hx with z|z
   .exact absurd c z
   .exact absurd z d
  .omega
theorem DZ.add{E:Int}{cv f:List (Int×Int)}{low high:Int}(h:DZ E cv low f)(h1:low < high)(h2:high <=E)(h3:∀x,low <=x->x < high->¬Nt cv x)(hx:¬high < E\/Nt cv high):DZ E cv (high+ 1) (f++[(low,high)]):=by
 have l0:=h.l0;refine⟨by omega,AF h.cov h1 h.lt,fun x=>?_,fun q i=>?_,by have:=h.len;rw[Ys];simp;omega⟩
 .rw[EL,h.mem,WV];simp only[MS,Vi];constructor
  .rintro(⟨a,b,c,d⟩|⟨a,b⟩)
   .exact⟨a,by omega,c,d⟩
   .exact⟨by omega,by omega,by omega,h3 x a b⟩
  .rintro⟨a,b,c,d⟩
   by_cases e:x < low
   .exact .inl ⟨a,e,c,d⟩
   .refine .inr ⟨by omega,?_⟩
    by_cases e2:x=high
    .subst e2;rcases hx with z|z
     .exact absurd c z
     .exact absurd z d
    .omega
 .rcases YB.mp i with z|z
  .have:=h.lt q z;omega
  .rw[Yg.mp z];show high < high+ 1;omega
theorem DZ.done{E:Int}{cv f:List (Int×Int)}{low:Int}(h:DZ E cv low f)(hE:¬low < E)(hc:MC cv)(h0:∀p∈cv,0 <=p.1):f=NZ E 0 cv:=by
 obtain⟨a,b,c⟩:=Zi (e:=E) hc h0;refine O8 h.cov a fun x=>?_
 rw[h.mem,c];constructor
 .rintro⟨a,b,c,d⟩;exact⟨a,c,d⟩
 .rintro⟨a,c,d⟩;exact⟨a,by omega,c,d⟩
theorem NK.los{rs:RS}(h:NK rs):∀p∈rs.cv,0 <=p.1:=fun p a=>h.low p.1 ⟨p,a,YZ _,PL h.cov a⟩
theorem DS{st:List (Int×Int)}{n:Int}:n∈st.map (·.1)↔(Jz st n).isSome=true:=by
 unfold Jz;rw[XU,List.find?_isSome,Y3];constructor
 .rintro⟨p,hp,rfl⟩;exact⟨p,hp,by simp⟩
 .rintro⟨p,hp,e⟩;exact⟨p,hp,by simpa using e⟩
theorem NK.topE{rs:RS}(h:NK rs){v:Int}(h1:v∈(-1:Int)::rs.st.map (·.1))(h2:∀y∈(-1:Int)::rs.st.map (·.1),y <=v):NE 0 rs.cv=v+ 1/\0 <=v+ 1/\v+ 1 <=4000:=by
 obtain⟨i,f,j⟩:=Hx (re:=0) h.cov;have n:=h2 (-1) YC;have d:v= -1\/Nt rs.cv v:=by
  rcases Yl.mp h1 with z|z
  .exact .inl z
  .exact .inr ((h.dom v).mpr (DS.mp z))
 have e:v+ 1 <=4000:=by
  rcases d with z|z
  .omega
  .have:=h.top v z;omega
 refine⟨?_,by omega,e⟩
 by_cases hc:rs.cv=[]
 .rw[hc]at d ⊢;rcases d with z|z
  .rw[z];rfl
  .exact absurd z (MS v)
 .have a:=f hc;have b:=h2 _ (Yk _ (DS.mpr ((h.dom _).mp a)));have c:=h.low _ a;rcases d with z|z
  .omega
  .have:=i v z;omega
section
variable{P:Wc}{w:Wh}{K:Wi}{mg:W8}{base:Wn}
inductive HL(vs:List V)(H:Hp)(Q:VK)(E:XK):Prop|mk (h a:Wk) (rs:RS) (_:vs=[.ref h]) (_:M9 H h a rs) (_:NK rs) (_:rs.st.length <=20000) (_:∀l G,H l=none->Ws H G->JR G l (T0 rs.en 0 rs.cv)->Q (.ref l) G)
abbrev IL:Stmt:=top 55
theorem RZ:Jx ["_law_heap_here","_law_found","_law_end","_law_low","_law_high"] ["_law_heap_here"] (Wp IL):=by walk_at"e"
theorem tG{f:Wk}{fd:Wf}(F:JE K "_law_spans" "_law_spans" IL f fd)(B:Bt mg):Wz P w K mg base Jf 1 f fd ["_law_heap_here"] HL:=by
 refine F.ok RZ (fun vs H Q E h=>?_) (fun cdv A outer s H vs Q E hr h=>?_)
 .obtain⟨h,a,rs,rfl,_⟩:=h;rfl
 .obtain⟨h,a,rs,rfl,hL,hI,hst,q⟩:=h;refine⟨_,(WB (JP 1 RZ (Te Wu)) (WB (JP 2 RZ (Jt hr (Wq 0) WK)) (WB (DE (JJ (JA A2 (Wq 2) Mf) (WH (JP 2 RZ (J9 (Jy NW) (N4 (vF (K:=K) rfl rfl) B.max (J7 (hs:=Dm) (J9 (Bs Eo) (Te (J7 (hs:=S8) (Pj QG WE) Wu)) (Bu (ZF rfl) rfl B.blist (by rfl) (NT (Jt hr (Wq 0) WK) Wu))) Wu)) WE))) JV)) (WB (JP 3 RZ WE) (WB (Cy YT (JA (Jy Rp) (Wq 3) (Wq 2)) (WB (JP 4 RZ (Wq 3)) (WB (Cy YT (PW.pt (D3 (JA (Jy Rp) (Wq 4) (Wq 2)) (DD (RW (Il (LQ (TZ hr))) (Wq 4) (Jt hr (Wq 0) WK) (by with_unfolding_all rfl))))) (WH (JP 4 RZ (J9 (Jy NW) (Wq 4) WE)))) (WB (DE (JJ (JA (Jy Gu) (Wq 4) (Wq 3)) (WH (Ta (Md (K:=K) rfl Yr Yu Yv (Dc Da) (Wq 1) (J7 (hs:=Mh) (NO (Wx 3 (Wx 4 Wu))) Wu)))) JV)) (WH (JP 3 RZ (J9 (Jy NW) (Wq 4) WE))))))) (WB (DE (JJ (JA A2 (Jt hr (Wq 0) WK) Mf) (WH (Ta (Md (K:=K) rfl Yr Yu Yv (Dc Da) (Wq 1) (J7 (hs:=Mh) (NO (Wx 2 (NI Mf Wu))) Wu)))) JV)) (WH (Jd (Wq 1))))))))),?_⟩;walk_at"rd";refine⟨Jc (by simp),fun p G hp s0 hG=>?_⟩;have hL0:=hL.mono s0;obtain⟨R,eR⟩:∃R:L2.St->Hp->Prop,R=fun σ' i=>∃E:Int,σ'=[some (.ref h),some (.ref p),some (.int E),none,none]/\Ws H i/\i p=some (.lst [])/\0 <=E/\E <=4000/\(rs.en=some E\/rs.en=none/\NE 0 rs.cv=E):=⟨_,rfl⟩
  refine⟨_,hL0.ge,R,?_,?_⟩
  .cases he:rs.en with
   |none=>
    rw[Y5 (by simp[oV])];refine⟨Jc (by simp),fun l1 G1 hl1 y e1=>⟨_,(hL0.mono y).gb,_,rfl,_,(hL0.mono y).bs,fun l2 G2 hl2 j e2=>⟨_,j _ _ e1,_,e2,Jc (by simp[Ml];omega),fun l3 G3 hl3 s3 e3=>?_⟩⟩⟩;have e4:[V.int (-1)]++(Ml rs.st).map (fun kv=>kV kv.1)=((-1:Int)::rs.st.map (·.1)).map V.int:=by
     unfold Ml;rw[Yo,List.map_cons,Yo];rfl
    rw[e4]at e3;refine⟨_,WA.of e3,by simp,fun v hv1 hv2=>?_⟩;obtain⟨t1,t2,t3⟩:=hI.topE hv1 hv2;have s13:=y.trans (j.trans s3);rw[eR];exact⟨v+ 1,rfl,s0.trans s13,s13 p _ hG,t2,t3,.inr ⟨he,t1⟩⟩
   |some e=>
    rw[Y2 (by simp[oV]),eR];exact⟨e,rfl,s0,hG,(hI.en e he).1,(hI.en e he).2,.inl he⟩
  .rintro σ' i hR;rw[eR]at hR;obtain⟨E,rfl,s,hpl,E0,E4,hE⟩:=hR;walk_at"rd";obtain⟨W,eW⟩:∃W:Nat->L2.St->Hp->Prop,W=fun m σ' i=>∃ (d:Int) (v:Option V) (f:List (Int×Int)),σ'=[some (.ref h),some (.ref p),some (.int E),some (.int d),v]/\Ws H i/\JR i p (NL f)/\DZ E rs.cv d f/\d <=E+ 1/\m=(E+ 1 - d).toNat:=⟨_,rfl⟩
   refine⟨W,⟨_,by rw[eW];exact⟨0,_,[],rfl,s,⟨[],hpl,.nil⟩,.zero,by omega,rfl⟩⟩,?_⟩;rw[eW];rintro m σ' G1 ⟨d,v,f,rfl,y,hc,hS,hle,rfl⟩;rw[<-eW];have hL1:=hL.mono y;walk_at"wt"
   by_cases hlt:d < E
   .rw[Y5 (Yd hlt)];refine⟨fun σ' i=>∃ (n:Int) (v:Option V) (f:List (Int×Int)),σ'=[some (.ref h),some (.ref p),some (.int E),some (.int n),v]/\Ws H i/\JR i p (NL f)/\DZ E rs.cv n f/\n <=E+ 1/\d < n,?_,?_⟩
    .rintro σ' i ⟨n,v,f,rfl,a1,a2,a3,a4,a5⟩;refine⟨(E+ 1 - n).toNat,by omega,?_⟩;rw[eW];exact⟨n,v,f,rfl,a1,a2,a3,a4,rfl⟩
    refine WX fun N1 u=>?_
    walk_at"rd";refine u _ _ ?_;clear u N1;refine WX fun N1 u=>?_
    have exit:∀c:Int,d <=c->c <=E->(∀x,d <=x->x < c->¬Nt rs.cv x)->(¬c < E\/Nt rs.cv c)->N1 [some (.ref h),some (.ref p),some (.int E),some (.int d),some (.int c)] G1:=fun c a1 a2 a3 hx=>by
     refine u _ _ ?_;clear u N1;refine WX fun N1 u=>?_
     walk_at"rd";refine⟨fun σ' i=>σ'=[some (.ref h),some (.ref p),some (.int E),some (.int d),some (.int c)]/\Ws H i/\∃f,JR i p (NL f)/\DZ E rs.cv (c+ 1) f,?_,?_⟩
     .by_cases hlh:d < c
      .rw[Y5 (Yd hlh)];obtain⟨xs,r,aa⟩:=hc;refine⟨.inl ⟨rfl,_,WA.of r⟩,Jc (by simp),fun t G2 ht j e2=>⟨xs,j p _ r,Tn (by rw[aa.len,Eh];have:=hS.len;omega),fun G3 b3 e3=>?_⟩⟩;have ntp:t≠p:=Ne.symm (N0 r ht);refine⟨rfl,(y.trans j).butNew b3 hp,f++[(d,c)],⟨_,e3,?_⟩,hS.add hlh a2 a3 hx⟩;rw[Ex];exact NB.app (aa.tk ((Ru j).trans (T1 b3 (j p _ r)))) (.cons ⟨t,rfl,b3 t _ e2 ntp⟩ .nil)
      .rw[Y2 (by simpa using hlh)];have e:c=d:=by omega
       rw[e]at hx;exact⟨rfl,y,f,hc,by rw[e];exact hS.skip hx⟩
     .rintro σ' i ⟨rfl,j,f',hc',hS'⟩;refine u _ _ ?_;walk_at"rd";exact⟨j,f',hc',hS',by omega,by omega⟩
    refine⟨fun m σ' i=>∃c:Int,σ'=[some (.ref h),some (.ref p),some (.int E),some (.int d),some (.int c)]/\i=G1/\d <=c/\c <=E/\(∀x,d <=x->x < c->¬Nt rs.cv x)/\m=(E - c).toNat,⟨_,d,rfl,rfl,by omega,by omega,fun x a b=>by omega,rfl⟩,?_⟩;rintro m σ' i ⟨c,rfl,eG,a1,a2,a3,rfl⟩;rw[eG];clear eG i;walk_at"rd"
    by_cases h1:c < E
    .rw[Y5 (Yd h1)];refine⟨_,hL1.gb,_,rfl,_,hL1.bs,?_⟩;rw[Rb]
     by_cases h2:Nt rs.cv c
     .have:=(hI.dom c).mp h2;rw[Y2 (by rw[XU,this];simp)];exact exit c a1 a2 a3 (.inr h2)
     .have h3:¬(Jz rs.st c).isSome=true:=fun z=>h2 ((hI.dom c).mpr z)
      rw[Y5 (by rw[XU];simpa using h3)];refine⟨fun σ' i=>σ'=[some (.ref h),some (.ref p),some (.int E),some (.int d),some (.int (c+ 1))]/\i=G1,?_,rfl,rfl⟩;rintro σ' i ⟨rfl,rfl⟩;refine⟨_,?_,c+ 1,rfl,rfl,by omega,by omega,fun x b1 b2=>?_,rfl⟩
      .omega
      .by_cases e:x=c
       .rw[e];exact h2
       .exact a3 x b1 (by omega)
    .rw[Y2 (by simpa using h1)];exact exit c a1 a2 a3 (.inl h1)
   .rw[Y2 (by simpa using hlt)];have hf:=hS.done hlt hI.cov hI.los;walk_at"rd";refine⟨fun σ' i=>∃l v,σ'=[some (.ref h),some (.ref p),some (.int E),l,v]/\Ws H i/\JR i p (T0 rs.en 0 rs.cv),⟨_,hL1.ge,?_⟩,?_⟩
    .rcases hE with he|⟨he,ht⟩
     .rw[he,Y2 (by simp[oV])];refine⟨_,_,rfl,y,?_⟩;rw[FS,<-hf];exact hc
     .rw[he,Y5 (by simp[oV])];obtain⟨xs,r,aa⟩:=hc;refine⟨.inl ⟨rfl,_,WA.of r⟩,Jc (by simp),fun t G2 ht' j e2=>⟨xs,j p _ r,Tn (by rw[aa.len,Eh];have:=hS.len;omega),fun G3 b3 e3=>?_⟩⟩;have ntp:t≠p:=Ne.symm (N0 r ht');refine⟨_,_,rfl,(y.trans j).butNew b3 hp,?_⟩;rw[HX hI.cov,ht,<-hf];exact⟨_,e3,NB.app (aa.tk ((Ru j).trans (T1 b3 (j p _ r)))) (.cons ⟨t,rfl,b3 t _ e2 ntp⟩ .nil)⟩
    .rintro σ' i ⟨l,v,rfl,j,hc2⟩;exact⟨_,rfl,q p i hp j hc2⟩
inductive SN(vs:List V)(H:Hp)(Q:VK)(E:XK):Prop|mk (h a t tk b:Wk) (ru:Str) (rs:RS) (d:PD) (_:vs=[.ref h,.ref t,.str ru]) (_:M9 H h a rs) (_:Rk H t tk b d) (_:NK rs) (_:rs.st.length+ d.ns.length <=20000) (_:(strange rs d=true->(ru="refuse"->∀r G,Ws H G->G r=some (.tup [.str "unlike",.int d.at'])->Q (.ref r) G)/\(¬ru="refuse"->∀r G,Ws H G->G r=some (.tup [.str "strange",.non])->Q (.ref r) G))) (_:(strange rs d=false->(∀n,ru="refuse"->Nm rs.st d.at' d.ns=some n->∀r G,Ws H G->G r=some (.tup [.str "unlike",.int n])->Q (.ref r) G)/\((ru="refuse"->Nm rs.st d.at' d.ns=none)->∀rs',rs'=JB (decide (ru="last")) rs d->(T0 rs'.en 0 rs'.cv≠[]->∀r G,N9 h a H G->M9 G h a rs'->G r=some (.tup [.str "kept",.non])->Q (.ref r) G)/\(T0 rs'.en 0 rs'.cv=[]->∀r b' G,N9 h a H G->G r=some (.tup [.str "whole",.ref b'])->G b'=some (.lst ((JU rs').map V.int))->Q (.ref r) G))))
abbrev CQ:Stmt:=top 57
theorem tX:Jx ["_law_heap_here","_law_piece_here","_law_rule"] ["_law_heap_here","_law_piece_here","_law_rule"] (Wp CQ):=by walk_at"e"
theorem ZB{f:Wk}{fd:Wf}(F:JE K "_law_taken" "_law_taken" CQ f fd)(B:Bt mg)(Nr:N6 P w K mg base "_law_strange" 1 ["_law_heap_here","_law_piece_here"] [] PP)(NJ:N6 P w K mg base "_law_unlike" 1 ["_law_heap_here","_law_piece_here"] [] Pu)
  (GD:N6 P w K mg base "_law_put" 1 ["_law_heap_here","_law_piece_here","_law_rule"] [] Oh) (TY:N6 P w K mg base "_law_spans" 1 ["_law_heap_here"] [] HL):Wz P w K mg base Jf 2 f fd ["_law_heap_here","_law_piece_here","_law_rule"] SN:=by
 refine F.ok tX (fun vs H Q E h=>?_) (fun cdv A outer s H vs Q E q h=>?_)
 .obtain⟨h,a,t,tk,b,ru,rs,d,rfl,_⟩:=h;rfl
 .obtain⟨h,a,t,tk,b,ru,rs,d,rfl,hL,u,hI,hst,q1,q2⟩:=h;refine⟨_,(WB (JJ (PW.pt (D3 (JA (TJ TH) (Wq 2) WK) (DD (Tx (JT Nr q.m rfl (Wx 0 (Wx 1 Wu))))))) (WH (Jd (NO (NI WK (NT (Mz K (Wq 1) WE) Wu))))) JV) (WB (JJ (PW.pt (D3 (JA (TJ TH) (Wq 2) WK) (DD (JA Bb (JT NJ q.m rfl (Wx 0 (Wx 1 Wu))) Mf)))) (WH (Jd (NO (NI WK (MG (JT NJ q.m rfl (Wx 0 (Wx 1 Wu))) Wu))))) JV) (WB (JJ (Tx (JT Nr q.m rfl (Wx 0 (Wx 1 Wu)))) (WH (Jd (NO (NI WK (NI Mf Wu))))) JV) (WB (Ta (JT GD q.m rfl (Wx 0 (Wx 1 (Wx 2 Wu))))) (WB (JJ (JA (Q5 (Pe (K:=K) (Room.units q) rfl)) (JT TY q.m rfl (Wx 0 Wu)) (Te Wu)) (WH (Jd (NO (NI WK (J7 (hs:=GB) (Di (N':=["_law_k","_law_heap_here"]) (caps:=[none,some 0]) (MR (sc:=Wp CQ) (N:=["_law_heap_here","_law_piece_here","_law_rule"]) rfl rfl (by decide +kernel)) rfl (Ef rfl B.range (NT (Jt q (Wq 0) WK) Wu)) (fun _ _ _ _ _=>(Ms (i:=0) (MB (N:=["_law_k","_law_heap_here"]) rfl (by decide +kernel)) rfl (Or.inl rfl))) (fun _ _ _ _ _=>DC) (fun _ _ _ _ _=>(Jt q (Jt q (Wq 1) WK) (Wq 0)))) Wu))))) JV) (WH (Jd (NO (NI WK (NI Mf Wu)))))))))),?_⟩;have at1:Mn [V.ref tk,.int d.at',.ref b,.bl d.mo] 1=some (.int d.at'):=rfl;refine WX fun N p=>?_
  have k1:(ru="refuse"->strange rs d=false)->N [some (.ref h),some (.ref t),some (.str ru)] H:=fun hf=>by
   refine p _ _ ?_;clear p N;refine WX fun N p=>?_
   have k2:(strange rs d=false->ru="refuse"->Nm rs.st d.at' d.ns=none)->N [some (.ref h),some (.ref t),some (.str ru)] H:=fun hu=>by
    refine p _ _ ?_;clear p N;refine WX fun N p=>?_
    walk_at"rd";refine⟨h,a,t,tk,b,rs,d,rfl,hL,u,_,rfl,Tj (fun hs=>?_) fun hs=>?_⟩
    .refine⟨Jc (by simp),fun r G j s e=>(q1 hs).2 (fun z=>?_) r G s e⟩;rw[hf z]at hs;cases hs
    .have hs:strange rs d=false:=by simpa using hs
     refine p _ _ ?_;clear p N;obtain⟨q3,q4⟩:=(q2 hs).2 (hu hs) _ rfl;refine WX fun N p=>?_
     walk_at"rd";refine⟨h,a,t,tk,b,ru,rs,d,rfl,hL,u,by omega,fun G kp hL'=>p _ _ ?_⟩;clear p N;have hI':=hI.step (decide (ru="last")) u.ok;have hl2:(JB (decide (ru="last")) rs d).st.length <=rs.st.length+ d.ns.length:=Ec _ _ _ _;generalize JB (decide (ru="last")) rs d=rs' at q3 q4 hL' hI' hl2;walk_at"rd";refine⟨h,a,rs',rfl,hL',hI',by omega,fun l G2 hl s2 hc=>⟨Jc (by simp),fun z G3 hz s3 ez=>⟨_,rfl,?_⟩⟩⟩;obtain⟨xs,hx1,hx2⟩:=hc;refine⟨xs,WA.of (s3 _ _ hx1),WA.of ez,?_⟩;have hxl:=hx2.len;have s23:=s2.trans s3;have x:=hL'.mono s23;have kp3:N9 h a H G3:=fun c o e n1 n2=>s23 c o (kp c o e n1 n2)
     by_cases hn:T0 rs'.en 0 rs'.cv=[]
     .rw[hn]at hxl;rw[Y5 (Yd (show xs.length=0 from hxl))];obtain⟨e,b1,b2,b3,b4⟩:=hI'.body hn;have hg:=x.ge;rw[b1]at hg;refine⟨_,hg,_,rfl,by omega,by omega,?_⟩;rw[YW];obtain⟨Pv,y⟩:∃Pv:Nat->List V->L2.St->Hp->Prop,Pv=fun i ys σ' G=>G=G3/\ys=((JU rs').take i).map V.int/\∃v,σ'=[v,some (.ref h)]:=⟨_,rfl⟩
      refine Cs Pv (by rw[y];exact⟨rfl,rfl,_,rfl⟩) ?_ (Jc (by omega)) ?_ ?_ <;> rw[y]
      .rintro i ys σ' G ⟨rfl,rfl,_⟩ _;rw[Y1,Yt];omega
      .rintro i ys σ' G hi ⟨eG,rfl,v,rfl⟩;rw[<-y,eG];clear eG G;have hib:i < (JU rs').length:=by omega
       have hg2:=b4 i _ (Y7 hib);walk_at"rd";refine⟨_,x.gb,_,rfl,.int (JU rs')[i],?_,?_⟩
       .have:=Nx.k (k:=Sum.inl (0+ (i:Int))) x.bs;rw[Rb,XN,hg2]at this;rw[XN];exact this
       .rw[y];exact⟨rfl,by rw[YK,Y7 hib,Yf];rfl,_,rfl⟩
      .rintro ys σ' G ⟨eG,rfl,_⟩ b' G4 hb' s4 e4;rw[eG]at s4;rw[YA (by omega)]at e4;refine⟨Jc (by simp),fun r G5 hr5 s5 e5=>q4 hn r b' G5 (fun c o e n1 n2=>s5 c o (s4 c o (kp3 c o e n1 n2))) e5 (s5 _ _ e4)⟩
     .rw [Y2 (by
       simp only [Yb];intro hz;exact hn (List.eq_nil_of_length_eq_zero (by omega)))]
      exact⟨Jc (by simp),fun r G4 hr4 s4 e4=>q3 hn r G4 (fun c o e n1 n2=>s4 c o (kp3 c o e n1 n2)) (x.mono s4) e4⟩
   walk_at"rd";refine⟨rfl,Tj (fun j=>⟨h,a,t,tk,b,rs,d,rfl,hL,u,?_⟩) fun j=>k2 fun _ z=>absurd (Yd z) j⟩;have hru:=X5 j;have hs:=hf hru
   try dsimp only
   cases hu:Nm rs.st d.at' d.ns with
   |none=>
    rw[Y2 (by simp[oV])];exact k2 fun _ _=>hu
   |some n=>
    rw[Y5 (by simp[oV])];refine⟨h,a,t,tk,b,rs,d,rfl,hL,u,?_⟩;rw[hu];exact⟨Jc (by simp),fun r G h0 s e=>(q2 hs).1 n hru hu r G s e⟩
  walk_at"rd";refine⟨rfl,Tj (fun j=>⟨h,a,t,tk,b,rs,d,rfl,hL,u,_,rfl,Tj (fun hs=>?_) fun hs=>k1 fun _=>by simpa using hs⟩) fun j=>k1 fun z=>absurd (Yd z) j⟩;exact⟨_,Ja.of u.tp,_,at1,Jc (by simp),fun r G h0 s e=>(q1 hs).1 (X5 j) r G s e⟩
end
def D4{α:Type}(f:α->Ky)(g:α->V)(l:List α):List (List WO×V):=l.map fun e=>(Ju (f e),g e)
section
variable{α:Type}{f:α->Ky}{g:α->V}{l:List α}{k:Ky}
theorem Be(hk:(l.map f).Nodup){x:α}(h:x∈l):WM (D4 f g l) (Ju (f x))=some (g x):=by
 unfold D4 WM
 induction l with
 |nil=>exact nomatch h
 |cons y r ih=>
  rw[List.map_cons,YN];rcases Yl.mp h with z|z
  .rw[z,Yd rfl];rfl
  .have a:¬Ju (f y)=Ju (f x):=fun q=>(YE.mp hk).1 (Y3.mpr ⟨x,z,(DR q).symm⟩)
   rw[Yp a];exact ih (YE.mp hk).2 z
theorem OE(h:k∉l.map f):WM (D4 f g l) (Ju k)=none:=by
 unfold D4 WM;rw[VM,Xr];intro x a;obtain⟨e,b,rfl⟩:=Y3.mp a;simpa using fun q=>h (Y3.mpr ⟨e,b,DR q⟩)
theorem uL:Jj (D4 f g l) (Ju k)=D4 f g (l.filter fun e=> !decide (f e=k)):=by
 unfold Jj D4;rw[Xd]
 congr 1
 apply Xw;intro e _;show(!decide (Ju (f e)=Ju k))= !decide (f e=k)
 congr 1
 rw[Yw,Yb,Yb];exact⟨DR,YU Ju⟩
theorem A0{i:Nat}{k:List WO}{v:V}(h:(D4 f g l)[i]?=some (k,v)):∃e,l[i]?=some e/\k=Ju (f e)/\v=g e:=by
 unfold D4 at h;rw[Y9]at h;obtain⟨e,a,q⟩:=Yn.mp h;cases q;exact⟨e,a,rfl,rfl⟩
end
theorem ZI{kvs:List (List WO×V)}{k:List WO}(h:WM kvs k=none):Jj kvs k=kvs:=by
 unfold Jj;refine Xl.mpr fun x a=>?_
 have:=Xr.mp (VM.mp h) x a;simpa using this
theorem S0{T:Hp->Prop}{kvs:List (List WO×V)}{k:List WO}{G5:Hp}{d:Wk}(h5:G5 d=some (.dT kvs))(h:∀G,JC d G5 G->G d=some (.dT (Jj kvs k))->T G):
  (∀v:V,WM kvs k=some v->∀G,JC d G5 G->G d=some (.dT (Jj kvs k))->T G)/\(WM kvs k=none->T G5):=
 ⟨fun _ _ G b z=>h G b z,fun a=>h G5 (fun _ _ x _=>x) (by rw[ZI a];exact h5)⟩
structure ME where
 ky:Ky
 h:Addr
 a:Addr
 rs:RS
 first:Int
structure Tw where
 ru:Str
 wt:Int
 sp:Int
 out:Str
 ag:Str
 es:List ME
 wh:List (Ky×Int)
def Op(M:Tw)(dh ds dd:Wk):List (WO×V):=[(Sum.inr "wait",.int M.wt),(Sum.inr "heaps",.ref dh),(Sum.inr "since",.ref ds),(Sum.inr "done",.ref dd),(Sum.inr "rule",.str M.ru),(Sum.inr "space",.int M.sp),(Sum.inr "out",.str M.out),(Sum.inr "again",.str M.ag)]
def Dr(es:List ME):List (List WO×V):=D4 ME.ky (fun e=>.ref e.h) es
def Df(es:List ME):List (List WO×V):=D4 ME.ky (fun e=>.int e.first) es
structure N7(H:Hp)(m dh ds dd:Wk)(M:Tw):Prop where
 mm:H m=some (.dK (Op M dh ds dd))
 dH:H dh=some (.dT (Dr M.es))
 dS:H ds=some (.dT (Df M.es))
 dD:H dd=some (.dT (Ds M.wh))
 n1:dh≠ds
 n2:dh≠dd
 n3:ds≠dd
 hs:∀e∈M.es,M9 H e.h e.a e.rs
 nk:(M.es.map (·.ky)).Nodup
def Wy(es:List ME):List AE:=es.map fun e=>(e.ky,e.rs,e.first)
def DV(es:List ME)(k:Ky):List ME:=es.filter fun e=> !decide (e.ky=k)
theorem Fj(es:List ME)(k:Ky):Wy (DV es k)=WP (Wy es) k:=by
 unfold Wy DV WP;rw[Xd];rfl
section
variable{H G:Hp}{m dh ds dd:Wk}{M:Tw}
theorem N7.of(h:N7 H m dh ds dd M)(s:∀c o,H c=some o->c=m\/c=dh\/c=ds\/c=dd\/(∃kvs,o= .dK kvs)->G c=some o):N7 G m dh ds dd M:=
 ⟨s _ _ h.mm (.inl rfl),s _ _ h.dH (.inr (.inl rfl)),s _ _ h.dS (.inr (.inr (.inl rfl))),s _ _ h.dD (.inr (.inr (.inr (.inl rfl)))),h.n1,h.n2,h.n3,fun e a=>⟨s _ _ (h.hs e a).hd (.inr (.inr (.inr (.inr ⟨_,rfl⟩)))),s _ _ (h.hs e a).bs (.inr (.inr (.inr (.inr ⟨_,rfl⟩)))),(h.hs e a).ne⟩,h.nk⟩
theorem N7.mono(s:Ws H G)(h:N7 H m dh ds dd M):N7 G m dh ds dd M:=h.of fun c o e _=>s c o e
theorem N7.g(h:N7 H m dh ds dd M){f:Str}{v:V}(e:WM (Op M dh ds dd) (Sum.inr f)=some v):Nx H m (.str f) (some v):=.inl ⟨_,Sum.inr f,.inl h.mm,rfl,e.symm⟩
theorem N7.but{l:Wk}{xs:List V}(h:N7 H m dh ds dd M)(b:JC l H G)(hl:H l=some (.lst xs)):N7 G m dh ds dd M:=
 ⟨b _ _ h.mm (Wr h.mm hl nofun),b _ _ h.dH (Wr h.dH hl nofun),b _ _ h.dS (Wr h.dS hl nofun),b _ _ h.dD (Wr h.dD hl nofun),h.n1,h.n2,h.n3,fun e a=>⟨b _ _ (h.hs e a).hd (Wr (h.hs e a).hd hl nofun),b _ _ (h.hs e a).bs (Wr (h.hs e a).bs hl nofun),(h.hs e a).ne⟩,h.nk⟩
def MO(dh ds dd:Wk)(H G:Hp):Prop:=∀c o,H c=some o->c≠dh->c≠ds->c≠dd->G c=some o
theorem N7.kp(h:N7 H m dh ds dd M)(k:MO dh ds dd H G){c:Wk}{o:HO}(e:H c=some o)(n:∀kvs,o≠ .dT kvs):G c=some o:=k c o e (Wr e h.dH (n _)) (Wr e h.dS (n _)) (Wr e h.dD (n _))
theorem N7.lh(h:N7 H m dh ds dd M)(k:MO dh ds dd H G){p a:Wk}{rs:RS}(x:M9 H p a rs):M9 G p a rs:=⟨h.kp k x.hd (fun _ z=>by cases z),h.kp k x.bs (fun _ z=>by cases z),x.ne⟩
theorem N7.fresh(h:N7 G m dh ds dd M)(k:MO dh ds dd H G){p:Wk}(hp:G p=none):H p=none:=by
 cases e:H p with
 |none=>rfl
 |some o=>
  by_cases n1:p=dh
  .rw[n1,h.dH]at hp;cases hp
  .by_cases n2:p=ds
   .rw[n2,h.dS]at hp;cases hp
   .by_cases n3:p=dd
    .rw[n3,h.dD]at hp;cases hp
    .rw[k p o e n1 n2 n3]at hp;cases hp
theorem QO:∀l:List Int,(∀x∈l,0 <=x/\x <=100000)->0 <=l.sum/\l.sum <=100000*l.length
 |[],_=>by simp
 |x::r,h=>by
  have h1:=QO r fun y a=>h y (Yk _ a)
  have h2:=h x YC;rw[Ua,List.length_cons];omega
theorem N7.pop{G1 G2:Hp}{k:Ky}(h:N7 H m dh ds dd M)(b1:JC dh H G1)(e1:G1 dh=some (.dT (Jj (Dr M.es) (Ju k))))(b2:JC ds G1 G2)(e2:G2 ds=some (.dT (Jj (Df M.es) (Ju k)))):MO dh ds dd H G2/\N7 G2 m dh ds dd {M with es:=DV M.es k}:=by
 have kp:MO dh ds dd H G2:=fun c o h n1 n2 _=>b2 c o (b1 c o h n1) n2
 unfold Dr at e1;unfold Df at e2;rw[uL]at e1 e2;refine⟨kp,h.kp kp h.mm (fun _ z=>by cases z),b2 _ _ e1 h.n1,e2,b2 _ _ (b1 _ _ h.dD (Ne.symm h.n2)) (Ne.symm h.n3),h.n1,h.n2,h.n3,fun e a=>h.lh kp (h.hs e (Ym.mp a).1),h.nk.sublist (XA _ YI)⟩
end
section
variable{P:Wc}{w:Wh}{K:Wi}{mg:W8}{base:Wn}
inductive By(vs:List V)(H:Hp)(Q:VK)(E:XK):Prop|mk (m dh ds dd t:Wk) (M:Tw) (k:Ky) (why:Str) (_:vs=[.ref m,.ref t,.str why]) (_:N7 H m dh ds dd M) (_:H t=some (.tup (NG k))) (_:∀p G,H p=none->MO dh ds dd H G->N7 G m dh ds dd {M with es:=DV M.es k}->G p=some (.tup [.str "gone",.ref t,.str why])->Q (.ref p) G)
abbrev Lm:Stmt:=top 58
theorem dE:Jx ["_law_m","_law_key_here","_law_reason"] ["_law_m","_law_key_here","_law_reason"] (Wp Lm):=by walk_at"e"
theorem jZ{f:Wk}{fd:Wf}(F:JE K "_law_gone" "_law_gone" Lm f fd):Wz P w K mg base Jf 1 f fd ["_law_m","_law_key_here","_law_reason"] By:=by
 refine F.ok dE (fun vs H Q E h=>?_) (fun cdv A y s H vs Q E e h=>?_)
 .obtain⟨m,dh,ds,dd,t,M,k,r,rfl,_⟩:=h;rfl
 .obtain⟨m,dh,ds,dd,t,M,k,r,rfl,a,n,q⟩:=h;refine⟨_,(WB (Ta (Md (K:=K) rfl YJ XB Up (OH (TZ e)) (Jt e (Wq 0) WK) (Wx 1 (NI Mf Wu)))) (WB (Ta (Md (K:=K) rfl YJ XB Up (OH (TZ e)) (Jt e (Wq 0) WK) (Wx 1 (NI Mf Wu)))) (WH (Jd (NO (NI WK (Wx 1 (Wx 2 Wu)))))))),?_⟩;refine WX fun N d=>?_
  walk_at"rd";refine⟨_,a.g rfl,.inr (.inr (.inl ⟨rfl,.inr ⟨_,a.dH⟩⟩)),dh,rfl,Ju k,_,a.dH,n,S0 a.dH fun G1 i e1=>d _ _ ?_⟩;clear d N;have x:=i _ _ a.mm (Wr a.mm a.dH nofun);have b:=i _ _ a.dS (Ne.symm a.n1);have v:=i _ _ n (Wr n a.dH nofun);refine WX fun N d=>?_
  walk_at"rd";refine⟨_,.inl ⟨_,Sum.inr "since",.inl x,rfl,rfl⟩,.inr (.inr (.inl ⟨rfl,.inr ⟨_,b⟩⟩)),ds,rfl,Ju k,_,b,v,S0 b fun G2 b2 e2=>d _ _ ?_⟩;clear d N;obtain⟨kp,j⟩:=a.pop i e1 b2 e2;walk_at"rd";refine⟨Jc (by decide),fun p G3 hp u g3=>q p G3 (j.fresh kp hp) (fun c o h n1 n2 n3=>u _ _ (kp c o h n1 n2 n3)) (j.mono u) g3⟩
def GR(es:List ME):Int:=Nk (Wy es)
inductive IW(vs:List V)(H:Hp)(Q:VK)(E:XK):Prop|mk (m dh ds dd:Wk) (M:Tw) (_:vs=[.ref m]) (_:N7 H m dh ds dd M) (_:M.es.length <=1000) (_:(∀e∈M.es,e.rs.st.length <=100000)) (_:∀G,Ws H G->Q (.int (GR M.es)) G)
abbrev CV:Stmt:=top 59
theorem dP:Jx ["_law_m"] ["_law_m"] (Wp CV):=by walk_at"e"
theorem y0{f:Wk}{fd:Wf}(F:JE K "_law_size" "_law_size" CV f fd)(B:Bt mg)(B2:GO mg):Wz P w K mg base Jf 1 f fd ["_law_m"] IW:=by
 refine F.ok dP (fun vs H Q E h=>?_) (fun cdv A outer s H vs Q E hr h=>?_)
 .obtain⟨m,dh,ds,dd,M,rfl,_⟩:=h;rfl
 .obtain⟨m,dh,ds,dd,M,rfl,b,hl,hb,q⟩:=h;refine⟨_,(WH (Jd (N4 (Qd (K:=K) rfl rfl) B2.sum (J7 (hs:=GB) (E8 (Di (N':=["_law_heap_here"]) (caps:=[none]) (MR (sc:=Wp CV) (N:=["_law_m"]) rfl rfl (by decide +kernel)) rfl (L0 (Bd (K:=K) rfl YJ U4 UK Hm (Jt hr (Wq 0) WK))) (fun _ _ _ _ _=>(Ms (i:=0) (MB (N:=["_law_heap_here"]) rfl (by decide +kernel)) rfl (Or.inl rfl))) (fun _ _ _ _ _=>DC) (fun _ _ _ _ _=>(N4 AD B.len (NT (Jt hr (Wq 0) WK) Wu))))) Wu)))),?_⟩;walk_at"rd";have aa:(Dr M.es).length=M.es.length:=Y1 ..;refine LB b.dH (fun Rr h=>by walk_at"rd";exact⟨_,b.g rfl,.inr (.inr (.inl ⟨rfl,.inr ⟨_,b.dH⟩⟩)),dh,rfl,_,b.dH,h⟩) (fun i ys σ'=>ys=((M.es.take i).map fun e=>V.int e.rs.st.length)/\∃v,σ'=[v]) ⟨rfl,_,rfl⟩ ?_ (by omega) ?_ ?_
  .rintro i ys σ' ⟨rfl,_⟩;rw[Y1,Yt];omega
  .rintro Hf o r hfd i k v ys σ' hk ⟨rfl,v0,rfl⟩;obtain⟨e,n,rfl,rfl⟩:=A0 hk;have d:=b.hs e (Yx n);have u:M9 Hf e.h e.a e.rs:=⟨r _ _ d.hd (Wr d.hd b.dH nofun),r _ _ d.bs (Wr d.bs b.dH nofun),d.ne⟩;walk_at"rd";refine⟨_,u.gb,e.a,rfl,_,u.bs,?_⟩;rw[YK,n,Xc,Yf,show(Ml e.rs.st).length=e.rs.st.length from Y1 ..];rfl
  .rintro ys σ' ⟨rfl,_⟩ p G hp s1 y;rw[aa,YA (Y6 _)]at y;have em:(M.es.map fun e=>V.int e.rs.st.length)=(M.es.map fun e=>(e.rs.st.length:Int)).map V.int:=by rw[Yo];rfl
   rw[em]at y;have bd:∀x∈M.es.map (fun e=>(e.rs.st.length:Int)),0 <=x/\x <=100000:=fun x c=>by
    obtain⟨e,n,rfl⟩:=Y3.mp c;have:=hb e n;omega
   refine⟨p,rfl,_,WA.of y,(fun x c=>by have:=bd x c;omega),(fun j hj=>?_),?_⟩
   .have h1:=QO _ fun x c=>bd x (Vd (i:=j) c)
    have h2:((M.es.map fun e=>(e.rs.st.length:Int)).take j).length <=1000:=by rw[Yt,Y1];omega
    omega
   .have e2:GR M.es=(M.es.map fun e=>(e.rs.st.length:Int)).sum:=by unfold GR Nk Wy;rw[Yo];rfl
    rw[<-e2];exact q G s1
theorem HE{α β:Type}{f:α->β}:∀{l:List α},(l.map f).Nodup->∀{x y:α},x∈l->y∈l->f x=f y->x=y
 |a::r,h,x,y,hx,hy,e=>by
  rw[List.map_cons,YE]at h;rcases Yl.mp hx with rfl|hx' <;> rcases Yl.mp hy with rfl|hy'
  .rfl
  .exact absurd (Y3.mpr ⟨y,hy',e.symm⟩) h.1
  .exact absurd (Y3.mpr ⟨x,hx',e⟩:_∈r.map f) h.1
  .exact HE h.2 hx' hy' e
def RX(es:List ME)(ks:List Ky):List ME:=es.filter fun e=> !decide (e.ky∈ks)
theorem mT(es:List ME)(ks:List Ky)(k:Ky):DV (RX es ks) k=RX es (ks++[k]):=by
 unfold DV RX;rw[Vp];apply Xw;intro e _;rw[Yw];simp only[X0,Xv,X6,YB,Yg,not_or];exact And.comm
def R4(M:Tw)(now:Int):List (Int×Ky):=(M.es.filter fun x=>decide (x.first+ M.wt <=now)).map fun x=>(x.first,x.ky)
def Mu(M:Tw)(now:Int):Tw:={M with es:=M.es.filter fun x=> !decide (x.first+ M.wt <=now)}
theorem wY{M:Tw}{now:Int}(hk:(M.es.map (·.ky)).Nodup){ps:List (Int×Ky)}(hp:ps.Perm (R4 M now)):RX M.es (ps.map (·.2))=(Mu M now).es:=by
 unfold RX Mu;apply Xw;intro e f
 congr 1
 rw[Yw,Yb,Yb];constructor
 .intro h;obtain⟨p,c,d⟩:=Y3.mp h;obtain⟨x,i,rfl⟩:=Y3.mp (hp.mem_iff.mp c);obtain⟨b,a⟩:=Ym.mp i;have:x=e:=HE hk b f d;subst this;exact X5 a
 .intro h;exact Y3.mpr ⟨(e.first,e.ky),hp.mem_iff.mpr (Y3.mpr ⟨e,Ym.mpr ⟨f,Yd h⟩,rfl⟩),rfl⟩
inductive Oi(vs:List V)(H:Hp)(Q:VK)(E:XK):Prop|mk (m dh ds dd:Wk) (M:Tw) (now:Int) (_:vs=[.ref m,.int now]) (_:N7 H m dh ds dd M) (_:M.es.length < 64) (_:∀ (ps:List (Int×Ky)) l G,ps.Perm (R4 M now)->ps.Pairwise (fun a b=>J5 b a=false)->H l=none->MO dh ds dd H G->N7 G m dh ds dd (Mu M now)->NP G l (ps.map (·.2)) "wait"->Q (.ref l) G)
abbrev BE:Stmt:=top 60
theorem Sg:Jx ["_law_m","_law_time_here","_law_over"] ["_law_m","_law_time_here"] (Wp BE):=by walk_at"e"
theorem d7{f:Wk}{fd:Wf}(F:JE K "_law_ended" "_law_ended" BE f fd)(B2:GO mg)(JI:N6 P w K mg base "_law_gone" 1 ["_law_m","_law_key_here","_law_reason"] [] By):Wz P w K mg base Jf 2 f fd ["_law_m","_law_time_here"] Oi:=by
 refine F.ok Sg (fun vs H Q E h=>?_) (fun cdv A outer s H vs Q E hr h=>?_)
 .obtain⟨m,dh,ds,dd,M,now,rfl,_⟩:=h;rfl
 .obtain⟨m,dh,ds,dd,M,now,rfl,hM,hl,q⟩:=h;refine⟨_,(WB (JP 2 Sg (N4 (C8 (K:=K) (Room.units hr) rfl) B2.sorted (J7 (hs:=GB) (E8 (Di (N':=["_law_key_here","_law_since","_law_time_here","_law_m"]) (caps:=[none,none,some 1,some 0]) (MR (sc:=Wp BE) (N:=["_law_m","_law_time_here","_law_over"]) rfl rfl (by decide +kernel)) rfl (ZP (Bd (K:=K) rfl YJ VC PySem.F.type_dict_items rR (Jt hr (Wq 0) WK))) (fun _ _ _ _ _=>(GM (K:=K) (n:=2) rfl rfl (TL (Ms (i:=0) (MB (N:=["_law_key_here","_law_since","_law_time_here","_law_m"]) rfl (by decide +kernel)) rfl (Or.inl rfl)) (TL (Ms (i:=1) (MB (N:=["_law_key_here","_law_since","_law_time_here","_law_m"]) rfl (by decide +kernel)) rfl (Or.inl rfl)) GV)))) (fun _ _ _ _ _=>(Ah (JA (Jy GU) (J9 (Jy NW) (Wq 1) (Jt hr (Wq 3) WK)) (Wq 2)))) (fun _ _ _ _ _=>(NO (Wx 1 (Wx 0 Wu)))))) Wu))) (WH (Jd (Di (N':=["_law_since","_law_key_here","_law_m"]) (caps:=[none,none,some 0]) (MR (sc:=Wp BE) (N:=["_law_m","_law_time_here","_law_over"]) rfl rfl (by decide +kernel)) rfl (GE (K:=K) rfl (Wq 2)) (fun _ _ _ _ _=>(GM (K:=K) (n:=2) rfl rfl (TL (Ms (i:=0) (MB (N:=["_law_since","_law_key_here","_law_m"]) rfl (by decide +kernel)) rfl (Or.inl rfl)) (TL (Ms (i:=1) (MB (N:=["_law_since","_law_key_here","_law_m"]) rfl (by decide +kernel)) rfl (Or.inl rfl)) GV)))) (fun _ _ _ _ _=>DC) (fun _ _ _ _ _=>(JT JI hr.m rfl (Wx 2 (Wx 1 (NI WK Wu))))))))),?_⟩;refine WX fun N hN=>?_
  walk_at"rd";have hrl:(Df M.es).length=M.es.length:=Y1 ..;have nm:m≠ds:=Wr hM.mm hM.dS nofun;refine rY hM.dS (fun Rr h=>by walk_at"rd";exact⟨_,hM.g rfl,.inr (.inr (.inl ⟨rfl,.inr ⟨_,hM.dS⟩⟩)),ds,rfl,_,hM.dS,h⟩) (fun i ys σ' Hf=>Pw (Gh Hf) ys (((M.es.take i).filter fun x=>decide (x.first+ M.wt <=now)).map fun x=>(x.first,x.ky))/\∃v u,σ'=[v,u,some (.int now),some (.ref m)]) (fun Hf=>⟨Pw.nil,none,none,rfl⟩) ?_ ?_ (by omega) ?_ ?_
  .rintro i ys σ' Hf Hg ⟨h1,h2⟩ sx;exact⟨h1.imp fun x y ⟨t,b,h1,h2,h3⟩=>⟨t,b,h1,sx _ _ h2,sx _ _ h3⟩,h2⟩
  .rintro i ys σ' Hf ⟨h1,_⟩;rw[h1.1,Y1];exact YD (Yz ..) (by rw[Yt];omega)
  .rintro H0 Hf o s0 off hfd i t b k v ys σ' hk ht hb ⟨h1,v0,u0,rfl⟩;obtain⟨e,he,rfl,rfl⟩:=A0 hk;have hmm:=off m _ hM.mm nm;walk_at"rd";refine⟨_,Ja.of ht,rfl,_,_,rfl,_,_,rfl,rfl,_,.inl ⟨_,Sum.inr "wait",.inl hmm,rfl,rfl⟩,_,rfl,_,rfl,?_⟩;rw[YK,he,Xc,XC,Yf]
   by_cases ho:e.first+ M.wt <=now
   .rw[Y5 (Yd ho),show [e].filter (fun x=>decide (x.first+ M.wt <=now))=[e] by simp[ho]];refine⟨Jc (by simp),fun p G hp s1 e1=>⟨?_,s0.trans s1⟩⟩;exact(h1.imp fun x y ⟨t,b,h1,h2,h3⟩=>⟨t,b,h1,s1 _ _ h2,s1 _ _ h3⟩).snoc ⟨p,b,rfl,e1,s1 _ _ hb⟩
   .rw[Y2 (by simpa using ho),show [e].filter (fun x=>decide (x.first+ M.wt <=now))=[] by simp[ho],List.map_nil,List.append_nil];exact⟨h1,s0⟩
  .rintro ys σ' Hn ⟨h1,_⟩ p G hp s1 s2 e1;rw[hrl,YA (Y6 _)]at h1;have hG:=hM.mono s1;have h2:Pw (Gh G) ys (R4 M now):=h1.imp fun x y ⟨t,b,h1,h2,h3⟩=>⟨t,b,h1,s2 _ _ h2 (fun _ _ z=>nomatch z),s2 _ _ h3 (fun _ _ z=>nomatch z)⟩
   have hel:(R4 M now).length < 64:=by
    unfold R4;rw[Y1];exact Ya (Yz ..) hl
   refine⟨p,rfl,ys,WA.of e1,R4 M now,h2.1,fun i x q a b=>?_,by rw[h2.1];exact hel,fun r l G2 j hsort hl0 s4 e4=>?_⟩
   .obtain⟨t,b,h1,h3,h4⟩:=h2.2 i x q a b;exact⟨t,h1,b,Ja.of h3,Ja.of h4⟩
   obtain⟨ps,eps⟩:∃ps:List (Int×Ky),ps=r.map fun i=>(R4 M now).getD i (0,0,"",""):=⟨_,rfl⟩
   obtain⟨zs,ezs⟩:∃zs:List V,zs=r.map fun i=>ys.getD i .non:=⟨_,rfl⟩
   have hpp:ps.Perm (R4 M now):=by rw[eps];exact L9 (by rw[<-h2.1];exact j)
   have hps:ps.Pairwise (fun a b=>J5 b a=false):=by rw[eps];exact hsort
   have hzp:Pw (Gh G2) zs ps:=by
    rw[ezs,eps];refine(h2.pick r fun i hi=>by simpa using j.mem_iff.mp hi).imp fun x y ⟨t,b,h1,h3,h4⟩=>⟨t,b,h1,s4 _ _ h3,s4 _ _ h4⟩
   rw[<-ezs]at e4;clear hsort j eps ezs;have hM2:=hG.mono s4;refine hN _ _ ?_;clear hN N;walk_at"rd";refine⟨⟨_,WA.of e4⟩,?_⟩;obtain⟨Pv,ePv⟩:∃Pv:Nat->List V->L2.St->Hp->Prop,Pv=fun i ys σ' Gi=>MO dh ds dd G2 Gi/\N7 Gi m dh ds dd {M with es:=RX M.es ((ps.take i).map (·.2))}/\(∃a b,σ'=[a,b,some (.ref m)])/\∃ts:List (Addr×Addr),ys=ts.map (fun t=>V.ref t.1)/\Pw (fun(t:Addr×Addr) (k:Ky)=>Gi t.1=some (.tup [.str "gone",.ref t.2,.str "wait"])/\Gi t.2=some (.tup (NG k))) ts ((ps.take i).map (·.2)):=⟨_,rfl⟩
   refine AX (K:=K) (xs:=zs) Pv (by rw[ePv];exact⟨fun c o h _ _ _=>h,by rw[List.take_zero,List.map_nil,show RX M.es []=M.es from Xl.mpr (fun x _=>by simp)];exact hM2,⟨none,none,rfl⟩,[],rfl,Pw.nil⟩) ?_ (YD (by rw[hzp.1,hpp.length_eq];omega) (Jc (n:=64) (by decide))) ?_ ?_ <;> rw[ePv]
   .rintro i ys σ' Gi ⟨kp,d,_,ts,rfl,hw⟩ hi;refine⟨WA.of (hM2.kp kp e4 (fun _ z=>nomatch z)),?_⟩;rw[Y1,hw.1,Y1,Yt];omega
   .rintro i x ys σ' Gi hx ⟨kp,d,⟨a,b,rfl⟩,ts,rfl,hw⟩;rw[<-ePv];obtain⟨pr,hpr,t,tb,rfl,ht,htb⟩:=hzp.get hx;walk_at"rd";refine⟨_,Ja.of (hM2.kp kp ht (fun _ z=>nomatch z)),rfl,_,_,rfl,_,_,rfl,rfl,?_⟩;refine⟨m,dh,ds,dd,tb,_,pr.2,"wait",rfl,d,hM2.kp kp htb (fun _ z=>nomatch z),fun p6 G6 hp6 kp6 hM6 g6=>?_⟩;rw[ePv];have hM6:N7 G6 m dh ds dd {M with es:=DV (RX M.es ((ps.take i).map (·.2))) pr.2}:=hM6;rw[mT]at hM6;refine⟨fun c o h n1 n2 n3=>kp6 c o (kp c o h n1 n2 n3) n1 n2 n3,by rw[YK,hpr,Yf];exact hM6,⟨_,_,rfl⟩,ts++[(p6,tb)],by rw[Yf];rfl,?_⟩;rw[YK,hpr,Yf];exact(hw.imp fun x y h=>⟨d.kp kp6 h.1 (fun _ z=>nomatch z),d.kp kp6 h.2 (fun _ z=>nomatch z)⟩).snoc (x:=(p6,tb)) (y:=pr.2) ⟨g6,d.kp kp6 (hM2.kp kp htb (fun _ z=>nomatch z)) (fun _ z=>nomatch z)⟩
   .rintro ys σ' Gi ⟨kp,d,_,ts,rfl,hw⟩ l7 G7 hl7 s7 e7;rw[hzp.1,YA (Y6 _)]at hw d;rw[wY hM.nk hpp]at d;have s14:=s1.trans s4;have kpH:MO dh ds dd H Gi:=fun c o h n1 n2 n3=>kp c o (s14 _ _ h) n1 n2 n3
    refine q ps l7 G7 hpp hps (N7.fresh d kpH hl7) (fun c o h n1 n2 n3=>s7 _ _ (kpH c o h n1 n2 n3)) (d.mono s7) ⟨ts,hw.1,e7,fun i t k a b=>?_⟩;obtain⟨z1,z2⟩:=hw.2 i t k a b;exact⟨s7 _ _ z1,s7 _ _ z2⟩
inductive Sv(vs:List V)(H:Hp)(Q:VK)(E:XK):Prop|mk (m dh ds dd t:Wk) (M:Tw) (own:Ky) (_:vs=[.ref m,.ref t]) (_:N7 H m dh ds dd M) (_:H t=some (.tup (NG own))) (_:M.es.length < 64) (_:Na own) (_:(∀e∈M.es,Na e.ky)) (_:TV M.out own (Wy M.es)≠[]) (_:∀q t' G,Db (TV M.out own (Wy M.es))=some q->Ws H G->G t'=some (.tup (NG q.2))->Q (.ref t') G)
theorem xS(a b:Ky):PyData.eqv (DA a.1 a.2.1 a.2.2) (DA b.1 b.2.1 b.2.2)=decide (a=b):=by
 obtain⟨i,h,f⟩:=a;obtain⟨e,d,c⟩:=b;rw[Yw];simp[PyData.eqv,PyData.eqvAll]
theorem QI{te td:TE}{σ:L2.St}{H:Hp}{m dh ds dd t:Wk}{M:Tw}{own:Ky}{vl:ME->Int}{Q:VK}(hM:N7 H m dh ds dd M)(ht:H t=some (.tup (NG own)))(hl:M.es.length <=1000)(hown:Na own)(hok:∀e∈M.es,Na e.ky)(hσ:N5 [none,some 0,some 1] σ=[none,some (.ref m),some (.ref t)])(htd:∀R:VK,R (.ref dh) H->td σ H R)
  (hte:∀Hf o b e,e∈M.es->(∀c u,H c=some u->c≠dh->Hf c=some u)->Hf dh=some (.frz o (.dT (Dr M.es)))->Hf b=some (.tup (NG e.ky))->∀R:VK,(∀p G,Ws Hf G->G p=some (.tup [.int (vl e),.ref b])->R (.ref p) G)->te [some (.ref b),some (.ref m),some (.ref t)] Hf R)
  (hq:∀ys p G,Ws H G->G p=some (.lst ys)->Pw (Gh G) ys ((M.es.filter fun e=> !decide (e.ky=own)).map fun e=>(vl e,e.ky))->Q (.ref p) G):
  Er (GQ [none,some 0,some 1] (AT td) (Go 0) (GC (DM (Lj K) (RJ 0) (RJ 2))) te) σ H Q:=by
 have s:(Dr M.es).length=M.es.length:=Y1 ..;refine Pk hM.dH htd (fun i ys σ' Hf=>Pw (Gh Hf) ys (((M.es.take i).filter fun e=> !decide (e.ky=own)).map fun e=>(vl e,e.ky))/\∃v,σ'=[v,some (.ref m),some (.ref t)]) (fun Hf _=>⟨Pw.nil,none,hσ⟩) ?_ (by omega) ?_ ?_
 .rintro i ys σ' Hf ⟨h1,_⟩;rw[h1.1,Y1];exact YD (Yz ..) (by rw[Yt];omega)
 .rintro Hf o j w i b k v ys σ' d hb ⟨h1,v0,rfl⟩;obtain⟨e,he,rfl,rfl⟩:=A0 d;have f:=Yx he;have h:Hf b=some (.tup (NG e.ky)):=hb;have r:=j t _ ht (Wr ht hM.dH nofun);have hK:=hok e f;walk_at"rd";refine⟨_,_,Do h,Do r,Bg _ hK.2.2.1 hK.2.2.2,Bg _ hown.2.2.1 hown.2.2.2,?_⟩;rw[xS];refine⟨_,rfl,?_⟩;rw[YK,he,Xc,XC,Yf]
  by_cases d:e.ky=own
  .rw[Yd d,Y2 (by simp),show [e].filter (fun x=> !decide (x.ky=own))=[] by simp[d],List.map_nil,List.append_nil];exact⟨h1,Ws.refl _⟩
  .rw[Yp d,Y5 (by simp),show [e].filter (fun x=> !decide (x.ky=own))=[e] by simp[d]];refine hte Hf o b e f j w h _ fun p G a g1=>⟨?_,a⟩
   exact(h1.imp fun x y ⟨t,b,h1,h2,n⟩=>⟨t,b,h1,a _ _ h2,a _ _ n⟩).snoc ⟨p,b,rfl,g1,a _ _ h⟩
 .rintro ys σ' Hn ⟨h1,_⟩ _ p G hp a q e1;rw[s,YA (Y6 _)]at h1;exact hq ys p G a e1 (h1.imp fun x y ⟨t,b,h1,h2,n⟩=>⟨t,b,h1,q _ _ h2 (fun _ _ z=>nomatch z),q _ _ n (fun _ _ z=>nomatch z)⟩)
theorem jG{H1 G2:Hp}{ys:List V}{c:List (Int×Ky)}{l:Wk}{r:List Nat}(h:Pw (Gh H1) ys c)(hn:c≠[])(hperm:r.Perm (List.range ys.length))(hsort:(r.map fun i=>c.getD i (0,0,"","")).Pairwise (fun a b=>J5 b a=false))(s4:Ws H1 G2)(e4:G2 l=some (.lst (r.map fun i=>ys.getD i .non))):
  ∃zs t b x,G2 l=some (.lst zs)/\Mn zs 0=some (.ref t)/\G2 t=some (.tup [.int x.1,.ref b])/\G2 b=some (.tup (NG x.2))/\Db c=some x:=by
 obtain⟨ps,f⟩:∃ps:List (Int×Ky),ps=r.map fun i=>c.getD i (0,0,"",""):=⟨_,rfl⟩
 obtain⟨zs,p⟩:∃zs:List V,zs=r.map fun i=>ys.getD i .non:=⟨_,rfl⟩
 have e:ps.Perm c:=by rw[f];exact L9 (by rw[<-h.1];exact hperm)
 have q:ps.Pairwise (fun a b=>J5 b a=false):=by rw[f];exact hsort
 have n:Pw (Gh G2) zs ps:=by
  rw[p,f];refine(h.pick r fun i hi=>by simpa using hperm.mem_iff.mp hi).imp fun x y ⟨t,b,h1,v,u⟩=>⟨t,b,h1,s4 _ _ v,s4 _ _ u⟩
 rw[<-p]at e4;cases ps with
 |nil=>exact absurd e.symm.eq_nil hn
 |cons x rest=>
  cases zs with
  |nil=>exact absurd n.1 (by simp)
  |cons z zr=>
   obtain⟨t,b,rfl,h1,h2⟩:=n.2 0 z x rfl rfl;refine⟨_,t,b,x,e4,Gk (j:=0) rfl,h1,h2,Q2 (e.mem_iff.mp (.head _)) fun s d=>?_⟩;rcases Yl.mp (e.mem_iff.mpr d) with rfl|d
   .exact De.irrefl s
   .exact List.rel_of_pairwise_cons q d
abbrev BR:Stmt:=top 61
theorem Ou:Jx ["_law_m","_law_own","_law_sizes"] ["_law_m","_law_own"] (Wp BR):=by walk_at"e"
theorem x6{f:Wk}{fd:Wf}(F:JE K "_law_first" "_law_first" BR f fd)(B:Bt mg)(B2:GO mg):Wz P w K mg base Jf 1 f fd ["_law_m","_law_own"] Sv:=by
 refine F.ok Ou (fun vs H Q E h=>?_) (fun cdv A outer s H vs Q E v h=>?_)
 .obtain⟨m,dh,ds,dd,t,M,aa,rfl,_⟩:=h;rfl
 .obtain⟨m,dh,ds,dd,t,M,aa,rfl,c,ht,hl,hown,hok,hne,q⟩:=h;refine⟨_,(WB (JJ (JA (TJ TH) (Jt v (Wq 0) WK) WK) (WH (Jd (Mz K (Mm K (N4 (C8 (K:=K) (Room.units v) rfl) B2.sorted (J7 (hs:=GB) (E8 (Di (N':=["_law_key_here","_law_m","_law_own"]) (caps:=[none,some 0,some 1]) (MR (sc:=Wp BR) (N:=["_law_m","_law_own","_law_sizes"]) rfl rfl (by decide +kernel)) rfl (EX (Jt v (Wq 0) WK)) (fun _ _ _ _ _=>(Ms (i:=0) (MB (N:=["_law_key_here","_law_m","_law_own"]) rfl (by decide +kernel)) rfl (Or.inl rfl))) (fun _ _ _ _ _=>(Ah (JA (RO (K:=K) (Room.units v) rfl) (Wq 0) (Wq 2)))) (fun _ _ _ _ _=>(NO (NT (Jt v (Jt v (Wq 1) WK) (Wq 0)) (Wx 0 Wu)))))) Wu)) WE) WE))) JV) (WB (IJ (CC (i:=2) (N':=["_law_key_here","_law_m","_law_own"]) (caps:=[none,some 0,some 1]) (MR (sc:=Wp BR) (N:=["_law_m","_law_own","_law_sizes"]) rfl rfl (by decide +kernel)) rfl (Ou).nd rfl (Or.inl rfl) (EX (Jt v (Wq 0) WK)) (fun _ _ _ _ _=>(Ms (i:=0) (MB (N:=["_law_key_here","_law_m","_law_own"]) rfl (by decide +kernel)) rfl (Or.inl rfl))) (fun _ _ _ _ _=>(Ah (JA (RO (K:=K) (Room.units v) rfl) (Wq 0) (Wq 2)))) (fun _ _ _ _ _=>(NO (J7 (hs:=Dm) (J9 (Jy Pp) WE (N4 AD B.len (NT (Jt v (Jt v (Jt v (Wq 1) WK) (Wq 0)) WK) Wu))) (Wx 0 Wu)))) rfl)) (WH (Jd (Mz K (Mm K (N4 (C8 (K:=K) (Room.units v) rfl) B2.sorted (Wx 2 Wu)) WE) WE))))),?_⟩;have hlen:(TV M.out aa (Wy M.es)).length < 64:=by
   unfold TV Wy;rw[Y1];exact Ya (Yz ..) (by rw[Y1];exact hl)
  have hpr:∀vl:ME->Int,(∀e,vl e=if M.out="oldest" then e.first else -(e.rs.st.length:Int))->(M.es.filter fun e=> !decide (e.ky=aa)).map (fun e=>(vl e,e.ky))=TV M.out aa (Wy M.es):=fun vl hv=>by
   unfold TV Wy;rw[Xd,Yo];exact YO fun e _=>by rw[hv];rfl
  have hend:∀{ys:List V} {G:Hp},Ws H G->Pw (Gh G) ys (TV M.out aa (Wy M.es))->∀ (r:List Nat) (l:Wk) (y:Hp),r.Perm (List.range ys.length)->(r.map fun i=>(TV M.out aa (Wy M.es)).getD i (0,0,"","")).Pairwise (fun a b=>J5 b a=false)->Ws G y->y l=some (.lst (r.map fun i=>ys.getD i .non))->
    ∃x,WA K y l x/\∃x_1,Mn x 0=some x_1/\∃p,x_1=V.ref p/\∃x,Ja K y p x/\∃x_3,Mn x 1=some x_3/\Q x_3 y:=fun s1 u r l y n d s4 e4=>by
   obtain⟨zs,t,b,x,z1,z2,z3,z4,z5⟩:=jG u hne n d s4 e4;exact⟨_,WA.of z1,_,z2,t,rfl,_,Ja.of z3,_,Gk (j:=1) rfl,q x b y z5 (s1.trans s4) z4⟩
  refine WX fun N hN=>?_
  walk_at"rd";refine⟨_,c.g rfl,rfl,?_⟩
  by_cases ho:M.out="oldest"
  .rw[Y5 (by rw[ho];simp)];refine QI (vl:=fun e=>e.first) c ht (by omega) hown hok rfl (fun Rr h=>by walk_at"rd";exact⟨_,c.g rfl,h⟩) (fun Hf o b e he ab hfd hb R hR=>?_) fun ys p G s1 e1 u=>?_
   .have hm':=ab m _ c.mm (Wr c.mm c.dH nofun);have hs':=ab ds _ c.dS (Ne.symm c.n1);walk_at"rd";exact⟨_,.inl ⟨_,Sum.inr "since",.inl hm',rfl,rfl⟩,ds,rfl,_,.inr ⟨_,Ju e.ky,b,.inl hs',rfl,hb,(Be c.nk he).symm⟩,Jc (by decide),fun p G _ s1 g1=>hR p G s1 g1⟩
   .rw[hpr _ fun e=>by rw[Y5 ho]]at u;refine⟨p,rfl,ys,WA.of e1,_,u.1,fun i x q a b=>?_,by rw[u.1];exact hlen,fun r l y n d _ s4 e4=>hend s1 u r l y n d s4 e4⟩;obtain⟨t,b,h1,h3,h4⟩:=u.2 i x q a b;exact⟨t,h1,b,Ja.of h3,Ja.of h4⟩
  .rw[Y2 (by simpa using ho)];refine hN _ _ ?_;clear hN N;refine WX fun N hN=>?_
   walk_at"rd";refine QT (QI (vl:=fun e=>0 - (e.rs.st.length:Int)) c ht (by omega) hown hok rfl (fun Rr h=>by walk_at"rd";exact⟨_,c.g rfl,h⟩) (fun Hf o b e he ab hfd hb R hR=>?_) fun ys p G s1 e1 u=>hN _ _ ?_)
   .have hm':=ab m _ c.mm (Wr c.mm c.dH nofun);have hL:=c.hs e he;have hL1:M9 Hf e.h e.a e.rs:=⟨ab _ _ hL.hd (Wr hL.hd c.dH nofun),ab _ _ hL.bs (Wr hL.bs c.dH nofun),hL.ne⟩;walk_at"rd";refine⟨_,.inl ⟨_,Sum.inr "heaps",.inl hm',rfl,rfl⟩,dh,rfl,_,.inr ⟨_,Ju e.ky,b,.inr ⟨o,hfd⟩,rfl,hb,(Be c.nk he).symm⟩,e.h,rfl,_,hL1.gb,e.a,rfl,_,hL1.bs,Jc (by decide),fun p G _ s1 g1=>hR p G s1 ?_⟩;rw[g1,show(Ml e.rs.st).length=e.rs.st.length from Y1 ..]
   .clear hN N;rw[hpr _ fun e=>by rw[Y2 ho];omega]at u;walk_at"rd";refine⟨ys,WA.of e1,_,u.1,fun i x q a b=>?_,by rw[u.1];exact hlen,fun r l y n d _ s4 e4=>hend s1 u r l y n d s4 e4⟩;obtain⟨t,b,h1,h3,h4⟩:=u.2 i x q a b;exact⟨t,h1,b,Ja.of h3,Ja.of h4⟩
def NQ(es:List ME)(k:Ky)(h a:Wk)(rs:RS)(now:Int):List ME:=if k∈es.map (·.ky) then es.map (fun e=>if e.ky=k then⟨k,h,a,rs,e.first⟩ else e) else es++[⟨k,h,a,rs,now⟩]
theorem OS{α:Type}{f:α->Ky}{g:α->V}{l:List α}{k:Ky}:((D4 f g l).any fun kv=>decide (kv.1=Ju k))=decide (k∈l.map f):=by
 unfold D4;rw[W5,Yw,Yb,List.any_eq_true];constructor
 .rintro⟨x,a,h⟩;exact Y3.mpr ⟨x,a,DR (X5 h)⟩
 .intro h;obtain⟨x,a,rfl⟩:=Y3.mp h;exact⟨x,a,Yd rfl⟩
section
variable{es:List ME}{k:Ky}{h a:Wk}{rs:RS}{now:Int}
theorem yQ:TC (Dr es) (Ju k) (.ref h)=Dr (NQ es k h a rs now):=by
 unfold TC NQ Dr;rw[OS]
 by_cases hk:k∈es.map (·.ky)
 .rw[Y5 (Yd hk),Y5 hk];unfold D4;rw[Yo,Yo];refine YO fun e _=>?_
  show(if Ju e.ky=Ju k then(Ju e.ky,V.ref h) else(Ju e.ky,V.ref e.h))=_
  by_cases hek:e.ky=k
  .rw[Y5 (by rw[hek])];show _=(Ju (if e.ky=k then(⟨k,h,a,rs,e.first⟩:ME) else e).ky,V.ref (if e.ky=k then(⟨k,h,a,rs,e.first⟩:ME) else e).h);rw[Y5 hek,hek]
  .rw[Y2 (fun z=>hek (DR z))];show _=(Ju (if e.ky=k then(⟨k,h,a,rs,e.first⟩:ME) else e).ky,V.ref (if e.ky=k then(⟨k,h,a,rs,e.first⟩:ME) else e).h);rw[Y2 hek]
 .rw[Y2 (by simpa using hk),Y2 hk];unfold D4;rw[Yf];rfl
theorem nS(hk:k∈es.map (·.ky)):Df (NQ es k h a rs now)=Df es:=by
 unfold NQ Df D4;rw[Y5 hk,Yo];refine YO fun e _=>?_
 show(Ju (if e.ky=k then(⟨k,h,a,rs,e.first⟩:ME) else e).ky,V.int (if e.ky=k then(⟨k,h,a,rs,e.first⟩:ME) else e).first)=_
 by_cases hek:e.ky=k
 .rw[Y5 hek,hek]
 .rw[Y2 hek]
theorem nA(hk:k∉es.map (·.ky)):TC (Df es) (Ju k) (.int now)=Df (NQ es k h a rs now):=by
 unfold TC NQ Df;rw[OS,Y2 (by simpa using hk),Y2 hk];unfold D4;rw[Yf];rfl
theorem BJ(es:List ME):(Wy es).map (·.1)=es.map (·.ky):=by unfold Wy;rw[Yo];rfl
theorem ZV:Wy (NQ es k h a rs now)=J6 (Wy es) k rs now:=by
 unfold J6 NQ;rw[BJ]
 by_cases hk:k∈es.map (·.ky)
 .rw[Y5 hk,Y5 hk];unfold Wy;rw[Yo,Yo];refine YO fun e _=>?_
  show((if e.ky=k then(⟨k,h,a,rs,e.first⟩:ME) else e).ky,(if e.ky=k then(⟨k,h,a,rs,e.first⟩:ME) else e).rs,(if e.ky=k then(⟨k,h,a,rs,e.first⟩:ME) else e).first)=if e.ky=k then(k,rs,e.first) else(e.ky,e.rs,e.first)
  by_cases hek:e.ky=k
  .rw[Y5 hek,Y5 hek]
  .rw[Y2 hek,Y2 hek]
 .rw[Y2 hk,Y2 hk];unfold Wy;rw[Yf];rfl
theorem IX{e:ME}(he:e∈NQ es k h a rs now):e∈es\/(e.ky=k/\e.h=h/\e.a=a/\e.rs=rs):=by
 unfold NQ at he
 split at he
 .obtain⟨x,c,b⟩:=Y3.mp he
  by_cases hek:x.ky=k
  .rw[Y5 hek]at b;subst b;exact .inr ⟨rfl,rfl,rfl,rfl⟩
  .rw[Y2 hek]at b;subst b;exact .inl c
 .rcases YB.mp he with z|z
  .exact .inl z
  .rw[Yg.mp z];exact .inr ⟨rfl,rfl,rfl,rfl⟩
theorem jX(hn:(es.map (·.ky)).Nodup):((NQ es k h a rs now).map (·.ky)).Nodup:=by
 unfold NQ
 split
 .rw[Yo];have:((fun e:ME=>e.ky) ∘ fun e=>if e.ky=k then(⟨k,h,a,rs,e.first⟩:ME) else e)=fun e=>e.ky:=by
   funext e
   show(if e.ky=k then(⟨k,h,a,rs,e.first⟩:ME) else e).ky=e.ky
   by_cases hek:e.ky=k
   .rw[Y5 hek,hek]
   .rw[Y2 hek]
  rw[this];exact hn
 .rename_i hk
  rw[Yf,Ue];exact⟨hn,by simp,fun x c y b=>by rw[Yg.mp b];exact fun z=>hk (by have z:x=k:=z;rw[<-z];exact c)⟩
theorem yK:∃e∈NQ es k h a rs now,e.ky=k/\e.rs=rs:=by
 unfold NQ
 split
 .rename_i hk
  obtain⟨x,c,b⟩:=Y3.mp hk;exact⟨_,Y3.mpr ⟨x,c,rfl⟩,by rw[Y5 b],by rw[Y5 b]⟩
 .exact⟨_,Yy _ (Yg.mpr rfl),rfl,rfl⟩
theorem uW:(NQ es k h a rs now).length <=es.length+ 1:=by
 unfold NQ
 split
 .rw[Y1];omega
 .rw[Ys];exact Y6 _
end
theorem HN:∀{xs:List AE},(xs.map (·.1)).Nodup->∀{x:AE},x∈xs->D1 xs x.1=x.2.1.st.length
 |y::r,hk,x,hx=>by
  unfold D1;rw[YN];rcases Yl.mp hx with rfl|z
  .rw[Yd rfl];rfl
  .have hne:¬y.1=x.1:=fun q=>(YE.mp hk).1 (Y3.mpr ⟨x,z,q.symm⟩)
   rw[Yp hne];exact HN (YE.mp hk).2 z
theorem Zz{es:List ME}{k:Ky}(hk:(es.map (·.ky)).Nodup)(h:k∈es.map (·.ky)):(DV es k).length < es.length:=by
 obtain⟨e,a,rfl⟩:=Y3.mp h;refine Nat.lt_of_le_of_ne (Yz ..) fun z=>?_
 have:=List.length_filter_eq_length_iff.mp z e a;simp at this
theorem QN{out:Str}{sp:Int}{own:Ky}{xs:List AE}(h:Nk xs <=sp):∀n,WL out sp own n xs=(xs,[])
 |0=>rfl
 |n+ 1=>by show(if Nk xs <=sp then _ else _)=_;rw[Y5 h]
theorem P5{out:Str}{sp:Int}{own:Ky}{xs:List AE}(h:sp < Nk xs)(ho:out="own"\/sp < D1 xs own)(hl:Nk (WP xs own) <=sp)(n:Nat):WL out sp own (n+ 1) xs=(WP xs own,[own]):=by
 have a:Mo out sp own xs=own:=by unfold Mo;rw[Y5 ho]
 show(if Nk xs <=sp then _ else _)=_;rw[Y2 (by omega),a,QN hl]
theorem ZT{xs:List AE}(k:Ky):D1 xs k <=Nk xs:=by
 unfold D1 Nk
 induction xs with
 |nil=>exact YZ _
 |cons x r ih=>
  rw[YN,List.map_cons,Ua];have a:0 <=(r.map fun x:AE=>(x.2.1.st.length:Int)).sum:=by
   clear ih
   induction r with
   |nil=>exact YZ _
   |cons y r ih=>rw[List.map_cons,Ua];omega
  by_cases h:x.1=k
  .rw[Yd h];show(x.2.1.st.length:Int) <=_;omega
  .rw[Yp h];exact Uq ih (by omega)
inductive OX(vs:List V)(H:Hp)(Q:VK)(E:XK):Prop|mk (m dh ds dd t hh ha:Wk) (M:Tw) (own:Ky) (rs:RS) (now:Int) (_:vs=[.ref m,.ref t,.ref hh,.int now]) (_:N7 H m dh ds dd M) (_:H t=some (.tup (NG own))) (_:M9 H hh ha rs) (_:M.es.length < 60) (_:Na own) (_:(∀e∈M.es,Na e.ky/\e.rs.st.length <=10000)) (_:rs.st.length <=10000) (_:Nk (WP (Wy M.es) own) <=M.sp) (_:∀es' l G,MO dh ds dd H G->N7 G m dh ds dd {M with es:=es'}->Wy es'=(WL M.out M.sp own ((J6 (Wy M.es) own rs now).length+ 1) (J6 (Wy M.es) own rs now)).1->NP G l (WL M.out M.sp own ((J6 (Wy M.es) own rs now).length+ 1) (J6 (Wy M.es) own rs now)).2 "room"->(∀e∈es',e∈M.es\/(e.h=hh/\e.a=ha))->Q (.ref l) G)
abbrev KS:Stmt:=top 62
theorem He:Jx ["_law_m","_law_key_here","_law_heap_here","_law_time_here","_law_events","_law_here"] ["_law_m","_law_key_here","_law_heap_here","_law_time_here"] (Wp KS):=by walk_at"e"
theorem yA{f:Wk}{fd:Wf}(F:JE K "_law_kept" "_law_kept" KS f fd)(B:Bt mg)(JI:N6 P w K mg base "_law_gone" 1 ["_law_m","_law_key_here","_law_reason"] [] By)(Nw:N6 P w K mg base "_law_size" 1 ["_law_m"] [] IW)(Tr:N6 P w K mg base "_law_first" 1 ["_law_m","_law_own"] [] Sv):Wz P w K mg base Jf 2 f fd ["_law_m","_law_key_here","_law_heap_here","_law_time_here"] OX:=by
 refine F.ok He (fun vs H Q E h=>?_) (fun cdv A outer s H vs Q E hr h=>?_)
 .obtain⟨m,dh,ds,dd,t,hh,ha,M,own,rs,now,rfl,_⟩:=h;rfl
 .obtain⟨m,dh,ds,dd,t,hh,ha,M,own,rs,now,rfl,hM,ht,hL,hlen,hown,hes,hrs,hoth,q⟩:=h;refine⟨_,(WB (JP 4 He (Te Wu)) (WB (JP 5 He (N4 AD B.len (NT (Jt hr (Wq 2) WK) Wu))) (WB (Ck (TZ hr) (Jt hr (Wq 0) WK) (Wq 1) (Wq 2) rfl) (WB (DE (JJ (RW (Ph (TZ hr)) (Wq 1) (Jt hr (Wq 0) WK) (by with_unfolding_all rfl)) (WH (Ck (TZ hr) (Jt hr (Wq 0) WK) (Wq 1) (Wq 3) rfl)) JV)) (WB (JJ (PW.pt (Dh (JA (Jy Gu) (Wq 5) (Jt hr (Wq 0) WK)) (DH (PW.pt (D3 (JA (TJ TH) (Jt hr (Wq 0) WK) WK) (DD (JA (Jy Gu) (JT Nw hr.m rfl (Wx 0 Wu)) (Jt hr (Wq 0) WK)))))))) (WH (Jd (Te (MG (JT JI hr.m rfl (Wx 0 (Wx 1 (NI WK Wu)))) Wu)))) JV) (WB (Cy YT (JA (Jy Gu) (JT Nw hr.m rfl (Wx 0 Wu)) (Jt hr (Wq 0) WK)) (WH (Ta (Md (K:=K) rfl Yr Yu Yv (Dc Da) (Wq 4) (MG (JT JI hr.m rfl (Wx 0 (MG (JT Tr hr.m rfl (Wx 0 (Wx 1 Wu))) (NI WK Wu)))) Wu))))) (WH (Jd (Wq 4))))))))),?_⟩;refine WX fun N hN=>?_
  walk_at"rd";refine⟨YF _,fun pe G0 hpe s0 g0=>hN _ _ ?_⟩;clear hN N;have v:=hM.mono s0;have hL0:=hL.mono s0;have ht0:=s0 _ _ ht;refine WX fun N hN=>?_
  walk_at"rd";refine⟨_,hL0.gb,ha,rfl,_,hL0.bs,hN _ _ ?_⟩;clear hN N;rw[show(Ml rs.st).length=rs.st.length from Y1 ..];refine WX fun N hN=>?_
  walk_at"rd";have hdl:(Dr M.es).length < sizeLine:=Ya (by rw[show(Dr M.es).length=M.es.length from Y1 ..];omega) (Tn (n:=60) (by decide));refine⟨_,v.g rfl,dh,rfl,Ju own,_,v.dH,ht0,hdl,fun G1 b1 e1=>hN _ _ ?_⟩;clear hN N;rw[yQ (a:=ha) (rs:=rs) (now:=now)]at e1;have hm1:=b1 _ _ v.mm (Wr v.mm v.dH nofun);have hs1:=b1 _ _ v.dS (Ne.symm v.n1);have hd1:=b1 _ _ v.dD (Ne.symm v.n2);have ht1:=b1 _ _ ht0 (Wr ht0 v.dH nofun);have hp1:=b1 _ _ g0 (Wr g0 v.dH nofun);have hL1:M9 G1 hh ha rs:=⟨b1 _ _ hL0.hd (Wr hL0.hd v.dH nofun),b1 _ _ hL0.bs (Wr hL0.bs v.dH nofun),hL.ne⟩;have mk:∀G2,(∀c o,G1 c=some o->c≠ds->G2 c=some o)->G2 ds=some (.dT (Df (NQ M.es own hh ha rs now)))->N7 G2 m dh ds dd {M with es:=NQ M.es own hh ha rs now}/\MO dh ds dd H G2:=fun G2 b2 e2=>by
   have kp:MO dh ds dd H G2:=fun c o h n1 n2 _=>b2 c o (b1 c o (s0 _ _ h) n1) n2
   refine⟨⟨b2 _ _ hm1 (Wr v.mm v.dS nofun),b2 _ _ e1 hM.n1,e2,b2 _ _ hd1 (Ne.symm hM.n3),hM.n1,hM.n2,hM.n3,fun e he=>?_,jX hM.nk⟩,kp⟩;rcases IX he with z|⟨_,z1,z2,z3⟩
   .exact hM.lh kp (hM.hs e z)
   .rw[z1,z2,z3];exact⟨b2 _ _ hL1.hd (Wr hL1.hd hs1 nofun),b2 _ _ hL1.bs (Wr hL1.bs hs1 nofun),hL.ne⟩
  refine WX fun N hN=>?_
  walk_at"rd";refine⟨fun σ' G=>σ'=[some (V.ref m),some (V.ref t),some (V.ref hh),some (V.int now),some (V.ref pe),some (V.int (rs.st.length:Int))]/\N7 G m dh ds dd {M with es:=NQ M.es own hh ha rs now}/\MO dh ds dd H G/\G t=some (.tup (NG own))/\G pe=some (.lst []),⟨_,.inl ⟨_,Sum.inr "since",.inl hm1,rfl,rfl⟩,ds,rfl,Ju own,_,.inl hs1,ht1,?_⟩,fun σ' G h=>hN _ _ ?_⟩
  .by_cases hk:own∈M.es.map (·.ky)
   .obtain⟨e,he,hek⟩:=Y3.mp hk;rw[show WM (Df M.es) (Ju own)=some (.int e.first) by rw[<-hek];exact Be hM.nk he,Y2 (by simp)];obtain⟨z1,z2⟩:=mk G1 (fun c o h _=>h) (by rw[nS hk];exact hs1);exact⟨rfl,z1,z2,ht1,hp1⟩
   .rw[show WM (Df M.es) (Ju own)=none from OE hk,Y5 (by simp)];have hsl:(Df M.es).length < sizeLine:=Ya (by rw[show(Df M.es).length=M.es.length from Y1 ..];omega) (Tn (n:=60) (by decide));refine⟨_,.inl ⟨_,Sum.inr "since",.inl hm1,rfl,rfl⟩,ds,rfl,Ju own,_,hs1,ht1,hsl,fun G2 b2 e2=>?_⟩;rw[nA (h:=hh) (a:=ha) (rs:=rs) hk]at e2;obtain⟨z1,z2⟩:=mk G2 b2 e2;exact⟨rfl,z1,z2,b2 _ _ ht1 (Wr ht1 hs1 nofun),b2 _ _ hp1 (Wr hp1 hs1 nofun)⟩
  clear hN N mk e1 hm1 hs1 hd1 ht1 hp1 hL1;obtain⟨rfl,hM2,kp2,ht2,hp2⟩:=h;clear b1 v hL0 ht0 hdl g0;obtain⟨es,ees⟩:∃es,es=NQ M.es own hh ha rs now:=⟨_,rfl⟩;have habs:Wy es=J6 (Wy M.es) own rs now:=by rw[ees];exact ZV
  have hel:es.length <=60:=by rw[ees];exact YD uW (by omega)
  have hem:∀e∈es,Na e.ky/\e.rs.st.length <=10000:=fun e he=>by
   rw[ees]at he;rcases IX he with z|⟨z1,_,_,z2⟩
   .exact hes e z
   .rw[z1,z2];exact⟨hown,hrs⟩
  have hin:∀e∈es,e∈M.es\/(e.h=hh/\e.a=ha):=fun e he=>by
   rw[ees]at he;exact(IX he).imp id fun z=>⟨z.2.1,z.2.2.1⟩
  obtain⟨eo,heo,heok,heor⟩:∃e∈es,e.ky=own/\e.rs=rs:=by rw[ees];exact yK
  rw[<-ees]at hM2;have hsz:D1 (Wy es) own=rs.st.length:=by
   have:=HN (xs:=Wy es) (by rw[BJ];exact hM2.nk) (x:=(eo.ky,eo.rs,eo.first)) (Y3.mpr ⟨eo,heo,rfl⟩);rw[heok,heor]at this;exact this
  have hlo:Nk (WP (Wy es) own) <=M.sp:=by rw[habs,Fk];exact hoth
  rw[<-habs]at q;clear ees habs;refine WX fun N hN=>?_
  walk_at"rd";have hgone:∀H1,N7 H1 m dh ds dd {M with es:=es}->MO dh ds dd H H1->H1 t=some (.tup (NG own))->M.sp < Nk (Wy es)->(M.out="own"\/M.sp < D1 (Wy es) own)->By [V.ref m,V.ref t,V.str (Str.ofString "room")] H1 (fun x H1=>1 <=sizeLine/\∀ (p:Wk) (G:Hp),H1 p=none->Ws H1 G->G p=some (HO.lst [x])->Q (V.ref p) G) E0:=fun H1 hM1 k1 ht1 hts hor=>by
   refine⟨m,dh,ds,dd,t,_,own,_,rfl,hM1,ht1,fun p G1 hp kp' hM' g'=>⟨Jc (by decide),fun p2 G2 hp2 sx gx=>q (DV es own) p2 G2 (fun c o h n1 n2 n3=>sx _ _ (kp' c o (k1 c o h n1 n2 n3) n1 n2 n3)) (hM'.mono sx) ?_ ?_ fun e he=>hin e (Ym.mp he).1⟩⟩
   .rw[P5 hts hor hlo];exact Fj es own
   .rw [P5 hts hor hlo];exact ⟨[(p, t)], rfl, gx, fun i tt k a b => by
     match i,a,b with
     |0,a,b=>cases a;cases b;exact⟨sx _ _ g',sx _ _ (hM1.kp kp' ht1 (fun _ z=>by cases z))⟩
     | i + 1, a, _ => simp at a⟩
  refine⟨_,hM2.g rfl,_,rfl,?_⟩
  by_cases h1:M.sp < (rs.st.length:Int)
  .rw[Y5 (Yd h1)];have:=ZT (xs:=Wy es) own;exact hgone G hM2 kp2 ht2 (by rw[hsz]at this;omega) (.inr (by rw[hsz];exact h1))
  rw[Y2 (by simpa using h1)];refine⟨_,hM2.g rfl,rfl,?_⟩;have hnext:∀G3,Ws G G3->(M.out="own"->Nk (Wy es) <=M.sp)->N [some (V.ref m),some (V.ref t),some (V.ref hh),some (V.int now),some (V.ref pe),some (V.int (rs.st.length:Int))] G3:=fun G3 s3 hno=>hN _ _ ?_
  .by_cases ho:M.out="own"
   .rw[Y5 (by rw[ho];simp)];refine⟨m,dh,ds,dd,_,rfl,hM2,by show es.length <=1000;omega,(fun e he=>by have:=(hem e he).2;omega),fun G3 s3=>⟨_,(hM2.mono s3).g rfl,_,rfl,_,rfl,?_⟩⟩;show if decide (M.sp < Nk (Wy es))=true then _ else _
    by_cases hts:M.sp < Nk (Wy es)
    .rw[Y5 (Yd hts)];exact hgone G3 (hM2.mono s3) (fun c o h n1 n2 n3=>s3 _ _ (kp2 c o h n1 n2 n3)) (s3 _ _ ht2) hts (.inl ho)
    .rw[Y2 (by simpa using hts)];exact hnext G3 s3 fun _=>by omega
   .rw[Y2 (by simpa using ho)];exact hnext G (Ws.refl _) fun z=>absurd z ho
  clear hN N hgone;have hM3:=hM2.mono s3;have kp3:MO dh ds dd H G3:=fun c o h n1 n2 n3=>s3 _ _ (kp2 c o h n1 n2 n3)
  have ht3:=s3 _ _ ht2;have hp3:=s3 _ _ hp2;clear hM2 kp2 ht2 hp2 s3;refine WX fun N hN=>?_
  obtain⟨Wd,eW⟩:∃Wd:Nat->L2.St->Hp->Prop,Wd=fun mm σ' G'=>∃ (d:List ME) (gs:List Ky) (n:Nat),σ'=[some (V.ref m),some (V.ref t),some (V.ref hh),some (V.int now),some (V.ref pe),some (V.int (rs.st.length:Int))]/\d.length <=mm/\d.Sublist es/\gs.length+ d.length <=60/\d.length < n/\WL M.out M.sp own ((Wy es).length+ 1) (Wy es)=((WL M.out M.sp own n (Wy d)).1,gs++(WL M.out M.sp own n (Wy d)).2)/\eo∈d/\MO dh ds dd H G'/\N7 G' m dh ds dd {M with es:=d}/\NP G' pe gs "room":=⟨_,rfl⟩
  refine⟨Wd,⟨es.length,?_⟩,?_⟩ <;> rw[eW]
  .exact⟨es,[],(Wy es).length+ 1,rfl,Y6 _,List.Sublist.refl _,by simpa using hel,by unfold Wy;rw[Y1];omega,rfl,heo,kp3,hM3,[],rfl,hp3,fun i t k h=>by simp at h⟩
  rintro mm σ' G4 ⟨d,gs,n,rfl,hmm,hsl,hgl,hn,hsp,heol,kp4,hM4,hE⟩;rw[<-eW];have hsub:∀e∈d,e∈es:=fun e he=>hsl.subset he
  have hll:=hsl.length_le;walk_at"rd";refine⟨m,dh,ds,dd,_,rfl,hM4,by show d.length <=1000;omega,(fun e he=>by have:=(hem e (hsub e he)).2;omega),fun G5 s5=>⟨_,(hM4.mono s5).g rfl,_,rfl,_,rfl,?_⟩⟩;have hM5:=hM4.mono s5;show if decide (M.sp < Nk (Wy d))=true then _ else _
  by_cases hts:M.sp < Nk (Wy d)
  .rw[Y5 (Yd hts)];have hnk:((Wy d).map (·.1)).Nodup:=by rw[BJ];exact hM4.nk
   have hszl:D1 (Wy d) own=rs.st.length:=by
    have:=HN (xs:=Wy d) hnk (x:=(eo.ky,eo.rs,eo.first)) (Y3.mpr ⟨eo,heol,rfl⟩);rw[heok,heor]at this;exact this
   have hout : ¬ (M.out = "own" \/ M.sp < D1 (Wy d) own) := fun z => z.elim (fun z => by
    have h1 := hno z;have h2 : Nk (Wy d) <= Nk (Wy es) := Et (hsl.map _);omega) fun z => by rw [hszl] at z; omega
   have hpn:TV M.out own (Wy d)≠[]:=La hnk hts (by rw[hszl];omega);have ht5:G5 t=some (.tup (NG own)):=s5 _ _ (hM.kp kp4 ht (fun _ z=>by cases z));refine⟨Wd (mm - 1),fun σ'' H'' h=>⟨mm - 1,by have:=VN heol;omega,h⟩,?_⟩;obtain⟨ts,h1',h2',h3'⟩:=hE;refine⟨.inl ⟨rfl,_,WA.of (s5 _ _ h2')⟩,m,dh,ds,dd,t,_,own,rfl,hM5,ht5,by show d.length < 64;omega,hown,fun e he=>(hem e (hsub e he)).1,hpn,fun x tk G6 hx s6 e6=>?_⟩;have hfx:Mo M.out M.sp own (Wy d)=x.2:=by
    unfold Mo;rw[Y2 hout,hx];rfl
   have hM6:=hM5.mono s6;refine⟨m,dh,ds,dd,tk,_,x.2,_,rfl,hM6,e6,fun p7 G7 hp7 k7 hM7 g7=>?_⟩;have s56:=s5.trans s6;have hp6:=s56 _ _ h2';have hp7':=hM6.kp k7 hp6 (fun _ z=>by cases z);refine⟨_,hp7',Ya (by rw[Y1,h1'];omega) (Tn (n:=60) (by decide)),fun G8 b8 e8=>?_⟩;have hfm:x.2∈d.map (·.ky):=by
    have:=FU (out:=M.out) (sp:=M.sp) (own:=own) (xs:=Wy d) (by rw[BJ];exact Y3.mpr ⟨eo,heol,heok⟩) fun _=>hpn
    rw[hfx,BJ]at this;exact this
   have hxo:x.2≠own:=by
    intro z;rw[<-hfx]at z;cases hp:TV M.out own (Wy d) with
    |nil=>exact hpn hp
    |cons y r=>
     have hxm:x∈TV M.out own (Wy d):=by
      rw[hp]at hx ⊢;have:(r.foldl (fun a b=>if J5 b a=true then b else a) y)=x:=Option.some.inj hx;rw[<-this];exact(BO r y).1
     obtain⟨u,hu,eu⟩:=Y3.mp hxm;have h2:=(Ym.mp hu).2;have h3:u.1=own:=by rw[hfx,<-eu]at z;exact z
     rw[h3]at h2;simp at h2
   have hlt:(DV d x.2).length < d.length:=Zz hM4.nk hfm;rw[eW];have t8:∀{c:Wk} {xs:List V},G7 c=some (.tup xs)->G8 c=some (.tup xs):=fun {c xs} h=>b8 c _ h (Wr h hp7' nofun)
   refine⟨DV d x.2,gs++[x.2],n - 1,rfl,by omega,List.Sublist.trans YI hsl,by rw[Ys,Ui];omega,by omega,?_,Ym.mpr ⟨heol,by simp only[Xv,X6];rw[heok];exact fun z=>hxo z.symm⟩,fun c o h n1 n2 n3=>b8 c o (k7 c o (s56 _ _ (kp4 c o h n1 n2 n3)) n1 n2 n3) (N0 h hpe),?_,?_⟩
   .obtain⟨n',rfl⟩:∃n',n=n'+ 1:=⟨n - 1,by omega⟩;rw[hsp];have est:WL M.out M.sp own (n'+ 1) (Wy d)=((WL M.out M.sp own n' (WP (Wy d) x.2)).1,x.2::(WL M.out M.sp own n' (WP (Wy d) x.2)).2):=by
     show(if Nk (Wy d) <=M.sp then _ else _)=_;rw[Y2 (by omega),hfx]
    rw[est,<-Fj,Uf];rfl
   .exact hM7.but b8 hp7'
   .have hw:Pw (fun(t:Addr×Addr) (k:Ky)=>G8 t.1=some (.tup [.str "gone",.ref t.2,.str "room"])/\G8 t.2=some (.tup (NG k))) ts gs:=⟨h1',fun j x y a b=>⟨t8 (hM6.kp k7 (s56 _ _ (h3' j x y a b).1) (fun _ z=>by cases z)),t8 (hM6.kp k7 (s56 _ _ (h3' j x y a b).2) (fun _ z=>by cases z))⟩⟩;have hw2:=hw.snoc (x:=(p7,tk)) (y:=x.2) ⟨t8 g7,t8 (hM6.kp k7 e6 (fun _ z=>by cases z))⟩;exact⟨ts++[(p7,tk)],hw2.1,by rw[e8,Yf];rfl,hw2.2⟩
  .rw[Y2 (by simpa using hts)];refine hN _ _ ?_;walk_at"rd";rw[QN (xs:=Wy d) (by omega)]at hsp;refine q d pe G5 (fun c o h n1 n2 n3=>s5 _ _ (kp4 c o h n1 n2 n3)) hM5 (by rw[hsp]) ?_ fun e he=>hin e (hsub e he)
   rw[hsp,List.append_nil];obtain⟨ts,h1,h2,h3⟩:=hE;exact⟨ts,h1,s5 _ _ h2,fun i t' k a b=>⟨s5 _ _ (h3 i t' k a b).1,s5 _ _ (h3 i t' k a b).2⟩⟩
end
def M0:Ev->PyData
 | .gone k w=>.tuple [.str "gone",DA k.1 k.2.1 k.2.2,.str w]
 | .late k=>.tuple [.str "late",DA k.1 k.2.1 k.2.2]
 | .strange k=>.tuple [.str "strange",DA k.1 k.2.1 k.2.2]
 | .whole d=>.tuple [.str "whole",DA d.nu d.z1 d.z2,.list (d.ns.map PyData.int)]
def Rs(M:Tw)(now:Int)(k:Ky):Bool:=decide (M.ag="rest") && (match B1 M.wh k with|some t=>decide (now < t+ M.wt)|none=>false)
def Dk(xs:List AE)(k:Ky):RS:=((xs.find? fun x=>decide (x.1=k)).map (·.2.1)).getD Dd
def Bi(M:Tw)(own:Ky)(xs:List AE):List AE×List Ky:=WL M.out M.sp own (xs.length+ 1) xs
def Rc(M:Tw)(now:Int)(d:PD):List AE×List (Ky×Int)×List Ev:=
 if Rs M now d.key=true then(Wy M.es,M.wh,[.late d.key]) else
 match Jb M.ru (Dk (Wy M.es) d.key) d with
 | .str=>(Wy M.es,M.wh,[.strange d.key])
 | .unl _=>(WP (Wy M.es) d.key,M.wh,[.gone d.key "unlike"])
 | .keep rs=>((Bi M d.key (J6 (Wy M.es) d.key rs now)).1,M.wh,(Bi M d.key (J6 (Wy M.es) d.key rs now)).2.map fun k=>.gone k "room")
 | .whole rs=>(WP (Wy M.es) d.key,Mj M.wh d.key now,[.whole ⟨d.nu,d.z1,d.z2,JU rs,false⟩])
section
variable{P:Wc}{w:Wh}{K:Wi}{mg:W8}{base:Wn}
def Ek(K:Wi)(G:Hp)(l:Wk)(evs:List Ev):Prop:=∃xs,G l=some (.lst xs)/\WQ K G xs (evs.map M0)
theorem OB{G:Hp}{l:Wk}{w:Str}:∀{ks:List Ky},NP G l ks w->Ek K G l (ks.map fun k=>.gone k w):=by
 intro ks ⟨d,h1,h2,c⟩;refine⟨_,h2,?_⟩;clear h2
 induction d generalizing ks with
 |nil=>cases ks with
  |nil=>exact .nil
  |cons _ _=>simp at h1
 |cons t r ih=>
  cases ks with
  |nil=>simp at h1
  |cons k ks=>
   obtain⟨a,b⟩:=c 0 t k rfl rfl;exact .cons (.tup (Ja.of a) (.cons (.str _) (.cons (Do b) (.cons (.str _) .nil)))) (ih (by simpa using h1) fun i t k a b=>c (i+ 1) t k (by simpa using a) (by simpa using b))
theorem OR{ru:Str}{o:Option Int}(h:ru="refuse"->o=none):(if ru="refuse" then o else none)=none:=by
 by_cases hr:ru="refuse"
 .rw[Y5 hr,h hr]
 .rw[Y2 hr]
inductive HQ(K:Wi)(vs:List V)(H:Hp)(Q:VK)(E:XK):Prop|mk (m dh ds dd t tk b:Wk) (M:Tw) (d:PD) (now:Int) (_:vs=[.ref m,.int now,.ref t]) (_:N7 H m dh ds dd M) (_:Rk H t tk b d) (_:M.es.length < 59) (_:M.wh.length <=1000) (_:d.ns.length <=100) (_:(∀e∈M.es,Na e.ky/\e.rs.st.length <=9000/\NK e.rs)) (_:Nk (WP (Wy M.es) d.key) <=M.sp) (_:∀es' l G,MO dh ds dd H G->N7 G m dh ds dd {M with es:=es',wh:=(Rc M now d).2.1}->Wy es'=(Rc M now d).1->Ek K G l (Rc M now d).2.2->(∀e∈es',e∈M.es\/(H e.h=none/\H e.a=none))->Q (.ref l) G)
abbrev Iz:Stmt:=top 63
theorem ER:Jx ["_law_m","_law_time_here","_law_piece_here","_law_key_here","_law_old","_law_heap_here","_law_told","_law_what"] ["_law_m","_law_time_here","_law_piece_here"] (Wp Iz):=by walk_at"e"
theorem uH{f:Wk}{fd:Wf}(F:JE K "_law_came" "_law_came" Iz f fd)(B6:PB mg)(DB:N6 P w K mg base "_law_heap" 1 [] [] Qi)(Tk:N6 P w K mg base "_law_taken" 2 ["_law_heap_here","_law_piece_here","_law_rule"] [] SN)(JI:N6 P w K mg base "_law_gone" 1 ["_law_m","_law_key_here","_law_reason"] [] By)(M4:N6 P w K mg base "_law_kept" 2 ["_law_m","_law_key_here","_law_heap_here","_law_time_here"] [] OX):Wz P w K mg base Jf 3 f fd ["_law_m","_law_time_here","_law_piece_here"] (HQ K):=by
 refine F.ok ER (fun vs H Q E h=>?_) (fun cdv A outer s H vs Q E j h=>?_)
 .obtain⟨m,dh,ds,dd,t,tk,b,M,d,now,rfl,_⟩:=h;rfl
 .obtain⟨m,dh,ds,dd,t,tk,b,M,d,now,rfl,u,hP,hlen,hwl,hdl,hes,hoth,q⟩:=h;refine⟨_,(WB (JP 3 ER (Mz K (Wq 2) WE)) (WB (JJ (PW.pt (D3 (JA (TJ TH) (Jt j (Wq 0) WK) WK) (D3 (RW (Zj (TZ j)) (Wq 3) (Jt j (Wq 0) WK) (by with_unfolding_all rfl)) (DD (JA (Jy Rp) (Wq 1) (J9 (Jy NW) (Jt j (Jt j (Wq 0) WK) (Wq 3)) (Jt j (Wq 0) WK))))))) (WH (Jd (Te (J7 (hs:=Mh) (NO (NI WK (Wx 3 Wu))) Wu)))) JV) (WB (JP 4 ER (Md (K:=K) rfl YJ V4 VU (wU (TZ j)) (Jt j (Wq 0) WK) (Wx 3 (MG (vN DB j.m rfl) Wu)))) (WB (JP 5 ER (HJ (Rf WK (Bu nG rfl B6.bdict (by rfl) (NT (Jt j (Wq 4) WK) Wu)) (Rf WK (Jt j (Wq 4) WK) (Rf WK (Jt j (Wq 4) WK) Lw))) rfl rfl (by simp) (by simp))) (WB (EB (JT Tk j.m rfl (Wx 5 (Wx 2 (NT (Jt j (Wq 0) WK) Wu)))) (GM (K:=K) (n:=2) rfl rfl (TL (Tg 6 ER) (TL (Tg 7 ER) GV)))) (WB (JJ (JA (TJ TH) (Wq 6) WK) (WH (Jd (Te (MG (JT JI j.m rfl (Wx 0 (Wx 3 (NI WK Wu)))) Wu)))) JV) (WB (JJ (JA (TJ TH) (Wq 6) WK) (WH (Jd (Te (J7 (hs:=Mh) (NO (NI WK (Wx 3 Wu))) Wu)))) JV) (WB (JJ (JA (TJ TH) (Wq 6) WK) (WB (Ta (JT JI j.m rfl (Wx 0 (Wx 3 (NI WK Wu))))) (WB (Ck (TZ j) (Jt j (Wq 0) WK) (Wq 3) (Wq 1) rfl) (WH (Jd (Te (J7 (hs:=Mh) (NO (NI WK (Wx 3 (Wx 7 Wu)))) Wu)))))) JV) (WH (Jd (JT M4 j.m rfl (Wx 0 (Wx 3 (Wx 5 (Wx 1 Wu))))))))))))))),?_⟩;refine WX fun N i=>?_
  walk_at"rd";refine⟨_,Ja.of hP.tp,_,rfl,i _ _ ?_⟩;clear i N;have hky:H tk=some (.tup (NG d.key)):=hP.ky;refine WX fun N i=>?_
  walk_at"rd";have nx:Rs M now d.key=false->N [some (V.ref m),some (V.int now),some (V.ref t),some (V.ref tk),none,none,none,none] H:=fun hrest=>i _ _ ?_
  .refine⟨_,u.g rfl,rfl,?_⟩
   by_cases hag:M.ag="rest"
   .rw[Y5 (by rw[hag];simp)];refine⟨_,u.g rfl,dd,rfl,Ju d.key,_,.inl u.dD,hky,?_⟩;have hwv:=IF M.wh d.key;cases hw:B1 M.wh d.key with
    |none=>
     rw[hwv,hw,Y2 (by simp)];exact nx (by unfold Rs;rw[hw];simp)
    |some tw=>
     rw[hwv,hw,Y5 (by simp)];refine⟨_,u.g rfl,dd,rfl,_,.inr ⟨_,Ju d.key,tk,.inl u.dD,rfl,hky,by rw[hwv,hw];rfl⟩,_,u.g rfl,_,rfl,_,rfl,?_⟩
     by_cases hlt:now < tw+ M.wt
     .rw[Y5 (Yd hlt)];have hrest:Rs M now d.key=true:=by unfold Rs;rw[hw,hag];simpa using hlt
      have ho:Rc M now d=(Wy M.es,M.wh,[.late d.key]):=by unfold Rc;rw[Y5 hrest]
      rw[ho]at q;refine⟨Jc (by decide),fun p1 G1 hp1 s1 g1=>⟨Jc (by decide),fun p2 G2 hp2 s2 g2=>?_⟩⟩;have s12:=s1.trans s2;exact q M.es p2 G2 (fun c o h _ _ _=>s12 _ _ h) (u.mono s12) rfl ⟨_,g2,.cons (.tup (Ja.of (s2 _ _ g1)) (.cons (.str _) (.cons (Do (s12 _ _ hky)) .nil))) .nil⟩ fun e he=>.inl he
     .rw[Y2 (by simpa using hlt)];exact nx (by unfold Rs;rw[hw];simp[hlt])
   .rw[Y2 (by simpa using hag)];exact nx (by unfold Rs;simp[hag])
  clear i N;refine WX fun N i=>?_
  walk_at"rd";refine⟨_,u.g rfl,.inr (.inr (.inl ⟨rfl,.inr ⟨_,u.dH⟩⟩)),rfl,fun h0 a0 G1 hh0 ha0 s1 hL0=>⟨dh,rfl,Ju d.key,_,s1 _ _ u.dH,s1 _ _ hky,?_⟩⟩;obtain⟨hq,ao,eho,hLo,hcur⟩:∃ho ao,(WM (Dr M.es) (Ju d.key)).getD (.ref h0)= .ref ho/\M9 G1 ho ao (Dk (Wy M.es) d.key)/\(Dk (Wy M.es) d.key).st.length <=9000/\NK (Dk (Wy M.es) d.key):=by
   by_cases hk:d.key∈M.es.map (·.ky)
   .obtain⟨e,he,hek⟩:=Y3.mp hk;have hc:Dk (Wy M.es) d.key=e.rs:=by
     unfold Dk Wy;rw[VT];have:M.es.find? ((fun x:AE=>decide (x.1=d.key)) ∘ fun e:ME=>(e.ky,e.rs,e.first))=some e:=by
      cases hf:M.es.find? ((fun x:AE=>decide (x.1=d.key)) ∘ fun e:ME=>(e.ky,e.rs,e.first)) with
      |none=>exact absurd (Yd hek) (by simpa using Xr.mp hf e he)
      |some e'=>
       have h1:e'.ky=d.key:=X5 (p:=e'.ky=d.key) (by have:=List.find?_some hf;exact this);rw[HE u.nk (Vw hf) he (h1.trans hek.symm)]
     rw[this];rfl
    rw[hc,<-hek,show WM (Dr M.es) (Ju e.ky)=some (.ref e.h) from Be u.nk he];exact⟨e.h,e.a,rfl,(u.hs e he).mono s1,(hes e he).2⟩
   .have hc:Dk (Wy M.es) d.key=Dd:=by
     unfold Dk;rw[Xr.mpr fun x hx=>?_]
     .rfl
     .obtain⟨e,he,rfl⟩:=Y3.mp hx;simpa using fun z=>hk (Y3.mpr ⟨e,he,z⟩)
    rw[hc,show WM (Dr M.es) (Ju d.key)=none from OE hk];exact⟨h0,a0,rfl,hL0,YF _,NK.zero⟩
  rw[eho];refine i _ _ ?_;clear i N;have hM1:=u.mono s1;refine WX fun N i=>?_
  walk_at"rd";intro hn hhn;have s2:Ws G1 (upd G1 hn (.dK [])):=Mc hhn;have hLo2:=hLo.mono s2;refine⟨_,hLo2.gb,ao,rfl,_,hLo2.bs,fun an G2 han s3 g3=>?_⟩;have hLo3:=hLo2.mono s3;have nan:an≠hn:=fun z=>by rw[z,Jp]at han;cases han
  refine⟨_,hLo3.ge,_,hLo3.gm,s3 _ _ Jp,[(Sum.inr "bytes",.ref an),(Sum.inr "end",oV (Dk (Wy M.es) d.key).en),(Sum.inr "most",.int (Dk (Wy M.es) d.key).re)],rfl,by simp,i _ _ ?_⟩;clear i N;obtain⟨G3,eG3⟩:∃G3,G3=upd G2 hn (.dK (Es [] [(Sum.inr "bytes",V.ref an),(Sum.inr "end",oV (Dk (Wy M.es) d.key).en),(Sum.inr "most",.int (Dk (Wy M.es) d.key).re)])):=⟨_,rfl⟩;rw[<-eG3];have sA:Ws H G3:=fun c o h=>by
   have h1:=s1 _ _ h;rw[eG3,WT (N0 h1 hhn)];exact s3 _ _ (s2 _ _ h1)
  have hLn : M9 G3 hn an (Dk (Wy M.es) d.key) := ⟨by rw [eG3, Jp]; rfl, by rw [eG3, WT nan]; exact g3, Ne.symm nan⟩;have fh : H hn = none := s1.free hhn;have fa : H an = none := (s1.trans s2).free han;clear eG3 s3 g3 hLo2 hLo3 nan han s2 hhn hLo eho hM1 hL0 hh0 ha0 s1;have hM3 := u.mono sA;have hP3 := hP.mono sA;have hky3 := sA _ _ hky;obtain ⟨cu, ecu⟩ : ∃ cu, cu = Dk (Wy M.es) d.key := ⟨_, rfl⟩;rw [<- ecu] at hLn hcur;have ho : Rc M now d = (match Jb M.ru cu d with
   | .str=>(Wy M.es,M.wh,[.strange d.key])
   | .unl _=>(WP (Wy M.es) d.key,M.wh,[.gone d.key "unlike"])
   | .keep rs=>((Bi M d.key (J6 (Wy M.es) d.key rs now)).1,M.wh,(Bi M d.key (J6 (Wy M.es) d.key rs now)).2.map fun k=>.gone k "room")
   | .whole rs => (WP (Wy M.es) d.key, Mj M.wh d.key now, [.whole ⟨d.nu, d.z1, d.z2, JU rs, false⟩])) := by
   unfold Rc;rw[hrest,Y2 (by simp),ecu]
  clear ecu hrest;refine WX fun N i=>?_
  walk_at"rd";have hd8:(JB (decide (M.ru="last")) cu d).st.length <=10000:=by
   have h:=Ec (decide (M.ru="last")) d.ns cu.st d.at';show(JG (decide (M.ru="last")) cu.st d.at' d.ns).length <=10000;omega
  have kU:∀n v G,Jb M.ru cu d= .unl n->Ws H G->N [some (V.ref m),some (V.int now),some (V.ref t),some (V.ref tk),some (V.ref hq),some (V.ref hn),some (.str (Str.ofString "unlike")),some v] G:=fun n v G hst sG=>i _ _ ?_
  .have kS:∀v G,Jb M.ru cu d= .str->Ws H G->N [some (V.ref m),some (V.int now),some (V.ref t),some (V.ref tk),some (V.ref hq),some (V.ref hn),some (.str (Str.ofString "strange")),some v] G:=fun v G hst sG=>i _ _ ?_
   .have kW:∀rs' b' G,Jb M.ru cu d= .whole rs'->Ws H G->G b'=some (.lst ((JU rs').map V.int))->N [some (V.ref m),some (V.int now),some (V.ref t),some (V.ref tk),some (V.ref hq),some (V.ref hn),some (.str (Str.ofString "whole")),some (.ref b')] G:=fun rs' b' G hst sG hb=>i _ _ ?_
    .have kK:∀rs' v G,Jb M.ru cu d= .keep rs'->rs'.st.length <=10000->Ws H G->M9 G hn an rs'->N [some (V.ref m),some (V.int now),some (V.ref t),some (V.ref tk),some (V.ref hq),some (V.ref hn),some (.str (Str.ofString "kept")),some v] G:=fun rs' v G hst hrl sG hL'=>i _ _ ?_
     .clear i;have kpS:∀G,N9 hn an G3 G->Ws H G:=fun G k c o h=>k c o (sA _ _ h) (N0 h fh) (N0 h fa)
      refine⟨_,hM3.g rfl,hn,an,t,tk,b,M.ru,cu,d,rfl,hLn,hP3,hcur.2,by omega,fun hst=>⟨fun hru r G sG j=>?_,fun hru r G sG j=>?_⟩,fun hst=>⟨fun n hru hu r G sG j=>?_,fun hu rs' ers=>⟨fun hl r G kp hL' j=>?_,fun hl r b' G kp j hb=>?_⟩⟩⟩
      .exact⟨r,rfl,_,Ja.of j,rfl,_,_,rfl,_,_,rfl,rfl,kU d.at' _ G (by unfold Jb;rw[Y5 hst,Y5 hru]) (sA.trans sG)⟩
      .exact⟨r,rfl,_,Ja.of j,rfl,_,_,rfl,_,_,rfl,rfl,kS _ G (by unfold Jb;rw[Y5 hst,Y2 hru]) (sA.trans sG)⟩
      .exact⟨r,rfl,_,Ja.of j,rfl,_,_,rfl,_,_,rfl,rfl,kU n _ G (by unfold Jb;rw[Y2 (by rw[hst];simp),Y5 hru,hu]) (sA.trans sG)⟩
      .refine⟨r,rfl,_,Ja.of j,rfl,_,_,rfl,_,_,rfl,rfl,kK rs' _ G ?_ (by rw[ers];exact hd8) (kpS G kp) hL'⟩;unfold Jb;rw[Y2 (by rw[hst];simp),OR hu];show(if _ then _ else _)=_;rw[<-ers,Y2 hl]
      .refine⟨r,rfl,_,Ja.of j,rfl,_,_,rfl,_,_,rfl,rfl,kW rs' b' G ?_ (kpS G kp) hb⟩;unfold Jb;rw[Y2 (by rw[hst];simp),OR hu];show(if _ then _ else _)=_;rw[<-ers,Y5 hl]
     .rw[hst]at ho;rw[ho]at q;clear hM3 hP3 hky3 hLn sA kU kS kW i N;have y:=u.mono sG;refine WX fun N i=>?_
      walk_at"rd";refine⟨rfl,?_⟩;rw[Y2 (by decide +kernel)];refine i _ _ ?_;clear i N;refine WX fun N i=>?_
      walk_at"rd";refine⟨rfl,?_⟩;rw[Y2 (by decide +kernel)];refine i _ _ ?_;clear i N;refine WX fun N i=>?_
      walk_at"rd";refine⟨rfl,?_⟩;rw[Y2 (by decide +kernel)];refine i _ _ ?_;clear i N;walk_at"rd";refine⟨m,dh,ds,dd,tk,hn,an,M,d.key,rs',now,rfl,y,sG _ _ hky,hL',by omega,⟨hP.ok.n0,hP.ok.n1,hP.ok.k1,hP.ok.k2⟩,(fun e he=>⟨(hes e he).1,by have:=(hes e he).2.1;omega⟩),hrl,hoth,fun es' l G5 kp5 hM5 ha5 hE5 hin=>?_⟩;exact q es' l G5 (fun c o h n1 n2 n3=>kp5 c o (sG _ _ h) n1 n2 n3) hM5 ha5 (OB hE5) fun e he=>(hin e he).imp id fun z=>by rw[z.1,z.2];exact⟨fh,fa⟩
    .rw[hst]at ho;rw[ho]at q;clear hM3 hP3 hky3 hLn sA kU kS i N;have y:=u.mono sG;have hkG:=sG _ _ hky;refine WX fun N i=>?_
     walk_at"rd";refine⟨rfl,?_⟩;rw[Y2 (by decide +kernel)];refine i _ _ ?_;clear i N;refine WX fun N i=>?_
     walk_at"rd";refine⟨rfl,?_⟩;rw[Y2 (by decide +kernel)];refine i _ _ ?_;clear i N;refine WX fun N i=>?_
     walk_at"rd";refine⟨rfl,?_⟩;rw[Y5 (by decide +kernel)];clear i N;refine⟨m,dh,ds,dd,tk,M,d.key,_,rfl,y,hkG,fun p5 G5 hp5 kp5 hM5 g5=>?_⟩;have hk5:=y.kp kp5 hkG (fun _ z=>by cases z);have hb5:=y.kp kp5 hb (fun _ z=>by cases z);refine⟨_,hM5.g rfl,dd,rfl,Ju d.key,_,hM5.dD,hk5,Ya (by show(Ds M.wh).length <=1000;unfold Ds;rw[Y1];exact hwl) (Tn (n:=1000) (by decide)),fun G6 b6 e6=>?_⟩;rw[Oq]at e6;have kp6:MO dh ds dd G G6:=fun c o h n1 n2 n3=>b6 c o (kp5 c o h n1 n2 n3) n3
     have hM6:N7 G6 m dh ds dd {M with es:=DV M.es d.key,wh:=Mj M.wh d.key now}:=⟨y.kp kp6 y.mm (fun _ z=>by cases z),b6 _ _ hM5.dH u.n2,b6 _ _ hM5.dS u.n3,e6,u.n1,u.n2,u.n3,fun e he=>y.lh kp6 (y.hs e (Ym.mp he).1),hM5.nk⟩;refine⟨Jc (by decide),fun p7 G7 hp7 s7 g7=>⟨Jc (by decide),fun p8 G8 hp8 s8 g8=>?_⟩⟩;have s78:=s7.trans s8;have hk8:=s78 _ _ (y.kp kp6 hkG (fun _ z=>by cases z));have hb8:=s78 _ _ (y.kp kp6 hb (fun _ z=>by cases z));exact q (DV M.es d.key) p8 G8 (fun c o h n1 n2 n3=>s78 _ _ (kp6 c o (sG _ _ h) n1 n2 n3)) (hM6.mono s78) (Fj _ _) ⟨_,g8,.cons (.tup (Ja.of (s8 _ _ g7)) (.cons (.str _) (.cons (Do hk8) (.cons (.lst (WA.of hb8) (WQ.ints _)) .nil)))) .nil⟩ fun e he=>.inl (Ym.mp he).1
   .rw[hst]at ho;rw[ho]at q;clear hM3 hP3 hky3 hLn sA kU i N;have y:=u.mono sG;refine WX fun N i=>?_
    walk_at"rd";refine⟨rfl,?_⟩;rw[Y2 (by decide +kernel)];refine i _ _ ?_;clear i N;refine WX fun N i=>?_
    walk_at"rd";refine⟨rfl,?_⟩;rw[Y5 (by decide +kernel)];refine⟨Jc (by decide),fun p7 G7 hp7 s7 g7=>⟨Jc (by decide),fun p8 G8 hp8 s8 g8=>?_⟩⟩;have s78:=sG.trans (s7.trans s8);exact q M.es p8 G8 (fun c o h _ _ _=>s78 _ _ h) (u.mono s78) rfl ⟨_,g8,.cons (.tup (Ja.of (s8 _ _ g7)) (.cons (.str _) (.cons (Do (s78 _ _ hky)) .nil))) .nil⟩ fun e he=>.inl he
  .rw[hst]at ho;rw[ho]at q;clear i N hM3 hP3 hky3 hLn sA;have y:=u.mono sG;have hkG:=sG _ _ hky;refine WX fun N i=>?_
   walk_at"rd";refine⟨rfl,?_⟩;rw[Y5 (by decide +kernel)];refine⟨m,dh,ds,dd,tk,M,d.key,_,rfl,y,hkG,fun p5 G5 hp5 kp5 hM5 g5=>⟨Jc (by decide),fun p8 G8 hp8 s8 g8=>?_⟩⟩;have hk5:=y.kp kp5 hkG (fun _ z=>by cases z);exact q (DV M.es d.key) p8 G8 (fun c o h n1 n2 n3=>s8 _ _ (kp5 c o (sG _ _ h) n1 n2 n3)) (hM5.mono s8) (Fj _ _) ⟨_,g8,.cons (.tup (Ja.of (s8 _ _ g5)) (.cons (.str _) (.cons (Do (s8 _ _ hk5)) (.cons (.str _) .nil)))) .nil⟩ fun e he=>.inl (Ym.mp he).1
inductive Lg(C CR CL:Wk)(vs:List V)(H:Hp)(Q:VK)(E:XK):Prop|mk (m dr df dw:Wk) (R:JM) (t:Int) (_:vs=[.ref m,.int t]) (_:Ww C CR H m dr df dw R) (_:R.now <=t) (_:R.es.length < 64) (_:∀ (ps:List (Int×Ky)) l G,ps.Perm (MY {R with now:=t})->ps.Pairwise (fun a b=>J5 b a=false)->H l=none->TW C CR H G m dr df dw {R with now:=t} (T8 R t) (Wt (T8 R t).es) R.ws->F8 CL G l (Jw ps)->(∀e∈(T8 R t).es,e.l≠l)->Q (.ref l) G)
abbrev LS:Stmt:=To (top 44) 2
theorem j9:Jx ["self","time"] ["self","time"] (Wp LS):=by walk_at"e"
theorem Zx{f C CR CL:Wk}{fd:Wf}(F:JE K "tick" "Room.tick" LS f fd)(L:M8 K C)(Jm:Nv P w K mg base C "check_time" 3 ["self","time"] [] (CZ C CR))(Js:Nv P w K mg base C "end_waits" 2 ["self"] [] (AO C CR)):Wz P w K mg base Jf 4 f fd ["self","time"] (Lg C CR CL):=by
 refine F.ok j9 (fun vs H Q E h=>?_) (fun cdv A outer s H vs Q E p h=>?_)
 .obtain⟨m,dr,df,dw,R,t,rfl,_⟩:=h;rfl
 .obtain⟨m,dr,df,dw,R,t,rfl,i,ht,x,q⟩:=h;refine⟨_,(WB (Ta (MK (Wq 0) Jm p.m (Wx 1 Wu))) (WB (MH (K:=K) rfl (Wq 0) (Wq 1) rfl) (WH (Jd (Mq (Wq 0) Js p.m))))),?_⟩;walk_at"rd";obtain⟨dx,fs,v,hl,hf⟩:=i.ex;refine⟨i.mt rfl,m,dr,df,dw,R,t,rfl,i,ht,C,dx,fs,v,L.cl,L.now,by omega,fun G1 n e1=>?_⟩;have d:=i.setNow v n e1;refine⟨d.mt rfl,m,dr,df,dw,{R with now:=t},rfl,d,x,fun ps l G2 u r a k2 y hE=>?_⟩;exact q ps l G2 u r (n.free a (Ne.symm (N0 e1 a))) ⟨fun c o h j=>k2 c o (n c o h fun z=>j (.inl z)) (fun z=>j (.inr (.inl z))) (fun z=>j (.inr (.inr (.inl z)))),y,rfl,rfl,⟨rfl,rfl,rfl,rfl,rfl,rfl⟩,fun e b=>.inl ⟨e,(Ym.mp b).1,rfl,rfl⟩,fun e b=>.inl ⟨e,(Ym.mp b).1,rfl⟩⟩ hE.evs fun e b=>by
   obtain⟨ys,hy,_⟩:=(d.rd e (Ym.mp b).1).cv;exact N0 hy a
inductive SJ(C:Wk)(vs:List V)(H:Hp)(Q:VK)(E:XK):Prop|mk (p b:Wk) (d:LD) (_:vs=[.ref p]) (_:Tf C H p b d) (_:∀t G,H t=none->Ws H G->G t=some (.tup [.int d.nu,.str d.z1,.str d.z2])->Q (.ref t) G)
theorem jI{C:Wk}(F:Nv P w K mg base C "key" 1 ["self"] [] (Lc C)):Nv P w K mg base C "key" 1 ["self"] [] (SJ C):=
 F.imp fun vs H Q E ⟨p,b,d,e,h,q⟩=>⟨p,_,_,_,_,_,e,h.ats,fun t a=>q t _ a (Mc a) Jp⟩
def CM:Ev->Prop
 | .whole d=>d.k=false
 |_=>True
inductive FT(K:Wi)(CL:Wk)(vs:List V)(H:Hp)(Q:VK)(E:XK):Prop|mk (x:V) (ev:Ev) (_:vs=[x]) (_:GX CL H x ev) (_:CM ev) (_:∀y G,Ws H G->Dp K G y (M0 ev)->Q y G)
abbrev IC:Stmt:=top 64
theorem Su:Jx ["_law_event","_law_letter"] ["_law_event"] (Wp IC):=by walk_at"e"
theorem xE{f CL:Wk}{fd:Wf}(F:JE K "_law_plain" "_law_plain" IC f fd)(B:Bt mg)(LL:GW K CL)(gC_Letter:mg "Letter"=some (.ref CL))(ic_Letter:Ez K CL)(kL:W.kitOne K (.ref CL) (.ref CL)=some true)(Nq:Nv P w K mg base CL "key" 1 ["self"] [] (SJ CL)):Wz P w K mg base Jf 2 f fd ["_law_event"] (FT K CL):=by
 have i:=LL.cl;refine F.ok Su (fun vs H Q E h=>?_) (fun cdv A outer s H vs Q E u h=>?_)
 .obtain⟨x,ev,rfl,_⟩:=h;rfl
 .obtain⟨x,ev,rfl,e,y,q⟩:=h;refine⟨_,(WB (DE (JJ (PW.pt (D3 (JA (TJ TH) (Iv K (Wq 0) WE) WK) (D3 (JA (TJ TH) (N4 (MX (MV (K:=K) rfl)) B.len (Wx 0 Wu)) WE) (DD (Tx (N4 (QH (K:=K) rfl) B.isinstance (NT (Iv K (Wq 0) WE) (J7 (hs:=Dl) (Eb (v:=.ref CL) rfl gC_Letter rfl) Wu)))))))) (WB (JP 1 Su (Iv K (Wq 0) WE)) (WH (JJ (PW.pt (D3 (JA mM (Jv K (Wq 1)) Re) (DD (JA (LJ (K:=K) (Room.units u) rfl) (Mq (Wq 1) Nq u.m) (NO (TF (Jv K (Wq 1)) (TF (Jv K (Wq 1)) (TF (Jv K (Wq 1)) Wu)))))))) (WH (Jd (NO (NI WK (MG (Mq (Wq 1) Nq u.m) (TF (Jv K (Wq 1)) Wu)))))) JV))) JV)) (WH (Jd (Wq 0)))),?_⟩;cases ev with
  |gone k w=>
   obtain⟨t,tk,rfl,h1,h2⟩:=e;refine WX fun N c=>?_
   walk_at"rd";refine⟨fun σ' H'=>(∃v,σ'=[some (.ref t),v])/\H'=H,⟨_,.inr (Ja.of h1),_,rfl,rfl,?_⟩,fun σ' H' h=>c _ _ ?_⟩
   .rw[Y2 (by decide +kernel)];exact⟨⟨_,rfl⟩,rfl⟩
   .obtain⟨⟨v,rfl⟩,rfl⟩:=h;walk_at"rd";exact q _ H' (Ws.refl _) (.tup (Ja.of h1) (.cons (.str _) (.cons (Do h2) (.cons (.str _) .nil))))
  |late k=>
   obtain⟨t,tk,rfl,h1,h2⟩:=e;refine WX fun N c=>?_
   walk_at"rd";refine⟨fun σ' H'=>(∃v,σ'=[some (.ref t),v])/\H'=H,⟨_,.inr (Ja.of h1),_,rfl,rfl,?_⟩,fun σ' H' h=>c _ _ ?_⟩
   .rw[Y2 (by decide +kernel)];exact⟨⟨_,rfl⟩,rfl⟩
   .obtain⟨⟨v,rfl⟩,rfl⟩:=h;walk_at"rd";exact q _ H' (Ws.refl _) (.tup (Ja.of h1) (.cons (.str _) (.cons (Do h2) .nil)))
  |strange k=>
   obtain⟨t,tk,rfl,h1,h2⟩:=e;refine WX fun N c=>?_
   walk_at"rd";refine⟨fun σ' H'=>(∃v,σ'=[some (.ref t),v])/\H'=H,⟨_,.inr (Ja.of h1),_,rfl,rfl,?_⟩,fun σ' H' h=>c _ _ ?_⟩
   .rw[Y2 (by decide +kernel)];exact⟨⟨_,rfl⟩,rfl⟩
   .obtain⟨⟨v,rfl⟩,rfl⟩:=h;walk_at"rd";exact q _ H' (Ws.refl _) (.tup (Ja.of h1) (.cons (.str _) (.cons (Do h2) .nil)))
  |whole d=>
   obtain⟨t,r,bl,rfl,h1,h2⟩:=e;obtain⟨dx,fs,hpl⟩:=h2.ins;have y:d.k=false:=y;have hk:=j7 LL h2;refine WX fun N c=>?_
   walk_at"rd";refine⟨fun _ _=>False,⟨_,.inr (Ja.of h1),_,rfl,rfl,?_⟩,fun _ _ z=>z.elim⟩;rw[Y5 (by simp)];refine⟨_,.inr (Ja.of h1),rfl,?_⟩;rw[Y5 (by simp)];refine⟨_,.inr (Ja.of h1),_,rfl,r,rfl,_,_,_,hpl,LL.cl,ic_Letter,_,kL,?_⟩;rw[Y5 rfl];refine⟨_,.inr (Ja.of h1),_,rfl,_,hk,_,rfl,?_⟩;rw[y,Y5 (by decide)];refine⟨SS h2,r,bl,d,rfl,h2,fun t2 G2 ht2 s2 g2=>?_⟩;have b:=h2.mono s2;refine⟨_,dG LL b,_,wA LL b,_,aG LL b,Jc (by decide),fun p3 G3 hp3 p g3=>⟨_,_,Do (p _ _ g2),Do g3,Bg _ h2.ok.k1 h2.ok.k2,Bg _ h2.ok.k1 h2.ok.k2,_,rfl,?_⟩⟩;rw[Qj,Y5 rfl];have a:=b.mono p;refine⟨SS a,r,bl,d,rfl,a,fun t4 G4 ht4 n g4=>⟨_,aE LL (a.mono n),Jc (by decide),fun p5 G5 hp5 j g5=>?_⟩⟩;exact q _ G5 (s2.trans (p.trans (n.trans j))) (.tup (Ja.of g5) (.cons (.str _) (.cons (Do (j _ _ g4)) (.cons (.lst (WA.of (j _ _ (a.mono n).bd)) (WQ.ints _)) .nil))))
inductive Pq(vs:List V)(H:Hp)(Q:VK)(E:XK):Prop|mk (m dh ds dd:Wk) (M:Tw) (now dg:Int) (_:vs=[.ref m,.int now,.int dg]) (_:N7 H m dh ds dd M) (_:M.es.length < 60) (_:0 <=dg) (_:∀t G,now <=t->Ws H G->Q (.int t) G)
abbrev AN:Stmt:=top 66
theorem Fw:Jx ["_law_m","_law_time_here","_law_digit","_law_ends","_law_some"] ["_law_m","_law_time_here","_law_digit"] (Wp AN):=by walk_at"e"
theorem rF{f:Wk}{fd:Wf}(F:JE K "_law_time" "_law_time" AN f fd)(B:Bt mg)(B2:GO mg):Wz P w K mg base Jf 1 f fd ["_law_m","_law_time_here","_law_digit"] Pq:=by
 refine F.ok Fw (fun vs H Q E h=>?_) (fun cdv A outer s H vs Q E hr h=>?_)
 .obtain⟨m,dh,ds,dd,M,now,d,rfl,_⟩:=h;rfl
 .obtain⟨m,dh,ds,dd,M,now,d,rfl,b,hl,hd,q⟩:=h;refine⟨_,(WB (JP 3 Fw (J9 (Bs Eo) (N4 (SG (K:=K) rfl) B2.sorted (J7 (hs:=GB) (E8 (Di (N':=["_law_since","_law_m"]) (caps:=[none,some 0]) (MR (sc:=Wp AN) (N:=["_law_m","_law_time_here","_law_digit","_law_ends","_law_some"]) rfl rfl (by decide +kernel)) rfl (L0 (Bd (K:=K) rfl YJ U4 UK Hm (Jt hr (Wq 0) WK))) (fun _ _ _ _ _=>(Ms (i:=0) (MB (N:=["_law_since","_law_m"]) rfl (by decide +kernel)) rfl (Or.inl rfl))) (fun _ _ _ _ _=>DC) (fun _ _ _ _ _=>(J9 (Jy NW) (Wq 0) (Jt hr (Wq 1) WK))))) Wu)) (Te (Wx 1 Wu)))) (WB (JP 4 Fw (Te (Wx 1 (Wx 1 (J7 (hs:=Dm) (J9 (Jy NW) (Wq 1) WE) (J7 (hs:=Dm) (J9 (Jy NW) (Wq 1) (J9 (dI Th) (J9 (dI Bo) (Wq 2) WE) WE)) (NT (Mm K (Wq 3) WE) (J7 (hs:=Dm) (J9 (Jy Pp) (Mm K (Wq 3) WE) WE) (Wx 1 (Wx 1 Wu)))))))))) (WH (Jd (N4 (Fa rfl) B.max (Wx 1 (NT (Mm K (Wq 4) (J9 (dI Th) (Wq 2) WE)) Wu))))))),?_⟩;refine WX fun N u=>?_
  walk_at"rd";have hrl:(Df M.es).length=M.es.length:=Y1 ..;have nm:m≠ds:=Wr b.mm b.dS nofun;refine LB b.dS (fun Rr h=>by walk_at"rd";exact⟨_,b.g rfl,.inr (.inr (.inl ⟨rfl,.inr ⟨_,b.dS⟩⟩)),ds,rfl,_,b.dS,h⟩) (fun i ys σ'=>ys=((M.es.take i).map fun e=>V.int (e.first+ M.wt))/\∃v,σ'=[v,some (.ref m)]) ⟨rfl,_,rfl⟩ ?_ (by omega) ?_ ?_
  .rintro i ys σ' ⟨rfl,_⟩;rw[Y1,Yt];omega
  .rintro Hf o hfo hfd i k v ys σ' hk ⟨rfl,v0,rfl⟩;obtain⟨e,he,rfl,rfl⟩:=A0 hk;walk_at"rd";refine⟨_,.inl ⟨_,Sum.inr "wait",.inl (hfo m _ b.mm nm),rfl,rfl⟩,_,rfl,?_⟩;rw[YK,he,Xc,Yf];rfl
  .rintro ys σ' ⟨rfl,_⟩ p G hp s1 e1;rw[hrl,YA (Y6 _)]at e1;have em:(M.es.map fun e=>V.int (e.first+ M.wt))=(M.es.map fun e=>e.first+ M.wt).map V.int:=by rw[Yo];rfl
   rw[em]at e1;refine⟨p,rfl,_,WA.of e1,by rw[Y1];omega,fun ms l G2 hms _ hl2 s2 g2=>⟨Jc (by decide),fun p3 G3 hp3 s3 g3=>⟨_,s3 _ _ g2,_,g3,?_,fun p4 G4 hp4 s4 g4=>u _ _ ?_⟩⟩⟩
   .rw[Y1,hms.length_eq,Y1];exact Jc (show M.es.length+ 1 <=100000 by omega)
   clear u N;have sA:=s1.trans (s2.trans (s3.trans s4));refine WX fun N u=>?_
   walk_at"rd";have ab:G4 p4=some (.lst ((ms++[now]).map V.int)):=by rw[Yf];exact g4
   obtain⟨c,x⟩:∃c:Int,Mn ((ms++[now]).map V.int) 0=some (.int c):=by
    cases ms with
    |nil=>exact⟨_,rfl⟩
    |cons a r=>exact⟨_,Gk (j:=0) rfl⟩
   refine⟨⟨by decide,by decide⟩,by decide,_,WA.of ab,_,x,_,WA.of ab,_,x,_,rfl,Jc (by decide),fun p5 G5 hp5 s5 g5=>u _ _ ?_⟩;clear u N;walk_at"rd";obtain⟨y,ey,my⟩:∃y,Mn [V.int now,V.int now,V.int (now+ 1),V.int (now+ d / 8%9),V.int c,V.int (c - 1),V.int now,V.int now] (d%8)=some y/\∃i,y= .int i:=by
    obtain⟨n,hn⟩:∃n:Nat,d%8=n:=⟨(d%8).toNat,by omega⟩;have aa:n < 8:=by omega
    rw[hn];refine⟨_,Gk (Y7 (show n < [V.int now,V.int now,V.int (now+ 1),V.int (now+ d / 8%9),V.int c,V.int (c - 1),V.int now,V.int now].length from aa)),?_⟩
    match n,aa with
    |0,_|1,_|2,_|3,_|4,_|5,_|6,_|7,_=>exact⟨_,rfl⟩
   obtain⟨i,rfl⟩:=my;refine⟨by decide,_,WA.of g5,_,ey,i,rfl,q _ G5 ?_ (sA.trans s5)⟩
   split <;> omega
theorem CS{xs:List V}{d:Int}(h0:0 <=d)(h1:d < xs.length):∃x,Mn xs d=some x/\x∈xs:=by
 obtain⟨n,rfl⟩:=Int.eq_ofNat_of_zero_le h0;have a:n < xs.length:=by omega
 exact⟨xs[n],Gk (Y7 a),Xk a⟩
structure Bm(H:Hp)(m:Wk)(G:Hp)(kvs:List (WO×V)):Prop where
 s:Ws H G
 m:G m=some (.dK kvs)
theorem Bm.put{H G G1 G2:Hp}{m:Wk}{kvs kvs':List (WO×V)}(h:Bm H m G kvs)(hm:H m=none)(s:Ws G G1)(b:JC m G1 G2)(e:G2 m=some (.dK kvs')):Bm H m G2 kvs'/\(∀c o,G c=some o->c≠m->G2 c=some o):=
 ⟨⟨fun c o x=>b c o (s _ _ (h.s _ _ x)) (N0 x hm),e⟩,fun c o x n=>b c o (s _ _ x) n⟩
inductive Z2(vs:List V)(H:Hp)(Q:VK)(E:XK):Prop|mk (l:Wk) (xs:Wl) (_:vs=[.ref l]) (_:H l=some (.lst (xs.map V.int))) (_:xs.length=6) (_:(∀x∈xs,0 <=x/\x < 5040)) (_:∀ (ru out ag:Str) (wt sp:Int) m dh ds dd G,(ru="first"\/ru="last"\/ru="refuse")->(out="oldest"\/out="widest"\/out="own")->(ag="fresh"\/ag="rest")->1 <=wt->1 <=sp->H m=none->H dh=none->H ds=none->H dd=none->Ws H G->N7 G m dh ds dd ⟨ru,wt,sp,out,ag,[],[]⟩->Q (.ref m) G)
abbrev Ks:Stmt:=top 67
theorem SE:Jx ["_law_digits_here","_law_m"] ["_law_digits_here"] (Wp Ks):=by walk_at"e"
theorem w5{f:Wk}{fd:Wf}(F:JE K "_law_model" "_law_model" Ks f fd):Wz P w K mg base Jf 1 f fd ["_law_digits_here"] Z2:=by
 refine F.ok SE (fun vs H Q E h=>?_) (fun cdv A outer s H vs Q E hr h=>?_)
 .obtain⟨l,xs,rfl,_⟩:=h;rfl
 .obtain⟨l,xs,rfl,hl,h6,hb,q⟩:=h;refine⟨_,(@WB _ _ _ _ _ (@IR _ _ 1 _ _ _ _ (SE).nd rfl (Or.inl rfl) (@HJ _ _ _ _ _ (@Rf _ _ _ _ _ _ _ _ _ (@WK _ _ _ _) (@J9 _ _ _ _ _ _ _ _ NW (@WE _ _ _ _) (@J9 _ _ _ _ _ _ _ _ Th (@DU _ _ _ _ _ _ _ (Gp (K:=K) rfl) (pv 0) (@WE _ _ _ _) (fun _ _=>rfl)) (@WE _ _ _ _))) (@Rf _ _ _ _ _ _ _ _ _ (@WK _ _ _ _) EN (@Rf _ _ _ _ _ _ _ _ _ (@WK _ _ _ _) EN (@Rf _ _ _ _ _ _ _ _ _ (@WK _ _ _ _) EN (@Lw _ _))))) rfl rfl (by simp) (by simp)) (by rfl) (Or.inl rfl)) (@WB _ _ _ _ _ (Br (TZ hr) (pv 1) (@WK _ _ _ _) (@DU _ _ _ _ _ _ _ (Gp (K:=K) rfl) (@Te _ _ _ _ (@J7 _ _ _ _ _ (@WK _ _ _ _) (@J7 _ _ _ _ _ (@WK _ _ _ _) (@J7 _ _ _ _ _ (@WK _ _ _ _) Wu TM) TM) TM)) (@J9 _ _ _ _ _ _ _ _ Th (@DU _ _ _ _ _ _ _ (Gp (K:=K) rfl) (pv 0) (@WE _ _ _ _) (fun _ _=>rfl)) (@WE _ _ _ _)) (fun _ _=>rfl)) rfl) (@WB _ _ _ _ _ (Br (TZ hr) (pv 1) (@WK _ _ _ _) (@DU _ _ _ _ _ _ _ (Gp (K:=K) rfl) (@Te _ _ _ _ (@J7 _ _ _ _ _ (@J9 _ _ _ _ _ _ _ _ NW (@WE _ _ _ _) (@J9 _ _ _ _ _ _ _ _ Th (@DU _ _ _ _ _ _ _ (Gp (K:=K) rfl) (pv 0) (@WE _ _ _ _) (fun _ _=>rfl)) (@WE _ _ _ _))) (@J7 _ _ _ _ _ (@J9 _ _ _ _ _ _ _ _ OC (@WE _ _ _ _) (@WE _ _ _ _)) Wu Dm) Dm)) (@J9 _ _ _ _ _ _ _ _ Th (@DU _ _ _ _ _ _ _ (Gp (K:=K) rfl) (pv 0) (@WE _ _ _ _) (fun _ _=>rfl)) (@WE _ _ _ _)) (fun _ _=>rfl)) rfl) (@WB _ _ _ _ _ (Br (TZ hr) (pv 1) (@WK _ _ _ _) (@DU _ _ _ _ _ _ _ (Gp (K:=K) rfl) (@Te _ _ _ _ (@J7 _ _ _ _ _ (@WK _ _ _ _) (@J7 _ _ _ _ _ (@WK _ _ _ _) (@J7 _ _ _ _ _ (@WK _ _ _ _) Wu TM) TM) TM)) (@J9 _ _ _ _ _ _ _ _ Th (@DU _ _ _ _ _ _ _ (Gp (K:=K) rfl) (pv 0) (@WE _ _ _ _) (fun _ _=>rfl)) (@WE _ _ _ _)) (fun _ _=>rfl)) rfl) (@WB _ _ _ _ _ (Br (TZ hr) (pv 1) (@WK _ _ _ _) (@DU _ _ _ _ _ _ _ (Gp (K:=K) rfl) (@Te _ _ _ _ (@J7 _ _ _ _ _ (@WK _ _ _ _) (@J7 _ _ _ _ _ (@WK _ _ _ _) Wu TM) TM)) (@J9 _ _ _ _ _ _ _ _ Th (@DU _ _ _ _ _ _ _ (Gp (K:=K) rfl) (pv 0) (@WE _ _ _ _) (fun _ _=>rfl)) (@WE _ _ _ _)) (fun _ _=>rfl)) rfl) (@WH _ _ _ (@Jd _ _ _ _ (pv 1)))))))),?_⟩;refine WX fun N j=>?_
  walk_at"rd";intro m hm;have s0:Ws H (upd H m (.dK [])):=Mc hm
  match xs,h6 with
  |[x0,x1,x2,x3,x4,x5],_=>
  have hb0:=hb x0 (by simp);have hb1:=hb x1 (by simp);have hb2:=hb x2 (by simp);have hb3:=hb x3 (by simp);have hb4:=hb x4 (by simp);have hb5:=hb x5 (by simp);refine⟨_,WA.of (s0 _ _ hl),_,rfl,_,rfl,by decide,fun dh G1 hdh s1 g1 ds G2 hds s2 g2 dd G3 x s3 g3=>⟨s3 _ _ (s2 _ _ (s1 _ _ Jp)),[(Sum.inr "wait",.int (1+ x1%30)),(Sum.inr "heaps",.ref dh),(Sum.inr "since",.ref ds),(Sum.inr "done",.ref dd)],rfl,by simp,j _ _ ?_⟩⟩;clear j N;obtain⟨G4,u⟩:∃G4,G4=upd G3 m (.dK (Es [] [(Sum.inr "wait",V.int (1+ x1%30)),(Sum.inr "heaps",.ref dh),(Sum.inr "since",.ref ds),(Sum.inr "done",.ref dd)])):=⟨_,rfl⟩;rw[<-u];have ne1:dh≠m:=fun z=>by rw[z,Jp]at hdh;cases hdh
  have ne2:ds≠m:=fun z=>by rw[z,s1 _ _ Jp]at hds;cases hds
  have ne3:dd≠m:=fun z=>by rw[z,s2 _ _ (s1 _ _ Jp)]at x;cases x
  have n12:dh≠ds:=N0 g1 hds;have n13:dh≠dd:=N0 (s2 _ _ g1) x;have n23:ds≠dd:=N0 g2 x;have B4:Bm H m G4 [(Sum.inr "wait",.int (1+ x1%30)),(Sum.inr "heaps",.ref dh),(Sum.inr "since",.ref ds),(Sum.inr "done",.ref dd)]:=⟨fun c o h=>by rw[u,WT (N0 h hm)];exact s3 _ _ (s2 _ _ (s1 _ _ (s0 _ _ h))),by rw[u,Jp];rfl⟩;have k1:G4 dh=some (.dT []):=by rw[u,WT ne1];exact s3 _ _ (s2 _ _ g1)
  have k2:G4 ds=some (.dT []):=by rw[u,WT ne2];exact s3 _ _ g2
  have y:G4 dd=some (.dT []):=by rw[u,WT ne3];exact g3
  have f1:H dh=none:=s0.free hdh;have f2:H ds=none:=(s0.trans s1).free hds;have f3:H dd=none:=(s0.trans (s1.trans s2)).free x;clear u g1 g2 g3 s1 s2 s3 s0 hdh hds x;refine WX fun N j=>?_
  walk_at"rd";refine⟨Jc (by simp),fun p G hp a r=>?_⟩;obtain⟨y1,ey1,my1⟩:=CS (xs:=[V.str "first",V.str "last",V.str "refuse"]) (d:=x0%3) (by omega) (by simp;omega);refine⟨_,WA.of (a _ _ (B4.s _ _ hl)),_,rfl,_,rfl,by decide,_,WA.of r,y1,ey1,_,a _ _ B4.m,Ya (by simp) (Tn (n:=10) (by decide)),fun J1 v i=>j _ _ ?_⟩;clear j N
  replace i:J1 m=some (.dK [(Sum.inr "wait",.int (1+ x1%30)),(Sum.inr "heaps",.ref dh),(Sum.inr "since",.ref ds),(Sum.inr "done",.ref dd),(Sum.inr "rule",y1)]):=i
  obtain⟨B5,b⟩:=B4.put hm a v i;have k1:=b _ _ k1 ne1;have k2:=b _ _ k2 ne2;have y:=b _ _ y ne3;clear r v i b a hp;refine WX fun N j=>?_
  walk_at"rd";refine⟨_,WA.of (B5.s _ _ hl),_,rfl,_,rfl,by decide,⟨by decide,by decide,by decide⟩,Jc (by simp),fun p G hp a r=>?_⟩;obtain⟨y2,ey2,my2⟩:=CS (xs:=[V.int (1+ x2%60),V.int (10 ^ Int.toNat 9)]) (d:=x3%2) (by omega) (by simp;omega);refine⟨_,WA.of (a _ _ (B5.s _ _ hl)),_,rfl,_,rfl,by decide,_,WA.of r,y2,ey2,_,a _ _ B5.m,Ya (by simp) (Tn (n:=10) (by decide)),fun J2 v i=>j _ _ ?_⟩;clear j N
  replace i:J2 m=some (.dK [(Sum.inr "wait",.int (1+ x1%30)),(Sum.inr "heaps",.ref dh),(Sum.inr "since",.ref ds),(Sum.inr "done",.ref dd),(Sum.inr "rule",y1),(Sum.inr "space",y2)]):=i
  obtain⟨B6,b⟩:=B5.put hm a v i;have k1:=b _ _ k1 ne1;have k2:=b _ _ k2 ne2;have y:=b _ _ y ne3;clear r v i b a hp;refine WX fun N j=>?_
  walk_at"rd";refine⟨Jc (by simp),fun p G hp a r=>?_⟩;obtain⟨y3,ey3,my3⟩:=CS (xs:=[V.str "oldest",V.str "widest",V.str "own"]) (d:=x4%3) (by omega) (by simp;omega);refine⟨_,WA.of (a _ _ (B6.s _ _ hl)),_,rfl,_,rfl,by decide,_,WA.of r,y3,ey3,_,a _ _ B6.m,Ya (by simp) (Tn (n:=10) (by decide)),fun J3 v i=>j _ _ ?_⟩;clear j N
  replace i:J3 m=some (.dK [(Sum.inr "wait",.int (1+ x1%30)),(Sum.inr "heaps",.ref dh),(Sum.inr "since",.ref ds),(Sum.inr "done",.ref dd),(Sum.inr "rule",y1),(Sum.inr "space",y2),(Sum.inr "out",y3)]):=i
  obtain⟨B7,b⟩:=B6.put hm a v i;have k1:=b _ _ k1 ne1;have k2:=b _ _ k2 ne2;have y:=b _ _ y ne3;clear r v i b a hp;refine WX fun N j=>?_
  walk_at"rd";refine⟨Jc (by simp),fun p G hp a r=>?_⟩;obtain⟨y4,ey4,my4⟩:=CS (xs:=[V.str "fresh",V.str "rest"]) (d:=x5%2) (by omega) (by simp;omega);refine⟨_,WA.of (a _ _ (B7.s _ _ hl)),_,rfl,_,rfl,by decide,_,WA.of r,y4,ey4,_,a _ _ B7.m,Ya (by simp) (Tn (n:=10) (by decide)),fun J4 v i=>j _ _ ?_⟩;clear j N
  replace i:J4 m=some (.dK [(Sum.inr "wait",.int (1+ x1%30)),(Sum.inr "heaps",.ref dh),(Sum.inr "since",.ref ds),(Sum.inr "done",.ref dd),(Sum.inr "rule",y1),(Sum.inr "space",y2),(Sum.inr "out",y3),(Sum.inr "again",y4)]):=i
  obtain⟨B8,b⟩:=B7.put hm a v i;have k1:=b _ _ k1 ne1;have k2:=b _ _ k2 ne2;have y:=b _ _ y ne3;clear r v i b a hp;simp only[Yl,List.not_mem_nil,Vi]at my1 my2 my3 my4;obtain⟨ru,rfl,hru⟩:∃z:Str,y1= .str z/\(z="first"\/z="last"\/z="refuse"):=by rcases my1 with rfl|rfl|rfl <;> exact⟨_,rfl,by simp⟩
  obtain⟨sp,rfl,hsp⟩:∃z:Int,y2= .int z/\1 <=z:=by rcases my2 with rfl|rfl <;> exact⟨_,rfl,by first|omega|decide⟩
  obtain⟨ou,rfl,hou⟩:∃z:Str,y3= .str z/\(z="oldest"\/z="widest"\/z="own"):=by rcases my3 with rfl|rfl|rfl <;> exact⟨_,rfl,by simp⟩
  obtain⟨ag,rfl,hag⟩:∃z:Str,y4= .str z/\(z="fresh"\/z="rest"):=by rcases my4 with rfl|rfl <;> exact⟨_,rfl,by simp⟩
  walk_at"rd";exact q ru ou ag (1+ x1%30) sp m dh ds dd _ hru hou hag (by omega) hsp hm f1 f2 f3 B8.s ⟨B8.m,k1,k2,y,n12,n13,n23,(fun e he=>nomatch he),UM⟩
def Dy(k:Ky):PyData:=DA k.1 k.2.1 k.2.2
theorem IT{G:Hp}:∀{zs:List V} {ks:List Ky},Pw (fun x k=>∃t,x=V.ref t/\G t=some (.tup (NG k))) zs ks->WQ K G zs (ks.map Dy)
 |[],[],_=>.nil
 |[],_::_,h=>absurd h.1 (by simp)
 |_::_,[],h=>absurd h.1 (by simp)
 |x::zs,k::ks,h=>by
  obtain⟨t,rfl,ht⟩:=h.2 0 x k rfl rfl;exact .cons (Do ht) (IT ⟨by have:=h.1;simpa using this,fun j x y a b=>h.2 (j+ 1) x y (by simpa using a) (by simpa using b)⟩)
theorem QD{ks:List Ky}(h:∀k∈ks,Na k):SeqAt.shaped (.list (ks.map Dy))=true:=by
 have h1:∀c:List Ky,(∀k∈c,Na k)->PyData.canLayAll0 (c.map Dy)=true:=fun c=>by
  induction c with
  |nil=>exact fun _=>rfl
  |cons p r ih=>
   intro b;have a:=b p (.head _);simp[PyData.canLayAll0,PyData.canLay0,Dy,a.2.2.1.ok,a.2.2.2.ok,ih fun k d=>b k (.tail _ d)]
 have h2:∀c:List Ky,PyData.depthAll (c.map Dy) <=6:=fun c=>by
  induction c with
  |nil=>simp[PyData.depthAll]
  |cons p r ih=>simp[PyData.depthAll,PyData.depth,Dy];omega
 have e:=h2 ks;simp[SeqAt.shaped,PyData.canLay0,h1 ks h,PyData.depth];omega
theorem yX(ks:List Ky):PyData.eqv (.list (ks.map Dy)) (.list (ks.map Dy))=true:=by
 have h:∀c:List Ky,PyData.eqvAll (c.map Dy) (c.map Dy)=true:=fun c=>by
  induction c with
  |nil=>simp[PyData.eqvAll]
  |cons p r ih=>
   show(PyData.eqv (Dy p) (Dy p) && PyData.eqvAll (r.map Dy) (r.map Dy))=true;unfold Dy at ih ⊢;rw[Qj,ih];rfl
 exact h ks
theorem Ew.zs{G:Hp}{l:Wk}{ks:List Ky}(h:Ew G l ks):∃zs,G l=some (.lst zs)/\Pw (fun x k=>∃t,x=V.ref t/\G t=some (.tup (NG k))) zs ks:=by
 obtain⟨e,h1,h2,d⟩:=h;refine⟨_,h2,by rw[Y1];exact h1,fun j x y a b=>?_⟩;rw[Y9]at a;obtain⟨t,c,rfl⟩:=Yn.mp a;exact⟨t,rfl,d j t y c b⟩
theorem bX{ks js:List Ky}(h1:ks.Pairwise fun a b=>TQ b a=false)(h2:js.Pairwise fun a b=>TQ b a=false)(h:ks.Perm js):ks=js:=
 VA (le:=fun a b=>TQ b a=false) (fun a b _ _ x y=>F7 y x) h1 h2 h
theorem Oj{es:List ME}{rs:List RE}(h:Wy es=Wt rs){e:ME}(he:e∈es):∃e'∈rs,e'.ky=e.ky/\e'.rs=e.rs/\e'.first=e.first:=by
 have h1:(e.ky,e.rs,e.first)∈Wt rs:=by rw[<-h];exact Y3.mpr ⟨e,he,rfl⟩
 obtain⟨e',a,z⟩:=Y3.mp h1;injection z with z1 z2;injection z2 with z2 z3;exact⟨e',a,z1,z2,z3⟩
theorem QL{es:List ME}{rs:List RE}(h:Wy es=Wt rs){e:RE}(he:e∈rs):∃e'∈es,e'.ky=e.ky/\e'.rs=e.rs/\e'.first=e.first:=by
 have h1:(e.ky,e.rs,e.first)∈Wy es:=by rw[h];exact Y3.mpr ⟨e,he,rfl⟩
 obtain⟨e',a,z⟩:=Y3.mp h1;injection z with z1 z2;injection z2 with z2 z3;exact⟨e',a,z1,z2,z3⟩
theorem PY(e:Option Int):∀ (c:List (Int×Int)) (re:Int),(T0 e re c).length <=c.length+ 1
 |[],re=>by
  unfold T0 Cd;cases e <;> simp <;> split <;> simp
 |p::r,re=>by
  have ih:=PY e r p.2;unfold T0
  split
  .unfold Cd;cases e <;> simp <;> split <;> simp
  .rw[Ys,List.length_cons];have:(if re < p.1 then [(re,some p.1)] else []).length <=1:=by split <;> simp
   omega
inductive IG(C CR:Wk)(vs:List V)(H:Hp)(Q:VK)(E:XK):Prop|mk (r dr df dw m dh ds dd:Wk) (R:JM) (M:Tw) (_:vs=[.ref r,.ref m]) (_:Ww C CR H r dr df dw R) (_:N7 H m dh ds dd M) (_:Wy M.es=Wt R.es) (_:M.wt=R.wt) (_:R.es.length < 60) (_:(∀e∈R.es,Na e.ky/\NK e.rs/\e.rs.st.length <=10000/\e.rs.cv.length <=800)) (_:Nk (Wt R.es) <=M.sp) (_:∀G,Ws H G->Q (.bl true) G)
abbrev CB:Stmt:=top 65
theorem Cw:Jx ["_law_room","_law_m","_law_keys","_law_key_here","_law_ends"] ["_law_room","_law_m"] (Wp CB):=by walk_at"e"
theorem mJ{f C CR:Wk}{fd:Wf}(F:JE K "_law_asked" "_law_asked" CB f fd)(B:Bt mg)(B2:GO mg)(NH:Nv P w K mg base C "kept" 1 ["self"] [] (Hw C CR))(J8:Nv P w K mg base C "bytes_kept" 2 ["self"] [] (AB C CR))(NU:Nv P w K mg base C "since" 6 ["self","key"] [] (Lp C CR))(No:Nv P w K mg base C "lacks" 6 ["self","key"] [] (FO C CR))(ND:Nv P w K mg base C "ends_at" 1 ["self"] [] (L1 C CR))(Nw:N6 P w K mg base "_law_size" 1 ["_law_m"] [] IW)(TY:N6 P w K mg base "_law_spans" 1 ["_law_heap_here"] [] HL):Wz P w K mg base Jf 7 f fd ["_law_room","_law_m"] (IG C CR):=by
 refine F.ok Cw (fun vs H Q E h=>?_) (fun cdv A outer s H vs Q E u h=>?_)
 .obtain⟨r,dr,df,dw,m,dh,ds,dd,R,M,rfl,_⟩:=h;rfl
 .obtain⟨r,dr,df,dw,m,dh,ds,dd,R,M,rfl,hR,hM,hab,hwt,hel,hes,htot,q⟩:=h;refine⟨_,(WB (JP 2 Cw (N4 (yE rfl (Room.units u)) B2.sorted (MG (Bd (K:=K) rfl YJ VJ PySem.F.type_dict_keys wK (Jt u (Wq 1) WK)) Wu))) (WB (JJ (PW.pt (Dh (JA (RO (K:=K) (Room.units u) rfl) (Mq (Wq 0) NH u.m) (Wq 2)) (Dh (JA (RC Rz) (Mq (Wq 0) J8 u.m) (JT Nw u.m rfl (Wx 1 Wu))) (DH (JA (Jy Gu) (Mq (Wq 0) J8 u.m) (Jt u (Wq 1) WK)))))) (WH (Jd Re)) JV) (WB (GT YT rfl (GE (K:=K) rfl (Wq 2)) (Tg 3 Cw) (WB (JJ (PW.pt (Dh (JA (RC Rz) (MK (Wq 0) NU u.m (Wx 3 Wu)) (Jt u (Jt u (Wq 1) WK) (Wq 3))) (DH (JA (RO (K:=K) (Room.units u) rfl) (MK (Wq 0) No u.m (Wx 3 Wu)) (JT TY u.m rfl (NT (Jt u (Jt u (Wq 1) WK) (Wq 3)) Wu)))))) (WH (Jd Re)) JV) (WH (Ta (Md (K:=K) rfl Yr Yu Yv (Dc Da) (MK (Wq 0) No u.m (Wx 3 Wu)) (J7 (hs:=Mh) (NO (NI WE (NI WE Wu))) Wu)))))) (WB (Ta (Md (K:=K) rfl Yr Yu Yv (Dc Da) (Mq (Wq 0) NH u.m) (NI WE Wu))) (WB (JP 4 Cw (N4 (SG (K:=K) rfl) B2.sorted (J7 (hs:=GB) (E8 (Di (N':=["_law_since","_law_m"]) (caps:=[none,some 1]) (MR (sc:=Wp CB) (N:=["_law_room","_law_m","_law_keys","_law_key_here","_law_ends"]) rfl rfl (by decide +kernel)) rfl (L0 (Bd (K:=K) rfl YJ U4 UK Hm (Jt u (Wq 1) WK))) (fun _ _ _ _ _=>(Ms (i:=0) (MB (N:=["_law_since","_law_m"]) rfl (by decide +kernel)) rfl (Or.inl rfl))) (fun _ _ _ _ _=>DC) (fun _ _ _ _ _=>(J9 (Jy NW) (Wq 0) (Jt u (Wq 1) WK))))) Wu))) (WH (Jd (Mp (LJ (K:=K) (Room.units u) rfl) (Mq (Wq 0) ND u.m) (Mm K (J9 (Bs Eo) (Wq 4) (Te (NI Mf Wu))) WE) (MI _))))))))),?_⟩;refine WX fun N hN=>?_
  walk_at"rd";have hml:M.es.length=R.es.length:=by have:=YU List.length hab;simpa[Wy,Wt] using this
  have hmk:M.es.map (·.ky)=R.es.map (·.ky):=by have:=YU (List.map (·.1)) hab;rw[Wy,Wt,Yo,Yo]at this;exact this
  have hME:∀e∈M.es,Na e.ky/\NK e.rs/\e.rs.st.length <=10000:=fun e d=>by
   obtain⟨e',ab,z1,z2,z3⟩:=Oj hab d;have:=hes e' ab;rw[z1,z2]at this;exact⟨this.1,this.2.1,this.2.2.1⟩
  refine⟨_,hM.g rfl,.inr (.inr (.inl ⟨rfl,.inr ⟨_,hM.dH⟩⟩)),dh,rfl,_,hM.dH,fun v1 G1 hv1 s1 e1=>⟨dh,e1,_,s1 _ _ hM.dH,M.es.map (·.ky),by unfold Dr D4;rw[Yo,Yo];rfl,by rw[Y1];omega,fun ks ts l2 G2 hp2 hs2 htl ht hl2 s2 e2=>hN _ _ ?_⟩⟩;clear hN N;have sA:=s1.trans s2;have hkok:∀k∈ks,Na k:=fun k hk=>by
   obtain⟨e,d,rfl⟩:=Y3.mp (hp2.mem_iff.mp hk);exact(hME e d).1
  have hz2:Pw (fun x k=>∃t,x=V.ref t/\G2 t=some (.tup (NG k))) (ts.map V.ref) ks:=by
   refine⟨by rw[Y1];exact htl,fun j x y a b=>?_⟩;rw[Y9]at a;obtain⟨t,ht',rfl⟩:=Yn.mp a;exact⟨t,rfl,s2 _ _ (ht j t y ht' b)⟩
  have hRA:=hR.mono sA;have hMA:=hM.mono sA;clear s1 s2 e1 hv1 ht;refine WX fun N hN=>?_
  walk_at"rd";refine⟨hRA.mt rfl,r,dr,df,dw,R,rfl,hRA,by omega,fun ks3 l3 G3 hp3 hs3 hl3 s3 k3=>?_⟩;have hkk:ks3=ks:=bX hs3 hs2 (hp3.trans (by rw[<-hmk];exact hp2.symm));subst hkk;obtain⟨zs3,hz3,hzp3⟩:=k3.zs;refine⟨_,_,.lst (WA.of hz3) (IT hzp3),.lst (WA.of (s3 _ _ e2)) (IT (hz2.imp fun x k ⟨t,a,b⟩=>⟨t,a,s3 _ _ b⟩)),QD hkok,QD hkok,_,rfl,?_⟩;rw[Y2 (by rw[yX];simp)];have hR3:=hRA.mono s3;have hcap:∀e∈R.es,e.rs.st.length <=100000:=fun e d=>YD (hes e d).2.2.1 (by decide)
  refine⟨hR3.mt rfl,r,dr,df,dw,R,rfl,hR3,by omega,hcap,fun G4 s4=>?_⟩;refine⟨m,dh,ds,dd,M,rfl,hMA.mono (s3.trans s4),by omega,fun e d=>YD (hME e d).2.2 (by decide),fun G5 s5=>?_⟩;rw[show GR M.es=MZ R.es by unfold GR;rw[hab,Q0]];refine⟨rfl,?_⟩;rw[Y2 (by simp)];have s35:=s3.trans (s4.trans s5);have hR5:=hRA.mono s35;refine⟨hR5.mt rfl,r,dr,df,dw,R,rfl,hR5,by omega,hcap,fun G6 s6=>?_⟩;refine⟨_,(hMA.mono (s35.trans s6)).g rfl,_,rfl,_,rfl,?_⟩;rw[Y2 (by rw[<-Q0];simpa using htot)];refine hN _ _ ?_;clear hN N;have s36:=s35.trans s6;have hz6:=s36 _ _ e2;have hzp6:Pw (fun x k=>∃t,x=V.ref t/\G6 t=some (.tup (NG k))) (ts.map V.ref) ks3:=hz2.imp fun x k ⟨t,a,b⟩=>⟨t,a,s36 _ _ b⟩
  have hR6:=hRA.mono s36;have hM6:=hMA.mono s36;have s06:=sA.trans s36;clear hz2 e2 s3 s4 s5 s6 s35 s36 hR5 hR3 hz3 hzp3 k3 hl3 hRA hMA sA;refine WX fun N hN=>?_
  walk_at"rd";refine⟨⟨_,WA.of hz6⟩,?_⟩;refine Bw (xs:=ts.map V.ref) (fun i σ' G'=>(∃a b,σ'=[some (.ref r),some (.ref m),some (.ref l2),a,b])/\Ws G6 G') ⟨⟨_,_,rfl⟩,Ws.refl _⟩ (fun i σ' G' _ h=>WA.of (h.2 _ _ hz6)) (fun i x σ' G' hx h=>?_) fun σ' G' h=>?_
  .obtain⟨⟨a,b,rfl⟩,s7⟩:=h;obtain⟨k,hk,t,rfl,ht⟩:=hzp6.get hx;obtain⟨e,d,rfl⟩:=Y3.mp (hp3.mem_iff.mp (Yx hk));obtain⟨e',ab,z1,z2,z3⟩:=QL hab d;have ac:=hR6.mono s7;have hM7:=hM6.mono s7;have ht7:=s7 _ _ ht;have hee:=hes e d;refine WX fun N1 hN1=>?_
   walk_at"rd";refine⟨ac.mt rfl,r,dr,df,dw,t,R,e,rfl,ac,ht7,hee.1,d,fun G8 s8=>?_⟩;have hM8:=hM7.mono s8;refine⟨_,hM8.g rfl,ds,rfl,.int e'.first,.inr ⟨_,Ju e.ky,t,.inl hM8.dS,rfl,s8 _ _ ht7,by rw[<-z1];exact(Be (g:=fun e=>.int e.first) hM.nk ab).symm⟩,rfl,?_⟩;rw[z3,Y2 (by simp)];have hR8:=ac.mono s8;refine⟨hR8.mt rfl,r,dr,df,dw,t,R,e,rfl,hR8,s8 _ _ ht7,hee.1,d,YD hee.2.2.2 (by decide),fun l9 G9 hl9 s9 c9=>?_⟩;have aa:=hM8.mono s9;refine⟨_,aa.g rfl,dh,rfl,.ref e'.h,.inr ⟨_,Ju e.ky,t,.inl aa.dH,rfl,s9 _ _ (s8 _ _ ht7),by rw[<-z1];exact(Be (g:=fun e=>.ref e.h) hM.nk ab).symm⟩,e'.h,e'.a,e.rs,rfl,z2▸aa.hs e' ab,hee.2.1,YD hee.2.2.1 (by decide),fun l10 G10 hl10 s10 c10=>?_⟩;refine⟨_,_,.lst (WA.of (s10 _ _ c9.choose_spec.1)) (Ow (c9.choose_spec.2.tk (Ru s10))),wT c10,OZ _,OZ _,_,rfl,?_⟩;rw[Y2 (by rw[xV];simp)];refine hN1 _ _ ?_;clear hN1 N1;have s710:=s8.trans (s9.trans s10);have hR10:=ac.mono s710;walk_at"rd";refine⟨hR10.mt rfl,r,dr,df,dw,t,R,e,rfl,hR10,s710 _ _ ht7,hee.1,d,YD hee.2.2.2 (by decide),fun l11 G11 hl11 s11 c11=>?_⟩;obtain⟨xs11,x11,cl11⟩:=c11;have hl11':xs11.length <=1000:=by
    have h1:=cl11.length;have h2:=PY e.rs.en e.rs.cv 0;have h3:=hee.2.2.2;omega
   refine⟨.inl ⟨rfl,_,WA.of x11⟩,Jc (by decide),fun p12 G12 hp12 s12 g12=>⟨l11,rfl,_,s12 _ _ x11,Ya hl11' (Tn (n:=1000) (by decide)),fun G13 b13 e13=>?_⟩⟩;exact fun c o h=>b13 c o (s12 _ _ (s11 _ _ (s710 _ _ (s7 _ _ h)))) (N0 (s710 _ _ (s7 _ _ h)) hl11)
  .obtain⟨⟨a,b,rfl⟩,s7⟩:=h;refine hN _ _ ?_;clear hN N;have ac:=hR6.mono s7;have hM7:=hM6.mono s7;refine WX fun N hN=>?_
   walk_at"rd";refine⟨ac.mt rfl,r,dr,df,dw,R,rfl,ac,by omega,fun ks8 l8 G8 hp8 hs8 hl8 s8 k8=>?_⟩;obtain⟨zs8,hz8,hzp8⟩:=k8.zs;have hz8l:zs8.length <=1000:=by rw[hzp8.1,hp8.length_eq,Y1];omega
   refine⟨.inl ⟨rfl,_,WA.of hz8⟩,l8,rfl,_,hz8,Ya hz8l (Tn (n:=1000) (by decide)),fun G9 b9 e9=>hN _ _ ?_⟩;clear hN N;have s79:Ws G' G9:=fun c o h=>b9 c o (s8 _ _ h) (N0 h hl8)
   have hR9:=ac.mono s79;have aa:=hM7.mono s79;have s09:=s06.trans (s7.trans s79);clear ac hM7 s79 s7 s8 k8 hz8 hzp8 b9 e9;refine WX fun N hN=>?_
   walk_at"rd";have hrl:(Df M.es).length=M.es.length:=Y1 ..;have nm:m≠ds:=Wr aa.mm aa.dS nofun;refine LB aa.dS (fun Rr h=>by walk_at"rd";exact⟨_,aa.g rfl,.inr (.inr (.inl ⟨rfl,.inr ⟨_,aa.dS⟩⟩)),ds,rfl,_,aa.dS,h⟩) (fun i ys σ'=>ys=((M.es.take i).map fun e=>V.int (e.first+ M.wt))/\∃v,σ'=[v,some (.ref m)]) ⟨rfl,_,rfl⟩ ?_ (by omega) ?_ ?_
   .rintro i ys σ' ⟨rfl,_⟩;rw[Y1,Yt];omega
   .rintro Hf o hfo hfd i k v ys σ' hk ⟨rfl,v0,rfl⟩;obtain⟨e,d,rfl,rfl⟩:=A0 hk;walk_at"rd";refine⟨_,.inl ⟨_,Sum.inr "wait",.inl (hfo m _ aa.mm nm),rfl,rfl⟩,_,rfl,?_⟩;rw[YK,d,Xc,Yf];rfl
   .rintro ys σ' ⟨rfl,_⟩ p G hp s1 e1;rw[hrl,YA (Y6 _)]at e1;have em:(M.es.map fun e=>V.int (e.first+ M.wt))=(M.es.map fun e=>e.first+ M.wt).map V.int:=by rw[Yo];rfl
    rw[em]at e1;refine⟨p,rfl,_,WA.of e1,by rw[Y1];omega,fun ms l G2 hms hso hl2' s2 g2=>hN _ _ ?_⟩;clear hN N;walk_at"rd";have hR2:=hR9.mono (s1.trans s2);have hmsl:ms.length=M.es.length:=by rw[hms.length_eq,Y1]
    refine⟨hR2.mt rfl,r,dr,df,dw,R,rfl,hR2,by omega,fun G3 s3=>?_⟩;have fin:∀ (v:V) (dv:PyData),(∀G,Dp K G v dv)->(ms.map V.int++[V.non])[0]?=some v->SeqAt.shaped dv=true->PyData.eqv dv dv=true->(1 <=sizeLine/\∀ (p:Wk) (G:Hp),G3 p=none->Ws G3 G->G p=some (HO.lst [V.non])->∃x_1,G l=some (HO.lst x_1)/\∃x_2,G p=some (HO.lst x_2)/\x_1.length+ x_2.length <=sizeLine/\∀ (p:Wk) (G_1:Hp),G p=none->Ws G G_1->G_1 p=some (HO.lst (x_1++x_2))->∃x_3,WA K G_1 p x_3/\∃x_4,Mn x_3 0=some x_4/\KR K v x_4 G_1 Q):=fun v dv h1 h2 h3 h4=>by
     refine⟨Jc (by decide),fun p4 G4 hp4 s4 g4=>⟨_,s4 _ _ (s3 _ _ g2),_,g4,Jc (show _ <=100000 by rw[Y1,Ui];omega),fun p5 G5 hp5 s5 g5=>⟨_,WA.of g5,v,Gk (j:=0) h2,?_⟩⟩⟩;refine⟨dv,dv,h1 _,h1 _,h3,h3,?_⟩;rw[h4];exact q _ (s09.trans (s1.trans (s2.trans (s3.trans (s4.trans s5)))))
    refine⟨fun h0=>fin .non .none (fun _=>.non) ?_ rfl rfl,fun n hn hmin=>fin (.int n) (.int n) (fun _=>.int n) ?_ rfl (by simp[PyData.eqv])⟩
    .have:ms=[]:=List.length_eq_zero_iff.mp (by rw[hmsl,hml,h0];rfl);rw[this];rfl
    .cases hm:ms with
     |nil=>
      rw[hm]at hmsl;obtain⟨e,d,_⟩:=Y3.mp hn;have:=VN d;simp at hmsl;omega
     |cons a rr=>
      have hall:∀z,z∈ms↔z∈R.es.map fun e=>e.first+ R.wt:=fun z=>by
       rw[hms.mem_iff];constructor
       .intro h;obtain⟨e,d,rfl⟩:=Y3.mp h;obtain⟨e',ab,z1,z2,z3⟩:=Oj hab d;exact Y3.mpr ⟨e',ab,by rw[z3,hwt]⟩
       .intro h;obtain⟨e,d,rfl⟩:=Y3.mp h;obtain⟨e',ab,z1,z2,z3⟩:=QL hab d;exact Y3.mpr ⟨e',ab,by rw[z3,hwt]⟩
      obtain⟨e,d,ee⟩:=Y3.mp ((hall a).mp (by rw[hm];exact YC));have h1:=hmin e d;have h2:a <=n:=by
       have h3:=(hall n).mpr hn;rw[hm]at h3 hso;rcases Yl.mp h3 with z|z
       .omega
       .exact(List.pairwise_cons.mp hso).1 n z
      have:a=n:=by omega
      rw[this];rfl
end
theorem PZ{d:PD}(h:d.Ok):strange Dd d=false:=by
 obtain⟨c,b,a⟩:=h.end';unfold strange Dd;cases d.mo with
 |true=>rfl
 |false=>
  show decide (d.at'+ (d.ns.length:Int) <=0)=false;exact Yp (by omega)
theorem QP(out:Str)(sp:Int)(own:Ky):∀ (n:Nat) (xs:List AE),(WL out sp own n xs).1=xs.filter fun x=> !decide (x.1∈(WL out sp own n xs).2)
 |0,xs=>by
  show xs=_;rw[Xl.mpr fun x _=>by simp[WL]]
 |n+ 1,xs=>by
  unfold WL
  split
  .rw[Xl.mpr fun x _=>by simp]
  .show(WL out sp own n (WP xs (Mo out sp own xs))).1=_;rw[QP out sp own n];show List.filter _ (List.filter _ _)=_;rw[Vp];apply Xw;intro x _
   by_cases h1:x.1=Mo out sp own xs <;> by_cases h2:x.1∈(WL out sp own n (WP xs (Mo out sp own xs))).2 <;> simp[h1,h2]
theorem gU{xs:List AE}{k:Ky}(h:k∈xs.map (·.1)):(WP xs k).length < xs.length:=by
 obtain⟨x,a,e⟩:=Y3.mp h;unfold WP;refine Nat.lt_of_le_of_ne (Yz _ _) fun z=>?_
 have:=Xl.mp (YI.eq_of_length z) x a;simp[e]at this
theorem QC{out:Str}{sp:Int}{own:Ky}:∀ (n:Nat) (xs:List AE),xs.length < n->(xs.map (·.1)).Nodup->own∈xs.map (·.1)\/Nk xs <=sp->Nk (WP xs own) <=sp->Nk (WL out sp own n xs).1 <=sp
 |0,xs,h,_,_,_=>by omega
 |n+ 1,xs,h,hn,ho,hl=>by
  unfold WL
  split
  .assumption
  .rename_i ht
   have ho:=ho.resolve_right ht;have c:=FU (out:=out) (sp:=sp) ho fun b=>La hn (by omega) b
   have d:=gU c;refine QC n _ (by omega) (hn.sublist (XA _ YI)) ?_ ?_
   .by_cases e:own=Mo out sp own xs
    .refine .inr ?_;rw[<-e];exact hl
    .refine .inl ?_;obtain⟨x,a,ex⟩:=Y3.mp ho;exact Y3.mpr ⟨x,Ym.mpr ⟨a,by rw[ex];simpa using e⟩,ex⟩
   .exact Uq (Et (List.Sublist.filter _ YI)) hl
theorem FL{es:List RE}(hk:(es.map (·.ky)).Nodup){k:Ky}:(k∉es.map (·.ky)/\Np es k=Dd)\/∃e∈es,e.ky=k/\Np es k=e.rs:=by
 unfold Np;cases h:es.find? fun e=>decide (e.ky=k) with
 |none=>
  refine .inl ⟨fun z=>?_,rfl⟩;obtain⟨e,a,z⟩:=Y3.mp z;have:=Xr.mp h e a;simp[z]at this
 |some e=>exact .inr ⟨e,Vw h,by simpa using List.find?_some h,rfl⟩
theorem Sd(xs:List AE)(k:Ky)(rs:RS)(t:Int):(J6 xs k rs t).map (·.1)=if k∈xs.map (·.1) then xs.map (·.1) else xs.map (·.1)++[k]:=by
 unfold J6
 split
 .rw[Yo];apply YO;intro x _;simp only[Function.comp]
  split
  .rename_i h;exact h.symm
  .rfl
 .rw[Yf];rfl
def DK(j:Nat)(xs:List AE):Prop:=∀x∈xs,x.2.1.st.length <=41*j/\x.2.1.cv.length <=j/\NV x.2.1
theorem DK.up{i j:Nat}{xs:List AE}(h:DK i xs)(hij:i <=j):DK j xs:=fun x d=>by
 obtain⟨a,b,c⟩:=h x d;exact⟨by omega,by omega,c⟩
theorem DK.fil{j:Nat}{xs:List AE}(h:DK j xs)(p:AE->Bool):DK j (xs.filter p):=fun x a=>h x (Ym.mp a).1
theorem DK.cur{j:Nat}{es:List RE}(hk:(es.map (·.ky)).Nodup)(h:DK j (Wt es))(k:Ky):(Np es k).st.length <=41*j/\(Np es k).cv.length <=j/\NV (Np es k):=by
 rcases FL hk (k:=k) with⟨_,z⟩|⟨e,he,_,z⟩
 .rw[z];exact⟨YF _,YF _,NV.zero⟩
 .rw[z];exact h (e.ky,e.rs,e.first) (Y3.mpr ⟨e,he,rfl⟩)
theorem DK.set{j:Nat}{xs:List AE}{k:Ky}{rs:RS}{now:Int}(h:DK j xs)(hr:rs.st.length <=41*j/\rs.cv.length <=j/\NV rs):DK j (J6 xs k rs now):=fun x a=>by
 rcases SH a with z|z
 .exact h x z
 .rw[z];exact hr
theorem uE{j:Nat}{ru:Str}{rs rs':RS}{d:PD}(h:rs.st.length <=41*j/\rs.cv.length <=j/\NV rs)(hd:d.Ok)(hl:d.ns.length <=41)(hs:Jb ru rs d= .keep rs'):rs'.st.length <=41*(j+ 1)/\rs'.cv.length <=j+ 1/\NV rs':=by
 have e:rs'=JB (decide (ru="last")) rs d:=by
  unfold Jb at hs
  split at hs
  .split at hs <;> cases hs
  .split at hs
   .cases hs
   .split at hs
    .cases hs
    .cases hs;rfl
 rw[e];refine⟨?_,?_,h.2.2.step _ hd⟩
 .have:=Ec (decide (ru="last")) d.ns rs.st d.at';show(JG (decide (ru="last")) rs.st d.at' d.ns).length <=_;omega
 .have:=Od rs.cv d.at' (d.at'+ d.ns.length);show(Nn rs.cv d.at' (d.at'+ d.ns.length)).length <=_;omega
theorem QW{R:JM}{k:Ky}{xs:List AE}{x:AE}(h:x∈(DT R k xs).1):x∈xs:=by
 unfold DT at h;rw[QP]at h;exact(Ym.mp h).1
theorem aH{j:Nat}{R:JM}{d:PD}(hk:(R.es.map (·.ky)).Nodup)(h:DK j (Wt R.es))(hd:d.Ok)(hl:d.ns.length <=41):DK (j+ 1) (JD R d).1:=by
 have a:=h.cur hk d.key;unfold JD
 split
 .exact h.up (YL _)
 .cases hs:Jb R.ru (Np R.es d.key) d with
  |str=>exact(h.up (YL _)).set ⟨by omega,by omega,a.2.2⟩
  |unl n=>exact(h.up (YL _)).fil _
  |keep rs=>exact fun x b=>(h.up (YL _)).set (uE a hd hl hs) x (QW b)
  |whole rs=>exact(h.up (YL _)).fil _
theorem w4{R:JM}{d:PD}{ks:List Ky}(h:∀x∈Wt R.es,x.1∈ks)(hd:d.key∈ks):∀x∈(JD R d).1,x.1∈ks:=by
 have c:∀rs,∀x∈J6 (Wt R.es) d.key rs R.now,x.1∈ks:=fun rs x a=>by
  unfold J6 at a
  split at a
  .obtain⟨y,e,rfl⟩:=Y3.mp a
   split
   .exact hd
   .exact h y e
  .rcases YB.mp a with z|z
   .exact h x z
   .rw[Yg.mp z];exact hd
 have b:∀x∈WP (Wt R.es) d.key,x.1∈ks:=fun x a=>h x (Ym.mp a).1
 unfold JD
 split
 .exact h
 .split
  .exact c _
  .exact b
  .exact fun x a=>c _ x (QW a)
  .exact b
theorem yV(R:JM)(d:PD):(JD R d).2.1.length <=R.ws.length+ 1:=by
 have a:(Mj R.ws d.key R.now).length <=R.ws.length+ 1:=by
  unfold Mj
  split
  .rw[Y1];omega
  .simp
 unfold JD
 split
 .exact YL _
 .split
  .exact YL _
  .exact YL _
  .exact YL _
  .exact a
theorem m6(xs:List AE)(k:Ky)(rs:RS)(t:Int):WP (J6 xs k rs t) k=WP xs k:=by
 have h:∀l:List AE,(l.map fun x=>if x.1=k then(k,rs,x.2.2) else x).filter (fun x=> !decide (x.1=k))=l.filter fun x=> !decide (x.1=k):=by
  intro l
  induction l with
  |nil=>rfl
  |cons x r ih=>
   rw[List.map_cons]
   by_cases hx:x.1=k
   .rw[Y5 hx,U7 (by simp),U7 (by simp[hx]),ih]
   .rw[Y2 hx,U8 (by simp[hx]),U8 (by simp[hx]),ih]
 unfold J6
 split
 .exact h xs
 .unfold WP;rw[XC];simp
theorem rL{R:JM}{d:PD}(hk:(R.es.map (·.ky)).Nodup)(hd:d.Ok)(h:Nk (Wt R.es) <=R.sp):Nk (JD R d).1 <=R.sp:=by
 have f:Nk (WP (Wt R.es) d.key) <=R.sp:=Uq (Et YI) h;have c:((Wt R.es).map (·.1)).Nodup:=by rw[E9];exact hk
 unfold JD
 split
 .exact h
 .cases hs:Jb R.ru (Np R.es d.key) d with
  |str=>
   rcases FL hk (k:=d.key) with⟨_,z⟩|⟨e,he,ek,z⟩
   .rw[z]at hs;unfold Jb at hs;rw[Y2 (by rw[PZ hd];simp)]at hs
    split at hs
    .cases hs
    .split at hs <;> cases hs
   .show Nk (J6 (Wt R.es) d.key (Np R.es d.key) R.now) <=_;rw[z,<-ek,FW hk he];exact h
  |unl n=>exact f
  |keep rs=>
   show Nk (DT R d.key (J6 (Wt R.es) d.key rs R.now)).1 <=_;unfold DT;refine QC _ _ (XZ _) ?_ (.inl ?_) (by rw[m6];exact f)
   .rw[Sd]
    split
    .exact c
    .rename_i hn
     exact Ue.mpr ⟨c,by simp,fun a j b i z=>hn (by rw[<-Yg.mp i,<-z];exact j)⟩
   .rw[Sd]
    split
    .assumption
    .exact Yy _ (Yg.mpr rfl)
  |whole rs=>exact f
theorem E5{k:Ky}(h:k∈JL):Na k:=by
 obtain⟨i,hi,rfl⟩:=XF.mp h;have a:i < 7:=hi;have:=Zg i;have e:Dn (i:Int)=JL[i]:=by
  unfold Dn;rw[show((i:Int)%7).toNat=i by omega,X8,Y7 hi];rfl
 rw[e]at this;exact this
theorem Oc{es:List RE}(hn:(es.map (·.ky)).Nodup)(hk:∀x∈Wt es,x.1∈JL):es.length <=7:=by
 have h:∀ (ks a:List Ky),ks.Nodup->(∀k∈ks,k∈a)->ks.length <=a.length:=by
  intro ks
  induction ks with
  |nil=>intro a _ _;exact YF _
  |cons k r ih=>
   intro a hn b;obtain⟨h1,h2⟩:=YE.mp hn;have hk:=b k (.head _);have:=ih (a.erase k) h2 fun j d=>(List.mem_erase_of_ne (fun z=>h1 (by rw[<-z];exact d))).mpr (b j (.tail _ d))
   rw[List.length_erase_of_mem hk]at this;have i:0 < a.length:=U6.mpr fun z=>by rw[z]at hk;cases hk
   simp only[List.length_cons];omega
 have:=h _ JL hn fun k c=>by obtain⟨e,f,rfl⟩:=Y3.mp c;exact hk (e.ky,e.rs,e.first) (Y3.mpr ⟨e,f,rfl⟩)
 rw[Y1]at this;exact this
theorem KZ(R:JM)(t:Int):Wt (T8 R t).es=(Wt R.es).filter fun x=> !decide (x.2.2+ R.wt <=t):=by
 unfold Wt;rw[Xd];rfl
theorem mW(M:Tw)(t:Int):Wy (Mu M t).es=(Wy M.es).filter fun x=> !decide (x.2.2+ M.wt <=t):=by
 unfold Wy;rw[Xd];rfl
theorem gP(es:List RE)(k:Ky):Dk (Wt es) k=Np es k:=by
 unfold Dk Np Wt;rw[VT];show((Option.map _ (es.find? fun e=>decide (e.ky=k))).map _).getD _=_;cases es.find? fun e=>decide (e.ky=k) <;> rfl
structure Lk(R:JM)(M:Tw):Prop where
 ab:Wy M.es=Wt R.es
 ws:M.wh=R.ws
 ru:M.ru=R.ru
 wt:M.wt=R.wt
 sp:M.sp=R.sp
 out:M.out=R.out
 ag:M.ag=R.ag
theorem Lk.end{R:JM}{M:Tw}(h:Lk R M)(t:Int):Lk (T8 R t) (Mu M t):=
 ⟨by rw[KZ,mW,h.ab,h.wt],h.ws,h.ru,h.wt,h.sp,h.out,h.ag⟩
theorem Lk.over{R:JM}{M:Tw}(h:Lk R M)(t:Int):R4 M t=MY {R with now:=t}:=by
 have h1:R4 M t=((Wy M.es).filter fun x=>decide (x.2.2+ M.wt <=t)).map fun x=>(x.2.2,x.1):=by
  unfold Wy;rw[Xd,Yo];rfl
 have h2:MY {R with now:=t}=((Wt R.es).filter fun x=>decide (x.2.2+ R.wt <=t)).map fun x=>(x.2.2,x.1):=by
  unfold Wt;rw[Xd,Yo];rfl
 rw[h1,h2,h.ab,h.wt]
theorem Lk.out'{R:JM}{M:Tw}(h:Lk R M)(hk:(R.es.map (·.ky)).Nodup){d:PD}(hd:d.Ok):Rc M R.now d=JD R d:=by
 have a:Rs M R.now d.key=Bh R d.key:=by unfold Rs Bh;rw[h.ag,h.ws,h.wt] <;> rfl
 unfold Rc JD;rw[a,h.ab,h.ws,h.ru,gP]
 split
 .rfl
 .cases hs:Jb R.ru (Np R.es d.key) d with
  |str=>
   rcases FL hk (k:=d.key) with⟨_,z⟩|⟨e,he,ek,z⟩
   .rw[z]at hs;unfold Jb at hs;rw[Y2 (by rw[PZ hd];simp)]at hs
    split at hs
    .cases hs
    .split at hs <;> cases hs
   .show(_,_,_)=(J6 (Wt R.es) d.key (Np R.es d.key) R.now,_,_);rw[z,<-ek,FW hk he]
  |unl n=>rfl
  |keep rs=>
   have:∀xs,Bi M d.key xs=DT R d.key xs:=fun xs=>by unfold Bi DT;rw[h.out,h.sp]
   simp only[this]
  |whole rs=>rfl
def Kd(M:Tw)(m dh ds dd c:Wk):Prop:=c=m\/c=dh\/c=ds\/c=dd\/∃e∈M.es,c=e.h\/c=e.a
section
variable{C CR r dr df dw m dh ds dd:Wk}{H G:Hp}{R R':JM}{M:Tw}
theorem Ww.has{c:Wk}(h:Ww C CR H r dr df dw R)(hc:Rg R r dr df dw c):∃o,H c=some o:=by
 obtain⟨dx,fs,b,_⟩:=h.ex;rcases hc with rfl|rfl|rfl|rfl|⟨e,he,z⟩
 .exact⟨_,b⟩
 .exact⟨_,h.dR⟩
 .exact⟨_,h.dF⟩
 .exact⟨_,h.dW⟩
 .obtain⟨_,_,a,_⟩:=(h.rd e he).ex;rcases z with rfl|rfl
  .exact⟨_,a⟩
  .exact⟨_,(h.rd e he).dk⟩
theorem N7.has{c:Wk}(h:N7 H m dh ds dd M)(hc:Kd M m dh ds dd c):∃o,H c=some o:=by
 rcases hc with rfl|rfl|rfl|rfl|⟨e,he,z⟩
 .exact⟨_,h.mm⟩
 .exact⟨_,h.dH⟩
 .exact⟨_,h.dS⟩
 .exact⟨_,h.dD⟩
 .rcases z with rfl|rfl
  .exact⟨_,(h.hs e he).hd⟩
  .exact⟨_,(h.hs e he).bs⟩
def T5(R:JM)(r dr df dw:Wk)(M:Tw)(m dh ds dd:Wk):Prop:=∀c,Kd M m dh ds dd c->¬Rg R r dr df dw c
theorem T5.md{es':List ME}{wh':List (Ky×Int)}(h:T5 R r dr df dw M m dh ds dd)(hR:Ww C CR H r dr df dw R)(he:∀e∈es',e∈M.es\/(H e.h=none/\H e.a=none)):T5 R r dr df dw {M with es:=es',wh:=wh'} m dh ds dd:=by
 intro c f b;rcases f with z|z|z|z|⟨e,hm,z⟩
 .exact h c (.inl z) b
 .exact h c (.inr (.inl z)) b
 .exact h c (.inr (.inr (.inl z))) b
 .exact h c (.inr (.inr (.inr (.inl z)))) b
 .rcases he e hm with y|⟨y1,y2⟩
  .exact h c (.inr (.inr (.inr (.inr ⟨e,y,z⟩)))) b
  .obtain⟨o,d⟩:=hR.has b;rcases z with z|z
   .rw[z,y1]at d;cases d
   .rw[z,y2]at d;cases d
theorem T5.rm{R0:JM}{xs:List AE}{ws:List (Ky×Int)}(h:T5 R r dr df dw M m dh ds dd)(hM:N7 H m dh ds dd M)(e0:R0.es=R.es)(hN:TW C CR H G r dr df dw R0 R' xs ws):T5 R' r dr df dw M m dh ds dd:=by
 intro c a d;rcases d with z|z|z|z|⟨e,hm,z⟩
 .exact h c a (.inl z)
 .exact h c a (.inr (.inl z))
 .exact h c a (.inr (.inr (.inl z)))
 .exact h c a (.inr (.inr (.inr (.inl z))))
 .rcases hN.nw e hm with⟨e',he',y1,y2⟩|⟨y1,y2⟩
  .exact h c a (.inr (.inr (.inr (.inr ⟨e',e0▸he',by rw[<-y1,<-y2];exact z⟩))))
  .obtain⟨o,b⟩:=hM.has a;rcases z with z|z
   .rw[z,y1]at b;cases b
   .rw[z,y2]at b;cases b
theorem N7.fp(h:N7 H m dh ds dd M)(s:∀c o,H c=some o->Kd M m dh ds dd c->G c=some o):N7 G m dh ds dd M:=
 ⟨s _ _ h.mm (.inl rfl),s _ _ h.dH (.inr (.inl rfl)),s _ _ h.dS (.inr (.inr (.inl rfl))),s _ _ h.dD (.inr (.inr (.inr (.inl rfl)))),h.n1,h.n2,h.n3,fun e a=>⟨s _ _ (h.hs e a).hd (.inr (.inr (.inr (.inr ⟨e,a,.inl rfl⟩)))),s _ _ (h.hs e a).bs (.inr (.inr (.inr (.inr ⟨e,a,.inr rfl⟩)))),(h.hs e a).ne⟩,h.nk⟩
theorem N7.rk{R0:JM}(h:N7 H m dh ds dd M)(hA:T5 R r dr df dw M m dh ds dd)(e0:R0.es=R.es)(k:Me R0 r dr df dw H G):N7 G m dh ds dd M:=h.fp fun c o x a=>k c o x fun z=>hA c a (by unfold Rg at z ⊢;rw[e0]at z;exact z)
theorem Ww.kpM(h:Ww C CR H r dr df dw R)(hM:N7 H m dh ds dd M)(hA:T5 R r dr df dw M m dh ds dd)(k:MO dh ds dd H G):Ww C CR G r dr df dw R:=by
 have a:∀c o,H c=some o->Rg R r dr df dw c->G c=some o:=fun c o x b=>k c o x (fun z=>hA c (.inr (.inl z)) b) (fun z=>hA c (.inr (.inr (.inl z))) b) (fun z=>hA c (.inr (.inr (.inr (.inl z)))) b)
 obtain⟨dx,fs,s,r⟩:=h.ex;refine⟨⟨dx,fs,a _ _ s (.inl rfl),r⟩,a _ _ h.dR (.inr (.inl rfl)),a _ _ h.dF (.inr (.inr (.inl rfl))),a _ _ h.dW (.inr (.inr (.inr (.inl rfl)))),h.n1,h.n2,h.n3,fun e d=>?_,h.np,h.na,h.nk⟩;have r:=h.rd e d;obtain⟨j,i,p,n⟩:=r.ex;obtain⟨xs,f,b⟩:=r.cv;exact⟨⟨j,i,a _ _ p (.inr (.inr (.inr (.inr ⟨e,d,.inl rfl⟩)))),n⟩,a _ _ r.dk (.inr (.inr (.inr (.inr ⟨e,d,.inr rfl⟩)))),xs,hM.kp k f (fun _ z=>by cases z),b.tk fun t ys q=>hM.kp k q (fun _ z=>by cases z)⟩
structure Gs(C CR:Wk)(H:Hp)(r dr df dw m dh ds dd:Wk)(R:JM)(M:Tw)(n:Nat):Prop where
 rm:Ww C CR H r dr df dw R
 md:N7 H m dh ds dd M
 ap:T5 R r dr df dw M m dh ds dd
 lk:Lk R M
 tot:Nk (Wt R.es) <=R.sp
 ky:∀x∈Wt R.es,x.1∈JL
 wl:R.ws.length <=n
 sz:DK n (Wt R.es)
theorem Gs.mono{n:Nat}(s:Ws H G)(S:Gs C CR H r dr df dw m dh ds dd R M n):Gs C CR G r dr df dw m dh ds dd R M n:=⟨S.rm.mono s,S.md.mono s,S.ap,S.lk,S.tot,S.ky,S.wl,S.sz⟩
end
def Mg(H G:Hp):Prop:=∀c o,H c=some o->(∀C dx fs,o≠ .ins C dx fs)->(∀l,o≠ .dT l)->(∀l,o≠ .dK l)->(∀oo l,o≠ .frz oo (.dT l))->G c=some o
theorem Mg.of{H G:Hp}(s:Ws H G):Mg H G:=fun c o h _ _ _ _=>s c o h
section
variable{P:Wc}{w:Wh}{K:Wi}{mg:W8}{base:Wn}
theorem Rd.klt{H G:Hp}{a:Wk}{xs:List V}(k:Mg H G)(h:Rd H a (.lst xs)):Rd G a (.lst xs):=by
 rcases h with h|⟨o,h⟩
 .exact .inl (k _ _ h (fun _ _ _ z=>by cases z) (fun _ z=>by cases z) (fun _ z=>by cases z) (fun _ _ z=>by cases z))
 .exact .inr ⟨o,k _ _ h (fun _ _ _ z=>by cases z) (fun _ z=>by cases z) (fun _ z=>by cases z) (fun _ _ z=>by cases z)⟩
theorem Rd.kltT{H G:Hp}{a:Wk}{xs:List V}(k:Mg H G)(h:Rd H a (.tup xs)):Rd G a (.tup xs):=by
 rcases h with h|⟨o,h⟩
 .exact .inl (k _ _ h (fun _ _ _ z=>by cases z) (fun _ z=>by cases z) (fun _ z=>by cases z) (fun _ _ z=>by cases z))
 .exact .inr ⟨o,k _ _ h (fun _ _ _ z=>by cases z) (fun _ z=>by cases z) (fun _ z=>by cases z) (fun _ _ z=>by cases z)⟩
mutual
theorem Dp.klt{H G:Hp}(k:Mg H G):∀{x:V} {d:PyData},Dp K H x d->Dp K G x d
 |_,_,.non=>.non
 |_,_,.bl b=>.bl b
 |_,_,.int i=>.int i
 |_,_,.str x=>.str x
 |_,_,.lst h t=>.lst (h.imp (Rd.klt k) id) (WQ.klt k t)
 |_,_,.tup h t=>.tup (h.imp (Rd.kltT k) id) (WQ.klt k t)
theorem WQ.klt{H G:Hp}(k:Mg H G):∀{xs:List V} {ds:List PyData},WQ K H xs ds->WQ K G xs ds
 |_,_,.nil=>.nil
 |_,_,.cons h t=>.cons (Dp.klt k h) (WQ.klt k t)
end
theorem WQ.app{H:Hp}:∀{xs ys:List V} {ds es:List PyData},WQ K H xs ds->WQ K H ys es->WQ K H (xs++ys) (ds++es)
 |_,_,_,_,.nil,h=>h
 |_,_,_,_,.cons a t,h=>.cons a (WQ.app t h)
def MQ:Ev->Prop
 | .gone k w=>Na k/\(w="wait"\/w="unlike"\/w="room")
 | .late k=>Na k
 | .strange k=>Na k
 | .whole d=>Na (d.nu,d.z1,d.z2)
theorem bH{ev:Ev}(h:MQ ev):PyData.canLay0 (M0 ev)=true/\PyData.depth (M0 ev) <=8:=by
 have q:PyData.canLay0 (.str "gone")=true:=by decide +kernel
 have p:PyData.canLay0 (.str "late")=true:=by decide +kernel
 have j:PyData.canLay0 (.str "strange")=true:=by decide +kernel
 have i:PyData.canLay0 (.str "whole")=true:=by decide +kernel
 have f:PyData.canLay0 (.str "wait")=true:=by decide +kernel
 have e:PyData.canLay0 (.str "unlike")=true:=by decide +kernel
 have c:PyData.canLay0 (.str "room")=true:=by decide +kernel
 unfold PyData.canLay0 at q p j i f e c;cases ev with
 |gone k w=>
  obtain⟨h,s⟩:=h;rcases s with rfl|rfl|rfl <;> simp[M0,PyData.canLay0,PyData.canLayAll0,PyData.depth,PyData.depthAll,h.2.2.1.ok,h.2.2.2.ok,q,f,e,c]
 |late k=>simp[M0,PyData.canLay0,PyData.canLayAll0,PyData.depth,PyData.depthAll,h.2.2.1.ok,h.2.2.2.ok,p]
 |strange k=>simp[M0,PyData.canLay0,PyData.canLayAll0,PyData.depth,PyData.depthAll,h.2.2.1.ok,h.2.2.2.ok,j]
 |whole d=>
  have hi:∀ns:List Int,PyData.canLayAll0 (ns.map PyData.int)=true/\PyData.depthAll (ns.map PyData.int) <=2:=fun ns=>by
   induction ns with
   |nil=>exact⟨rfl,by simp[PyData.depthAll]⟩
   |cons n r ih=>
    refine⟨by simp[PyData.canLayAll0,PyData.canLay0,ih.1],?_⟩;have:=ih.2;simp[PyData.depthAll,PyData.depth];omega
  obtain⟨a,b⟩:=hi d.ns;have h1:=h.2.2.1.ok;have h2:=h.2.2.2.ok;refine⟨by simp[M0,PyData.canLay0,PyData.canLayAll0,h1,h2,i,a],?_⟩;simp[M0,PyData.depth,PyData.depthAll];omega
theorem Sm{evs:List Ev}(h:∀ev∈evs,MQ ev):SeqAt.shaped (.list (evs.map M0))=true:=by
 have h1:∀c:List Ev,(∀k∈c,MQ k)->PyData.canLayAll0 (c.map M0)=true/\PyData.depthAll (c.map M0) <=9:=fun c=>by
  induction c with
  |nil=>exact fun _=>⟨rfl,by simp[PyData.depthAll]⟩
  |cons p r ih=>
   intro d;obtain⟨a,b⟩:=ih fun k e=>d k (.tail _ e)
   obtain⟨f,i⟩:=bH (d p (.head _));refine⟨by simp[PyData.canLayAll0,a,f],?_⟩;simp[PyData.depthAll];omega
 obtain⟨a,b⟩:=h1 evs h;simp[SeqAt.shaped,PyData.canLay0,a,PyData.depth];omega
theorem jA(ev:Ev):PyData.eqv (M0 ev) (M0 ev)=true:=by
 cases ev with
 |gone k w=>simp[M0,PyData.eqv,PyData.eqvAll]
 |late k=>simp[M0,PyData.eqv,PyData.eqvAll]
 |strange k=>simp[M0,PyData.eqv,PyData.eqvAll]
 |whole d=>
  have h:PyData.eqv (.list (d.ns.map PyData.int)) (.list (d.ns.map PyData.int))=true:=Qm _;simp[M0,PyData.eqv,PyData.eqvAll]at h ⊢;exact h
theorem d9(evs:List Ev):PyData.eqv (.list (evs.map M0)) (.list (evs.map M0))=true:=by
 have h:∀c:List Ev,PyData.eqvAll (c.map M0) (c.map M0)=true:=fun c=>by
  induction c with
  |nil=>simp[PyData.eqvAll]
  |cons p r ih=>
   show(PyData.eqv (M0 p) (M0 p) && PyData.eqvAll (r.map M0) (r.map M0))=true;rw[jA,ih];rfl
 exact h evs
end
section
variable{P:Wc}{w:Wh}{K:Wi}{mg:W8}{base:Wn}
inductive Sx(C:Wk)(vs:List V)(H:Hp)(Q:VK)(E:XK):Prop|mk (ru out ag:Str) (wt sp:Int) (_:vs=[.str ru,.int wt,.int sp,.str out,.str ag]) (_:(ru="first"\/ru="last"\/ru="refuse")) (_:1 <=wt) (_:1 <=sp) (_:(out="oldest"\/out="widest"\/out="own")) (_:(ag="fresh"\/ag="rest")) (_:∀m dr df dw G,Ws H G->H m=none->H dr=none->H df=none->H dw=none->(∀CR,Ww C CR G m dr df dw ⟨ru,wt,sp,out,ag,0,[],[]⟩)->Q (.ref m) G)
theorem yC{C:Wk}(F:Gv P w K mg base "Room" C 3 ["self","rule","wait","space","out","again"] [] (Ol C)):Gw P w K mg base "Room" 3 (Sx C):=by
 refine F.ct fun vs H Q h y dx G a aa hn s i=>?_
 obtain⟨ru,out,x,d,sp,rfl,h1,h2,p,n,j,q⟩:=h;exact⟨y,dx,ru,out,x,d,sp,rfl,i,h1,h2,p,n,j,fun dr df dw z v u r b f=>⟨rfl,q y dr df dw z (fun c o e=>b c o (s c o e) (N0 e a)) a (s.free v) (s.free u) (s.free r) f⟩⟩
def Ry(G:Hp)(bs:List Addr):Prop:=∀b∈bs,∃ns:List Int,G b=some (.lst (ns.map V.int))/\1 <=ns.length/\ns.length <=40/\∀x∈ns,0 <=x/\x <=255
def KL(H G:Hp):Prop:=∀c xs,H c=some (.lst xs)->G c=some (.lst xs)
theorem KL.of{H G:Hp}(s:Ws H G):KL H G:=fun c _ h=>s c _ h
theorem KL.trans{H G J:Hp}(a:KL H G)(b:KL G J):KL H J:=fun c xs h=>b c xs (a c xs h)
theorem Ry.kl{G J:Hp}{bs:List Addr}(h:Ry G bs)(k:KL G J):Ry J bs:=fun b c=>by obtain⟨a,h1,h2⟩:=h b c;exact⟨a,k _ _ h1,h2⟩
theorem tJ{a b:Int×Ky}(h1:J5 b a=false)(h2:J5 a b=false):a=b:=by
 have d:¬J5 b a=true:=by rw[h1];exact Yi
 have c:¬J5 a b=true:=by rw[h2];exact Yi
 rw[NR]at d c;have e:a.1=b.1:=by
  have j:=fun z=>d (.inl z)
  have i:=fun z=>c (.inl z)
  omega
 have h:TQ b.2 a.2=false:=YY.mpr fun z=>d (.inr ⟨e.symm,z⟩)
 have f:TQ a.2 b.2=false:=YY.mpr fun z=>c (.inr ⟨e,z⟩)
 exact Ud e (F7 f h)
theorem OG{ks js:List (Int×Ky)}(h1:ks.Pairwise fun a b=>J5 b a=false)(h2:js.Pairwise fun a b=>J5 b a=false)(h:ks.Perm js):ks=js:=
 VA (le:=fun a b=>J5 b a=false) (fun a b _ _ x y=>tJ x y) h1 h2 h
theorem S4{C CR r dr df dw:Wk}{H G:Hp}{R R0:JM}(h:Ww C CR H r dr df dw R)(e0:R0.es=R.es)(k:Me R0 r dr df dw H G):Mg H G:=fun c o a d b f _=>k c o a fun z=>by
 obtain⟨dx,fs,j,_⟩:=h.ex;rcases z with z|z|z|z|⟨e,he,z⟩
 .rw[z,j]at a;cases a;exact d _ _ _ rfl
 .rw[z,h.dR]at a;cases a;exact b _ rfl
 .rw[z,h.dF]at a;cases a;exact b _ rfl
 .rw[z,h.dW]at a;cases a;exact b _ rfl
 .rw[e0]at he;have r:=h.rd e he;obtain⟨_,_,i,_⟩:=r.ex;rcases z with z|z
  .rw[z,i]at a;cases a;exact d _ _ _ rfl
  .rw[z,r.dk]at a;cases a;exact f _ rfl
theorem dX{m dh ds dd:Wk}{H G:Hp}{M:Tw}(h:N7 H m dh ds dd M)(k:MO dh ds dd H G):Mg H G:=fun _ _ b _ a _ _=>h.kp k b a
theorem Mg.l{H G:Hp}(k:Mg H G){c:Wk}{xs:List V}(h:H c=some (.lst xs)):G c=some (.lst xs):=k _ _ h (fun _ _ _ z=>by cases z) (fun _ z=>by cases z) (fun _ z=>by cases z) (fun _ _ z=>by cases z)
theorem Mg.t{H G:Hp}(k:Mg H G){c:Wk}{xs:List V}(h:H c=some (.tup xs)):G c=some (.tup xs):=k _ _ h (fun _ _ _ z=>by cases z) (fun _ z=>by cases z) (fun _ z=>by cases z) (fun _ _ z=>by cases z)
theorem WQ.len{H:Hp}:∀{xs:List V} {ds:List PyData},WQ K H xs ds->xs.length=ds.length
 |_,_,.nil=>rfl
 |_,_,.cons _ t=>YU (· + 1) (WQ.len t)
theorem Ek.klt{H G:Hp}(k:Mg H G){l:Wk}{evs:List Ev}(h:Ek K H l evs):Ek K G l evs:=by
 obtain⟨xs,e,d⟩:=h;exact⟨xs,k.l e,WQ.klt k d⟩
theorem GX.mono{CL:Wk}{H G:Hp}{v:V}{ev:Ev}(h:GX CL H v ev)(s:Ws H G):GX CL G v ev:=by
 cases ev with
 |gone k w=>obtain⟨t,tk,h1,h2,a⟩:=h;exact⟨t,tk,h1,s _ _ h2,s _ _ a⟩
 |late k=>obtain⟨t,tk,h1,h2,a⟩:=h;exact⟨t,tk,h1,s _ _ h2,s _ _ a⟩
 |strange k=>obtain⟨t,tk,h1,h2,a⟩:=h;exact⟨t,tk,h1,s _ _ h2,s _ _ a⟩
 |whole d=>obtain⟨t,b,c,h1,h2,a⟩:=h;exact⟨t,b,c,h1,s _ _ h2,a.mono s⟩
theorem dY{CL:Wk}{H G:Hp}{l:Wk}{ps:List (Int×Ky)}(h:F8 CL G l (Jw ps)):GS CL H G l (Jw ps):=by
 obtain⟨xs,e,h1,h2⟩:=h;refine⟨xs,e,h1,fun j x y a b=>?_⟩;have c:=h2 j x y a b;unfold Jw at b;rw[Y9]at b;obtain⟨p,_,rfl⟩:=Yn.mp b;exact c
theorem Qr{R:JM}{t:Int}{ps:List (Int×Ky)}(hp:ps.Perm (MY {R with now:=t}))(hk:∀x∈Wt R.es,x.1∈JL):∀ev∈Jw ps,MQ ev/\CM ev:=fun ev c=>by
 obtain⟨p,b,rfl⟩:=Y3.mp c;obtain⟨e,a,rfl⟩:=Y3.mp (hp.mem_iff.mp b);exact⟨⟨E5 (hk (e.ky,e.rs,e.first) (Y3.mpr ⟨e,(Ym.mp a).1,rfl⟩)),.inl rfl⟩,trivial⟩
theorem vW(out:Str)(sp:Int)(own:Ky)(xs:List AE):Mo out sp own xs=own\/Mo out sp own xs∈xs.map (·.1):=by
 unfold Mo
 split
 .exact .inl rfl
 .cases hp:TV out own xs with
  |nil=>exact .inl rfl
  |cons x r=>
   refine .inr ?_;obtain⟨h1,_⟩:=BO r x;have h2:(r.foldl (fun a b=>if J5 b a=true then b else a) x)∈TV out own xs:=by rw[hp];exact h1
   obtain⟨y,c,e⟩:=Y3.mp h2;show(r.foldl (fun a b=>if J5 b a=true then b else a) x).2∈_;rw[<-e];exact Y3.mpr ⟨y,(Ym.mp c).1,rfl⟩
theorem OV{out:Str}{sp:Int}{own:Ky}{ks:List Ky}(ho:own∈ks):∀ (n:Nat) (xs:List AE),(∀x∈xs,x.1∈ks)->∀k∈(WL out sp own n xs).2,k∈ks
 |0,xs,h,k,hk=>by exact nomatch hk
 |n+ 1,xs,h,k,hk=>by
  unfold WL at hk
  split at hk
  .exact nomatch hk
  .rcases Yl.mp hk with z|z
   .rcases vW out sp own xs with y|y
    .rw[z,y];exact ho
    .obtain⟨x,hx,e⟩:=Y3.mp y;rw[z,<-e];exact h x hx
   .exact OV ho n _ (fun x hx=>h x (Ym.mp hx).1) k z
theorem gQ{R:JM}{d:PD}{ks:List Ky}{k:Ky}{w:Str}(h:∀x∈Wt R.es,x.1∈ks)(hd:d.key∈ks)(hg:Ev.gone k w∈(JD R d).2.2):k∈ks:=by
 unfold JD at hg
 split at hg
 .simp at hg
 .split at hg
  .simp at hg
  .have hg:Ev.gone k w∈[Ev.gone d.key "unlike"]:=hg;have:=Yg.mp hg;injection this with e _;rw[e];exact hd
  .rename_i rs _
   obtain⟨j,b,e⟩:=Y3.mp hg;injection e with e _;rw[<-e];unfold DT at b;refine OV hd _ _ (fun x a=>?_) j b;unfold J6 at a
   split at a
   .obtain⟨y,c,rfl⟩:=Y3.mp a
    split
    .exact hd
    .exact h y c
   .rcases YB.mp a with z|z
    .exact h x z
    .rw[Yg.mp z];exact hd
  .simp at hg
theorem mH{R:JM}{d:PD}(h:∀x∈Wt R.es,x.1∈JL)(hd:d.key∈JL):∀ev∈(JD R d).2.2,MQ ev/\CM ev:=fun ev a=>by
 have b:=fun k w (z:Ev.gone k w∈(JD R d).2.2)=>E5 (gQ h hd z)
 cases ev with
 |gone k w=>
  refine⟨⟨b k w a,?_⟩,trivial⟩;unfold JD at a
  split at a
  .simp at a
  .split at a
   .simp at a
   .have:=Yg.mp (show Ev.gone k w∈[Ev.gone d.key "unlike"] from a);injection this with _ e;exact .inr (.inl e)
   .obtain⟨j,_,e⟩:=Y3.mp a;injection e with _ e;exact .inr (.inr e.symm)
   .simp at a
 |late k=>
  refine⟨?_,trivial⟩;unfold JD at a
  split at a
  .have:=Yg.mp (show Ev.late k∈[Ev.late d.key] from a);injection this with e;exact e▸E5 hd
  .split at a
   .simp at a
   .simp at a
   .obtain⟨j,_,e⟩:=Y3.mp a;cases e
   .simp at a
 |strange k=>
  refine⟨?_,trivial⟩;unfold JD at a
  split at a
  .simp at a
  .split at a
   .have:=Yg.mp (show Ev.strange k∈[Ev.strange d.key] from a);injection this with e;exact e▸E5 hd
   .simp at a
   .obtain⟨j,_,e⟩:=Y3.mp a;cases e
   .simp at a
 |whole l=>
  unfold JD at a
  split at a
  .simp at a
  .split at a
   .simp at a
   .simp at a
   .obtain⟨j,_,e⟩:=Y3.mp a;cases e
   .rename_i rs _
    have:=Yg.mp (show Ev.whole l∈[Ev.whole ⟨d.nu,d.z1,d.z2,JU rs,false⟩] from a);injection this with e;rw[e];exact⟨E5 hd,rfl⟩
theorem jD{C p:Wk}{H:Hp}{v1 v2 v3 v4 v5:V}(L:GW K C)(h:Nz C H p v1 v2 v3 v4 v5):Nb K H (.ref p) "body" v4:=by
 obtain⟨dx,fs,a,f,e,d,b,c,_⟩:=h;exact⟨p,C,dx,fs,rfl,a,L.cl,L.body,b⟩
theorem PF(ns:Wl)(e:Int):SeqAt.shaped (.tuple [.list (ns.map PyData.int),.int e])=true:=by
 have hi:∀ns:List Int,PyData.canLayAll0 (ns.map PyData.int)=true/\PyData.depthAll (ns.map PyData.int) <=2:=fun ns=>by
  induction ns with
  |nil=>exact⟨rfl,by simp[PyData.depthAll]⟩
  |cons n r ih=>
   refine⟨by simp[PyData.canLayAll0,PyData.canLay0,ih.1],?_⟩;have:=ih.2;simp[PyData.depthAll,PyData.depth];omega
 obtain⟨a,b⟩:=hi ns;simp[SeqAt.shaped,PyData.canLay0,PyData.canLayAll0,PyData.depth,PyData.depthAll,a];omega
theorem tK(ns:Wl)(e:Int):PyData.eqv (.tuple [.list (ns.map PyData.int),.int e]) (.tuple [.list (ns.map PyData.int),.int e])=true:=by
 have h:PyData.eqv (.list (ns.map PyData.int)) (.list (ns.map PyData.int))=true:=Qm _;simp[PyData.eqv,PyData.eqvAll]at h ⊢;exact h
theorem Pt{ru out ag:Str}{wt sp:Int}(h1:PyData.canLay0 (.str ru)=true)(h2:PyData.canLay0 (.str out)=true)(h3:PyData.canLay0 (.str ag)=true):SeqAt.shaped (.list [.str ru,.int wt,.int sp,.str out,.str ag])=true:=by
 unfold PyData.canLay0 at h1 h2 h3;simp[SeqAt.shaped,PyData.canLay0,PyData.canLayAll0,PyData.depth,PyData.depthAll,h1,h2,h3]
theorem jQ{ru out ag:Str}{wt sp:Int}:PyData.eqv (.list [.str ru,.int wt,.int sp,.str out,.str ag]) (.list [.str ru,.int wt,.int sp,.str out,.str ag])=true:=by simp[PyData.eqv,PyData.eqvAll]
abbrev Rl:Stmt:=top 68
theorem MD:Jx ["_law_script","_law_digits_here","_law_m","_law_room","_law_bodies","_law_time_here","_law_cell","_law_fields","_law_numbers","_law_due","_law_event","_law_found","_law_more","_law_key_here","_law_at","_law_body_here","_law_uncut","_law_piece_here"] ["_law_script"] (Wp Rl):=by walk_at"e"
theorem eN{f C CR CP CL:Wk}{fd:Wf}(F:JE K "law" "law" Rl f fd)(B:Bt mg)(B2:GO mg)(L:M8 K C)(LP:Gm K CP)(LL:GW K CL)(Tc:N6 P w K mg base "_law_cell_at" 1 ["_law_script","_law_k"] [] (IQ K))(TU:N6 P w K mg base "_law_digits" 2 ["_law_cell","_law_many"] [] Q9)(M2:N6 P w K mg base "_law_body" 2 ["_law_cell","_law_k"] [] PQ)(Tq:N6 P w K mg base "_law_piece" 2 ["_law_bodies","_law_digits_here"] [] Qe)
  (Tz:N6 P w K mg base "_law_model" 1 ["_law_digits_here"] [] Z2) (M1:N6 P w K mg base "_law_time" 1 ["_law_m","_law_time_here","_law_digit"] [] Pq) (Ts:N6 P w K mg base "_law_ended" 2 ["_law_m","_law_time_here"] [] Oi) (Mb:N6 P w K mg base "_law_came" 3 ["_law_m","_law_time_here","_law_piece_here"] [] (HQ K)) (TB:N6 P w K mg base "_law_plain" 2 ["_law_event"] [] (FT K CL)) (Tu:N6 P w K mg base "_law_asked" 7 ["_law_room","_law_m"] [] (IG C CR))
  (Ea:Gw P w K mg base "Room" 3 (Sx C)) (Gr:Fb P w K mg base "Piece" "keep" 6 (KD CP)) (J0:Nv P w K mg base CP "end" 1 ["self"] [] (AS CP)) (T9:Nv P w K mg base C "tick" 4 ["self","time"] [] (Lg C CR CL)) (T4:Nv P w K mg base C "come" 9 ["self","time","piece"] [] (KA C CR CP CL)):Wz P w K mg base Jf 11 f fd ["_law_script"] (AG K):=by
 refine F.ok MD (fun vs H Q E h=>?_) (fun cdv A outer s H vs Q E u h=>?_)
 .obtain⟨a,ns,rfl,_⟩:=h;rfl
 .obtain⟨a,ns,rfl,hs,hl63,q⟩:=h;refine⟨_,(WB (JP 1 MD (JT TU u.m rfl (MG (JT Tc u.m rfl (Wx 0 (NI WE Wu))) (NI WE Wu)))) (WB (JP 2 MD (JT Tz u.m rfl (Wx 1 Wu))) (WB (JP 3 MD (B0 Ea u.m rfl (NT (Jt u (Wq 2) WK) (NT (Jt u (Wq 2) WK) (NT (Jt u (Wq 2) WK) (NT (Jt u (Wq 2) WK) (NT (Jt u (Wq 2) WK) Wu))))))) (WB (CC (i:=4) (N':=["_law_k","_law_script"]) (caps:=[none,some 0]) (MR (sc:=Wp Rl) (N:=["_law_script","_law_digits_here","_law_m","_law_room","_law_bodies","_law_time_here","_law_cell","_law_fields","_law_numbers","_law_due","_law_event","_law_found","_law_more","_law_key_here","_law_at","_law_body_here","_law_uncut","_law_piece_here"]) rfl rfl (by decide +kernel)) rfl (MD).nd rfl (Or.inl rfl) (Ef rfl B.range (J7 (hs:=Dm) (J9 (Jy NW) WE (J9 (dI Th) (J9 (dI Bo) (Mm K (Wq 1) WE) WE) WE)) Wu)) (fun _ _ _ _ _=>(Ms (i:=0) (MB (N:=["_law_k","_law_script"]) rfl (by decide +kernel)) rfl (Or.inl rfl))) (fun _ _ _ _ _=>DC) (fun _ _ _ _ _=>(JT M2 u.m rfl (MG (JT Tc u.m rfl (Wx 1 (NI WE Wu))) (Wx 0 Wu)))) rfl) (WB (JP 5 MD (J9 (dI Rw) (J9 (dI Bo) (J9 (dI Th) (J9 (dI Bo) (Mm K (Wq 1) WE) WE) WE) WE) (J9 (Jy NW) (J9 (dI OC) WE WE) (Mm K (Wq 1) WE)))) (WB (JJ (JA (RC Rz) (Jv K (Wq 3)) WE) (WH (Jd Re)) JV) (WB (GT YT rfl (GE (K:=K) rfl (Qk (PN (PH (K:=K) rfl)) (Wq 0) (C4 WE) (C4 WE))) (Tg 6 MD) (WB (JP 8 MD (JT TU u.m rfl (Wx 6 (NI WE Wu)))) (WB (JP 5 MD (JT M1 u.m rfl (Wx 2 (Wx 5 (NT (Mm K (Wq 8) WE) Wu))))) (WB (JP 9 MD (JT Ts u.m rfl (Wx 2 (Wx 5 Wu)))) (WB (DE (JJ (JA (TJ TH) (J9 (dI Th) (J9 (dI Bo) (Mm K (Wq 8) WE) WE) WE) WE) (WB (JP 11 MD (MK (Wq 3) T9 u.m (Wx 5 Wu))) (WH (JP 12 MD Mf))) (WB (EB (JT Tq u.m rfl (Wx 4 (Wx 8 Wu))) (GM (K:=K) (n:=4) rfl rfl (TL (Tg 13 MD) (TL (Tg 14 MD) (TL (Tg 15 MD) (TL (Tg 12 MD) GV)))))) (WB (JP 9 MD (J9 (Bs Eo) (Wq 9) (JT Mb u.m rfl (Wx 2 (Wx 5 (J7 (hs:=Mh) (NO (Wx 13 (Wx 14 (Wx 15 (Wx 12 Wu))))) Wu)))))) (WB (JP 16 MD (Mp (TJ TH) (J9 (dI Th) (J9 (dI Bo) (Mm K (Wq 8) WE) WE) WE) WE (MI _))) (WB (JP 17 MD (rQ Gr u.m rfl (NT (Mz K (Wq 13) WE) (NT (Mz K (Wq 13) WE) (NT (Mz K (Wq 13) WE) (Wx 14 (Wx 15 (Wx 12 Wu)))))) (Wq 16))) (WH (JP 11 MD (MK (Wq 3) T4 u.m (Wx 5 (Wx 17 Wu))))))))))) (WB (JJ (PW.pt (Dh (MA (Tx (N4 (R6 "list") B.isinstance (Wx 11 (J7 (hs:=Dl) (R5 (v:=.ty "list") rfl B.blist (by rfl) rfl) Wu))))) (DH (JA (RO (K:=K) (Room.units u) rfl) (Di (N':=["_law_event"]) (caps:=[none]) (MR (sc:=Wp Rl) (N:=["_law_script","_law_digits_here","_law_m","_law_room","_law_bodies","_law_time_here","_law_cell","_law_fields","_law_numbers","_law_due","_law_event","_law_found","_law_more","_law_key_here","_law_at","_law_body_here","_law_uncut","_law_piece_here"]) rfl rfl (by decide +kernel)) rfl (GE (K:=K) rfl (Wq 11)) (fun _ _ _ _ _=>(Ms (i:=0) (MB (N:=["_law_event"]) rfl (by decide +kernel)) rfl (Or.inl rfl))) (fun _ _ _ _ _=>DC) (fun _ _ _ _ _=>(JT TB u.m rfl (Wx 0 Wu)))) (Wq 9))))) (WH (Jd Re)) JV) (WB (JJ (PW.pt (Dh (MA (Tx (JT Tu u.m rfl (Wx 3 (Wx 2 Wu))))) (DH (JA (RC Rz) (Jv K (Wq 3)) (Wq 5))))) (WH (Jd Re)) JV) (WB (GT YT rfl (GE (K:=K) rfl (Wq 11)) (Tg 10 MD) (WH (JJ (JA (TJ TH) (Mz K (Wq 10) WE) WK) (WH (Ta (Md (K:=K) rfl Yr Yu Yv (Dc Da) (Jv K (Mz K (Wq 10) WE)) (NI WE Wu)))) JV))) (WB (JJ (PW.pt (D3 (JA Bb (Wq 12) Mf) (DD (JA (RO (K:=K) (Room.units u) rfl) (NO (TF (Jv K (Wq 17)) (MG (Mq (Wq 17) J0 u.m) Wu))) (NO (Wx 15 (J7 (hs:=Dm) (J9 (Jy NW) (Wq 14) (N4 (MX (MV (K:=K) rfl)) B.len (Wx 15 Wu))) Wu))))))) (WH (Jd Re)) JV) (WH (Ta (Md (K:=K) rfl Yr Yu Yv (Dc Da) (Wq 11) (NI WK Wu))))))))))))) (WB (JP 7 MD (Te (TF (Jv K (Wq 3)) (TF (Jv K (Wq 3)) (TF (Jv K (Wq 3)) (TF (Jv K (Wq 3)) (TF (Jv K (Wq 3)) Wu))))))) (WH (Jd (Mp (LJ (K:=K) (Room.units u) rfl) (Wq 7) (Te (NT (Jt u (Wq 2) WK) (NT (Jt u (Wq 2) WK) (NT (Jt u (Wq 2) WK) (NT (Jt u (Wq 2) WK) (NT (Jt u (Wq 2) WK) Wu)))))) (MI _)))))))))))),?_⟩;have sq:∀{G:Hp},Ws H G->WA K G a (ns.map V.int):=fun {G} s=>by
   rcases hs with(h|⟨o,h⟩)|h
   .exact .inl (.inl (s _ _ h))
   .exact .inl (.inr ⟨o,s _ _ h⟩)
   .exact .inr h
  refine WX fun N p=>?_
  walk_at"rd";refine⟨a,ns,0,rfl,hs,fun c0=>⟨c0,6,rfl,by decide,fun lg xs G1 hlg s1 e1 hxl hx=>p _ _ ?_⟩⟩;clear p N;have hat:∀i:Nat,i < 6->∃x,Mn (xs.map V.int) (i:Int)=some (.int x)/\0 <=x/\x < 5040:=fun i hi=>by
   have h:i < xs.length:=by omega
   exact⟨xs[i],Gk (by rw[Y9,Y7 h];rfl),hx _ (Xk h)⟩
  obtain⟨x4,a4,b4,c4⟩:=hat 4 (by omega);obtain⟨x5,a5,b5,c5⟩:=hat 5 (by omega);clear hat;refine WX fun N p=>?_
  walk_at"rd";refine⟨lg,xs,rfl,e1,hxl,hx,fun ru out ag wt sp m dh ds dd G2 hru hout hag hwt hsp hm0 _ _ _ s2 hM2=>p _ _ ?_⟩;clear p N;refine WX fun N p=>?_
  walk_at"rd";refine⟨_,hM2.g rfl,_,hM2.g rfl,_,hM2.g rfl,_,hM2.g rfl,_,hM2.g rfl,ru,out,ag,wt,sp,rfl,hru,hwt,hsp,hout,hag,fun r dr df dw G3 s3 fr fdr fdf fdw hR3=>p _ _ ?_⟩;clear p N;have hR3:=hR3 CR;have hM3:=hM2.mono s3;have hap:T5 ⟨ru,wt,sp,out,ag,0,[],[]⟩ r dr df dw ⟨ru,wt,sp,out,ag,[],[]⟩ m dh ds dd:=fun c hc u=>by
   obtain⟨o,ho⟩:=hM2.has hc;rcases u with z|z|z|z|⟨e,he,_⟩
   .rw[z,fr]at ho;cases ho
   .rw[z,fdr]at ho;cases ho
   .rw[z,fdf]at ho;cases ho
   .rw[z,fdw]at ho;cases ho
   .exact nomatch he
  have S3:Gs C CR G3 r dr df dw m dh ds dd ⟨ru,wt,sp,out,ag,0,[],[]⟩ ⟨ru,wt,sp,out,ag,[],[]⟩ 0:=⟨hR3,hM3,hap,⟨rfl,rfl,rfl,rfl,rfl,rfl,rfl⟩,by show(0:Int) <=sp;omega,(fun _ h=>nomatch h),Y6 _,(fun _ h=>nomatch h)⟩;have e13:=s3 _ _ (s2 _ _ e1);have s13:=s1.trans (s2.trans s3);clear hR3 hM3 hap hM2 fr fdr fdf fdw s1 s2 s3 e1 hm0;obtain⟨nb,enb⟩:∃nb:Nat,nb=(1+ x5 / 2%7).toNat:=⟨_,rfl⟩;have hnb:1 <=nb/\nb <=7:=by omega
  refine WX fun N p=>?_
  walk_at"rd";refine⟨_,WA.of e13,_,a5,_,rfl,⟨by decide,by decide⟩,by decide,by omega,by omega,?_⟩;rw[<-enb];obtain⟨Pv,ePv⟩:∃Pv:Nat->List V->L2.St->Hp->Prop,Pv=fun i ys σ' G=>∃ (v:Option V) (bs:List Addr),ys=bs.map V.ref/\bs.length=i/\σ'=[v,some (.ref a)]/\Ws G3 G/\Ry G bs:=⟨_,rfl⟩
  refine Cs Pv (by rw[ePv];exact⟨_,[],rfl,rfl,rfl,Ws.refl _,fun b hb=>nomatch hb⟩) ?_ (Jc (by omega)) ?_ ?_ <;> rw[ePv]
  .rintro i ys σ' G ⟨v,bs,rfl,hl,_⟩ _;rw[Y1];omega
  .rintro i ys σ' G hi ⟨v,bs,rfl,hl,rfl,sG,hb⟩;rw[<-ePv];walk_at"rd";refine⟨a,ns,1,rfl,sq (s13.trans sG),fun c1=>⟨c1,_,rfl,by omega,by omega,fun l ms G2 hl2 s2 e2 h1 h2 h3=>?_⟩⟩;rw[ePv];refine⟨_,bs++[l],by rw[Yf];rfl,by simp[hl],rfl,sG.trans s2,fun b hb'=>?_⟩;rcases YB.mp hb' with z|z
   .exact(hb.kl (KL.of s2)) b z
   .rw[Yg.mp z];exact⟨ms,e2,h1,h2,h3⟩
  rintro ys σ' G ⟨v,bs,rfl,hbl,rfl,sG,hb⟩ lb G7 hlb s7 e7;refine p _ _ ?_;clear p N ePv Pv;have sG7:=sG.trans s7;have s17:=s13.trans sG7;have S7:=S3.mono sG7;have hb7:=hb.kl (KL.of s7);have e17:=sG7 _ _ e13;clear hb sG s7 hlb s13 S3 e13 sG7;refine WX fun N p=>?_
  walk_at"rd";refine⟨_,WA.of e17,_,a5,_,rfl,⟨by decide,by decide⟩,by decide,⟨by decide,by decide⟩,⟨by decide,by decide⟩,_,WA.of e17,_,a4,_,rfl,?_,p _ _ ?_⟩
  .exact .inl ⟨by omega,by omega⟩
  clear p N;obtain⟨t0,et0⟩:∃t0:Int,t0=x5 / 14%4 / 3*(10 ^ Int.toNat 19+ x4):=⟨_,rfl⟩;have ht0:0 <=t0:=by rw[et0];exact Int.mul_nonneg (by omega) (Int.add_nonneg (by decide) b4)
  rw[<-et0];clear et0;refine WX fun N p=>?_
  walk_at"rd";refine⟨_,EJ L S7.rm,rfl,?_⟩;rw[Y2 (by simp)];refine p _ _ ?_;clear p N;refine WX fun N1 hN1=>?_
  walk_at"rd";refine⟨_,sq s17,fun lc Gc hlc sc ec=>⟨⟨_,WA.of ec⟩,?_⟩⟩;have hcl:(DY (ns.map V.int) (some 2) (some 42)).length <=40:=by
   show(DY (ns.map V.int) (some ((2:Nat):Int)) (some ((42:Nat):Int))).length <=40;unfold DY;rw[HT.sIx_nat,HT.sIx_nat,Yt,UZ];omega
  obtain⟨cs,hcs,_⟩:=eT ns (some 2) (some 42);rw[hcs]at ec;rw[hcs,Y1]at hcl;have Sc:=S7.mono sc;have hbc:=hb7.kl (KL.of sc);have elb:=sc _ _ e7;obtain⟨Pv,ePv⟩:∃Pv:Nat->L2.St->Hp->Prop,Pv=fun i σ' G=>∃ (v6 v7 v8 v9 v10 v11 v12 v13 v14 v15 v16 v17:Option V) (time:Int) (R:JM) (M:Tw),σ'=[some (.ref a),some (.ref lg),some (.ref m),some (.ref r),some (.ref lb),some (.int time),v6,v7,v8,v9,v10,v11,v12,v13,v14,v15,v16,v17]/\Gs C CR G r dr df dw m dh ds dd R M i/\R.now <=time/\KL Gc G/\R.ru=ru/\R.out=out/\R.ag=ag:=⟨_,rfl⟩
  refine Bw (xs:=cs.map V.int) Pv (by rw[ePv];exact⟨_,_,_,_,_,_,_,_,_,_,_,_,t0,_,_,rfl,Sc,ht0,KL.of (Ws.refl _),rfl,rfl,rfl⟩) ?_ ?_ ?_ <;> rw[ePv]
  .rintro i σ' G _ ⟨_,_,_,_,_,_,_,_,_,_,_,_,_,_,_,rfl,_,_,kc,_⟩;exact WA.of (kc _ _ ec)
  .rintro i x σ' G' hxc ⟨v6,v7,v8,v9,v10,v11,v12,v13,v14,v15,v16,v17,time,R,M,rfl,S,hnow,kc,eru,eout,eag⟩;rw[<-ePv];clear hN1;rw[Y9]at hxc;obtain⟨c,hc,rfl⟩:=Yn.mp hxc;have hi40:i < 40:=by have:=(Yq.mp hc).1;omega
   simp only[Go,List.set_cons_succ,List.set_cons_zero];refine WX fun N p=>?_
   walk_at"rd";refine⟨c,7,rfl,by decide,fun ln ys G1 hln s1 e1 hyl hy=>p _ _ ?_⟩;clear p N;obtain⟨y6,ay,by0,by1⟩:∃y6,Mn (ys.map V.int) 6=some (.int y6)/\0 <=y6/\y6 < 5040:=by
    have h:6 < ys.length:=by omega
    exact⟨ys[6],Gk (j:=6) (by rw[Y9,Y7 h];rfl),hy _ (Xk h)⟩
   have S1:=S.mono s1;have hfew:R.es.length <=7:=Oc S.rm.nk S.ky;have hml:M.es.length=R.es.length:=by have:=YU List.length S.lk.ab;simpa[Wy,Wt] using this
   refine WX fun N p=>?_
   walk_at"rd";refine⟨_,WA.of e1,_,ay,m,dh,ds,dd,M,time,y6,rfl,S1.md,by omega,by0,fun t G2 ht s2=>p _ _ ?_⟩;clear p N;have S2:=S1.mono s2;refine WX fun N p=>?_
   walk_at"rd";refine⟨m,dh,ds,dd,M,t,rfl,S2.md,by omega,fun ps ld G3 hpp hps hld k3 hM3 hG3=>p _ _ ?_⟩;clear p N;have e12:=s2 _ _ e1;have e13:=S2.md.kp k3 e12 (fun _ z=>by cases z);have hR3:=S2.rm.kpM S2.md S2.ap k3;have hap3:T5 R r dr df dw (Mu M t) m dh ds dd:=S2.ap.md (wh':=M.wh) S2.rm (fun e he=>.inl (Ym.mp he).1);have hkl3:KL Gc G3:=fun c xs h=>S2.md.kp k3 (s2 _ _ (s1 _ _ (kc _ _ h))) (fun _ z=>by cases z)
   refine WX fun N p=>?_
   walk_at"rd";obtain⟨J,eJ⟩:∃J:L2.St->Hp->Prop,J=fun σ' G=>∃ (lf lu:Wk) (evs:List Ev) (R':JM) (M':Tw) (Hc:Hp) (v12 v13 v14 v15 v16 v17:Option V),σ'=[some (.ref a),some (.ref lg),some (.ref m),some (.ref r),some (.ref lb),some (.int t),some (.int c),v7,some (.ref ln),some (.ref lu),v10,some (.ref lf),v12,v13,v14,v15,v16,v17]/\Gs C CR G r dr df dw m dh ds dd R' M' (i+ 1)/\R'.now=t/\(R'.ru=ru/\R'.out=out/\R'.ag=ag)/\KL Gc G/\KL Gc Hc/\Hc lf=none/\GS CL Hc G lf evs/\Ek K G lu evs/\(∀ev∈evs,MQ ev/\CM ev)/\evs.length <=100/\(∀e∈R'.es,e.l≠lf)/\(v12=some .non\/∃ (q1 b b1:Wk) (d:PD) (ws:List V),v12=some (.bl d.mo)/\v14=some (.int d.at')/\v15=some (.ref b)/\v17=some (.ref q1)/\JN CP G q1 b1 d/\G b=some (.lst (d.ns.map V.int))/\Hc b=some (.lst (d.ns.map V.int))/\Hc b1=some (.lst ws)):=⟨_,rfl⟩
   have hps7:ps.length <=7:=by
    have h1:ps.length=(List.filter (fun x:ME=>decide (x.first+ M.wt <=t)) M.es).length:=hpp.length_eq.trans (Y1 ..);have h2:=Yz (fun x:ME=>decide (x.first+ M.wt <=t)) M.es;omega
   have hpo:ps.Perm (MY {R with now:=t}):=by rw[<-S.lk.over t];exact hpp
   have hD3:Ek K G3 ld (Jw ps):=by
    have:=OB (K:=K) hG3;rw[Yo]at this;exact this
   have hsub:∀x∈Wt (T8 R t).es,x∈Wt R.es:=fun x hx=>by rw[KZ]at hx;exact(Ym.mp hx).1
   have hka:((T8 R t).es.map (·.ky)).Nodup:=S.rm.nk.sublist (XA _ YI);have htota:Nk (Wt (T8 R t).es) <=R.sp:=by rw[KZ];exact Uq (Et YI) S.tot
   have hsza:DK i (Wt (T8 R t).es):=fun x hx=>S.sz x (hsub x hx)
   refine⟨J,⟨_,WA.of e13,_,ay,_,rfl,⟨by decide,by decide⟩,by decide,rfl,?_⟩,fun σ' G hJ=>p _ _ ?_⟩
   .by_cases hk8:y6 / 72%9=8
    .rw[Y5 (Yd hk8)];refine⟨hR3.mt rfl,r,dr,df,dw,R,t,rfl,hR3,by omega,by omega,fun ps2 lf G4 hpp2 hps2 hlf hn4 hE4 hnl4=>?_⟩;rw[eJ];have eps:ps2=ps:=OG hps2 hps (hpp2.trans hpo.symm);subst eps;have kl4:Mg G3 G4:=S4 hR3 rfl hn4.kp;refine⟨lf,ld,Jw ps2,_,_,G3,_,_,_,_,_,_,rfl,⟨hn4.ok,hM3.rk hap3 rfl hn4.kp,hap3.rm (R0:={R with now:=t}) hM3 rfl hn4,S.lk.end t,htota,fun x hx=>S.ky x (hsub x hx),YD S.wl (YL _),hsza.up (YL _)⟩,rfl,⟨eru,eout,eag⟩,fun c xs h=>kl4.l (hkl3 c xs h),hkl3,hlf,dY hE4,hD3.klt kl4,Qr hpo S.ky,by unfold Jw;rw[Y1];omega,hnl4,.inl rfl⟩
    .rw[Y2 (by simpa using hk8)];refine⟨lb,ln,bs,ys,rfl,hkl3 _ _ elb,by omega,by omega,hbc.kl hkl3,e13,by omega,hy,fun tp tk b pd G4 ix htp htk hb s4 aa hkey hi0 hi1 h41=>⟨tp,rfl,_,Ja.of aa.tp,rfl,_,_,rfl,_,_,rfl,_,_,rfl,_,_,rfl,rfl,Jc (by decide),fun p5 G5 hp5 s5 g5=>?_⟩⟩;have hkt:pd.key∈JL:=by
      rw[hkey];unfold Dn;have h7:(ix%7).toNat < JL.length:=by show _ < 7;omega
      rw[X8,Y7 h7];exact Xk h7
     have s45:=s4.trans s5;have hM5:=hM3.mono s45;have hR5:=hR3.mono s45;have lk3:=S.lk.end t;have hmx:∀e∈(Mu M t).es,Na e.ky/\e.rs.st.length <=9000/\NK e.rs:=fun e he=>by
      have hx:(e.ky,e.rs,e.first)∈Wt (T8 R t).es:=by rw[<-lk3.ab];exact Y3.mpr ⟨e,he,rfl⟩
      obtain⟨z1,z2,z3⟩:=hsza _ hx;exact⟨E5 (S.ky _ (hsub _ hx)),by have z1:e.rs.st.length <=41*i:=z1;omega,z3.iv⟩
     have hml3:(Mu M t).es.length <=M.es.length:=Yz ..;have ho:Rc (Mu M t) t pd=JD (T8 R t) pd:=lk3.out' hka aa.ok;refine⟨m,dh,ds,dd,p5,tk,b,Mu M t,pd,t,rfl,hM5,⟨aa.ok,aa.k,g5,s5 _ _ aa.ky,s5 _ _ aa.bd⟩,by omega,by have:=S.wl;rw[show(Mu M t).wh=R.ws from lk3.ws];omega,by omega,hmx,?_,fun es' l6 G6 k6 hM6 hab6 hD6 hnew6=>?_⟩
     .rw[lk3.ab,lk3.sp];exact Uq (Et YI) htota
     rw[ho]at hM6 hab6 hD6;have kl6:=dX hM5 k6;have kl36:Mg G3 G6:=fun c o h a b d e=>kl6 c o (s45 c o h) a b d e
     obtain⟨xs2,e62,d62⟩:=hD3.klt kl36;obtain⟨xs3,e63,d63⟩:=hD6;have hx2:xs2.length=ps.length:=by have:=WQ.len d62;rw[Y1]at this;unfold Jw at this;rw[Y1]at this;exact this
     have hol:(JD (T8 R t) pd).2.2.length <=9:=by
      have h1:=OJ (T8 R t) pd;have h2:(Wt (T8 R t).es).length <=R.es.length:=by unfold Wt;rw[Y1];exact Yz ..
      omega
     have hx3:xs3.length=(JD (T8 R t) pd).2.2.length:=by have:=WQ.len d63;rw[Y1]at this;exact this
     refine⟨l6,rfl,_,e62,_,e63,Jc (show _ <=100000 by omega),fun p7 G7 hp7 s7 e7=>?_⟩;have kl37:Mg G3 G7:=fun c o h a b d e=>s7 c o (kl36 c o h a b d e)
     have kl47:Mg G4 G7:=fun c o h a b d e=>s7 c o (kl6 c o (s5 c o h) a b d e)
     have hky7:=kl47.t aa.ky;have hbd7:=kl47.l aa.bd;obtain⟨kk,ekk⟩:∃kk:Bool,kk=decide (y6 / 648%3=1):=⟨_,rfl⟩;refine⟨_,WA.of (kl37.l e13),_,ay,_,rfl,⟨by decide,by decide⟩,by decide,rfl,tk,rfl,_,Ja.of hky7,_,rfl,tk,rfl,_,Ja.of hky7,_,rfl,tk,rfl,_,Ja.of hky7,_,rfl,?_⟩;rw[<-ekk];have hok':PD.Ok {pd with k:=kk}:=⟨aa.ok.n0,aa.ok.n1,aa.ok.k1,aa.ok.k2,aa.ok.l1,aa.ok.l2,aa.ok.by',aa.ok.a0,aa.ok.a8,aa.ok.rm⟩;refine⟨{pd with k:=kk},b,rfl,hok',hbd7,fun q1 b1 G8 hq1 hb1 s8 hP=>?_⟩;have hR6:=hR5.kpM hM5 hap3 k6;have hR8:=hR6.mono (s7.trans s8);have hap6:=hap3.md (wh':=(JD (T8 R t) pd).2.1) hR5 hnew6;have hM8:=hM6.mono (s7.trans s8);have hSz:∀e∈R.es,e.rs.st.length <=10000/\e.rs.cv.length <=800/\NV e.rs:=fun e he=>by
      obtain⟨z1,z2,z3⟩:=S.sz (e.ky,e.rs,e.first) (Y3.mpr ⟨e,he,rfl⟩);have z1:e.rs.st.length <=41*i:=z1;have z2:e.rs.cv.length <=i:=z2;exact⟨by omega,by omega,z3⟩
     have hwl:=S.wl;refine⟨hR8.mt rfl,r,dr,df,dw,q1,b1,R,{pd with k:=kk},t,rfl,hR8,hP,by omega,by omega,by omega,hSz,Uq (Et YI) htota,fun e he=>E5 (S.ky (e.ky,e.rs,e.first) (Y3.mpr ⟨e,he,rfl⟩)),fun ps2 R2 lf G9 hpp2 hps2 hlf hn hE hnl=>?_⟩;have eps:ps2=ps:=OG hps2 hps (hpp2.trans hpo.symm);subst eps;have eo:JD (T8 R t) {pd with k:=kk}=JD (T8 R t) pd:=rfl;rw[eo]at hn hE;have kl9:Mg G8 G9:=S4 hR8 rfl hn.kp;have kl79:Mg G7 G9:=fun c o h a b d e=>kl9 c o (s8 c o h) a b d e
     have kl39:Mg G3 G9:=fun c o h a b d e=>kl79 c o (kl37 c o h a b d e) a b d e
     obtain⟨nq1,nb1,nq,nb⟩:=JN.neM hR8 hP;have hP9:JN CP G9 q1 b1 {pd with k:=kk}:=⟨hP.ok,hP.ats.same fun o e=>hn.kp q1 o e nq,hn.kp b1 _ hP.bd nb⟩;obtain⟨p1,p2,p3,p4,p5',p6⟩:=hn.pr;rw[eJ];refine⟨lf,p7,Jw ps2++(JD (T8 R t) pd).2.2,R2,_,G8,_,_,_,_,_,_,rfl,⟨hn.ok,hM8.rk hap6 rfl hn.kp,hap6.rm (R0:={R with now:=t}) hM8 rfl hn,⟨by rw[hn.es];exact hab6,hn.ws'.symm,lk3.ru.trans p1.symm,lk3.wt.trans p2.symm,lk3.sp.trans p3.symm,lk3.out.trans p4.symm,lk3.ag.trans p5'.symm⟩,?_,?_,?_,?_⟩,p6,⟨p1.trans eru,p4.trans eout,p5'.trans eag⟩,fun c xs h=>kl39.l (hkl3 c xs h),fun c xs h=>s8 _ _ (kl37.l (hkl3 c xs h)),hlf,hE,⟨_,kl79.l e7,?_⟩,?_,?_,hnl,.inr ⟨q1,b,b1,{pd with k:=kk},_,rfl,rfl,rfl,rfl,hP9,kl79.l hbd7,s8 _ _ hbd7,hP.bd⟩⟩
     .rw[hn.es,show R2.sp=R.sp from p3];exact rL (R:=T8 R t) hka aa.ok htota
     .rw[hn.es];exact w4 (R:=T8 R t) (fun x hx=>S.ky x (hsub x hx)) hkt
     .rw[hn.ws'];have:(JD (T8 R t) pd).2.1.length <=R.ws.length+ 1:=yV (T8 R t) pd;omega
     .rw[hn.es];exact aH (R:=T8 R t) hka hsza aa.ok h41
     .rw[Yf];exact WQ.klt kl79 (WQ.app (WQ.klt (Mg.of s7) d62) (WQ.klt (Mg.of s7) d63))
     .intro ev he;rcases YB.mp he with z|z
      .exact Qr hpo S.ky ev z
      .exact mH (R:=T8 R t) (fun x hx=>S.ky x (hsub x hx)) hkt ev z
     .rw[Ys];unfold Jw;rw[Y1];omega
   .rw[eJ]at hJ;clear eJ J p N;obtain⟨lf,lu,evs,R',M',Hc,v12,v13,v14,v15,v16,v17,rfl,S',hnow',hfs,kc',kHc,hlf,hE,hD,hok,hlen,hnl,hmo⟩:=hJ;obtain⟨zs,hz,hzw⟩:=hE;obtain⟨us,hu,hud⟩:=hD;have hzl:zs.length <=100:=by rw[hzw.1];exact hlen
    refine WX fun N p=>?_
    walk_at"rd";refine⟨"list",by show(G lf).bind DN=_;rw[hz];rfl,?_⟩;rw[Y2 (by decide)];refine⟨⟨_,WA.of hz⟩,?_⟩;obtain⟨Pc,ePc⟩:∃Pc:Nat->List V->L2.St->Hp->Prop,Pc=fun j ys σ' G'=>(∃v:Option V,σ'=[v])/\Ws G G'/\WQ K G' ys ((evs.take j).map M0)/\ys.length <=j:=⟨_,rfl⟩
    refine AX (xs:=zs) Pc (by rw[ePc];exact⟨⟨_,rfl⟩,Ws.refl _,.nil,Y6 _⟩) ?_ (Jc (show _ <=100000 by omega)) ?_ ?_ <;> rw[ePc]
    .rintro j ys σ' G' ⟨⟨v,rfl⟩,sG,_,hyl⟩ _;exact⟨WA.of (sG _ _ hz),hyl⟩
    .rintro j x ys σ' G' hx ⟨⟨v,rfl⟩,sG,hDj,hyl⟩;rw[<-ePc];obtain⟨ev,hev,hEv⟩:=hzw.get hx;walk_at"rd";refine⟨x,ev,rfl,(EU.o hEv).mono sG,(hok ev (Yx hev)).2,fun y G2 s2 hDy=>?_⟩;rw[ePc];refine⟨⟨_,rfl⟩,sG.trans s2,?_,by simp;omega⟩;rw[YK,hev,Xc,Yf];exact WQ.app (WQ.klt (Mg.of s2) hDj) (.cons hDy .nil)
    rintro ys' σ' G' ⟨⟨v,rfl⟩,sG,hDj,hyl⟩ p2 G2 hp2 s2 e2;rw[hzw.1,YA (Y6 _)]at hDj;have sG2:=sG.trans s2;refine⟨_,_,.lst (WA.of e2) (WQ.klt (Mg.of s2) hDj),.lst (WA.of (sG2 _ _ hu)) (WQ.klt (Mg.of sG2) hud),Sm fun ev he=>(hok ev he).1,Sm fun ev he=>(hok ev he).1,_,rfl,?_⟩;rw[Y2 (by rw[d9];simp)];refine p _ _ ?_;clear p N ePc Pc;have S2':=S'.mono sG2;refine WX fun N p=>?_
    walk_at"rd";have few':R'.es.length <=7:=Oc S'.rm.nk S'.ky;refine⟨r,dr,df,dw,m,dh,ds,dd,R',M',rfl,S2'.rm,S2'.md,S'.lk.ab,S'.lk.wt,by omega,fun e he=>?_,by rw[S'.lk.sp];exact S'.tot,fun G3 s3=>?_⟩
    .obtain⟨z1,z2,z3⟩:=S'.sz (e.ky,e.rs,e.first) (Y3.mpr ⟨e,he,rfl⟩);have z1:e.rs.st.length <=41*(i+ 1):=z1;have z2:e.rs.cv.length <=i+ 1:=z2;exact⟨E5 (S'.ky (e.ky,e.rs,e.first) (Y3.mpr ⟨e,he,rfl⟩)),z3.iv,by omega,by omega⟩
    have S3':=S2'.mono s3;refine⟨true,rfl,?_⟩;rw[Y2 (by simp)];refine⟨_,EJ L S3'.rm,rfl,?_⟩;rw[Y2 (by rw[hnow'];simp)];refine p _ _ ?_;clear p N S2' hDj hud hu;have s03:=sG2.trans s3;have hz3:=s03 _ _ hz;have kc3:KL Gc G3:=kc'.trans (KL.of s03);have hE3:∀j x ev,zs[j]?=some x->evs[j]?=some ev->GX CL G3 x ev:=fun j x ev a b=>(EU.o (hzw.2 j x ev a b)).mono s03
    refine WX fun N p=>?_
    walk_at"rd";refine⟨⟨_,WA.of hz3⟩,?_⟩;obtain⟨Pw',ePw⟩:∃Pw':Nat->L2.St->Hp->Prop,Pw'=fun j σ' G'=>(∃v:Option V,σ'=[some (.ref a),some (.ref lg),some (.ref m),some (.ref r),some (.ref lb),some (.int t),some (.int c),v7,some (.ref ln),some (.ref lu),v,some (.ref lf),v12,v13,v14,v15,v16,v17])/\Ww C CR G' r dr df dw R'/\N7 G' m dh ds dd M'/\(∀c o,G3 c=some o->((∀ys,o≠ .lst ys)\/c=lf\/∃ys,Hc c=some (.lst ys))->G' c=some o)/\(∀c ys,G3 c=some (.lst ys)->∃zs,G' c=some (.lst zs)/\zs.length <=ys.length+ j):=⟨_,rfl⟩
    refine Bw (xs:=zs) Pw' (by rw[ePw];exact⟨⟨_,rfl⟩,S3'.rm,S3'.md,fun _ _ h _=>h,fun _ ys h=>⟨ys,h,Y6 _⟩⟩) ?_ ?_ ?_ <;> rw[ePw]
    .rintro j σ' G' _ ⟨⟨v,rfl⟩,_,_,kb,_⟩;exact WA.of (kb _ _ hz3 (.inr (.inl rfl)))
    .rintro j x σ' G' hx ⟨⟨v,rfl⟩,hR',hM',kb,kl⟩;rw[<-ePw];obtain⟨ev,hev,hEv⟩:=hzw.get hx;have hE':=hE3 j x ev hx hev;have kt:∀{c xs},G3 c=some (.tup xs)->G' c=some (.tup xs):=fun {c xs} h=>kb c _ h (.inl fun _ z=>by cases z)
     simp only[Go,List.set_cons_succ,List.set_cons_zero];cases ev with
     |gone k w=>
      obtain⟨t1,tk,rfl,h1,h2⟩:=hE';walk_at"rd";refine⟨_,Ja.of (kt h1),_,rfl,rfl,?_⟩;rw[Y2 (by decide +kernel),ePw];exact⟨⟨_,rfl⟩,hR',hM',kb,fun c ys h=>by obtain⟨zs,z1,z2⟩:=kl c ys h;exact⟨zs,z1,by omega⟩⟩
     |late k=>
      obtain⟨t1,tk,rfl,h1,h2⟩:=hE';walk_at"rd";refine⟨_,Ja.of (kt h1),_,rfl,rfl,?_⟩;rw[Y2 (by decide +kernel),ePw];exact⟨⟨_,rfl⟩,hR',hM',kb,fun c ys h=>by obtain⟨zs,z1,z2⟩:=kl c ys h;exact⟨zs,z1,by omega⟩⟩
     |strange k=>
      obtain⟨t1,tk,rfl,h1,h2⟩:=hE';walk_at"rd";refine⟨_,Ja.of (kt h1),_,rfl,rfl,?_⟩;rw[Y2 (by decide +kernel),ePw];exact⟨⟨_,rfl⟩,hR',hM',kb,fun c ys h=>by obtain⟨zs,z1,z2⟩:=kl c ys h;exact⟨zs,z1,by omega⟩⟩
     |whole ld=>
      obtain⟨t1,pl,bl,rfl,h1,h2,hnb⟩:=hEv;have h1:=s03 _ _ h1;have h2:=h2.mono s03;obtain⟨dxL,fsL,hpl⟩:=h2.ins;have hL1:1 <=ld.ns.length:=h2.ok.l1;have hL2:ld.ns.length <=4000:=h2.ok.l2;obtain⟨ws,hw1,hw2⟩:=kl bl _ h2.bd;rw[Y1]at hw2;have hj:j < 100:=by have:=(Yq.mp hx).1;omega
      have nlf:bl≠lf:=fun z=>by
       have hb:=h2.bd;rw[z,hz3]at hb;injection hb with hb;injection hb with hb;rw[hb,Y9]at hx;obtain⟨_,_,z⟩:=Yn.mp hx;cases z
      have nel:∀e∈R'.es,e.l≠bl:=fun e he z=>by
       obtain⟨xs,hxs,hc⟩:=(S3'.rm.rd e he).cv;rw[z,h2.bd]at hxs;injection hxs with hxs;injection hxs with hxs;rw[<-hxs]at hc;cases hn:ld.ns with
       |nil=>rw[hn]at hL1;cases hL1
       |cons n rr=>
        rw[hn]at hc;obtain⟨cc,hc⟩:∃cc,NB G3 ((n::rr).map V.int) cc:=⟨_,hc⟩;cases hc with
        |cons a _=>obtain⟨_,z,_⟩:=a;cases z
      have hlet:Nb K G' (.ref pl) "body" (.ref bl):=jD LL (h2.ats.same fun o e=>kb pl o e (.inl fun _ z=>by rw[hpl]at e;cases e;cases z))
      walk_at"rd";refine⟨_,Ja.of (kt h1),_,rfl,rfl,?_⟩;rw[Y5 (by simp)];refine⟨_,Ja.of (kt h1),_,rfl,_,hlet,.inl ⟨rfl,_,WA.of hw1⟩,bl,rfl,_,hw1,Ya (show ws.length <=9000 by omega) (Tn (n:=9000) (by decide)),fun G4 b4 e4=>?_⟩;rw[ePw];refine⟨⟨_,rfl⟩,hR'.butL b4 hw1 nel,hM'.but b4 hw1,fun c o h hc=>b4 c o (kb c o h hc) fun z=>?_,fun c ys h=>?_⟩
      .subst z;rcases hc with y|y|⟨ys,y⟩
       .rw[h2.bd]at h;cases h;exact y _ rfl
       .exact nlf y
       .exact hnb _ y
      .obtain⟨zs,z1,z2⟩:=kl c ys h
       by_cases hcb:c=bl
       .subst hcb;refine⟨_,e4,?_⟩;rw[hw1]at z1;cases z1;simp;omega
       .exact⟨zs,b4 c _ z1 hcb,by omega⟩
    rintro σ' G' ⟨⟨v,rfl⟩,hR',hM',kb,kl⟩;refine p _ _ ?_;clear p N ePw Pw' hzw;refine WX fun N p=>?_
    have nx:∀G5,Ws G' G5->N [some (.ref a),some (.ref lg),some (.ref m),some (.ref r),some (.ref lb),some (.int t),some (.int c),v7,some (.ref ln),some (.ref lu),v,some (.ref lf),v12,v13,v14,v15,v16,v17] G5:=fun G5 s5=>p _ _ ?_
    .clear p;walk_at"rd";have hz':=kb _ _ hz3 (.inr (.inl rfl));rcases hmo with rfl|⟨q1,b,b1,d,ws,rfl,rfl,rfl,rfl,hP,hb,hcb,hcb1⟩
     .refine⟨_,rfl,?_⟩;rw[Y2 (by simp)];exact nx G' (Ws.refl _)
     .refine⟨_,rfl,?_⟩;rw[Y5 (by simp)];have hP3:=hP.mono s03;obtain⟨dxp,fsp,hq3⟩:=hP3.ins;have hP':JN CP G' q1 b1 d:=⟨hP3.ok,hP3.ats.same fun o e=>kb q1 o e (.inl fun _ z=>by rw[hq3]at e;cases e;cases z),kb b1 _ hP3.bd (.inr (.inr ⟨_,hcb1⟩))⟩;have hb':=kb b _ (s03 _ _ hb) (.inr (.inr ⟨_,hcb⟩));refine⟨_,rfl,_,Iq LP hP',_,rfl,Eg hP',q1,b1,d,rfl,hP',Jc (by decide),fun p5 G5 hp5 s5 g5=>⟨_,rfl,_,rfl,_,rfl,b,rfl,_,.inl (WA.of (s5 _ _ hb')),_,rfl,Jc (by decide),fun p6 G6 hp6 s6 g6=>?_⟩⟩;rw[Y1]at g6;refine⟨_,_,.tup (Ja.of (s6 _ _ g5)) (.cons (.lst (WA.of (s6 _ _ (s5 _ _ hP'.bd))) (WQ.ints _)) (.cons (.int _) .nil)),.tup (Ja.of g6) (.cons (.lst (WA.of (s6 _ _ (s5 _ _ hb'))) (WQ.ints _)) (.cons (.int _) .nil)),PF _ _,PF _ _,_,rfl,?_⟩;rw[Y2 (by rw[tK];simp)];exact nx G6 (s5.trans s6)
    .clear p N;walk_at"rd";have hz5:=s5 _ _ (kb _ _ hz3 (.inr (.inl rfl)));refine⟨.inl ⟨rfl,_,WA.of hz5⟩,_,hz5,Ya (show zs.length <=9000 by omega) (Tn (n:=9000) (by decide)),fun G6 b6 e6=>?_⟩;rw[ePv];refine⟨_,_,_,_,_,_,_,_,_,_,_,_,t,R',M',rfl,⟨(hR'.mono s5).butL b6 hz5 hnl,(hM'.mono s5).but b6 hz5,S'.ap,S'.lk,S'.tot,S'.ky,S'.wl,S'.sz⟩,by omega,fun c xs h=>?_,hfs⟩;exact b6 c _ (s5 _ _ (kb c _ (kc3 c xs h) (.inr (.inr ⟨_,kHc c xs h⟩)))) (N0 (kHc c xs h) hlf)
  .rintro σ' G ⟨v6,v7,v8,v9,v10,v11,v12,v13,v14,v15,v16,v17,time,R,M,rfl,S,_,_,eru,eout,eag⟩;refine hN1 _ _ ?_;clear hN1 N1;have hM:=S.md;walk_at"rd";refine⟨_,Ih L S.rm,_,O5 L S.rm,_,Ke L S.rm,_,Kk L S.rm,_,QA L S.rm,Jc (by decide),fun p2 G2 hp2 s2 e2=>?_⟩;have hM2:=hM.mono s2;refine⟨_,hM2.g rfl,_,hM2.g rfl,_,hM2.g rfl,_,hM2.g rfl,_,hM2.g rfl,Jc (by decide),fun p3 G3 hp3 s3 e3=>?_⟩;rw[S.lk.ru,S.lk.wt,S.lk.sp,S.lk.out,S.lk.ag]at e3;have l1:PyData.canLay0 (.str R.ru)=true:=by rw[eru];rcases hru with rfl|rfl|rfl <;> decide +kernel
   have l2:PyData.canLay0 (.str R.out)=true:=by rw[eout];rcases hout with rfl|rfl|rfl <;> decide +kernel
   have l3:PyData.canLay0 (.str R.ag)=true:=by rw[eag];rcases hag with rfl|rfl <;> decide +kernel
   have hd5:WQ K G3 [.str R.ru,.int R.wt,.int R.sp,.str R.out,.str R.ag] [.str R.ru,.int R.wt,.int R.sp,.str R.out,.str R.ag]:=.cons (.str _) (.cons (.int _) (.cons (.int _) (.cons (.str _) (.cons (.str _) .nil))));refine⟨_,_,.lst (WA.of (s3 _ _ e2)) hd5,.lst (WA.of e3) hd5,Pt l1 l2 l3,Pt l1 l2 l3,?_⟩;rw[jQ];exact q _
theorem F1{C1 C2:Wk}{b r:Bool}{x:Wj}(h1:W.mroIn K C1 (.ref C2)=some b)(h2:W.typeIn K (.ref C2)=some (.type "type"))(h3:W.mroIn K C2 x=some r)(hs:W.mroIn K C1 (.ref C1)=some true):W.kitOne K (.ref C1) (.ref C2)=some b:=by
 unfold W.kitOne
 by_cases e:C1=C2
 .subst e;rw[h1]at hs;rw[Y5 (by simp),<-hs]
 .rw[Y2 (by simpa using e)];show(if((W.clsIn K C2).isSome && W.typeIn K (.ref C2)==some (.type "type"))=true then W.subIn K (.ref C1) (.ref C2) else none)=some b;have a:(W.clsIn K C2).isSome=true:=by
   unfold W.mroIn at h3;cases hq:W.clsIn K C2 with
   |none=>rw[hq]at h3;cases h3
   |some cd=>rfl
  rw[Y5 (by rw[a,h2];simp)];exact h1
end
theorem gI{K:Wi}{s:We}{T:Wk}{oT:Option Addr}{nT:Nat}{sT:Array (Option Value)}{kV dc pm cd ct:Wj}{an:Option Addr}{u0 u1 u2 u3 u4 u5 u6 u7:Wj}(kx:K.In s.heap)(h:K.lookup T=some ⟨.type "tuple",oT,.seq #[.bool false] nT,sT⟩):
  BindsTo s (W.fnOf "__init__" "Piece.__init__" (MT WC) (WN WC) (Wp WC) (.ref T) kV dc pm an cd ct) ⟨[u0,u1,u2,u3,u4,u5,u6],[("keep",u7)]⟩ ((["self","number","sender","goal","at","body","more","keep"]:List Str).zip ([u0,u1,u2,u3,u4,u5,u6]++[u7])):=by
 first
  |exact .of_eq rfl
  |exact .of_defaults rfl (kx _ _ h) rfl rfl rfl
theorem tT{us:Wm}(hl:us.length+ 1=8):∃u0 u1 u2 u3 u4 u5 u6,us=[u0,u1,u2,u3,u4,u5,u6]:=by
 match us,hl with
 |[_,_,_,_,_,_,_],_=>exact⟨_,_,_,_,_,_,_,rfl⟩
section
variable{P:Wc}{w:Wh}{K:Wi}{mg:W8}{base:Wn}
theorem rZ{C:Wk}{f:Wk}{fd:Wf}(F:Wz P w K mg base Jf 6 f fd ["self","number","sender","goal","at","body","more","keep"] (BI C))(hm:mg "Piece"=some (.ref C))(M:Mk K C f)(hb:∀ (s:We) (us:Wm) (u:Wj),K.In s.heap->us.length+ 1=8->BindsTo s fd ⟨us,[("keep",u)]⟩ ((["self","number","sender","goal","at","body","more","keep"]:List Str).zip (us++[u]))):Fb P w K mg base "Piece" "keep" 6 (KD C):=by
 refine⟨f,C,fd,_,_,F,hm,M,hb,fun vs H Q h y dx G a x z s j=>?_⟩;obtain⟨d,b,rfl,ok,hb,q⟩:=h;obtain⟨c,p⟩:=PJ (k:=d.k) ok.n0 ok.n1 ok.k1 ok.k2 (s b _ hb) ok.l1 ok.l2 ok.by'
 exact⟨y,dx,_,_,_,d.at',b,d.mo,_,_,rfl,j,c,p,by simp[EC,ok.a0,ok.a8],s b _ hb,by rw[Y1];exact ok.rm,fun H' v n h1 h2 i r=>⟨rfl,q y v H' a (s.free n) (fun d o e=>r d o (s d o e) (N0 e a)) ⟨ok,i,h2⟩⟩⟩
end
theorem nX{us:Wm}{v:Wj}(hl:(us++[v]).length=6):∃u0 u1 u2 u3 u4,us=[u0,u1,u2,u3,u4]:=by
 have a:us.length=5:=by rw[Ys]at hl;simpa using hl
 exact Li a
theorem jW{K:Wi}{s:We}{T:Wk}{oT:Option Addr}{nT:Nat}{sT:Array (Option Value)}{kV dc pm cd ct:Wj}{an:Option Addr}{u0 u1 u2 u3 u4 u5:Wj}(kx:K.In s.heap)(h:K.lookup T=some ⟨.type "tuple",oT,.seq #[.bool false] nT,sT⟩):
  BindsTo s (W.fnOf "__init__" "Letter.__init__" (MT WG) (WN WG) (Wp WG) (.ref T) kV dc pm an cd ct) ⟨[u0,u1,u2,u3,u4,u5],[]⟩ ((["self","number","sender","goal","body","keep"]:List Str).zip ([u0,u1,u2,u3,u4,u5]++[])):=by
 first
  |exact .of_eq rfl
  |exact .of_defaults rfl (kx _ _ h) rfl rfl rfl
theorem nI{K:Wi}{s:We}{T:Wk}{oT:Option Addr}{nT:Nat}{sT:Array (Option Value)}{kV dc pm cd ct:Wj}{an:Option Addr}{u0 u1 u2 u3 u4:Wj}(kx:K.In s.heap)(h:K.lookup T=some ⟨.type "tuple",oT,.seq #[.bool false] nT,sT⟩):
  BindsTo s (W.fnOf "__init__" "Letter.__init__" (MT WG) (WN WG) (Wp WG) (.ref T) kV dc pm an cd ct) ⟨[u0,u1,u2,u3,u4],[]⟩ ((["self","number","sender","goal","body","keep"]:List Str).zip ([u0,u1,u2,u3,u4]++[.bool false])):=by
 exact .of_defaults rfl (kx _ _ h) rfl rfl rfl
theorem nP{us:Wm}{v:Wj}(hl:(us++[v]).length=8):∃u0 u1 u2 u3 u4 u5 u6,us=[u0,u1,u2,u3,u4,u5,u6]:=by
 have a:us.length=7:=by rw[Ys]at hl;simpa using hl
 exact OQ a
theorem rS{K:Wi}{s:We}{T:Wk}{oT:Option Addr}{nT:Nat}{sT:Array (Option Value)}{kV dc pm cd ct:Wj}{an:Option Addr}{u0 u1 u2 u3 u4 u5 u6 u7:Wj}(kx:K.In s.heap)(h:K.lookup T=some ⟨.type "tuple",oT,.seq #[.bool false] nT,sT⟩):
  BindsTo s (W.fnOf "__init__" "Piece.__init__" (MT WC) (WN WC) (Wp WC) (.ref T) kV dc pm an cd ct) ⟨[u0,u1,u2,u3,u4,u5,u6,u7],[]⟩ ((["self","number","sender","goal","at","body","more","keep"]:List Str).zip ([u0,u1,u2,u3,u4,u5,u6,u7]++[])):=by
 first
  |exact .of_eq rfl
  |exact .of_defaults rfl (kx _ _ h) rfl rfl rfl
theorem mO{K:Wi}{s:We}{T:Wk}{oT:Option Addr}{nT:Nat}{sT:Array (Option Value)}{kV dc pm cd ct:Wj}{an:Option Addr}{u0 u1 u2 u3 u4 u5 u6:Wj}(kx:K.In s.heap)(h:K.lookup T=some ⟨.type "tuple",oT,.seq #[.bool false] nT,sT⟩):
  BindsTo s (W.fnOf "__init__" "Piece.__init__" (MT WC) (WN WC) (Wp WC) (.ref T) kV dc pm an cd ct) ⟨[u0,u1,u2,u3,u4,u5,u6],[]⟩ ((["self","number","sender","goal","at","body","more","keep"]:List Str).zip ([u0,u1,u2,u3,u4,u5,u6]++[.bool false])):=by
 exact .of_defaults rfl (kx _ _ h) rfl rfl rfl
local macro_rules | `(tactic| walk_at"b0") => `(tactic| exact fun _ _ _ _ _ _ us hl => by have e := List.eq_nil_of_length_eq_zero hl; subst e; rfl)
local macro_rules | `(tactic| walk_at"b1") => `(tactic| exact fun _ _ _ _ _ _ us hl => by obtain ⟨_, e⟩ := Qn hl; subst e; rfl)
local macro_rules | `(tactic| walk_at"b2") => `(tactic| exact fun _ _ _ _ _ _ us hl => by obtain ⟨_, _, e⟩ := Z5 hl; subst e; rfl)
local macro_rules | `(tactic| walk_at"b3") => `(tactic| exact fun _ _ _ _ _ _ us hl => by obtain ⟨_, _, _, e⟩ := Zb hl; subst e; rfl)
local macro_rules | `(tactic| walk_at"b4") => `(tactic| exact fun _ _ _ _ _ _ us hl => by obtain ⟨_, _, _, _, e⟩ := Oo hl; subst e; rfl)
local macro_rules | `(tactic| walk_at"b5") => `(tactic| exact fun _ _ _ _ _ _ us hl => by obtain ⟨_, _, _, _, _, e⟩ := Li hl; subst e; rfl)
local macro_rules | `(tactic| walk_at"b6") => `(tactic| exact fun _ _ _ _ _ _ us hl => by obtain ⟨_, _, _, _, _, _, e⟩ := K1 hl; subst e; rfl)
set_option maxHeartbeats 0 in
theorem H9{l:W.OpenLaw}{w:Wh}{K:Wi}{h:Wn}{mg:W8}{fa:Wk}(X:K.In h)(G:h.Ns mainGlobals mg)(hfa:mg "law"=some (.ref fa))
  {f_is_whole f_is_whole_within f_is_whole_from f_is_truth f_is_number f_is_name f_is_key f_is_byte f_is_body f_is_rule f_is_out f_is_again f_are_shared_parts f_is_place f_has_room f_with_span f_lacking f_cell_at f_mixed f_digits f_key f_lawbody f_lawpiece f_lawstrange f_lawunlike f_put f_spans f_heap f_lawtaken f_lawgone f_lawsize f_lawended f_lawfirst f_lawkept f_lawcame f_lawplain f_lawasked f_lawtime f_lawmodel f_law C_Letter f_Letter_key f_Letter_init T_Letter_init C_Piece f_Piece_key f_Piece_end f_Piece_init T_Piece_init C_Whole f_Whole_init C_Unlike f_Unlike_init C_Reading f_Reading_is_strange f_Reading_unlike_number f_Reading_take f_Reading_missing f_Reading_taken_body f_Reading_answer_to f_Reading_size f_Reading_init C_Room f_Room_check_time f_Room_let_go f_Room_is_resting f_Room_bytes_kept f_Room_end_waits f_Room_first_out f_Room_make_space f_Room_check_kept f_Room_lacks f_Room_since f_Room_kept f_Room_ends_at f_Room_take_in f_Room_tick f_Room_come f_Room_init:Wk}
  {aRULES:Wk}
  {aOUTS:Wk}
  {aAGAINS:Wk}
  (q_is_whole:GF K "is_whole" FK f_is_whole)
  (q_is_whole_within:GF K "is_whole_within" FE f_is_whole_within)
  (q_is_whole_from:GF K "is_whole_from" L5 f_is_whole_from)
  (q_is_truth:GF K "is_truth" K5 f_is_truth)
  (q_is_number:GF K "is_number" Hl f_is_number)
  (q_is_name:GF K "is_name" C6 f_is_name)
  (q_is_key:GF K "is_key" Hs f_is_key)
  (q_is_byte:GF K "is_byte" Lo f_is_byte)
  (q_is_body:GF K "is_body" F5 f_is_body)
  (q_is_rule:GF K "is_rule" Hr f_is_rule)
  (q_is_out:GF K "is_out" IK f_is_out)
  (q_is_again:GF K "is_again" HW f_is_again)
  (q_are_shared_parts:GF K "are_shared_parts" Fs f_are_shared_parts)
  (q_is_place:GF K "is_place" LV f_is_place)
  (q_has_room:GF K "has_room" FG f_has_room)
  (q_with_span:GF K "with_span" Kg f_with_span)
  (q_lacking:GF K "lacking" Kn f_lacking)
  (q_cell_at:GF K "_law_cell_at" HF f_cell_at)
  (q_mixed:GF K "_law_mixed" K8 f_mixed)
  (q_digits:GF K "_law_digits" Im f_digits)
  (q_key:GF K "_law_key" Lq f_key)
  (q_lawbody:GF K "_law_body" AQ f_lawbody)
  (q_lawpiece:GF K "_law_piece" Ie f_lawpiece)
  (q_lawstrange:GF K "_law_strange" KB f_lawstrange)
  (q_lawunlike:GF K "_law_unlike" KF f_lawunlike)
  (q_put:GF K "_law_put" K9 f_put)
  (q_spans:GF K "_law_spans" IL f_spans)
  (q_heap:GF K "_law_heap" Lf f_heap)
  (q_lawtaken:GF K "_law_taken" CQ f_lawtaken)
  (q_lawgone:GF K "_law_gone" Lm f_lawgone)
  (q_lawsize:GF K "_law_size" CV f_lawsize)
  (q_lawended:GF K "_law_ended" BE f_lawended)
  (q_lawfirst:GF K "_law_first" BR f_lawfirst)
  (q_lawkept:GF K "_law_kept" KS f_lawkept)
  (q_lawcame:GF K "_law_came" Iz f_lawcame)
  (q_lawplain:GF K "_law_plain" IC f_lawplain)
  (q_lawasked:GF K "_law_asked" CB f_lawasked)
  (q_lawtime:GF K "_law_time" AN f_lawtime)
  (q_lawmodel:GF K "_law_model" Ks f_lawmodel)
  (q_law:GF K "law" Rl f_law)
  (qc_Letter:CF K "Letter" C_Letter)
  (na_Letter:NA K C_Letter ["number","sender","goal","body","keep"])
  (q_Letter_key:MF K C_Letter "key" "Letter.key" Kx f_Letter_key)
  (q_Letter_init:DF K C_Letter "Letter.__init__" WG f_Letter_init T_Letter_init)
  (qc_Piece:CF K "Piece" C_Piece)
  (na_Piece:NA K C_Piece ["number","sender","goal","at","body","more","keep"])
  (q_Piece_key:MF K C_Piece "key" "Piece.key" Kt f_Piece_key)
  (q_Piece_end:MF K C_Piece "end" "Piece.end" FY f_Piece_end)
  (q_Piece_init:DF K C_Piece "Piece.__init__" WC f_Piece_init T_Piece_init)
  (qc_Whole:CF K "Whole" C_Whole)
  (na_Whole:NA K C_Whole ["body"])
  (q_Whole_init:MF K C_Whole "__init__" "Whole.__init__" JX f_Whole_init)
  (qc_Unlike:CF K "Unlike" C_Unlike)
  (na_Unlike:NA K C_Unlike ["at"])
  (q_Unlike_init:MF K C_Unlike "__init__" "Unlike.__init__" JO f_Unlike_init)
  (qc_Reading:CF K "Reading" C_Reading)
  (na_Reading:NA K C_Reading ["rule","standing","cover","ending","reach"])
  (q_Reading_is_strange:MF K C_Reading "is_strange" "Reading.is_strange" Lx f_Reading_is_strange)
  (q_Reading_unlike_number:MF K C_Reading "unlike_number" "Reading.unlike_number" Hz f_Reading_unlike_number)
  (q_Reading_take:MF K C_Reading "take" "Reading.take" Kh f_Reading_take)
  (q_Reading_missing:MF K C_Reading "missing" "Reading.missing" HK f_Reading_missing)
  (q_Reading_taken_body:MF K C_Reading "taken_body" "Reading.taken_body" Ff f_Reading_taken_body)
  (q_Reading_answer_to:MF K C_Reading "answer_to" "Reading.answer_to" Iw f_Reading_answer_to)
  (q_Reading_size:MF K C_Reading "size" "Reading.size" LY f_Reading_size)
  (q_Reading_init:MF K C_Reading "__init__" "Reading.__init__" JH f_Reading_init)
  (qc_Room:CF K "Room" C_Room)
  (na_Room:NA K C_Room ["rule","wait","space","out","again","now","readings","firsts","wholes"])
  (q_Room_check_time:MF K C_Room "check_time" "Room.check_time" FM f_Room_check_time)
  (q_Room_let_go:MF K C_Room "let_go" "Room.let_go" Kb f_Room_let_go)
  (q_Room_is_resting:MF K C_Room "is_resting" "Room.is_resting" KM f_Room_is_resting)
  (q_Room_bytes_kept:MF K C_Room "bytes_kept" "Room.bytes_kept" C9 f_Room_bytes_kept)
  (q_Room_end_waits:MF K C_Room "end_waits" "Room.end_waits" Fe f_Room_end_waits)
  (q_Room_first_out:MF K C_Room "first_out" "Room.first_out" EZ f_Room_first_out)
  (q_Room_make_space:MF K C_Room "make_space" "Room.make_space" Kv f_Room_make_space)
  (q_Room_check_kept:MF K C_Room "check_kept" "Room.check_kept" HR f_Room_check_kept)
  (q_Room_lacks:MF K C_Room "lacks" "Room.lacks" Iy f_Room_lacks)
  (q_Room_since:MF K C_Room "since" "Room.since" IP f_Room_since)
  (q_Room_kept:MF K C_Room "kept" "Room.kept" IA f_Room_kept)
  (q_Room_ends_at:MF K C_Room "ends_at" "Room.ends_at" AM f_Room_ends_at)
  (q_Room_take_in:MF K C_Room "take_in" "Room.take_in" FJ f_Room_take_in)
  (q_Room_tick:MF K C_Room "tick" "Room.tick" LS f_Room_tick)
  (q_Room_come:MF K C_Room "come" "Room.come" LF f_Room_come)
  (q_Room_init:MF K C_Room "__init__" "Room.__init__" Nl f_Room_init)
  (kt_Whole:W.typeIn K (.ref C_Whole)=some (.type "type")/\W.mroIn K C_Whole (.type "object")=some true)
  (kt_Unlike:W.typeIn K (.ref C_Unlike)=some (.type "type")/\W.mroIn K C_Unlike (.type "object")=some true)
  (kt_Letter:W.typeIn K (.ref C_Letter)=some (.type "type")/\W.mroIn K C_Letter (.type "object")=some true)
  (kmr_Whole_Whole:W.mroIn K C_Whole (.ref C_Whole)=some true)
  (kmr_Unlike_Whole:W.mroIn K C_Unlike (.ref C_Whole)=some false)
  (kmr_Unlike_Unlike:W.mroIn K C_Unlike (.ref C_Unlike)=some true)
  (kmr_Letter_Letter:W.mroIn K C_Letter (.ref C_Letter)=some true)
  (qk:(∃t,W.nsIn K mainGlobals "MOST_NUMBER"=some (some (.int 65535 t)))/\(∃t,W.nsIn K mainGlobals "MOST_BYTE"=some (some (.int 255 t)))/\(∃t,W.nsIn K mainGlobals "MOST_SIGNS"=some (some (.int 8 t)))/\(∃t,W.nsIn K mainGlobals "MOST_BYTES"=some (some (.int 4000 t)))/\(∃t,W.nsIn K mainGlobals "STEP"=some (some (.int 8 t)))/\True)
  (q_RULES:W.nsIn K mainGlobals "RULES"=some (some (.ref aRULES))/\∃o n s u0 u1 u2,K.lookup aRULES=some ⟨.type "tuple",o,.seq #[.str "first" u0,.str "last" u1,.str "refuse" u2] n,s⟩)
  (q_OUTS:W.nsIn K mainGlobals "OUTS"=some (some (.ref aOUTS))/\∃o n s u0 u1 u2,K.lookup aOUTS=some ⟨.type "tuple",o,.seq #[.str "oldest" u0,.str "widest" u1,.str "own" u2] n,s⟩)
  (q_AGAINS:W.nsIn K mainGlobals "AGAINS"=some (some (.ref aAGAINS))/\∃o n s u0 u1,K.lookup aAGAINS=some ⟨.type "tuple",o,.seq #[.str "fresh" u0,.str "rest" u1] n,s⟩)
  (zs:NS K ["len","range","isinstance","all","min","max","int","bool","str","list","tuple","enumerate","zip","sum","sorted","dict"]):
  ∃fd:FuncData,(∀ (s:We) (v:Wj),BindsTo s fd ⟨[v],[]⟩ [("_law_script",v)])/\∀base:Heap,K.In base->base.Ns mainGlobals mg->Wz l.prog w K mg base Jf 11 fa fd ["_law_script"] (AG K):=by
 obtain⟨a_law,oc,od,kV,dc,pm,an,cd,ct,sl,l_law,c_law,k_law⟩:=q_law;have e:=hfa.symm.trans (W.mg_of X G a_law);cases e;have BN:=K2 (st:=Rl) l_law c_law k_law;refine⟨W.fnOf "law" "law" (MT Rl) (WN Rl) (Wp Rl) .none kV dc pm an cd ct,fun s v=>.of_eq rfl,fun base kb nb=>?_⟩;have E:Du l.prog w K mg base:=⟨fun e=>W.mg_of X G e,fun e=>W.mg_none_of X G e⟩;have kit_Whole_Whole:W.kitOne K (.ref C_Whole) (.ref C_Whole)=some true:=F1 kmr_Whole_Whole kt_Whole.1 kt_Whole.2 kmr_Whole_Whole;have kit_Unlike_Whole:W.kitOne K (.ref C_Unlike) (.ref C_Whole)=some false:=F1 kmr_Unlike_Whole kt_Whole.1 kt_Whole.2 kmr_Unlike_Unlike;have kit_Unlike_Unlike:W.kitOne K (.ref C_Unlike) (.ref C_Unlike)=some true:=F1 kmr_Unlike_Unlike kt_Unlike.1 kt_Unlike.2 kmr_Unlike_Unlike;have kit_Letter_Letter:W.kitOne K (.ref C_Letter) (.ref C_Letter)=some true:=F1 kmr_Letter_Letter kt_Letter.1 kt_Letter.2 kmr_Letter_Letter;have m_Letter:=E.of qc_Letter.1;have cl_Letter:=qc_Letter.2.1;have ic_Letter:=qc_Letter.2.2.2.2;have m_Piece:=E.of qc_Piece.1;have cl_Piece:=qc_Piece.2.1;have ic_Piece:=qc_Piece.2.2.2.2;have m_Whole:=E.of qc_Whole.1;have cl_Whole:=qc_Whole.2.1;have ic_Whole:=qc_Whole.2.2.2.2;have cl_Unlike:=qc_Unlike.2.1;have ic_Unlike:=qc_Unlike.2.2.2.2;have cl_Reading:=qc_Reading.2.1;have cl_Room:=qc_Room.2.1;obtain⟨g_RULES,_,_,_,_,_,_,tt_RULES⟩:=q_RULES;have g_RULES:=E.of g_RULES;have t_RULES:∀H,L2.Ja K H aRULES [.str "first",.str "last",.str "refuse"]:=fun H=>.inr ⟨_,_,_,tt_RULES,rfl,rfl,Jc (by simp),(.cons ⟨_,rfl⟩ (.cons ⟨_,rfl⟩ (.cons ⟨_,rfl⟩ .nil)))⟩
 obtain⟨g_OUTS,_,_,_,_,_,_,tt_OUTS⟩:=q_OUTS;have g_OUTS:=E.of g_OUTS;have t_OUTS:∀H,L2.Ja K H aOUTS [.str "oldest",.str "widest",.str "own"]:=fun H=>.inr ⟨_,_,_,tt_OUTS,rfl,rfl,Jc (by simp),(.cons ⟨_,rfl⟩ (.cons ⟨_,rfl⟩ (.cons ⟨_,rfl⟩ .nil)))⟩
 obtain⟨g_AGAINS,_,_,_,_,_,tt_AGAINS⟩:=q_AGAINS;have g_AGAINS:=E.of g_AGAINS;have t_AGAINS:∀H,L2.Ja K H aAGAINS [.str "fresh",.str "rest"]:=fun H=>.inr ⟨_,_,_,tt_AGAINS,rfl,rfl,Jc (by simp),(.cons ⟨_,rfl⟩ (.cons ⟨_,rfl⟩ .nil))⟩
 have B:Bt mg:=⟨E.no zs.1,E.no zs.2.1,E.no zs.2.2.1,E.no zs.2.2.2.1,E.no zs.2.2.2.2.1,E.no zs.2.2.2.2.2.1,E.no zs.2.2.2.2.2.2.1,E.no zs.2.2.2.2.2.2.2.1,E.no zs.2.2.2.2.2.2.2.2.1,E.no zs.2.2.2.2.2.2.2.2.2.1,E.no zs.2.2.2.2.2.2.2.2.2.2.1⟩;have B2:GO mg:=⟨E.no zs.2.2.2.2.2.2.2.2.2.2.2.2.2.1,E.no zs.2.2.2.2.2.2.2.2.2.2.2.2.2.2.1⟩;have B6:PB mg:=⟨E.no zs.2.2.2.2.2.2.2.2.2.2.2.2.2.2.2.1⟩;have B3:LO mg:=⟨E.no zs.2.2.2.2.2.2.2.2.2.2.2.1,E.no zs.2.2.2.2.2.2.2.2.2.2.2.2.1⟩;have T:Cn mg:=⟨qk.1.imp fun _ e=>E.of e,qk.2.1.imp fun _ e=>E.of e,qk.2.2.1.imp fun _ e=>E.of e,qk.2.2.2.1.imp fun _ e=>E.of e,qk.2.2.2.2.1.imp fun _ e=>E.of e⟩;have L:GW K C_Letter:=⟨cl_Letter,na_Letter.1,na_Letter.2.1,na_Letter.2.2.1,na_Letter.2.2.2.1,na_Letter.2.2.2.2.1⟩;have LP:Gm K C_Piece:=⟨cl_Piece,na_Piece.1,na_Piece.2.1,na_Piece.2.2.1,na_Piece.2.2.2.1,na_Piece.2.2.2.2.1,na_Piece.2.2.2.2.2.1,na_Piece.2.2.2.2.2.2.1⟩;have LW:EO K C_Whole "body":=⟨cl_Whole,na_Whole.1⟩
 have LU:EO K C_Unlike "at":=⟨cl_Unlike,na_Unlike.1⟩
 have LR:DP K C_Reading:=⟨cl_Reading,na_Reading.1,na_Reading.2.1,na_Reading.2.2.1,na_Reading.2.2.2.1,na_Reading.2.2.2.2.1⟩;have LM:M8 K C_Room:=⟨cl_Room,na_Room.1,na_Room.2.1,na_Room.2.2.1,na_Room.2.2.2.1,na_Room.2.2.2.2.1,na_Room.2.2.2.2.2.1,na_Room.2.2.2.2.2.2.1,na_Room.2.2.2.2.2.2.2.1,na_Room.2.2.2.2.2.2.2.2.1⟩;have g_is_whole:=E.fb q_is_whole (fun JQ=>nN JQ B) (by walk_at"b1");have g_is_whole_within:=E.fb q_is_whole_within (fun Ji=>eZ Ji g_is_whole) (by walk_at"b3");have g_is_whole_from:=E.fb q_is_whole_from (fun Jh=>yH Jh g_is_whole) (by walk_at"b2");have g_is_truth:=E.fb q_is_truth (fun NC=>jT NC B) (by walk_at"b1");have g_is_number:=E.fb q_is_number (fun Nj=>bF Nj T g_is_whole_within) (by walk_at"b1");have g_is_name:=E.fb q_is_name (fun Nd=>ZX Nd T B) (by walk_at"b1");have g_is_key:=E.fb q_is_key (fun Mv=>uO Mv B g_is_number g_is_name) (by walk_at"b1");have g_is_byte:=E.fb q_is_byte (fun M7=>bI M7 T g_is_whole_within) (by walk_at"b1");have g_is_body:=E.fb q_is_body (fun Ma=>rA Ma T B g_is_byte) (by walk_at"b1");have g_is_rule:=E.fb q_is_rule (fun M3=>bQ M3 B g_RULES t_RULES) (by walk_at"b1");have g_is_out:=E.fb q_is_out (fun My=>gF My B g_OUTS t_OUTS) (by walk_at"b1");have g_is_again:=E.fb q_is_again (fun Tv=>jL Tv B g_AGAINS t_AGAINS) (by walk_at"b1");have g_are_shared_parts:=E.fb q_are_shared_parts (fun Je=>dC Je g_is_number g_is_name g_is_body g_is_truth) (by walk_at"b5");have g_is_place:=E.fb q_is_place (fun Tp=>yI Tp T g_is_whole) (by walk_at"b1");have g_has_room:=E.fb q_has_room (fun TD=>eX TD T) (by walk_at"b3");obtain⟨a_Letter_init,i_Letter_init,_,_,_,_,_,_,_,_,_,l_Letter_init,c_Letter_init,_,_,_,t_Letter_init⟩:=q_Letter_init;have o_Letter:Wz l.prog w K mg base Jf 6 f_Letter_init _ ["self","number","sender","goal","body","keep"] (Am C_Letter):=vV ⟨_,_,_,_,_,_,_,_,_,_,rfl,l_Letter_init,c_Letter_init⟩ L B g_are_shared_parts;have M_Letter:Mk K C_Letter f_Letter_init:=⟨qc_Letter.2.2.1,a_Letter_init,i_Letter_init,qc_Letter.2.2.2.1⟩;have i_Letter:Gv l.prog w K mg base "Letter" C_Letter 6 ["self","number","sender","goal","body","keep"] [] (Am C_Letter):=⟨_,_,[],o_Letter,E.of qc_Letter.1,M_Letter,(fun s us kx hl=>by rw[List.append_nil]at hl ⊢;obtain⟨_,_,_,_,_,_,rfl⟩:=K1 hl;exact jW kx t_Letter_init),.nil⟩
 have i_Letter_d1:Gv l.prog w K mg base "Letter" C_Letter 6 ["self","number","sender","goal","body","keep"] [.bl false] (Am C_Letter):=⟨_,_,[.bool false],o_Letter,E.of qc_Letter.1,M_Letter,(fun s us kx hl=>by obtain⟨u0,u1,u2,u3,u4,rfl⟩:=nX hl;exact nI kx t_Letter_init),.cons rfl .nil⟩
 have m_Letter_key:=E.mb (sp:=Lc C_Letter) qc_Letter q_Letter_key (fun Nq=>ZS Nq L) (by walk_at"b1");obtain⟨a_Piece_init,i_Piece_init,_,_,_,_,_,_,_,_,_,l_Piece_init,c_Piece_init,_,_,_,t_Piece_init⟩:=q_Piece_init;have o_Piece:Wz l.prog w K mg base Jf 6 f_Piece_init _ ["self","number","sender","goal","at","body","more","keep"] (BI C_Piece):=ZW ⟨_,_,_,_,_,_,_,_,_,_,rfl,l_Piece_init,c_Piece_init⟩ LP B g_are_shared_parts g_is_place g_is_truth g_has_room;have M_Piece:Mk K C_Piece f_Piece_init:=⟨qc_Piece.2.2.1,a_Piece_init,i_Piece_init,qc_Piece.2.2.2.1⟩;have i_Piece:Gv l.prog w K mg base "Piece" C_Piece 6 ["self","number","sender","goal","at","body","more","keep"] [] (BI C_Piece):=⟨_,_,[],o_Piece,E.of qc_Piece.1,M_Piece,(fun s us kx hl=>by rw[List.append_nil]at hl ⊢;obtain⟨_,_,_,_,_,_,_,_,rfl⟩:=bG hl;exact rS kx t_Piece_init),.nil⟩
 have i_Piece_d1:Gv l.prog w K mg base "Piece" C_Piece 6 ["self","number","sender","goal","at","body","more","keep"] [.bl false] (BI C_Piece):=⟨_,_,[.bool false],o_Piece,E.of qc_Piece.1,M_Piece,(fun s us kx hl=>by obtain⟨u0,u1,u2,u3,u4,u5,u6,rfl⟩:=nP hl;exact mO kx t_Piece_init),.cons rfl .nil⟩
 have m_Piece_key:=E.mb (sp:=IU C_Piece) qc_Piece q_Piece_key (fun T7=>nB T7 LP) (by walk_at"b1");have m_Piece_end:=E.mb (sp:=Ka C_Piece) qc_Piece q_Piece_end (fun J0=>wB J0 LP B) (by walk_at"b1");have g_with_span:=E.fb q_with_span (fun T6=>eO T6 B) (by walk_at"b2");have g_lacking:=E.fb q_lacking (fun M6=>uK M6) (by walk_at"b2");have i_Whole:=E.kb qc_Whole q_Whole_init (fun F=>vD F LW B) (by walk_at"b2");have i_Unlike:=E.kb qc_Unlike q_Unlike_init (fun F=>eY F LU) (by walk_at"b2");have i_Reading:=E.kb qc_Reading q_Reading_init (fun F=>Zt F LR) (by walk_at"b2");have m_Reading_is_strange:=E.mb (sp:=Fh C_Reading C_Piece) qc_Reading q_Reading_is_strange (fun WZ=>bP WZ LR LP (LK m_Piece_end)) (by walk_at"b2");have m_Reading_unlike_number:=E.mb (sp:=O2 C_Reading C_Piece) qc_Reading q_Reading_unlike_number (fun Jr=>Zn Jr LR LP B3) (by walk_at"b2");have m_Reading_take:=E.mb (sp:=Lb C_Reading C_Piece) qc_Reading q_Reading_take (fun NF=>aF NF LR LP B B3 (LK m_Piece_end) g_with_span) (by walk_at"b2");have m_Reading_missing:=E.mb (sp:=Cf C_Reading) qc_Reading q_Reading_missing (fun Jn=>n7 Jn LR g_lacking) (by walk_at"b1");have m_Reading_taken_body:=E.mb (sp:=KG C_Reading) qc_Reading q_Reading_taken_body (fun JF=>Zu JF LR B) (by walk_at"b1");have m_Reading_answer_to:=E.mb (sp:=LC C_Reading C_Piece C_Whole C_Unlike) qc_Reading q_Reading_answer_to (fun JK=>bU JK LR LP m_Reading_is_strange m_Reading_unlike_number m_Reading_take m_Reading_missing m_Reading_taken_body (bY i_Whole) (jS i_Unlike)) (by walk_at"b2");have m_Reading_size:=E.mb (sp:=Cc C_Reading) qc_Reading q_Reading_size (fun Jq=>m4 Jq LR B) (by walk_at"b1");have i_Room:=E.kb qc_Room q_Room_init (fun F=>dJ F LM g_is_rule g_is_whole_from g_is_out g_is_again) (by walk_at"b6");have m_Room_check_time:=E.mb (sp:=CZ C_Room C_Reading) qc_Room q_Room_check_time (fun Jm=>tS Jm LM g_is_whole_from) (by walk_at"b2");have m_Room_let_go:=E.mb (sp:=BA C_Room C_Reading) qc_Room q_Room_let_go (fun Jo=>tE Jo LM) (by walk_at"b2");have m_Room_is_resting:=E.mb (sp:=Ht C_Room C_Reading) qc_Room q_Room_is_resting (fun JZ=>yS JZ LM) (by walk_at"b2");have m_Room_bytes_kept:=E.mb (sp:=AB C_Room C_Reading) qc_Room q_Room_bytes_kept (fun J8=>vZ J8 LM B2 m_Reading_size) (by walk_at"b1");have m_Room_end_waits:=E.mb (sp:=AO C_Room C_Reading) qc_Room q_Room_end_waits (fun Js=>jN Js LM B2 m_Room_let_go) (by walk_at"b1");have m_Room_first_out:=E.mb (sp:=O0 C_Room C_Reading) qc_Room q_Room_first_out (fun Nf=>ZN Nf LM B m_Reading_size) (by walk_at"b2");have m_Room_make_space:=E.mb (sp:=KN C_Room C_Reading) qc_Room q_Room_make_space (fun JY=>yM JY LM m_Room_bytes_kept m_Room_let_go m_Room_first_out) (by walk_at"b2");have m_Room_check_kept:=E.mb (sp:=CI C_Room C_Reading) qc_Room q_Room_check_kept (fun Jk=>wR Jk LM g_is_key) (by walk_at"b2");have m_Room_lacks:=E.mb (sp:=FO C_Room C_Reading) qc_Room q_Room_lacks (fun No=>nM No LM m_Room_check_kept m_Reading_missing) (by walk_at"b2");have m_Room_since:=E.mb (sp:=Lp C_Room C_Reading) qc_Room q_Room_since (fun NU=>aA NU LM m_Room_check_kept) (by walk_at"b2");have m_Room_kept:=E.mb (sp:=Hw C_Room C_Reading) qc_Room q_Room_kept (fun NH=>ZO NH LM B2) (by walk_at"b1");have m_Room_ends_at:=E.mb (sp:=L1 C_Room C_Reading) qc_Room q_Room_ends_at (fun ND=>jY ND LM B B2) (by walk_at"b1");have m_Room_take_in:=E.mb (sp:=IH C_Room C_Reading C_Piece C_Letter) qc_Room q_Room_take_in (fun Ny=>gO Ny LM LW ic_Whole ic_Unlike LU kit_Whole_Whole kit_Unlike_Whole B m_Whole (aM m_Piece_key) m_Room_is_resting (tL i_Reading) m_Reading_is_strange m_Reading_answer_to m_Room_make_space m_Room_let_go (xN i_Letter_d1)) (by walk_at"b2");have m_Room_tick:=E.mb (sp:=Lg C_Room C_Reading C_Letter) qc_Room q_Room_tick (fun T9=>Zx T9 LM m_Room_check_time m_Room_end_waits) (by walk_at"b2");have m_Room_come:=E.mb (sp:=KA C_Room C_Reading C_Piece C_Letter) qc_Room q_Room_come (fun T4=>bJ T4 LM LP B m_Piece ic_Piece m_Room_check_time m_Room_end_waits m_Room_take_in) (by walk_at"b3");have g_cell_at:=E.fb (sp:=IQ K) q_cell_at (fun Tc=>wG Tc B) (by walk_at"b2");have g_mixed:=E.fb q_mixed (fun Tb=>xX Tb) (by walk_at"b2");have g_digits:=E.fb q_digits (fun TU=>uD TU B g_mixed) (by walk_at"b2");have g_key:=E.fb q_key (fun GN=>Zy GN) (by walk_at"b1");have g_lawbody:=E.fb q_lawbody (fun M2=>dO M2 B g_mixed) (by walk_at"b2");have g_lawpiece:=E.fb q_lawpiece (fun Tq=>gK Tq B g_key) (by walk_at"b2");have g_lawstrange:=E.fb q_lawstrange (fun Nr=>yT Nr B) (by walk_at"b2");have g_lawunlike:=E.fb q_lawunlike (fun NJ=>eC NJ B) (by walk_at"b2");have g_put:=E.fb q_put (fun GD=>bZ GD B) (by walk_at"b3");have g_spans:=E.fb q_spans (fun TY=>tG TY B) (by walk_at"b1");have g_heap:=E.fb q_heap (fun DB=>rX DB) (by walk_at"b0");have g_lawtaken:=E.fb q_lawtaken (fun Tk=>ZB Tk B g_lawstrange g_lawunlike g_put g_spans) (by walk_at"b3");have g_lawgone:=E.fb q_lawgone (fun JI=>jZ JI) (by walk_at"b3");have g_lawsize:=E.fb q_lawsize (fun Nw=>y0 Nw B B2) (by walk_at"b1");have g_lawended:=E.fb q_lawended (fun Ts=>d7 Ts B2 g_lawgone) (by walk_at"b2");have g_lawfirst:=E.fb q_lawfirst (fun Tr=>x6 Tr B B2) (by walk_at"b2");have g_lawkept:=E.fb q_lawkept (fun M4=>yA M4 B g_lawgone g_lawsize g_lawfirst) (by walk_at"b4");have g_lawcame:=E.fb (sp:=HQ K) q_lawcame (fun Mb=>uH Mb B6 g_heap g_lawtaken g_lawgone g_lawkept) (by walk_at"b3");have g_lawplain:=E.fb (sp:=FT K C_Letter) q_lawplain (fun TB=>xE TB B L m_Letter ic_Letter kit_Letter_Letter (jI m_Letter_key)) (by walk_at"b1");have g_lawasked:=E.fb (sp:=IG C_Room C_Reading) q_lawasked (fun Tu=>mJ Tu B B2 m_Room_kept m_Room_bytes_kept m_Room_since m_Room_lacks m_Room_ends_at g_lawsize g_spans) (by walk_at"b2");have g_lawtime:=E.fb q_lawtime (fun M1=>rF M1 B B2) (by walk_at"b3");have g_lawmodel:=E.fb q_lawmodel (fun Tz=>w5 Tz) (by walk_at"b1");have ck_Piece:Fb l.prog w K mg base "Piece" "keep" 6 (KD C_Piece):=rZ o_Piece m_Piece M_Piece (fun s us u kx hl=>by obtain⟨_,_,_,_,_,_,_,rfl⟩:=tT hl;exact gI kx t_Piece_init)
 exact eN (CR:=C_Reading) BN B B2 LM LP L g_cell_at g_digits g_lawbody g_lawpiece g_lawmodel g_lawtime g_lawended g_lawcame g_lawplain g_lawasked (yC i_Room) ck_Piece (LK m_Piece_end) m_Room_tick m_Room_come
theorem rG{l:W.OpenLaw}{q:Wc}{loose:List Str}{XP:(Str->Option Value)->Heap->Prop}{YP:World->Heap->Prop}{d:DefRec}{K:Params->W.Frag}(hn:l.most=some 63)(hdf:d.params.defaults=[])
  (hY:∀ (w:Wh) (h:Wn),YP w h->(K w.params).In h)
  (F : ∀ (w : World) (mg : Str -> Option Value) (fa : Addr) (h : Heap), (K w.params).In h -> h.Ns mainGlobals mg -> mg d.name = some (.ref fa) ->
   ∃ fd : FuncData, (∀ (s : Shared) (u : Value), BindsTo s fd ⟨[u], []⟩ [("_law_script", u)]) /\ ∀ base : Heap, (K w.params).In base -> base.Ns mainGlobals mg -> Wz l.prog w (K w.params) mg base Jf 11 fa fd ["_law_script"] (AG (K w.params))) :
  W.WalkO q loose XP YP l.row.toRowW d [] (fun f vs=>PySem.call f vs):=
 L2.Cr (n:=63) (k:=11) (x:="_law_script") (CX:=fun _=>Jf) (sp:=fun w=>AG (K w.params)) hn (by decide) hdf ⟨rfl,by decide,by decide⟩ hY F (fun _ _ a b c _ e=>⟨a,b,rfl,e,c,fun _=>rfl⟩) fun _ _ _ _ _ z=>z
end Mine
namespace PySem.W.Fast
def tw12766114027197700445:=()
def tw12646715027070193683:=()
def tw7282297884103475299:=()
def tw7398459938245906035:=()
def tw9659655343556700041:=()
def tw18177500354527821161:=()
def tw2593951839275793652:=()
def tw15909362824256733657:=()
def tw7849069926423413013:=()
def tw12964802447567022294:=()
def tw13541949271799326709:=()
def tw10942294662731770324:=()
def tw2276375742343227581:=()
def tw575399994265715587:=()
def tw15088553616899740592:=()
def tw11163236623570844413:=()
def tw8360453968798940479:=()
def tw11254538058605955846:=()
def tw4366593663846638367:=()
def tw12597656142717678043:=()
def tw549331038357012698:=()
def tw12142862333867489473:=()
def tw17973458103858623881:=()
def tw13565103805941890726:=()
def tw10262584618927888065:=()
def tw17063323207693140863:=()
def tw3685567942779537488:=()
def tw9299236911335321833:=()
def tw9451182555517926485:=()
def tw7801649119282967032:=()
def tw3144951193812830703:=()
def tw13860589396338180218:=()
def tw14775930838578817559:=()
def tw5258861961385601570:=()
def tw6662328631802641921:=()
def tw3474744655998009511:=()
def tw12077439846942174470:=()
def tw287475450469673575:=()
def tw9954751982063780605:=()
def tw11269522336159966435:=()
def tw3827476812416207023:=()
def tw7664712977450637373:=()
def tw342895798059187540:=()
def tw325588208997475432:=()
def tw9921197185241164070:=()
def tw16327424545278026614:=()
def tw4535333610883035897:=()
def tw13618589266178568620:=()
def tw7337574183775960408:=()
def tw585131557564303113:=()
def tw14218881664503525926:=()
def tw17728568008029259023:=()
def tw5631918444802054579:=()
def tw5701899530836435718:=()
def tw10080719951342452026:=()
def tw18208260132127519284:=()
def tw6655418636660568482:=()
def tw1557659422963636545:=()
def tw15415393898660733873:=()
def tw3302963549439173606:=()
def tw18243376546634750230:=()
def tw16299664009256887363:=()
def tw11185378054611625095:=()
def tw11120665587265413898:=()
def tw16557879444739153242:=()
def tw12342436912216192357:=()
def tw16132634912650484709:=()
def tw14858222932696969105:=()
def tw5891504861411084779:=()
def tw15280702750264402390:=()
def tw17672578289912039589:=()
def tw1689348438034713076:=()
def tw9037783527811493489:=()
def tw17762944893342374873:=()
def tw18019094357517606320:=()
def tw3621511803313961128:=()
def tw11928478048981492486:=()
def tw8747417057601471950:=()
def tw10884079853323587742:=()
def tw2339603660675566187:=()
def tw10613763399902665939:=()
def tw10770434070370440431:=()
def tw6290787078525461756:=()
def tw11823136291560454778:=()
def tw2600715140739251361:=()
def tw930028426650457795:=()
def tw6371281121650333839:=()
def tw17291703377124664261:=()
def tw4056801127879016175:=()
def tw6061397609964959071:=()
def tw12743061658049134344:=()
def tw11684774750154862599:=()
def tw12238422568232785573:=()
def tw1585068159306943417:=()
def tw2258433081080920885:=()
def tw12685120465547534484:=()
def tw14893743772835826513:=()
def tw2325264051104607067:=()
def tw9526268530753272816:=()
def tw18197789327165413744:=()
def tw12734127131299025043:=()
def tw4435879488563199854:=()
def tw14912103884220308540:=()
def tw5894337105557532893:=()
def tw606130469446176438:=()
def tw2571869845572346428:=()
def tw6991861907429544943:=()
def tw16433751735214445636:=()
def tw15266073158823768642:=()
def tw31944658017419736:=()
def tw11263748693190815550:=()
def tw2090792244979914222:=()
def tw18388330184856394440:=()
def tw18276222404462554675:=()
def tw13807289219600853235:=()
def tw100204036944079133:=()
def tw9793821609524206251:=()
def tw919084128275398567:=()
def tw15636217920977665878:=()
def tw11671197779730585764:=()
def tw17483983518227595982:=()
def tw6420187181246363714:=()
def tw4935948999054917504:=()
def tw15882918273791246083:=()
def tw2059195448633281866:=()
def tw14246801356655834795:=()
def tw13402636654482423770:=()
def tw13281037251094795355:=()
def tw12473757989929804913:=()
def tw8650593544260661443:=()
def tw11261293012524553756:=()
def tw12173319589516517925:=()
def tw9116928701599550409:=()
def tw16364377413425389774:=()
def tw12471461551457105591:=()
def tw1250549384544869249:=()
def tw10308398958763840666:=()
def tw12558661933993500758:=()
def tw3561584395283107056:=()
def tw916669151529812341:=()
def tw18391818628861967952:=()
def tw7513714271296464317:=()
def tw18215946713503531605:=()
def tw2523756078326796459:=()
def tw6270346805433296719:=()
def tw8599961611599957540:=()
def tw2743642249015423088:=()
def tw17383104167645145534:=()
def tw9592621797917211840:=()
def tw692679976802720415:=()
def tw5896722011394187363:=()
def tw7259762148129002864:=()
def tw14290559030331747916:=()
def tw12989407003587400769:=()
def tw8008252495995569664:=()
def tw17987727756730703775:=()
def tw5529590014284233530:=()
def tw16722030988442979434:=()
def tw2035272651096696939:=()
def tw14928542513476829372:=()
def tw11119741207472388173:=()
def tw11830309347553514419:=()
def tw12853396237750367536:=()
def tw15233905170422113117:=()
def tw13057615834521165114:=()
def tw4609163980059057195:=()
def tw11182732860293963179:=()
def tw4784747428706736174:=()
def tw9154415703924060665:=()
def tw10075530392378168649:=()
def tw14077378449838590830:=()
def tw6601046614316324558:=()
def tw5024788178279935317:=()
def tw6922792871716477991:=()
def tw18352148532846928613:=()
def tw6901643395506333227:=()
def tw1098180808932055715:=()
def tw10715286173872292017:=()
def tw12787763051558865632:=()
def tw17560690058618581379:=()
def tw11205285333021979100:=()
def tw17161300666406410048:=()
def tw3737922610915377789:=()
def tw10721879513237903753:=()
def tw7319690310767098383:=()
def tw1265870473264489673:=()
def tw3094738470284739152:=()
def tw15919605783257170601:=()
def tw6055664555046333760:=()
def tw7148125028860094374:=()
def tw4724640261739692200:=()
def tw10782329045312351907:=()
def tw3912152225116715008:=()
def tw11863434157840996689:=()
def tw6291100159557211717:=()
def tw8930876730261157060:=()
def tw1201635282236105799:=()
def tw1664234552073345859:=()
def tw15493016632148548174:=()
def tw6734326055841583740:=()
def tw3366813534966766490:=()
def tw5457860722986596290:=()
def tw11326959965000691057:=()
def tw11874276952262962782:=()
def tw9361035685458158008:=()
def tw11147142893251896156:=()
def tw15231736705441239624:=()
def tw10746633545081859777:=()
def tw3315640480237022124:=()
def tw11643944871821746252:=()
def tw16920613094510255529:=()
def tw12430187662503490243:=()
def tw2081124522639664005:=()
def tw14232692695957912619:=()
def tw14156082232979849907:=()
def tw11333585443933673079:=()
def tw35412840080667235:=()
def tw17326455010728941858:=()
def tw6414445789864375957:=()
def tw14478300312678518921:=()
def tw1343803643601747573:=()
def tw15130171707324872941:=()
def tw8447902032309217521:=()
def tw12955322854918763853:=()
def tw14964414687135874234:=()
def tw17798874022927763689:=()
def tw6590033329103039206:=()
def tw1149400892946270551:=()
def tw529090902324168618:=()
def tw10418375909384889869:=()
def tw15949631484159490414:=()
def tw1266490035318485888:=()
def tw1957308176621557719:=()
def tw17556579077026376917:=()
def tw6310393558743829452:=()
def tw2733036453398853431:=()
def tw16443189616057782912:=()
def tw7513988478232380778:=()
def tw2219603701769674712:=()
def tw4115234517521616887:=()
def tw13773394681443688800:=()
def tw13773102037170035829:=()
def tw16211375910233266892:=()
def tw13903853505399958023:=()
def tw4857042271160393280:=()
def tw10232453282143538296:=()
def tw7262743304395656462:=()
def tw11349679854068531227:=()
def tw5161152433644917476:=()
def tw8012992609161666492:=()
def tw3977601746312055845:=()
def tw7982559111776700484:=()
def tw18089327576359727654:=()
def tw12303329052771425715:=()
def tw6786943979679537296:=()
def tw6622160301818457426:=()
def tw3862037293247987665:=()
def tw18406135512433705686:=()
def tw16115747702621250083:=()
def tw9608691054106280313:=()
def tw10204376244534489686:=()
def tw12102572748056897358:=()
def tw13479174233692809833:=()
def tw12012244345830412660:=()
def tw550473052314651712:=()
def tw2732346605880583650:=()
def tw13445949628440090692:=()
def tw3626455399565353550:=()
def tw16999508952029910366:=()
def tw11857902161795823045:=()
def tw11829828153340895666:=()
def tw9087549825346764579:=()
def tw15019562883259408422:=()
def tw13797417005924355152:=()
def tw6859075491930674966:=()
def tw17608033077175542833:=()
def tw16216568608608395149:=()
def tw6960763711348389678:=()
def tw17666477809045631790:=()
def tw13455509643984877529:=()
def tw12321404366012600755:=()
def tw16561807150161020585:=()
def tw5592369702443584176:=()
def tw4455493431877875770:=()
def tw10993820122719676317:=()
def tw2457921276398689699:=()
def tw15001002523205212035:=()
def tw5257638936019306117:=()
def tw15311042023306702281:=()
def tw2298613734637817389:=()
def tw5380614970830624462:=()
def tw13932847981110139967:=()
def tw16015090102116326319:=()
def tw1628180993268990691:=()
def tw4820979714831476197:=()
def tw4314158588261394988:=()
def tw12703960058901013830:=()
def tw21832688965102454:=()
def tw12232924041926426921:=()
def tw9521630551307484574:=()
def tw5450058455932050956:=()
def tw654965626334000986:=()
def tw12646591291395296322:=()
def tw14035423063161275212:=()
def tw4152717920284512767:=()
def tw6180616427799445514:=()
def tw15059022293413376412:=()
def tw14653540085604949079:=()
def tw1600103335509818025:=()
def tw2370638360071507025:=()
def tw9148304068531262539:=()
def tw10151165566952887655:=()
def tw15742014035069592907:=()
def tw14972004099787917804:=()
def tw12689951871898471859:=()
def tw13923457456606986614:=()
def tw5931941230732877457:=()
def tw17755093825402625668:=()
def tw5145753145972044403:=()
def tw1773511988474056353:=()
def tw16674129194318531578:=()
def tw18214617733700381618:=()
def tw8729878769875458456:=()
def tw8273434759966132533:=()
def tw9227173483663392114:=()
def tw16557980971195839773:=()
def tw6101541633680476124:=()
def tw15579756936187068500:=()
def tw11963440963165633333:=()
def tw16523314972611462333:=()
def tw12438873399988353145:=()
def tw5818515774580811022:=()
def tw3617324731953528697:=()
def tw11635559273078349042:=()
def tw17175824326813121037:=()
def tw87615645661410208:=()
def tw13849393270580306086:=()
def tw17743356960857038940:=()
def tw14634855739474532688:=()
def tw6244313527625222990:=()
def tw17571804514188621638:=()
def tw10937880687623869494:=()
def tw15797476156460988983:=()
def tw8827302971158661567:=()
def tw1436891247565855675:=()
def tw13510834220295768097:=()
def tw9495767260231150505:=()
def tw10593960122678403565:=()
def tw3728852152463961796:=()
def tw10763501899459748397:=()
def tw9994656128909539884:=()
def tw7041750316531815971:=()
def tw7149876700068773201:=()
def tw11946377852843915044:=()
def tw4365728551624982167:=()
def tw12531876575728220224:=()
def tw12600985099815714141:=()
def tw7872041907277946409:=()
def tw1745669435527376558:=()
def tw5625579513714224124:=()
def tw4963198845571355395:=()
def tw13197176040397854771:=()
def tw8522373319091199073:=()
def tw6517711335876482020:=()
def tw2643668829536627652:=()
def tw1873888107765064306:=()
def tw1612926650843627364:=()
def tw8146487562089048345:=()
def tw12932006204309080071:=()
def tw12225188499540450995:=()
def tw565172093459757936:=()
def tw82629239781389703:=()
def tw5104503384534678254:=()
def tw13907215532795675667:=()
def tw6327156846752092356:=()
def tw18248077340700331524:=()
def tw17326300431915247906:=()
def tw13107213261394951516:=()
def tw3826738881197476445:=()
def tw309284273368477063:=()
def tw17154659595667079929:=()
def tw16352247431641820212:=()
def tw9815905429396848835:=()
def tw14451473266882065897:=()
def tw11833190816629122147:=()
def tw15892321914184743041:=()
def tw8183581248100959909:=()
def tw1374808942387980365:=()
def tw4173432422241798524:=()
def tw13801445122061448990:=()
def tw14718268287044485510:=()
def tw17000349448588196698:=()
def tw10549103106777041196:=()
def tw17952175598399979199:=()
def tw3658552270550904687:=()
def tw3899908802408391650:=()
def tw13959130755156283798:=()
def tw896350687041642410:=()
def tw15747512974428350758:=()
def tw18148199763078720183:=()
def tw14664126278121225630:=()
def tw9957751372050989244:=()
def tw14083493163694428269:=()
def tw7706730351942365006:=()
def tw2364665477051734324:=()
def tw14021061198069016047:=()
def tw5103043145038898479:=()
def tw2838731195260920829:=()
def tw960956928564619432:=()
def tw8055487729300725910:=()
def tw10667120179806305531:=()
def tw8709199316160928080:=()
def tw17204304728984999707:=()
def tw2427410640969309523:=()
def tw6161043980431484026:=()
def tw985145417340649052:=()
def tw14258150076197755404:=()
def tw6000400545976162096:=()
def tw8545659259472766123:=()
def tw4519427290567410484:=()
def tw14976280637728315969:=()
def tw12228567076278549189:=()
def tw14028077042576360157:=()
def tw6479789970965116007:=()
def tw11685047089671555510:=()
def tw3623154907130567997:=()
def tw12269078589399167495:=()
def tw15608587673680310715:=()
def tw5414008867962194540:=()
def tw17668477049748791741:=()
def tw3241566999806064066:=()
def tw16967981067967526590:=()
def tw16412449912466148359:=()
def tw2361099964073135872:=()
def tw4094807574048176469:=()
def tw13857931356769547606:=()
def tw9964270057778009820:=()
def tw17572608027588219036:=()
def tw6951478378422304433:=()
def tw7485890237332441542:=()
def tw10707773333320298150:=()
def tw10610237966070723529:=()
def tw4391276122018845055:=()
def tw3074841116738207549:=()
def tw423979729782357170:=()
def tw17937867609896259122:=()
def tw15818781726900045811:=()
def tw10508613133478801252:=()
def tw10520874422807024914:=()
def tw2717368405244015283:=()
def tw8526702249243017987:=()
def tw10308266879880049030:=()
def tw1949933795366231854:=()
def tw6820441894128401586:=()
def tw3582576943987337896:=()
def tw13296682543875788719:=()
def tw16620727326975540951:=()
def tw14622487048140943959:=()
def tw2274328259326424574:=()
def tw8122188911781039755:=()
def tw15604656221916966639:=()
def tw17385075391184921749:=()
def tw8444667736408681569:=()
def tw11968814332279108791:=()
def tw16212136792611971527:=()
def tw12790776514142028256:=()
def tw13247262005308679724:=()
def tw2765567463030702016:=()
def tw7190481118271267123:=()
def tw9234736349593376407:=()
def tw14726944102311486740:=()
def tw16651968253882542853:=()
def tw2941957199927556050:=()
def tw14315937757688511543:=()
def tw1015228514595195203:=()
def tw15099713532736311489:=()
def tw2493081632976364726:=()
def tw1002829740973096111:=()
def tw14730074402300903541:=()
def tw2065771287418129042:=()
def tw15855274894182528716:=()
def tw10870574035060391089:=()
def tw17154696344418543885:=()
def tw6208181074951085990:=()
def tw10145316540015694010:=()
def tw1073870369380604775:=()
def tw13463412004129344910:=()
def tw10733128138017995726:=()
def tw165416313976510080:=()
def tw11650569736695701532:=()
def tw3253096937333726136:=()
def tw8895965694003902511:=()
def tw16360952058610430205:=()
def tw2347921256151928373:=()
def tw1942952923343614943:=()
def tw7877440361121050048:=()
def tw5456160463398108658:=()
def tw11083679128699151686:=()
def tw766972718131400764:=()
def tw16603882091367752447:=()
def tw9468303716450828293:=()
def tw10788613270793824072:=()
def tw4213682925988657598:=()
def tw15121132381369913668:=()
def tw14865834425146738472:=()
def tw2589878062988810826:=()
def tw10631429006458165842:=()
def tw968301194543943612:=()
def tw6915365290520221804:=()
def tw11646269530268333679:=()
def tw5273722398750476727:=()
def tw175096033946743505:=()
def tw14999708209913887991:=()
def tw7597099939816437669:=()
def tw14247409311272035771:=()
def tw15476846922964093771:=()
def tw12458621345481493748:=()
def tw8196531389050195472:=()
def tw15707557851741615594:=()
def tw9764523767066704845:=()
def tw8234121161343331763:=()
def tw17349110812904006991:=()
def tw10527012832800512159:=()
def tw14450041394464567721:=()
def tw5310766356387417215:=()
def tw10826929168070977929:=()
def tw16686429698002526622:=()
def tw15073177904256253496:=()
def tw16890186646450230429:=()
def tw17930249729229887272:=()
def tw2488037617695173079:=()
def tw965404255148784635:=()
def tw10609043491913937044:=()
def tw345689662292498014:=()
def tw2132278986527786756:=()
def tw15504553287590260923:=()
def tw13400153120865590865:=()
def tw9369487279351484052:=()
def tw9267504263568560312:=()
def tw2309138982239674322:=()
def tw11259095928934978362:=()
def tw11590966876757996928:=()
def tw12361205674648824415:=()
def tw16904076815303590505:=()
def tw7798645040554975844:=()
def tw9527438151635473147:=()
def tw15682508574813546851:=()
def tw8759605977032728787:=()
def tw4605947303680949547:=()
def tw17115582545039780769:=()
def tw6949916573872928540:=()
def tw16381863566085394278:=()
def tw16437927997897430206:=()
def tw14980205479600915411:=()
def tw13285754170207160699:=()
def tw2513710732919439899:=()
def tw9993872863147873080:=()
def tw13301645027405191264:=()
def tw3202668663240761502:=()
def tw6939466145078813643:=()
def tw15774047077598389978:=()
def tw14186978137934015367:=()
def tw1877980088780679594:=()
def tw8466768556591652368:=()
def tw1847594749134088687:=()
def tw1266879696592541371:=()
def tw16739884706303644816:=()
def tw11965732131841221490:=()
def tw17933562079438891649:=()
def tw4233548243308339939:=()
def tw8209055439216151345:=()
def tw13055808168795728364:=()
def tw17215697150495660338:=()
def tw687728136822642141:=()
def tw9890036958865246012:=()
def tw10436575492280055765:=()
def tw9850355901580801939:=()
def tw15463613038156344863:=()
def tw6005718160744056830:=()
def tw7153018982266630760:=()
def tw663430853847297174:=()
def tw15294278392449772307:=()
def tw16360443274476325901:=()
def tw15433474167783597923:=()
def tw14993848055187272130:=()
def tw6371126846320578767:=()
def tw10743608609658117546:=()
def tw9283267902034179630:=()
def tw312452446558046142:=()
def tw16511465336408880942:=()
def tw11016812005969342812:=()
def tw4509952634557704257:=()
def tw1697962971285556257:=()
def tw13062017130357278398:=()
def tw4538289841977124252:=()
def tw17946143897669951453:=()
def tw11668219058310355870:=()
def tw4245292214303357935:=()
def tw17734011911683420863:=()
def tw10690045295554941553:=()
def tw324370267494708888:=()
def tw9341676877395655271:=()
def tw7150421783854880881:=()
def tw2947504494922891474:=()
def tw4620737370003448758:=()
def tw2121858708997801807:=()
def tw6939770477507992524:=()
def tw16001882199272351111:=()
def tw6595842193327027908:=()
def tw15795874514619892522:=()
def tw5440929174673292863:=()
def tw13790337554882866842:=()
def tw6322431754005428929:=()
def tw10914842521561753698:=()
def tw3715125636647344615:=()
def tw9553888652739415171:=()
def tw9204032003850063034:=()
def tw8744808561615526158:=()
def tw8529673959611579461:=()
def tw5724191233116111307:=()
def tw8011560052895483380:=()
def tw17810142911409985087:=()
def tw13004482686517104248:=()
def tw17202073068517145528:=()
def tw10658374844574175921:=()
def tw8978849771866210254:=()
def tw7896530113410584552:=()
def tw17648432081180609167:=()
def tw7514343877200023118:=()
def tw13742001936042885879:=()
def tw10699268213568298148:=()
def tw2611986455158239634:=()
def tw1264781728688244423:=()
def tw17032156488884173566:=()
def tw11630456664697776997:=()
def tw13005823039978881043:=()
def tw9912238851857630500:=()
def tw4551517491565053362:=()
def tw10082176879158554273:=()
def tw14306120543585910092:=()
def tw901571852328930931:=()
def tw15438971831319160788:=()
def tw8790950437791888219:=()
def tw7861797089090864864:=()
def tw13413433402717924126:=()
def tw9280737813795505833:=()
def tw12824074491477549468:=()
def tw15866452691490905378:=()
def tw13140731854013181666:=()
def tw10672773664268678303:=()
def tw16701906192618561412:=()
def tw1497528517595293183:=()
def tw15251605907369136126:=()
def tw13626455478669170545:=()
def tw15560531964581768975:=()
def tw9725813289003964118:=()
def tw285553733153209437:=()
def tw3899389087029616852:=()
def tw12428883214338419654:=()
def tw15495376034636098278:=()
def tw15747404833563247691:=()
def tw12581251616851260534:=()
def tw13789507653726208118:=()
def tw63652770435069925:=()
def tw3423624581994465066:=()
def tw9754190646566289356:=()
def tw11118347323167795117:=()
def tw11978465060933292804:=()
def tw6875926991816217489:=()
def tw13285988481778817887:=()
def tw8364153273947453736:=()
def tw2879031551755119281:=()
def tw16806071263522771615:=()
def tw1243329359119737064:=()
def tw9867461645129311553:=()
def tw4275807466801841116:=()
def tw4735051576590938128:=()
def tw11474155352766930356:=()
def tw2422212956578871157:=()
def tw4443097528874775627:=()
def tw3746552511997245710:=()
def tw9998707003546675537:=()
def tw10199099782576025249:=()
def tw10564157341351443936:=()
def tw8693777420216303103:=()
def tw8141789077303400729:=()
def tw3095925835813458870:=()
def tw5610231171079609030:=()
def tw7523523020006216698:=()
def tw10466357772943632591:=()
def tw870506364472734649:=()
def tw5960032720121012004:=()
def tw12359283422177493096:=()
def tw772708735719987063:=()
def tw12851264178493418244:=()
def tw377823183561450861:=()
def tw10272251651523681826:=()
def tw2491133539090925047:=()
def tw13423184907034144271:=()
def tw1108038991218324404:=()
def tw11460346628026853518:=()
def tw1597591722912927783:=()
def tw9902203949245039694:=()
def tw6323717667358688152:=()
def tw17227797973791281713:=()
def tw9209049318107723259:=()
def tw12242015600304879435:=()
def tw5665440708865986787:=()
def tw13690212279907208488:=()
def tw11968309004531376899:=()
def tw15284042205504362281:=()
end PySem.W.Fast
open PySem PySem.W PyProof.Rows
local macro_rules | `(tactic| walk_at"kf") => `(tactic| exact ⟨by k_is, _, _, _, _, _, _, _, _, _, by k_is, by k_is, by k_is⟩)
local macro_rules | `(tactic| walk_at"km") => `(tactic| exact ⟨by k_is, by k_is, _, _, _, _, _, _, _, _, _, by k_is, by k_is, by k_is⟩)
local macro_rules | `(tactic| walk_at"kd") => `(tactic| exact ⟨by k_is, by k_is, _, _, _, _, _, _, _, _, _, by k_is, by k_is, _, _, _, by k_is⟩)
local macro_rules | `(tactic| walk_at"kc") => `(tactic| exact ⟨by k_is, ⟨by k_is, by k_is, by k_is, by k_is⟩, by k_is, by k_is, ⟨by k_is, by k_is, by k_is, by k_is⟩⟩)
local macro_rules | `(tactic| walk_at"kn") => `(tactic| (repeat (first | exact trivial | refine ⟨by k_is, ?_⟩)))
local macro_rules | `(tactic| walk_at"k2") => `(tactic| exact ⟨by k_is, by k_is⟩)
local macro_rules | `(tactic| walk_at"k1") => `(tactic| k_is)
set_option maxRecDepth 100000 in
set_option maxHeartbeats 0 in
theorem PySem.Challenge.cw_pieceways_k41_a_room_by_a_model_holds : PySem.Challenge.rw_pieceways_k41_a_room_by_a_model.Holds := by
 w_on;o_law;k_head;(case hw=>w_witness2)
 k_fill
 refine Mine.rG (l:=PySem.Challenge.rw_pieceways_k41_a_room_by_a_model) rfl rfl (fun w h Y=>PySem.W.kIn_of Y) ?F
 case F=>
  intro w mg fa h KX G hmg;exact Mine.H9 KX G hmg (by walk_at"kf") (by walk_at"kf") (by walk_at"kf") (by walk_at"kf") (by walk_at"kf") (by walk_at"kf") (by walk_at"kf") (by walk_at"kf") (by walk_at"kf") (by walk_at"kf") (by walk_at"kf") (by walk_at"kf") (by walk_at"kf") (by walk_at"kf") (by walk_at"kf") (by walk_at"kf") (by walk_at"kf") (by walk_at"kf") (by walk_at"kf") (by walk_at"kf") (by walk_at"kf") (by walk_at"kf") (by walk_at"kf") (by walk_at"kf") (by walk_at"kf") (by walk_at"kf") (by walk_at"kf") (by walk_at"kf") (by walk_at"kf") (by walk_at"kf") (by walk_at"kf") (by walk_at"kf") (by walk_at"kf") (by walk_at"kf") (by walk_at"kf") (by walk_at"kf") (by walk_at"kf") (by walk_at"kf") (by walk_at"kf") (by walk_at"kf") (by walk_at"kc") (by walk_at"kn") (by walk_at"km") (by walk_at"kd") (by walk_at"kc") (by walk_at"kn") (by walk_at"km") (by walk_at"km") (by walk_at"kd") (by walk_at"kc") (by walk_at"kn") (by walk_at"km") (by walk_at"kc") (by walk_at"kn") (by walk_at"km") (by walk_at"kc") (by walk_at"kn") (by walk_at"km") (by walk_at"km") (by walk_at"km") (by walk_at"km") (by walk_at"km") (by walk_at"km") (by walk_at"km") (by walk_at"km") (by walk_at"kc") (by walk_at"kn") (by walk_at"km") (by walk_at"km") (by walk_at"km") (by walk_at"km") (by walk_at"km") (by walk_at"km") (by walk_at"km") (by walk_at"km") (by walk_at"km") (by walk_at"km") (by walk_at"km") (by walk_at"km") (by walk_at"km") (by walk_at"km") (by walk_at"km") (by walk_at"km") (by walk_at"k2") (by walk_at"k2") (by walk_at"k2") (by walk_at"k1") (by walk_at"k1") (by walk_at"k1") (by walk_at"k1") ⟨⟨_,by k_is⟩,⟨_,by k_is⟩,⟨_,by k_is⟩,⟨_,by k_is⟩,⟨_,by k_is⟩,trivial⟩ ⟨by k_is,_,_,_,_,_,_,by k_is⟩ ⟨by k_is,_,_,_,_,_,_,by k_is⟩ ⟨by k_is,_,_,_,_,_,by k_is⟩ (by walk_at"kn")
