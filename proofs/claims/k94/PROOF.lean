import PyProof.Rows.All
import Wide.All
import OpenK.AllK
import Wide.FinOn
import Lean
import PyProof.EqAt
import PyProof.EqKinds
import PyProof.TupleCall
import OpenK.KOwn
import KE.KIsAll
import KE.KLam
import KE.KEqDict
import PySem.Challenge.RW_pieceways_k94_whole_space_is_kept
set_option Elab.async false
set_option linter.all false
set_option maxRecDepth 100000
set_option compiler.extract_closed false
noncomputable section
theorem hide_{G:Prop}(h:∀N:Prop,(G->N)->N):G:=h G id
local macro_rules|`(tactic|obtain $p:rcasesPatMed := $e:term)=>`(tactic|first|((refine hide_ fun N hN=>?_;rcases $e:term with $p)<;>(refine hN ?_;clear hN;clear N))|rcases $e:term with $p)
set_option bootstrap.genMatcherCode false
local macro_rules|`(command|def $n:declId $s:optDeclSig $v:declVal)=>`(command|noncomputable def $n:declId $s:optDeclSig $v:declVal)
def Y0:=@PySem.wpAny_bind
def Y1:=@List.length_map
def Y2:=@PySem.wpAny_pure
def Y3:=@List.mem_map
def Y4:=@List.getElem?_eq_getElem
def Y5:=@if_neg
def Y6:=@if_pos
def Y7:=@PySem.Heap.get?_push_of_some
def Y8:=@Nat.le_refl
def Y9:=@List.getElem?_map
def Ya:=@decide_eq_true_eq
def Yb:=@List.mem_singleton
def Yc:=@PySem.Heap.get?_push_size
def Yd:=@PySem.Heap.lt_size
def Ye:=@Option.map_eq_some_iff
def Yf:=@List.mem_filter
def Yg:=@List.size_toArray
def Yh:=@decide_eq_true
def Yi:=@Nat.lt_of_le_of_lt
def Yj:=@Bool.false_ne_true
def Yk:=@decide_eq_false
def Yl:=@List.length_append
def Ym:=@List.getElem?_eq_some_iff
def Yn:=@List.mem_cons_of_mem
def Yo:=@List.mem_cons
def Yp:=@List.mem_append
def Yq:=@List.mem_of_getElem?
def Yr:=@Nat.ne_of_lt
def Ys:=@Nat.zero_le
def Yt:=@List.length_take
def Yu:=@List.take_of_length_le
def Yv:=@List.nodup_cons
def Yw:=@List.map_map
def Yx:=@List.mem_append_right
def Yy:=@PySem.wpAny_ite_false
def Yz:=@Array.getElem?_eq_getElem
def YA:=@Bool.eq_iff_iff
def YB:=@PySem.Heap.get?_update_self
def YC:=@List.filter_sublist
def YD:=@List.mem_cons_self
def YE:=@List.length_filter_le
def YF:=@Nat.le_trans
def YG:=@List.find?_cons
def YH:=@Nat.lt_of_lt_of_le
def YI:=@List.map_congr_left
def YJ:=@List.take_add_one
def YK:=@PySem.wpAny_holding
def YL:=@PySem.wpAny_setState_of
def YM:=@PySem.F.plainAttrs_list
def YN:=@List.length_range
def YO:=@PySem.wpAny_newObj_type
def YQ:=@List.filter_cons
def YR:=@PySem.F.slot_list_append
def YS:=@PySem.F.type_list_append
def YT:=@PySem.sizeLine_eq
def YU:=@PySem.wpAny_call_entry
def YV:=@Option.toList_some
def YW:=@PySem.Heap.size_update
def YX:=@PySem.Heap.get?_update_ne
def YY:=@List.getElem?_append_right
def YZ:=@List.filter_append
def X0:=@PySem.wpAny_callSpecial?_slot
def X1:=@List.filter_eq_self
def X2:=@List.getElem?_append_left
def X3:=@congrArg
def X4:=@Nat.le_succ
def X5:=@Bool.and_eq_true
def X6:=@PySem.F.plainAttrs_dict
def X7:=@Int.toNat_natCast
def X8:=@Bool.eq_false_iff
def X9:=@List.mem_of_find?_eq_some
def Xa:=@PySem.Heap.get?_update_other
def Xb:=@List.sum_cons
def Xc:=@PySem.Heap.SameBut.update
def Xd:=@List.nodup_append
def Xe:=@of_decide_eq_true
def Xf:=@List.getD_eq_getElem?_getD
def Xg:=@List.mem_iff_getElem
def Xh:=@PySem.wpAny_loadPart'
def Xi:=@PySem.F.slot_dict_valueiterator_next
def Xj:=@PySem.Around.under_plainId
def Xk:=@List.getElem_mem
def Xl:=@beq_eq_false_iff_ne
def Xm:=@PySem.wpAny_mono
def Xn:=@PySem.F.slot_dict_keyiterator_next
def Xo:=@List.filter_congr
def Xp:=@PySem.codeAny_builtin
def Xq:=@PySem.PassesOwn.never
def Xr:=@List.all_eq_true
def Xs:=@PySem.wpAny_truthy_bool
def Xt:=@PySem.wpAny_pyIter_list
def Xu:=@Nat.lt_succ_of_lt
def Xv:=@PySem.wpAny_dictEntries
def Xw:=@Classical.byContradiction
def Xx:=@List.getElem?_eq_none
def Xy:=@List.Sublist.map
def Xz:=@List.find?_eq_none
def XA:=@Int.le_trans
def XB:=@List.filter_filter
def XC:=@PySem.plainId_quiet
def XD:=@PySem.Heap.size_push
def XE:=@PySem.wpAny_setField
def XF:=@PySem.wpAny_ite_true
def XG:=@decide_eq_false_iff_not
def XH:=@Nat.le_succ_of_le
def XI:=@Bool.not_eq_true'
def XJ:=@PyProof.Rows.KeyOrd.kle_refl
def XM:=@List.filter_map
def XN:=@decide_true
def XO:=@decide_false
def XQ:=@Nat.lt_irrefl
def XR:=@List.any_cons
def XS:=@PySem.wpAny_attempt
def XT:=@List.mem_range
def XU:=@PySem.tupleKind_room_in1
def XV:=@List.mem_append_left
def XW:=@PySem.wpAny_typeNameOfWhole_keyiter
def XX:=@PySem.wpAny_typeNameOfWhole_valiter
def XY:=@List.eq_nil_of_length_eq_zero
def XZ:=@List.length_eq_zero_iff
def U0:=@Bool.false_and
def U1:=@Nat.lt_succ_self
def U2:=@List.nodup_nil
def U3:=@PySem.wpAny_fieldsOf
def U4:=@List.any_eq_true
def U5:=@Eq.symm
def U6:=@Int.le_refl
def U7:=@Nat.le_of_lt
def U8:=@PySem.F.called_set
def U9:=@PySem.wpAny_passesOwn
def Ua:=@PySem.wpAny_notOrdered_dict
def Ub:=@Array.perm_iff_toList_perm
def Uc:=@Array.getElem?_eq_some_iff
def Ud:=@Bool.true_and
def Ue:=@List.perm_ext_iff_of_nodup
def Uf:=@PySem.Heap.get?_push_ne
def Ug:=@List.mem_of_mem_take
def Uh:=@PySem.W.kia_one
def Ui:=@PySem.codeAny_mono
def Uj:=@List.lookup_cons
def Uk:=@PySem.wpAny_isInstance
def Ul:=@Prod.ext
def Um:=@PySem.F.plain_min_loop
def Uo:=@PySem.wpAny_askSetting
def Up:=@Nat.succ_le_succ
def Uq:=@PySem.mem_of_lookup
def Ur:=@List.length_filterMap_eq_countP
def Us:=@List.filter_cons_of_neg
def Ut:=@List.filter_cons_of_pos
def Uu:=@PySem.wpAny_Call_Name_kw
def Uv:=@PySem.wpAny_setField_rec
def Uw:=@PySem.wpAny_dictEpoch
def Ux:=@Int.emod_lt_of_pos
def Uy:=@PySem.wpAny_of_eq
def Uz:=@Array.getElem?_eq_none
def UA:=@List.append_assoc
def UB:=@List.length_singleton
def UC:=@PySem.F.slot_enumerate_next
def UD:=@PySem.F.slot_dict_setdefault
def UE:=@PySem.F.slot_dict_pop
def UF:=@PySem.F.slot_dict_get
def UG:=@PyProof.Rows.callWith_type1
def UH:=@Array.getD_eq_getD_getElem?
def UI:=@List.length_dropLast
def UJ:=@PySem.wpAny_rule
def UK:=@PySem.Obj.data_mapDictKeys
def UL:=@Bool.or_false
def UM:=@PySem.wpAny_field
def UN:=@List.filterMap_cons
def UO:=@PySem.F.args_dict_valueiterator_next_1
def UP:=@List.getElem_of_mem
def UQ:=@List.toList_toArray
def UR:=@List.length_set
def US:=@List.getElem?_eq_none_iff
def UT:=@List.getElem?_zip_eq_some
def UU:=@PySem.Calls.call_function_entry
def UV:=@List.pairwise_iff_getElem
def UW:=@PySem.wpAny_updateSeq
def UX:=@Int.emod_nonneg
def UY:=@PySem.F.entry_dict_valueiterator_next
def UZ:=@Option.isSome_iff_exists
def V0:=@PySem.F.args_dict_keyiterator_next_1
def V1:=@PySem.Obj.data_mapFields
def V2:=@of_decide_eq_false
def V3:=@List.zip_cons_cons
def V4:=@List.length_erase_of_mem
def V5:=@PySem.F.slot_list_getattribute
def V6:=@Int.lt_of_lt_of_le
def V7:=@PySem.isSubtype_stop
def V8:=@PySem.F.entry_dict_keyiterator_next
def V9:=@List.Perm.refl
def Va:=@PyProof.Rows.F.plain_set_update_loop
def Vb:=@PyProof.Rows.KeyOrd.kle_of_klt
def Vc:=@PySem.wpAny_pyIter_slot
def Vd:=@List.pairwise_map
def Ve:=@Array.toList_push
def Vf:=@PySem.wpAny_storeSet_of
def Vg:=@Sum.inl.inj
def Vh:=@PySem.wpAny_letGo
def Vi:=@List.length_eq_one_iff
def Vj:=@PySem.wpAny_standAt
def Vk:=@List.length_drop
def Vl:=@beq_self_eq_true
def Vm:=@PyProof.Rows.KeyOrd.kle_trans
def Vn:=@Nat.le_add_right
def Vo:=@List.ext_getElem
def Vp:=@List.take_succ_eq_append_getElem
def Vq:=@Bool.not_eq_true
def Vr:=@PySem.wpAny_isOneOf_valiter
def Vs:=@PySem.F.type_dict_pop
def Vt:=@PySem.F.type_dict_get
def Vu:=@PySem.plainObj_wpAny_Assign_Attribute
def Vv:=@PySem.wpAny_execs_nil
def Vw:=@Nat.ne_of_gt
def Vx:=@PySem.wpAny_load
def Vy:=@Array.mem_toList_iff
def Vz:=@beq_iff_eq
def VA:=@List.forIn_cons
def VB:=@Option.map_some
def VC:=@PySem.codeAny_call_builtin
def VD:=@PySem.wpAny_typeOf
def VE:=@List.mem_erase_of_ne
def VF:=@List.find?_some
def VG:=@Int.min_le_left
def VH:=@Int.le_max_left
def VI:=@Nat.le_add_left
def VJ:=@PySem.F.slot_dict_values_iter
def VL:=@List.getElem?_range
def VM:=@List.length_pos_iff
def VN:=@PySem.wpAny_tryCatch
def VO:=@PySem.F.type_dict_setdefault
def VP:=@PySem.Calls.Name_function_global
def VQ:=@Int.fdiv_eq_ediv_of_nonneg
def VR:=@PySem.wpAny_handled
def VS:=@PySem.wpAny_newList
def VT:=@List.length_eraseIdx_of_lt
def VU:=@List.perm_append_singleton
def VV:=@List.nodup_iff_pairwise_ne
def VW:=@List.take_sublist
def VX:=@Option.isSome_map
def VY:=@List.ext_getElem?
def VZ:=@PySem.atKey_none_of_get
def W0:=@PySem.wpAny_eqBool_int
def W1:=@PySem.wpAny_eqBool_str
def W2:=@List.getElem?_take_of_lt
def W3:=@PySem.call_meetsIn
def W4:=@PySem.F.slot_dict_values
def W5:=@Array.getElem_mem_toList
def W6:=@List.any_nil
def W7:=@Bool.eq_false_or_eq_true
def W8:=@PySem.F.args_tuple_lt_2
def W9:=@List.of_mem_zip
def Wa:=@Nat.min_eq_left
def Wb:=@PySem.wpAny_specialOf
def Wc:=@PySem.codeAny_of_tree
def We:=@PySem.size_of_entries
def Wf:=@List.foldl_cons
def Wg:=@Bool.or_eq_true
def Wh:=@List.filter_nil
def Wi:=@List.getElem?_set_self
def Wj:=@PySem.F.slot_dict_iter
def Wk:=@PySem.wpAny_throw
def Wl:=@PySem.F.entry_tuple_lt
def Wm:=@List.pairwise_lt_range
def Wn:=@List.length_pos_of_mem
def Wo:=@List.drop_eq_nil_of_le
def Wp:=@List.filter_eq_nil_iff
def Wq:=@List.cons_lt_cons_iff
def Wr:=@PySem.wpAny_newTuple
def Ws:=@PySem.F.slot_tuple_lt
def Wt:=@PySem.wpAny_seqItems
def Wu:=@List.getElem?_set_ne
def Wv:=@PySem.wpAny_call
def Ww:=@PySem.call_meets
def Wx:=@PySem.Walks.list
def Wy:=@or_false
def Wz:=@PySem.intKind_is
def WA:=@List.all_cons
def WB:=@Sum.inl.injEq
def WC:=@Sum.inr.injEq
def WD:=@PyProof.Rows.lt_str
def WE:=@Int.toNat_of_nonneg
def WF:=@Nat.le_of_eq
def WG:=@Nat.lt_trans
def WH:=@Nat.zero_add
def WI:=@Nat.lt_or_ge
def WJ:=@List.any_map
def WK:=@List.not_lt
section
open PySem
abbrev WL:=Str->Option Value
abbrev WM:=Value->Shared->Prop
abbrev WN:=Unit->Shared->Prop
abbrev WO:=List (Addr×Obj)
abbrev WP:=PySem.Program
abbrev WQ:=PySem.Shared
abbrev WR:=PySem.FuncData
abbrev WT:=PySem.Around
abbrev WU:=PySem.World
abbrev WV:=PySem.W.Frag
abbrev WW:=PySem.Value
abbrev WX:=PySem.Addr
abbrev WY:=List Int
abbrev WZ:=List Value
abbrev J6:=PySem.Heap
abbrev J7:=PySem.Expr
end
namespace L2
open PySem PySem.Spec PyProof.Rows
abbrev Jw:=Sum Int Str
def Bd:Jw->Value->Bool
 | .inl k,v=>Value.isInt k v
 | .inr x,v=>Value.isStrOf x v
def vA(w:WU):Jw->Int
 | .inl k=>hashInt k
 | .inr x=>hashStr w x
theorem RM:∀{k:Jw} {v:WW},Bd k v=true->(∃i t,k=Sum.inl i/\v=Value.int i t)\/(∃x t,k=Sum.inr x/\v=Value.str x t)
 | .inl i,v,h=>by
  obtain⟨t,e⟩:=Value.isInt_shape (k:=i) (v:=v) h;exact .inl ⟨i,t,rfl,e⟩
 | .inr x,v,h=>by
  obtain⟨t,e⟩:=Value.isStrOf_shape (x:=x) (v:=v) h;exact .inr ⟨x,t,rfl,e⟩
theorem r6(i:Int)(t:Tok):Bd (.inl i) (.int i t)=true:=by simp[Bd,Value.isInt]
theorem dD(x:Str)(t:Tok):Bd (.inr x) (.str x t)=true:=by simp[Bd,Value.isStrOf]
theorem eM(a b:Int):decide ((Sum.inl a:Jw)=Sum.inl b)=(a==b):=by
 by_cases e:a=b
 .subst e;simp
 .have h:¬(Sum.inl a:Jw)=Sum.inl b:=fun q=>e (Vg q)
  rw[Yk h];exact(Xl.mpr e).symm
theorem Zi(a b:Str):decide ((Sum.inr a:Jw)=Sum.inr b)=decide (a=b):=by
 by_cases e:a=b
 .subst e;simp
 .have h:¬(Sum.inr a:Jw)=Sum.inr b:=fun q=>e (Sum.inr.inj q)
  rw[Yk h,Yk e]
theorem rQ(a:Int)(b:Str):decide ((Sum.inl a:Jw)=Sum.inr b)=false:=Yk (fun q=>nomatch q)
theorem cA(a:Str)(b:Int):decide ((Sum.inr a:Jw)=Sum.inl b)=false:=Yk (fun q=>nomatch q)
def Jo(prog:WP)(w:WU):PySem.KeyKind prog w Jw where
 is:=Bd
 hash:=vA w
 inj:=fun v a b ha hb=>by
  rcases RM ha with⟨i,t,rfl,rfl⟩|⟨x,t,rfl,rfl⟩
  .rcases RM hb with⟨j,u,rfl,e⟩|⟨y,u,rfl,e⟩
   .injection e with e1 _;rw[e1]
   .exact nomatch e
  .rcases RM hb with⟨j,u,rfl,e⟩|⟨y,u,rfl,e⟩
   .exact nomatch e
   .injection e with e1 _;rw[e1]
 byValue:=fun k v h=>by
  rcases RM h with⟨i,t,rfl,rfl⟩|⟨x,t,rfl,rfl⟩ <;> rfl
 pyHash:=fun hv h=>by
  rcases RM hv with⟨i,t,rfl,rfl⟩|⟨x,t,rfl,rfl⟩
  .exact wpAny_pyHash_int h
  .exact wpAny_pyHash_str h
 eqBool:=fun hu hv h=>by
  rcases RM hu with⟨i,t,rfl,rfl⟩|⟨x,t,rfl,rfl⟩
  .rcases RM hv with⟨j,u,rfl,rfl⟩|⟨y,u,rfl,rfl⟩
   .rw[eM]at h;exact W0 h
   .rw[rQ]at h;exact SeqAt.EqAt.int_str i t y u _ _ _ _ h
  .rcases RM hv with⟨j,u,rfl,rfl⟩|⟨y,u,rfl,rfl⟩
   .rw[cA]at h;exact SeqAt.EqAt.str_int x t j u _ _ _ _ h
   .rw[Zi]at h;exact W1 h
 «strs»:=fun k x t v h=>by
  rcases RM h with⟨i,u,rfl,e⟩|⟨y,u,rfl,e⟩
  .exact nomatch e
  .injection e with e1 _;subst e1;cases v <;> rfl
theorem nD(prog:WP)(w:WU)(i:Int)(t:Tok):(Jo prog w).is (.inl i) (.int i t)=true:=r6 i t
theorem uG(prog:WP)(w:WU)(x:Str)(t:Tok):(Jo prog w).is (.inr x) (.str x t)=true:=dD x t
inductive V where
 |non|bl (b:Bool)|int (i:Int)|str (x:Str)|byt (b:Array UInt8)|flt (b:UInt64)|ref (a:WX)|ty (n:String)
 deriving DecidableEq
def Jr:V->Value->Prop
 | .non,u=>u=Value.none
 | .bl b,u=>u=Value.bool b
 | .int i,u=>∃t,u=Value.int i t
 | .str x,u=>∃t,u=Value.str x t
 | .byt b,u=>∃t,u=Value.bytes b t
 | .flt b,u=>∃t,u=Value.float b t
 | .ref a,u=>u=Value.ref a
 | .ty n,u=>u=Value.type n
abbrev Ji:List V->List Value->Prop:=Paired Jr
theorem Ji.length{xs:List V}{us:WZ}(r:Ji xs us):xs.length=us.length:=Paired.length r
theorem Ji.get:∀{xs:List V} {us:WZ} {i:Nat} {x:V},Ji xs us->xs[i]?=some x->∃u,us[i]?=some u/\Jr x u
 |_,_,_,_,.nil,e=>by simp at e
 |_,_,0,_,.cons r _,e=>by simp at e;subst e;exact⟨_,rfl,r⟩
 |_,_,i+ 1,x,.cons _ t,e=>by
  obtain⟨u,h1,h2⟩:=Ji.get (i:=i) (x:=x) t (by simpa using e);exact⟨u,by simpa using h1,h2⟩
theorem Ji.set{x:V}{u:WW}(r:Jr x u):∀{xs:List V} {us:WZ} (i:Nat),Ji xs us->Ji (xs.set i x) (us.set i u)
 |_,_,_,.nil=>.nil
 |_,_,0,.cons _ t=>.cons r t
 |_,_,i+ 1,.cons q t=>.cons q (Ji.set r i t)
theorem Ji.append:∀{xs ys:List V} {us ws:WZ},Ji xs us->Ji ys ws->Ji (xs++ys) (us++ws)
 |_,_,_,_,.nil,s=>s
 |_,_,_,_,.cons r t,s=>.cons r (Ji.append t s)
theorem Ji.take:∀{xs:List V} {us:WZ} (n:Nat),Ji xs us->Ji (xs.take n) (us.take n)
 |_,_,0,_=>.nil
 |_,_,_+ 1,.nil=>.nil
 |_,_,n+ 1,.cons r t=>.cons r (Ji.take n t)
theorem Ji.drop:∀{xs:List V} {us:WZ} (n:Nat),Ji xs us->Ji (xs.drop n) (us.drop n)
 |_,_,0,r=>r
 |_,_,_+ 1,.nil=>.nil
 |_,_,n+ 1,.cons _ t=>Ji.drop n t
def TH:Option V->Option Value->Prop
 |some v,some u=>Jr v u
 |none,none=>True
 |_,_=>False
def KV{κ:Type}:List (κ×V)->List (κ×Value)->Prop:=Paired fun(p:κ×V) (q:κ×Value)=>p.1=q.1/\Jr p.2 q.2
def kV:Jw->V
 | .inl i=>.int i
 | .inr x=>.str x
inductive HO where
 |lst (xs:List V)
 |tup (xs:List V)
 |dK (kvs:List (Jw×V))|dT (kvs:List (List Jw×V))
 |set (S:Int->Bool) (n:Nat)
 |ins (C dx:WX) (fs:List (Str×V))
 |own (x:WX)
 |xd (fs:List (Str×V))
 |met (f x:WX)
 |rng (lo hi:Int)
 |frz (o:Obj) (u:HO)
 |tbl (ps:Array Value)
 |ext (φ:Heap->Prop)
abbrev Hp:=Addr->Option HO
def upd(H:Hp)(a:WX)(o:HO):Hp:=fun b=>if b=a then some o else H b
theorem Nc{H:Hp}{a:WX}{o:HO}:upd H a o a=some o:=by unfold upd;rw[Y6 rfl]
theorem JF{H:Hp}{a b:WX}{o:HO}(h:b≠a):upd H a o b=H b:=by unfold upd;rw[Y5 h]
theorem Ja{H:Hp}{a b:WX}{o u:HO}(h:H a=some o)(h':H b=some u)(d:o≠u):a≠b:=by
 intro e;subst e;rw[h]at h';exact d (Option.some.inj h')
theorem NI{H:Hp}{a b:WX}{o:HO}(h:H a=some o)(h':H b=none):a≠b:=by
 intro e;subst e;rw[h]at h';cases h'
section
variable(P:WP)(w:WU)
def Jy(H:Hp)(h:J6)(a:WX):HO->Prop
 | .lst xs=>xs.length <=sizeLine/\∃ (its:WZ) (n:Nat),Ji xs its/\h.get? a=some {cls:=.type "list",data:=.seq its.toArray n}
 | .tup xs=>xs.length <=sizeLine/\∃its:List Value,Ji xs its/\IsTup h a its.toArray
 | .dK kvs=>kvs.length <=sizeLine/\(a==sysModules)=false/\∃vs,KV kvs vs/\h.DictOf (Jo P w) a vs
 | .dT kvs=>kvs.length <=sizeLine/\(a==sysModules)=false/\∃xs:List (List Jw×Addr×Value),
   Paired (fun(p:List Jw×V) (q:List Jw×Addr×Value)=>p.1=q.1/\H q.2.1=some (.tup (p.1.map kV))/\Jr p.2 q.2.2) kvs xs/\
   ∃o es ep,h.get? a=some o/\o.ExactDict/\o.data= .dict es ep/\es.toList=xs.map (entryOfKey (tupleKind (Jo P w)))/\(xs.map (·.1)).Nodup
 | .set S n=>h.SetOf (intKind P w) a S n
 | .ins C dx fs=>H dx=some (.own a)/\fs.length <=1000/\dx≠a/\h.get? a=some (W.instObj C dx)/\
   ∃mA,h.Ns1 dx mA/\(∀f,TH (fs.lookup f) (mA f))/\PySem.Within mA (fs.map (·.1))
 | .own _=>∃o,h.get? a=some o
 | .xd fs=>∃mA,h.Ns1 a mA/\∀f,TH (fs.lookup f) (mA f)
 | .rng lo hi=>∃t u v,h.get? a=some {cls:=.type "range",data:=.fields #[.int lo t,.int hi u,.int 1 v]}
 | .frz o u=>h.get? a=some o/\Jy H h a u
 | .tbl ps=>h.get? a=some {cls:=.none,data:=.fields ps}
 | .met f x=>h.get? a=some (W.methodObj (.ref f) (.ref x))
 | .ext φ=>φ h/\(∃o,h.get? a=some o)/\∀h1 h2:Heap,φ h1->(∀o,h1.get? a=some o->h2.get? a=some o)->φ h2
def TM(H:Hp)(h:J6):Prop:=∀a o,H a=some o->Jy P w H h a o
end
section
variable{P:WP}{w:WU}{H H':Hp}{h h':J6}{a:WX}{o:HO}
theorem Jy.lt(x:Jy P w H h a o):a < h.objs.size:=by
 cases o with
 |lst xs=>obtain⟨_,_,_,_,e⟩:=x;exact Yd e
 |tup xs=>obtain⟨_,_,_,p⟩:=x;exact p.lt
 |dK kvs=>obtain⟨_,_,_,_,o,_,_,e,_⟩:=x;exact Yd e
 |dT kvs=>obtain⟨_,_,_,_,o,_,_,e,_⟩:=x;exact Yd e
 |set S n=>obtain⟨o,_,_,_,e,_⟩:=x;exact Yd e
 |ins C dx fs=>obtain⟨_,_,_,e,_⟩:=x;exact Yd e
 |own y=>obtain⟨_,e⟩:=x;exact Yd e
 |xd fs=>obtain⟨_,⟨_,_,_,e,_⟩,_⟩:=x;exact Yd e
 |rng lo hi=>obtain⟨_,_,_,e⟩:=x;exact Yd e
 |frz ob u=>obtain⟨e,_⟩:=x;exact Yd e
 |tbl ps=>exact Yd (show h.get? a=some _ from x)
 |met f y=>exact Yd (show h.get? a=some _ from x)
 |ext φ=>obtain⟨_,⟨_,e⟩,_⟩:=x;exact Yd e
theorem Paired.mapP{α β:Type}{F G:α->β->Prop}:∀{l₁:List α} {l₂:List β},Paired F l₁ l₂->(∀a b,F a b->G a b)->Paired G l₁ l₂
 |_,_,.nil,_=>.nil
 |_,_,.cons r t,f=>.cons (f _ _ r) (Paired.mapP t f)
theorem Jy.stay(x:Jy P w H h a o)(k:∀b u,(b=a\/H b=some (.own a))->h.get? b=some u->h'.get? b=some u)
  (ho:∀b,H b=some (.own a)->H' b=some (.own a)) (ht:∀b xs,H b=some (.tup xs)->H' b=some (.tup xs)):Jy P w H' h' a o:=by
 induction o with
 |lst xs=>obtain⟨z,g,n,r,e⟩:=x;exact⟨z,g,n,r,k _ _ (.inl rfl) e⟩
 |tup xs=>obtain⟨z,g,r,ob,e,c⟩:=x;exact⟨z,g,r,ob,k _ _ (.inl rfl) e,c⟩
 |dK kvs=>obtain⟨z,y,vs,r,ob,es,ep,e,c⟩:=x;exact⟨z,y,vs,r,ob,es,ep,k _ _ (.inl rfl) e,c⟩
 |dT kvs=>
  obtain⟨z,y,xs,r,ob,es,ep,e,c⟩:=x;exact⟨z,y,xs,Paired.mapP r fun p q z=>⟨z.1,ht _ _ z.2.1,z.2.2⟩,ob,es,ep,k _ _ (.inl rfl) e,c⟩
 |set S n=>obtain⟨ob,es,ep,t,e,c⟩:=x;exact⟨ob,es,ep,t,k _ _ (.inl rfl) e,c⟩
 |ins C dx fs=>
  obtain⟨d,z,ne,e,mA,⟨i,es,ep,j,c⟩,r⟩:=x;exact⟨ho _ d,z,ne,k _ _ (.inl rfl) e,mA,⟨i,es,ep,k _ _ (.inr d) j,c⟩,r⟩
 |own y=>obtain⟨ob,e⟩:=x;exact⟨ob,k _ _ (.inl rfl) e⟩
 |xd fs=>obtain⟨mA,⟨i,es,ep,e,c⟩,r⟩:=x;exact⟨mA,⟨i,es,ep,k _ _ (.inl rfl) e,c⟩,r⟩
 |rng lo hi=>obtain⟨t,u,v,e⟩:=x;exact⟨t,u,v,k _ _ (.inl rfl) e⟩
 |frz ob u ih=>obtain⟨e,q⟩:=x;exact⟨k _ _ (.inl rfl) e,ih q⟩
 |tbl ps=>
  have e:h.get? a=some {cls:=.none,data:=.fields ps}:=x;show h'.get? a=some {cls:=.none,data:=.fields ps};exact k a _ (.inl rfl) e
 |met f y=>
  have e:h.get? a=some (W.methodObj (.ref f) (.ref y)):=x;show h'.get? a=some (W.methodObj (.ref f) (.ref y));exact k a _ (.inl rfl) e
 |ext φ=>obtain⟨p,⟨o,e⟩,st⟩:=x;exact⟨st _ _ p fun o q=>k _ _ (.inl rfl) q,⟨o,k _ _ (.inl rfl) e⟩,st⟩
theorem TM.lt(x:TM P w H h)(e:H a=some o):a < h.objs.size:=(x a o e).lt
theorem TM.fresh(x:TM P w H h)(e:h.objs.size <=a):H a=none:=by
 cases q:H a with
 |none=>rfl
 |some u=>exact absurd (YH (x.lt q) e) (XQ _)
theorem TM.kept(x:TM P w H h)(k:∀b u,h.get? b=some u->h'.get? b=some u):TM P w H h':=fun a o e=>
 (x a o e).stay (fun b u _ q=>k b u q) (fun _ q=>q) fun _ _ q=>q
theorem TM.laid(x:TM P w H h)(k:∀b u,h.get? b=some u->h'.get? b=some u)(hp:h.objs.size <=a)(new:Jy P w (upd H a o) h' a o):TM P w (upd H a o) h':=fun b u e=>by
 have f:=x.fresh hp
 by_cases hb:b=a
 .subst hb;rw[Nc]at e;cases e;exact new
 .rw[JF hb]at e;exact(x b u e).stay (fun c v _ q=>k c v q) (fun c q=>by rw[JF (NI q f)];exact q) fun c xs q=>by rw[JF (NI q f)];exact q
end
def Rd(H:Hp)(a:WX)(u:HO):Prop:=H a=some u\/∃o,H a=some (.frz o u)
theorem Rd.ok{P:WP}{w:WU}{H:Hp}{h:J6}{a:WX}{u:HO}(r:Rd H a u)(x:TM P w H h):Jy P w H h a u:=by
 rcases r with r|⟨o,r⟩
 .exact x a u r
 .obtain⟨_,q⟩:=x a _ r;exact q
def Ac:Option HO->Prop
 |some (.lst _)=>True
 |some (.dK _)=>True
 |some (.dT _)=>True
 |some (.set _ _)=>True
 |some (.ins _ _ _)=>True
 |some (.ext _)=>True
 |_=>False
section
variable{P:WP}{w:WU}{H:Hp}{h h':J6}{x e:WX}{o':HO}
theorem TM.write(ok:TM P w H h)(mu:Ac (H x))(he:e=x\/H e=some (.own x))(k:∀b u,b≠e->h.get? b=some u->h'.get? b=some u)(heo:∃u,h'.get? e=some u)
  (new:Jy P w (upd H x o') h' x o'):TM P w (upd H x o') h':=fun b u q=>by
 have a:∀c y,H c=some (.own y)->c≠x:=fun c y r z=>by subst z;rw[r]at mu;exact mu
 have g:∀c xs,H c=some (.tup xs)->c≠x:=fun c xs r z=>by subst z;rw[r]at mu;exact mu
 by_cases hb:b=x
 .subst hb;rw[Nc]at q;cases q;exact new
 .rw[JF hb]at q
  by_cases hbe:b=e
  .have i:H b=some (.own x):=by
    rcases he with z|z
    .exact absurd (hbe.trans z) hb
    .rw[hbe];exact z
   rw[q]at i;cases i;obtain⟨v,j⟩:=heo;exact⟨v,by rw[hbe];exact j⟩
  .refine(ok b u q).stay (fun c v f r=>k c v ?_ r) (fun c r=>by rw[JF (a c b r)];exact r) fun c xs r=>by rw[JF (g c xs r)];exact r
   rcases f with rfl|f
   .exact hbe
   .rintro rfl;rcases he with z|z
    .exact a c b f z
    .rw[f]at z;cases z;exact hb rfl
end
structure Un(fs ex:List Addr)(H H':Hp)(h h':J6):Prop where
 keep:∀b o,h.get? b=some o->H b=none->b∉fs->b∉ex->h'.get? b=some o
 slot:∀b o,h.get? b=some o->H b=none->b∈fs->b∉ex->∃sl,h'.get? b=some {o with slots:=sl}
 free:∀b o,h.get? b=some o->H b=none->b∉ex->H' b=none
 there:∀b o,h.get? b=some o->b∉ex->∃o',h'.get? b=some o'
 tups:∀b xs,H b=some (.tup xs)->H' b=some (.tup xs)
 frzs:∀b o u,H b=some (.frz o u)->H' b=some (.frz o u)
 tbls:∀b ps,H b=some (.tbl ps)->∃more,H' b=some (.tbl (ps++more))
section
variable{fs fs' ex ex':List Addr}{H H1 H2:Hp}{h h1 h2 h':J6}{a x e:WX}{o:HO}
theorem Un.any(u:Un fs ex H H1 h h1){b:WX}{ob:Obj}(q:h.get? b=some ob)(n:H b=none)(hx:b∉ex):∃sl,h1.get? b=some {ob with slots:=sl}:=by
 by_cases hb:b∈fs
 .exact u.slot b ob q n hb hx
 .exact⟨ob.slots,u.keep b ob q n hb hx⟩
theorem Un.kept(k:∀b u,h.get? b=some u->h'.get? b=some u):Un fs ex H H h h':=
 ⟨fun b a q _ _ _=>k b a q,fun b a q _ _ _=>⟨a.slots,k b a q⟩,fun _ _ _ n _=>n,fun b a q _=>⟨a,k b a q⟩,fun _ _ q=>q,fun _ _ _ q=>q,fun _ ps q=>⟨#[],by rw[q];simp⟩⟩
theorem Un.refl:Un fs ex H H h h:=Un.kept fun _ _ q=>q
theorem Un.laid(k:∀b u,h.get? b=some u->h'.get? b=some u)(hp:h.objs.size <=a)(hn:H a=none):Un fs ex H (upd H a o) h h' where
 keep:=fun b u q _ _ _=>k b u q
 slot:=fun b u q _ _ _=>⟨u.slots,k b u q⟩
 free:=fun b u q n _=>by rw[JF (Yr (YH (Yd q) hp))];exact n
 there:=fun b u q _=>⟨u,k b u q⟩
 tups:=fun b xs q=>by rw[JF (NI q hn)];exact q
 frzs:=fun b u xs q=>by rw[JF (NI q hn)];exact q
 tbls:=fun b ps q=>⟨#[],by rw[JF (NI q hn),q];simp⟩
theorem Un.write(mu:Ac (H x))(he:e=x\/H e=some (.own x))(k:∀b u,b≠e->h.get? b=some u->h'.get? b=some u)(heo:∃u,h'.get? e=some u):Un fs ex H (upd H x o) h h':=by
 have c:∀b,H b=none->b≠x:=fun b n z=>by subst z;rw[n]at mu;exact mu
 have f:∀b,H b=none->b≠e:=fun b n z=>by
  subst z;rcases he with r|r
  .exact c b n r
  .rw[n]at r;cases r
 have a:∀b u,H b=some u->¬Ac (some u)->b≠x:=fun b u q nm z=>by subst z;rw[q]at mu;exact nm mu
 refine ⟨fun b u q n _ _ => k b u (f b n) q, fun b u q n _ _ => ⟨u.slots, k b u (f b n) q⟩, fun b u q n _ => by rw [JF (c b n)]; exact n, fun b u q _ => ?_,
  fun b xs q => by rw [JF (a b _ q fun z => z)]; exact q, fun b u xs q => by rw [JF (a b _ q fun z => z)]; exact q, fun b ps q => ⟨#[], by rw [JF (a b _ q fun z => z), q]; simp⟩⟩
 by_cases hbe:b=e
 .subst hbe;exact heo
 .exact⟨u,k b u hbe q⟩
end
def CI(h:J6)(H:Hp):List Addr:=(List.range h.objs.size).filter fun a=>(H a).isSome
def RU(h:J6)(H:Hp):Heap:=W.hideAll h (CI h H)
theorem ZL(h:J6)(H:Hp):(RU h H).objs.size=h.objs.size:=W.hideAll_size _ _
theorem wK{h:J6}{H:Hp}{b:WX}{o:Obj}(e:h.get? b=some o)(n:H b=none):(RU h H).get? b=some o:=
 W.hideAll_get _ e fun a=>by
  have q:(H b).isSome=true:=(Yf.mp a).2;rw[n]at q;simp at q
theorem w4{h:J6}{H:Hp}{b:WX}{o:Obj}(e:(RU h H).get? b=some o):h.get? b=some o/\H b=none:=by
 have a:h.get? b=some o:=W.of_hideAll (CI h H) e;refine⟨a,?_⟩;cases q:H b with
 |none=>rfl
 |some x=>
  have c:b∈CI h H:=Yf.mpr ⟨XT.mpr (Yd a),by simp[q]⟩;have z:(RU h H).get? b=none:=W.hideAll_none (CI h H) c;rw[z]at e;cases e
def bX(g h:J6)(L:WX):List (Addr×Obj):=(List.range h.objs.size).filterMap fun a=>if a=L\/(g.get? a).isSome=true then none else(h.get? a).map fun o=>(a,o)
def rest(g h:J6)(L d:WX):List (Addr×Obj):=(bX g h L).filter fun p=>decide (p.1≠d)
structure Mod(K:WV)(mg:WL)(base:J6):Prop where
 kin:K.In base
 glob:base.Ns mainGlobals mg
 blt:∃mb,base.Ns builtinsNs mb/\∀x:Str,x≠"__name__"->mb x=bootBuiltins x
 nolimit:base.NoLimit
structure Cx where
 prog:Program
 w:World
 K:W.Frag
 mg:Str->Option Value
 base:Heap
 A:Around
 N:List Str
 s₀:Shared
 H₀:Hp
 env:Env
 outer:List Env
 stack:List Env
 ex:List Addr
 fn:Str->Bool
 calm:Bool
 pn:List (Addr×Obj)
 xe:Value->Shared->Prop
def GB(l:List Env):List Addr:=l.filterMap (·.frame)
abbrev Cx.fs(X:Cx):List Addr:=GB X.outer
def AK(sc:Scope)(x:Str):Prop:=sc.names.lookup x=some .local\/sc.names.lookup x=some .cell\/sc.names.lookup x=some .free
def EU(sc:Scope)(x:Str):Prop:=sc.names.lookup x=some .local\/sc.names.lookup x=some .cell
def HF(env:Env)(h:J6)(m:WL)(x:Str)(u:WW):Prop:=
 (env.kindOf x=some .local/\m x=some u)\/((env.kindOf x=some .cell\/env.kindOf x=some .free)/\∃c,env.cells.lookup x=some c/\h.IsCell c (some u))
structure Cx.Ok(X:Cx):Prop where
 mod:Mod X.K X.mg X.base
 kind:X.env.scope.kind= .function
 glob:X.env.globals=mainGlobals
 blt:X.env.builtins=builtinsNs
 above:X.s₀.heap.objs.size <=X.env.locals
 inj:∀x y c,X.env.cells.lookup x=some c->X.env.cells.lookup y=some c->x=y
 has:∀x,(X.env.kindOf x=some .cell\/X.env.kindOf x=some .free)->∃c,X.env.cells.lookup x=some c
 cab:∀x c,X.fn x=true->X.env.cells.lookup x=some c->X.s₀.heap.objs.size <=c
 hd:X.calm=true->X.A.handled=none
 frames:X.A.frames=some X.stack
 stk:X.stack=X.outer\/(X.stack=X.env::X.outer/\X.env.frame=some X.env.locals)
 exf:∀b∈X.ex,b≠X.env.locals/\∀x c,X.env.cells.lookup x=some c->c≠b
 bs:∀b o,X.base.get? b=some o->X.s₀.heap.get? b=some o/\X.H₀ b=none
 bsz:X.base.objs.size <=X.s₀.heap.objs.size
 noex:∀b o,X.base.get? b=some o->b∉X.ex
 exfs:∀b∈X.ex,b∉X.fs
 funs:X.s₀.heap.FunFrames X.base X.outer
 frf:∀b∈X.fs,X.H₀ b=none
structure Jd(X:Cx)(pins:WO)(σ:List (Option V))(H:Hp)(s:WQ):Prop where
 ok:X.Ok
 os:s.os=X.s₀.os
 bare:AllBare s.gens
 base:Un X.fs X.ex X.H₀ H X.s₀.heap s.heap
 loc:∃m,s.heap.Ns X.env.locals m/\∀ (i:Nat) (x:Str) (v:V),X.N[i]?=some x->σ[i]?=some (some v)->AK X.env.scope x->∃u,Jr v u/\HF X.env s.heap m x u
 cell:∀x c,X.env.cells.lookup x=some c->∃v,s.heap.IsCell c v
 free:H X.env.locals=none
 freeC:∀x c,X.env.cells.lookup x=some c->H c=none
 pin:∀p∈X.pn++pins,s.heap.get? p.1=some p.2/\H p.1=none/\p.1≠X.env.locals/\p.1∉X.fs/\∀v,p.2.data≠ .cell v
 hok:TM X.prog X.w H s.heap
 len:σ.length=X.N.length
section
variable{X:Cx}{pins:WO}{σ:List (Option V)}{H H':Hp}{s:WQ}{h':J6}
theorem Cx.Ok.nofr(ok:X.Ok){b:WX}{o:Obj}(e:X.base.get? b=some o):b∉X.fs:=fun a=>by
 have:=(ok.funs.mem a).1;rw[e]at this;cases this
theorem Jd.bs(I:Jd X pins σ H s):∀b o,X.base.get? b=some o->s.heap.get? b=some o/\H b=none:=fun b o e=>
 ⟨I.base.keep b o (I.ok.bs b o e).1 (I.ok.bs b o e).2 (I.ok.nofr e) (I.ok.noex b o e),I.base.free b o (I.ok.bs b o e).1 (I.ok.bs b o e).2 (I.ok.noex b o e)⟩
theorem Jd.bk(I:Jd X pins σ H s):∀b o,X.base.get? b=some o->s.heap.get? b=some o:=fun b o e=>(I.bs b o e).1
theorem Jd.mod(I:Jd X pins σ H s):Mod X.K X.mg X.base:=I.ok.mod
theorem Jd.kIn(I:Jd X pins σ H s):X.K.In s.heap:=I.ok.mod.kin.keeps I.bk
theorem Jd.lt(I:Jd X pins σ H s):X.env.locals < s.heap.objs.size:=let ⟨_,hn,_⟩:=I.loc;hn.lt
theorem Jd.sz(I:Jd X pins σ H s):X.s₀.heap.objs.size <=s.heap.objs.size:=YF I.ok.above (U7 I.lt)
theorem Jd.nofs(I:Jd X pins σ H s){a:WX}(h:s.heap.objs.size <=a):a∉X.fs:=fun c=>by
 obtain⟨_,o,b,_⟩:=I.ok.funs.mem c;exact absurd (YH (Yd b) (YF I.sz h)) (XQ _)
theorem Jd.cne(I:Jd X pins σ H s):∀x c,X.env.cells.lookup x=some c->c≠X.env.locals:=fun x c e z=>by
 obtain⟨v,o,b,hd⟩:=I.cell x c e;obtain⟨m,⟨o',es,ep,a,f,_⟩,_⟩:=I.loc;rw[z,a]at b;cases b;rw[f]at hd;cases hd
theorem Jd.funs(I:Jd X pins σ H s):s.heap.FunFrames X.base X.outer:=by
 have all:∀ (l:List Env),(∀b∈GB l,b∈X.fs)->X.s₀.heap.FunFrames X.base l->s.heap.FunFrames X.base l:=by
  intro l
  induction l with
  |nil=>intro _ _;trivial
  |cons env r ih=>
   intro f j;obtain⟨n,⟨L,o,hf,i,h,hd⟩,g⟩:=j;have c:L∈X.fs:=f L (by unfold GB;rw[UN,hf];exact YD);obtain⟨p,e⟩:=I.base.slot L o h (I.ok.frf L c) c fun z=>I.ok.exfs L z c
   exact⟨n,⟨L,_,hf,i,e,hd⟩,ih (fun b a=>f b (by unfold GB;rw[UN,hf];exact Yn _ a)) g⟩
 exact all X.outer (fun _ a=>a) I.ok.funs
theorem Jd.stack(I:Jd X pins σ H s):s.heap.FunFrames X.base X.stack:=by
 rcases I.ok.stk with e|⟨e,hf⟩
 .rw[e];exact I.funs
 .rw[e];obtain⟨m,a,_⟩:=I.loc;refine .cons (by rw[I.ok.kind];decide) hf a ?_ I.funs;exact Heap.get?_none_of_le (YF I.ok.bsz I.ok.above)
theorem Jd.stkSub(I:Jd X pins σ H s):∀b∈GB X.stack,b∈X.env.locals::X.fs:=fun b a=>by
 rcases I.ok.stk with e|⟨e,hf⟩
 .rw[e]at a;exact Yn _ a
 .rw[e]at a;unfold GB at a;rw[UN,hf]at a;exact a
theorem Jd.stkFree(I:Jd X pins σ H s):∀b∈GB X.stack,H b=none:=fun b a=>by
 rcases Yo.mp (I.stkSub b a) with e|a
 .rw[e];exact I.free
 .obtain⟨_,o,c,_⟩:=I.ok.funs.mem a;exact I.base.free b o c (I.ok.frf b a) fun z=>I.ok.exfs b z a
theorem Jd.step{g':Array GenState}{t':Nat}{d':Drawn}{ch:List Addr}(I:Jd X pins σ H s)
  (hch:∀b∈ch,(b∈X.ex\/X.s₀.heap.objs.size <=b)/\b≠X.env.locals/\(∀x c,X.env.cells.lookup x=some c->c≠b)/\∀p∈X.pn++pins,p.1≠b)
  (keep:∀b o,b≠X.env.locals->b∉X.fs->b∉ch->s.heap.get? b=some o->H b=none->h'.get? b=some o)
  (slot:∀b o,b≠X.env.locals->b∈X.fs->b∉ch->s.heap.get? b=some o->H b=none->∃sl,h'.get? b=some {o with slots:=sl}) (free:∀b o,b∉ch->s.heap.get? b=some o->H b=none->H' b=none)
  (there:∀b o,b∉ch->s.heap.get? b=some o->∃o',h'.get? b=some o')
  (tups:∀b xs,H b=some (.tup xs)->H' b=some (.tup xs)) (frzs:∀b o u,H b=some (.frz o u)->H' b=some (.frz o u)) (tbls:∀b ps,H b=some (.tbl ps)->∃more,H' b=some (.tbl (ps++more)))
  (ns:∀m,s.heap.Ns X.env.locals m->h'.Ns X.env.locals m) (hok:TM X.prog X.w H' h') (hg:AllBare g'):
  Jd X pins σ H' {s with heap:=h',gens:=g',drawn:=d',toks:=t'}:=by
 have neL:∀b o,X.s₀.heap.get? b=some o->b≠X.env.locals:=fun b o e=>Yr (YH (Yd e) I.ok.above)
 have j:∀b o,X.s₀.heap.get? b=some o->b∉X.ex->b∉ch:=fun b o e a h=>by
  rcases(hch b h).1 with z|z
  .exact a z
  .exact absurd (YH (Yd e) z) (XQ _)
 have y:∀x c,X.env.cells.lookup x=some c->∀v,s.heap.IsCell c v->h'.IsCell c v:=fun x c e v ⟨o,ho,hd⟩=>by
  have g:c∉ch:=fun z=>(hch c z).2.2.1 x c e rfl
  by_cases hc:c∈X.fs
  .obtain⟨sl,q⟩:=slot c o (I.cne x c e) hc g ho (I.freeC x c e);exact⟨_,q,hd⟩
  .exact⟨o,keep c o (I.cne x c e) hc g ho (I.freeC x c e),hd⟩
 refine⟨I.ok,I.os,hg,⟨fun b o e n h a=>?_,fun b o e n h a=>?_,fun b o e n a=>?_,fun b o e a=>?_,fun b xs e=>tups b xs (I.base.tups b xs e),fun b o xs e=>frzs b o xs (I.base.frzs b o xs e),fun b ps e=>?_⟩,?_,fun x c e=>?_,?_,fun x c e=>?_,fun p hp=>?_,hok,I.len⟩
 .exact keep b o (neL b o e) h (j b o e a) (I.base.keep b o e n h a) (I.base.free b o e n a)
 .obtain⟨sl,f⟩:=I.base.slot b o e n h a;obtain⟨sl',e2⟩:=slot b _ (neL b o e) h (j b o e a) f (I.base.free b o e n a);exact⟨sl',e2⟩
 .obtain⟨o',f⟩:=I.base.there b o e a;exact free b o' (j b o e a) f (I.base.free b o e n a)
 .obtain⟨o',f⟩:=I.base.there b o e a;exact there b o' (j b o e a) f
 .obtain⟨m1,f⟩:=I.base.tbls b ps e;obtain⟨m2,e2⟩:=tbls b _ f;exact⟨m1++m2,by rw[e2,Array.append_assoc]⟩
 .obtain⟨m,hn,hl⟩:=I.loc;refine⟨m,ns m hn,fun i x v f e2 e3=>?_⟩;obtain⟨u,r,l⟩:=hl i x v f e2 e3;refine⟨u,r,?_⟩;rcases l with l|⟨k,c,e,z⟩
  .exact .inl l
  .exact .inr ⟨k,c,e,y x c e _ z⟩
 .obtain⟨v,z⟩:=I.cell x c e;exact⟨v,y x c e v z⟩
 .obtain⟨m,⟨o,_,_,ho,_⟩,_⟩:=I.loc;exact free _ o (fun z=>(hch _ z).2.1 rfl) ho I.free
 .obtain⟨v,o,ho,hd⟩:=I.cell x c e;exact free c o (fun z=>(hch c z).2.2.1 x c e rfl) ho (I.freeC x c e)
 .obtain⟨e,n,ne,nf,d⟩:=I.pin p hp;have g:p.1∉ch:=fun z=>(hch p.1 z).2.2.2 p hp rfl
  exact⟨keep p.1 p.2 ne nf g e n,free p.1 p.2 g e n,ne,nf,d⟩
theorem Jd.un{t':Nat}(I:Jd X pins σ H s)(u:Un X.fs [] H H' s.heap h')(hok:TM X.prog X.w H' h'):Jd X pins σ H' {s with heap:=h',toks:=t'}:=by
 obtain ⟨m, ⟨o, es, ep, f, r⟩, _⟩ := id I.loc;obtain ⟨q, p⟩ := u.any f I.free (by simp);exact I.step (g' := s.gens) (d' := s.drawn) (ch := []) (fun _ z => nomatch z) (fun b o _ c _ e n => u.keep b o e n c (by simp)) (fun b o _ c _ e n => u.slot b o e n c (by simp)) (fun b o _ e n => u.free b o e n (by simp)) (fun b o _ e => u.there b o e (by simp)) u.tups u.frzs u.tbls (fun x j => by
  obtain ⟨o', g, h, a, i⟩ := j;rw [f] at a; cases a;exact ⟨_, g, h, p, i⟩) hok I.bare
theorem Jd.call{g':Array GenState}{t':Nat}{d':Drawn}{ch:List Addr}(I:Jd X pins σ H s)(u:Un (GB X.stack) ch H H' s.heap h')(hok:TM X.prog X.w H' h')(hg:AllBare g')
  (hch:∀b∈ch,(b∈X.ex\/X.s₀.heap.objs.size <=b)/\b≠X.env.locals/\(∀x c,X.env.cells.lookup x=some c->c≠b)/\∀p∈X.pn++pins,p.1≠b):
  Jd X pins σ H' {s with heap:=h',gens:=g',drawn:=d',toks:=t'}:=by
 obtain⟨m,⟨o,es,ep,h,r⟩,_⟩:=id I.loc;obtain⟨sl,g⟩:=u.any h I.free fun z=>(hch _ z).2.1 rfl
 exact I.step (ch := ch) hch (fun b o g hb a e n => u.keep b o e n (fun z => (Yo.mp (I.stkSub b z)).elim g hb) a) (fun b o _ _ a e n => u.any e n a) (fun b o a e n => u.free b o e n a) (fun b o a e => u.there b o e a) u.tups u.frzs u.tbls (fun m' y => by
  obtain ⟨o', i, j, f, q⟩ := y;rw [h] at f; cases f;exact ⟨_, i, j, g, q⟩) hok hg
theorem Jd.turned{t':Nat}{it:WX}(I:Jd X pins σ H s)(k:∀b o,b≠it->s.heap.get? b=some o->h'.get? b=some o)(hn:H it=none)(hL:it≠X.env.locals)
  (h1:it∈X.ex\/X.s₀.heap.objs.size <=it) (h2:∀x c,X.env.cells.lookup x=some c->c≠it) (h3:∀p∈X.pn++pins,p.1≠it):Jd X pins σ H {s with heap:=h',toks:=t'}:=by
 have f:∀b u,H b=some u->b≠it:=fun b u e z=>by rw[z,hn]at e;cases e
 refine I.step (g':=s.gens) (d':=s.drawn) (ch:=[it]) (fun b i=>?_) (fun b o _ _ a e _=>k b o (fun z=>a (by simp[z])) e) (fun b o _ _ a e _=>⟨o.slots,k b o (fun z=>a (by simp[z])) e⟩) (fun _ _ _ _ n=>n)
  (fun b o a e=>⟨o,k b o (fun z=>a (by simp[z])) e⟩) (fun _ _ e=>e) (fun _ _ _ e=>e) (fun b ps e=>⟨#[],by rw[e];simp⟩) (fun m h=>?_) (fun b u e=>?_) I.bare
 .have e:b=it:=by simpa using i
  subst e;exact⟨h1,hL,h2,h3⟩
 .obtain⟨o,es,ep,g,r⟩:=h;exact⟨o,es,ep,k _ o (Ne.symm hL) g,r⟩
 .refine(I.hok b u e).stay (fun c v a q=>k c v ?_ q) (fun _ q=>q) fun _ _ q=>q
  rcases a with z|z
  .rw[z];exact f b u e
  .exact f c _ z
theorem Jd.tok(I:Jd X pins σ H s)(t:Nat):Jd X pins σ H {s with toks:=t}:=I.un (h':=s.heap) (t':=t) Un.refl I.hok
theorem Jd.kept{t':Nat}(I:Jd X pins σ H s)(k:∀b u,s.heap.get? b=some u->h'.get? b=some u):Jd X pins σ H {s with heap:=h',toks:=t'}:=I.un (Un.kept k) (I.hok.kept k)
theorem Jd.laid{a:WX}{o:HO}{t':Nat}(I:Jd X pins σ H s)(k:∀b u,s.heap.get? b=some u->h'.get? b=some u)(hp:s.heap.objs.size <=a)(new:Jy X.prog X.w (upd H a o) h' a o):
  Jd X pins σ (upd H a o) {s with heap:=h',toks:=t'}:=I.un (Un.laid k hp (I.hok.fresh hp)) (I.hok.laid k hp new)
theorem Jd.write{x e:WX}{o:HO}{t':Nat}(I:Jd X pins σ H s)(mu:Ac (H x))(he:e=x\/H e=some (.own x))(k:∀b u,b≠e->s.heap.get? b=some u->h'.get? b=some u)(heo:∃u,h'.get? e=some u)
  (new:Jy X.prog X.w (upd H x o) h' x o):Jd X pins σ (upd H x o) {s with heap:=h',toks:=t'}:=I.un (Un.write mu he k heo) (I.hok.write mu he k heo new)
theorem Jd.pins_of{pins':WO}(I:Jd X pins σ H s)(h:∀p∈pins',s.heap.get? p.1=some p.2/\H p.1=none/\p.1≠X.env.locals/\p.1∉X.fs/\∀v,p.2.data≠ .cell v):Jd X pins' σ H s:=
 ⟨I.ok,I.os,I.bare,I.base,I.loc,I.cell,I.free,I.freeC,fun p a=>(Yp.mp a).elim (fun z=>I.pin p (XV _ z)) (h p),I.hok,I.len⟩
theorem Oz{N:List Str}(hN:N.Nodup){i j:Nat}{x:Str}(a:N[i]?=some x)(b:N[j]?=some x):i=j:=by
 obtain⟨h1,e⟩:=Ym.mp a;obtain⟨h2,c⟩:=Ym.mp b;exact(List.getElem_inj hN).mp (e.trans c.symm)
theorem yJ{M:Model}{A:WT}{E:WM}{i:Nat}{x:Str}{v:V}{u:WW}{Q:WN}(I:Jd X pins σ H s)(hN:X.N.Nodup)(hi:X.N[i]?=some x)(hx:EU X.env.scope x)(r:Jr v u)
  (h:∀s',Jd X pins (σ.set i (some v)) H s'->(∃a,Heap.SameBut a s.heap s'.heap/\(a=X.env.locals\/X.env.cells.lookup x=some a))->Q () s') (hf:X.fn x=true\/X.env.scope.names.lookup x=some .local:=by first|exact .inl rfl|exact .inr rfl|assumption):wpAny M A (storeName X.env x u) Q E s:=by
 obtain⟨m,hn,hl⟩:=id I.loc;have hcls:(X.env.scope.kind== .class||(X.env.scope.kind== .module && X.env.locals !=X.env.globals))=false:=by rw[I.ok.kind];rfl
 have hiσ:i < σ.length:=by rw[I.len];exact(Ym.mp hi).1
 have cne:=I.cne;have tracked:∀{a:WX} {h':J6},(∃o,s.heap.get? a=some o/\H a=none)->Heap.SameBut a s.heap h'->TM X.prog X.w H h':=fun {a h'} ha f b ob e=>by
  obtain⟨_,_,hfree⟩:=ha;refine(I.hok b ob e).stay (fun c w' hc q=>(f.2 c ?_).trans q) (fun _ q=>q) fun _ _ q=>q
  rintro rfl;rcases hc with rfl|hc
  .rw[hfree]at e;cases e
  .rw[hfree]at hc;cases hc
 rcases hx with hk|hk
 .refine wpAny_storeName_local hk hn (fun h' hn' f=>?_) hcls;obtain⟨oL,_,_,hoL,_⟩:=id hn;refine h _ ⟨I.ok,I.os,I.bare,⟨fun b o e n hb hx=>?_,fun b o e n hb hx=>?_,I.base.free,fun b o e hx=>?_,I.base.tups,I.base.frzs,I.base.tbls⟩,⟨_,hn',fun j y v' g e2 e3=>?_⟩,fun y c e=>?_,I.free,I.freeC,fun p hp=>?_,tracked ⟨oL,hoL,I.free⟩ f,by simpa using I.len⟩ ⟨_,f,.inl rfl⟩
  .exact(f.2 b (Yr (YH (Yd e) I.ok.above))).trans (I.base.keep b o e n hb hx)
  .obtain⟨sl,g⟩:=I.base.slot b o e n hb hx;exact⟨sl,(f.2 b (Yr (YH (Yd e) I.ok.above))).trans g⟩
  .obtain⟨o',g⟩:=I.base.there b o e hx;exact⟨o',(f.2 b (Yr (YH (Yd e) I.ok.above))).trans g⟩
  .by_cases hj:j=i
   .subst hj;rw[hi]at g;cases g;rw[Wi hiσ]at e2;cases e2;exact⟨u,r,.inl ⟨hk,by simp⟩⟩
   .rw[Wu (Ne.symm hj)]at e2;obtain⟨u',r',q⟩:=hl j y v' g e2 e3;refine⟨u',r',?_⟩;rcases q with⟨k,e⟩|⟨k,c,e,z⟩
    .refine .inl ⟨k,?_⟩;have:y≠x:=fun e=>hj (Oz hN g (e▸hi))
     simp[this,e]
    .exact .inr ⟨k,c,e,z.sameBut f (cne y c e)⟩
  .obtain⟨w',z⟩:=I.cell y c e;exact⟨w',z.sameBut f (cne y c e)⟩
  .obtain⟨e,n,ne,nf,d⟩:=I.pin p hp;exact⟨(f.2 p.1 ne).trans e,n,ne,nf,d⟩
 .have hfn:X.fn x=true:=by
   rcases hf with z|z
   .exact z
   .rw[z]at hk;cases hk
  obtain⟨c,hc⟩:=I.ok.has x (.inl hk);obtain⟨w',z⟩:=I.cell x c hc;refine wpAny_storeName_cell I.ok.kind hk hc z (fun h' hc' f=>?_);obtain⟨oc,hoc,hocd⟩:=id z;refine h {s with heap:=h'} ⟨I.ok,I.os,I.bare,⟨fun b o e n hb hx=>?_,fun b o e n hb hx=>?_,I.base.free,fun b o e hx=>?_,I.base.tups,I.base.frzs,I.base.tbls⟩,⟨m,hn.sameBut f (Ne.symm (cne x c hc)),fun j y v' g e2 e3=>?_⟩,fun y c' e=>?_,I.free,I.freeC,fun p hp=>?_,tracked ⟨oc,hoc,I.freeC x c hc⟩ f,by simpa using I.len⟩ ⟨c,f,.inr hc⟩
  .exact(f.2 b (Yr (YH (Yd e) (I.ok.cab x c hfn hc)))).trans (I.base.keep b o e n hb hx)
  .obtain⟨sl,g⟩:=I.base.slot b o e n hb hx;exact⟨sl,(f.2 b (Yr (YH (Yd e) (I.ok.cab x c hfn hc)))).trans g⟩
  .obtain⟨o',g⟩:=I.base.there b o e hx;exact⟨o',(f.2 b (Yr (YH (Yd e) (I.ok.cab x c hfn hc)))).trans g⟩
  .by_cases hj:j=i
   .subst hj;rw[hi]at g;cases g;rw[Wi hiσ]at e2;cases e2;exact⟨u,r,.inr ⟨.inl hk,c,hc,hc'⟩⟩
   .rw[Wu (Ne.symm hj)]at e2;obtain⟨u',r',q⟩:=hl j y v' g e2 e3;refine⟨u',r',?_⟩;rcases q with q|⟨k,c',e,z'⟩
    .exact .inl q
    .refine .inr ⟨k,c',e,z'.sameBut f ?_⟩;rintro rfl;exact hj (Oz hN g (I.ok.inj _ _ _ e hc▸hi))
  .by_cases hcc:c'=c
   .subst hcc;exact⟨_,hc'⟩
   .obtain⟨w2,z2⟩:=I.cell y c' e;exact⟨w2,z2.sameBut f hcc⟩
  .obtain⟨e,n,ne,nf,d⟩:=I.pin p hp;refine⟨(f.2 p.1 ?_).trans e,n,ne,nf,d⟩;intro q;rw[q,hoc]at e;have q':oc=p.2:=Option.some.inj e;exact d w' (by rw[<-q'];exact hocd)
theorem Kv{M:Model}{A:WT}{E:WM}{i:Nat}{x:Str}{v:V}{u:WW}{Q:WN}(I:Jd X pins σ H s)(hN:X.N.Nodup)(hi:X.N[i]?=some x)(hx:EU X.env.scope x)(r:Jr v u)
  (h:∀s',Jd X pins (σ.set i (some v)) H s'->Q () s') (hf:X.fn x=true\/X.env.scope.names.lookup x=some .local:=by first|exact .inl rfl|exact .inr rfl|assumption):wpAny M A (storeName X.env x u) Q E s:=
 yJ I hN hi hx r (fun s' a _=>h s' a) hf
theorem Jd.call'{s':WQ}{ch:List Addr}(I:Jd X pins σ H s)(ho:s'.os=s.os)(u:Un (GB X.stack) ch H H' s.heap s'.heap)(hok:TM X.prog X.w H' s'.heap)(hg:AllBare s'.gens)
  (hch:∀b∈ch,(b∈X.ex\/X.s₀.heap.objs.size <=b)/\b≠X.env.locals/\(∀x c,X.env.cells.lookup x=some c->c≠b)/\∀p∈X.pn++pins,p.1≠b):Jd X pins σ H' s':=by
 obtain⟨h',g',d',t',o'⟩:=s';have e:o'=s.os:=ho;subst e;exact I.call (g':=g') (t':=t') (d':=d') u hok hg hch
end
abbrev XK:=Value->Option Addr->Hp->Prop
abbrev St:=List (Option V)
abbrev VK:=V->Hp->Prop
abbrev TE:=St->Hp->VK->Prop
abbrev TT:=St->Hp->(Bool->Hp->Prop)->Prop
abbrev TA:=St->Hp->(List V->Hp->Prop)->Prop
structure TQ where
 nx:St->Hp->Prop
 rt:VK
 bk:St->Hp->Prop:=fun _ _=>False
 ct:St->Hp->Prop:=fun _ _=>False
abbrev TS:=TQ->St->Hp->Prop
def EP(X:Cx)(pins:WO)(σ:St)(Q:VK)(u:WW)(s':WQ):Prop:=∃v H',Jd X pins σ H' s'/\Jr v u/\Q v H'
def TP(X:Cx)(pins:WO)(σ:St)(Q:Bool->Hp->Prop)(b:Bool)(s':WQ):Prop:=∃H',Jd X pins σ H' s'/\Q b H'
def AP(X:Cx)(pins:WO)(σ:St)(Q:List V->Hp->Prop)(us:WZ)(s':WQ):Prop:=∃vs H',Jd X pins σ H' s'/\Ji vs us/\Q vs H'
def SP(X:Cx)(pins:WO)(D:TQ)(f:Flow)(s':WQ):Prop:=
 match f with
 | .next=>∃σ' H',Jd X pins σ' H' s'/\D.nx σ' H'
 | .brk=>∃σ' H',Jd X pins σ' H' s'/\D.bk σ' H'
 | .cont=>∃σ' H',Jd X pins σ' H' s'/\D.ct σ' H'
 | .ret u=>∃v σ' H',Jd X pins σ' H' s'/\Jr v u/\D.rt v H'
def PE(X:Cx)(e:J7)(t:TE):Prop:=
 ∀ (pins:WO) (s:WQ) (σ:St) (H:Hp) (Q:VK),Jd X pins σ H s->t σ H Q->wpAny (model X.prog X.w) X.A (eval e X.env) (EP X pins σ Q) X.xe s
def PT(X:Cx)(e:J7)(t:TT):Prop:=
 ∀ (pins:WO) (s:WQ) (σ:St) (H:Hp) (Q:Bool->Hp->Prop),Jd X pins σ H s->t σ H Q->wpAny (model X.prog X.w) X.A (isTrue e X.env (eval e X.env)) (TP X pins σ Q) X.xe s
def PW(X:Cx)(e:J7)(t:TT):Prop:=
 ∀ (whole:Sem Value) (pins:WO) (s:WQ) (σ:St) (H:Hp) (Q:Bool->Hp->Prop),Jd X pins σ H s->t σ H Q->wpAny (model X.prog X.w) X.A (isTrue e X.env whole) (TP X pins σ Q) X.xe s
theorem PW.pt{X:Cx}{e:J7}{t:TT}(h:PW X e t):PT X e t:=h _
def PA(X:Cx)(es:List Expr)(t:TA):Prop:=
 ∀ (pos:Pos) (pins:WO) (s:WQ) (σ:St) (H:Hp) (Q:List V->Hp->Prop),Jd X pins σ H s->t σ H Q->wpAny (model X.prog X.w) X.A (spliced (backTo pos (starEach es X.env))) (AP X pins σ Q) X.xe s
def PS(X:Cx)(st:Stmt)(t:TS):Prop:=
 ∀ (pins:WO) (s:WQ) (σ:St) (H:Hp) (D:TQ),Jd X pins σ H s->t D σ H->wpAny (model X.prog X.w) X.A (exec st X.env) (SP X pins D) X.xe s
def D7(X:Cx)(st:List Stmt)(t:TS):Prop:=
 ∀ (pins:WO) (s:WQ) (σ:St) (H:Hp) (D:TQ),Jd X pins σ H s->t D σ H->wpAny (model X.prog X.w) X.A (execs st X.env) (SP X pins D) X.xe s
theorem JH{α:Type}{t:Sem α}{Q Q':α->Shared->Prop}{M:Model}{A:WT}{E:WM}{s:WQ}(h:wpAny M A t Q E s)(hQ:∀a s,Q a s->Q' a s):wpAny M A t Q' E s:=Xm h hQ fun _ _ x=>x
section
variable{X:Cx}
def As(i:Nat):TE:=fun σ H Q=>∃v,σ[i]?=some (some v)/\Q v H
def tC(v:V):TE:=fun _ H Q=>Q v H
theorem nV{i:Nat}{x:Str}{pos:Pos}(hN:X.N[i]?=some x)(hv:AK X.env.scope x)(hd:(x==("__debug__":Str))=false:=by decide)(hcd:(x==("__classdict__":Str))=false:=by decide):PE X (.Name x pos) (As i):=by
 intro pins s σ H Q I h;obtain⟨v,e,h⟩:=h;obtain⟨m,b,f⟩:=I.loc;obtain⟨u,r,l⟩:=f i x v hN e hv;have a:EP X pins σ Q u s:=⟨v,H,I,r,h⟩;rcases l with⟨hk,hm⟩|⟨hk,c,hc,hcell⟩
 .exact wpAny_Name (wpAny_loadName_local I.ok.kind hk b hm a) hd
 .rcases hk with hk|hk
  .exact wpAny_Name (wpAny_loadName_cell I.ok.kind hk hc hcell a) hd
  .exact wpAny_Name (wpAny_loadName_free I.ok.kind hk hc hcell a hcd) hd
theorem Jt{i j pos}:PE X (.Constant (.int i) j pos) (tC (.int i)):=fun _ _ _ H _ I h=>wpAny_Constant_int ⟨.int i,H,I.tok _,⟨_,rfl⟩,h⟩
theorem R8{b j pos}:PE X (.Constant (.bool b) j pos) (tC (.bl b)):=fun _ _ _ H _ I h=>Constant_bool ⟨.bl b,H,I,rfl,h⟩
theorem Rn{j pos}:PE X (.Constant .none j pos) (tC .non):=fun _ _ _ H _ I h=>Constant_none ⟨.non,H,I,rfl,h⟩
theorem NY{x j pos}:PE X (.Constant (.str x) j pos) (tC (.str x)):=fun _ _ _ H _ I h=>Calls.Constant_str ⟨.str x,H,I.tok _,⟨_,rfl⟩,h⟩
def Gl(X:Cx)(x:Str):Prop:=X.env.kindOf x=some .globalImplicit
theorem LS{E:WM}{pins:WO}{s:WQ}{σ:St}{H:Hp}{x:Str}{u:WW}{pos:Pos}{Q:WM}(I:Jd X pins σ H s)(hg:Gl X x)(hm:X.mg x=some u)(h:Q u s)
  (hd:(x==("__debug__":Str))=false:=by decide):wpAny (model X.prog X.w) X.A (eval (.Name x pos) X.env) Q E s:=
 VP I.ok.kind hg (Calls.loadGlobal_global (by rw[I.ok.glob];exact I.mod.glob.keeps I.bk) hm h) hd
theorem BO{E:WM}{pins:WO}{s:WQ}{σ:St}{H:Hp}{x:Str}{u:WW}{pos:Pos}{Q:WM}(I:Jd X pins σ H s)(hg:Gl X x)(hm:X.mg x=none)(hv:bootBuiltins x=some u)(h:Q u s)
  (hn:x≠"__name__":=by decide) (hd:(x==("__debug__":Str))=false:=by decide):wpAny (model X.prog X.w) X.A (eval (.Name x pos) X.env) Q E s:=by
 obtain⟨mb,h1,h2⟩:=I.mod.blt;exact VP I.ok.kind hg (Calls.loadGlobal_builtin (by rw[I.ok.glob];exact I.mod.glob.keeps I.bk) hm (by rw[I.ok.blt];exact h1.keeps I.bk) ((h2 x hn).trans hv) h) hd
theorem B4{x:Str}{v:V}{u:WW}{pos:Pos}(hg:Gl X x)(hm:X.mg x=some u)(r:Jr v u)(hd:(x==("__debug__":Str))=false:=by decide):PE X (.Name x pos) (tC v):=
 fun _ _ _ H _ I h=>LS I hg hm ⟨v,H,I,r,h⟩ hd
theorem E8{x:Str}{v:V}{u:WW}{pos:Pos}(hg:Gl X x)(hm:X.mg x=none)(hv:bootBuiltins x=some u)(r:Jr v u)(hn:x≠"__name__":=by decide)(hd:(x==("__debug__":Str))=false:=by decide):PE X (.Name x pos) (tC v):=
 fun _ _ _ H _ I h=>BO I hg hm hv ⟨v,H,I,r,h⟩ hn hd
variable{a b:J7}{ta tb:TE}{pos:Pos}
def tB(t:TE):TT:=fun σ H Q=>t σ H fun x H1=>∃c,x= .bl c/\Q c H1
theorem bF{e:J7}{t:TE}(h:PE X e t)(he:∀whole,isTrue e X.env whole=(do let v <-whole;standAt e.pos;holding [v] (truthy v)):=by intro _;rfl):PT X e (tB t):=by
 intro pins s σ H Q I c;refine isTrue_plain (JH (h pins s σ H _ I c) fun v g ⟨x,H1,f,a,b⟩=>?_) (he _);obtain⟨d,rfl,q⟩:=b;cases a;exact Xs ⟨H1,f,q⟩
variable{tA tB':TT}{rest:List Expr}
def Lb(t u:TT):TT:=fun σ H Q=>t σ H fun c H1=>if c=true then u σ H1 Q else Q false H1
def Ku(t u:TT):TT:=fun σ H Q=>t σ H fun c H1=>if c=true then Q true H1 else u σ H1 Q
def Lr(t:TT):TT:=fun σ H Q=>t σ H fun c H1=>Q (!c) H1
theorem RI(ha:PT X a tA):PW X (.BoolOp .And [a] pos) tA:=by
 intro b pins s σ H Q I h;refine isTrue_and (JH (ha pins s σ H Q I h) fun c f e=>?_);cases c with
 |true=>exact isTrue_and_nil e
 |false=>exact e
theorem Rx(ha:PT X a tA):PW X (.BoolOp .Or [a] pos) tA:=by
 intro b pins s σ H Q I h;refine isTrue_or (JH (ha pins s σ H Q I h) fun c f e=>?_);cases c with
 |false=>exact isTrue_or_nil e
 |true=>exact e
theorem Rl(ha:PT X a tA)(hb:PW X (.BoolOp .And (b::rest) pos) tB'):PW X (.BoolOp .And (a::b::rest) pos) (Lb tA tB'):=by
 intro g pins s σ H Q I h;refine isTrue_and (JH (ha pins s σ H _ I h) fun c i ⟨H1,f,e⟩=>?_);cases c with
 |true=>exact hb g pins i σ H1 Q f e
 |false=>exact⟨H1,f,e⟩
theorem Rc(ha:PT X a tA)(hb:PW X (.BoolOp .Or (b::rest) pos) tB'):PW X (.BoolOp .Or (a::b::rest) pos) (Ku tA tB'):=by
 intro g pins s σ H Q I h;refine isTrue_or (JH (ha pins s σ H _ I h) fun c i ⟨H1,f,e⟩=>?_);cases c with
 |true=>exact⟨H1,f,e⟩
 |false=>exact hb g pins i σ H1 Q f e
theorem D0(ha:PT X a tA):PT X (.UnaryOp .Not a pos) (Lr tA):=by
 intro pins s σ H Q I h;exact isTrue_not (ha pins s σ H (fun c H1=>Q (!c) H1) I h)
def B8(ta tb:TE):TE:=fun σ H Q=>ta σ H fun x H1=>∃c,x= .bl c/\if c=true then tb σ H1 Q else Q (.bl false) H1
def Bj(ta:TE):TE:=fun σ H Q=>ta σ H fun x H1=>∃c,x= .bl c/\Q (.bl (!c)) H1
theorem Gq{op}{t:TE}(h:PE X a t):PE X (.BoolOp op [a] pos) t:=fun pins s σ H Q I b=>BoolOp_one (h pins s σ H Q I b)
theorem bP(ha:PE X a ta)(hb:PE X (.BoolOp .And (b::rest) pos) tb):PE X (.BoolOp .And (a::b::rest) pos) (B8 ta tb):=by
 intro pins s σ H Q I h;refine BoolOp_and (JH (ha pins s σ H _ I h) fun v g ⟨x,H1,f,i,e⟩=>?_);obtain⟨c,rfl,e⟩:=e;cases i;refine Xs ?_;cases c with
 |true=>exact hb pins g σ H1 Q f e
 |false=>exact⟨.bl false,H1,f,rfl,e⟩
theorem xI(ha:PE X a ta):PE X (.UnaryOp .Not a pos) (Bj ta):=by
 intro pins s σ H Q I h;refine UnaryOp_ (JH (ha pins s σ H _ I h) fun v g ⟨x,H1,f,e,b⟩=>?_);obtain⟨c,rfl,b⟩:=b;cases e;exact not_of (Xs ⟨.bl (!c),H1,f,rfl,b⟩)
def HC(t:TT)(ta tb:TE):TE:=fun σ H Q=>t σ H fun c H1=>if c=true then ta σ H1 Q else tb σ H1 Q
theorem Ou{c:J7}(hc:PT X c tA)(ha:PE X a ta)(hb:PE X b tb):PE X (.IfExp c a b pos) (HC tA ta tb):=by
 intro pins s σ H Q I h;refine wpAny_IfExp (JH (hc pins s σ H _ I h) fun d e ⟨H1,g,f⟩=>?_);cases d with
 |true=>exact ha pins e σ H1 Q g f
 |false=>exact hb pins e σ H1 Q g f
end
def Jh(K:WV)(H:Hp)(a:WX)(xs:List V):Prop:=
 Rd H a (.lst xs)\/
  ∃ (o:Obj) (its:Array Value) (n:Nat),K.lookup a=some o/\o.cls= .type "list"/\o.dict=none/\o.data= .seq its n/\its.size <=sizeLine/\Ji xs its.toList
def JC(K:WV)(H:Hp)(a:WX)(xs:List V):Prop:=
 Rd H a (.tup xs)\/
  ∃ (o:Obj) (its:Array Value) (n:Nat),K.lookup a=some o/\o.cls= .type "tuple"/\o.data= .seq its n/\its.size <=sizeLine/\Ji xs its.toList
def yO:Value->Option V
 | .none=>some .non
 | .bool b=>some (.bl b)
 | .int i _=>some (.int i)
 | .str x _=>some (.str x)
 | .bytes b _=>some (.byt b)
 | .float b _=>some (.flt b)
 | .ref a=>some (.ref a)
 | .type n=>some (.ty n)
 |_=>none
theorem Jr.abs{x:V}{u:WW}(r:Jr x u):yO u=some x:=by
 cases x with
 |non=>cases r;rfl
 |bl _=>cases r;rfl
 |int _=>obtain⟨t,rfl⟩:=r;rfl
 |str _=>obtain⟨t,rfl⟩:=r;rfl
 |byt _=>obtain⟨t,rfl⟩:=r;rfl
 |flt _=>obtain⟨t,rfl⟩:=r;rfl
 |ref _=>cases r;rfl
 |ty _=>cases r;rfl
theorem Jr.inj{x y:V}{u:WW}(r:Jr x u)(q:Jr y u):x=y:=Option.some.inj (r.abs.symm.trans q.abs)
theorem Ji.inj:∀{xs ys:List V} {us:WZ},Ji xs us->Ji ys us->xs=ys
 |_,_,_,.nil,.nil=>rfl
 |_,_,_,.cons r t,.cons r' t'=>by rw[r.inj r',Ji.inj t t']
section
variable{X:Cx}{pins:WO}{σ:St}{H:Hp}{s:WQ}{a:WX}{xs ys:List V}
theorem Jh.of{K:WV}(h:H a=some (.lst xs)):Jh K H a xs:=.inl (.inl h)
theorem JC.of{K:WV}(h:H a=some (.tup xs)):JC K H a xs:=.inl (.inl h)
theorem Jd.list(I:Jd X pins σ H s)(h:Jh X.K H a xs):∃its:List Value,Ji xs its/\PlainL s.heap a its.toArray/\xs.length <=sizeLine:=by
 rcases h with h|⟨o,its,n,hk,hc,hd,hs,hz,r⟩
 .obtain⟨z,its,n,r,e⟩:=h.ok I.hok;exact⟨its,r,⟨_,n,e,rfl,rfl,rfl⟩,z⟩
 .refine⟨its.toList,r,⟨o,n,I.kIn a o hk,hc,hd,by simpa using hs⟩,?_⟩;have e:=r.length;simp only[Array.length_toList]at e
  lia
theorem Jd.tuple(I:Jd X pins σ H s)(h:JC X.K H a xs):∃its:List Value,Ji xs its/\IsTup s.heap a its.toArray/\xs.length <=sizeLine:=by
 rcases h with h|⟨o,its,n,hk,hc,hs,hz,r⟩
 .obtain⟨z,its,r,p⟩:=h.ok I.hok;exact⟨its,r,p,z⟩
 .refine⟨its.toList,r,⟨o,I.kIn a o hk,hc,n,by simpa using hs⟩,?_⟩;have e:=r.length;simp only[Array.length_toList]at e
  lia
theorem Jd.list_inj(I:Jd X pins σ H s)(h:Jh X.K H a xs)(h':Jh X.K H a ys):xs=ys:=by
 obtain⟨c,r,⟨o,n,e,_,_,d⟩,_⟩:=I.list h;obtain⟨b,i,⟨o',j,f,_,_,g⟩,_⟩:=I.list h';rw[e]at f;cases f;rw[d]at g;injection g with d1 _;have:c=b:=by simpa using X3 Array.toList d1
 subst this;exact r.inj i
end
abbrev Cx.wish(X:Cx)(E:WM):Cx:={X with xe:=E}
abbrev Cx.nox(X:Cx):Cx:=X.wish fun _ _=>False
theorem Cx.Ok.wish{X:Cx}(ok:X.Ok)(E:WM):(X.wish E).Ok:=
 ⟨ok.mod,ok.kind,ok.glob,ok.blt,ok.above,ok.inj,ok.has,ok.cab,ok.hd,ok.frames,ok.stk,ok.exf,ok.bs,ok.bsz,ok.noex,ok.exfs,ok.funs,ok.frf⟩
theorem Cx.Ok.unwish{X:Cx}{E:WM}(ok:(X.wish E).Ok):X.Ok:=
 ⟨ok.mod,ok.kind,ok.glob,ok.blt,ok.above,ok.inj,ok.has,ok.cab,ok.hd,ok.frames,ok.stk,ok.exf,ok.bs,ok.bsz,ok.noex,ok.exfs,ok.funs,ok.frf⟩
section
variable{X:Cx}{pins:WO}{σ:St}{H:Hp}{s:WQ}{E:WM}
theorem Jd.wish(I:Jd X pins σ H s)(E:WM):Jd (X.wish E) pins σ H s:=⟨I.ok.wish E,I.os,I.bare,I.base,I.loc,I.cell,I.free,I.freeC,I.pin,I.hok,I.len⟩
theorem Jd.unwish(I:Jd (X.wish E) pins σ H s):Jd X pins σ H s:=⟨I.ok.unwish,I.os,I.bare,I.base,I.loc,I.cell,I.free,I.freeC,I.pin,I.hok,I.len⟩
theorem SP.unwish{D:TQ}{f:Flow}{s':WQ}(h:SP (X.wish E) pins D f s'):SP X pins D f s':=by
 cases f with
 |next=>obtain⟨σ',H',I,q⟩:=h;exact⟨σ',H',I.unwish,q⟩
 |brk=>obtain⟨σ',H',I,q⟩:=h;exact⟨σ',H',I.unwish,q⟩
 |cont=>obtain⟨σ',H',I,q⟩:=h;exact⟨σ',H',I.unwish,q⟩
 |ret u=>obtain⟨v,σ',H',I,r,q⟩:=h;exact⟨v,σ',H',I.unwish,r,q⟩
theorem D7.nox{st:List Stmt}{t:TS}(h:D7 X.nox st t):D7 X st t:=fun pins s σ H D I a=>
 Xm (h pins s σ H D (I.wish _) a) (fun _ _ q=>q.unwish) fun _ _ z=>False.elim z
end
section
variable{X:Cx}{st:Stmt}{rest:List Stmt}{t u:TS}{e:J7}{te:TE}{pos:Pos}
def HE:TS:=fun D σ H=>D.nx σ H
def DU(t u:TS):TS:=fun D σ H=>t {D with nx:=u D} σ H
theorem NU:D7 X [] HE:=fun _ _ σ H _ I h=>Vv ⟨σ,H,I,h⟩
theorem Jp(h1:PS X st t)(h2:D7 X rest u):D7 X (st::rest) (DU t u):=by
 intro pins s σ H D I h;refine wpAny_execs_cons (JH (h1 pins s σ H {D with nx:=u D} I h) fun f a q=>?_);cases f with
 |next=>
  obtain⟨σ',H',b,q⟩:=q;exact h2 pins a σ' H' D b q
 |ret v=>exact q
 |brk=>exact q
 |cont=>exact q
theorem Jz(h1:PS X st t):D7 X [st] t:=by
 intro pins s σ H D I h;refine wpAny_execs_cons (JH (h1 pins s σ H D I h) fun f a q=>?_);cases f with
 |next=>exact Vv q
 |ret v=>exact q
 |brk=>exact q
 |cont=>exact q
def K5:TS:=fun D σ H=>D.bk σ H
theorem yD:PS X (.Break pos) K5:=fun _ _ σ H _ I h=>wpAny_Break ⟨σ,H,I,h⟩
theorem Jd.quiet{pins:WO}{σ:St}{H:Hp}{s:WQ}(I:Jd X pins σ H s):interactive X.env=false:=by simp[interactive,I.ok.kind]
def Lz(te:TE):TS:=fun D σ H=>te σ H fun _ H1=>D.nx σ H1
theorem Mv(he:PE X e te)(hs:swapsWith e none pos.line X.env=pure false:=by rfl):PS X (.Expr e pos) (Lz te):=by
 intro pins s σ H D I h;exact wpAny_Expr_any (JH (he pins s σ H _ I h) fun v c ⟨x,H1,b,f,a⟩=>⟨σ,H1,b,a⟩) I.quiet hs
def C4(te:TE):TS:=fun D σ H=>te σ H D.rt
theorem N8(he:PE X e te):PS X (.Return (some e) pos) (C4 te):=by
 intro pins s σ H D I h;exact wpAny_Return_some (JH (he pins s σ H _ I h) fun v f ⟨x,H1,c,a,b⟩=>⟨x,σ,H1,c,a,b⟩)
def HL(c:TT)(t u:TS):TS:=fun D σ H=>c σ H fun b H1=>if b=true then t D σ H1 else u D σ H1
theorem NB{c:J7}{a b:List Stmt}{tc:TT}(hc:PT X c tc)(ha:D7 X a t)(hb:D7 X b u):PS X (.If c a b pos) (HL tc t u):=by
 intro pins s σ H D I h;refine wpAny_If (JH (hc pins s σ H _ I h) fun d e ⟨H1,g,f⟩=>?_);cases d with
 |true=>exact ha pins e σ H1 D g f
 |false=>exact hb pins e σ H1 D g f
def tU:TS:=fun _ _ _=>False
theorem RL{sts:List Stmt}:D7 X sts tU:=fun _ _ _ _ _ _ h=>h.elim
end
abbrev TG:=V->St->Hp->(St->Hp->Prop)->Prop
abbrev Ec:=List V->St->Hp->(St->Hp->Prop)->Prop
def PG(X:Cx)(target:J7)(t:TG):Prop:=
 ∀ (pins:WO) (s:WQ) (σ:St) (H:Hp) (v:V) (u:WW) (Q:St->Hp->Prop),Jd X pins σ H s->Jr v u->t v σ H Q->
  wpAny (model X.prog X.w) X.A (assign target X.env u) (fun _ s'=>∃σ' H',Jd X pins σ' H' s'/\Q σ' H') X.xe s
def AH(X:Cx)(ts:List Expr)(t:Ec):Prop:=
 ∀ (pins:WO) (s:WQ) (σ:St) (H:Hp) (vs:List V) (us:WZ) (Q:St->Hp->Prop),Jd X pins σ H s->Ji vs us->t vs σ H Q->
  wpAny (model X.prog X.w) X.A (assignInOrder ((assignEach ts X.env).map (·.2)) us) (fun _ s'=>∃σ' H',Jd X pins σ' H' s'/\Q σ' H') X.xe s
abbrev FG:=V->V->V->Hp->(Hp->Prop)->Prop
def GK(X:Cx)(t:FG):Prop:=
 ∀ (pins:WO) (s:WQ) (σ:St) (H:Hp) (o i v:V) (ov iv u:WW) (Q:Hp->Prop),Jd X pins σ H s->Jr o ov->Jr i iv->Jr v u->t o i v H Q->
  wpAny (model X.prog X.w) X.A (setItem ov iv u) (fun _ s'=>∃H',Jd X pins σ H' s'/\Q H') X.xe s
section
variable{X:Cx}{pos:Pos}
def Gs(i:Nat):TG:=fun v σ H Q=>Q (σ.set i (some v)) H
theorem Ms{i:Nat}{x:Str}(hN:X.N.Nodup)(hi:X.N[i]?=some x)(hx:EU X.env.scope x)(hf:X.fn x=true\/X.env.scope.names.lookup x=some .local:=by first|exact .inl rfl|exact .inr rfl|assumption):PG X (.Name x pos) (Gs i):=by
 intro pins s σ H v u Q I r h;exact wpAny_assign_Name (Kv I hN hi hx r (fun s' a=>⟨_,H,a,h⟩) hf)
def Ke:Ec:=fun vs σ H Q=>vs=[]/\Q σ H
def IV(t:TG)(u:Ec):Ec:=fun vs σ H Q=>∃v r,vs=v::r/\t v σ H fun σ' H'=>u r σ' H' Q
theorem EZ:AH X [] Ke:=by
 intro pins s σ H vs a Q I r h;obtain⟨e,h⟩:=h;subst e;cases r;exact assignInOrder_nil ⟨σ,H,I,h⟩
theorem Db{e:J7}{es:List Expr}{t:TG}{u:Ec}(h1:PG X e t)(h2:AH X es u)
  (hs:(assignEach (e::es) X.env).map (·.2)=assign e X.env::(assignEach es X.env).map (·.2):=by rfl):AH X (e::es) (IV t u):=by
 intro pins s σ H vs i Q I r h;obtain⟨v,g,c,h⟩:=h;subst c;cases r with
 |cons r rr=>
  rw[hs];refine assignInOrder_cons (JH (h1 pins s σ H _ _ _ I r h) fun _ a ⟨σ1,H1,f,b⟩=>?_);exact h2 pins a σ1 H1 _ _ Q f rr b
def AW(K:WV)(n:Nat)(t:Ec):TG:=fun v σ H Q=>∃a xs,v= .ref a/\JC K H a xs/\xs.length=n/\t xs σ H Q
theorem Zl{es:List Expr}{k:Nat}{t:Ec}{n:Nat}(hc:X.calm=true)(h:AH X es t)
  (hn:(assignEach es X.env).length=n:=by rfl) (hst:(assignEach es X.env).findIdx? (·.1)=none:=by rfl):PG X (.Tuple es k pos) (AW X.K n t):=by
 intro pins s σ H v u Q I r c;obtain⟨a,xs,q,j,p,c⟩:=c;subst q;cases r;obtain⟨x,f,i,y⟩:=I.tuple j;refine assign_Tuple_tuple (I.ok.hd hc) i (by simp[hn,<-p,f.length]) hst fun h' g=>?_
 have w:Jd X pins σ H {s with heap:=h'}:=I.kept (t':=s.toks) fun b o e=>g b o (Yr (Yd e)) e
 exact h pins _ σ H xs _ Q w (by simpa using f) c
def K6(to ti:TE)(t:FG):TG:=fun v σ H Q=>to σ H fun o H1=>ti σ H1 fun i H2=>t o i v H2 fun H3=>Q σ H3
theorem wJ{o i:J7}{to ti:TE}{t:FG}(ho:PE X o to)(hi:PE X i ti)(hs:GK X t)
  (ha : ∀ v, assign (.Subscript o i pos) X.env v = (do
   let ov <-holding [v] (eval o X.env)
   let iv <-holding [v,ov] (eval i X.env)
   standAt pos
   holding [v,ov,iv] (setItem ov iv v)
   release [v, ov, iv] []) := by intro _; rfl) : PG X (.Subscript o i pos) (K6 to ti t) := by
 intro pins s σ H v u Q I r h;rw[ha];refine Y0 (YK (JH (ho pins s σ H _ I h) fun ov b ⟨x,H1,q,e,j⟩=>?_));refine Y0 (YK (JH (hi pins b σ H1 _ q j) fun iv a ⟨y,H2,p,c,g⟩=>?_));refine Y0 (Vj (Y0 (YK (JH (hs pins a σ H2 x y v ov iv u _ p e c r g) fun _ z ⟨w,n,f⟩=>?_))));exact wpAny_release ⟨σ,w,n,f⟩
def Eg(te:TE)(g:TG):TS:=fun D σ H=>te σ H fun x H1=>g x σ H1 D.nx
theorem Cy{tg e:J7}{te:TE}{g:TG}(he:PE X e te)(hg:PG X tg g)(hs:swapsWithSole [tg] e pos.line X.env=pure false:=by rfl)(hw:swappedStores [tg] e X.env=pure none:=by rfl)
  (h1:(assignEach [tg] X.env).map (·.2)=[assign tg X.env]:=by rfl):PS X (.Assign [tg] e pos) (Eg te g):=by
 intro pins s σ H D I h;refine wpAny_Assign_stores (JH (he pins s σ H _ I h) fun v a ⟨x,H1,f,b,c⟩=>?_) hs hw;rw[h1];exact JH (hg pins a σ H1 x v _ f b c) fun _ i q=>q
theorem B0{i:Nat}{x:Str}{e:J7}{te:TE}{pos':Pos}(hN:X.N.Nodup)(hi:X.N[i]?=some x)(hx:EU X.env.scope x)(he:PE X e te)(hs:swapsWith e (some (.Name x pos')) pos.line X.env=pure false:=by rfl)(hf:X.fn x=true\/X.env.scope.names.lookup x=some .local:=by first|exact .inl rfl|exact .inr rfl|assumption):
  PS X (.Assign [.Name x pos'] e pos) (Eg te (Gs i)):=by
 intro pins s σ H D I h;refine wpAny_Assign_Name (JH (he pins s σ H _ I h) fun v j ⟨y,H1,f,a,b⟩=>?_) hs;exact Kv f hN hi hx a (fun g c=>⟨_,H1,c,b⟩) hf
def aU(c:TT)(tb:TS):TS:=fun D σ H=>∃W:Nat->St->Hp->Prop,(∃m,W m σ H)/\∀m σ H,W m σ H->
 c σ H fun b H1=>if b=true then ∃N:St->Hp->Prop,(∀σ' H',N σ' H'->∃m',m' < m/\W m' σ' H')/\tb {D with nx:=N,ct:=N,bk:=D.nx} σ H1 else D.nx σ H1
theorem mH{c:J7}{body:List Stmt}{tc:TT}{tb:TS}(hp:PassesOwn (model X.prog X.w) X.A X.env X.xe)(hc:PT X c tc)(hb:D7 X body tb):PS X (.While c body [] pos) (aU tc tb):=by
 intro pins s σ H D I h;obtain⟨W,⟨m0,w0⟩,j⟩:=h;refine wpAny_While (codeAny_whileLoop (fun n s'=>∃σ' H',Jd X pins σ' H' s'/\W n σ' H') ?_ m0 ⟨σ,H,I,w0⟩);rintro n s1 ⟨σ1,H1,I1,z⟩;refine U9 hp (JH (hc pins s1 σ1 H1 _ I1 (j n σ1 H1 z)) fun b s2 ⟨H2,y,g⟩=>?_);cases b with
 |true=>
  obtain⟨N,x,g⟩:=g;rw[Y6 rfl];refine U9 hp (JH (hb pins s2 σ1 H2 _ y g) fun f s3 e=>?_);cases f with
  |next=>
   obtain⟨σ3,a,u,p⟩:=e;obtain⟨q,r,i⟩:=x σ3 a p;exact⟨q,r,σ3,a,u,i⟩
  |cont=>
   obtain⟨σ3,a,u,p⟩:=e;obtain⟨q,r,i⟩:=x σ3 a p;exact⟨q,r,σ3,a,u,i⟩
  |brk=>exact e
  |ret v=>exact e
 |false=>
  rw[Y5 Yj];exact Vv ⟨σ1,H2,y,g⟩
end
structure It where
 go:Nat->Hp->Prop
 yld:Nat->Hp->V->Hp->Prop
 stop:Nat->Hp->Prop
def MK(X:Cx)(pins:WO)(H:Hp)(b:WX):Prop:=
 H b=none/\b≠X.env.locals/\b∉X.fs/\(b∈X.ex\/X.s₀.heap.objs.size <=b)/\(∀x c,X.env.cells.lookup x=some c->c≠b)/\∀p∈X.pn++pins,p.1≠b
theorem Jd.fpOk{X:Cx}{pins:WO}{σ:St}{H H':Hp}{s:WQ}{b:WX}(I:Jd X pins σ H s)(hb:s.heap.objs.size <=b)(hn:H' b=none):MK X pins H' b:=by
 refine⟨hn,Vw (YH I.lt hb),I.nofs hb,.inr (YF I.sz hb),fun x c e z=>?_,fun p a z=>?_⟩
 .obtain⟨v,q⟩:=I.cell x c e;exact absurd (YH q.lt (by rw[z];exact hb)) (XQ _)
 .exact absurd (YH (Yd (I.pin p a).1) (by rw[z];exact hb)) (XQ _)
structure Ed(P:WP)(w:WU)(K:WV)(tg:J7)(J:It)(fp:List Addr)(it:WX)(tn:Nat->Heap->Prop):Prop where
 mem:it∈fp
 obj:∀i h,tn i h->∀b∈fp,∃o,h.get? b=some o/\∀v,o.data≠ .cell v
 keep:∀i h h',tn i h->(∀b∈fp,∀o,h.get? b=some o->h'.get? b=some o)->tn i h'
 item:∀ (X:Cx),X.prog=P->X.w=w->X.K=K->X.calm=true->∀ (i:Nat) (pins:WO) (s:WQ) (σ:St) (H:Hp) (E:WM),Jd X pins σ H s->(∀b∈fp,MK X pins H b)->tn i s.heap->J.go i H->
  wpAny (model P w) X.A (pyNext (.ref it)) (fun r s1 => ∃ u, r = some u /\
   wpAny (model P w) X.A (letOwnedTupleGo tg (.ref it) u) (fun _ s2 => ∃ x H', Jd X pins σ H' s2 /\ Jr x u /\ J.yld i H x H' /\ tn (i + 1) s2.heap /\ ∀ b ∈ fp, H' b = none) E s1) E s
 done:∀ (X:Cx),X.prog=P->X.w=w->X.K=K->X.calm=true->∀ (i:Nat) (pins:WO) (s:WQ) (σ:St) (H:Hp) (E:WM),Jd X pins σ H s->(∀b∈fp,MK X pins H b)->tn i s.heap->J.stop i H->
  wpAny (model P w) X.A (pyNext (.ref it)) (fun r s1=>r=none/\Jd X pins σ H s1) E s
 self:∀ (A:WT) (i:Nat) (s:WQ) (Q:WM) (E:WM),tn i s.heap->Q (.ref it) s->wpAny (model P w) A (pyIter (.ref it)) Q E s
abbrev TI:=St->Hp->(It->Hp->Prop)->Prop
def QJ(X:Cx)(pins:WO)(σ:St)(tg:J7)(R:It->Hp->Prop)(itv:WW)(s2:WQ):Prop:=
 ∃ (it:WX) (fp:List Addr) (tn:Nat->Heap->Prop) (J:It) (H':Hp),itv= .ref it/\Jd X pins σ H' s2/\Ed X.prog X.w X.K tg J fp it tn/\tn 0 s2.heap/\(∀b∈fp,MK X pins H' b)/\R J H'
def PI(X:Cx)(tg iter:J7)(wi:TI):Prop:=
 ∀ (pins:WO) (s:WQ) (σ:St) (H:Hp) (R:It->Hp->Prop),Jd X pins σ H s->wi σ H R->
  wpAny (model X.prog X.w) X.A (eval iter X.env) (fun v s1=>wpAny (model X.prog X.w) X.A (pyIter v) (QJ X pins σ tg R) X.xe s1) X.xe s
theorem Ad{M:Model}{A:WT}{E:WM}{s:WQ}{tg:J7}{it:WX}{u:WW}{o:Obj}{n:String}{vs:Array Value}{Q:WN}(ho:s.heap.get? it=some o)(hc:o.cls= .type n)(hd:o.data= .fields vs)
    (hn:["enumerate","zip","dict_itemiterator","dict_reverseitemiterator","odict_iterator","itertools.zip_longest","itertools.pairwise"].contains n=false) (hQ:Q () s):wpAny M A (letOwnedTupleGo tg (.ref it) u) Q E s:=by
  unfold letOwnedTupleGo
  cases tg <;> first
    |exact Y2 hQ
    | (cases u <;> first
        |exact Y2 hQ
        | (refine Y0 (Vx ho ?_)
           rw[hc,hd]
           show wpAny M A (if(["enumerate","zip","dict_itemiterator","dict_reverseitemiterator","odict_iterator","itertools.zip_longest","itertools.pairwise"].contains n && vs[0]?==some (rawInt _))=true then _ else _) Q E s
           rw[Y5 (by intro h;rw[hn,U0]at h;cases h)]
           exact Y2 hQ))
def RX(K:WV)(a:WX):It:=
 ⟨fun i H=>∃xs x,Jh K H a xs/\xs[i]?=some x,fun i H x H'=>H'=H/\∀xs,Jh K H a xs->xs[i]?=some x,fun i H=>∃xs,Jh K H a xs/\xs.length <=i⟩
def Rv(lo:Int)(n:Nat):It:=⟨fun i _=>i < n,fun i H x H'=>H'=H/\x= .int (lo+ i),fun i _=>n <=i⟩
theorem tO{P:WP}{w:WU}{K:WV}{tg:J7}(a it:WX):Ed P w K tg (RX K a) [it] it (fun i h=>h.IsListIter it a i) where
 mem:=by simp
 obj:=fun i h st b f=>by
  have e:b=it:=by simpa using f
  subst e;obtain⟨o,e,c,d⟩:=st;exact⟨o,e,fun v z=>by rw[d]at z;cases z⟩
 keep:=fun i h h' st k=>st.at fun o e=>k it (by simp) o e
 item:=by
  intro X hP r hK hc i pins s σ H E I hf st y;subst hP r hK;obtain⟨xs,x,g,q⟩:=y;obtain⟨its,n,p,hz⟩:=I.list g;obtain⟨u,hu,ru⟩:=n.get q;obtain⟨f0,f1,f2,f3,f4,f5⟩:=hf it (by simp);refine wpAny_pyNext_list_item st p.isList (x:=u) (by simpa using hu) fun h' j sb=>?_
  have I1:Jd X pins σ H {s with heap:=h'}:=I.turned (t':=s.toks) (fun b o f e=>(sb.2 b f).trans e) f0 f1 f3 f4 f5;obtain⟨o,e,c,d⟩:=id j;exact⟨u,rfl,Ad (s:={s with heap:=h'}) e c d (by decide) ⟨x,H,I1,ru,⟨rfl,fun ys hy=>by rw[I.list_inj hy g];exact q⟩,j,fun b f=>(hf b f).1⟩⟩
 done:=by
  intro X hP r hK hc i pins s σ H E I hf st y;subst hP r hK;obtain⟨xs,g,q⟩:=y;obtain⟨its,n,p,hz⟩:=I.list g;obtain⟨f0,f1,f2,f3,f4,f5⟩:=hf it (by simp);have hl:=n.length;exact wpAny_pyNext_list_end (I.ok.hd hc) st p.isList (by simp;lia) fun h' eb=>⟨rfl,I.turned (t':=s.toks) (fun b o f e=>eb b o f e) f0 f1 f3 f4 f5⟩
 self:=fun _ _ _ _ _ st h=>wpAny_pyIter_listiter st h
theorem jQ{P:WP}{w:WU}{K:PySem.W.Frag}{tg:J7}(it:WX)(lo:Int)(n:Nat):Ed P w K tg (Rv lo n) [it] it (fun i h=>IsRangeIter h it (lo+ (i:Nat)*1) ((n:Int) - (i:Nat)) 1) where
 mem:=by simp
 obj:=fun i h st b a=>by
  have e:b=it:=by simpa using a
  subst e;exact ⟨_, st, fun v z => by
   have z' : Data.fields _ = Data.cell v := z;cases z'⟩
 keep:=fun i h h' st k=>k it (by simp) _ st
 item:=by
  intro X p f q j i pins s σ H E I hf st g;subst p f q;obtain⟨f0,y,f2,x,u,r⟩:=hf it (by simp);have W:=Walks.range (prog:=X.prog) (w:=X.w) (I.ok.hd j) it lo 1 n;refine W.item i s _ _ g st fun v h' tk hv c kk=>?_
  obtain⟨t,rfl⟩:=hv;have I1:Jd X pins σ H {s with heap:=h',toks:=tk}:=I.turned (fun b o a e=>kk b o (by simpa using a) e) f0 y x u r;refine⟨_,rfl,Ad (s:={s with heap:=h',toks:=tk}) (n:="range_iterator") c rfl rfl (by decide) ⟨.int (lo+ i),H,I1,⟨t,?_⟩,⟨rfl,rfl⟩,c,fun b a=>(hf b a).1⟩⟩;rw[Int.mul_one]
 done:=by
  intro X p f q j i pins s σ H E I hf st g;subst p f q;obtain⟨f0,y,f2,x,u,r⟩:=hf it (by simp);exact wpAny_pyNext_range_end (I.ok.hd j) st (by have:n <=i:=g;lia) fun h' eb=>⟨rfl,I.turned (t':=s.toks) (fun b o a e=>eb b o a e) f0 y x u r⟩
 self:=fun _ _ _ _ _ st h=>wpAny_pyIter_rangeiter st h
section
variable{X:Cx}{tg:J7}
def EH(K:WV)(tl:TE):TI:=fun σ H R=>tl σ H fun x H1=>∃a,x= .ref a/\(∃xs,Jh K H1 a xs)/\R (RX K a) H1
theorem yR{l:J7}{tl:TE}(hl:PE X l tl):PI X tg l (EH X.K tl):=by
 intro pins s σ H R I h;refine JH (hl pins s σ H _ I h) fun v c ⟨x,H1,f,g,i⟩=>?_
 obtain⟨a,e,⟨xs,j⟩,q⟩:=i;subst e;cases g;obtain⟨r,u,p,w⟩:=f.list j;refine Xt p.isList ?_;refine⟨c.heap.objs.size,[c.heap.objs.size],_,_,H1,rfl,f.kept (t':=c.toks) fun b o e=>Y7 _ e,tO a _,⟨_,Yc _ rfl,rfl,rfl⟩,fun b n=>?_,q⟩;have e:b=c.heap.objs.size:=by simpa using n
 subst e;exact f.fpOk (Y8 _) (f.hok.fresh (Y8 _))
theorem uT{pins:WO}{σ:St}{H:Hp}{s:WQ}{R:It->Hp->Prop}{E:WM}{lo hi:Int}{t u v:Tok}{tk:Nat}(I:Jd X pins σ H s)(h1: -(2 ^ 62) <=lo)(h2:lo < 2 ^ 62)(h3: -(2 ^ 62) <=hi)(h4:hi < 2 ^ 62)
  (q:R (Rv lo (hi - lo).toNat) H):wpAny (model X.prog X.w) X.A (pyIter (.ref s.heap.objs.size)) (QJ X pins σ tg R) E {s with heap:=s.heap.push {cls:=.type "range",data:=.fields #[.int lo t,.int hi u,.int 1 v]},toks:=tk}:=by
 refine wpAny_pyIter_range (IsRange.new ..) (small_one h1 h2 h3 h4) ?_;have a:Jd X pins σ H {s with heap:=s.heap.push {cls:=.type "range",data:=.fields #[.int lo t,.int hi u,.int 1 v]},toks:=tk}:=I.kept fun b o e=>Y7 _ e
 refine ⟨(s.heap.push { cls := .type "range", data := .fields #[.int lo t, .int hi u, .int 1 v] }).objs.size, [(s.heap.push { cls := .type "range", data := .fields #[.int lo t, .int hi u, .int 1 v] }).objs.size], _, _, H, rfl,
  a.kept (t' := tk) fun b o e => Y7 _ e, jQ _ lo (hi - lo).toNat, ?_, fun b c => ?_, q⟩
 .have g:lo+ ((0:Nat):Int)*1=lo:=by simp
  have f:(((hi - lo).toNat:Nat):Int) - ((0:Nat):Int)=Builtin.Range.rangeSize lo hi 1:=by rw[rangeSize_one];split <;> lia
  show IsRangeIter _ _ (lo+ ((0:Nat):Int)*1) ((((hi - lo).toNat:Nat):Int) - ((0:Nat):Int)) 1;rw[g,f];exact Yc _ rfl
 .have e:b=(s.heap.push {cls:=.type "range",data:=.fields #[.int lo t,.int hi u,.int 1 v]}).objs.size:=by simpa using c
  subst e;exact a.fpOk (Y8 _) (a.hok.fresh (Y8 _))
def Bk(ta:TA):TI:=fun σ H R=>ta σ H fun vs H1=>∃j:Int,vs=[.int j]/\ -(2 ^ 62) <=j/\j < 2 ^ 62/\R (Rv 0 j.toNat) H1
theorem jC{a:J7}{ta:TA}{p pos:Pos}(hg:Gl X "range")(hm:X.mg "range"=none)(ha:PA X [a] ta)(hs:starEach [a] X.env=[(false,eval a X.env)]:=by rfl):PI X tg (.Call (.Name "range" p) [a] [] pos) (Bk ta):=by
 intro pins s σ H R I h;refine Call_ (BO I hg hm boot_range (UG (JH (ha pos pins s σ H _ I h) fun i n ⟨vs,H1,g,c,b⟩=>?_) hs rfl));obtain⟨j,e,b,f,q⟩:=b;subst e;cases c with
 |cons r rr=>
  cases rr;obtain⟨t,rfl⟩:=r;exact call_range_1 (uT g (by lia) (by lia) b f (by simpa using q))
def Z3(wi:TI)(g:TG)(tb:TS):TS:=fun D σ H=>wi σ H fun J H1=>∃W:Nat->Nat->St->Hp->Prop,(∃m,W 0 m σ H1)/\∀i m σ H,W i m σ H->
 (J.stop i H/\D.nx σ H)\/(J.go i H/\∃N:St->Hp->Prop,(∀σ' H',N σ' H'->∃m',m' < m/\W (i+ 1) m' σ' H')/\∀x H',J.yld i H x H'->g x σ H' fun σ2 H2=>tb {D with nx:=N,ct:=N,bk:=D.nx} σ2 H2)
def A2(fp:List Addr)(h:J6):List (Addr×Obj):=fp.filterMap fun b=>(h.get? b).map fun o=>(b,o)
theorem CM{fp:List Addr}{h:J6}{b:WX}{o:Obj}(hb:b∈fp)(e:h.get? b=some o):(b,o)∈A2 fp h:=List.mem_filterMap.mpr ⟨b,hb,by rw[e];rfl⟩
theorem m9{fp:List Addr}{h:J6}{p:Addr×Obj}(hp:p∈A2 fp h):p.1∈fp/\h.get? p.1=some p.2:=by
 obtain⟨b,a,e⟩:=List.mem_filterMap.mp hp;cases q:h.get? b with
 |none=>rw[q]at e;cases e
 |some o=>
  rw[q]at e;have c:(b,o)=p:=Option.some.inj e;subst c;exact⟨a,q⟩
theorem Jd.pinned{pins:WO}{σ:St}{H:Hp}{s:WQ}{fp:List Addr}(I:Jd X pins σ H s)(hf:∀b∈fp,MK X pins H b)(ho:∀b∈fp,∃o,s.heap.get? b=some o/\∀v,o.data≠ .cell v):Jd X (pins++A2 fp s.heap) σ H s:=
 I.pins_of fun p f=>(Yp.mp f).elim (fun z=>I.pin p (Yx _ z)) fun z=>by
  obtain⟨a,e⟩:=m9 z;obtain⟨i,h,g,_⟩:=hf p.1 a;obtain⟨o,c,d⟩:=ho p.1 a;rw[e]at c;cases c;exact⟨e,i,h,g,d⟩
theorem Jd.unpinned{pins pl:WO}{σ:St}{H:Hp}{s:WQ}(I:Jd X (pins++pl) σ H s):Jd X pins σ H s:=I.pins_of fun p a=>I.pin p (Yx _ (XV _ a))
theorem RF{iter:J7}{body:List Stmt}{wi:TI}{g:TG}{tb:TS}{pos:Pos}(hp:PassesOwn (model X.prog X.w) X.A X.env X.xe)(hc:X.calm=true)(hi:PI X tg iter wi)(hg:PG X tg g)(hb:D7 X body tb)
  (hs:∀x,foldedSetIterable iter X.env x=pure x:=by intro _;rfl):PS X (.For tg iter body [] pos) (Z3 wi g tb):=by
 intro pins s σ H D I h;refine wpAny_For (JH (hi pins s σ H _ I h) fun v s1 h1=>JH h1 fun itv s2 h2=>?_) hs;obtain⟨it,fp,tn,J,H2,e,I2,T,st2,f2,W,⟨m0,w0⟩,turn⟩:=h2;subst e
 -- what stays true of the iterator's objects through the loop
 have p:∀{H':Hp},(∀b∈fp,H' b=none)->∀b∈fp,MK X pins H' b:=fun hn b hb=>⟨hn b hb,(f2 b hb).2⟩
 refine codeAny_forLoop_any (fun n s'=>∃i σ' H',Jd X pins σ' H' s'/\tn i s'.heap/\(∀b∈fp,H' b=none)/\W i n σ' H') ?_ m0 ⟨0,σ,H2,I2,st2,fun b hb=>(f2 b hb).1,w0⟩;rintro n s3 ⟨i,σ3,H3,I3,st3,fr3,w3⟩;rcases turn i n σ3 H3 w3 with⟨stop,qn⟩|⟨go,N,hN,step⟩
 .refine U9 hp (JH (T.done X rfl rfl rfl hc i pins s3 σ3 H3 X.xe I3 (p fr3) st3 stop) fun r s4 ⟨hr,I4⟩=>?_);subst hr;exact Vv ⟨σ3,H3,I4,qn⟩
 .refine U9 hp (JH (T.item X rfl rfl rfl hc i pins s3 σ3 H3 X.xe I3 (p fr3) st3 go) fun r s4 ⟨u,hr,h4⟩=>?_);subst hr;refine U9 hp (JH h4 fun _ s5 ⟨x,H5,I5,r5,y5,y,fr5⟩=>?_);have I5':=I5.pinned (p fr5) (T.obj _ _ y);refine U9 hp (JH (hg _ s5 σ3 H5 x u _ I5' r5 (step x H5 y5)) fun _ s6 ⟨σ6,H6,I6,q6⟩=>?_);refine U9 hp (JH (hb _ s6 σ6 H6 _ I6 q6) fun f s7 j=>?_);have q:∀{σ7:St} {c:Hp},Jd X (pins++A2 fp s5.heap) σ7 c s7->N σ7 c->∃m,m < n/\∃i σ' H',Jd X pins σ' H' s7/\tn i s7.heap/\(∀b∈fp,H' b=none)/\W i m σ' H':=fun {σ7 c} a z=>by
   obtain⟨m',hm,w7⟩:=hN σ7 c z;refine⟨m',hm,i+ 1,σ7,c,a.unpinned,T.keep _ _ _ y fun b hb o e=>(a.pin (b,o) (Yx _ (Yx _ (CM hb e)))).1,fun b hb=>?_,w7⟩;obtain⟨o,e,d⟩:=T.obj _ _ y b hb;exact(a.pin (b,o) (Yx _ (Yx _ (CM hb e)))).2.1
  cases f with
  |next=>obtain⟨σ7,c,a,z⟩:=j;exact q a z
  |cont=>obtain⟨σ7,c,a,z⟩:=j;exact q a z
  |brk=>obtain⟨σ7,c,a,j⟩:=j;exact⟨σ7,c,a.unpinned,j⟩
  |ret v=>obtain⟨x7,σ7,c,a,r7,j⟩:=j;exact⟨x7,σ7,c,a.unpinned,r7,j⟩
end
theorem aZ{K:PySem.W.Frag}{a:WX}{xs:List V}{g:TG}{tb:TS}{D:TQ}{σ:St}{H:Hp}(Pv:Nat->St->Hp->Prop)(h0:Pv 0 σ H)(hl:∀i σ H,i <=xs.length->Pv i σ H->Jh K H a xs)
  (hs:∀i x σ H,xs[i]?=some x->Pv i σ H->g x σ H fun σ2 H2=>tb {D with nx:=Pv (i+ 1),ct:=Pv (i+ 1),bk:=D.nx} σ2 H2) (hd:∀σ H,Pv xs.length σ H->D.nx σ H):
  ∃W:Nat->Nat->St->Hp->Prop,(∃m,W 0 m σ H)/\∀i m σ H,W i m σ H->
   ((RX K a).stop i H/\D.nx σ H)\/((RX K a).go i H/\∃N:St->Hp->Prop,(∀σ' H',N σ' H'->∃m',m' < m/\W (i+ 1) m' σ' H')/\∀x H',(RX K a).yld i H x H'->g x σ H' fun σ2 H2=>tb {D with nx:=N,ct:=N,bk:=D.nx} σ2 H2):=by
 refine⟨fun i m σ H=>m=xs.length - i/\i <=xs.length/\Pv i σ H,⟨xs.length,by simp,Ys _,h0⟩,?_⟩;rintro i m σ H ⟨rfl,hi,p⟩;have q:=hl i σ H hi p
 by_cases hlt:i < xs.length
 .refine .inr ⟨⟨xs,xs[i],q,by simp[hlt]⟩,Pv (i+ 1),fun σ' H' b=>⟨xs.length - (i+ 1),by lia,rfl,hlt,b⟩,fun x H' y=>?_⟩;obtain⟨e,y⟩:=y;subst e;exact hs i x σ _ (y xs q) p
 .have e:i=xs.length:=by lia
  subst e;exact .inl ⟨⟨xs,q,Y8 _⟩,hd σ H p⟩
theorem Zv{lo:Int}{n:Nat}{g:TG}{tb:TS}{D:TQ}{σ:St}{H:Hp}(Pv:Nat->St->Hp->Prop)(h0:Pv 0 σ H)
  (hs:∀i σ H,i < n->Pv i σ H->g (.int (lo+ i)) σ H fun σ2 H2=>tb {D with nx:=Pv (i+ 1),ct:=Pv (i+ 1),bk:=D.nx} σ2 H2) (hd:∀σ H,Pv n σ H->D.nx σ H):
  ∃W:Nat->Nat->St->Hp->Prop,(∃m,W 0 m σ H)/\∀i m σ H,W i m σ H->
   ((Rv lo n).stop i H/\D.nx σ H)\/((Rv lo n).go i H/\∃N:St->Hp->Prop,(∀σ' H',N σ' H'->∃m',m' < m/\W (i+ 1) m' σ' H')/\∀x H',(Rv lo n).yld i H x H'->g x σ H' fun σ2 H2=>tb {D with nx:=N,ct:=N,bk:=D.nx} σ2 H2):=by
 refine⟨fun i m σ H=>m=n - i/\i <=n/\Pv i σ H,⟨n,by simp,Ys _,h0⟩,?_⟩;rintro i m σ H ⟨rfl,hi,p⟩
 by_cases hlt:i < n
 .refine .inr ⟨hlt,Pv (i+ 1),fun σ' H' a=>⟨n - (i+ 1),by lia,rfl,hlt,a⟩,fun x H' y=>?_⟩;obtain⟨e,y⟩:=y;subst e y;exact hs i σ _ hlt p
 .have e:i=n:=by lia
  subst e;exact .inl ⟨Y8 _,hd σ H p⟩
abbrev R2:=V->V->Hp->VK->Prop
def Nd(X:Cx)(f:Value->Value->Sem Value)(r:R2):Prop:=
 ∀ (pins:WO) (s:WQ) (σ:St) (H:Hp) (x y:V) (v u:WW) (Q:VK),Jd X pins σ H s->Jr x v->Jr y u->r x y H Q->
  wpAny (model X.prog X.w) X.A (f v u) (EP X pins σ Q) X.xe s
def Ln(X:Cx)(f:Value->Sem Value)(r:V->Hp->VK->Prop):Prop:=
 ∀ (pins:WO) (s:WQ) (σ:St) (H:Hp) (x:V) (v:WW) (Q:VK),Jd X pins σ H s->Jr x v->r x H Q->
  wpAny (model X.prog X.w) X.A (f v) (EP X pins σ Q) X.xe s
def JA(X:Cx)(f:WW)(r:List V->Hp->VK->Prop):Prop:=
 ∀ (pins:WO) (s:WQ) (σ:St) (H:Hp) (xs:List V) (us:WZ) (Q:VK),Jd X pins σ H s->Ji xs us->r xs H Q->
  wpAny (model X.prog X.w) X.A (call f us) (EP X pins σ Q) X.xe s
def GN(r:R2)(ta tb:TE):TE:=fun σ H Q=>ta σ H fun x H1=>tb σ H1 fun y H2=>r x y H2 Q
def HU(r:V->Hp->VK->Prop)(ta:TE):TE:=fun σ H Q=>ta σ H fun x H1=>r x H1 Q
def rI(C:Int->Int->Prop)(g:Int->Int->V):R2:=fun x y H Q=>∃i j,x= .int i/\y= .int j/\C i j/\Q (g i j) H
def Rm(g:Int->Int->V):R2:=fun x y H Q=>∃i j,x= .int i/\y= .int j/\Q (g i j) H
def rU(g:Int->V):V->Hp->VK->Prop:=fun x H Q=>∃i,x= .int i/\Q (g i) H
section
variable{X:Cx}{a b c:J7}{ta tb tc:TE}{pos:Pos}
theorem IN(ha:PE X a ta)(hb:PE X b tb){pins:WO}{s:WQ}{σ:St}{H:Hp}{R:V->V->Hp->Prop}(I:Jd X pins σ H s)
  (h:ta σ H fun x H1=>tb σ H1 fun y H2=>R x y H2) {Q:WM} {f:Value->Value->Sem Value}
  (hf:∀v u s2 x y H2,Jd X pins σ H2 s2->Jr x v->Jr y u->R x y H2->wpAny (model X.prog X.w) X.A (f v u) Q X.xe s2):
  wpAny (model X.prog X.w) X.A (eval a X.env) (fun v s₁=>wpAny (model X.prog X.w) X.A (eval b X.env) (fun u s₂=>wpAny (model X.prog X.w) X.A (f v u) Q X.xe s₂) X.xe s₁) X.xe s:=by
 refine JH (ha pins s σ H _ I h) fun v c ⟨x,H1,p,g,j⟩=>?_
 refine JH (hb pins c σ H1 _ p j) fun u s2 ⟨y,H2,n,e,i⟩=>?_
 exact hf v u s2 x y H2 n g e i
theorem N6{op:Operator}{r:R2}(ho:Nd X (binaryOp op) r)(ha:PE X a ta)(hb:PE X b tb):PE X (.BinOp a op b pos) (GN r ta tb):=by
 intro pins s σ H Q I h;exact wpAny_BinOp (IN ha hb I h fun v u c x y H2 g f e q=>ho pins c σ H2 x y v u Q g f e q)
theorem Qy{op:UnaryOp}{r:V->Hp->VK->Prop}(ho:Ln X (unaryOp op) r)(ha:PE X a ta):PE X (.UnaryOp op a pos) (HU r ta):=by
 intro pins s σ H Q I h;exact UnaryOp_ (JH (ha pins s σ H _ I h) fun v b ⟨x,H1,f,c,e⟩=>ho pins b σ H1 x v Q f c e)
theorem BY{f:Value->Value->Sem Value}{C:Int->Int->Prop}{g:Int->Int->Int}
  (rule:∀ (i j:Int) (t u:Tok) (s:WQ) (Q:WM) (E:WM),C i j->Q (.int (g i j) s.toks) {s with toks:=s.toks+ 1}->wpAny (model X.prog X.w) X.A (f (.int i t) (.int j u)) Q E s):
  Nd X f (rI C fun i j=>.int (g i j)):=by
 intro pins s σ H x y v u Q I c b h;obtain⟨i,j,rfl,rfl,e,q⟩:=h;obtain⟨t,rfl⟩:=c;obtain⟨a,rfl⟩:=b;exact rule i j t a s _ _ e ⟨.int (g i j),H,I.tok _,⟨_,rfl⟩,q⟩
theorem Se{f:Value->Value->Sem Value}{g:Int->Int->Int}
  (rule:∀ (i j:Int) (t u:Tok) (s:WQ) (Q:WM) (E:WM),Q (.int (g i j) s.toks) {s with toks:=s.toks+ 1}->wpAny (model X.prog X.w) X.A (f (.int i t) (.int j u)) Q E s):
  Nd X f (Rm fun i j=>.int (g i j)):=by
 intro pins s σ H x y v u Q I c b h;obtain⟨i,j,rfl,rfl,q⟩:=h;obtain⟨t,rfl⟩:=c;obtain⟨a,rfl⟩:=b;exact rule i j t a s _ _ ⟨.int (g i j),H,I.tok _,⟨_,rfl⟩,q⟩
theorem Ft{f:Value->Value->Sem Value}{g:Int->Int->Bool}
  (rule:∀ (i j:Int) (t u:Tok) (s:WQ) (Q:WM) (E:WM),Q (.bool (g i j)) s->wpAny (model X.prog X.w) X.A (f (.int i t) (.int j u)) Q E s):
  Nd X f (Rm fun i j=>.bl (g i j)):=by
 intro pins s σ H x y v u Q I c b h;obtain⟨i,j,rfl,rfl,q⟩:=h;obtain⟨t,rfl⟩:=c;obtain⟨a,rfl⟩:=b;exact rule i j t a s _ _ ⟨.bl (g i j),H,I,rfl,q⟩
def rX(i j:Int):Prop:=0 < j/\j < 1073741824
def xQ(i j:Int):Prop:=0 <=j/\j <=1000000/\i.natAbs < 2 ^ 64
def Rf(i j:Int):Prop:=(-(2 ^ 64) < i/\i < 2 ^ 64)\/(-(2 ^ 64) < j/\j < 2 ^ 64)
theorem Rf.ok{i j:Int}(h:Rf i j):IntMulOk i j:=by
 rcases h with⟨h1,h2⟩|⟨h1,h2⟩
 .exact .of_left (intBits_le_64 h1 h2)
 .exact .of_right (intBits_le_64 h1 h2)
theorem Mz:Nd X (binaryOp .Add) (Rm fun i j=>.int (i+ j)):=Se fun _ _ _ _ _ _ _ q=>add_int q
theorem Oy:Nd X (binaryOp .Sub) (Rm fun i j=>.int (i - j)):=Se fun _ _ _ _ _ _ _ q=>sub_int q
theorem Ei:Nd X (binaryOp .Mult) (rI Rf fun i j=>.int (i*j)):=BY fun _ _ _ _ _ _ _ a q=>mul_int q a.ok
theorem BN:Nd X (binaryOp .FloorDiv) (rI rX fun i j=>.int (i / j)):=BY fun i j _ _ _ _ _ a q=>by
 have h1:(0:Int) < j:=a.1;have h2:j < 1073741824:=a.2;exact floordiv_int (by lia) (by rw[VQ i (by lia)];exact q) (.inl (PyProof.noPylong_small (by lia)))
theorem Mu:Nd X (binaryOp .Mod) (rI (fun _ j=>0 < j) fun i j=>.int (i%j)):=BY fun i j _ _ _ _ _ a q=>by
 have h1:(0:Int) < j:=a;exact mod_int' (by lia) (by rw[Int.fmod_eq_emod_of_nonneg i (by lia)];exact q)
theorem ZK:Nd X (binaryOp .Pow) (rI xQ fun i j=>.int (i ^ j.toNat)):=BY fun _ _ _ _ _ _ _ a q=>pow_int_small a.1 a.2.1 a.2.2 q
theorem yQ{f:Value->Sem Value}{g:Int->Int}
  (rule:∀ (i:Int) (t:Tok) (s:WQ) (Q:WM) (E:WM),Q (.int (g i) s.toks) {s with toks:=s.toks+ 1}->wpAny (model X.prog X.w) X.A (f (.int i t)) Q E s):
  Ln X f (rU fun i=>.int (g i)):=by
 intro pins s σ H x v Q I a h;obtain⟨i,rfl,q⟩:=h;obtain⟨t,rfl⟩:=a;exact rule i t s _ _ ⟨.int (g i),H,I.tok _,⟨_,rfl⟩,q⟩
theorem Qu:Ln X (unaryOp .USub) (rU fun i=>.int (-i)):=yQ fun _ _ _ _ _ q=>neg_int q
end
def Dr:V->V->Bool
 | .non,.non=>true| .non,.int _=>true| .int _,.non=>true| .non,.bl _=>true| .bl _,.non=>true| .non,.str _=>true| .str _,.non=>true
 | .int _,.int _=>true| .bl _,.bl _=>true| .str _,.str _=>true| .byt _,.byt _=>true
 | .int _,.str _=>true| .str _,.int _=>true| .bl _,.str _=>true| .str _,.bl _=>true
 |_,_=>false
def C3:R2:=fun x y H Q=>Dr x y=true/\Q (.bl (decide (x=y))) H
def CA:R2:=fun x y H Q=>Dr x y=true/\Q (.bl (!decide (x=y))) H
theorem Q5{i j:Int}:decide (V.int i=V.int j)=(i==j):=by
 rw[YA];simp
theorem Qc{i j:Bool}:decide (V.bl i=V.bl j)=(i==j):=by
 rw[YA];simp
theorem PZ{i j:Str}:decide (V.str i=V.str j)=(i==j):=by
 rw[YA];simp
theorem So{i j:Array UInt8}:decide (V.byt i=V.byt j)=(i.toList==j.toList):=by
 rw[YA];cases i;cases j;simp
section
variable{X:Cx}{a b c:J7}{ta tb tc:TE}{pos:Pos}
theorem To{pins:WO}{σ:St}{H:Hp}{s:WQ}{Q:VK}{k k':Bool}(I:Jd X pins σ H s)(q:Q (.bl k) H)(e:k=k'):EP X pins σ Q (.bool k') s:=by
 subst e;exact⟨.bl k,H,I,rfl,q⟩
theorem MG:Nd X (compareOp .Eq) C3:=by
 intro pins s σ H x y v u Q I e a h;obtain⟨c,q⟩:=h;cases x with
 |non=>
  cases e;cases y with
  |non=>cases a;exact PySem.EqNone.eq_none_none (To I q (by simp))
  |bl j=>cases a;exact PySem.EqNone.eq_none_bool (To I q (by simp))
  |int j=>obtain⟨b,rfl⟩:=a;exact PySem.EqNone.eq_none_int (To I q (by simp))
  |str j=>obtain⟨b,rfl⟩:=a;exact PySem.EqNone.eq_none_str (To I q (by simp))
  |_=>exact absurd (show false=true from c) Yj
 |bl i=>
  cases e;cases y with
  |non=>cases a;exact PySem.EqNone.eq_bool_none (To I q (by simp))
  |bl j=>cases a;exact eq_bool (To I q Qc)
  |str j=>obtain⟨b,rfl⟩:=a;exact PySem.EqMixed.eq_bool_str (To I q (by simp))
  |_=>exact absurd (show false=true from c) Yj
 |int i=>
  obtain⟨t,rfl⟩:=e;cases y with
  |non=>cases a;exact PySem.EqNone.eq_int_none (To I q (by simp))
  |int j=>obtain⟨b,rfl⟩:=a;exact eq_int (To I q Q5)
  |str j=>obtain⟨b,rfl⟩:=a;exact PySem.EqMixed.eq_int_str (To I q (by simp))
  |_=>exact absurd (show false=true from c) Yj
 |str i=>
  obtain⟨t,rfl⟩:=e;cases y with
  |non=>cases a;exact PySem.EqNone.eq_str_none (To I q (by simp))
  |bl j=>cases a;exact PySem.EqMixed.eq_str_bool (To I q (by simp))
  |int j=>obtain⟨b,rfl⟩:=a;exact PySem.EqMixed.eq_str_int (To I q (by simp))
  |str j=>obtain⟨b,rfl⟩:=a;exact eq_str (To I q PZ)
  |_=>exact absurd (show false=true from c) Yj
 |byt i=>
  obtain⟨t,rfl⟩:=e;cases y with
  |byt j=>obtain⟨b,rfl⟩:=a;exact W.eq_bytes (To I q So)
  |_=>exact absurd (show false=true from c) Yj
 |_=>cases y <;> exact absurd (show false=true from c) Yj
theorem Bu:Nd X (compareOp .NotEq) CA:=by
 intro pins s σ H x y v u Q I e a h;obtain⟨c,q⟩:=h;cases x with
 |non=>
  cases e;cases y with
  |non=>cases a;exact PySem.EqNone.ne_none_none (To I q (by simp))
  |bl j=>cases a;exact PySem.EqNone.ne_none_bool (To I q (by simp))
  |int j=>obtain⟨b,rfl⟩:=a;exact PySem.EqNone.ne_none_int (To I q (by simp))
  |str j=>obtain⟨b,rfl⟩:=a;exact PySem.EqNone.ne_none_str (To I q (by simp))
  |_=>exact absurd (show false=true from c) Yj
 |bl i=>
  cases e;cases y with
  |non=>cases a;exact PySem.EqNone.ne_bool_none (To I q (by simp))
  |bl j=>cases a;exact ne_bool (To I q (X3 not Qc))
  |str j=>obtain⟨b,rfl⟩:=a;exact PySem.EqMixed.ne_bool_str (To I q (by simp))
  |_=>exact absurd (show false=true from c) Yj
 |int i=>
  obtain⟨t,rfl⟩:=e;cases y with
  |non=>cases a;exact PySem.EqNone.ne_int_none (To I q (by simp))
  |int j=>obtain⟨b,rfl⟩:=a;exact ne_int (To I q (X3 not Q5))
  |str j=>obtain⟨b,rfl⟩:=a;exact PySem.EqMixed.ne_int_str (To I q (by simp))
  |_=>exact absurd (show false=true from c) Yj
 |str i=>
  obtain⟨t,rfl⟩:=e;cases y with
  |non=>cases a;exact PySem.EqNone.ne_str_none (To I q (by simp))
  |bl j=>cases a;exact PySem.EqMixed.ne_str_bool (To I q (by simp))
  |int j=>obtain⟨b,rfl⟩:=a;exact PySem.EqMixed.ne_str_int (To I q (by simp))
  |str j=>obtain⟨b,rfl⟩:=a;exact ne_str (To I q (X3 not PZ))
  |_=>exact absurd (show false=true from c) Yj
 |byt i=>
  obtain⟨t,rfl⟩:=e;cases y with
  |byt j=>obtain⟨b,rfl⟩:=a;exact W.ne_bytes (To I q (X3 not So))
  |_=>exact absurd (show false=true from c) Yj
 |_=>cases y <;> exact absurd (show false=true from c) Yj
theorem Bf:Nd X (compareOp .Lt) (Rm fun i j=>.bl (decide (i < j))):=Ft fun _ _ _ _ _ _ _ q=>lt_int q
theorem RO:Nd X (compareOp .LtE) (Rm fun i j=>.bl (decide (i <=j))):=Ft fun _ _ _ _ _ _ _ q=>le_int q
theorem E3:Nd X (compareOp .Gt) (Rm fun i j=>.bl (decide (j < i))):=Ft fun _ _ _ _ _ _ _ q=>gt_int q
theorem Cp:Nd X (compareOp .GtE) (Rm fun i j=>.bl (decide (j <=i))):=Ft fun _ _ _ _ _ _ _ q=>ge_int q
theorem Qf:Nd X (compareOp .Is) (fun x y H Q=>y= .non/\Q (.bl (decide (x= .non))) H):=by
 intro pins s σ H x y v u Q I a b h;obtain⟨rfl,q⟩:=h;cases b;refine is_none_gen (To I q ?_);cases x <;> first
  |(cases a;rfl)
  |(obtain⟨t,rfl⟩:=a;rfl)
theorem CB:Nd X (compareOp .IsNot) (fun x y H Q=>y= .non/\Q (.bl (!decide (x= .non))) H):=by
 intro pins s σ H x y v u Q I a b h;obtain⟨rfl,q⟩:=h;cases b;refine isnot_none_gen (To I q ?_);cases x <;> first
  |(cases a;rfl)
  |(obtain⟨t,rfl⟩:=a;rfl)
theorem Dh(b:J7){op:CmpOp}(h:op≠ .In:=by decide)(h2:op≠ .NotIn:=by decide):behindInMarks op b=false:=by
 have c:(op==CmpOp.In)=false:=by cases op <;> first|rfl|exact absurd rfl h
 have a:(op==CmpOp.NotIn)=false:=by cases op <;> first|rfl|exact absurd rfl h2
 cases b <;> simp[behindInMarks,c,a]
theorem MQ{op:CmpOp}{r:R2}(ho:Nd X (compareOp op) r)(ha:PE X a ta)(hb:PE X b tb)(hm:behindInMarks op b=false):PE X (.Compare a [op] [b] pos) (GN r ta tb):=by
 intro pins s σ H Q I h;exact wpAny_Compare1 (IN ha hb I h fun v u c x y H2 g f e q=>ho pins c σ H2 x y v u Q g f e q) hm
def A7(t:TE):TT:=fun σ H Q=>t σ H fun x H'=>∃k,x= .bl k/\Q k H'
theorem Zn{op:CmpOp}{r:R2}(ho:Nd X (compareOp op) r)(ha:PE X a ta)(hb:PE X b tb)(hm:behindInMarks op b=false):PT X (.Compare a [op] [b] pos) (A7 (GN r ta tb)):=by
 intro pins s σ H Q I h;refine wpAny_isTrue_Compare1 (JH (ha pins s σ H _ I h) fun v g ⟨x, H1, I1, n, w⟩ => JH (hb pins g σ H1 _ I1 w) fun u f ⟨y, H2, I2, j, q⟩ =>
  JH (ho pins f σ H2 x y v u _ I2 n j q) fun c s3 ⟨z, H3, I3, i, k, e, p⟩ => ?_) hm
 subst e;cases i;exact Xs ⟨H3,I3,p⟩
def Fa(r r':R2)(ta tb tc:TE):TE:=fun σ H Q=>ta σ H fun x H1=>tb σ H1 fun y H2=>r x y H2 fun z H3=>∃k,z= .bl k/\
 (if k=true then tc σ H3 fun w' H4=>r' y w' H4 Q else Q (.bl false) H3)
theorem Pj{op op':CmpOp}{r r':R2}(ho:Nd X (compareOp op) r)(ho':Nd X (compareOp op') r')(ha:PE X a ta)(hb:PE X b tb)(hc:PE X c tc)
  (hm:lastMarks [op,op'] [b,c]=false:=by with_unfolding_all rfl):PE X (.Compare a [op,op'] [b,c] pos) (Fa r r' ta tb tc):=by
 intro pins s σ H Q I h;refine Compare_chain (JH (ha pins s σ H _ I h) fun v s1 ⟨x, H1, I1, r1, q1⟩ => chain_link (JH (hb pins s1 σ H1 _ I1 q1) fun u s2 ⟨y, H2, I2, f, q2⟩ =>
  JH (ho pins s2 σ H2 x y v u _ I2 r1 f q2) fun d w ⟨z, j, i, r3, k, e, g⟩ => ?_)) hm
 subst e;cases r3;refine Xs ?_;cases k with
 |false=>exact ite_ff ⟨.bl false,j,i,rfl,g⟩
 |true=>exact ite_tt (chain_last (JH (hc pins w σ j _ i g) fun p q ⟨n,H4,I4,r4,q4⟩=>ho' pins q σ H4 y n u p Q I4 f r4 q4))
theorem P4{op op':CmpOp}{r r':R2}(ho:Nd X (compareOp op) r)(ho':Nd X (compareOp op') r')(ha:PE X a ta)(hb:PE X b tb)(hc:PE X c tc)
  (hm:lastMarks [op,op'] [b,c]=false:=by with_unfolding_all rfl):PT X (.Compare a [op,op'] [b,c] pos) (A7 (Fa r r' ta tb tc)):=by
 intro pins s σ H Q I h;refine isTrue_chain (JH (ha pins s σ H _ I h) fun v s1 ⟨x, H1, I1, r1, q1⟩ => test_link (JH (hb pins s1 σ H1 _ I1 q1) fun u s2 ⟨y, H2, I2, f, q2⟩ =>
  JH (ho pins s2 σ H2 x y v u _ I2 r1 f q2) fun d w ⟨z, j, i, r3, k, e, g⟩ => ?_)) hm
 subst e;cases r3;refine Xs ?_;cases k with
 |false=>
  obtain⟨k',e',q'⟩:=g;cases e';exact ite_ff ⟨j,i,q'⟩
 |true=>
  refine ite_tt (test_last (JH (hc pins w σ j _ i g) fun p q ⟨n,H4,I4,r4,q4⟩=>JH (ho' pins q σ H4 y n u p _ I4 f r4 q4) fun d' s5 ⟨z2,H5,I5,r5,k2,e2,q5⟩=>?_));subst e2;cases r5;exact Xs ⟨H5,I5,q5⟩
theorem BZ:(sizeLine:Nat) < 2 ^ 63:=by rw[YT];decide
theorem DO{x:V}{us:WZ}(r:Ji [x] us):∃u,us=[u]/\Jr x u:=by
 cases r with
 |cons r1 r2=>cases r2;exact⟨_,rfl,r1⟩
theorem Ks{x y:V}{us:WZ}(r:Ji [x,y] us):∃u w',us=[u,w']/\Jr x u/\Jr y w':=by
 cases r with
 |cons r1 r2=>
  cases r2 with
  |cons r3 r4=>cases r4;exact⟨_,_,rfl,r1,r3⟩
theorem Z9(hc:X.calm=true):JA X (.builtin "max") (fun xs H Q=>∃i j,xs=[.int i,.int j]/\Q (.int (if j > i then j else i)) H):=by
 intro pins s σ H xs b Q I r h;obtain⟨i,j,rfl,q⟩:=h;obtain⟨u,a,rfl,⟨t,rfl⟩,⟨c,rfl⟩⟩:=Ks r;refine max_two_ints (I.ok.hd hc) fun h' tk k=>⟨_,H,I.kept k,?_,q⟩
 by_cases hj:j > i
 .rw[Y6 hj,Y6 hj];exact⟨_,rfl⟩
 .rw[Y5 hj,Y5 hj];exact⟨_,rfl⟩
theorem Lp(hc:X.calm=true):JA X (.builtin "min") (fun xs H Q=>∃i j,xs=[.int i,.int j]/\Q (.int (if j < i then j else i)) H):=by
 intro pins s σ H xs b Q I r h;obtain⟨i,j,rfl,q⟩:=h;obtain⟨u,a,rfl,⟨t,rfl⟩,⟨c,rfl⟩⟩:=Ks r;refine min_two_ints (I.ok.hd hc) fun h' tk k=>⟨_,H,I.kept k,?_,q⟩
 by_cases hj:j < i
 .rw[Y6 hj,Y6 hj];exact⟨_,rfl⟩
 .rw[Y5 hj,Y5 hj];exact⟨_,rfl⟩
end
structure DY(h:J6)(x dx C:WX)(mA:WL):Prop where
 obj:h.get? x=some (W.instObj C dx)
 ns:h.Ns1 dx mA
 ne:dx≠x
theorem mO{h:J6}{dx:WX}{mA:WL}(n:h.Ns1 dx mA):∃od,h.get? dx=some od/\∀name,W.lookIn name od=some (mA name):=by
 obtain⟨o,es,ep,f,hd,i,_,g⟩:=n;refine⟨o,f,fun name=>?_⟩;have e:=g name;unfold nsFind findBy at e;rw[<-Array.find?_toList]at e;unfold W.lookIn;rw[hd];dsimp only
 split
 .rename_i y q
  rw[q]at e;exact X3 some e
 .rename_i q
  rw[q]at e;have a:es.toList.any (·.refKey)=false:=by
   rw[List.any_eq_false];intro y c;obtain⟨z,t,b⟩:=i y (Vy.mp c);simp[DictEntry.refKey,b]
  have j:¬es.toList.any (·.refKey)=true:=by rw[a];exact Yj
  rw[Y5 j];exact X3 some e
theorem DY.look{h:J6}{x dx C:WX}{mA:WL}(I:DY h x dx C mA):∃od,W.InstAt h x (W.instObj C dx) C (some od)/\∀name,W.lookIn name od=some (mA name):=
 let ⟨od,ho,hl⟩:=mO I.ns
 ⟨od,⟨I.obj,rfl,rfl,ho⟩,hl⟩
section
variable{prog:WP}{w:WU}{A:WT}{E:WM}{s:WQ}{K:WV}{x dx C f:WX}{mA:WL}{name:Str}{v:WW}
theorem aX{expr:Bool}{Q:WM}(X:K.In s.heap)(I:DY s.heap x dx C mA)(hg:W.plainGet K C name=true)(hh:W.hasDictIn K C=true)
  (ha:W.findIn K (.ref C) name=some none) (hv:mA name=some v) (hv':W.handedIn v=true) (h:Q v {s with toks:=s.toks+ 1}):
  wpAny (model prog w) A (getAttr (.ref x) name expr) Q E s:=by
 obtain⟨b,J,a⟩:=I.look;exact W.get_value X J (W.plainGet_of hg).1 (W.findObj_own hh ha rfl (by rw[a,hv])) hv' h
theorem y4{pl:Sem Bool}{Q:Value×List Value->Shared->Prop}(X:K.In s.heap)(I:DY s.heap x dx C mA)(hg:W.plainGet K C name=true)
  (hf:W.findIn K (.ref C) name=some (some (.ref f))) (ht:W.isFn K (.ref f)=true) (hv:mA name=none) (h:Q (.ref f,[.ref x]) s):
  wpAny (model prog w) A (getMethod (.ref x) name pl) Q E s:=by
 obtain⟨a,J,b⟩:=I.look;exact W.method_fn X J (W.plainGet_of hg).1 (W.plainGet_of hg).2 hf (Vz.mp ht) (by show(W.lookIn name a).map (·.isSome)=some false;rw[b,hv];rfl) h
theorem ZP{ns:List Str}{Q:WN}(X:K.In s.heap)(I:DY s.heap x dx C mA)
  (hs:W.findIn K (.ref C) "__setattr__"=some (some (.builtin "object.__setattr__"))) (hp:W.plainOver K C=true) (ht:W.takerIn K C name=some none) (hh:W.hasDictIn K C=true)
  (hw:PySem.Within mA ns) (hsz:ns.length <=sizeLine)
  (h:∀h',DY h' x dx C (fun y=>if y=name then some v else mA y)->Heap.SameBut dx s.heap h'->Q () {s with heap:=h',toks:=s.toks+ 2}):
  wpAny (model prog w) A (setAttr (.ref x) name v) Q E s:=by
 obtain⟨z,J,hl⟩:=I.look;refine W.set_plain X J hs (W.osa_open (s:={s with toks:=s.toks+ 1}) (r:=none) X J hp ht fun b=>?_);obtain⟨cd,p,i⟩:=W.any_some hh;have n:s.heap.get? x=some ⟨.ref C,some dx,.plain,#[]⟩:=I.obj;refine Y0 (Y2 (Y0 (Y0 (wpAny_loadPart n (Y0 (W.Looks.here (s:={s with toks:=s.toks+ 1}) (W.looks_clsIn X p) ?_))))));rw[i];refine Y2 (a:=some dx) (Y0 (Y2 (Y0 ?_)));refine wpAny_nsSet1 (s:={s with toks:=s.toks+ 1}) I.ns fun h' e c=>?_
 obtain⟨oD,q,u,f,g,j⟩:=e.count (PySem.Within.cons name v hw);refine Y0 (wpAny_lookBehind f (by rw[g];exact pastItsLine_dict (YF j (by rw[List.length_cons];lia))) ?_);exact Y2 (h _ ⟨(c.2 _ (Ne.symm I.ne)).trans I.obj,e,I.ne⟩ c)
theorem tS{R:Result->Shared->Prop}{vs:WZ}{kw:List (Str×Value)}(X:K.In s.heap)(hm:W.makesIn K C=true)
  (hi:W.findIn K (.ref C) "__init__"=some (some (.ref f))) (hf:W.typeIn K (.ref f)=some (.type "function"))
  (h : codeAny (model prog w) (A.under (.builtin "type.__call__" ⟨.ref C :: vs, kw⟩)) (.call (.ref f) ⟨.ref (s.heap.objs.size + 1) :: vs, kw⟩) (W.InitBack (s.heap.objs.size + 1) R)
   { s with heap := (s.heap.push W.emptyDict).push (W.instObj C s.heap.objs.size) }) :
  codeAny (model prog w) A (.call (.ref C) ⟨vs,kw⟩) R s:=by
 obtain⟨hh,g,d,t,b⟩:=s;exact W.make_core (W.makes_of X hm) (W.looks_findIn X hi) (fun a=>W.bind_fn X a hf) (.inl rfl) h
end
def NO(f:Str)(v:V):List (Str×V)->List (Str×V)
 |[]=>[(f,v)]
 |(g,x)::r=>if g=f then(g,v)::r else(g,x)::NO f v r
theorem Cf(f g:Str)(v:V):∀fs:List (Str×V),(NO f v fs).lookup g=if g=f then some v else fs.lookup g
 |[]=>by
  show List.lookup g [(f,v)]=_
  by_cases h:g=f
  .have hb:(g==f)=true:=Vz.mpr h;simp only[List.lookup,hb,Y6 h]
  .have hb:(g==f)=false:=Xl.mpr h;simp only[List.lookup,hb,Y5 h]
 |(k,x)::r=>by
  have a:=Cf f g v r;rw[show NO f v ((k,x)::r)=(if k=f then(k,v)::r else(k,x)::NO f v r) from rfl]
  by_cases hk:k=f
  .rw[Y6 hk]
   by_cases h:g=k
   .have hb:(g==k)=true:=Vz.mpr h;simp only[List.lookup,hb,Y6 (h.trans hk)]
   .have hb:(g==k)=false:=Xl.mpr h;simp only[List.lookup,hb,Y5 (fun e:g=f=>h (e.trans hk.symm))]
  .rw[Y5 hk]
   by_cases h:g=k
   .have hb:(g==k)=true:=Vz.mpr h;simp only[List.lookup,hb,Y5 (fun e:g=f=>hk (h.symm.trans e))]
   .have hb:(g==k)=false:=Xl.mpr h;simp only[List.lookup,hb];exact a
theorem Il(f:Str)(v:V):∀fs:List (Str×V),f∈(NO f v fs).map (·.1)/\∀g,g∈fs.map (·.1)->g∈(NO f v fs).map (·.1)
 |[]=>⟨by simp[NO],fun g h=>by simp at h⟩
 |(k,x)::r=>by
  obtain⟨i1,i2⟩:=Il f v r;rw[show NO f v ((k,x)::r)=(if k=f then(k,v)::r else(k,x)::NO f v r) from rfl]
  by_cases hk:k=f
  .rw[Y6 hk];subst hk;exact⟨by simp,fun g h=>by simpa using h⟩
  .rw[Y5 hk];refine⟨?_,fun g h=>?_⟩
   .rw[List.map_cons];exact Yn _ i1
   .rw[List.map_cons]at h ⊢;rcases Yo.mp h with e|e
    .exact Yo.mpr (.inl e)
    .exact Yn _ (i2 g e)
theorem FO(f:Str)(v:V):∀fs:List (Str×V),(NO f v fs).length <=fs.length+ 1
 |[]=>by simp[NO]
 |(k,x)::r=>by
  have ih:=FO f v r;rw[show NO f v ((k,x)::r)=(if k=f then(k,v)::r else(k,x)::NO f v r) from rfl]
  by_cases hk:k=f
  .rw[Y6 hk,List.length_cons,List.length_cons];lia
  .rw[Y5 hk,List.length_cons,List.length_cons];lia
theorem TH.some_of{v:V}{o:Option Value}(r:TH (some v) o):∃u,o=some u/\Jr v u:=by
 cases o with
 |none=>exact(show False from r).elim
 |some u=>exact⟨u,rfl,r⟩
theorem TH.none_of{o:Option Value}(r:TH none o):o=none:=by
 cases o with
 |none=>rfl
 |some u=>exact(show False from r).elim
theorem vC{v:V}{u:WW}(r:Jr v u):W.handedIn u=true:=by
 cases v with
 |non=>cases (show u=Value.none from r);rfl
 |bl b=>cases (show u=Value.bool b from r);rfl
 |int i=>obtain⟨t,e⟩:=(show ∃t,u=Value.int i t from r);cases e;rfl
 |str x=>obtain⟨t,e⟩:=(show ∃t,u=Value.str x t from r);cases e;rfl
 |byt b=>obtain⟨t,e⟩:=(show ∃t,u=Value.bytes b t from r);cases e;rfl
 |flt b=>obtain⟨t,e⟩:=(show ∃t,u=Value.float b t from r);cases e;rfl
 |ref a=>cases (show u=Value.ref a from r);rfl
 |ty n=>cases (show u=Value.type n from r);rfl
section
variable{P:WP}{w:WU}{H H':Hp}{h h':J6}{a C dx:WX}{fs fs':List (Str×V)}
theorem FI(hok:TM P w H h)(e:H a=some (.ins C dx fs)):∃mA,DY h a dx C mA/\(∀f,TH (fs.lookup f) (mA f))/\PySem.Within mA (fs.map (·.1))/\fs.length <=1000/\H dx=some (.own a):=by
 obtain⟨d,z,ne,b,mA,n,r,q⟩:=(show Jy P w H h a (.ins C dx fs) from hok a _ e);exact⟨mA,⟨b,n,ne⟩,r,q,z,d⟩
end
structure D4(K:WV)(C:WX):Prop where
 pg:W.plainGet K C Str.empty=true
 hd:W.hasDictIn K C=true
 po:W.plainOver K C=true
 sa:W.findIn K (.ref C) "__setattr__"=some (some (.builtin "object.__setattr__"))
theorem D4.get{K:WV}{C:WX}(c:D4 K C)(f:Str):W.plainGet K C f=true:=c.pg
def Jn(K:WV)(C:WX)(f:Str):Prop:=W.findIn K (.ref C) f=some none
theorem Jn.taker{K:WV}{C:WX}{f:Str}(n:Jn K C f):W.takerIn K C f=some none:=by
 unfold W.takerIn;rw[show W.findIn K (.ref C) f=some none from n];rfl
structure Q3(K:WV)(C:WX)(m:Str)(f:WX):Prop where
 at_:W.findIn K (.ref C) m=some (some (.ref f))
 fn:W.isFn K (.ref f)=true
 kp:W.keepIn K (.ref f)=true
section
variable{X:Cx}{pins:WO}{σ:St}{H:Hp}{s:WQ}{a C dx:WX}{fs:List (Str×V)}{f:Str}{v:V}{A:WT}{E:WM}
theorem Ob{b:Bool}{Q:WM}(I:Jd X pins σ H s)(e:H a=some (.ins C dx fs))(c:D4 X.K C)(n:Jn X.K C f)(l:fs.lookup f=some v)
  (h:∀u s',Jd X pins σ H s'->Jr v u->Q u s'):wpAny (model X.prog X.w) A (getAttr (.ref a) f b) Q E s:=by
 obtain⟨mA,O,r,_,_,_⟩:=FI I.hok e;obtain⟨u,g,ru⟩:=TH.some_of (v:=v) (o:=mA f) (by rw[<-l];exact r f);exact aX I.kIn O (c.get f) c.hd n g (vC ru) (h u _ (I.tok _) ru)
theorem Ot{m:Str}{g:WX}{pl:Sem Bool}{Q:Value×List Value->Shared->Prop}(I:Jd X pins σ H s)(e:H a=some (.ins C dx fs))(c:D4 X.K C)(k:Q3 X.K C m g)(l:fs.lookup m=none)
  (h:Q (.ref g,[.ref a]) s):wpAny (model X.prog X.w) A (getMethod (.ref a) m pl) Q E s:=by
 obtain⟨mA,O,r,_,_,_⟩:=FI I.hok e;have b:mA m=none:=TH.none_of (by rw[<-l];exact r m);exact y4 I.kIn O (c.get m) k.at_ k.fn b h
theorem Pq{y:V}{u:WW}{Q:WN}(I:Jd X pins σ H s)(e:H a=some (.ins C dx fs))(c:D4 X.K C)(n:Jn X.K C f)(hl:fs.length < 1000)(ry:Jr y u)
  (h:∀s',Jd X pins σ (upd H a (.ins C dx (NO f y fs))) s'->Q () s'):wpAny (model X.prog X.w) A (setAttr (.ref a) f u) Q E s:=by
 obtain⟨mA,O,r,wi,_,j⟩:=FI I.hok e;have hz:(fs.map (·.1)).length <=sizeLine:=by rw[Y1,YT];lia
 refine ZP I.kIn O c.sa c.po n.taker c.hd wi hz fun h' i p=>h _ ?_
 have hd:∃o,h'.get? dx=some o:=let ⟨o,_,_,e',_⟩:=i.ns;⟨o,e'⟩;refine I.write (x:=a) (e:=dx) (by rw[e];exact True.intro) (.inr j) (fun b q hb z=>(p.2 b hb).trans z) hd ?_;refine⟨by rw[JF O.ne];exact j,?_,O.ne,i.obj,_,i.ns,fun g=>?_,fun g hg=>?_⟩
 .have:=FO f y fs;lia
 .show TH ((NO f y fs).lookup g) (if g=f then some u else mA g);rw[Cf]
  by_cases q:g=f
  .rw[Y6 q,Y6 q];exact ry
  .rw[Y5 q,Y5 q];exact r g
 .by_cases q:g=f
  .rw[q];exact(Il f y fs).1
  .refine(Il f y fs).2 g (wi g fun z=>hg ?_);show(if g=f then some u else mA g)=none;rw[Y5 q];exact z
theorem Jd.made(I:Jd X pins σ H s):Jd X pins σ (upd (upd H s.heap.objs.size (.own (s.heap.objs.size+ 1))) (s.heap.objs.size+ 1) (.ins C s.heap.objs.size []))
  {s with heap:=(s.heap.push W.emptyDict).push (W.instObj C s.heap.objs.size)}:=by
 have c:(s.heap.push W.emptyDict).get? s.heap.objs.size=some W.emptyDict:=Yc s.heap rfl;have i:((s.heap.push W.emptyDict).push (W.instObj C s.heap.objs.size)).get? (s.heap.objs.size+ 1)=some (W.instObj C s.heap.objs.size):=by
  have:=Yc (s.heap.push W.emptyDict) (o:=W.instObj C s.heap.objs.size) rfl;rwa [XD]at this
 have h:(s.heap.push W.emptyDict).Ns s.heap.objs.size (fun _=>none):=⟨W.emptyDict,#[],_,c,rfl,(fun e g=>absurd g (by simp)),fun _=>rfl⟩;have j:=I.laid (a:=s.heap.objs.size) (o:=.own (s.heap.objs.size+ 1)) (h':=s.heap.push W.emptyDict) (t':=s.toks) (fun b u q=>Y7 _ q) (Y8 _) ⟨_,c⟩;refine j.laid (a:=s.heap.objs.size+ 1) (o:=.ins C s.heap.objs.size []) (t':=s.toks) (fun b u q=>Y7 _ q) (WF (XD _ _)) ?_;have ne:s.heap.objs.size≠s.heap.objs.size+ 1:=Yr (U1 _);refine⟨by rw[JF ne,Nc],Ys _,ne,i,fun _=>none,(Heap.Ns1.of_empty h).at fun o q=>Y7 _ q,fun _=>True.intro,fun y f=>absurd rfl f⟩
theorem OE{prog:WP}{w:WU}{env:Env}{e:J7}{f:Str}{pos:Pos}{s:WQ}{Q:WM}(hb:attributeBase e f env (eval e env)=eval e env)
  (h:wpAny (model prog w) A (eval e env) (fun o s₁=>wpAny (model prog w) A (getAttr o f true) Q E s₁) E s):wpAny (model prog w) A (eval (.Attribute e f pos) env) Q E s:=
 Attribute_any_ h (by rw[arm_eval_Attribute,hb])
end
def FA(K:WV)(ta:TE)(f:Str):TE:=fun σ H Q=>ta σ H fun x H1=>∃a C dx fs v,x= .ref a/\H1 a=some (.ins C dx fs)/\D4 K C/\Jn K C f/\fs.lookup f=some v/\Q v H1
def CC(K:WV)(ta tv:TE)(f:Str):TS:=fun D σ H=>tv σ H fun y H1=>ta σ H1 fun x H2=>∃a C dx fs,x= .ref a/\H2 a=some (.ins C dx fs)/\D4 K C/\Jn K C f/\fs.length < 1000/\
 D.nx σ (upd H2 a (.ins C dx (NO f y fs)))
section
variable{X:Cx}{o e value:J7}{f:Str}{pos pos' tpos:Pos}{ta tv:TE}
theorem wG(he:PE X e ta)(hb:attributeBase e f X.env (eval e X.env)=eval e X.env):PE X (.Attribute e f pos) (FA X.K ta f):=by
 intro pins s σ H Q I h;refine OE hb (JH (he pins s σ H _ I h) fun u w ⟨x,H1,j,b,a,C,dx,fs,v,ex,g,c,n,l,q⟩=>?_);subst ex;obtain rfl:u=Value.ref a:=b;exact Ob j g c n l fun p r i ru=>⟨v,H1,i,ru,q⟩
theorem mQ(ha:PE X o ta)(hv:PE X value tv)(hs:swapsWith value (some (.Attribute o f pos')) pos.line X.env=pure false):PS X (.Assign [.Attribute o f pos'] value pos) (CC X.K ta tv f):=by
 intro pins s σ H D I h;refine Vu (JH (hv pins s σ H _ I h) fun u b ⟨y,H1,z,e,q⟩=>JH (ha pins b σ H1 _ z q) fun j s2 ⟨x,H2,w,g,a,C,dx,fs,ex,p,c,n,l,i⟩=>?_) hs;subst ex;obtain rfl:j=Value.ref a:=g;exact Pq w p c n l e fun s3 r=>⟨σ,_,r,i⟩
end
section
variable{X:Cx}{pins:WO}{σ:St}{H:Hp}{s:WQ}{A:WT}{E:WM}{Q:WM}{c:WW}{b:Bool}
inductive Gx(K:WV)(H:Hp):V->Value->Prop where
 |non:Gx K H .non (.type "NoneType")
 |bl (x:Bool):Gx K H (.bl x) (.type "bool")
 |int (i:Int):Gx K H (.int i) (.type "int")
 |str (x:Str):Gx K H (.str x) (.type "str")
 |flt (x:UInt64):Gx K H (.flt x) (.type "float")
 |lst {a:WX} {xs:List V} (e:H a=some (.lst xs)):Gx K H (.ref a) (.type "list")
 |frz {a:WX} {o:Obj} {xs:List V} (e:H a=some (.frz o (.lst xs))):Gx K H (.ref a) (.type "list")
 |tup {a:WX} {xs:List V} (e:H a=some (.tup xs)):Gx K H (.ref a) (.type "tuple")
 |dK {a:WX} {kvs:List (Jw×V)} (e:H a=some (.dK kvs)):Gx K H (.ref a) (.type "dict")
 |dT {a:WX} {kvs:List (List Jw×V)} (e:H a=some (.dT kvs)):Gx K H (.ref a) (.type "dict")
 |ins {a C dx:WX} {fs:List (Str×V)} (e:H a=some (.ins C dx fs)) (cl:D4 K C) (ha:W.findIn K (.ref C) "__class__"=some (some (.builtin "object.__class__")))
   (hn:W.specialIn K (.builtin "object.__class__") "__get__"=some (some (.builtin "getset_descriptor.__get__"))) (htk:W.takesIn K (.builtin "object.__class__")=some true)
   (hm:W.mroIn K C (.type "object")=some true):Gx K H (.ref a) (.ref C)
theorem uU{x:V}{u t:WW}(I:Jd X pins σ H s)(rx:Jr x u)(ty:Gx X.K H x t)(e:W.kitOne X.K t c=some b)(h:∀tk,Q (.bool b) {s with toks:=tk}):
  wpAny (model X.prog X.w) A (call (.builtin "isinstance") [u,c]) Q E s:=by
 cases ty with
 |non=>cases (show u=Value.none from rx);exact Uh W.kitx_none I.kIn True.intro e (fun z=>nomatch z) h
 |bl y=>cases (show u=Value.bool y from rx);exact Uh W.kitx_bool I.kIn True.intro e (fun z=>nomatch z) h
 |int i=>obtain⟨t,q⟩:=(show ∃t,u=Value.int i t from rx);cases q;exact Uh W.kitx_int I.kIn True.intro e (fun z=>nomatch z) h
 |str y=>obtain⟨t,q⟩:=(show ∃t,u=Value.str y t from rx);cases q;exact Uh W.kitx_str I.kIn True.intro e (fun z=>nomatch z) h
 |flt y=>obtain⟨t,q⟩:=(show ∃t,u=Value.float y t from rx);cases q;exact Uh W.kitx_float I.kIn True.intro e (fun z=>nomatch z) h
 |@lst a xs ea=>
  cases (show u=Value.ref a from rx);obtain⟨_,_,n,_,h1⟩:=(show Jy X.prog X.w H s.heap a (.lst xs) from I.hok a _ ea);exact Uh W.kitx_list I.kIn ⟨_,h1,rfl⟩ e (fun z=>nomatch z) h
 |@frz a ob xs ea=>
  cases (show u=Value.ref a from rx);obtain⟨_,_,_,n,_,h1⟩:=(show Jy X.prog X.w H s.heap a (.frz ob (.lst xs)) from I.hok a _ ea);exact Uh W.kitx_list I.kIn ⟨_,h1,rfl⟩ e (fun z=>nomatch z) h
 |@tup a xs ea=>
  cases (show u=Value.ref a from rx);obtain⟨_,_,_,p⟩:=(show Jy X.prog X.w H s.heap a (.tup xs) from I.hok a _ ea);obtain⟨o,h1,h2,_⟩:=p;exact Uh W.kitx_tuple I.kIn ⟨o,h1,h2⟩ e (fun z=>nomatch z) h
 |@dK a kvs ea=>
  cases (show u=Value.ref a from rx);obtain⟨_,_,vs,_,p⟩:=(show Jy X.prog X.w H s.heap a (.dK kvs) from I.hok a _ ea);obtain⟨o,es,ep,h1,h2,_⟩:=p;exact Uh W.kitx_dict I.kIn ⟨o,h1,h2.1⟩ e (fun z=>nomatch z) h
 |@dT a kvs ea=>
  cases (show u=Value.ref a from rx);obtain⟨_,_,xs,_,o,es,ep,h1,h2,_⟩:=(show Jy X.prog X.w H s.heap a (.dT kvs) from I.hok a _ ea);exact Uh W.kitx_dict I.kIn ⟨o,h1,h2.1⟩ e (fun z=>nomatch z) h
 |@ins a C dx fs ea cl ha hn htk hm=>
  cases (show u=Value.ref a from rx);obtain⟨mA,O,_⟩:=FI I.hok ea;obtain⟨f,J,_⟩:=O.look;exact Uh (W.kitx_own (cl.get _) cl.hd ha hn htk hm) I.kIn J e (fun z=>nomatch z) h
end
structure Room(k:Nat)(A:WT):Prop where
 hd:A.handled=none
 dp:A.depth+ 3*k+ 5 < recursionLimit
 un:A.units+ 16*k+ 200 < cLine
theorem Room.mono{j k:Nat}{A:WT}(r:Room k A)(h:j <=k):Room j A:=⟨r.hd,by have:=r.dp;lia,by have:=r.un;lia⟩
theorem Room.deeper{k:Nat}{A:WT}(r:Room (k+ 1) A)(env:Env):Room k (A.deeper env):=
 ⟨r.hd,by have:=r.dp;show A.depth+ 1+ 3*k+ 5 < _;lia,by have:=r.un;show A.units+ 3+ 16*k+ 200 < _;lia⟩
theorem w5{A:WT}{C:WX}{us:WZ}{kw:List (Str×Value)}:(A.under (.builtin "type.__call__" ⟨.ref C::us,kw⟩)).depth=A.depth+ 1:=by
 first|rfl|simp[Around.under,Code.weight,Code.isCreation,Code.isGuard,Code.isCaller,Code.frames,Code.isFrame,guardIds]
theorem eU{A:WT}{C:WX}{us:WZ}{kw:List (Str×Value)}:(A.under (.builtin "type.__call__" ⟨.ref C::us,kw⟩)).units=A.units+ 1:=by
 first|rfl|simp[Around.under,Code.cUnits,Code.frames,Code.isFrame]
theorem Room.make{k:Nat}{A:WT}(r:Room (k+ 1) A)(C:WX)(us:WZ)(kw:List (Str×Value)):Room k (A.under (.builtin "type.__call__" ⟨.ref C::us,kw⟩)):=
 ⟨r.hd,by have:=r.dp;rw[w5];lia,by have:=r.un;rw[eU];lia⟩
theorem Room.depth{k:Nat}{A:WT}(r:Room k A):A.depth < recursionLimit:=by have:=r.dp;lia
theorem Room.units{k:Nat}{A:WT}(r:Room k A):A.units+ 64 < cLine:=by have:=r.un;lia
def Ru:TA:=fun _ H Q=>Q [] H
def DN(ta:TE)(tr:TA):TA:=fun σ H Q=>ta σ H fun x H1=>tr σ H1 fun xs H2=>Q (x::xs) H2
section
variable{X:Cx}{e:J7}{es:List Expr}{te:TE}{t:TA}{pos:Pos}
theorem Jf:PA X [] Ru:=fun _ _ _ _ H Q I h=>Calls.spliced_nil ⟨[],H,I,.nil,h⟩
theorem JM(ha:PE X e te)(hr:PA X es t)(hs:starEach (e::es) X.env=(false,eval e X.env)::starEach es X.env:=by rfl):PA X (e::es) (DN te t):=by
 intro pos pins s σ H Q I h;rw[hs];show wpAny _ _ (spliced ((false,eval e X.env)::backTo pos (starEach es X.env))) _ _ s;refine Calls.spliced_cons (JH (ha pins s σ H _ I h) fun u a ⟨x,H1,j,c,g⟩=>?_);exact JH (hr pos pins a σ H1 _ j g) fun n p ⟨xs,H2,i,b,f⟩=>⟨x::xs,H2,i,.cons c b,f⟩
def KN(t:TA):TE:=fun σ H Q=>t σ H fun xs H1=>xs.length <=sizeLine/\∀p,H1 p=none->Q (.ref p) (upd H1 p (.tup xs))
theorem SF{x1}(h:PA X es t):PE X (.Tuple es x1 pos) (KN t):=by
 intro pins s σ H Q I g;refine wpAny_Tuple_spliced (JH (h pos pins s σ H _ I g) fun f a ⟨xs,H1,c,r,z,q⟩=>⟨by rw[<-r.length];exact z,?_⟩);have hf:H1 a.heap.objs.size=none:=c.hok.fresh (Y8 _);refine⟨.ref a.heap.objs.size,upd H1 a.heap.objs.size (.tup xs),c.laid (t':=a.toks) (fun b u e=>Y7 _ e) (Y8 _) ?_,rfl,q _ hf⟩;exact⟨z,f,r,⟨_,Yc _ rfl,rfl,_,rfl⟩⟩
end
abbrev Sp:=List V->Hp->VK->XK->Prop
abbrev GU:=List Env->Hp->Shared->XK->Value->Shared->Prop
structure Gg(P:WP)(w:WU)(K:WV)(mg:WL)(base:J6)(A:WT)(outer:List Env)(s:WQ)(H:Hp):Prop where
 frames:A.frames=some outer
 mod:Mod K mg base
 bs:∀b o,base.get? b=some o->s.heap.get? b=some o/\H b=none
 bsz:base.objs.size <=s.heap.objs.size
 funs:s.heap.FunFrames base outer
 frf:∀b∈GB outer,H b=none
 hok:TM P w H s.heap
 bare:AllBare s.gens
def CE(outer:List Env)(P:WP)(w:WU)(H:Hp)(s:WQ)(Q:VK)(u:WW)(s':WQ):Prop:=
 ∃v H',s'.os=s.os/\AllBare s'.gens/\Un (GB outer) [] H H' s.heap s'.heap/\TM P w H' s'.heap/\Jr v u/\Q v H'
def CR(CX:GU)(outer:List Env)(P:WP)(w:WU)(H:Hp)(s:WQ)(Q:VK)(E:XK)(r:Result)(s':WQ):Prop:=
 match r with
 | .ok (.ret u)=>CE outer P w H s Q u s'
 | .ok _=>False
 | .error e=>CX outer H s E e s'
structure Jj(P:WP)(w:WU)(K:WV)(mg:WL)(base:J6)(CX:GU)(k:Nat)(f:WX)(fd:WR)(ps:List Str)(sp:Sp):Prop where
 len:∀vs H Q E,sp vs H Q E->vs.length=ps.length
 run:∀ (A:WT) (outer:List Env) (s:WQ) (H:Hp) (args:Args) (us:WZ) (vs:List V) (Q:VK) (E:XK),Room k A->Gg P w K mg base A outer s H->BindsTo s fd args (ps.zip us)->Ji vs us->sp vs H Q E->
  codeAny (model P w) A (.call (.ref f) args) (CR CX outer P w H s Q E) s
theorem Jj.imp{P:WP}{w:WU}{K:WV}{mg:WL}{base:J6}{CX:GU}{k:Nat}{f:WX}{fd:WR}{ps:List Str}{sp sp':Sp}(F:Jj P w K mg base CX k f fd ps sp)
  (h:∀vs H Q E,sp' vs H Q E->sp vs H Q E):Jj P w K mg base CX k f fd ps sp':=
 ⟨fun vs H Q E q=>F.len vs H Q E (h _ _ _ _ q),fun A a s H b c vs Q E i j n e g=>F.run A a s H b c vs Q E i j n e (h _ _ _ _ g)⟩
theorem Gg.make{P:WP}{w:WU}{K:WV}{mg:WL}{base:J6}{A:WT}{outer:List Env}{s:WQ}{H:Hp}(e:Gg P w K mg base A outer s H)(C:WX)(us:WZ)(kw:List (Str×Value)):
  Gg P w K mg base (A.under (.builtin "type.__call__" ⟨.ref C::us,kw⟩)) outer s H:=⟨by first|exact e.frames|(simpa[Around.under,Code.envs,Code.isFrame,pushEnvs] using e.frames),e.mod,e.bs,e.bsz,e.funs,e.frf,e.hok,e.bare⟩
section
variable{X:Cx}{pins:WO}{σ:St}{H:Hp}{s s':WQ}
theorem Jd.env0(I:Jd X pins σ H s):Gg X.prog X.w X.K X.mg X.base X.A X.stack s H:=
 ⟨I.ok.frames,I.ok.mod,I.bs,YF I.ok.bsz I.sz,I.stack,I.stkFree,I.hok,I.bare⟩
theorem Jd.after{Q:VK}{u:WW}(I:Jd X pins σ H s)(h:CE X.stack X.prog X.w H s Q u s'):EP X pins σ Q u s':=by
 obtain⟨v,H',os,a,un,e,r,q⟩:=h;obtain⟨hh,g,d,t,c⟩:=s';obtain rfl:c=s.os:=os;exact⟨v,H',I.call (h':=hh) (g':=g) (d':=d) (t':=t) (ch:=[]) un e a (fun b z=>absurd z (by simp)),r,q⟩
end
def Au(sp:Sp)(dvs:List V)(E:XK)(t:TA):TE:=fun σ H Q=>t σ H fun vs H1=>sp (vs++dvs) H1 Q E
def TJ(K:WV)(fd:WR)(ps:List Str)(ds:WZ):Prop:=
 ∀ (s:WQ) (us:WZ),K.In s.heap->(us++ds).length=ps.length->BindsTo s fd ⟨us,[]⟩ (ps.zip (us++ds))
theorem TJ.all{K:WV}{fd:WR}{ps:List Str}(h:∀us:List Value,us.length=ps.length->bindArgs fd ⟨us,[]⟩=pure (ps.zip us)):TJ K fd ps []:=fun s us _ a=>by
 rw[List.append_nil]at a ⊢;exact .of_eq (h us a)
def Fd(CX:GU)(X:Cx)(E:XK):Prop:=∀ (pins:WO) (σ:St) (H:Hp) (s:WQ) (e:WW) (s':WQ),Jd X pins σ H s->CX X.stack H s E e s'->X.xe e s'
section
variable{X:Cx}{CX:GU}{k:Nat}{f C:WX}{fd:WR}{ps:List Str}{sp:Sp}{dvs:List V}{ds:WZ}{E:XK}{x m:Str}{p pos apos:Pos}{e o:J7}{es:List Expr}{ta:TE}{t:TA}
theorem KJ{pins:WO}{σ:St}{H:Hp}{s:WQ}{Q:VK}{us:WZ}{vs:List V}(F:Jj X.prog X.w X.K X.mg X.base CX k f fd ps sp)(hr:Room k X.A)(hb:TJ X.K fd ps ds)(hd:Ji dvs ds)(hx:Fd CX X E)
  (I:Jd X pins σ H s) (r:Ji vs us) (h:sp (vs++dvs) H Q E):wpAny (model X.prog X.w) X.A (call (.ref f) us) (EP X pins σ Q) X.xe s:=by
 have b:Ji (vs++dvs) (us++ds):=r.append hd;have c:(us++ds).length=ps.length:=by rw[<-b.length];exact F.len _ _ _ _ h
 refine Wv (Ui (F.run X.A X.stack s H ⟨us,[]⟩ (us++ds) (vs++dvs) Q E hr I.env0 (hb s us I.kIn c) b h) fun r s' a=>?_);cases r with
 |error e=>exact hx pins σ H s e s' I a
 |ok fl=>
  cases fl with
  |ret u=>exact I.after a
  |next=>exact False.elim a
  |brk=>exact False.elim a
  |cont=>exact False.elim a
theorem mZ(F:Jj X.prog X.w X.K X.mg X.base CX k f fd ps sp)(hr:Room k X.A)(hg:Gl X x)(hm:X.mg x=some (.ref f))(hk:W.keepIn X.K (.ref f)=true)(hb:TJ X.K fd ps ds)(hd:Ji dvs ds)(hx:Fd CX X E)
  (ha:PA X (e::es) t) (hdb:(x==("__debug__":Str))=false:=by decide) (he:starEach (e::es) X.env=(false,eval e X.env)::starEach es X.env:=by rfl) (hpl:(backTo pos (starEach es X.env)).any (·.1)=false:=by rfl):
  PE X (.Call (.Name x p) (e::es) [] pos) (Au sp dvs E t):=by
 intro pins s σ H Q I h;refine Uu (LS I hg hm ?_ hdb);refine W.callWith_K (h₀:=X.base) I.ok.mod.kin hk (JH (ha pos pins s σ H _ I h) fun b c ⟨vs,H1,a,r,q⟩=>⟨a.kIn,?_⟩) he hpl;exact KJ F hr hb hd hx a r q
structure Mk(K:WV)(C f:WX):Prop where
 makes:W.makesIn K C=true
 init:W.findIn K (.ref C) "__init__"=some (some (.ref f))
 fn:W.isFn K (.ref f)=true
 kp:W.keepIn K (.ref C)=true
theorem mP{pins:WO}{σ:St}{H:Hp}{s:WQ}{Q:VK}{us:WZ}{vs:List V}(M:Mk X.K C f)(F:Jj X.prog X.w X.K X.mg X.base CX k f fd ps sp)(hr:Room (k+ 1) X.A)(hb:TJ X.K fd ps ds)(hd:Ji dvs ds)
  (hx:Fd CX X E) (I:Jd X pins σ H s) (r:Ji vs us)
  (h:∀x dx,H x=none->H dx=none->dx≠x->sp (.ref x::(vs++dvs)) (upd (upd H dx (.own x)) x (.ins C dx [])) (fun v H2=>v= .non/\Q (.ref x) H2) E):
  wpAny (model X.prog X.w) X.A (call (.ref C) us) (EP X pins σ Q) X.xe s:=by
 have g:=h (s.heap.objs.size+ 1) s.heap.objs.size (I.hok.fresh (X4 _)) (I.hok.fresh (Y8 _)) (Yr (U1 _));have b:=Jd.made (C:=C) I;have c:Ji (V.ref (s.heap.objs.size+ 1)::(vs++dvs)) (Value.ref (s.heap.objs.size+ 1)::(us++ds)):=.cons rfl (r.append hd);have n:(Value.ref (s.heap.objs.size+ 1)::us++ds).length=ps.length:=by
  have e:=c.length;rw[F.len _ _ _ _ g]at e;exact e.symm
 refine Wv (tS (f := f) I.kIn M.makes M.init (Vz.mp M.fn) (Ui (F.run _ X.stack _ _ ⟨Value.ref (s.heap.objs.size + 1) :: us, []⟩ (Value.ref (s.heap.objs.size + 1) :: (us ++ ds)) _ _ E (hr.make C us [])
  (b.env0.make C us []) (hb _ (Value.ref (s.heap.objs.size + 1) :: us) b.kIn n) c g) fun r s' a => ?_))
 cases r with
 |error e=>exact hx pins σ _ _ e s' b a
 |ok fl=>
  cases fl with
  |ret u=>
   obtain⟨v,H',q,i,p,j⟩:=b.after a;subst p;exact⟨i,⟨V.ref (s.heap.objs.size+ 1),H',q,rfl,j⟩⟩
  |next=>exact False.elim a
  |brk=>exact False.elim a
  |cont=>exact False.elim a
end
def PK(X:Cx)(kws:List Keyword)(t:TA):Prop:=
 ∀ (pos:Pos) (pins:WO) (s:WQ) (σ:St) (H:Hp) (Q:List V->Hp->Prop),Jd X pins σ H s->t σ H Q->wpAny (model X.prog X.w) X.A (evalAll ((backToKw pos (keywordEach kws X.env)).map (·.2))) (AP X pins σ Q) X.xe s
section
variable{X:Cx}{CX:GU}{k:Nat}{f C:WX}{fd:WR}{ps ks:List Str}{sp:Sp}{E:XK}{x m:Str}{p pos apos kpos:Pos}{e o:J7}{es:List Expr}{kws:List Keyword}{te ta:TE}{t tk:TA}{nm:Option Str}
theorem aA:PK X [] Ru:=fun _ _ _ _ H Q I h=>wpAny_evalAll_nil ⟨[],H,I,.nil,h⟩
theorem jO(ha:PE X e te)(hr:PK X kws t):PK X (⟨nm,e,kpos⟩::kws) (DN te t):=by
 intro pos pins s σ H Q I h;show wpAny _ _ (evalAll ((do let v <-eval e X.env;standAt pos;pure v)::(backToKw pos (keywordEach kws X.env)).map (·.2))) _ _ s;refine wpAny_evalAll_cons (Y0 (JH (ha pins s σ H _ I h) fun u a ⟨x,H1,j,c,g⟩=>Y0 (Vj (Y2 ?_))));exact JH (hr pos pins a σ H1 _ j g) fun n p ⟨xs,H2,i,b,f⟩=>⟨x::xs,H2,i,.cons c b,f⟩
variable{g:List Value->List Value->List Value}{gV:List V->List V->List V}
end
structure Nm(N P:List Str)(sc:Scope):Prop where
 kind:sc.kind= .function
 co:sc.isCoroutine=false
 gen:sc.isGenerator=false
 nd:N.Nodup
 pre:N.take P.length=P
 par:∀x∈P,sc.names.lookup x=some .local\/sc.names.lookup x=some .cell
 nofree:∀y∈sc.names,y.2≠ .free
theorem QF{kindOf:Str->Option NameKind}{x:Str}:∀{binds:List (Str×Value)} {m:WL},(∀v,(x,v)∉binds)->bindL kindOf binds m x=m x
 |[],_,_=>rfl
 |(n,v)::r,m,h=>by
  unfold bindL;rw[QF fun w hw=>h w (Yn _ hw)]
  split
  .have:x≠n:=by rintro rfl;exact h v YD
   simp[this]
  .rfl
theorem Og{kindOf:Str->Option NameKind}{x:Str}:∀{binds:List (Str×Value)} {m:WL},(∀v,(x,v)∉binds)->bindC kindOf binds m x=m x
 |[],_,_=>rfl
 |(n,v)::r,m,h=>by
  unfold bindC;rw[Og fun w hw=>h w (Yn _ hw)]
  split
  .rfl
  .have:x≠n:=by rintro rfl;exact h v YD
   simp[this]
theorem Q4{kindOf:Str->Option NameKind}{x:Str}{v:WW}:∀{P:List Str} {vs:WZ} {i:Nat} {m:WL},P.Nodup->P[i]?=some x->vs[i]?=some v->kindOf x=some .local->
  bindL kindOf (P.zip vs) m x=some v
 |[],_,_,_,_,h,_,_=>by simp at h
 |_::_,[],_,_,_,_,h,_=>by simp at h
 |p::P,w::vs,0,m,nd,h1,h2,hk=>by
  simp at h1 h2;subst h1;subst h2;show bindL kindOf ((p,w)::P.zip vs) m p=_;unfold bindL;rw[QF fun v hv=>(Yv.mp nd).1 (W9 hv).1,Y6 hk];simp
 |p::P,w::vs,i+ 1,m,nd,h1,h2,hk=>by
  show bindL kindOf ((p,w)::P.zip vs) m x=_;unfold bindL;exact Q4 (i:=i) (Yv.mp nd).2 (by simpa using h1) (by simpa using h2) hk
theorem OH{kindOf:Str->Option NameKind}{x:Str}{v:WW}:∀{P:List Str} {vs:WZ} {i:Nat} {m:WL},P.Nodup->P[i]?=some x->vs[i]?=some v->kindOf x≠some .local->
  bindC kindOf (P.zip vs) m x=some v
 |[],_,_,_,_,h,_,_=>by simp at h
 |_::_,[],_,_,_,_,h,_=>by simp at h
 |p::P,w::vs,0,m,nd,h1,h2,hk=>by
  simp at h1 h2;subst h1;subst h2;show bindC kindOf ((p,w)::P.zip vs) m p=_;unfold bindC;rw[Og fun v hv=>(Yv.mp nd).1 (W9 hv).1,Y5 hk];simp
 |p::P,w::vs,i+ 1,m,nd,h1,h2,hk=>by
  show bindC kindOf ((p,w)::P.zip vs) m x=_;unfold bindC;exact OH (i:=i) (Yv.mp nd).2 (by simpa using h1) (by simpa using h2) hk
def start(N:List Str)(vs:List V):St:=vs.map some++List.replicate (N.length - vs.length) none
def Mx(CX:GU)(P:WP)(w:WU)(K:WV)(mg:WL)(base:J6)(N:List Str)(qual:Str)(scope:Scope)(f:WX)(cd:WW)(A:WT)(outer:List Env)(s:WQ)(H:Hp)(E:XK):Cx where
 prog:=P
 w:=w
 K:=K
 mg:=mg
 base:=base
 A:=A.deeper (envOfC qual scope s.heap.objs.size f cd)
 N:=N
 s₀:=s
 H₀:=H
 env:=envOfC qual scope s.heap.objs.size f cd
 outer:=outer
 stack:=envOfC qual scope s.heap.objs.size f cd::outer
 ex:=[]
 calm:=true
 fn:=fun _=>true
 pn:=[]
 xe:=fun e s'=>wpAny (model P w) (A.deeper (envOfC qual scope s.heap.objs.size f cd)) (leaving (envOfC qual scope s.heap.objs.size f cd) e) (fun _ s''=>CX outer H s E e s'') (fun e' s''=>CX outer H s E e' s'') s'
theorem Qk{sc:Scope}{n:Nat}{x:Str}(h:sc.names.lookup x=some .cell):∃c,(cellsFrom n sc.names []).lookup x=some c:=by
 have q:=W.cellsFrom_some sc.names n [] (.inl h);exact UZ.mp q
theorem wT{CX:GU}{P:WP}{w:WU}{K:WV}{mg:WL}{base:J6}{N ps:List Str}{qual:Str}{scope:Scope}{f:WX}{cd:WW}{A:WT}{outer:List Env}{s s1:WQ}{H:Hp}{E:XK}{us:WZ}{vs:List V}
  (S:Nm N ps scope) (hd:A.handled=none) (e0:Gg P w K mg base A outer s H) (hl:vs.length=ps.length) (r:Ji vs us)
  (x:InCallC s s.heap.objs.size (bindL (envOfC qual scope s.heap.objs.size f cd).kindOf (ps.zip us) fun _=>none) (cellsFrom (s.heap.objs.size+ 1) scope.names []) (bindC (envOfC qual scope s.heap.objs.size f cd).kindOf (ps.zip us) fun _=>none) s1):
  Jd (Mx CX P w K mg base N qual scope f cd A outer s H E) [] (start N vs) H s1:=by
 have hpl:ps.length <=N.length:=by have:=X3 List.length S.pre;rw[Yt]at this;lia
 obtain⟨h1,tk,rfl,hk⟩:=x.done;have j:∀b:Addr,b∉(Mx CX P w K mg base N qual scope f cd A outer s H E).ex:=fun b z=>absurd (show b∈([]:List Addr) from z) (by simp)
 refine ⟨⟨e0.mod, S.kind, rfl, rfl, Y8 _, fun y z c h1 h2 => ?_, fun y g => ?_, fun y c _ h => ?_, fun _ => hd, Around.frames_deeper e0.frames, .inr ⟨rfl, rfl⟩, fun b z => absurd z (j b), e0.bs, e0.bsz, fun b _ _ => j b, fun b z => absurd z (j b), e0.funs, e0.frf⟩,
  rfl, e0.bare, Un.kept hk, ⟨_, x.toInCall.ns, fun i y v h1 h2 h3 => ?_⟩, fun y c h => ⟨_, x.cell y c h⟩, e0.hok.fresh (Y8 _), fun y c h => ?_, fun p hp => absurd (show p ∈ ([] : List (Addr × Obj)) from hp) (by simp), e0.hok.kept hk, ?_⟩
 .exact name_of_addr x.apart (Uq h1) (Uq h2)
 .have g:scope.names.lookup y=some .cell\/scope.names.lookup y=some .free:=g;rcases g with g|g
  .exact Qk g
  .exact absurd rfl (S.nofree _ (Uq g))
 .exact U7 (x.above y c (Uq h))
 .have hi:i < vs.length:=by
   unfold start at h2
   by_cases hi:i < vs.length
   .exact hi
   .rw[YY (by simpa using hi)]at h2;rw[List.getElem?_replicate]at h2
    split at h2 <;> cases h2
  have ha:vs[i]?=some v:=by
   unfold start at h2;rw[X2 (by simpa using hi),Y9]at h2;cases e:vs[i]? with
   |none=>rw[e]at h2;cases h2
   |some a=>rw[e]at h2;cases h2;rfl
  obtain⟨u,hu,rv⟩:=r.get ha;have hp:ps[i]?=some y:=by
   rw[<-S.pre,W2 (by lia)];exact h1
  have ndP:ps.Nodup:=by rw[<-S.pre];exact S.nd.sublist (VW _ _)
  refine⟨u,rv,?_⟩;rcases S.par y (Yq hp) with k|k
  .exact .inl ⟨k,Q4 ndP hp hu k⟩
  .obtain⟨c,e⟩:=Qk (n:=s.heap.objs.size+ 1) k;refine .inr ⟨.inl k,c,e,?_⟩;have q:=x.cell y c e;rw[OH ndP hp hu (by show scope.names.lookup y≠_;rw[k];decide)]at q;exact q
 .exact e0.hok.fresh (U7 (x.above y c (Uq h)))
 .unfold start;show _=N.length;rw[Yl,Y1,List.length_replicate]
  lia
theorem EI{CX:GU}{P:WP}{w:WU}{K:WV}{mg:WL}{base:J6}{k:Nat}{f:WX}{name qual:Str}{params:Arguments}{body:List Stmt}{scope:Scope}{dV kV doc pm cdv ct oc:WW}{an od:Option Addr}
  {osl:Array (Option Value)} {N ps:List Str} {sp:Sp} (lk:K.lookup f=some ⟨oc,od,.func (W.fnOf name qual params body scope dV kV doc pm an cdv ct),osl⟩) (hcd:W.codeIn K cdv qual=true) (S:Nm N ps scope)
  (len:∀vs H Q E,sp vs H Q E->vs.length=ps.length)
  (hbody : ∀ (A : Around) (outer : List Env) (s : Shared) (H : Hp) (vs : List V) (Q : VK) (E : XK), Room k (A.deeper (envOfC qual scope s.heap.objs.size f cdv)) -> sp vs H Q E ->
   ∃ t, D7 (Mx CX P w K mg base N qual scope f cdv A outer s H E) body t /\ t { nx := fun _ H' => Q .non H', rt := Q } (start N vs) H) :
  Jj P w K mg base CX (k+ 1) f (W.fnOf name qual params body scope dV kV doc pm an cdv ct) ps sp:=by
 refine⟨len,fun A outer s H args us vs Q E p c hb r h=>?_⟩;have hl:=len _ _ _ _ h;have KX:K.In s.heap:=c.mod.kin.keeps fun b o e=>(c.bs b o e).1
 have aa:s.heap.NoLimit:=c.mod.nolimit.keeps fun b o e=>(c.bs b o e).1
 have g:∀y∈ps.zip us,scope.names.lookup y.1=some .local\/(scope.names.lookup y.1=some .cell/\((cellsFrom (s.heap.objs.size+ 1) scope.names []).lookup y.1).isSome=true):=fun⟨n,v⟩ hy=>by
  rcases S.par n (W9 hy).1 with q|q
  .exact .inl q
  .exact .inr ⟨q,W.cellsFrom_some _ _ _ (.inl q)⟩
 refine codeAny_call_function p.depth (KX _ _ lk) rfl S.co S.gen rfl (W.codeRec_of KX hcd) (hb _ _ _ _ ?_);refine wpAny_newFunctionEnv_cells S.kind g fun env he z x=>?_
 subst he;refine⟨aa.keeps x.toInCall.keep,codeAny_func ?_⟩;obtain⟨t,ht,hq⟩:=hbody A outer s H vs Q E (p.deeper _) h;have I:Jd (Mx CX P w K mg base N qual scope f cdv A outer s H E) [] (start N vs) H z:=wT S p.hd c hl r x;refine Xm (ht [] z (start N vs) H _ I hq) (fun fl s' a=>?_) fun e s' a=>a
 have i:∀{σ':St} {H':Hp} {v:V} {u:WW},Jd (Mx CX P w K mg base N qual scope f cdv A outer s H E) [] σ' H' s'->Jr v u->Q v H'->CE outer P w H s Q u s':=
  fun {σ' H' v u} J j q=>⟨v,H',J.os,J.bare,J.base,J.hok,j,q⟩
 cases fl with
 |ret u=>
  obtain⟨v,σ',H',J,j,q⟩:=a;exact i J j q
 |next=>
  obtain⟨σ',H',J,q⟩:=a;exact i (v:=V.non) (u:=Value.none) J rfl q
 |brk=>
  obtain⟨_,_,_,q⟩:=a;exact False.elim q
 |cont=>
  obtain⟨_,_,_,q⟩:=a;exact False.elim q
section
variable{X:Cx}{x:Str}{p pos:Pos}{e:J7}{es:List Expr}{t:TA}{id T:String}{r:List V->Hp->VK->Prop}
def Av(r:List V->Hp->VK->Prop)(t:TA):TE:=fun σ H Q=>t σ H fun vs H1=>r vs H1 Q
theorem yH(hc:JA X (.builtin id) r)(hg:Gl X x)(hm:X.mg x=none)(hv:bootBuiltins x=some (.builtin id))(ha:PA X (e::es) t)(hn:x≠"__name__":=by decide)(hdb:(x==("__debug__":Str))=false:=by decide)
  (he:starEach (e::es) X.env=(false,eval e X.env)::starEach es X.env:=by rfl) (hpl:(backTo pos (starEach es X.env)).any (·.1)=false:=by rfl):PE X (.Call (.Name x p) (e::es) [] pos) (Av r t):=by
 intro pins s σ H Q I h;refine Uu (BO I hg hm hv ?_ hn hdb);exact PyProof.Rows.callWith_builtin1 (JH (ha pos pins s σ H _ I h) fun a b ⟨vs,H1,g,c,f⟩=>hc pins b σ H1 vs a Q g c f) he hpl
theorem Rb(hc:JA X (.type T) r)(hg:Gl X x)(hm:X.mg x=none)(hv:bootBuiltins x=some (.type T))(ha:PA X (e::es) t)(hn:x≠"__name__":=by decide)(hdb:(x==("__debug__":Str))=false:=by decide)
  (he:starEach (e::es) X.env=(false,eval e X.env)::starEach es X.env:=by rfl) (hpl:(backTo pos (starEach es X.env)).any (·.1)=false:=by rfl):PE X (.Call (.Name x p) (e::es) [] pos) (Av r t):=by
 intro pins s σ H Q I h;refine Uu (BO I hg hm hv ?_ hn hdb);exact UG (JH (ha pos pins s σ H _ I h) fun a b ⟨vs,H1,g,c,f⟩=>hc pins b σ H1 vs a Q g c f) he hpl
end
end L2
namespace HT
open PySem PyProof.Rows
def lexLt:List Int->List Int->Bool
 |[],[]=>false
 |[],_::_=>true
 |_::_,[]=>false
 |x::xs,y::ys=>if x=y then lexLt xs ys else decide (x < y)
theorem eqAt_int(A:WT)(s:WQ)(a:Int)(t:Tok)(c:Int)(u:Tok):∃e,SeqAt.EqAt A s (.int a t) (.int c u) e/\(e=true↔a=c):=
 ⟨(a==c),SeqAt.EqAt.int_int a t c u,by simp⟩
theorem rcLt_int(A:WT)(s:WQ)(a:Int)(t:Tok)(c:Int)(u:Tok)(prog:WP)(w:WU)(E:WM)(Q:WM)(h:Q (.bool (decide (a < c))) s):
  wpAny (model prog w) A (richCompare .Lt (.int a t) (.int c u)) Q E s:=
 (PyProof.Rows.lt_int h:wpAny (model prog w) A (compareOp .Lt (.int a t) (.int c u)) Q E s)
section
variable{prog:WP}{w:WU}{A:WT}{E:WM}{s:WQ}
def sIx(n d:Nat):Option Int->Nat
 |none=>d
 |some v=>if v < 0 then(v+ (n:Int)).toNat else min v.toNat n
theorem sIx_none(n d:Nat):sIx n d none=d:=rfl
theorem sIx_nat(n d k:Nat):sIx n d (some (k:Int))=min k n:=by
 show(if(k:Int) < 0 then((k:Int)+ (n:Int)).toNat else min (k:Int).toNat n)=min k n;rw[Y5 (by lia),X7]
end
end HT
namespace L2
open PySem PySem.Spec PyProof.Rows
abbrev TO:=St->Hp->(Option Int->Hp->Prop)->Prop
def PO(X:Cx)(e:Option Expr)(t:TO):Prop:=
 ∀ (pins:WO) (s:WQ) (σ:St) (H:Hp) (Q:Option Int->Hp->Prop),Jd X pins σ H s->t σ H Q->
  wpAny (model X.prog X.w) X.A (evalPart e X.env) (fun u s'=>∃o H',Jd X pins σ H' s'/\IsPart u o/\Q o H') X.xe s
def Hv:TO:=fun _ H Q=>Q none H
def Hd(t:TE):TO:=fun σ H Q=>t σ H fun x H1=>∃i,x= .int i/\Q (some i) H1
section
variable{X:Cx}{e:J7}{te:TE}{lo hi:Option Expr}{tl th:TO}{pos p2:Pos}
theorem dS:PO X none Hv:=by
 intro pins s σ H Q I h;rw[evalPart_none];exact Y2 ⟨none,H,I,.none,h⟩
theorem Iq(h:PE X e te):PO X (some e) (Hd te):=by
 intro pins s σ H Q I c;rw[evalPart_some];refine JH (h pins s σ H _ I c) fun u g ⟨x,H1,f,a,b⟩=>?_
 obtain⟨i,rfl,q⟩:=b;obtain⟨t,rfl⟩:=a;exact⟨some i,H1,f,.int i t,q⟩
def RT(X:Cx)(r:V->Option Int->Option Int->Hp->VK->Prop):Prop:=
 ∀ (pins:WO) (s:WQ) (σ:St) (H:Hp) (x:V) (v vl vu:WW) (lo hi:Option Int) (sl:WX) (Q:VK),Jd X pins σ H s->Jr x v->s.heap.IsSliceOf sl vl vu .none->IsPart vl lo->IsPart vu hi->r x lo hi H Q->
  ∃T id,typeLookup (.type T) "__getitem__"=pure (some (.builtin id))/\s.TypeIs v T/\wpAny (model X.prog X.w) X.A (getItem v (.ref sl)) (EP X pins σ Q) X.xe s
def FY(r:V->Option Int->Option Int->Hp->VK->Prop)(te:TE)(tl th:TO):TE:=fun σ H Q=>te σ H fun x H1=>tl σ H1 fun l H2=>th σ H2 fun u H3=>r x l u H3 Q
theorem QP{r:V->Option Int->Option Int->Hp->VK->Prop}(hr:RT X r)(he:PE X e te)(hl:PO X lo tl)(hu:PO X hi th):PE X (.Subscript e (.Slice lo hi none p2) pos) (FY r te tl th):=by
 intro pins s σ H Q I h;refine Subscript_ (JH (he pins s σ H _ I h) fun v j ⟨x,H1,I1,n,z⟩=>?_);refine wpAny_Slice (JH (hl pins j σ H1 _ I1 z) fun f i ⟨l,H2,I2,pl,y⟩=>JH (hu pins i σ H2 _ I2 y) fun c a ⟨u,g,I3,pu,p⟩=>?_);rw[evalPart_none];refine Y2 ?_;have I4:Jd X pins σ g {a with heap:=a.heap.push {cls:=.type "slice",data:=.fields #[f,c,.none]}}:=I3.kept (t':=a.toks) fun b ob q=>Y7 _ q
 obtain⟨T,id,hT,ht,hg⟩:=hr pins {a with heap:=a.heap.push {cls:=.type "slice",data:=.fields #[f,c,.none]}} σ g x v f c l u a.heap.objs.size Q I4 n (Heap.IsSliceOf.new ..) pl pu p;show wpAny (model X.prog X.w) X.A (subscriptTail e (.Slice lo hi none p2) v (.ref a.heap.objs.size)) (EP X pins σ Q) X.xe {a with heap:=a.heap.push {cls:=.type "slice",data:=.fields #[f,c,.none]}};exact tail_any (ops:=[.ref a.heap.objs.size,v]) ht hT hg (by with_unfolding_all rfl)
def Rp(xs:List V)(lo hi:Option Int):List V:=(xs.drop (HT.sIx xs.length 0 lo)).take (HT.sIx xs.length xs.length hi - HT.sIx xs.length 0 lo)
theorem eG(xs:List V)(lo hi:Option Int):(Rp xs lo hi).length <=xs.length:=by
 unfold Rp;rw[Yt,Vk]
 lia
end
def R3(n:Nat)(i:Int):Option Nat:=if 0 <=i then(if i < n then some i.toNat else none) else if -(n:Int) <=i then some (i+ n).toNat else none
def Du{α:Type}(xs:List α)(i:Int):Option α:=(R3 xs.length i).bind fun j=>xs[j]?
theorem Pe{n:Nat}{i:Int}{j:Nat}(h:R3 n i=some j):seqIndex? i n=some j/\j < n/\ -(n:Int) <=i/\i < n:=by
 unfold R3 at h
 by_cases h0:0 <=i
 .rw[Y6 h0]at h
  by_cases h1:i < n
  .rw[Y6 h1]at h;have e:i.toNat=j:=Option.some.inj h;exact⟨by rw[seqIndex_of h0 h1,e],by lia,by lia,h1⟩
  .rw[Y5 h1]at h;cases h
 .rw[Y5 h0]at h
  by_cases h1: -(n:Int) <=i
  .rw[Y6 h1]at h;have e:(i+ n).toNat=j:=Option.some.inj h;exact⟨by rw[seqIndex_neg (by lia) h1,e],by lia,h1,by lia⟩
  .rw[Y5 h1]at h;cases h
theorem Po{α:Type}{xs:List α}{i:Int}{v:α}(h:Du xs i=some v):∃j,seqIndex? i xs.length=some j/\xs[j]?=some v/\j < xs.length/\ -(xs.length:Int) <=i/\i < xs.length:=by
 unfold Du at h;cases e:R3 xs.length i with
 |none=>rw[e]at h;cases h
 |some j=>
  rw[e]at h;obtain⟨h1,h2,b,a⟩:=Pe e;exact⟨j,h1,h,h2,b,a⟩
theorem Be{α:Type}{xs:List α}{j:Nat}{v:α}(h:xs[j]?=some v):Du xs (j:Int)=some v:=by
 have a:j < xs.length:=(Ym.mp h).1;have e:R3 xs.length (j:Int)=some j:=by
  unfold R3;rw[Y6 (by lia),Y6 (by lia)];simp
 unfold Du;rw[e];exact h
theorem cK{α:Type}(xs:List α)(v:α):Du (xs++[v]) (-1)=some v:=by
 have a:(xs++[v]).length=xs.length+ 1:=by simp
 have e:R3 (xs++[v]).length (-1)=some xs.length:=by
  unfold R3;rw[a,Y5 (by decide),Y6 (by lia)]
  congr 1
  lia
 unfold Du;rw[e];show(xs++[v])[xs.length]?=some v;simp
def KU(b:J7):Prop:=∀o i,subscripted b false o i=operate [o,i] (getItem o i)
def GW(X:Cx)(r:R2):Prop:=
 ∀ (value slice:J7) (pins:WO) (s:WQ) (σ:St) (H:Hp) (x y:V) (v u:WW) (Q:VK),Jd X pins σ H s->Jr x v->Jr y u->r x y H Q->
  subscripted slice false v u=operate [v,u] (getItem v u)->wpAny (model X.prog X.w) X.A (subscriptTail value slice v u) (EP X pins σ Q) X.xe s
def Ck(X:Cx)(id:String)(r:V->List V->Hp->VK->Prop):Prop:=
 ∀ (pins:WO) (s:WQ) (σ:St) (H:Hp) (x:V) (xs:List V) (v:WW) (us:WZ) (Q:VK),Jd X pins σ H s->Jr x v->Ji xs us->r x xs H Q->
  wpAny (model X.prog X.w) X.A (call (.builtin id) (v::us)) (EP X pins σ Q) X.xe s
section
variable{X:Cx}{a b:J7}{ta tb:TE}{pos:Pos}
theorem Ia{r:R2}(hr:GW X r)(ha:PE X a ta)(hb:PE X b tb)(hs:KU b):PE X (.Subscript a b pos) (GN r ta tb):=by
 intro pins s σ H Q I h;exact Subscript_ (IN ha hb I h fun v u c x y H2 g f e q=>hr a b pins c σ H2 x y v u Q g f e q (hs _ _))
def Az(K:WV):R2:=fun x y H Q=>∃p xs i v,x= .ref p/\y= .int i/\Jh K H p xs/\Du xs i=some v/\Q v H
def A9(K:WV):R2:=fun x y H Q=>∃p xs i v,x= .ref p/\y= .int i/\JC K H p xs/\Du xs i=some v/\Q v H
theorem uJ:GW X (Az X.K):=by
 intro value aa pins s σ H x y v u Q I rx ry h g;obtain⟨p,xs,i,z,rfl,rfl,hq,he,q⟩:=h;cases rx;obtain⟨t,rfl⟩:=ry;obtain⟨f,r,b,hz⟩:=I.list hq;obtain⟨j,h1,h2,h3,h4,h5⟩:=Po he;obtain⟨w,n,e⟩:=r.get h2;have hl:=r.length;have hn:=BZ;have a:EP X pins σ Q w s:=⟨z,H,I,e,q⟩
 by_cases h0:0 <=i
 .have c:i.toNat=j:=by
   rw[seqIndex_of h0 h5]at h1;exact Option.some.inj h1
  exact item_listR b.isList h0 (by lia) (by rw[c];simpa using n) a g
 .have c:(i+ (f.toArray.size:Int)).toNat=j:=by
   rw[seqIndex_neg (by lia) h4]at h1;rw[Yg,<-hl];exact Option.some.inj h1
  exact subscriptTail_builtinR (x:=w) b.isList.typeIs slot_list_getitem.lookup
   (wpAny_getItem_list_neg (Q:=fun r s'=>r=w/\EP X pins σ Q r s') b.isList (by lia) (by rw[Yg] <;> lia) (by lia) (by rw[c];simpa using n) ⟨rfl,a⟩) g
theorem rP:GW X (A9 X.K):=by
 intro value e pins s σ H x y v u Q I g f h n;obtain⟨p,xs,i,z,rfl,rfl,hq,he,q⟩:=h;cases g;obtain⟨t,rfl⟩:=f;obtain⟨its,r,b,hz⟩:=I.tuple hq;obtain⟨j,h1,h2,h3,h4,h5⟩:=Po he;obtain⟨w,ew,a⟩:=r.get h2;have hl:=r.length;have hn:=BZ;have c:EP X pins σ Q w s:=⟨z,H,I,a,q⟩;exact subscriptTail_builtinR (x:=w) b.typeIs slot_tuple_getitem.lookup
  (getItem_tuple (j:=j) (Q:=fun r s'=>r=w/\EP X pins σ Q r s') b (by lia) (by lia) (by rw[Yg,<-hl];exact h1) (by simpa using ew) ⟨rfl,c⟩) n
theorem xS(its:WZ)(n j:Nat)(u:WW):Obj.mapSeq (·.setIfInBounds j u) {cls:=.type "list",data:=.seq its.toArray n}={cls:=.type "list",data:=.seq (its.set j u).toArray n}:=by
 simp[Obj.mapSeq]
theorem Jd.lst{pins:WO}{σ:St}{H:Hp}{s:WQ}{p:WX}{xs:List V}(I:Jd X pins σ H s)(h:H p=some (.lst xs)):
  ∃ (its:WZ) (n:Nat),Ji xs its/\s.heap.get? p=some {cls:=.type "list",data:=.seq its.toArray n}/\xs.length <=sizeLine:=by
 obtain⟨z,its,n,r,e⟩:=I.hok p _ h;exact⟨its,n,r,e,z⟩
theorem Jd.lstUpd{pins:WO}{σ:St}{H:Hp}{s:WQ}{p:WX}{xs ys:List V}{its its':WZ}{n n':Nat}{f:Obj->Obj}(I:Jd X pins σ H s)(h:H p=some (.lst xs))
  (ho:s.heap.get? p=some {cls:=.type "list",data:=.seq its.toArray n}) (hf:f {cls:=.type "list",data:=.seq its.toArray n}={cls:=.type "list",data:=.seq its'.toArray n'}) (r:Ji ys its') (hz:ys.length <=sizeLine) (t:Nat):
  Jd X pins σ (upd H p (.lst ys)) {s with heap:=s.heap.update p f,toks:=t}:=by
 have e:(s.heap.update p f).get? p=some {cls:=.type "list",data:=.seq its'.toArray n'}:=by
  rw[YB f ho (by rw[hf] <;> rfl),hf]
 refine I.write (x:=p) (e:=p) (by rw[h];trivial) (.inl rfl) (fun b u a q=>(Xa _ _ (Ne.symm a)).trans q) ⟨_,e⟩ ?_;exact⟨hz,its',n',r,e⟩
def Hh:V->V->V->Hp->(Hp->Prop)->Prop:=fun o i v H Q=>∃p xs k j,o= .ref p/\i= .int k/\H p=some (.lst xs)/\R3 xs.length k=some j/\Q (upd H p (.lst (xs.set j v)))
theorem Ra:GK X Hh:=by
 intro pins s σ H o i v ov iv u Q I z ri y h;obtain⟨p,xs,k,j,rfl,rfl,f,hj,q⟩:=h;cases z;obtain⟨t,rfl⟩:=ri;obtain⟨a,n,r,b,hz⟩:=I.lst f;obtain⟨h1,h2,w,g⟩:=Pe hj;have c:=r.length;have hn:=BZ;have x:Jd X pins σ (upd H p (.lst (xs.set j v))) {s with heap:=s.heap.update p (Obj.mapSeq (·.setIfInBounds j u))}:=
  I.lstUpd f b (xS a n j u) (r.set y j) (by rw[UR];exact hz) s.toks
 by_cases h0:0 <=k
 .have e:k.toNat=j:=by
   rw[seqIndex_of h0 g]at h1;exact Option.some.inj h1
  exact W.ki_setAt b h0 (by lia) (by rw[Yg,<-c];exact g) (by rw[e];exact⟨_,x,q⟩)
 .have e:(k+ (a.toArray.size:Int)).toNat=j:=by
   rw[seqIndex_neg (by lia) w]at h1;rw[Yg,<-c];exact Option.some.inj h1
  exact W.ki_setBack b (by lia) (by rw[Yg,<-c];exact w) (by lia) (by rw[e];exact⟨_,x,q⟩)
theorem xA(lo hi:Option Int)(n:Nat):(sliceBounds lo hi none n).1=((HT.sIx n 0 lo:Nat):Int)/\(sliceBounds lo hi none n).2.1=((HT.sIx n n hi:Nat):Int)/\(sliceBounds lo hi none n).2.2=1:=by
 refine⟨?_,?_,rfl⟩
 .cases lo with
  |none=>simp[sliceBounds,HT.sIx]
  |some i=>
   simp only[sliceBounds,HT.sIx,Option.getD_none,show(1:Int) > 0 by decide,if_true]
   by_cases h:i < 0
   .simp only[h,if_true] <;> lia
   .simp only[h,if_false] <;> lia
 .cases hi with
  |none=>simp[sliceBounds,HT.sIx]
  |some i=>
   simp only[sliceBounds,HT.sIx,Option.getD_none,show(1:Int) > 0 by decide,if_true]
   by_cases h:i < 0
   .simp only[h,if_true] <;> lia
   .simp only[h,if_false] <;> lia
theorem yU(its:WZ)(lo hi:Option Int):slicePick its.toArray lo hi none=((its.drop (HT.sIx its.length 0 lo)).take (HT.sIx its.length its.length hi - HT.sIx its.length 0 lo)).toArray:=by
 obtain⟨h1,h2,a⟩:=xA lo hi its.toArray.size;unfold slicePick;rw[h1,h2,a];simp only[sliceRange_one,pick_run,Yg] <;> rfl
def Fp(K:WV):V->Option Int->Option Int->Hp->VK->Prop:=fun x lo hi H Q=>∃a xs,x= .ref a/\Jh K H a xs/\∀p,H p=none->Q (.ref p) (upd H p (.lst (Rp xs lo hi)))
theorem m7:RT X (Fp X.K):=by
 intro pins s σ H x v y w lo hi z Q I f p i g h;obtain⟨a,xs,rfl,n,q⟩:=h;cases f;obtain⟨u,r,e,j⟩:=I.list n;have c:=r.length;refine⟨"list",_,slot_list_getitem.lookup,e.isList.typeIs,?_⟩;refine wpAny_getItem_list_slice e.isList p i g .none (by simp) ?_ (by rw[Yg] <;> lia);rw[yU,<-c];refine⟨.ref s.heap.objs.size,_,I.laid (t':=s.toks) (o:=.lst (Rp xs lo hi)) (fun b ob q=>Y7 _ q) (Y8 _) ?_,rfl,q _ (I.hok.fresh (Y8 _))⟩;exact⟨YF (eG xs lo hi) j,_,0,(r.drop (HT.sIx xs.length 0 lo)).take (HT.sIx xs.length xs.length hi - HT.sIx xs.length 0 lo),Yc _ rfl⟩
def Eb:V->Bool
 | .non=>true
 | .bl _=>true
 | .int _=>true
 | .str _=>true
 |_=>false
def E7:V->V->Bool
 | .non,.non=>true
 | .bl a,.bl b=>a==b
 | .bl a,.int b=>(if a then 1 else 0)==b
 | .int a,.bl b=>a==(if b then 1 else 0)
 | .int a,.int b=>a==b
 | .str a,.str b=>a==b
 |_,_=>false
theorem x6{A:WT}{s:WQ}{y x:V}{u v:WW}(ry:Jr y u)(rx:Jr x v)(fy:Eb y=true)(fx:Eb x=true):SeqAt.EqAt A s u v (E7 y x):=by
 cases y with
 |non=>
  cases ry;cases x with
  |non=>cases rx;exact SeqAt.EqAt.same _
  |bl b=>cases rx;exact SeqAt.EqAt.none_bool b
  |int b=>obtain⟨t,rfl⟩:=rx;exact SeqAt.EqAt.none_int b t
  |str b=>obtain⟨t,rfl⟩:=rx;exact SeqAt.EqAt.none_str b t
  |_=>exact absurd (show false=true from fx) Yj
 |bl a=>
  cases ry;cases x with
  |non=>cases rx;exact SeqAt.EqAt.bool_none a
  |bl b=>cases rx;exact SeqAt.EqAt.bool_bool a b
  |int b=>obtain⟨t,rfl⟩:=rx;exact SeqAt.EqAt.bool_int a b t
  |str b=>obtain⟨t,rfl⟩:=rx;exact SeqAt.EqAt.bool_str a b t
  |_=>exact absurd (show false=true from fx) Yj
 |int a=>
  obtain⟨c,rfl⟩:=ry;cases x with
  |non=>cases rx;exact SeqAt.EqAt.int_none a c
  |bl b=>cases rx;exact SeqAt.EqAt.int_bool a c b
  |int b=>obtain⟨t,rfl⟩:=rx;exact SeqAt.EqAt.int_int a c b t
  |str b=>obtain⟨t,rfl⟩:=rx;exact SeqAt.EqAt.int_str a c b t
  |_=>exact absurd (show false=true from fx) Yj
 |str a=>
  obtain⟨c,rfl⟩:=ry;cases x with
  |non=>cases rx;exact SeqAt.EqAt.str_none a c
  |bl b=>cases rx;exact SeqAt.EqAt.str_bool a c b
  |int b=>obtain⟨t,rfl⟩:=rx;exact SeqAt.EqAt.str_int a c b t
  |str b=>obtain⟨t,rfl⟩:=rx;exact SeqAt.EqAt.str_str a c b t
  |_=>exact absurd (show false=true from fx) Yj
 |_=>exact absurd (show false=true from fy) Yj
def E5(x:V)(u:WW):Bool:=match u with
 | .none=>E7 .non x
 | .bool b=>E7 (.bl b) x
 | .int i _=>E7 (.int i) x
 | .str z _=>E7 (.str z) x
 |_=>false
theorem Oc{x y:V}{u:WW}(r:Jr y u)(f:Eb y=true):E5 x u=E7 y x:=by
 cases y with
 |non=>cases r;rfl
 |bl b=>cases r;rfl
 |int i=>obtain⟨t,rfl⟩:=r;rfl
 |str z=>obtain⟨t,rfl⟩:=r;rfl
 |_=>exact absurd (show false=true from f) Yj
theorem IJ{x:V}:∀{xs:List V} {us:WZ},Ji xs us->xs.all Eb=true->us.any (E5 x)=xs.any fun y=>E7 y x
 |_,_,.nil,_=>rfl
 |y::xs,u::us,.cons r t,f=>by
  rw[WA,X5]at f;rw[XR,XR,Oc r f.1,IJ t f.2]
theorem KA{A:WT}{s:WQ}{x:V}{v:WW}(rx:Jr x v)(fx:Eb x=true):∀{xs:List V} {us:WZ},Ji xs us->xs.all Eb=true->∀u∈us,SeqAt.EqAt A s u v (E5 x u)
 |_,_,.nil,_=>fun u hu=>by cases hu
 |y::xs,u::us,.cons r t,f=>fun u' hu=>by
  rw[WA,X5]at f;rcases Yo.mp hu with rfl|hu
  .rw[Oc r f.1];exact x6 r rx f.1 fx
  .exact KA rx fx t f.2 u' hu
def Eo(x:V)(xs:List V):Bool:=xs.any fun y=>E7 y x
def Sb(K:WV)(neg:Bool):R2:=fun x y H Q=>∃p xs,y= .ref p/\(Jh K H p xs\/JC K H p xs)/\Eb x=true/\xs.all Eb=true/\Q (.bl (if neg then !Eo x xs else Eo x xs)) H
theorem jM:Nd X (compareOp .In) (Sb X.K false):=by
 intro pins s σ H x y v u Q I f i h;obtain⟨p,xs,rfl,b,g,fs,q⟩:=h;cases i;rcases b with b|b
 .obtain⟨a,r,c,j⟩:=I.list b;refine SeqAt.in_listAt (E5 x) c.isList (fun w e=>KA f g r fs w (by simpa using e)) ⟨.bl _,H,I,rfl,?_⟩;rw[show a.toArray.any (E5 x)=a.any (E5 x) by simp,IJ r fs];exact q
 .obtain⟨a,r,c,j⟩:=I.tuple b;refine SeqAt.in_tupleAt (E5 x) c (fun w e=>KA f g r fs w (by simpa using e)) ⟨.bl _,H,I,rfl,?_⟩;rw[show a.toArray.any (E5 x)=a.any (E5 x) by simp,IJ r fs];exact q
theorem vE:JA X (.builtin "len") (fun xs H Q=>∃p ys,xs=[.ref p]/\(Jh X.K H p ys\/JC X.K H p ys)/\Q (.int ys.length) H):=by
 intro pins s σ H xs j Q I r h;obtain⟨p,ys,rfl,b,q⟩:=h;obtain⟨u,rfl,g⟩:=DO r;cases g;have n:=BZ;rcases b with b|b
 .obtain⟨f,c,e,i⟩:=I.list b;have a:=c.length;exact Calls.call_len_list e.isList (by simp only[Yg] <;> lia) ⟨.int ys.length,H,I.tok _,⟨s.toks+ 1,by rw[Yg,a]⟩,q⟩
 .obtain⟨f,c,e,i⟩:=I.tuple b;have a:=c.length;exact len_tuple e (by simp only[Yg] <;> lia) ⟨.int ys.length,H,I.tok _,⟨s.toks+ 1,by rw[Yg,a]⟩,q⟩
theorem yY:JA X (.builtin "len") (fun xs H Q=>∃z,xs=[.str z]/\z.length <=sizeLine/\Q (.int z.length) H):=by
 intro pins s σ H xs a Q I r h;obtain⟨z,rfl,b,q⟩:=h;obtain⟨u,rfl,t,rfl⟩:=DO r;have c:=BZ;exact len_str (by lia) ⟨.int z.length,H,I.tok _,⟨_,rfl⟩,q⟩
theorem yZ:JA X (.type "list") (fun xs H Q=>∃p ys,xs=[.ref p]/\(Jh X.K H p ys\/JC X.K H p ys)/\∀l,H l=none->Q (.ref l) (upd H l (.lst ys))):=by
 intro pins s σ H xs us Q I r h;obtain⟨p,ys,rfl,i,q⟩:=h;obtain⟨u,rfl,rx⟩:=DO r;cases rx;have j:∀ (a:WZ),Ji ys a->ys.length <=sizeLine->∀ (h':J6) (f:Nat),(∀b o',s.heap.get? b=some o'->h'.get? b=some o')->
   h'.get? s.heap.objs.size=some {cls:=.type "list",dict:=none,data:=.seq a.toArray f,slots:=#[]}->EP X pins σ Q (.ref s.heap.objs.size) {s with heap:=h'}:=fun a c g h' f kp e=>
  ⟨.ref s.heap.objs.size,_,I.laid (t':=s.toks) kp (Y8 _) (show Jy X.prog X.w _ h' _ (.lst ys) from⟨g,a,f,c,e⟩),rfl,q _ (I.hok.fresh (Y8 _))⟩
 rcases i with i|i
 .obtain⟨a,c,x,g⟩:=I.list i;have z:=c.length;obtain⟨o,y,hc,n,hd⟩:=x.isList;exact call_list_seq p (.inl rfl) y hc hd (fun h' f kp e=>j a c g h' f kp e) (by simp only[Yg] <;> lia)
 .obtain⟨a,c,x,g⟩:=I.tuple i;have z:=c.length;obtain⟨o,y,hc,n,hd⟩:=x;exact call_list_seq p (.inr rfl) y hc hd (fun h' f kp e=>j a c g h' f kp e) (by simp only[Yg] <;> lia)
def BI(K:WV)(T:String)(x:V)(H:Hp):Prop:=match x with
 | .str _=>T="str"
 | .int _=>T="int"
 | .ref p=>(T="list"/\∃xs,Jh K H p xs)\/(T="tuple"/\∃o,K.lookup p=some o/\o.cls= .type "tuple"/\o.dict=none)\/
   (T="dict"/\((∃kvs,H p=some (.dK kvs))\/∃kvs,H p=some (.dT kvs)))\/(T="set"/\∃S n,H p=some (.set S n))
 |_=>False
theorem Pn{pins:WO}{σ:St}{H:Hp}{s:WQ}{T:String}{x:V}{v:WW}(I:Jd X pins σ H s)(r:Jr x v)(ty:BI X.K T x H):
  s.TypeIs v T/\∀a,v= .ref a->∃ob,s.heap.get? a=some ob/\ob.dict=none:=by
 cases x with
 |str z=>
  obtain⟨t,rfl⟩:=r;cases (show T="str" from ty);exact⟨typeIs_str s z t,fun _ e=>nomatch e⟩
 |int i=>
  obtain⟨t,rfl⟩:=r;cases (show T="int" from ty);exact⟨typeIs_int s i t,fun _ e=>nomatch e⟩
 |ref p=>
  cases r;rcases ty with⟨rfl,xs,hq⟩|⟨rfl,o,hk,hc,hd⟩|⟨rfl,hk⟩|⟨rfl,S,n,hk⟩
  .obtain⟨g,_,f,_⟩:=I.list hq;refine⟨f.isList.typeIs,fun a e=>?_⟩;cases e;obtain⟨o,n,e,c,hd,_⟩:=f;exact⟨o,e,hd⟩
  .refine⟨⟨o,I.kIn p o hk,hc⟩,fun a e=>?_⟩;cases e;exact⟨o,I.kIn _ o hk,hd⟩
  .have z:∃o,s.heap.get? p=some o/\o.ExactDict:=by
    rcases hk with⟨kvs,hk⟩|⟨kvs,hk⟩
    .obtain⟨_,_,_,_,o,_,_,e,ex,_⟩:=I.hok p _ hk;exact⟨o,e,ex⟩
    .obtain⟨_,_,_,_,o,_,_,e,ex,_⟩:=I.hok p _ hk;exact⟨o,e,ex⟩
   obtain⟨o,e,ex⟩:=z;refine⟨⟨o,e,ex.1⟩,fun a b=>?_⟩;cases b;exact⟨o,e,ex.2.1⟩
  .obtain⟨o,_,_,_,e,ex,_⟩:=I.hok p _ hk;refine⟨⟨o,e,ex.1⟩,fun a b=>?_⟩;cases b;exact⟨o,e,ex.2.1⟩
 |_=>exact False.elim ty
def AU(K:WV)(T:String)(r:V->List V->Hp->VK->Prop)(to:TE):TE:=fun σ H Q=>to σ H fun x H1=>BI K T x H1/\r x [] H1 Q
def F8(K:WV)(T:String)(r:V->List V->Hp->VK->Prop)(to:TE)(t:TA):TE:=fun σ H Q=>to σ H fun x H1=>BI K T x H1/\t σ H1 fun xs H2=>r x xs H2 Q
variable{o e:J7}{es:List Expr}{to:TE}{t:TA}{name:Str}{apos cpos:Pos}{T id:String}{r:V->List V->Hp->VK->Prop}
theorem eB(pa:PlainAttrs T)(slot:Slot T name id)(hty:typeOf (.builtin id)=pure (.type "method_descriptor"))(hm:Ck X id r)(ho:PE X o to)
  (hbase:attributeBase o name X.env (eval o X.env)=eval o X.env:=by rfl) (hline:(apos.endLine==cpos.line)=true:=by rfl):PE X (.Call (.Attribute o name apos) [] [] cpos) (AU X.K T r to):=by
 intro pins s σ H Q I h;refine wpAny_Call_method0_late hbase hline (JH (ho pins s σ H _ I h) fun v c ⟨x,H1,b,a,ty,e⟩=>?_);obtain⟨h1,h2⟩:=Pn b a ty;exact⟨T,id,pa,slot,hty,h1,h2,Calls.callWith_builtin rfl (PySem.evalArgs_none (hm pins c σ H1 x [] v [] Q b a .nil e))⟩
theorem gS(pa:PlainAttrs T)(slot:Slot T name id)(hty:typeOf (.builtin id)=pure (.type "method_descriptor"))(hm:Ck X id r)(ho:PE X o to)(ha:PA X (e::es) t)
  (hbase:attributeBase o name X.env (eval o X.env)=eval o X.env:=by rfl)
  (hfew : ((backTo cpos (starEach (e :: es) X.env)).all (fun x => !x.1) && (backToKw cpos (keywordEach [] X.env)).all (fun x => x.1.isSome)
   && decide ((e :: es).length + ([] : List Keyword).length + (if ([] : List Keyword).isEmpty then 0 else 1) < 30)) = true := by rfl)
  (hline:(apos.endLine==cpos.line)=true:=by rfl) (hs:starEach (e::es) X.env=(false,eval e X.env)::starEach es X.env:=by rfl) (hplain:(backTo cpos (starEach es X.env)).any (·.1)=false:=by rfl):
  PE X (.Call (.Attribute o name apos) (e::es) [] cpos) (F8 X.K T r to t):=by
 intro pins s σ H Q I h;refine wpAny_Call_method_late hbase hfew hline rfl (JH (ho pins s σ H _ I h) fun v i ⟨x,H1,c,a,ty,p⟩=>?_);obtain⟨h1,h2⟩:=Pn c a ty;refine⟨T,id,pa,slot,hty,h1,h2,?_⟩;have b:=ha cpos pins i σ H1 _ c p;rw[hs]at b ⊢;refine Calls.callWith_builtin (by show(false||(backTo cpos (starEach es X.env)).any (·.1))=false;rw[hplain] <;> rfl) (Calls.evalArgs_plain ?_);exact JH b fun f g ⟨vs,H2,q,j,n⟩=>hm pins g σ H2 x vs v f Q q a j n
end
def Dy(X:Cx)(id:String)(r:V->List V->Hp->VK->Prop):Prop:=
 ∀ (pins:WO) (s:WQ) (σ:St) (H:Hp) (x:V) (xs:List V) (v:WW) (us:WZ) (Q:VK),Jd X pins σ H s->Jr x v->Ji xs us->r x xs H Q->
  wpAny (model X.prog X.w) X.A (call (.builtin id) (v::us)) (EP X pins σ Q) X.xe s
theorem Ji.one:∀{x:V} {us:WZ},Ji [x] us->∃u,us=[u]/\Jr x u
 |_,_,.cons r .nil=>⟨_,rfl,r⟩
theorem Ji.zero:∀{us:WZ},Ji [] us->us=[]
 |_,.nil=>rfl
theorem Ji.dropLast{xs:List V}{us:WZ}(h:Ji xs us):Ji xs.dropLast us.dropLast:=by
 induction h with
 |nil=>exact .nil
 |cons r t ih=>
  cases t with
  |nil=>exact .nil
  |cons q t'=>exact .cons r ih
theorem xD{α:Type}(l:List α):l.eraseIdx (l.length - 1)=l.dropLast:=by
 induction l with
 |nil=>rfl
 |cons a r ih=>
  cases r with
  |nil=>rfl
  |cons b r=>
   have e:(a::b::r).length - 1=((b::r).length - 1)+ 1:=by
    have h1:(a::b::r).length=r.length+ 2:=rfl;have h2:(b::r).length=r.length+ 1:=rfl
    lia
   rw[e,List.eraseIdx_cons_succ,ih]
   all_goals rfl
section
variable{X:Cx}{pins:WO}{σ:St}{H:Hp}{s:WQ}{l b:WX}{xs ys zs:List V}
theorem Jd.lset{its its':WZ}{n:Nat}{f:Array Value->Array Value}{t':Nat}(I:Jd X pins σ H s)(hH:H l=some (.lst xs))
  (e:s.heap.get? l=some {cls:=.type "list",data:=.seq its.toArray n}) (hf:f its.toArray=its'.toArray) (hv:Ji ys its') (hz:ys.length <=sizeLine):
  Jd X pins σ (upd H l (.lst ys)) {s with heap:=s.heap.update l (Obj.mapSeq f),toks:=t'}:=by
 have q:=PySem.IsL.update e f;rw[hf]at q;refine I.write (x:=l) (e:=l) (by rw[hH];exact trivial) (.inl rfl) (fun c u b a=>(Xa s.heap (Obj.mapSeq f) (Ne.symm b)).trans a) ⟨_,q⟩ ?_;exact⟨hz,its',_,hv,q⟩
theorem Jd.lnew{its:WZ}{t':Nat}(I:Jd X pins σ H s)(hv:Ji ys its)(hz:ys.length <=sizeLine):
  Jd X pins σ (upd H s.heap.objs.size (.lst ys)) {s with heap:=s.heap.push {cls:=.type "list",data:=.seq its.toArray},toks:=t'}:=
 I.laid (fun _ _ q=>Y7 _ q) (Y8 _) ⟨hz,its,0,hv,Yc _ rfl⟩
theorem Jd.fresh(I:Jd X pins σ H s):H s.heap.objs.size=none:=I.hok.fresh (Y8 _)
theorem Jd.lstM(I:Jd X pins σ H s)(hH:H l=some (.lst xs)):xs.length <=sizeLine/\∃ (its:WZ) (n:Nat),Ji xs its/\xs.length=its.length/\s.heap.get? l=some {cls:=.type "list",data:=.seq its.toArray n}:=by
 obtain⟨z,its,n,r,e⟩:=I.hok l _ hH;exact⟨z,its,n,r,r.length,e⟩
theorem uY{n:Nat}(h:n <=sizeLine):Builtin.List.listTooLong n=false:=by
 unfold Builtin.List.listTooLong;exact Yk (by lia)
end
section
variable{X:Cx}
def Lw:V->List V->Hp->VK->Prop:=fun x vs H Q=>∃l xs y,x= .ref l/\vs=[y]/\H l=some (.lst xs)/\xs.length < sizeLine/\Q .non (upd H l (.lst (xs++[y])))
theorem GC:Dy X "list.append" Lw:=by
 intro pins s σ H x vs v g Q I c f h;obtain⟨l,xs,y,rfl,rfl,b,i,q⟩:=h;cases c;obtain⟨u,rfl,ru⟩:=f.one;obtain⟨z,a,n,r,j,e⟩:=I.lstM b;refine Ww F.slot_list_append ⟨_,e,rfl⟩ F.entry_list_append (F.args_list_append_2 _ _) (PySem.list_append l a.toArray n u (by rw[Yg];lia)) ⟨e,?_⟩;refine⟨.non,_,I.lset (its':=a++[u]) b e (by simp) (r.append (.cons ru .nil)) ?_,rfl,q⟩;rw[Yl,UB]
 lia
def Hq:V->List V->Hp->VK->Prop:=fun x vs H Q=>∃l b xs zs,x= .ref l/\vs=[.ref b]/\H l=some (.lst xs)/\H b=some (.lst zs)/\xs.length+ zs.length <=sizeLine/\Q .non (upd H l (.lst (xs++zs)))
theorem Gz:Dy X "list.extend" Hq:=by
 intro pins s σ H x vs v us Q I i j h;obtain⟨l,b,xs,zs,rfl,rfl,g,y,hz,q⟩:=h;cases i;obtain⟨u,rfl,ru⟩:=j.one;cases ru;obtain⟨z,its,n,r,hl,e⟩:=I.lstM g;obtain⟨z2,a,w,p,hl2,e2⟩:=I.lstM y;have f:its.toArray.size+ a.toArray.size <=sizeLine:=by rw[Yg,Yg];lia
 have c:¬(!its.toArray.isEmpty && Builtin.List.listTooLong (its.toArray.size+ a.toArray.size))=true:=by
  rw[uY f,Bool.and_false];exact Yj
 refine Ww F.slot_list_extend ⟨_,e,rfl⟩ F.entry_list_extend (F.args_list_extend_2 _ _)
  (AutoSeq1.list_extend_list_list_0 l its.toArray n b a.toArray w c (by rw[Yg];lia) (by lia)) ⟨e,e2,?_⟩
 refine⟨.non,_,I.lset (its':=its++a) g e (by simp) (r.append p) ?_,rfl,q⟩;rw[Yl]
 lia
def rK:V->List V->Hp->VK->Prop:=fun x vs H Q=>∃l xs y,x= .ref l/\vs=[]/\H l=some (.lst xs)/\xs[xs.length - 1]?=some y/\Q y (upd H l (.lst xs.dropLast))
theorem EO:Dy X "list.pop" rK:=by
 intro pins s σ H x vs v us Q I g i h;obtain⟨l,xs,y,rfl,rfl,f,j,q⟩:=h;cases g;have c:=i.zero;subst c;obtain⟨z,a,n,r,w,e⟩:=I.lstM f;obtain⟨u,p,ru⟩:=r.get j;have b:a.toArray[a.toArray.size - 1]?=some u:=by
  show a.toArray[a.length - 1]?=some u;rw[<-Array.getElem?_toList,<-w];exact p
 refine Ww F.slot_list_pop ⟨_,e,rfl⟩ F.entry_list_pop (F.args_list_pop_1 _) (MeetsSeq.list_pop_last l a.toArray n u b (by rw[Yg];lia)) ⟨e,?_⟩;refine⟨y,_,I.lset (its':=a.dropLast) f e ?_ r.dropLast ?_,ru,q⟩
 .show a.toArray.eraseIdxIfInBounds (a.toArray.size - 1)=a.dropLast.toArray;rw[Yg,List.eraseIdxIfInBounds_toArray,xD]
 .rw[UI]
  lia
def O0:R2:=fun x y H Q=>∃l b xs zs,x= .ref l/\y= .ref b/\H l=some (.lst xs)/\H b=some (.lst zs)/\xs.length+ zs.length <=sizeLine/\∀p,H p=none->Q (.ref p) (upd H p (.lst (xs++zs)))
theorem EG:Nd X (binaryOp .Add) O0:=by
 intro pins s σ H x y v u Q I g f h;obtain⟨l,b,xs,zs,rfl,rfl,j,p,hz,q⟩:=h;cases g;cases f;obtain⟨z,c,n,r,hl,e⟩:=I.lstM j;obtain⟨z2,a,n2,i,hl2,e2⟩:=I.lstM p;refine PySem.P.add_list e e2 ?_ (by rw[Yg,Yg];lia);have w:c.toArray++a.toArray=(c++a).toArray:=by simp
 rw[w];exact⟨.ref _,_,I.lnew (t':=s.toks) (r.append i) (by rw[Yl];lia),rfl,q _ I.fresh⟩
end
end L2
namespace Att
open PySem PySem.W PySem.Calls PyProof.Rows
theorem mW{P:Params}{h:J6}:∀ (ns:WY) (vs:WZ),WellAll P h vs (ns.map WData.int)->IntsAre vs ns:=by
 intro ns
 induction ns with
 |nil=>
  intro vs w;rw[List.map_nil]at w;cases w;exact .nil
 |cons n ns ih=>
  intro vs w;rw[List.map_cons]at w;cases w with
  |cons a b=>
   cases a;exact .cons _ _ (ih _ b)
theorem wQ{l:OpenLaw}{n:Nat}(hn:l.most=some n){P:Params}{h:J6}{args:List WData}{vals:WZ}
  (hpre:l.row.toRowW.claim.pre args=true) (hwl:WellAll P h vals args):
  ∃a vs ns,vals=[Value.ref a]/\args=[WData.list (ns.map WData.int)]/\h.get? a=some {cls:=.type "list",data:=.seq vs.toArray}/\IntsAre vs ns/\ns.length <=n:=by
 have f:WShape.hasAll [] args [.list .int]=true:=(pre_splitW hpre).1;have g:l.pre.holds [] {args:=args}=true:=(pre_splitW hpre).2;obtain⟨d,r,rfl,h1,h2⟩:=hasAllW_cons f;obtain rfl:=hasAllW_nil h2;obtain⟨xs,rfl,j⟩:=hasW_list h1;obtain⟨ns,rfl⟩:=items_int j;have e:ns.length <=n:=by
  unfold OpenLaw.pre at g;have c:(WTm.not (.lt (.lit (.int (n:Int))) (.len (.arg 0)))).holds [] {args:=[.list (ns.map .int)]}=true:=by
   have c:=(holds_andW g).1;rw[hn]at c;exact c
  have b:=condW_of c (w_not (w_lt w_lit (w_len_list (w_arg rfl))));rw[Y1]at b;refine Nat.le_of_not_lt fun q=>?_
  have i:(n:Int) < ((ns.length:Nat):Int):=by lia
  first
   |(rw[Yh i]at b;exact absurd b (by decide))
   |(simp at b;lia)
 cases hwl with
 |cons w1 w2=>
  cases w2;cases w1 with
  |list ho hall=>exact⟨_,_,ns,rfl,rfl,ho,mW ns _ hall,e⟩
theorem eY(l:OpenLaw)(args:List WData):l.row.toRowW.claim.post args (.bool true) args=true:=
 postW_of (r:=l.row.toRowW) (X:=(true==true))
  (show WShape.has [] (.bool true) .bool=true by first|rfl|decide|simp[WShape.has,WShape.arms,WShape.armsAll])
  (show(WTm.eq .res (.lit (.bool true))).value [] {args:=args,res:=some (.bool true),after:=args}=some (.bool (true==true)) from w_eq_bool (w_res rfl) w_lit) rfl
theorem attach_call{l:OpenLaw}{n:Nat}{q:WP}{loose:List Str}{XP:(Str->Option Value)->Heap->Prop}{YP:World->Heap->Prop}{d:DefRec}
  (hn:l.most=some n) (hdf:d.params.defaults=[])
  (call : ∀ (w : World) (s₀ s₁ : Shared) (mg mb : Str -> Option Value) (fa : Addr) (o : Obj) (pm cd doc : Value) (a : Addr) (vs : List Value) (ns : List Int),
   Ground q loose [] XP w s₀ mg mb s₁.heap->YP w s₁.heap->
   s₁.heap.get? fa=some o->o.data= .func (docDef d.name d.params d.body d.scope pm cd doc)->s₁.heap.CodeRec cd d.name->mg d.name=some (.ref fa)->
   s₁.heap.get? a=some {cls:=.type "list",data:=.seq vs.toArray}->IntsAre vs ns->ns.length <=n->s₁.gens=#[]->
   codeAny (model l.prog w) callerA (.call (.ref fa) ⟨[.ref a], []⟩) (fun r s' => r = .ok (.ret (.bool true)) /\ OldK s₁.heap s'.heap /\ s'.os = s₁.os /\ AllBare s'.gens) s₁) :
  WalkO q loose XP YP l.row.toRowW d [] (fun f vs=>PySem.call f vs):=by
 intro w s₀ s₁ mg mb G Y fa o pm cd doc dV kV x hd j p i hg args s as c z hrd h hlo;obtain rfl:dV= .none:=Dflts.none p hdf;obtain rfl:kV= .none:=Dflts.noKw p;obtain⟨a,vs,ns,rfl,rfl,e,b,g⟩:=wQ hn c h;refine enter_call (Ui (call w s₀ s₁ mg mb fa o pm cd doc a vs ns G Y x (fd_plain hd) j i e b g hg) fun r s' u=>?_);obtain⟨rfl,h2,h3,h4⟩:=u;exact⟨.inl ⟨.bool true,.bool true,[],rfl,fun _=>rfl,.bool true,eY l _,fun _=>⟨List.Pairwise.nil,fun _ y=>(nomatch y)⟩⟩,h2,h3,h4⟩
section
variable{prog:WP}{w:WU}{A:WT}{E:WM}{s:WQ}{K:Frag}
def KQ(h:J6)(L d:WX):List (Addr×Obj):=(List.range h.objs.size).filterMap fun a=>if a=L\/a=d then none else(h.get? a).map fun o=>(a,o)
end
end Att
namespace L2
open PySem PySem.Spec PyProof.Rows
theorem Pl:∀{vs:WZ} {ns:WY},IntsAre vs ns->Ji (ns.map V.int) vs
 |_,_,.nil=>.nil
 |_,_,.cons n t h=>.cons ⟨t,rfl⟩ (Pl h)
def IF(H:Hp):Prop:=∀b,H b=none\/∃o xs,H b=some (.frz o (.lst xs))
theorem wE{P:WP}{w:WU}{K:WV}{mg mb:WL}{CX:GU}{k:Nat}{fa a:WX}{fd:WR}{x:Str}{sp:Sp}{s₁:WQ}{vs:WZ}{ns:WY}
  (KX:K.In s₁.heap) (hns:s₁.heap.Ns mainGlobals mg) (hb:s₁.heap.Ns builtinsNs mb) (hbb:∀x:Str,x≠"__name__"->mb x=bootBuiltins x) (hlim:s₁.heap.NoLimit) (hg:s₁.gens=#[])
  (ha:s₁.heap.get? a=some {cls:=.type "list",data:=.seq vs.toArray}) (hi:IntsAre vs ns) (hl:ns.length <=sizeLine) (hr:Room k callerA)
  (F:∀base:Heap,K.In base->base.Ns mainGlobals mg->Jj P w K mg base CX k fa fd [x] sp) (hbind:∀ (s:WQ) (u:WW),BindsTo s fd ⟨[u],[]⟩ [(x,u)])
  (hsp:∀H:Hp,IF H->Jh K H a (ns.map V.int)->sp [.ref a] H (fun v _=>v= .bl true) fun _ _ _=>False)
  (hCX:∀H e s',CX [] H s₁ (fun _ _ _=>False) e s'->False):
  codeAny (model P w) callerA (.call (.ref fa) ⟨[.ref a],[]⟩) (fun r s'=>r= .ok (.ret (.bool true))/\OldK s₁.heap s'.heap/\s'.os=s₁.os/\AllBare s'.gens) s₁:=by
 have rv:=Pl hi;have y:=hi.length
 -- from an abstract heap in which nothing but the script may be tracked
 have i:∀H:Hp,IF H->Jh K H a (ns.map V.int)->TM P w H s₁.heap->(∀b,H b≠none->b=a)->(H a≠none->K.lookup a=none)->
   codeAny (model P w) callerA (.call (.ref fa) ⟨[.ref a],[]⟩) (fun r s'=>r= .ok (.ret (.bool true))/\OldK s₁.heap s'.heap/\s'.os=s₁.os/\AllBare s'.gens) s₁:=by
  intro H hO hS j hA hK;have c:∀{b:WX} {o:Obj},s₁.heap.get? b=some o->H b=none->(RU s₁.heap H).get? b=some o:=fun e n=>wK e n
  have noA:∀{b:WX} {o:Obj} {es:Array DictEntry} {ep:Nat},s₁.heap.get? b=some o->o.data= .dict es ep->H b=none:=fun {b o es ep} e d=>by
   cases q:H b with
   |none=>rfl
   |some u=>
    have e':b=a:=hA b (by rw[q];simp);subst e';rw[ha]at e;cases e;have d':Data.seq vs.toArray _=Data.dict es ep:=d;cases d'
  have f:∀{b:WX} {m:WL},s₁.heap.Ns b m->(RU s₁.heap H).Ns b m:=fun {b m} ⟨o,es,ep,e,d,r⟩=>⟨o,es,ep,c e (noA e d),d,r⟩
  have p : K.In (RU s₁.heap H) := fun b o e => c (KX b o e) (by
   cases q:H b with
   |none=>rfl
   |some u=>
    have e' : b = a := hA b (by rw [q]; simp);subst e';rw [hK (by rw [q]; simp)] at e; cases e)
  have hM:Mod K mg (RU s₁.heap H):=⟨p,f hns,⟨mb,f hb,hbb⟩,let ⟨mc,h1,h2⟩:=hlim;⟨mc,f h1,h2⟩⟩;have e0:Gg P w K mg (RU s₁.heap H) callerA [] s₁ H:=⟨rfl,hM,fun b o e=>w4 e,WF (ZL _ _),trivial,fun b hb=>absurd (show b∈([]:List Addr) from hb) (by simp),j,.of_eq hg⟩;refine Ui ((F _ p (f hns)).run callerA [] s₁ H ⟨[.ref a],[]⟩ [.ref a] [.ref a] _ _ hr e0 (hbind s₁ (.ref a)) (.cons rfl .nil) (hsp H hO hS)) fun r s' h=>?_
  cases r with
  |error e=>exact(hCX H e s' h).elim
  |ok fl=>
   cases fl with
   |next=>exact False.elim h
   |brk=>exact False.elim h
   |cont=>exact False.elim h
   |ret u=>
    obtain⟨v,H',os,bare,un,aa,r',q⟩:=h;have q':v= .bl true:=q;subst q';obtain rfl:u=Value.bool true:=r';refine⟨rfl,OldK.of_keep fun b o e=>?_,os,bare⟩;cases q:H b with
    |none=>exact un.keep b o e q (by intro z;exact absurd (show b∈([]:List Addr) from z) (by simp)) (by simp)
    |some u=>
     rcases hO b with z|⟨ob,xs,z⟩
     .rw[q]at z;cases z
     .have z2:=un.frzs b ob _ z;obtain⟨e1,_⟩:=j b _ z;obtain⟨e2,_⟩:=aa b _ z2;rw[e]at e1;cases e1;exact e2
 cases hk:K.lookup a with
 |some o=>
  -- the script is one of the module's own objects
  have e:=KX a o hk;rw[ha]at e;cases e;refine i (fun _=>none) (fun _=>.inl rfl) (.inr ⟨_,vs.toArray,_,hk,rfl,rfl,rfl,by rw[Yg,y];exact hl,by simpa using rv⟩) (fun b u z=>by have g:(none:Option HO)=some u:=z;cases g) (fun b z=>absurd rfl z) fun z=>absurd rfl z
 |none=>
  refine i (fun b=>if b=a then some (.frz {cls:=.type "list",data:=.seq vs.toArray} (.lst (ns.map V.int))) else none) (fun b=>?_) (.inl (.inr ⟨{cls:=.type "list",data:=.seq vs.toArray},Y6 rfl⟩)) (fun b u z=>?_) (fun b z=>?_) fun _=>hk
  .by_cases hb:b=a
   .exact .inr ⟨_,_,Y6 hb⟩
   .exact .inl (Y5 hb)
  .by_cases hb:b=a
   .have g:=(Y6 hb).symm.trans z;cases g;subst hb;exact⟨ha,by rw[Y1];exact hl,vs,_,rv,ha⟩
   .have g:=(Y5 hb).symm.trans z;cases g
  .by_cases hb:b=a
   .exact hb
   .exact absurd (Y5 hb) z
theorem C5{l:W.OpenLaw}{n k:Nat}{q:WP}{loose:List Str}{XP:(Str->Option Value)->Heap->Prop}{YP:World->Heap->Prop}{d:DefRec}{K:Params->W.Frag}{CX:World->GU}{sp:World->Sp}{x:Str}
  (hn:l.most=some n) (hn2:n <=sizeLine) (hdf:d.params.defaults=[]) (hr:Room k callerA)
  (hY:∀ (w:WU) (h:J6),YP w h->(K w.params).In h)
  (F : ∀ (w : World) (mg : Str -> Option Value) (fa : Addr) (h : Heap), (K w.params).In h -> h.Ns mainGlobals mg -> mg d.name = some (.ref fa) ->
   ∃fd:FuncData,(∀ (s:WQ) (u:WW),BindsTo s fd ⟨[u],[]⟩ [(x,u)])/\
    ∀ base : Heap, (K w.params).In base -> base.Ns mainGlobals mg -> Jj l.prog w (K w.params) mg base (CX w) k fa fd [x] (sp w))
  (hsp:∀ (w:WU) (H:Hp) (a:WX) (ns:WY),ns.length <=n->IF H->Jh (K w.params) H a (ns.map V.int)->sp w [.ref a] H (fun v _=>v= .bl true) fun _ _ _=>False)
  (hCX:∀ (w:WU) (H:Hp) (s:WQ) (e:WW) (s':WQ),CX w [] H s (fun _ _ _=>False) e s'->False):
  W.WalkO q loose XP YP l.row.toRowW d [] (fun f vs=>PySem.call f vs):=by
 refine Att.attach_call hn hdf fun w s₀ y mg mb fa o pm cd doc a vs ns G Y ho hd hcd p j i c z=>?_
 have r:=hY w _ Y;obtain⟨fd,hb,hF⟩:=F w mg fa _ r G.T.g p;exact wE r G.T.g G.T.b G.T.builtins G.T.nolimit z j i (YF c hn2) hr hF hb (fun H hO hS=>hsp w H a ns c hO hS) fun H e s'=>hCX w H y e s'
def M8(s:Stmt)(j:Nat):Stmt:=match s with
 | .ClassDef _ _ _ body _ _ _ _ _ _ _=>body.getD j (.Pass ⟨0,0,0,0⟩)
 |_=>.Pass ⟨0,0,0,0⟩
def Dl(s:Stmt):Arguments:=match s with
 | .FunctionDef _ a _ _ _ _ _ _ _ _=>a
 |_=>{posonlyargs:=[],args:=[],vararg:=none,kwonlyargs:=[],kw_defaults:=[],kwarg:=none,defaults:=[]}
def Jv(s:Stmt):List Stmt:=match s with
 | .FunctionDef _ _ b _ _ _ _ _ _ _=>b
 |_=>[]
def J8(s:Stmt):Scope:=match s with
 | .FunctionDef _ _ _ _ _ _ sc _ _ _=>sc
 |_=>{kind:=.function,names:=[],isGenerator:=false,isCoroutine:=false}
abbrev JZ:GU:=fun _ _ _ _ _ _=>False
abbrev E0:XK:=fun _ _ _=>False
theorem Cm{X:Cx}:Fd JZ X E0:=fun _ _ _ _ _ _ _ h=>h.elim
structure Nx(K:WV)(x qual:Str)(st:Stmt)(f:WX)(fd:WR):Prop where
 ex:∃ (oc:WW) (od:Option Addr) (kV doc pm:WW) (an:Option Addr) (cdv ct:WW) (osl:Array (Option Value)),
  fd=W.fnOf x qual (Dl st) (Jv st) (J8 st) .none kV doc pm an cdv ct/\K.lookup f=some ⟨oc,od,.func fd,osl⟩/\W.codeIn K cdv qual=true
 kp:W.keepIn K (.ref f)=true
section
variable{P:WP}{w:WU}{K:WV}{mg:WL}{base:J6}
theorem Nx.ok{x qual:Str}{st:Stmt}{f:WX}{fd:WR}{N ps:List Str}{k:Nat}{sp:Sp}(F:Nx K x qual st f fd)(S:Nm N ps (J8 st))(len:∀vs H Q E,sp vs H Q E->vs.length=ps.length)
  (hbody : ∀ (cdv : Value) (A : Around) (outer : List Env) (s : Shared) (H : Hp) (vs : List V) (Q : VK) (E : XK), Room k (A.deeper (envOfC qual (J8 st) s.heap.objs.size f cdv)) -> sp vs H Q E ->
   ∃ t, D7 (Mx JZ P w K mg base N qual (J8 st) f cdv A outer s H E).nox (Jv st) t /\ t { nx := fun _ H' => Q .non H', rt := Q } (start N vs) H) : Jj P w K mg base JZ (k + 1) f fd ps sp := by
 obtain⟨p,n,kV,i,j,r,cdv,ct,g,rfl,c,b⟩:=F.ex;refine EI c b S len fun A outer s H vs Q E e a=>?_
 obtain⟨t,h,q⟩:=hbody cdv A outer s H vs Q E e a;exact⟨t,h.nox,q⟩
theorem Nx.binds{x qual:Str}{st:Stmt}{f:WX}{fd:WR}{ps:List Str}(F:Nx K x qual st f fd)
  (h:∀ (kV doc pm:WW) (an:Option Addr) (cdv ct:WW) (us:WZ),us.length=ps.length->bindArgs (W.fnOf x qual (Dl st) (Jv st) (J8 st) .none kV doc pm an cdv ct) ⟨us,[]⟩=pure (ps.zip us)):TJ K fd ps []:=by
 obtain⟨e,c,kV,doc,pm,an,cdv,ct,a,rfl,g,b⟩:=F.ex;exact .all (h kV doc pm an cdv ct)
theorem K2{x qual:Str}{st:Stmt}{f:WX}{oc:WW}{od an:Option Addr}{osl:Array (Option Value)}{kV doc pm cdv ct:WW}(l:K.lookup f=some ⟨oc,od,.func (W.fnOf x qual (Dl st) (Jv st) (J8 st) .none kV doc pm an cdv ct),osl⟩)
  (c:W.codeIn K cdv qual=true) (k:W.keepIn K (.ref f)=true):Nx K x qual st f (W.fnOf x qual (Dl st) (Jv st) (J8 st) .none kV doc pm an cdv ct):=⟨⟨oc,od,kV,doc,pm,an,cdv,ct,osl,rfl,l,c⟩,k⟩
end
theorem DL{A:WT}{k:Nat}(hr:Room k A):A.units+ 1 < cLine:=Yi (Nat.add_le_add_left (by decide:1 <=64) _) hr.units
section
variable{X:Cx}
theorem pv(i:Nat){x:Str}{pos:Pos}(hN:X.N[i]?=some x:=by rfl)(hv:AK X.env.scope x:=by first|exact Or.inl rfl|exact Or.inr (Or.inl rfl)|exact Or.inr (Or.inr rfl))(hd:(x==("__debug__":Str))=false:=by decide)
  (hcd:(x==("__classdict__":Str))=false:=by decide):PE X (.Name x pos) (As i):=nV hN hv hd hcd
end
theorem Mp{c A B:Prop}[Decidable c](h1:c->A)(h2:¬c->B):if c then A else B:=by
 by_cases h:c
 .rw[Y6 h];exact h1 h
 .rw[Y5 h];exact h2 h
def Jb(H H':Hp):Prop:=∀b o,H b=some o->H' b=some o
theorem Jb.refl(H:Hp):Jb H H:=fun _ _ h=>h
theorem Jb.trans{H H1 H2:Hp}(a:Jb H H1)(b:Jb H1 H2):Jb H H2:=fun c o h=>b c o (a c o h)
theorem Jb.free{H H':Hp}(e:Jb H H'){l:WX}(h:H' l=Option.none):H l=Option.none:=by
 cases q:H l with
 |none=>rfl
 |some o=>
  rw[e l o q]at h;cases h
end L2
set_option maxHeartbeats 4000000
namespace L2
open PySem PySem.Spec PyProof.Rows
theorem Ih{env:Env}:∀ (names:List (Str×NameKind)) (cs:List (Str×Addr)),(∀x,(x,NameKind.free)∈names->∃c,env.cells.lookup x=some c)->
  (∀x c,cs.lookup x=some c->env.cells.lookup x=some c)->
  ∃cl,(forIn names cs fun(p:Str×NameKind) (r:List (Str×Addr))=>(match p with|(name,kind)=>(if(kind==NameKind.free)=true then(do let a <-cellOf env name;pure (ForInStep.yield ((name,a)::r))) else pure (ForInStep.yield r)):Sem (ForInStep (List (Str×Addr)))))=pure cl/\
   (∀x c,cl.lookup x=some c->env.cells.lookup x=some c)/\(∀x,(x,NameKind.free)∈names->∃c,cl.lookup x=some c)/\∀x,(∃c,cs.lookup x=some c)->∃c,cl.lookup x=some c
 |[],cs,_,h2=>⟨cs,rfl,h2,(fun _ h=>nomatch h),fun _ h=>h⟩
 |(n,k)::r,cs,h1,h2=>by
  by_cases hk:k=NameKind.free
  .subst hk;obtain ⟨c, hc⟩ := h1 n YD;obtain ⟨cl, e, a, b, d⟩ := Ih r ((n, c) :: cs) (fun x f => h1 x (Yn _ f)) (fun x g f => by
    rw[Uj]at f;cases q:x==n with
    |true=>rw[q]at f;cases f;rw[eq_of_beq q];exact hc
    | false => rw [q] at f; exact h2 x g f)
   refine⟨cl,?_,a,fun x f=>?_,fun x ⟨g,f⟩=>?_⟩
   .rw[VA];have:cellOf env n=pure c:=by unfold cellOf;rw[hc]
    simp only[this,Vl,if_true];exact e
   .rcases Yo.mp f with z|z
    .cases z;exact d _ ⟨c,by simp[Uj]⟩
    .exact b x z
   .refine d x ?_;rw[Uj];cases q:x==n with
    |true=>exact⟨c,rfl⟩
    |false=>exact⟨g,f⟩
  .obtain⟨cl,e,a,b,d⟩:=Ih r cs (fun x f=>h1 x (Yn _ f)) h2;have i:(k==NameKind.free)=false:=by simpa using hk
   refine⟨cl,?_,a,fun x f=>?_,d⟩
   .rw[VA];simp only[i,Bool.false_eq_true,if_false];exact e
   .rcases Yo.mp f with z|z
    .cases z;exact absurd rfl hk
    .exact b x z
theorem Z4{scope:Scope}{env:Env}(h:∀x,(x,NameKind.free)∈scope.names->∃c,env.cells.lookup x=some c):
  ∃cl,closureFor scope env=pure cl/\(∀x c,cl.lookup x=some c->env.cells.lookup x=some c)/\∀x,(x,NameKind.free)∈scope.names->∃c,cl.lookup x=some c:=by
 obtain⟨cl,e,a,b,_⟩:=Ih scope.names [] h (fun x c z=>nomatch z);refine⟨cl,?_,a,b⟩;unfold closureFor;show(forIn scope.names [] _ >>=fun f=>pure f)=pure cl;rw[show(forIn scope.names ([]:List (Str×Addr)) _:Sem _)=pure cl from e];rfl
theorem Ko{env:Env}{x:Str}:∀{names:List (Str×NameKind)} {k:NameKind},(names.map fun(n,k)=>if(k==NameKind.free && env.scope.kind== .function && env.kindOf n==some .cell) then(n,NameKind.cell) else(n,k)).lookup x=some k->
  (x,k)∈names\/(k=NameKind.cell/\(x,NameKind.free)∈names)
 |[],_,h=>by simp at h
 |(n,k')::r,k,h=>by
  have ih:=@Ko env x r k;have h':List.lookup x ((if(k'==NameKind.free && env.scope.kind== .function && env.kindOf n==some .cell)=true then(n,NameKind.cell) else(n,k'))::(r.map fun(n,k)=>if(k==NameKind.free && env.scope.kind== .function && env.kindOf n==some .cell) then(n,NameKind.cell) else(n,k)))=some k:=h
  by_cases hc:(k'==NameKind.free && env.scope.kind== .function && env.kindOf n==some .cell)=true
  .rw[Y6 hc,Uj]at h';cases q:x==n with
   |true=>
    rw[q]at h';have e:NameKind.cell=k:=Option.some.inj h';have a:k'=NameKind.free:=by
     have:=(X5 _ _▸(X5 _ _▸hc).1).1;exact eq_of_beq this
    have ex:x=n:=eq_of_beq q;subst a ex;exact .inr ⟨e.symm,YD⟩
   |false=>
    rw[q]at h';rcases ih h' with z|⟨z1,z2⟩
    .exact .inl (Yn _ z)
    .exact .inr ⟨z1,Yn _ z2⟩
  .rw[Y5 hc,Uj]at h';cases q:x==n with
   |true=>
    rw[q]at h';have e:k'=k:=Option.some.inj h';have ex:x=n:=eq_of_beq q;subst e ex;exact .inl YD
   |false=>
    rw[q]at h';rcases ih h' with z|⟨z1,z2⟩
    .exact .inl (Yn _ z)
    .exact .inr ⟨z1,Yn _ z2⟩
theorem y7{prog:WP}{w:WU}{A:WT}{R:Result->Shared->Prop}{s:WQ}{elt target iter:J7}{ifs:List Expr}{scope:Scope}{pos:Pos}{it acc:WW}{env:Env}(I:Nat->Shared->Prop)
  (turn : ∀ n s, I n s -> wpAny (model prog w) A (pyNext it) (fun r s₁ => match r with
   |none=>R (.ok .next) s₁
   | some v => wpAny (model prog w) A (letOwnedTupleGo target it v) (fun _ s₀ => wpAny (model prog w) A (assign target env v) (fun _ s₂ =>
     wpAny (model prog w) A (forIn ifs true fun c r => if r = true then do let ok <- isTrue c env (eval c env); pure (ForInStep.yield ok) else pure (ForInStep.yield r)) (fun ok s₃ =>
      if ok = true then wpAny (model prog w) A (eval elt env) (fun x s₄ =>
       wpAny (model prog w) A (call (.builtin "list.append") [acc, x]) (fun _ s₅ => ∃ m, m < n /\ I m s₅) (fun _ _ => False) s₄) (fun _ _ => False) s₃
      else ∃ m, m < n /\ I m s₃) (fun _ _ => False) s₂) (fun _ _ => False) s₀) (fun _ _ => False) s₁) (fun _ _ => False) s)
  (n:Nat) (h:I n s):
  codeAny (model prog w) A (.compLoop (.ListComp elt [⟨target,iter,ifs,0⟩] scope pos) 0 it acc env) R s:=by
 refine codeAny_loop rfl I (fun n s j=>?_) n h;show wpAny _ A ((compTurn (.ListComp elt [⟨target,iter,ifs,0⟩] scope pos) 0 it acc env).onRaise (fun x=>do noteFrame x env;theTreesLotGoes x)) _ _ s;refine wpAny_noted (wpAny_noRaise ?_);rw[compTurn_list];refine Y0 (Vj (Y0 (Xm (turn n s j) (fun r s₁ b=>?_) fun _ _ h'=>h')));cases r with
 |none=>exact Y2 b
 |some v=>
  refine Y0 (Xm b (fun _ s₀ i=>?_) fun _ _ h'=>h');refine Y0 (Xm i (fun _ s₂ g=>Y0 (Xm g (fun ok s₃ a=>?_) fun _ _ h'=>h')) fun _ _ h'=>h');cases ok with
  |false=>exact Y2 ⟨rfl,a⟩
  |true=>
   exact Y0 (Y0 (Xm a (fun x s₄ f=>Y0 (Xm f (fun _ s₅ e=>Y2 (Y2 ⟨rfl,e⟩)) fun _ _ h'=>h')) fun _ _ h'=>h'))
def NE(X:Cx)(N':List Str)(scope:Scope)(cl:List (Str×Addr))(C:WX)(s:WQ)(H:Hp)(ex:List Addr):Cx:=
 {X with N:=N',s₀:=s,H₀:=H,env:=compEnvC scope cl C X.env,outer:=X.stack,ex:=ex,fn:=fun _=>false,pn:=[],xe:=fun _ _=>False}
def NV(caps:List (Option Nat))(σ:St):St:=caps.map fun o=>o.bind fun j=>(σ[j]?).join
def vP(N N':List Str)(scope:Scope)(caps:List (Option Nat)):Prop:=
 caps.length=N'.length/\∀ (i j:Nat) (x:Str),N'[i]?=some x->caps[i]?=some (some j)->N[j]?=some x/\(x,NameKind.free)∈scope.names/\∀k,(x,k)∈scope.names->k=NameKind.free
structure BU(X:Cx)(N':List Str)(scope:Scope)(caps:List (Option Nat)):Prop where
 kind:scope.kind= .function
 nocell:∀y∈scope.names,y.2≠ .cell
 locs:∀y∈scope.names,y.2= .local->scope.names.lookup y.1=some .local
 cap:vP X.N N' scope caps
 vis:∀x,(x,NameKind.free)∈scope.names->X.env.kindOf x=some .cell\/X.env.kindOf x=some .free
def Ld:TT:=fun _ H Q=>Q true H
def BP(caps:List (Option Nat))(g:TG)(tc:TT)(te:TE)(σ:St)(Q:VK)(J:It)(H1:Hp):Prop:=
 ∃W:Nat->Nat->List V->St->Hp->Prop,(∃m,W 0 m [] (NV caps σ) H1)/\∀i m ys σ' H,W i m ys σ' H->
  (J.stop i H/\ys.length <=sizeLine/\∀p,H p=none->Q (.ref p) (upd H p (.lst ys)))\/
  (J.go i H /\ ys.length < sizeLine /\ ∃ N : List V -> St -> Hp -> Prop, (∀ ys σ H, N ys σ H -> ∃ m', m' < m /\ W (i + 1) m' ys σ H) /\ ∀ x H', J.yld i H x H' -> g x σ' H' fun σ2 H2 => tc σ2 H2 fun b H3 =>
   if b = true then te σ2 H3 fun y H4 => N (ys ++ [y]) σ2 H4 else N ys σ2 H3)
def RW(caps:List (Option Nat))(wi:TI)(g:TG)(tc:TT)(te:TE):TE:=fun σ H Q=>wi σ H fun J H1=>BP caps g tc te σ Q J H1
def GD(X:Cx)(ifs:List Expr)(t:TT):Prop:=
 ∀ (pins:WO) (s:WQ) (σ:St) (H:Hp) (Q:Bool->Hp->Prop),Jd X pins σ H s->t σ H Q->
  wpAny (model X.prog X.w) X.A (forIn ifs true fun c r=>if r=true then do let ok <-isTrue c X.env (eval c X.env);pure (ForInStep.yield ok) else pure (ForInStep.yield r)) (TP X pins σ Q) X.xe s
theorem GS{X:Cx}:GD X [] Ld:=fun _ _ _ H _ I h=>wpAny_tests_nil ⟨H,I,h⟩
theorem RH{X:Cx}{c:J7}{t:TT}(h:PT X c t):GD X [c] t:=fun pins s σ H Q I q=>wpAny_tests_one (h pins s σ H Q I q)
section
variable{X:Cx}{elt tg iter:J7}{ifs:List Expr}{scope:Scope}{pos:Pos}{N':List Str}{caps:List (Option Nat)}{wi:TI}{g:TG}{tc:TT}{te:TE}
def M1(its:WZ)(n:Nat):Obj:={cls:=.type "list",data:=.seq its.toArray n}
theorem QX{pins:WO}{s2:WQ}{σ:St}{H2:Hp}{J:It}{it:WX}{fp:List Addr}{tn:Nat->Heap->Prop}{cl:List (Str×Addr)}{Q:VK}{RR:Value->Addr->Result->Shared->Prop}
  (S:BU X N' scope caps) (hc:X.calm=true)
  (hcl1:∀x c,cl.lookup x=some c->X.env.cells.lookup x=some c) (hcl2:∀x,(x,NameKind.free)∈scope.names->∃c,cl.lookup x=some c)
  (hg:∀cl C s H ex,PG (NE X N' scope cl C s H ex) tg g) (ht:∀C,GD (NE X N' scope cl C s2 H2 fp) ifs tc) (he:∀cl C s H ex,PE (NE X N' scope cl C s H ex) elt te)
  (I:Jd X pins σ H2 s2) (T:Ed X.prog X.w X.K tg J fp it tn) (st:tn 0 s2.heap) (f2:∀b∈fp,MK X pins H2 b)
  (W:Nat->Nat->List V->St->Hp->Prop) (w0:∃m,W 0 m [] (NV caps σ) H2)
  (turn : ∀ i m ys σ' H, W i m ys σ' H -> (J.stop i H /\ ys.length <= sizeLine /\ ∀ p, H p = none -> Q (.ref p) (upd H p (.lst ys))) \/
   (J.go i H /\ ys.length < sizeLine /\ ∃ N : List V -> St -> Hp -> Prop, (∀ ys σ H, N ys σ H -> ∃ m', m' < m /\ W (i + 1) m' ys σ H) /\ ∀ x H', J.yld i H x H' -> g x σ' H' fun σ2 H2 => tc σ2 H2 fun b H3 =>
    if b = true then te σ2 H3 fun y H4 => N (ys ++ [y]) σ2 H4 else N ys σ2 H3))
  (hRR : ∀ D C oC m s' H', Jd X (pins ++ [(C, oC)]) σ H' s' -> s'.heap.Ns C m -> Q (.ref D) H' -> X.s₀.heap.objs.size <= C -> (∀ x c, X.env.cells.lookup x = some c -> c ≠ C) -> (∀ p ∈ X.pn ++ pins, p.1 ≠ C) -> s'.heap.get? C = some oC ->
   RR (.ref D) C (.ok .next) s') {E : Value -> Shared -> Prop} :
  wpAny (model X.prog X.w) X.A (newList []) (fun acc s₃ => wpAny (model X.prog X.w) X.A (newFunctionEnv scope X.env.globals cl [] X.env.qual none .none (some X.env)) (fun cenv s₄ =>
   codeAny (model X.prog X.w) X.A (.compStart (.ListComp elt [⟨tg, iter, ifs, 0⟩] scope pos) 0 (.ref it) acc { cenv with scope := relabel scope X.env }) (RR acc cenv.locals) s₄) E s₃) E s2 := by
 refine YO (wpAny_newFunctionEnv S.nocell (by intro y hy;simp at hy) (fun h₁ hns₁ hsb₁=>?_) S.kind);dsimp only at hns₁ hsb₁ ⊢;generalize hH2:s2.heap.push {cls:=.type "list",dict:=none,data:=.seq ([]:WZ).toArray}=HP at hns₁ hsb₁ ⊢;have hC:HP.objs.size=s2.heap.objs.size+ 1:=by rw[<-hH2,XD]
 generalize hCC:HP.objs.size=C at hns₁ hsb₁ hC ⊢;have hDC:s2.heap.objs.size≠C:=by rw[hC];exact Yr (U1 _)
 have ab:∀b,b < s2.heap.objs.size->b≠C:=fun b f=>by rw[hC];exact Yr (Xu f)
 have old:∀b o,s2.heap.get? b=some o->h₁.get? b=some o:=fun b o e=>hsb₁.extBut b o (ab b (Yd e)) (Y7 _ (hH2▸Y7 _ e))
 have hacc:h₁.get? s2.heap.objs.size=some (M1 [] 0):=hsb₁.extBut _ _ hDC (Y7 _ (hH2▸Yc _ rfl));have fpLt:∀b∈fp,b < s2.heap.objs.size:=fun b f=>by obtain⟨o,e,_⟩:=T.obj _ _ st b f;exact Yd e
 have st₁:tn 0 h₁:=T.keep _ _ _ st fun b _ o e=>old b o e
 have sz:X.s₀.heap.objs.size <=s2.heap.objs.size:=I.sz;have cellLt:∀x c,X.env.cells.lookup x=some c->c < s2.heap.objs.size:=fun x c e=>by obtain⟨v,q⟩:=I.cell x c e;exact q.lt
 have okX:(NE X N' scope cl C s2 H2 fp).Ok:=by
  refine ⟨I.ok.mod, S.kind, I.ok.glob, I.ok.blt, by show s2.heap.objs.size <= C; rw [hC]; exact X4 _, fun x y c a b => I.ok.inj x y c (hcl1 x c a) (hcl1 y c b), fun x hx => ?_, (fun x c z => by cases z), I.ok.hd, I.ok.frames, .inl rfl,
   fun b f => ⟨ab b (fpLt b f), fun x c e => (f2 b f).2.2.2.2.1 x c (hcl1 x c e)⟩, I.bs, YF I.ok.bsz sz, fun b o e f => ?_, fun b f z => ?_, I.stack, I.stkFree⟩
  .have key:∀k,(k=NameKind.cell\/k=NameKind.free)->(relabel scope X.env).names.lookup x=some k->∃c,cl.lookup x=some c:=fun k hk hx=>by
    rcases Ko hx with z|⟨_,z⟩
    .rcases hk with rfl|rfl
     .exact absurd rfl (S.nocell _ z)
     .exact hcl2 x z
    .exact hcl2 x z
   rcases hx with hx|hx
   .exact key _ (.inl rfl) hx
   .exact key _ (.inr rfl) hx
  .rcases(f2 b f).2.2.2.1 with z|z
   .exact I.ok.noex b o e z
   .exact absurd (YH (Yd (I.ok.bs b o e).1) z) (XQ _)
  .rcases Yo.mp (I.stkSub b z) with y|y
   .exact(f2 b f).2.1 y
   .exact(f2 b f).2.2.1 y
 have freshC:∀b,s2.heap.objs.size <=b->H2 b=none:=fun b f=>I.hok.fresh f
 have capI:Jd (NE X N' scope cl C s2 H2 fp) [(s2.heap.objs.size,M1 [] 0)] (NV caps σ) H2 {s2 with heap:=h₁,toks:=s2.toks+ ([]:List (Str×Value)).length}:=by
  refine⟨okX,rfl,I.bare,Un.kept old,⟨_,hns₁,fun i x v e1 e2 e3=>?_⟩,fun x c e=>?_,freshC C (by rw[hC];exact X4 _),fun x c e=>I.freeC x c (hcl1 x c e),fun p hp=>?_,I.hok.kept old,?_⟩
  .have e2':(caps[i]?).map (fun o=>o.bind fun j=>(σ[j]?).join)=some (some v):=by
    unfold NV at e2;rw[Y9]at e2;exact e2
   cases q:caps[i]? with
   |none=>rw[q]at e2';cases e2'
   |some o=>
    rw[q]at e2';cases o with
    |none=>cases e2'
    |some j=>
     have hv:(σ[j]?).join=some v:=Option.some.inj e2';obtain⟨hN,hfr,honly⟩:=S.cap.2 i j x e1 q;have hσ:σ[j]?=some (some v):=by
      cases r:σ[j]? with
      |none=>rw[r]at hv;cases hv
      |some o=>rw[r]at hv;rw[<-hv];rfl
     obtain⟨m,hn,hl⟩:=I.loc;have hkx:=S.vis x hfr;obtain⟨u,ru,lk⟩:=hl j x v hN hσ (by rcases hkx with z|z;exact .inr (.inl z);exact .inr (.inr z));refine⟨u,ru,.inr ?_⟩;obtain⟨c,hc'⟩:=hcl2 x hfr;have hcx:=hcl1 x c hc';rcases lk with⟨z,_⟩|⟨_,c',hc2,hcell⟩
     .rcases hkx with y|y <;> rw[y]at z <;> cases z
     .rw[hcx]at hc2;cases hc2;have hcell':h₁.IsCell c (some u):=by
       obtain⟨oc,q1,q2⟩:=hcell;exact⟨oc,old c oc q1,q2⟩
      refine⟨?_,c,hc',hcell'⟩;rcases e3 with z|z|z
      .rcases Ko z with y|⟨y,_⟩
       .have:=honly _ y;cases this
       .cases y
      .exact .inl z
      .exact .inr z
  .obtain⟨v,oc,q1,q2⟩:=I.cell x c (hcl1 x c e);exact⟨v,oc,old c oc q1,q2⟩
  .have e:p=(s2.heap.objs.size,M1 [] 0):=by simpa[NE] using hp
   subst e;refine ⟨hacc, freshC _ (Y8 _), hDC, fun z => ?_, fun v z => by cases z⟩;exact absurd (show s2.heap.objs.size < s2.heap.objs.size from by
    rcases Yo.mp (I.stkSub _ z) with y|y
    .exact absurd (I.lt) (by rw[<-y];exact XQ _)
    .exact absurd y (I.nofs (Y8 _))) (XQ _)
  .unfold NV;rw[Y1];exact S.cap.1
 generalize hX':NE X N' scope cl C s2 H2 fp=X' at okX capI;have ePr:X'.prog=X.prog:=by rw[<-hX'];rfl
 have eW:X'.w=X.w:=by rw[<-hX'];rfl
 have eK:X'.K=X.K:=by rw[<-hX'];rfl
 have eA:X'.A=X.A:=by rw[<-hX'];rfl
 have eEnv:X'.env=compEnvC scope cl C X.env:=by rw[<-hX'];rfl
 have eXe:X'.xe=fun _ _=>False:=by rw[<-hX'];rfl
 have eCalm:X'.calm=true:=by rw[<-hX'];exact hc
 have eLoc:X'.env.locals=C:=by rw[eEnv];rfl
 have eS0:X'.s₀=s2:=by rw[<-hX'];rfl
 have eEx:X'.ex=fp:=by rw[<-hX'];rfl
 have eFs:X'.fs=GB X.stack:=by rw[<-hX'];rfl
 have eCells:X'.env.cells=cl:=by rw[eEnv];rfl
 have ePn:X'.pn=[]:=by rw[<-hX'];rfl
 have eH0:X'.H₀=H2:=by rw[<-hX'];rfl
 have hgX:PG X' tg g:=hX'▸hg cl C s2 H2 fp;have htX:GD X' ifs tc:=hX'▸ht C;have heX:PE X' elt te:=hX'▸he cl C s2 H2 fp;obtain⟨m0,w0⟩:=w0;have nDfs:s2.heap.objs.size∉X'.fs:=fun z=>by
  rw[eFs]at z;rcases Yo.mp (I.stkSub _ z) with y|y
  .exact absurd (I.lt) (by rw[<-y];exact XQ _)
  .exact absurd y (I.nofs (Y8 _))
 have fpX:∀{H':Hp} {its:WZ} {n:Nat},(∀b∈fp,H' b=none)->∀b∈fp,MK X' [(s2.heap.objs.size,M1 its n)] H' b:=fun {H' its n} hn b f=>by
  refine⟨hn b f,by rw[eLoc];exact ab b (fpLt b f),fun z=>?_,.inl (by rw[eEx];exact f),fun x c e=>?_,fun p hp z=>?_⟩
  .rw[eFs]at z;rcases Yo.mp (I.stkSub b z) with y|y
   .exact(f2 b f).2.1 y
   .exact(f2 b f).2.2.1 y
  .rw[eCells]at e;exact(f2 b f).2.2.2.2.1 x c (hcl1 x c e)
  .rw[ePn]at hp;have e:p=(s2.heap.objs.size,M1 its n):=by simpa using hp
   subst e;exact absurd (fpLt b f) (by rw[<-z];exact XQ _)
 have loop:∀s₃:Shared,s₃={s2 with heap:=h₁,toks:=s2.toks+ ([]:List (Str×Value)).length}->
   codeAny (model X.prog X.w) X.A (.compLoop (.ListComp elt [⟨tg,iter,ifs,0⟩] scope pos) 0 (.ref it) (.ref s2.heap.objs.size) (compEnvC scope cl C X.env)) (RR (.ref s2.heap.objs.size) C) s₃:=by
  rintro s₃ rfl;rw[<-eEnv,<-eA];refine y7 (fun n s'=>∃i ys its k σ' H',Jd X' [(s2.heap.objs.size,M1 its k)] σ' H' s'/\tn i s'.heap/\(∀b∈fp,H' b=none)/\Ji ys its/\W i n ys σ' H') ?_ m0
   ⟨0,[],[],0,NV caps σ,H2,capI,st₁,fun b f=>(f2 b f).1,.nil,w0⟩
  rintro n s' ⟨i,ys,its,k,σ',H',I',st',fr',rv',w'⟩;rcases turn i n ys σ' H' w' with⟨stop,hsz,q⟩|⟨go,hsz,NN,hNN,step⟩
  .refine JH (T.done X' ePr eW eK eCalm i _ s' σ' H' (fun _ _=>False) I' (fpX fr') st' stop) fun r s4 ⟨hr,I4⟩=>?_
   subst hr;have pinD:=(I4.pin (s2.heap.objs.size,M1 its k) (by rw[ePn];simp)).1;have freeD:=(I4.pin (s2.heap.objs.size,M1 its k) (by rw[ePn];simp)).2.1;have hq:=q s2.heap.objs.size freeD;obtain⟨mC,hnC,_⟩:=id I4.loc;rw[eLoc]at hnC;obtain⟨oC,es,ep,hoC,hdC,_⟩:=id hnC;have freeC':H' C=none:=by have:=I4.free;rw[eLoc]at this;exact this
   have aa:=I4.base;rw[eS0,eEx,eFs,eH0]at aa;have neD:∀b o,s2.heap.get? b=some o->b≠s2.heap.objs.size:=fun b o e=>Yr (Yd e)
   have neDH:∀b o,H2 b=some o->b≠s2.heap.objs.size:=fun b o e=>Yr (I.hok.lt e)
   have un4:Un (GB X.stack) fp H2 (upd H' s2.heap.objs.size (.lst ys)) s2.heap s4.heap:=
    ⟨aa.keep, aa.slot, fun b o e n hx => by rw [JF (neD b o e)]; exact aa.free b o e n hx, aa.there, fun b xs e => by rw [JF (neDH b _ e)]; exact aa.tups b xs e,
     fun b o u e => by rw [JF (neDH b _ e)]; exact aa.frzs b o u e, fun b ps e => by rw [JF (neDH b _ e)]; exact aa.tbls b ps e⟩
   have hok4:TM X.prog X.w (upd H' s2.heap.objs.size (.lst ys)) s4.heap:=by
    have h4:=I4.hok;rw[ePr,eW]at h4;intro b u e
    by_cases f:b=s2.heap.objs.size
    .subst f;rw[Nc]at e;cases e;exact⟨hsz,its,k,rv',pinD⟩
    .rw[JF f]at e;refine(h4 b u e).stay (fun c v _ z=>z) (fun c z=>?_) (fun c xs z=>?_)
     .rw[JF];exact z;intro zz;rw[zz,freeD]at z;cases z
     .rw[JF];exact z;intro zz;rw[zz,freeD]at z;cases z
   have os4:s4.os=s2.os:=by have:=I4.os;rw[eS0]at this;exact this
   have J4:Jd X pins σ (upd H' s2.heap.objs.size (.lst ys)) s4:=I.call' (ch:=fp) os4 un4 hok4 I4.bare fun b f=>⟨(f2 b f).2.2.2.1,(f2 b f).2.1,(f2 b f).2.2.2.2.1,(f2 b f).2.2.2.2.2⟩
   have hCle:X.s₀.heap.objs.size <=C:=by rw[hC];exact XH sz
   have hCcell:∀x c,X.env.cells.lookup x=some c->c≠C:=fun x c e=>ab c (cellLt x c e)
   have hCpin:∀p∈X.pn++pins,p.1≠C:=fun p hp=>ab p.1 (Yd (I.pin p hp).1)
   have hCl:C≠X.env.locals:=fun z=>absurd I.lt (by rw[<-z,hC];exact Nat.not_lt.mpr (X4 _))
   refine hRR s2.heap.objs.size C oC mC s4 _ (J4.pins_of fun p hp=>?_) hnC hq hCle hCcell hCpin hoC;rcases Yp.mp hp with z|z
   .exact J4.pin p (Yx _ z)
   .have e:p=(C,oC):=by simpa using z
    subst e;refine⟨hoC,by rw[JF (Ne.symm hDC)];exact freeC',hCl,fun z=>?_,fun v z=>by rw[hdC]at z;cases z⟩;exact I.nofs (by rw[hC];exact X4 _) z
  .refine JH (T.item X' ePr eW eK eCalm i _ s' σ' H' (fun _ _=>False) I' (fpX fr') st' go) fun r s4 ⟨u,hr,h4⟩=>?_
   subst hr;refine JH h4 fun _ s5 ⟨x,H5,I5,r5,y5,st5,fr5⟩=>?_
   have I5':=I5.pinned (fpX fr5) (T.obj _ _ st5);have xeF:∀{α:Type} {t:Sem α} {Q:α->Shared->Prop} {s:WQ},wpAny (model X.prog X.w) X'.A t Q X'.xe s->wpAny (model X.prog X.w) X'.A t Q (fun _ _=>False) s:=fun h=>by rw[eXe]at h;exact h
   have ag:=hgX _ s5 σ' H5 x u _ I5' r5 (step x H5 y5);rw[ePr,eW]at ag;refine JH (xeF ag) fun _ s6 ⟨σ6,H6,I6,q6⟩=>?_
   have at':=htX _ s6 σ6 H6 _ I6 q6;rw[ePr,eW]at at';refine JH (xeF at') fun b s7 ⟨H7,I7,q7⟩=>?_
   -- what the pins say behind the turn
   have back:∀{s8:WQ} {H8:Hp},Jd X' ([(s2.heap.objs.size,M1 its k)]++A2 fp s5.heap) σ6 H8 s8->tn (i+ 1) s8.heap/\(∀b∈fp,H8 b=none)/\Jd X' [(s2.heap.objs.size,M1 its k)] σ6 H8 s8:=fun {s8 H8} I8=>by
    refine⟨T.keep _ _ _ st5 fun b f o e=>(I8.pin (b,o) (Yx _ (Yx _ (CM f e)))).1,fun b f=>?_,I8.unpinned⟩;obtain⟨o,e,d⟩:=T.obj _ _ st5 b f;exact(I8.pin (b,o) (Yx _ (Yx _ (CM f e)))).2.1
   cases b with
   |false=>
    simp only[Bool.false_eq_true,if_false]at q7 ⊢;obtain⟨m',hm,w7⟩:=hNN _ _ _ q7;obtain⟨t7,f7,I7'⟩:=back I7;exact⟨m',hm,i+ 1,ys,its,k,σ6,H7,I7',t7,f7,rv',w7⟩
   |true=>
    simp only[if_true]at q7 ⊢;have ae:=heX _ s7 σ6 H7 _ I7 q7;rw[ePr,eW]at ae;refine JH (xeF ae) fun y s8 ⟨yv,H8,I8,r8,n8⟩=>?_
    obtain⟨m',hm,w8⟩:=hNN _ _ _ n8;obtain⟨t8,f8,I8'⟩:=back I8;have pinD:=I8'.pin (s2.heap.objs.size,M1 its k) (by rw[ePn];simp);have hlen:=rv'.length;refine append_at (its:=its.toArray) (n:=k) (hsz:=by rw[Yg,<-hlen];exact U7 hsz) pinD.1 fun h9 hs9 hD9=>?_
    have I9:Jd X' [] σ6 H8 {s8 with heap:=h9,toks:=s8.toks}:=by
     refine(I8'.pins_of (pins':=[]) fun p hp=>by simp at hp).turned (it:=s2.heap.objs.size) (fun b o f e=>(hs9.2 b f).trans e) pinD.2.1 (by rw[eLoc];exact hDC) (.inr (by rw[eS0];exact Y8 _)) (fun x c e=>?_) fun p hp=>?_
     .rw[eCells]at e;exact Yr (cellLt x c (hcl1 x c e))
     .rw[ePn]at hp;simp at hp
    have ePush:({cls:=.type "list",data:=.seq (its.toArray.push y) (k+ 1)}:Obj)=M1 (its++[y]) (k+ 1):=by unfold M1;rw[List.push_toArray]
    rw[ePush]at hD9;refine⟨m',hm,i+ 1,ys++[yv],its++[y],k+ 1,σ6,H8,?_,T.keep _ _ _ t8 fun b f o e=>(hs9.2 b (Yr (fpLt b f))).trans e,f8,rv'.append (.cons r8 .nil),w8⟩;refine I9.pins_of fun p hp=>?_
    have e:p=(s2.heap.objs.size,M1 (its++[y]) (k+ 1)):=by simpa using hp
    subst e;exact⟨hD9,pinD.2.1,by rw[eLoc];exact hDC,nDfs,fun v z=>by cases z⟩
 exact codeAny_compStart_list (loop _ rfl) (T.self _ 0 _ _ _ st₁ (loop _ rfl))
theorem Jd.cellsOf{pins:WO}{σ:St}{H:Hp}{s:WQ}(I:Jd X pins σ H s)(S:BU X N' scope caps):∀x,(x,NameKind.free)∈scope.names->∃c,X.env.cells.lookup x=some c:=
 fun x a=>I.ok.has x (S.vis x a)
theorem Dz(S:BU X N' scope caps)(hc:X.calm=true)(hi:PI X tg iter wi)
  (hg:∀cl C s H ex,PG (NE X N' scope cl C s H ex) tg g) (ht:∀cl C s H ex,GD (NE X N' scope cl C s H ex) ifs tc) (he:∀cl C s H ex,PE (NE X N' scope cl C s H ex) elt te)
  (hs:∀x,foldedSetIterable iter X.env x=pure x:=by intro _;rfl):PE X (.ListComp elt [⟨tg,iter,ifs,0⟩] scope pos) (RW caps wi g tc te):=by
 intro pins s σ H Q I h;obtain⟨cl,y,j,i⟩:=Z4 (I.cellsOf S);rw[eval_ListComp];refine wpAny_comprehension_free (use:=none) rfl hs y S.kind S.locs (JH (hi pins s σ H _ I h) fun v s1 h1=>JH h1 fun itv s2 h2=>?_);obtain⟨it,fp,tn,J,H2,e,I2,T,r,f2,W,z,c⟩:=h2;subst e;refine QX S hc j i hg (fun C=>ht _ C _ _ _) he I2 T r f2 W z c fun D C oC m s' H' n hn q hC a f hoC=>?_
 refine⟨m,hn,fun h' w=>⟨.ref D,H',?_,rfl,q⟩⟩;have u:=n.pin (C,oC) (Yx _ (Yx _ (by simp)));exact(n.pins_of (pins':=pins) fun p hp=>n.pin p (Yx _ (XV _ hp))).turned (t':=s'.toks) (it:=C) (fun b o hb e=>(w.2 b hb).trans e) u.2.1 u.2.2.1 (.inr hC) a f
theorem BV{i:Nat}{x:Str}{pos' spos:Pos}(S:BU X N' scope caps)(hc:X.calm=true)(hN:X.N.Nodup)(hix:X.N[i]?=some x)(hx:EU X.env.scope x)(hi:PI X tg iter wi)
  (hg:∀cl C s H ex,PG (NE X N' scope cl C s H ex) tg g) (ht:∀cl C s H ex,GD (NE X N' scope cl C s H ex) ifs tc) (he:∀cl C s H ex,PE (NE X N' scope cl C s H ex) elt te)
  (hsw:swapsWith (.ListComp elt [⟨tg,iter,ifs,0⟩] scope pos) (some (.Name x pos')) spos.line X.env=pure true)
  (hf:X.fn x=true\/X.env.scope.names.lookup x=some .local:=by first|exact .inl rfl|exact .inr rfl|assumption)
  (hs:∀x,foldedSetIterable iter X.env x=pure x:=by intro _;rfl):PS X (.Assign [.Name x pos'] (.ListComp elt [⟨tg,iter,ifs,0⟩] scope pos) spos) (Eg (RW caps wi g tc te) (Gs i)):=by
 intro pins s σ H D I h;obtain ⟨cl, ecl, y, w⟩ := Z4 (I.cellsOf S);rw [exec_Assign_Name_used _ _ _ _ hsw];refine Y0 (Vj (Y0 ?_));show wpAny _ X.A (do let _ <- comprehension (.ListComp elt [⟨tg, iter, ifs, 0⟩] scope pos) scope X.env _ (newList []) false (eval iter X.env) (some (assign (.Name x pos') X.env))) _ _ s;refine Y0 (Xm (wpAny_comprehension_free (use := some (assign (.Name x pos') X.env)) (Q := fun _ s' => SP X pins D .next s') rfl hs ecl S.kind S.locs
  (JH (hi pins s σ H _ I h) fun v s1 h1 => JH h1 fun itv s2 h2 => ?_)) (fun _ s' hq => Y2 (Y2 hq)) fun _ _ e => e)
 obtain⟨it,fp,tn,J,H2,e,I2,T,aa,f2,W,w0,j⟩:=h2;subst e;refine QX (Q:=fun x H1=>Gs i x σ H1 D.nx) S hc y w hg (fun C=>ht _ C _ _ _) he I2 T aa f2 W w0 j fun z C oC m s' H' I' hn q hC c u hoC=>?_
 show wpAny _ X.A (assign (.Name x pos') X.env (.ref z)) _ _ _;refine wpAny_assign_Name (Kv I' hN hix hx (v:=.ref z) rfl (fun f a=>?_) hf);have n:=a.pin (C,oC) (Yx _ (Yx _ (by simp)));have hn':f.heap.Ns C m:=by
  obtain⟨o,es,ep,ho,r⟩:=hn;rw[hoC]at ho;cases ho;exact⟨oC,es,ep,n.1,r⟩
 refine⟨m,hn',fun h' hs'=>⟨σ.set i (some (.ref z)),H',?_,q⟩⟩;exact(a.pins_of (pins':=pins) fun p hp=>a.pin p (Yx _ (XV _ hp))).turned (t':=f.toks) (it:=C) (fun b o hb e=>(hs'.2 b hb).trans e) n.2.1 n.2.2.1 (.inr hC) c u
theorem QN{K:WV}{a:WX}{xs:List V}{σ:St}{H1:Hp}{Q:VK}(Pv:Nat->List V->St->Hp->Prop)(h0:Pv 0 [] (NV caps σ) H1)(hl:∀i ys σ H,Pv i ys σ H->i <=xs.length->Jh K H a xs/\ys.length <=i)(hz:xs.length <=sizeLine)
  (hs:∀i x ys σ H,xs[i]?=some x->Pv i ys σ H->g x σ H fun σ2 H2=>tc σ2 H2 fun b H3=>if b=true then te σ2 H3 fun y H4=>Pv (i+ 1) (ys++[y]) σ2 H4 else Pv (i+ 1) ys σ2 H3)
  (hd:∀ys σ H,Pv xs.length ys σ H->∀p,H p=none->Q (.ref p) (upd H p (.lst ys))):
  BP caps g tc te σ Q (RX K a) H1:=by
 refine⟨fun i m ys σ H=>m=xs.length - i/\i <=xs.length/\Pv i ys σ H,⟨xs.length,by simp,Ys _,h0⟩,?_⟩;rintro i m ys σ H ⟨rfl,hi,p⟩;obtain⟨q,h⟩:=hl i ys σ H p hi
 by_cases hlt:i < xs.length
 .refine .inr ⟨⟨xs,xs[i],q,by simp[hlt]⟩,by lia,Pv (i+ 1),fun f σ' H' c=>⟨xs.length - (i+ 1),by lia,rfl,hlt,c⟩,fun x H' y=>?_⟩;obtain⟨e,y⟩:=y;subst e;exact hs i x ys σ _ (y xs q) p
 .have e:i=xs.length:=by lia
  subst e;exact .inl ⟨⟨xs,q,Y8 _⟩,by lia,hd ys σ H p⟩
theorem Zu{lo:Int}{n:Nat}{σ:St}{H1:Hp}{Q:VK}(Pv:Nat->List V->St->Hp->Prop)(h0:Pv 0 [] (NV caps σ) H1)(hl:∀i ys σ H,Pv i ys σ H->i <=n->ys.length <=i)(hz:n <=sizeLine)
  (hs:∀i ys σ H,i < n->Pv i ys σ H->g (.int (lo+ i)) σ H fun σ2 H2=>tc σ2 H2 fun b H3=>if b=true then te σ2 H3 fun y H4=>Pv (i+ 1) (ys++[y]) σ2 H4 else Pv (i+ 1) ys σ2 H3)
  (hd:∀ys σ H,Pv n ys σ H->∀p,H p=none->Q (.ref p) (upd H p (.lst ys))):
  BP caps g tc te σ Q (Rv lo n) H1:=by
 refine⟨fun i m ys σ H=>m=n - i/\i <=n/\Pv i ys σ H,⟨n,by simp,Ys _,h0⟩,?_⟩;rintro i m ys σ H ⟨rfl,hi,p⟩;have f:=hl i ys σ H p hi
 by_cases hlt:i < n
 .refine .inr ⟨hlt,by lia,Pv (i+ 1),fun c σ' H' a=>⟨n - (i+ 1),by lia,rfl,hlt,a⟩,fun x H' y=>?_⟩;obtain⟨e,y⟩:=y;subst e y;exact hs i ys σ _ hlt p
 .have e:i=n:=by lia
  subst e;exact .inl ⟨Y8 _,by lia,hd ys σ H p⟩
end
mutual
inductive Dp(K:WV)(H:Hp):V->PyData->Prop
 |non:Dp K H .non .none
 |bl (b:Bool):Dp K H (.bl b) (.bool b)
 |int (i:Int):Dp K H (.int i) (.int i)
 |str (x:Str):Dp K H (.str x) (.str x)
 |lst {a:WX} {xs:List V} {ds:List PyData}:Jh K H a xs->Td K H xs ds->Dp K H (.ref a) (.list ds)
 |tup {a:WX} {xs:List V} {ds:List PyData}:JC K H a xs->Td K H xs ds->Dp K H (.ref a) (.tuple ds)
inductive Td(K:WV)(H:Hp):List V->List PyData->Prop
 |nil:Td K H [] []
 |cons {x:V} {xs:List V} {d:PyData} {ds:List PyData}:Dp K H x d->Td K H xs ds->Td K H (x::xs) (d::ds)
end
section
variable{X:Cx}{pins:WO}{σ:St}{H:Hp}{s:WQ}
mutual
theorem Jd.reads(I:Jd X pins σ H s):∀{x:V} {d:PyData} {u:WW},Dp X.K H x d->Jr x u->∃as,Reads s.heap u d as
 |_,_,u,.non,r=>by cases (show u=Value.none from r);exact⟨_,.none⟩
 |_,_,u,.bl b,r=>by cases (show u=Value.bool b from r);exact⟨_,.bool b⟩
 |_,_,u,.int i,r=>by obtain⟨t,rfl⟩:=(show ∃t,u=Value.int i t from r);exact⟨_,.int i t⟩
 |_,_,u,.str x,r=>by obtain⟨t,rfl⟩:=(show ∃t,u=Value.str x t from r);exact⟨_,.str x t⟩
 |_,_,u,.lst (a:=a) hl hd,r=>by
  cases (show u=Value.ref a from r);obtain⟨j,f,⟨o,n,e,h,_,c⟩,p⟩:=I.list hl;obtain⟨as,g⟩:=Jd.readsAll I hd f;exact⟨_,.list e h c (by simpa using g)⟩
 |_,_,u,.tup (a:=a) hl hd,r=>by
  cases (show u=Value.ref a from r);obtain⟨j,f,⟨o,e,h,n,c⟩,p⟩:=I.tuple hl;obtain⟨as,g⟩:=Jd.readsAll I hd f;exact⟨_,.tuple e h c (by simpa using g)⟩
theorem Jd.readsAll(I:Jd X pins σ H s):∀{xs:List V} {ds:List PyData} {us:WZ},Td X.K H xs ds->Ji xs us->∃as,ReadsAll s.heap us ds as
 |_,_,_,.nil,r=>by cases r;exact⟨_,.nil⟩
 |_,_,_,.cons h t,r=>by
  cases r with
  |cons r1 r2=>
   obtain⟨as,ra⟩:=Jd.reads I h r1;obtain⟨bs,a⟩:=Jd.readsAll I t r2;exact⟨_,.cons ra a⟩
end
end
def Q9(K:WV):R2:=fun x y H Q=>∃d e,Dp K H x d/\Dp K H y e/\SeqAt.shaped d=true/\SeqAt.shaped e=true/\Q (.bl (PyData.eqv d e)) H
def OZ(K:WV):R2:=fun x y H Q=>∃d e,Dp K H x d/\Dp K H y e/\SeqAt.shaped d=true/\SeqAt.shaped e=true/\Q (.bl (!PyData.eqv d e)) H
section
variable{X:Cx}
theorem aJ(hu:X.A.units+ 64 < cLine):Nd X (compareOp .Eq) (Q9 X.K):=by
 intro pins s σ H x y v u Q I f c h;obtain⟨d,e,h1,h2,b,a,q⟩:=h;obtain⟨j,i⟩:=I.reads h1 f;obtain⟨bs,g⟩:=I.reads h2 c;exact eq_dataH i g b a hu (To I q rfl)
theorem bO(hu:X.A.units+ 64 < cLine):Nd X (compareOp .NotEq) (OZ X.K):=by
 intro pins s σ H x y v u Q I f c h;obtain⟨d,e,h1,h2,b,a,q⟩:=h;obtain⟨j,i⟩:=I.reads h1 f;obtain⟨bs,g⟩:=I.reads h2 c;exact ne_dataH i g b a hu (To I q rfl)
def LJ:R2:=fun x y H Q=>∃i j,x= .str i/\y= .str j/\Q (.bl (!decide (j.cps.toList < i.cps.toList))) H
theorem Z2:Nd X (compareOp .LtE) LJ:=by
 intro pins s σ H x y v u Q I b a h;obtain⟨i,j,rfl,rfl,q⟩:=h;obtain⟨t,rfl⟩:=b;obtain⟨c,rfl⟩:=a;exact PySem.P.le_str (To I q rfl)
theorem y0(hc:X.calm=true):JA X (.builtin "all") (fun xs H Q=>∃ (p:WX) (bs:List Bool),xs=[.ref p]/\Jh X.K H p (bs.map V.bl)/\Q (.bl (bs.all id)) H):=by
 intro pins s σ H xs us Q I r h;obtain⟨p,bs,rfl,hq,q⟩:=h;obtain⟨u,rfl,rx⟩:=DO r;cases rx;obtain⟨a,w,pl,hz⟩:=I.list hq;have hh:X.A.in1.handled=none:=I.ok.hd hc;have j:=pl.isList;have z:p < s.heap.objs.size:=by obtain⟨_,e,_⟩:=j;exact Yd e
 have g:bs.length=a.length:=by have:=w.length;simpa using this
 refine call_all_walk (Xt j ⟨s.heap.objs.size,_,_,_,_,_,fun i=>bs.getD i false,rfl,Wx hh s.heap.objs.size p (Yr z) a.toArray,⟨⟨_,Yc _ rfl,rfl,rfl⟩,j.push _⟩,?_,?_⟩)
 .intro i v s' Q' E' hv n;have c:a[i]?=some v:=by simpa using hv
  cases e:bs[i]? with
  |none=>
   have:a[i]?=none:=by
    rw[US]at e ⊢;lia
   rw[this]at c;cases c
  |some b=>
   obtain⟨u,y,ru⟩:=w.get (i:=i) (x:=V.bl b) (by rw[Y9,e];rfl);rw[c]at y;cases y;cases (show v=Value.bool b from ru);have:bs.getD i false=b:=by simp[List.getD,e]
   dsimp only at n;rw[this]at n;exact Xs n
 .intro h' tk hk;have e:(List.range a.toArray.size).all (fun i=>bs.getD i false)=bs.all id:=by
   rw[Yg,<-g,YA,Xr,Xr];constructor
   .intro h x hx;obtain⟨i,hi,rfl⟩:=Xg.mp hx;have:=h i (XT.mpr hi);simpa[List.getD,hi] using this
   .intro h i hi;have f:=XT.mp hi;have:=h bs[i] (Xk f);simpa[List.getD,f] using this
  rw[e];exact⟨.bl (bs.all id),H,I.kept (t':=tk) fun b o eo=>hk b o (by simpa using Yr (Yd eo)) (Y7 _ eo),rfl,q⟩
def Qp:V->Value
 | .ty n=>.type n
 | .ref a=>.ref a
 |_=>.none
def nX:V->Bool
 | .ty _=>true
 | .ref _=>true
 |_=>false
def cE(K:WV):List V->Hp->VK->Prop:=fun xs H Q=>∃x c t b,xs=[x,c]/\Gx K H x t/\nX c=true/\W.kitOne K t (Qp c)=some b/\Q (.bl b) H
theorem Ij:JA X (.builtin "isinstance") (cE X.K):=by
 intro pins s σ H xs n Q I r h;obtain⟨x,c,t,b,rfl,ty,j,e,q⟩:=h;obtain⟨u,a,rfl,f,g⟩:=Ks r;have i:a=Qp c:=by cases c <;> first|exact g|cases j
 subst i;exact uU I f ty e fun tk=>⟨.bl b,H,I.tok tk,rfl,q⟩
def HA(x:Str):It:=⟨fun i _=>i < x.cps.size,fun i H v H'=>H'=H/\∃c,x.cps[i]?=some c/\v= .str ⟨#[c]⟩,fun i _=>i=x.cps.size⟩
theorem Py{P:WP}{w:WU}{K:PySem.W.Frag}{tg:J7}{it:WX}{ty:String}{x:Str}{t:Tok}
  (W:∀A:Around,A.handled=none->Walks P w A it [it] [it] x.cps.size (SignAt x) (fun i h=>h.IsStrIter it ty x t i))
  (hself:∀ (A:WT) (i:Nat) (s:WQ) (Q:WM) (E:WM),s.heap.IsStrIter it ty x t i->Q (.ref it) s->wpAny (model P w) A (pyIter (.ref it)) Q E s)
  (hn:["enumerate","zip","dict_itemiterator","dict_reverseitemiterator","odict_iterator","itertools.zip_longest","itertools.pairwise"].contains ty=false):
  Ed P w K tg (HA x) [it] it (fun i h=>h.IsStrIter it ty x t i) where
 mem:=by simp
 obj:=fun i h st b a=>by
  have e:b=it:=by simpa using a
  subst e;obtain⟨o,e,c,d⟩:=st;exact⟨o,e,fun v z=>by rw[d]at z;cases z⟩
 keep:=fun i h h' st k=>by obtain⟨o,e,r⟩:=st;exact⟨o,k it (by simp) o e,r⟩
 item:=by
  intro X q g y p i pins s σ H E I hf st n;subst q g y;obtain⟨f0,f1,f2,f3,f4,f5⟩:=hf it (by simp);refine(W X.A (I.ok.hd p)).item i s _ _ n st fun v h' tk hv f j=>?_
  obtain⟨c,u,hc',rfl⟩:=hv;have I1:Jd X pins σ H {s with heap:=h',toks:=tk}:=I.turned (t':=tk) (fun b o a e=>j b o (by simpa using a) e) f0 f1 f3 f4 f5;obtain⟨o,e,cc,d⟩:=id f;exact⟨_,rfl,Ad (s:={s with heap:=h',toks:=tk}) e cc d hn ⟨.str ⟨#[c]⟩,H,I1,⟨u,rfl⟩,⟨rfl,c,hc',rfl⟩,f,fun b a=>(hf b a).1⟩⟩
 done:=by
  intro X q g y p i pins s σ H E I hf st n;subst q g y;obtain⟨f0,f1,f2,f3,f4,f5⟩:=hf it (by simp);have hg':i=x.cps.size:=n;subst hg';exact(W X.A (I.ok.hd p)).done s _ _ st fun h' tk j=>⟨rfl,I.turned (t':=tk) (fun b o a e=>j b o (by simpa using a) e) f0 f1 f3 f4 f5⟩
 self:=fun A i s Q E st h=>hself A i s Q E st h
def LB(tl:TE):TI:=fun σ H R=>tl σ H fun x H1=>∃z,x= .str z/\R (HA z) H1
theorem ZE{tg l:J7}{tl:TE}(hl:PE X l tl):PI X tg l (LB tl):=by
 intro pins s σ H R I h;refine JH (hl pins s σ H _ I h) fun v a ⟨x,H1,c,j,n⟩=>?_
 obtain⟨z,e,q⟩:=n;subst e;obtain⟨t,rfl⟩:=(show ∃t,v=Value.str z t from j);have f:∀b:Addr,b∈[a.heap.objs.size]->MK X pins H1 b:=fun b p=>by
  have e:b=a.heap.objs.size:=by simpa using p
  subst e;exact c.fpOk (Y8 _) (c.hok.fresh (Y8 _))
 cases ha:z.cps.all (· < 128)
 .exact wpAny_pyIter_wide ha ⟨a.heap.objs.size, [a.heap.objs.size], _, _, H1, rfl, c.kept (t' := a.toks) fun b o e => Y7 _ e,
   Py (fun A g => Walks.strWide g _ z t) (fun A i s Q E st h => wpAny_pyIter_striter_wide st h) (by decide), ⟨_, Yc _ rfl, rfl, rfl⟩, f, q⟩
 .exact wpAny_pyIter_ascii ha ⟨a.heap.objs.size, [a.heap.objs.size], _, _, H1, rfl, c.kept (t' := a.toks) fun b o e => Y7 _ e,
   Py (fun A g => Walks.strAscii g _ z t) (fun A i s Q E st h => wpAny_pyIter_striter_ascii st h) (by decide), ⟨_, Yc _ rfl, rfl, rfl⟩, f, q⟩
theorem gI{caps:List (Option Nat)}{g:TG}{tc:TT}{te:TE}{z:Str}{σ:St}{H1:Hp}{Q:VK}(Pv:Nat->List V->St->Hp->Prop)(h0:Pv 0 [] (NV caps σ) H1)(hl:∀i ys σ H,Pv i ys σ H->i <=z.cps.size->ys.length <=i)(hz:z.cps.size <=sizeLine)
  (hs:∀i c ys σ H,z.cps[i]?=some c->Pv i ys σ H->g (.str ⟨#[c]⟩) σ H fun σ2 H2=>tc σ2 H2 fun b H3=>if b=true then te σ2 H3 fun y H4=>Pv (i+ 1) (ys++[y]) σ2 H4 else Pv (i+ 1) ys σ2 H3)
  (hd:∀ys σ H,Pv z.cps.size ys σ H->∀p,H p=none->Q (.ref p) (upd H p (.lst ys))):
  BP caps g tc te σ Q (HA z) H1:=by
 refine⟨fun i m ys σ H=>m=z.cps.size - i/\i <=z.cps.size/\Pv i ys σ H,⟨z.cps.size,by simp,Ys _,h0⟩,?_⟩;rintro i m ys σ H ⟨rfl,hi,p⟩;have j:=hl i ys σ H p hi
 by_cases hlt:i < z.cps.size
 .refine .inr ⟨hlt,by lia,Pv (i+ 1),fun h σ' H' a=>⟨z.cps.size - (i+ 1),by lia,rfl,hlt,a⟩,fun x H' y=>?_⟩;obtain⟨e,c,f,y⟩:=y;subst e y;exact hs i c ys σ _ f p
 .have e:i=z.cps.size:=by lia
  subst e;exact .inl ⟨rfl,by lia,hd ys σ H p⟩
end
def Z5(N N':List Str)(scope:Scope)(caps:List (Option Nat))(sc:Scope):Bool:=
 decide (scope.kind= .function) && (scope.names.all fun y=>decide (y.2≠ .cell)) && (scope.names.all fun y=>decide (y.2= .local->scope.names.lookup y.1=some .local)) && decide (caps.length=N'.length) &&
 ((N'.zip caps).all fun p => match p.2 with
  |none=>true
  | some j => decide (N[j]? = some p.1) && decide ((p.1, NameKind.free) ∈ scope.names) && (scope.names.all fun y => decide (y.1 = p.1 -> y.2 = .free))) &&
 (scope.names.all fun y=>decide (y.2= .free->sc.names.lookup y.1=some .cell\/sc.names.lookup y.1=some .free))
theorem MW{X:Cx}{N':List Str}{scope:Scope}{caps:List (Option Nat)}{sc:Scope}{N:List Str}(hsc:X.env.scope=sc)(hN:X.N=N)(h:Z5 N N' scope caps sc=true):BU X N' scope caps:=by
 subst hsc hN;unfold Z5 at h;simp only[X5,Ya,Xr]at h;obtain⟨⟨⟨⟨⟨h1,h2⟩,n⟩,g⟩,f⟩,e⟩:=h;refine⟨h1,h2,n,⟨g,fun i j x r p=>?_⟩,fun x b=>?_⟩
 .have a:(x,some j)∈N'.zip caps:=by
   have:(N'.zip caps)[i]?=some (x,some j):=by
    rw[UT];exact⟨r,p⟩
   exact Yq this
  have q:=f _ a;simp only[X5,Ya,Xr]at q;exact⟨q.1.1,q.1.2,fun k c=>q.2 _ c rfl⟩
 .exact e _ b rfl
theorem MY{X:Cx}{N:List Str}(h:X.N=N)(d:N.Nodup):X.N.Nodup:=h▸d
theorem Er{X:Cx}{x:Str}{n:Int}{pos:Pos}(hg:Gl X x)(hm:∃t,X.mg x=some (.int n t))(hd:(x==("__debug__":Str))=false:=by decide):PE X (.Name x pos) (tC (.int n)):=by
 obtain⟨t,e⟩:=hm;exact B4 hg e ⟨t,rfl⟩ hd
structure Tk(P:WP)(w:WU)(K:WV)(mg:WL)(base:J6)(x:Str)(k:Nat)(ps:List Str)(dvs:List V)(sp:Sp):Prop where
 ex:∃ (f:WX) (fd:WR) (ds:WZ),Jj P w K mg base JZ k f fd ps sp/\mg x=some (.ref f)/\W.keepIn K (.ref f)=true/\TJ K fd ps ds/\Ji dvs ds
structure GJ(P:WP)(w:WU)(K:WV)(mg:WL)(base:J6)(x:Str)(C:WX)(k:Nat)(ps:List Str)(dvs:List V)(sp:Sp):Prop where
 ex:∃ (f:WX) (fd:WR) (ds:WZ),Jj P w K mg base JZ k f fd ps sp/\mg x=some (.ref C)/\Mk K C f/\TJ K fd ps ds/\Ji dvs ds
structure T9(P:WP)(w:WU)(K:WV)(mg:WL)(base:J6)(C:WX)(m:Str)(k:Nat)(ps:List Str)(dvs:List V)(sp:Sp):Prop where
 ex:∃ (f:WX) (fd:WR) (ds:WZ),Jj P w K mg base JZ k f fd ps sp/\D4 K C/\Q3 K C m f/\TJ K fd ps ds/\Ji dvs ds
section
variable{X:Cx}{k:Nat}{C:WX}{ps:List Str}{sp:Sp}{dvs:List V}{x m:Str}{p pos apos:Pos}{e o:J7}{es:List Expr}{ta:TE}{t:TA}
theorem T7(F:Tk X.prog X.w X.K X.mg X.base x k ps dvs sp)(hr:Room k X.A)(hg:Gl X x)(ha:PA X (e::es) t)(hdb:(x==("__debug__":Str))=false:=by decide)
  (he:starEach (e::es) X.env=(false,eval e X.env)::starEach es X.env:=by rfl) (hpl:(backTo pos (starEach es X.env)).any (·.1)=false:=by rfl):PE X (.Call (.Name x p) (e::es) [] pos) (Au sp dvs E0 t):=by
 obtain⟨f,fd,ds,G,a,b,c,hd⟩:=F.ex;exact mZ G hr hg a b c hd Cm ha hdb he hpl
end
structure Bt(mg:WL):Prop where
 len:mg "len"=none
 range:mg "range"=none
 isinstance:mg "isinstance"=none
 all:mg "all"=none
 min:mg "min"=none
 max:mg "max"=none
 bint:mg "int"=none
 bbool:mg "bool"=none
 bstr:mg "str"=none
 blist:mg "list"=none
 btuple:mg "tuple"=none
def Nj(a:WX)(H H':Hp):Prop:=∀b o,H b=some o->b≠a->H' b=some o
theorem Nj.refl(a:WX)(H:Hp):Nj a H H:=fun _ _ h _=>h
theorem Nj.trans{a:WX}{H H1 H2:Hp}(x:Nj a H H1)(y:Nj a H1 H2):Nj a H H2:=fun b o h n=>y b o (x b o h n) n
theorem Nj.upd{a:WX}{H:Hp}{o:HO}:Nj a H (upd H a o):=fun b _ h n=>by rw[JF n];exact h
def CD(g:TG)(tb:TS)(D:TQ)(σ:St)(J:It)(H1:Hp):Prop:=∃W:Nat->Nat->St->Hp->Prop,(∃m,W 0 m σ H1)/\∀i m σ H,W i m σ H->
 (J.stop i H/\D.nx σ H)\/(J.go i H/\∃N:St->Hp->Prop,(∀σ' H',N σ' H'->∃m',m' < m/\W (i+ 1) m' σ' H')/\∀x H',J.yld i H x H'->g x σ H' fun σ2 H2=>tb {D with nx:=N,ct:=N,bk:=D.nx} σ2 H2)
theorem S5(wi:TI)(g:TG)(tb:TS)(D:TQ)(σ:St)(H:Hp):Z3 wi g tb D σ H=wi σ H fun J H1=>CD g tb D σ J H1:=rfl
theorem Aw{K:WV}{a:WX}{xs:List V}{g:TG}{tb:TS}{D:TQ}{σ:St}{H:Hp}(Pv:Nat->St->Hp->Prop)(h0:Pv 0 σ H)(hl:∀i σ H,i <=xs.length->Pv i σ H->Jh K H a xs)
  (hs:∀i x σ H,xs[i]?=some x->Pv i σ H->g x σ H fun σ2 H2=>tb {D with nx:=Pv (i+ 1),ct:=Pv (i+ 1),bk:=D.nx} σ2 H2) (hd:∀σ H,Pv xs.length σ H->D.nx σ H):CD g tb D σ (RX K a) H:=aZ Pv h0 hl hs hd
theorem LH{lo:Int}{n:Nat}{g:TG}{tb:TS}{D:TQ}{σ:St}{H:Hp}(Pv:Nat->St->Hp->Prop)(h0:Pv 0 σ H)
  (hs:∀i σ H,i < n->Pv i σ H->g (.int (lo+ i)) σ H fun σ2 H2=>tb {D with nx:=Pv (i+ 1),ct:=Pv (i+ 1),bk:=D.nx} σ2 H2) (hd:∀σ H,Pv n σ H->D.nx σ H):CD g tb D σ (Rv lo n) H:=Zv Pv h0 hs hd
theorem N0{n:Nat}(h:n <=100000):n <=sizeLine:=YF h (by rw[YT];decide)
theorem DK{n:Nat}(h:n <=100000):n < sizeLine:=Yi h (by rw[YT];decide)
def GA:HO->Option String
 | .lst _=>some "list"
 | .tup _=>some "tuple"
 | .dK _=>some "dict"
 |_=>none
def M0(H:Hp):V->Option String
 | .non=>some "NoneType"
 | .bl _=>some "bool"
 | .int _=>some "int"
 | .str _=>some "str"
 | .ref a=>(H a).bind GA
 |_=>none
def BH(n T:String):Bool:=n==T||(n=="bool" && T=="int")
theorem uB{K:WV}{H:Hp}{x:V}{n:String}(h:M0 H x=some n):Gx K H x (.type n)/\n∈["NoneType","bool","int","str","list","tuple","dict"]:=by
 cases x with
 |non=>cases h;exact⟨.non,by simp⟩
 |bl b=>cases h;exact⟨.bl b,by simp⟩
 |int i=>cases h;exact⟨.int i,by simp⟩
 |str i=>cases h;exact⟨.str i,by simp⟩
 |ref a=>
  have h:(H a).bind GA=some n:=h;cases e:H a with
  |none=>rw[e]at h;cases h
  |some o=>
   rw[e]at h;cases o <;> first|(cases h;done)|skip
   .cases h;exact⟨.lst e,by simp⟩
   .cases h;exact⟨.tup e,by simp⟩
   .cases h;exact⟨.dK e,by simp⟩
 |_=>cases h
theorem aS{K:WV}{n T:String}(hn:n∈["NoneType","bool","int","str","list","tuple","dict"])(hT:T∈["bool","int","str","list","tuple","dict"]):W.kitOne K (.type n) (.type T)=some (BH n T):=by
 simp only[Yo,List.not_mem_nil,Wy]at hn hT;rcases hn with rfl|rfl|rfl|rfl|rfl|rfl|rfl <;> rcases hT with rfl|rfl|rfl|rfl|rfl|rfl <;> rfl
def O1(T:String):List V->Hp->VK->Prop:=fun xs H Q=>∃x n,xs=[x,.ty T]/\M0 H x=some n/\Q (.bl (BH n T)) H
theorem RK{X:Cx}(T:String)(hT:T∈["bool","int","str","list","tuple","dict"]:=by decide):JA X (.builtin "isinstance") (O1 T):=by
 intro pins s σ H xs a Q I r h;obtain⟨x,n,rfl,ty,q⟩:=h;obtain⟨c,b⟩:=uB (K:=X.K) ty;exact Ij pins s σ H _ a Q I r ⟨x,.ty T,_,_,rfl,c,rfl,aS b hT,q⟩
theorem j4{H:Hp}{a:WX}{xs:List V}(h:H a=some (.lst xs)):M0 H (.ref a)=some "list":=by show(H a).bind GA=_;rw[h];rfl
theorem w6{H:Hp}{a:WX}{xs:List V}(h:H a=some (.tup xs)):M0 H (.ref a)=some "tuple":=by show(H a).bind GA=_;rw[h];rfl
theorem wX{H:Hp}{i:Int}:M0 H (.int i)=some "int":=rfl
theorem bH{H:Hp}{i:Bool}:M0 H (.bl i)=some "bool":=rfl
theorem bN{H:Hp}{i:Str}:M0 H (.str i)=some "str":=rfl
theorem gE{H:Hp}:M0 H .non=some "NoneType":=rfl
def Rt:V->Bool
 | .int _=>true
 |_=>false
def RZ:V->Bool
 | .bl _=>true
 |_=>false
def Ls:V->Bool
 | .str _=>true
 |_=>false
def A8(H:Hp):V->Bool
 | .ref a=>match H a with
  |some (.lst _)=>true
  |_=>false
 |_=>false
theorem O4{o:HO}{n:String}(h:GA o=some n):n="list"\/n="tuple"\/n="dict":=by
 cases o <;> first|(cases h;done)|(cases h;simp)
theorem bQ{H:Hp}{x:V}{n:String}(h:M0 H x=some n):BH n "int"=(Rt x||RZ x):=by
 cases x with
 |ref a=>
  have h:(H a).bind GA=some n:=h;cases e:H a with
  |none=>rw[e]at h;cases h
  |some o=>
   rw[e]at h;rcases O4 h with rfl|rfl|rfl <;> rfl
 |_=>first|(cases h;done)|(cases h;rfl)
theorem OG{H:Hp}{x:V}{n:String}(h:M0 H x=some n):BH n "bool"=RZ x:=by
 cases x with
 |ref a=>
  have h:(H a).bind GA=some n:=h;cases e:H a with
  |none=>rw[e]at h;cases h
  |some o=>
   rw[e]at h;rcases O4 h with rfl|rfl|rfl <;> rfl
 |_=>first|(cases h;done)|(cases h;rfl)
theorem cN{H:Hp}{x:V}{n:String}(h:M0 H x=some n):BH n "str"=Ls x:=by
 cases x with
 |ref a=>
  have h:(H a).bind GA=some n:=h;cases e:H a with
  |none=>rw[e]at h;cases h
  |some o=>
   rw[e]at h;rcases O4 h with rfl|rfl|rfl <;> rfl
 |_=>first|(cases h;done)|(cases h;rfl)
theorem yT{H:Hp}{x:V}{n:String}(h:M0 H x=some n):BH n "list"=A8 H x:=by
 cases x with
 |ref a=>
  have h:(H a).bind GA=some n:=h;cases e:H a with
  |none=>rw[e]at h;cases h
  |some o=>
   rw[e]at h;have b:A8 H (.ref a)=match some o with|some (.lst _)=>true|_=>false:=by
    show(match H a with|some (.lst _)=>true|_=>false)=_;rw[e]
   rw[b];cases o <;> first|(cases h;done)|(cases h;rfl)
 |_=>first|(cases h;done)|(cases h;rfl)
theorem tQ{H:Hp}{x:V}(h:A8 H x=true):∃a xs,x= .ref a/\H a=some (.lst xs):=by
 cases x with
 |ref a=>
  have h:(match H a with|some (.lst _)=>true|_=>false)=true:=h;cases e:H a with
  |none=>rw[e]at h;cases h
  |some o=>
   rw[e]at h;cases o <;> first|(cases h;done)|exact⟨a,_,rfl,e⟩
 |_=>cases h
theorem Cc{H H':Hp}(s:Jb H H'){x:V}{n:String}(h:M0 H x=some n):M0 H' x=some n:=by
 cases x with
 |ref a=>
  have h:(H a).bind GA=some n:=h;show(H' a).bind GA=some n;cases e:H a with
  |none=>rw[e]at h;cases h
  |some o=>rw[s a o e];rw[e]at h;exact h
 |_=>exact h
def Ds(x:V)(lo hi:Int):Bool:=match x with
 | .int i=>decide (lo <=i) && decide (i <=hi)
 |_=>false
def BJ(c:Nat):Bool:=decide (97 <=c) && decide (c <=122)
def Di:V->Bool
 | .str z=>decide (1 <=z.length) && decide (z.length <=8) && z.cps.toList.all BJ
 |_=>false
def Gy(H:Hp):V->Bool
 | .ref a=>match H a with
  |some (.lst xs)=>decide (1 <=xs.length) && decide (xs.length <=4000) && xs.all (fun y=>Ds y 0 255)
  |_=>false
 |_=>false
theorem QI{H:Hp}{a:WX}{xs:List V}(h:H a=some (.lst xs)):Gy H (.ref a)=(decide (1 <=xs.length) && decide (xs.length <=4000) && xs.all (fun y=>Ds y 0 255)):=by
 show(match H a with|some (.lst xs)=>decide (1 <=xs.length) && decide (xs.length <=4000) && xs.all (fun y=>Ds y 0 255)|_=>false)=_;rw[h]
theorem rV{H:Hp}{x:V}(h:A8 H x=false):Gy H x=false:=by
 cases x with
 |ref a=>
  have h:(match H a with|some (.lst _)=>true|_=>false)=false:=h;show(match H a with|some (.lst xs)=>_|_=>false)=false;cases e:H a with
  |none=>rfl
  |some o=>
   rw[e]at h;cases o <;> first|rfl|cases h
 |_=>rfl
theorem Jb.new{H H':Hp}{p:WX}{o:HO}(x:Jb H H')(h:H p=none):Jb H (upd H' p o):=fun b u e=>by
 rw[JF (NI e h)];exact x b u e
theorem vW(c:Nat):((!decide ((⟨#[c]⟩:Str).cps.toList < ("a":Str).cps.toList))=decide (97 <=c))/\((!decide (("z":Str).cps.toList < (⟨#[c]⟩:Str).cps.toList))=decide (c <=122)):=by
 have i:("a":Str).cps.toList=[97]:=by decide +kernel
 have g:("z":Str).cps.toList=[122]:=by decide +kernel
 rw[i,g];have e:(⟨#[c]⟩:Str).cps.toList=[c]:=rfl;rw[e];have f:∀a b:Nat,([a] < [b])↔a < b:=fun a b=>by
  constructor
  .intro h;rcases Wq.mp h with h|⟨_,h⟩
   .exact h
   .exact absurd h (List.not_lt_nil _)
  .intro h;exact Wq.mpr (.inl h)
 constructor
 .rw[YA];simp only[XI,XG,Ya,f];lia
 .rw[YA];simp only[XI,XG,Ya,f];lia
def LO(t:TS):TS:=fun D σ H=>∃R:St->Hp->Prop,t {D with nx:=R} σ H/\∀σ' H',R σ' H'->D.nx σ' H'
theorem GI{X:Cx}{st:Stmt}{t:TS}(h:PS X st t):PS X st (LO t):=by
 intro pins s σ H D I b;obtain⟨R,h1,h2⟩:=b;refine JH (h pins s σ H _ I h1) fun f s' q=>?_
 cases f with
 |next=>obtain⟨σ',H',c,a⟩:=q;exact⟨σ',H',c,h2 σ' H' a⟩
 |brk=>exact q
 |cont=>exact q
 |ret v=>exact q
section
variable{X:Cx}{K:WV}
theorem Qt(h:X.K=K):GW X (Az K):=h▸uJ
theorem aV(h:X.K=K):GW X (A9 K):=h▸rP
theorem mN(h:X.K=K):RT X (Fp K):=h▸m7
def CV(K:WV):List V->Hp->VK->Prop:=fun xs H Q=>∃p ys,xs=[.ref p]/\(Jh K H p ys\/JC K H p ys)/\Q (.int ys.length) H
def LV(K:WV):List V->Hp->VK->Prop:=fun xs H Q=>∃p ys,xs=[.ref p]/\(Jh K H p ys\/JC K H p ys)/\∀l,H l=none->Q (.ref l) (upd H l (.lst ys))
def HM(K:WV):List V->Hp->VK->Prop:=fun xs H Q=>∃ (p:WX) (bs:List Bool),xs=[.ref p]/\Jh K H p (bs.map V.bl)/\Q (.bl (bs.all id)) H
theorem Dd(h:X.K=K):JA X (.builtin "len") (CV K):=h▸vE
theorem HG(h:X.K=K):JA X (.type "list") (LV K):=h▸yZ
theorem QQ(hc:X.calm=true)(h:X.K=K):JA X (.builtin "all") (HM K):=h▸y0 hc
theorem tE(hu:X.A.units+ 64 < cLine)(h:X.K=K):Nd X (compareOp .Eq) (Q9 K):=h▸aJ hu
theorem At(hu:X.A.units+ 64 < cLine)(h:X.K=K):Nd X (compareOp .NotEq) (OZ K):=h▸bO hu
theorem He(h:X.K=K):Nd X (compareOp .In) (Sb K false):=h▸jM
theorem Et{e:J7}{f:Str}{pos:Pos}{ta:TE}(h:X.K=K)(he:PE X e ta)(hb:attributeBase e f X.env (eval e X.env)=eval e X.env):PE X (.Attribute e f pos) (FA K ta f):=h▸wG he hb
theorem GR{o value:J7}{f:Str}{pos pos':Pos}{ta tv:TE}(h:X.K=K)(ha:PE X o ta)(hv:PE X value tv)(hs:swapsWith value (some (.Attribute o f pos')) pos.line X.env=pure false):PS X (.Assign [.Attribute o f pos'] value pos) (CC K ta tv f):=h▸mQ ha hv hs
theorem EL{es:List Expr}{k:Nat}{t:Ec}{n:Nat}{pos:Pos}(h:X.K=K)(hc:X.calm=true)(hg:AH X es t)
  (hn:(assignEach es X.env).length=n:=by rfl) (hst:(assignEach es X.env).findIdx? (·.1)=none:=by rfl):PG X (.Tuple es k pos) (AW K n t):=h▸Zl hc hg hn hst
theorem wL{tg l:J7}{tl:TE}(h:X.K=K)(hl:PE X l tl):PI X tg l (EH K tl):=h▸yR hl
theorem D5{o e:J7}{es:List Expr}{to:TE}{t:TA}{name:Str}{apos cpos:Pos}{T id:String}{r:V->List V->Hp->VK->Prop}(h:X.K=K)(pa:PlainAttrs T)(slot:Slot T name id)(hty:typeOf (.builtin id)=pure (.type "method_descriptor"))(hm:Ck X id r)(ho:PE X o to)(ha:PA X (e::es) t)
  (hbase:attributeBase o name X.env (eval o X.env)=eval o X.env:=by rfl)
  (hfew : ((backTo cpos (starEach (e :: es) X.env)).all (fun x => !x.1) && (backToKw cpos (keywordEach [] X.env)).all (fun x => x.1.isSome)
   && decide ((e :: es).length + ([] : List Keyword).length + (if ([] : List Keyword).isEmpty then 0 else 1) < 30)) = true := by rfl)
  (hline:(apos.endLine==cpos.line)=true:=by rfl) (hs:starEach (e::es) X.env=(false,eval e X.env)::starEach es X.env:=by rfl) (hplain:(backTo cpos (starEach es X.env)).any (·.1)=false:=by rfl):
  PE X (.Call (.Attribute o name apos) (e::es) [] cpos) (F8 K T r to t):=h▸gS pa slot hty hm ho ha hbase hfew hline hs hplain
end
theorem MD{H:Hp}{p:WX}{o:HO}(h:H p=none):Jb H (upd H p o):=(Jb.refl H).new h
section
variable{X:Cx}{es:List Expr}{t:TA}{pos:Pos}
def CO(t:TA):TE:=fun σ H Q=>t σ H fun xs H1=>xs.length <=sizeLine/\∀p G,H1 p=none->Jb H1 G->G p=some (.tup xs)->Q (.ref p) G
def Ax(t:TA):TE:=fun σ H Q=>t σ H fun xs H1=>xs.length <=sizeLine/\∀p G,H1 p=none->Jb H1 G->G p=some (.lst xs)->Q (.ref p) G
theorem Mn{x1}(h:PA X es t):PE X (.Tuple es x1 pos) (CO t):=by
 intro pins s σ H Q I g;refine wpAny_Tuple_spliced (JH (h pos pins s σ H _ I g) fun f a ⟨xs,H1,c,r,z,q⟩=>⟨by rw[<-r.length];exact z,?_⟩);have hf:H1 a.heap.objs.size=none:=c.hok.fresh (Y8 _);refine⟨.ref a.heap.objs.size,upd H1 a.heap.objs.size (.tup xs),c.laid (t':=a.toks) (fun b u e=>Y7 _ e) (Y8 _) ?_,rfl,q _ _ hf (MD hf) Nc⟩;exact⟨z,f,r,⟨_,Yc _ rfl,rfl,_,rfl⟩⟩
theorem TZ(h:PA X es t):PE X (.List es pos) (Ax t):=by
 intro pins s σ H Q I g;refine wpAny_List_spliced (JH (h pos pins s σ H _ I g) fun f a ⟨xs,H1,c,r,z,q⟩=>⟨by rw[<-r.length];exact z,?_⟩);have hf:H1 a.heap.objs.size=none:=c.hok.fresh (Y8 _);refine⟨.ref a.heap.objs.size,upd H1 a.heap.objs.size (.lst xs),c.laid (t':=a.toks) (fun b u e=>Y7 _ e) (Y8 _) ?_,rfl,q _ _ hf (MD hf) Nc⟩;exact⟨z,f,0,r,Yc _ rfl⟩
end
section
variable{X:Cx}{K:WV}
theorem Nd.imp{f:Value->Value->Sem Value}{r r':R2}(h:Nd X f r)(hi:∀x y H Q,r' x y H Q->r x y H Q):Nd X f r':=fun pins s σ H x y v u Q I b a q=>h pins s σ H x y v u Q I b a (hi _ _ _ _ q)
theorem JA.imp{f:WW}{r r':List V->Hp->VK->Prop}(h:JA X f r)(hi:∀xs H Q,r' xs H Q->r xs H Q):JA X f r':=fun pins s σ H xs a Q I b q=>h pins s σ H xs a Q I b (hi _ _ _ q)
theorem Dy.imp{id:String}{r r':V->List V->Hp->VK->Prop}(h:Dy X id r)(hi:∀x xs H Q,r' x xs H Q->r x xs H Q):Dy X id r':=fun pins s σ H x xs v a Q I b c q=>h pins s σ H x xs v a Q I b c (hi _ _ _ _ q)
theorem RT.imp{r r':V->Option Int->Option Int->Hp->VK->Prop}(h:RT X r)(hi:∀x a b H Q,r' x a b H Q->r x a b H Q):RT X r':=fun pins s σ H x v f e lo c g Q I i p n j q=>h pins s σ H x v f e lo c g Q I i p n j (hi _ _ _ _ _ q)
theorem GK.imp{t t':FG}(h:GK X t)(hi:∀o i v H Q,t' o i v H Q->t o i v H Q):GK X t':=fun pins s σ H o i v e f u Q I a b c q=>h pins s σ H o i v e f u Q I a b c (hi _ _ _ _ _ q)
def CZ:R2:=fun x y H Q=>∃l b xs zs,x= .ref l/\y= .ref b/\H l=some (.lst xs)/\H b=some (.lst zs)/\xs.length+ zs.length <=sizeLine/\∀p G,H p=none->Jb H G->G p=some (.lst (xs++zs))->Q (.ref p) G
theorem AC:Nd X (binaryOp .Add) CZ:=EG.imp fun x y H Q ⟨l,b,xs,zs,f,e,h1,h2,c,q⟩=>⟨l,b,xs,zs,f,e,h1,h2,c,fun p a=>q p _ a (MD a) Nc⟩
def CQ(K:WV):List V->Hp->VK->Prop:=fun xs H Q=>∃p ys,xs=[.ref p]/\(Jh K H p ys\/JC K H p ys)/\∀l G,H l=none->Jb H G->G l=some (.lst ys)->Q (.ref l) G
theorem OD(h:X.K=K):JA X (.type "list") (CQ K):=(HG h).imp fun xs H Q ⟨p,ys,e,h1,q⟩=>⟨p,ys,e,h1,fun l a=>q l _ a (MD a) Nc⟩
def Fw(K:WV):V->Option Int->Option Int->Hp->VK->Prop:=fun x lo hi H Q=>∃a xs,x= .ref a/\Jh K H a xs/\∀p G,H p=none->Jb H G->G p=some (.lst (Rp xs lo hi))->Q (.ref p) G
theorem QS(h:X.K=K):RT X (Fw K):=(mN h).imp fun x a b H Q ⟨p,ys,e,h1,q⟩=>⟨p,ys,e,h1,fun l c=>q l _ c (MD c) Nc⟩
def FK:V->List V->Hp->VK->Prop:=fun x vs H Q=>∃l xs y,x= .ref l/\vs=[y]/\H l=some (.lst xs)/\xs.length < sizeLine/\∀G,Nj l H G->G l=some (.lst (xs++[y]))->Q .non G
theorem GQ:Dy X "list.append" FK:=GC.imp fun x xs H Q ⟨l,ys,y,b,a,h1,h2,q⟩=>⟨l,ys,y,b,a,h1,h2,q _ Nj.upd Nc⟩
def Fu:V->List V->Hp->VK->Prop:=fun x vs H Q=>∃l b xs zs,x= .ref l/\vs=[.ref b]/\H l=some (.lst xs)/\H b=some (.lst zs)/\xs.length+ zs.length <=sizeLine/\∀G,Nj l H G->G l=some (.lst (xs++zs))->Q .non G
theorem nE:Dy X "list.extend" Fu:=Gz.imp fun x xs H Q ⟨l,b,ys,zs,e,c,h1,h2,a,q⟩=>⟨l,b,ys,zs,e,c,h1,h2,a,q _ Nj.upd Nc⟩
def HZ:V->List V->Hp->VK->Prop:=fun x vs H Q=>∃l xs y,x= .ref l/\vs=[]/\H l=some (.lst xs)/\xs[xs.length - 1]?=some y/\∀G,Nj l H G->G l=some (.lst xs.dropLast)->Q y G
theorem Zz:Dy X "list.pop" HZ:=EO.imp fun x xs H Q ⟨l,ys,y,b,a,h1,h2,q⟩=>⟨l,ys,y,b,a,h1,h2,q _ Nj.upd Nc⟩
def ID:V->V->V->Hp->(Hp->Prop)->Prop:=fun o i v H Q=>∃p xs k j,o= .ref p/\i= .int k/\H p=some (.lst xs)/\R3 xs.length k=some j/\∀G,Nj p H G->G p=some (.lst (xs.set j v))->Q G
theorem dY:GK X ID:=Ra.imp fun o i v H Q ⟨p,xs,k,j,b,a,h1,h2,q⟩=>⟨p,xs,k,j,b,a,h1,h2,q _ Nj.upd Nc⟩
def Kj(K:WV)(ta tv:TE)(f:Str):TS:=fun D σ H=>tv σ H fun y H1=>ta σ H1 fun x H2=>∃a C dx fs,x= .ref a/\H2 a=some (.ins C dx fs)/\D4 K C/\Jn K C f/\fs.length < 1000/\
 ∀G,Nj a H2 G->G a=some (.ins C dx (NO f y fs))->D.nx σ G
theorem Dc{o value:J7}{f:Str}{pos pos':Pos}{ta tv:TE}(h:X.K=K)(ha:PE X o ta)(hv:PE X value tv)(hs:swapsWith value (some (.Attribute o f pos')) pos.line X.env=pure false):PS X (.Assign [.Attribute o f pos'] value pos) (Kj K ta tv f):=by
 subst h;intro pins s σ H D I h;refine Vu (JH (hv pins s σ H _ I h) fun u b ⟨y,H1,z,e,q⟩=>JH (ha pins b σ H1 _ z q) fun j s2 ⟨x,H2,w,g,a,C,dx,fs,ex,p,c,n,l,i⟩=>?_) hs;subst ex;obtain rfl:j=Value.ref a:=g;exact Pq w p c n l e fun s3 r=>⟨σ,_,r,i _ Nj.upd Nc⟩
end
def Tf(K:WV)(H:Hp)(x:V)(f:Str)(v:V):Prop:=∃a C dx fs,x= .ref a/\H a=some (.ins C dx fs)/\D4 K C/\Jn K C f/\fs.lookup f=some v
def C8(K:WV)(ta:TE)(f:Str):TE:=fun σ H Q=>ta σ H fun x H1=>∃v,Tf K H1 x f v/\Q v H1
theorem jE{X:Cx}{K:WV}{e:J7}{f:Str}{pos:Pos}{ta:TE}(h:X.K=K)(he:PE X e ta)(hb:attributeBase e f X.env (eval e X.env)=eval e X.env):PE X (.Attribute e f pos) (C8 K ta f):=by
 subst h;intro pins s σ H Q I h;refine OE hb (JH (he pins s σ H _ I h) fun u w ⟨x,H1,j,b,v,⟨a,C,dx,fs,ex,g,c,n,l⟩,q⟩=>?_);subst ex;obtain rfl:u=Value.ref a:=b;exact Ob j g c n l fun p r i ru=>⟨v,H1,i,ru,q⟩
theorem P1{X:Cx}{K:WV}{o:J7}{to:TE}{name:Str}{apos cpos:Pos}{T id:String}{r:V->List V->Hp->VK->Prop}(h:X.K=K)(pa:PlainAttrs T)(slot:Slot T name id)(hty:typeOf (.builtin id)=pure (.type "method_descriptor"))(hm:Ck X id r)(ho:PE X o to)
  (hbase:attributeBase o name X.env (eval o X.env)=eval o X.env:=by rfl) (hline:(apos.endLine==cpos.line)=true:=by rfl):PE X (.Call (.Attribute o name apos) [] [] cpos) (AU K T r to):=h▸eB pa slot hty hm ho hbase hline
structure Go(P:WP)(w:WU)(K:WV)(mg:WL)(base:J6)(x:Str)(k:Nat)(sp:Sp):Prop where
 ex:∃ (f C:WX) (fd:WR) (ds:WZ) (dvs:List V) (ps:List Str) (sp0:Sp),Jj P w K mg base JZ k f fd ps sp0/\mg x=some (.ref C)/\Mk K C f/\TJ K fd ps ds/\Ji dvs ds/\
  ∀vs H Q,sp vs H Q E0->∀y dx G,H y=none->H dx=none->dx≠y->Jb H G->G y=some (.ins C dx [])->sp0 (.ref y::(vs++dvs)) G (fun v H2=>v= .non/\Q (.ref y) H2) E0
theorem GJ.ct{P:WP}{w:WU}{K:WV}{mg:WL}{base:J6}{x:Str}{C:WX}{k:Nat}{ps:List Str}{dvs:List V}{sp sp':Sp}(F:GJ P w K mg base x C k ps dvs sp)
  (h:∀vs H Q,sp' vs H Q E0->∀y dx G,H y=none->H dx=none->dx≠y->Jb H G->G y=some (.ins C dx [])->sp (.ref y::(vs++dvs)) G (fun v H2=>v= .non/\Q (.ref y) H2) E0):Go P w K mg base x k sp':=by
 obtain⟨f,fd,ds,G,a,M,b,hd⟩:=F.ex;exact⟨f,C,fd,ds,dvs,ps,sp,G,a,M,b,hd,h⟩
theorem EV{X:Cx}{k:Nat}{sp:Sp}{x:Str}{p pos:Pos}{e:J7}{es:List Expr}{t:TA}(F:Go X.prog X.w X.K X.mg X.base x k sp)(hr:Room (k+ 1) X.A)(hg:Gl X x)(ha:PA X (e::es) t)(hdb:(x==("__debug__":Str))=false:=by decide)
  (he:starEach (e::es) X.env=(false,eval e X.env)::starEach es X.env:=by rfl) (hpl:(backTo pos (starEach es X.env)).any (·.1)=false:=by rfl):PE X (.Call (.Name x p) (e::es) [] pos) (Au sp [] E0 t):=by
 obtain⟨f,C,fd,ds,dvs,ps,n,G,i,M,j,hd,hi⟩:=F.ex;intro pins s σ H Q I h;refine Uu (LS I hg i ?_ hdb);refine W.callWith_K (h₀:=X.base) I.ok.mod.kin M.kp (JH (ha pos pins s σ H _ I h) fun u z ⟨vs,H1,c,r,q⟩=>⟨c.kIn,?_⟩) he hpl;have q:sp (vs++[]) H1 Q E0:=q;rw[List.append_nil]at q;exact mP M G hr j hd Cm c r fun y dx b a g=>hi _ _ _ q y dx _ b a g ((MD a).new b) Nc
def GM(C:WX)(m:Str)(H:Hp)(x:V):Prop:=∃a dx fs,x= .ref a/\H a=some (.ins C dx fs)/\fs.lookup m=none
def F5(C:WX)(m:Str)(sp:Sp)(dvs:List V)(ta:TE)(t:TA):TE:=fun σ H Q=>ta σ H fun x H1=>GM C m H1 x/\t σ H1 fun vs H2=>sp (x::(vs++dvs)) H2 Q E0
section
variable{X:Cx}{k:Nat}{C:WX}{ps:List Str}{sp:Sp}{dvs:List V}{m:Str}{pos apos:Pos}{e o:J7}{es:List Expr}{ta:TE}{t:TA}
theorem DH{pl:Sem Bool}(he:PE X o ta)(F:T9 X.prog X.w X.K X.mg X.base C m k ps dvs sp)(hr:Room k X.A)(ha:PA X (e::es) t)
  (hst:starEach (e::es) X.env=(false,eval e X.env)::starEach es X.env:=by rfl) (hpl:(backTo pos (starEach es X.env)).any (·.1)=false:=by rfl)
  (ht : eval (.Call (.Attribute o m apos) (e :: es) [] pos) X.env = (do
   let ov <-eval o X.env
   standAt apos.atName
   let (f,first) <-holding [ov] (getMethod ov m pl)
   callWith pos f first (backTo pos (starEach (e :: es) X.env)) (backToKw pos (keywordEach [] X.env))) := by rfl) :
  PE X (.Call (.Attribute o m apos) (e::es) [] pos) (F5 C m sp dvs ta t):=by
 obtain⟨f,fd,ds,G,c,b,y,hd⟩:=F.ex;intro pins s σ H Q I h;refine W.methodCall_KW (pl:=pl) (JH (he pins s σ H _ I h) fun u j ⟨x,H1,i,n,⟨a,dx,fs,ex,z,l⟩,q⟩=>?_) ht;subst ex;obtain rfl:u=Value.ref a:=n;refine Ot i z c b l ?_;refine W.callWith_K (first:=[.ref a]) (h₀:=X.base) I.ok.mod.kin b.kp (JH (ha pos pins j σ H1 _ i q) fun us s2 ⟨vs,H2,g,r,p⟩=>⟨g.kIn,?_⟩) hst hpl;exact KJ (us:=.ref a::us) (vs:=.ref a::vs) G hr y hd Cm g (.cons rfl r) p
theorem MA{pl:Sem Bool}(he:PE X o ta)(F:T9 X.prog X.w X.K X.mg X.base C m k ps dvs sp)(hr:Room k X.A)
  (ht : eval (.Call (.Attribute o m apos) [] [] pos) X.env = (do
   let ov <-eval o X.env
   standAt apos.atName
   let (f,first) <-holding [ov] (getMethod ov m pl)
   callWith pos f first (backTo pos (starEach [] X.env)) (backToKw pos (keywordEach [] X.env))) := by rfl) :
  PE X (.Call (.Attribute o m apos) [] [] pos) (F5 C m sp dvs ta Ru):=by
 obtain⟨f,fd,ds,G,c,e,i,hd⟩:=F.ex;intro pins s σ H Q I h;refine W.methodCall_KW (pl:=pl) (JH (he pins s σ H _ I h) fun u n ⟨x,H1,b,g,⟨a,dx,fs,ex,j,l⟩,q⟩=>?_) ht;subst ex;obtain rfl:u=Value.ref a:=g;refine Ot b j c e l ?_;exact W.callWith_K0 (first:=[.ref a]) b.kIn e.kp (KJ (us:=[.ref a]) (vs:=[.ref a]) G hr i hd Cm b (.cons rfl .nil) q)
end
theorem Jb.get{H G:Hp}{b:WX}{o:HO}(s:Jb H G)(h:H b=some o):G b=some o:=s b o h
theorem Nj.get{l:WX}{H G:Hp}{b:WX}{o:HO}(s:Nj l H G)(h:H b=some o)(n:b≠l):G b=some o:=s b o h n
theorem Jb.butNew{l:WX}{H H' G:Hp}(s:Jb H H')(b:Nj l H' G)(h:H l=none):Jb H G:=fun c o e=>b c o (s c o e) (NI e h)
theorem Nj.free{l:WX}{H G:Hp}(s:Nj l H G){b:WX}(h:G b=none)(n:b≠l):H b=none:=by
 cases e:H b with
 |none=>rfl
 |some o=>rw[s b o e n]at h;cases h
section
variable{caps:List (Option Nat)}{g:TG}{tc:TT}{te:TE}
theorem GV{K:WV}{a:WX}{xs:List V}{σ:St}{H1:Hp}{Q:VK}(Pv:Nat->List V->St->Hp->Prop)(h0:Pv 0 [] (NV caps σ) H1)(hl:∀i ys σ H,Pv i ys σ H->i <=xs.length->Jh K H a xs/\ys.length <=i)(hz:xs.length <=sizeLine)
  (hs:∀i x ys σ H,xs[i]?=some x->Pv i ys σ H->g x σ H fun σ2 H2=>tc σ2 H2 fun b H3=>if b=true then te σ2 H3 fun y H4=>Pv (i+ 1) (ys++[y]) σ2 H4 else Pv (i+ 1) ys σ2 H3)
  (hd:∀ys σ H,Pv xs.length ys σ H->∀p G,H p=none->Jb H G->G p=some (.lst ys)->Q (.ref p) G):BP caps g tc te σ Q (RX K a) H1:=
 QN Pv h0 hl hz hs fun ys σ H h p c=>hd ys σ H h p _ c (MD c) Nc
theorem Lo{lo:Int}{n:Nat}{σ:St}{H1:Hp}{Q:VK}(Pv:Nat->List V->St->Hp->Prop)(h0:Pv 0 [] (NV caps σ) H1)(hl:∀i ys σ H,Pv i ys σ H->i <=n->ys.length <=i)(hz:n <=sizeLine)
  (hs:∀i ys σ H,i < n->Pv i ys σ H->g (.int (lo+ i)) σ H fun σ2 H2=>tc σ2 H2 fun b H3=>if b=true then te σ2 H3 fun y H4=>Pv (i+ 1) (ys++[y]) σ2 H4 else Pv (i+ 1) ys σ2 H3)
  (hd:∀ys σ H,Pv n ys σ H->∀p G,H p=none->Jb H G->G p=some (.lst ys)->Q (.ref p) G):BP caps g tc te σ Q (Rv lo n) H1:=
 Zu Pv h0 hl hz hs fun ys σ H h p a=>hd ys σ H h p _ a (MD a) Nc
end
structure Bx(K:WV)(C:WX):Prop where
 ha:W.findIn K (.ref C) "__class__"=some (some (.builtin "object.__class__"))
 hn:W.specialIn K (.builtin "object.__class__") "__get__"=some (some (.builtin "getset_descriptor.__get__"))
 htk:W.takesIn K (.builtin "object.__class__")=some true
 hm:W.mroIn K C (.type "object")=some true
def HI(C:WX):List V->Hp->VK->Prop:=fun xs H Q=>∃a dx fs,xs=[.ref a,.ref C]/\H a=some (.ins C dx fs)/\Q (.bl true) H
theorem bC{X:Cx}{K:WV}{C:WX}(h:X.K=K)(cl:D4 K C)(ic:Bx K C):JA X (.builtin "isinstance") (HI C):=by
 subst h;intro pins s σ H xs b Q I r hh;obtain⟨a,dx,fs,rfl,ha,q⟩:=hh;refine Ij pins s σ H _ b Q I r ⟨.ref a,.ref C,.ref C,true,rfl,.ins ha cl ic.ha ic.hn ic.htk ic.hm,rfl,?_,q⟩;show W.kitOne X.K (.ref C) (.ref C)=some true;unfold W.kitOne;rw[Y6 (by simp)]
section
variable{P:WP}{w:WU}{K:WV}{mg:WL}{base:J6}
theorem T9.imp{C:WX}{m:Str}{k:Nat}{ps:List Str}{dvs:List V}{sp sp':Sp}(F:T9 P w K mg base C m k ps dvs sp)(h:∀vs H Q E,sp' vs H Q E->sp vs H Q E):T9 P w K mg base C m k ps dvs sp':=by
 obtain⟨f,fd,ds,a,b,c,d,e⟩:=F.ex;exact⟨f,fd,ds,a.imp h,b,c,d,e⟩
end
theorem JU{t u:TS}{D:TQ}{σ:St}{H:Hp}(h:∀N:St->Hp->Prop,(∀σ' H',u D σ' H'->N σ' H')->t {D with nx:=N} σ H):DU t u D σ H:=h (u D) fun _ _ x=>x
theorem cH(ns:WY){lo hi:Nat}(h1:lo <=hi)(h2:hi <=ns.length):Rp (ns.map V.int) (some (lo:Int)) (some (hi:Int))=((ns.drop lo).take (hi - lo)).map V.int:=by
 unfold Rp;rw[HT.sIx_nat,HT.sIx_nat,Y1,Wa h2,Wa (YF h1 h2),List.map_take,List.map_drop]
theorem mX{ns:List V}{hi:Nat}(h1:hi <=ns.length):Rp ns none (some (hi:Int))=ns.take hi:=by
 unfold Rp;rw[HT.sIx_nat,HT.sIx_none,Wa h1,Nat.sub_zero,List.drop_zero]
section
variable{κ:Type}[DecidableEq κ]
def JE(kvs:List (κ×V))(k:κ):Option V:=(kvs.find? fun kv=>decide (kv.1=k)).map (·.2)
def MZ(kvs:List (κ×V))(k:κ)(v:V):List (κ×V):=
 if(kvs.any fun kv=>decide (kv.1=k))=true then kvs.map (fun kv=>if kv.1=k then(kv.1,v) else kv) else kvs++[(k,v)]
theorem Rh{p:κ×V}{r:List (κ×V)}{k:κ}(e:p.1=k):JE (p::r) k=some p.2:=by simp[JE,YG,e]
theorem Re{p:κ×V}{r:List (κ×V)}{k:κ}(e:¬p.1=k):JE (p::r) k=JE r k:=by simp[JE,YG,e]
theorem AZ(k:κ):∀kvs:List (κ×V),(kvs.any fun kv=>decide (kv.1=k))=(JE kvs k).isSome
 |[]=>rfl
 |p::r=>by
  rw[XR]
  by_cases e:p.1=k
  .simp only[Rh e,Yh e,Bool.true_or,Option.isSome_some]
  .rw[Re e,Yk e,Bool.false_or];exact AZ k r
theorem SR(k j:κ)(y:V):∀kvs:List (κ×V),JE (kvs.map fun kv=>if kv.1=k then(kv.1,y) else kv) j=(JE kvs j).map fun x=>if j=k then y else x
 |[]=>rfl
 |p::r=>by
  have ih:=SR k j y r;rw[List.map_cons]
  by_cases h:p.1=k
  .rw[Y6 h]
   by_cases e:p.1=j
   .rw[Rh (p:=(p.1,y)) e,Rh e,VB,Y6 (e.symm.trans h)]
   .rw[Re (p:=(p.1,y)) e,Re e,ih]
  .rw[Y5 h]
   by_cases e:p.1=j
   .rw[Rh (p:=p) e,Rh e,VB,Y5 (fun z=>h (e.trans z))]
   .rw[Re (p:=p) e,Re e,ih]
theorem OS(k j:κ)(y:V):∀kvs:List (κ×V),JE kvs k=none->JE (kvs++[(k,y)]) j=if j=k then some y else JE kvs j
 |[],_=>by
  by_cases e:k=j
  .rw[Y6 e.symm];exact Rh (p:=(k,y)) e
  .rw[Y5 (fun z=>e z.symm)];exact Re (p:=(k,y)) e
 |p::r,hn=>by
  rw[List.cons_append];have hk:¬p.1=k:=fun z=>by rw[Rh z]at hn;cases hn
  rw[Re hk]at hn;have a:=OS k j y r hn
  by_cases e:p.1=j
  .rw[Rh e,Rh e,Y5 (fun z=>hk (e.trans z))]
  .rw[Re e,Re e,a]
theorem uS(kvs:List (κ×V))(k j:κ)(y:V):JE (MZ kvs k y) j=if j=k then some y else JE kvs j:=by
 unfold MZ
 by_cases a:(kvs.any fun b=>decide (b.1=k))=true
 .rw[Y6 a,SR];rw[AZ]at a
  by_cases e:j=k
  .obtain⟨x,c⟩:=UZ.mp a;rw[Y6 e,e,c,VB,Y6 rfl]
  .rw[Y5 e];cases JE kvs j with
   |none=>rfl
   |some x=>rw[VB,Y5 e]
 .rw[Y5 a];refine OS k j y kvs ?_;rw[AZ]at a;cases q:JE kvs k with
  |none=>rfl
  |some x=>rw[q]at a;exact(a rfl).elim
theorem P0(kvs:List (κ×V))(k:κ)(v:V):(MZ kvs k v).length <=kvs.length+ 1:=by
 unfold MZ
 split
 .rw[Y1];lia
 .rw[Yl,List.length_cons,List.length_nil];lia
theorem TH.isSome_eq{o:Option V}{u:Option Value}(r:TH o u):o.isSome=u.isSome:=by
 cases o with
 |none=>cases u with
  |none=>rfl
  |some _=>exact(show False from r).elim
 |some _=>cases u with
  |none=>exact(show False from r).elim
  |some _=>rfl
theorem KV.val{kvs:List (κ×V)}{vs:List (κ×Value)}(r:KV kvs vs)(k:κ):TH (JE kvs k) (valueAt vs k):=by
 unfold KV at r
 induction r with
 |nil=>exact True.intro
 |@cons p q ps qs h t ih=>
  obtain⟨h1,h2⟩:=h
  by_cases e:p.1=k
  .have a:q.1=k:=h1.symm.trans e;have b:valueAt (q::qs) k=some q.2:=by simp[valueAt,YG,a]
   rw[Rh e,b];exact h2
  .have a:¬q.1=k:=fun z=>e (h1.trans z)
   have b:valueAt (q::qs) k=valueAt qs k:=by simp[valueAt,YG,a]
   rw[Re e,b];exact ih
theorem KV.any{kvs:List (κ×V)}{vs:List (κ×Value)}(r:KV kvs vs)(k:κ):(kvs.any fun kv=>decide (kv.1=k))=vs.any fun kv=>decide (kv.1=k):=by
 unfold KV at r
 induction r with
 |nil=>rfl
 |cons h t ih=>rw[XR,XR,ih,h.1]
theorem KV.repl{kvs:List (κ×V)}{vs:List (κ×Value)}(r:KV kvs vs)(k:κ){y:V}{u:WW}(ry:Jr y u):
  KV (kvs.map fun kv=>if kv.1=k then(kv.1,y) else kv) (vs.map fun kv=>if kv.1=k then(kv.1,u) else kv):=by
 unfold KV at r ⊢
 induction r with
 |nil=>exact .nil
 |@cons p q ps qs h t ih=>
  rw[List.map_cons,List.map_cons];refine .cons ?_ ih;obtain⟨h1,h2⟩:=h
  by_cases e:p.1=k
  .rw[Y6 e,Y6 (h1.symm.trans e)];exact⟨h1,ry⟩
  .rw[Y5 e,Y5 (fun z=>e (h1.trans z))];exact⟨h1,h2⟩
theorem KV.put{kvs:List (κ×V)}{vs:List (κ×Value)}(r:KV kvs vs)(k:κ){y:V}{u:WW}(ry:Jr y u):KV (MZ kvs k y) (stored vs k u):=by
 unfold MZ stored;rw[r.any k]
 by_cases e:(vs.any fun a=>decide (a.1=k))=true
 .rw[Y6 e,Y6 e];exact r.repl k ry
 .rw[Y5 e,Y5 e];exact Paired.snoc r ⟨rfl,ry⟩
theorem KV.length{kvs:List (κ×V)}{vs:List (κ×Value)}(r:KV kvs vs):kvs.length=vs.length:=Paired.length r
end
theorem AB{P:WP}{w:WU}{k:Jw}{u:WW}(r:Jr (kV k) u):(Jo P w).is k u=true:=by
 cases k with
 |inl i=>obtain⟨t,e⟩:=(show ∃t,u=Value.int i t from r);subst e;exact nD P w i t
 |inr x=>obtain⟨t,e⟩:=(show ∃t,u=Value.str x t from r);subst e;exact uG P w x t
theorem Cg{P:WP}{w:WU}:∀{ks:List Jw} {us:WZ},Ji (ks.map kV) us->ItemsAre (Jo P w) ks us
 |[],_,r=>by rw[List.map_nil]at r;cases r;exact .nil
 |k::ks,_,r=>by
  rw[List.map_cons]at r;cases r with
  |cons h t=>exact .cons (AB h) (Cg t)
abbrev KT(H:Hp):List (List Jw×V)->List (List Jw×Addr×Value)->Prop:=Paired fun p q=>p.1=q.1/\H q.2.1=some (.tup (p.1.map kV))/\Jr p.2 q.2.2
theorem KT.val{H:Hp}{kvs:List (List Jw×V)}{xs:List (List Jw×Addr×Value)}(r:KT H kvs xs)(k:List Jw):TH (JE kvs k) ((atKey xs k).map (·.2)):=by
 induction r with
 |nil=>exact True.intro
 |@cons p q ps qs h t ih=>
  obtain⟨h1,_,h2⟩:=h
  by_cases e:p.1=k
  .have a:q.1=k:=h1.symm.trans e;have b:atKey (q::qs) k=some q.2:=by simp[atKey,YG,a]
   rw[Rh e,b];exact h2
  .have a:¬q.1=k:=fun z=>e (h1.trans z)
   have b:atKey (q::qs) k=atKey qs k:=by simp[atKey,YG,a]
   rw[Re e,b];exact ih
theorem KT.repl{H:Hp}{kvs:List (List Jw×V)}{xs:List (List Jw×Addr×Value)}(r:KT H kvs xs)(k:List Jw){y:V}{u:WW}(ry:Jr y u):
  KT H (kvs.map fun kv=>if kv.1=k then(kv.1,y) else kv) (xs.map (putAt k u)):=by
 induction r with
 |nil=>exact .nil
 |@cons p q ps qs h t ih=>
  rw[List.map_cons,List.map_cons];refine .cons ?_ ih;obtain⟨h1,h2,a⟩:=h;unfold putAt
  by_cases e:p.1=k
  .rw[Y6 e,Y6 (h1.symm.trans e)];exact⟨h1,h2,ry⟩
  .rw[Y5 e,Y5 (fun z=>e (h1.trans z))];exact⟨h1,h2,a⟩
theorem KT.put{H:Hp}{kvs:List (List Jw×V)}{xs:List (List Jw×Addr×Value)}(r:KT H kvs xs)(k:List Jw){b:WX}{y:V}{u:WW}(hb:H b=some (.tup (k.map kV)))(ry:Jr y u):
  KT H (MZ kvs k y) (storedH xs k b u):=by
 have e:(kvs.any fun a=>decide (a.1=k))=(atKey xs k).isSome:=by
  rw[AZ,(r.val k).isSome_eq,VX]
 unfold MZ storedH;rw[e]
 by_cases q:(atKey xs k).isSome=true
 .rw[Y6 q,Y6 q];exact r.repl k ry
 .rw[Y5 q,Y5 q];exact Paired.snoc r ⟨rfl,hb,ry⟩
theorem KT.keeps{H H':Hp}{kvs:List (List Jw×V)}{xs:List (List Jw×Addr×Value)}(r:KT H kvs xs)(ht:∀b ys,H b=some (.tup ys)->H' b=some (.tup ys)):KT H' kvs xs:=
 Paired.mapP r fun _ _ z=>⟨z.1,ht _ _ z.2.1,z.2.2⟩
section
variable{P:WP}{w:WU}{H:Hp}{h:J6}{a:WX}
theorem Qd{u:HO}(ok:TM P w H h)(e:Rd H a u):Jy P w H h a u:=e.ok ok
theorem BG{kvs:List (Jw×V)}(ok:TM P w H h)(e:Rd H a (.dK kvs)):kvs.length <=sizeLine/\(a==sysModules)=false/\∃vs,KV kvs vs/\h.DictOf (Jo P w) a vs:=
 show Jy P w H h a (.dK kvs) from Qd ok e
theorem m4{kvs:List (Jw×V)}(ok:TM P w H h)(e:H a=some (.dK kvs)):kvs.length <=sizeLine/\(a==sysModules)=false/\∃vs,KV kvs vs/\h.DictOf (Jo P w) a vs:=BG ok (.inl e)
theorem Rs{ks:List Jw}(ok:TM P w H h)(e:H a=some (.tup (ks.map kV))):(tupleKind (Jo P w)).is h ks a:=by
 obtain⟨_,b,r,o,h1,h2,n,c⟩:=(show Jy P w H h a (.tup (ks.map kV)) from ok a _ e);exact⟨o,b.toArray,n,h1,h2,c,by simpa using Cg r⟩
theorem AN{kvs:List (List Jw×V)}(ok:TM P w H h)(e:Rd H a (.dT kvs)):kvs.length <=sizeLine/\(a==sysModules)=false/\
  ∃xs,KT H kvs xs/\h.DictOfH (tupleKind (Jo P w)) a xs:=by
 obtain⟨z,y,xs,r,o,es,ep,h1,h2,g,f,c⟩:=(show Jy P w H h a (.dT kvs) from Qd ok e);refine⟨z,y,xs,r,o,es,ep,h1,h2,g,f,fun x b=>?_,c⟩;have all:∀{l:List (List Jw×V)} {m:List (List Jw×Addr×Value)},KT H l m->∀x∈m,(tupleKind (Jo P w)).is h x.1 x.2.1:=by
  intro l m q
  induction q with
  |nil=>intro x b;exact nomatch b
  |@cons p q ps qs hq t ih=>
   intro x b;rcases Yo.mp b with e|b
   .subst e;exact Rs ok (by rw[<-hq.1];exact hq.2.1)
   .exact ih x b
 exact all r x b
theorem BX{kvs:List (List Jw×V)}(ok:TM P w H h)(e:H a=some (.dT kvs)):kvs.length <=sizeLine/\(a==sysModules)=false/\
  ∃xs,KT H kvs xs/\h.DictOfH (tupleKind (Jo P w)) a xs:=AN ok (.inl e)
end
def MT(H:Hp)(a:WX)(y:V)(r:Option V):Prop:=
 (∃kvs k,Rd H a (.dK kvs)/\y=kV k/\r=JE kvs k)\/∃kvs k b,Rd H a (.dT kvs)/\y= .ref b/\H b=some (.tup (k.map kV))/\r=JE kvs k
def DZ(H:Hp)(a:WX)(y v:V)(H':Hp):Prop:=
 (∃kvs k,H a=some (.dK kvs)/\y=kV k/\kvs.length < sizeLine/\H'=upd H a (.dK (MZ kvs k v)))\/
 ∃kvs k b,H a=some (.dT kvs)/\y= .ref b/\H b=some (.tup (k.map kV))/\kvs.length < sizeLine/\H'=upd H a (.dT (MZ kvs k v))
theorem MT.k{H:Hp}{a:WX}{kvs:List (Jw×V)}{k:Jw}(e:H a=some (.dK kvs)):MT H a (kV k) (JE kvs k):=.inl ⟨kvs,k,.inl e,rfl,rfl⟩
theorem DZ.k{H:Hp}{a:WX}{kvs:List (Jw×V)}{k:Jw}{v:V}(e:H a=some (.dK kvs))(hl:kvs.length < sizeLine):DZ H a (kV k) v (upd H a (.dK (MZ kvs k v))):=.inl ⟨kvs,k,e,rfl,hl,rfl⟩
theorem DZ.t{H:Hp}{a b:WX}{kvs:List (List Jw×V)}{k:List Jw}{v:V}(e:H a=some (.dT kvs))(eb:H b=some (.tup (k.map kV)))(hl:kvs.length < sizeLine):
  DZ H a (.ref b) v (upd H a (.dT (MZ kvs k v))):=.inr ⟨kvs,k,b,e,rfl,eb,hl,rfl⟩
section
variable{X:Cx}{pins:WO}{σ:St}{H:Hp}{s:WQ}{a:WX}{y v:V}{u r:WW}{o:Option V}{A:WT}{E:WM}
theorem Jd.big(I:Jd X pins σ H s):sysModules < s.heap.objs.size:=by
 have h:mainGlobals < s.heap.objs.size:=(I.mod.glob.keeps I.bk).lt;exact WG (by decide) h
theorem jG{Q:WM}(hu:A.units+ 1 < cLine)(I:Jd X pins σ H s)(g:MT H a y (some v))(ry:Jr y u)(h:∀w' s',Jd X pins σ H s'->Jr v w'->Q w' s'):
  wpAny (model X.prog X.w) A (getItem (.ref a) u) Q E s:=by
 rcases g with⟨kvs,k,e,ey,l⟩|⟨kvs,k,b,e,ey,eb,l⟩
 .subst ey;obtain⟨z,hd,vs,f,j⟩:=BG I.hok e;obtain⟨w',i,c⟩:=TH.some_of (v:=v) (o:=valueAt vs k) (by rw[l];exact f.val k);exact wpAny_getItem_of (AB ry) j.mapOf i (h w' _ (I.tok _) c)
 .subst ey;cases (show u=Value.ref b from ry);obtain⟨z,hd,xs,f,j⟩:=AN I.hok e;obtain⟨w',i,c⟩:=TH.some_of (v:=v) (o:=(atKey xs k).map (·.2)) (by rw[l];exact f.val k);obtain⟨p,q,n⟩:=Ye.mp i;refine wpAny_getItem_heap (XU hu) (Rs I.hok eb) j q ?_;rw[n];exact h w' _ (I.tok _) c
theorem SI{Q:WM}(hu:A.units+ 1 < cLine)(I:Jd X pins σ H s)(g:MT H a y o)(ry:Jr y u)(h:∀s',Jd X pins σ H s'->Q (.bool o.isSome) s'):
  wpAny (model X.prog X.w) A (compareOp .In u (.ref a)) Q E s:=by
 rcases g with⟨kvs,k,e,ey,l⟩|⟨kvs,k,b,e,ey,eb,l⟩
 .subst ey;obtain⟨z,hd,vs,c,f⟩:=BG I.hok e;refine wpAny_in_of (AB ry) hd f.mapOf ?_;rw[<-(c.val k).isSome_eq,<-l];exact h _ (I.tok _)
 .subst ey;cases (show u=Value.ref b from ry);obtain⟨z,hd,xs,c,f⟩:=AN I.hok e;refine wpAny_in_heap (XU hu) (Rs I.hok eb) hd f ?_;have q:=(c.val k).isSome_eq;rw[VX]at q;rw[<-q,<-l];exact h _ (I.tok _)
theorem Zc{Q:WM}(hu:A.units+ 1 < cLine)(I:Jd X pins σ H s)(g:MT H a y o)(ry:Jr y u)(h:∀s',Jd X pins σ H s'->Q (.bool (!o.isSome)) s'):
  wpAny (model X.prog X.w) A (compareOp .NotIn u (.ref a)) Q E s:=by
 rcases g with⟨kvs,k,e,ey,l⟩|⟨kvs,k,b,e,ey,eb,l⟩
 .subst ey;obtain⟨z,hd,vs,c,f⟩:=BG I.hok e;refine wpAny_notIn_of (AB ry) hd f.mapOf ?_;rw[<-(c.val k).isSome_eq,<-l];exact h _ (I.tok _)
 .subst ey;cases (show u=Value.ref b from ry);obtain⟨z,hd,xs,c,f⟩:=AN I.hok e;refine wpAny_notIn_heap (XU hu) (Rs I.hok eb) hd f ?_;have q:=(c.val k).isSome_eq;rw[VX]at q;rw[<-q,<-l];exact h _ (I.tok _)
theorem CS{h':J6}{t':Nat}{ob:HO}(I:Jd X pins σ H s)(mu:Ac (H a))(hs:Heap.SameBut a s.heap h')(he:∃q,h'.get? a=some q)(new:Jy X.prog X.w (upd H a ob) h' a ob):
  Jd X pins σ (upd H a ob) {s with heap:=h',toks:=t'}:=
 I.write (x:=a) (e:=a) mu (.inl rfl) (fun b q c z=>(hs.2 b c).trans z) he new
theorem uF{P:WP}{w:WU}{H':Hp}{h':J6}{kvs:List (Jw×V)}{vs:List (Jw×Value)}(z:kvs.length <=sizeLine)(hd:(a==sysModules)=false)(rel:KV kvs vs)(dd:h'.DictOf (Jo P w) a vs):
  Jy P w H' h' a (.dK kvs):=⟨z,hd,vs,rel,dd⟩
theorem Pb{H':Hp}{Q:WN}(hu:A.units+ 1 < cLine)(I:Jd X pins σ H s)(g:DZ H a y v H')(ry:Jr y u)(rv:Jr v r)(h:∀s',Jd X pins σ H' s'->Q () s'):
  wpAny (model X.prog X.w) A (setItem (.ref a) u r) Q E s:=by
 rcases g with⟨kvs,k,e,ey,l,eH⟩|⟨kvs,k,b,e,ey,eb,l,eH⟩
 .subst ey eH;obtain⟨z,hd,vs,f,dd⟩:=m4 I.hok e;have n:vs.length <=sizeLine:=by rw[<-f.length];exact z
  have x:(MZ kvs k v).length <=sizeLine:=by have:=P0 kvs k v;lia
  refine wpAny_setItem_pairs (hsz:=n) (AB ry) dd fun h' i p=>h _ ?_
  have he:∃q,h'.get? a=some q:=let ⟨q,_,_,j,_⟩:=i;⟨q,j⟩;exact CS I (by rw[e];exact True.intro) p he (uF x hd (f.put k rv) i)
 .subst ey eH;cases (show u=Value.ref b from ry);obtain⟨z,hd,xs,f,dd⟩:=BX I.hok e;have n:xs.length <=sizeLine:=by rw[<-Paired.length f];exact z
  have x:(MZ kvs k v).length <=sizeLine:=by have:=P0 kvs k v;lia
  refine wpAny_setItem_heap (hsz:=n) (XU hu) (Rs I.hok eb) dd fun h' i p=>h _ ?_
  obtain⟨q,es,ep,j,h2,h3,h4,_,h5⟩:=i;refine CS I (by rw[e];exact True.intro) p ⟨q,j⟩ ⟨x,hd,_,(f.put k eb rv).keeps fun c ys ec=>?_,q,es,ep,j,h2,h3,h4,h5⟩;rw[JF (Ja ec e (fun z=>nomatch z))];exact ec
end
section
variable{X:Cx}{pins:WO}{σ:St}{H:Hp}{s:WQ}{a:WX}{kvs:List (Jw×V)}{k:Jw}{u:WW}{A:WT}{E:WM}
theorem aH{Q:WM}(I:Jd X pins σ H s)(e:Rd H a (.dK kvs))(h:∀t s',Jd X pins σ H s'->Q (.int kvs.length t) s'):wpAny (model X.prog X.w) A (call (.builtin "len") [.ref a]) Q E s:=by
 obtain⟨z,hd,vs,b,c⟩:=BG I.hok e;refine call_len_dict hd c (by rw[<-b.length];rw[YT]at z;lia) ?_;rw[<-b.length];exact h _ _ (I.tok _)
end
def HH(i:J7):Prop:=∀ov iv,subscripted i false ov iv=operate [ov,iv] (getItem ov iv)
theorem yC{prog:WP}{w:WU}{A:WT}{E:WM}{s:WQ}{env:Env}{value slice:J7}{pos:Pos}{T id:String}{Q:WM}
  (hl:typeLookup (.type T) "__getitem__"=pure (some (.builtin id))) (hs:HH slice)
  (h:wpAny (model prog w) A (eval value env) (fun o s₁=>wpAny (model prog w) A (eval slice env) (fun i s₂=>s₂.TypeIs o T/\wpAny (model prog w) A (getItem o i) Q E s₂) E s₁) E s):
  wpAny (model prog w) A (eval (.Subscript value slice pos) env) Q E s:=by
 refine Subscript_ (Xm h (fun o s₁ g=>Xm g (fun i s₂ b=>?_) fun _ _ x=>x) fun _ _ x=>x);obtain⟨e,b⟩:=b;unfold subscriptTail;refine Y0 ?_;rw[getitemInPython_of_ne e.not_modules];refine Y0 (Wb e hl ?_);have a:wpAny (model prog w) A (subscripted slice false o i) (fun r c=>wpAny (model prog w) A (letTemporaryGo value o r >>=fun _=>pure r) Q E c) E s₂:=by
  rw[hs o i];exact wpAny_operating (Xm b (fun r c f=>Y0 (wpAny_letTemporaryGo (Y2 f))) fun _ _ x=>x)
 first
  |exact Y2 (Y0 a)
  |exact Y0 (Y2 (Y0 a))
  |exact Y0 a
theorem rG{X:Cx}{pins:WO}{σ:St}{H:Hp}{s:WQ}{a:WX}{y:V}{o:Option V}(I:Jd X pins σ H s)(g:MT H a y o):s.TypeIs (.ref a) "dict":=by
 rcases g with⟨kvs,k,e,_,_⟩|⟨kvs,k,b,e,_,_,_⟩
 .obtain⟨_,_,vs,_,c⟩:=BG I.hok e;exact c.typeIs
 .obtain⟨_,_,xs,_,c⟩:=AN I.hok e;exact c.typeIs
def FB(td ty:TE):TE:=fun σ H Q=>td σ H fun x H1=>ty σ H1 fun y H2=>∃a v,x= .ref a/\MT H2 a y (some v)/\Q v H2
section
variable{X:Cx}{o i e value:J7}{pos pos' tpos:Pos}{td ty tv:TE}
theorem d0(hu:X.A.units+ 1 < cLine)(ho:PE X o td)(hi:PE X i ty)(hs:HH i):PE X (.Subscript o i pos) (FB td ty):=by
 intro pins s σ H Q I h;refine yC PySem.F.slot_dict_getitem.lookup hs (JH (ho pins s σ H _ I h) fun u e ⟨x,H1,r,j,p⟩=>JH (hi pins e σ H1 _ r p) fun iv s2 ⟨y,H2,c,f,a,v,ex,g,n⟩=>?_);subst ex;obtain rfl:u=Value.ref a:=j;exact⟨rG c g,jG hu c g f fun w z q b=>⟨v,H2,q,b,n⟩⟩
end
theorem vG{P:WP}{w:WU}{H:Hp}(h:J6)(hb:sysModules < h.objs.size):Jy P w H (h.push {cls:=.type "dict",data:=.dict #[]}) h.objs.size (.dK []):=
 ⟨Ys _,Xl.mpr (Ne.symm (Yr hb)),[],.nil,Heap.DictOf.new h⟩
theorem rT{P:WP}{w:WU}{H:Hp}(h:J6)(hb:sysModules < h.objs.size):Jy P w H (h.push {cls:=.type "dict",data:=.dict #[]}) h.objs.size (.dT []):=
 ⟨Ys _,Xl.mpr (Ne.symm (Yr hb)),[],.nil,_,#[],0,Yc _ rfl,⟨rfl,rfl,rfl⟩,rfl,rfl,U2⟩
def Zs:TE:=fun _ H Q=>∀p,H p=none->Q (.ref p) (upd H p (.dK []))
def eZ:TE:=fun _ H Q=>∀p,H p=none->Q (.ref p) (upd H p (.dT []))
section
variable{X:Cx}{pos:Pos}
theorem xG:PE X (.Dict [] [] pos) Zs:=fun pins s σ H Q I h=>
 wpAny_Dict_empty ⟨.ref s.heap.objs.size,_,I.laid (a:=s.heap.objs.size) (o:=.dK []) (t':=s.toks) (fun _ _ q=>Y7 _ q) (Y8 _) (vG s.heap I.big),rfl,h _ (I.hok.fresh (Y8 _))⟩
theorem gU:PE X (.Dict [] [] pos) eZ:=fun pins s σ H Q I h=>
 wpAny_Dict_empty ⟨.ref s.heap.objs.size,_,I.laid (a:=s.heap.objs.size) (o:=.dT []) (t':=s.toks) (fun _ _ q=>Y7 _ q) (Y8 _) (rT s.heap I.big),rfl,h _ (I.hok.fresh (Y8 _))⟩
end
section
variable{X:Cx}
theorem nH:JA X (.builtin "len") (fun xs H Q=>∃a kvs,xs=[V.ref a]/\H a=some (.dK kvs)/\Q (.int kvs.length) H):=by
 intro pins s σ H xs e Q I r h;obtain⟨a,kvs,rfl,b,q⟩:=h;obtain⟨u,rfl,ru⟩:=DO r;cases ru;exact aH I (.inl b) fun t s' c=>⟨.int kvs.length,H,c,⟨t,rfl⟩,q⟩
end
section
variable{X:Cx}{K:WV}
def Iu(K:WV):List V->Hp->VK->Prop:=fun xs H Q=>∃ (p:WX) (ns:WY),xs=[.ref p]/\Jh K H p (ns.map V.int)/\(∀x∈ns,-(2 ^ 62) <=x/\x < 2 ^ 62)/\(∀j,j <=ns.length-> -(2 ^ 62) <=(ns.take j).sum/\(ns.take j).sum < 2 ^ 62)/\Q (.int ns.sum) H
theorem HJ(hc:X.calm=true)(h:X.K=K):JA X (.builtin "sum") (Iu K):=by
 subst h;intro pins s σ H xs us Q I r hh;obtain⟨p,a,rfl,hq,hb,hs,q⟩:=hh;obtain⟨u,rfl,rx⟩:=DO r;cases rx;obtain⟨c,z,pl,hz⟩:=I.list hq;have hh:X.A.in1.handled=none:=I.ok.hd hc;have y:=pl.isList;have n:p < s.heap.objs.size:=by obtain⟨_,e,_⟩:=y;exact Yd e
 have g:a.length=c.length:=by have:=z.length;simpa using this
 refine call_sum_walk (Xt y ⟨s.heap.objs.size,_,_,_,_,_,fun i=>a.getD i 0,rfl,Wx hh s.heap.objs.size p (Yr n) c.toArray,⟨⟨_,Yc _ rfl,rfl,rfl⟩,y.push _⟩,?_,?_,?_,?_⟩)
 .intro b hb';have:b=s.heap.objs.size\/b=p:=by simpa using hb'
  show b < (s.heap.push _).objs.size;rw[XD];rcases this with rfl|rfl
  .exact U1 _
  .exact Xu n
 .intro i v hv;have f:c[i]?=some v:=by simpa using hv
  cases e:a[i]? with
  |none=>
   have:c[i]?=none:=by
    rw[US]at e ⊢;lia
   rw[this]at f;cases f
  |some b=>
   obtain⟨u,hu,ru⟩:=z.get (i:=i) (x:=V.int b) (by rw[Y9,e];rfl);rw[f]at hu;cases hu;obtain⟨t,rfl⟩:=(show ∃t,v=Value.int b t from ru);exact⟨t,by simp[List.getD,e]⟩
 .intro j hj;have w:j < a.length:=by simpa[g] using hj
  have e1:a.getD j 0=a[j]:=by simp[List.getD,w]
  have h1:=hb _ (Xk w);have h2:=hs (j+ 1) (by lia);rw[preSum_getD];dsimp only;rw[e1];exact⟨⟨by lia,by lia⟩,by lia,by lia⟩
 .intro h' tk t' hk;have e:preSum (fun i=>a.getD i 0) c.toArray.size=a.sum:=by
   rw[preSum_getD,Yg,<-g,List.take_length]
  rw[e];exact⟨.int a.sum,H,I.kept (t':=tk) fun b o eo=>hk b o (by simpa using Yr (Yd eo)) (Y7 _ eo),⟨t',rfl⟩,q⟩
end
end L2
set_option maxHeartbeats 400000
namespace L2
open PySem PySem.Spec PyProof.Rows
section
variable{prog:WP}{w:WU}{A:WT}{R:Result->Shared->Prop}{I:WX}{fp wr:List Addr}{n:Nat}{P:Nat->Value->Prop}{St:Nat->Heap->Prop}
theorem Iz{a b:WW}:(#[a,b]:Array Value).size <=sizeLine:=by show 2 <=sizeLine;rw[YT];decide
theorem Qx{a b:WW}:(#[a,b]:Array Value).size <=sizeLine+ 1:=XH Iz
theorem xB:(#[]:Array Value).size <=sizeLine+ 1:=Ys _
end
theorem LX:∀{xs:List V} {us:WZ},us.length=xs.length->(∀ (j:Nat) v,us[j]?=some v->∃x,xs[j]?=some x/\Jr x v)->Ji xs us
 |[],[],_,_=>.nil
 |[],_::_,h,_=>by simp at h
 |_::_,[],h,_=>by simp at h
 |x::xs,u::us,h,g=>by
  obtain⟨y,e,r⟩:=g 0 u rfl;have b:x=y:=by simpa using e
  subst b;exact .cons r (LX (by simpa using h) fun j v a=>by simpa using g (j+ 1) v (by simpa using a))
structure ER(mg:WL):Prop where
 sum:mg "sum"=none
 sorted:mg "sorted"=none
section
variable{X:Cx}{pos pos':Pos}{o i value:J7}{td ty tv:TE}
def Hy:TE:=fun _ H Q=>∀p G,H p=none->Jb H G->G p=some (.dK [])->Q (.ref p) G
theorem tF:PE X (.Dict [] [] pos) Hy:=fun pins s σ H Q I h=>xG pins s σ H Q I fun p a=>h p _ a (MD a) Nc
def Lc(td ty tv:TE):TS:=fun D σ H=>tv σ H fun v H1=>td σ H1 fun x H2=>ty σ H2 fun y H3=>∃a n kvs,x= .ref a/\y= .int n/\H3 a=some (.dK kvs)/\kvs.length < sizeLine/\∀G,Nj a H3 G->G a=some (.dK (MZ kvs (.inl n) v))->D.nx σ G
theorem ZG(hu:X.A.units+ 1 < cLine)(ho:PE X o td)(hi:PE X i ty)(hv:PE X value tv)(hs:swapsWith value (some (.Subscript o i pos')) pos.line X.env=pure false):
  PS X (.Assign [.Subscript o i pos'] value pos) (Lc td ty tv):=by
 intro pins s σ H D I h;refine wpAny_Assign_Subscript (JH (hv pins s σ H _ I h) fun r c ⟨v,H1,I1,g,q⟩=>JH (ho pins c σ H1 _ I1 q) fun u b ⟨x,H2,I2,f,p⟩=>JH (hi pins b σ H2 _ I2 p) fun iv s3 ⟨y,H3,I3,e,a,n,kvs,ex,z,ea,w,j⟩=>?_) hs;subst ex z;obtain rfl:u=Value.ref a:=f;exact Pb hu I3 (DZ.k (k:=Sum.inl n) ea w) e g fun s4 I4=>⟨σ,_,I4,j _ Nj.upd Nc⟩
def Cb:R2:=fun y x H Q=>∃a n kvs,y= .int n/\x= .ref a/\H a=some (.dK kvs)/\Q (.bl (!(JE kvs (Sum.inl n)).isSome)) H
theorem xZ(hu:X.A.units+ 1 < cLine):Nd X (compareOp .NotIn) Cb:=by
 intro pins s σ H y x v u Q I b c h;obtain⟨a,n,kvs,rfl,rfl,e,q⟩:=h;cases c;exact Zc hu I (MT.k (k:=Sum.inl n) e) b fun s' f=>⟨.bl _,H,f,rfl,q⟩
def Lg:List V->Hp->VK->Prop:=fun xs H Q=>∃a kvs,xs=[V.ref a]/\H a=some (.dK kvs)/\Q (.int kvs.length) H
theorem rL:JA X (.builtin "len") Lg:=nH
end
end L2
set_option maxHeartbeats 4000000
namespace L2
open PySem PySem.Spec PyProof.Rows
end L2
namespace L2
open PySem PySem.Spec PyProof.Rows PySem.W
section
variable{α β:Type}{N:Nat}{lt:Nat->Nat->Bool}
def MH(N:Nat)(lt:Nat->Nat->Bool):KasT α->(α->Prop)->Prop
 | .ret a,Q=>Q a
 | .ask i j k,Q=>i < N/\j < N/\MH N lt (k (lt i j)) Q
theorem MH.bind{f:α->KasT β}{Q:β->Prop}:∀{t:KasT α},MH N lt t (fun a=>MH N lt (f a) Q)->MH N lt (t.bind f) Q
 | .ret _,h=>h
 | .ask i j k,h=>⟨h.1,h.2.1,MH.bind (t:=k (lt i j)) h.2.2⟩
theorem MH.wp{cmp:Nat->Nat->(Bool->Shared->Prop)->Shared->Prop}{s:WQ}{R:α->Shared->Prop}{Q:α->Prop}(hc:∀i j C,i < N->j < N->C (lt i j) s->cmp i j C s)(hq:∀a,Q a->R a s):∀{t:KasT α},MH N lt t Q->t.kasWp cmp R s
 | .ret a,h=>hq a h
 | .ask i j k,h=>hc i j _ h.1 h.2.1 (MH.wp hc hq (t:=k (lt i j)) h.2.2)
end
section
variable{O:KeyOrd}{key:Nat->O.α}{N:Nat}{p:Array Nat}
def SK(O:KeyOrd)(key:Nat->O.α)(p:Array Nat)(i:Nat):O.α:=key (p.getD i 0)
def DX(O:KeyOrd)(key:Nat->O.α)(p:Array Nat)(k:Nat):Prop:=∀i j,i <=j->j < k->O.kle (SK O key p i) (SK O key p j)
def AG(O:KeyOrd)(key:Nat->O.α)(p:Array Nat)(k:Nat):Prop:=∀i j,i <=j->j < k->O.kle (SK O key p j) (SK O key p i)
theorem Ao{q:Array Nat}{i j:Nat}(h:p[i]?=q[j]?):SK O key p i=SK O key q j:=by
 unfold SK;rw[UH,UH,h]
theorem PH{src d:Nat}(hs:src < p.size)(hd:d <=src)(k:Nat):
  SK O key (bubble p src d) k=if k=src - d then SK O key p src else if src - d < k/\k <=src then SK O key p (k - 1) else SK O key p k:=by
 have e:=getElem?_bubble hs d hd k
 by_cases h1:k=src - d
 .rw[Y6 h1]at e ⊢;exact Ao e
 .rw[Y5 h1]at e ⊢
  by_cases h2:src - d < k/\k <=src
  .rw[Y6 h2]at e ⊢;exact Ao e
  .rw[Y5 h2]at e ⊢;exact Ao e
theorem KF{i j:Nat}(hj:j <=p.size)(k:Nat):SK O key (kas_rev p i j) k=if i <=k/\k < j then SK O key p (i+ j - 1 - k) else SK O key p k:=by
 unfold kas_rev;have e:=getElem?_mirror_all (i:=i) hj k
 by_cases h1:i <=k/\k < j
 .rw[Y6 h1]at e ⊢;exact Ao e
 .rw[Y5 h1]at e ⊢;exact Ao e
theorem Ap{i j:Nat}(hj:j <=p.size)(heq:∀k,i <=k->k < j->SK O key p k=SK O key p (j - 1))(k:Nat):SK O key (kas_rev p i j) k=SK O key p k:=by
 rw[KF hj]
 split
 .rw[heq _ (by lia) (by lia),heq k (by lia) (by lia)]
 .rfl
def JO(N:Nat)(p:Array Nat):Prop:=p.Perm (List.toArray (List.range N))
theorem JO.size(h:JO N p):p.size=N:=by have:=Array.Perm.size_eq h;simpa using this
theorem JO.lt(h:JO N p)(h0:0 < N)(i:Nat):p.getD i 0 < N:=by
 by_cases hi:i < p.size
 .have e:p.getD i 0=p[i]:=by simp[Array.getD,hi]
  rw[e];have a:p[i]∈(List.toArray (List.range N)).toList:=(Ub.mp h).mem_iff.mp (by simp);simpa using a
 .have e:p.getD i 0=0:=by simp[Array.getD,hi]
  rw[e];exact h0
theorem JO.rev(h:JO N p)(i j:Nat):JO N (kas_rev p i j):=(mirror_perm _ _ _ _).trans h
theorem JO.bub(h:JO N p)(i j:Nat):JO N (bubble p i j):=(bubble_perm _ _ _).trans h
abbrev DW(O:KeyOrd)(key:Nat->O.α)(i j:Nat):Bool:=O.blt (key i) (key j)
theorem IA(h0:0 < N)(hp:JO N p){Q:Nat->Prop}:∀ (f n:Nat),1 <=n->DX O key p n->(∀m,n <=m->m <=n+ f->DX O key p m->(m=n+ f\/O.klt (SK O key p m) (SK O key p (m - 1)))->Q m)->MH N (DW O key) (kas_asc p f n) Q
 |0,n,_,hs,h=>h n (Y8 _) (Y8 _) hs (.inl rfl)
 |f+ 1,n,h1,hs,h=>by
  refine⟨hp.lt h0 _,hp.lt h0 _,?_⟩;cases hl:DW O key (p.getD n 0) (p.getD (n - 1) 0) with
  |true=>
   simp only[if_true];exact h n (Y8 _) (by lia) hs (.inr hl)
  |false=>
   simp only[Bool.false_eq_true,if_false];refine IA h0 hp f (n+ 1) (by lia) (fun i j hij hj=>?_) fun m a b c d=>h m (by lia) (by lia) c (d.elim (fun e=>.inl (by lia)) .inr)
   by_cases hjx:j < n
   .exact hs i j hij hjx
   .obtain rfl:j=n:=by lia
    by_cases hi':i=j
    .subst hi';exact XJ _
    .exact Vm (hs i (j - 1) (by lia) (by lia)) hl
theorem Cj(h0:0 < N){Q:Array Nat×Nat×Nat->Prop}:∀ (f:Nat) (p:Array Nat) (n q:Nat),JO N p->1 <=n->n+ f <=N->AG O key p n->q+ 1 <=n->(∀i,n - (q+ 1) <=i->i < n->SK O key p i=SK O key p (n - 1))->
  (∀p' m q',JO N p'->n <=m->m <=n+ f->AG O key p' m->q'+ 1 <=m->(∀i,m - (q'+ 1) <=i->i < m->SK O key p' i=SK O key p' (m - 1))->Q (p',m,q'))->MH N (DW O key) (kas_desc f p n q) Q
 |0,p,n,q,hp,h1,hn,hs,hq,he,h=>h p n q hp (Y8 _) (Y8 _) hs hq he
 |f+ 1,p,n,q,hp,h1,hn,hs,hq,he,h=>by
  have hsz:n <=p.size:=by rw[hp.size];lia
  refine⟨hp.lt h0 _,hp.lt h0 _,?_⟩;cases hl:DW O key (p.getD n 0) (p.getD (n - 1) 0) with
  |true=>
   simp only[if_true];have r:∀xs:Array Nat,(∀k,SK O key xs k=SK O key p k)->AG O key xs (n+ 1):=by
    intro xs w i j s x;rw[w,w]
    by_cases hjx:j < n
    .exact hs i j s hjx
    .obtain rfl:j=n:=by lia
     by_cases hi':i=j
     .subst hi';exact XJ _
     .exact Vm (Vb (show O.klt (SK O key p j) (SK O key p (j - 1)) from hl)) (hs i (j - 1) (by lia) (by lia))
   by_cases hneq:q > 0
   .rw[Y6 hneq];exact Cj h0 f _ (n+ 1) 0 (hp.rev _ _) (by lia) (by lia) (r _ (Ap hsz he)) (by lia) (fun i h1 h2=>by congr 1;lia) fun p' m q' a b c d e g=>h p' m q' a (by lia) (by lia) d e g
   .rw[Y5 hneq];exact Cj h0 f _ (n+ 1) 0 hp (by lia) (by lia) (r _ fun _=>rfl) (by lia) (fun i h1 h2=>by congr 1;lia) fun p' m q' a b c d e g=>h p' m q' a (by lia) (by lia) d e g
  |false=>
   simp only[Bool.false_eq_true,if_false];refine⟨hp.lt h0 _,hp.lt h0 _,?_⟩;cases hl2:DW O key (p.getD (n - 1) 0) (p.getD n 0) with
   |true=>
    simp only[if_true];exact h p n q hp (Y8 _) (by lia) hs hq he
   |false=>
    simp only[Bool.false_eq_true,if_false];have u:SK O key p n=SK O key p (n - 1):=KeyOrd.kle_antisymm hl2 hl;refine Cj h0 f p (n+ 1) (q+ 1) hp (by lia) (by lia) (fun i j s x=>?_) (by lia) (fun i h1 h2=>?_) fun p' m q' a b c d e g=>h p' m q' a (by lia) (by lia) d e g
    .by_cases hjx:j < n
     .exact hs i j s hjx
     .obtain rfl:j=n:=by lia
      by_cases hi':i=j
      .subst hi';exact XJ _
      .rw[u];exact hs i (j - 1) (by lia) (by lia)
    .rw[show n+ 1 - 1=n by lia]
     by_cases hix:i=n
     .subst hix;rfl
     .rw[u];exact he i (by lia) (by lia)
theorem S7(h0:0 < N)(hp:JO N p){n nrem:Nat}{Q:Nat×Array Nat->Prop}(h1:1 <=n)(hnn:n <=nrem)(hN:nrem <=N)(hs:AG O key p n)
  (h:∀m p',JO N p'->1 <=m->m <=nrem->DX O key p' m->Q (m,p')):MH N (DW O key) (kas_tail3 n nrem p) Q:=by
 unfold kas_tail3;have e:n <=p.size:=by rw[hp.size];lia
 refine MH.bind (IA h0 (hp.rev 0 n) _ _ h1 ?_ fun m a b c _=>h m _ (hp.rev 0 n) (by lia) (by lia) c);intro i j f g;rw[KF e,KF e,Y6 (by lia),Y6 (by lia)];exact hs _ _ (by lia) (by lia)
theorem Oj(h0:0 < N)(hp:JO N p){n nrem:Nat}{Q:Nat×Array Nat->Prop}(hnn:n+ 1 <=nrem)(hN:nrem <=N)(hs:AG O key p (n+ 1))
  (h:∀m p',JO N p'->1 <=m->m <=nrem->DX O key p' m->Q (m,p')):MH N (DW O key) (kas_descPart n nrem p) Q:=by
 unfold kas_descPart;refine MH.bind (Cj h0 _ _ _ _ hp (by lia) (by lia) hs (by lia) (fun i h1 h2=>by congr 1;lia) fun p' m r a b c d e g=>?_);dsimp only;have f:m <=p'.size:=by rw[a.size];lia
 by_cases hq:r > 0
 .rw[Y6 hq];refine S7 h0 (a.rev _ _) (by lia) (by lia) hN ?_ h;intro i j q s;rw[Ap f g,Ap f g];exact d i j q s
 .rw[Y5 hq];exact S7 h0 a (by lia) (by lia) hN d h
theorem aF(h0:0 < N)(hp:JO N p){nrem:Nat}{Q:Nat×Array Nat->Prop}(h1:1 <=nrem)(hN:nrem <=N)
  (h:∀m p',JO N p'->1 <=m->m <=nrem->DX O key p' m->Q (m,p')):MH N (DW O key) (kas_count nrem p) Q:=by
 unfold kas_count;refine MH.bind (IA h0 hp _ _ (Y8 1) (fun i j g r=>by obtain rfl:i=j:=(by lia);exact XJ _) fun n e x b q=>?_)
 by_cases hnn:n=nrem
 .rw[Y6 (by simpa using hnn)];exact h n p hp e (by lia) b
 .rw[Y5 (by simpa using hnn)];have f:O.klt (SK O key p n) (SK O key p (n - 1)):=q.resolve_left (by lia)
  by_cases hgt:n > 1
  .rw[Y6 hgt];refine⟨hp.lt h0 _,hp.lt h0 _,?_⟩;cases hrose:DW O key (p.getD 0 0) (p.getD (n - 1) 0) with
   |true=>
    simp only[if_true];exact h n p hp e (by lia) b
   |false=>
    simp only[Bool.false_eq_true,if_false];have c:n <=p.size:=by rw[hp.size];lia
    have a:∀k,0 <=k->k < n->SK O key p k=SK O key p (n - 1):=by
     intro k _ s;have w:=b 0 k (by lia) s;have u:=b k (n - 1) (by lia) (by lia);exact KeyOrd.kle_antisymm u (Vm (show O.kle (SK O key p (n - 1)) (SK O key p 0) from hrose) w)
    refine Oj h0 (hp.rev _ _) (by lia) hN ?_ h;intro i j g r;rw[Ap c a,Ap c a]
    by_cases hjn:j < n
    .rw[a i (by lia) (by lia),a j (by lia) hjn];exact XJ _
    .obtain rfl:j=n:=by lia
     by_cases hi':i=j
     .subst hi';exact XJ _
     .rw[a i (by lia) (by lia)];exact Vb f
  .rw[Y5 hgt];obtain rfl:n=1:=by lia
   refine Oj h0 hp (by lia) hN ?_ h;intro i j g r
   by_cases hi':i=j
   .subst hi';exact XJ _
   .obtain rfl:i=0:=by lia
    obtain rfl:j=1:=by lia
    exact Vb f
theorem IB(h0:0 < N)(hp:JO N p){k:Nat}(hs:DX O key p k){Q:Nat->Prop}:∀ (f l r:Nat),l <=r->r <=k->r - l <=f->(∀i,i < l->O.kle (SK O key p i) (SK O key p k))->(∀i,r <=i->i < k->O.klt (SK O key p k) (SK O key p i))->
  (∀l,l <=k->(∀i,i < l->O.kle (SK O key p i) (SK O key p k))->(∀i,l <=i->i < k->O.klt (SK O key p k) (SK O key p i))->Q l)->MH N (DW O key) (kas_place p k f l r) Q
 |0,l,r,h1,h2,h3,hlo,hhi,h=>by
  obtain rfl:l=r:=by lia
  exact h l h2 hlo hhi
 |f+ 1,l,r,h1,h2,h3,hlo,hhi,h=>by
  unfold kas_place
  by_cases hge:l≥r
  .rw[Y6 hge];obtain rfl:l=r:=by lia
   exact h l h2 hlo hhi
  .rw[Y5 hge];refine⟨hp.lt h0 _,hp.lt h0 _,?_⟩;cases hl:DW O key (p.getD k 0) (p.getD ((l+ r) / 2) 0) with
   |true=>
    simp only[if_true];refine IB h0 hp hs f _ _ (by lia) (by lia) (by lia) hlo (fun i a b=>?_) h;exact KeyOrd.klt_of_klt_of_kle (show O.klt (SK O key p k) (SK O key p ((l+ r) / 2)) from hl) (hs _ _ a b)
   |false=>
    simp only[Bool.false_eq_true,if_false];refine IB h0 hp hs f _ _ (by lia) (by lia) (by lia) (fun i a=>?_) hhi h;exact Vm (hs i ((l+ r) / 2) (by lia) (by lia)) (show O.kle (SK O key p ((l+ r) / 2)) (SK O key p k) from hl)
theorem SM(h0:0 < N){Q:Array Nat->Prop}:∀ (f:Nat) (p:Array Nat) (k:Nat),JO N p->k+ f <=N->DX O key p k->(∀p',JO N p'->DX O key p' (k+ f)->Q p')->MH N (DW O key) (kas_bin f p k) Q
 |0,p,k,hp,hk,hs,h=>h p hp hs
 |f+ 1,p,k,hp,hk,hs,h=>by
  unfold kas_bin;refine MH.bind (IB h0 hp hs k 0 k (by lia) (by lia) (by lia) (fun i hi=>by lia) (fun i a b=>by lia) fun l hl hlo hhi=>?_);refine SM h0 f _ (k+ 1) (hp.bub _ _) (by lia) ?_ fun p' a b=>h p' a (by rw[show k+ (f+ 1)=k+ 1+ f by lia];exact b)
  have hks:k < p.size:=by rw[hp.size];lia
  intro i j c e;rw[PH hks (by lia),PH hks (by lia),show k - (k - l)=l by lia]
  repeat' split
  all_goals first
   |(exfalso;lia)
   |exact XJ _
   |exact hlo _ (by lia)
   |exact Vb (hhi _ (by lia) (by lia))
   |exact hs _ _ (by lia) (by lia)
theorem tL(h0:0 < N){Q:Array Nat->Prop}(h:∀p,JO N p->DX O key p N->Q p):MH N (DW O key) (kas_sort N) Q:=by
 unfold kas_sort;refine MH.bind (aF h0 (Array.Perm.refl _) h0 (Y8 _) fun m g f h1 i c=>?_);dsimp only
 by_cases hlt:m < N
 .rw[Y6 hlt];have e:max m 1=m:=by lia
  rw[e];refine SM h0 _ _ _ f (by lia) c fun p2 a b=>h p2 a ?_
  rwa [show m+ (N - m)=N by lia]at b
 .rw[Y5 hlt];obtain rfl:m=N:=by lia
  exact h g f c
end
section
variable{prog:WP}{w:WU}{A:WT}{E:WM}{s:WQ}{O:KeyOrd}{key:Nat->O.α}{κ:SortKind}{vs:WZ}
theorem dZ(vs:WZ):(List.range vs.length).map (fun i=>vs.getD i Value.none)=vs:=by
 apply VY;intro i;rw[Y9]
 by_cases h:i < vs.length
 .rw[VL h,Y4 h];simp[h]
 .rw[Xx (by simpa using h),Xx (by simpa using h)];rfl
end
section
variable{prog:WP}{w:WU}{A:WT}{E:WM}{s:WQ}
theorem uV{a b:Int}{t u:Tok}{Q:WM}(h:Q (.bool (decide (a < b))) s):wpAny (model prog w) A (richCompare .Lt (.int a t) (.int b u)) Q E s:=
 CmpOf.ints_lt (P := fun i v => (i = 0 /\ v = .int a t) \/ (i ≠ 0 /\ v = .int b u)) (fun i => if i = 0 then a else b) (by
  rintro i v (⟨rfl,rfl⟩|⟨h,rfl⟩)
  .exact⟨t,rfl⟩
  .exact ⟨u, by rw [Y5 h]⟩) 0 1 _ _ s Q E (.inl ⟨rfl, rfl⟩) (.inr ⟨by decide, rfl⟩) h
theorem Q0{b:Bool}{x y:Int}{t u:Tok}{Q:Bool->Shared->Prop}(h:Q (decide (x < y)) s):wpAny (model prog w) A (oneLt' b (.int x t) (.int y u)) Q E s:=by
 cases b with
 |true=>exact oneLt_int h
 |false=>exact kat_one _ _ (show wpAny (model prog w) A (richCompare .Lt _ _) (W.BoolBack Q) E s from uV h)
end
end L2
namespace L2
open PySem PySem.Spec PyProof.Rows
section
variable{X:Cx}{pins:WO}{σ:St}{H:Hp}{s:WQ}{h':J6}
theorem Jd.turnL{t':Nat}{wr:List Addr}(I:Jd X pins σ H s)(hf:∀b∈wr,MK X pins H b)(k:∀b o,b∉wr->s.heap.get? b=some o->h'.get? b=some o):Jd X pins σ H {s with heap:=h',toks:=t'}:=by
 have g:∀b u,H b=some u->b∉wr:=fun b u e z=>by rw[(hf b z).1]at e;cases e
 refine I.step (g':=s.gens) (d':=s.drawn) (ch:=wr) (fun b f=>⟨(hf b f).2.2.2.1,(hf b f).2.1,(hf b f).2.2.2.2.1,(hf b f).2.2.2.2.2⟩) (fun b o _ _ a e _=>k b o a e) (fun b o _ _ a e _=>⟨o.slots,k b o a e⟩) (fun _ _ _ _ n=>n)
  (fun b o a e=>⟨o,k b o a e⟩) (fun _ _ e=>e) (fun _ _ _ e=>e) (fun b ps e=>⟨#[],by rw[e];simp⟩) (fun m i=>?_) (fun b u e=>?_) I.bare
 .obtain⟨o,es,ep,h,r⟩:=i;exact⟨o,es,ep,k _ o (fun z=>(hf _ z).2.1 rfl) h,r⟩
 .refine(I.hok b u e).stay (fun c v a q=>k c v ?_ q) (fun _ q=>q) fun _ _ q=>q
  rcases a with z|z
  .rw[z];exact g b u e
  .exact g c _ z
theorem Jd.turnNew{t':Nat}{wr:List Addr}{a:WX}{o:HO}(I:Jd X pins σ H s)(hf:∀b∈wr,MK X pins H b)(k:∀b o,b∉wr->s.heap.get? b=some o->h'.get? b=some o)(hp:s.heap.objs.size <=a)
  (new:Jy X.prog X.w (upd H a o) h' a o):Jd X pins σ (upd H a o) {s with heap:=h',toks:=t'}:=by
 have h:H a=none:=I.hok.fresh hp;have i:∀b u,H b=some u->b∉wr:=fun b u e z=>by rw[(hf b z).1]at e;cases e
 refine I.step (g':=s.gens) (d':=s.drawn) (ch:=wr) (fun b g=>⟨(hf b g).2.2.2.1,(hf b g).2.1,(hf b g).2.2.2.2.1,(hf b g).2.2.2.2.2⟩) (fun b o _ _ f e _=>k b o f e) (fun b o _ _ f e _=>⟨o.slots,k b o f e⟩)
  (fun b o _ e n=>by rw[JF (Yr (YH (Yd e) hp))];exact n)
  (fun b o f e=>⟨o,k b o f e⟩) (fun b xs e=>by rw[JF (NI e h)];exact e) (fun b o u e=>by rw[JF (NI e h)];exact e) (fun b ps e=>⟨#[],by rw[JF (NI e h),e];simp⟩) (fun m p=>?_) (fun b u e=>?_) I.bare
 .obtain⟨o,es,ep,j,r⟩:=p;exact⟨o,es,ep,k _ o (fun z=>(hf _ z).2.1 rfl) j,r⟩
 .by_cases g:b=a
  .subst g;rw[Nc]at e;cases e;exact new
  .rw[JF g]at e;refine(I.hok b u e).stay (fun c v f q=>k c v ?_ q) (fun c q=>by rw[JF (NI q h)];exact q) fun c xs q=>by rw[JF (NI q h)];exact q
   rcases f with z|z
   .rw[z];exact i b u e
   .exact i c _ z
end
theorem bZ{h:J6}{a b:WX}{o o':Obj}(e:h.get? a=some o)(e':h.get? b=some o')(hc:o.cls≠o'.cls):a≠b:=fun z=>by
 subst z;rw[e]at e';cases e';exact hc rfl
structure Kp(mg:WL):Prop where
 enumerate:mg "enumerate"=none
 zip:mg "zip"=none
end L2
namespace L2
open PySem PySem.Spec PyProof.Rows
open Sem (wp)
open AutoSeq1 (wpAny_loadPart')
section
variable{prog:WP}{w:WU}{A:WT}{E:WM}{s:WQ}
theorem gR{T newId:String}{self:WW}{rest:WZ}{kw:List (Str×Value)}(hl:typeLookup (.type T) "__init__"=pure (some (.builtin "object.__init__")))
  (hm:Bind.madeBy (.type T)=pure (some newId)) (hne:(some newId !=some "object.__new__")=true):
  Meets (Builtin.«object.__init__» ⟨self::rest,kw⟩) (fun _ R s=>s.TypeIs self T/\R (.ok (.ret .none)) s):=by
 refine Meets.of_wp fun prog w A R s ⟨c,b⟩=>?_
 cases rest with
 |nil=>
  cases kw with
  |nil=>exact Y2 ⟨_,rfl,b⟩
  |cons k kw=>(repeat (any_goals (first|assumption|wp_step)));exact⟨_,rfl,b⟩
 |cons a rest=>(repeat (any_goals (first|assumption|wp_step)));exact⟨_,rfl,b⟩
theorem yN{T newId:String}{Bn:Builtin}{args:WZ}{kw:List (Str×Value)}{S:_root_.PySem.Spec}{Q:WM}(ft:TypeCalled T newId "object.__init__")(hne:(some newId !=some "object.__new__")=true)
  (hct:checkTypeCall T ⟨args,kw⟩=pure ()) (hcn:checkBuiltinCall newId ⟨.type T::args,kw⟩=pure ()) (hok:∀obj,argsOk "object.__init__" ⟨obj::args,kw⟩) (entryN:entryFor table newId=some Bn) (g:Meets (Bn ⟨.type T::args,kw⟩) S)
  (h:S A.in1 (wants (fun obj s₁=>s₁.TypeIs obj T/\Q obj s₁) E) s):wpAny (model prog w) A (call (.type T) args kw) Q E s:=by
 obtain⟨c,tl,u⟩:=ft.mro;have j:=ft.made;have p:=ft.sub;refine Wv (Wc ?_);show wpAny _ _ (callAny (.type T) _) _ _ _;refine Y2 ⟨Code.quiet_builtin _ (by decide +kernel),Xp F.entry_type_call ?_⟩;rw[Around.under_plain (weight_type_call_type T args kw) (units_type_call_type T args kw)];have h1:=ft.notType;have h2:=ft.canCreate
 repeat (any_goals (first|assumption|wp_step))
 refine Ui (VC ft.plain entryN (Uy hcn (g prog w A.in1 _ s h))) fun r s₁ b=>?_
 cases r with
 |error e=>exact b
 |ok fl=>
  cases fl with
  |ret obj=>
   obtain⟨i,q⟩:=(show s₁.TypeIs obj T/\Q obj s₁ from b);have y:=ft.init.lookup;have z:=ft.init.bind obj
   repeat (any_goals (first|assumption|wp_step))
   refine Ui (VC ft.init.plain F.entry_object_init (ft.init.check _ _ _ _ _ _ _ _ i (hok obj) (gR ft.init.lookup ft.made hne prog w A.in1 (wants (fun r f=>r= .none/\Q obj f) E) s₁ ⟨i,rfl,q⟩))) fun n f a=>?_
   cases n with
   |error e=>exact a
   |ok fl₂=>
    cases fl₂ with
    |ret r=>
     obtain⟨rfl,x⟩:=a
     repeat (any_goals (first|assumption|wp_step))
    |_=>exact a.elim
  |_=>exact b.elim
end
theorem rN(l:WX)(items:Array Value)(n:Nat)(dct:Option Addr)(sl:Array (Option Value))(c:Int)(t:Tok)(hc:Builtin.SmallTypes.fitsIndex c=true):
  Meets (Builtin.«enumerate.__new__» ⟨[.type "enumerate", .ref l], [("start", .int c t)]⟩) (fun _ R s => s.heap.get? l = some { cls := .type "list", dict := dct, data := .seq items n, slots := sl } /\
   R (.ok (.ret (.ref (s.heap.push {cls:=.type "list_iterator",data:=.fields #[.ref l,.int 0 0]}).objs.size)))
    { s with heap := (s.heap.push { cls := .type "list_iterator", data := .fields #[.ref l, .int 0 0] }).push { cls := .type "enumerate", data := .fields #[.none, .bool false, .ref s.heap.objs.size, rawInt c, .none, .none] } }) :=
 .of_wp fun prog w A R s h=>by
  obtain⟨i,g,d,tk,e⟩:=s;obtain⟨a,h⟩:=h;have f:=sub_enumerate;have b:Heap.IsList (Shared.heap ⟨i,g,d,tk,e⟩) l items:=⟨_,a,rfl,n,rfl⟩
  wp_walk using Xh a
  refine wpAny_stack_any fun st=>Y2 ?_
  split
  .rename_i c' _ _ _ _ _
   cases (c'==Value.type "enumerate")
   .wp_walk using Xh a,Xt b
    exact⟨_,rfl,h⟩
   .wp_walk using Xh a,Xt b
    exact⟨_,rfl,h⟩
  .wp_walk using Xh a,Xt b
   exact⟨_,rfl,h⟩
section
variable{prog:WP}{w:WU}{A:WT}{E:WM}{s:WQ}
theorem xK(a b:WW):checkTypeCall "enumerate" ⟨[a],[("start",b)]⟩=pure ():=by kernel_rfl
theorem eX(a b:WW):checkBuiltinCall "enumerate.__new__" ⟨[.type "enumerate",a],[("start",b)]⟩=pure ():=by kernel_rfl
theorem bI(o a b:WW):argsOk "object.__init__" ⟨[o,a],[("start",b)]⟩:=by unfold argsOk;kernel_rfl
theorem dH{l:WX}{items:Array Value}{c:Int}{t:Tok}{Q:WM}(hL:s.heap.IsList l items)(hc:Builtin.SmallTypes.fitsIndex c=true)
  (h:∀h',IsEnum h' (s.heap.objs.size+ 1) s.heap.objs.size c .none->h'.IsListIter s.heap.objs.size l 0->(∀b o,s.heap.get? b=some o->h'.get? b=some o)->Q (.ref (s.heap.objs.size+ 1)) {s with heap:=h'}):
  wpAny (model prog w) A (call (.type "enumerate") [.ref l] [("start",.int c t)]) Q E s:=by
 obtain⟨⟨r,i,q,j⟩,p,a,n,hd⟩:=hL
 replace a:r= .type "list":=a
 replace hd:q= .seq items n:=hd
 subst a hd;refine yN F.called_enumerate (by decide) (xK _ _) (eX _ _) (fun e => bI e _ _) F.entry_enumerate_new (rN l items n i j c t hc) ⟨p, ?_⟩;have f : (s.heap.push { cls := .type "list_iterator", data := .fields #[.ref l, .int 0 0] }).objs.size = s.heap.objs.size + 1 := XD ..;show _ /\ _;rw [f];have g : IsEnum ((s.heap.push { cls := .type "list_iterator", data := .fields #[.ref l, .int 0 0] }).push
   { cls := .type "enumerate", data := .fields #[.none, .bool false, .ref s.heap.objs.size, rawInt c, .none, .none] }) (s.heap.objs.size + 1) s.heap.objs.size c .none := by
  have:=Yc (s.heap.push {cls:=.type "list_iterator",data:=.fields #[.ref l,.int 0 0]})
   (o:={cls:=.type "enumerate",data:=.fields #[.none,.bool false,.ref s.heap.objs.size,rawInt c,.none,.none]}) rfl
  rw[f]at this;exact this
 exact⟨⟨_,g,rfl⟩,h _ g ⟨_,Y7 _ (Yc _ rfl),rfl,rfl⟩ fun b o x=>Y7 _ (Y7 _ x)⟩
theorem rJ{e it l:WX}{i:Nat}{c:Int}{items:Array Value}{x old:WW}{Q:Option Value->Shared->Prop}(he:IsEnum s.heap e it c old)(hit:s.heap.IsListIter it l i)(hl:s.heap.IsList l items)(hx:items[i]?=some x)(hne:e≠it)
  (hQ : ∀ h', IsEnumOut h' e it (c + 1) x s.heap.objs.size -> h'.IsListIter it l (i + 1) -> h'.get? s.heap.objs.size = some { cls := .type "tuple", data := .seq #[.int c s.toks, x] } ->
   (∀ b o, b ≠ e -> b ≠ it -> s.heap.get? b = some o -> h'.get? b = some o) -> Q (some (.ref s.heap.objs.size)) { s with heap := h', toks := s.toks + 1 }) : wpAny (model prog w) A (pyNext (.ref e)) Q E s := by
 have hT:s.TypeIs (.ref e) "enumerate":=⟨_,he,rfl⟩
 unfold pyNext;refine Y0 (XS (X0 (name:=Str.ofString "__next__") hT UC (YU UC hT F.entry_enumerate_next ?_ (F.args_enumerate_next_1 _))));obtain⟨n,g,d,tk,f⟩:=s;show wpAny _ _ (field (.ref e) 2 >>=_) _ _ _;refine Y0 (UM he rfl (x:=.ref it) rfl (Y0 (wpAny_nextOf_list_item hit hl hx fun j hit₁ hs₁=>?_)));have u:Heap.SameBut it n j:=hs₁;have y:IsEnum j e it c old:=(u.2 e hne).trans he;refine Y0 (UM y rfl (x:=rawInt c) rfl ?_);refine Y0 (m:=field (.ref e) 4) (UM (s:=⟨j,g,d,tk,f⟩) y rfl (x:=.none) rfl ?_);show wpAny _ _ (mkInt c >>=_) _ _ ⟨j,g,d,tk,f⟩;refine Y0 (wpAny_mkInt ?_);show wpAny _ _ (setField (.ref e) 3 (rawInt (c+ 1)) >>=_) _ _ ⟨j,g,d,tk+ 1,f⟩;refine Y0 (Uv y (by simp) fun h₂ he₂ hs₂=>?_);have q:Heap.SameBut e j h₂:=hs₂;have he2:IsEnum h₂ e it (c+ 1) old:=he₂;show wpAny _ _ (setField (.ref e) 4 .none >>=_) _ _ ⟨h₂,g,d,tk+ 1,f⟩;refine Y0 (Uv he2 (by simp) fun h he₃ hs₃=>?_);have p:Heap.SameBut e h₂ h:=hs₃;have he3:IsEnum h e it (c+ 1) old:=he₃;show wpAny _ _ (newTuple [.int c tk,x] >>=_) _ _ ⟨h,g,d,tk+ 1,f⟩;refine Y0 (Wr ?_);have z:IsEnum (h.push {cls:=.type "tuple",data:=.seq #[.int c tk,x]}) e it (c+ 1) old:=Y7 _ he3;generalize hh:h.push {cls:=.type "tuple",data:=.seq #[.int c tk,x]}=h₄ at z;have hsz:h.objs.size=n.objs.size:=by rw[p.1,q.1,u.1]
 have hel:e < n.objs.size:=Yd he;have ht4:h₄.get? n.objs.size=some {cls:=.type "tuple",data:=.seq #[.int c tk,x]}:=by rw[<-hh,<-hsz];exact Yc _ rfl
 have hk4:∀b o,b≠e->b≠it->n.get? b=some o->h₄.get? b=some o:=fun b o a hbi hb=>by
  rw[<-hh];exact Y7 _ (p.extBut b o a (q.extBut b o a (u.extBut b o hbi hb)))
 have hit4:h₄.IsListIter it l (i+ 1):=by
  rw[<-hh];obtain⟨o,ho,r⟩:=(hit₁.extBut q.extBut (Ne.symm hne)).extBut p.extBut (Ne.symm hne);exact⟨o,Y7 _ ho,r⟩
 show wpAny _ _ (Builtin.SmallTypes.ownedTupleIsFree (.ref e) >>=_) _ _ ⟨h₄,g,d,tk+ 1,f⟩;rw[hsz];clear hh he3 p he₃ hs₃ he2 q he₂ hs₂ y u hs₁ hit₁ hsz h h₂ j;refine Y0 ?_;unfold Builtin.SmallTypes.ownedTupleIsFree;refine Y0 (UM z rfl (x:=.none) rfl (Y2 ?_));simp only[if_true];refine Y0 (UJ (Y0 (UM z rfl (x:=old) rfl (Y0 (Uv z (by simp) fun h₅ he₅ hs₅=>?_)))));have hs5:Heap.SameBut e h₄ h₅:=hs₅;have he5:IsEnum h₅ e it (c+ 1) x:=he₅;show wpAny _ _ (Builtin.SmallTypes.ownedTupleHandOut (.ref e) (.ref n.objs.size) >>=_) _ _ ⟨h₅,g,d,tk+ 1,f⟩;refine Y0 ?_;unfold Builtin.SmallTypes.ownedTupleHandOut;refine Y0 (Uv he5 (by simp) fun h₆ he₆ hs₆=>?_);have hs6:Heap.SameBut e h₅ h₆:=hs₆;have he6:IsEnumOut h₆ e it (c+ 1) x n.objs.size:=he₆;refine Uv he6 (by simp) fun h₇ he₇ hs₇=>?_
 have hs7:Heap.SameBut e h₆ h₇:=hs₇;refine Y0 (Vh (Y2 ⟨_,rfl,Y2 (hQ h₇ he₇ ?_ ?_ ?_)⟩))
 .exact((hit4.extBut hs5.extBut (Ne.symm hne)).extBut hs6.extBut (Ne.symm hne)).extBut hs7.extBut (Ne.symm hne)
 .exact hs7.extBut _ _ (Vw hel) (hs6.extBut _ _ (Vw hel) (hs5.extBut _ _ (Vw hel) ht4))
 .exact fun b o a hbi hb=>hs7.extBut b o a (hs6.extBut b o a (hs5.extBut b o a (hk4 b o a hbi hb)))
theorem ZY{e it l:WX}{i:Nat}{c:Int}{items:Array Value}{old:WW}{Q:Option Value->Shared->Prop}(hh:A.handled=none)(he:IsEnum s.heap e it c old)(hit:s.heap.IsListIter it l i)(hl:s.heap.IsList l items)(hx:items[i]?=none)
  (hQ:∀h',Heap.ExtBut it s.heap h'->Q none {s with heap:=h'}):wpAny (model prog w) A (pyNext (.ref e)) Q E s:=by
 have g:s.TypeIs (.ref e) "enumerate":=⟨_,he,rfl⟩
 unfold pyNext;refine Y0 (XS (X0 (name:=Str.ofString "__next__") g UC (YU UC g F.entry_enumerate_next ?_ (F.args_enumerate_next_1 _))));show wpAny _ _ (field (.ref e) 2 >>=_) _ _ _;refine Y0 (UM he rfl (x:=.ref it) rfl (Y0 (wpAny_nextOf_list_end hh hit hl hx fun h' x f a=>?_)));obtain⟨o,h,j⟩:=a;exact Y0 (Uk (T:="StopIteration") (b:=true) ⟨o,h,j⟩ V7 (Y2 (hQ _ f)))
end
def Ce(K:WV)(a:WX)(c:Int):It:=
 ⟨fun i H=>∃xs x,Jh K H a xs/\xs[i]?=some x,fun i H x H'=>∃t y,x= .ref t/\H t=none/\Jb H H'/\H' t=some (.tup [.int (c+ i),y])/\∀xs,Jh K H a xs->xs[i]?=some y,fun i H=>∃xs,Jh K H a xs/\xs.length <=i⟩
theorem bM{P:WP}{w:WU}{K:WV}{elts:List Expr}{k:Nat}{pos:Pos}(l e it:WX)(c:Int):Ed P w K (.Tuple elts k pos) (Ce K l c) [e,it] e (fun i h=>(∃old,IsEnum h e it (c+ (i:Nat)) old)/\h.IsListIter it l i) where
 mem:=by simp
 obj:=fun i h st b a=>by
  obtain⟨⟨old,g⟩,o,ho,hc,hd⟩:=st;rcases Yo.mp a with rfl|a
  .exact⟨_,g,fun v z=>by cases z⟩
  .have e:b=it:=by simpa using a
   subst e;exact⟨o,ho,fun v z=>by rw[hd]at z;cases z⟩
 keep:=fun i h h' st r=>⟨⟨st.1.choose,r e (by simp) _ st.1.choose_spec⟩,st.2.at fun o x=>r it (by simp) o x⟩
 item:=by
  intro X hP hw hK hc i pins s σ H E I hf st hg;subst hP hw hK;obtain⟨xs,x,hq,hx⟩:=hg;obtain⟨its,rv,p,hz⟩:=I.list hq;obtain⟨u,hu,ru⟩:=rv.get hx;obtain⟨⟨old,g⟩,j⟩:=st;obtain⟨oit,n,cit,dit⟩:=id j;have hei:e≠it:=bZ g n (by rw[cit];(try dsimp only);decide);have hel:e < s.heap.objs.size:=Yd g;have hil:it < s.heap.objs.size:=Yd n;refine rJ g j p.isList (x:=u) (by simpa using hu) hei fun h1 ho hit1 hT1 k1=>⟨_,rfl,wpAny_letOwnedTupleGo_enum ho fun h2 he2 hs2=>?_⟩
  have f:Heap.SameBut e h1 h2:=hs2;have hn:H s.heap.objs.size=none:=I.hok.fresh (Y8 _);have r:∀b o,b∉[e,it]->s.heap.get? b=some o->h2.get? b=some o:=fun b o a z=>(f.2 b fun q=>a (by simp[q])).trans (k1 b o (fun q=>a (by simp[q])) (fun q=>a (by simp[q])) z)
  have hT2:h2.get? s.heap.objs.size=some {cls:=.type "tuple",data:=.seq #[.int (c+ (i:Nat)) s.toks,u]}:=(f.2 _ (Vw hel)).trans hT1;refine⟨.ref s.heap.objs.size,upd H s.heap.objs.size (.tup [.int (c+ i),x]),I.turnNew (t':=s.toks+ 1) hf r (Y8 _) ⟨by show 2 <=sizeLine;decide,[.int (c+ i) s.toks,u],.cons ⟨_,rfl⟩ (.cons ru .nil),⟨_,hT2,rfl,_,rfl⟩⟩,rfl,⟨_,x,rfl,hn,MD hn,Nc,fun ys hys=>?_⟩,⟨⟨u,?_⟩,hit1.at fun o y=>(f.2 it hei.symm).trans y⟩,fun b a=>?_⟩
  .rw[I.list_inj hys hq];exact hx
  .have e1:c+ ((i+ 1:Nat):Int)=c+ (i:Nat)+ 1:=by omega
   rw[e1];exact he2
  .have hbn:=(hf b a).1;have:b≠s.heap.objs.size:=by
    rcases Yo.mp a with rfl|a
    .exact Yr hel
    .rw[Yb.mp a];exact Yr hil
   rw[JF this];exact hbn
 done:=by
  intro X hP hw hK hc i pins s σ H E I hf st hg;subst hP hw hK;obtain⟨xs,hq,hx⟩:=hg;obtain⟨its,rv,p,hz⟩:=I.list hq;obtain⟨⟨old,g⟩,j⟩:=st;have hl:=rv.length;exact ZY (I.ok.hd hc) g j p.isList (by simp;omega) fun h' eb=>⟨rfl,I.turnL (t':=s.toks) hf fun b o a x=>eb b o (fun z=>a (by simp[z])) x⟩
 self:=fun _ _ _ _ _ st h=>wpAny_pyIter_enum st.1.choose_spec h
section
variable{M:Model}{A:WT}{E:WM}{s:WQ}{env:Env}
theorem jV{pos:Pos}{T:String}{e:J7}{kws:List Keyword}{Q:WM}
  (h:wpAny M A (spliced (backTo pos (starEach [e] env))) (fun vs s₁=>wpAny M A (evalAll ((backToKw pos (keywordEach kws env)).map (·.2))) (fun kvs s₂=>wpAny M A (call (.type T) vs (((backToKw pos (keywordEach kws env)).filterMap (·.1)).zip kvs)) Q E s₂) E s₁) E s)
  (he:backTo pos (starEach [e] env)=(false,eval e env)::backTo pos (starEach [] env)) (hplain:(backTo pos (starEach [e] env)).any (·.1)=false)
  (hall:(backToKw pos (keywordEach kws env)).all (·.1.isSome)=true) (hkw:(backToKw pos (keywordEach kws env)).any (·.1.isNone)=false):
  wpAny M A (callWith pos (.type T) [] (backTo pos (starEach [e] env)) (backToKw pos (keywordEach kws env))) Q E s:=by
 unfold callWith;have h':wpAny M A (evalArgs (.type T) true (backTo pos (starEach [e] env)) (backToKw pos (keywordEach kws env))) (fun a s₁=>wpAny M A (call (.type T) ([]++a.pos) a.kw) Q E s₁) E s:=by
  rw[he]at h ⊢;exact evalArgs_kwB hall h
 refine Y0 (YK (Xm h' (fun a s₁ b=>Y0 (Vj ?_)) fun _ _ x=>x));simp only[hplain,hkw,UL];exact Y0 (Y2 (Y0 (Xm b (fun r s₂ c=>Y0 (YK (wpAny_point (Y2 c)))) fun _ _ x=>x)))
end
section
variable{X:Cx}{K:WV}
def KB(K:WV)(ta tb:TE):TI:=fun σ H R=>ta σ H fun x H1=>tb σ H1 fun y H2=>∃l c,x= .ref l/\y= .int c/\ -(2 ^ 62) <=c/\c < 2 ^ 62/\(∃xs,Jh K H2 l xs)/\R (Ce K l c) H2
theorem SN{e e2:J7}{ta tb:TE}{elts:List Expr}{k:Nat}{pos' p pos kp:Pos}(h:X.K=K)(hg:Gl X "enumerate")(hm:X.mg "enumerate"=none)(ha:PE X e ta)(hb:PE X e2 tb)
  (he:backTo pos (starEach [e] X.env)=(false,eval e X.env)::backTo pos (starEach [] X.env):=by rfl) (hs:starEach [e] X.env=(false,eval e X.env)::starEach [] X.env:=by rfl)
  (hpl:(backTo pos (starEach [e] X.env)).any (·.1)=false:=by rfl):PI X (.Tuple elts k pos') (.Call (.Name "enumerate" p) [e] [⟨some "start",e2,kp⟩] pos) (KB K ta tb):=by
 subst h;intro pins s σ H R I h;refine Uu (BO I hg hm boot_enumerate ?_);have h':DN ta Ru σ H (fun vs H1=>DN tb Ru σ H1 fun zs H2=>match vs,zs with|[x],[y]=>∃l c,x= .ref l/\y= .int c/\ -(2 ^ 62) <=c/\c < 2 ^ 62/\(∃xs,Jh X.K H2 l xs)/\R (Ce X.K l c) H2|_,_=>False):=h;refine jV (JH (JM ha Jf hs pos pins s σ H _ I h') fun us w ⟨vs,H1,I1,r,q⟩=>JH (jO hb aA pos pins w σ H1 _ I1 q) fun ws a ⟨zs,H2,g,n,f⟩=>?_) he hpl rfl rfl;cases r with
 |nil=>cases n <;> exact False.elim f
 |cons r1 rr=>
  cases rr with
  |cons _ _=>cases n <;> exact False.elim f
  |nil=>
   cases n with
   |nil=>exact False.elim f
   |cons z1 zz=>
    cases zz with
    |cons _ _=>exact False.elim f
    |nil=>
     obtain⟨l,c,rfl,rfl,c1,c2,⟨xs,hq⟩,z⟩:=f;cases r1;obtain⟨t,rfl⟩:=z1;obtain⟨its,rv,pl,hz⟩:=g.list hq;refine dH pl.isList (by unfold Builtin.SmallTypes.fitsIndex;simp;omega) fun h' i u hk=>wpAny_pyIter_enum i ?_
     refine⟨_,[a.heap.objs.size+ 1,a.heap.objs.size],_,_,H2,rfl,g.kept (t':=a.toks) hk,bM l _ a.heap.objs.size c,⟨⟨Value.none,?_⟩,u⟩,fun b hb=>?_,z⟩
     .rw[show c+ ((0:Nat):Int)=c by omega];exact i
     .have j:a.heap.objs.size <=b:=by
       rcases Yo.mp hb with rfl|hb
       .exact X4 _
       .rw[Yb.mp hb];exact Y8 _
      exact g.fpOk j (g.hok.fresh j)
end
theorem Z7{K:WV}{a:WX}{c:Int}{xs:List V}{g:TG}{tb:TS}{D:TQ}{σ:St}{H:Hp}(Pv:Nat->St->Hp->Prop)(h0:Pv 0 σ H)(hl:∀i σ H,i <=xs.length->Pv i σ H->Jh K H a xs)
  (hs:∀i x t σ H H',xs[i]?=some x->Pv i σ H->H t=none->Jb H H'->H' t=some (.tup [.int (c+ i),x])->g (.ref t) σ H' fun σ2 H2=>tb {D with nx:=Pv (i+ 1),ct:=Pv (i+ 1),bk:=D.nx} σ2 H2) (hd:∀σ H,Pv xs.length σ H->D.nx σ H):CD g tb D σ (Ce K a c) H:=by
 refine⟨fun i m σ H=>m=xs.length - i/\i <=xs.length/\Pv i σ H,⟨xs.length,by simp,Ys _,h0⟩,?_⟩;rintro i m σ H ⟨rfl,hi,p⟩;have q:=hl i σ H hi p
 by_cases hlt:i < xs.length
 .refine .inr ⟨⟨xs,xs[i],q,by simp[hlt]⟩,Pv (i+ 1),fun σ' H' b=>⟨xs.length - (i+ 1),by omega,rfl,hlt,b⟩,fun x H' y=>?_⟩;obtain⟨t,y,rfl,h1,h2,h,f⟩:=y;exact hs i y t σ H H' (f xs q) p h1 h2 h
 .have e:i=xs.length:=by omega
  subst e;exact .inl ⟨⟨xs,q,Y8 _⟩,hd σ H p⟩
section
variable{X:Cx}{K:WV}
def Cw(K:WV):R2:=fun x y H Q=>∃a b xs,x= .ref a/\y= .ref b/\Jh K H a xs/\Jh K H b []/\Q (.bl (decide (xs.length=0))) H
theorem AI(hu:X.A.units+ 64 < cLine)(h:X.K=K):Nd X (compareOp .Eq) (Cw K):=by
 subst h;intro pins s σ H x y v u Q I n i h;obtain⟨a,b,xs,rfl,rfl,h1,h2,q⟩:=h;cases n;cases i;obtain⟨f,r,p,hz⟩:=I.list h1;obtain⟨w,c,p2,hz2⟩:=I.list h2;cases c;have g:=r.length
 by_cases h0:xs.length=0
 .refine PySem.SeqAt.eq_listAt (e:=fun _=>true) p.isList p2.isList (by rw[Yg,Yg,<-g,h0];rfl) (Yi (Vn _ 64) hu) ?_ ?_
  .intro j h1;rw[Yg]at h1;omega
  .have e0:f.toArray.size=0:=by rw[Yg];omega
   rw[e0];rw[Yh h0]at q;exact To I q rfl
 .refine PySem.SeqAt.eq_list_lengthsAt p.isList p2.isList (by rw[Yg,Yg,<-g];simp;exact fun z=>h0 (by rw[z];rfl)) (Yi (Vn _ 64) hu) ?_;rw[Yk h0]at q;exact To I q rfl
def CT:R2:=fun y x H Q=>∃a n kvs,y= .int n/\x= .ref a/\H a=some (.dK kvs)/\Q (.bl (JE kvs (Sum.inl n)).isSome) H
theorem vD(hu:X.A.units+ 1 < cLine):Nd X (compareOp .In) CT:=by
 intro pins s σ H y x v u Q I b c h;obtain⟨a,n,kvs,rfl,rfl,e,q⟩:=h;cases c;exact SI hu I (MT.k (k:=Sum.inl n) e) b fun s' f=>⟨.bl _,H,f,rfl,q⟩
end
end L2
namespace L2
open PySem PySem.Spec PyProof.Rows
def FZ(K:WV):List V->Hp->VK->Prop:=fun xs H Q=>∃a C1 C2 dx fs b,xs=[.ref a,.ref C2]/\H a=some (.ins C1 dx fs)/\D4 K C1/\Bx K C1/\W.kitOne K (.ref C1) (.ref C2)=some b/\Q (.bl b) H
theorem bL{X:Cx}{K:WV}(h:X.K=K):JA X (.builtin "isinstance") (FZ K):=by
 subst h;intro pins s σ H xs e Q I r hh;obtain⟨a,j,i,dx,fs,b,rfl,ha,g,c,f,q⟩:=hh;exact Ij pins s σ H _ e Q I r ⟨.ref a,.ref i,.ref j,b,rfl,.ins ha g c.ha c.hn c.htk c.hm,rfl,f,q⟩
section
variable{rest es:List Expr}{env:Env}{pos:Pos}{a b c:J7}
theorem Dv{k:Nat}:starEach (.Tuple es k pos::rest) env=(false,eval (.Tuple es k pos) env)::starEach rest env:=rfl
theorem BQ:starEach (.List es pos::rest) env=(false,eval (.List es pos) env)::starEach rest env:=rfl
theorem MX{v:Const}{k:Nat}:starEach (.Constant v k pos::rest) env=(false,eval (.Constant v k pos) env)::starEach rest env:=rfl
theorem Gv{x:Str}:starEach (.Name x pos::rest) env=(false,eval (.Name x pos) env)::starEach rest env:=rfl
theorem DR{o:Operator}:starEach (.BinOp a o b pos::rest) env=(false,eval (.BinOp a o b pos) env)::starEach rest env:=rfl
theorem yI{ks:List Keyword}:starEach (.Call a es ks pos::rest) env=(false,eval (.Call a es ks pos) env)::starEach rest env:=rfl
theorem d9{x:Str}:starEach (.Attribute a x pos::rest) env=(false,eval (.Attribute a x pos) env)::starEach rest env:=rfl
theorem yA:starEach (.Subscript a b pos::rest) env=(false,eval (.Subscript a b pos) env)::starEach rest env:=rfl
theorem Rz{gs:List Comprehension}{sc:Scope}:starEach (.ListComp a gs sc pos::rest) env=(false,eval (.ListComp a gs sc pos) env)::starEach rest env:=rfl
theorem ZO{o:UnaryOp}:starEach (.UnaryOp o a pos::rest) env=(false,eval (.UnaryOp o a pos) env)::starEach rest env:=rfl
end
section
variable{prog:WP}{w:WU}{J:Type}[DecidableEq J]{knd:HeapKind prog w J}{A:WT}{E:WM}{s:WQ}{d a:WX}{k:J}{xs:List (J×Addr×Value)}
def Nn{β:Type}(xs:List (J×β))(k:J):List (J×β):=xs.filter fun x=> !decide (x.1=k)
theorem dJ{β:Type}{xs:List (J×β)}(h:k∉xs.map (·.1)):Nn xs k=xs:=by
 unfold Nn;refine X1.mpr fun x a=>?_
 have:x.1≠k:=fun e=>h (Y3.mpr ⟨x,a,e⟩)
 simp[this]
theorem Qz{β:Type}:∀{xs:List (J×β)} {j:Nat} {p:β},(xs.map (·.1)).Nodup->xs[j]?=some (k,p)->xs.eraseIdx j=Nn xs k
 |[],_,_,_,h=>by simp at h
 |x::r,0,p,hn,h=>by
  simp only[List.getElem?_cons_zero,Option.some.injEq]at h;subst h;have hn':k∉r.map (·.1):=(Yv.mp hn).1;show r=Nn ((k,p)::r) k;unfold Nn;rw[YQ,Y5 (by simp)];exact(dJ hn').symm
 |x::r,j+ 1,p,hn,h=>by
  simp only[List.getElem?_cons_succ]at h;have c:k∈r.map (·.1):=Y3.mpr ⟨(k,p),Yq h,rfl⟩;have a:¬x.1=k:=fun e=>(Yv.mp hn).1 (by show x.1∈_;rw[e];exact c)
  have b:=Qz (Yv.mp hn).2 h;show x::r.eraseIdx j=Nn (x::r) k;rw[b];unfold Nn;rw[YQ,Y6 (by simp[a])]
theorem PY{α β:Type}(f:α->β):∀ (l:List α) (j:Nat),(l.map f).eraseIdx j=(l.eraseIdx j).map f
 |[],_=>rfl
 |_::_,0=>rfl
 |x::r,j+ 1=>by show f x::(r.map f).eraseIdx j=f x::(r.eraseIdx j).map f;rw[PY f r j]
theorem jK{p:Addr×Value}{Q:Option DictEntry->Shared->Prop}(hu:knd.room A)(hkey:knd.is s.heap k a)(hm:s.heap.DictOfH knd d xs)(hp:atKey xs k=some p)(hz:xs.length <=sizeLine)
  (hQ:∀h',h'.DictOfH knd d (Nn xs k)->Heap.SameBut d s.heap h'->Q (some ⟨knd.hash k,.ref p.1,p.2⟩) {s with heap:=h',toks:=s.toks+ knd.draws k}):wpAny (model prog w) A (Builtin.Dict.takeOut d (.ref a)) Q E s:=by
 obtain⟨o,es,ep,b,r,hd,e,f,c⟩:=hm;have i:es.size <=sizeLine:=by rw[We e];exact hz
 unfold Builtin.Dict.takeOut
 try with_reducible refine YK ?_
 refine Y0 (knd.pyHash hu hkey (Y0 (wpAny_dictFind_heap (s:={s with toks:=s.toks+ knd.draws k}) hu hkey b hd e f c (fun h=>?_) fun j q g=>?_)))
 .rw[VZ h]at hp;cases hp
 .rw[atKey_of_get c g]at hp;obtain rfl:=Option.some.inj hp;refine Y0 (Xv (s:={s with toks:=s.toks+ knd.draws k}) b hd ?_);rw[entry_at e j,g];refine Y0 (wpAny_updateDictKeys (hz:=i) (s:={s with toks:=s.toks+ knd.draws k}) b hd (Y2 (hQ _ ⟨_,_,ep+ 1,YB _ b (Obj.isFreed_of_dict (UK hd _)),r.mapDictKeys _,UK hd _,?_,?_,?_⟩ (Xc ..))))
  .rw[<-Qz c g];have u:(es.eraseIdxIfInBounds j).toList=es.toList.eraseIdx j:=by simp
   rw[u,e,PY]
  .intro x n;exact knd.keeps (f x (Yf.mp n).1) b hd (Xc ..)
  .exact List.Nodup.sublist (Xy _ YC) c
theorem nR{v:WW}{Q:WM}(hu:knd.room A)(hkey:knd.is s.heap k a)(hm:s.heap.DictOfH knd d xs)(hz:xs.length <=sizeLine)(h1:∀p,atKey xs k=some p->Q p.2 {s with toks:=s.toks+ knd.draws k})
  (h2:atKey xs k=none->∀h',h'.DictOfH knd d (xs++[(k,a,v)])->Heap.SameBut d s.heap h'->Q v {s with heap:=h',toks:=s.toks+ knd.draws k}):wpAny (model prog w) A (dictSetDefault d (.ref a) v) Q E s:=by
 obtain⟨o,es,ep,b,hc,hd,c,g,n⟩:=hm;have u:es.size <=sizeLine:=by rw[We c];exact hz
 unfold dictSetDefault
 try with_reducible refine YK ?_
 refine Y0 (knd.pyHash hu hkey (Y0 (wpAny_dictFind_heap (s:={s with toks:=s.toks+ knd.draws k}) hu hkey b hd c g n (fun f=>?_) fun j q r=>?_)))
 .have i:k∉xs.map (·.1):=not_mem_keys_of_get f;refine Y0 (UJ (Y0 (wpAny_updateDictKeys (hz:=u) (s:={s with toks:=s.toks+ knd.draws k}) b hd (Y2 (h2 (VZ f) _ ⟨_,_,ep+ 1,YB _ b (Obj.isFreed_of_dict (UK hd _)),hc.mapDictKeys _,UK hd _,?_,?_,?_⟩ (Xc ..))))))
  .simp[c,entryOfKey]
  .intro x h;rcases Yp.mp h with z|z
   .exact knd.keeps (g x z) b hd (Xc ..)
   .rw[Yb.mp z];exact knd.keeps hkey b hd (Xc ..)
  .rw[List.map_append,Xd];refine⟨n,by simp,fun x h y hy e=>i ?_⟩;have:y=k:=by simpa using hy
   rw[<-this,<-e];exact h
 .refine Y0 (Xv (s:={s with toks:=s.toks+ knd.draws k}) b hd ?_);rw[entry_at c j,r];exact Y0 (UJ (Y2 (h1 q (atKey_of_get n r))))
end
section
variable{prog:WP}{w:WU}{J:Type}[DecidableEq J]{knd:HeapKind prog w J}{d a:WX}
theorem mM (hd : (d == sysModules) = false) (dflt : Value) : MeetsIn prog w (Builtin.«dict.setdefault» ⟨[.ref d, .ref a, dflt], []⟩) (fun A R s => knd.room A.in1 /\ ∃ k xs, knd.is s.heap k a /\ s.heap.DictOfH knd d xs /\ xs.length <= sizeLine /\
  (∀ p, atKey xs k = some p -> R (.ok (.ret p.2)) { s with toks := s.toks + knd.draws k }) /\ (atKey xs k = none -> ∀ h', h'.DictOfH knd d (xs ++ [(k, a, dflt)]) -> Heap.SameBut d s.heap h' -> R (.ok (.ret dflt)) { s with heap := h', toks := s.toks + knd.draws k })) :=
 .of_wp fun A R s ⟨e,k,xs,i,b,c,h1,h2⟩=>by
  unfold Builtin.«dict.setdefault»;refine Y0 (?_:wpAny _ _ (Builtin.Dict.keyAndDefault _ _) _ _ _);unfold Builtin.Dict.keyAndDefault;refine Y0 (Ua b.typeIs (?_:wpAny _ _ (pure (d,Value.ref a,some dflt)) _ _ s));refine Y2 (?_:wpAny _ _ (if(d==sysModules)=true then _ else(dictSetDefault d (.ref a) dflt >>=_)) _ _ s);rw[Y5 (by simp[hd])];exact Y0 (nR e i b c (fun p g=>Y2 ⟨_,rfl,h1 p g⟩) fun h h' j f=>Y2 ⟨_,rfl,h2 h h' j f⟩)
theorem Zj : MeetsIn prog w (Builtin.«dict.pop» ⟨[.ref d, .ref a], []⟩) (fun A R s => knd.room A.in1 /\ ∃ k xs p, knd.is s.heap k a /\ s.heap.DictOfH knd d xs /\ xs.length <= sizeLine /\ atKey xs k = some p /\
  ∀ h', h'.DictOfH knd d (Nn xs k) -> Heap.SameBut d s.heap h' -> R (.ok (.ret p.2)) { s with heap := h', toks := s.toks + knd.draws k }) :=
 .of_wp fun A R s ⟨j,k,xs,p,r,c,i,b,h⟩=>by
  obtain⟨o,es,ep,q,hc,hd,u,ac,hn⟩:=id c;unfold Builtin.«dict.pop»;refine Y0 (?_:wpAny _ _ (Builtin.Dict.keyAndDefault _ _) _ _ _);unfold Builtin.Dict.keyAndDefault;refine Y0 (Ua c.typeIs (?_:wpAny _ _ (pure (d,Value.ref a,none)) _ _ s));refine Y2 ?_;have g:(keyPart (.ref a)).isSome=false:=rfl;have f:es.isEmpty=false:=by
   have ab:=We u;have e:xs≠[]:=fun z=>by rw[z]at b;cases b
   have aa:0 < xs.length:=VM.mpr e;have x:¬es.size=0:=by lia
   unfold Array.isEmpty;exact Yk x
  simp only[g,Bool.false_eq_true,if_false];refine Y0 (Xv q hd (Y0 (Y2 ?_)));rw[f];simp only[Bool.false_eq_true,if_false];refine Y0 (jK j r c b i fun h' y n=>?_);simp only[Option.isNone_some,Bool.false_eq_true,if_false];exact Y0 (Vh (Y2 ⟨_,rfl,h h' y n⟩))
end
section
variable{X:Cx}{K:WV}
theorem KT.app{H:Hp}{kvs:List (List Jw×V)}{xs:List (List Jw×Addr×Value)}{k:List Jw}{v:V}{b:WX}{u:WW}(r:KT H kvs xs)(hb:H b=some (.tup (k.map kV)))(rv:Jr v u):KT H (kvs++[(k,v)]) (xs++[(k,b,u)]):=by
 induction r with
 |nil=>exact .cons ⟨rfl,hb,rv⟩ .nil
 |cons q _ ih=>exact .cons q ih
theorem KT.less{H:Hp}{kvs:List (List Jw×V)}{xs:List (List Jw×Addr×Value)}{k:List Jw}(r:KT H kvs xs):KT H (Nn kvs k) (Nn xs k):=by
 induction r with
 |nil=>exact .nil
 |@cons p q ps qs hq t ih=>
  unfold Nn at ih ⊢;rw[YQ,YQ,<-hq.1]
  split
  .exact .cons hq ih
  .exact ih
def LC:V->List V->Hp->VK->Prop:=fun x vs H Q=>∃ (a b:WX) (k:List Jw) (kvs:List (List Jw×V)) (z:V),x= .ref a/\vs=[.ref b,z]/\H a=some (.dT kvs)/\H b=some (.tup (k.map kV))/\kvs.length < sizeLine/\
 (∀v,JE kvs k=some v->Q v H)/\(JE kvs k=none->∀G,Nj a H G->G a=some (.dT (kvs++[(k,z)]))->Q z G)
theorem On(hu:X.A.units+ 1 < cLine):Dy X "dict.setdefault" LC:=by
 intro pins s σ H x vs v us Q I rx rv h;obtain⟨a,b,k,kvs,z,rfl,rfl,i,r,hl,q1,q2⟩:=h;cases rx;cases rv with
 |cons r1 t1=>
  cases t1 with
  |cons r2 t2=>
   cases t2;cases r1;obtain⟨hz,hd,xs,g,dd⟩:=BX I.hok i;have j:xs.length <=sizeLine:=by rw[<-Paired.length g];exact hz
   have f:=g.val k;refine W3 UD dd.typeIs PySem.F.entry_dict_setdefault (PySem.F.args_dict_setdefault_3 _ _ _) (mM (knd:=tupleKind (Jo X.prog X.w)) hd _) ⟨XU hu,k,xs,Rs I.hok r,dd,j,fun p hp=>?_,fun hn h' aa hs=>?_⟩
   .rw[hp]at f;cases e:JE kvs k with
    |none=>rw[e]at f;exact f.elim
    |some y=>rw[e]at f;exact⟨y,H,I.tok _,f,q1 y e⟩
   .rw[hn]at f;cases e:JE kvs k with
    |some y=>rw[e]at f;exact f.elim
    |none=>
     obtain⟨q,es,ep,n,h2,h3,h4,_,h5⟩:=aa;refine⟨z,upd H a (.dT (kvs++[(k,z)])),?_,r2,q2 e _ Nj.upd Nc⟩;refine CS I (by rw[i];exact True.intro) hs ⟨q,n⟩ ⟨by rw[Yl];exact hl,hd,_,(g.app r r2).keeps fun c ys u=>?_,q,es,ep,n,h2,h3,h4,h5⟩;rw[JF (Ja u i (fun z=>nomatch z))];exact u
def K4:V->List V->Hp->VK->Prop:=fun x vs H Q=>∃ (a b:WX) (k:List Jw) (kvs:List (List Jw×V)) (v:V),x= .ref a/\vs=[.ref b]/\H a=some (.dT kvs)/\H b=some (.tup (k.map kV))/\JE kvs k=some v/\
 ∀G,Nj a H G->G a=some (.dT (Nn kvs k))->Q v G
theorem K0(hu:X.A.units+ 1 < cLine):Dy X "dict.pop" K4:=by
 intro pins s σ H x vs v us Q I rx rv h;obtain⟨a,b,k,kvs,z,rfl,rfl,g,hb,i,q⟩:=h;cases rx;cases rv with
 |cons r1 t1=>
  cases t1;cases r1;obtain⟨j,hd,xs,e,dd⟩:=BX I.hok g;have n:xs.length <=sizeLine:=by rw[<-Paired.length e];exact j
  have f:=e.val k;rw[i]at f;cases hp:atKey xs k with
  |none=>rw[hp]at f;exact f.elim
  |some p=>
   rw[hp]at f;refine W3 UE dd.typeIs PySem.F.entry_dict_pop (PySem.F.args_dict_pop_2 _ _) (Zj (knd:=tupleKind (Jo X.prog X.w)) (d:=a) (a:=b)) ⟨XU hu,k,xs,p,Rs I.hok hb,dd,n,hp,fun h' y hs=>?_⟩;obtain⟨o,es,ep,r,h2,h3,h4,_,h5⟩:=y;refine⟨z,upd H a (.dT (Nn kvs k)),?_,f,q _ Nj.upd Nc⟩;refine CS I (by rw[g];exact True.intro) hs ⟨o,r⟩ ⟨YF (YE _ _) j,hd,_,(KT.less e).keeps fun c ys u=>?_,o,es,ep,r,h2,h3,h4,h5⟩;rw[JF (Ja u g (fun z=>nomatch z))];exact u
end
section
variable{X:Cx}{pins:WO}{σ:St}{H:Hp}{s:WQ}{d:WX}{u0 u1:HO}
theorem Jd.retag(I:Jd X pins σ H s)(e:H d=some u0)(n1:∀xs,u0≠ .tup xs)(n2:∀x,u0≠ .own x)(n3:∀ps,u0≠ .tbl ps)(n4:∀o u,X.H₀ d≠some (.frz o u))(new:Jy X.prog X.w (upd H d u1) s.heap d u1):Jd X pins σ (upd H d u1) s:=by
 have ne:∀{b:WX},H b=none->b≠d:=fun h z=>by rw[z,e]at h;cases h
 have a:∀b xs,H b=some (.tup xs)->upd H d u1 b=some (.tup xs):=fun b xs h=>by
  rw[JF (fun z=>by rw[z,e]at h;exact n1 xs (Option.some.inj h))];exact h
 have g:∀b x,H b=some (.own x)->upd H d u1 b=some (.own x):=fun b x h=>by
  rw[JF (fun z=>by rw[z,e]at h;exact n2 x (Option.some.inj h))];exact h
 refine⟨I.ok,I.os,I.bare,⟨I.base.keep,I.base.slot,fun b o q n i=>?_,I.base.there,fun b xs q=>a b xs (I.base.tups b xs q),fun b o u q=>?_,fun b ps q=>?_⟩,I.loc,I.cell,?_,fun x c q=>?_,fun p j=>?_,fun b u q=>?_,I.len⟩
 .have:=I.base.free b o q n i;rw[JF (ne this)];exact this
 .rw[JF (fun z=>n4 o u (by rw[<-z];exact q))];exact I.base.frzs b o u q
 .obtain⟨m,h⟩:=I.base.tbls b ps q;exact⟨m,by rw[JF (fun z=>by rw[z,e]at h;exact n3 _ (Option.some.inj h))];exact h⟩
 .rw[JF (ne I.free)];exact I.free
 .rw[JF (ne (I.freeC x c q))];exact I.freeC x c q
 .obtain⟨y,f,r⟩:=I.pin p j;exact⟨y,by rw[JF (ne f)];exact f,r⟩
 .by_cases hb:b=d
  .subst hb;rw[Nc]at q;cases q;exact new
  .rw[JF hb]at q;exact(I.hok b u q).stay (fun c v _ h=>h) (fun c h=>g c b h) a
theorem Jd.freeze{kvs:List (List Jw×V)}{o:Obj}(I:Jd X pins σ H s)(e:H d=some (.dT kvs))(ho:s.heap.get? d=some o):Jd X pins σ (upd H d (.frz o (.dT kvs))) s:=by
 refine I.retag e (fun _ z=>nomatch z) (fun _ z=>nomatch z) (fun _ z=>nomatch z) (fun o u z=>?_) ⟨ho,?_⟩
 .have:=I.base.frzs d o u z;rw[e]at this;cases this
 .exact(I.hok d _ e).stay (fun c v _ h=>h) (fun c h=>by rw[JF (Ja h e (fun z=>nomatch z))];exact h) fun c xs h=>by rw[JF (Ja h e (fun z=>nomatch z))];exact h
theorem Jd.thaw{kvs:List (List Jw×V)}{o:Obj}(I:Jd X pins σ H s)(e:H d=some (.frz o (.dT kvs)))(n4:∀o u,X.H₀ d≠some (.frz o u)):Jd X pins σ (upd H d (.dT kvs)) s:=by
 refine I.retag e (fun _ z=>nomatch z) (fun _ z=>nomatch z) (fun _ z=>nomatch z) n4 ?_;have h1:Jy X.prog X.w H s.heap d (.dT kvs):=(I.hok d _ e).2;exact h1.stay (fun c v _ h=>h) (fun c h=>by rw[JF (Ja h e (fun z=>nomatch z))];exact h) fun c xs h=>by rw[JF (Ja h e (fun z=>nomatch z))];exact h
end
section
variable{prog:WP}{w:WU}{A:WT}{E:WM}{s:WQ}{d it:WX}{o:Obj}{es:Array DictEntry}{ep i n:Nat}
theorem OQ{Q:WM}(hd:(d==sysModules)=false)(ho:s.heap.get? d=some o)(hc:o.ExactDict)(hdat:o.data= .dict es ep)
  (hQ:Q (.ref s.heap.objs.size) {s with heap:=s.heap.push {cls:=.type "dict_keyiterator",data:=.fields #[.ref d,.int 0 0,.int es.size 0,.int ep 0]}}):wpAny (model prog w) A (pyIter (.ref d)) Q E s:=by
 have a:s.TypeIs (.ref d) "dict":=⟨o,ho,hc.1⟩
 refine Vc a Wj (YU Wj a PySem.F.entry_dict_iter ?_ (PySem.F.args_dict_iter_1 _));unfold Builtin.«dict.__iter__»;refine Y0 (?_:wpAny _ _ (Builtin.Dict.dictSlotNone _ _) _ _ _);unfold Builtin.Dict.dictSlotNone;refine Y0 (Ua a (?_:wpAny _ _ (pure (Value.ref d)) _ _ s));refine Y2 (?_:wpAny _ _ (Builtin.Dict.showsAll d >>=_) _ _ s);unfold Builtin.Dict.showsAll;rw[Y5 (by simp[hd])];refine Y0 (Y2 (Y0 (Xv ho hdat (Y0 (Uw ho hdat (Y0 (YO (Y2 ⟨_,rfl,"dict_keyiterator",_,⟨_,Yc _ rfl,rfl⟩,Xn.lookup,?_⟩))))))));simpa[rawInt] using hQ
theorem SD{Q:Option Value->Shared->Prop}(hit:s.heap.IsKeyIter it d i es.size ep)(ho:s.heap.get? d=some o)(hdd:o.data= .dict es ep)(hlt:i < es.size)
  (hQ:∀h',h'.IsKeyIter it d (i+ 1) es.size ep->Heap.SameBut it s.heap h'->Q (some es[i].key) {s with heap:=h'}):wpAny (model prog w) A (pyNext (.ref it)) Q E s:=by
 obtain⟨f,a,e,hd⟩:=id hit;have c:=hit.typeIs;unfold pyNext;refine Y0 (XS (X0 (name:=Str.ofString "__next__") c Xn (YU Xn c V8 ?_ (V0 _))));refine Y0 (Y2 (Y0 (Y0 ?_)));refine Y0 (XW c (Y2 (Y0 (U3 a hd ?_))));simp only[show Builtin.Dict_items.ownsTuple "dict_keyiterator"=false by decide,Bool.false_eq_true,if_false];refine(?_:wpAny _ _ (if(Value.ref d==Value.none)=true then _ else _) _ _ s);rw[Y5 (show ¬((Value.ref d==Value.none)=true) from fun z=>Bool.noConfusion z)];refine Y0 (Y2 (Y0 (Xv ho hdd ?_)));rw[Y5 (by simp)];refine Y0 (Y2 (Y0 (Uw ho hdd ?_)));rw[Y5 (by simp)];refine Y2 ?_;simp only[show ¬((i:Int) < 0) by omega,if_false,X7,Yz hlt];refine Y0 (Y0 (XW c (Y2 (Y0 (wpAny_isOneOf_keyiter c ?_)))));refine(?_:wpAny _ _ (setField (.ref it) 1 (rawInt ((i:Int)+ 1)) >>=_) _ _ s);refine Y0 (XE a hd (by simp) ?_);have b:(s.heap.update it (Obj.mapFields (·.setIfInBounds 1 (rawInt ((i:Int)+ 1))))).IsKeyIter it d (i+ 1) es.size ep:=
  ⟨_,YB _ a (Obj.isFreed_of_fields (V1 hd _)),(Obj.cls_mapFields ..).trans e,by rw[V1 hd];simp[rawInt]⟩
 refine Y0 (YK (Y0 (wpAny_isOneOf_keyiter (s:={s with heap:=s.heap.update it (Obj.mapFields (·.setIfInBounds 1 (rawInt ((i:Int)+ 1))))}) b.typeIs ?_)));refine(?_:wpAny _ _ (pure es[i].key) _ _ _);exact Y2 (Y2 ⟨_,rfl,Y2 (hQ _ b (Xc ..))⟩)
theorem QA{Q:Option Value->Shared->Prop}(hh:A.handled=none)(hit:s.heap.IsKeyIter it d i es.size ep)(ho:s.heap.get? d=some o)(hdd:o.data= .dict es ep)(hge:es.size <=i)
  (hQ:∀h',Heap.ExtBut it s.heap h'->Q none {s with heap:=h'}):wpAny (model prog w) A (pyNext (.ref it)) Q E s:=by
 obtain⟨f,e,g,hd⟩:=id hit;have c:=hit.typeIs;unfold pyNext;refine Y0 (XS (X0 (name:=Str.ofString "__next__") c Xn (YU Xn c V8 ?_ (V0 _))));refine Y0 (Y2 (Y0 (Y0 ?_)));refine Y0 (XW c (Y2 (Y0 (U3 e hd ?_))));simp only[show Builtin.Dict_items.ownsTuple "dict_keyiterator"=false by decide,Bool.false_eq_true,if_false];refine(?_:wpAny _ _ (if(Value.ref d==Value.none)=true then _ else _) _ _ s);rw[Y5 (show ¬((Value.ref d==Value.none)=true) from fun z=>Bool.noConfusion z)];refine Y0 (Y2 (Y0 (Xv ho hdd ?_)));rw[Y5 (by simp)];refine Y0 (Y2 (Y0 (Uw ho hdd ?_)));rw[Y5 (by simp)];refine Y2 ?_;simp only[show ¬((i:Int) < 0) by omega,if_false,X7,Uz hge];refine Y0 (Y0 (XW c (Y2 ?_)));refine(?_:wpAny _ _ (setField (.ref it) 0 .none >>=_) _ _ s);refine Y0 (XE e hd (by simp) ?_);refine(?_:wpAny _ _ (newExc (.type "StopIteration") [] >>=_) _ _ _);refine Y0 ?_;simp only[newExc,newTuple];refine Y0 (YO (Y0 (m:=firstArgMember _ _) (Uy (a:=Value.none) (by first|rfl|(simp only[firstArgMember];rfl)) (YO ?_ (by size_fits)))) (by size_fits));simp only[raiseNew];refine Y0 (VR ?_);rw[show A.in1.handled=none from hh];refine Y0 (Y2 (Wk ?_));exact Y0 (Uk (T:="StopIteration") (b:=true) ⟨_,Yc _ rfl,rfl⟩ V7 (Y2 (hQ _ (((Xc ..).extBut.push _).push _))))
end
def Qs(d:WX)(o:Obj)(kvs:List (List Jw×V)):It:=
 ⟨fun i H=>H d=some (.frz o (.dT kvs))/\i < kvs.length,fun i H x H'=>H'=H/\∃b k v,x= .ref b/\kvs[i]?=some (k,v)/\H b=some (.tup (k.map kV)),fun i H=>H d=some (.frz o (.dT kvs))/\kvs.length <=i⟩
theorem KT.at'{H:Hp}:∀{kvs:List (List Jw×V)} {xs:List (List Jw×Addr×Value)},KT H kvs xs->∀{i:Nat} {x:List Jw×Addr×Value},xs[i]?=some x->∃v,kvs[i]?=some (x.1,v)/\H x.2.1=some (.tup (x.1.map kV)):=by
 intro kvs xs r
 induction r with
 |nil=>intro i x h;simp at h
 |@cons p q ps qs hq t ih=>
  intro i x h;cases i with
  |zero=>
   simp only[List.getElem?_cons_zero,Option.some.injEq]at h;subst h;refine⟨p.2,by simp[<-hq.1],by rw[<-hq.1];exact hq.2.1⟩
  |succ i=>exact ih (by simpa using h)
theorem yS{P:WP}{w:WU}{K:WV}{tg:J7}{o:Obj}{kvs:List (List Jw×V)}{es:Array DictEntry}{ep:Nat}(d it:WX)(hdat:o.data= .dict es ep)(hsz:es.size=kvs.length):Ed P w K tg (Qs d o kvs) [it] it (fun i h=>h.IsKeyIter it d i es.size ep) where
 mem:=by simp
 obj:=fun i h st b a=>by
  have e:b=it:=by simpa using a
  subst e;obtain⟨o,e,c,d⟩:=st;exact⟨o,e,fun v z=>by rw[d]at z;cases z⟩
 keep:=fun i h h' st k=>by
  obtain⟨n,e,r⟩:=st;exact⟨n,k it (by simp) n e,r⟩
 item:=by
  intro X u p x hc i pins s σ H E I hf st q;subst u p x;obtain⟨hF,hi⟩:=q;obtain⟨f0,f1,f2,f3,f4,f5⟩:=hf it (by simp);obtain⟨f,hob⟩:=(show s.heap.get? d=some o/\Jy X.prog X.w H s.heap d (.dT kvs) from I.hok d _ hF);obtain⟨z,y,xs,r,o',es',ep',q1,q2,q3,q4,q5⟩:=hob;rw[f]at q1;cases q1;rw[hdat]at q3;cases q3;have j:i < es.size:=by omega
  refine SD st f hdat j fun h' g sb=>?_
  have I1:Jd X pins σ H {s with heap:=h'}:=I.turned (t':=s.toks) (fun b o a e=>(sb.2 b a).trans e) f0 f1 f3 f4 f5;obtain⟨n,e,c,dd⟩:=id g;have hxl:xs.length=es.size:=by rw[<-Array.length_toList,q4,Y1]
  have hx:xs[i]?=some xs[i]:=Y4 (by omega);obtain⟨v,hv,a⟩:=KT.at' r hx;have hk:es[i].key= .ref xs[i].2.1:=by
   have:es.toList[i]?=(xs.map (entryOfKey (tupleKind (Jo X.prog X.w))))[i]?:=by rw[q4]
   rw[Y9,hx,Array.getElem?_toList,Yz j]at this;rw[Option.some.inj this];rfl
  exact⟨_,rfl,Ad (s:={s with heap:=h'}) e c dd (by decide) ⟨.ref xs[i].2.1,H,I1,hk,⟨rfl,_,_,v,rfl,hv,a⟩,g,fun b a=>(hf b a).1⟩⟩
 done:=by
  intro X u p x hc i pins s σ H E I hf st q;subst u p x;obtain⟨hF,hi⟩:=q;obtain⟨f0,f1,f2,f3,f4,f5⟩:=hf it (by simp);have f:s.heap.get? d=some o:=(show s.heap.get? d=some o/\Jy X.prog X.w H s.heap d (.dT kvs) from I.hok d _ hF).1;exact QA (I.ok.hd hc) st f hdat (by omega) fun h' eb=>⟨rfl,I.turned (t':=s.toks) (fun b o a e=>eb b o a e) f0 f1 f3 f4 f5⟩
 self:=fun A i s Q E st h=>by
  exact wpAny_pyIter_keyiter st h
section
variable{X:Cx}{K:WV}
def Lk(td:TE):TI:=fun σ H R=>td σ H fun x H1=>∃a kvs,x= .ref a/\H1 a=some (.dT kvs)/\∀o,R (Qs a o kvs) (upd H1 a (.frz o (.dT kvs)))
theorem Cu{tg e:J7}{td:TE}(hl:PE X e td):PI X tg e (Lk td):=by
 intro pins s σ H R I h;refine JH (hl pins s σ H _ I h) fun v c ⟨x,H1,n,p,a,kvs,ex,j,q⟩=>?_
 subst ex;cases p;obtain⟨z,y,xs,r,o,es,ep,i,q2,g,u,q5⟩:=(show Jy X.prog X.w H1 c.heap a (.dT kvs) from n.hok a _ j);have hxl:xs.length=es.size:=by rw[<-Array.length_toList,u,Y1]
 have hkl:=Paired.length r;refine OQ y i q2 g ?_;have f:=n.freeze j i;refine⟨c.heap.objs.size,[c.heap.objs.size],_,_,_,rfl,f.kept (t':=c.toks) fun b o e=>Y7 _ e,yS a _ g (by omega),⟨_,Yc _ rfl,rfl,rfl⟩,fun b hb=>?_,q o⟩;have e:b=c.heap.objs.size:=by simpa using hb
 subst e;exact f.fpOk (Y8 _) (f.hok.fresh (Y8 _))
def Ag(t:TE):TE:=fun σ H Q=>∃d kvs,H d=some (.dT kvs)/\t σ H fun v H'=>∃o,H' d=some (.frz o (.dT kvs))/\Q v (upd H' d (.dT kvs))
theorem O3{e:J7}{t:TE}(h:PE X e t):PE X e (Ag t):=by
 intro pins s σ H Q I a;obtain⟨d,kvs,hd,a⟩:=a;have b:∀o u,X.H₀ d≠some (.frz o u):=fun o u z=>by have:=I.base.frzs d o u z;rw[hd]at this;cases this
 exact JH (h pins s σ H _ I a) fun u g ⟨v,H1,f,r,o,c,q⟩=>⟨v,_,f.thaw c b,r,q⟩
end
section
variable{caps:List (Option Nat)}{g:TG}{tc:TT}{te td:TE}{d:WX}{kvs:List (List Jw×V)}{σ:St}{H:Hp}{Q:VK}
theorem KD(hd:H d=some (.dT kvs))(htd:∀R:VK,R (.ref d) H->td σ H R)(Pv:Nat->List V->St->Prop)(h0:Pv 0 [] (NV caps σ))(hl:∀i ys σ',Pv i ys σ'->ys.length <=i)(hz:kvs.length <=100000)
  (hs:∀Hf o,(∀c,c≠d->Hf c=H c)->Hf d=some (.frz o (.dT kvs))->∀i b k v ys σ',kvs[i]?=some (k,v)->H b=some (.tup (k.map kV))->Pv i ys σ'->g (.ref b) σ' Hf fun σ2 H2=>tc σ2 H2 fun c H3=>if c=true then te σ2 H3 fun y H4=>Pv (i+ 1) (ys++[y]) σ2/\H4=Hf else Pv (i+ 1) ys σ2/\H3=Hf)
  (he:∀ys σ',Pv kvs.length ys σ'->∀p G,H p=none->Jb H G->G p=some (.lst ys)->Q (.ref p) G):Ag (RW caps (Lk td) g tc te) σ H Q:=by
 refine⟨d,kvs,hd,htd _ ⟨d,kvs,rfl,hd,fun o=>?_⟩⟩;obtain⟨Hf,r⟩:∃Hf,Hf=upd H d (.frz o (.dT kvs)):=⟨_,rfl⟩;rw[<-r];have f:Hf d=some (.frz o (.dT kvs)):=by rw[r,Nc]
 have h:∀c,c≠d->Hf c=H c:=fun c j=>by rw[r,JF j]
 refine⟨fun i m ys σ' H'=>m=kvs.length - i/\i <=kvs.length/\Pv i ys σ'/\H'=Hf,⟨kvs.length,by simp,Ys _,h0,rfl⟩,?_⟩;rintro i m ys σ' H' ⟨rfl,hi,p,rfl⟩;have hy:=hl i ys σ' p
 by_cases hlt:i < kvs.length
 .refine .inr ⟨⟨f,hlt⟩,Yi (U7 (Yi hy hlt)) (DK hz),fun s σ2 H2=>Pv (i+ 1) s σ2/\H2=H',fun s σ2 H2 q=>⟨kvs.length - (i+ 1),by omega,rfl,hlt,q⟩,fun x H2 y=>?_⟩;obtain⟨e,b,k,v,ex,hk,w⟩:=y;subst e ex;have hbd:b≠d:=fun z=>by rw[z,f]at w;cases w
  exact hs H2 o h f i b k v ys σ' hk (by rw[<-h b hbd];exact w) p
 .have e:i=kvs.length:=by omega
  subst e;refine .inl ⟨⟨f,Y8 _⟩,N0 (YF hy hz),fun n a=>⟨o,?_,he ys σ' p n _ ?_ (fun c u e=>?_) ?_⟩⟩
  .have:d≠n:=fun z=>by rw[<-z,f]at a;cases a
   rw[JF this];exact f
  .have:n≠d:=fun z=>by rw[z,f]at a;cases a
   rw[<-h n this];exact a
  .by_cases j:c=d
   .rw[j,hd]at e;rw[j,Nc];exact e
   .have:c≠n:=fun z=>by rw[<-z,h c j]at a;rw[a]at e;cases e
    rw[JF j,JF this,h c j];exact e
  .have:n≠d:=fun z=>by rw[z,f]at a;cases a
   rw[JF this,Nc]
end
section
variable{X:Cx}{pos pos' p0:Pos}{o i value:J7}{td ty tv tz:TE}
def Hb(td ty tv:TE):TS:=fun D σ H=>tv σ H fun v H1=>td σ H1 fun x H2=>ty σ H2 fun y H3=>∃ (a b:WX) (k:List Jw) (kvs:List (List Jw×V)),x= .ref a/\y= .ref b/\H3 a=some (.dT kvs)/\H3 b=some (.tup (k.map kV))/\kvs.length < sizeLine/\∀G,Nj a H3 G->G a=some (.dT (MZ kvs k v))->D.nx σ G
theorem Sh(hu:X.A.units+ 1 < cLine)(ho:PE X o td)(hi:PE X i ty)(hv:PE X value tv)(hs:swapsWith value (some (.Subscript o i pos')) pos.line X.env=pure false):
  PS X (.Assign [.Subscript o i pos'] value pos) (Hb td ty tv):=by
 intro pins s σ H D I h;refine wpAny_Assign_Subscript (JH (hv pins s σ H _ I h) fun r e ⟨v,H1,I1,j,q⟩=>JH (ho pins e σ H1 _ I1 q) fun u c ⟨x,H2,I2,g,p⟩=>JH (hi pins c σ H2 _ I2 p) fun iv s3 ⟨y,H3,I3,f,a,b,k,kvs,ex,z,ea,eb,w,n⟩=>?_) hs;subst ex z;obtain rfl:u=Value.ref a:=g;exact Pb hu I3 (DZ.t (k:=k) ea eb w) f j fun s4 I4=>⟨σ,_,I4,n _ Nj.upd Nc⟩
def FQ:R2:=fun y x H Q=>∃ (a b:WX) (k:List Jw) (kvs:List (List Jw×V)),y= .ref b/\x= .ref a/\Rd H a (.dT kvs)/\H b=some (.tup (k.map kV))/\Q (.bl (JE kvs k).isSome) H
theorem xF(hu:X.A.units+ 1 < cLine):Nd X (compareOp .In) FQ:=by
 intro pins s σ H y x v u Q I c e h;obtain⟨a,b,k,kvs,rfl,rfl,g,f,q⟩:=h;cases e;exact SI hu I (.inr ⟨kvs,k,b,g,rfl,f,rfl⟩) c fun s' i=>⟨.bl _,H,i,rfl,q⟩
def Lf:R2:=fun y x H Q=>∃ (a b:WX) (k:List Jw) (kvs:List (List Jw×V)),y= .ref b/\x= .ref a/\Rd H a (.dT kvs)/\H b=some (.tup (k.map kV))/\Q (.bl (!(JE kvs k).isSome)) H
theorem uC(hu:X.A.units+ 1 < cLine):Nd X (compareOp .NotIn) Lf:=by
 intro pins s σ H y x v u Q I c e h;obtain⟨a,b,k,kvs,rfl,rfl,g,f,q⟩:=h;cases e;exact Zc hu I (.inr ⟨kvs,k,b,g,rfl,f,rfl⟩) c fun s' i=>⟨.bl _,H,i,rfl,q⟩
def Hl:TE:=fun _ H Q=>∀p G,H p=none->Jb H G->G p=some (.dT [])->Q (.ref p) G
theorem AJ:PE X (.Dict [] [] p0) Hl:=by
 intro pins s σ H Q I h;exact gU pins s σ H Q I fun p a=>h p _ a (MD a) Nc
end
section
variable{X:Cx}
def PN(t:TS):TS:=fun D σ H=>∃d kvs,H d=some (.dT kvs)/\t {nx:=fun σ' H'=>∃o,H' d=some (.frz o (.dT kvs))/\D.nx σ' (upd H' d (.dT kvs)),rt:=fun _ _=>False} σ H
theorem Sz{st:Stmt}{t:TS}(h:PS X st t):PS X st (PN t):=by
 intro pins s σ H D I a;obtain⟨d,kvs,hd,a⟩:=a;have b:∀o u,X.H₀ d≠some (.frz o u):=fun o u z=>by have:=I.base.frzs d o u z;rw[hd]at this;cases this
 refine JH (h pins s σ H _ I a) fun f g k=>?_
 cases f with
 |next=>obtain⟨σ',H',e,o,c,q⟩:=k;exact⟨σ',_,e.thaw c b,q⟩
 |brk=>obtain⟨_,_,_,q⟩:=k;exact q.elim
 |cont=>obtain⟨_,_,_,q⟩:=k;exact q.elim
 |ret u=>obtain⟨_,_,_,_,_,q⟩:=k;exact q.elim
theorem cI{caps:List (Option Nat)}{wi:TI}{g:TG}{tc:TT}{te:TE}{i:Nat}{D:TQ}{σ:St}{H:Hp}(h:Ag (RW caps wi g tc te) σ H fun v G=>D.nx (σ.set i (some v)) G):PN (Eg (RW caps wi g tc te) (Gs i)) D σ H:=h
end
end L2
namespace L2
open PySem PySem.Spec PyProof.Rows PySem.W
section
variable{X:Cx}{K:WV}
def Fm(K:WV):R2:=fun x y H Q=>∃a b xs,x= .ref a/\y= .ref b/\Jh K H a xs/\Jh K H b []/\Q (.bl (!decide (xs.length=0))) H
theorem uR(hu:X.A.units+ 64 < cLine)(h:X.K=K):Nd X (compareOp .NotEq) (Fm K):=by
 subst h;intro pins s σ H x y v u Q I n i h;obtain⟨a,b,xs,rfl,rfl,h1,h2,q⟩:=h;cases n;cases i;obtain⟨f,r,p,hz⟩:=I.list h1;obtain⟨aa,c,p2,hz2⟩:=I.list h2;cases c;have g:=r.length
 by_cases h0:xs.length=0
 .refine PySem.SeqAt.RcNeAt.lists (e:=fun _=>true) p.isList p2.isList (by rw[Yg,Yg,<-g,h0];rfl) (Yi (Vn _ 64) hu) (fun j h1 h2=>?_) X.prog X.w _ _ ?_
  .rw[Yg]at h1
   lia
  .have e0:f.toArray.size=0:=by rw[Yg];lia
   rw[e0];rw[Yh h0]at q;exact To I q rfl
 .refine PySem.SeqAt.RcNeAt.lists_lengths p.isList p2.isList (by rw[Yg,Yg,<-g];simp;exact fun z=>h0 (by rw[z];rfl)) (Yi (Vn _ 64) hu) X.prog X.w _ _ ?_;rw[Yk h0]at q;exact To I q rfl
end
end L2
namespace L2
open PySem PySem.Spec PyProof.Rows
end L2
namespace L2
open PySem PySem.Spec PyProof.Rows PySem.Builtin PySem.Builtin.ObjectAttr PySem.Builtin.Getset_descriptor
end L2
namespace L2
open PySem PySem.Spec PyProof.Rows
def HT:HO:=.ext fun _=>True
def Holds(cl:List (Str×Addr))(h:J6)(N':List Str)(σ:St):Prop:=∀ (i:Nat) (x:Str) (v:V),N'[i]?=some x->σ[i]?=some (some v)->∃c o u,cl.lookup x=some c/\h.get? c=some o/\o.data= .cell (some u)/\Jr v u
end L2
namespace L2
open PySem PySem.Spec PyProof.Rows PySem.W
abbrev Ky:=Int×Str×Str
def DA(a b:Str):Bool:=decide (a.cps.toList < b.cps.toList)
theorem Fl(a:Str):DA a a=false:=Yk (List.lt_irrefl _)
theorem Oa{a b c:Str}(h1:DA a b=true)(h2:DA b c=true):DA a c=true:=Yh (List.lt_trans (Xe h1) (Xe h2))
theorem PC{a b c:Str}(h:DA a c=true):DA a b=true\/DA b c=true:=by
 by_cases h1:a.cps.toList < b.cps.toList
 .exact .inl (Yh h1)
 .exact .inr (Yh (List.lt_of_le_of_lt (WK.mp h1) (Xe h)))
theorem Lu{a b:Str}(h1:DA a b=false)(h2:DA b a=false):a=b:=by
 have e:=List.le_antisymm (WK.mp (V2 h2)) (WK.mp (V2 h1));cases a;cases b;simp only[PySem.Str.mk.injEq];exact Array.toList_inj.mp e
theorem gF{a b:Str}(h:DA a b=true):a≠b:=fun e=>by rw[e,Fl]at h;cases h
def Mw(a b:Ky):Bool:=if a.1=b.1 then(if a.2.1=b.2.1 then DA a.2.2 b.2.2 else DA a.2.1 b.2.1) else decide (a.1 < b.1)
theorem TB{a b:Ky}:Mw a b=true↔a.1 < b.1\/a.1=b.1/\(DA a.2.1 b.2.1=true\/a.2.1=b.2.1/\DA a.2.2 b.2.2=true):=by
 unfold Mw
 by_cases h1:a.1=b.1
 .rw[Y6 h1]
  by_cases h2:a.2.1=b.2.1
  .rw [Y6 h2];exact ⟨fun h => .inr ⟨h1, .inr ⟨h2, h⟩⟩, fun h => by
    rcases h with h|⟨_,h|⟨_,h⟩⟩
    .lia
    .exact absurd h2 (gF h)
    .exact h⟩
  .rw [Y5 h2];exact ⟨fun h => .inr ⟨h1, .inl h⟩, fun h => by
    rcases h with h|⟨_,h|⟨h,_⟩⟩
    .lia
    .exact h
    .exact absurd h h2⟩
 .rw[Y5 h1,Ya];exact⟨.inl,fun h=>h.elim id fun z=>absurd z.1 h1⟩
theorem Qg{a b c:Ky}(h:Mw a c=true):Mw a b=true\/Mw b c=true:=by
 rw[TB]at*;rw[TB]
 by_cases h1:a.1 < b.1
 .exact .inl (.inl h1)
 .by_cases h2:b.1 < c.1
  .exact .inr (.inl h2)
  .rcases h with h|⟨e,h⟩
   .lia
   .have g:a.1=b.1:=by lia
    have f:b.1=c.1:=by lia
    rcases h with h|⟨e3,h⟩
    .rcases PC (b:=b.2.1) h with h|h
     .exact .inl (.inr ⟨g,.inl h⟩)
     .exact .inr (.inr ⟨f,.inl h⟩)
    .by_cases e4:a.2.1=b.2.1
     .rcases PC (b:=b.2.2) h with h|h
      .exact .inl (.inr ⟨g,.inr ⟨e4,h⟩⟩)
      .exact .inr (.inr ⟨f,.inr ⟨by rw[<-e4];exact e3,h⟩⟩)
     .cases h3:DA a.2.1 b.2.1 with
      |true=>exact .inl (.inr ⟨g,.inl rfl⟩)
      |false=>
       cases h4:DA b.2.1 a.2.1 with
       |true=>exact .inr (.inr ⟨f,.inl (by rw[<-e3];exact h4)⟩)
       |false=>exact absurd (Lu h3 h4) e4
theorem SQ{a b c:Ky}(h1:Mw a b=true)(h2:Mw b c=true):Mw a c=true:=by
 rw[TB]at*;rcases h1 with h1|⟨e1,h1⟩
 .rcases h2 with h2|⟨e2,h2⟩
  .exact .inl (by lia)
  .exact .inl (by lia)
 .rcases h2 with h2|⟨e2,h2⟩
  .exact .inl (by lia)
  .refine .inr ⟨by lia,?_⟩;rcases h1 with h1|⟨f1,h1⟩
   .rcases h2 with h2|⟨f2,h2⟩
    .exact .inl (Oa h1 h2)
    .exact .inl (by rw[<-f2];exact h1)
   .rcases h2 with h2|⟨f2,h2⟩
    .exact .inl (by rw[f1];exact h2)
    .exact .inr ⟨f1.trans f2,Oa h1 h2⟩
theorem Ff(a:Ky):Mw a a=false:=by
 unfold Mw;rw[Y6 rfl,Y6 rfl];exact Fl _
theorem Ix{a b:Ky}(h1:Mw a b=false)(h2:Mw b a=false):a=b:=by
 have f:=fun z=>Yj (h1.symm.trans (TB.mpr z))
 have e:=fun z=>Yj (h2.symm.trans (TB.mpr z))
 have c:a.1=b.1:=by
  rcases Int.lt_trichotomy a.1 b.1 with h|h|h
  .exact absurd (.inl h) f
  .exact h
  .exact absurd (.inl h) e
 have g:a.2.1=b.2.1:=Lu (X8.mpr fun z=>f (.inr ⟨c,.inl z⟩)) (X8.mpr fun z=>e (.inr ⟨c.symm,.inl z⟩));have i:a.2.2=b.2.2:=Lu (X8.mpr fun z=>f (.inr ⟨c,.inr ⟨g,z⟩⟩)) (X8.mpr fun z=>e (.inr ⟨c.symm,.inr ⟨g.symm,z⟩⟩));exact Ul c (Ul g i)
def EY:KeyOrd:=⟨Ky,Mw,Ff,fun _ _ _=>SQ,fun _ _ _=>Qg,fun _ _=>Ix⟩
def JR(a b:Int×Ky):Bool:=if a.1=b.1 then Mw a.2 b.2 else decide (a.1 < b.1)
theorem Tg{a b:Int×Ky}:JR a b=true↔a.1 < b.1\/a.1=b.1/\Mw a.2 b.2=true:=by
 unfold JR
 by_cases h:a.1=b.1
 .rw[Y6 h];exact⟨fun z=>.inr ⟨h,z⟩,fun z=>z.elim (fun q=>by lia) fun q=>q.2⟩
 .rw[Y5 h,Ya];exact⟨.inl,fun z=>z.elim id fun q=>absurd q.1 h⟩
def Gf:KeyOrd where
 α:=Int×Ky
 blt:=JR
 irrefl a:=by unfold JR;rw[Y6 rfl];exact Ff _
 trans a b c h1 h2:=by
  rw[Tg]at*;rcases h1 with h1|⟨e1,h1⟩
  .rcases h2 with h2|⟨e2,h2⟩
   .exact .inl (by lia)
   .exact .inl (by lia)
  .rcases h2 with h2|⟨e2,h2⟩
   .exact .inl (by lia)
   .exact .inr ⟨by lia,SQ h1 h2⟩
 negTrans a b c h:=by
  rw[Tg]at*;rw[Tg]
  by_cases h1:a.1 < b.1
  .exact .inl (.inl h1)
  .by_cases h2:b.1 < c.1
   .exact .inr (.inl h2)
   .rcases h with h|⟨e,h⟩
    .lia
    .rcases Qg (b:=b.2) h with h|h
     .exact .inl (.inr ⟨by lia,h⟩)
     .exact .inr (.inr ⟨by lia,h⟩)
 total a b h1 h2:=by
  have n1:=fun z=>Yj (h1.symm.trans (Tg.mpr z))
  have n2:=fun z=>Yj (h2.symm.trans (Tg.mpr z))
  have e1:a.1=b.1:=by
   rcases Int.lt_trichotomy a.1 b.1 with h|h|h
   .exact absurd (.inl h) n1
   .exact h
   .exact absurd (.inl h) n2
  exact Ul e1 (Ix (X8.mpr fun z=>n1 (.inr ⟨e1,z⟩)) (X8.mpr fun z=>n2 (.inr ⟨e1.symm,z⟩)))
end L2
namespace HT
open PySem PyProof.Rows
def ltK:Int ⊕ Str->Int ⊕ Str->Bool
 | .inl a,.inl b=>decide (a < b)
 | .inr a,.inr b=>decide (a.cps.toList < b.cps.toList)
 |_,_=>false
def lexK:List (Int ⊕ Str)->List (Int ⊕ Str)->Bool
 |[],[]=>false
 |[],_::_=>true
 |_::_,[]=>false
 |x::xs,y::ys=>if x=y then lexK xs ys else ltK x y
inductive Mc:List Value->List (Int ⊕ Str)->Prop where
 |nil:Mc [] []
 |int (a:Int) (t:Tok) {vs ks}:Mc vs ks->Mc (.int a t::vs) (.inl a::ks)
 |str (a:Str) (t:Tok) {vs ks}:Mc vs ks->Mc (.str a t::vs) (.inr a::ks)
theorem Mc.length{vs:WZ}{ks:List (Int ⊕ Str)}(h:Mc vs ks):vs.length=ks.length:=by
 induction h with
 |nil=>rfl
 |int _ _ _ ih=>simp[ih]
 |str _ _ _ ih=>simp[ih]
inductive Ek:List (Int ⊕ Str)->List (Int ⊕ Str)->Prop where
 |nil:Ek [] []
 |int (a b:Int) {ks js}:Ek ks js->Ek (.inl a::ks) (.inl b::js)
 |str (a b:Str) {ks js}:Ek ks js->Ek (.inr a::ks) (.inr b::js)
theorem Pm(x y:Int ⊕ Str)(xs ys):lexK (x::xs) (y::ys)=if x=y then lexK xs ys else ltK x y:=rfl
theorem rM(A:WT)(s:WQ)(a:Str)(t:Tok)(c:Str)(u:Tok):∃e,SeqAt.EqAt A s (.str a t) (.str c u) e/\(e=true↔a=c):=
 ⟨(a==c),SeqAt.EqAt.str_str a t c u,by simp⟩
theorem rH(A:WT)(s:WQ)(a:Str)(t:Tok)(c:Str)(u:Tok)(prog:WP)(w:WU)(E:WM)(Q:WM)(h:Q (.bool (decide (a.cps.toList < c.cps.toList))) s):
  wpAny (model prog w) A (richCompare .Lt (.str a t) (.str c u)) Q E s:=
 (WD h:wpAny (model prog w) A (compareOp .Lt (.str a t) (.str c u)) Q E s)
section
open PySem.SeqAt
open PySem.AutoSeq1 (wpAny_loadPart')
open PySem.MeetsSeq PySem.MeetsSeq2 PySem.MeetsSeq3
theorem tP(l b:WX)(items items2:Array Value)(n n2:Nat)(dd dd2:Option Addr)(sl sl2:Array (Option Value))(ns ms:List (Int ⊕ Str))(hi:Mc items.toList ns)(hj:Mc items2.toList ms)(hsh:Ek ns ms):
  Meets (Builtin.«tuple.__lt__» ⟨[.ref l,.ref b],[]⟩)
   (fun _ R s => s.heap.get? l = some { cls := .type "tuple", dict := dd, data := .seq items n, slots := sl } /\ s.heap.get? b = some { cls := .type "tuple", dict := dd2, data := .seq items2 n2, slots := sl2 } /\
    R (.ok (.ret (.bool (lexK ns ms)))) s) :=
 .of_wp fun prog w A R s h=>by
  obtain⟨j,g,d,tk,i⟩:=s;obtain⟨hl,hb,h⟩:=h;have f2:=AutoSeq1.sub_tuple_tuple;have z1:items.size=ns.length:=by rw[<-hi.length];simp
  have z2:items2.size=ms.length:=by rw[<-hj.length];simp
  wp_walk using Xh hl, Xh hb, wpAny_forIn_list _ (fun rest b s' => b.1 = none /\ s' = ⟨j, g, d, tk, i⟩ /\ ∃ (vs ws : List Value) (ns' ms' : List (Int ⊕ Str)), rest = vs.zip ws /\
   Mc vs ns' /\ Mc ws ms' /\ Ek ns' ms' /\ ns'.length + items2.size = ms'.length + items.size /\ R (.ok (.ret (.bool (lexK ns' ms')))) ⟨j, g, d, tk, i⟩) _
  case turn=>
   rintro⟨y,x⟩ rest b s' ⟨hb',rfl,vs,ws,ns',ms',hz,hvi,hwi,hsh',hlen,hR⟩;cases hsh' with
   |nil=>
    cases hvi;rw[List.zip_nil_left]at hz;cases hz
   |int a c hs=>
    cases hvi with
    |int _ t hvi'=>
    cases hwi with
    |int _ u hwi'=>
     rw[V3]at hz;injection hz with hyx hrest;injection hyx with hy hx;subst hy hx;rw[Pm]at hR;simp only[List.length_cons]at hlen;obtain⟨e,r,f⟩:=eqAt_int A.in1 ⟨j,g,d,tk,i⟩ a t c u;refine Y0 (r prog w _ _ ?_);cases e with
     |true=>
      rw[Y6 (X3 Sum.inl (f.mp rfl))]at hR
      wp_walk
      exact⟨rfl,rfl,_,_,_,_,hrest,hvi',hwi',hs,by lia,hR⟩
     |false=>
      rw[Y5 (fun q=>absurd (f.mpr (Vg q)) Yj)]at hR;have p:=rcLt_int A.in1 ⟨j,g,d,tk,i⟩ a t c u prog w
      wp_walk using p
      exact⟨_,rfl,by simpa[ltK] using hR⟩
   |str a c hs=>
    cases hvi with
    |str _ t hvi'=>
    cases hwi with
    |str _ u hwi'=>
     rw[V3]at hz;injection hz with hyx hrest;injection hyx with hy hx;subst hy hx;rw[Pm]at hR;simp only[List.length_cons]at hlen;obtain⟨e,r,f⟩:=rM A.in1 ⟨j,g,d,tk,i⟩ a t c u;refine Y0 (r prog w _ _ ?_);cases e with
     |true=>
      rw[Y6 (X3 Sum.inr (f.mp rfl))]at hR
      wp_walk
      exact⟨rfl,rfl,_,_,_,_,hrest,hvi',hwi',hs,by lia,hR⟩
     |false=>
      rw[Y5 (fun q=>absurd (f.mpr (Sum.inr.inj q)) Yj)]at hR;have p:=rH A.in1 ⟨j,g,d,tk,i⟩ a t c u prog w
      wp_walk using p
      exact⟨_,rfl,by simpa[ltK] using hR⟩
  case fin=>
   rintro⟨b1,b2⟩ s' ⟨hb',rfl,vs,ws,ns',ms',hz,hvi,hwi,hsh',hlen,hR⟩;simp only at hb';subst hb';have z:lexK ns' ms'=decide (items.size < items2.size):=by
    cases hsh' with
    |nil=>
     simp only[List.length_nil]at hlen;exact(Yk (by lia)).symm
    |int a c hs=>
     cases hvi with
     |int _ t _=>
     cases hwi with
     |int _ u _=>rw[V3]at hz;cases hz
    |str a c hs=>
     cases hvi with
     |str _ t _=>
     cases hwi with
     |str _ u _=>rw[V3]at hz;cases hz
   rw[z]at hR
   wp_walk
   exact⟨_,rfl,by simpa[Builtin.Tuple.tupleCompareSizes] using hR⟩
  case h=>
   exact⟨rfl,rfl,items.toList,items2.toList,ns,ms,rfl,hi,hj,hsh,by lia,h⟩
end
section
variable{prog:WP}{w:WU}{A:WT}{E:WM}{s:WQ}
theorem lt_tupKeys{l b:WX}{items items2:Array Value}{ns ms:List (Int ⊕ Str)}{Q:WM}(hl:IsTup s.heap l items)(hb:IsTup s.heap b items2)(hi:Mc items.toList ns)(hj:Mc items2.toList ms)(hsh:Ek ns ms)
  (hu:A.units < cLine) (h:Q (.bool (lexK ns ms)) s):wpAny (model prog w) A (compareOp .Lt (.ref l) (.ref b)) Q E s:=by
 obtain⟨⟨aa,u,y,q⟩,g,i,n,hd⟩:=id hl;obtain⟨⟨z,j,p,f⟩,a,e,r,c⟩:=id hb;simp only at i hd e c;subst i hd e c;exact richCompare_meets_room (op:=.Lt) ⟨_,g,rfl⟩ ⟨_,a,rfl⟩ Ws Wl (W8 _ _) (tP l b items items2 n r u j q f ns ms hi hj hsh)
  ⟨g,a,show Value.bool (lexK ns ms)≠Value.notImplemented/\Q (.bool (lexK ns ms)) s from⟨(fun x=>nomatch x),h⟩⟩ hu
end
end HT
namespace L2
open PySem PySem.Spec PyProof.Rows PySem.W
section
variable{prog:WP}{w:WU}{A:WT}{E:WM}{s:WQ}{O:KeyOrd}{key:Nat->O.α}{κ:SortKind}{vs:WZ}
structure Es(prog:WP)(w:WU)(h:J6)(O:KeyOrd)(key:Nat->O.α)(κ:SortKind)(vs:WZ):Prop where
 kind:∀ (A:WT) (s:WQ) (Q:SortKind->Shared->Prop),(∀b o,h.get? b=some o->s.heap.get? b=some o)->2 <=vs.length->Q κ s->wpAny (model prog w) A (keyKind' vs.toArray) Q (fun _ _=>False) s
 cmp:∀ (A:WT) (s:WQ) (i j:Nat) (C:Bool->Shared->Prop),A.units < cLine->(∀b o,h.get? b=some o->s.heap.get? b=some o)->i < vs.length->j < vs.length->C (DW O key i j) s->kas_ask prog w A κ vs i j C s
theorem Le{a:WX}{n:Nat}{P:PySem.Fin->Shared->Prop}{h₀:J6}(ho:s.heap.get? a=some (seqObj "list" vs.toArray n))(ha0:h₀.objs.size <=a)(hk:∀b o,h₀.get? b=some o->s.heap.get? b=some o)
  (S:Es prog w h₀ O key κ vs) (h64:vs.length < 64) (hu:A.units < cLine)
  (h:∀p:Array Nat,JO vs.length p->DX O key p vs.length->P (.done (.ret .none)) {s with heap:=sortedHeap s.heap a vs (List.toArray (p.toList.map fun i=>vs.getD i Value.none))}):
  wpAny (model prog w) A (Builtin.«list.sort» ⟨[.ref a],[]⟩) P E s:=by
 rw[list_sort_plain];have ha:a < s.heap.objs.size:=Yd ho;refine Y0 (listItems_at ho rfl ?_);refine Y0 (listUpdate_at ho rfl ?_ (by rw[Yg,YT];lia) (Ys _));obtain⟨e1,r⟩:∃e1,(s.heap.update a (Obj.mapSeq fun _=>#[])).get? a=some (seqObj "list" #[] e1):=⟨_,get?_update_seq ho (fun _=>#[])⟩;refine Y0 (seqEpoch_at r rfl ?_);refine Y0 (Wr ?_ (by show vs.length <=_;rw[YT];lia));refine Y0 (VS ?_ (Ys _));refine YK ?_;have f:(((s.heap.update a (Obj.mapSeq fun _=>#[])).push (seqObj "tuple" vs.toArray 0)).push (seqObj "list" #[] 0)).get? a=some (seqObj "list" #[] e1):=by
  rw[Uf _ _ _ (by rw[size_push',YW];exact Yr (Xu ha)),Uf _ _ _ (by rw[YW];exact Yr ha)];exact r
 have keep:∀b o,h₀.get? b=some o->(((s.heap.update a (Obj.mapSeq fun _=>#[])).push (seqObj "tuple" vs.toArray 0)).push (seqObj "list" #[] 0)).get? b=some o:=fun b o q=>by
  have hb:b < h₀.objs.size:=Yd q;have q':=hk b o q;have u:b < s.heap.objs.size:=Yd q';rw[Uf _ _ _ (by rw[size_push',YW];exact Yr (Xu u)),Uf _ _ _ (by rw[YW];exact Yr u),YX _ _ _ _ (Yr (YH hb ha0))];exact q'
 show wpAny (model prog w) A _ P E {s with heap:=((s.heap.update a (Obj.mapSeq fun _=>#[])).push (seqObj "tuple" vs.toArray 0)).push (seqObj "list" #[] 0)};dsimp only;have hsz:vs.toArray.size=vs.length:=by simp
 by_cases h2:vs.toArray.size < 2
 .rw[Y6 h2,Y6 h2];refine Y0 (Y2 ?_);rw[StateT.run_pure];refine Y0 (Y2 ?_);dsimp only;refine Y0 (seqEpoch_at f rfl ?_);refine Y0 (listUpdate_at f rfl ?_ (Ys _) (hsz2:=by rw[Array.size_map];show(pairsOf vs).size <=_;rw[pairsOf_size,YT];lia));simp only[bne_self_eq_false,Bool.false_eq_true,if_false];have e:Array.map (fun x:Keyed=>x.2) (vs.toArray.zip vs.toArray)=List.toArray ((List.toArray (List.range vs.length)).toList.map fun i=>vs.getD i Value.none):=by
   apply Array.toList_inj.mp;simp only[dZ];rw[Array.toList_map];show List.map (fun x:Keyed=>x.2) (vs.toArray.zip vs.toArray).toList=vs;rw[Array.toList_zip];show List.map Prod.snd (List.zip vs vs)=vs;rw[List.map_snd_zip];exact Y8 _
  have:=h (List.toArray (List.range vs.length)) (Array.Perm.refl _) (fun i j hij hj=>by obtain rfl:i=j:=(by lia);exact XJ _);rw[<-e]at this;exact Y2 this
 .rw[Y5 h2,Y5 h2];have y:2 <=vs.length:=by lia
  refine Y0 (Xm (S.kind A _ (fun κ' s' => κ' = κ /\ s' = { s with heap := ((s.heap.update a (Obj.mapSeq fun _ => #[])).push (seqObj "tuple" vs.toArray 0)).push (seqObj "list" #[] 0) }) keep y ⟨rfl, rfl⟩) ?_ fun _ _ x => x.elim);rintro _ _ ⟨rfl, rfl⟩;refine Y0 (Xm (kat_run (E := E) (Q := fun c s' => ∃ p : Array Nat, p.size = vs.length /\ arrOf c = p.map (kas_item (vs.toArray.zip vs.toArray)) /\ failedOf c = none /\ JO vs.length p /\ DX O key p vs.length /\ s' = { s with heap := ((s.heap.update a (Obj.mapSeq fun _ => #[])).push (seqObj "tuple" vs.toArray 0)).push (seqObj "list" #[] 0) })
   (G:=fun p s'=>JO vs.length p/\DX O key p vs.length/\s'={s with heap:=((s.heap.update a (Obj.mapSeq fun _=>#[])).push (seqObj "tuple" vs.toArray 0)).push (seqObj "list" #[] 0)})
   rfl y h64 (fun p' c s' a1 a2 a3 a4=>⟨p',a1,a2,a3,a4.1,a4.2.1,a4.2.2⟩)
   (MH.wp (N := vs.length) (lt := DW O key) (Q := fun p => JO vs.length p /\ DX O key p vs.length) (fun i j C hi hj hC => S.cmp A _ i j C hu keep hi hj hC) (fun p g => ⟨g.1, g.2, rfl⟩) (tL (by lia) fun p b1 b2 => ⟨b1, b2⟩))) ?_ fun _ _ e => e)
  rintro⟨⟨⟩,c⟩ s' ⟨p,g,har,hf,b1,b2,rfl⟩;dsimp only;have aa:=kat_snds rfl har;have z:(List.toArray (p.toList.map fun i=>vs.getD i Value.none)).size=vs.length:=by rw[Yg,Y1,Array.length_toList,g]
  rw[aa];refine Y0 (seqEpoch_at f rfl ?_);refine Y0 (listUpdate_at f rfl ?_ (Ys _) (YF (WF z) (by rw[YT];lia)));rw[hf];simp only[bne_self_eq_false,Bool.false_eq_true,if_false];exact Y2 (h p b1 b2)
theorem vY{l:WX}{Q:WM}(hl:s.heap.IsList l vs.toArray)(S:Es prog w s.heap O key κ vs)(h64:vs.length < 64)(hu:A.units+ 2 < cLine)
  (h:∀p:Array Nat,JO vs.length p->DX O key p vs.length->Q (.ref (s.heap.objs.size+ 1)) {s with heap:=sortedAll s.heap vs (List.toArray (p.toList.map fun i=>vs.getD i Value.none))}):
  wpAny (model prog w) A (call (.builtin "sorted") [.ref l]) Q E s:=by
 refine UU kind_sorted plain_sorted entry_sorted (args_sorted1 _) ?_;unfold Builtin.«sorted»;refine Y0 (m:=checkCount "sorted" 1 1 _) (Y2 ?_);refine Y0 (collect_list hl ?_ (by rw[YT];lia));refine Y0 (VS ?_ (by rw[YT];lia));have a:((s.heap.push (seqObj "list" #[] 0)).update s.heap.objs.size (Obj.mapSeq (·++vs.toArray))).objs.size=s.heap.objs.size+ 1:=by
  rw[YW,size_push']
 have e:(((s.heap.push (seqObj "list" #[] 0)).update s.heap.objs.size (Obj.mapSeq (·++vs.toArray))).push (seqObj "list" vs.toArray 0)).get? (s.heap.objs.size+ 1)=some (seqObj "list" vs.toArray 0):=by
  rw[<-a];exact Yc _ rfl
 have keep:∀b o,s.heap.get? b=some o->(((s.heap.push (seqObj "list" #[] 0)).update s.heap.objs.size (Obj.mapSeq (·++vs.toArray))).push (seqObj "list" vs.toArray 0)).get? b=some o:=fun b o q=>by
  have c:b < s.heap.objs.size:=Yd q;rw[Uf _ _ _ (by rw[a];exact Yr (Xu c)),YX _ _ _ _ (Yr c),Uf _ _ _ (Yr c)];exact q
 show wpAny _ _ _ _ _ {s with heap:=((s.heap.push (seqObj "list" #[] 0)).update s.heap.objs.size (Obj.mapSeq (·++vs.toArray))).push (seqObj "list" vs.toArray 0)};rw[a];refine Y0 (YK (YU slot_list_sort ⟨_,e,rfl⟩ entry_list_sort (Le (h₀:=s.heap) e (X4 _) keep S h64 (by show A.units+ 1+ 1 < cLine;lia) fun p g f=>⟨_,rfl,?_⟩) (args_list_sort _)));exact Y2 ⟨_,rfl,h p g f⟩
end
def N4(h:J6)(v:WW)(k:Ky):Prop:=∃a t u r,v= .ref a/\IsTup h a #[.int k.1 t,.str k.2.1 u,.str k.2.2 r]
def NJ(h:J6)(v:WW)(p:Int×Ky):Prop:=∃a t b,v= .ref a/\IsTup h a #[.int p.1 t,.ref b]/\N4 h (.ref b) p.2
theorem IsTup.keep{h h':J6}{a:WX}{its:Array Value}(k:∀b o,h.get? b=some o->h'.get? b=some o)(x:IsTup h a its):IsTup h' a its:=by
 obtain⟨o,h1,h2⟩:=x;exact⟨o,k _ _ h1,h2⟩
theorem N4.keep{h h':J6}{v:WW}{k:Ky}(kp:∀b o,h.get? b=some o->h'.get? b=some o)(x:N4 h v k):N4 h' v k:=by
 obtain⟨a,t,u,r,e,h1⟩:=x;exact⟨a,t,u,r,e,IsTup.keep kp h1⟩
theorem NJ.keep{h h':J6}{v:WW}{p:Int×Ky}(kp:∀b o,h.get? b=some o->h'.get? b=some o)(x:NJ h v p):NJ h' v p:=by
 obtain⟨a,t,b,e,h1,h2⟩:=x;exact⟨a,t,b,e,IsTup.keep kp h1,h2.keep kp⟩
section
variable{prog:WP}{w:WU}{A:WT}{E:WM}{s:WQ}
theorem Zb{x y:Str}{t u:Tok}{Q:Bool->Shared->Prop}{b:Bool}{i:Nat}(h:Q (DA x y) s):wpAny (model prog w) A (oneLt' (b && i+ 1==0) (.str x t) (.str y u)) Q E s:=by
 rw[show(b && i+ 1==0)=false by simp];exact kat_one _ _ (WD h)
theorem Ss{x y:WW}{k j:Ky}{Q:WM}(hx:N4 s.heap x k)(hy:N4 s.heap y j)(hu:A.units < cLine)(h:Q (.bool (Mw k j)) s):wpAny (model prog w) A (compareOp .Lt x y) Q E s:=by
 obtain⟨a,t,u,r,rfl,h1⟩:=hx;obtain⟨b,f,c,g,rfl,h2⟩:=hy;refine HT.lt_tupKeys (ns:=[.inl k.1,.inr k.2.1,.inr k.2.2]) (ms:=[.inl j.1,.inr j.2.1,.inr j.2.2]) h1 h2 (.int _ _ (.str _ _ (.str _ _ .nil))) (.int _ _ (.str _ _ (.str _ _ .nil))) (.int _ _ (.str _ _ (.str _ _ .nil))) hu ?_;have e:HT.lexK [.inl k.1,.inr k.2.1,.inr k.2.2] [.inl j.1,.inr j.2.1,.inr j.2.2]=Mw k j:=by
  unfold Mw;simp only[HT.lexK,HT.ltK,WB,WC]
  by_cases h1:k.1=j.1
  .rw[Y6 h1,Y6 h1]
   by_cases h2:k.2.1=j.2.1
   .rw[Y6 h2,Y6 h2]
    by_cases h3:k.2.2=j.2.2
    .rw[Y6 h3,h3,Fl]
    .rw[Y5 h3];rfl
   .rw[Y5 h2,Y5 h2];rfl
  .rw[Y5 h1,Y5 h1]
 rw[e];exact h
theorem Fb{x y:WW}{k j:Ky}{Q:Bool->Shared->Prop}(hx:N4 s.heap x k)(hy:N4 s.heap y j)(hu:A.units < cLine)(h:Q (decide (k=j)) s):wpAny (model prog w) A (eqBool x y) Q E s:=by
 obtain⟨a,t,u,r,rfl,o,e1,e2,n,e3⟩:=hx;obtain⟨b,p,i,q,rfl,o',g,f,z,c⟩:=hy;refine wpAny_eqBool_tuple (knd:=Jo prog w) (x:=[.inl k.1,.inr k.2.1,.inr k.2.2]) (y:=[.inl j.1,.inr j.2.1,.inr j.2.2]) hu ⟨o,_,n,e1,e2,e3,Cg (.cons ⟨t,rfl⟩ (.cons ⟨u,rfl⟩ (.cons ⟨r,rfl⟩ .nil)))⟩ ⟨o',_,z,g,f,c,Cg (.cons ⟨p,rfl⟩ (.cons ⟨i,rfl⟩ (.cons ⟨q,rfl⟩ .nil)))⟩ ?_;have e:decide (([.inl k.1,.inr k.2.1,.inr k.2.2]:List Jw)=[.inl j.1,.inr j.2.1,.inr j.2.2])=decide (k=j):=by
  rw[YA,Ya,Ya];simp only[List.cons.injEq,WB,WC,and_true];exact⟨fun h=>Ul h.1 (Ul h.2.1 h.2.2),fun h=>by rw[h];exact⟨rfl,rfl,rfl⟩⟩
 rw[e];exact h
theorem Ie{R:Heap->Value->α->Prop}(hR:∀h v p,R h v p->∃a n t o its m,v= .ref a/\h.get? a=some o/\o.cls= .type "tuple"/\o.data= .seq its m/\its[0]?=some (.int n t)):∀{vs:WZ} {c:List α} {h:J6},(∀ (i:Nat) v p,vs[i]?=some v->c[i]?=some p->R h v p)->vs.length=c.length->∃fs,KatTups h vs fs/\fs.length=vs.length/\∀f∈fs,∃n t,f=Value.int n t
 |[],c,h,_,e=>⟨[],trivial,rfl,fun f hf=>by simp at hf⟩
 |v::vs,[],h,_,e=>by simp at e
 |v::vs,p::c,h,hp,e=>by
  obtain⟨fs,k1,k2,k3⟩:=Ie hR (vs:=vs) (c:=c) (h:=h) (fun i v p a b=>hp (i+ 1) v p (by simpa using a) (by simpa using b)) (by simpa using e);obtain⟨a,n,t,o,its,m,rfl,g,j,hd,q⟩:=hR _ _ _ (hp 0 v p rfl rfl);refine⟨Value.int n t::fs,KatTups.cons g j hd q k1,by simp[k2],fun f hf=>?_⟩;rcases Yo.mp hf with rfl|hf
  .exact⟨_,_,rfl⟩
  .exact k3 f hf
theorem jD{vs:WZ}{c:List Ky}{h:J6}(hp:∀ (i:Nat) v p,vs[i]?=some v->c[i]?=some p->N4 h v p)(hl:vs.length=c.length):
  Es prog w h EY (fun i=>c.getD i (0,"","")) (tuples' (Value.type "int" !=Value.type "tuple")) vs where
 kind A s Q hk h2 hQ:=by
  obtain⟨fs,k1,k2,k3⟩:=Ie (R:=N4) (fun h v p ⟨a,t,u,r,e,o,f,z,n,hd⟩=>⟨a,p.1,t,o,_,n,e,f,z,hd,rfl⟩) (fun i v p e1 e2=>(hp i v p e1 e2).keep hk) hl;refine kat_kind (T:=Value.type "int") k1 (by lia) (fun v hv=>?_) (by decide) hQ;obtain⟨n,t,rfl⟩:=k3 v hv;exact Looks.of_pure rfl
 cmp A s i j C hu hk hi hj hC:=by
  have gi:vs[i]?=some (vs.getD i Value.none):=by rw[Y4 hi];simp[hi]
  have gj:vs[j]?=some (vs.getD j Value.none):=by rw[Y4 hj];simp[hj]
  have ci:c[i]?=some (c.getD i (0,"","")):=by rw[Y4 (by lia)];simp[show i < c.length by lia]
  have cj:c[j]?=some (c.getD j (0,"","")):=by rw[Y4 (by lia)];simp[show j < c.length by lia]
  obtain⟨a,t,u,r,e,o,f,z,n,hd⟩:=(hp i _ _ gi ci).keep hk;obtain⟨a',t',u',r',e',o',g,hc',n',q⟩:=(hp j _ _ gj cj).keep hk;unfold kas_ask;rw[e,e'];have b:C (Mw (c.getD i (0,"","")) (c.getD j (0,"",""))) s:=hC;generalize c.getD i (0,"","")=x at*;generalize c.getD j (0,"","")=y at*;refine kat_lt f hd g q ?_;show KatLex prog w A _ _ C [(Value.int x.1 t,Value.int y.1 t'),(Value.str x.2.1 u,Value.str y.2.1 u'),(Value.str x.2.2 r,Value.str y.2.2 r')] 0 s;unfold Mw at b;refine kat_cons (W0 ?_)
  by_cases h1:x.1=y.1
  .rw[show(x.1==y.1)=true by simpa using h1];rw[Y6 h1]at b;refine kat_yes (kat_cons (W1 ?_))
   by_cases h2:x.2.1=y.2.1
   .rw[Yh h2];rw[Y6 h2]at b;refine kat_yes (kat_cons (W1 ?_))
    by_cases h3:x.2.2=y.2.2
    .rw[Yh h3];refine kat_yes (kat_nil ?_);rw[h3,Fl]at b;exact b
    .rw[Yk h3];exact kat_no (Zb b)
   .rw[Yk h2];rw[Y5 h2]at b;exact kat_no (Zb b)
  .rw[show(x.1==y.1)=false by simpa using h1];rw[Y5 h1]at b;exact kat_no (Q0 b)
theorem xP{vs:WZ}{c:List (Int×Ky)}{h:J6}(hp:∀ (i:Nat) v p,vs[i]?=some v->c[i]?=some p->NJ h v p)(hl:vs.length=c.length):
  Es prog w h Gf (fun i=>c.getD i (0,0,"","")) (tuples' (Value.type "int" !=Value.type "tuple")) vs where
 kind A s Q hk h2 hQ:=by
  obtain⟨fs,k1,k2,k3⟩:=Ie (R:=NJ) (fun h v p ⟨a,t,b,e,⟨o,r,hc,n,hd⟩,_⟩=>⟨a,p.1,t,o,_,n,e,r,hc,hd,rfl⟩) (fun i v p e1 e2=>(hp i v p e1 e2).keep hk) hl;refine kat_kind (T:=Value.type "int") k1 (by lia) (fun v hv=>?_) (by decide) hQ;obtain⟨n,t,rfl⟩:=k3 v hv;exact Looks.of_pure rfl
 cmp A s i j C hu hk hi hj hC:=by
  have gi:vs[i]?=some (vs.getD i Value.none):=by rw[Y4 hi];simp[hi]
  have gj:vs[j]?=some (vs.getD j Value.none):=by rw[Y4 hj];simp[hj]
  have ci:c[i]?=some (c.getD i (0,0,"","")):=by rw[Y4 (by lia)];simp[show i < c.length by lia]
  have cj:c[j]?=some (c.getD j (0,0,"","")):=by rw[Y4 (by lia)];simp[show j < c.length by lia]
  obtain⟨a,t,b,e,⟨o,r,hc,n,hd⟩,q⟩:=(hp i _ _ gi ci).keep hk;obtain⟨a',t',b',e',⟨o',u,hc',n',z⟩,g⟩:=(hp j _ _ gj cj).keep hk;unfold kas_ask;rw[e,e'];have f:C (JR (c.getD i (0,0,"","")) (c.getD j (0,0,"",""))) s:=hC;generalize c.getD i (0,0,"","")=x at*;generalize c.getD j (0,0,"","")=y at*;refine kat_lt r hd u z ?_;show KatLex prog w A _ _ C [(Value.int x.1 t,Value.int y.1 t'),(Value.ref b,Value.ref b')] 0 s;unfold JR at f;refine kat_cons (W0 ?_)
  by_cases h1:x.1=y.1
  .rw[show(x.1==y.1)=true by simpa using h1];rw[Y6 h1]at f;refine kat_yes (kat_cons (Fb q g hu ?_))
   by_cases h2:x.2=y.2
   .rw[Yh h2];refine kat_yes (kat_nil ?_);rw[h2,Ff]at f;exact f
   .rw[Yk h2];refine kat_no ?_;rw[show(((Value.type "int" !=Value.type "tuple") && (0+ 1==0)):Bool)=false by simp];exact kat_one _ _ (Ss q g hu f)
  .rw[show(x.1==y.1)=false by simpa using h1];rw[Y5 h1]at f;exact kat_no (Q0 f)
end
def DI(k:Ky):List V:=[.int k.1,.str k.2.1,.str k.2.2]
section
variable{X:Cx}{pins:WO}{s:WQ}{σ:St}{H:Hp}
theorem Bs{t:WX}{k:Ky}(I:Jd X pins σ H s)(h:JC X.K H t (DI k)):N4 s.heap (.ref t) k:=by
 obtain⟨e,r,p,_⟩:=I.tuple h;cases r with
 |cons r1 r=>
  cases r with
  |cons r2 r=>
   cases r with
   |cons r3 r=>
    cases r;obtain⟨c,rfl⟩:=(show ∃t,_=Value.int k.1 t from r1);obtain⟨b,rfl⟩:=(show ∃t,_=Value.str k.2.1 t from r2);obtain⟨a,rfl⟩:=(show ∃t,_=Value.str k.2.2 t from r3);exact⟨t,c,b,a,rfl,p⟩
theorem Oo{t b:WX}{n:Int}{k:Ky}(I:Jd X pins σ H s)(h:JC X.K H t [.int n,.ref b])(hb:JC X.K H b (DI k)):NJ s.heap (.ref t) (n,k):=by
 obtain⟨c,r,p,_⟩:=I.tuple h;cases r with
 |cons r1 r=>
  cases r with
  |cons r2 r=>
   cases r;obtain⟨a,rfl⟩:=(show ∃t,_=Value.int n t from r1);cases r2;exact⟨t,a,b,rfl,p,Bs I hb⟩
end
section
variable{X:Cx}{K:WV}
def Cv(K:WV)(O:KeyOrd)(d:O.α)(RA:Hp->V->O.α->Prop):List V->Hp->VK->Prop:=fun as H Q=>∃ (p:WX) (xs:List V) (c:List O.α),as=[.ref p]/\Jh K H p xs/\xs.length=c.length/\(∀ (i:Nat) (x:V) (q:O.α),xs[i]?=some x->c[i]?=some q->RA H x q)/\xs.length < 64/\
 ∀ (r:List Nat) l G,r.Perm (List.range xs.length)->(r.map fun i=>c.getD i d).Pairwise (fun a b=>O.blt b a=false)->H l=none->Jb H G->G l=some (.lst (r.map fun i=>xs.getD i .non))->Q (.ref l) G
theorem P5{xs:List V}{its:WZ}(rv:Ji xs its):∀r:List Nat,(∀i∈r,i < xs.length)->Ji (r.map fun i=>xs.getD i .non) (r.map fun i=>its.getD i Value.none)
 |[],_=>.nil
 |i::r,hr=>by
  refine .cons ?_ (P5 rv r fun j hj=>hr j (.tail _ hj));have hi:i < xs.length:=hr i (.head _);obtain⟨u,a,ru⟩:=rv.get (i:=i) (x:=xs[i]) (Y4 hi);have c:xs.getD i .non=xs[i]:=by simp[hi]
  have b:its.getD i Value.none=u:=by rw[Xf,a];rfl
  show Jr (xs.getD i .non) (its.getD i Value.none);rw[c,b];exact ru
theorem Ho{O:KeyOrd}{c:List O.α}{d:O.α}{pa:Array Nat}{n:Nat}(a1:JO n pa)(a2:DX O (fun i=>c.getD i d) pa n):(pa.toList.map fun i=>c.getD i d).Pairwise (fun a b=>O.blt b a=false):=by
 rw[Vd,UV];intro i j hi e g;have f:pa.size=n:=a1.size;have:=a2 i j (U7 g) (by simpa[f] using e);have p:pa.getD i 0=pa.toList[i]:=by simp at hi;simp[Array.getD,hi]
 have h:pa.getD j 0=pa.toList[j]:=by simp at e;simp[Array.getD,e]
 unfold SK at this;rw[p,h]at this;exact this
theorem nQ{O:KeyOrd}{d:O.α}{κ:SortKind}{RA:Hp->V->O.α->Prop}{RV:Heap->Value->O.α->Prop}(h:X.K=K)(hu:X.A.units+ 64 < cLine)
  (hv:∀{pins s σ H x v q},Jd X pins σ H s->Jr x v->RA H x q->RV s.heap v q)
  (ask:∀{vs:WZ} {c:List O.α} {h:J6},(∀ (i:Nat) v p,vs[i]?=some v->c[i]?=some p->RV h v p)->vs.length=c.length->Es X.prog X.w h O (fun i=>c.getD i d) κ vs):JA X (.builtin "sorted") (Cv K O d RA):=by
 subst h;intro pins s σ H xs us Q I r hh;obtain⟨p,xs,c,rfl,hq,hlc,hp,h64,q⟩:=hh;obtain⟨u,rfl,rx⟩:=DO r;cases rx;obtain⟨a,j,pl,hz⟩:=I.list hq;have n:xs.length=a.length:=j.length;have aa:∀ (i:Nat) v q,a[i]?=some v->c[i]?=some q->RV s.heap v q:=fun i v q e1 e2=>by
  have hi:i < a.length:=(Ym.mp e1).1;have ex:xs[i]?=some (xs[i]'(by lia)):=Y4 (by lia);obtain⟨u,hu,ru⟩:=j.get (i:=i) (x:=_) ex;rw[e1]at hu;cases hu;exact hv I ru (hp i _ q ex e2)
 refine vY pl.isList (ask aa (by lia)) (by lia) (by lia) fun g a1 a2=>?_
 obtain⟨e,he⟩:=sortedAll_at s.heap a (List.toArray (g.toList.map fun i=>a.getD i Value.none));have hf:H (s.heap.objs.size+ 1)=none:=I.hok.fresh (X4 _);have f:g.toList.Perm (List.range xs.length):=by rw[n];exact Ub.mp a1
 have hb:∀i∈g.toList,i < xs.length:=fun i hi=>by simpa using f.mem_iff.mp hi
 have y:(g.toList.map fun i=>xs.getD i .non).length <=sizeLine:=by
  rw[Y1,f.length_eq,YN];exact hz
 refine⟨.ref (s.heap.objs.size+ 1),upd H (s.heap.objs.size+ 1) (.lst (g.toList.map fun i=>xs.getD i .non)),I.laid (t':=s.toks) (fun b o z=>sortedAll_old z) (X4 _) ?_,rfl,q _ _ _ f (Ho a1 a2) hf (MD hf) Nc⟩;refine⟨y,g.toList.map fun i=>a.getD i Value.none,e,P5 j _ hb,?_⟩;simpa using he
def Fv(K:WV):Hp->V->Int×Ky->Prop:=fun H x q=>∃t b,x= .ref t/\JC K H t [.int q.1,.ref b]/\JC K H b (DI q.2)
def H9(K:WV):=Cv K Gf ((0,0,"",""):Int×Ky) (Fv K)
theorem tR(hu:X.A.units+ 64 < cLine)(h:X.K=K):JA X (.builtin "sorted") (H9 K):=by
 subst h;refine nQ (RV:=NJ) rfl hu (fun I r ⟨t,b,e,a,g⟩=>?_) fun c f=>xP c f
 subst e;cases r;exact Oo I a g
end
section
variable{prog:WP}{w:WU}{A:WT}{d:WX}{o:Obj}{es:Array DictEntry}{ep:Nat}
theorem aN(hh:A.handled=none)(I:WX)(hne:d≠I)(hdat:o.data= .dict es ep):
  Walks prog w A I [I,d] [I] es.size (fun i v=>∃e,es[i]?=some e/\v=e.key) (fun i h=>h.IsKeyIter I d i es.size ep/\h.get? d=some o) where
 sub:=fun b a=>by simp at a;simp[a]
 frame:=fun _ _ _ st j=>⟨let ⟨oi,a1,a2⟩:=st.1;⟨oi,j I (by simp) _ a1,a2⟩,j d (by simp) _ st.2⟩
 item:=fun i s Q E hi st c=>by
  refine SD st.1 st.2 hdat hi fun h' g f=>?_
  exact c _ h' s.toks ⟨_,Yz hi,rfl⟩ ⟨g,f.extBut d o hne st.2⟩ fun b o a e=>f.extBut b o (fun h=>a (by simp[h])) e
 done:=fun s Q E st c=>QA hh st.1 st.2 hdat (Y8 _) fun h' n=>c h' s.toks fun b o a e=>n b o (fun h=>a (by simp[h])) e
 self:=fun _ _ _ _ st c=>wpAny_pyIter_keyiter st.1 c
theorem Sr(lo:(d==sysModules)=false)(hc:o.ExactDict)(hdat:o.data= .dict es ep):KdlSrc prog w "dict" d d es.size (fun i v=>∃e,es[i]?=some e/\v=e.key) (fun h=>h.get? d=some o) where
 type:=fun _ a=>⟨o,a,hc.1⟩
 there:=fun _ a=>⟨Yd a,Yd a⟩
 keep:=fun _ _ a c=>c d (.inl rfl) o a
 notList:=by decide
 notTuple:=by decide
 hint:=fun _ _ _ _ a b=>kdl_hint_dict ⟨o,a,hc.1⟩ b
 iter:=fun _ _ hh a=>⟨_,_,(fun _ _ b=>OQ lo a hc hdat b),aN hh _ (Yr (Yd a)) hdat,⟨⟨_,Yc _ rfl,rfl,rfl⟩,Y7 _ a⟩⟩
end
section
variable{X:Cx}
def KW:List V->Hp->VK->Prop:=fun as H Q=>∃ (a:WX) (kvs:List (List Jw×V)) (c:List Ky),as=[V.ref a]/\H a=some (.dT kvs)/\kvs.map (·.1)=c.map (fun k=>[Sum.inl k.1,Sum.inr k.2.1,Sum.inr k.2.2])/\c.length < 64/\
 ∀ (ks:List Ky) (ts:List Addr) l G,ks.Perm c->ks.Pairwise (fun a b=>Mw b a=false)->ts.length=ks.length->(∀ (i:Nat) t k,ts[i]?=some t->ks[i]?=some k->H t=some (.tup (DI k)))->H l=none->Jb H G->G l=some (.lst (ts.map V.ref))->Q (.ref l) G
theorem ZC(hc:X.calm=true)(hu:X.A.units+ 64 < cLine):JA X (.builtin "sorted") KW:=by
 intro pins s σ H xs us Q I r h;obtain⟨a,kvs,c,rfl,ha,hks,h64,q⟩:=h;obtain⟨u,rfl,rx⟩:=DO r;cases rx;obtain⟨z,y,xs,r,o,es,ep,h1,h2,h3,h4,h5⟩:=(show Jy X.prog X.w H s.heap a (.dT kvs) from I.hok a _ ha);have hxl:xs.length=es.size:=by rw[<-Array.length_toList,h4,Y1]
 have hkl:=Paired.length r;have hcl:c.length=es.size:=by
  have:=X3 List.length hks;rw[Y1,Y1]at this;lia
 have hh:X.A.in1.handled=none:=I.ok.hd hc;refine UU kind_sorted plain_sorted entry_sorted (args_sorted1 _) ?_;unfold Builtin.«sorted»;refine Y0 (m:=checkCount "sorted" 1 1 _) (Y2 ?_);refine Y0 (kdu_collect (A:=X.A.in1) (Sr (prog:=X.prog) (w:=X.w) y h2 h3) hh h1 (by rw[<-hxl,<-hkl];exact z) fun h' tk acc hk hacc=>?_);have I2:Jd X pins σ H {s with heap:=h',toks:=tk}:=I.kept hk;obtain⟨vs,evs⟩:∃vs,vs=acc.toList:=⟨_,rfl⟩;rw[<-evs];have hvl:vs.length=es.size:=by rw[evs,Array.length_toList];exact hacc.1
 have hat:∀ (i:Nat) v,vs[i]?=some v->∃t k,v=Value.ref t/\c[i]?=some k/\xs[i]?.map (·.2.1)=some t/\H t=some (.tup (DI k)):=fun i v hv=>by
  rw[evs,Array.getElem?_toList]at hv;obtain⟨e,he,rfl⟩:=hacc.2 i v hv;have hlt:i < es.size:=(Uc.mp he).1;have hx:xs[i]?=some (xs[i]'(by lia)):=Y4 (by lia);obtain⟨v,hv,hb⟩:=KT.at' r hx;have hke:es.toList[i]?=(xs.map (entryOfKey (tupleKind (Jo X.prog X.w))))[i]?:=by rw[h4]
  rw[Y9,hx,Array.getElem?_toList,he]at hke;have hkk:(kvs.map (·.1))[i]?=some xs[i].1:=by rw[Y9,hv];rfl
  rw[hks,Y9]at hkk;obtain⟨k,hk1,hk2⟩:=Ye.mp hkk;refine⟨xs[i].2.1,k,?_,hk1,by rw[hx];rfl,?_⟩
  .rw[Option.some.inj hke];rfl
  .rw[hb,<-hk2];rfl
 have hpr:∀ (i:Nat) v k,vs[i]?=some v->c[i]?=some k->N4 h' v k:=fun i v k e1 x=>by
  obtain⟨t,k',rfl,e3,_,ht⟩:=hat i v e1;rw[x]at e3;cases e3;exact Bs I2 (JC.of ht)
 have hsl:vs.length <=sizeLine:=by rw[hvl,<-hcl,YT];lia
 refine Y0 (VS ?_ hsl);have hoL:(h'.push (seqObj "list" vs.toArray 0)).get? h'.objs.size=some (seqObj "list" vs.toArray 0):=Yc _ rfl;have keep:∀b o,h'.get? b=some o->(h'.push (seqObj "list" vs.toArray 0)).get? b=some o:=fun b o q=>Y7 _ q
 have S:Es X.prog X.w h' EY (fun i=>c.getD i (0,"","")) (tuples' (Value.type "int" !=Value.type "tuple")) vs:=jD hpr (by lia);refine Y0 (YK (YU slot_list_sort ⟨_,hoL,rfl⟩ entry_list_sort (Le (h₀:=h') hoL (Y8 _) keep S (by lia) (by show X.A.units+ 1+ 1 < cLine;lia) fun p a1 a2=>⟨_,rfl,?_⟩) (args_list_sort _)));obtain⟨e,he⟩:=sortedHeap_at (n:=0) (vs:=vs) (out:=(List.map (fun i=>vs.getD i Value.none) p.toList).toArray) hoL;have hf:H h'.objs.size=none:=I2.hok.fresh (Y8 _);have g:p.toList.Perm (List.range c.length):=by rw[show c.length=vs.length by lia];exact Ub.mp a1
 have hb:∀i∈p.toList,i < c.length:=fun i hi=>by simpa using g.mem_iff.mp hi
 obtain⟨f,eas⟩:∃f:List Addr,f=xs.map (·.2.1):=⟨_,rfl⟩;have hal:f.length=c.length:=by rw[eas,Y1];lia
 have has:∀i,i < c.length->vs.getD i Value.none= .ref (f.getD i 0)/\H (f.getD i 0)=some (.tup (DI (c.getD i (0,"","")))):=fun i hi=>by
  have gi:vs[i]?=some (vs.getD i Value.none):=by rw[Y4 (by lia)];simp[show i < vs.length by lia]
  obtain⟨t,k,e1,x,e3,e4⟩:=hat i _ gi;have et:f.getD i 0=t:=by rw[eas,Xf,Y9,e3];rfl
  have ek:c.getD i (0,"","")=k:=by rw[Xf,x];rfl
  rw[et,ek];exact⟨e1,e4⟩
 have hvals:Ji ((p.toList.map fun i=>f.getD i 0).map V.ref) (p.toList.map fun i=>vs.getD i Value.none):=by
  have:∀r:List Nat,(∀i∈r,i < c.length)->Ji ((r.map fun i=>f.getD i 0).map V.ref) (r.map fun i=>vs.getD i Value.none):=by
   intro r
   induction r with
   |nil=>exact fun _=>.nil
   |cons i r ih=>
    intro hr;refine .cons ?_ (ih fun j hj=>hr j (.tail _ hj));exact(has i (hr i (.head _))).1
  exact this _ hb
 have hln:(p.toList.map fun i=>f.getD i 0).length=c.length:=by rw[Y1,g.length_eq,YN]
 refine Y2 ⟨_,rfl,.ref h'.objs.size,upd H h'.objs.size (.lst ((p.toList.map fun i=>f.getD i 0).map V.ref)),I2.laid (t':=tk) (fun b o z'=>?_) (Y8 _) ?_,rfl,q (p.toList.map fun i=>c.getD i (0,"","")) _ _ _ ?_ (Ho a1 a2) ?_ ?_ hf (MD hf) Nc⟩
 .have hlt:=Yd z';rw[sortedHeap_old (Yr hlt) (by rw[XD];exact Xu hlt)];exact Y7 _ z'
 .exact⟨by rw[Y1,hln,YT];lia,_,e,hvals,he⟩
 .have h1:=g.map fun i=>c.getD i ((0,"",""):Ky)
  have h2:(List.range c.length).map (fun i=>c.getD i ((0,"",""):Ky))=c:=by
   apply Vo
   .simp
   .intro i hi _;have:i < c.length:=by simpa using hi
    simp[this]
  rw[h2]at h1;exact h1
 .rw[Y1,Y1]
 .intro i t k e1 x;rw[Y9]at e1 x;obtain⟨j,hj,rfl⟩:=Ye.mp e1;rw[hj]at x;cases x;exact(has j (hb j (Yq hj))).2
end
section
variable{caps:List (Option Nat)}{g:TG}{tc:TT}{te td:TE}{d:WX}{kvs:List (List Jw×V)}{σ:St}{H:Hp}{Q:VK}
theorem xM(hd:H d=some (.dT kvs))(htd:∀R:VK,R (.ref d) H->td σ H R)(Pv:Nat->List V->St->Hp->Prop)(h0:∀Hf,(∀c,c≠d->Hf c=H c)->Pv 0 [] (NV caps σ) Hf)(hl:∀i ys σ' Hf,Pv i ys σ' Hf->ys.length <=i)(hz:kvs.length <=100000)
  (hs:∀Hf o,(∀c u,H c=some u->c≠d->Hf c=some u)->Hf d=some (.frz o (.dT kvs))->∀i b k v ys σ',kvs[i]?=some (k,v)->Hf b=some (.tup (k.map kV))->Pv i ys σ' Hf->g (.ref b) σ' Hf fun σ2 H2=>tc σ2 H2 fun c H3=>if c=true then te σ2 H3 fun y H4=>Pv (i+ 1) (ys++[y]) σ2 H4/\Jb Hf H4 else Pv (i+ 1) ys σ2 H3/\Jb Hf H3)
  (he:∀ys σ' Hn,Pv kvs.length ys σ' Hn->(∀c u,H c=some u->c≠d->Hn c=some u)->∀p G,H p=none->Jb H G->(∀c u,Hn c=some u->(∀o w,u≠ .frz o w)->G c=some u)->G p=some (.lst ys)->Q (.ref p) G):Ag (RW caps (Lk td) g tc te) σ H Q:=by
 refine⟨d,kvs,hd,htd _ ⟨d,kvs,rfl,hd,fun o=>?_⟩⟩;obtain⟨Hf,aa⟩:∃Hf,Hf=upd H d (.frz o (.dT kvs)):=⟨_,rfl⟩;rw[<-aa];have s:Hf d=some (.frz o (.dT kvs)):=by rw[aa,Nc]
 have hfo:∀c,c≠d->Hf c=H c:=fun c j=>by rw[aa,JF j]
 refine⟨fun i m ys σ' H'=>m=kvs.length - i/\i <=kvs.length/\Pv i ys σ' H'/\Jb Hf H',⟨kvs.length,by simp,Ys _,h0 Hf hfo,Jb.refl _⟩,?_⟩;rintro i m ys σ' H' ⟨rfl,hi,p,r⟩;have hy:=hl i ys σ' H' p;have f:∀c u,H c=some u->c≠d->H' c=some u:=fun c u e n=>r c u (by rw[hfo c n];exact e)
 by_cases hlt:i < kvs.length
 .refine .inr ⟨⟨r _ _ s,hlt⟩,Yi (U7 (Yi hy hlt)) (DK hz),fun ys2 σ2 H2=>Pv (i+ 1) ys2 σ2 H2/\Jb H' H2,fun ys2 σ2 H2 q=>⟨kvs.length - (i+ 1),by omega,rfl,hlt,q.1,r.trans q.2⟩,fun x H2 y=>?_⟩;obtain⟨e,b,k,v,ex,hk,hb⟩:=y;subst e ex;exact hs H2 o f (r _ _ s) i b k v ys σ' hk hb p
 .have e:i=kvs.length:=by omega
  subst e;have h:=r _ _ s;refine .inl ⟨⟨h,Y8 _⟩,N0 (YF hy hz),fun p' a=>?_⟩;have n1:d≠p':=fun z=>by rw[<-z,h]at a;cases a
  refine⟨o,by rw[JF n1];exact h,he ys σ' H' p f p' _ ?_ (fun c u e=>?_) (fun c u e n=>?_) ?_⟩
  .cases e:H p' with
   |none=>rfl
   |some u=>rw[f p' u e (Ne.symm n1)]at a;cases a
  .by_cases j:c=d
   .rw[j,hd]at e;rw[j,Nc];exact e
   .have e':=f c u e j;rw[JF j,JF (fun z=>by rw[z,a]at e';cases e')];exact e'
  .have n:c≠d:=fun z=>by rw[z,h]at e;exact n _ _ (Option.some.inj e).symm
   rw[JF n,JF (fun z=>by rw[z,a]at e;cases e)];exact e
  .rw[JF (Ne.symm n1),Nc]
end
def Pw{α β:Type}(R:α->β->Prop)(xs:List α)(ys:List β):Prop:=xs.length=ys.length/\∀ (j:Nat) x y,xs[j]?=some x->ys[j]?=some y->R x y
theorem Pw.nil{α β:Type}{R:α->β->Prop}:Pw R [] []:=⟨rfl,fun j x y h=>by simp at h⟩
theorem Pw.imp{α β:Type}{R S:α->β->Prop}{xs:List α}{ys:List β}(h:Pw R xs ys)(f:∀x y,R x y->S x y):Pw S xs ys:=⟨h.1,fun j x y a b=>f x y (h.2 j x y a b)⟩
theorem Pw.app{α β:Type}{R:α->β->Prop}{xs xs':List α}{ys ys':List β}(h:Pw R xs ys)(h':Pw R xs' ys'):Pw R (xs++xs') (ys++ys'):=by
 refine⟨by rw[Yl,Yl,h.1,h'.1],fun j x y a b=>?_⟩;rw[List.getElem?_append]at a b
 by_cases hj:j < xs.length
 .rw[Y6 hj]at a;rw[Y6 (by rw[<-h.1];exact hj)]at b;exact h.2 j x y a b
 .rw[Y5 hj]at a;rw[Y5 (by rw[<-h.1];exact hj)]at b;rw[h.1]at a;exact h'.2 _ x y a b
theorem Pw.one {α β : Type} {R : α -> β -> Prop} {x : α} {y : β} (h : R x y) : Pw R [x] [y] := ⟨rfl, fun j a b c e => by
 cases j with
 |zero=>cases c;cases e;exact h
 | succ j => simp at c⟩
theorem Pw.snoc{α β:Type}{R:α->β->Prop}{xs:List α}{ys:List β}{x:α}{y:β}(h:Pw R xs ys)(hx:R x y):Pw R (xs++[x]) (ys++[y]):=h.app (.one hx)
theorem Pw.get{α β:Type}{R:α->β->Prop}{xs:List α}{ys:List β}(h:Pw R xs ys){i:Nat}{x:α}(hx:xs[i]?=some x):∃y,ys[i]?=some y/\R x y:=by
 have hi:i < xs.length:=(Ym.mp hx).1;have e:ys[i]?=some (ys[i]'(by rw[<-h.1];exact hi)):=Y4 (by rw[<-h.1];exact hi);exact⟨_,e,h.2 i x _ hx e⟩
theorem Pw.pick{α β:Type}{R:α->β->Prop}{xs:List α}{ys:List β}{a:α}{b:β}(h:Pw R xs ys):∀r:List Nat,(∀i∈r,i < xs.length)->Pw R (r.map fun i=>xs.getD i a) (r.map fun i=>ys.getD i b)
 |[],_=>.nil
 |i::r,hr=>by
  have hi:=hr i (.head _);have c:i < ys.length:=by rw[<-h.1];exact hi
  have g:xs[i]?=some (xs.getD i a):=by rw[Y4 hi];simp[hi]
  have f:ys[i]?=some (ys.getD i b):=by rw[Y4 c];simp[c]
  exact(Pw.one (h.2 i _ _ g f)).app (h.pick r fun j e=>hr j (.tail _ e))
theorem vQ{α:Type}{c:List α}{d:α}{r:List Nat}(h:r.Perm (List.range c.length)):(r.map fun i=>c.getD i d).Perm c:=by
 have h1:=h.map fun i=>c.getD i d
 have h2:(List.range c.length).map (fun i=>c.getD i d)=c:=by
  apply Vo
  .simp
  .intro i hi _;have:i < c.length:=by simpa using hi
   simp[this]
 rw[h2]at h1;exact h1
section
variable{X:Cx}
def Ht:V->List V->Hp->VK->Prop:=fun x vs H Q=>∃ (a b:WX) (k:List Jw) (kvs:List (List Jw×V)) (z:V),x= .ref a/\vs=[.ref b,z]/\H a=some (.dT kvs)/\H b=some (.tup (k.map kV))/\Q ((JE kvs k).getD z) H
theorem FS(hu:X.A.units+ 1 < cLine):Dy X "dict.get" Ht:=by
 intro pins s σ H x vs v p Q I g i h;obtain⟨a,b,k,kvs,z,rfl,rfl,n,j,q⟩:=h;cases g;cases i with
 |cons r1 t1=>
  cases t1 with
  |cons r2 t2=>
   cases t2;cases r1;obtain⟨r,hd,xs,e,f⟩:=BX I.hok n;have c:=e.val k;refine W3 UF f.typeIs PySem.F.entry_dict_get (PySem.F.args_dict_get_3 _ _ _) (meetsH_dict_get_default (tupleKind (Jo X.prog X.w)) a b hd _) ⟨XU hu,k,xs,Rs I.hok j,f,?_⟩;refine⟨_,H,I.tok _,?_,q⟩;cases e1:JE kvs k with
   |none=>
    cases e2:atKey xs k with
    |none=>exact r2
    |some u=>rw[e1,e2]at c;exact c.elim
   |some y=>
    cases e2:atKey xs k with
    |none=>rw[e1,e2]at c;exact c.elim
    |some u=>rw[e1,e2]at c;exact c
end
theorem N4.inj{h:J6}{v:WW}{k j:Ky}(x:N4 h v k)(y:N4 h v j):k=j:=by
 obtain⟨a,t,u,r,e,o,h1,h2,n,i⟩:=x;obtain⟨a',s,q,w,g,o',f,p,z,b⟩:=y;rw[e]at g;cases g;rw[h1]at f;cases f;rw[i]at b;injection b with b _;have c:=X3 Array.toList b;simp only[List.cons.injEq,Value.int.injEq,Value.str.injEq]at c;exact Ul c.1.1 (Ul c.2.1.1 c.2.2.1.1)
def E4(a:WX):Obj:={cls:=.type "dict_values",data:=.fields #[.ref a]}
section
variable{prog:WP}{w:WU}{A:WT}{E:WM}{s:WQ}{d it v:WX}{o:Obj}{es:Array DictEntry}{ep i n:Nat}
theorem bJ(hd:(d==sysModules)=false):MeetsIn prog w (Builtin.«dict.values» ⟨[.ref d],[]⟩) (fun _ R s=>s.TypeIs (.ref d) "dict"/\R (.ok (.ret (.ref s.heap.objs.size))) {s with heap:=s.heap.push (E4 d)}):=
 .of_wp fun A R s ⟨a,h⟩=>by
  refine Y0 ?_;unfold Builtin.Dict.noArgs;refine Y0 (Ua a (?_:wpAny _ _ (pure d) _ _ s));refine Y2 (?_:wpAny _ _ (Builtin.Dict.showsAll d >>=_) _ _ s);unfold Builtin.Dict.showsAll;rw[Y5 (by rw[hd];exact Yj)];exact Y0 (Y2 (Y0 (YO (Y2 ⟨_,rfl,h⟩))))
theorem uE{Q:WM}(hv:s.heap.get? v=some (E4 d))(ho:s.heap.get? d=some o)(hdat:o.data= .dict es ep)
  (hQ:Q (.ref s.heap.objs.size) {s with heap:=s.heap.push {cls:=.type "dict_valueiterator",data:=.fields #[.ref d,.int 0 0,.int es.size 0,.int ep 0]}}):wpAny (model prog w) A (pyIter (.ref v)) Q E s:=by
 have a:s.TypeIs (.ref v) "dict_values":=⟨_,hv,rfl⟩
 refine Vc a VJ (YU VJ a PySem.F.entry_dict_values_iter ?_ (PySem.F.args_dict_values_iter_1 _));unfold Builtin.«dict_values.__iter__»;refine Y0 (Y2 (Y0 ?_));unfold Builtin.Dict_items.dictOf;refine Y0 (UM hv rfl (x:=.ref d) rfl (Y2 (Y0 ?_)));unfold Builtin.Dict_items.newIterator;refine Y0 (Xv ho hdat (Y0 (Uw ho hdat ?_)));simp only[show Builtin.Dict_items.ownsTuple "dict_valueiterator"=false by decide,Bool.false_eq_true,if_false];refine YO (Y2 ⟨_,rfl,"dict_valueiterator",_,⟨_,Yc _ rfl,rfl⟩,Xi.lookup,?_⟩);simpa[rawInt] using hQ
theorem aP{Q:Option Value->Shared->Prop}(hit:s.heap.IsValIter it d i es.size ep)(ho:s.heap.get? d=some o)(hdd:o.data= .dict es ep)(hlt:i < es.size)
  (hQ:∀h',h'.IsValIter it d (i+ 1) es.size ep->Heap.SameBut it s.heap h'->Q (some es[i].val) {s with heap:=h'}):wpAny (model prog w) A (pyNext (.ref it)) Q E s:=by
 obtain⟨f,b,e,hd⟩:=id hit;have c:=hit.typeIs;unfold pyNext;refine Y0 (XS (X0 (name:=Str.ofString "__next__") c Xi (YU Xi c UY ?_ (UO _))));refine Y0 (Y2 (Y0 (Y0 ?_)));refine Y0 (XX c (Y2 (Y0 (U3 b hd ?_))));simp only[show Builtin.Dict_items.ownsTuple "dict_valueiterator"=false by decide,Bool.false_eq_true,if_false];refine(?_:wpAny _ _ (if(Value.ref d==Value.none)=true then _ else _) _ _ s);rw[Y5 (show ¬((Value.ref d==Value.none)=true) from fun z=>Bool.noConfusion z)];refine Y0 (Y2 (Y0 (Xv ho hdd ?_)));rw[Y5 (by simp)];refine Y0 (Y2 (Y0 (Uw ho hdd ?_)));rw[Y5 (by simp)];refine Y2 ?_;simp only[show ¬((i:Int) < 0) by omega,if_false,X7,Yz hlt];refine Y0 (Y0 (XX c (Y2 (Y0 (Vr c ?_)))));refine(?_:wpAny _ _ (setField (.ref it) 1 (rawInt ((i:Int)+ 1)) >>=_) _ _ s);refine Y0 (XE b hd (by simp) ?_);have a:(s.heap.update it (Obj.mapFields (·.setIfInBounds 1 (rawInt ((i:Int)+ 1))))).IsValIter it d (i+ 1) es.size ep:=
  ⟨_,YB _ b (Obj.isFreed_of_fields (V1 hd _)),(Obj.cls_mapFields ..).trans e,by rw[V1 hd];simp[rawInt]⟩
 refine Y0 (YK (Y0 (Vr (s:={s with heap:=s.heap.update it (Obj.mapFields (·.setIfInBounds 1 (rawInt ((i:Int)+ 1))))}) a.typeIs ?_)));refine Y0 (Vr (s:={s with heap:=s.heap.update it (Obj.mapFields (·.setIfInBounds 1 (rawInt ((i:Int)+ 1))))}) a.typeIs ?_);refine(?_:wpAny _ _ (pure es[i].val) _ _ _);exact Y2 (Y2 ⟨_,rfl,Y2 (hQ _ a (Xc ..))⟩)
theorem vL{Q:Option Value->Shared->Prop}(hh:A.handled=none)(hit:s.heap.IsValIter it d i es.size ep)(ho:s.heap.get? d=some o)(hdd:o.data= .dict es ep)(hge:es.size <=i)
  (hQ:∀h',Heap.ExtBut it s.heap h'->Q none {s with heap:=h'}):wpAny (model prog w) A (pyNext (.ref it)) Q E s:=by
 obtain⟨f,e,g,hd⟩:=id hit;have c:=hit.typeIs;unfold pyNext;refine Y0 (XS (X0 (name:=Str.ofString "__next__") c Xi (YU Xi c UY ?_ (UO _))));refine Y0 (Y2 (Y0 (Y0 ?_)));refine Y0 (XX c (Y2 (Y0 (U3 e hd ?_))));simp only[show Builtin.Dict_items.ownsTuple "dict_valueiterator"=false by decide,Bool.false_eq_true,if_false];refine(?_:wpAny _ _ (if(Value.ref d==Value.none)=true then _ else _) _ _ s);rw[Y5 (show ¬((Value.ref d==Value.none)=true) from fun z=>Bool.noConfusion z)];refine Y0 (Y2 (Y0 (Xv ho hdd ?_)));rw[Y5 (by simp)];refine Y0 (Y2 (Y0 (Uw ho hdd ?_)));rw[Y5 (by simp)];refine Y2 ?_;simp only[show ¬((i:Int) < 0) by omega,if_false,X7,Uz hge];refine Y0 (Y0 (XX c (Y2 ?_)));refine(?_:wpAny _ _ (setField (.ref it) 0 .none >>=_) _ _ s);refine Y0 (XE e hd (by simp) ?_);refine(?_:wpAny _ _ (newExc (.type "StopIteration") [] >>=_) _ _ _);refine Y0 ?_;simp only[newExc,newTuple];refine Y0 (YO (Y0 (m:=firstArgMember _ _) (Uy (a:=Value.none) (by first|rfl|(simp only[firstArgMember];rfl)) (YO ?_ (by size_fits)))) (by size_fits));simp only[raiseNew];refine Y0 (VR ?_);rw[show A.in1.handled=none from hh];refine Y0 (Y2 (Wk ?_));exact Y0 (Uk (T:="StopIteration") (b:=true) ⟨_,Yc _ rfl,rfl⟩ V7 (Y2 (hQ _ (((Xc ..).extBut.push _).push _))))
end
def Os(d:WX)(o:Obj)(kvs:List (List Jw×V)):It:=
 ⟨fun i H=>H d=some (.frz o (.dT kvs))/\i < kvs.length,fun i H x H'=>H'=H/\∃k,kvs[i]?=some (k,x),fun i H=>H d=some (.frz o (.dT kvs))/\kvs.length <=i⟩
theorem KT.val'{H:Hp}:∀{kvs:List (List Jw×V)} {xs:List (List Jw×Addr×Value)},KT H kvs xs->∀{i:Nat} {x:List Jw×Addr×Value},xs[i]?=some x->∃v,kvs[i]?=some (x.1,v)/\Jr v x.2.2:=by
 intro kvs xs r
 induction r with
 |nil=>intro i x h;simp at h
 |@cons p q ps qs hq t ih=>
  intro i x h;cases i with
  |zero=>
   cases h;exact⟨p.2,by rw[List.getElem?_cons_zero,<-hq.1],hq.2.2⟩
  |succ i=>
   rw[List.getElem?_cons_succ]at h ⊢;exact ih h
theorem bK{P:WP}{w:WU}{K:WV}{tg:J7}{o:Obj}{kvs:List (List Jw×V)}{es:Array DictEntry}{ep:Nat}(d it:WX)(hdat:o.data= .dict es ep)(hsz:es.size=kvs.length):Ed P w K tg (Os d o kvs) [it] it (fun i h=>h.IsValIter it d i es.size ep) where
 mem:=by simp
 obj:=fun i h st b a=>by
  have e:b=it:=by simpa using a
  subst e;obtain⟨o,e,c,d⟩:=st;exact⟨o,e,fun v z=>by rw[d]at z;cases z⟩
 keep:=fun i h h' st k=>by
  obtain⟨n,e,r⟩:=st;exact⟨n,k it (by simp) n e,r⟩
 item:=by
  intro X u p x hc i pins s σ H E I hf st q;subst u p x;obtain⟨hF,hi⟩:=q;obtain⟨f0,f1,f2,f3,f4,f5⟩:=hf it (by simp);obtain⟨f,hob⟩:=(show s.heap.get? d=some o/\Jy X.prog X.w H s.heap d (.dT kvs) from I.hok d _ hF);obtain⟨z,y,xs,r,o',es',ep',q1,q2,q3,q4,q5⟩:=hob;rw[f]at q1;cases q1;rw[hdat]at q3;cases q3;have j:i < es.size:=by omega
  refine aP st f hdat j fun h' g sb=>?_
  have I1:Jd X pins σ H {s with heap:=h'}:=I.turned (t':=s.toks) (fun b o a e=>(sb.2 b a).trans e) f0 f1 f3 f4 f5;obtain⟨n,e,c,dd⟩:=id g;have hxl:xs.length=es.size:=by rw[<-Array.length_toList,q4,Y1]
  have hx:xs[i]?=some xs[i]:=Y4 (by omega);obtain⟨v,hv,a⟩:=KT.val' r hx;have hk:es[i].val=xs[i].2.2:=by
   have:es.toList[i]?=(xs.map (entryOfKey (tupleKind (Jo X.prog X.w))))[i]?:=by rw[q4]
   rw[Y9,hx,Array.getElem?_toList,Yz j]at this;rw[Option.some.inj this];rfl
  exact⟨_,rfl,Ad (s:={s with heap:=h'}) e c dd (by decide) ⟨v,H,I1,by rw[hk];exact a,⟨rfl,_,hv⟩,g,fun b a=>(hf b a).1⟩⟩
 done:=by
  intro X u p x hc i pins s σ H E I hf st q;subst u p x;obtain⟨hF,hi⟩:=q;obtain⟨f0,f1,f2,f3,f4,f5⟩:=hf it (by simp);have f:s.heap.get? d=some o:=(show s.heap.get? d=some o/\Jy X.prog X.w H s.heap d (.dT kvs) from I.hok d _ hF).1;exact vL (I.ok.hd hc) st f hdat (by omega) fun h' eb=>⟨rfl,I.turned (t':=s.toks) (fun b o a e=>eb b o a e) f0 f1 f3 f4 f5⟩
 self:=fun A i s Q E st h=>by
  exact wpAny_pyIter_valiter st h
section
variable{X:Cx}{K:WV}
def Kh:V->List V->Hp->VK->Prop:=fun x vs H Q=>∃ (a:WX) (kvs:List (List Jw×V)),x= .ref a/\vs=[]/\H a=some (.dT kvs)/\∀v G,H v=none->Jb H G->G v=some (.frz (E4 a) (.own a))->Q (.ref v) G
theorem uP:Dy X "dict.values" Kh:=by
 intro pins s σ H x vs v n Q I f g h;obtain⟨a,kvs,rfl,rfl,i,q⟩:=h;cases f;cases g;obtain⟨p,hd,xs,j,e⟩:=BX I.hok i;have hf:H s.heap.objs.size=none:=I.hok.fresh (Y8 _);have c:(s.heap.push (E4 a)).get? s.heap.objs.size=some (E4 a):=Yc _ rfl;refine W3 W4 e.typeIs PySem.F.entry_dict_values (PySem.F.args_dict_values_1 _) (bJ hd) ⟨e.typeIs,?_⟩;exact⟨.ref s.heap.objs.size,upd H s.heap.objs.size (.frz (E4 a) (.own a)),I.laid (t':=s.toks) (fun b o z=>Y7 _ z) (Y8 _) ⟨c,_,c⟩,rfl,q _ _ hf (MD hf) Nc⟩
def Fq(td:TE):TI:=fun σ H R=>td σ H fun x H1=>∃v a kvs,x= .ref v/\H1 v=some (.frz (E4 a) (.own a))/\H1 a=some (.dT kvs)/\∀o,R (Os a o kvs) (upd H1 a (.frz o (.dT kvs)))
theorem jJ{tg e:J7}{td:TE}(hl:PE X e td):PI X tg e (Fq td):=by
 intro pins s σ H R I h;refine JH (hl pins s σ H _ I h) fun v c ⟨x,H1,g,u,i,a,kvs,ex,ev,p,q⟩=>?_
 subst ex;cases u;obtain⟨z,y,xs,r,o,es,ep,n,q2,j,q4,q5⟩:=(show Jy X.prog X.w H1 c.heap a (.dT kvs) from g.hok a _ p);obtain⟨hv,_⟩:=(show c.heap.get? i=some (E4 a)/\_ from g.hok i _ ev);have hxl:xs.length=es.size:=by rw[<-Array.length_toList,q4,Y1]
 have hkl:=Paired.length r;refine uE hv n j ?_;have f:=g.freeze p n;refine⟨c.heap.objs.size,[c.heap.objs.size],_,_,_,rfl,f.kept (t':=c.toks) fun b o e=>Y7 _ e,bK a _ j (by omega),⟨_,Yc _ rfl,rfl,rfl⟩,fun b hb=>?_,q o⟩;have e:b=c.heap.objs.size:=by simpa using hb
 subst e;exact f.fpOk (Y8 _) (f.hok.fresh (Y8 _))
end
section
variable{caps:List (Option Nat)}{g:TG}{tc:TT}{te td:TE}{d:WX}{kvs:List (List Jw×V)}{σ:St}{H:Hp}{Q:VK}
theorem yL(hd:H d=some (.dT kvs))(htd:∀R:VK,(∀v H1,H v=none->Jb H H1->H1 v=some (.frz (E4 d) (.own d))->R (.ref v) H1)->td σ H R)(Pv:Nat->List V->St->Prop)(h0:Pv 0 [] (NV caps σ))(hl:∀i ys σ',Pv i ys σ'->ys.length <=i)(hz:kvs.length <=100000)
  (hs:∀Hf o,(∀c u,H c=some u->c≠d->Hf c=some u)->Hf d=some (.frz o (.dT kvs))->∀i k v ys σ',kvs[i]?=some (k,v)->Pv i ys σ'->g v σ' Hf fun σ2 H2=>tc σ2 H2 fun c H3=>if c=true then te σ2 H3 fun y H4=>Pv (i+ 1) (ys++[y]) σ2/\H4=Hf else Pv (i+ 1) ys σ2/\H3=Hf)
  (he:∀ys σ',Pv kvs.length ys σ'->∀p G,H p=none->Jb H G->G p=some (.lst ys)->Q (.ref p) G):Ag (RW caps (Fq td) g tc te) σ H Q:=by
 refine⟨d,kvs,hd,htd _ fun v0 H1 hv0 s e0=>⟨v0,d,kvs,rfl,e0,s _ _ hd,fun o=>?_⟩⟩;obtain⟨Hf,r⟩:∃Hf,Hf=upd H1 d (.frz o (.dT kvs)):=⟨_,rfl⟩;rw[<-r];have a:Hf d=some (.frz o (.dT kvs)):=by rw[r,Nc]
 have j:∀c,c≠d->Hf c=H1 c:=fun c b=>by rw[r,JF b]
 refine⟨fun i m ys σ' H'=>m=kvs.length - i/\i <=kvs.length/\Pv i ys σ'/\H'=Hf,⟨kvs.length,by simp,Ys _,h0,rfl⟩,?_⟩;rintro i m ys σ' H' ⟨rfl,hi,p,rfl⟩;have hy:=hl i ys σ' p
 by_cases hlt:i < kvs.length
 .refine .inr ⟨⟨a,hlt⟩,Yi (U7 (Yi hy hlt)) (DK hz),fun aa σ2 H2=>Pv (i+ 1) aa σ2/\H2=H',fun aa σ2 H2 q=>⟨kvs.length - (i+ 1),by omega,rfl,hlt,q⟩,fun x H2 y=>?_⟩;obtain⟨e,k,hk⟩:=y;subst e;exact hs H2 o (fun c u h n=>by rw[j c n];exact s _ _ h) a i k x ys σ' hk p
 .have e:i=kvs.length:=by omega
  subst e;refine .inl ⟨⟨a,Y8 _⟩,N0 (YF hy hz),fun w f=>?_⟩;have n1:d≠w:=fun z=>by rw[<-z,a]at f;cases f
  have ab:H1 w=none:=by rw[<-j w (Ne.symm n1)];exact f
  refine⟨o,by rw[JF n1];exact a,he ys σ' p w _ (s.free ab) (fun c u e=>?_) ?_⟩
  .by_cases b:c=d
   .rw[b,hd]at e;rw[b,Nc];exact e
   .have e':=s _ _ e;rw[JF b,JF (fun z=>by rw[z,ab]at e';cases e'),j c b];exact e'
  .rw[JF (Ne.symm n1),Nc]
end
section
variable{X:Cx}
def Kg:List V->Hp->VK->Prop:=fun as H Q=>∃ (a:WX) (kvs:List (List Jw×V)),as=[V.ref a]/\H a=some (.dT kvs)/\
 ∀ (ts:List Addr) l G,Pw (fun t (kv:List Jw×V)=>H t=some (.tup (kv.1.map kV))) ts kvs->H l=none->Jb H G->G l=some (.lst (ts.map V.ref))->Q (.ref l) G
theorem tD(hc:X.calm=true):JA X (.type "list") Kg:=by
 intro pins s σ H xs us Q I r h;obtain⟨a,kvs,rfl,ha,q⟩:=h;obtain⟨u,rfl,rx⟩:=DO r;cases rx;obtain⟨z,y,xs,r,o,es,ep,h1,h2,h3,h4,h5⟩:=(show Jy X.prog X.w H s.heap a (.dT kvs) from I.hok a _ ha);have n:xs.length=es.size:=by rw[<-Array.length_toList,h4,Y1]
 have c:=Paired.length r;have hh:X.A.handled=none:=I.ok.hd hc;refine W.kdl_call (Sr (prog:=X.prog) (w:=X.w) y h2 h3) hh h1 (by rw[<-n,<-c];exact z) fun h' tk acc c' hk hl f=>?_
 have hf:H s.heap.objs.size=none:=I.hok.fresh (Y8 _);have hw:Pw (fun t (kv:List Jw×V)=>H t=some (.tup (kv.1.map kV))) (xs.map (·.2.1)) kvs:=by
  refine⟨by rw[Y1];exact c.symm,fun j t kv a b=>?_⟩;rw[Y9]at a;obtain⟨x,g,rfl⟩:=Ye.mp a;obtain⟨v,i,hb⟩:=KT.at' r g;rw[b]at i;cases i;exact hb
 refine⟨.ref s.heap.objs.size,upd H s.heap.objs.size (.lst ((xs.map (·.2.1)).map V.ref)),I.laid (t':=tk) hk (Y8 _) ?_,rfl,q _ _ _ hw hf (MD hf) Nc⟩;refine⟨by rw[Y1,Y1,<-c];exact z,acc.toList,c',?_,hl⟩;refine LX (by rw[Array.length_toList,f.1,Y1,Y1,n]) fun j v i=>?_
 obtain⟨e,he,rfl⟩:=f.2 j v (by rw[<-Array.getElem?_toList];exact i);have hlt:j < es.size:=(Uc.mp he).1;have g:xs[j]?=some (xs[j]'(by omega)):=Y4 (by omega);have p:es.toList[j]?=(xs.map (entryOfKey (tupleKind (Jo X.prog X.w))))[j]?:=by rw[h4]
 rw[Y9,g,Array.getElem?_toList,he]at p;refine⟨.ref xs[j].2.1,by rw[Y9,Y9,g];rfl,?_⟩;rw[Option.some.inj p];rfl
end
end L2
namespace HT
open PySem PyProof.Rows
def LexG(A:WT)(s:WQ):List (Value×Value)->Bool->Prop
 |[],r=>r=false
 |(x,y)::rest,r=>∃e,SeqAt.EqAt A s x y e/\(e=true->LexG A s rest r)/\(e=false->∀ (prog:WP) (w:WU) (E:WM) (Q:WM),Q (.bool r) s->wpAny (model prog w) A (richCompare .Lt x y) Q E s)
section
open PySem.SeqAt
open PySem.AutoSeq1 (wpAny_loadPart')
open PySem.MeetsSeq PySem.MeetsSeq2 PySem.MeetsSeq3
theorem gT(l b:WX)(items items2:Array Value)(n n2:Nat)(dd dd2:Option Addr)(sl sl2:Array (Option Value))(r:Bool)(hsz:items.size=items2.size):
  Meets (Builtin.«tuple.__lt__» ⟨[.ref l,.ref b],[]⟩)
   (fun A R s => s.heap.get? l = some { cls := .type "tuple", dict := dd, data := .seq items n, slots := sl } /\ s.heap.get? b = some { cls := .type "tuple", dict := dd2, data := .seq items2 n2, slots := sl2 } /\
    LexG A.in1 s (items.toList.zip items2.toList) r /\ R (.ok (.ret (.bool r))) s) :=
 .of_wp fun prog w A R s h=>by
  obtain⟨f,g,d,tk,a⟩:=s;obtain⟨p,u,i,h⟩:=h;have z:=AutoSeq1.sub_tuple_tuple
  wp_walk using Xh p,Xh u,wpAny_forIn_list _ (fun rest b s'=>b.1=none/\s'=⟨f,g,d,tk,a⟩/\LexG A.in1 ⟨f,g,d,tk,a⟩ rest r) _
  case turn=>
   rintro⟨y,x⟩ rest b s' ⟨hb',rfl,hL⟩;obtain⟨e,q,h1,h2⟩:=hL;refine Y0 (q prog w _ _ ?_);cases e with
   |true=>
    wp_walk
    exact⟨rfl,rfl,h1 rfl⟩
   |false=>
    have c:=h2 rfl prog w
    wp_walk using c
    exact⟨_,rfl,h⟩
  case fin=>
   rintro⟨b1,b2⟩ s' ⟨hb',rfl,hL⟩;simp only at hb';subst hb';have j:r=false:=hL;subst j
   wp_walk
   exact⟨_,rfl,by simpa[Builtin.Tuple.tupleCompareSizes,hsz] using h⟩
  case h=>
   exact⟨rfl,rfl,i⟩
end
section
variable{prog:WP}{w:WU}{A:WT}{E:WM}{s:WQ}
theorem lt_tupG{l b:WX}{items items2:Array Value}{r:Bool}{Q:WM}(hl:IsTup s.heap l items)(hb:IsTup s.heap b items2)(hsz:items.size=items2.size)(hx:LexG A.in1 s (items.toList.zip items2.toList) r)
  (hu:A.units < cLine) (h:Q (.bool r) s):wpAny (model prog w) A (richCompare .Lt (.ref l) (.ref b)) Q E s:=by
 obtain⟨⟨ab,y,z,q⟩,g,i,n,hd⟩:=id hl;obtain⟨⟨aa,j,p,f⟩,a,e,u,c⟩:=id hb;simp only at i hd e c;subst i hd e c;exact richCompare_meets_room (op:=.Lt) ⟨_,g,rfl⟩ ⟨_,a,rfl⟩ Ws Wl (W8 _ _) (gT l b items items2 n u y j q f r hsz)
  ⟨g,a,hx,show Value.bool r≠Value.notImplemented/\Q (.bool r) s from⟨(fun x=>nomatch x),h⟩⟩ hu
end
end HT
namespace L2
open PySem PySem.Spec PyProof.Rows PySem.W
section
variable{prog:WP}{w:WU}{A:WT}{E:WM}{s:WQ}
theorem wW{x y:WW}{p q:Int×Ky}{Q:WM}(hx:NJ s.heap x p)(hy:NJ s.heap y q)(hu:A.units+ 2 < cLine)(h:Q (.bool (JR p q)) s):wpAny (model prog w) A (richCompare .Lt x y) Q E s:=by
 obtain⟨a,t,b,rfl,h1,k1⟩:=hx;obtain⟨a',j,b',rfl,h2,u⟩:=hy;refine HT.lt_tupG (r:=JR p q) h1 h2 rfl ?_ (by lia) h;have i:A.in1.units < cLine:=by show A.units+ 1 < cLine;lia
 show HT.LexG A.in1 s [(Value.int p.1 t,Value.int q.1 j),(Value.ref b,Value.ref b')] (JR p q);obtain⟨e,he,f⟩:=HT.eqAt_int A.in1 s p.1 t q.1 j;refine⟨e,he,fun z=>⟨decide (p.2=q.2),fun prog w E Q c=>Fb k1 u i c,fun n=>?_,fun n prog w E Q c=>?_⟩,fun z prog w E Q c=>?_⟩
 .have g:=f.mp z;have e2:=Xe n;show JR p q=false;unfold JR;rw[Y6 g,e2];exact Ff _
 .have g:=f.mp z;have:JR p q=Mw p.2 q.2:=by unfold JR;rw[Y6 g]
  rw[this]at c;exact Ss k1 u i c
 .have g:¬p.1=q.1:=fun q'=>by have:=f.mpr q';rw[z]at this;cases this
  have:JR p q=decide (p.1 < q.1):=by unfold JR;rw[Y5 g]
  rw[this]at c;exact HT.rcLt_int A.in1 s p.1 t q.1 j prog w E Q c
end
section
variable{prog:WP}{w:WU}{A:WT}{R:Result->Shared->Prop}{I:WX}{fp wr:List Addr}{n:Nat}{P:Nat->Value->Prop}{St:Nat->Heap->Prop}
def uO(P:Nat->Value->Prop)(bt:Nat->Nat->Bool)(j:Nat)(old:Array Value):Prop:=(j=0/\old=#[])\/∃i v,j=i+ 1/\old=#[v,v]/\P (argBest bt i) v
theorem y6(W:Walks prog w A.in1 I fp wr n P St)(bt:Nat->Nat->Bool)(h₀:J6)(hcmp:∀i j vi vj (s:WQ) (Q:WM) (E:WM),(∀b o,h₀.get? b=some o->s.heap.get? b=some o)->P i vi->P j vj->Q (.bool (bt i j)) s->wpAny (model prog w) A.in1 (richCompare .Lt vi vj) Q E s)
  (S:WX) (hSf:S∉fp) (hw0:∀b o,h₀.get? b=some o->b∉wr/\b≠S) (hn:0 < n):
  ∀ (k j:Nat) (s:WQ) (old:Array Value) (c:Nat),n - j=k->j <=n->St j s.heap->uO P bt j old->(∀b o,h₀.get? b=some o->s.heap.get? b=some o)->s.heap.get? S=some {cls:=.type "list",dict:=none,data:=.seq old c,slots:=#[]}->
  (∀v h' tk,P (argBest bt (n - 1)) v->(∀b o,b∉wr->b≠S->s.heap.get? b=some o->h'.get? b=some o)->R (.ok (.ret v)) {s with heap:=h',toks:=tk})->
  codeAny (model prog w) A (.builtin "min.loop" ⟨[.ref I,.none,.ref S],[]⟩) R s:=by
 have hSw:S∉wr:=fun z=>hSf (W.sub _ z)
 have hnm:(toString "min"++toString ".loop":String)="min.loop":=by decide
 intro k
 induction k with
 |zero=>
  intro j s old c hk hj hst hB h0 hS hR;obtain rfl:j=n:=by lia
  refine Xp F.entry_min_loop ?_;rw[Xj Um _];refine Y0 (Wt hS rfl (Y0 (VN (W.done s _ _ hst fun h' tk h=>?_))));have r:=h S _ hSw hS;rcases hB with⟨z,rfl⟩|⟨i,v,hi,rfl,hP⟩
  .lia
  .refine Y0 (UW (hz:=Iz) (_hz':=xB) r rfl (Y0 (Vh (Y2 ?_))));exact hR v _ tk (by rw[show j - 1=i by lia];exact hP) fun b o a g e=>(Xa _ _ (Ne.symm g)).trans (h b o a e)
 |succ k ih=>
  intro j s old c hk hj hst hB h0 hS hR;refine Xp F.entry_min_loop ?_;rw[Xj Um _];refine Y0 (Wt hS rfl (Y0 (VN (W.item j s _ _ (by lia) hst fun v h' tk hP y h=>?_))));have r:=h S _ hSw hS;have aa:∀b o,h₀.get? b=some o->h'.get? b=some o:=fun b o e=>h b o (hw0 b o e).1 (h0 b o e)
  rcases hB with⟨rfl,rfl⟩|⟨i,u,rfl,rfl,hPb⟩
  .refine Y0 (Y2 ?_);show wpAny _ A.in1 (updateSeq S (fun _=>#[v,v]) >>=fun _=>again _) _ _ _;refine Y0 (UW (f:=fun _=>#[v,v]) (xs:=#[]) (n:=c) r rfl ?_ (Ys _) Qx);rw[hnm];refine Y2 ⟨XC Um _,ih 1 _ _ _ (by lia) (by lia) (W.frame _ _ _ y fun b hb o e=>(Xa _ _ (fun z:S=b=>hSf (by rw[z];exact hb))).trans e) (.inr ⟨0,v,rfl,rfl,hP⟩) (fun b o e=>(Xa _ _ (Ne.symm (hw0 b o e).2)).trans (aa b o e)) (YB _ r rfl) ?_⟩;exact fun u x p z1 q=>hR u x p z1 fun b o a g e=>q b o a g ((Xa _ _ (Ne.symm g)).trans (h b o a e))
  .refine Y0 (Y2 (Y0 (VN (YK (Y0 (hcmp (i+ 1) (argBest bt i) v u _ _ _ aa hP hPb ?_))))));refine Y0 (YK (Xs (Y0 (Vh (Y2 ?_)))));cases hb:bt (i+ 1) (argBest bt i) with
   |true=>
    simp only[if_true];refine Y0 (UW (f:=fun _=>#[v,v]) (n:=c) r rfl (Y0 (Vh ?_)) Iz Qx);rw[hnm];refine Y2 ⟨XC Um _,ih (i+ 1+ 1) _ _ _ (by rw[Nat.sub_succ,hk];rfl) (by lia) (W.frame _ _ _ y fun b hb o e=>(Xa _ _ (fun z:S=b=>hSf (by rw[z];exact hb))).trans e) (.inr ⟨i+ 1,v,rfl,rfl,by simp only[argBest,hb,if_true];exact hP⟩) (fun b o e=>(Xa _ _ (Ne.symm (hw0 b o e).2)).trans (aa b o e)) (YB _ r rfl) ?_⟩;exact fun u x p z1 q=>hR u x p z1 fun b o a g e=>q b o a g ((Xa _ _ (Ne.symm g)).trans (h b o a e))
   |false=>
    simp only[Bool.false_eq_true,if_false];refine Y0 (Vh ?_);rw[hnm];refine Y2 ⟨XC Um _,ih (i+ 1+ 1) _ _ _ (by rw[Nat.sub_succ,hk];rfl) (by lia) y (.inr ⟨i+ 1,u,rfl,rfl,by simp only[argBest,hb,Bool.false_eq_true,if_false];exact hPb⟩) aa r ?_⟩;exact fun u x p z1 q=>hR u x p z1 fun b o a g e=>q b o a g (h b o a e)
end
theorem rD{n:Nat}{O:KeyOrd}(key:Nat->O.α):argBest (fun i j=>O.blt (key i) (key j)) n <=n/\∀i,i <=n->O.blt (key i) (key (argBest (fun i j=>O.blt (key i) (key j)) n))=false:=by
 induction n with
 |zero=>exact⟨by simp[argBest],fun i hi=>by obtain rfl:i=0:=(by lia);simp[argBest];exact O.irrefl _⟩
 |succ n ih=>
  by_cases h:O.blt (key (n+ 1)) (key (argBest (fun i j=>O.blt (key i) (key j)) n))=true
  .have e:argBest (fun i j=>O.blt (key i) (key j)) (n+ 1)=n+ 1:=by simp[argBest,h]
   rw[e];refine⟨Y8 _,fun i hi=>?_⟩
   by_cases hi':i=n+ 1
   .subst hi';exact O.irrefl _
   .refine X8.mpr fun z=>?_
    have h1:=ih.2 i (by lia);have h2:=O.trans _ _ _ z h;rw[h1]at h2;cases h2
  .have e:argBest (fun i j=>O.blt (key i) (key j)) (n+ 1)=argBest (fun i j=>O.blt (key i) (key j)) n:=by simp[argBest,h]
   rw[e];refine⟨by lia,fun i hi=>?_⟩
   by_cases hi':i=n+ 1
   .subst hi';exact X8.mpr h
   .exact ih.2 i (by lia)
def O6(K:WV):List V->Hp->VK->Prop:=fun xs H Q=>∃ (p:WX) (zs:List V) (c:List (Int×Ky)),xs=[.ref p]/\Jh K H p zs/\zs.length=c.length/\(∀ (i:Nat) x q,zs[i]?=some x->c[i]?=some q->Fv K H x q)/\c≠[]/\
 ∀ (i:Nat) x q,zs[i]?=some x->c[i]?=some q->(∀q'∈c,JR q' q=false)->Q x H
section
variable{X:Cx}{K:WV}
theorem FE(hc:X.calm=true)(hu:X.A.units+ 64 < cLine)(h:X.K=K):JA X (.builtin "min") (O6 K):=by
 subst h;intro pins s σ H xs us Q I r hh;obtain⟨p,zs,c,rfl,hq,hlc,hp,hne,q⟩:=hh;obtain⟨u,rfl,rx⟩:=DO r;cases rx;obtain⟨a,rv,pl,hz⟩:=I.list hq;have hh:X.A.in1.handled=none:=I.ok.hd hc;have hl:=pl.isList;have g:p < s.heap.objs.size:=by obtain⟨_,e,_⟩:=hl;exact Yd e
 have hlen:zs.length=a.length:=rv.length;have hpos:0 < a.length:=by have:=VM.mpr hne;lia
 have hpr:∀ (i:Nat) v q,a[i]?=some v->c[i]?=some q->NJ s.heap v q:=fun i v q e1 e2=>by
  have hi:i < a.length:=(Ym.mp e1).1;have ex:zs[i]?=some (zs[i]'(by lia)):=Y4 (by lia);obtain⟨u,hu,ru⟩:=rv.get (i:=i) (x:=_) ex;rw[e1]at hu;cases hu;obtain⟨t,b,e,ht,f⟩:=hp i _ q ex e2;rw[e]at ru;cases ru;exact Oo I ht f
 have hnm:(toString "min"++toString ".loop":String)="min.loop":=by decide
 refine call_function_tree F.kind_min F.plain_min F.entry_min (F.args_min1 _) ?_;show wpAny _ X.A.in1 (Builtin.Builtins.bindParams "min" ["key","default"] 0 ⟨[],[]⟩ >>=_) _ _ s;refine Y0 (Uy (show Builtin.Builtins.bindParams "min" ["key","default"] 0 ⟨[],[]⟩=pure [none,none] from rfl) ?_);refine Y0 (Y2 (Y0 (Xt hl (Y0 (YO ?_)))));rw[hnm];have W:=Wx (prog:=X.prog) (w:=X.w) hh s.heap.objs.size p (Yr g) a.toArray;have hsz:a.toArray.size=a.length:=Yg;refine Y2 ⟨XC Um _,y6 W (fun i j=>JR (c.getD i (0,0,"","")) (c.getD j (0,0,"",""))) s.heap ?_ _ ?_ ?_ (by rw[hsz];exact hpos) _ 0 _ _ _ rfl (Ys _) (W.frame _ _ _ ⟨⟨_,Yc _ rfl,rfl,rfl⟩,hl.push _⟩ fun b _ o e=>Y7 _ e) (.inl ⟨rfl,rfl⟩) (fun b o e=>Y7 _ (Y7 _ e)) (Yc _ rfl) ?_⟩
 .intro i j vi vj s' Q' E' hk hi hj hQ;have hi':a[i]?=some vi:=by simpa using hi
  have hj':a[j]?=some vj:=by simpa using hj
  have li:=(Ym.mp hi').1;have lj:=(Ym.mp hj').1;have ci:c[i]?=some (c.getD i (0,0,"","")):=by rw[Y4 (by lia)];simp[show i < c.length by lia]
  have cj:c[j]?=some (c.getD j (0,0,"","")):=by rw[Y4 (by lia)];simp[show j < c.length by lia]
  exact wW ((hpr i vi _ hi' ci).keep hk) ((hpr j vj _ hj' cj).keep hk) (by show X.A.units+ 1+ 2 < cLine;lia) hQ
 .intro z;rw[Yo,Yb]at z;dsimp only at z;rw[XD]at z;rcases z with z|z
  .exact absurd z (Nat.succ_ne_self _)
  .rw[<-z]at g;exact absurd g (Nat.not_lt.mpr (X4 _))
 .intro b o eo;have f:=Yd eo;refine⟨fun z=>?_,fun z=>?_⟩
  .have e:b=s.heap.objs.size:=by simpa using z
   exact absurd e (Yr f)
  .dsimp only at z;rw[XD]at z;exact absurd z (Yr (Xu f))
 .intro v h' tk y hk;have kept:∀b o,s.heap.get? b=some o->h'.get? b=some o:=fun b o eo=>by
   have f:=Yd eo;refine hk b o ?_ ?_ (Y7 _ (Y7 _ eo))
   .intro z;have e:b=s.heap.objs.size:=by simpa using z
    exact absurd e (Yr f)
   .intro z;dsimp only at z;rw[XD]at z;exact absurd z (Yr (Xu f))
  obtain⟨b1,b2⟩:=rD (n:=a.toArray.size - 1) (O:=Gf) (fun i=>c.getD i (0,0,"",""));obtain⟨m,em⟩:∃m,m=argBest (fun i j=>JR (c.getD i (0,0,"","")) (c.getD j (0,0,"",""))) (a.toArray.size - 1):=⟨_,rfl⟩;have b1:m <=a.toArray.size - 1:=by rw[em];exact b1
  have b2:∀i,i <=a.toArray.size - 1->JR (c.getD i (0,0,"","")) (c.getD m (0,0,"",""))=false:=by rw[em];exact b2
  rw[<-em]at y;have y:a[m]?=some v:=by simpa using y
  have hm:m < a.length:=by lia
  have ez:zs[m]?=some (zs[m]'(by lia)):=Y4 (by lia);obtain⟨u,hu',ru⟩:=rv.get (i:=m) (x:=_) ez;rw[y]at hu';cases hu';have cm:c[m]?=some (c.getD m (0,0,"","")):=by rw[Y4 (by lia)];simp[show m < c.length by lia]
  refine⟨_,H,I.kept (t':=tk) kept,ru,q m _ _ ez cm fun q' hq'=>?_⟩;obtain⟨i,hi,rfl⟩:=Xg.mp hq';have:=b2 i (by lia);rwa [show c.getD i (0,0,"","")=c[i] by simp[hi]]at this
end
end L2
namespace HT
open PySem PyProof.Rows
end HT
namespace L2
open PySem PySem.Spec PyProof.Rows PySem.W
end L2
namespace L2
open PySem PySem.Spec PyProof.Rows
theorem Eh{us:WZ}{n:Nat}(h:us.length=n+ 1):∃a r,us=a::r/\r.length=n:=by
 cases us with
 |nil=>cases h
 |cons a r=>exact⟨a,r,rfl,Nat.succ.inj h⟩
theorem Sk{us:WZ}(h:us.length=1):∃a,us=[a]:=by
 obtain⟨a,r,e,g⟩:=Eh h;rw[XY g]at e;exact⟨a,e⟩
theorem QB{us:WZ}(h:us.length=2):∃a a1,us=[a,a1]:=by
 obtain⟨a,r,e,g⟩:=Eh h;obtain⟨a1,z⟩:=Sk g;rw[z]at e;exact⟨_,_,e⟩
theorem P3{us:WZ}(h:us.length=3):∃a a1 a2,us=[a,a1,a2]:=by
 obtain⟨a,r,e,g⟩:=Eh h;obtain⟨a1,a2,z⟩:=QB g;rw[z]at e;exact⟨_,_,_,e⟩
theorem S6{us:WZ}(h:us.length=4):∃a a1 a2 a3,us=[a,a1,a2,a3]:=by
 obtain⟨a,r,e,g⟩:=Eh h;obtain⟨a1,a2,a3,z⟩:=P3 g;rw[z]at e;exact⟨_,_,_,_,e⟩
theorem HD{us:WZ}(h:us.length=5):∃a a1 a2 a3 a4,us=[a,a1,a2,a3,a4]:=by
 obtain⟨a,r,e,g⟩:=Eh h;obtain⟨a1,a2,a3,a4,z⟩:=S6 g;rw[z]at e;exact⟨_,_,_,_,_,e⟩
theorem L3{us:WZ}(h:us.length=6):∃a a1 a2 a3 a4 a5,us=[a,a1,a2,a3,a4,a5]:=by
 obtain⟨a,r,e,g⟩:=Eh h;obtain⟨a1,a2,a3,a4,a5,z⟩:=HD g;rw[z]at e;exact⟨_,_,_,_,_,_,e⟩
theorem Ip{us:WZ}(h:us.length=7):∃a a1 a2 a3 a4 a5 a6,us=[a,a1,a2,a3,a4,a5,a6]:=by
 obtain⟨a,r,e,g⟩:=Eh h;obtain⟨a1,a2,a3,a4,a5,a6,z⟩:=L3 g;rw[z]at e;exact⟨_,_,_,_,_,_,_,e⟩
theorem mK{us:WZ}(h:us.length=8):∃a a1 a2 a3 a4 a5 a6 a7,us=[a,a1,a2,a3,a4,a5,a6,a7]:=by
 obtain⟨a,r,e,g⟩:=Eh h;obtain⟨a1,a2,a3,a4,a5,a6,a7,z⟩:=Ip g;rw[z]at e;exact⟨_,_,_,_,_,_,_,_,e⟩
structure DV(P:WP)(w:WU)(K:WV)(mg:WL)(base:J6):Prop where
 of:∀{n:Str} {v:WW},W.nsIn K mainGlobals n=some (some v)->mg n=some v
 no:∀{n:Str},W.nsIn K mainGlobals n=some none->mg n=none
def FF(K:WV)(n q:Str)(st:Stmt)(f:WX):Prop:=∃ (oc:WW) (od:Option Addr) (kV dc pm:WW) (an:Option Addr) (cd ct:WW) (sl:Array (Option Value)),
 K.lookup f=some ⟨oc,od,.func (W.fnOf n q (Dl st) (Jv st) (J8 st) .none kV dc pm an cd ct),sl⟩/\W.codeIn K cd q=true/\W.keepIn K (.ref f)=true
def GF(K:WV)(n:Str)(st:Stmt)(f:WX):Prop:=W.nsIn K mainGlobals n=some (some (.ref f))/\FF K n n st f
def MF(K:WV)(C:WX)(m q:Str)(st:Stmt)(f:WX):Prop:=W.findIn K (.ref C) m=some (some (.ref f))/\W.isFn K (.ref f)=true/\FF K m q st f
def DF(K:WV)(C:WX)(q:Str)(st:Stmt)(f T:WX):Prop:=W.findIn K (.ref C) "__init__"=some (some (.ref f))/\W.isFn K (.ref f)=true/\∃ (oc:WW) (od:Option Addr) (kV dc pm:WW) (an:Option Addr) (cd ct:WW) (sl:Array (Option Value)),
 K.lookup f=some ⟨oc,od,.func (W.fnOf "__init__" q (Dl st) (Jv st) (J8 st) (.ref T) kV dc pm an cd ct),sl⟩/\W.codeIn K cd q=true/\∃ (oT:Option Addr) (nT:Nat) (sT:Array (Option Value)),K.lookup T=some ⟨.type "tuple",oT,.seq #[.bool false] nT,sT⟩
def CF(K:WV)(n:Str)(C:WX):Prop:=W.nsIn K mainGlobals n=some (some (.ref C))/\D4 K C/\W.makesIn K C=true/\W.keepIn K (.ref C)=true/\Bx K C
def NA(K:WV)(C:WX):List Str->Prop
 |[]=>True
 |x::r=>W.findIn K (.ref C) x=some none/\NA K C r
def NS(K:WV):List Str->Prop
 |[]=>True
 |x::r=>W.nsIn K mainGlobals x=some none/\NS K r
section
variable{P:WP}{w:WU}{K:WV}{mg:WL}{base:J6}{n q m:Str}{st:Stmt}{f C:WX}{k:Nat}{ps:List Str}{sp:Sp}
theorem FF.fn(h:FF K n q st f):∃fd,Nx K n q st f fd/\W.keepIn K (.ref f)=true:=by
 obtain⟨g,e,kV,i,b,p,j,ct,a,l,c,kp⟩:=h;exact⟨_,K2 l c kp,kp⟩
theorem DV.fb(E:DV P w K mg base)(g:GF K n st f)(h:∀{fd},Nx K n n st f fd->Jj P w K mg base JZ k f fd ps sp)
  (hb:∀ (kV doc pm:WW) (an:Option Addr) (cdv ct:WW) (us:WZ),us.length=ps.length->bindArgs (W.fnOf n n (Dl st) (Jv st) (J8 st) .none kV doc pm an cdv ct) ⟨us,[]⟩=pure (ps.zip us)):Tk P w K mg base n k ps [] sp:=by
 obtain⟨fd,F,kp⟩:=g.2.fn;exact⟨f,fd,[],h F,E.of g.1,kp,F.binds hb,.nil⟩
theorem DV.mb(E:DV P w K mg base){cn:Str}(c:CF K cn C)(g:MF K C m q st f)(h:∀{fd},Nx K m q st f fd->Jj P w K mg base JZ k f fd ps sp)
  (hb:∀ (kV doc pm:WW) (an:Option Addr) (cdv ct:WW) (us:WZ),us.length=ps.length->bindArgs (W.fnOf m q (Dl st) (Jv st) (J8 st) .none kV doc pm an cdv ct) ⟨us,[]⟩=pure (ps.zip us)):T9 P w K mg base C m k ps [] sp:=by
 obtain⟨fd,F,kp⟩:=g.2.2.fn;exact⟨f,fd,[],h F,c.2.1,⟨g.1,g.2.1,kp⟩,F.binds hb,.nil⟩
theorem DV.kb(E:DV P w K mg base){cn:Str}(c:CF K cn C)(g:MF K C "__init__" q st f)
  (h:∀{fd},(∃ (oc:WW) (od:Option Addr) (dV kV doc pm:WW) (an:Option Addr) (cdv ct:WW) (osl:Array (Option Value)),fd=W.fnOf "__init__" q (Dl st) (Jv st) (J8 st) dV kV doc pm an cdv ct/\K.lookup f=some ⟨oc,od,.func fd,osl⟩/\W.codeIn K cdv q=true)->Jj P w K mg base JZ k f fd ps sp)
  (hb:∀ (kV doc pm:WW) (an:Option Addr) (cdv ct:WW) (us:WZ),us.length=ps.length->bindArgs (W.fnOf "__init__" q (Dl st) (Jv st) (J8 st) .none kV doc pm an cdv ct) ⟨us,[]⟩=pure (ps.zip us)):GJ P w K mg base cn C k ps [] sp:=by
 obtain⟨oc,od,kV,e,pm,an,i,ct,b,l,a,kp⟩:=g.2.2;exact⟨f,_,[],h ⟨oc,od,.none,kV,e,pm,an,i,ct,b,rfl,l,a⟩,E.of c.1,⟨c.2.2.1,g.1,g.2.1,c.2.2.2.1⟩,(K2 l a kp).binds hb,.nil⟩
end
section
variable{X:Cx}{K:WV}
def vR(i j:Int):Prop:=0 < j/\j < 1267650600228229401496703205376
theorem cG:Nd X (binaryOp .FloorDiv) (rI vR fun i j=>.int (i / j)):=BY fun i j _ _ _ _ _ a q=>by
 have h1:(0:Int) < j:=a.1;have h2:j < 1267650600228229401496703205376:=a.2;refine floordiv_int (by omega) (by rw[VQ i (by omega)];exact q) (.inl (PyProof.noPylong_of_log2 ?_));have:j.natAbs.log2 < 100:=(Nat.log2_lt (by omega)).mpr (by omega);omega
end
structure SL(mg:WL):Prop where
 bdict:mg "dict"=none
end L2
namespace L2
open PySem PySem.Spec PyProof.Rows PySem.W
section
variable{O:KeyOrd}{key:Nat->O.α}
def Pc(O:KeyOrd)(key:Nat->O.α)(i j:Nat):Prop:=if i < j then O.blt (key j) (key i)=false else O.blt (key i) (key j)=true
end
section
variable{prog:WP}{w:WU}{A:WT}{E:WM}{s:WQ}{O:KeyOrd}{key:Nat->O.α}{κ:SortKind}{it:Nat->Keyed}{N:Nat}
structure jF(κ:SortKind)(it:Nat->Keyed)(l:List Nat)(st:SortSt):Prop where
 kind:kindOf st=κ
 ok:failedOf st=none
 arr:arrOf st=(l.map it).toArray
variable{lt:Nat->Nat->Bool}
end
end L2
namespace L2
open PySem PySem.Spec PyProof.Rows
end L2
namespace L2
open PySem PySem.Spec PyProof.Rows PySem.W
end L2
namespace L2
open PySem PySem.Spec PyProof.Rows
def uN(lo hi:Int)(r:WX):Heap->Prop:=fun h=>∃t u v,IsRange h r lo hi 1 t u v
def Ci(lo hi:Int)(r:WX):HO:=.ext (uN lo hi r)
end L2
namespace L2
open PySem PySem.Spec PyProof.Rows PySem.W
def EX:KeyOrd where
 α:=Int
 blt a b:=decide (a < b)
 irrefl a:=by simp
 trans a b c:=by simp;lia
 negTrans a b c:=by simp;lia
 total a b:=by simp;lia
section
variable{prog:WP}{w:WU}
theorem rS{vs:WZ}{c:WY}{h:J6}(hp:∀ (i:Nat) v p,vs[i]?=some v->c[i]?=some p->∃t,v= .int p t)(hl:vs.length=c.length):Es prog w h EX (fun i=>c.getD i 0) oneType' vs where
 kind A s Q hk h2 hQ:=by
  have hall:∀v,v∈vs->∃n t,v=Value.int n t:=fun v a=>by
   obtain⟨i,hi⟩:=List.mem_iff_getElem?.mp a;have x:=(Ym.mp hi).1;obtain⟨t,e⟩:=hp i v _ hi (Y4 (by lia));exact⟨_,t,e⟩
  match vs,h2,hall with
  |v₁::v₂::rest,_,hall=>rw[keyKind_ints (intsAre_map _ hall)];exact Y2 hQ
 cmp A s i j C hu hk hi hj hC:=by
  have f:vs[i]?=some (vs.getD i Value.none):=by rw[Y4 hi];simp[hi]
  have b:vs[j]?=some (vs.getD j Value.none):=by rw[Y4 hj];simp[hj]
  have r:c[i]?=some (c.getD i 0):=by rw[Y4 (by lia)];simp[show i < c.length by lia]
  have q:c[j]?=some (c.getD j 0):=by rw[Y4 (by lia)];simp[show j < c.length by lia]
  obtain⟨t,e⟩:=hp i _ _ f r;obtain⟨u,g⟩:=hp j _ _ b q;unfold kas_ask;rw[e,g,keyLt'_oneType];exact oneLt_int hC
end
abbrev Df(w:WU):Bool:=w.params.followText "set-order"
def Gm(w:WU):Obj:={cls:=.type "set",data:=.set #[] 0 (SetTable.fresh 0 0 (!Df w))}
theorem vO:entryFor table "set.__iter__"=some Builtin.«frozenset.__iter__»:=entryFor_alias (id':="frozenset.__iter__") (by kernel_rfl) rfl (by kernel_rfl) (by kernel_rfl)
theorem FH:entryFor table "set_iterator.__next__"=some Builtin.«set_iterator.__next__»:=entryFor_of_tree (by kernel_rfl)
section
variable{prog:WP}{w:WU}{A:WT}{E:WM}{s:WQ}
theorem rB(a:WW){Q₁:WM}(h:Q₁ (.ref s.heap.objs.size) {s with heap:=s.heap.push (Gm w)}):
  codeAny (model prog w) A (Code.call (.builtin "set.__new__") ⟨[.type "set",a],[]⟩) (wants Q₁ E) s:=by
 refine Wc (Y0 (Uy (F.newCall_set_1 a) (Y2 ⟨XC F.plain_set_new _,Xp F.entry_set_new ?_⟩)));rw[Xj F.plain_set_new];refine Y0 (Y0 (Y2 (Yy (by rfl) (Y0 (Uy sub_set_self (Yy (by rfl) (Y2 ?_)))))));refine Y0 ?_;unfold newSet;refine Y0 ?_;unfold setsByText;refine Y0 (Uo (Y2 ?_));refine YO (Y2 ?_);exact h
theorem aG{R:Result->Shared->Prop}{S I l:WX}{items:Array Value}{h₀:J6}{U:Nat}(hh:A.in1.handled=none)(hIl:l≠I)(hSI:S≠I)(hSl:S≠l)(h0S:h₀.objs.size <=S)(h0I:h₀.objs.size <=I)(hU:A.in1.units <=U)(J:Nat->Obj->Prop)
  (hs : ∀ (i : Nat) (v : Value) (o : Obj) (s' : Shared) (A' : Around) (E' : Value -> Shared -> Prop) (Q' : Bool -> Shared -> Prop), items[i]? = some v -> J i o -> s'.heap.get? S = some o -> (∀ b o, h₀.get? b = some o -> s'.heap.get? b = some o) -> A'.units <= U ->
   (∀ (b : Bool) (o' : Obj) (h' : Heap) (tk : Nat), J (i + 1) o' -> Heap.SameBut S s'.heap h' -> h'.get? S = some o' -> Q' b { s' with heap := h', toks := tk }) -> wpAny (model prog w) A' (setAdd S v) Q' E' s') :
  ∀ (k i:Nat) (s:WQ),items.size - i=k->i <=items.size->s.heap.IsListIter I l i->s.heap.IsList l items->∀o,J i o->s.heap.get? S=some o->(∀b o,h₀.get? b=some o->s.heap.get? b=some o)->
   (∀ (o:Obj) (h':J6) (tk:Nat),J items.size o->h'.get? S=some o->(∀b o,h₀.get? b=some o->h'.get? b=some o)->R (.ok (.ret .none)) {s with heap:=h',toks:=tk})->
   codeAny (model prog w) A (Code.builtin "set.update.loop" ⟨[.ref S,.ref I],[]⟩) R s:=by
 have W:=Wx (prog:=prog) (w:=w) hh I l hIl items;intro k
 induction k with
 |zero=>
  intro i s c hi h1 h2 o p n keep q;obtain rfl:i=items.size:=by lia
  refine Xp F.entry_set_update_loop ?_;rw[Xj Va];refine Y0 (W.done s _ _ ⟨h1,h2⟩ fun h' tk c=>Y2 ?_);exact q o h' tk p (c S o (by simp[hSI]) n) fun b o e=>c b o (by have:=Yd e;simp;lia) (keep b o e)
 |succ k ih=>
  intro i s c hi h1 h2 o p n keep q;have g:i < items.size:=by lia
  refine Xp F.entry_set_update_loop ?_;rw[Xj Va];refine Y0 (W.item i s _ _ g ⟨h1,h2⟩ fun v h' tk hv f h=>?_);have x:∀b o,h₀.get? b=some o->h'.get? b=some o:=fun b o e=>h b o (by have:=Yd e;simp;lia) (keep b o e)
  refine Y0 (YK (hs i v o _ _ _ _ hv p (h S o (by simp[hSI]) n) x hU fun bb o' h2' tk2 z a y=>?_));refine Y2 ⟨XC Va _,ih (i+ 1) _ (by lia) g ?_ ?_ o' z y ?_ ?_⟩
  .obtain⟨j,u,r⟩:=f.1;exact⟨j,(a.2 I (Ne.symm hSI)).trans u,r⟩
  .obtain⟨j,u,r⟩:=f.2;exact⟨j,(a.2 l (Ne.symm hSl)).trans u,r⟩
  .exact fun b o e=>(a.2 b (by have:=Yd e;lia)).trans (x b o e)
  .exact q
theorem QC{l:WX}{items:Array Value}{Q:WM}(J:Nat->Obj->Prop)(hh:A.handled=none)(hl:s.heap.IsList l items)(h0:J 0 (Gm w))
  (hs : ∀ (i : Nat) (v : Value) (o : Obj) (s' : Shared) (A' : Around) (E' : Value -> Shared -> Prop) (Q' : Bool -> Shared -> Prop), items[i]? = some v -> J i o -> s'.heap.get? s.heap.objs.size = some o -> (∀ b o, s.heap.get? b = some o -> s'.heap.get? b = some o) -> A'.units <= A.units + 8 ->
   (∀ (b : Bool) (o' : Obj) (h' : Heap) (tk : Nat), J (i + 1) o' -> Heap.SameBut s.heap.objs.size s'.heap h' -> h'.get? s.heap.objs.size = some o' -> Q' b { s' with heap := h', toks := tk }) -> wpAny (model prog w) A' (setAdd s.heap.objs.size v) Q' E' s')
  (hQ:∀ (o:Obj) (h':J6) (tk:Nat),J items.size o->h'.get? s.heap.objs.size=some o->(∀b o,s.heap.get? b=some o->h'.get? b=some o)->Q (.ref s.heap.objs.size) {s with heap:=h',toks:=tk}):
  wpAny (model prog w) A (call (.type "set") [.ref l]) Q E s:=by
 obtain⟨c,tl,hmro⟩:=U8.mro;have hmade:=U8.made;have hsub:=U8.sub;refine Wv (Wc ?_);show wpAny _ _ (callAny (.type "set") _) _ _ _;refine Y2 ⟨Code.quiet_builtin _ (by decide +kernel),Xp F.entry_type_call ?_⟩;rw[Around.under_plain (weight_type_call_type "set" [Value.ref l] []) rfl];have h1:=U8.notType;have h2:=U8.canCreate;have hct:=F.typeCall_set_1 (Value.ref l)
 repeat (any_goals (first|assumption|wp_step))
 refine Ui (rB (E:=E) (Q₁:=fun obj n=>obj= .ref s.heap.objs.size/\n={s with heap:=s.heap.push (Gm w)}) (.ref l) ⟨rfl,rfl⟩) fun r n p=>?_
 cases r with
 |error e=>exact p
 |ok fl=>
  cases fl with
  |ret obj=>
   obtain⟨rfl,rfl⟩:=(show obj= .ref s.heap.objs.size/\n={s with heap:=s.heap.push (Gm w)} from p);have hS:=Yc s.heap (o:=Gm w) rfl;have hT:(⟨s.heap.push (Gm w),s.gens,s.drawn,s.toks,s.os⟩:WQ).TypeIs (.ref s.heap.objs.size) "set":=⟨_,hS,rfl⟩
   have hli:=U8.init.lookup;have hbi:=U8.init.bind (.ref s.heap.objs.size)
   repeat (any_goals (first|assumption|wp_step))
   obtain⟨y,g,j,z,h⟩:=hl;have a:(s.heap.push (Gm w)).get? l=some y:=Y7 _ g;have aa:(s.heap.push (Gm w)).IsList l items:=⟨_,a,j,z,h⟩;refine Ui (VC (R:=wants (fun r u=>r= .none/\∃ (o:Obj) (h':J6) (tk:Nat),J items.size o/\h'.get? s.heap.objs.size=some o/\(∀b o,s.heap.get? b=some o->h'.get? b=some o)/\u={s with heap:=h',toks:=tk}) E) U8.init.plain F.entry_set_init (check_set_init_1 hT ?_)) fun r₂ u f=>?_
   .have hsls:=F.sub_list_set;have hslf:=F.sub_list_frozenset;obtain⟨ocls,odict,odata,x⟩:=y;cases j;cases h;unfold Builtin.«set.__init__»
    wp_walk using Xh a,Xt aa
    have q:(s.heap.push (Gm w)).objs.size=s.heap.objs.size+ 1:=size_push' ..;have hlt:l < s.heap.objs.size:=Yd g;have hI:((s.heap.push (Gm w)).push {cls:=.type "list_iterator",data:=.fields #[.ref l,.int 0 0]}).get? (s.heap.push (Gm w)).objs.size=some {cls:=.type "list_iterator",data:=.fields #[.ref l,.int 0 0]}:=Yc _ rfl;refine aG (A:=A.in1.in1) (S:=s.heap.objs.size) (I:=(s.heap.push (Gm w)).objs.size) (l:=l) (items:=items) (h₀:=s.heap) (U:=A.units+ 8) hh (by rw[q];lia) (by rw[q];lia) (by lia) (Y8 _) (by rw[q];lia) (by show A.units+ 1+ 1+ 1 <=_;lia) J hs items.size 0 ⟨(s.heap.push (Gm w)).push {cls:=.type "list_iterator",data:=.fields #[.ref l,.int 0 0]},s.gens,s.drawn,s.toks,s.os⟩ rfl (Ys _) ⟨_,hI,rfl,rfl⟩ ⟨_,Y7 _ a,rfl,z,rfl⟩ (Gm w) h0 (Y7 _ hS) (fun b o e=>by exact Y7 _ (Y7 _ e)) fun o h' tk a1 a2 a3=>?_
    exact Y2 (Y2 ⟨rfl,o,h',tk,a1,a2,a3,rfl⟩)
   .cases r₂ with
    |error e=>exact f
    |ok fl₂=>
     cases fl₂ with
     |ret r=>
      obtain⟨rfl,o,h',tk,j1,j2,j3,rfl⟩:=f
      repeat (any_goals (first|assumption|wp_step))
      exact hQ o h' tk j1 j2 j3
     |_=>exact f.elim
  |_=>exact p.elim
end
abbrev RP(xs:Array Nat):Prop:=xs.toList.Pairwise (· < ·)
theorem F7{xs:Array Nat}(h:RP xs){i k:Nat}(hik:i < k)(hk:k < xs.size)(d:Nat):xs.getD i d < xs.getD k d:=by
 have:=UV.mp h i k (by simpa using (by lia:i < xs.size)) (by simpa using hk) hik;simpa[Array.getD,hk,(by lia:i < xs.size)] using this
theorem xW{xs:Array Nat}(h:RP xs)(j:Nat):∀ (f lo hi:Nat),lo <=hi->hi <=xs.size->hi - lo <=f->(∀i,i < lo->xs.getD i j < j)->(∀i,hi <=i->i < xs.size->j <=xs.getD i j)->
  SetTable.below.go xs j f lo hi <=xs.size/\(∀i,i < SetTable.below.go xs j f lo hi->xs.getD i j < j)/\∀i,SetTable.below.go xs j f lo hi <=i->i < xs.size->j <=xs.getD i j:=by
 intro f
 induction f with
 |zero=>
  intro lo hi h1 h2 g b a;obtain rfl:lo=hi:=by lia
  rw[SetTable.below.go];exact⟨h2,b,a⟩
 |succ f ih=>
  intro lo hi h1 h2 g b a;rw[SetTable.below.go]
  by_cases hl:lo < hi
  .rw[Y6 hl];dsimp only
   by_cases hm:xs.getD ((lo+ hi) / 2) j < j
   .rw[Y6 hm];refine ih _ _ (by lia) h2 (by lia) (fun i c=>?_) a
    by_cases he:i=(lo+ hi) / 2
    .rw[he];exact hm
    .exact WG (F7 h (show i < (lo+ hi) / 2 by lia) (by lia) j) hm
   .rw[Y5 hm];refine ih _ _ (by lia) (by lia) (by lia) b fun i c e=>?_
    by_cases he:i=(lo+ hi) / 2
    .rw[he];lia
    .have:=F7 h (show(lo+ hi) / 2 < i by lia) e j
     lia
  .rw[Y5 hl];obtain rfl:lo=hi:=by lia
   exact⟨h2,b,a⟩
theorem IT{xs:Array Nat}(h:RP xs)(j:Nat):SetTable.below xs j <=xs.size/\(∀i,i < SetTable.below xs j->xs.getD i j < j)/\∀i,SetTable.below xs j <=i->i < xs.size->j <=xs.getD i j:=
 xW h j xs.size 0 xs.size (Ys _) (Y8 _) (by lia) (fun i hi=>by lia) fun i a b=>by lia
theorem jH{xs:Array Nat}(h:RP xs){j:Nat}(hj:xs[SetTable.below xs j]?≠some j):RP (SetTable.insertAt xs (SetTable.below xs j) j):=by
 obtain⟨s,q,g⟩:=IT h j;unfold RP;rw[SetTable.toList_insertAt];have b:∀i (hi:i < xs.size),xs.getD i j=xs.toList[i]'(by simpa using hi):=fun i hi=>by simp[Array.getD,hi]
 refine List.pairwise_append.mpr ⟨h.sublist (VW ..),List.pairwise_cons.mpr ⟨fun x f=>?_,h.sublist (List.drop_sublist ..)⟩,fun x f y e=>?_⟩
 .obtain⟨i,hi,rfl⟩:=UP f;rw[List.getElem_drop];have a:SetTable.below xs j+ i < xs.size:=by simpa using (by rw[Vk]at hi;lia:SetTable.below xs j+ i < xs.toList.length)
  have:=g (SetTable.below xs j+ i) (by lia) a;rw[b _ a]at this
  by_cases h0:i=0
  .subst h0;rw[show SetTable.below xs j+ 0=SetTable.below xs j from rfl]at a;have r:xs[SetTable.below xs j]≠j:=fun z=>hj (by rw[Yz a,z])
   simp at this ⊢
   lia
  .have h1:=F7 h (show SetTable.below xs j < SetTable.below xs j+ i by lia) a j;have h2:=g (SetTable.below xs j) (Y8 _) (by lia);rw[b _ a]at h1
   lia
 .obtain⟨i,hi,rfl⟩:=UP f;rw[Yt]at hi;have a:i < xs.size:=by simpa using (by lia:i < xs.toList.length)
  have h1:=q i (by lia);rw[b _ a]at h1;have p:(xs.toList.take (SetTable.below xs j))[i]'(by rw[Yt];exact hi)=xs.toList[i]'(by simpa using a):=List.getElem_take ..;rw[p];rcases Yo.mp e with rfl|e
  .exact h1
  .obtain⟨k,n,rfl⟩:=UP e;rw[List.getElem_drop];have c:SetTable.below xs j+ k < xs.size:=by simpa using (by rw[Vk]at n;lia:SetTable.below xs j+ k < xs.toList.length)
   have h2:=g (SetTable.below xs j+ k) (by lia) c;rw[b _ c]at h2
   lia
structure JG(w:WU)(t:SetTable):Prop where
 led:t.led= !Df w
 dum:t.dummies=#[]
 ris:RP t.place
theorem Fx(j:Nat):SetTable.has #[] j=false:=rfl
theorem nY{t:SetTable}{j:Nat}(h:t.slot j= .empty):t.place[SetTable.below t.place j]?≠some j:=by
 unfold SetTable.slot at h;dsimp only at h;intro z;rw[Y6 (by rw[z];exact Vl _)]at h;cases h
theorem mS{t:SetTable}(hd:t.dummies=#[]){ha:Nat->Int}{h:Int}:∀ (f:Nat) (p:SetTable.Probe) (j:Nat) (d:Option Nat),p.dummy=none->SetTable.probe.go t ha h f p=some (.empty j d)->d=none/\t.slot j= .empty:=by
 intro f
 induction f with
 |zero=>intro p j d a h;rw[SetTable.probe.go]at h;cases h
 |succ f ih=>
  intro p j d a h;rw[SetTable.probe.go]at h;have ha:∀q:SetTable.Probe,q.dummy=none->(t.advance q).dummy=none:=fun q b=>by
   unfold SetTable.advance;split <;> first|exact b|(split;exact b)
  cases hs:t.slot p.j with
  |empty=>rw[hs]at h;cases h;exact⟨a,hs⟩
  |dummy=>
   exfalso
   unfold SetTable.slot at hs;dsimp only at hs;rw[hd]at hs
   split at hs
   .cases hs
   .rw[Y5 (by rw[Fx];exact Yj)]at hs;cases hs
  |live i=>
   rw[hs]at h;dsimp only at h
   split at h
   .cases h
   .exact ih _ _ _ (ha p a) h
theorem JG.put{w:WU}{t:SetTable}(T:JG w t){j:Nat}(hj:t.slot j= .empty):JG w (t.put j).1:=by
 refine⟨T.led,?_,jH T.ris (nY hj)⟩;show(if SetTable.has t.dummies j=true then _ else t.dummies)=#[];rw[T.dum,Y5 (by rw[Fx];exact Yj)]
theorem JG.standIn{w:WU}{t:SetTable}(T:JG w t)(n:Nat):JG w (t.standIn n):=by
 refine⟨T.led,rfl,?_⟩;show(Array.range n).toList.Pairwise (· < ·);rw[Array.toList_range];exact Wm
theorem JG.orStandIn{w:WU}{t:SetTable}(T:JG w t)(n:Nat):JG w (t.orStandIn n):=by
 unfold SetTable.orStandIn;split
 .exact T
 .exact T.standIn n
theorem JG.new{w:WU}{t:SetTable}(T:JG w t)(es:Array (Int×Value))(h:Int)(x:WW):JG w (layNew t es h x).2.1:=by
 unfold layNew;cases hf:t.freeSlot h with
 |none=>exact T.standIn _
 |some z=>
  obtain⟨a,c⟩:=z;refine JG.orStandIn (T.put ?_) _;unfold SetTable.freeSlot at hf
  split at hf
  .rename_i j d hp
   obtain⟨rfl,b⟩:=mS T.dum _ _ _ _ rfl hp;cases hf;exact b
  .cases hf
theorem JG.laid{w:WU}{t:SetTable}(T:JG w t){hs:Array Int}{n:Nat}{t':SetTable}{o:Array Nat}(h:t.relaid hs n=some (t',o)):JG w t':=by
 unfold SetTable.relaid SetTable.laid at h;obtain⟨g,_,h⟩:=Option.bind_eq_some_iff.mp h;cases h;refine⟨T.led,rfl,?_⟩;show List.Pairwise _ _;simp only[UQ];refine Vd.mpr (List.Pairwise.filterMap _ (R:=(· < ·)) (fun a j e b f i c=>?_) Wm);obtain⟨_,_,rfl⟩:=Ye.mp f;obtain⟨_,_,rfl⟩:=Ye.mp c;exact e
theorem JG.relay{w:WU}{t:SetTable}(T:JG w t)(es:Array (Int×Value))(n:Nat):JG w (relayAll t es n).2.1:=by
 unfold relayAll;cases hr:t.relaid (Array.map (fun x=>x.fst) es) n with
 |none=>exact T.standIn _
 |some z=>
  obtain⟨a,o⟩:=z;dsimp only
  split
  .exact T.laid hr
  .exact T.standIn _
theorem JG.plain{w:WU}{t:SetTable}(T:JG w t)(b:Bool):JG w (if b=true then t else {t with plain:=false}):=by
 split
 .exact T
 .exact⟨T.led,T.dum,T.ris⟩
def EN(e:Int×Value):Int:=match e.2 with| .int n _=>n|_=>0
def DD(w:WU)(o:Obj)(m:WY):Prop:=∃es ep t,o.ExactSet/\o.data= .set es ep t/\(∀P,ElemsOf (intKind P w) es.toList)/\(es.toList.map EN).Perm m/\m.Nodup/\t.fits es.size=true/\JG w t
section
variable{prog:WP}{w:WU}{A:WT}{E:WM}{s:WQ}
theorem KI{k:Int}{v:WW}(h:(intKind prog w).is k v=true):∃t,v= .int k t:=by
 cases v with
 |int i t=>exact⟨t,by have:i=k:=Xe h;rw[this]⟩
 |_=>cases h
theorem C0{o:Obj}{es:Array (Int×Value)}{ep:Nat}{t:SetTable}(hx:o.ExactSet):({cls:=o.cls,dict:=o.dict,data:=.set es ep t,slots:=o.slots}:Obj).isFreed=false:=by
 obtain⟨c,b,e,a⟩:=o;obtain⟨rfl,rfl,rfl⟩:=hx;rfl
theorem aK{o:Obj}{es es1:Array (Int×Value)}{t1:SetTable}{m:WY}{n:Int}{tk:Tok}{ep':Nat}(hx:o.ExactSet)(he:∀P,ElemsOf (intKind P w) es.toList)(hp:(es.toList.map EN).Perm m)(hnd:m.Nodup)(hout:n∉m)(p1:es1.toList.Perm (es.push ((intKind prog w).hash n,Value.int n tk)).toList)(f1:t1.fits es1.size=true)(T1:JG w t1):
  DD w {cls:=o.cls,dict:=o.dict,data:=Data.set es1 ep' t1,slots:=o.slots} (m++[n]):=by
 refine⟨es1,ep',t1,hx,rfl,fun P e h=>?_,?_,?_,f1,T1⟩
 .have h:=p1.mem_iff.mp h;rw[Ve,Yp,Yb]at h;rcases h with h|rfl
  .exact he P e h
  .exact⟨⟨n,Wz ..,rfl⟩,rfl⟩
 .have:=p1.map EN;rw[Ve,List.map_append]at this;exact this.trans (hp.append_right _)
 .exact Xd.mpr ⟨hnd,by simp,fun a f b c=>by rw[Yb]at c;subst c;exact fun z=>hout (z▸f)⟩
theorem Sv{S:WX}{o:Obj}{es es1:Array (Int×Value)}{ep:Nat}{t t2:SetTable}{wd:Bool}{g:Bool->Sem Unit}(hg:∀ (b:Bool) (s₁:WQ) (Q':WN),Q' () s₁->wpAny (model prog w) A (g b) Q' E s₁){R:Option Bool->Shared->Prop}(ho:s.heap.get? S=some o)(hx:o.ExactSet)(hd:o.data= .set es ep t)(hz:es1.size <=5000)(f2:t2.fits es1.size=true)(T2:JG w t2)
  (hR:∀ (es':Array (Int×Value)) (t':SetTable) (ep':Nat) (h':J6),es'.toList.Perm es1.toList->t'.fits es'.size=true->JG w t'->Heap.SameBut S s.heap h'->h'.get? S=some {cls:=o.cls,dict:=o.dict,data:=Data.set es' ep' t',slots:=o.slots}->R (some true) {s with heap:=h'}):
  wpAny (model prog w) A (do
   storeSet S es1 t2
   if(!wd && t2.tooFull)=true then do
     g (relayAll t2 es1 (SetTable.grown es1.size)).2.2
     storeSet S (relayAll t2 es1 (SetTable.grown es1.size)).1 (relayAll t2 es1 (SetTable.grown es1.size)).2.1
     pure (some true)
    else pure (some true)) R E s := by
 have f:∀n:Nat,n <=5000->n <=sizeLine:=fun n h=>by rw[YT];lia
 refine Y0 (Vf ho hd ?_ (f _ hz));have e:(s.heap.update S (Obj.putSet es1 t2)).get? S=some {cls:=o.cls,dict:=o.dict,data:=Data.set es1 (ep+ 1) t2,slots:=o.slots}:=by
  have q:=putSet_of es1 t2 hd;rw[YB _ ho (by rw[q];exact C0 hx),q]
 have i:Heap.SameBut S s.heap (s.heap.update S (Obj.putSet es1 t2)):=⟨YW ..,fun b a=>YX _ _ _ _ a⟩
 by_cases hc:(!wd && t2.tooFull)=true
 .rw[Y6 hc];refine Y0 (hg _ _ _ (Y0 (Vf e rfl (Y2 ?_) ?_)))
  .have c:=relayAll_perm t2 es1 (SetTable.grown es1.size);refine hR _ _ (ep+ 2) _ c (relayAll_fits ..) (T2.relay ..) ⟨?_,fun b a=>?_⟩ ?_
   .rw[YW,YW]
   .rw[YX _ _ _ _ a];exact i.2 b a
   .have q:=putSet_of (o:={cls:=o.cls,dict:=o.dict,data:=Data.set es1 (ep+ 1) t2,slots:=o.slots}) (relayAll t2 es1 (SetTable.grown es1.size)).1 (relayAll t2 es1 (SetTable.grown es1.size)).2.1 rfl;rw[YB _ e (by rw[q];exact C0 hx),q]
  .have c:=(relayAll_perm t2 es1 (SetTable.grown es1.size)).length_eq;simp only[Array.length_toList]at c;exact f _ (by lia)
 .rw[Y5 hc];exact Y2 (hR _ _ _ _ (V9 _) f2 T2 i e)
theorem P8{S:WX}{o:Obj}{m:WY}{n:Int}{tk:Tok}{Q:Bool->Shared->Prop}(hS:DD w o m)(hb:m.length+ 1 < scanBound)(ho:s.heap.get? S=some o)
  (hQ:∀ (b:Bool) (o':Obj) (h':J6) (tk':Nat),DD w o' (if n∈m then m else m++[n])->Heap.SameBut S s.heap h'->h'.get? S=some o'->Q b {s with heap:=h',toks:=tk'}):
  wpAny (model prog w) A (setAdd S (.int n tk)) Q E s:=by
 obtain⟨es,ep,t,hx,hd,y,hp,hnd,hf,T⟩:=hS;have hsz:es.size=m.length:=by rw[<-Array.length_toList,<-hp.length_eq,Y1]
 have x:(∃e∈es.toList,(intKind prog w).is n e.2=true)↔n∈m:=by
  rw[<-hp.mem_iff,Y3];constructor
  .rintro⟨e,h1,h2⟩;obtain⟨t,h3⟩:=KI h2;exact⟨e,h1,by unfold EN;rw[h3]⟩
  .rintro⟨e,h1,h2⟩;obtain⟨⟨k,h3,_⟩,_⟩:=y prog e h1;obtain⟨t,h4⟩:=KI h3;unfold EN at h2;rw[h4]at h2;refine⟨e,h1,?_⟩;rw[h4,<-h2];exact Wz ..
 unfold setAdd;refine YK (Y0 ((intKind prog w).pyHash (k:=n) (Wz ..) ?_));unfold setAddHashed;refine YK ?_;show wpAny _ _ (setAddHashedIn S (.int n tk) ((intKind prog w).hash n) (99999+ 1)) _ _ _;unfold setAddHashedIn;refine Y0 (YL ho hd hf ?_);dsimp only;rw[Y6 (byScan_of (knd:=intKind prog w) rfl (by lia) (y prog))];refine Y0 ?_;unfold setAddByScan;refine Y0 (UJ (Y0 (wpAny_setScan_of (knd:=intKind prog w) (k:=n) (Wz ..) ho hd hf (y prog) ?_)));cases hfi:List.findIdx? (fun e=>(intKind prog w).is n e.2) es.toList with
 |some j=>
  have hin : n ∈ m := x.mp (by
   rw [List.findIdx?_eq_some_iff_getElem] at hfi;obtain ⟨hj, h1, _⟩ := hfi;exact ⟨_, Xk hj, h1⟩)
  refine Y2 (Y2 (hQ false o s.heap _ ?_ ⟨rfl,fun _ _=>rfl⟩ ho));rw[Y6 hin];exact⟨es,ep,t,hx,hd,y,hp,hnd,hf,T⟩
 |none=>
  have u:n∉m:=fun z=>by
   obtain⟨e,h1,h2⟩:=x.mpr z;rw[List.findIdx?_eq_none_iff]at hfi;rw[hfi e h1]at h2;cases h2
  rw[Y5 u]at hQ;have T1:=T.new es ((intKind prog w).hash n) (.int n tk);have f1:=layNew_fits t es ((intKind prog w).hash n) (.int n tk);have p1:=layNew_perm t es ((intKind prog w).hash n) (.int n tk);dsimp only;generalize layNew t es ((intKind prog w).hash n) (.int n tk)=z at T1 f1 p1 ⊢;obtain⟨es1,t1,wd,gv⟩:=z;dsimp only at T1 f1 p1 ⊢;have gw:∀ (b:Bool) (s₁:WQ) (Q':WN),Q' () s₁->wpAny (model prog w) A (match b with|true=>rule "set.scan.the-table-gave-way"|false=>pure ()) Q' E s₁:=fun b s₁ Q' h=>by
   cases b
   .exact Y2 h
   .exact UJ h
  have hz1:es1.size=m.length+ 1:=by
   have:=p1.length_eq;simp only[Array.length_toList,Array.size_push]at this
   lia
  have fin:∀ (a:Array (Int×Value)) (f:SetTable) (c:Nat) (h':J6) (tk':Nat),a.toList.Perm es1.toList->f.fits a.size=true->JG w f->Heap.SameBut S s.heap h'->h'.get? S=some {cls:=o.cls,dict:=o.dict,data:=Data.set a c f,slots:=o.slots}->Q true {s with heap:=h',toks:=tk'}:=fun a f c h' tk' r q p i g=>hQ true _ h' tk' (aK hx y hp hnd u (r.trans p1) q p) i g
  refine Y0 (gw gv _ _ ?_)
  by_cases hpl:t1.plain=true
  .rw[Y6 hpl];refine Y0 (Y2 ?_);exact Sv (s:={s with toks:=s.toks+ 1}) (t2:=t1) gw ho hx hd (by have:scanBound=4096:=rfl;lia) f1 T1 fun a f c h' r q p i g=>Y2 (fin a f c h' _ r q p i g)
  .rw[Y5 hpl];refine Y0 (Y2 ?_);exact Sv (s:={s with toks:=s.toks+ 1}) (t2:=t1) gw ho hx hd (by have:scanBound=4096:=rfl;lia) f1 T1 fun a f c h' r q p i g=>Y2 (fin a f c h' _ r q p i g)
end
theorem Jl:Slot "set_iterator" (Str.ofString "__next__") "set_iterator.__next__":=by
 refine Slot.of (owner:="set_iterator") (n:="__next__") (by rw[typeLookup_type,builtinLookup_eq_fast];kernel_rfl) (by kernel_rfl) (by kernel_rfl) (by kernel_rfl) (Or.inl (by kernel_rfl)) (by rw[isSubtype_type];kernel_rfl) (by kernel_rfl)
theorem Ch(a:WW):argsOk "set_iterator.__next__" ⟨[a],[]⟩:=by
 unfold argsOk
 first|kernel_rfl|(rw[signature?_of (id':="set_iterator.__next__") (by kernel_rfl)];kernel_rfl)|trace_state
def Mt(f:WW)(i:Nat)(S:WX)(n ep:Nat):Obj:={cls:=.type "set_iterator",data:=.fields #[f,.int i 0,.ref S,.int n 0,.int ep 0]}
section
variable{prog:WP}{w:WU}{A:WT}{E:WM}{s:WQ}{S I:WX}{o:Obj}{es:Array (Int×Value)}{ep i:Nat}{t:SetTable}{f:WW}
theorem Sl{Q:Bool->Shared->Prop}(hT:s.TypeIs (.ref S) "set")(h:Q false s):wpAny (model prog w) A (Builtin.List.listLengthHint (.ref S)) Q E s:=by
 unfold Builtin.List.listLengthHint;refine Y0 (Wb hT F.slot_set_len.lookup ?_);dsimp only;rw[show splitId "set.__len__"=some ("set","__len__") by kernel_rfl];refine Y0 (Uk hT U8.sub ?_);simp only[Bool.not_true,Bool.false_eq_true,if_false];exact XF (by kernel_rfl) (Y0 (VD hT (Y2 h)))
theorem PF{α:Type}{xs:List α}{k:Nat}(h:k < xs.length):(xs[k]::xs.eraseIdx k).Perm xs:=by
 rw[List.eraseIdx_eq_take_drop_succ];refine List.perm_middle.symm.trans ?_;rw[List.getElem_cons_drop,List.take_append_drop]
theorem xN{α:Type}{Q:List α->Shared->Prop}:∀ (n:Nat) (xs:List α) (s:WQ),xs.length <=n->(∀ys d,ys.Perm xs->Q ys {s with drawn:=d})->wpAny (model prog w) A (drawOrder n xs) Q E s:=by
 intro n
 induction n generalizing Q with
 |zero=>
  intro xs s g c;obtain rfl:xs=[]:=XY (by lia);exact Y2 (c [] s.drawn (V9 _))
 |succ n ih=>
  intro xs s g c;cases xs with
  |nil=>exact Y2 (c [] s.drawn (V9 _))
  |cons x xs=>
   unfold drawOrder;refine Y0 (fun Γ p e=>?_);unfold choose;rw[Sem.wp_choose];refine⟨by simp,?_⟩;have b:(model prog w).w.draws Source.order (s.drawn.get Source.order)%(x::xs).length < (x::xs).length:=Nat.mod_lt _ (by simp);generalize (model prog w).w.draws Source.order (s.drawn.get Source.order)%(x::xs).length=k at b;refine Y2 (M:=model prog w) (A:=A) (a:=k) (Q:=fun i s'=>wpAny (model prog w) A _ Q E s') ?_ Γ p e;rw[Y4 b];refine Y0 (ih _ _ (by rw[VT b];lia) fun ys d f=>Y2 (c _ d ?_));exact(f.cons _).trans (PF b)
theorem nP{Q:WM}(ho:s.heap.get? S=some o)(hx:o.ExactSet)(hd:o.data= .set es ep t)(hf:t.fits es.size=true)(hz:es.size <=5000)
  (hB:Df w=false->(t.plain=false/\1 < es.size)->∀ (ys:List Nat) d,ys.Perm (List.range es.size)->Q (.ref (s.heap.objs.size+ 1)) {s with drawn:=d,heap:=(s.heap.push {cls:=.type "tuple",data:=.seq (ys.map fun i:Nat=>Value.int (i:Int) 0).toArray 0}).push (Mt (.ref s.heap.objs.size) 0 S es.size ep)})
  (hA:(Df w=true\/t.plain=true\/es.size <=1)->Q (.ref s.heap.objs.size) {s with heap:=s.heap.push (Mt (.int 0 0) 0 S es.size ep)}):wpAny (model prog w) A (pyIter (.ref S)) Q E s:=by
 have c:s.TypeIs (.ref S) "set":=⟨o,ho,hx.1⟩
 refine Vc c F.slot_set_iter (YU F.slot_set_iter c vO ?_ (F.args_set_iter_1 _));unfold Builtin.«frozenset.__iter__»;refine Y0 (Y0 (Y2 (Y2 ?_)));refine Y0 (Y0 (Y0 (YL ho hd hf (Y2 (Y2 ?_)))));unfold setDrawn setsByText;refine Y0 (Y0 (YL ho hd hf (Y0 (Y0 (Uo (Y2 (Y2 ?_)))))))
 by_cases hc:(!Df w && (!t.plain && decide (es.size > 1)))=true
 .simp only[X5,XI,Ya]at hc;refine XF (Yh (show(!Df w && (!t.plain && decide (es.size > 1)))=true by simp[hc])) ?_;refine Y0 (xN _ _ _ (by simp) fun ys d a=>?_);refine Y0 (Wr ?_ (by rw[Y1,a.length_eq,YN,YT];dsimp only;lia));have b:(s.heap.push {cls:=.type "tuple",data:=.seq (ys.map fun i:Nat=>rawInt (i:Int)).toArray 0}).get? S=some o:=Y7 _ ho;refine Y0 (Y0 (YL b hd hf (Y2 ?_)));refine Y0 (YO (Y2 ⟨_,rfl,"set_iterator",_,⟨_,Yc _ rfl,rfl⟩,Jl.lookup,?_⟩));have:=hB hc.1 hc.2 ys d a;rw[<-size_push' s.heap {cls:=.type "tuple",data:=.seq (ys.map fun i:Nat=>Value.int (i:Int) 0).toArray 0}]at this;exact this
 .refine Yy (Yk (show ¬(!Df w && (!t.plain && decide (es.size > 1)))=true from hc)) ?_;refine Y0 (Y2 (Y0 (Y0 (YL ho hd hf (Y2 ?_)))));refine Y0 (YO (Y2 ⟨_,rfl,"set_iterator",_,⟨_,Yc _ rfl,rfl⟩,Jl.lookup,?_⟩));refine hA ?_;cases hb:Df w
  .cases a:t.plain
   .refine .inr (.inr ?_);simp[hb,a]at hc;exact hc
   .exact .inr (.inl rfl)
  .exact .inl rfl
theorem jY{h:J6}{f g:WW}{n k:Nat}(hit:h.get? I=some (Mt f i S n ep)):((h.update I (Obj.mapFields (·.setIfInBounds 0 g))).update I (Obj.mapFields (·.setIfInBounds 1 (rawInt (k:Int))))).get? I=some (Mt g k S n ep):=by
 have h1:(h.update I (Obj.mapFields (·.setIfInBounds 0 g))).get? I=some (Mt g i S n ep):=by
  rw[YB _ hit rfl];rfl
 rw[YB _ h1 rfl];rfl
theorem ZZ{h:J6}{f:WW}{n k:Nat}(hit:h.get? I=some (Mt f i S n ep)):(h.update I (Obj.mapFields (·.setIfInBounds 1 (rawInt (k:Int))))).get? I=some (Mt f k S n ep):=by
 rw[YB _ hit rfl];rfl
theorem Sc{Q:Option Value->Shared->Prop}{slot nx:Nat}{x:WW}(hit:s.heap.get? I=some (Mt (.int slot 0) i S es.size ep))(ho:s.heap.get? S=some o)(hd:o.data= .set es ep t)(hf:t.fits es.size=true)
  (hn:∀ (A':WT) (E':WM) (Q':Option (Value×Nat)->Shared->Prop),Q' (some (x,nx)) s->wpAny (model prog w) A' (setNext S slot i ep) Q' E' s)
  (hQ:∀h',h'.get? I=some (Mt (.int nx 0) (i+ 1) S es.size ep)->Heap.SameBut I s.heap h'->Q (some x) {s with heap:=h'}):wpAny (model prog w) A (pyNext (.ref I)) Q E s:=by
 have c:s.TypeIs (.ref I) "set_iterator":=⟨_,hit,rfl⟩
 unfold pyNext;refine Y0 (XS (X0 (name:=Str.ofString "__next__") c Jl (YU Jl c FH ?_ (Ch _))));unfold Builtin.«set_iterator.__next__»;refine Y0 (Y2 (Y0 (U3 hit rfl ?_)));refine(?_:wpAny _ _ (setEntries S >>=_) _ _ _);refine Y0 (Y0 (YL ho hd hf (Y2 ?_)));refine Yy (by simp) ?_;refine Y0 ?_;simp only[X7];refine hn _ _ _ ?_;refine Y0 (XE hit rfl (by simp) ?_);have h1:(s.heap.update I (Obj.mapFields (·.setIfInBounds 0 (rawInt (nx:Int))))).get? I=some (Mt (.int nx 0) i S es.size ep):=by
  rw[YB _ hit rfl];rfl
 refine Y0 (XE h1 rfl (by simp) ?_);refine Y2 ⟨_,rfl,Y2 (hQ _ ?_ ?_)⟩
 .exact jY (g:=.int nx 0) (k:=i+ 1) hit
 .exact⟨by rw[YW,YW],fun b a=>by rw[YX _ _ _ _ a,YX _ _ _ _ a]⟩
theorem Qq{Q:Option Value->Shared->Prop}{slot:Nat}(hh:A.handled=none)(hit:s.heap.get? I=some (Mt (.int slot 0) i S es.size ep))(ho:s.heap.get? S=some o)(hd:o.data= .set es ep t)(hf:t.fits es.size=true)
  (hn:∀ (A':WT) (E':WM) (Q':Option (Value×Nat)->Shared->Prop),Q' none s->wpAny (model prog w) A' (setNext S slot i ep) Q' E' s)
  (hQ:∀h',Heap.ExtBut I s.heap h'->Q none {s with heap:=h'}):wpAny (model prog w) A (pyNext (.ref I)) Q E s:=by
 have c:s.TypeIs (.ref I) "set_iterator":=⟨_,hit,rfl⟩
 unfold pyNext;refine Y0 (XS (X0 (name:=Str.ofString "__next__") c Jl (YU Jl c FH ?_ (Ch _))));unfold Builtin.«set_iterator.__next__»;refine Y0 (Y2 (Y0 (U3 hit rfl ?_)));refine(?_:wpAny _ _ (setEntries S >>=_) _ _ _);refine Y0 (Y0 (YL ho hd hf (Y2 ?_)));refine Yy (by simp) ?_;refine Y0 ?_;simp only[X7];refine hn _ _ _ ?_;refine Y0 (XE hit rfl (by simp) ?_);refine(?_:wpAny _ _ (newExc (.type "StopIteration") [] >>=_) _ _ _);refine Y0 ?_;simp only[newExc,newTuple];refine Y0 (YO (Y0 (m:=firstArgMember _ _) (Uy (a:=Value.none) (by first|rfl|(simp only[firstArgMember];rfl)) (YO ?_ (by size_fits)))) (by size_fits));simp only[raiseNew];refine Y0 (VR ?_);rw[show A.in1.handled=none from hh];refine Y0 (Y2 (Wk ?_));exact Y0 (Uk (T:="StopIteration") (b:=true) ⟨_,Yc _ rfl,rfl⟩ V7 (Y2 (hQ _ (((Xc ..).extBut.push _).push _))))
theorem SS{Q:Option (Value×Nat)->Shared->Prop}{slot:Nat}(hb:Df w=true)(ho:s.heap.get? S=some o)(hd:o.data= .set es ep t)(hf:t.fits es.size=true)(hQ:Q ((pickOrder (w.params.setOrder S ep) es)[i]?.map fun e=>(e.2,slot)) s):wpAny (model prog w) A (setNext S slot i ep) Q E s:=by
 unfold setNext setsByText;refine Y0 (YL ho hd hf (Y0 (Y0 (Uo (Y2 ?_)))));refine XF (Yh (show Df w=true from hb)) ?_;refine Yy (by simp) ?_;unfold setWalk setsByText;refine Y0 (Y0 (YL ho hd hf (Y0 (Y0 (Uo (Y2 ?_))))));refine XF (Yh (show Df w=true from hb)) ?_;exact Y0 (Uo (Y2 (Y2 hQ)))
theorem SX{Q:Option (Value×Nat)->Shared->Prop}{slot:Nat}(hb:Df w=false)(hp:t.plain=true\/es.size <=1)(hl:t.led=true)(ho:s.heap.get? S=some o)(hd:o.data= .set es ep t)(hf:t.fits es.size=true)
  (hQ:Q (match es[SetTable.below t.place slot]?,t.place[SetTable.below t.place slot]? with|some (_,x),some j=>some (x,j+ 1)|_,_=>none) s):wpAny (model prog w) A (setNext S slot i ep) Q E s:=by
 unfold setNext setsByText;refine Y0 (YL ho hd hf (Y0 (Y0 (Uo (Y2 ?_)))));refine Yy (Yk (show ¬Df w=true by simp[hb])) ?_;refine Yy (Yk (show ¬(!t.plain && decide (es.size > 1))=true from fun z=>?_)) ?_
 .simp only[X5,XI,Ya]at z;rcases hp with hp|hp
  .rw[hp]at z;cases z.1
  .lia
 refine Y0 (Yy (Yk (show ¬(!t.led && !es.isEmpty)=true by simp[hl])) (Y2 ?_));exact Y2 hQ
end
theorem Sg:Slot "set_iterator" (Str.ofString "__iter__") "set_iterator.__iter__":=
 Slot.of (owner:="set_iterator") (n:="__iter__") (by rw[typeLookup_type,builtinLookup_eq_fast];kernel_rfl) (by kernel_rfl) (by kernel_rfl) (by kernel_rfl) (Or.inl (by kernel_rfl)) (by rw[isSubtype_type];kernel_rfl) (by kernel_rfl)
theorem wZ:entryFor table "set_iterator.__iter__"=some Builtin.«dict_keyiterator.__iter__»:=entryFor_alias (id':="dict_keyiterator.__iter__") (by kernel_rfl) rfl (by kernel_rfl) (by kernel_rfl)
theorem jX(a:WW):argsOk "set_iterator.__iter__" ⟨[a],[]⟩:=by
 unfold argsOk;kernel_rfl
theorem nB{α:Type}(next:Nat->Nat):∀ (f k:Nat) (left:List α) (out:Array α),left.length <=f->(pickOrder.go next f k left out).toList.Perm (out.toList++left):=by
 intro f
 induction f with
 |zero=>
  intro k left out h;obtain rfl:left=[]:=XY (by lia);rw[pickOrder.go,List.append_nil]
 |succ f ih=>
  intro k left out h;rw[pickOrder.go];cases left with
  |nil=>simp
  |cons x xs=>
   have a:next k%(x::xs).length < (x::xs).length:=Nat.mod_lt _ (by simp);generalize next k%(x::xs).length=j at a;rw[Y4 a];dsimp only;refine(ih _ _ _ (by rw[VT a];lia)).trans ?_;rw[Ve,UA];exact(PF a).append_left _
theorem F0{α:Type}(next:Nat->Nat)(xs:Array α):(pickOrder next xs).toList.Perm xs.toList:=by
 have:=nB next xs.size 0 xs.toList #[] (by simp);simpa[pickOrder] using this
theorem mF{xs:Array Nat}(h:RP xs):SetTable.below xs 0=0:=by
 obtain⟨_,a,_⟩:=IT h 0;rcases Nat.eq_zero_or_pos (SetTable.below xs 0) with e|e
 .exact e
 .have:=a 0 e;lia
theorem jZ{xs:Array Nat}(h:RP xs){i:Nat}(hi:i < xs.size):SetTable.below xs (xs[i]+ 1)=i+ 1:=by
 obtain⟨f,b,a⟩:=IT h (xs[i]+ 1);have e:∀d,xs.getD i d=xs[i]:=fun d=>by simp[Array.getD,hi]
 rcases Nat.lt_trichotomy (SetTable.below xs (xs[i]+ 1)) (i+ 1) with c|c|c
 .have:=a i (by lia) hi;rw[e]at this;lia
 .exact c
 .have h1:=b (i+ 1) c;have h2:=F7 h (U1 i) (show i+ 1 < xs.size by lia) (xs[i]+ 1);rw[e]at h2;lia
section
variable{prog:WP}{w:WU}{A:WT}{E:WM}{s:WQ}{S I T0:WX}{o:Obj}{es:Array (Int×Value)}{ep i:Nat}{t:SetTable}{f:WW}
theorem wU{Q:Option Value->Shared->Prop}{ys:List Nat}{k:Nat}{e:Int×Value}(hit:s.heap.get? I=some (Mt (.ref T0) i S es.size ep))(h0:s.heap.get? T0=some {cls:=.type "tuple",data:=.seq (ys.map fun i:Nat=>Value.int (i:Int) 0).toArray 0})(ho:s.heap.get? S=some o)(hd:o.data= .set es ep t)(hf:t.fits es.size=true)(hk:ys[i]?=some k)(he:es[k]?=some e)
  (hQ:∀h',h'.get? I=some (Mt (.ref T0) (i+ 1) S es.size ep)->Heap.SameBut I s.heap h'->Q (some e.2) {s with heap:=h'}):wpAny (model prog w) A (pyNext (.ref I)) Q E s:=by
 have a:s.TypeIs (.ref I) "set_iterator":=⟨_,hit,rfl⟩
 unfold pyNext;refine Y0 (XS (X0 (name:=Str.ofString "__next__") a Jl (YU Jl a FH ?_ (Ch _))));unfold Builtin.«set_iterator.__next__»;refine Y0 (Y2 (Y0 (U3 hit rfl ?_)));refine(?_:wpAny _ _ (setEntries S >>=_) _ _ _);refine Y0 (Y0 (YL ho hd hf (Y2 ?_)));refine Yy (by simp) ?_;refine(?_:wpAny _ _ (seqItems? (.ref T0) >>=_) _ _ _);refine Y0 (Y0 (Vx h0 (Y2 ?_)));have f:(ys.map fun i:Nat=>Value.int (i:Int) 0).toArray[i]?=some (.int k 0):=by simp[hk]
 simp only[X7,f];unfold setNextDrawn;refine Y0 (Y0 (YL ho hd hf ?_));refine Yy (by simp) ?_;simp only[X7,he];refine Y2 ?_;refine Y0 (XE hit rfl (by simp) ?_);refine Y2 ⟨_,rfl,Y2 (hQ _ ?_ ?_)⟩
 .exact ZZ (k:=i+ 1) hit
 .exact⟨by rw[YW],fun b c=>by rw[YX _ _ _ _ c]⟩
theorem wH{Q:Option Value->Shared->Prop}{ys:List Nat}(hh:A.handled=none)(hit:s.heap.get? I=some (Mt (.ref T0) i S es.size ep))(h0:s.heap.get? T0=some {cls:=.type "tuple",data:=.seq (ys.map fun i:Nat=>Value.int (i:Int) 0).toArray 0})(ho:s.heap.get? S=some o)(hd:o.data= .set es ep t)(hf:t.fits es.size=true)(hk:ys[i]?=none)
  (hQ:∀h',Heap.ExtBut I s.heap h'->Q none {s with heap:=h'}):wpAny (model prog w) A (pyNext (.ref I)) Q E s:=by
 have f:s.TypeIs (.ref I) "set_iterator":=⟨_,hit,rfl⟩
 unfold pyNext;refine Y0 (XS (X0 (name:=Str.ofString "__next__") f Jl (YU Jl f FH ?_ (Ch _))));unfold Builtin.«set_iterator.__next__»;refine Y0 (Y2 (Y0 (U3 hit rfl ?_)));refine(?_:wpAny _ _ (setEntries S >>=_) _ _ _);refine Y0 (Y0 (YL ho hd hf (Y2 ?_)));refine Yy (by simp) ?_;refine(?_:wpAny _ _ (seqItems? (.ref T0) >>=_) _ _ _);refine Y0 (Y0 (Vx h0 (Y2 ?_)));have g:(ys.map fun i:Nat=>Value.int (i:Int) 0).toArray[i]?=none:=by
  simpa using hk
 simp only[X7,g];refine Y0 (XE hit rfl (by simp) ?_);have h1:(s.heap.update I (Obj.mapFields (·.setIfInBounds 0 (rawInt 0)))).get? I=some (Mt (.int 0 0) i S es.size ep):=by
  rw[YB _ hit rfl];rfl
 refine Y0 (XE h1 rfl (by simp) ?_);refine(?_:wpAny _ _ (newExc (.type "StopIteration") [] >>=_) _ _ _);refine Y0 ?_;simp only[newExc,newTuple];refine Y0 (YO (Y0 (m:=firstArgMember _ _) (Uy (a:=Value.none) (by first|rfl|(simp only[firstArgMember];rfl)) (YO ?_ (by size_fits)))) (by size_fits));simp only[raiseNew];refine Y0 (VR ?_);rw[show A.in1.handled=none from hh];refine Y0 (Y2 (Wk ?_));refine Y0 (Uk (T:="StopIteration") (b:=true) ⟨_,Yc _ rfl,rfl⟩ V7 (Y2 (hQ _ (Heap.ExtBut.push (Heap.ExtBut.push (fun b o c e=>?_) _) _))));rw[YX _ _ _ _ c,YX _ _ _ _ c];exact e
theorem Lq{Q:WM}(h:s.heap.get? I=some (Mt f i S es.size ep))(hQ:Q (.ref I) s):wpAny (model prog w) A (pyIter (.ref I)) Q E s:=by
 have a:s.TypeIs (.ref I) "set_iterator":=⟨_,h,rfl⟩
 exact Vc a Sg (YU Sg a wZ (Y2 ⟨_,rfl,"set_iterator",_,a,Jl.lookup,hQ⟩) (jX _))
variable(hh:A.handled=none)(hSI:S≠I)(hd:o.data= .set es ep t)(hf:t.fits es.size=true)
include hh hSI hd hf
theorem wC(hb:Df w=true):Walks prog w A I [I,S] [I] es.size (fun i v=>((pickOrder (w.params.setOrder S ep) es).toList.map (·.2))[i]?=some v) (fun i h=>h.get? I=some (Mt (.int 0 0) i S es.size ep)/\h.get? S=some o) where
 sub:=fun b hb=>by simp at hb;simp[hb]
 frame:=fun _ _ _ st c=>⟨c I (by simp) _ st.1,c S (by simp) _ st.2⟩
 item:=fun i s Q E hi st a=>by
  have g:(pickOrder (w.params.setOrder S ep) es).size=es.size:=by simpa using (F0 (w.params.setOrder S ep) es).length_eq
  have f:(pickOrder (w.params.setOrder S ep) es)[i]?=some ((pickOrder (w.params.setOrder S ep) es)[i]'(by lia)):=Yz (by lia);refine Sc (slot:=0) (nx:=0) (x:=((pickOrder (w.params.setOrder S ep) es)[i]'(by lia)).2) st.1 st.2 hd hf (fun A' p n h=>SS hb st.2 hd hf (by rw[f];exact h)) fun h' h1 h2=>?_
  exact a _ h' s.toks (by rw[Y9,Array.getElem?_toList,f];rfl) ⟨h1,(h2.2 S hSI).trans st.2⟩ fun b o hb e=>(h2.2 b (by simpa using hb)).trans e
 done:=fun s Q E st a=>by
  have g:(pickOrder (w.params.setOrder S ep) es).size=es.size:=by simpa using (F0 (w.params.setOrder S ep) es).length_eq
  exact Qq (slot:=0) hh st.1 st.2 hd hf (fun A' p n h=>SS hb st.2 hd hf (by rw[Uz (by lia)];exact h)) fun h' j=>a h' s.toks fun b o hb e=>j b o (by simpa using hb) e
 self:=fun _ _ _ _ st a=>Lq st.1 a
theorem aQ(hb:Df w=false)(hp:t.plain=true\/es.size <=1)(T:JG w t):Walks prog w A I [I,S] [I] es.size (fun i v=>(es.toList.map (·.2))[i]?=some v) (fun i h=>(∃slot:Nat,h.get? I=some (Mt (.int slot 0) i S es.size ep)/\SetTable.below t.place slot=i)/\h.get? S=some o) where
 sub:=fun b hb=>by simp at hb;simp[hb]
 frame:=fun _ _ _ st j=>⟨st.1.imp fun _ q=>⟨j I (by simp) _ q.1,q.2⟩,j S (by simp) _ st.2⟩
 item:=fun i s Q E hi st c=>by
  obtain⟨⟨slot,h1,h2⟩,a⟩:=st;have g:t.led=true:=by rw[T.led,hb];rfl
  have z:t.place.size=es.size:=by
   have:=hf;unfold SetTable.fits at this;simp at this;exact this.1
  have f:i < t.place.size:=by lia
  refine Sc (slot:=slot) (nx:=t.place[i]+ 1) (x:=es[i].2) h1 a hd hf (fun A' y u h=>SX hb hp g a hd hf (by rw[h2,Yz hi,Yz f];exact h)) fun h' r n=>?_
  exact c _ h' s.toks (by rw[Y9,Array.getElem?_toList,Yz hi];rfl) ⟨⟨_,r,jZ T.ris f⟩,(n.2 S hSI).trans a⟩ fun b o hb e=>(n.2 b (by simpa using hb)).trans e
 done:=fun s Q E st c=>by
  obtain⟨⟨slot,h1,h2⟩,a⟩:=st;have g:t.led=true:=by rw[T.led,hb];rfl
  exact Qq (slot:=slot) hh h1 a hd hf (fun A' y u h=>SX hb hp g a hd hf (by rw[h2,Uz (Y8 _)];exact h)) fun h' p=>c h' s.toks fun b o hb e=>p b o (by simpa using hb) e
 self:=fun _ _ _ _ st c=>by obtain⟨⟨slot,h1,h2⟩,a⟩:=st;exact Lq h1 c
theorem vF{ys:List Nat}(hT0:T0≠I)(hy:ys.Perm (List.range es.size)):Walks prog w A I [I,S,T0] [I] es.size (fun i v=>(ys.map fun k=>(es.toList.map (·.2)).getD k .none)[i]?=some v) (fun i h=>h.get? I=some (Mt (.ref T0) i S es.size ep)/\h.get? T0=some {cls:=.type "tuple",data:=.seq (ys.map fun i:Nat=>Value.int (i:Int) 0).toArray 0}/\h.get? S=some o) where
 sub:=fun b c=>by simp at c;simp[c]
 frame:=fun _ _ _ st a=>⟨a I (by simp) _ st.1,a T0 (by simp) _ st.2.1,a S (by simp) _ st.2.2⟩
 item:=fun i s Q E hi st f=>by
  have j:ys.length=es.size:=by rw[hy.length_eq,YN]
  have g:ys[i]?=some (ys[i]'(by lia)):=Y4 (by lia);have a:ys[i]'(by lia) < es.size:=by simpa using hy.mem_iff.mp (Xk (l:=ys) (n:=i) (by lia))
  refine wU st.1 st.2.1 st.2.2 hd hf g (Yz a) fun h' h1 h2=>?_
  refine f _ h' s.toks ?_ ⟨h1,(h2.2 T0 hT0).trans st.2.1,(h2.2 S hSI).trans st.2.2⟩ fun b o c e=>(h2.2 b (by simpa using c)).trans e
  rw[Y9,g];simp[Xf,a]
 done:=fun s Q E st f=>by
  have j:ys.length=es.size:=by rw[hy.length_eq,YN]
  exact wH hh st.1 st.2.1 st.2.2 hd hf (Xx (by lia)) fun h' p=>f h' s.toks fun b o c e=>p b o (by simpa using c) e
 self:=fun _ _ _ _ st f=>Lq st.1 f
end
section
variable{prog:WP}{w:WU}{A:WT}{E:WM}{s:WQ}{S:WX}{o:Obj}{es:Array (Int×Value)}{ep:Nat}{t:SetTable}
theorem OI{L:WX}{c:Nat}{Q:WN}(h:s.heap.get? L=some {cls:=.type "list",data:=.seq #[] c})
  (hQ:∀ (h':J6) (c':Nat),Heap.SameBut L s.heap h'->h'.get? L=some {cls:=.type "list",data:=.seq #[] c'}->Q () {s with heap:=h'}):wpAny (model prog w) A (Builtin.List.listTouch (.ref L)) Q E s:=by
 unfold Builtin.List.listTouch;refine Y0 (UW h rfl ?_);have h2:=YB (Obj.mapSeq fun x=>x.push Value.none) h rfl;refine UW h2 rfl ?_;have e:=YB (Obj.mapSeq fun x=>x.pop) h2 rfl;exact hQ _ _ ⟨by rw[YW,YW],fun b a=>by rw[YX _ _ _ _ a,YX _ _ _ _ a]⟩ e
theorem Im{I L:WX}{n:Nat}{fp:List Addr}{P:Nat->Value->Prop}{St:Nat->Heap->Prop}{vs:WZ}{h1:J6}{c:Nat}{res:WW}{RR:Result->Shared->Prop}(W:Walks prog w A.in1 I fp [I] n P St)(hn:n <=5000)(hLf:L∉fp)(st:St 0 h1)(hL:h1.get? L=some {cls:=.type "list",data:=.seq #[] c})(hP:∀i v,P i v->vs[i]?=some v)(hl:vs.length=n)
  (hRR:∀ (h':J6) (tk c':Nat),(∀b o,b≠L->b≠I->h1.get? b=some o->h'.get? b=some o)->h'.get? L=some {cls:=.type "list",data:=.seq vs.toArray c'}->RR (.ok (.ret res)) {s with heap:=h',toks:=tk}):
  codeAny (model prog w) A (Code.builtin "list.extend.loop" ⟨[.ref L,.ref I,res],[]⟩) RR {s with heap:=h1}:=by
 refine codeAny_extend_loopS W.toS (by rw[YT];lia) L hLf _ n 0 _ #[] c rfl (Ys _) st hL (ItemsOf.nil _) fun s' f c' g h a=>?_
 have e:f.toList=vs:=by
  refine VY fun i=>?_
  by_cases hi:i < f.size
  .rw[Array.getElem?_toList,Yz hi];exact(hP i _ (a.2 i _ (Yz hi))).symm
  .rw[Xx (by simp;lia),Xx (by have:=a.1;lia)]
 rw[g.eq_with];refine hRR s'.heap s'.toks c' (fun b o p j e=>g.heap b o (by simp[p,j]) e) ?_;rw[<-e];exact h
theorem uQ(hh:A.handled=none)(ho:s.heap.get? S=some o)(hx:o.ExactSet)(hd:o.data= .set es ep t)(hf:t.fits es.size=true)(T:JG w t)(hz:es.size <=5000){R:List Value->Shared->Prop}
  (hR:∀ (h':J6) (tk:Nat) (d:Drawn) (vs:WZ),(∀b o,s.heap.get? b=some o->h'.get? b=some o)->vs.Perm (es.toList.map (·.2))->R vs {s with heap:=h',toks:=tk,drawn:=d}):wpAny (model prog w) A (collect (.ref S)) R E s:=by
 unfold collect;refine Y0 (wpAny_runValue (Xp entry_proto_collect' ?_));rw [Xj F.plain_proto_collect];unfold Builtin.«proto.collect»;refine Y0 (YO (Y2 ⟨XC F.plain_list_iadd _, Xp entry_list_iadd' ?_⟩));rw [Xj F.plain_list_iadd];have hS1 : (s.heap.push { cls := .type "list", data := .seq #[] 0 }).get? s.heap.objs.size = some { cls := .type "list", data := .seq #[] 0 } := Yc _ rfl;have g : (s.heap.push { cls := .type "list", data := .seq #[] 0 }).get? S = some o := Y7 _ ho;have hlt := Yd ho;have u : ∀ (h' : Heap) (tk : Nat) (d : Drawn) (y : Array Value) (p : Nat), (∀ b o, s.heap.get? b = some o -> h'.get? b = some o) -> h'.get? s.heap.objs.size = some { cls := .type "list", data := .seq y p } -> y.toList.Perm (es.toList.map (·.2)) -> wpAny (model prog w) A (do
   let __do_lift <-load s.heap.objs.size
   match __do_lift.data with
    |Data.seq xs epoch=>pure xs.toList
    | x => unsupported "internal:collect") R E { s with heap := h', toks := tk, drawn := d } := fun h' tk d y p a1 a2 a3 => Y0 (Vx a2 (Y2 (hR h' tk d _ a1 a3)))
 unfold Builtin.«list.__iadd__»;refine Y0 (Y2 ?_);refine(?_:wpAny _ _ (Builtin.List.listExtendWith (.ref s.heap.objs.size) (.ref S) (.ref s.heap.objs.size)) _ _ _);unfold Builtin.List.listExtendWith;have hT1:(⟨s.heap.push {cls:=.type "list",data:=.seq #[] 0},s.gens,s.drawn,s.toks,s.os⟩:WQ).TypeIs (.ref S) "set":=⟨o,g,hx.1⟩
 refine Y0 (VD hT1 ?_);have hne:(Builtin.List.listSameRef (.ref s.heap.objs.size) (.ref S))=false:=by
  show(s.heap.objs.size==S)=false;simp;lia
 simp only[hne,show(Value.type "set"==Value.type "list")=false from rfl,show(Value.type "set"==Value.type "tuple")=false from rfl,UL,Bool.false_eq_true,if_false];refine Y0 (nP (A:=A.in1) g hx hd hf hz (fun z hp ys d hy=>?_) fun hc=>?_)
 .have j:∀b o,(s.heap.push {cls:=.type "list",data:=.seq #[] 0}).get? b=some o->(((s.heap.push {cls:=.type "list",data:=.seq #[] 0}).push {cls:=.type "tuple",data:=.seq (ys.map fun i:Nat=>Value.int (i:Int) 0).toArray 0}).push (Mt (.ref (s.heap.push {cls:=.type "list",data:=.seq #[] 0}).objs.size) 0 S es.size ep)).get? b=some o:=fun b o e=>Y7 _ (Y7 _ e)
  have f:(s.heap.push {cls:=.type "list",data:=.seq #[] 0}).objs.size=s.heap.objs.size+ 1:=size_push' ..;have hI:(((s.heap.push {cls:=.type "list",data:=.seq #[] 0}).push {cls:=.type "tuple",data:=.seq (ys.map fun i:Nat=>Value.int (i:Int) 0).toArray 0}).push (Mt (.ref (s.heap.push {cls:=.type "list",data:=.seq #[] 0}).objs.size) 0 S es.size ep)).get? ((s.heap.push {cls:=.type "list",data:=.seq #[] 0}).objs.size+ 1)=some (Mt (.ref (s.heap.push {cls:=.type "list",data:=.seq #[] 0}).objs.size) 0 S es.size ep):=by
   rw[<-size_push' (s.heap.push {cls:=.type "list",data:=.seq #[] 0}) {cls:=.type "tuple",data:=.seq (ys.map fun i:Nat=>Value.int (i:Int) 0).toArray 0}];exact Yc _ rfl
  have hT0:(((s.heap.push {cls:=.type "list",data:=.seq #[] 0}).push {cls:=.type "tuple",data:=.seq (ys.map fun i:Nat=>Value.int (i:Int) 0).toArray 0}).push (Mt (.ref (s.heap.push {cls:=.type "list",data:=.seq #[] 0}).objs.size) 0 S es.size ep)).get? (s.heap.push {cls:=.type "list",data:=.seq #[] 0}).objs.size=some {cls:=.type "tuple",data:=.seq (ys.map fun i:Nat=>Value.int (i:Int) 0).toArray 0}:=Y7 _ (Yc _ rfl);refine Y0 (YK (Sl ⟨o,j _ _ g,hx.1⟩ ?_));refine XF (by kernel_rfl) (Y0 (UJ (Y0 (OI (j _ _ hS1) fun h2 c2 c q=>Y2 ⟨XC F.plain_extend_loop _,?_⟩))));have hyl:ys.length=es.size:=by rw[hy.length_eq,YN]
  have W:=vF (prog:=prog) (w:=w) (A:=A.in1) (I:=(s.heap.push {cls:=.type "list",data:=.seq #[] 0}).objs.size+ 1) (T0:=(s.heap.push {cls:=.type "list",data:=.seq #[] 0}).objs.size) (S:=S) (ys:=ys) hh (by rw[f];lia) hd hf (by lia) hy;refine Im (s:={s with drawn:=d}) W hz (by rw[f];simp;lia) ⟨(c.2 _ (by rw[f];lia)).trans hI,(c.2 _ (by rw[f];lia)).trans hT0,(c.2 _ (by lia)).trans (j _ _ g)⟩ q (fun i v h=>h) (by rw[Y1];exact hyl) fun h' tk p r n=>?_
  refine u h' tk d _ p (fun b o e=>r b o (by have:=Yd e;lia) (by have:=Yd e;rw[f];lia) ((c.2 b (by have:=Yd e;lia)).trans (j _ _ (Y7 _ e)))) n ?_;have:=hy.map fun k=>(es.toList.map (·.2)).getD k .none
  rw[UQ];refine this.trans (List.Perm.of_eq ?_);apply Vo
  .simp
  .intro i a b;rw[List.getElem_map,List.getElem_range];simp only[Y1]at b;simp[Xf,show i < es.size by simpa using b]
 .have j:∀b o,(s.heap.push {cls:=.type "list",data:=.seq #[] 0}).get? b=some o->((s.heap.push {cls:=.type "list",data:=.seq #[] 0}).push (Mt (.int 0 0) 0 S es.size ep)).get? b=some o:=fun b o e=>Y7 _ e
  have f:(s.heap.push {cls:=.type "list",data:=.seq #[] 0}).objs.size=s.heap.objs.size+ 1:=size_push' ..;have hI:=Yc (s.heap.push {cls:=.type "list",data:=.seq #[] 0}) (o:=Mt (.int 0 0) 0 S es.size ep) rfl;refine Y0 (YK (Sl ⟨o,j _ _ g,hx.1⟩ ?_));refine XF (by kernel_rfl) (Y0 (UJ (Y0 (OI (j _ _ hS1) fun h2 c2 c q=>Y2 ⟨XC F.plain_extend_loop _,?_⟩))))
  by_cases z:Df w=true
  .have W:=wC (prog:=prog) (w:=w) (A:=A.in1) (I:=(s.heap.push {cls:=.type "list",data:=.seq #[] 0}).objs.size) (S:=S) hh (by rw[f];lia) hd hf z;refine Im (s:=s) W hz (by rw[f];simp;lia) ⟨(c.2 _ (by rw[f];lia)).trans hI,(c.2 _ (by lia)).trans (j _ _ g)⟩ q (fun i v h=>h) (by rw[Y1,(F0 _ es).length_eq,Array.length_toList]) fun h' tk p r n=>?_
   exact u h' tk s.drawn _ p (fun b o e=>r b o (by have:=Yd e;lia) (by have:=Yd e;rw[f];lia) ((c.2 b (by have:=Yd e;lia)).trans (j _ _ (Y7 _ e)))) n (by rw[UQ];exact(F0 _ es).map _)
  .have hb':Df w=false:=by simpa using z
   have W:=aQ (prog:=prog) (w:=w) (A:=A.in1) (I:=(s.heap.push {cls:=.type "list",data:=.seq #[] 0}).objs.size) (S:=S) hh (by rw[f];lia) hd hf hb' (hc.resolve_left z) T;refine Im (s:=s) W hz (by rw[f];simp;lia) ⟨⟨0,(c.2 _ (by rw[f];lia)).trans hI,mF T.ris⟩,(c.2 _ (by lia)).trans (j _ _ g)⟩ q (fun i v h=>h) (by simp) fun h' tk p r n=>?_
   exact u h' tk s.drawn _ p (fun b o e=>r b o (by have:=Yd e;lia) (by have:=Yd e;rw[f];lia) ((c.2 b (by have:=Yd e;lia)).trans (j _ _ (Y7 _ e)))) n (by rw[UQ])
end
structure Fi(mg:WL):Prop where
 bset:mg "set"=none
def Kk(o:Obj)(n:Nat):Prop:=∃es ep t,o.ExactSet/\o.data= .set es ep t/\t.fits es.size=true/\es.size=n
theorem DD.len{w:WU}{o:Obj}{m:WY}(h:DD w o m):Kk o m.length:=by
 obtain⟨es,ep,t,h1,h2,_,b,_,a,_⟩:=h;exact⟨es,ep,t,h1,h2,a,by rw[<-b.length_eq,Y1,Array.length_toList]⟩
section
variable{X:Cx}{K:WV}{w:WU}
theorem Jd.drawn{pins:WO}{σ:St}{H:Hp}{s:WQ}(I:Jd X pins σ H s)(d:Drawn):Jd X pins σ H {s with drawn:=d}:=⟨I.ok,I.os,I.bare,I.base,I.loc,I.cell,I.free,I.freeC,I.pin,I.hok,I.len⟩
def Hj(K:WV)(w:WU):List V->Hp->VK->Prop:=fun as H Q=>∃ (p:WX) (ns:WY),as=[.ref p]/\Jh K H p (ns.map V.int)/\ns.length <=4000/\∀ (m:WY) (o:Obj) l G,m.Nodup->(∀n,n∈m↔n∈ns)->m.length <=ns.length->DD w o m->H l=none->Jb H G->G l=some (.frz o (.own l))->Q (.ref l) G
theorem Sd(hc:X.calm=true)(h:X.K=K)(hw:X.w=w):JA X (.type "set") (Hj K w):=by
 subst h;subst hw;intro pins s σ H xs us Q I r hh;obtain⟨p,c,rfl,hq,hl,q⟩:=hh;obtain⟨u,rfl,rx⟩:=DO r;cases rx;obtain⟨a,rv,pl,hz⟩:=I.list hq;have aa:c.length=a.length:=by simpa using rv.length
 refine QC (fun i o=>∃m,DD X.w o m/\(∀n,n∈m↔n∈c.take i)/\m.length <=i) (I.ok.hd hc) pl.isList ?_ (fun i v o s' A' E' Q' hv hj g hk _ hQ=>?_) fun o h' tk hj g hk=>?_
 .refine⟨[],⟨#[],0,SetTable.fresh 0 0 (!Df X.w),⟨rfl,rfl,rfl⟩,rfl,fun P e he=>by simp at he,.nil,.nil,rfl,rfl,rfl,.nil⟩,fun n=>by simp,Y8 _⟩
 .obtain⟨m,x,j,f⟩:=hj;have y:a[i]?=some v:=by simpa using hv
  have hi:i < a.length:=(Ym.mp y).1;have hx:(c.map V.int)[i]?=some (V.int (c[i]'(by lia))):=by rw[Y9,Y4 (by lia)];rfl
  obtain⟨u,hu,ru⟩:=rv.get (i:=i) hx;rw[y]at hu;cases hu;obtain⟨tk,rfl⟩:=ru;refine P8 x (by have:scanBound=4096:=rfl;lia) g fun b o' h' tk' hS' hsb ho'=>hQ b o' h' tk' ⟨_,hS',fun n=>?_,?_⟩ hsb ho'
  .rw[Vp (by lia),Yp,Yb,<-j]
   split
   .rename_i hin
    constructor
    .exact .inl
    .rintro(h|rfl)
     .exact h
     .exact hin
   .rw[Yp,Yb]
  .split
   .lia
   .rw[Yl,UB];lia
 .obtain⟨m,x,j,f⟩:=hj;have hf:H s.heap.objs.size=none:=I.hok.fresh (Y8 _);have z:a.toArray.size=c.length:=by simp[aa]
  rw[z,Yu (Y8 _)]at j;rw[z]at f;have hnd:m.Nodup:=by obtain⟨_,_,_,_,_,_,_,h,_⟩:=x;exact h
  exact⟨.ref s.heap.objs.size,upd H s.heap.objs.size (.frz o (.own s.heap.objs.size)),I.laid (t':=tk) hk (Y8 _) ⟨g,_,g⟩,rfl,q m o _ _ hnd j f x hf (MD hf) Nc⟩
def KL:List V->Hp->VK->Prop:=fun as H Q=>∃ (p:WX) (o:Obj) (n:Nat),as=[.ref p]/\H p=some (.frz o (.own p))/\Kk o n/\n <=4000/\Q (.int n) H
theorem Ox:JA X (.builtin "len") KL:=by
 intro pins s σ H xs h Q I r hh;obtain⟨p,o,n,rfl,b,⟨es,ep,t,h1,h2,f,e⟩,g,q⟩:=hh;obtain⟨u,rfl,a⟩:=DO r;cases a;obtain⟨c,_⟩:=(show s.heap.get? p=some o/\_ from I.hok p _ b);refine call_len_set c h1 h2 f (by lia) ?_;exact⟨.int n,H,I.tok _,⟨_,by rw[e]⟩,q⟩
end
theorem Pu:∀ (m:Nat) (l:List Nat),l.length < m->∃j,j < m/\j∉l:=by
 intro m
 induction m with
 |zero=>intro l h;lia
 |succ m ih=>
  intro l h
  by_cases hm:m∈l
  .obtain⟨j,h1,h2⟩:=ih (l.erase m) (by rw[V4 hm];have:=Wn hm;lia);exact⟨j,by lia,fun z=>h2 ((VE (by lia)).mpr z)⟩
  .exact⟨m,by lia,hm⟩
theorem aM{t:SetTable}(hd:t.dummies=#[]){j:Nat}(h:j∉t.place.toList):t.slot j= .empty:=by
 unfold SetTable.slot;dsimp only;rw[Y5,hd,Y5 (by rw[Fx];exact Yj)];intro z;have:=eq_of_beq z;exact h (Vy.mpr (Array.mem_of_getElem? this))
def Ep(mask i pt:Nat):SetTable.Probe:={j:=i,more:=SetTable.runEnd mask i - i,i:=i,perturb:=pt,dummy:=none}
def RC(t:SetTable):Nat->SetTable.Probe->SetTable.Probe
 |0,p=>p
 |n+ 1,p=>RC t n (t.advance p)
theorem P6(t:SetTable):∀ (a b:Nat) (p:SetTable.Probe),RC t (a+ b) p=RC t b (RC t a p)
 |0,b,p=>by rw[WH];rfl
 |a+ 1,b,p=>by rw[show a+ 1+ b=(a+ b)+ 1 by lia];exact P6 t a b _
def Do(mask:Nat):Nat->Nat×Nat->Nat×Nat
 |0,q=>q
 |n+ 1,q=>Do mask n (SetTable.leap mask q.1 q.2)
theorem Ic(mask:Nat):∀ (a b:Nat) (q:Nat×Nat),Do mask (a+ b) q=Do mask b (Do mask a q)
 |0,b,p=>by rw[WH];rfl
 |a+ 1,b,p=>by rw[show a+ 1+ b=(a+ b)+ 1 by lia];exact Ic mask a b _
theorem aC{t:SetTable}:∀ (m:Nat) (p:SetTable.Probe),p.more=m->p.dummy=none->RC t (m+ 1) p=Ep t.mask (SetTable.leap t.mask p.i p.perturb).1 (SetTable.leap t.mask p.i p.perturb).2:=by
 intro m
 induction m with
 |zero=>
  intro p h hd;show t.advance p=_;unfold SetTable.advance;rw[Y5 (by lia)];unfold Ep;simp[hd]
 |succ m ih=>
  intro p h hd;show RC t (m+ 1) (t.advance p)=_;have e:t.advance p={p with j:=p.j+ 1,more:=p.more - 1}:=by
   unfold SetTable.advance;rw[Y6 (by lia)]
  rw[e];exact ih _ (by show p.more - 1=m;lia) hd
theorem ZT(mask i:Nat):SetTable.runEnd mask i - i <=9:=by unfold SetTable.runEnd;split <;> lia
theorem gG{t:SetTable}:∀ (n i pt:Nat),∃a,a <=10*n/\RC t a (Ep t.mask i pt)=Ep t.mask (Do t.mask n (i,pt)).1 (Do t.mask n (i,pt)).2:=by
 intro n
 induction n with
 |zero=>intro i pt;exact⟨0,by lia,rfl⟩
 |succ n ih=>
  intro i pt;have h1:=aC (t:=t) _ (Ep t.mask i pt) rfl rfl;obtain⟨a,h2,c⟩:=ih (SetTable.leap t.mask i pt).1 (SetTable.leap t.mask i pt).2;refine⟨SetTable.runEnd t.mask i - i+ 1+ a,by have:=ZT t.mask i;lia,?_⟩;rw[P6];have b:RC t (SetTable.runEnd t.mask i - i+ 1) (Ep t.mask i pt)=Ep t.mask (SetTable.leap t.mask i pt).1 (SetTable.leap t.mask i pt).2:=h1;rw[b];exact c
theorem Qe(mask:Nat):∀ (n:Nat) (q:Nat×Nat),(Do mask n q).2=q.2 / 32 ^ n
 |0,q=>by simp[Do]
 |n+ 1,q=>by
  show(Do mask n _).2=_;rw[Qe mask n];show q.2 / 32 / 32 ^ n=_;rw[Nat.div_div_eq_div_mul,Nat.pow_succ,Nat.mul_comm]
def KY(m i:Nat):Nat:=(i*5+ 1)%m
def DB(m:Nat):Nat->Nat->Nat
 |0,i=>i
 |n+ 1,i=>DB m n (KY m i)
theorem SZ(mask:Nat):∀ (n i:Nat),Do mask n (i,0)=(DB (mask+ 1) n i,0)
 |0,i=>rfl
 |n+ 1,i=>by
  show Do mask n (SetTable.leap mask i 0)=_;rw[show SetTable.leap mask i 0=(KY (mask+ 1) i,0) by simp[SetTable.leap,KY]];exact SZ mask n _
def Ex(m:Nat):Prop:=∀i,i < m->∀j,j < m->∃k,k < m/\DB m k i=j
theorem j6:Ex 8:=by
 have h:(List.range 8).all (fun i=>(List.range 8).all fun j=>(List.range 8).any fun k=>DB 8 k i==j)=true:=by decide +kernel
 intro i hi j a;have:=Xr.mp (Xr.mp h i (by simpa using hi)) j (by simpa using a);obtain⟨k,h1,h2⟩:=U4.mp this;exact⟨k,by simpa using h1,eq_of_beq h2⟩
theorem QV:Ex 32:=by
 have h:(List.range 32).all (fun i=>(List.range 32).all fun j=>(List.range 32).any fun k=>DB 32 k i==j)=true:=by decide +kernel
 intro i hi j a;have:=Xr.mp (Xr.mp h i (by simpa using hi)) j (by simpa using a);obtain⟨k,h1,h2⟩:=U4.mp this;exact⟨k,by simpa using h1,eq_of_beq h2⟩
theorem OT{mask:Nat}(F:Ex (mask+ 1))(i pt:Nat)(hp:pt < 2 ^ 64){j:Nat}(hj:j < mask+ 1):∃n,n <=mask+ 13/\(Do mask n (i,pt)).1=j:=by
 have b:(Do mask 13 (i,pt)).2=0:=by
  rw[Qe];exact Nat.div_eq_of_lt (YH hp (by decide))
 have a:(Do mask 13 (i,pt)).1 < mask+ 1:=by
  rw[show(13:Nat)=12+ 1 from rfl,Ic];exact Nat.mod_lt _ (by lia)
 obtain⟨k,h1,h2⟩:=F _ a j hj;refine⟨13+ k,by lia,?_⟩;rw[Ic,show Do mask 13 (i,pt)=((Do mask 13 (i,pt)).1,0) from by rw[<-b],SZ];exact h2
def R7(t:SetTable)(d:Nat)(p:SetTable.Probe):Prop:=p.dummy=none/\∃a,a <=d/\t.slot (RC t a p).j= .empty
theorem rW{t:SetTable}(F:Ex (t.mask+ 1))(hd:t.dummies=#[])(hn:t.place.size < t.mask+ 1)(h:Int):R7 t (10*(t.mask+ 13)) (t.probeStart h):=by
 obtain⟨j,h1,h2⟩:=Pu (t.mask+ 1) t.place.toList (by simpa using hn);have b:SetTable.bits h < 2 ^ 64:=by unfold SetTable.bits;lia
 obtain⟨n,g,e⟩:=OT F (SetTable.bits h%(t.mask+ 1)) (SetTable.bits h) b h1;obtain⟨a,f,c⟩:=gG (t:=t) n (SetTable.bits h%(t.mask+ 1)) (SetTable.bits h);refine⟨rfl,a,by lia,?_⟩;show t.slot (RC t a (Ep t.mask _ _)).j=_;rw[c];show t.slot (Do t.mask n _).1=_;rw[e];exact aM hd h2
theorem j8{t:SetTable}{p:SetTable.Probe}(h:p.dummy=none):(t.advance p).dummy=none:=by
 unfold SetTable.advance;split <;> first|exact h|(split;exact h)
theorem vX{t:SetTable}(hd:t.dummies=#[]){ha:Nat->Int}{h:Int}:∀ (d f:Nat) (p:SetTable.Probe),R7 t d p->d < f->
  (∃j,SetTable.probe.go t ha h f p=some (.empty j none)/\t.slot j= .empty)\/(∃j i nx,SetTable.probe.go t ha h f p=some (.candidate j i nx)/\t.slot j= .live i/\ha i=h/\∃d',d' < d/\R7 t d' nx):=by
 intro d
 induction d with
 |zero=>
  intro f p ⟨b,a,h1,h2⟩ hf;obtain rfl:a=0:=by lia
  obtain⟨f,rfl⟩:∃g,f=g+ 1:=⟨f - 1,by lia⟩;refine .inl ⟨p.j,?_,h2⟩;have c:t.slot p.j= .empty:=h2;rw[SetTable.probe.go,c];rw[b]
 |succ d ih=>
  intro f p ⟨b,a,h1,h2⟩ hf;obtain⟨f,rfl⟩:∃g,f=g+ 1:=⟨f - 1,by lia⟩;rw[SetTable.probe.go];cases a with
  |zero=>
   have c:t.slot p.j= .empty:=h2;exact .inl ⟨p.j,by rw[c,b],h2⟩
  |succ a=>
   have e:R7 t d (t.advance p):=⟨j8 b,a,by lia,h2⟩;cases hs:t.slot p.j with
   |empty=>exact .inl ⟨p.j,by rw[b],hs⟩
   |dummy=>
    exfalso
    unfold SetTable.slot at hs;dsimp only at hs;rw[hd]at hs
    split at hs
    .cases hs
    .rw[Y5 (by rw[Fx];exact Yj)]at hs;cases hs
   |live i=>
    dsimp only
    by_cases hh:(ha i==h)=true
    .rw[Y6 hh];exact .inr ⟨p.j,i,_,rfl,hs,eq_of_beq hh,d,by lia,e⟩
    .rw[Y5 hh];rcases ih f _ e (by lia) with⟨j,q1,q2⟩|⟨j,i',nx,q1,q2,q3,d',q4,q5⟩
     .exact .inl ⟨j,q1,q2⟩
     .exact .inr ⟨j,i',nx,q1,q2,q3,d',by lia,q5⟩
def Ts(ow:Array (Option Nat))(n:Nat):List Nat:=(List.range n).filterMap fun j=>ow.getD j none
theorem eN{ow:Array (Option Nat)}{j k:Nat}(hj:j < ow.size)(h0:ow.getD j none=none):∀n,(j < n->(Ts (ow.setIfInBounds j (some k)) n).Perm (k::Ts ow n))/\(n <=j->Ts (ow.setIfInBounds j (some k)) n=Ts ow n):=by
 have e:∀i,(ow.setIfInBounds j (some k)).getD i none=if i=j then some k else ow.getD i none:=fun i=>by
  by_cases hi:i=j
  .subst hi;rw[Y6 rfl];simp[Array.getD,hj]
  .rw[Y5 hi];simp only[UH,Array.getElem?_setIfInBounds_ne (Ne.symm hi)]
 intro n
 induction n with
 |zero=>exact⟨fun h=>by lia,fun _=>rfl⟩
 |succ n ih=>
  have s:∀o:Array (Option Nat),Ts o (n+ 1)=Ts o n++(match o.getD n none with|some x=>[x]|none=>[]):=fun o=>by
   unfold Ts;rw[List.range_succ,List.filterMap_append]
   congr 1
   rw[UN,List.filterMap_nil];cases h:o.getD n none <;> rfl
  refine⟨fun h=>?_,fun h=>?_⟩
  .rw[s,s,e]
   by_cases hn:n=j
   .subst hn;rw[Y6 rfl,h0,ih.2 (Y8 _),List.append_nil];exact VU ..
   .rw[Y5 hn];exact((ih.1 (by lia)).append_right _)
  .rw[s,s,e,Y5 (by lia),ih.2 (by lia)]
theorem ZR{mask:Nat}{ow:Array (Option Nat)}:∀ (f i pt:Nat),(∃n,n < f/\ow.getD (Do mask n (i,pt)).1 (some 0)=none)->∃j,SetTable.layClean.free mask ow f i pt=some j/\ow.getD j (some 0)=none:=by
 intro f
 induction f with
 |zero=>intro i pt ⟨n,h,_⟩;lia
 |succ f ih=>
  intro i pt ⟨n,h1,h2⟩;rw[SetTable.layClean.free];cases hf:List.find? (fun k=>(ow.getD (i+ k) (some 0)).isNone) (List.range (SetTable.runEnd mask i+ 1 - i)) with
  |some k=>
   exact⟨i+ k,rfl,by have:=VF hf;simpa using this⟩
  |none=>
   cases n with
   |zero=>
    exfalso
    have := Xz.mp hf 0 (by
     have:i <=SetTable.runEnd mask i:=by unfold SetTable.runEnd;split <;> lia
     simp; lia)
    rw[Nat.add_zero]at this;have a:ow.getD i (some 0)=none:=h2;rw[a]at this;exact this rfl
   |succ n=>exact ih _ _ ⟨n,by lia,h2⟩
def EW(mask:Nat)(acc:Option (Array (Option Nat)×Nat))(h:Int):Option (Array (Option Nat)×Nat):=do
 let __x <-acc
 match __x with
  |(owner,k)=>do
   let j <-SetTable.layClean.free mask owner (SetTable.turns mask) (SetTable.bits h%(mask+ 1)) (SetTable.bits h)
   pure (owner.setIfInBounds j (some k),k+ 1)
theorem Zk{mask:Nat}(F:Ex (mask+ 1)):∀ (hs:WY) (ow:Array (Option Nat)) (k:Nat),ow.size=mask+ 1->(Ts ow (mask+ 1)).Perm (List.range k)->k+ hs.length < mask+ 1->
  ∃ow',hs.foldl (EW mask) (some (ow,k))=some (ow',k+ hs.length)/\ow'.size=mask+ 1/\(Ts ow' (mask+ 1)).Perm (List.range (k+ hs.length)):=by
 intro hs
 induction hs with
 |nil=>intro ow k h1 h2 _;exact⟨ow,rfl,h1,h2⟩
 |cons h hs ih=>
  intro ow k h1 h2 r;rw[List.length_cons]at r;obtain⟨y,g,w⟩:∃j,j < mask+ 1/\ow.getD j none=none:=by
   obtain ⟨j, b, i⟩ := Pu (mask + 1) ((List.range (mask + 1)).filter fun j => (ow.getD j none).isSome) (by
    have e:((List.range (mask+ 1)).filter fun j=>(ow.getD j none).isSome).length=(Ts ow (mask+ 1)).length:=by
     unfold Ts;rw[Ur,List.countP_eq_length_filter]
    rw [e, h2.length_eq, YN]; lia)
   refine⟨j,b,?_⟩;cases hh:ow.getD j none with
   |none=>rfl
   |some x=>exact absurd (Yf.mpr ⟨by simpa using b,by rw[hh];rfl⟩) i
  have c:∀j,j < mask+ 1->ow.getD j (some 0)=ow.getD j none:=fun j a=>by simp[Array.getD,h1,a]
  have p:SetTable.bits h < 2 ^ 64:=by unfold SetTable.bits;lia
  obtain⟨n,z,u⟩:=OT F (SetTable.bits h%(mask+ 1)) (SetTable.bits h) p g;obtain⟨j,s,f⟩:=ZR (mask:=mask) (ow:=ow) (SetTable.turns mask) (SetTable.bits h%(mask+ 1)) (SetTable.bits h) ⟨n,by unfold SetTable.turns;lia,by rw[u,c _ g];exact w⟩;have a:j < ow.size:=by
   rcases WI j ow.size with q|q
   .exact q
   .simp[Array.getD,show ¬j < ow.size by lia]at f
  have st:EW mask (some (ow,k)) h=some (ow.setIfInBounds j (some k),k+ 1):=by
   show(SetTable.layClean.free mask ow (SetTable.turns mask) _ _ >>=_)=_;rw[s];rfl
  rw[Wf,st,List.length_cons,show k+ (hs.length+ 1)=k+ 1+ hs.length by lia];refine ih _ _ (by rw[Array.size_setIfInBounds];exact h1) ?_ (by lia);refine((eN a (by rw[<-c j (by lia)];exact f) (mask+ 1)).1 (by lia)).trans ?_;rw[List.range_succ];exact(h2.cons _).trans (VU ..).symm
theorem nJ{t:SetTable}{es:Array (Int×Value)}{n:Nat}(F:Ex (SetTable.sizeAbove n - 1+ 1))(hn:es.size < SetTable.sizeAbove n - 1+ 1):
  ∃t' o,t.relaid (es.map (·.1)) n=some (t',o)/\t'.mask=SetTable.sizeAbove n - 1/\t'.place.size=es.size/\t'.dummies=#[]/\(o.filterMap (fun x=>es[x]?)).toList.Perm es.toList/\o.toList.Perm (List.range es.size):=by
 obtain ⟨a, h1, h2, b⟩ := Zk F (es.map (·.1)).toList (Array.replicate (SetTable.sizeAbove n - 1 + 1) none) 0 (by simp) (by
  have:Ts (Array.replicate (SetTable.sizeAbove n - 1+ 1) none) (SetTable.sizeAbove n - 1+ 1)=[]:=by
   unfold Ts;rw[List.filterMap_eq_nil_iff];intro j h;simp[Array.getD]
  rw [this]; exact .nil) (by simpa using hn)
 have g:SetTable.layClean (SetTable.sizeAbove n - 1) (es.map (·.1))=some a:=by
  unfold SetTable.layClean;rw[<-Array.foldl_toList];have f:List.foldl (EW (SetTable.sizeAbove n - 1)) (some (Array.replicate (SetTable.sizeAbove n - 1+ 1) none,0)) (es.map (·.1)).toList=_:=h1;exact(X3 _ f).trans rfl
 have c:(es.map (·.1)).toList.length=es.size:=by simp
 rw[c,WH]at b;have e:(List.map (fun x=>x.2) ((List.range (SetTable.sizeAbove n - 1+ 1)).filterMap fun j=>Option.map (fun x=>(j,x)) (a.getD j none)))=Ts a (SetTable.sizeAbove n - 1+ 1):=by
  unfold Ts;rw[List.map_filterMap]
  congr 1
  funext j
  cases a.getD j none <;> rfl
 refine⟨_,_,by unfold SetTable.relaid SetTable.laid;rw[g];rfl,rfl,?_,rfl,?_,?_⟩
 .show(List.toArray _).size=_;rw[Yg,Y1];have:((List.range (SetTable.sizeAbove n - 1+ 1)).filterMap fun j=>Option.map (fun x=>(j,x)) (a.getD j none)).length=(Ts a (SetTable.sizeAbove n - 1+ 1)).length:=by
   unfold Ts;rw[Ur,Ur]
   congr 1
   funext j
   simp
  rw[this,b.length_eq,YN]
 .rw[Array.toList_filterMap];show(List.filterMap _ (List.map _ _)).Perm _;rw[e];refine(b.filterMap _).trans (List.Perm.of_eq ?_);exact filterMap_getElem?_range es
 .show(List.map _ _).Perm _;rw[e];exact b
abbrev TK(P:WP)(w:WU):=tupleKind (Jo P w)
section
variable{prog:WP}{w:WU}{A:WT}{E:WM}{s:WQ}
theorem xC{k:Jw}{v:WW}(h:(Jo prog w).is k v=true):(∃n t,v= .int n t)\/∃z t,v= .str z t:=by
 cases k with
 |inl n=>
  cases v with
  |int i t=>exact .inl ⟨i,t,rfl⟩
  |_=>cases h
 |inr z=>
  cases v with
  |str i t=>exact .inr ⟨i,t,rfl⟩
  |_=>cases h
theorem OM:∀{ks:List Jw} {vs:WZ},PySem.ItemsAre (Jo prog w) ks vs->∀v∈vs,(∃n t,v= .int n t)\/∃z t,v= .str z t:=by
 intro ks vs h v a;obtain⟨k,b⟩:∃k,(Jo prog w).is k v=true:=by
  induction h with
  |nil=>cases a
  |cons h1 _ ih=>
   rcases Yo.mp a with rfl|a
   .exact⟨_,h1⟩
   .exact ih a
 exact xC b
theorem OJ{Q:Option Bool×Unit->Shared->Prop}{f:Value->Option Bool×Unit->Sem (ForInStep (Option Bool×Unit))}:∀ (l:WZ),(∀y∈l,∀R:ForInStep (Option Bool×Unit)->Shared->Prop,R (.yield (none,())) s->wpAny (model prog w) A (f y (none,())) R E s)->Q (none,()) s->wpAny (model prog w) A (forIn l (none,()) f) Q E s:=by
 intro l
 induction l with
 |nil=>intro _ a;exact Y2 a
 |cons y l ih=>
  intro hf a;rw[VA];exact Y0 (hf y (.head _) _ (ih (fun z b=>hf z (.tail _ b)) a))
theorem OL{a:WX}{k:List Jw}{Q:Bool->Shared->Prop}(hk:(TK prog w).is s.heap k a)(hQ:Q false s):wpAny (model prog w) A (ofAClassStatement 8 (.ref a)) Q E s:=by
 obtain⟨o,h,n,h1,h2,g,f⟩:=hk;show wpAny _ _ (ofAClassStatement (7+ 1) (.ref a)) _ _ _;unfold ofAClassStatement;have e:s.TypeIs (.ref a) "tuple":=⟨o,h1,h2⟩
 refine Y0 (VD e ?_);refine XF (by rfl) (Y0 (Y2 (Yy (by rfl) ?_)));refine Y0 (Y0 (Vx h1 ?_));rw[g];refine Y2 ?_;dsimp only;refine Y0 ?_;rw[<-Array.forIn_toList];refine OJ _ (fun y c R b=>?_) (Y2 hQ);rcases OM f y c with⟨n,t,rfl⟩|⟨z,t,rfl⟩
 .exact Y0 (Y2 (Yy (by rfl) (Y2 b)))
 .exact Y0 (Y2 (Yy (by rfl) (Y2 b)))
theorem gH{a:WX}{k:List Jw}(hk:(TK prog w).is s.heap k a)(l:WZ)(hl:∀y∈l,∃b k',y= .ref b/\(TK prog w).is s.heap k' b){Q:Bool->Shared->Prop}(hQ:Q false s):wpAny (model prog w) A (searchCouldBeSeen (.ref a) l) Q E s:=by
 unfold searchCouldBeSeen;refine Y0 (OJ _ (fun y f R e=>?_) (Y2 hQ));obtain⟨b,k',rfl,c⟩:=hl y f;dsimp only
 by_cases hc:(a==b||carriedByValue (.ref a) && carriedByValue (.ref b))=true
 .rw[Y6 hc];exact Y2 e
 .rw[Y5 hc];refine Y0 ((TK prog w).quiet hk (Yy (by rfl) (Y0 ((TK prog w).quiet c (Yy (by rfl) ?_)))));exact Y0 (OL hk (Yy (by rfl) (Y0 (OL c (Yy (by rfl) (Y2 e))))))
theorem vS{S a:WX}{o:Obj}{es:Array (Int×Value)}{ep:Nat}{t:SetTable}{k:List Jw}{Q:SetFound->Shared->Prop}(hr:(TK prog w).room A)(hk:(TK prog w).is s.heap k a)(ho:s.heap.get? S=some o)(hd:o.data= .set es ep t)(hf:t.fits es.size=true)(T:JG w t)(hg:t.gaveWay=false)
  (he:∀e∈es.toList,∃b k',e.2= .ref b/\(TK prog w).is s.heap k' b/\k'≠k) (hQ:∀j,t.slot j= .empty->Q (.free j false) s):∀ (d f:Nat) (stand:Option SetTable.Probe),R7 t d (stand.getD (t.probeStart ((TK prog w).hash k)))->d < f->d <=10*(t.mask+ 13)->
  wpAny (model prog w) A (setSearchFrom S (.ref a) ((TK prog w).hash k) true f stand) Q E s:=by
 intro d
 induction d using Nat.strongRecOn with
 |_ d ih=>
  intro f stand hn hdf hdm;obtain⟨f,rfl⟩:∃g,f=g+ 1:=⟨f - 1,by lia⟩;unfold setSearchFrom;refine Y0 (YL ho hd hf ?_);dsimp only;refine Yy (by rw[hg];rfl) ?_;unfold SetTable.probe;rcases vX (ha:=fun i=>(Option.map (fun x=>x.1) es[i]?).getD 0) (h:=(TK prog w).hash k) T.dum d (10*SetTable.turns t.mask) _ hn (by unfold SetTable.turns;lia) with⟨j,q1,q2⟩|⟨j,i,nx,q1,q2,q3,d',q4,q5⟩
  .generalize hgo:SetTable.probe.go t _ _ _ _=r;have e:r=some (.empty j none):=hgo.symm.trans q1;subst e;exact Y2 (hQ j q2)
  .generalize hgo:SetTable.probe.go t _ _ _ _=r;have e:r=some (.candidate j i nx):=hgo.symm.trans q1;subst e;dsimp only;have hi:i < es.size:=by
    unfold SetTable.slot at q2;dsimp only at q2
    split at q2
    .rename_i hb
     cases q2;have z:=eq_of_beq hb;have hz:t.place.size=es.size:=by
      have:=hf;unfold SetTable.fits at this;simp at this;exact this.1
     rw[<-hz];exact(Uc.mp z).1
    .split at q2 <;> cases q2
   obtain⟨b,k',n,u,q⟩:=he es[i] (W5 hi)
   by_cases hl:(!t.led)=true
   .rw[Y6 hl];refine Y0 (gH hk _ (fun y p=>?_) (Yy (by rfl) ?_))
    .obtain⟨e,h1,rfl⟩:=Y3.mp p;obtain⟨b,k',g1,g2,_⟩:=he e (by simp at h1;exact Vy.mpr h1.1);exact⟨b,k',g1,g2⟩
    obtain⟨hh,y,c⟩:∃hh y,es[i]=(hh,y):=⟨_,_,rfl⟩;have p:y= .ref b:=by rw[c]at n;exact n
    subst p;rw[Yz hi,c];refine Y0 (YK ((TK prog w).eqBool hr u hk ?_));rw[Yk q];refine Y0 (YL ho hd hf ?_);dsimp only;refine Yy (by rfl) ?_;rw[show t.sameMemory t.moves t.mask=some true by unfold SetTable.sameMemory;rw[Y6 (Vl _)]];dsimp only;rw[Y6 rfl,q2];dsimp only;rw[Yz hi,c];refine Y0 ?_;refine(?_:wpAny _ _ (if(b==b)=true then pure true else _) _ _ _);refine XF (by simp) (Y2 (Y0 (Y2 ?_)));exact Yy (by rfl) (ih d' q4 f (some nx) q5 (by lia) (by lia))
   .rw[Y5 hl];obtain⟨hh,y,c⟩:∃hh y,es[i]=(hh,y):=⟨_,_,rfl⟩;have p:y= .ref b:=by rw[c]at n;exact n
    subst p;rw[Yz hi,c];refine Y0 (YK ((TK prog w).eqBool hr u hk ?_));rw[Yk q];refine Y0 (YL ho hd hf ?_);dsimp only;refine Yy (by rfl) ?_;rw[show t.sameMemory t.moves t.mask=some true by unfold SetTable.sameMemory;rw[Y6 (Vl _)]];dsimp only;rw[Y6 rfl,q2];dsimp only;rw[Yz hi,c];refine Y0 ?_;refine(?_:wpAny _ _ (if(b==b)=true then pure true else _) _ _ _);refine XF (by simp) (Y2 (Y0 (Y2 ?_)));exact Yy (by rfl) (ih d' q4 f (some nx) q5 (by lia) (by lia))
end
def K1(w:WU)(R:List Jw->Addr->Prop)(o:Obj)(ks:List (List Jw)):Prop:=∃es ep t,o.ExactSet/\o.data= .set es ep t/\t.fits es.size=true/\JG w t/\(t.mask=7/\es.size <=4\/t.mask=31/\es.size <=8)/\es.size=ks.length/\∀e∈es.toList,∃b k',e.2= .ref b/\R k' b/\k'∈ks
section
variable{prog:WP}{w:WU}{A:WT}{E:WM}{s:WQ}
theorem vM{Q:Option Bool×Unit->Shared->Prop}{f:Value->Option Bool×Unit->Sem (ForInStep (Option Bool×Unit))}:∀ (l:WZ),(∀y∈l,∀R:ForInStep (Option Bool×Unit)->Shared->Prop,R (.yield (none,())) s->R (.done (some false,())) s->wpAny (model prog w) A (f y (none,())) R E s)->Q (none,()) s->Q (some false,()) s->wpAny (model prog w) A (forIn l (none,()) f) Q E s:=by
 intro l
 induction l with
 |nil=>intro _ b _;exact Y2 b
 |cons y l ih=>
  intro hf b a;rw[VA];exact Y0 (hf y (.head _) _ (ih (fun z c=>hf z (.tail _ c)) b a) (Y2 a))
theorem nL{a:WX}{k:List Jw}{Q:Bool->Shared->Prop}(hk:(TK prog w).is s.heap k a)(hQ:∀b,Q b s):wpAny (model prog w) A (hashByValue 8 (.ref a)) Q E s:=by
 obtain⟨o,j,n,h1,h2,i,h⟩:=hk;show wpAny _ _ (hashByValue (7+ 1) (.ref a)) _ _ _;unfold hashByValue;have g:s.TypeIs (.ref a) "tuple":=⟨o,h1,h2⟩
 refine Y0 (Wb g F.slot_tuple_hash.lookup ?_);dsimp only;refine Y0 (Y0 (Vx h1 ?_));rw[i];refine Y2 ?_;refine Y0 ?_;rw[<-Array.forIn_toList];refine vM _ (fun y f R e c=>?_) (Y2 (hQ true)) (Y2 (hQ false));rcases OM h y f with⟨n,t,rfl⟩|⟨z,t,rfl⟩
 .exact Y0 (Y2 (Yy (by rfl) (Y2 e)))
 .exact Y0 (Y2 (XF (by rfl) (Y2 c)))
theorem eC{S a:WX}{o:Obj}{ks:List (List Jw)}{k:List Jw}{Q:Bool->Shared->Prop}{R:List Jw->Addr->Prop}(hr:(TK prog w).room A)(hR:∀k a,R k a->(TK prog w).is s.heap k a)(hka:R k a)(ho:s.heap.get? S=some o)(hS:K1 w R o ks)(hn:ks.length <=7)(hnew:k∉ks)
  (hQ:∀ (o':Obj) (h':J6) (tk:Nat),K1 w R o' (ks++[k])->Heap.SameBut S s.heap h'->h'.get? S=some o'->Q true {s with heap:=h',toks:=tk}):wpAny (model prog w) A (setAdd S (.ref a)) Q E s:=by
 obtain⟨es,ep,t,hx,hd,hf,T,u,hsz,he⟩:=hS;have hk:=hR k a hka;have hz:t.place.size=es.size:=by
  have:=hf;unfold SetTable.fits at this;simp at this;exact this.1
 have F:Ex (t.mask+ 1):=by
  rcases u with⟨h,_⟩|⟨h,_⟩ <;> rw[h]
  .exact j6
  .exact QV
 unfold setAdd;refine YK (Y0 ((TK prog w).pyHash hr hk ?_));unfold setAddHashed;refine YK ?_;show wpAny _ _ (setAddHashedIn S (.ref a) ((TK prog w).hash k) (99999+ 1)) _ _ _;unfold setAddHashedIn;refine Y0 (YL ho hd hf ?_);dsimp only;refine Yy (by rfl) ?_;refine Y0 ?_;unfold setSearch;refine vS (s:={s with toks:=s.toks+ (TK prog w).draws k}) hr hk ho hd hf T (by unfold SetTable.gaveWay;rcases u with⟨h,_⟩|⟨h,_⟩ <;> rw[h] <;> rfl) (fun e h1=>?_) (fun j hj=>?_) (10*(t.mask+ 13)) 100000 none (rW F T.dum (by rcases u with⟨h,_⟩|⟨h,_⟩ <;> lia) _) (by rcases u with⟨h,_⟩|⟨h,_⟩ <;> rw[h] <;> decide) (Y8 _)
 .obtain⟨b,k',y,g2,g3⟩:=he e h1;exact⟨b,k',y,hR _ _ g2,fun z=>hnew (z▸g3)⟩
 refine Y0 (YL ho hd hf ?_);have T1:=T.put hj;have p1:=SetTable.insertAt_perm es (t.put j).2 ((TK prog w).hash k,.ref a);have z1:(t.put j).1.place.size=es.size+ 1:=by
  have:=(SetTable.insertAt_perm t.place (SetTable.below t.place j) j).length_eq;simp only[Array.length_toList,Array.size_push]at this;show(SetTable.insertAt t.place (SetTable.below t.place j) j).size=_;rw[this,hz]
 have z2:(SetTable.insertAt es (t.put j).2 ((TK prog w).hash k,Value.ref a)).size=es.size+ 1:=by
  have:=p1.length_eq;simpa using this
 have mk1:(t.put j).1.mask=t.mask:=rfl;generalize t.put j=z at T1 p1 z1 z2 mk1;obtain⟨t1,p⟩:=z;dsimp only at T1 p1 z1 z2 mk1 ⊢;generalize SetTable.insertAt es p ((TK prog w).hash k,Value.ref a)=es1 at p1 z2;have fin:∀ (f:Array (Int×Value)) (g:SetTable) (ep':Nat) (h':J6) (tk:Nat),f.toList.Perm es1.toList->g.fits f.size=true->JG w g->(g.mask=7/\f.size <=4\/g.mask=31/\f.size <=8)->Heap.SameBut S s.heap h'->h'.get? S=some {cls:=o.cls,dict:=o.dict,data:=.set f ep' g,slots:=o.slots}->Q true {s with heap:=h',toks:=tk}:=fun f g ep' h' tk q1 q2 q3 q4 q5 q6=>by
  refine hQ {cls:=o.cls,dict:=o.dict,data:=.set f ep' g,slots:=o.slots} h' tk ⟨f,ep',g,hx,rfl,q2,q3,q4,?_,fun e h1=>?_⟩ q5 q6
  .rw[Yl,UB,<-hsz,<-z2];simpa using q1.length_eq
  .have h2:=p1.mem_iff.mp (q1.mem_iff.mp h1);rw[Ve,Yp,Yb]at h2;rcases h2 with h2|rfl
   .obtain⟨b,k',y,g2,g3⟩:=he e h2;exact⟨b,k',y,g2,XV _ g3⟩
   .exact⟨a,k,rfl,hka,Yx _ (.head _)⟩
 have sl:∀n:Nat,n <=5000->n <=sizeLine:=fun n h=>by rw[YT];lia
 have tail : ∀ (c : SetTable), JG w c -> c.place.size = es.size + 1 -> c.mask = t.mask -> wpAny (model prog w) A (do
   storeSet S es1 c
   if(!false && c.tooFull)=true then do
     setRelay S (SetTable.grown (es.size+ 1))
     pure true
    else pure true) Q E { s with toks := s.toks + (TK prog w).draws k } := fun c T2 z3 m2 => by
  have f2:c.fits es1.size=true:=by
   unfold SetTable.fits SetTable.fill;rw[T2.dum,z3,z2,m2];simp;rcases u with⟨h,_⟩|⟨h,_⟩ <;> lia
  have fl:c.fill=es.size+ 1:=by unfold SetTable.fill;rw[T2.dum,z3];rfl
  refine Y0 (Vf ho hd ?_ (sl _ (by rcases u with⟨h,_⟩|⟨h,_⟩ <;> lia)));have q:=putSet_of es1 c hd;have y:(s.heap.update S (Obj.putSet es1 c)).get? S=some {cls:=o.cls,dict:=o.dict,data:=Data.set es1 (ep+ 1) c,slots:=o.slots}:=by
   rw[YB _ ho (by rw[q];exact C0 hx),q]
  have b1:Heap.SameBut S s.heap (s.heap.update S (Obj.putSet es1 c)):=⟨YW ..,fun b hb=>YX _ _ _ _ hb⟩
  by_cases hc:(!false && c.tooFull)=true
  .rw[Y6 hc];have i:c.fill*5≥c.mask*3:=by simpa[SetTable.tooFull] using hc
   rw[fl,m2]at i;have h5:es.size=4/\t.mask=7:=by
    rcases u with⟨h,h2⟩|⟨h,h2⟩
    .rw[h]at i;exact⟨by lia,h⟩
    .rw[h]at i;exfalso;lia
   rw[h5.1];unfold setRelay;refine Y0 (Y0 (YL y rfl f2 ?_));dsimp only;refine Yy (by decide +kernel) ?_;obtain⟨g,o',r1,r2,r3,r4,r5,_⟩:=nJ (t:=c) (es:=es1) (n:=SetTable.grown (4+ 1)) (by rw[show SetTable.sizeAbove (SetTable.grown (4+ 1)) - 1+ 1=32 by decide +kernel];exact QV) (by rw[show SetTable.sizeAbove (SetTable.grown (4+ 1)) - 1+ 1=32 by decide +kernel,z2];lia);rw[r1];have r:(o'.filterMap (fun x=>es1[x]?)).size=es1.size:=by rw[<-Array.length_toList,r5.length_eq,Array.length_toList]
   have T3:=T2.laid r1;refine Y0 (?_:wpAny _ _ (if((o'.filterMap (fun x=>es1[x]?)).size !=es1.size)=true then _ else pure (o'.filterMap (fun x=>es1[x]?),g)) _ _ _);refine Yy (by simp[r]) (Y2 ?_);dsimp only;refine Vf y rfl (Y2 ?_) (sl _ (by rw[r];lia));have q2:=putSet_of (o:={cls:=o.cls,dict:=o.dict,data:=Data.set es1 (ep+ 1) c,slots:=o.slots}) (o'.filterMap (fun x=>es1[x]?)) g rfl;refine fin _ g (ep+ 2) _ _ r5 ?_ T3 (.inr ⟨?_,by rw[r];lia⟩) ⟨by rw[YW,YW],fun b hb=>by rw[YX _ _ _ _ hb];exact b1.2 b hb⟩ ?_
   .unfold SetTable.fits SetTable.fill;rw[r4,r3,r,r2,show SetTable.sizeAbove (SetTable.grown (4+ 1)) - 1=31 by decide +kernel];simp;lia
   .rw[r2];decide +kernel
   .rw[YB _ y (by rw[q2];exact C0 hx),q2]
  .rw[Y5 hc];refine Y2 (fin _ _ _ _ _ (V9 _) f2 T2 ?_ b1 y);have i:¬c.fill*5≥c.mask*3:=by simpa[SetTable.tooFull] using hc
   rw[fl,m2]at i;rw[m2,z2];rcases u with⟨h,h2⟩|⟨h,h2⟩
   .rw[h]at i;exact .inl ⟨h,by lia⟩
   .exact .inr ⟨h,by lia⟩
 by_cases hp:t1.plain=true
 .rw[Y6 hp];refine Y0 (nL hk fun bv=>?_);refine tail _ (T1.plain bv) ?_ ?_
  .cases bv <;> exact z1
  .cases bv <;> exact mk1
 .rw[Y5 hp];exact Y0 (Y2 (tail t1 T1 z1 mk1))
end
section
variable{X:Cx}{K:WV}
def Ef(k:Ky):List Jw:=[.inl k.1,.inr k.2.1,.inr k.2.2]
theorem bW{a b:Ky}(h:Ef a=Ef b):a=b:=by
 obtain⟨j,i,g⟩:=a;obtain⟨f,e,c⟩:=b;unfold Ef at h;simp at h;obtain⟨rfl,rfl,rfl⟩:=h;rfl
def Kf(K:WV):List V->Hp->VK->Prop:=fun as H Q=>∃ (p:WX) (ts:List Addr) (c:List Ky),as=[.ref p]/\Jh K H p (ts.map V.ref)/\ts.length=c.length/\(∀ (i:Nat) t k,ts[i]?=some t->c[i]?=some k->H t=some (.tup (DI k)))/\c.Nodup/\c.length <=8/\∀ (o:Obj) l G,Kk o c.length->H l=none->Jb H G->G l=some (.frz o (.own l))->Q (.ref l) G
theorem bA(hc:X.calm=true)(hu:X.A.units+ 64 < cLine)(h:X.K=K):JA X (.type "set") (Kf K):=by
 subst h;intro pins s σ H xs us Q I r hh;obtain⟨p,g,c,rfl,hq,htl,htk,hnd,hl,q⟩:=hh;obtain⟨u,rfl,rx⟩:=DO r;cases rx;obtain⟨f,rv,pl,hz⟩:=I.list hq;have ab:g.length=f.length:=by simpa using rv.length
 refine QC (fun i o=>K1 X.w (fun k b=>∃a:Ky,k=Ef a/\H b=some (.tup (DI a))) o ((c.take i).map Ef)) (I.ok.hd hc) pl.isList ?_ (fun i v o s' A' E' Q' hv hj n hk hu' hQ=>?_) fun o h' tk hj n hk=>?_
 .exact⟨#[],0,SetTable.fresh 0 0 (!Df X.w),⟨rfl,rfl,rfl⟩,rfl,rfl,⟨rfl,rfl,.nil⟩,.inl ⟨rfl,Ys _⟩,rfl,fun e he=>by simp at he⟩
 .have x:f[i]?=some v:=by simpa using hv
  have hi:i < f.length:=(Ym.mp x).1;have hx:(g.map V.ref)[i]?=some (V.ref (g[i]'(by lia))):=by rw[Y9,Y4 (by lia)];rfl
  obtain⟨u,y,ru⟩:=rv.get (i:=i) hx;rw[x]at y;cases y;cases ru;have hk2:H (g[i]'(by lia))=some (.tup (DI (c[i]'(by lia)))):=htk i _ _ (Y4 (by lia)) (Y4 (by lia));refine eC (k:=Ef (c[i]'(by lia))) (R:=fun k b=>∃a:Ky,k=Ef a/\H b=some (.tup (DI a))) (show A'.units < cLine by lia) (fun k b ⟨a,e1,e2⟩=>?_) ⟨_,rfl,hk2⟩ n hj (by rw[Y1,Yt];lia) (fun z=>?_) fun o' h' tk hS hsb ho'=>hQ true o' h' tk ?_ hsb ho'
  .obtain⟨o1,i1,n1,a1,a2,a3,a4⟩:=Rs (ks:=Ef a) I.hok e2;subst e1;exact⟨o1,i1,n1,hk _ _ a1,a2,a3,a4⟩
  .obtain⟨a,h1,h2⟩:=Y3.mp z;rw[bW h2]at h1;obtain⟨j,hj1,aa⟩:=UP h1;rw[Yt]at hj1;rw[List.getElem_take]at aa;exact UV.mp hnd j i (by lia) (by lia) (by lia) aa
  .rw[Vp (by lia),List.map_append];exact hS
 .obtain⟨es,ep,t,h1,h3,h4,_,_,h5,_⟩:=hj;have hf:H s.heap.objs.size=none:=I.hok.fresh (Y8 _);refine⟨.ref s.heap.objs.size,upd H s.heap.objs.size (.frz o (.own s.heap.objs.size)),I.laid (t':=tk) hk (Y8 _) ⟨n,_,n⟩,rfl,q o _ _ ⟨es,ep,t,h1,h3,h4,?_⟩ hf (MD hf) Nc⟩;rw[h5,Y1,Yg,<-ab,htl,Yu (Y8 _)]
end
def tm(mask:Nat):SetTable:={mask:=mask,place:=#[],dummies:=#[],finger:=0,led:=true,moves:=0,plain:=true}
def mI(x:V)(Q:Int->Prop):Prop:=match x with| .int i=>Q i|_=>False
def mB(x:V)(Q:Bool->Prop):Prop:=match x with| .bl i=>Q i|_=>False
def mR(x:V)(Q:Addr->Prop):Prop:=match x with| .ref i=>Q i|_=>False
def mV(x:Option (Option V))(Q:V->Prop):Prop:=match x with|some (some v)=>Q v|_=>False
def mA(x:List V)(Q:V->Prop):Prop:=match x with|[v]=>Q v|_=>False
def mC(c:Bool)(A B:Prop):Prop:=if c=true then A else B
theorem ZA(A B:Prop):mC true A B=A:=rfl
theorem ZB(A B:Prop):mC false A B=B:=rfl
theorem eF(c:TT)(t u:TS)(D:TQ)(σ:St)(H:Hp):HL c t u D σ H=c σ H fun b H1=>mC b (t D σ H1) (u D σ H1):=rfl
theorem vI(t u:TT)(σ:St)(H:Hp)(Q:Bool->Hp->Prop):Lb t u σ H Q=t σ H fun c H1=>mC c (u σ H1 Q) (Q false H1):=rfl
theorem n9(t u:TT)(σ:St)(H:Hp)(Q:Bool->Hp->Prop):Ku t u σ H Q=t σ H fun c H1=>mC c (Q true H1) (u σ H1 Q):=rfl
theorem Zw(t:TT)(ta tb:TE)(σ:St)(H:Hp)(Q:VK):HC t ta tb σ H Q=t σ H fun c H1=>mC c (ta σ H1 Q) (tb σ H1 Q):=rfl
theorem Ly(i:Int)(Q:Int->Prop):mI (.int i) Q=Q i:=rfl
theorem IK(i:Bool)(Q:Bool->Prop):mB (.bl i) Q=Q i:=rfl
theorem P2(i:WX)(Q:Addr->Prop):mR (.ref i) Q=Q i:=rfl
theorem Hm(v:V)(Q:V->Prop):mV (some (some v)) Q=Q v:=rfl
theorem Sj(v:V)(Q:V->Prop):mA [v] Q=Q v:=rfl
theorem Ej(x:V)(Q:Int->Prop):mI x Q=∃i,x= .int i/\Q i:=propext ⟨fun h=>by cases x <;> first|exact⟨_,rfl,h⟩|exact h.elim,fun⟨_,e,h⟩=>by subst e;exact h⟩
theorem Fn(x:V)(Q:Bool->Prop):mB x Q=∃i,x= .bl i/\Q i:=propext ⟨fun h=>by cases x <;> first|exact⟨_,rfl,h⟩|exact h.elim,fun⟨_,e,h⟩=>by subst e;exact h⟩
theorem Gw(x:V)(Q:Addr->Prop):mR x Q=∃i,x= .ref i/\Q i:=propext ⟨fun h=>by cases x <;> first|exact⟨_,rfl,h⟩|exact h.elim,fun⟨_,e,h⟩=>by subst e;exact h⟩
theorem Qn(x:Option (Option V))(Q:V->Prop):mV x Q=∃v,x=some (some v)/\Q v:=propext ⟨fun h=>by rcases x with _|_|v <;> first|exact⟨_,rfl,h⟩|exact h.elim,fun⟨_,e,h⟩=>by subst e;exact h⟩
theorem Br(x:List V)(Q:V->Prop):mA x Q=∃v,x=[v]/\Q v:=propext ⟨fun h=>by rcases x with _|⟨v,_|⟨u,l⟩⟩ <;> first|exact⟨_,rfl,h⟩|exact h.elim,fun⟨_,e,h⟩=>by subst e;exact h⟩
section
variable{X:Cx}{K:WV}
def Ba(i:Nat):TE:=fun σ H Q=>mV σ[i]? fun v=>Q v H
theorem J9(i:Nat){x:Str}{pos:Pos}(hN:X.N[i]?=some x:=by rfl)(hv:AK X.env.scope x:=by first|exact Or.inl rfl|exact Or.inr (Or.inl rfl)|exact Or.inr (Or.inr rfl))(hd:(x==("__debug__":Str))=false:=by decide)(hcd:(x==("__classdict__":Str))=false:=by decide):PE X (.Name x pos) (Ba i):=
 fun pins s σ H Q I h=>pv i hN hv hd hcd pins s σ H Q I (by unfold Ba at h;rw[Qn]at h;exact h)
def FC(C:Int->Int->Prop)(g:Int->Int->V):R2:=fun x y H Q=>mI x fun i=>mI y fun j=>C i j/\Q (g i j) H
def Ay(g:Int->Int->V):R2:=fun x y H Q=>mI x fun i=>mI y fun j=>Q (g i j) H
theorem dI{f:Value->Value->Sem Value}{C:Int->Int->Prop}{g:Int->Int->V}(h:Nd X f (rI C g)):Nd X f (FC C g):=h.imp fun x y H Q q=>by
 unfold FC at q;simp only[Ej]at q;obtain⟨i,e,j,a,q⟩:=q;exact⟨i,j,e,a,q⟩
theorem NG{f:Value->Value->Sem Value}{g:Int->Int->V}(h:Nd X f (Rm g)):Nd X f (Ay g):=h.imp fun x y H Q q=>by
 unfold Ay at q;simp only[Ej]at q;obtain⟨i,e,j,a,q⟩:=q;exact⟨i,j,e,a,q⟩
def AA:R2:=fun x y H Q=>match x,y with
 | .int a,.int b=>Dr (.int a) (.int b)=true/\Q (.bl (decide (a=b))) H
 | .str a,.str b=>Dr (.str a) (.str b)=true/\Q (.bl (decide (a=b))) H
 |x,y=>Dr x y=true/\Q (.bl (decide (x=y))) H
def Ab:R2:=fun x y H Q=>match x,y with
 | .int a,.int b=>Dr (.int a) (.int b)=true/\Q (.bl (!decide (a=b))) H
 | .str a,.str b=>Dr (.str a) (.str b)=true/\Q (.bl (!decide (a=b))) H
 |x,y=>Dr x y=true/\Q (.bl (!decide (x=y))) H
theorem Z1(a b:Int)(H:Hp)(Q:VK):AA (.int a) (.int b) H Q=(Dr (.int a) (.int b)=true/\Q (.bl (decide (a=b))) H):=rfl
theorem Q2(a b:Str)(H:Hp)(Q:VK):AA (.str a) (.str b) H Q=(Dr (.str a) (.str b)=true/\Q (.bl (decide (a=b))) H):=rfl
theorem QE(a b:Int)(H:Hp)(Q:VK):Ab (.int a) (.int b) H Q=(Dr (.int a) (.int b)=true/\Q (.bl (!decide (a=b))) H):=rfl
theorem Sm(a b:Str)(H:Hp)(Q:VK):Ab (.str a) (.str b) H Q=(Dr (.str a) (.str b)=true/\Q (.bl (!decide (a=b))) H):=rfl
theorem SC(x y:V)(H:Hp)(Q:VK):AA x y H Q=(Dr x y=true/\Q (.bl (decide (x=y))) H):=by
 unfold AA
 split
 .simp[Dr]
 .simp[Dr]
 .rfl
theorem Oi(x y:V)(H:Hp)(Q:VK):Ab x y H Q=(Dr x y=true/\Q (.bl (!decide (x=y))) H):=by
 unfold Ab
 split
 .simp[Dr]
 .simp[Dr]
 .rfl
theorem MI{f:Value->Value->Sem Value}(h:Nd X f C3):Nd X f AA:=h.imp fun x y H Q q=>by rw[SC]at q;exact q
theorem Bw{f:Value->Value->Sem Value}(h:Nd X f CA):Nd X f Ab:=h.imp fun x y H Q q=>by rw[Oi]at q;exact q
def RB(t:TE):TT:=fun σ H Q=>t σ H fun x H1=>mB x fun c=>Q c H1
theorem Z6(t:TE):tB t=RB t:=by unfold tB RB;simp only[Fn]
theorem cB{e:J7}{t:TE}(h:PT X e (tB t)):PT X e (RB t):=Z6 t▸h
theorem cT{e:J7}{t:TE}(h:PT X e (A7 t)):PT X e (RB t):=Z6 t▸h
def BB(ta tb:TE):TE:=fun σ H Q=>ta σ H fun x H1=>mB x fun c=>mC c (tb σ H1 Q) (Q (.bl false) H1)
def BF(ta:TE):TE:=fun σ H Q=>ta σ H fun x H1=>mB x fun c=>Q (.bl (!c)) H1
theorem d8{e:J7}{ta tb:TE}(h:PE X e (B8 ta tb)):PE X e (BB ta tb):=by
 have:BB ta tb=B8 ta tb:=by unfold BB B8 mC;simp only[Fn]
 rw[this];exact h
theorem y8{e:J7}{ta:TE}(h:PE X e (Bj ta)):PE X e (BF ta):=by
 have:BF ta=Bj ta:=by unfold BF Bj;simp only[Fn]
 rw[this];exact h
def Fj(K:WV):List V->Hp->VK->Prop:=fun xs H Q=>mA xs fun x=>mR x fun p=>∃ys,(Jh K H p ys\/JC K H p ys)/\Q (.int ys.length) H
theorem Da{f:WW}(h:JA X f (CV K)):JA X f (Fj K):=h.imp fun xs H Q q=>by
 unfold Fj at q;simp only[Br,Gw]at q;obtain⟨x,e,p,rfl,ys,h1,q⟩:=q;exact⟨p,ys,e,h1,q⟩
theorem GW.imp{r r':R2}(h:GW X r)(hi:∀x y H Q,r' x y H Q->r x y H Q):GW X r':=fun a b pins s σ H x y v u Q I e c q z=>h a b pins s σ H x y v u Q I e c (hi _ _ _ _ q) z
def BS(K:WV):R2:=fun x y H Q=>mR x fun p=>∃xs,mI y fun i=>Jh K H p xs/\∃v,Du xs i=some v/\Q v H
def Aj(K:WV):R2:=fun x y H Q=>mR x fun p=>∃xs,mI y fun i=>JC K H p xs/\∃v,Du xs i=some v/\Q v H
theorem jA(h:GW X (Az K)):GW X (BS K):=h.imp fun x y H Q q=>by
 unfold BS at q;simp only[Ej,Gw]at q;obtain⟨p,e,xs,i,a,h1,v,h2,q⟩:=q;exact⟨p,xs,i,v,e,a,h1,h2,q⟩
theorem gP(h:GW X (A9 K)):GW X (Aj K):=h.imp fun x y H Q q=>by
 unfold Aj at q;simp only[Ej,Gw]at q;obtain⟨p,e,xs,i,a,h1,v,h2,q⟩:=q;exact⟨p,xs,i,v,e,a,h1,h2,q⟩
def CK:V->List V->Hp->VK->Prop:=fun x vs H Q=>mR x fun l=>mA vs fun y=>∃xs,H l=some (.lst xs)/\xs.length < sizeLine/\∀G,Nj l H G->G l=some (.lst (xs++[y]))->Q .non G
theorem R4{id:String}(h:Dy X id FK):Dy X id CK:=h.imp fun x vs H Q q=>by
 unfold CK at q;simp only[Br,Gw]at q;obtain⟨l,e,y,a,xs,h1,h2,q⟩:=q;exact⟨l,xs,y,e,a,h1,h2,q⟩
def AR(K:WV):List V->Hp->VK->Prop:=fun vs H Q=>mA vs fun x=>mR x fun p=>∃ys,(Jh K H p ys\/JC K H p ys)/\∀l G,H l=none->Jb H G->G l=some (.lst ys)->Q (.ref l) G
theorem SJ{f:WW}(h:JA X f (CQ K)):JA X f (AR K):=h.imp fun xs H Q q=>by
 unfold AR at q;simp only[Br,Gw]at q;obtain⟨x,e,p,rfl,ys,h1,q⟩:=q;exact⟨p,ys,e,h1,q⟩
def AQ:R2:=fun x y H Q=>mR x fun l=>mR y fun b=>∃xs,H l=some (.lst xs)/\∃zs,H b=some (.lst zs)/\xs.length+ zs.length <=sizeLine/\∀p G,H p=none->Jb H G->G p=some (.lst (xs++zs))->Q (.ref p) G
theorem CJ{f:Value->Value->Sem Value}(h:Nd X f CZ):Nd X f AQ:=h.imp fun x y H Q q=>by
 unfold AQ at q;simp only[Gw]at q;obtain⟨l,e,b,a,xs,h1,zs,h2,q⟩:=q;exact⟨l,b,xs,zs,e,a,h1,h2,q⟩
def Bp(ta:TA):TI:=fun σ H R=>ta σ H fun vs H1=>mA vs fun x=>mI x fun j=> -(2 ^ 62) <=j/\j < 2 ^ 62/\R (Rv 0 j.toNat) H1
theorem vJ{tg e:J7}{ta:TA}(h:PI X tg e (Bk ta)):PI X tg e (Bp ta):=by
 have:Bp ta=Bk ta:=by
  unfold Bp Bk
  funext σ H R;congr;funext vs H1
  simp only[Br,Ej];exact propext ⟨fun⟨x,e,j,e2,q⟩=>⟨j,by rw[e,e2],q⟩,fun⟨j,e,q⟩=>⟨_,e,j,rfl,q⟩⟩
 rw[this];exact h
def Bc(K:WV)(tl:TE):TI:=fun σ H R=>tl σ H fun x H1=>mR x fun a=>(∃xs,Jh K H1 a xs)/\R (RX K a) H1
theorem Zo{tg e:J7}{tl:TE}(h:PI X tg e (EH K tl)):PI X tg e (Bc K tl):=by
 have:Bc K tl=EH K tl:=by unfold Bc EH;simp only[Gw]
 rw[this];exact h
def Cs(K:WV):R2:=fun x y H Q=>mR x fun a=>mR y fun b=>∃xs,Jh K H a xs/\Jh K H b []/\Q (.bl (!decide (xs.length=0))) H
def C7(K:WV):R2:=fun x y H Q=>mR x fun a=>mR y fun b=>∃xs,Jh K H a xs/\Jh K H b []/\Q (.bl (decide (xs.length=0))) H
theorem vT{f:Value->Value->Sem Value}(h:Nd X f (Fm K)):Nd X f (Cs K):=h.imp fun x y H Q q=>by
 unfold Cs at q;simp only[Gw]at q;obtain⟨a,e,b,c,xs,h1,h2,q⟩:=q;exact⟨a,b,xs,e,c,h1,h2,q⟩
theorem Al{f:Value->Value->Sem Value}(h:Nd X f (Cw K)):Nd X f (C7 K):=h.imp fun x y H Q q=>by
 unfold C7 at q;simp only[Gw]at q;obtain⟨a,e,b,c,xs,h1,h2,q⟩:=q;exact⟨a,b,xs,e,c,h1,h2,q⟩
def Cz:R2:=fun y x H Q=>mI y fun n=>mR x fun a=>∃kvs,H a=some (.dK kvs)/\Q (.bl (JE kvs (Sum.inl n)).isSome) H
def CN:R2:=fun y x H Q=>mI y fun n=>mR x fun a=>∃kvs,H a=some (.dK kvs)/\Q (.bl (!(JE kvs (Sum.inl n)).isSome)) H
theorem bS{f:Value->Value->Sem Value}(h:Nd X f CT):Nd X f Cz:=h.imp fun x y H Q q=>by
 unfold Cz at q;simp only[Gw,Ej]at q;obtain⟨n,e,a,b,kvs,h1,q⟩:=q;exact⟨a,n,kvs,e,b,h1,q⟩
theorem aI{f:Value->Value->Sem Value}(h:Nd X f Cb):Nd X f CN:=h.imp fun x y H Q q=>by
 unfold CN at q;simp only[Gw,Ej]at q;obtain⟨n,e,a,b,kvs,h1,q⟩:=q;exact⟨a,n,kvs,e,b,h1,q⟩
def Cr(K:WV):V->Option Int->Option Int->Hp->VK->Prop:=fun x lo hi H Q=>mR x fun a=>∃xs,Jh K H a xs/\∀p G,H p=none->Jb H G->G p=some (.lst (Rp xs lo hi))->Q (.ref p) G
theorem Si(h:RT X (Fw K)):RT X (Cr K):=h.imp fun x lo hi H Q q=>by
 unfold Cr at q;simp only[Gw]at q;obtain⟨a,e,xs,q⟩:=q;exact⟨a,xs,e,q⟩
def Fe:V->List V->Hp->VK->Prop:=fun x vs H Q=>mR x fun l=>mA vs fun y=>mR y fun b=>∃xs,H l=some (.lst xs)/\∃zs,H b=some (.lst zs)/\xs.length+ zs.length <=sizeLine/\∀G,Nj l H G->G l=some (.lst (xs++zs))->Q .non G
theorem dP{id:String}(h:Dy X id Fu):Dy X id Fe:=h.imp fun x vs H Q q=>by
 unfold Fe at q;simp only[Br,Gw]at q;obtain⟨l,e,y,a,b,rfl,xs,h1,zs,h2,q⟩:=q;exact⟨l,b,xs,zs,e,a,h1,h2,q⟩
variable{a b:J7}{ta tb:TE}{rest:List Expr}{pos:Pos}
theorem Mj{e:J7}{t:TE}(h:PE X e t)(he:∀whole,isTrue e X.env whole=(do let v <-whole;standAt e.pos;holding [v] (truthy v)):=by intro _;rfl):PT X e (RB t):=cB (bF h he)
theorem GZ{op:CmpOp}{r:R2}(ho:Nd X (compareOp op) r)(ha:PE X a ta)(hb:PE X b tb)(hm:behindInMarks op b=false):PT X (.Compare a [op] [b] pos) (RB (GN r ta tb)):=cT (Zn ho ha hb hm)
theorem D9(ha:PE X a ta)(hb:PE X (.BoolOp .And (b::rest) pos) tb):PE X (.BoolOp .And (a::b::rest) pos) (BB ta tb):=d8 (bP ha hb)
theorem OY(ha:PE X a ta):PE X (.UnaryOp .Not a pos) (BF ta):=y8 (xI ha)
theorem BA{tg a:J7}{ta:TA}{p pos:Pos}(hg:Gl X "range")(hm:X.mg "range"=none)(ha:PA X [a] ta)(hs:starEach [a] X.env=[(false,eval a X.env)]:=by rfl):PI X tg (.Call (.Name "range" p) [a] [] pos) (Bp ta):=vJ (jC hg hm ha hs)
theorem Dt{tg l:J7}{tl:TE}(h:X.K=K)(hl:PE X l tl):PI X tg l (Bc K tl):=Zo (wL h hl)
end
theorem _root_.L2.Room.m{j k:Nat}{A:WT}(r:Room k A)(h:j <=k:=by decide):Room j A:=r.mono h
section
variable{X:Cx}{es:List Expr}{t:TA}{te ta tb:TE}{pos:Pos}{x:Str}{ps N:List Str}{a b:J7}
theorem Jk(i:Nat)(hr:PA X es t)(hN:X.N[i]?=some x:=by rfl)(hv:AK X.env.scope x:=by first|exact Or.inl rfl|exact Or.inr (Or.inl rfl)|exact Or.inr (Or.inr rfl))(hd:(x==("__debug__":Str))=false:=by decide)(hcd:(x==("__classdict__":Str))=false:=by decide):PA X (.Name x pos::es) (DN (Ba i) t):=JM (J9 i hN hv hd hcd) hr Gv
theorem M9{v:Const}{k:Nat}(ha:PE X (.Constant v k pos) te)(hr:PA X es t):PA X (.Constant v k pos::es) (DN te t):=JM ha hr MX
theorem MV(ha:PE X (.Subscript a b pos) te)(hr:PA X es t):PA X (.Subscript a b pos::es) (DN te t):=JM ha hr yA
theorem D8(ha:PE X (.Attribute a x pos) te)(hr:PA X es t):PA X (.Attribute a x pos::es) (DN te t):=JM ha hr d9
theorem MU{gs:List Expr}{ks:List Keyword}(ha:PE X (.Call a gs ks pos) te)(hr:PA X es t):PA X (.Call a gs ks pos::es) (DN te t):=JM ha hr yI
theorem T6(i:Nat){pos':Pos}(S:Nm X.N ps X.env.scope)(he:PE X a te)(hi:X.N[i]?=some x:=by rfl)(hx:EU X.env.scope x:=by exact Or.inl rfl)(hs:swapsWith a (some (.Name x pos')) pos.line X.env=pure false:=by rfl)(hf:X.fn x=true\/X.env.scope.names.lookup x=some .local:=by first|exact .inl rfl|exact .inr rfl|assumption):
  PS X (.Assign [.Name x pos'] a pos) (Eg te (Gs i)):=B0 S.nd hi hx he hs hf
theorem MB(i:Nat)(S:Nm X.N ps X.env.scope)(hi:X.N[i]?=some x:=by rfl)(hx:EU X.env.scope x:=by exact Or.inl rfl)(hf:X.fn x=true\/X.env.scope.names.lookup x=some .local:=by first|exact .inl rfl|exact .inr rfl|assumption):PG X (.Name x pos) (Gs i):=Ms S.nd hi hx hf
theorem No(K:WV)(he:PE X a te)(h:X.K=K:=by rfl)(hb:attributeBase a x X.env (eval a X.env)=eval a X.env:=by rfl):PE X (.Attribute a x pos) (C8 K te x):=jE h he hb
theorem De(K:WV)(ha:PE X a ta)(hb:PE X b tb)(h:X.K=K:=by rfl)(hs:KU b:=by exact fun _ _=>rfl):PE X (.Subscript a b pos) (GN (BS K) ta tb):=Ia (jA (Qt h)) ha hb hs
theorem Tr(K:WV)(ha:PE X a ta)(hb:PE X b tb)(h:X.K=K:=by rfl)(hs:KU b:=by exact fun _ _=>rfl):PE X (.Subscript a b pos) (GN (Aj K) ta tb):=Ia (gP (aV h)) ha hb hs
theorem NT{op:CmpOp}{r:R2}(ho:Nd X (compareOp op) r)(ha:PE X a ta)(hb:PE X b tb)(hm:behindInMarks op b=false:=by exact Dh _):PT X (.Compare a [op] [b] pos) (RB (GN r ta tb)):=GZ ho ha hb hm
theorem GX{k:Nat}{A:WT}(hr:Room k A)(ha:PE X a ta)(hb:PE X b tb)(e:X.A=A:=by rfl)(hs:HH b:=by exact fun _ _=>rfl):PE X (.Subscript a b pos) (FB ta tb):=d0 (e▸DL hr) ha hb hs
theorem NP{id:String}{r:List V->Hp->VK->Prop}{p:Pos}(hc:JA X (.builtin id) r)(hm:X.mg x=none)(ha:PA X (a::es) t)(hg:Gl X x:=by rfl)(hv:bootBuiltins x=some (.builtin id):=by rfl)(hn:x≠"__name__":=by decide)(hdb:(x==("__debug__":Str))=false:=by decide)
  (he:starEach (a::es) X.env=(false,eval a X.env)::starEach es X.env:=by rfl) (hpl:(backTo pos (starEach es X.env)).any (·.1)=false:=by rfl):PE X (.Call (.Name x p) (a::es) [] pos) (Av r t):=yH hc hg hm hv ha hn hdb he hpl
end
end L2
namespace HT
open PySem PyProof.Rows
end HT
namespace L2
open PySem PySem.Spec PyProof.Rows PySem.W
instance:DecidableEq EY.α:=inferInstanceAs (DecidableEq Ky)
instance:DecidableEq EX.α:=inferInstanceAs (DecidableEq Int)
section
variable{X:Cx}{K:WV}
def O8(ta:TA):TE:=fun σ H Q=>ta σ H fun vs H1=>∃i j:Int,vs=[.int i,.int j]/\∀r G,H1 r=none->Jb H1 G->G r=some (Ci i j r)->Q (.ref r) G
theorem Oh{a b:J7}{ta:TA}{p pos:Pos}(hg:Gl X "range")(hm:X.mg "range"=none)(ha:PA X [a,b] ta)(hs:starEach [a,b] X.env=[(false,eval a X.env),(false,eval b X.env)]:=by rfl)(hs2:starEach [b] X.env=[(false,eval b X.env)]:=by rfl):PE X (.Call (.Name "range" p) [a,b] [] pos) (O8 ta):=by
 intro pins s σ H Q I h;refine Call_ (BO I hg hm boot_range (UG (JH (ha pos pins s σ H _ I h) fun w c ⟨vs,H1,f,g,n⟩=>?_) (by rw[hs,hs2]) (by rw[hs2];rfl)));obtain⟨i,j,e,q⟩:=n;subst e;cases g with
 |cons r rr=>
  cases rr with
  |cons r' rr=>
   cases rr;obtain⟨t,rfl⟩:=r;obtain⟨y,rfl⟩:=r';refine call_range_2 ?_;have hf:=f.hok.fresh (Y8 c.heap.objs.size);refine⟨.ref c.heap.objs.size,upd H1 c.heap.objs.size (Ci i j c.heap.objs.size),f.laid (fun b o z=>Y7 _ z) (Y8 _) ⟨⟨_,_,_,IsRange.new ..⟩,⟨_,Yc _ rfl⟩,?_⟩,rfl,q _ _ hf (MD hf) Nc⟩;rintro h1 h2 ⟨t,u,v,x⟩ k;exact⟨t,u,v,k _ x⟩
def Kl:List V->Hp->VK->Prop:=fun as H Q=>∃ (r:WX) (lo:Int) (n:Nat),as=[.ref r]/\H r=some (Ci lo (lo+ (n:Int)) r)/\0 <=lo/\lo <=100000/\n <=100000/\∀l G,H l=none->Jb H G->G l=some (.lst ((List.range n).map fun i:Nat=>V.int (lo+ (i:Int))))->Q (.ref l) G
theorem QL(hc:X.calm=true):JA X (.type "list") Kl:=by
 intro pins s σ H xs us Q I r h;obtain⟨a,lo,n,rfl,ha,hl0,hl1,hn,q⟩:=h;obtain⟨u,rfl,p⟩:=DO r;cases p;obtain⟨⟨t,u,v,x⟩,_⟩:=(show Jy X.prog X.w H s.heap a (Ci lo (lo+ (n:Int)) a) from I.hok a _ ha);have g:Builtin.Range.rangeSize lo (lo+ (n:Int)) 1=(n:Int):=by rw[rangeSize_one];split <;> lia
 refine call_list_range (I.ok.hd hc) x (small_one (by lia) (by lia) (by lia) (by lia)) g (by lia) fun h' tk c c' z hS b=>?_
 have hf:=I.hok.fresh (Y8 s.heap.objs.size);have y:c.toList.length=n:=by rw[Array.length_toList];exact b.1
 refine⟨.ref s.heap.objs.size,upd H s.heap.objs.size (.lst ((List.range n).map fun i:Nat=>V.int (lo+ (i:Int)))),I.laid z (Y8 _) ⟨by rw[Y1,YN,YT];lia,c.toList,c',LX (by rw[Y1,YN];exact y) fun j v f=>?_,by simpa using hS⟩,rfl,q _ _ hf (MD hf) Nc⟩;have hj:j < n:=by have:=(Ym.mp f).1;lia
 obtain⟨e,rfl⟩:=b.2 j v (by rw[<-Array.getElem?_toList];exact f);refine⟨V.int (lo+ (j:Int)),by rw[Y9,VL hj];rfl,?_⟩;exact⟨e,by simp⟩
end
def Ah(K:WV)(H:Hp)(xs:List V)(c:List Ky):Prop:=Pw (fun x q=>∃t,x= .ref t/\JC K H t (DI q)) xs c
section
variable{X:Cx}{K:WV}{pins:WO}{s:WQ}{σ:St}{H:Hp}
theorem OB{t:WX}{k:Ky}{xs:List V}{c:List Ky}{its:WZ}(I:Jd X pins σ H s)(hu:X.A.units+ 64 < cLine)(hc:Ah X.K H xs c)(ht:JC X.K H t (DI k))(rv:Ji xs its):
  ∃e:Value->Bool,(∀y,y∈its.toArray->SeqAt.EqAt X.A.in1 s y (.ref t) (e y))/\its.toArray.any e=decide (k∈c):=by
 have j:xs.length=its.length:=rv.length;have hcl:c.length=its.length:=by rw[<-j];exact hc.1.symm
 have r:X.A.in1.units < cLine:=by show X.A.units+ 1 < cLine;lia
 have a:∀ (i:Nat) (h:i < its.length),N4 s.heap its[i] (c[i]'(by lia)):=fun i h=>by
  have p:xs[i]?=some (xs[i]'(by lia)):=Y4 (by lia);obtain⟨q,g,t',e,x⟩:=hc.get p;obtain⟨u,f,ru⟩:=rv.get p;rw[Y4 h]at f;cases f;rw[e]at ru;have:its[i]= .ref t':=ru;rw[Y4 (by lia)]at g;cases g;rw[this];exact Bs I x
 have aa:=Bs I ht;have n:∀ (i:Nat) (h:i < its.length),@decide (N4 s.heap its[i] k) (Classical.propDecidable _)=decide (c[i]'(by lia)=k):=fun i h=>by
  by_cases z:c[i]'(by lia)=k
  .rw[Yh z];exact @decide_eq_true _ (Classical.propDecidable _) (by have:=a i h;rw[z]at this;exact this)
  .rw[Yk z];exact @decide_eq_false _ (Classical.propDecidable _) fun q=>z ((a i h).inj q)
 refine⟨fun y=>@decide (N4 s.heap y k) (Classical.propDecidable _),fun y b=>?_,?_⟩
 .have b:y∈its:=by simpa using b
  obtain⟨i,hi,rfl⟩:=Xg.mp b
  try dsimp only
  rw[n i hi];exact fun prog w E Q hq=>Fb (a i hi) aa r hq
 .rw[List.any_toArray,YA,U4,Ya];constructor
  .rintro⟨y,b,h⟩;obtain⟨i,hi,rfl⟩:=Xg.mp b
   try dsimp only at h
   rw[n i hi,Ya]at h;rw[<-h];exact Xk _
  .intro h;obtain⟨i,hi,e⟩:=Xg.mp h;refine⟨its[i]'(by lia),Xk _,?_⟩
   try dsimp only
   rw[n i (by lia),Ya];exact e
def FM(K:WV)(neg:Bool):R2:=fun x y H Q=>∃ (t p:WX) (xs:List V) (c:List Ky) (k:Ky),x= .ref t/\y= .ref p/\JC K H t (DI k)/\Jh K H p xs/\Ah K H xs c/\Q (.bl (if neg=true then !decide (k∈c) else decide (k∈c))) H
theorem Q7(hu:X.A.units+ 64 < cLine)(h:X.K=K):Nd X (compareOp .In) (FM K false):=by
 subst h;intro pins s σ H x y v u Q I f b h;obtain⟨t,p,xs,c,k,rfl,rfl,j,n,w,q⟩:=h;cases f;cases b;obtain⟨z,g,i,hz⟩:=I.list n;obtain⟨e,r,a⟩:=OB I hu w j g;refine SeqAt.in_listAt e i.isList r ⟨.bl _,H,I,rfl,?_⟩;rw[a];exact q
theorem BL(hu:X.A.units+ 64 < cLine)(h:X.K=K):Nd X (compareOp .NotIn) (FM K true):=by
 subst h;intro pins s σ H x y v u Q I f b h;obtain⟨t,p,xs,c,k,rfl,rfl,j,n,w,q⟩:=h;cases f;cases b;obtain⟨z,g,i,hz⟩:=I.list n;obtain⟨e,r,a⟩:=OB I hu w j g;refine SeqAt.notIn_listAt e i.isList r ⟨.bl _,H,I,rfl,?_⟩;rw[a];exact q
def HW(K:WV):R2:=fun x y H Q=>∃ (m t p0 p1 to:WX) (xs:List V) (c:List Ky) (k:Ky),x= .ref m/\y= .ref t/\JC K H t [.ref p0,.ref p1]/\Jh K H p0 []/\Jh K H p1 [.ref to]/\JC K H to (DI k)/\Jh K H m xs/\Ah K H xs c/\p0≠m/\p1≠m/\Q (.bl (decide (c=[]\/c=[k]))) H
theorem wI(hu:X.A.units+ 64 < cLine)(h:X.K=K):Nd X (compareOp .In) (HW K):=by
 subst h;intro pins s σ H x y v u Q I rx ry h;obtain⟨m,t,p0,f,to,xs,c,k,rfl,rfl,ht,h0,h1,hto,hm,hc,n0,n1,q⟩:=h;cases rx;cases ry;obtain⟨its,rv,pl,_⟩:=I.tuple ht;obtain⟨is0,rv0,pl0,_⟩:=I.list h0;obtain⟨is1,rv1,pl1,_⟩:=I.list h1;obtain⟨n,rvm,g,_⟩:=I.list hm;have aa:xs.length=c.length:=hc.1;have hml:xs.length=n.length:=rvm.length;have p:X.A.in1.units < cLine:=by show X.A.units+ 1 < cLine;lia
 have hu2:X.A.in1.in1.units < cLine:=by show X.A.units+ 1+ 1 < cLine;lia
 cases rv0;have e0:SeqAt.EqAt X.A.in1 s (.ref p0) (.ref m) (decide (c=[])):=by
  refine SeqAt.EqAt.of_refs n0 ?_
  by_cases z:c=[]
  .have:n=[]:=XZ.mp (by rw[<-hml,aa,z];rfl);subst this;rw[Yh z];exact SeqAt.RcAt.lists (e:=fun _=>true) pl0.isList g.isList rfl p fun j h1 _=>absurd h1 (by simp)
  .rw[Yk z];refine SeqAt.RcAt.lists_lengths pl0.isList g.isList ?_ p;have:c.length≠0:=fun e=>z (XZ.mp e)
   simp;lia
 have e1:SeqAt.EqAt X.A.in1 s (.ref f) (.ref m) (decide (c=[k])):=by
  refine SeqAt.EqAt.of_refs n1 ?_;have r:=rv1.length;have r:is1.length=1:=by simpa using r.symm
  by_cases z:c.length=1
  .obtain⟨k',rfl⟩:=Vi.mp z;have hm1:n.length=1:=by rw[<-hml,aa];rfl
   have hx:xs[0]?=some (xs[0]'(by rw[aa];exact Nat.zero_lt_one)):=Y4 _;obtain⟨q',hq',t',e,ht'⟩:=hc.get hx;cases hq';obtain⟨u,hu',ru⟩:=rvm.get hx;rw[e]at ru;obtain⟨u1,hu1',ru1⟩:=rv1.get (i:=0) rfl;have E1:is1=[u1]:=by
    obtain⟨y,rfl⟩:=Vi.mp r;cases hu1';rfl
   have E2:n=[u]:=by
    obtain⟨y,rfl⟩:=Vi.mp hm1;cases hu';rfl
   subst E1 E2;cases ru;cases ru1;have:=SeqAt.RcAt.lists (A:=X.A.in1) (s:=s) (e:=fun _=>decide (k=k')) pl1.isList g.isList rfl p fun j a b=>by
    have:j=0:=by simpa using a
    subst this;exact fun prog w E Q hq=>Fb (Bs I hto) (Bs I ht') hu2 hq
   have e':(List.range (#[Value.ref to]:Array Value).size).all (fun _=>decide (k=k'))=decide ([k']=[k]):=by
    have:List.range (#[Value.ref to]:Array Value).size=[0]:=rfl;rw[this,WA,List.all_nil,Bool.and_true]
    by_cases z:k=k'
    .rw[Yh z,Yh (by rw[z])]
    .rw[Yk z,Yk (fun e=>z (List.cons.inj e).1.symm)]
   rw[<-e'];exact this
  .rw[Yk (fun e=>z (by rw[e];rfl))];refine SeqAt.RcAt.lists_lengths pl1.isList g.isList ?_ p;simp;lia
 have hr:its=[.ref p0,.ref f]:=by
  cases rv with
  |cons a b=>
   cases b with
   |cons b c=>
    cases c;cases a;cases b;rfl
 subst hr;have n01:p0≠f:=fun z=>by
  have:=I.list_inj h0 (z▸h1);cases this
 refine SeqAt.in_tupleAt (fun y=>if y= .ref p0 then decide (c=[]) else decide (c=[k])) pl (fun y hy=>?_) ⟨.bl _,H,I,rfl,?_⟩
 .have hy:y∈[Value.ref p0,Value.ref f]:=by simpa using hy
  rcases Yo.mp hy with rfl|z
  .try dsimp only
   rw[Y6 rfl];exact e0
  .rw[Yb.mp z]
   try dsimp only
   rw[Y5 (fun z=>n01 (by injection z with z;exact z.symm))];exact e1
 .have e':(#[Value.ref p0,Value.ref f]:Array Value).any (fun y=>if y= .ref p0 then decide (c=[]) else decide (c=[k]))=decide (c=[]\/c=[k]):=by
   have n10:¬Value.ref f=Value.ref p0:=fun z=>n01 (by injection z with z;exact z.symm)
   rw[show(#[Value.ref p0,Value.ref f]:Array Value)=[Value.ref p0,Value.ref f].toArray from rfl,List.any_toArray,XR,XR,W6,Y6 rfl,Y5 n10,UL]
   by_cases a:c=[] <;> by_cases b:c=[k] <;> simp[a,b]
  show Q (.bl ((#[Value.ref p0,Value.ref f]:Array Value).any _)) H;rw[e'];exact q
end
theorem mD:typeLookup (.type "list") "keys"=pure none:=am_miss_of_fast (by decide +kernel)
theorem Fz:plainId "dict.update.loop"=true:=by decide +kernel
theorem Za:entryFor table "dict.update.loop"=some Builtin.«dict.update.loop»:=entryFor_of_fast (by kernel_rfl)
section
variable{prog:WP}{w:WU}{A:WT}{E:WM}{s:WQ}
theorem Zr{a:WX}{xs:Array Value}{k:Nat}{sl:Array (Option Value)}{name:Str}{Q:Option Value->Shared->Prop}
  (hx:s.heap.get? a=some {cls:=.type "list",dict:=none,data:=.seq xs k,slots:=sl}) (hmiss:typeLookup (.type "list") name=pure none) (hname:(["__module__","__name__","__qualname__","__doc__","__annotations__"]:List Str).contains name=false) (hA:A.handled=none)
  (h:∀h' tk,(∀b o,s.heap.get? b=some o->h'.get? b=some o)->Q none {s with heap:=h',toks:=tk}) (hsz:name.length+ 100 <=sizeLine:=by size_fits):
  wpAny (model prog w) A (getAttr? (.ref a) name) Q E s:=by
 obtain⟨f,g,d,tk,c⟩:=s;have hT:∀tk',(⟨f,g,d,tk',c⟩:WQ).TypeIs (.ref a) "list":=fun _=>⟨_,hx,rfl⟩
 have u:=sub_AttributeError;have r:=V5.lookup;have q:=V5.bind (.ref a);have p:=am_list_getattr_none;unfold getAttr? getAttrBy? getAttrBy
 repeat (any_goals (first|assumption|exact hT _|((with_reducible show wpAny _ _ (call (Value.builtin "list.__getattribute__") _ _) _ _ _);refine Ww V5 (hT _) am_entry_list_getattribute (F.args_list_getattribute_2 _ _) (meets_getattribute_miss_list a xs k sl name _ hmiss hname hsz) ⟨hx,hA,fun h' tk' e hx'=>?_⟩)|wp_step))
 obtain⟨j,i,n⟩:=hx'.there;show wpAny _ _ (getattributeRaised _ _ _ _ _ _ _) _ _ _;unfold getattributeRaised
 repeat (any_goals (first|assumption|wp_step))
 exact h _ _ hx'.keeps
variable{J:Type}[DecidableEq J]{knd:HeapKind prog w J}
theorem nF{d it l:WX}{ts:List Addr}{xs:List (J×Addr×Value)}{h0:J6}{R:Result->Shared->Prop}(hh:A.handled=none)(hu:knd.room A.in1)(hl:ts.length=xs.length)(hz:xs.length <=5000)(hnd:(xs.map (·.1)).Nodup)(hdi:d≠it)
  (hH:∀h':Heap,(∀b o,b≠it->b≠d->h0.get? b=some o->h'.get? b=some o)->h'.IsList l (ts.map Value.ref).toArray/\∀ (j:Nat) x T,ts[j]?=some T->xs[j]?=some x->IsTup h' T #[.ref x.2.1,x.2.2]/\knd.is h' x.1 x.2.1)
  (hR:∀ (h':J6) tk,(∀b o,b≠it->b≠d->h0.get? b=some o->h'.get? b=some o)->h'.DictOfH knd d xs->R (.ok (.ret .none)) {s with heap:=h',toks:=tk}):
  ∀ (k i:Nat) (h:J6) (tk:Nat) (u:Tok),xs.length - i=k->i <=xs.length->(∀b o,b≠it->b≠d->h0.get? b=some o->h.get? b=some o)->h.IsListIter it l i->h.DictOfH knd d (xs.take i)->codeAny (model prog w) A (Code.builtin "dict.update.loop" ⟨[.ref d,.ref it,.int i u,.none],[]⟩) R {s with heap:=h,toks:=tk}:=by
 intro k
 induction k with
 |zero=>
  intro i h tk u hk hi kp q hd;have hin:i=xs.length:=by omega
  subst hin;refine Xp Za ?_;rw[Xj Fz];unfold Builtin.«dict.update.loop»;dsimp only;obtain⟨h1,h2⟩:=hH h kp;refine Y0 (wpAny_pyNext_list_end hh q h1 (by simp[hl]) fun h' n=>?_);dsimp only;refine Y0 (m:=Builtin.Dict.addKeywords d []) (Y2 ?_);refine Y2 ?_;have a:∀b o,b≠it->b≠d->h0.get? b=some o->h'.get? b=some o:=fun b o c g e=>n b _ c (kp b o c g e)
  obtain⟨h1',f⟩:=hH h' a;obtain⟨o,es,ep,g1,g2,g3,y,g5,r⟩:=hd;rw[Yu (Y8 _)]at y g5 r;refine hR h' tk a ⟨o,es,ep,n d _ hdi g1,g2,g3,y,fun x hx=>?_,r⟩;obtain⟨j,hj,rfl⟩:=Xg.mp hx;exact(f j _ (ts[j]'(by omega)) (Y4 _) (Y4 hj)).2
 |succ k ih=>
  intro i h tk u hk hi kp q hd;have ab:i < xs.length:=by omega
  obtain⟨h1,h2⟩:=hH h kp;refine Xp Za ?_;rw[Xj Fz];unfold Builtin.«dict.update.loop»;dsimp only;have hT:ts[i]?=some (ts[i]'(by omega)):=Y4 _;have hX:xs[i]?=some xs[i]:=Y4 ab;refine Y0 (wpAny_pyNext_list_item (x:=.ref (ts[i]'(by omega))) q h1 (by simp[hT]) fun h' hit' n=>?_);dsimp only;have a:∀b o,b≠it->b≠d->h0.get? b=some o->h'.get? b=some o:=fun b o c g e=>(n.2 b c).trans (kp b o c g e)
  obtain⟨h1',f⟩:=hH h' a;obtain⟨z1,z2⟩:=f i _ _ hT hX;obtain⟨oT,eT,cT,nT,dT⟩:=z1;have tT:(⟨h',s.gens,s.drawn,tk,s.os⟩:WQ).TypeIs (.ref (ts[i]'(by omega))) "tuple":=⟨oT,eT,cT⟩
  refine Y0 (YK (Y0 (VN ?_)));unfold Builtin.Dict.pairItems;refine Y0 (VD tT ?_);rw [Y6 (by decide)];refine Y0 (Wt eT dT (Y2 ?_));dsimp only [Option.getD];obtain ⟨o, es, ep, g1, g2, g3, y, g5, r⟩ := hd;have hd' : h'.DictOfH knd d (xs.take i) := ⟨o, es, ep, (n.2 d hdi).trans g1, g2, g3, y, fun x hx => by
   obtain ⟨j, hj, rfl⟩ := Xg.mp (Ug hx);exact (f j _ (ts[j]'(by omega)) (Y4 _) (Y4 hj)).2, r⟩
  have hno:xs[i].1∉(xs.take i).map (·.1):=fun z=>by
   have e:xs.map (·.1)=(xs.take i).map (·.1)++(xs.drop i).map (·.1):=by rw[<-List.map_append,List.take_append_drop]
   rw[e]at hnd;refine(Xd.mp hnd).2.2 _ z _ ?_ rfl;rw[List.drop_eq_getElem_cons ab];exact .head _
  have hst:storedH (xs.take i) xs[i].1 xs[i].2.1 xs[i].2.2=xs.take (i+ 1):=by
   rw[storedH_new (VZ fun j p z=>hno (Y3.mpr ⟨_,Yq z,rfl⟩)),YJ,hX];rfl
  have htl:(xs.take i).length <=sizeLine:=by rw[YT,Yt];omega
  refine YK (wpAny_dictSet_heap (s:=⟨h',s.gens,s.drawn,tk,s.os⟩) (hsz:=htl) hu z2 hd' fun h3 ac aa=>?_);rw[hst]at ac;refine Y2 ⟨XC Fz _,?_⟩;refine ih (i+ 1) h3 _ _ (by omega) (by omega) (fun b o c g e=>(aa.2 b g).trans (a b o c g e)) ?_ ac;obtain⟨oi,e1,e2,e3⟩:=hit';exact⟨oi,(aa.2 it (Ne.symm hdi)).trans e1,e2,e3⟩
theorem yK{l n:WX}{sl:Array (Option Value)}{ts:List Addr}{xs:List (J×Addr×Value)}{Q:WM}(hh:A.handled=none)(hu:knd.room A.in1.in1)(hl0:s.heap.get? l=some {cls:=.type "list",dict:=none,data:=.seq (ts.map Value.ref).toArray n,slots:=sl})(hl:ts.length=xs.length)(hz:xs.length <=5000)(hnd:(xs.map (·.1)).Nodup)
  (hx:∀h':Heap,(∀b o,s.heap.get? b=some o->h'.get? b=some o)->∀ (j:Nat) x T,ts[j]?=some T->xs[j]?=some x->IsTup h' T #[.ref x.2.1,x.2.2]/\knd.is h' x.1 x.2.1)
  (h:∀ (h':J6) tk,h'.DictOfH knd s.heap.objs.size xs->(∀b o,s.heap.get? b=some o->h'.get? b=some o)->Q (.ref s.heap.objs.size) {s with heap:=h',toks:=tk}):wpAny (model prog w) A (call (.type "dict") [.ref l]) Q E s:=by
 refine callType_codes (Q₁:=fun g y=>g= .ref s.heap.objs.size/\y={s with heap:=s.heap.push {cls:=.type "dict",data:=.dict #[]}}) F.kt_called_dict (F.kt_typeCall_dict_1 _) F.entry_dict_init (kt_code_dict_new _ ⟨rfl,rfl⟩) ?_;rintro g y ⟨rfl,rfl⟩;have c:(s.heap.push {cls:=.type "dict",data:=.dict #[]}).get? s.heap.objs.size=some {cls:=.type "dict",data:=.dict #[]}:=Yc _ rfl;have hT:(⟨s.heap.push {cls:=.type "dict",data:=.dict #[]},s.gens,s.drawn,s.toks,s.os⟩:WQ).TypeIs (.ref s.heap.objs.size) "dict":=⟨_,c,rfl⟩
 have f:=Y7 {cls:=.type "dict",data:=.dict #[]} hl0;have ab:(⟨s.heap.push {cls:=.type "dict",data:=.dict #[]},s.gens,s.drawn,s.toks,s.os⟩:WQ).TypeIs (.ref l) "list":=⟨_,f,rfl⟩
 refine⟨hT,F.args_dict_init_2 _ _,?_⟩;unfold Builtin.«dict.__init__»;refine Y0 ?_;unfold Builtin.Dict.selfAndRest;refine Y0 (Ua hT ?_);show wpAny _ _ (pure (s.heap.objs.size,[Value.ref l])) _ _ _;refine Y2 ?_;show wpAny _ _ (Builtin.Dict.updateFrom "dict.__init__" s.heap.objs.size (.ref l) [] .none) _ _ _;unfold Builtin.Dict.updateFrom;refine Y0 (VD ab ?_);rw[Y6 (by decide)];refine Y0 (Zr f mD (by decide) hh fun h1 u q=>?_);rw[Y6 (show(none:Option Value).isNone=true from rfl)];refine Y0 (UJ ?_);have aa:=q _ _ f;have r:(⟨h1,s.gens,s.drawn,u,s.os⟩:WQ).heap.IsList l (ts.map Value.ref).toArray:=⟨_,aa,rfl,_,rfl⟩;refine Y0 (Xt r ?_);have p:=q _ _ c;have i:=Yd p;have z:∀b o,s.heap.get? b=some o->(h1.push {cls:=.type "list_iterator",data:=.fields #[.ref l,.int 0 0]}).get? b=some o:=fun b o e=>Y7 _ (q b o (Y7 _ e))
 have a:∀h':Heap,(∀b o,b≠h1.objs.size->b≠s.heap.objs.size->(h1.push {cls:=.type "list_iterator",data:=.fields #[.ref l,.int 0 0]}).get? b=some o->h'.get? b=some o)->∀b o,s.heap.get? b=some o->h'.get? b=some o:=fun h' k b o e=>
  k b o (Yr (WG (Yd e) i)) (Yr (Yd e)) (z b o e)
 refine Y2 ⟨XC Fz _,?_⟩;refine nF (A:=A.in1) (s:=s) (knd:=knd) (h0:=h1.push {cls:=.type "list_iterator",data:=.fields #[.ref l,.int 0 0]}) (l:=l) hh hu hl hz hnd (Yr i) (fun h' k=>?_) (fun h' tk k dd=>?_) _ 0 _ _ _ rfl (Ys _) (fun _ _ _ _ e=>e) ⟨_,Yc _ rfl,rfl,rfl⟩ ⟨_,_,_,Y7 _ p,⟨rfl,rfl,rfl⟩,rfl,rfl,fun x hx=>absurd hx (by simp),by simp⟩
 .exact⟨⟨_,a h' k _ _ hl0,rfl,_,rfl⟩,hx h' (a h' k)⟩
 .exact⟨rfl,h h' tk dd (a h' k)⟩
end
section
variable{X:Cx}{K:WV}
def IM(K:WV):List V->Hp->VK->Prop:=fun as H Q=>∃ (p:WX) (ts:List Addr) (kvs:List (List Jw×V)),as=[.ref p]/\H p=some (.lst (ts.map V.ref))/\ts.length=kvs.length/\kvs.length <=5000/\(kvs.map (·.1)).Nodup/\
 (∀ (j:Nat) T kv,ts[j]?=some T->kvs[j]?=some kv->∃b,JC K H T [.ref b,kv.2]/\H b=some (.tup (kv.1.map kV)))/\∀l G,H l=none->Jb H G->G l=some (.dT kvs)->Q (.ref l) G
theorem tJ(hu:X.A.units+ 64 < cLine)(hc:X.calm=true)(h:X.K=K):JA X (.type "dict") (IM K):=by
 subst h;intro pins s σ H xs us Q I r h;obtain⟨a,ts,kvs,rfl,ha,hl,hz,i,g,q⟩:=h;obtain⟨u,rfl,rx⟩:=DO r;cases rx;obtain⟨ab,f,n,rv,e⟩:=(show Jy X.prog X.w H s.heap a (.lst (ts.map V.ref)) from I.hok a _ ha);have hits:f=ts.map Value.ref:=by
  have:∀ (ts:List Addr) (f:WZ),Ji (ts.map V.ref) f->f=ts.map Value.ref:=by
   intro ts
   induction ts with
   |nil=>intro f r;cases r;rfl
   |cons a b ih=>
    intro f r;cases r with
    |cons r1 r2=>cases r1;rw[ih _ r2];rfl
  exact this _ _ rv
 subst hits
 -- the values
 have hex:∃xs:List (List Jw×Addr×Value),KT H kvs xs/\∀ (j:Nat) x T,ts[j]?=some T->xs[j]?=some x->IsTup s.heap T #[.ref x.2.1,x.2.2]/\(tupleKind (Jo X.prog X.w)).is s.heap x.1 x.2.1:=by
  clear ha hz i q r rv e ab
  induction kvs generalizing ts with
  |nil=>exact⟨[],.nil,fun j x T _ h=>by simp at h⟩
  |cons kv rest ih=>
   cases ts with
   |nil=>simp at hl
   |cons T ts=>
    obtain⟨xs,h1,h2⟩:=ih ts (by simpa using hl) fun j T kv a b=>g (j+ 1) T kv (by simpa using a) (by simpa using b)
    obtain⟨b,g1,g2⟩:=g 0 T kv rfl rfl;obtain⟨f,r,p,_⟩:=I.tuple g1;cases r with
    |cons r1 r=>
     cases r with
     |cons r2 r=>
      cases r;cases r1
      rename_i v2
      refine⟨(kv.1,b,v2)::xs,.cons ⟨rfl,g2,r2⟩ h1,fun j x T' a c=>?_⟩;cases j with
      |zero=>cases a;cases c;exact⟨p,Rs I.hok g2⟩
      |succ j=>exact h2 j x T' (by simpa using a) (by simpa using c)
 obtain⟨xs,y,hxs⟩:=hex;have hxl:kvs.length=xs.length:=Paired.length y;have ac:xs.map (·.1)=kvs.map (·.1):=by
  clear hxs hxl i hz g hl q
  induction y with
  |nil=>rfl
  |cons a b ih=>rw[List.map_cons,List.map_cons,ih,a.1]
 have hnx:(xs.map (·.1)).Nodup:=by rw[ac];exact i
 have hh:X.A.handled=none:=I.ok.hd hc;have aa:(tupleKind (Jo X.prog X.w)).room X.A.in1.in1:=by show X.A.units+ 1+ 1 < cLine;lia
 refine yK (knd:=tupleKind (Jo X.prog X.w)) hh aa e (by omega) (by omega) hnx (fun h' k j x T a b=>?_) fun h' tk dd k=>?_
 .obtain⟨⟨o,g1,g2,g3⟩,⟨o2,it2,n2,f1,f2,f3,f4⟩⟩:=hxs j x T a b;exact⟨⟨o,k _ _ g1,g2,g3⟩,⟨o2,it2,n2,k _ _ f1,f2,f3,f4⟩⟩
 .have hf:H s.heap.objs.size=none:=I.hok.fresh (Y8 _);have hsys:(s.heap.objs.size==sysModules)=false:=Xl.mpr (Ne.symm (Yr I.big));obtain⟨o,es,ep,q1,q2,q3,q4,_,q6⟩:=dd;refine⟨.ref s.heap.objs.size,upd H s.heap.objs.size (.dT kvs),I.laid (t':=tk) k (Y8 _) ?_,rfl,q _ _ hf (MD hf) Nc⟩;refine⟨by rw[YT];omega,hsys,xs,?_,o,es,ep,q1,q2,q3,q4,q6⟩;exact L2.Paired.mapP y fun p q z=>⟨z.1,(MD hf) _ _ z.2.1,z.2.2⟩
def HY(w:WU):List V->Hp->VK->Prop:=fun as H Q=>∃ (p:WX) (o:Obj) (m:WY),as=[.ref p]/\H p=some (.frz o (.own p))/\DD w o m/\m.length < 64/\∀ (ms:WY) l G,ms.Perm m->ms.Pairwise (· <=·)->H l=none->Jb H G->G l=some (.lst (ms.map V.int))->Q (.ref l) G
theorem xR(hc:X.calm=true)(hu:X.A.units+ 64 < cLine)(hw:X.w=w):JA X (.builtin "sorted") (HY w):=by
 subst hw;intro pins s σ H xs us Q I r hh;obtain⟨p,o,m,rfl,hp,hS,hml,q⟩:=hh;obtain⟨u,rfl,rx⟩:=DO r;cases rx;obtain⟨ho,_⟩:=(show s.heap.get? p=some o/\_ from I.hok p _ hp);obtain⟨es,ep,t,h1,h2,he,ab,hnd,hf,T⟩:=hS;have hsz:es.size=m.length:=by rw[<-Array.length_toList,<-ab.length_eq,Y1]
 refine UU kind_sorted plain_sorted entry_sorted (args_sorted1 _) ?_;unfold Builtin.«sorted»;refine Y0 (m:=checkCount "sorted" 1 1 _) (Y2 ?_);refine Y0 (uQ (A:=X.A.in1) (I.ok.hd hc) ho h1 h2 hf T (by lia) fun h' tk d vs hk x=>?_);have I2:Jd X pins σ H {s with heap:=h',toks:=tk,drawn:=d}:=(I.kept hk).drawn d;obtain⟨c,ec⟩:∃c:List Int,c=vs.map fun v=>EN (0,v):=⟨_,rfl⟩
 have hvl:vs.length=es.size:=by rw[x.length_eq,Y1,Array.length_toList]
 have af:∀v∈vs,∃t,v= .int (EN (0,v)) t:=fun v hv=>by
  have:=x.mem_iff.mp hv;obtain⟨e,he1,rfl⟩:=Y3.mp this;obtain⟨⟨k,h3,_⟩,_⟩:=he X.prog e he1;obtain⟨t,h4⟩:=KI h3;exact⟨t,by rw[h4];rfl⟩
 have hcm:c.Perm m:=by
  rw[ec];refine(x.map _).trans ?_;rw[Yw];exact ab
 have ae:c.length=vs.length:=by rw[ec,Y1]
 have aa:∀ (i:Nat) v k,vs[i]?=some v->c[i]?=some k->∃t,v= .int k t:=fun i v k e1 e2=>by
  rw[ec,Y9,e1]at e2;cases e2;exact af v (Yq e1)
 refine Y0 (VS ?_ (by rw[YT];lia));have y:(h'.push (seqObj "list" vs.toArray 0)).get? h'.objs.size=some (seqObj "list" vs.toArray 0):=Yc _ rfl;have keep:∀b o,h'.get? b=some o->(h'.push (seqObj "list" vs.toArray 0)).get? b=some o:=fun b o q=>Y7 _ q
 have S:Es X.prog X.w h' EX (fun i=>c.getD i 0) oneType' vs:=rS aa ae.symm;refine Y0 (YK (YU slot_list_sort ⟨_,y,rfl⟩ entry_list_sort (Le (h₀:=h') y (Y8 _) keep S (by lia) (by show X.A.units+ 1+ 1 < cLine;lia) fun g a1 a2=>⟨_,rfl,?_⟩) (args_list_sort _)));obtain⟨e,he'⟩:=sortedHeap_at (n:=0) (vs:=vs) (out:=(List.map (fun i=>vs.getD i Value.none) g.toList).toArray) y;have ad:H h'.objs.size=none:=I2.hok.fresh (Y8 _);have f:g.toList.Perm (List.range c.length):=by rw[ae];exact Ub.mp a1
 have hb:∀i∈g.toList,i < c.length:=fun i hi=>by simpa using f.mem_iff.mp hi
 have z:Ji ((g.toList.map fun i=>c.getD i 0).map V.int) (g.toList.map fun i=>vs.getD i Value.none):=by
  have:∀r:List Nat,(∀i∈r,i < c.length)->Ji ((r.map fun i=>c.getD i 0).map V.int) (r.map fun i=>vs.getD i Value.none):=by
   intro r
   induction r with
   |nil=>exact fun _=>.nil
   |cons i r ih=>
    intro hr;refine .cons ?_ (ih fun j hj=>hr j (.tail _ hj));have hi:=hr i (.head _);exact aa i _ _ (by rw[Y4 (by lia)];simp[show i < vs.length by lia]) (by rw[Y4 hi];simp[hi])
  exact this _ hb
 have hln:(g.toList.map fun i=>c.getD i 0).length=c.length:=by rw[Y1,f.length_eq,YN]
 refine Y2 ⟨_,rfl,.ref h'.objs.size,upd H h'.objs.size (.lst ((g.toList.map fun i=>c.getD i 0).map V.int)),I2.laid (t':=tk) (fun b o z'=>?_) (Y8 _) ?_,rfl,q (g.toList.map fun i=>c.getD i 0) _ _ ?_ ?_ ad (MD ad) Nc⟩
 .have ac:=Yd z';rw[sortedHeap_old (Yr ac) (by rw[XD];exact Xu ac)];exact Y7 _ z'
 .exact⟨by rw[Y1,hln,YT];lia,_,e,z,he'⟩
 .have h1:=f.map fun i=>c.getD i (0:Int)
  have h2:(List.range c.length).map (fun i=>c.getD i (0:Int))=c:=by
   apply Vo
   .simp
   .intro i hi _;have:i < c.length:=by simpa using hi
    simp[this]
  rw[h2]at h1;exact h1.trans hcm
 .refine List.Pairwise.imp (R:=fun a b:Int=>decide (b < a)=false) (fun {a b} h=>?_) (Ho a1 a2);have:=V2 h
  lia
end
end L2
namespace Mine
open PySem L2 PyProof.Rows
local macro_rules | `(tactic| walk_at"e")=>`(tactic| exact ⟨rfl,rfl,rfl,by decide +kernel,rfl,by decide +kernel,by decide +kernel⟩)
local macro_rules | `(tactic| walk_at"rd") => do
 let f:=fun(s:String)=>(s.splitOn " ").toArray.mapM fun x=>`(Lean.Parser.Tactic.simpLemma|$(Lean.mkIdent x.toName):term)
 let a<-f "S5 Bool.not_true Bool.not_false Ba FC Ay RB BB BF Fj BS Aj CK AR AQ Bp Bc Cs C7 Cz CN Cr Fe Ly IK P2 Hm Sj Z1 Q2 QE Sm Nat.reduceAdd O8 Kl FM HY HW IM DU K5 HE LO CV LV HM Eg Gs As tC GN HU A7 tB C4 Lz Au DN Ru Av KN Lr B8 Bj Fa FA CC F8 AU K6 AW IV Ke FY Hd Hv rI Rm rU C3 CA O1 LJ LB EH Bk RW Ld NV Az A9 Hq Lw Hh O0 Fp L2.start Ax CO CZ CQ Fw FK Fu HZ ID Kj F5 C8 HI Iu KB Cw CT FZ LC K4 FQ Lf Hb Hl Fm O6 H9 Hj KL Kf Kg Kh Fq Ht KW Cv Fv FB Cb Lg Hy Lc List.map_cons List.map_nil List.length_cons List.length_nil List.cons_append List.nil_append List.getElem?_cons_zero List.getElem?_cons_succ List.set_cons_zero List.set_cons_succ Option.bind_some Option.bind_none Option.join_some List.replicate"
 let b<-f "ZA ZB eF vI n9 Zw"
 let c<-f "Ej Fn Gw Qn Br SC Oi HL Lb Ku HC Nat.reduceSub List.append_nil Option.some.injEq V.int.injEq V.bl.injEq V.str.injEq V.ref.injEq V.ty.injEq exists_eq_left' exists_eq_left exists_and_left and_assoc and_true true_and List.cons.injEq exists_eq exists_eq' exists_const Nat.reduceLT Nat.reduceLeDiff if_true Bool.false_eq_true if_false reduceCtorEq false_and and_false exists_false wX bH bN gE"
 `(tactic|((try dsimp only[$b,*,$a,*]);(try dsimp only[mC]);(try simp only[$a,*,$c,*])))
local macro_rules | `(tactic| walk_at"wt") => `(tactic| dsimp only [RB, GN, Ba, Ay, Hm, Ly, IK, List.getElem?_cons_zero, List.getElem?_cons_succ])
local macro_rules | `(tactic| walk_at"ne") => `(tactic| first | assumption | (apply Ne.symm; assumption) | grind [Jb, Nj])
local macro_rules | `(tactic| walk_at"hp") => `(tactic| first | assumption | exact Nc | (refine Jb.get (by assumption) ?_; walk_at"hp") | (refine Nj.get (by assumption) ?_ ?_; (· walk_at"hp"); (· walk_at"ne")))
def top(i:Nat):Stmt:=PySem.Challenge.pw_pieceways_k94_whole_space_is_kept.main.body.getD i (.Pass ⟨0,0,0,0⟩)
structure Cn(mg:WL):Prop where
 c_MOST_NUMBER:∃t,mg "MOST_NUMBER"=some (.int 65535 t)
 c_MOST_BYTE:∃t,mg "MOST_BYTE"=some (.int 255 t)
 c_MOST_SIGNS:∃t,mg "MOST_SIGNS"=some (.int 8 t)
 c_MOST_BYTES:∃t,mg "MOST_BYTES"=some (.int 4000 t)
 c_STEP:∃t,mg "STEP"=some (.int 8 t)
section
variable{P:WP}{w:WU}{K:WV}{mg:WL}{base:J6}
inductive AS(vs:List V)(H:Hp)(Q:VK)(E:XK):Prop|mk (x n:_) (_:vs=[x]) (_:M0 H x=some n) (_:Q (.bl (Rt x)) H)
abbrev IQ:Stmt:=top 9
theorem uL:Nm ["value"] ["value"] (J8 IQ):=by walk_at"e"
theorem xJ{f:WX}{fd:WR}(F:Nx K "is_whole" "is_whole" IQ f fd)(B:Bt mg):Jj P w K mg base JZ 1 f fd ["value"] AS:=by
 refine F.ok uL (fun vs H Q E h=>?_) (fun b A a s H vs Q E c h=>?_)
 .obtain⟨x,n,rfl,_⟩:=h;rfl
 .obtain⟨x,n,rfl,ty,q⟩:=h;refine⟨_,(Jz (N8 (D9 (NP (RK "int") B.isinstance (Jk 0 (JM (hs:=Gv) (E8 (v:=.ty "int") rfl B.bint (by rfl) rfl) Jf))) (Gq (OY (NP (RK "bool") B.isinstance (Jk 0 (JM (hs:=Gv) (E8 (v:=.ty "bool") rfl B.bbool (by rfl) rfl) Jf)))))))),?_⟩;walk_at"rd";refine⟨n,ty,?_⟩;rw[bQ ty];refine Mp (fun h=>⟨n,ty,?_⟩) (fun h=>?_)
  .rw[OG ty];have e:(!RZ x)=Rt x:=by cases x <;> first|rfl|(simp[Rt,RZ]at h)
   rw[e];exact q
  .have e:Rt x=false:=by cases x <;> first|rfl|(simp[Rt,RZ]at h)
   rw[e]at q;exact q
inductive FP(vs:List V)(H:Hp)(Q:VK)(E:XK):Prop|mk (x n lo hi:_) (_:vs=[x,.int lo,.int hi]) (_:M0 H x=some n) (_:Q (.bl (Ds x lo hi)) H)
abbrev FX:Stmt:=top 10
theorem eD:Nm ["value","low","high"] ["value","low","high"] (J8 FX):=by walk_at"e"
theorem tW{f:WX}{fd:WR}(F:Nx K "is_whole_within" "is_whole_within" FX f fd)(Ni:Tk P w K mg base "is_whole" 1 ["value"] [] AS):Jj P w K mg base JZ 2 f fd ["value","low","high"] FP:=by
 refine F.ok eD (fun vs H Q E h=>?_) (fun c A a s H vs Q E b h=>?_)
 .obtain⟨x,n,lo,hi,rfl,_⟩:=h;rfl
 .obtain⟨x,n,lo,hi,rfl,ty,q⟩:=h;refine⟨_,(Jz (N8 (D9 (T7 Ni b.m rfl (Jk 0 Jf)) (Gq (Pj (NG RO) (NG RO) (J9 1) (J9 0) (J9 2)))))),?_⟩;walk_at"rd";refine⟨x,n,rfl,ty,_,rfl,?_⟩;refine Mp (fun h=>?_) (fun h=>?_)
  .cases x <;> first|(simp[Rt]at h;done)|skip
   rename_i i
   walk_at"rd"
   by_cases h1:lo <=i
   .simp only[h1,XN,if_true];simpa[Ds,h1] using q
   .simp only[h1,XO,Bool.false_eq_true,if_false];simpa[Ds,h1] using q
  .have e:Ds x lo hi=false:=by cases x <;> first|rfl|(simp[Rt]at h)
   rw[e]at q;exact q
inductive L4(vs:List V)(H:Hp)(Q:VK)(E:XK):Prop|mk (x n:_) (_:vs=[x]) (_:M0 H x=some n) (_:Q (.bl (RZ x)) H)
abbrev II:Stmt:=top 12
theorem rC:Nm ["value"] ["value"] (J8 II):=by walk_at"e"
theorem dN{f:WX}{fd:WR}(F:Nx K "is_truth" "is_truth" II f fd)(B:Bt mg):Jj P w K mg base JZ 1 f fd ["value"] L4:=by
 refine F.ok rC (fun vs H Q E h=>?_) (fun b A a s H vs Q E c h=>?_)
 .obtain⟨x,n,rfl,_⟩:=h;rfl
 .obtain⟨x,n,rfl,ty,q⟩:=h;refine⟨_,(Jz (N8 (NP (RK "bool") B.isinstance (Jk 0 (JM (hs:=Gv) (E8 (v:=.ty "bool") rfl B.bbool (by rfl) rfl) Jf))))),?_⟩;walk_at"rd";exact⟨n,ty,by rw[OG ty];exact q⟩
inductive Ib(vs:List V)(H:Hp)(Q:VK)(E:XK):Prop|mk (x n:_) (_:vs=[x]) (_:M0 H x=some n) (_:Q (.bl (Ds x 0 65535)) H)
abbrev Hu:Stmt:=top 13
theorem xV:Nm ["value"] ["value"] (J8 Hu):=by walk_at"e"
theorem gJ{f:WX}{fd:WR}(F:Nx K "is_number" "is_number" Hu f fd)(T:Cn mg)(JP:Tk P w K mg base "is_whole_within" 2 ["value","low","high"] [] FP):Jj P w K mg base JZ 3 f fd ["value"] Ib:=by
 refine F.ok xV (fun vs H Q E h=>?_) (fun c A a s H vs Q E b h=>?_)
 .obtain⟨x,n,rfl,_⟩:=h;rfl
 .obtain⟨x,n,rfl,ty,q⟩:=h;refine⟨_,(Jz (N8 (T7 JP b.m rfl (Jk 0 (M9 Jt (JM (hs:=Gv) (Er rfl T.c_MOST_NUMBER) Jf)))))),?_⟩;walk_at"rd";exact⟨x,n,0,65535,rfl,ty,q⟩
inductive ON(vs:List V)(H:Hp)(Q:VK)(E:XK):Prop|mk (x n:_) (_:vs=[x]) (_:M0 H x=some n) (_:Q (.bl (Ds x 0 255)) H)
abbrev Ka:Stmt:=top 16
theorem vH:Nm ["value"] ["value"] (J8 Ka):=by walk_at"e"
theorem uH{f:WX}{fd:WR}(F:Nx K "is_byte" "is_byte" Ka f fd)(T:Cn mg)(JP:Tk P w K mg base "is_whole_within" 2 ["value","low","high"] [] FP):Jj P w K mg base JZ 3 f fd ["value"] ON:=by
 refine F.ok vH (fun vs H Q E h=>?_) (fun c A a s H vs Q E b h=>?_)
 .obtain⟨x,n,rfl,_⟩:=h;rfl
 .obtain⟨x,n,rfl,ty,q⟩:=h;refine⟨_,(Jz (N8 (T7 JP b.m rfl (Jk 0 (M9 Jt (JM (hs:=Gv) (Er rfl T.c_MOST_BYTE) Jf)))))),?_⟩;walk_at"rd";exact⟨x,n,0,255,rfl,ty,q⟩
inductive K7(vs:List V)(H:Hp)(Q:VK)(E:XK):Prop|mk (x n:_) (_:vs=[x]) (_:M0 H x=some n) (_:(∀z,x= .str z->z.length <=100000)) (_:∀H',Jb H H'->Q (.bl (Di x)) H')
abbrev Fy:Stmt:=top 14
theorem Zt:Nm ["value"] ["value"] (J8 Fy):=by walk_at"e"
theorem cD{f:WX}{fd:WR}(F:Nx K "is_name" "is_name" Fy f fd)(T:Cn mg)(B:Bt mg):Jj P w K mg base JZ 1 f fd ["value"] K7:=by
 refine F.ok Zt (fun vs H Q E h=>?_) (fun cdv A outer s H vs Q E hr h=>?_)
 .obtain⟨x,n,rfl,_⟩:=h;rfl
 .obtain⟨x,n,rfl,ty,hz,q⟩:=h;refine⟨_,(Jp (NB (PW.pt (Rc (D0 (Mj (NP (RK "str") B.isinstance (Jk 0 (JM (hs:=Gv) (E8 (v:=.ty "str") rfl B.bstr (by rfl) rfl) Jf))))) (Rx (D0 (P4 (NG RO) (NG RO) Jt (NP yY B.len (Jk 0 Jf)) (Er rfl T.c_MOST_SIGNS)))))) (Jz (N8 R8)) NU) (Jz (N8 (NP (QQ (K:=K) rfl rfl) B.all (JM (hs:=Rz) (Dz (N':=["sign"]) (caps:=[none]) (MW (sc:=J8 Fy) (N:=["value"]) rfl rfl (by decide +kernel)) rfl (ZE (J9 0)) (fun _ _ _ _ _=>(Ms (i:=0) (MY (N:=["sign"]) rfl (by decide +kernel)) rfl (Or.inl rfl))) (fun _ _ _ _ _=>GS) (fun _ _ _ _ _=>(Pj Z2 Z2 NY (J9 0) NY))) Jf))))),?_⟩;walk_at"rd";refine⟨n,ty,?_⟩;rw[cN ty];cases x <;> first
   |(simp only[Ls,Bool.not_false,if_true];exact q H (Jb.refl H))
   |skip
  rename_i z
  have r:=hz z rfl;simp only[Ls,Bool.not_true,Bool.false_eq_true,if_false];walk_at"rd";refine⟨N0 r,?_⟩;have y:∀b,Di (.str z)=b->∀H',Jb H H'->Q (.bl b) H':=fun b e H' s=>e▸q H' s
  by_cases h1:1 <=z.length
  .have j:(1:Int) <=(z.length:Int):=by lia
   simp only[j,XN,if_true]
   by_cases h2:z.length <=8
   .have g:(z.length:Int) <=8:=by lia
    simp only[g,XN,Bool.not_true,Bool.false_eq_true,if_false];have hsz:z.cps.size=z.length:=rfl;obtain⟨Pv,a⟩:∃Pv:Nat->List V->L2.St->Hp->Prop,Pv=fun i ys σ' H1=>H1=H/\i <=z.cps.size/\ys=(z.cps.toList.take i).map (fun c=>V.bl (BJ c))/\∃v,σ'=[v]:=⟨_,rfl⟩
    refine gI Pv (by rw[a];exact⟨rfl,Ys _,by simp,none,rfl⟩) ?_ (by rw[hsz];exact N0 r) ?_ ?_ <;> rw[a]
    .rintro i ys σ' H1 ⟨_,hi,rfl,_⟩ _;simp only[Y1,Yt];lia
    .rintro i c ys σ' H1 hc ⟨rfl,hi,rfl,v,rfl⟩;rw[<-a];have u:i < z.cps.size:=(Uc.mp hc).1;walk_at"rd";obtain⟨e1,e2⟩:=vW c;rw[e1,e2];have et:z.cps.toList.take (i+ 1)=z.cps.toList.take i++[c]:=by
      rw[YJ];have:z.cps.toList[i]?=some c:=by rw[Array.getElem?_toList];exact hc
      rw[this];rfl
     have eb:V.bl (BJ c)=V.bl (decide (97 <=c) && decide (c <=122)):=rfl
     by_cases k1:97 <=c
     .simp only[k1,XN,if_true];rw[a];exact⟨rfl,u,by rw[et,List.map_append,List.map_cons,List.map_nil,eb];simp[k1],_,rfl⟩
     .simp only[k1,XO,Bool.false_eq_true,if_false];rw[a];exact⟨rfl,u,by rw[et,List.map_append,List.map_cons,List.map_nil,eb];simp[k1],_,rfl⟩
    .rintro ys σ' H1 ⟨rfl,_,rfl,_⟩ p hp;walk_at"rd";refine⟨z.cps.toList.map BJ,Jh.of ?_,?_⟩
     .rw[Nc];have:z.cps.toList.take z.cps.size=z.cps.toList:=by rw[Yu];simp
      rw[this,Yw];rfl
     .refine y _ ?_ _ (Jb.new (Jb.refl _) hp);simp only[Di,h1,h2,XN,Ud,List.all_map];rfl
   .have g:¬(z.length:Int) <=8:=by lia
    simp only[g,XO,Bool.not_false,if_true];exact y _ (by simp[Di,h2]) H (Jb.refl H)
  .have j:¬(1:Int) <=(z.length:Int):=by lia
   simp only[j,XO,Bool.false_eq_true,if_false,Bool.not_false,if_true,true_and,exists_eq_left'];exact y _ (by simp[Di,h1]) H (Jb.refl H)
def MN(H:Hp)(x:V):Prop:=∀a xs,x= .ref a->H a=some (.lst xs)->xs.length <=100000/\∀y∈xs,∃n,M0 H y=some n
inductive S1(vs:List V)(H:Hp)(Q:VK)(E:XK):Prop|mk (x n:_) (_:vs=[x]) (_:M0 H x=some n) (_:MN H x) (_:∀H',Jb H H'->Q (.bl (Gy H x)) H')
abbrev AY:Stmt:=top 17
theorem dQ:Nm ["value"] ["value"] (J8 AY):=by walk_at"e"
theorem tZ{f:WX}{fd:WR}(F:Nx K "is_body" "is_body" AY f fd)(T:Cn mg)(B:Bt mg)(Mi:Tk P w K mg base "is_byte" 3 ["value"] [] ON):Jj P w K mg base JZ 4 f fd ["value"] S1:=by
 refine F.ok dQ (fun vs H Q E h=>?_) (fun cdv A ac s H vs Q E hr h=>?_)
 .obtain⟨x,n,rfl,_⟩:=h;rfl
 .obtain⟨x,n,rfl,ty,hz,q⟩:=h;refine⟨_,(Jp (NB (PW.pt (Rc (D0 (Mj (NP (RK "list") B.isinstance (Jk 0 (JM (hs:=Gv) (E8 (v:=.ty "list") rfl B.blist (by rfl) rfl) Jf))))) (Rx (D0 (P4 (NG RO) (NG RO) Jt (NP (Da (Dd (K:=K) rfl)) B.len (Jk 0 Jf)) (Er rfl T.c_MOST_BYTES)))))) (Jz (N8 R8)) NU) (Jz (N8 (NP (QQ (K:=K) rfl rfl) B.all (JM (hs:=Rz) (Dz (N':=["part"]) (caps:=[none]) (MW (sc:=J8 AY) (N:=["value"]) rfl rfl (by decide +kernel)) rfl (Dt (K:=K) rfl (J9 0)) (fun _ _ _ _ _=>(Ms (i:=0) (MY (N:=["part"]) rfl (by decide +kernel)) rfl (Or.inl rfl))) (fun _ _ _ _ _=>GS) (fun _ _ _ _ _=>(T7 Mi hr.m rfl (Jk 0 Jf)))) Jf))))),?_⟩;walk_at"rd";refine⟨n,ty,?_⟩;rw[yT ty];cases hL:A8 H x with
  |false=>
   simp only[Bool.not_false,if_true];have e:=rV hL;rw[e]at q;exact q H (Jb.refl H)
  |true=>
   obtain⟨a,xs,rfl,c⟩:=tQ hL;obtain⟨u,aa⟩:=hz a xs rfl c;rw[QI c]at q;simp only[Bool.not_true,Bool.false_eq_true,if_false];walk_at"rd";refine⟨xs,.inl (Jh.of c),?_⟩
   by_cases h1:1 <=xs.length
   .have j:(1:Int) <=(xs.length:Int):=by lia
    simp only[j,XN,if_true]
    by_cases h2:xs.length <=4000
    .have g:(xs.length:Int) <=4000:=by lia
     simp only[g,XN,Bool.not_true,Bool.false_eq_true,if_false];refine⟨⟨xs,Jh.of c⟩,?_⟩;obtain⟨z,b⟩:∃z:Nat->List V->L2.St->Hp->Prop,z=fun i ys σ' H1=>H1=H/\i <=xs.length/\ys=(xs.take i).map (fun y=>V.bl (Ds y 0 255))/\∃v,σ'=[v]:=⟨_,rfl⟩
     refine QN (xs:=xs) z (by rw[b];exact⟨rfl,Ys _,by simp,none,rfl⟩) ?_ (N0 u) ?_ ?_ <;> rw[b]
     .rintro i ys σ' H1 ⟨rfl,hi,rfl,_⟩ _;refine⟨Jh.of c,?_⟩;simp only[Y1,Yt];lia
     .rintro i y ys σ' H1 r ⟨rfl,hi,rfl,v,rfl⟩;rw[<-b];have ab:i < xs.length:=(Ym.mp r).1;obtain⟨m,hm⟩:=aa y (Yq r);walk_at"rd";refine⟨y,m,rfl,hm,?_⟩;rw[b];refine⟨rfl,ab,?_,_,rfl⟩;rw[YJ,r,YV,List.map_append,List.map_cons,List.map_nil]
     .rintro ys σ' H1 ⟨rfl,_,rfl,_⟩ p hp;walk_at"rd";refine⟨xs.map (fun y=>Ds y 0 255),Jh.of ?_,?_⟩
      .rw[Nc,Yu (Y8 _),Yw];rfl
      .have e:(xs.map (fun y=>Ds y 0 255)).all id=(decide (1 <=xs.length) && decide (xs.length <=4000) && xs.all (fun y=>Ds y 0 255)):=by
        simp only[h1,h2,XN,Ud,List.all_map];rfl
       rw[e];exact q _ (Jb.new (Jb.refl _) hp)
    .have g:¬(xs.length:Int) <=4000:=by lia
     simp only[g,XO,Bool.not_false,if_true];simp only[h2,XO,Bool.and_false,U0]at q;exact q H (Jb.refl H)
   .have j:¬(1:Int) <=(xs.length:Int):=by lia
    simp only[j,XO,Bool.false_eq_true,if_false,Bool.not_false,if_true,true_and,exists_eq_left'];simp only[h1,XO,U0]at q;exact q H (Jb.refl H)
def NW(H:Hp)(number sender goal body keep:V):Bool:=Ds number 0 65535 && (Di sender && (Di goal && (Gy H body && RZ keep)))
structure F9(H:Hp)(number sender goal body keep:V):Prop where
 n:∃t,M0 H number=some t
 s:∃t,M0 H sender=some t
 sl:∀z,sender= .str z->z.length <=100000
 g:∃t,M0 H goal=some t
 gl:∀z,goal= .str z->z.length <=100000
 b:∃t,M0 H body=some t
 bp:MN H body
 k:∃t,M0 H keep=some t
theorem Oq{H H':Hp}(s:Jb H H'){x:V}{n:String}(ty:M0 H x=some n):Gy H' x=Gy H x:=by
 cases x with
 |ref a=>
  have ty:(H a).bind GA=some n:=ty;cases e:H a with
  |none=>rw[e]at ty;cases ty
  |some o=>
   show(match H' a with|some (.lst xs)=>_|_=>false)=(match H a with|some (.lst xs)=>_|_=>false);rw[s a o e,e]
 |_=>rfl
theorem MN.same{H H':Hp}(s:Jb H H'){x:V}{n:String}(ty:M0 H x=some n)(h:MN H x):MN H' x:=by
 intro a xs ex g;subst ex;have b:(H a).bind GA=some n:=ty;cases e:H a with
 |none=>rw[e]at b;cases b
 |some o=>
  have:=s a o e;rw[g]at this;cases this;obtain⟨h1,h2⟩:=h a xs rfl e;exact⟨h1,fun y c=>by obtain⟨m,f⟩:=h2 y c;exact⟨m,Cc s f⟩⟩
inductive HK(vs:List V)(H:Hp)(Q:VK)(E:XK):Prop|mk (number sender goal body keep:_) (_:vs=[number,sender,goal,body,keep]) (_:F9 H number sender goal body keep) (_:∀H',Jb H H'->Q (.bl (NW H number sender goal body keep)) H')
abbrev IG:Stmt:=top 30
theorem nU:Nm ["number","sender","goal","body","keep"] ["number","sender","goal","body","keep"] (J8 IG):=by walk_at"e"
theorem nC{f:WX}{fd:WR}(F:Nx K "are_shared_parts" "are_shared_parts" IG f fd)(NL:Tk P w K mg base "is_number" 3 ["value"] [] Ib)(NF:Tk P w K mg base "is_name" 1 ["value"] [] K7)
  (Me:Tk P w K mg base "is_body" 4 ["value"] [] S1) (T5:Tk P w K mg base "is_truth" 1 ["value"] [] L4):Jj P w K mg base JZ 5 f fd ["number","sender","goal","body","keep"] HK:=by
 refine F.ok nU (fun vs H Q E h=>?_) (fun cdv A ab s H vs Q E i h=>?_)
 .obtain⟨a,b,c,d,e,rfl,_⟩:=h;rfl
 .obtain⟨nu,se,go,bo,ke,rfl,⟨⟨tn,hn⟩,⟨ts,hs⟩,y,⟨tg,hg⟩,z,⟨tb,r⟩,aa,⟨tk,hk⟩⟩,q⟩:=h;refine⟨_,(Jz (N8 (D9 (T7 NL i.m rfl (Jk 0 Jf)) (D9 (T7 NF i.m rfl (Jk 1 Jf)) (D9 (T7 NF i.m rfl (Jk 2 Jf)) (D9 (T7 Me i.m rfl (Jk 3 Jf)) (Gq (T7 T5 i.m rfl (Jk 4 Jf))))))))),?_⟩;walk_at"rd";unfold NW at q;refine⟨nu,tn,rfl,hn,_,rfl,Mp (fun h1=>?_) (fun h1=>?_)⟩
  .refine⟨se,ts,rfl,hs,y,fun H1 p=>⟨_,rfl,Mp (fun h2=>?_) (fun h2=>?_)⟩⟩
   .refine⟨go,tg,rfl,Cc p hg,z,fun H2 x=>⟨_,rfl,Mp (fun n=>?_) (fun n=>?_)⟩⟩
    .have g:=p.trans x;refine⟨bo,tb,rfl,Cc g r,aa.same g r,fun H3 u=>⟨_,rfl,Mp (fun j=>?_) (fun j=>?_)⟩⟩
     .refine⟨ke,tk,rfl,Cc (g.trans u) hk,?_⟩;rw[Oq g r]at j;simp only[h1,h2,n,j,Ud]at q;exact q _ (g.trans u)
     .rw[Oq g r,Vq]at j;simp only[h1,h2,n,j,Ud,U0]at q;exact q _ (g.trans u)
    .rw[Vq]at n;simp only[h1,h2,n,Ud,U0]at q;exact q _ (p.trans x)
   .rw[Vq]at h2;simp only[h1,h2,Ud,U0]at q;exact q _ p
  .rw[Vq]at h1;simp only[h1,U0]at q;exact q H (Jb.refl H)
end
section
theorem JK{f:Str}{v:V}{fs:List (Str×V)}{n:Nat}(h:fs.length <=n):(NO f v fs).length <=n+ 1:=YF (FO f v fs) (Up h)
theorem JB{f g:Str}{v:V}{fs:List (Str×V)}(h:¬g=f):(NO f v fs).lookup g=fs.lookup g:=by rw[Cf,Y5 h]
theorem MM{f:Str}{v:V}{fs:List (Str×V)}:(NO f v fs).lookup f=some v:=by rw[Cf,Y6 rfl]
end
section
variable{P:WP}{w:WU}{K:WV}{mg:WL}{base:J6}
structure C9(K:WV)(C:WX):Prop where
 cl:D4 K C
 number:Jn K C "number"
 sender:Jn K C "sender"
 goal:Jn K C "goal"
 body:Jn K C "body"
 keep:Jn K C "keep"
structure Te(C:WX)(H:Hp)(p:WX)(nu se go bo ke:V):Prop where
 ex:∃dx fs,H p=some (.ins C dx fs)/\fs.lookup ("number":Str)=some nu/\fs.lookup ("sender":Str)=some se/\fs.lookup ("goal":Str)=some go/\fs.lookup ("body":Str)=some bo/\fs.lookup ("keep":Str)=some ke/\
  fs.lookup ("key":Str)=none/\fs.lookup ("is_like":Str)=none
inductive An(C:WX)(vs:List V)(H:Hp)(Q:VK)(E:XK):Prop|mk (p dx nu se go b ke xs:_) (_:vs=[.ref p,nu,se,go,.ref b,ke]) (_:H p=some (.ins C dx [])) (_:F9 H nu se go (.ref b) ke) (_:NW H nu se go (.ref b) ke=true) (_:H b=some (.lst xs)) (_:∀H' b',H b'=none->b'≠p->H' b'=some (.lst xs)->Te C H' p nu se go (.ref b') ke->Nj p H H'->Q .non H')
abbrev Jm:Stmt:=M8 (top 33) 0
theorem n7:Nm ["self","number","sender","goal","body","keep"] ["self","number","sender","goal","body","keep"] (J8 Jm):=by walk_at"e"
theorem ZV {f C : Addr} {fd : FuncData} (F : ∃ (oc : Value) (od : Option Addr) (dV kV doc pm : Value) (an : Option Addr) (cdv ct : Value) (osl : Array (Option Value)),
  fd = W.fnOf "__init__" "Letter.__init__" (Dl Jm) (Jv Jm) (J8 Jm) dV kV doc pm an cdv ct /\ K.lookup f = some ⟨oc, od, .func fd, osl⟩ /\ W.codeIn K cdv "Letter.__init__" = true) (L : C9 K C) (B : Bt mg)
  (JJ:Tk P w K mg base "are_shared_parts" 5 ["number","sender","goal","body","keep"] [] HK):Jj P w K mg base JZ 6 f fd ["self","number","sender","goal","body","keep"] (An C):=by
 obtain⟨oc,od,dV,kV,doc,pm,an,cdv,ct,osl,rfl,lk,hcd⟩:=F;refine EI lk hcd n7 (fun vs H Q E h=>?_) (fun A n s H vs Q E hr h=>?_)
 .obtain⟨p,dx,nu,y,go,b,ke,xs,rfl,_⟩:=h;rfl
 .obtain⟨p,dx,nu,y,go,b,ke,xs,rfl,hp,hpl,hgd,hb,q⟩:=h
  suffices hh:∃t,D7 (Mx JZ P w K mg base _ "Letter.__init__" (J8 Jm) f cdv A n s H E).nox (Jv Jm) t/\t {nx:=fun _ H'=>Q .non H',rt:=Q} (L2.start _ _) H by
   obtain⟨t,h1,h2⟩:=hh;exact⟨t,h1.nox,h2⟩
  refine⟨_,(Jp (NB (D0 (Mj (T7 JJ hr.m rfl (Jk 1 (Jk 2 (Jk 3 (Jk 4 (Jk 5 Jf)))))))) RL NU) (Jp (GR (K:=K) rfl (J9 0) (J9 1) rfl) (Jp (GR (K:=K) rfl (J9 0) (J9 2) rfl) (Jp (GR (K:=K) rfl (J9 0) (J9 3) rfl) (Jp (GR (K:=K) rfl (J9 0) (Rb (HG (K:=K) rfl) rfl B.blist (by rfl) (Jk 4 Jf)) rfl) (Jz (GR (K:=K) rfl (J9 0) (J9 5) rfl))))))),?_⟩;refine JU fun N hN=>?_
  walk_at"rd";refine ⟨nu, y, go, .ref b, ke, rfl, hpl, fun H1 g => ⟨_, rfl, ?_⟩⟩;rw [hgd];simp only [Bool.not_true, Bool.false_eq_true, if_false];refine hN _ _ ?_;clear hN N;walk_at"rd";have hp1 := g p _ hp;have hb1 := g b _ hb;have i : b ≠ p := Ja hb hp (by intro z; cases z);have r : ([] : List (Str × V)).length <= 0 := Y8 0;refine ⟨C, dx, [], hp1, L.cl, L.number, by decide, C, dx, _, Nc, L.cl, L.sender, Yi (JK r) (by decide), C, dx, _, Nc, L.cl, L.goal, Yi (JK (JK r)) (by decide), xs,
   .inl (Jh.of (by rw [JF i, JF i, JF i]; exact hb1)), fun l u => ?_⟩
  have a:l≠p:=fun z=>by rw[z,Nc]at u;cases u
  have x:H1 l=none:=by rw[JF a,JF a,JF a]at u;exact u
  refine⟨C,dx,_,by rw[JF (Ne.symm a)];exact Nc,L.cl,L.body,Yi (JK (JK (JK r))) (by decide),C,dx,_,Nc,L.cl,L.keep,Yi (JK (JK (JK (JK r)))) (by decide),?_⟩;refine q _ l (g.free x) a (by rw[JF a,JF a,Nc]) ⟨dx,_,Nc,?_,?_,?_,?_,?_,?_,?_⟩ ?_
  .rw[JB,JB,JB,JB,MM] <;> decide +kernel
  .rw[JB,JB,JB,MM] <;> decide +kernel
  .rw[JB,JB,MM] <;> decide +kernel
  .rw[JB,MM] <;> decide +kernel
  .rw[MM]
  .rw[JB,JB,JB,JB,JB] <;> first|rfl|decide +kernel
  .rw[JB,JB,JB,JB,JB] <;> first|rfl|decide +kernel
  .intro c o e j;rw[JF j,JF j,JF (NI (g c o e) x),JF j,JF j,JF j];exact g c o e
inductive Hw(C:WX)(vs:List V)(H:Hp)(Q:VK)(E:XK):Prop|mk (p nu se go bo ke:_) (_:vs=[.ref p]) (_:Te C H p nu se go bo ke) (_:∀t,H t=none->Q (.ref t) (upd H t (.tup [nu,se,go])))
abbrev La:Stmt:=M8 (top 33) 1
theorem ZF:Nm ["self"] ["self"] (J8 La):=by walk_at"e"
theorem uD{f C:WX}{fd:WR}(F:Nx K "key" "Letter.key" La f fd)(L:C9 K C):Jj P w K mg base JZ 1 f fd ["self"] (Hw C):=by
 refine F.ok ZF (fun vs H Q E h=>?_) (fun x A g s H vs Q E y h=>?_)
 .obtain⟨p,c,b,e,u,i,rfl,_⟩:=h;rfl
 .obtain⟨p,c,b,e,u,i,rfl,⟨dx,fs,a,r,n,j,_⟩,q⟩:=h;refine⟨_,(Jz (N8 (SF (D8 (Et (K:=K) rfl (J9 0) rfl) (D8 (Et (K:=K) rfl (J9 0) rfl) (D8 (Et (K:=K) rfl (J9 0) rfl) Jf)))))),?_⟩;walk_at"rd";exact⟨C,dx,fs,a,L.cl,L.number,c,r,C,dx,fs,a,L.cl,L.sender,b,n,C,dx,fs,a,L.cl,L.goal,e,j,N0 (by decide),q⟩
def BC:V->Bool
 | .int i=>decide (0 <=i) && decide (i%8=0)
 |_=>false
inductive OK(vs:List V)(H:Hp)(Q:VK)(E:XK):Prop|mk (x n:_) (_:vs=[x]) (_:M0 H x=some n) (_:Q (.bl (BC x)) H)
abbrev Kn:Stmt:=top 31
theorem Zg:Nm ["at"] ["at"] (J8 Kn):=by walk_at"e"
theorem xT{f:WX}{fd:WR}(F:Nx K "is_place" "is_place" Kn f fd)(T:Cn mg)(Ni:Tk P w K mg base "is_whole" 1 ["value"] [] AS):Jj P w K mg base JZ 2 f fd ["at"] OK:=by
 refine F.ok Zg (fun vs H Q E h=>?_) (fun c A a s H vs Q E b h=>?_)
 .obtain⟨x,n,rfl,_⟩:=h;rfl
 .obtain⟨x,n,rfl,ty,q⟩:=h;refine⟨_,(Jz (N8 (D9 (T7 Ni b.m rfl (Jk 0 Jf)) (D9 (MQ (NG Cp) (J9 0) Jt (Dh _)) (Gq (MQ (MI MG) (N6 (dI Mu) (J9 0) (Er rfl T.c_STEP)) Jt (Dh _))))))),?_⟩;walk_at"rd";refine⟨x,n,rfl,ty,_,rfl,Mp (fun h=>?_) (fun h=>?_)⟩
  .cases x <;> first|(simp[Rt]at h;done)|skip
   rename_i i
   walk_at"rd"
   by_cases h1:0 <=i
   .simp only[h1,XN,if_true];refine⟨by decide,rfl,?_⟩;simpa[BC,h1] using q
   .simp only[h1,XO,Bool.false_eq_true,if_false];simpa[BC,h1] using q
  .have e:BC x=false:=by cases x <;> first|rfl|(simp[Rt]at h)
   rw[e]at q;exact q
def Em(at' len:Int)(more:Bool):Bool:=if more then decide (len%8=0) && decide (at'+ len < 4000) else decide (at'+ len <=4000)
inductive PQ(vs:List V)(H:Hp)(Q:VK)(E:XK):Prop|mk (at' len more:_) (_:vs=[.int at',.int len,.bl more]) (_:Q (.bl (Em at' len more)) H)
abbrev Lx:Stmt:=top 32
theorem r0:Nm ["at","length","more"] ["at","length","more"] (J8 Lx):=by walk_at"e"
theorem xO{f:WX}{fd:WR}(F:Nx K "has_room" "has_room" Lx f fd)(T:Cn mg):Jj P w K mg base JZ 1 f fd ["at","length","more"] PQ:=by
 refine F.ok r0 (fun vs H Q E h=>?_) (fun c A b s H vs Q E e h=>?_)
 .obtain⟨a,l,m,rfl,_⟩:=h;rfl
 .obtain⟨a,l,m,rfl,q⟩:=h;refine⟨_,(Jp (NB (Mj (J9 2)) (Jz (N8 (D9 (MQ (MI MG) (N6 (dI Mu) (J9 1) (Er rfl T.c_STEP)) Jt (Dh _)) (Gq (MQ (NG Bf) (N6 (NG Mz) (J9 0) (J9 1)) (Er rfl T.c_MOST_BYTES) (Dh _)))))) NU) (Jz (N8 (MQ (NG RO) (N6 (NG Mz) (J9 0) (J9 1)) (Er rfl T.c_MOST_BYTES) (Dh _))))),?_⟩;walk_at"rd";cases m with
  |true=>
   rw[Y6 rfl];refine⟨by decide,rfl,?_⟩;unfold Em at q;rw[Y6 rfl]at q
   by_cases h1:l%8=0
   .rw[Y6 (by simpa using h1)];simpa[h1] using q
   .rw[Y5 (by simpa using h1)];simpa[h1] using q
  |false=>
   rw[Y5 (by simp)];exact q
structure GO(K:WV)(C:WX):Prop where
 cl:D4 K C
 number:Jn K C "number"
 sender:Jn K C "sender"
 goal:Jn K C "goal"
 at':Jn K C "at"
 body:Jn K C "body"
 more:Jn K C "more"
 keep:Jn K C "keep"
structure Tn(C:WX)(H:Hp)(p:WX)(nu se go a bo mo ke:V):Prop where
 ex:∃dx fs,H p=some (.ins C dx fs)/\fs.lookup ("number":Str)=some nu/\fs.lookup ("sender":Str)=some se/\fs.lookup ("goal":Str)=some go/\fs.lookup ("at":Str)=some a/\fs.lookup ("body":Str)=some bo/\fs.lookup ("more":Str)=some mo/\fs.lookup ("keep":Str)=some ke/\
  fs.lookup ("key":Str)=none/\fs.lookup ("end":Str)=none/\fs.lookup ("is_like":Str)=none
theorem Tn.same{C p:WX}{H H':Hp}{nu se go a bo mo ke:V}(s:∀o,H p=some o->H' p=some o)(h:Tn C H p nu se go a bo mo ke):Tn C H' p nu se go a bo mo ke:=by
 obtain⟨dx,fs,b,r⟩:=h;exact⟨dx,fs,s _ b,r⟩
inductive AD(C:WX)(vs:List V)(H:Hp)(Q:VK)(E:XK):Prop|mk (p dx:WX) (nu se go:V) (a:Int) (b:WX) (mo:Bool) (ke:V) (xs:List V) (_:vs=[.ref p,nu,se,go,.int a,.ref b,.bl mo,ke]) (_:H p=some (.ins C dx [])) (_:F9 H nu se go (.ref b) ke) (_:NW H nu se go (.ref b) ke=true) (_:BC (.int a)=true) (_:H b=some (.lst xs)) (_:Em a xs.length mo=true) (_:∀H' b',H b'=none->b'≠p->H' b'=some (.lst xs)->Tn C H' p nu se go (.int a) (.ref b') (.bl mo) ke->Nj p H H'->Q .non H')
abbrev Jq:Stmt:=M8 (top 34) 0
theorem ZD:Nm ["self","number","sender","goal","at","body","more","keep"] ["self","number","sender","goal","at","body","more","keep"] (J8 Jq):=by walk_at"e"
theorem aT {f C : Addr} {fd : FuncData} (F : ∃ (oc : Value) (od : Option Addr) (dV kV doc pm : Value) (an : Option Addr) (cdv ct : Value) (osl : Array (Option Value)),
  fd = W.fnOf "__init__" "Piece.__init__" (Dl Jq) (Jv Jq) (J8 Jq) dV kV doc pm an cdv ct /\ K.lookup f = some ⟨oc, od, .func fd, osl⟩ /\ W.codeIn K cdv "Piece.__init__" = true) (L : GO K C) (B : Bt mg)
  (JJ:Tk P w K mg base "are_shared_parts" 5 ["number","sender","goal","body","keep"] [] HK) (TW:Tk P w K mg base "is_place" 2 ["at"] [] OK) (T5:Tk P w K mg base "is_truth" 1 ["value"] [] L4)
  (TX:Tk P w K mg base "has_room" 1 ["at","length","more"] [] PQ):Jj P w K mg base JZ 6 f fd ["self","number","sender","goal","at","body","more","keep"] (AD C):=by
 obtain⟨oc,od,dV,kV,doc,pm,an,cdv,ct,osl,rfl,lk,hcd⟩:=F;refine EI lk hcd ZD (fun vs H Q E h=>?_) (fun A x s H vs Q E hr h=>?_)
 .obtain⟨p,dx,nu,se,go,a,b,mo,ke,xs,rfl,_⟩:=h;rfl
 .obtain⟨p,dx,nu,se,go,a,b,mo,ke,xs,rfl,hp,hpl,hgd,hat,hb,y,q⟩:=h
  suffices hh:∃t,D7 (Mx JZ P w K mg base _ "Piece.__init__" (J8 Jq) f cdv A x s H E).nox (Jv Jq) t/\t {nx:=fun _ H'=>Q .non H',rt:=Q} (L2.start _ _) H by
   obtain⟨t,h1,h2⟩:=hh;exact⟨t,h1.nox,h2⟩
  refine⟨_,(Jp (NB (D0 (Mj (T7 JJ hr.m rfl (Jk 1 (Jk 2 (Jk 3 (Jk 5 (Jk 7 Jf)))))))) RL NU) (Jp (NB (PW.pt (Rc (D0 (Mj (T7 TW hr.m rfl (Jk 4 Jf)))) (Rc (D0 (Mj (T7 T5 hr.m rfl (Jk 6 Jf)))) (Rx (D0 (Mj (T7 TX hr.m rfl (Jk 4 (MU (NP (Da (Dd (K:=K) rfl)) B.len (Jk 5 Jf)) (Jk 6 Jf)))))))))) RL NU) (Jp (GR (K:=K) rfl (J9 0) (J9 1) rfl) (Jp (GR (K:=K) rfl (J9 0) (J9 2) rfl) (Jp (GR (K:=K) rfl (J9 0) (J9 3) rfl) (Jp (GR (K:=K) rfl (J9 0) (J9 4) rfl) (Jp (GR (K:=K) rfl (J9 0) (Rb (HG (K:=K) rfl) rfl B.blist (by rfl) (Jk 5 Jf)) rfl) (Jp (GR (K:=K) rfl (J9 0) (J9 6) rfl) (Jz (GR (K:=K) rfl (J9 0) (J9 7) rfl)))))))))),?_⟩;refine JU fun N u=>?_
  walk_at"rd";refine⟨nu,se,go,.ref b,ke,rfl,hpl,fun H1 r=>⟨_,rfl,?_⟩⟩;rw[hgd];simp only[Bool.not_true,Bool.false_eq_true,if_false];refine u _ _ ?_;clear u N;refine JU fun N u=>?_
  walk_at"rd";refine ⟨.int a, _, rfl, rfl, _, rfl, ?_⟩;rw [hat];simp only [Bool.not_true, Bool.false_eq_true, if_false];refine ⟨.bl mo, _, rfl, rfl, _, rfl, ?_⟩;have hp1 := r p _ hp;have hb1 := r b _ hb;have j : b ≠ p := Ja hb hp (by intro z; cases z);have n : ([] : List (Str × V)).length <= 0 := Y8 0;simp only [RZ, Bool.not_true, Bool.false_eq_true, if_false];refine ⟨_, .inl (Jh.of hb1), a, _, mo, rfl, _, rfl, ?_⟩;rw [y];simp only [Bool.not_true, Bool.false_eq_true, if_false];refine u _ _ ?_;clear u N;walk_at"rd";refine ⟨C, dx, [], hp1, L.cl, L.number, by decide, C, dx, _, Nc, L.cl, L.sender, Yi (JK n) (by decide), C, dx, _, Nc, L.cl, L.goal, Yi (JK (JK n)) (by decide), C, dx, _, Nc, L.cl, L.at', Yi (JK (JK (JK n))) (by decide), xs,
   .inl (Jh.of (by rw [JF j, JF j, JF j, JF j]; exact hb1)), fun l hl => ?_⟩
  have g:l≠p:=fun z=>by rw[z,Nc]at hl;cases hl
  have hl1:H1 l=none:=by rw[JF g,JF g,JF g,JF g]at hl;exact hl
  refine⟨C,dx,_,by rw[JF (Ne.symm g)];exact Nc,L.cl,L.body,Yi (JK (JK (JK (JK n)))) (by decide),C,dx,_,Nc,L.cl,L.more,Yi (JK (JK (JK (JK (JK n))))) (by decide),C,dx,_,Nc,L.cl,L.keep,Yi (JK (JK (JK (JK (JK (JK n)))))) (by decide),?_⟩;refine q _ l (r.free hl1) g (by rw[JF g,JF g,JF g,Nc]) ⟨dx,_,Nc,?_,?_,?_,?_,?_,?_,?_,?_,?_,?_⟩ ?_
  .rw[JB,JB,JB,JB,JB,JB,MM] <;> decide +kernel
  .rw[JB,JB,JB,JB,JB,MM] <;> decide +kernel
  .rw[JB,JB,JB,JB,MM] <;> decide +kernel
  .rw[JB,JB,JB,MM] <;> decide +kernel
  .rw[JB,JB,MM] <;> decide +kernel
  .rw[JB,MM] <;> decide +kernel
  .rw[MM]
  .rw[JB,JB,JB,JB,JB,JB,JB] <;> first|rfl|decide +kernel
  .rw[JB,JB,JB,JB,JB,JB,JB] <;> first|rfl|decide +kernel
  .rw[JB,JB,JB,JB,JB,JB,JB] <;> first|rfl|decide +kernel
  .intro c o e i;rw[JF i,JF i,JF i,JF (NI (r c o e) hl1),JF i,JF i,JF i,JF i];exact r c o e
inductive L0(C:WX)(vs:List V)(H:Hp)(Q:VK)(E:XK):Prop|mk (p nu se go a bo mo ke:_) (_:vs=[.ref p]) (_:Tn C H p nu se go a bo mo ke) (_:∀t,H t=none->Q (.ref t) (upd H t (.tup [nu,se,go])))
abbrev Km:Stmt:=M8 (top 34) 1
theorem nN:Nm ["self"] ["self"] (J8 Km):=by walk_at"e"
theorem jS{f C:WX}{fd:WR}(F:Nx K "key" "Piece.key" Km f fd)(L:GO K C):Jj P w K mg base JZ 1 f fd ["self"] (L0 C):=by
 refine F.ok nN (fun vs H Q E h=>?_) (fun z A i s H vs Q E hr h=>?_)
 .obtain⟨p,e,c,g,a,y,j,n,rfl,_⟩:=h;rfl
 .obtain⟨p,e,c,g,a,y,j,n,rfl,⟨dx,fs,b,x,u,r,_⟩,q⟩:=h;refine⟨_,(Jz (N8 (SF (D8 (Et (K:=K) rfl (J9 0) rfl) (D8 (Et (K:=K) rfl (J9 0) rfl) (D8 (Et (K:=K) rfl (J9 0) rfl) Jf)))))),?_⟩;walk_at"rd";exact⟨C,dx,fs,b,L.cl,L.number,e,x,C,dx,fs,b,L.cl,L.sender,c,u,C,dx,fs,b,L.cl,L.goal,g,r,N0 (by decide),q⟩
inductive LA(C:WX)(vs:List V)(H:Hp)(Q:VK)(E:XK):Prop|mk (p:WX) (nu se go:V) (a:Int) (b:WX) (mo ke:V) (xs:List V) (_:vs=[.ref p]) (_:Tn C H p nu se go (.int a) (.ref b) mo ke) (_:H b=some (.lst xs)) (_:Q (.int (a+ xs.length)) H)
abbrev KR:Stmt:=M8 (top 34) 2
theorem dX:Nm ["self"] ["self"] (J8 KR):=by walk_at"e"
theorem j5{f C:WX}{fd:WR}(F:Nx K "end" "Piece.end" KR f fd)(L:GO K C)(B:Bt mg):Jj P w K mg base JZ 1 f fd ["self"] (LA C):=by
 refine F.ok dX (fun vs H Q E h=>?_) (fun z A e s H vs Q E hr h=>?_)
 .obtain⟨p,i,g,u,a,bo,j,n,xs,rfl,_⟩:=h;rfl
 .obtain⟨p,i,g,u,a,b,j,n,xs,rfl,⟨dx,fs,c,f1,f2,f3,y,x,_⟩,r,q⟩:=h;refine⟨_,(Jz (N8 (N6 (NG Mz) (Et (K:=K) rfl (J9 0) rfl) (NP (Da (Dd (K:=K) rfl)) B.len (D8 (Et (K:=K) rfl (J9 0) rfl) Jf))))),?_⟩;walk_at"rd";exact⟨C,dx,fs,c,L.cl,L.at',_,y,C,dx,fs,c,L.cl,L.body,_,x,b,rfl,xs,.inl (Jh.of r),a,rfl,q⟩
def jF(H:Hp)(a:WX):Prop:=(∃n,H a=some (.lst [.int n]))\/∃n m c,H a=some (.lst [.int n,.int m,.int c])
theorem bU(x y:Int):Rf (x%2147483647) y:=.inl ⟨by have:=UX x (show(2147483647:Int)≠0 by decide);lia,by have:=Ux x (show(0:Int) < 2147483647 by decide);lia⟩
def T8(z:Str):Prop:=1 <=z.length/\z.length <=8/\z.cps.toList.all BJ=true
theorem T8.is{z:Str}(h:T8 z):Di (.str z)=true:=by
 obtain⟨h1,h2,a⟩:=h;simp only[Di,h1,h2,a,XN,Bool.and_self]
end
section
variable{K:WV}
theorem T8.ok{z:Str}(h:T8 z):PyData.strOk z=true:=by
 unfold PyData.strOk;rw[Array.all_eq_true];intro i hi;have a:=Xr.mp h.2.2 (z.cps[i]) (W5 hi);unfold BJ at a;simp only[X5,Ya]at a;simp only[Ya];lia
abbrev R5(nu:Int)(z1 z2:Str):PyData:=.tuple [.int nu,.str z1,.str z2]
theorem Rj{H:Hp}{t:WX}{nu:Int}{z1 z2:Str}(h:H t=some (.tup [.int nu,.str z1,.str z2])):Dp K H (.ref t) (R5 nu z1 z2):=
 .tup (JC.of h) (.cons (.int _) (.cons (.str _) (.cons (.str _) .nil)))
theorem Rw(nu:Int){z1 z2:Str}(h1:T8 z1)(h2:T8 z2):SeqAt.shaped (R5 nu z1 z2)=true:=by
 simp[SeqAt.shaped,PyData.canLay0,PyData.canLayAll0,PyData.depth,PyData.depthAll,h1.ok,h2.ok]
theorem bY(nu:Int)(z1 z2:Str):PyData.eqv (R5 nu z1 z2) (R5 nu z1 z2)=true:=by simp[PyData.eqv,PyData.eqvAll]
theorem PL{H:Hp}{nu:Int}{z1 z2:Str}{b:WX}{ns:WY}{k:Bool}(h0:0 <=nu)(h1:nu <=65535)(n1:T8 z1)(n2:T8 z2)(hb:H b=some (.lst (ns.map V.int)))(l1:1 <=ns.length)(l2:ns.length <=4000)(hns:∀x∈ns,0 <=x/\x <=255):
  F9 H (.int nu) (.str z1) (.str z2) (.ref b) (.bl k)/\NW H (.int nu) (.str z1) (.str z2) (.ref b) (.bl k)=true:=by
 refine⟨⟨⟨_,rfl⟩,⟨_,rfl⟩,fun z e=>?_,⟨_,rfl⟩,fun z e=>?_,⟨_,j4 hb⟩,fun a xs h g=>?_,⟨_,rfl⟩⟩,?_⟩
 .cases e;have:=n1.2.1;lia
 .cases e;have:=n2.2.1;lia
 .cases h;rw[hb]at g;cases g;refine⟨by rw[Y1];lia,fun y c=>?_⟩;obtain⟨i,_,rfl⟩:=Y3.mp c;exact⟨_,rfl⟩
 .unfold NW;rw[n1.is,n2.is,QI hb];have f:(ns.map V.int).all (fun y=>Ds y 0 255)=true:=by
   rw[Xr];intro y c;obtain⟨i,hi,rfl⟩:=Y3.mp c;have:=hns i hi;simp[Ds,this.1,this.2]
  rw[f];simp[Ds,h0,h1,l1,l2,RZ]
inductive F1(K:WV)(vs:List V)(H:Hp)(Q:VK)(E:XK):Prop|mk (a:WX) (ns:WY) (_:vs=[.ref a]) (_:Jh K H a (ns.map V.int)) (_:ns.length <=63) (_:∀H',Q (.bl true) H')
end
section
variable{P:WP}{w:WU}{K:WV}{mg:WL}{base:J6}
theorem wD(nu:Int)(z1 z2:Str)(nu':Int)(z1' z2':Str):PyData.eqv (R5 nu z1 z2) (R5 nu' z1' z2')=decide (nu=nu'/\z1=z1'/\z2=z2'):=by
 simp only[PyData.eqv,PyData.eqvAll,Bool.and_true];rw[YA];simp
theorem Te.same{C p:WX}{H H':Hp}{nu se go bo ke:V}(s:∀o,H p=some o->H' p=some o)(h:Te C H p nu se go bo ke):Te C H' p nu se go bo ke:=by
 obtain⟨dx,fs,a,r⟩:=h;exact⟨dx,fs,s _ a,r⟩
end
structure PD where
 nu:Int
 z1:Str
 z2:Str
 at':Int
 ns:List Int
 mo:Bool
 k:Bool
 deriving DecidableEq
structure PD.Ok(d:PD):Prop where
 n0:0 <=d.nu
 n1:d.nu <=65535
 k1:T8 d.z1
 k2:T8 d.z2
 l1:1 <=d.ns.length
 l2:d.ns.length <=4000
 by':∀x∈d.ns,0 <=x/\x <=255
 a0:0 <=d.at'
 a8:d.at'%8=0
 rm:Em d.at' d.ns.length d.mo=true
structure Nz(C:WX)(H:Hp)(p b:WX)(d:PD):Prop where
 ok:d.Ok
 ats:Tn C H p (.int d.nu) (.str d.z1) (.str d.z2) (.int d.at') (.ref b) (.bl d.mo) (.bl d.k)
 bd:H b=some (.lst (d.ns.map V.int))
section
variable{P:WP}{w:WU}{K:WV}{mg:WL}{base:J6}{C p b:WX}{H G:Hp}
theorem Nz.mono{d:PD}(s:Jb H G)(h:Nz C H p b d):Nz C G p b d:=⟨h.ok,h.ats.same (s p),s _ _ h.bd⟩
theorem Nz.but{d:PD}{l:WX}(s:Nj l H G)(h:Nz C H p b d)(n1:p≠l)(n2:b≠l):Nz C G p b d:=⟨h.ok,h.ats.same fun o e=>s p o e n1,s _ _ h.bd n2⟩
theorem Nz.ins{d:PD}(h:Nz C H p b d):∃dx fs,H p=some (.ins C dx fs):=by
 obtain⟨dx,fs,a,_⟩:=h.ats;exact⟨dx,fs,a⟩
theorem CY{d:PD}(L:GO K C)(h:Nz C H p b d):Tf K H (.ref p) "at" (.int d.at'):=by
 obtain⟨dx,fs,a,n,j,i,c,g,f,e,_⟩:=h.ats;exact⟨p,C,dx,fs,rfl,a,L.cl,L.at',c⟩
theorem Qb{d:PD}(L:GO K C)(h:Nz C H p b d):Tf K H (.ref p) "body" (.ref b):=by
 obtain⟨dx,fs,a,n,j,i,g,c,f,e,_⟩:=h.ats;exact⟨p,C,dx,fs,rfl,a,L.cl,L.body,c⟩
theorem Pa{d:PD}(L:GO K C)(h:Nz C H p b d):Tf K H (.ref p) "more" (.bl d.mo):=by
 obtain⟨dx,fs,a,n,j,i,g,f,c,e,_⟩:=h.ats;exact⟨p,C,dx,fs,rfl,a,L.cl,L.more,c⟩
theorem yP{d:PD}(h:Nz C H p b d):GM C "key" H (.ref p):=by
 obtain⟨dx,fs,a,_,_,_,_,_,_,_,f,_⟩:=h.ats;exact⟨p,dx,fs,rfl,a,f⟩
theorem B1{d:PD}(h:Nz C H p b d):GM C "end" H (.ref p):=by
 obtain⟨dx,fs,a,_,_,_,_,_,_,_,_,f,_⟩:=h.ats;exact⟨p,dx,fs,rfl,a,f⟩
def PD.key(d:PD):Int×Str×Str:=(d.nu,d.z1,d.z2)
end
section
variable{P:WP}{w:WU}{K:WV}{mg:WL}{base:J6}{C:WX}
inductive Qw(C:WX)(vs:List V)(H:Hp)(Q:VK)(E:XK):Prop|mk (p b:WX) (d:PD) (_:vs=[.ref p]) (_:Nz C H p b d) (_:∀t G,H t=none->Jb H G->G t=some (.tup [.int d.nu,.str d.z1,.str d.z2])->Q (.ref t) G)
theorem bG(F:T9 P w K mg base C "key" 1 ["self"] [] (L0 C)):T9 P w K mg base C "key" 1 ["self"] [] (Qw C):=
 F.imp fun vs H Q E ⟨p,b,d,e,h,q⟩=>⟨p,_,_,_,_,_,_,_,e,h.ats,fun t a=>q t _ a (MD a) Nc⟩
end
structure LD where
 nu:Int
 z1:Str
 z2:Str
 ns:List Int
 k:Bool
 deriving DecidableEq
structure LD.Ok(d:LD):Prop where
 n0:0 <=d.nu
 n1:d.nu <=65535
 k1:T8 d.z1
 k2:T8 d.z2
 l1:1 <=d.ns.length
 l2:d.ns.length <=4000
 by':∀x∈d.ns,0 <=x/\x <=255
structure ME(C:WX)(H:Hp)(p b:WX)(d:LD):Prop where
 ok:d.Ok
 ats:Te C H p (.int d.nu) (.str d.z1) (.str d.z2) (.ref b) (.bl d.k)
 bd:H b=some (.lst (d.ns.map V.int))
section
variable{P:WP}{w:WU}{K:WV}{mg:WL}{base:J6}{C p b:WX}{H G:Hp}
theorem ME.mono{d:LD}(s:Jb H G)(h:ME C H p b d):ME C G p b d:=⟨h.ok,h.ats.same (s p),s _ _ h.bd⟩
theorem ME.ins{d:LD}(h:ME C H p b d):∃dx fs,H p=some (.ins C dx fs):=by
 obtain⟨dx,fs,a,_⟩:=h.ats;exact⟨dx,fs,a⟩
theorem gO{d:LD}(h:ME C H p b d):GM C "key" H (.ref p):=by
 obtain⟨dx,fs,a,_,_,_,_,_,f,_⟩:=h.ats;exact⟨p,dx,fs,rfl,a,f⟩
end
section
variable{P:WP}{w:WU}{K:WV}{mg:WL}{base:J6}{C:WX}
def LD.whole(d:LD):PD:=⟨d.nu,d.z1,d.z2,0,d.ns,false,d.k⟩
end
section
variable{P:WP}{w:WU}{K:WV}{mg:WL}{base:J6}
inductive Ki(C:WX)(vs:List V)(H:Hp)(Q:VK)(E:XK):Prop|mk (p b:WX) (d:PD) (_:vs=[.ref p]) (_:Nz C H p b d) (_:Q (.int (d.at'+ d.ns.length)) H)
theorem Ze{C:WX}(F:T9 P w K mg base C "end" 1 ["self"] [] (LA C)):T9 P w K mg base C "end" 1 ["self"] [] (Ki C):=
 F.imp fun vs H Q E ⟨p,b,d,e,h,q⟩=>⟨p,_,_,_,d.at',b,_,_,_,e,h.ats,h.bd,by rw[Y1];exact q⟩
end
def Dn:List (Int×Int)->Prop
 |[]=>True
 |p::r=>p.1 < p.2/\(∀q∈r,p.2 < q.1)/\Dn r
def TL(c:List (Int×Int))(x:Int):Prop:=∃p∈c,p.1 <=x/\x < p.2
theorem Gi(x:Int):¬TL [] x:=by rintro⟨p,hp,_⟩;exact nomatch hp
theorem JY{p:Int×Int}{r:List (Int×Int)}{x:Int}:TL (p::r) x↔(p.1 <=x/\x < p.2)\/TL r x:=by
 constructor
 .rintro⟨q,hq,h⟩;rcases Yo.mp hq with rfl|hq
  .exact .inl h
  .exact .inr ⟨q,hq,h⟩
 .rintro(h|⟨q,hq,h⟩)
  .exact⟨p,YD,h⟩
  .exact⟨q,Yn _ hq,h⟩
theorem Af{c d:List (Int×Int)}{x:Int}:TL (c++d) x↔TL c x\/TL d x:=by
 induction c with
 |nil=>simp[Gi]
 |cons p r ih=>rw[List.cons_append,JY,JY,ih,or_assoc]
theorem Ph{p:Int×Int}{r:List (Int×Int)}(h:∀q∈r,p.2 < q.1){x:Int}(hx:TL r x):p.2 < x:=by
 obtain⟨q,a,h1,h2⟩:=hx;have:=h q a
 lia
theorem Lm{c:List (Int×Int)}{p:Int×Int}(hc:Dn c)(hp:p.1 < p.2)(h:∀q∈c,q.2 < p.1):Dn (c++[p]):=by
 induction c with
 |nil=>exact⟨hp,fun _ h=>(nomatch h),trivial⟩
 |cons a r ih=>
  obtain⟨h1,h2,e⟩:=hc;refine⟨h1,fun q b=>?_,ih e fun q b=>h q (Yn _ b)⟩;rcases Yp.mp b with b|b
  .exact h2 q b
  .rw[Yb.mp b];exact h a YD
theorem dB{c d:List (Int×Int)}(hc:Dn c)(hd:Dn d)(h:∀p∈c,∀q∈d,p.2 < q.1):Dn (c++d):=by
 induction c with
 |nil=>exact hd
 |cons a r ih=>
  obtain⟨h1,h2,f⟩:=hc;refine⟨h1,fun q b=>?_,ih f fun p e=>h p (Yn _ e)⟩;rcases Yp.mp b with b|b
  .exact h2 q b
  .exact h a YD q b
structure WS where
 ah:List (Int×Int)
 lo:Int
 hi:Int
 be:List (Int×Int)
def TY(s:WS)(p:Int×Int):WS:=
 if p.2 < s.lo then {s with ah:=s.ah++[p]} else if p.1 > s.hi then {s with be:=s.be++[p]} else {s with lo:=min s.lo p.1,hi:=max s.hi p.2}
def EC(c:List (Int×Int))(lo hi:Int):WS:=c.foldl TY ⟨[],lo,hi,[]⟩
def NQ(c:List (Int×Int))(lo hi:Int):List (Int×Int):=(EC c lo hi).ah++[((EC c lo hi).lo,(EC c lo hi).hi)]++(EC c lo hi).be
structure BW(lo hi:Int)(pre:List (Int×Int))(s:WS)(c:List (Int×Int)):Prop where
 cov:Dn c
 ca:Dn s.ah
 cb:Dn s.be
 lh:s.lo < s.hi
 al:∀p∈s.ah,p.2 < s.lo
 bh:∀p∈s.be,s.hi < p.1
 ac:∀p∈s.ah,∀q∈c,p.2 < q.1
 bc:∀p∈s.be,∀q∈c,p.2 < q.1
 bc2:s.be≠[]->∀q∈c,s.hi < q.1
 gl:s.lo=lo\/∀q∈c,s.lo < q.1
 gh:s.hi=hi\/∀q∈c,s.hi < q.1
 le:s.lo <=lo/\hi <=s.hi
 mem:∀x,(TL s.ah x\/(s.lo <=x/\x < s.hi)\/TL s.be x)↔(TL pre x\/(lo <=x/\x < hi))
theorem jT{lo hi:Int}{pre:List (Int×Int)}{s:WS}{p:Int×Int}{r:List (Int×Int)}(h:BW lo hi pre s (p::r)):BW lo hi (pre++[p]) (TY s p) r:=by
 obtain⟨⟨hp,e,hr⟩,ca,cb,lh,al,bh,n,bc,w,gl,gh,u,j⟩:=h;have i:∀x,TL (pre++[p]) x↔TL pre x\/(p.1 <=x/\x < p.2):=fun x=>by
  rw[Af,JY];simp[Gi]
 unfold TY
 by_cases h1:p.2 < s.lo
 .rw[Y6 h1];have acp:=fun q b=>n q b p YD
  refine⟨hr,Lm ca hp acp,cb,lh,?_,bh,?_,fun a c q b=>bc a c q (Yn _ b),fun z q b=>w z q (Yn _ b),?_,?_,u,fun x=>?_⟩
  .intro q b;rcases Yp.mp b with b|b
   .exact al q b
   .rw[Yb.mp b];exact h1
  .intro q b a c;rcases Yp.mp b with b|b
   .exact n q b a (Yn _ c)
   .rw[Yb.mp b];exact e a c
  .rcases gl with g|g
   .exact .inl g
   .exact .inr fun q b=>g q (Yn _ b)
  .rcases gh with g|g
   .exact .inl g
   .exact .inr fun q b=>g q (Yn _ b)
  .rw[i];have m:=j x;show(TL (s.ah++[p]) x\/_)↔_;rw[Af,JY];simp only[Gi,Wy];constructor
   .rintro((z|z)|z)
    .rcases m.mp (.inl z) with y|y
     .exact .inl (.inl y)
     .exact .inr y
    .exact .inl (.inr z)
    .rcases m.mp (.inr z) with y|y
     .exact .inl (.inl y)
     .exact .inr y
   .rintro((z|z)|z)
    .rcases m.mpr (.inl z) with y|y
     .exact .inl (.inl y)
     .exact .inr y
    .exact .inl (.inr z)
    .rcases m.mpr (.inr z) with y|y
     .exact .inl (.inl y)
     .exact .inr y
 .rw[Y5 h1]
  by_cases h2:p.1 > s.hi
  .rw[Y6 h2];refine⟨hr,ca,Lm cb hp fun q b=>bc q b p YD,lh,al,?_,fun q b a c=>n q b a (Yn _ c),?_,?_,?_,?_,u,fun x=>?_⟩
   .intro q b;rcases Yp.mp b with b|b
    .exact bh q b
    .rw[Yb.mp b];exact h2
   .intro q b a c;rcases Yp.mp b with b|b
    .exact bc q b a (Yn _ c)
    .rw[Yb.mp b];exact e a c
   .intro _ q b;have:=e q b;show s.hi < q.1
    lia
   .rcases gl with g|g
    .exact .inl g
    .exact .inr fun q b=>g q (Yn _ b)
   .rcases gh with g|g
    .exact .inl g
    .exact .inr fun q b=>g q (Yn _ b)
   .rw[i];have m:=j x;show(_\/_\/TL (s.be++[p]) x)↔_;rw[Af,JY];simp only[Gi,Wy];constructor
    .rintro(z|z|z|z)
     .rcases m.mp (.inl z) with y|y
      .exact .inl (.inl y)
      .exact .inr y
     .rcases m.mp (.inr (.inl z)) with y|y
      .exact .inl (.inl y)
      .exact .inr y
     .rcases m.mp (.inr (.inr z)) with y|y
      .exact .inl (.inl y)
      .exact .inr y
     .exact .inl (.inr z)
    .rintro((z|z)|z)
     .rcases m.mpr (.inl z) with y|y|y
      .exact .inl y
      .exact .inr (.inl y)
      .exact .inr (.inr (.inl y))
     .exact .inr (.inr (.inr z))
     .rcases m.mpr (.inr z) with y|y|y
      .exact .inl y
      .exact .inr (.inl y)
      .exact .inr (.inr (.inl y))
  .rw[Y5 h2];have f:s.be=[]:=by
    cases hb:s.be with
    |nil=>rfl
    |cons a t=>
     have:=w (by rw[hb];simp) p YD;exact absurd this (by lia)
   refine⟨hr,ca,by rw[f];trivial,Int.lt_of_le_of_lt (VG ..) (V6 lh (VH ..)),?_,by rw[f];exact fun _ h=>(nomatch h),fun q b a c=>n q b a (Yn _ c),by rw[f];exact fun _ h=>(nomatch h),fun z=>absurd f z,?_,?_,?_,fun x=>?_⟩
   .intro q b;have h3:=al q b;have h4:=n q b p YD;exact Int.lt_min.mpr ⟨h3,h4⟩
   .show min s.lo p.1=lo\/∀q∈r,min s.lo p.1 < q.1;exact .inr fun q b=>by have:=e q b;lia
   .show max s.hi p.2=hi\/∀q∈r,max s.hi p.2 < q.1;rcases gh with g|g
    .by_cases h5:p.2 <=s.hi
     .exact .inl (by lia)
     .exact .inr fun q b=>by have:=e q b;lia
    .exact .inr fun q b=>by have h6:=g q (Yn _ b);have:=e q b;lia
   .exact⟨XA (VG ..) u.1,XA u.2 (VH ..)⟩
   .rw[i];have m:=j x;rw[f]at m ⊢;show(TL s.ah x\/(min s.lo p.1 <=x/\x < max s.hi p.2)\/TL [] x)↔_;simp only[Gi,Wy]at m ⊢;constructor
    .rintro(z|z)
     .rcases m.mp (.inl z) with y|y
      .exact .inl (.inl y)
      .exact .inr y
     .by_cases h7:s.lo <=x/\x < s.hi
      .rcases m.mp (.inr h7) with y|y
       .exact .inl (.inl y)
       .exact .inr y
      .exact .inl (.inr (by lia))
    .rintro((z|z)|z)
     .exact(m.mpr (.inl z)).imp id fun y=>⟨XA (VG ..) y.1,V6 y.2 (VH ..)⟩
     .exact .inr ⟨XA (Int.min_le_right ..) z.1,V6 z.2 (Int.le_max_right ..)⟩
     .exact(m.mpr (.inr z)).imp id fun y=>⟨XA (VG ..) y.1,V6 y.2 (VH ..)⟩
theorem P9{lo hi:Int}:∀{pre c:List (Int×Int)} {s:WS},BW lo hi pre s c->BW lo hi (pre++c) (c.foldl TY s) []
 |pre,[],s,h=>by rw[List.append_nil];exact h
 |pre,p::r,s,h=>by
  have:=P9 (jT h);rw[UA]at this;exact this
theorem aY{c:List (Int×Int)}{lo hi:Int}(hc:Dn c)(h:lo < hi):Dn (NQ c lo hi)/\∀x,TL (NQ c lo hi) x↔TL c x\/(lo <=x/\x < hi):=by
 have r:BW lo hi [] ⟨[],lo,hi,[]⟩ c:=⟨hc,trivial,trivial,h,fun _ z=>(nomatch z),fun _ z=>(nomatch z),fun _ z=>(nomatch z),fun _ z=>(nomatch z),fun z=>absurd rfl z,.inl rfl,.inl rfl,⟨U6 _,U6 _⟩,fun x=>by simp[Gi]⟩;have h1:=P9 r;rw[List.nil_append]at h1;obtain⟨_,i,g,f,e,j,_,_,_,_,_,_,b⟩:=h1;unfold NQ EC;generalize List.foldl TY ⟨[],lo,hi,[]⟩ c=s at i g f e j b ⊢;refine⟨dB (Lm i f e) g fun p a q n=>?_,fun x=>?_⟩
 .have:=j q n;rcases Yp.mp a with a|a
  .have:=e p a;lia
  .rw[Yb.mp a];exact this
 .rw[Af,Af,JY,<-b x,or_assoc];simp[Gi]
def total(c:List (Int×Int)):Int:=(c.map fun p=>p.2 - p.1).sum
def Tt(e:Int)(re:Int):List (Int×Int)->List (Int×Int)
 |[]=>if re < e then [(re,e)] else []
 |p::r=>if e <=p.1 then(if re < e then [(re,e)] else []) else(if re < p.1 then [(re,p.1)] else [])++Tt e p.2 r
theorem d7{e:Int}:∀{c:List (Int×Int)} {re:Int},Dn c->(∀p∈c,re <=p.1)->Dn (Tt e re c)/\(∀q∈Tt e re c,re <=q.1)/\∀x,TL (Tt e re c) x↔(re <=x/\x < e/\¬TL c x):=by
 have g:∀ (c:List (Int×Int)) (re:Int),(∀x,x < e->¬TL c x)->Dn (if re < e then [(re,e)] else [])/\(∀q∈(if re < e then [(re,e)] else []),re <=q.1)/\∀x,TL (if re < e then [(re,e)] else []) x↔(re <=x/\x < e/\¬TL c x):=by
  intro c re n
  by_cases h:re < e
  .rw[Y6 h];refine⟨⟨h,fun _ z=>(nomatch z),trivial⟩,fun q a=>by rw[Yb.mp a];exact U6 _,fun x=>?_⟩;rw[JY];simp only[Gi,Wy];exact⟨fun z=>⟨z.1,z.2,n x z.2⟩,fun z=>⟨z.1,z.2.1⟩⟩
  .rw[Y5 h];refine⟨trivial,fun _ z=>(nomatch z),fun x=>⟨fun z=>absurd z (Gi _),fun z=>by lia⟩⟩
 intro c
 induction c with
 |nil=>intro re _ _;exact g [] re fun x _=>Gi x
 |cons p r ih=>
  intro re n aa;obtain⟨h1,h2,h3⟩:=n;unfold Tt
  by_cases he:e <=p.1
  .rw[Y6 he];refine g (p::r) re fun x w ab=>?_
   rcases JY.mp ab with z|z
   .lia
   .have:=Ph h2 z;lia
  .rw[Y5 he];obtain⟨u,j,s⟩:=ih h3 (re:=p.2) fun q a=>Int.le_of_lt (h2 q a)
   have hp:=aa p YD
   by_cases hr:re < p.1
   .rw[Y6 hr];refine⟨⟨hr,fun q a=>by have:=j q a;show p.1 < q.1;lia,u⟩,fun q a=>?_,fun x=>?_⟩
    .rcases Yo.mp a with rfl|a
     .exact U6 _
     .have:=j q a;lia
    .show TL ((re,p.1)::Tt e p.2 r) x↔_;rw[JY,s,JY];constructor
     .rintro(z|⟨i,f,b⟩)
      .refine⟨z.1,by have:=z.2;lia,?_⟩;rintro(y|y)
       .have:=z.2;lia
       .have:=Ph h2 y;have:=z.2;lia
      .exact⟨by lia,f,by rintro(y|y);lia;exact b y⟩
     .rintro⟨i,f,b⟩
      by_cases w:x < p.1
      .exact .inl ⟨i,w⟩
      .exact .inr ⟨by
        by_cases hx2:x < p.2
        .exact absurd (.inl ⟨by lia,hx2⟩) b
        .lia, f, fun y => b (.inr y)⟩
   .rw[Y5 hr];refine⟨u,fun q a=>by have:=j q a;lia,fun x=>?_⟩;rw[List.nil_append,s,JY];constructor
    .rintro⟨i,f,b⟩;exact⟨by lia,f,by rintro(y|y);lia;exact b y⟩
    .rintro ⟨i, f, b⟩;exact ⟨by
      by_cases hx2:x < p.2
      .exact absurd (.inl ⟨by lia,hx2⟩) b
      .lia, f, fun y => b (.inr y)⟩
def Ta(re:Int):List (Int×Int)->Int
 |[]=>re
 |p::r=>Ta p.2 r
theorem Ps:∀{c:List (Int×Int)} {re:Int},Dn c->(∀x,TL c x->x < Ta re c)/\(c≠[]->TL c (Ta re c - 1))/\(∀p∈c,p.1 < Ta re c)
 |[],re,_=>⟨fun x z=>absurd z (Gi _),fun z=>absurd rfl z,fun _ z=>(nomatch z)⟩
 |p::r,re,hc=>by
  obtain⟨h1,h2,h3⟩:=hc;obtain⟨f,e,b⟩:=Ps (re:=p.2) h3;have g:p.2 <=Ta p.2 r:=by
   cases r with
   |nil=>exact U6 _
   |cons q t=>have:=b q YD;have:=h2 q YD;lia
  refine⟨fun x z=>?_,fun _=>?_,fun q a=>?_⟩
  .show x < Ta p.2 r;rcases JY.mp z with y|y
   .lia
   .exact f x y
  .show TL (p::r) (Ta p.2 r - 1);rw[JY];cases r with
   |nil=>exact .inl ⟨by show p.1 <=p.2 - 1;lia,by show p.2 - 1 < p.2;lia⟩
   |cons q t=>exact .inr (e (by simp))
  .show q.1 < Ta p.2 r;rcases Yo.mp a with rfl|a
   .lia
   .exact b q a
def RG(e:Option Int)(p:Int×Int):Bool:=match e with
 |none=>false
 |some x=>decide (x <=p.1)
def OA(e:Option Int)(re:Int):List (Int×Option Int):=match e with
 |none=>[(re,none)]
 |some x=>if re < x then [(re,some x)] else []
def Mf(e:Option Int)(re:Int):List (Int×Int)->List (Int×Option Int)
 |[]=>OA e re
 |p::r=>if RG e p=true then OA e re else(if re < p.1 then [(re,some p.1)] else [])++Mf e p.2 r
def Dq(c:List (Int×Int)):List (Int×Option Int):=c.map fun p=>(p.1,some p.2)
theorem Bi(c d:List (Int×Int)):Dq (c++d)=Dq c++Dq d:=List.map_append
theorem Pi(e:Int):∀ (c:List (Int×Int)) (re:Int),Mf (some e) re c=Dq (Tt e re c)
 |[],re=>by
  show(if re < e then [(re,some e)] else [])=Dq (if re < e then [(re,e)] else [])
  split <;> rfl
 |p::r,re=>by
  unfold Mf Tt;have es:RG (some e) p=decide (e <=p.1):=rfl;rw[es]
  by_cases h:e <=p.1
  .rw[Y6 (by simpa using h),Y6 h];show(if re < e then [(re,some e)] else [])=_
   split <;> rfl
  .rw[Y5 (by simpa using h),Y5 h,Pi e r p.2,Bi]
   congr 1
   split <;> rfl
theorem SW:∀{c:List (Int×Int)} {re:Int},Dn c->Mf none re c=Dq (Tt (Ta re c) re c)++[(Ta re c,none)]
 |[],re,_=>by
  show [(re,none)]=Dq (if re < re then [(re,re)] else [])++[(re,none)];rw[Y5 (by lia)];rfl
 |p::r,re,hc=>by
  have h3:=(Ps (re:=re) hc).2.2 p YD;unfold Mf Tt;rw[Y5 (show ¬RG none p=true from Yj),SW (re:=p.2) hc.2.2];have a:Ta re (p::r)=Ta p.2 r:=rfl;rw[a]at h3 ⊢;rw[Y5 (show ¬Ta p.2 r <=p.1 by lia),Bi,UA]
  congr 1
  split <;> rfl
def oV:Option Int->V
 |none=>.non
 |some n=>.int n
def SG(H:Hp)(x:V)(p:Int×Option Int):Prop:=∃t,x= .ref t/\H t=some (.tup [.int p.1,oV p.2])
def Ti(H:Hp)(xs:List V)(c:List (Int×Option Int)):Prop:=Paired (fun x p=>SG H x p) xs c
def Tc(H:Hp)(l:WX)(c:List (Int×Option Int)):Prop:=∃xs,H l=some (.lst xs)/\Ti H xs c
def Bh(H G:Hp):Prop:=∀t xs,H t=some (.tup xs)->G t=some (.tup xs)
section
variable{H G J:Hp}{l l':WX}{xs ys:List V}{c d:List (Int×Option Int)}
theorem Bl(s:Jb H G):Bh H G:=fun t xs e=>s t _ e
theorem Mm(b:Nj l H G)(h:H l=some (.lst xs)):Bh H G:=fun t ys e=>b t _ e (Ja e h nofun)
theorem RQ{kvs:List (Jw×V)}(b:Nj l H G)(h:H l=some (.dK kvs)):Bh H G:=fun t ys e=>b t _ e (Ja e h nofun)
theorem Ti.tk(k:Bh H G)(h:Ti H xs c):Ti G xs c:=by
 induction h with
 |nil=>exact .nil
 |cons r _ ih=>obtain⟨t,e,z⟩:=r;exact .cons ⟨t,e,k _ _ z⟩ ih
theorem Ti.len(h:Ti H xs c):xs.length=c.length:=Paired.length h
theorem Ti.app(h:Ti H xs c)(k:Ti H ys d):Ti H (xs++ys) (c++d):=by
 induction h with
 |nil=>exact k
 |cons r _ ih=>exact .cons r ih
theorem Ti.get(h:Ti H xs c){i:Nat}{x:V}(e:xs[i]?=some x):∃p,c[i]?=some p/\SG H x p:=by
 induction h generalizing i with
 |nil=>simp at e
 |cons r _ ih=>
  cases i with
  |zero=>simp at e;subst e;exact⟨_,rfl,r⟩
  |succ i=>simp at e;simpa using ih e
theorem Tc.same(s:Jb H G)(h:Tc H l c):Tc G l c:=by
 obtain⟨xs,e,k⟩:=h;exact⟨xs,s _ _ e,k.tk (Bl s)⟩
theorem Aa(c:List (Int×Int)):(Dq c).length=c.length:=Y1 ..
theorem Pr{c:List (Int×Int)}{i:Nat}{p:Int×Option Int}(e:(Dq c)[i]?=some p):∃q,c[i]?=some q/\p=(q.1,some q.2):=by
 unfold Dq at e;rw[Y9]at e;cases h:c[i]? with
 |none=>rw[h]at e;cases e
 |some q=>rw[h]at e;exact⟨q,rfl,(by simpa using e.symm)⟩
end
section
variable{P:WP}{w:WU}{K:WV}{mg:WL}{base:J6}
inductive Ov(vs:List V)(H:Hp)(Q:VK)(E:XK):Prop|mk (l t:WX) (c:List (Int×Int)) (lo hi:Int) (_:vs=[.ref l,.ref t]) (_:Tc H l (Dq c)) (_:c.length <=1000) (_:H t=some (.tup [.int lo,.int hi])) (_:∀l' G,H l'=none->Jb H G->Tc G l' (Dq (NQ c lo hi))->Q (.ref l') G)
abbrev Hz:Stmt:=top 36
theorem En:Nm ["cover","span","low","high","ahead","behind","one"] ["cover","span"] (J8 Hz):=by walk_at"e"
theorem bT{f:WX}{fd:WR}(F:Nx K "with_span" "with_span" Hz f fd)(B:Bt mg):Jj P w K mg base JZ 1 f fd ["cover","span"] Ov:=by
 refine F.ok En (fun vs H Q E h=>?_) (fun cdv A outer s H vs Q E hr h=>?_)
 .obtain⟨l,t,c,lo,hi,rfl,_⟩:=h;rfl
 .obtain⟨l,t,c,lo,hi,rfl,⟨xs,hl,hc⟩,hz,ht,q⟩:=h;have hlen:xs.length=c.length:=by rw[hc.len,Aa]
  refine⟨_,(Jp (T6 2 En (Tr K (J9 1) Jt)) (Jp (T6 3 En (Tr K (J9 1) Jt)) (Jp (T6 4 En (TZ Jf)) (Jp (T6 5 En (TZ Jf)) (Jp (RF Xq rfl (Dt (K:=K) rfl (J9 0)) (MB 6 En) (Jz (NB (NT (NG Bf) (Tr K (J9 6) Jt) (J9 2)) (Jz (Mv (D5 (K:=K) rfl YM YR YS (R4 GQ) (J9 4) (Jk 6 Jf)))) (Jz (NB (NT (NG E3) (Tr K (J9 6) Jt) (J9 3)) (Jz (Mv (D5 (K:=K) rfl YM YR YS (R4 GQ) (J9 5) (Jk 6 Jf)))) (Jp (T6 2 En (NP (Lp rfl) B.min (Jk 2 (MV (Tr K (J9 6) Jt) Jf)))) (Jz (T6 3 En (NP (Z9 rfl) B.max (Jk 3 (MV (Tr K (J9 6) Jt) Jf))))))))))) (Jz (N8 (N6 (CJ AC) (N6 (CJ AC) (J9 4) (TZ (JM (hs:=Dv) (Mn (Jk 2 (Jk 3 Jf))) Jf))) (J9 5))))))))),?_⟩;walk_at"rd";refine⟨_,JC.of ht,_,rfl,_,JC.of ht,_,rfl,N0 (by simp),fun la G1 hla s1 h1=>⟨N0 (by simp),fun lb G2 hlb s2 h2=>⟨⟨_,Jh.of (s2 l _ (s1 l _ hl))⟩,?_⟩⟩⟩;have nab:la≠lb:=NI h1 hlb;have s02:=s1.trans s2;obtain⟨Pv,r⟩:∃Pv:Nat->L2.St->Hp->Prop,Pv=fun i σ' G=>∃ (st:WS) (v:Option V) (xa z:List V),st=(c.take i).foldl TY ⟨[],lo,hi,[]⟩/\σ'=[some (.ref l),some (.ref t),some (.int st.lo),some (.int st.hi),some (.ref la),some (.ref lb),v]/\Jb H G/\
   G la=some (.lst xa)/\Ti G xa (Dq st.ah)/\G lb=some (.lst z)/\Ti G z (Dq st.be)/\st.ah.length <=i/\st.be.length <=i:=⟨_,rfl⟩
  have hlb0:H lb=none:=s1.free hlb;refine Aw (xs:=xs) Pv (by rw[r];exact⟨_,none,[],[],rfl,rfl,s02,s2 la _ h1,.nil,h2,.nil,Y8 _,Y8 _⟩) ?_ ?_ ?_ <;> rw[r]
  .rintro i σ' G _ ⟨st,v,xa,z,_,_,u,_⟩;exact Jh.of (u l _ hl)
  .rintro i x σ' G hx ⟨st,v,xa,z,est,rfl,u,ha,j,hb,g,la1,lb1⟩;rw[<-r];have hi':i < xs.length:=(Ym.mp hx).1;obtain⟨p',hp',t1,rfl,ht1⟩:=hc.get hx;obtain⟨p,hp,rfl⟩:=Pr hp';have b:=u t1 _ ht1;have etake:c.take (i+ 1)=c.take i++[p]:=by rw[YJ,hp];rfl
   have y:(c.take (i+ 1)).foldl TY ⟨[],lo,hi,[]⟩=TY st p:=by rw[etake,List.foldl_append,<-est];rfl
   walk_at"rd";refine⟨_,JC.of b,_,rfl,_,rfl,Mp (fun h1=>?_) (fun h1=>?_)⟩
   .have a:p.2 < st.lo:=by simpa using h1
    refine⟨.inl ⟨rfl,_,Jh.of ha⟩,_,ha,DK (by have:=j.len;rw[Aa]at this;lia),fun G3 b3 h3=>?_⟩;have tk:=Mm b3 ha;rw[r];refine⟨TY st p,some (.ref t1),xa++[.ref t1],z,y.symm,?_,u.butNew b3 hla,h3,?_,b3 lb _ hb (Ne.symm nab),?_,?_,?_⟩
    .unfold TY;rw[Y6 a]
    .have e:(TY st p).ah=st.ah++[p]:=by unfold TY;rw[Y6 a]
     rw[e,Bi];exact(j.tk tk).app (.cons ⟨t1,rfl,tk _ _ b⟩ .nil)
    .have e:(TY st p).be=st.be:=by unfold TY;rw[Y6 a]
     rw[e];exact g.tk tk
    .have e:(TY st p).ah=st.ah++[p]:=by unfold TY;rw[Y6 a]
     rw[e];simp;lia
    .have e:(TY st p).be=st.be:=by unfold TY;rw[Y6 a]
     rw[e];lia
   .have a:¬p.2 < st.lo:=by simpa using h1
    refine⟨_,JC.of b,_,rfl,_,rfl,Mp (fun h2=>?_) (fun h2=>?_)⟩
    .have h2':p.1 > st.hi:=by simpa using h2
     refine⟨.inl ⟨rfl,_,Jh.of hb⟩,_,hb,DK (by have:=g.len;rw[Aa]at this;lia),fun G3 b3 h3=>?_⟩;have tk:=Mm b3 hb;have n:TY st p={st with be:=st.be++[p]}:=by unfold TY;rw[Y5 a,Y6 h2']
     rw[r];refine⟨TY st p,some (.ref t1),xa,z++[.ref t1],y.symm,by rw[n],u.butNew b3 hlb0,b3 la _ ha nab,by rw[n];exact j.tk tk,h3,?_,by rw[n];show st.ah.length <=i+ 1;lia,by rw[n];show(st.be++[p]).length <=i+ 1;simp;lia⟩;rw[n];show Ti G3 _ (Dq (st.be++[p]));rw[Bi];exact(g.tk tk).app (.cons ⟨t1,rfl,tk _ _ b⟩ .nil)
    .have h2':¬p.1 > st.hi:=by simpa using h2
     have n:TY st p={st with lo:=min st.lo p.1,hi:=max st.hi p.2}:=by unfold TY;rw[Y5 a,Y5 h2']
     refine⟨_,JC.of b,_,rfl,_,rfl,_,JC.of b,_,rfl,_,rfl,?_⟩;rw[r];refine⟨TY st p,some (.ref t1),xa,z,y.symm,?_,u,ha,by rw[n];exact j,hb,by rw[n];exact g,by rw[n];show st.ah.length <=i+ 1;lia,by rw[n];show st.be.length <=i+ 1;lia⟩;rw[n];have e1:(if p.1 < st.lo then p.1 else st.lo)=min st.lo p.1:=by split <;> lia
     have e2:(if p.2 > st.hi then p.2 else st.hi)=max st.hi p.2:=by split <;> lia
     rw[e1,e2]
  .rintro σ' G ⟨st,v,xa,z,est,rfl,u,ha,j,hb,g,la1,lb1⟩;walk_at"rd";have a:=j.len;have h2':=g.len;rw[Aa]at a h2';refine⟨N0 (by simp),fun t2 G3 ht2 s3 h3=>⟨N0 (by simp),fun l3 G4 hl3 s4 h4=>⟨_,s4 la _ (s3 la _ ha),_,h4,N0 (by simp;lia),fun l5 G5 hl5 s5 h5=>⟨_,h5,_,s5 lb _ (s4 lb _ (s3 lb _ hb)),N0 (by simp;lia),fun l6 G6 hl6 s6 h6=>?_⟩⟩⟩⟩;have s36:=(s4.trans s5).trans s6;have sG6:=s3.trans s36;refine q l6 G6 ?_ (u.trans sG6) ⟨_,h6,?_⟩
   .exact u.free (s3.free (s4.free (s5.free hl6)))
   .have e:NQ c lo hi=st.ah++[(st.lo,st.hi)]++st.be:=by
     unfold NQ EC;rw[est,show c.take xs.length=c by rw[hlen,List.take_length]]
    rw[e,Bi,Bi];exact((j.tk (Bl sG6)).app (.cons ⟨t2,rfl,s36 t2 _ h3⟩ .nil)).app (g.tk (Bl sG6))
inductive PX(vs:List V)(H:Hp)(Q:VK)(E:XK):Prop|mk (l:WX) (c:List (Int×Int)) (e:Option Int) (_:vs=[.ref l,oV e]) (_:Tc H l (Dq c)) (_:c.length <=1000) (_:∀l' G,H l'=none->Jb H G->Tc G l' (Mf e 0 c)->Q (.ref l') G)
theorem aE{e:Option Int}{re:Int}{p:Int×Int}{r:List (Int×Int)}(h:RG e p=true):Mf e re (p::r)=Mf e re []:=by
 show(if RG e p=true then _ else _)=_;rw[Y6 h];rfl
theorem wN{e:Option Int}{re:Int}{p:Int×Int}{r:List (Int×Int)}(h:RG e p=false):Mf e re (p::r)=(if re < p.1 then [(re,some p.1)] else [])++Mf e p.2 r:=by
 show(if RG e p=true then _ else _)=_;rw[Y5 (by rw[h];exact Yj)]
abbrev I0:Stmt:=top 37
theorem B5:Nm ["cover","end","told","reached","low","high"] ["cover","end"] (J8 I0):=by walk_at"e"
theorem vB{f:WX}{fd:WR}(F:Nx K "lacking" "lacking" I0 f fd):Jj P w K mg base JZ 1 f fd ["cover","end"] PX:=by
 refine F.ok B5 (fun vs H Q E h=>?_) (fun cdv A outer s H vs Q E hr h=>?_)
 .obtain⟨l,c,e,rfl,_⟩:=h;rfl
 .obtain⟨l,c,e,rfl,⟨xs,hl,hc⟩,hz,q⟩:=h;have hlen:xs.length=c.length:=by rw[hc.len,Aa]
  refine⟨_,(Jp (T6 2 B5 (TZ Jf)) (Jp (T6 3 B5 Jt) (Jp (RF Xq rfl (Dt (K:=K) rfl (J9 0)) (EL (K:=K) (n:=2) rfl rfl (Db (MB 4 B5) (Db (MB 5 B5) EZ))) (Jp (NB (PW.pt (Rl (NT CB (J9 1) Rn) (RI (NT (NG Cp) (J9 4) (J9 1))))) (Jz yD) NU) (Jp (GI (NB (NT (NG E3) (J9 4) (J9 3)) (Jz (Mv (D5 (K:=K) rfl YM YR YS (R4 GQ) (J9 2) (JM (hs:=Dv) (Mn (Jk 3 (Jk 4 Jf))) Jf)))) NU)) (Jz (T6 3 B5 (J9 5)))))) (Jp (GI (NB (NT Qf (J9 1) Rn) (Jz (Mv (D5 (K:=K) rfl YM YR YS (R4 GQ) (J9 2) (JM (hs:=Dv) (Mn (Jk 3 (M9 Rn Jf))) Jf)))) (Jz (NB (NT (NG Bf) (J9 3) (J9 1)) (Jz (Mv (D5 (K:=K) rfl YM YR YS (R4 GQ) (J9 2) (JM (hs:=Dv) (Mn (Jk 3 (Jk 1 Jf))) Jf)))) NU)))) (Jz (N8 (J9 2))))))),?_⟩;refine JU fun N hN=>?_
  walk_at"rd";refine⟨N0 (by simp),fun lt G1 hlt s1 h1=>hN _ _ ?_⟩;clear hN N;refine JU fun N hN=>?_
  walk_at"rd";refine hN _ _ ?_;clear hN N;refine JU fun N hN=>?_
  have tail:∀ (t:List (Int×Option Int)) (a:Int) (G:Hp) (u:List V) (v4 v5:Option V),Jb H G->G lt=some (.lst u)->Ti G u t->t.length <=1001->Mf e 0 c=t++Mf e a []->
    N [some (.ref l),some (oV e),some (.ref lt),some (.int a),v4,v5] G:=by
   intro t a G u v4 v5 y z ht hl2 b;refine hN _ _ ?_;have hxl:=ht.len;refine JU fun N hN=>?_
   obtain⟨R,eR⟩:∃R:L2.St->Hp->Prop,R=fun σ' G'=>∃j:List V,σ'=[some (.ref l),some (oV e),some (.ref lt),some (.int a),v4,v5]/\Jb H G'/\G' lt=some (.lst j)/\Ti G' j (Mf e 0 c):=⟨_,rfl⟩
   refine⟨R,?_,fun σ' G' hR=>hN _ _ ?_⟩
   rotate_left
   .rw[eR]at hR;obtain⟨j,rfl,sG',hx',ht'⟩:=hR;walk_at"rd";exact q lt G' hlt sG' ⟨j,hx',ht'⟩
   clear hN;cases e with
   |none=>
    have g:Mf none 0 c=t++[(a,none)]:=b;walk_at"rd";simp only[oV,XN,if_true];refine⟨.inl ⟨rfl,_,Jh.of z⟩,N0 (by simp),fun t2 G2 ht2 r h2=>⟨_,r lt _ z,DK (by lia),fun G3 b3 h3=>?_⟩⟩;have tk:=Mm b3 (r lt _ z);rw[eR];refine⟨_,rfl,(y.trans r).butNew b3 hlt,h3,?_⟩;rw[g];exact((ht.tk (Bl r)).tk tk).app (.cons ⟨t2,rfl,tk _ _ h2⟩ .nil)
   |some x=>
    have g:Mf (some x) 0 c=t++(if a < x then [(a,some x)] else []):=b;walk_at"rd";simp only[oV,reduceCtorEq,XO,Bool.false_eq_true,if_false];refine⟨_,rfl,Mp (fun h=>?_) (fun h=>?_)⟩
    .have h':a < x:=by simpa using h
     rw[Y6 h']at g;refine⟨.inl ⟨rfl,_,Jh.of z⟩,N0 (by simp),fun t2 G2 ht2 r h2=>⟨_,r lt _ z,DK (by lia),fun G3 b3 h3=>?_⟩⟩;have tk:=Mm b3 (r lt _ z);rw[eR];refine⟨_,rfl,(y.trans r).butNew b3 hlt,h3,?_⟩;rw[g];exact((ht.tk (Bl r)).tk tk).app (.cons ⟨t2,rfl,tk _ _ h2⟩ .nil)
    .have h':¬a < x:=by simpa using h
     rw[Y5 h',List.append_nil]at g;rw[eR];exact⟨u,rfl,y,z,by rw[g];exact ht⟩
  walk_at"rd";refine⟨⟨_,Jh.of (s1 l _ hl)⟩,?_⟩;obtain⟨Pv,ePv⟩:∃Pv:Nat->L2.St->Hp->Prop,Pv=fun i σ' G=>∃ (t:List (Int×Option Int)) (a:Int) (u:List V) (v4 v5:Option V),σ'=[some (.ref l),some (oV e),some (.ref lt),some (.int a),v4,v5]/\Jb H G/\G lt=some (.lst u)/\Ti G u t/\t.length <=i/\
   Mf e 0 c=t++Mf e a (c.drop i):=⟨_,rfl⟩
  refine Aw (xs:=xs) Pv (by rw[ePv];exact⟨[],0,[],none,none,rfl,s1,h1,.nil,Y8 _,by simp⟩) ?_ ?_ ?_ <;> rw[ePv]
  .rintro i σ' G _ ⟨t,a,u,v4,v5,_,y,_⟩;exact Jh.of (y l _ hl)
  .rintro i x σ' G z ⟨t,a,u,v4,v5,rfl,y,ha,hca,hti,b⟩;rw[<-ePv];have hi':i < xs.length:=(Ym.mp z).1;obtain⟨p',hp',t1,rfl,ht1⟩:=hc.get z;obtain⟨p,hp,rfl⟩:=Pr hp';have ht1':=y t1 _ ht1;have edrop:c.drop i=p::c.drop (i+ 1):=by
    rw[List.drop_eq_getElem_cons (by lia)]
    congr 1
    have:=Y4 (l:=c) (i:=i) (by lia);rw[this]at hp;exact Option.some.inj hp
   rw[edrop]at b;refine⟨t1,_,rfl,JC.of ht1',rfl,_,_,rfl,_,_,rfl,rfl,?_⟩;refine JU fun N2 hN2=>?_
   have brk:RG e p=true->N [some (.ref l),some (oV e),some (.ref lt),some (.int a),some (.int p.1),some (.int p.2)] G:=fun hs=>by
    rw[aE hs]at b;exact tail t a G u _ _ y ha hca (by lia) b
   have goOn:RG e p=false->N2 [some (.ref l),some (oV e),some (.ref lt),some (.int a),some (.int p.1),some (.int p.2)] G:=fun hs=>by
    rw[wN hs]at b;have hxl:=hca.len;refine hN2 _ _ ?_;refine JU fun N3 hN3=>?_
    obtain⟨R,eR⟩:∃R:L2.St->Hp->Prop,R=fun σ' G'=>∃ (t':List (Int×Option Int)) (j:List V),σ'=[some (.ref l),some (oV e),some (.ref lt),some (.int a),some (.int p.1),some (.int p.2)]/\Jb H G'/\G' lt=some (.lst j)/\Ti G' j t'/\t'.length <=i+ 1/\Mf e 0 c=t'++Mf e p.2 (c.drop (i+ 1)):=⟨_,rfl⟩
    refine⟨R,?_,fun σ' G' hR=>hN3 _ _ ?_⟩
    rotate_left
    .rw[eR]at hR;obtain⟨t',j,rfl,sG',hx',ht',hl',g⟩:=hR;walk_at"rd";rw[ePv];exact⟨t',p.2,j,_,_,rfl,sG',hx',ht',hl',g⟩
    walk_at"rd";refine Mp (fun h=>?_) (fun h=>?_)
    .have h':a < p.1:=by simpa using h
     rw[Y6 h']at b;refine⟨.inl ⟨rfl,_,Jh.of ha⟩,N0 (by decide),fun t2 G2 ht2 r h2=>⟨_,r lt _ ha,DK (by lia),fun G3 b3 h3=>?_⟩⟩;have tk:=Mm b3 (r lt _ ha);rw[eR];refine⟨t++[(a,some p.1)],_,rfl,(y.trans r).butNew b3 hlt,h3,?_,by simp;lia,by rw[b,UA]⟩;exact((hca.tk (Bl r)).tk tk).app (.cons ⟨t2,rfl,tk _ _ h2⟩ .nil)
    .have h':¬a < p.1:=by simpa using h
     rw[Y5 h',List.nil_append]at b;rw[eR];exact⟨t,u,rfl,y,ha,hca,by lia,b⟩
   walk_at"rd";cases e with
   |none=>
    simp only[oV,XN,Bool.not_true,Bool.false_eq_true,if_false];exact goOn rfl
   |some x=>
    simp only[oV,reduceCtorEq,XO,Bool.not_false,if_true];refine⟨_,rfl,Mp (fun h=>?_) (fun h=>?_)⟩
    .exact brk h
    .exact goOn (by simpa[RG] using h)
  .rintro σ' G ⟨t,a,u,v4,v5,rfl,y,ha,hca,hti,b⟩;exact tail t a G u v4 v5 y ha hca (by lia) (by rw[b,Wo (by lia)])
end
structure RS where
 st:List (Int×Int)
 cv:List (Int×Int)
 en:Option Int
 re:Int
def Gp(st:List (Int×Int)):List (Jw×V):=st.map fun p=>(Sum.inl p.1,V.int p.2)
def N5(st:List (Int×Int))(n:Int):Option Int:=(st.find? fun p=>decide (p.1=n)).map (·.2)
def GE(st:List (Int×Int))(n b:Int):List (Int×Int):=if(st.any fun p=>decide (p.1=n))=true then st.map (fun p=>if p.1=n then(p.1,b) else p) else st++[(n,b)]
theorem B9(st:List (Int×Int))(n:Int):JE (Gp st) (Sum.inl n)=(N5 st n).map V.int:=by
 unfold JE Gp N5
 induction st with
 |nil=>rfl
 |cons p r ih=>
  by_cases h:p.1=n
  .simp[YG,h]
  .have h':¬(Sum.inl p.1:Jw)=Sum.inl n:=fun z=>h (Vg z)
   simp only[List.map_cons,YG,Yk h,Yk h'];exact ih
theorem IX(st:List (Int×Int))(n b:Int):MZ (Gp st) (Sum.inl n) (V.int b)=Gp (GE st n b):=by
 have e:((Gp st).any fun a=>decide (a.1=(Sum.inl n:Jw)))=(st.any fun p=>decide (p.1=n)):=by
  unfold Gp;rw[WJ]
  congr 1
  funext p
  show decide ((Sum.inl p.1:Jw)=Sum.inl n)=decide (p.1=n);rw[YA,Ya,Ya];exact⟨Vg,X3 _⟩
 unfold MZ GE;rw[e]
 by_cases h:(st.any fun p=>decide (p.1=n))=true
 .rw[Y6 h,Y6 h];unfold Gp;rw[Yw,Yw];apply YI;intro p _;show(if(Sum.inl p.1:Jw)=Sum.inl n then((Sum.inl p.1:Jw),V.int b) else((Sum.inl p.1:Jw),V.int p.2))=((Sum.inl (if p.1=n then(p.1,b) else p).1:Jw),V.int (if p.1=n then(p.1,b) else p).2)
  by_cases hp:p.1=n
  .rw[Y6 hp,Y6 (X3 _ hp)]
  .rw[Y5 hp,Y5 (fun z=>hp (Vg z))]
 .rw[Y5 h,Y5 h];unfold Gp;rw[List.map_append];rfl
theorem Z8(st:List (Int×Int))(n b m:Int):N5 (GE st n b) m=if m=n then some b else N5 st m:=by
 have h:=X3 (fun k=>JE k (Sum.inl m)) (IX st n b);rw[uS,B9,B9]at h
 by_cases hm:m=n
 .rw[Y6 hm];rw[Y6 (X3 _ hm)]at h;cases e:N5 (GE st n b) m with
  |none=>rw[e]at h;cases h
  |some x=>rw[e]at h;have:=Option.some.inj h;rw[V.int.injEq]at this;rw[<-this]
 .rw[Y5 hm];rw[Y5 (fun z=>hm (Vg z))]at h;cases e:N5 (GE st n b) m with
  |none=>
   rw[e]at h;cases e2:N5 st m with
   |none=>rfl
   |some y=>rw[e2]at h;cases h
  |some x=>
   rw[e]at h;cases e2:N5 st m with
   |none=>rw[e2]at h;cases h
   |some y=>rw[e2]at h;have:=Option.some.inj h;rw[V.int.injEq]at this;rw[this]
theorem rZ(st:List (Int×Int))(n b:Int):(GE st n b).length <=st.length+ 1:=by
 unfold GE;split
 .rw[Y1];lia
 .rw[Yl];exact Y8 _
def Ng(la:Bool):List (Int×Int)->Int->List Int->List (Int×Int)
 |st,_,[]=>st
 |st,n,b::bs=>Ng la (if la=true\/(N5 st n).isSome=false then GE st n b else st) (n+ 1) bs
def strange(rs:RS)(d:PD):Bool:=
 if d.mo=true then(match rs.en with|some e=>decide (e <=d.at'+ d.ns.length)|none=>false)
 else(match rs.en with|some e=> !decide (d.at'+ d.ns.length=e)|none=>decide (d.at'+ d.ns.length <=rs.re))
def TU(st:List (Int×Int)):Int->List Int->Option Int
 |_,[]=>none
 |n,b::bs=>match N5 st n with|some x=>if x=b then TU st (n+ 1) bs else some n|none=>TU st (n+ 1) bs
def Dj(la:Bool)(rs:RS)(d:PD):RS:=
 ⟨Ng la rs.st d.at' d.ns,NQ rs.cv d.at' (d.at'+ d.ns.length),if d.mo=true then rs.en else some (d.at'+ d.ns.length),if d.mo=true then max rs.re (d.at'+ d.ns.length) else rs.re⟩
theorem CH(la:Bool):∀ (bs:WY) (st:List (Int×Int)) (n:Int),(Ng la st n bs).length <=st.length+ bs.length
 |[],st,n=>Y8 _
 |b::bs,st,n=>by
  have h:=CH la bs (if la=true\/(N5 st n).isSome=false then GE st n b else st) (n+ 1);have h2:=rZ st n b;show(Ng la _ _ bs).length <=st.length+ (bs.length+ 1)
  split at h <;> rename_i hc
  .rw[Y6 hc];lia
  .rw[Y5 hc];lia
section
variable{P:WP}{w:WU}{K:WV}{mg:WL}{base:J6}
structure Gn(K:WV)(C:WX):Prop where
 cl:D4 K C
 rule:Jn K C "rule"
 standing:Jn K C "standing"
 cover:Jn K C "cover"
 ending:Jn K C "ending"
 reach:Jn K C "reach"
structure NH(C:WX)(H:Hp)(p a l:WX)(ru:Str)(rs:RS):Prop where
 ex:∃dx fs,H p=some (.ins C dx fs)/\fs.length <=5/\fs.lookup ("rule":Str)=some (.str ru)/\fs.lookup ("standing":Str)=some (.ref a)/\fs.lookup ("cover":Str)=some (.ref l)/\fs.lookup ("ending":Str)=some (oV rs.en)/\fs.lookup ("reach":Str)=some (.int rs.re)/\
  fs.lookup ("is_strange":Str)=none/\fs.lookup ("unlike_number":Str)=none/\fs.lookup ("take":Str)=none/\fs.lookup ("missing":Str)=none/\fs.lookup ("taken_body":Str)=none/\fs.lookup ("answer_to":Str)=none/\fs.lookup ("size":Str)=none/\fs.lookup ("number":Str)=none
 dk:H a=some (.dK (Gp rs.st))
 cv:Tc H l (Dq rs.cv)
theorem NH.mono{C:WX}{H G:Hp}{p a l:WX}{ru:Str}{rs:RS}(s:Jb H G)(h:NH C H p a l ru rs):NH C G p a l ru rs:=by
 obtain⟨⟨dx,fs,b,r⟩,c,e⟩:=h;exact⟨⟨dx,fs,s _ _ b,r⟩,s _ _ c,e.same s⟩
variable{C p a l:WX}{H:Hp}{ru:Str}{rs:RS}
theorem NH.ne{CP q b:WX}{d:PD}(h:NH C H p a l ru rs)(k:Nz CP H q b d):q≠p/\b≠p/\q≠a/\b≠a:=by
 obtain⟨dx,fs,e,_,_,_,_,_,_,_,_,_,_,_,_,_,i⟩:=h.ex;obtain⟨j,fs',c,g,_⟩:=k.ats;have f:=k.bd;have hd:=h.dk;refine⟨fun z=>?_,Ja f e nofun,Ja c hd nofun,Ja f hd nofun⟩;rw[z,e]at c;cases c;rw[i]at g;cases g
theorem Sx(la:Bool):∀ (bs:WY) (st:List (Int×Int)) (n b:Int),Ng la st n (bs++[b])=(if la=true\/(N5 (Ng la st n bs) (n+ bs.length)).isSome=false then GE (Ng la st n bs) (n+ bs.length) b else Ng la st n bs)
 |[],st,n,b=>by
  show Ng la (if la=true\/(N5 st n).isSome=false then GE st n b else st) (n+ 1) []=_;simp[Ng]
 |x::bs,st,n,b=>by
  show Ng la _ (n+ 1) (bs++[b])=_;rw[Sx la bs];have e:n+ 1+ (bs.length:Int)=n+ ((x::bs).length:Int):=by rw[List.length_cons];lia
  rw[e];rfl
theorem HR(L:Gn K C)(h:NH C H p a l ru rs):Tf K H (.ref p) "rule" (.str ru):=by
 obtain⟨dx,fs,b,_,c,i,g,f,e,_⟩:=h.ex;exact⟨p,C,dx,fs,rfl,b,L.cl,L.rule,c⟩
theorem ES(L:Gn K C)(h:NH C H p a l ru rs):Tf K H (.ref p) "standing" (.ref a):=by
 obtain⟨dx,fs,b,_,i,c,g,f,e,_⟩:=h.ex;exact⟨p,C,dx,fs,rfl,b,L.cl,L.standing,c⟩
theorem SA(L:Gn K C)(h:NH C H p a l ru rs):Tf K H (.ref p) "cover" (.ref l):=by
 obtain⟨dx,fs,b,_,i,g,c,f,e,_⟩:=h.ex;exact⟨p,C,dx,fs,rfl,b,L.cl,L.cover,c⟩
theorem BK(L:Gn K C)(h:NH C H p a l ru rs):Tf K H (.ref p) "ending" (oV rs.en):=by
 obtain⟨dx,fs,b,_,i,g,f,c,e,_⟩:=h.ex;exact⟨p,C,dx,fs,rfl,b,L.cl,L.ending,c⟩
theorem S8(L:Gn K C)(h:NH C H p a l ru rs):Tf K H (.ref p) "reach" (.int rs.re):=by
 obtain⟨dx,fs,b,_,i,g,f,e,c,_⟩:=h.ex;exact⟨p,C,dx,fs,rfl,b,L.cl,L.reach,c⟩
theorem PM(h:NH C H p a l ru rs):GM C "is_strange" H (.ref p):=by
 obtain⟨dx,fs,b,_,_,_,_,_,_,f,_⟩:=h.ex;exact⟨p,dx,fs,rfl,b,f⟩
theorem eO(h:NH C H p a l ru rs):GM C "unlike_number" H (.ref p):=by
 obtain⟨dx,fs,b,_,_,_,_,_,_,_,f,_⟩:=h.ex;exact⟨p,dx,fs,rfl,b,f⟩
theorem r9(h:NH C H p a l ru rs):GM C "take" H (.ref p):=by
 obtain⟨dx,fs,b,_,_,_,_,_,_,_,_,f,_⟩:=h.ex;exact⟨p,dx,fs,rfl,b,f⟩
theorem uK(h:NH C H p a l ru rs):GM C "missing" H (.ref p):=by
 obtain⟨dx,fs,b,_,_,_,_,_,_,_,_,_,f,_⟩:=h.ex;exact⟨p,dx,fs,rfl,b,f⟩
theorem vK(h:NH C H p a l ru rs):GM C "taken_body" H (.ref p):=by
 obtain⟨dx,fs,b,_,_,_,_,_,_,_,_,_,_,f,_⟩:=h.ex;exact⟨p,dx,fs,rfl,b,f⟩
theorem FV(h:NH C H p a l ru rs):GM C "size" H (.ref p):=by
 obtain⟨dx,fs,b,_,_,_,_,_,_,_,_,_,_,_,_,f,_⟩:=h.ex;exact⟨p,dx,fs,rfl,b,f⟩
theorem tN(h:NH C H p a l ru rs):GM C "answer_to" H (.ref p):=by
 obtain⟨dx,fs,b,_,_,_,_,_,_,_,_,_,_,_,f,_⟩:=h.ex;exact⟨p,dx,fs,rfl,b,f⟩
end
section
variable{P:WP}{w:WU}{K:WV}{mg:WL}{base:J6}
def IE(C:WX)(f:Str)(H:Hp)(p b:WX)(xs:List V):Prop:=∃dx fs,H p=some (.ins C dx fs)/\fs.lookup f=some (.ref b)/\H b=some (.lst xs)
def R9(C:WX)(f:Str)(H:Hp)(p:WX)(v:V):Prop:=∃dx fs,H p=some (.ins C dx fs)/\fs.lookup f=some v
structure Bv(K:WV)(C:WX)(f:Str):Prop where
 cl:D4 K C
 na:Jn K C f
abbrev AO(K:WV)(f:WX)(fd:WR)(q:Str)(st:Stmt):Prop:=∃ (oc:WW) (od:Option Addr) (dV kV doc pm:WW) (an:Option Addr) (cdv ct:WW) (osl:Array (Option Value)),
  fd=W.fnOf "__init__" q (Dl st) (Jv st) (J8 st) dV kV doc pm an cdv ct/\K.lookup f=some ⟨oc,od,.func fd,osl⟩/\W.codeIn K cdv q=true
inductive Pd(C:WX)(vs:List V)(H:Hp)(Q:VK)(E:XK):Prop|mk (p dx b xs:_) (_:vs=[.ref p,.ref b]) (_:H p=some (.ins C dx [])) (_:H b=some (.lst xs)) (_:∀b' G,H b'=none->Nj p H G->IE C "body" G p b' xs->Q .non G)
abbrev Nr:Stmt:=M8 (top 40) 0
theorem vU:Nm ["self","body"] ["self","body"] (J8 Nr):=by walk_at"e"
theorem bE{f C:WX}{fd:WR}(F:AO K f fd "Whole.__init__" Nr)(L:Bv K C "body")(B:Bt mg):Jj P w K mg base JZ 1 f fd ["self","body"] (Pd C):=by
 obtain⟨oc,od,dV,kV,doc,pm,an,z,ct,osl,rfl,lk,u⟩:=F;refine EI lk u vU (fun vs H Q E h=>?_) (fun A a s H vs Q E hr h=>?_)
 .obtain⟨p,dx,b,xs,rfl,_⟩:=h;rfl
 .obtain⟨p,dx,b,xs,rfl,r,hb,q⟩:=h
  suffices hh:∃t,D7 (Mx JZ P w K mg base _ "Whole.__init__" (J8 Nr) f z A a s H E).nox (Jv Nr) t/\t {nx:=fun _ H'=>Q .non H',rt:=Q} (L2.start _ _) H by
   obtain⟨t,h1,h2⟩:=hh;exact⟨t,h1.nox,h2⟩
  refine⟨_,(Jz (Dc (K:=K) rfl (J9 0) (Rb (SJ (OD (K:=K) rfl)) rfl B.blist (by rfl) (Jk 1 Jf)) rfl)),?_⟩;walk_at"rd";refine⟨_,.inl (Jh.of hb),fun i G1 g j y=>?_⟩;refine⟨C,dx,[],j p _ r,L.cl,L.na,by decide,fun G2 b2 x=>?_⟩;have n:i≠p:=Ne.symm (NI r g);exact q i G2 g (fun c o e hc=>b2 c o (j c o e) hc) ⟨dx,_,x,MM,b2 i _ y n⟩
inductive Pp(C:WX)(vs:List V)(H:Hp)(Q:VK)(E:XK):Prop|mk (p dx v:_) (_:vs=[.ref p,v]) (_:H p=some (.ins C dx [])) (_:∀G,Nj p H G->R9 C "at" G p v->Q .non G)
abbrev Nh:Stmt:=M8 (top 41) 0
theorem wB:Nm ["self","at"] ["self","at"] (J8 Nh):=by walk_at"e"
theorem eE{f C:WX}{fd:WR}(F:AO K f fd "Unlike.__init__" Nh)(L:Bv K C "at"):Jj P w K mg base JZ 1 f fd ["self","at"] (Pp C):=by
 obtain⟨z,y,dV,kV,u,x,an,e,ct,r,rfl,g,b⟩:=F;refine EI g b wB (fun vs H Q E h=>?_) (fun A a s H vs Q E hr h=>?_)
 .obtain⟨p,dx,v,rfl,_⟩:=h;rfl
 .obtain⟨p,dx,v,rfl,i,q⟩:=h
  suffices hh:∃t,D7 (Mx JZ P w K mg base _ "Unlike.__init__" (J8 Nh) f e A a s H E).nox (Jv Nh) t/\t {nx:=fun _ H'=>Q .non H',rt:=Q} (L2.start _ _) H by
   obtain⟨t,h1,h2⟩:=hh;exact⟨t,h1.nox,h2⟩
  refine⟨_,(Jz (Dc (K:=K) rfl (J9 0) (J9 1) rfl)),?_⟩;walk_at"rd";exact⟨C,dx,[],i,L.cl,L.na,by decide,fun n j c=>q n j ⟨dx,_,c,MM⟩⟩
inductive Of(C:WX)(f:Str)(vs:List V)(H:Hp)(Q:VK)(E:XK):Prop|mk (b xs:_) (_:vs=[.ref b]) (_:H b=some (.lst xs)) (_:∀p b' G,H p=none->H b'=none->Jb H G->IE C f G p b' xs->Q (.ref p) G)
theorem ZH{C:WX}(F:GJ P w K mg base "Whole" C 1 ["self","body"] [] (Pd C)):Go P w K mg base "Whole" 1 (Of C "body"):=by
 refine F.ct fun vs H Q h y dx G a p r s f=>?_
 obtain⟨b,xs,rfl,c,q⟩:=h;exact⟨y,dx,b,xs,rfl,f,s b _ c,fun n H' i j g=>⟨rfl,q y n H' a (s.free i) (fun d o e=>j d o (s d o e) (NI e a)) g⟩⟩
inductive Op(C:WX)(vs:List V)(H:Hp)(Q:VK)(E:XK):Prop|mk (v:_) (_:vs=[v]) (_:∀p G,H p=none->Jb H G->R9 C "at" G p v->Q (.ref p) G)
theorem Zp{C:WX}(F:GJ P w K mg base "Unlike" C 1 ["self","at"] [] (Pp C)):Go P w K mg base "Unlike" 1 (Op C):=by
 refine F.ct fun vs H Q h y dx G a g i s b=>?_
 obtain⟨v,rfl,q⟩:=h;exact⟨y,dx,v,rfl,b,fun H' f c=>⟨rfl,q y H' a (fun d o e=>f d o (s d o e) (NI e a)) c⟩⟩
inductive PV(C:WX)(vs:List V)(H:Hp)(Q:VK)(E:XK):Prop|mk (p dx ru:_) (_:vs=[.ref p,.str ru]) (_:H p=some (.ins C dx [])) (_:∀a l G,H a=none->H l=none->a≠l->Nj p H G->NH C G p a l ru ⟨[],[],none,0⟩->Q .non G)
abbrev N9:Stmt:=M8 (top 42) 0
theorem aL:Nm ["self","rule"] ["self","rule"] (J8 N9):=by walk_at"e"
theorem ZJ{f C:WX}{fd:WR}(F:AO K f fd "Reading.__init__" N9)(L:Gn K C):Jj P w K mg base JZ 1 f fd ["self","rule"] (PV C):=by
 obtain⟨oc,od,dV,kV,doc,pm,an,cdv,ct,osl,rfl,lk,hcd⟩:=F;refine EI lk hcd aL (fun vs H Q E h=>?_) (fun A n s H vs Q E hr h=>?_)
 .obtain⟨p,dx,ru,rfl,_⟩:=h;rfl
 .obtain⟨p,dx,ru,rfl,hp,q⟩:=h
  suffices hh:∃t,D7 (Mx JZ P w K mg base _ "Reading.__init__" (J8 N9) f cdv A n s H E).nox (Jv N9) t/\t {nx:=fun _ H'=>Q .non H',rt:=Q} (L2.start _ _) H by
   obtain⟨t,h1,h2⟩:=hh;exact⟨t,h1.nox,h2⟩
  refine⟨_,(Jp (Dc (K:=K) rfl (J9 0) (J9 1) rfl) (Jp (Dc (K:=K) rfl (J9 0) tF rfl) (Jp (Dc (K:=K) rfl (J9 0) (TZ Jf) rfl) (Jp (Dc (K:=K) rfl (J9 0) Rn rfl) (Jz (Dc (K:=K) rfl (J9 0) Jt rfl)))))),?_⟩;walk_at"rd";have i:([]:List (Str×V)).length <=0:=Y8 0;refine⟨C,dx,[],hp,L.cl,L.rule,by decide,fun G1 b1 y=>?_⟩;intro a Ga ha sa hGa;refine⟨C,dx,_,sa p _ y,L.cl,L.standing,Yi (JK i) (by decide),fun G2 b2 x=>⟨N0 (by simp),fun l Gl r z hGl=>?_⟩⟩;refine⟨C,dx,_,z p _ x,L.cl,L.cover,Yi (JK (JK i)) (by decide),fun G3 b3 hG3=>?_⟩;refine⟨C,dx,_,hG3,L.cl,L.ending,Yi (JK (JK (JK i))) (by decide),fun G4 b4 hG4=>?_⟩;refine⟨C,dx,_,hG4,L.cl,L.reach,Yi (JK (JK (JK (JK i)))) (by decide),fun G5 b5 hG5=>?_⟩;have g:a≠p:=Ne.symm (NI y ha);have b:l≠p:=Ne.symm (NI x r);have u:G2 a=some (.dK []):=b2 a _ hGa g;have nal:a≠l:=NI u r;have haH:H a=none:=by
   cases e:H a with
   |none=>rfl
   |some o=>rw[b1 a o e g]at ha;cases ha
  have hlH:H l=none:=by
   cases e:H l with
   |none=>rfl
   |some o=>rw[b2 l o (sa l o (b1 l o e b)) b]at r;cases r
  refine q a l G5 haH hlH nal (fun c o e j=>b5 c o (b4 c o (b3 c o (z c o (b2 c o (sa c o (b1 c o e j)) j)) j) j) j) ⟨⟨dx,_,hG5,?_,?_,?_,?_,?_,?_,?_,?_,?_,?_,?_,?_,?_,?_⟩,?_,?_⟩
  .exact JK (JK (JK (JK (JK i))))
  .rw[JB,JB,JB,JB,MM] <;> decide +kernel
  .rw[JB,JB,JB,MM] <;> decide +kernel
  .rw[JB,JB,MM] <;> decide +kernel
  .rw[JB,MM] <;> first|rfl|decide +kernel
  .rw[MM]
  all_goals first
   |(rw[JB,JB,JB,JB,JB] <;> first|rfl|decide +kernel)
   |skip
  .exact b5 a _ (b4 a _ (b3 a _ (z a _ u) g) g) g
  .exact⟨[],b5 l _ (b4 l _ (b3 l _ hGl b) b) b,.nil⟩
end
section
theorem A1{f:Str}{v x:V}:∀{fs:List (Str×V)},fs.lookup f=some x->(NO f v fs).length=fs.length
 |[],h=>by cases h
 |(g,y)::r,h=>by
  show(if g=f then(g,v)::r else(g,y)::NO f v r).length=_
  by_cases e:g=f
  .rw[Y6 e];rfl
  .rw[Y5 e,List.length_cons,List.length_cons];have hb:(f==g)=false:=Xl.mpr (fun z=>e z.symm);rw[show List.lookup f ((g,y)::r)=(match f==g with|true=>some y|false=>List.lookup f r) from rfl,hb]at h;rw[A1 h]
theorem Tc.tkp{H G:Hp}{l:WX}{c:List (Int×Option Int)}(h:Tc H l c)(k:Bh H G)(e:∀xs,H l=some (.lst xs)->G l=some (.lst xs)):Tc G l c:=by
 obtain⟨xs,h1,h2⟩:=h;exact⟨xs,e xs h1,h2.tk k⟩
variable{C p a l:WX}{H G:Hp}{ru:Str}{rs:RS}
theorem NH.dict{st:List (Int×Int)}(h:NH C H p a l ru rs)(b:Nj a H G)(e:G a=some (.dK (Gp st))):NH C G p a l ru {rs with st:=st}:=by
 obtain⟨⟨dx,fs,g,r⟩,c,i⟩:=h;exact⟨⟨dx,fs,b _ _ g (Ja g c nofun),r⟩,e,i.tkp (RQ b c) fun xs f=>b _ _ f (Ja f c nofun)⟩
theorem IZ{C dx:WX}{fs:List (Str×V)}(b:Nj p H G)(h:H p=some (.ins C dx fs)):Bh H G:=fun t ys e=>b t _ e (Ja e h nofun)
theorem NH.cover'{l' dx:WX}{fs:List (Str×V)}{cv:List (Int×Int)}(h:NH C H p a l ru rs)(hp:H p=some (.ins C dx fs))(b:Nj p H G)(e:G p=some (.ins C dx (NO "cover" (.ref l') fs)))(hc:Tc H l' (Dq cv)):NH C G p a l' ru {rs with cv:=cv}:=by
 obtain⟨⟨dx',fs',c,f0,f1,f2,f3,y,x,w,u,s,r,q,n,j,i⟩,g,cv⟩:=h;rw[hp]at c;cases c;have tk:=IZ b hp;refine⟨⟨dx,_,e,?_,?_,?_,?_,?_,?_,?_,?_,?_,?_,?_,?_,?_,?_⟩,b _ _ g (Ja g hp nofun),hc.tkp tk fun xs f=>b _ _ f (Ja f hp nofun)⟩
 .rw[A1 f3];exact f0
 .rw[JB (by decide +kernel)];exact f1
 .rw[JB (by decide +kernel)];exact f2
 .rw[MM]
 .rw[JB (by decide +kernel)];exact y
 .rw[JB (by decide +kernel)];exact x
 .rw[JB (by decide +kernel)];exact w
 .rw[JB (by decide +kernel)];exact u
 .rw[JB (by decide +kernel)];exact s
 .rw[JB (by decide +kernel)];exact r
 .rw[JB (by decide +kernel)];exact q
 .rw[JB (by decide +kernel)];exact n
 .rw[JB (by decide +kernel)];exact j
 .rw[JB (by decide +kernel)];exact i
theorem NH.reach'{dx:WX}{fs:List (Str×V)}{re:Int}(h:NH C H p a l ru rs)(hp:H p=some (.ins C dx fs))(b:Nj p H G)(e:G p=some (.ins C dx (NO "reach" (.int re) fs))):NH C G p a l ru {rs with re:=re}:=by
 obtain⟨⟨dx',fs',c,f0,f1,f2,f3,y,x,w,u,s,r,q,n,j,i⟩,g,cv⟩:=h;rw[hp]at c;cases c;have tk:=IZ b hp;refine⟨⟨dx,_,e,?_,?_,?_,?_,?_,?_,?_,?_,?_,?_,?_,?_,?_,?_⟩,b _ _ g (Ja g hp nofun),cv.tkp tk fun xs f=>b _ _ f (Ja f hp nofun)⟩
 .rw[A1 x];exact f0
 .rw[JB (by decide +kernel)];exact f1
 .rw[JB (by decide +kernel)];exact f2
 .rw[JB (by decide +kernel)];exact f3
 .rw[JB (by decide +kernel)];exact y
 .rw[MM]
 .rw[JB (by decide +kernel)];exact w
 .rw[JB (by decide +kernel)];exact u
 .rw[JB (by decide +kernel)];exact s
 .rw[JB (by decide +kernel)];exact r
 .rw[JB (by decide +kernel)];exact q
 .rw[JB (by decide +kernel)];exact n
 .rw[JB (by decide +kernel)];exact j
 .rw[JB (by decide +kernel)];exact i
theorem NH.ending'{dx:WX}{fs:List (Str×V)}{e':Int}(h:NH C H p a l ru rs)(hp:H p=some (.ins C dx fs))(b:Nj p H G)(e:G p=some (.ins C dx (NO "ending" (.int e') fs))):NH C G p a l ru {rs with en:=some e'}:=by
 obtain⟨⟨dx',fs',c,f0,f1,f2,f3,y,x,w,u,s,r,q,n,j,i⟩,g,cv⟩:=h;rw[hp]at c;cases c;have tk:=IZ b hp;refine⟨⟨dx,_,e,?_,?_,?_,?_,?_,?_,?_,?_,?_,?_,?_,?_,?_,?_⟩,b _ _ g (Ja g hp nofun),cv.tkp tk fun xs f=>b _ _ f (Ja f hp nofun)⟩
 .rw[A1 y];exact f0
 .rw[JB (by decide +kernel)];exact f1
 .rw[JB (by decide +kernel)];exact f2
 .rw[JB (by decide +kernel)];exact f3
 .rw[MM];rfl
 .rw[JB (by decide +kernel)];exact x
 .rw[JB (by decide +kernel)];exact w
 .rw[JB (by decide +kernel)];exact u
 .rw[JB (by decide +kernel)];exact s
 .rw[JB (by decide +kernel)];exact r
 .rw[JB (by decide +kernel)];exact q
 .rw[JB (by decide +kernel)];exact n
 .rw[JB (by decide +kernel)];exact j
 .rw[JB (by decide +kernel)];exact i
theorem NH.ins(h:NH C H p a l ru rs):∃dx fs,H p=some (.ins C dx fs)/\fs.length <=5:=by
 obtain⟨⟨dx,fs,b,c,_⟩,_,_⟩:=h;exact⟨dx,fs,b,c⟩
end
section
variable{P:WP}{w:WU}{K:WV}{mg:WL}{base:J6}
inductive Fs(C CP:WX)(vs:List V)(H:Hp)(Q:VK)(E:XK):Prop|mk (p a l q b:WX) (ru:Str) (rs:RS) (d:PD) (_:vs=[.ref p,.ref q]) (_:NH C H p a l ru rs) (_:Nz CP H q b d) (_:Q (.bl (strange rs d)) H)
abbrev KH:Stmt:=M8 (top 42) 1
theorem mT:Nm ["self","piece"] ["self","piece"] (J8 KH):=by walk_at"e"
theorem cL{f C CP:WX}{fd:WR}(F:Nx K "is_strange" "Reading.is_strange" KH f fd)(L:Gn K C)(LP:GO K CP)(JN:T9 P w K mg base CP "end" 1 ["self"] [] (Ki CP)):Jj P w K mg base JZ 2 f fd ["self","piece"] (Fs C CP):=by
 refine F.ok mT (fun vs H Q E h=>?_) (fun r A j s H vs Q E i h=>?_)
 .obtain⟨p,a,l,q,b,ru,rs,d,rfl,_⟩:=h;rfl
 .obtain⟨p,a,l,q,b,ru,rs,d,rfl,g,c,k⟩:=h;refine⟨_,(Jp (NB (Mj (No K (J9 1))) (Jz (N8 (D9 (MQ CB (No K (J9 0)) Rn (Dh _)) (Gq (MQ (NG Cp) (MA (J9 1) JN i.m) (No K (J9 0)) (Dh _)))))) NU) (Jp (NB (NT CB (No K (J9 0)) Rn) (Jz (N8 (MQ (Bw Bu) (MA (J9 1) JN i.m) (No K (J9 0)) (Dh _)))) NU) (Jz (N8 (MQ (NG RO) (MA (J9 1) JN i.m) (No K (J9 0)) (Dh _)))))),?_⟩;walk_at"rd";refine⟨_,Pa LP c,_,rfl,?_⟩;unfold strange at k;cases hm:d.mo with
  |true=>
   rw[hm,Y6 rfl]at k;rw[Y6 rfl];refine⟨_,BK L g,?_⟩;cases he:rs.en with
   |none=>
    rw[he]at k;exact k
   |some e=>
    rw[he]at k;rw[Y6 (by simp[oV])];have hf:=BK L g;rw[he]at hf;exact⟨B1 c,q,b,d,rfl,c,_,hf,_,rfl,_,rfl,k⟩
  |false=>
   rw[hm,Y5 (by simp)]at k;rw[Y5 (by simp)];refine⟨_,BK L g,?_⟩;cases he:rs.en with
   |none=>
    rw[he]at k;rw[Y5 (by simp[oV])];exact⟨B1 c,q,b,d,rfl,c,_,S8 L g,_,rfl,_,rfl,k⟩
   |some e=>
    rw[he]at k;rw[Y6 (by simp[oV])];have hf:=BK L g;rw[he]at hf;refine⟨B1 c,q,b,d,rfl,c,_,hf,rfl,?_⟩;have n:(!decide (V.int (d.at'+ d.ns.length)=oV (some e)))= !decide (d.at'+ d.ns.length=e):=by simp[oV]
    rw[n];exact k
inductive LI(C CP:WX)(vs:List V)(H:Hp)(Q:VK)(E:XK):Prop|mk (p a l q b:WX) (ru:Str) (rs:RS) (d:PD) (_:vs=[.ref p,.ref q]) (_:NH C H p a l ru rs) (_:Nz CP H q b d) (_:(0 <=d.at'/\d.at' <=4000/\d.ns.length <=4000)) (_:∀G,Jb H G->Q (oV (TU rs.st d.at' d.ns)) G)
abbrev Ig:Stmt:=M8 (top 42) 2
theorem KS:Nm ["self","piece","number","byte"] ["self","piece"] (J8 Ig):=by walk_at"e"
theorem xL{f C CP:WX}{fd:WR}(F:Nx K "unlike_number" "Reading.unlike_number" Ig f fd)(L:Gn K C)(LP:GO K CP)(B3:Kp mg):Jj P w K mg base JZ 1 f fd ["self","piece"] (LI C CP):=by
 refine F.ok KS (fun vs H Q E h=>?_) (fun cdv A outer s H vs Q E hr h=>?_)
 .obtain⟨p,a,l,q,b,ru,rs,d,rfl,_⟩:=h;rfl
 .obtain⟨p,a,l,q,b,ru,rs,d,rfl,hR,u,hd,k⟩:=h;refine⟨_,(Jp (RF Xq rfl (SN (K:=K) rfl rfl B3.enumerate (No K (J9 1)) (No K (J9 1))) (EL (K:=K) (n:=2) rfl rfl (Db (MB 2 KS) (Db (MB 3 KS) EZ))) (Jz (NB (PW.pt (Rl (GZ (bS (vD (DL hr))) (J9 2) (No K (J9 0)) (by with_unfolding_all rfl)) (RI (NT (Bw Bu) (GX hr (No K (J9 0)) (J9 2)) (J9 3))))) (Jz (N8 (J9 2))) NU))) (Jz (N8 Rn))),?_⟩;walk_at"rd";refine⟨_,Qb LP u,_,CY LP u,_,rfl,_,rfl,by lia,by lia,⟨_,Jh.of u.bd⟩,?_⟩;obtain⟨Pv,c⟩:∃Pv:Nat->L2.St->Hp->Prop,Pv=fun i σ' G=>∃ (v2 z:Option V),σ'=[some (.ref p),some (.ref q),v2,z]/\Jb H G/\TU rs.st d.at' d.ns=TU rs.st (d.at'+ (i:Nat)) (d.ns.drop i):=⟨_,rfl⟩
  refine Z7 (xs:=d.ns.map V.int) Pv (by rw[c];exact⟨_,_,rfl,Jb.refl _,by simp⟩) ?_ ?_ ?_ <;> rw[c]
  .rintro i σ' G _ ⟨_,_,_,s,_⟩;exact Jh.of (s b _ u.bd)
  .rintro i x t σ' G0 G hx ⟨v2,z,rfl,s0,e⟩ _ s1 ht;rw[<-c];have s:=s0.trans s1;rw[Y9]at hx;obtain⟨n,r,rfl⟩:=Ye.mp hx;have y:i < d.ns.length:=by
    rcases WI i d.ns.length with h|h
    .exact h
    .rw[Xx h]at r;cases r
   have hdr:d.ns.drop i=n::d.ns.drop (i+ 1):=by
    rw[List.drop_eq_getElem_cons y];rw[Y4 y]at r;rw[Option.some.inj r]
   rw[hdr]at e;have g:=hR.mono s;refine⟨t,_,rfl,JC.of ht,rfl,_,_,rfl,_,_,rfl,rfl,?_⟩;walk_at"rd";refine⟨_,ES L g,_,rfl,_,g.dk,?_⟩;rw[B9];have ei:d.at'+ (i:Int)+ 1=d.at'+ ((i+ 1:Nat):Int):=by lia
   have j:=e;rw[show TU rs.st (d.at'+ (i:Nat)) (n::d.ns.drop (i+ 1))=(match N5 rs.st (d.at'+ (i:Nat)) with|some x=>if x=n then TU rs.st (d.at'+ (i:Nat)+ 1) (d.ns.drop (i+ 1)) else some (d.at'+ (i:Nat))|none=>TU rs.st (d.at'+ (i:Nat)+ 1) (d.ns.drop (i+ 1))) from rfl,ei]at j;cases hg:N5 rs.st (d.at'+ i) with
   |none=>
    rw[hg]at j;rw[Y5 (by simp),c];exact⟨_,_,rfl,s,j⟩
   |some x=>
    rw[hg]at j;rw[Y6 (by rfl)];refine⟨_,ES L g,_,rfl,V.int x,?_,rfl,?_⟩
    .have:=MT.k (k:=Sum.inl (d.at'+ (i:Int))) g.dk;rw[B9,hg]at this;exact this
    .by_cases hxn:x=n
     .rw[Y5 (by simp[hxn]),c];exact⟨_,_,rfl,s,by rw[j];exact Y6 hxn⟩
     .rw[Y6 (by simp[hxn])];have:=k G s;rw[j.trans (Y5 hxn)]at this;exact this
  .rintro σ' G ⟨v2,z,rfl,s,e⟩;rw[List.drop_of_length_le (by simp)]at e;have:=k G s;rw[e]at this;exact this
inductive IL(C CP:WX)(vs:List V)(H:Hp)(Q:VK)(E:XK):Prop|mk (p a l q b:WX) (ru:Str) (rs:RS) (d:PD) (_:vs=[.ref p,.ref q]) (_:NH C H p a l ru rs) (_:Nz CP H q b d) (_:(0 <=d.at'/\d.at' <=4000/\d.ns.length <=4000)) (_:rs.st.length <=20000) (_:rs.cv.length <=1000) (_:∀l' G,H l'=none->(∀c o,H c=some o->c≠p->c≠a->G c=some o)->NH C G p a l' ru (Dj (decide (ru="last")) rs d)->Q .non G)
abbrev L6:Stmt:=M8 (top 42) 3
theorem KO:Nm ["self","piece","number","byte"] ["self","piece"] (J8 L6):=by walk_at"e"
theorem mY{f C CP:WX}{fd:WR}(F:Nx K "take" "Reading.take" L6 f fd)(L:Gn K C)(LP:GO K CP)(B:Bt mg)(B3:Kp mg)(JN:T9 P w K mg base CP "end" 1 ["self"] [] (Ki CP))(Tz:Tk P w K mg base "with_span" 1 ["cover","span"] [] Ov):Jj P w K mg base JZ 2 f fd ["self","piece"] (IL C CP):=by
 refine F.ok KO (fun vs H Q E h=>?_) (fun cdv A outer s H vs Q E hr h=>?_)
 .obtain⟨p,a,l,q,b,ru,rs,d,rfl,_⟩:=h;rfl
 .obtain⟨p,a,l,q,b,ru,rs,d,rfl,hR,hP,hd,hst,hcv,k⟩:=h;refine⟨_,(Jp (RF Xq rfl (SN (K:=K) rfl rfl B3.enumerate (No K (J9 1)) (No K (J9 1))) (EL (K:=K) (n:=2) rfl rfl (Db (MB 2 KO) (Db (MB 3 KO) EZ))) (Jz (NB (PW.pt (Rc (NT (MI MG) (No K (J9 0)) NY) (Rx (GZ (aI (xZ (DL hr))) (J9 2) (No K (J9 0)) (by with_unfolding_all rfl))))) (Jz (ZG (DL hr) (No K (J9 0)) (J9 2) (J9 3) rfl)) NU))) (Jp (Dc (K:=K) rfl (J9 0) (T7 Tz hr.m rfl (D8 (No K (J9 0)) (JM (hs:=Dv) (Mn (D8 (No K (J9 1)) (MU (MA (J9 1) JN hr.m) Jf))) Jf))) rfl) (Jz (NB (Mj (No K (J9 1))) (Jz (Dc (K:=K) rfl (J9 0) (NP (Z9 rfl) B.max (D8 (No K (J9 0)) (MU (MA (J9 1) JN hr.m) Jf))) rfl)) (Jz (Dc (K:=K) rfl (J9 0) (MA (J9 1) JN hr.m) rfl)))))),?_⟩;refine JU fun N hN=>?_
  walk_at"rd";refine⟨_,Qb LP hP,_,CY LP hP,_,rfl,_,rfl,by lia,by lia,⟨_,Jh.of hP.bd⟩,?_⟩;obtain⟨nqp,nbp,nqa,nba⟩:=hR.ne hP;obtain⟨Pv,u⟩:∃Pv:Nat->L2.St->Hp->Prop,Pv=fun i σ' G=>∃ (v2 v3:Option V),σ'=[some (.ref p),some (.ref q),v2,v3]/\Nj a H G/\G a=some (.dK (Gp (Ng (decide (ru="last")) rs.st d.at' (d.ns.take i)))):=⟨_,rfl⟩
  refine Z7 (xs:=d.ns.map V.int) Pv (by rw[u];exact⟨_,_,rfl,Nj.refl _ _,hR.dk⟩) ?_ ?_ ?_ <;> rw[u]
  .rintro i σ' G _ ⟨_,_,_,s,_⟩;exact Jh.of (s b _ hP.bd nba)
  .rintro i x t σ' G0 G hx ⟨v2,v3,rfl,s0,hd0⟩ _ s1 ht;rw[<-u];have s:Nj a H G:=fun c o e hc=>s1 c o (s0 c o e hc)
   have g:=s1 a _ hd0;rw[Y9]at hx;obtain⟨n,hn,rfl⟩:=Ye.mp hx;have hlt:i < d.ns.length:=by
    rcases WI i d.ns.length with h|h
    .exact h
    .rw[Xx h]at hn;cases hn
   have htk:d.ns.take (i+ 1)=d.ns.take i++[n]:=by
    rw[List.take_succ,hn];rfl
   have hli:((d.ns.take i).length:Int)=i:=by rw[Yt];lia
   have hsz:=CH (decide (ru="last")) (d.ns.take i) rs.st d.at';refine⟨t,_,rfl,JC.of ht,rfl,_,_,rfl,_,_,rfl,rfl,?_⟩;have j:=hR.dict s g;have hst2:(Gp (Ng (decide (ru="last")) rs.st d.at' (d.ns.take i))).length < sizeLine:=by
    refine YH (m:=30000) ?_ (N0 (by lia));unfold Gp;rw[Y1];rw[Yt]at hsz
    lia
   have r:=Sx (decide (ru="last")) (d.ns.take i) rs.st d.at' n;rw[hli]at r;walk_at"rd";refine⟨_,HR L j,rfl,?_⟩
   by_cases hru:ru="last"
   .rw[Y6 (by rw[hru];exact Yh rfl)];refine⟨_,ES L j,_,rfl,_,g,hst2,fun G1 b1 h1=>?_⟩;rw[IX]at h1;rw[Y6 (.inl (Yh hru))]at r;rw[u];refine⟨_,_,rfl,s.trans b1,?_⟩;rw[htk,r];exact h1
   .rw[Y5 (by simpa using hru)];refine⟨_,ES L j,_,rfl,_,g,?_⟩;rw[B9];cases hg:N5 (Ng (decide (ru="last")) rs.st d.at' (d.ns.take i)) (d.at'+ i) with
    |none=>
     rw[Y6 (by rfl)];refine⟨_,ES L j,_,rfl,_,g,hst2,fun G1 b1 h1=>?_⟩;rw[IX]at h1;rw[Y6 (.inr (by rw[hg];rfl))]at r;rw[u];refine⟨_,_,rfl,s.trans b1,?_⟩;rw[htk,r];exact h1
    |some x=>
     rw[Y5 (by simp)];rw[Y5 (by rw[hg];simp[hru])]at r;rw[u];refine⟨_,_,rfl,s,?_⟩;rw[htk,r];exact g
  .rintro σ' G ⟨v2,v3,rfl,s,g⟩;refine hN _ _ ?_;clear hN N;rw[Yu (by simp)]at g;have j:=hR.dict s g;have ac:=hP.but s nqa nba;refine JU fun N hN=>?_
   walk_at"rd";refine⟨_,SA L j,_,CY LP ac,B1 ac,q,b,d,rfl,ac,?_⟩;refine⟨N0 (by simp),fun t G2 ht s2 hG2=>?_⟩;refine⟨l,t,rs.cv,_,_,rfl,j.cv.same s2,hcv,hG2,fun l' G3 hl' s3 hC3=>?_⟩;have hl0:H l'=none:=s.free (s2.free hl') (Ne.symm (NI g (s2.free hl')));have s13:=s2.trans s3;have hR3:=j.mono s13;have hP3:=ac.mono s13;obtain⟨dx,fs,hp3,hf5⟩:=hR3.ins;refine⟨C,dx,fs,hp3,L.cl,L.cover,by lia,fun G4 b4 hG4=>hN _ _ ?_⟩;clear hN N;have ab:=hR3.cover' hp3 b4 hG4 hC3;have y:=hP3.but b4 nqp nbp;have z:∀c o,H c=some o->c≠p->c≠a->G4 c=some o:=fun c o e h1 h2=>b4 c o (s13 c o (s c o e h2)) h1
   obtain⟨dx4,fs4,aa,hf4⟩:=ab.ins;walk_at"rd";refine⟨_,Pa LP y,_,rfl,?_⟩;cases hm:d.mo with
   |true=>
    rw[Y6 rfl];refine⟨_,S8 L ab,B1 y,q,b,d,rfl,y,_,rfl,_,rfl,C,dx4,fs4,aa,L.cl,L.reach,by lia,fun G5 b5 hG5=>?_⟩;have hR5:=ab.reach' aa b5 hG5;refine k l' G5 hl0 (fun c o e h1 h2=>b5 c o (z c o e h1 h2) h1) ?_;unfold Dj;rw[Y6 hm,Y6 hm];have e:max rs.re (d.at'+ d.ns.length)=if d.at'+ d.ns.length > rs.re then d.at'+ d.ns.length else rs.re:=by split <;> lia
    rw[e];exact hR5
   |false=>
    rw[Y5 (by simp)];refine⟨B1 y,q,b,d,rfl,y,C,dx4,fs4,aa,L.cl,L.ending,by lia,fun G5 b5 hG5=>?_⟩;have hR5:=ab.ending' aa b5 hG5;refine k l' G5 hl0 (fun c o e h1 h2=>b5 c o (z c o e h1 h2) h1) ?_;unfold Dj;rw[Y5 (by rw[hm];simp),Y5 (by rw[hm];simp)];exact hR5
inductive HV(C:WX)(vs:List V)(H:Hp)(Q:VK)(E:XK):Prop|mk (p a l:WX) (ru:Str) (rs:RS) (_:vs=[.ref p]) (_:NH C H p a l ru rs) (_:rs.cv.length <=1000) (_:∀m G,Jb H G->H m=none->Tc G m (Mf rs.en 0 rs.cv)->Q (.ref m) G)
abbrev L5:Stmt:=M8 (top 42) 5
theorem ZN:Nm ["self"] ["self"] (J8 L5):=by walk_at"e"
theorem bB{f C:WX}{fd:WR}(F:Nx K "missing" "Reading.missing" L5 f fd)(L:Gn K C)(Ma:Tk P w K mg base "lacking" 1 ["cover","end"] [] PX):Jj P w K mg base JZ 2 f fd ["self"] (HV C):=by
 refine F.ok ZN (fun vs H Q E h=>?_) (fun j A c s H vs Q E e h=>?_)
 .obtain⟨p,a,l,ru,rs,rfl,_⟩:=h;rfl
 .obtain⟨p,a,l,ru,rs,rfl,b,hd,k⟩:=h;refine⟨_,(Jz (N8 (T7 Ma e.m rfl (D8 (No K (J9 0)) (D8 (No K (J9 0)) Jf))))),?_⟩;walk_at"rd";exact⟨_,SA L b,_,BK L b,l,rs.cv,rs.en,rfl,b.cv,hd,fun l' G i s g=>k l' G s i g⟩
inductive LY(C:WX)(vs:List V)(H:Hp)(Q:VK)(E:XK):Prop|mk (p a l:WX) (ru:Str) (rs:RS) (e:Nat) (ns:WY) (_:vs=[.ref p]) (_:NH C H p a l ru rs) (_:rs.en=some (e:Int)) (_:e <=65536) (_:ns.length=e) (_:(∀i:Nat,∀x,ns[i]?=some x->N5 rs.st i=some x)) (_:∀m G,Jb H G->H m=none->G m=some (.lst (ns.map V.int))->Q (.ref m) G)
abbrev Co:Stmt:=M8 (top 42) 6
theorem gN:Nm ["self"] ["self"] (J8 Co):=by walk_at"e"
theorem y9{f C:WX}{fd:WR}(F:Nx K "taken_body" "Reading.taken_body" Co f fd)(L:Gn K C)(B:Bt mg):Jj P w K mg base JZ 1 f fd ["self"] (LY C):=by
 refine F.ok gN (fun vs H Q E h=>?_) (fun cdv A x s H vs Q E y h=>?_)
 .obtain⟨p,a,l,ru,rs,e,c,rfl,_⟩:=h;rfl
 .obtain⟨p,a,l,ru,rs,e,c,rfl,j,he,hd,hn,z,k⟩:=h;refine⟨_,(Jz (N8 (Dz (N':=["number","self"]) (caps:=[none,some 0]) (MW (sc:=J8 Co) (N:=["self"]) rfl rfl (by decide +kernel)) rfl (BA rfl B.range (D8 (No K (J9 0)) Jf)) (fun _ _ _ _ _=>(Ms (i:=0) (MY (N:=["number","self"]) rfl (by decide +kernel)) rfl (Or.inl rfl))) (fun _ _ _ _ _=>GS) (fun _ _ _ _ _=>(GX y (No K (J9 1)) (J9 0)))))),?_⟩;walk_at"rd";have hf:=BK L j;rw[he]at hf;refine⟨_,hf,_,rfl,by lia,by lia,?_⟩;rw[X7];obtain⟨n,b⟩:∃n:Nat->List V->L2.St->Hp->Prop,n=fun i ys σ' G=>∃v:Option V,σ'=[v,some (.ref p)]/\ys=(c.take i).map V.int/\G=H:=⟨_,rfl⟩
  refine Lo n (by rw[b];exact⟨none,rfl,rfl,rfl⟩) ?_ (N0 (by lia)) ?_ ?_ <;> rw[b]
  .rintro i ys σ' u ⟨v,rfl,rfl,rfl⟩ _;rw[Y1,Yt];lia
  .rintro i ys σ' u hi ⟨v,rfl,rfl,rfl⟩;rw[<-b];walk_at"rd";have q:i < c.length:=by lia
   have g:=z i c[i] (Y4 q);refine⟨_,ES L j,_,rfl,V.int c[i],?_,?_⟩
   .have:=MT.k (k:=Sum.inl (0+ (i:Int))) j.dk;rw[B9,Int.zero_add,g]at this;rw[Int.zero_add];exact this
   .rw[b];exact⟨_,rfl,by rw[List.take_succ,Y4 q,List.map_append];rfl,rfl⟩
  .rintro ys σ' u ⟨v,rfl,rfl,rfl⟩ m G h0 s r;rw[Yu (by lia)]at r;exact k m G s h0 r
theorem Pf:∀ (c:List (Int×Int)) (st:WS),(c.foldl TY st).ah.length+ (c.foldl TY st).be.length <=st.ah.length+ st.be.length+ c.length
 |[],st=>Y8 _
 |p::r,st=>by
  have h:=Pf r (TY st p);have h2:(TY st p).ah.length+ (TY st p).be.length <=st.ah.length+ st.be.length+ 1:=by
   unfold TY
   split
   .simp;omega
   .split
    .simp;omega
    .simp
  rw[Wf,List.length_cons];omega
theorem OX(c:List (Int×Int))(lo hi:Int):(NQ c lo hi).length <=c.length+ 1:=by
 have h:=Pf c ⟨[],lo,hi,[]⟩;unfold NQ EC;simp only[Yl,List.length_cons,List.length_nil]at h ⊢;omega
def Tv(p a:WX)(H G:Hp):Prop:=∀c o,H c=some o->c≠p->c≠a->G c=some o
theorem Tv.free{p a:WX}{H G:Hp}(kp:Tv p a H G){C l b:WX}{ru:Str}{rs:RS}(hR:NH C G p a l ru rs)(h:G b=none):H b=none:=by
 cases e:H b with
 |none=>rfl
 |some o=>
  obtain⟨dx,fs,c,_⟩:=hR.ex;have:=kp b o e (Ne.symm (NI c h)) (Ne.symm (NI hR.dk h));rw[this]at h;cases h
inductive L7(C CP CW CU:WX)(vs:List V)(H:Hp)(Q:VK)(E:XK):Prop|mk (p a l q b:WX) (ru:Str) (rs:RS) (d:PD) (_:vs=[.ref p,.ref q]) (_:NH C H p a l ru rs) (_:Nz CP H q b d) (_:rs.st.length <=20000) (_:rs.cv.length <=900) (_:(strange rs d=true->(ru="refuse"->∀m G,Jb H G->R9 CU "at" G m (.int d.at')->Q (.ref m) G)/\(¬ru="refuse"->Q .non H))) (_:(strange rs d=false->(∀n,ru="refuse"->TU rs.st d.at' d.ns=some n->∀m G,Jb H G->R9 CU "at" G m (.int n)->Q (.ref m) G)/\((ru="refuse"->TU rs.st d.at' d.ns=none)->∀rs',rs'=Dj (decide (ru="last")) rs d->(Mf rs'.en 0 rs'.cv≠[]->∀l' G,H l'=none->Tv p a H G->NH C G p a l' ru rs'->Q .non G)/\(Mf rs'.en 0 rs'.cv=[]->∃ (e:Nat) (ns:WY),rs'.en=some (e:Int)/\e <=4000/\ns.length=e/\(∀i:Nat,∀x,ns[i]?=some x->N5 rs'.st i=some x)/\∀m b' l' G,H b'=none->H l'=none->Tv p a H G->NH C G p a l' ru rs'->IE CW "body" G m b' (ns.map V.int)->Q (.ref m) G))))
theorem PD.Ok.bds{d:PD}(h:d.Ok):0 <=d.at'/\d.at' <=4000/\d.ns.length <=4000:=by
 have h1:=h.a0;have h2:=h.rm;have a:=h.l2;unfold Em at h2;refine⟨h1,?_,a⟩
 split at h2
 .simp only[X5,Ya]at h2;omega
 .simp only[Ya]at h2;omega
abbrev IH:Stmt:=M8 (top 42) 7
theorem PB:Nm ["self","piece","number"] ["self","piece"] (J8 IH):=by walk_at"e"
theorem wS{f C CP CW CU:WX}{fd:WR}(F:Nx K "answer_to" "Reading.answer_to" IH f fd)(L:Gn K C)(LP:GO K CP)
  (JD:T9 P w K mg base C "is_strange" 2 ["self","piece"] [] (Fs C CP)) (JX:T9 P w K mg base C "unlike_number" 1 ["self","piece"] [] (LI C CP)) (NZ:T9 P w K mg base C "take" 2 ["self","piece"] [] (IL C CP))
  (Nq:T9 P w K mg base C "missing" 2 ["self"] [] (HV C)) (N7:T9 P w K mg base C "taken_body" 1 ["self"] [] (LY C))
  (RN:Go P w K mg base "Whole" 1 (Of CW "body")) (Dw:Go P w K mg base "Unlike" 1 (Op CU)):Jj P w K mg base JZ 3 f fd ["self","piece"] (L7 C CP CW CU):=by
 refine F.ok PB (fun vs H Q E h=>?_) (fun cdv A outer s H vs Q E j h=>?_)
 .obtain⟨p,a,l,q,b,ru,rs,d,rfl,_⟩:=h;rfl
 .obtain⟨p,a,l,q,b,ru,rs,d,rfl,r,y,hst,hcv,k1,k2⟩:=h;have hd:=y.ok.bds;refine⟨_,(Jp (NB (Mj (DH (J9 0) JD j.m (Jk 1 Jf))) (Jz (N8 (Ou (NT (MI MG) (No K (J9 0)) NY) (EV Dw j.m rfl (D8 (No K (J9 1)) Jf)) Rn))) NU) (Jp (GI (NB (NT (MI MG) (No K (J9 0)) NY) (Jp (T6 2 PB (DH (J9 0) JX j.m (Jk 1 Jf))) (Jz (NB (NT CB (J9 2) Rn) (Jz (N8 (EV Dw j.m rfl (Jk 2 Jf)))) NU))) NU)) (Jp (Mv (DH (J9 0) NZ j.m (Jk 1 Jf))) (Jz (N8 (Ou (NT (Al (AI (K:=K) (Room.units j) rfl)) (MA (J9 0) Nq j.m) (TZ Jf)) (EV RN j.m rfl (MU (MA (J9 0) N7 j.m) Jf)) Rn)))))),?_⟩;walk_at"rd";refine⟨PM r,p,a,l,q,b,ru,rs,d,rfl,r,y,_,rfl,?_⟩;cases hs:strange rs d with
  |true=>
   obtain⟨q1,q2⟩:=k1 hs;rw[Y6 rfl];refine⟨_,HR L r,rfl,?_⟩
   by_cases hru:ru="refuse"
   .rw[Y6 (by rw[hru];exact Yh rfl)];exact⟨_,CY LP y,_,rfl,fun m G h0 s hA=>q1 hru m G s hA⟩
   .rw[Y5 (by simpa using hru)];exact q2 hru
  |false=>
   obtain⟨q1,q2⟩:=k2 hs;rw[Y5 (by simp)];obtain⟨R,eR⟩:∃R:L2.St->Hp->Prop,R=fun σ' G=>∃v,σ'=[some (.ref p),some (.ref q),v]/\Jb H G/\(ru="refuse"->TU rs.st d.at' d.ns=none):=⟨_,rfl⟩
   refine⟨R,?_,fun σ' G hRr=>?_⟩
   .refine⟨_,HR L r,rfl,?_⟩
    by_cases hru:ru="refuse"
    .rw[Y6 (by rw[hru];exact Yh rfl)];refine⟨eO r,p,a,l,q,b,ru,rs,d,rfl,r,y,hd,fun G s=>?_⟩;cases hu:TU rs.st d.at' d.ns with
     |none=>
      rw[Y5 (by simp[oV]),eR];exact⟨_,rfl,s,fun _=>hu⟩
     |some n=>
      rw[Y6 (by simp[oV])];exact⟨_,rfl,fun m G2 h0 s2 hA=>q1 n hru hu m G2 (s.trans s2) hA⟩
    .rw[Y5 (by simpa using hru),eR];exact⟨_,rfl,Jb.refl _,fun z=>absurd z hru⟩
   .rw[eR]at hRr;obtain⟨v,rfl,s,hu⟩:=hRr;have hR1:=r.mono s;have hP1:=y.mono s;obtain⟨q3,q4⟩:=q2 hu _ rfl;refine⟨_,rfl,r9 hR1,_,rfl,p,a,l,q,b,ru,rs,d,rfl,hR1,hP1,hd,hst,by omega,fun l' G2 hl0 kp g=>?_⟩;have x:(Dj (decide (ru="last")) rs d).cv.length <=1000:=by
     have:=OX rs.cv d.at' (d.at'+ d.ns.length);show(NQ rs.cv d.at' (d.at'+ d.ns.length)).length <=1000;omega
    generalize Dj (decide (ru="last")) rs d=rs' at g q3 q4 x;refine⟨_,rfl,uK g,p,a,l',ru,rs',rfl,g,x,fun m G3 s3 hm hC=>⟨N0 (by simp),fun z G4 hz s4 hz4=>?_⟩⟩;obtain⟨xs,hx,hxc⟩:=hC;refine⟨m,rfl,xs,Jh.of (s4 m _ hx),Jh.of hz4,?_⟩;have i:=s3.trans s4;have u:Tv p a H G4:=fun c o e h1 h2=>i c o (kp c o (s c o e) h1 h2)
    have hxl:=hxc.len
    by_cases hn:Mf rs'.en 0 rs'.cv=[]
    .rw[hn]at hxl;rw[Y6 (Yh (show xs.length=0 from hxl))];obtain⟨e,ns,he,he2,hns,hg,q5⟩:=q4 hn;exact⟨_,rfl,vK (g.mono i),p,a,l',ru,rs',e,ns,rfl,g.mono i,he,by omega,hns,hg,fun m5 G5 s5 hm5 h5=>⟨m5,_,rfl,h5,fun w b' G6 hw hb' s6 hA=>q5 w b' l' G6 (Tv.free (fun c o e h1 h2=>s5 c o (u c o e h1 h2)) ((g.mono i).mono s5) hb') (s.free hl0) (fun c o e h1 h2=>s6 c o (s5 c o (u c o e h1 h2))) (((g.mono i).mono s5).mono s6) hA⟩⟩
    .rw [Y5 (by
      simp only [Ya];intro hz;exact hn (XY (by omega)))]
     exact q3 hn l' G4 (s.free hl0) u (g.mono i)
theorem HB(a b:Str):E7 (.str a) (.str b)=decide (a=b):=by
 show(a==b)=_;rw[YA,Vz,Ya]
inductive OC(C:WX)(vs:List V)(H:Hp)(Q:VK)(E:XK):Prop|mk (ru:_) (_:vs=[.str ru]) (_:∀p a l G,H p=none->H a=none->H l=none->Jb H G->NH C G p a l ru ⟨[],[],none,0⟩->Q (.ref p) G)
theorem uX{C:WX}(F:GJ P w K mg base "Reading" C 1 ["self","rule"] [] (PV C)):Go P w K mg base "Reading" 1 (OC C):=by
 refine F.ct fun vs H Q h y dx G b n r s i=>?_
 obtain⟨ru,rfl,q⟩:=h;exact⟨y,dx,ru,rfl,i,fun a l H' f c p j g=>⟨rfl,q y a l H' b (s.free f) (s.free c) (fun d o e=>j d o (s d o e) (NI e b)) g⟩⟩
inductive Ol(vs:List V)(H:Hp)(Q:VK)(E:XK):Prop|mk (ru:Str) (_:vs=[.str ru]) (_:Q (.bl (decide (ru="first"\/ru="last"\/ru="refuse"))) H)
abbrev LG:Stmt:=top 18
theorem wO:Nm ["value"] ["value"] (J8 LG):=by walk_at"e"
theorem vZ{f aRULES:WX}{fd:WR}(F:Nx K "is_rule" "is_rule" LG f fd)(B:Bt mg)(g_RULES:mg "RULES"=some (.ref aRULES))(t_RULES:∀H,JC K H aRULES [.str "first",.str "last",.str "refuse"]):Jj P w K mg base JZ 1 f fd ["value"] Ol:=by
 refine F.ok wO (fun vs H Q E h=>?_) (fun b A a s H vs Q E c h=>?_)
 .obtain⟨ru,rfl,_⟩:=h;rfl
 .obtain⟨ru,rfl,k⟩:=h;refine⟨_,(Jz (N8 (D9 (NP (RK "str") B.isinstance (Jk 0 (JM (hs:=Gv) (E8 (v:=.ty "str") rfl B.bstr (by rfl) rfl) Jf))) (Gq (MQ (He (K:=K) rfl) (J9 0) (B4 (v:=.ref aRULES) rfl g_RULES rfl) (by with_unfolding_all rfl)))))),?_⟩;walk_at"rd";rw[Y6 (by decide)];refine⟨aRULES,_,rfl,.inr (t_RULES H),rfl,rfl,?_⟩;have e:Eo (.str ru) [.str "first",.str "last",.str "refuse"]=decide (ru="first"\/ru="last"\/ru="refuse"):=by
   rw[YA];simp only[Eo,HB,XR,W6,UL,Wg,Ya];exact⟨fun h=>h.imp U5 (Or.imp U5 U5),fun h=>h.imp U5 (Or.imp U5 U5)⟩
  rw[Y5 (by simp),e];exact k
def Gk:RS:=⟨[],[],none,0⟩
end
theorem S2{P:Int->Int->Prop}(la:Bool):∀ (bs:WY) (st:List (Int×Int)) (n:Int),(∀k x,N5 st k=some x->P k x)->(∀i:Nat,∀x,bs[i]?=some x->P (n+ i) x)->∀k x,N5 (Ng la st n bs) k=some x->P k x
 |[],_,_,h,_=>h
 |b::bs,st,n,h,g=>by
  refine S2 la bs _ (n+ 1) (fun k x hk=>?_) (fun i x hx=>?_)
  .split at hk
   .rw[Z8]at hk
    by_cases e:k=n
    .rw[Y6 e]at hk;have:=g 0 b rfl;rw[e,<-Option.some.inj hk];simpa using this
    .rw[Y5 e]at hk;exact h k x hk
   .exact h k x hk
  .have:=g (i+ 1) x hx;have e:n+ ((i+ 1:Nat):Int)=n+ 1+ (i:Int):=by lia
   rwa [e]at this
theorem QT(la:Bool):∀ (bs:WY) (st:List (Int×Int)) (n k:Int),(N5 (Ng la st n bs) k).isSome=true↔(N5 st k).isSome=true\/(n <=k/\k < n+ bs.length)
 |[],st,n,k=>by
  show(N5 st k).isSome=true↔_;exact⟨.inl,fun h=>h.elim id fun z=>by simp at z;lia⟩
 |b::bs,st,n,k=>by
  show(N5 (Ng la _ (n+ 1) bs) k).isSome=true↔_;rw[QT la bs,List.length_cons];have e1:(n+ 1 <=k/\k < n+ 1+ (bs.length:Int))\/k=n↔(n <=k/\k < n+ ((bs.length+ 1:Nat):Int)):=by lia
  rw[<-e1]
  split <;> rename_i hc
  .rw[Z8]
   by_cases e:k=n
   .rw[Y6 e];exact⟨fun _=>.inr (.inr e),fun _=>.inl rfl⟩
   .rw[Y5 e];exact⟨fun h=>h.imp id .inl,fun h=>h.imp id fun z=>z.elim id fun z=>absurd z e⟩
  .constructor
   .exact fun h=>h.imp id .inl
   .rintro(h|h|h)
    .exact .inl h
    .exact .inr h
    .left
     rw[h];rcases W7 (N5 st n).isSome with z|z
     .exact z
     .exact absurd (.inr z) hc
def Tp(rs:RS):List Int:=(List.range (rs.en.getD 0).toNat).map fun i:Nat=>(N5 rs.st (i:Int)).getD 0
structure Dg(rs:RS):Prop where
 cov:Dn rs.cv
 dom:∀n,TL rs.cv n↔(N5 rs.st n).isSome=true
 low:∀n,TL rs.cv n->0 <=n
 en:∀e,rs.en=some e->0 <=e/\e <=4000
 top:∀n,TL rs.cv n->n < 4000
theorem Dg.zero:Dg Gk where
 cov:=trivial
 dom:=fun n=>⟨fun h=>absurd h (Gi n),fun h=>by cases h⟩
 low:=fun n h=>absurd h (Gi n)
 en:=fun e h=>by cases h
 top:=fun n h=>absurd h (Gi n)
theorem PD.Ok.end'{d:PD}(h:d.Ok):0 <=d.at'/\d.at'+ d.ns.length <=4000/\1 <=d.ns.length:=by
 have h1:=h.a0;have h2:=h.rm;unfold Em at h2;refine⟨h1,?_,h.l1⟩
 split at h2
 .simp only[X5,Ya]at h2;omega
 .simp only[Ya]at h2;omega
theorem Dg.step{rs:RS}{d:PD}(la:Bool)(h:Dg rs)(hd:d.Ok):Dg (Dj la rs d):=by
 obtain⟨h1,h2,g⟩:=hd.end';have b:=aY (c:=rs.cv) (lo:=d.at') (hi:=d.at'+ d.ns.length) h.cov (by omega);refine⟨b.1,fun n=>?_,fun n f=>?_,fun e a=>?_,fun n f=>?_⟩
 .show TL (NQ rs.cv d.at' (d.at'+ d.ns.length)) n↔(N5 (Ng la rs.st d.at' d.ns) n).isSome=true;rw[b.2,QT,h.dom]
 .rcases(b.2 n).mp f with z|z
  .exact h.low n z
  .omega
 .have a:(if d.mo=true then rs.en else some (d.at'+ d.ns.length))=some e:=a
  split at a
  .exact h.en e a
  .have:=Option.some.inj a;omega
 .rcases(b.2 n).mp f with z|z
  .exact h.top n z
  .omega
theorem vV{c:List (Int×Int)}(hc:Dn c){p:Int×Int}(hp:p∈c):p.1 < p.2:=by
 induction c with
 |nil=>exact nomatch hp
 |cons q r ih=>
  obtain⟨h1,h2,a⟩:=hc;rcases Yo.mp hp with rfl|hp
  .exact h1
  .exact ih a hp
theorem Dg.body{rs:RS}(h:Dg rs)(hl:Mf rs.en 0 rs.cv=[]):∃e:Nat,rs.en=some (e:Int)/\e <=4000/\(Tp rs).length=e/\∀i:Nat,∀x,(Tp rs)[i]?=some x->N5 rs.st i=some x:=by
 cases he:rs.en with
 |none=>rw[he,SW h.cov]at hl;exact absurd hl (by simp)
 |some e0=>
  obtain⟨a,b⟩:=h.en e0 he;obtain⟨e,rfl⟩:∃e:Nat,e0=e:=⟨e0.toNat,by omega⟩;rw[he,Pi]at hl;have u:Tt e 0 rs.cv=[]:=List.map_eq_nil_iff.mp hl;have j:∀p∈rs.cv,0 <=p.1:=fun p s=>h.low p.1 ⟨p,s,U6 _,vV h.cov s⟩
  have q:∀n:Int,0 <=n->n < e->TL rs.cv n:=fun n w h1=>by
   have:=(d7 (e:=(e:Int)) h.cov j).2.2 n;rw[u]at this;exact Xw fun z=>Gi n (this.mpr ⟨w,h1,z⟩)
  have c:(Tp rs).length=e:=by
   unfold Tp;rw[he,Y1,YN];simp
  refine⟨e,rfl,by omega,c,fun i x f=>?_⟩;have hi:i < e:=by rw[<-c];exact(Ym.mp f).1
  have hd:=(h.dom i).mp (q i (by omega) (by omega));obtain⟨y,r⟩:=UZ.mp hd;unfold Tp at f;rw[Y9,VL (by rw[he];simpa using hi)]at f;have g:(N5 rs.st (i:Int)).getD 0=x:=Option.some.inj f;rw[r]at g;rw[r,<-g];rfl
def oD:Option Int->PyData
 |none=>.none
 |some n=>.int n
def Na(k:Int×Str×Str):List Jw:=[Sum.inl k.1,Sum.inr k.2.1,Sum.inr k.2.2]
def Th(k:Int×Str×Str):List V:=[.int k.1,.str k.2.1,.str k.2.2]
theorem DT{k j:Int×Str×Str}(h:Na k=Na j):k=j:=by
 unfold Na at h;simp only[List.cons.injEq,WB,WC,and_true]at h;exact Ul h.1 (Ul h.2.1 h.2.2)
structure RE where
 ky:Int×Str×Str
 p:Addr
 a:Addr
 l:Addr
 rs:RS
 first:Int
structure Nf where
 ru:Str
 wt:Int
 sp:Int
 out:Str
 ag:Str
 now:Int
 es:List RE
 ws:List ((Int×Str×Str)×Int)
def EB(R:Nf)(dr df dw:WX):List (Str×V):=[("rule",.str R.ru),("wait",.int R.wt),("space",.int R.sp),("out",.str R.out),("again",.str R.ag),("now",.int R.now),("readings",.ref dr),("firsts",.ref df),("wholes",.ref dw)]
def D3(es:List RE):List (List Jw×V):=es.map fun e=>(Na e.ky,.ref e.p)
def Dm(es:List RE):List (List Jw×V):=es.map fun e=>(Na e.ky,.int e.first)
def GL(ws:List ((Int×Str×Str)×Int)):List (List Jw×V):=ws.map fun e=>(Na e.1,.int e.2)
structure My(K:WV)(C:WX):Prop where
 cl:D4 K C
 rule:Jn K C "rule"
 wait:Jn K C "wait"
 space:Jn K C "space"
 out:Jn K C "out"
 again:Jn K C "again"
 now:Jn K C "now"
 readings:Jn K C "readings"
 firsts:Jn K C "firsts"
 wholes:Jn K C "wholes"
structure Jg(C CR:WX)(H:Hp)(m dr df dw:WX)(R:Nf):Prop where
 ex:∃dx fs,H m=some (.ins C dx fs)/\fs.length <=9/\∀f,fs.lookup f=(EB R dr df dw).lookup f
 dR:H dr=some (.dT (D3 R.es))
 dF:H df=some (.dT (Dm R.es))
 dW:H dw=some (.dT (GL R.ws))
 n1:dr≠df
 n2:dr≠dw
 n3:df≠dw
 rd:∀e∈R.es,NH CR H e.p e.a e.l R.ru e.rs
 np:(R.es.map (·.p)).Nodup
 na:(R.es.map (·.a)).Nodup
 nk:(R.es.map (·.ky)).Nodup
section
variable{P:WP}{w:WU}{K:WV}{mg:WL}{base:J6}{C CR m dr df dw:WX}{H G:Hp}{R:Nf}
theorem Jg.mono(s:Jb H G)(h:Jg C CR H m dr df dw R):Jg C CR G m dr df dw R:=by
 obtain⟨dx,fs,e,r⟩:=h.ex;exact⟨⟨dx,fs,s _ _ e,r⟩,s _ _ h.dR,s _ _ h.dF,s _ _ h.dW,h.n1,h.n2,h.n3,fun e a=>(h.rd e a).mono s,h.np,h.na,h.nk⟩
theorem Jg.fld(h:Jg C CR H m dr df dw R)(cl:D4 K C){f:Str}{v:V}(na:Jn K C f)(e:(EB R dr df dw).lookup f=some v):Tf K H (.ref m) f v:=by
 obtain⟨dx,fs,a,_,hf⟩:=h.ex;exact⟨m,C,dx,fs,rfl,a,cl,na,by rw[hf f,e]⟩
theorem QW(L:My K C)(h:Jg C CR H m dr df dw R):Tf K H (.ref m) "rule" (.str R.ru):=h.fld L.cl L.rule rfl
theorem yV(L:My K C)(h:Jg C CR H m dr df dw R):Tf K H (.ref m) "wait" (.int R.wt):=h.fld L.cl L.wait rfl
theorem Zf(L:My K C)(h:Jg C CR H m dr df dw R):Tf K H (.ref m) "space" (.int R.sp):=h.fld L.cl L.space rfl
theorem SH(L:My K C)(h:Jg C CR H m dr df dw R):Tf K H (.ref m) "out" (.str R.out):=h.fld L.cl L.out rfl
theorem tG(L:My K C)(h:Jg C CR H m dr df dw R):Tf K H (.ref m) "again" (.str R.ag):=h.fld L.cl L.again rfl
theorem Ca(L:My K C)(h:Jg C CR H m dr df dw R):Tf K H (.ref m) "now" (.int R.now):=h.fld L.cl L.now rfl
theorem Ea(L:My K C)(h:Jg C CR H m dr df dw R):Tf K H (.ref m) "readings" (.ref dr):=h.fld L.cl L.readings rfl
theorem AX(L:My K C)(h:Jg C CR H m dr df dw R):Tf K H (.ref m) "firsts" (.ref df):=h.fld L.cl L.firsts rfl
theorem IS(L:My K C)(h:Jg C CR H m dr df dw R):Tf K H (.ref m) "wholes" (.ref dw):=h.fld L.cl L.wholes rfl
theorem Jg.mt(h:Jg C CR H m dr df dw R){f:Str}(e:(EB R dr df dw).lookup f=none):GM C f H (.ref m):=by
 obtain⟨dx,fs,a,_,hf⟩:=h.ex;exact⟨m,dx,fs,rfl,a,by rw[hf f,e]⟩
theorem Eu{es:List RE}(hk:(es.map (·.ky)).Nodup){e:RE}(he:e∈es):JE (D3 es) (Na e.ky)=some (.ref e.p):=by
 induction es with
 |nil=>exact nomatch he
 |cons x r ih=>
  unfold D3 JE;rw[List.map_cons,YG];rcases Yo.mp he with rfl|z
  .simp
  .have a:¬Na x.ky=Na e.ky:=fun q=>(Yv.mp hk).1 (Y3.mpr ⟨e,z,(DT q).symm⟩)
   rw[Yk a];exact ih (Yv.mp hk).2 z
theorem By{es:List RE}(hk:(es.map (·.ky)).Nodup){e:RE}(he:e∈es):JE (Dm es) (Na e.ky)=some (.int e.first):=by
 induction es with
 |nil=>exact nomatch he
 |cons x r ih=>
  unfold Dm JE;rw[List.map_cons,YG];rcases Yo.mp he with rfl|z
  .simp
  .have a:¬Na x.ky=Na e.ky:=fun q=>(Yv.mp hk).1 (Y3.mpr ⟨e,z,(DT q).symm⟩)
   rw[Yk a];exact ih (Yv.mp hk).2 z
theorem jU{es:List RE}{k:Int×Str×Str}(hk:k∉es.map (·.ky)):JE (D3 es) (Na k)=none:=by
 unfold D3 JE;rw[Xz.mpr]
 .rfl
 .intro x a;obtain⟨e,b,rfl⟩:=Y3.mp a;simp only[Ya];exact fun q=>hk (Y3.mpr ⟨e,b,DT q⟩)
theorem yG{es:List RE}{k:Int×Str×Str}(hk:k∉es.map (·.ky)):JE (Dm es) (Na k)=none:=by
 unfold Dm JE;rw[Xz.mpr]
 .rfl
 .intro x a;obtain⟨e,b,rfl⟩:=Y3.mp a;simp only[Ya];exact fun q=>hk (Y3.mpr ⟨e,b,DT q⟩)
def Nl(es:List RE)(k:Int×Str×Str):List RE:=es.filter fun e=> !decide (e.ky=k)
theorem mJ(es:List RE)(k:Int×Str×Str):Nn (D3 es) (Na k)=D3 (Nl es k):=by
 unfold Nn D3 Nl;rw[XM]
 congr 1
 apply Xo;intro e _;show(!decide (Na e.ky=Na k))= !decide (e.ky=k)
 congr 1
 rw[YA,Ya,Ya];exact⟨DT,X3 Na⟩
theorem wF(es:List RE)(k:Int×Str×Str):Nn (Dm es) (Na k)=Dm (Nl es k):=by
 unfold Nn Dm Nl;rw[XM]
 congr 1
 apply Xo;intro e _;show(!decide (Na e.ky=Na k))= !decide (e.ky=k)
 congr 1
 rw[YA,Ya,Ya];exact⟨DT,X3 Na⟩
theorem Jg.ne(h:Jg C CR H m dr df dw R):m≠dr/\m≠df/\m≠dw/\∀e∈R.es,m≠e.p/\m≠e.a/\e.p≠dr/\e.p≠df/\e.p≠dw/\e.a≠dr/\e.a≠df/\e.a≠dw:=by
 obtain⟨dx,fs,b,_,hf⟩:=h.ex;refine⟨Ja b h.dR nofun,Ja b h.dF nofun,Ja b h.dW nofun,fun e g=>?_⟩;have r:=h.rd e g;obtain⟨i,fs',c,_,_,f,_⟩:=r.ex;refine⟨fun z=>?_,Ja b r.dk nofun,Ja c h.dR nofun,Ja c h.dF nofun,Ja c h.dW nofun,Ja r.dk h.dR nofun,Ja r.dk h.dF nofun,Ja r.dk h.dW nofun⟩;rw[z,c]at b;cases b;rw[hf]at f;cases f
def P7(d:WX)(H G:Hp):Prop:=∀c o,H c=some o->c≠d->G c=some o
theorem NH.offD{p a l d:WX}{ru:Str}{rs:RS}{kvs:List (List Jw×V)}(b:P7 d H G)(hd:H d=some (.dT kvs))(h:NH CR H p a l ru rs):NH CR G p a l ru rs:=by
 obtain⟨dx,fs,f,r⟩:=h.ex;obtain⟨xs,c,g⟩:=h.cv;exact⟨⟨dx,fs,b _ _ f (Ja f hd nofun),r⟩,b _ _ h.dk (Ja h.dk hd nofun),xs,b _ _ c (Ja c hd nofun),g.tk fun t ys e=>b _ _ e (Ja e hd nofun)⟩
theorem Jg.fldO(h:Jg C CR H m dr df dw R)(hG:∀o,H m=some o->G m=some o)(cl:D4 K C){f:Str}{v:V}(na:Jn K C f)(e:(EB R dr df dw).lookup f=some v):Tf K G (.ref m) f v:=by
 obtain⟨dx,fs,a,_,hf⟩:=h.ex;exact⟨m,C,dx,fs,rfl,hG _ a,cl,na,by rw[hf f,e]⟩
theorem OU{es:List RE}{i:Nat}{k:List Jw}{v:V}(h:(D3 es)[i]?=some (k,v)):∃e,es[i]?=some e/\k=Na e.ky/\v= .ref e.p:=by
 unfold D3 at h;rw[Y9]at h;obtain⟨e,a,q⟩:=Ye.mp h;cases q;exact⟨e,a,rfl,rfl⟩
theorem xU{es:List RE}{i:Nat}{k:List Jw}{v:V}(h:(Dm es)[i]?=some (k,v)):∃e,es[i]?=some e/\k=Na e.ky/\v= .int e.first:=by
 unfold Dm at h;rw[Y9]at h;obtain⟨e,a,q⟩:=Ye.mp h;cases q;exact⟨e,a,rfl,rfl⟩
end
section
variable{P:WP}{w:WU}{K:WV}{mg:WL}{base:J6}
def Tb(k:Int×Str×Str):Prop:=0 <=k.1/\k.1 <=65535/\T8 k.2.1/\T8 k.2.2
inductive Iv(vs:List V)(H:Hp)(Q:VK)(E:XK):Prop|mk (n lo:Int) (_:vs=[.int n,.int lo]) (_:Q (.bl (decide (lo <=n))) H)
abbrev Kb:Stmt:=top 11
theorem nW:Nm ["value","low"] ["value","low"] (J8 Kb):=by walk_at"e"
theorem xE{f:WX}{fd:WR}(F:Nx K "is_whole_from" "is_whole_from" Kb f fd)(Ni:Tk P w K mg base "is_whole" 1 ["value"] [] AS):Jj P w K mg base JZ 2 f fd ["value","low"] Iv:=by
 refine F.ok nW (fun vs H Q E h=>?_) (fun c A a s H vs Q E b h=>?_)
 .obtain⟨n,lo,rfl,_⟩:=h;rfl
 .obtain⟨n,lo,rfl,q⟩:=h;refine⟨_,(Jz (N8 (D9 (T7 Ni b.m rfl (Jk 0 Jf)) (Gq (MQ (NG Cp) (J9 0) (J9 1) (Dh _)))))),?_⟩;walk_at"rd";exact⟨_,_,rfl,rfl,_,rfl,q⟩
inductive Sf(vs:List V)(H:Hp)(Q:VK)(E:XK):Prop|mk (ru:Str) (_:vs=[.str ru]) (_:Q (.bl (decide (ru="oldest"\/ru="widest"\/ru="own"))) H)
abbrev FT:Stmt:=top 19
theorem jL:Nm ["value"] ["value"] (J8 FT):=by walk_at"e"
theorem ZQ{f aOUTS:WX}{fd:WR}(F:Nx K "is_out" "is_out" FT f fd)(B:Bt mg)(g_OUTS:mg "OUTS"=some (.ref aOUTS))(t_OUTS:∀H,JC K H aOUTS [.str "oldest",.str "widest",.str "own"]):Jj P w K mg base JZ 1 f fd ["value"] Sf:=by
 refine F.ok jL (fun vs H Q E h=>?_) (fun b A a s H vs Q E c h=>?_)
 .obtain⟨ru,rfl,_⟩:=h;rfl
 .obtain⟨ru,rfl,k⟩:=h;refine⟨_,(Jz (N8 (D9 (NP (RK "str") B.isinstance (Jk 0 (JM (hs:=Gv) (E8 (v:=.ty "str") rfl B.bstr (by rfl) rfl) Jf))) (Gq (MQ (He (K:=K) rfl) (J9 0) (B4 (v:=.ref aOUTS) rfl g_OUTS rfl) (by with_unfolding_all rfl)))))),?_⟩;walk_at"rd";rw[Y6 (by decide)];refine⟨aOUTS,_,rfl,.inr (t_OUTS H),rfl,rfl,?_⟩;have e:Eo (.str ru) [.str "oldest",.str "widest",.str "own"]=decide (ru="oldest"\/ru="widest"\/ru="own"):=by
   rw[YA];simp only[Eo,HB,XR,W6,UL,Wg,Ya];exact⟨fun h=>h.imp U5 (Or.imp U5 U5),fun h=>h.imp U5 (Or.imp U5 U5)⟩
  rw[Y5 (by simp),e];exact k
inductive Px(vs:List V)(H:Hp)(Q:VK)(E:XK):Prop|mk (ru:Str) (_:vs=[.str ru]) (_:Q (.bl (decide (ru="fresh"\/ru="rest"))) H)
abbrev Hk:Stmt:=top 20
theorem nZ:Nm ["value"] ["value"] (J8 Hk):=by walk_at"e"
theorem tM{f aAGAINS:WX}{fd:WR}(F:Nx K "is_again" "is_again" Hk f fd)(B:Bt mg)(g_AGAINS:mg "AGAINS"=some (.ref aAGAINS))(t_AGAINS:∀H,JC K H aAGAINS [.str "fresh",.str "rest"]):Jj P w K mg base JZ 1 f fd ["value"] Px:=by
 refine F.ok nZ (fun vs H Q E h=>?_) (fun b A a s H vs Q E c h=>?_)
 .obtain⟨ru,rfl,_⟩:=h;rfl
 .obtain⟨ru,rfl,k⟩:=h;refine⟨_,(Jz (N8 (D9 (NP (RK "str") B.isinstance (Jk 0 (JM (hs:=Gv) (E8 (v:=.ty "str") rfl B.bstr (by rfl) rfl) Jf))) (Gq (MQ (He (K:=K) rfl) (J9 0) (B4 (v:=.ref aAGAINS) rfl g_AGAINS rfl) (by with_unfolding_all rfl)))))),?_⟩;walk_at"rd";rw[Y6 (by decide)];refine⟨aAGAINS,_,rfl,.inr (t_AGAINS H),rfl,rfl,?_⟩;have e:Eo (.str ru) [.str "fresh",.str "rest"]=decide (ru="fresh"\/ru="rest"):=by
   rw[YA];simp only[Eo,HB,XR,W6,UL,Wg,Ya];exact⟨fun h=>h.imp U5 U5,fun h=>h.imp U5 U5⟩
  rw[Y5 (by simp),e];exact k
inductive Z0(vs:List V)(H:Hp)(Q:VK)(E:XK):Prop|mk (t:WX) (k:Int×Str×Str) (_:vs=[.ref t]) (_:H t=some (.tup (Th k))) (_:Tb k) (_:∀G,Jb H G->Q (.bl true) G)
abbrev Kc:Stmt:=top 15
theorem w9:Nm ["value"] ["value"] (J8 Kc):=by walk_at"e"
theorem v1{f:WX}{fd:WR}(F:Nx K "is_key" "is_key" Kc f fd)(B:Bt mg)(NL:Tk P w K mg base "is_number" 3 ["value"] [] Ib)(NF:Tk P w K mg base "is_name" 1 ["value"] [] K7):Jj P w K mg base JZ 4 f fd ["value"] Z0:=by
 refine F.ok w9 (fun vs H Q E h=>?_) (fun n A i s H vs Q E c h=>?_)
 .obtain⟨t,k,rfl,_⟩:=h;rfl
 .obtain⟨t,k,rfl,b,a,q⟩:=h;refine⟨_,(Jp (NB (PW.pt (Rc (D0 (Mj (NP (RK "tuple") B.isinstance (Jk 0 (JM (hs:=Gv) (E8 (v:=.ty "tuple") rfl B.btuple (by rfl) rfl) Jf))))) (Rx (NT (Bw Bu) (NP (Da (Dd (K:=K) rfl)) B.len (Jk 0 Jf)) Jt)))) (Jz (N8 R8)) NU) (Jz (N8 (D9 (T7 NL c.m rfl (MV (Tr K (J9 0) Jt) Jf)) (D9 (T7 NF c.m rfl (MV (Tr K (J9 0) Jt) Jf)) (Gq (T7 NF c.m rfl (MV (Tr K (J9 0) Jt) Jf)))))))),?_⟩;walk_at"rd";have st:=JC.of (K:=K) b;refine⟨_,w6 b,?_⟩;rw[Y5 (by decide)];refine⟨_,.inr st,rfl,?_⟩;rw[Y5 (by simp[Th])];refine⟨_,st,_,rfl,_,_,rfl,rfl,_,rfl,?_⟩;rw[Y6 (by simp[Ds,a.1,a.2.1])];have r:=a.2.2.1.2.1;have p:=a.2.2.2.2.1;refine⟨_,st,_,rfl,_,_,rfl,rfl,(fun z e=>by cases e;lia),fun H1 g=>⟨_,rfl,?_⟩⟩;rw[Y6 (T8.is a.2.2.1)];refine⟨_,JC.of (g _ _ b),_,rfl,_,_,rfl,rfl,(fun z e=>by cases e;lia),fun H2 j=>?_⟩;rw[T8.is a.2.2.2];exact q H2 (g.trans j)
inductive FN(C:WX)(vs:List V)(H:Hp)(Q:VK)(E:XK):Prop|mk (p a l:WX) (ru:Str) (rs:RS) (_:vs=[.ref p]) (_:NH C H p a l ru rs) (_:Q (.int rs.st.length) H)
abbrev Hr:Stmt:=M8 (top 42) 4
theorem Zh:Nm ["self"] ["self"] (J8 Hr):=by walk_at"e"
theorem xY{f C:WX}{fd:WR}(F:Nx K "size" "Reading.size" Hr f fd)(L:Gn K C)(B:Bt mg):Jj P w K mg base JZ 1 f fd ["self"] (FN C):=by
 refine F.ok Zh (fun vs H Q E h=>?_) (fun g A c s H vs Q E i h=>?_)
 .obtain⟨p,a,l,ru,rs,rfl,_⟩:=h;rfl
 .obtain⟨p,a,l,ru,rs,rfl,b,q⟩:=h;refine⟨_,(Jz (N8 (NP rL B.len (D8 (No K (J9 0)) Jf)))),?_⟩;walk_at"rd";refine⟨_,ES L b,_,rfl,_,b.dk,?_⟩;have e:(Gp rs.st).length=rs.st.length:=Y1 ..;rw[e];exact q
inductive LZ(C CR:WX)(vs:List V)(H:Hp)(Q:VK)(E:XK):Prop|mk (m dr df dw:WX) (R:Nf) (t:Int) (_:vs=[.ref m,.int t]) (_:Jg C CR H m dr df dw R) (_:R.now <=t) (_:Q .non H)
abbrev H0:Stmt:=M8 (top 44) 8
theorem tH:Nm ["self","time"] ["self","time"] (J8 H0):=by walk_at"e"
theorem Zx{f C CR:WX}{fd:WR}(F:Nx K "check_time" "Room.check_time" H0 f fd)(L:My K C)(JL:Tk P w K mg base "is_whole_from" 2 ["value","low"] [] Iv):Jj P w K mg base JZ 3 f fd ["self","time"] (LZ C CR):=by
 refine F.ok tH (fun vs H Q E h=>?_) (fun g A a s H vs Q E c h=>?_)
 .obtain⟨m,dr,df,dw,R,t,rfl,_⟩:=h;rfl
 .obtain⟨m,dr,df,dw,R,t,rfl,e,b,q⟩:=h;refine⟨_,(Jz (NB (D0 (Mj (T7 JL c.m rfl (Jk 1 (D8 (No K (J9 0)) Jf))))) RL NU)),?_⟩;walk_at"rd";refine⟨_,Ca L e,t,R.now,rfl,?_⟩;rw[Yh b];exact⟨_,rfl,q⟩
inductive Ar(C CR:WX)(vs:List V)(H:Hp)(Q:VK)(E:XK):Prop|mk (m dr df dw t:WX) (R:Nf) (k:Int×Str×Str) (_:vs=[.ref m,.ref t]) (_:Jg C CR H m dr df dw R) (_:H t=some (.tup (Th k))) (_:k∈R.es.map (·.ky)) (_:∀G,(∀c o,H c=some o->c≠dr->c≠df->G c=some o)->Jg C CR G m dr df dw {R with es:=Nl R.es k}->Q .non G)
abbrev L9:Stmt:=M8 (top 44) 10
theorem xX:Nm ["self","key"] ["self","key"] (J8 L9):=by walk_at"e"
theorem jW{f C CR:WX}{fd:WR}(F:Nx K "let_go" "Room.let_go" L9 f fd)(L:My K C):Jj P w K mg base JZ 1 f fd ["self","key"] (Ar C CR):=by
 refine F.ok xX (fun vs H Q E h=>?_) (fun cdv A outer s H vs Q E hr h=>?_)
 .obtain⟨m,dr,df,dw,t,R,k,rfl,_⟩:=h;rfl
 .obtain⟨m,dr,df,dw,t,R,k,rfl,a,p,hk,q⟩:=h;refine⟨_,(Jp (Mv (D5 (K:=K) rfl X6 UE Vs (K0 (DL hr)) (No K (J9 0)) (Jk 1 Jf))) (Jz (Mv (D5 (K:=K) rfl X6 UE Vs (K0 (DL hr)) (No K (J9 0)) (Jk 1 Jf))))),?_⟩;walk_at"rd";obtain⟨e,he,rfl⟩:=Y3.mp hk;obtain⟨i,aa,nm3,nme⟩:=a.ne;refine⟨_,Ea L a,.inr (.inr (.inl ⟨rfl,.inr ⟨_,a.dR⟩⟩)),dr,rfl,Na e.ky,_,a.dR,p,_,Eu a.nk he,fun G1 g e1=>?_⟩;have hm1:∀o,H m=some o->G1 m=some o:=fun o h=>g m o h i
  have b:=g df _ a.dF (Ne.symm a.n1);have ab:=g t _ p (Ja p a.dR nofun);refine⟨_,a.fldO hm1 L.cl L.firsts rfl,.inr (.inr (.inl ⟨rfl,.inr ⟨_,b⟩⟩)),df,rfl,Na e.ky,_,b,ab,_,By a.nk he,fun u r e2=>?_⟩;rw[mJ]at e1;rw[wF]at e2;have kp:∀c o,H c=some o->c≠dr->c≠df->u c=some o:=fun c o h n1 n2=>r c o (g c o h n1) n2
  refine q u kp ?_;obtain⟨dx,fs,hm,hl,hf⟩:=a.ex;have y:∀x∈Nl R.es e.ky,x∈R.es:=fun x j=>(Yf.mp j).1
  refine⟨⟨dx,fs,kp m _ hm i aa,hl,hf⟩,r dr _ e1 a.n1,e2,kp dw _ a.dW (Ne.symm a.n2) (Ne.symm a.n3),a.n1,a.n2,a.n3,fun x j=>?_,?_,?_,?_⟩
  .have h1:=(a.rd x (y x j)).offD (G:=G1) (fun c o h n=>g c o h n) a.dR;exact h1.offD (G:=u) (fun c o h n=>r c o h n) b
  .exact a.np.sublist (Xy _ YC)
  .exact a.na.sublist (Xy _ YC)
  .exact a.nk.sublist (Xy _ YC)
def Dk(es:List RE):Int:=(es.map fun e=>(e.rs.st.length:Int)).sum
inductive Aq(C CR:WX)(vs:List V)(H:Hp)(Q:VK)(E:XK):Prop|mk (m dr df dw:WX) (R:Nf) (_:vs=[.ref m]) (_:Jg C CR H m dr df dw R) (_:R.es.length <=1000) (_:(∀e∈R.es,e.rs.st.length <=100000)) (_:∀G,Jb H G->Q (.int (Dk R.es)) G)
abbrev F4:Stmt:=M8 (top 44) 4
theorem aD:Nm ["self"] ["self"] (J8 F4):=by walk_at"e"
theorem bR{f C CR:WX}{fd:WR}(F:Nx K "bytes_kept" "Room.bytes_kept" F4 f fd)(L:My K C)(B2:ER mg)(JV:T9 P w K mg base CR "size" 1 ["self"] [] (FN CR)):Jj P w K mg base JZ 2 f fd ["self"] (Aq C CR):=by
 refine F.ok aD (fun vs H Q E h=>?_) (fun cdv A outer s H vs Q E hr h=>?_)
 .obtain⟨m,dr,df,dw,R,rfl,_⟩:=h;rfl
 .obtain⟨m,dr,df,dw,R,rfl,g,hl,hb,q⟩:=h;refine⟨_,(Jz (N8 (NP (HJ (K:=K) rfl rfl) B2.sum (JM (hs:=Rz) (O3 (Dz (N':=["key","self"]) (caps:=[none,some 0]) (MW (sc:=J8 F4) (N:=["self"]) rfl rfl (by decide +kernel)) rfl (Cu (No K (J9 0))) (fun _ _ _ _ _=>(Ms (i:=0) (MY (N:=["key","self"]) rfl (by decide +kernel)) rfl (Or.inl rfl))) (fun _ _ _ _ _=>GS) (fun _ _ _ _ _=>(MA (GX hr (No K (J9 1)) (J9 0)) JV hr.m)))) Jf)))),?_⟩;walk_at"rd";obtain⟨nm1,nm2,nm3,nme⟩:=g.ne;have hrl:(D3 R.es).length=R.es.length:=Y1 ..;refine KD g.dR (fun Rr h=>by walk_at"rd";exact⟨_,Ea L g,h⟩) (fun i ys σ'=>ys=((R.es.take i).map fun e=>V.int e.rs.st.length)/\∃v,σ'=[v,some (.ref m)]) ⟨rfl,_,rfl⟩ ?_ (by lia) ?_ ?_
  .rintro i ys σ' ⟨rfl,_⟩;rw[Y1,Yt];lia
  .rintro Hf o hfo hfd i b k v ys σ' hk hb ⟨rfl,v0,rfl⟩;obtain⟨e,he,rfl,rfl⟩:=OU hk;have hmem:=Yq he;have hbd:b≠dr:=Ja hb g.dR nofun;have u:P7 dr H Hf:=fun c o h n=>by rw[hfo c n];exact h
   have hr1:=(g.rd e hmem).offD u g.dR;walk_at"rd";refine⟨_,g.fldO (fun o h=>u m o h nm1) L.cl L.readings rfl,_,rfl,_,.inr ⟨_,_,b,.inr ⟨o,hfd⟩,rfl,u b _ hb hbd,(Eu g.nk hmem).symm⟩,?_⟩;refine⟨FV hr1,e.p,e.a,e.l,R.ru,e.rs,rfl,hr1,?_⟩;rw[YJ,he,YV,List.map_append];exact⟨rfl,rfl⟩
  .rintro ys σ' ⟨rfl,_⟩ p G hp s1 e1;rw[hrl,Yu (Y8 _)]at e1;have em:(R.es.map fun e=>V.int e.rs.st.length)=(R.es.map fun e=>(e.rs.st.length:Int)).map V.int:=by rw[Yw];rfl
   rw[em]at e1;have bd:∀x∈R.es.map (fun e=>(e.rs.st.length:Int)),0 <=x/\x <=100000:=fun x hx=>by
    obtain⟨e,he,rfl⟩:=Y3.mp hx;have:=hb e he;lia
   have sm:∀l:List Int,(∀x∈l,0 <=x/\x <=100000)->0 <=l.sum/\l.sum <=100000*l.length:=fun l=>by
    induction l with
    |nil=>intro _;simp
    |cons x r ih=>
     intro h;have h1:=ih fun y hy=>h y (Yn _ hy)
     have h2:=h x YD;rw[Xb,List.length_cons];lia
   refine⟨p,rfl,_,Jh.of e1,fun x hx=>by have:=bd x hx;lia,fun j hj=>?_,q G s1⟩;have h1:=sm _ fun x hx=>bd x (Ug (i:=j) hx)
   have h2:((R.es.map fun e=>(e.rs.st.length:Int)).take j).length <=1000:=by rw[Yt,Y1];lia
   lia
end
theorem BE{α β:Type}{f:α->β}:∀{l:List α} {x y:α},(l.map f).Nodup->x∈l->y∈l->x≠y->f x≠f y
 |[],_,_,_,hx,_,_=>nomatch hx
 |z::r,x,y,hn,hx,hy,ne=>by
  obtain⟨h1,h2⟩:=Yv.mp hn;rcases Yo.mp hx with e1|hx2
  .rcases Yo.mp hy with e2|hy2
   .exact absurd (e1.trans e2.symm) ne
   .exact fun q=>h1 (Y3.mpr ⟨y,hy2,by rw[<-e1];exact q.symm⟩)
  .rcases Yo.mp hy with e2|hy2
   .exact fun q=>h1 (Y3.mpr ⟨x,hx2,by rw[<-e2];exact q⟩)
   .exact BE h2 hx2 hy2 ne
def Bz(ws:List ((Int×Str×Str)×Int))(k:Int×Str×Str):Option Int:=(ws.find? fun x=>decide (x.1=k)).map (·.2)
theorem QU(ws:List ((Int×Str×Str)×Int))(k:Int×Str×Str):JE (GL ws) (Na k)=(Bz ws k).map V.int:=by
 unfold GL JE Bz
 induction ws with
 |nil=>rfl
 |cons x r ih=>
  rw[List.map_cons,YG,YG]
  by_cases h:x.1=k
  .rw[Yh h,Yh (by rw[h])];rfl
  .rw[Yk h,Yk (fun z=>h (DT z))];exact ih
def RY(R:Nf)(k:Int×Str×Str):Bool:=decide (R.ag="rest") && (match Bz R.ws k with|some t=>decide (R.now < t+ R.wt)|none=>false)
def NM(R:Nf)(e:RE):Bool:=decide (e.first+ R.wt <=R.now)
def DG(R:Nf):List (Int×Ky):=(R.es.filter (NM R)).map fun e=>(e.first,e.ky)
def A4(R:Nf):List RE:=R.es.filter fun e=> !NM R e
def M3(G:Hp)(l:WX)(ks:List Ky)(why:Str):Prop:=∃ts:List (Addr×Addr),ts.length=ks.length/\G l=some (.lst (ts.map fun t=>.ref t.1))/\∀ (i:Nat) t k,ts[i]?=some t->ks[i]?=some k->G t.1=some (.tup [.str "gone",.ref t.2,.str why])/\G t.2=some (.tup (Th k))
section
variable{P:WP}{w:WU}{K:WV}{mg:WL}{base:J6}
inductive IW(C CR:WX)(vs:List V)(H:Hp)(Q:VK)(E:XK):Prop|mk (m dr df dw t:WX) (R:Nf) (k:Int×Str×Str) (_:vs=[.ref m,.ref t]) (_:Jg C CR H m dr df dw R) (_:H t=some (.tup (Th k))) (_:Q (.bl (RY R k)) H)
abbrev LF:Stmt:=M8 (top 44) 12
theorem jR:Nm ["self","key"] ["self","key"] (J8 LF):=by walk_at"e"
theorem aO{f C CR:WX}{fd:WR}(F:Nx K "is_resting" "Room.is_resting" LF f fd)(L:My K C):Jj P w K mg base JZ 1 f fd ["self","key"] (IW C CR):=by
 refine F.ok jR (fun vs H Q E h=>?_) (fun g A e s H vs Q E c h=>?_)
 .obtain⟨m,dr,df,dw,t,R,k,rfl,_⟩:=h;rfl
 .obtain⟨m,dr,df,dw,t,R,k,rfl,a,b,q⟩:=h;refine⟨_,(Jz (N8 (D9 (MQ (MI MG) (No K (J9 0)) NY (Dh _)) (D9 (MQ (xF (DL c)) (J9 1) (No K (J9 0)) (by with_unfolding_all rfl)) (Gq (MQ (NG Bf) (No K (J9 0)) (N6 (NG Mz) (GX c (No K (J9 0)) (J9 1)) (No K (J9 0))) (Dh _))))))),?_⟩;walk_at"rd";refine⟨_,tG L a,rfl,?_⟩;unfold RY at q
  by_cases h1:R.ag="rest"
  .rw[Y6 (by rw[h1];simp)];refine⟨_,IS L a,dw,rfl,Na k,_,.inl a.dW,b,?_⟩;rw[Yh h1,Ud]at q;rw[QU];cases h2:Bz R.ws k with
   |none=>rw[h2]at q;exact q
   |some t0=>
    rw[h2]at q;exact⟨_,Ca L a,_,IS L a,dw,rfl,_,.inr ⟨_,Na k,t,.inl a.dW,rfl,b,by rw[QU,h2];rfl⟩,_,yV L a,_,rfl,_,rfl,_,rfl,q⟩
  .rw[Y5 (by simpa using fun z=>h1 z)];rw[Yk h1,U0]at q;exact q
theorem Jg.butL{C CR m dr df dw l:WX}{H G:Hp}{R:Nf}{xs:List V}(h:Jg C CR H m dr df dw R)(b:Nj l H G)(hl:H l=some (.lst xs))(hn:∀e∈R.es,e.l≠l):Jg C CR G m dr df dw R:=by
 obtain⟨dx,fs,g,r⟩:=h.ex;refine⟨⟨dx,fs,b _ _ g (Ja g hl nofun),r⟩,b _ _ h.dR (Ja h.dR hl nofun),b _ _ h.dF (Ja h.dF hl nofun),b _ _ h.dW (Ja h.dW hl nofun),h.n1,h.n2,h.n3,fun x c=>?_,h.np,h.na,h.nk⟩;have r:=h.rd x c;obtain⟨j,i,f,n⟩:=r.ex;obtain⟨ys,a,p⟩:=r.cv;exact⟨⟨j,i,b _ _ f (Ja f hl nofun),n⟩,b _ _ r.dk (Ja r.dk hl nofun),ys,b _ _ a (hn x c),p.tk (Mm b hl)⟩
theorem SY{R:Nf}(hk:(R.es.map (·.ky)).Nodup){e:RE}(he:e∈R.es){p:Int×Ky}(hp:p∈DG R)(h:e.ky=p.2):NM R e=true/\e.first=p.1:=by
 obtain⟨x,a,rfl⟩:=Y3.mp hp;obtain⟨h1,h2⟩:=Yf.mp a;have:e=x:=Xw fun ne=>BE hk he h1 ne h
 rw[this];exact⟨h2,rfl⟩
def Ry(R:Nf)(ps:List (Int×Ky)):List RE:=R.es.filter fun e=> !decide ((e.first,e.ky)∈ps)
theorem rO(R:Nf):Ry R []=R.es:=by
 unfold Ry;rw[X1];intro e _;simp
theorem y2{R:Nf}(hk:(R.es.map (·.ky)).Nodup){ps:List (Int×Ky)}(h:ps.Perm (DG R)):Ry R ps=A4 R:=by
 unfold Ry A4;apply Xo;intro e a
 congr 1
 rw[YA,Ya,h.mem_iff];exact⟨fun z=>(SY hk a z rfl).1,fun z=>Y3.mpr ⟨e,Yf.mpr ⟨a,z⟩,rfl⟩⟩
theorem rR{R:Nf}(hk:(R.es.map (·.ky)).Nodup){qs:List (Int×Ky)}{p:Int×Ky}(hp:p∈DG R):Nl (Ry R qs) p.2=Ry R (qs++[p]):=by
 unfold Nl Ry;rw[XB];apply Xo;intro e a;rw[YA];simp only[X5,XI,XG,Yp,Yb,not_or];refine⟨fun z=>⟨z.2,fun q=>z.1 (by rw[<-q])⟩,fun z=>⟨fun q=>z.2 ?_,z.1⟩⟩;obtain⟨_,h2⟩:=SY hk a hp q;rw[h2,q]
theorem wY{R:Nf}(hk:(R.es.map (·.ky)).Nodup):(DG R).Nodup:=by
 have h1:((R.es.filter (NM R)).map (·.ky)).Nodup:=hk.sublist (Xy _ YC);unfold DG;rw[VV,Vd]at h1 ⊢;exact h1.imp fun h z=>h (X3 (·.2) z)
def MP(H:Hp)(x:V)(q:Int×Ky):Prop:=∃t b,x= .ref t/\H t=some (.tup [.int q.1,.ref b])/\H b=some (.tup (Th q.2))
inductive Kw(C CR:WX)(vs:List V)(H:Hp)(Q:VK)(E:XK):Prop|mk (m dr df dw:WX) (R:Nf) (_:vs=[.ref m]) (_:Jg C CR H m dr df dw R) (_:R.es.length < 64) (_:∀ (ps:List (Int×Ky)) l G,ps.Perm (DG R)->ps.Pairwise (fun a b=>JR b a=false)->H l=none->(∀c o,H c=some o->c≠dr->c≠df->G c=some o)->Jg C CR G m dr df dw {R with es:=A4 R}->M3 G l (ps.map (·.2)) "wait"->Q (.ref l) G)
abbrev F2:Stmt:=M8 (top 44) 11
theorem Ai:Nm ["self","over","events","first","key"] ["self"] (J8 F2):=by walk_at"e"
theorem bV{f C CR:WX}{fd:WR}(F:Nx K "end_waits" "Room.end_waits" F2 f fd)(L:My K C)(B2:ER mg)(JS:T9 P w K mg base C "let_go" 1 ["self","key"] [] (Ar C CR)):Jj P w K mg base JZ 2 f fd ["self"] (Kw C CR):=by
 refine F.ok Ai (fun vs H Q E h=>?_) (fun cdv A outer s H vs Q E hr h=>?_)
 .obtain⟨m,dr,df,dw,R,rfl,_⟩:=h;rfl
 .obtain⟨m,dr,df,dw,R,rfl,u,hl,q⟩:=h;refine⟨_,(Jp (Sz (BV (i:=1) (N':=["key","self"]) (caps:=[none,some 0]) (MW (sc:=J8 F2) (N:=["self","over","events","first","key"]) rfl rfl (by decide +kernel)) rfl (Ai).nd rfl (Or.inl rfl) (Cu (No K (J9 0))) (fun _ _ _ _ _=>(Ms (i:=0) (MY (N:=["key","self"]) rfl (by decide +kernel)) rfl (Or.inl rfl))) (fun _ _ _ _ _=>(RH (NT (NG RO) (N6 (NG Mz) (GX hr (No K (J9 1)) (J9 0)) (No K (J9 1))) (No K (J9 1))))) (fun _ _ _ _ _=>(Mn (MV (GX hr (No K (J9 1)) (J9 0)) (Jk 0 Jf)))) rfl)) (Jp (T6 2 Ai (TZ Jf)) (Jp (RF Xq rfl (Dt (K:=K) rfl (NP (tR (K:=K) (Room.units hr) rfl) B2.sorted (Jk 1 Jf))) (EL (K:=K) (n:=2) rfl rfl (Db (MB 3 Ai) (Db (MB 4 Ai) EZ))) (Jp (Mv (DH (J9 0) JS hr.m (Jk 4 Jf))) (Jz (Mv (D5 (K:=K) rfl YM YR YS (R4 GQ) (J9 2) (JM (hs:=Dv) (Mn (M9 NY (Jk 4 (M9 NY Jf)))) Jf)))))) (Jz (N8 (J9 2)))))),?_⟩;refine JU fun N hN=>?_
  walk_at"rd";obtain⟨nm1,nm2,nm3,nme⟩:=u.ne;have hrl:(Dm R.es).length=R.es.length:=Y1 ..;refine cI (xM u.dF (fun Rr h=>by walk_at"rd";exact⟨_,AX L u,h⟩) (fun i ys σ' Hf=>Pw (MP Hf) ys (((R.es.take i).filter (NM R)).map fun e=>(e.first,e.ky))/\∃v,σ'=[v,some (.ref m)]) (fun Hf _=>⟨Pw.nil,_,rfl⟩) ?_ (by lia) ?_ ?_)
  .rintro i ys σ' Hf ⟨h1,_⟩;rw[h1.1,Y1];exact YF (YE ..) (by rw[Yt];lia)
  .rintro Hf o off hfd i b k v ys σ' hk hb ⟨h1,v0,rfl⟩;obtain⟨e,he,rfl,rfl⟩:=xU hk;have hmem:=Yq he;have hmo:=fun o h=>off m o h nm2
   walk_at"rd";refine⟨_,u.fldO hmo L.cl L.firsts rfl,_,rfl,_,.inr ⟨_,_,b,.inr ⟨o,hfd⟩,rfl,hb,(By u.nk hmem).symm⟩,_,u.fldO hmo L.cl L.wait rfl,_,rfl,_,rfl,_,u.fldO hmo L.cl L.now rfl,_,rfl,?_⟩;rw[YJ,he,YV,YZ,List.map_append]
   by_cases ho:e.first+ R.wt <=R.now
   .rw[Y6 (Yh ho)];have e0:[e].filter (NM R)=[e]:=by simp[NM,ho]
    refine⟨_,u.fldO hmo L.cl L.firsts rfl,_,rfl,_,.inr ⟨_,_,b,.inr ⟨o,hfd⟩,rfl,hb,(By u.nk hmem).symm⟩,N0 (by simp),fun p G hp s1 e1=>⟨?_,s1⟩⟩;rw[e0];exact(h1.imp fun x y ⟨t,b,h1,h2,h3⟩=>⟨t,b,h1,s1 _ _ h2,s1 _ _ h3⟩).snoc ⟨p,b,rfl,e1,s1 _ _ hb⟩
   .rw[Y5 (by simpa using ho)];have e0:[e].filter (NM R)=[]:=by simp[NM,ho]
    rw[e0,List.map_nil,List.append_nil];exact⟨h1,Jb.refl _⟩
  .rintro ys σ' Hn ⟨h1,_⟩ hold p G hp s1 s2 e1;rw[hrl,Yu (Y8 _)]at h1;refine hN _ _ ?_;clear hN N;walk_at"rd";have hG:=u.mono s1;have ne2:∀{x:V} {y:Int×Ky},MP Hn x y->MP G x y:=fun {x y} ⟨t,b,h1,h2,h3⟩=>⟨t,b,h1,s2 _ _ h2 (fun _ _ z=>nomatch z),s2 _ _ h3 (fun _ _ z=>nomatch z)⟩
   have h2:Pw (MP G) ys (DG R):=h1.imp fun x y=>ne2
   refine⟨N0 (by simp),fun p1 G1 hp1 s3 e2=>⟨ys,Jh.of (s3 p _ e1),DG R,h2.1,fun i x q a b=>?_,?_,fun r l G2 hperm hsort hl0 s4 e4=>?_⟩⟩
   .obtain⟨t,b,h1,h3,h4⟩:=h2.2 i x q a b;exact⟨t,h1,b,JC.of (s3 _ _ h3),JC.of (s3 _ _ h4)⟩
   .rw[h2.1];unfold DG;rw[Y1];exact Yi (YE ..) hl
   obtain⟨ps,eps⟩:∃ps:List (Int×Ky),ps=r.map fun i=>(DG R).getD i (0,0,"",""):=⟨_,rfl⟩
   obtain⟨zs,ezs⟩:∃zs:List V,zs=r.map fun i=>ys.getD i .non:=⟨_,rfl⟩
   have hpp:ps.Perm (DG R):=by rw[eps];exact vQ (by rw[<-h2.1];exact hperm)
   have hps:ps.Pairwise (fun a b=>JR b a=false):=by rw[eps];exact hsort
   have hzp:Pw (MP G2) zs ps:=by
    rw[ezs,eps];refine(h2.pick r fun i hi=>by simpa using hperm.mem_iff.mp hi).imp fun x y ⟨t,b,h1,h3,h4⟩=>⟨t,b,h1,s4 _ _ (s3 _ _ h3),s4 _ _ (s3 _ _ h4)⟩
   rw[<-ezs]at e4;clear hsort hperm eps ezs;refine⟨⟨_,Jh.of e4⟩,?_⟩;have hR2:=hG.mono (s3.trans s4);refine Aw (xs:=zs) (fun i σ' G'=>(∃a b,σ'=[some (.ref m),some (.ref p),some (.ref p1),a,b])/\(∀c o,G2 c=some o->c≠dr->c≠df->c≠p1->G' c=some o)/\Jg C CR G' m dr df dw {R with es:=Ry R (ps.take i)}/\M3 G' p1 ((ps.take i).map (·.2)) "wait") ⟨⟨_,_,rfl⟩,fun c o h _ _ _=>h,?_,?_⟩ (fun i σ' G' _ h=>?_) (fun i x σ' G' hx h=>?_) fun σ' G' h=>?_
   .rw[List.take_zero,rO];exact hR2
   .exact⟨[],rfl,s4 _ _ e2,fun i t k h=>by simp at h⟩
   .exact Jh.of (h.2.1 l _ e4 (Ja e4 hR2.dR nofun) (Ja e4 hR2.dF nofun) (fun z=>by rw[z,e2]at hl0;cases hl0))
   .obtain⟨⟨a,b,rfl⟩,kp,g,hE⟩:=h;obtain⟨pr,hpr,t,tb,rfl,ht,htb⟩:=hzp.get hx;have hkeep:∀{c:WX} {xs:List V},G2 c=some (.tup xs)->G' c=some (.tup xs):=fun {c xs} h=>kp c _ h (Ja h hR2.dR nofun) (Ja h hR2.dF nofun) (Ja h (s4 _ _ e2) nofun)
    have hop:pr∈DG R:=hpp.mem_iff.mp (Yq hpr);have hpt:ps.take (i+ 1)=ps.take i++[pr]:=by rw[YJ,hpr];rfl
    have hin:pr.2∈(Ry R (ps.take i)).map (·.ky):=by
     obtain⟨e,he,rfl⟩:=Y3.mp hop;refine Y3.mpr ⟨e,Yf.mpr ⟨(Yf.mp he).1,?_⟩,rfl⟩;have hnd:(ps.take (i+ 1)).Nodup:=((hpp.nodup_iff).mpr (wY u.nk)).sublist (VW ..);rw[hpt,Xd]at hnd;simp only[XI,XG];exact fun z=>hnd.2.2 _ z _ (Yb.mpr rfl) rfl
    walk_at"rd";refine⟨_,JC.of (hkeep ht),rfl,?_⟩;walk_at"rd";refine⟨g.mt rfl,m,dr,df,dw,tb,_,pr.2,rfl,g,hkeep htb,hin,fun G3 kp3 hR3=>?_⟩;obtain⟨ts,h1',h2',h3'⟩:=hE;have d1:=Ja h2' g.dR nofun;have d2:=Ja h2' g.dF nofun;have hp3:=kp3 p1 _ h2' d1 d2;have k3:∀{c:WX} {xs:List V},G' c=some (.tup xs)->G3 c=some (.tup xs):=fun {c xs} h=>kp3 c _ h (Ja h g.dR nofun) (Ja h g.dF nofun)
    have hR3:Jg C CR G3 m dr df dw {R with es:=Ry R (ps.take (i+ 1))}:=by rw[hpt,<-rR u.nk hop];exact hR3
    have htl:ts.length <=1000:=by
     rw[h1',Y1,Yt];have:=hpp.length_eq;unfold DG at this;rw[Y1]at this;have:=YE (NM R) R.es
     lia
    refine⟨.inl ⟨rfl,_,Jh.of hp3⟩,N0 (by simp),fun t3 G4 ht3 s5 e5=>⟨_,s5 _ _ hp3,Yi (by rw[Y1];exact htl) (by rw[YT];decide),fun G5 b5 e6=>⟨fun c o h n1 n2 n3=>b5 c o (s5 c o (kp3 c o (kp c o h n1 n2 n3) n1 n2)) n3,(hR3.mono s5).butL b5 (s5 _ _ hp3) (fun e he=>?_),?_⟩⟩⟩
    .obtain⟨ys',hy,_⟩:=(u.rd e (Yf.mp he).1).cv;exact fun z=>by rw[z]at hy;rw[s1 _ _ hy]at hp1;cases hp1
    .have k5:∀{c:WX} {xs:List V},G4 c=some (.tup xs)->G5 c=some (.tup xs):=fun {c xs} h=>b5 c _ h (Ja h (s5 _ _ hp3) nofun)
     refine⟨ts++[(t3,tb)],?_,by rw[e6,List.map_append];rfl,?_⟩
     .rw[hpt,Yl,List.map_append,Yl,h1'];rfl
     .have hw : Pw (fun (t : Addr × Addr) (k : Ky) => G5 t.1 = some (.tup [.str "gone", .ref t.2, .str "wait"]) /\ G5 t.2 = some (.tup (Th k))) ts ((ps.take i).map (·.2)) := ⟨h1', fun j x y a b => by
       obtain ⟨z1, z2⟩ := h3' j x y a b;exact ⟨k5 (s5 _ _ (k3 z1)), k5 (s5 _ _ (k3 z2))⟩⟩
      rw[hpt,List.map_append];exact(hw.snoc (x:=(t3,tb)) (y:=pr.2) ⟨k5 e5,k5 (s5 _ _ (k3 (hkeep htb)))⟩).2
   .obtain⟨⟨a,b,rfl⟩,kp,g,hE⟩:=h;rw[hzp.1,Yu (Y8 _)]at g hE;rw[y2 u.nk hpp]at g;walk_at"rd";refine q ps p1 G' hpp hps (s1.free hp1) (fun c o h n1 n2=>kp c o (s4 _ _ (s3 _ _ (s1 _ _ h))) n1 n2 (fun z=>?_)) g hE;rw[z]at h;rw[s1 _ _ h]at hp1;cases hp1
end
inductive uZ where
 |str
 |unl (n:Int)
 |keep (rs:RS)
 |whole (rs:RS)
def Mq(ru:Str)(rs:RS)(d:PD):uZ:=
 if strange rs d=true then(if ru="refuse" then .unl d.at' else .str) else
  match (if ru="refuse" then TU rs.st d.at' d.ns else none) with
  |some n=>.unl n
  |none=>if Mf (Dj (decide (ru="last")) rs d).en 0 (Dj (decide (ru="last")) rs d).cv=[] then .whole (Dj (decide (ru="last")) rs d) else .keep (Dj (decide (ru="last")) rs d)
def Np(es:List RE)(k:Int×Str×Str):RS:=match es.find? fun e=>decide (e.ky=k) with|some e=>e.rs|none=>Gk
def ET(R:Nf)(m dr df dw c:WX):Prop:=c=m\/c=dr\/c=df\/c=dw\/∃e∈R.es,c=e.p\/c=e.a
def MS(R:Nf)(m dr df dw:WX)(H G:Hp):Prop:=∀c o,H c=some o->¬ET R m dr df dw c->G c=some o
abbrev AE:=(Int×Str×Str)×RS×Int
def Jc(es:List RE):List AE:=es.map fun e=>(e.ky,e.rs,e.first)
def Ju(xs:List AE)(k:Int×Str×Str)(rs:RS)(now:Int):List AE:=if k∈xs.map (·.1) then xs.map (fun x=>if x.1=k then(k,rs,x.2.2) else x) else xs++[(k,rs,now)]
def Je(xs:List AE)(k:Int×Str×Str):List AE:=xs.filter fun x=> !decide (x.1=k)
structure ML(C CR:WX)(H G:Hp)(m dr df dw:WX)(R R':Nf)(xs:List AE)(ws:List ((Int×Str×Str)×Int)):Prop where
 kp:MS R m dr df dw H G
 ok:Jg C CR G m dr df dw R'
 es:Jc R'.es=xs
 ws':R'.ws=ws
 pr:R'.ru=R.ru/\R'.wt=R.wt/\R'.sp=R.sp/\R'.out=R.out/\R'.ag=R.ag/\R'.now=R.now
 nw:∀e∈R'.es,(∃e0∈R.es,e.p=e0.p/\e.a=e0.a)\/(H e.p=none/\H e.a=none)
 nl:∀e∈R'.es,(∃e0∈R.es,e.l=e0.l)\/H e.l=none
section
variable{P:WP}{w:WU}{K:WV}{mg:WL}{base:J6}
inductive Qo(C:WX)(vs:List V)(H:Hp)(Q:VK)(E:XK):Prop|mk (m dx:WX) (ru out ag:Str) (wt sp:Int) (_:vs=[.ref m,.str ru,.int wt,.int sp,.str out,.str ag]) (_:H m=some (.ins C dx [])) (_:(ru="first"\/ru="last"\/ru="refuse")) (_:1 <=wt) (_:1 <=sp) (_:(out="oldest"\/out="widest"\/out="own")) (_:(ag="fresh"\/ag="rest")) (_:∀dr df dw G,H dr=none->H df=none->H dw=none->Nj m H G->(∀CR,Jg C CR G m dr df dw ⟨ru,wt,sp,out,ag,0,[],[]⟩)->Q .non G)
abbrev NK:Stmt:=M8 (top 44) 0
theorem d5:Nm ["self","rule","wait","space","out","again"] ["self","rule","wait","space","out","again"] (J8 NK):=by walk_at"e"
theorem aR{f C:WX}{fd:WR}(F:AO K f fd "Room.__init__" NK)(L:My K C)(Mh:Tk P w K mg base "is_rule" 1 ["value"] [] Ol)(JL:Tk P w K mg base "is_whole_from" 2 ["value","low"] [] Iv)(MR:Tk P w K mg base "is_out" 1 ["value"] [] Sf)(TN:Tk P w K mg base "is_again" 1 ["value"] [] Px):Jj P w K mg base JZ 3 f fd ["self","rule","wait","space","out","again"] (Qo C):=by
 obtain⟨oc,od,dV,kV,doc,pm,an,cdv,ct,osl,rfl,lk,hcd⟩:=F;refine EI lk hcd d5 (fun vs H Q E h=>?_) (fun A j s H vs Q E g h=>?_)
 .obtain⟨m,dx,ru,out,ag,wt,sp,rfl,_⟩:=h;rfl
 .obtain⟨m,dx,ru,out,ag,wt,sp,rfl,hm,h1,h2,h3,h4,h5,q⟩:=h
  suffices hh:∃t,D7 (Mx JZ P w K mg base _ "Room.__init__" (J8 NK) f cdv A j s H E).nox (Jv NK) t/\t {nx:=fun _ H'=>Q .non H',rt:=Q} (L2.start _ _) H by
   obtain⟨t,h1,h2⟩:=hh;exact⟨t,h1.nox,h2⟩
  refine⟨_,(Jp (NB (D0 (Mj (T7 Mh g.m rfl (Jk 1 Jf)))) RL NU) (Jp (NB (PW.pt (Rc (D0 (Mj (T7 JL g.m rfl (Jk 2 (M9 Jt Jf))))) (Rx (D0 (Mj (T7 JL g.m rfl (Jk 3 (M9 Jt Jf)))))))) RL NU) (Jp (NB (PW.pt (Rc (D0 (Mj (T7 MR g.m rfl (Jk 4 Jf)))) (Rx (D0 (Mj (T7 TN g.m rfl (Jk 5 Jf))))))) RL NU) (Jp (Dc (K:=K) rfl (J9 0) (J9 1) rfl) (Jp (Dc (K:=K) rfl (J9 0) (J9 2) rfl) (Jp (Dc (K:=K) rfl (J9 0) (J9 3) rfl) (Jp (Dc (K:=K) rfl (J9 0) (J9 4) rfl) (Jp (Dc (K:=K) rfl (J9 0) (J9 5) rfl) (Jp (Dc (K:=K) rfl (J9 0) Jt rfl) (Jp (Dc (K:=K) rfl (J9 0) AJ rfl) (Jp (Dc (K:=K) rfl (J9 0) AJ rfl) (Jz (Dc (K:=K) rfl (J9 0) AJ rfl))))))))))))),?_⟩;refine JU fun N b=>?_
  walk_at"rd";refine⟨ru,rfl,?_⟩;rw[Yh h1];refine⟨_,rfl,?_⟩;rw[Y5 (by simp)];refine b _ _ ?_;clear b N;refine JU fun N b=>?_
  walk_at"rd";refine⟨wt,1,rfl,?_⟩;rw[Yh h2];refine⟨_,rfl,?_⟩;rw[Y5 (by simp)];refine⟨sp,1,rfl,?_⟩;rw[Yh h3];refine⟨_,rfl,?_⟩;rw[Y5 (by simp)];refine b _ _ ?_;clear b N;refine JU fun N b=>?_
  walk_at"rd";refine⟨out,rfl,?_⟩;rw[Yh h4];refine⟨_,rfl,?_⟩;rw[Y5 (by simp)];refine⟨ag,rfl,?_⟩;rw[Yh h5];refine⟨_,rfl,?_⟩;rw[Y5 (by simp)];refine b _ _ ?_;clear b N;walk_at"rd";have a:([]:List (Str×V)).length <=0:=Y8 0;refine⟨C,dx,[],hm,L.cl,L.rule,by decide,fun G1 b1 g1=>?_⟩;refine⟨C,dx,_,g1,L.cl,L.wait,Yi (JK a) (by decide),fun G2 b2 g2=>?_⟩;refine⟨C,dx,_,g2,L.cl,L.space,Yi (JK (JK a)) (by decide),fun G3 b3 g3=>?_⟩;refine⟨C,dx,_,g3,L.cl,L.out,Yi (JK (JK (JK a))) (by decide),fun G4 b4 g4=>?_⟩;refine⟨C,dx,_,g4,L.cl,L.again,Yi (JK (JK (JK (JK a)))) (by decide),fun G5 b5 g5=>?_⟩;refine⟨C,dx,_,g5,L.cl,L.now,Yi (JK (JK (JK (JK (JK a))))) (by decide),fun G6 b6 g6=>?_⟩;intro dr Ga ha sa ga;refine⟨C,dx,_,sa _ _ g6,L.cl,L.readings,Yi (JK (JK (JK (JK (JK (JK a)))))) (by decide),fun G7 b7 g7=>?_⟩;intro df Gb z x gb;refine⟨C,dx,_,x _ _ g7,L.cl,L.firsts,Yi (JK (JK (JK (JK (JK (JK (JK a))))))) (by decide),fun G8 b8 g8=>?_⟩;intro dw Gc r i gc;refine⟨C,dx,_,i _ _ g8,L.cl,L.wholes,Yi (JK (JK (JK (JK (JK (JK (JK (JK a)))))))) (by decide),fun G9 u g9=>?_⟩;have p:dr≠m:=Ne.symm (NI g6 ha);have y:df≠m:=Ne.symm (NI g7 z);have n3:dw≠m:=Ne.symm (NI g8 r);have a7:=b7 dr _ ga p;have a8:=b8 dr _ (x _ _ a7) p;have a9:=u dr _ (i _ _ a8) p;have c8:=b8 df _ gb y;have c9:=u df _ (i _ _ c8) y;have k6:Nj m H G6:=b1.trans (b2.trans (b3.trans (b4.trans (b5.trans b6))));have k7:Nj m H G7:=fun c o h n=>b7 c o (sa c o (k6 c o h n)) n
  have k8:Nj m H G8:=fun c o h n=>b8 c o (x c o (k7 c o h n)) n
  have k9:Nj m H G9:=fun c o h n=>u c o (i c o (k8 c o h n)) n
  refine q dr df dw G9 (k6.free ha p) (k7.free z y) (k8.free r n3) k9 fun CR=>⟨⟨dx,_,g9,?_,fun f=>rfl⟩,a9,c9,u dw _ gc n3,NI a7 z,NI a8 r,NI c8 r,(fun e he=>nomatch he),U2,U2,U2⟩
  exact JK (JK (JK (JK (JK (JK (JK (JK (JK a))))))))
inductive Lh(C CR:WX)(vs:List V)(H:Hp)(Q:VK)(E:XK):Prop|mk (m dr df dw t:WX) (R:Nf) (k:Int×Str×Str) (_:vs=[.ref m,.ref t]) (_:Jg C CR H m dr df dw R) (_:H t=some (.tup (Th k))) (_:Tb k) (_:k∈R.es.map (·.ky)) (_:∀G,Jb H G->Q .non G)
end
section
variable{C CR m dr df dw:WX}{H G:Hp}{R:Nf}
theorem Lv{es:List RE}(hk:(es.map (·.ky)).Nodup){e:RE}(he:e∈es):Np es e.ky=e.rs:=by
 unfold Np
 induction es with
 |nil=>exact nomatch he
 |cons x r ih=>
  rw[YG];rcases Yo.mp he with rfl|z
  .simp
  .have a:¬x.ky=e.ky:=fun q=>(Yv.mp hk).1 (Y3.mpr ⟨e,z,q.symm⟩)
   rw[Yk a];exact ih (Yv.mp hk).2 z
theorem Hi{es:List RE}{k:Int×Str×Str}(hk:k∉es.map (·.ky)):Np es k=Gk:=by
 unfold Np;rw[Xz.mpr];intro e a;simp only[Ya];exact fun q=>hk (Y3.mpr ⟨e,a,q⟩)
theorem Ha(es:List RE):(Jc es).map (·.1)=es.map (·.ky):=by unfold Jc;rw[Yw];rfl
def M6(es:List RE)(k:Int×Str×Str)(l:WX)(rs:RS):List RE:=es.map fun e=>if e.ky=k then {e with l:=l,rs:=rs} else e
theorem ZU(es:List RE)(k:Int×Str×Str)(l:WX)(rs:RS):D3 (M6 es k l rs)=D3 es:=by
 unfold D3 M6;rw[Yw];apply YI;intro e _;simp only[Function.comp]
 split <;> rfl
theorem bD(es:List RE)(k:Int×Str×Str)(l:WX)(rs:RS):Dm (M6 es k l rs)=Dm es:=by
 unfold Dm M6;rw[Yw];apply YI;intro e _;simp only[Function.comp]
 split <;> rfl
theorem CG{β:Type}(f:RE->β)(hf:∀e l rs,f {e with l:=l,rs:=rs}=f e)(es:List RE)(k:Int×Str×Str)(l:WX)(rs:RS):(M6 es k l rs).map f=es.map f:=by
 unfold M6;rw[Yw];apply YI;intro e _;simp only[Function.comp]
 split
 .exact hf _ _ _
 .rfl
theorem Qr{es:List RE}{k:Int×Str×Str}{l:WX}{rs:RS}(now:Int)(hk:k∈es.map (·.ky)):Jc (M6 es k l rs)=Ju (Jc es) k rs now:=by
 unfold Ju;rw[Y6 (by rw[Ha];exact hk)];unfold Jc M6;rw[Yw,Yw];apply YI;intro e _;simp only[Function.comp]
 by_cases h:e.ky=k
 .rw[Y6 h,Y6 h,h]
 .rw[Y5 h,Y5 h]
theorem SO{xs:List AE}{k:Int×Str×Str}{rs rs':RS}{now:Int}:Ju (Ju xs k rs now) k rs' now=Ju xs k rs' now:=by
 unfold Ju
 by_cases h:k∈xs.map (·.1)
 .rw[Y6 h,Y6 h];have h2:k∈(xs.map fun x=>if x.1=k then(k,rs,x.2.2) else x).map (·.1):=by
   rw[Yw];obtain⟨x,a,rfl⟩:=Y3.mp h;exact Y3.mpr ⟨x,a,by simp[Function.comp]⟩
  rw[Y6 h2,Yw];apply YI;intro x _;simp only[Function.comp]
  by_cases a:x.1=k
  .simp[a]
  .simp[a]
 .rw[Y5 h,Y5 h,Y6 (by simp),List.map_append];have e:(xs.map fun x=>if x.1=k then(k,rs',x.2.2) else x)=xs:=by
   conv=>rhs;rw[<-List.map_id xs]
   apply YI;intro x a;rw[Y5 (fun z=>h (Y3.mpr ⟨x,a,z⟩))];rfl
  rw[e];simp
theorem Zd(es:List RE)(k:Int×Str×Str):Jc (Nl es k)=Je (Jc es) k:=by
 unfold Jc Nl Je;rw[XM];rfl
theorem Iw{xs:List AE}{k:Int×Str×Str}{rs:RS}{now:Int}:Je (Ju xs k rs now) k=Je xs k:=by
 unfold Ju Je
 by_cases h:k∈xs.map (·.1)
 .rw[Y6 h];clear h
  induction xs with
  |nil=>rfl
  |cons x r ih=>
   rw[List.map_cons,YQ,YQ,ih]
   by_cases hx:x.1=k
   .simp[hx]
   .simp[hx]
 .rw[Y5 h,YZ];simp
theorem NH.keepPA{p a p' a' l':WX}{ru:Str}{rs':RS}(kp:Tv p a H G)(h:NH CR H p' a' l' ru rs')(n1:p'≠p)(n2:a'≠a){dx:WX}{fs:List (Str×V)}(hp:H p=some (.ins CR dx fs)){kvs:List (Jw×V)}(ha:H a=some (.dK kvs)):NH CR G p' a' l' ru rs':=by
 obtain⟨f,fs',b,r⟩:=h.ex;obtain⟨xs,c,g⟩:=h.cv;refine⟨⟨f,fs',kp _ _ b n1 (Ja b ha nofun),r⟩,kp _ _ h.dk (Ja h.dk hp nofun) n2,xs,kp _ _ c (Ja c hp nofun) (Ja c ha nofun),g.tk fun t ys e=>kp _ _ e (Ja e hp nofun) (Ja e ha nofun)⟩
theorem Jg.goOn{e:RE}{l:WX}{rs:RS}(h:Jg C CR H m dr df dw R)(he:e∈R.es)(kp:Tv e.p e.a H G)(hr:NH CR G e.p e.a l R.ru rs):Jg C CR G m dr df dw {R with es:=M6 R.es e.ky l rs}:=by
 obtain⟨nm1,nm2,nm3,i⟩:=h.ne;obtain⟨x1,x,w,u,s,r,q,n⟩:=i e he;obtain⟨dx,fs,hm,hl,hf⟩:=h.ex;have g:=h.rd e he;obtain⟨dxe,fse,j,_⟩:=g.ex;refine⟨⟨dx,fs,kp m _ hm x1 x,hl,hf⟩,?_,?_,kp dw _ h.dW (Ne.symm s) (Ne.symm n),h.n1,h.n2,h.n3,fun y hy=>?_,?_,?_,?_⟩
 .show G dr=some (.dT (D3 (M6 R.es e.ky l rs)));rw[ZU];exact kp dr _ h.dR (Ne.symm w) (Ne.symm r)
 .show G df=some (.dT (Dm (M6 R.es e.ky l rs)));rw[bD];exact kp df _ h.dF (Ne.symm u) (Ne.symm q)
 .obtain⟨c,b,rfl⟩:=Y3.mp hy
  by_cases hk:c.ky=e.ky
  .rw[Y6 hk];have:c=e:=by
    by_cases e1:c=e
    .exact e1
    .exact absurd hk (BE h.nk b he e1)
   subst this;exact hr
  .rw[Y5 hk];have f:c≠e:=fun z=>hk (by rw[z])
   exact(h.rd c b).keepPA kp (BE h.np b he f) (BE h.na b he f) j g.dk
 .show((M6 R.es e.ky l rs).map (·.p)).Nodup;rw[CG (·.p) (fun _ _ _=>rfl)];exact h.np
 .show((M6 R.es e.ky l rs).map (·.a)).Nodup;rw[CG (·.a) (fun _ _ _=>rfl)];exact h.na
 .show((M6 R.es e.ky l rs).map (·.ky)).Nodup;rw[CG (·.ky) (fun _ _ _=>rfl)];exact h.nk
end
def NX(xs:List AE):Int:=(xs.map fun x=>(x.2.1.st.length:Int)).sum
def M7(xs:List AE)(k:Ky):Int:=((xs.find? fun x=>decide (x.1=k)).map fun x=>(x.2.1.st.length:Int)).getD 0
def Mo(out:Str)(own:Ky)(xs:List AE):List (Int×Ky):=(xs.filter fun x=> !decide (x.1=own)).map fun x=>(if out="oldest" then x.2.2 else -(x.2.1.st.length:Int),x.1)
def LK:List (Int×Ky)->Option (Int×Ky)
 |[]=>none
 |x::xs=>some (xs.foldl (fun a b=>if JR b a=true then b else a) x)
def Mr(out:Str)(sp:Int)(own:Ky)(xs:List AE):Ky:=if out="own"\/sp < M7 xs own then own else((LK (Mo out own xs)).map (·.2)).getD own
def Jx(out:Str)(sp:Int)(own:Ky):Nat->List AE->List AE×List Ky
 |0,xs=>(xs,[])
 |n+ 1,xs=>if NX xs <=sp then(xs,[]) else((Jx out sp own n (Je xs (Mr out sp own xs))).1,Mr out sp own xs::(Jx out sp own n (Je xs (Mr out sp own xs))).2)
theorem F3:∀ (xs:List (Int×Ky)) (x:Int×Ky),xs.foldl (fun a b=>if JR b a=true then b else a) x∈x::xs/\∀q∈x::xs,JR q (xs.foldl (fun a b=>if JR b a=true then b else a) x)=false
 |[],x=>⟨Yb.mpr rfl,fun q hq=>by rw[Yb.mp hq];exact Gf.irrefl x⟩
 |y::ys,x=>by
  obtain⟨h1,h2⟩:=F3 ys (if JR y x=true then y else x);rw[Wf];generalize ys.foldl (fun a b=>if JR b a=true then b else a) (if JR y x=true then y else x)=r at h1 h2
  by_cases hyx:JR y x=true
  .rw[Y6 hyx]at h1 h2;refine⟨.tail _ h1,fun q hq=>?_⟩;rcases Yo.mp hq with rfl|z
   .refine X8.mpr fun z=>?_
    have e:=Gf.trans _ _ _ hyx z;have c:JR y r=true:=e;rw[h2 y (.head _)]at c;cases c
   .exact h2 q z
  .rw[Y5 hyx]at h1 h2;refine⟨?_,fun q hq=>?_⟩
   .rcases Yo.mp h1 with z|z
    .rw[z];exact .head _
    .exact .tail _ (.tail _ z)
   .rcases Yo.mp hq with rfl|z
    .exact h2 q (.head _)
    .rcases Yo.mp z with rfl|z
     .refine X8.mpr fun z=>?_
      rcases Gf.negTrans q x r z with e|e
      .exact hyx e
      .have c:JR x r=true:=e;rw[h2 x (.head _)]at c;cases c
     .exact h2 q (.tail _ z)
theorem gA{c:List (Int×Ky)}{q:Int×Ky}(hq:q∈c)(h:∀q'∈c,JR q' q=false):LK c=some q:=by
 cases c with
 |nil=>exact nomatch hq
 |cons x xs=>
  obtain⟨h1,h2⟩:=F3 xs x;exact X3 some (Gf.total _ _ (h _ h1) (h2 q hq))
theorem aW{es:List RE}(hk:(es.map (·.ky)).Nodup){e:RE}(he:e∈es):M7 (Jc es) e.ky=e.rs.st.length:=by
 unfold M7 Jc;rw[List.find?_map];have:es.find? ((fun x:AE=>decide (x.1=e.ky)) ∘ fun e=>(e.ky,e.rs,e.first))=some e:=by
  induction es with
  |nil=>exact nomatch he
  |cons x r ih=>
   rw[YG];rcases Yo.mp he with rfl|z
   .simp
   .have a:¬x.ky=e.ky:=fun q=>(Yv.mp hk).1 (Y3.mpr ⟨e,z,q.symm⟩)
    have:((fun x:AE=>decide (x.1=e.ky)) ∘ fun e=>(e.ky,e.rs,e.first)) x=false:=Yk a;rw[this];exact ih (Yv.mp hk).2 z
 rw[this];rfl
theorem DP(es:List RE):(Jc es).map (·.1)=es.map (·.ky):=by
 unfold Jc;rw[Yw];rfl
theorem QG(es:List RE)(k:Ky):Jc (Nl es k)=Je (Jc es) k:=by
 unfold Jc Nl Je;rw[XM];rfl
theorem Ll{out:Str}{sp:Int}{own:Ky}{xs:List AE}(hn:(xs.map (·.1)).Nodup)(ht:sp < NX xs)(hs:M7 xs own <=sp):Mo out own xs≠[]:=by
 intro z;have h0:∀x∈xs,x.1=own:=fun x a=>by
  refine Xw fun n=>?_
  have:(if out="oldest" then x.2.2 else -(x.2.1.st.length:Int),x.1)∈Mo out own xs:=Y3.mpr ⟨x,Yf.mpr ⟨a,by simpa using n⟩,rfl⟩;rw[z]at this;exact nomatch this
 match xs,hn,h0 with
 |[],_,_=>unfold NX at ht;unfold M7 at hs;simp at ht hs;omega
 |[x],_,h0=>
  unfold NX at ht;unfold M7 at hs;rw[YG,Yh (h0 x (.head _))]at hs;simp at ht hs;omega
 |x::y::r,hn,h0=>
  rw[List.map_cons,List.map_cons,h0 x (.head _),h0 y (.tail _ (.head _))]at hn;exact(Yv.mp hn).1 (.head _)
section
variable{P:WP}{w:WU}{K:WV}{mg:WL}{base:J6}
inductive Hg(C CR:WX)(vs:List V)(H:Hp)(Q:VK)(E:XK):Prop|mk (m dr df dw t:WX) (R:Nf) (own:Ky) (_:vs=[.ref m,.ref t]) (_:Jg C CR H m dr df dw R) (_:H t=some (.tup (Th own))) (_:own∈R.es.map (·.ky)) (_:R.es.length <=1000) (_:(∀e∈R.es,Tb e.ky)) (_:(M7 (Jc R.es) own <=R.sp->Mo R.out own (Jc R.es)≠[])) (_:∀t' G,Jb H G->G t'=some (.tup (Th (Mr R.out R.sp own (Jc R.es))))->Q (.ref t') G)
abbrev Bq:Stmt:=M8 (top 44) 15
theorem QD:Nm ["self","own","others"] ["self","own"] (J8 Bq):=by walk_at"e"
theorem eS{f C CR:WX}{fd:WR}(F:Nx K "first_out" "Room.first_out" Bq f fd)(L:My K C)(B:Bt mg)(JV:T9 P w K mg base CR "size" 1 ["self"] [] (FN CR)):Jj P w K mg base JZ 3 f fd ["self","own"] (Hg C CR):=by
 refine F.ok QD (fun vs H Q E h=>?_) (fun cdv A outer s H vs Q E hr h=>?_)
 .obtain⟨m,dr,df,dw,t,R,own,rfl,_⟩:=h;rfl
 .obtain⟨m,dr,df,dw,t,R,own,rfl,hR,ht,hown,hl,hok,hpr,q⟩:=h;refine⟨_,(Jp (NB (PW.pt (Rc (NT (MI MG) (No K (J9 0)) NY) (Rx (NT (NG E3) (MA (GX hr (No K (J9 0)) (J9 1)) JV hr.m) (No K (J9 0)))))) (Jz (N8 (J9 1))) NU) (Jp (Sz (BV (i:=2) (N':=["key","own"]) (caps:=[none,some 1]) (MW (sc:=J8 Bq) (N:=["self","own","others"]) rfl rfl (by decide +kernel)) rfl (QD).nd rfl (Or.inl rfl) (Cu (No K (J9 0))) (fun _ _ _ _ _=>(Ms (i:=0) (MY (N:=["key","own"]) rfl (by decide +kernel)) rfl (Or.inl rfl))) (fun _ _ _ _ _=>(RH (NT (At (K:=K) (Room.units hr) rfl) (J9 0) (J9 1)))) (fun _ _ _ _ _=>(J9 0)) rfl)) (Jp (NB (NT (MI MG) (No K (J9 0)) NY) (Jz (N8 (Tr K (NP (FE (K:=K) rfl (Room.units hr) rfl) B.min (JM (hs:=Rz) (Dz (N':=["key","self"]) (caps:=[none,some 0]) (MW (sc:=J8 Bq) (N:=["self","own","others"]) rfl rfl (by decide +kernel)) rfl (Dt (K:=K) rfl (J9 2)) (fun _ _ _ _ _=>(Ms (i:=0) (MY (N:=["key","self"]) rfl (by decide +kernel)) rfl (Or.inl rfl))) (fun _ _ _ _ _=>GS) (fun _ _ _ _ _=>(Mn (MV (GX hr (No K (J9 1)) (J9 0)) (Jk 0 Jf))))) Jf)) Jt))) NU) (Jz (N8 (Tr K (NP (FE (K:=K) rfl (Room.units hr) rfl) B.min (JM (hs:=Rz) (Dz (N':=["key","self"]) (caps:=[none,some 0]) (MW (sc:=J8 Bq) (N:=["self","own","others"]) rfl rfl (by decide +kernel)) rfl (Dt (K:=K) rfl (J9 2)) (fun _ _ _ _ _=>(Ms (i:=0) (MY (N:=["key","self"]) rfl (by decide +kernel)) rfl (Or.inl rfl))) (fun _ _ _ _ _=>GS) (fun _ _ _ _ _=>(Mn (JM (hs:=ZO) (Qy Qu (MA (GX hr (No K (J9 1)) (J9 0)) JV hr.m)) (Jk 0 Jf))))) Jf)) Jt)))))),?_⟩;refine JU fun N hN=>?_
  walk_at"rd";obtain⟨e,he,rfl⟩:=Y3.mp hown;have hsz:=aW hR.nk he;refine⟨_,SH L hR,rfl,?_⟩
  by_cases ho:R.out="own"
  .rw[Y6 (by rw[ho];simp)];refine q t H (Jb.refl _) ?_;have:Mr R.out R.sp e.ky (Jc R.es)=e.ky:=by unfold Mr;rw[Y6 (.inl ho)]
   rw[this];exact ht
  rw[Y5 (by simpa using ho)];refine⟨_,Ea L hR,dr,rfl,_,.inr ⟨_,Na e.ky,t,.inl hR.dR,rfl,ht,(Eu hR.nk he).symm⟩,FV (hR.rd e he),e.p,e.a,e.l,R.ru,e.rs,rfl,hR.rd e he,_,Zf L hR,_,rfl,R.sp,rfl,?_⟩
  by_cases hs:R.sp < (e.rs.st.length:Int)
  .rw[Y6 (Yh hs)];refine q t H (Jb.refl _) ?_;have:Mr R.out R.sp e.ky (Jc R.es)=e.ky:=by unfold Mr;rw[Y6 (.inr (by rw[hsz];exact hs))]
   rw[this];exact ht
  rw[Y5 (by simpa using hs)];refine hN _ _ ?_;clear hN N;have efa:Mr R.out R.sp e.ky (Jc R.es)=((LK (Mo R.out e.ky (Jc R.es))).map (·.2)).getD e.ky:=by unfold Mr;rw[Y5 (by rw[hsz];exact fun z=>z.elim ho hs)]
  have hne:=hpr (by rw[hsz];omega);rw[efa]at q;refine JU fun N hN=>?_
  walk_at"rd";obtain⟨nm1,nm2,nm3,nme⟩:=hR.ne;have hrl:(D3 R.es).length=R.es.length:=Y1 ..;have hKe:=hok e he;obtain⟨Pv,ePv⟩:∃Pv:Nat->List V->L2.St->Prop,Pv=fun i ys σ'=>∃ (bs:List Addr) (v:Option V),ys=bs.map V.ref/\σ'=[v,some (.ref t)]/\Pw (fun b (x:RE)=>H b=some (.tup (Th x.ky))) bs ((R.es.take i).filter fun x=> !decide (x.ky=e.ky)):=⟨_,rfl⟩
  refine KD hR.dR (fun Rr h=>by walk_at"rd";exact⟨_,Ea L hR,h⟩) Pv (by rw[ePv];exact⟨[],_,rfl,rfl,(.nil:Pw _ [] [])⟩) ?_ (by omega) ?_ ?_ <;> rw[ePv]
  .rintro i ys σ' ⟨bs,v,rfl,rfl,hw⟩;rw[Y1,hw.1];have:=YE (fun x:RE=> !decide (x.ky=e.ky)) (R.es.take i);rw[Yt]at this;omega
  .rintro Hf o hfo hfd i b k v ys σ' hk hb ⟨bs,v0,rfl,rfl,hw⟩;rw[<-ePv];obtain⟨x,r,rfl,rfl⟩:=OU hk;have hKx:=hok x (Yq r);have hb':Hf b=some (.tup (Th x.ky)):=by rw[hfo b (Ja hb hR.dR nofun)];exact hb
   have ht':Hf t=some (.tup (Th e.ky)):=by rw[hfo t (Ja ht hR.dR nofun)];exact ht
   walk_at"rd";refine⟨_,_,Rj hb',Rj ht',Rw _ hKx.2.2.1 hKx.2.2.2,Rw _ hKe.2.2.1 hKe.2.2.2,_,rfl,?_⟩;have ee:PyData.eqv (R5 x.ky.1 x.ky.2.1 x.ky.2.2) (R5 e.ky.1 e.ky.2.1 e.ky.2.2)=decide (x.ky=e.ky):=by
    rw[wD,YA,Ya,Ya];exact⟨fun h=>Ul h.1 (Ul h.2.1 h.2.2),fun h=>by rw[h];exact⟨rfl,rfl,rfl⟩⟩
   have etk:R.es.take (i+ 1)=R.es.take i++[x]:=by rw[YJ,r];rfl
   rw[ee]
   by_cases hxe:x.ky=e.ky
   .rw[Y5 (by simpa using hxe),ePv];refine⟨⟨bs,_,rfl,rfl,?_⟩,rfl⟩;rw[etk,YZ,Us (by simpa using hxe),Wh,List.append_nil];exact hw
   .rw[Y6 (by simpa using hxe),ePv];refine⟨⟨bs++[b],_,by rw[List.map_append];rfl,rfl,?_⟩,rfl⟩;rw[etk,YZ,Ut (by simpa using hxe),Wh];exact hw.snoc hb
  .rintro ys σ' ⟨bs,v,rfl,rfl,hw⟩ lo G1 hlo s1 e1;refine hN _ _ ?_;clear hN N;rw[hrl,Yu (Y8 _)]at hw;obtain⟨n,eot⟩:∃n,n=R.es.filter fun x=> !decide (x.ky=e.ky):=⟨_,rfl⟩
   rw[<-eot]at hw;have hot:∀x∈n,x∈R.es:=fun x r=>by rw[eot]at r;exact(Yf.mp r).1
   have hotl:n.length <=R.es.length:=by rw[eot];exact YE _ _
   have hR1:=hR.mono s1;have eprs:Mo R.out e.ky (Jc R.es)=n.map fun x=>(if R.out="oldest" then x.first else -(x.rs.st.length:Int),x.ky):=by
    unfold Mo Jc;rw[XM,Yw,eot];rfl
   have fin:∀ (G2:Hp) (ps:List Addr) (gs:WY),Jb G1 G2->gs.length=n.length->(∀ (j:Nat) p b (x:RE) g,ps[j]?=some p->bs[j]?=some b->n[j]?=some x->gs[j]?=some g->G2 p=some (.tup [.int g,.ref b]))->ps.length=n.length->(n.zip gs).map (fun z=>(z.2,z.1.ky))=Mo R.out e.ky (Jc R.es)->∀ (lp:WX),G2 lp=some (.lst (ps.map V.ref))->
     ∃p,V.ref lp=V.ref p/\∃x,Jh K G2 p x/\∃x_1:List (Int×Ky),x.length=x_1.length/\(∀ (i:Nat) (x_2:V) (q:Int×Ky),x[i]?=some x_2->x_1[i]?=some q->∃t,x_2=V.ref t/\∃x,JC K G2 t [V.int q.1,V.ref x]/\JC K G2 x (DI q.2))/\x_1≠[]/\
      ∀ (i:Nat) (x_2:V) (q:Int×Ky),x[i]?=some x_2->x_1[i]?=some q->(∀q':Int×Ky,q'∈x_1->JR q' q=false)->∃p,x_2=V.ref p/\∃x,JC K G2 p x/\∃x_3,Du x 1=some x_3/\Q x_3 G2:=fun G2 ps gs s2 hg hp c hz lp elp=>by
    have hpw:∀ (i:Nat) x q',(ps.map V.ref)[i]?=some x->(Mo R.out e.ky (Jc R.es))[i]?=some q'->∃p b,x= .ref p/\G2 p=some (.tup [.int q'.1,.ref b])/\G2 b=some (.tup (Th q'.2)):=fun i x q' r hq'=>by
     rw[Y9]at r;obtain⟨p,hp',rfl⟩:=Ye.mp r;rw[<-hz,Y9]at hq';obtain⟨z,hz',rfl⟩:=Ye.mp hq';obtain⟨h1,h2⟩:=UT.mp hz';have hil:=(Ym.mp h1).1;have hb':bs[i]?=some (bs[i]'(by rw[hw.1];exact hil)):=Y4 _;exact⟨p,_,rfl,hp i p _ z.1 z.2 hp' hb' h1 h2,s2 _ _ (s1 _ _ (hw.2 i _ z.1 hb' h1))⟩
    have hlc:(ps.map V.ref).length=(Mo R.out e.ky (Jc R.es)).length:=by rw[Y1,<-hz,Y1,List.length_zip];omega
    refine⟨lp,rfl,_,Jh.of elp,Mo R.out e.ky (Jc R.es),hlc,fun i x q' r hq'=>?_,hne,fun i x q' r hq' hmin=>?_⟩
    .obtain⟨p,b,h1,h2,u⟩:=hpw i x q' r hq';exact⟨p,h1,b,JC.of h2,JC.of u⟩
    .obtain⟨p,b,h1,h2,u⟩:=hpw i x q' r hq';refine⟨p,h1,_,JC.of h2,_,rfl,q b G2 (s1.trans s2) ?_⟩;rw[gA (Yq hq') hmin];exact u
   have tw:∀ (g:RE->Int),(∀x∈n,(if R.out="oldest" then x.first else -(x.rs.st.length:Int))=g x)->(n.zip (n.map g)).map (fun z=>(z.2,z.1.ky))=Mo R.out e.ky (Jc R.es):=fun g hg=>by
    rw[eprs];apply VY;intro j;rw[Y9,Y9];cases hj:n[j]? with
    |none=>
     have:(n.zip (n.map g))[j]?=none:=by
      rw[US]at hj ⊢;rw[List.length_zip,Y1];omega
     rw[this];rfl
    |some x=>
     have:(n.zip (n.map g))[j]?=some (x,g x):=UT.mpr ⟨hj,by rw[Y9,hj];rfl⟩;rw[this];show some (g x,x.ky)=some (_,x.ky);rw[hg x (Yq hj)]
   refine JU fun N hN=>?_
   walk_at"rd";refine⟨_,SH L hR1,rfl,?_⟩
   by_cases hod:R.out="oldest"
   .rw[Y6 (by rw[hod];simp)];refine⟨⟨_,Jh.of e1⟩,?_⟩;obtain⟨Pc,ePc⟩:∃Pc:Nat->List V->L2.St->Hp->Prop,Pc=fun j ys σ' G'=>∃ (v:Option V) (ps:List Addr),ys=ps.map V.ref/\ps.length=j/\σ'=[v,some (.ref m)]/\Jb G1 G'/\∀ (i:Nat) p b (x:RE),ps[i]?=some p->bs[i]?=some b->n[i]?=some x->G' p=some (.tup [.int x.first,.ref b]):=⟨_,rfl⟩
    refine GV (xs:=bs.map V.ref) Pc (by rw[ePc];exact⟨_,[],rfl,rfl,rfl,Jb.refl _,(fun i p b x h=>by cases h)⟩) ?_ (N0 (by rw[Y1,hw.1];omega)) ?_ ?_ <;> rw[ePc]
    .rintro j ys σ' G' ⟨v,ps,rfl,c,rfl,sG,_⟩ _;exact⟨Jh.of (sG _ _ e1),by rw[Y1];omega⟩
    .rintro j y ys σ' G' hy ⟨v,ps,rfl,c,rfl,sG,hp⟩;rw[<-ePc];rw[Y9]at hy;obtain⟨b,hb,rfl⟩:=Ye.mp hy;obtain⟨x,r,hbx⟩:=hw.get hb;have hxm:=hot x (Yq r);have hRG:=hR1.mono sG;walk_at"rd";refine⟨_,AX L hRG,df,rfl,_,.inr ⟨_,Na x.ky,b,.inl hRG.dF,rfl,sG _ _ (s1 _ _ hbx),(By hR.nk hxm).symm⟩,N0 (by simp),fun p3 G3 hp3 s3 e3=>?_⟩;rw[ePc];refine⟨_,ps++[p3],by rw[List.map_append];rfl,by simp[c],rfl,sG.trans s3,fun i p b' x' h1 h2 u=>?_⟩
     by_cases hij:i < j
     .rw[X2 (by omega)]at h1;exact s3 _ _ (hp i p b' x' h1 h2 u)
     .have hij':i=j:=by have:=(Ym.mp h1).1;simp at this;omega
      subst hij';rw[YY (by omega),c,Nat.sub_self]at h1;rw[hb]at h2;rw[r]at u;cases h1;cases h2;cases u;exact e3
    .rintro ys σ' G' ⟨v, ps, rfl, c, rfl, sG, hp⟩ lp G2 hlp s2 e2;rw [Y1, hw.1] at c;exact fin G2 ps (n.map fun x => x.first) (sG.trans s2) (Y1 ..) (fun j p b x g h1 h2 u h4 => by
      rw [Y9, u] at h4;cases h4;exact s2 _ _ (hp j p b x h1 h2 u)) c (tw _ fun x _ => Y6 hod) lp e2
   .rw[Y5 (by simpa using hod)];refine hN _ _ ?_;clear hN N;walk_at"rd";refine⟨⟨_,Jh.of e1⟩,?_⟩;obtain⟨Pc,ePc⟩:∃Pc:Nat->List V->L2.St->Hp->Prop,Pc=fun j ys σ' G'=>∃ (v:Option V) (ps:List Addr),ys=ps.map V.ref/\ps.length=j/\σ'=[v,some (.ref m)]/\Jb G1 G'/\∀ (i:Nat) p b (x:RE),ps[i]?=some p->bs[i]?=some b->n[i]?=some x->G' p=some (.tup [.int (-(x.rs.st.length:Int)),.ref b]):=⟨_,rfl⟩
    refine GV (xs:=bs.map V.ref) Pc (by rw[ePc];exact⟨_,[],rfl,rfl,rfl,Jb.refl _,(fun i p b x h=>by cases h)⟩) ?_ (N0 (by rw[Y1,hw.1];omega)) ?_ ?_ <;> rw[ePc]
    .rintro j ys σ' G' ⟨v,ps,rfl,c,rfl,sG,_⟩ _;exact⟨Jh.of (sG _ _ e1),by rw[Y1];omega⟩
    .rintro j y ys σ' G' hy ⟨v,ps,rfl,c,rfl,sG,hp⟩;rw[<-ePc];rw[Y9]at hy;obtain⟨b,hb,rfl⟩:=Ye.mp hy;obtain⟨x,r,hbx⟩:=hw.get hb;have hxm:=hot x (Yq r);have hRG:=hR1.mono sG;walk_at"rd";refine⟨_,Ea L hRG,dr,rfl,_,.inr ⟨_,Na x.ky,b,.inl hRG.dR,rfl,sG _ _ (s1 _ _ hbx),(Eu hR.nk hxm).symm⟩,FV (hRG.rd x hxm),x.p,x.a,x.l,R.ru,x.rs,rfl,hRG.rd x hxm,_,rfl,N0 (by simp),fun p3 G3 hp3 s3 e3=>?_⟩;rw[ePc];refine⟨_,ps++[p3],by rw[List.map_append];rfl,by simp[c],rfl,sG.trans s3,fun i p b' x' h1 h2 u=>?_⟩
     by_cases hij:i < j
     .rw[X2 (by omega)]at h1;exact s3 _ _ (hp i p b' x' h1 h2 u)
     .have hij':i=j:=by have:=(Ym.mp h1).1;simp at this;omega
      subst hij';rw[YY (by omega),c,Nat.sub_self]at h1;rw[hb]at h2;rw[r]at u;cases h1;cases h2;cases u;exact e3
    .rintro ys σ' G' ⟨v, ps, rfl, c, rfl, sG, hp⟩ lp G2 hlp s2 e2;rw [Y1, hw.1] at c;exact fin G2 ps (n.map fun x => -(x.rs.st.length : Int)) (sG.trans s2) (Y1 ..) (fun j p b x g h1 h2 u h4 => by
      rw [Y9, u] at h4;cases h4;exact s2 _ _ (hp j p b x h1 h2 u)) c (tw _ fun x _ => Y5 hod) lp e2
end
theorem Bm{xs ys:List AE}(h:xs.Sublist ys):NX xs <=NX ys:=by
 induction h with
 |slnil=>exact U6 _
 |cons a _ ih=>unfold NX at ih ⊢;rw[List.map_cons,Xb];omega
 |cons_cons a _ ih=>unfold NX at ih ⊢;rw[List.map_cons,List.map_cons,Xb,Xb];omega
theorem jB(es:List RE):Dk es=NX (Jc es):=by
 unfold Dk NX Jc;rw[Yw];rfl
theorem rA{es:List RE}{k:Ky}(hk:(es.map (·.ky)).Nodup)(h:k∈es.map (·.ky)):(Nl es k).length+ 1=es.length:=by
 induction es with
 |nil=>exact nomatch h
 |cons x r ih=>
  unfold Nl at ih ⊢;rw[List.map_cons]at h hk;obtain⟨h1,h2⟩:=Yv.mp hk
  by_cases hx:x.ky=k
  .rw[Us (by simpa using hx),List.length_cons];have:r.filter (fun e=> !decide (e.ky=k))=r:=X1.mpr fun e a=>by
    simp only[XI,XG];exact fun z=>h1 (Y3.mpr ⟨e,a,by rw[z,hx]⟩)
   rw[this]
  .rw[Ut (by simpa using hx),List.length_cons,List.length_cons,ih h2 ((Yo.mp h).resolve_left fun z=>hx z.symm)]
theorem Q8{out:Str}{sp:Int}{own:Ky}{xs:List AE}(ho:own∈xs.map (·.1))(h:M7 xs own <=sp->Mo out own xs≠[]):Mr out sp own xs∈xs.map (·.1):=by
 unfold Mr
 split
 .exact ho
 .rename_i hn
  have c:=h (by have:=fun z=>hn (.inr z);omega);cases hp:Mo out own xs with
  |nil=>exact absurd hp c
  |cons x r=>
   obtain⟨h1,_⟩:=F3 r x;have h2:(r.foldl (fun a b=>if JR b a=true then b else a) x)∈Mo out own xs:=by rw[hp];exact h1
   obtain⟨y,f,e⟩:=Y3.mp h2;show(r.foldl (fun a b=>if JR b a=true then b else a) x).2∈_;rw[<-e];exact Y3.mpr ⟨y,(Yf.mp f).1,rfl⟩
section
variable{P:WP}{w:WU}{K:WV}{mg:WL}{base:J6}
def A0(R:Nf)(own:Ky):List AE×List Ky:=Jx R.out R.sp own (R.es.length+ 1) (Jc R.es)
inductive Kd(C CR:WX)(vs:List V)(H:Hp)(Q:VK)(E:XK):Prop|mk (m dr df dw t:WX) (R:Nf) (own:Ky) (_:vs=[.ref m,.ref t]) (_:Jg C CR H m dr df dw R) (_:H t=some (.tup (Th own))) (_:own∈R.es.map (·.ky)) (_:R.es.length <=1000) (_:(∀e∈R.es,e.rs.st.length <=100000)) (_:(∀e∈R.es,Tb e.ky)) (_:NX (Je (Jc R.es) own) <=R.sp) (_:∀es' l G,Jc es'=(A0 R own).1->(∀x∈es',x∈R.es)->H l=none->(∀c o,H c=some o->c≠dr->c≠df->G c=some o)->Jg C CR G m dr df dw {R with es:=es'}->M3 G l (A0 R own).2 "room"->Q (.ref l) G)
abbrev Iy:Stmt:=M8 (top 44) 14
theorem K3:Nm ["self","own","events","key"] ["self","own"] (J8 Iy):=by walk_at"e"
theorem xH{f C CR:WX}{fd:WR}(F:Nx K "make_space" "Room.make_space" Iy f fd)(L:My K C)(Js:T9 P w K mg base C "bytes_kept" 2 ["self"] [] (Aq C CR))(JS:T9 P w K mg base C "let_go" 1 ["self","key"] [] (Ar C CR))(NC:T9 P w K mg base C "first_out" 3 ["self","own"] [] (Hg C CR)):Jj P w K mg base JZ 4 f fd ["self","own"] (Kd C CR):=by
 refine F.ok K3 (fun vs H Q E h=>?_) (fun cdv A outer s H vs Q E hr h=>?_)
 .obtain⟨m,dr,df,dw,t,R,own,rfl,_⟩:=h;rfl
 .obtain⟨m,dr,df,dw,t,R,own,rfl,hR,ht,hown,hl,hb,hok,hot,q⟩:=h;refine⟨_,(Jp (T6 2 K3 (TZ Jf)) (Jp (mH Xq (NT (NG E3) (MA (J9 0) Js hr.m) (No K (J9 0))) (Jp (T6 3 K3 (DH (J9 0) NC hr.m (Jk 1 Jf))) (Jp (Mv (DH (J9 0) JS hr.m (Jk 3 Jf))) (Jz (Mv (D5 (K:=K) rfl YM YR YS (R4 GQ) (J9 2) (JM (hs:=Dv) (Mn (M9 NY (Jk 3 (M9 NY Jf)))) Jf))))))) (Jz (N8 (J9 2))))),?_⟩;refine JU fun N hN=>?_
  walk_at"rd";refine⟨N0 (by simp),fun p G hp s1 e1=>hN _ _ ?_⟩;clear hN N;refine JU fun N hN=>?_
  obtain⟨Wd,eW⟩:∃Wd:Nat->L2.St->Hp->Prop,Wd=fun mm σ' G'=>∃ (v:Option V) (es:List RE) (gs:List Ky),σ'=[some (.ref m),some (.ref t),some (.ref p),v]/\mm=es.length/\(∀x∈es,x∈R.es)/\es.Sublist R.es/\gs.length+ es.length=R.es.length/\(A0 R own=((Jx R.out R.sp own (es.length+ 1) (Jc es)).1,gs++(Jx R.out R.sp own (es.length+ 1) (Jc es)).2))/\(own∈es.map (·.ky)\/NX (Jc es) <=R.sp)/\
    (∀c o,H c=some o->c≠dr->c≠df->G' c=some o)/\Jg C CR G' m dr df dw {R with es:=es}/\M3 G' p gs "room":=⟨_,rfl⟩
  have hw0:∀c o,H c=some o->c≠dr->c≠df->G c=some o:=fun c o h _ _=>s1 _ _ h
  refine⟨Wd,⟨R.es.length,?_⟩,?_⟩ <;> rw[eW]
  .exact⟨_,R.es,[],rfl,rfl,fun x hx=>hx,List.Sublist.refl _,by simp,rfl,.inl hown,hw0,hR.mono s1,[],rfl,e1,fun i t k h=>by simp at h⟩
  rintro mm σ' G' ⟨v,es,gs,rfl,rfl,n,hsl,hgl,hsp,hor,kp,aa,hE⟩;rw[<-eW];have hel:es.length <=R.es.length:=hsl.length_le;walk_at"rd";refine⟨aa.mt rfl,m,dr,df,dw,_,rfl,aa,by show es.length <=1000;omega,fun e he=>hb e (n e he),fun G2 s2=>?_⟩;have ab:=aa.mono s2;have etot:Dk es=NX (Jc es):=jB es;refine⟨_,Zf L ab,_,rfl,_,rfl,?_⟩
  by_cases hts:R.sp < NX (Jc es)
  .rw[Y6 (by show decide (R.sp < Dk es)=true;rw[etot];exact Yh hts)];have hin:own∈es.map (·.ky):=hor.resolve_right (by omega);have hink:own∈(Jc es).map (·.1):=by rw[DP];exact hin
   have hnk:((Jc es).map (·.1)).Nodup:=by rw[DP];exact aa.nk
   have hpn:M7 (Jc es) own <=R.sp->Mo R.out own (Jc es)≠[]:=fun hs=>Ll hnk hts hs
   have hfm:=Q8 (out:=R.out) (sp:=R.sp) hink hpn;rw[DP]at hfm;obtain⟨g,ekk⟩:∃g,g=Mr R.out R.sp own (Jc es):=⟨_,rfl⟩;rw[<-ekk]at hfm;have ht2:G2 t=some (.tup (Th own)):=s2 _ _ (kp t _ ht (Ja ht hR.dR nofun) (Ja ht hR.dF nofun));have hlen:=rA aa.nk hfm;have hlen:(Nl es g).length+ 1=es.length:=hlen;refine⟨Wd (es.length - 1),fun σ'' H'' h=>⟨es.length - 1,by omega,h⟩,?_⟩;refine⟨ab.mt rfl,m,dr,df,dw,t,_,own,rfl,ab,ht2,hin,by show es.length <=1000;omega,fun e he=>hok e (n e he),hpn,fun t' G3 s3 e3=>?_⟩;have r:=ab.mono s3;have e3':G3 t'=some (.tup (Th g)):=by rw[ekk];exact e3
   refine⟨r.mt rfl,m,dr,df,dw,t',_,g,rfl,r,e3',hfm,fun G4 k4 hR4=>?_⟩;obtain⟨ts,h1,h2,h3⟩:=hE;have s23:=s2.trans s3;have hp3:=s23 _ _ h2;have hp4:=k4 p _ hp3 (Ja hp3 r.dR nofun) (Ja hp3 r.dF nofun);have t4:∀{c:WX} {xs:List V},G3 c=some (.tup xs)->G4 c=some (.tup xs):=fun {c xs} h=>k4 c _ h (Ja h r.dR nofun) (Ja h r.dF nofun)
   have htl:ts.length <=1000:=by rw[h1];omega
   refine⟨.inl ⟨rfl,_,Jh.of hp4⟩,N0 (by simp),fun p5 G5 hp5 u e5=>⟨_,u _ _ hp4,Yi (by rw[Y1];exact htl) (by rw[YT];decide),fun G6 b6 e6=>?_⟩⟩;have t6:∀{c:WX} {xs:List V},G5 c=some (.tup xs)->G6 c=some (.tup xs):=fun {c xs} h=>b6 c _ h (Ja h (u _ _ hp4) nofun)
   have hsub':∀x∈Nl es g,x∈es:=fun x hx=>(Yf.mp hx).1
   rw[eW];refine⟨_,Nl es g,gs++[g],rfl,by omega,fun x hx=>n x (hsub' x hx),List.Sublist.trans YC hsl,by rw[Yl,UB];omega,?_,?_,fun c o h n1 n2=>b6 c o (u _ _ (k4 c o (s23 _ _ (kp c o h n1 n2)) n1 n2)) (NI h hp),(hR4.mono u).butL b6 (u _ _ hp4) (fun e he=>?_),?_⟩
   .rw[hsp];have est:Jx R.out R.sp own (es.length+ 1) (Jc es)=((Jx R.out R.sp own es.length (Je (Jc es) g)).1,g::(Jx R.out R.sp own es.length (Je (Jc es) g)).2):=by
     show(if NX (Jc es) <=R.sp then _ else _)=_;rw[Y5 (by omega),<-ekk]
    rw[est,hlen,QG,UA];rfl
   .by_cases hko:g=own
    .right
     rw[QG,hko];refine XA (Bm ?_) hot;unfold Je Jc;exact(hsl.map _).filter _
    .left
     obtain⟨e,he,hek⟩:=Y3.mp hin;exact Y3.mpr ⟨e,Yf.mpr ⟨he,by simp only[XI,XG];exact fun z=>hko (z.symm.trans hek)⟩,hek⟩
   .obtain⟨ys',hy,_⟩:=(hR.rd e (n e (hsub' e he))).cv;exact NI hy hp
   .have hw:Pw (fun(t:Addr×Addr) (k:Ky)=>G6 t.1=some (.tup [.str "gone",.ref t.2,.str "room"])/\G6 t.2=some (.tup (Th k))) ts gs:=⟨h1,fun j x y a b=>⟨t6 (u _ _ (t4 (s23 _ _ (h3 j x y a b).1))),t6 (u _ _ (t4 (s23 _ _ (h3 j x y a b).2)))⟩⟩;have hw2:=hw.snoc (x:=(p5,t')) (y:=g) ⟨t6 e5,t6 (u _ _ (t4 e3'))⟩;exact⟨ts++[(p5,t')],hw2.1,by rw[e6,List.map_append];rfl,hw2.2⟩
  .rw[Y5 (by show ¬decide (R.sp < Dk es)=true;rw[etot];simpa using hts)];refine hN _ _ ?_;walk_at"rd";have hend:Jx R.out R.sp own (es.length+ 1) (Jc es)=(Jc es,[]):=by
    show(if NX (Jc es) <=R.sp then _ else _)=_;rw[Y6 (by omega)]
   rw[hend]at hsp;refine q es p G2 (by rw[hsp]) n hp (fun c o h n1 n2=>s2 _ _ (kp c o h n1 n2)) ab ?_
   .rw[hsp,List.append_nil];obtain⟨ts,h1,h2,h3⟩:=hE;exact⟨ts,h1,s2 _ _ h2,fun i t' k a b=>⟨s2 _ _ (h3 i t' k a b).1,s2 _ _ (h3 i t' k a b).2⟩⟩
inductive Ow(C:WX)(vs:List V)(H:Hp)(Q:VK)(E:XK):Prop|mk (d:LD) (b:WX) (_:vs=[.int d.nu,.str d.z1,.str d.z2,.ref b]) (_:d.k=false) (_:d.Ok) (_:H b=some (.lst (d.ns.map V.int))) (_:∀p b' G,H p=none->H b'=none->Jb H G->ME C G p b' d->Q (.ref p) G)
theorem ZM{C:WX}(F:GJ P w K mg base "Letter" C 6 ["self","number","sender","goal","body","keep"] [.bl false] (An C)):Go P w K mg base "Letter" 6 (Ow C):=by
 refine F.ct fun vs H Q h y dx G c x z s n=>?_
 obtain⟨d,b,rfl,f,ok,g,q⟩:=h;obtain⟨a,i⟩:=PL (k:=d.k) ok.n0 ok.n1 ok.k1 ok.k2 (s b _ g) ok.l1 ok.l2 ok.by'
 rw[f]at a i;exact⟨y,dx,_,_,_,b,_,_,rfl,n,a,i,s b _ g,fun H' u p h1 h2 j r=>⟨rfl,q y u H' c (s.free p) (fun d o e=>r d o (s d o e) (NI e c)) ⟨ok,by rw[f];exact j,h2⟩⟩⟩
end
theorem rE{t u v:TS}{D:L2.TQ}{σ:L2.St}{H:Hp}(h:∀N:L2.St->Hp->Prop,(∀σ' H',v D σ' H'->N σ' H')->DU t u {D with nx:=N} σ H):DU t (DU u v) D σ H:=h (v D) fun _ _ x=>x
structure Tq(rs:RS):Prop where
 iv:Dg rs
 by':∀n x,N5 rs.st n=some x->0 <=x/\x <=255
 e1:∀e,rs.en=some e->1 <=e
theorem Tq.zero:Tq Gk:=⟨Dg.zero,fun n x h=>(by cases h),fun e h=>(by cases h)⟩
theorem Tq.step{rs:RS}{d:PD}(la:Bool)(h:Tq rs)(hd:d.Ok):Tq (Dj la rs d):=by
 refine⟨h.iv.step la hd,?_,fun e a=>?_⟩
 .refine S2 (P:=fun _ x=>0 <=x/\x <=255) la d.ns rs.st d.at' h.by' fun i x b=>hd.by' x (Yq b)
 .have a:(if d.mo=true then rs.en else some (d.at'+ d.ns.length))=some e:=a;obtain⟨g,f,c⟩:=hd.end'
  split at a
  .exact h.e1 e a
  .have:=Option.some.inj a;omega
theorem Tq.body{rs:RS}(h:Tq rs)(hl:Mf rs.en 0 rs.cv=[]):1 <=(Tp rs).length/\(Tp rs).length <=4000/\∀x∈Tp rs,0 <=x/\x <=255:=by
 obtain⟨e,c,g,f,b⟩:=h.iv.body hl;have:=h.e1 e c;refine⟨by omega,by omega,fun x a=>?_⟩;obtain⟨i,hi,rfl⟩:=Xg.mp a;exact h.by' i _ (b i _ (Y4 hi))
theorem KG{es:List RE}{now:Int}(hk:(es.map (·.ky)).Nodup){e:RE}(he:e∈es):Ju (Jc es) e.ky e.rs now=Jc es:=by
 unfold Ju;rw[Y6 (by rw[Ha];exact Y3.mpr ⟨e,he,rfl⟩)];unfold Jc;rw[Yw];apply YI;intro x a;simp only[Function.comp]
 by_cases h:x.ky=e.ky
 .have:x=e:=Xw fun ne=>BE hk a he ne h
  subst this;rw[Y6 rfl]
 .rw[Y5 h]
theorem Qa{ru:Str}{rs:RS}{d:PD}(hs:strange rs d=false)(hu:ru="refuse"->TU rs.st d.at' d.ns=none):Mq ru rs d=if Mf (Dj (decide (ru="last")) rs d).en 0 (Dj (decide (ru="last")) rs d).cv=[] then .whole (Dj (decide (ru="last")) rs d) else .keep (Dj (decide (ru="last")) rs d):=by
 have a:(if ru="refuse" then TU rs.st d.at' d.ns else none)=none:=by
  split
  .rename_i h;exact hu h
  .rfl
 unfold Mq;rw[Y5 (by rw[hs];simp),a]
theorem PR(xs:List AE)(k:Int×Str×Str)(rs:RS)(now:Int):(Ju xs k rs now).length <=xs.length+ 1:=by
 unfold Ju
 split
 .rw[Y1];omega
 .rw[Yl];exact Y8 _
theorem QY{xs:List AE}{k:Int×Str×Str}{rs:RS}{now:Int}{y:AE}(h:y∈Ju xs k rs now):y∈xs\/y.2.1=rs:=by
 unfold Ju at h
 split at h
 .obtain⟨x,a,rfl⟩:=Y3.mp h
  split
  .exact .inr rfl
  .exact .inl a
 .rcases Yp.mp h with z|z
  .exact .inl z
  .rw[Yb.mp z];exact .inr rfl
theorem LN(es:List RE):NX (Jc es)=Dk es:=by unfold NX Dk Jc;rw[Yw];rfl
def Ml(ws:List ((Int×Str×Str)×Int))(k:Int×Str×Str)(t:Int):List ((Int×Str×Str)×Int):=if k∈ws.map (·.1) then ws.map (fun x=>if x.1=k then(k,t) else x) else ws++[(k,t)]
theorem eV(ws:List ((Int×Str×Str)×Int))(k:Int×Str×Str)(t:Int):MZ (GL ws) (Na k) (.int t)=GL (Ml ws k t):=by
 have e:((GL ws).any fun b=>decide (b.1=Na k))=decide (k∈ws.map (·.1)):=by
  unfold GL;rw[WJ,YA,Ya,U4];constructor
  .rintro⟨x,a,h⟩;exact Y3.mpr ⟨x,a,DT (Xe h)⟩
  .intro h;obtain⟨x,a,rfl⟩:=Y3.mp h;exact⟨x,a,Yh rfl⟩
 unfold MZ Ml;rw[e]
 by_cases h:k∈ws.map (·.1)
 .rw[Y6 (Yh h),Y6 h];unfold GL;rw[Yw,Yw];apply YI;intro x _;simp only[Function.comp]
  by_cases a:x.1=k
  .rw[Y6 a,Y6 (by rw[a]),a]
  .rw[Y5 a,Y5 (fun z=>a (DT z))]
 .rw[Y5 (by simpa using h),Y5 h];unfold GL;rw[List.map_append];rfl
inductive Ev where
 |gone (k:Ky) (w:Str)
 |late (k:Ky)
 |strange (k:Ky)
 |whole (d:LD)
def Ee(CL:WX)(G:Hp)(v:V):Ev->Prop
 | .gone k w=>∃t tk,v= .ref t/\G t=some (.tup [.str "gone",.ref tk,.str w])/\G tk=some (.tup (Th k))
 | .late k=>∃t tk,v= .ref t/\G t=some (.tup [.str "late",.ref tk])/\G tk=some (.tup (Th k))
 | .strange k=>∃t tk,v= .ref t/\G t=some (.tup [.str "strange",.ref tk])/\G tk=some (.tup (Th k))
 | .whole d=>∃t pl bl,v= .ref t/\G t=some (.tup [.str "whole",.ref pl])/\ME CL G pl bl d
def EM(CL:WX)(G:Hp)(l:WX)(evs:List Ev):Prop:=∃xs,G l=some (.lst xs)/\Pw (Ee CL G) xs evs
def Fk(CL:WX)(H G:Hp)(v:V):Ev->Prop
 | .whole d=>∃t pl bl,v= .ref t/\G t=some (.tup [.str "whole",.ref pl])/\ME CL G pl bl d/\∀ys,H bl≠some (.lst ys)
 | .gone k w=>Ee CL G v (.gone k w)
 | .late k=>Ee CL G v (.late k)
 | .strange k=>Ee CL G v (.strange k)
theorem Fk.o{CL:WX}{H G:Hp}{v:V}{ev:Ev}(h:Fk CL H G v ev):Ee CL G v ev:=by
 cases ev with
 |whole d=>obtain⟨t,a,c,h1,h2,b,_⟩:=h;exact⟨t,a,c,h1,h2,b⟩
 |gone k w=>exact h
 |late k=>exact h
 |strange k=>exact h
def E6(CL:WX)(H G:Hp)(l:WX)(evs:List Ev):Prop:=∃xs,G l=some (.lst xs)/\Pw (Fk CL H G) xs evs
def GP(R:Nf)(own:Ky)(xs:List AE):List AE×List Ky:=Jx R.out R.sp own (xs.length+ 1) xs
theorem M3.evsR{CL:WX}{H G:Hp}{l:WX}{ks:List Ky}(h:M3 G l ks "room"):E6 CL H G l (ks.map fun k=>.gone k "room"):=by
 obtain⟨n,h1,h2,i⟩:=h;refine⟨_,h2,by rw[Y1,Y1,h1],fun j x y a b=>?_⟩;rw[Y9]at a b;obtain⟨t,f,rfl⟩:=Ye.mp a;obtain⟨k,g,rfl⟩:=Ye.mp b;obtain⟨e,c⟩:=i j t k f g;exact⟨t.1,t.2,rfl,e,c⟩
theorem Jg.lstN{C CR m dr df dw c:WX}{H:Hp}{R:Nf}{xs:List V}(h:Jg C CR H m dr df dw R)(hc:H c=some (.lst xs)):¬ET R m dr df dw c:=fun z=>by
 obtain⟨dx,fs,b,_⟩:=h.ex;rcases z with z|z|z|z|⟨e,he,z⟩
 .exact Ja hc b nofun z
 .exact Ja hc h.dR nofun z
 .exact Ja hc h.dF nofun z
 .exact Ja hc h.dW nofun z
 .have r:=h.rd e he;obtain⟨_,_,a,_⟩:=r.ex;rcases z with z|z
  .exact Ja hc a nofun z
  .exact Ja hc r.dk nofun z
def Ny(R:Nf)(d:PD):List AE×List ((Int×Str×Str)×Int)×List Ev:=
 if RY R d.key=true then(Jc R.es,R.ws,[.late d.key]) else
 match Mq R.ru (Np R.es d.key) d with
 | .str=>(Ju (Jc R.es) d.key (Np R.es d.key) R.now,R.ws,[.strange d.key])
 | .unl _=>(Je (Jc R.es) d.key,R.ws,[.gone d.key "unlike"])
 | .keep rs=>((GP R d.key (Ju (Jc R.es) d.key rs R.now)).1,R.ws,(GP R d.key (Ju (Jc R.es) d.key rs R.now)).2.map fun k=>.gone k "room")
 | .whole rs=>(Je (Jc R.es) d.key,Ml R.ws d.key R.now,[.whole ⟨d.nu,d.z1,d.z2,Tp rs,false⟩])
section
variable{P:WP}{w:WU}{K:WV}{mg:WL}{base:J6}
inductive O2(C CR CP CL:WX)(vs:List V)(H:Hp)(Q:VK)(E:XK):Prop|mk (m dr df dw q b:WX) (R:Nf) (d:PD) (_:vs=[.ref m,.ref q]) (_:Jg C CR H m dr df dw R) (_:Nz CP H q b d) (_:R.es.length <=900) (_:R.ws.length <=1000) (_:(∀e∈R.es,e.rs.st.length <=10000/\e.rs.cv.length <=800/\Tq e.rs)) (_:NX (Je (Jc R.es) d.key) <=R.sp) (_:(∀e∈R.es,Tb e.ky)) (_:∀R' l G,ML C CR H G m dr df dw R R' (Ny R d).1 (Ny R d).2.1->E6 CL H G l (Ny R d).2.2->Q (.ref l) G)
abbrev Hc:Stmt:=M8 (top 44) 13
theorem Fc:Nm ["self","piece","key","reading","answer"] ["self","piece"] (J8 Hc):=by walk_at"e"
theorem vN{f C CR CP CW CU CL:WX}{fd:WR}(F:Nx K "take_in" "Room.take_in" Hc f fd)(L:My K C)(LW:Bv K CW "body")(icW:Bx K CW)(icU:Bx K CU)(LU:Bv K CU "at")(ww:W.kitOne K (.ref CW) (.ref CW)=some true)(uw:W.kitOne K (.ref CU) (.ref CW)=some false)(B:Bt mg)(gC_Whole:mg "Whole"=some (.ref CW))
  (Tx:T9 P w K mg base CP "key" 1 ["self"] [] (Qw CP)) (Nw:T9 P w K mg base C "is_resting" 1 ["self","key"] [] (IW C CR)) (GG:Go P w K mg base "Reading" 1 (OC CR)) (JD:T9 P w K mg base CR "is_strange" 2 ["self","piece"] [] (Fs CR CP)) (Nb:T9 P w K mg base CR "answer_to" 3 ["self","piece"] [] (L7 CR CP CW CU))
  (Nt:T9 P w K mg base C "make_space" 4 ["self","own"] [] (Kd C CR)) (JS:T9 P w K mg base C "let_go" 1 ["self","key"] [] (Ar C CR)) (Dx:Go P w K mg base "Letter" 6 (Ow CL)):Jj P w K mg base JZ 8 f fd ["self","piece"] (O2 C CR CP CL):=by
 refine F.ok Fc (fun vs H Q E h=>?_) (fun cdv A outer s H vs Q E hr h=>?_)
 .obtain⟨m,dr,df,dw,q,b,R,d,rfl,_⟩:=h;rfl
 .obtain⟨m,dr,df,dw,q,b,R,d,rfl,hR,hP,hel,hwl,hes,htot,hkok,q0⟩:=h;refine⟨_,(Jp (T6 2 Fc (MA (J9 1) Tx hr.m)) (Jp (NB (Mj (DH (J9 0) Nw hr.m (Jk 2 Jf))) (Jz (N8 (TZ (JM (hs:=Dv) (Mn (M9 NY (Jk 2 Jf))) Jf)))) NU) (Jp (T6 3 Fc (D5 (K:=K) rfl X6 UD VO (On (DL hr)) (No K (J9 0)) (Jk 2 (MU (EV GG hr.m rfl (D8 (No K (J9 0)) Jf)) Jf)))) (Jp (Mv (D5 (K:=K) rfl X6 UD VO (On (DL hr)) (No K (J9 0)) (Jk 2 (D8 (No K (J9 0)) Jf)))) (Jp (NB (PW.pt (Rl (NT (Bw Bu) (No K (J9 0)) NY) (RI (Mj (DH (J9 3) JD hr.m (Jk 1 Jf)))))) (Jz (N8 (TZ (JM (hs:=Dv) (Mn (M9 NY (Jk 2 Jf))) Jf)))) NU) (Jp (T6 4 Fc (DH (J9 3) Nb hr.m (Jk 1 Jf))) (Jp (NB (NT Qf (J9 4) Rn) (Jz (N8 (DH (J9 0) Nt hr.m (Jk 2 Jf)))) NU) (Jp (Mv (DH (J9 0) JS hr.m (Jk 2 Jf))) (Jp (NB (Mj (NP (bL (K:=K) rfl) B.isinstance (Jk 4 (JM (hs:=Gv) (B4 (v:=.ref CW) rfl gC_Whole rfl) Jf)))) (Jp (Sh (DL hr) (No K (J9 0)) (J9 2) (No K (J9 0)) rfl) (Jz (N8 (TZ (JM (hs:=Dv) (Mn (M9 NY (MU (EV Dx hr.m rfl (MV (Tr K (J9 2) Jt) (MV (Tr K (J9 2) Jt) (MV (Tr K (J9 2) Jt) (D8 (No K (J9 4)) Jf))))) Jf))) Jf))))) NU) (Jz (N8 (TZ (JM (hs:=Dv) (Mn (M9 NY (Jk 2 (M9 NY Jf)))) Jf))))))))))))),?_⟩;refine JU fun N hN=>?_
  walk_at"rd";refine⟨yP hP,q,b,d,rfl,hP,fun tk G1 htk s1 e1=>hN _ _ ?_⟩;clear hN N;have hR1:=hR.mono s1;have hP1:=hP.mono s1;refine JU fun N hN=>?_
  walk_at"rd";refine⟨hR1.mt rfl,m,dr,df,dw,tk,R,d.key,rfl,hR1,e1,_,rfl,?_⟩
  by_cases hrs:RY R d.key=true
  .rw[Y6 hrs];refine⟨N0 (by simp),fun t G2 ht s2 e2=>⟨N0 (by simp),fun l G3 hl s3 e3=>?_⟩⟩;have s123:=s1.trans (s2.trans s3);unfold Ny at q0;rw[Y6 hrs]at q0;refine q0 R l G3 ⟨fun c o h _=>s123 c o h,hR.mono s123,rfl,rfl,⟨rfl,rfl,rfl,rfl,rfl,rfl⟩,fun e he=>.inl ⟨e,he,rfl,rfl⟩,fun e he=>.inl ⟨e,he,rfl⟩⟩ ⟨_,e3,.one ⟨t,tk,rfl,s3 _ _ e2,s3 _ _ (s2 _ _ e1)⟩⟩
  rw[Y5 hrs];refine hN _ _ ?_;clear hN N;have q0:match Mq R.ru (Np R.es d.key) d with
    | .str=>∀R' l t tk G,ML C CR H G m dr df dw R R' (Ju (Jc R.es) d.key (Np R.es d.key) R.now) R.ws->G l=some (.lst [.ref t])->G t=some (.tup [.str "strange",.ref tk])->G tk=some (.tup (Th d.key))->Q (.ref l) G
    | .unl _=>∀R' l t tk G,ML C CR H G m dr df dw R R' (Je (Jc R.es) d.key) R.ws->G l=some (.lst [.ref t])->G t=some (.tup [.str "gone",.ref tk,.str "unlike"])->G tk=some (.tup (Th d.key))->Q (.ref l) G
    | .keep rs=>∀R' l G,ML C CR H G m dr df dw R R' (GP R d.key (Ju (Jc R.es) d.key rs R.now)).1 R.ws->M3 G l (GP R d.key (Ju (Jc R.es) d.key rs R.now)).2 "room"->Q (.ref l) G
    | .whole rs=>∀R' l t pl bl G,ML C CR H G m dr df dw R R' (Je (Jc R.es) d.key) (Ml R.ws d.key R.now)->G l=some (.lst [.ref t])->G t=some (.tup [.str "whole",.ref pl])->ME CL G pl bl ⟨d.nu,d.z1,d.z2,Tp rs,false⟩->(∀ys,H bl≠some (.lst ys))->Q (.ref l) G:=by
   unfold Ny at q0;rw[Y5 hrs]at q0;cases hst:Mq R.ru (Np R.es d.key) d with
   |str=>rw[hst]at q0;exact fun R' l t tk G hn x1 x2 x3=>q0 R' l G hn ⟨_,x1,.one ⟨t,tk,rfl,x2,x3⟩⟩
   |unl n=>rw[hst]at q0;exact fun R' l t tk G hn x1 x2 x3=>q0 R' l G hn ⟨_,x1,.one ⟨t,tk,rfl,x2,x3⟩⟩
   |keep rs=>rw[hst]at q0;exact fun R' l G hn x1=>q0 R' l G hn x1.evsR
   |whole rs=>rw[hst]at q0;exact fun R' l t pl bl G hn x1 x2 x3 x4=>q0 R' l G hn ⟨_,x1,.one ⟨t,pl,bl,rfl,x2,x3,x4⟩⟩
  obtain⟨nm1,nm2,nm3,nme⟩:=hR1.ne;refine rE fun N hN=>?_
  have go:∀ (i:List RE) (e:RE) (G:Hp),Jg C CR G m dr df dw {R with es:=i}->MS R m dr df dw H G->e∈i->e.ky=d.key->e.rs=Np R.es d.key->Jc i=Ju (Jc R.es) d.key (Np R.es d.key) R.now->(∀x∈i,((∃e0∈R.es,x.p=e0.p/\x.a=e0.a)\/(H x.p=none/\H x.a=none))/\((∃e0∈R.es,x.l=e0.l)\/H x.l=none))->(∀x∈R.es,∃y∈i,y.p=x.p/\y.a=x.a)->Nz CP G q b d->G tk=some (.tup (Th d.key))->
    N [some (.ref m),some (.ref q),some (.ref tk),some (.ref e.p),none] G:=by
   intro i e G hG hkp he hek hers habs hnw hold hPG htkG;refine hN _ _ ?_;clear hN N;have hre:=hG.rd e he;have hcur:e.rs.st.length <=10000/\e.rs.cv.length <=800/\Tq e.rs:=by
    rw[hers]
    by_cases h:d.key∈R.es.map (·.ky)
    .obtain⟨x,g,hxk⟩:=Y3.mp h;have hxk:x.ky=d.key:=hxk;rw[<-hxk,Lv hR.nk g];exact hes x g
    .rw[Hi h];exact⟨Ys _,Ys _,Tq.zero⟩
   rw[<-hers]at q0 habs;have hfree:∀c,G c=none->H c=none:=fun c u=>by
    cases h:H c with
    |none=>rfl
    |some o=>
     have:ET R m dr df dw c:=Xw fun n=>by rw[hkp c o h n]at u;cases u
     exfalso
     obtain⟨_,_,hmG,_⟩:=hG.ex;rcases this with rfl|rfl|rfl|rfl|⟨x,g,hxc⟩
     .rw[hmG]at u;cases u
     .rw[hG.dR]at u;cases u
     .rw[hG.dF]at u;cases u
     .rw[hG.dW]at u;cases u
     .obtain⟨y,hy,h1,h2⟩:=hold x g;have ry:=hG.rd y hy;obtain⟨_,_,hyp,_⟩:=ry.ex;rcases hxc with z|z
      .rw[z,<-h1,hyp]at u;cases u
      .rw[z,<-h2,ry.dk]at u;cases u
   have nxt:∀{G2:Hp} (es2:List RE) (ws2:List ((Int×Str×Str)×Int)),MS R m dr df dw H G2->Jg C CR G2 m dr df dw {R with es:=es2,ws:=ws2}->(∀x∈es2,∃y∈i,x.p=y.p/\x.a=y.a/\(x.l=y.l\/H x.l=none))->ML C CR H G2 m dr df dw R {R with es:=es2,ws:=ws2} (Jc es2) ws2:=fun es2 ws2 k o h=>
    ⟨k, o, rfl, rfl, ⟨rfl, rfl, rfl, rfl, rfl, rfl⟩, fun x g => by
     obtain⟨y,hy,h1,h2,_⟩:=h x g;rw[h1,h2];exact(hnw y hy).1,fun x g=>by
     obtain⟨y,hy,_,_,h3|h3⟩:=h x g
     .rw[h3];exact(hnw y hy).2
     .exact .inr h3⟩
   refine JU fun N hN=>?_
   have k6:(R.ru≠"refuse"->strange e.rs d=false)->N [some (.ref m),some (.ref q),some (.ref tk),some (.ref e.p),none] G:=fun hns=>by
    refine hN _ _ ?_;clear hN N;refine JU fun N hN=>?_
    have unl:∀ (n:Int) (m':WX) (G2:Hp),Jb G G2->R9 CU "at" G2 m' (.int n)->Mq R.ru e.rs d= .unl n->N [some (.ref m),some (.ref q),some (.ref tk),some (.ref e.p),some (.ref m')] G2:=fun n m' G2 s2 hA hst=>by
     refine hN _ _ ?_;clear hN N;rw[hst]at q0;obtain⟨dx,fs,x1,x2⟩:=hA;have hG2:=hG.mono s2;refine JU fun N hN=>?_
     walk_at"rd";refine hN _ _ ?_;clear hN N;refine JU fun N hN=>?_
     walk_at"rd";refine⟨hG2.mt rfl,m,dr,df,dw,tk,{R with es:=i},d.key,rfl,hG2,s2 _ _ htkG,Y3.mpr ⟨e,he,hek⟩,fun G3 kp3 hG3=>hN _ _ ?_⟩;clear hN N;have x3:=kp3 m' _ x1 (Ja x1 hG2.dR nofun) (Ja x1 hG2.dF nofun);have ab:=s2 _ _ htkG;have htk3:=kp3 tk _ ab (Ja ab hG2.dR nofun) (Ja ab hG2.dF nofun);walk_at"rd";refine⟨_,_,_,x3,LU.cl,icU,_,uw,?_⟩;rw[Y5 (by simp)];refine⟨N0 (by simp),fun t G4 ht s4 e4=>⟨N0 (by simp),fun l G5 hl s5 e5=>?_⟩⟩;have s45:=s4.trans s5;have hn:=nxt (G2:=G5) (Nl i d.key) R.ws (fun c o h u=>s45 c o (kp3 c o (s2 c o (hkp c o h u)) (fun z=>u (.inr (.inl z))) (fun z=>u (.inr (.inr (.inl z)))))) (hG3.mono s45) fun x g=>⟨x,(Yf.mp g).1,rfl,rfl,.inl rfl⟩
     rw[Zd,habs,Iw]at hn;exact q0 _ l t tk G5 hn e5 (s5 _ _ e4) (s45 _ _ htk3)
    walk_at"rd";refine⟨tN hre,e.p,e.a,e.l,q,b,R.ru,e.rs,d,rfl,hre,hPG,by omega,by omega,fun hs=>⟨fun hr m' G2 s2 hA=>?_,fun hr=>?_⟩,fun hs=>⟨fun n h2 h3 m' G2 s2 hA=>?_,fun hu j ers=>⟨fun hne l' G2 hl0 kp aa=>?_,fun heq=>?_⟩⟩⟩
    .have hst:Mq R.ru e.rs d= .unl d.at':=by unfold Mq;rw[Y6 hs,Y6 hr]
     exact unl _ m' G2 s2 hA hst
    .rw[hns hr]at hs;cases hs
    .have hst:Mq R.ru e.rs d= .unl n:=by unfold Mq;rw[Y5 (by rw[hs];simp),Y6 h2,h3]
     exact unl _ m' G2 s2 hA hst
    .have hst:Mq R.ru e.rs d= .keep j:=by rw[Qa hs hu,<-ers,Y5 hne]
     rw[hst]at q0;have hl0':H l'=none:=hfree l' hl0;have hR3:=hG.goOn he kp aa;have hlen:j.st.length <=e.rs.st.length+ d.ns.length:=by rw[ers];exact CH _ _ _ _
     have hdl:=hPG.ok.l2;have habs2:Jc (M6 i e.ky l' j)=Ju (Jc R.es) d.key j R.now:=by
      rw[Qr R.now (Y3.mpr ⟨e,he,rfl⟩),habs,hek,SO]
     have hel1:i.length <=901:=by
      have h1:=X3 List.length habs;have h2:=PR (Jc R.es) d.key e.rs R.now;unfold Jc at h1 h2;rw[Y1]at h1 h2;omega
     have hbd1:∀x∈i,x.rs.st.length <=10000:=fun x g=>by
      have:(x.ky,x.rs,x.first)∈Ju (Jc R.es) d.key e.rs R.now:=by rw[<-habs];exact Y3.mpr ⟨x,g,rfl⟩
      rcases QY this with z|z
      .obtain⟨y,hy,hz⟩:=Y3.mp z;have:y.rs=x.rs:=X3 (fun t=>t.2.1) hz;rw[<-this];exact(hes y hy).1
      .have:x.rs=e.rs:=z;rw[this];exact hcur.1
     refine hN _ _ ?_;clear unl hN N;refine JU fun N hN=>?_
     walk_at"rd";have ab:=kp tk _ htkG (fun z=>by obtain⟨_,_,hpe,_⟩:=hre.ex;rw[z,hpe]at htkG;cases htkG) (fun z=>by have:=hre.dk;rw[z,this]at htkG;cases htkG);have hupd:(M6 i e.ky l' j).length=(Ju (Jc R.es) d.key j R.now).length:=by rw[<-habs2];exact(Y1 ..).symm
     have hsk:A0 {R with es:=M6 i e.ky l' j} d.key=GP R d.key (Ju (Jc R.es) d.key j R.now):=by
      unfold A0 GP;show Jx R.out R.sp d.key ((M6 i e.ky l' j).length+ 1) (Jc (M6 i e.ky l' j))=_;rw[hupd,habs2]
     refine⟨hR3.mt rfl,m,dr,df,dw,tk,{R with es:=M6 i e.ky l' j},d.key,rfl,hR3,ab,?_,?_,fun x g=>?_,fun x g=>?_,?_,fun es' l G4 hes' hsub hl k4 hR4 hG4=>?_⟩
     .show d.key∈(M6 i e.ky l' j).map (·.ky);rw[<-DP,habs2];unfold Ju
      split
      .rename_i hin
       obtain⟨x,g,hxk⟩:=Y3.mp hin;exact Y3.mpr ⟨(d.key,j,x.2.2),Y3.mpr ⟨x,g,by rw[Y6 hxk]⟩,rfl⟩
      .simp
     .show(M6 i e.ky l' j).length <=1000;unfold M6;rw[Y1];omega
     .obtain⟨y,hy,rfl⟩:=Y3.mp g
      split
      .show j.st.length <=100000;omega
      .have:=hbd1 y hy;omega
     .have hxk:x.ky∈(Jc (M6 i e.ky l' j)).map (·.1):=by rw[DP];exact Y3.mpr ⟨x,g,rfl⟩
      rw[habs2]at hxk;have hin:x.ky=d.key\/x.ky∈(Jc R.es).map (·.1):=by
       unfold Ju at hxk
       split at hxk
       .obtain⟨y,hy,hyk⟩:=Y3.mp hxk;obtain⟨z,hz,rfl⟩:=Y3.mp hy
        by_cases hzk:z.1=d.key
        .rw[Y6 hzk]at hyk;exact .inl hyk.symm
        .rw[Y5 hzk]at hyk;exact .inr (Y3.mpr ⟨z,hz,hyk⟩)
       .rw[List.map_append]at hxk;rcases Yp.mp hxk with z|z
        .exact .inr z
        .exact .inl (by simpa using z)
      rcases hin with z|z
      .rw[z];exact⟨hPG.ok.n0,hPG.ok.n1,hPG.ok.k1,hPG.ok.k2⟩
      .rw[DP]at z;obtain⟨y,hy,hyk⟩:=Y3.mp z;rw[<-hyk];exact hkok y hy
     .show NX (Je (Jc (M6 i e.ky l' j)) d.key) <=R.sp;rw[habs2,Iw];exact htot
     .rw[hsk]at hes' hG4;have hn:=nxt (G2:=G4) es' R.ws (fun c o h u=>k4 c o (kp c o (hkp c o h u) (fun z=>?_) (fun z=>?_)) (fun z=>u (.inr (.inl z))) (fun z=>u (.inr (.inr (.inl z))))) hR4 fun x g=>?_
      .rw[hes']at hn;exact q0 _ l G4 hn hG4
      .rcases(hnw e he).1 with⟨e0,h0,z1,_⟩|⟨z1,_⟩
       .exact u (.inr (.inr (.inr (.inr ⟨e0,h0,.inl (z.trans z1)⟩))))
       .rw[z,z1]at h;cases h
      .rcases(hnw e he).1 with⟨e0,h0,_,z1⟩|⟨_,z1⟩
       .exact u (.inr (.inr (.inr (.inr ⟨e0,h0,.inr (z.trans z1)⟩))))
       .rw[z,z1]at h;cases h
      .obtain⟨y,hy,rfl⟩:=Y3.mp (hsub x g);refine⟨y,hy,?_⟩
       split
       .exact⟨rfl,rfl,.inr hl0'⟩
       .exact⟨rfl,rfl,.inl rfl⟩
    .have hst:Mq R.ru e.rs d= .whole j:=by rw[Qa hs hu,<-ers,Y6 heq]
     rw[hst]at q0;have hI':Tq j:=by rw[ers];exact hcur.2.2.step _ hPG.ok
     obtain⟨en,b1,b2,b3,b4⟩:=hI'.iv.body heq;obtain⟨c1,c2,c3⟩:=hI'.body heq;refine⟨en,Tp j,b1,b2,b3,b4,fun m' b' l' G2 hb0 hl0 kp aa hA=>hN _ _ ?_⟩;clear unl hN N;have hl0':H l'=none:=hfree l' hl0;have hR3:=hG.goOn he kp aa;obtain⟨dx,fs,x1,x2,x3⟩:=hA;have ab:=kp tk _ htkG (fun z=>by obtain⟨_,_,hpe,_⟩:=hre.ex;rw[z,hpe]at htkG;cases htkG) (fun z=>by have:=hre.dk;rw[z,this]at htkG;cases htkG);refine JU fun N hN=>?_
     walk_at"rd";refine hN _ _ ?_;clear hN N;refine JU fun N hN=>?_
     walk_at"rd";refine⟨hR3.mt rfl,m,dr,df,dw,tk,{R with es:=M6 i e.ky l' j},d.key,rfl,hR3,ab,?_,fun G3 kp3 hG3=>hN _ _ ?_⟩
     .show d.key∈(M6 i e.ky l' j).map (·.ky);rw[CG (·.ky) (fun _ _ _=>rfl)];exact Y3.mpr ⟨e,he,hek⟩
     clear hN N;have off3:∀{c:WX} {o:HO},G2 c=some o->(∀kvs,o≠ .dT kvs)->G3 c=some o:=fun h n=>kp3 _ _ h (fun z=>by rw[z,hR3.dR]at h;cases h;exact n _ rfl) (fun z=>by rw[z,hR3.dF]at h;cases h;exact n _ rfl)
     have y1:=off3 x1 (fun _ z=>nomatch z);have y3:=off3 x3 (fun _ z=>nomatch z);have htk3:=off3 ab (fun _ z=>nomatch z);walk_at"rd";refine⟨_,_,_,y1,LW.cl,icW,_,ww,?_⟩;rw[Y6 rfl];have hwl':(GL R.ws).length=R.ws.length:=Y1 ..;refine⟨_,Ca L hG3,_,IS L hG3,dw,rfl,Na d.key,_,hG3.dW,htk3,DK (show(GL R.ws).length <=100000 by omega),fun G4 b4 e4=>?_⟩;have e4':G4 dw=some (.dT (GL (Ml R.ws d.key R.now))):=by rw[<-eV];exact e4
     have off4:∀{c:WX} {o:HO},G3 c=some o->(∀kvs,o≠ .dT kvs)->G4 c=some o:=fun h n=>b4 _ _ h (fun z=>by rw[z,hG3.dW]at h;cases h;exact n _ rfl)
     have z1:=off4 y1 (fun _ z=>nomatch z);have z3:=off4 y3 (fun _ z=>nomatch z);have htk4:=off4 htk3 (fun _ z=>nomatch z);refine⟨_,JC.of htk4,_,rfl,_,JC.of htk4,_,rfl,_,JC.of htk4,_,rfl,_,⟨m',CW,dx,fs,rfl,z1,LW.cl,LW.na,x2⟩,?_⟩;refine⟨⟨d.nu,d.z1,d.z2,Tp j,false⟩,b',rfl,rfl,⟨hPG.ok.n0,hPG.ok.n1,hPG.ok.k1,hPG.ok.k2,c1,c2,c3⟩,z3,fun pl bl G5 hpl hbl s5 hL=>⟨N0 (by simp),fun t G6 ht s6 e6=>⟨N0 (by simp),fun l G7 hl s7 e7=>?_⟩⟩⟩;have s57:=s5.trans (s6.trans s7);obtain⟨dxm,fsm,hm3,hlm,hfm⟩:=hG3.ex;have hG4:Jg C CR G4 m dr df dw {R with es:=Nl (M6 i e.ky l' j) d.key,ws:=Ml R.ws d.key R.now}:=
      ⟨⟨dxm,fsm,off4 hm3 (fun _ z=>nomatch z),hlm,hfm⟩,b4 dr _ hG3.dR hR.n2,b4 df _ hG3.dF hR.n3,e4',hR.n1,hR.n2,hR.n3,fun x g=>(hG3.rd x g).offD (fun c o h n=>b4 c o h n) hG3.dW,hG3.np,hG3.na,hG3.nk⟩
     have k04:MS R m dr df dw H G4:=fun c o h u=>by
      refine b4 c o (kp3 c o (kp c o (hkp c o h u) (fun z=>?_) (fun z=>?_)) (fun z=>u (.inr (.inl z))) (fun z=>u (.inr (.inr (.inl z))))) (fun z=>u (.inr (.inr (.inr (.inl z)))))
      .rcases(hnw e he).1 with⟨e0,h0,z1,_⟩|⟨z1,_⟩
       .exact u (.inr (.inr (.inr (.inr ⟨e0,h0,.inl (z.trans z1)⟩))))
       .rw[z,z1]at h;cases h
      .rcases(hnw e he).1 with⟨e0,h0,_,z1⟩|⟨_,z1⟩
       .exact u (.inr (.inr (.inr (.inr ⟨e0,h0,.inr (z.trans z1)⟩))))
       .rw[z,z1]at h;cases h
     have hn:=nxt (G2:=G7) (Nl (M6 i e.ky l' j) d.key) (Ml R.ws d.key R.now) (fun c o h u=>s57 c o (k04 c o h u)) (hG4.mono s57) fun x g=>?_
     .rw[Zd,Qr R.now (Y3.mpr ⟨e,he,rfl⟩),habs,hek,SO,Iw]at hn;refine q0 _ l t pl bl G7 hn e7 (s7 _ _ e6) (hL.mono (s6.trans s7)) fun ys h=>?_
      rw[k04 _ _ h (hR.lstN h)]at hbl;cases hbl
     .obtain⟨y,hy,rfl⟩:=Y3.mp (Yf.mp g).1;refine⟨y,hy,?_⟩
      split
      .exact⟨rfl,rfl,.inr hl0'⟩
      .exact⟨rfl,rfl,.inl rfl⟩
   walk_at"rd";refine⟨_,QW L hG,rfl,?_⟩
   by_cases hru:R.ru="refuse"
   .rw[Y5 (by rw[show({R with es:=i}:Nf).ru=R.ru from rfl,hru];simp)];exact k6 fun z=>absurd hru z
   .rw[Y6 (by simpa using hru)];refine⟨PM hre,e.p,e.a,e.l,q,b,R.ru,e.rs,d,rfl,hre,hPG,_,rfl,Mp (fun hs=>?_) fun hs=>k6 fun _=>by simpa using hs⟩;refine⟨N0 (by simp),fun t G2 ht s2 e2=>⟨N0 (by simp),fun l G3 hl s3 e3=>?_⟩⟩;have hst:Mq R.ru e.rs d= .str:=by unfold Mq;rw[Y6 hs,Y5 hru]
    rw[hst]at q0;have s23:=s2.trans s3;have hn:=nxt i R.ws (fun c o h u=>s23 c o (hkp c o h u)) (hG.mono s23) fun x g=>⟨x,g,rfl,rfl,.inl rfl⟩
    rw[habs]at hn;exact q0 _ l t tk G3 hn e3 (s3 _ _ e2) (s23 _ _ htkG)
  refine JU fun N3 hN3=>?_
  walk_at"rd";have hkn:=hR.nk;have erl:(D3 R.es).length=R.es.length:=Y1 ..;have efl:(Dm R.es).length=R.es.length:=Y1 ..;refine⟨_,Ea L hR1,.inr (.inr (.inl ⟨rfl,.inr ⟨_,hR1.dR⟩⟩)),_,QW L hR1,R.ru,rfl,fun p a l G2 hp2 ha2 hl2 s2 hRd=>?_⟩;have aa:=hR1.mono s2;have ab:=s2 _ _ e1;refine⟨dr,rfl,Na d.key,_,aa.dR,ab,DK (by omega),fun v hv=>hN3 _ _ ?_,fun hv G3 b3 e3=>hN3 _ _ ?_⟩ <;> clear hN3 N3
  .have hmem:d.key∈R.es.map (·.ky):=by
    by_cases h:d.key∈R.es.map (·.ky)
    .exact h
    .rw[jU h]at hv;cases hv
   obtain⟨e,he,hek⟩:=Y3.mp hmem;have hek:e.ky=d.key:=hek;rw[<-hek,Eu hkn he]at hv;cases hv;walk_at"rd";refine⟨_,AX L aa,.inr (.inr (.inl ⟨rfl,.inr ⟨_,aa.dF⟩⟩)),_,Ca L aa,df,rfl,Na d.key,_,aa.dF,ab,DK (by omega),fun v hv=>?_,fun hv=>?_⟩
   .refine go R.es e G2 aa (fun c o h _=>s2 c o (s1 c o h)) he hek (by rw[<-hek];exact(Lv hkn he).symm) ?_ (fun x g=>⟨.inl ⟨x,g,rfl,rfl⟩,.inl ⟨x,g,rfl⟩⟩) (fun x g=>⟨x,g,rfl,rfl⟩) (hP1.mono s2) ab;rw[<-hek,Lv hkn he,KG hkn he]
   .rw[<-hek,By hkn he]at hv;cases hv
  .have hmem:d.key∉R.es.map (·.ky):=fun h=>by
    obtain⟨e,he,hek⟩:=Y3.mp h;have hek:e.ky=d.key:=hek;rw[<-hek,Eu hkn he]at hv;cases hv
   have hm3:∀o,G2 m=some o->G3 m=some o:=fun o h=>b3 m o h nm1
   have hf3:=b3 df _ aa.dF (Ne.symm hR.n1);have htk3:=b3 tk _ ab (Ja ab aa.dR nofun);walk_at"rd";refine⟨_,aa.fldO hm3 L.cl L.firsts rfl,.inr (.inr (.inl ⟨rfl,.inr ⟨_,hf3⟩⟩)),_,aa.fldO hm3 L.cl L.now rfl,df,rfl,Na d.key,_,hf3,htk3,DK (by omega),fun v hv=>?_,fun _ G4 b4 e4=>?_⟩
   .rw[yG hmem]at hv;cases hv
   .have kp:∀c o,G2 c=some o->c≠dr->c≠df->G4 c=some o:=fun c o h n1 n2=>b4 c o (b3 c o h n1) n2
    have off2:∀{p' a' l':WX} {rs:RS},NH CR G2 p' a' l' R.ru rs->NH CR G4 p' a' l' R.ru rs:=fun h=>
     (h.offD (G:=G3) (fun c o h n=>b3 c o h n) aa.dR).offD (G:=G4) (fun c o h n=>b4 c o h n) hf3
    obtain⟨dx,fs,hm,hl,hf⟩:=aa.ex;have np':∀x∈R.es,x.p≠p/\x.a≠a:=fun x g=>by
     have r:=hR1.rd x g;obtain⟨_,_,hxp,_⟩:=r.ex;exact⟨NI hxp hp2,NI r.dk ha2⟩
    have nd:∀{β:Type} (f:RE->β),(R.es.map f).Nodup->(∀x∈R.es,f x≠f (⟨d.key,p,a,l,Gk,R.now⟩:RE))->((R.es++[(⟨d.key,p,a,l,Gk,R.now⟩:RE)]).map f).Nodup:=fun f h1 h2=>by
     rw[List.map_append,Xd];refine⟨h1,by simp,fun x g y hy z=>?_⟩;obtain⟨x0,hx0,rfl⟩:=Y3.mp g;have:y=f (⟨d.key,p,a,l,Gk,R.now⟩:RE):=by simpa using hy
     exact h2 x0 hx0 (by rw[<-this];exact z)
    refine go (R.es++[(⟨d.key,p,a,l,Gk,R.now⟩:RE)]) ⟨d.key,p,a,l,Gk,R.now⟩ G4 ⟨⟨dx,fs,kp m _ hm nm1 nm2,hl,hf⟩,?_,?_,kp dw _ aa.dW (Ne.symm hR.n2) (Ne.symm hR.n3),hR.n1,hR.n2,hR.n3,fun x g=>?_,nd (·.p) hR.np fun x g=>(np' x g).1,nd (·.a) hR.na fun x g=>(np' x g).2,nd (·.ky) hR.nk fun x g z=>hmem (Y3.mpr ⟨x,g,z⟩)⟩ (fun c o h u=>?_) (by simp) rfl (Hi hmem).symm ?_ (fun x g=>?_) (fun x g=>⟨x,XV _ g,rfl,rfl⟩) ?_ (kp tk _ ab (Ja ab aa.dR nofun) (Ja ab aa.dF nofun))
    .show G4 dr=some (.dT (D3 (R.es++[(⟨d.key,p,a,l,Gk,R.now⟩:RE)])));rw[b4 dr _ e3 hR.n1];unfold D3;rw[List.map_append];rfl
    .show G4 df=some (.dT (Dm (R.es++[(⟨d.key,p,a,l,Gk,R.now⟩:RE)])));rw[e4];unfold Dm;rw[List.map_append];rfl
    .rcases Yp.mp g with z|z
     .exact off2 (aa.rd x z)
     .rw[Yb.mp z];exact off2 hRd
    .exact kp c o (s2 c o (s1 c o h)) (fun z=>u (.inr (.inl z))) (fun z=>u (.inr (.inr (.inl z))))
    .unfold Ju;rw[Y5 (by rw[Ha];exact hmem),Hi hmem];unfold Jc;rw[List.map_append];rfl
    .rcases Yp.mp g with z|z
     .exact⟨.inl ⟨x,z,rfl,rfl⟩,.inl ⟨x,z,rfl⟩⟩
     .rw[Yb.mp z];exact⟨.inr ⟨s1.free hp2,s1.free ha2⟩,.inr (s1.free hl2)⟩
    .have hP2:=hP1.mono s2;obtain⟨dxq,fsq,hq⟩:=hP2.ins;exact⟨hP2.ok,hP2.ats.same fun o h=>kp q o h (Ja hq aa.dR nofun) (Ja hq aa.dF nofun),kp b _ hP2.bd (Ja hP2.bd aa.dR nofun) (Ja hP2.bd aa.dF nofun)⟩
theorem Jg.setNow{C CR m dr df dw dx:WX}{H G:Hp}{R:Nf}{fs:List (Str×V)}{t:Int}(h:Jg C CR H m dr df dw R)(hm:H m=some (.ins C dx fs))(b:Nj m H G)(e:G m=some (.ins C dx (NO "now" (.int t) fs))):Jg C CR G m dr df dw {R with now:=t}:=by
 obtain⟨dx',fs',c,hl,hf⟩:=h.ex;rw[hm]at c;cases c;obtain⟨p,n,j,i⟩:=h.ne;have g:fs.lookup ("now":Str)=some (.int R.now):=by rw[hf];rfl
 refine⟨⟨dx,_,e,by rw[A1 g];exact hl,fun f=>?_⟩,b _ _ h.dR (Ne.symm p),b _ _ h.dF (Ne.symm n),b _ _ h.dW (Ne.symm j),h.n1,h.n2,h.n3,fun x s=>?_,h.np,h.na,h.nk⟩
 .by_cases hfn:f="now"
  .subst hfn;rw[MM];rfl
  .rw[JB hfn,hf f];show List.lookup f (EB R dr df dw)=List.lookup f (EB {R with now:=t} dr df dw);have hb:(f==("now":Str))=false:=Xl.mpr hfn;simp only[EB,Uj,hb]
 .obtain⟨n1,n2,_⟩:=i x s;have r:=h.rd x s;obtain⟨w,u,hp,y⟩:=r.ex;obtain⟨xs,a,hc⟩:=r.cv;exact⟨⟨w,u,b _ _ hp (Ne.symm n1),y⟩,b _ _ r.dk (Ne.symm n2),xs,b _ _ a (Ja a hm nofun),hc.tk fun t ys q=>b _ _ q (Ja q hm nofun)⟩
theorem Nz.neM{C CR CP m dr df dw q b:WX}{H:Hp}{R:Nf}{d:PD}(h:Jg C CR H m dr df dw R)(k:Nz CP H q b d):q≠m/\b≠m/\¬ET R m dr df dw q/\¬ET R m dr df dw b:=by
 obtain⟨dx,fs,n,_,hf⟩:=h.ex;obtain⟨r,fs',a,p,_⟩:=k.ats;have c:=k.bd;have j:q≠m:=fun z=>by
  rw[z,n]at a;cases a;rw[hf]at p;cases p
 have i:b≠m:=Ja c n nofun;refine⟨j,i,fun z=>?_,fun z=>?_⟩
 .rcases z with z|z|z|z|⟨e,he,z⟩
  .exact j z
  .exact Ja a h.dR nofun z
  .exact Ja a h.dF nofun z
  .exact Ja a h.dW nofun z
  .obtain⟨g,_,f,_⟩:=(h.rd e he).ne k;rcases z with z|z
   .exact g z
   .exact f z
 .rcases z with z|z|z|z|⟨e,he,z⟩
  .exact i z
  .exact Ja c h.dR nofun z
  .exact Ja c h.dF nofun z
  .exact Ja c h.dW nofun z
  .obtain⟨_,g,_,f⟩:=(h.rd e he).ne k;rcases z with z|z
   .exact g z
   .exact f z
theorem MS.tup{C CR m dr df dw c:WX}{H G:Hp}{R:Nf}{xs:List V}(h:Jg C CR H m dr df dw R)(k:MS R m dr df dw H G)(hc:H c=some (.tup xs)):G c=some (.tup xs):=by
 refine k c _ hc fun z=>?_
 obtain⟨dx,fs,b,_⟩:=h.ex;rcases z with z|z|z|z|⟨e,he,z⟩
 .rw[z,b]at hc;cases hc
 .rw[z,h.dR]at hc;cases hc
 .rw[z,h.dF]at hc;cases hc
 .rw[z,h.dW]at hc;cases hc
 .have r:=h.rd e he;obtain⟨_,_,a,_⟩:=r.ex;rcases z with z|z
  .rw[z,a]at hc;cases hc
  .rw[z,r.dk]at hc;cases hc
def E9(ps:List (Int×Ky)):List Ev:=ps.map fun p=>.gone p.2 "wait"
def GT(R:Nf)(t:Int):Nf:={R with now:=t,es:=A4 {R with now:=t}}
theorem M3.evs{CL:WX}{G:Hp}{l:WX}{ps:List (Int×Ky)}(h:M3 G l (ps.map (·.2)) "wait"):EM CL G l (E9 ps):=by
 obtain⟨n,h1,h2,i⟩:=h;rw[Y1]at h1;refine⟨_,h2,by unfold E9;rw[Y1,Y1,h1],fun j x y a b=>?_⟩;unfold E9 at b;rw[Y9]at a b;obtain⟨t,f,rfl⟩:=Ye.mp a;obtain⟨p,g,rfl⟩:=Ye.mp b;obtain⟨e,c⟩:=i j t p.2 f (by rw[Y9,g];rfl);exact⟨t.1,t.2,rfl,e,c⟩
theorem yF(out:Str)(sp:Int)(own:Ky)(n:Nat):∀xs:List AE,(Jx out sp own n xs).2.length <=n:=by
 induction n with
 |zero=>intro xs;exact Y8 _
 |succ n ih=>
  intro xs;unfold Jx
  split
  .exact Ys _
  .exact Up (ih _)
theorem Sw(R:Nf)(d:PD):(Ny R d).2.2.length <=(Jc R.es).length+ 2:=by
 unfold Ny
 split
 .exact VI _ _
 .split
  .exact VI _ _
  .exact VI _ _
  .rename_i rs _
   show(List.map _ _).length <=_;rw[Y1];unfold GP;have h1:=yF R.out R.sp d.key ((Ju (Jc R.es) d.key rs R.now).length+ 1) (Ju (Jc R.es) d.key rs R.now);have h2:=PR (Jc R.es) d.key rs R.now;omega
  .exact VI _ _
inductive KM(C CR CP CL:WX)(vs:List V)(H:Hp)(Q:VK)(E:XK):Prop|mk (m dr df dw q b:WX) (R:Nf) (d:PD) (t:Int) (_:vs=[.ref m,.int t,.ref q]) (_:Jg C CR H m dr df dw R) (_:Nz CP H q b d) (_:R.now <=t) (_:R.es.length < 64) (_:R.ws.length <=1000) (_:(∀e∈R.es,e.rs.st.length <=10000/\e.rs.cv.length <=800/\Tq e.rs)) (_:NX (Je (Jc (GT R t).es) d.key) <=R.sp) (_:(∀e∈R.es,Tb e.ky)) (_:∀ (ps:List (Int×Ky)) R' l G,ps.Perm (DG {R with now:=t})->ps.Pairwise (fun a b=>JR b a=false)->H l=none->ML C CR H G m dr df dw {R with now:=t} R' (Ny (GT R t) d).1 (Ny (GT R t) d).2.1->E6 CL H G l (E9 ps++(Ny (GT R t) d).2.2)->(∀e∈R'.es,e.l≠l)->Q (.ref l) G)
abbrev HS:Stmt:=M8 (top 44) 1
theorem S0:Nm ["self","time","piece","events"] ["self","time","piece"] (J8 HS):=by walk_at"e"
theorem yE{f C CR CP CL:WX}{fd:WR}(F:Nx K "come" "Room.come" HS f fd)(L:My K C)(LP:GO K CP)(B:Bt mg)(gC_Piece:mg "Piece"=some (.ref CP))(ic_Piece:Bx K CP)
  (Nu:T9 P w K mg base C "check_time" 3 ["self","time"] [] (LZ C CR)) (ND:T9 P w K mg base C "end_waits" 2 ["self"] [] (Kw C CR)) (T4:T9 P w K mg base C "take_in" 8 ["self","piece"] [] (O2 C CR CP CL)):Jj P w K mg base JZ 9 f fd ["self","time","piece"] (KM C CR CP CL):=by
 have cl_Piece:=LP.cl;refine F.ok S0 (fun vs H Q E h=>?_) (fun cdv A outer s H vs Q E hr h=>?_)
 .obtain⟨m,dr,df,dw,q,b,R,d,t,rfl,_⟩:=h;rfl
 .obtain⟨m,dr,df,dw,q,b,R,d,t,rfl,hR,hP,ht,hel,hwl,hes,qt,qk,q0⟩:=h;refine⟨_,(Jp (Mv (DH (J9 0) Nu hr.m (Jk 1 Jf))) (Jp (NB (D0 (Mj (NP (bC (K:=K) rfl cl_Piece ic_Piece) B.isinstance (Jk 2 (JM (hs:=Gv) (B4 (v:=.ref CP) rfl gC_Piece rfl) Jf))))) RL NU) (Jp (Dc (K:=K) rfl (J9 0) (J9 1) rfl) (Jp (T6 3 S0 (MA (J9 0) ND hr.m)) (Jp (Mv (D5 (K:=K) rfl YM PySem.F.slot_list_extend PySem.F.type_list_extend (dP nE) (J9 3) (MU (DH (J9 0) T4 hr.m (Jk 2 Jf)) Jf))) (Jz (N8 (J9 3)))))))),?_⟩;obtain⟨dxq,fsq,hq⟩:=hP.ins;obtain⟨dx,fs,hm,hl,hf⟩:=hR.ex;obtain⟨nqm,nbm,nq,nb⟩:=Nz.neM hR hP;obtain⟨nm1,nm2,nm3,nme⟩:=hR.ne;refine JU fun N hN=>?_
  walk_at"rd";refine⟨hR.mt rfl,m,dr,df,dw,R,t,rfl,hR,ht,hN _ _ ?_⟩;clear hN N;refine JU fun N hN=>?_
  walk_at"rd";refine⟨dxq,fsq,hq,hN _ _ ?_⟩;clear hN N;refine JU fun N hN=>?_
  walk_at"rd";refine⟨C,dx,fs,hm,L.cl,L.now,by omega,fun G1 b1 e1=>hN _ _ ?_⟩;clear hN N;have i:=hR.setNow hm b1 e1;have hP1:=hP.but b1 nqm nbm;refine JU fun N hN=>?_
  walk_at"rd";refine⟨i.mt rfl,m,dr,df,dw,{R with now:=t},rfl,i,hel,fun ps l G2 hpp hps g k2 hR2 hE=>hN _ _ ?_⟩;clear hN N;walk_at"rd";have hR2:Jg C CR G2 m dr df dw (GT R t):=hR2;have hl0:H l=none:=b1.free g (Ne.symm (NI e1 g));have hst:∀e∈(GT R t).es,e∈R.es:=fun e u=>(Yf.mp u).1
  obtain⟨dxq1,fsq1,hq1⟩:=hP1.ins;have hP2:Nz CP G2 q b d:=⟨hP1.ok,hP1.ats.same fun o h=>k2 q o h (Ja hq1 i.dR nofun) (Ja hq1 i.dF nofun),k2 b _ hP1.bd (Ja hP1.bd i.dR nofun) (Ja hP1.bd i.dF nofun)⟩;obtain⟨xs0,e2,hx0⟩:=(hE.evs:EM CL G2 l (E9 ps));have el:∀e∈R.es,e.l≠l:=fun e u=>by
   obtain⟨ys,hy,_⟩:=(i.rd e u).cv;exact NI hy g
  have nl:¬ET (GT R t) m dr df dw l:=fun z=>by
   rcases z with z|z|z|z|⟨e,u,z⟩
   .rw[z,e1]at g;cases g
   .rw[z,i.dR]at g;cases g
   .rw[z,i.dF]at g;cases g
   .rw[z,i.dW]at g;cases g
   .have r:=i.rd e (hst e u);obtain⟨_,_,hpe,_⟩:=r.ex;rcases z with z|z
    .rw[z,hpe]at g;cases g
    .rw[z,r.dk]at g;cases g
  have hxl:xs0.length <=1000:=by
   have h1:ps.length=(List.filter (NM {R with now:=t}) R.es).length:=hpp.length_eq.trans (Y1 ..);have h2:=YE (NM {R with now:=t}) R.es;have h3:xs0.length=ps.length:=hx0.1.trans (Y1 ..);have h2:(List.filter (NM {R with now:=t}) R.es).length <=R.es.length:=h2;omega
  refine⟨.inl ⟨rfl,_,Jh.of e2⟩,hR2.mt rfl,m,dr,df,dw,q,b,GT R t,d,rfl,hR2,hP2,?_,hwl,fun e u=>hes e (hst e u),qt,fun e u=>qk e (hst e u),fun R' l3 G3 hn hE3=>?_⟩
  .have:=YE (fun e=> !NM {R with now:=t} e) R.es;show(List.filter (fun e=> !NM {R with now:=t} e) R.es).length <=900;omega
  obtain ⟨xs3, e3, hx3⟩ := hE3;have hl3 : G3 l = some (.lst xs0) := hn.kp l _ e2 nl;have hx0' : Pw (Fk CL G2 G3) xs0 (E9 ps) := ⟨hx0.1, fun j x y a b => by
   have h1 := hx0.2 j x y a b;unfold E9 at b;rw [Y9] at b;obtain ⟨p, hp, rfl⟩ := Ye.mp b;obtain ⟨t1, tk, z1, z2, z3⟩ := h1;exact ⟨t1, tk, z1, hn.kp.tup hR2 z2, hn.kp.tup hR2 z3⟩⟩
  have hal:(Jc (GT R t).es).length <=R.es.length:=by
   unfold Jc;rw[Y1];exact YE _ _
  have hlen3:xs3.length <=66:=by
   rw[hx3.1];have:=Sw (GT R t) d;omega
  refine⟨l3,rfl,_,hl3,_,e3,YF (show _ <=1066 by omega) (N0 (n:=1066) (by decide)),fun G4 b4 e4=>?_⟩;have hnl:∀e∈R'.es,e.l≠l:=fun e u=>by
   rcases hn.nl e u with⟨e0,h0,z⟩|z
   .rw[z];exact el e0 (hst e0 h0)
   .exact fun q=>by rw[q,e2]at z;cases z
  refine q0 ps R' l G4 hpp hps hl0 ?_ ⟨_,e4,(hx0'.app hx3).imp fun x y h=>?_⟩ hnl
  .have frm:∀{c:WX},G2 c=none->H c=none:=fun {c} hc=>by
    cases h:H c with
    |none=>rfl
    |some o=>
     by_cases hcm:c=m
     .rw[hcm]at hc;obtain⟨_,_,z,_⟩:=hR2.ex;rw[z]at hc;cases hc
     .by_cases h1:c=dr
      .rw[h1,hR2.dR]at hc;cases hc
      .by_cases h2:c=df
       .rw[h2,hR2.dF]at hc;cases hc
       .rw[k2 c o (b1 c o h hcm) h1 h2]at hc;cases hc
   refine⟨fun c o h hc=>b4 c o (hn.kp c o (k2 c o (b1 c o h fun z=>hc (.inl z)) (fun z=>hc (.inr (.inl z))) (fun z=>hc (.inr (.inr (.inl z))))) (fun z=>hc ?_)) (NI h hl0),hn.ok.butL b4 hl3 hnl,hn.es,hn.ws',hn.pr,fun e u=>?_,fun e u=>?_⟩
   .rcases z with z|z|z|z|⟨e,u,z⟩
    .exact .inl z
    .exact .inr (.inl z)
    .exact .inr (.inr (.inl z))
    .exact .inr (.inr (.inr (.inl z)))
    .exact .inr (.inr (.inr (.inr ⟨e,hst e u,z⟩)))
   .rcases hn.nw e u with⟨e0,h0,z⟩|⟨z1,z2⟩
    .exact .inl ⟨e0,hst e0 h0,z⟩
    .exact .inr ⟨frm z1,frm z2⟩
   .rcases hn.nl e u with⟨e0,h0,z⟩|z
    .exact .inl ⟨e0,hst e0 h0,z⟩
    .exact .inr (frm z)
  .have k4:∀{c:WX} {xs:List V},G3 c=some (.tup xs)->G4 c=some (.tup xs):=fun {c xs} h=>b4 c _ h (Ja h hl3 nofun)
   cases y with
   |gone k w=>obtain⟨t1,tk,z1,z2,z3⟩:=h;exact⟨t1,tk,z1,k4 z2,k4 z3⟩
   |late k=>obtain⟨t1,tk,z1,z2,z3⟩:=h;exact⟨t1,tk,z1,k4 z2,k4 z3⟩
   |strange k=>obtain⟨t1,tk,z1,z2,z3⟩:=h;exact⟨t1,tk,z1,k4 z2,k4 z3⟩
   |whole d'=>
    obtain⟨t1,pl,bl,z1,z2,hL,hnb⟩:=h;obtain⟨dxL,fsL,hpl⟩:=hL.ins;have nbl:bl≠l:=fun z=>by
     have hbl:=hL.bd;rw[z,hl3]at hbl;injection hbl with hbl;injection hbl with hbl;have h1:=hL.ok.l1;have hlt:0 < d'.ns.length:=h1;have ex:xs0[0]?=some (.int d'.ns[0]):=by rw[hbl,Y9,Y4 hlt];rfl
     obtain⟨y,hy,hR'⟩:=hx0'.get ex;unfold E9 at hy;rw[Y9]at hy;obtain⟨p,_,rfl⟩:=Ye.mp hy;obtain⟨_,_,z1,_⟩:=hR';cases z1
    refine⟨t1,pl,bl,z1,k4 z2,⟨hL.ok,hL.ats.same fun o e=>b4 pl o e (Ja hpl hl3 nofun),b4 _ _ hL.bd nbl⟩,fun ys h=>?_⟩;have h1:=b1 bl _ h (Ja h hm nofun);exact hnb ys (k2 bl _ h1 (Ja h1 i.dR nofun) (Ja h1 i.dF nofun))
end
theorem nK(es:List RE):(D3 es).map (·.1)=(es.map (·.ky)).map fun k=>[Sum.inl k.1,Sum.inr k.2.1,Sum.inr k.2.2]:=by
 unfold D3;rw[Yw,Yw];rfl
section
variable{P:WP}{w:WU}{K:WV}{mg:WL}{base:J6}
def D2(G:Hp)(l:WX)(ks:List Ky):Prop:=∃ts:List Addr,ts.length=ks.length/\G l=some (.lst (ts.map V.ref))/\∀ (i:Nat) t k,ts[i]?=some t->ks[i]?=some k->G t=some (.tup (Th k))
inductive Ak(C CR:WX)(vs:List V)(H:Hp)(Q:VK)(E:XK):Prop|mk (m dr df dw:WX) (R:Nf) (_:vs=[.ref m]) (_:Jg C CR H m dr df dw R) (_:R.es.length < 64) (_:∀ (ks:List Ky) l G,ks.Perm (R.es.map (·.ky))->ks.Pairwise (fun a b=>Mw b a=false)->H l=none->Jb H G->D2 G l ks->Q (.ref l) G)
abbrev IP:Stmt:=M8 (top 44) 3
theorem nS:Nm ["self"] ["self"] (J8 IP):=by walk_at"e"
theorem Zm{f C CR:WX}{fd:WR}(F:Nx K "kept" "Room.kept" IP f fd)(L:My K C)(B2:ER mg):Jj P w K mg base JZ 1 f fd ["self"] (Ak C CR):=by
 refine F.ok nS (fun vs H Q E h=>?_) (fun cdv A n s H vs Q E x h=>?_)
 .obtain⟨m,dr,df,dw,R,rfl,_⟩:=h;rfl
 .obtain⟨m,dr,df,dw,R,rfl,j,z,q⟩:=h;refine⟨_,(Jz (N8 (NP (ZC rfl (Room.units x)) B2.sorted (D8 (No K (J9 0)) Jf)))),?_⟩;walk_at"rd";refine⟨_,Ea L j,dr,rfl,_,j.dR,R.es.map (·.ky),nK _,by rw[Y1];exact z,fun ks p l G y u e r g c e1=>?_⟩;exact q ks l G y u g c ⟨p,e,e1,fun i t k a b=>c _ _ (r i t k a b)⟩
inductive KP(C CR:WX)(vs:List V)(H:Hp)(Q:VK)(E:XK):Prop|mk (m dr df dw t:WX) (R:Nf) (e:RE) (_:vs=[.ref m,.ref t]) (_:Jg C CR H m dr df dw R) (_:H t=some (.tup (Th e.ky))) (_:Tb e.ky) (_:e∈R.es) (_:∀G,Jb H G->Q (.int e.first) G)
abbrev Lj:Stmt:=M8 (top 44) 6
theorem gW:Nm ["self","key"] ["self","key"] (J8 Lj):=by walk_at"e"
theorem x8{f C CR:WX}{fd:WR}(F:Nx K "since" "Room.since" Lj f fd)(L:My K C)(Nv:T9 P w K mg base C "check_kept" 5 ["self","key"] [] (Lh C CR)):Jj P w K mg base JZ 6 f fd ["self","key"] (KP C CR):=by
 refine F.ok gW (fun vs H Q E h=>?_) (fun r A n s H vs Q E i h=>?_)
 .obtain⟨m,dr,df,dw,t,R,e,rfl,_⟩:=h;rfl
 .obtain⟨m,dr,df,dw,t,R,e,rfl,a,g,p,j,q⟩:=h;refine⟨_,(Jp (Mv (DH (J9 0) Nv i.m (Jk 1 Jf))) (Jz (N8 (GX i (No K (J9 0)) (J9 1))))),?_⟩;walk_at"rd";refine⟨a.mt rfl,m,dr,df,dw,t,R,e.ky,rfl,a,g,p,Y3.mpr ⟨e,j,rfl⟩,fun G c=>?_⟩;have b:=a.mono c;exact⟨_,AX L b,_,rfl,_,.inr ⟨_,Na e.ky,t,.inl b.dF,rfl,c _ _ g,(By a.nk j).symm⟩,q G c⟩
inductive Ii(K:WV)(vs:List V)(H:Hp)(Q:VK)(E:XK):Prop|mk (a:WX) (ns:WY) (k:Nat) (_:vs=[.ref a,.int (k:Int)]) (_:Jh K H a (ns.map V.int)) (_:∀c,Q (.int c) H)
abbrev Kx:Stmt:=top 46
theorem jP:Nm ["_law_script","_law_k"] ["_law_script","_law_k"] (J8 Kx):=by walk_at"e"
theorem gZ{f:WX}{fd:WR}(F:Nx K "_law_cell_at" "_law_cell_at" Kx f fd)(B:Bt mg):Jj P w K mg base JZ 1 f fd ["_law_script","_law_k"] (Ii K):=by
 refine F.ok jP (fun vs H Q E h=>?_) (fun j A g s H vs Q E n h=>?_)
 .obtain⟨a,b,k,rfl,_⟩:=h;rfl
 .obtain⟨a,b,k,rfl,c,q⟩:=h;refine⟨_,(Jp (NB (NT (NG Bf) (J9 1) (NP (Da (Dd (K:=K) rfl)) B.len (Jk 0 Jf))) (Jz (N8 (De K (J9 0) (J9 1)))) NU) (Jz (N8 Jt))),?_⟩;walk_at"rd";refine⟨_,.inl c,Mp (fun e=>?_) (fun e=>q 0)⟩;rw[Ya,Y1]at e;have i:k < b.length:=by omega
  exact⟨_,c,.int b[k],Be (by rw[Y9,Y4 i];rfl),q _⟩
inductive Ct(vs:List V)(H:Hp)(Q:VK)(E:XK):Prop|mk (c k:Int) (_:vs=[.int c,.int k]) (_:0 <=k) (_:k <=100000) (_:∀m:Int,0 <=m->m < 2147483399->Q (.int m) H)
abbrev KZ:Stmt:=top 47
theorem L1:Nm ["_law_cell","_law_k","_law_number"] ["_law_cell","_law_k"] (J8 KZ):=by walk_at"e"
theorem wR{f:WX}{fd:WR}(F:Nx K "_law_mixed" "_law_mixed" KZ f fd):Jj P w K mg base JZ 1 f fd ["_law_cell","_law_k"] Ct:=by
 refine F.ok L1 (fun vs H Q E h=>?_) (fun e A a s H vs Q E g h=>?_)
 .obtain⟨c,k,rfl,_⟩:=h;rfl
 .obtain⟨c,k,rfl,i,h1,q⟩:=h;refine⟨_,(Jp (T6 2 L1 (N6 (dI Mu) (N6 (dI Ei) (N6 (NG Mz) (N6 (NG Mz) (N6 (dI Mu) (J9 0) Jt) (N6 (dI Ei) Jt (J9 1))) Jt) Jt) Jt)) (Jp (T6 2 L1 (N6 (dI Mu) (N6 (dI Ei) (J9 2) (N6 (NG Mz) (N6 (dI BN) (J9 2) Jt) Jt)) Jt)) (Jz (N8 (N6 (dI Mu) (N6 (dI Ei) (N6 (NG Mz) (J9 2) (N6 (dI Ei) Jt (J9 1))) (N6 (NG Mz) (N6 (dI BN) (J9 2) Jt) Jt)) Jt))))),?_⟩;walk_at"rd";have b:∀x y:Int,Rf (x%2147483647+ 7*k) y:=fun x y=>.inl ⟨by omega,by omega⟩
  refine⟨by decide,.inl ⟨by decide,by decide⟩,.inr ⟨by decide,by decide⟩,by decide,⟨by decide,by decide⟩,bU _ _,by decide,.inl ⟨by decide,by decide⟩,⟨by decide,by decide⟩,b _ _,by decide,?_⟩;exact q _ (UX _ (by decide)) (Ux _ (by decide))
inductive Pk(vs:List V)(H:Hp)(Q:VK)(E:XK):Prop|mk (c:Int) (n:Nat) (_:vs=[.int c,.int (n:Int)]) (_:n <=10) (_:∀l (xs:WY) G,H l=none->Jb H G->G l=some (.lst (xs.map V.int))->xs.length=n->(∀x∈xs,0 <=x/\x < 5040)->Q (.ref l) G)
abbrev KC:Stmt:=top 48
theorem A5:Nm ["_law_cell","_law_many","_law_found","_law_left","_law_k"] ["_law_cell","_law_many"] (J8 KC):=by walk_at"e"
theorem uW{f:WX}{fd:WR}(F:Nx K "_law_digits" "_law_digits" KC f fd)(B:Bt mg)(TD:Tk P w K mg base "_law_mixed" 1 ["_law_cell","_law_k"] [] Ct):Jj P w K mg base JZ 2 f fd ["_law_cell","_law_many"] Pk:=by
 refine F.ok A5 (fun vs H Q E h=>?_) (fun cdv A outer s H vs Q E hr h=>?_)
 .obtain⟨c,n,rfl,_⟩:=h;rfl
 .obtain⟨c,n,rfl,hn,q⟩:=h;refine⟨_,(Jp (T6 2 A5 (TZ Jf)) (Jp (T6 3 A5 (N6 (dI BN) (J9 0) Jt)) (Jp (RF Xq rfl (BA rfl B.range (Jk 1 Jf)) (MB 4 A5) (Jp (GI (NB (PW.pt (Rl (NT (MI MG) (N6 (dI Mu) (J9 0) Jt) Jt) (RI (NT (NG E3) (J9 3) Jt)))) (Jz (Mv (D5 (K:=K) rfl YM YR YS (R4 GQ) (J9 2) (JM (hs:=DR) (N6 (dI Mu) (J9 3) Jt) Jf)))) (Jz (Mv (D5 (K:=K) rfl YM YR YS (R4 GQ) (J9 2) (JM (hs:=DR) (N6 (dI Mu) (T7 TD hr.m rfl (Jk 0 (Jk 4 Jf))) Jt) Jf)))))) (Jz (T6 3 A5 (N6 (dI BN) (J9 3) Jt))))) (Jz (N8 (J9 2)))))),?_⟩;walk_at"rd";refine⟨N0 (by simp),fun p G hp s0 hG=>⟨⟨by decide,by decide⟩,by omega,by omega,?_⟩⟩;rw[X7];obtain⟨Pv,r⟩:∃Pv:Nat->L2.St->Hp->Prop,Pv=fun i σ' G=>∃ (a:Int) (v:Option V) (xs:WY),σ'=[some (.int c),some (.int (n:Int)),some (.ref p),some (.int a),v]/\Jb H G/\G p=some (.lst (xs.map V.int))/\xs.length=i/\∀x∈xs,0 <=x/\x < 5040:=⟨_,rfl⟩
  refine LH Pv (by rw[r];exact⟨_,_,[],rfl,s0,hG,rfl,fun _ h=>nomatch h⟩) ?_ ?_ <;> rw[r]
  .rintro i σ' u hi ⟨a,v,xs,rfl,s1,h1,hl,hx⟩;rw[<-r];have hi6:i < n:=hi;walk_at"rd";refine⟨by decide,rfl,fun σ' G'=>∃ (x:Int) (v:Option V),σ'=[some (.int c),some (.int (n:Int)),some (.ref p),some (.int a),v]/\Jb H G'/\G' p=some (.lst ((xs++[x]).map V.int))/\0 <=x/\x < 5040,?_,?_⟩
   .have j:∀{x:Int} {g:Hp},Nj p u g->g p=some (.lst (xs.map V.int++[.int x]))->Jb H g/\g p=some (.lst ((xs++[x]).map V.int)):=fun b e=>⟨s1.butNew b hp,by rw[e,List.map_append];rfl⟩
    have big:(xs.map V.int).length < sizeLine:=DK (by rw[Y1];omega);have ty:BI K "list" (.ref p) u:=.inl ⟨rfl,_,Jh.of h1⟩
    have mx : BI K "list" (.ref p) u /\ Ct [V.int c, V.int (0 + ↑i)] u (fun x H1 => ∃ m, x = V.int m /\ (0 : Int) < 5040 /\ ∃ ys, H1 p = some (HO.lst ys) /\ ys.length < sizeLine /\ ∀ (G : Hp), Nj p H1 G -> G p = some (HO.lst (ys ++ [V.int (m % 5040)])) ->
      ∃ (x : Int) (v' : Option V), [some (V.int c), some (V.int (n : Int)), some (V.ref p), some (V.int a), some (V.int (0 + ↑i))] = [some (.int c), some (.int (n : Int)), some (.ref p), some (.int a), v'] /\ Jb H G /\ G p = some (.lst ((xs ++ [x]).map V.int)) /\ 0 <= x /\ x < 5040) E0 :=
     ⟨ty,c,_,rfl,by omega,by omega,fun m m0 m1=>⟨m,rfl,by decide,_,h1,big,fun g b2 e2=>⟨m%5040,_,rfl,(j b2 e2).1,(j b2 e2).2,by omega,by omega⟩⟩⟩
    refine Mp (fun _=>Mp (fun _=>?_) fun _=>mx) fun _=>mx
    exact⟨ty,by decide,_,h1,big,fun g b2 e2=>⟨a%5040,_,rfl,(j b2 e2).1,(j b2 e2).2,by omega,by omega⟩⟩
   .rintro σ2 g ⟨x,v',rfl,s2,h2,x0,x1⟩;walk_at"rd";refine⟨⟨by decide,by decide⟩,?_⟩;rw[r];refine⟨_,_,xs++[x],rfl,s2,h2,by rw[Yl,hl];rfl,fun y hy=>?_⟩;rcases Yp.mp hy with z|z
    .exact hx y z
    .rw[Yb.mp z];exact⟨x0,x1⟩
  .rintro σ' u ⟨a,v,xs,rfl,s1,h1,hl,hx⟩;walk_at"rd";exact q p xs u hp s1 h1 hl hx
def Nk:List (Int×Str×Str):=[(7,"ann","bo"),(7,"ann","bob"),(7,"bo","ann"),(8,"ann","bo"),(70,"an","bo"),(0,"a","a"),(65535,"zzzzzzzz","b")]
def DM(n:Int):Int×Str×Str:=Nk.getD (n%7).toNat (0,"a","a")
def HX(k:Int×Str×Str):List V:=[.int k.1,.str k.2.1,.str k.2.2]
inductive Q6(vs:List V)(H:Hp)(Q:VK)(E:XK):Prop|mk (n:Int) (_:vs=[.int n]) (_:∀t G,H t=none->Jb H G->G t=some (.tup (HX (DM n)))->Q (.ref t) G)
theorem Ew{x y z:V}{σ:L2.St}{H:Hp}{Q:VK}(h:∀p G,H p=none->Jb H G->G p=some (.tup [x,y,z])->Q (.ref p) G):CO (DN (tC x) (DN (tC y) (DN (tC z) Ru))) σ H Q:=⟨N0 (by simp),h⟩
abbrev L8:Stmt:=top 49
theorem PU:Nm ["_law_digit","_law_some"] ["_law_digit"] (J8 L8):=by walk_at"e"
theorem ZI{f:WX}{fd:WR}(F:Nx K "_law_key" "_law_key" L8 f fd):Jj P w K mg base JZ 1 f fd ["_law_digit"] Q6:=by
 refine F.ok PU (fun vs H Q E h=>?_) (fun cdv A outer s H vs Q E hr h=>?_)
 .obtain⟨n,rfl,_⟩:=h;rfl
 .obtain⟨n,rfl,q⟩:=h;refine⟨_,(@Jp _ _ _ _ _ (@B0 _ _ 1 _ _ _ _ (PU).nd rfl (Or.inl rfl) (@TZ _ _ _ _ (@JM _ _ _ _ _ (@Mn _ _ _ _ _ (@JM _ _ _ _ _ (@Jt _ _ _ _) (@JM _ _ _ _ _ (@NY _ _ _ _) (@JM _ _ _ _ _ (@NY _ _ _ _) Jf MX) MX) MX)) (@JM _ _ _ _ _ (@Mn _ _ _ _ _ (@JM _ _ _ _ _ (@Jt _ _ _ _) (@JM _ _ _ _ _ (@NY _ _ _ _) (@JM _ _ _ _ _ (@NY _ _ _ _) Jf MX) MX) MX)) (@JM _ _ _ _ _ (@Mn _ _ _ _ _ (@JM _ _ _ _ _ (@Jt _ _ _ _) (@JM _ _ _ _ _ (@NY _ _ _ _) (@JM _ _ _ _ _ (@NY _ _ _ _) Jf MX) MX) MX)) (@JM _ _ _ _ _ (@Mn _ _ _ _ _ (@JM _ _ _ _ _ (@Jt _ _ _ _) (@JM _ _ _ _ _ (@NY _ _ _ _) (@JM _ _ _ _ _ (@NY _ _ _ _) Jf MX) MX) MX)) (@JM _ _ _ _ _ (@Mn _ _ _ _ _ (@JM _ _ _ _ _ (@Jt _ _ _ _) (@JM _ _ _ _ _ (@NY _ _ _ _) (@JM _ _ _ _ _ (@NY _ _ _ _) Jf MX) MX) MX)) Jf Dv) Dv) Dv) Dv) Dv)) (by rfl) (Or.inl rfl)) (@Jz _ _ _ (@N8 _ _ _ _ (@Ia _ _ _ _ _ _ _ (Qt (K:=K) rfl) (@N6 _ _ _ _ _ _ _ _ AC (pv 1) (@TZ _ _ _ _ (@JM _ _ _ _ _ (@Mn _ _ _ _ _ (@JM _ _ _ _ _ (@Jt _ _ _ _) (@JM _ _ _ _ _ (@NY _ _ _ _) (@JM _ _ _ _ _ (@NY _ _ _ _) Jf MX) MX) MX)) (@JM _ _ _ _ _ (@Mn _ _ _ _ _ (@JM _ _ _ _ _ (@Jt _ _ _ _) (@JM _ _ _ _ _ (@NY _ _ _ _) (@JM _ _ _ _ _ (@NY _ _ _ _) Jf MX) MX) MX)) Jf Dv) Dv))) (@N6 _ _ _ _ _ _ _ _ Mu (pv 0) (@Jt _ _ _ _)) (fun _ _=>rfl))))),?_⟩;refine JU fun N hN=>?_
  simp only[Eg,Ax,DN,Ru,Gs,L2.start,List.map_cons,List.map_nil,List.length_cons,List.length_nil,Nat.reduceAdd,Nat.reduceSub,List.replicate,List.cons_append,List.nil_append,List.append_nil,List.set_cons_zero,List.set_cons_succ];refine Ew fun p1 G1 h1 z e1=>Ew fun p2 G2 h2 y e2=>Ew fun p3 G3 h3 u e3=>Ew fun p4 G4 h4 r e4=>Ew fun p5 G5 h5 j e5=>⟨N0 (by simp),fun l G6 hl c e6=>hN _ _ ?_⟩
  clear hN N;simp only[C4,GN,As,tC,Ax,DN,Ru,List.getElem?_cons_zero,List.getElem?_cons_succ,Option.some.injEq,exists_eq_left',exists_eq_left];refine Ew fun p6 G7 h7 s7 e7=>Ew fun p7 G8 h8 s8 e8=>⟨N0 (by simp),fun l2 G9 hl2 x e9=>?_⟩
  walk_at"rd";have b:=s7.trans (s8.trans x);refine⟨_,b _ _ e6,_,e9,N0 (by simp),fun l3 i hl3 a e10=>⟨by decide,_,Jh.of e10,?_⟩⟩;have sT:Jb H i:=z.trans (y.trans (u.trans (r.trans (j.trans (c.trans (b.trans a))))));have key:∀p,(∃G',G' p=none/\Jb H G')->(i p=some (.tup (HX (DM n))))->Q (.ref p) i:=fun p ⟨G',e,s'⟩ h=>q p i (s'.free e) sT h
  have hm:n%7=0\/n%7=1\/n%7=2\/n%7=3\/n%7=4\/n%7=5\/n%7=6:=by omega
  have t1:=y.trans (u.trans (r.trans (j.trans (c.trans (b.trans a)))));have t2:=u.trans (r.trans (j.trans (c.trans (b.trans a))));have t3:=r.trans (j.trans (c.trans (b.trans a)));have t4:=j.trans (c.trans (b.trans a));have t5:=c.trans (b.trans a);have t6:=s8.trans (x.trans a);have t7:=x.trans a;have sa:=z.trans y;have sb:=sa.trans u;have sc:=sb.trans r;have sd:=sc.trans j;have se:=sd.trans c;have sf:=se.trans s7;have g:∀m:Nat,n%7=(m:Int)->DM n=Nk.getD m (0,"a","a"):=fun m h=>by unfold DM;rw[h];rfl
  rcases hm with h|h|h|h|h|h|h <;> rw[h]
  .exact⟨_,rfl,key p1 ⟨H,h1,Jb.refl _⟩ (by rw[g 0 h];exact t1 _ _ e1)⟩
  .exact⟨_,rfl,key p2 ⟨G1,h2,z⟩ (by rw[g 1 h];exact t2 _ _ e2)⟩
  .exact⟨_,rfl,key p3 ⟨G2,h3,sa⟩ (by rw[g 2 h];exact t3 _ _ e3)⟩
  .exact⟨_,rfl,key p4 ⟨G3,h4,sb⟩ (by rw[g 3 h];exact t4 _ _ e4)⟩
  .exact⟨_,rfl,key p5 ⟨G4,h5,sc⟩ (by rw[g 4 h];exact t5 _ _ e5)⟩
  .exact⟨_,rfl,key p6 ⟨G6,h7,se⟩ (by rw[g 5 h];exact t6 _ _ e7)⟩
  .exact⟨_,rfl,key p7 ⟨G7,h8,sf⟩ (by rw[g 6 h];exact t7 _ _ e8)⟩
inductive QK(vs:List V)(H:Hp)(Q:VK)(E:XK):Prop|mk (c k:Int) (_:vs=[.int c,.int k]) (_:0 <=k) (_:k <=100) (_:∀l (ns:WY) G,H l=none->Jb H G->G l=some (.lst (ns.map V.int))->1 <=ns.length->ns.length <=40->(∀x∈ns,0 <=x/\x <=255)->Q (.ref l) G)
abbrev Cq:Stmt:=top 50
theorem OP:Nm ["_law_cell","_law_k","_law_many"] ["_law_cell","_law_k"] (J8 Cq):=by walk_at"e"
theorem gB{f:WX}{fd:WR}(F:Nx K "_law_body" "_law_body" Cq f fd)(B:Bt mg)(TD:Tk P w K mg base "_law_mixed" 1 ["_law_cell","_law_k"] [] Ct):Jj P w K mg base JZ 2 f fd ["_law_cell","_law_k"] QK:=by
 refine F.ok OP (fun vs H Q E h=>?_) (fun cdv A y s H vs Q E p h=>?_)
 .obtain⟨c,k,rfl,_⟩:=h;rfl
 .obtain⟨c,k,rfl,h0,h1,q⟩:=h;refine⟨_,(Jp (T6 2 OP (N6 (NG Mz) Jt (N6 (dI Mu) (T7 TD p.m rfl (Jk 0 (Jk 1 Jf))) Jt))) (Jz (N8 (Dz (N':=["_law_j","_law_cell","_law_k"]) (caps:=[none,some 0,some 1]) (MW (sc:=J8 Cq) (N:=["_law_cell","_law_k","_law_many"]) rfl rfl (by decide +kernel)) rfl (BA rfl B.range (Jk 2 Jf)) (fun _ _ _ _ _=>(Ms (i:=0) (MY (N:=["_law_j","_law_cell","_law_k"]) rfl (by decide +kernel)) rfl (Or.inl rfl))) (fun _ _ _ _ _=>GS) (fun _ _ _ _ _=>(N6 (dI Mu) (N6 (dI BN) (T7 TD p.m rfl (Jk 1 (JM (hs:=DR) (N6 (NG Mz) (N6 (NG Mz) (N6 (dI Ei) Jt (J9 2)) Jt) (J9 0)) Jf))) Jt) Jt)))))),?_⟩;walk_at"rd";refine⟨c,k,rfl,h0,by omega,fun m m0 m1=>⟨_,rfl,by decide,by omega,by omega,?_⟩⟩;obtain⟨n,hn⟩:∃n:Nat,(1+ m%40).toNat=n:=⟨_,rfl⟩;rw[hn];obtain⟨j,b⟩:∃j:Nat->List V->L2.St->Hp->Prop,j=fun i ys σ' G=>∃ (a:WY) (v:Option V),ys=a.map V.int/\a.length=i/\(∀x∈a,0 <=x/\x <=255)/\σ'=[v,some (.int c),some (.int k)]/\G=H:=⟨_,rfl⟩
  refine Lo j (by rw[b];exact⟨[],none,rfl,rfl,(fun _ h=>nomatch h),rfl,rfl⟩) ?_ (N0 (by omega)) ?_ ?_ <;> rw[b]
  .rintro i ys σ' G ⟨a,v,rfl,g,_⟩ _;rw[Y1];omega
  .rintro i ys σ' G hi ⟨a,v,rfl,g,e,rfl,rfl⟩;rw[<-b];walk_at"rd";refine⟨.inl ⟨by decide,by decide⟩,c,_,rfl,by omega,by omega,fun m' a0 a1=>⟨_,rfl,⟨by decide,by decide⟩,by decide,?_⟩⟩;rw[b];refine⟨a++[m' / 7%256],_,by rw[List.map_append];rfl,by simp[g],fun x hx=>?_,rfl,rfl⟩;rcases Yp.mp hx with z|z
   .exact e x z
   .rw[Yb.mp z];omega
  .rintro ys σ' G ⟨a,v,rfl,g,e,rfl,rfl⟩ l G2 r s2 u;exact q l a G2 r s2 u (by omega) (by omega) e
structure R6(H:Hp)(t tk b:WX)(d:PD):Prop where
 ok:d.Ok
 k:d.k=false
 tp:H t=some (.tup [.ref tk,.int d.at',.ref b,.bl d.mo])
 ky:H tk=some (.tup (HX d.key))
 bd:H b=some (.lst (d.ns.map V.int))
theorem Qv(n:Int):0 <=(DM n).1/\(DM n).1 <=65535/\T8 (DM n).2.1/\T8 (DM n).2.2:=by
 have h:∀m:_root_.Fin 7,0 <=(Nk.getD m.val (0,"a","a")).1/\(Nk.getD m.val (0,"a","a")).1 <=65535/\T8 (Nk.getD m.val (0,"a","a")).2.1/\T8 (Nk.getD m.val (0,"a","a")).2.2:=by
  unfold T8
  decide +kernel
 exact h ⟨(n%7).toNat,by omega⟩
theorem rF{n k:Nat}(h:k < n):R3 n (k:Int)=some k:=by
 unfold R3;rw[Y6 (by omega),Y6 (by omega)];rfl
structure QZ(A L:Nat)(lo:Nat)(ms:WY)(mo:Bool):Prop where
 l8:lo%8=0
 lA:lo+ ms.length <=A
 m1:1 <=ms.length
 mL:ms.length <=L
 by':∀x∈ms,0 <=x/\x <=255
 m8:mo=true->ms.length%8=0
inductive PP(vs:List V)(H:Hp)(Q:VK)(E:XK):Prop|mk (l lg:WX) (bs:List Addr) (xs:WY) (_:vs=[.ref l,.ref lg]) (_:H l=some (.lst (bs.map V.ref))) (_:1 <=bs.length) (_:bs.length <=7) (_:(∀b∈bs,∃ns:List Int,H b=some (.lst (ns.map V.int))/\1 <=ns.length/\ns.length <=40/\∀x∈ns,0 <=x/\x <=255)) (_:H lg=some (.lst (xs.map V.int))) (_:6 <=xs.length) (_:(∀x∈xs,0 <=x/\x < 5040)) (_:∀t tk b d G i,H t=none->H tk=none->H b=none->Jb H G->R6 G t tk b d->d.key=DM i->0 <=i->i < bs.length->d.ns.length <=41->d.at'+ d.ns.length <=49->Q (.ref t) G)
abbrev Hs:Stmt:=top 51
theorem Rq:Nm ["_law_bodies","_law_digits_here","_law_at","_law_body_here","_law_low","_law_high","_law_some","_law_more","_law_way"] ["_law_bodies","_law_digits_here"] (J8 Hs):=by walk_at"e"
theorem x9{f:WX}{fd:WR}(F:Nx K "_law_piece" "_law_piece" Hs f fd)(B:Bt mg)(Ri:Tk P w K mg base "_law_key" 1 ["_law_digit"] [] Q6):Jj P w K mg base JZ 2 f fd ["_law_bodies","_law_digits_here"] PP:=by
 refine F.ok Rq (fun vs H Q E h=>?_) (fun cdv A outer s H vs Q E hr h=>?_)
 .obtain⟨l,lg,bs,xs,rfl,_⟩:=h;rfl
 .obtain⟨l,lg,bs,xs,rfl,hl,hb1,hb2,hbs,aa,hx6,hx,q⟩:=h;refine⟨_,(Jp (T6 2 Rq (N6 (dI Mu) (De K (J9 1) Jt) (NP (Da (Dd (K:=K) rfl)) B.len (Jk 0 Jf)))) (Jp (T6 3 Rq (De K (J9 0) (J9 2))) (Jp (T6 4 Rq (N6 (dI Ei) Jt (N6 (dI Mu) (De K (J9 1) Jt) (N6 (dI BN) (N6 (NG Mz) (NP (Da (Dd (K:=K) rfl)) B.len (Jk 3 Jf)) Jt) Jt)))) (Jp (T6 5 Rq (NP (Lp rfl) B.min (MU (NP (Da (Dd (K:=K) rfl)) B.len (Jk 3 Jf)) (JM (hs:=DR) (N6 (NG Mz) (J9 4) (N6 (dI Ei) Jt (N6 (NG Mz) Jt (N6 (dI Mu) (De K (J9 1) Jt) Jt)))) Jf)))) (Jp (T6 6 Rq (Rb (SJ (OD (K:=K) rfl)) rfl B.blist (by rfl) (MV (QP (Si (QS (K:=K) rfl)) (J9 3) (Iq (J9 4)) (Iq (J9 5))) Jf))) (Jp (T6 7 Rq (MQ (NG Bf) (J9 5) (NP (Da (Dd (K:=K) rfl)) B.len (Jk 3 Jf)) (Dh _))) (Jp (T6 8 Rq (N6 (dI Mu) (De K (J9 1) Jt) Jt)) (Jp (GI (NB (NT (MI MG) (J9 8) Jt) (Jz (Cy (N6 (dI Mu) (De K (J9 1) Jt) Jt) (wJ (J9 6) (N6 (dI Mu) (De K (J9 1) Jt) (NP (Da (Dd (K:=K) rfl)) B.len (Jk 6 Jf))) dY))) NU)) (Jp (GI (NB (NT (MI MG) (J9 8) Jt) (Jz (T6 4 Rq (N6 (NG Mz) (J9 4) Jt))) NU)) (Jp (GI (NB (PW.pt (Rl (NT (MI MG) (J9 8) Jt) (RI (NT (MI MG) (N6 (dI Mu) (NP (Da (Dd (K:=K) rfl)) B.len (Jk 6 Jf)) Jt) Jt)))) (Jz (T6 7 Rq (OY (J9 7)))) NU)) (Jp (GI (NB (PW.pt (Rl (NT (MI MG) (J9 8) Jt) (RI (D0 (Mj (J9 7)))))) (Jz (Mv (D5 (K:=K) rfl YM YR YS (R4 GQ) (J9 6) (JM (hs:=DR) (N6 (dI Mu) (De K (J9 1) Jt) Jt) Jf)))) NU)) (Jp (GI (NB (PW.pt (Rl (NT (MI MG) (J9 8) Jt) (Rl (D0 (Mj (J9 7))) (RI (NT (NG E3) (NP (Da (Dd (K:=K) rfl)) B.len (Jk 6 Jf)) Jt))))) (Jz (Mv (P1 (K:=K) rfl YM PySem.F.slot_list_pop PySem.F.type_list_pop Zz (J9 6)))) NU)) (Jz (N8 (Mn (MU (T7 Ri hr.m rfl (Jk 2 Jf)) (Jk 4 (Jk 6 (Jk 7 Jf))))))))))))))))))),?_⟩;have hat:∀i:Nat,i < 6->∃x,Du (xs.map V.int) (i:Int)=some (.int x)/\0 <=x/\x < 5040:=fun i hi=>by
   have h:i < xs.length:=by omega
   exact⟨xs[i],Be (by rw[Y9,Y4 h];rfl),hx _ (Xk h)⟩
  obtain⟨x0,a0,b0,c0⟩:=hat 0 (by omega);obtain⟨x1,a1,b1,c1⟩:=hat 1 (by omega);obtain⟨x2,a2,b2,c2⟩:=hat 2 (by omega);obtain⟨x3,a3,b3,c3⟩:=hat 3 (by omega);obtain⟨x4,a4,b4,c4⟩:=hat 4 (by omega);obtain⟨x5,a5,b5,c5⟩:=hat 5 (by omega);have hlm:(bs.map V.ref).length=bs.length:=Y1 ..;refine JU fun N j=>?_
  walk_at"rd";refine⟨_,Jh.of aa,_,a0,_,.inl (Jh.of hl),_,rfl,by rw[hlm];omega,j _ _ ?_⟩;clear j N;rw[hlm];obtain⟨i,hi⟩:∃i:Nat,x0%(bs.length:Int)=i:=⟨(x0%(bs.length:Int)).toNat,by rw[WE (UX _ (by omega))]⟩;have hib:i < bs.length:=by have:=Ux x0 (show(0:Int) < bs.length by omega);omega
  rw[hi];obtain⟨ns,hns,n1,n2,n3⟩:=hbs bs[i] (Xk hib);have hnl:(ns.map V.int).length=ns.length:=Y1 ..;refine JU fun N j=>?_
  walk_at"rd";refine⟨_,Jh.of hl,_,Be (by rw[Y9,Y4 hib];rfl),j _ _ ?_⟩;clear j N;generalize bs[i]=b at hns;refine JU fun N j=>?_
  walk_at"rd";obtain⟨m,hm⟩:∃m:Nat,(ns.length+ 7) / 8=m:=⟨_,rfl⟩;have hmI:((ns.length:Int)+ 7) / 8=m:=by omega
  have e1:=UX x1 (show(m:Int)≠0 by omega);have e2:=Ux x1 (show(0:Int) < m by omega);obtain⟨r,hr1⟩:∃r:Nat,x1%(m:Int)=r:=⟨(x1%(m:Int)).toNat,by omega⟩;refine⟨_,Jh.of aa,_,a1,_,.inl (Jh.of hns),⟨by decide,by decide⟩,_,rfl,?_⟩;rw[hnl,hmI,hr1];have e3:(8:Int)*r=((8*r:Nat):Int):=by omega
  rw[e3];refine⟨by omega,.inl ⟨by decide,by decide⟩,j _ _ ?_⟩;clear j N;obtain⟨lo,hlo⟩:∃lo:Nat,8*r=lo:=⟨_,rfl⟩;rw[hlo];have hlt:lo < ns.length:=by omega
  refine JU fun N j=>?_
  walk_at"rd";obtain⟨hi,hhi⟩:∃hi:Nat,min ns.length (lo+ 8*(1+ (x2%3).toNat))=hi:=⟨_,rfl⟩;have hh1:lo < hi/\hi <=ns.length/\hi - lo <=24/\(hi=ns.length\/(hi - lo)%8=0):=by omega
  have ehi:(if(lo:Int)+ 8*(1+ x2%3) < (ns.length:Int) then(lo:Int)+ 8*(1+ x2%3) else(ns.length:Int))=hi:=by split <;> omega
  refine⟨_,.inl (Jh.of hns),_,Jh.of aa,_,a2,_,rfl,by decide,.inl ⟨by decide,by decide⟩,?_⟩;rw[hnl,ehi];refine j _ _ ?_;clear j N ehi;refine JU fun N j=>?_
  walk_at"rd";refine⟨_,Jh.of hns,fun l1 G1 hl1 s1 h1=>⟨_,.inl (Jh.of h1),fun ls G2 hls s2 h2=>j _ _ ?_⟩⟩;clear j N;rw[cH ns (U7 hh1.1) hh1.2.1]at h2;have s02:=s1.trans s2;have hls0:H ls=none:=s1.free hls;refine JU fun N j=>?_
  walk_at"rd";refine⟨_,.inl (Jh.of (s02 b _ hns)),?_⟩;rw[hnl];refine j _ _ ?_;clear j N;refine JU fun N j=>?_
  walk_at"rd";refine⟨_,Jh.of (s02 lg _ aa),_,a3,_,rfl,by decide,j _ _ ?_⟩;clear j N;obtain⟨mo,hmo⟩:∃mo:Bool,decide ((hi:Int) < ns.length)=mo:=⟨_,rfl⟩;obtain⟨g,hms⟩:∃g:List Int,(ns.drop lo).take (hi - lo)=g:=⟨_,rfl⟩;have hml:g.length=hi - lo:=by rw[<-hms,Yt,Vk];omega
  have n : QZ 40 24 lo g mo := ⟨by omega, by omega, by omega, by omega, fun x hx => n3 x (List.mem_of_mem_drop (Ug (by rw [hms]; exact hx))), fun h => by
   rw [h] at hmo;have := Xe hmo;omega⟩
  rw[hmo];rw[hms]at h2;clear hms hml hmo;obtain⟨u,hway⟩:∃u:Int,x3%24=u:=⟨_,rfl⟩;rw[hway];obtain⟨R,p⟩:∃R:Nat->Nat->L2.St->Hp->Prop,R=fun A L σ' G'=>∃ (lo:Nat) (g:WY) (mo:Bool),σ'=[some (.ref l),some (.ref lg),some (.int i),some (.ref b),some (.int lo),some (.int hi),some (.ref ls),some (.bl mo),some (.int u)]/\Jb H G'/\G' ls=some (.lst (g.map V.int))/\QZ A L lo g mo:=⟨_,rfl⟩
  have hR:R 40 24 [some (.ref l),some (.ref lg),some (.int i),some (.ref b),some (.int lo),some (.int hi),some (.ref ls),some (.bl mo),some (.int u)] G2:=by rw[p];exact⟨lo,g,mo,rfl,s02,h2,n⟩
  have lset:∀ (g:WY) (k:Nat) (y:Int),(g.map V.int).set k (.int y)=(g.set k y).map V.int:=fun g k y=>by rw[List.map_set]
  refine JU fun N j=>?_
  refine⟨R 40 24,?_,fun σa Ga ha=>j σa Ga ?_⟩
  .walk_at"rd";refine⟨rfl,Mp (fun _=>?_) fun _=>hR⟩;obtain⟨k,hk⟩:∃k:Nat,x4%((g.map V.int).length:Int)=k:=⟨(x4%((g.map V.int).length:Int)).toNat,by rw[WE (UX _ (by rw[Y1];have:=n.m1;omega))]⟩;have hk2:k < (g.map V.int).length:=by have:=Ux x4 (show(0:Int) < (g.map V.int).length by rw[Y1];have:=n.m1;omega);omega
   refine⟨_,Jh.of (s02 lg _ aa),_,a5,_,rfl,by decide,_,Jh.of (s02 lg _ aa),_,a4,_,.inl (Jh.of h2),_,rfl,by omega,_,h2,?_⟩;rw[hk];refine⟨k,rF hk2,fun G3 b3 e3=>?_⟩;rw[p];rw[lset]at e3;refine⟨lo,_,mo,rfl,s02.butNew b3 hls0,e3,⟨n.l8,by rw[UR];exact n.lA,by rw[UR];exact n.m1,by rw[UR];exact n.mL,fun x hx=>?_,by rw[UR];exact n.m8⟩⟩;rcases List.mem_or_eq_of_mem_set hx with z|z
   .exact n.by' x z
   .rw[z];omega
  clear j N hR n h2;refine JU fun N j=>?_
  refine⟨R 48 24,?_,fun σb Gb hb=>j σb Gb ?_⟩
  .rw[p]at ha;obtain⟨lo,g,mo,rfl,s,h,c⟩:=ha;walk_at"rd";refine⟨rfl,Mp (fun _=>?_) fun _=>?_⟩ <;> rw[p]
   .exact⟨lo+ 8,g,mo,by simp,s,h,⟨by have:=c.l8;omega,by have:=c.lA;omega,c.m1,c.mL,c.by',c.m8⟩⟩
   .exact⟨lo,g,mo,rfl,s,h,⟨c.l8,by have:=c.lA;omega,c.m1,c.mL,c.by',c.m8⟩⟩
  clear j N ha;refine JU fun N j=>?_
  refine⟨R 48 24,?_,fun σc Gc hc=>j σc Gc ?_⟩
  .rw[p]at hb;obtain⟨lo,g,mo,rfl,s,h,c⟩:=hb;have stay:R 48 24 [some (.ref l),some (.ref lg),some (.int i),some (.ref b),some (.int lo),some (.int hi),some (.ref ls),some (.bl mo),some (.int u)] Gb:=by rw[p];exact⟨lo,g,mo,rfl,s,h,c⟩
   walk_at"rd";refine⟨rfl,Mp (fun _=>⟨_,.inl (Jh.of h),by decide,rfl,Mp (fun h8=>?_) fun _=>stay⟩) fun _=>stay⟩;rw[p];rw[Ya,Y1]at h8;exact⟨lo,g,!mo,rfl,s,h,⟨c.l8,c.lA,c.m1,c.mL,c.by',fun _=>by omega⟩⟩
  clear j N hb;refine JU fun N j=>?_
  refine⟨R 49 25,?_,fun σd Gd hd=>j σd Gd ?_⟩
  .rw[p]at hc;obtain⟨lo,g,mo,rfl,s,h,c⟩:=hc;have stay:R 49 25 [some (.ref l),some (.ref lg),some (.int i),some (.ref b),some (.int lo),some (.int hi),some (.ref ls),some (.bl mo),some (.int u)] Gc:=by rw[p];exact⟨lo,g,mo,rfl,s,h,⟨c.l8,by have:=c.lA;omega,c.m1,by have:=c.mL;omega,c.by',c.m8⟩⟩
   walk_at"rd";refine⟨rfl,Mp (fun _=>Mp (fun hm=>?_) fun _=>stay) fun _=>stay⟩;refine⟨.inl ⟨rfl,_,Jh.of h⟩,_,Jh.of (s lg _ aa),_,a5,_,rfl,by decide,_,h,DK (by rw[Y1];have:=c.mL;omega),fun G3 b3 e3=>?_⟩;rw[p];refine⟨lo,g++[x5%256],mo,rfl,s.butNew b3 hls0,by rw[e3,List.map_append];rfl,⟨c.l8,by rw[Yl];have:=c.lA;simp;omega,by simp,by rw[Yl];have:=c.mL;simp;omega,fun x hx=>?_,fun z=>by rw[z]at hm;simp at hm⟩⟩;rcases Yp.mp hx with z|z
   .exact c.by' x z
   .rw[Yb.mp z];omega
  clear j N hc;refine JU fun N j=>?_
  refine⟨R 49 25,?_,fun σe Ge he=>j σe Ge ?_⟩
  .rw[p]at hd;obtain⟨lo,g,mo,rfl,s,h,c⟩:=hd;have stay:R 49 25 [some (.ref l),some (.ref lg),some (.int i),some (.ref b),some (.int lo),some (.int hi),some (.ref ls),some (.bl mo),some (.int u)] Gd:=by rw[p];exact⟨lo,g,mo,rfl,s,h,c⟩
   walk_at"rd";refine⟨rfl,Mp (fun _=>Mp (fun hm=>⟨_,.inl (Jh.of h),Mp (fun hl1=>?_) fun _=>stay⟩) fun _=>stay) fun _=>stay⟩;rw[Ya,Y1]at hl1;have hlast:(g.map V.int).length - 1 < (g.map V.int).length:=by rw[Y1];omega
   refine⟨.inl ⟨rfl,_,Jh.of h⟩,_,h,_,Y4 hlast,fun G3 b3 e3=>?_⟩;rw[p];refine⟨lo,g.dropLast,mo,rfl,s.butNew b3 hls0,by rw[e3,List.map_dropLast],⟨c.l8,by rw[UI];have:=c.lA;omega,by rw[UI];omega,by rw[UI];have:=c.mL;omega,fun x hx=>c.by' x (List.dropLast_subset _ hx),fun z=>by rw[z]at hm;simp at hm⟩⟩
  clear j N hd;rw[p]at he;obtain⟨lo,g,mo,rfl,s,h,c⟩:=he;walk_at"rd";refine⟨i,rfl,fun tk G3 htk s3 e3=>⟨N0 (by simp),fun t G4 ht s4 e4=>?_⟩⟩;obtain⟨d,ed⟩:∃d:PD,d=⟨(DM i).1,(DM i).2.1,(DM i).2.2,lo,g,mo,false⟩:=⟨_,rfl⟩;have dk:d.key=DM i:=by rw[ed];rfl
  have dok:d.Ok:=by
   obtain⟨k1,k2,k3,k4⟩:=Qv i;rw[ed];refine⟨k1,k2,k3,k4,c.m1,by have:=c.mL;show g.length <=4000;omega,c.by',by show(0:Int) <=lo;omega,by have:=c.l8;show(lo:Int)%8=0;omega,?_⟩;show Em lo g.length mo=true;have c1:=c.lA;have c2:=c.mL;unfold Em;cases mo with
   |true=>
    have:=c.m8 rfl;simp only[if_true,X5,Ya];omega
   |false=>simp only[Bool.false_eq_true,if_false,Ya];omega
  have dns:d.ns=g:=by rw[ed]
  have s34:=s3.trans s4;refine q t tk ls d G4 i (s.free (s3.free ht)) (s.free htk) hls0 (s.trans s34) ⟨dok,by rw[ed],?_,?_,by rw[dns];exact s34 _ _ h⟩ dk (by omega) (by omega) (by rw[dns];have:=c.mL;omega) (by rw[ed];have:=c.lA;show(lo:Int)+ (g.length:Int) <=49;omega)
  .rw[e4,ed]
  .rw[dk];exact s4 _ _ e3
end
theorem Qj{d:PD}(h:d.Ok):strange Gk d=false:=by
 obtain⟨c,b,a⟩:=h.end';unfold strange Gk;cases d.mo with
 |true=>rfl
 |false=>
  show decide (d.at'+ (d.ns.length:Int) <=0)=false;exact Yk (by omega)
theorem FJ(out:Str)(sp:Int)(own:Ky):∀ (n:Nat) (xs:List AE),(Jx out sp own n xs).1=xs.filter fun x=> !decide (x.1∈(Jx out sp own n xs).2)
 |0,xs=>by
  show xs=_;rw[X1.mpr fun x _=>by simp[Jx]]
 |n+ 1,xs=>by
  unfold Jx
  split
  .rw[X1.mpr fun x _=>by simp]
  .show(Jx out sp own n (Je xs (Mr out sp own xs))).1=_;rw[FJ out sp own n];show List.filter _ (List.filter _ _)=_;rw[XB];apply Xo;intro x _
   by_cases h1:x.1=Mr out sp own xs <;> by_cases h2:x.1∈(Jx out sp own n (Je xs (Mr out sp own xs))).2 <;> simp[h1,h2]
theorem Sy{xs:List AE}{k:Ky}(h:k∈xs.map (·.1)):(Je xs k).length < xs.length:=by
 obtain⟨x,a,e⟩:=Y3.mp h;unfold Je;refine Nat.lt_of_le_of_ne (YE _ _) fun z=>?_
 have:=X1.mp (YC.eq_of_length z) x a;simp[e]at this
theorem Pg{out:Str}{sp:Int}{own:Ky}:∀ (n:Nat) (xs:List AE),xs.length < n->(xs.map (·.1)).Nodup->own∈xs.map (·.1)\/NX xs <=sp->NX (Je xs own) <=sp->NX (Jx out sp own n xs).1 <=sp
 |0,xs,h,_,_,_=>by omega
 |n+ 1,xs,h,hn,ho,hl=>by
  unfold Jx
  split
  .assumption
  .rename_i ht
   have ho:=ho.resolve_right ht;have c:=Q8 (out:=out) (sp:=sp) ho fun b=>Ll hn (by omega) b
   have f:=Sy c;refine Pg n _ (by omega) (hn.sublist (Xy _ YC)) ?_ ?_
   .by_cases e:own=Mr out sp own xs
    .refine .inr ?_;rw[<-e];exact hl
    .refine .inl ?_;obtain⟨x,a,ex⟩:=Y3.mp ho;exact Y3.mpr ⟨x,Yf.mpr ⟨a,by rw[ex];simpa using e⟩,ex⟩
   .exact XA (Bm (List.Sublist.filter _ YC)) hl
theorem Bo{es:List RE}(hk:(es.map (·.ky)).Nodup){k:Ky}:(k∉es.map (·.ky)/\Np es k=Gk)\/∃e∈es,e.ky=k/\Np es k=e.rs:=by
 unfold Np;cases h:es.find? fun e=>decide (e.ky=k) with
 |none=>
  refine .inl ⟨fun z=>?_,rfl⟩;obtain⟨e,a,z⟩:=Y3.mp z;have:=Xz.mp h e a;simp[z]at this
 |some e=>exact .inr ⟨e,X9 h,by simpa using VF h,rfl⟩
theorem Ey(xs:List AE)(k:Ky)(rs:RS)(t:Int):(Ju xs k rs t).map (·.1)=if k∈xs.map (·.1) then xs.map (·.1) else xs.map (·.1)++[k]:=by
 unfold Ju
 split
 .rw[Yw];apply YI;intro x _;simp only[Function.comp]
  split
  .rename_i h;exact h.symm
  .rfl
 .rw[List.map_append];rfl
def Gr(j:Nat)(xs:List AE):Prop:=∀x∈xs,x.2.1.st.length <=41*j/\x.2.1.cv.length <=j/\Tq x.2.1
theorem Gr.up{i j:Nat}{xs:List AE}(h:Gr i xs)(hij:i <=j):Gr j xs:=fun x e=>by
 obtain⟨a,b,c⟩:=h x e;exact⟨by omega,by omega,c⟩
theorem Gr.fil{j:Nat}{xs:List AE}(h:Gr j xs)(p:AE->Bool):Gr j (xs.filter p):=fun x a=>h x (Yf.mp a).1
theorem Gr.cur{j:Nat}{es:List RE}(hk:(es.map (·.ky)).Nodup)(h:Gr j (Jc es))(k:Ky):(Np es k).st.length <=41*j/\(Np es k).cv.length <=j/\Tq (Np es k):=by
 rcases Bo hk (k:=k) with⟨_,z⟩|⟨e,he,_,z⟩
 .rw[z];exact⟨Ys _,Ys _,Tq.zero⟩
 .rw[z];exact h (e.ky,e.rs,e.first) (Y3.mpr ⟨e,he,rfl⟩)
theorem Gr.set{j:Nat}{xs:List AE}{k:Ky}{rs:RS}{now:Int}(h:Gr j xs)(hr:rs.st.length <=41*j/\rs.cv.length <=j/\Tq rs):Gr j (Ju xs k rs now):=fun x a=>by
 rcases QY a with z|z
 .exact h x z
 .rw[z];exact hr
theorem wP{j:Nat}{ru:Str}{rs rs':RS}{d:PD}(h:rs.st.length <=41*j/\rs.cv.length <=j/\Tq rs)(hd:d.Ok)(hl:d.ns.length <=41)(hs:Mq ru rs d= .keep rs'):rs'.st.length <=41*(j+ 1)/\rs'.cv.length <=j+ 1/\Tq rs':=by
 have e:rs'=Dj (decide (ru="last")) rs d:=by
  unfold Mq at hs
  split at hs
  .split at hs <;> cases hs
  .split at hs
   .cases hs
   .split at hs
    .cases hs
    .cases hs;rfl
 rw[e];refine⟨?_,?_,h.2.2.step _ hd⟩
 .have:=CH (decide (ru="last")) d.ns rs.st d.at';show(Ng (decide (ru="last")) rs.st d.at' d.ns).length <=_;omega
 .have:=OX rs.cv d.at' (d.at'+ d.ns.length);show(NQ rs.cv d.at' (d.at'+ d.ns.length)).length <=_;omega
theorem Cd{R:Nf}{k:Ky}{xs:List AE}{x:AE}(h:x∈(GP R k xs).1):x∈xs:=by
 unfold GP at h;rw[FJ]at h;exact(Yf.mp h).1
theorem uI{j:Nat}{R:Nf}{d:PD}(hk:(R.es.map (·.ky)).Nodup)(h:Gr j (Jc R.es))(hd:d.Ok)(hl:d.ns.length <=41):Gr (j+ 1) (Ny R d).1:=by
 have a:=h.cur hk d.key;unfold Ny
 split
 .exact h.up (X4 _)
 .cases hs:Mq R.ru (Np R.es d.key) d with
  |str=>exact(h.up (X4 _)).set ⟨by omega,by omega,a.2.2⟩
  |unl n=>exact(h.up (X4 _)).fil _
  |keep rs=>exact fun x b=>(h.up (X4 _)).set (wP a hd hl hs) x (Cd b)
  |whole rs=>exact(h.up (X4 _)).fil _
theorem j7{R:Nf}{d:PD}{ks:List Ky}(h:∀x∈Jc R.es,x.1∈ks)(hd:d.key∈ks):∀x∈(Ny R d).1,x.1∈ks:=by
 have c:∀rs,∀x∈Ju (Jc R.es) d.key rs R.now,x.1∈ks:=fun rs x a=>by
  unfold Ju at a
  split at a
  .obtain⟨y,e,rfl⟩:=Y3.mp a
   split
   .exact hd
   .exact h y e
  .rcases Yp.mp a with z|z
   .exact h x z
   .rw[Yb.mp z];exact hd
 have b:∀x∈Je (Jc R.es) d.key,x.1∈ks:=fun x a=>h x (Yf.mp a).1
 unfold Ny
 split
 .exact h
 .split
  .exact c _
  .exact b
  .exact fun x a=>c _ x (Cd a)
  .exact b
theorem ZX(R:Nf)(d:PD):(Ny R d).2.1.length <=R.ws.length+ 1:=by
 have a:(Ml R.ws d.key R.now).length <=R.ws.length+ 1:=by
  unfold Ml
  split
  .rw[Y1];omega
  .simp
 unfold Ny
 split
 .exact X4 _
 .split
  .exact X4 _
  .exact X4 _
  .exact X4 _
  .exact a
theorem cJ(xs:List AE)(k:Ky)(rs:RS)(t:Int):Je (Ju xs k rs t) k=Je xs k:=by
 have h:∀l:List AE,(l.map fun x=>if x.1=k then(k,rs,x.2.2) else x).filter (fun x=> !decide (x.1=k))=l.filter fun x=> !decide (x.1=k):=by
  intro l
  induction l with
  |nil=>rfl
  |cons x r ih=>
   rw[List.map_cons]
   by_cases hx:x.1=k
   .rw[Y6 hx,Us (by simp),Us (by simp[hx]),ih]
   .rw[Y5 hx,Ut (by simp[hx]),Ut (by simp[hx]),ih]
 unfold Ju
 split
 .exact h xs
 .unfold Je;rw[YZ];simp
theorem jI{R:Nf}{d:PD}(hk:(R.es.map (·.ky)).Nodup)(hd:d.Ok)(h:NX (Jc R.es) <=R.sp):NX (Ny R d).1 <=R.sp:=by
 have f:NX (Je (Jc R.es) d.key) <=R.sp:=XA (Bm YC) h;have c:((Jc R.es).map (·.1)).Nodup:=by rw[DP];exact hk
 unfold Ny
 split
 .exact h
 .cases hs:Mq R.ru (Np R.es d.key) d with
  |str=>
   rcases Bo hk (k:=d.key) with⟨_,z⟩|⟨e,he,ek,z⟩
   .rw[z]at hs;unfold Mq at hs;rw[Y5 (by rw[Qj hd];simp)]at hs
    split at hs
    .cases hs
    .split at hs <;> cases hs
   .show NX (Ju (Jc R.es) d.key (Np R.es d.key) R.now) <=_;rw[z,<-ek,KG hk he];exact h
  |unl n=>exact f
  |keep rs=>
   show NX (GP R d.key (Ju (Jc R.es) d.key rs R.now)).1 <=_;unfold GP;refine Pg _ _ (U1 _) ?_ (.inl ?_) (by rw[cJ];exact f)
   .rw[Ey]
    split
    .exact c
    .rename_i hn
     exact Xd.mpr ⟨c,by simp,fun a i b g z=>hn (by rw[<-Yb.mp g,<-z];exact i)⟩
   .rw[Ey]
    split
    .assumption
    .exact Yx _ (Yb.mpr rfl)
  |whole rs=>exact f
def Ro(ks:WY)(n:Int):List Int:=if n∈ks then ks else ks++[n]
def EF:List Int->Int->Nat->List Int
 |ks,_,0=>ks
 |ks,n,m+ 1=>EF (Ro ks n) (n+ 1) m
theorem uA{ks:WY}(n:Int)(h:ks.Nodup):(Ro ks n).Nodup:=by
 unfold Ro
 split
 .exact h
 .rename_i hk
  exact Xd.mpr ⟨h,by simp,fun u b v a e=>hk (by rw[Yb.mp a]at e;rw[<-e];exact b)⟩
theorem FR:∀ (m:Nat) {ks:WY} (n:Int),ks.Nodup->(EF ks n m).Nodup
 |0,_,_,h=>h
 |m+ 1,_,n,h=>FR m (n+ 1) (uA n h)
theorem d3{ks:WY}{n k:Int}:k∈Ro ks n↔k∈ks\/k=n:=by
 unfold Ro
 split
 .exact⟨.inl,fun h=>h.elim id fun e=>by rw[e];assumption⟩
 .rw[Yp,Yb]
theorem HN:∀ (m:Nat) {ks:WY} (n k:Int),k∈EF ks n m↔k∈ks\/n <=k/\k < n+ m
 |0,ks,n,k=>⟨.inl,fun h=>h.elim id fun e=>by omega⟩
 |m+ 1,ks,n,k=>by
  show k∈EF (Ro ks n) (n+ 1) m↔_;rw[HN m,d3];constructor
  .rintro((h|h)|h)
   .exact .inl h
   .exact .inr (by omega)
   .exact .inr (by omega)
  .rintro(h|h)
   .exact .inl (.inl h)
   .by_cases e:k=n
    .exact .inl (.inr e)
    .exact .inr (by omega)
theorem Od(n:Int):∀st:List (Int×Int),(N5 st n).isSome=decide (n∈st.map (·.1))
 |[]=>rfl
 |p::r=>by
  unfold N5;rw[YG]
  by_cases h:p.1=n
  .rw[Yh h];simp[h]
  .rw[Yk h];have ih:=Od n r;unfold N5 at ih;show((List.find? _ r).map _).isSome=_;rw[ih];have h':¬n=p.1:=fun e=>h e.symm
   simp[h']
theorem gY(st:List (Int×Int))(n b:Int):(GE st n b).map (·.1)=Ro (st.map (·.1)) n:=by
 have e:(st.any fun p=>decide (p.1=n))=decide (n∈st.map (·.1)):=by
  rw[YA,Ya,U4];constructor
  .rintro⟨x,a,h⟩;exact Y3.mpr ⟨x,a,Xe h⟩
  .intro h;obtain⟨x,a,h⟩:=Y3.mp h;exact⟨x,a,Yh h⟩
 unfold GE Ro;rw[e]
 by_cases h:n∈st.map (·.1)
 .rw[Y6 (Yh h),Y6 h,Yw];apply YI;intro x _;simp only[Function.comp]
  split <;> rfl
 .rw[Y5 (by rw[Ya];exact h),Y5 h,List.map_append];rfl
theorem Sa(la:Bool):∀ (bs:WY) (st:List (Int×Int)) (n:Int),(Ng la st n bs).map (·.1)=EF (st.map (·.1)) n bs.length
 |[],_,_=>rfl
 |b::bs,st,n=>by
  show(Ng la _ (n+ 1) bs).map (·.1)=EF (Ro (st.map (·.1)) n) (n+ 1) bs.length;rw[Sa la bs]
  congr 1
  split <;> rename_i hc
  .exact gY st n b
  .have h:n∈st.map (·.1):=by
    have:(N5 st n).isSome=true:=by
     rcases W7 (N5 st n).isSome with z|z
     .exact z
     .exact absurd (.inr z) hc
    rw[Od]at this;exact Xe this
   unfold Ro;rw[Y6 h]
def DE(rs:RS):List Int:=rs.st.map (·.1)
theorem FD(rs:RS):(DE rs).length=rs.st.length:=Y1 ..
theorem F6(la:Bool)(rs:RS)(d:PD):DE (Dj la rs d)=EF (DE rs) d.at' d.ns.length:=Sa la d.ns rs.st d.at'
def EE(out:Str)(own:Ky)(xs:List AE)(k:Ky):Prop:=∃q∈Mo out own xs,q.2=k/\∀q'∈Mo out own xs,JR q' q=false
theorem mU{out:Str}{sp:Int}{own:Ky}{xs:List AE}(hp:Mo out own xs≠[])(ho:out≠"own")(hs:M7 xs own <=sp):EE out own xs (Mr out sp own xs):=by
 unfold Mr EE;rw[Y5 (fun z=>z.elim ho fun z=>by omega)];cases e:Mo out own xs with
 |nil=>exact absurd e hp
 |cons y r=>
  obtain⟨h1,h2⟩:=F3 r y;exact⟨_,h1,rfl,h2⟩
theorem Gj{out:Str}{own:Ky}{xs:List AE}{q:Int×Ky}:q∈Mo out own xs↔∃x∈xs,x.1≠own/\q=(if out="oldest" then x.2.2 else -(x.2.1.st.length:Int),x.1):=by
 unfold Mo;rw[Y3];constructor
 .rintro⟨x,hx,rfl⟩;obtain⟨h1,h2⟩:=Yf.mp hx;exact⟨x,h1,by simpa using h2,rfl⟩
 .rintro⟨x,h1,h2,rfl⟩;exact⟨x,Yf.mpr ⟨h1,by simpa using h2⟩,rfl⟩
theorem C6{xs:List AE}{k j:Ky}(h:k≠j):M7 (Je xs j) k=M7 xs k:=by
 unfold M7 Je;rw[List.find?_filter]
 congr 3
 funext x
 by_cases hk:x.1=k
 .simp[hk,h]
 .simp[hk]
theorem mE{xs:List AE}{k:Ky}(h:k∉xs.map (·.1)):Je xs k=xs:=by
 unfold Je;refine X1.mpr fun x a=>?_
 have:x.1≠k:=fun e=>h (Y3.mpr ⟨x,a,e⟩)
 simpa using this
theorem HQ:∀{xs:List AE},(xs.map (·.1)).Nodup->∀{k:Ky},k∈xs.map (·.1)->NX xs=NX (Je xs k)+ M7 xs k
 |[],_,_,h=>nomatch h
 |x::r,hn,k,hk=>by
  obtain⟨h1,h2⟩:=Yv.mp hn
  by_cases e:x.1=k
  .have b:Je (x::r) k=r:=by
    have:=mE (xs:=r) (k:=k) (by rw[<-e];exact h1);unfold Je at this ⊢;rw[YQ,Y5 (by simpa using e)];exact this
   have a:M7 (x::r) k=x.2.1.st.length:=by
    unfold M7;rw[YG,Yh e];rfl
   rw[b,a];unfold NX;rw[List.map_cons,Xb];omega
  .have f:k∈r.map (·.1):=(Yo.mp hk).resolve_left fun z=>e z.symm
   have c:=HQ h2 f;have b:Je (x::r) k=x::Je r k:=by
    unfold Je;rw[YQ,Y6 (by simpa using e)]
   have a:M7 (x::r) k=M7 r k:=by
    unfold M7;rw[YG,Yk e]
   rw[b,a];unfold NX at c ⊢;rw[List.map_cons,Xb,List.map_cons,Xb];omega
def R1(xs:List AE)(ks:List Ky):List AE:=xs.filter fun x=> !decide (x.1∈ks)
theorem n5(xs:List AE)(k:Ky)(ks:List Ky):R1 xs (k::ks)=R1 (Je xs k) ks:=by
 unfold R1 Je;rw[XB];apply Xo;intro x _
 by_cases h1:x.1=k <;> by_cases h2:x.1∈ks <;> simp[h1,h2]
theorem gX(xs:List AE):R1 xs []=xs:=X1.mpr fun x _=>by simp
theorem AF{xs:List AE}{k:Ky}(h:(xs.map (·.1)).Nodup):((Je xs k).map (·.1)).Nodup:=h.sublist (Xy _ YC)
theorem JW{xs:List AE}{k j:Ky}:j∈(Je xs k).map (·.1)↔j∈xs.map (·.1)/\j≠k:=by
 constructor
 .intro h;obtain⟨x,a,rfl⟩:=Y3.mp h;obtain⟨h1,h2⟩:=Yf.mp a;exact⟨Y3.mpr ⟨x,h1,rfl⟩,by simpa using h2⟩
 .rintro⟨h,hn⟩;obtain⟨x,a,rfl⟩:=Y3.mp h;exact Y3.mpr ⟨x,Yf.mpr ⟨a,by simpa using hn⟩,rfl⟩
structure Pt(out:Str)(sp:Int)(own:Ky)(X X':List AE)(ks:List Ky):Prop where
 ow:own∈ks->ks=[own]/\(sp < M7 X own\/out="own"/\sp < NX X)
 nil:out="own"->own∉ks->ks=[]
 due:own∉ks->∀ (i:Nat) k,ks[i]?=some k->EE out own (R1 X (ks.take i)) k
 last:own∉ks->∀k,ks.getLast?=some k->sp < NX X'+ M7 X k
 nd:ks.Nodup
 sub:∀k∈ks,k∈X.map (·.1)
theorem Qi{out:Str}{sp:Int}{own:Ky}{X:List AE}(h:NX X <=sp):∀n,Jx out sp own n X=(X,[])
 |0=>rfl
 |n+ 1=>by unfold Jx;rw[Y6 h]
theorem Su{out:Str}{sp:Int}{own:Ky}:∀ (n:Nat) (X:List AE),X.length < n->(X.map (·.1)).Nodup->own∈X.map (·.1)->NX (Je X own) <=sp->Pt out sp own X (Jx out sp own n X).1 (Jx out sp own n X).2
 |0,X,h,_,_,_=>by omega
 |n+ 1,X,h,hn,ho,hl=>by
  by_cases ht:NX X <=sp
  .rw[Qi ht];exact⟨(fun z=>nomatch z),fun _ _=>rfl,fun _ i k z=>(by simp at z),fun _ k z=>(by simp at z),.nil,(fun k z=>nomatch z)⟩
  .have e0:Jx out sp own (n+ 1) X=((Jx out sp own n (Je X (Mr out sp own X))).1,Mr out sp own X::(Jx out sp own n (Je X (Mr out sp own X))).2):=by
    show(if NX X <=sp then _ else _)=_;rw[Y5 ht]
   rw[e0];dsimp only
   by_cases hc:out="own"\/sp < M7 X own
   .have e1:Mr out sp own X=own:=by unfold Mr;rw[Y6 hc]
    rw[e1,Qi hl];exact⟨fun _=>⟨rfl,hc.elim (fun z=>.inr ⟨z,by omega⟩) .inl⟩,fun _ z=>absurd (.head _) z,fun z=>absurd (.head _) z,fun z=>absurd (.head _) z,Yv.mpr ⟨(fun z=>nomatch z),.nil⟩,fun k z=>by rw[Yb.mp z];exact ho⟩
   .have e:out≠"own":=fun z=>hc (.inl z)
    have u:M7 X own <=sp:=by
     have:=fun z=>hc (.inr z)
     omega
    have y:=mU (out:=out) (sp:=sp) (own:=own) (xs:=X) (Ll hn (by omega) u) e u;obtain⟨f,ef⟩:∃f,f=Mr out sp own X:=⟨_,rfl⟩;rw[<-ef]at y ⊢;obtain⟨q,hq,g,hmin⟩:=id y;obtain⟨x,hx,hxo,rfl⟩:=Gj.mp hq;have g:x.1=f:=g;have p:own≠f:=fun z=>hxo (by rw[g,z])
    have s:f∈X.map (·.1):=Y3.mpr ⟨x,hx,g⟩;have ho1:own∈(Je X f).map (·.1):=JW.mpr ⟨ho,p⟩;have hl1:NX (Je (Je X f) own) <=sp:=by
     refine XA (Bm ?_) hl;have:Je (Je X f) own=Je (Je X own) f:=by
      unfold Je;rw[XB,XB];apply Xo;intro x _;exact Bool.and_comm _ _
     rw[this];exact YC
    have W:=Su (out:=out) n (Je X f) (by have:=Sy s;omega) (AF hn) ho1 hl1;obtain⟨r,er⟩:∃r,r=Jx out sp own n (Je X f):=⟨_,rfl⟩;rw[<-er]at W ⊢;have j:own∉r.2:=fun z=>by
     have h1:=(W.ow z).2;rw[C6 p]at h1;exact h1.elim (fun z=>by omega) fun z=>e z.1
    have w:f∉r.2:=fun z=>(JW.mp (W.sub f z)).2 rfl
    refine⟨fun z=>absurd z fun z=>(Yo.mp z).elim (fun z=>p z) j,fun z=>absurd z e,fun _ i k c=>?_,fun _ k c=>?_,Yv.mpr ⟨w,W.nd⟩,fun k c=>?_⟩
    .cases i with
     |zero=>
      rw[List.take_zero,gX];rw[List.getElem?_cons_zero]at c;rw[<-Option.some.inj c];exact y
     |succ i=>
      rw[List.take_succ_cons,n5];exact W.due j i k (by rw[List.getElem?_cons_succ]at c;exact c)
    .cases hr:r.2 with
     |nil=>
      rw[hr]at c;have c:f=k:=Option.some.inj c;rw[<-c];have e2:r.1=Je X f:=by
       rw[er];rw[FJ,<-er,hr];exact X1.mpr fun x _=>by simp
      rw[e2,<-HQ hn s];omega
     |cons a b=>
      rw[hr,List.getLast?_cons_cons,<-hr]at c;have h1:=W.last j k c;have hkr:k∈r.2:=List.mem_of_getLast? c;rw[C6 (fun z=>w (by rw[<-z];exact hkr))]at h1;exact h1
    .rcases Yo.mp c with z|z
     .rw[z];exact s
     .exact(JW.mp (W.sub k z)).1
theorem Ql(k:Ky)(rs:RS):∀xs:List AE,List.filter (fun x:AE=> !decide (x.1=k)) (xs.map fun x=>if x.1=k then(k,rs,x.2.2) else x)=xs.filter fun x=> !decide (x.1=k)
 |[]=>rfl
 |x::r=>by
  rw[List.map_cons,YQ,YQ,Ql k rs r]
  by_cases h:x.1=k
  .rw[Y6 h,Y5 (by simp),Y5 (by simpa using h)]
  .rw[Y5 h]
theorem Am(xs:List AE)(k:Ky)(rs:RS)(t:Int):Je (Ju xs k rs t) k=Je xs k:=by
 unfold Ju Je
 split
 .exact Ql k rs xs
 .rw[YZ,YQ,Y5 (by simp)];simp
theorem SV{out:Str}{own:Ky}(xs:List AE):Mo out own (Je xs own)=Mo out own xs:=by
 unfold Mo Je;rw[XB]
 congr 1
 apply Xo;intro x _;exact Bool.and_self _
theorem Sq(xs:List AE)(k:Ky)(ks:List Ky):Je (R1 xs ks) k=R1 (Je xs k) ks:=by
 unfold R1 Je;rw[XB,XB];apply Xo;intro x _;exact Bool.and_comm _ _
theorem yB{out:Str}{own:Ky}{xs:List AE}{rs:RS}{t:Int}{ks:List Ky}{k:Ky}(h:EE out own (R1 (Ju xs own rs t) ks) k):EE out own (R1 xs ks) k:=by
 unfold EE at h ⊢;rw[<-SV,Sq,Am,<-Sq,SV]at h;exact h
theorem O9{α:Type}[DecidableEq α]:∀{ks ts:List α},ks.Nodup->(∀k∈ks,k∈ts)->ks.length <=ts.length
 |[],_,_,_=>Ys _
 |k::r,ts,hn,h=>by
  have hk:=h k YD;have h1:=O9 (ts:=ts.erase k) (Yv.mp hn).2 fun j a=>(VE (fun e:j=k=>(Yv.mp hn).1 (by rw[<-e];exact a))).mpr (h j (Yn _ a))
  rw[V4 hk]at h1;have:=Wn hk;rw[List.length_cons];lia
theorem gD{m:WY}{n:Nat}(h:m.Nodup)(hb:∀x∈m,0 <=x/\x < n):m.length <=n:=by
 have:=O9 (ts:=(List.range n).map fun i:Nat=>(i:Int)) h fun x a=>by
  obtain⟨h1,h2⟩:=hb x a;exact Y3.mpr ⟨x.toNat,XT.mpr (by omega),by omega⟩
 rw[Y1,YN]at this;exact this
def M4{α:Type}(f:α->Ky)(g:α->V)(l:List α):List (List Jw×V):=l.map fun e=>(Na (f e),g e)
section
variable{α:Type}{f:α->Ky}{g:α->V}{l:List α}{k:Ky}
theorem IC(hk:(l.map f).Nodup){x:α}(h:x∈l):JE (M4 f g l) (Na (f x))=some (g x):=by
 unfold M4 JE
 induction l with
 |nil=>exact nomatch h
 |cons y r ih=>
  rw[List.map_cons,YG];rcases Yo.mp h with z|z
  .rw[z,Yh rfl];rfl
  .have a:¬Na (f y)=Na (f x):=fun q=>(Yv.mp hk).1 (Y3.mpr ⟨x,z,(DT q).symm⟩)
   rw[Yk a];exact ih (Yv.mp hk).2 z
theorem Zq:Nn (M4 f g l) (Na k)=M4 f g (l.filter fun e=> !decide (f e=k)):=by
 unfold Nn M4;rw[XM]
 congr 1
 apply Xo;intro e _;show(!decide (Na (f e)=Na k))= !decide (f e=k)
 congr 1
 rw[YA,Ya,Ya];exact⟨DT,X3 Na⟩
theorem Fh{i:Nat}{k:List Jw}{v:V}(h:(M4 f g l)[i]?=some (k,v)):∃e,l[i]?=some e/\k=Na (f e)/\v=g e:=by
 unfold M4 at h;rw[Y9]at h;obtain⟨e,a,q⟩:=Ye.mp h;cases q;exact⟨e,a,rfl,rfl⟩
end
section
variable{α:Type}{f:α->Ky}{g:α->V}
theorem Oe(k:Ky):∀l:List α,JE (M4 f g l) (Na k)=(l.find? fun e=>decide (f e=k)).map g
 |[]=>rfl
 |x::r=>by
  have ih:=Oe k r;unfold M4 JE at ih ⊢;rw[List.map_cons,YG,YG];have e:decide (Na (f x)=Na k)=decide (f x=k):=by rw[YA,Ya,Ya];exact⟨DT,X3 Na⟩
  show Option.map _ (match decide (Na (f x)=Na k) with|true=>_|false=>_)=_;rw[e];cases decide (f x=k) with
  |true=>rfl
  |false=>exact ih
theorem aB(l:List α):(M4 f g l).map (·.1)=(l.map f).map Na:=by unfold M4;rw[Yw,Yw];rfl
end
structure SE where
 ky:Ky
 l:Addr
 ns:List Int
structure DJ(H:Hp)(ds:WX)(S:List SE):Prop where
 d:H ds=some (.dT (M4 SE.ky (fun e=>.ref e.l) S))
 nk:(S.map (·.ky)).Nodup
 ls:∀e∈S,H e.l=some (.lst (e.ns.map V.int))
theorem DJ.mono{H G:Hp}{ds:WX}{S:List SE}(s:Jb H G)(h:DJ H ds S):DJ G ds S:=⟨s _ _ h.d,h.nk,fun e a=>s _ _ (h.ls e a)⟩
def M5(S:List SE)(k:Ky):List Int:=((S.find? fun e=>decide (e.ky=k)).map (·.ns)).getD []
def Gu(S:List SE)(k:Ky):Int:=(M5 S k).length
def BM(S:List SE)(k:Ky):Int:=((S.filter fun e=> !decide (e.ky=k)).map fun e=>(e.ns.length:Int)).sum
theorem AV(a b:Ky):PyData.eqv (R5 a.1 a.2.1 a.2.2) (R5 b.1 b.2.1 b.2.2)=decide (a=b):=by
 obtain⟨i,h,g⟩:=a;obtain⟨f,e,c⟩:=b;rw[YA];simp[PyData.eqv,PyData.eqvAll]
theorem Kq:∀l:List Int,(∀x∈l,0 <=x/\x <=100000)->0 <=l.sum/\l.sum <=100000*l.length
 |[],_=>by simp
 |x::r,h=>by
  have h1:=Kq r fun y a=>h y (Yn _ a)
  have h2:=h x YD;rw[Xb,List.length_cons];omega
section
variable{P:WP}{w:WU}{K:WV}{mg:WL}{base:J6}
theorem DJ.get{H G:Hp}{ds p:WX}{S:List SE}(h:DJ H ds S)(s:Jb H G)(hp:G p=some (.lst []))(k:Ky):∃c,(JE (M4 SE.ky (fun e=>V.ref e.l) S) (Na k)).getD (.ref p)= .ref c/\G c=some (.lst ((M5 S k).map V.int)):=by
 rw[Oe];unfold M5;cases e:S.find? fun e=>decide (e.ky=k) with
 |none=>exact⟨p,rfl,hp⟩
 |some x=>exact⟨x.l,rfl,s _ _ (h.ls x (X9 e))⟩
inductive OW(vs:List V)(H:Hp)(Q:VK)(E:XK):Prop|mk (ds t:WX) (S:List SE) (k:Ky) (_:vs=[.ref ds,.ref t]) (_:DJ H ds S) (_:H t=some (.tup (Th k))) (_:∀G,Jb H G->Q (.int (Gu S k)) G)
abbrev Kz:Stmt:=top 52
theorem d4:Nm ["_law_bytes_here","_law_key_here"] ["_law_bytes_here","_law_key_here"] (J8 Kz):=by walk_at"e"
theorem tX{f:WX}{fd:WR}(F:Nx K "_law_size" "_law_size" Kz f fd)(B:Bt mg):Jj P w K mg base JZ 1 f fd ["_law_bytes_here","_law_key_here"] OW:=by
 refine F.ok d4 (fun vs H Q E h=>?_) (fun u A e s H vs Q E i h=>?_)
 .obtain⟨ds,t,S,k,rfl,_⟩:=h;rfl
 .obtain⟨ds,t,S,k,rfl,b,g,q⟩:=h;refine⟨_,(Jz (N8 (NP (Da (Dd (K:=K) rfl)) B.len (MU (D5 (K:=K) rfl X6 UF Vt (FS (DL i)) (J9 0) (Jk 1 (JM (hs:=BQ) (TZ Jf) Jf))) Jf)))),?_⟩;walk_at"rd";refine⟨.inr (.inr (.inl ⟨rfl,.inr ⟨_,b.d⟩⟩)),Ys _,fun p G x a r=>?_⟩;obtain⟨c,n,j⟩:=b.get a r k;refine⟨Na k,_,a _ _ b.d,a _ _ g,c,n,_,.inl (Jh.of j),?_⟩;rw[Y1];exact q G a
inductive OF(vs:List V)(H:Hp)(Q:VK)(E:XK):Prop|mk (rl t tk b ds:WX) (sp:Int) (out:Str) (d:PD) (S:List SE) (_:vs=[.ref rl,.ref t,.ref ds]) (_:H rl=some (.tup [.int sp,.str out])) (_:R6 H t tk b d) (_:DJ H ds S) (_:Tb d.key) (_:S.length <=1000) (_:(∀e∈S,Tb e.ky/\e.ns.length <=2100)) (_:d.ns.length <=41) (_:∀ (m:WY) G,m.Nodup->(∀n,n∈m↔n∈M5 S d.key\/d.at' <=n/\n < d.at'+ d.ns.length)->Jb H G->Q (.bl (decide (sp < m.length+ (if out="own" then BM S d.key else 0)))) G)
abbrev AT:Stmt:=top 53
theorem Ez:Nm ["_law_rules","_law_piece_here","_law_sizes","_law_own","_law_at","_law_body_here","_law_more","_law_here"] ["_law_rules","_law_piece_here","_law_sizes"] (J8 AT):=by walk_at"e"
theorem n6{f:WX}{fd:WR}(F:Nx K "_law_own_too_much" "_law_own_too_much" AT f fd)(B:Bt mg)(B2:ER mg)(B7:Fi mg):Jj P w K mg base JZ 1 f fd ["_law_rules","_law_piece_here","_law_sizes"] OF:=by
 refine F.ok Ez (fun vs H Q E h=>?_) (fun cdv A outer s H vs Q E hr h=>?_)
 .obtain⟨rl,t,tk,b,ds,sp,out,d,S,rfl,_⟩:=h;rfl
 .obtain⟨rl,t,tk,b,ds,sp,out,d,S,rfl,hrl,y,hS,hky,hl,hb,hd,q⟩:=h;refine⟨_,(Jp (Cy (J9 1) (EL (K:=K) (n:=4) rfl rfl (Db (Ms (i:=3) (Ez).nd rfl (Or.inr rfl)) (Db (MB 4 Ez) (Db (MB 5 Ez) (Db (MB 6 Ez) EZ)))))) (Jp (T6 7 Ez (NP Ox B.len (MU (Rb (Sd (K:=K) (w:=w) rfl rfl rfl) rfl B7.bset (by rfl) (JM (hs:=DR) (N6 (CJ AC) (D5 (K:=K) rfl X6 UF Vt (FS (DL hr)) (J9 2) (Jk 3 (JM (hs:=BQ) (TZ Jf) Jf))) (Rb (QL rfl) rfl B.blist (by rfl) (MU (Oh rfl B.range (Jk 4 (JM (hs:=DR) (N6 (NG Mz) (J9 4) (NP (Da (Dd (K:=K) rfl)) B.len (Jk 5 Jf))) Jf))) Jf))) Jf)) Jf))) (Jp (GI (NB (NT (MI MG) (Tr K (J9 0) Jt) NY) (Jz (T6 7 Ez (N6 (NG Mz) (J9 7) (NP (HJ (K:=K) rfl rfl) B2.sum (JM (hs:=Rz) (O3 (Dz (N':=["_law_key_here","_law_sizes","_law_own"]) (caps:=[none,some 2,some 3]) (MW (sc:=J8 AT) (N:=["_law_rules","_law_piece_here","_law_sizes","_law_own","_law_at","_law_body_here","_law_more","_law_here"]) rfl rfl (by decide +kernel)) rfl (Cu (J9 2)) (fun _ _ _ _ _=>(Ms (i:=0) (MY (N:=["_law_key_here","_law_sizes","_law_own"]) rfl (by decide +kernel)) rfl (Or.inl rfl))) (fun _ _ _ _ _=>(RH (NT (At (K:=K) (Room.units hr) rfl) (J9 0) (J9 2)))) (fun _ _ _ _ _=>(NP (Da (Dd (K:=K) rfl)) B.len (MV (GX hr (J9 1) (J9 0)) Jf))))) Jf))))) NU)) (Jz (N8 (MQ (NG E3) (J9 7) (Tr K (J9 0) Jt) (Dh _))))))),?_⟩;refine JU fun N hN=>?_
  walk_at"rd";refine⟨_,JC.of y.tp,rfl,_,_,rfl,_,_,rfl,_,_,rfl,_,_,rfl,rfl,hN _ _ ?_⟩;clear hN N;refine JU fun N hN=>?_
  walk_at"rd";refine⟨.inr (.inr (.inl ⟨rfl,.inr ⟨_,hS.d⟩⟩)),Ys _,fun p G hp g e1=>?_⟩;obtain⟨c,ec,hc⟩:=hS.get g e1 d.key;obtain⟨a1,a2,a3⟩:=y.ok.end';have a0:=y.ok.a0;have hnl:(M5 S d.key).length <=2100:=by
   unfold M5;cases e:S.find? fun e=>decide (e.ky=d.key) with
   |none=>exact Ys _
   |some x=>exact(hb x (X9 e)).2
  refine⟨Na d.key,_,g _ _ hS.d,g _ _ y.ky,_,.inl (Jh.of (g _ _ y.bd)),fun r G2 hr2 s2 g2=>⟨d.at',d.ns.length,by rw[Y1]at g2;exact g2,a0,by omega,by omega,fun l G3 hl3 s3 g3=>⟨c,ec,_,s3 _ _ (s2 _ _ hc),_,g3,?_,fun p4 G4 hp4 s4 g4=>?_⟩⟩⟩
  .rw[Y1,Y1,YN];exact N0 (show _ <=100000 by omega)
  have em:(M5 S d.key).map V.int++(List.range d.ns.length).map (fun i:Nat=>V.int (d.at'+ (i:Int)))=(M5 S d.key++(List.range d.ns.length).map fun i:Nat=>d.at'+ (i:Int)).map V.int:=by rw[List.map_append,Yw];rfl
  rw[em]at g4;refine⟨_,Jh.of g4,by rw[Yl,Y1,YN];omega,fun m o l5 G5 hnd hm hml hN5 hl5 s5 g5=>⟨o,g5,m.length,hN5.len,by rw[Yl,Y1,YN]at hml;omega,hN _ _ ?_⟩⟩;clear hN N;have sA:=g.trans (s2.trans (s3.trans (s4.trans s5)));have hmm:∀n,n∈m↔n∈M5 S d.key\/d.at' <=n/\n < d.at'+ d.ns.length:=fun n=>by
   rw[hm,Yp,Y3];constructor
   .rintro(h|⟨i,hi,rfl⟩)
    .exact .inl h
    .have:=XT.mp hi;exact .inr (by omega)
   .rintro(h|h)
    .exact .inl h
    .exact .inr ⟨(n - d.at').toNat,XT.mpr (by omega),by omega⟩
  have q:∀G,Jb G5 G->Q (.bl (decide (sp < m.length+ (if out="own" then BM S d.key else 0)))) G:=fun G s=>q m G hnd hmm (sA.trans s)
  have a:=hS.mono sA;have hrl5:=sA _ _ hrl;have htk5:=sA _ _ y.ky;clear g s2 s3 s4 s5 g2 g3 g4 g5 em hN5 hl5 hp4 hl3 hr2 hp e1 ec hc hrl hS sA y;refine JU fun N hN=>?_
  walk_at"rd";obtain⟨o1,u⟩:∃o1:Int,o1=if out="own" then BM S d.key else 0:=⟨_,rfl⟩
  have q:∀G,Jb G5 G->Q (.bl (decide (sp < m.length+ o1))) G:=by rw[u];exact q
  refine⟨fun σ' H'=>Jb G5 H'/\σ'=[some (.ref rl),some (.ref t),some (.ref ds),some (.ref tk),some (.int d.at'),some (.ref b),some (.bl d.mo),some (.int (m.length+ o1))],⟨_,JC.of hrl5,_,rfl,rfl,?_⟩,fun σ' H' h=>hN _ _ ?_⟩
  .by_cases ho:out="own"
   .rw[Y6 (by simp[ho])];rw[Y6 ho]at u;have hkl:(M4 SE.ky (fun e=>V.ref e.l) S).length=S.length:=Y1 ..;obtain⟨Pv,ePv⟩:∃Pv:Nat->List V->L2.St->Prop,Pv=fun i ys σ'=>ys=(((S.take i).filter fun e=> !decide (e.ky=d.key)).map fun e=>V.int e.ns.length)/\∃v,σ'=[v,some (.ref ds),some (.ref tk)]:=⟨_,rfl⟩
    refine KD a.d (fun Rr h=>by walk_at"rd";exact h) Pv (by rw[ePv];exact⟨rfl,_,rfl⟩) ?_ (by omega) ?_ ?_ <;> rw[ePv]
    .rintro i ys σ' ⟨rfl,_⟩;rw[Y1];exact YF (YE ..) (by rw[Yt];omega)
    .rintro Hf oo hfo hfd i bb k v ys σ' hk hbb ⟨rfl,v0,rfl⟩;rw[<-ePv];obtain⟨e,he,rfl,rfl⟩:=Fh hk;have hke:=(hb e (Yq he)).1;have f1:Hf bb=some (.tup (Th e.ky)):=by rw[hfo _ (Ja hbb a.d nofun)];exact hbb
     have f2:Hf tk=some (.tup (Th d.key)):=by rw[hfo _ (Ja htk5 a.d nofun)];exact htk5
     have f3:Hf e.l=some (.lst (e.ns.map V.int)):=by
      have:=a.ls e (Yq he);rw[hfo _ (Ja this a.d nofun)];exact this
     walk_at"rd";refine⟨_,_,Rj f1,Rj f2,Rw _ hke.2.2.1 hke.2.2.2,Rw _ hky.2.2.1 hky.2.2.2,_,rfl,?_⟩;rw[AV];have et:(S.take (i+ 1)).filter (fun e=> !decide (e.ky=d.key))=(S.take i).filter (fun e=> !decide (e.ky=d.key))++[e].filter fun e=> !decide (e.ky=d.key):=by rw[YJ,he,YV,YZ]
     rw[ePv]
     by_cases hk:e.ky=d.key
     .rw[Y5 (by simpa using hk)];refine⟨⟨?_,_,rfl⟩,rfl⟩;rw[et,YQ,Y5 (by simpa using hk),Wh,List.append_nil]
     .rw[Y6 (by simpa using hk)];refine⟨_,.inr ⟨_,Na e.ky,bb,.inr ⟨_,hfd⟩,rfl,f1,(IC a.nk (Yq he)).symm⟩,e.l,rfl,_,.inl (Jh.of f3),?_,rfl⟩;refine⟨?_,_,rfl⟩;rw[et,YQ,Y6 (by simpa using hk),Y1,List.map_append];rfl
    .rintro ys σ' ⟨rfl,_⟩ p G hp g e1;rw[hkl,Yu (Y8 _)]at e1;have em:((S.filter fun e=> !decide (e.ky=d.key)).map fun e=>V.int e.ns.length)=((S.filter fun e=> !decide (e.ky=d.key)).map fun e=>(e.ns.length:Int)).map V.int:=by rw[Yw];rfl
     rw[em]at e1;have bd:∀x∈(S.filter fun e=> !decide (e.ky=d.key)).map (fun e=>(e.ns.length:Int)),0 <=x/\x <=100000:=fun x hx=>by
      obtain⟨e,he,rfl⟩:=Y3.mp hx;have:=(hb e (Yf.mp he).1).2;omega
     refine⟨p,rfl,_,Jh.of e1,(fun x hx=>by have:=bd x hx;omega),(fun j hj=>?_),g,?_⟩
     .have h1:=Kq _ fun x hx=>bd x (Ug (i:=j) hx)
      have h2:(((S.filter fun e=> !decide (e.ky=d.key)).map fun e=>(e.ns.length:Int)).take j).length <=1000:=by
       rw[Yt,Y1];have:=YE (fun e:SE=> !decide (e.ky=d.key)) S;omega
      omega
     .rw[u];rfl
   .rw[Y5 (by simpa using ho)];rw[Y5 ho]at u;rw[u,Int.add_zero];exact⟨Jb.refl _,rfl⟩
  .obtain⟨s6,rfl⟩:=h;walk_at"rd";exact⟨_,JC.of (s6 _ _ hrl5),_,rfl,_,rfl,q H' s6⟩
end
def RD(S:List SE)(k:Ky)(l:WX)(ms:WY):List SE:=if k∈S.map (·.ky) then S.map (fun e=>if e.ky=k then⟨k,l,ms⟩ else e) else S++[⟨k,l,ms⟩]
def MC(S:List SE)(ks:List Ky):List SE:=S.filter fun e=>decide (e.ky∈ks)
theorem ZS(S:List SE)(k:Ky)(l:WX)(ms:WY):MZ (M4 SE.ky (fun e=>V.ref e.l) S) (Na k) (.ref l)=M4 SE.ky (fun e=>.ref e.l) (RD S k l ms):=by
 have e:((M4 SE.ky (fun e=>V.ref e.l) S).any fun b=>decide (b.1=Na k))=decide (k∈S.map (·.ky)):=by
  unfold M4;rw[WJ,YA,Ya,U4];constructor
  .rintro⟨x,a,h⟩;exact Y3.mpr ⟨x,a,DT (Xe h)⟩
  .intro h;obtain⟨x,a,rfl⟩:=Y3.mp h;exact⟨x,a,Yh rfl⟩
 unfold MZ RD;rw[e]
 by_cases h:k∈S.map (·.ky)
 .rw[Y6 (Yh h),Y6 h];unfold M4;rw[Yw,Yw];apply YI;intro x _;simp only[Function.comp]
  by_cases a:x.ky=k
  .rw[Y6 a,Y6 (by rw[a]),a]
  .rw[Y5 a,Y5 (fun z=>a (DT z))]
 .rw[Y5 (by simpa using h),Y5 h];unfold M4;rw[List.map_append];rfl
theorem IU(S:List SE)(k:Ky)(l:WX)(ms:WY):(RD S k l ms).map (·.ky)=if k∈S.map (·.ky) then S.map (·.ky) else S.map (·.ky)++[k]:=by
 unfold RD
 split
 .rw[Yw];apply YI;intro x _;simp only[Function.comp]
  split
  .rename_i h;exact h.symm
  .rfl
 .rw[List.map_append];rfl
theorem Q1{S:List SE}{k:Ky}{l:WX}{ms:WY}{e:SE}(h:e∈RD S k l ms):e=⟨k,l,ms⟩\/e∈S/\e.ky≠k:=by
 unfold RD at h
 split at h
 .obtain⟨x,a,rfl⟩:=Y3.mp h
  split
  .exact .inl rfl
  .rename_i hn;exact .inr ⟨a,hn⟩
 .rename_i hk
  rcases Yp.mp h with z|z
  .exact .inr ⟨z,fun q=>hk (Y3.mpr ⟨e,z,q⟩)⟩
  .exact .inl (Yb.mp z)
def Gh(S:List SE)(ks:List Ky)(i:Nat):List SE:=MC (S.take i) ks++S.drop i
theorem yW(S:List SE)(ks:List Ky):Gh S ks 0=S:=by unfold Gh MC;simp
theorem j9(S:List SE)(ks:List Ky):Gh S ks S.length=MC S ks:=by unfold Gh;simp
theorem nI(S:List SE)(ks:List Ky)(i:Nat):(Gh S ks i).Sublist S:=by
 unfold Gh;have:(S.take i++S.drop i)=S:=List.take_append_drop ..;rw (occs:=.pos [3]) [<-this];exact List.Sublist.append YC (List.Sublist.refl _)
theorem t9{S:List SE}{ks:List Ky}{i:Nat}{e:SE}(h:S[i]?=some e)(hk:e.ky∈ks):Gh S ks (i+ 1)=Gh S ks i:=by
 obtain⟨hi,rfl⟩:=Ym.mp h;unfold Gh MC;rw[YJ,h,YV,YZ,YQ,Y6 (by simpa using hk),List.drop_eq_getElem_cons hi];simp
theorem PJ{S:List SE}{ks:List Ky}{i:Nat}{e:SE}(hn:(S.map (·.ky)).Nodup)(h:S[i]?=some e)(hk:e.ky∉ks):(Gh S ks i).filter (fun x=> !decide (x.ky=e.ky))=Gh S ks (i+ 1):=by
 obtain⟨hi,rfl⟩:=Ym.mp h;have q:S=S.take i++S[i]::S.drop (i+ 1):=by rw[<-List.drop_eq_getElem_cons hi,List.take_append_drop]
 have b:((S.take i).map (·.ky)++S[i].ky::(S.drop (i+ 1)).map (·.ky)).Nodup:=by rw[<-List.map_cons (f:=SE.ky),<-List.map_append,<-q];exact hn
 obtain⟨r,j,g⟩:=Xd.mp b;obtain⟨c,_⟩:=Yv.mp j;have p:(S.drop (i+ 1)).filter (fun x=> !decide (x.ky=S[i].ky))=S.drop (i+ 1):=X1.mpr fun x a=>by
  have:x.ky≠S[i].ky:=fun z=>c (Y3.mpr ⟨x,a,z⟩)
  simpa using this
 have n:(MC (S.take i) ks).filter (fun x=> !decide (x.ky=S[i].ky))=MC (S.take i) ks:=X1.mpr fun x a=>by
  have:x.ky≠S[i].ky:=fun z=>g _ (Y3.mpr ⟨x,(Yf.mp a).1,rfl⟩) _ (.head _) z
  simpa using this
 unfold Gh;rw[YZ,n,List.drop_eq_getElem_cons hi,YQ,Y5 (by simp),p]
 congr 1
 unfold MC;rw[YJ,h,YV,YZ,YQ,Y5 (by simpa using hk)];simp
theorem R6.mono{H G:Hp}{t tk b:WX}{d:PD}(s:Jb H G)(k:R6 H t tk b d):R6 G t tk b d:=⟨k.ok,k.k,s _ _ k.tp,s _ _ k.ky,s _ _ k.bd⟩
def El(ds:WX)(H G:Hp):Prop:=∀c o,H c=some o->c≠ds->G c=some o
section
variable{C CR r dr df dw ds:WX}{H G:Hp}{R:Nf}{S:List SE}
theorem Jg.kpD(h:Jg C CR H r dr df dw R)(hd:H ds=some (.dT (M4 SE.ky (fun e=>.ref e.l) S)))(n1:ds≠dr)(n2:ds≠df)(n3:ds≠dw)(k:El ds H G):Jg C CR G r dr df dw R:=by
 obtain⟨dx,fs,c,q⟩:=h.ex;refine⟨⟨dx,fs,k _ _ c (Ja c hd nofun),q⟩,k _ _ h.dR (Ne.symm n1),k _ _ h.dF (Ne.symm n2),k _ _ h.dW (Ne.symm n3),h.n1,h.n2,h.n3,fun e j=>?_,h.np,h.na,h.nk⟩;have q:=h.rd e j;obtain⟨g,f,b,i⟩:=q.ex;obtain⟨xs,a,n⟩:=q.cv;exact⟨⟨g,f,k _ _ b (Ja b hd nofun),i⟩,k _ _ q.dk (Ja q.dk hd nofun),xs,k _ _ a (Ja a hd nofun),n.tk fun t ys z=>k _ _ z (Ja z hd nofun)⟩
theorem DJ.kp(h:DJ H ds S){c:WX}{o:HO}(k:El ds H G)(e:H c=some o)(n:∀kvs,o≠ .dT kvs):G c=some o:=k c o e (Ja e h.d (n _))
end
section
variable{P:WP}{w:WU}{K:WV}{mg:WL}{base:J6}
theorem D2.v{G:Hp}{l:WX}{ks:List Ky}(h:D2 G l ks):∃xs,G l=some (.lst xs)/\Ah K G xs ks:=by
 obtain⟨f,h1,h2,e⟩:=h;refine⟨_,h2,by rw[Y1];exact h1,fun j x y a b=>?_⟩;rw[Y9]at a;obtain⟨t,c,rfl⟩:=Ye.mp a;exact⟨t,rfl,JC.of (e j t y c b)⟩
theorem wA{S:List SE}{ks:List Ky}{k:Ky}(h:k∈ks):M5 (MC S ks) k=M5 S k:=by
 unfold M5 MC;rw[List.find?_filter]
 congr 3
 funext x
 by_cases hk:x.ky=k
 .simp[hk,h]
 .simp[hk]
inductive FU(C CR:WX)(vs:List V)(H:Hp)(Q:VK)(E:XK):Prop|mk (ds t tk b r dr df dw:WX) (S:List SE) (d:PD) (R:Nf) (_:vs=[.ref ds,.ref t,.ref r]) (_:DJ H ds S) (_:R6 H t tk b d) (_:Jg C CR H r dr df dw R) (_:R.es.length < 64) (_:S.length <=60) (_:(∀e∈S,e.ns.length <=2100)) (_:(∀n∈M5 S d.key,0 <=n/\n < 49)) (_:d.at'+ d.ns.length <=49) (_:ds≠dr) (_:ds≠df) (_:ds≠dw) (_:∀S' G,El ds H G->DJ G ds S'->(d.key∉R.es.map (·.ky)->S'=MC S (R.es.map (·.ky)))->(d.key∈R.es.map (·.ky)->∃l ms,ms.Nodup/\(∀n,n∈ms↔n∈M5 S d.key\/d.at' <=n/\n < d.at'+ d.ns.length)/\S'=RD (MC S (R.es.map (·.ky))) d.key l ms)->Q .non G)
abbrev Ik:Stmt:=top 56
theorem ED:Nm ["_law_sizes","_law_piece_here","_law_room","_law_key_here","_law_at","_law_body_here","_law_more","_law_other","_law_old"] ["_law_sizes","_law_piece_here","_law_room"] (J8 Ik):=by walk_at"e"
theorem eQ{f C CR:WX}{fd:WR}(F:Nx K "_law_stored" "_law_stored" Ik f fd)(B:Bt mg)(B2:ER mg)(B7:Fi mg)(JI:T9 P w K mg base C "kept" 1 ["self"] [] (Ak C CR)):Jj P w K mg base JZ 2 f fd ["_law_sizes","_law_piece_here","_law_room"] (FU C CR):=by
 refine F.ok ED (fun vs H Q E h=>?_) (fun cdv A outer s H vs Q E hr h=>?_)
 .obtain⟨ds,t,tk,b,r,dr,df,dw,S,d,R,rfl,_⟩:=h;rfl
 .obtain⟨ds,t,tk,b,r,dr,df,dw,S,d,R,rfl,hS,hP,hR,hrl,hSl,hb,hnr,hd,n1,n2,n3,q⟩:=h;refine⟨_,(Jp (Cy (J9 1) (EL (K:=K) (n:=4) rfl rfl (Db (MB 3 ED) (Db (MB 4 ED) (Db (MB 5 ED) (Db (MB 6 ED) EZ)))))) (Jp (RF Xq rfl (Dt (K:=K) rfl (Rb (tD rfl) rfl B.blist (by rfl) (Jk 0 Jf))) (MB 7 ED) (Jz (NB (GZ (BL (K:=K) (Room.units hr) rfl) (J9 7) (MA (J9 2) JI hr.m) (by with_unfolding_all rfl)) (Jz (Mv (D5 (K:=K) rfl X6 UE Vs (K0 (DL hr)) (J9 0) (Jk 7 Jf)))) NU))) (Jz (NB (GZ (Q7 (K:=K) (Room.units hr) rfl) (J9 3) (MA (J9 2) JI hr.m) (by with_unfolding_all rfl)) (Jp (T6 8 ED (D5 (K:=K) rfl X6 UF Vt (FS (DL hr)) (J9 0) (Jk 3 (JM (hs:=BQ) (TZ Jf) Jf)))) (Jz (Sh (DL hr) (J9 0) (J9 3) (NP (xR (w:=w) rfl (Room.units hr) rfl) B2.sorted (MU (Rb (Sd (K:=K) (w:=w) rfl rfl rfl) rfl B7.bset (by rfl) (JM (hs:=DR) (N6 (CJ AC) (J9 8) (Rb (QL rfl) rfl B.blist (by rfl) (MU (Oh rfl B.range (Jk 4 (JM (hs:=DR) (N6 (NG Mz) (J9 4) (NP (Da (Dd (K:=K) rfl)) B.len (Jk 5 Jf))) Jf))) Jf))) Jf)) Jf)) rfl))) NU)))),?_⟩;refine JU fun N hN=>?_
  walk_at"rd";refine⟨_,JC.of hP.tp,rfl,_,_,rfl,_,_,rfl,_,_,rfl,_,_,rfl,rfl,hN _ _ ?_⟩;clear hN N;refine JU fun N hN=>?_
  walk_at"rd";refine⟨_,hS.d,fun ts l G1 hts hl1 s1 g1=>⟨⟨_,Jh.of g1⟩,?_⟩⟩;obtain⟨ks,ab⟩:∃ks,ks=R.es.map (·.ky):=⟨_,rfl⟩;have hS1:=hS.mono s1;have hR1:=hR.mono s1;have j:=hP.mono s1;have htl:ts.length=S.length:=hts.1.trans (Y1 ..);have ac:∀{o:HO} {c:WX},G1 c=some o->(∀kvs,o≠ .dT kvs)->c≠ds:=fun e n=>Ja e hS1.d (n _)
  obtain⟨Pv,ePv⟩:∃Pv:Nat->L2.St->Hp->Prop,Pv=fun i σ' G=>∃ (v7 v8:Option V),σ'=[some (.ref ds),some (.ref t),some (.ref r),some (.ref tk),some (.int d.at'),some (.ref b),some (.bl d.mo),v7,v8]/\El ds G1 G/\DJ G ds (Gh S ks i):=⟨_,rfl⟩
  refine Aw (xs:=ts.map V.ref) Pv (by rw[ePv];exact⟨_,_,rfl,fun _ _ e _=>e,by rw[yW];exact hS1⟩) ?_ ?_ ?_ <;> rw[ePv]
  .rintro i σ' G _ ⟨_,_,rfl,kp,_⟩;exact Jh.of (kp _ _ g1 (ac g1 fun _ z=>by cases z))
  .rintro i x σ' G y ⟨v7,v8,rfl,kp,hSi⟩;rw[<-ePv];rw[Y9]at y;obtain⟨ot,hot,rfl⟩:=Ye.mp y;have hiS:i < S.length:=by rw[<-htl];exact(Ym.mp hot).1
   have he:S[i]?=some S[i]:=Y4 hiS;obtain⟨kv,hkv,hto⟩:=hts.get hot;obtain⟨e',he',ek,_⟩:=Fh (k:=kv.1) (v:=kv.2) hkv;rw[he]at he';cases he';rw[ek]at hto;have hto1:G ot=some (.tup (Th S[i].ky)):=kp _ _ (s1 _ _ hto) (ac (s1 _ _ hto) fun _ z=>by cases z);have hRi:=hR1.kpD hS1.d n1 n2 n3 kp;simp only[Gs,List.set_cons_succ,List.set_cons_zero];walk_at"rd";refine⟨hRi.mt rfl,r,dr,df,dw,R,rfl,hRi,hrl,fun kk lk G2 hkp _ hlk s2 hK=>?_⟩;obtain⟨xs,exs,hxs⟩:=hK.v (K:=K);have hto2:=s2 _ _ hto1;refine⟨lk,rfl,xs,kk,_,JC.of hto2,Jh.of exs,hxs,?_⟩;have g:=hSi.mono s2;have ad:El ds G1 G2:=fun c o e n=>s2 _ _ (kp c o e n)
   have a:S[i].ky∈kk↔S[i].ky∈ks:=by rw[ab];exact hkp.mem_iff
   by_cases hin:S[i].ky∈kk
   .rw[Y5 (by simpa using hin),ePv];exact⟨_,_,rfl,ad,by rw[t9 he (a.mp hin)];exact g⟩
   .rw[Y6 (by simpa using hin)];have hmi:S[i]∈Gh S ks i:=by
     unfold Gh;rw[List.drop_eq_getElem_cons hiS];exact Yx _ (.head _)
    refine⟨.inr (.inr (.inl ⟨rfl,.inr ⟨_,g.d⟩⟩)),Na S[i].ky,_,g.d,hto2,_,IC g.nk hmi,fun G3 b3 e3=>?_⟩;rw[Zq,PJ hS.nk he (fun z=>hin (a.mpr z))]at e3;rw[ePv];refine⟨_,_,rfl,fun c o e n=>b3 _ _ (ad c o e n) n,e3,?_,fun x y=>?_⟩
    .exact hS.nk.sublist (Xy _ (nI S ks (i+ 1)))
    .have h1:=g.ls x ?_
     .exact b3 _ _ h1 (Ja h1 g.d nofun)
     .rw[<-PJ hS.nk he (fun z=>hin (a.mpr z))]at y;exact(Yf.mp y).1
  .rintro σ' G ⟨v7,v8,rfl,kp,hSi⟩;refine hN _ _ ?_;clear hN N;have hRi:=hR1.kpD hS1.d n1 n2 n3 kp;rw[Y1,htl,j9]at hSi;have hP2:R6 G t tk b d:=⟨j.ok,j.k,kp _ _ j.tp (ac j.tp fun _ z=>by cases z),kp _ _ j.ky (ac j.ky fun _ z=>by cases z),kp _ _ j.bd (ac j.bd fun _ z=>by cases z)⟩;have kp0:El ds H G:=fun c o e n=>kp _ _ (s1 _ _ e) n
   walk_at"rd";refine⟨hRi.mt rfl,r,dr,df,dw,R,rfl,hRi,hrl,fun kk lk G2 hkp _ hlk s2 hK=>?_⟩;obtain⟨xs,exs,hxs⟩:=hK.v (K:=K);have hP3:=hP2.mono s2;refine⟨lk,rfl,xs,kk,_,JC.of hP3.ky,Jh.of exs,hxs,?_⟩;have aa:=hSi.mono s2;have ad:El ds H G2:=fun c o e n=>s2 _ _ (kp0 c o e n)
   have a:d.key∈kk↔d.key∈ks:=by rw[ab];exact hkp.mem_iff
   by_cases hin:d.key∈kk
   .rw[Y6 (by simpa using hin)];have hin':=a.mp hin;refine⟨.inr (.inr (.inl ⟨rfl,.inr ⟨_,aa.d⟩⟩)),Ys _,fun p G3 hp s3 e3=>?_⟩;obtain⟨c,ec,hc⟩:=aa.get s3 e3 d.key;rw[wA hin']at hc;obtain⟨a1,a2,a3⟩:=hP.ok.end';have a0:=hP.ok.a0;have hnl:(M5 S d.key).length <=2100:=by
     unfold M5;cases e:S.find? fun e=>decide (e.ky=d.key) with
     |none=>exact Ys _
     |some x=>exact hb x (X9 e)
    refine⟨Na d.key,_,s3 _ _ aa.d,s3 _ _ hP3.ky,_,.inl (Jh.of (s3 _ _ hP3.bd)),fun r4 G4 hr4 s4 g4=>⟨d.at',d.ns.length,by rw[Y1]at g4;exact g4,a0,by omega,by omega,fun l5 G5 hl5 s5 g5=>⟨c,ec,_,s5 _ _ (s4 _ _ hc),_,g5,?_,fun p6 G6 hp6 s6 g6=>?_⟩⟩⟩
    .rw[Y1,Y1,YN];exact N0 (show _ <=100000 by omega)
    have em:(M5 S d.key).map V.int++(List.range d.ns.length).map (fun i:Nat=>V.int (d.at'+ (i:Int)))=(M5 S d.key++(List.range d.ns.length).map fun i:Nat=>d.at'+ (i:Int)).map V.int:=by rw[List.map_append,Yw];rfl
    rw[em]at g6;refine⟨_,Jh.of g6,by rw[Yl,Y1,YN];omega,fun m o l7 G7 hnd hm hml hN7 hl7 s7 g7=>⟨o,g7,m,hN7,?_,fun ms l8 G8 hms _ hl8 s8 g8=>?_⟩⟩
    .refine Yi (gD (n:=49) hnd fun x y=>?_) (by decide);rcases Yp.mp ((hm x).mp y) with z|z
     .exact hnr x z
     .obtain⟨i,hi,rfl⟩:=Y3.mp z;have:=XT.mp hi;omega
    have sA:=s3.trans (s4.trans (s5.trans (s6.trans (s7.trans s8))));have hS8:=aa.mono sA;have hz:(M4 SE.ky (fun e=>V.ref e.l) (MC S ks)).length < sizeLine:=by
     have h1:(M4 SE.ky (fun e=>V.ref e.l) (MC S ks)).length=(MC S ks).length:=Y1 ..;have h2:(MC S ks).length <=S.length:=YE ..;rw[h1];exact DK (by omega)
    refine⟨Na d.key,_,hS8.d,sA _ _ hP3.ky,hz,fun G9 b9 e9=>?_⟩;rw[ZS]at e9;have kp9:El ds H G9:=fun c o e n=>b9 _ _ (sA _ _ (ad c o e n)) n
    have n8:l8≠ds:=Ja g8 hS8.d nofun;refine q _ G9 kp9 ⟨e9,?_,fun x y=>?_⟩ (fun z=>absurd (by rw[ab]at hin';exact hin') z) fun _=>⟨l8,ms,hms.symm.nodup hnd,fun n=>?_,by rw[ab]⟩
    .rw[IU]
     split
     .exact aa.nk
     .rename_i hk
      exact Xd.mpr ⟨aa.nk,by simp,fun u hu v hv e=>hk (by rw[Yb.mp hv]at e;rw[<-e];exact hu)⟩
    .rcases Q1 y with rfl|⟨y,_⟩
     .exact b9 _ _ g8 n8
     .have h1:=hS8.ls x y;exact b9 _ _ h1 (Ja h1 hS8.d nofun)
    .rw[hms.mem_iff,hm,Yp,Y3];constructor
     .rintro(h|⟨i,hi,rfl⟩)
      .exact .inl h
      .have:=XT.mp hi;exact .inr (by omega)
     .rintro(h|h)
      .exact .inl h
      .exact .inr ⟨(n - d.at').toNat,XT.mpr (by omega),by omega⟩
   .rw[Y5 (by simpa using hin)];have hno:d.key∉ks:=fun z=>hin (a.mpr z)
    exact q _ G2 ad aa (fun _=>by rw[ab]) fun z=>absurd (by rw[ab];exact z) hno
end
def JQ:List Ev->List Ky
 |[]=>[]
 | .gone k _::r=>k::JQ r
 | .whole d::r=>(d.nu,d.z1,d.z2)::JQ r
 | .late _::r=>JQ r
 | .strange _::r=>JQ r
theorem AM:∀ (a b:List Ev),JQ (a++b)=JQ a++JQ b
 |[],_=>rfl
 | .gone k w::r,b=>X3 (k::·) (AM r b)
 | .whole d::r,b=>X3 (_::·) (AM r b)
 | .late _::r,b=>AM r b
 | .strange _::r,b=>AM r b
theorem A6:∀a:List Ev,(JQ a).length <=a.length
 |[]=>Y8 _
 | .gone k w::r=>Up (A6 r)
 | .whole d::r=>Up (A6 r)
 | .late _::r=>XH (A6 r)
 | .strange _::r=>XH (A6 r)
section
variable{P:WP}{w:WU}{K:WV}{mg:WL}{base:J6}
inductive Om(C:WX)(vs:List V)(H:Hp)(Q:VK)(E:XK):Prop|mk (p b:WX) (d:LD) (_:vs=[.ref p]) (_:ME C H p b d) (_:∀t G,H t=none->Jb H G->G t=some (.tup [.int d.nu,.str d.z1,.str d.z2])->Q (.ref t) G)
theorem mG{C:WX}(F:T9 P w K mg base C "key" 1 ["self"] [] (Hw C)):T9 P w K mg base C "key" 1 ["self"] [] (Om C):=
 F.imp fun vs H Q E h=>by
  obtain⟨p,b,d,e,h,q⟩:=h;exact⟨p,_,_,_,_,_,e,h.ats,fun t a=>q t _ a (MD a) Nc⟩
def NR(G:Hp)(ts:List Addr)(ks:List Ky):Prop:=Pw (fun t k=>G t=some (.tup (Th k))) ts ks
theorem NR.mono{G G2:Hp}{ts:List Addr}{ks:List Ky}(s:Jb G G2)(h:NR G ts ks):NR G2 ts ks:=⟨h.1,fun j x y a b=>s _ _ (h.2 j x y a b)⟩
theorem NR.snoc{G G2:Hp}{ts:List Addr}{ks:List Ky}{l t:WX}{k:Ky}{xs:List V}(h:NR G ts ks)(b:Nj l G G2)(hl:G l=some (.lst xs))(ht:G t=some (.tup (Th k))):NR G2 (ts++[t]) (ks++[k]):=by
 have kp:∀{c:WX} {zs:List V},G c=some (.tup zs)->G2 c=some (.tup zs):=fun e=>b _ _ e (Ja e hl nofun)
 refine⟨by rw[Yl,Yl,h.1];rfl,fun j x y a c=>?_⟩
 by_cases hj:j < ts.length
 .rw[X2 hj]at a;rw[X2 (by rw[<-h.1];exact hj)]at c;exact kp (h.2 j x y a c)
 .rw[YY (by omega)]at a;rw[YY (by rw[<-h.1];omega),<-h.1]at c;cases hq:j - ts.length with
  |zero=>rw[hq]at a c;cases a;cases c;exact kp ht
  |succ q=>rw[hq]at a;simp at a
theorem NR.v{G:Hp}{ts:List Addr}{ks:List Ky}(h:NR G ts ks):Ah K G (ts.map V.ref) ks:=by
 refine⟨by rw[Y1];exact h.1,fun j x y a b=>?_⟩;rw[Y9]at a;obtain⟨t,c,rfl⟩:=Ye.mp a;exact⟨t,rfl,JC.of (h.2 j t y c b)⟩
theorem D2.d{G:Hp}{l:WX}{ks:List Ky}(h:D2 G l ks):∃ts,G l=some (.lst (ts.map V.ref))/\NR G ts ks:=by
 obtain⟨ts,h1,h2,a⟩:=h;exact⟨ts,h2,h1,a⟩
theorem NR.step{G:Hp}{ts us:List Addr}{ks js:List Ky}{i:Nat}{t:WX}{k:Ky}{p:Ky->Bool}(h:NR G us ((ks.take i).filter p))(ht:G t=some (.tup (Th k)))(hk:ks[i]?=some k)(hp:p k=true):NR G (us++[t]) ((ks.take (i+ 1)).filter p):=by
 rw[YJ,hk,YV,YZ,YQ,Y6 hp];refine⟨by rw[Yl,Yl,h.1];rfl,fun j x y a c=>?_⟩
 by_cases hj:j < us.length
 .rw[X2 hj]at a;rw[X2 (by rw[<-h.1];exact hj)]at c;exact h.2 j x y a c
 .rw[YY (by omega)]at a;rw[YY (by rw[<-h.1];omega),<-h.1]at c;cases hq:j - us.length with
  |zero=>rw[hq]at a c;cases a;cases c;exact ht
  |succ q=>rw[hq]at a;simp at a
theorem IR{ks:List Ky}{i:Nat}{k:Ky}{p:Ky->Bool}(hk:ks[i]?=some k)(hp:p k=false):(ks.take (i+ 1)).filter p=(ks.take i).filter p:=by
 rw[YJ,hk,YV,YZ,YQ,Y5 (by rw[hp];simp)];simp
theorem Kr(ks:List Ky)(i:Nat)(p:Ky->Bool):((ks.take i).filter p).length <=i:=YF (YE ..) (by rw[Yt];omega)
theorem dC{α:Type}{l:List α}{a:α}(hn:l.Nodup)(h:∀x∈l,x=a):l=[]\/l=[a]:=by
 match l,hn,h with
 |[],_,_=>exact .inl rfl
 |[x],_,h=>exact .inr (by rw[h x (.head _)])
 |x::y::r,hn,h=>exact absurd (Yo.mpr (.inl ((h x (.head _)).trans (h y (.tail _ (.head _))).symm))) (Yv.mp hn).1
inductive O7(C CR CL:WX)(vs:List V)(H:Hp)(Q:VK)(E:XK):Prop|mk (le tk la r dr df dw:WX) (evs:List Ev) (own:Ky) (kA:List Ky) (R:Nf) (_:vs=[.ref le,.ref tk,.ref la,.ref r]) (_:EM CL H le evs) (_:H tk=some (.tup (Th own))) (_:Tb own) (_:D2 H la kA) (_:kA.length <=60) (_:Jg C CR H r dr df dw R) (_:R.es.length < 64) (_:evs.length <=60) (_:(JQ evs).Nodup) (_:(JQ evs).length <=8) (_:(∀k∈JQ evs,Tb k)) (_:(∀k∈JQ evs,(k∈kA/\k∉R.es.map (·.ky))\/k=own)) (_:(∀k∈R.es.map (·.ky),k∈kA\/k=own)) (_:(∀k∈kA,k∉R.es.map (·.ky)->k∈JQ evs)) (_:∀G,Jb H G->Q (.bl true) G)
abbrev EK:Stmt:=top 55
theorem AL:Nm ["_law_events","_law_own","_law_ahead","_law_room","_law_told","_law_event","_law_left","_law_more"] ["_law_events","_law_own","_law_ahead","_law_room"] (J8 EK):=by walk_at"e"
theorem cC{f C CR CL:WX}{fd:WR}(F:Nx K "_law_after" "_law_after" EK f fd)(B:Bt mg)(B7:Fi mg)(LL:C9 K CL)(Tl:T9 P w K mg base CL "key" 1 ["self"] [] (Om CL))(JI:T9 P w K mg base C "kept" 1 ["self"] [] (Ak C CR)):Jj P w K mg base JZ 2 f fd ["_law_events","_law_own","_law_ahead","_law_room"] (O7 C CR CL):=by
 refine F.ok AL (fun vs H Q E h=>?_) (fun cdv A outer s H vs Q E hr h=>?_)
 .obtain⟨le,tk,la,r,dr,df,dw,evs,own,kA,R,rfl,_⟩:=h;rfl
 .obtain⟨le,tk,la,r,dr,df,dw,evs,own,kA,R,rfl,hE,htk,hky,hA,hAl,hR,hrl,hel,hnd,htl,hok,c1,c2,c3,q⟩:=h;refine⟨_,(Jp (B0 (i:=4) (AL).nd rfl (Or.inr rfl) (TZ Jf)) (Jp (RF Xq rfl (Dt (K:=K) rfl (J9 0)) (MB 5 AL) (Jp (GI (NB (NT (MI MG) (Tr K (J9 5) Jt) NY) (Jz (Mv (D5 (K:=K) rfl YM YR YS (R4 GQ) (J9 4) (MV (Tr K (J9 5) Jt) Jf)))) NU)) (Jz (NB (NT (MI MG) (Tr K (J9 5) Jt) NY) (Jz (Mv (D5 (K:=K) rfl YM YR YS (R4 GQ) (J9 4) (MU (MA (Tr K (J9 5) Jt) Tl hr.m) Jf)))) NU)))) (Jp (NB (NT (Bw Bu) (NP Ox B.len (MU (Rb (bA (K:=K) rfl (Room.units hr) rfl) rfl B7.bset (by rfl) (Jk 4 Jf)) Jf)) (NP (Da (Dd (K:=K) rfl)) B.len (Jk 4 Jf))) (Jz (N8 R8)) NU) (Jp (B0 (i:=6) (AL).nd rfl (Or.inr rfl) (Dz (N':=["_law_key_here","_law_room"]) (caps:=[none,some 3]) (MW (sc:=J8 EK) (N:=["_law_events","_law_own","_law_ahead","_law_room","_law_told","_law_event","_law_left","_law_more"]) rfl rfl (by decide +kernel)) rfl (Dt (K:=K) rfl (J9 2)) (fun _ _ _ _ _=>(Ms (i:=0) (MY (N:=["_law_key_here","_law_room"]) rfl (by decide +kernel)) rfl (Or.inl rfl))) (fun _ _ _ _ _=>(RH (GZ (BL (K:=K) (Room.units hr) rfl) (J9 0) (MA (J9 1) JI hr.m) (by with_unfolding_all rfl)))) (fun _ _ _ _ _=>(J9 0)))) (Jp (BV (i:=7) (N':=["_law_key_here","_law_ahead"]) (caps:=[none,some 2]) (MW (sc:=J8 EK) (N:=["_law_events","_law_own","_law_ahead","_law_room","_law_told","_law_event","_law_left","_law_more"]) rfl rfl (by decide +kernel)) rfl (AL).nd rfl (Or.inl rfl) (Dt (K:=K) rfl (MA (J9 3) JI hr.m)) (fun _ _ _ _ _=>(Ms (i:=0) (MY (N:=["_law_key_here","_law_ahead"]) rfl (by decide +kernel)) rfl (Or.inl rfl))) (fun _ _ _ _ _=>(RH (GZ (BL (K:=K) (Room.units hr) rfl) (J9 0) (J9 1) (by with_unfolding_all rfl)))) (fun _ _ _ _ _=>(J9 0)) rfl) (Jp (NB (NT (vT (uR (K:=K) (Room.units hr) rfl)) (Dz (N':=["_law_key_here","_law_left","_law_own"]) (caps:=[none,some 6,some 1]) (MW (sc:=J8 EK) (N:=["_law_events","_law_own","_law_ahead","_law_room","_law_told","_law_event","_law_left","_law_more"]) rfl rfl (by decide +kernel)) rfl (Dt (K:=K) rfl (J9 4)) (fun _ _ _ _ _=>(Ms (i:=0) (MY (N:=["_law_key_here","_law_left","_law_own"]) rfl (by decide +kernel)) rfl (Or.inl rfl))) (fun _ _ _ _ _=>(RH (PW.pt (Rl (GZ (BL (K:=K) (Room.units hr) rfl) (J9 0) (J9 1) (by with_unfolding_all rfl)) (RI (NT (At (K:=K) (Room.units hr) rfl) (J9 0) (J9 2))))))) (fun _ _ _ _ _=>(J9 0))) (TZ Jf)) (Jz (N8 R8)) NU) (Jz (N8 (D9 (MQ (wI (K:=K) (Room.units hr) rfl) (J9 7) (Mn (JM (hs:=BQ) (TZ Jf) (JM (hs:=BQ) (TZ (Jk 1 Jf)) Jf))) (by with_unfolding_all rfl)) (Gq (MQ (Al (AI (K:=K) (Room.units hr) rfl)) (Dz (N':=["_law_key_here","_law_told"]) (caps:=[none,some 4]) (MW (sc:=J8 EK) (N:=["_law_events","_law_own","_law_ahead","_law_room","_law_told","_law_event","_law_left","_law_more"]) rfl rfl (by decide +kernel)) rfl (Dt (K:=K) rfl (J9 6)) (fun _ _ _ _ _=>(Ms (i:=0) (MY (N:=["_law_key_here","_law_told"]) rfl (by decide +kernel)) rfl (Or.inl rfl))) (fun _ _ _ _ _=>(RH (GZ (BL (K:=K) (Room.units hr) rfl) (J9 0) (J9 1) (by with_unfolding_all rfl)))) (fun _ _ _ _ _=>(J9 0))) (TZ Jf) (Dh _)))))))))))),?_⟩;refine JU fun N hN=>?_
  walk_at"rd";refine⟨N0 (by simp),fun lt G0 hlt s0 g0=>hN _ _ ?_⟩;clear hN N;refine JU fun N hN=>?_
  walk_at"rd";obtain⟨xs,exs,hxs⟩:=hE;have hxl:xs.length=evs.length:=hxs.1;have exs0:=s0 _ _ exs;refine⟨⟨_,Jh.of exs0⟩,?_⟩;obtain⟨n,g⟩:∃n:Nat->L2.St->Hp->Prop,n=fun i σ' G=>∃ (v5 v6 v7:Option V) (ts:List Addr),σ'=[some (.ref le),some (.ref tk),some (.ref la),some (.ref r),some (.ref lt),v5,v6,v7]/\Jb H G/\G lt=some (.lst (ts.map V.ref))/\NR G ts (JQ (evs.take i)):=⟨_,rfl⟩
  refine Aw (xs:=xs) n (by rw[g];exact⟨_,_,_,[],rfl,s0,g0,rfl,fun j x y a _=>by simp at a⟩) ?_ ?_ ?_ <;> rw[g]
  .rintro i σ' G _ ⟨_,_,_,ts,rfl,s1,_⟩;exact Jh.of (s1 _ _ exs)
  .rintro i x σ' G hx ⟨v5,v6,v7,ts,rfl,s1,hz,p⟩;rw[<-g];obtain⟨ev,hev,hO⟩:=hxs.get hx;have hi60:i < evs.length:=(Ym.mp hev).1;have et:JQ (evs.take (i+ 1))=JQ (evs.take i)++JQ [ev]:=by rw[YJ,hev,YV,AM]
   have hzl:ts.length <=60:=by
    have h1:=A6 (evs.take i);have h2:ts.length=_:=p.1;rw[Yt]at h1;omega
   have zb:(ts.map V.ref).length < sizeLine:=DK (by rw[Y1];omega);have ty:∀{G':Hp},G' lt=some (.lst (ts.map V.ref))->BI K "list" (.ref lt) G':=fun e=>.inl ⟨rfl,_,Jh.of e⟩
   have bk:∀{G1 G2:Hp},Jb H G1->Nj lt G1 G2->Jb H G2:=fun s b c o e=>b c o (s c o e) (NI e hlt)
   simp only[Gs,List.set_cons_succ,List.set_cons_zero];cases ev with
   |gone k wy=>
    obtain⟨te,tq,rfl,h1,h2⟩:=hO;have h1:=s1 _ _ h1;have h2:=s1 _ _ h2;refine JU fun N1 hN1=>?_
    walk_at"rd";refine⟨fun σ' G'=>Nj lt G G'/\G' lt=some (.lst (ts.map V.ref++[.ref tq]))/\σ'=[some (.ref le),some (.ref tk),some (.ref la),some (.ref r),some (.ref lt),some (.ref te),v6,v7],⟨_,JC.of h1,_,rfl,rfl,?_⟩,fun σ' G' h=>hN1 _ _ ?_⟩
    .rw[Y6 (by simp)];exact⟨ty hz,_,JC.of h1,_,rfl,_,hz,zb,fun G1 b1 e1=>⟨b1,e1,rfl⟩⟩
    .obtain⟨b1,e1,rfl⟩:=h;have h1':=b1 _ _ h1 (Ja h1 hz nofun);walk_at"rd";refine⟨_,JC.of h1',_,rfl,rfl,?_⟩;rw[Y5 (by decide +kernel),g];exact⟨_,_,_,ts++[tq],rfl,bk s1 b1,by rw[e1,List.map_append];rfl,by rw[et];exact p.snoc b1 hz h2⟩
   |late k=>
    obtain⟨te,tq,rfl,h1,h2⟩:=hO;have h1:=s1 _ _ h1;refine JU fun N1 hN1=>?_
    walk_at"rd";refine⟨fun σ' G'=>G'=G/\σ'=[some (.ref le),some (.ref tk),some (.ref la),some (.ref r),some (.ref lt),some (.ref te),v6,v7],⟨_,JC.of h1,_,rfl,rfl,?_⟩,fun σ' G' h=>hN1 _ _ ?_⟩
    .rw[Y5 (by decide +kernel)];exact⟨rfl,rfl⟩
    .obtain⟨rfl,rfl⟩:=h;walk_at"rd";refine⟨_,JC.of h1,_,rfl,rfl,?_⟩;rw[Y5 (by decide +kernel),g];exact⟨_,_,_,ts,rfl,s1,hz,by rw[et];exact(List.append_nil _).symm▸p⟩
   |strange k=>
    obtain⟨te,tq,rfl,h1,h2⟩:=hO;have h1:=s1 _ _ h1;refine JU fun N1 hN1=>?_
    walk_at"rd";refine⟨fun σ' G'=>G'=G/\σ'=[some (.ref le),some (.ref tk),some (.ref la),some (.ref r),some (.ref lt),some (.ref te),v6,v7],⟨_,JC.of h1,_,rfl,rfl,?_⟩,fun σ' G' h=>hN1 _ _ ?_⟩
    .rw[Y5 (by decide +kernel)];exact⟨rfl,rfl⟩
    .obtain⟨rfl,rfl⟩:=h;walk_at"rd";refine⟨_,JC.of h1,_,rfl,rfl,?_⟩;rw[Y5 (by decide +kernel),g];exact⟨_,_,_,ts,rfl,s1,hz,by rw[et];exact(List.append_nil _).symm▸p⟩
   |whole d=>
    obtain⟨te,pl,bl,rfl,h1,h2⟩:=hO;have h1:=s1 _ _ h1;have h2:=h2.mono s1;refine JU fun N1 hN1=>?_
    walk_at"rd";refine⟨fun σ' G'=>G'=G/\σ'=[some (.ref le),some (.ref tk),some (.ref la),some (.ref r),some (.ref lt),some (.ref te),v6,v7],⟨_,JC.of h1,_,rfl,rfl,?_⟩,fun σ' G' h=>hN1 _ _ ?_⟩
    .rw[Y5 (by decide +kernel)];exact⟨rfl,rfl⟩
    .obtain⟨rfl,rfl⟩:=h;walk_at"rd";refine⟨_,JC.of h1,_,rfl,rfl,?_⟩;rw[Y6 (by simp)];refine⟨ty hz,_,JC.of h1,_,rfl,gO h2,pl,bl,d,rfl,h2,fun t2 G2 ht2 s2 g2=>⟨_,s2 _ _ hz,zb,fun G3 b3 e3=>?_⟩⟩;rw[g];exact⟨_,_,_,ts++[t2],rfl,bk (s1.trans s2) b3,by rw[e3,List.map_append];rfl,by rw[et];exact(p.mono s2).snoc b3 (s2 _ _ hz) g2⟩
  .rintro σ' G ⟨v5,v6,v7,ts,rfl,s1,hz,p⟩;refine hN _ _ ?_;clear hN N g n;rw[hxl,Yu (Y8 _)]at p;refine JU fun N hN=>?_
   walk_at"rd";refine⟨ts,Jh.of hz,JQ evs,p.1,fun i t k a b=>p.2 i t k a b,hnd,htl,fun o l G2 hSL hl s2 g2=>⟨o,g2,(JQ evs).length,hSL,by omega,_,.inl (Jh.of (s2 _ _ hz)),rfl,?_⟩⟩
   .have e0:(JQ evs).length=ts.length:=p.1.symm;rw[Y5 (by rw[Y1,e0];simp)];refine hN _ _ ?_;clear hN N;refine JU fun N hN=>?_
    walk_at"rd";obtain⟨tA,eA,dA⟩:=hA.d;have s02:=s1.trans s2;obtain⟨kR,ekR⟩:∃kR,kR=R.es.map (·.ky):=⟨_,rfl⟩;rw[<-ekR]at c1 c2 c3;have hlA:tA.length=kA.length:=dA.1;refine⟨⟨_,Jh.of (s02 _ _ eA)⟩,?_⟩;obtain⟨n,g⟩:∃n:Nat->List V->L2.St->Hp->Prop,n=fun i ys σ' G=>∃ (v:Option V) (u:List Addr),ys=u.map V.ref/\σ'=[v,some (.ref r)]/\Jb G2 G/\NR G u ((kA.take i).filter fun k=> !decide (k∈kR)):=⟨_,rfl⟩
    refine GV (xs:=tA.map V.ref) n (by rw[g];exact⟨_,[],rfl,rfl,Jb.refl _,rfl,fun j x y a _=>by simp at a⟩) ?_ (N0 (by rw[Y1];omega)) ?_ ?_ <;> rw[g]
    .rintro i ys σ' G ⟨v,u,rfl,rfl,s3,hu⟩ _;exact⟨Jh.of (s3 _ _ (s02 _ _ eA)),by rw[Y1,hu.1];exact Kr ..⟩
    .rintro i x ys σ' G hx ⟨v,u,rfl,rfl,s3,hu⟩;rw[<-g];rw[Y9]at hx;obtain⟨tx,htx,rfl⟩:=Ye.mp hx;obtain⟨kx,hkx,gx⟩:=dA.get htx;have gx:=s3 _ _ (s02 _ _ gx);have hRi:=(hR.mono s02).mono s3;walk_at"rd";refine⟨hRi.mt rfl,r,dr,df,dw,R,rfl,hRi,hrl,fun kk lk G4 hkp _ hlk s4 hK=>?_⟩;obtain⟨xs4,exs4,hxs4⟩:=hK.v (K:=K);refine⟨lk,rfl,xs4,kk,_,JC.of (s4 _ _ gx),Jh.of exs4,hxs4,?_⟩;have hm4:kx∈kk↔kx∈kR:=by rw[ekR];exact hkp.mem_iff
     rw[g]
     by_cases hin:kx∈kR
     .rw[Y5 (by simpa using hm4.mpr hin)];exact⟨_,u,rfl,rfl,s3.trans s4,by rw[IR hkx (by simpa using hin)];exact hu.mono s4⟩
     .rw[Y6 (by simpa using fun z=>hin (hm4.mp z))];exact⟨_,u++[tx],by rw[List.map_append];rfl,rfl,s3.trans s4,(hu.mono s4).step (ts:=u) (js:=[]) (s4 _ _ gx) hkx (by simpa using hin)⟩
    .rintro ys σ' G ⟨v,u,rfl,rfl,s3,hu⟩ lL G3 hlL s5 gL;refine hN _ _ ?_;clear hN N g n;rw[Y1,hlA,Yu (Y8 _)]at hu;have s05:=s02.trans (s3.trans s5);have hR5:=hR.mono s05;have dL:=hu.mono s5;have hz5:=(s2.trans (s3.trans s5)) _ _ hz;have dT:=p.mono (s2.trans (s3.trans s5));have hzs':ts.length=(JQ evs).length:=p.1;clear hu s3 s5 s2 g2 hSL e0 hl s1 hz p hlL;refine JU fun N hN=>?_
     walk_at"rd";refine⟨hR5.mt rfl,r,dr,df,dw,R,rfl,hR5,hrl,fun kk lk G6 hkp _ hlk s6 hK=>?_⟩;obtain⟨tK,eK,dK⟩:=hK.d;have hkl:kk.length < 64:=by rw[hkp.length_eq,Y1];exact hrl
     have htK:tK.length=kk.length:=dK.1;have s06:=s05.trans s6;have hkn:kk.Nodup:=hkp.symm.nodup hR.nk;have hkm:∀k,k∈kk↔k∈kR:=fun k=>by rw[ekR];exact hkp.mem_iff
     refine⟨lk,rfl,⟨_,Jh.of eK⟩,?_⟩;obtain⟨n,g⟩:∃n:Nat->List V->L2.St->Hp->Prop,n=fun i ys σ' G=>∃ (v:Option V) (u:List Addr),ys=u.map V.ref/\σ'=[v,some (.ref la)]/\G=G6/\NR G u ((kk.take i).filter fun k=> !decide (k∈kA)):=⟨_,rfl⟩
     refine GV (xs:=tK.map V.ref) n (by rw[g];exact⟨_,[],rfl,rfl,rfl,rfl,fun j x y a _=>by simp at a⟩) ?_ (N0 (by rw[Y1];omega)) ?_ ?_ <;> rw[g]
     .rintro i ys σ' G ⟨v,u,rfl,rfl,rfl,hu⟩ _;exact⟨Jh.of eK,by rw[Y1,hu.1];exact Kr ..⟩
     .rintro i x ys σ' G hx ⟨v,u,rfl,rfl,rfl,hu⟩;rw[<-g];rw[Y9]at hx;obtain⟨tx,htx,rfl⟩:=Ye.mp hx;obtain⟨kx,hkx,gx⟩:=dK.get htx;walk_at"rd";refine⟨_,kA,_,JC.of gx,Jh.of (s06 _ _ eA),(dA.mono s06).v,?_⟩;rw[g]
      by_cases hin:kx∈kA
      .rw[Y5 (by simpa using hin)];exact⟨_,u,rfl,rfl,rfl,by rw[IR hkx (by simpa using hin)];exact hu⟩
      .rw[Y6 (by simpa using hin)];exact⟨_,u++[tx],by rw[List.map_append];rfl,rfl,rfl,hu.step (ts:=u) (js:=[]) gx hkx (by simpa using hin)⟩
     .rintro ys σ' G ⟨v,uM,rfl,rfl,rfl,hu⟩ lM G7 hlM s7 gM;refine hN _ _ ?_;clear hN N g n;rw[Y1,htK,Yu (Y8 _)]at hu;have dM:=hu.mono s7;have s07:=s06.trans s7;have s57:=s6.trans s7;have hlMl:lM≠lt:=NI (s6 _ _ hz5) hlM|>.symm;clear hu;refine JU fun N hN=>?_
      walk_at"rd";have hz7:=s57 _ _ hz5;have dT7:=dT.mono s57;have dL7:=dL.mono s57;have gL7:=s57 _ _ gL;have htk7:=s07 _ _ htk;have htl8:ts.length <=8:=by rw[hzs'];exact htl
      refine⟨⟨_,Jh.of hz7⟩,?_⟩;obtain⟨n,g⟩:∃n:Nat->List V->L2.St->Hp->Prop,n=fun i ys σ' G=>∃ (v:Option V),ys=[]/\σ'=[v,some (.ref lL),some (.ref tk)]/\G=G7:=⟨_,rfl⟩
      refine GV (xs:=ts.map V.ref) n (by rw[g];exact⟨_,rfl,rfl,rfl⟩) ?_ (N0 (by rw[Y1];omega)) ?_ ?_ <;> rw[g]
      .rintro i ys σ' G ⟨v,rfl,rfl,rfl⟩ _;exact⟨Jh.of hz7,Ys _⟩
      .rintro i x ys σ' G hx ⟨v,rfl,rfl,rfl⟩;rw[<-g];rw[Y9]at hx;obtain⟨tx,htx,rfl⟩:=Ye.mp hx;obtain⟨kx,hkx,gx⟩:=dT7.get htx;have hkm':=Yq hkx;walk_at"rd";refine⟨_,_,_,JC.of gx,Jh.of gL7,dL7.v,?_⟩;rcases c1 kx hkm' with⟨z1,z2⟩|z
       .rw[Y5 (by simp[z1,z2]),g];exact⟨_,rfl,rfl,rfl⟩
       .have hkx':=hok kx hkm';refine Mp (fun _=>?_) fun _=>?_
        .refine⟨_,_,Rj gx,Rj htk7,Rw _ hkx'.2.2.1 hkx'.2.2.2,Rw _ hky.2.2.1 hky.2.2.2,_,rfl,?_⟩;rw[AV,Y5 (by simpa using z),g];exact⟨_,rfl,rfl,rfl⟩
        .rw[g];exact⟨_,rfl,rfl,rfl⟩
      .rintro ys σ' G ⟨v,rfl,rfl,rfl⟩ lC G8 hlC s8 gC;refine⟨Ys _,fun p9 G9 hp9 s9 g9=>⟨lC,rfl,[],Jh.of (s9 _ _ gC),Jh.of g9,?_⟩⟩;rw[Y5 (by simp)];refine hN _ _ ?_;clear hN N g n;have s79:=s8.trans s9;walk_at"rd";refine⟨Ys _,fun p0 J0 hp0 t0 j0=>⟨N0 (by decide),fun p1 J1 hp1 t1 j1=>⟨N0 (by decide),fun p2 J2 hp2 t2 j2=>?_⟩⟩⟩;have gM9:=s79 _ _ gM;have tA:=s79.trans (t0.trans (t1.trans t2));have hmore:(kk.filter fun k=> !decide (k∈kA))=[]\/(kk.filter fun k=> !decide (k∈kA))=[own]:=by
        refine dC (hkn.sublist YC) fun k hk=>?_
        obtain⟨h1,h2⟩:=Yf.mp hk;exact(c2 k ((hkm k).mp h1)).resolve_left (by simpa using h2)
       refine⟨p0,p1,JC.of j2,Jh.of (t2 _ _ (t1 _ _ j0)),tk,Jh.of (t2 _ _ j1),uM.map V.ref,kk.filter fun k=> !decide (k∈kA),own,JC.of (tA _ _ htk7),Jh.of (tA _ _ gM),(dM.mono tA).v,Ne.symm (NI gM9 hp0),Ne.symm (NI (t0 _ _ gM9) hp1),?_⟩;rw[Y6 (by simpa using hmore)];have dL8:=dL7.mono tA;have gL8:=tA _ _ gL7;have dT8:=dT7.mono tA;have hz8:=tA _ _ hz7;refine⟨⟨_,Jh.of gL8⟩,?_⟩;have hll:u.length <=60:=by
        rw[dL8.1];exact YF (YE ..) hAl
       obtain⟨n,g⟩:∃n:Nat->List V->L2.St->Hp->Prop,n=fun i ys σ' G=>∃ (v:Option V),ys=[]/\σ'=[v,some (.ref lt)]/\G=J2:=⟨_,rfl⟩
       refine GV (xs:=u.map V.ref) n (by rw[g];exact⟨_,rfl,rfl,rfl⟩) ?_ (N0 (by rw[Y1];omega)) ?_ ?_ <;> rw[g]
       .rintro i ys σ' G ⟨v,rfl,rfl,rfl⟩ _;exact⟨Jh.of gL8,Ys _⟩
       .rintro i x ys σ' G hx ⟨v,rfl,rfl,rfl⟩;rw[<-g];rw[Y9]at hx;obtain⟨tx,htx,rfl⟩:=Ye.mp hx;obtain⟨kx,hkx,gx⟩:=dL8.get htx;obtain⟨h1,h2⟩:=Yf.mp (Yq hkx);have h3:=c3 kx h1 (by simpa using h2);walk_at"rd";refine⟨_,JQ evs,_,JC.of gx,Jh.of hz8,dT8.v,?_⟩;rw[Y5 (by simpa using h3),g];exact⟨_,rfl,rfl,rfl⟩
       .rintro ys σ' G ⟨v,rfl,rfl,rfl⟩ lF K8 hlF u8 kF;refine⟨Ys _,fun p9 K9 hp9 u9 k9=>⟨lF,rfl,[],Jh.of (u9 _ _ kF),Jh.of k9,?_⟩⟩;exact q K9 (s07.trans (tA.trans (u8.trans u9)))
end
def Md(H G:Hp):Prop:=∀c o,H c=some o->(∀C dx fs,o≠ .ins C dx fs)->(∀l,o≠ .dT l)->(∀l,o≠ .dK l)->(∀oo l,o≠ .frz oo (.dT l))->G c=some o
theorem Md.of{H G:Hp}(s:Jb H G):Md H G:=fun c o h _ _ _ _=>s c o h
section
variable{P:WP}{w:WU}{K:WV}{mg:WL}{base:J6}
end
section
variable{P:WP}{w:WU}{K:WV}{mg:WL}{base:J6}
def DS(k:Ky):PyData:=R5 k.1 k.2.1 k.2.2
theorem Io{G:Hp}:∀{zs:List V} {ks:List Ky},Pw (fun x k=>∃t,x=V.ref t/\G t=some (.tup (Th k))) zs ks->Td K G zs (ks.map DS)
 |[],[],_=>.nil
 |[],_::_,h=>absurd h.1 (by simp)
 |_::_,[],h=>absurd h.1 (by simp)
 |x::zs,k::ks,h=>by
  obtain⟨t,rfl,ht⟩:=h.2 0 x k rfl rfl;exact .cons (Rj ht) (Io ⟨by have:=h.1;simpa using this,fun j x y a b=>h.2 (j+ 1) x y (by simpa using a) (by simpa using b)⟩)
theorem QO{ks:List Ky}(h:∀k∈ks,Tb k):SeqAt.shaped (.list (ks.map DS))=true:=by
 have h1:∀c:List Ky,(∀k∈c,Tb k)->PyData.canLayAll0 (c.map DS)=true:=fun c=>by
  induction c with
  |nil=>exact fun _=>rfl
  |cons p r ih=>
   intro b;have a:=b p (.head _);simp[PyData.canLayAll0,PyData.canLay0,DS,a.2.2.1.ok,a.2.2.2.ok,ih fun k e=>b k (.tail _ e)]
 have h2:∀c:List Ky,PyData.depthAll (c.map DS) <=6:=fun c=>by
  induction c with
  |nil=>simp[PyData.depthAll]
  |cons p r ih=>simp[PyData.depthAll,PyData.depth,DS];omega
 have f:=h2 ks;simp[SeqAt.shaped,PyData.canLay0,h1 ks h,PyData.depth];omega
theorem d6(ks:List Ky):PyData.eqv (.list (ks.map DS)) (.list (ks.map DS))=true:=by
 have h:∀c:List Ky,PyData.eqvAll (c.map DS) (c.map DS)=true:=fun c=>by
  induction c with
  |nil=>simp[PyData.eqvAll]
  |cons p r ih=>
   show(PyData.eqv (DS p) (DS p) && PyData.eqvAll (r.map DS) (r.map DS))=true;unfold DS at ih ⊢;rw[bY,ih];rfl
 exact h ks
inductive OV(C:WX)(vs:List V)(H:Hp)(Q:VK)(E:XK):Prop|mk (ru out ag:Str) (wt sp:Int) (_:vs=[.str ru,.int wt,.int sp,.str out,.str ag]) (_:(ru="first"\/ru="last"\/ru="refuse")) (_:1 <=wt) (_:1 <=sp) (_:(out="oldest"\/out="widest"\/out="own")) (_:(ag="fresh"\/ag="rest")) (_:∀m dr df dw G,Jb H G->H m=none->H dr=none->H df=none->H dw=none->(∀CR,Jg C CR G m dr df dw ⟨ru,wt,sp,out,ag,0,[],[]⟩)->Q (.ref m) G)
theorem tI{C:WX}(F:GJ P w K mg base "Room" C 3 ["self","rule","wait","space","out","again"] [] (Qo C)):Go P w K mg base "Room" 3 (OV C):=by
 refine F.ct fun vs H Q h y dx G a hdx hn s i=>?_
 obtain⟨ru,out,z,f,sp,rfl,h1,h2,p,n,j,q⟩:=h;exact⟨y,dx,ru,out,z,f,sp,rfl,i,h1,h2,p,n,j,fun dr df dw G2 x u r b g=>⟨rfl,q y dr df dw G2 (fun c o e=>b c o (s c o e) (NI e a)) a (s.free x) (s.free u) (s.free r) g⟩⟩
theorem tV{a b:Int×Ky}(h1:JR b a=false)(h2:JR a b=false):a=b:=by
 have e:¬JR b a=true:=by rw[h1];exact Yj
 have c:¬JR a b=true:=by rw[h2];exact Yj
 rw[Tg]at e c;have f:a.1=b.1:=by
  have j:=fun z=>e (.inl z)
  have i:=fun z=>c (.inl z)
  omega
 have h:Mw b.2 a.2=false:=X8.mpr fun z=>e (.inr ⟨f.symm,z⟩)
 have g:Mw a.2 b.2=false:=X8.mpr fun z=>c (.inr ⟨f,z⟩)
 exact Ul f (Ix g h)
theorem cO{C CR r dr df dw:WX}{H G:Hp}{R R0:Nf}(h:Jg C CR H r dr df dw R)(e0:R0.es=R.es)(k:MS R0 r dr df dw H G):Md H G:=fun c o a f b g _=>k c o a fun z=>by
 obtain⟨dx,fs,j,_⟩:=h.ex;rcases z with z|z|z|z|⟨e,he,z⟩
 .rw[z,j]at a;cases a;exact f _ _ _ rfl
 .rw[z,h.dR]at a;cases a;exact b _ rfl
 .rw[z,h.dF]at a;cases a;exact b _ rfl
 .rw[z,h.dW]at a;cases a;exact b _ rfl
 .rw[e0]at he;have r:=h.rd e he;obtain⟨_,_,i,_⟩:=r.ex;rcases z with z|z
  .rw[z,i]at a;cases a;exact f _ _ _ rfl
  .rw[z,r.dk]at a;cases a;exact g _ rfl
theorem Md.l{H G:Hp}(k:Md H G){c:WX}{xs:List V}(h:H c=some (.lst xs)):G c=some (.lst xs):=k _ _ h (fun _ _ _ z=>by cases z) (fun _ z=>by cases z) (fun _ z=>by cases z) (fun _ _ z=>by cases z)
theorem Md.t{H G:Hp}(k:Md H G){c:WX}{xs:List V}(h:H c=some (.tup xs)):G c=some (.tup xs):=k _ _ h (fun _ _ _ z=>by cases z) (fun _ z=>by cases z) (fun _ z=>by cases z) (fun _ _ z=>by cases z)
end
theorem QH{l m:WY}(h:l.Perm m):l.sum=m.sum:=by
 induction h with
 |nil=>rfl
 |cons x _ ih=>rw[Xb,Xb,ih]
 |swap x y l=>rw[Xb,Xb,Xb,Xb];omega
 |trans _ _ h1 h2=>rw[h1,h2]
structure D1(A:List AE)(S:List SE):Prop where
 pm:(S.map (·.ky)).Perm (A.map (·.1))
 nk:(A.map (·.1)).Nodup
 ns:∀e∈S,∀a∈A,a.1=e.ky->e.ns.Perm (DE a.2.1)
theorem FL{S:List SE}(hn:(S.map (·.ky)).Nodup){e:SE}(he:e∈S):M5 S e.ky=e.ns:=by
 unfold M5;have:S.find? (fun x=>decide (x.ky=e.ky))=some e:=by
  induction S with
  |nil=>exact nomatch he
  |cons x r ih=>
   obtain⟨h1,h2⟩:=Yv.mp hn;rw[YG];rcases Yo.mp he with z|z
   .rw[z,Yh rfl]
   .rw[Yk (fun q:x.ky=e.ky=>h1 (Y3.mpr ⟨e,z,q.symm⟩))];exact ih h2 z
 rw[this];rfl
theorem wV{S:List SE}{k:Ky}(h:k∉S.map (·.ky)):M5 S k=[]:=by
 unfold M5;rw [Xz.mpr fun x a => by
  have:x.ky≠k:=fun e=>h (Y3.mpr ⟨x,a,e⟩)
  simpa using this]
 rfl
section
variable{A:List AE}{S:List SE}
theorem D1.row(h:D1 A S){a:AE}(ha:a∈A):∃e∈S,e.ky=a.1/\e.ns.Perm (DE a.2.1):=by
 obtain⟨e,b,c⟩:=Y3.mp (h.pm.symm.mem_iff.mp (Y3.mpr ⟨a,ha,rfl⟩));exact⟨e,b,c,h.ns e b a ha c.symm⟩
theorem D1.sz(h:D1 A S){a:AE}(ha:a∈A):Gu S a.1=a.2.1.st.length:=by
 obtain⟨e,c,f,b⟩:=h.row ha;unfold Gu;rw[<-f,FL (h.pm.symm.nodup h.nk) c,b.length_eq,FD]
theorem D1.sum(h:D1 A S)(k:Ky):BM S k=NX (Je A k):=by
 have b:=h.pm.symm.nodup h.nk;have i:(S.filter fun e=> !decide (e.ky=k)).map (fun e=>(e.ns.length:Int))=((S.map (·.ky)).filter fun j=> !decide (j=k)).map (Gu S):=by
  rw[XM,Yw];apply YI;intro e c;have:=FL b (Yf.mp c).1;show(e.ns.length:Int)=Gu S e.ky;unfold Gu;rw[this]
 have g:(Je A k).map (fun a=>(a.2.1.st.length:Int))=((A.map (·.1)).filter fun j=> !decide (j=k)).map (Gu S):=by
  unfold Je;rw[XM,Yw];apply YI;intro a f;exact(h.sz (Yf.mp f).1).symm
 unfold BM NX;rw[i,g];exact QH ((h.pm.filter _).map _)
theorem D1.tot(h:D1 A S):(S.map fun e=>(e.ns.length:Int)).sum=NX A:=by
 have b:=h.pm.symm.nodup h.nk;have i:S.map (fun e=>(e.ns.length:Int))=(S.map (·.ky)).map (Gu S):=by
  rw[Yw];apply YI;intro e c;have:=FL b c;show(e.ns.length:Int)=Gu S e.ky;unfold Gu;rw[this]
 have g:A.map (fun a=>(a.2.1.st.length:Int))=(A.map (·.1)).map (Gu S):=by
  rw[Yw];apply YI;intro a f;exact(h.sz f).symm
 unfold NX;rw[i,g];exact QH (h.pm.map _)
end
theorem OR{xs:List AE}{k:Ky}{rs:RS}{t:Int}{y:AE}(h:y∈Ju xs k rs t)(hk:y.1=k):y.2.1=rs:=by
 unfold Ju at h
 split at h
 .obtain⟨x,_,rfl⟩:=Y3.mp h
  split at hk
  .rename_i hx;rw[Y6 hx]
  .contradiction
 .rename_i hn
  rcases Yp.mp h with z|z
  .exact absurd (Y3.mpr ⟨y,z,hk⟩) hn
  .rw[Yb.mp z]
theorem Li(xs:List AE)(k:Ky)(rs:RS)(t:Int):k∈(Ju xs k rs t).map (·.1):=by
 rw[Ey]
 split
 .assumption
 .exact Yx _ (.head _)
theorem gQ(xs:List AE)(k:Ky)(rs:RS)(t:Int):M7 (Ju xs k rs t) k=rs.st.length:=by
 unfold M7;cases e:(Ju xs k rs t).find? fun x=>decide (x.1=k) with
 |none=>
  obtain⟨y,a,b⟩:=Y3.mp (Li xs k rs t);have:=Xz.mp e y a;simp[b]at this
 |some y=>
  have h1:=OR (X9 e) (by simpa using VF e);show((y.2.1.st.length:Nat):Int)=_;rw[h1]
theorem Qh{xs:List AE}(h:(xs.map (·.1)).Nodup)(k:Ky)(rs:RS)(t:Int):((Ju xs k rs t).map (·.1)).Nodup:=by
 rw[Ey]
 split
 .exact h
 .rename_i hk
  exact Xd.mpr ⟨h,by simp,fun u b v a e=>hk (by rw[Yb.mp a]at e;rw[<-e];exact b)⟩
def JT:List Ev->List Ky
 |[]=>[]
 | .gone k w::r=>if w="room" then k::JT r else JT r
 | .whole _::r=>JT r
 | .late _::r=>JT r
 | .strange _::r=>JT r
theorem Ae:∀ (a b:List Ev),JT (a++b)=JT a++JT b
 |[],_=>rfl
 | .gone k w::r,b=>by
  show(if w="room" then k::JT (r++b) else JT (r++b))=(if w="room" then k::JT r else JT r)++JT b;rw[Ae r b]
  split <;> rfl
 | .whole d::r,b=>Ae r b
 | .late _::r,b=>Ae r b
 | .strange _::r,b=>Ae r b
theorem BD:∀a:List Ev,(JT a).length <=a.length
 |[]=>Y8 _
 | .gone k w::r=>by
  have:=BD r;unfold JT
  split
  .exact Up this
  .exact XH this
 | .whole d::r=>XH (BD r)
 | .late _::r=>XH (BD r)
 | .strange _::r=>XH (BD r)
def Qm(out:Str)(sp:Int)(d:PD)(A:List AE)(S:List SE)(A':List AE)(ks:List Ky):Prop:=ks=[]\/∃rs now,Pt out sp d.key (Ju A d.key rs now) A' ks/\(DE rs).Nodup/\∀n,n∈DE rs↔n∈M5 S d.key\/d.at' <=n/\n < d.at'+ d.ns.length
section
variable{P:WP}{w:WU}{K:WV}{mg:WL}{base:J6}
theorem NR.snoc1{G:Hp}{ts:List Addr}{ks:List Ky}{t:WX}{k:Ky}(h:NR G ts ks)(ht:G t=some (.tup (Th k))):NR G (ts++[t]) (ks++[k]):=by
 refine⟨by rw[Yl,Yl,h.1];rfl,fun j x y a c=>?_⟩
 by_cases hj:j < ts.length
 .rw[X2 hj]at a;rw[X2 (by rw[<-h.1];exact hj)]at c;exact h.2 j x y a c
 .rw[YY (by omega)]at a;rw[YY (by rw[<-h.1];omega),<-h.1]at c;cases hq:j - ts.length with
  |zero=>rw[hq]at a c;cases a;cases c;exact ht
  |succ q=>rw[hq]at a;simp at a
theorem NR.zs{G:Hp}{ts:List Addr}{ks:List Ky}(h:NR G ts ks):Pw (fun x k=>∃t,x=V.ref t/\G t=some (.tup (Th k))) (ts.map V.ref) ks:=by
 refine⟨by rw[Y1];exact h.1,fun j x y a b=>?_⟩;rw[Y9]at a;obtain⟨t,c,rfl⟩:=Ye.mp a;exact⟨t,rfl,h.2 j t y c b⟩
theorem Sn:∀l:List Int,(∀x∈l,0 <=x)->0 <=l.sum
 |[],_=>U6 _
 |x::r,h=>by
  have h1:=Sn r fun y a=>h y (.tail _ a)
  have h2:=h x (.head _);rw[Xb];omega
theorem NR.take{G:Hp}{ts:List Addr}{ks:List Ky}(h:NR G ts ks)(i:Nat):NR G (ts.take i) (ks.take i):=by
 refine⟨by rw[Yt,Yt,h.1],fun j x y a b=>?_⟩
 by_cases hj:j < i
 .rw[W2 hj]at a b;exact h.2 j x y a b
 .rw[List.getElem?_take,Y5 hj]at a;cases a
theorem MP.mono{G G2:Hp}{x:V}{q:Int×Ky}(s:Jb G G2)(h:MP G x q):MP G2 x q:=by
 obtain⟨t,b,e,c,a⟩:=h;exact⟨t,b,e,s _ _ c,s _ _ a⟩
def GY(out:Str)(A:List AE)(S:List SE)(k:Ky):Int:=if out="oldest" then((A.find? fun a=>decide (a.1=k)).map (·.2.2)).getD 0 else 0 - Gu S k
theorem O5{A:List AE}(hn:(A.map (·.1)).Nodup){a:AE}(ha:a∈A):A.find? (fun x=>decide (x.1=a.1))=some a:=by
 induction A with
 |nil=>exact nomatch ha
 |cons x r ih=>
  obtain⟨h1,h2⟩:=Yv.mp hn;rw[YG];rcases Yo.mp ha with z|z
  .rw[z,Yh rfl]
  .rw[Yk (fun q:x.1=a.1=>h1 (Y3.mpr ⟨a,z,q.symm⟩))];exact ih h2 z
theorem Kt{out:Str}{A:List AE}{S:List SE}(h:D1 A S){a:AE}(ha:a∈A):GY out A S a.1=if out="oldest" then a.2.2 else -(a.2.1.st.length:Int):=by
 unfold GY;rw[O5 h.nk ha,h.sz ha]
 split
 .rfl
 .omega
theorem tY{A:List AE}(hn:(A.map (·.1)).Nodup){a:AE}(ha:a∈A):M7 A a.1=a.2.1.st.length:=by
 unfold M7;rw[O5 hn ha];rfl
inductive Ir(C CR CL:WX)(vs:List V)(H:Hp)(Q:VK)(E:XK):Prop|mk (rl le t tk b la ds db r dr df dw:WX) (sp:Int) (out:Str) (evs:List Ev) (d:PD) (kA:List Ky) (A:List AE) (S:List SE) (Bg:List (Ky×Int)) (R:Nf) (_:vs=[.ref rl,.ref le,.ref t,.ref la,.ref ds,.ref db,.ref r]) (_:H rl=some (.tup [.int sp,.str out])) (_:EM CL H le evs) (_:evs.length <=60) (_:R6 H t tk b d) (_:Tb d.key) (_:d.ns.length <=41) (_:D2 H la kA) (_:kA.Perm (A.map (·.1))) (_:A.length <=60) (_:(∀a∈A,Tb a.1)) (_:(∀e∈S,e.ns.length <=2100)) (_:DJ H ds S) (_:D1 A S) (_:H db=some (.dT (M4 (fun p:Ky×Int=>p.1) (fun p=>.int p.2) Bg))) (_:(Bg.map (·.1)).Nodup) (_:(∀a∈A,(a.1,a.2.2)∈Bg)) (_:Jg C CR H r dr df dw R) (_:R.es.length <=60) (_:(∀e∈R.es,e.rs.st.length <=100000)) (_:Qm out sp d A S (Jc R.es) (JT evs)) (_:(∀k∈JT evs,Tb k)) (_:∀G,Jb H G->Q (.bl true) G)
abbrev EJ:Stmt:=top 54
theorem EA:Nm ["_law_rules","_law_events","_law_piece_here","_law_ahead","_law_sizes","_law_begun","_law_room","_law_own","_law_gone","_law_k","_law_others","_law_due"] ["_law_rules","_law_events","_law_piece_here","_law_ahead","_law_sizes","_law_begun","_law_room"] (J8 EJ):=by walk_at"e"
theorem eL{f C CR CL:WX}{fd:WR}(F:Nx K "_law_gone_right" "_law_gone_right" EJ f fd)(B:Bt mg)(TF:Tk P w K mg base "_law_size" 1 ["_law_bytes_here","_law_key_here"] [] OW)(MJ:Tk P w K mg base "_law_own_too_much" 1 ["_law_rules","_law_piece_here","_law_sizes"] [] OF)(Js:T9 P w K mg base C "bytes_kept" 2 ["self"] [] (Aq C CR)):Jj P w K mg base JZ 3 f fd ["_law_rules","_law_events","_law_piece_here","_law_ahead","_law_sizes","_law_begun","_law_room"] (Ir C CR CL):=by
 refine F.ok EA (fun vs H Q E h=>?_) (fun cdv A outer s H vs Q E hr h=>?_)
 .obtain⟨rl,le,t,tk,b,la,ds,db,r,dr,df,dw,sp,out,evs,d,kA,A,S,Bg,R,rfl,_⟩:=h;rfl
 .obtain⟨rl,le,t,tk,b,la,ds,db,r,dr,df,dw,sp,out,evs,d,kA,A,S,Bg,R,rfl,hrl,hE,hel,hP,hky,hdl,hA,hAp,hAl,hAk,hSb,hS,hLk,hB,hBn,hBa,hR,hRl,hRs,hW,hgk,q⟩:=h;refine⟨_,(Jp (B0 (i:=7) (EA).nd rfl (Or.inr rfl) (Tr K (J9 2) Jt)) (Jp (B0 (i:=8) (EA).nd rfl (Or.inr rfl) (Dz (N':=["_law_event"]) (caps:=[none]) (MW (sc:=J8 EJ) (N:=["_law_rules","_law_events","_law_piece_here","_law_ahead","_law_sizes","_law_begun","_law_room","_law_own","_law_gone","_law_k","_law_others","_law_due"]) rfl rfl (by decide +kernel)) rfl (Dt (K:=K) rfl (J9 1)) (fun _ _ _ _ _=>(Ms (i:=0) (MY (N:=["_law_event"]) rfl (by decide +kernel)) rfl (Or.inl rfl))) (fun _ _ _ _ _=>(RH (PW.pt (Rl (NT (MI MG) (Tr K (J9 0) Jt) NY) (RI (NT (MI MG) (Tr K (J9 0) Jt) NY)))))) (fun _ _ _ _ _=>(Tr K (J9 0) Jt)))) (Jp (NB (GZ (Q7 (K:=K) (Room.units hr) rfl) (J9 7) (J9 8) (by with_unfolding_all rfl)) (Jz (N8 (D9 (MQ (tE (K:=K) (Room.units hr) rfl) (J9 8) (TZ (Jk 7 Jf)) (Dh _)) (Gq (T7 MJ hr.m rfl (Jk 0 (Jk 2 (Jk 4 Jf)))))))) NU) (Jp (NB (NT (MI MG) (Tr K (J9 0) Jt) NY) (Jz (N8 (MQ (Al (AI (K:=K) (Room.units hr) rfl)) (J9 8) (TZ Jf) (Dh _)))) NU) (Jp (RF Xq rfl (BA rfl B.range (MU (NP (Da (Dd (K:=K) rfl)) B.len (Jk 8 Jf)) Jf)) (Ms (i:=9) (EA).nd rfl (Or.inr rfl)) (Jp (BV (i:=10) (N':=["_law_key_here","_law_own","_law_gone","_law_k"]) (caps:=[none,some 7,some 8,some 9]) (MW (sc:=J8 EJ) (N:=["_law_rules","_law_events","_law_piece_here","_law_ahead","_law_sizes","_law_begun","_law_room","_law_own","_law_gone","_law_k","_law_others","_law_due"]) rfl rfl (by decide +kernel)) rfl (EA).nd rfl (Or.inl rfl) (Dt (K:=K) rfl (J9 3)) (fun _ _ _ _ _=>(Ms (i:=0) (MY (N:=["_law_key_here","_law_own","_law_gone","_law_k"]) rfl (by decide +kernel)) rfl (Or.inl rfl))) (fun _ _ _ _ _=>(RH (PW.pt (Rl (GZ (BL (K:=K) (Room.units hr) rfl) (J9 0) (QP (Si (QS (K:=K) rfl)) (J9 2) dS (Iq (J9 3))) (by with_unfolding_all rfl)) (RI (NT (At (K:=K) (Room.units hr) rfl) (J9 0) (J9 1))))))) (fun _ _ _ _ _=>(J9 0)) rfl) (Jp (GI (NB (NT (MI MG) (Tr K (J9 0) Jt) NY) (Jz (T6 11 EA (Tr K (NP (FE (K:=K) rfl (Room.units hr) rfl) B.min (JM (hs:=Rz) (Dz (N':=["_law_key_here","_law_begun"]) (caps:=[none,some 5]) (MW (sc:=J8 EJ) (N:=["_law_rules","_law_events","_law_piece_here","_law_ahead","_law_sizes","_law_begun","_law_room","_law_own","_law_gone","_law_k","_law_others","_law_due"]) rfl rfl (by decide +kernel)) rfl (Dt (K:=K) rfl (J9 10)) (fun _ _ _ _ _=>(Ms (i:=0) (MY (N:=["_law_key_here","_law_begun"]) rfl (by decide +kernel)) rfl (Or.inl rfl))) (fun _ _ _ _ _=>GS) (fun _ _ _ _ _=>(Mn (MV (GX hr (J9 1) (J9 0)) (Jk 0 Jf))))) Jf)) Jt))) (Jz (T6 11 EA (Tr K (NP (FE (K:=K) rfl (Room.units hr) rfl) B.min (JM (hs:=Rz) (Dz (N':=["_law_key_here","_law_sizes"]) (caps:=[none,some 4]) (MW (sc:=J8 EJ) (N:=["_law_rules","_law_events","_law_piece_here","_law_ahead","_law_sizes","_law_begun","_law_room","_law_own","_law_gone","_law_k","_law_others","_law_due"]) rfl rfl (by decide +kernel)) rfl (Dt (K:=K) rfl (J9 10)) (fun _ _ _ _ _=>(Ms (i:=0) (MY (N:=["_law_key_here","_law_sizes"]) rfl (by decide +kernel)) rfl (Or.inl rfl))) (fun _ _ _ _ _=>GS) (fun _ _ _ _ _=>(Mn (JM (hs:=DR) (N6 (NG Oy) Jt (T7 TF hr.m rfl (Jk 1 (Jk 0 Jf)))) (Jk 0 Jf))))) Jf)) Jt))))) (Jz (NB (NT (At (K:=K) (Room.units hr) rfl) (De K (J9 8) (J9 9)) (J9 11)) (Jz (N8 R8)) NU))))) (Jp (NB (NT (Al (AI (K:=K) (Room.units hr) rfl)) (J9 8) (TZ Jf)) (Jz (N8 R8)) NU) (Jz (N8 (MQ (NG E3) (N6 (NG Mz) (MA (J9 6) Js hr.m) (T7 TF hr.m rfl (Jk 4 (MV (De K (J9 8) (Qy Qu Jt)) Jf)))) (Tr K (J9 0) Jt) (Dh _)))))))))),?_⟩;refine JU fun N hN=>?_
  walk_at"rd";refine⟨_,JC.of hP.tp,_,rfl,hN _ _ ?_⟩;clear hN N;obtain⟨ks,eks⟩:∃ks,ks=JT evs:=⟨_,rfl⟩;rw[<-eks]at hW hgk;refine JU fun N hN=>?_
  walk_at"rd";obtain⟨xs,exs,hxs⟩:=hE;have hxl:xs.length=evs.length:=hxs.1;refine⟨⟨_,Jh.of exs⟩,?_⟩;obtain⟨Pv,ePv⟩:∃Pv:Nat->List V->L2.St->Hp->Prop,Pv=fun i ys σ' G=>∃ (v:Option V) (us:List Addr),ys=us.map V.ref/\σ'=[v]/\G=H/\NR G us (JT (evs.take i)):=⟨_,rfl⟩
  refine GV (xs:=xs) Pv (by rw[ePv];exact⟨_,[],rfl,rfl,rfl,rfl,fun j x y a _=>by simp at a⟩) ?_ (N0 (by omega)) ?_ ?_ <;> rw[ePv]
  .rintro i ys σ' G ⟨v,us,rfl,rfl,rfl,hu⟩ _;exact⟨Jh.of exs,by rw[Y1,hu.1];exact YF (BD _) (by rw[Yt];omega)⟩
  .rintro i x ys σ' G hx ⟨v,us,rfl,rfl,rfl,hu⟩;rw[<-ePv];obtain⟨ev,hev,hO⟩:=hxs.get hx;have et:JT (evs.take (i+ 1))=JT (evs.take i)++JT [ev]:=by rw[YJ,hev,YV,Ae]
   cases ev with
   |gone k wy=>
    obtain⟨te,tq,rfl,h1,h2⟩:=hO;walk_at"rd";refine⟨_,JC.of h1,_,rfl,rfl,?_⟩;rw[Y6 (by simp)];refine⟨_,JC.of h1,_,rfl,rfl,?_⟩;rw[ePv]
    by_cases hw:wy="room"
    .have e1:JT [.gone k wy]=[k]:=by show(if wy="room" then [k] else [])=_;rw[Y6 hw]
     rw[Y6 (by simp[hw])];refine⟨_,JC.of h1,_,rfl,_,us++[tq],by rw[List.map_append];rfl,rfl,rfl,?_⟩;rw[et,e1];exact hu.snoc1 h2
    .have e1:JT [.gone k wy]=[]:=by show(if wy="room" then [k] else [])=_;rw[Y5 hw]
     rw[Y5 (by simpa using hw)];exact⟨_,us,rfl,rfl,rfl,by rw[et,e1,List.append_nil];exact hu⟩
   |late k=>
    obtain⟨te,tq,rfl,h1,h2⟩:=hO;walk_at"rd";refine⟨_,JC.of h1,_,rfl,rfl,?_⟩;rw[Y5 (by decide +kernel),ePv];exact⟨_,us,rfl,rfl,rfl,by rw[et];exact(List.append_nil _).symm▸hu⟩
   |strange k=>
    obtain⟨te,tq,rfl,h1,h2⟩:=hO;walk_at"rd";refine⟨_,JC.of h1,_,rfl,rfl,?_⟩;rw[Y5 (by decide +kernel),ePv];exact⟨_,us,rfl,rfl,rfl,by rw[et];exact(List.append_nil _).symm▸hu⟩
   |whole d=>
    obtain⟨te,pl,bl,rfl,h1,h2⟩:=hO;walk_at"rd";refine⟨_,JC.of h1,_,rfl,rfl,?_⟩;rw[Y5 (by decide +kernel),ePv];exact⟨_,us,rfl,rfl,rfl,by rw[et];exact(List.append_nil _).symm▸hu⟩
  rintro ys σ' G ⟨v,us,rfl,rfl,rfl,hu⟩ lg G1 hlg s1 gg;refine hN _ _ ?_;clear hN N ePv Pv;rw[hxl,Yu (Y8 _),<-eks]at hu;have dG:=hu.mono s1;clear hu hxs exs hxl;have hrl:=s1 _ _ hrl;have hP:=hP.mono s1;have hS:=hS.mono s1;have hB:=s1 _ _ hB;have hR:=hR.mono s1;obtain⟨tA,eA,dA⟩:=hA.d;have eA:=s1 _ _ eA;have dA:=dA.mono s1;have q:∀G,Jb G1 G->Q (.bl true) G:=fun G s=>q G (s1.trans s)
  clear s1 hlg hA;have hgl:us.length=ks.length:=dG.1;have hAk':∀k∈kA,Tb k:=fun k hk=>by obtain⟨a,ha,rfl⟩:=Y3.mp (hAp.mem_iff.mp hk);exact hAk a ha
  have hkl:ks.length <=60:=by rw[eks];exact YF (BD _) hel
  refine JU fun N hN=>?_
  walk_at"rd";refine⟨_,ks,_,JC.of hP.ky,Jh.of gg,dG.v,?_⟩
  by_cases hin:d.key∈ks
  .rw[Y6 (by simpa using hin)];rcases hW with z|⟨rs,now,W,hsn,hsm⟩
   .rw[z]at hin;exact nomatch hin
   .obtain⟨hk1,hk2⟩:=W.ow hin;refine⟨N0 (by decide),fun p G2 hp s2 g2=>?_⟩;have hkk:∀k∈[d.key],Tb k:=fun k hk=>by rw[Yb.mp hk];exact hky
    rw[hk1]at dG hgk;refine⟨_,_,.lst (Jh.of (s2 _ _ gg)) (Io (dG.mono s2).zs),.lst (Jh.of g2) (Io ⟨rfl,fun j x y a b=>?_⟩),QO hkk,QO (ks:=[d.key]) hkk,_,rfl,?_⟩
    .cases j with
     |zero=>cases a;cases b;exact⟨_,rfl,s2 _ _ hP.ky⟩
     |succ j=>simp at a
    rw[d6,Y6 rfl];refine⟨rl,t,tk,b,ds,sp,out,d,S,rfl,s2 _ _ hrl,hP.mono s2,hS.mono s2,hky,?_,?_,hdl,fun m G3 hnd hm s3=>?_⟩
    .have h1:=hLk.pm.length_eq;rw[Y1,Y1]at h1;omega
    .refine fun e he=>⟨?_,hSb e he⟩
     obtain⟨a,ha,ea⟩:=Y3.mp (hLk.pm.mem_iff.mp (Y3.mpr ⟨e,he,rfl⟩));rw[<-ea];exact hAk a ha
    .have hml:m.length=rs.st.length:=by
      rw[<-FD];exact((Ue hnd hsn).mpr fun n=>(hm n).trans (hsm n).symm).length_eq
     have hdec:decide (sp < (m.length:Int)+ (if out="own" then BM S d.key else 0))=true:=by
      refine Yh ?_;rw[hml,<-gQ A d.key rs now];have hnn:0 <=NX (Je A d.key):=by
       unfold NX;exact(Sn _ fun x hx=>by obtain⟨a,_,rfl⟩:=Y3.mp hx;exact Int.natCast_nonneg _)
      rcases hk2 with z|⟨z1,z2⟩
      .split
       .rw[hLk.sum];omega
       .omega
      .rw[Y6 z1,hLk.sum];rw[HQ (Qh hLk.nk d.key rs now) (Li A d.key rs now),Am]at z2;omega
     rw[hdec];exact q G3 (s2.trans s3)
  .rw[Y5 (by simpa using hin)];refine hN _ _ ?_;clear hN N;refine JU fun N hN=>?_
   walk_at"rd";refine⟨_,JC.of hrl,_,rfl,rfl,?_⟩
   by_cases ho:out="own"
   .rw[Y6 (by simp[ho])];have hk0:ks=[]:=hW.elim id fun⟨_,_,W,_⟩=>W.nil ho hin
    refine⟨Ys _,fun p G2 hp s2 g2=>⟨_,Jh.of (s2 _ _ gg),Jh.of g2,?_⟩⟩;rw[Y1,hgl,hk0,Yh (show([]:List Ky).length=0 from rfl)];exact q G2 s2
   .rw[Y5 (by simpa using ho)];refine hN _ _ ?_;clear hN N
    -- each one that went was due
    have hdue:∀ (i:Nat) k,ks[i]?=some k->EE out d.key (R1 A (ks.take i)) k:=fun i k hk=>by
     rcases hW with z|⟨rs,now,W,_⟩
     .rw[z]at hk;simp at hk
     .exact yB (W.due hin i k hk)
    refine JU fun N hN=>?_
    walk_at"rd";refine⟨_,.inl (Jh.of gg),?_⟩;obtain⟨Pv,ePv⟩:∃Pv:Nat->L2.St->Hp->Prop,Pv=fun i σ' G=>∃ (v9 v10 v11:Option V),σ'=[some (.ref rl),some (.ref le),some (.ref t),some (.ref la),some (.ref ds),some (.ref db),some (.ref r),some (.ref tk),some (.ref lg),v9,v10,v11]/\Jb G1 G:=⟨_,rfl⟩
    refine⟨by omega,by rw[Y1];omega,?_⟩;have en:((List.map V.ref us).length:Int).toNat=ks.length:=by rw[Y1,hgl];omega
    rw[en];refine LH Pv (by rw[ePv];exact⟨_,_,_,rfl,Jb.refl _⟩) ?_ ?_ <;> rw[ePv]
    .rintro i σ' G hi ⟨v9,v10,v11,rfl,sG⟩;rw[<-ePv];have hki:ks[i]?=some ks[i]:=Y4 hi;have hu:i < us.length:=by omega
     obtain⟨q0,hq0,hq0k,hq0m⟩:=hdue i _ hki;obtain⟨oks,eoks⟩:∃oks:List Ky,oks=kA.filter fun k=> !decide (k∈ks.take i) && !decide (k=d.key):=⟨_,rfl⟩
     simp only[Gs,List.set_cons_succ,List.set_cons_zero];refine JU fun N1 hN1=>?_
     walk_at"rd";have eA2:=sG _ _ eA;have dA2:=dA.mono sG;have hlA:tA.length=kA.length:=dA.1;have hAl':kA.length <=60:=by rw[hAp.length_eq,Y1];exact hAl
     refine⟨⟨_,Jh.of eA2⟩,?_⟩;obtain⟨Pw',ePw⟩:∃Pw':Nat->List V->L2.St->Hp->Prop,Pw'=fun j ys σ' G'=>∃ (v:Option V) (ws:List Addr),ys=ws.map V.ref/\σ'=[v,some (.ref tk),some (.ref lg),some (.int (0+ (i:Int)))]/\Jb G G'/\NR G' ws ((kA.take j).filter fun k=> !decide (k∈ks.take i) && !decide (k=d.key)):=⟨_,rfl⟩
     refine GV (xs:=tA.map V.ref) Pw' (by rw[ePw];exact⟨_,[],rfl,rfl,Jb.refl _,rfl,fun j x y a _=>by simp at a⟩) ?_ (N0 (by rw[Y1];omega)) ?_ ?_ <;> rw[ePw]
     .rintro j ys σ' G' ⟨v,ws,rfl,rfl,s2,hw⟩ _;exact⟨Jh.of (s2 _ _ eA2),by rw[Y1,hw.1];exact Kr ..⟩
     .rintro j x ys σ' G' hx ⟨v,ws,rfl,rfl,s2,hw⟩;rw[<-ePw];rw[Y9]at hx;obtain⟨tx,htx,rfl⟩:=Ye.mp hx;obtain⟨kx,hkx,gx⟩:=dA2.get htx;have gx:=s2 _ _ gx;have dG2:=(dG.mono sG).mono s2;have hkkx:=hAk' kx (Yq hkx);walk_at"rd";refine⟨_,Jh.of (s2 _ _ (sG _ _ gg)),fun p G4 hp4 s4 g4=>?_⟩;rw[show(0+ (i:Int))=((i:Nat):Int) by omega,mX (by rw[Y1];omega),<-List.map_take]at g4;refine⟨_,ks.take i,_,JC.of (s4 _ _ gx),Jh.of g4,((dG2.mono s4).take i).v,?_⟩;have hskip:(kx∈ks.take i\/kx=d.key)->Pw' (j+ 1) (ws.map V.ref) [some (.ref tx),some (.ref tk),some (.ref lg),some (.int (0+ (i:Int)))] G4:=fun z=>by
       rw[ePw];exact⟨_,ws,rfl,rfl,s2.trans s4,by rw[IR hkx (by rcases z with z|z <;> simp[z])];exact hw.mono s4⟩
      by_cases hin2:kx∈ks.take i
      .rw[Y5 (by simpa using hin2)];exact hskip (.inl hin2)
      .rw[Y6 (by simpa using hin2)];refine⟨_,_,Rj (s4 _ _ gx),Rj (s4 _ _ (s2 _ _ (sG _ _ hP.ky))),Rw _ hkkx.2.2.1 hkkx.2.2.2,Rw _ hky.2.2.1 hky.2.2.2,_,rfl,?_⟩;rw[AV]
       by_cases hown:kx=d.key
       .rw[Y5 (by simpa using hown)];exact hskip (.inr hown)
       .rw[Y6 (by simpa using hown),ePw];exact⟨_,ws++[tx],by rw[List.map_append];rfl,rfl,s2.trans s4,(hw.mono s4).step (ts:=ws) (js:=[]) (s4 _ _ gx) hkx (by simp[hin2,hown])⟩
     .rintro ys σ' G' ⟨v,ws,rfl,rfl,s2,hw⟩ lo G2 hlo s3 g2;refine hN1 _ _ ?_;clear hN1 N1;rw[Y1,hlA,Yu (Y8 _),<-eoks]at hw;have dO:=hw.mono s3;have sO:=sG.trans (s2.trans s3);clear hw s2 s3 hlo;have dG3:=dG.mono sO;have gg3:=sO _ _ gg;have hS3:=hS.mono sO;have hB3:=sO _ _ hB;have hoks:∀k,k∈oks↔k∈A.map (·.1)/\k∉ks.take i/\k≠d.key:=fun k=>by
       rw[eoks,Yf,hAp.mem_iff];simp
      have hol:oks.length <=60:=by rw[eoks];exact YF (YE ..) hAl'
      have hpm:∀q,q∈oks.map (fun k=>(GY out A S k,k))↔q∈Mo out d.key (R1 A (ks.take i)):=fun q=>by
       rw[Y3,Gj];constructor
       .rintro⟨k,hk,rfl⟩;obtain⟨h1,h2,h3⟩:=(hoks k).mp hk;obtain⟨a,ha,rfl⟩:=Y3.mp h1;exact⟨a,Yf.mpr ⟨ha,by simpa using h2⟩,h3,by rw[Kt hLk ha]⟩
       .rintro⟨a,ha,h3,rfl⟩;obtain⟨h1,h2⟩:=Yf.mp ha;exact⟨a.1,(hoks a.1).mpr ⟨Y3.mpr ⟨a,h1,rfl⟩,by simpa using h2,h3⟩,by rw[Kt hLk h1]⟩
      have hne:oks.map (fun k=>(GY out A S k,k))≠[]:=fun z=>by
       have:=(hpm q0).mpr hq0;rw[z]at this;exact nomatch this
      have hall:∀q∈oks.map (fun k=>(GY out A S k,k)),(∀q'∈oks.map (fun k=>(GY out A S k,k)),JR q' q=false)->q=q0:=fun q hq hm=>
       tV (hq0m q ((hpm q).mp hq)) (hm q0 ((hpm q0).mpr hq0))|>.symm
      have how:ws.length=oks.length:=dO.1;refine JU fun N1 hN1=>?_
      walk_at"rd";obtain⟨J,eJ⟩:∃J:L2.St->Hp->Prop,J=fun σ' H'=>Jb G2 H'/\∃kb,H' kb=some (.tup (Th ks[i]))/\σ'=[some (.ref rl),some (.ref le),some (.ref t),some (.ref la),some (.ref ds),some (.ref db),some (.ref r),some (.ref tk),some (.ref lg),some (.int (0+ (i:Int))),some (.ref lo),some (.ref kb)]:=⟨_,rfl⟩
      have fin:∀ (zs:List V) (p:WX) (G4:Hp),Jb G2 G4->G4 p=some (.lst zs)->Pw (MP G4) zs (oks.map fun k=>(GY out A S k,k))->∃p':Addr,V.ref p= .ref p'/\∃x,Jh K G4 p' x/\∃c:List (Int×Ky),x.length=c.length/\(∀ (m:Nat) (y:V) (q:Int×Ky),x[m]?=some y->c[m]?=some q->∃u,y= .ref u/\∃b,JC K G4 u [.int q.1,.ref b]/\JC K G4 b (DI q.2))/\c≠[]/\∀ (m:Nat) (y:V) (q:Int×Ky),x[m]?=some y->c[m]?=some q->(∀q'∈c,JR q' q=false)->∃u,y= .ref u/\∃xs,JC K G4 u xs/\∃v,Du xs 1=some v/\J [some (.ref rl),some (.ref le),some (.ref t),some (.ref la),some (.ref ds),some (.ref db),some (.ref r),some (.ref tk),some (.ref lg),some (.int (0+ (i:Int))),some (.ref lo),some v] G4:=by
       intro zs p G4 s4 g4 hz;refine⟨p,rfl,zs,Jh.of g4,_,hz.1,fun m y q a b=>?_,hne,fun m y q a b hmin=>?_⟩
       .obtain⟨t1,b1,e1,e2,e3⟩:=hz.2 m y q a b;exact⟨t1,e1,b1,JC.of e2,JC.of e3⟩
       .obtain⟨t1,b1,e1,e2,e3⟩:=hz.2 m y q a b;have hqq:=hall q (Yq b) hmin;refine⟨t1,e1,_,JC.of e2,.ref b1,rfl,?_⟩;rw[eJ];exact⟨s4,b1,by rw[<-hq0k,<-hqq];exact e3,rfl⟩
      refine⟨J,⟨_,JC.of (sO _ _ hrl),_,rfl,rfl,?_⟩,fun σ' H' hJ=>hN1 _ _ ?_⟩
      .by_cases hold:out="oldest"
       .rw[Y6 (by simp[hold])];refine⟨⟨_,Jh.of g2⟩,?_⟩;obtain⟨Pz,ePz⟩:∃Pz:Nat->List V->L2.St->Hp->Prop,Pz=fun j ys σ' G'=>∃ (v:Option V),σ'=[v,some (.ref db)]/\Jb G2 G'/\Pw (MP G') ys ((oks.take j).map fun k=>(GY out A S k,k)):=⟨_,rfl⟩
        refine GV (xs:=ws.map V.ref) Pz (by rw[ePz];exact⟨_,rfl,Jb.refl _,rfl,fun j x y a _=>by simp at a⟩) ?_ (N0 (by rw[Y1];omega)) ?_ ?_ <;> rw[ePz]
        .rintro j ys σ' G' ⟨v,rfl,s4,hz⟩ _;exact⟨Jh.of (s4 _ _ g2),by rw[hz.1,Y1,Yt];omega⟩
        .rintro j x ys σ' G' hx ⟨v,rfl,s4,hz⟩;rw[<-ePz];rw[Y9]at hx;obtain⟨tx,htx,rfl⟩:=Ye.mp hx;obtain⟨kx,hkx,gx⟩:=dO.get htx;have gx:=s4 _ _ gx;walk_at"rd";obtain⟨h1,h2,h3⟩:=(hoks kx).mp (Yq hkx);obtain⟨a,ha,rfl⟩:=Y3.mp h1;have ep:GY out A S a.1=a.2.2:=by rw[Kt hLk ha,Y6 hold]
         refine ⟨.int a.2.2, .inr ⟨_, Na a.1, tx, .inl (s4 _ _ hB3), rfl, gx, (IC (f := fun p : Ky × Int => p.1) (g := fun p => V.int p.2) hBn (hBa a ha)).symm⟩, N0 (by decide), fun p5 G5 hp5 s5 g5 => ?_⟩;rw [<- ep] at g5;rw [ePz];refine ⟨_, rfl, s4.trans s5, ?_⟩;rw [YJ, hkx, YV, List.map_append];exact (hz.imp fun x q h => h.mono s5).app ⟨rfl, fun m x q a b => by
          cases m with
          |zero=>cases a;cases b;exact⟨p5,tx,rfl,g5,s5 _ _ gx⟩
          | succ m => simp at a⟩
        .rintro ys σ' G' ⟨v,rfl,s4,hz⟩ p G4 hp4 s5 g4;rw[Y1,how,Yu (Y8 _)]at hz;exact fin ys p G4 (s4.trans s5) g4 (hz.imp fun x q h=>h.mono s5)
       .rw[Y5 (by simpa using hold)];refine⟨⟨_,Jh.of g2⟩,?_⟩;obtain⟨Pz,ePz⟩:∃Pz:Nat->List V->L2.St->Hp->Prop,Pz=fun j ys σ' G'=>∃ (v:Option V),σ'=[v,some (.ref ds)]/\Jb G2 G'/\Pw (MP G') ys ((oks.take j).map fun k=>(GY out A S k,k)):=⟨_,rfl⟩
        refine GV (xs:=ws.map V.ref) Pz (by rw[ePz];exact⟨_,rfl,Jb.refl _,rfl,fun j x y a _=>by simp at a⟩) ?_ (N0 (by rw[Y1];omega)) ?_ ?_ <;> rw[ePz]
        .rintro j ys σ' G' ⟨v,rfl,s4,hz⟩ _;exact⟨Jh.of (s4 _ _ g2),by rw[hz.1,Y1,Yt];omega⟩
        .rintro j x ys σ' G' hx ⟨v,rfl,s4,hz⟩;rw[<-ePz];rw[Y9]at hx;obtain⟨tx,htx,rfl⟩:=Ye.mp hx;obtain⟨kx,hkx,gx⟩:=dO.get htx;have gx:=s4 _ _ gx;walk_at"rd";obtain⟨h1,h2,h3⟩:=(hoks kx).mp (Yq hkx);have ep:GY out A S kx=0 - Gu S kx:=by unfold GY;rw[Y5 hold]
         refine ⟨ds, tx, S, kx, rfl, hS3.mono s4, gx, fun G6 s6 => ⟨_, rfl, N0 (by decide), fun p5 G5 hp5 s5 g5 => ?_⟩⟩;rw [<- ep] at g5;rw [ePz];refine ⟨_, rfl, s4.trans (s6.trans s5), ?_⟩;rw [YJ, hkx, YV, List.map_append];exact (hz.imp fun x q h => h.mono (s6.trans s5)).app ⟨rfl, fun m x q a b => by
          cases m with
          |zero=>cases a;cases b;exact⟨p5,tx,rfl,g5,s5 _ _ (s6 _ _ gx)⟩
          | succ m => simp at a⟩
        .rintro ys σ' G' ⟨v,rfl,s4,hz⟩ p G4 hp4 s5 g4;rw[Y1,how,Yu (Y8 _)]at hz;exact fin ys p G4 (s4.trans s5) g4 (hz.imp fun x q h=>h.mono s5)
      .rw[eJ]at hJ;obtain⟨s4,kb,hkb,rfl⟩:=hJ;clear hN1 N1;have hgi:Tb ks[i]:=hgk _ (Xk hi);have gui:H' us[i]=some (.tup (Th ks[i])):=s4 _ _ (dG3.2 i _ _ (Y4 hu) hki);walk_at"rd";refine⟨_,Jh.of (s4 _ _ gg3),.ref us[i],?_,_,_,Rj gui,Rj hkb,Rw _ hgi.2.2.1 hgi.2.2.2,Rw _ hgi.2.2.1 hgi.2.2.2,_,rfl,?_⟩
       .rw[show(0+ (i:Int))=((i:Nat):Int) by omega];exact Be (by rw[Y9,Y4 hu];rfl)
       .rw[AV,Y5 (by simp),ePv];exact⟨_,_,_,rfl,sO.trans s4⟩
    .rintro σ' G ⟨v9,v10,v11,rfl,sG⟩;refine hN _ _ ?_;clear hN N;walk_at"rd";refine⟨Ys _,fun p G2 hp s2 g2=>⟨_,Jh.of (s2 _ _ (sG _ _ gg)),Jh.of g2,?_⟩⟩;rcases hW with z|⟨rs,now,W,_⟩
     .rw[Y6 (by rw[Y1,hgl,z];simp)];exact q G2 (sG.trans s2)
     .by_cases hk0:ks=[]
      .rw[Y6 (by rw[Y1,hgl,hk0];simp)];exact q G2 (sG.trans s2)
      .have hkl0:ks.length≠0:=fun z=>hk0 (XZ.mp z)
       rw[Y5 (by rw[Y1,hgl];simpa using hk0)];have sA:=sG.trans s2;refine⟨(hR.mono sA).mt rfl,r,dr,df,dw,R,rfl,hR.mono sA,by omega,hRs,fun G3 s3=>?_⟩;have sB:=sA.trans s3;have dG3:=dG.mono sB;have hlt:us.length - 1 < us.length:=by omega
       have e1:us=us.take (us.length - 1)++[us[us.length - 1]]:=by
        rw (occs:=.pos [1]) [<-List.take_append_drop (us.length - 1) us,List.drop_eq_getElem_cons hlt];rw[Wo (by omega)]
       have hkk:ks[us.length - 1]?=some (ks[us.length - 1]'(by omega)):=Y4 _;have gul:=dG3.2 _ _ _ (Y4 hlt) hkk;obtain⟨kl,ekl⟩:∃kl,kl=ks[us.length - 1]'(by omega):=⟨_,rfl⟩;rw[<-ekl]at gul hkk;have hlast:ks.getLast?=some kl:=by rw[List.getLast?_eq_getElem?,<-hgl];exact hkk
       have hkm:kl∈ks:=Yq hkk;have hko:kl≠d.key:=fun z=>hin (by rw[<-z];exact hkm)
       have h1:=W.last hin kl hlast;rw[<-C6 hko,Am,C6 hko]at h1;have hkA:kl∈A.map (·.1):=by
        have:=W.sub kl hkm;rw[Ey]at this
        split at this
        .exact this
        .exact(Yp.mp this).resolve_right fun z=>hko (Yb.mp z)
       obtain⟨a,ha,hak⟩:=Y3.mp hkA;have h2:M7 A kl=Gu S kl:=by rw[<-hak,tY hLk.nk ha,hLk.sz ha]
       refine⟨_,Jh.of (sB _ _ gg),.ref us[us.length - 1],?_,ds,us[us.length - 1],S,kl,rfl,hS.mono sB,gul,fun G4 s4=>⟨_,rfl,_,rfl,_,JC.of (s4 _ _ (sB _ _ hrl)),_,rfl,_,rfl,?_⟩⟩
       .rw (occs:=.pos [1]) [e1];rw[List.map_append];exact cK _ _
       .rw[h2,LN]at h1;rw[Yh h1];exact q G4 (sB.trans s4)
end
theorem LQ{ru:Str}{rs rs':RS}{d:PD}(h:Mq ru rs d= .keep rs'):rs'=Dj (decide (ru="last")) rs d:=by
 unfold Mq at h
 split at h
 .split at h <;> cases h
 .split at h
  .cases h
  .split at h
   .cases h
   .cases h;rfl
theorem Fg(S:List SE)(ks:List Ky):(MC S ks).map (·.ky)=(S.map (·.ky)).filter fun k=>decide (k∈ks):=by
 unfold MC;rw[XM];rfl
section
variable{A A':List AE}{S:List SE}{own:Ky}
theorem D1.keep(h:D1 A S)(hn:(A'.map (·.1)).Nodup)(hs:∀a∈A',a.1≠own->a∈A)(ho:own∉A'.map (·.1)):D1 A' (MC S (A'.map (·.1))):=by
 have c:∀a∈A',a∈A:=fun a b=>hs a b fun z=>ho (Y3.mpr ⟨a,b,z⟩)
 refine⟨?_,hn,fun e g a b f=>h.ns e (Yf.mp g).1 a (c a b) f⟩;rw[Fg];refine(Ue ((h.pm.symm.nodup h.nk).sublist YC) hn).mpr fun k=>?_
 rw[Yf,Ya];refine⟨fun z=>z.2,fun z=>⟨h.pm.mem_iff.mpr ?_,z⟩⟩;obtain⟨a,b,rfl⟩:=Y3.mp z;exact Y3.mpr ⟨a,c a b,rfl⟩
theorem D1.put(h:D1 A S)(hn:(A'.map (·.1)).Nodup)(hs:∀a∈A',a.1≠own->a∈A)(ho:own∈A'.map (·.1)){l:WX}{ms:WY}(hm:∀a∈A',a.1=own->ms.Perm (DE a.2.1)):D1 A' (RD (MC S (A'.map (·.1))) own l ms):=by
 have g:((MC S (A'.map (·.1))).map (·.ky)).Nodup:=by rw[Fg];exact(h.pm.symm.nodup h.nk).sublist YC
 refine⟨?_,hn,fun e n a f c=>?_⟩
 .have p:((RD (MC S (A'.map (·.1))) own l ms).map (·.ky)).Nodup:=by
   rw[IU]
   split
   .exact g
   .rename_i c
    exact Xd.mpr ⟨g,by simp,fun u s v r e=>c (by rw[Yb.mp r]at e;rw[<-e];exact s)⟩
  refine(Ue p hn).mpr fun k=>?_
  have j:k∈(MC S (A'.map (·.1))).map (·.ky)↔k∈A.map (·.1)/\k∈A'.map (·.1):=by rw[Fg,Yf,Ya,h.pm.mem_iff]
  have i:k∈A'.map (·.1)->k≠own->k∈A.map (·.1):=fun z b=>by
   obtain⟨a,f,rfl⟩:=Y3.mp z;exact Y3.mpr ⟨a,hs a f b,rfl⟩
  rw[IU]
  split
  .rename_i hin
   rw[j];refine⟨fun z=>z.2,fun z=>⟨?_,z⟩⟩
   by_cases b:k=own
   .rw[b];rw[Fg,Yf,Ya,h.pm.mem_iff]at hin;exact hin.1
   .exact i z b
  .rw[Yp,j,Yb];constructor
   .rintro(z|z)
    .exact z.2
    .rw[z];exact ho
   .intro z
    by_cases b:k=own
    .exact .inr b
    .exact .inl ⟨i z b,z⟩
 .rcases Q1 n with rfl|⟨n,b⟩
  .exact hm a f c
  .have q:a.1≠own:=by rw[c];exact b
   exact h.ns e (Yf.mp n).1 a (hs a f q) c
end
theorem cF{xs:List AE}{k:Ky}{rs:RS}{t:Int}{y:AE}(h:y∈Ju xs k rs t)(hk:y.1≠k):y∈xs:=by
 have h1:y∈Je (Ju xs k rs t) k:=Yf.mpr ⟨h,by simpa using hk⟩;rw[Am]at h1;exact(Yf.mp h1).1
theorem Fo(ks:List Ky):JQ (ks.map fun k=>.gone k "room")=ks:=by
 induction ks with
 |nil=>rfl
 |cons k r ih=>exact X3 (k::·) ih
theorem SB(ks:List Ky):JT (ks.map fun k=>.gone k "room")=ks:=by
 induction ks with
 |nil=>rfl
 |cons k r ih=>
  show(if("room":Str)="room" then k::JT (r.map fun k=>.gone k "room") else _)=_;rw[Y6 rfl,ih]
def Rk:Ev->Bool
 | .strange _=>true
 |_=>false
structure D6(R:Nf)(n:Nat):Prop where
 nk:(R.es.map (·.ky)).Nodup
 tot:NX (Jc R.es) <=R.sp
 ky:∀x∈Jc R.es,x.1∈Nk
 wl:R.ws.length <=n
 ok:Gr n (Jc R.es)
 nd:∀x∈Jc R.es,(DE x.2.1).Nodup
 rg:∀x∈Jc R.es,∀n∈DE x.2.1,0 <=n/\n < 49
 now:0 <=R.now/\R.now <=100
 fs:∀x∈Jc R.es,0 <=x.2.2
 wt:R.wt=1000000
 rs:R.ag="rest"->∀k∈R.ws.map (·.1),k∉(Jc R.es).map (·.1)
 w0:∀p∈R.ws,0 <=p.2
structure OO(R:Nf)(S:List SE)(d:PD)(A':List AE)(evs:List Ev):Prop where
 nk:(A'.map (·.1)).Nodup
 went:Qm R.out R.sp d (Jc R.es) S A' (JT evs)
 nd:(JQ evs).Nodup
 t1:∀k∈JQ evs,(k∈(Jc R.es).map (·.1)/\k∉A'.map (·.1))\/k=d.key
 t2:∀k∈A'.map (·.1),k∈(Jc R.es).map (·.1)\/k=d.key
 t3:∀k∈(Jc R.es).map (·.1),k∉A'.map (·.1)->k∈JQ evs
 str:evs.any Rk=true->A'=Jc R.es
 kp:evs.any Rk=false->(d.key∉A'.map (·.1)->D1 A' (MC S (A'.map (·.1))))/\(d.key∈A'.map (·.1)->∀l ms,ms.Nodup->(∀n,n∈ms↔n∈M5 S d.key\/d.at' <=n/\n < d.at'+ d.ns.length)->D1 A' (RD (MC S (A'.map (·.1))) d.key l ms))
 gk:∀k∈JT evs,k∈JQ evs
theorem QM{R:Nf}(h:(R.es.map (·.ky)).Nodup):((Jc R.es).map (·.1)).Nodup:=by rw[DP];exact h
theorem cM{R:Nf}{n:Nat}{S:List SE}(h:D6 R n)(hL:D1 (Jc R.es) S)(k:Ky):(DE (Np R.es k)).Nodup/\∀m,m∈DE (Np R.es k)↔m∈M5 S k:=by
 rcases Bo h.nk (k:=k) with⟨h1,h2⟩|⟨e,he,ek,h2⟩
 .rw[h2];refine⟨.nil,fun m=>?_⟩;rw[wV (fun z=>h1 (by rw[<-DP];exact hL.pm.mem_iff.mp z))];rfl
 .rw[h2];have a:(e.ky,e.rs,e.first)∈Jc R.es:=Y3.mpr ⟨e,he,rfl⟩;refine⟨h.nd _ a,fun m=>?_⟩;obtain⟨s,c,b,f⟩:=hL.row a;have:M5 S k=s.ns:=by rw[<-ek];have:=FL (hL.pm.symm.nodup hL.nk) c;rw[b]at this;exact this
  rw[this];exact f.mem_iff.symm
theorem m6{R:Nf}{n:Nat}(h:D6 R n){k:Ky}(hr:RY R k=false):R.ag="rest"->k∉R.ws.map (·.1):=fun c b=>by
 obtain⟨p,a,rfl⟩:=Y3.mp b;unfold RY at hr;rw[Yh c,Ud]at hr;unfold Bz at hr;cases e:R.ws.find? fun x=>decide (x.1=p.1) with
 |none=>
  have:=Xz.mp e p a;simp at this
 |some q=>
  rw[e]at hr;have h1:=h.w0 q (X9 e);have h2:=h.now;have hr:decide (R.now < q.2+ R.wt)=false:=hr;rw[h.wt]at hr;have:=V2 hr;omega
theorem gK{R:Nf}{k:Ky}(hr:RY R k=true):R.ag="rest"/\k∈R.ws.map (·.1):=by
 unfold RY at hr;obtain⟨h1,h2⟩:=Bool.and_eq_true_iff.mp hr;refine⟨Xe h1,?_⟩;unfold Bz at h2;cases e:R.ws.find? fun x=>decide (x.1=k) with
 |none=>rw[e]at h2;cases h2
 |some q=>exact Y3.mpr ⟨q,X9 e,by simpa using VF e⟩
theorem jN{R:Nf}{n:Nat}{S:List SE}{d:PD}(h:D6 R n)(hL:D1 (Jc R.es) S)(hd:d.Ok):OO R S d (Ny R d).1 (Ny R d).2.2:=by
 have i:=QM h.nk;unfold Ny
 split
 .rename_i hr
  obtain⟨r1,r2⟩:=gK hr;have hno:=h.rs r1 _ r2;exact⟨i,.inl rfl,.nil,(fun k z=>nomatch z),fun k z=>.inl z,fun k f c=>absurd f c,fun z=>rfl,fun _=>⟨fun z=>hL.keep i (fun a b _=>b) z,fun z=>absurd z hno⟩,(fun k z=>nomatch z)⟩
 .cases hs:Mq R.ru (Np R.es d.key) d with
  |str=>
   have e:Ju (Jc R.es) d.key (Np R.es d.key) R.now=Jc R.es:=by
    rcases Bo h.nk (k:=d.key) with⟨_,z⟩|⟨e,he,ek,z⟩
    .rw[z]at hs;unfold Mq at hs;rw[Y5 (by rw[Qj hd];simp)]at hs
     split at hs
     .cases hs
     .split at hs <;> cases hs
    .rw[z,<-ek,KG h.nk he]
   dsimp only;rw[e];exact⟨i,.inl rfl,.nil,(fun k z=>nomatch z),fun k z=>.inl z,fun k f c=>absurd f c,fun z=>rfl,(fun z=>nomatch z),(fun k z=>nomatch z)⟩
  |unl m=>
   have hk:d.key∉(Je (Jc R.es) d.key).map (·.1):=fun z=>(JW.mp z).2 rfl
   refine⟨AF i,.inl rfl,Yv.mpr ⟨(fun z=>nomatch z),.nil⟩,fun k z=>.inr (Yb.mp z),fun k z=>.inl (JW.mp z).1,fun k f c=>?_,(fun z=>nomatch z),fun _=>⟨fun z=>hL.keep (AF i) (fun a b _=>(Yf.mp b).1) z,fun z=>absurd z hk⟩,(fun k z=>nomatch z)⟩
   by_cases e:k=d.key
   .rw[e];exact .head _
   .exact absurd (JW.mpr ⟨f,e⟩) c
  |keep rs=>
   have ab:=LQ hs;obtain⟨c1,c2⟩:=cM h hL d.key;have x:(DE rs).Nodup:=by rw[ab,F6];exact FR _ _ c1
   have y:∀n,n∈DE rs↔n∈M5 S d.key\/d.at' <=n/\n < d.at'+ d.ns.length:=fun n=>by rw[ab,F6,HN,c2]
   have aa:=Qh i d.key rs R.now;have hXo:=Li (Jc R.es) d.key rs R.now;have hlt:NX (Je (Ju (Jc R.es) d.key rs R.now) d.key) <=R.sp:=by
    rw[Am];exact XA (Bm YC) h.tot
   have W:=Su (out:=R.out) (sp:=R.sp) (own:=d.key) ((Ju (Jc R.es) d.key rs R.now).length+ 1) _ (U1 _) aa hXo hlt;have ef:=FJ R.out R.sp d.key ((Ju (Jc R.es) d.key rs R.now).length+ 1) (Ju (Jc R.es) d.key rs R.now);dsimp only;unfold GP;obtain⟨r,er⟩:∃r,r=Jx R.out R.sp d.key ((Ju (Jc R.es) d.key rs R.now).length+ 1) (Ju (Jc R.es) d.key rs R.now):=⟨_,rfl⟩;rw[<-er]at W ef ⊢;have j:∀a,a∈r.1↔a∈Ju (Jc R.es) d.key rs R.now/\a.1∉r.2:=fun a=>by rw[ef,Yf];simp
   have g:∀k,k∈r.1.map (·.1)↔k∈(Ju (Jc R.es) d.key rs R.now).map (·.1)/\k∉r.2:=fun k=>by
    constructor
    .intro z;obtain⟨a,b,rfl⟩:=Y3.mp z;obtain⟨h1,h2⟩:=(j a).mp b;exact⟨Y3.mpr ⟨a,h1,rfl⟩,h2⟩
    .rintro⟨z,h2⟩;obtain⟨a,b,rfl⟩:=Y3.mp z;exact Y3.mpr ⟨a,(j a).mpr ⟨b,h2⟩,rfl⟩
   have u:∀k,k∈(Ju (Jc R.es) d.key rs R.now).map (·.1)↔k∈(Jc R.es).map (·.1)\/k=d.key:=fun k=>by
    rw[Ey]
    split
    .rename_i hin
     exact⟨.inl,fun z=>z.elim id fun z=>by rw[z];exact hin⟩
    .rw[Yp,Yb]
   have p:(r.1.map (·.1)).Nodup:=by rw[ef];exact aa.sublist (Xy _ YC)
   have s:∀a∈r.1,a.1≠d.key->a∈Jc R.es:=fun a b hne=>cF ((j a).mp b).1 hne
   have w:∀ks:List Ky,(ks.map fun k=>Ev.gone k "room").any Rk=false:=fun ks=>by
    induction ks with
    |nil=>rfl
    |cons k r ih=>exact ih
   refine⟨p,.inr ⟨rs,R.now,by rw[SB];exact W,x,y⟩,by rw[Fo];exact W.nd,fun k z=>?_,fun k z=>(u k).mp ((g k).mp z).1,fun k f c=>?_,fun z=>absurd z (by rw[w];simp),fun _=>⟨fun z=>hL.keep p s z,fun z l ms m1 m2=>hL.put p s z fun a b hak=>?_⟩,fun k z=>by rw[SB]at z;rw[Fo];exact z⟩
   .rw[Fo]at z
    by_cases e:k=d.key
    .exact .inr e
    .exact .inl ⟨((u k).mp (W.sub k z)).resolve_right e,fun q=>((g k).mp q).2 z⟩
   .rw[Fo];refine Xw fun q=>c ((g k).mpr ⟨(u k).mpr (.inl f),q⟩)
   .have e2:a.2.1=rs:=OR ((j a).mp b).1 hak;rw[e2];exact(Ue m1 x).mpr fun n=>(m2 n).trans (y n).symm
  |whole rs=>
   have hk:d.key∉(Je (Jc R.es) d.key).map (·.1):=fun z=>(JW.mp z).2 rfl
   refine⟨AF i,.inl rfl,Yv.mpr ⟨(fun z=>nomatch z),.nil⟩,fun k z=>.inr (Yb.mp z),fun k z=>.inl (JW.mp z).1,fun k f c=>?_,(fun z=>nomatch z),fun _=>⟨fun z=>hL.keep (AF i) (fun a b _=>(Yf.mp b).1) z,fun z=>absurd z hk⟩,(fun k z=>nomatch z)⟩
   by_cases e:k=d.key
   .rw[e];exact .head _
   .exact absurd (JW.mpr ⟨f,e⟩) c
section
variable{P:WP}{w:WU}{K:WV}{mg:WL}{base:J6}
inductive QR(C:WX)(vs:List V)(H:Hp)(Q:VK)(E:XK):Prop|mk (d:PD) (b:WX) (_:vs=[.int d.nu,.str d.z1,.str d.z2,.int d.at',.ref b,.bl d.mo]) (_:d.k=false) (_:d.Ok) (_:H b=some (.lst (d.ns.map V.int))) (_:∀p b' G,H p=none->H b'=none->Jb H G->Nz C G p b' d->Q (.ref p) G)
theorem wM{C:WX}(F:GJ P w K mg base "Piece" C 6 ["self","number","sender","goal","at","body","more","keep"] [.bl false] (AD C)):Go P w K mg base "Piece" 6 (QR C):=by
 refine F.ct fun vs H Q h y dx G a x z s j=>?_
 obtain⟨d,b,rfl,g,ok,c,q⟩:=h;obtain⟨f,p⟩:=PL (k:=d.k) ok.n0 ok.n1 ok.k1 ok.k2 (s b _ c) ok.l1 ok.l2 ok.by'
 exact⟨y,dx,_,_,_,d.at',b,d.mo,_,_,by rw[g];rfl,j,f,p,by simp[BC,ok.a0,ok.a8],s b _ c,by rw[Y1];exact ok.rm,fun H' u n h1 h2 i r=>⟨rfl,q y u H' a (s.free n) (fun d o e=>r d o (s d o e) (NI e a)) ⟨ok,i,h2⟩⟩⟩
end
theorem Bb{k:Ky}(h:k∈Nk):Tb k:=by
 obtain⟨i,hi,rfl⟩:=Xg.mp h;have a:i < 7:=hi;have:=Qv i;have e:DM (i:Int)=Nk[i]:=by
  unfold DM;rw[show((i:Int)%7).toNat=i by omega,Xf,Y4 hi];rfl
 rw[e]at this;exact this
theorem SU{es:List RE}(hn:(es.map (·.ky)).Nodup)(hk:∀x∈Jc es,x.1∈Nk):es.length <=7:=by
 have h:∀ (ks a:List Ky),ks.Nodup->(∀k∈ks,k∈a)->ks.length <=a.length:=by
  intro ks
  induction ks with
  |nil=>intro a _ _;exact Ys _
  |cons k r ih=>
   intro a hn b;obtain⟨h1,h2⟩:=Yv.mp hn;have hk:=b k (.head _);have:=ih (a.erase k) h2 fun j f=>(VE (fun z=>h1 (by rw[<-z];exact f))).mpr (b j (.tail _ f))
   rw[V4 hk]at this;have i:0 < a.length:=VM.mpr fun z=>by rw[z]at hk;cases hk
   simp only[List.length_cons];omega
 have:=h _ Nk hn fun k c=>by obtain⟨e,g,rfl⟩:=Y3.mp c;exact hk (e.ky,e.rs,e.first) (Y3.mpr ⟨e,g,rfl⟩)
 rw[Y1]at this;exact this
theorem D6.next{R R':Nf}{n:Nat}{d:PD}(h:D6 R n)(e1:Jc R'.es=(Ny R d).1)(e2:R'.ws=(Ny R d).2.1)(pr:R'.ru=R.ru/\R'.wt=R.wt/\R'.sp=R.sp/\R'.out=R.out/\R'.ag=R.ag/\R'.now=R.now)(nk:(R'.es.map (·.ky)).Nodup)(hd:d.Ok)(hl:d.ns.length <=41)(ht:d.at'+ d.ns.length <=49)(hk:d.key∈Nk):D6 R' (n+ 1):=by
 obtain⟨p1,p2,p3,p4,p5,p6⟩:=pr;have f:∀x∈(Ny R d).1,(x∈Jc R.es)\/(x.2.1=Np R.es d.key\/Mq R.ru (Np R.es d.key) d= .keep x.2.1)/\0 <=x.2.2:=by
  have g:∀rs,∀x∈Ju (Jc R.es) d.key rs R.now,(x∈Jc R.es)\/x.2.1=rs/\0 <=x.2.2:=fun rs x a=>by
   unfold Ju at a
   split at a
   .obtain⟨y,j,rfl⟩:=Y3.mp a
    split
    .exact .inr ⟨rfl,h.fs y j⟩
    .exact .inl j
   .rcases Yp.mp a with z|z
    .exact .inl z
    .rw[Yb.mp z];exact .inr ⟨rfl,h.now.1⟩
  unfold Ny
  split
  .exact fun x a=>.inl a
  .cases hs:Mq R.ru (Np R.es d.key) d with
   |str=>exact fun x a=>(g _ x a).imp id fun z=>⟨.inl z.1,z.2⟩
   |unl m=>exact fun x a=>.inl (Yf.mp a).1
   |keep rs=>exact fun x a=>(g _ x (Cd a)).imp id fun z=>⟨.inr (by rw[z.1]),z.2⟩
   |whole rs=>exact fun x a=>.inl (Yf.mp a).1
 have q:(DE (Np R.es d.key)).Nodup:=by
  rcases Bo h.nk (k:=d.key) with⟨_,z⟩|⟨e,he,ek,z⟩
  .rw[z];exact .nil
  .rw[z];exact h.nd (e.ky,e.rs,e.first) (Y3.mpr ⟨e,he,rfl⟩)
 have r:∀n∈DE (Np R.es d.key),0 <=n/\n < 49:=by
  rcases Bo h.nk (k:=d.key) with⟨_,z⟩|⟨e,he,ek,z⟩
  .rw[z];exact fun n hn=>nomatch hn
  .rw[z];exact h.rg (e.ky,e.rs,e.first) (Y3.mpr ⟨e,he,rfl⟩)
 refine⟨nk,by rw[e1,p3];exact jI h.nk hd h.tot,by rw[e1];exact j7 h.ky hk,by rw[e2];exact YF (ZX R d) (Up h.wl),by rw[e1];exact uI h.nk h.ok hd hl,fun x a=>?_,fun x a=>?_,by rw[p6];exact h.now,fun x a=>?_,by rw[p2];exact h.wt,fun i k b=>?_,fun p c=>?_⟩
 .rw[e1]at a;rcases f x a with z|⟨z|z,_⟩
  .exact h.nd x z
  .rw[z];exact q
  .rw[LQ z,F6];exact FR _ _ q
 .rw[e1]at a;rcases f x a with z|⟨z|z,_⟩
  .exact h.rg x z
  .rw[z];exact r
  .rw[LQ z,F6];intro n hn;have a0:=hd.a0;rcases(HN _ _ _).mp hn with y|y
   .exact r n y
   .omega
 .rw[e1]at a;rcases f x a with z|⟨_,z⟩
  .exact h.fs x z
  .exact z
 .rw[p5]at i;rw[e1];rw[e2]at b;clear f;unfold Ny at b ⊢;cases hr:RY R d.key with
  |true=>
   rw[hr,Y6 rfl]at b;rw[Y6 rfl];exact h.rs i k b
  |false=>
   rw[hr,Y5 (by simp)]at b;rw[Y5 (by simp)];have hno:=m6 h hr i;have g:∀rs,k∈R.ws.map (·.1)->k∉(Ju (Jc R.es) d.key rs R.now).map (·.1):=fun rs w z=>by
    rw[Ey]at z
    split at z
    .exact h.rs i k w z
    .rcases Yp.mp z with y|y
     .exact h.rs i k w y
     .exact hno (by rw[<-Yb.mp y];exact w)
   cases hs:Mq R.ru (Np R.es d.key) d with
   |str=>rw[hs]at b;exact g _ b
   |unl m=>rw[hs]at b;exact fun z=>h.rs i k b (JW.mp z).1
   |keep rs=>
    rw[hs]at b;intro z;obtain⟨x,a,rfl⟩:=Y3.mp z;exact g rs b (Y3.mpr ⟨x,Cd a,rfl⟩)
   |whole rs=>
    rw[hs]at b;intro z;obtain⟨u,s⟩:=JW.mp z;have b:k∈(Ml R.ws d.key R.now).map (·.1):=b;obtain⟨p,c,rfl⟩:=Y3.mp b;unfold Ml at c
    split at c
    .obtain⟨y,j,rfl⟩:=Y3.mp c
     split at s
     .exact s rfl
     .rename_i hyk
      rw[Y5 hyk]at u;exact h.rs i _ (Y3.mpr ⟨y,j,rfl⟩) u
    .rcases Yp.mp c with y|y
     .exact h.rs i _ (Y3.mpr ⟨p,y,rfl⟩) u
     .rw[Yb.mp y]at s;exact s rfl
 .rw[e2]at c;clear f;unfold Ny at c
  split at c
  .exact h.w0 p c
  .split at c
   .exact h.w0 p c
   .exact h.w0 p c
   .exact h.w0 p c
   .have c:p∈Ml R.ws d.key R.now:=c;unfold Ml at c
    split at c
    .obtain⟨y,j,rfl⟩:=Y3.mp c
     split
     .exact h.now.1
     .exact h.w0 y j
    .rcases Yp.mp c with y|y
     .exact h.w0 p y
     .rw[Yb.mp y];exact h.now.1
theorem eP{R:Nf}{n:Nat}(h:D6 R n){t:Int}(h0:R.now <=t)(h1:t <=100):GT R t={R with now:=t}/\DG {R with now:=t}=[]/\D6 {R with now:=t} n:=by
 have b:∀e∈R.es,NM {R with now:=t} e=false:=fun e a=>by
  have h2:=h.fs (e.ky,e.rs,e.first) (Y3.mpr ⟨e,a,rfl⟩);have h2:0 <=e.first:=h2;unfold NM;refine Yk ?_;show ¬e.first+ R.wt <=t;rw[h.wt];omega
 refine⟨?_,?_,⟨h.nk,h.tot,h.ky,h.wl,h.ok,h.nd,h.rg,⟨XA h.now.1 h0,h1⟩,h.fs,h.wt,h.rs,h.w0⟩⟩
 .have:A4 {R with now:=t}=R.es:=X1.mpr fun e a=>by rw[b e a];rfl
  unfold GT;rw[this]
 .unfold DG;rw[Wp.mpr fun e a=>by rw[b e a];simp];rfl
structure GH(C CR:WX)(H:Hp)(r dr df dw ds db:WX)(R:Nf)(S:List SE)(Bg:List (Ky×Int))(n:Nat):Prop where
 rm:Jg C CR H r dr df dw R
 rk:D6 R n
 sz:DJ H ds S
 bg:H db=some (.dT (M4 (fun p:Ky×Int=>p.1) (fun p=>.int p.2) Bg))
 bn:(Bg.map (·.1)).Nodup
 ba:∀a∈Jc R.es,(a.1,a.2.2)∈Bg
 lk:D1 (Jc R.es) S
 s1:ds≠dr/\ds≠df/\ds≠dw
 s2:db≠dr/\db≠df/\db≠dw
theorem GH.mono{C CR:WX}{H G:Hp}{r dr df dw ds db:WX}{R:Nf}{S:List SE}{Bg:List (Ky×Int)}{n:Nat}(h:GH C CR H r dr df dw ds db R S Bg n)(s:Jb H G):GH C CR G r dr df dw ds db R S Bg n:=⟨h.rm.mono s,h.rk,h.sz.mono s,s _ _ h.bg,h.bn,h.ba,h.lk,h.s1,h.s2⟩
section
variable{P:WP}{w:WU}{K:WV}{mg:WL}{base:J6}
def RJ(G:Hp)(bs:List Addr):Prop:=∀b∈bs,∃ns:List Int,G b=some (.lst (ns.map V.int))/\1 <=ns.length/\ns.length <=40/\∀x∈ns,0 <=x/\x <=255
theorem RJ.kl{G J:Hp}{bs:List Addr}(h:RJ G bs)(k:∀c xs,G c=some (.lst xs)->J c=some (.lst xs)):RJ J bs:=fun b e=>by obtain⟨a,h1,h2⟩:=h b e;exact⟨a,k _ _ h1,h2⟩
theorem rY{C CR r dr df dw c:WX}{H:Hp}{R:Nf}{kvs:List (List Jw×V)}(h:Jg C CR H r dr df dw R)(e:H c=some (.dT kvs))(n1:c≠dr)(n2:c≠df)(n3:c≠dw):¬ET R r dr df dw c:=fun z=>by
 obtain⟨dx,fs,b,_⟩:=h.ex;rcases z with z|z|z|z|⟨x,hx,z⟩
 .exact Ja e b nofun z
 .exact n1 z
 .exact n2 z
 .exact n3 z
 .have r:=h.rd x hx;obtain⟨_,_,a,_⟩:=r.ex;rcases z with z|z
  .exact Ja e a nofun z
  .exact Ja e r.dk nofun z
theorem eI{ks:List Ky}(h:ks.Nodup):(ks.map Na).Nodup:=by
 rw[VV]at h ⊢;exact Vd.mpr (h.imp fun a e=>a (DT e))
theorem Ee.mono{CL:WX}{G J:Hp}{v:V}{ev:Ev}(s:Jb G J)(h:Ee CL G v ev):Ee CL J v ev:=by
 cases ev with
 |gone k w=>obtain⟨t,tk,e,h1,h2⟩:=h;exact⟨t,tk,e,s _ _ h1,s _ _ h2⟩
 |late k=>obtain⟨t,tk,e,h1,h2⟩:=h;exact⟨t,tk,e,s _ _ h1,s _ _ h2⟩
 |strange k=>obtain⟨t,tk,e,h1,h2⟩:=h;exact⟨t,tk,e,s _ _ h1,s _ _ h2⟩
 |whole d=>obtain⟨t,a,b,e,h1,h2⟩:=h;exact⟨t,a,b,e,s _ _ h1,h2.mono s⟩
theorem D2.klt{G J:Hp}{l:WX}{ks:List Ky}(k:Md G J)(h:D2 G l ks):D2 J l ks:=by
 obtain⟨c,h1,h2,f⟩:=h;exact⟨c,h1,k.l h2,fun i t e a b=>k.t (f i t e a b)⟩
theorem R6.klt{G J:Hp}{t tk b:WX}{d:PD}(k:Md G J)(h:R6 G t tk b d):R6 J t tk b d:=⟨h.ok,h.k,k.t h.tp,k.t h.ky,k.l h.bd⟩
abbrev Rg:Stmt:=top 57
theorem DC:Nm ["_law_script","_law_digits_here","_law_rules","_law_rule","_law_room","_law_bodies","_law_sizes","_law_begun","_law_time","_law_piece_here","_law_key_here","_law_at","_law_body_here","_law_more","_law_ahead","_law_events"] ["_law_script"] (J8 Rg):=by walk_at"e"
theorem nG{f C CR CP CL:WX}{fd:WR}(F:Nx K "law" "law" Rg f fd)(L:My K C)(B:Bt mg)(B2:ER mg)(B6:SL mg)(TC:Tk P w K mg base "_law_cell_at" 1 ["_law_script","_law_k"] [] (Ii K))(M2:Tk P w K mg base "_law_digits" 2 ["_law_cell","_law_many"] [] Pk)(Mg:Tk P w K mg base "_law_body" 2 ["_law_cell","_law_k"] [] QK)(TR:Tk P w K mg base "_law_piece" 2 ["_law_bodies","_law_digits_here"] [] PP)
  (EQ:Go P w K mg base "Room" 3 (OV C)) (DQ:Go P w K mg base "Piece" 6 (QR CP)) (JI:T9 P w K mg base C "kept" 1 ["self"] [] (Ak C CR)) (Tu:T9 P w K mg base C "come" 9 ["self","time","piece"] [] (KM C CR CP CL)) (Js:T9 P w K mg base C "bytes_kept" 2 ["self"] [] (Aq C CR)) (Tj:T9 P w K mg base C "since" 6 ["self","key"] [] (KP C CR))
  (Mb:Tk P w K mg base "_law_gone_right" 3 ["_law_rules","_law_events","_law_piece_here","_law_ahead","_law_sizes","_law_begun","_law_room"] [] (Ir C CR CL)) (TV:Tk P w K mg base "_law_after" 2 ["_law_events","_law_own","_law_ahead","_law_room"] [] (O7 C CR CL)) (Tw:Tk P w K mg base "_law_stored" 2 ["_law_sizes","_law_piece_here","_law_room"] [] (FU C CR)):Jj P w K mg base JZ 11 f fd ["_law_script"] (F1 K):=by
 refine F.ok DC (fun vs H Q E h=>?_) (fun cdv A outer s H vs Q E hr h=>?_)
 .obtain⟨a,ns,rfl,_⟩:=h;rfl
 .obtain⟨a,ns,rfl,hs,hl63,q⟩:=h;refine⟨_,(Jp (T6 1 DC (T7 M2 hr.m rfl (MU (T7 TC hr.m rfl (Jk 0 (M9 Jt Jf))) (M9 Jt Jf)))) (Jp (T6 2 DC (Mn (JM (hs:=DR) (N6 (NG Mz) Jt (N6 (dI Mu) (De K (J9 1) Jt) Jt)) (MV (De K (TZ (M9 NY (M9 NY (M9 NY Jf)))) (N6 (dI Mu) (De K (J9 1) Jt) Jt)) Jf)))) (Jp (T6 3 DC (De K (TZ (M9 NY (M9 NY (M9 NY Jf)))) (N6 (dI Mu) (De K (J9 1) Jt) Jt))) (Jp (B0 (i:=4) (DC).nd rfl (Or.inr rfl) (EV EQ hr.m rfl (Jk 3 (JM (hs:=DR) (N6 (dI ZK) Jt Jt) (MV (Tr K (J9 2) Jt) (MV (Tr K (J9 2) Jt) (MV (De K (TZ (M9 NY (M9 NY Jf))) (N6 (dI Mu) (De K (J9 1) Jt) Jt)) Jf))))))) (Jp (BV (i:=5) (N':=["_law_k","_law_script"]) (caps:=[none,some 0]) (MW (sc:=J8 Rg) (N:=["_law_script","_law_digits_here","_law_rules","_law_rule","_law_room","_law_bodies","_law_sizes","_law_begun","_law_time","_law_piece_here","_law_key_here","_law_at","_law_body_here","_law_more","_law_ahead","_law_events"]) rfl rfl (by decide +kernel)) rfl (DC).nd rfl (Or.inl rfl) (BA rfl B.range (JM (hs:=DR) (N6 (NG Mz) Jt (N6 (dI Mu) (De K (J9 1) Jt) Jt)) Jf)) (fun _ _ _ _ _=>(Ms (i:=0) (MY (N:=["_law_k","_law_script"]) rfl (by decide +kernel)) rfl (Or.inl rfl))) (fun _ _ _ _ _=>GS) (fun _ _ _ _ _=>(T7 Mg hr.m rfl (MU (T7 TC hr.m rfl (Jk 1 (M9 Jt Jf))) (Jk 0 Jf)))) rfl) (Jp (T6 6 DC AJ) (Jp (T6 7 DC AJ) (Jp (RF Xq rfl (BA rfl B.range (MU (NP (Lp rfl) B.min (M9 Jt (JM (hs:=DR) (N6 (NG Oy) (NP (Da (Dd (K:=K) rfl)) B.len (Jk 0 Jf)) Jt) Jf))) Jf)) (MB 8 DC) (Jp (T6 9 DC (T7 TR hr.m rfl (Jk 5 (MU (T7 M2 hr.m rfl (MV (De K (J9 0) (N6 (NG Mz) Jt (J9 8))) (M9 Jt Jf))) Jf)))) (Jp (Cy (J9 9) (EL (K:=K) (n:=4) rfl rfl (Db (MB 10 DC) (Db (MB 11 DC) (Db (MB 12 DC) (Db (MB 13 DC) EZ)))))) (Jp (T6 14 DC (MA (J9 4) JI hr.m)) (Jp (T6 15 DC (DH (J9 4) Tu hr.m (JM (hs:=DR) (N6 (dI cG) (J9 8) Jt) (MU (EV DQ hr.m rfl (MV (Tr K (J9 10) Jt) (MV (Tr K (J9 10) Jt) (MV (Tr K (J9 10) Jt) (Jk 11 (Jk 12 (Jk 13 Jf))))))) Jf)))) (Jp (NB (D0 (Mj (T7 Mb hr.m rfl (Jk 2 (Jk 15 (Jk 9 (Jk 14 (Jk 6 (Jk 7 (Jk 4 Jf)))))))))) (Jz (N8 R8)) NU) (Jp (NB (PW.pt (Rc (D0 (Mj (T7 TV hr.m rfl (Jk 15 (Jk 10 (Jk 14 (Jk 4 Jf))))))) (Rx (NT (NG E3) (MA (J9 4) Js hr.m) (Tr K (J9 2) Jt))))) (Jz (N8 R8)) NU) (Jp (GI (NB (NT (Al (AI (K:=K) (Room.units hr) rfl)) (Dz (N':=["_law_event"]) (caps:=[none]) (MW (sc:=J8 Rg) (N:=["_law_script","_law_digits_here","_law_rules","_law_rule","_law_room","_law_bodies","_law_sizes","_law_begun","_law_time","_law_piece_here","_law_key_here","_law_at","_law_body_here","_law_more","_law_ahead","_law_events"]) rfl rfl (by decide +kernel)) rfl (Dt (K:=K) rfl (J9 15)) (fun _ _ _ _ _=>(Ms (i:=0) (MY (N:=["_law_event"]) rfl (by decide +kernel)) rfl (Or.inl rfl))) (fun _ _ _ _ _=>(RH (NT (MI MG) (Tr K (J9 0) Jt) NY))) (fun _ _ _ _ _=>(J9 0))) (TZ Jf)) (Jz (Mv (T7 Tw hr.m rfl (Jk 6 (Jk 9 (Jk 4 Jf)))))) NU)) (Jp (T6 7 DC (Rb (tJ (K:=K) (Room.units hr) rfl rfl) rfl B6.bdict (by rfl) (JM (hs:=Rz) (Dz (N':=["_law_one","_law_room"]) (caps:=[none,some 4]) (MW (sc:=J8 Rg) (N:=["_law_script","_law_digits_here","_law_rules","_law_rule","_law_room","_law_bodies","_law_sizes","_law_begun","_law_time","_law_piece_here","_law_key_here","_law_at","_law_body_here","_law_more","_law_ahead","_law_events"]) rfl rfl (by decide +kernel)) rfl (Dt (K:=K) rfl (MA (J9 4) JI hr.m)) (fun _ _ _ _ _=>(Ms (i:=0) (MY (N:=["_law_one","_law_room"]) rfl (by decide +kernel)) rfl (Or.inl rfl))) (fun _ _ _ _ _=>GS) (fun _ _ _ _ _=>(Mn (Jk 0 (MU (DH (J9 1) Tj hr.m (Jk 0 Jf)) Jf))))) Jf))) (Jz (NB (NT (Bw Bu) (MA (J9 4) Js hr.m) (NP (HJ (K:=K) rfl rfl) B2.sum (JM (hs:=Rz) (O3 (Dz (N':=["_law_some"]) (caps:=[none]) (MW (sc:=J8 Rg) (N:=["_law_script","_law_digits_here","_law_rules","_law_rule","_law_room","_law_bodies","_law_sizes","_law_begun","_law_time","_law_piece_here","_law_key_here","_law_at","_law_body_here","_law_more","_law_ahead","_law_events"]) rfl rfl (by decide +kernel)) rfl (jJ (P1 (K:=K) rfl X6 W4 PySem.F.type_dict_values uP (J9 6))) (fun _ _ _ _ _=>(Ms (i:=0) (MY (N:=["_law_some"]) rfl (by decide +kernel)) rfl (Or.inl rfl))) (fun _ _ _ _ _=>GS) (fun _ _ _ _ _=>(NP (Da (Dd (K:=K) rfl)) B.len (Jk 0 Jf))))) Jf))) (Jz (N8 R8)) NU))))))))))) (Jz (N8 R8)))))))))),?_⟩;have sq:∀{G:Hp},Jb H G->Jh K G a (ns.map V.int):=fun {G} s=>by
   rcases hs with(h|⟨o,h⟩)|h
   .exact .inl (.inl (s _ _ h))
   .exact .inl (.inr ⟨o,s _ _ h⟩)
   .exact .inr h
  refine JU fun N g=>?_
  walk_at"rd";refine⟨a,ns,0,rfl,hs,fun c0=>⟨c0,5,rfl,by decide,fun lg xs G1 hlg s1 e1 hxl hx=>g _ _ ?_⟩⟩;clear g N;have hat:∀i:Nat,i < 5->∃x,Du (xs.map V.int) (i:Int)=some (.int x)/\0 <=x/\x < 5040:=fun i hi=>by
   have h:i < xs.length:=by omega
   exact⟨xs[i],Be (by rw[Y9,Y4 h];rfl),hx _ (Xk h)⟩
  obtain⟨x0,a0,b0,c0'⟩:=hat 0 (by omega);obtain⟨x1,a1,b1,c1⟩:=hat 1 (by omega);obtain⟨x2,a2,b2,c2⟩:=hat 2 (by omega);obtain⟨x3,a3,b3,c3⟩:=hat 3 (by omega);obtain⟨x4,a4,b4,c4⟩:=hat 4 (by omega);clear hat;obtain⟨out,hout,hout2⟩:∃out:Str,Du [V.str "oldest",V.str "widest",V.str "own"] (x1%3)=some (.str out)/\(out="oldest"\/out="widest"\/out="own"):=by
   have:x1%3=0\/x1%3=1\/x1%3=2:=by omega
   rcases this with h|h|h <;> rw[h]
   .exact⟨"oldest",rfl,.inl rfl⟩
   .exact⟨"widest",rfl,.inr (.inl rfl)⟩
   .exact⟨"own",rfl,.inr (.inr rfl)⟩
  obtain⟨ru,hru,hru2⟩:∃ru:Str,Du [V.str "first",V.str "last",V.str "refuse"] (x2%3)=some (.str ru)/\(ru="first"\/ru="last"\/ru="refuse"):=by
   have:x2%3=0\/x2%3=1\/x2%3=2:=by omega
   rcases this with h|h|h <;> rw[h]
   .exact⟨"first",rfl,.inl rfl⟩
   .exact⟨"last",rfl,.inr (.inl rfl)⟩
   .exact⟨"refuse",rfl,.inr (.inr rfl)⟩
  obtain⟨ag,hag,hag2⟩:∃ag:Str,Du [V.str "fresh",V.str "rest"] (x4%2)=some (.str ag)/\(ag="fresh"\/ag="rest"):=by
   have:x4%2=0\/x4%2=1:=by omega
   rcases this with h|h <;> rw[h]
   .exact⟨"fresh",rfl,.inl rfl⟩
   .exact⟨"rest",rfl,.inr rfl⟩
  refine JU fun N g=>?_
  walk_at"rd";refine⟨_,Jh.of e1,_,a0,_,rfl,by decide,N0 (by simp),fun p2 G2 hp2 s2 e2=>⟨_,Jh.of (s2 _ _ e1),_,a1,_,rfl,by decide,_,Jh.of e2,_,hout,N0 (by simp),fun rl G3 hrl0 s3 hrl=>g _ _ ?_⟩⟩;clear g N;have e13:=s3 _ _ (s2 _ _ e1);obtain⟨sp,esp⟩:∃sp:Int,sp=8+ x0%70:=⟨_,rfl⟩;rw[<-esp]at hrl;have hsp1:1 <=sp:=by omega
  refine JU fun N g=>?_
  walk_at"rd";refine⟨N0 (by simp),fun p4 G4 hp4 s4 e4=>⟨_,Jh.of (s4 _ _ e13),_,a2,_,rfl,by decide,_,Jh.of e4,_,hru,g _ _ ?_⟩⟩;clear g N;have e14:=s4 _ _ e13;have hrl4:=s4 _ _ hrl;refine JU fun N g=>?_
  walk_at"rd";have e10:(10:Int) ^ Int.toNat 6=1000000:=by decide
  rw[e10];refine⟨⟨by decide,by decide⟩,_,JC.of hrl4,_,rfl,_,JC.of hrl4,_,rfl,N0 (by simp),fun p5 G5 hp5 s5 e5=>⟨_,Jh.of (s5 _ _ e14),_,a4,_,rfl,by decide,_,Jh.of e5,_,hag,ru,out,ag,1000000,sp,rfl,hru2,by omega,hsp1,hout2,hag2,fun r dr df dw G6 s6 fr fdr fdf fdw hR6=>g _ _ ?_⟩⟩;clear g N;have hR6:=hR6 CR;have e16:=s6 _ _ (s5 _ _ e14);have hrl6:=s6 _ _ (s5 _ _ hrl4);have s16:=s1.trans (s2.trans (s3.trans (s4.trans (s5.trans s6))));clear e1 e2 e4 e5 e13 e14 hp2 hp4 hp5 s2 s3 s4 s5 s6 hru hag hout hlg s1 hrl hrl4 hrl0 fr fdr fdf fdw;obtain⟨nb,enb⟩:∃nb:Nat,nb=(2+ x3%6).toNat:=⟨_,rfl⟩;have hnb:1 <=nb/\nb <=7:=by omega
  refine JU fun N g=>?_
  walk_at"rd";refine⟨_,Jh.of e16,_,a3,_,rfl,by decide,by omega,by omega,?_⟩;rw[<-enb];obtain⟨Pv,ePv⟩:∃Pv:Nat->List V->L2.St->Hp->Prop,Pv=fun i ys σ' G=>∃ (v:Option V) (bs:List Addr),ys=bs.map V.ref/\bs.length=i/\σ'=[v,some (.ref a)]/\Jb G6 G/\RJ G bs:=⟨_,rfl⟩
  refine Lo Pv (by rw[ePv];exact⟨_,[],rfl,rfl,rfl,Jb.refl _,fun b hb=>nomatch hb⟩) ?_ (N0 (by omega)) ?_ ?_ <;> rw[ePv]
  .rintro i ys σ' G ⟨v,bs,rfl,hl,_⟩ _;rw[Y1];omega
  .rintro i ys σ' G hi ⟨v,bs,rfl,hl,rfl,sG,hb⟩;rw[<-ePv];walk_at"rd";refine⟨a,ns,1,rfl,sq (s16.trans sG),fun c1=>⟨c1,_,rfl,by omega,by omega,fun l ms G2 hl2 s2 e2 h1 h2 h3=>?_⟩⟩;rw[ePv];refine⟨_,bs++[l],by rw[List.map_append];rfl,by simp[hl],rfl,sG.trans s2,fun b hb'=>?_⟩;rcases Yp.mp hb' with z|z
   .exact(hb.kl (fun c _ h=>s2 c _ h)) b z
   .rw[Yb.mp z];exact⟨ms,e2,h1,h2,h3⟩
  rintro ys σ' G ⟨v,bs,rfl,hbl,rfl,sG,hb⟩ lb G7 hlb s7 e7;refine g _ _ ?_;clear g N ePv Pv;have s17:=s16.trans (sG.trans s7);have hR7:=hR6.mono (sG.trans s7);have hb7:=hb.kl (fun c _ h=>s7 c _ h);have hrl7:=s7 _ _ (sG _ _ hrl6);clear hb sG s7 hlb s16 hR6 e16 hrl6;refine JU fun N g=>?_
  walk_at"rd";refine fun ds G8 hd8 s8 e8=>g _ _ ?_
  clear g N;refine JU fun N g=>?_
  walk_at"rd";refine fun db G9 hd9 s9 e9=>g _ _ ?_
  clear g N;have s79:=s8.trans s9;have hne:ds≠dr/\ds≠df/\ds≠dw:=⟨Ne.symm (NI hR7.dR hd8),Ne.symm (NI hR7.dF hd8),Ne.symm (NI hR7.dW hd8)⟩;have hR8:=hR7.mono s8;have hnb9:db≠dr/\db≠df/\db≠dw:=⟨Ne.symm (NI hR8.dR hd9),Ne.symm (NI hR8.dF hd9),Ne.symm (NI hR8.dW hd9)⟩;have S9:GH C CR G9 r dr df dw ds db ⟨ru,1000000,sp,out,ag,0,[],[]⟩ [] [] 0:=⟨hR8.mono s9,⟨U2,by show(0:Int) <=sp;omega,(fun _ h=>nomatch h),Y8 _,(fun _ h=>nomatch h),(fun _ h=>nomatch h),(fun _ h=>nomatch h),⟨U6 _,by show(0:Int) <=100;decide⟩,(fun _ h=>nomatch h),rfl,(fun _ _ h=>nomatch h),(fun _ h=>nomatch h)⟩,⟨s9 _ _ e8,U2,(fun _ h=>nomatch h)⟩,e9,U2,(fun _ h=>nomatch h),⟨V9 _,U2,(fun _ h=>nomatch h)⟩,hne,hnb9⟩;have s19:=s17.trans s79;have hb9:=hb7.kl (fun c _ h=>s79 c _ h);have hrl9:=s79 _ _ hrl7;have elb:=s79 _ _ e7;refine JU fun N1 hN1=>?_
  walk_at"rd";refine⟨_,.inl (sq s19),?_⟩;have enl:(ns.map V.int).length=ns.length:=Y1 ..;obtain⟨m,em⟩:∃m:Nat,m=(if((ns.map V.int).length:Int) - 2 < 50 then((ns.map V.int).length:Int) - 2 else 50).toNat:=⟨_,rfl⟩;have hm50:m <=50/\(m:Nat) <=ns.length - 2:=by rw[em,enl];split <;> omega
  refine⟨by split <;> omega,by split <;> omega,?_⟩;rw[<-em];have sqK:∀{G:Hp},Md G9 G->Jh K G a (ns.map V.int):=fun {G} k=>by
   rcases sq s19 with(h|⟨o,h⟩)|h
   .exact .inl (.inl (k.l h))
   .exact .inl (.inr ⟨o,k _ _ h (fun _ _ _ z=>by cases z) (fun _ z=>by cases z) (fun _ z=>by cases z) (fun _ _ z=>by cases z)⟩)
   .exact .inr h
  obtain⟨Pv,ePv⟩:∃Pv:Nat->L2.St->Hp->Prop,Pv=fun i σ' G=>∃ (v8 v9 v10 v11 v12 v13 v14 v15:Option V) (db:WX) (R:Nf) (S:List SE) (Bg:List (Ky×Int)),σ'=[some (.ref a),some (.ref lg),some (.ref rl),some (.str ru),some (.ref r),some (.ref lb),some (.ref ds),some (.ref db),v8,v9,v10,v11,v12,v13,v14,v15]/\GH C CR G r dr df dw ds db R S Bg i/\R.now <=(i:Int) / 2/\R.sp=sp/\R.out=out/\Md G9 G:=⟨_,rfl⟩
  refine LH Pv (by rw[ePv];exact⟨_,_,_,_,_,_,_,_,_,_,_,_,rfl,S9,U6 _,rfl,rfl,Md.of (Jb.refl _)⟩) ?_ ?_ <;> rw[ePv]
  .rintro i σ' G hi ⟨v8,v9,v10,v11,v12,v13,v14,v15,db,R,S,Bg,rfl,hS,hnow,hspR,houtR,kl⟩;rw[<-ePv];clear hN1 S9 sq hR7 hR8 hb7 hrl7 e7 s79 s8 s9 e8 e9 hd8 hd9 hnb9 s17 s19 hs;have hi50:i < 50:=by omega
   have hix:Du (ns.map V.int) (2+ (0+ (i:Int)))=some (.int (ns[i+ 2]'(by omega))):=by
    rw[show(2+ (0+ (i:Int)))=((i+ 2:Nat):Int) by omega];exact Be (by rw[Y9,Y4 (show i+ 2 < ns.length by omega)];rfl)
   have hbk:=hb9.kl fun c xs h=>kl.l h
   simp only[Gs,List.set_cons_succ,List.set_cons_zero];refine JU fun N g=>?_
   walk_at"rd";refine⟨_,sqK kl,_,hix,_,6,rfl,by decide,fun ln ys G1 hln s1 e1 hyl hy=>⟨lb,ln,bs,ys,rfl,s1 _ _ (kl.l elb),by omega,by omega,hbk.kl (fun c _ h=>s1 c _ h),e1,by omega,hy,fun tp tk b pd G2 ix htp htk hb s2 hpk hkey hi0 hi1 h41 h49=>g _ _ ?_⟩⟩;clear g N;have hkt:pd.key∈Nk:=by
    rw[hkey];unfold DM;have h7:(ix%7).toNat < Nk.length:=by show _ < 7;omega
    rw[Xf,Y4 h7];exact Xk h7
   have s12:=s1.trans s2;have hS2:=hS.mono s12;have kl2:Md G9 G2:=fun c o h a b d e=>s12 c o (kl c o h a b d e)
   clear hkey hi0 hi1 e1 hyl hy s1 s2 hS kl hln htp htk hb hbk;refine JU fun N g=>?_
   walk_at"rd";refine⟨_,JC.of hpk.tp,rfl,_,_,rfl,_,_,rfl,_,_,rfl,_,_,rfl,rfl,g _ _ ?_⟩;clear g N;have hfew:R.es.length <=7:=SU hS2.rm.nk hS2.rk.ky;refine JU fun N g=>?_
   walk_at"rd";refine⟨hS2.rm.mt rfl,r,dr,df,dw,R,rfl,hS2.rm,by omega,fun kA la G3 hAp hAs hla s3 hA=>g _ _ ?_⟩;clear g N;have hS3:=hS2.mono s3;have hpk3:=hpk.mono s3;have kl3:Md G9 G3:=fun c o h a b d e=>s3 c o (kl2 c o h a b d e)
   clear hla s3 hS2 hpk kl2;refine JU fun N g=>?_
   walk_at"rd";refine⟨hS3.rm.mt rfl,⟨by decide,by decide⟩,_,JC.of hpk3.ky,_,rfl,_,JC.of hpk3.ky,_,rfl,_,JC.of hpk3.ky,_,rfl,pd,b,rfl,hpk3.k,hpk3.ok,hpk3.bd,fun q1 b1 G4 hq1 hb1 s4 hPie=>?_⟩;have hS4:=hS3.mono s4;have kl4:Md G9 G4:=fun c o h a b d e=>s4 c o (kl3 c o h a b d e)
   have hpk4:=hpk3.mono s4;have hA4:=hA.klt (Md.of s4);clear hS3 kl3 hpk3 hA s4 hq1 hb1;obtain⟨tm,etm⟩:∃tm:Int,tm=(0+ (i:Int)) / 2:=⟨_,rfl⟩;rw[<-etm];have htm:R.now <=tm/\tm <=100/\tm <=((i+ 1:Nat):Int) / 2:=by omega
   obtain⟨eat,eov,hRm⟩:=eP hS4.rk htm.1 htm.2.1;refine⟨r,dr,df,dw,q1,b1,R,pd,tm,rfl,hS4.rm,hPie,htm.1,by omega,by have:=hS4.rk.wl;omega,fun e he=>?_,by rw[eat];exact XA (Bm YC) hS4.rk.tot,fun e he=>Bb (hS4.rk.ky (e.ky,e.rs,e.first) (Y3.mpr ⟨e,he,rfl⟩)),fun ps R' le G5 hpp _ hle hn hE _=>g _ _ ?_⟩
   .obtain⟨z1,z2,z3⟩:=hS4.rk.ok (e.ky,e.rs,e.first) (Y3.mpr ⟨e,he,rfl⟩);have z1:e.rs.st.length <=41*i:=z1;have z2:e.rs.cv.length <=i:=z2;exact⟨by omega,by omega,z3⟩
   clear g N;rw[eov]at hpp;have eps:ps=[]:=hpp.eq_nil;subst eps;rw[eat]at hn hE;obtain⟨evs,eevs⟩:∃evs,evs=(Ny {R with now:=tm} pd).2.2:=⟨_,rfl⟩;have hE:E6 CL G4 G5 le evs:=by rw[eevs];exact hE
   have hD:OO {R with now:=tm} S pd (Jc R'.es) evs:=by rw[eevs,hn.es];exact jN hRm hS4.lk hpk4.ok
   have hR':D6 R' (i+ 1):=hRm.next hn.es hn.ws' hn.pr hn.ok.nk hpk4.ok h41 h49 hkt;have kl45:Md G4 G5:=cO hS4.rm rfl hn.kp;have hoff:∀{c:WX} {kvs:List (List Jw×V)},G4 c=some (.dT kvs)->c≠dr->c≠df->c≠dw->G5 c=some (.dT kvs):=fun e a b c=>hn.kp _ _ e (fun z=>rY hS4.rm e a b c z)
   have hSz5:DJ G5 ds S:=⟨hoff hS4.sz.d hS4.s1.1 hS4.s1.2.1 hS4.s1.2.2,hS4.sz.nk,fun e he=>kl45.l (hS4.sz.ls e he)⟩;have hBg5:=hoff hS4.bg hS4.s2.1 hS4.s2.2.1 hS4.s2.2.2;have hE5:EM CL G5 le evs:=by
    obtain⟨xs,e,h⟩:=hE;exact⟨xs,e,h.imp fun x y z=>z.o⟩
   have hpk5:=hpk4.klt kl45;have hA5:=hA4.klt kl45;have kl5:Md G9 G5:=fun c o h a b d e=>kl45 c o (kl4 c o h a b d e) a b d e
   have hR5:=hn.ok;obtain⟨pr1,pr2,pr3,pr4,pr5,pr6⟩:=hn.pr;have hspR':R'.sp=sp:=pr3.trans hspR;have houtR':R'.out=out:=pr4.trans houtR;have hnow':R'.now=tm:=pr6;have hS0:=hS4;have hfew':R'.es.length <=7:=SU hR5.nk hR'.ky;clear hn hE kl45 kl4 hpk4 hA4 hle hoff hPie;have hevl:evs.length <=60:=by
    have h1:=Sw {R with now:=tm} pd;have h2:(Jc R.es).length <=7:=by unfold Jc;rw[Y1];exact hfew
    rw[eevs];exact YF h1 (by show(Jc R.es).length+ 2 <=60;omega)
   have hkyp:=Bb hkt;have htab:∀k∈JQ evs,k∈Nk:=fun k hk=>by
    rcases hD.t1 k hk with⟨z,_⟩|z
    .obtain⟨x,hx,rfl⟩:=Y3.mp z;exact hS0.rk.ky x hx
    .rw[z];exact hkt
   have hSb:∀e∈S,e.ns.length <=2100:=fun e he=>by
    obtain⟨x,hx,ex⟩:=Y3.mp (hS0.lk.pm.mem_iff.mp (Y3.mpr ⟨e,he,rfl⟩));rw[(hS0.lk.ns e he x hx ex).length_eq,FD];have:=(hS0.rk.ok x hx).1;omega
   have hnr:∀n∈M5 S pd.key,0 <=n/\n < 49:=fun n hn=>by
    unfold M5 at hn;cases e:S.find? fun e=>decide (e.ky=pd.key) with
    |none=>rw[e]at hn;exact nomatch hn
    |some s=>
     rw[e]at hn;have hs:=X9 e;obtain⟨x,hx,ex⟩:=Y3.mp (hS0.lk.pm.mem_iff.mp (Y3.mpr ⟨s,hs,rfl⟩));exact hS0.rk.rg x hx n ((hS0.lk.ns s hs x hx ex).mem_iff.mp hn)
   have hSl:S.length <=7:=by
    have h1:=hS0.lk.pm.length_eq;rw[Y1,Y1]at h1;have h2:(Jc R.es).length <=7:=by unfold Jc;rw[Y1];exact hfew
    omega
   have hrl5:=kl5.t hrl9;refine JU fun N g=>?_
   walk_at"rd";refine⟨rl,le,tp,tk,b,la,ds,db,r,dr,df,dw,sp,out,evs,pd,kA,Jc R.es,S,Bg,R',rfl,hrl5,hE5,hevl,hpk5,hkyp,h41,hA5,by rw[DP];exact hAp,by unfold Jc;rw[Y1];omega,fun x hx=>Bb (hS0.rk.ky x hx),hSb,hSz5,hS0.lk,hBg5,hS0.bn,hS0.ba,hR5,by omega,fun e he=>?_,?_,fun k hk=>Bb (htab k (hD.gk k hk)),fun G6 s6=>⟨true,rfl,?_⟩⟩
   .have h1:=(hR'.ok (e.ky,e.rs,e.first) (Y3.mpr ⟨e,he,rfl⟩)).1;have h1:e.rs.st.length <=41*(i+ 1):=h1;omega
   .have:=hD.went;rw[show({R with now:=tm}:Nf).out=out from houtR,show({R with now:=tm}:Nf).sp=sp from hspR]at this;exact this
   rw[Y5 (by simp)];refine g _ _ ?_;clear g N;have hR6:=hR5.mono s6;have hSz6:=hSz5.mono s6;have hpk6:=hpk5.mono s6;have hE6:EM CL G6 le evs:=by
    obtain⟨xs,e,h⟩:=hE5;exact⟨xs,s6 _ _ e,h.imp fun x y z=>z.mono s6⟩
   have hA6:=hA5.klt (Md.of s6);have kl6:Md G9 G6:=fun c o h a b d e=>s6 c o (kl5 c o h a b d e)
   clear s6 hR5 hSz5 hpk5 hE5 hA5 kl5 hrl5 hBg5;have hrl6:=kl6.t hrl9;have hRb:∀e∈R'.es,e.rs.st.length <=100000:=fun e he=>by
    have h1:=(hR'.ok (e.ky,e.rs,e.first) (Y3.mpr ⟨e,he,rfl⟩)).1;have h1:e.rs.st.length <=41*(i+ 1):=h1;omega
   have hkAm:∀k,k∈kA↔k∈(Jc R.es).map (·.1):=fun k=>by rw[DP];exact hAp.mem_iff
   have hkAl:kA.length <=60:=by rw[hAp.length_eq,Y1];omega
   have ht8:(JQ evs).length <=8:=YF (O9 hD.nd htab) (show 7 <=8 by decide);have htR:Dk R'.es <=sp:=by have:=hR'.tot;rw[LN,hspR']at this;exact this
   refine JU fun N g=>?_
   walk_at"rd";refine⟨le,tk,la,r,dr,df,dw,evs,pd.key,kA,R',rfl,hE6,hpk6.ky,hkyp,hA6,hkAl,hR6,by omega,hevl,hD.nd,ht8,fun k hk=>Bb (htab k hk),fun k hk=>?_,fun k hk=>?_,fun k h1 h2=>?_,fun G7 s7=>⟨true,rfl,?_⟩⟩
   .rw[hkAm,<-DP];exact hD.t1 k hk
   .rw[hkAm];rw[<-DP]at hk;exact hD.t2 k hk
   .rw[hkAm]at h1;rw[<-DP]at h2;exact hD.t3 k h1 h2
   rw[Y5 (by simp)];refine⟨(hR6.mono s7).mt rfl,r,dr,df,dw,R',rfl,hR6.mono s7,by omega,hRb,fun G8 s8=>⟨_,JC.of (s8 _ _ (s7 _ _ hrl6)),_,rfl,_,rfl,_,rfl,?_⟩⟩;rw[Y5 (by simpa using htR)];refine g _ _ ?_;clear g N;have s78:=s7.trans s8;have hR8:=hR6.mono s78;have hSz8:=hSz6.mono s78;have hpk8:=hpk6.mono s78;have hE8:EM CL G8 le evs:=by
    obtain⟨xs,e,h⟩:=hE6;exact⟨xs,s78 _ _ e,h.imp fun x y z=>z.mono s78⟩
   have kl8:Md G9 G8:=fun c o h a b d e=>s78 c o (kl6 c o h a b d e)
   clear hR6 hSz6 hpk6 hE6 hA6 kl6 hrl6 s7 s8 s78;refine JU fun N g=>?_
   walk_at"rd";obtain⟨xs8,exs8,hxs8⟩:=id hE8;have hxl:xs8.length=evs.length:=hxs8.1;refine⟨⟨_,Jh.of exs8⟩,?_⟩;obtain⟨J,eJ⟩:∃J:L2.St->Hp->Prop,J=fun σ' H'=>σ'=[some (.ref a),some (.ref lg),some (.ref rl),some (.str ru),some (.ref r),some (.ref lb),some (.ref ds),some (.ref db),some (.int (0+ (i:Int))),some (.ref tp),some (.ref tk),some (.int pd.at'),some (.ref b),some (.bl pd.mo),some (.ref la),some (.ref le)]/\∃S',Jg C CR H' r dr df dw R'/\DJ H' ds S'/\D1 (Jc R'.es) S'/\Md G9 H':=⟨_,rfl⟩
   refine⟨J,?_,fun σ' H' hJ=>g _ _ ?_⟩
   .obtain⟨Pz,ePz⟩:∃Pz:Nat->List V->L2.St->Hp->Prop,Pz=fun j ys σ' G'=>∃ (v:Option V),σ'=[v]/\G'=G8/\ys.length=((evs.take j).filter Rk).length:=⟨_,rfl⟩
    refine GV (xs:=xs8) Pz (by rw[ePz];exact⟨_,rfl,rfl,rfl⟩) ?_ (N0 (by omega)) ?_ ?_ <;> rw[ePz]
    .rintro j ys σ' G' ⟨v,rfl,rfl,hl⟩ _;refine⟨Jh.of exs8,?_⟩;rw[hl];exact YF (YE ..) (by rw[Yt];omega)
    .rintro j x ys σ' G' hx ⟨v,rfl,rfl,hl⟩;rw[<-ePz];obtain⟨ev,hev,hO⟩:=hxs8.get hx;have et:(evs.take (j+ 1)).filter Rk=(evs.take j).filter Rk++[ev].filter Rk:=by rw[YJ,hev,YV,YZ]
     cases ev with
     |gone k wy=>
      obtain⟨te,tq,rfl,h1,h2⟩:=hO;walk_at"rd";refine⟨_,JC.of h1,_,rfl,rfl,?_⟩;rw[Y5 (by decide +kernel),ePz];exact⟨_,rfl,rfl,by rw[et,hl,Yl];rfl⟩
     |late k=>
      obtain⟨te,tq,rfl,h1,h2⟩:=hO;walk_at"rd";refine⟨_,JC.of h1,_,rfl,rfl,?_⟩;rw[Y5 (by decide +kernel),ePz];exact⟨_,rfl,rfl,by rw[et,hl,Yl];rfl⟩
     |strange k=>
      obtain⟨te,tq,rfl,h1,h2⟩:=hO;walk_at"rd";refine⟨_,JC.of h1,_,rfl,rfl,?_⟩;rw[Y6 (by simp),ePz];exact⟨_,rfl,rfl,by rw[et,Yl,hl,Yl];rfl⟩
     |whole d=>
      obtain⟨te,pl,bl,rfl,h1,h2⟩:=hO;walk_at"rd";refine⟨_,JC.of h1,_,rfl,rfl,?_⟩;rw[Y5 (by decide +kernel),ePz];exact⟨_,rfl,rfl,by rw[et,hl,Yl];rfl⟩
    .rintro ys σ' G' ⟨v,rfl,rfl,hl⟩ lC J1 hlC t1 g1;rw[hxl,Yu (Y8 _)]at hl;refine⟨Ys _,fun p J2 hp t2 g2=>⟨lC,rfl,ys,Jh.of (t2 _ _ g1),Jh.of g2,?_⟩⟩;have t12:=t1.trans t2;have hR9:=hR8.mono t12;have kl9:Md G9 J2:=fun c o h a b d e=>t12 c o (kl8 c o h a b d e)
     rw[hl];cases hany:evs.any Rk with
     |true=>
      have hne:¬(evs.filter Rk).length=0:=fun z=>by
       obtain⟨x,hx,hx2⟩:=U4.mp hany;have:=XZ.mp z;have h3:x∈evs.filter Rk:=Yf.mpr ⟨hx,hx2⟩;rw[this]at h3;exact nomatch h3
      rw[Y5 (by simpa using hne),eJ];have eA:=hD.str hany;exact⟨rfl,S,hR9,hSz8.mono t12,by rw[eA];exact hS0.lk,kl9⟩
     |false=>
      have hz : (evs.filter Rk).length = 0 := XZ.mpr (Wp.mpr fun x hx => by
       have := List.any_eq_false.mp hany x hx;simpa using this)
      rw[Y6 (by simpa using hz)];refine⟨ds,tp,tk,b,r,dr,df,dw,S,pd,R',rfl,hSz8.mono t12,hpk8.mono t12,hR9,by omega,by omega,hSb,hnr,h49,hS0.s1.1,hS0.s1.2.1,hS0.s1.2.2,fun S' J3 kp hS' c1 c2=>?_⟩;obtain⟨k1,k2⟩:=hD.kp hany;rw[<-DP]at c1 c2;rw[eJ];refine⟨rfl,S',hR9.kpD (hSz8.mono t12).d hS0.s1.1 hS0.s1.2.1 hS0.s1.2.2 kp,hS',?_,fun c o h a b d e=>(hSz8.mono t12).kp kp (kl9 c o h a b d e) b⟩
      by_cases hin:pd.key∈(Jc R'.es).map (·.1)
      .obtain⟨l,ms,m1,m2,m3⟩:=c2 hin;rw[m3];exact k2 hin l ms m1 m2
      .rw[c1 hin];exact k1 hin
   .rw[eJ]at hJ;obtain⟨rfl,S',hRJ,hSJ,hLJ,klJ⟩:=hJ;clear g N hR8 hSz8 hpk8 hE8 kl8 exs8 hxs8 hxl eJ J;refine JU fun N g=>?_
    walk_at"rd";refine⟨hRJ.mt rfl,r,dr,df,dw,R',rfl,hRJ,by omega,fun kk lk J1 hkp _ hlk t1 hK=>?_⟩;obtain⟨tK,eK,dK⟩:=hK.d;have htK:tK.length=kk.length:=dK.1;have hkl:kk.length <=7:=by rw[hkp.length_eq,Y1];exact hfew'
    have hkn:kk.Nodup:=hkp.symm.nodup hRJ.nk;have hR1:=hRJ.mono t1;obtain⟨fo,efo⟩:∃fo:Ky->Int,fo=fun k=>(((Jc R'.es).find? fun a=>decide (a.1=k)).map (·.2.2)).getD 0:=⟨_,rfl⟩
    have hfo:∀x∈Jc R'.es,fo x.1=x.2.2:=fun x hx=>by rw[efo];dsimp only;rw[O5 (QM hRJ.nk) hx];rfl
    refine⟨lk,rfl,⟨_,Jh.of eK⟩,?_⟩;obtain⟨Pz,ePz⟩:∃Pz:Nat->List V->L2.St->Hp->Prop,Pz=fun j ys σ' G'=>∃ (v:Option V) (us:List Addr),σ'=[v,some (.ref r)]/\ys=us.map V.ref/\Jb J1 G'/\Pw (fun(u:WX) (k:Ky)=>∃t,G' u=some (.tup [.ref t,.int (fo k)])/\G' t=some (.tup (Th k))) us (kk.take j):=⟨_,rfl⟩
    refine GV (xs:=tK.map V.ref) Pz (by rw[ePz];exact⟨_,[],rfl,rfl,Jb.refl _,rfl,fun j x y a _=>by simp at a⟩) ?_ (N0 (by rw[Y1];omega)) ?_ ?_ <;> rw[ePz]
    .rintro j ys σ' G' ⟨v,us,rfl,rfl,t2,hu⟩ _;refine⟨Jh.of (t2 _ _ eK),?_⟩;rw[Y1,hu.1,Yt];omega
    .rintro j x ys σ' G' hx ⟨v, us, rfl, rfl, t2, hu⟩;rw [<- ePz];rw [Y9] at hx;obtain ⟨tx, htx, rfl⟩ := Ye.mp hx;obtain ⟨kx, hkx, gx⟩ := dK.get htx;have gx := t2 _ _ gx;obtain ⟨e, he, rfl⟩ := Y3.mp (hkp.mem_iff.mp (Yq hkx));have hea : (e.ky, e.rs, e.first) ∈ Jc R'.es := Y3.mpr ⟨e, he, rfl⟩;have hef : fo e.ky = e.first := hfo _ hea;have hRi := hR1.mono t2;walk_at"rd";refine ⟨hRi.mt rfl, r, dr, df, dw, tx, R', e, rfl, hRi, gx, Bb (hR'.ky _ hea), he, fun J4 t4 => ⟨N0 (by decide), fun u J5 hu5 t5 g5 => ?_⟩⟩;rw [<- hef] at g5;rw [ePz];refine ⟨_, us ++ [u], rfl, by rw [List.map_append]; rfl, t2.trans (t4.trans t5), ?_⟩;rw [YJ, hkx, YV];exact (hu.imp fun u k h => by obtain ⟨t, h1, h2⟩ := h; exact ⟨t, t5 _ _ (t4 _ _ h1), t5 _ _ (t4 _ _ h2)⟩).app ⟨rfl, fun m x q a b => by
      cases m with
      |zero=>cases a;cases b;exact⟨tx,g5,t5 _ _ (t4 _ _ gx)⟩
      | succ m => simp at a⟩
    .rintro ys σ' G' ⟨v,us,rfl,rfl,t2,hu⟩ lp J2 hlp t3 gp;rw[Y1,htK,Yu (Y8 _)]at hu;obtain⟨Bg',eBg⟩:∃Bg':List (Ky×Int),Bg'=kk.map fun k=>(k,fo k):=⟨_,rfl⟩
     have hBk:Bg'.map (·.1)=kk:=by rw[eBg,Yw];exact(YI fun _ _=>rfl).trans (List.map_id' _)
     have hkk:(M4 (fun p:Ky×Int=>p.1) (fun p=>V.int p.2) Bg').map (·.1)=kk.map Na:=by rw[aB,hBk]
     have hkvl:(M4 (fun p:Ky×Int=>p.1) (fun p=>V.int p.2) Bg').length=kk.length:=by
      show(List.map _ Bg').length=_;rw[Y1,eBg,Y1]
     refine⟨lp,rfl,us,gp,M4 (fun p:Ky×Int=>p.1) (fun p=>V.int p.2) Bg',by rw[hkvl];exact hu.1,by rw[hkvl];omega,by rw[hkk];exact eI hkn,fun j T kv a b=>?_,fun db' J3 hdb t4 g4=>g _ _ ?_⟩
     .obtain⟨p,hp,e1,e2⟩:=Fh (k:=kv.1) (v:=kv.2) b;rw[eBg,Y9]at hp;obtain⟨k,hk,rfl⟩:=Ye.mp hp;obtain⟨t,h1,h2⟩:=hu.2 j T k a hk;exact⟨t,JC.of (by rw[e2];exact t3 _ _ h1),by rw[e1];exact t3 _ _ h2⟩
     clear g N;have tA:=t1.trans (t2.trans t3);have tB:=tA.trans t4;have hR3:=hRJ.mono tB;have kl3:Md G9 J3:=fun c o h a b d e=>tB c o (klJ c o h a b d e)
     have hS3 := hSJ.mono tB;have hndb : db' ≠ dr /\ db' ≠ df /\ db' ≠ dw := ⟨Ne.symm (NI (tA _ _ hRJ.dR) hdb), Ne.symm (NI (tA _ _ hRJ.dF) hdb), Ne.symm (NI (tA _ _ hRJ.dW) hdb)⟩;have S3 : GH C CR J3 r dr df dw ds db' R' S' Bg' (i + 1) := ⟨hR3, hR', hS3, g4, by rw [hBk]; exact hkn, fun x hx => by
      rw [eBg, <- hfo x hx];exact Y3.mpr ⟨x.1, hkp.symm.mem_iff.mp (by rw [<- DP]; exact Y3.mpr ⟨x, hx, rfl⟩), rfl⟩, hLJ, hS0.s1, hndb⟩
     clear hR1 hRJ hSJ t1 t2 t3 t4 tA tB hu gp hlp hK eK dK hlk;walk_at"rd";refine⟨hR3.mt rfl,r,dr,df,dw,R',rfl,hR3,by omega,hRb,fun J4 t4=>?_⟩;have S4:=S3.mono t4;have kl4:Md G9 J4:=fun c o h a b d e=>t4 c o (kl3 c o h a b d e)
     clear S3 hR3 hS3 kl3 t4 g4;have hkl2:(M4 SE.ky (fun e=>V.ref e.l) S').length=S'.length:=Y1 ..;have hS'l:S'.length <=7:=by
      have h1:=S4.lk.pm.length_eq;rw[Y1,Y1]at h1;have h2:(Jc R'.es).length <=7:=by unfold Jc;rw[Y1];exact hfew'
      omega
     have hSb':∀e∈S',e.ns.length <=2100:=fun e he=>by
      obtain⟨x,hx,ex⟩:=Y3.mp (S4.lk.pm.mem_iff.mp (Y3.mpr ⟨e,he,rfl⟩));rw[(S4.lk.ns e he x hx ex).length_eq,FD];have:=(hR'.ok x hx).1;omega
     refine yL S4.sz.d (fun Rr h=>by walk_at"rd";exact⟨.inr (.inr (.inl ⟨rfl,.inr ⟨_,S4.sz.d⟩⟩)),_,S4.sz.d,h⟩) (fun i ys σ'=>ys=((S'.take i).map fun e=>V.int e.ns.length)/\∃v,σ'=[v]) ⟨rfl,_,rfl⟩ ?_ (by omega) ?_ ?_
     .rintro j ys σ' ⟨rfl,_⟩;rw[Y1,Yt];omega
     .rintro Hf o hfo' hfd j k v ys σ' hk ⟨rfl,v0,rfl⟩;obtain⟨e,he,rfl,rfl⟩:=Fh hk;have h1:=S4.sz.ls e (Yq he);have h2:=hfo' _ _ h1 (Ja h1 S4.sz.d nofun);walk_at"rd";refine⟨_,.inl (Jh.of h2),?_⟩;rw[YJ,he,YV,List.map_append,Y1];rfl
     .rintro ys σ' ⟨rfl,_⟩ p J5 hp t5 g5;rw[hkl2,Yu (Y8 _)]at g5;have em:(S'.map fun e=>V.int e.ns.length)=(S'.map fun e=>(e.ns.length:Int)).map V.int:=by rw[Yw];rfl
      rw[em]at g5;have bd:∀x∈S'.map (fun e=>(e.ns.length:Int)),0 <=x/\x <=100000:=fun x hx=>by
       obtain⟨e,he,rfl⟩:=Y3.mp hx;have:=hSb' e he;omega
      refine⟨p,rfl,_,Jh.of g5,(fun x hx=>by have:=bd x hx;omega),(fun j hj=>?_),rfl,?_⟩
      .have h1:=Kq _ fun x hx=>bd x (Ug (i:=j) hx)
       have h2:((S'.map fun e=>(e.ns.length:Int)).take j).length <=1000:=by rw[Yt,Y1];omega
       omega
      .rw[S4.lk.tot,LN,Y5 (by simp),ePv];exact⟨_,_,_,_,_,_,_,_,_,R',S',Bg',rfl,S4.mono t5,by rw[hnow'];exact htm.2.2,hspR',houtR',fun c o h a b d e=>t5 c o (kl4 c o h a b d e)⟩
  .rintro σ' G _;refine hN1 _ _ ?_;walk_at"rd";exact q G
abbrev IY:Stmt:=M8 (top 44) 9
theorem nM:Nm ["self","key"] ["self","key"] (J8 IY):=by walk_at"e"
theorem nA{f C CR:WX}{fd:WR}(F:Nx K "check_kept" "Room.check_kept" IY f fd)(L:My K C)(MO:Tk P w K mg base "is_key" 4 ["value"] [] Z0):Jj P w K mg base JZ 5 f fd ["self","key"] (Lh C CR):=by
 refine F.ok nM (fun vs H Q E h=>?_) (fun u A j s H vs Q E g h=>?_)
 .obtain⟨m,dr,df,dw,t,R,k,rfl,_⟩:=h;rfl
 .obtain⟨m,dr,df,dw,t,R,k,rfl,i,c,p,n,q⟩:=h;refine⟨_,(Jz (NB (PW.pt (Rc (D0 (Mj (T7 MO g.m rfl (Jk 1 Jf)))) (Rx (GZ (uC (DL g)) (J9 1) (No K (J9 0)) (by with_unfolding_all rfl))))) RL NU)),?_⟩;walk_at"rd";refine⟨t,k,rfl,c,p,fun G b=>⟨_,rfl,?_⟩⟩;rw[Y5 (by simp)];have a:=i.mono b;refine⟨_,Ea L a,dr,rfl,Na k,_,.inl a.dR,b _ _ c,?_⟩;obtain⟨e,r,rfl⟩:=Y3.mp n;rw[Eu i.nk r];exact q G b
theorem Hx{C1 C2:WX}{b r:Bool}{x:WW}(h1:W.mroIn K C1 (.ref C2)=some b)(h2:W.typeIn K (.ref C2)=some (.type "type"))(h3:W.mroIn K C2 x=some r)(hs:W.mroIn K C1 (.ref C1)=some true):W.kitOne K (.ref C1) (.ref C2)=some b:=by
 unfold W.kitOne
 by_cases e:C1=C2
 .subst e;rw[h1]at hs;rw[Y6 (by simp),<-hs]
 .rw[Y5 (by simpa using e)];show(if((W.clsIn K C2).isSome && W.typeIn K (.ref C2)==some (.type "type"))=true then W.subIn K (.ref C1) (.ref C2) else none)=some b;have a:(W.clsIn K C2).isSome=true:=by
   unfold W.mroIn at h3;cases hq:W.clsIn K C2 with
   |none=>rw[hq]at h3;cases h3
   |some cd=>rfl
  rw[Y6 (by rw[a,h2];simp)];exact h1
end
theorem yM{us:WZ}{v:WW}(hl:(us++[v]).length=6):∃u0 u1 u2 u3 u4,us=[u0,u1,u2,u3,u4]:=by
 have a:us.length=5:=by rw[Yl]at hl;simpa using hl
 exact HD a
theorem yX{K:WV}{s:WQ}{T:WX}{oT:Option Addr}{nT:Nat}{sT:Array (Option Value)}{kV dc pm cd ct:WW}{an:Option Addr}{u0 u1 u2 u3 u4 u5:WW}(kx:K.In s.heap)(h:K.lookup T=some ⟨.type "tuple",oT,.seq #[.bool false] nT,sT⟩):
  BindsTo s (W.fnOf "__init__" "Letter.__init__" (Dl Jm) (Jv Jm) (J8 Jm) (.ref T) kV dc pm an cd ct) ⟨[u0,u1,u2,u3,u4,u5],[]⟩ ((["self","number","sender","goal","body","keep"]:List Str).zip ([u0,u1,u2,u3,u4,u5]++[])):=by
 first
  |exact .of_eq rfl
  |exact .of_defaults rfl (kx _ _ h) rfl rfl rfl
theorem Zy{K:WV}{s:WQ}{T:WX}{oT:Option Addr}{nT:Nat}{sT:Array (Option Value)}{kV dc pm cd ct:WW}{an:Option Addr}{u0 u1 u2 u3 u4:WW}(kx:K.In s.heap)(h:K.lookup T=some ⟨.type "tuple",oT,.seq #[.bool false] nT,sT⟩):
  BindsTo s (W.fnOf "__init__" "Letter.__init__" (Dl Jm) (Jv Jm) (J8 Jm) (.ref T) kV dc pm an cd ct) ⟨[u0,u1,u2,u3,u4],[]⟩ ((["self","number","sender","goal","body","keep"]:List Str).zip ([u0,u1,u2,u3,u4]++[.bool false])):=by
 exact .of_defaults rfl (kx _ _ h) rfl rfl rfl
theorem nO{us:WZ}{v:WW}(hl:(us++[v]).length=8):∃u0 u1 u2 u3 u4 u5 u6,us=[u0,u1,u2,u3,u4,u5,u6]:=by
 have a:us.length=7:=by rw[Yl]at hl;simpa using hl
 exact Ip a
theorem dE{K:WV}{s:WQ}{T:WX}{oT:Option Addr}{nT:Nat}{sT:Array (Option Value)}{kV dc pm cd ct:WW}{an:Option Addr}{u0 u1 u2 u3 u4 u5 u6 u7:WW}(kx:K.In s.heap)(h:K.lookup T=some ⟨.type "tuple",oT,.seq #[.bool false] nT,sT⟩):
  BindsTo s (W.fnOf "__init__" "Piece.__init__" (Dl Jq) (Jv Jq) (J8 Jq) (.ref T) kV dc pm an cd ct) ⟨[u0,u1,u2,u3,u4,u5,u6,u7],[]⟩ ((["self","number","sender","goal","at","body","more","keep"]:List Str).zip ([u0,u1,u2,u3,u4,u5,u6,u7]++[])):=by
 first
  |exact .of_eq rfl
  |exact .of_defaults rfl (kx _ _ h) rfl rfl rfl
theorem dU{K:WV}{s:WQ}{T:WX}{oT:Option Addr}{nT:Nat}{sT:Array (Option Value)}{kV dc pm cd ct:WW}{an:Option Addr}{u0 u1 u2 u3 u4 u5 u6:WW}(kx:K.In s.heap)(h:K.lookup T=some ⟨.type "tuple",oT,.seq #[.bool false] nT,sT⟩):
  BindsTo s (W.fnOf "__init__" "Piece.__init__" (Dl Jq) (Jv Jq) (J8 Jq) (.ref T) kV dc pm an cd ct) ⟨[u0,u1,u2,u3,u4,u5,u6],[]⟩ ((["self","number","sender","goal","at","body","more","keep"]:List Str).zip ([u0,u1,u2,u3,u4,u5,u6]++[.bool false])):=by
 exact .of_defaults rfl (kx _ _ h) rfl rfl rfl
local macro_rules | `(tactic| walk_at"b1") => `(tactic| exact fun _ _ _ _ _ _ us hl => by obtain ⟨_, e⟩ := Sk hl; subst e; rfl)
local macro_rules | `(tactic| walk_at"b2") => `(tactic| exact fun _ _ _ _ _ _ us hl => by obtain ⟨_, _, e⟩ := QB hl; subst e; rfl)
local macro_rules | `(tactic| walk_at"b3") => `(tactic| exact fun _ _ _ _ _ _ us hl => by obtain ⟨_, _, _, e⟩ := P3 hl; subst e; rfl)
local macro_rules | `(tactic| walk_at"b4") => `(tactic| exact fun _ _ _ _ _ _ us hl => by obtain ⟨_, _, _, _, e⟩ := S6 hl; subst e; rfl)
local macro_rules | `(tactic| walk_at"b5") => `(tactic| exact fun _ _ _ _ _ _ us hl => by obtain ⟨_, _, _, _, _, e⟩ := HD hl; subst e; rfl)
local macro_rules | `(tactic| walk_at"b6") => `(tactic| exact fun _ _ _ _ _ _ us hl => by obtain ⟨_, _, _, _, _, _, e⟩ := L3 hl; subst e; rfl)
local macro_rules | `(tactic| walk_at"b7") => `(tactic| exact fun _ _ _ _ _ _ us hl => by obtain ⟨_, _, _, _, _, _, _, e⟩ := Ip hl; subst e; rfl)
set_option maxHeartbeats 0 in
theorem FW{l:W.OpenLaw}{w:WU}{K:WV}{h:J6}{mg:WL}{fa:WX}(X:K.In h)(G:h.Ns mainGlobals mg)(hfa:mg "law"=some (.ref fa))
  {f_is_whole f_is_whole_within f_is_whole_from f_is_truth f_is_number f_is_name f_is_key f_is_byte f_is_body f_is_rule f_is_out f_is_again f_are_shared_parts f_is_place f_has_room f_with_span f_lacking f_cell_at f_mixed f_digits f_key f_lawbody f_lawpiece f_lawsize f_lawown f_lawgone f_lawafter f_lawstored f_law C_Letter f_Letter_key f_Letter_init T_Letter_init C_Piece f_Piece_key f_Piece_end f_Piece_init T_Piece_init C_Whole f_Whole_init C_Unlike f_Unlike_init C_Reading f_Reading_is_strange f_Reading_unlike_number f_Reading_take f_Reading_missing f_Reading_taken_body f_Reading_answer_to f_Reading_size f_Reading_init C_Room f_Room_check_time f_Room_let_go f_Room_is_resting f_Room_bytes_kept f_Room_end_waits f_Room_first_out f_Room_make_space f_Room_check_kept f_Room_since f_Room_kept f_Room_take_in f_Room_come f_Room_init:WX}
  {aRULES:WX}
  {aOUTS:WX}
  {aAGAINS:WX}
  (q_is_whole:GF K "is_whole" IQ f_is_whole)
  (q_is_whole_within:GF K "is_whole_within" FX f_is_whole_within)
  (q_is_whole_from:GF K "is_whole_from" Kb f_is_whole_from)
  (q_is_truth:GF K "is_truth" II f_is_truth)
  (q_is_number:GF K "is_number" Hu f_is_number)
  (q_is_name:GF K "is_name" Fy f_is_name)
  (q_is_key:GF K "is_key" Kc f_is_key)
  (q_is_byte:GF K "is_byte" Ka f_is_byte)
  (q_is_body:GF K "is_body" AY f_is_body)
  (q_is_rule:GF K "is_rule" LG f_is_rule)
  (q_is_out:GF K "is_out" FT f_is_out)
  (q_is_again:GF K "is_again" Hk f_is_again)
  (q_are_shared_parts:GF K "are_shared_parts" IG f_are_shared_parts)
  (q_is_place:GF K "is_place" Kn f_is_place)
  (q_has_room:GF K "has_room" Lx f_has_room)
  (q_with_span:GF K "with_span" Hz f_with_span)
  (q_lacking:GF K "lacking" I0 f_lacking)
  (q_cell_at:GF K "_law_cell_at" Kx f_cell_at)
  (q_mixed:GF K "_law_mixed" KZ f_mixed)
  (q_digits:GF K "_law_digits" KC f_digits)
  (q_key:GF K "_law_key" L8 f_key)
  (q_lawbody:GF K "_law_body" Cq f_lawbody)
  (q_lawpiece:GF K "_law_piece" Hs f_lawpiece)
  (q_lawsize:GF K "_law_size" Kz f_lawsize)
  (q_lawown:GF K "_law_own_too_much" AT f_lawown)
  (q_lawgone:GF K "_law_gone_right" EJ f_lawgone)
  (q_lawafter:GF K "_law_after" EK f_lawafter)
  (q_lawstored:GF K "_law_stored" Ik f_lawstored)
  (q_law:GF K "law" Rg f_law)
  (qc_Letter:CF K "Letter" C_Letter)
  (na_Letter:NA K C_Letter ["number","sender","goal","body","keep"])
  (q_Letter_key:MF K C_Letter "key" "Letter.key" La f_Letter_key)
  (q_Letter_init:DF K C_Letter "Letter.__init__" Jm f_Letter_init T_Letter_init)
  (qc_Piece:CF K "Piece" C_Piece)
  (na_Piece:NA K C_Piece ["number","sender","goal","at","body","more","keep"])
  (q_Piece_key:MF K C_Piece "key" "Piece.key" Km f_Piece_key)
  (q_Piece_end:MF K C_Piece "end" "Piece.end" KR f_Piece_end)
  (q_Piece_init:DF K C_Piece "Piece.__init__" Jq f_Piece_init T_Piece_init)
  (qc_Whole:CF K "Whole" C_Whole)
  (na_Whole:NA K C_Whole ["body"])
  (q_Whole_init:MF K C_Whole "__init__" "Whole.__init__" Nr f_Whole_init)
  (qc_Unlike:CF K "Unlike" C_Unlike)
  (na_Unlike:NA K C_Unlike ["at"])
  (q_Unlike_init:MF K C_Unlike "__init__" "Unlike.__init__" Nh f_Unlike_init)
  (qc_Reading:CF K "Reading" C_Reading)
  (na_Reading:NA K C_Reading ["rule","standing","cover","ending","reach"])
  (q_Reading_is_strange:MF K C_Reading "is_strange" "Reading.is_strange" KH f_Reading_is_strange)
  (q_Reading_unlike_number:MF K C_Reading "unlike_number" "Reading.unlike_number" Ig f_Reading_unlike_number)
  (q_Reading_take:MF K C_Reading "take" "Reading.take" L6 f_Reading_take)
  (q_Reading_missing:MF K C_Reading "missing" "Reading.missing" L5 f_Reading_missing)
  (q_Reading_taken_body:MF K C_Reading "taken_body" "Reading.taken_body" Co f_Reading_taken_body)
  (q_Reading_answer_to:MF K C_Reading "answer_to" "Reading.answer_to" IH f_Reading_answer_to)
  (q_Reading_size:MF K C_Reading "size" "Reading.size" Hr f_Reading_size)
  (q_Reading_init:MF K C_Reading "__init__" "Reading.__init__" N9 f_Reading_init)
  (qc_Room:CF K "Room" C_Room)
  (na_Room:NA K C_Room ["rule","wait","space","out","again","now","readings","firsts","wholes"])
  (q_Room_check_time:MF K C_Room "check_time" "Room.check_time" H0 f_Room_check_time)
  (q_Room_let_go:MF K C_Room "let_go" "Room.let_go" L9 f_Room_let_go)
  (q_Room_is_resting:MF K C_Room "is_resting" "Room.is_resting" LF f_Room_is_resting)
  (q_Room_bytes_kept:MF K C_Room "bytes_kept" "Room.bytes_kept" F4 f_Room_bytes_kept)
  (q_Room_end_waits:MF K C_Room "end_waits" "Room.end_waits" F2 f_Room_end_waits)
  (q_Room_first_out:MF K C_Room "first_out" "Room.first_out" Bq f_Room_first_out)
  (q_Room_make_space:MF K C_Room "make_space" "Room.make_space" Iy f_Room_make_space)
  (q_Room_check_kept:MF K C_Room "check_kept" "Room.check_kept" IY f_Room_check_kept)
  (q_Room_since:MF K C_Room "since" "Room.since" Lj f_Room_since)
  (q_Room_kept:MF K C_Room "kept" "Room.kept" IP f_Room_kept)
  (q_Room_take_in:MF K C_Room "take_in" "Room.take_in" Hc f_Room_take_in)
  (q_Room_come:MF K C_Room "come" "Room.come" HS f_Room_come)
  (q_Room_init:MF K C_Room "__init__" "Room.__init__" NK f_Room_init)
  (kt_Whole:W.typeIn K (.ref C_Whole)=some (.type "type")/\W.mroIn K C_Whole (.type "object")=some true)
  (kt_Unlike:W.typeIn K (.ref C_Unlike)=some (.type "type")/\W.mroIn K C_Unlike (.type "object")=some true)
  (kmr_Whole_Whole:W.mroIn K C_Whole (.ref C_Whole)=some true)
  (kmr_Unlike_Whole:W.mroIn K C_Unlike (.ref C_Whole)=some false)
  (kmr_Unlike_Unlike:W.mroIn K C_Unlike (.ref C_Unlike)=some true)
  (qk:(∃t,W.nsIn K mainGlobals "MOST_NUMBER"=some (some (.int 65535 t)))/\(∃t,W.nsIn K mainGlobals "MOST_BYTE"=some (some (.int 255 t)))/\(∃t,W.nsIn K mainGlobals "MOST_SIGNS"=some (some (.int 8 t)))/\(∃t,W.nsIn K mainGlobals "MOST_BYTES"=some (some (.int 4000 t)))/\(∃t,W.nsIn K mainGlobals "STEP"=some (some (.int 8 t)))/\True)
  (q_RULES:W.nsIn K mainGlobals "RULES"=some (some (.ref aRULES))/\∃o n s u0 u1 u2,K.lookup aRULES=some ⟨.type "tuple",o,.seq #[.str "first" u0,.str "last" u1,.str "refuse" u2] n,s⟩)
  (q_OUTS:W.nsIn K mainGlobals "OUTS"=some (some (.ref aOUTS))/\∃o n s u0 u1 u2,K.lookup aOUTS=some ⟨.type "tuple",o,.seq #[.str "oldest" u0,.str "widest" u1,.str "own" u2] n,s⟩)
  (q_AGAINS:W.nsIn K mainGlobals "AGAINS"=some (some (.ref aAGAINS))/\∃o n s u0 u1,K.lookup aAGAINS=some ⟨.type "tuple",o,.seq #[.str "fresh" u0,.str "rest" u1] n,s⟩)
  (zs:NS K ["len","range","isinstance","all","min","max","int","bool","str","list","tuple","enumerate","zip","sum","sorted","dict","set"]):
  ∃fd:FuncData,(∀ (s:WQ) (v:WW),BindsTo s fd ⟨[v],[]⟩ [("_law_script",v)])/\∀base:Heap,K.In base->base.Ns mainGlobals mg->Jj l.prog w K mg base JZ 11 fa fd ["_law_script"] (F1 K):=by
 obtain⟨a_law,oc,od,kV,dc,pm,an,cd,ct,sl,l_law,c_law,k_law⟩:=q_law;have e:=hfa.symm.trans (W.mg_of X G a_law);cases e;have BR:=K2 (st:=Rg) l_law c_law k_law;refine⟨W.fnOf "law" "law" (Dl Rg) (Jv Rg) (J8 Rg) .none kV dc pm an cd ct,fun s v=>.of_eq rfl,fun base kb nb=>?_⟩;have E:DV l.prog w K mg base:=⟨fun e=>W.mg_of X G e,fun e=>W.mg_none_of X G e⟩;have kit_Whole_Whole:W.kitOne K (.ref C_Whole) (.ref C_Whole)=some true:=Hx kmr_Whole_Whole kt_Whole.1 kt_Whole.2 kmr_Whole_Whole;have kit_Unlike_Whole:W.kitOne K (.ref C_Unlike) (.ref C_Whole)=some false:=Hx kmr_Unlike_Whole kt_Whole.1 kt_Whole.2 kmr_Unlike_Unlike;have kit_Unlike_Unlike:W.kitOne K (.ref C_Unlike) (.ref C_Unlike)=some true:=Hx kmr_Unlike_Unlike kt_Unlike.1 kt_Unlike.2 kmr_Unlike_Unlike;have cl_Letter:=qc_Letter.2.1;have m_Piece:=E.of qc_Piece.1;have cl_Piece:=qc_Piece.2.1;have ic_Piece:=qc_Piece.2.2.2.2;have m_Whole:=E.of qc_Whole.1;have cl_Whole:=qc_Whole.2.1;have ic_Whole:=qc_Whole.2.2.2.2;have cl_Unlike:=qc_Unlike.2.1;have ic_Unlike:=qc_Unlike.2.2.2.2;have cl_Reading:=qc_Reading.2.1;have cl_Room:=qc_Room.2.1;obtain⟨g_RULES,_,_,_,_,_,_,tt_RULES⟩:=q_RULES;have g_RULES:=E.of g_RULES;have t_RULES:∀H,L2.JC K H aRULES [.str "first",.str "last",.str "refuse"]:=fun H=>.inr ⟨_,_,_,tt_RULES,rfl,rfl,N0 (by simp),(.cons ⟨_,rfl⟩ (.cons ⟨_,rfl⟩ (.cons ⟨_,rfl⟩ .nil)))⟩
 obtain⟨g_OUTS,_,_,_,_,_,_,tt_OUTS⟩:=q_OUTS;have g_OUTS:=E.of g_OUTS;have t_OUTS:∀H,L2.JC K H aOUTS [.str "oldest",.str "widest",.str "own"]:=fun H=>.inr ⟨_,_,_,tt_OUTS,rfl,rfl,N0 (by simp),(.cons ⟨_,rfl⟩ (.cons ⟨_,rfl⟩ (.cons ⟨_,rfl⟩ .nil)))⟩
 obtain⟨g_AGAINS,_,_,_,_,_,tt_AGAINS⟩:=q_AGAINS;have g_AGAINS:=E.of g_AGAINS;have t_AGAINS:∀H,L2.JC K H aAGAINS [.str "fresh",.str "rest"]:=fun H=>.inr ⟨_,_,_,tt_AGAINS,rfl,rfl,N0 (by simp),(.cons ⟨_,rfl⟩ (.cons ⟨_,rfl⟩ .nil))⟩
 have B:Bt mg:=⟨E.no zs.1,E.no zs.2.1,E.no zs.2.2.1,E.no zs.2.2.2.1,E.no zs.2.2.2.2.1,E.no zs.2.2.2.2.2.1,E.no zs.2.2.2.2.2.2.1,E.no zs.2.2.2.2.2.2.2.1,E.no zs.2.2.2.2.2.2.2.2.1,E.no zs.2.2.2.2.2.2.2.2.2.1,E.no zs.2.2.2.2.2.2.2.2.2.2.1⟩;have B2:ER mg:=⟨E.no zs.2.2.2.2.2.2.2.2.2.2.2.2.2.1,E.no zs.2.2.2.2.2.2.2.2.2.2.2.2.2.2.1⟩;have B6:SL mg:=⟨E.no zs.2.2.2.2.2.2.2.2.2.2.2.2.2.2.2.1⟩;have B7:Fi mg:=⟨E.no zs.2.2.2.2.2.2.2.2.2.2.2.2.2.2.2.2.1⟩;have B3:Kp mg:=⟨E.no zs.2.2.2.2.2.2.2.2.2.2.2.1,E.no zs.2.2.2.2.2.2.2.2.2.2.2.2.1⟩;have T:Cn mg:=⟨qk.1.imp fun _ e=>E.of e,qk.2.1.imp fun _ e=>E.of e,qk.2.2.1.imp fun _ e=>E.of e,qk.2.2.2.1.imp fun _ e=>E.of e,qk.2.2.2.2.1.imp fun _ e=>E.of e⟩;have L:C9 K C_Letter:=⟨cl_Letter,na_Letter.1,na_Letter.2.1,na_Letter.2.2.1,na_Letter.2.2.2.1,na_Letter.2.2.2.2.1⟩;have LP:GO K C_Piece:=⟨cl_Piece,na_Piece.1,na_Piece.2.1,na_Piece.2.2.1,na_Piece.2.2.2.1,na_Piece.2.2.2.2.1,na_Piece.2.2.2.2.2.1,na_Piece.2.2.2.2.2.2.1⟩;have LW:Bv K C_Whole "body":=⟨cl_Whole,na_Whole.1⟩
 have LU:Bv K C_Unlike "at":=⟨cl_Unlike,na_Unlike.1⟩
 have LR:Gn K C_Reading:=⟨cl_Reading,na_Reading.1,na_Reading.2.1,na_Reading.2.2.1,na_Reading.2.2.2.1,na_Reading.2.2.2.2.1⟩;have LM:My K C_Room:=⟨cl_Room,na_Room.1,na_Room.2.1,na_Room.2.2.1,na_Room.2.2.2.1,na_Room.2.2.2.2.1,na_Room.2.2.2.2.2.1,na_Room.2.2.2.2.2.2.1,na_Room.2.2.2.2.2.2.2.1,na_Room.2.2.2.2.2.2.2.2.1⟩;have g_is_whole:=E.fb q_is_whole (fun Ni=>xJ Ni B) (by walk_at"b1");have g_is_whole_within:=E.fb q_is_whole_within (fun JP=>tW JP g_is_whole) (by walk_at"b3");have g_is_whole_from:=E.fb q_is_whole_from (fun JL=>xE JL g_is_whole) (by walk_at"b2");have g_is_truth:=E.fb q_is_truth (fun T5=>dN T5 B) (by walk_at"b1");have g_is_number:=E.fb q_is_number (fun NL=>gJ NL T g_is_whole_within) (by walk_at"b1");have g_is_name:=E.fb q_is_name (fun NF=>cD NF T B) (by walk_at"b1");have g_is_key:=E.fb q_is_key (fun MO=>v1 MO B g_is_number g_is_name) (by walk_at"b1");have g_is_byte:=E.fb q_is_byte (fun Mi=>uH Mi T g_is_whole_within) (by walk_at"b1");have g_is_body:=E.fb q_is_body (fun Me=>tZ Me T B g_is_byte) (by walk_at"b1");have g_is_rule:=E.fb q_is_rule (fun Mh=>vZ Mh B g_RULES t_RULES) (by walk_at"b1");have g_is_out:=E.fb q_is_out (fun MR=>ZQ MR B g_OUTS t_OUTS) (by walk_at"b1");have g_is_again:=E.fb q_is_again (fun TN=>tM TN B g_AGAINS t_AGAINS) (by walk_at"b1");have g_are_shared_parts:=E.fb q_are_shared_parts (fun JJ=>nC JJ g_is_number g_is_name g_is_body g_is_truth) (by walk_at"b5");have g_is_place:=E.fb q_is_place (fun TW=>xT TW T g_is_whole) (by walk_at"b1");have g_has_room:=E.fb q_has_room (fun TX=>xO TX T) (by walk_at"b3");obtain⟨a_Letter_init,i_Letter_init,_,_,_,_,_,_,_,_,_,l_Letter_init,c_Letter_init,_,_,_,t_Letter_init⟩:=q_Letter_init;have o_Letter:Jj l.prog w K mg base JZ 6 f_Letter_init _ ["self","number","sender","goal","body","keep"] (An C_Letter):=ZV ⟨_,_,_,_,_,_,_,_,_,_,rfl,l_Letter_init,c_Letter_init⟩ L B g_are_shared_parts;have M_Letter:Mk K C_Letter f_Letter_init:=⟨qc_Letter.2.2.1,a_Letter_init,i_Letter_init,qc_Letter.2.2.2.1⟩;have i_Letter:GJ l.prog w K mg base "Letter" C_Letter 6 ["self","number","sender","goal","body","keep"] [] (An C_Letter):=⟨_,_,[],o_Letter,E.of qc_Letter.1,M_Letter,(fun s us kx hl=>by rw[List.append_nil]at hl ⊢;obtain⟨_,_,_,_,_,_,rfl⟩:=L3 hl;exact yX kx t_Letter_init),.nil⟩
 have i_Letter_d1:GJ l.prog w K mg base "Letter" C_Letter 6 ["self","number","sender","goal","body","keep"] [.bl false] (An C_Letter):=⟨_,_,[.bool false],o_Letter,E.of qc_Letter.1,M_Letter,(fun s us kx hl=>by obtain⟨u0,u1,u2,u3,u4,rfl⟩:=yM hl;exact Zy kx t_Letter_init),.cons rfl .nil⟩
 have m_Letter_key:=E.mb (sp:=Hw C_Letter) qc_Letter q_Letter_key (fun Tl=>uD Tl L) (by walk_at"b1");obtain⟨a_Piece_init,i_Piece_init,_,_,_,_,_,_,_,_,_,l_Piece_init,c_Piece_init,_,_,_,t_Piece_init⟩:=q_Piece_init;have o_Piece:Jj l.prog w K mg base JZ 6 f_Piece_init _ ["self","number","sender","goal","at","body","more","keep"] (AD C_Piece):=aT ⟨_,_,_,_,_,_,_,_,_,_,rfl,l_Piece_init,c_Piece_init⟩ LP B g_are_shared_parts g_is_place g_is_truth g_has_room;have M_Piece:Mk K C_Piece f_Piece_init:=⟨qc_Piece.2.2.1,a_Piece_init,i_Piece_init,qc_Piece.2.2.2.1⟩;have i_Piece:GJ l.prog w K mg base "Piece" C_Piece 6 ["self","number","sender","goal","at","body","more","keep"] [] (AD C_Piece):=⟨_,_,[],o_Piece,E.of qc_Piece.1,M_Piece,(fun s us kx hl=>by rw[List.append_nil]at hl ⊢;obtain⟨_,_,_,_,_,_,_,_,rfl⟩:=mK hl;exact dE kx t_Piece_init),.nil⟩
 have i_Piece_d1:GJ l.prog w K mg base "Piece" C_Piece 6 ["self","number","sender","goal","at","body","more","keep"] [.bl false] (AD C_Piece):=⟨_,_,[.bool false],o_Piece,E.of qc_Piece.1,M_Piece,(fun s us kx hl=>by obtain⟨u0,u1,u2,u3,u4,u5,u6,rfl⟩:=nO hl;exact dU kx t_Piece_init),.cons rfl .nil⟩
 have m_Piece_key:=E.mb (sp:=L0 C_Piece) qc_Piece q_Piece_key (fun Tx=>jS Tx LP) (by walk_at"b1");have m_Piece_end:=E.mb (sp:=LA C_Piece) qc_Piece q_Piece_end (fun JN=>j5 JN LP B) (by walk_at"b1");have g_with_span:=E.fb q_with_span (fun Tz=>bT Tz B) (by walk_at"b2");have g_lacking:=E.fb q_lacking (fun Ma=>vB Ma) (by walk_at"b2");have i_Whole:=E.kb qc_Whole q_Whole_init (fun F=>bE F LW B) (by walk_at"b2");have i_Unlike:=E.kb qc_Unlike q_Unlike_init (fun F=>eE F LU) (by walk_at"b2");have i_Reading:=E.kb qc_Reading q_Reading_init (fun F=>ZJ F LR) (by walk_at"b2");have m_Reading_is_strange:=E.mb (sp:=Fs C_Reading C_Piece) qc_Reading q_Reading_is_strange (fun JD=>cL JD LR LP (Ze m_Piece_end)) (by walk_at"b2");have m_Reading_unlike_number:=E.mb (sp:=LI C_Reading C_Piece) qc_Reading q_Reading_unlike_number (fun JX=>xL JX LR LP B3) (by walk_at"b2");have m_Reading_take:=E.mb (sp:=IL C_Reading C_Piece) qc_Reading q_Reading_take (fun NZ=>mY NZ LR LP B B3 (Ze m_Piece_end) g_with_span) (by walk_at"b2");have m_Reading_missing:=E.mb (sp:=HV C_Reading) qc_Reading q_Reading_missing (fun Nq=>bB Nq LR g_lacking) (by walk_at"b1");have m_Reading_taken_body:=E.mb (sp:=LY C_Reading) qc_Reading q_Reading_taken_body (fun N7=>y9 N7 LR B) (by walk_at"b1");have m_Reading_answer_to:=E.mb (sp:=L7 C_Reading C_Piece C_Whole C_Unlike) qc_Reading q_Reading_answer_to (fun Nb=>wS Nb LR LP m_Reading_is_strange m_Reading_unlike_number m_Reading_take m_Reading_missing m_Reading_taken_body (ZH i_Whole) (Zp i_Unlike)) (by walk_at"b2");have m_Reading_size:=E.mb (sp:=FN C_Reading) qc_Reading q_Reading_size (fun JV=>xY JV LR B) (by walk_at"b1");have i_Room:=E.kb qc_Room q_Room_init (fun F=>aR F LM g_is_rule g_is_whole_from g_is_out g_is_again) (by walk_at"b6");have m_Room_check_time:=E.mb (sp:=LZ C_Room C_Reading) qc_Room q_Room_check_time (fun Nu=>Zx Nu LM g_is_whole_from) (by walk_at"b2");have m_Room_let_go:=E.mb (sp:=Ar C_Room C_Reading) qc_Room q_Room_let_go (fun JS=>jW JS LM) (by walk_at"b2");have m_Room_is_resting:=E.mb (sp:=IW C_Room C_Reading) qc_Room q_Room_is_resting (fun Nw=>aO Nw LM) (by walk_at"b2");have m_Room_bytes_kept:=E.mb (sp:=Aq C_Room C_Reading) qc_Room q_Room_bytes_kept (fun Js=>bR Js LM B2 m_Reading_size) (by walk_at"b1");have m_Room_end_waits:=E.mb (sp:=Kw C_Room C_Reading) qc_Room q_Room_end_waits (fun ND=>bV ND LM B2 m_Room_let_go) (by walk_at"b1");have m_Room_first_out:=E.mb (sp:=Hg C_Room C_Reading) qc_Room q_Room_first_out (fun NC=>eS NC LM B m_Reading_size) (by walk_at"b2");have m_Room_make_space:=E.mb (sp:=Kd C_Room C_Reading) qc_Room q_Room_make_space (fun Nt=>xH Nt LM m_Room_bytes_kept m_Room_let_go m_Room_first_out) (by walk_at"b2");have m_Room_check_kept:=E.mb (sp:=Lh C_Room C_Reading) qc_Room q_Room_check_kept (fun Nv=>nA Nv LM g_is_key) (by walk_at"b2");have m_Room_since:=E.mb (sp:=KP C_Room C_Reading) qc_Room q_Room_since (fun Tj=>x8 Tj LM m_Room_check_kept) (by walk_at"b2");have m_Room_kept:=E.mb (sp:=Ak C_Room C_Reading) qc_Room q_Room_kept (fun JI=>Zm JI LM B2) (by walk_at"b1");have m_Room_take_in:=E.mb (sp:=O2 C_Room C_Reading C_Piece C_Letter) qc_Room q_Room_take_in (fun T4=>vN T4 LM LW ic_Whole ic_Unlike LU kit_Whole_Whole kit_Unlike_Whole B m_Whole (bG m_Piece_key) m_Room_is_resting (uX i_Reading) m_Reading_is_strange m_Reading_answer_to m_Room_make_space m_Room_let_go (ZM i_Letter_d1)) (by walk_at"b2");have m_Room_come:=E.mb (sp:=KM C_Room C_Reading C_Piece C_Letter) qc_Room q_Room_come (fun Tu=>yE Tu LM LP B m_Piece ic_Piece m_Room_check_time m_Room_end_waits m_Room_take_in) (by walk_at"b3");have g_cell_at:=E.fb (sp:=Ii K) q_cell_at (fun TC=>gZ TC B) (by walk_at"b2");have g_mixed:=E.fb q_mixed (fun TD=>wR TD) (by walk_at"b2");have g_digits:=E.fb q_digits (fun M2=>uW M2 B g_mixed) (by walk_at"b2");have g_key:=E.fb q_key (fun Ri=>ZI Ri) (by walk_at"b1");have g_lawbody:=E.fb q_lawbody (fun Mg=>gB Mg B g_mixed) (by walk_at"b2");have g_lawpiece:=E.fb q_lawpiece (fun TR=>x9 TR B g_key) (by walk_at"b2");have g_lawsize:=E.fb q_lawsize (fun TF=>tX TF B) (by walk_at"b2");have g_lawown:=E.fb q_lawown (fun MJ=>n6 MJ B B2 B7) (by walk_at"b3");have g_lawgone:=E.fb (sp:=Ir C_Room C_Reading C_Letter) q_lawgone (fun Mb=>eL Mb B g_lawsize g_lawown m_Room_bytes_kept) (by walk_at"b7");have g_lawafter:=E.fb (sp:=O7 C_Room C_Reading C_Letter) q_lawafter (fun TV=>cC TV B B7 L (mG m_Letter_key) m_Room_kept) (by walk_at"b4");have g_lawstored:=E.fb (sp:=FU C_Room C_Reading) q_lawstored (fun Tw=>eQ Tw B B2 B7 m_Room_kept) (by walk_at"b3");exact nG (CR:=C_Reading) BR LM B B2 B6 g_cell_at g_digits g_lawbody g_lawpiece (tI i_Room) (wM i_Piece_d1) m_Room_kept m_Room_come m_Room_bytes_kept m_Room_since g_lawgone g_lawafter g_lawstored
theorem ZW{l:W.OpenLaw}{q:WP}{loose:List Str}{XP:(Str->Option Value)->Heap->Prop}{YP:World->Heap->Prop}{d:DefRec}{K:Params->W.Frag}(hn:l.most=some 63)(hdf:d.params.defaults=[])
  (hY:∀ (w:WU) (h:J6),YP w h->(K w.params).In h)
  (F : ∀ (w : World) (mg : Str -> Option Value) (fa : Addr) (h : Heap), (K w.params).In h -> h.Ns mainGlobals mg -> mg d.name = some (.ref fa) ->
   ∃ fd : FuncData, (∀ (s : Shared) (u : Value), BindsTo s fd ⟨[u], []⟩ [("_law_script", u)]) /\ ∀ base : Heap, (K w.params).In base -> base.Ns mainGlobals mg -> Jj l.prog w (K w.params) mg base JZ 11 fa fd ["_law_script"] (F1 (K w.params))) :
  W.WalkO q loose XP YP l.row.toRowW d [] (fun f vs=>PySem.call f vs):=
 L2.C5 (n:=63) (k:=11) (x:="_law_script") (CX:=fun _=>JZ) (sp:=fun w=>F1 (K w.params)) hn (by decide) hdf ⟨rfl,by decide,by decide⟩ hY F (fun _ _ a b c _ e=>⟨a,b,rfl,e,c,fun _=>rfl⟩) fun _ _ _ _ _ z=>z
end Mine
namespace PySem.W.Fast
def tw1442883213674172096:=()
def tw14679588200771749107:=()
def tw5892865825871317481:=()
def tw15847360346640873051:=()
def tw12295470924389043218:=()
def tw10590679393516459555:=()
def tw13998549184718415740:=()
def tw2806434270824303428:=()
def tw12202467073583097117:=()
def tw7525217136948170592:=()
def tw2584717037975199560:=()
def tw5410100817452136870:=()
def tw1788427312514349221:=()
def tw18137006771528648368:=()
def tw9994402256005092919:=()
def tw9478376217938101910:=()
def tw4103364837812569763:=()
def tw6834258599669261387:=()
def tw11424877459477814353:=()
def tw4000394770809127949:=()
def tw5153501206636508497:=()
def tw14485689154344789081:=()
def tw3032580406783498722:=()
def tw2296991828209708158:=()
def tw10173277554052421977:=()
def tw11216646440488176635:=()
def tw10532857181894413056:=()
def tw788509467469318744:=()
def tw100069053857020914:=()
def tw10298644407972628015:=()
def tw16686556763248252952:=()
def tw13241932982832594455:=()
def tw11367271796176168150:=()
def tw14290345228000704846:=()
def tw2445567057301066799:=()
def tw18210004947502552247:=()
def tw17317606797030707446:=()
def tw3807503939837943507:=()
def tw14776838314384785644:=()
def tw5156909565039942105:=()
def tw622828975163214100:=()
def tw17190144031425805363:=()
def tw8932087088307991116:=()
def tw12991177305768304487:=()
def tw15187801357994328531:=()
def tw12587052458045739946:=()
def tw11975057741602583356:=()
def tw4124774065036186707:=()
def tw16848528259341240931:=()
def tw9783114949665677413:=()
def tw10037841329138205723:=()
def tw16837400336281143905:=()
def tw5486255063998079252:=()
def tw4464823490521007103:=()
def tw5387993837493015711:=()
def tw913902323777215623:=()
def tw11749769979078685847:=()
def tw6625869141386604222:=()
def tw10278701786971987275:=()
def tw8288521902426402846:=()
def tw15116796623558807228:=()
def tw6949144280050827607:=()
def tw1518893800578157213:=()
def tw11586287503349060467:=()
def tw1355587114665648931:=()
def tw13524880351668435636:=()
def tw12369536224846751544:=()
def tw11452847083716651038:=()
def tw17138971276008348958:=()
def tw17339513139492732249:=()
def tw12424256642354744820:=()
def tw15876048739779408569:=()
def tw12053409326456440688:=()
def tw6893610474060856109:=()
def tw16857080128715930569:=()
def tw9582372375731197667:=()
def tw4007226731100416105:=()
def tw14790351198195086511:=()
def tw14294166219128303537:=()
def tw15574592799769552295:=()
def tw13433373354668149110:=()
def tw17214035216951954272:=()
def tw15293104706827802344:=()
def tw11228776849528947045:=()
def tw15719444843951876725:=()
def tw1298725184746033308:=()
def tw9155702648710581584:=()
def tw13770882661171366724:=()
def tw13294553277547867371:=()
def tw16605029519405563859:=()
def tw15917447271451155638:=()
def tw4373495017800737479:=()
def tw11331270160248851028:=()
def tw14712728330683546158:=()
def tw3804618453577638305:=()
def tw10930682578740092044:=()
def tw8400331982484343338:=()
def tw17602894021049611169:=()
def tw593130985916033217:=()
def tw1863766172706958598:=()
def tw13271435031445650287:=()
def tw12143050309326960247:=()
def tw12342390385000649018:=()
def tw5781687540067828582:=()
def tw7023582558681190446:=()
def tw11967247097605405595:=()
def tw8920394114664953119:=()
def tw2184156290486896768:=()
def tw14221534244755591345:=()
def tw11296015118020463789:=()
def tw14782462675354601772:=()
def tw4052427025778144353:=()
def tw6361392630090787293:=()
def tw12943853961531936100:=()
def tw15655826299086877357:=()
def tw14621174676190939130:=()
def tw5159726082889034253:=()
def tw16507411514344129500:=()
def tw16451447640748258329:=()
def tw15402509402260612172:=()
def tw3940691451594508483:=()
def tw3547015666806948919:=()
def tw15380022165986290646:=()
def tw13631840279190694819:=()
def tw5645336055753620268:=()
def tw543975228061420084:=()
def tw9693769709440901925:=()
def tw14085263221296488876:=()
def tw6961320222597428829:=()
def tw15763758781246380962:=()
def tw3314254166836215733:=()
def tw2462740879252270703:=()
def tw13861904137616947929:=()
def tw15435676177782201526:=()
def tw2552891222623365877:=()
def tw14566840147134143194:=()
def tw5860998911499273089:=()
def tw5553247919805414802:=()
def tw7432062009393251998:=()
def tw1769556538480647302:=()
def tw1285822920578459043:=()
def tw17522341061208347353:=()
def tw6120391904450803642:=()
def tw2623464801284587921:=()
def tw11664077251162137695:=()
def tw16460200025682430222:=()
def tw13647189322489508509:=()
def tw4764517727432299710:=()
def tw3154302792120321853:=()
def tw3006308520303177499:=()
def tw655746504169396839:=()
def tw14165515529228975032:=()
def tw12060298257684978031:=()
def tw7879680051648158551:=()
def tw6685627391041772593:=()
def tw1354287033400696055:=()
def tw9132642421733858272:=()
def tw16110453743814815800:=()
def tw3252679775045216437:=()
def tw4794729985087217305:=()
def tw15459226079595434176:=()
def tw9942419968659657463:=()
def tw6864980028454680235:=()
def tw7448710345813351756:=()
def tw12097124492547165532:=()
def tw2848415311069755563:=()
def tw4766573873343799444:=()
def tw9060469192982019597:=()
def tw17419136880707352502:=()
def tw1803005390363367446:=()
def tw13175333487646847365:=()
def tw9646526369547600482:=()
def tw10331957814629816117:=()
def tw6474889268356242761:=()
def tw5423410083997389548:=()
def tw13501722062635767418:=()
def tw5576634120800409496:=()
def tw7245062900615531830:=()
def tw9941519418913737146:=()
def tw895963951487068120:=()
def tw6719992558385998736:=()
def tw15828770660245697992:=()
def tw8989870190296777794:=()
def tw14349483775645922404:=()
def tw10769621305764742543:=()
def tw9030342614994816092:=()
def tw6088097130304515064:=()
def tw5031249883276954054:=()
def tw13212184544597686256:=()
def tw1599117894014484258:=()
def tw11318904778744510366:=()
def tw10085768249457055852:=()
def tw6710791480897561941:=()
def tw3932659587303864765:=()
def tw4198634384888720384:=()
def tw14495848104981953791:=()
def tw11667012007336317181:=()
def tw5511269038437345227:=()
def tw7987989125756948305:=()
def tw9675878702562098322:=()
def tw13474357882289230698:=()
def tw11288472954709656665:=()
def tw16080062135166456359:=()
def tw8951516858868803898:=()
def tw3092795994048429605:=()
def tw762976271417635459:=()
def tw13260320372934726126:=()
def tw4134320522544506692:=()
def tw11871669020506650997:=()
def tw7893521361114494722:=()
def tw1152129642054962270:=()
def tw14304696266112619741:=()
def tw15517917272805047876:=()
def tw7925714009064339963:=()
def tw6575934261870452385:=()
def tw1522269797906362186:=()
def tw15617817349411060996:=()
def tw18321938246807940898:=()
def tw7150255668035118712:=()
def tw2962492779928742418:=()
def tw7937833969535475553:=()
def tw11355828481293996619:=()
def tw1744619157151444669:=()
def tw13849378212954546062:=()
def tw3660628613219426682:=()
def tw5306906337876213134:=()
def tw15471550698624060502:=()
def tw13131984828286590369:=()
def tw14819277472160448565:=()
def tw12888257077320922745:=()
def tw5927590348363690187:=()
def tw5411901736274203988:=()
def tw13131308462779207180:=()
def tw8091647018574441238:=()
def tw647772345830229243:=()
def tw7664312723292513158:=()
def tw6669800587368656000:=()
def tw2768786507109443361:=()
def tw1230141022136382706:=()
def tw4328973247650683155:=()
def tw1613972323303210361:=()
def tw13845070283933979585:=()
def tw884684767121949786:=()
def tw16974464549744700389:=()
def tw6842846392734938592:=()
def tw8345501557582207643:=()
def tw7580895833400350874:=()
def tw16555430680190965212:=()
def tw12345367316186593723:=()
def tw7201932160930248783:=()
def tw3325916927998309950:=()
def tw12231992462445264228:=()
def tw5449822215058520627:=()
def tw3824512767214955461:=()
def tw10235280796747232306:=()
def tw1771626895660115556:=()
def tw16545783911025350081:=()
def tw13647441480477827291:=()
def tw15372218134808760662:=()
def tw6697720583338087737:=()
def tw6436391349805249048:=()
def tw5014983683860123306:=()
def tw7843156776326826780:=()
def tw5602679666597440923:=()
def tw15956499670674431586:=()
def tw18023845392384671087:=()
def tw9187142837791800527:=()
def tw8004411947284975465:=()
def tw15864452381759374160:=()
def tw12519988085094019788:=()
def tw18106031001119478487:=()
def tw3297982446894287772:=()
def tw12293242341398101293:=()
def tw8423055943407182265:=()
def tw5418180551199601003:=()
def tw17010147718292750390:=()
def tw4425303925211943574:=()
def tw2316429658106210408:=()
def tw8093959111383289189:=()
def tw10092448136103280525:=()
def tw5427845477057512356:=()
def tw13209195100078531516:=()
def tw15816798304647495019:=()
def tw3069616727988997481:=()
def tw4889911692315216141:=()
def tw6975614692838339573:=()
def tw12204145461246051117:=()
def tw16829102964937199168:=()
def tw14333066308007111120:=()
def tw2415264118078988582:=()
def tw4055363510342911259:=()
def tw18003948768838954308:=()
def tw3892832753061074112:=()
def tw8402671796191615185:=()
def tw18436542530569807014:=()
def tw8881825731622265533:=()
def tw12820918389094800847:=()
def tw15185252408446064431:=()
def tw3530734010457344683:=()
def tw7452197175788746449:=()
def tw10858730018485045372:=()
def tw12643278589794778236:=()
def tw150639239915645348:=()
def tw4914749277032190373:=()
def tw4516562912678527851:=()
def tw4700908596003110822:=()
def tw10612507117019106720:=()
def tw17301752661847403515:=()
def tw2772895489856875418:=()
def tw3512041785573611545:=()
def tw16189771972674139756:=()
def tw15722712252464120321:=()
def tw12001237061350241977:=()
def tw3182091143762770894:=()
def tw3088521671463916735:=()
def tw18200594418015154040:=()
def tw12882606915824569085:=()
def tw8178391533222520069:=()
def tw10069971302021051145:=()
def tw16530118856411293860:=()
def tw16479468098017744534:=()
def tw13173984047135303533:=()
def tw17271695486864221349:=()
def tw12548950320276338069:=()
def tw11548143740546135:=()
def tw7862134077521596297:=()
def tw2277963483753567508:=()
def tw12602501948948197220:=()
def tw18374377760305525311:=()
def tw12342971937699098377:=()
def tw6953362610934899571:=()
def tw9811825060287254626:=()
def tw1127722598742774491:=()
def tw8959535702101320174:=()
def tw2517580996873879646:=()
def tw15575892630542775572:=()
def tw5543331497283821274:=()
def tw12958433959024085509:=()
def tw3093990310099000645:=()
def tw10795551715309930479:=()
def tw3617385541374441660:=()
def tw10840363736115065194:=()
def tw12224458333165578454:=()
def tw2522760468238040145:=()
def tw1505183695215743382:=()
def tw656113692992863191:=()
def tw710063472783456367:=()
def tw6959132648349614071:=()
def tw10531969428862748938:=()
def tw14966877071778842868:=()
def tw1702377842235261191:=()
def tw4412627173956649728:=()
def tw12000465649645034388:=()
def tw12282650977496530214:=()
def tw11361741635195351996:=()
def tw4632841652211500158:=()
def tw15455175529151785054:=()
def tw6631234356649631084:=()
def tw1085766036254925767:=()
def tw9713465735531793365:=()
def tw5498038001879660940:=()
def tw12526383299350929326:=()
def tw18005842146410735467:=()
def tw12016589428556202495:=()
def tw5436609922402444565:=()
def tw16046281297217865499:=()
def tw4004991320327389219:=()
def tw12888682332906561756:=()
def tw3876394300485903424:=()
def tw14842143480090246605:=()
def tw16940264631021734316:=()
def tw10925120908141485908:=()
def tw16998179682113649414:=()
def tw9365287460801906058:=()
def tw11787245160675795793:=()
def tw14136996772049631522:=()
def tw9098783486415154274:=()
def tw2058518821259911851:=()
def tw1778580797092782891:=()
def tw13285196427517042173:=()
def tw10427041464654794505:=()
def tw4091876193615258290:=()
def tw3154303756688238235:=()
def tw1964427286055510220:=()
def tw8364100291436394109:=()
def tw7746559032338296700:=()
def tw13979092484820760366:=()
def tw7042593748777122793:=()
def tw4015277281219827785:=()
def tw4769828038301503039:=()
def tw13872916794569398829:=()
def tw4938342584126384480:=()
def tw6349285379284432369:=()
def tw2857015100652367600:=()
def tw1627249632570689820:=()
def tw4102943399796574911:=()
def tw6356709438987368880:=()
def tw17171746594889570393:=()
def tw15545225902424793227:=()
def tw8292498023232120747:=()
def tw10397649997874074098:=()
def tw14881138371634057749:=()
def tw10574453978894772995:=()
def tw13747701882017539155:=()
def tw15838139632697736942:=()
def tw6320631924786730547:=()
def tw2421556632806151116:=()
def tw17719833605393999009:=()
def tw5093355193599682687:=()
def tw1365437289223680640:=()
def tw14030848804657981333:=()
def tw5732538990500365557:=()
def tw11860639500234487153:=()
def tw2710933550366558778:=()
def tw14070300585130163978:=()
def tw12557052188185697013:=()
def tw10276595754305183188:=()
def tw16721438205210837922:=()
def tw13622585236956505460:=()
def tw16851398632084841929:=()
end PySem.W.Fast
open PySem PySem.W PyProof.Rows
local macro_rules | `(tactic| walk_at"kf") => `(tactic| exact ⟨by k_is, _, _, _, _, _, _, _, _, _, by k_is, by k_is, by k_is⟩)
local macro_rules | `(tactic| walk_at"km") => `(tactic| exact ⟨by k_is, by k_is, _, _, _, _, _, _, _, _, _, by k_is, by k_is, by k_is⟩)
local macro_rules | `(tactic| walk_at"kd") => `(tactic| exact ⟨by k_is, by k_is, _, _, _, _, _, _, _, _, _, by k_is, by k_is, _, _, _, by k_is⟩)
local macro_rules | `(tactic| walk_at"kc") => `(tactic| exact ⟨by k_is, ⟨by k_is, by k_is, by k_is, by k_is⟩, by k_is, by k_is, ⟨by k_is, by k_is, by k_is, by k_is⟩⟩)
local macro_rules | `(tactic| walk_at"kn") => `(tactic| (repeat (first | exact trivial | refine ⟨by k_is, ?_⟩)))
local macro_rules | `(tactic| walk_at"k2") => `(tactic| exact ⟨by k_is, by k_is⟩)
local macro_rules | `(tactic| walk_at"k1") => `(tactic| k_is)
set_option maxRecDepth 100000 in
set_option maxHeartbeats 0 in
theorem PySem.Challenge.cw_pieceways_k94_whole_space_is_kept_holds : PySem.Challenge.rw_pieceways_k94_whole_space_is_kept.Holds := by
 w_on;o_law;k_head;(case hw=>w_witness2)
 k_fill
 refine Mine.ZW (l:=PySem.Challenge.rw_pieceways_k94_whole_space_is_kept) rfl rfl (fun w h Y=>PySem.W.kIn_of Y) ?F
 case F=>
  intro w mg fa h KX G hmg;exact Mine.FW KX G hmg (by walk_at"kf") (by walk_at"kf") (by walk_at"kf") (by walk_at"kf") (by walk_at"kf") (by walk_at"kf") (by walk_at"kf") (by walk_at"kf") (by walk_at"kf") (by walk_at"kf") (by walk_at"kf") (by walk_at"kf") (by walk_at"kf") (by walk_at"kf") (by walk_at"kf") (by walk_at"kf") (by walk_at"kf") (by walk_at"kf") (by walk_at"kf") (by walk_at"kf") (by walk_at"kf") (by walk_at"kf") (by walk_at"kf") (by walk_at"kf") (by walk_at"kf") (by walk_at"kf") (by walk_at"kf") (by walk_at"kf") (by walk_at"kf") (by walk_at"kc") (by walk_at"kn") (by walk_at"km") (by walk_at"kd") (by walk_at"kc") (by walk_at"kn") (by walk_at"km") (by walk_at"km") (by walk_at"kd") (by walk_at"kc") (by walk_at"kn") (by walk_at"km") (by walk_at"kc") (by walk_at"kn") (by walk_at"km") (by walk_at"kc") (by walk_at"kn") (by walk_at"km") (by walk_at"km") (by walk_at"km") (by walk_at"km") (by walk_at"km") (by walk_at"km") (by walk_at"km") (by walk_at"km") (by walk_at"kc") (by walk_at"kn") (by walk_at"km") (by walk_at"km") (by walk_at"km") (by walk_at"km") (by walk_at"km") (by walk_at"km") (by walk_at"km") (by walk_at"km") (by walk_at"km") (by walk_at"km") (by walk_at"km") (by walk_at"km") (by walk_at"km") (by walk_at"k2") (by walk_at"k2") (by walk_at"k1") (by walk_at"k1") (by walk_at"k1") ⟨⟨_,by k_is⟩,⟨_,by k_is⟩,⟨_,by k_is⟩,⟨_,by k_is⟩,⟨_,by k_is⟩,trivial⟩ ⟨by k_is,_,_,_,_,_,_,by k_is⟩ ⟨by k_is,_,_,_,_,_,_,by k_is⟩ ⟨by k_is,_,_,_,_,_,by k_is⟩ (by walk_at"kn")
