import PyProof.Rows.All
import Wide.All
import OpenK.AllK
import Wide.FinOn
import Lean
import PyProof.EqAt
import PyProof.EqKinds
import PyProof.TupleCall
import OpenK.KOwn
import KE.KIsAll
import KE.KLam
import KE.KEqDict
import PySem.Challenge.RW_pieceways_k44_forty_keys
set_option Elab.async false
set_option linter.all false
set_option maxRecDepth 100000
set_option compiler.extract_closed false
noncomputable section
theorem hide_{G:Prop}(h:∀N:Prop,(G->N)->N):G:=h G id
local macro_rules|`(tactic|obtain $p:rcasesPatMed := $e:term)=>`(tactic|first|((refine hide_ fun N hN=>?_;rcases $e:term with $p)<;>(refine hN ?_;clear hN;clear N))|rcases $e:term with $p)
set_option bootstrap.genMatcherCode false
local macro_rules|`(command|def $n:declId $s:optDeclSig $v:declVal)=>`(command|noncomputable def $n:declId $s:optDeclSig $v:declVal)
def Y0:=@PySem.wpAny_bind
def Y1:=@List.length_map
def Y2:=@if_neg
def Y3:=@if_pos
def Y4:=@List.getElem?_eq_some_iff
def Y5:=@List.mem_map
def Y6:=@PySem.wpAny_pure
def Y7:=@List.getElem?_eq_getElem
def Y8:=@PySem.Heap.get?_push_of_some
def Y9:=@Nat.le_refl
def Ya:=@List.getElem?_map
def Yb:=@List.mem_singleton
def Yc:=@PyProof.Rows.wpS_bind
def Yd:=@decide_eq_true_eq
def Ye:=@PySem.Heap.get?_push_size
def Yf:=@PySem.Heap.lt_size
def Yg:=@Bool.false_ne_true
def Yh:=@List.map_append
def Yi:=@PyProof.Rows.wpS_pure
def Yj:=@List.size_toArray
def Yk:=@List.mem_of_getElem?
def Yl:=@Option.map_eq_some_iff
def Ym:=@List.mem_cons
def Yn:=@Nat.lt_of_le_of_lt
def Yo:=@Nat.ne_of_lt
def Yp:=@List.mem_cons_of_mem
def Yq:=@List.mem_append
def Yr:=@List.mem_filter
def Ys:=@List.pairwise_append
def Yt:=@decide_eq_true
def Yu:=@List.length_take
def Yv:=@List.take_of_length_le
def Yw:=@List.map_map
def Yx:=@Nat.zero_le
def Yy:=@Nat.lt_of_lt_of_le
def Yz:=@decide_eq_false
def YA:=@List.mem_append_right
def YB:=@List.length_filter_le
def YC:=@List.mem_iff_getElem?
def YD:=@Nat.le_trans
def YE:=@List.mem_cons_self
def YF:=@Bool.eq_iff_iff
def YG:=@PySem.sizeLine_eq
def YH:=@List.nodup_cons
def YI:=@PySem.wpAny_mono
def YJ:=@List.take_append_drop
def YK:=@List.getElem?_take
def YL:=@PySem.Heap.get?_update_other
def YM:=@List.filter_sublist
def YN:=@PySem.F.plainAttrs_dict
def YO:=@List.pairwise_iff_getElem
def YQ:=@List.take_add_one
def YR:=@congrArg
def YS:=@List.find?_cons
def YT:=@List.length_range
def YU:=@List.map_congr_left
def YV:=@List.mem_of_mem_take
def YW:=@PySem.F.plainAttrs_list
def YX:=@List.getElem?_drop
def YY:=@PySem.F.slot_list_append
def YZ:=@PySem.F.type_list_append
def X0:=@List.getElem?_append_right
def X1:=@List.length_drop
def X2:=@Bool.and_eq_true
def X3:=@PySem.wpAny_newObj_type
def X4:=@decide_false
def X5:=@PySem.F.slot_dict_keyiterator_next
def X6:=@Bool.eq_false_iff
def X7:=@PyProof.Rows.wpS_forRange
def X8:=@List.drop_eq_getElem_cons
def X9:=@decide_true
def Xa:=@PySem.wpAny_holding
def Xb:=@PySem.F.plain_min_loop
def Xc:=@List.filter_eq_self
def Xd:=@Int.le_refl
def Xe:=@decide_eq_false_iff_not
def Xf:=@List.mem_append_left
def Xg:=@PySem.F.slot_dict_valueiterator_next
def Xh:=@PySem.PassesOwn.never
def Xi:=@PySem.wpAny_call_entry
def Xj:=@List.filter_cons
def Xk:=@List.getElem_map
def Xl:=@PySem.Heap.SameBut.update
def Xm:=@PySem.wpAny_truthy_bool
def Xn:=@PySem.wpAny_dictEntries
def Xo:=@Nat.lt_irrefl
def Xp:=@PySem.Heap.get?_update_self
def Xq:=@PySem.wpAny_loadPart'
def Xr:=@List.pairwise_singleton
def Xs:=@List.Sublist.map
def Xt:=@List.getD_eq_getElem?_getD
def Xu:=@PySem.Heap.size_push
def Xv:=@Int.toNat_natCast
def Xw:=@Nat.lt_succ_of_lt
def Xx:=@Bool.not_eq_true'
def Xy:=@List.reverse_perm
def Xz:=@beq_eq_false_iff_ne
def XA:=@PySem.mem_of_lookup
def XB:=@List.all_eq_true
def XC:=@PyProof.Rows.wpS_mono
def XD:=@List.pairwise_cons
def XE:=@List.filter_append
def XF:=@Bool.false_and
def XG:=@List.mem_of_mem_drop
def XH:=@PySem.wpAny_callSpecial?_slot
def XI:=@PySem.wpAny_pyIter_list
def XJ:=@List.filter_congr
def XM:=@Nat.min_eq_left
def XN:=@Nat.le_of_lt
def XO:=@Nat.le_succ
def XQ:=@Nat.zero_add
def XR:=@Int.le_trans
def XS:=@List.nodup_iff_pairwise_ne
def XT:=@PySem.wpAny_Call_Name_kw
def XU:=@List.getElem?_eq_none
def XV:=@PySem.F.slot_dict_pop
def XW:=@List.pairwise_reverse
def XX:=@Option.toList_some
def XY:=@List.find?_eq_none
def XZ:=@Array.getElem?_eq_getElem
def U0:=@Classical.byContradiction
def U1:=@PySem.wpAny_letGo
def U2:=@List.getElem?_append
def U3:=@List.filter_map
def U4:=@PySem.Heap.get?_push_ne
def U5:=@Bool.true_and
def U6:=@PySem.wpAny_typeNameOfWhole_keyiter
def U7:=@PySem.wpAny_typeNameOfWhole_valiter
def U8:=@List.getElem?_range
def U9:=@Eq.symm
def Ua:=@PySem.wpAny_rule
def Ub:=@PySem.tupleKind_room_in1
def Uc:=@PySem.wpAny_passesOwn
def Ud:=@PySem.wpAny_notOrdered_dict
def Ue:=@PySem.wpAny_dictEpoch
def Uf:=@List.Perm.append_left
def Ug:=@PySem.F.type_dict_pop
def Uh:=@List.any_cons
def Ui:=@Prod.ext
def Uj:=@PySem.plainId_quiet
def Uk:=@PySem.wpAny_attempt
def Ul:=@List.take_sublist
def Um:=@List.nodup_append
def Uo:=@Function.comp_def
def Up:=@List.getElem?_append_left
def Uq:=@List.getElem?_eq_none_iff
def Ur:=@List.getElem?_zip_eq_some
def Us:=@PySem.W.kia_one
def Ut:=@List.lookup_cons
def Uu:=@PySem.F.slot_dict_values
def Uv:=@List.take_succ_eq_append_getElem
def Uw:=@Bool.not_eq_true
def Ux:=@PyProof.Rows.listUpdate_at
def Uy:=@Prod.mk.injEq
def Uz:=@PySem.wpAny_updateSeq
def UA:=@PySem.wpAny_setField_rec
def UB:=@PySem.wpAny_field
def UC:=@List.reverse_singleton
def UD:=@List.flatten_singleton
def UE:=@List.eq_nil_of_length_eq_zero
def UF:=@List.take_append_of_le_length
def UG:=@of_decide_eq_true
def UH:=@List.drop_sublist
def UI:=@List.flatten_cons
def UJ:=@List.mem_range'_1
def UK:=@PySem.codeAny_mono
def UL:=@List.length_singleton
def UM:=@PySem.wpAny_tryCatch
def UN:=@PySem.F.slot_enumerate_next
def UO:=@PySem.F.slot_dict_setdefault
def UP:=@Nat.sub_self
def UQ:=@List.perm_append_comm
def UR:=@Nat.add_zero
def US:=@PyProof.Rows.callWith_type1
def UT:=@PySem.wpAny_eqBool_int
def UU:=@List.mem_iff_getElem
def UV:=@PySem.Around.under_plainId
def UW:=@PySem.Obj.data_mapDictKeys
def UX:=@PyProof.Rows.wpS_modify
def UY:=@PySem.Heap.size_update
def UZ:=@Array.perm_iff_toList_perm
def V0:=@List.sum_cons
def V1:=@PySem.F.args_dict_valueiterator_next_1
def V2:=@List.flatten_append
def V3:=@List.forIn_cons
def V4:=@PySem.codeAny_builtin
def V5:=@Int.emod_nonneg
def V6:=@PySem.F.entry_dict_valueiterator_next
def V7:=@Option.isSome_iff_exists
def V8:=@PySem.F.args_dict_keyiterator_next_1
def V9:=@PySem.Obj.data_mapFields
def Va:=@List.zip_cons_cons
def Vb:=@List.length_range'
def Vc:=@Int.emod_lt_of_pos
def Vd:=@Int.lt_of_lt_of_le
def Ve:=@PySem.F.type_dict_values
def Vf:=@List.nodup_nil
def Vg:=@PySem.F.entry_dict_keyiterator_next
def Vh:=@PyProof.Rows.wpS_get
def Vi:=@List.filter_cons_of_neg
def Vj:=@List.filter_cons_of_pos
def Vk:=@Sum.inl.inj
def Vl:=@PySem.F.slot_dict_keys
def Vm:=@List.drop_eq_nil_of_le
def Vn:=@PySem.wpAny_newList
def Vo:=@Nat.lt_succ_self
def Vp:=@List.getElem_mem
def Vq:=@List.take_length
def Vr:=@PySem.F.entry_min_loop
def Vs:=@PySem.wpAny_isOneOf_valiter
def Vt:=@PySem.plainObj_wpAny_Assign_Attribute
def Vu:=@PySem.wpAny_execs_nil
def Vv:=@Nat.ne_of_gt
def Vw:=@beq_iff_eq
def Vx:=@Option.map_some
def Vy:=@PySem.codeAny_call_builtin
def Vz:=@Nat.sub_succ
def VA:=@List.range_eq_range'
def VB:=@Int.min_le_left
def VC:=@Int.le_max_left
def VD:=@Int.zero_add
def VE:=@List.filter_nil
def VF:=@Nat.le_add_left
def VG:=@PySem.F.slot_dict_values_iter
def VH:=@List.drop_append_of_le_length
def VI:=@List.filterMap_cons
def VJ:=@List.length_pos_iff
def VL:=@PySem.Heap.get?_update_ne
def VM:=@PySem.W.kat_cons
def VN:=@PySem.wpAny_seqItems
def VO:=@PySem.wpAny_fieldsOf
def VP:=@PySem.wpAny_setField
def VQ:=@PyProof.Rows.wpS_lift
def VR:=@PySem.F.type_dict_setdefault
def VS:=@PySem.wpAny_of_eq
def VT:=@PyProof.Rows.seqEpoch_at
def VU:=@of_decide_eq_false
def VV:=@List.drop_length_add_append
def VW:=@List.filter_filter
def VX:=@List.map_singleton
def VY:=@PySem.Calls.Name_function_global
def VZ:=@Int.fdiv_eq_ediv_of_nonneg
def W0:=@PySem.wpAny_standAt
def W4:=@Bool.or_false
def W8:=@List.map_drop
def W9:=@Array.toList_setIfInBounds
def Wa:=@Array.getElem?_eq_some_iff
def Wb:=@Option.isSome_map
def Wc:=@List.ext_getElem?
def We:=@PySem.wpAny_pyIter_slot
def Wf:=@bne_self_eq_false
def Wg:=@PySem.wpAny_call
def Wh:=@PySem.Calls.call_function_entry
def Wj:=@PySem.W.kat_yes
def Wk:=@PySem.wpAny_eqBool_str
def Wl:=@PySem.wpAny_isInstance
def Wm:=@Nat.le_add_right
def Wn:=@PySem.call_meetsIn
def Wo:=@Array.toList_inj
def Wp:=@List.ext_getElem
def Wq:=@List.mem_reverse
def Wr:=@List.any_eq_true
def Ws:=@List.Perm.eq_of_pairwise
def Wt:=@PySem.F.args_tuple_lt_2
def Wu:=@Nat.add_sub_cancel_left
def Wv:=@PySem.W.methodCall_KW
def Ww:=@List.of_mem_zip
def Wx:=@PySem.size_of_entries
def Wy:=@List.foldl_cons
def Wz:=@Bool.or_eq_true
def WA:=@List.getElem?_set_self
def WB:=@PySem.F.slot_dict_iter
def WC:=@Array.getElem?_eq_none
def WD:=@PySem.F.entry_tuple_lt
def WE:=@List.drop_of_length_le
def WF:=@PySem.F.type_dict_keys
def WG:=@List.mem_range
def WH:=@Bool.and_false
def WI:=@List.cons_lt_cons_iff
def WJ:=@PySem.wpAny_newTuple
def WK:=@PySem.isSubtype_stop
def WL:=@PySem.F.slot_tuple_lt
def WM:=@List.set_append_right
def WN:=@List.getElem?_toArray
def WO:=@List.getElem?_set_ne
def WP:=@PySem.Walks.list
def WQ:=@or_false
def WR:=@Nat.mod_lt
def WT:=@Sum.inl.injEq
def WU:=@Sum.inr.injEq
def WV:=@PyProof.Rows.lt_str
def WW:=@Nat.sub_lt_sub_left
def WX:=@List.toList_toArray
def WY:=@List.length_reverse
def WZ:=@List.map_eq_nil_iff
def J0:=@Nat.le_of_eq
def J1:=@List.any_map
def J2:=@List.any_nil
def J3:=@List.not_lt
section
open PySem
abbrev J5:=Str->Option Value
abbrev J6:=Value->Shared->Prop
abbrev J7:=Unit->Shared->Prop
abbrev J8:=List (Addr×Obj)
abbrev J9:=PySem.Program
abbrev Ja:=PySem.Shared
abbrev Jb:=PySem.FuncData
abbrev Jc:=PySem.Around
abbrev Jd:=PySem.World
abbrev Je:=PySem.W.Frag
abbrev Jf:=PySem.Value
abbrev Jg:=PySem.Addr
abbrev Jh:=List Int
abbrev Ji:=List Value
abbrev Jj:=PySem.Heap
abbrev Jk:=PySem.Expr
end
namespace L2
open PySem PySem.Spec PyProof.Rows
abbrev JL:=Sum Int Str
def Ac:JL->Value->Bool
 | .inl k,v=>Value.isInt k v
 | .inr x,v=>Value.isStrOf x v
def ZE(w:Jd):JL->Int
 | .inl k=>hashInt k
 | .inr x=>hashStr w x
theorem Eu:∀{k:JL} {v:Jf},Ac k v=true->(∃i t,k=Sum.inl i/\v=Value.int i t)\/(∃x t,k=Sum.inr x/\v=Value.str x t)
 | .inl i,v,h=>by
  obtain⟨t,e⟩:=Value.isInt_shape (k:=i) (v:=v) h;exact .inl ⟨i,t,rfl,e⟩
 | .inr x,v,h=>by
  obtain⟨t,e⟩:=Value.isStrOf_shape (x:=x) (v:=v) h;exact .inr ⟨x,t,rfl,e⟩
theorem rM(i:Int)(t:Tok):Ac (.inl i) (.int i t)=true:=by simp[Ac,Value.isInt]
theorem xD(x:Str)(t:Tok):Ac (.inr x) (.str x t)=true:=by simp[Ac,Value.isStrOf]
theorem tP(a b:Int):decide ((Sum.inl a:JL)=Sum.inl b)=(a==b):=by
 by_cases e:a=b
 .subst e;simp
 .have h:¬(Sum.inl a:JL)=Sum.inl b:=fun q=>e (Vk q)
  rw[Yz h];exact(Xz.mpr e).symm
theorem dB(a b:Str):decide ((Sum.inr a:JL)=Sum.inr b)=decide (a=b):=by
 by_cases e:a=b
 .subst e;simp
 .have h:¬(Sum.inr a:JL)=Sum.inr b:=fun q=>e (Sum.inr.inj q)
  rw[Yz h,Yz e]
theorem bN(a:Int)(b:Str):decide ((Sum.inl a:JL)=Sum.inr b)=false:=Yz (fun q=>nomatch q)
theorem mZ(a:Str)(b:Int):decide ((Sum.inr a:JL)=Sum.inl b)=false:=Yz (fun q=>nomatch q)
def JQ(prog:J9)(w:Jd):PySem.KeyKind prog w JL where
 is:=Ac
 hash:=ZE w
 inj:=fun v a b ha hb=>by
  rcases Eu ha with⟨i,t,rfl,rfl⟩|⟨x,t,rfl,rfl⟩
  .rcases Eu hb with⟨j,u,rfl,e⟩|⟨y,u,rfl,e⟩
   .injection e with e1 _;rw[e1]
   .exact nomatch e
  .rcases Eu hb with⟨j,u,rfl,e⟩|⟨y,u,rfl,e⟩
   .exact nomatch e
   .injection e with e1 _;rw[e1]
 byValue:=fun k v h=>by
  rcases Eu h with⟨i,t,rfl,rfl⟩|⟨x,t,rfl,rfl⟩ <;> rfl
 pyHash:=fun hv h=>by
  rcases Eu hv with⟨i,t,rfl,rfl⟩|⟨x,t,rfl,rfl⟩
  .exact wpAny_pyHash_int h
  .exact wpAny_pyHash_str h
 eqBool:=fun hu hv h=>by
  rcases Eu hu with⟨i,t,rfl,rfl⟩|⟨x,t,rfl,rfl⟩
  .rcases Eu hv with⟨j,u,rfl,rfl⟩|⟨y,u,rfl,rfl⟩
   .rw[tP]at h;exact UT h
   .rw[bN]at h;exact SeqAt.EqAt.int_str i t y u _ _ _ _ h
  .rcases Eu hv with⟨j,u,rfl,rfl⟩|⟨y,u,rfl,rfl⟩
   .rw[mZ]at h;exact SeqAt.EqAt.str_int x t j u _ _ _ _ h
   .rw[dB]at h;exact Wk h
 «strs»:=fun k x t v h=>by
  rcases Eu h with⟨i,u,rfl,e⟩|⟨y,u,rfl,e⟩
  .exact nomatch e
  .injection e with e1 _;subst e1;cases v <;> rfl
theorem ZL(prog:J9)(w:Jd)(i:Int)(t:Tok):(JQ prog w).is (.inl i) (.int i t)=true:=rM i t
theorem yX(prog:J9)(w:Jd)(x:Str)(t:Tok):(JQ prog w).is (.inr x) (.str x t)=true:=xD x t
inductive V where
 |non|bl (b:Bool)|int (i:Int)|str (x:Str)|byt (b:Array UInt8)|flt (b:UInt64)|ref (a:Jg)|ty (n:String)
 deriving DecidableEq
def Jz:V->Value->Prop
 | .non,u=>u=Value.none
 | .bl b,u=>u=Value.bool b
 | .int i,u=>∃t,u=Value.int i t
 | .str x,u=>∃t,u=Value.str x t
 | .byt b,u=>∃t,u=Value.bytes b t
 | .flt b,u=>∃t,u=Value.float b t
 | .ref a,u=>u=Value.ref a
 | .ty n,u=>u=Value.type n
abbrev JB:List V->List Value->Prop:=Paired Jz
theorem JB.length{xs:List V}{us:Ji}(r:JB xs us):xs.length=us.length:=Paired.length r
theorem JB.get:∀{xs:List V} {us:Ji} {i:Nat} {x:V},JB xs us->xs[i]?=some x->∃u,us[i]?=some u/\Jz x u
 |_,_,_,_,.nil,e=>by simp at e
 |_,_,0,_,.cons r _,e=>by simp at e;subst e;exact⟨_,rfl,r⟩
 |_,_,i+ 1,x,.cons _ t,e=>by
  obtain⟨u,h1,h2⟩:=JB.get (i:=i) (x:=x) t (by simpa using e);exact⟨u,by simpa using h1,h2⟩
theorem JB.append:∀{xs ys:List V} {us ws:Ji},JB xs us->JB ys ws->JB (xs++ys) (us++ws)
 |_,_,_,_,.nil,s=>s
 |_,_,_,_,.cons r t,s=>.cons r (JB.append t s)
theorem JB.take:∀{xs:List V} {us:Ji} (n:Nat),JB xs us->JB (xs.take n) (us.take n)
 |_,_,0,_=>.nil
 |_,_,_+ 1,.nil=>.nil
 |_,_,n+ 1,.cons r t=>.cons r (JB.take n t)
theorem JB.drop:∀{xs:List V} {us:Ji} (n:Nat),JB xs us->JB (xs.drop n) (us.drop n)
 |_,_,0,r=>r
 |_,_,_+ 1,.nil=>.nil
 |_,_,n+ 1,.cons _ t=>JB.drop n t
def TY:Option V->Option Value->Prop
 |some v,some u=>Jz v u
 |none,none=>True
 |_,_=>False
def KV{κ:Type}:List (κ×V)->List (κ×Value)->Prop:=Paired fun(p:κ×V) (q:κ×Value)=>p.1=q.1/\Jz p.2 q.2
def kV:JL->V
 | .inl i=>.int i
 | .inr x=>.str x
inductive HO where
 |lst (xs:List V)
 |tup (xs:List V)
 |dK (kvs:List (JL×V))|dT (kvs:List (List JL×V))
 |set (S:Int->Bool) (n:Nat)
 |ins (C dx:Jg) (fs:List (Str×V))
 |own (x:Jg)
 |xd (fs:List (Str×V))
 |met (f x:Jg)
 |rng (lo hi:Int)
 |frz (o:Obj) (u:HO)
 |tbl (ps:Array Value)
 |ext (φ:Heap->Prop)
abbrev Hp:=Addr->Option HO
def upd(H:Hp)(a:Jg)(o:HO):Hp:=fun b=>if b=a then some o else H b
theorem Nb{H:Hp}{a:Jg}{o:HO}:upd H a o a=some o:=by unfold upd;rw[Y3 rfl]
theorem JG{H:Hp}{a b:Jg}{o:HO}(h:b≠a):upd H a o b=H b:=by unfold upd;rw[Y2 h]
theorem Jm{H:Hp}{a b:Jg}{o u:HO}(h:H a=some o)(h':H b=some u)(d:o≠u):a≠b:=by
 intro e;subst e;rw[h]at h';exact d (Option.some.inj h')
theorem Te{H:Hp}{a b:Jg}{o:HO}(h:H a=some o)(h':H b=none):a≠b:=by
 intro e;subst e;rw[h]at h';cases h'
section
variable(P:J9)(w:Jd)
def JF(H:Hp)(h:Jj)(a:Jg):HO->Prop
 | .lst xs=>xs.length <=sizeLine/\∃ (its:Ji) (n:Nat),JB xs its/\h.get? a=some {cls:=.type "list",data:=.seq its.toArray n}
 | .tup xs=>xs.length <=sizeLine/\∃its:List Value,JB xs its/\IsTup h a its.toArray
 | .dK kvs=>kvs.length <=sizeLine/\(a==sysModules)=false/\∃vs,KV kvs vs/\h.DictOf (JQ P w) a vs
 | .dT kvs=>kvs.length <=sizeLine/\(a==sysModules)=false/\∃xs:List (List JL×Addr×Value),
   Paired (fun(p:List JL×V) (q:List JL×Addr×Value)=>p.1=q.1/\H q.2.1=some (.tup (p.1.map kV))/\Jz p.2 q.2.2) kvs xs/\
   ∃o es ep,h.get? a=some o/\o.ExactDict/\o.data= .dict es ep/\es.toList=xs.map (entryOfKey (tupleKind (JQ P w)))/\(xs.map (·.1)).Nodup
 | .set S n=>h.SetOf (intKind P w) a S n
 | .ins C dx fs=>H dx=some (.own a)/\fs.length <=1000/\dx≠a/\h.get? a=some (W.instObj C dx)/\
   ∃mA,h.Ns1 dx mA/\(∀f,TY (fs.lookup f) (mA f))/\PySem.Within mA (fs.map (·.1))
 | .own _=>∃o,h.get? a=some o
 | .xd fs=>∃mA,h.Ns1 a mA/\∀f,TY (fs.lookup f) (mA f)
 | .rng lo hi=>∃t u v,h.get? a=some {cls:=.type "range",data:=.fields #[.int lo t,.int hi u,.int 1 v]}
 | .frz o u=>h.get? a=some o/\JF H h a u
 | .tbl ps=>h.get? a=some {cls:=.none,data:=.fields ps}
 | .met f x=>h.get? a=some (W.methodObj (.ref f) (.ref x))
 | .ext φ=>φ h/\(∃o,h.get? a=some o)/\∀h1 h2:Heap,φ h1->(∀o,h1.get? a=some o->h2.get? a=some o)->φ h2
def Tq(H:Hp)(h:Jj):Prop:=∀a o,H a=some o->JF P w H h a o
end
section
variable{P:J9}{w:Jd}{H H':Hp}{h h':Jj}{a:Jg}{o:HO}
theorem JF.lt(x:JF P w H h a o):a < h.objs.size:=by
 cases o with
 |lst xs=>obtain⟨_,_,_,_,e⟩:=x;exact Yf e
 |tup xs=>obtain⟨_,_,_,p⟩:=x;exact p.lt
 |dK kvs=>obtain⟨_,_,_,_,o,_,_,e,_⟩:=x;exact Yf e
 |dT kvs=>obtain⟨_,_,_,_,o,_,_,e,_⟩:=x;exact Yf e
 |set S n=>obtain⟨o,_,_,_,e,_⟩:=x;exact Yf e
 |ins C dx fs=>obtain⟨_,_,_,e,_⟩:=x;exact Yf e
 |own y=>obtain⟨_,e⟩:=x;exact Yf e
 |xd fs=>obtain⟨_,⟨_,_,_,e,_⟩,_⟩:=x;exact Yf e
 |rng lo hi=>obtain⟨_,_,_,e⟩:=x;exact Yf e
 |frz ob u=>obtain⟨e,_⟩:=x;exact Yf e
 |tbl ps=>exact Yf (show h.get? a=some _ from x)
 |met f y=>exact Yf (show h.get? a=some _ from x)
 |ext φ=>obtain⟨_,⟨_,e⟩,_⟩:=x;exact Yf e
theorem Paired.mapP{α β:Type}{F G:α->β->Prop}:∀{l₁:List α} {l₂:List β},Paired F l₁ l₂->(∀a b,F a b->G a b)->Paired G l₁ l₂
 |_,_,.nil,_=>.nil
 |_,_,.cons r t,f=>.cons (f _ _ r) (Paired.mapP t f)
theorem JF.stay(x:JF P w H h a o)(k:∀b u,(b=a\/H b=some (.own a))->h.get? b=some u->h'.get? b=some u)
  (ho:∀b,H b=some (.own a)->H' b=some (.own a)) (ht:∀b xs,H b=some (.tup xs)->H' b=some (.tup xs)):JF P w H' h' a o:=by
 induction o with
 |lst xs=>obtain⟨z,g,n,r,e⟩:=x;exact⟨z,g,n,r,k _ _ (.inl rfl) e⟩
 |tup xs=>obtain⟨z,g,r,ob,e,c⟩:=x;exact⟨z,g,r,ob,k _ _ (.inl rfl) e,c⟩
 |dK kvs=>obtain⟨z,y,vs,r,ob,es,ep,e,c⟩:=x;exact⟨z,y,vs,r,ob,es,ep,k _ _ (.inl rfl) e,c⟩
 |dT kvs=>
  obtain⟨z,y,xs,r,ob,es,ep,e,c⟩:=x;exact⟨z,y,xs,Paired.mapP r fun p q z=>⟨z.1,ht _ _ z.2.1,z.2.2⟩,ob,es,ep,k _ _ (.inl rfl) e,c⟩
 |set S n=>obtain⟨ob,es,ep,t,e,c⟩:=x;exact⟨ob,es,ep,t,k _ _ (.inl rfl) e,c⟩
 |ins C dx fs=>
  obtain⟨d,z,ne,e,mA,⟨i,es,ep,j,c⟩,r⟩:=x;exact⟨ho _ d,z,ne,k _ _ (.inl rfl) e,mA,⟨i,es,ep,k _ _ (.inr d) j,c⟩,r⟩
 |own y=>obtain⟨ob,e⟩:=x;exact⟨ob,k _ _ (.inl rfl) e⟩
 |xd fs=>obtain⟨mA,⟨i,es,ep,e,c⟩,r⟩:=x;exact⟨mA,⟨i,es,ep,k _ _ (.inl rfl) e,c⟩,r⟩
 |rng lo hi=>obtain⟨t,u,v,e⟩:=x;exact⟨t,u,v,k _ _ (.inl rfl) e⟩
 |frz ob u ih=>obtain⟨e,q⟩:=x;exact⟨k _ _ (.inl rfl) e,ih q⟩
 |tbl ps=>
  have e:h.get? a=some {cls:=.none,data:=.fields ps}:=x;show h'.get? a=some {cls:=.none,data:=.fields ps};exact k a _ (.inl rfl) e
 |met f y=>
  have e:h.get? a=some (W.methodObj (.ref f) (.ref y)):=x;show h'.get? a=some (W.methodObj (.ref f) (.ref y));exact k a _ (.inl rfl) e
 |ext φ=>obtain⟨p,⟨o,e⟩,st⟩:=x;exact⟨st _ _ p fun o q=>k _ _ (.inl rfl) q,⟨o,k _ _ (.inl rfl) e⟩,st⟩
theorem Tq.lt(x:Tq P w H h)(e:H a=some o):a < h.objs.size:=(x a o e).lt
theorem Tq.fresh(x:Tq P w H h)(e:h.objs.size <=a):H a=none:=by
 cases q:H a with
 |none=>rfl
 |some u=>exact absurd (Yy (x.lt q) e) (Xo _)
theorem Tq.kept(x:Tq P w H h)(k:∀b u,h.get? b=some u->h'.get? b=some u):Tq P w H h':=fun a o e=>
 (x a o e).stay (fun b u _ q=>k b u q) (fun _ q=>q) fun _ _ q=>q
theorem Tq.laid(x:Tq P w H h)(k:∀b u,h.get? b=some u->h'.get? b=some u)(hp:h.objs.size <=a)(new:JF P w (upd H a o) h' a o):Tq P w (upd H a o) h':=fun b u e=>by
 have f:=x.fresh hp
 by_cases hb:b=a
 .subst hb;rw[Nb]at e;cases e;exact new
 .rw[JG hb]at e;exact(x b u e).stay (fun c v _ q=>k c v q) (fun c q=>by rw[JG (Te q f)];exact q) fun c xs q=>by rw[JG (Te q f)];exact q
end
def Rd(H:Hp)(a:Jg)(u:HO):Prop:=H a=some u\/∃o,H a=some (.frz o u)
theorem Rd.ok{P:J9}{w:Jd}{H:Hp}{h:Jj}{a:Jg}{u:HO}(r:Rd H a u)(x:Tq P w H h):JF P w H h a u:=by
 rcases r with r|⟨o,r⟩
 .exact x a u r
 .obtain⟨_,q⟩:=x a _ r;exact q
def AM:Option HO->Prop
 |some (.lst _)=>True
 |some (.dK _)=>True
 |some (.dT _)=>True
 |some (.set _ _)=>True
 |some (.ins _ _ _)=>True
 |some (.ext _)=>True
 |_=>False
section
variable{P:J9}{w:Jd}{H:Hp}{h h':Jj}{x e:Jg}{o':HO}
theorem Tq.write(ok:Tq P w H h)(mu:AM (H x))(he:e=x\/H e=some (.own x))(k:∀b u,b≠e->h.get? b=some u->h'.get? b=some u)(heo:∃u,h'.get? e=some u)
  (new:JF P w (upd H x o') h' x o'):Tq P w (upd H x o') h':=fun b u q=>by
 have a:∀c y,H c=some (.own y)->c≠x:=fun c y r z=>by subst z;rw[r]at mu;exact mu
 have g:∀c xs,H c=some (.tup xs)->c≠x:=fun c xs r z=>by subst z;rw[r]at mu;exact mu
 by_cases hb:b=x
 .subst hb;rw[Nb]at q;cases q;exact new
 .rw[JG hb]at q
  by_cases hbe:b=e
  .have i:H b=some (.own x):=by
    rcases he with z|z
    .exact absurd (hbe.trans z) hb
    .rw[hbe];exact z
   rw[q]at i;cases i;obtain⟨v,j⟩:=heo;exact⟨v,by rw[hbe];exact j⟩
  .refine(ok b u q).stay (fun c v f r=>k c v ?_ r) (fun c r=>by rw[JG (a c b r)];exact r) fun c xs r=>by rw[JG (g c xs r)];exact r
   rcases f with rfl|f
   .exact hbe
   .rintro rfl;rcases he with z|z
    .exact a c b f z
    .rw[f]at z;cases z;exact hb rfl
end
structure Un(fs ex:List Addr)(H H':Hp)(h h':Jj):Prop where
 keep:∀b o,h.get? b=some o->H b=none->b∉fs->b∉ex->h'.get? b=some o
 slot:∀b o,h.get? b=some o->H b=none->b∈fs->b∉ex->∃sl,h'.get? b=some {o with slots:=sl}
 free:∀b o,h.get? b=some o->H b=none->b∉ex->H' b=none
 there:∀b o,h.get? b=some o->b∉ex->∃o',h'.get? b=some o'
 tups:∀b xs,H b=some (.tup xs)->H' b=some (.tup xs)
 frzs:∀b o u,H b=some (.frz o u)->H' b=some (.frz o u)
 tbls:∀b ps,H b=some (.tbl ps)->∃more,H' b=some (.tbl (ps++more))
section
variable{fs fs' ex ex':List Addr}{H H1 H2:Hp}{h h1 h2 h':Jj}{a x e:Jg}{o:HO}
theorem Un.any(u:Un fs ex H H1 h h1){b:Jg}{ob:Obj}(q:h.get? b=some ob)(n:H b=none)(hx:b∉ex):∃sl,h1.get? b=some {ob with slots:=sl}:=by
 by_cases hb:b∈fs
 .exact u.slot b ob q n hb hx
 .exact⟨ob.slots,u.keep b ob q n hb hx⟩
theorem Un.kept(k:∀b u,h.get? b=some u->h'.get? b=some u):Un fs ex H H h h':=
 ⟨fun b a q _ _ _=>k b a q,fun b a q _ _ _=>⟨a.slots,k b a q⟩,fun _ _ _ n _=>n,fun b a q _=>⟨a,k b a q⟩,fun _ _ q=>q,fun _ _ _ q=>q,fun _ ps q=>⟨#[],by rw[q];simp⟩⟩
theorem Un.refl:Un fs ex H H h h:=Un.kept fun _ _ q=>q
theorem Un.laid(k:∀b u,h.get? b=some u->h'.get? b=some u)(hp:h.objs.size <=a)(hn:H a=none):Un fs ex H (upd H a o) h h' where
 keep:=fun b u q _ _ _=>k b u q
 slot:=fun b u q _ _ _=>⟨u.slots,k b u q⟩
 free:=fun b u q n _=>by rw[JG (Yo (Yy (Yf q) hp))];exact n
 there:=fun b u q _=>⟨u,k b u q⟩
 tups:=fun b xs q=>by rw[JG (Te q hn)];exact q
 frzs:=fun b u xs q=>by rw[JG (Te q hn)];exact q
 tbls:=fun b ps q=>⟨#[],by rw[JG (Te q hn),q];simp⟩
theorem Un.write(mu:AM (H x))(he:e=x\/H e=some (.own x))(k:∀b u,b≠e->h.get? b=some u->h'.get? b=some u)(heo:∃u,h'.get? e=some u):Un fs ex H (upd H x o) h h':=by
 have c:∀b,H b=none->b≠x:=fun b n z=>by subst z;rw[n]at mu;exact mu
 have f:∀b,H b=none->b≠e:=fun b n z=>by
  subst z;rcases he with r|r
  .exact c b n r
  .rw[n]at r;cases r
 have a:∀b u,H b=some u->¬AM (some u)->b≠x:=fun b u q nm z=>by subst z;rw[q]at mu;exact nm mu
 refine ⟨fun b u q n _ _ => k b u (f b n) q, fun b u q n _ _ => ⟨u.slots, k b u (f b n) q⟩, fun b u q n _ => by rw [JG (c b n)]; exact n, fun b u q _ => ?_,
  fun b xs q => by rw [JG (a b _ q fun z => z)]; exact q, fun b u xs q => by rw [JG (a b _ q fun z => z)]; exact q, fun b ps q => ⟨#[], by rw [JG (a b _ q fun z => z), q]; simp⟩⟩
 by_cases hbe:b=e
 .subst hbe;exact heo
 .exact⟨u,k b u hbe q⟩
end
def FR(h:Jj)(H:Hp):List Addr:=(List.range h.objs.size).filter fun a=>(H a).isSome
def E2(h:Jj)(H:Hp):Heap:=W.hideAll h (FR h H)
theorem cO(h:Jj)(H:Hp):(E2 h H).objs.size=h.objs.size:=W.hideAll_size _ _
theorem aA{h:Jj}{H:Hp}{b:Jg}{o:Obj}(e:h.get? b=some o)(n:H b=none):(E2 h H).get? b=some o:=
 W.hideAll_get _ e fun a=>by
  have q:(H b).isSome=true:=(Yr.mp a).2;rw[n]at q;simp at q
theorem jV{h:Jj}{H:Hp}{b:Jg}{o:Obj}(e:(E2 h H).get? b=some o):h.get? b=some o/\H b=none:=by
 have a:h.get? b=some o:=W.of_hideAll (FR h H) e;refine⟨a,?_⟩;cases q:H b with
 |none=>rfl
 |some x=>
  have c:b∈FR h H:=Yr.mpr ⟨WG.mpr (Yf a),by simp[q]⟩;have z:(E2 h H).get? b=none:=W.hideAll_none (FR h H) c;rw[z]at e;cases e
def xB(g h:Jj)(L:Jg):List (Addr×Obj):=(List.range h.objs.size).filterMap fun a=>if a=L\/(g.get? a).isSome=true then none else(h.get? a).map fun o=>(a,o)
def rest(g h:Jj)(L d:Jg):List (Addr×Obj):=(xB g h L).filter fun p=>decide (p.1≠d)
structure Mod(K:Je)(mg:J5)(base:Jj):Prop where
 kin:K.In base
 glob:base.Ns mainGlobals mg
 blt:∃mb,base.Ns builtinsNs mb/\∀x:Str,x≠"__name__"->mb x=bootBuiltins x
 nolimit:base.NoLimit
structure Cx where
 prog:Program
 w:World
 K:W.Frag
 mg:Str->Option Value
 base:Heap
 A:Around
 N:List Str
 s₀:Shared
 H₀:Hp
 env:Env
 outer:List Env
 stack:List Env
 ex:List Addr
 fn:Str->Bool
 calm:Bool
 pn:List (Addr×Obj)
 xe:Value->Shared->Prop
def De(l:List Env):List Addr:=l.filterMap (·.frame)
abbrev Cx.fs(X:Cx):List Addr:=De X.outer
def AZ(sc:Scope)(x:Str):Prop:=sc.names.lookup x=some .local\/sc.names.lookup x=some .cell\/sc.names.lookup x=some .free
def Bl(sc:Scope)(x:Str):Prop:=sc.names.lookup x=some .local\/sc.names.lookup x=some .cell
def O2(env:Env)(h:Jj)(m:J5)(x:Str)(u:Jf):Prop:=
 (env.kindOf x=some .local/\m x=some u)\/((env.kindOf x=some .cell\/env.kindOf x=some .free)/\∃c,env.cells.lookup x=some c/\h.IsCell c (some u))
structure Cx.Ok(X:Cx):Prop where
 mod:Mod X.K X.mg X.base
 kind:X.env.scope.kind= .function
 glob:X.env.globals=mainGlobals
 blt:X.env.builtins=builtinsNs
 above:X.s₀.heap.objs.size <=X.env.locals
 inj:∀x y c,X.env.cells.lookup x=some c->X.env.cells.lookup y=some c->x=y
 has:∀x,(X.env.kindOf x=some .cell\/X.env.kindOf x=some .free)->∃c,X.env.cells.lookup x=some c
 cab:∀x c,X.fn x=true->X.env.cells.lookup x=some c->X.s₀.heap.objs.size <=c
 hd:X.calm=true->X.A.handled=none
 frames:X.A.frames=some X.stack
 stk:X.stack=X.outer\/(X.stack=X.env::X.outer/\X.env.frame=some X.env.locals)
 exf:∀b∈X.ex,b≠X.env.locals/\∀x c,X.env.cells.lookup x=some c->c≠b
 bs:∀b o,X.base.get? b=some o->X.s₀.heap.get? b=some o/\X.H₀ b=none
 bsz:X.base.objs.size <=X.s₀.heap.objs.size
 noex:∀b o,X.base.get? b=some o->b∉X.ex
 exfs:∀b∈X.ex,b∉X.fs
 funs:X.s₀.heap.FunFrames X.base X.outer
 frf:∀b∈X.fs,X.H₀ b=none
structure Jq(X:Cx)(pins:J8)(σ:List (Option V))(H:Hp)(s:Ja):Prop where
 ok:X.Ok
 os:s.os=X.s₀.os
 bare:AllBare s.gens
 base:Un X.fs X.ex X.H₀ H X.s₀.heap s.heap
 loc:∃m,s.heap.Ns X.env.locals m/\∀ (i:Nat) (x:Str) (v:V),X.N[i]?=some x->σ[i]?=some (some v)->AZ X.env.scope x->∃u,Jz v u/\O2 X.env s.heap m x u
 cell:∀x c,X.env.cells.lookup x=some c->∃v,s.heap.IsCell c v
 free:H X.env.locals=none
 freeC:∀x c,X.env.cells.lookup x=some c->H c=none
 pin:∀p∈X.pn++pins,s.heap.get? p.1=some p.2/\H p.1=none/\p.1≠X.env.locals/\p.1∉X.fs/\∀v,p.2.data≠ .cell v
 hok:Tq X.prog X.w H s.heap
 len:σ.length=X.N.length
section
variable{X:Cx}{pins:J8}{σ:List (Option V)}{H H':Hp}{s:Ja}{h':Jj}
theorem Cx.Ok.nofr(ok:X.Ok){b:Jg}{o:Obj}(e:X.base.get? b=some o):b∉X.fs:=fun a=>by
 have:=(ok.funs.mem a).1;rw[e]at this;cases this
theorem Jq.bs(I:Jq X pins σ H s):∀b o,X.base.get? b=some o->s.heap.get? b=some o/\H b=none:=fun b o e=>
 ⟨I.base.keep b o (I.ok.bs b o e).1 (I.ok.bs b o e).2 (I.ok.nofr e) (I.ok.noex b o e),I.base.free b o (I.ok.bs b o e).1 (I.ok.bs b o e).2 (I.ok.noex b o e)⟩
theorem Jq.bk(I:Jq X pins σ H s):∀b o,X.base.get? b=some o->s.heap.get? b=some o:=fun b o e=>(I.bs b o e).1
theorem Jq.mod(I:Jq X pins σ H s):Mod X.K X.mg X.base:=I.ok.mod
theorem Jq.kIn(I:Jq X pins σ H s):X.K.In s.heap:=I.ok.mod.kin.keeps I.bk
theorem Jq.lt(I:Jq X pins σ H s):X.env.locals < s.heap.objs.size:=let ⟨_,hn,_⟩:=I.loc;hn.lt
theorem Jq.sz(I:Jq X pins σ H s):X.s₀.heap.objs.size <=s.heap.objs.size:=YD I.ok.above (XN I.lt)
theorem Jq.nofs(I:Jq X pins σ H s){a:Jg}(h:s.heap.objs.size <=a):a∉X.fs:=fun c=>by
 obtain⟨_,o,b,_⟩:=I.ok.funs.mem c;exact absurd (Yy (Yf b) (YD I.sz h)) (Xo _)
theorem Jq.cne(I:Jq X pins σ H s):∀x c,X.env.cells.lookup x=some c->c≠X.env.locals:=fun x c e z=>by
 obtain⟨v,o,b,g⟩:=I.cell x c e;obtain⟨m,⟨o',es,ep,a,f,_⟩,_⟩:=I.loc;rw[z,a]at b;cases b;rw[f]at g;cases g
theorem Jq.funs(I:Jq X pins σ H s):s.heap.FunFrames X.base X.outer:=by
 have all:∀ (l:List Env),(∀b∈De l,b∈X.fs)->X.s₀.heap.FunFrames X.base l->s.heap.FunFrames X.base l:=by
  intro l
  induction l with
  |nil=>intro _ _;trivial
  |cons env r ih=>
   intro hs j;obtain⟨n,⟨L,o,a,i,h,p⟩,g⟩:=j;have f:L∈X.fs:=hs L (by unfold De;rw[VI,a];exact YE);obtain⟨q,e⟩:=I.base.slot L o h (I.ok.frf L f) f fun z=>I.ok.exfs L z f
   exact⟨n,⟨L,_,a,i,e,p⟩,ih (fun b c=>hs b (by unfold De;rw[VI,a];exact Yp _ c)) g⟩
 exact all X.outer (fun _ c=>c) I.ok.funs
theorem Jq.stack(I:Jq X pins σ H s):s.heap.FunFrames X.base X.stack:=by
 rcases I.ok.stk with e|⟨e,hf⟩
 .rw[e];exact I.funs
 .rw[e];obtain⟨m,a,_⟩:=I.loc;refine .cons (by rw[I.ok.kind];decide) hf a ?_ I.funs;exact Heap.get?_none_of_le (YD I.ok.bsz I.ok.above)
theorem Jq.stkSub(I:Jq X pins σ H s):∀b∈De X.stack,b∈X.env.locals::X.fs:=fun b a=>by
 rcases I.ok.stk with e|⟨e,hf⟩
 .rw[e]at a;exact Yp _ a
 .rw[e]at a;unfold De at a;rw[VI,hf]at a;exact a
theorem Jq.stkFree(I:Jq X pins σ H s):∀b∈De X.stack,H b=none:=fun b a=>by
 rcases Ym.mp (I.stkSub b a) with e|a
 .rw[e];exact I.free
 .obtain⟨_,o,c,_⟩:=I.ok.funs.mem a;exact I.base.free b o c (I.ok.frf b a) fun z=>I.ok.exfs b z a
theorem Jq.step{g':Array GenState}{t':Nat}{d':Drawn}{ch:List Addr}(I:Jq X pins σ H s)
  (hch:∀b∈ch,(b∈X.ex\/X.s₀.heap.objs.size <=b)/\b≠X.env.locals/\(∀x c,X.env.cells.lookup x=some c->c≠b)/\∀p∈X.pn++pins,p.1≠b)
  (keep:∀b o,b≠X.env.locals->b∉X.fs->b∉ch->s.heap.get? b=some o->H b=none->h'.get? b=some o)
  (slot:∀b o,b≠X.env.locals->b∈X.fs->b∉ch->s.heap.get? b=some o->H b=none->∃sl,h'.get? b=some {o with slots:=sl}) (free:∀b o,b∉ch->s.heap.get? b=some o->H b=none->H' b=none)
  (there:∀b o,b∉ch->s.heap.get? b=some o->∃o',h'.get? b=some o')
  (tups:∀b xs,H b=some (.tup xs)->H' b=some (.tup xs)) (frzs:∀b o u,H b=some (.frz o u)->H' b=some (.frz o u)) (tbls:∀b ps,H b=some (.tbl ps)->∃more,H' b=some (.tbl (ps++more)))
  (ns:∀m,s.heap.Ns X.env.locals m->h'.Ns X.env.locals m) (hok:Tq X.prog X.w H' h') (hg:AllBare g'):
  Jq X pins σ H' {s with heap:=h',gens:=g',drawn:=d',toks:=t'}:=by
 have neL:∀b o,X.s₀.heap.get? b=some o->b≠X.env.locals:=fun b o e=>Yo (Yy (Yf e) I.ok.above)
 have j:∀b o,X.s₀.heap.get? b=some o->b∉X.ex->b∉ch:=fun b o e a h=>by
  rcases(hch b h).1 with z|z
  .exact a z
  .exact absurd (Yy (Yf e) z) (Xo _)
 have aa:∀x c,X.env.cells.lookup x=some c->∀v,s.heap.IsCell c v->h'.IsCell c v:=fun x c e v ⟨o,ho,hd⟩=>by
  have g:c∉ch:=fun z=>(hch c z).2.2.1 x c e rfl
  by_cases hc:c∈X.fs
  .obtain⟨sl,q⟩:=slot c o (I.cne x c e) hc g ho (I.freeC x c e);exact⟨_,q,hd⟩
  .exact⟨o,keep c o (I.cne x c e) hc g ho (I.freeC x c e),hd⟩
 refine⟨I.ok,I.os,hg,⟨fun b o e n h a=>?_,fun b o e n h a=>?_,fun b o e n a=>?_,fun b o e a=>?_,fun b xs e=>tups b xs (I.base.tups b xs e),fun b o xs e=>frzs b o xs (I.base.frzs b o xs e),fun b ps e=>?_⟩,?_,fun x c e=>?_,?_,fun x c e=>?_,fun p hp=>?_,hok,I.len⟩
 .exact keep b o (neL b o e) h (j b o e a) (I.base.keep b o e n h a) (I.base.free b o e n a)
 .obtain⟨sl,f⟩:=I.base.slot b o e n h a;obtain⟨sl',e2⟩:=slot b _ (neL b o e) h (j b o e a) f (I.base.free b o e n a);exact⟨sl',e2⟩
 .obtain⟨o',f⟩:=I.base.there b o e a;exact free b o' (j b o e a) f (I.base.free b o e n a)
 .obtain⟨o',f⟩:=I.base.there b o e a;exact there b o' (j b o e a) f
 .obtain⟨m1,f⟩:=I.base.tbls b ps e;obtain⟨m2,e2⟩:=tbls b _ f;exact⟨m1++m2,by rw[e2,Array.append_assoc]⟩
 .obtain⟨m,hn,hl⟩:=I.loc;refine⟨m,ns m hn,fun i x v f e2 e3=>?_⟩;obtain⟨u,r,l⟩:=hl i x v f e2 e3;refine⟨u,r,?_⟩;rcases l with l|⟨k,c,e,z⟩
  .exact .inl l
  .exact .inr ⟨k,c,e,aa x c e _ z⟩
 .obtain⟨v,z⟩:=I.cell x c e;exact⟨v,aa x c e v z⟩
 .obtain⟨m,⟨o,_,_,ho,_⟩,_⟩:=I.loc;exact free _ o (fun z=>(hch _ z).2.1 rfl) ho I.free
 .obtain⟨v,o,ho,hd⟩:=I.cell x c e;exact free c o (fun z=>(hch c z).2.2.1 x c e rfl) ho (I.freeC x c e)
 .obtain⟨e,n,ne,nf,d⟩:=I.pin p hp;have g:p.1∉ch:=fun z=>(hch p.1 z).2.2.2 p hp rfl
  exact⟨keep p.1 p.2 ne nf g e n,free p.1 p.2 g e n,ne,nf,d⟩
theorem Jq.un{t':Nat}(I:Jq X pins σ H s)(u:Un X.fs [] H H' s.heap h')(hok:Tq X.prog X.w H' h'):Jq X pins σ H' {s with heap:=h',toks:=t'}:=by
 obtain ⟨m, ⟨o, es, ep, f, r⟩, _⟩ := id I.loc;obtain ⟨q, p⟩ := u.any f I.free (by simp);exact I.step (g' := s.gens) (d' := s.drawn) (ch := []) (fun _ z => nomatch z) (fun b o _ c _ e n => u.keep b o e n c (by simp)) (fun b o _ c _ e n => u.slot b o e n c (by simp)) (fun b o _ e n => u.free b o e n (by simp)) (fun b o _ e => u.there b o e (by simp)) u.tups u.frzs u.tbls (fun v j => by
  obtain ⟨o', g, h, a, i⟩ := j;rw [f] at a; cases a;exact ⟨_, g, h, p, i⟩) hok I.bare
theorem Jq.call{g':Array GenState}{t':Nat}{d':Drawn}{ch:List Addr}(I:Jq X pins σ H s)(u:Un (De X.stack) ch H H' s.heap h')(hok:Tq X.prog X.w H' h')(hg:AllBare g')
  (hch:∀b∈ch,(b∈X.ex\/X.s₀.heap.objs.size <=b)/\b≠X.env.locals/\(∀x c,X.env.cells.lookup x=some c->c≠b)/\∀p∈X.pn++pins,p.1≠b):
  Jq X pins σ H' {s with heap:=h',gens:=g',drawn:=d',toks:=t'}:=by
 obtain⟨m,⟨o,es,ep,h,r⟩,_⟩:=id I.loc;obtain⟨sl,g⟩:=u.any h I.free fun z=>(hch _ z).2.1 rfl
 exact I.step (ch := ch) hch (fun b o g hb a e n => u.keep b o e n (fun z => (Ym.mp (I.stkSub b z)).elim g hb) a) (fun b o _ _ a e n => u.any e n a) (fun b o a e n => u.free b o e n a) (fun b o a e => u.there b o e a) u.tups u.frzs u.tbls (fun m' v => by
  obtain ⟨o', i, j, f, q⟩ := v;rw [h] at f; cases f;exact ⟨_, i, j, g, q⟩) hok hg
theorem Jq.turned{t':Nat}{it:Jg}(I:Jq X pins σ H s)(k:∀b o,b≠it->s.heap.get? b=some o->h'.get? b=some o)(hn:H it=none)(hL:it≠X.env.locals)
  (h1:it∈X.ex\/X.s₀.heap.objs.size <=it) (h2:∀x c,X.env.cells.lookup x=some c->c≠it) (h3:∀p∈X.pn++pins,p.1≠it):Jq X pins σ H {s with heap:=h',toks:=t'}:=by
 have f:∀b u,H b=some u->b≠it:=fun b u e z=>by rw[z,hn]at e;cases e
 refine I.step (g':=s.gens) (d':=s.drawn) (ch:=[it]) (fun b i=>?_) (fun b o _ _ a e _=>k b o (fun z=>a (by simp[z])) e) (fun b o _ _ a e _=>⟨o.slots,k b o (fun z=>a (by simp[z])) e⟩) (fun _ _ _ _ n=>n)
  (fun b o a e=>⟨o,k b o (fun z=>a (by simp[z])) e⟩) (fun _ _ e=>e) (fun _ _ _ e=>e) (fun b ps e=>⟨#[],by rw[e];simp⟩) (fun m h=>?_) (fun b u e=>?_) I.bare
 .have e:b=it:=by simpa using i
  subst e;exact⟨h1,hL,h2,h3⟩
 .obtain⟨o,es,ep,g,r⟩:=h;exact⟨o,es,ep,k _ o (Ne.symm hL) g,r⟩
 .refine(I.hok b u e).stay (fun c v a q=>k c v ?_ q) (fun _ q=>q) fun _ _ q=>q
  rcases a with z|z
  .rw[z];exact f b u e
  .exact f c _ z
theorem Jq.tok(I:Jq X pins σ H s)(t:Nat):Jq X pins σ H {s with toks:=t}:=I.un (h':=s.heap) (t':=t) Un.refl I.hok
theorem Jq.kept{t':Nat}(I:Jq X pins σ H s)(k:∀b u,s.heap.get? b=some u->h'.get? b=some u):Jq X pins σ H {s with heap:=h',toks:=t'}:=I.un (Un.kept k) (I.hok.kept k)
theorem Jq.laid{a:Jg}{o:HO}{t':Nat}(I:Jq X pins σ H s)(k:∀b u,s.heap.get? b=some u->h'.get? b=some u)(hp:s.heap.objs.size <=a)(new:JF X.prog X.w (upd H a o) h' a o):
  Jq X pins σ (upd H a o) {s with heap:=h',toks:=t'}:=I.un (Un.laid k hp (I.hok.fresh hp)) (I.hok.laid k hp new)
theorem Jq.write{x e:Jg}{o:HO}{t':Nat}(I:Jq X pins σ H s)(mu:AM (H x))(he:e=x\/H e=some (.own x))(k:∀b u,b≠e->s.heap.get? b=some u->h'.get? b=some u)(heo:∃u,h'.get? e=some u)
  (new:JF X.prog X.w (upd H x o) h' x o):Jq X pins σ (upd H x o) {s with heap:=h',toks:=t'}:=I.un (Un.write mu he k heo) (I.hok.write mu he k heo new)
theorem Jq.pins_of{pins':J8}(I:Jq X pins σ H s)(h:∀p∈pins',s.heap.get? p.1=some p.2/\H p.1=none/\p.1≠X.env.locals/\p.1∉X.fs/\∀v,p.2.data≠ .cell v):Jq X pins' σ H s:=
 ⟨I.ok,I.os,I.bare,I.base,I.loc,I.cell,I.free,I.freeC,fun p a=>(Yq.mp a).elim (fun z=>I.pin p (Xf _ z)) (h p),I.hok,I.len⟩
theorem Zw{N:List Str}(hN:N.Nodup){i j:Nat}{x:Str}(a:N[i]?=some x)(b:N[j]?=some x):i=j:=by
 obtain⟨h1,e⟩:=Y4.mp a;obtain⟨h2,c⟩:=Y4.mp b;exact(List.getElem_inj hN).mp (e.trans c.symm)
theorem yC{M:Model}{A:Jc}{E:J6}{i:Nat}{x:Str}{v:V}{u:Jf}{Q:J7}(I:Jq X pins σ H s)(hN:X.N.Nodup)(hi:X.N[i]?=some x)(hx:Bl X.env.scope x)(r:Jz v u)
  (h:∀s',Jq X pins (σ.set i (some v)) H s'->(∃a,Heap.SameBut a s.heap s'.heap/\(a=X.env.locals\/X.env.cells.lookup x=some a))->Q () s') (hf:X.fn x=true\/X.env.scope.names.lookup x=some .local:=by first|exact .inl rfl|exact .inr rfl|assumption):wpAny M A (storeName X.env x u) Q E s:=by
 obtain⟨m,hn,hl⟩:=id I.loc;have hcls:(X.env.scope.kind== .class||(X.env.scope.kind== .module && X.env.locals !=X.env.globals))=false:=by rw[I.ok.kind];rfl
 have hiσ:i < σ.length:=by rw[I.len];exact(Y4.mp hi).1
 have cne:=I.cne;have aa:∀{a:Jg} {h':Jj},(∃o,s.heap.get? a=some o/\H a=none)->Heap.SameBut a s.heap h'->Tq X.prog X.w H h':=fun {a h'} ha hs b ob e=>by
  obtain⟨_,_,hfree⟩:=ha;refine(I.hok b ob e).stay (fun c w' g q=>(hs.2 c ?_).trans q) (fun _ q=>q) fun _ _ q=>q
  rintro rfl;rcases g with rfl|g
  .rw[hfree]at e;cases e
  .rw[hfree]at g;cases g
 rcases hx with hk|hk
 .refine wpAny_storeName_local hk hn (fun h' hn' hs=>?_) hcls;obtain⟨oL,_,_,hoL,_⟩:=id hn;refine h _ ⟨I.ok,I.os,I.bare,⟨fun b o e n hb hx=>?_,fun b o e n hb hx=>?_,I.base.free,fun b o e hx=>?_,I.base.tups,I.base.frzs,I.base.tbls⟩,⟨_,hn',fun j y v' f e2 e3=>?_⟩,fun y c e=>?_,I.free,I.freeC,fun p hp=>?_,aa ⟨oL,hoL,I.free⟩ hs,by simpa using I.len⟩ ⟨_,hs,.inl rfl⟩
  .exact(hs.2 b (Yo (Yy (Yf e) I.ok.above))).trans (I.base.keep b o e n hb hx)
  .obtain⟨sl,f⟩:=I.base.slot b o e n hb hx;exact⟨sl,(hs.2 b (Yo (Yy (Yf e) I.ok.above))).trans f⟩
  .obtain⟨o',f⟩:=I.base.there b o e hx;exact⟨o',(hs.2 b (Yo (Yy (Yf e) I.ok.above))).trans f⟩
  .by_cases hj:j=i
   .subst hj;rw[hi]at f;cases f;rw[WA hiσ]at e2;cases e2;exact⟨u,r,.inl ⟨hk,by simp⟩⟩
   .rw[WO (Ne.symm hj)]at e2;obtain⟨u',r',q⟩:=hl j y v' f e2 e3;refine⟨u',r',?_⟩;rcases q with⟨k,e⟩|⟨k,c,e,z⟩
    .refine .inl ⟨k,?_⟩;have:y≠x:=fun e=>hj (Zw hN f (e▸hi))
     simp[this,e]
    .exact .inr ⟨k,c,e,z.sameBut hs (cne y c e)⟩
  .obtain⟨w',z⟩:=I.cell y c e;exact⟨w',z.sameBut hs (cne y c e)⟩
  .obtain⟨e,n,ne,nf,d⟩:=I.pin p hp;exact⟨(hs.2 p.1 ne).trans e,n,ne,nf,d⟩
 .have hfn:X.fn x=true:=by
   rcases hf with z|z
   .exact z
   .rw[z]at hk;cases hk
  obtain⟨c,g⟩:=I.ok.has x (.inl hk);obtain⟨w',z⟩:=I.cell x c g;refine wpAny_storeName_cell I.ok.kind hk g z (fun h' hc' hs=>?_);obtain⟨oc,hoc,hocd⟩:=id z;refine h {s with heap:=h'} ⟨I.ok,I.os,I.bare,⟨fun b o e n hb hx=>?_,fun b o e n hb hx=>?_,I.base.free,fun b o e hx=>?_,I.base.tups,I.base.frzs,I.base.tbls⟩,⟨m,hn.sameBut hs (Ne.symm (cne x c g)),fun j y v' f e2 e3=>?_⟩,fun y c' e=>?_,I.free,I.freeC,fun p hp=>?_,aa ⟨oc,hoc,I.freeC x c g⟩ hs,by simpa using I.len⟩ ⟨c,hs,.inr g⟩
  .exact(hs.2 b (Yo (Yy (Yf e) (I.ok.cab x c hfn g)))).trans (I.base.keep b o e n hb hx)
  .obtain⟨sl,f⟩:=I.base.slot b o e n hb hx;exact⟨sl,(hs.2 b (Yo (Yy (Yf e) (I.ok.cab x c hfn g)))).trans f⟩
  .obtain⟨o',f⟩:=I.base.there b o e hx;exact⟨o',(hs.2 b (Yo (Yy (Yf e) (I.ok.cab x c hfn g)))).trans f⟩
  .by_cases hj:j=i
   .subst hj;rw[hi]at f;cases f;rw[WA hiσ]at e2;cases e2;exact⟨u,r,.inr ⟨.inl hk,c,g,hc'⟩⟩
   .rw[WO (Ne.symm hj)]at e2;obtain⟨u',r',q⟩:=hl j y v' f e2 e3;refine⟨u',r',?_⟩;rcases q with q|⟨k,c',e,z'⟩
    .exact .inl q
    .refine .inr ⟨k,c',e,z'.sameBut hs ?_⟩;rintro rfl;exact hj (Zw hN f (I.ok.inj _ _ _ e g▸hi))
  .by_cases hcc:c'=c
   .subst hcc;exact⟨_,hc'⟩
   .obtain⟨w2,z2⟩:=I.cell y c' e;exact⟨w2,z2.sameBut hs hcc⟩
  .obtain⟨e,n,ne,nf,d⟩:=I.pin p hp;refine⟨(hs.2 p.1 ?_).trans e,n,ne,nf,d⟩;intro q;rw[q,hoc]at e;have q':oc=p.2:=Option.some.inj e;exact d w' (by rw[<-q'];exact hocd)
theorem LN{M:Model}{A:Jc}{E:J6}{i:Nat}{x:Str}{v:V}{u:Jf}{Q:J7}(I:Jq X pins σ H s)(hN:X.N.Nodup)(hi:X.N[i]?=some x)(hx:Bl X.env.scope x)(r:Jz v u)
  (h:∀s',Jq X pins (σ.set i (some v)) H s'->Q () s') (hf:X.fn x=true\/X.env.scope.names.lookup x=some .local:=by first|exact .inl rfl|exact .inr rfl|assumption):wpAny M A (storeName X.env x u) Q E s:=
 yC I hN hi hx r (fun s' a _=>h s' a) hf
theorem Jq.call'{s':Ja}{ch:List Addr}(I:Jq X pins σ H s)(ho:s'.os=s.os)(u:Un (De X.stack) ch H H' s.heap s'.heap)(hok:Tq X.prog X.w H' s'.heap)(hg:AllBare s'.gens)
  (hch:∀b∈ch,(b∈X.ex\/X.s₀.heap.objs.size <=b)/\b≠X.env.locals/\(∀x c,X.env.cells.lookup x=some c->c≠b)/\∀p∈X.pn++pins,p.1≠b):Jq X pins σ H' s':=by
 obtain⟨h',g',d',t',o'⟩:=s';have e:o'=s.os:=ho;subst e;exact I.call (g':=g') (t':=t') (d':=d') u hok hg hch
end
abbrev XK:=Value->Option Addr->Hp->Prop
abbrev St:=List (Option V)
abbrev VK:=V->Hp->Prop
abbrev TE:=St->Hp->VK->Prop
abbrev TT:=St->Hp->(Bool->Hp->Prop)->Prop
abbrev TA:=St->Hp->(List V->Hp->Prop)->Prop
structure Mh where
 nx:St->Hp->Prop
 rt:VK
 bk:St->Hp->Prop:=fun _ _=>False
 ct:St->Hp->Prop:=fun _ _=>False
abbrev TS:=Mh->St->Hp->Prop
def EP(X:Cx)(pins:J8)(σ:St)(Q:VK)(u:Jf)(s':Ja):Prop:=∃v H',Jq X pins σ H' s'/\Jz v u/\Q v H'
def TP(X:Cx)(pins:J8)(σ:St)(Q:Bool->Hp->Prop)(b:Bool)(s':Ja):Prop:=∃H',Jq X pins σ H' s'/\Q b H'
def AP(X:Cx)(pins:J8)(σ:St)(Q:List V->Hp->Prop)(us:Ji)(s':Ja):Prop:=∃vs H',Jq X pins σ H' s'/\JB vs us/\Q vs H'
def SP(X:Cx)(pins:J8)(D:Mh)(f:Flow)(s':Ja):Prop:=
 match f with
 | .next=>∃σ' H',Jq X pins σ' H' s'/\D.nx σ' H'
 | .brk=>∃σ' H',Jq X pins σ' H' s'/\D.bk σ' H'
 | .cont=>∃σ' H',Jq X pins σ' H' s'/\D.ct σ' H'
 | .ret u=>∃v σ' H',Jq X pins σ' H' s'/\Jz v u/\D.rt v H'
def PE(X:Cx)(e:Jk)(t:TE):Prop:=
 ∀ (pins:J8) (s:Ja) (σ:St) (H:Hp) (Q:VK),Jq X pins σ H s->t σ H Q->wpAny (model X.prog X.w) X.A (eval e X.env) (EP X pins σ Q) X.xe s
def PT(X:Cx)(e:Jk)(t:TT):Prop:=
 ∀ (pins:J8) (s:Ja) (σ:St) (H:Hp) (Q:Bool->Hp->Prop),Jq X pins σ H s->t σ H Q->wpAny (model X.prog X.w) X.A (isTrue e X.env (eval e X.env)) (TP X pins σ Q) X.xe s
def PW(X:Cx)(e:Jk)(t:TT):Prop:=
 ∀ (whole:Sem Value) (pins:J8) (s:Ja) (σ:St) (H:Hp) (Q:Bool->Hp->Prop),Jq X pins σ H s->t σ H Q->wpAny (model X.prog X.w) X.A (isTrue e X.env whole) (TP X pins σ Q) X.xe s
theorem PW.pt{X:Cx}{e:Jk}{t:TT}(h:PW X e t):PT X e t:=h _
def PA(X:Cx)(es:List Expr)(t:TA):Prop:=
 ∀ (pos:Pos) (pins:J8) (s:Ja) (σ:St) (H:Hp) (Q:List V->Hp->Prop),Jq X pins σ H s->t σ H Q->wpAny (model X.prog X.w) X.A (spliced (backTo pos (starEach es X.env))) (AP X pins σ Q) X.xe s
def PS(X:Cx)(st:Stmt)(t:TS):Prop:=
 ∀ (pins:J8) (s:Ja) (σ:St) (H:Hp) (D:Mh),Jq X pins σ H s->t D σ H->wpAny (model X.prog X.w) X.A (exec st X.env) (SP X pins D) X.xe s
def Dl(X:Cx)(st:List Stmt)(t:TS):Prop:=
 ∀ (pins:J8) (s:Ja) (σ:St) (H:Hp) (D:Mh),Jq X pins σ H s->t D σ H->wpAny (model X.prog X.w) X.A (execs st X.env) (SP X pins D) X.xe s
theorem JO{α:Type}{t:Sem α}{Q Q':α->Shared->Prop}{M:Model}{A:Jc}{E:J6}{s:Ja}(h:wpAny M A t Q E s)(hQ:∀a s,Q a s->Q' a s):wpAny M A t Q' E s:=YI h hQ fun _ _ x=>x
section
variable{X:Cx}
def Hw(i:Nat):TE:=fun σ H Q=>∃v,σ[i]?=some (some v)/\Q v H
def tC(v:V):TE:=fun _ H Q=>Q v H
theorem r9{i:Nat}{x:Str}{pos:Pos}(hN:X.N[i]?=some x)(hv:AZ X.env.scope x)(hd:(x==("__debug__":Str))=false:=by decide)(hcd:(x==("__classdict__":Str))=false:=by decide):PE X (.Name x pos) (Hw i):=by
 intro pins s σ H Q I h;obtain⟨v,e,h⟩:=h;obtain⟨m,b,f⟩:=I.loc;obtain⟨u,r,l⟩:=f i x v hN e hv;have a:EP X pins σ Q u s:=⟨v,H,I,r,h⟩;rcases l with⟨hk,hm⟩|⟨hk,c,hc,hcell⟩
 .exact wpAny_Name (wpAny_loadName_local I.ok.kind hk b hm a) hd
 .rcases hk with hk|hk
  .exact wpAny_Name (wpAny_loadName_cell I.ok.kind hk hc hcell a) hd
  .exact wpAny_Name (wpAny_loadName_free I.ok.kind hk hc hcell a hcd) hd
theorem JI{i j pos}:PE X (.Constant (.int i) j pos) (tC (.int i)):=fun _ _ _ H _ I h=>wpAny_Constant_int ⟨.int i,H,I.tok _,⟨_,rfl⟩,h⟩
theorem Er{b j pos}:PE X (.Constant (.bool b) j pos) (tC (.bl b)):=fun _ _ _ H _ I h=>Constant_bool ⟨.bl b,H,I,rfl,h⟩
theorem DY{j pos}:PE X (.Constant .none j pos) (tC .non):=fun _ _ _ H _ I h=>Constant_none ⟨.non,H,I,rfl,h⟩
theorem Tj{x j pos}:PE X (.Constant (.str x) j pos) (tC (.str x)):=fun _ _ _ H _ I h=>Calls.Constant_str ⟨.str x,H,I.tok _,⟨_,rfl⟩,h⟩
def Gl(X:Cx)(x:Str):Prop:=X.env.kindOf x=some .globalImplicit
theorem IB{E:J6}{pins:J8}{s:Ja}{σ:St}{H:Hp}{x:Str}{u:Jf}{pos:Pos}{Q:J6}(I:Jq X pins σ H s)(hg:Gl X x)(hm:X.mg x=some u)(h:Q u s)
  (hd:(x==("__debug__":Str))=false:=by decide):wpAny (model X.prog X.w) X.A (eval (.Name x pos) X.env) Q E s:=
 VY I.ok.kind hg (Calls.loadGlobal_global (by rw[I.ok.glob];exact I.mod.glob.keeps I.bk) hm h) hd
theorem ER{E:J6}{pins:J8}{s:Ja}{σ:St}{H:Hp}{x:Str}{u:Jf}{pos:Pos}{Q:J6}(I:Jq X pins σ H s)(hg:Gl X x)(hm:X.mg x=none)(hv:bootBuiltins x=some u)(h:Q u s)
  (hn:x≠"__name__":=by decide) (hd:(x==("__debug__":Str))=false:=by decide):wpAny (model X.prog X.w) X.A (eval (.Name x pos) X.env) Q E s:=by
 obtain⟨mb,h1,h2⟩:=I.mod.blt;exact VY I.ok.kind hg (Calls.loadGlobal_builtin (by rw[I.ok.glob];exact I.mod.glob.keeps I.bk) hm (by rw[I.ok.blt];exact h1.keeps I.bk) ((h2 x hn).trans hv) h) hd
theorem A7{x:Str}{v:V}{u:Jf}{pos:Pos}(hg:Gl X x)(hm:X.mg x=some u)(r:Jz v u)(hd:(x==("__debug__":Str))=false:=by decide):PE X (.Name x pos) (tC v):=
 fun _ _ _ H _ I h=>IB I hg hm ⟨v,H,I,r,h⟩ hd
theorem B0{x:Str}{v:V}{u:Jf}{pos:Pos}(hg:Gl X x)(hm:X.mg x=none)(hv:bootBuiltins x=some u)(r:Jz v u)(hn:x≠"__name__":=by decide)(hd:(x==("__debug__":Str))=false:=by decide):PE X (.Name x pos) (tC v):=
 fun _ _ _ H _ I h=>ER I hg hm hv ⟨v,H,I,r,h⟩ hn hd
variable{a b:Jk}{ta tb:TE}{pos:Pos}
def tB(t:TE):TT:=fun σ H Q=>t σ H fun x H1=>∃c,x= .bl c/\Q c H1
theorem cM{e:Jk}{t:TE}(h:PE X e t)(he:∀whole,isTrue e X.env whole=(do let v <-whole;standAt e.pos;holding [v] (truthy v)):=by intro _;rfl):PT X e (tB t):=by
 intro pins s σ H Q I c;refine isTrue_plain (JO (h pins s σ H _ I c) fun v s1 ⟨x,H1,f,a,b⟩=>?_) (he _);obtain⟨d,rfl,q⟩:=b;cases a;exact Xm ⟨H1,f,q⟩
variable{tA tB':TT}{rest:List Expr}
def Lh(t u:TT):TT:=fun σ H Q=>t σ H fun c H1=>if c=true then u σ H1 Q else Q false H1
def HU(t u:TT):TT:=fun σ H Q=>t σ H fun c H1=>if c=true then Q true H1 else u σ H1 Q
def O1(t:TT):TT:=fun σ H Q=>t σ H fun c H1=>Q (!c) H1
theorem Ab(ha:PT X a tA):PW X (.BoolOp .And [a] pos) tA:=by
 intro b pins s σ H Q I h;refine isTrue_and (JO (ha pins s σ H Q I h) fun c s1 e=>?_);cases c with
 |true=>exact isTrue_and_nil e
 |false=>exact e
theorem RJ(ha:PT X a tA):PW X (.BoolOp .Or [a] pos) tA:=by
 intro b pins s σ H Q I h;refine isTrue_or (JO (ha pins s σ H Q I h) fun c s1 e=>?_);cases c with
 |false=>exact isTrue_or_nil e
 |true=>exact e
theorem A2(ha:PT X a tA)(hb:PW X (.BoolOp .And (b::rest) pos) tB'):PW X (.BoolOp .And (a::b::rest) pos) (Lh tA tB'):=by
 intro g pins s σ H Q I h;refine isTrue_and (JO (ha pins s σ H _ I h) fun c s1 ⟨H1,f,e⟩=>?_);cases c with
 |true=>exact hb g pins s1 σ H1 Q f e
 |false=>exact⟨H1,f,e⟩
theorem RD(ha:PT X a tA)(hb:PW X (.BoolOp .Or (b::rest) pos) tB'):PW X (.BoolOp .Or (a::b::rest) pos) (HU tA tB'):=by
 intro g pins s σ H Q I h;refine isTrue_or (JO (ha pins s σ H _ I h) fun c s1 ⟨H1,f,e⟩=>?_);cases c with
 |true=>exact⟨H1,f,e⟩
 |false=>exact hb g pins s1 σ H1 Q f e
theorem DD(ha:PT X a tA):PT X (.UnaryOp .Not a pos) (O1 tA):=by
 intro pins s σ H Q I h;exact isTrue_not (ha pins s σ H (fun c H1=>Q (!c) H1) I h)
def BQ(ta tb:TE):TE:=fun σ H Q=>ta σ H fun x H1=>∃c,x= .bl c/\if c=true then tb σ H1 Q else Q (.bl false) H1
def Bs(ta:TE):TE:=fun σ H Q=>ta σ H fun x H1=>∃c,x= .bl c/\Q (.bl (!c)) H1
theorem GU{op}{t:TE}(h:PE X a t):PE X (.BoolOp op [a] pos) t:=fun pins s σ H Q I b=>BoolOp_one (h pins s σ H Q I b)
theorem yV(ha:PE X a ta)(hb:PE X (.BoolOp .And (b::rest) pos) tb):PE X (.BoolOp .And (a::b::rest) pos) (BQ ta tb):=by
 intro pins s σ H Q I h;refine BoolOp_and (JO (ha pins s σ H _ I h) fun v s1 ⟨x,H1,f,g,e⟩=>?_);obtain⟨c,rfl,e⟩:=e;cases g;refine Xm ?_;cases c with
 |true=>exact hb pins s1 σ H1 Q f e
 |false=>exact⟨.bl false,H1,f,rfl,e⟩
theorem uA(ha:PE X a ta):PE X (.UnaryOp .Not a pos) (Bs ta):=by
 intro pins s σ H Q I h;refine UnaryOp_ (JO (ha pins s σ H _ I h) fun v s1 ⟨x,H1,f,e,b⟩=>?_);obtain⟨c,rfl,b⟩:=b;cases e;exact not_of (Xm ⟨.bl (!c),H1,f,rfl,b⟩)
def Ie(t:TT)(ta tb:TE):TE:=fun σ H Q=>t σ H fun c H1=>if c=true then ta σ H1 Q else tb σ H1 Q
theorem PZ{c:Jk}(hc:PT X c tA)(ha:PE X a ta)(hb:PE X b tb):PE X (.IfExp c a b pos) (Ie tA ta tb):=by
 intro pins s σ H Q I h;refine wpAny_IfExp (JO (hc pins s σ H _ I h) fun d s1 ⟨H1,f,e⟩=>?_);cases d with
 |true=>exact ha pins s1 σ H1 Q f e
 |false=>exact hb pins s1 σ H1 Q f e
end
def JA(K:Je)(H:Hp)(a:Jg)(xs:List V):Prop:=
 Rd H a (.lst xs)\/
  ∃ (o:Obj) (its:Array Value) (n:Nat),K.lookup a=some o/\o.cls= .type "list"/\o.dict=none/\o.data= .seq its n/\its.size <=sizeLine/\JB xs its.toList
def N8(K:Je)(H:Hp)(a:Jg)(xs:List V):Prop:=
 Rd H a (.tup xs)\/
  ∃ (o:Obj) (its:Array Value) (n:Nat),K.lookup a=some o/\o.cls= .type "tuple"/\o.data= .seq its n/\its.size <=sizeLine/\JB xs its.toList
def bQ:Value->Option V
 | .none=>some .non
 | .bool b=>some (.bl b)
 | .int i _=>some (.int i)
 | .str x _=>some (.str x)
 | .bytes b _=>some (.byt b)
 | .float b _=>some (.flt b)
 | .ref a=>some (.ref a)
 | .type n=>some (.ty n)
 |_=>none
theorem Jz.abs{x:V}{u:Jf}(r:Jz x u):bQ u=some x:=by
 cases x with
 |non=>cases r;rfl
 |bl _=>cases r;rfl
 |int _=>obtain⟨t,rfl⟩:=r;rfl
 |str _=>obtain⟨t,rfl⟩:=r;rfl
 |byt _=>obtain⟨t,rfl⟩:=r;rfl
 |flt _=>obtain⟨t,rfl⟩:=r;rfl
 |ref _=>cases r;rfl
 |ty _=>cases r;rfl
theorem Jz.inj{x y:V}{u:Jf}(r:Jz x u)(q:Jz y u):x=y:=Option.some.inj (r.abs.symm.trans q.abs)
theorem JB.inj:∀{xs ys:List V} {us:Ji},JB xs us->JB ys us->xs=ys
 |_,_,_,.nil,.nil=>rfl
 |_,_,_,.cons r t,.cons r' t'=>by rw[r.inj r',JB.inj t t']
section
variable{X:Cx}{pins:J8}{σ:St}{H:Hp}{s:Ja}{a:Jg}{xs ys:List V}
theorem JA.of{K:Je}(h:H a=some (.lst xs)):JA K H a xs:=.inl (.inl h)
theorem N8.of{K:Je}(h:H a=some (.tup xs)):N8 K H a xs:=.inl (.inl h)
theorem Jq.list(I:Jq X pins σ H s)(h:JA X.K H a xs):∃its:List Value,JB xs its/\PlainL s.heap a its.toArray/\xs.length <=sizeLine:=by
 rcases h with h|⟨o,its,n,hk,hc,hd,hs,hz,r⟩
 .obtain⟨z,its,n,r,e⟩:=h.ok I.hok;exact⟨its,r,⟨_,n,e,rfl,rfl,rfl⟩,z⟩
 .refine⟨its.toList,r,⟨o,n,I.kIn a o hk,hc,hd,by simpa using hs⟩,?_⟩;have e:=r.length;simp only[Array.length_toList]at e
  lia
theorem Jq.tuple(I:Jq X pins σ H s)(h:N8 X.K H a xs):∃its:List Value,JB xs its/\IsTup s.heap a its.toArray/\xs.length <=sizeLine:=by
 rcases h with h|⟨o,its,n,hk,hc,hs,hz,r⟩
 .obtain⟨z,its,r,p⟩:=h.ok I.hok;exact⟨its,r,p,z⟩
 .refine⟨its.toList,r,⟨o,I.kIn a o hk,hc,n,by simpa using hs⟩,?_⟩;have e:=r.length;simp only[Array.length_toList]at e
  lia
theorem Jq.list_inj(I:Jq X pins σ H s)(h:JA X.K H a xs)(h':JA X.K H a ys):xs=ys:=by
 obtain⟨c,r,⟨o,n,e,_,_,d⟩,_⟩:=I.list h;obtain⟨b,i,⟨o',j,f,_,_,g⟩,_⟩:=I.list h';rw[e]at f;cases f;rw[d]at g;injection g with d1 _;have:c=b:=by simpa using YR Array.toList d1
 subst this;exact r.inj i
end
abbrev Cx.wish(X:Cx)(E:J6):Cx:={X with xe:=E}
abbrev Cx.nox(X:Cx):Cx:=X.wish fun _ _=>False
theorem Cx.Ok.wish{X:Cx}(ok:X.Ok)(E:J6):(X.wish E).Ok:=
 ⟨ok.mod,ok.kind,ok.glob,ok.blt,ok.above,ok.inj,ok.has,ok.cab,ok.hd,ok.frames,ok.stk,ok.exf,ok.bs,ok.bsz,ok.noex,ok.exfs,ok.funs,ok.frf⟩
theorem Cx.Ok.unwish{X:Cx}{E:J6}(ok:(X.wish E).Ok):X.Ok:=
 ⟨ok.mod,ok.kind,ok.glob,ok.blt,ok.above,ok.inj,ok.has,ok.cab,ok.hd,ok.frames,ok.stk,ok.exf,ok.bs,ok.bsz,ok.noex,ok.exfs,ok.funs,ok.frf⟩
section
variable{X:Cx}{pins:J8}{σ:St}{H:Hp}{s:Ja}{E:J6}
theorem Jq.wish(I:Jq X pins σ H s)(E:J6):Jq (X.wish E) pins σ H s:=⟨I.ok.wish E,I.os,I.bare,I.base,I.loc,I.cell,I.free,I.freeC,I.pin,I.hok,I.len⟩
theorem Jq.unwish(I:Jq (X.wish E) pins σ H s):Jq X pins σ H s:=⟨I.ok.unwish,I.os,I.bare,I.base,I.loc,I.cell,I.free,I.freeC,I.pin,I.hok,I.len⟩
theorem SP.unwish{D:Mh}{f:Flow}{s':Ja}(h:SP (X.wish E) pins D f s'):SP X pins D f s':=by
 cases f with
 |next=>obtain⟨σ',H',I,q⟩:=h;exact⟨σ',H',I.unwish,q⟩
 |brk=>obtain⟨σ',H',I,q⟩:=h;exact⟨σ',H',I.unwish,q⟩
 |cont=>obtain⟨σ',H',I,q⟩:=h;exact⟨σ',H',I.unwish,q⟩
 |ret u=>obtain⟨v,σ',H',I,r,q⟩:=h;exact⟨v,σ',H',I.unwish,r,q⟩
theorem Dl.nox{st:List Stmt}{t:TS}(h:Dl X.nox st t):Dl X st t:=fun pins s σ H D I a=>
 YI (h pins s σ H D (I.wish _) a) (fun _ _ q=>q.unwish) fun _ _ z=>False.elim z
end
section
variable{X:Cx}{st:Stmt}{rest:List Stmt}{t u:TS}{e:Jk}{te:TE}{pos:Pos}
def KB:TS:=fun D σ H=>D.nx σ H
def GD(t u:TS):TS:=fun D σ H=>t {D with nx:=u D} σ H
theorem TC:Dl X [] KB:=fun _ _ σ H _ I h=>Vu ⟨σ,H,I,h⟩
theorem JE(h1:PS X st t)(h2:Dl X rest u):Dl X (st::rest) (GD t u):=by
 intro pins s σ H D I h;refine wpAny_execs_cons (JO (h1 pins s σ H {D with nx:=u D} I h) fun f s1 q=>?_);cases f with
 |next=>
  obtain⟨σ',H',a,q⟩:=q;exact h2 pins s1 σ' H' D a q
 |ret v=>exact q
 |brk=>exact q
 |cont=>exact q
theorem JM(h1:PS X st t):Dl X [st] t:=by
 intro pins s σ H D I h;refine wpAny_execs_cons (JO (h1 pins s σ H D I h) fun f s1 q=>?_);cases f with
 |next=>exact Vu q
 |ret v=>exact q
 |brk=>exact q
 |cont=>exact q
def KZ:TS:=fun D σ H=>D.bk σ H
theorem bS:PS X (.Break pos) KZ:=fun _ _ σ H _ I h=>wpAny_Break ⟨σ,H,I,h⟩
theorem Jq.quiet{pins:J8}{σ:St}{H:Hp}{s:Ja}(I:Jq X pins σ H s):interactive X.env=false:=by simp[interactive,I.ok.kind]
def LZ(te:TE):TS:=fun D σ H=>te σ H fun _ H1=>D.nx σ H1
theorem D8(he:PE X e te)(hs:swapsWith e none pos.line X.env=pure false:=by rfl):PS X (.Expr e pos) (LZ te):=by
 intro pins s σ H D I h;exact wpAny_Expr_any (JO (he pins s σ H _ I h) fun v s1 ⟨x,H1,b,c,a⟩=>⟨σ,H1,b,a⟩) I.quiet hs
def Lx(te:TE):TS:=fun D σ H=>te σ H D.rt
theorem Nk(he:PE X e te):PS X (.Return (some e) pos) (Lx te):=by
 intro pins s σ H D I h;exact wpAny_Return_some (JO (he pins s σ H _ I h) fun v s1 ⟨x,H1,c,a,b⟩=>⟨x,σ,H1,c,a,b⟩)
def HL(c:TT)(t u:TS):TS:=fun D σ H=>c σ H fun b H1=>if b=true then t D σ H1 else u D σ H1
theorem Tg{c:Jk}{a b:List Stmt}{tc:TT}(hc:PT X c tc)(ha:Dl X a t)(hb:Dl X b u):PS X (.If c a b pos) (HL tc t u):=by
 intro pins s σ H D I h;refine wpAny_If (JO (hc pins s σ H _ I h) fun d s1 ⟨H1,f,e⟩=>?_);cases d with
 |true=>exact ha pins s1 σ H1 D f e
 |false=>exact hb pins s1 σ H1 D f e
def ZC:TS:=fun _ _ _=>False
theorem EE{sts:List Stmt}:Dl X sts ZC:=fun _ _ _ _ _ _ h=>h.elim
end
abbrev TG:=V->St->Hp->(St->Hp->Prop)->Prop
abbrev EX:=List V->St->Hp->(St->Hp->Prop)->Prop
def PG(X:Cx)(target:Jk)(t:TG):Prop:=
 ∀ (pins:J8) (s:Ja) (σ:St) (H:Hp) (v:V) (u:Jf) (Q:St->Hp->Prop),Jq X pins σ H s->Jz v u->t v σ H Q->
  wpAny (model X.prog X.w) X.A (assign target X.env u) (fun _ s'=>∃σ' H',Jq X pins σ' H' s'/\Q σ' H') X.xe s
def At(X:Cx)(ts:List Expr)(t:EX):Prop:=
 ∀ (pins:J8) (s:Ja) (σ:St) (H:Hp) (vs:List V) (us:Ji) (Q:St->Hp->Prop),Jq X pins σ H s->JB vs us->t vs σ H Q->
  wpAny (model X.prog X.w) X.A (assignInOrder ((assignEach ts X.env).map (·.2)) us) (fun _ s'=>∃σ' H',Jq X pins σ' H' s'/\Q σ' H') X.xe s
section
variable{X:Cx}{pos:Pos}
def RT(i:Nat):TG:=fun v σ H Q=>Q (σ.set i (some v)) H
theorem D0{i:Nat}{x:Str}(hN:X.N.Nodup)(hi:X.N[i]?=some x)(hx:Bl X.env.scope x)(hf:X.fn x=true\/X.env.scope.names.lookup x=some .local:=by first|exact .inl rfl|exact .inr rfl|assumption):PG X (.Name x pos) (RT i):=by
 intro pins s σ H v u Q I r h;exact wpAny_assign_Name (LN I hN hi hx r (fun s' a=>⟨_,H,a,h⟩) hf)
def Ka:EX:=fun vs σ H Q=>vs=[]/\Q σ H
def L5(t:TG)(u:EX):EX:=fun vs σ H Q=>∃v r,vs=v::r/\t v σ H fun σ' H'=>u r σ' H' Q
theorem EJ:At X [] Ka:=by
 intro pins s σ H vs a Q I r h;obtain⟨e,h⟩:=h;subst e;cases r;exact assignInOrder_nil ⟨σ,H,I,h⟩
theorem DK{e:Jk}{es:List Expr}{t:TG}{u:EX}(h1:PG X e t)(h2:At X es u)
  (hs:(assignEach (e::es) X.env).map (·.2)=assign e X.env::(assignEach es X.env).map (·.2):=by rfl):At X (e::es) (L5 t u):=by
 intro pins s σ H vs g Q I r h;obtain⟨v,f,b,h⟩:=h;subst b;cases r with
 |cons r rr=>
  rw[hs];refine assignInOrder_cons (JO (h1 pins s σ H _ _ _ I r h) fun _ s1 ⟨σ1,H1,c,a⟩=>?_);exact h2 pins s1 σ1 H1 _ _ Q c rr a
def FZ(K:Je)(n:Nat)(t:EX):TG:=fun v σ H Q=>∃a xs,v= .ref a/\N8 K H a xs/\xs.length=n/\t xs σ H Q
theorem cG{es:List Expr}{k:Nat}{t:EX}{n:Nat}(hc:X.calm=true)(h:At X es t)
  (hn:(assignEach es X.env).length=n:=by rfl) (hst:(assignEach es X.env).findIdx? (·.1)=none:=by rfl):PG X (.Tuple es k pos) (FZ X.K n t):=by
 intro pins s σ H v u Q I r c;obtain⟨a,xs,q,j,p,c⟩:=c;subst q;cases r;obtain⟨z,f,i,hz⟩:=I.tuple j;refine assign_Tuple_tuple (I.ok.hd hc) i (by simp[hn,<-p,f.length]) hst fun h' g=>?_
 have w:Jq X pins σ H {s with heap:=h'}:=I.kept (t':=s.toks) fun b o e=>g b o (Yo (Yf e)) e
 exact h pins _ σ H xs _ Q w (by simpa using f) c
def B1(te:TE)(g:TG):TS:=fun D σ H=>te σ H fun x H1=>g x σ H1 D.nx
theorem Qr{tg e:Jk}{te:TE}{g:TG}(he:PE X e te)(hg:PG X tg g)(hs:swapsWithSole [tg] e pos.line X.env=pure false:=by rfl)(hw:swappedStores [tg] e X.env=pure none:=by rfl)
  (h1:(assignEach [tg] X.env).map (·.2)=[assign tg X.env]:=by rfl):PS X (.Assign [tg] e pos) (B1 te g):=by
 intro pins s σ H D I h;refine wpAny_Assign_stores (JO (he pins s σ H _ I h) fun v s1 ⟨x,H1,c,a,b⟩=>?_) hs hw;rw[h1];exact JO (hg pins s1 σ H1 x v _ c a b) fun _ s2 q=>q
theorem Zg{i:Nat}{x:Str}{e:Jk}{te:TE}{pos':Pos}(hN:X.N.Nodup)(hi:X.N[i]?=some x)(hx:Bl X.env.scope x)(he:PE X e te)(hs:swapsWith e (some (.Name x pos')) pos.line X.env=pure false:=by rfl)(hf:X.fn x=true\/X.env.scope.names.lookup x=some .local:=by first|exact .inl rfl|exact .inr rfl|assumption):
  PS X (.Assign [.Name x pos'] e pos) (B1 te (RT i)):=by
 intro pins s σ H D I h;refine wpAny_Assign_Name (JO (he pins s σ H _ I h) fun v s1 ⟨y,H1,f,a,b⟩=>?_) hs;exact LN f hN hi hx a (fun s2 c=>⟨_,H1,c,b⟩) hf
def bM(c:TT)(tb:TS):TS:=fun D σ H=>∃W:Nat->St->Hp->Prop,(∃m,W m σ H)/\∀m σ H,W m σ H->
 c σ H fun b H1=>if b=true then ∃N:St->Hp->Prop,(∀σ' H',N σ' H'->∃m',m' < m/\W m' σ' H')/\tb {D with nx:=N,ct:=N,bk:=D.nx} σ H1 else D.nx σ H1
theorem Z4{c:Jk}{body:List Stmt}{tc:TT}{tb:TS}(hp:PassesOwn (model X.prog X.w) X.A X.env X.xe)(hc:PT X c tc)(hb:Dl X body tb):PS X (.While c body [] pos) (bM tc tb):=by
 intro pins s σ H D I h;obtain⟨W,⟨m0,w0⟩,j⟩:=h;refine wpAny_While (codeAny_whileLoop (fun n s'=>∃σ' H',Jq X pins σ' H' s'/\W n σ' H') ?_ m0 ⟨σ,H,I,w0⟩);rintro n s1 ⟨σ1,H1,I1,w1⟩;refine Uc hp (JO (hc pins s1 σ1 H1 _ I1 (j n σ1 H1 w1)) fun b s2 ⟨H2,I2,g⟩=>?_);cases b with
 |true=>
  obtain⟨N,z,g⟩:=g;rw[Y3 rfl];refine Uc hp (JO (hb pins s2 σ1 H2 _ I2 g) fun f s3 e=>?_);cases f with
  |next=>
   obtain⟨σ3,a,r,o⟩:=e;obtain⟨p,q,i⟩:=z σ3 a o;exact⟨p,q,σ3,a,r,i⟩
  |cont=>
   obtain⟨σ3,a,r,o⟩:=e;obtain⟨p,q,i⟩:=z σ3 a o;exact⟨p,q,σ3,a,r,i⟩
  |brk=>exact e
  |ret v=>exact e
 |false=>
  rw[Y2 Yg];exact Vu ⟨σ1,H2,I2,g⟩
end
structure It where
 go:Nat->Hp->Prop
 yld:Nat->Hp->V->Hp->Prop
 stop:Nat->Hp->Prop
def D6(X:Cx)(pins:J8)(H:Hp)(b:Jg):Prop:=
 H b=none/\b≠X.env.locals/\b∉X.fs/\(b∈X.ex\/X.s₀.heap.objs.size <=b)/\(∀x c,X.env.cells.lookup x=some c->c≠b)/\∀p∈X.pn++pins,p.1≠b
theorem Jq.fpOk{X:Cx}{pins:J8}{σ:St}{H H':Hp}{s:Ja}{b:Jg}(I:Jq X pins σ H s)(hb:s.heap.objs.size <=b)(hn:H' b=none):D6 X pins H' b:=by
 refine⟨hn,Vv (Yy I.lt hb),I.nofs hb,.inr (YD I.sz hb),fun x c e z=>?_,fun p a z=>?_⟩
 .obtain⟨v,q⟩:=I.cell x c e;exact absurd (Yy q.lt (by rw[z];exact hb)) (Xo _)
 .exact absurd (Yy (Yf (I.pin p a).1) (by rw[z];exact hb)) (Xo _)
structure EH(P:J9)(w:Jd)(K:Je)(tg:Jk)(J:It)(fp:List Addr)(it:Jg)(tn:Nat->Heap->Prop):Prop where
 mem:it∈fp
 obj:∀i h,tn i h->∀b∈fp,∃o,h.get? b=some o/\∀v,o.data≠ .cell v
 keep:∀i h h',tn i h->(∀b∈fp,∀o,h.get? b=some o->h'.get? b=some o)->tn i h'
 item:∀ (X:Cx),X.prog=P->X.w=w->X.K=K->X.calm=true->∀ (i:Nat) (pins:J8) (s:Ja) (σ:St) (H:Hp) (E:J6),Jq X pins σ H s->(∀b∈fp,D6 X pins H b)->tn i s.heap->J.go i H->
  wpAny (model P w) X.A (pyNext (.ref it)) (fun r s1 => ∃ u, r = some u /\
   wpAny (model P w) X.A (letOwnedTupleGo tg (.ref it) u) (fun _ s2 => ∃ x H', Jq X pins σ H' s2 /\ Jz x u /\ J.yld i H x H' /\ tn (i + 1) s2.heap /\ ∀ b ∈ fp, H' b = none) E s1) E s
 done:∀ (X:Cx),X.prog=P->X.w=w->X.K=K->X.calm=true->∀ (i:Nat) (pins:J8) (s:Ja) (σ:St) (H:Hp) (E:J6),Jq X pins σ H s->(∀b∈fp,D6 X pins H b)->tn i s.heap->J.stop i H->
  wpAny (model P w) X.A (pyNext (.ref it)) (fun r s1=>r=none/\Jq X pins σ H s1) E s
 self:∀ (A:Jc) (i:Nat) (s:Ja) (Q:J6) (E:J6),tn i s.heap->Q (.ref it) s->wpAny (model P w) A (pyIter (.ref it)) Q E s
abbrev TI:=St->Hp->(It->Hp->Prop)->Prop
def Sg(X:Cx)(pins:J8)(σ:St)(tg:Jk)(R:It->Hp->Prop)(itv:Jf)(s2:Ja):Prop:=
 ∃ (it:Jg) (fp:List Addr) (tn:Nat->Heap->Prop) (J:It) (H':Hp),itv= .ref it/\Jq X pins σ H' s2/\EH X.prog X.w X.K tg J fp it tn/\tn 0 s2.heap/\(∀b∈fp,D6 X pins H' b)/\R J H'
def PI(X:Cx)(tg iter:Jk)(wi:TI):Prop:=
 ∀ (pins:J8) (s:Ja) (σ:St) (H:Hp) (R:It->Hp->Prop),Jq X pins σ H s->wi σ H R->
  wpAny (model X.prog X.w) X.A (eval iter X.env) (fun v s1=>wpAny (model X.prog X.w) X.A (pyIter v) (Sg X pins σ tg R) X.xe s1) X.xe s
theorem Ca{M:Model}{A:Jc}{E:J6}{s:Ja}{tg:Jk}{it:Jg}{u:Jf}{o:Obj}{n:String}{vs:Array Value}{Q:J7}(ho:s.heap.get? it=some o)(hc:o.cls= .type n)(hd:o.data= .fields vs)
    (hn:["enumerate","zip","dict_itemiterator","dict_reverseitemiterator","odict_iterator","itertools.zip_longest","itertools.pairwise"].contains n=false) (hQ:Q () s):wpAny M A (letOwnedTupleGo tg (.ref it) u) Q E s:=by
  unfold letOwnedTupleGo
  cases tg <;> first
    |exact Y6 hQ
    | (cases u <;> first
        |exact Y6 hQ
        | (refine Y0 (wpAny_load ho ?_)
           rw[hc,hd]
           show wpAny M A (if(["enumerate","zip","dict_itemiterator","dict_reverseitemiterator","odict_iterator","itertools.zip_longest","itertools.pairwise"].contains n && vs[0]?==some (rawInt _))=true then _ else _) Q E s
           rw[Y2 (by intro h;rw[hn,XF]at h;cases h)]
           exact Y6 hQ))
def E7(K:Je)(a:Jg):It:=
 ⟨fun i H=>∃xs x,JA K H a xs/\xs[i]?=some x,fun i H x H'=>H'=H/\∀xs,JA K H a xs->xs[i]?=some x,fun i H=>∃xs,JA K H a xs/\xs.length <=i⟩
def Ec(lo:Int)(n:Nat):It:=⟨fun i _=>i < n,fun i H x H'=>H'=H/\x= .int (lo+ i),fun i _=>n <=i⟩
theorem xQ{P:J9}{w:Jd}{K:Je}{tg:Jk}(a it:Jg):EH P w K tg (E7 K a) [it] it (fun i h=>h.IsListIter it a i) where
 mem:=by simp
 obj:=fun i h st b f=>by
  have e:b=it:=by simpa using f
  subst e;obtain⟨o,e,c,d⟩:=st;exact⟨o,e,fun v z=>by rw[d]at z;cases z⟩
 keep:=fun i h h' st k=>st.at fun o e=>k it (by simp) o e
 item:=by
  intro X hP hw hK hc i pins s σ H E I j st hg;subst hP hw hK;obtain⟨xs,x,g,r⟩:=hg;obtain⟨its,q,p,hz⟩:=I.list g;obtain⟨u,hu,ru⟩:=q.get r;obtain⟨f0,f1,f2,f3,f4,f5⟩:=j it (by simp);refine wpAny_pyNext_list_item st p.isList (x:=u) (by simpa using hu) fun h' n sb=>?_
  have I1:Jq X pins σ H {s with heap:=h'}:=I.turned (t':=s.toks) (fun b o f e=>(sb.2 b f).trans e) f0 f1 f3 f4 f5;obtain⟨o,e,c,d⟩:=id n;exact⟨u,rfl,Ca (s:={s with heap:=h'}) e c d (by decide) ⟨x,H,I1,ru,⟨rfl,fun ys hy=>by rw[I.list_inj hy g];exact r⟩,n,fun b f=>(j b f).1⟩⟩
 done:=by
  intro X hP hw hK hc i pins s σ H E I j st hg;subst hP hw hK;obtain⟨xs,g,r⟩:=hg;obtain⟨its,q,p,hz⟩:=I.list g;obtain⟨f0,f1,f2,f3,f4,f5⟩:=j it (by simp);have hl:=q.length;exact wpAny_pyNext_list_end (I.ok.hd hc) st p.isList (by simp;lia) fun h' eb=>⟨rfl,I.turned (t':=s.toks) (fun b o f e=>eb b o f e) f0 f1 f3 f4 f5⟩
 self:=fun _ _ _ _ _ st h=>wpAny_pyIter_listiter st h
theorem jB{P:J9}{w:Jd}{K:PySem.W.Frag}{tg:Jk}(it:Jg)(lo:Int)(n:Nat):EH P w K tg (Ec lo n) [it] it (fun i h=>IsRangeIter h it (lo+ (i:Nat)*1) ((n:Int) - (i:Nat)) 1) where
 mem:=by simp
 obj:=fun i h st b a=>by
  have e:b=it:=by simpa using a
  subst e;exact ⟨_, st, fun v z => by
   have z' : Data.fields _ = Data.cell v := z;cases z'⟩
 keep:=fun i h h' st k=>k it (by simp) _ st
 item:=by
  intro X q g r p i pins s σ H E I c st j;subst q g r;obtain⟨f0,f1,f2,f3,f4,f5⟩:=c it (by simp);have W:=Walks.range (prog:=X.prog) (w:=X.w) (I.ok.hd p) it lo 1 n;refine W.item i s _ _ j st fun v h' tk hv f kk=>?_
  obtain⟨t,rfl⟩:=hv;have I1:Jq X pins σ H {s with heap:=h',toks:=tk}:=I.turned (fun b o a e=>kk b o (by simpa using a) e) f0 f1 f3 f4 f5;refine⟨_,rfl,Ca (s:={s with heap:=h',toks:=tk}) (n:="range_iterator") f rfl rfl (by decide) ⟨.int (lo+ i),H,I1,⟨t,?_⟩,⟨rfl,rfl⟩,f,fun b a=>(c b a).1⟩⟩;rw[Int.mul_one]
 done:=by
  intro X q g r p i pins s σ H E I c st j;subst q g r;obtain⟨f0,f1,f2,f3,f4,f5⟩:=c it (by simp);exact wpAny_pyNext_range_end (I.ok.hd p) st (by have:n <=i:=j;lia) fun h' eb=>⟨rfl,I.turned (t':=s.toks) (fun b o a e=>eb b o a e) f0 f1 f3 f4 f5⟩
 self:=fun _ _ _ _ _ st h=>wpAny_pyIter_rangeiter st h
section
variable{X:Cx}{tg:Jk}
def Bo(K:Je)(tl:TE):TI:=fun σ H R=>tl σ H fun x H1=>∃a,x= .ref a/\(∃xs,JA K H1 a xs)/\R (E7 K a) H1
theorem xE{l:Jk}{tl:TE}(hl:PE X l tl):PI X tg l (Bo X.K tl):=by
 intro pins s σ H R I h;refine JO (hl pins s σ H _ I h) fun v s1 ⟨x,H1,c,f,g⟩=>?_
 obtain⟨a,e,⟨xs,i⟩,q⟩:=g;subst e;cases f;obtain⟨n,r,p,w⟩:=c.list i;refine XI p.isList ?_;refine⟨s1.heap.objs.size,[s1.heap.objs.size],_,_,H1,rfl,c.kept (t':=s1.toks) fun b o e=>Y8 _ e,xQ a _,⟨_,Ye _ rfl,rfl,rfl⟩,fun b j=>?_,q⟩;have e:b=s1.heap.objs.size:=by simpa using j
 subst e;exact c.fpOk (Y9 _) (c.hok.fresh (Y9 _))
theorem cR{pins:J8}{σ:St}{H:Hp}{s:Ja}{R:It->Hp->Prop}{E:J6}{lo hi:Int}{t u v:Tok}{tk:Nat}(I:Jq X pins σ H s)(h1: -(2 ^ 62) <=lo)(h2:lo < 2 ^ 62)(h3: -(2 ^ 62) <=hi)(h4:hi < 2 ^ 62)
  (q:R (Ec lo (hi - lo).toNat) H):wpAny (model X.prog X.w) X.A (pyIter (.ref s.heap.objs.size)) (Sg X pins σ tg R) E {s with heap:=s.heap.push {cls:=.type "range",data:=.fields #[.int lo t,.int hi u,.int 1 v]},toks:=tk}:=by
 refine wpAny_pyIter_range (IsRange.new ..) (small_one h1 h2 h3 h4) ?_;have a:Jq X pins σ H {s with heap:=s.heap.push {cls:=.type "range",data:=.fields #[.int lo t,.int hi u,.int 1 v]},toks:=tk}:=I.kept fun b o e=>Y8 _ e
 refine ⟨(s.heap.push { cls := .type "range", data := .fields #[.int lo t, .int hi u, .int 1 v] }).objs.size, [(s.heap.push { cls := .type "range", data := .fields #[.int lo t, .int hi u, .int 1 v] }).objs.size], _, _, H, rfl,
  a.kept (t' := tk) fun b o e => Y8 _ e, jB _ lo (hi - lo).toNat, ?_, fun b c => ?_, q⟩
 .have g:lo+ ((0:Nat):Int)*1=lo:=by simp
  have f:(((hi - lo).toNat:Nat):Int) - ((0:Nat):Int)=Builtin.Range.rangeSize lo hi 1:=by rw[rangeSize_one];split <;> lia
  show IsRangeIter _ _ (lo+ ((0:Nat):Int)*1) ((((hi - lo).toNat:Nat):Int) - ((0:Nat):Int)) 1;rw[g,f];exact Ye _ rfl
 .have e:b=(s.heap.push {cls:=.type "range",data:=.fields #[.int lo t,.int hi u,.int 1 v]}).objs.size:=by simpa using c
  subst e;exact a.fpOk (Y9 _) (a.hok.fresh (Y9 _))
def Af(ta:TA):TI:=fun σ H R=>ta σ H fun vs H1=>∃j:Int,vs=[.int j]/\ -(2 ^ 62) <=j/\j < 2 ^ 62/\R (Ec 0 j.toNat) H1
theorem jN{a:Jk}{ta:TA}{p pos:Pos}(hg:Gl X "range")(hm:X.mg "range"=none)(ha:PA X [a] ta)(hs:starEach [a] X.env=[(false,eval a X.env)]:=by rfl):PI X tg (.Call (.Name "range" p) [a] [] pos) (Af ta):=by
 intro pins s σ H R I h;refine Call_ (ER I hg hm boot_range (US (JO (ha pos pins s σ H _ I h) fun i s1 ⟨vs,H1,g,c,b⟩=>?_) hs rfl));obtain⟨j,e,b,f,q⟩:=b;subst e;cases c with
 |cons r rr=>
  cases rr;obtain⟨t,rfl⟩:=r;exact call_range_1 (cR g (by lia) (by lia) b f (by simpa using q))
def OY(wi:TI)(g:TG)(tb:TS):TS:=fun D σ H=>wi σ H fun J H1=>∃W:Nat->Nat->St->Hp->Prop,(∃m,W 0 m σ H1)/\∀i m σ H,W i m σ H->
 (J.stop i H/\D.nx σ H)\/(J.go i H/\∃N:St->Hp->Prop,(∀σ' H',N σ' H'->∃m',m' < m/\W (i+ 1) m' σ' H')/\∀x H',J.yld i H x H'->g x σ H' fun σ2 H2=>tb {D with nx:=N,ct:=N,bk:=D.nx} σ2 H2)
def Ch(fp:List Addr)(h:Jj):List (Addr×Obj):=fp.filterMap fun b=>(h.get? b).map fun o=>(b,o)
theorem Ft{fp:List Addr}{h:Jj}{b:Jg}{o:Obj}(hb:b∈fp)(e:h.get? b=some o):(b,o)∈Ch fp h:=List.mem_filterMap.mpr ⟨b,hb,by rw[e];rfl⟩
theorem aP{fp:List Addr}{h:Jj}{p:Addr×Obj}(hp:p∈Ch fp h):p.1∈fp/\h.get? p.1=some p.2:=by
 obtain⟨b,a,e⟩:=List.mem_filterMap.mp hp;cases q:h.get? b with
 |none=>rw[q]at e;cases e
 |some o=>
  rw[q]at e;have c:(b,o)=p:=Option.some.inj e;subst c;exact⟨a,q⟩
theorem Jq.pinned{pins:J8}{σ:St}{H:Hp}{s:Ja}{fp:List Addr}(I:Jq X pins σ H s)(hf:∀b∈fp,D6 X pins H b)(ho:∀b∈fp,∃o,s.heap.get? b=some o/\∀v,o.data≠ .cell v):Jq X (pins++Ch fp s.heap) σ H s:=
 I.pins_of fun p f=>(Yq.mp f).elim (fun z=>I.pin p (YA _ z)) fun z=>by
  obtain⟨a,e⟩:=aP z;obtain⟨i,h,g,_⟩:=hf p.1 a;obtain⟨o,c,d⟩:=ho p.1 a;rw[e]at c;cases c;exact⟨e,i,h,g,d⟩
theorem Jq.unpinned{pins pl:J8}{σ:St}{H:Hp}{s:Ja}(I:Jq X (pins++pl) σ H s):Jq X pins σ H s:=I.pins_of fun p a=>I.pin p (YA _ (Xf _ a))
theorem Ed{iter:Jk}{body:List Stmt}{wi:TI}{g:TG}{tb:TS}{pos:Pos}(hp:PassesOwn (model X.prog X.w) X.A X.env X.xe)(hc:X.calm=true)(hi:PI X tg iter wi)(hg:PG X tg g)(hb:Dl X body tb)
  (hs:∀x,foldedSetIterable iter X.env x=pure x:=by intro _;rfl):PS X (.For tg iter body [] pos) (OY wi g tb):=by
 intro pins s σ H D I h;refine wpAny_For (JO (hi pins s σ H _ I h) fun v s1 h1=>JO h1 fun itv s2 h2=>?_) hs;obtain⟨it,fp,tn,J,H2,e,I2,T,st2,f2,W,⟨m0,w0⟩,turn⟩:=h2;subst e
 -- what stays true of the iterator's objects through the loop
 have p:∀{H':Hp},(∀b∈fp,H' b=none)->∀b∈fp,D6 X pins H' b:=fun hn b hb=>⟨hn b hb,(f2 b hb).2⟩
 refine codeAny_forLoop_any (fun n s'=>∃i σ' H',Jq X pins σ' H' s'/\tn i s'.heap/\(∀b∈fp,H' b=none)/\W i n σ' H') ?_ m0 ⟨0,σ,H2,I2,st2,fun b hb=>(f2 b hb).1,w0⟩;rintro n s3 ⟨i,σ3,H3,I3,st3,fr3,w3⟩;rcases turn i n σ3 H3 w3 with⟨stop,qn⟩|⟨go,N,hN,step⟩
 .refine Uc hp (JO (T.done X rfl rfl rfl hc i pins s3 σ3 H3 X.xe I3 (p fr3) st3 stop) fun r s4 ⟨hr,I4⟩=>?_);subst hr;exact Vu ⟨σ3,H3,I4,qn⟩
 .refine Uc hp (JO (T.item X rfl rfl rfl hc i pins s3 σ3 H3 X.xe I3 (p fr3) st3 go) fun r s4 ⟨u,hr,h4⟩=>?_);subst hr;refine Uc hp (JO h4 fun _ s5 zz=>?_);rcases zz with⟨x,H5,I5,r5,y5,z,fr5⟩;have I5':=I5.pinned (p fr5) (T.obj _ _ z);refine Uc hp (JO (hg _ s5 σ3 H5 x u _ I5' r5 (step x H5 y5)) fun _ s6 ⟨σ6,H6,I6,q6⟩=>?_);refine Uc hp (JO (hb _ s6 σ6 H6 _ I6 q6) fun f s7 j=>?_);have q:∀{σ7:St} {c:Hp},Jq X (pins++Ch fp s5.heap) σ7 c s7->N σ7 c->∃m,m < n/\∃i σ' H',Jq X pins σ' H' s7/\tn i s7.heap/\(∀b∈fp,H' b=none)/\W i m σ' H':=fun {σ7 c} a n7=>by
   obtain⟨m',hm,w7⟩:=hN σ7 c n7;refine⟨m',hm,i+ 1,σ7,c,a.unpinned,T.keep _ _ _ z fun b hb o e=>(a.pin (b,o) (YA _ (YA _ (Ft hb e)))).1,fun b hb=>?_,w7⟩;obtain⟨o,e,d⟩:=T.obj _ _ z b hb;exact(a.pin (b,o) (YA _ (YA _ (Ft hb e)))).2.1
  cases f with
  |next=>obtain⟨σ7,c,a,n7⟩:=j;exact q a n7
  |cont=>obtain⟨σ7,c,a,n7⟩:=j;exact q a n7
  |brk=>obtain⟨σ7,c,a,j⟩:=j;exact⟨σ7,c,a.unpinned,j⟩
  |ret v=>obtain⟨x7,σ7,c,a,r7,j⟩:=j;exact⟨x7,σ7,c,a.unpinned,r7,j⟩
end
theorem wQ{K:PySem.W.Frag}{a:Jg}{xs:List V}{g:TG}{tb:TS}{D:Mh}{σ:St}{H:Hp}(Pv:Nat->St->Hp->Prop)(h0:Pv 0 σ H)(hl:∀i σ H,i <=xs.length->Pv i σ H->JA K H a xs)
  (hs:∀i x σ H,xs[i]?=some x->Pv i σ H->g x σ H fun σ2 H2=>tb {D with nx:=Pv (i+ 1),ct:=Pv (i+ 1),bk:=D.nx} σ2 H2) (hd:∀σ H,Pv xs.length σ H->D.nx σ H):
  ∃W:Nat->Nat->St->Hp->Prop,(∃m,W 0 m σ H)/\∀i m σ H,W i m σ H->
   ((E7 K a).stop i H/\D.nx σ H)\/((E7 K a).go i H/\∃N:St->Hp->Prop,(∀σ' H',N σ' H'->∃m',m' < m/\W (i+ 1) m' σ' H')/\∀x H',(E7 K a).yld i H x H'->g x σ H' fun σ2 H2=>tb {D with nx:=N,ct:=N,bk:=D.nx} σ2 H2):=by
 refine⟨fun i m σ H=>m=xs.length - i/\i <=xs.length/\Pv i σ H,⟨xs.length,by simp,Yx _,h0⟩,?_⟩;rintro i m σ H ⟨rfl,hi,p⟩;have q:=hl i σ H hi p
 by_cases hlt:i < xs.length
 .refine .inr ⟨⟨xs,xs[i],q,by simp[hlt]⟩,Pv (i+ 1),fun σ' H' b=>⟨xs.length - (i+ 1),by lia,rfl,hlt,b⟩,fun x H' y=>?_⟩;obtain⟨e,y⟩:=y;subst e;exact hs i x σ _ (y xs q) p
 .have e:i=xs.length:=by lia
  subst e;exact .inl ⟨⟨xs,q,Y9 _⟩,hd σ H p⟩
theorem xI{lo:Int}{n:Nat}{g:TG}{tb:TS}{D:Mh}{σ:St}{H:Hp}(Pv:Nat->St->Hp->Prop)(h0:Pv 0 σ H)
  (hs:∀i σ H,i < n->Pv i σ H->g (.int (lo+ i)) σ H fun σ2 H2=>tb {D with nx:=Pv (i+ 1),ct:=Pv (i+ 1),bk:=D.nx} σ2 H2) (hd:∀σ H,Pv n σ H->D.nx σ H):
  ∃W:Nat->Nat->St->Hp->Prop,(∃m,W 0 m σ H)/\∀i m σ H,W i m σ H->
   ((Ec lo n).stop i H/\D.nx σ H)\/((Ec lo n).go i H/\∃N:St->Hp->Prop,(∀σ' H',N σ' H'->∃m',m' < m/\W (i+ 1) m' σ' H')/\∀x H',(Ec lo n).yld i H x H'->g x σ H' fun σ2 H2=>tb {D with nx:=N,ct:=N,bk:=D.nx} σ2 H2):=by
 refine⟨fun i m σ H=>m=n - i/\i <=n/\Pv i σ H,⟨n,by simp,Yx _,h0⟩,?_⟩;rintro i m σ H ⟨rfl,hi,p⟩
 by_cases hlt:i < n
 .refine .inr ⟨hlt,Pv (i+ 1),fun σ' H' a=>⟨n - (i+ 1),by lia,rfl,hlt,a⟩,fun x H' y=>?_⟩;obtain⟨e,y⟩:=y;subst e y;exact hs i σ _ hlt p
 .have e:i=n:=by lia
  subst e;exact .inl ⟨Y9 _,hd σ H p⟩
abbrev R2:=V->V->Hp->VK->Prop
def Nz(X:Cx)(f:Value->Value->Sem Value)(r:R2):Prop:=
 ∀ (pins:J8) (s:Ja) (σ:St) (H:Hp) (x y:V) (v u:Jf) (Q:VK),Jq X pins σ H s->Jz x v->Jz y u->r x y H Q->
  wpAny (model X.prog X.w) X.A (f v u) (EP X pins σ Q) X.xe s
def Ip(X:Cx)(f:Value->Sem Value)(r:V->Hp->VK->Prop):Prop:=
 ∀ (pins:J8) (s:Ja) (σ:St) (H:Hp) (x:V) (v:Jf) (Q:VK),Jq X pins σ H s->Jz x v->r x H Q->
  wpAny (model X.prog X.w) X.A (f v) (EP X pins σ Q) X.xe s
def JN(X:Cx)(f:Jf)(r:List V->Hp->VK->Prop):Prop:=
 ∀ (pins:J8) (s:Ja) (σ:St) (H:Hp) (xs:List V) (us:Ji) (Q:VK),Jq X pins σ H s->JB xs us->r xs H Q->
  wpAny (model X.prog X.w) X.A (call f us) (EP X pins σ Q) X.xe s
def Rs(r:R2)(ta tb:TE):TE:=fun σ H Q=>ta σ H fun x H1=>tb σ H1 fun y H2=>r x y H2 Q
def L6(r:V->Hp->VK->Prop)(ta:TE):TE:=fun σ H Q=>ta σ H fun x H1=>r x H1 Q
def rI(C:Int->Int->Prop)(g:Int->Int->V):R2:=fun x y H Q=>∃i j,x= .int i/\y= .int j/\C i j/\Q (g i j) H
def RN(g:Int->Int->V):R2:=fun x y H Q=>∃i j,x= .int i/\y= .int j/\Q (g i j) H
def rU(g:Int->V):V->Hp->VK->Prop:=fun x H Q=>∃i,x= .int i/\Q (g i) H
section
variable{X:Cx}{a b c:Jk}{ta tb tc:TE}{pos:Pos}
theorem IC(ha:PE X a ta)(hb:PE X b tb){pins:J8}{s:Ja}{σ:St}{H:Hp}{R:V->V->Hp->Prop}(I:Jq X pins σ H s)
  (h:ta σ H fun x H1=>tb σ H1 fun y H2=>R x y H2) {Q:J6} {f:Value->Value->Sem Value}
  (hf:∀v u s2 x y H2,Jq X pins σ H2 s2->Jz x v->Jz y u->R x y H2->wpAny (model X.prog X.w) X.A (f v u) Q X.xe s2):
  wpAny (model X.prog X.w) X.A (eval a X.env) (fun v s₁=>wpAny (model X.prog X.w) X.A (eval b X.env) (fun u s₂=>wpAny (model X.prog X.w) X.A (f v u) Q X.xe s₂) X.xe s₁) X.xe s:=by
 refine JO (ha pins s σ H _ I h) fun v s1 ⟨x,H1,n,e,i⟩=>?_
 refine JO (hb pins s1 σ H1 _ n i) fun u s2 ⟨y,H2,j,c,g⟩=>?_
 exact hf v u s2 x y H2 j e c g
theorem Na{op:Operator}{r:R2}(ho:Nz X (binaryOp op) r)(ha:PE X a ta)(hb:PE X b tb):PE X (.BinOp a op b pos) (Rs r ta tb):=by
 intro pins s σ H Q I h;exact wpAny_BinOp (IC ha hb I h fun v u s2 x y H2 c rx ry q=>ho pins s2 σ H2 x y v u Q c rx ry q)
theorem g0{op:UnaryOp}{r:V->Hp->VK->Prop}(ho:Ip X (unaryOp op) r)(ha:PE X a ta):PE X (.UnaryOp op a pos) (L6 r ta):=by
 intro pins s σ H Q I h;exact UnaryOp_ (JO (ha pins s σ H _ I h) fun v s1 ⟨x,H1,e,b,c⟩=>ho pins s1 σ H1 x v Q e b c)
theorem Au{f:Value->Value->Sem Value}{C:Int->Int->Prop}{g:Int->Int->Int}
  (rule:∀ (i j:Int) (t u:Tok) (s:Ja) (Q:J6) (E:J6),C i j->Q (.int (g i j) s.toks) {s with toks:=s.toks+ 1}->wpAny (model X.prog X.w) X.A (f (.int i t) (.int j u)) Q E s):
  Nz X f (rI C fun i j=>.int (g i j)):=by
 intro pins s σ H x y v u Q I rx ry h;obtain⟨i,j,rfl,rfl,b,q⟩:=h;obtain⟨t,rfl⟩:=rx;obtain⟨a,rfl⟩:=ry;exact rule i j t a s _ _ b ⟨.int (g i j),H,I.tok _,⟨_,rfl⟩,q⟩
theorem QD{f:Value->Value->Sem Value}{g:Int->Int->Int}
  (rule:∀ (i j:Int) (t u:Tok) (s:Ja) (Q:J6) (E:J6),Q (.int (g i j) s.toks) {s with toks:=s.toks+ 1}->wpAny (model X.prog X.w) X.A (f (.int i t) (.int j u)) Q E s):
  Nz X f (RN fun i j=>.int (g i j)):=by
 intro pins s σ H x y v u Q I rx ry h;obtain⟨i,j,rfl,rfl,q⟩:=h;obtain⟨t,rfl⟩:=rx;obtain⟨a,rfl⟩:=ry;exact rule i j t a s _ _ ⟨.int (g i j),H,I.tok _,⟨_,rfl⟩,q⟩
theorem CD{f:Value->Value->Sem Value}{g:Int->Int->Bool}
  (rule:∀ (i j:Int) (t u:Tok) (s:Ja) (Q:J6) (E:J6),Q (.bool (g i j)) s->wpAny (model X.prog X.w) X.A (f (.int i t) (.int j u)) Q E s):
  Nz X f (RN fun i j=>.bl (g i j)):=by
 intro pins s σ H x y v u Q I rx ry h;obtain⟨i,j,rfl,rfl,q⟩:=h;obtain⟨t,rfl⟩:=rx;obtain⟨a,rfl⟩:=ry;exact rule i j t a s _ _ ⟨.bl (g i j),H,I,rfl,q⟩
def wO(i j:Int):Prop:=0 < j/\j < 1073741824
def vT(i j:Int):Prop:=0 <=j/\j <=1000000/\i.natAbs < 2 ^ 64
def RI(i j:Int):Prop:=(-(2 ^ 64) < i/\i < 2 ^ 64)\/(-(2 ^ 64) < j/\j < 2 ^ 64)
theorem RI.ok{i j:Int}(h:RI i j):IntMulOk i j:=by
 rcases h with⟨h1,h2⟩|⟨h1,h2⟩
 .exact .of_left (intBits_le_64 h1 h2)
 .exact .of_right (intBits_le_64 h1 h2)
theorem Mo:Nz X (binaryOp .Add) (RN fun i j=>.int (i+ j)):=QD fun _ _ _ _ _ _ _ q=>add_int q
theorem PU:Nz X (binaryOp .Sub) (RN fun i j=>.int (i - j)):=QD fun _ _ _ _ _ _ _ q=>sub_int q
theorem EY:Nz X (binaryOp .Mult) (rI RI fun i j=>.int (i*j)):=Au fun _ _ _ _ _ _ _ a q=>mul_int q a.ok
theorem BX:Nz X (binaryOp .FloorDiv) (rI wO fun i j=>.int (i / j)):=Au fun i j _ _ _ _ _ a q=>by
 have h1:(0:Int) < j:=a.1;have h2:j < 1073741824:=a.2;exact floordiv_int (by lia) (by rw[VZ i (by lia)];exact q) (.inl (PyProof.noPylong_small (by lia)))
theorem Dd:Nz X (binaryOp .Mod) (rI (fun _ j=>0 < j) fun i j=>.int (i%j)):=Au fun i j _ _ _ _ _ a q=>by
 have h1:(0:Int) < j:=a;exact mod_int' (by lia) (by rw[Int.fmod_eq_emod_of_nonneg i (by lia)];exact q)
theorem OE:Nz X (binaryOp .Pow) (rI vT fun i j=>.int (i ^ j.toNat)):=Au fun _ _ _ _ _ _ _ a q=>pow_int_small a.1 a.2.1 a.2.2 q
theorem rF{f:Value->Sem Value}{g:Int->Int}
  (rule:∀ (i:Int) (t:Tok) (s:Ja) (Q:J6) (E:J6),Q (.int (g i) s.toks) {s with toks:=s.toks+ 1}->wpAny (model X.prog X.w) X.A (f (.int i t)) Q E s):
  Ip X f (rU fun i=>.int (g i)):=by
 intro pins s σ H x v Q I rx h;obtain⟨i,rfl,q⟩:=h;obtain⟨t,rfl⟩:=rx;exact rule i t s _ _ ⟨.int (g i),H,I.tok _,⟨_,rfl⟩,q⟩
theorem cL:Ip X (unaryOp .USub) (rU fun i=>.int (-i)):=rF fun _ _ _ _ _ q=>neg_int q
end
def DJ:V->V->Bool
 | .non,.non=>true| .non,.int _=>true| .int _,.non=>true| .non,.bl _=>true| .bl _,.non=>true| .non,.str _=>true| .str _,.non=>true
 | .int _,.int _=>true| .bl _,.bl _=>true| .str _,.str _=>true| .byt _,.byt _=>true
 | .int _,.str _=>true| .str _,.int _=>true| .bl _,.str _=>true| .str _,.bl _=>true
 |_,_=>false
def F4:R2:=fun x y H Q=>DJ x y=true/\Q (.bl (decide (x=y))) H
def FG:R2:=fun x y H Q=>DJ x y=true/\Q (.bl (!decide (x=y))) H
theorem OT{i j:Int}:decide (V.int i=V.int j)=(i==j):=by
 rw[YF];simp
theorem Zs{i j:Bool}:decide (V.bl i=V.bl j)=(i==j):=by
 rw[YF];simp
theorem Zd{i j:Str}:decide (V.str i=V.str j)=(i==j):=by
 rw[YF];simp
theorem SW{i j:Array UInt8}:decide (V.byt i=V.byt j)=(i.toList==j.toList):=by
 rw[YF];cases i;cases j;simp
section
variable{X:Cx}{a b c:Jk}{ta tb tc:TE}{pos:Pos}
theorem TJ{pins:J8}{σ:St}{H:Hp}{s:Ja}{Q:VK}{k k':Bool}(I:Jq X pins σ H s)(q:Q (.bl k) H)(e:k=k'):EP X pins σ Q (.bool k') s:=by
 subst e;exact⟨.bl k,H,I,rfl,q⟩
theorem GG:Nz X (compareOp .Eq) F4:=by
 intro pins s σ H x y v u Q I rx ry h;obtain⟨hs,q⟩:=h;cases x with
 |non=>
  cases rx;cases y with
  |non=>cases ry;exact PySem.EqNone.eq_none_none (TJ I q (by simp))
  |bl j=>cases ry;exact PySem.EqNone.eq_none_bool (TJ I q (by simp))
  |int j=>obtain⟨a,rfl⟩:=ry;exact PySem.EqNone.eq_none_int (TJ I q (by simp))
  |str j=>obtain⟨a,rfl⟩:=ry;exact PySem.EqNone.eq_none_str (TJ I q (by simp))
  |_=>exact absurd (show false=true from hs) Yg
 |bl i=>
  cases rx;cases y with
  |non=>cases ry;exact PySem.EqNone.eq_bool_none (TJ I q (by simp))
  |bl j=>cases ry;exact eq_bool (TJ I q Zs)
  |str j=>obtain⟨a,rfl⟩:=ry;exact PySem.EqMixed.eq_bool_str (TJ I q (by simp))
  |_=>exact absurd (show false=true from hs) Yg
 |int i=>
  obtain⟨t,rfl⟩:=rx;cases y with
  |non=>cases ry;exact PySem.EqNone.eq_int_none (TJ I q (by simp))
  |int j=>obtain⟨a,rfl⟩:=ry;exact eq_int (TJ I q OT)
  |str j=>obtain⟨a,rfl⟩:=ry;exact PySem.EqMixed.eq_int_str (TJ I q (by simp))
  |_=>exact absurd (show false=true from hs) Yg
 |str i=>
  obtain⟨t,rfl⟩:=rx;cases y with
  |non=>cases ry;exact PySem.EqNone.eq_str_none (TJ I q (by simp))
  |bl j=>cases ry;exact PySem.EqMixed.eq_str_bool (TJ I q (by simp))
  |int j=>obtain⟨a,rfl⟩:=ry;exact PySem.EqMixed.eq_str_int (TJ I q (by simp))
  |str j=>obtain⟨a,rfl⟩:=ry;exact eq_str (TJ I q Zd)
  |_=>exact absurd (show false=true from hs) Yg
 |byt i=>
  obtain⟨t,rfl⟩:=rx;cases y with
  |byt j=>obtain⟨a,rfl⟩:=ry;exact W.eq_bytes (TJ I q SW)
  |_=>exact absurd (show false=true from hs) Yg
 |_=>cases y <;> exact absurd (show false=true from hs) Yg
theorem Ar:Nz X (compareOp .NotEq) FG:=by
 intro pins s σ H x y v u Q I rx ry h;obtain⟨hs,q⟩:=h;cases x with
 |non=>
  cases rx;cases y with
  |non=>cases ry;exact PySem.EqNone.ne_none_none (TJ I q (by simp))
  |bl j=>cases ry;exact PySem.EqNone.ne_none_bool (TJ I q (by simp))
  |int j=>obtain⟨a,rfl⟩:=ry;exact PySem.EqNone.ne_none_int (TJ I q (by simp))
  |str j=>obtain⟨a,rfl⟩:=ry;exact PySem.EqNone.ne_none_str (TJ I q (by simp))
  |_=>exact absurd (show false=true from hs) Yg
 |bl i=>
  cases rx;cases y with
  |non=>cases ry;exact PySem.EqNone.ne_bool_none (TJ I q (by simp))
  |bl j=>cases ry;exact ne_bool (TJ I q (YR not Zs))
  |str j=>obtain⟨a,rfl⟩:=ry;exact PySem.EqMixed.ne_bool_str (TJ I q (by simp))
  |_=>exact absurd (show false=true from hs) Yg
 |int i=>
  obtain⟨t,rfl⟩:=rx;cases y with
  |non=>cases ry;exact PySem.EqNone.ne_int_none (TJ I q (by simp))
  |int j=>obtain⟨a,rfl⟩:=ry;exact ne_int (TJ I q (YR not OT))
  |str j=>obtain⟨a,rfl⟩:=ry;exact PySem.EqMixed.ne_int_str (TJ I q (by simp))
  |_=>exact absurd (show false=true from hs) Yg
 |str i=>
  obtain⟨t,rfl⟩:=rx;cases y with
  |non=>cases ry;exact PySem.EqNone.ne_str_none (TJ I q (by simp))
  |bl j=>cases ry;exact PySem.EqMixed.ne_str_bool (TJ I q (by simp))
  |int j=>obtain⟨a,rfl⟩:=ry;exact PySem.EqMixed.ne_str_int (TJ I q (by simp))
  |str j=>obtain⟨a,rfl⟩:=ry;exact ne_str (TJ I q (YR not Zd))
  |_=>exact absurd (show false=true from hs) Yg
 |byt i=>
  obtain⟨t,rfl⟩:=rx;cases y with
  |byt j=>obtain⟨a,rfl⟩:=ry;exact W.ne_bytes (TJ I q (YR not SW))
  |_=>exact absurd (show false=true from hs) Yg
 |_=>cases y <;> exact absurd (show false=true from hs) Yg
theorem C5:Nz X (compareOp .Lt) (RN fun i j=>.bl (decide (i < j))):=CD fun _ _ _ _ _ _ _ q=>lt_int q
theorem Eb:Nz X (compareOp .LtE) (RN fun i j=>.bl (decide (i <=j))):=CD fun _ _ _ _ _ _ _ q=>le_int q
theorem Bp:Nz X (compareOp .Gt) (RN fun i j=>.bl (decide (j < i))):=CD fun _ _ _ _ _ _ _ q=>gt_int q
theorem Hb:Nz X (compareOp .GtE) (RN fun i j=>.bl (decide (j <=i))):=CD fun _ _ _ _ _ _ _ q=>ge_int q
theorem IQ:Nz X (compareOp .Is) (fun x y H Q=>y= .non/\Q (.bl (decide (x= .non))) H):=by
 intro pins s σ H x y v u Q I rx ry h;obtain⟨rfl,q⟩:=h;cases ry;refine is_none_gen (TJ I q ?_);cases x <;> first
  |(cases rx;rfl)
  |(obtain⟨t,rfl⟩:=rx;rfl)
theorem AJ:Nz X (compareOp .IsNot) (fun x y H Q=>y= .non/\Q (.bl (!decide (x= .non))) H):=by
 intro pins s σ H x y v u Q I rx ry h;obtain⟨rfl,q⟩:=h;cases ry;refine isnot_none_gen (TJ I q ?_);cases x <;> first
  |(cases rx;rfl)
  |(obtain⟨t,rfl⟩:=rx;rfl)
theorem Dx(b:Jk){op:CmpOp}(h:op≠ .In:=by decide)(h2:op≠ .NotIn:=by decide):behindInMarks op b=false:=by
 have c:(op==CmpOp.In)=false:=by cases op <;> first|rfl|exact absurd rfl h
 have a:(op==CmpOp.NotIn)=false:=by cases op <;> first|rfl|exact absurd rfl h2
 cases b <;> simp[behindInMarks,c,a]
theorem D7{op:CmpOp}{r:R2}(ho:Nz X (compareOp op) r)(ha:PE X a ta)(hb:PE X b tb)(hm:behindInMarks op b=false):PE X (.Compare a [op] [b] pos) (Rs r ta tb):=by
 intro pins s σ H Q I h;exact wpAny_Compare1 (IC ha hb I h fun v u s2 x y H2 c rx ry q=>ho pins s2 σ H2 x y v u Q c rx ry q) hm
def Cg(t:TE):TT:=fun σ H Q=>t σ H fun x H'=>∃k,x= .bl k/\Q k H'
theorem aN{op:CmpOp}{r:R2}(ho:Nz X (compareOp op) r)(ha:PE X a ta)(hb:PE X b tb)(hm:behindInMarks op b=false):PT X (.Compare a [op] [b] pos) (Cg (Rs r ta tb)):=by
 intro pins s σ H Q I h;refine wpAny_isTrue_Compare1 (JO (ha pins s σ H _ I h) fun v s1 ⟨x, H1, w, i, o⟩ => JO (hb pins s1 σ H1 _ w o) fun u s2 ⟨y, H2, q, g, n⟩ =>
  JO (ho pins s2 σ H2 x y v u _ q i g n) fun c s3 ⟨z, H3, p, f, k, e, j⟩ => ?_) hm
 subst e;cases f;exact Xm ⟨H3,p,j⟩
def Fn(r r':R2)(ta tb tc:TE):TE:=fun σ H Q=>ta σ H fun x H1=>tb σ H1 fun y H2=>r x y H2 fun z H3=>∃k,z= .bl k/\
 (if k=true then tc σ H3 fun w' H4=>r' y w' H4 Q else Q (.bl false) H3)
theorem OJ{op op':CmpOp}{r r':R2}(ho:Nz X (compareOp op) r)(ho':Nz X (compareOp op') r')(ha:PE X a ta)(hb:PE X b tb)(hc:PE X c tc)
  (hm:lastMarks [op,op'] [b,c]=false:=by with_unfolding_all rfl):PE X (.Compare a [op,op'] [b,c] pos) (Fn r r' ta tb tc):=by
 intro pins s σ H Q I h;refine Compare_chain (JO (ha pins s σ H _ I h) fun v s1 ⟨x, H1, I1, r1, q1⟩ => chain_link (JO (hb pins s1 σ H1 _ I1 q1) fun u s2 ⟨y, H2, I2, f, q2⟩ =>
  JO (ho pins s2 σ H2 x y v u _ I2 r1 f q2) fun d q ⟨z, j, i, r3, k, e, g⟩ => ?_)) hm
 subst e;cases r3;refine Xm ?_;cases k with
 |false=>exact ite_ff ⟨.bl false,j,i,rfl,g⟩
 |true=>exact ite_tt (chain_last (JO (hc pins q σ j _ i g) fun o p ⟨n,H4,I4,w,q4⟩=>ho' pins p σ H4 y n u o Q I4 f w q4))
theorem QI{op op':CmpOp}{r r':R2}(ho:Nz X (compareOp op) r)(ho':Nz X (compareOp op') r')(ha:PE X a ta)(hb:PE X b tb)(hc:PE X c tc)
  (hm:lastMarks [op,op'] [b,c]=false:=by with_unfolding_all rfl):PT X (.Compare a [op,op'] [b,c] pos) (Cg (Fn r r' ta tb tc)):=by
 intro pins s σ H Q I h;refine isTrue_chain (JO (ha pins s σ H _ I h) fun v s1 ⟨x, H1, I1, r1, q1⟩ => test_link (JO (hb pins s1 σ H1 _ I1 q1) fun u s2 ⟨y, H2, I2, f, q2⟩ =>
  JO (ho pins s2 σ H2 x y v u _ I2 r1 f q2) fun d q ⟨z, j, i, r3, k, e, g⟩ => ?_)) hm
 subst e;cases r3;refine Xm ?_;cases k with
 |false=>
  obtain⟨k',e',q'⟩:=g;cases e';exact ite_ff ⟨j,i,q'⟩
 |true=>
  refine ite_tt (test_last (JO (hc pins q σ j _ i g) fun o p ⟨n,H4,I4,r4,q4⟩=>JO (ho' pins p σ H4 y n u o _ I4 f r4 q4) fun d' s5 zz=>?_));rcases zz with⟨z2,H5,I5,w,k2,e2,q5⟩;subst e2;cases w;exact Xm ⟨H5,I5,q5⟩
theorem Fu:(sizeLine:Nat) < 2 ^ 63:=by rw[YG];decide
theorem nE:Nz X (binaryOp .Add) (fun x y H Q=>∃i j,x= .str i/\y= .str j/\i.length+ j.length <=sizeLine/\Q (.str (i++j)) H):=by
 intro pins s σ H x y v u Q I rx ry h;obtain⟨i,j,rfl,rfl,b,q⟩:=h;obtain⟨t,rfl⟩:=rx;obtain⟨a,rfl⟩:=ry;exact add_str (fun a tk=>⟨.str (i++j),H,I.tok _,⟨_,rfl⟩,q⟩) b
theorem Rn{x:V}{us:Ji}(r:JB [x] us):∃u,us=[u]/\Jz x u:=by
 cases r with
 |cons r1 r2=>cases r2;exact⟨_,rfl,r1⟩
theorem ID{x y:V}{us:Ji}(r:JB [x,y] us):∃u w',us=[u,w']/\Jz x u/\Jz y w':=by
 cases r with
 |cons r1 r2=>
  cases r2 with
  |cons r3 r4=>cases r4;exact⟨_,_,rfl,r1,r3⟩
theorem LB(hc:X.calm=true):JN X (.builtin "max") (fun xs H Q=>∃i j,xs=[.int i,.int j]/\Q (.int (if j > i then j else i)) H):=by
 intro pins s σ H xs b Q I r h;obtain⟨i,j,rfl,q⟩:=h;obtain⟨u,a,rfl,⟨t,rfl⟩,⟨c,rfl⟩⟩:=ID r;refine max_two_ints (I.ok.hd hc) fun h' tk k=>⟨_,H,I.kept k,?_,q⟩
 by_cases hj:j > i
 .rw[Y3 hj,Y3 hj];exact⟨_,rfl⟩
 .rw[Y2 hj,Y2 hj];exact⟨_,rfl⟩
theorem bV(hc:X.calm=true):JN X (.builtin "min") (fun xs H Q=>∃i j,xs=[.int i,.int j]/\Q (.int (if j < i then j else i)) H):=by
 intro pins s σ H xs b Q I r h;obtain⟨i,j,rfl,q⟩:=h;obtain⟨u,a,rfl,⟨t,rfl⟩,⟨c,rfl⟩⟩:=ID r;refine min_two_ints (I.ok.hd hc) fun h' tk k=>⟨_,H,I.kept k,?_,q⟩
 by_cases hj:j < i
 .rw[Y3 hj,Y3 hj];exact⟨_,rfl⟩
 .rw[Y2 hj,Y2 hj];exact⟨_,rfl⟩
end
structure Gn(h:Jj)(x dx C:Jg)(mA:J5):Prop where
 obj:h.get? x=some (W.instObj C dx)
 ns:h.Ns1 dx mA
 ne:dx≠x
theorem dX{h:Jj}{dx:Jg}{mA:J5}(n:h.Ns1 dx mA):∃od,h.get? dx=some od/\∀name,W.lookIn name od=some (mA name):=by
 obtain⟨o,es,ep,f,j,i,_,g⟩:=n;refine⟨o,f,fun name=>?_⟩;have e:=g name;unfold nsFind findBy at e;rw[<-Array.find?_toList]at e;unfold W.lookIn;rw[j];dsimp only
 split
 .rename_i y q
  rw[q]at e;exact YR some e
 .rename_i q
  rw[q]at e;have a:es.toList.any (·.refKey)=false:=by
   rw[List.any_eq_false];intro y c;obtain⟨z,t,b⟩:=i y (Array.mem_toList_iff.mp c);simp[DictEntry.refKey,b]
  have p:¬es.toList.any (·.refKey)=true:=by rw[a];exact Yg
  rw[Y2 p];exact YR some e
theorem Gn.look{h:Jj}{x dx C:Jg}{mA:J5}(I:Gn h x dx C mA):∃od,W.InstAt h x (W.instObj C dx) C (some od)/\∀name,W.lookIn name od=some (mA name):=
 let ⟨od,ho,hl⟩:=dX I.ns
 ⟨od,⟨I.obj,rfl,rfl,ho⟩,hl⟩
section
variable{prog:J9}{w:Jd}{A:Jc}{E:J6}{s:Ja}{K:Je}{x dx C f:Jg}{mA:J5}{name:Str}{v:Jf}
theorem yZ{expr:Bool}{Q:J6}(X:K.In s.heap)(I:Gn s.heap x dx C mA)(hg:W.plainGet K C name=true)(hh:W.hasDictIn K C=true)
  (ha:W.findIn K (.ref C) name=some none) (hv:mA name=some v) (hv':W.handedIn v=true) (h:Q v {s with toks:=s.toks+ 1}):
  wpAny (model prog w) A (getAttr (.ref x) name expr) Q E s:=by
 obtain⟨b,J,a⟩:=I.look;exact W.get_value X J (W.plainGet_of hg).1 (W.findObj_own hh ha rfl (by rw[a,hv])) hv' h
theorem tQ{pl:Sem Bool}{Q:Value×List Value->Shared->Prop}(X:K.In s.heap)(I:Gn s.heap x dx C mA)(hg:W.plainGet K C name=true)
  (hf:W.findIn K (.ref C) name=some (some (.ref f))) (ht:W.isFn K (.ref f)=true) (hv:mA name=none) (h:Q (.ref f,[.ref x]) s):
  wpAny (model prog w) A (getMethod (.ref x) name pl) Q E s:=by
 obtain⟨a,J,b⟩:=I.look;exact W.method_fn X J (W.plainGet_of hg).1 (W.plainGet_of hg).2 hf (Vw.mp ht) (by show(W.lookIn name a).map (·.isSome)=some false;rw[b,hv];rfl) h
theorem gL{ns:List Str}{Q:J7}(X:K.In s.heap)(I:Gn s.heap x dx C mA)
  (hs:W.findIn K (.ref C) "__setattr__"=some (some (.builtin "object.__setattr__"))) (hp:W.plainOver K C=true) (ht:W.takerIn K C name=some none) (hh:W.hasDictIn K C=true)
  (hw:PySem.Within mA ns) (hsz:ns.length <=sizeLine)
  (h:∀h',Gn h' x dx C (fun y=>if y=name then some v else mA y)->Heap.SameBut dx s.heap h'->Q () {s with heap:=h',toks:=s.toks+ 2}):
  wpAny (model prog w) A (setAttr (.ref x) name v) Q E s:=by
 obtain⟨z,J,hl⟩:=I.look;refine W.set_plain X J hs (W.osa_open (s:={s with toks:=s.toks+ 1}) (r:=none) X J hp ht fun b=>?_);obtain⟨cd,o,i⟩:=W.any_some hh;have n:s.heap.get? x=some ⟨.ref C,some dx,.plain,#[]⟩:=I.obj;refine Y0 (Y6 (Y0 (Y0 (wpAny_loadPart n (Y0 (W.Looks.here (s:={s with toks:=s.toks+ 1}) (W.looks_clsIn X o) ?_))))));rw[i];refine Y6 (a:=some dx) (Y0 (Y6 (Y0 ?_)));refine wpAny_nsSet1 (s:={s with toks:=s.toks+ 1}) I.ns fun h' e c=>?_
 obtain⟨oD,p,q,f,g,j⟩:=e.count (PySem.Within.cons name v hw);refine Y0 (wpAny_lookBehind f (by rw[g];exact pastItsLine_dict (YD j (by rw[List.length_cons];lia))) ?_);exact Y6 (h _ ⟨(c.2 _ (Ne.symm I.ne)).trans I.obj,e,I.ne⟩ c)
theorem wK{R:Result->Shared->Prop}{vs:Ji}{kw:List (Str×Value)}(X:K.In s.heap)(hm:W.makesIn K C=true)
  (hi:W.findIn K (.ref C) "__init__"=some (some (.ref f))) (hf:W.typeIn K (.ref f)=some (.type "function"))
  (h : codeAny (model prog w) (A.under (.builtin "type.__call__" ⟨.ref C :: vs, kw⟩)) (.call (.ref f) ⟨.ref (s.heap.objs.size + 1) :: vs, kw⟩) (W.InitBack (s.heap.objs.size + 1) R)
   { s with heap := (s.heap.push W.emptyDict).push (W.instObj C s.heap.objs.size) }) :
  codeAny (model prog w) A (.call (.ref C) ⟨vs,kw⟩) R s:=by
 obtain⟨c,g,d,t,b⟩:=s;exact W.make_core (W.makes_of X hm) (W.looks_findIn X hi) (fun a=>W.bind_fn X a hf) (.inl rfl) h
end
def NX(f:Str)(v:V):List (Str×V)->List (Str×V)
 |[]=>[(f,v)]
 |(g,x)::r=>if g=f then(g,v)::r else(g,x)::NX f v r
theorem CN(f g:Str)(v:V):∀fs:List (Str×V),(NX f v fs).lookup g=if g=f then some v else fs.lookup g
 |[]=>by
  show List.lookup g [(f,v)]=_
  by_cases h:g=f
  .have hb:(g==f)=true:=Vw.mpr h;simp only[List.lookup,hb,Y3 h]
  .have hb:(g==f)=false:=Xz.mpr h;simp only[List.lookup,hb,Y2 h]
 |(k,x)::r=>by
  have a:=CN f g v r;rw[show NX f v ((k,x)::r)=(if k=f then(k,v)::r else(k,x)::NX f v r) from rfl]
  by_cases hk:k=f
  .rw[Y3 hk]
   by_cases h:g=k
   .have hb:(g==k)=true:=Vw.mpr h;simp only[List.lookup,hb,Y3 (h.trans hk)]
   .have hb:(g==k)=false:=Xz.mpr h;simp only[List.lookup,hb,Y2 (fun e:g=f=>h (e.trans hk.symm))]
  .rw[Y2 hk]
   by_cases h:g=k
   .have hb:(g==k)=true:=Vw.mpr h;simp only[List.lookup,hb,Y2 (fun e:g=f=>hk (h.symm.trans e))]
   .have hb:(g==k)=false:=Xz.mpr h;simp only[List.lookup,hb];exact a
theorem Os(f:Str)(v:V):∀fs:List (Str×V),f∈(NX f v fs).map (·.1)/\∀g,g∈fs.map (·.1)->g∈(NX f v fs).map (·.1)
 |[]=>⟨by simp[NX],fun g h=>by simp at h⟩
 |(k,x)::r=>by
  obtain⟨i1,i2⟩:=Os f v r;rw[show NX f v ((k,x)::r)=(if k=f then(k,v)::r else(k,x)::NX f v r) from rfl]
  by_cases hk:k=f
  .rw[Y3 hk];subst hk;exact⟨by simp,fun g h=>by simpa using h⟩
  .rw[Y2 hk];refine⟨?_,fun g h=>?_⟩
   .rw[List.map_cons];exact Yp _ i1
   .rw[List.map_cons]at h ⊢;rcases Ym.mp h with e|e
    .exact Ym.mpr (.inl e)
    .exact Yp _ (i2 g e)
theorem Lk(f:Str)(v:V):∀fs:List (Str×V),(NX f v fs).length <=fs.length+ 1
 |[]=>by simp[NX]
 |(k,x)::r=>by
  have ih:=Lk f v r;rw[show NX f v ((k,x)::r)=(if k=f then(k,v)::r else(k,x)::NX f v r) from rfl]
  by_cases hk:k=f
  .rw[Y3 hk,List.length_cons,List.length_cons];lia
  .rw[Y2 hk,List.length_cons,List.length_cons];lia
theorem TY.some_of{v:V}{o:Option Value}(r:TY (some v) o):∃u,o=some u/\Jz v u:=by
 cases o with
 |none=>exact(show False from r).elim
 |some u=>exact⟨u,rfl,r⟩
theorem TY.none_of{o:Option Value}(r:TY none o):o=none:=by
 cases o with
 |none=>rfl
 |some u=>exact(show False from r).elim
theorem nK{v:V}{u:Jf}(r:Jz v u):W.handedIn u=true:=by
 cases v with
 |non=>cases (show u=Value.none from r);rfl
 |bl b=>cases (show u=Value.bool b from r);rfl
 |int i=>obtain⟨t,e⟩:=(show ∃t,u=Value.int i t from r);cases e;rfl
 |str x=>obtain⟨t,e⟩:=(show ∃t,u=Value.str x t from r);cases e;rfl
 |byt b=>obtain⟨t,e⟩:=(show ∃t,u=Value.bytes b t from r);cases e;rfl
 |flt b=>obtain⟨t,e⟩:=(show ∃t,u=Value.float b t from r);cases e;rfl
 |ref a=>cases (show u=Value.ref a from r);rfl
 |ty n=>cases (show u=Value.type n from r);rfl
section
variable{P:J9}{w:Jd}{H H':Hp}{h h':Jj}{a C dx:Jg}{fs fs':List (Str×V)}
theorem Fv(hok:Tq P w H h)(e:H a=some (.ins C dx fs)):∃mA,Gn h a dx C mA/\(∀f,TY (fs.lookup f) (mA f))/\PySem.Within mA (fs.map (·.1))/\fs.length <=1000/\H dx=some (.own a):=by
 obtain⟨d,z,ne,b,mA,n,r,q⟩:=(show JF P w H h a (.ins C dx fs) from hok a _ e);exact⟨mA,⟨b,n,ne⟩,r,q,z,d⟩
end
structure Db(K:Je)(C:Jg):Prop where
 pg:W.plainGet K C Str.empty=true
 hd:W.hasDictIn K C=true
 po:W.plainOver K C=true
 sa:W.findIn K (.ref C) "__setattr__"=some (some (.builtin "object.__setattr__"))
theorem Db.get{K:Je}{C:Jg}(c:Db K C)(f:Str):W.plainGet K C f=true:=c.pg
def Jx(K:Je)(C:Jg)(f:Str):Prop:=W.findIn K (.ref C) f=some none
theorem Jx.taker{K:Je}{C:Jg}{f:Str}(n:Jx K C f):W.takerIn K C f=some none:=by
 unfold W.takerIn;rw[show W.findIn K (.ref C) f=some none from n];rfl
structure LJ(K:Je)(C:Jg)(m:Str)(f:Jg):Prop where
 at_:W.findIn K (.ref C) m=some (some (.ref f))
 fn:W.isFn K (.ref f)=true
 kp:W.keepIn K (.ref f)=true
section
variable{X:Cx}{pins:J8}{σ:St}{H:Hp}{s:Ja}{a C dx:Jg}{fs:List (Str×V)}{f:Str}{v:V}{A:Jc}{E:J6}
theorem Qi{b:Bool}{Q:J6}(I:Jq X pins σ H s)(e:H a=some (.ins C dx fs))(c:Db X.K C)(n:Jx X.K C f)(l:fs.lookup f=some v)
  (h:∀u s',Jq X pins σ H s'->Jz v u->Q u s'):wpAny (model X.prog X.w) A (getAttr (.ref a) f b) Q E s:=by
 obtain⟨mA,O,r,_,_,_⟩:=Fv I.hok e;obtain⟨u,g,ru⟩:=TY.some_of (v:=v) (o:=mA f) (by rw[<-l];exact r f);exact yZ I.kIn O (c.get f) c.hd n g (nK ru) (h u _ (I.tok _) ru)
theorem Lb{m:Str}{g:Jg}{pl:Sem Bool}{Q:Value×List Value->Shared->Prop}(I:Jq X pins σ H s)(e:H a=some (.ins C dx fs))(c:Db X.K C)(k:LJ X.K C m g)(l:fs.lookup m=none)
  (h:Q (.ref g,[.ref a]) s):wpAny (model X.prog X.w) A (getMethod (.ref a) m pl) Q E s:=by
 obtain⟨mA,O,r,_,_,_⟩:=Fv I.hok e;have b:mA m=none:=TY.none_of (by rw[<-l];exact r m);exact tQ I.kIn O (c.get m) k.at_ k.fn b h
theorem Qg{y:V}{u:Jf}{Q:J7}(I:Jq X pins σ H s)(e:H a=some (.ins C dx fs))(c:Db X.K C)(n:Jx X.K C f)(hl:fs.length < 1000)(ry:Jz y u)
  (h:∀s',Jq X pins σ (upd H a (.ins C dx (NX f y fs))) s'->Q () s'):wpAny (model X.prog X.w) A (setAttr (.ref a) f u) Q E s:=by
 obtain⟨mA,O,r,wi,_,j⟩:=Fv I.hok e;have v:(fs.map (·.1)).length <=sizeLine:=by rw[Y1,YG];lia
 refine gL I.kIn O c.sa c.po n.taker c.hd wi v fun h' i p=>h _ ?_
 have hd:∃o,h'.get? dx=some o:=let ⟨o,_,_,e',_⟩:=i.ns;⟨o,e'⟩;refine I.write (x:=a) (e:=dx) (by rw[e];exact True.intro) (.inr j) (fun b q hb z=>(p.2 b hb).trans z) hd ?_;refine⟨by rw[JG O.ne];exact j,?_,O.ne,i.obj,_,i.ns,fun g=>?_,fun g hg=>?_⟩
 .have:=Lk f y fs;lia
 .show TY ((NX f y fs).lookup g) (if g=f then some u else mA g);rw[CN]
  by_cases q:g=f
  .rw[Y3 q,Y3 q];exact ry
  .rw[Y2 q,Y2 q];exact r g
 .by_cases q:g=f
  .rw[q];exact(Os f y fs).1
  .refine(Os f y fs).2 g (wi g fun z=>hg ?_);show(if g=f then some u else mA g)=none;rw[Y2 q];exact z
theorem Jq.made(I:Jq X pins σ H s):Jq X pins σ (upd (upd H s.heap.objs.size (.own (s.heap.objs.size+ 1))) (s.heap.objs.size+ 1) (.ins C s.heap.objs.size []))
  {s with heap:=(s.heap.push W.emptyDict).push (W.instObj C s.heap.objs.size)}:=by
 have c:(s.heap.push W.emptyDict).get? s.heap.objs.size=some W.emptyDict:=Ye s.heap rfl;have i:((s.heap.push W.emptyDict).push (W.instObj C s.heap.objs.size)).get? (s.heap.objs.size+ 1)=some (W.instObj C s.heap.objs.size):=by
  have:=Ye (s.heap.push W.emptyDict) (o:=W.instObj C s.heap.objs.size) rfl;rwa [Xu]at this
 have h:(s.heap.push W.emptyDict).Ns s.heap.objs.size (fun _=>none):=⟨W.emptyDict,#[],_,c,rfl,(fun e g=>absurd g (by simp)),fun _=>rfl⟩;have j:=I.laid (a:=s.heap.objs.size) (o:=.own (s.heap.objs.size+ 1)) (h':=s.heap.push W.emptyDict) (t':=s.toks) (fun b u q=>Y8 _ q) (Y9 _) ⟨_,c⟩;refine j.laid (a:=s.heap.objs.size+ 1) (o:=.ins C s.heap.objs.size []) (t':=s.toks) (fun b u q=>Y8 _ q) (J0 (Xu _ _)) ?_;have ne:s.heap.objs.size≠s.heap.objs.size+ 1:=Yo (Vo _);refine⟨by rw[JG ne,Nb],Yx _,ne,i,fun _=>none,(Heap.Ns1.of_empty h).at fun o q=>Y8 _ q,fun _=>True.intro,fun y f=>absurd rfl f⟩
theorem PL{prog:J9}{w:Jd}{env:Env}{e:Jk}{f:Str}{pos:Pos}{s:Ja}{Q:J6}(hb:attributeBase e f env (eval e env)=eval e env)
  (h:wpAny (model prog w) A (eval e env) (fun o s₁=>wpAny (model prog w) A (getAttr o f true) Q E s₁) E s):wpAny (model prog w) A (eval (.Attribute e f pos) env) Q E s:=
 Attribute_any_ h (by rw[arm_eval_Attribute,hb])
end
def CK(K:Je)(ta:TE)(f:Str):TE:=fun σ H Q=>ta σ H fun x H1=>∃a C dx fs v,x= .ref a/\H1 a=some (.ins C dx fs)/\Db K C/\Jx K C f/\fs.lookup f=some v/\Q v H1
def Hr(K:Je)(ta tv:TE)(f:Str):TS:=fun D σ H=>tv σ H fun y H1=>ta σ H1 fun x H2=>∃a C dx fs,x= .ref a/\H2 a=some (.ins C dx fs)/\Db K C/\Jx K C f/\fs.length < 1000/\
 D.nx σ (upd H2 a (.ins C dx (NX f y fs)))
section
variable{X:Cx}{o e value:Jk}{f:Str}{pos pos' tpos:Pos}{ta tv:TE}
theorem tW(he:PE X e ta)(hb:attributeBase e f X.env (eval e X.env)=eval e X.env):PE X (.Attribute e f pos) (CK X.K ta f):=by
 intro pins s σ H Q I h;refine PL hb (JO (he pins s σ H _ I h) fun u s1 zz=>?_);rcases zz with⟨x,H1,i,rx,a,C,dx,fs,v,ex,b,c,n,l,q⟩;subst ex;obtain rfl:u=Value.ref a:=rx;exact Qi i b c n l fun j s2 g ru=>⟨v,H1,g,ru,q⟩
theorem nN(ha:PE X o ta)(hv:PE X value tv)(hs:swapsWith value (some (.Attribute o f pos')) pos.line X.env=pure false):PS X (.Assign [.Attribute o f pos'] value pos) (Hr X.K ta tv f):=by
 intro pins s σ H D I h;refine Vt (JO (hv pins s σ H _ I h) fun u s1 ⟨y,H1,p,ry,q⟩=>JO (ha pins s1 σ H1 _ p q) fun e s2 zz=>?_) hs;rcases zz with⟨x,H2,j,rx,a,C,dx,fs,ex,g,c,n,l,b⟩;subst ex;obtain rfl:e=Value.ref a:=rx;exact Qg j g c n l ry fun r i=>⟨σ,_,i,b⟩
end
section
variable{X:Cx}{pins:J8}{σ:St}{H:Hp}{s:Ja}{A:Jc}{E:J6}{Q:J6}{c:Jf}{b:Bool}
inductive GT(K:Je)(H:Hp):V->Value->Prop where
 |non:GT K H .non (.type "NoneType")
 |bl (x:Bool):GT K H (.bl x) (.type "bool")
 |int (i:Int):GT K H (.int i) (.type "int")
 |str (x:Str):GT K H (.str x) (.type "str")
 |flt (x:UInt64):GT K H (.flt x) (.type "float")
 |lst {a:Jg} {xs:List V} (e:H a=some (.lst xs)):GT K H (.ref a) (.type "list")
 |frz {a:Jg} {o:Obj} {xs:List V} (e:H a=some (.frz o (.lst xs))):GT K H (.ref a) (.type "list")
 |tup {a:Jg} {xs:List V} (e:H a=some (.tup xs)):GT K H (.ref a) (.type "tuple")
 |dK {a:Jg} {kvs:List (JL×V)} (e:H a=some (.dK kvs)):GT K H (.ref a) (.type "dict")
 |dT {a:Jg} {kvs:List (List JL×V)} (e:H a=some (.dT kvs)):GT K H (.ref a) (.type "dict")
 |ins {a C dx:Jg} {fs:List (Str×V)} (e:H a=some (.ins C dx fs)) (cl:Db K C) (ha:W.findIn K (.ref C) "__class__"=some (some (.builtin "object.__class__")))
   (hn:W.specialIn K (.builtin "object.__class__") "__get__"=some (some (.builtin "getset_descriptor.__get__"))) (htk:W.takesIn K (.builtin "object.__class__")=some true)
   (hm:W.mroIn K C (.type "object")=some true):GT K H (.ref a) (.ref C)
theorem vV{x:V}{u t:Jf}(I:Jq X pins σ H s)(rx:Jz x u)(ty:GT X.K H x t)(e:W.kitOne X.K t c=some b)(h:∀tk,Q (.bool b) {s with toks:=tk}):
  wpAny (model X.prog X.w) A (call (.builtin "isinstance") [u,c]) Q E s:=by
 cases ty with
 |non=>cases (show u=Value.none from rx);exact Us W.kitx_none I.kIn True.intro e (fun z=>nomatch z) h
 |bl y=>cases (show u=Value.bool y from rx);exact Us W.kitx_bool I.kIn True.intro e (fun z=>nomatch z) h
 |int i=>obtain⟨t,q⟩:=(show ∃t,u=Value.int i t from rx);cases q;exact Us W.kitx_int I.kIn True.intro e (fun z=>nomatch z) h
 |str y=>obtain⟨t,q⟩:=(show ∃t,u=Value.str y t from rx);cases q;exact Us W.kitx_str I.kIn True.intro e (fun z=>nomatch z) h
 |flt y=>obtain⟨t,q⟩:=(show ∃t,u=Value.float y t from rx);cases q;exact Us W.kitx_float I.kIn True.intro e (fun z=>nomatch z) h
 |@lst a xs ea=>
  cases (show u=Value.ref a from rx);obtain⟨_,_,n,_,h1⟩:=(show JF X.prog X.w H s.heap a (.lst xs) from I.hok a _ ea);exact Us W.kitx_list I.kIn ⟨_,h1,rfl⟩ e (fun z=>nomatch z) h
 |@frz a ob xs ea=>
  cases (show u=Value.ref a from rx);obtain⟨_,_,_,n,_,h1⟩:=(show JF X.prog X.w H s.heap a (.frz ob (.lst xs)) from I.hok a _ ea);exact Us W.kitx_list I.kIn ⟨_,h1,rfl⟩ e (fun z=>nomatch z) h
 |@tup a xs ea=>
  cases (show u=Value.ref a from rx);obtain⟨_,_,_,p⟩:=(show JF X.prog X.w H s.heap a (.tup xs) from I.hok a _ ea);obtain⟨o,h1,h2,_⟩:=p;exact Us W.kitx_tuple I.kIn ⟨o,h1,h2⟩ e (fun z=>nomatch z) h
 |@dK a kvs ea=>
  cases (show u=Value.ref a from rx);obtain⟨_,_,vs,_,p⟩:=(show JF X.prog X.w H s.heap a (.dK kvs) from I.hok a _ ea);obtain⟨o,es,ep,h1,h2,_⟩:=p;exact Us W.kitx_dict I.kIn ⟨o,h1,h2.1⟩ e (fun z=>nomatch z) h
 |@dT a kvs ea=>
  cases (show u=Value.ref a from rx);obtain⟨_,_,xs,_,o,es,ep,h1,h2,_⟩:=(show JF X.prog X.w H s.heap a (.dT kvs) from I.hok a _ ea);exact Us W.kitx_dict I.kIn ⟨o,h1,h2.1⟩ e (fun z=>nomatch z) h
 |@ins a C dx fs ea cl ha hn htk hm=>
  cases (show u=Value.ref a from rx);obtain⟨mA,O,_⟩:=Fv I.hok ea;obtain⟨f,J,_⟩:=O.look;exact Us (W.kitx_own (cl.get _) cl.hd ha hn htk hm) I.kIn J e (fun z=>nomatch z) h
end
structure Room(k:Nat)(A:Jc):Prop where
 hd:A.handled=none
 dp:A.depth+ 3*k+ 5 < recursionLimit
 un:A.units+ 16*k+ 200 < cLine
theorem Room.mono{j k:Nat}{A:Jc}(r:Room k A)(h:j <=k):Room j A:=⟨r.hd,by have:=r.dp;lia,by have:=r.un;lia⟩
theorem Room.deeper{k:Nat}{A:Jc}(r:Room (k+ 1) A)(env:Env):Room k (A.deeper env):=
 ⟨r.hd,by have:=r.dp;show A.depth+ 1+ 3*k+ 5 < _;lia,by have:=r.un;show A.units+ 3+ 16*k+ 200 < _;lia⟩
theorem Room.in1{k:Nat}{A:Jc}(r:Room (k+ 1) A):Room k A.in1:=
 ⟨r.hd,by have:=r.dp;show A.depth+ 3*k+ 5 < _;lia,by have:=r.un;show A.units+ 1+ 16*k+ 200 < _;lia⟩
theorem j5{A:Jc}{C:Jg}{us:Ji}{kw:List (Str×Value)}:(A.under (.builtin "type.__call__" ⟨.ref C::us,kw⟩)).depth=A.depth+ 1:=by
 first|rfl|simp[Around.under,Code.weight,Code.isCreation,Code.isGuard,Code.isCaller,Code.frames,Code.isFrame,guardIds]
theorem gA{A:Jc}{C:Jg}{us:Ji}{kw:List (Str×Value)}:(A.under (.builtin "type.__call__" ⟨.ref C::us,kw⟩)).units=A.units+ 1:=by
 first|rfl|simp[Around.under,Code.cUnits,Code.frames,Code.isFrame]
theorem Room.make{k:Nat}{A:Jc}(r:Room (k+ 1) A)(C:Jg)(us:Ji)(kw:List (Str×Value)):Room k (A.under (.builtin "type.__call__" ⟨.ref C::us,kw⟩)):=
 ⟨r.hd,by have:=r.dp;rw[j5];lia,by have:=r.un;rw[gA];lia⟩
theorem Room.depth{k:Nat}{A:Jc}(r:Room k A):A.depth < recursionLimit:=by have:=r.dp;lia
theorem Room.units{k:Nat}{A:Jc}(r:Room k A):A.units+ 64 < cLine:=by have:=r.un;lia
def R5:TA:=fun _ H Q=>Q [] H
def Gr(ta:TE)(tr:TA):TA:=fun σ H Q=>ta σ H fun x H1=>tr σ H1 fun xs H2=>Q (x::xs) H2
section
variable{X:Cx}{e:Jk}{es:List Expr}{te:TE}{t:TA}{pos:Pos}
theorem Jt:PA X [] R5:=fun _ _ _ _ H Q I h=>Calls.spliced_nil ⟨[],H,I,.nil,h⟩
theorem Nc(ha:PE X e te)(hr:PA X es t)(hs:starEach (e::es) X.env=(false,eval e X.env)::starEach es X.env:=by rfl):PA X (e::es) (Gr te t):=by
 intro pos pins s σ H Q I h;rw[hs];show wpAny _ _ (spliced ((false,eval e X.env)::backTo pos (starEach es X.env))) _ _ s;refine Calls.spliced_cons (JO (ha pins s σ H _ I h) fun u s1 ⟨x,H1,i,b,f⟩=>?_);exact JO (hr pos pins s1 σ H1 _ i f) fun j s2 ⟨xs,H2,g,a,c⟩=>⟨x::xs,H2,g,.cons b a,c⟩
def K6(t:TA):TE:=fun σ H Q=>t σ H fun xs H1=>xs.length <=sizeLine/\∀p,H1 p=none->Q (.ref p) (upd H1 p (.tup xs))
theorem QS{x1}(h:PA X es t):PE X (.Tuple es x1 pos) (K6 t):=by
 intro pins s σ H Q I f;refine wpAny_Tuple_spliced (JO (h pos pins s σ H _ I f) fun c s1 ⟨xs,H1,a,r,z,q⟩=>⟨by rw[<-r.length];exact z,?_⟩);have g:H1 s1.heap.objs.size=none:=a.hok.fresh (Y9 _);refine⟨.ref s1.heap.objs.size,upd H1 s1.heap.objs.size (.tup xs),a.laid (t':=s1.toks) (fun b u e=>Y8 _ e) (Y9 _) ?_,rfl,q _ g⟩;exact⟨z,c,r,⟨_,Ye _ rfl,rfl,_,rfl⟩⟩
end
abbrev Sp:=List V->Hp->VK->XK->Prop
abbrev RP:=List Env->Hp->Shared->XK->Value->Shared->Prop
structure DG(P:J9)(w:Jd)(K:Je)(mg:J5)(base:Jj)(A:Jc)(outer:List Env)(s:Ja)(H:Hp):Prop where
 frames:A.frames=some outer
 mod:Mod K mg base
 bs:∀b o,base.get? b=some o->s.heap.get? b=some o/\H b=none
 bsz:base.objs.size <=s.heap.objs.size
 funs:s.heap.FunFrames base outer
 frf:∀b∈De outer,H b=none
 hok:Tq P w H s.heap
 bare:AllBare s.gens
def CE(outer:List Env)(P:J9)(w:Jd)(H:Hp)(s:Ja)(Q:VK)(u:Jf)(s':Ja):Prop:=
 ∃v H',s'.os=s.os/\AllBare s'.gens/\Un (De outer) [] H H' s.heap s'.heap/\Tq P w H' s'.heap/\Jz v u/\Q v H'
def CR(CX:RP)(outer:List Env)(P:J9)(w:Jd)(H:Hp)(s:Ja)(Q:VK)(E:XK)(r:Result)(s':Ja):Prop:=
 match r with
 | .ok (.ret u)=>CE outer P w H s Q u s'
 | .ok _=>False
 | .error e=>CX outer H s E e s'
structure Ju(P:J9)(w:Jd)(K:Je)(mg:J5)(base:Jj)(CX:RP)(k:Nat)(f:Jg)(fd:Jb)(ps:List Str)(sp:Sp):Prop where
 len:∀vs H Q E,sp vs H Q E->vs.length=ps.length
 run:∀ (A:Jc) (outer:List Env) (s:Ja) (H:Hp) (args:Args) (us:Ji) (vs:List V) (Q:VK) (E:XK),Room k A->DG P w K mg base A outer s H->BindsTo s fd args (ps.zip us)->JB vs us->sp vs H Q E->
  codeAny (model P w) A (.call (.ref f) args) (CR CX outer P w H s Q E) s
theorem Ju.imp{P:J9}{w:Jd}{K:Je}{mg:J5}{base:Jj}{CX:RP}{k:Nat}{f:Jg}{fd:Jb}{ps:List Str}{sp sp':Sp}(F:Ju P w K mg base CX k f fd ps sp)
  (h:∀vs H Q E,sp' vs H Q E->sp vs H Q E):Ju P w K mg base CX k f fd ps sp':=
 ⟨fun vs H Q E q=>F.len vs H Q E (h _ _ _ _ q),fun A a s H b c vs Q E g i j e hs=>F.run A a s H b c vs Q E g i j e (h _ _ _ _ hs)⟩
theorem DG.make{P:J9}{w:Jd}{K:Je}{mg:J5}{base:Jj}{A:Jc}{outer:List Env}{s:Ja}{H:Hp}(e:DG P w K mg base A outer s H)(C:Jg)(us:Ji)(kw:List (Str×Value)):
  DG P w K mg base (A.under (.builtin "type.__call__" ⟨.ref C::us,kw⟩)) outer s H:=⟨by first|exact e.frames|(simpa[Around.under,Code.envs,Code.isFrame,pushEnvs] using e.frames),e.mod,e.bs,e.bsz,e.funs,e.frf,e.hok,e.bare⟩
section
variable{X:Cx}{pins:J8}{σ:St}{H:Hp}{s s':Ja}
theorem Jq.env0(I:Jq X pins σ H s):DG X.prog X.w X.K X.mg X.base X.A X.stack s H:=
 ⟨I.ok.frames,I.ok.mod,I.bs,YD I.ok.bsz I.sz,I.stack,I.stkFree,I.hok,I.bare⟩
theorem Jq.after{Q:VK}{u:Jf}(I:Jq X pins σ H s)(h:CE X.stack X.prog X.w H s Q u s'):EP X pins σ Q u s':=by
 obtain⟨v,H',os,a,un,e,r,q⟩:=h;obtain⟨f,g,d,t,c⟩:=s';obtain rfl:c=s.os:=os;exact⟨v,H',I.call (h':=f) (g':=g) (d':=d) (t':=t) (ch:=[]) un e a (fun b z=>absurd z (by simp)),r,q⟩
end
def Av(sp:Sp)(dvs:List V)(E:XK)(t:TA):TE:=fun σ H Q=>t σ H fun vs H1=>sp (vs++dvs) H1 Q E
def CM(C:Jg)(m:Str)(sp:Sp)(dvs:List V)(E:XK)(ta:TE)(t:TA):TE:=fun σ H Q=>ta σ H fun x H1=>∃a dx fs,x= .ref a/\H1 a=some (.ins C dx fs)/\fs.lookup m=none/\
 t σ H1 fun vs H2=>sp (x::(vs++dvs)) H2 Q E
def TU(K:Je)(fd:Jb)(ps:List Str)(ds:Ji):Prop:=
 ∀ (s:Ja) (us:Ji),K.In s.heap->(us++ds).length=ps.length->BindsTo s fd ⟨us,[]⟩ (ps.zip (us++ds))
theorem TU.all{K:Je}{fd:Jb}{ps:List Str}(h:∀us:List Value,us.length=ps.length->bindArgs fd ⟨us,[]⟩=pure (ps.zip us)):TU K fd ps []:=fun s us _ a=>by
 rw[List.append_nil]at a ⊢;exact .of_eq (h us a)
def AG(CX:RP)(X:Cx)(E:XK):Prop:=∀ (pins:J8) (σ:St) (H:Hp) (s:Ja) (e:Jf) (s':Ja),Jq X pins σ H s->CX X.stack H s E e s'->X.xe e s'
section
variable{X:Cx}{CX:RP}{k:Nat}{f C:Jg}{fd:Jb}{ps:List Str}{sp:Sp}{dvs:List V}{ds:Ji}{E:XK}{x m:Str}{p pos apos:Pos}{e o:Jk}{es:List Expr}{ta:TE}{t:TA}
theorem Cu{pins:J8}{σ:St}{H:Hp}{s:Ja}{Q:VK}{us:Ji}{vs:List V}(F:Ju X.prog X.w X.K X.mg X.base CX k f fd ps sp)(hr:Room k X.A)(hb:TU X.K fd ps ds)(hd:JB dvs ds)(hx:AG CX X E)
  (I:Jq X pins σ H s) (r:JB vs us) (h:sp (vs++dvs) H Q E):wpAny (model X.prog X.w) X.A (call (.ref f) us) (EP X pins σ Q) X.xe s:=by
 have b:JB (vs++dvs) (us++ds):=r.append hd;have c:(us++ds).length=ps.length:=by rw[<-b.length];exact F.len _ _ _ _ h
 refine Wg (UK (F.run X.A X.stack s H ⟨us,[]⟩ (us++ds) (vs++dvs) Q E hr I.env0 (hb s us I.kIn c) b h) fun r s' a=>?_);cases r with
 |error e=>exact hx pins σ H s e s' I a
 |ok fl=>
  cases fl with
  |ret u=>exact I.after a
  |next=>exact False.elim a
  |brk=>exact False.elim a
  |cont=>exact False.elim a
theorem j8(F:Ju X.prog X.w X.K X.mg X.base CX k f fd ps sp)(hr:Room k X.A)(hg:Gl X x)(hm:X.mg x=some (.ref f))(hk:W.keepIn X.K (.ref f)=true)(hb:TU X.K fd ps ds)(hd:JB dvs ds)(hx:AG CX X E)
  (ha:PA X (e::es) t) (hdb:(x==("__debug__":Str))=false:=by decide) (he:starEach (e::es) X.env=(false,eval e X.env)::starEach es X.env:=by rfl) (hpl:(backTo pos (starEach es X.env)).any (·.1)=false:=by rfl):
  PE X (.Call (.Name x p) (e::es) [] pos) (Av sp dvs E t):=by
 intro pins s σ H Q I h;refine XT (IB I hg hm ?_ hdb);refine W.callWith_K (h₀:=X.base) I.ok.mod.kin hk (JO (ha pos pins s σ H _ I h) fun b s1 ⟨vs,H1,a,r,q⟩=>⟨a.kIn,?_⟩) he hpl;exact Cu F hr hb hd hx a r q
theorem mD{pl:Sem Bool}(he:PE X o ta)(c:Db X.K C)(hm:LJ X.K C m f)(F:Ju X.prog X.w X.K X.mg X.base CX k f fd ps sp)(hr:Room k X.A)(hb:TU X.K fd ps ds)(hd:JB dvs ds)(hx:AG CX X E)
  (ht : eval (.Call (.Attribute o m apos) [] [] pos) X.env = (do
   let ov <-eval o X.env
   standAt apos.atName
   let (f,first) <-holding [ov] (getMethod ov m pl)
   callWith pos f first (backTo pos (starEach [] X.env)) (backToKw pos (keywordEach [] X.env))) := by rfl) :
  PE X (.Call (.Attribute o m apos) [] [] pos) (CM C m sp dvs E ta R5):=by
 intro pins s σ H Q I h;refine Wv (pl:=pl) (JO (he pins s σ H _ I h) fun u s1 zz=>?_) ht;rcases zz with⟨x,H1,b,rx,a,dx,fs,ex,e,l,q⟩;subst ex;obtain rfl:u=Value.ref a:=rx;refine Lb b e c hm l ?_;exact W.callWith_K0 (first:=[.ref a]) b.kIn hm.kp (Cu (us:=[.ref a]) (vs:=[.ref a]) F hr hb hd hx b (.cons rfl .nil) q)
structure Mk(K:Je)(C f:Jg):Prop where
 makes:W.makesIn K C=true
 init:W.findIn K (.ref C) "__init__"=some (some (.ref f))
 fn:W.isFn K (.ref f)=true
 kp:W.keepIn K (.ref C)=true
theorem j6{pins:J8}{σ:St}{H:Hp}{s:Ja}{Q:VK}{us:Ji}{vs:List V}(M:Mk X.K C f)(F:Ju X.prog X.w X.K X.mg X.base CX k f fd ps sp)(hr:Room (k+ 1) X.A)(hb:TU X.K fd ps ds)(hd:JB dvs ds)
  (hx:AG CX X E) (I:Jq X pins σ H s) (r:JB vs us)
  (h:∀x dx,H x=none->H dx=none->dx≠x->sp (.ref x::(vs++dvs)) (upd (upd H dx (.own x)) x (.ins C dx [])) (fun v H2=>v= .non/\Q (.ref x) H2) E):
  wpAny (model X.prog X.w) X.A (call (.ref C) us) (EP X pins σ Q) X.xe s:=by
 have g:=h (s.heap.objs.size+ 1) s.heap.objs.size (I.hok.fresh (XO _)) (I.hok.fresh (Y9 _)) (Yo (Vo _));have b:=Jq.made (C:=C) I;have c:JB (V.ref (s.heap.objs.size+ 1)::(vs++dvs)) (Value.ref (s.heap.objs.size+ 1)::(us++ds)):=.cons rfl (r.append hd);have n:(Value.ref (s.heap.objs.size+ 1)::us++ds).length=ps.length:=by
  have e:=c.length;rw[F.len _ _ _ _ g]at e;exact e.symm
 refine Wg (wK (f := f) I.kIn M.makes M.init (Vw.mp M.fn) (UK (F.run _ X.stack _ _ ⟨Value.ref (s.heap.objs.size + 1) :: us, []⟩ (Value.ref (s.heap.objs.size + 1) :: (us ++ ds)) _ _ E (hr.make C us [])
  (b.env0.make C us []) (hb _ (Value.ref (s.heap.objs.size + 1) :: us) b.kIn n) c g) fun r s' a => ?_))
 cases r with
 |error e=>exact hx pins σ _ _ e s' b a
 |ok fl=>
  cases fl with
  |ret u=>
   obtain⟨v,H',p,i,o,j⟩:=b.after a;subst o;exact⟨i,⟨V.ref (s.heap.objs.size+ 1),H',p,rfl,j⟩⟩
  |next=>exact False.elim a
  |brk=>exact False.elim a
  |cont=>exact False.elim a
end
def PK(X:Cx)(kws:List Keyword)(t:TA):Prop:=
 ∀ (pos:Pos) (pins:J8) (s:Ja) (σ:St) (H:Hp) (Q:List V->Hp->Prop),Jq X pins σ H s->t σ H Q->wpAny (model X.prog X.w) X.A (evalAll ((backToKw pos (keywordEach kws X.env)).map (·.2))) (AP X pins σ Q) X.xe s
section
variable{X:Cx}{CX:RP}{k:Nat}{f C:Jg}{fd:Jb}{ps ks:List Str}{sp:Sp}{E:XK}{x m:Str}{p pos apos kpos:Pos}{e o:Jk}{es:List Expr}{kws:List Keyword}{te ta:TE}{t tk:TA}{nm:Option Str}
theorem LA:PK X [] R5:=fun _ _ _ _ H Q I h=>wpAny_evalAll_nil ⟨[],H,I,.nil,h⟩
theorem HS(ha:PE X e te)(hr:PK X kws t):PK X (⟨nm,e,kpos⟩::kws) (Gr te t):=by
 intro pos pins s σ H Q I h;show wpAny _ _ (evalAll ((do let v <-eval e X.env;standAt pos;pure v)::(backToKw pos (keywordEach kws X.env)).map (·.2))) _ _ s;refine wpAny_evalAll_cons (Y0 (JO (ha pins s σ H _ I h) fun u s1 ⟨x,H1,i,b,f⟩=>Y0 (W0 (Y6 ?_))));exact JO (hr pos pins s1 σ H1 _ i f) fun j s2 ⟨xs,H2,g,a,c⟩=>⟨x::xs,H2,g,.cons b a,c⟩
variable{g:List Value->List Value->List Value}{gV:List V->List V->List V}
end
structure Nv(N P:List Str)(sc:Scope):Prop where
 kind:sc.kind= .function
 co:sc.isCoroutine=false
 gen:sc.isGenerator=false
 nd:N.Nodup
 pre:N.take P.length=P
 par:∀x∈P,sc.names.lookup x=some .local\/sc.names.lookup x=some .cell
 nofree:∀y∈sc.names,y.2≠ .free
theorem P4{kindOf:Str->Option NameKind}{x:Str}:∀{binds:List (Str×Value)} {m:J5},(∀v,(x,v)∉binds)->bindL kindOf binds m x=m x
 |[],_,_=>rfl
 |(n,v)::r,m,h=>by
  unfold bindL;rw[P4 fun w hw=>h w (Yp _ hw)]
  split
  .have:x≠n:=by rintro rfl;exact h v YE
   simp[this]
  .rfl
theorem Sf{kindOf:Str->Option NameKind}{x:Str}:∀{binds:List (Str×Value)} {m:J5},(∀v,(x,v)∉binds)->bindC kindOf binds m x=m x
 |[],_,_=>rfl
 |(n,v)::r,m,h=>by
  unfold bindC;rw[Sf fun w hw=>h w (Yp _ hw)]
  split
  .rfl
  .have:x≠n:=by rintro rfl;exact h v YE
   simp[this]
theorem Zu{kindOf:Str->Option NameKind}{x:Str}{v:Jf}:∀{P:List Str} {vs:Ji} {i:Nat} {m:J5},P.Nodup->P[i]?=some x->vs[i]?=some v->kindOf x=some .local->
  bindL kindOf (P.zip vs) m x=some v
 |[],_,_,_,_,h,_,_=>by simp at h
 |_::_,[],_,_,_,_,h,_=>by simp at h
 |p::P,w::vs,0,m,nd,h1,h2,hk=>by
  simp at h1 h2;subst h1;subst h2;show bindL kindOf ((p,w)::P.zip vs) m p=_;unfold bindL;rw[P4 fun v hv=>(YH.mp nd).1 (Ww hv).1,Y3 hk];simp
 |p::P,w::vs,i+ 1,m,nd,h1,h2,hk=>by
  show bindL kindOf ((p,w)::P.zip vs) m x=_;unfold bindL;exact Zu (i:=i) (YH.mp nd).2 (by simpa using h1) (by simpa using h2) hk
theorem Q2{kindOf:Str->Option NameKind}{x:Str}{v:Jf}:∀{P:List Str} {vs:Ji} {i:Nat} {m:J5},P.Nodup->P[i]?=some x->vs[i]?=some v->kindOf x≠some .local->
  bindC kindOf (P.zip vs) m x=some v
 |[],_,_,_,_,h,_,_=>by simp at h
 |_::_,[],_,_,_,_,h,_=>by simp at h
 |p::P,w::vs,0,m,nd,h1,h2,hk=>by
  simp at h1 h2;subst h1;subst h2;show bindC kindOf ((p,w)::P.zip vs) m p=_;unfold bindC;rw[Sf fun v hv=>(YH.mp nd).1 (Ww hv).1,Y2 hk];simp
 |p::P,w::vs,i+ 1,m,nd,h1,h2,hk=>by
  show bindC kindOf ((p,w)::P.zip vs) m x=_;unfold bindC;exact Q2 (i:=i) (YH.mp nd).2 (by simpa using h1) (by simpa using h2) hk
def start(N:List Str)(vs:List V):St:=vs.map some++List.replicate (N.length - vs.length) none
def Mz(CX:RP)(P:J9)(w:Jd)(K:Je)(mg:J5)(base:Jj)(N:List Str)(qual:Str)(scope:Scope)(f:Jg)(cd:Jf)(A:Jc)(outer:List Env)(s:Ja)(H:Hp)(E:XK):Cx where
 prog:=P
 w:=w
 K:=K
 mg:=mg
 base:=base
 A:=A.deeper (envOfC qual scope s.heap.objs.size f cd)
 N:=N
 s₀:=s
 H₀:=H
 env:=envOfC qual scope s.heap.objs.size f cd
 outer:=outer
 stack:=envOfC qual scope s.heap.objs.size f cd::outer
 ex:=[]
 calm:=true
 fn:=fun _=>true
 pn:=[]
 xe:=fun e s'=>wpAny (model P w) (A.deeper (envOfC qual scope s.heap.objs.size f cd)) (leaving (envOfC qual scope s.heap.objs.size f cd) e) (fun _ s''=>CX outer H s E e s'') (fun e' s''=>CX outer H s E e' s'') s'
theorem PF{sc:Scope}{n:Nat}{x:Str}(h:sc.names.lookup x=some .cell):∃c,(cellsFrom n sc.names []).lookup x=some c:=by
 have q:=W.cellsFrom_some sc.names n [] (.inl h);exact V7.mp q
theorem uO{CX:RP}{P:J9}{w:Jd}{K:Je}{mg:J5}{base:Jj}{N ps:List Str}{qual:Str}{scope:Scope}{f:Jg}{cd:Jf}{A:Jc}{outer:List Env}{s s1:Ja}{H:Hp}{E:XK}{us:Ji}{vs:List V}
  (S:Nv N ps scope) (hd:A.handled=none) (e0:DG P w K mg base A outer s H) (hl:vs.length=ps.length) (r:JB vs us)
  (x:InCallC s s.heap.objs.size (bindL (envOfC qual scope s.heap.objs.size f cd).kindOf (ps.zip us) fun _=>none) (cellsFrom (s.heap.objs.size+ 1) scope.names []) (bindC (envOfC qual scope s.heap.objs.size f cd).kindOf (ps.zip us) fun _=>none) s1):
  Jq (Mz CX P w K mg base N qual scope f cd A outer s H E) [] (start N vs) H s1:=by
 have hpl:ps.length <=N.length:=by have:=YR List.length S.pre;rw[Yu]at this;lia
 obtain⟨h1,tk,rfl,hk⟩:=x.done;have j:∀b:Addr,b∉(Mz CX P w K mg base N qual scope f cd A outer s H E).ex:=fun b z=>absurd (show b∈([]:List Addr) from z) (by simp)
 refine ⟨⟨e0.mod, S.kind, rfl, rfl, Y9 _, fun y z c h1 h2 => ?_, fun y g => ?_, fun y c _ h => ?_, fun _ => hd, Around.frames_deeper e0.frames, .inr ⟨rfl, rfl⟩, fun b z => absurd z (j b), e0.bs, e0.bsz, fun b _ _ => j b, fun b z => absurd z (j b), e0.funs, e0.frf⟩,
  rfl, e0.bare, Un.kept hk, ⟨_, x.toInCall.ns, fun i y v h1 h2 h3 => ?_⟩, fun y c h => ⟨_, x.cell y c h⟩, e0.hok.fresh (Y9 _), fun y c h => ?_, fun p o => absurd (show p ∈ ([] : List (Addr × Obj)) from o) (by simp), e0.hok.kept hk, ?_⟩
 .exact name_of_addr x.apart (XA h1) (XA h2)
 .have g:scope.names.lookup y=some .cell\/scope.names.lookup y=some .free:=g;rcases g with g|g
  .exact PF g
  .exact absurd rfl (S.nofree _ (XA g))
 .exact XN (x.above y c (XA h))
 .have hi:i < vs.length:=by
   unfold start at h2
   by_cases hi:i < vs.length
   .exact hi
   .rw[X0 (by simpa using hi)]at h2;rw[List.getElem?_replicate]at h2
    split at h2 <;> cases h2
  have ha:vs[i]?=some v:=by
   unfold start at h2;rw[Up (by simpa using hi),Ya]at h2;cases e:vs[i]? with
   |none=>rw[e]at h2;cases h2
   |some a=>rw[e]at h2;cases h2;rfl
  obtain⟨u,hu,rv⟩:=r.get ha;have o:ps[i]?=some y:=by
   rw[<-S.pre,List.getElem?_take_of_lt (by lia)];exact h1
  have aa:ps.Nodup:=by rw[<-S.pre];exact S.nd.sublist (Ul _ _)
  refine⟨u,rv,?_⟩;rcases S.par y (Yk o) with k|k
  .exact .inl ⟨k,Zu aa o hu k⟩
  .obtain⟨c,e⟩:=PF (n:=s.heap.objs.size+ 1) k;refine .inr ⟨.inl k,c,e,?_⟩;have q:=x.cell y c e;rw[Q2 aa o hu (by show scope.names.lookup y≠_;rw[k];decide)]at q;exact q
 .exact e0.hok.fresh (XN (x.above y c (XA h)))
 .unfold start;show _=N.length;rw[List.length_append,Y1,List.length_replicate]
  lia
theorem EZ{CX:RP}{P:J9}{w:Jd}{K:Je}{mg:J5}{base:Jj}{k:Nat}{f:Jg}{name qual:Str}{params:Arguments}{body:List Stmt}{scope:Scope}{dV kV doc pm cdv ct oc:Jf}{an od:Option Addr}
  {osl:Array (Option Value)} {N ps:List Str} {sp:Sp} (lk:K.lookup f=some ⟨oc,od,.func (W.fnOf name qual params body scope dV kV doc pm an cdv ct),osl⟩) (hcd:W.codeIn K cdv qual=true) (S:Nv N ps scope)
  (len:∀vs H Q E,sp vs H Q E->vs.length=ps.length)
  (hbody : ∀ (A : Around) (outer : List Env) (s : Shared) (H : Hp) (vs : List V) (Q : VK) (E : XK), Room k (A.deeper (envOfC qual scope s.heap.objs.size f cdv)) -> sp vs H Q E ->
   ∃ t, Dl (Mz CX P w K mg base N qual scope f cdv A outer s H E) body t /\ t { nx := fun _ H' => Q .non H', rt := Q } (start N vs) H) :
  Ju P w K mg base CX (k+ 1) f (W.fnOf name qual params body scope dV kV doc pm an cdv ct) ps sp:=by
 refine⟨len,fun A outer s H args us vs Q E j a hb r g=>?_⟩;have hl:=len _ _ _ _ g;have z:K.In s.heap:=a.mod.kin.keeps fun b o e=>(a.bs b o e).1
 have p:s.heap.NoLimit:=a.mod.nolimit.keeps fun b o e=>(a.bs b o e).1
 have c:∀y∈ps.zip us,scope.names.lookup y.1=some .local\/(scope.names.lookup y.1=some .cell/\((cellsFrom (s.heap.objs.size+ 1) scope.names []).lookup y.1).isSome=true):=fun⟨n,v⟩ hy=>by
  rcases S.par n (Ww hy).1 with q|q
  .exact .inl q
  .exact .inr ⟨q,W.cellsFrom_some _ _ _ (.inl q)⟩
 refine codeAny_call_function j.depth (z _ _ lk) rfl S.co S.gen rfl (W.codeRec_of z hcd) (hb _ _ _ _ ?_);refine wpAny_newFunctionEnv_cells S.kind c fun env he s1 x=>?_
 subst he;refine⟨p.keeps x.toInCall.keep,codeAny_func ?_⟩;obtain⟨t,ht,hq⟩:=hbody A outer s H vs Q E (j.deeper _) g;have I:Jq (Mz CX P w K mg base N qual scope f cdv A outer s H E) [] (start N vs) H s1:=uO S j.hd a hl r x;refine YI (ht [] s1 (start N vs) H _ I hq) (fun fl s' hs=>?_) fun e s' hs=>hs
 have h:∀{σ':St} {H':Hp} {v:V} {u:Jf},Jq (Mz CX P w K mg base N qual scope f cdv A outer s H E) [] σ' H' s'->Jz v u->Q v H'->CE outer P w H s Q u s':=
  fun {σ' H' v u} J i q=>⟨v,H',J.os,J.bare,J.base,J.hok,i,q⟩
 cases fl with
 |ret u=>
  obtain⟨v,σ',H',J,i,q⟩:=hs;exact h J i q
 |next=>
  obtain⟨σ',H',J,q⟩:=hs;exact h (v:=V.non) (u:=Value.none) J rfl q
 |brk=>
  obtain⟨_,_,_,q⟩:=hs;exact False.elim q
 |cont=>
  obtain⟨_,_,_,q⟩:=hs;exact False.elim q
section
variable{X:Cx}{x:Str}{p pos:Pos}{e:Jk}{es:List Expr}{t:TA}{id T:String}{r:List V->Hp->VK->Prop}
def AF(r:List V->Hp->VK->Prop)(t:TA):TE:=fun σ H Q=>t σ H fun vs H1=>r vs H1 Q
theorem xX(hc:JN X (.builtin id) r)(hg:Gl X x)(hm:X.mg x=none)(hv:bootBuiltins x=some (.builtin id))(ha:PA X (e::es) t)(hn:x≠"__name__":=by decide)(hdb:(x==("__debug__":Str))=false:=by decide)
  (he:starEach (e::es) X.env=(false,eval e X.env)::starEach es X.env:=by rfl) (hpl:(backTo pos (starEach es X.env)).any (·.1)=false:=by rfl):PE X (.Call (.Name x p) (e::es) [] pos) (AF r t):=by
 intro pins s σ H Q I h;refine XT (ER I hg hm hv ?_ hn hdb);exact PyProof.Rows.callWith_builtin1 (JO (ha pos pins s σ H _ I h) fun a s1 ⟨vs,H1,f,b,c⟩=>hc pins s1 σ H1 vs a Q f b c) he hpl
theorem HC(hc:JN X (.type T) r)(hg:Gl X x)(hm:X.mg x=none)(hv:bootBuiltins x=some (.type T))(ha:PA X (e::es) t)(hn:x≠"__name__":=by decide)(hdb:(x==("__debug__":Str))=false:=by decide)
  (he:starEach (e::es) X.env=(false,eval e X.env)::starEach es X.env:=by rfl) (hpl:(backTo pos (starEach es X.env)).any (·.1)=false:=by rfl):PE X (.Call (.Name x p) (e::es) [] pos) (AF r t):=by
 intro pins s σ H Q I h;refine XT (ER I hg hm hv ?_ hn hdb);exact US (JO (ha pos pins s σ H _ I h) fun a s1 ⟨vs,H1,f,b,c⟩=>hc pins s1 σ H1 vs a Q f b c) he hpl
end
end L2
namespace HT
open PySem PyProof.Rows
theorem eqAt_int(A:Jc)(s:Ja)(a:Int)(t:Tok)(c:Int)(u:Tok):∃e,SeqAt.EqAt A s (.int a t) (.int c u) e/\(e=true↔a=c):=
 ⟨(a==c),SeqAt.EqAt.int_int a t c u,by simp⟩
theorem rcLt_int(A:Jc)(s:Ja)(a:Int)(t:Tok)(c:Int)(u:Tok)(prog:J9)(w:Jd)(E:J6)(Q:J6)(h:Q (.bool (decide (a < c))) s):
  wpAny (model prog w) A (richCompare .Lt (.int a t) (.int c u)) Q E s:=
 (PyProof.Rows.lt_int h:wpAny (model prog w) A (compareOp .Lt (.int a t) (.int c u)) Q E s)
section
variable{prog:J9}{w:Jd}{A:Jc}{E:J6}{s:Ja}
def sIx(n d:Nat):Option Int->Nat
 |none=>d
 |some v=>if v < 0 then(v+ (n:Int)).toNat else min v.toNat n
theorem sIx_none(n d:Nat):sIx n d none=d:=rfl
theorem sIx_nat(n d k:Nat):sIx n d (some (k:Int))=min k n:=by
 show(if(k:Int) < 0 then((k:Int)+ (n:Int)).toNat else min (k:Int).toNat n)=min k n;rw[Y2 (by lia),Xv]
end
end HT
namespace L2
open PySem PySem.Spec PyProof.Rows
abbrev TO:=St->Hp->(Option Int->Hp->Prop)->Prop
def PO(X:Cx)(e:Option Expr)(t:TO):Prop:=
 ∀ (pins:J8) (s:Ja) (σ:St) (H:Hp) (Q:Option Int->Hp->Prop),Jq X pins σ H s->t σ H Q->
  wpAny (model X.prog X.w) X.A (evalPart e X.env) (fun u s'=>∃o H',Jq X pins σ H' s'/\IsPart u o/\Q o H') X.xe s
def Il:TO:=fun _ H Q=>Q none H
def Lc(t:TE):TO:=fun σ H Q=>t σ H fun x H1=>∃i,x= .int i/\Q (some i) H1
section
variable{X:Cx}{e:Jk}{te:TE}{lo hi:Option Expr}{tl th:TO}{pos p2:Pos}
theorem SI:PO X none Il:=by
 intro pins s σ H Q I h;rw[evalPart_none];exact Y6 ⟨none,H,I,.none,h⟩
theorem CH(h:PE X e te):PO X (some e) (Lc te):=by
 intro pins s σ H Q I c;rw[evalPart_some];refine JO (h pins s σ H _ I c) fun u s1 ⟨x,H1,f,a,b⟩=>?_
 obtain⟨i,rfl,q⟩:=b;obtain⟨t,rfl⟩:=a;exact⟨some i,H1,f,.int i t,q⟩
def EC(X:Cx)(r:V->Option Int->Option Int->Hp->VK->Prop):Prop:=
 ∀ (pins:J8) (s:Ja) (σ:St) (H:Hp) (x:V) (v vl vu:Jf) (lo hi:Option Int) (sl:Jg) (Q:VK),Jq X pins σ H s->Jz x v->s.heap.IsSliceOf sl vl vu .none->IsPart vl lo->IsPart vu hi->r x lo hi H Q->
  ∃T id,typeLookup (.type T) "__getitem__"=pure (some (.builtin id))/\s.TypeIs v T/\wpAny (model X.prog X.w) X.A (getItem v (.ref sl)) (EP X pins σ Q) X.xe s
def HY(r:V->Option Int->Option Int->Hp->VK->Prop)(te:TE)(tl th:TO):TE:=fun σ H Q=>te σ H fun x H1=>tl σ H1 fun l H2=>th σ H2 fun u H3=>r x l u H3 Q
theorem KO{r:V->Option Int->Option Int->Hp->VK->Prop}(hr:EC X r)(he:PE X e te)(hl:PO X lo tl)(hu:PO X hi th):PE X (.Subscript e (.Slice lo hi none p2) pos) (HY r te tl th):=by
 intro pins s σ H Q I h;refine Subscript_ (JO (he pins s σ H _ I h) fun v s1 ⟨x,H1,I1,i,o⟩=>?_);refine wpAny_Slice (JO (hl pins s1 σ H1 _ I1 o) fun f s2 ⟨l,H2,I2,z,n⟩=>JO (hu pins s2 σ H2 _ I2 n) fun c a ⟨u,g,I3,p,j⟩=>?_);rw[evalPart_none];refine Y6 ?_;have I4:Jq X pins σ g {a with heap:=a.heap.push {cls:=.type "slice",data:=.fields #[f,c,.none]}}:=I3.kept (t':=a.toks) fun b ob q=>Y8 _ q
 obtain⟨T,id,hT,ht,hg⟩:=hr pins {a with heap:=a.heap.push {cls:=.type "slice",data:=.fields #[f,c,.none]}} σ g x v f c l u a.heap.objs.size Q I4 i (Heap.IsSliceOf.new ..) z p j;show wpAny (model X.prog X.w) X.A (subscriptTail e (.Slice lo hi none p2) v (.ref a.heap.objs.size)) (EP X pins σ Q) X.xe {a with heap:=a.heap.push {cls:=.type "slice",data:=.fields #[f,c,.none]}};exact tail_any (ops:=[.ref a.heap.objs.size,v]) ht hT hg (by with_unfolding_all rfl)
def Gv(xs:List V)(lo hi:Option Int):List V:=(xs.drop (HT.sIx xs.length 0 lo)).take (HT.sIx xs.length xs.length hi - HT.sIx xs.length 0 lo)
theorem ZZ(xs:List V)(lo hi:Option Int):(Gv xs lo hi).length <=xs.length:=by
 unfold Gv;rw[Yu,X1]
 lia
end
def A1(n:Nat)(i:Int):Option Nat:=if 0 <=i then(if i < n then some i.toNat else none) else if -(n:Int) <=i then some (i+ n).toNat else none
def GH{α:Type}(xs:List α)(i:Int):Option α:=(A1 xs.length i).bind fun j=>xs[j]?
theorem aD{n:Nat}{i:Int}{j:Nat}(h:A1 n i=some j):seqIndex? i n=some j/\j < n/\ -(n:Int) <=i/\i < n:=by
 unfold A1 at h
 by_cases h0:0 <=i
 .rw[Y3 h0]at h
  by_cases h1:i < n
  .rw[Y3 h1]at h;have e:i.toNat=j:=Option.some.inj h;exact⟨by rw[seqIndex_of h0 h1,e],by lia,by lia,h1⟩
  .rw[Y2 h1]at h;cases h
 .rw[Y2 h0]at h
  by_cases h1: -(n:Int) <=i
  .rw[Y3 h1]at h;have e:(i+ n).toNat=j:=Option.some.inj h;exact⟨by rw[seqIndex_neg (by lia) h1,e],by lia,h1,by lia⟩
  .rw[Y2 h1]at h;cases h
theorem QJ{α:Type}{xs:List α}{i:Int}{v:α}(h:GH xs i=some v):∃j,seqIndex? i xs.length=some j/\xs[j]?=some v/\j < xs.length/\ -(xs.length:Int) <=i/\i < xs.length:=by
 unfold GH at h;cases e:A1 xs.length i with
 |none=>rw[e]at h;cases h
 |some j=>
  rw[e]at h;obtain⟨h1,h2,b,a⟩:=aD e;exact⟨j,h1,h,h2,b,a⟩
theorem CO{α:Type}{xs:List α}{j:Nat}{v:α}(h:xs[j]?=some v):GH xs (j:Int)=some v:=by
 have a:j < xs.length:=(Y4.mp h).1;have e:A1 xs.length (j:Int)=some j:=by
  unfold A1;rw[Y3 (by lia),Y3 (by lia)];simp
 unfold GH;rw[e];exact h
def LY(b:Jk):Prop:=∀o i,subscripted b false o i=operate [o,i] (getItem o i)
def Rv(X:Cx)(r:R2):Prop:=
 ∀ (value slice:Jk) (pins:J8) (s:Ja) (σ:St) (H:Hp) (x y:V) (v u:Jf) (Q:VK),Jq X pins σ H s->Jz x v->Jz y u->r x y H Q->
  subscripted slice false v u=operate [v,u] (getItem v u)->wpAny (model X.prog X.w) X.A (subscriptTail value slice v u) (EP X pins σ Q) X.xe s
def Fh(X:Cx)(id:String)(r:V->List V->Hp->VK->Prop):Prop:=
 ∀ (pins:J8) (s:Ja) (σ:St) (H:Hp) (x:V) (xs:List V) (v:Jf) (us:Ji) (Q:VK),Jq X pins σ H s->Jz x v->JB xs us->r x xs H Q->
  wpAny (model X.prog X.w) X.A (call (.builtin id) (v::us)) (EP X pins σ Q) X.xe s
section
variable{X:Cx}{a b:Jk}{ta tb:TE}{pos:Pos}
theorem C6{r:R2}(hr:Rv X r)(ha:PE X a ta)(hb:PE X b tb)(hs:LY b):PE X (.Subscript a b pos) (Rs r ta tb):=by
 intro pins s σ H Q I h;exact Subscript_ (IC ha hb I h fun v u s2 x y H2 c rx ry q=>hr a b pins s2 σ H2 x y v u Q c rx ry q (hs _ _))
def Ag(K:Je):R2:=fun x y H Q=>∃p xs i v,x= .ref p/\y= .int i/\JA K H p xs/\GH xs i=some v/\Q v H
def Ax(K:Je):R2:=fun x y H Q=>∃p xs i v,x= .ref p/\y= .int i/\N8 K H p xs/\GH xs i=some v/\Q v H
theorem c5:Rv X (Ag X.K):=by
 intro value n pins s σ H x y v u Q I rx ry h hs;obtain⟨p,xs,i,z,rfl,rfl,o,he,q⟩:=h;cases rx;obtain⟨t,rfl⟩:=ry;obtain⟨f,r,b,hz⟩:=I.list o;obtain⟨j,h1,h2,h3,h4,h5⟩:=QJ he;obtain⟨w,g,e⟩:=r.get h2;have hl:=r.length;have hn:=Fu;have a:EP X pins σ Q w s:=⟨z,H,I,e,q⟩
 by_cases h0:0 <=i
 .have c:i.toNat=j:=by
   rw[seqIndex_of h0 h5]at h1;exact Option.some.inj h1
  exact item_listR b.isList h0 (by lia) (by rw[c];simpa using g) a hs
 .have c:(i+ (f.toArray.size:Int)).toNat=j:=by
   rw[seqIndex_neg (by lia) h4]at h1;rw[Yj,<-hl];exact Option.some.inj h1
  exact subscriptTail_builtinR (x:=w) b.isList.typeIs slot_list_getitem.lookup
   (wpAny_getItem_list_neg (Q:=fun r s'=>r=w/\EP X pins σ Q r s') b.isList (by lia) (by rw[Yj] <;> lia) (by lia) (by rw[c];simpa using g) ⟨rfl,a⟩) hs
theorem ZW:Rv X (Ax X.K):=by
 intro value e pins s σ H x y v u Q I rx ry h hs;obtain⟨p,xs,i,z,rfl,rfl,f,n,q⟩:=h;cases rx;obtain⟨t,rfl⟩:=ry;obtain⟨aa,r,b,hz⟩:=I.tuple f;obtain⟨j,h1,h2,h3,h4,h5⟩:=QJ n;obtain⟨w,o,a⟩:=r.get h2;have g:=r.length;have hn:=Fu;have c:EP X pins σ Q w s:=⟨z,H,I,a,q⟩;exact subscriptTail_builtinR (x:=w) b.typeIs slot_tuple_getitem.lookup
  (getItem_tuple (j:=j) (Q:=fun r s'=>r=w/\EP X pins σ Q r s') b (by lia) (by lia) (by rw[Yj,<-g];exact h1) (by simpa using o) ⟨rfl,c⟩) hs
theorem yO(lo hi:Option Int)(n:Nat):(sliceBounds lo hi none n).1=((HT.sIx n 0 lo:Nat):Int)/\(sliceBounds lo hi none n).2.1=((HT.sIx n n hi:Nat):Int)/\(sliceBounds lo hi none n).2.2=1:=by
 refine⟨?_,?_,rfl⟩
 .cases lo with
  |none=>simp[sliceBounds,HT.sIx]
  |some i=>
   simp only[sliceBounds,HT.sIx,Option.getD_none,show(1:Int) > 0 by decide,if_true]
   by_cases h:i < 0
   .simp only[h,if_true] <;> lia
   .simp only[h,if_false] <;> lia
 .cases hi with
  |none=>simp[sliceBounds,HT.sIx]
  |some i=>
   simp only[sliceBounds,HT.sIx,Option.getD_none,show(1:Int) > 0 by decide,if_true]
   by_cases h:i < 0
   .simp only[h,if_true] <;> lia
   .simp only[h,if_false] <;> lia
theorem mN(its:Ji)(lo hi:Option Int):slicePick its.toArray lo hi none=((its.drop (HT.sIx its.length 0 lo)).take (HT.sIx its.length its.length hi - HT.sIx its.length 0 lo)).toArray:=by
 obtain⟨h1,h2,a⟩:=yO lo hi its.toArray.size;unfold slicePick;rw[h1,h2,a];simp only[sliceRange_one,pick_run,Yj] <;> rfl
def Fs(K:Je):V->Option Int->Option Int->Hp->VK->Prop:=fun x lo hi H Q=>∃a xs,x= .ref a/\JA K H a xs/\∀p,H p=none->Q (.ref p) (upd H p (.lst (Gv xs lo hi)))
theorem mG:EC X (Fs X.K):=by
 intro pins s σ H x v w p lo hi z Q I rx hs g f h;obtain⟨a,xs,rfl,j,q⟩:=h;cases rx;obtain⟨n,r,e,i⟩:=I.list j;have c:=r.length;refine⟨"list",_,slot_list_getitem.lookup,e.isList.typeIs,?_⟩;refine wpAny_getItem_list_slice e.isList hs g f .none (by simp) ?_ (by rw[Yj] <;> lia);rw[mN,<-c];refine⟨.ref s.heap.objs.size,_,I.laid (t':=s.toks) (o:=.lst (Gv xs lo hi)) (fun b ob q=>Y8 _ q) (Y9 _) ?_,rfl,q _ (I.hok.fresh (Y9 _))⟩;exact⟨YD (ZZ xs lo hi) i,_,0,(r.drop (HT.sIx xs.length 0 lo)).take (HT.sIx xs.length xs.length hi - HT.sIx xs.length 0 lo),Ye _ rfl⟩
def ED:V->Bool
 | .non=>true
 | .bl _=>true
 | .int _=>true
 | .str _=>true
 |_=>false
def Ex:V->V->Bool
 | .non,.non=>true
 | .bl a,.bl b=>a==b
 | .bl a,.int b=>(if a then 1 else 0)==b
 | .int a,.bl b=>a==(if b then 1 else 0)
 | .int a,.int b=>a==b
 | .str a,.str b=>a==b
 |_,_=>false
theorem jQ{A:Jc}{s:Ja}{y x:V}{u v:Jf}(ry:Jz y u)(rx:Jz x v)(fy:ED y=true)(fx:ED x=true):SeqAt.EqAt A s u v (Ex y x):=by
 cases y with
 |non=>
  cases ry;cases x with
  |non=>cases rx;exact SeqAt.EqAt.same _
  |bl b=>cases rx;exact SeqAt.EqAt.none_bool b
  |int b=>obtain⟨t,rfl⟩:=rx;exact SeqAt.EqAt.none_int b t
  |str b=>obtain⟨t,rfl⟩:=rx;exact SeqAt.EqAt.none_str b t
  |_=>exact absurd (show false=true from fx) Yg
 |bl a=>
  cases ry;cases x with
  |non=>cases rx;exact SeqAt.EqAt.bool_none a
  |bl b=>cases rx;exact SeqAt.EqAt.bool_bool a b
  |int b=>obtain⟨t,rfl⟩:=rx;exact SeqAt.EqAt.bool_int a b t
  |str b=>obtain⟨t,rfl⟩:=rx;exact SeqAt.EqAt.bool_str a b t
  |_=>exact absurd (show false=true from fx) Yg
 |int a=>
  obtain⟨c,rfl⟩:=ry;cases x with
  |non=>cases rx;exact SeqAt.EqAt.int_none a c
  |bl b=>cases rx;exact SeqAt.EqAt.int_bool a c b
  |int b=>obtain⟨t,rfl⟩:=rx;exact SeqAt.EqAt.int_int a c b t
  |str b=>obtain⟨t,rfl⟩:=rx;exact SeqAt.EqAt.int_str a c b t
  |_=>exact absurd (show false=true from fx) Yg
 |str a=>
  obtain⟨c,rfl⟩:=ry;cases x with
  |non=>cases rx;exact SeqAt.EqAt.str_none a c
  |bl b=>cases rx;exact SeqAt.EqAt.str_bool a c b
  |int b=>obtain⟨t,rfl⟩:=rx;exact SeqAt.EqAt.str_int a c b t
  |str b=>obtain⟨t,rfl⟩:=rx;exact SeqAt.EqAt.str_str a c b t
  |_=>exact absurd (show false=true from fx) Yg
 |_=>exact absurd (show false=true from fy) Yg
def Ep(x:V)(u:Jf):Bool:=match u with
 | .none=>Ex .non x
 | .bool b=>Ex (.bl b) x
 | .int i _=>Ex (.int i) x
 | .str z _=>Ex (.str z) x
 |_=>false
theorem Z3{x y:V}{u:Jf}(r:Jz y u)(f:ED y=true):Ep x u=Ex y x:=by
 cases y with
 |non=>cases r;rfl
 |bl b=>cases r;rfl
 |int i=>obtain⟨t,rfl⟩:=r;rfl
 |str z=>obtain⟨t,rfl⟩:=r;rfl
 |_=>exact absurd (show false=true from f) Yg
theorem HZ{x:V}:∀{xs:List V} {us:Ji},JB xs us->xs.all ED=true->us.any (Ep x)=xs.any fun y=>Ex y x
 |_,_,.nil,_=>rfl
 |y::xs,u::us,.cons r t,f=>by
  rw[List.all_cons,X2]at f;rw[Uh,Uh,Z3 r f.1,HZ t f.2]
theorem IX{A:Jc}{s:Ja}{x:V}{v:Jf}(rx:Jz x v)(fx:ED x=true):∀{xs:List V} {us:Ji},JB xs us->xs.all ED=true->∀u∈us,SeqAt.EqAt A s u v (Ep x u)
 |_,_,.nil,_=>fun u hu=>by cases hu
 |y::xs,u::us,.cons r t,f=>fun u' hu=>by
  rw[List.all_cons,X2]at f;rcases Ym.mp hu with rfl|hu
  .rw[Z3 r f.1];exact jQ r rx f.1 fx
  .exact IX rx fx t f.2 u' hu
def EM(x:V)(xs:List V):Bool:=xs.any fun y=>Ex y x
def Pu(K:Je)(neg:Bool):R2:=fun x y H Q=>∃p xs,y= .ref p/\(JA K H p xs\/N8 K H p xs)/\ED x=true/\xs.all ED=true/\Q (.bl (if neg then !EM x xs else EM x xs)) H
theorem bZ:Nz X (compareOp .In) (Pu X.K false):=by
 intro pins s σ H x y v u Q I rx ry h;obtain⟨p,xs,rfl,b,f,fs,q⟩:=h;cases ry;rcases b with b|b
 .obtain⟨a,r,c,g⟩:=I.list b;refine SeqAt.in_listAt (Ep x) c.isList (fun w e=>IX rx f r fs w (by simpa using e)) ⟨.bl _,H,I,rfl,?_⟩;rw[show a.toArray.any (Ep x)=a.any (Ep x) by simp,HZ r fs];exact q
 .obtain⟨a,r,c,g⟩:=I.tuple b;refine SeqAt.in_tupleAt (Ep x) c (fun w e=>IX rx f r fs w (by simpa using e)) ⟨.bl _,H,I,rfl,?_⟩;rw[show a.toArray.any (Ep x)=a.any (Ep x) by simp,HZ r fs];exact q
theorem eP:JN X (.builtin "len") (fun xs H Q=>∃p ys,xs=[.ref p]/\(JA X.K H p ys\/N8 X.K H p ys)/\Q (.int ys.length) H):=by
 intro pins s σ H xs i Q I r h;obtain⟨p,ys,rfl,b,q⟩:=h;obtain⟨u,rfl,rx⟩:=Rn r;cases rx;have j:=Fu;rcases b with b|b
 .obtain⟨f,c,e,g⟩:=I.list b;have a:=c.length;exact Calls.call_len_list e.isList (by simp only[Yj] <;> lia) ⟨.int ys.length,H,I.tok _,⟨s.toks+ 1,by rw[Yj,a]⟩,q⟩
 .obtain⟨f,c,e,g⟩:=I.tuple b;have a:=c.length;exact len_tuple e (by simp only[Yj] <;> lia) ⟨.int ys.length,H,I.tok _,⟨s.toks+ 1,by rw[Yj,a]⟩,q⟩
theorem tU:JN X (.builtin "len") (fun xs H Q=>∃z,xs=[.str z]/\z.length <=sizeLine/\Q (.int z.length) H):=by
 intro pins s σ H xs a Q I r h;obtain⟨z,rfl,b,q⟩:=h;obtain⟨u,rfl,t,rfl⟩:=Rn r;have c:=Fu;exact len_str (by lia) ⟨.int z.length,H,I.tok _,⟨_,rfl⟩,q⟩
theorem mP:JN X (.type "list") (fun xs H Q=>∃p ys,xs=[.ref p]/\(JA X.K H p ys\/N8 X.K H p ys)/\∀l,H l=none->Q (.ref l) (upd H l (.lst ys))):=by
 intro pins s σ H xs us Q I r h;obtain⟨p,ys,rfl,i,q⟩:=h;obtain⟨u,rfl,rx⟩:=Rn r;cases rx;have j:∀ (a:Ji),JB ys a->ys.length <=sizeLine->∀ (h':Jj) (c':Nat),(∀b o',s.heap.get? b=some o'->h'.get? b=some o')->
   h'.get? s.heap.objs.size=some {cls:=.type "list",dict:=none,data:=.seq a.toArray c',slots:=#[]}->EP X pins σ Q (.ref s.heap.objs.size) {s with heap:=h'}:=fun a c g h' c' f e=>
  ⟨.ref s.heap.objs.size,_,I.laid (t':=s.toks) f (Y9 _) (show JF X.prog X.w _ h' _ (.lst ys) from⟨g,a,c',c,e⟩),rfl,q _ (I.hok.fresh (Y9 _))⟩
 rcases i with i|i
 .obtain⟨a,c,v,g⟩:=I.list i;have aa:=c.length;obtain⟨o,z,hc,n,hd⟩:=v.isList;exact call_list_seq p (.inl rfl) z hc hd (fun h' c' f e=>j a c g h' c' f e) (by simp only[Yj] <;> lia)
 .obtain⟨a,c,v,g⟩:=I.tuple i;have aa:=c.length;obtain⟨o,z,hc,n,hd⟩:=v;exact call_list_seq p (.inr rfl) z hc hd (fun h' c' f e=>j a c g h' c' f e) (by simp only[Yj] <;> lia)
def KC(K:Je)(T:String)(x:V)(H:Hp):Prop:=match x with
 | .str _=>T="str"
 | .int _=>T="int"
 | .ref p=>(T="list"/\∃xs,JA K H p xs)\/(T="tuple"/\∃o,K.lookup p=some o/\o.cls= .type "tuple"/\o.dict=none)\/
   (T="dict"/\((∃kvs,H p=some (.dK kvs))\/∃kvs,H p=some (.dT kvs)))\/(T="set"/\∃S n,H p=some (.set S n))
 |_=>False
theorem P0{pins:J8}{σ:St}{H:Hp}{s:Ja}{T:String}{x:V}{v:Jf}(I:Jq X pins σ H s)(r:Jz x v)(ty:KC X.K T x H):
  s.TypeIs v T/\∀a,v= .ref a->∃ob,s.heap.get? a=some ob/\ob.dict=none:=by
 cases x with
 |str z=>
  obtain⟨t,rfl⟩:=r;cases (show T="str" from ty);exact⟨typeIs_str s z t,fun _ e=>nomatch e⟩
 |int i=>
  obtain⟨t,rfl⟩:=r;cases (show T="int" from ty);exact⟨typeIs_int s i t,fun _ e=>nomatch e⟩
 |ref p=>
  cases r;rcases ty with⟨rfl,xs,hq⟩|⟨rfl,o,hk,hc,b⟩|⟨rfl,hk⟩|⟨rfl,S,n,hk⟩
  .obtain⟨h,_,g,_⟩:=I.list hq;refine⟨g.isList.typeIs,fun a e=>?_⟩;cases e;obtain⟨o,n,e,c,b,_⟩:=g;exact⟨o,e,b⟩
  .refine⟨⟨o,I.kIn p o hk,hc⟩,fun a e=>?_⟩;cases e;exact⟨o,I.kIn _ o hk,b⟩
  .have z:∃o,s.heap.get? p=some o/\o.ExactDict:=by
    rcases hk with⟨kvs,hk⟩|⟨kvs,hk⟩
    .obtain⟨_,_,_,_,o,_,_,e,ex,_⟩:=I.hok p _ hk;exact⟨o,e,ex⟩
    .obtain⟨_,_,_,_,o,_,_,e,ex,_⟩:=I.hok p _ hk;exact⟨o,e,ex⟩
   obtain⟨o,e,ex⟩:=z;refine⟨⟨o,e,ex.1⟩,fun a f=>?_⟩;cases f;exact⟨o,e,ex.2.1⟩
  .obtain⟨o,_,_,_,e,ex,_⟩:=I.hok p _ hk;refine⟨⟨o,e,ex.1⟩,fun a f=>?_⟩;cases f;exact⟨o,e,ex.2.1⟩
 |_=>exact False.elim ty
def AY(K:Je)(T:String)(r:V->List V->Hp->VK->Prop)(to:TE):TE:=fun σ H Q=>to σ H fun x H1=>KC K T x H1/\r x [] H1 Q
def Hk(K:Je)(T:String)(r:V->List V->Hp->VK->Prop)(to:TE)(t:TA):TE:=fun σ H Q=>to σ H fun x H1=>KC K T x H1/\t σ H1 fun xs H2=>r x xs H2 Q
variable{o e:Jk}{es:List Expr}{to:TE}{t:TA}{name:Str}{apos cpos:Pos}{T id:String}{r:V->List V->Hp->VK->Prop}
theorem eM(pa:PlainAttrs T)(slot:Slot T name id)(hty:typeOf (.builtin id)=pure (.type "method_descriptor"))(hm:Fh X id r)(ho:PE X o to)
  (hbase:attributeBase o name X.env (eval o X.env)=eval o X.env:=by rfl) (hline:(apos.endLine==cpos.line)=true:=by rfl):PE X (.Call (.Attribute o name apos) [] [] cpos) (AY X.K T r to):=by
 intro pins s σ H Q I h;refine wpAny_Call_method0_late hbase hline (JO (ho pins s σ H _ I h) fun v s1 zz=>?_);rcases zz with⟨x,H1,b,a,ty,c⟩;obtain⟨h1,h2⟩:=P0 b a ty;exact⟨T,id,pa,slot,hty,h1,h2,Calls.callWith_builtin rfl (PySem.evalArgs_none (hm pins s1 σ H1 x [] v [] Q b a .nil c))⟩
theorem y4(pa:PlainAttrs T)(slot:Slot T name id)(hty:typeOf (.builtin id)=pure (.type "method_descriptor"))(hm:Fh X id r)(ho:PE X o to)(ha:PA X (e::es) t)
  (hbase:attributeBase o name X.env (eval o X.env)=eval o X.env:=by rfl)
  (hfew : ((backTo cpos (starEach (e :: es) X.env)).all (fun x => !x.1) && (backToKw cpos (keywordEach [] X.env)).all (fun x => x.1.isSome)
   && decide ((e :: es).length + ([] : List Keyword).length + (if ([] : List Keyword).isEmpty then 0 else 1) < 30)) = true := by rfl)
  (hline:(apos.endLine==cpos.line)=true:=by rfl) (hs:starEach (e::es) X.env=(false,eval e X.env)::starEach es X.env:=by rfl) (hplain:(backTo cpos (starEach es X.env)).any (·.1)=false:=by rfl):
  PE X (.Call (.Attribute o name apos) (e::es) [] cpos) (Hk X.K T r to t):=by
 intro pins s σ H Q I h;refine wpAny_Call_method_late hbase hfew hline rfl (JO (ho pins s σ H _ I h) fun v s1 zz=>?_);rcases zz with⟨x,H1,c,a,ty,j⟩;obtain⟨h1,h2⟩:=P0 c a ty;refine⟨T,id,pa,slot,hty,h1,h2,?_⟩;have b:=ha cpos pins s1 σ H1 _ c j;rw[hs]at b ⊢;refine Calls.callWith_builtin (by show(false||(backTo cpos (starEach es X.env)).any (·.1))=false;rw[hplain] <;> rfl) (Calls.evalArgs_plain ?_);exact JO b fun f s2 ⟨vs,H2,n,g,i⟩=>hm pins s2 σ H2 x vs v f Q n a g i
end
def Gp(X:Cx)(id:String)(r:V->List V->Hp->VK->Prop):Prop:=
 ∀ (pins:J8) (s:Ja) (σ:St) (H:Hp) (x:V) (xs:List V) (v:Jf) (us:Ji) (Q:VK),Jq X pins σ H s->Jz x v->JB xs us->r x xs H Q->
  wpAny (model X.prog X.w) X.A (call (.builtin id) (v::us)) (EP X pins σ Q) X.xe s
theorem JB.one{x:V}{us:Ji}(h:JB [x] us):∃u,us=[u]/\Jz x u:=by cases h with|cons r h=>cases h;exact⟨_,rfl,r⟩
section
variable{X:Cx}{pins:J8}{σ:St}{H:Hp}{s:Ja}{l b:Jg}{xs ys zs:List V}
theorem Jq.lset{its its':Ji}{n:Nat}{f:Array Value->Array Value}{t':Nat}(I:Jq X pins σ H s)(hH:H l=some (.lst xs))
  (e:s.heap.get? l=some {cls:=.type "list",data:=.seq its.toArray n}) (hf:f its.toArray=its'.toArray) (hv:JB ys its') (hz:ys.length <=sizeLine):
  Jq X pins σ (upd H l (.lst ys)) {s with heap:=s.heap.update l (Obj.mapSeq f),toks:=t'}:=by
 have q:=PySem.IsL.update e f;rw[hf]at q;refine I.write (x:=l) (e:=l) (by rw[hH];exact trivial) (.inl rfl) (fun c u b a=>(YL s.heap (Obj.mapSeq f) (Ne.symm b)).trans a) ⟨_,q⟩ ?_;exact⟨hz,its',_,hv,q⟩
theorem Jq.lnew{its:Ji}{t':Nat}(I:Jq X pins σ H s)(hv:JB ys its)(hz:ys.length <=sizeLine):
  Jq X pins σ (upd H s.heap.objs.size (.lst ys)) {s with heap:=s.heap.push {cls:=.type "list",data:=.seq its.toArray},toks:=t'}:=
 I.laid (fun _ _ q=>Y8 _ q) (Y9 _) ⟨hz,its,0,hv,Ye _ rfl⟩
theorem Jq.fresh(I:Jq X pins σ H s):H s.heap.objs.size=none:=I.hok.fresh (Y9 _)
theorem Jq.lstM(I:Jq X pins σ H s)(hH:H l=some (.lst xs)):xs.length <=sizeLine/\∃ (its:Ji) (n:Nat),JB xs its/\xs.length=its.length/\s.heap.get? l=some {cls:=.type "list",data:=.seq its.toArray n}:=by
 obtain⟨z,its,n,r,e⟩:=I.hok l _ hH;exact⟨z,its,n,r,r.length,e⟩
theorem xJ{n:Nat}(h:n <=sizeLine):Builtin.List.listTooLong n=false:=by
 unfold Builtin.List.listTooLong;exact Yz (by lia)
end
section
variable{X:Cx}
def Iu:V->List V->Hp->VK->Prop:=fun x vs H Q=>∃l xs y,x= .ref l/\vs=[y]/\H l=some (.lst xs)/\xs.length < sizeLine/\Q .non (upd H l (.lst (xs++[y])))
theorem Rc:Gp X "list.append" Iu:=by
 intro pins s σ H x vs v f Q I rx c h;obtain⟨l,xs,y,rfl,rfl,b,g,q⟩:=h;cases rx;obtain⟨u,rfl,ru⟩:=c.one;obtain⟨z,a,n,r,i,e⟩:=I.lstM b;refine call_meets F.slot_list_append ⟨_,e,rfl⟩ F.entry_list_append (F.args_list_append_2 _ _) (PySem.list_append l a.toArray n u (by rw[Yj];lia)) ⟨e,?_⟩;refine⟨.non,_,I.lset (its':=a++[u]) b e (by simp) (r.append (.cons ru .nil)) ?_,rfl,q⟩;rw[List.length_append,UL]
 lia
def Kq:V->List V->Hp->VK->Prop:=fun x vs H Q=>∃l b xs zs,x= .ref l/\vs=[.ref b]/\H l=some (.lst xs)/\H b=some (.lst zs)/\xs.length+ zs.length <=sizeLine/\Q .non (upd H l (.lst (xs++zs)))
theorem Rb:Gp X "list.extend" Kq:=by
 intro pins s σ H x vs v us Q I rx i h;obtain⟨l,b,xs,zs,rfl,rfl,g,p,hz,q⟩:=h;cases rx;obtain⟨u,rfl,ru⟩:=i.one;cases ru;obtain⟨z,its,n,r,hl,e⟩:=I.lstM g;obtain⟨z2,a,o,j,aa,w⟩:=I.lstM p;have f:its.toArray.size+ a.toArray.size <=sizeLine:=by rw[Yj,Yj];lia
 have c:¬(!its.toArray.isEmpty && Builtin.List.listTooLong (its.toArray.size+ a.toArray.size))=true:=by
  rw[xJ f,WH];exact Yg
 refine call_meets F.slot_list_extend ⟨_,e,rfl⟩ F.entry_list_extend (F.args_list_extend_2 _ _)
  (AutoSeq1.list_extend_list_list_0 l its.toArray n b a.toArray o c (by rw[Yj];lia) (by lia)) ⟨e,w,?_⟩
 refine⟨.non,_,I.lset (its':=its++a) g e (by simp) (r.append j) ?_,rfl,q⟩;rw[List.length_append]
 lia
def Ki:R2:=fun x y H Q=>∃l b xs zs,x= .ref l/\y= .ref b/\H l=some (.lst xs)/\H b=some (.lst zs)/\xs.length+ zs.length <=sizeLine/\∀p,H p=none->Q (.ref p) (upd H p (.lst (xs++zs)))
theorem B8:Nz X (binaryOp .Add) Ki:=by
 intro pins s σ H x y v u Q I rx ry h;obtain⟨l,b,xs,zs,rfl,rfl,g,i,hz,q⟩:=h;cases rx;cases ry;obtain⟨z,c,n,r,hl,e⟩:=I.lstM g;obtain⟨w,a,n2,f,p,o⟩:=I.lstM i;refine PySem.P.add_list e o ?_ (by rw[Yj,Yj];lia);have j:c.toArray++a.toArray=(c++a).toArray:=by simp
 rw[j];exact⟨.ref _,_,I.lnew (t':=s.toks) (r.append f) (by rw[List.length_append];lia),rfl,q _ I.fresh⟩
end
end L2
namespace Att
open PySem PySem.W PySem.Calls PyProof.Rows
theorem ZB{P:Params}{h:Jj}:∀ (ns:Jh) (vs:Ji),WellAll P h vs (ns.map WData.int)->IntsAre vs ns:=by
 intro ns
 induction ns with
 |nil=>
  intro vs w;rw[List.map_nil]at w;cases w;exact .nil
 |cons n ns ih=>
  intro vs w;rw[List.map_cons]at w;cases w with
  |cons a b=>
   cases a;exact .cons _ _ (ih _ b)
theorem wW{l:OpenLaw}{n:Nat}(hn:l.most=some n){P:Params}{h:Jj}{args:List WData}{vals:Ji}
  (hpre:l.row.toRowW.claim.pre args=true) (hwl:WellAll P h vals args):
  ∃a vs ns,vals=[Value.ref a]/\args=[WData.list (ns.map WData.int)]/\h.get? a=some {cls:=.type "list",data:=.seq vs.toArray}/\IntsAre vs ns/\ns.length <=n:=by
 have f:WShape.hasAll [] args [.list .int]=true:=(pre_splitW hpre).1;have g:l.pre.holds [] {args:=args}=true:=(pre_splitW hpre).2;obtain⟨d,r,rfl,h1,h2⟩:=hasAllW_cons f;obtain rfl:=hasAllW_nil h2;obtain⟨xs,rfl,j⟩:=hasW_list h1;obtain⟨ns,rfl⟩:=items_int j;have e:ns.length <=n:=by
  unfold OpenLaw.pre at g;have c:(WTm.not (.lt (.lit (.int (n:Int))) (.len (.arg 0)))).holds [] {args:=[.list (ns.map .int)]}=true:=by
   have c:=(holds_andW g).1;rw[hn]at c;exact c
  have b:=condW_of c (w_not (w_lt w_lit (w_len_list (w_arg rfl))));rw[Y1]at b;refine Nat.le_of_not_lt fun q=>?_
  have i:(n:Int) < ((ns.length:Nat):Int):=by lia
  first
   |(rw[Yt i]at b;exact absurd b (by decide))
   |(simp at b;lia)
 cases hwl with
 |cons w1 w2=>
  cases w2;cases w1 with
  |list ho hall=>exact⟨_,_,ns,rfl,rfl,ho,ZB ns _ hall,e⟩
theorem cV(l:OpenLaw)(args:List WData):l.row.toRowW.claim.post args (.bool true) args=true:=
 postW_of (r:=l.row.toRowW) (X:=(true==true))
  (show WShape.has [] (.bool true) .bool=true by first|rfl|decide|simp[WShape.has,WShape.arms,WShape.armsAll])
  (show(WTm.eq .res (.lit (.bool true))).value [] {args:=args,res:=some (.bool true),after:=args}=some (.bool (true==true)) from w_eq_bool (w_res rfl) w_lit) rfl
theorem attach_call{l:OpenLaw}{n:Nat}{q:J9}{loose:List Str}{XP:(Str->Option Value)->Heap->Prop}{YP:World->Heap->Prop}{d:DefRec}
  (hn:l.most=some n) (hdf:d.params.defaults=[])
  (call : ∀ (w : World) (s₀ s₁ : Shared) (mg mb : Str -> Option Value) (fa : Addr) (o : Obj) (pm cd doc : Value) (a : Addr) (vs : List Value) (ns : List Int),
   Ground q loose [] XP w s₀ mg mb s₁.heap->YP w s₁.heap->
   s₁.heap.get? fa=some o->o.data= .func (docDef d.name d.params d.body d.scope pm cd doc)->s₁.heap.CodeRec cd d.name->mg d.name=some (.ref fa)->
   s₁.heap.get? a=some {cls:=.type "list",data:=.seq vs.toArray}->IntsAre vs ns->ns.length <=n->s₁.gens=#[]->
   codeAny (model l.prog w) callerA (.call (.ref fa) ⟨[.ref a], []⟩) (fun r s' => r = .ok (.ret (.bool true)) /\ OldK s₁.heap s'.heap /\ s'.os = s₁.os /\ AllBare s'.gens) s₁) :
  WalkO q loose XP YP l.row.toRowW d [] (fun f vs=>PySem.call f vs):=by
 intro w s₀ s₁ mg mb G Y fa o pm cd doc dV kV z hd j p i hg args s as c hlay hrd h hlo;obtain rfl:dV= .none:=Dflts.none p hdf;obtain rfl:kV= .none:=Dflts.noKw p;obtain⟨a,vs,ns,rfl,rfl,e,b,g⟩:=wW hn c h;refine enter_call (UK (call w s₀ s₁ mg mb fa o pm cd doc a vs ns G Y z (fd_plain hd) j i e b g hg) fun r s' v=>?_);obtain⟨rfl,h2,h3,h4⟩:=v;exact⟨.inl ⟨.bool true,.bool true,[],rfl,fun _=>rfl,.bool true,cV l _,fun _=>⟨List.Pairwise.nil,fun _ hm=>(nomatch hm)⟩⟩,h2,h3,h4⟩
section
variable{prog:J9}{w:Jd}{A:Jc}{E:J6}{s:Ja}{K:Frag}
def K8(h:Jj)(L d:Jg):List (Addr×Obj):=(List.range h.objs.size).filterMap fun a=>if a=L\/a=d then none else(h.get? a).map fun o=>(a,o)
end
end Att
namespace L2
open PySem PySem.Spec PyProof.Rows
theorem QH:∀{vs:Ji} {ns:Jh},IntsAre vs ns->JB (ns.map V.int) vs
 |_,_,.nil=>.nil
 |_,_,.cons n t h=>.cons ⟨t,rfl⟩ (QH h)
def Mv(s:Stmt)(j:Nat):Stmt:=match s with
 | .ClassDef _ _ _ body _ _ _ _ _ _ _=>body.getD j (.Pass ⟨0,0,0,0⟩)
 |_=>.Pass ⟨0,0,0,0⟩
def Df(s:Stmt):Arguments:=match s with
 | .FunctionDef _ a _ _ _ _ _ _ _ _=>a
 |_=>{posonlyargs:=[],args:=[],vararg:=none,kwonlyargs:=[],kw_defaults:=[],kwarg:=none,defaults:=[]}
def Jy(s:Stmt):List Stmt:=match s with
 | .FunctionDef _ _ b _ _ _ _ _ _ _=>b
 |_=>[]
def Jl(s:Stmt):Scope:=match s with
 | .FunctionDef _ _ _ _ _ _ sc _ _ _=>sc
 |_=>{kind:=.function,names:=[],isGenerator:=false,isCoroutine:=false}
abbrev N7:RP:=fun _ _ _ _ _ _=>False
abbrev E0:XK:=fun _ _ _=>False
theorem AO{X:Cx}:AG N7 X E0:=fun _ _ _ _ _ _ _ h=>h.elim
structure NK(K:Je)(x qual:Str)(st:Stmt)(f:Jg)(fd:Jb):Prop where
 ex:∃ (oc:Jf) (od:Option Addr) (kV doc pm:Jf) (an:Option Addr) (cdv ct:Jf) (osl:Array (Option Value)),
  fd=W.fnOf x qual (Df st) (Jy st) (Jl st) .none kV doc pm an cdv ct/\K.lookup f=some ⟨oc,od,.func fd,osl⟩/\W.codeIn K cdv qual=true
 kp:W.keepIn K (.ref f)=true
section
variable{P:J9}{w:Jd}{K:Je}{mg:J5}{base:Jj}
theorem NK.ok{x qual:Str}{st:Stmt}{f:Jg}{fd:Jb}{N ps:List Str}{k:Nat}{sp:Sp}(F:NK K x qual st f fd)(S:Nv N ps (Jl st))(len:∀vs H Q E,sp vs H Q E->vs.length=ps.length)
  (hbody : ∀ (cdv : Value) (A : Around) (outer : List Env) (s : Shared) (H : Hp) (vs : List V) (Q : VK) (E : XK), Room k (A.deeper (envOfC qual (Jl st) s.heap.objs.size f cdv)) -> sp vs H Q E ->
   ∃ t, Dl (Mz N7 P w K mg base N qual (Jl st) f cdv A outer s H E).nox (Jy st) t /\ t { nx := fun _ H' => Q .non H', rt := Q } (start N vs) H) : Ju P w K mg base N7 (k + 1) f fd ps sp := by
 obtain⟨n,j,kV,i,pm,o,cdv,ct,g,rfl,c,b⟩:=F.ex;refine EZ c b S len fun A outer s H vs Q E e a=>?_
 obtain⟨t,h,q⟩:=hbody cdv A outer s H vs Q E e a;exact⟨t,h.nox,q⟩
theorem NK.binds{x qual:Str}{st:Stmt}{f:Jg}{fd:Jb}{ps:List Str}(F:NK K x qual st f fd)
  (h:∀ (kV doc pm:Jf) (an:Option Addr) (cdv ct:Jf) (us:Ji),us.length=ps.length->bindArgs (W.fnOf x qual (Df st) (Jy st) (Jl st) .none kV doc pm an cdv ct) ⟨us,[]⟩=pure (ps.zip us)):TU K fd ps []:=by
 obtain⟨e,c,kV,doc,pm,an,cdv,ct,a,rfl,g,b⟩:=F.ex;exact .all (h kV doc pm an cdv ct)
theorem Cr{x qual:Str}{st:Stmt}{f:Jg}{oc:Jf}{od an:Option Addr}{osl:Array (Option Value)}{kV doc pm cdv ct:Jf}(l:K.lookup f=some ⟨oc,od,.func (W.fnOf x qual (Df st) (Jy st) (Jl st) .none kV doc pm an cdv ct),osl⟩)
  (c:W.codeIn K cdv qual=true) (k:W.keepIn K (.ref f)=true):NK K x qual st f (W.fnOf x qual (Df st) (Jy st) (Jl st) .none kV doc pm an cdv ct):=⟨⟨oc,od,kV,doc,pm,an,cdv,ct,osl,rfl,l,c⟩,k⟩
end
theorem Gy{A:Jc}{k:Nat}(hr:Room k A):A.units+ 1 < cLine:=Yn (Nat.add_le_add_left (by decide:1 <=64) _) hr.units
section
variable{X:Cx}
theorem pv(i:Nat){x:Str}{pos:Pos}(hN:X.N[i]?=some x:=by rfl)(hv:AZ X.env.scope x:=by first|exact Or.inl rfl|exact Or.inr (Or.inl rfl)|exact Or.inr (Or.inr rfl))(hd:(x==("__debug__":Str))=false:=by decide)
  (hcd:(x==("__classdict__":Str))=false:=by decide):PE X (.Name x pos) (Hw i):=r9 hN hv hd hcd
end
theorem DX{c A B:Prop}[Decidable c](h1:c->A)(h2:¬c->B):if c then A else B:=by
 by_cases h:c
 .rw[Y3 h];exact h1 h
 .rw[Y2 h];exact h2 h
def Jo(H H':Hp):Prop:=∀b o,H b=some o->H' b=some o
theorem Jo.refl(H:Hp):Jo H H:=fun _ _ h=>h
theorem Jo.trans{H H1 H2:Hp}(a:Jo H H1)(b:Jo H1 H2):Jo H H2:=fun c o h=>b c o (a c o h)
theorem Jo.free{H H':Hp}(e:Jo H H'){l:Jg}(h:H' l=Option.none):H l=Option.none:=by
 cases q:H l with
 |none=>rfl
 |some o=>
  rw[e l o q]at h;cases h
end L2
set_option maxHeartbeats 4000000
namespace L2
open PySem PySem.Spec PyProof.Rows
theorem Lw{env:Env}:∀ (names:List (Str×NameKind)) (cs:List (Str×Addr)),(∀x,(x,NameKind.free)∈names->∃c,env.cells.lookup x=some c)->
  (∀x c,cs.lookup x=some c->env.cells.lookup x=some c)->
  ∃cl,(forIn names cs fun(p:Str×NameKind) (r:List (Str×Addr))=>(match p with|(name,kind)=>(if(kind==NameKind.free)=true then(do let a <-cellOf env name;pure (ForInStep.yield ((name,a)::r))) else pure (ForInStep.yield r)):Sem (ForInStep (List (Str×Addr)))))=pure cl/\
   (∀x c,cl.lookup x=some c->env.cells.lookup x=some c)/\(∀x,(x,NameKind.free)∈names->∃c,cl.lookup x=some c)/\∀x,(∃c,cs.lookup x=some c)->∃c,cl.lookup x=some c
 |[],cs,_,h2=>⟨cs,rfl,h2,(fun _ h=>nomatch h),fun _ h=>h⟩
 |(n,k)::r,cs,h1,h2=>by
  by_cases hk:k=NameKind.free
  .subst hk;obtain ⟨c, hc⟩ := h1 n YE;obtain ⟨cl, e, a, b, d⟩ := Lw r ((n, c) :: cs) (fun x f => h1 x (Yp _ f)) (fun x c' f => by
    rw[Ut]at f;cases q:x==n with
    |true=>rw[q]at f;cases f;rw[eq_of_beq q];exact hc
    | false => rw [q] at f; exact h2 x c' f)
   refine⟨cl,?_,a,fun x f=>?_,fun x ⟨c',f⟩=>?_⟩
   .rw[V3];have:cellOf env n=pure c:=by unfold cellOf;rw[hc]
    simp only[this,beq_self_eq_true,if_true];exact e
   .rcases Ym.mp f with z|z
    .cases z;exact d _ ⟨c,by simp[Ut]⟩
    .exact b x z
   .refine d x ?_;rw[Ut];cases q:x==n with
    |true=>exact⟨c,rfl⟩
    |false=>exact⟨c',f⟩
  .obtain⟨cl,e,a,b,d⟩:=Lw r cs (fun x f=>h1 x (Yp _ f)) h2;have g:(k==NameKind.free)=false:=by simpa using hk
   refine⟨cl,?_,a,fun x f=>?_,d⟩
   .rw[V3];simp only[g,Bool.false_eq_true,if_false];exact e
   .rcases Ym.mp f with z|z
    .cases z;exact absurd rfl hk
    .exact b x z
theorem Ks{scope:Scope}{env:Env}(h:∀x,(x,NameKind.free)∈scope.names->∃c,env.cells.lookup x=some c):
  ∃cl,closureFor scope env=pure cl/\(∀x c,cl.lookup x=some c->env.cells.lookup x=some c)/\∀x,(x,NameKind.free)∈scope.names->∃c,cl.lookup x=some c:=by
 obtain⟨cl,e,a,b,_⟩:=Lw scope.names [] h (fun x c z=>nomatch z);refine⟨cl,?_,a,b⟩;unfold closureFor;show(forIn scope.names [] _ >>=fun f=>pure f)=pure cl;rw[show(forIn scope.names ([]:List (Str×Addr)) _:Sem _)=pure cl from e];rfl
theorem Ir{env:Env}{x:Str}:∀{names:List (Str×NameKind)} {k:NameKind},(names.map fun(n,k)=>if(k==NameKind.free && env.scope.kind== .function && env.kindOf n==some .cell) then(n,NameKind.cell) else(n,k)).lookup x=some k->
  (x,k)∈names\/(k=NameKind.cell/\(x,NameKind.free)∈names)
 |[],_,h=>by simp at h
 |(n,k')::r,k,h=>by
  have ih:=@Ir env x r k;have h':List.lookup x ((if(k'==NameKind.free && env.scope.kind== .function && env.kindOf n==some .cell)=true then(n,NameKind.cell) else(n,k'))::(r.map fun(n,k)=>if(k==NameKind.free && env.scope.kind== .function && env.kindOf n==some .cell) then(n,NameKind.cell) else(n,k)))=some k:=h
  by_cases hc:(k'==NameKind.free && env.scope.kind== .function && env.kindOf n==some .cell)=true
  .rw[Y3 hc,Ut]at h';cases q:x==n with
   |true=>
    rw[q]at h';have e:NameKind.cell=k:=Option.some.inj h';have a:k'=NameKind.free:=by
     have:=(X2 _ _▸(X2 _ _▸hc).1).1;exact eq_of_beq this
    have ex:x=n:=eq_of_beq q;subst a ex;exact .inr ⟨e.symm,YE⟩
   |false=>
    rw[q]at h';rcases ih h' with z|⟨z1,z2⟩
    .exact .inl (Yp _ z)
    .exact .inr ⟨z1,Yp _ z2⟩
  .rw[Y2 hc,Ut]at h';cases q:x==n with
   |true=>
    rw[q]at h';have e:k'=k:=Option.some.inj h';have ex:x=n:=eq_of_beq q;subst e ex;exact .inl YE
   |false=>
    rw[q]at h';rcases ih h' with z|⟨z1,z2⟩
    .exact .inl (Yp _ z)
    .exact .inr ⟨z1,Yp _ z2⟩
theorem mL{prog:J9}{w:Jd}{A:Jc}{R:Result->Shared->Prop}{s:Ja}{elt target iter:Jk}{ifs:List Expr}{scope:Scope}{pos:Pos}{it acc:Jf}{env:Env}(I:Nat->Shared->Prop)
  (turn : ∀ n s, I n s -> wpAny (model prog w) A (pyNext it) (fun r s₁ => match r with
   |none=>R (.ok .next) s₁
   | some v => wpAny (model prog w) A (letOwnedTupleGo target it v) (fun _ s₀ => wpAny (model prog w) A (assign target env v) (fun _ s₂ =>
     wpAny (model prog w) A (forIn ifs true fun c r => if r = true then do let ok <- isTrue c env (eval c env); pure (ForInStep.yield ok) else pure (ForInStep.yield r)) (fun ok s₃ =>
      if ok = true then wpAny (model prog w) A (eval elt env) (fun x s₄ =>
       wpAny (model prog w) A (call (.builtin "list.append") [acc, x]) (fun _ s₅ => ∃ m, m < n /\ I m s₅) (fun _ _ => False) s₄) (fun _ _ => False) s₃
      else ∃ m, m < n /\ I m s₃) (fun _ _ => False) s₂) (fun _ _ => False) s₀) (fun _ _ => False) s₁) (fun _ _ => False) s)
  (n:Nat) (h:I n s):
  codeAny (model prog w) A (.compLoop (.ListComp elt [⟨target,iter,ifs,0⟩] scope pos) 0 it acc env) R s:=by
 refine codeAny_loop rfl I (fun n s j=>?_) n h;show wpAny _ A ((compTurn (.ListComp elt [⟨target,iter,ifs,0⟩] scope pos) 0 it acc env).onRaise (fun x=>do noteFrame x env;theTreesLotGoes x)) _ _ s;refine wpAny_noted (wpAny_noRaise ?_);rw[compTurn_list];refine Y0 (W0 (Y0 (YI (turn n s j) (fun r s₁ b=>?_) fun _ _ h'=>h')));cases r with
 |none=>exact Y6 b
 |some v=>
  refine Y0 (YI b (fun _ s₀ i=>?_) fun _ _ h'=>h');refine Y0 (YI i (fun _ s₂ g=>Y0 (YI g (fun ok s₃ a=>?_) fun _ _ h'=>h')) fun _ _ h'=>h');cases ok with
  |false=>exact Y6 ⟨rfl,a⟩
  |true=>
   exact Y0 (Y0 (YI a (fun x s₄ f=>Y0 (YI f (fun _ s₅ e=>Y6 (Y6 ⟨rfl,e⟩)) fun _ _ h'=>h')) fun _ _ h'=>h'))
def NQ(X:Cx)(N':List Str)(scope:Scope)(cl:List (Str×Addr))(C:Jg)(s:Ja)(H:Hp)(ex:List Addr):Cx:=
 {X with N:=N',s₀:=s,H₀:=H,env:=compEnvC scope cl C X.env,outer:=X.stack,ex:=ex,fn:=fun _=>false,pn:=[],xe:=fun _ _=>False}
def Nf(caps:List (Option Nat))(σ:St):St:=caps.map fun o=>o.bind fun j=>(σ[j]?).join
def OQ(N N':List Str)(scope:Scope)(caps:List (Option Nat)):Prop:=
 caps.length=N'.length/\∀ (i j:Nat) (x:Str),N'[i]?=some x->caps[i]?=some (some j)->N[j]?=some x/\(x,NameKind.free)∈scope.names/\∀k,(x,k)∈scope.names->k=NameKind.free
structure AR(X:Cx)(N':List Str)(scope:Scope)(caps:List (Option Nat)):Prop where
 kind:scope.kind= .function
 nocell:∀y∈scope.names,y.2≠ .cell
 locs:∀y∈scope.names,y.2= .local->scope.names.lookup y.1=some .local
 cap:OQ X.N N' scope caps
 vis:∀x,(x,NameKind.free)∈scope.names->X.env.kindOf x=some .cell\/X.env.kindOf x=some .free
def AS:TT:=fun _ H Q=>Q true H
def Bq(caps:List (Option Nat))(g:TG)(tc:TT)(te:TE)(σ:St)(Q:VK)(J:It)(H1:Hp):Prop:=
 ∃W:Nat->Nat->List V->St->Hp->Prop,(∃m,W 0 m [] (Nf caps σ) H1)/\∀i m ys σ' H,W i m ys σ' H->
  (J.stop i H/\ys.length <=sizeLine/\∀p,H p=none->Q (.ref p) (upd H p (.lst ys)))\/
  (J.go i H /\ ys.length < sizeLine /\ ∃ N : List V -> St -> Hp -> Prop, (∀ ys σ H, N ys σ H -> ∃ m', m' < m /\ W (i + 1) m' ys σ H) /\ ∀ x H', J.yld i H x H' -> g x σ' H' fun σ2 H2 => tc σ2 H2 fun b H3 =>
   if b = true then te σ2 H3 fun y H4 => N (ys ++ [y]) σ2 H4 else N ys σ2 H3)
def E5(caps:List (Option Nat))(wi:TI)(g:TG)(tc:TT)(te:TE):TE:=fun σ H Q=>wi σ H fun J H1=>Bq caps g tc te σ Q J H1
def Ra(X:Cx)(ifs:List Expr)(t:TT):Prop:=
 ∀ (pins:J8) (s:Ja) (σ:St) (H:Hp) (Q:Bool->Hp->Prop),Jq X pins σ H s->t σ H Q->
  wpAny (model X.prog X.w) X.A (forIn ifs true fun c r=>if r=true then do let ok <-isTrue c X.env (eval c X.env);pure (ForInStep.yield ok) else pure (ForInStep.yield r)) (TP X pins σ Q) X.xe s
theorem Gj{X:Cx}:Ra X [] AS:=fun _ _ _ H _ I h=>wpAny_tests_nil ⟨H,I,h⟩
theorem Fd{X:Cx}{c:Jk}{t:TT}(h:PT X c t):Ra X [c] t:=fun pins s σ H Q I q=>wpAny_tests_one (h pins s σ H Q I q)
section
variable{X:Cx}{elt tg iter:Jk}{ifs:List Expr}{scope:Scope}{pos:Pos}{N':List Str}{caps:List (Option Nat)}{wi:TI}{g:TG}{tc:TT}{te:TE}
def Mt(its:Ji)(n:Nat):Obj:={cls:=.type "list",data:=.seq its.toArray n}
theorem OO{pins:J8}{s2:Ja}{σ:St}{H2:Hp}{J:It}{it:Jg}{fp:List Addr}{tn:Nat->Heap->Prop}{cl:List (Str×Addr)}{Q:VK}{RR:Value->Addr->Result->Shared->Prop}
  (S:AR X N' scope caps) (hc:X.calm=true)
  (hcl1:∀x c,cl.lookup x=some c->X.env.cells.lookup x=some c) (hcl2:∀x,(x,NameKind.free)∈scope.names->∃c,cl.lookup x=some c)
  (hg:∀cl C s H ex,PG (NQ X N' scope cl C s H ex) tg g) (ht:∀C,Ra (NQ X N' scope cl C s2 H2 fp) ifs tc) (he:∀cl C s H ex,PE (NQ X N' scope cl C s H ex) elt te)
  (I:Jq X pins σ H2 s2) (T:EH X.prog X.w X.K tg J fp it tn) (st:tn 0 s2.heap) (f2:∀b∈fp,D6 X pins H2 b)
  (W:Nat->Nat->List V->St->Hp->Prop) (w0:∃m,W 0 m [] (Nf caps σ) H2)
  (turn : ∀ i m ys σ' H, W i m ys σ' H -> (J.stop i H /\ ys.length <= sizeLine /\ ∀ p, H p = none -> Q (.ref p) (upd H p (.lst ys))) \/
   (J.go i H /\ ys.length < sizeLine /\ ∃ N : List V -> St -> Hp -> Prop, (∀ ys σ H, N ys σ H -> ∃ m', m' < m /\ W (i + 1) m' ys σ H) /\ ∀ x H', J.yld i H x H' -> g x σ' H' fun σ2 H2 => tc σ2 H2 fun b H3 =>
    if b = true then te σ2 H3 fun y H4 => N (ys ++ [y]) σ2 H4 else N ys σ2 H3))
  (hRR : ∀ D C oC m s' H', Jq X (pins ++ [(C, oC)]) σ H' s' -> s'.heap.Ns C m -> Q (.ref D) H' -> X.s₀.heap.objs.size <= C -> (∀ x c, X.env.cells.lookup x = some c -> c ≠ C) -> (∀ p ∈ X.pn ++ pins, p.1 ≠ C) -> s'.heap.get? C = some oC ->
   RR (.ref D) C (.ok .next) s') {E : Value -> Shared -> Prop} :
  wpAny (model X.prog X.w) X.A (newList []) (fun acc s₃ => wpAny (model X.prog X.w) X.A (newFunctionEnv scope X.env.globals cl [] X.env.qual none .none (some X.env)) (fun cenv s₄ =>
   codeAny (model X.prog X.w) X.A (.compStart (.ListComp elt [⟨tg, iter, ifs, 0⟩] scope pos) 0 (.ref it) acc { cenv with scope := relabel scope X.env }) (RR acc cenv.locals) s₄) E s₃) E s2 := by
 refine X3 (wpAny_newFunctionEnv S.nocell (by intro y hy;simp at hy) (fun h₁ hns₁ hsb₁=>?_) S.kind);dsimp only at hns₁ hsb₁ ⊢;generalize hH2:s2.heap.push {cls:=.type "list",dict:=none,data:=.seq ([]:Ji).toArray}=HP at hns₁ hsb₁ ⊢;have hC:HP.objs.size=s2.heap.objs.size+ 1:=by rw[<-hH2,Xu]
 generalize hCC:HP.objs.size=C at hns₁ hsb₁ hC ⊢;have hDC:s2.heap.objs.size≠C:=by rw[hC];exact Yo (Vo _)
 have ab:∀b,b < s2.heap.objs.size->b≠C:=fun b f=>by rw[hC];exact Yo (Xw f)
 have old:∀b o,s2.heap.get? b=some o->h₁.get? b=some o:=fun b o e=>hsb₁.extBut b o (ab b (Yf e)) (Y8 _ (hH2▸Y8 _ e))
 have hacc:h₁.get? s2.heap.objs.size=some (Mt [] 0):=hsb₁.extBut _ _ hDC (Y8 _ (hH2▸Ye _ rfl));have fpLt:∀b∈fp,b < s2.heap.objs.size:=fun b f=>by obtain⟨o,e,_⟩:=T.obj _ _ st b f;exact Yf e
 have st₁:tn 0 h₁:=T.keep _ _ _ st fun b _ o e=>old b o e
 have sz:X.s₀.heap.objs.size <=s2.heap.objs.size:=I.sz;have cellLt:∀x c,X.env.cells.lookup x=some c->c < s2.heap.objs.size:=fun x c e=>by obtain⟨v,q⟩:=I.cell x c e;exact q.lt
 have okX:(NQ X N' scope cl C s2 H2 fp).Ok:=by
  refine ⟨I.ok.mod, S.kind, I.ok.glob, I.ok.blt, by show s2.heap.objs.size <= C; rw [hC]; exact XO _, fun x y c a b => I.ok.inj x y c (hcl1 x c a) (hcl1 y c b), fun x hx => ?_, (fun x c z => by cases z), I.ok.hd, I.ok.frames, .inl rfl,
   fun b f => ⟨ab b (fpLt b f), fun x c e => (f2 b f).2.2.2.2.1 x c (hcl1 x c e)⟩, I.bs, YD I.ok.bsz sz, fun b o e f => ?_, fun b f z => ?_, I.stack, I.stkFree⟩
  .have key:∀k,(k=NameKind.cell\/k=NameKind.free)->(relabel scope X.env).names.lookup x=some k->∃c,cl.lookup x=some c:=fun k hk hx=>by
    rcases Ir hx with z|⟨_,z⟩
    .rcases hk with rfl|rfl
     .exact absurd rfl (S.nocell _ z)
     .exact hcl2 x z
    .exact hcl2 x z
   rcases hx with hx|hx
   .exact key _ (.inl rfl) hx
   .exact key _ (.inr rfl) hx
  .rcases(f2 b f).2.2.2.1 with z|z
   .exact I.ok.noex b o e z
   .exact absurd (Yy (Yf (I.ok.bs b o e).1) z) (Xo _)
  .rcases Ym.mp (I.stkSub b z) with y|y
   .exact(f2 b f).2.1 y
   .exact(f2 b f).2.2.1 y
 have freshC:∀b,s2.heap.objs.size <=b->H2 b=none:=fun b f=>I.hok.fresh f
 have capI:Jq (NQ X N' scope cl C s2 H2 fp) [(s2.heap.objs.size,Mt [] 0)] (Nf caps σ) H2 {s2 with heap:=h₁,toks:=s2.toks+ ([]:List (Str×Value)).length}:=by
  refine⟨okX,rfl,I.bare,Un.kept old,⟨_,hns₁,fun i x v e1 e2 e3=>?_⟩,fun x c e=>?_,freshC C (by rw[hC];exact XO _),fun x c e=>I.freeC x c (hcl1 x c e),fun p hp=>?_,I.hok.kept old,?_⟩
  .have e2':(caps[i]?).map (fun o=>o.bind fun j=>(σ[j]?).join)=some (some v):=by
    unfold Nf at e2;rw[Ya]at e2;exact e2
   cases q:caps[i]? with
   |none=>rw[q]at e2';cases e2'
   |some o=>
    rw[q]at e2';cases o with
    |none=>cases e2'
    |some j=>
     have hv:(σ[j]?).join=some v:=Option.some.inj e2';obtain⟨hN,hfr,honly⟩:=S.cap.2 i j x e1 q;have hσ:σ[j]?=some (some v):=by
      cases r:σ[j]? with
      |none=>rw[r]at hv;cases hv
      |some o=>rw[r]at hv;rw[<-hv];rfl
     obtain⟨m,hn,hl⟩:=I.loc;have hkx:=S.vis x hfr;obtain⟨u,ru,lk⟩:=hl j x v hN hσ (by rcases hkx with z|z;exact .inr (.inl z);exact .inr (.inr z));refine⟨u,ru,.inr ?_⟩;obtain⟨c,hc'⟩:=hcl2 x hfr;have hcx:=hcl1 x c hc';rcases lk with⟨z,_⟩|⟨_,c',hc2,hcell⟩
     .rcases hkx with y|y <;> rw[y]at z <;> cases z
     .rw[hcx]at hc2;cases hc2;have hcell':h₁.IsCell c (some u):=by
       obtain⟨oc,q1,q2⟩:=hcell;exact⟨oc,old c oc q1,q2⟩
      refine⟨?_,c,hc',hcell'⟩;rcases e3 with z|z|z
      .rcases Ir z with y|⟨y,_⟩
       .have:=honly _ y;cases this
       .cases y
      .exact .inl z
      .exact .inr z
  .obtain⟨v,oc,q1,q2⟩:=I.cell x c (hcl1 x c e);exact⟨v,oc,old c oc q1,q2⟩
  .have e:p=(s2.heap.objs.size,Mt [] 0):=by simpa[NQ] using hp
   subst e;refine ⟨hacc, freshC _ (Y9 _), hDC, fun z => ?_, fun v z => by cases z⟩;exact absurd (show s2.heap.objs.size < s2.heap.objs.size from by
    rcases Ym.mp (I.stkSub _ z) with y|y
    .exact absurd (I.lt) (by rw[<-y];exact Xo _)
    .exact absurd y (I.nofs (Y9 _))) (Xo _)
  .unfold Nf;rw[Y1];exact S.cap.1
 generalize hX':NQ X N' scope cl C s2 H2 fp=X' at okX capI;have ePr:X'.prog=X.prog:=by rw[<-hX'];rfl
 have eW:X'.w=X.w:=by rw[<-hX'];rfl
 have eK:X'.K=X.K:=by rw[<-hX'];rfl
 have eA:X'.A=X.A:=by rw[<-hX'];rfl
 have eEnv:X'.env=compEnvC scope cl C X.env:=by rw[<-hX'];rfl
 have eXe:X'.xe=fun _ _=>False:=by rw[<-hX'];rfl
 have eCalm:X'.calm=true:=by rw[<-hX'];exact hc
 have eLoc:X'.env.locals=C:=by rw[eEnv];rfl
 have eS0:X'.s₀=s2:=by rw[<-hX'];rfl
 have eEx:X'.ex=fp:=by rw[<-hX'];rfl
 have eFs:X'.fs=De X.stack:=by rw[<-hX'];rfl
 have eCells:X'.env.cells=cl:=by rw[eEnv];rfl
 have ePn:X'.pn=[]:=by rw[<-hX'];rfl
 have eH0:X'.H₀=H2:=by rw[<-hX'];rfl
 have hgX:PG X' tg g:=hX'▸hg cl C s2 H2 fp;have htX:Ra X' ifs tc:=hX'▸ht C;have heX:PE X' elt te:=hX'▸he cl C s2 H2 fp;obtain⟨m0,w0⟩:=w0;have nDfs:s2.heap.objs.size∉X'.fs:=fun z=>by
  rw[eFs]at z;rcases Ym.mp (I.stkSub _ z) with y|y
  .exact absurd (I.lt) (by rw[<-y];exact Xo _)
  .exact absurd y (I.nofs (Y9 _))
 have fpX:∀{H':Hp} {its:Ji} {n:Nat},(∀b∈fp,H' b=none)->∀b∈fp,D6 X' [(s2.heap.objs.size,Mt its n)] H' b:=fun {H' its n} hn b f=>by
  refine⟨hn b f,by rw[eLoc];exact ab b (fpLt b f),fun z=>?_,.inl (by rw[eEx];exact f),fun x c e=>?_,fun p hp z=>?_⟩
  .rw[eFs]at z;rcases Ym.mp (I.stkSub b z) with y|y
   .exact(f2 b f).2.1 y
   .exact(f2 b f).2.2.1 y
  .rw[eCells]at e;exact(f2 b f).2.2.2.2.1 x c (hcl1 x c e)
  .rw[ePn]at hp;have e:p=(s2.heap.objs.size,Mt its n):=by simpa using hp
   subst e;exact absurd (fpLt b f) (by rw[<-z];exact Xo _)
 have loop:∀s₃:Shared,s₃={s2 with heap:=h₁,toks:=s2.toks+ ([]:List (Str×Value)).length}->
   codeAny (model X.prog X.w) X.A (.compLoop (.ListComp elt [⟨tg,iter,ifs,0⟩] scope pos) 0 (.ref it) (.ref s2.heap.objs.size) (compEnvC scope cl C X.env)) (RR (.ref s2.heap.objs.size) C) s₃:=by
  rintro s₃ rfl;rw[<-eEnv,<-eA];refine mL (fun n s'=>∃i ys its k σ' H',Jq X' [(s2.heap.objs.size,Mt its k)] σ' H' s'/\tn i s'.heap/\(∀b∈fp,H' b=none)/\JB ys its/\W i n ys σ' H') ?_ m0
   ⟨0,[],[],0,Nf caps σ,H2,capI,st₁,fun b f=>(f2 b f).1,.nil,w0⟩
  rintro n s' ⟨i,ys,its,k,σ',H',I',st',fr',rv',w'⟩;rcases turn i n ys σ' H' w' with⟨stop,hsz,q⟩|⟨go,hsz,NN,hNN,step⟩
  .refine JO (T.done X' ePr eW eK eCalm i _ s' σ' H' (fun _ _=>False) I' (fpX fr') st' stop) fun r s4 ⟨hr,I4⟩=>?_
   subst hr;have pinD:=(I4.pin (s2.heap.objs.size,Mt its k) (by rw[ePn];simp)).1;have freeD:=(I4.pin (s2.heap.objs.size,Mt its k) (by rw[ePn];simp)).2.1;have hq:=q s2.heap.objs.size freeD;obtain⟨mC,hnC,_⟩:=id I4.loc;rw[eLoc]at hnC;obtain⟨oC,es,ep,hoC,hdC,_⟩:=id hnC;have freeC':H' C=none:=by have:=I4.free;rw[eLoc]at this;exact this
   have aa:=I4.base;rw[eS0,eEx,eFs,eH0]at aa;have neD:∀b o,s2.heap.get? b=some o->b≠s2.heap.objs.size:=fun b o e=>Yo (Yf e)
   have neDH:∀b o,H2 b=some o->b≠s2.heap.objs.size:=fun b o e=>Yo (I.hok.lt e)
   have un4:Un (De X.stack) fp H2 (upd H' s2.heap.objs.size (.lst ys)) s2.heap s4.heap:=
    ⟨aa.keep, aa.slot, fun b o e n hx => by rw [JG (neD b o e)]; exact aa.free b o e n hx, aa.there, fun b xs e => by rw [JG (neDH b _ e)]; exact aa.tups b xs e,
     fun b o u e => by rw [JG (neDH b _ e)]; exact aa.frzs b o u e, fun b ps e => by rw [JG (neDH b _ e)]; exact aa.tbls b ps e⟩
   have hok4:Tq X.prog X.w (upd H' s2.heap.objs.size (.lst ys)) s4.heap:=by
    have h4:=I4.hok;rw[ePr,eW]at h4;intro b u e
    by_cases f:b=s2.heap.objs.size
    .subst f;rw[Nb]at e;cases e;exact⟨hsz,its,k,rv',pinD⟩
    .rw[JG f]at e;refine(h4 b u e).stay (fun c v _ z=>z) (fun c z=>?_) (fun c xs z=>?_)
     .rw[JG];exact z;intro zz;rw[zz,freeD]at z;cases z
     .rw[JG];exact z;intro zz;rw[zz,freeD]at z;cases z
   have os4:s4.os=s2.os:=by have:=I4.os;rw[eS0]at this;exact this
   have J4:Jq X pins σ (upd H' s2.heap.objs.size (.lst ys)) s4:=I.call' (ch:=fp) os4 un4 hok4 I4.bare fun b f=>⟨(f2 b f).2.2.2.1,(f2 b f).2.1,(f2 b f).2.2.2.2.1,(f2 b f).2.2.2.2.2⟩
   have hCle:X.s₀.heap.objs.size <=C:=by rw[hC];exact Nat.le_succ_of_le sz
   have hCcell:∀x c,X.env.cells.lookup x=some c->c≠C:=fun x c e=>ab c (cellLt x c e)
   have hCpin:∀p∈X.pn++pins,p.1≠C:=fun p hp=>ab p.1 (Yf (I.pin p hp).1)
   have hCl:C≠X.env.locals:=fun z=>absurd I.lt (by rw[<-z,hC];exact Nat.not_lt.mpr (XO _))
   refine hRR s2.heap.objs.size C oC mC s4 _ (J4.pins_of fun p hp=>?_) hnC hq hCle hCcell hCpin hoC;rcases Yq.mp hp with z|z
   .exact J4.pin p (YA _ z)
   .have e:p=(C,oC):=by simpa using z
    subst e;refine⟨hoC,by rw[JG (Ne.symm hDC)];exact freeC',hCl,fun z=>?_,fun v z=>by rw[hdC]at z;cases z⟩;exact I.nofs (by rw[hC];exact XO _) z
  .refine JO (T.item X' ePr eW eK eCalm i _ s' σ' H' (fun _ _=>False) I' (fpX fr') st' go) fun r s4 ⟨u,hr,h4⟩=>?_
   subst hr;refine JO h4 fun _ s5 zz=>?_;rcases zz with⟨x,H5,I5,r5,y5,st5,fr5⟩
   have I5':=I5.pinned (fpX fr5) (T.obj _ _ st5);have xeF:∀{α:Type} {t:Sem α} {Q:α->Shared->Prop} {s:Ja},wpAny (model X.prog X.w) X'.A t Q X'.xe s->wpAny (model X.prog X.w) X'.A t Q (fun _ _=>False) s:=fun h=>by rw[eXe]at h;exact h
   have ag:=hgX _ s5 σ' H5 x u _ I5' r5 (step x H5 y5);rw[ePr,eW]at ag;refine JO (xeF ag) fun _ s6 ⟨σ6,H6,I6,q6⟩=>?_
   have at':=htX _ s6 σ6 H6 _ I6 q6;rw[ePr,eW]at at';refine JO (xeF at') fun b s7 ⟨H7,I7,q7⟩=>?_
   -- what the pins say behind the turn
   have back:∀{s8:Ja} {H8:Hp},Jq X' ([(s2.heap.objs.size,Mt its k)]++Ch fp s5.heap) σ6 H8 s8->tn (i+ 1) s8.heap/\(∀b∈fp,H8 b=none)/\Jq X' [(s2.heap.objs.size,Mt its k)] σ6 H8 s8:=fun {s8 H8} I8=>by
    refine⟨T.keep _ _ _ st5 fun b f o e=>(I8.pin (b,o) (YA _ (YA _ (Ft f e)))).1,fun b f=>?_,I8.unpinned⟩;obtain⟨o,e,d⟩:=T.obj _ _ st5 b f;exact(I8.pin (b,o) (YA _ (YA _ (Ft f e)))).2.1
   cases b with
   |false=>
    simp only[Bool.false_eq_true,if_false]at q7 ⊢;obtain⟨m',hm,w7⟩:=hNN _ _ _ q7;obtain⟨t7,f7,I7'⟩:=back I7;exact⟨m',hm,i+ 1,ys,its,k,σ6,H7,I7',t7,f7,rv',w7⟩
   |true=>
    simp only[if_true]at q7 ⊢;have ae:=heX _ s7 σ6 H7 _ I7 q7;rw[ePr,eW]at ae;refine JO (xeF ae) fun y s8 ⟨yv,H8,I8,r8,n8⟩=>?_
    obtain⟨m',hm,w8⟩:=hNN _ _ _ n8;obtain⟨t8,f8,I8'⟩:=back I8;have pinD:=I8'.pin (s2.heap.objs.size,Mt its k) (by rw[ePn];simp);have hlen:=rv'.length;refine append_at (its:=its.toArray) (n:=k) (hsz:=by rw[Yj,<-hlen];exact XN hsz) pinD.1 fun h9 hs9 hD9=>?_
    have I9:Jq X' [] σ6 H8 {s8 with heap:=h9,toks:=s8.toks}:=by
     refine(I8'.pins_of (pins':=[]) fun p hp=>by simp at hp).turned (it:=s2.heap.objs.size) (fun b o f e=>(hs9.2 b f).trans e) pinD.2.1 (by rw[eLoc];exact hDC) (.inr (by rw[eS0];exact Y9 _)) (fun x c e=>?_) fun p hp=>?_
     .rw[eCells]at e;exact Yo (cellLt x c (hcl1 x c e))
     .rw[ePn]at hp;simp at hp
    have ePush:({cls:=.type "list",data:=.seq (its.toArray.push y) (k+ 1)}:Obj)=Mt (its++[y]) (k+ 1):=by unfold Mt;rw[List.push_toArray]
    rw[ePush]at hD9;refine⟨m',hm,i+ 1,ys++[yv],its++[y],k+ 1,σ6,H8,?_,T.keep _ _ _ t8 fun b f o e=>(hs9.2 b (Yo (fpLt b f))).trans e,f8,rv'.append (.cons r8 .nil),w8⟩;refine I9.pins_of fun p hp=>?_
    have e:p=(s2.heap.objs.size,Mt (its++[y]) (k+ 1)):=by simpa using hp
    subst e;exact⟨hD9,pinD.2.1,by rw[eLoc];exact hDC,nDfs,fun v z=>by cases z⟩
 exact codeAny_compStart_list (loop _ rfl) (T.self _ 0 _ _ _ st₁ (loop _ rfl))
theorem Jq.cellsOf{pins:J8}{σ:St}{H:Hp}{s:Ja}(I:Jq X pins σ H s)(S:AR X N' scope caps):∀x,(x,NameKind.free)∈scope.names->∃c,X.env.cells.lookup x=some c:=
 fun x a=>I.ok.has x (S.vis x a)
theorem Gk(S:AR X N' scope caps)(hc:X.calm=true)(hi:PI X tg iter wi)
  (hg:∀cl C s H ex,PG (NQ X N' scope cl C s H ex) tg g) (ht:∀cl C s H ex,Ra (NQ X N' scope cl C s H ex) ifs tc) (he:∀cl C s H ex,PE (NQ X N' scope cl C s H ex) elt te)
  (hs:∀x,foldedSetIterable iter X.env x=pure x:=by intro _;rfl):PE X (.ListComp elt [⟨tg,iter,ifs,0⟩] scope pos) (E5 caps wi g tc te):=by
 intro pins s σ H Q I h;obtain⟨cl,z,j,i⟩:=Ks (I.cellsOf S);rw[eval_ListComp];refine wpAny_comprehension_free (use:=none) rfl hs z S.kind S.locs (JO (hi pins s σ H _ I h) fun v s1 h1=>JO h1 fun itv s2 h2=>?_);obtain⟨it,fp,tn,J,H2,e,I2,T,r,f2,W,w0,c⟩:=h2;subst e;refine OO S hc j i hg (fun C=>ht _ C _ _ _) he I2 T r f2 W w0 c fun D C oC m s' H' n hn q hC a f hoC=>?_
 refine⟨m,hn,fun h' hs'=>⟨.ref D,H',?_,rfl,q⟩⟩;have w:=n.pin (C,oC) (YA _ (YA _ (by simp)));exact(n.pins_of (pins':=pins) fun p hp=>n.pin p (YA _ (Xf _ hp))).turned (t':=s'.toks) (it:=C) (fun b o hb e=>(hs'.2 b hb).trans e) w.2.1 w.2.2.1 (.inr hC) a f
theorem HE{i:Nat}{x:Str}{pos' spos:Pos}(S:AR X N' scope caps)(hc:X.calm=true)(hN:X.N.Nodup)(hix:X.N[i]?=some x)(hx:Bl X.env.scope x)(hi:PI X tg iter wi)
  (hg:∀cl C s H ex,PG (NQ X N' scope cl C s H ex) tg g) (ht:∀cl C s H ex,Ra (NQ X N' scope cl C s H ex) ifs tc) (he:∀cl C s H ex,PE (NQ X N' scope cl C s H ex) elt te)
  (hsw:swapsWith (.ListComp elt [⟨tg,iter,ifs,0⟩] scope pos) (some (.Name x pos')) spos.line X.env=pure true)
  (hf:X.fn x=true\/X.env.scope.names.lookup x=some .local:=by first|exact .inl rfl|exact .inr rfl|assumption)
  (hs:∀x,foldedSetIterable iter X.env x=pure x:=by intro _;rfl):PS X (.Assign [.Name x pos'] (.ListComp elt [⟨tg,iter,ifs,0⟩] scope pos) spos) (B1 (E5 caps wi g tc te) (RT i)):=by
 intro pins s σ H D I h;obtain ⟨cl, ecl, aa, z⟩ := Ks (I.cellsOf S);rw [exec_Assign_Name_used _ _ _ _ hsw];refine Y0 (W0 (Y0 ?_));show wpAny _ X.A (do let _ <- comprehension (.ListComp elt [⟨tg, iter, ifs, 0⟩] scope pos) scope X.env _ (newList []) false (eval iter X.env) (some (assign (.Name x pos') X.env))) _ _ s;refine Y0 (YI (wpAny_comprehension_free (use := some (assign (.Name x pos') X.env)) (Q := fun _ s' => SP X pins D .next s') rfl hs ecl S.kind S.locs
  (JO (hi pins s σ H _ I h) fun v s1 h1 => JO h1 fun itv s2 h2 => ?_)) (fun _ s' hq => Y6 (Y6 hq)) fun _ _ e => e)
 obtain⟨it,fp,tn,J,H2,e,I2,T,st2,f2,W,w0,j⟩:=h2;subst e;refine OO (Q:=fun x H1=>RT i x σ H1 D.nx) S hc aa z hg (fun C=>ht _ C _ _ _) he I2 T st2 f2 W w0 j fun Da C oC m s' H' I' hn q hC c w hoC=>?_
 show wpAny _ X.A (assign (.Name x pos') X.env (.ref Da)) _ _ _;refine wpAny_assign_Name (LN I' hN hix hx (v:=.ref Da) rfl (fun f a=>?_) hf);have n:=a.pin (C,oC) (YA _ (YA _ (by simp)));have hn':f.heap.Ns C m:=by
  obtain⟨o,es,ep,ho,r⟩:=hn;rw[hoC]at ho;cases ho;exact⟨oC,es,ep,n.1,r⟩
 refine⟨m,hn',fun h' hs'=>⟨σ.set i (some (.ref Da)),H',?_,q⟩⟩;exact(a.pins_of (pins':=pins) fun p hp=>a.pin p (YA _ (Xf _ hp))).turned (t':=f.toks) (it:=C) (fun b o hb e=>(hs'.2 b hb).trans e) n.2.1 n.2.2.1 (.inr hC) c w
theorem SA{K:Je}{a:Jg}{xs:List V}{σ:St}{H1:Hp}{Q:VK}(Pv:Nat->List V->St->Hp->Prop)(h0:Pv 0 [] (Nf caps σ) H1)(hl:∀i ys σ H,Pv i ys σ H->i <=xs.length->JA K H a xs/\ys.length <=i)(hz:xs.length <=sizeLine)
  (hs:∀i x ys σ H,xs[i]?=some x->Pv i ys σ H->g x σ H fun σ2 H2=>tc σ2 H2 fun b H3=>if b=true then te σ2 H3 fun y H4=>Pv (i+ 1) (ys++[y]) σ2 H4 else Pv (i+ 1) ys σ2 H3)
  (hd:∀ys σ H,Pv xs.length ys σ H->∀p,H p=none->Q (.ref p) (upd H p (.lst ys))):
  Bq caps g tc te σ Q (E7 K a) H1:=by
 refine⟨fun i m ys σ H=>m=xs.length - i/\i <=xs.length/\Pv i ys σ H,⟨xs.length,by simp,Yx _,h0⟩,?_⟩;rintro i m ys σ H ⟨rfl,hi,p⟩;obtain⟨q,h⟩:=hl i ys σ H p hi
 by_cases hlt:i < xs.length
 .refine .inr ⟨⟨xs,xs[i],q,by simp[hlt]⟩,by lia,Pv (i+ 1),fun f σ' H' c=>⟨xs.length - (i+ 1),by lia,rfl,hlt,c⟩,fun x H' y=>?_⟩;obtain⟨e,y⟩:=y;subst e;exact hs i x ys σ _ (y xs q) p
 .have e:i=xs.length:=by lia
  subst e;exact .inl ⟨⟨xs,q,Y9 _⟩,by lia,hd ys σ H p⟩
theorem d5{lo:Int}{n:Nat}{σ:St}{H1:Hp}{Q:VK}(Pv:Nat->List V->St->Hp->Prop)(h0:Pv 0 [] (Nf caps σ) H1)(hl:∀i ys σ H,Pv i ys σ H->i <=n->ys.length <=i)(hz:n <=sizeLine)
  (hs:∀i ys σ H,i < n->Pv i ys σ H->g (.int (lo+ i)) σ H fun σ2 H2=>tc σ2 H2 fun b H3=>if b=true then te σ2 H3 fun y H4=>Pv (i+ 1) (ys++[y]) σ2 H4 else Pv (i+ 1) ys σ2 H3)
  (hd:∀ys σ H,Pv n ys σ H->∀p,H p=none->Q (.ref p) (upd H p (.lst ys))):
  Bq caps g tc te σ Q (Ec lo n) H1:=by
 refine⟨fun i m ys σ H=>m=n - i/\i <=n/\Pv i ys σ H,⟨n,by simp,Yx _,h0⟩,?_⟩;rintro i m ys σ H ⟨rfl,hi,p⟩;have f:=hl i ys σ H p hi
 by_cases hlt:i < n
 .refine .inr ⟨hlt,by lia,Pv (i+ 1),fun c σ' H' a=>⟨n - (i+ 1),by lia,rfl,hlt,a⟩,fun x H' y=>?_⟩;obtain⟨e,y⟩:=y;subst e y;exact hs i ys σ _ hlt p
 .have e:i=n:=by lia
  subst e;exact .inl ⟨Y9 _,by lia,hd ys σ H p⟩
end
mutual
inductive Dp(K:Je)(H:Hp):V->PyData->Prop
 |non:Dp K H .non .none
 |bl (b:Bool):Dp K H (.bl b) (.bool b)
 |int (i:Int):Dp K H (.int i) (.int i)
 |str (x:Str):Dp K H (.str x) (.str x)
 |lst {a:Jg} {xs:List V} {ds:List PyData}:JA K H a xs->NC K H xs ds->Dp K H (.ref a) (.list ds)
 |tup {a:Jg} {xs:List V} {ds:List PyData}:N8 K H a xs->NC K H xs ds->Dp K H (.ref a) (.tuple ds)
inductive NC(K:Je)(H:Hp):List V->List PyData->Prop
 |nil:NC K H [] []
 |cons {x:V} {xs:List V} {d:PyData} {ds:List PyData}:Dp K H x d->NC K H xs ds->NC K H (x::xs) (d::ds)
end
theorem NC.ints{K:Je}{H:Hp}:∀ns:List Int,NC K H (ns.map V.int) (ns.map PyData.int)
 |[]=>.nil
 |_::r=>.cons (.int _) (NC.ints r)
theorem OC(ns:Jh):SeqAt.shaped (.list (ns.map PyData.int))=true:=by
 have h1:∀ns:List Int,PyData.canLayAll0 (ns.map PyData.int)=true:=fun ns=>by
  induction ns with
  |nil=>rfl
  |cons n r ih=>simp[PyData.canLayAll0,PyData.canLay0,ih]
 have h2:∀ns:List Int,PyData.depthAll (ns.map PyData.int) <=2:=fun ns=>by
  induction ns with
  |nil=>simp[PyData.depthAll]
  |cons n r ih=>simp[PyData.depthAll,PyData.depth];lia
 have a:=h2 ns;simp[SeqAt.shaped,PyData.canLay0,h1 ns,PyData.depth];lia
section
variable{X:Cx}{pins:J8}{σ:St}{H:Hp}{s:Ja}
mutual
theorem Jq.reads(I:Jq X pins σ H s):∀{x:V} {d:PyData} {u:Jf},Dp X.K H x d->Jz x u->∃as,Reads s.heap u d as
 |_,_,u,.non,r=>by cases (show u=Value.none from r);exact⟨_,.none⟩
 |_,_,u,.bl b,r=>by cases (show u=Value.bool b from r);exact⟨_,.bool b⟩
 |_,_,u,.int i,r=>by obtain⟨t,rfl⟩:=(show ∃t,u=Value.int i t from r);exact⟨_,.int i t⟩
 |_,_,u,.str x,r=>by obtain⟨t,rfl⟩:=(show ∃t,u=Value.str x t from r);exact⟨_,.str x t⟩
 |_,_,u,.lst (a:=a) hl hd,r=>by
  cases (show u=Value.ref a from r);obtain⟨j,f,⟨o,n,e,h,_,c⟩,p⟩:=I.list hl;obtain⟨as,g⟩:=Jq.readsAll I hd f;exact⟨_,.list e h c (by simpa using g)⟩
 |_,_,u,.tup (a:=a) hl hd,r=>by
  cases (show u=Value.ref a from r);obtain⟨j,f,⟨o,e,h,n,c⟩,p⟩:=I.tuple hl;obtain⟨as,g⟩:=Jq.readsAll I hd f;exact⟨_,.tuple e h c (by simpa using g)⟩
theorem Jq.readsAll(I:Jq X pins σ H s):∀{xs:List V} {ds:List PyData} {us:Ji},NC X.K H xs ds->JB xs us->∃as,ReadsAll s.heap us ds as
 |_,_,_,.nil,r=>by cases r;exact⟨_,.nil⟩
 |_,_,_,.cons h t,r=>by
  cases r with
  |cons r1 r2=>
   obtain⟨as,ra⟩:=Jq.reads I h r1;obtain⟨bs,a⟩:=Jq.readsAll I t r2;exact⟨_,.cons ra a⟩
end
end
def P7(K:Je):R2:=fun x y H Q=>∃d e,Dp K H x d/\Dp K H y e/\SeqAt.shaped d=true/\SeqAt.shaped e=true/\Q (.bl (PyData.eqv d e)) H
def SU(K:Je):R2:=fun x y H Q=>∃d e,Dp K H x d/\Dp K H y e/\SeqAt.shaped d=true/\SeqAt.shaped e=true/\Q (.bl (!PyData.eqv d e)) H
section
variable{X:Cx}
theorem ZI(hu:X.A.units+ 64 < cLine):Nz X (compareOp .Eq) (P7 X.K):=by
 intro pins s σ H x y v u Q I rx ry h;obtain⟨d,e,h1,h2,s1,s2,q⟩:=h;obtain⟨c,b⟩:=I.reads h1 rx;obtain⟨bs,a⟩:=I.reads h2 ry;exact eq_dataH b a s1 s2 hu (TJ I q rfl)
theorem nS(hu:X.A.units+ 64 < cLine):Nz X (compareOp .NotEq) (SU X.K):=by
 intro pins s σ H x y v u Q I rx ry h;obtain⟨d,e,h1,h2,s1,s2,q⟩:=h;obtain⟨c,b⟩:=I.reads h1 rx;obtain⟨bs,a⟩:=I.reads h2 ry;exact ne_dataH b a s1 s2 hu (TJ I q rfl)
def KU:R2:=fun x y H Q=>∃i j,x= .str i/\y= .str j/\Q (.bl (!decide (j.cps.toList < i.cps.toList))) H
theorem Qb:Nz X (compareOp .LtE) KU:=by
 intro pins s σ H x y v u Q I rx ry h;obtain⟨i,j,rfl,rfl,q⟩:=h;obtain⟨t,rfl⟩:=rx;obtain⟨a,rfl⟩:=ry;exact PySem.P.le_str (TJ I q rfl)
theorem d8(hc:X.calm=true):JN X (.builtin "all") (fun xs H Q=>∃ (p:Jg) (bs:List Bool),xs=[.ref p]/\JA X.K H p (bs.map V.bl)/\Q (.bl (bs.all id)) H):=by
 intro pins s σ H xs us Q I r h;obtain⟨p,bs,rfl,hq,q⟩:=h;obtain⟨u,rfl,rx⟩:=Rn r;cases rx;obtain⟨a,w,pl,hz⟩:=I.list hq;have hh:X.A.in1.handled=none:=I.ok.hd hc;have j:=pl.isList;have aa:p < s.heap.objs.size:=by obtain⟨_,e,_⟩:=j;exact Yf e
 have g:bs.length=a.length:=by have:=w.length;simpa using this
 refine call_all_walk (XI j ⟨s.heap.objs.size,_,_,_,_,_,fun i=>bs.getD i false,rfl,WP hh s.heap.objs.size p (Yo aa) a.toArray,⟨⟨_,Ye _ rfl,rfl,rfl⟩,j.push _⟩,?_,?_⟩)
 .intro i v s' Q' E' hv n;have c:a[i]?=some v:=by simpa using hv
  cases e:bs[i]? with
  |none=>
   have:a[i]?=none:=by
    rw[Uq]at e ⊢;lia
   rw[this]at c;cases c
  |some b=>
   obtain⟨u,z,ru⟩:=w.get (i:=i) (x:=V.bl b) (by rw[Ya,e];rfl);rw[c]at z;cases z;cases (show v=Value.bool b from ru);have:bs.getD i false=b:=by simp[List.getD,e]
   dsimp only at n;rw[this]at n;exact Xm n
 .intro h' tk hk;have e:(List.range a.toArray.size).all (fun i=>bs.getD i false)=bs.all id:=by
   rw[Yj,<-g,YF,XB,XB];constructor
   .intro h x hx;obtain⟨i,hi,rfl⟩:=UU.mp hx;have:=h i (WG.mpr hi);simpa[List.getD,hi] using this
   .intro h i hi;have f:=WG.mp hi;have:=h bs[i] (Vp f);simpa[List.getD,f] using this
  rw[e];exact⟨.bl (bs.all id),H,I.kept (t':=tk) fun b o eo=>hk b o (by simpa using Yo (Yf eo)) (Y8 _ eo),rfl,q⟩
def P8:V->Value
 | .ty n=>.type n
 | .ref a=>.ref a
 |_=>.none
def cH:V->Bool
 | .ty _=>true
 | .ref _=>true
 |_=>false
def cS(K:Je):List V->Hp->VK->Prop:=fun xs H Q=>∃x c t b,xs=[x,c]/\GT K H x t/\cH c=true/\W.kitOne K t (P8 c)=some b/\Q (.bl b) H
theorem K9:JN X (.builtin "isinstance") (cS X.K):=by
 intro pins s σ H xs j Q I r h;obtain⟨x,c,t,b,rfl,ty,i,e,q⟩:=h;obtain⟨u,a,rfl,rx,f⟩:=ID r;have g:a=P8 c:=by cases c <;> first|exact f|cases i
 subst g;exact vV I rx ty e fun tk=>⟨.bl b,H,I.tok tk,rfl,q⟩
def Ib(x:Str):It:=⟨fun i _=>i < x.cps.size,fun i H v H'=>H'=H/\∃c,x.cps[i]?=some c/\v= .str ⟨#[c]⟩,fun i _=>i=x.cps.size⟩
theorem SS{P:J9}{w:Jd}{K:PySem.W.Frag}{tg:Jk}{it:Jg}{ty:String}{x:Str}{t:Tok}
  (W:∀A:Around,A.handled=none->Walks P w A it [it] [it] x.cps.size (SignAt x) (fun i h=>h.IsStrIter it ty x t i))
  (hself:∀ (A:Jc) (i:Nat) (s:Ja) (Q:J6) (E:J6),s.heap.IsStrIter it ty x t i->Q (.ref it) s->wpAny (model P w) A (pyIter (.ref it)) Q E s)
  (hn:["enumerate","zip","dict_itemiterator","dict_reverseitemiterator","odict_iterator","itertools.zip_longest","itertools.pairwise"].contains ty=false):
  EH P w K tg (Ib x) [it] it (fun i h=>h.IsStrIter it ty x t i) where
 mem:=by simp
 obj:=fun i h st b a=>by
  have e:b=it:=by simpa using a
  subst e;obtain⟨o,e,c,d⟩:=st;exact⟨o,e,fun v z=>by rw[d]at z;cases z⟩
 keep:=fun i h h' st k=>by obtain⟨o,e,r⟩:=st;exact⟨o,k it (by simp) o e,r⟩
 item:=by
  intro X hP j hK q i pins s σ H E I f st p;subst hP j hK;obtain⟨f0,f1,f2,f3,f4,f5⟩:=f it (by simp);refine(W X.A (I.ok.hd q)).item i s _ _ p st fun v h' tk hv g n=>?_
  obtain⟨c,u,hc',rfl⟩:=hv;have I1:Jq X pins σ H {s with heap:=h',toks:=tk}:=I.turned (t':=tk) (fun b o a e=>n b o (by simpa using a) e) f0 f1 f3 f4 f5;obtain⟨o,e,cc,d⟩:=id g;exact⟨_,rfl,Ca (s:={s with heap:=h',toks:=tk}) e cc d hn ⟨.str ⟨#[c]⟩,H,I1,⟨u,rfl⟩,⟨rfl,c,hc',rfl⟩,g,fun b a=>(f b a).1⟩⟩
 done:=by
  intro X hP j hK q i pins s σ H E I f st p;subst hP j hK;obtain⟨f0,f1,f2,f3,f4,f5⟩:=f it (by simp);have hg':i=x.cps.size:=p;subst hg';exact(W X.A (I.ok.hd q)).done s _ _ st fun h' tk n=>⟨rfl,I.turned (t':=tk) (fun b o a e=>n b o (by simpa using a) e) f0 f1 f3 f4 f5⟩
 self:=fun A i s Q E st h=>hself A i s Q E st h
def Ls(tl:TE):TI:=fun σ H R=>tl σ H fun x H1=>∃z,x= .str z/\R (Ib z) H1
theorem wC{tg l:Jk}{tl:TE}(hl:PE X l tl):PI X tg l (Ls tl):=by
 intro pins s σ H R I h;refine JO (hl pins s σ H _ I h) fun v s1 ⟨x,H1,a,g,j⟩=>?_
 obtain⟨z,e,q⟩:=j;subst e;obtain⟨t,rfl⟩:=(show ∃t,v=Value.str z t from g);have c:∀b:Addr,b∈[s1.heap.objs.size]->D6 X pins H1 b:=fun b n=>by
  have e:b=s1.heap.objs.size:=by simpa using n
  subst e;exact a.fpOk (Y9 _) (a.hok.fresh (Y9 _))
 cases ha:z.cps.all (· < 128)
 .exact wpAny_pyIter_wide ha ⟨s1.heap.objs.size, [s1.heap.objs.size], _, _, H1, rfl, a.kept (t' := s1.toks) fun b o e => Y8 _ e,
   SS (fun A f => Walks.strWide f _ z t) (fun A i s Q E st h => wpAny_pyIter_striter_wide st h) (by decide), ⟨_, Ye _ rfl, rfl, rfl⟩, c, q⟩
 .exact wpAny_pyIter_ascii ha ⟨s1.heap.objs.size, [s1.heap.objs.size], _, _, H1, rfl, a.kept (t' := s1.toks) fun b o e => Y8 _ e,
   SS (fun A f => Walks.strAscii f _ z t) (fun A i s Q E st h => wpAny_pyIter_striter_ascii st h) (by decide), ⟨_, Ye _ rfl, rfl, rfl⟩, c, q⟩
theorem gK{caps:List (Option Nat)}{g:TG}{tc:TT}{te:TE}{z:Str}{σ:St}{H1:Hp}{Q:VK}(Pv:Nat->List V->St->Hp->Prop)(h0:Pv 0 [] (Nf caps σ) H1)(hl:∀i ys σ H,Pv i ys σ H->i <=z.cps.size->ys.length <=i)(hz:z.cps.size <=sizeLine)
  (hs:∀i c ys σ H,z.cps[i]?=some c->Pv i ys σ H->g (.str ⟨#[c]⟩) σ H fun σ2 H2=>tc σ2 H2 fun b H3=>if b=true then te σ2 H3 fun y H4=>Pv (i+ 1) (ys++[y]) σ2 H4 else Pv (i+ 1) ys σ2 H3)
  (hd:∀ys σ H,Pv z.cps.size ys σ H->∀p,H p=none->Q (.ref p) (upd H p (.lst ys))):
  Bq caps g tc te σ Q (Ib z) H1:=by
 refine⟨fun i m ys σ H=>m=z.cps.size - i/\i <=z.cps.size/\Pv i ys σ H,⟨z.cps.size,by simp,Yx _,h0⟩,?_⟩;rintro i m ys σ H ⟨rfl,hi,p⟩;have j:=hl i ys σ H p hi
 by_cases hlt:i < z.cps.size
 .refine .inr ⟨hlt,by lia,Pv (i+ 1),fun h σ' H' a=>⟨z.cps.size - (i+ 1),by lia,rfl,hlt,a⟩,fun x H' y=>?_⟩;obtain⟨e,c,f,y⟩:=y;subst e y;exact hs i c ys σ _ f p
 .have e:i=z.cps.size:=by lia
  subst e;exact .inl ⟨rfl,by lia,hd ys σ H p⟩
end
def SR(N N':List Str)(scope:Scope)(caps:List (Option Nat))(sc:Scope):Bool:=
 decide (scope.kind= .function) && (scope.names.all fun y=>decide (y.2≠ .cell)) && (scope.names.all fun y=>decide (y.2= .local->scope.names.lookup y.1=some .local)) && decide (caps.length=N'.length) &&
 ((N'.zip caps).all fun p => match p.2 with
  |none=>true
  | some j => decide (N[j]? = some p.1) && decide ((p.1, NameKind.free) ∈ scope.names) && (scope.names.all fun y => decide (y.1 = p.1 -> y.2 = .free))) &&
 (scope.names.all fun y=>decide (y.2= .free->sc.names.lookup y.1=some .cell\/sc.names.lookup y.1=some .free))
theorem Do{X:Cx}{N':List Str}{scope:Scope}{caps:List (Option Nat)}{sc:Scope}{N:List Str}(hsc:X.env.scope=sc)(hN:X.N=N)(h:SR N N' scope caps sc=true):AR X N' scope caps:=by
 subst hsc hN;unfold SR at h;simp only[X2,Yd,XB]at h;obtain⟨⟨⟨⟨⟨h1,h2⟩,n⟩,g⟩,f⟩,e⟩:=h;refine⟨h1,h2,n,⟨g,fun i j x p o=>?_⟩,fun x b=>?_⟩
 .have a:(x,some j)∈N'.zip caps:=by
   have:(N'.zip caps)[i]?=some (x,some j):=by
    rw[Ur];exact⟨p,o⟩
   exact Yk this
  have q:=f _ a;simp only[X2,Yd,XB]at q;exact⟨q.1.1,q.1.2,fun k c=>q.2 _ c rfl⟩
 .exact e _ b rfl
theorem Dm{X:Cx}{N:List Str}(h:X.N=N)(d:N.Nodup):X.N.Nodup:=h▸d
theorem ES{X:Cx}{x:Str}{n:Int}{pos:Pos}(hg:Gl X x)(hm:∃t,X.mg x=some (.int n t))(hd:(x==("__debug__":Str))=false:=by decide):PE X (.Name x pos) (tC (.int n)):=by
 obtain⟨t,e⟩:=hm;exact A7 hg e ⟨t,rfl⟩ hd
structure Tc(P:J9)(w:Jd)(K:Je)(mg:J5)(base:Jj)(x:Str)(k:Nat)(ps:List Str)(dvs:List V)(sp:Sp):Prop where
 ex:∃ (f:Jg) (fd:Jb) (ds:Ji),Ju P w K mg base N7 k f fd ps sp/\mg x=some (.ref f)/\W.keepIn K (.ref f)=true/\TU K fd ps ds/\JB dvs ds
structure Rj(P:J9)(w:Jd)(K:Je)(mg:J5)(base:Jj)(x:Str)(C:Jg)(k:Nat)(ps:List Str)(dvs:List V)(sp:Sp):Prop where
 ex:∃ (f:Jg) (fd:Jb) (ds:Ji),Ju P w K mg base N7 k f fd ps sp/\mg x=some (.ref C)/\Mk K C f/\TU K fd ps ds/\JB dvs ds
structure T4(P:J9)(w:Jd)(K:Je)(mg:J5)(base:Jj)(C:Jg)(m:Str)(k:Nat)(ps:List Str)(dvs:List V)(sp:Sp):Prop where
 ex:∃ (f:Jg) (fd:Jb) (ds:Ji),Ju P w K mg base N7 k f fd ps sp/\Db K C/\LJ K C m f/\TU K fd ps ds/\JB dvs ds
section
variable{X:Cx}{k:Nat}{C:Jg}{ps:List Str}{sp:Sp}{dvs:List V}{x m:Str}{p pos apos:Pos}{e o:Jk}{es:List Expr}{ta:TE}{t:TA}
theorem Tb(F:Tc X.prog X.w X.K X.mg X.base x k ps dvs sp)(hr:Room k X.A)(hg:Gl X x)(ha:PA X (e::es) t)(hdb:(x==("__debug__":Str))=false:=by decide)
  (he:starEach (e::es) X.env=(false,eval e X.env)::starEach es X.env:=by rfl) (hpl:(backTo pos (starEach es X.env)).any (·.1)=false:=by rfl):PE X (.Call (.Name x p) (e::es) [] pos) (Av sp dvs E0 t):=by
 obtain⟨f,fd,ds,G,a,b,g,c⟩:=F.ex;exact j8 G hr hg a b g c AO ha hdb he hpl
theorem OG{pl:Sem Bool}(he:PE X o ta)(F:T4 X.prog X.w X.K X.mg X.base C m k ps dvs sp)(hr:Room k X.A)
  (ht : eval (.Call (.Attribute o m apos) [] [] pos) X.env = (do
   let ov <-eval o X.env
   standAt apos.atName
   let (f,first) <-holding [ov] (getMethod ov m pl)
   callWith pos f first (backTo pos (starEach [] X.env)) (backToKw pos (keywordEach [] X.env))) := by rfl) :
  PE X (.Call (.Attribute o m apos) [] [] pos) (CM C m sp dvs E0 ta R5):=by
 obtain⟨f,fd,ds,G,c,a,e,b⟩:=F.ex;exact mD he c a G hr e b AO ht
end
structure Bt(mg:J5):Prop where
 len:mg "len"=none
 range:mg "range"=none
 isinstance:mg "isinstance"=none
 all:mg "all"=none
 min:mg "min"=none
 max:mg "max"=none
 bint:mg "int"=none
 bbool:mg "bool"=none
 bstr:mg "str"=none
 blist:mg "list"=none
 btuple:mg "tuple"=none
def Nd(a:Jg)(H H':Hp):Prop:=∀b o,H b=some o->b≠a->H' b=some o
theorem Nd.refl(a:Jg)(H:Hp):Nd a H H:=fun _ _ h _=>h
theorem Nd.trans{a:Jg}{H H1 H2:Hp}(x:Nd a H H1)(y:Nd a H1 H2):Nd a H H2:=fun b o h n=>y b o (x b o h n) n
theorem Nd.upd{a:Jg}{H:Hp}{o:HO}:Nd a H (upd H a o):=fun b _ h n=>by rw[JG n];exact h
def FJ(g:TG)(tb:TS)(D:Mh)(σ:St)(J:It)(H1:Hp):Prop:=∃W:Nat->Nat->St->Hp->Prop,(∃m,W 0 m σ H1)/\∀i m σ H,W i m σ H->
 (J.stop i H/\D.nx σ H)\/(J.go i H/\∃N:St->Hp->Prop,(∀σ' H',N σ' H'->∃m',m' < m/\W (i+ 1) m' σ' H')/\∀x H',J.yld i H x H'->g x σ H' fun σ2 H2=>tb {D with nx:=N,ct:=N,bk:=D.nx} σ2 H2)
theorem QK(wi:TI)(g:TG)(tb:TS)(D:Mh)(σ:St)(H:Hp):OY wi g tb D σ H=wi σ H fun J H1=>FJ g tb D σ J H1:=rfl
theorem Bm{K:Je}{a:Jg}{xs:List V}{g:TG}{tb:TS}{D:Mh}{σ:St}{H:Hp}(Pv:Nat->St->Hp->Prop)(h0:Pv 0 σ H)(hl:∀i σ H,i <=xs.length->Pv i σ H->JA K H a xs)
  (hs:∀i x σ H,xs[i]?=some x->Pv i σ H->g x σ H fun σ2 H2=>tb {D with nx:=Pv (i+ 1),ct:=Pv (i+ 1),bk:=D.nx} σ2 H2) (hd:∀σ H,Pv xs.length σ H->D.nx σ H):FJ g tb D σ (E7 K a) H:=wQ Pv h0 hl hs hd
theorem wP{lo:Int}{n:Nat}{g:TG}{tb:TS}{D:Mh}{σ:St}{H:Hp}(Pv:Nat->St->Hp->Prop)(h0:Pv 0 σ H)
  (hs:∀i σ H,i < n->Pv i σ H->g (.int (lo+ i)) σ H fun σ2 H2=>tb {D with nx:=Pv (i+ 1),ct:=Pv (i+ 1),bk:=D.nx} σ2 H2) (hd:∀σ H,Pv n σ H->D.nx σ H):FJ g tb D σ (Ec lo n) H:=xI Pv h0 hs hd
theorem Ni{n:Nat}(h:n <=100000):n <=sizeLine:=YD h (by rw[YG];decide)
theorem Rq{n:Nat}(h:n <=100000):n < sizeLine:=Yn h (by rw[YG];decide)
def Ry:HO->Option String
 | .lst _=>some "list"
 | .tup _=>some "tuple"
 | .dK _=>some "dict"
 |_=>none
def Mq(H:Hp):V->Option String
 | .non=>some "NoneType"
 | .bl _=>some "bool"
 | .int _=>some "int"
 | .str _=>some "str"
 | .ref a=>(H a).bind Ry
 |_=>none
def Bw(n T:String):Bool:=n==T||(n=="bool" && T=="int")
theorem aV{K:Je}{H:Hp}{x:V}{n:String}(h:Mq H x=some n):GT K H x (.type n)/\n∈["NoneType","bool","int","str","list","tuple","dict"]:=by
 cases x with
 |non=>cases h;exact⟨.non,by simp⟩
 |bl b=>cases h;exact⟨.bl b,by simp⟩
 |int i=>cases h;exact⟨.int i,by simp⟩
 |str i=>cases h;exact⟨.str i,by simp⟩
 |ref a=>
  have h:(H a).bind Ry=some n:=h;cases e:H a with
  |none=>rw[e]at h;cases h
  |some o=>
   rw[e]at h;cases o <;> first|(cases h;done)|skip
   .cases h;exact⟨.lst e,by simp⟩
   .cases h;exact⟨.tup e,by simp⟩
   .cases h;exact⟨.dK e,by simp⟩
 |_=>cases h
theorem vN{K:Je}{n T:String}(hn:n∈["NoneType","bool","int","str","list","tuple","dict"])(hT:T∈["bool","int","str","list","tuple","dict"]):W.kitOne K (.type n) (.type T)=some (Bw n T):=by
 simp only[Ym,List.not_mem_nil,WQ]at hn hT;rcases hn with rfl|rfl|rfl|rfl|rfl|rfl|rfl <;> rcases hT with rfl|rfl|rfl|rfl|rfl|rfl <;> rfl
def Oo(T:String):List V->Hp->VK->Prop:=fun xs H Q=>∃x n,xs=[x,.ty T]/\Mq H x=some n/\Q (.bl (Bw n T)) H
theorem EF{X:Cx}(T:String)(hT:T∈["bool","int","str","list","tuple","dict"]:=by decide):JN X (.builtin "isinstance") (Oo T):=by
 intro pins s σ H xs a Q I r h;obtain⟨x,n,rfl,ty,q⟩:=h;obtain⟨c,b⟩:=aV (K:=X.K) ty;exact K9 pins s σ H _ a Q I r ⟨x,.ty T,_,_,rfl,c,rfl,vN b hT,q⟩
theorem uZ{H:Hp}{a:Jg}{xs:List V}(h:H a=some (.lst xs)):Mq H (.ref a)=some "list":=by show(H a).bind Ry=_;rw[h];rfl
theorem aM{H:Hp}{i:Int}:Mq H (.int i)=some "int":=rfl
theorem wS{H:Hp}{i:Bool}:Mq H (.bl i)=some "bool":=rfl
theorem d9{H:Hp}{i:Str}:Mq H (.str i)=some "str":=rfl
theorem gE{H:Hp}:Mq H .non=some "NoneType":=rfl
def Ee:V->Bool
 | .int _=>true
 |_=>false
def Eh:V->Bool
 | .bl _=>true
 |_=>false
def Lp:V->Bool
 | .str _=>true
 |_=>false
def Aw(H:Hp):V->Bool
 | .ref a=>match H a with
  |some (.lst _)=>true
  |_=>false
 |_=>false
theorem KW{o:HO}{n:String}(h:Ry o=some n):n="list"\/n="tuple"\/n="dict":=by
 cases o <;> first|(cases h;done)|(cases h;simp)
theorem rJ{H:Hp}{x:V}{n:String}(h:Mq H x=some n):Bw n "int"=(Ee x||Eh x):=by
 cases x with
 |ref a=>
  have h:(H a).bind Ry=some n:=h;cases e:H a with
  |none=>rw[e]at h;cases h
  |some o=>
   rw[e]at h;rcases KW h with rfl|rfl|rfl <;> rfl
 |_=>first|(cases h;done)|(cases h;rfl)
theorem PP{H:Hp}{x:V}{n:String}(h:Mq H x=some n):Bw n "bool"=Eh x:=by
 cases x with
 |ref a=>
  have h:(H a).bind Ry=some n:=h;cases e:H a with
  |none=>rw[e]at h;cases h
  |some o=>
   rw[e]at h;rcases KW h with rfl|rfl|rfl <;> rfl
 |_=>first|(cases h;done)|(cases h;rfl)
theorem bF{H:Hp}{x:V}{n:String}(h:Mq H x=some n):Bw n "str"=Lp x:=by
 cases x with
 |ref a=>
  have h:(H a).bind Ry=some n:=h;cases e:H a with
  |none=>rw[e]at h;cases h
  |some o=>
   rw[e]at h;rcases KW h with rfl|rfl|rfl <;> rfl
 |_=>first|(cases h;done)|(cases h;rfl)
theorem mF{H:Hp}{x:V}{n:String}(h:Mq H x=some n):Bw n "list"=Aw H x:=by
 cases x with
 |ref a=>
  have h:(H a).bind Ry=some n:=h;cases e:H a with
  |none=>rw[e]at h;cases h
  |some o=>
   rw[e]at h;have b:Aw H (.ref a)=match some o with|some (.lst _)=>true|_=>false:=by
    show(match H a with|some (.lst _)=>true|_=>false)=_;rw[e]
   rw[b];cases o <;> first|(cases h;done)|(cases h;rfl)
 |_=>first|(cases h;done)|(cases h;rfl)
theorem eJ{H:Hp}{x:V}(h:Aw H x=true):∃a xs,x= .ref a/\H a=some (.lst xs):=by
 cases x with
 |ref a=>
  have h:(match H a with|some (.lst _)=>true|_=>false)=true:=h;cases e:H a with
  |none=>rw[e]at h;cases h
  |some o=>
   rw[e]at h;cases o <;> first|(cases h;done)|exact⟨a,_,rfl,e⟩
 |_=>cases h
theorem Fi{H H':Hp}(s:Jo H H'){x:V}{n:String}(h:Mq H x=some n):Mq H' x=some n:=by
 cases x with
 |ref a=>
  have h:(H a).bind Ry=some n:=h;show(H' a).bind Ry=some n;cases e:H a with
  |none=>rw[e]at h;cases h
  |some o=>rw[s a o e];rw[e]at h;exact h
 |_=>exact h
def DR(x:V)(lo hi:Int):Bool:=match x with
 | .int i=>decide (lo <=i) && decide (i <=hi)
 |_=>false
def EI(c:Nat):Bool:=decide (97 <=c) && decide (c <=122)
def DB:V->Bool
 | .str z=>decide (1 <=z.length) && decide (z.length <=8) && z.cps.toList.all EI
 |_=>false
def GW(H:Hp):V->Bool
 | .ref a=>match H a with
  |some (.lst xs)=>decide (1 <=xs.length) && decide (xs.length <=4000) && xs.all (fun y=>DR y 0 255)
  |_=>false
 |_=>false
theorem PJ{H:Hp}{a:Jg}{xs:List V}(h:H a=some (.lst xs)):GW H (.ref a)=(decide (1 <=xs.length) && decide (xs.length <=4000) && xs.all (fun y=>DR y 0 255)):=by
 show(match H a with|some (.lst xs)=>decide (1 <=xs.length) && decide (xs.length <=4000) && xs.all (fun y=>DR y 0 255)|_=>false)=_;rw[h]
theorem aB{H:Hp}{x:V}(h:Aw H x=false):GW H x=false:=by
 cases x with
 |ref a=>
  have h:(match H a with|some (.lst _)=>true|_=>false)=false:=h;show(match H a with|some (.lst xs)=>_|_=>false)=false;cases e:H a with
  |none=>rfl
  |some o=>
   rw[e]at h;cases o <;> first|rfl|cases h
 |_=>rfl
theorem Jo.new{H H':Hp}{p:Jg}{o:HO}(x:Jo H H')(h:H p=none):Jo H (upd H' p o):=fun b u e=>by
 rw[JG (Te e h)];exact x b u e
theorem eO(c:Nat):((!decide ((⟨#[c]⟩:Str).cps.toList < ("a":Str).cps.toList))=decide (97 <=c))/\((!decide (("z":Str).cps.toList < (⟨#[c]⟩:Str).cps.toList))=decide (c <=122)):=by
 have i:("a":Str).cps.toList=[97]:=by decide +kernel
 have g:("z":Str).cps.toList=[122]:=by decide +kernel
 rw[i,g];have e:(⟨#[c]⟩:Str).cps.toList=[c]:=rfl;rw[e];have f:∀a b:Nat,([a] < [b])↔a < b:=fun a b=>by
  constructor
  .intro h;rcases WI.mp h with h|⟨_,h⟩
   .exact h
   .exact absurd h (List.not_lt_nil _)
  .intro h;exact WI.mpr (.inl h)
 constructor
 .rw[YF];simp only[Xx,Xe,Yd,f];lia
 .rw[YF];simp only[Xx,Xe,Yd,f];lia
def Ob(t:TS):TS:=fun D σ H=>∃R:St->Hp->Prop,t {D with nx:=R} σ H/\∀σ' H',R σ' H'->D.nx σ' H'
theorem FK{X:Cx}{st:Stmt}{t:TS}(h:PS X st t):PS X st (Ob t):=by
 intro pins s σ H D I b;obtain⟨R,h1,h2⟩:=b;refine JO (h pins s σ H _ I h1) fun f s' q=>?_
 cases f with
 |next=>obtain⟨σ',H',c,a⟩:=q;exact⟨σ',H',c,h2 σ' H' a⟩
 |brk=>exact q
 |cont=>exact q
 |ret v=>exact q
section
variable{X:Cx}{K:Je}
theorem Ct(h:X.K=K):Rv X (Ag K):=h▸c5
theorem jH(h:X.K=K):Rv X (Ax K):=h▸ZW
theorem xW(h:X.K=K):EC X (Fs K):=h▸mG
def He(K:Je):List V->Hp->VK->Prop:=fun xs H Q=>∃p ys,xs=[.ref p]/\(JA K H p ys\/N8 K H p ys)/\Q (.int ys.length) H
def Kc(K:Je):List V->Hp->VK->Prop:=fun xs H Q=>∃p ys,xs=[.ref p]/\(JA K H p ys\/N8 K H p ys)/\∀l,H l=none->Q (.ref l) (upd H l (.lst ys))
def Iz(K:Je):List V->Hp->VK->Prop:=fun xs H Q=>∃ (p:Jg) (bs:List Bool),xs=[.ref p]/\JA K H p (bs.map V.bl)/\Q (.bl (bs.all id)) H
theorem B4(h:X.K=K):JN X (.builtin "len") (He K):=h▸eP
theorem Ik(h:X.K=K):JN X (.type "list") (Kc K):=h▸mP
theorem QB(hc:X.calm=true)(h:X.K=K):JN X (.builtin "all") (Iz K):=h▸d8 hc
theorem FB(hu:X.A.units+ 64 < cLine)(h:X.K=K):Nz X (compareOp .Eq) (P7 K):=h▸ZI hu
theorem Ao(hu:X.A.units+ 64 < cLine)(h:X.K=K):Nz X (compareOp .NotEq) (SU K):=h▸nS hu
theorem KF(h:X.K=K):Nz X (compareOp .In) (Pu K false):=h▸bZ
theorem Rw{e:Jk}{f:Str}{pos:Pos}{ta:TE}(h:X.K=K)(he:PE X e ta)(hb:attributeBase e f X.env (eval e X.env)=eval e X.env):PE X (.Attribute e f pos) (CK K ta f):=h▸tW he hb
theorem Rx{o value:Jk}{f:Str}{pos pos':Pos}{ta tv:TE}(h:X.K=K)(ha:PE X o ta)(hv:PE X value tv)(hs:swapsWith value (some (.Attribute o f pos')) pos.line X.env=pure false):PS X (.Assign [.Attribute o f pos'] value pos) (Hr K ta tv f):=h▸nN ha hv hs
theorem ET{es:List Expr}{k:Nat}{t:EX}{n:Nat}{pos:Pos}(h:X.K=K)(hc:X.calm=true)(hg:At X es t)
  (hn:(assignEach es X.env).length=n:=by rfl) (hst:(assignEach es X.env).findIdx? (·.1)=none:=by rfl):PG X (.Tuple es k pos) (FZ K n t):=h▸cG hc hg hn hst
theorem tH{tg l:Jk}{tl:TE}(h:X.K=K)(hl:PE X l tl):PI X tg l (Bo K tl):=h▸xE hl
theorem DQ{o e:Jk}{es:List Expr}{to:TE}{t:TA}{name:Str}{apos cpos:Pos}{T id:String}{r:V->List V->Hp->VK->Prop}(h:X.K=K)(pa:PlainAttrs T)(slot:Slot T name id)(hty:typeOf (.builtin id)=pure (.type "method_descriptor"))(hm:Fh X id r)(ho:PE X o to)(ha:PA X (e::es) t)
  (hbase:attributeBase o name X.env (eval o X.env)=eval o X.env:=by rfl)
  (hfew : ((backTo cpos (starEach (e :: es) X.env)).all (fun x => !x.1) && (backToKw cpos (keywordEach [] X.env)).all (fun x => x.1.isSome)
   && decide ((e :: es).length + ([] : List Keyword).length + (if ([] : List Keyword).isEmpty then 0 else 1) < 30)) = true := by rfl)
  (hline:(apos.endLine==cpos.line)=true:=by rfl) (hs:starEach (e::es) X.env=(false,eval e X.env)::starEach es X.env:=by rfl) (hplain:(backTo cpos (starEach es X.env)).any (·.1)=false:=by rfl):
  PE X (.Call (.Attribute o name apos) (e::es) [] cpos) (Hk K T r to t):=h▸y4 pa slot hty hm ho ha hbase hfew hline hs hplain
end
theorem ML{H:Hp}{p:Jg}{o:HO}(h:H p=none):Jo H (upd H p o):=(Jo.refl H).new h
section
variable{X:Cx}{es:List Expr}{t:TA}{pos:Pos}
def KI(t:TA):TE:=fun σ H Q=>t σ H fun xs H1=>xs.length <=sizeLine/\∀p G,H1 p=none->Jo H1 G->G p=some (.tup xs)->Q (.ref p) G
def IE(t:TA):TE:=fun σ H Q=>t σ H fun xs H1=>xs.length <=sizeLine/\∀p G,H1 p=none->Jo H1 G->G p=some (.lst xs)->Q (.ref p) G
theorem MR{x1}(h:PA X es t):PE X (.Tuple es x1 pos) (KI t):=by
 intro pins s σ H Q I g;refine wpAny_Tuple_spliced (JO (h pos pins s σ H _ I g) fun f s1 ⟨xs,H1,c,r,z,q⟩=>⟨by rw[<-r.length];exact z,?_⟩);have a:H1 s1.heap.objs.size=none:=c.hok.fresh (Y9 _);refine⟨.ref s1.heap.objs.size,upd H1 s1.heap.objs.size (.tup xs),c.laid (t':=s1.toks) (fun b u e=>Y8 _ e) (Y9 _) ?_,rfl,q _ _ a (ML a) Nb⟩;exact⟨z,f,r,⟨_,Ye _ rfl,rfl,_,rfl⟩⟩
theorem Dn(h:PA X es t):PE X (.List es pos) (IE t):=by
 intro pins s σ H Q I g;refine wpAny_List_spliced (JO (h pos pins s σ H _ I g) fun f s1 ⟨xs,H1,c,r,z,q⟩=>⟨by rw[<-r.length];exact z,?_⟩);have a:H1 s1.heap.objs.size=none:=c.hok.fresh (Y9 _);refine⟨.ref s1.heap.objs.size,upd H1 s1.heap.objs.size (.lst xs),c.laid (t':=s1.toks) (fun b u e=>Y8 _ e) (Y9 _) ?_,rfl,q _ _ a (ML a) Nb⟩;exact⟨z,f,0,r,Ye _ rfl⟩
end
section
variable{X:Cx}{K:Je}
theorem Nz.imp{f:Value->Value->Sem Value}{r r':R2}(h:Nz X f r)(hi:∀x y H Q,r' x y H Q->r x y H Q):Nz X f r':=fun pins s σ H x y v u Q I rx ry q=>h pins s σ H x y v u Q I rx ry (hi _ _ _ _ q)
theorem JN.imp{f:Jf}{r r':List V->Hp->VK->Prop}(h:JN X f r)(hi:∀xs H Q,r' xs H Q->r xs H Q):JN X f r':=fun pins s σ H xs a Q I rx q=>h pins s σ H xs a Q I rx (hi _ _ _ q)
theorem Gp.imp{id:String}{r r':V->List V->Hp->VK->Prop}(h:Gp X id r)(hi:∀x xs H Q,r' x xs H Q->r x xs H Q):Gp X id r':=fun pins s σ H x xs v a Q I rx b q=>h pins s σ H x xs v a Q I rx b (hi _ _ _ _ q)
theorem EC.imp{r r':V->Option Int->Option Int->Hp->VK->Prop}(h:EC X r)(hi:∀x a b H Q,r' x a b H Q->r x a b H Q):EC X r':=fun pins s σ H x v f e lo c g Q I rx hs j i q=>h pins s σ H x v f e lo c g Q I rx hs j i (hi _ _ _ _ _ q)
def F6:R2:=fun x y H Q=>∃l b xs zs,x= .ref l/\y= .ref b/\H l=some (.lst xs)/\H b=some (.lst zs)/\xs.length+ zs.length <=sizeLine/\∀p G,H p=none->Jo H G->G p=some (.lst (xs++zs))->Q (.ref p) G
theorem CQ:Nz X (binaryOp .Add) F6:=B8.imp fun x y H Q zz=>by rcases zz with⟨l,b,xs,zs,f,e,h1,h2,c,q⟩;exact ⟨l,b,xs,zs,f,e,h1,h2,c,fun p a=>q p _ a (ML a) Nb⟩
def FY(K:Je):List V->Hp->VK->Prop:=fun xs H Q=>∃p ys,xs=[.ref p]/\(JA K H p ys\/N8 K H p ys)/\∀l G,H l=none->Jo H G->G l=some (.lst ys)->Q (.ref l) G
theorem mE(h:X.K=K):JN X (.type "list") (FY K):=(Ik h).imp fun xs H Q ⟨p,ys,e,h1,q⟩=>⟨p,ys,e,h1,fun l a=>q l _ a (ML a) Nb⟩
def FL(K:Je):V->Option Int->Option Int->Hp->VK->Prop:=fun x lo hi H Q=>∃a xs,x= .ref a/\JA K H a xs/\∀p G,H p=none->Jo H G->G p=some (.lst (Gv xs lo hi))->Q (.ref p) G
theorem Km(h:X.K=K):EC X (FL K):=(xW h).imp fun x a b H Q ⟨p,ys,e,h1,q⟩=>⟨p,ys,e,h1,fun l c=>q l _ c (ML c) Nb⟩
def FM:V->List V->Hp->VK->Prop:=fun x vs H Q=>∃l xs y,x= .ref l/\vs=[y]/\H l=some (.lst xs)/\xs.length < sizeLine/\∀G,Nd l H G->G l=some (.lst (xs++[y]))->Q .non G
theorem Em:Gp X "list.append" FM:=Rc.imp fun x xs H Q zz=>by rcases zz with⟨l,ys,y,b,a,h1,h2,q⟩;exact ⟨l,ys,y,b,a,h1,h2,q _ Nd.upd Nb⟩
def FX:V->List V->Hp->VK->Prop:=fun x vs H Q=>∃l b xs zs,x= .ref l/\vs=[.ref b]/\H l=some (.lst xs)/\H b=some (.lst zs)/\xs.length+ zs.length <=sizeLine/\∀G,Nd l H G->G l=some (.lst (xs++zs))->Q .non G
theorem wE:Gp X "list.extend" FX:=Rb.imp fun x xs H Q zz=>by rcases zz with⟨l,b,ys,zs,e,c,h1,h2,a,q⟩;exact ⟨l,b,ys,zs,e,c,h1,h2,a,q _ Nd.upd Nb⟩
def Kl(K:Je)(ta tv:TE)(f:Str):TS:=fun D σ H=>tv σ H fun y H1=>ta σ H1 fun x H2=>∃a C dx fs,x= .ref a/\H2 a=some (.ins C dx fs)/\Db K C/\Jx K C f/\fs.length < 1000/\
 ∀G,Nd a H2 G->G a=some (.ins C dx (NX f y fs))->D.nx σ G
theorem Dg{o value:Jk}{f:Str}{pos pos':Pos}{ta tv:TE}(h:X.K=K)(ha:PE X o ta)(hv:PE X value tv)(hs:swapsWith value (some (.Attribute o f pos')) pos.line X.env=pure false):PS X (.Assign [.Attribute o f pos'] value pos) (Kl K ta tv f):=by
 subst h;intro pins s σ H D I h;refine Vt (JO (hv pins s σ H _ I h) fun u s1 ⟨y,H1,p,ry,q⟩=>JO (ha pins s1 σ H1 _ p q) fun e s2 zz=>?_) hs;rcases zz with⟨x,H2,j,rx,a,C,dx,fs,ex,g,c,n,l,b⟩;subst ex;obtain rfl:e=Value.ref a:=rx;exact Qg j g c n l ry fun r i=>⟨σ,_,i,b _ Nd.upd Nb⟩
end
def Ti(K:Je)(H:Hp)(x:V)(f:Str)(v:V):Prop:=∃a C dx fs,x= .ref a/\H a=some (.ins C dx fs)/\Db K C/\Jx K C f/\fs.lookup f=some v
def CJ(K:Je)(ta:TE)(f:Str):TE:=fun σ H Q=>ta σ H fun x H1=>∃v,Ti K H1 x f v/\Q v H1
theorem ZF{X:Cx}{K:Je}{e:Jk}{f:Str}{pos:Pos}{ta:TE}(h:X.K=K)(he:PE X e ta)(hb:attributeBase e f X.env (eval e X.env)=eval e X.env):PE X (.Attribute e f pos) (CJ K ta f):=by
 subst h;intro pins s σ H Q I h;refine PL hb (JO (he pins s σ H _ I h) fun u s1 zz=>?_);rcases zz with⟨x,H1,i,rx,v,⟨a,C,dx,fs,ex,b,c,n,l⟩,q⟩;subst ex;obtain rfl:u=Value.ref a:=rx;exact Qi i b c n l fun j s2 g ru=>⟨v,H1,g,ru,q⟩
theorem Ap{X:Cx}{K:Je}{o:Jk}{to:TE}{name:Str}{apos cpos:Pos}{T id:String}{r:V->List V->Hp->VK->Prop}(h:X.K=K)(pa:PlainAttrs T)(slot:Slot T name id)(hty:typeOf (.builtin id)=pure (.type "method_descriptor"))(hm:Fh X id r)(ho:PE X o to)
  (hbase:attributeBase o name X.env (eval o X.env)=eval o X.env:=by rfl) (hline:(apos.endLine==cpos.line)=true:=by rfl):PE X (.Call (.Attribute o name apos) [] [] cpos) (AY K T r to):=h▸eM pa slot hty hm ho hbase hline
structure Gg(P:J9)(w:Jd)(K:Je)(mg:J5)(base:Jj)(x:Str)(k:Nat)(sp:Sp):Prop where
 ex:∃ (f C:Jg) (fd:Jb) (ds:Ji) (dvs:List V) (ps:List Str) (sp0:Sp),Ju P w K mg base N7 k f fd ps sp0/\mg x=some (.ref C)/\Mk K C f/\TU K fd ps ds/\JB dvs ds/\
  ∀vs H Q,sp vs H Q E0->∀y dx G,H y=none->H dx=none->dx≠y->Jo H G->G y=some (.ins C dx [])->sp0 (.ref y::(vs++dvs)) G (fun v H2=>v= .non/\Q (.ref y) H2) E0
theorem Rj.ct{P:J9}{w:Jd}{K:Je}{mg:J5}{base:Jj}{x:Str}{C:Jg}{k:Nat}{ps:List Str}{dvs:List V}{sp sp':Sp}(F:Rj P w K mg base x C k ps dvs sp)
  (h:∀vs H Q,sp' vs H Q E0->∀y dx G,H y=none->H dx=none->dx≠y->Jo H G->G y=some (.ins C dx [])->sp (.ref y::(vs++dvs)) G (fun v H2=>v= .non/\Q (.ref y) H2) E0):Gg P w K mg base x k sp':=by
 obtain⟨f,fd,ds,G,a,M,c,b⟩:=F.ex;exact⟨f,C,fd,ds,dvs,ps,sp,G,a,M,c,b,h⟩
theorem Eo{X:Cx}{k:Nat}{sp:Sp}{x:Str}{p pos:Pos}{e:Jk}{es:List Expr}{t:TA}(F:Gg X.prog X.w X.K X.mg X.base x k sp)(hr:Room (k+ 1) X.A)(hg:Gl X x)(ha:PA X (e::es) t)(hdb:(x==("__debug__":Str))=false:=by decide)
  (he:starEach (e::es) X.env=(false,eval e X.env)::starEach es X.env:=by rfl) (hpl:(backTo pos (starEach es X.env)).any (·.1)=false:=by rfl):PE X (.Call (.Name x p) (e::es) [] pos) (Av sp [] E0 t):=by
 obtain⟨f,C,fd,ds,dvs,ps,sp0,G,i,M,n,j,hi⟩:=F.ex;intro pins s σ H Q I h;refine XT (IB I hg i ?_ hdb);refine W.callWith_K (h₀:=X.base) I.ok.mod.kin M.kp (JO (ha pos pins s σ H _ I h) fun o s1 ⟨vs,H1,c,r,q⟩=>⟨c.kIn,?_⟩) he hpl;have q:sp (vs++[]) H1 Q E0:=q;rw[List.append_nil]at q;exact j6 M G hr n j AO c r fun y dx b a g=>hi _ _ _ q y dx _ b a g ((ML a).new b) Nb
def Ro(C:Jg)(m:Str)(H:Hp)(x:V):Prop:=∃a dx fs,x= .ref a/\H a=some (.ins C dx fs)/\fs.lookup m=none
def Hx(C:Jg)(m:Str)(sp:Sp)(dvs:List V)(ta:TE)(t:TA):TE:=fun σ H Q=>ta σ H fun x H1=>Ro C m H1 x/\t σ H1 fun vs H2=>sp (x::(vs++dvs)) H2 Q E0
section
variable{X:Cx}{k:Nat}{C:Jg}{ps:List Str}{sp:Sp}{dvs:List V}{m:Str}{pos apos:Pos}{e o:Jk}{es:List Expr}{ta:TE}{t:TA}
theorem DM{pl:Sem Bool}(he:PE X o ta)(F:T4 X.prog X.w X.K X.mg X.base C m k ps dvs sp)(hr:Room k X.A)(ha:PA X (e::es) t)
  (hst:starEach (e::es) X.env=(false,eval e X.env)::starEach es X.env:=by rfl) (hpl:(backTo pos (starEach es X.env)).any (·.1)=false:=by rfl)
  (ht : eval (.Call (.Attribute o m apos) (e :: es) [] pos) X.env = (do
   let ov <-eval o X.env
   standAt apos.atName
   let (f,first) <-holding [ov] (getMethod ov m pl)
   callWith pos f first (backTo pos (starEach (e :: es) X.env)) (backToKw pos (keywordEach [] X.env))) := by rfl) :
  PE X (.Call (.Attribute o m apos) (e::es) [] pos) (Hx C m sp dvs ta t):=by
 obtain⟨f,fd,ds,G,c,b,p,n⟩:=F.ex;intro pins s σ H Q I h;refine Wv (pl:=pl) (JO (he pins s σ H _ I h) fun u s1 zz=>?_) ht;rcases zz with⟨x,H1,i,rx,⟨a,dx,fs,ex,v,l⟩,q⟩;subst ex;obtain rfl:u=Value.ref a:=rx;refine Lb i v c b l ?_;refine W.callWith_K (first:=[.ref a]) (h₀:=X.base) I.ok.mod.kin b.kp (JO (ha pos pins s1 σ H1 _ i q) fun us s2 ⟨vs,H2,g,r,j⟩=>⟨g.kIn,?_⟩) hst hpl;exact Cu (us:=.ref a::us) (vs:=.ref a::vs) G hr p n AO g (.cons rfl r) j
theorem Dc{pl:Sem Bool}(he:PE X o ta)(F:T4 X.prog X.w X.K X.mg X.base C m k ps dvs sp)(hr:Room k X.A)
  (ht : eval (.Call (.Attribute o m apos) [] [] pos) X.env = (do
   let ov <-eval o X.env
   standAt apos.atName
   let (f,first) <-holding [ov] (getMethod ov m pl)
   callWith pos f first (backTo pos (starEach [] X.env)) (backToKw pos (keywordEach [] X.env))) := by rfl) :
  PE X (.Call (.Attribute o m apos) [] [] pos) (Hx C m sp dvs ta R5):=by
 obtain⟨f,fd,ds,G,c,e,i,g⟩:=F.ex;intro pins s σ H Q I h;refine Wv (pl:=pl) (JO (he pins s σ H _ I h) fun u s1 zz=>?_) ht;rcases zz with⟨x,H1,b,rx,⟨a,dx,fs,ex,j,l⟩,q⟩;subst ex;obtain rfl:u=Value.ref a:=rx;refine Lb b j c e l ?_;exact W.callWith_K0 (first:=[.ref a]) b.kIn e.kp (Cu (us:=[.ref a]) (vs:=[.ref a]) G hr i g AO b (.cons rfl .nil) q)
end
theorem Jo.get{H G:Hp}{b:Jg}{o:HO}(s:Jo H G)(h:H b=some o):G b=some o:=s b o h
theorem Nd.get{l:Jg}{H G:Hp}{b:Jg}{o:HO}(s:Nd l H G)(h:H b=some o)(n:b≠l):G b=some o:=s b o h n
theorem Jo.butNew{l:Jg}{H H' G:Hp}(s:Jo H H')(b:Nd l H' G)(h:H l=none):Jo H G:=fun c o e=>b c o (s c o e) (Te e h)
theorem Nd.free{l:Jg}{H G:Hp}(s:Nd l H G){b:Jg}(h:G b=none)(n:b≠l):H b=none:=by
 cases e:H b with
 |none=>rfl
 |some o=>rw[s b o e n]at h;cases h
theorem Jo.toBut{l:Jg}{H G:Hp}(s:Jo H G):Nd l H G:=fun b o e _=>s b o e
section
variable{caps:List (Option Nat)}{g:TG}{tc:TT}{te:TE}
theorem AV{K:Je}{a:Jg}{xs:List V}{σ:St}{H1:Hp}{Q:VK}(Pv:Nat->List V->St->Hp->Prop)(h0:Pv 0 [] (Nf caps σ) H1)(hl:∀i ys σ H,Pv i ys σ H->i <=xs.length->JA K H a xs/\ys.length <=i)(hz:xs.length <=sizeLine)
  (hs:∀i x ys σ H,xs[i]?=some x->Pv i ys σ H->g x σ H fun σ2 H2=>tc σ2 H2 fun b H3=>if b=true then te σ2 H3 fun y H4=>Pv (i+ 1) (ys++[y]) σ2 H4 else Pv (i+ 1) ys σ2 H3)
  (hd:∀ys σ H,Pv xs.length ys σ H->∀p G,H p=none->Jo H G->G p=some (.lst ys)->Q (.ref p) G):Bq caps g tc te σ Q (E7 K a) H1:=
 SA Pv h0 hl hz hs fun ys σ H h p c=>hd ys σ H h p _ c (ML c) Nb
theorem Sr{lo:Int}{n:Nat}{σ:St}{H1:Hp}{Q:VK}(Pv:Nat->List V->St->Hp->Prop)(h0:Pv 0 [] (Nf caps σ) H1)(hl:∀i ys σ H,Pv i ys σ H->i <=n->ys.length <=i)(hz:n <=sizeLine)
  (hs:∀i ys σ H,i < n->Pv i ys σ H->g (.int (lo+ i)) σ H fun σ2 H2=>tc σ2 H2 fun b H3=>if b=true then te σ2 H3 fun y H4=>Pv (i+ 1) (ys++[y]) σ2 H4 else Pv (i+ 1) ys σ2 H3)
  (hd:∀ys σ H,Pv n ys σ H->∀p G,H p=none->Jo H G->G p=some (.lst ys)->Q (.ref p) G):Bq caps g tc te σ Q (Ec lo n) H1:=
 d5 Pv h0 hl hz hs fun ys σ H h p a=>hd ys σ H h p _ a (ML a) Nb
end
structure Bu(K:Je)(C:Jg):Prop where
 ha:W.findIn K (.ref C) "__class__"=some (some (.builtin "object.__class__"))
 hn:W.specialIn K (.builtin "object.__class__") "__get__"=some (some (.builtin "getset_descriptor.__get__"))
 htk:W.takesIn K (.builtin "object.__class__")=some true
 hm:W.mroIn K C (.type "object")=some true
def LQ(C:Jg):List V->Hp->VK->Prop:=fun xs H Q=>∃a dx fs,xs=[.ref a,.ref C]/\H a=some (.ins C dx fs)/\Q (.bl true) H
theorem yM{X:Cx}{K:Je}{C:Jg}(h:X.K=K)(cl:Db K C)(ic:Bu K C):JN X (.builtin "isinstance") (LQ C):=by
 subst h;intro pins s σ H xs b Q I r c;obtain⟨a,dx,fs,rfl,ha,q⟩:=c;refine K9 pins s σ H _ b Q I r ⟨.ref a,.ref C,.ref C,true,rfl,.ins ha cl ic.ha ic.hn ic.htk ic.hm,rfl,?_,q⟩;show W.kitOne X.K (.ref C) (.ref C)=some true;unfold W.kitOne;rw[Y3 (by simp)]
section
variable{P:J9}{w:Jd}{K:Je}{mg:J5}{base:Jj}
theorem T4.imp{C:Jg}{m:Str}{k:Nat}{ps:List Str}{dvs:List V}{sp sp':Sp}(F:T4 P w K mg base C m k ps dvs sp)(h:∀vs H Q E,sp' vs H Q E->sp vs H Q E):T4 P w K mg base C m k ps dvs sp':=by
 obtain⟨f,fd,ds,a,b,c,d,e⟩:=F.ex;exact⟨f,fd,ds,a.imp h,b,c,d,e⟩
theorem Tc.imp{x:Str}{k:Nat}{ps:List Str}{dvs:List V}{sp sp':Sp}(F:Tc P w K mg base x k ps dvs sp)(h:∀vs H Q E,sp' vs H Q E->sp vs H Q E):Tc P w K mg base x k ps dvs sp':=by
 obtain⟨f,fd,ds,a,b,c,d,e⟩:=F.ex;exact⟨f,fd,ds,a.imp h,b,c,d,e⟩
end
theorem Nl{t u:TS}{D:Mh}{σ:St}{H:Hp}(h:∀N:St->Hp->Prop,(∀σ' H',u D σ' H'->N σ' H')->t {D with nx:=N} σ H):GD t u D σ H:=h (u D) fun _ _ x=>x
theorem jF{ns:List V}{lo:Nat}(h1:lo <=ns.length):Gv ns (some (lo:Int)) none=ns.drop lo:=by
 unfold Gv;rw[HT.sIx_nat,HT.sIx_none,XM h1,Yv];rw[X1];exact Y9 _
theorem rG{ns:List V}{hi:Nat}(h1:hi <=ns.length):Gv ns none (some (hi:Int))=ns.take hi:=by
 unfold Gv;rw[HT.sIx_nat,HT.sIx_none,XM h1,Nat.sub_zero,List.drop_zero]
section
variable{κ:Type}[DecidableEq κ]
def JP(kvs:List (κ×V))(k:κ):Option V:=(kvs.find? fun kv=>decide (kv.1=k)).map (·.2)
def MY(kvs:List (κ×V))(k:κ)(v:V):List (κ×V):=
 if(kvs.any fun kv=>decide (kv.1=k))=true then kvs.map (fun kv=>if kv.1=k then(kv.1,v) else kv) else kvs++[(k,v)]
theorem RU{p:κ×V}{r:List (κ×V)}{k:κ}(e:p.1=k):JP (p::r) k=some p.2:=by simp[JP,YS,e]
theorem RO{p:κ×V}{r:List (κ×V)}{k:κ}(e:¬p.1=k):JP (p::r) k=JP r k:=by simp[JP,YS,e]
theorem Cz(k:κ):∀kvs:List (κ×V),(kvs.any fun kv=>decide (kv.1=k))=(JP kvs k).isSome
 |[]=>rfl
 |p::r=>by
  rw[Uh]
  by_cases e:p.1=k
  .simp only[RU e,Yt e,Bool.true_or,Option.isSome_some]
  .rw[RO e,Yz e,Bool.false_or];exact Cz k r
theorem SC(k j:κ)(y:V):∀kvs:List (κ×V),JP (kvs.map fun kv=>if kv.1=k then(kv.1,y) else kv) j=(JP kvs j).map fun x=>if j=k then y else x
 |[]=>rfl
 |p::r=>by
  have ih:=SC k j y r;rw[List.map_cons]
  by_cases h:p.1=k
  .rw[Y3 h]
   by_cases e:p.1=j
   .rw[RU (p:=(p.1,y)) e,RU e,Vx,Y3 (e.symm.trans h)]
   .rw[RO (p:=(p.1,y)) e,RO e,ih]
  .rw[Y2 h]
   by_cases e:p.1=j
   .rw[RU (p:=p) e,RU e,Vx,Y2 (fun z=>h (e.trans z))]
   .rw[RO (p:=p) e,RO e,ih]
theorem QF(k j:κ)(y:V):∀kvs:List (κ×V),JP kvs k=none->JP (kvs++[(k,y)]) j=if j=k then some y else JP kvs j
 |[],_=>by
  by_cases e:k=j
  .rw[Y3 e.symm];exact RU (p:=(k,y)) e
  .rw[Y2 (fun z=>e z.symm)];exact RO (p:=(k,y)) e
 |p::r,hn=>by
  rw[List.cons_append];have hk:¬p.1=k:=fun z=>by rw[RU z]at hn;cases hn
  rw[RO hk]at hn;have a:=QF k j y r hn
  by_cases e:p.1=j
  .rw[RU e,RU e,Y2 (fun z=>hk (e.trans z))]
  .rw[RO e,RO e,a]
theorem u8(kvs:List (κ×V))(k j:κ)(y:V):JP (MY kvs k y) j=if j=k then some y else JP kvs j:=by
 unfold MY
 by_cases a:(kvs.any fun b=>decide (b.1=k))=true
 .rw[Y3 a,SC];rw[Cz]at a
  by_cases e:j=k
  .obtain⟨x,c⟩:=V7.mp a;rw[Y3 e,e,c,Vx,Y3 rfl]
  .rw[Y2 e];cases JP kvs j with
   |none=>rfl
   |some x=>rw[Vx,Y2 e]
 .rw[Y2 a];refine QF k j y kvs ?_;rw[Cz]at a;cases q:JP kvs k with
  |none=>rfl
  |some x=>rw[q]at a;exact(a rfl).elim
theorem PM(kvs:List (κ×V))(k:κ)(v:V):(MY kvs k v).length <=kvs.length+ 1:=by
 unfold MY
 split
 .rw[Y1];lia
 .rw[List.length_append,List.length_cons,List.length_nil];lia
theorem TY.isSome_eq{o:Option V}{u:Option Value}(r:TY o u):o.isSome=u.isSome:=by
 cases o with
 |none=>cases u with
  |none=>rfl
  |some _=>exact(show False from r).elim
 |some _=>cases u with
  |none=>exact(show False from r).elim
  |some _=>rfl
theorem KV.val{kvs:List (κ×V)}{vs:List (κ×Value)}(r:KV kvs vs)(k:κ):TY (JP kvs k) (valueAt vs k):=by
 unfold KV at r
 induction r with
 |nil=>exact True.intro
 |@cons p q ps qs h t ih=>
  obtain⟨h1,h2⟩:=h
  by_cases e:p.1=k
  .have a:q.1=k:=h1.symm.trans e;have b:valueAt (q::qs) k=some q.2:=by simp[valueAt,YS,a]
   rw[RU e,b];exact h2
  .have a:¬q.1=k:=fun z=>e (h1.trans z)
   have b:valueAt (q::qs) k=valueAt qs k:=by simp[valueAt,YS,a]
   rw[RO e,b];exact ih
theorem KV.any{kvs:List (κ×V)}{vs:List (κ×Value)}(r:KV kvs vs)(k:κ):(kvs.any fun kv=>decide (kv.1=k))=vs.any fun kv=>decide (kv.1=k):=by
 unfold KV at r
 induction r with
 |nil=>rfl
 |cons h t ih=>rw[Uh,Uh,ih,h.1]
theorem KV.repl{kvs:List (κ×V)}{vs:List (κ×Value)}(r:KV kvs vs)(k:κ){y:V}{u:Jf}(ry:Jz y u):
  KV (kvs.map fun kv=>if kv.1=k then(kv.1,y) else kv) (vs.map fun kv=>if kv.1=k then(kv.1,u) else kv):=by
 unfold KV at r ⊢
 induction r with
 |nil=>exact .nil
 |@cons p q ps qs h t ih=>
  rw[List.map_cons,List.map_cons];refine .cons ?_ ih;obtain⟨h1,h2⟩:=h
  by_cases e:p.1=k
  .rw[Y3 e,Y3 (h1.symm.trans e)];exact⟨h1,ry⟩
  .rw[Y2 e,Y2 (fun z=>e (h1.trans z))];exact⟨h1,h2⟩
theorem KV.put{kvs:List (κ×V)}{vs:List (κ×Value)}(r:KV kvs vs)(k:κ){y:V}{u:Jf}(ry:Jz y u):KV (MY kvs k y) (stored vs k u):=by
 unfold MY stored;rw[r.any k]
 by_cases e:(vs.any fun a=>decide (a.1=k))=true
 .rw[Y3 e,Y3 e];exact r.repl k ry
 .rw[Y2 e,Y2 e];exact Paired.snoc r ⟨rfl,ry⟩
theorem KV.length{kvs:List (κ×V)}{vs:List (κ×Value)}(r:KV kvs vs):kvs.length=vs.length:=Paired.length r
end
theorem AI{P:J9}{w:Jd}{k:JL}{u:Jf}(r:Jz (kV k) u):(JQ P w).is k u=true:=by
 cases k with
 |inl i=>obtain⟨t,e⟩:=(show ∃t,u=Value.int i t from r);subst e;exact ZL P w i t
 |inr x=>obtain⟨t,e⟩:=(show ∃t,u=Value.str x t from r);subst e;exact yX P w x t
theorem CA{P:J9}{w:Jd}:∀{ks:List JL} {us:Ji},JB (ks.map kV) us->ItemsAre (JQ P w) ks us
 |[],_,r=>by rw[List.map_nil]at r;cases r;exact .nil
 |k::ks,_,r=>by
  rw[List.map_cons]at r;cases r with
  |cons h t=>exact .cons (AI h) (CA t)
abbrev KT(H:Hp):List (List JL×V)->List (List JL×Addr×Value)->Prop:=Paired fun p q=>p.1=q.1/\H q.2.1=some (.tup (p.1.map kV))/\Jz p.2 q.2.2
theorem KT.val{H:Hp}{kvs:List (List JL×V)}{xs:List (List JL×Addr×Value)}(r:KT H kvs xs)(k:List JL):TY (JP kvs k) ((atKey xs k).map (·.2)):=by
 induction r with
 |nil=>exact True.intro
 |@cons p q ps qs h t ih=>
  obtain⟨h1,_,h2⟩:=h
  by_cases e:p.1=k
  .have a:q.1=k:=h1.symm.trans e;have b:atKey (q::qs) k=some q.2:=by simp[atKey,YS,a]
   rw[RU e,b];exact h2
  .have a:¬q.1=k:=fun z=>e (h1.trans z)
   have b:atKey (q::qs) k=atKey qs k:=by simp[atKey,YS,a]
   rw[RO e,b];exact ih
theorem KT.repl{H:Hp}{kvs:List (List JL×V)}{xs:List (List JL×Addr×Value)}(r:KT H kvs xs)(k:List JL){y:V}{u:Jf}(ry:Jz y u):
  KT H (kvs.map fun kv=>if kv.1=k then(kv.1,y) else kv) (xs.map (putAt k u)):=by
 induction r with
 |nil=>exact .nil
 |@cons p q ps qs h t ih=>
  rw[List.map_cons,List.map_cons];refine .cons ?_ ih;obtain⟨h1,h2,a⟩:=h;unfold putAt
  by_cases e:p.1=k
  .rw[Y3 e,Y3 (h1.symm.trans e)];exact⟨h1,h2,ry⟩
  .rw[Y2 e,Y2 (fun z=>e (h1.trans z))];exact⟨h1,h2,a⟩
theorem KT.put{H:Hp}{kvs:List (List JL×V)}{xs:List (List JL×Addr×Value)}(r:KT H kvs xs)(k:List JL){b:Jg}{y:V}{u:Jf}(hb:H b=some (.tup (k.map kV)))(ry:Jz y u):
  KT H (MY kvs k y) (storedH xs k b u):=by
 have e:(kvs.any fun a=>decide (a.1=k))=(atKey xs k).isSome:=by
  rw[Cz,(r.val k).isSome_eq,Wb]
 unfold MY storedH;rw[e]
 by_cases q:(atKey xs k).isSome=true
 .rw[Y3 q,Y3 q];exact r.repl k ry
 .rw[Y2 q,Y2 q];exact Paired.snoc r ⟨rfl,hb,ry⟩
theorem KT.keeps{H H':Hp}{kvs:List (List JL×V)}{xs:List (List JL×Addr×Value)}(r:KT H kvs xs)(ht:∀b ys,H b=some (.tup ys)->H' b=some (.tup ys)):KT H' kvs xs:=
 Paired.mapP r fun _ _ z=>⟨z.1,ht _ _ z.2.1,z.2.2⟩
section
variable{P:J9}{w:Jd}{H:Hp}{h:Jj}{a:Jg}
theorem Sd{u:HO}(ok:Tq P w H h)(e:Rd H a u):JF P w H h a u:=e.ok ok
theorem A0{kvs:List (JL×V)}(ok:Tq P w H h)(e:Rd H a (.dK kvs)):kvs.length <=sizeLine/\(a==sysModules)=false/\∃vs,KV kvs vs/\h.DictOf (JQ P w) a vs:=
 show JF P w H h a (.dK kvs) from Sd ok e
theorem jE{kvs:List (JL×V)}(ok:Tq P w H h)(e:H a=some (.dK kvs)):kvs.length <=sizeLine/\(a==sysModules)=false/\∃vs,KV kvs vs/\h.DictOf (JQ P w) a vs:=A0 ok (.inl e)
theorem Bc{ks:List JL}(ok:Tq P w H h)(e:H a=some (.tup (ks.map kV))):(tupleKind (JQ P w)).is h ks a:=by
 obtain⟨_,b,r,o,h1,h2,n,c⟩:=(show JF P w H h a (.tup (ks.map kV)) from ok a _ e);exact⟨o,b.toArray,n,h1,h2,c,by simpa using CA r⟩
theorem AA{kvs:List (List JL×V)}(ok:Tq P w H h)(e:Rd H a (.dT kvs)):kvs.length <=sizeLine/\(a==sysModules)=false/\
  ∃xs,KT H kvs xs/\h.DictOfH (tupleKind (JQ P w)) a xs:=by
 obtain⟨z,y,xs,r,o,es,ep,h1,h2,g,f,c⟩:=(show JF P w H h a (.dT kvs) from Sd ok e);refine⟨z,y,xs,r,o,es,ep,h1,h2,g,f,fun x b=>?_,c⟩;have all:∀{l:List (List JL×V)} {m:List (List JL×Addr×Value)},KT H l m->∀x∈m,(tupleKind (JQ P w)).is h x.1 x.2.1:=by
  intro l m q
  induction q with
  |nil=>intro x b;exact nomatch b
  |@cons p q ps qs hq t ih=>
   intro x b;rcases Ym.mp b with e|b
   .subst e;exact Bc ok (by rw[<-hq.1];exact hq.2.1)
   .exact ih x b
 exact all r x b
theorem Am{kvs:List (List JL×V)}(ok:Tq P w H h)(e:H a=some (.dT kvs)):kvs.length <=sizeLine/\(a==sysModules)=false/\
  ∃xs,KT H kvs xs/\h.DictOfH (tupleKind (JQ P w)) a xs:=AA ok (.inl e)
end
def D3(H:Hp)(a:Jg)(y:V)(r:Option V):Prop:=
 (∃kvs k,Rd H a (.dK kvs)/\y=kV k/\r=JP kvs k)\/∃kvs k b,Rd H a (.dT kvs)/\y= .ref b/\H b=some (.tup (k.map kV))/\r=JP kvs k
def Gq(H:Hp)(a:Jg)(y v:V)(H':Hp):Prop:=
 (∃kvs k,H a=some (.dK kvs)/\y=kV k/\kvs.length < sizeLine/\H'=upd H a (.dK (MY kvs k v)))\/
 ∃kvs k b,H a=some (.dT kvs)/\y= .ref b/\H b=some (.tup (k.map kV))/\kvs.length < sizeLine/\H'=upd H a (.dT (MY kvs k v))
theorem D3.k{H:Hp}{a:Jg}{kvs:List (JL×V)}{k:JL}(e:H a=some (.dK kvs)):D3 H a (kV k) (JP kvs k):=.inl ⟨kvs,k,.inl e,rfl,rfl⟩
theorem Gq.k{H:Hp}{a:Jg}{kvs:List (JL×V)}{k:JL}{v:V}(e:H a=some (.dK kvs))(hl:kvs.length < sizeLine):Gq H a (kV k) v (upd H a (.dK (MY kvs k v))):=.inl ⟨kvs,k,e,rfl,hl,rfl⟩
theorem Gq.t{H:Hp}{a b:Jg}{kvs:List (List JL×V)}{k:List JL}{v:V}(e:H a=some (.dT kvs))(eb:H b=some (.tup (k.map kV)))(hl:kvs.length < sizeLine):
  Gq H a (.ref b) v (upd H a (.dT (MY kvs k v))):=.inr ⟨kvs,k,b,e,rfl,eb,hl,rfl⟩
section
variable{X:Cx}{pins:J8}{σ:St}{H:Hp}{s:Ja}{a:Jg}{y v:V}{u r:Jf}{o:Option V}{A:Jc}{E:J6}
theorem Jq.big(I:Jq X pins σ H s):sysModules < s.heap.objs.size:=by
 have h:mainGlobals < s.heap.objs.size:=(I.mod.glob.keeps I.bk).lt;exact Nat.lt_trans (by decide) h
theorem cC{Q:J6}(hu:A.units+ 1 < cLine)(I:Jq X pins σ H s)(g:D3 H a y (some v))(ry:Jz y u)(h:∀w' s',Jq X pins σ H s'->Jz v w'->Q w' s'):
  wpAny (model X.prog X.w) A (getItem (.ref a) u) Q E s:=by
 rcases g with⟨kvs,k,e,ey,l⟩|⟨kvs,k,b,e,ey,eb,l⟩
 .subst ey;obtain⟨z,r,vs,f,j⟩:=A0 I.hok e;obtain⟨w',i,c⟩:=TY.some_of (v:=v) (o:=valueAt vs k) (by rw[l];exact f.val k);exact wpAny_getItem_of (AI ry) j.mapOf i (h w' _ (I.tok _) c)
 .subst ey;cases (show u=Value.ref b from ry);obtain⟨z,r,xs,f,j⟩:=AA I.hok e;obtain⟨w',i,c⟩:=TY.some_of (v:=v) (o:=(atKey xs k).map (·.2)) (by rw[l];exact f.val k);obtain⟨p,q,n⟩:=Yl.mp i;refine wpAny_getItem_heap (Ub hu) (Bc I.hok eb) j q ?_;rw[n];exact h w' _ (I.tok _) c
theorem QT{Q:J6}(hu:A.units+ 1 < cLine)(I:Jq X pins σ H s)(g:D3 H a y o)(ry:Jz y u)(h:∀s',Jq X pins σ H s'->Q (.bool o.isSome) s'):
  wpAny (model X.prog X.w) A (compareOp .In u (.ref a)) Q E s:=by
 rcases g with⟨kvs,k,e,ey,l⟩|⟨kvs,k,b,e,ey,eb,l⟩
 .subst ey;obtain⟨z,f,vs,c,i⟩:=A0 I.hok e;refine wpAny_in_of (AI ry) f i.mapOf ?_;rw[<-(c.val k).isSome_eq,<-l];exact h _ (I.tok _)
 .subst ey;cases (show u=Value.ref b from ry);obtain⟨z,f,xs,c,i⟩:=AA I.hok e;refine wpAny_in_heap (Ub hu) (Bc I.hok eb) f i ?_;have q:=(c.val k).isSome_eq;rw[Wb]at q;rw[<-q,<-l];exact h _ (I.tok _)
theorem vY{Q:J6}(hu:A.units+ 1 < cLine)(I:Jq X pins σ H s)(g:D3 H a y o)(ry:Jz y u)(h:∀s',Jq X pins σ H s'->Q (.bool (!o.isSome)) s'):
  wpAny (model X.prog X.w) A (compareOp .NotIn u (.ref a)) Q E s:=by
 rcases g with⟨kvs,k,e,ey,l⟩|⟨kvs,k,b,e,ey,eb,l⟩
 .subst ey;obtain⟨z,f,vs,c,i⟩:=A0 I.hok e;refine wpAny_notIn_of (AI ry) f i.mapOf ?_;rw[<-(c.val k).isSome_eq,<-l];exact h _ (I.tok _)
 .subst ey;cases (show u=Value.ref b from ry);obtain⟨z,f,xs,c,i⟩:=AA I.hok e;refine wpAny_notIn_heap (Ub hu) (Bc I.hok eb) f i ?_;have q:=(c.val k).isSome_eq;rw[Wb]at q;rw[<-q,<-l];exact h _ (I.tok _)
theorem Cq{h':Jj}{t':Nat}{ob:HO}(I:Jq X pins σ H s)(mu:AM (H a))(hs:Heap.SameBut a s.heap h')(he:∃q,h'.get? a=some q)(new:JF X.prog X.w (upd H a ob) h' a ob):
  Jq X pins σ (upd H a ob) {s with heap:=h',toks:=t'}:=
 I.write (x:=a) (e:=a) mu (.inl rfl) (fun b q c z=>(hs.2 b c).trans z) he new
theorem jR{P:J9}{w:Jd}{H':Hp}{h':Jj}{kvs:List (JL×V)}{vs:List (JL×Value)}(z:kvs.length <=sizeLine)(hd:(a==sysModules)=false)(rel:KV kvs vs)(dd:h'.DictOf (JQ P w) a vs):
  JF P w H' h' a (.dK kvs):=⟨z,hd,vs,rel,dd⟩
theorem Zj{H':Hp}{Q:J7}(hu:A.units+ 1 < cLine)(I:Jq X pins σ H s)(g:Gq H a y v H')(ry:Jz y u)(rv:Jz v r)(h:∀s',Jq X pins σ H' s'->Q () s'):
  wpAny (model X.prog X.w) A (setItem (.ref a) u r) Q E s:=by
 rcases g with⟨kvs,k,e,ey,l,eH⟩|⟨kvs,k,b,e,ey,eb,l,eH⟩
 .subst ey eH;obtain⟨z,p,vs,f,dd⟩:=jE I.hok e;have n:vs.length <=sizeLine:=by rw[<-f.length];exact z
  have o:(MY kvs k v).length <=sizeLine:=by have:=PM kvs k v;lia
  refine wpAny_setItem_pairs (hsz:=n) (AI ry) dd fun h' i hs=>h _ ?_
  have he:∃q,h'.get? a=some q:=let ⟨q,_,_,j,_⟩:=i;⟨q,j⟩;exact Cq I (by rw[e];exact True.intro) hs he (jR o p (f.put k rv) i)
 .subst ey eH;cases (show u=Value.ref b from ry);obtain⟨z,p,xs,f,dd⟩:=Am I.hok e;have n:xs.length <=sizeLine:=by rw[<-Paired.length f];exact z
  have o:(MY kvs k v).length <=sizeLine:=by have:=PM kvs k v;lia
  refine wpAny_setItem_heap (hsz:=n) (Ub hu) (Bc I.hok eb) dd fun h' i hs=>h _ ?_
  obtain⟨q,es,ep,j,h2,h3,h4,_,h5⟩:=i;refine Cq I (by rw[e];exact True.intro) hs ⟨q,j⟩ ⟨o,p,_,(f.put k eb rv).keeps fun c ys ec=>?_,q,es,ep,j,h2,h3,h4,h5⟩;rw[JG (Jm ec e (fun z=>nomatch z))];exact ec
end
section
variable{X:Cx}{pins:J8}{σ:St}{H:Hp}{s:Ja}{a:Jg}{kvs:List (JL×V)}{k:JL}{u:Jf}{A:Jc}{E:J6}
theorem wY{Q:J6}(I:Jq X pins σ H s)(e:Rd H a (.dK kvs))(h:∀t s',Jq X pins σ H s'->Q (.int kvs.length t) s'):wpAny (model X.prog X.w) A (call (.builtin "len") [.ref a]) Q E s:=by
 obtain⟨z,c,vs,b,f⟩:=A0 I.hok e;refine call_len_dict c f (by rw[<-b.length];rw[YG]at z;lia) ?_;rw[<-b.length];exact h _ _ (I.tok _)
end
def Ou(i:Jk):Prop:=∀ov iv,subscripted i false ov iv=operate [ov,iv] (getItem ov iv)
theorem dD{prog:J9}{w:Jd}{A:Jc}{E:J6}{s:Ja}{env:Env}{value slice:Jk}{pos:Pos}{T id:String}{Q:J6}
  (hl:typeLookup (.type T) "__getitem__"=pure (some (.builtin id))) (hs:Ou slice)
  (h:wpAny (model prog w) A (eval value env) (fun o s₁=>wpAny (model prog w) A (eval slice env) (fun i s₂=>s₂.TypeIs o T/\wpAny (model prog w) A (getItem o i) Q E s₂) E s₁) E s):
  wpAny (model prog w) A (eval (.Subscript value slice pos) env) Q E s:=by
 refine Subscript_ (YI h (fun o s₁ g=>YI g (fun i s₂ b=>?_) fun _ _ x=>x) fun _ _ x=>x);obtain⟨e,b⟩:=b;unfold subscriptTail;refine Y0 ?_;rw[getitemInPython_of_ne e.not_modules];refine Y0 (wpAny_specialOf e hl ?_);have a:wpAny (model prog w) A (subscripted slice false o i) (fun r c=>wpAny (model prog w) A (letTemporaryGo value o r >>=fun _=>pure r) Q E c) E s₂:=by
  rw[hs o i];exact wpAny_operating (YI b (fun r c f=>Y0 (wpAny_letTemporaryGo (Y6 f))) fun _ _ x=>x)
 first
  |exact Y6 (Y0 a)
  |exact Y0 (Y6 (Y0 a))
  |exact Y0 a
theorem rD{X:Cx}{pins:J8}{σ:St}{H:Hp}{s:Ja}{a:Jg}{y:V}{o:Option V}(I:Jq X pins σ H s)(g:D3 H a y o):s.TypeIs (.ref a) "dict":=by
 rcases g with⟨kvs,k,e,_,_⟩|⟨kvs,k,b,e,_,_,_⟩
 .obtain⟨_,_,vs,_,c⟩:=A0 I.hok e;exact c.typeIs
 .obtain⟨_,_,xs,_,c⟩:=AA I.hok e;exact c.typeIs
def Fp(td ty:TE):TE:=fun σ H Q=>td σ H fun x H1=>ty σ H1 fun y H2=>∃a v,x= .ref a/\D3 H2 a y (some v)/\Q v H2
section
variable{X:Cx}{o i e value:Jk}{pos pos' tpos:Pos}{td ty tv:TE}
theorem nD(hu:X.A.units+ 1 < cLine)(ho:PE X o td)(hi:PE X i ty)(hs:Ou i):PE X (.Subscript o i pos) (Fp td ty):=by
 intro pins s σ H Q I h;refine dD PySem.F.slot_dict_getitem.lookup hs (JO (ho pins s σ H _ I h) fun u s1 ⟨x,H1,n,rx,f⟩=>JO (hi pins s1 σ H1 _ n f) fun r s2 zz=>?_);rcases zz with⟨y,H2,c,ry,a,v,ex,g,e⟩;subst ex;obtain rfl:u=Value.ref a:=rx;exact⟨rD c g,cC hu c g ry fun p q j b=>⟨v,H2,j,b,e⟩⟩
end
theorem eF{P:J9}{w:Jd}{H:Hp}(h:Jj)(hb:sysModules < h.objs.size):JF P w H (h.push {cls:=.type "dict",data:=.dict #[]}) h.objs.size (.dK []):=
 ⟨Yx _,Xz.mpr (Ne.symm (Yo hb)),[],.nil,Heap.DictOf.new h⟩
theorem bD{P:J9}{w:Jd}{H:Hp}(h:Jj)(hb:sysModules < h.objs.size):JF P w H (h.push {cls:=.type "dict",data:=.dict #[]}) h.objs.size (.dT []):=
 ⟨Yx _,Xz.mpr (Ne.symm (Yo hb)),[],.nil,_,#[],0,Ye _ rfl,⟨rfl,rfl,rfl⟩,rfl,rfl,Vf⟩
def eV:TE:=fun _ H Q=>∀p,H p=none->Q (.ref p) (upd H p (.dK []))
def dO:TE:=fun _ H Q=>∀p,H p=none->Q (.ref p) (upd H p (.dT []))
section
variable{X:Cx}{pos:Pos}
theorem eS:PE X (.Dict [] [] pos) eV:=fun pins s σ H Q I h=>
 wpAny_Dict_empty ⟨.ref s.heap.objs.size,_,I.laid (a:=s.heap.objs.size) (o:=.dK []) (t':=s.toks) (fun _ _ q=>Y8 _ q) (Y9 _) (eF s.heap I.big),rfl,h _ (I.hok.fresh (Y9 _))⟩
theorem mH:PE X (.Dict [] [] pos) dO:=fun pins s σ H Q I h=>
 wpAny_Dict_empty ⟨.ref s.heap.objs.size,_,I.laid (a:=s.heap.objs.size) (o:=.dT []) (t':=s.toks) (fun _ _ q=>Y8 _ q) (Y9 _) (bD s.heap I.big),rfl,h _ (I.hok.fresh (Y9 _))⟩
end
section
variable{X:Cx}
theorem jA:JN X (.builtin "len") (fun xs H Q=>∃a kvs,xs=[V.ref a]/\H a=some (.dK kvs)/\Q (.int kvs.length) H):=by
 intro pins s σ H xs e Q I r h;obtain⟨a,kvs,rfl,b,q⟩:=h;obtain⟨u,rfl,ru⟩:=Rn r;cases ru;exact wY I (.inl b) fun t s' c=>⟨.int kvs.length,H,c,⟨t,rfl⟩,q⟩
end
section
variable{X:Cx}{K:Je}
def Ll(K:Je):List V->Hp->VK->Prop:=fun xs H Q=>∃ (p:Jg) (ns:Jh),xs=[.ref p]/\JA K H p (ns.map V.int)/\(∀x∈ns,-(2 ^ 62) <=x/\x < 2 ^ 62)/\(∀j,j <=ns.length-> -(2 ^ 62) <=(ns.take j).sum/\(ns.take j).sum < 2 ^ 62)/\Q (.int ns.sum) H
theorem F2(hc:X.calm=true)(h:X.K=K):JN X (.builtin "sum") (Ll K):=by
 subst h;intro pins s σ H xs us Q I r hh;obtain⟨p,a,rfl,hq,hb,hs,q⟩:=hh;obtain⟨u,rfl,rx⟩:=Rn r;cases rx;obtain⟨c,rv,pl,hz⟩:=I.list hq;have hh:X.A.in1.handled=none:=I.ok.hd hc;have z:=pl.isList;have n:p < s.heap.objs.size:=by obtain⟨_,e,_⟩:=z;exact Yf e
 have g:a.length=c.length:=by have:=rv.length;simpa using this
 refine call_sum_walk (XI z ⟨s.heap.objs.size,_,_,_,_,_,fun i=>a.getD i 0,rfl,WP hh s.heap.objs.size p (Yo n) c.toArray,⟨⟨_,Ye _ rfl,rfl,rfl⟩,z.push _⟩,?_,?_,?_,?_⟩)
 .intro b hb';have:b=s.heap.objs.size\/b=p:=by simpa using hb'
  show b < (s.heap.push _).objs.size;rw[Xu];rcases this with rfl|rfl
  .exact Vo _
  .exact Xw n
 .intro i v hv;have f:c[i]?=some v:=by simpa using hv
  cases e:a[i]? with
  |none=>
   have:c[i]?=none:=by
    rw[Uq]at e ⊢;lia
   rw[this]at f;cases f
  |some b=>
   obtain⟨u,hu,ru⟩:=rv.get (i:=i) (x:=V.int b) (by rw[Ya,e];rfl);rw[f]at hu;cases hu;obtain⟨t,rfl⟩:=(show ∃t,v=Value.int b t from ru);exact⟨t,by simp[List.getD,e]⟩
 .intro j hj;have w:j < a.length:=by simpa[g] using hj
  have e1:a.getD j 0=a[j]:=by simp[List.getD,w]
  have h1:=hb _ (Vp w);have h2:=hs (j+ 1) (by lia);rw[preSum_getD];dsimp only;rw[e1];exact⟨⟨by lia,by lia⟩,by lia,by lia⟩
 .intro h' tk t' hk;have e:preSum (fun i=>a.getD i 0) c.toArray.size=a.sum:=by
   rw[preSum_getD,Yj,<-g,Vq]
  rw[e];exact⟨.int a.sum,H,I.kept (t':=tk) fun b o eo=>hk b o (by simpa using Yo (Yf eo)) (Y8 _ eo),⟨t',rfl⟩,q⟩
end
end L2
set_option maxHeartbeats 400000
namespace L2
open PySem PySem.Spec PyProof.Rows
section
variable{prog:J9}{w:Jd}{A:Jc}{E:J6}{s:Ja}
theorem v8{id:String}{b:Builtin}{args:Ji}{kw:List (Str×Value)}{Q:J6}(hk:builtinKind id=none)(hp:plainId id=true)(hb:entryFor table id=some b)(ha:argsOk id ⟨args,kw⟩)
  (hc:wpAny (model prog w) A.in1 (b ⟨args,kw⟩) (fun f s'=>∃c,f= .again c/\c.quiet=true/\codeAny (model prog w) A c (fun r s'=>match r with| .ok (.ret v)=>Q v s'| .ok _=>False| .error e=>E e s') s') E s):
  wpAny (model prog w) A (call (.builtin id) args kw) Q E s:=by
 refine Wg (Vy hp hb ?_); simp only [checkBuiltinCall, hk];have a := YI (Q' := fun h s' => match h with
   | .done f=>(match (Except.ok f:Result) with| .ok (.ret v)=>Q v s'| .ok _=>False| .error e=>E e s')
   | .again c' => c'.quiet = true /\ codeAny (model prog w) A c' (fun r s' => match r with | .ok (.ret v) => Q v s' | .ok _ => False | .error e => E e s') s') hc (fun f s' ⟨c, e, z⟩ => by subst e; exact z) fun _ _ z => z
 cases hsig:Manifest.signature? id with
 |none=>exact Y6 a
 |some sig=>
  have g:Bind.checkArgs id sig ⟨args,kw⟩=pure ():=by simpa only[argsOk,hsig] using ha
  simp only[g];exact Y6 a
end
section
variable{prog:J9}{w:Jd}{A:Jc}{R:Result->Shared->Prop}{I:Jg}{fp wr:List Addr}{n:Nat}{P:Nat->Value->Prop}{St:Nat->Heap->Prop}
theorem As{a b:Jf}:(#[a,b]:Array Value).size <=sizeLine:=by show 2 <=sizeLine;rw[YG];decide
theorem CT{a b:Jf}:(#[a,b]:Array Value).size <=sizeLine+ 1:=Nat.le_succ_of_le As
theorem Pt:(#[]:Array Value).size <=sizeLine+ 1:=Yx _
end
theorem OS:∀{xs:List V} {us:Ji},us.length=xs.length->(∀ (j:Nat) v,us[j]?=some v->∃x,xs[j]?=some x/\Jz x v)->JB xs us
 |[],[],_,_=>.nil
 |[],_::_,h,_=>by simp at h
 |_::_,[],h,_=>by simp at h
 |x::xs,u::us,h,g=>by
  obtain⟨y,e,r⟩:=g 0 u rfl;have b:x=y:=by simpa using e
  subst b;exact .cons r (OS (by simpa using h) fun j v a=>by simpa using g (j+ 1) v (by simpa using a))
structure RF(mg:J5):Prop where
 sum:mg "sum"=none
 sorted:mg "sorted"=none
section
variable{X:Cx}{pos pos':Pos}{o i value:Jk}{td ty tv:TE}
def HN:TE:=fun _ H Q=>∀p G,H p=none->Jo H G->G p=some (.dK [])->Q (.ref p) G
theorem uU:PE X (.Dict [] [] pos) HN:=fun pins s σ H Q I h=>eS pins s σ H Q I fun p a=>h p _ a (ML a) Nb
def O4(td ty tv:TE):TS:=fun D σ H=>tv σ H fun v H1=>td σ H1 fun x H2=>ty σ H2 fun y H3=>∃a n kvs,x= .ref a/\y= .int n/\H3 a=some (.dK kvs)/\kvs.length < sizeLine/\∀G,Nd a H3 G->G a=some (.dK (MY kvs (.inl n) v))->D.nx σ G
theorem j3(hu:X.A.units+ 1 < cLine)(ho:PE X o td)(hi:PE X i ty)(hv:PE X value tv)(hs:swapsWith value (some (.Subscript o i pos')) pos.line X.env=pure false):
  PS X (.Assign [.Subscript o i pos'] value pos) (O4 td ty tv):=by
 intro pins s σ H D I h;refine wpAny_Assign_Subscript (JO (hv pins s σ H _ I h) fun r s1 ⟨v,H1,I1,b,f⟩=>JO (ho pins s1 σ H1 _ I1 f) fun u s2 ⟨x,H2,z,rx,e⟩=>JO (hi pins s2 σ H2 _ z e) fun iv s3 zz=>?_) hs;rcases zz with⟨y,H3,w,ry,a,n,kvs,ex,j,p,g,c⟩;subst ex j;obtain rfl:u=Value.ref a:=rx;exact Zj hu w (Gq.k (k:=Sum.inl n) p g) ry b fun s4 q=>⟨σ,_,q,c _ Nd.upd Nb⟩
def Fm:R2:=fun y x H Q=>∃a n kvs,y= .int n/\x= .ref a/\H a=some (.dK kvs)/\Q (.bl (!(JP kvs (Sum.inl n)).isSome)) H
theorem bA(hu:X.A.units+ 1 < cLine):Nz X (compareOp .NotIn) Fm:=by
 intro pins s σ H y x v u Q I ry rx h;obtain⟨a,n,kvs,rfl,rfl,b,q⟩:=h;cases rx;exact vY hu I (D3.k (k:=Sum.inl n) b) ry fun s' c=>⟨.bl _,H,c,rfl,q⟩
def Lz:List V->Hp->VK->Prop:=fun xs H Q=>∃a kvs,xs=[V.ref a]/\H a=some (.dK kvs)/\Q (.int kvs.length) H
theorem vE:JN X (.builtin "len") Lz:=jA
end
end L2
set_option maxHeartbeats 4000000
namespace L2
open PySem PySem.Spec PyProof.Rows
end L2
namespace L2
open PySem PySem.Spec PyProof.Rows PySem.W
section
variable{O:KeyOrd}{key:Nat->O.α}{N:Nat}{p:Array Nat}
def SK(O:KeyOrd)(key:Nat->O.α)(p:Array Nat)(i:Nat):O.α:=key (p.getD i 0)
def AB(O:KeyOrd)(key:Nat->O.α)(p:Array Nat)(k:Nat):Prop:=∀i j,i <=j->j < k->O.kle (SK O key p i) (SK O key p j)
def MV(N:Nat)(p:Array Nat):Prop:=p.Perm (List.toArray (List.range N))
theorem MV.size(h:MV N p):p.size=N:=by have:=Array.Perm.size_eq h;simpa using this
abbrev M8(O:KeyOrd)(key:Nat->O.α)(i j:Nat):Bool:=O.blt (key i) (key j)
end
section
variable{prog:J9}{w:Jd}{A:Jc}{E:J6}{s:Ja}{O:KeyOrd}{key:Nat->O.α}{κ:SortKind}{vs:Ji}
theorem Po(vs:Ji):(List.range vs.length).map (fun i=>vs.getD i Value.none)=vs:=by
 apply Wc;intro i;rw[Ya]
 by_cases h:i < vs.length
 .rw[U8 h,Y7 h];simp[h]
 .rw[XU (by simpa using h),XU (by simpa using h)];rfl
structure DE(prog:J9)(w:Jd)(h:Jj)(O:KeyOrd)(key:Nat->O.α)(κ:SortKind)(vs:Ji):Prop where
 kind:∀ (A:Jc) (s:Ja) (Q:SortKind->Shared->Prop),(∀b o,h.get? b=some o->s.heap.get? b=some o)->2 <=vs.length->Q κ s->wpAny (model prog w) A (keyKind' vs.toArray) Q (fun _ _=>False) s
 cmp:∀ (A:Jc) (s:Ja) (i j:Nat) (C:Bool->Shared->Prop),(∀b o,h.get? b=some o->s.heap.get? b=some o)->i < vs.length->j < vs.length->C (M8 O key i j) s->kas_ask prog w A κ vs i j C s
end
def GX(a b:Int×Int):Bool:=decide (a.1 < b.1)||(decide (a.1=b.1) && decide (a.2 < b.2))
theorem Be{a b:Int×Int}:GX a b=true↔a.1 < b.1\/a.1=b.1/\a.2 < b.2:=by unfold GX;simp
theorem F3{a b:Int×Int}:GX a b=false↔¬(a.1 < b.1\/a.1=b.1/\a.2 < b.2):=by rw[<-Be];cases GX a b <;> simp
def FU:KeyOrd where
 α:=Int×Int
 blt:=GX
 irrefl a:=by rw[F3];lia
 trans a b c:=by rw[Be,Be,Be];lia
 negTrans a b c:=by rw[Be,Be,Be];lia
 total a b:=by
  rw[F3,F3];intro h1 h2;exact Ui (by lia) (by lia)
section
variable{prog:J9}{w:Jd}{A:Jc}{E:J6}{s:Ja}
theorem OR{a b:Int}{t u:Tok}{Q:J6}(h:Q (.bool (decide (a < b))) s):wpAny (model prog w) A (richCompare .Lt (.int a t) (.int b u)) Q E s:=
 CmpOf.ints_lt (P := fun i v => (i = 0 /\ v = .int a t) \/ (i ≠ 0 /\ v = .int b u)) (fun i => if i = 0 then a else b) (by
  rintro i v (⟨rfl,rfl⟩|⟨h,rfl⟩)
  .exact⟨t,rfl⟩
  .exact ⟨u, by rw [Y2 h]⟩) 0 1 _ _ s Q E (.inl ⟨rfl, rfl⟩) (.inr ⟨by decide, rfl⟩) h
theorem FS{b:Bool}{x y:Int}{t u:Tok}{Q:Bool->Shared->Prop}(h:Q (decide (x < y)) s):wpAny (model prog w) A (oneLt' b (.int x t) (.int y u)) Q E s:=by
 cases b with
 |true=>exact oneLt_int h
 |false=>exact kat_one _ _ (show wpAny (model prog w) A (richCompare .Lt _ _) (W.BoolBack Q) E s from OR h)
def An(h:Jj)(v:Jf)(p:Int×Int):Prop:=∃a t u,v= .ref a/\IsTup h a #[.int p.1 t,.int p.2 u]
theorem Zv:∀{vs:Ji} {c:List (Int×Int)} {h:Jj},(∀ (i:Nat) v p,vs[i]?=some v->c[i]?=some p->An h v p)->vs.length=c.length->∃fs,KatTups h vs fs/\fs.length=vs.length/\∀f∈fs,∃n t,f=Value.int n t
 |[],c,h,_,e=>⟨[],trivial,rfl,fun f hf=>by simp at hf⟩
 |v::vs,[],h,_,e=>by simp at e
 |v::vs,p::c,h,hp,e=>by
  obtain⟨fs,k1,k2,k3⟩:=Zv (vs:=vs) (c:=c) (h:=h) (fun i v p a b=>hp (i+ 1) v p (by simpa using a) (by simpa using b)) (by simpa using e);obtain⟨a,t,u,rfl,o,g,q,n,j⟩:=hp 0 v p rfl rfl;refine⟨Value.int p.1 t::fs,KatTups.cons g q j rfl k1,by simp[k2],fun f hf=>?_⟩;rcases Ym.mp hf with rfl|hf
  .exact⟨_,_,rfl⟩
  .exact k3 f hf
theorem d4{vs:Ji}{c:List (Int×Int)}{h:Jj}(hp:∀ (i:Nat) v p,vs[i]?=some v->c[i]?=some p->An h v p)(hl:vs.length=c.length):
  DE prog w h FU (fun i=>c.getD i (0,0)) (tuples' (Value.type "int" !=Value.type "tuple")) vs where
 kind A s Q hk h2 hQ:=by
  have r:∀ (i:Nat) v p,vs[i]?=some v->c[i]?=some p->An s.heap v p:=fun i v p e1 e2=>by
   obtain⟨a,t,u,e,o,f,hc,n,g⟩:=hp i v p e1 e2;exact⟨a,t,u,e,o,hk _ _ f,hc,n,g⟩
  obtain⟨fs,k1,k2,k3⟩:=Zv r hl;refine kat_kind (T:=Value.type "int") k1 (by lia) (fun v hv=>?_) (by decide) hQ;obtain⟨n,t,rfl⟩:=k3 v hv;exact Looks.of_pure rfl
 cmp A s i j C hk hi hj q:=by
  have gi:vs[i]?=some (vs.getD i Value.none):=by rw[Y7 hi];simp[hi]
  have gj:vs[j]?=some (vs.getD j Value.none):=by rw[Y7 hj];simp[hj]
  have ci:c[i]?=some (c.getD i (0,0)):=by rw[Y7 (by lia)];simp[show i < c.length by lia]
  have cj:c[j]?=some (c.getD j (0,0)):=by rw[Y7 (by lia)];simp[show j < c.length by lia]
  obtain⟨a,t,u,e,o,f,hc,n,g⟩:=hp i _ _ gi ci;obtain⟨a',t',u',e',o',z,hc',n',aa⟩:=hp j _ _ gj cj;unfold kas_ask;rw[e,e']
  revert q
  generalize hx:c.getD i (0,0)=x at*;generalize hy:c.getD j (0,0)=y at*;intro q;have b:C (GX x y) s:=by
   have:M8 FU (fun i=>c.getD i (0,0)) i j=GX x y:=by show GX (c.getD i (0,0)) (c.getD j (0,0))=_;rw[hx,hy]
   rwa [this]at q
  refine kat_lt (hk _ _ f) g (hk _ _ z) aa ?_;show KatLex prog w A _ _ C [(Value.int x.1 t,Value.int y.1 t'),(Value.int x.2 u,Value.int y.2 u')] 0 s;refine VM (UT ?_)
  by_cases h1:x.1=y.1
  .rw[show(x.1==y.1)=true by simpa using h1];refine Wj (VM (UT ?_))
   by_cases h2:x.2=y.2
   .rw[show(x.2==y.2)=true by simpa using h2];refine Wj (kat_nil ?_);have:GX x y=false:=by rw[F3];lia
    rw[this]at b;exact b
   .rw[show(x.2==y.2)=false by simpa using h2];refine kat_no (FS ?_);have:GX x y=decide (x.2 < y.2):=by unfold GX;simp[h1]
    rwa [this]at b
  .rw[show(x.1==y.1)=false by simpa using h1];refine kat_no (FS ?_);have:GX x y=decide (x.1 < y.1):=by unfold GX;simp[h1]
   rwa [this]at b
end
end L2
namespace L2
open PySem PySem.Spec PyProof.Rows
section
variable{X:Cx}{pins:J8}{σ:St}{H:Hp}{s:Ja}{h':Jj}
theorem Jq.turnL{t':Nat}{wr:List Addr}(I:Jq X pins σ H s)(hf:∀b∈wr,D6 X pins H b)(k:∀b o,b∉wr->s.heap.get? b=some o->h'.get? b=some o):Jq X pins σ H {s with heap:=h',toks:=t'}:=by
 have g:∀b u,H b=some u->b∉wr:=fun b u e z=>by rw[(hf b z).1]at e;cases e
 refine I.step (g':=s.gens) (d':=s.drawn) (ch:=wr) (fun b f=>⟨(hf b f).2.2.2.1,(hf b f).2.1,(hf b f).2.2.2.2.1,(hf b f).2.2.2.2.2⟩) (fun b o _ _ a e _=>k b o a e) (fun b o _ _ a e _=>⟨o.slots,k b o a e⟩) (fun _ _ _ _ n=>n)
  (fun b o a e=>⟨o,k b o a e⟩) (fun _ _ e=>e) (fun _ _ _ e=>e) (fun b ps e=>⟨#[],by rw[e];simp⟩) (fun m i=>?_) (fun b u e=>?_) I.bare
 .obtain⟨o,es,ep,h,r⟩:=i;exact⟨o,es,ep,k _ o (fun z=>(hf _ z).2.1 rfl) h,r⟩
 .refine(I.hok b u e).stay (fun c v a q=>k c v ?_ q) (fun _ q=>q) fun _ _ q=>q
  rcases a with z|z
  .rw[z];exact g b u e
  .exact g c _ z
theorem Jq.turnNew{t':Nat}{wr:List Addr}{a:Jg}{o:HO}(I:Jq X pins σ H s)(hf:∀b∈wr,D6 X pins H b)(k:∀b o,b∉wr->s.heap.get? b=some o->h'.get? b=some o)(hp:s.heap.objs.size <=a)
  (new:JF X.prog X.w (upd H a o) h' a o):Jq X pins σ (upd H a o) {s with heap:=h',toks:=t'}:=by
 have h:H a=none:=I.hok.fresh hp;have i:∀b u,H b=some u->b∉wr:=fun b u e z=>by rw[(hf b z).1]at e;cases e
 refine I.step (g':=s.gens) (d':=s.drawn) (ch:=wr) (fun b g=>⟨(hf b g).2.2.2.1,(hf b g).2.1,(hf b g).2.2.2.2.1,(hf b g).2.2.2.2.2⟩) (fun b o _ _ f e _=>k b o f e) (fun b o _ _ f e _=>⟨o.slots,k b o f e⟩)
  (fun b o _ e n=>by rw[JG (Yo (Yy (Yf e) hp))];exact n)
  (fun b o f e=>⟨o,k b o f e⟩) (fun b xs e=>by rw[JG (Te e h)];exact e) (fun b o u e=>by rw[JG (Te e h)];exact e) (fun b ps e=>⟨#[],by rw[JG (Te e h),e];simp⟩) (fun m p=>?_) (fun b u e=>?_) I.bare
 .obtain⟨o,es,ep,j,r⟩:=p;exact⟨o,es,ep,k _ o (fun z=>(hf _ z).2.1 rfl) j,r⟩
 .by_cases g:b=a
  .subst g;rw[Nb]at e;cases e;exact new
  .rw[JG g]at e;refine(I.hok b u e).stay (fun c v f q=>k c v ?_ q) (fun c q=>by rw[JG (Te q h)];exact q) fun c xs q=>by rw[JG (Te q h)];exact q
   rcases f with z|z
   .rw[z];exact i b u e
   .exact i c _ z
end
theorem eQ{h:Jj}{a b:Jg}{o o':Obj}(e:h.get? a=some o)(e':h.get? b=some o')(hc:o.cls≠o'.cls):a≠b:=fun z=>by
 subst z;rw[e]at e';cases e';exact hc rfl
def Gm(val:Nat->Int):Nat->Int
 |0=>val 0
 |j+ 1=>if val (j+ 1) < Gm val j then val (j+ 1) else Gm val j
section
variable{prog:J9}{w:Jd}{A:Jc}{R:Result->Shared->Prop}{I:Jg}{fp wr:List Addr}{n:Nat}{P:Nat->Value->Prop}{St:Nat->Heap->Prop}
def vW(val:Nat->Int)(j:Nat)(old:Array Value):Prop:=(j=0/\old=#[])\/∃i t,j=i+ 1/\old=#[.int (Gm val i) t,.int (Gm val i) t]
theorem rE(W:Walks prog w A.in1 I fp wr n P St)(val:Nat->Int)(hval:∀i v,P i v->∃t,v= .int (val i) t)(d:Jf)(S:Jg)(hSf:S∉fp):
  ∀ (k j:Nat) (s:Ja) (old:Array Value) (c:Nat),n - j=k->j <=n->St j s.heap->vW val j old->s.heap.get? S=some {cls:=.type "list",dict:=none,data:=.seq old c,slots:=#[]}->
  (∀v h' tk,(n=0->v=d)->(∀m,n=m+ 1->∃t,v= .int (Gm val m) t)->(∀b o,b∉wr->b≠S->s.heap.get? b=some o->h'.get? b=some o)->R (.ok (.ret v)) {s with heap:=h',toks:=tk})->
  codeAny (model prog w) A (.builtin "min.loop" ⟨[.ref I,.none,.ref S],[("default",d)]⟩) R s:=by
 have hSw:S∉wr:=fun z=>hSf (W.sub _ z)
 have hnm:(toString "min"++toString ".loop":String)="min.loop":=by decide
 intro k
 induction k with
 |zero=>
  intro j s old c hk hj hst hB hS hR;obtain rfl:j=n:=by lia
  refine V4 Vr ?_;rw[UV Xb _];refine Y0 (VN hS rfl (Y0 (UM (W.done s _ _ hst fun h' tk h=>?_))));have r:=h S _ hSw hS;rcases hB with⟨h0,rfl⟩|⟨i,t,hi,rfl⟩
  .refine Y0 (Ua (Y6 ?_));exact hR d h' tk (fun _=>rfl) (fun m z=>by lia) fun b o a _ e=>h b o a e
  .refine Y0 (Uz (hz:=As) (_hz':=Pt) r rfl (Y0 (U1 (Y6 ?_))));exact hR _ _ tk (fun z=>by lia) (fun m z=>⟨t,by rw[show i=m by lia]⟩) fun b o a g e=>(YL _ _ (Ne.symm g)).trans (h b o a e)
 |succ k ih=>
  intro j s old c hk hj hst hB hS hR;refine V4 Vr ?_;rw[UV Xb _];refine Y0 (VN hS rfl (Y0 (UM (W.item j s _ _ (by lia) hst fun v h' tk hP hst' h=>?_))));have r:=h S _ hSw hS;obtain⟨t,rfl⟩:=hval j v hP;rcases hB with⟨rfl,rfl⟩|⟨i,t',rfl,rfl⟩
  .refine Y0 (Y6 ?_);show wpAny _ A.in1 (updateSeq S (fun _=>#[.int (val 0) t,.int (val 0) t]) >>=fun _=>again _) _ _ _;refine Y0 (Uz (f:=fun _=>#[.int (val 0) t,.int (val 0) t]) (xs:=#[]) (n:=c) r rfl ?_ (Yx _) CT);rw[hnm];refine Y6 ⟨Uj Xb _,ih 1 _ _ _ (by lia) (by lia) (W.frame _ _ _ hst' fun b hb o e=>(YL _ _ (fun z:S=b=>hSf (by rw[z];exact hb))).trans e) (.inr ⟨0,t,rfl,rfl⟩) (Xp _ r rfl) ?_⟩;exact fun v' h'' p z1 z2 q=>hR v' h'' p z1 z2 fun b o a g e=>q b o a g ((YL _ _ (Ne.symm g)).trans (h b o a e))
  .refine Y0 (Y6 (Y0 (UM (Xa (Y0 (OR ?_))))));refine Y0 (Xa (Xm (Y0 (U1 (Y6 ?_)))))
   by_cases hb:val (i+ 1) < Gm val i
   .have eU:Gm val (i+ 1)=val (i+ 1):=by show(if _ then _ else _)=_;rw[Y3 hb]
    simp only[hb,X9,if_true];refine Y0 (Uz (f:=fun _=>#[.int (val (i+ 1)) t,.int (val (i+ 1)) t]) (n:=c) r rfl (Y0 (U1 ?_)) As CT);rw[hnm];refine Y6 ⟨Uj Xb _,ih (i+ 1+ 1) _ _ _ (by rw[Vz,hk];rfl) (by lia) (W.frame _ _ _ hst' fun b hb o e=>(YL _ _ (fun z:S=b=>hSf (by rw[z];exact hb))).trans e) (.inr ⟨i+ 1,t,rfl,by rw[eU]⟩) (Xp _ r rfl) ?_⟩;exact fun v' h'' p z1 z2 q=>hR v' h'' p z1 z2 fun b o a g e=>q b o a g ((YL _ _ (Ne.symm g)).trans (h b o a e))
   .have eU:Gm val (i+ 1)=Gm val i:=by show(if _ then _ else _)=_;rw[Y2 hb]
    simp only[hb,X4,Bool.false_eq_true,if_false];refine Y0 (U1 ?_);rw[hnm];refine Y6 ⟨Uj Xb _,ih (i+ 1+ 1) _ _ _ (by rw[Vz,hk];rfl) (by lia) hst' (.inr ⟨i+ 1,t',rfl,by rw[eU]⟩) r ?_⟩;exact fun v' h'' p z1 z2 q=>hR v' h'' p z1 z2 fun b o a g e=>q b o a g (h b o a e)
end
theorem Px(val:Nat->Int):∀m,(∃i,i <=m/\Gm val m=val i)/\∀i,i <=m->Gm val m <=val i
 | 0 => ⟨⟨0, Y9 _, rfl⟩, fun i hi => by
   have:i=0:=by lia
   subst this; exact Xd _⟩
 |m+ 1=>by
  obtain⟨⟨i,hi,e⟩,h⟩:=Px val m
  by_cases hb:val (m+ 1) < Gm val m
  .have a:Gm val (m+ 1)=val (m+ 1):=by show(if _ then _ else _)=_;rw[Y3 hb]
   refine⟨⟨m+ 1,Y9 _,a⟩,fun j b=>?_⟩;rw[a]
   by_cases hj':j=m+ 1
   .rw[hj'];exact Xd _
   .have:=h j (by lia);lia
  .have a:Gm val (m+ 1)=Gm val m:=by show(if _ then _ else _)=_;rw[Y2 hb]
   refine⟨⟨i,by lia,by rw[a,e]⟩,fun j b=>?_⟩;rw[a]
   by_cases hj':j=m+ 1
   .rw[hj'];lia
   .exact h j (by lia)
theorem nA(a d:Jf):argsOk "min" ⟨[a],[("default",d)]⟩:=by unfold argsOk;kernel_rfl
def C9(K:Je):V->V->Hp->VK->Prop:=fun x d H Q=>∃ (p:Jg) (ns:Jh),x= .ref p/\JA K H p (ns.map V.int)/\(ns=[]->Q d H)/\∀v,v∈ns->(∀y∈ns,v <=y)->Q (.int v) H
def Om(K:Je)(ta tb:TE):TE:=fun σ H Q=>ta σ H fun x H1=>tb σ H1 fun d H2=>C9 K x d H2 Q
section
variable{X:Cx}{K:Je}
theorem j9{pins:J8}{s:Ja}{σ:St}{H:Hp}{x d:V}{u w':Jf}{Q:VK}(hc:X.calm=true)(I:Jq X pins σ H s)(rx:Jz x u)(rd:Jz d w')(h:C9 X.K x d H Q):
  wpAny (model X.prog X.w) X.A (call (.builtin "min") [u] [("default",w')]) (EP X pins σ Q) X.xe s:=by
 obtain⟨p,c,rfl,hq,q0,q1⟩:=h;cases rx;obtain⟨f,rv,pl,hz⟩:=I.list hq;have hh:X.A.in1.handled=none:=I.ok.hd hc;have hl:=pl.isList;have j:p < s.heap.objs.size:=by obtain⟨_,e,_⟩:=hl;exact Yf e
 have q:c.length=f.length:=by have:=rv.length;simpa using this
 refine v8 F.kind_min F.plain_min F.entry_min (nA _ _) ?_;show wpAny _ X.A.in1 (Builtin.Builtins.bindParams "min" ["key","default"] 0 ⟨[],[("default",w')]⟩ >>=_) _ _ s;refine Y0 (VS (show Builtin.Builtins.bindParams "min" ["key","default"] 0 ⟨[],[("default",w')]⟩=pure [none,some w'] from rfl) ?_);refine Y0 (Y6 (Y0 (XI hl (Y0 (X3 ?_)))));have hnm:(toString "min"++toString ".loop":String)="min.loop":=by decide
 rw[hnm];have W:=WP (prog:=X.prog) (w:=X.w) hh s.heap.objs.size p (Yo j) f.toArray;refine Y6 ⟨_,rfl,Uj Xb _,rE W (fun i=>c.getD i 0) ?_ w' _ ?_ _ 0 _ _ _ rfl (Yx _) (W.frame _ _ _ ⟨⟨_,Ye _ rfl,rfl,rfl⟩,hl.push _⟩ fun b _ o e=>Y8 _ e) (.inl ⟨rfl,rfl⟩) (Ye _ rfl) ?_⟩
 .intro i v hv;have g:f[i]?=some v:=by simpa using hv
  cases e:c[i]? with
  |none=>
   have:f[i]?=none:=by
    rw[Uq]at e ⊢;lia
   rw[this]at g;cases g
  |some b=>
   obtain⟨u,hu,ru⟩:=rv.get (i:=i) (x:=V.int b) (by rw[Ya,e];rfl);rw[g]at hu;cases hu;obtain⟨t,rfl⟩:=(show ∃t,v=Value.int b t from ru);exact⟨t,by simp[List.getD,e]⟩
 .intro z;rw[Ym,Yb]at z;dsimp only at z;rw[Xu]at z;rcases z with z|z
  .exact absurd z (Nat.succ_ne_self _)
  .rw[<-z]at j;exact absurd j (Nat.not_lt.mpr (XO _))
 .intro v h' tk z1 z2 hk;have kept:∀b o,s.heap.get? b=some o->h'.get? b=some o:=fun b o eo=>by
   have hb:=Yf eo;refine hk b o ?_ ?_ (Y8 _ (Y8 _ eo))
   .intro z;have e:b=s.heap.objs.size:=by simpa using z
    exact absurd e (Yo hb)
   .intro z;dsimp only at z;rw[Xu]at z;exact absurd z (Yo (Xw hb))
  have n:f.toArray.size=c.length:=by rw[Yj,q]
  cases hns:c with
  |nil=>
   rw[z1 (by rw[n,hns];rfl)];exact⟨d,H,I.kept (t':=tk) kept,rd,q0 hns⟩
  |cons a r=>
   obtain⟨t,rfl⟩:=z2 r.length (by rw[n,hns];rfl);obtain⟨⟨i,hi,e⟩,hmx⟩:=Px (fun i=>c.getD i 0) r.length;have hl2:c.length=r.length+ 1:=by rw[hns];rfl
   refine⟨.int (Gm (fun i=>c.getD i 0) r.length),H,I.kept (t':=tk) kept,⟨t,rfl⟩,q1 _ ?_ fun y hy=>?_⟩
   .rw[e];have:c.getD i 0=c[i]'(by lia):=by simp[List.getD,show i < c.length by lia]
    show c.getD i 0∈c;rw[this];exact Vp _
   .obtain⟨k,hk',rfl⟩:=UU.mp hy;have:=hmx k (by lia);have e2:c.getD k 0=c[k]:=by simp[List.getD,hk']
    rw[<-e2];exact this
theorem tR{e e2:Jk}{ta tb:TE}{x:Str}{p pos kp:Pos}(h:X.K=K)(hx:x="min")(hc:X.calm=true)(hg:Gl X x)(hm:X.mg x=none)(hv:bootBuiltins x=some (.builtin "min"))(ha:PE X e ta)(hb:PE X e2 tb)
  (hn:x≠"__name__":=by decide) (hdb:(x==("__debug__":Str))=false:=by decide)
  (he:backTo pos (starEach [e] X.env)=(false,eval e X.env)::backTo pos (starEach [] X.env):=by rfl) (hs:starEach [e] X.env=(false,eval e X.env)::starEach [] X.env:=by rfl)
  (hpl:(backTo pos (starEach [e] X.env)).any (·.1)=false:=by rfl):PE X (.Call (.Name x p) [e] [⟨some "default",e2,kp⟩] pos) (Om K ta tb):=by
 subst h;intro pins s σ H Q I h;refine XT (ER I hg hm hv ?_ hn hdb);have h':Gr ta R5 σ H (fun vs H1=>Gr tb R5 σ H1 fun zs H2=>match vs,zs with|[x],[d]=>C9 X.K x d H2 Q|_,_=>False):=h;refine callWith_kw (JO (Nc ha Jt hs pos pins s σ H _ I h') fun i s1 ⟨vs,H1,f,r,q⟩=>JO (HS hb LA pos pins s1 σ H1 _ f q) fun g s2 ⟨zs,H2,c,b,a⟩=>?_) he hpl;cases r with
 |nil=>cases b <;> exact False.elim a
 |cons r1 rr=>
  cases rr with
  |cons _ _=>cases b <;> exact False.elim a
  |nil=>
   cases b with
   |nil=>exact False.elim a
   |cons z1 zz=>
    cases zz with
    |cons _ _=>exact False.elim a
    |nil=>exact j9 hc c r1 z1 a
end
structure K5(mg:J5):Prop where
 enumerate:mg "enumerate"=none
 zip:mg "zip"=none
end L2
namespace L2
open PySem PySem.Spec PyProof.Rows
open Sem (wp)
open AutoSeq1 (wpAny_loadPart')
section
variable{prog:J9}{w:Jd}{A:Jc}{E:J6}{s:Ja}
theorem xR{T newId:String}{self:Jf}{rest:Ji}{kw:List (Str×Value)}(hl:typeLookup (.type T) "__init__"=pure (some (.builtin "object.__init__")))
  (hm:Bind.madeBy (.type T)=pure (some newId)) (hne:(some newId !=some "object.__new__")=true):
  Meets (Builtin.«object.__init__» ⟨self::rest,kw⟩) (fun _ R s=>s.TypeIs self T/\R (.ok (.ret .none)) s):=by
 refine Meets.of_wp fun prog w A R s ⟨c,b⟩=>?_
 cases rest with
 |nil=>
  cases kw with
  |nil=>exact Y6 ⟨_,rfl,b⟩
  |cons k kw=>(repeat (any_goals (first|assumption|wp_step)));exact⟨_,rfl,b⟩
 |cons a rest=>(repeat (any_goals (first|assumption|wp_step)));exact⟨_,rfl,b⟩
theorem wG{T newId:String}{Bn:Builtin}{args:Ji}{kw:List (Str×Value)}{S:_root_.PySem.Spec}{Q:J6}(ft:TypeCalled T newId "object.__init__")(hne:(some newId !=some "object.__new__")=true)
  (hct:checkTypeCall T ⟨args,kw⟩=pure ()) (hcn:checkBuiltinCall newId ⟨.type T::args,kw⟩=pure ()) (hok:∀obj,argsOk "object.__init__" ⟨obj::args,kw⟩) (entryN:entryFor table newId=some Bn) (g:Meets (Bn ⟨.type T::args,kw⟩) S)
  (h:S A.in1 (wants (fun obj s₁=>s₁.TypeIs obj T/\Q obj s₁) E) s):wpAny (model prog w) A (call (.type T) args kw) Q E s:=by
 obtain⟨c,tl,q⟩:=ft.mro;have j:=ft.made;have o:=ft.sub;refine Wg (codeAny_of_tree ?_);show wpAny _ _ (callAny (.type T) _) _ _ _;refine Y6 ⟨Code.quiet_builtin _ (by decide +kernel),V4 F.entry_type_call ?_⟩;rw[Around.under_plain (weight_type_call_type T args kw) (units_type_call_type T args kw)];have h1:=ft.notType;have h2:=ft.canCreate
 repeat (any_goals (first|assumption|wp_step))
 refine UK (Vy ft.plain entryN (VS hcn (g prog w A.in1 _ s h))) fun r s₁ b=>?_
 cases r with
 |error e=>exact b
 |ok fl=>
  cases fl with
  |ret obj=>
   obtain⟨i,p⟩:=(show s₁.TypeIs obj T/\Q obj s₁ from b);have z:=ft.init.lookup;have aa:=ft.init.bind obj
   repeat (any_goals (first|assumption|wp_step))
   refine UK (Vy ft.init.plain F.entry_object_init (ft.init.check _ _ _ _ _ _ _ _ i (hok obj) (xR ft.init.lookup ft.made hne prog w A.in1 (wants (fun r f=>r= .none/\Q obj f) E) s₁ ⟨i,rfl,p⟩))) fun n f a=>?_
   cases n with
   |error e=>exact a
   |ok fl₂=>
    cases fl₂ with
    |ret r=>
     obtain⟨rfl,v⟩:=a
     repeat (any_goals (first|assumption|wp_step))
    |_=>exact a.elim
  |_=>exact b.elim
end
theorem y6(l:Jg)(items:Array Value)(n:Nat)(dct:Option Addr)(sl:Array (Option Value))(c:Int)(t:Tok)(hc:Builtin.SmallTypes.fitsIndex c=true):
  Meets (Builtin.«enumerate.__new__» ⟨[.type "enumerate", .ref l], [("start", .int c t)]⟩) (fun _ R s => s.heap.get? l = some { cls := .type "list", dict := dct, data := .seq items n, slots := sl } /\
   R (.ok (.ret (.ref (s.heap.push {cls:=.type "list_iterator",data:=.fields #[.ref l,.int 0 0]}).objs.size)))
    { s with heap := (s.heap.push { cls := .type "list_iterator", data := .fields #[.ref l, .int 0 0] }).push { cls := .type "enumerate", data := .fields #[.none, .bool false, .ref s.heap.objs.size, rawInt c, .none, .none] } }) :=
 .of_wp fun prog w A R s h=>by
  obtain⟨i,g,d,tk,e⟩:=s;obtain⟨a,h⟩:=h;have f:=sub_enumerate;have b:Heap.IsList (Shared.heap ⟨i,g,d,tk,e⟩) l items:=⟨_,a,rfl,n,rfl⟩
  wp_walk using Xq a
  refine wpAny_stack_any fun st=>Y6 ?_
  split
  .rename_i c' _ _ _ _ _
   cases (c'==Value.type "enumerate")
   .wp_walk using Xq a,XI b
    exact⟨_,rfl,h⟩
   .wp_walk using Xq a,XI b
    exact⟨_,rfl,h⟩
  .wp_walk using Xq a,XI b
   exact⟨_,rfl,h⟩
section
variable{prog:J9}{w:Jd}{A:Jc}{E:J6}{s:Ja}
theorem yU(a b:Jf):checkTypeCall "enumerate" ⟨[a],[("start",b)]⟩=pure ():=by kernel_rfl
theorem tK(a b:Jf):checkBuiltinCall "enumerate.__new__" ⟨[.type "enumerate",a],[("start",b)]⟩=pure ():=by kernel_rfl
theorem eC(o a b:Jf):argsOk "object.__init__" ⟨[o,a],[("start",b)]⟩:=by unfold argsOk;kernel_rfl
theorem nH{l:Jg}{items:Array Value}{c:Int}{t:Tok}{Q:J6}(hL:s.heap.IsList l items)(hc:Builtin.SmallTypes.fitsIndex c=true)
  (h:∀h',IsEnum h' (s.heap.objs.size+ 1) s.heap.objs.size c .none->h'.IsListIter s.heap.objs.size l 0->(∀b o,s.heap.get? b=some o->h'.get? b=some o)->Q (.ref (s.heap.objs.size+ 1)) {s with heap:=h'}):
  wpAny (model prog w) A (call (.type "enumerate") [.ref l] [("start",.int c t)]) Q E s:=by
 obtain⟨⟨cl,j,r,p⟩,q,a,n,e⟩:=hL
 replace a:cl= .type "list":=a
 replace e:r= .seq items n:=e
 subst a e;refine wG F.called_enumerate (by decide) (yU _ _) (tK _ _) (fun f => eC f _ _) F.entry_enumerate_new (y6 l items n j p c t hc) ⟨q, ?_⟩;have g : (s.heap.push { cls := .type "list_iterator", data := .fields #[.ref l, .int 0 0] }).objs.size = s.heap.objs.size + 1 := Xu ..;show _ /\ _;rw [g];have i : IsEnum ((s.heap.push { cls := .type "list_iterator", data := .fields #[.ref l, .int 0 0] }).push
   { cls := .type "enumerate", data := .fields #[.none, .bool false, .ref s.heap.objs.size, rawInt c, .none, .none] }) (s.heap.objs.size + 1) s.heap.objs.size c .none := by
  have:=Ye (s.heap.push {cls:=.type "list_iterator",data:=.fields #[.ref l,.int 0 0]})
   (o:={cls:=.type "enumerate",data:=.fields #[.none,.bool false,.ref s.heap.objs.size,rawInt c,.none,.none]}) rfl
  rw[g]at this;exact this
 exact⟨⟨_,i,rfl⟩,h _ i ⟨_,Y8 _ (Ye _ rfl),rfl,rfl⟩ fun b o x=>Y8 _ (Y8 _ x)⟩
theorem wB{e it l:Jg}{i:Nat}{c:Int}{items:Array Value}{x old:Jf}{Q:Option Value->Shared->Prop}(he:IsEnum s.heap e it c old)(hit:s.heap.IsListIter it l i)(hl:s.heap.IsList l items)(hx:items[i]?=some x)(hne:e≠it)
  (hQ : ∀ h', IsEnumOut h' e it (c + 1) x s.heap.objs.size -> h'.IsListIter it l (i + 1) -> h'.get? s.heap.objs.size = some { cls := .type "tuple", data := .seq #[.int c s.toks, x] } ->
   (∀ b o, b ≠ e -> b ≠ it -> s.heap.get? b = some o -> h'.get? b = some o) -> Q (some (.ref s.heap.objs.size)) { s with heap := h', toks := s.toks + 1 }) : wpAny (model prog w) A (pyNext (.ref e)) Q E s := by
 have hT:s.TypeIs (.ref e) "enumerate":=⟨_,he,rfl⟩
 unfold pyNext;refine Y0 (Uk (XH (name:=Str.ofString "__next__") hT UN (Xi UN hT F.entry_enumerate_next ?_ (F.args_enumerate_next_1 _))));obtain⟨n,g,d,tk,f⟩:=s;show wpAny _ _ (field (.ref e) 2 >>=_) _ _ _;refine Y0 (UB he rfl (x:=.ref it) rfl (Y0 (wpAny_nextOf_list_item hit hl hx fun j hit₁ hs₁=>?_)));have v:Heap.SameBut it n j:=hs₁;have z:IsEnum j e it c old:=(v.2 e hne).trans he;refine Y0 (UB z rfl (x:=rawInt c) rfl ?_);refine Y0 (m:=field (.ref e) 4) (UB (s:=⟨j,g,d,tk,f⟩) z rfl (x:=.none) rfl ?_);show wpAny _ _ (mkInt c >>=_) _ _ ⟨j,g,d,tk,f⟩;refine Y0 (wpAny_mkInt ?_);show wpAny _ _ (setField (.ref e) 3 (rawInt (c+ 1)) >>=_) _ _ ⟨j,g,d,tk+ 1,f⟩;refine Y0 (UA z (by simp) fun h₂ he₂ hs₂=>?_);have q:Heap.SameBut e j h₂:=hs₂;have he2:IsEnum h₂ e it (c+ 1) old:=he₂;show wpAny _ _ (setField (.ref e) 4 .none >>=_) _ _ ⟨h₂,g,d,tk+ 1,f⟩;refine Y0 (UA he2 (by simp) fun h he₃ hs₃=>?_);have p:Heap.SameBut e h₂ h:=hs₃;have he3:IsEnum h e it (c+ 1) old:=he₃;show wpAny _ _ (newTuple [.int c tk,x] >>=_) _ _ ⟨h,g,d,tk+ 1,f⟩;refine Y0 (WJ ?_);have aa:IsEnum (h.push {cls:=.type "tuple",data:=.seq #[.int c tk,x]}) e it (c+ 1) old:=Y8 _ he3;generalize hh:h.push {cls:=.type "tuple",data:=.seq #[.int c tk,x]}=h₄ at aa;have hsz:h.objs.size=n.objs.size:=by rw[p.1,q.1,v.1]
 have hel:e < n.objs.size:=Yf he;have ht4:h₄.get? n.objs.size=some {cls:=.type "tuple",data:=.seq #[.int c tk,x]}:=by rw[<-hh,<-hsz];exact Ye _ rfl
 have hk4:∀b o,b≠e->b≠it->n.get? b=some o->h₄.get? b=some o:=fun b o a hbi hb=>by
  rw[<-hh];exact Y8 _ (p.extBut b o a (q.extBut b o a (v.extBut b o hbi hb)))
 have hit4:h₄.IsListIter it l (i+ 1):=by
  rw[<-hh];obtain⟨o,ho,r⟩:=(hit₁.extBut q.extBut (Ne.symm hne)).extBut p.extBut (Ne.symm hne);exact⟨o,Y8 _ ho,r⟩
 show wpAny _ _ (Builtin.SmallTypes.ownedTupleIsFree (.ref e) >>=_) _ _ ⟨h₄,g,d,tk+ 1,f⟩;rw[hsz];clear hh he3 p he₃ hs₃ he2 q he₂ hs₂ z v hs₁ hit₁ hsz h h₂ j;refine Y0 ?_;unfold Builtin.SmallTypes.ownedTupleIsFree;refine Y0 (UB aa rfl (x:=.none) rfl (Y6 ?_));simp only[if_true];refine Y0 (Ua (Y0 (UB aa rfl (x:=old) rfl (Y0 (UA aa (by simp) fun h₅ he₅ hs₅=>?_)))));have hs5:Heap.SameBut e h₄ h₅:=hs₅;have he5:IsEnum h₅ e it (c+ 1) x:=he₅;show wpAny _ _ (Builtin.SmallTypes.ownedTupleHandOut (.ref e) (.ref n.objs.size) >>=_) _ _ ⟨h₅,g,d,tk+ 1,f⟩;refine Y0 ?_;unfold Builtin.SmallTypes.ownedTupleHandOut;refine Y0 (UA he5 (by simp) fun h₆ he₆ hs₆=>?_);have hs6:Heap.SameBut e h₅ h₆:=hs₆;have he6:IsEnumOut h₆ e it (c+ 1) x n.objs.size:=he₆;refine UA he6 (by simp) fun h₇ he₇ hs₇=>?_
 have hs7:Heap.SameBut e h₆ h₇:=hs₇;refine Y0 (U1 (Y6 ⟨_,rfl,Y6 (hQ h₇ he₇ ?_ ?_ ?_)⟩))
 .exact((hit4.extBut hs5.extBut (Ne.symm hne)).extBut hs6.extBut (Ne.symm hne)).extBut hs7.extBut (Ne.symm hne)
 .exact hs7.extBut _ _ (Vv hel) (hs6.extBut _ _ (Vv hel) (hs5.extBut _ _ (Vv hel) ht4))
 .exact fun b o a hbi hb=>hs7.extBut b o a (hs6.extBut b o a (hs5.extBut b o a (hk4 b o a hbi hb)))
theorem rL{e it l:Jg}{i:Nat}{c:Int}{items:Array Value}{old:Jf}{Q:Option Value->Shared->Prop}(hh:A.handled=none)(he:IsEnum s.heap e it c old)(hit:s.heap.IsListIter it l i)(hl:s.heap.IsList l items)(hx:items[i]?=none)
  (hQ:∀h',Heap.ExtBut it s.heap h'->Q none {s with heap:=h'}):wpAny (model prog w) A (pyNext (.ref e)) Q E s:=by
 have g:s.TypeIs (.ref e) "enumerate":=⟨_,he,rfl⟩
 unfold pyNext;refine Y0 (Uk (XH (name:=Str.ofString "__next__") g UN (Xi UN g F.entry_enumerate_next ?_ (F.args_enumerate_next_1 _))));show wpAny _ _ (field (.ref e) 2 >>=_) _ _ _;refine Y0 (UB he rfl (x:=.ref it) rfl (Y0 (wpAny_nextOf_list_end hh hit hl hx fun h' x f a=>?_)));obtain⟨o,h,j⟩:=a;exact Y0 (Wl (T:="StopIteration") (b:=true) ⟨o,h,j⟩ WK (Y6 (hQ _ f)))
end
def Cs(K:Je)(a:Jg)(c:Int):It:=
 ⟨fun i H=>∃xs x,JA K H a xs/\xs[i]?=some x,fun i H x H'=>∃t y,x= .ref t/\H t=none/\Jo H H'/\H' t=some (.tup [.int (c+ i),y])/\∀xs,JA K H a xs->xs[i]?=some y,fun i H=>∃xs,JA K H a xs/\xs.length <=i⟩
theorem gB{P:J9}{w:Jd}{K:Je}{elts:List Expr}{k:Nat}{pos:Pos}(l e it:Jg)(c:Int):EH P w K (.Tuple elts k pos) (Cs K l c) [e,it] e (fun i h=>(∃old,IsEnum h e it (c+ (i:Nat)) old)/\h.IsListIter it l i) where
 mem:=by simp
 obj:=fun i h st b a=>by
  obtain⟨⟨old,g⟩,o,ho,hc,hd⟩:=st;rcases Ym.mp a with rfl|a
  .exact⟨_,g,fun v z=>by cases z⟩
  .have e:b=it:=by simpa using a
   subst e;exact⟨o,ho,fun v z=>by rw[hd]at z;cases z⟩
 keep:=fun i h h' st r=>⟨⟨st.1.choose,r e (by simp) _ st.1.choose_spec⟩,st.2.at fun o x=>r it (by simp) o x⟩
 item:=by
  intro X hP hw hK hc i pins s σ H E I hf st hg;subst hP hw hK;obtain⟨xs,x,hq,hx⟩:=hg;obtain⟨its,rv,p,hz⟩:=I.list hq;obtain⟨u,hu,ru⟩:=rv.get hx;obtain⟨⟨old,g⟩,j⟩:=st;obtain⟨oit,n,cit,dit⟩:=id j;have hei:e≠it:=eQ g n (by rw[cit];(try dsimp only);decide);have hel:e < s.heap.objs.size:=Yf g;have hil:it < s.heap.objs.size:=Yf n;refine wB g j p.isList (x:=u) (by simpa using hu) hei fun h1 ho hit1 hT1 k1=>⟨_,rfl,wpAny_letOwnedTupleGo_enum ho fun h2 he2 hs2=>?_⟩
  have f:Heap.SameBut e h1 h2:=hs2;have hn:H s.heap.objs.size=none:=I.hok.fresh (Y9 _);have r:∀b o,b∉[e,it]->s.heap.get? b=some o->h2.get? b=some o:=fun b o a z=>(f.2 b fun q=>a (by simp[q])).trans (k1 b o (fun q=>a (by simp[q])) (fun q=>a (by simp[q])) z)
  have hT2:h2.get? s.heap.objs.size=some {cls:=.type "tuple",data:=.seq #[.int (c+ (i:Nat)) s.toks,u]}:=(f.2 _ (Vv hel)).trans hT1;refine⟨.ref s.heap.objs.size,upd H s.heap.objs.size (.tup [.int (c+ i),x]),I.turnNew (t':=s.toks+ 1) hf r (Y9 _) ⟨by show 2 <=sizeLine;decide,[.int (c+ i) s.toks,u],.cons ⟨_,rfl⟩ (.cons ru .nil),⟨_,hT2,rfl,_,rfl⟩⟩,rfl,⟨_,x,rfl,hn,ML hn,Nb,fun ys hys=>?_⟩,⟨⟨u,?_⟩,hit1.at fun o y=>(f.2 it hei.symm).trans y⟩,fun b a=>?_⟩
  .rw[I.list_inj hys hq];exact hx
  .have e1:c+ ((i+ 1:Nat):Int)=c+ (i:Nat)+ 1:=by omega
   rw[e1];exact he2
  .have hbn:=(hf b a).1;have:b≠s.heap.objs.size:=by
    rcases Ym.mp a with rfl|a
    .exact Yo hel
    .rw[Yb.mp a];exact Yo hil
   rw[JG this];exact hbn
 done:=by
  intro X hP hw hK hc i pins s σ H E I hf st hg;subst hP hw hK;obtain⟨xs,hq,hx⟩:=hg;obtain⟨its,rv,p,hz⟩:=I.list hq;obtain⟨⟨old,g⟩,j⟩:=st;have hl:=rv.length;exact rL (I.ok.hd hc) g j p.isList (by simp;omega) fun h' eb=>⟨rfl,I.turnL (t':=s.toks) hf fun b o a x=>eb b o (fun z=>a (by simp[z])) x⟩
 self:=fun _ _ _ _ _ st h=>wpAny_pyIter_enum st.1.choose_spec h
section
variable{M:Model}{A:Jc}{E:J6}{s:Ja}{env:Env}
theorem w6{pos:Pos}{T:String}{e:Jk}{kws:List Keyword}{Q:J6}
  (h:wpAny M A (spliced (backTo pos (starEach [e] env))) (fun vs s₁=>wpAny M A (evalAll ((backToKw pos (keywordEach kws env)).map (·.2))) (fun kvs s₂=>wpAny M A (call (.type T) vs (((backToKw pos (keywordEach kws env)).filterMap (·.1)).zip kvs)) Q E s₂) E s₁) E s)
  (he:backTo pos (starEach [e] env)=(false,eval e env)::backTo pos (starEach [] env)) (hplain:(backTo pos (starEach [e] env)).any (·.1)=false)
  (hall:(backToKw pos (keywordEach kws env)).all (·.1.isSome)=true) (hkw:(backToKw pos (keywordEach kws env)).any (·.1.isNone)=false):
  wpAny M A (callWith pos (.type T) [] (backTo pos (starEach [e] env)) (backToKw pos (keywordEach kws env))) Q E s:=by
 unfold callWith;have h':wpAny M A (evalArgs (.type T) true (backTo pos (starEach [e] env)) (backToKw pos (keywordEach kws env))) (fun a s₁=>wpAny M A (call (.type T) ([]++a.pos) a.kw) Q E s₁) E s:=by
  rw[he]at h ⊢;exact evalArgs_kwB hall h
 refine Y0 (Xa (YI h' (fun a s₁ b=>Y0 (W0 ?_)) fun _ _ x=>x));simp only[hplain,hkw,W4];exact Y0 (Y6 (Y0 (YI b (fun r s₂ c=>Y0 (Xa (wpAny_point (Y6 c)))) fun _ _ x=>x)))
end
section
variable{X:Cx}{K:Je}
def Ix(K:Je)(ta tb:TE):TI:=fun σ H R=>ta σ H fun x H1=>tb σ H1 fun y H2=>∃l c,x= .ref l/\y= .int c/\ -(2 ^ 62) <=c/\c < 2 ^ 62/\(∃xs,JA K H2 l xs)/\R (Cs K l c) H2
theorem Qs{e e2:Jk}{ta tb:TE}{elts:List Expr}{k:Nat}{pos' p pos kp:Pos}(h:X.K=K)(hg:Gl X "enumerate")(hm:X.mg "enumerate"=none)(ha:PE X e ta)(hb:PE X e2 tb)
  (he:backTo pos (starEach [e] X.env)=(false,eval e X.env)::backTo pos (starEach [] X.env):=by rfl) (hs:starEach [e] X.env=(false,eval e X.env)::starEach [] X.env:=by rfl)
  (hpl:(backTo pos (starEach [e] X.env)).any (·.1)=false:=by rfl):PI X (.Tuple elts k pos') (.Call (.Name "enumerate" p) [e] [⟨some "start",e2,kp⟩] pos) (Ix K ta tb):=by
 subst h;intro pins s σ H R I h;refine XT (ER I hg hm boot_enumerate ?_);have h':Gr ta R5 σ H (fun vs H1=>Gr tb R5 σ H1 fun zs H2=>match vs,zs with|[x],[y]=>∃l c,x= .ref l/\y= .int c/\ -(2 ^ 62) <=c/\c < 2 ^ 62/\(∃xs,JA X.K H2 l xs)/\R (Cs X.K l c) H2|_,_=>False):=h;refine w6 (JO (Nc ha Jt hs pos pins s σ H _ I h') fun us s1 ⟨vs,H1,I1,r,q⟩=>JO (HS hb LA pos pins s1 σ H1 _ I1 q) fun ws s2 ⟨zs,H2,f,j,a⟩=>?_) he hpl rfl rfl;cases r with
 |nil=>cases j <;> exact False.elim a
 |cons r1 rr=>
  cases rr with
  |cons _ _=>cases j <;> exact False.elim a
  |nil=>
   cases j with
   |nil=>exact False.elim a
   |cons z1 zz=>
    cases zz with
    |cons _ _=>exact False.elim a
    |nil=>
     obtain⟨l,c,rfl,rfl,c1,c2,⟨xs,w⟩,o⟩:=a;cases r1;obtain⟨t,rfl⟩:=z1;obtain⟨its,rv,v,hz⟩:=f.list w;refine nH v.isList (by unfold Builtin.SmallTypes.fitsIndex;simp;omega) fun h' g n z=>wpAny_pyIter_enum g ?_
     refine⟨_,[s2.heap.objs.size+ 1,s2.heap.objs.size],_,_,H2,rfl,f.kept (t':=s2.toks) z,gB l _ s2.heap.objs.size c,⟨⟨Value.none,?_⟩,n⟩,fun b hb=>?_,o⟩
     .rw[show c+ ((0:Nat):Int)=c by omega];exact g
     .have i:s2.heap.objs.size <=b:=by
       rcases Ym.mp hb with rfl|hb
       .exact XO _
       .rw[Yb.mp hb];exact Y9 _
      exact f.fpOk i (f.hok.fresh i)
end
theorem Pr{K:Je}{a:Jg}{c:Int}{xs:List V}{g:TG}{tb:TS}{D:Mh}{σ:St}{H:Hp}(Pv:Nat->St->Hp->Prop)(h0:Pv 0 σ H)(hl:∀i σ H,i <=xs.length->Pv i σ H->JA K H a xs)
  (hs:∀i x t σ H H',xs[i]?=some x->Pv i σ H->H t=none->Jo H H'->H' t=some (.tup [.int (c+ i),x])->g (.ref t) σ H' fun σ2 H2=>tb {D with nx:=Pv (i+ 1),ct:=Pv (i+ 1),bk:=D.nx} σ2 H2) (hd:∀σ H,Pv xs.length σ H->D.nx σ H):FJ g tb D σ (Cs K a c) H:=by
 refine⟨fun i m σ H=>m=xs.length - i/\i <=xs.length/\Pv i σ H,⟨xs.length,by simp,Yx _,h0⟩,?_⟩;rintro i m σ H ⟨rfl,hi,p⟩;have q:=hl i σ H hi p
 by_cases hlt:i < xs.length
 .refine .inr ⟨⟨xs,xs[i],q,by simp[hlt]⟩,Pv (i+ 1),fun σ' H' b=>⟨xs.length - (i+ 1),by omega,rfl,hlt,b⟩,fun x H' y=>?_⟩;obtain⟨t,y,rfl,h1,h2,h,f⟩:=y;exact hs i y t σ H H' (f xs q) p h1 h2 h
 .have e:i=xs.length:=by omega
  subst e;exact .inl ⟨⟨xs,q,Y9 _⟩,hd σ H p⟩
section
variable{X:Cx}{K:Je}
def Cp(K:Je):R2:=fun x y H Q=>∃a b xs,x= .ref a/\y= .ref b/\JA K H a xs/\JA K H b []/\Q (.bl (decide (xs.length=0))) H
theorem yF(hu:X.A.units+ 64 < cLine)(h:X.K=K):Nz X (compareOp .Eq) (Cp K):=by
 subst h;intro pins s σ H x y v u Q I rx ry h;obtain⟨a,b,xs,rfl,rfl,h1,h2,q⟩:=h;cases rx;cases ry;obtain⟨f,i,p,w⟩:=I.list h1;obtain⟨n,c,p2,r⟩:=I.list h2;cases c;have g:=i.length
 by_cases h0:xs.length=0
 .refine PySem.SeqAt.eq_listAt (e:=fun _=>true) p.isList p2.isList (by rw[Yj,Yj,<-g,h0];rfl) (Yn (Wm _ 64) hu) ?_ ?_
  .intro j h1;rw[Yj]at h1;omega
  .have o:f.toArray.size=0:=by rw[Yj];omega
   rw[o];rw[Yt h0]at q;exact TJ I q rfl
 .refine PySem.SeqAt.eq_list_lengthsAt p.isList p2.isList (by rw[Yj,Yj,<-g];simp;exact fun z=>h0 (by rw[z];rfl)) (Yn (Wm _ 64) hu) ?_;rw[Yz h0]at q;exact TJ I q rfl
def Hz:R2:=fun y x H Q=>∃a n kvs,y= .int n/\x= .ref a/\H a=some (.dK kvs)/\Q (.bl (JP kvs (Sum.inl n)).isSome) H
theorem nX(hu:X.A.units+ 1 < cLine):Nz X (compareOp .In) Hz:=by
 intro pins s σ H y x v u Q I ry rx h;obtain⟨a,n,kvs,rfl,rfl,b,q⟩:=h;cases rx;exact QT hu I (D3.k (k:=Sum.inl n) b) ry fun s' c=>⟨.bl _,H,c,rfl,q⟩
end
end L2
namespace L2
open PySem PySem.Spec PyProof.Rows
def Ic(K:Je):List V->Hp->VK->Prop:=fun xs H Q=>∃a C1 C2 dx fs b,xs=[.ref a,.ref C2]/\H a=some (.ins C1 dx fs)/\Db K C1/\Bu K C1/\W.kitOne K (.ref C1) (.ref C2)=some b/\Q (.bl b) H
theorem mW{X:Cx}{K:Je}(h:X.K=K):JN X (.builtin "isinstance") (Ic K):=by
 subst h;intro pins s σ H xs e Q I r g;obtain⟨a,j,i,dx,fs,b,rfl,ha,cl,c,f,q⟩:=g;exact K9 pins s σ H _ e Q I r ⟨.ref a,.ref i,.ref j,b,rfl,.ins ha cl c.ha c.hn c.htk c.hm,rfl,f,q⟩
section
variable{rest es:List Expr}{env:Env}{pos:Pos}{a b c:Jk}
theorem GM{k:Nat}:starEach (.Tuple es k pos::rest) env=(false,eval (.Tuple es k pos) env)::starEach rest env:=rfl
theorem E1{v:Const}{k:Nat}:starEach (.Constant v k pos::rest) env=(false,eval (.Constant v k pos) env)::starEach rest env:=rfl
theorem Gu{x:Str}:starEach (.Name x pos::rest) env=(false,eval (.Name x pos) env)::starEach rest env:=rfl
theorem GR{o:Operator}:starEach (.BinOp a o b pos::rest) env=(false,eval (.BinOp a o b pos) env)::starEach rest env:=rfl
theorem tM{ks:List Keyword}:starEach (.Call a es ks pos::rest) env=(false,eval (.Call a es ks pos) env)::starEach rest env:=rfl
theorem bT{x:Str}:starEach (.Attribute a x pos::rest) env=(false,eval (.Attribute a x pos) env)::starEach rest env:=rfl
theorem Qv:starEach (.Subscript a b pos::rest) env=(false,eval (.Subscript a b pos) env)::starEach rest env:=rfl
theorem Rt{gs:List Comprehension}{sc:Scope}:starEach (.ListComp a gs sc pos::rest) env=(false,eval (.ListComp a gs sc pos) env)::starEach rest env:=rfl
theorem w9{o:UnaryOp}:starEach (.UnaryOp o a pos::rest) env=(false,eval (.UnaryOp o a pos) env)::starEach rest env:=rfl
end
section
variable{prog:J9}{w:Jd}{J:Type}[DecidableEq J]{knd:HeapKind prog w J}{A:Jc}{E:J6}{s:Ja}{d a:Jg}{k:J}{xs:List (J×Addr×Value)}
def Nt{β:Type}(xs:List (J×β))(k:J):List (J×β):=xs.filter fun x=> !decide (x.1=k)
theorem uH{β:Type}{xs:List (J×β)}(h:k∉xs.map (·.1)):Nt xs k=xs:=by
 unfold Nt;refine Xc.mpr fun x a=>?_
 have:x.1≠k:=fun e=>h (Y5.mpr ⟨x,a,e⟩)
 simp[this]
theorem Q9{β:Type}:∀{xs:List (J×β)} {j:Nat} {p:β},(xs.map (·.1)).Nodup->xs[j]?=some (k,p)->xs.eraseIdx j=Nt xs k
 |[],_,_,_,h=>by simp at h
 |x::r,0,p,hn,h=>by
  simp only[List.getElem?_cons_zero,Option.some.injEq]at h;subst h;have hn':k∉r.map (·.1):=(YH.mp hn).1;show r=Nt ((k,p)::r) k;unfold Nt;rw[Xj,Y2 (by simp)];exact(uH hn').symm
 |x::r,j+ 1,p,hn,h=>by
  simp only[List.getElem?_cons_succ]at h;have c:k∈r.map (·.1):=Y5.mpr ⟨(k,p),Yk h,rfl⟩;have a:¬x.1=k:=fun e=>(YH.mp hn).1 (by show x.1∈_;rw[e];exact c)
  have b:=Q9 (YH.mp hn).2 h;show x::r.eraseIdx j=Nt (x::r) k;rw[b];unfold Nt;rw[Xj,Y3 (by simp[a])]
theorem Z0{α β:Type}(f:α->β):∀ (l:List α) (j:Nat),(l.map f).eraseIdx j=(l.eraseIdx j).map f
 |[],_=>rfl
 |_::_,0=>rfl
 |x::r,j+ 1=>by show f x::(r.map f).eraseIdx j=f x::(r.eraseIdx j).map f;rw[Z0 f r j]
theorem tL{p:Addr×Value}{Q:Option DictEntry->Shared->Prop}(hu:knd.room A)(hkey:knd.is s.heap k a)(hm:s.heap.DictOfH knd d xs)(hp:atKey xs k=some p)(hz:xs.length <=sizeLine)
  (hQ:∀h',h'.DictOfH knd d (Nt xs k)->Heap.SameBut d s.heap h'->Q (some ⟨knd.hash k,.ref p.1,p.2⟩) {s with heap:=h',toks:=s.toks+ knd.draws k}):wpAny (model prog w) A (Builtin.Dict.takeOut d (.ref a)) Q E s:=by
 obtain⟨o,es,ep,c,v,b,f,g,e⟩:=hm;have n:es.size <=sizeLine:=by rw[Wx f];exact hz
 unfold Builtin.Dict.takeOut
 try with_reducible refine Xa ?_
 refine Y0 (knd.pyHash hu hkey (Y0 (wpAny_dictFind_heap (s:={s with toks:=s.toks+ knd.draws k}) hu hkey c b f g e (fun i=>?_) fun j q h=>?_)))
 .rw[atKey_none_of_get i]at hp;cases hp
 .rw[atKey_of_get e h]at hp;obtain rfl:=Option.some.inj hp;refine Y0 (Xn (s:={s with toks:=s.toks+ knd.draws k}) c b ?_);rw[entry_at f j,h];refine Y0 (wpAny_updateDictKeys (hz:=n) (s:={s with toks:=s.toks+ knd.draws k}) c b (Y6 (hQ _ ⟨_,_,ep+ 1,Xp _ c (Obj.isFreed_of_dict (UW b _)),v.mapDictKeys _,UW b _,?_,?_,?_⟩ (Xl ..))))
  .rw[<-Q9 e h];have z:(es.eraseIdxIfInBounds j).toList=es.toList.eraseIdx j:=by simp
   rw[z,f,Z0]
  .intro x r;exact knd.keeps (g x (Yr.mp r).1) c b (Xl ..)
  .exact List.Nodup.sublist (Xs _ YM) e
theorem jJ{v:Jf}{Q:J6}(hu:knd.room A)(hkey:knd.is s.heap k a)(hm:s.heap.DictOfH knd d xs)(hz:xs.length <=sizeLine)(h1:∀p,atKey xs k=some p->Q p.2 {s with toks:=s.toks+ knd.draws k})
  (h2:atKey xs k=none->∀h',h'.DictOfH knd d (xs++[(k,a,v)])->Heap.SameBut d s.heap h'->Q v {s with heap:=h',toks:=s.toks+ knd.draws k}):wpAny (model prog w) A (dictSetDefault d (.ref a) v) Q E s:=by
 obtain⟨o,es,ep,c,hc,b,f,h,r⟩:=hm;have hes:es.size <=sizeLine:=by rw[Wx f];exact hz
 unfold dictSetDefault
 try with_reducible refine Xa ?_
 refine Y0 (knd.pyHash hu hkey (Y0 (wpAny_dictFind_heap (s:={s with toks:=s.toks+ knd.draws k}) hu hkey c b f h r (fun g=>?_) fun j q hj=>?_)))
 .have n:k∉xs.map (·.1):=not_mem_keys_of_get g;refine Y0 (Ua (Y0 (wpAny_updateDictKeys (hz:=hes) (s:={s with toks:=s.toks+ knd.draws k}) c b (Y6 (h2 (atKey_none_of_get g) _ ⟨_,_,ep+ 1,Xp _ c (Obj.isFreed_of_dict (UW b _)),hc.mapDictKeys _,UW b _,?_,?_,?_⟩ (Xl ..))))))
  .simp[f,entryOfKey]
  .intro x i;rcases Yq.mp i with z|z
   .exact knd.keeps (h x z) c b (Xl ..)
   .rw[Yb.mp z];exact knd.keeps hkey c b (Xl ..)
  .rw[Yh,Um];refine⟨r,by simp,fun x i y hy e=>n ?_⟩;have:y=k:=by simpa using hy
   rw[<-this,<-e];exact i
 .refine Y0 (Xn (s:={s with toks:=s.toks+ knd.draws k}) c b ?_);rw[entry_at f j,hj];exact Y0 (Ua (Y6 (h1 q (atKey_of_get r hj))))
end
section
variable{prog:J9}{w:Jd}{J:Type}[DecidableEq J]{knd:HeapKind prog w J}{d a:Jg}
theorem n6 (hd : (d == sysModules) = false) (dflt : Value) : MeetsIn prog w (Builtin.«dict.setdefault» ⟨[.ref d, .ref a, dflt], []⟩) (fun A R s => knd.room A.in1 /\ ∃ k xs, knd.is s.heap k a /\ s.heap.DictOfH knd d xs /\ xs.length <= sizeLine /\
  (∀ p, atKey xs k = some p -> R (.ok (.ret p.2)) { s with toks := s.toks + knd.draws k }) /\ (atKey xs k = none -> ∀ h', h'.DictOfH knd d (xs ++ [(k, a, dflt)]) -> Heap.SameBut d s.heap h' -> R (.ok (.ret dflt)) { s with heap := h', toks := s.toks + knd.draws k })) :=
 .of_wp fun A R s zz=>by
  rcases zz with⟨e,k,xs,h,b,c,h1,h2⟩
  unfold Builtin.«dict.setdefault»;refine Y0 (?_:wpAny _ _ (Builtin.Dict.keyAndDefault _ _) _ _ _);unfold Builtin.Dict.keyAndDefault;refine Y0 (Ud b.typeIs (?_:wpAny _ _ (pure (d,Value.ref a,some dflt)) _ _ s));refine Y6 (?_:wpAny _ _ (if(d==sysModules)=true then _ else(dictSetDefault d (.ref a) dflt >>=_)) _ _ s);rw[Y2 (by simp[hd])];exact Y0 (jJ e h b c (fun p f=>Y6 ⟨_,rfl,h1 p f⟩) fun g h' i hs=>Y6 ⟨_,rfl,h2 g h' i hs⟩)
theorem gU : MeetsIn prog w (Builtin.«dict.pop» ⟨[.ref d, .ref a], []⟩) (fun A R s => knd.room A.in1 /\ ∃ k xs p, knd.is s.heap k a /\ s.heap.DictOfH knd d xs /\ xs.length <= sizeLine /\ atKey xs k = some p /\
  ∀ h', h'.DictOfH knd d (Nt xs k) -> Heap.SameBut d s.heap h' -> R (.ok (.ret p.2)) { s with heap := h', toks := s.toks + knd.draws k }) :=
 .of_wp fun A R s zz=>by
  rcases zz with⟨j,k,xs,p,q,c,i,b,h⟩
  obtain⟨o,es,ep,n,hc,v,r,his,hn⟩:=id c;unfold Builtin.«dict.pop»;refine Y0 (?_:wpAny _ _ (Builtin.Dict.keyAndDefault _ _) _ _ _);unfold Builtin.Dict.keyAndDefault;refine Y0 (Ud c.typeIs (?_:wpAny _ _ (pure (d,Value.ref a,none)) _ _ s));refine Y6 ?_;have g:(keyPart (.ref a)).isSome=false:=rfl;have f:es.isEmpty=false:=by
   have hsz:=Wx r;have e:xs≠[]:=fun z=>by rw[z]at b;cases b
   have hxl:0 < xs.length:=VJ.mpr e;have h0:¬es.size=0:=by lia
   unfold Array.isEmpty;exact Yz h0
  simp only[g,Bool.false_eq_true,if_false];refine Y0 (Xn n v (Y0 (Y6 ?_)));rw[f];simp only[Bool.false_eq_true,if_false];refine Y0 (tL j q c b i fun h' dd hs=>?_);simp only[Option.isNone_some,Bool.false_eq_true,if_false];exact Y0 (U1 (Y6 ⟨_,rfl,h h' dd hs⟩))
end
section
variable{X:Cx}{K:Je}
theorem KT.app{H:Hp}{kvs:List (List JL×V)}{xs:List (List JL×Addr×Value)}{k:List JL}{v:V}{b:Jg}{u:Jf}(r:KT H kvs xs)(hb:H b=some (.tup (k.map kV)))(rv:Jz v u):KT H (kvs++[(k,v)]) (xs++[(k,b,u)]):=by
 induction r with
 |nil=>exact .cons ⟨rfl,hb,rv⟩ .nil
 |cons q _ ih=>exact .cons q ih
theorem KT.less{H:Hp}{kvs:List (List JL×V)}{xs:List (List JL×Addr×Value)}{k:List JL}(r:KT H kvs xs):KT H (Nt kvs k) (Nt xs k):=by
 induction r with
 |nil=>exact .nil
 |@cons p q ps qs hq t ih=>
  unfold Nt at ih ⊢;rw[Xj,Xj,<-hq.1]
  split
  .exact .cons hq ih
  .exact ih
def Oe:V->List V->Hp->VK->Prop:=fun x vs H Q=>∃ (a b:Jg) (k:List JL) (kvs:List (List JL×V)) (z:V),x= .ref a/\vs=[.ref b,z]/\H a=some (.dT kvs)/\H b=some (.tup (k.map kV))/\kvs.length < sizeLine/\
 (∀v,JP kvs k=some v->Q v H)/\(JP kvs k=none->∀G,Nd a H G->G a=some (.dT (kvs++[(k,z)]))->Q z G)
theorem OU(hu:X.A.units+ 1 < cLine):Gp X "dict.setdefault" Oe:=by
 intro pins s σ H x vs v us Q I rx rv h;obtain⟨a,b,k,kvs,z,rfl,rfl,i,r,hl,q1,q2⟩:=h;cases rx;cases rv with
 |cons r1 t1=>
  cases t1 with
  |cons r2 t2=>
   cases t2;cases r1;obtain⟨hz,o,xs,g,dd⟩:=Am I.hok i;have j:xs.length <=sizeLine:=by rw[<-Paired.length g];exact hz
   have f:=g.val k;refine Wn UO dd.typeIs PySem.F.entry_dict_setdefault (PySem.F.args_dict_setdefault_3 _ _ _) (n6 (knd:=tupleKind (JQ X.prog X.w)) o _) ⟨Ub hu,k,xs,Bc I.hok r,dd,j,fun p hp=>?_,fun hn h' dd' hs=>?_⟩
   .rw[hp]at f;cases e:JP kvs k with
    |none=>rw[e]at f;exact f.elim
    |some y=>rw[e]at f;exact⟨y,H,I.tok _,f,q1 y e⟩
   .rw[hn]at f;cases e:JP kvs k with
    |some y=>rw[e]at f;exact f.elim
    |none=>
     obtain⟨q,es,ep,n,h2,h3,h4,_,h5⟩:=dd';refine⟨z,upd H a (.dT (kvs++[(k,z)])),?_,r2,q2 e _ Nd.upd Nb⟩;refine Cq I (by rw[i];exact True.intro) hs ⟨q,n⟩ ⟨by rw[List.length_append];exact hl,o,_,(g.app r r2).keeps fun c ys ec=>?_,q,es,ep,n,h2,h3,h4,h5⟩;rw[JG (Jm ec i (fun z=>nomatch z))];exact ec
def KA:V->List V->Hp->VK->Prop:=fun x vs H Q=>∃ (a b:Jg) (k:List JL) (kvs:List (List JL×V)) (v:V),x= .ref a/\vs=[.ref b]/\H a=some (.dT kvs)/\H b=some (.tup (k.map kV))/\JP kvs k=some v/\
 ∀G,Nd a H G->G a=some (.dT (Nt kvs k))->Q v G
theorem Cm(hu:X.A.units+ 1 < cLine):Gp X "dict.pop" KA:=by
 intro pins s σ H x vs v us Q I rx rv h;obtain⟨a,b,k,kvs,z,rfl,rfl,g,hb,i,q⟩:=h;cases rx;cases rv with
 |cons r1 t1=>
  cases t1;cases r1;obtain⟨j,hd,xs,e,dd⟩:=Am I.hok g;have n:xs.length <=sizeLine:=by rw[<-Paired.length e];exact j
  have f:=e.val k;rw[i]at f;cases hp:atKey xs k with
  |none=>rw[hp]at f;exact f.elim
  |some p=>
   rw[hp]at f;refine Wn XV dd.typeIs PySem.F.entry_dict_pop (PySem.F.args_dict_pop_2 _ _) (gU (knd:=tupleKind (JQ X.prog X.w)) (d:=a) (a:=b)) ⟨Ub hu,k,xs,p,Bc I.hok hb,dd,n,hp,fun h' dd' hs=>?_⟩;obtain⟨o,es,ep,r,h2,h3,h4,_,h5⟩:=dd';refine⟨z,upd H a (.dT (Nt kvs k)),?_,f,q _ Nd.upd Nb⟩;refine Cq I (by rw[g];exact True.intro) hs ⟨o,r⟩ ⟨YD (YB _ _) j,hd,_,(KT.less e).keeps fun c ys ec=>?_,o,es,ep,r,h2,h3,h4,h5⟩;rw[JG (Jm ec g (fun z=>nomatch z))];exact ec
end
section
variable{X:Cx}{pins:J8}{σ:St}{H:Hp}{s:Ja}{d:Jg}{u0 u1:HO}
theorem Jq.retag(I:Jq X pins σ H s)(e:H d=some u0)(n1:∀xs,u0≠ .tup xs)(n2:∀x,u0≠ .own x)(n3:∀ps,u0≠ .tbl ps)(n4:∀o u,X.H₀ d≠some (.frz o u))(new:JF X.prog X.w (upd H d u1) s.heap d u1):Jq X pins σ (upd H d u1) s:=by
 have ne:∀{b:Jg},H b=none->b≠d:=fun h z=>by rw[z,e]at h;cases h
 have a:∀b xs,H b=some (.tup xs)->upd H d u1 b=some (.tup xs):=fun b xs h=>by
  rw[JG (fun z=>by rw[z,e]at h;exact n1 xs (Option.some.inj h))];exact h
 have g:∀b x,H b=some (.own x)->upd H d u1 b=some (.own x):=fun b x h=>by
  rw[JG (fun z=>by rw[z,e]at h;exact n2 x (Option.some.inj h))];exact h
 refine⟨I.ok,I.os,I.bare,⟨I.base.keep,I.base.slot,fun b o q n i=>?_,I.base.there,fun b xs q=>a b xs (I.base.tups b xs q),fun b o u q=>?_,fun b ps q=>?_⟩,I.loc,I.cell,?_,fun x c q=>?_,fun p j=>?_,fun b u q=>?_,I.len⟩
 .have:=I.base.free b o q n i;rw[JG (ne this)];exact this
 .rw[JG (fun z=>n4 o u (by rw[<-z];exact q))];exact I.base.frzs b o u q
 .obtain⟨m,h⟩:=I.base.tbls b ps q;exact⟨m,by rw[JG (fun z=>by rw[z,e]at h;exact n3 _ (Option.some.inj h))];exact h⟩
 .rw[JG (ne I.free)];exact I.free
 .rw[JG (ne (I.freeC x c q))];exact I.freeC x c q
 .obtain⟨a1,f,r⟩:=I.pin p j;exact⟨a1,by rw[JG (ne f)];exact f,r⟩
 .by_cases hb:b=d
  .subst hb;rw[Nb]at q;cases q;exact new
  .rw[JG hb]at q;exact(I.hok b u q).stay (fun c v _ h=>h) (fun c h=>g c b h) a
theorem Jq.freeze{kvs:List (List JL×V)}{o:Obj}(I:Jq X pins σ H s)(e:H d=some (.dT kvs))(ho:s.heap.get? d=some o):Jq X pins σ (upd H d (.frz o (.dT kvs))) s:=by
 refine I.retag e (fun _ z=>nomatch z) (fun _ z=>nomatch z) (fun _ z=>nomatch z) (fun o u z=>?_) ⟨ho,?_⟩
 .have:=I.base.frzs d o u z;rw[e]at this;cases this
 .exact(I.hok d _ e).stay (fun c v _ h=>h) (fun c h=>by rw[JG (Jm h e (fun z=>nomatch z))];exact h) fun c xs h=>by rw[JG (Jm h e (fun z=>nomatch z))];exact h
theorem Jq.thaw{kvs:List (List JL×V)}{o:Obj}(I:Jq X pins σ H s)(e:H d=some (.frz o (.dT kvs)))(n4:∀o u,X.H₀ d≠some (.frz o u)):Jq X pins σ (upd H d (.dT kvs)) s:=by
 refine I.retag e (fun _ z=>nomatch z) (fun _ z=>nomatch z) (fun _ z=>nomatch z) n4 ?_;have h1:JF X.prog X.w H s.heap d (.dT kvs):=(I.hok d _ e).2;exact h1.stay (fun c v _ h=>h) (fun c h=>by rw[JG (Jm h e (fun z=>nomatch z))];exact h) fun c xs h=>by rw[JG (Jm h e (fun z=>nomatch z))];exact h
end
section
variable{prog:J9}{w:Jd}{A:Jc}{E:J6}{s:Ja}{d it:Jg}{o:Obj}{es:Array DictEntry}{ep i n:Nat}
theorem PB{Q:J6}(hd:(d==sysModules)=false)(ho:s.heap.get? d=some o)(hc:o.ExactDict)(hdat:o.data= .dict es ep)
  (hQ:Q (.ref s.heap.objs.size) {s with heap:=s.heap.push {cls:=.type "dict_keyiterator",data:=.fields #[.ref d,.int 0 0,.int es.size 0,.int ep 0]}}):wpAny (model prog w) A (pyIter (.ref d)) Q E s:=by
 have a:s.TypeIs (.ref d) "dict":=⟨o,ho,hc.1⟩
 refine We a WB (Xi WB a PySem.F.entry_dict_iter ?_ (PySem.F.args_dict_iter_1 _));unfold Builtin.«dict.__iter__»;refine Y0 (?_:wpAny _ _ (Builtin.Dict.dictSlotNone _ _) _ _ _);unfold Builtin.Dict.dictSlotNone;refine Y0 (Ud a (?_:wpAny _ _ (pure (Value.ref d)) _ _ s));refine Y6 (?_:wpAny _ _ (Builtin.Dict.showsAll d >>=_) _ _ s);unfold Builtin.Dict.showsAll;rw[Y2 (by simp[hd])];refine Y0 (Y6 (Y0 (Xn ho hdat (Y0 (Ue ho hdat (Y0 (X3 (Y6 ⟨_,rfl,"dict_keyiterator",_,⟨_,Ye _ rfl,rfl⟩,X5.lookup,?_⟩))))))));simpa[rawInt] using hQ
theorem Pl{Q:Option Value->Shared->Prop}(hit:s.heap.IsKeyIter it d i es.size ep)(ho:s.heap.get? d=some o)(hdd:o.data= .dict es ep)(hlt:i < es.size)
  (hQ:∀h',h'.IsKeyIter it d (i+ 1) es.size ep->Heap.SameBut it s.heap h'->Q (some es[i].key) {s with heap:=h'}):wpAny (model prog w) A (pyNext (.ref it)) Q E s:=by
 obtain⟨g,a,f,e⟩:=id hit;have c:=hit.typeIs;unfold pyNext;refine Y0 (Uk (XH (name:=Str.ofString "__next__") c X5 (Xi X5 c Vg ?_ (V8 _))));refine Y0 (Y6 (Y0 (Y0 ?_)));refine Y0 (U6 c (Y6 (Y0 (VO a e ?_))));simp only[show Builtin.Dict_items.ownsTuple "dict_keyiterator"=false by decide,Bool.false_eq_true,if_false];refine(?_:wpAny _ _ (if(Value.ref d==Value.none)=true then _ else _) _ _ s);rw[Y2 (show ¬((Value.ref d==Value.none)=true) from fun z=>Bool.noConfusion z)];refine Y0 (Y6 (Y0 (Xn ho hdd ?_)));rw[Y2 (by simp)];refine Y0 (Y6 (Y0 (Ue ho hdd ?_)));rw[Y2 (by simp)];refine Y6 ?_;simp only[show ¬((i:Int) < 0) by omega,if_false,Xv,XZ hlt];refine Y0 (Y0 (U6 c (Y6 (Y0 (wpAny_isOneOf_keyiter c ?_)))));refine(?_:wpAny _ _ (setField (.ref it) 1 (rawInt ((i:Int)+ 1)) >>=_) _ _ s);refine Y0 (VP a e (by simp) ?_);have b:(s.heap.update it (Obj.mapFields (·.setIfInBounds 1 (rawInt ((i:Int)+ 1))))).IsKeyIter it d (i+ 1) es.size ep:=
  ⟨_,Xp _ a (Obj.isFreed_of_fields (V9 e _)),(Obj.cls_mapFields ..).trans f,by rw[V9 e];simp[rawInt]⟩
 refine Y0 (Xa (Y0 (wpAny_isOneOf_keyiter (s:={s with heap:=s.heap.update it (Obj.mapFields (·.setIfInBounds 1 (rawInt ((i:Int)+ 1))))}) b.typeIs ?_)));refine(?_:wpAny _ _ (pure es[i].key) _ _ _);exact Y6 (Y6 ⟨_,rfl,Y6 (hQ _ b (Xl ..))⟩)
theorem Pj{Q:Option Value->Shared->Prop}(hh:A.handled=none)(hit:s.heap.IsKeyIter it d i es.size ep)(ho:s.heap.get? d=some o)(hdd:o.data= .dict es ep)(hge:es.size <=i)
  (hQ:∀h',Heap.ExtBut it s.heap h'->Q none {s with heap:=h'}):wpAny (model prog w) A (pyNext (.ref it)) Q E s:=by
 obtain⟨g,e,h,f⟩:=id hit;have c:=hit.typeIs;unfold pyNext;refine Y0 (Uk (XH (name:=Str.ofString "__next__") c X5 (Xi X5 c Vg ?_ (V8 _))));refine Y0 (Y6 (Y0 (Y0 ?_)));refine Y0 (U6 c (Y6 (Y0 (VO e f ?_))));simp only[show Builtin.Dict_items.ownsTuple "dict_keyiterator"=false by decide,Bool.false_eq_true,if_false];refine(?_:wpAny _ _ (if(Value.ref d==Value.none)=true then _ else _) _ _ s);rw[Y2 (show ¬((Value.ref d==Value.none)=true) from fun z=>Bool.noConfusion z)];refine Y0 (Y6 (Y0 (Xn ho hdd ?_)));rw[Y2 (by simp)];refine Y0 (Y6 (Y0 (Ue ho hdd ?_)));rw[Y2 (by simp)];refine Y6 ?_;simp only[show ¬((i:Int) < 0) by omega,if_false,Xv,WC hge];refine Y0 (Y0 (U6 c (Y6 ?_)));refine(?_:wpAny _ _ (setField (.ref it) 0 .none >>=_) _ _ s);refine Y0 (VP e f (by simp) ?_);refine(?_:wpAny _ _ (newExc (.type "StopIteration") [] >>=_) _ _ _);refine Y0 ?_;simp only[newExc,newTuple];refine Y0 (X3 (Y0 (m:=firstArgMember _ _) (VS (a:=Value.none) (by first|rfl|(simp only[firstArgMember];rfl)) (X3 ?_ (by size_fits)))) (by size_fits));simp only[raiseNew];refine Y0 (wpAny_handled ?_);rw[show A.in1.handled=none from hh];refine Y0 (Y6 (wpAny_throw ?_));exact Y0 (Wl (T:="StopIteration") (b:=true) ⟨_,Ye _ rfl,rfl⟩ WK (Y6 (hQ _ (((Xl ..).extBut.push _).push _))))
end
def Sj(d:Jg)(o:Obj)(kvs:List (List JL×V)):It:=
 ⟨fun i H=>H d=some (.frz o (.dT kvs))/\i < kvs.length,fun i H x H'=>H'=H/\∃b k v,x= .ref b/\kvs[i]?=some (k,v)/\H b=some (.tup (k.map kV)),fun i H=>H d=some (.frz o (.dT kvs))/\kvs.length <=i⟩
theorem KT.at'{H:Hp}:∀{kvs:List (List JL×V)} {xs:List (List JL×Addr×Value)},KT H kvs xs->∀{i:Nat} {x:List JL×Addr×Value},xs[i]?=some x->∃v,kvs[i]?=some (x.1,v)/\H x.2.1=some (.tup (x.1.map kV)):=by
 intro kvs xs r
 induction r with
 |nil=>intro i x h;simp at h
 |@cons p q ps qs hq t ih=>
  intro i x h;cases i with
  |zero=>
   simp only[List.getElem?_cons_zero,Option.some.injEq]at h;subst h;refine⟨p.2,by simp[<-hq.1],by rw[<-hq.1];exact hq.2.1⟩
  |succ i=>exact ih (by simpa using h)
theorem j4{P:J9}{w:Jd}{K:Je}{tg:Jk}{o:Obj}{kvs:List (List JL×V)}{es:Array DictEntry}{ep:Nat}(d it:Jg)(hdat:o.data= .dict es ep)(hsz:es.size=kvs.length):EH P w K tg (Sj d o kvs) [it] it (fun i h=>h.IsKeyIter it d i es.size ep) where
 mem:=by simp
 obj:=fun i h st b a=>by
  have e:b=it:=by simpa using a
  subst e;obtain⟨o,e,c,d⟩:=st;exact⟨o,e,fun v z=>by rw[d]at z;cases z⟩
 keep:=fun i h h' st k=>by
  obtain⟨p,e,r⟩:=st;exact⟨p,k it (by simp) p e,r⟩
 item:=by
  intro X hP q hK hc i pins s σ H E I g st hg;subst hP q hK;obtain⟨hF,hi⟩:=hg;obtain⟨f0,f1,f2,f3,f4,f5⟩:=g it (by simp);obtain⟨f,hob⟩:=(show s.heap.get? d=some o/\JF X.prog X.w H s.heap d (.dT kvs) from I.hok d _ hF);obtain⟨z,y,xs,r,o',es',ep',q1,q2,q3,q4,q5⟩:=hob;rw[f]at q1;cases q1;rw[hdat]at q3;cases q3;have n:i < es.size:=by omega
  refine Pl st f hdat n fun h' j sb=>?_
  have I1:Jq X pins σ H {s with heap:=h'}:=I.turned (t':=s.toks) (fun b o a e=>(sb.2 b a).trans e) f0 f1 f3 f4 f5;obtain⟨p,e,c,dd⟩:=id j;have hxl:xs.length=es.size:=by rw[<-Array.length_toList,q4,Y1]
  have hx:xs[i]?=some xs[i]:=Y7 (by omega);obtain⟨v,hv,a⟩:=KT.at' r hx;have hk:es[i].key= .ref xs[i].2.1:=by
   have:es.toList[i]?=(xs.map (entryOfKey (tupleKind (JQ X.prog X.w))))[i]?:=by rw[q4]
   rw[Ya,hx,Array.getElem?_toList,XZ n]at this;rw[Option.some.inj this];rfl
  exact⟨_,rfl,Ca (s:={s with heap:=h'}) e c dd (by decide) ⟨.ref xs[i].2.1,H,I1,hk,⟨rfl,_,_,v,rfl,hv,a⟩,j,fun b a=>(g b a).1⟩⟩
 done:=by
  intro X hP q hK hc i pins s σ H E I g st hg;subst hP q hK;obtain⟨hF,hi⟩:=hg;obtain⟨f0,f1,f2,f3,f4,f5⟩:=g it (by simp);have f:s.heap.get? d=some o:=(show s.heap.get? d=some o/\JF X.prog X.w H s.heap d (.dT kvs) from I.hok d _ hF).1;exact Pj (I.ok.hd hc) st f hdat (by omega) fun h' eb=>⟨rfl,I.turned (t':=s.toks) (fun b o a e=>eb b o a e) f0 f1 f3 f4 f5⟩
 self:=fun A i s Q E st h=>by
  exact wpAny_pyIter_keyiter st h
section
variable{X:Cx}{K:Je}
def IF(td:TE):TI:=fun σ H R=>td σ H fun x H1=>∃a kvs,x= .ref a/\H1 a=some (.dT kvs)/\∀o,R (Sj a o kvs) (upd H1 a (.frz o (.dT kvs)))
theorem Bi{tg e:Jk}{td:TE}(hl:PE X e td):PI X tg e (IF td):=by
 intro pins s σ H R I h;refine JO (hl pins s σ H _ I h) fun v s1 zz=>?_;rcases zz with⟨x,H1,j,n,a,kvs,ex,i,q⟩
 subst ex;cases n;obtain⟨z,y,xs,r,o,es,ep,g,q2,f,p,q5⟩:=(show JF X.prog X.w H1 s1.heap a (.dT kvs) from j.hok a _ i);have hxl:xs.length=es.size:=by rw[<-Array.length_toList,p,Y1]
 have hkl:=Paired.length r;refine PB y g q2 f ?_;have c:=j.freeze i g;refine⟨s1.heap.objs.size,[s1.heap.objs.size],_,_,_,rfl,c.kept (t':=s1.toks) fun b o e=>Y8 _ e,j4 a _ f (by omega),⟨_,Ye _ rfl,rfl,rfl⟩,fun b hb=>?_,q o⟩;have e:b=s1.heap.objs.size:=by simpa using hb
 subst e;exact c.fpOk (Y9 _) (c.hok.fresh (Y9 _))
def A5(t:TE):TE:=fun σ H Q=>∃d kvs,H d=some (.dT kvs)/\t σ H fun v H'=>∃o,H' d=some (.frz o (.dT kvs))/\Q v (upd H' d (.dT kvs))
theorem Bg{e:Jk}{t:TE}(h:PE X e t):PE X e (A5 t):=by
 intro pins s σ H Q I a;obtain⟨d,kvs,f,a⟩:=a;have b:∀o u,X.H₀ d≠some (.frz o u):=fun o u z=>by have:=I.base.frzs d o u z;rw[f]at this;cases this
 exact JO (h pins s σ H _ I a) fun u s1 zz=>by rcases zz with⟨v,H1,g,r,o,c,q⟩;exact ⟨v,_,g.thaw c b,r,q⟩
end
section
variable{caps:List (Option Nat)}{g:TG}{tc:TT}{te td:TE}{d:Jg}{kvs:List (List JL×V)}{σ:St}{H:Hp}{Q:VK}
theorem Ai(hd:H d=some (.dT kvs))(htd:∀R:VK,R (.ref d) H->td σ H R)(Pv:Nat->List V->St->Prop)(h0:Pv 0 [] (Nf caps σ))(hl:∀i ys σ',Pv i ys σ'->ys.length <=i)(hz:kvs.length <=100000)
  (hs:∀Hf o,(∀c,c≠d->Hf c=H c)->Hf d=some (.frz o (.dT kvs))->∀i b k v ys σ',kvs[i]?=some (k,v)->H b=some (.tup (k.map kV))->Pv i ys σ'->g (.ref b) σ' Hf fun σ2 H2=>tc σ2 H2 fun c H3=>if c=true then te σ2 H3 fun y H4=>Pv (i+ 1) (ys++[y]) σ2/\H4=Hf else Pv (i+ 1) ys σ2/\H3=Hf)
  (he:∀ys σ',Pv kvs.length ys σ'->∀p G,H p=none->Jo H G->G p=some (.lst ys)->Q (.ref p) G):A5 (E5 caps (IF td) g tc te) σ H Q:=by
 refine⟨d,kvs,hd,htd _ ⟨d,kvs,rfl,hd,fun o=>?_⟩⟩;obtain⟨Hf,r⟩:∃Hf,Hf=upd H d (.frz o (.dT kvs)):=⟨_,rfl⟩;rw[<-r];have f:Hf d=some (.frz o (.dT kvs)):=by rw[r,Nb]
 have h:∀c,c≠d->Hf c=H c:=fun c j=>by rw[r,JG j]
 refine⟨fun i m ys σ' H'=>m=kvs.length - i/\i <=kvs.length/\Pv i ys σ'/\H'=Hf,⟨kvs.length,by simp,Yx _,h0,rfl⟩,?_⟩;rintro i m ys σ' H' ⟨rfl,hi,p,rfl⟩;have hy:=hl i ys σ' p
 by_cases hlt:i < kvs.length
 .refine .inr ⟨⟨f,hlt⟩,Yn (XN (Yn hy hlt)) (Rq hz),fun s σ2 H2=>Pv (i+ 1) s σ2/\H2=H',fun s σ2 H2 q=>⟨kvs.length - (i+ 1),by omega,rfl,hlt,q⟩,fun x H2 y=>?_⟩;obtain⟨e,b,k,v,ex,hk,w⟩:=y;subst e ex;have hbd:b≠d:=fun z=>by rw[z,f]at w;cases w
  exact hs H2 o h f i b k v ys σ' hk (by rw[<-h b hbd];exact w) p
 .have e:i=kvs.length:=by omega
  subst e;refine .inl ⟨⟨f,Y9 _⟩,Ni (YD hy hz),fun n a=>⟨o,?_,he ys σ' p n _ ?_ (fun c u e=>?_) ?_⟩⟩
  .have:d≠n:=fun z=>by rw[<-z,f]at a;cases a
   rw[JG this];exact f
  .have:n≠d:=fun z=>by rw[z,f]at a;cases a
   rw[<-h n this];exact a
  .by_cases j:c=d
   .rw[j,hd]at e;rw[j,Nb];exact e
   .have:c≠n:=fun z=>by rw[<-z,h c j]at a;rw[a]at e;cases e
    rw[JG j,JG this,h c j];exact e
  .have:n≠d:=fun z=>by rw[z,f]at a;cases a
   rw[JG this,Nb]
end
section
variable{X:Cx}{pos pos' p0:Pos}{o i value:Jk}{td ty tv tz:TE}
def LG(td ty tv:TE):TS:=fun D σ H=>tv σ H fun v H1=>td σ H1 fun x H2=>ty σ H2 fun y H3=>∃ (a b:Jg) (k:List JL) (kvs:List (List JL×V)),x= .ref a/\y= .ref b/\H3 a=some (.dT kvs)/\H3 b=some (.tup (k.map kV))/\kvs.length < sizeLine/\∀G,Nd a H3 G->G a=some (.dT (MY kvs k v))->D.nx σ G
theorem Zn(hu:X.A.units+ 1 < cLine)(ho:PE X o td)(hi:PE X i ty)(hv:PE X value tv)(hs:swapsWith value (some (.Subscript o i pos')) pos.line X.env=pure false):
  PS X (.Assign [.Subscript o i pos'] value pos) (LG td ty tv):=by
 intro pins s σ H D I h;refine wpAny_Assign_Subscript (JO (hv pins s σ H _ I h) fun r s1 ⟨v,H1,I1,c,g⟩=>JO (ho pins s1 σ H1 _ I1 g) fun u s2 ⟨x,H2,I2,rx,f⟩=>JO (hi pins s2 σ H2 _ I2 f) fun iv s3 zz=>?_) hs;rcases zz with⟨y,H3,z,ry,a,b,k,kvs,ex,n,q,p,j,e⟩;subst ex n;obtain rfl:u=Value.ref a:=rx;exact Zj hu z (Gq.t (k:=k) q p j) ry c fun s4 w=>⟨σ,_,w,e _ Nd.upd Nb⟩
def LS:R2:=fun y x H Q=>∃ (a b:Jg) (k:List JL) (kvs:List (List JL×V)),y= .ref b/\x= .ref a/\Rd H a (.dT kvs)/\H b=some (.tup (k.map kV))/\Q (.bl (JP kvs k).isSome) H
theorem Zi(hu:X.A.units+ 1 < cLine):Nz X (compareOp .In) LS:=by
 intro pins s σ H y x v u Q I ry rx h;obtain⟨a,b,k,kvs,rfl,rfl,e,c,q⟩:=h;cases rx;exact QT hu I (.inr ⟨kvs,k,b,e,rfl,c,rfl⟩) ry fun s' f=>⟨.bl _,H,f,rfl,q⟩
def O6:TE:=fun _ H Q=>∀p G,H p=none->Jo H G->G p=some (.dT [])->Q (.ref p) G
theorem CV:PE X (.Dict [] [] p0) O6:=by
 intro pins s σ H Q I h;exact mH pins s σ H Q I fun p a=>h p _ a (ML a) Nb
end
section
variable{X:Cx}
def Q8(t:TS):TS:=fun D σ H=>∃d kvs,H d=some (.dT kvs)/\t {nx:=fun σ' H'=>∃o,H' d=some (.frz o (.dT kvs))/\D.nx σ' (upd H' d (.dT kvs)),rt:=fun _ _=>False} σ H
theorem HQ{st:Stmt}{t:TS}(h:PS X st t):PS X st (Q8 t):=by
 intro pins s σ H D I a;obtain⟨d,kvs,e,a⟩:=a;have b:∀o u,X.H₀ d≠some (.frz o u):=fun o u z=>by have:=I.base.frzs d o u z;rw[e]at this;cases this
 refine JO (h pins s σ H _ I a) fun f s1 k=>?_
 cases f with
 |next=>obtain⟨σ',H',g,o,c,q⟩:=k;exact⟨σ',_,g.thaw c b,q⟩
 |brk=>obtain⟨_,_,_,q⟩:=k;exact q.elim
 |cont=>obtain⟨_,_,_,q⟩:=k;exact q.elim
 |ret u=>obtain⟨_,_,_,_,_,q⟩:=k;exact q.elim
theorem mY{caps:List (Option Nat)}{wi:TI}{g:TG}{tc:TT}{te:TE}{i:Nat}{D:Mh}{σ:St}{H:Hp}(h:A5 (E5 caps wi g tc te) σ H fun v G=>D.nx (σ.set i (some v)) G):Q8 (B1 (E5 caps wi g tc te) (RT i)) D σ H:=h
end
end L2
namespace L2
open PySem PySem.Spec PyProof.Rows PySem.W
end L2
namespace L2
open PySem PySem.Spec PyProof.Rows
structure jD(P:J9)(w:Jd)(outer:List Env)(H:Hp)(s:Ja)(a C:Jg)(t:Jf)(B:Jj)(H':Hp)(s':Ja):Prop where
 os:s'.os=s.os
 bare:AllBare s'.gens
 fly:Heap.FlyingW B outer a (.ref C) t s'.heap
 hok:Tq P w H' B
 un:Un (De outer) [] H H' s.heap s'.heap
 keepB:∀b o,s.heap.get? b=some o->b∉De outer->H b=none->B.get? b=some o
 thereB:∀b o,s.heap.get? b=some o->b∉De outer->∃o',B.get? b=some o'
def Ke(P:J9)(w:Jd):RP:=fun outer H s E e s'=>∃ (a C:Jg) (t:Jf) (B:Jj) (H':Hp),e= .ref a/\jD P w outer H s a C t B H' s'/\E (.ref C) none H'
end L2
namespace L2
open PySem PySem.Spec PyProof.Rows PySem.Builtin PySem.Builtin.ObjectAttr PySem.Builtin.Getset_descriptor
structure vU(K:Je)(C:Jg):Prop where
 ga:W.findIn K (.ref C) "__getattribute__"=some (some (.builtin "BaseException.__getattribute__"))
 gt:W.findIn K (.ref C) "__getattr__"=some none
 cl:W.findIn K (.ref C) "__class__"=some (some (.builtin "object.__class__"))
 ob:W.mroIn K C (.type "object")=some true
 bs:W.mroIn K C (.type "BaseException")=some true
end L2
namespace L2
open PySem PySem.Spec PyProof.Rows
def HT:HO:=.ext fun _=>True
theorem HT.ok{P:J9}{w:Jd}{H:Hp}{h:Jj}{a:Jg}{o:Obj}(e:h.get? a=some o):JF P w H h a (.frz o HT):=⟨e,trivial,⟨o,e⟩,fun _ _ _ _=>trivial⟩
structure RL(mg:J5)(base:Jj)(c P:Jg):Prop where
 hd:W.CodeHd base c P
 gP:mainGlobals≠P
 bt:base.BuiltinsAt mg P
structure Mx(H:Hp)(P:Jg)(q:Str):Prop where
 ex:∃ps,H P=some (.tbl ps)/\TriplesOk ps.toList/\∀pos cv,codeAmong pos ps.toList=some cv->∃c' oc vs t,cv= .ref c'/\H c'=some (.frz oc HT)/\oc.data= .fields vs/\vs[1]?=some (.str q t)
theorem Mx.of{H G:Hp}{P:Jg}{q:Str}(x:Mx H P q)(h:∀b o,H b=some o->(∃ps,o= .tbl ps)\/(∃oc,o= .frz oc HT)->G b=some o):Mx G P q:=by
 obtain⟨ps,h1,h2,a⟩:=x;refine⟨ps,h _ _ h1 (.inl ⟨ps,rfl⟩),h2,fun pos i e=>?_⟩;obtain⟨c',oc,vs,t,g,f,c⟩:=a pos i e;exact⟨c',oc,vs,t,g,h _ _ f (.inr ⟨oc,rfl⟩),c⟩
theorem Mx.same{H G:Hp}{P:Jg}{q:Str}(x:Mx H P q)(s:Jo H G):Mx G P q:=x.of fun b o e _=>s b o e
theorem xV{pos:Pos}{a b:Int}{c cv:Jf}:∀ (l:Ji),TriplesOk l->codeAmong pos (l++[rawInt a,rawInt b,c])=some cv->codeAmong pos l=some cv\/cv=c:=by
 intro l h e
 fun_induction TriplesOk l with
 |case1=>
  simp only[List.nil_append,codeAmong,rawInt]at e
  split at e
  .exact .inr (Option.some.inj e).symm
  .cases e
 |case2 a' t b' u x r ih=>
  simp only[List.cons_append,codeAmong]at e ⊢
  split at e
  .rename_i q;rw[Y3 q];exact .inl e
  .rename_i q;rw[Y2 q];exact ih h e
 |case3 l h1 h2=>exact h.elim
section
variable{X:Cx}{pins:J8}{σ:St}{H:Hp}{s:Ja}{c P:Jg}{q:Str}
abbrev Bb(q:Str)(params:Arguments)(body:Jk)(scope:Scope)(cl:List (Str×Addr))(pm cv ctv:Jf):Obj:={cls:=.type "function",data:=.func (W.kla_fn "<lambda>" q params body scope cl pm cv ctv)}
theorem cU{M:Model}{A:Jc}{E:J6}{Q:J6}{params:Arguments}{body:Jk}{scope:Scope}{cl:List (Str×Addr)}{pos:Pos}(I:Jq X pins σ H s)(lc:RL X.mg X.base c P)(hcode:X.env.code= .ref c)(tb:Mx H P q)
  (hq:X.env.qual++"<lambda>"=q) (hcl:closureFor scope X.env=pure cl) (hdef:defaultsOf params X.env=([],[]))
  (h:∀f c' ctv pm G s1 oc vs t,Jq X pins σ G s1->Nd P H G->H f=none->Mx G P q->G f=some (.frz (Bb q params body scope cl pm (.ref c') ctv) HT)->G c'=some (.frz oc HT)->oc.data= .fields vs->vs[1]?=some (.str q t)->(∀b o,s.heap.get? b=some o->b≠P->s1.heap.get? b=some o)->Q (.ref f) s1):
  wpAny M A (eval (.Lambda params body scope pos) X.env) Q E s:=by
 subst hq;obtain⟨ps,h1,h2,h3⟩:=tb;have hP:s.heap.get? P=some (W.tabObj ps):=I.hok P _ h1;refine W.kla_eval hdef ?_;have fr:∀b o,s.heap.get? b=some o->b < s.heap.objs.size:=fun b o e=>Yf e
 cases hn:codeAmong pos ps.toList with
 |none=>
  refine W.kla_makeFunction (mg:=X.mg) (clos:=cl) hcl I.ok.glob (I.mod.glob.keeps I.bk) hcode (lc.hd.keeps I.bk) hP h2 hn lc.gP (lc.bt.keeps I.bk) fun c' ctv h' tk hx j hlt hrec htb=>?_
  obtain⟨c2,oc,vs,t,e2,hoc,hd,hv⟩:=hrec;cases e2;generalize hf:h'.objs.size=f at*;have nP:∀b,s.heap.objs.size <=b->b≠P:=fun b a z=>by subst z;exact absurd (Yy (Yf hP) a) (Xo _)
  have w:s.heap.objs.size <=f:=YD j (XN hlt);have Hc:H c'=none:=I.hok.fresh j;have g:H f=none:=I.hok.fresh w;have cf:c'≠f:=Yo hlt;have old:∀b o,s.heap.get? b=some o->b≠c'/\b≠f:=fun b o e=>⟨Yo (Yy (fr b o e) j),Yo (Yy (fr b o e) w)⟩
  have keep:∀b o,s.heap.get? b=some o->b≠P->∀v:Obj,(h'.push v).get? b=some o:=fun b o e a v=>Y8 _ (hx b o a e)
  let G:Hp:=upd (upd (upd H P (.tbl (ps++#[rawInt pos.line,rawInt pos.col,.ref c']))) c' (.frz oc HT)) f (.frz (Bb (X.env.qual++"<lambda>") params body scope cl ((X.mg "__name__").getD .none) (.ref c') ctv) HT)
  have Gf:G f=some (.frz (Bb (X.env.qual++"<lambda>") params body scope cl ((X.mg "__name__").getD .none) (.ref c') ctv) HT):=Nb;have Gc:G c'=some (.frz oc HT):=by show upd _ f _ c'=_;rw[JG cf,Nb]
  have GP:G P=some (.tbl (ps++#[rawInt pos.line,rawInt pos.col,.ref c'])):=by show upd _ f _ P=_;rw[JG (Ne.symm (nP f w)),JG (Ne.symm (nP c' j)),Nb]
  have Go:∀b,b≠P->b≠c'->b≠f->G b=H b:=fun b a1 a2 a3=>by show upd _ f _ b=_;rw[JG a3,JG a2,JG a1]
  have i:∀b u,H b=some u->b≠P->G b=some u:=fun b u e a=>by rw[Go b a (fun z=>by subst z;rw[Hc]at e;cases e) (fun z=>by subst z;rw[g]at e;cases e)];exact e
  have hbut:Nd P H G:=fun b u e a=>i b u e a
  have tab':Mx G P (X.env.qual++"<lambda>"):=by
   refine⟨_,GP,?_,fun pos' cv e=>?_⟩
   .have:(ps++#[rawInt pos.line,rawInt pos.col,Value.ref c']).toList=ps.toList++[rawInt pos.line,rawInt pos.col,.ref c']:=by simp
    rw[this];exact TriplesOk_snoc _ _ _ _ h2
   .have:(ps++#[rawInt pos.line,rawInt pos.col,Value.ref c']).toList=ps.toList++[rawInt pos.line,rawInt pos.col,.ref c']:=by simp
    rw[this]at e;rcases xV _ h2 e with e|e
    .obtain⟨c1,oc1,vs1,t1,e1,e2,e3⟩:=h3 pos' cv e;exact⟨c1,oc1,vs1,t1,e1,i _ _ e2 (fun z=>by subst z;rw[h1]at e2;cases e2),e3⟩
    .exact⟨c',oc,vs,t,e,Gc,hd,hv⟩
  refine h f c' ctv _ G _ oc vs t (I.un (t':=tk) ⟨fun b o e n _ _=>keep b o e (fun z=>by subst z;rw[h1]at n;cases n) _,fun b o e n _ _=>⟨o.slots,keep b o e (fun z=>by subst z;rw[h1]at n;cases n) _⟩,fun b o e n _=>?_,fun b o e _=>?_,fun b xs e=>?_,fun b ob u e=>?_,fun b ps' e=>?_⟩ fun b u e=>?_) hbut g tab' Gf Gc hd hv fun b o e a=>keep b o e a _
  .rw[Go b (fun z=>by subst z;rw[h1]at n;cases n) (old b o e).1 (old b o e).2];exact n
  .by_cases a:b=P
   .subst a;exact⟨_,Y8 _ htb⟩
   .exact⟨o,keep b o e a _⟩
  .exact i b _ e (fun z=>by subst z;rw[h1]at e;cases e)
  .exact i b _ e (fun z=>by subst z;rw[h1]at e;cases e)
  .by_cases a:b=P
   .subst a;rw[h1]at e;cases e;exact⟨_,GP⟩
   .exact⟨#[],by rw[i b _ e a];simp⟩
  .by_cases b1:b=f
   .subst b1;rw[Gf]at e;cases e;exact HT.ok (by rw[<-hf];exact Ye _ rfl)
   .by_cases b2:b=c'
    .subst b2;rw[Gc]at e;cases e;exact HT.ok (Y8 _ hoc)
    .by_cases b3:b=P
     .subst b3;rw[GP]at e;cases e;exact Y8 _ htb
     .rw[Go b b3 b2 b1]at e;refine(I.hok b u e).stay (fun b' u' p z=>keep b' u' z (fun r=>?_) _) (fun b' z=>i b' _ z fun r=>by subst r;rw[h1]at z;cases z) fun b' xs z=>i b' _ z fun r=>by subst r;rw[h1]at z;cases z
      rcases p with rfl|p
      .exact b3 r
      .subst r;rw[h1]at p;cases p
 |some cv=>
  obtain⟨c',oc,vs,t,rfl,hc',hd,hv⟩:=h3 pos cv hn;refine W.kla_makeFunctionHit (mg:=X.mg) (clos:=cl) hcl I.ok.glob (I.mod.glob.keeps I.bk) hcode (lc.hd.keeps I.bk) hP h2 hn (lc.bt.keeps I.bk) fun ctv h' tk hk hsz=>?_
  have hk':∀b o,s.heap.get? b=some o->∀v:Obj,(h'.push v).get? b=some o:=fun b o e v=>Y8 _ (hk b o e)
  have g:H h'.objs.size=none:=I.hok.fresh hsz;refine h h'.objs.size c' ctv _ (upd H h'.objs.size (.frz _ HT)) _ oc vs t (I.laid (t':=tk) (fun b u e=>hk' b u e _) hsz (HT.ok (Ye _ rfl))) ((ML g).toBut) g (Mx.same ⟨ps,h1,h2,h3⟩ (ML g)) Nb ?_ hd hv fun b o e _=>hk' b o e _
  exact ML g _ _ hc'
end
def NP(cl:List (Str×Addr))(h:Jj)(H:Hp):Hp:=fun b=>if b∈cl.map (·.2) then(h.get? b).map (fun o=>.frz o HT) else H b
def Rp(cl:List (Str×Addr))(H:Hp):Hp:=fun b=>if b∈cl.map (·.2) then none else H b
theorem Tq.frz{P:J9}{w:Jd}{H:Hp}{h:Jj}{a:Jg}{o:Obj}{u:HO}(x:Tq P w H h)(e:H a=some (.frz o u)):h.get? a=some o:=(x a _ e).1
section
variable{cl:List (Str×Addr)}{h hs hs':Jj}{G H2 Gc:Hp}{fs:List Addr}{P:J9}{w:Jd}
theorem Ml{b:Jg}(n:b∉cl.map (·.2)):NP cl h G b=G b:=Y2 n
theorem EA{b:Jg}(n:b∈cl.map (·.2)):NP cl h G b=(h.get? b).map (fun o=>.frz o HT):=Y3 n
theorem Re{b:Jg}(n:b∉cl.map (·.2)):Rp cl G b=G b:=Y2 n
theorem BR{b:Jg}(n:b∈cl.map (·.2)):Rp cl G b=none:=Y3 n
theorem IJ(hok:Tq P w (NP cl h G) hs)(hc:∀b∈cl.map (·.2),(∃o,h.get? b=some o)/\b∉fs)(u:Un fs [] (Rp cl (NP cl h G)) H2 hs hs'):
  Un fs [] (NP cl h G) (NP cl h H2) hs hs'/\(∀b∈cl.map (·.2),H2 b=none)/\∀B:Heap,(∀b o,hs.get? b=some o->b∉fs->Rp cl (NP cl h G) b=none->B.get? b=some o)->Tq P w H2 B->Tq P w (NP cl h H2) B:=by
 have Th:∀b,b∈cl.map (·.2)->∃o,h.get? b=some o/\hs.get? b=some o/\NP cl h G b=some (.frz o HT):=fun b a=>by
  obtain⟨⟨o,e⟩,_⟩:=hc b a;have q:NP cl h G b=some (.frz o HT):=by rw[EA a,e];rfl
  exact⟨o,e,(hok b _ q).1,q⟩
 have f:∀b,NP cl h G b=none->b∉cl.map (·.2):=fun b e a=>by obtain⟨o,_,_,q⟩:=Th b a;rw[e]at q;cases q
 have g:∀b,NP cl h G b=none->Rp cl (NP cl h G) b=none:=fun b e=>by rw[Re (f b e)];exact e
 have j:∀b∈cl.map (·.2),H2 b=none:=fun b a=>by
  obtain⟨o,_,e,_⟩:=Th b a;exact u.free b o e (BR a) (by simp)
 refine⟨⟨fun b o e n p i=>u.keep b o e (g b n) p i,fun b o e n p i=>u.slot b o e (g b n) p i,fun b o e n i=>?_,u.there,fun b xs e=>?_,fun b v x e=>?_,fun b ps e=>?_⟩,j,fun B hB hk b o e=>?_⟩
 .rw[Ml (f b n)];exact u.free b o e (g b n) i
 .by_cases a:b∈cl.map (·.2)
  .obtain⟨o,_,_,q⟩:=Th b a;rw[e]at q;cases q
  .rw[Ml a]at e ⊢;exact u.tups b xs (by rw[Re a,Ml a];exact e)
 .by_cases a:b∈cl.map (·.2)
  .rw[EA a]at e ⊢;exact e
  .rw[Ml a]at e ⊢;exact u.frzs b v x (by rw[Re a,Ml a];exact e)
 .by_cases a:b∈cl.map (·.2)
  .obtain⟨o,_,_,q⟩:=Th b a;rw[e]at q;cases q
  .rw[Ml a]at e;obtain⟨m,z⟩:=u.tbls b ps (by rw[Re a,Ml a];exact e);exact⟨m,by rw[Ml a];exact z⟩
 .by_cases a:b∈cl.map (·.2)
  .obtain⟨o',e1,e2,q⟩:=Th b a;rw[EA a,e1]at e;cases e;exact HT.ok (hB b o' e2 (hc b a).2 (BR a))
  .rw[Ml a]at e;have s:∀c r,H2 c=some r->c∉cl.map (·.2):=fun c r z hm=>by rw[j c hm]at z;cases z
   exact(hk b o e).stay (fun _ _ _ z=>z) (fun c z=>by rw[Ml (s c _ z)];exact z) fun c xs z=>by rw[Ml (s c _ z)];exact z
theorem vA(hc:∀b∈cl.map (·.2),(∃o,hs.get? b=some o)/\G b=none)(u:Un fs [] (NP cl hs G) H2 hs hs')(hk:Tq P w H2 hs'):Un fs [] G (Rp cl H2) hs hs'/\Tq P w (Rp cl H2) hs':=by
 have Th:∀b,b∈cl.map (·.2)->∃o,hs.get? b=some o/\hs'.get? b=some o/\H2 b=some (.frz o HT):=fun b a=>by
  obtain⟨⟨o,e⟩,_⟩:=hc b a;have q:NP cl hs G b=some (.frz o HT):=by rw[EA a,e];rfl
  have r:=u.frzs b o HT q;exact⟨o,e,(hk b _ r).1,r⟩
 have f:∀b x,G b=some x->b∉cl.map (·.2):=fun b x e a=>by rw[(hc b a).2]at e;cases e
 refine⟨⟨fun b o e n j g=>?_,fun b o e n j g=>?_,fun b o e n g=>?_,u.there,fun b xs e=>?_,fun b ob x e=>?_,fun b ps e=>?_⟩,fun b o e=>?_⟩
 .by_cases a:b∈cl.map (·.2)
  .obtain⟨o',h,p,_⟩:=Th b a;rw[e]at h;cases h;exact p
  .exact u.keep b o e (by rw[Ml a];exact n) j g
 .by_cases a:b∈cl.map (·.2)
  .obtain⟨o',h,p,_⟩:=Th b a;rw[e]at h;cases h;exact⟨o.slots,p⟩
  .exact u.slot b o e (by rw[Ml a];exact n) j g
 .by_cases a:b∈cl.map (·.2)
  .exact BR a
  .rw[Re a];exact u.free b o e (by rw[Ml a];exact n) g
 .have a:=f b _ e;rw[Re a];exact u.tups b xs (by rw[Ml a];exact e)
 .have a:=f b _ e;rw[Re a];exact u.frzs b ob x (by rw[Ml a];exact e)
 .have a:=f b _ e;obtain⟨m,z⟩:=u.tbls b ps (by rw[Ml a];exact e);exact⟨m,by rw[Re a];exact z⟩
 .by_cases a:b∈cl.map (·.2)
  .rw[BR a]at e;cases e
  .rw[Re a]at e;have s:∀c i,H2 c=some i->(∀o',i≠ .frz o' HT)->c∉cl.map (·.2):=fun c i z v hm=>by obtain⟨o',_,_,q⟩:=Th c hm;rw[z]at q;cases q;exact v o' rfl
   exact(hk b o e).stay (fun _ _ _ z=>z) (fun c z=>by rw[Re (s c _ z fun _ q=>by cases q)];exact z) fun c xs z=>by rw[Re (s c _ z fun _ q=>by cases q)];exact z
end
def Et(P:J9)(w:Jd)(K:Je)(mg:J5)(base:Jj)(N':List Str)(q:Str)(scope:Scope)(f:Jg)(cd:Jf)(cl:List (Str×Addr))(A:Jc)(outer:List Env)(s:Ja)(H:Hp)(E:XK):Cx where
 prog:=P
 w:=w
 K:=K
 mg:=mg
 base:=base
 A:=A.deeper (W.envX q scope s.heap.objs.size f cd cl)
 N:=N'
 s₀:=s
 H₀:=H
 env:=W.envX q scope s.heap.objs.size f cd cl
 outer:=outer
 stack:=W.envX q scope s.heap.objs.size f cd cl::outer
 ex:=[]
 calm:=true
 fn:=fun _=>false
 pn:=[]
 xe:=fun e s'=>wpAny (model P w) (A.deeper (W.envX q scope s.heap.objs.size f cd cl)) (leaving (W.envX q scope s.heap.objs.size f cd cl) e) (fun _ s''=>Ke P w outer H s E e s'') (fun e' s''=>Ke P w outer H s E e' s'') s'
def Holds(cl:List (Str×Addr))(h:Jj)(N':List Str)(σ:St):Prop:=∀ (i:Nat) (x:Str) (v:V),N'[i]?=some x->σ[i]?=some (some v)->∃c o u,cl.lookup x=some c/\h.get? c=some o/\o.data= .cell (some u)/\Jz v u
structure SQ(cl:List (Str×Addr))(h:Jj)(scope:Scope):Prop where
 inj:∀x y c,cl.lookup x=some c->cl.lookup y=some c->x=y
 has:∀x,(x,NameKind.free)∈scope.names->∃c,cl.lookup x=some c
 cell:∀b∈cl.map (·.2),∃o v,h.get? b=some o/\o.data= .cell v
theorem Cy{cl:List (Str×Addr)}{x:Str}{c:Jg}(h:cl.lookup x=some c):c∈cl.map (·.2):=Y5.mpr ⟨(x,c),XA h,rfl⟩
theorem KR{env:Env}:∀ (names:List (Str×NameKind)) (cs:List (Str×Addr)),(∀x,(x,NameKind.free)∈names->∃c,env.cells.lookup x=some c)->(∀p∈cs,env.cells.lookup p.1=some p.2)->
  ∃cl,(forIn names cs fun(p:Str×NameKind) (r:List (Str×Addr))=>(match p with|(name,kind)=>(if(kind==NameKind.free)=true then(do let a <-cellOf env name;pure (ForInStep.yield ((name,a)::r))) else pure (ForInStep.yield r)):Sem (ForInStep (List (Str×Addr)))))=pure cl/\∀p∈cl,env.cells.lookup p.1=some p.2
 |[],cs,_,h2=>⟨cs,rfl,h2⟩
 |(n,k)::r,cs,h1,h2=>by
  by_cases hk:k=NameKind.free
  .subst hk;obtain ⟨c, hc⟩ := h1 n YE;obtain ⟨cl, e, a⟩ := KR r ((n, c) :: cs) (fun x b => h1 x (Yp _ b)) (fun p f => by
    rcases Ym.mp f with rfl|f
    .exact hc
    .exact h2 p f)
   refine⟨cl,?_,a⟩;rw[V3];have:cellOf env n=pure c:=by unfold cellOf;rw[hc]
   simp only[this,beq_self_eq_true,if_true];exact e
  .obtain⟨cl,e,a⟩:=KR r cs (fun x b=>h1 x (Yp _ b)) h2;have g:(k==NameKind.free)=false:=by simpa using hk
   refine⟨cl,?_,a⟩;rw[V3];simp only[g,Bool.false_eq_true,if_false];exact e
theorem ZN{scope:Scope}{env:Env}(h:∀x,(x,NameKind.free)∈scope.names->∃c,env.cells.lookup x=some c):
  ∃cl,closureFor scope env=pure cl/\(∀x c,cl.lookup x=some c->env.cells.lookup x=some c)/\(∀x,(x,NameKind.free)∈scope.names->∃c,cl.lookup x=some c)/\∀p∈cl,env.cells.lookup p.1=some p.2:=by
 obtain⟨cl,e,a,b⟩:=Ks h;obtain⟨f,i,n⟩:=KR scope.names [] h (fun p z=>nomatch z);have g:closureFor scope env=pure f:=by
  unfold closureFor;show(forIn scope.names [] _ >>=fun j=>pure j)=pure f;rw[show(forIn scope.names ([]:List (Str×Addr)) _:Sem _)=pure f from i];rfl
 have:(pure cl:Sem (List (Str×Addr)))=pure f:=e.symm.trans g;have z:cl=f:=by injection this
 subst z;exact⟨cl,e,a,b,n⟩
def x6(P:Jg)(q:Str)(params:Arguments)(body:Jk)(scope:Scope)(cl:List (Str×Addr)):TE:=fun _ H Q=>Mx H P q/\∀f c' ctv pm G oc vs t,Nd P H G->H f=none->Mx G P q->G f=some (.frz (Bb q params body scope cl pm (.ref c') ctv) HT)->G c'=some (.frz oc HT)->oc.data= .fields vs->vs[1]?=some (.str q t)->Q (.ref f) G
section
variable{X:Cx}{c P:Jg}{q:Str}{params:Arguments}{body:Jk}{scope:Scope}{cl:List (Str×Addr)}{lpos:Pos}
theorem rY(lc:RL X.mg X.base c P)(hcode:X.env.code= .ref c)(hq:X.env.qual++"<lambda>"=q)(hcl:closureFor scope X.env=pure cl)(hdef:defaultsOf params X.env=([],[])):PE X (.Lambda params body scope lpos) (x6 P q params body scope cl):=by
 intro pins s σ H Q I h;obtain⟨tb,h⟩:=h;exact cU I lc hcode tb hq hcl hdef fun f c' ctv pm G s1 a vs t p o n j i g e b _=>⟨.ref f,G,p,rfl,h f c' ctv pm G a vs t o n j i g e b⟩
variable{fn:Str}{p pos:Pos}{k k1:Nat}{ps:List Str}{sp:Sp}{N':List Str}{caps:List (Option Nat)}{te:XK->TE}{Kd:Addr->Str->Prop}
end
structure GL(K:Je)(x qual:Str)(st:Stmt)(f:Jg)(fd:Jb)(cdv:Jf):Prop where
 ex:∃ (oc:Jf) (od:Option Addr) (kV doc pm:Jf) (an:Option Addr) (ct:Jf) (osl:Array (Option Value)),
  fd=W.fnOf x qual (Df st) (Jy st) (Jl st) .none kV doc pm an cdv ct/\K.lookup f=some ⟨oc,od,.func fd,osl⟩/\W.codeIn K cdv qual=true
theorem GL.ok{P:J9}{w:Jd}{K:Je}{mg:J5}{base:Jj}{x qual:Str}{st:Stmt}{f:Jg}{fd:Jb}{cdv:Jf}{N ps:List Str}{k:Nat}{sp:Sp}(F:GL K x qual st f fd cdv)(S:Nv N ps (Jl st))(len:∀vs H Q E,sp vs H Q E->vs.length=ps.length)
  (hbody : ∀ (A : Around) (outer : List Env) (s : Shared) (H : Hp) (vs : List V) (Q : VK) (E : XK), Room k (A.deeper (envOfC qual (Jl st) s.heap.objs.size f cdv)) -> sp vs H Q E ->
   ∃ t, Dl (Mz N7 P w K mg base N qual (Jl st) f cdv A outer s H E).nox (Jy st) t /\ t { nx := fun _ H' => Q .non H', rt := Q } (start N vs) H) : Ju P w K mg base N7 (k + 1) f fd ps sp := by
 obtain⟨n,j,kV,i,pm,o,ct,g,rfl,c,b⟩:=F.ex;refine EZ c b S len fun A outer s H vs Q E e a=>?_
 obtain⟨t,h,q⟩:=hbody A outer s H vs Q E e a;exact⟨t,h.nox,q⟩
theorem yK{P:J9}{w:Jd}{K:Je}{mg mb:J5}{k:Nat}{fa a c T:Jg}{fd:Jb}{x:Str}{sp:Sp}{s₁:Ja}{vs:Ji}{ns:Jh}
  (KX:K.In s₁.heap) (hns:s₁.heap.Ns mainGlobals mg) (hb:s₁.heap.Ns builtinsNs mb) (hbb:∀x:Str,x≠"__name__"->mb x=bootBuiltins x) (hlim:s₁.heap.NoLimit) (hg:s₁.gens=#[])
  (hbm:∃bm ob,mg "__builtins__"=some (.ref bm)/\bm≠builtinsNs/\s₁.heap.get? bm=some ob/\ob.cls= .type "module"/\ob.dict=some builtinsNs/\ob.data= .plain)
  (hcd:W.CodeHd s₁.heap c T) (hT:s₁.heap.get? T=some (W.tabObj #[])) (hKT:K.lookup T=none)
  (ha:s₁.heap.get? a=some {cls:=.type "list",data:=.seq vs.toArray}) (hi:IntsAre vs ns) (hl:ns.length <=sizeLine) (hr:Room k callerA)
  (F:∀base:Heap,K.In base->base.Ns mainGlobals mg->RL mg base c T->Ju P w K mg base N7 k fa fd [x] sp) (hbind:∀ (s:Ja) (u:Jf),BindsTo s fd ⟨[u],[]⟩ [(x,u)])
  (hsp:∀H:Hp,H T=some (.tbl #[])->JA K H a (ns.map V.int)->sp [.ref a] H (fun v _=>v= .bl true) fun _ _ _=>False):
  codeAny (model P w) callerA (.call (.ref fa) ⟨[.ref a],[]⟩) (fun r s'=>r= .ok (.ret (.bool true))/\OldK s₁.heap s'.heap/\s'.os=s₁.os/\AllBare s'.gens) s₁:=by
 have rv:=QH hi;have lenV:=hi.length;have aT:a≠T:=fun z=>by subst z;rw[ha]at hT;cases hT
 obtain⟨bm,ob,m1,m2,m3,m4,m5,m6⟩:=hbm;have core:∀H:Hp,(∀b,H b=none\/(∃o xs,H b=some (.frz o (.lst xs)))\/b=T)->H T=some (.tbl #[])->JA K H a (ns.map V.int)->Tq P w H s₁.heap->(∀b,H b≠none->b=a\/b=T)->(H a≠none->K.lookup a=none)->
   codeAny (model P w) callerA (.call (.ref fa) ⟨[.ref a],[]⟩) (fun r s'=>r= .ok (.ret (.bool true))/\OldK s₁.heap s'.heap/\s'.os=s₁.os/\AllBare s'.gens) s₁:=by
  intro H hO hHT hS hok hA hK;have f:∀{b:Jg} {o:Obj},s₁.heap.get? b=some o->H b=none->(E2 s₁.heap H).get? b=some o:=fun e n=>aA e n
  have no2:∀{b:Jg} {o:Obj},s₁.heap.get? b=some o->o.cls≠ .type "list"->o.cls≠ .none->H b=none:=fun {b o} e n1 n2=>by
   cases q:H b with
   |none=>rfl
   |some u=>
    rcases hA b (by rw[q];simp) with e'|e'
    .subst e';rw[ha]at e;cases e;exact absurd rfl n1
    .subst e';rw[hT]at e;cases e;exact absurd rfl n2
  have noA:∀{b:Jg} {o:Obj} {es:Array DictEntry} {ep:Nat},s₁.heap.get? b=some o->o.data= .dict es ep->H b=none:=fun {b o es ep} e d=>by
   cases q:H b with
   |none=>rfl
   |some u=>
    rcases hA b (by rw[q];simp) with e'|e'
    .subst e';rw[ha]at e;cases e;have d':Data.seq vs.toArray _=Data.dict es ep:=d;cases d'
    .subst e';rw[hT]at e;cases e;have d':Data.fields #[]=Data.dict es ep:=d;cases d'
  have j:∀{b:Jg} {m:J5},s₁.heap.Ns b m->(E2 s₁.heap H).Ns b m:=fun {b m} zz=>by rcases zz with⟨o,es,ep,e,d,r⟩;exact ⟨o,es,ep,f e (noA e d),d,r⟩
  have hKb : K.In (E2 s₁.heap H) := fun b o e => f (KX b o e) (by
   cases q:H b with
   |none=>rfl
   |some u=>
    rcases hA b (by rw[q];simp) with e'|e'
    .subst e';rw[hK (by rw[q];simp)]at e;cases e
    .subst e'; rw [hKT] at e; cases e)
  have hM:Mod K mg (E2 s₁.heap H):=⟨hKb,j hns,⟨mb,j hb,hbb⟩,let ⟨mc,h1,h2⟩:=hlim;⟨mc,j h1,h2⟩⟩;have gT:mainGlobals≠T:=fun z=>by
   obtain⟨o,es,ep,e,d,_⟩:=hns;rw[z,hT]at e;cases e;cases d
  have hLC:RL mg (E2 s₁.heap H) c T:=by
   refine⟨?_,gT,bm,ob,m1,m2,?_,?_,f m3 (no2 m3 (by rw[m4];nofun) (by rw[m4];nofun)),m4,m5,m6⟩
   .obtain⟨o,ws,file,tf,flags,tg,inF,text,tt,e1,e2,r⟩:=hcd;exact⟨o,ws,file,tf,flags,tg,inF,text,tt,f e1 (no2 e1 (by rw[e2];nofun) (by rw[e2];nofun)),e2,r⟩
   .intro z;obtain⟨o,es,ep,e,d,_⟩:=hns;rw[<-z,m3]at e;cases e;rw[m6]at d;cases d
   .intro z;rw[z,hT]at m3;cases m3;cases m4
  have e0:DG P w K mg (E2 s₁.heap H) callerA [] s₁ H:=⟨rfl,hM,fun b o e=>jV e,J0 (cO _ _),trivial,fun b hb=>absurd (show b∈([]:List Addr) from hb) (by simp),hok,.of_eq hg⟩;refine UK ((F _ hKb (j hns) hLC).run callerA [] s₁ H ⟨[.ref a],[]⟩ [.ref a] [.ref a] _ _ hr e0 (hbind s₁ (.ref a)) (.cons rfl .nil) (hsp H hHT hS)) fun r s' h=>?_
  cases r with
  |error e=>exact h.elim
  |ok fl=>
   cases fl with
   |next=>exact False.elim h
   |brk=>exact False.elim h
   |cont=>exact False.elim h
   |ret u=>
    obtain⟨v,H',os,bare,un,hok',r',q⟩:=h;have q':v= .bl true:=q;subst q';obtain rfl:u=Value.bool true:=r';have kp:∀b o,s₁.heap.get? b=some o->b≠T->s'.heap.get? b=some o:=fun b o e g=>by
     cases q:H b with
     |none=>exact un.keep b o e q (by intro z;exact absurd (show b∈([]:List Addr) from z) (by simp)) (by simp)
     |some u=>
      rcases hO b with z|⟨ob,xs,z⟩|z
      .rw[q]at z;cases z
      .have z2:=un.frzs b ob _ z;obtain⟨e1,_⟩:=hok b _ z;obtain⟨e2,_⟩:=hok' b _ z2;rw[e]at e1;cases e1;exact e2
      .exact absurd z g
    obtain⟨p,hm⟩:=un.tbls T _ hHT;have hT':s'.heap.get? T=some (W.tabObj (#[]++p)):=hok' T _ hm;refine⟨rfl,⟨fun b o e=>?_,fun b o e=>?_⟩,os,bare⟩
    .by_cases g:b=T
     .subst g;rw[hT]at e;cases e;exact .inr (.inl ⟨(hcd.tab hT).isCodeTable,rfl,#[],p,rfl,hT'⟩)
     .exact .inl (kp b o e g)
    .by_cases g:b=T
     .subst g;exact⟨_,hT'⟩
     .exact⟨o,kp b o e g⟩
 have okT:∀H:Hp,JF P w H s₁.heap T (.tbl #[]):=fun H=>hT
 cases hk:K.lookup a with
 |some o=>
  have e:=KX a o hk;rw[ha]at e;cases e;refine core (fun b=>if b=T then some (.tbl #[]) else none) (fun b=>?_) (Y3 rfl) (.inr ⟨_,vs.toArray,_,hk,rfl,rfl,rfl,by rw[Yj,lenV];exact hl,by simpa using rv⟩) (fun b u z=>?_) (fun b z=>?_) fun z=>absurd (Y2 aT) z
  .by_cases h:b=T
   .exact .inr (.inr h)
   .exact .inl (Y2 h)
  .by_cases h:b=T
   .have i:=(Y3 h).symm.trans z;cases i;subst h;exact okT _
   .have i:=(Y2 h).symm.trans z;cases i
  .by_cases h:b=T
   .exact .inr h
   .exact absurd (Y2 h) z
 |none=>
  refine core (fun b=>if b=T then some (.tbl #[]) else if b=a then some (.frz {cls:=.type "list",data:=.seq vs.toArray} (.lst (ns.map V.int))) else none) (fun b=>?_) (Y3 rfl) (.inl (.inr ⟨{cls:=.type "list",data:=.seq vs.toArray},(Y2 aT).trans (Y3 rfl)⟩)) (fun b u z=>?_) (fun b z=>?_) fun _=>hk
  .by_cases h:b=T
   .exact .inr (.inr h)
   .by_cases hb:b=a
    .exact .inr (.inl ⟨_,_,(Y2 h).trans (Y3 hb)⟩)
    .exact .inl ((Y2 h).trans (Y2 hb))
  .by_cases h:b=T
   .have i:=(Y3 h).symm.trans z;cases i;subst h;exact okT _
   .by_cases hb:b=a
    .have i:=((Y2 h).trans (Y3 hb)).symm.trans z;cases i;subst hb;exact⟨ha,by rw[Y1];exact hl,vs,_,rv,ha⟩
    .have i:=((Y2 h).trans (Y2 hb)).symm.trans z;cases i
  .by_cases h:b=T
   .exact .inr h
   .by_cases hb:b=a
    .exact .inl hb
    .exact absurd ((Y2 h).trans (Y2 hb)) z
theorem j0{K:Je}{h:Jj}{T:Jg}(KX:K.In h)(hT:h.get? T=some (W.tabObj #[]))(hK:W.noTabs K=true):K.lookup T=none:=by
 cases e:K.lookup T with
 |none=>rfl
 |some o=>
  have z:=KX T o e;rw[hT]at z;cases z;have h2:=XB.mp hK (T,W.tabObj #[]) (W.mem_of_lookupK e);cases h2
theorem gO{K:Je}{x:Str}{f c T:Jg}{oc oc':Jf}{od od':Option Addr}{fd:Jb}{sl sl':Array (Option Value)}{vs:Array Value}(h1:W.nsIn K mainGlobals x=some (some (.ref f)))(h2:K.lookup f=some ⟨oc,od,.func fd,sl⟩)(h3:fd.code= .ref c)
  (h4:K.lookup c=some ⟨oc',od',.fields vs,sl'⟩) (h5:vs[11]?=some (.ref T)):W.tabIn K x=some (c,T):=by
 unfold W.tabIn;simp only[h1,h2,h3,h4,h5]
structure HX(K:PySem.W.Frag)(W:Jg)(cs:List Addr)(C:Jg)(i:Nat):Prop where
 e:vU K C
 w:PySem.W.mroIn K C (.ref W)=some true
 v:PySem.W.kitOne K (.ref C) (.type "ValueError")=some true
 k:∀j c,cs[j]?=some c->PySem.W.kitOne K (.ref C) (.ref c)=some (decide (j=i))
def RY:List Str:=["letter","piece","width","wide","rule","time","key","text","row","room","road"]
def Kd(K:PySem.W.Frag)(W:Jg)(cs:List Addr)(C:Jg)(wd:Str):Prop:=∃i,HX K W cs C i/\RY[i]?=some wd
theorem Oi{K:Je}{C1 C2:Jg}{b:Bool}{x:Jf}{r:Bool}(h1:W.mroIn K C1 (.ref C2)=some b)(h2:W.typeIn K (.ref C2)=some (.type "type"))(h3:W.mroIn K C2 x=some r)(hs:W.mroIn K C1 (.ref C1)=some true):W.kitOne K (.ref C1) (.ref C2)=some b:=by
 unfold W.kitOne
 by_cases e:C1=C2
 .subst e;rw[h1]at hs;rw[Y3 (by simp),<-hs]
 .rw[Y2 (by simpa using e)];show(if((W.clsIn K C2).isSome && W.typeIn K (.ref C2)==some (.type "type"))=true then W.subIn K (.ref C1) (.ref C2) else none)=some b;have a:(W.clsIn K C2).isSome=true:=by
   unfold W.mroIn at h3;cases hq:W.clsIn K C2 with
   |none=>rw[hq]at h3;cases h3
   |some cd=>rfl
  rw[a,h2];exact h1
theorem AX{l:W.OpenLaw}{n k:Nat}{q:J9}{loose:List Str}{XP:(Str->Option Value)->Heap->Prop}{YP:World->Heap->Prop}{d:DefRec}{K:Params->W.Frag}{sp:World->Addr->Sp}{x y:Str}{d2:DefRec}
  (hn:l.most=some n) (hn2:n <=sizeLine) (hdf:d.params.defaults=[]) (hr:Room k callerA)
  (hY:∀ (w:Jd) (h:Jj),YP w h->(K w.params).In h)
  (hrec:(recsOf q).find? (fun e=>e.name==y)=some d2)
  (F : ∀ (w : World) (mg : Str -> Option Value) (fa : Addr) (h : Heap), (K w.params).In h -> h.Ns mainGlobals mg -> mg d.name = some (.ref fa) ->
   ∃ (c T:Jg) (fd:Jb),W.tabIn (K w.params) y=some (c,T)/\W.noTabs (K w.params)=true/\(∀ (s:Ja) (u:Jf),BindsTo s fd ⟨[u],[]⟩ [(x,u)])/\
    ∀ base : Heap, (K w.params).In base -> base.Ns mainGlobals mg -> RL mg base c T -> Ju l.prog w (K w.params) mg base N7 k fa fd [x] (sp w T))
  (hsp:∀ (w:Jd) (T:Jg) (H:Hp) (a:Jg) (ns:Jh),ns.length <=n->H T=some (.tbl #[])->JA (K w.params) H a (ns.map V.int)->sp w T [.ref a] H (fun v _=>v= .bl true) fun _ _ _=>False):
  W.WalkO q loose XP YP l.row.toRowW d [] (fun f vs=>PySem.call f vs):=by
 refine Att.attach_call hn hdf fun w s₀ s₁ mg mb fa o pm cd doc a vs ns G Y ho hd hcd hmg z j i hg=>?_
 have p:=hY w _ Y;obtain⟨c,T,fd,r,hnt,hb,hF⟩:=F w mg fa _ p G.T.g hmg;obtain⟨t1,t2⟩:=W.tab_of (x:=y) G.T p hrec r;exact yK p G.T.g G.T.b G.T.builtins G.T.nolimit hg G.T.bmain t1 t2 (j0 p t2 hnt) z j (YD i hn2) hr hF hb (fun H h1 hS=>hsp w T H a ns i h1 hS)
def B6(X:Cx)(scope:Scope)(cl:List (Str×Addr)):Prop:=(∀x c,cl.lookup x=some c->X.env.cells.lookup x=some c)/\(∀x,(x,NameKind.free)∈scope.names->∃c,cl.lookup x=some c)/\∀p∈cl,X.env.cells.lookup p.1=some p.2
def D5(X:Cx)(q:Str)(params:Arguments)(body:Jk)(scope:Scope)(H:Hp)(f:Jg):Prop:=∃cl c' ctv pm oc vs t,B6 X scope cl/\H f=some (.frz (Bb q params body scope cl pm (.ref c') ctv) HT)/\H c'=some (.frz oc HT)/\oc.data= .fields vs/\vs[1]?=some (.str q t)
section
variable{X:Cx}{c P:Jg}{q:Str}{params:Arguments}{body:Jk}{scope:Scope}{lpos:Pos}{H G:Hp}{f:Jg}
theorem D5.of(c:D5 X q params body scope H f)(h:∀b oc,H b=some (.frz oc HT)->G b=some (.frz oc HT)):D5 X q params body scope G f:=by
 obtain⟨cl,c',ctv,pm,oc,vs,t,g,h1,h2,e,a⟩:=c;exact⟨cl,c',ctv,pm,oc,vs,t,g,h _ _ h1,h _ _ h2,e,a⟩
def QU(X:Cx)(P:Jg)(q:Str)(params:Arguments)(body:Jk)(scope:Scope):TE:=fun _ H Q=>Mx H P q/\∀f G,H f=none->Nd P H G->Mx G P q->D5 X q params body scope G f->Q (.ref f) G
theorem nF(lc:RL X.mg X.base c P)(hcode:X.env.code= .ref c)(hq:X.env.qual++"<lambda>"=q)(vis:∀x,(x,NameKind.free)∈scope.names->X.env.kindOf x=some .cell\/X.env.kindOf x=some .free)(hdef:defaultsOf params X.env=([],[])):
  PE X (.Lambda params body scope lpos) (QU X P q params body scope):=by
 intro pins s σ H Q I h;obtain⟨tb,h⟩:=h;obtain⟨cl,g,e,b,a⟩:=ZN (scope:=scope) (env:=X.env) fun x j=>I.ok.has x (vis x j)
 exact rY lc hcode hq g hdef pins s σ H Q I ⟨tb,fun f c' ctv pm G i vs t z w v r p o n=>h f G w z v ⟨cl,c',ctv,pm,i,vs,t,⟨e,b,a⟩,r,p,o,n⟩⟩
end
section
variable{X:Cx}{q:Str}{params:Arguments}{body:Jk}{scope:Scope}{H G:Hp}{f:Jg}{N':List Str}{caps:List (Option Nat)}{te:XK->TE}{k:Nat}{σ:St}{pins:J8}{s1 s2:Ja}{cl:List (Str×Addr)}
theorem d6(I1:Jq X pins σ G s1)(hfn:∀x,X.fn x=true)(cX:∀b∈cl.map (·.2),∃x,X.env.cells.lookup x=some b):DG X.prog X.w X.K X.mg X.base X.A X.stack s1 (NP cl s1.heap G):=by
 have cab:∀b∈cl.map (·.2),X.s₀.heap.objs.size <=b:=fun b a=>by
  obtain⟨x,f⟩:=cX b a;exact I1.ok.cab x b (hfn x) f
 have h:∀b∈cl.map (·.2),G b=none:=fun b a=>by
  obtain⟨x,f⟩:=cX b a;exact I1.freeC x b f
 have i:∀b x,G b=some x->b∉cl.map (·.2):=fun b x e a=>by rw[h b a]at e;cases e
 have c:=I1.env0;have j:∀b,b < X.s₀.heap.objs.size->b∉cl.map (·.2):=fun b a g=>absurd (Yy a (cab b g)) (Xo _)
 refine⟨c.frames,c.mod,fun b o e=>⟨(c.bs b o e).1,?_⟩,c.bsz,c.funs,fun b a=>?_,fun b o e=>?_,c.bare⟩
 .rw[Ml (j b (Yy (Yf e) I1.ok.bsz))];exact(c.bs b o e).2
 .rw[Ml ?_]
  .exact c.frf b a
  .intro g;obtain⟨x,f⟩:=cX b g;rcases Ym.mp (I1.stkSub b a) with z|z
   .exact I1.cne x b f z
   .obtain⟨_,o,p,_⟩:=I1.ok.funs.mem z;exact j b (Yf p) g
 .by_cases a:b∈cl.map (·.2)
  .obtain⟨x,f⟩:=cX b a;obtain⟨v,o',n,q⟩:=I1.cell x b f;rw[EA a,n]at e;cases e;exact HT.ok n
  .rw[Ml a]at e;exact(I1.hok b o e).stay (fun _ _ _ z=>z) (fun d z=>by rw[Ml (i d _ z)];exact z) fun d xs z=>by rw[Ml (i d _ z)];exact z
theorem ZK(I1:Jq X pins σ G s1)(cX:∀b∈cl.map (·.2),∃x,X.env.cells.lookup x=some b){Q:VK}{u:Jf}(h:CE X.stack X.prog X.w (NP cl s1.heap G) s1 (fun v G'=>Q v (Rp cl G')) u s2):CE X.stack X.prog X.w G s1 Q u s2:=by
 obtain ⟨v, H', j, i, g, f, e, c⟩ := h;obtain ⟨o, n⟩ := vA (fun b p => by
  obtain ⟨x, a⟩ := cX b p;obtain ⟨v, o', q, r⟩ := I1.cell x b a;exact ⟨⟨o', q⟩, I1.freeC x b a⟩) g f
 exact⟨v,Rp cl H',j,i,o,n,e,c⟩
theorem yG{h:Jj}{H2:Hp}(e:∀b∈cl.map (·.2),H2 b=none):Rp cl (NP cl h H2)=H2:=by
 funext b
 by_cases hb:b∈cl.map (·.2)
 .rw[BR hb,e b hb]
 .rw[Re hb,Ml hb]
end
end L2
namespace L2
open PySem PySem.Spec PyProof.Rows PySem.W
abbrev Ky:=Int×Str×Str
def DP(a b:Str):Bool:=decide (a.cps.toList < b.cps.toList)
theorem Fo(a:Str):DP a a=false:=Yz (List.lt_irrefl _)
theorem Zo{a b c:Str}(h1:DP a b=true)(h2:DP b c=true):DP a c=true:=Yt (List.lt_trans (UG h1) (UG h2))
theorem P5{a b c:Str}(h:DP a c=true):DP a b=true\/DP b c=true:=by
 by_cases h1:a.cps.toList < b.cps.toList
 .exact .inl (Yt h1)
 .exact .inr (Yt (List.lt_of_le_of_lt (J3.mp h1) (UG h)))
theorem Kw{a b:Str}(h1:DP a b=false)(h2:DP b a=false):a=b:=by
 have e:=List.le_antisymm (J3.mp (VU h2)) (J3.mp (VU h1));cases a;cases b;simp only[PySem.Str.mk.injEq];exact Wo.mp e
theorem yQ{a b:Str}(h:DP a b=true):a≠b:=fun e=>by rw[e,Fo]at h;cases h
def Mj(a b:Ky):Bool:=if a.1=b.1 then(if a.2.1=b.2.1 then DP a.2.2 b.2.2 else DP a.2.1 b.2.1) else decide (a.1 < b.1)
theorem TV{a b:Ky}:Mj a b=true↔a.1 < b.1\/a.1=b.1/\(DP a.2.1 b.2.1=true\/a.2.1=b.2.1/\DP a.2.2 b.2.2=true):=by
 unfold Mj
 by_cases h1:a.1=b.1
 .rw[Y3 h1]
  by_cases h2:a.2.1=b.2.1
  .rw [Y3 h2];exact ⟨fun h => .inr ⟨h1, .inr ⟨h2, h⟩⟩, fun h => by
    rcases h with h|⟨_,h|⟨_,h⟩⟩
    .lia
    .exact absurd h2 (yQ h)
    .exact h⟩
  .rw [Y2 h2];exact ⟨fun h => .inr ⟨h1, .inl h⟩, fun h => by
    rcases h with h|⟨_,h|⟨h,_⟩⟩
    .lia
    .exact h
    .exact absurd h h2⟩
 .rw[Y2 h1,Yd];exact⟨.inl,fun h=>h.elim id fun z=>absurd z.1 h1⟩
theorem Pa{a b c:Ky}(h:Mj a c=true):Mj a b=true\/Mj b c=true:=by
 rw[TV]at*;rw[TV]
 by_cases h1:a.1 < b.1
 .exact .inl (.inl h1)
 .by_cases h2:b.1 < c.1
  .exact .inr (.inl h2)
  .rcases h with h|⟨e,h⟩
   .lia
   .have g:a.1=b.1:=by lia
    have f:b.1=c.1:=by lia
    rcases h with h|⟨e3,h⟩
    .rcases P5 (b:=b.2.1) h with h|h
     .exact .inl (.inr ⟨g,.inl h⟩)
     .exact .inr (.inr ⟨f,.inl h⟩)
    .by_cases e4:a.2.1=b.2.1
     .rcases P5 (b:=b.2.2) h with h|h
      .exact .inl (.inr ⟨g,.inr ⟨e4,h⟩⟩)
      .exact .inr (.inr ⟨f,.inr ⟨by rw[<-e4];exact e3,h⟩⟩)
     .cases h3:DP a.2.1 b.2.1 with
      |true=>exact .inl (.inr ⟨g,.inl rfl⟩)
      |false=>
       cases h4:DP b.2.1 a.2.1 with
       |true=>exact .inr (.inr ⟨f,.inl (by rw[<-e3];exact h4)⟩)
       |false=>exact absurd (Kw h3 h4) e4
theorem Qj{a b c:Ky}(h1:Mj a b=true)(h2:Mj b c=true):Mj a c=true:=by
 rw[TV]at*;rcases h1 with h1|⟨e1,h1⟩
 .rcases h2 with h2|⟨e2,h2⟩
  .exact .inl (by lia)
  .exact .inl (by lia)
 .rcases h2 with h2|⟨e2,h2⟩
  .exact .inl (by lia)
  .refine .inr ⟨by lia,?_⟩;rcases h1 with h1|⟨f1,h1⟩
   .rcases h2 with h2|⟨f2,h2⟩
    .exact .inl (Zo h1 h2)
    .exact .inl (by rw[<-f2];exact h1)
   .rcases h2 with h2|⟨f2,h2⟩
    .exact .inl (by rw[f1];exact h2)
    .exact .inr ⟨f1.trans f2,Zo h1 h2⟩
theorem Ff(a:Ky):Mj a a=false:=by
 unfold Mj;rw[Y3 rfl,Y3 rfl];exact Fo _
theorem HH{a b:Ky}(h1:Mj a b=false)(h2:Mj b a=false):a=b:=by
 have f:=fun z=>Yg (h1.symm.trans (TV.mpr z))
 have e:=fun z=>Yg (h2.symm.trans (TV.mpr z))
 have c:a.1=b.1:=by
  rcases Int.lt_trichotomy a.1 b.1 with h|h|h
  .exact absurd (.inl h) f
  .exact h
  .exact absurd (.inl h) e
 have g:a.2.1=b.2.1:=Kw (X6.mpr fun z=>f (.inr ⟨c,.inl z⟩)) (X6.mpr fun z=>e (.inr ⟨c.symm,.inl z⟩));have i:a.2.2=b.2.2:=Kw (X6.mpr fun z=>f (.inr ⟨c,.inr ⟨g,z⟩⟩)) (X6.mpr fun z=>e (.inr ⟨c.symm,.inr ⟨g.symm,z⟩⟩));exact Ui c (Ui g i)
def Sy:KeyOrd:=⟨Ky,Mj,Ff,fun _ _ _=>Qj,fun _ _ _=>Pa,fun _ _=>HH⟩
def JS(a b:Int×Ky):Bool:=if a.1=b.1 then Mj a.2 b.2 else decide (a.1 < b.1)
theorem To{a b:Int×Ky}:JS a b=true↔a.1 < b.1\/a.1=b.1/\Mj a.2 b.2=true:=by
 unfold JS
 by_cases h:a.1=b.1
 .rw[Y3 h];exact⟨fun z=>.inr ⟨h,z⟩,fun z=>z.elim (fun q=>by lia) fun q=>q.2⟩
 .rw[Y2 h,Yd];exact⟨.inl,fun z=>z.elim id fun q=>absurd q.1 h⟩
def Gs:KeyOrd where
 α:=Int×Ky
 blt:=JS
 irrefl a:=by unfold JS;rw[Y3 rfl];exact Ff _
 trans a b c h1 h2:=by
  rw[To]at*;rcases h1 with h1|⟨e1,h1⟩
  .rcases h2 with h2|⟨e2,h2⟩
   .exact .inl (by lia)
   .exact .inl (by lia)
  .rcases h2 with h2|⟨e2,h2⟩
   .exact .inl (by lia)
   .exact .inr ⟨by lia,Qj h1 h2⟩
 negTrans a b c h:=by
  rw[To]at*;rw[To]
  by_cases h1:a.1 < b.1
  .exact .inl (.inl h1)
  .by_cases h2:b.1 < c.1
   .exact .inr (.inl h2)
   .rcases h with h|⟨e,h⟩
    .lia
    .rcases Pa (b:=b.2) h with h|h
     .exact .inl (.inr ⟨by lia,h⟩)
     .exact .inr (.inr ⟨by lia,h⟩)
 total a b h1 h2:=by
  have n1:=fun z=>Yg (h1.symm.trans (To.mpr z))
  have n2:=fun z=>Yg (h2.symm.trans (To.mpr z))
  have e1:a.1=b.1:=by
   rcases Int.lt_trichotomy a.1 b.1 with h|h|h
   .exact absurd (.inl h) n1
   .exact h
   .exact absurd (.inl h) n2
  exact Ui e1 (HH (X6.mpr fun z=>n1 (.inr ⟨e1,z⟩)) (X6.mpr fun z=>n2 (.inr ⟨e1.symm,z⟩)))
end L2
namespace HT
open PySem PyProof.Rows
def ltK:Int ⊕ Str->Int ⊕ Str->Bool
 | .inl a,.inl b=>decide (a < b)
 | .inr a,.inr b=>decide (a.cps.toList < b.cps.toList)
 |_,_=>false
def lexK:List (Int ⊕ Str)->List (Int ⊕ Str)->Bool
 |[],[]=>false
 |[],_::_=>true
 |_::_,[]=>false
 |x::xs,y::ys=>if x=y then lexK xs ys else ltK x y
inductive MB:List Value->List (Int ⊕ Str)->Prop where
 |nil:MB [] []
 |int (a:Int) (t:Tok) {vs ks}:MB vs ks->MB (.int a t::vs) (.inl a::ks)
 |str (a:Str) (t:Tok) {vs ks}:MB vs ks->MB (.str a t::vs) (.inr a::ks)
theorem MB.length{vs:Ji}{ks:List (Int ⊕ Str)}(h:MB vs ks):vs.length=ks.length:=by
 induction h with
 |nil=>rfl
 |int _ _ _ ih=>simp[ih]
 |str _ _ _ ih=>simp[ih]
inductive EW:List (Int ⊕ Str)->List (Int ⊕ Str)->Prop where
 |nil:EW [] []
 |int (a b:Int) {ks js}:EW ks js->EW (.inl a::ks) (.inl b::js)
 |str (a b:Str) {ks js}:EW ks js->EW (.inr a::ks) (.inr b::js)
theorem Z2(x y:Int ⊕ Str)(xs ys):lexK (x::xs) (y::ys)=if x=y then lexK xs ys else ltK x y:=rfl
theorem y9(A:Jc)(s:Ja)(a:Str)(t:Tok)(c:Str)(u:Tok):∃e,SeqAt.EqAt A s (.str a t) (.str c u) e/\(e=true↔a=c):=
 ⟨(a==c),SeqAt.EqAt.str_str a t c u,by simp⟩
theorem gZ(A:Jc)(s:Ja)(a:Str)(t:Tok)(c:Str)(u:Tok)(prog:J9)(w:Jd)(E:J6)(Q:J6)(h:Q (.bool (decide (a.cps.toList < c.cps.toList))) s):
  wpAny (model prog w) A (richCompare .Lt (.str a t) (.str c u)) Q E s:=
 (WV h:wpAny (model prog w) A (compareOp .Lt (.str a t) (.str c u)) Q E s)
section
open PySem.SeqAt
open PySem.AutoSeq1 (wpAny_loadPart')
open PySem.MeetsSeq PySem.MeetsSeq2 PySem.MeetsSeq3
theorem jY(l b:Jg)(items items2:Array Value)(n n2:Nat)(dd dd2:Option Addr)(sl sl2:Array (Option Value))(ns ms:List (Int ⊕ Str))(hi:MB items.toList ns)(hj:MB items2.toList ms)(hsh:EW ns ms):
  Meets (Builtin.«tuple.__lt__» ⟨[.ref l,.ref b],[]⟩)
   (fun _ R s => s.heap.get? l = some { cls := .type "tuple", dict := dd, data := .seq items n, slots := sl } /\ s.heap.get? b = some { cls := .type "tuple", dict := dd2, data := .seq items2 n2, slots := sl2 } /\
    R (.ok (.ret (.bool (lexK ns ms)))) s) :=
 .of_wp fun prog w A R s h=>by
  obtain⟨j,g,d,tk,i⟩:=s;obtain⟨v,z,h⟩:=h;have f2:=AutoSeq1.sub_tuple_tuple;have z1:items.size=ns.length:=by rw[<-hi.length];simp
  have z2:items2.size=ms.length:=by rw[<-hj.length];simp
  wp_walk using Xq v, Xq z, wpAny_forIn_list _ (fun rest b s' => b.1 = none /\ s' = ⟨j, g, d, tk, i⟩ /\ ∃ (vs ws : List Value) (ns' ms' : List (Int ⊕ Str)), rest = vs.zip ws /\
   MB vs ns' /\ MB ws ms' /\ EW ns' ms' /\ ns'.length + items2.size = ms'.length + items.size /\ R (.ok (.ret (.bool (lexK ns' ms')))) ⟨j, g, d, tk, i⟩) _
  case turn=>
   rintro⟨y,x⟩ rest b s' ⟨hb',rfl,vs,ws,ns',ms',hz,hvi,hwi,hsh',hlen,hR⟩;cases hsh' with
   |nil=>
    cases hvi;rw[List.zip_nil_left]at hz;cases hz
   |int a c hs=>
    cases hvi with
    |int _ t hvi'=>
    cases hwi with
    |int _ u hwi'=>
     rw[Va]at hz;injection hz with hyx hrest;injection hyx with hy hx;subst hy hx;rw[Z2]at hR;simp only[List.length_cons]at hlen;obtain⟨e,p,f⟩:=eqAt_int A.in1 ⟨j,g,d,tk,i⟩ a t c u;refine Y0 (p prog w _ _ ?_);cases e with
     |true=>
      rw[Y3 (YR Sum.inl (f.mp rfl))]at hR
      wp_walk
      exact⟨rfl,rfl,_,_,_,_,hrest,hvi',hwi',hs,by lia,hR⟩
     |false=>
      rw[Y2 (fun q=>absurd (f.mpr (Vk q)) Yg)]at hR;have o:=rcLt_int A.in1 ⟨j,g,d,tk,i⟩ a t c u prog w
      wp_walk using o
      exact⟨_,rfl,by simpa[ltK] using hR⟩
   |str a c hs=>
    cases hvi with
    |str _ t hvi'=>
    cases hwi with
    |str _ u hwi'=>
     rw[Va]at hz;injection hz with hyx hrest;injection hyx with hy hx;subst hy hx;rw[Z2]at hR;simp only[List.length_cons]at hlen;obtain⟨e,p,f⟩:=y9 A.in1 ⟨j,g,d,tk,i⟩ a t c u;refine Y0 (p prog w _ _ ?_);cases e with
     |true=>
      rw[Y3 (YR Sum.inr (f.mp rfl))]at hR
      wp_walk
      exact⟨rfl,rfl,_,_,_,_,hrest,hvi',hwi',hs,by lia,hR⟩
     |false=>
      rw[Y2 (fun q=>absurd (f.mpr (Sum.inr.inj q)) Yg)]at hR;have o:=gZ A.in1 ⟨j,g,d,tk,i⟩ a t c u prog w
      wp_walk using o
      exact⟨_,rfl,by simpa[ltK] using hR⟩
  case fin=>
   rintro⟨b1,b2⟩ s' ⟨hb',rfl,vs,ws,ns',ms',hz,hvi,hwi,hsh',hlen,hR⟩;simp only at hb';subst hb';have r:lexK ns' ms'=decide (items.size < items2.size):=by
    cases hsh' with
    |nil=>
     simp only[List.length_nil]at hlen;exact(Yz (by lia)).symm
    |int a c hs=>
     cases hvi with
     |int _ t _=>
     cases hwi with
     |int _ u _=>rw[Va]at hz;cases hz
    |str a c hs=>
     cases hvi with
     |str _ t _=>
     cases hwi with
     |str _ u _=>rw[Va]at hz;cases hz
   rw[r]at hR
   wp_walk
   exact⟨_,rfl,by simpa[Builtin.Tuple.tupleCompareSizes] using hR⟩
  case h=>
   exact⟨rfl,rfl,items.toList,items2.toList,ns,ms,rfl,hi,hj,hsh,by lia,h⟩
end
section
variable{prog:J9}{w:Jd}{A:Jc}{E:J6}{s:Ja}
theorem lt_tupKeys{l b:Jg}{items items2:Array Value}{ns ms:List (Int ⊕ Str)}{Q:J6}(hl:IsTup s.heap l items)(hb:IsTup s.heap b items2)(hi:MB items.toList ns)(hj:MB items2.toList ms)(hsh:EW ns ms)
  (hu:A.units < cLine) (h:Q (.bool (lexK ns ms)) s):wpAny (model prog w) A (compareOp .Lt (.ref l) (.ref b)) Q E s:=by
 obtain⟨⟨ab,v,z,q⟩,g,j,n,i⟩:=id hl;obtain⟨⟨aa,o,p,f⟩,a,e,r,c⟩:=id hb;simp only at j i e c;subst j i e c;exact richCompare_meets_room (op:=.Lt) ⟨_,g,rfl⟩ ⟨_,a,rfl⟩ WL WD (Wt _ _) (jY l b items items2 n r v o q f ns ms hi hj hsh)
  ⟨g,a,show Value.bool (lexK ns ms)≠Value.notImplemented/\Q (.bool (lexK ns ms)) s from⟨(fun x=>nomatch x),h⟩⟩ hu
end
end HT
namespace L2
open PySem PySem.Spec PyProof.Rows PySem.W
section
variable{prog:J9}{w:Jd}{A:Jc}{E:J6}{s:Ja}{O:KeyOrd}{key:Nat->O.α}{κ:SortKind}{vs:Ji}
structure RH(prog:J9)(w:Jd)(h:Jj)(O:KeyOrd)(key:Nat->O.α)(κ:SortKind)(vs:Ji):Prop where
 kind:∀ (A:Jc) (s:Ja) (Q:SortKind->Shared->Prop),(∀b o,h.get? b=some o->s.heap.get? b=some o)->2 <=vs.length->Q κ s->wpAny (model prog w) A (keyKind' vs.toArray) Q (fun _ _=>False) s
 cmp:∀ (A:Jc) (s:Ja) (i j:Nat) (C:Bool->Shared->Prop),A.units < cLine->(∀b o,h.get? b=some o->s.heap.get? b=some o)->i < vs.length->j < vs.length->C (M8 O key i j) s->kas_ask prog w A κ vs i j C s
end
def T0(h:Jj)(v:Jf)(k:Ky):Prop:=∃a t u r,v= .ref a/\IsTup h a #[.int k.1 t,.str k.2.1 u,.str k.2.2 r]
def NT(h:Jj)(v:Jf)(p:Int×Ky):Prop:=∃a t b,v= .ref a/\IsTup h a #[.int p.1 t,.ref b]/\T0 h (.ref b) p.2
theorem IsTup.keep{h h':Jj}{a:Jg}{its:Array Value}(k:∀b o,h.get? b=some o->h'.get? b=some o)(x:IsTup h a its):IsTup h' a its:=by
 obtain⟨o,h1,h2⟩:=x;exact⟨o,k _ _ h1,h2⟩
theorem T0.keep{h h':Jj}{v:Jf}{k:Ky}(kp:∀b o,h.get? b=some o->h'.get? b=some o)(x:T0 h v k):T0 h' v k:=by
 obtain⟨a,t,u,r,e,h1⟩:=x;exact⟨a,t,u,r,e,IsTup.keep kp h1⟩
theorem NT.keep{h h':Jj}{v:Jf}{p:Int×Ky}(kp:∀b o,h.get? b=some o->h'.get? b=some o)(x:NT h v p):NT h' v p:=by
 obtain⟨a,t,b,e,h1,h2⟩:=x;exact⟨a,t,b,e,IsTup.keep kp h1,h2.keep kp⟩
section
variable{prog:J9}{w:Jd}{A:Jc}{E:J6}{s:Ja}
theorem Zh{x y:Str}{t u:Tok}{Q:Bool->Shared->Prop}{b:Bool}{i:Nat}(h:Q (DP x y) s):wpAny (model prog w) A (oneLt' (b && i+ 1==0) (.str x t) (.str y u)) Q E s:=by
 rw[show(b && i+ 1==0)=false by simp];exact kat_one _ _ (WV h)
theorem QC{x y:Jf}{k j:Ky}{Q:J6}(hx:T0 s.heap x k)(hy:T0 s.heap y j)(hu:A.units < cLine)(h:Q (.bool (Mj k j)) s):wpAny (model prog w) A (compareOp .Lt x y) Q E s:=by
 obtain⟨a,t,u,r,rfl,h1⟩:=hx;obtain⟨b,f,c,g,rfl,h2⟩:=hy;refine HT.lt_tupKeys (ns:=[.inl k.1,.inr k.2.1,.inr k.2.2]) (ms:=[.inl j.1,.inr j.2.1,.inr j.2.2]) h1 h2 (.int _ _ (.str _ _ (.str _ _ .nil))) (.int _ _ (.str _ _ (.str _ _ .nil))) (.int _ _ (.str _ _ (.str _ _ .nil))) hu ?_;have e:HT.lexK [.inl k.1,.inr k.2.1,.inr k.2.2] [.inl j.1,.inr j.2.1,.inr j.2.2]=Mj k j:=by
  unfold Mj;simp only[HT.lexK,HT.ltK,WT,WU]
  by_cases h1:k.1=j.1
  .rw[Y3 h1,Y3 h1]
   by_cases h2:k.2.1=j.2.1
   .rw[Y3 h2,Y3 h2]
    by_cases h3:k.2.2=j.2.2
    .rw[Y3 h3,h3,Fo]
    .rw[Y2 h3];rfl
   .rw[Y2 h2,Y2 h2];rfl
  .rw[Y2 h1,Y2 h1]
 rw[e];exact h
theorem Sx{x y:Jf}{k j:Ky}{Q:Bool->Shared->Prop}(hx:T0 s.heap x k)(hy:T0 s.heap y j)(hu:A.units < cLine)(h:Q (decide (k=j)) s):wpAny (model prog w) A (eqBool x y) Q E s:=by
 obtain⟨a,t,u,r,rfl,o,e1,e2,n,z⟩:=hx;obtain⟨b,p,i,q,rfl,o',g,f,v,c⟩:=hy;refine wpAny_eqBool_tuple (knd:=JQ prog w) (x:=[.inl k.1,.inr k.2.1,.inr k.2.2]) (y:=[.inl j.1,.inr j.2.1,.inr j.2.2]) hu ⟨o,_,n,e1,e2,z,CA (.cons ⟨t,rfl⟩ (.cons ⟨u,rfl⟩ (.cons ⟨r,rfl⟩ .nil)))⟩ ⟨o',_,v,g,f,c,CA (.cons ⟨p,rfl⟩ (.cons ⟨i,rfl⟩ (.cons ⟨q,rfl⟩ .nil)))⟩ ?_;have e:decide (([.inl k.1,.inr k.2.1,.inr k.2.2]:List JL)=[.inl j.1,.inr j.2.1,.inr j.2.2])=decide (k=j):=by
  rw[YF,Yd,Yd];simp only[List.cons.injEq,WT,WU,and_true];exact⟨fun h=>Ui h.1 (Ui h.2.1 h.2.2),fun h=>by rw[h];exact⟨rfl,rfl,rfl⟩⟩
 rw[e];exact h
theorem IG{R:Heap->Value->α->Prop}(hR:∀h v p,R h v p->∃a n t o its m,v= .ref a/\h.get? a=some o/\o.cls= .type "tuple"/\o.data= .seq its m/\its[0]?=some (.int n t)):∀{vs:Ji} {c:List α} {h:Jj},(∀ (i:Nat) v p,vs[i]?=some v->c[i]?=some p->R h v p)->vs.length=c.length->∃fs,KatTups h vs fs/\fs.length=vs.length/\∀f∈fs,∃n t,f=Value.int n t
 |[],c,h,_,e=>⟨[],trivial,rfl,fun f hf=>by simp at hf⟩
 |v::vs,[],h,_,e=>by simp at e
 |v::vs,p::c,h,hp,e=>by
  obtain⟨fs,k1,k2,k3⟩:=IG hR (vs:=vs) (c:=c) (h:=h) (fun i v p a b=>hp (i+ 1) v p (by simpa using a) (by simpa using b)) (by simpa using e);obtain⟨a,n,t,o,its,m,rfl,g,q,j,r⟩:=hR _ _ _ (hp 0 v p rfl rfl);refine⟨Value.int n t::fs,KatTups.cons g q j r k1,by simp[k2],fun f hf=>?_⟩;rcases Ym.mp hf with rfl|hf
  .exact⟨_,_,rfl⟩
  .exact k3 f hf
theorem xN{vs:Ji}{c:List Ky}{h:Jj}(hp:∀ (i:Nat) v p,vs[i]?=some v->c[i]?=some p->T0 h v p)(hl:vs.length=c.length):
  RH prog w h Sy (fun i=>c.getD i (0,"","")) (tuples' (Value.type "int" !=Value.type "tuple")) vs where
 kind A s Q hk h2 hQ:=by
  obtain⟨fs,k1,k2,k3⟩:=IG (R:=T0) (fun h v p zz=>by rcases zz with⟨a,t,u,r,e,o,f,hc,n,g⟩;exact ⟨a,p.1,t,o,_,n,e,f,hc,g,rfl⟩) (fun i v p e1 e2=>(hp i v p e1 e2).keep hk) hl;refine kat_kind (T:=Value.type "int") k1 (by lia) (fun v hv=>?_) (by decide) hQ;obtain⟨n,t,rfl⟩:=k3 v hv;exact Looks.of_pure rfl
 cmp A s i j C hu hk hi hj hC:=by
  have gi:vs[i]?=some (vs.getD i Value.none):=by rw[Y7 hi];simp[hi]
  have gj:vs[j]?=some (vs.getD j Value.none):=by rw[Y7 hj];simp[hj]
  have ci:c[i]?=some (c.getD i (0,"","")):=by rw[Y7 (by lia)];simp[show i < c.length by lia]
  have cj:c[j]?=some (c.getD j (0,"","")):=by rw[Y7 (by lia)];simp[show j < c.length by lia]
  obtain⟨a,t,u,r,e,o,f,hc,n,g⟩:=(hp i _ _ gi ci).keep hk;obtain⟨a',t',u',r',e',o',q,hc',n',z⟩:=(hp j _ _ gj cj).keep hk;unfold kas_ask;rw[e,e'];have b:C (Mj (c.getD i (0,"","")) (c.getD j (0,"",""))) s:=hC;generalize c.getD i (0,"","")=x at*;generalize c.getD j (0,"","")=y at*;refine kat_lt f g q z ?_;show KatLex prog w A _ _ C [(Value.int x.1 t,Value.int y.1 t'),(Value.str x.2.1 u,Value.str y.2.1 u'),(Value.str x.2.2 r,Value.str y.2.2 r')] 0 s;unfold Mj at b;refine VM (UT ?_)
  by_cases h1:x.1=y.1
  .rw[show(x.1==y.1)=true by simpa using h1];rw[Y3 h1]at b;refine Wj (VM (Wk ?_))
   by_cases h2:x.2.1=y.2.1
   .rw[Yt h2];rw[Y3 h2]at b;refine Wj (VM (Wk ?_))
    by_cases h3:x.2.2=y.2.2
    .rw[Yt h3];refine Wj (kat_nil ?_);rw[h3,Fo]at b;exact b
    .rw[Yz h3];exact kat_no (Zh b)
   .rw[Yz h2];rw[Y2 h2]at b;exact kat_no (Zh b)
  .rw[show(x.1==y.1)=false by simpa using h1];rw[Y2 h1]at b;exact kat_no (FS b)
theorem tY{vs:Ji}{c:List (Int×Ky)}{h:Jj}(hp:∀ (i:Nat) v p,vs[i]?=some v->c[i]?=some p->NT h v p)(hl:vs.length=c.length):
  RH prog w h Gs (fun i=>c.getD i (0,0,"","")) (tuples' (Value.type "int" !=Value.type "tuple")) vs where
 kind A s Q hk h2 hQ:=by
  obtain⟨fs,k1,k2,k3⟩:=IG (R:=NT) (fun h v p zz=>by rcases zz with⟨a,t,b,e,⟨o,r,hc,n,z⟩,_⟩;exact ⟨a,p.1,t,o,_,n,e,r,hc,z,rfl⟩) (fun i v p e1 e2=>(hp i v p e1 e2).keep hk) hl;refine kat_kind (T:=Value.type "int") k1 (by lia) (fun v hv=>?_) (by decide) hQ;obtain⟨n,t,rfl⟩:=k3 v hv;exact Looks.of_pure rfl
 cmp A s i j C hu hk hi hj hC:=by
  have gi:vs[i]?=some (vs.getD i Value.none):=by rw[Y7 hi];simp[hi]
  have gj:vs[j]?=some (vs.getD j Value.none):=by rw[Y7 hj];simp[hj]
  have ci:c[i]?=some (c.getD i (0,0,"","")):=by rw[Y7 (by lia)];simp[show i < c.length by lia]
  have cj:c[j]?=some (c.getD j (0,0,"","")):=by rw[Y7 (by lia)];simp[show j < c.length by lia]
  obtain⟨a,t,b,e,⟨o,r,hc,n,z⟩,q⟩:=(hp i _ _ gi ci).keep hk;obtain⟨a',t',b',e',⟨o',aa,hc',n',ab⟩,g⟩:=(hp j _ _ gj cj).keep hk;unfold kas_ask;rw[e,e'];have f:C (JS (c.getD i (0,0,"","")) (c.getD j (0,0,"",""))) s:=hC;generalize c.getD i (0,0,"","")=x at*;generalize c.getD j (0,0,"","")=y at*;refine kat_lt r z aa ab ?_;show KatLex prog w A _ _ C [(Value.int x.1 t,Value.int y.1 t'),(Value.ref b,Value.ref b')] 0 s;unfold JS at f;refine VM (UT ?_)
  by_cases h1:x.1=y.1
  .rw[show(x.1==y.1)=true by simpa using h1];rw[Y3 h1]at f;refine Wj (VM (Sx q g hu ?_))
   by_cases h2:x.2=y.2
   .rw[Yt h2];refine Wj (kat_nil ?_);rw[h2,Ff]at f;exact f
   .rw[Yz h2];refine kat_no ?_;rw[show(((Value.type "int" !=Value.type "tuple") && (0+ 1==0)):Bool)=false by simp];exact kat_one _ _ (QC q g hu f)
  .rw[show(x.1==y.1)=false by simpa using h1];rw[Y2 h1]at f;exact kat_no (FS f)
end
def Ea(k:Ky):List V:=[.int k.1,.str k.2.1,.str k.2.2]
section
variable{X:Cx}{pins:J8}{s:Ja}{σ:St}{H:Hp}
theorem SM{t:Jg}{k:Ky}(I:Jq X pins σ H s)(h:N8 X.K H t (Ea k)):T0 s.heap (.ref t) k:=by
 obtain⟨e,r,p,_⟩:=I.tuple h;cases r with
 |cons r1 r=>
  cases r with
  |cons r2 r=>
   cases r with
   |cons r3 r=>
    cases r;obtain⟨c,rfl⟩:=(show ∃t,_=Value.int k.1 t from r1);obtain⟨b,rfl⟩:=(show ∃t,_=Value.str k.2.1 t from r2);obtain⟨a,rfl⟩:=(show ∃t,_=Value.str k.2.2 t from r3);exact⟨t,c,b,a,rfl,p⟩
theorem SH{t b:Jg}{n:Int}{k:Ky}(I:Jq X pins σ H s)(h:N8 X.K H t [.int n,.ref b])(hb:N8 X.K H b (Ea k)):NT s.heap (.ref t) (n,k):=by
 obtain⟨c,r,p,_⟩:=I.tuple h;cases r with
 |cons r1 r=>
  cases r with
  |cons r2 r=>
   cases r;obtain⟨a,rfl⟩:=(show ∃t,_=Value.int n t from r1);cases r2;exact⟨t,a,b,rfl,p,SM I hb⟩
end
section
variable{X:Cx}{K:Je}
theorem O9{xs:List V}{its:Ji}(rv:JB xs its):∀r:List Nat,(∀i∈r,i < xs.length)->JB (r.map fun i=>xs.getD i .non) (r.map fun i=>its.getD i Value.none)
 |[],_=>.nil
 |i::r,hr=>by
  refine .cons ?_ (O9 rv r fun j hj=>hr j (.tail _ hj));have hi:i < xs.length:=hr i (.head _);obtain⟨u,a,ru⟩:=rv.get (i:=i) (x:=xs[i]) (Y7 hi);have c:xs.getD i .non=xs[i]:=by simp[hi]
  have b:its.getD i Value.none=u:=by rw[Xt,a];rfl
  show Jz (xs.getD i .non) (its.getD i Value.none);rw[c,b];exact ru
theorem PR{O:KeyOrd}{c:List O.α}{d:O.α}{pa:Array Nat}{n:Nat}(a1:MV n pa)(a2:AB O (fun i=>c.getD i d) pa n):(pa.toList.map fun i=>c.getD i d).Pairwise (fun a b=>O.blt b a=false):=by
 rw[List.pairwise_map,YO];intro i j hi e g;have f:pa.size=n:=a1.size;have:=a2 i j (XN g) (by simpa[f] using e);have o:pa.getD i 0=pa.toList[i]:=by simp at hi;simp[Array.getD,hi]
 have h:pa.getD j 0=pa.toList[j]:=by simp at e;simp[Array.getD,e]
 unfold SK at this;rw[o,h]at this;exact this
def Hi(K:Je):Hp->V->Int×Ky->Prop:=fun H x q=>∃t b,x= .ref t/\N8 K H t [.int q.1,.ref b]/\N8 K H b (Ea q.2)
end
section
variable{prog:J9}{w:Jd}{A:Jc}{d:Jg}{o:Obj}{es:Array DictEntry}{ep:Nat}
theorem OZ(hh:A.handled=none)(I:Jg)(hne:d≠I)(hdat:o.data= .dict es ep):
  Walks prog w A I [I,d] [I] es.size (fun i v=>∃e,es[i]?=some e/\v=e.key) (fun i h=>h.IsKeyIter I d i es.size ep/\h.get? d=some o) where
 sub:=fun b a=>by simp at a;simp[a]
 frame:=fun _ _ _ st g=>⟨let ⟨oi,a1,a2⟩:=st.1;⟨oi,g I (by simp) _ a1,a2⟩,g d (by simp) _ st.2⟩
 item:=fun i s Q E hi st c=>by
  refine Pl st.1 st.2 hdat hi fun h' f hs'=>?_
  exact c _ h' s.toks ⟨_,XZ hi,rfl⟩ ⟨f,hs'.extBut d o hne st.2⟩ fun b o a e=>hs'.extBut b o (fun h=>a (by simp[h])) e
 done:=fun s Q E st c=>Pj hh st.1 st.2 hdat (Y9 _) fun h' j=>c h' s.toks fun b o a e=>j b o (fun h=>a (by simp[h])) e
 self:=fun _ _ _ _ st c=>wpAny_pyIter_keyiter st.1 c
theorem vG(lo:(d==sysModules)=false)(hc:o.ExactDict)(hdat:o.data= .dict es ep):KdlSrc prog w "dict" d d es.size (fun i v=>∃e,es[i]?=some e/\v=e.key) (fun h=>h.get? d=some o) where
 type:=fun _ a=>⟨o,a,hc.1⟩
 there:=fun _ a=>⟨Yf a,Yf a⟩
 keep:=fun _ _ a c=>c d (.inl rfl) o a
 notList:=by decide
 notTuple:=by decide
 hint:=fun _ _ _ _ a b=>kdl_hint_dict ⟨o,a,hc.1⟩ b
 iter:=fun _ _ f a=>⟨_,_,(fun _ _ b=>PB lo a hc hdat b),OZ f _ (Yo (Yf a)) hdat,⟨⟨_,Ye _ rfl,rfl,rfl⟩,Y8 _ a⟩⟩
end
section
variable{caps:List (Option Nat)}{g:TG}{tc:TT}{te td:TE}{d:Jg}{kvs:List (List JL×V)}{σ:St}{H:Hp}{Q:VK}
theorem Zt(hd:H d=some (.dT kvs))(htd:∀R:VK,R (.ref d) H->td σ H R)(Pv:Nat->List V->St->Hp->Prop)(h0:∀Hf,(∀c,c≠d->Hf c=H c)->Pv 0 [] (Nf caps σ) Hf)(hl:∀i ys σ' Hf,Pv i ys σ' Hf->ys.length <=i)(hz:kvs.length <=100000)
  (hs:∀Hf o,(∀c u,H c=some u->c≠d->Hf c=some u)->Hf d=some (.frz o (.dT kvs))->∀i b k v ys σ',kvs[i]?=some (k,v)->Hf b=some (.tup (k.map kV))->Pv i ys σ' Hf->g (.ref b) σ' Hf fun σ2 H2=>tc σ2 H2 fun c H3=>if c=true then te σ2 H3 fun y H4=>Pv (i+ 1) (ys++[y]) σ2 H4/\Jo Hf H4 else Pv (i+ 1) ys σ2 H3/\Jo Hf H3)
  (he:∀ys σ' Hn,Pv kvs.length ys σ' Hn->(∀c u,H c=some u->c≠d->Hn c=some u)->∀p G,H p=none->Jo H G->(∀c u,Hn c=some u->(∀o w,u≠ .frz o w)->G c=some u)->G p=some (.lst ys)->Q (.ref p) G):A5 (E5 caps (IF td) g tc te) σ H Q:=by
 refine⟨d,kvs,hd,htd _ ⟨d,kvs,rfl,hd,fun o=>?_⟩⟩;obtain⟨Hf,s⟩:∃Hf,Hf=upd H d (.frz o (.dT kvs)):=⟨_,rfl⟩;rw[<-s];have r:Hf d=some (.frz o (.dT kvs)):=by rw[s,Nb]
 have hfo:∀c,c≠d->Hf c=H c:=fun c j=>by rw[s,JG j]
 refine⟨fun i m ys σ' H'=>m=kvs.length - i/\i <=kvs.length/\Pv i ys σ' H'/\Jo Hf H',⟨kvs.length,by simp,Yx _,h0 Hf hfo,Jo.refl _⟩,?_⟩;rintro i m ys σ' H' ⟨rfl,hi,p,s1⟩;have hy:=hl i ys σ' H' p;have f:∀c u,H c=some u->c≠d->H' c=some u:=fun c u e n=>s1 c u (by rw[hfo c n];exact e)
 by_cases hlt:i < kvs.length
 .refine .inr ⟨⟨s1 _ _ r,hlt⟩,Yn (XN (Yn hy hlt)) (Rq hz),fun ys2 σ2 H2=>Pv (i+ 1) ys2 σ2 H2/\Jo H' H2,fun ys2 σ2 H2 q=>⟨kvs.length - (i+ 1),by omega,rfl,hlt,q.1,s1.trans q.2⟩,fun x H2 y=>?_⟩;obtain⟨e,b,k,v,ex,hk,hb⟩:=y;subst e ex;exact hs H2 o f (s1 _ _ r) i b k v ys σ' hk hb p
 .have e:i=kvs.length:=by omega
  subst e;have h:=s1 _ _ r;refine .inl ⟨⟨h,Y9 _⟩,Ni (YD hy hz),fun p' a=>?_⟩;have n1:d≠p':=fun z=>by rw[<-z,h]at a;cases a
  refine⟨o,by rw[JG n1];exact h,he ys σ' H' p f p' _ ?_ (fun c u e=>?_) (fun c u e n=>?_) ?_⟩
  .cases e:H p' with
   |none=>rfl
   |some u=>rw[f p' u e (Ne.symm n1)]at a;cases a
  .by_cases j:c=d
   .rw[j,hd]at e;rw[j,Nb];exact e
   .have e':=f c u e j;rw[JG j,JG (fun z=>by rw[z,a]at e';cases e')];exact e'
  .have n:c≠d:=fun z=>by rw[z,h]at e;exact n _ _ (Option.some.inj e).symm
   rw[JG n,JG (fun z=>by rw[z,a]at e;cases e)];exact e
  .rw[JG (Ne.symm n1),Nb]
end
def Pw{α β:Type}(R:α->β->Prop)(xs:List α)(ys:List β):Prop:=xs.length=ys.length/\∀ (j:Nat) x y,xs[j]?=some x->ys[j]?=some y->R x y
theorem Pw.nil{α β:Type}{R:α->β->Prop}:Pw R [] []:=⟨rfl,fun j x y h=>by simp at h⟩
theorem Pw.imp{α β:Type}{R S:α->β->Prop}{xs:List α}{ys:List β}(h:Pw R xs ys)(f:∀x y,R x y->S x y):Pw S xs ys:=⟨h.1,fun j x y a b=>f x y (h.2 j x y a b)⟩
theorem Pw.app{α β:Type}{R:α->β->Prop}{xs xs':List α}{ys ys':List β}(h:Pw R xs ys)(h':Pw R xs' ys'):Pw R (xs++xs') (ys++ys'):=by
 refine⟨by rw[List.length_append,List.length_append,h.1,h'.1],fun j x y a b=>?_⟩;rw[U2]at a b
 by_cases hj:j < xs.length
 .rw[Y3 hj]at a;rw[Y3 (by rw[<-h.1];exact hj)]at b;exact h.2 j x y a b
 .rw[Y2 hj]at a;rw[Y2 (by rw[<-h.1];exact hj)]at b;rw[h.1]at a;exact h'.2 _ x y a b
theorem Pw.one {α β : Type} {R : α -> β -> Prop} {x : α} {y : β} (h : R x y) : Pw R [x] [y] := ⟨rfl, fun j a b c e => by
 cases j with
 |zero=>cases c;cases e;exact h
 | succ j => simp at c⟩
theorem Pw.snoc{α β:Type}{R:α->β->Prop}{xs:List α}{ys:List β}{x:α}{y:β}(h:Pw R xs ys)(hx:R x y):Pw R (xs++[x]) (ys++[y]):=h.app (.one hx)
theorem Pw.get{α β:Type}{R:α->β->Prop}{xs:List α}{ys:List β}(h:Pw R xs ys){i:Nat}{x:α}(hx:xs[i]?=some x):∃y,ys[i]?=some y/\R x y:=by
 have hi:i < xs.length:=(Y4.mp hx).1;have e:ys[i]?=some (ys[i]'(by rw[<-h.1];exact hi)):=Y7 (by rw[<-h.1];exact hi);exact⟨_,e,h.2 i x _ hx e⟩
theorem Pw.pick{α β:Type}{R:α->β->Prop}{xs:List α}{ys:List β}{a:α}{b:β}(h:Pw R xs ys):∀r:List Nat,(∀i∈r,i < xs.length)->Pw R (r.map fun i=>xs.getD i a) (r.map fun i=>ys.getD i b)
 |[],_=>.nil
 |i::r,hr=>by
  have hi:=hr i (.head _);have c:i < ys.length:=by rw[<-h.1];exact hi
  have g:xs[i]?=some (xs.getD i a):=by rw[Y7 hi];simp[hi]
  have f:ys[i]?=some (ys.getD i b):=by rw[Y7 c];simp[c]
  exact(Pw.one (h.2 i _ _ g f)).app (h.pick r fun j e=>hr j (.tail _ e))
theorem QN{α:Type}{c:List α}{d:α}{r:List Nat}(h:r.Perm (List.range c.length)):(r.map fun i=>c.getD i d).Perm c:=by
 have h1:=h.map fun i=>c.getD i d
 have h2:(List.range c.length).map (fun i=>c.getD i d)=c:=by
  apply Wp
  .simp
  .intro i hi _;have:i < c.length:=by simpa using hi
   simp[this]
 rw[h2]at h1;exact h1
def Ew(a:Jg):Obj:={cls:=.type "dict_values",data:=.fields #[.ref a]}
section
variable{prog:J9}{w:Jd}{A:Jc}{E:J6}{s:Ja}{d it v:Jg}{o:Obj}{es:Array DictEntry}{ep i n:Nat}
theorem mO(hd:(d==sysModules)=false):MeetsIn prog w (Builtin.«dict.values» ⟨[.ref d],[]⟩) (fun _ R s=>s.TypeIs (.ref d) "dict"/\R (.ok (.ret (.ref s.heap.objs.size))) {s with heap:=s.heap.push (Ew d)}):=
 .of_wp fun A R s ⟨a,h⟩=>by
  refine Y0 ?_;unfold Builtin.Dict.noArgs;refine Y0 (Ud a (?_:wpAny _ _ (pure d) _ _ s));refine Y6 (?_:wpAny _ _ (Builtin.Dict.showsAll d >>=_) _ _ s);unfold Builtin.Dict.showsAll;rw[Y2 (by rw[hd];exact Yg)];exact Y0 (Y6 (Y0 (X3 (Y6 ⟨_,rfl,h⟩))))
theorem x5{Q:J6}(hv:s.heap.get? v=some (Ew d))(ho:s.heap.get? d=some o)(hdat:o.data= .dict es ep)
  (hQ:Q (.ref s.heap.objs.size) {s with heap:=s.heap.push {cls:=.type "dict_valueiterator",data:=.fields #[.ref d,.int 0 0,.int es.size 0,.int ep 0]}}):wpAny (model prog w) A (pyIter (.ref v)) Q E s:=by
 have a:s.TypeIs (.ref v) "dict_values":=⟨_,hv,rfl⟩
 refine We a VG (Xi VG a PySem.F.entry_dict_values_iter ?_ (PySem.F.args_dict_values_iter_1 _));unfold Builtin.«dict_values.__iter__»;refine Y0 (Y6 (Y0 ?_));unfold Builtin.Dict_items.dictOf;refine Y0 (UB hv rfl (x:=.ref d) rfl (Y6 (Y0 ?_)));unfold Builtin.Dict_items.newIterator;refine Y0 (Xn ho hdat (Y0 (Ue ho hdat ?_)));simp only[show Builtin.Dict_items.ownsTuple "dict_valueiterator"=false by decide,Bool.false_eq_true,if_false];refine X3 (Y6 ⟨_,rfl,"dict_valueiterator",_,⟨_,Ye _ rfl,rfl⟩,Xg.lookup,?_⟩);simpa[rawInt] using hQ
theorem ZS{Q:Option Value->Shared->Prop}(hit:s.heap.IsValIter it d i es.size ep)(ho:s.heap.get? d=some o)(hdd:o.data= .dict es ep)(hlt:i < es.size)
  (hQ:∀h',h'.IsValIter it d (i+ 1) es.size ep->Heap.SameBut it s.heap h'->Q (some es[i].val) {s with heap:=h'}):wpAny (model prog w) A (pyNext (.ref it)) Q E s:=by
 obtain⟨g,b,f,e⟩:=id hit;have c:=hit.typeIs;unfold pyNext;refine Y0 (Uk (XH (name:=Str.ofString "__next__") c Xg (Xi Xg c V6 ?_ (V1 _))));refine Y0 (Y6 (Y0 (Y0 ?_)));refine Y0 (U7 c (Y6 (Y0 (VO b e ?_))));simp only[show Builtin.Dict_items.ownsTuple "dict_valueiterator"=false by decide,Bool.false_eq_true,if_false];refine(?_:wpAny _ _ (if(Value.ref d==Value.none)=true then _ else _) _ _ s);rw[Y2 (show ¬((Value.ref d==Value.none)=true) from fun z=>Bool.noConfusion z)];refine Y0 (Y6 (Y0 (Xn ho hdd ?_)));rw[Y2 (by simp)];refine Y0 (Y6 (Y0 (Ue ho hdd ?_)));rw[Y2 (by simp)];refine Y6 ?_;simp only[show ¬((i:Int) < 0) by omega,if_false,Xv,XZ hlt];refine Y0 (Y0 (U7 c (Y6 (Y0 (Vs c ?_)))));refine(?_:wpAny _ _ (setField (.ref it) 1 (rawInt ((i:Int)+ 1)) >>=_) _ _ s);refine Y0 (VP b e (by simp) ?_);have a:(s.heap.update it (Obj.mapFields (·.setIfInBounds 1 (rawInt ((i:Int)+ 1))))).IsValIter it d (i+ 1) es.size ep:=
  ⟨_,Xp _ b (Obj.isFreed_of_fields (V9 e _)),(Obj.cls_mapFields ..).trans f,by rw[V9 e];simp[rawInt]⟩
 refine Y0 (Xa (Y0 (Vs (s:={s with heap:=s.heap.update it (Obj.mapFields (·.setIfInBounds 1 (rawInt ((i:Int)+ 1))))}) a.typeIs ?_)));refine Y0 (Vs (s:={s with heap:=s.heap.update it (Obj.mapFields (·.setIfInBounds 1 (rawInt ((i:Int)+ 1))))}) a.typeIs ?_);refine(?_:wpAny _ _ (pure es[i].val) _ _ _);exact Y6 (Y6 ⟨_,rfl,Y6 (hQ _ a (Xl ..))⟩)
theorem nJ{Q:Option Value->Shared->Prop}(hh:A.handled=none)(hit:s.heap.IsValIter it d i es.size ep)(ho:s.heap.get? d=some o)(hdd:o.data= .dict es ep)(hge:es.size <=i)
  (hQ:∀h',Heap.ExtBut it s.heap h'->Q none {s with heap:=h'}):wpAny (model prog w) A (pyNext (.ref it)) Q E s:=by
 obtain⟨g,e,h,f⟩:=id hit;have c:=hit.typeIs;unfold pyNext;refine Y0 (Uk (XH (name:=Str.ofString "__next__") c Xg (Xi Xg c V6 ?_ (V1 _))));refine Y0 (Y6 (Y0 (Y0 ?_)));refine Y0 (U7 c (Y6 (Y0 (VO e f ?_))));simp only[show Builtin.Dict_items.ownsTuple "dict_valueiterator"=false by decide,Bool.false_eq_true,if_false];refine(?_:wpAny _ _ (if(Value.ref d==Value.none)=true then _ else _) _ _ s);rw[Y2 (show ¬((Value.ref d==Value.none)=true) from fun z=>Bool.noConfusion z)];refine Y0 (Y6 (Y0 (Xn ho hdd ?_)));rw[Y2 (by simp)];refine Y0 (Y6 (Y0 (Ue ho hdd ?_)));rw[Y2 (by simp)];refine Y6 ?_;simp only[show ¬((i:Int) < 0) by omega,if_false,Xv,WC hge];refine Y0 (Y0 (U7 c (Y6 ?_)));refine(?_:wpAny _ _ (setField (.ref it) 0 .none >>=_) _ _ s);refine Y0 (VP e f (by simp) ?_);refine(?_:wpAny _ _ (newExc (.type "StopIteration") [] >>=_) _ _ _);refine Y0 ?_;simp only[newExc,newTuple];refine Y0 (X3 (Y0 (m:=firstArgMember _ _) (VS (a:=Value.none) (by first|rfl|(simp only[firstArgMember];rfl)) (X3 ?_ (by size_fits)))) (by size_fits));simp only[raiseNew];refine Y0 (wpAny_handled ?_);rw[show A.in1.handled=none from hh];refine Y0 (Y6 (wpAny_throw ?_));exact Y0 (Wl (T:="StopIteration") (b:=true) ⟨_,Ye _ rfl,rfl⟩ WK (Y6 (hQ _ (((Xl ..).extBut.push _).push _))))
end
def Qh(d:Jg)(o:Obj)(kvs:List (List JL×V)):It:=
 ⟨fun i H=>H d=some (.frz o (.dT kvs))/\i < kvs.length,fun i H x H'=>H'=H/\∃k,kvs[i]?=some (k,x),fun i H=>H d=some (.frz o (.dT kvs))/\kvs.length <=i⟩
theorem KT.val'{H:Hp}:∀{kvs:List (List JL×V)} {xs:List (List JL×Addr×Value)},KT H kvs xs->∀{i:Nat} {x:List JL×Addr×Value},xs[i]?=some x->∃v,kvs[i]?=some (x.1,v)/\Jz v x.2.2:=by
 intro kvs xs r
 induction r with
 |nil=>intro i x h;simp at h
 |@cons p q ps qs hq t ih=>
  intro i x h;cases i with
  |zero=>
   cases h;exact⟨p.2,by rw[List.getElem?_cons_zero,<-hq.1],hq.2.2⟩
  |succ i=>
   rw[List.getElem?_cons_succ]at h ⊢;exact ih h
theorem gH{P:J9}{w:Jd}{K:Je}{tg:Jk}{o:Obj}{kvs:List (List JL×V)}{es:Array DictEntry}{ep:Nat}(d it:Jg)(hdat:o.data= .dict es ep)(hsz:es.size=kvs.length):EH P w K tg (Qh d o kvs) [it] it (fun i h=>h.IsValIter it d i es.size ep) where
 mem:=by simp
 obj:=fun i h st b a=>by
  have e:b=it:=by simpa using a
  subst e;obtain⟨o,e,c,d⟩:=st;exact⟨o,e,fun v z=>by rw[d]at z;cases z⟩
 keep:=fun i h h' st k=>by
  obtain⟨p,e,r⟩:=st;exact⟨p,k it (by simp) p e,r⟩
 item:=by
  intro X hP q hK hc i pins s σ H E I g st hg;subst hP q hK;obtain⟨hF,hi⟩:=hg;obtain⟨f0,f1,f2,f3,f4,f5⟩:=g it (by simp);obtain⟨f,hob⟩:=(show s.heap.get? d=some o/\JF X.prog X.w H s.heap d (.dT kvs) from I.hok d _ hF);obtain⟨z,y,xs,r,o',es',ep',q1,q2,q3,q4,q5⟩:=hob;rw[f]at q1;cases q1;rw[hdat]at q3;cases q3;have n:i < es.size:=by omega
  refine ZS st f hdat n fun h' j sb=>?_
  have I1:Jq X pins σ H {s with heap:=h'}:=I.turned (t':=s.toks) (fun b o a e=>(sb.2 b a).trans e) f0 f1 f3 f4 f5;obtain⟨p,e,c,dd⟩:=id j;have hxl:xs.length=es.size:=by rw[<-Array.length_toList,q4,Y1]
  have hx:xs[i]?=some xs[i]:=Y7 (by omega);obtain⟨v,hv,a⟩:=KT.val' r hx;have hk:es[i].val=xs[i].2.2:=by
   have:es.toList[i]?=(xs.map (entryOfKey (tupleKind (JQ X.prog X.w))))[i]?:=by rw[q4]
   rw[Ya,hx,Array.getElem?_toList,XZ n]at this;rw[Option.some.inj this];rfl
  exact⟨_,rfl,Ca (s:={s with heap:=h'}) e c dd (by decide) ⟨v,H,I1,by rw[hk];exact a,⟨rfl,_,hv⟩,j,fun b a=>(g b a).1⟩⟩
 done:=by
  intro X hP q hK hc i pins s σ H E I g st hg;subst hP q hK;obtain⟨hF,hi⟩:=hg;obtain⟨f0,f1,f2,f3,f4,f5⟩:=g it (by simp);have f:s.heap.get? d=some o:=(show s.heap.get? d=some o/\JF X.prog X.w H s.heap d (.dT kvs) from I.hok d _ hF).1;exact nJ (I.ok.hd hc) st f hdat (by omega) fun h' eb=>⟨rfl,I.turned (t':=s.toks) (fun b o a e=>eb b o a e) f0 f1 f3 f4 f5⟩
 self:=fun A i s Q E st h=>by
  exact wpAny_pyIter_valiter st h
section
variable{X:Cx}{K:Je}
def CY:V->List V->Hp->VK->Prop:=fun x vs H Q=>∃ (a:Jg) (kvs:List (List JL×V)),x= .ref a/\vs=[]/\H a=some (.dT kvs)/\∀v G,H v=none->Jo H G->G v=some (.frz (Ew a) (.own a))->Q (.ref v) G
theorem IY:Gp X "dict.values" CY:=by
 intro pins s σ H x vs v p Q I rx g h;obtain⟨a,kvs,rfl,rfl,j,q⟩:=h;cases rx;cases g;obtain⟨r,i,xs,n,f⟩:=Am I.hok j;have e:H s.heap.objs.size=none:=I.hok.fresh (Y9 _);have c:(s.heap.push (Ew a)).get? s.heap.objs.size=some (Ew a):=Ye _ rfl;refine Wn Uu f.typeIs PySem.F.entry_dict_values (PySem.F.args_dict_values_1 _) (mO i) ⟨f.typeIs,?_⟩;exact⟨.ref s.heap.objs.size,upd H s.heap.objs.size (.frz (Ew a) (.own a)),I.laid (t':=s.toks) (fun b o z=>Y8 _ z) (Y9 _) ⟨c,_,c⟩,rfl,q _ _ e (ML e) Nb⟩
def AC(td:TE):TI:=fun σ H R=>td σ H fun x H1=>∃v a kvs,x= .ref v/\H1 v=some (.frz (Ew a) (.own a))/\H1 a=some (.dT kvs)/\∀o,R (Qh a o kvs) (upd H1 a (.frz o (.dT kvs)))
theorem IN{tg e:Jk}{td:TE}(hl:PE X e td):PI X tg e (AC td):=by
 intro pins s σ H R I h;refine JO (hl pins s σ H _ I h) fun v s1 zz=>?_;rcases zz with⟨x,H1,f,p,g,a,kvs,ex,ev,n,q⟩
 subst ex;cases p;obtain⟨z,y,xs,r,o,es,ep,j,q2,i,q4,q5⟩:=(show JF X.prog X.w H1 s1.heap a (.dT kvs) from f.hok a _ n);obtain⟨hv,_⟩:=(show s1.heap.get? g=some (Ew a)/\_ from f.hok g _ ev);have hxl:xs.length=es.size:=by rw[<-Array.length_toList,q4,Y1]
 have hkl:=Paired.length r;refine x5 hv j i ?_;have c:=f.freeze n j;refine⟨s1.heap.objs.size,[s1.heap.objs.size],_,_,_,rfl,c.kept (t':=s1.toks) fun b o e=>Y8 _ e,gH a _ i (by omega),⟨_,Ye _ rfl,rfl,rfl⟩,fun b hb=>?_,q o⟩;have e:b=s1.heap.objs.size:=by simpa using hb
 subst e;exact c.fpOk (Y9 _) (c.hok.fresh (Y9 _))
end
section
variable{caps:List (Option Nat)}{g:TG}{tc:TT}{te td:TE}{d:Jg}{kvs:List (List JL×V)}{σ:St}{H:Hp}{Q:VK}
theorem aE(hd:H d=some (.dT kvs))(htd:∀R:VK,(∀v H1,H v=none->Jo H H1->H1 v=some (.frz (Ew d) (.own d))->R (.ref v) H1)->td σ H R)(Pv:Nat->List V->St->Prop)(h0:Pv 0 [] (Nf caps σ))(hl:∀i ys σ',Pv i ys σ'->ys.length <=i)(hz:kvs.length <=100000)
  (hs:∀Hf o,(∀c u,H c=some u->c≠d->Hf c=some u)->Hf d=some (.frz o (.dT kvs))->∀i k v ys σ',kvs[i]?=some (k,v)->Pv i ys σ'->g v σ' Hf fun σ2 H2=>tc σ2 H2 fun c H3=>if c=true then te σ2 H3 fun y H4=>Pv (i+ 1) (ys++[y]) σ2/\H4=Hf else Pv (i+ 1) ys σ2/\H3=Hf)
  (he:∀ys σ',Pv kvs.length ys σ'->∀p G,H p=none->Jo H G->G p=some (.lst ys)->Q (.ref p) G):A5 (E5 caps (AC td) g tc te) σ H Q:=by
 refine⟨d,kvs,hd,htd _ fun v0 H1 hv0 s e0=>⟨v0,d,kvs,rfl,e0,s _ _ hd,fun o=>?_⟩⟩;obtain⟨Hf,r⟩:∃Hf,Hf=upd H1 d (.frz o (.dT kvs)):=⟨_,rfl⟩;rw[<-r];have a:Hf d=some (.frz o (.dT kvs)):=by rw[r,Nb]
 have j:∀c,c≠d->Hf c=H1 c:=fun c b=>by rw[r,JG b]
 refine⟨fun i m ys σ' H'=>m=kvs.length - i/\i <=kvs.length/\Pv i ys σ'/\H'=Hf,⟨kvs.length,by simp,Yx _,h0,rfl⟩,?_⟩;rintro i m ys σ' H' ⟨rfl,hi,p,rfl⟩;have hy:=hl i ys σ' p
 by_cases hlt:i < kvs.length
 .refine .inr ⟨⟨a,hlt⟩,Yn (XN (Yn hy hlt)) (Rq hz),fun aa σ2 H2=>Pv (i+ 1) aa σ2/\H2=H',fun aa σ2 H2 q=>⟨kvs.length - (i+ 1),by omega,rfl,hlt,q⟩,fun x H2 y=>?_⟩;obtain⟨e,k,hk⟩:=y;subst e;exact hs H2 o (fun c u h n=>by rw[j c n];exact s _ _ h) a i k x ys σ' hk p
 .have e:i=kvs.length:=by omega
  subst e;refine .inl ⟨⟨a,Y9 _⟩,Ni (YD hy hz),fun w f=>?_⟩;have n1:d≠w:=fun z=>by rw[<-z,a]at f;cases f
  have ab:H1 w=none:=by rw[<-j w (Ne.symm n1)];exact f
  refine⟨o,by rw[JG n1];exact a,he ys σ' p w _ (s.free ab) (fun c u e=>?_) ?_⟩
  .by_cases b:c=d
   .rw[b,hd]at e;rw[b,Nb];exact e
   .have e':=s _ _ e;rw[JG b,JG (fun z=>by rw[z,ab]at e';cases e'),j c b];exact e'
  .rw[JG (Ne.symm n1),Nb]
end
end L2
namespace HT
open PySem PyProof.Rows
def LexG(A:Jc)(s:Ja):List (Value×Value)->Bool->Prop
 |[],r=>r=false
 |(x,y)::rest,r=>∃e,SeqAt.EqAt A s x y e/\(e=true->LexG A s rest r)/\(e=false->∀ (prog:J9) (w:Jd) (E:J6) (Q:J6),Q (.bool r) s->wpAny (model prog w) A (richCompare .Lt x y) Q E s)
section
open PySem.SeqAt
open PySem.AutoSeq1 (wpAny_loadPart')
open PySem.MeetsSeq PySem.MeetsSeq2 PySem.MeetsSeq3
theorem aO(l b:Jg)(items items2:Array Value)(n n2:Nat)(dd dd2:Option Addr)(sl sl2:Array (Option Value))(r:Bool)(hsz:items.size=items2.size):
  Meets (Builtin.«tuple.__lt__» ⟨[.ref l,.ref b],[]⟩)
   (fun A R s => s.heap.get? l = some { cls := .type "tuple", dict := dd, data := .seq items n, slots := sl } /\ s.heap.get? b = some { cls := .type "tuple", dict := dd2, data := .seq items2 n2, slots := sl2 } /\
    LexG A.in1 s (items.toList.zip items2.toList) r /\ R (.ok (.ret (.bool r))) s) :=
 .of_wp fun prog w A R s h=>by
  obtain⟨f,g,d,tk,a⟩:=s;obtain⟨o,q,i,h⟩:=h;have v:=AutoSeq1.sub_tuple_tuple
  wp_walk using Xq o,Xq q,wpAny_forIn_list _ (fun rest b s'=>b.1=none/\s'=⟨f,g,d,tk,a⟩/\LexG A.in1 ⟨f,g,d,tk,a⟩ rest r) _
  case turn=>
   rintro⟨y,x⟩ rest b s' ⟨hb',rfl,hL⟩;obtain⟨e,p,h1,h2⟩:=hL;refine Y0 (p prog w _ _ ?_);cases e with
   |true=>
    wp_walk
    exact⟨rfl,rfl,h1 rfl⟩
   |false=>
    have c:=h2 rfl prog w
    wp_walk using c
    exact⟨_,rfl,h⟩
  case fin=>
   rintro⟨b1,b2⟩ s' ⟨hb',rfl,hL⟩;simp only at hb';subst hb';have j:r=false:=hL;subst j
   wp_walk
   exact⟨_,rfl,by simpa[Builtin.Tuple.tupleCompareSizes,hsz] using h⟩
  case h=>
   exact⟨rfl,rfl,i⟩
end
section
variable{prog:J9}{w:Jd}{A:Jc}{E:J6}{s:Ja}
theorem lt_tupG{l b:Jg}{items items2:Array Value}{r:Bool}{Q:J6}(hl:IsTup s.heap l items)(hb:IsTup s.heap b items2)(hsz:items.size=items2.size)(hx:LexG A.in1 s (items.toList.zip items2.toList) r)
  (hu:A.units < cLine) (h:Q (.bool r) s):wpAny (model prog w) A (richCompare .Lt (.ref l) (.ref b)) Q E s:=by
 obtain⟨⟨ac,z,aa,q⟩,g,j,n,i⟩:=id hl;obtain⟨⟨ab,o,p,f⟩,a,e,v,c⟩:=id hb;simp only at j i e c;subst j i e c;exact richCompare_meets_room (op:=.Lt) ⟨_,g,rfl⟩ ⟨_,a,rfl⟩ WL WD (Wt _ _) (aO l b items items2 n v z o q f r hsz)
  ⟨g,a,hx,show Value.bool r≠Value.notImplemented/\Q (.bool r) s from⟨(fun x=>nomatch x),h⟩⟩ hu
end
end HT
namespace L2
open PySem PySem.Spec PyProof.Rows PySem.W
section
variable{prog:J9}{w:Jd}{A:Jc}{E:J6}{s:Ja}
theorem gC{x y:Jf}{p q:Int×Ky}{Q:J6}(hx:NT s.heap x p)(hy:NT s.heap y q)(hu:A.units+ 2 < cLine)(h:Q (.bool (JS p q)) s):wpAny (model prog w) A (richCompare .Lt x y) Q E s:=by
 obtain⟨a,t,b,rfl,h1,k1⟩:=hx;obtain⟨a',j,b',rfl,h2,o⟩:=hy;refine HT.lt_tupG (r:=JS p q) h1 h2 rfl ?_ (by lia) h;have i:A.in1.units < cLine:=by show A.units+ 1 < cLine;lia
 show HT.LexG A.in1 s [(Value.int p.1 t,Value.int q.1 j),(Value.ref b,Value.ref b')] (JS p q);obtain⟨e,he,f⟩:=HT.eqAt_int A.in1 s p.1 t q.1 j;refine⟨e,he,fun z=>⟨decide (p.2=q.2),fun prog w E Q c=>Sx k1 o i c,fun n=>?_,fun n prog w E Q c=>?_⟩,fun z prog w E Q c=>?_⟩
 .have g:=f.mp z;have e2:=UG n;show JS p q=false;unfold JS;rw[Y3 g,e2];exact Ff _
 .have g:=f.mp z;have:JS p q=Mj p.2 q.2:=by unfold JS;rw[Y3 g]
  rw[this]at c;exact QC k1 o i c
 .have g:¬p.1=q.1:=fun v=>by have:=f.mpr v;rw[z]at this;cases this
  have:JS p q=decide (p.1 < q.1):=by unfold JS;rw[Y2 g]
  rw[this]at c;exact HT.rcLt_int A.in1 s p.1 t q.1 j prog w E Q c
end
section
variable{prog:J9}{w:Jd}{A:Jc}{R:Result->Shared->Prop}{I:Jg}{fp wr:List Addr}{n:Nat}{P:Nat->Value->Prop}{St:Nat->Heap->Prop}
def bH(P:Nat->Value->Prop)(bt:Nat->Nat->Bool)(j:Nat)(old:Array Value):Prop:=(j=0/\old=#[])\/∃i v,j=i+ 1/\old=#[v,v]/\P (argBest bt i) v
theorem wM(W:Walks prog w A.in1 I fp wr n P St)(bt:Nat->Nat->Bool)(h₀:Jj)(hcmp:∀i j vi vj (s:Ja) (Q:J6) (E:J6),(∀b o,h₀.get? b=some o->s.heap.get? b=some o)->P i vi->P j vj->Q (.bool (bt i j)) s->wpAny (model prog w) A.in1 (richCompare .Lt vi vj) Q E s)
  (S:Jg) (hSf:S∉fp) (hw0:∀b o,h₀.get? b=some o->b∉wr/\b≠S) (hn:0 < n):
  ∀ (k j:Nat) (s:Ja) (old:Array Value) (c:Nat),n - j=k->j <=n->St j s.heap->bH P bt j old->(∀b o,h₀.get? b=some o->s.heap.get? b=some o)->s.heap.get? S=some {cls:=.type "list",dict:=none,data:=.seq old c,slots:=#[]}->
  (∀v h' tk,P (argBest bt (n - 1)) v->(∀b o,b∉wr->b≠S->s.heap.get? b=some o->h'.get? b=some o)->R (.ok (.ret v)) {s with heap:=h',toks:=tk})->
  codeAny (model prog w) A (.builtin "min.loop" ⟨[.ref I,.none,.ref S],[]⟩) R s:=by
 have hSw:S∉wr:=fun z=>hSf (W.sub _ z)
 have hnm:(toString "min"++toString ".loop":String)="min.loop":=by decide
 intro k
 induction k with
 |zero=>
  intro j s old c hk hj hst hB h0 hS hR;obtain rfl:j=n:=by lia
  refine V4 Vr ?_;rw[UV Xb _];refine Y0 (VN hS rfl (Y0 (UM (W.done s _ _ hst fun h' tk h=>?_))));have r:=h S _ hSw hS;rcases hB with⟨z,rfl⟩|⟨i,v,hi,rfl,hP⟩
  .lia
  .refine Y0 (Uz (hz:=As) (_hz':=Pt) r rfl (Y0 (U1 (Y6 ?_))));exact hR v _ tk (by rw[show j - 1=i by lia];exact hP) fun b o a g e=>(YL _ _ (Ne.symm g)).trans (h b o a e)
 |succ k ih=>
  intro j s old c hk hj hst hB h0 hS hR;refine V4 Vr ?_;rw[UV Xb _];refine Y0 (VN hS rfl (Y0 (UM (W.item j s _ _ (by lia) hst fun v h' tk hP hst' h=>?_))));have r:=h S _ hSw hS;have h0':∀b o,h₀.get? b=some o->h'.get? b=some o:=fun b o e=>h b o (hw0 b o e).1 (h0 b o e)
  rcases hB with⟨rfl,rfl⟩|⟨i,v',rfl,rfl,hPb⟩
  .refine Y0 (Y6 ?_);show wpAny _ A.in1 (updateSeq S (fun _=>#[v,v]) >>=fun _=>again _) _ _ _;refine Y0 (Uz (f:=fun _=>#[v,v]) (xs:=#[]) (n:=c) r rfl ?_ (Yx _) CT);rw[hnm];refine Y6 ⟨Uj Xb _,ih 1 _ _ _ (by lia) (by lia) (W.frame _ _ _ hst' fun b hb o e=>(YL _ _ (fun z:S=b=>hSf (by rw[z];exact hb))).trans e) (.inr ⟨0,v,rfl,rfl,hP⟩) (fun b o e=>(YL _ _ (Ne.symm (hw0 b o e).2)).trans (h0' b o e)) (Xp _ r rfl) ?_⟩;exact fun v' h'' p z1 q=>hR v' h'' p z1 fun b o a g e=>q b o a g ((YL _ _ (Ne.symm g)).trans (h b o a e))
  .refine Y0 (Y6 (Y0 (UM (Xa (Y0 (hcmp (i+ 1) (argBest bt i) v v' _ _ _ h0' hP hPb ?_))))));refine Y0 (Xa (Xm (Y0 (U1 (Y6 ?_)))));cases hb:bt (i+ 1) (argBest bt i) with
   |true=>
    simp only[if_true];refine Y0 (Uz (f:=fun _=>#[v,v]) (n:=c) r rfl (Y0 (U1 ?_)) As CT);rw[hnm];refine Y6 ⟨Uj Xb _,ih (i+ 1+ 1) _ _ _ (by rw[Vz,hk];rfl) (by lia) (W.frame _ _ _ hst' fun b hb o e=>(YL _ _ (fun z:S=b=>hSf (by rw[z];exact hb))).trans e) (.inr ⟨i+ 1,v,rfl,rfl,by simp only[argBest,hb,if_true];exact hP⟩) (fun b o e=>(YL _ _ (Ne.symm (hw0 b o e).2)).trans (h0' b o e)) (Xp _ r rfl) ?_⟩;exact fun v' h'' p z1 q=>hR v' h'' p z1 fun b o a g e=>q b o a g ((YL _ _ (Ne.symm g)).trans (h b o a e))
   |false=>
    simp only[Bool.false_eq_true,if_false];refine Y0 (U1 ?_);rw[hnm];refine Y6 ⟨Uj Xb _,ih (i+ 1+ 1) _ _ _ (by rw[Vz,hk];rfl) (by lia) hst' (.inr ⟨i+ 1,v',rfl,rfl,by simp only[argBest,hb,Bool.false_eq_true,if_false];exact hPb⟩) h0' r ?_⟩;exact fun v' h'' p z1 q=>hR v' h'' p z1 fun b o a g e=>q b o a g (h b o a e)
end
theorem r0{n:Nat}{O:KeyOrd}(key:Nat->O.α):argBest (fun i j=>O.blt (key i) (key j)) n <=n/\∀i,i <=n->O.blt (key i) (key (argBest (fun i j=>O.blt (key i) (key j)) n))=false:=by
 induction n with
 |zero=>exact⟨by simp[argBest],fun i hi=>by obtain rfl:i=0:=(by lia);simp[argBest];exact O.irrefl _⟩
 |succ n ih=>
  by_cases h:O.blt (key (n+ 1)) (key (argBest (fun i j=>O.blt (key i) (key j)) n))=true
  .have e:argBest (fun i j=>O.blt (key i) (key j)) (n+ 1)=n+ 1:=by simp[argBest,h]
   rw[e];refine⟨Y9 _,fun i hi=>?_⟩
   by_cases hi':i=n+ 1
   .subst hi';exact O.irrefl _
   .refine X6.mpr fun z=>?_
    have h1:=ih.2 i (by lia);have h2:=O.trans _ _ _ z h;rw[h1]at h2;cases h2
  .have e:argBest (fun i j=>O.blt (key i) (key j)) (n+ 1)=argBest (fun i j=>O.blt (key i) (key j)) n:=by simp[argBest,h]
   rw[e];refine⟨by lia,fun i hi=>?_⟩
   by_cases hi':i=n+ 1
   .subst hi';exact X6.mpr h
   .exact ih.2 i (by lia)
def IA(K:Je):List V->Hp->VK->Prop:=fun xs H Q=>∃ (p:Jg) (zs:List V) (c:List (Int×Ky)),xs=[.ref p]/\JA K H p zs/\zs.length=c.length/\(∀ (i:Nat) x q,zs[i]?=some x->c[i]?=some q->Hi K H x q)/\c≠[]/\
 ∀ (i:Nat) x q,zs[i]?=some x->c[i]?=some q->(∀q'∈c,JS q' q=false)->Q x H
section
variable{X:Cx}{K:Je}
theorem Fg(hc:X.calm=true)(hu:X.A.units+ 64 < cLine)(h:X.K=K):JN X (.builtin "min") (IA K):=by
 subst h;intro pins s σ H xs us Q I r hh;obtain⟨p,zs,c,rfl,hq,hlc,hp,hne,q⟩:=hh;obtain⟨u,rfl,rx⟩:=Rn r;cases rx;obtain⟨a,rv,pl,hz⟩:=I.list hq;have hh:X.A.in1.handled=none:=I.ok.hd hc;have hl:=pl.isList;have g:p < s.heap.objs.size:=by obtain⟨_,e,_⟩:=hl;exact Yf e
 have hlen:zs.length=a.length:=rv.length;have hpos:0 < a.length:=by have:=VJ.mpr hne;lia
 have hpr:∀ (i:Nat) v q,a[i]?=some v->c[i]?=some q->NT s.heap v q:=fun i v q e1 e2=>by
  have hi:i < a.length:=(Y4.mp e1).1;have ex:zs[i]?=some (zs[i]'(by lia)):=Y7 (by lia);obtain⟨u,hu,ru⟩:=rv.get (i:=i) (x:=_) ex;rw[e1]at hu;cases hu;obtain⟨t,b,e,ht,f⟩:=hp i _ q ex e2;rw[e]at ru;cases ru;exact SH I ht f
 have hnm:(toString "min"++toString ".loop":String)="min.loop":=by decide
 refine call_function_tree F.kind_min F.plain_min F.entry_min (F.args_min1 _) ?_;show wpAny _ X.A.in1 (Builtin.Builtins.bindParams "min" ["key","default"] 0 ⟨[],[]⟩ >>=_) _ _ s;refine Y0 (VS (show Builtin.Builtins.bindParams "min" ["key","default"] 0 ⟨[],[]⟩=pure [none,none] from rfl) ?_);refine Y0 (Y6 (Y0 (XI hl (Y0 (X3 ?_)))));rw[hnm];have W:=WP (prog:=X.prog) (w:=X.w) hh s.heap.objs.size p (Yo g) a.toArray;have hsz:a.toArray.size=a.length:=Yj;refine Y6 ⟨Uj Xb _,wM W (fun i j=>JS (c.getD i (0,0,"","")) (c.getD j (0,0,"",""))) s.heap ?_ _ ?_ ?_ (by rw[hsz];exact hpos) _ 0 _ _ _ rfl (Yx _) (W.frame _ _ _ ⟨⟨_,Ye _ rfl,rfl,rfl⟩,hl.push _⟩ fun b _ o e=>Y8 _ e) (.inl ⟨rfl,rfl⟩) (fun b o e=>Y8 _ (Y8 _ e)) (Ye _ rfl) ?_⟩
 .intro i j vi vj s' Q' E' hk hi hj hQ;have hi':a[i]?=some vi:=by simpa using hi
  have hj':a[j]?=some vj:=by simpa using hj
  have li:=(Y4.mp hi').1;have lj:=(Y4.mp hj').1;have ci:c[i]?=some (c.getD i (0,0,"","")):=by rw[Y7 (by lia)];simp[show i < c.length by lia]
  have cj:c[j]?=some (c.getD j (0,0,"","")):=by rw[Y7 (by lia)];simp[show j < c.length by lia]
  exact gC ((hpr i vi _ hi' ci).keep hk) ((hpr j vj _ hj' cj).keep hk) (by show X.A.units+ 1+ 2 < cLine;lia) hQ
 .intro z;rw[Ym,Yb]at z;dsimp only at z;rw[Xu]at z;rcases z with z|z
  .exact absurd z (Nat.succ_ne_self _)
  .rw[<-z]at g;exact absurd g (Nat.not_lt.mpr (XO _))
 .intro b o eo;have f:=Yf eo;refine⟨fun z=>?_,fun z=>?_⟩
  .have e:b=s.heap.objs.size:=by simpa using z
   exact absurd e (Yo f)
  .dsimp only at z;rw[Xu]at z;exact absurd z (Yo (Xw f))
 .intro v h' tk z1 hk;have kept:∀b o,s.heap.get? b=some o->h'.get? b=some o:=fun b o eo=>by
   have f:=Yf eo;refine hk b o ?_ ?_ (Y8 _ (Y8 _ eo))
   .intro z;have e:b=s.heap.objs.size:=by simpa using z
    exact absurd e (Yo f)
   .intro z;dsimp only at z;rw[Xu]at z;exact absurd z (Yo (Xw f))
  obtain⟨b1,b2⟩:=r0 (n:=a.toArray.size - 1) (O:=Gs) (fun i=>c.getD i (0,0,"",""));obtain⟨m,em⟩:∃m,m=argBest (fun i j=>JS (c.getD i (0,0,"","")) (c.getD j (0,0,"",""))) (a.toArray.size - 1):=⟨_,rfl⟩;have b1:m <=a.toArray.size - 1:=by rw[em];exact b1
  have b2:∀i,i <=a.toArray.size - 1->JS (c.getD i (0,0,"","")) (c.getD m (0,0,"",""))=false:=by rw[em];exact b2
  rw[<-em]at z1;have z1:a[m]?=some v:=by simpa using z1
  have hm:m < a.length:=by lia
  have ez:zs[m]?=some (zs[m]'(by lia)):=Y7 (by lia);obtain⟨u,hu',ru⟩:=rv.get (i:=m) (x:=_) ez;rw[z1]at hu';cases hu';have cm:c[m]?=some (c.getD m (0,0,"","")):=by rw[Y7 (by lia)];simp[show m < c.length by lia]
  refine⟨_,H,I.kept (t':=tk) kept,ru,q m _ _ ez cm fun q' hq'=>?_⟩;obtain⟨i,hi,rfl⟩:=UU.mp hq';have:=b2 i (by lia);rwa [show c.getD i (0,0,"","")=c[i] by simp[hi]]at this
end
def Ek(a:Jg):Obj:={cls:=.type "dict_keys",data:=.fields #[.ref a]}
section
variable{prog:J9}{w:Jd}{A:Jc}{E:J6}{s:Ja}{d r v:Jg}{o:Obj}{es:Array DictEntry}{ep:Nat}
theorem xM(hd:(d==sysModules)=false):MeetsIn prog w (Builtin.«dict.keys» ⟨[.ref d],[]⟩) (fun _ R s=>s.TypeIs (.ref d) "dict"/\R (.ok (.ret (.ref s.heap.objs.size))) {s with heap:=s.heap.push (Ek d)}):=
 .of_wp fun A R s ⟨a,h⟩=>by
  refine Y0 ?_;unfold Builtin.Dict.noArgs;refine Y0 (Ud a (?_:wpAny _ _ (pure d) _ _ s));refine Y6 (?_:wpAny _ _ (Builtin.Dict.showsAll d >>=_) _ _ s);unfold Builtin.Dict.showsAll;rw[Y2 (by rw[hd];exact Yg)];exact Y0 (Y6 (Y0 (X3 (Y6 ⟨_,rfl,h⟩))))
theorem rO{Q:J6}(hv:s.heap.get? v=some (Ek d))(ho:s.heap.get? d=some o)(hdat:o.data= .dict es ep)
  (hQ:Q (.ref s.heap.objs.size) {s with heap:=s.heap.push {cls:=.type "dict_keyiterator",data:=.fields #[.ref d,.int 0 0,.int es.size 0,.int ep 0]}}):wpAny (model prog w) A (pyIter (.ref v)) Q E s:=by
 have a:s.TypeIs (.ref v) "dict_keys":=⟨_,hv,rfl⟩
 refine We a kdl_slot_keys_iter (Xi kdl_slot_keys_iter a kdl_entry_keys_iter ?_ (kdl_args_keys_iter _));unfold Builtin.«dict_keys.__iter__»;refine Y0 (Y6 (Y0 ?_));unfold Builtin.Dict_items.dictOf;refine Y0 (UB hv rfl (x:=.ref d) rfl (Y6 (Y0 ?_)));unfold Builtin.Dict_items.newIterator;refine Y0 (Xn ho hdat (Y0 (Ue ho hdat ?_)));simp only[show Builtin.Dict_items.ownsTuple "dict_keyiterator"=false by decide,Bool.false_eq_true,if_false];refine X3 (Y6 ⟨_,rfl,"dict_keyiterator",_,⟨_,Ye _ rfl,rfl⟩,X5.lookup,?_⟩);simpa[rawInt] using hQ
theorem tO(hdat:o.data= .dict es ep):KdlSrc prog w "dict_keys" r d es.size (fun i v=>∃e,es[i]?=some e/\v=e.key) (fun h=>h.get? r=some (Ek d)/\h.get? d=some o) where
 type:=fun _ a=>⟨_,a.1,rfl⟩
 there:=fun _ a=>⟨Yf a.1,Yf a.2⟩
 keep:=fun _ _ a c=>⟨c r (.inl rfl) _ a.1,c d (.inr rfl) o a.2⟩
 notList:=by decide
 notTuple:=by decide
 hint:=fun _ _ _ _ a b=>kdl_hint_keys ⟨_,a.1,rfl⟩ b
 iter:=fun _ _ f a=>⟨_,_,(fun _ _ b=>rO a.1 a.2 hdat b),OZ f _ (Yo (Yf a.2)) hdat,⟨⟨_,Ye _ rfl,rfl,rfl⟩,Y8 _ a.2⟩⟩
end
section
variable{X:Cx}{K:Je}
def I0:V->List V->Hp->VK->Prop:=fun x vs H Q=>∃ (a:Jg) (kvs:List (List JL×V)),x= .ref a/\vs=[]/\H a=some (.dT kvs)/\∀v G,H v=none->Jo H G->G v=some (.frz (Ek a) (.own a))->Q (.ref v) G
theorem Zq:Gp X "dict.keys" I0:=by
 intro pins s σ H x vs v p Q I rx g h;obtain⟨a,kvs,rfl,rfl,j,q⟩:=h;cases rx;cases g;obtain⟨r,i,xs,n,f⟩:=Am I.hok j;have e:H s.heap.objs.size=none:=I.hok.fresh (Y9 _);have c:(s.heap.push (Ek a)).get? s.heap.objs.size=some (Ek a):=Ye _ rfl;refine Wn Vl f.typeIs PySem.F.entry_dict_keys (PySem.F.args_dict_keys_1 _) (xM i) ⟨f.typeIs,?_⟩;exact⟨.ref s.heap.objs.size,upd H s.heap.objs.size (.frz (Ek a) (.own a)),I.laid (t':=s.toks) (fun b o z=>Y8 _ z) (Y9 _) ⟨c,_,c⟩,rfl,q _ _ e (ML e) Nb⟩
end
end L2
namespace HT
open PySem PyProof.Rows
end HT
namespace L2
open PySem PySem.Spec PyProof.Rows PySem.W
end L2
namespace L2
open PySem PySem.Spec PyProof.Rows
theorem EK{us:Ji}{n:Nat}(h:us.length=n+ 1):∃a r,us=a::r/\r.length=n:=by
 cases us with
 |nil=>cases h
 |cons a r=>exact⟨a,r,rfl,Nat.succ.inj h⟩
theorem Rf{us:Ji}(h:us.length=1):∃a,us=[a]:=by
 obtain⟨a,r,e,g⟩:=EK h;rw[UE g]at e;exact⟨a,e⟩
theorem Gz{us:Ji}(h:us.length=2):∃a a1,us=[a,a1]:=by
 obtain⟨a,r,e,g⟩:=EK h;obtain⟨a1,z⟩:=Rf g;rw[z]at e;exact⟨_,_,e⟩
theorem Bh{us:Ji}(h:us.length=3):∃a a1 a2,us=[a,a1,a2]:=by
 obtain⟨a,r,e,g⟩:=EK h;obtain⟨a1,a2,z⟩:=Gz g;rw[z]at e;exact⟨_,_,_,e⟩
theorem OL{us:Ji}(h:us.length=4):∃a a1 a2 a3,us=[a,a1,a2,a3]:=by
 obtain⟨a,r,e,g⟩:=EK h;obtain⟨a1,a2,a3,z⟩:=Bh g;rw[z]at e;exact⟨_,_,_,_,e⟩
theorem Kx{us:Ji}(h:us.length=5):∃a a1 a2 a3 a4,us=[a,a1,a2,a3,a4]:=by
 obtain⟨a,r,e,g⟩:=EK h;obtain⟨a1,a2,a3,a4,z⟩:=OL g;rw[z]at e;exact⟨_,_,_,_,_,e⟩
theorem Og{us:Ji}(h:us.length=6):∃a a1 a2 a3 a4 a5,us=[a,a1,a2,a3,a4,a5]:=by
 obtain⟨a,r,e,g⟩:=EK h;obtain⟨a1,a2,a3,a4,a5,z⟩:=Kx g;rw[z]at e;exact⟨_,_,_,_,_,_,e⟩
theorem Zz{us:Ji}(h:us.length=7):∃a a1 a2 a3 a4 a5 a6,us=[a,a1,a2,a3,a4,a5,a6]:=by
 obtain⟨a,r,e,g⟩:=EK h;obtain⟨a1,a2,a3,a4,a5,a6,z⟩:=Og g;rw[z]at e;exact⟨_,_,_,_,_,_,_,e⟩
theorem yR{us:Ji}(h:us.length=8):∃a a1 a2 a3 a4 a5 a6 a7,us=[a,a1,a2,a3,a4,a5,a6,a7]:=by
 obtain⟨a,r,e,g⟩:=EK h;obtain⟨a1,a2,a3,a4,a5,a6,a7,z⟩:=Zz g;rw[z]at e;exact⟨_,_,_,_,_,_,_,_,e⟩
structure Dz(P:J9)(w:Jd)(K:Je)(mg:J5)(base:Jj):Prop where
 of:∀{n:Str} {v:Jf},W.nsIn K mainGlobals n=some (some v)->mg n=some v
 no:∀{n:Str},W.nsIn K mainGlobals n=some none->mg n=none
def FF(K:Je)(n q:Str)(st:Stmt)(f:Jg):Prop:=∃ (oc:Jf) (od:Option Addr) (kV dc pm:Jf) (an:Option Addr) (cd ct:Jf) (sl:Array (Option Value)),
 K.lookup f=some ⟨oc,od,.func (W.fnOf n q (Df st) (Jy st) (Jl st) .none kV dc pm an cd ct),sl⟩/\W.codeIn K cd q=true/\W.keepIn K (.ref f)=true
def GF(K:Je)(n:Str)(st:Stmt)(f:Jg):Prop:=W.nsIn K mainGlobals n=some (some (.ref f))/\FF K n n st f
def MF(K:Je)(C:Jg)(m q:Str)(st:Stmt)(f:Jg):Prop:=W.findIn K (.ref C) m=some (some (.ref f))/\W.isFn K (.ref f)=true/\FF K m q st f
def DF(K:Je)(C:Jg)(q:Str)(st:Stmt)(f T:Jg):Prop:=W.findIn K (.ref C) "__init__"=some (some (.ref f))/\W.isFn K (.ref f)=true/\∃ (oc:Jf) (od:Option Addr) (kV dc pm:Jf) (an:Option Addr) (cd ct:Jf) (sl:Array (Option Value)),
 K.lookup f=some ⟨oc,od,.func (W.fnOf "__init__" q (Df st) (Jy st) (Jl st) (.ref T) kV dc pm an cd ct),sl⟩/\W.codeIn K cd q=true/\∃ (oT:Option Addr) (nT:Nat) (sT:Array (Option Value)),K.lookup T=some ⟨.type "tuple",oT,.seq #[.bool false] nT,sT⟩
def CF(K:Je)(n:Str)(C:Jg):Prop:=W.nsIn K mainGlobals n=some (some (.ref C))/\Db K C/\W.makesIn K C=true/\W.keepIn K (.ref C)=true/\Bu K C
def NA(K:Je)(C:Jg):List Str->Prop
 |[]=>True
 |x::r=>W.findIn K (.ref C) x=some none/\NA K C r
def NS(K:Je):List Str->Prop
 |[]=>True
 |x::r=>W.nsIn K mainGlobals x=some none/\NS K r
section
variable{P:J9}{w:Jd}{K:Je}{mg:J5}{base:Jj}{n q m:Str}{st:Stmt}{f C:Jg}{k:Nat}{ps:List Str}{sp:Sp}
theorem FF.fn(h:FF K n q st f):∃fd,NK K n q st f fd/\W.keepIn K (.ref f)=true:=by
 obtain⟨g,e,kV,i,pm,o,j,ct,b,l,c,a⟩:=h;exact⟨_,Cr l c a,a⟩
theorem Dz.fb(E:Dz P w K mg base)(g:GF K n st f)(h:∀{fd},NK K n n st f fd->Ju P w K mg base N7 k f fd ps sp)
  (hb:∀ (kV doc pm:Jf) (an:Option Addr) (cdv ct:Jf) (us:Ji),us.length=ps.length->bindArgs (W.fnOf n n (Df st) (Jy st) (Jl st) .none kV doc pm an cdv ct) ⟨us,[]⟩=pure (ps.zip us)):Tc P w K mg base n k ps [] sp:=by
 obtain⟨fd,F,a⟩:=g.2.fn;exact⟨f,fd,[],h F,E.of g.1,a,F.binds hb,.nil⟩
theorem Dz.mb(E:Dz P w K mg base){cn:Str}(c:CF K cn C)(g:MF K C m q st f)(h:∀{fd},NK K m q st f fd->Ju P w K mg base N7 k f fd ps sp)
  (hb:∀ (kV doc pm:Jf) (an:Option Addr) (cdv ct:Jf) (us:Ji),us.length=ps.length->bindArgs (W.fnOf m q (Df st) (Jy st) (Jl st) .none kV doc pm an cdv ct) ⟨us,[]⟩=pure (ps.zip us)):T4 P w K mg base C m k ps [] sp:=by
 obtain⟨fd,F,a⟩:=g.2.2.fn;exact⟨f,fd,[],h F,c.2.1,⟨g.1,g.2.1,a⟩,F.binds hb,.nil⟩
theorem Dz.kb(E:Dz P w K mg base){cn:Str}(c:CF K cn C)(g:MF K C "__init__" q st f)
  (h:∀{fd},(∃ (oc:Jf) (od:Option Addr) (dV kV doc pm:Jf) (an:Option Addr) (cdv ct:Jf) (osl:Array (Option Value)),fd=W.fnOf "__init__" q (Df st) (Jy st) (Jl st) dV kV doc pm an cdv ct/\K.lookup f=some ⟨oc,od,.func fd,osl⟩/\W.codeIn K cdv q=true)->Ju P w K mg base N7 k f fd ps sp)
  (hb:∀ (kV doc pm:Jf) (an:Option Addr) (cdv ct:Jf) (us:Ji),us.length=ps.length->bindArgs (W.fnOf "__init__" q (Df st) (Jy st) (Jl st) .none kV doc pm an cdv ct) ⟨us,[]⟩=pure (ps.zip us)):Rj P w K mg base cn C k ps [] sp:=by
 obtain⟨oc,od,kV,i,pm,an,j,ct,b,l,a,e⟩:=g.2.2;exact⟨f,_,[],h ⟨oc,od,.none,kV,i,pm,an,j,ct,b,rfl,l,a⟩,E.of c.1,⟨c.2.2.1,g.1,g.2.1,c.2.2.2.1⟩,(Cr l a e).binds hb,.nil⟩
end
section
variable{X:Cx}{K:Je}
def jX(i j:Int):Prop:=0 < j/\j < 1267650600228229401496703205376
theorem Qn:Nz X (binaryOp .FloorDiv) (rI jX fun i j=>.int (i / j)):=Au fun i j _ _ _ _ _ a q=>by
 have h1:(0:Int) < j:=a.1;have h2:j < 1267650600228229401496703205376:=a.2;refine floordiv_int (by omega) (by rw[VZ i (by omega)];exact q) (.inl (PyProof.noPylong_of_log2 ?_));have:j.natAbs.log2 < 100:=(Nat.log2_lt (by omega)).mpr (by omega);omega
end
def GA(K:Je)(n:Str)(st:Stmt)(f c T:Jg):Prop:=W.nsIn K mainGlobals n=some (some (.ref f))/\∃ (oc:Jf) (od:Option Addr) (kV dc pm:Jf) (an:Option Addr) (ct:Jf) (sl:Array (Option Value)),
 K.lookup f=some ⟨oc,od,.func (W.fnOf n n (Df st) (Jy st) (Jl st) .none kV dc pm an (.ref c) ct),sl⟩/\W.codeIn K (.ref c) n=true/\W.keepIn K (.ref f)=true/\∃ (oc':Jf) (od':Option Addr) (vs:Array Value) (sl':Array (Option Value)),K.lookup c=some ⟨oc',od',.fields vs,sl'⟩/\vs[11]?=some (.ref T)
section
variable{P:J9}{w:Jd}{K:PySem.W.Frag}{mg:J5}{base:Jj}{n q m:Str}{st:Stmt}{f C c T W:Jg}{k:Nat}{ps:List Str}{sp sp0:Sp}
theorem GA.tab(g:GA K n st f c T):PySem.W.tabIn K n=some (c,T):=by
 obtain⟨h1,p,o,kV,s,pm,v,ct,j,h2,r,q,i,h,vs,e,b,a⟩:=g;exact gO h1 h2 rfl b a
theorem Dz.fa(E:Dz P w K mg base)(g:GA K n st f c T)(h:∀{fd},GL K n n st f fd (.ref c)->Ju P w K mg base N7 k f fd ps sp)
  (hb:∀ (kV doc pm:Jf) (an:Option Addr) (cdv ct:Jf) (us:Ji),us.length=ps.length->bindArgs (PySem.W.fnOf n n (Df st) (Jy st) (Jl st) .none kV doc pm an cdv ct) ⟨us,[]⟩=pure (ps.zip us)):Tc P w K mg base n k ps [] sp:=by
 obtain⟨h1,j,i,kV,o,pm,an,ct,e,h2,b,a,_⟩:=g;exact⟨f,_,[],h ⟨j,i,kV,o,pm,an,ct,e,rfl,h2,b⟩,E.of h1,a,(Cr h2 b a).binds hb,.nil⟩
end
end L2
namespace L2
open PySem PySem.Spec PyProof.Rows PySem.W
section
variable{O:KeyOrd}{key:Nat->O.α}
def Pc(O:KeyOrd)(key:Nat->O.α)(i j:Nat):Prop:=if i < j then O.blt (key j) (key i)=false else O.blt (key i) (key j)=true
theorem Pc.irr{i:Nat}(h:Pc O key i i):False:=by
 unfold Pc at h;rw[Y2 (Xo _),O.irrefl]at h;cases h
theorem Pc.le{i j:Nat}(h:Pc O key i j):O.kle (key i) (key j):=by
 unfold Pc at h;split at h
 .exact h
 .exact KeyOrd.kle_of_klt h
theorem Pc.trans{i j k:Nat}(h1:Pc O key i j)(h2:Pc O key j k):Pc O key i k:=by
 by_cases hik:i < k
 .unfold Pc;rw[Y3 hik];exact KeyOrd.kle_trans h1.le h2.le
 .have h:O.blt (key i) (key j)=true\/O.blt (key j) (key k)=true:=by
   by_cases hij:i < j
   .right;unfold Pc at h2;rw[Y2 (by lia)]at h2;exact h2
   .left;unfold Pc at h1;rw[Y2 hij]at h1;exact h1
  unfold Pc;rw[Y2 hik];rcases h with h|h
  .rcases O.negTrans _ (key k) _ h with a|a
   .exact a
   .have:=h2.le;unfold KeyOrd.kle at this;rw[this]at a;cases a
  .rcases O.negTrans _ (key i) _ h with a|a
   .have:=h1.le;unfold KeyOrd.kle at this;rw[this]at a;cases a
   .exact a
theorem Pc.tot{i j:Nat}(h:i≠j)(n:¬Pc O key i j):Pc O key j i:=by
 unfold Pc at n ⊢
 by_cases hij:i < j
 .rw[Y3 hij]at n;rw[Y2 (by lia)];simpa using n
 .rw[Y2 hij]at n;rw[Y3 (by lia)];simpa using n
theorem Pc.no{i j:Nat}(h:Pc O key i j):¬Pc O key j i:=fun h'=>(h.trans h').irr
theorem Pc.ask{i j:Nat}(h:i < j):M8 O key j i=true↔Pc O key j i:=by
 unfold Pc M8;rw[Y2 (by lia)]
theorem Pc.ask'{i j:Nat}(h:i < j):M8 O key j i=false↔Pc O key i j:=by
 unfold Pc M8;rw[Y3 h]
end
section
variable{prog:J9}{w:Jd}{A:Jc}{E:J6}{s:Ja}{O:KeyOrd}{key:Nat->O.α}{κ:SortKind}{it:Nat->Keyed}{N:Nat}
def Rm(prog:J9)(w:Jd)(A:Jc)(s:Ja)(κ:SortKind)(it:Nat->Keyed)(N:Nat)(lt:Nat->Nat->Bool):Prop:=
 ∀ (i j:Nat) (C:Bool->Shared->Prop),i < N->j < N->C (lt i j) s->wpAny (model prog w) A (keyLt' κ (it i).1 (it j).1) C (fun _ _=>False) s
structure GB(κ:SortKind)(it:Nat->Keyed)(l:List Nat)(st:SortSt):Prop where
 kind:kindOf st=κ
 ok:failedOf st=none
 arr:arrOf st=(l.map it).toArray
variable{lt:Nat->Nat->Bool}
theorem Ay{st:SortSt}{i j:Nat}{Q:Option Bool->SortSt->Prop}(C:Rm prog w A s κ it N lt)(hk:kindOf st=κ)(hi:i < N)(hj:j < N)(h:Q (some (lt i j)) st):
  wpS (model prog w) A E s (lt' (it i) (it j)) Q st:=by
 rw[lt'_eq];refine Yc (Vh ?_);rw[hk];refine Yc (VQ (Uk (YI (C i j (fun b s'=>s'=s/\b=lt i j) hi hj ⟨rfl,rfl⟩) (fun b s' q=>?_) fun _ _ e=>e.elim)));obtain⟨rfl,rfl⟩:=q;exact⟨rfl,Yi h⟩
theorem MW{st:SortSt}{v:Array Keyed}{i:Nat}{x:Keyed}{Q:Keyed->SortSt->Prop}(e:v[i]?=some x)(h:Q x st):wpS (model prog w) A E s (elem' v i) Q st:=by
 rw[elem'_eq,e];exact Yi h
def Q0:Bool->Keyed->Array Keyed->Nat->Nat->Nat->StateT SortSt Sem (Option Nat):=sortPriv%PySem.Builtin.gallop
theorem gF{st:SortSt}{left:Bool}{v:Array Keyed}{i x y:Nat}{Q:Option Bool->SortSt->Prop}(C:Rm prog w A s κ it N lt)(hk:kindOf st=κ)(hx:x < N)(hy:y < N)(e:v[i]?=some (it x))
  (h:Q (some (if left then lt x y else !lt y x)) st):
  wpS (model prog w) A E s (elem' v i >>=fun x=>if left=true then lt' x (it y) else lt' (it y) x >>=fun r=>pure (Option.map (fun x=> !x) r)) Q st:=by
 refine Yc (MW e ?_);cases left with
 |true=>exact Ay C hk hx hy h
 |false=>
  refine Yc (Ay C hk hy hx ?_);exact Yi h
theorem F1{k x a b:Nat}(h:a <=k - x)(q:b < a):b <=k - (x+ 1):=by rw[Vz];exact Nat.le_pred_of_lt (Yy q h)
theorem K7{l r:Nat}(q:l < r):l <=(l+ r) / 2/\(l+ r) / 2 < r:=⟨(Nat.le_div_iff_mul_le (by decide)).mpr (by lia),Nat.div_lt_of_lt_mul (by lia)⟩
theorem uG{l r:Nat}(q:l < r):(l+ r) / 2 - l < r - l:=Nat.sub_lt_sub_right (K7 q).1 (K7 q).2
theorem yY{l r:Nat}(q:l < r):r - ((l+ r) / 2+ 1) < r - l:=WW q (Nat.lt_succ_of_le (K7 q).1)
theorem xY{l r:Nat}(q:l < r):r - (l+ (r - l) / 2+ 1) < r - l:=WW q (Nat.lt_succ_of_le (Wm ..))
theorem vM{l r:Nat}(q:l < r):l+ (r - l) / 2 - l < r - l:=by rw[Wu];exact Nat.div_lt_self (Nat.sub_pos_of_lt q) (by decide)
theorem ZV{l r:Nat}(q:l < r):l+ (r - l) / 2 <=r:=by have:=Nat.div_le_self (r - l) 2;lia
theorem xL{t c o:Nat}(h:t+ 1 <=o\/t - o < c):t+ 1 - min o (t+ 1) <=c:=by
 by_cases q:t+ 1 <=o
 .rw[Nat.min_eq_right q,UP];exact Yx _
 .rw[XM (by lia)];have:=h.resolve_left q
  lia
theorem BA{st:SortSt}{left:Bool}{v:Array Keyed}{b n t y c:Nat}{Q:Option Nat->SortSt->Prop}(C:Rm prog w A s κ it N lt)(hk:kindOf st=κ)(hy:y < N)(ht:t < n)(hc:c <=n)
  (hb:∀i,i < n->∃x,x < N/\v[b+ i]?=some (it x)/\(if left then lt x y else !lt y x)=decide (i < c)) (h:Q (some c) st):
  wpS (model prog w) A E s (Q0 left (it y) v b n t) Q st:=by
 have ask:∀ (i:Nat) (R:Option Bool->SortSt->Prop),i < n->R (some (decide (i < c))) st->wpS (model prog w) A E s (elem' v (b+ i) >>=fun x=>if left=true then lt' x (it y) else lt' (it y) x >>=fun r=>pure (Option.map (fun x=> !x) r)) R st:=fun i R hi hR=>by
  obtain⟨x,hx,e,eb⟩:=hb i hi;refine gF C hk hx hy e ?_;rw[eb];exact hR
 have fin:∀ (f:Nat->Option (Option Nat)×Nat×Nat->StateT SortSt Sem (ForInStep (Option (Option Nat)×Nat×Nat))) (lo hi:Nat),
   (∀x lo hi (R:ForInStep (Option (Option Nat)×Nat×Nat)->SortSt->Prop),hi <=n->(hi <=lo->R (.done (none,lo,hi)) st)->(lo < hi->lo+ (hi - lo) / 2 < c->R (.yield (none,lo+ (hi - lo) / 2+ 1,hi)) st)->(lo < hi->c <=lo+ (hi - lo) / 2->R (.yield (none,lo,lo+ (hi - lo) / 2)) st)->wpS (model prog w) A E s (f x (none,lo,hi)) R st)->
   lo <=c->c <=hi->hi <=n->wpS (model prog w) A E s (forIn [0:n] (none,lo,hi) f) (fun r a=>a=st/\r=(none,c,c)) st:=fun f lo hi hf h1 h2 p=>by
  refine X7 (I:=fun x r a=>a=st/\∃lo hi,r=(none,lo,hi)/\lo <=c/\c <=hi/\hi <=n/\hi - lo <=n - x) ?_ ?_ ⟨rfl,lo,hi,rfl,h1,h2,p,by lia⟩
  .rintro x r a - hx ⟨rfl,lo,hi,rfl,h1,h2,p,z⟩;refine hf x lo hi _ p (fun q=>⟨rfl,?_⟩) (fun j g=>⟨rfl,_,_,rfl,g,h2,p,F1 z (xY j)⟩) fun j g=>⟨rfl,_,_,rfl,h1,g,YD (ZV j) p,F1 z (vM j)⟩
   obtain rfl:lo=c:=by lia
   obtain rfl:hi=lo:=by lia
   rfl
  .rintro r a ⟨rfl,lo,hi,rfl,h1,h2,p,z⟩;obtain rfl:lo=c:=by lia
   obtain rfl:hi=lo:=by lia
   exact⟨rfl,rfl⟩
 unfold Q0;refine Yc (ask t _ ht ?_)
 by_cases q:t < c
 .simp only[q,X9,if_true];refine Yc (XC (X7 (I:=fun x r a=>a=st/\∃l o,r=(none,l,o)/\t+ l < c/\x+ 1 <=o) (Q:=fun r a=>a=st/\∃l o,r=(none,l,o)/\t+ l < c/\(n - t <=o\/c <=t+ o)) ?_ ?_ ⟨rfl,0,1,rfl,by lia,by lia⟩) ?_)
  .rintro x r a - hx ⟨rfl,l,o,rfl,h1,h2⟩;dsimp only
   by_cases j:o≥n - t
   .rw[Y3 j];exact Yi ⟨rfl,l,o,rfl,h1,.inl j⟩
   .rw[Y2 j];refine Yc (ask _ _ (by lia) ?_)
    by_cases g:t+ o < c
    .simp only[g,X9,Bool.not_true,Bool.false_eq_true,if_false];exact Yi ⟨rfl,o,_,rfl,g,by lia⟩
    .simp only[g,X4,Bool.not_false,if_true];exact Yi ⟨rfl,l,o,rfl,h1,.inr (by lia)⟩
  .rintro r a ⟨rfl,l,o,rfl,h1,h2⟩;exact⟨rfl,l,o,rfl,h1,.inl (by lia)⟩
  .rintro r a ⟨rfl,l,o,rfl,h1,h2⟩;dsimp only;refine Yc (XC (fin _ _ _ ?_ (by lia) (by lia) (by lia)) ?_)
   .intro x lo hi R h1 h2 p z;dsimp only
    by_cases q:lo≥hi
    .rw[Y3 q];exact Yi (h2 q)
    .rw[Y2 q];refine Yc (ask _ _ (by lia) ?_)
     by_cases g:lo+ (hi - lo) / 2 < c
     .simp only[g,X9,if_true];exact Yi (p (by lia) g)
     .simp only[g,X4,Bool.false_eq_true,if_false];exact Yi (z (by lia) (by lia))
   rintro r st'' ⟨rfl,rfl⟩;exact Yi h
 .simp only[q,X4,Bool.false_eq_true,if_false];refine Yc (XC (X7 (I:=fun x r a=>a=st/\∃l o,r=(none,l,o)/\l <=t/\c <=t - l/\x+ 1 <=o) (Q:=fun r a=>a=st/\∃l o,r=(none,l,o)/\l <=t/\c <=t - l/\(t+ 1 <=o\/t - o < c)) ?_ ?_ ⟨rfl,0,1,rfl,by lia,by lia,by lia⟩) ?_)
  .rintro x r a - hx ⟨rfl,l,o,rfl,h0,h1,h2⟩;dsimp only
   by_cases j:o≥t+ 1
   .rw[Y3 j];exact Yi ⟨rfl,l,o,rfl,h0,h1,.inl j⟩
   .rw[Y2 j];refine Yc (ask _ _ (by lia) ?_)
    by_cases g:t - o < c
    .simp only[g,X9,if_true];exact Yi ⟨rfl,l,o,rfl,h0,h1,.inr g⟩
    .simp only[g,X4,Bool.false_eq_true,if_false];exact Yi ⟨rfl,o,_,rfl,by lia,by lia,by lia⟩
  .rintro r a ⟨rfl,l,o,rfl,h0,h1,h2⟩;exact⟨rfl,l,o,rfl,h0,h1,.inl (by lia)⟩
  .rintro r a ⟨rfl,l,o,rfl,h0,h1,h2⟩;dsimp only;refine Yc (XC (fin _ _ _ ?_ (xL h2) (by lia) (by lia)) ?_)
   .intro x lo hi R h1 h2 p z;dsimp only
    by_cases q:lo≥hi
    .rw[Y3 q];exact Yi (h2 q)
    .rw[Y2 q];refine Yc (ask _ _ (by lia) ?_)
     by_cases g:lo+ (hi - lo) / 2 < c
     .simp only[g,X9,if_true];exact Yi (p (by lia) g)
     .simp only[g,X4,Bool.false_eq_true,if_false];exact Yi (z (by lia) (by lia))
   rintro r st'' ⟨rfl,rfl⟩;exact Yi h
end
section
variable{P:Nat->Nat->Prop}{l zs rx ry:List Nat}
structure Mg(P:Nat->Nat->Prop)(l zs rx ry:List Nat):Prop where
 sx:(zs++rx).Pairwise P
 sy:(zs++ry).Pairwise P
 pm:(zs++(rx++ry)).Perm l
theorem Mg.x{cx:List Nat}(M:Mg P l zs (cx++rx) ry)(h:∀x∈cx,∀y∈ry,P x y):Mg P l (zs++cx) rx ry:=by
 refine⟨by simpa[List.append_assoc] using M.sx,?_,by simpa[List.append_assoc] using M.pm⟩;have a:=M.sx;have b:=M.sy;rw[Ys]at a b;rw[List.append_assoc,Ys,Ys];refine⟨a.1,⟨(Ys.mp a.2.1).1,b.2.1,h⟩,fun u c v e=>?_⟩;rcases Yq.mp e with q|q
 .exact a.2.2 u c v (Xf _ q)
 .exact b.2.2 u c v q
theorem Mg.swap(M:Mg P l zs rx ry):Mg P l zs ry rx:=⟨M.sy,M.sx,(Uf _ UQ).trans M.pm⟩
theorem Mg.y{cy:List Nat}(M:Mg P l zs rx (cy++ry))(h:∀x∈cy,∀y∈rx,P x y):Mg P l (zs++cy) rx ry:=(M.swap.x h).swap
theorem Hy(T:∀{i j k},P i j->P j k->P i k)(y:Nat):∀{l:List Nat},l.Pairwise P->∃c,c <=l.length/\∀i x,l[i]?=some x->(P x y↔i < c)
 |[],_=>⟨0,Y9 _,fun i x h=>by simp at h⟩
 |a::l,h=>by
  rw[XD]at h
  by_cases q:P a y
  .obtain⟨c,h1,h2⟩:=Hy T y h.2;refine⟨c+ 1,by simpa using h1,fun i x e=>?_⟩;cases i with
   |zero=>simp at e;subst e;exact⟨fun _=>by lia,fun _=>q⟩
   |succ i=>simp at e;rw[h2 i x e];lia
  .refine⟨0,by lia,fun i x e=>⟨fun p=>?_,fun p=>by lia⟩⟩;cases i with
   |zero=>simp at e;subst e;exact absurd p q
   |succ i=>simp at e;exact absurd (T (h.1 x (Yk e)) p) q
end
section
variable{P:Nat->Nat->Prop}{it:Nat->Keyed}{xs ys:List Nat}{out:Array Keyed}{ia ib k:Nat}
def Ri(P:Nat->Nat->Prop)(it:Nat->Keyed)(l:List Nat)(r:Array Keyed):Prop:=∃zs:List Nat,r=(zs.map it).toArray/\zs.Perm l/\zs.Pairwise P
def Dk(P:Nat->Nat->Prop)(it:Nat->Keyed)(xs ys:List Nat)(out:Array Keyed)(ia ib k:Nat):Prop:=
 ∃zs:List Nat,out=(zs.map it).toArray/\Mg P (xs++ys) zs (xs.drop ia) (ys.drop ib)/\k <=zs.length/\ia <=xs.length/\ib <=ys.length
theorem Ge(l:List Nat)(i j:Nat):((l.map it).toArray).extract i j=(((l.drop i).take (j - i)).map it).toArray:=by
 simp[List.extract_toArray,List.map_take,W8]
theorem Dk.len(h:Dk P it xs ys out ia ib k):k+ (xs.length - ia)+ (ys.length - ib) <=xs.length+ ys.length:=by
 obtain⟨zs,_,M,a,_,_⟩:=h;have:=M.pm.length_eq;simp at this;lia
theorem Dk.done(h:Dk P it xs ys out ia ib k)(e:ia=xs.length\/ib=ys.length):Ri P it (xs++ys) (out++((xs.map it).toArray).extract ia ((xs.map it).toArray).size++((ys.map it).toArray).extract ib ((ys.map it).toArray).size):=by
 obtain⟨zs,rfl,M,_,_,_⟩:=h;refine⟨zs++(xs.drop ia++ys.drop ib),?_,M.pm,?_⟩
 .rw[Ge,Ge];simp[Yv]
 .rcases e with rfl|rfl
  .simpa using M.sy
  .simpa using M.sx
theorem Dk.last(h:Dk P it xs ys out ia ib k)(e:ia+ 1=xs.length)(hl:∀x∈xs.drop ia,∀y∈ys,P y x):Ri P it (xs++ys) (out++((ys.map it).toArray).extract ib ((ys.map it).toArray).size++((xs.map it).toArray).extract ia ((xs.map it).toArray).size):=by
 obtain⟨zs,rfl,M,_,_,_⟩:=h;refine⟨zs++(ys.drop ib++xs.drop ia),?_,M.swap.pm,?_⟩
 .rw[Ge,Ge];simp[Yv]
 .have a:=M.sx;have b:=M.sy;rw[Ys]at a b ⊢;refine⟨a.1,Ys.mpr ⟨b.2.1,a.2.1,fun u c v f=>hl v f u (XG c)⟩,fun u c v f=>?_⟩;rcases Yq.mp f with q|q
  .exact b.2.2 u c v q
  .exact a.2.2 u c v q
theorem Dk.fromY(h:Dk P it xs ys out ia ib k){c:Nat}(hc:ib+ c <=ys.length)(hp:∀i x,i < c->ys[ib+ i]?=some x->∀u∈xs.drop ia,P x u):Dk P it xs ys (out++((ys.map it).toArray).extract ib (ib+ c)) ia (ib+ c) (k+ c):=by
 obtain⟨zs,rfl,M,h1,h2,f⟩:=h;have e:ys.drop ib=(ys.drop ib).take c++ys.drop (ib+ c):=by rw[<-List.drop_drop,YJ]
 refine⟨zs++(ys.drop ib).take c,?_,?_,?_,h2,hc⟩
 .rw[Ge];simp
 .rw[e]at M;refine M.y fun x a u b=>?_
  obtain⟨i,hi⟩:=YC.mp a;rw[YK]at hi
  split at hi
  .rename_i hic
   rw[YX]at hi;exact hp i x hic hi u b
  .cases hi
 .simp;lia
theorem Dk.fromX(h:Dk P it xs ys out ia ib k){c:Nat}(hc:ia+ c <=xs.length)(hp:∀i x,i < c->xs[ia+ i]?=some x->∀u∈ys.drop ib,P x u):Dk P it xs ys (out++((xs.map it).toArray).extract ia (ia+ c)) (ia+ c) ib (k+ c):=by
 obtain⟨zs,rfl,M,h1,h2,f⟩:=h;have e:xs.drop ia=(xs.drop ia).take c++xs.drop (ia+ c):=by rw[<-List.drop_drop,YJ]
 refine⟨zs++(xs.drop ia).take c,?_,?_,?_,hc,f⟩
 .rw[Ge];simp
 .rw[e]at M;refine M.x fun x a u b=>?_
  obtain⟨i,hi⟩:=YC.mp a;rw[YK]at hi
  split at hi
  .rename_i hic
   rw[YX]at hi;exact hp i x hic hi u b
  .cases hi
 .simp;lia
theorem BO{l:List Nat}{i x:Nat}(e:l[i]?=some x):out.push (it x)=out++((l.map it).toArray).extract i (i+ 1):=by
 rw[Ge];obtain⟨h,rfl⟩:=Y4.mp e;have:(l.drop i).take (i+ 1 - i)=[l[i]]:=by
  rw[show i+ 1 - i=1 by lia,X8 h];rfl
 rw[this];simp
theorem MQ{l:List Nat}{i x:Nat}(e:l[i]?=some x):((l.map it).toArray)[i]?=some (it x):=by simp[e]
end
section
variable{prog:J9}{w:Jd}{A:Jc}{E:J6}{s:Ja}{O:KeyOrd}{key:Nat->O.α}{κ:SortKind}{it:Nat->Keyed}{N:Nat}
structure Di(st st':SortSt):Prop where
 kind:kindOf st'=kindOf st
 arr:arrOf st'=arrOf st
 pend:pendingOf st'=pendingOf st
 fail:failedOf st'=failedOf st
structure DU(O:KeyOrd)(key:Nat->O.α)(N:Nat)(xs ys:List Nat):Prop where
 sx:xs.Pairwise (Pc O key)
 sy:ys.Pairwise (Pc O key)
 lo:∀x∈xs,∀y∈ys,x < y
 bx:∀x∈xs,x < N
 by':∀y∈ys,y < N
structure RM(O:KeyOrd)(key:Nat->O.α)(N:Nat)(xs ys:List Nat):Prop extends DU O key N xs ys where
 first:∀x y,xs[0]?=some x->ys[0]?=some y->Pc O key y x
 last:∀x y,xs[xs.length - 1]?=some x->ys[ys.length - 1]?=some y->Pc O key y x
 nx:0 < xs.length
 ny:0 < ys.length
section
variable{xs ys:List Nat}{out:Array Keyed}{ia ib k:Nat}
theorem E6{l:List Nat}{i x y:Nat}(S:l.Pairwise (Pc O key))(e:l[i]?=some x)(p:Pc O key y x):∀u∈l.drop i,Pc O key y u:=fun u b=>by
 obtain⟨h,rfl⟩:=Y4.mp e;have a:=S.sublist (UH i l);rw[X8 h]at b a;rw[XD]at a;rcases Ym.mp b with rfl|q
 .exact p
 .exact p.trans (a.1 u q)
theorem Hg{l:List Nat}{x y:Nat}(S:l.Pairwise (Pc O key))(e:l[l.length - 1]?=some x)(p:Pc O key x y):∀u∈l,Pc O key u y:=fun u a=>by
 obtain⟨i,hi⟩:=YC.mp a;obtain⟨h,rfl⟩:=Y4.mp hi;obtain⟨h',rfl⟩:=Y4.mp e
 by_cases q:i=l.length - 1
 .subst q;exact p
 .exact(YO.mp S i _ h h' (by lia)).trans p
theorem RM.lastY(T:RM O key N xs ys)(e:ia+ 1=xs.length):∀x∈xs.drop ia,∀y∈ys,Pc O key y x:=fun x a=>by
 have b:xs.drop ia=[xs[ia]'(by lia)]:=by rw[X8 (by lia),WE (by lia)]
 rw[b]at a;obtain rfl:=Yb.mp a;exact Hg T.sy (Y7 (by have:=T.ny;lia)) (T.last _ _ (by rw[Y4];exact⟨by lia,by congr 1;lia⟩) (Y7 (by have:=T.ny;lia)))
theorem DU.ne(T:DU O key N xs ys){x y:Nat}(hx:x∈xs)(hy:y∈ys):x≠y:=Yo (T.lo x hx y hy)
theorem Td{l:List Nat}{i x:Nat}(e:l[i]?=some x):x∈l:=Yk e
theorem Mn{l:List Nat}{i:Nat}(h:i < l.length):∃x,l[i]?=some x:=⟨_,Y7 h⟩
theorem RM.start(T:RM O key N xs ys){y:Nat}(e:ys[0]?=some y):Dk (Pc O key) it xs ys #[it y] 0 1 1:=by
 have a:Dk (Pc O key) it xs ys #[] 0 0 0:=⟨[],rfl,⟨by simpa using T.sx,by simpa using T.sy,by simp⟩,Yx _,Yx _,Yx _⟩;obtain⟨x,f⟩:=Mn T.nx;have b:=a.fromY (c:=1) (by have:=T.ny;lia) fun i z hi g=>by
  obtain rfl:i=0:=by lia
  rw[XQ,e]at g;cases g;exact E6 T.sx f (T.first _ _ f e)
 rw[<-BO e]at b;simpa using b
theorem DU.galR(T:DU O key N xs ys){y:Nat}(hy:y∈ys)(ia n:Nat)(hn:ia+ n <=xs.length):∃c,c <=n/\(∀i,i < n->∃x,x < N/\((xs.map it).toArray)[ia+ i]?=some (it x)/\(if false=true then M8 O key x y else !M8 O key y x)=decide (i < c))/\∀i x,i < n->xs[ia+ i]?=some x->(i < c->Pc O key x y)/\(c <=i->Pc O key y x):=by
 obtain⟨c,h1,h2⟩:=Hy (P:=Pc O key) (fun a b=>a.trans b) y (T.sx.sublist ((Ul n (xs.drop ia)).trans (UH ia xs)));have f:c <=n:=by simp at h1;lia
 have at':∀i x,i < n->xs[ia+ i]?=some x->(Pc O key x y↔i < c):=fun i x hi e=>h2 i x (by rw[YK,Y3 hi,YX];exact e)
 refine⟨c,f,fun i hi=>?_,fun i x hi e=>⟨(at' i x hi e).mpr,fun q=>Pc.tot (T.ne (Td e) hy) fun p=>by have:=(at' i x hi e).mp p;lia⟩⟩;obtain⟨x,e⟩:=Mn (l:=xs) (i:=ia+ i) (by lia);refine⟨x,T.bx x (Td e),MQ e,?_⟩;rw[Y2 (by decide)]
 by_cases q:i < c
 .rw[(Pc.ask' (T.lo x (Td e) y hy)).mpr ((at' i x hi e).mpr q)];simp[q]
 .rw[(Pc.ask (T.lo x (Td e) y hy)).mpr (Pc.tot (T.ne (Td e) hy) fun p=>q ((at' i x hi e).mp p))];simp[q]
theorem DU.galL(T:DU O key N xs ys){x:Nat}(hx:x∈xs)(ib n:Nat)(hn:ib+ n <=ys.length):∃c,c <=n/\(∀i,i < n->∃y,y < N/\((ys.map it).toArray)[ib+ i]?=some (it y)/\(if true=true then M8 O key y x else !M8 O key x y)=decide (i < c))/\∀i y,i < n->ys[ib+ i]?=some y->(i < c->Pc O key y x)/\(c <=i->Pc O key x y):=by
 obtain⟨c,h1,h2⟩:=Hy (P:=Pc O key) (fun a b=>a.trans b) x (T.sy.sublist ((Ul n (ys.drop ib)).trans (UH ib ys)));have f:c <=n:=by simp at h1;lia
 have at':∀i y,i < n->ys[ib+ i]?=some y->(Pc O key y x↔i < c):=fun i y hi e=>h2 i y (by rw[YK,Y3 hi,YX];exact e)
 refine⟨c,f,fun i hi=>?_,fun i y hi e=>⟨(at' i y hi e).mpr,fun q=>Pc.tot (T.ne hx (Td e)).symm fun p=>by have:=(at' i y hi e).mp p;lia⟩⟩;obtain⟨y,e⟩:=Mn (l:=ys) (i:=ib+ i) (by lia);refine⟨y,T.by' y (Td e),MQ e,?_⟩;rw[Y3 rfl]
 by_cases q:i < c
 .rw[(Pc.ask (T.lo x hx y (Td e))).mpr ((at' i y hi e).mpr q)];simp[q]
 .rw[(Pc.ask' (T.lo x hx y (Td e))).mpr (Pc.tot (T.ne hx (Td e)).symm fun p=>q ((at' i y hi e).mp p))];simp[q]
end
theorem Di.rfl'(st:SortSt):Di st st:=⟨rfl,rfl,rfl,rfl⟩
theorem Di.trans{a b c:SortSt}(h1:Di a b)(h2:Di b c):Di a c:=⟨h2.1.trans h1.1,h2.2.trans h1.2,h2.3.trans h1.3,h2.4.trans h1.4⟩
theorem Dw{τ β:Type}{M:Model}{a b:StateT τ Sem β}{Q:β->τ->Prop}{st:τ}{c:Prop}{dc:Decidable c}(h:c)(H:wpS M A E s a Q st):wpS M A E s (if c then a else b) Q st:=by rw[Y3 h];exact H
theorem Dv{τ β:Type}{M:Model}{a b:StateT τ Sem β}{Q:β->τ->Prop}{st:τ}{c:Prop}{dc:Decidable c}(h:¬c)(H:wpS M A E s b Q st):wpS M A E s (if c then a else b) Q st:=by rw[Y2 h];exact H
theorem Qq{τ α β:Type}{M:Model}{X:α->StateT τ Sem β}{Q:β->τ->Prop}{st:τ}{c:Prop}{dc:Decidable c}{a b:α}(h:∀g,wpS M A E s (X g) Q st):wpS M A E s (if c then X a else X b) Q st:=by
 split
 .exact h _
 .exact h _
theorem FD{τ α γ β:Type}{M:Model}{X:α->γ->StateT τ Sem β}{B:StateT τ Sem β}{Q:β->τ->Prop}{st:τ}{c:Prop}{dc:Decidable c}{o:α}{i:γ}(P:α->γ->Prop)(hX:∀a b,P a b->wpS M A E s (X a b) Q st)
  (h1:c->(∀a b,P a b->wpS M A E s (X a b) Q st)->wpS M A E s B Q st) (h0:¬c->P o i):wpS M A E s (if c then B else X o i) Q st:=by
 split
 .exact h1 ‹_› hX
 .exact hX _ _ (h0 ‹_›)
def Sw:Nat->StateT SortSt Sem Unit:=sortPriv%PySem.Builtin.setMinGallop
theorem CB{st:SortSt}{g:Nat}{Q:Unit->SortSt->Prop}(h:∀st',Di st st'->Q () st'):wpS (model prog w) A E s (Sw g) Q st:=by
 unfold Sw;refine UX (h _ ⟨rfl,rfl,rfl,rfl⟩)
def SB:Array Keyed->Array Keyed->StateT SortSt Sem (Array Keyed):=sortPriv%PySem.Builtin.mergeLo
theorem aZ{st:SortSt}{xs ys:List Nat}{Q:Array Keyed->SortSt->Prop}(C:Rm prog w A s κ it N (M8 O key))(hk:kindOf st=κ)(T:RM O key N xs ys)
  (h:∀r st',Di st st'->Ri (Pc O key) it (xs++ys) r->Q r st'):wpS (model prog w) A E s (SB (xs.map it).toArray (ys.map it).toArray) Q st:=by
 unfold SB;refine Yc (VQ (Ua ⟨rfl,?_⟩));obtain⟨y0,hy0⟩:=Mn T.ny;have hst:=T.start (it:=it) hy0;refine Yc (MW (MQ hy0) ?_);have zx:(xs.map it).toArray.size=xs.length:=by simp
 have zy:(ys.map it).toArray.size=ys.length:=by simp
 have nx:=T.nx;have ny:=T.ny;dsimp only
 by_cases q1:1=ys.length
 .refine Dw (by rw[zy];simp[q1]) ?_;exact Yi (h _ _ (.rfl' _) (hst.done (.inr q1)))
 refine Dv (by rw[zy];simpa using q1) ?_
 by_cases q2:0+ 1=xs.length
 .refine Dw (by rw[zx];simpa using q2) ?_;exact Yi (h _ _ (.rfl' _) (hst.last q2 (T.lastY q2)))
 refine Dv (by rw [zx]; simpa using q2) ?_;refine Yc (Vh ?_);refine Yc (XC (X7
  (I:=fun x r st'=>Di st st'/\∃out ia ib g k,r=(none,out,ia,ib,g)/\Dk (Pc O key) it xs ys out ia ib k/\x <=k/\ia+ 1 < xs.length/\ib < ys.length)
  (Q := fun r st' => Di st st' /\ ∃ z u, r = (some z, u) /\ Ri (Pc O key) it (xs ++ ys) z) ?_ ?_ ⟨.rfl' _, _, _, _, _, _, rfl, hst, by lia, by lia, by lia⟩) ?_)
 case _=>
  rintro x r st' - hx ⟨K, out, ia, ib, g, k, rfl, M, hk', h1, h2⟩;dsimp -zeta only;refine Yc (XC (X7
   (I:=fun x r st'=>Di st st'/\∃out ia ib v n j,r=(none,out,ia,ib,v,n)/\Dk (Pc O key) it xs ys out ia ib j/\k+ x <=j/\ia+ 1 < xs.length/\ib < ys.length)
   (Q := fun r st' => Di st st' /\ ((∃ z u, r = (some z, u) /\ Ri (Pc O key) it (xs ++ ys) z) \/ ∃ out ia ib v n j, r = (none, out, ia, ib, v, n) /\ Dk (Pc O key) it xs ys out ia ib j /\ k + 1 <= j /\ ia + 1 < xs.length /\ ib < ys.length)) ?_ ?_ ⟨K, _, _, _, _, _, _, rfl, M, by lia, h1, h2⟩) ?_)
  case _=>
   clear K M h1 h2 hk' hst;rintro x r st' - hx ⟨K,out,ia,ib,v,n,j,rfl,M,hj,h1,h2⟩;dsimp only;obtain⟨x,ex⟩:=Mn (l:=xs) (i:=ia) (by lia);obtain⟨y,e⟩:=Mn (l:=ys) (i:=ib) (by lia);have lxy:=T.lo _ (Td ex) _ (Td e);refine Yc (MW (MQ e) ?_);refine Yc (MW (MQ ex) ?_);refine Yc (Ay C (K.kind.trans hk) (T.by' _ (Td e)) (T.bx _ (Td ex)) ?_);cases q:M8 O key y x with
   |true=>
    have p:=(Pc.ask lxy).mp q;have M':=M.fromY (c:=1) (by lia) fun i z hi f=>by
     obtain rfl:i=0:=by lia
     rw[UR,e]at f;cases f;exact E6 T.sx ex p
    rw[<-BO e]at M';refine Dw rfl ?_;refine Yc (MW (MQ e) ?_);rw[zy]
    by_cases q3:ib+ 1=ys.length
    .refine Dw (by simpa using q3) ?_;exact Yi ⟨K,.inl ⟨_,_,rfl,by rw[<-zy];exact M'.done (.inr q3)⟩⟩
    .refine Dv (by simpa using q3) ?_
     split
     .exact Yi ⟨K,.inr ⟨_,_,_,_,_,_,rfl,M',by lia,h1,by lia⟩⟩
     .exact Yi ⟨K,_,_,_,_,_,_,rfl,M',by lia,h1,by lia⟩
   |false=>
    have p:=(Pc.ask' lxy).mp q;have M':=M.fromX (c:=1) (by lia) fun i z hi f=>by
     obtain rfl:i=0:=by lia
     rw[UR,ex]at f;cases f;exact E6 T.sy e p
    rw[<-BO ex]at M';refine Dv Yg ?_;refine Yc (MW (MQ ex) ?_);rw[zx]
    by_cases q3:ia+ 1+ 1=xs.length
    .refine Dw (by simpa using q3) ?_;exact Yi ⟨K,.inl ⟨_,_,rfl,by rw[<-zx];exact M'.last q3 (T.lastY q3)⟩⟩
    .refine Dv (by simpa using q3) ?_
     split
     .exact Yi ⟨K,.inr ⟨_,_,_,_,_,_,rfl,M',by lia,by lia,h2⟩⟩
     .exact Yi ⟨K,_,_,_,_,_,_,rfl,M',by lia,by lia,h2⟩
  case _=>
   rintro r st' ⟨K,out,ia,ib,v,n,j,rfl,M,hj,h1,h2⟩;exact⟨K,.inr ⟨_,_,_,_,_,_,rfl,M,by rw[zx,zy]at hj;lia,h1,h2⟩⟩
  case _=>
   clear K M h1 h2 hst;rintro r st' ⟨K,⟨z,u,rfl,F⟩|⟨out,ia,ib,v,n,j,rfl,M,hj,h1,h2⟩⟩
   .exact Yi ⟨K,_,_,rfl,F⟩
   dsimp -zeta only;refine Yc (VQ (Ua ⟨rfl, ?_⟩));refine Yc (XC (X7
    (I:=fun x r st'=>Di st st'/\∃out ia ib g v n j,r=(none,out,ia,ib,g,v,n)/\Dk (Pc O key) it xs ys out ia ib j/\k+ 1 <=j/\ia+ 1 < xs.length/\ib < ys.length)
    (Q := fun r st' => Di st st' /\ ((∃ z u, r = (some z, u) /\ Ri (Pc O key) it (xs ++ ys) z) \/ ∃ out ia ib g v n j, r = (none, out, ia, ib, g, v, n) /\ Dk (Pc O key) it xs ys out ia ib j /\ k + 1 <= j /\ ia + 1 < xs.length /\ ib < ys.length)) ?_ ?_ ⟨K, _, _, _, _, _, _, _, rfl, M, by lia, h1, h2⟩) ?_)
   case _=>
    clear K M h1 h2 hj;rintro x r st' - hx ⟨K,out,ia,ib,g,v,n,j,rfl,M,hj,h1,h2⟩;dsimp only;obtain⟨y,e⟩:=Mn (l:=ys) (i:=ib) (by lia);generalize g - 1=g1;apply Qq (a:=g1) (b:=g);intro g';refine Yc (CB fun st1 K1=>?_);have K2:=K.trans K1;refine Yc (MW (MQ e) ?_);obtain⟨c,hc,hb,hx'⟩:=T.galR (it:=it) (Td e) ia (xs.length - ia) (by lia);rw[zx,zy];refine Yc (BA C (K2.kind.trans hk) (T.by' _ (Td e)) (by lia) hc hb ?_);dsimp only;have y1:∀x,xs[ia+ c]?=some x->Pc O key y x:=fun x ex=>(hx' c x (by have:=(Y4.mp ex).1;lia) ex).2 (Y9 _)
    apply FD (o:=out) (i:=ia) (fun o1 i1=>∃j1,Dk (Pc O key) it xs ys o1 i1 ib j1/\(∀x,xs[i1]?=some x->Pc O key y x)/\i1+ 1 < xs.length/\k+ 1 <=j1)
    rotate_left
    .intro q0 J;have M1:=M.fromX (c:=c) (by lia) (fun i z hi f=>E6 T.sy e ((hx' i z (by lia) f).1 hi))
     by_cases q3:ia+ c+ 1=xs.length
     .refine Dw (by simpa using q3) ?_;exact Yi ⟨K2,.inl ⟨_,_,rfl,by rw[<-zx,<-zy];exact M1.last q3 (T.lastY q3)⟩⟩
     refine Dv (by simpa using q3) ?_
     by_cases q4:ia+ c=xs.length
     .refine Dw (by simpa using q4) ?_;exact Yi ⟨K2,.inl ⟨_,_,rfl,by have:=M1.done (.inl q4);simpa only[zx,zy] using this⟩⟩
     refine Dv (by simpa using q4) ?_;exact J _ _ ⟨_,M1,y1,by lia,by lia⟩
    .intro q0;obtain rfl:c=0:=by lia
     exact⟨_,M,y1,h1,hj⟩
    clear hb hx' y1 hc M h1 hj;rintro o1 i1 ⟨j1,M1,y1,l1,l2⟩;refine Yc (MW (MQ e) ?_);obtain⟨x1,ex⟩:=Mn (l:=xs) (i:=i1) (by lia);have M2:=M1.fromY (c:=1) (by lia) fun i z hi f=>by
     obtain rfl:i=0:=by lia
     rw[UR,e]at f;cases f;exact E6 T.sx ex (y1 _ ex)
    rw[<-BO e]at M2
    by_cases q5:ib+ 1=ys.length
    .refine Dw (by simpa using q5) ?_;exact Yi ⟨K2,.inl ⟨_,_,rfl,by have:=M2.done (.inr q5);simpa only[zx,zy] using this⟩⟩
    refine Dv (by simpa using q5) ?_;refine Yc (MW (MQ ex) ?_);obtain⟨d,hd,hb2,hy2⟩:=T.galL (it:=it) (Td ex) (ib+ 1) (ys.length - (ib+ 1)) (by lia);refine Yc (BA C (K2.kind.trans hk) (T.bx _ (Td ex)) (by lia) hd hb2 ?_);dsimp only;have x2:∀y,ys[ib+ 1+ d]?=some y->Pc O key x1 y:=fun y e=>(hy2 d y (by have:=(Y4.mp e).1;lia) e).2 (Y9 _)
    obtain⟨o2,eo2⟩:∃o2,o2=o1.push (it y):=⟨_,rfl⟩;obtain⟨i2,ei2⟩:∃i2,i2=ib+ 1:=⟨_,rfl⟩;rw[<-eo2,<-ei2]at M2;rw[<-ei2]at hy2 x2 hd q5;rw[<-eo2,<-ei2];apply FD (o:=o2) (i:=i2) (fun o2 i2=>∃j2,Dk (Pc O key) it xs ys o2 i1 i2 j2/\(∀y,ys[i2]?=some y->Pc O key x1 y)/\i2 < ys.length/\k+ 1 <=j2)
    rotate_left
    .intro q6 J;have M3:=M2.fromY (c:=d) (by lia) (fun i z hi f=>E6 T.sx ex ((hy2 i z (by lia) f).1 hi))
     by_cases q7:i2+ d=ys.length
     .refine Dw (by simpa using q7) ?_;exact Yi ⟨K2,.inl ⟨_,_,rfl,by have:=M3.done (.inr q7);simpa only[zx,zy] using this⟩⟩
     refine Dv (by simpa using q7) ?_;exact J _ _ ⟨_,M3,x2,by lia,by lia⟩
    .intro q6;obtain rfl:d=0:=by lia
     exact⟨_,M2,x2,by lia,by lia⟩
    clear hb2 hy2 x2 hd M2 M1 q5 y1 l2 ei2 eo2 i2 o2;rintro o2 i2 ⟨j2,M3,x2,l3,l4⟩;refine Yc (MW (MQ ex) ?_);obtain⟨y2,ey2⟩:=Mn (l:=ys) (i:=i2) l3;have M4:=M3.fromX (c:=1) (by lia) fun i z hi f=>by
     obtain rfl:i=0:=by lia
     rw[UR,ex]at f;cases f;exact E6 T.sy ey2 (x2 _ ey2)
    rw[<-BO ex]at M4
    by_cases q8:i1+ 1+ 1=xs.length
    .refine Dw (by simpa using q8) ?_;exact Yi ⟨K2,.inl ⟨_,_,rfl,by have:=M4.last q8 (T.lastY q8);simpa only[zx,zy] using this⟩⟩
    refine Dv (by simpa using q8) ?_
    split
    .exact Yi ⟨K2,.inr ⟨_,_,_,_,_,_,_,rfl,M4,by lia,by lia,l3⟩⟩
    .exact Yi ⟨K2,_,_,_,_,_,_,_,rfl,M4,by lia,by lia,l3⟩
   case _=>
    rintro r st' ⟨K,out,ia,ib,g,v,n,j,rfl,M,hj,h1,h2⟩;exact⟨K,.inr ⟨_,_,_,_,_,_,_,rfl,M,hj,h1,h2⟩⟩
   case _=>
    rintro r st' ⟨K,⟨z,u,rfl,F⟩|⟨out,ia,ib,g,v,n,j,rfl,M,hj,h1,h2⟩⟩
    .exact Yi ⟨K,_,_,rfl,F⟩
    dsimp -zeta only;refine Yc (CB fun st'' K'=>?_);exact Yi ⟨K.trans K',_,_,_,_,_,rfl,M,by lia,h1,h2⟩
 case _=>
  rintro r st' ⟨K,out,ia,ib,g,k,rfl,M,hk',h1,h2⟩;have:=M.len;rw[zx,zy]at hk'
  lia
 case _=>
  rintro r st' ⟨K,z,u,rfl,F⟩;exact Yi (h _ _ K F)
end
section
variable{P:Nat->Nat->Prop}{it:Nat->Keyed}{xs ys:List Nat}{out:Array Keyed}{na nb k:Nat}
def MS(P:Nat->Nat->Prop)(it:Nat->Keyed)(xs ys:List Nat)(out:Array Keyed)(na nb k:Nat):Prop:=
 ∃zs:List Nat,out=(zs.map it).toArray/\Mg (fun a b=>P b a) (xs++ys) zs (xs.take na).reverse (ys.take nb).reverse/\k <=zs.length/\na <=xs.length/\nb <=ys.length
theorem MS.len(h:MS P it xs ys out na nb k):k+ na+ nb <=xs.length+ ys.length:=by
 obtain⟨zs,_,M,a,_,_⟩:=h;have:=M.pm.length_eq;simp at this;lia
theorem MS.res{zs:List Nat}(M:Mg (fun a b=>P b a) (xs++ys) zs (xs.take na).reverse (ys.take nb).reverse):(xs.take na++zs.reverse).Pairwise P/\(ys.take nb++zs.reverse).Pairwise P/\(xs.take na++(ys.take nb++zs.reverse)).Perm (xs++ys):=by
 refine⟨?_,?_,?_⟩
 .have:=XW.mpr M.sx;simpa using this
 .have:=XW.mpr M.sy;simpa using this
 .refine List.Perm.trans ?_ M.pm;rw[<-List.append_assoc];refine UQ.trans ?_;exact(Xy _).append ((Xy _).symm.append (Xy _).symm)
theorem MS.done(h:MS P it xs ys out na nb k)(e:na=0\/nb=0):Ri P it (xs++ys) (((xs.map it).toArray).extract 0 na++((ys.map it).toArray).extract 0 nb++out.reverse):=by
 obtain⟨zs,rfl,M,_,_,_⟩:=h;obtain⟨c,b,a⟩:=MS.res M;refine⟨xs.take na++(ys.take nb++zs.reverse),?_,a,?_⟩
 .rw[Ge,Ge];simp
 .rcases e with rfl|rfl
  .simpa using b
  .simpa using c
theorem MS.first(h:MS P it xs ys out na nb k)(hl:∀y∈ys.take nb,∀x∈xs,P y x):Ri P it (xs++ys) (((ys.map it).toArray).extract 0 nb++((xs.map it).toArray).extract 0 na++out.reverse):=by
 obtain⟨zs,rfl,M,_,_,_⟩:=h;obtain⟨b,a,e⟩:=MS.res M;refine⟨ys.take nb++(xs.take na++zs.reverse),?_,List.Perm.trans ?_ e,?_⟩
 .rw[Ge,Ge];simp
 .rw[<-List.append_assoc,<-List.append_assoc];exact UQ.append_right _
 .rw[Ys]at b a;refine Ys.mpr ⟨a.1,Ys.mpr b,fun u c v f=>?_⟩;rcases Yq.mp f with q|q
  .exact hl u c v (YV q)
  .exact a.2.2 u c v q
theorem OM{l:List Nat}{n c:Nat}(hc:c <=n):(l.take n).reverse=((l.drop (n - c)).take (n - (n - c))).reverse++(l.take (n - c)).reverse:=by
 rw[<-List.reverse_append]
 congr 1
 rw[<-List.take_add];congr 1;lia
theorem MS.fromX(h:MS P it xs ys out na nb k){c:Nat}(hc:c <=na)(hp:∀i x,na - c <=i->i < na->xs[i]?=some x->∀u∈ys.take nb,P u x):MS P it xs ys (out++(((xs.map it).toArray).extract (na - c) na).reverse) (na - c) nb (k+ c):=by
 obtain⟨zs,rfl,M,h1,h2,e⟩:=h;refine⟨zs++((xs.drop (na - c)).take (na - (na - c))).reverse,?_,?_,?_,by lia,e⟩
 .rw[Ge];simp
 .rw[OM hc]at M;refine M.x fun x a u b=>?_
  rw[Wq]at a b;obtain⟨i,hi⟩:=YC.mp a;rw[YK]at hi
  split at hi
  .rename_i hic
   rw[YX]at hi;exact hp _ x (by lia) (by lia) hi u b
  .cases hi
 .simp;lia
theorem MS.fromY(h:MS P it xs ys out na nb k){c:Nat}(hc:c <=nb)(hp:∀i x,nb - c <=i->i < nb->ys[i]?=some x->∀u∈xs.take na,P u x):MS P it xs ys (out++(((ys.map it).toArray).extract (nb - c) nb).reverse) na (nb - c) (k+ c):=by
 obtain⟨zs,rfl,M,h1,h2,e⟩:=h;refine⟨zs++((ys.drop (nb - c)).take (nb - (nb - c))).reverse,?_,?_,?_,h2,by lia⟩
 .rw[Ge];simp
 .rw[OM (l:=ys) hc]at M;refine M.y fun x a u b=>?_
  rw[Wq]at a b;obtain⟨i,hi⟩:=YC.mp a;rw[YK]at hi
  split at hi
  .rename_i hic
   rw[YX]at hi;exact hp _ x (by lia) (by lia) hi u b
  .cases hi
 .simp;lia
theorem AT{l:List Nat}{n x:Nat}(hn:1 <=n)(e:l[n - 1]?=some x):out.push (it x)=out++(((l.map it).toArray).extract (n - 1) n).reverse:=by
 have:=BO (it:=it) (out:=out) e;rw[this,show n - 1+ 1=n by lia,Ge];obtain⟨h,rfl⟩:=Y4.mp e;have a:(l.drop (n - 1)).take (n - (n - 1))=[l[n - 1]]:=by
  rw[show n - (n - 1)=1 by lia,X8 h];rfl
 rw[a];simp
end
section
variable{prog:J9}{w:Jd}{A:Jc}{E:J6}{s:Ja}{O:KeyOrd}{key:Nat->O.α}{κ:SortKind}{it:Nat->Keyed}{N:Nat}{xs ys:List Nat}
theorem Bx{l:List Nat}{n x y:Nat}(S:l.Pairwise (Pc O key))(e:l[n - 1]?=some x)(p:Pc O key x y):∀u∈l.take n,Pc O key u y:=fun u a=>by
 obtain⟨i,hi⟩:=YC.mp a;rw[YK]at hi
 split at hi
 .rename_i hin
  obtain⟨h,rfl⟩:=Y4.mp hi;obtain⟨h',rfl⟩:=Y4.mp e
  by_cases q:i=n - 1
  .subst q;exact p
  .exact(YO.mp S i _ h h' (by lia)).trans p
 .cases hi
theorem RM.firstX(T:RM O key N xs ys){nb:Nat}(e:nb=1):∀y∈ys.take nb,∀x∈xs,Pc O key y x:=fun y b x g=>by
 subst e;obtain⟨f,c⟩:=Mn T.ny;obtain⟨i,h1⟩:=Mn T.nx;have:ys.take 1=[f]:=by
  obtain⟨h,rfl⟩:=Y4.mp c;cases ys with
  |nil=>cases h
  |cons a l=>rfl
 rw[this]at b;obtain rfl:=Yb.mp b;exact E6 T.sx h1 (T.first _ _ h1 c) x (by simpa using g)
theorem RM.startR(T:RM O key N xs ys){x:Nat}(e:xs[xs.length - 1]?=some x):MS (Pc O key) it xs ys #[it x] (xs.length - 1) ys.length 1:=by
 have a:MS (Pc O key) it xs ys #[] xs.length ys.length 0:=⟨[],rfl,⟨?_,?_,?_⟩,Yx _,Y9 _,Y9 _⟩
 .have b:=a.fromX (c:=1) (by have:=T.nx;lia) fun i z h1 h2 f=>by
   obtain rfl:i=xs.length - 1:=by lia
   rw[e]at f;cases f;rw[Vq];exact fun u g=>T.lastY (ia:=xs.length - 1) (by lia) x (YC.mpr ⟨0,by simpa using e⟩) u g
  rw[<-AT (by have:=T.nx;lia) e]at b;simpa using b
 .simpa[XW] using T.sx
 .simpa[XW] using T.sy
 .simp only[Vq,List.nil_append];exact(Xy _).append (Xy _)
def Si:Array Keyed->Array Keyed->StateT SortSt Sem (Array Keyed):=sortPriv%PySem.Builtin.mergeHi
theorem dJ{st:SortSt}{Q:Array Keyed->SortSt->Prop}(C:Rm prog w A s κ it N (M8 O key))(hk:kindOf st=κ)(T:RM O key N xs ys)
  (h:∀r st',Di st st'->Ri (Pc O key) it (xs++ys) r->Q r st'):wpS (model prog w) A E s (Si (xs.map it).toArray (ys.map it).toArray) Q st:=by
 unfold Si;refine Yc (VQ (Ua ⟨rfl,?_⟩));have zx:(xs.map it).toArray.size=xs.length:=by simp
 have zy:(ys.map it).toArray.size=ys.length:=by simp
 have nx:=T.nx;have ny:=T.ny;obtain⟨x0,hx0⟩:=Mn (l:=xs) (i:=xs.length - 1) (by lia);have hst:=T.startR (it:=it) hx0;refine Yc (MW (MQ (by rw[zx];exact hx0)) ?_);dsimp only;rw[zx,zy]
 by_cases q1:xs.length - 1=0
 .refine Dw (by simpa using q1) ?_;exact Yi (h _ _ (.rfl' _) (hst.done (.inl q1)))
 refine Dv (by simpa using q1) ?_
 by_cases q2:ys.length=1
 .refine Dw (by simpa using q2) ?_;exact Yi (h _ _ (.rfl' _) (hst.first (T.firstX q2)))
 refine Dv (by simpa using q2) ?_;refine Yc (Vh ?_);refine Yc (XC (X7
  (I:=fun x r st'=>Di st st'/\∃na nb out g k,r=(none,na,nb,out,g)/\MS (Pc O key) it xs ys out na nb k/\x <=k/\1 <=na/\2 <=nb)
  (Q := fun r st' => Di st st' /\ ∃ z u, r = (some z, u) /\ Ri (Pc O key) it (xs ++ ys) z) ?_ ?_ ⟨.rfl' _, _, _, _, _, _, rfl, hst, by lia, by lia, by lia⟩) ?_)
 case _=>
  rintro x r st' - hx ⟨K, na, nb, out, g, k, rfl, M, hk', h1, h2⟩;dsimp -zeta only;refine Yc (XC (X7
   (I:=fun x r st'=>Di st st'/\∃na nb out ac bc j,r=(none,na,nb,out,ac,bc)/\MS (Pc O key) it xs ys out na nb j/\k+ x <=j/\1 <=na/\2 <=nb)
   (Q := fun r st' => Di st st' /\ ((∃ z u, r = (some z, u) /\ Ri (Pc O key) it (xs ++ ys) z) \/ ∃ na nb out ac bc j, r = (none, na, nb, out, ac, bc) /\ MS (Pc O key) it xs ys out na nb j /\ k + 1 <= j /\ 1 <= na /\ 2 <= nb)) ?_ ?_ ⟨K, _, _, _, _, _, _, rfl, M, by lia, h1, h2⟩) ?_)
  case _=>
   clear K M h1 h2 hk' hst;rintro x r st' - hx ⟨K,na,nb,out,ac,bc,j,rfl,M,hj,h1,h2⟩;dsimp only;have len:=M;obtain⟨-,-,-,-,Rf,Gz⟩:=len;obtain⟨x,ex⟩:=Mn (l:=xs) (i:=na - 1) (by lia);obtain⟨y,f⟩:=Mn (l:=ys) (i:=nb - 1) (by lia);have lxy:=T.lo _ (Td ex) _ (Td f);refine Yc (MW (MQ f) ?_);refine Yc (MW (MQ ex) ?_);refine Yc (Ay C (K.kind.trans hk) (T.by' _ (Td f)) (T.bx _ (Td ex)) ?_);cases q:M8 O key y x with
   |true=>
    have p:=(Pc.ask lxy).mp q;have M':=M.fromX (c:=1) (by lia) fun i z hi hi2 v=>by
     obtain rfl:i=na - 1:=by lia
     rw[ex]at v;cases v;exact Bx T.sy f p
    rw[<-AT h1 ex]at M';refine Dw rfl ?_;refine Yc (MW (MQ ex) ?_)
    by_cases q3:na - 1=0
    .refine Dw (by simpa using q3) ?_;exact Yi ⟨K,.inl ⟨_,_,rfl,M'.done (.inl q3)⟩⟩
    .refine Dv (by simpa using q3) ?_
     split
     .exact Yi ⟨K,.inr ⟨_,_,_,_,_,_,rfl,M',by lia,by lia,h2⟩⟩
     .exact Yi ⟨K,_,_,_,_,_,_,rfl,M',by lia,by lia,h2⟩
   |false=>
    have p:=(Pc.ask' lxy).mp q;have M':=M.fromY (c:=1) (by lia) fun i z hi hi2 v=>by
     obtain rfl:i=nb - 1:=by lia
     rw[f]at v;cases v;exact Bx T.sx ex p
    rw[<-AT (by lia) f]at M';refine Dv Yg ?_;refine Yc (MW (MQ f) ?_)
    by_cases q3:nb - 1=1
    .refine Dw (by simpa using q3) ?_;exact Yi ⟨K,.inl ⟨_,_,rfl,M'.first (T.firstX q3)⟩⟩
    .refine Dv (by simpa using q3) ?_
     split
     .exact Yi ⟨K,.inr ⟨_,_,_,_,_,_,rfl,M',by lia,h1,by lia⟩⟩
     .exact Yi ⟨K,_,_,_,_,_,_,rfl,M',by lia,h1,by lia⟩
  case _=>
   rintro r st' ⟨K,na,nb,out,ac,bc,j,rfl,M,hj,h1,h2⟩;exact⟨K,.inr ⟨_,_,_,_,_,_,rfl,M,by lia,h1,h2⟩⟩
  case _=>
   clear K M h1 h2 hst;rintro r st' ⟨K,⟨z,u,rfl,F⟩|⟨na,nb,out,ac,bc,j,rfl,M,hj,h1,h2⟩⟩
   .exact Yi ⟨K,_,_,rfl,F⟩
   dsimp -zeta only;refine Yc (VQ (Ua ⟨rfl, ?_⟩));refine Yc (XC (X7
    (I:=fun x r st'=>Di st st'/\∃na nb out g ac bc j,r=(none,na,nb,out,g,ac,bc)/\MS (Pc O key) it xs ys out na nb j/\k+ 1 <=j/\1 <=na/\2 <=nb)
    (Q := fun r st' => Di st st' /\ ((∃ z u, r = (some z, u) /\ Ri (Pc O key) it (xs ++ ys) z) \/ ∃ na nb out g ac bc j, r = (none, na, nb, out, g, ac, bc) /\ MS (Pc O key) it xs ys out na nb j /\ k + 1 <= j /\ 1 <= na /\ 2 <= nb)) ?_ ?_ ⟨K, _, _, _, _, _, _, _, rfl, M, by lia, h1, h2⟩) ?_)
   case _=>
    clear K M h1 h2 hj;rintro x r st' - hx ⟨K,na,nb,out,g,ac,bc,j,rfl,M,hj,h1,h2⟩;dsimp only;have len:=M;obtain⟨-,-,-,-,Rf,Gz⟩:=len;obtain⟨y,f⟩:=Mn (l:=ys) (i:=nb - 1) (by lia);generalize g - 1=g1;apply Qq (a:=g1) (b:=g);intro g';refine Yc (CB fun st1 K1=>?_);have K2:=K.trans K1;refine Yc (MW (MQ f) ?_);obtain⟨c,hc,hb,hx'⟩:=T.galR (it:=it) (Td f) 0 na (by lia);refine Yc (BA C (K2.kind.trans hk) (T.by' _ (Td f)) (by lia) hc hb ?_);dsimp only;have hx2:∀i x,i < na->xs[i]?=some x->(i < c->Pc O key x y)/\(c <=i->Pc O key y x):=fun i x hi e=>hx' i x hi (by rw[XQ];exact e)
    have y1:∀x,1 <=c->xs[c - 1]?=some x->Pc O key x y:=fun x h1 ex=>(hx2 (c - 1) x (by lia) ex).1 (by lia)
    clear hx' hb;obtain⟨d1,ed1⟩:∃d1,d1=na - c:=⟨_,rfl⟩;rw[<-ed1];apply FD (o:=out) (i:=na) (fun o1 n1=>∃j1,MS (Pc O key) it xs ys o1 n1 nb j1/\(∀x,xs[n1 - 1]?=some x->Pc O key x y)/\1 <=n1/\k+ 1 <=j1)
    rotate_left
    .intro q0 J;have M1:=M.fromX (c:=na - c) (by lia) (fun i z hi hi2 v=>Bx T.sy f ((hx2 i z hi2 v).2 (by lia)));rw[show na - (na - c)=c by lia]at M1
     by_cases q3:c=0
     .refine Dw (by simpa using q3) ?_;exact Yi ⟨K2,.inl ⟨_,_,rfl,M1.done (.inl q3)⟩⟩
     refine Dv (by simpa using q3) ?_;exact J _ _ ⟨_,M1,fun x ex=>y1 x (by lia) ex,by lia,by lia⟩
    .intro q0;obtain rfl:c=na:=by lia
     exact⟨_,M,fun x ex=>y1 x h1 ex,h1,hj⟩
    clear hx2 y1 hc M h1 hj ed1 Rf Gz;rintro o1 n1 ⟨j1,M1,y1,l1,l2⟩;have len:=M1;obtain⟨-,-,-,-,Rf,Gz⟩:=len;refine Yc (MW (MQ f) ?_);obtain⟨x1,ex⟩:=Mn (l:=xs) (i:=n1 - 1) (by lia);have M2:=M1.fromY (c:=1) (by lia) fun i z hi hi2 v=>by
     obtain rfl:i=nb - 1:=by lia
     rw[f]at v;cases v;exact Bx T.sx ex (y1 _ ex)
    rw[<-AT (by lia) f]at M2
    by_cases q5:nb - 1=1
    .refine Dw (by simpa using q5) ?_;exact Yi ⟨K2,.inl ⟨_,_,rfl,M2.first (T.firstX q5)⟩⟩
    refine Dv (by simpa using q5) ?_;refine Yc (MW (MQ ex) ?_);obtain⟨o2,eo2⟩:∃o2,o2=o1.push (it y):=⟨_,rfl⟩;obtain⟨n,en2⟩:∃n,n=nb - 1:=⟨_,rfl⟩;have l3:2 <=n:=by lia
    rw[<-eo2,<-en2]at M2;rw[<-en2];obtain⟨d,hd,hb2,hy2⟩:=T.galL (it:=it) (Td ex) 0 n (by lia);refine Yc (BA C (K2.kind.trans hk) (T.bx _ (Td ex)) (by lia) hd hb2 ?_);dsimp only;have hy3:∀i y,i < n->ys[i]?=some y->(i < d->Pc O key y x1)/\(d <=i->Pc O key x1 y):=fun i y hi e=>hy2 i y hi (by rw[XQ];exact e)
    have x2:∀y,1 <=d->ys[d - 1]?=some y->Pc O key y x1:=fun y h1 f=>(hy3 (d - 1) y (by lia) f).1 (by lia)
    clear hy2 hb2;obtain⟨d2,ed2⟩:∃d2,d2=n - d:=⟨_,rfl⟩;rw[<-ed2,<-eo2];apply FD (o:=o2) (i:=n) (fun o2 n=>∃j2,MS (Pc O key) it xs ys o2 n1 n j2/\(∀y,ys[n - 1]?=some y->Pc O key y x1)/\2 <=n/\k+ 1 <=j2)
    rotate_left
    .intro q6 J;have M3:=M2.fromY (c:=n - d) (by lia) (fun i z hi hi2 v=>Bx T.sx ex ((hy3 i z hi2 v).2 (by lia)));rw[show n - (n - d)=d by lia]at M3
     by_cases q7:d=1
     .refine Dw (by simpa using q7) ?_;exact Yi ⟨K2,.inl ⟨_,_,rfl,M3.first (T.firstX q7)⟩⟩
     refine Dv (by simpa using q7) ?_
     by_cases q8:d=0
     .refine Dw (by simpa using q8) ?_;exact Yi ⟨K2,.inl ⟨_,_,rfl,M3.done (.inr q8)⟩⟩
     refine Dv (by simpa using q8) ?_;exact J _ _ ⟨_,M3,fun y f=>x2 y (by lia) f,by lia,by lia⟩
    .intro q6;obtain rfl:d=n:=by lia
     exact⟨_,M2,fun y f=>x2 y (by lia) f,l3,by lia⟩
    clear hy3 x2 hd M2 M1 ed2 q5 y1 l2 l3 Gz en2 eo2 o2 n;rintro o2 n ⟨j2,M3,x2,l3,l4⟩;refine Yc (MW (MQ ex) ?_);obtain⟨y2,ey2⟩:=Mn (l:=ys) (i:=n - 1) (by obtain⟨-,-,-,-,-,Bh⟩:=M3;lia);have M4:=M3.fromX (c:=1) (by lia) fun i z hi hi2 v=>by
     obtain rfl:i=n1 - 1:=by lia
     rw[ex]at v;cases v;exact Bx T.sy ey2 (x2 _ ey2)
    rw[<-AT l1 ex]at M4
    by_cases q9:n1 - 1=0
    .refine Dw (by simpa using q9) ?_;exact Yi ⟨K2,.inl ⟨_,_,rfl,M4.done (.inl q9)⟩⟩
    refine Dv (by simpa using q9) ?_
    split
    .exact Yi ⟨K2,.inr ⟨_,_,_,_,_,_,_,rfl,M4,by lia,by lia,l3⟩⟩
    .exact Yi ⟨K2,_,_,_,_,_,_,_,rfl,M4,by lia,by lia,l3⟩
   case _=>
    rintro r st' ⟨K,na,nb,out,g,ac,bc,j,rfl,M,hj,h1,h2⟩;exact⟨K,.inr ⟨_,_,_,_,_,_,_,rfl,M,hj,h1,h2⟩⟩
   case _=>
    rintro r st' ⟨K,⟨z,u,rfl,F⟩|⟨na,nb,out,g,ac,bc,j,rfl,M,hj,h1,h2⟩⟩
    .exact Yi ⟨K,_,_,rfl,F⟩
    dsimp -zeta only;refine Yc (CB fun st'' K'=>?_);exact Yi ⟨K.trans K',_,_,_,_,_,rfl,M,by lia,h1,h2⟩
 case _=>
  rintro r st' ⟨K,na,nb,out,g,k,rfl,M,hk',h1,h2⟩;have:=M.len
  lia
 case _=>
  rintro r st' ⟨K,z,u,rfl,F⟩;exact Yi (h _ _ K F)
end
theorem PN{α:Type}(b:Nat):∀ (ms:List α) (n:Nat) (v:Array α),b+ n+ ms.length <=v.size->
  (ms.zipIdx n).foldl (fun a x=>a.setIfInBounds (b+ x.2) x.1) v=(v.toList.take (b+ n)++ms++v.toList.drop (b+ n+ ms.length)).toArray
 |[],n,v,h=>by simp
 |m::ms,n,v,h=>by
  rw[List.zipIdx_cons,Wy];have hz:b+ (n+ 1)+ ms.length <=(v.setIfInBounds (b+ n) m).size:=by simp at h ⊢;lia
  refine(PN b ms (n+ 1) _ hz).trans ?_
  congr 1
  have c:b+ n < v.toList.length:=by simp at h ⊢;lia
  rw[W9];have g:(v.toList.set (b+ n) m).take (b+ (n+ 1))=v.toList.take (b+ n)++[m]:=by
   rw[show b+ (n+ 1)=b+ n+ 1 by lia,List.take_set,Uv c,WM _ _ (by simp;lia)];have e:b+ n - min (b+ n) v.size=0:=by simp at c;lia
   simp[e]
  have f:(v.toList.set (b+ n) m).drop (b+ (n+ 1)+ ms.length)=v.toList.drop (b+ n+ (m::ms).length):=by
   rw[List.drop_set_of_lt (by lia)];congr 1;simp;lia
  rw[g,f];simp
section
variable{prog:J9}{w:Jd}{A:Jc}{E:J6}{s:Ja}{O:KeyOrd}{key:Nat->O.α}{κ:SortKind}{it:Nat->Keyed}{N:Nat}
theorem Qd{p X q:List Nat}{i:Nat}(h:i < X.length):(((p++X++q).map it).toArray)[p.length+ i]?=((X.map it).toArray)[i]?:=by
 simp[U2,h]
theorem gQ{st:SortSt}{p X Y q:List Nat}{i pw pw':Nat}{Q:Bool->SortSt->Prop}(C:Rm prog w A s κ it N (M8 O key))(S:GB κ it (p++X++Y++q) st)(T:DU O key N X Y)
  (nx:0 < X.length) (ny:0 < Y.length) (e1:(pendingOf st)[i]?=some (p.length,X.length,pw)) (e2:(pendingOf st)[i+ 1]?=some (p.length+ X.length,Y.length,pw'))
  (h:∀Z st',Z.Perm (X++Y)->Z.Pairwise (Pc O key)->GB κ it (p++Z++q) st'->pendingOf st'=((pendingOf st).setIfInBounds i (p.length,X.length+ Y.length,pw)).eraseIdxIfInBounds (i+ 1)->Q true st'):
  wpS (model prog w) A E s (mergeAt' i) Q st:=by
 unfold mergeAt';refine Yc (Vh ?_);have ar:(sortPriv%PySem.Builtin.SortState.a) st=((p++X++Y++q).map it).toArray:=S.arr;rw[e1,e2,ar];dsimp only;obtain⟨y0,g⟩:=Mn ny;obtain⟨xl,n⟩:=Mn (l:=X) (i:=X.length - 1) (by lia);refine Yc (UX (f:=fun _=>_) ?_);have atX:∀i,i < X.length->(((p++X++Y++q).map it).toArray)[p.length+ i]?=((X.map it).toArray)[i]?:=fun i hi=>by rw[List.append_assoc];exact Qd hi
 have atY:∀i,i < Y.length->(((p++X++Y++q).map it).toArray)[p.length+ X.length+ i]?=((Y.map it).toArray)[i]?:=fun i hi=>by
  have:=Qd (it:=it) (p:=p++X) (X:=Y) (q:=q) hi;rwa [List.length_append]at this
 refine Yc (MW (x:=it y0) (by have:=atY 0 ny;rw[UR]at this;rw[this];exact MQ g) ?_);obtain⟨c,hc,hb,hx'⟩:=T.galR (it:=it) (Td g) 0 X.length (by lia);have hx:∀i x,X[i]?=some x->(i < c->Pc O key x y0)/\(c <=i->Pc O key y0 x):=fun i x e=>hx' i x (Y4.mp e).1 (by rw[XQ];exact e)
 refine Yc (BA C S.kind (T.by' _ (Td g)) nx hc (fun i hi => by
  obtain ⟨x, h1, h2, h3⟩ := hb i hi;exact ⟨x, h1, by rw [atX i hi]; rwa [XQ] at h2, h3⟩) ?_)
 dsimp only
 by_cases q1:X.length - c=0
 .rw[Y3 (by simpa using q1)];obtain rfl:c=X.length:=by lia
  refine Yi (h (X++Y) _ (.refl _) (Ys.mpr ⟨T.sx,T.sy,fun x h1 y h2=>?_⟩) ⟨S.kind,S.ok,by rw[<-List.append_assoc p X Y]⟩ rfl);obtain⟨i,e⟩:=YC.mp h1;exact E6 T.sy g ((hx i x e).1 (Y4.mp e).1) y h2
 rw[Y2 (by simpa using q1)];refine Yc (MW (x:=it xl) (by rw[show p.length+ c+ (X.length - c) - 1=p.length+ (X.length - 1) by lia,atX _ (by lia)];exact MQ n) ?_);obtain⟨d,hd,hb2,v⟩:=T.galL (it:=it) (Td n) 0 Y.length (by lia);have hy:∀i y,Y[i]?=some y->(i < d->Pc O key y xl)/\(d <=i->Pc O key xl y):=fun i y e=>v i y (Y4.mp e).1 (by rw[XQ];exact e)
 refine Yc (BA C S.kind (T.bx _ (Td n)) (by lia) hd (fun i hi => by
  obtain ⟨x, h1, h2, h3⟩ := hb2 i hi;exact ⟨x, h1, by rw [atY i hi]; rwa [XQ] at h2, h3⟩) ?_)
 dsimp only
 by_cases q2:d=0
 .exfalso
  subst q2;exact((hy 0 y0 g).2 (Y9 _)).no ((hx _ _ n).2 (by lia))
 rw[Y2 (by simpa using q2)];have ex:(((p++X++Y++q).map it).toArray).extract (p.length+ c) (p.length+ X.length)=((X.drop c).map it).toArray:=by
  rw[Ge]
  congr 2
  rw[List.append_assoc,List.append_assoc,<-List.drop_drop,List.drop_left,VH hc,UF (by rw[X1];lia),Yv (by rw[X1];lia)]
 have ey:(((p++X++Y++q).map it).toArray).extract (p.length+ X.length) (p.length+ X.length+ d)=((Y.take d).map it).toArray:=by
  rw[Ge]
  congr 2
  rw[List.append_assoc (p++X),<-List.length_append,List.drop_left,UF (by lia),Wu]
 rw[ex,ey];have T':RM O key N (X.drop c) (Y.take d):=
  ⟨⟨T.sx.sublist (UH _ _), T.sy.sublist (Ul _ _), fun x h1 y h2 => T.lo x (XG h1) y (YV h2), fun x h1 => T.bx x (XG h1), fun y h2 => T.by' y (YV h2)⟩,
   (fun x y a1 o => by
    rw [YX] at a1;rw [YK, Y3 (by lia), g] at o;cases o;exact (hx _ x a1).2 (by lia)),
   (fun x y a1 o => by
    rw[X1,YX,show c+ (X.length - c - 1)=X.length - 1 by lia,n]at a1;cases a1;rw[YK]at o
    split at o
    .rename_i hlt
     exact(hy _ y o).1 hlt
    .cases o),
   by rw [X1]; lia, by rw [Yu]; lia⟩
 have fin:∀ (r:Array Keyed) (b:SortSt),Ri (Pc O key) it (X.drop c++Y.take d) r->kindOf b=κ->failedOf b=none->arrOf b=((p++X++Y++q).map it).toArray->
   ∃Z,Z.Perm (X++Y)/\Z.Pairwise (Pc O key)/\r.toList.zipIdx.foldl (fun a x=>match x with|(p',j)=>a.setIfInBounds (p.length+ c+ j) p') (arrOf b)=((p++Z++q).map it).toArray:=fun r b F h1 h2 h3=>by
  obtain⟨zs,rfl,pm,srt⟩:=F;refine⟨X.take c++zs++Y.drop d,?_,?_,?_⟩
  .have e:X++Y=X.take c++(X.drop c++Y.take d)++Y.drop d:=by rw[<-List.append_assoc (X.take c),YJ,List.append_assoc,YJ]
   rw[e];exact(pm.append_left _).append_right _
  .have mz:∀z∈zs,z∈X.drop c\/z∈Y.take d:=fun z hz=>Yq.mp (pm.mem_iff.mp hz)
   have sX:=Ys.mp (by rw[YJ];exact T.sx:(X.take c++X.drop c).Pairwise (Pc O key));have sY:=Ys.mp (by rw[YJ];exact T.sy:(Y.take d++Y.drop d).Pairwise (Pc O key));have xy:∀x∈X.take c,∀y∈Y,Pc O key x y:=fun x h1 y h2=>by
    obtain⟨i,e⟩:=YC.mp h1;rw[YK]at e
    split at e
    .rename_i hic
     exact E6 T.sy g ((hx i x e).1 hic) y h2
    .cases e
   have yx:∀y∈Y.drop d,∀x∈X,Pc O key x y:=fun y h1=>by
    obtain⟨i,e⟩:=YC.mp h1;rw[YX]at e;exact Hg T.sx n ((hy _ y e).2 (by lia))
   rw[List.append_assoc,Ys,Ys];refine⟨sX.1,⟨srt,sY.2.1,fun z hz y v=>?_⟩,fun x h1 z hz=>?_⟩
   .rcases mz z hz with q|q
    .exact yx y v z (XG q)
    .exact sY.2.2 z q y v
   .rcases Yq.mp hz with q|q
    .rcases mz z q with q|q
     .exact sX.2.2 x h1 z q
     .exact xy x h1 z (YV q)
    .exact xy x h1 z (XG q)
  .have hl:=pm.length_eq;rw[List.length_append,X1,Yu,XM hd]at hl;have:=PN (p.length+ c) (zs.map it) 0 (arrOf b) (by rw[h3];simp;lia);refine Eq.trans this ?_;rw[h3]
   congr 1
   rw[WX,<-List.map_take,<-W8,<-Yh,<-Yh,Y1]
   congr 1
   rw[UR,hl,show p.length+ c+ (X.length - c+ d)=p.length+ (X.length+ d) by lia,List.append_assoc p X,List.append_assoc p (X++Y),List.append_assoc X,List.take_length_add_append,VV,VV,UF hc,VH hd];simp[List.append_assoc]
 by_cases q3:X.length - c <=d
 case' pos=>
  rw[Y3 q3];refine Yc (aZ C S.kind T' fun r b K F=>?_)
 case' neg=>
  rw[Y2 q3];refine Yc (dJ C S.kind T' fun r b K F=>?_)
 all_goals
  obtain⟨Z,z1,z2,z3⟩:=fin r b F (K.kind.trans S.kind) (K.fail.trans S.ok) K.arr;refine Yc (UX ?_);refine Yc (Vh ?_);have ok:((sortPriv%PySem.Builtin.SortState.failed) b)=none:=K.fail.trans S.ok;refine Yi ?_;dsimp only;rw[ok];exact h Z _ z1 z2 ⟨K.kind.trans S.kind,rfl,z3⟩ K.pend
end
section
variable{it:Nat->Keyed}
theorem GY{α:Type}{a M c:List α}{k:Nat}:(a++M++c)[k]?=if k < a.length then a[k]? else if k < a.length+ M.length then M[k - a.length]? else c[k - a.length - M.length]?:=by
 rw[List.append_assoc,U2]
 split
 .rfl
 .rw[U2]
  by_cases h:k - a.length < M.length
  .rw[Y3 h,Y3 (by lia)]
  .rw[Y2 h,Y2 (by lia)]
theorem yL{a M c:List Nat}{i j:Nat}(hi:i=a.length)(hj:j=a.length+ M.length):mirror (((a++M++c).map it).toArray) i j ((j - i) / 2)=((a++M.reverse++c).map it).toArray:=by
 subst hi;subst hj;apply Array.ext_getElem?;intro k;rw[getElem?_mirror_all (by simp)];simp only[WN,Ya];rw[GY,GY,GY,WY]
 by_cases h1:k < a.length
 .rw[Y2 (by lia),Y3 h1,Y3 h1]
 .by_cases h2:k < a.length+ M.length
  .rw[Y3 (by lia),Y2 (by lia),Y3 (by lia),Y2 h1,Y3 h2,List.getElem?_reverse (by lia)]
   congr 2;lia
  .rw[Y2 (by lia),Y2 h1,Y2 h2,Y2 h1,Y2 h2]
theorem yT{a B c:List Nat}{e k d:Nat}(hk:k=a.length+ B.length)(hd:d=B.length):bubble (((a++(B++[e])++c).map it).toArray) k d=((a++([e]++B)++c).map it).toArray:=by
 subst hk;subst hd;apply Array.ext_getElem?;intro k;rw[getElem?_bubble (by simp) _ (by lia)];simp only[WN,Ya];rw[GY,GY,GY,GY];simp only[List.length_append,UL]
 by_cases h1:k < a.length
 .rw[Y2 (by lia),Y2 (by lia),Y3 h1,Y3 h1]
 .by_cases h2:k=a.length
  .subst h2;rw[Y3 (by lia),Y2 (by lia),Y3 (by lia),Y2 (by lia),Y3 (by lia)];simp
  .by_cases h3:k < a.length+ (B.length+ 1)
   .rw[Y2 (by lia),Y3 (by lia),Y2 (by lia),Y3 (by lia),Y2 (by lia),Y3 (by lia)];rw[Up (by lia),X0 (by simp;lia)]
    congr 2;simp;lia
   .rw[Y2 (by lia),Y2 (by lia),Y2 (by lia),Y2 (by lia),Y2 (by lia),Y2 (by lia)]
    congr 2;lia
end
section
variable{prog:J9}{w:Jd}{A:Jc}{E:J6}{s:Ja}{O:KeyOrd}{key:Nat->O.α}{κ:SortKind}{it:Nat->Keyed}{N:Nat}
structure Mm(κ:SortKind)(it:Nat->Keyed)(pd:Array (Nat×Nat×Nat))(l:List Nat)(st:SortSt):Prop extends GB κ it l st where
 pend:pendingOf st=pd
variable{pd:Array (Nat×Nat×Nat)}
theorem BP{st:SortSt}{l:List Nat}{i j x y:Nat}{Q:Option Bool->SortSt->Prop}(C:Rm prog w A s κ it N (M8 O key))(S:Mm κ it pd l st)(hi:l[i]?=some x)(hj:l[j]?=some y)(hx:x < N)(hy:y < N)(h:Q (some (M8 O key x y)) st):
  wpS (model prog w) A E s (ltAt' i j) Q st:=by
 rw[ltAt'_eq];refine Yc (Vh ?_);have b:(sortPriv%PySem.Builtin.SortState.a) st=(l.map it).toArray:=S.arr;dsimp only;rw[show arrOf st=(l.map it).toArray from S.arr];refine Yc (MW (MQ hi) ?_);refine Yc (MW (MQ hj) ?_);exact Ay C S.kind hx hy h
theorem FA{st:SortSt}{a M c:List Nat}{i j:Nat}{Q:Unit->SortSt->Prop}(S:Mm κ it pd (a++M++c) st)(hi:i=a.length)(hj:j=a.length+ M.length)(h:∀st',Mm κ it pd (a++M.reverse++c) st'->Q () st'):
  wpS (model prog w) A E s (reverseSlice' i j) Q st:=by
 rw[reverseSlice'_eq];refine UX (h _ ⟨⟨S.kind,S.ok,?_⟩,S.pend⟩);show mirror (arrOf st) i j ((j - i) / 2)=_;rw[show arrOf st=_ from S.arr];exact yL hi hj
theorem vH{st:SortSt}{a B c:List Nat}{e k d:Nat}{Q:Unit->SortSt->Prop}(S:Mm κ it pd (a++(B++[e])++c) st)(hk:k=a.length+ B.length)(hd:d=a.length)(h:∀st',Mm κ it pd (a++([e]++B)++c) st'->Q () st'):
  wpS (model prog w) A E s (moveDown' k d) Q st:=by
 rw[moveDown'_eq];refine UX (h _ ⟨⟨S.kind,S.ok,?_⟩,S.pend⟩);show bubble (arrOf st) k (k - d)=_;rw[show arrOf st=_ from S.arr];exact yT hk (by lia)
def Bf(R:List Nat):Prop:=R.Pairwise (· < ·)
theorem rC{st:SortSt}{p U R:List Nat}{lo n ok:Nat}{Q:Bool->SortSt->Prop}(C:Rm prog w A s κ it N (M8 O key))(S:Mm κ it pd (p++U++R) st)(hp:lo=p.length)(hU:ok=U.length)(h1:1 <=ok)(hn:ok <=n)(hR:n <=U.length+ R.length)
  (sU:U.Pairwise (Pc O key)) (rR:Bf R) (uR:∀u∈U,∀r∈R,u < r) (bU:∀u∈U,u < N) (bR:∀r∈R,r < N)
  (h:∀V st',Mm κ it pd (p++V++R.drop (n - ok)) st'->V.Pairwise (Pc O key)->V.Perm (U++R.take (n - ok))->Q true st'):wpS (model prog w) A E s (binarySort' lo n ok) Q st:=by
 rw [binarySort'_eq, show max ok 1 = ok by lia];refine Yc (XC (X7 (I := fun k c st' => c = (none, ()) /\ ∃ V, Mm κ it pd (p ++ V ++ R.drop (k - ok)) st' /\ V.Pairwise (Pc O key) /\ V.Perm (U ++ R.take (k - ok)))
  (Q := fun c st' => c = (none, ()) /\ ∃ V, Mm κ it pd (p ++ V ++ R.drop (n - ok)) st' /\ V.Pairwise (Pc O key) /\ V.Perm (U ++ R.take (n - ok))) ?step ?fin ⟨rfl, U, by simpa using S, sU, by simp⟩) ?post)
 case post=>
  rintro c st' ⟨rfl,V,o,sV,j⟩;exact Yi (h V st' o sV j)
 case fin=>
  rintro c st' ⟨hc,V,o,sV,j⟩;rw[show max ok n=n by lia]at o j;exact⟨hc,V,o,sV,j⟩
 case step=>
  rintro k c st' hak hkn ⟨rfl,V,o,sV,j⟩;dsimp only;have lV:V.length=k:=by have:=j.length_eq;simp at this;lia
  obtain⟨e,ee⟩:=Mn (l:=R) (i:=k - ok) (by lia);have eN:e < N:=bR e (Td ee);have dr:R.drop (k - ok)=e::R.drop (k+ 1 - ok):=by
   obtain⟨hh,rfl⟩:=Y4.mp ee;rw[X8 hh];congr 2;lia
  have mV:∀v∈V,v < e/\v < N:=fun v hv=>by
   rcases Yq.mp (j.mem_iff.mp hv) with q|q
   .exact⟨uR v q e (Td ee),bU v q⟩
   .obtain⟨i,hi⟩:=YC.mp q;rw[YK]at hi
    split at hi
    .rename_i hik
     obtain⟨b1,rfl⟩:=Y4.mp hi;obtain⟨b2,rfl⟩:=Y4.mp ee;exact⟨YO.mp rR _ _ b1 b2 hik,bR _ (Vp _)⟩
    .cases hi
  obtain ⟨c0, hc0, g⟩ := Hy (P := Pc O key) (fun a b => a.trans b) e sV;rw [dr] at o;refine Yc (XC (X7 (I := fun x c f => f = st' /\ ∃ l r, c = (none, l, r) /\ l <= c0 /\ c0 <= r /\ r <= k /\ r - l <= k - x)
   (Q := fun c f => f = st' /\ c = (none, c0, c0)) ?istep ?ifin ⟨rfl, 0, k, rfl, by lia, by lia, by lia, by lia⟩) ?ipost)
  case ifin=>
   rintro c f ⟨rfl,l,r,rfl,a1,a2,a3,a4⟩;obtain rfl:l=c0:=by lia
   obtain rfl:r=l:=by lia
   exact⟨rfl,rfl⟩
  case istep=>
   rintro x c f _ hxk ⟨rfl,l,r,rfl,a1,a2,a3,a4⟩;dsimp only
   by_cases hge:l≥r
   .rw[Y3 hge];obtain rfl:l=c0:=by lia
    obtain rfl:r=l:=by lia
    exact Yi ⟨rfl,rfl⟩
   .rw[Y2 hge];obtain⟨v,ev⟩:=Mn (l:=V) (i:=(l+ r) / 2) (by lia);refine Yc (BP (x:=e) (y:=v) C o (by rw[GY,Y2 (by lia),Y2 (by lia),show lo+ k - p.length - V.length=0 by lia];rfl) (by rw[GY,Y2 (by lia),Y3 (by lia),show lo+ (l+ r) / 2 - p.length=(l+ r) / 2 by lia];exact ev) eN (mV v (Td ev)).2 ?_);cases q:M8 O key e v with
    |true=>
     have:=(g _ v ev);have p1:=(Pc.ask (mV v (Td ev)).1).mp q;have:¬(l+ r) / 2 < c0:=fun z=>(this.mpr z).no p1
     simp only[if_true];exact Yi ⟨rfl,l,(l+ r) / 2,rfl,a1,by lia,by lia,F1 a4 (uG (by lia))⟩
    |false=>
     have:=(g _ v ev).mp ((Pc.ask' (mV v (Td ev)).1).mp q);simp only[Bool.false_eq_true,if_false];exact Yi ⟨rfl,(l+ r) / 2+ 1,r,rfl,by lia,a2,a3,F1 a4 (yY (by lia))⟩
  case ipost=>
   rintro c f ⟨rfl,rfl⟩;dsimp only;have S2:Mm κ it pd ((p++V.take c0)++(V.drop c0++[e])++R.drop (k+ 1 - ok)) f:=by
    have e:p++V++e::R.drop (k+ 1 - ok)=(p++V.take c0)++(V.drop c0++[e])++R.drop (k+ 1 - ok):=by
     rw[List.append_assoc p (V.take c0),<-List.append_assoc (V.take c0),YJ];simp
    rwa [e]at o
   refine Yc (vH S2 (by simp;lia) (by simp;lia) fun st3 S3=>Yi ⟨rfl,V.take c0++([e]++V.drop c0),?_,?_,?_⟩)
   .simpa[List.append_assoc] using S3
   .have sV':=Ys.mp (by rw[YJ];exact sV:(V.take c0++V.drop c0).Pairwise (Pc O key));have hlo:∀v∈V.take c0,Pc O key v e:=fun v hv=>by
     obtain⟨i,hi⟩:=YC.mp hv;rw[YK]at hi
     split at hi
     .rename_i hik;exact(g i v hi).mpr hik
     .cases hi
    have hhi:∀v∈V.drop c0,Pc O key e v:=fun v hv=>by
     obtain⟨i,hi⟩:=YC.mp hv;rw[YX]at hi;exact Pc.tot (by have:=(mV v (Td hi)).1;lia) fun z=>by have:=(g _ v hi).mp z;lia
    refine Ys.mpr ⟨sV'.1,XD.mpr ⟨hhi,sV'.2.1⟩,fun a ha b hb=>?_⟩;rcases Ym.mp hb with rfl|hb
    .exact hlo a ha
    .exact sV'.2.2 a ha b hb
   .have et:R.take (k+ 1 - ok)=R.take (k - ok)++[e]:=by
     obtain⟨hh,rfl⟩:=Y4.mp ee;rw[show k+ 1 - ok=k - ok+ 1 by lia,Uv hh]
    refine List.Perm.trans (l₂:=V++[e]) ?_ (by rw[et,<-List.append_assoc];exact j.append_right [e]);refine List.Perm.trans (Uf _ UQ) ?_;rw[<-List.append_assoc,YJ]
end
section
variable{O:KeyOrd}{key:Nat->O.α}
structure RZ(O:KeyOrd)(key:Nat->O.α)(R:List Nat)(n neq:Nat)(W G:List Nat):Prop where
 srt:(W++G.reverse).Pairwise (fun a b=>Pc O key b a)
 pm:(W++G).Perm (R.take n)
 len:G.length=neq+ 1
 eqv:∀a∈G,∀b∈G,O.blt (key a) (key b)=false
 low:∀a∈W,∀b∈G,a < b
theorem L8{R:List Nat}(r:Bf R){i j x y:Nat}(hi:R[i]?=some x)(hj:R[j]?=some y)(h:i < j):x < y:=by
 obtain⟨a,rfl⟩:=Y4.mp hi;obtain⟨b,rfl⟩:=Y4.mp hj;exact YO.mp r i j a b h
theorem Ck{R:List Nat}(r:Bf R){n x y:Nat}(hy:R[n]?=some y)(hx:x∈R.take n):x < y:=by
 obtain⟨i,hi⟩:=YC.mp hx;rw[YK]at hi
 split at hi
 .rename_i h;exact L8 r hi hy h
 .cases hi
theorem C8{R:List Nat}{n e:Nat}(h:R[n]?=some e):R.take (n+ 1)=R.take n++[e]:=by
 obtain⟨a,rfl⟩:=Y4.mp h;rw[Uv a]
theorem Cv{R:List Nat}{n e:Nat}(h:R[n]?=some e):R.drop n=[e]++R.drop (n+ 1):=by
 obtain⟨a,rfl⟩:=Y4.mp h;rw[X8 a];rfl
theorem KH{a b c:O.α}(h:O.blt a b=true)(h2:O.blt c b=false):O.blt a c=true:=by
 rcases O.negTrans _ c _ h with q|q
 .exact q
 .rw[h2]at q;cases q
theorem OP{i j:Nat}(h:Pc O key i j)(hij:j < i):O.blt (key i) (key j)=true:=by
 unfold Pc at h;rwa [Y2 (by lia)]at h
theorem KG{i j:Nat}(h:O.blt (key i) (key j)=true)(hij:j < i):Pc O key i j:=by
 unfold Pc;rwa [Y2 (by lia)]
variable{R W G:List Nat}{n neq e:Nat}
theorem RZ.less(F:RZ O key R n neq W G)(r:Bf R)(he:R[n]?=some e){g:Nat}(hg:G[G.length - 1]?=some g)(h:O.blt (key e) (key g)=true):RZ O key R (n+ 1) 0 (W++G.reverse) [e]:=by
 have i:∀x∈W++G.reverse,x < e:=fun x j=>Ck r he (F.pm.mem_iff.mp (by simpa using j))
 have o:g∈G:=Yk hg;have lt:∀x∈W++G.reverse,O.blt (key e) (key x)=true:=fun x j=>by
  rcases Yq.mp j with q|q
  .have p:=(Ys.mp F.srt).2.2 x q g (by simpa using o);exact KH h p.le
  .exact KH h (F.eqv x (by simpa using q) g o)
 refine⟨?_,?_,rfl,fun a c b f=>?_,fun a c b f=>by obtain rfl:=Yb.mp f;exact i a c⟩
 .rw[UC];refine Ys.mpr ⟨F.srt,Xr _ _,fun a c b f=>?_⟩;obtain rfl:=Yb.mp f;exact KG (lt a c) (i a c)
 .rw[C8 he];exact((Uf _ (Xy _)).trans F.pm).append_right _
 .obtain rfl:=Yb.mp c;obtain rfl:=Yb.mp f;exact O.irrefl _
theorem RZ.same(F:RZ O key R n neq W G)(r:Bf R)(he:R[n]?=some e){g:Nat}(hg:G[G.length - 1]?=some g)(h1:O.blt (key e) (key g)=false)(h2:O.blt (key g) (key e)=false):RZ O key R (n+ 1) (neq+ 1) W (G++[e]):=by
 have j:g∈G:=Yk hg;have v:key e=key g:=O.total _ _ h1 h2;have i:∀x∈W++G,x < e:=fun x o=>Ck r he (F.pm.mem_iff.mp o)
 have s:=Ys.mp F.srt;refine⟨?_,?_,by simp[F.len],fun a f b c=>?_,fun a f b c=>?_⟩
 .rw[List.reverse_append,UC];refine Ys.mpr ⟨s.1,XD.mpr ⟨fun b c=>?_,s.2.1⟩,fun a f b c=>?_⟩
  .have h:b∈G:=by simpa using c
   unfold Pc;rw[Y3 (i b (YA _ h)),v];exact F.eqv g j b h
  .rcases Ym.mp c with rfl|c
   .have p:=s.2.2 a f g (by simpa using j);refine KG ?_ (i a (Xf _ f));rw[v];exact OP p (F.low a f g j)
   .exact s.2.2 a f b c
 .rw[C8 he,<-List.append_assoc];exact F.pm.append_right _
 .have w:∀x∈G++[e],∃y∈G,key x=key y:=fun x o=>by
   rcases Yq.mp o with q|q
   .exact⟨x,q,rfl⟩
   .obtain rfl:=Yb.mp q;exact⟨g,j,v⟩
  obtain⟨a',z,ea⟩:=w a f;obtain⟨b',h,eb⟩:=w b c;rw[ea,eb];exact F.eqv a' z b' h
 .rcases Yq.mp c with q|q
  .exact F.low a f b q
  .obtain rfl:=Yb.mp q;exact i a (Xf _ f)
end
section
variable{prog:J9}{w:Jd}{A:Jc}{E:J6}{s:Ja}{O:KeyOrd}{key:Nat->O.α}{κ:SortKind}{it:Nat->Keyed}{N:Nat}{pd:Array (Nat×Nat×Nat)}
theorem nL{τ β:Type}{M:Model}{X B:StateT τ Sem β}{Q:β->τ->Prop}{st:τ}{c:Prop}{dc:Decidable c}(P:τ->Prop)(hX:∀st',P st'->wpS M A E s X Q st')
  (h1:c->(∀st',P st'->wpS M A E s X Q st')->wpS M A E s B Q st) (h0:¬c->P st):wpS M A E s (if c then B else X) Q st:=by
 split
 .exact h1 ‹_› hX
 .exact hX _ (h0 ‹_›)
theorem yP{st:SortSt}{p R:List Nat}{lo nrem:Nat}{Q:Option Nat->SortSt->Prop}(C:Rm prog w A s κ it N (M8 O key))(S:Mm κ it pd (p++R) st)(hp:lo=p.length)(hn:nrem=R.length)(h1:1 <=nrem)(rR:Bf R)(bR:∀r∈R,r < N)
  (h:∀m U st',1 <=m->m <=nrem->Mm κ it pd (p++U++R.drop m) st'->U.Pairwise (Pc O key)->U.Perm (R.take m)->Q (some m) st'):wpS (model prog w) A E s (countRun' lo nrem) Q st:=by
 rw[countRun'_eq];have at':∀{i x},R[i]?=some x->(p++R)[lo+ i]?=some x:=fun {i x} e=>by rw[X0 (by lia),show lo+ i - p.length=i by lia];exact e
 refine Yc (XC (X7 (I := fun x c st' => st' = st /\ c = (none, x) /\ (R.take x).Pairwise (Pc O key))
  (Q := fun c st' => st' = st /\ ∃ n, c = (none, n) /\ 1 <= n /\ n <= nrem /\ (R.take n).Pairwise (Pc O key) /\ (n < nrem -> ∀ x y, R[n]? = some x -> R[n - 1]? = some y -> Pc O key x y)) ?_ ?_ ⟨rfl, rfl, ?_⟩) ?_)
 .rintro x c st' hx1 hx2 ⟨rfl,rfl,so⟩;dsimp only;obtain⟨e,j⟩:=Mn (l:=R) (i:=x) (by lia);obtain⟨g,o⟩:=Mn (l:=R) (i:=x - 1) (by lia);have lg:=L8 rR o j (by lia);refine Yc (BP (x:=e) (y:=g) C S (at' j) (by rw[show lo+ x - 1=lo+ (x - 1) by lia];exact at' o) (bR e (Td j)) (bR g (Td o)) ?_);cases q:M8 O key e g with
  |true=>
   simp only[if_true];exact Yi ⟨rfl,x,rfl,hx1,by lia,so,fun _ a b ea eb=>by rw[j]at ea;rw[o]at eb;cases ea;cases eb;exact(Pc.ask lg).mp q⟩
  |false=>
   simp only[Bool.false_eq_true,if_false];refine Yi ⟨rfl,rfl,?_⟩;rw[C8 j];refine Ys.mpr ⟨so,Xr _ _,fun a ha b hb=>?_⟩;obtain rfl:=Yb.mp hb;exact Hg so (by rw[Yu,XM (by lia),YK,Y3 (by lia)];exact o) ((Pc.ask' lg).mp q) a ha
 .rintro c st' ⟨rfl,rfl,so⟩;rw[show max 1 nrem=nrem by lia]at so ⊢;exact⟨rfl,nrem,rfl,h1,Y9 _,so,fun z=>by lia⟩
 .have:(R.take 1).length <=1:=by simp;lia
  rcases hh:R.take 1 with _|⟨a,_|⟨b,l⟩⟩
  .exact .nil
  .exact Xr _ _
  .rw[hh]at this;simp at this
 rintro c st' ⟨rfl,n,rfl,n1,n2,so,nx⟩;dsimp only
 by_cases q1:n=nrem
 .rw[Y3 (by simpa using q1)];exact Yi (h n (R.take n) _ n1 n2 (by rw[List.append_assoc,YJ];exact S) so (.refl _))
 rw[Y2 (by simpa using q1)];obtain⟨e,j⟩:=Mn (l:=R) (i:=n) (by lia);obtain⟨g,o⟩:=Mn (l:=R) (i:=n - 1) (by lia);have eg:=OP (nx (by lia) e g j o) (L8 rR o j (by lia));have base:∀{st'},Mm κ it pd (p++(R.take n).reverse++R.drop n) st'->(∀x∈R.take n,O.blt (key x) (key g)=false)->RZ O key R (n+ 1) 0 (R.take n).reverse [e]/\Mm κ it pd (p++((R.take n).reverse++[e])++R.drop (n+ 1)) st':=fun {st'} S' al=>by
  refine⟨⟨?_,?_,rfl,fun a ha b hb=>?_,fun a ha b hb=>?_⟩,?_⟩
  .rw[UC];refine Ys.mpr ⟨XW.mpr so,Xr _ _,fun a ha b hb=>?_⟩;obtain rfl:=Yb.mp hb;rw[Wq]at ha;exact KG (KH eg (al a ha)) (Ck rR j ha)
  .rw[C8 j];exact(Xy _).append_right _
  .obtain rfl:=Yb.mp ha;obtain rfl:=Yb.mp hb;exact O.irrefl _
  .obtain rfl:=Yb.mp hb;exact Ck rR j (by simpa using ha)
  .rw[Cv j]at S';simpa[List.append_assoc] using S'
 apply nL (fun st1=>RZ O key R (n+ 1) 0 (R.take n).reverse [e]/\Mm κ it pd (p++((R.take n).reverse++[e])++R.drop (n+ 1)) st1)
 rotate_left
 .intro q2 J;obtain⟨f,hf⟩:=Mn (l:=R) (i:=0) (by lia);refine Yc (BP (x:=f) (y:=g) C S (by have:=at' hf;rwa [UR]at this) (by rw[show lo+ n - 1=lo+ (n - 1) by lia];exact at' o) (bR f (Td hf)) (bR g (Td o)) ?_);cases q3:M8 O key f g with
  |true=>
   simp only[if_true];exact Yi (h n (R.take n) _ n1 n2 (by rw[List.append_assoc,YJ];exact S) so (.refl _))
  |false=>?_
  simp only[Bool.false_eq_true,if_false];have S0:Mm κ it pd (p++R.take n++R.drop n) st':=by rw[List.append_assoc,YJ];exact S
  refine Yc (FA S0 hp (by rw[Yu,XM (by lia)];lia) fun st1 S1=>?_);exact J _ <|base S1 fun x hx=>by
   cases q4:O.blt (key x) (key g) with
   |false=>rfl
   |true=>
    exfalso
    rcases O.negTrans _ (key f) _ q4 with q|q
    .obtain⟨i,hi⟩:=YC.mp hx
     by_cases i0:i=0
     .subst i0;rw[YK,Y3 (by lia),hf]at hi;cases hi;rw[O.irrefl]at q;cases q
     .obtain⟨hi',rfl⟩:=Y4.mp hi;have hf':(R.take n)[0]?=some f:=by rw[YK,Y3 (by lia)];exact hf
      obtain⟨h0,rfl⟩:=Y4.mp hf';have:=(YO.mp so 0 i h0 hi' (by lia)).le;unfold KeyOrd.kle at this;rw[this]at q;cases q
    .unfold M8 at q3;rw[q3]at q;cases q
 .intro q2;have t1:R.take n=[g]:=by
   obtain rfl:n=1:=by lia
   obtain⟨hh,rfl⟩:=Y4.mp o;cases R with
   |nil=>simp at hh
   |cons a l=>rfl
  exact base (st':=st') (by rw[t1,UC,<-t1,List.append_assoc,YJ];exact S) fun x hx=>by
   rw[t1]at hx;obtain rfl:=Yb.mp hx;exact O.irrefl _
 clear S;rintro st1 ⟨F, v⟩;refine Yc (VQ (Ua ⟨rfl, ?_⟩));refine Yc (XC (X7 (I := fun x c st' => ∃ neq W G, c = (none, x, neq) /\ Mm κ it pd (p ++ (W ++ G) ++ R.drop x) st' /\ RZ O key R x neq W G)
  (Q := fun c st' => ∃ x neq W G, c = (none, x, neq) /\ n <= x /\ x <= nrem /\ Mm κ it pd (p ++ (W ++ G) ++ R.drop x) st' /\ RZ O key R x neq W G) ?_ ?_ ⟨0, _, _, rfl, v, F⟩) ?_)
 .clear v F;rintro x c st2 hx1 hx2 ⟨neq,W,G,rfl,v,F⟩;dsimp only;have lW:(W++G).length=x:=by rw[F.pm.length_eq,Yu];lia
  rw[List.length_append]at lW;have lG:=F.len;obtain⟨e,j⟩:=Mn (l:=R) (i:=x) (by lia);obtain⟨g,o⟩:=Mn (l:=G) (i:=G.length - 1) (by lia);have gR:g∈R:=YV (F.pm.mem_iff.mp (YA _ (Td o)));have ae:(p++(W++G)++R.drop x)[lo+ x]?=some e:=by
   rw[GY,Y2 (by lia),Y2 (by rw[List.length_append];lia),List.length_append,show lo+ x - p.length - (W.length+ G.length)=0 by lia,YX];exact j
  have ag:(p++(W++G)++R.drop x)[lo+ x - 1]?=some g:=by
   rw[GY,Y2 (by lia),Y3 (by rw[List.length_append];lia),X0 (by lia),show lo+ x - 1 - p.length - W.length=G.length - 1 by lia];exact o
  refine Yc (BP (x:=e) (y:=g) C v ae ag (bR e (Td j)) (bR g gR) ?_);cases q3:M8 O key e g with
  |true=>
   have F':=F.less rR j o q3;simp only[if_true];have fin:∀{st3},Mm κ it pd (p++W++G.reverse++R.drop x) st3->Mm κ it pd (p++(W++G.reverse++[e])++R.drop (x+ 1)) st3:=fun {st3} S3=>by rw[Cv j]at S3;simpa[List.append_assoc] using S3
   by_cases q4:neq > 0
   .rw[Y3 q4];have S3:Mm κ it pd ((p++W)++G++R.drop x) st2:=by simpa[List.append_assoc] using v
    refine Yc (FA S3 (by rw[List.length_append];lia) (by rw[List.length_append];lia) fun st3 S4=>?_);exact Yi ⟨0,_,_,rfl,fin S4,F'⟩
   .rw[Y2 q4];refine Yi ⟨0,_,_,rfl,fin ?_,F'⟩;have:G.reverse=G:=by
     match G,F.len with
     |[a],_=>rfl
     |[],h=>simp at h
     |a::b::l,h=>simp at h;lia
    rw[this];simpa[List.append_assoc] using v
  |false=>
   simp only[Bool.false_eq_true,if_false];refine Yc (BP (x:=g) (y:=e) C v ag ae (bR g gR) (bR e (Td j)) ?_);cases q4:M8 O key g e with
   |true=>
    simp only[if_true];exact Yi ⟨x,neq,W,G,rfl,by lia,by lia,v,F⟩
   |false=>
    simp only[Bool.false_eq_true,if_false];refine Yi ⟨neq+ 1,W,G++[e],rfl,?_,F.same rR j o q3 q4⟩;rw[Cv j]at v;simpa[List.append_assoc] using v
 .rintro c st2 ⟨neq,W,G,rfl,v,F⟩;rw[show max (n+ 1) nrem=nrem by lia]at v F ⊢;exact⟨nrem,neq,W,G,rfl,by lia,Y9 _,v,F⟩
 .clear v F;rintro c st2 ⟨m,neq,W,G,rfl,m1,m2,v,F⟩;dsimp only;have lW:(W++G).length=m:=by rw[F.pm.length_eq,Yu];lia
  rw[List.length_append]at lW;have lG:=F.len;have S3:Mm κ it pd ((p++W)++G++R.drop m) st2:=by simpa[List.append_assoc] using v
  by_cases q4:neq > 0
  case' pos=>
   rw[Y3 q4];refine Yc (FA S3 (by rw[List.length_append];lia) (by rw[List.length_append];lia) fun st3 S4=>?_)
  case' neg=>
   rw[Y2 q4];have S4:Mm κ it pd ((p++W)++G.reverse++R.drop m) st2:=by
    have:G.reverse=G:=by
     match G,F.len with
     |[a],_=>rfl
     |[],h=>simp at h
     |a::b::l,h=>simp at h;lia
    rw[this];exact S3
  all_goals
   have S5 := S4;rw [List.append_assoc p] at S5;refine Yc (FA S5 hp (by rw [List.length_append, WY]; lia) fun st4 S6 => ?_);have sU : (W ++ G.reverse).reverse.Pairwise (Pc O key) := XW.mpr F.srt;have pU : (W ++ G.reverse).reverse.Perm (R.take m) := (Xy _).trans ((Uf _ (Xy _)).trans F.pm);refine Yc (XC (X7 (I := fun x c st' => ∃ U, c = (none, x) /\ st' = st4 /\ Mm κ it pd (p ++ U ++ R.drop x) st' /\ U.Pairwise (Pc O key) /\ U.Perm (R.take x))
    (Q := fun c st' => ∃ x U, c = (none, x) /\ m <= x /\ x <= nrem /\ Mm κ it pd (p ++ U ++ R.drop x) st' /\ U.Pairwise (Pc O key) /\ U.Perm (R.take x)) ?_ ?_ ⟨_, rfl, rfl, S6, sU, pU⟩) ?_)
   .rintro x c st5 hx1 hx2 ⟨U,rfl,rfl,S7,sU,pU⟩;dsimp only;have lU:U.length=x:=by rw[pU.length_eq,Yu];lia
    obtain⟨e,j⟩:=Mn (l:=R) (i:=x) (by lia);obtain⟨g,o⟩:=Mn (l:=U) (i:=U.length - 1) (by lia);have gT:=pU.mem_iff.mp (Td o);have gR:g∈R:=YV gT;refine Yc (BP (x:=e) (y:=g) C S7 (by rw[GY,Y2 (by lia),Y2 (by lia),show lo+ x - p.length - U.length=0 by lia,YX];exact j) (by rw[GY,Y2 (by lia),Y3 (by lia),show lo+ x - 1 - p.length=U.length - 1 by lia];exact o) (bR e (Td j)) (bR g gR) ?_);have ge:=Ck rR j gT;cases q5:M8 O key e g with
    |true=>
     simp only[if_true];exact Yi ⟨x,U,rfl,hx1,by lia,S7,sU,pU⟩
    |false=>
     simp only[Bool.false_eq_true,if_false];refine Yi ⟨U++[e],rfl,rfl,?_,?_,?_⟩
     .rw[Cv j]at S7;simpa[List.append_assoc] using S7
     .refine Ys.mpr ⟨sU,Xr _ _,fun a ha b hb=>?_⟩;obtain rfl:=Yb.mp hb;exact Hg sU o ((Pc.ask' ge).mp q5) a ha
     .rw[C8 j];exact pU.append_right _
   .rintro c st5 ⟨U,rfl,rfl,S7,sU,pU⟩;rw[show max m nrem=nrem by lia]at S7 pU ⊢;exact⟨nrem,U,rfl,m2,Y9 _,S7,sU,pU⟩
   .rintro c st5 ⟨x,U,rfl,x1,x2,S7,sU,pU⟩;exact Yi (h x U _ (by lia) x2 S7 sU pU)
end
def Tf:Nat->List (List Nat)->List (Nat×Nat×Nat)->Prop
 |_,[],[]=>True
 |b,g::gs,e::es=>e.1=b/\e.2.1=g.length/\Tf (b+ g.length) gs es
 |_,_,_=>False
theorem Tf.len:∀{b gs es},Tf b gs es->es.length=gs.length
 |_,[],[],_=>rfl
 |_,_::_,_::_,h=>by simp[Tf.len h.2.2]
 |_,[],_::_,h=>h.elim
 |_,_::_,[],h=>h.elim
theorem Tf.app:∀{b pre gs es},Tf b (pre++gs) es->∃e1 e2,es=e1++e2/\e1.length=pre.length/\Tf b pre e1/\Tf (b+ pre.flatten.length) gs e2
 |b,[],gs,es,h=>⟨[],es,rfl,rfl,trivial,by simpa using h⟩
 |b,g::pre,gs,[],h=>h.elim
 |b,g::pre,gs,e::es,h=>by
  obtain⟨e1,e2,rfl,l,a,c⟩:=Tf.app h.2.2;refine⟨e::e1,e2,rfl,by simp[l],⟨h.1,h.2.1,a⟩,?_⟩;rw[UI,List.length_append,<-Nat.add_assoc];exact c
theorem Tf.join:∀{b pre gs e1 e2},Tf b pre e1->Tf (b+ pre.flatten.length) gs e2->Tf b (pre++gs) (e1++e2)
 |b,[],gs,[],e2,_,h=>by simpa using h
 |b,g::pre,gs,e::e1,e2,h,h2=>⟨h.1,h.2.1,Tf.join h.2.2 (by rw[UI,List.length_append,<-Nat.add_assoc]at h2;exact h2)⟩
 |b,[],gs,_::_,e2,h,_=>h.elim
 |b,_::_,gs,[],e2,h,_=>h.elim
theorem Tf.pw:∀{b gs es i p},Tf b gs es->Tf b gs (es.modify i fun x=>(x.1,x.2.1,p))
 |_,[],[],i,_,h=>by simpa using h
 |_,_::_,e::es,0,_,h=>⟨h.1,h.2.1,h.2.2⟩
 |_,_::_,e::es,i+ 1,_,h=>⟨h.1,h.2.1,Tf.pw h.2.2⟩
 |_,[],_::_,_,_,h=>h.elim
 |_,_::_,[],_,_,h=>h.elim
section
variable{O:KeyOrd}{key:Nat->O.α}
structure Gw(O:KeyOrd)(key:Nat->O.α)(lo:Nat)(gs:List (List Nat)):Prop where
 srt:∀g∈gs,g.Pairwise (Pc O key)/\0 < g.length
 low:gs.Pairwise (fun a b=>∀x∈a,∀y∈b,x < y)
 pm:gs.flatten.Perm (List.range lo)
theorem Gw.merge{lo:Nat}{pre post:List (List Nat)}{X Y Z:List Nat}(h:Gw O key lo (pre++X::Y::post))(z1:Z.Perm (X++Y))(z2:Z.Pairwise (Pc O key)):Gw O key lo (pre++Z::post):=by
 have p:=h.srt X (by simp);have l:=Ys.mp h.low;have n:=XD.mp l.2.1;have j:=XD.mp n.2;refine⟨fun g o=>?_,?_,?_⟩
 .rcases Yq.mp o with q|q
  .exact h.srt g (Xf _ q)
  .rcases Ym.mp q with rfl|q
   .refine⟨z2,?_⟩;rw[z1.length_eq,List.length_append];lia
   .exact h.srt g (by simp[q])
 .refine Ys.mpr ⟨l.1,XD.mpr ⟨fun b f x e y c=>?_,j.2⟩,fun a i b f x e y c=>?_⟩
  .rcases Yq.mp (z1.mem_iff.mp e) with q|q
   .exact n.1 b (Yp _ f) x q y c
   .exact j.1 b f x q y c
  .rcases Ym.mp f with rfl|q
   .rcases Yq.mp (z1.mem_iff.mp c) with q|q
    .exact l.2.2 a i X (by simp) x e y q
    .exact l.2.2 a i Y (by simp) x e y q
   .exact l.2.2 a i b (by simp[q]) x e y c
 .refine List.Perm.trans ?_ h.pm;rw[V2,V2,UI,UI,UI,<-List.append_assoc X];exact Uf _ (z1.append_right _)
theorem Gw.push{lo n:Nat}{gs:List (List Nat)}{U:List Nat}(h:Gw O key lo gs)(u1:U.Perm (List.range' lo n))(u2:U.Pairwise (Pc O key))(hn:0 < n):Gw O key (lo+ n) (gs++[U]):=by
 refine⟨fun g i=>?_,?_,?_⟩
 .rcases Yq.mp i with q|q
  .exact h.srt g q
  .obtain rfl:=Yb.mp q;exact⟨u2,by rw[u1.length_eq,Vb];exact hn⟩
 .refine Ys.mpr ⟨h.low,Xr _ _,fun a o b j x f y c=>?_⟩;obtain rfl:=Yb.mp j;have h1:x < lo:=by have:=h.pm.mem_iff.mp (List.mem_flatten.mpr ⟨a,o,f⟩);simpa using this
  have h2:=u1.mem_iff.mp c;rw[UJ]at h2;lia
 .rw[V2,UD];have e:List.range (lo+ n)=List.range lo++List.range' lo n:=by
   rw[VA,VA,<-List.range'_append_1,XQ]
  rw[e];exact h.pm.append u1
end
section
variable{prog:J9}{w:Jd}{A:Jc}{E:J6}{s:Ja}{O:KeyOrd}{key:Nat->O.α}{κ:SortKind}{it:Nat->Keyed}{N:Nat}
structure Rh(O:KeyOrd)(key:Nat->O.α)(κ:SortKind)(it:Nat->Keyed)(lo:Nat)(gs:List (List Nat))(rest:List Nat)(st:SortSt):Prop where
 ok:GB κ it (gs.flatten++rest) st
 segs:Gw O key lo gs
 ents:Tf 0 gs (pendingOf st).toList
theorem SE{α:Type}:∀{l:List α} {i:Nat},i+ 1 < l.length->∃pre x y post,l=pre++x::y::post/\pre.length=i
 |[],_,h=>by simp at h
 |[_],_,h=>by simp at h
 |a::b::l,0,_=>⟨[],a,b,l,rfl,rfl⟩
 |a::b::l,i+ 1,h=>by
  obtain⟨pre,x,y,post,e,hl⟩:=SE (l:=b::l) (i:=i) (by simpa using h);exact⟨a::pre,x,y,post,by rw[e];rfl,by simp[hl]⟩
theorem Sk{st:SortSt}{lo i:Nat}{gs:List (List Nat)}{rest:List Nat}{Q:Bool->SortSt->Prop}(C:Rm prog w A s κ it N (M8 O key))(S:Rh O key κ it lo gs rest st)(hlo:lo <=N)(hi:i+ 1 < gs.length)
  (h:∀gs' st',Rh O key κ it lo gs' rest st'->gs'.length+ 1=gs.length->Q true st'):wpS (model prog w) A E s (mergeAt' i) Q st:=by
 obtain⟨c,X,Y,e,rfl,hl⟩:=SE hi;have j:=S.segs;obtain⟨f,e2,n,l1,a1,a2⟩:=S.ents.app
 match e2,a2 with
 |⟨x1,x2,x3⟩::⟨y1,y2,y3⟩::es,a2=>
  obtain⟨b1,b2,b3,b4,z⟩:=a2;simp only[XQ]at b1 b2 b3 b4 z;subst b1;subst b2;subst b3;subst b4;have r:=j.srt X (by simp);have q:=j.srt Y (by simp);have o:∀g∈c++X::Y::e,∀x∈g,x < N:=fun g hg x hx=>by
   have:=j.pm.mem_iff.mp (List.mem_flatten.mpr ⟨g,hg,hx⟩);simp at this;lia
  have low:=(XD.mp (Ys.mp j.low).2.1).1 Y (by simp);have ar:GB κ it (c.flatten++X++Y++(e.flatten++rest)) st:=by
   have:=S.ok;simpa[List.append_assoc] using this
  have g1:(pendingOf st)[i]?=some (c.flatten.length,X.length,x3):=by
   rw[<-Array.getElem?_toList,n,X0 (by lia),show i - f.length=0 by lia];rfl
  have g2:(pendingOf st)[i+ 1]?=some (c.flatten.length+ X.length,Y.length,y3):=by
   rw[<-Array.getElem?_toList,n,X0 (by lia),show i+ 1 - f.length=1 by lia];rfl
  refine gQ C ar ⟨r.1,q.1,low,o X (by simp),o Y (by simp)⟩ r.2 q.2 g1 g2 fun Z st' p z2 S' pe=>?_
  refine h (c++Z::e) st' ⟨?_,j.merge p z2,?_⟩ (by simp;lia)
  .simpa[List.append_assoc] using S'
  .rw[pe];have:(((pendingOf st).setIfInBounds i (c.flatten.length,X.length+ Y.length,x3)).eraseIdxIfInBounds (i+ 1)).toList=f++(c.flatten.length,X.length+ Y.length,x3)::es:=by
    have k:∀ (a b:Nat×Nat×Nat) (v:Nat×Nat×Nat),((f++a::b::es).set i v).eraseIdx (i+ 1)=f++v::es:=fun a b v=>by
     rw[WM _ _ (by lia),show i - f.length=0 by lia,List.set_cons_zero,List.eraseIdx_append_of_length_le (by lia),show i+ 1 - f.length=1 by lia];rfl
    have sz:i+ 1 < (pendingOf st).size:=by rw[<-Array.length_toList,n];simp;lia
    rw[Array.eraseIdxIfInBounds,dif_pos (by simpa using sz),Array.toList_eraseIdx,W9,n,k]
   rw[this];refine a1.join ⟨by simp,?_,?_⟩
   .rw[p.length_eq,List.length_append]
   .rw[p.length_eq,List.length_append];rw[<-Nat.add_assoc,XQ];exact z
theorem tZ{st:SortSt}{Q:Unit->SortSt->Prop}(C:Rm prog w A s κ it N (M8 O key))(hst:Mm κ it #[] (List.range N) st)(h2:1 <=N)
  (h:∀ (p:List Nat) st',GB κ it p st'->p.Perm (List.range N)->p.Pairwise (Pc O key)->Q () st'):wpS (model prog w) A E s sortRuns' Q st:=by
 rw[sortRuns'_eq];refine Yc (Vh ?_);have sz:(arrOf st).size=N:=by rw[show arrOf st=_ from hst.arr];simp
 dsimp only;rw [sz];have s0 : Rh O key κ it 0 [] (List.range' 0 N) st := ⟨by have := hst.1; rwa [VA] at this, ⟨fun g hg => by simp at hg, .nil, .refl _⟩, by rw [hst.pend]; exact trivial⟩;refine Yc (XC (X7 (I := fun x c st' => ∃ lo b, c = (none, lo) /\ Rh O key κ it lo b (List.range' lo (N - lo)) st' /\ lo <= N /\ (x <= lo \/ lo = N) /\ b.length <= lo)
  (Q := fun c st' => ∃ b, c = (none, N) /\ Rh O key κ it N b [] st' /\ b.length <= N) ?_ ?_ ⟨0, [], rfl, s0, Yx _, .inl (Y9 _), Y9 _⟩) ?_)
 .rintro x c o - hx ⟨lo,b,rfl,S,hlo,hxl,v⟩;dsimp only
  by_cases q1:lo≥N
  .rw[Y3 q1];obtain rfl:lo=N:=by lia
   refine Yi ⟨b,rfl,?_,v⟩;rw[UP]at S;exact S
  rw[Y2 q1];have Sp1:Mm κ it (pendingOf o) (b.flatten++List.range' lo (N - lo)) o:=⟨S.ok,rfl⟩;have fl:b.flatten.length=lo:=by rw[S.segs.pm.length_eq,YT]
  have ris:Bf (List.range' lo (N - lo)):=List.pairwise_lt_range';have bR:∀r∈List.range' lo (N - lo),r < N:=fun r hr=>by rw[UJ]at hr;lia
  refine Yc (yP C Sp1 fl.symm (by simp) (by lia) ris bR fun m U j m1 m2 S2 sU pU=>?_);dsimp only;have tk:∀k,k <=N - lo->(List.range' lo (N - lo)).take k=List.range' lo k:=fun k hk=>by rw[List.take_range'_of_length_ge hk]
  have dp:∀k,k <=N - lo->(List.range' lo (N - lo)).drop k=List.range' (lo+ k) (N - (lo+ k)):=fun k hk=>by rw[List.drop_range',Nat.mul_one];congr 1;lia
  by_cases q2:m < minRun' N N 0
  case' pos=>
   rw[Y3 q2];refine Yc (VQ (Ua ⟨rfl,?_⟩));have lU:U.length=m:=by rw[pU.length_eq,tk m m2,Vb]
   refine Yc (rC C S2 fl.symm lU.symm m1 (by lia) (by rw [lU, X1, Vb]; lia) sU (ris.sublist (UH _ _)) (fun u hu r hr => by
    have a:=pU.mem_iff.mp hu;rw[tk m m2,UJ]at a;rw[dp m m2,UJ]at hr;lia) (fun u hu=>by
    have a := pU.mem_iff.mp hu; rw [tk m m2, UJ] at a; lia) (fun r hr => bR r (XG hr)) fun V ab S3 sV pV => ?_)
   simp only[Bool.not_true,Bool.false_eq_true,if_false];have n1:m <=min (N - lo) (minRun' N N 0):=by lia
   have n2:min (N - lo) (minRun' N N 0) <=N - lo:=by lia
   generalize min (N - lo) (minRun' N N 0)=n at S3 pV n1 n2 ⊢;have aa:Mm κ it (pendingOf o) (b.flatten++V++List.range' (lo+ n) (N - (lo+ n))) ab:=by
    rw[List.drop_drop,show m+ (n - m)=n by lia,dp n n2]at S3;exact S3
   have ac:V.Perm (List.range' lo n):=by
    refine pV.trans ((pU.append_right _).trans ?_);rw[<-List.take_add,show m+ (n - m)=n by lia,tk n n2]
   have hn:1 <=n:=by lia
  case' neg=>
   rw[Y2 q2];have n2:=m2;have hn:=m1;have aa:Mm κ it (pendingOf o) (b.flatten++U++List.range' (lo+ m) (N - (lo+ m))) j:=by rw[dp m m2]at S2;exact S2
   have ac:U.Perm (List.range' lo m):=by rw[tk m m2]at pU;exact pU
   have sV:=sU;clear S2 pU m1 m2 q2;generalize m=n at aa ac n2 hn ⊢;generalize U=V at aa ac sV;generalize j=ab at aa ⊢
  all_goals
   have S4:Rh O key κ it lo b (V++List.range' (lo+ n) (N - (lo+ n))) ab:=⟨by have:=aa.1;rwa [List.append_assoc]at this,S.segs,by rw[aa.pend];exact S.ents⟩;have fin:∀{e st'},Rh O key κ it lo e (V++List.range' (lo+ n) (N - (lo+ n))) st'->e.length <=lo->Rh O key κ it (lo+ n) (e++[V]) (List.range' (lo+ n) (N - (lo+ n))) (setPending st' ((pendingOf st').push (lo,n,0)))/\(e++[V]).length <=lo+ n:=fun {e st'} f l5=>by
    refine⟨⟨⟨f.ok.kind,f.ok.ok,?_⟩,f.segs.push ac sV hn,?_⟩,by simp;lia⟩
    .show arrOf st'=_;rw[show arrOf st'=_ from f.ok.arr,V2,UD,List.append_assoc]
    .show Tf 0 _ ((pendingOf st').push (lo,n,0)).toList;rw[Array.toList_push];refine f.ents.join ⟨?_,?_,trivial⟩
     .rw[f.segs.pm.length_eq,YT,XQ]
     .rw[ac.length_eq,Vb]
   refine Yc (Vh ?_);cases hbk:(pendingOf ab).back? with
   |none=>
    dsimp only;obtain⟨f1,f2⟩:=fin S4 v;exact Yc (UX (Yi ⟨lo+ n,_,rfl,f1,by lia,by lia,f2⟩))
   |some z=>
    obtain⟨z1,z2,z3⟩:=z;dsimp only;generalize power' N (2*z1+ z2) (2*z1+ z2+ z2+ n) N=pw;refine Yc (XC (X7 (I:=fun x c st'=>∃e,c=(none,())/\Rh O key κ it lo e (V++List.range' (lo+ n) (N - (lo+ n))) st'/\e.length <=lo) (Q:=fun c st'=>∃e,c=(none,())/\Rh O key κ it lo e (V++List.range' (lo+ n) (N - (lo+ n))) st'/\e.length <=lo) ?_ (fun _ _ z=>z) ⟨b,rfl,S4,v⟩) ?_)
    .rintro x c i - hx ⟨e,rfl,f,l5⟩;refine Yc (Vh ?_);have pl:(pendingOf i).size=e.length:=by rw[<-Array.length_toList];exact f.ents.len
     by_cases q5:(pendingOf i).size > 1
     .rw[Y3 q5];cases hq:(pendingOf i)[(pendingOf i).size - 2]? with
      |none=>exact Yi ⟨e,rfl,f,l5⟩
      |some y=>
       obtain⟨y1,y2,y3⟩:=y;dsimp only
       split
       .exact Yi ⟨e,rfl,f,l5⟩
       .refine Yc (Sk C f hlo (by lia) fun gs6 st6 S6 l6=>?_);simp only[Bool.not_true,Bool.false_eq_true,if_false];exact Yi ⟨gs6,rfl,S6,by lia⟩
     .rw[Y2 q5];exact Yi ⟨e,rfl,f,l5⟩
    .rintro c i ⟨e, rfl, f, l5⟩;dsimp only;have S6 : Rh O key κ it lo e (V ++ List.range' (lo + n) (N - (lo + n))) (setPending i ((pendingOf i).modify ((pendingOf i).size - 1) fun x => (x.1, x.2.1, pw))) := ⟨⟨f.ok.kind, f.ok.ok, f.ok.arr⟩, f.segs, by
      show Tf 0 e ((pendingOf i).modify _ _).toList;rw [Array.toList_modify]; exact f.ents.pw⟩
     obtain⟨f1,f2⟩:=fin S6 l5;refine Yc (UX (Yc (UX (Yi ⟨lo+ n,_,rfl,f1,by lia,by lia,f2⟩))))
 .rintro c o ⟨lo,b,rfl,S,hlo,hxl,v⟩;obtain rfl:lo=N:=by lia
  refine⟨b,rfl,?_,v⟩;rw[UP]at S;exact S
 .rintro c o ⟨b,rfl,S,v⟩;dsimp only;refine Yc (XC (X7 (I:=fun x c st'=>∃b,c=(none,())/\Rh O key κ it N b [] st'/\b.length+ x <=N+ 1/\1 <=b.length) (Q:=fun c st'=>∃b,c=(none,())/\Rh O key κ it N b [] st'/\b.length=1) ?_ ?_ ⟨b,rfl,S,by lia,?_⟩) ?_)
  .rintro x c j - hx ⟨b,rfl,S,hg,hg1⟩;refine Yc (Vh ?_);have pl:(pendingOf j).size=b.length:=by rw[<-Array.length_toList];exact S.ents.len
   rw[pl]
   by_cases q:b.length <=1
   .rw[Y3 q];exact Yi ⟨b,rfl,S,by lia⟩
   rw[Y2 q];generalize hb:(if b.length - 2 > 0 then Option.map (fun x=>x.2.1) (pendingOf j)[b.length - 2 - 1]? else none)=bf
   split
   all_goals
    refine Yc (Sk C S (Y9 _) ?_ fun e ab S3 l3=>?_)
    .lia
    .simp only[Bool.not_true,Bool.false_eq_true,if_false];exact Yi ⟨e,rfl,S3,by lia,by lia⟩
  .rintro c j ⟨b,rfl,S,hg,hg1⟩;exact⟨b,rfl,S,by lia⟩
  .cases b with
   |nil=>have:=S.segs.pm.length_eq;simp at this;lia
   |cons=>simp
  .rintro c j ⟨b,rfl,S,hg⟩;refine Yi ?_
   match b,hg,S with
   |[g],_,S=>
    have:=S.ok;rw[List.append_nil,UD]at this;have pm:=S.segs.pm;rw[UD]at pm;exact h g _ this pm (S.segs.srt g (by simp)).1
end
section
variable{prog:J9}{w:Jd}{A:Jc}{E:J6}{s:Ja}{O:KeyOrd}{key:Nat->O.α}{κ:SortKind}{vs ks:Ji}
theorem jT{p:List Nat}{n:Nat}(h:p.Pairwise (Pc O key))(hn:p.length=n):AB O key p.toArray n:=fun i j f g=>by
 unfold SK
 by_cases q:i=j
 .subst q;exact KeyOrd.kle_refl _
 .have b:i < p.length:=by lia
  have a:j < p.length:=by lia
  have:=(YO.mp h i j b a (by lia)).le;have e:p.toArray.getD i 0=p[i]:=by simp[Array.getD,b]
  have c:p.toArray.getD j 0=p[j]:=by simp[Array.getD,a]
  rw[e,c];exact this
theorem SD{Q:SortSt->Shared->Prop}(hl:ks.length=vs.length)(h2:1 <=vs.length)(C:∀ (i j:Nat) (C':Bool->Shared->Prop),i < vs.length->j < vs.length->C' (M8 O key i j) s->kas_ask prog w A κ ks i j C' s)
  (h:∀ (p:List Nat) st',arrOf st'=p.toArray.map (kas_item (ks.toArray.zip vs.toArray))->failedOf st'=none->p.Perm (List.range vs.length)->p.Pairwise (Pc O key)->Q st' s):
  wpAny (model prog w) A ((sortRuns').run (SortSt.mk' κ (ks.toArray.zip vs.toArray) #[] 7 none)) (fun r s'=>Q r.2 s') E s:=by
 have sz:(ks.toArray.zip vs.toArray).size=vs.length:=by simp[hl]
 have a : Mm κ (kas_item (ks.toArray.zip vs.toArray)) #[] (List.range vs.length) (SortSt.mk' κ (ks.toArray.zip vs.toArray) #[] 7 none) := ⟨⟨rfl, rfl, by
  have e := kas_range (ks.toArray.zip vs.toArray);rw [sz] at e;show ks.toArray.zip vs.toArray = _;rw [<- List.map_toArray]; exact e.symm⟩, rfl⟩
 have ok:Rm prog w A s κ (kas_item (ks.toArray.zip vs.toArray)) vs.length (M8 O key):=fun i j C' hi c f=>by
  have:=C i j C' hi c f;unfold kas_ask at this;rw[kat_item hl,kat_item hl];exact this
 have:=tZ (E:=E) (Q:=fun _ st'=>Q st' s) ok a h2 fun p st' S pm b=>h p st' (by rw[show arrOf st'=_ from S.arr,<-List.map_toArray]) S.ok pm b
 unfold wpS at this;exact YI this (fun r s' q=>by obtain⟨rfl,q⟩:=q;exact q) fun _ _ e=>e
end
end L2
namespace L2
open PySem PySem.Spec PyProof.Rows
structure Qm(scope:Scope)(y:Str)(N':List Str):Prop where
 kind:scope.kind= .function
 co:scope.isCoroutine=false
 gen:scope.isGenerator=false
 nocell:∀y∈scope.names,y.2≠ .cell
 loc:scope.names.lookup y=some .local
 free:∀x∈N',scope.names.lookup x=some .free
def bB(P:J9)(w:Jd)(K:Je)(mg:J5)(base:Jj)(k:Nat)(f:Jg)(u:Jf)(H:Hp)(Q:VK)(E:XK):Prop:=
 ∀ (A:Jc) (outer:List Env) (s:Ja),Room k A->DG P w K mg base A outer s H->codeAny (model P w) A (.call (.ref f) ⟨[u],[]⟩) (CR (Ke P w) outer P w H s Q E) s
section
variable{P:J9}{w:Jd}{K:Je}{mg:J5}{base:Jj}{N':List Str}{q:Str}{scope:Scope}{f c':Jg}{cl:List (Str×Addr)}{params:Arguments}{body:Jk}{k:Nat}{h:Jj}{G:Hp}{σ:St}{te:XK->TE}{pm ctv:Jf}
theorem wH{y:Str}{xv:V}{u0:Jf}(rxv:Jz xv u0)(S:Qm scope y N')(C:SQ cl h scope)(hσ:Holds cl h N' σ)(hl:σ.length=N'.length){oc:Obj}{vs:Array Value}{t:Tok}(hGf:G f=some (.frz (Bb q params body scope cl pm (.ref c') ctv) HT))(hGc:G c'=some (.frz oc HT))(hd:oc.data= .fields vs)(hv:vs[1]?=some (.str q t))
  (hcf:∀b∈cl.map (·.2),G b=none) (hbind:∀pm cv ctv u,bindArgs (W.kla_fn "<lambda>" q params body scope cl pm cv ctv) ⟨[u],[]⟩=pure [(y,u)])
  (hb:∀ (A:Jc) (outer:List Env) (s:Ja) (H:Hp) (E:XK),Room k (A.deeper (W.envX q scope s.heap.objs.size f (.ref c') cl))->PE (Et P w K mg base (y::N') q scope f (.ref c') cl A outer s H E) body (te E))
  {Q:VK} {E:XK} (ht:te E (some xv::σ) G Q):bB P w K mg base (k+ 1) f u0 (NP cl h G) (fun v H'=>∃H2,H'=NP cl h H2/\(∀b∈cl.map (·.2),H2 b=none)/\Q v H2) (fun c _ H'=>∃H2,H'=NP cl h H2/\(∀b∈cl.map (·.2),H2 b=none)/\E c none H2):=by
 intro A outer s hr r;have eG:Rp cl (NP cl h G)=G:=by
  funext b
  by_cases hb:b∈cl.map (·.2)
  .rw[BR hb,hcf b hb]
  .rw[Re hb,Ml hb]
 have nC:∀b x,G b=some x->b∉cl.map (·.2):=fun b x e hb=>by rw[hcf b hb]at e;cases e
 have gf:s.heap.get? f=some (Bb q params body scope cl pm (.ref c') ctv):=r.hok.frz (by rw[Ml (nC f _ hGf)];exact hGf);have gc:s.heap.get? c'=some oc:=r.hok.frz (by rw[Ml (nC c' _ hGc)];exact hGc);have j:∀b∈cl.map (·.2),∃o,h.get? b=some o/\s.heap.get? b=some o:=fun b hb=>by
  obtain⟨o,v,g,_⟩:=C.cell b hb;exact⟨o,g,r.hok.frz (by rw[EA hb,g];rfl)⟩
 have cfs:∀b∈cl.map (·.2),b∉De outer:=fun b hb hm=>by
  obtain⟨o,g,_⟩:=j b hb;have:=r.frf b hm;rw[EA hb,g]at this;cases this
 have hcc:∀b∈cl.map (·.2),(∃o,h.get? b=some o)/\b∉De outer:=fun b hb=>⟨(j b hb).imp fun o z=>z.1,cfs b hb⟩
 have hokG:Tq P w G s.heap:=fun b o e=>by
  have hb := nC b _ e;exact (r.hok b o (by rw [Ml hb]; exact e)).stay (fun _ _ _ z => z) (fun d z => by
   by_cases hd:d∈cl.map (·.2)
   .obtain⟨o1,g,_⟩:=j d hd;rw[EA hd,g]at z;cases z
   .rw [Ml hd] at z; exact z) fun d xs z => by
   by_cases hd:d∈cl.map (·.2)
   .obtain⟨o1,g,_⟩:=j d hd;rw[EA hd,g]at z;cases z
   .rw[Ml hd]at z;exact z
 have gN:∀b,NP cl h G b=none->G b=none:=fun b e=>by
  by_cases hb:b∈cl.map (·.2)
  .exact hcf b hb
  .rw[Ml hb]at e;exact e
 refine W.kla_callFunE hr.depth gf rfl S.co S.gen rfl ⟨c',oc,vs,t,rfl,gc,hd,hv⟩ ?_;rw[hbind];refine Y6 (wpAny_newFunctionEnv S.nocell (fun z hz=>by obtain rfl:=Yb.mp hz;exact S.loc) (fun h₁ hns hsb=>⟨?_,?_⟩) S.kind)
 .exact(r.mod.nolimit.keeps fun b o e=>(r.bs b o e).1).fresh _ hsb
 have hk₁:∀b o,s.heap.get? b=some o->h₁.get? b=some o:=fun b o e=>hsb.extBut b o (Yo (Yf e)) (Y8 _ e)
 show codeAny _ _ (.expr body (W.envX q scope s.heap.objs.size f (.ref c') cl)) _ _;refine W.kla_codeExpr ?_;have noA:∀b:Addr,b∉(Et P w K mg base (y::N') q scope f (.ref c') cl A outer s G E).ex:=fun b z=>absurd (show b∈([]:List Addr) from z) (by simp)
 have I:Jq (Et P w K mg base (y::N') q scope f (.ref c') cl A outer s G E) [] (some xv::σ) G {s with heap:=h₁,toks:=s.toks+ 1}:=by
  refine ⟨⟨r.mod, S.kind, rfl, rfl, Y9 _, C.inj, fun x hx => ?_, (fun x c z => by cases z), fun _ => hr.hd, Around.frames_deeper r.frames, .inr ⟨rfl, rfl⟩, fun b z => absurd z (noA b), fun b o e => ⟨(r.bs b o e).1, gN b (r.bs b o e).2⟩, r.bsz, fun b _ _ => noA b, fun b z => absurd z (noA b), r.funs, fun b hb => gN b (r.frf b hb)⟩,
   rfl, r.bare, Un.kept hk₁, ⟨_, hns, fun i x v g e2 e3 => ?_⟩, fun x c e => ?_, hokG.fresh (Y9 _), fun x c e => hcf c (Cy e), fun p hp => absurd (show p ∈ ([] : List (Addr × Obj)) from hp) (by simp), hokG.kept hk₁, by simp [hl]; rfl⟩
  .have hx:scope.names.lookup x=some .cell\/scope.names.lookup x=some .free:=hx;rcases hx with hx|hx
   .exact absurd rfl (S.nocell _ (XA hx))
   .exact C.has x (XA hx)
  .cases i with
   |zero=>
    have g:some y=some x:=g;have e2:some (some xv)=some (some v):=e2;cases g;cases e2;exact⟨u0,rxv,.inl ⟨S.loc,by simp[List.lookup]⟩⟩
   |succ i=>?_
   have g:N'[i]?=some x:=g;have e2:σ[i]?=some (some v):=e2;obtain⟨c,o,u,q1,q2,q3,q4⟩:=hσ i x v g e2;obtain⟨o',z1,z2⟩:=j c (Cy q1);rw[q2]at z1;cases z1;exact⟨u,q4,.inr ⟨.inr (S.free x (Yk g)),c,q1,⟨o,hk₁ _ _ z2,q3⟩⟩⟩
  .obtain⟨o,v,z1,z2⟩:=C.cell c (Cy e);obtain⟨o',y1,y2⟩:=j c (Cy e);rw[z1]at y1;cases y1;exact⟨v,⟨o,hk₁ _ _ y2,z2⟩⟩
 refine YI (hb A outer s G E (hr.deeper _) [] _ (some xv::σ) G Q I ht) (fun v s' hs=>?_) fun e s' hs=>?_
 .obtain⟨x,H',J,rx,qx⟩:=hs;obtain⟨u1,u2,u3⟩:=IJ (fs:=De outer) r.hok hcc (eG▸J.base);exact⟨x,NP cl h H',J.os,J.bare,u1,u3 _ (fun b o e nf n=>J.base.keep b o e (eG▸n) nf (by simp[Et])) J.hok,rx,H',rfl,u2,qx⟩
 .refine YI hs (fun _ s'' hc=>?_) fun e' s'' hc=>?_
  .obtain⟨a,C1,t1,B,H',g,F,hE⟩:=hc;obtain⟨u1,u2,u3⟩:=IJ (fs:=De outer) r.hok hcc (eG▸F.un);exact⟨a,C1,t1,B,NP cl h H',g,⟨F.os,F.bare,F.fly,u3 B (fun b o e nf n=>F.keepB b o e nf (eG▸n)) F.hok,u1,fun b o e nf n=>F.keepB b o e nf (gN b n),F.thereB⟩,H',rfl,u2,hE⟩
  .obtain⟨a,C1,t1,B,H',g,F,hE⟩:=hc;obtain⟨u1,u2,u3⟩:=IJ (fs:=De outer) r.hok hcc (eG▸F.un);exact⟨a,C1,t1,B,NP cl h H',g,⟨F.os,F.bare,F.fly,u3 B (fun b o e nf n=>F.keepB b o e nf (eG▸n)) F.hok,u1,fun b o e nf n=>F.keepB b o e nf (gN b n),F.thereB⟩,H',rfl,u2,hE⟩
end
end L2
namespace L2
open PySem PySem.Spec PyProof.Rows PySem.W
structure BE(X:Cx)(y:Str)(N':List Str)(scope:Scope)(caps:List (Option Nat)):Prop where
 s:Qm scope y N'
 cap:OQ X.N N' scope caps
 vis:∀x,(x,NameKind.free)∈scope.names->X.env.kindOf x=some .cell\/X.env.kindOf x=some .free
def Qc(N:List Str)(y:Str)(N':List Str)(scope:Scope)(caps:List (Option Nat))(sc:Scope):Bool:=
 decide (scope.kind= .function) && !scope.isCoroutine && !scope.isGenerator && (scope.names.all fun y=>decide (y.2≠ .cell)) && decide (scope.names.lookup y=some .local) && (N'.all fun x=>decide (scope.names.lookup x=some .free)) && decide (caps.length=N'.length) &&
 ((N'.zip caps).all fun p => match p.2 with
  |none=>true
  | some j => decide (N[j]? = some p.1) && decide ((p.1, NameKind.free) ∈ scope.names) && (scope.names.all fun y => decide (y.1 = p.1 -> y.2 = .free))) &&
 (scope.names.all fun y=>decide (y.2= .free->sc.names.lookup y.1=some .cell\/sc.names.lookup y.1=some .free))
theorem rS{X:Cx}{y:Str}{N':List Str}{scope:Scope}{caps:List (Option Nat)}{sc:Scope}{N:List Str}(hsc:X.env.scope=sc)(hN:X.N=N)(h:Qc N y N' scope caps sc=true):BE X y N' scope caps:=by
 subst hsc hN;unfold Qc at h;simp only[X2,Yd,XB,Xx]at h;obtain⟨⟨⟨⟨⟨⟨⟨⟨h1,h2⟩,p⟩,o⟩,r⟩,n⟩,g⟩,f⟩,e⟩:=h;refine⟨⟨h1,h2,p,o,r,n⟩,⟨g,fun i j x v s=>?_⟩,fun x b=>e _ b rfl⟩;have a:(x,some j)∈N'.zip caps:=by
  have:(N'.zip caps)[i]?=some (x,some j):=by rw[Ur];exact⟨v,s⟩
  exact Yk this
 have q:=f _ a;simp only[X2,Yd,XB]at q;exact⟨q.1.1,q.1.2,fun k c=>q.2 _ c rfl⟩
section
variable{X:Cx}{q:Str}{params:Arguments}{body:Jk}{scope:Scope}{H G:Hp}{f:Jg}{y:Str}{N':List Str}{caps:List (Option Nat)}{te:TE}{k:Nat}{σ:St}{pins:J8}{s s1 s2:Ja}{cl:List (Str×Addr)}{A:Jc}
theorem aC(v:D5 X q params body scope H f)(S:BE X y N' scope caps)(hbind:∀cl pm cv ctv u,bindArgs (W.kla_fn "<lambda>" q params body scope cl pm cv ctv) ⟨[u],[]⟩=pure [(y,u)])
  (hb:∀ (f c':Jg) (cl:List (Str×Addr)) (A:Jc) (outer:List Env) (s:Ja) (H:Hp) (E:XK),Room k (A.deeper (W.envX q scope s.heap.objs.size f (.ref c') cl))->PE (Et X.prog X.w X.K X.mg X.base (y::N') q scope f (.ref c') cl A outer s H E) body te)
  {Q:VK} {xv:V} {u0:Jf} {E:J6} (rx:Jz xv u0) (I1:Jq X pins σ H s1) (hfn:∀x,X.fn x=true) (hr:Room (k+ 1) A) (hA:A.frames=X.A.frames) (ht:te (some xv::Nf caps σ) H Q):
  wpAny (model X.prog X.w) A (call (.ref f) [u0]) (CE X.stack X.prog X.w H s1 Q) E s1:=by
 obtain⟨cl,c',ctv,pm,oc,vs,t,⟨g,aa,hcl3⟩,b4,b5,b6,b7⟩:=v;have cX:∀b∈cl.map (·.2),∃x,X.env.cells.lookup x=some b:=fun b hb=>by
  obtain⟨⟨x,b'⟩,n,rfl⟩:=Y5.mp hb;exact⟨x,hcl3 _ n⟩
 have ab:∀b∈cl.map (·.2),H b=none:=fun b hb=>by
  obtain⟨x,n⟩:=cX b hb;exact I1.freeC x b n
 have ac:∀b∈cl.map (·.2),∃o v,s1.heap.get? b=some o/\o.data= .cell v:=fun b hb=>by
  obtain⟨x,n⟩:=cX b hb;obtain⟨v,o,e1,a⟩:=I1.cell x b n;exact⟨o,v,e1,a⟩
 have hCO:SQ cl s1.heap scope:=⟨fun x y b h1 h2=>I1.ok.inj x y b (g x b h1) (g y b h2),aa,ac⟩;have hH:Holds cl s1.heap N' (Nf caps σ):=fun i x v e1 a=>by
  obtain⟨m,hns,hl⟩:=I1.loc;unfold Nf at a;rw[Ya]at a;cases ec:caps[i]? with
  |none=>rw[ec]at a;cases a
  |some o=>
   rw[ec]at a;cases o with
   |none=>cases a
   |some j=>
    have a:(σ[j]?).join=some v:=Option.some.inj a;obtain⟨n1,n2,n3⟩:=S.cap.2 i j x e1 ec;have e3:σ[j]?=some (some v):=by
     cases z:σ[j]? with
     |none=>rw[z]at a;cases a
     |some y=>rw[z]at a;exact YR some a
    have hv:X.env.kindOf x=some .cell\/X.env.kindOf x=some .free:=S.vis x n2;obtain⟨u,ru,lk⟩:=hl j x v n1 e3 (hv.elim (fun z=>.inr (.inl z)) (fun z=>.inr (.inr z)));obtain⟨b,hb⟩:=aa x n2;have hb2:=g x b hb;rcases lk with⟨z,_⟩|⟨_,b',hb',⟨o,q1,q2⟩⟩
    .rcases hv with y|y <;> (rw[z]at y;cases y)
    .rw[hb2]at hb';cases hb';exact⟨b,o,u,hb,q1,q2,ru⟩
 have ask:=wH (P:=X.prog) (w:=X.w) (K:=X.K) (mg:=X.mg) (base:=X.base) (k:=k) (h:=s1.heap) (G:=H) (te:=fun _=>te) (params:=params) (body:=body) (Q:=Q) (E:=fun _ _ _=>False) rx S.s hCO hH (by unfold Nf;rw[Y1];exact S.cap.1) b4 b5 b6 b7 ab (hbind cl) (hb f c' cl) ht;have c:=d6 I1 hfn cX;refine Wg (UK (ask A X.stack s1 hr ⟨by rw[hA];exact c.frames,c.mod,c.bs,c.bsz,c.funs,c.frf,c.hok,c.bare⟩) fun r s2 p=>?_);cases r with
 |error e=>obtain⟨_,_,_,_,_,_,_,_,_,_,z⟩:=p;exact z.elim
 |ok fl=>
  cases fl with
  |ret v=>
   obtain⟨x,H',z1,z2,z3,z4,z5,H2,rfl,z7,z8⟩:=p;exact ZK I1 cX ⟨x,_,z1,z2,z3,z4,z5,by show Q x (Rp cl (NP cl s1.heap H2));rw[yG z7];exact z8⟩
  |next=>exact False.elim p
  |brk=>exact False.elim p
  |cont=>exact False.elim p
end
def NE(H G:Hp):Prop:=∀b o,H b=some o->(∀xs,o≠ .lst xs)->G b=some o
theorem NE.rfl'{H:Hp}:NE H H:=fun _ _ e _=>e
theorem NE.trans{H G F:Hp}(a:NE H G)(b:NE G F):NE H F:=fun x o e n=>b x o (a x o e n) n
theorem Jo.keepT{H G:Hp}(a:Jo H G):NE H G:=fun b o e _=>a b o e
theorem CI{H:Hp}{l:Jg}{xs:List V}{o:HO}(e:H l=some (.lst xs)):NE H (upd H l o):=fun b u a n=>by
 rw[JG (fun z=>by subst z;rw[e]at a;cases a;exact n xs rfl)];exact a
section
variable{X:Cx}{q:Str}{params:Arguments}{body:Jk}{scope:Scope}{f:Jg}{y:Str}{N':List Str}{caps:List (Option Nat)}{te:TE}{k:Nat}{σ:St}{pins:J8}{A:Jc}{E:J6}{O:KeyOrd}{d:O.α}{RA:Hp->V->O.α->Prop}{c:List O.α}
theorem D5.keepT{H G:Hp}(v:D5 X q params body scope H f)(h:NE H G):D5 X q params body scope G f:=v.of fun b a e=>h b _ e fun _ z=>by cases z
theorem uP{kS:Jg}{bd:Value->PUnit->Sem (ForInStep PUnit)}(S:BE X y N' scope caps)(hbind:∀cl pm cv ctv u,bindArgs (W.kla_fn "<lambda>" q params body scope cl pm cv ctv) ⟨[u],[]⟩=pure [(y,u)])
  (hb:∀ (f c':Jg) (cl:List (Str×Addr)) (A:Jc) (outer:List Env) (s:Ja) (H:Hp) (E:XK),Room k (A.deeper (W.envX q scope s.heap.objs.size f (.ref c') cl))->PE (Et X.prog X.w X.K X.mg X.base (y::N') q scope f (.ref c') cl A outer s H E) body te)
  (hfn:∀x,X.fn x=true) (hr:Room (k+ 1) A) (hA:A.frames=X.A.frames) (mono:∀{G G' v p},NE G G'->RA G v p->RA G' v p)
  (hbd:∀ (u:Jf) (s:Ja) (R:Shared->Prop),wpAny (model X.prog X.w) A (call (.ref f) [u]) (fun k s'=>wpAny (model X.prog X.w) A (Builtin.List.listUpdate (.ref kS) (·.push k)) (fun _ s''=>R s'') (fun _ _=>False) s') (fun _ _=>False) s->wpAny (model X.prog X.w) A (bd u ⟨⟩) (fun r s'=>r= .yield ⟨⟩/\R s') E s):
  ∀ (xs:List V) (us:Ji) (kv:List V) (H:Hp) (s:Ja),JB xs us->Jq X pins σ H s->H kS=some (.lst kv)->kv.length+ xs.length <=100000->D5 X q params body scope H f->
   (∀ (j:Nat) x p,xs[j]?=some x->c[kv.length+ j]?=some p->∀G,NE H G->te (some x::Nf caps σ) G (fun v G'=>Jo G G'/\RA G' v p))->kv.length+ xs.length=c.length->(∀ (j:Nat) v p,kv[j]?=some v->c[j]?=some p->RA H v p)->
   wpAny (model X.prog X.w) A (forIn us PUnit.unit bd) (fun _ s'=>∃kv' H',Jq X pins σ H' s'/\NE H H'/\H' kS=some (.lst kv')/\kv'.length=c.length/\(∀b,b≠kS->∀o,H b=some o->H' b=some o)/\∀ (j:Nat) v p,kv'[j]?=some v->c[j]?=some p->RA H' v p) E s:=by
 intro xs
 induction xs with
 |nil=>
  intro us kv H s hv I hk _ _ _ hl hR;cases hv;rw[List.forIn_nil];exact Y6 ⟨kv,H,I,.rfl',hk,by simpa using hl,fun b _ o e=>e,hR⟩
 |cons x xs ih=>
  intro us kv H s hv I hk hz v ht hl hR;cases us with
  |nil=>cases hv
  |cons u us=>
  obtain⟨rx,rs⟩:Jz x u/\JB xs us:=by cases hv with|cons a b=>exact⟨a,b⟩
  clear hv;rw[V3];rw[List.length_cons]at hz hl;obtain⟨p,hp⟩:∃p,c[kv.length]?=some p:=⟨_,Y7 (by lia)⟩;refine Y0 (YI (hbd u s (fun s'=>∃H' z,Jq X pins σ H' s'/\NE H H'/\H' kS=some (.lst (kv++[z]))/\RA H' z p/\∀b,b≠kS->∀o,H b=some o->H' b=some o) ?_) (fun r s' hr'=>?_) fun _ _ e=>e)
  .refine YI (aC v S hbind hb rx I hfn hr hA (ht 0 x p rfl (by simpa using hp) H .rfl')) (fun k1 s1 hc=>?_) fun _ _ e=>e
   obtain⟨z,H1,z1,z2,z3,z4,z5,sm,ra⟩:=hc;obtain⟨i,H1',I1,rk,rfl,rfl⟩:∃i H1',Jq X pins σ H1' s1/\Jz i k1/\i=z/\H1'=H1:=I.after (Q:=fun a b=>a=z/\b=H1) ⟨z,H1,z1,z2,z3,z4,z5,rfl,rfl⟩;have aa:=sm _ _ hk;obtain⟨hz1,its,n,r1,l1,g⟩:=I1.lstM aa;refine Ux g rfl ?_ (by rw[Yj,YG];lia) (by rw[Array.size_push,Yj,YG];lia);have I2:=I1.lset (ys:=kv++[i]) (its':=its++[k1]) (f:=(·.push k1)) (t':=s1.toks) aa g (by simp) (JB.append r1 (.cons rk .nil)) (by rw[List.length_append,YG];simp;lia);exact⟨_,i,I2,sm.keepT.trans (CI aa),Nb,mono (CI aa) ra,fun b hb o e=>by rw[JG hb];exact sm b o e⟩
  .obtain⟨rfl,H',z,I',kp,hk',ra,kb⟩:=hr';show wpAny (model X.prog X.w) A (forIn us PUnit.unit bd) _ E s';refine YI (ih us (kv++[z]) H' s' rs I' hk' (by simp;lia) (v.keepT kp) (fun j x' p' g e2 G hG=>ht (j+ 1) x' p' g (by rw[<-e2];congr 1;simp;lia) G (kp.trans hG)) (by simp;lia) fun j v' p' g e2=>?_) (fun _ s'' h=>?_) fun _ _ e=>e
   .rw[U2]at g
    split at g
    .exact mono kp (hR j v' p' g e2)
    .rename_i hj
     have hj2:j=kv.length:=by
      have:=(Y4.mp g).1;simp at this;lia
     subst hj2;rw[UP]at g;cases g;rw[hp]at e2;cases e2;exact ra
   .obtain⟨kv',H'',a1,a2,a3,a4,a5,a6⟩:=h;exact⟨kv',H'',a1,kp.trans a2,a3,a4,fun b hb o e=>a5 b hb o (kb b hb o e),a6⟩
theorem eI{ks vs:Ji}(hl:ks.length=vs.length):Array.map (fun x:Keyed=>x.2) (ks.toArray.zip vs.toArray)=List.toArray ((List.range vs.length).map fun i=>vs.getD i Value.none):=by
 apply Wo.mp;rw[Array.toList_map,Array.toList_zip];show List.map Prod.snd (List.zip ks vs)=_;rw[List.map_snd_zip (by lia)];exact(Po vs).symm
theorem u9{D kS:Jg}{e1:Nat}{vs ks:Ji}{xs kv:List V}{H:Hp}{s:Ja}{κ:SortKind}{n':Nat}{P:PySem.Fin->Shared->Prop}(I:Jq X pins σ H s)(hD:H D=some (.frz (seqObj "list" #[] e1) HT))(n4:∀o u,X.H₀ D≠some (.frz o u))(hne:kS≠D)
  (hk:H kS=some (.lst kv)) (ek:s.heap.get? kS=some (seqObj "list" ks.toArray n')) (hkl:ks.length=vs.length) (rv:JB xs vs) (hz:vs.length <=100000) (hu:A.units < cLine)
  (S:RH X.prog X.w s.heap O (fun i=>c.getD i d) κ ks)
  (h:∀ (p:List Nat) s' H',p.Perm (List.range xs.length)->p.Pairwise (Pc O fun i=>c.getD i d)->Jq X pins σ H' s'->H' D=some (.lst (p.map fun i=>xs.getD i .non))->(∀b,b≠kS->b≠D->∀o,H b=some o->H' b=some o)->P (.done (.ret .none)) s'):
  wpAny (model X.prog X.w) A (ksk_end D false vs.toArray e1 (.ref kS) ks.toArray) P E s:=by
 have aa:xs.length=vs.length:=rv.length;have g:∀ (p:List Nat) (st:SortSt),p.Perm (List.range vs.length)->p.Pairwise (Pc O fun i=>c.getD i d)->(arrOf st).map (·.2)=List.toArray (p.map fun i=>vs.getD i Value.none)->failedOf st=none->wpAny (model X.prog X.w) A (ksk_tail D false e1 (.ref kS) st) P E s:=fun p st pm r v hf=>by
  have hb:∀i∈p,i < xs.length:=fun i hi=>by have:=pm.mem_iff.mp hi;simp at this;lia
  have pl:p.length=vs.length:=by rw[pm.length_eq,YT]
  unfold ksk_tail;dsimp only;rw[v];refine Y0 (Ux ek rfl ?_ (by rw[Yj,YG];lia) (Yx _));have I1:=I.lset (l:=kS) (ys:=[]) (its':=[]) (f:=fun _=>#[]) (t':=s.toks) hk ek rfl .nil (Yx _);refine Y0 (U1 ?_);have q:upd H kS (.lst []) D=some (.frz (seqObj "list" #[] e1) HT):=by rw[JG (Ne.symm hne)];exact hD
  have n:=I1.hok.frz q;refine Y0 (VT n rfl ?_);have I2:=I1.retag (u1:=.lst []) q (fun _ z=>by cases z) (fun _ z=>by cases z) (fun _ z=>by cases z) n4 ⟨Yx _,[],e1,.nil,n⟩;refine Y0 (Ux n rfl ?_ (Yx _) (by simp only[Bool.false_eq_true,if_false];rw[Yj,Y1,pl,YG];lia));have I3:=I2.lset (l:=D) (ys:=p.map fun i=>xs.getD i .non) (its':=p.map fun i=>vs.getD i Value.none) (f:=fun _=>List.toArray (p.map fun i=>vs.getD i Value.none)) (t':=s.toks) Nb n rfl (O9 rv p hb) (by rw[Y1,pl,YG];lia);rw[hf];simp only[Wf,Bool.false_eq_true,if_false];exact Y6 (h p _ _ (by rw[aa];exact pm) r I3 Nb fun b h1 h2 o e=>by rw[JG h2,JG h2,JG h1];exact e)
 unfold ksk_end;simp only[Bool.false_eq_true,if_false]
 by_cases h2:vs.toArray.size < 2
 .rw[Y3 h2,Y3 h2];refine Y0 (Y6 ?_);rw[StateT.run_pure];refine Y0 (Y6 ?_);refine g (List.range vs.length) _ (.refl _) ?_ (eI hkl) rfl;rw[Yj]at h2;rcases hv:vs.length with _|_|m
  .exact .nil
  .exact Xr _ _
  .lia
 .rw[Y2 h2,Y2 h2];rw[Yj]at h2;refine Y0 (YI (S.kind A s (fun κ' s'=>κ'=κ/\s'=s) (fun _ _ z=>z) (by lia) ⟨rfl,rfl⟩) ?_ fun _ _ x=>x.elim);rintro _ _ ⟨rfl,rfl⟩;refine Y0 (YI (SD (Q:=fun a s'=>∃p:List Nat,s'=_/\arrOf a=p.toArray.map (kas_item (ks.toArray.zip vs.toArray))/\failedOf a=none/\p.Perm (List.range vs.length)/\p.Pairwise (Pc O fun i=>c.getD i d)) hkl (by lia) (fun i j C' hi hj hC=>S.cmp A _ i j C' hu (fun _ _ z=>z) (by lia) (by lia) hC) fun p a a1 a2 a3 a4=>⟨p,rfl,a1,a2,a3,a4⟩) ?_ fun _ _ e=>e);rintro⟨⟨⟩,a⟩ s' ⟨p,rfl,har,hf,pm,r⟩;exact g p a pm r (by rw[kat_snds hkl har]) hf
end
section
variable{X:Cx}{q:Str}{params:Arguments}{body:Jk}{scope:Scope}{f:Jg}{y:Str}{N':List Str}{caps:List (Option Nat)}{te:TE}{k:Nat}{σ:St}{pins:J8}{A:Jc}{E:J6}{O:KeyOrd}{d:O.α}{RA:Hp->V->O.α->Prop}{RV:Heap->Value->O.α->Prop}{κ:SortKind}{c:List O.α}
theorem bP{D:Jg}{n:Nat}{xs:List V}{vs:Ji}{H:Hp}{s:Ja}{P:PySem.Fin->Shared->Prop}(I:Jq X pins σ H s)(hD:H D=some (.lst xs))(n4:X.s₀.heap.objs.size <=D)(eD:s.heap.get? D=some (seqObj "list" vs.toArray n))(rv:JB xs vs)(hz:xs.length <=100000)
  (v:D5 X q params body scope H f) (S:BE X y N' scope caps) (hbind:∀cl pm cv ctv u,bindArgs (W.kla_fn "<lambda>" q params body scope cl pm cv ctv) ⟨[u],[]⟩=pure [(y,u)])
  (hb:∀ (f c':Jg) (cl:List (Str×Addr)) (A:Jc) (outer:List Env) (s:Ja) (H:Hp) (E:XK),Room k (A.deeper (W.envX q scope s.heap.objs.size f (.ref c') cl))->PE (Et X.prog X.w X.K X.mg X.base (y::N') q scope f (.ref c') cl A outer s H E) body te)
  (hfn:∀x,X.fn x=true) (hr:Room (k+ 1) A) (hA:A.frames=X.A.frames) (mono:∀{G G' v p},NE G G'->RA G v p->RA G' v p)
  (hv:∀{s H x v p},Jq X pins σ H s->Jz x v->RA H x p->RV s.heap v p)
  (ask:∀{vs:Ji} {c:List O.α} {h:Jj},(∀ (i:Nat) v p,vs[i]?=some v->c[i]?=some p->RV h v p)->vs.length=c.length->RH X.prog X.w h O (fun i=>c.getD i d) κ vs)
  (hc:xs.length=c.length) (ht:∀ (j:Nat) x p,xs[j]?=some x->c[j]?=some p->∀G,NE H G->te (some x::Nf caps σ) G (fun v G'=>Jo G G'/\RA G' v p))
  (h:∀ (p:List Nat) s' H',p.Perm (List.range xs.length)->p.Pairwise (Pc O fun i=>c.getD i d)->Jq X pins σ H' s'->H' D=some (.lst (p.map fun i=>xs.getD i .non))->(∀b,b≠D->∀o,H b=some o->H' b=some o)->P (.done (.ret .none)) s'):
  wpAny (model X.prog X.w) A (ksk_tree D (.ref f) false) P E s:=by
 have hlen:xs.length=vs.length:=rv.length;have hn4:∀o u,X.H₀ D≠some (.frz o u):=fun o u z=>by
  have:=I.base.frzs D o u z;rw[hD]at this;cases this
 unfold ksk_tree;refine Y0 (listItems_at eD rfl ?_);refine Y0 (Ux eD rfl ?_ (by rw[Yj,YG];lia) (Yx _));have I1:=I.lset (l:=D) (ys:=[]) (its':=[]) (f:=fun _=>#[]) (t':=s.toks) hD eD rfl .nil (Yx _);obtain⟨a,eD1⟩:∃a,(s.heap.update D (Obj.mapSeq fun _=>#[])).get? D=some (seqObj "list" #[] a):=⟨_,get?_update_seq eD (fun _=>#[])⟩;refine Y0 (VT eD1 rfl ?_);refine Y0 (WJ ?_ (by show vs.length <=_;rw[YG];lia));have I2:=I1.kept (h':=(s.heap.update D (Obj.mapSeq fun _=>#[])).push (seqObj "tuple" vs.toArray 0)) (t':=s.toks) (fun b u e=>Y8 _ e);refine Y0 (Vn ?_ (Yx _));have I3:=I2.lnew (ys:=[]) (its:=[]) (t':=s.toks) .nil (Yx _);refine Xa ?_;obtain⟨kS,ab⟩:∃kS,kS=((s.heap.update D (Obj.mapSeq fun _=>#[])).push (seqObj "tuple" vs.toArray 0)).objs.size:=⟨_,rfl⟩;have g:upd H D (.lst []) kS=none:=by rw[ab];exact I2.fresh
 have r:kS≠D:=fun z=>by rw[z,Nb]at g;cases g
 have I3':Jq X pins σ (upd (upd H D (.lst [])) kS (.lst [])) {s with heap:=((s.heap.update D (Obj.mapSeq fun _=>#[])).push (seqObj "tuple" vs.toArray 0)).push (seqObj "list" #[] 0),toks:=s.toks}:=by rw[ab];exact I3
 have hD3:upd (upd H D (.lst [])) kS (.lst []) D=some (.lst []):=by rw[JG (Ne.symm r),Nb]
 have eD3:(((s.heap.update D (Obj.mapSeq fun _=>#[])).push (seqObj "tuple" vs.toArray 0)).push (seqObj "list" #[] 0)).get? D=some (seqObj "list" #[] a):=Y8 _ (Y8 _ eD1);have I4:=I3'.retag (u1:=.frz (seqObj "list" #[] a) HT) hD3 (fun _ z=>by cases z) (fun _ z=>by cases z) (fun _ z=>by cases z) hn4 (HT.ok eD3);have kp:NE H (upd (upd (upd H D (.lst [])) kS (.lst [])) D (.frz (seqObj "list" #[] a) HT)):=((CI hD).trans (ML g).keepT).trans (CI hD3);have sb:∀b,b≠D->∀o,H b=some o->upd (upd (upd H D (.lst [])) kS (.lst [])) D (.frz (seqObj "list" #[] a) HT) b=some o:=fun b hb o e=>by
  have e2:upd H D (.lst []) b=some o:=by rw[JG hb];exact e
  rw[JG hb];exact ML g b o e2
 show wpAny (model X.prog X.w) A (ksk_rest D (.ref f) false vs.toArray a (.ref ((s.heap.update D (Obj.mapSeq fun _=>#[])).push (seqObj "tuple" vs.toArray 0)).objs.size)) P E {s with heap:=((s.heap.update D (Obj.mapSeq fun _=>#[])).push (seqObj "tuple" vs.toArray 0)).push (seqObj "list" #[] 0),toks:=s.toks};rw[<-ab];unfold ksk_rest;refine Y0 (Ua ?_)
 first
  |rw[List.forIn_toArray]
  |(rw[<-Array.forIn_toList];simp only[WX])
 refine Y0 (YI (uP (E:=E) (kS:=kS) (c:=c) (RA:=RA) S hbind hb hfn hr hA mono (fun u s R hx=>?_) xs vs [] _ _ rv I4 (by rw[JG r,Nb]) (by simpa using hz) (v.keepT kp) (fun j x p a e2 G hG=>ht j x p a (by simpa using e2) G (kp.trans hG)) (by simpa using hc) (fun j v p e=>by simp at e)) (fun _ s' hd=>?_) fun _ _ x=>x)
 .refine Y0 (Uk (YI hx (fun k s'' hk=>?_) fun _ _ hF=>hF.elim));exact Y0 (YI hk (fun _ s3 z=>Y6 ⟨rfl,z⟩) fun _ _ x=>x.elim)
 .obtain⟨aa,H',I5,k5,hk5,l5,b5,ra5⟩:=hd;obtain⟨hz5,ks,n5,r5,lk5,ek5⟩:=I5.lstM hk5;refine Y0 (listItems_at ek5 rfl ?_);have hD5:=b5 D (Ne.symm r) _ Nb;refine u9 (kv:=aa) (xs:=xs) (c:=c) (d:=d) (κ:=κ) I5 hD5 hn4 r hk5 ek5 (by lia) rv (by lia) (by have:=hr.un;lia) (ask (fun i v p a e2=>?_) (by lia)) fun p s6 H6 a1 a2 a3 a4 a5=>h p s6 H6 a1 a2 a3 a4 fun b hb o e=>?_
  .have hi:i < aa.length:=by have:=(Y4.mp a).1;lia
   obtain⟨u,hu,ru⟩:=r5.get (i:=i) (x:=aa[i]) (Y7 hi);rw[a]at hu;cases hu;exact hv I5 ru (ra5 i _ p (Y7 hi) e2)
  .by_cases hbk:b=kS
   .subst hbk;have:upd H D (.lst []) b=some o:=by rw[JG hb];exact e
    rw[g]at this;cases this
   .exact a5 b hbk hb o (b5 b hbk o (sb b hb o e))
end
section
variable{X:Cx}{K:Je}{q:Str}{params:Arguments}{body:Jk}{scope:Scope}{y:Str}{N':List Str}{caps:List (Option Nat)}{te:TE}{k:Nat}{O:KeyOrd}{d:O.α}{RA:Hp->V->O.α->Prop}{RV:Heap->Value->O.α->Prop}{κ:SortKind}{c0 P:Jg}
def Kh(K:Je)(P:Jg)(q:Str)(caps:List (Option Nat))(te:TE)(O:KeyOrd)(d:O.α)(RA:Hp->V->O.α->Prop)(σ:St)(Q:VK)(x:V)(H1:Hp):Prop:=Mx H1 P q/\∀f G0,H1 f=none->Nd P H1 G0->Mx G0 P q->∃ (p:Jg) (xs:List V) (c:List O.α),x= .ref p/\JA K G0 p xs/\xs.length=c.length/\xs.length <=100000/\
 (∀ (j:Nat) x p,xs[j]?=some x->c[j]?=some p->∀G,NE G0 G->te (some x::Nf caps σ) G (fun v G'=>Jo G G'/\RA G' v p))/\
 ∀ (r:List Nat) l G,r.Perm (List.range xs.length)->r.Pairwise (Pc O fun i=>c.getD i d)->G0 l=none->Jo G0 G->G l=some (.lst (r.map fun i=>xs.getD i .non))->Q (.ref l) G
def FO(K:Je)(P:Jg)(q:Str)(caps:List (Option Nat))(te:TE)(O:KeyOrd)(d:O.α)(RA:Hp->V->O.α->Prop)(ta:TE):TE:=fun σ H Q=>ta σ H fun x H1=>Kh K P q caps te O d RA σ Q x H1
theorem vJ{e:Jk}{ta:TE}{x:Str}{p pos kp lpos:Pos}(h:X.K=K)(hg:Gl X x)(hm:X.mg x=none)(hv0:bootBuiltins x=some (.builtin "sorted"))(ha:PE X e ta)(lc:RL X.mg X.base c0 P)(hcode:X.env.code= .ref c0)(hq:X.env.qual++"<lambda>"=q)
  (S:BE X y N' scope caps) (hdef:defaultsOf params X.env=([],[])) (hbind:∀cl pm cv ctv u,bindArgs (W.kla_fn "<lambda>" q params body scope cl pm cv ctv) ⟨[u],[]⟩=pure [(y,u)])
  (hb:∀ (f c':Jg) (cl:List (Str×Addr)) (A:Jc) (outer:List Env) (s:Ja) (H:Hp) (E:XK),Room k (A.deeper (W.envX q scope s.heap.objs.size f (.ref c') cl))->PE (Et X.prog X.w X.K X.mg X.base (y::N') q scope f (.ref c') cl A outer s H E) body te)
  (hfn:∀x,X.fn x=true) (hr:Room (k+ 3) X.A) (mono:∀{G G' v p},NE G G'->RA G v p->RA G' v p)
  (hv:∀{pins σ s H x v p},Jq X pins σ H s->Jz x v->RA H x p->RV s.heap v p)
  (ask:∀{vs:Ji} {c:List O.α} {h:Jj},(∀ (i:Nat) v p,vs[i]?=some v->c[i]?=some p->RV h v p)->vs.length=c.length->RH X.prog X.w h O (fun i=>c.getD i d) κ vs)
  (hn:x≠"__name__":=by decide) (hdb:(x==("__debug__":Str))=false:=by decide)
  (he:backTo pos (starEach [e] X.env)=(false,eval e X.env)::backTo pos (starEach [] X.env):=by rfl) (hs:starEach [e] X.env=(false,eval e X.env)::starEach [] X.env:=by rfl)
  (hpl:(backTo pos (starEach [e] X.env)).any (·.1)=false:=by rfl):
  PE X (.Call (.Name x p) [e] [⟨some "key",.Lambda params body scope lpos,kp⟩] pos) (FO K P q caps te O d RA ta):=by
 subst h;intro pins s σ H Q I h;refine XT (ER I hg hm hv0 ?_ hn hdb);have h':Gr ta R5 σ H (fun vs H1=>match vs with|[x]=>Kh X.K P q caps te O d RA σ Q x H1|_=>False):=h;refine callWith_kw (JO (Nc ha Jt hs pos pins s σ H _ I h') fun us s1 ⟨vs,H1,I1,r,a⟩=>?_) he hpl;cases r with
 |nil=>exact False.elim a
 |cons ru rr=>
 cases rr with
 |cons _ _=>exact False.elim a
 |nil=>
 rename_i x0 u0 hap
 have a:Kh X.K P q caps te O d RA σ Q x0 H1:=a;obtain⟨tb,a⟩:=a;have hl:Gr (QU X P q params body scope) R5 σ H1 (fun zs H2=>∃f,zs=[.ref f]/\H1 f=none/\Nd P H1 H2/\Mx H2 P q/\D5 X q params body scope H2 f):=⟨tb,fun f G a1 a2 a3 a4=>⟨f,rfl,a1,a2,a3,a4⟩⟩;refine JO (HS (nF lc hcode hq S.vis hdef) LA pos pins s1 σ H1 _ I1 hl) fun ws s2 ⟨zs,H2,I2,rz,q2⟩=>?_
 obtain⟨f,rfl,f1,f2,f3,v⟩:=q2;obtain⟨p,xs,c,rfl,hx,hc,hz,ht,hQ⟩:=a f H2 f1 f2 f3;obtain⟨w,rfl,rw⟩:=Rn rz;cases ru;cases rw;obtain⟨vs,rv,pl,hz2⟩:=I2.list hx;have hlen:xs.length=vs.length:=rv.length;show wpAny (model X.prog X.w) X.A (call (.builtin "sorted") [.ref p] [(Str.ofString "key",.ref f)]) (EP X pins σ Q) X.xe s2;refine call_function_entry_kw kind_sorted plain_sorted entry_sorted (ksk_s1 _ _) ?_;unfold Builtin.«sorted»;refine Y0 (m:=checkCount "sorted" 1 1 _) (Y6 ?_);refine Y0 (collect_list pl.isList ?_ (by rw[YG];omega));refine Y0 (Vn ?_ (by rw[YG];omega));obtain⟨h1,aa⟩:∃h1,h1=(s2.heap.push (seqObj "list" #[] 0)).update s2.heap.objs.size (Obj.mapSeq (·++vs.toArray)):=⟨_,rfl⟩;have kp1:∀b o,s2.heap.get? b=some o->h1.get? b=some o:=fun b o e=>by
  have n:b < s2.heap.objs.size:=Yf e;rw[aa,VL _ _ _ _ (Yo n),U4 _ _ _ (Yo n)];exact e
 have I3:=I2.kept (h':=h1) (t':=s2.toks) kp1;have I4:=I3.lnew (ys:=xs) (its:=vs) (t':=s2.toks) rv hz2;have g:H2 h1.objs.size=none:=I3.fresh;rw[<-aa];refine Y0 (Xa (wpAny_call_entry_kw slot_list_sort ⟨_,Ye _ rfl,rfl⟩ entry_list_sort ?body (ksk_l1 _ _)))
 case body=>
  show wpAny (model X.prog X.w) X.A.in1.in1 (Builtin.«list.sort» ⟨[.ref h1.objs.size],[(Str.ofString "key",.ref f)]⟩) _ _ _;rw[ksk_t1];refine bP (RA:=RA) (RV:=RV) (κ:=κ) (c:=c) (d:=d) I4 Nb (YD I3.sz (Y9 _)) (Ye _ rfl) rv hz (v.keepT (ML g).keepT) S hbind hb hfn (by have:=hr.in1.in1;exact this) rfl mono (fun I r x=>hv I r x) ask hc (fun j x p e1 e2 G hG=>ht j x p e1 e2 G ((ML g).keepT.trans hG)) fun r s' H' a1 a2 a3 a4 a5=>⟨_,rfl,?_⟩
  have fb:∀b o,H2 b=some o->H' b=some o:=fun b o e=>by
   have hb:b≠h1.objs.size:=fun z=>by rw[z,g]at e;cases e
   exact a5 b hb o (by rw[JG hb];exact e)
  exact Y6 ⟨_,rfl,.ref h1.objs.size,H',a3,rfl,hQ r _ H' a1 a2 g fb a4⟩
end
theorem DE.u{prog:J9}{w:Jd}{h:Jj}{O:KeyOrd}{key:Nat->O.α}{κ:SortKind}{vs:Ji}(S:DE prog w h O key κ vs):RH prog w h O key κ vs:=⟨S.kind,fun A s i j C _ k hi a b=>S.cmp A s i j C k hi a b⟩
def R7(K:Je):Hp->V->Int×Int->Prop:=fun H x p=>∃t,x= .ref t/\H t=some (.tup [.int p.1,.int p.2])
theorem R7.mono{K:Je}{G G':Hp}{v:V}{p:Int×Int}(k:NE G G')(h:R7 K G v p):R7 K G' v p:=by
 obtain⟨t,e,a⟩:=h;exact⟨t,e,k _ _ a fun _ z=>by cases z⟩
theorem R7.val{X:Cx}{pins:J8}{σ:St}{s:Ja}{H:Hp}{x:V}{v:Jf}{p:Int×Int}(I:Jq X pins σ H s)(r:Jz x v)(h:R7 X.K H x p):An s.heap v p:=by
 obtain⟨t,rfl,e⟩:=h;cases r;obtain⟨f,r,c,_⟩:=I.tuple (N8.of e);cases r with
 |cons r1 r=>
  cases r with
  |cons r2 r=>
   cases r;obtain⟨b,rfl⟩:=(show ∃t,_=Value.int p.1 t from r1);obtain⟨a,rfl⟩:=(show ∃t,_=Value.int p.2 t from r2);exact⟨t,b,a,rfl,c⟩
section
variable{X:Cx}{K:Je}{q:Str}{params:Arguments}{body:Jk}{scope:Scope}{y:Str}{N':List Str}{caps:List (Option Nat)}{te:TE}{k:Nat}{c0 P:Jg}
def O8(K:Je)(P:Jg)(q:Str)(caps:List (Option Nat))(te ta:TE):TE:=FO K P q caps te FU (0,0) (R7 K) ta
theorem ZJ{e:Jk}{ta:TE}{x:Str}{p pos kp lpos:Pos}(h:X.K=K)(hg:Gl X x)(hm:X.mg x=none)(hv0:bootBuiltins x=some (.builtin "sorted"))(ha:PE X e ta)(lc:RL X.mg X.base c0 P)(hcode:X.env.code= .ref c0)(hq:X.env.qual++"<lambda>"=q)
  (S:BE X y N' scope caps) (hdef:defaultsOf params X.env=([],[])) (hbind:∀cl pm cv ctv u,bindArgs (W.kla_fn "<lambda>" q params body scope cl pm cv ctv) ⟨[u],[]⟩=pure [(y,u)])
  (hb:∀ (f c':Jg) (cl:List (Str×Addr)) (A:Jc) (outer:List Env) (s:Ja) (H:Hp) (E:XK),Room k (A.deeper (W.envX q scope s.heap.objs.size f (.ref c') cl))->PE (Et X.prog X.w X.K X.mg X.base (y::N') q scope f (.ref c') cl A outer s H E) body te)
  (hfn:∀x,X.fn x=true) (hr:Room (k+ 3) X.A)
  (hn:x≠"__name__":=by decide) (hdb:(x==("__debug__":Str))=false:=by decide)
  (he:backTo pos (starEach [e] X.env)=(false,eval e X.env)::backTo pos (starEach [] X.env):=by rfl) (hs:starEach [e] X.env=(false,eval e X.env)::starEach [] X.env:=by rfl)
  (hpl:(backTo pos (starEach [e] X.env)).any (·.1)=false:=by rfl):
  PE X (.Call (.Name x p) [e] [⟨some "key",.Lambda params body scope lpos,kp⟩] pos) (O8 K P q caps te ta):=by
 subst h;exact vJ (RV:=An) (O:=FU) rfl hg hm hv0 ha lc hcode hq S hdef hbind hb hfn hr (fun k h=>h.mono k) (fun I r h=>h.val I r) (fun a b=>(d4 a b).u) hn hdb he hs hpl
end
end L2
namespace L2
open PySem PySem.Spec PyProof.Rows
def wR(lo hi:Int)(r:Jg):Heap->Prop:=fun h=>∃t u v,IsRange h r lo hi 1 t u v
def Fb(lo hi:Int)(r:Jg):HO:=.ext (wR lo hi r)
section
variable{X:Cx}{K:Je}
def IK(ta:TA):TE:=fun σ H Q=>ta σ H fun vs H1=>∃j:Int,vs=[.int j]/\∀r G,H1 r=none->Jo H1 G->G r=some (Fb 0 j r)->Q (.ref r) G
theorem vB{a:Jk}{ta:TA}{p pos:Pos}(hg:Gl X "range")(hm:X.mg "range"=none)(ha:PA X [a] ta)(hs:starEach [a] X.env=[(false,eval a X.env)]:=by rfl):PE X (.Call (.Name "range" p) [a] [] pos) (IK ta):=by
 intro pins s σ H Q I h;refine Call_ (ER I hg hm boot_range (US (JO (ha pos pins s σ H _ I h) fun n s1 ⟨vs,H1,f,g,i⟩=>?_) hs rfl));obtain⟨j,e,q⟩:=i;subst e;cases g with
 |cons r rr=>
  cases rr;obtain⟨t,rfl⟩:=r;refine call_range_1 ?_;have c:=f.hok.fresh (Y9 s1.heap.objs.size);refine⟨.ref s1.heap.objs.size,upd H1 s1.heap.objs.size (Fb 0 j s1.heap.objs.size),f.laid (fun b o z=>Y8 _ z) (Y9 _) ⟨⟨_,_,_,IsRange.new ..⟩,⟨_,Ye _ rfl⟩,?_⟩,rfl,q _ _ c (ML c) Nb⟩;rintro h1 h2 ⟨t,u,v,x⟩ k;exact⟨t,u,v,k _ x⟩
def HW:List V->Hp->VK->Prop:=fun as H Q=>∃ (r:Jg) (n:Nat),as=[.ref r]/\H r=some (Fb 0 (n:Int) r)/\n <=100000/\∀l G,H l=none->Jo H G->G l=some (.lst ((List.range n).map fun i:Nat=>V.int (i:Int)))->Q (.ref l) G
theorem jS(hc:X.calm=true):JN X (.type "list") HW:=by
 intro pins s σ H xs us Q I r h;obtain⟨a,n,rfl,ha,hn,q⟩:=h;obtain⟨u,rfl,rx⟩:=Rn r;cases rx;obtain⟨⟨t,u,v,p⟩,_⟩:=(show JF X.prog X.w H s.heap a (Fb 0 (n:Int) a) from I.hok a _ ha);have g:Builtin.Range.rangeSize 0 (n:Int) 1=(n:Int):=by rw[rangeSize_one];split <;> lia
 refine call_list_range (I.ok.hd hc) p (small_one (by lia) (by lia) (by lia) (by lia)) g (by lia) fun h' tk c c' hk hS b=>?_
 have o:=I.hok.fresh (Y9 s.heap.objs.size);have z:c.toList.length=n:=by rw[Array.length_toList];exact b.1
 refine⟨.ref s.heap.objs.size,upd H s.heap.objs.size (.lst ((List.range n).map fun i:Nat=>V.int (i:Int))),I.laid hk (Y9 _) ⟨by rw[Y1,YT,YG];lia,c.toList,c',OS (by rw[Y1,YT];exact z) fun j v f=>?_,by simpa using hS⟩,rfl,q _ _ o (ML o) Nb⟩;have hj:j < n:=by have:=(Y4.mp f).1;lia
 obtain⟨e,rfl⟩:=b.2 j v (by rw[<-Array.getElem?_toList];exact f);refine⟨V.int (j:Int),by rw[Ya,U8 hj];rfl,?_⟩;exact⟨e,by simp⟩
end
end L2
namespace L2
open PySem PySem.Spec PyProof.Rows PySem.W
section
variable{prog:J9}{w:Jd}{A:Jc}{E:J6}{s:Ja}{O:KeyOrd}{key:Nat->O.α}{κ:SortKind}{vs:Ji}
theorem QA{a:Jg}{n:Nat}{P:PySem.Fin->Shared->Prop}{h₀:Jj}(ho:s.heap.get? a=some (seqObj "list" vs.toArray n))(ha0:h₀.objs.size <=a)(hk:∀b o,h₀.get? b=some o->s.heap.get? b=some o)
  (S:RH prog w h₀ O key κ vs) (h64:vs.length <=100000) (hu:A.units < cLine)
  (h:∀p:Array Nat,MV vs.length p->AB O key p vs.length->P (.done (.ret .none)) {s with heap:=sortedHeap s.heap a vs (List.toArray (p.toList.map fun i=>vs.getD i Value.none))}):
  wpAny (model prog w) A (Builtin.«list.sort» ⟨[.ref a],[]⟩) P E s:=by
 rw[list_sort_plain];have ha:a < s.heap.objs.size:=Yf ho;refine Y0 (listItems_at ho rfl ?_);refine Y0 (Ux ho rfl ?_ (by rw[Yj,YG];lia) (Yx _));obtain⟨e1,g⟩:∃e1,(s.heap.update a (Obj.mapSeq fun _=>#[])).get? a=some (seqObj "list" #[] e1):=⟨_,get?_update_seq ho (fun _=>#[])⟩;refine Y0 (VT g rfl ?_);refine Y0 (WJ ?_ (by show vs.length <=_;rw[YG];lia));refine Y0 (Vn ?_ (Yx _));refine Xa ?_;have f:(((s.heap.update a (Obj.mapSeq fun _=>#[])).push (seqObj "tuple" vs.toArray 0)).push (seqObj "list" #[] 0)).get? a=some (seqObj "list" #[] e1):=by
  rw[U4 _ _ _ (by rw[size_push',UY];exact Yo (Xw ha)),U4 _ _ _ (by rw[UY];exact Yo ha)];exact g
 have keep:∀b o,h₀.get? b=some o->(((s.heap.update a (Obj.mapSeq fun _=>#[])).push (seqObj "tuple" vs.toArray 0)).push (seqObj "list" #[] 0)).get? b=some o:=fun b o q=>by
  have hb:b < h₀.objs.size:=Yf q;have q':=hk b o q;have r:b < s.heap.objs.size:=Yf q';rw[U4 _ _ _ (by rw[size_push',UY];exact Yo (Xw r)),U4 _ _ _ (by rw[UY];exact Yo r),VL _ _ _ _ (Yo (Yy hb ha0))];exact q'
 show wpAny (model prog w) A _ P E {s with heap:=((s.heap.update a (Obj.mapSeq fun _=>#[])).push (seqObj "tuple" vs.toArray 0)).push (seqObj "list" #[] 0)};dsimp only;have hsz:vs.toArray.size=vs.length:=by simp
 by_cases h2:vs.toArray.size < 2
 .rw[Y3 h2,Y3 h2];refine Y0 (Y6 ?_);rw[StateT.run_pure];refine Y0 (Y6 ?_);dsimp only;refine Y0 (VT f rfl ?_);refine Y0 (Ux f rfl ?_ (Yx _) (hsz2:=by rw[Array.size_map];show(pairsOf vs).size <=_;rw[pairsOf_size,YG];lia));simp only[Wf,Bool.false_eq_true,if_false];have e:Array.map (fun x:Keyed=>x.2) (vs.toArray.zip vs.toArray)=List.toArray ((List.toArray (List.range vs.length)).toList.map fun i=>vs.getD i Value.none):=by
   apply Wo.mp;simp only[Po];rw[Array.toList_map];show List.map (fun x:Keyed=>x.2) (vs.toArray.zip vs.toArray).toList=vs;rw[Array.toList_zip];show List.map Prod.snd (List.zip vs vs)=vs;rw[List.map_snd_zip];exact Y9 _
  have:=h (List.toArray (List.range vs.length)) (Array.Perm.refl _) (fun i j hij hj=>by obtain rfl:i=j:=(by lia);exact KeyOrd.kle_refl _);rw[<-e]at this;exact Y6 this
 .rw[Y2 h2,Y2 h2];have h2':2 <=vs.length:=by lia
  refine Y0 (YI (S.kind A _ (fun κ' s' => κ' = κ /\ s' = { s with heap := ((s.heap.update a (Obj.mapSeq fun _ => #[])).push (seqObj "tuple" vs.toArray 0)).push (seqObj "list" #[] 0) }) keep h2' ⟨rfl, rfl⟩) ?_ fun _ _ x => x.elim);rintro _ _ ⟨rfl, rfl⟩;refine Y0 (YI (SD (E := E) (O := O) (key := key) (Q := fun c s' => ∃ p : Array Nat, p.size = vs.length /\ arrOf c = p.map (kas_item (vs.toArray.zip vs.toArray)) /\ failedOf c = none /\ MV vs.length p /\ AB O key p vs.length /\ s' = { s with heap := ((s.heap.update a (Obj.mapSeq fun _ => #[])).push (seqObj "tuple" vs.toArray 0)).push (seqObj "list" #[] 0) })
   rfl (by lia) (fun i j C' hi hj hC => S.cmp A _ i j C' hu keep hi hj hC) fun p c a1 a2 a3 a4 => ⟨p.toArray, by rw [Yj, a3.length_eq, YT], a1, a2, by unfold MV; exact UZ.mpr (by simpa using a3), jT a4 (by rw [a3.length_eq, YT]), rfl⟩) ?_ fun _ _ e => e)
  rintro⟨⟨⟩,c⟩ s' ⟨p,hp,har,hf,b1,b2,rfl⟩;dsimp only;have z:=kat_snds rfl har;have v:(List.toArray (p.toList.map fun i=>vs.getD i Value.none)).size=vs.length:=by rw[Yj,Y1,Array.length_toList,hp]
  rw[z];refine Y0 (VT f rfl ?_);refine Y0 (Ux f rfl ?_ (Yx _) (YD (J0 v) (by rw[YG];lia)));rw[hf];simp only[Wf,Bool.false_eq_true,if_false];exact Y6 (h p b1 b2)
theorem aS{l:Jg}{Q:J6}(hl:s.heap.IsList l vs.toArray)(S:RH prog w s.heap O key κ vs)(h64:vs.length <=100000)(hu:A.units+ 2 < cLine)
  (h:∀p:Array Nat,MV vs.length p->AB O key p vs.length->Q (.ref (s.heap.objs.size+ 1)) {s with heap:=sortedAll s.heap vs (List.toArray (p.toList.map fun i=>vs.getD i Value.none))}):
  wpAny (model prog w) A (call (.builtin "sorted") [.ref l]) Q E s:=by
 refine Wh kind_sorted plain_sorted entry_sorted (args_sorted1 _) ?_;unfold Builtin.«sorted»;refine Y0 (m:=checkCount "sorted" 1 1 _) (Y6 ?_);refine Y0 (collect_list hl ?_ (by rw[YG];lia));refine Y0 (Vn ?_ (by rw[YG];lia));have a:((s.heap.push (seqObj "list" #[] 0)).update s.heap.objs.size (Obj.mapSeq (·++vs.toArray))).objs.size=s.heap.objs.size+ 1:=by
  rw[UY,size_push']
 have e:(((s.heap.push (seqObj "list" #[] 0)).update s.heap.objs.size (Obj.mapSeq (·++vs.toArray))).push (seqObj "list" vs.toArray 0)).get? (s.heap.objs.size+ 1)=some (seqObj "list" vs.toArray 0):=by
  rw[<-a];exact Ye _ rfl
 have keep:∀b o,s.heap.get? b=some o->(((s.heap.push (seqObj "list" #[] 0)).update s.heap.objs.size (Obj.mapSeq (·++vs.toArray))).push (seqObj "list" vs.toArray 0)).get? b=some o:=fun b o q=>by
  have c:b < s.heap.objs.size:=Yf q;rw[U4 _ _ _ (by rw[a];exact Yo (Xw c)),VL _ _ _ _ (Yo c),U4 _ _ _ (Yo c)];exact q
 show wpAny _ _ _ _ _ {s with heap:=((s.heap.push (seqObj "list" #[] 0)).update s.heap.objs.size (Obj.mapSeq (·++vs.toArray))).push (seqObj "list" vs.toArray 0)};rw[a];refine Y0 (Xa (Xi slot_list_sort ⟨_,e,rfl⟩ entry_list_sort (QA (h₀:=s.heap) e (XO _) keep S h64 (by show A.units+ 1+ 1 < cLine;lia) fun p g f=>⟨_,rfl,?_⟩) (args_list_sort _)));exact Y6 ⟨_,rfl,h p g f⟩
end
section
variable{X:Cx}{K:Je}
def Hq(K:Je)(O:KeyOrd)(d:O.α)(RA:Hp->V->O.α->Prop):List V->Hp->VK->Prop:=fun as H Q=>∃ (p:Jg) (xs:List V) (c:List O.α),as=[.ref p]/\JA K H p xs/\xs.length=c.length/\(∀ (i:Nat) (x:V) (q:O.α),xs[i]?=some x->c[i]?=some q->RA H x q)/\xs.length <=100000/\
 ∀ (r:List Nat) l G,r.Perm (List.range xs.length)->(r.map fun i=>c.getD i d).Pairwise (fun a b=>O.blt b a=false)->H l=none->Jo H G->G l=some (.lst (r.map fun i=>xs.getD i .non))->Q (.ref l) G
theorem Qy{O:KeyOrd}{d:O.α}{κ:SortKind}{RA:Hp->V->O.α->Prop}{RV:Heap->Value->O.α->Prop}(h:X.K=K)(hu:X.A.units+ 64 < cLine)
  (hv:∀{pins s σ H x v q},Jq X pins σ H s->Jz x v->RA H x q->RV s.heap v q)
  (ask:∀{vs:Ji} {c:List O.α} {h:Jj},(∀ (i:Nat) v p,vs[i]?=some v->c[i]?=some p->RV h v p)->vs.length=c.length->RH X.prog X.w h O (fun i=>c.getD i d) κ vs):JN X (.builtin "sorted") (Hq K O d RA):=by
 subst h;intro pins s σ H xs us Q I r hh;obtain⟨p,xs,c,rfl,hq,hlc,hp,h64,q⟩:=hh;obtain⟨u,rfl,rx⟩:=Rn r;cases rx;obtain⟨a,j,pl,hz⟩:=I.list hq;have n:xs.length=a.length:=j.length;have ab:∀ (i:Nat) v q,a[i]?=some v->c[i]?=some q->RV s.heap v q:=fun i v q e1 e2=>by
  have hi:i < a.length:=(Y4.mp e1).1;have ex:xs[i]?=some (xs[i]'(by lia)):=Y7 (by lia);obtain⟨u,hu,ru⟩:=j.get (i:=i) (x:=_) ex;rw[e1]at hu;cases hu;exact hv I ru (hp i _ q ex e2)
 refine aS pl.isList (ask ab (by lia)) (by lia) (by lia) fun g a1 a2=>?_
 obtain⟨e,he⟩:=sortedAll_at s.heap a (List.toArray (g.toList.map fun i=>a.getD i Value.none));have hf:H (s.heap.objs.size+ 1)=none:=I.hok.fresh (XO _);have f:g.toList.Perm (List.range xs.length):=by rw[n];exact UZ.mp a1
 have hb:∀i∈g.toList,i < xs.length:=fun i hi=>by simpa using f.mem_iff.mp hi
 have aa:(g.toList.map fun i=>xs.getD i .non).length <=sizeLine:=by
  rw[Y1,f.length_eq,YT];exact hz
 refine⟨.ref (s.heap.objs.size+ 1),upd H (s.heap.objs.size+ 1) (.lst (g.toList.map fun i=>xs.getD i .non)),I.laid (t':=s.toks) (fun b o z=>sortedAll_old z) (XO _) ?_,rfl,q _ _ _ f (PR a1 a2) hf (ML hf) Nb⟩;refine⟨aa,g.toList.map fun i=>a.getD i Value.none,e,O9 j _ hb,?_⟩;simpa using he
def Kn(K:Je):=Hq K Gs ((0,0,"",""):Int×Ky) (Hi K)
theorem Zf(hu:X.A.units+ 64 < cLine)(h:X.K=K):JN X (.builtin "sorted") (Kn K):=by
 subst h;refine Qy (RV:=NT) rfl hu (fun I r ⟨t,b,e,a,g⟩=>?_) fun c f=>tY c f
 subst e;cases r;exact SH I a g
end
section
variable{X:Cx}
def II:List V->Hp->VK->Prop:=fun as H Q=>∃ (a:Jg) (kvs:List (List JL×V)) (c:List Ky),as=[V.ref a]/\H a=some (.dT kvs)/\kvs.map (·.1)=c.map (fun k=>[Sum.inl k.1,Sum.inr k.2.1,Sum.inr k.2.2])/\c.length <=100000/\
 ∀ (ks:List Ky) (ts:List Addr) l G,ks.Perm c->ks.Pairwise (fun a b=>Mj b a=false)->ts.length=ks.length->(∀ (i:Nat) t k,ts[i]?=some t->ks[i]?=some k->H t=some (.tup (Ea k)))->H l=none->Jo H G->G l=some (.lst (ts.map V.ref))->Q (.ref l) G
theorem PY(hc:X.calm=true)(hu:X.A.units+ 64 < cLine){pins:J8}{s:Ja}{σ:St}{H:Hp}{Q:VK}{v0 a:Jg}{kvs:List (List JL×V)}{c:List Ky}(I:Jq X pins σ H s)(ha:H a=some (.dT kvs))(hks:kvs.map (·.1)=c.map (fun k=>[Sum.inl k.1,Sum.inr k.2.1,Sum.inr k.2.2]))(h64:c.length <=100000)
  (KS:∀o es ep,s.heap.get? a=some o->o.ExactDict->o.data= .dict es ep->(a==sysModules)=false->∃T OK,KdlSrc X.prog X.w T v0 a es.size (fun i v=>∃e,es[i]?=some e/\v=e.key) OK/\OK s.heap)
  (q:∀ (ks:List Ky) (ts:List Addr) l G,ks.Perm c->ks.Pairwise (fun a b=>Mj b a=false)->ts.length=ks.length->(∀ (i:Nat) t k,ts[i]?=some t->ks[i]?=some k->H t=some (.tup (Ea k)))->H l=none->Jo H G->G l=some (.lst (ts.map V.ref))->Q (.ref l) G):wpAny (model X.prog X.w) X.A (call (.builtin "sorted") [.ref v0]) (EP X pins σ Q) X.xe s:=by
 obtain⟨z,y,xs,r,o,es,ep,h1,h2,h3,h4,h5⟩:=(show JF X.prog X.w H s.heap a (.dT kvs) from I.hok a _ ha);have hxl:xs.length=es.size:=by rw[<-Array.length_toList,h4,Y1]
 have hkl:=Paired.length r;have hcl:c.length=es.size:=by
  have:=YR List.length hks;rw[Y1,Y1]at this;lia
 have hh:X.A.in1.handled=none:=I.ok.hd hc;refine Wh kind_sorted plain_sorted entry_sorted (args_sorted1 _) ?_;unfold Builtin.«sorted»;refine Y0 (m:=checkCount "sorted" 1 1 _) (Y6 ?_);obtain⟨T,OK,KS,ok⟩:=KS o es ep h1 h2 h3 y;refine Y0 (kdu_collect (A:=X.A.in1) KS hh ok (by rw[<-hxl,<-hkl];exact z) fun h' tk acc hk hacc=>?_);have I2:Jq X pins σ H {s with heap:=h',toks:=tk}:=I.kept hk;obtain⟨vs,evs⟩:∃vs,vs=acc.toList:=⟨_,rfl⟩;rw[<-evs];have hvl:vs.length=es.size:=by rw[evs,Array.length_toList];exact hacc.1
 have hat:∀ (i:Nat) v,vs[i]?=some v->∃t k,v=Value.ref t/\c[i]?=some k/\xs[i]?.map (·.2.1)=some t/\H t=some (.tup (Ea k)):=fun i v hv=>by
  rw[evs,Array.getElem?_toList]at hv;obtain⟨e,he,rfl⟩:=hacc.2 i v hv;have hlt:i < es.size:=(Wa.mp he).1;have hx:xs[i]?=some (xs[i]'(by lia)):=Y7 (by lia);obtain⟨v,hv,hb⟩:=KT.at' r hx;have hke:es.toList[i]?=(xs.map (entryOfKey (tupleKind (JQ X.prog X.w))))[i]?:=by rw[h4]
  rw[Ya,hx,Array.getElem?_toList,he]at hke;have hkk:(kvs.map (·.1))[i]?=some xs[i].1:=by rw[Ya,hv];rfl
  rw[hks,Ya]at hkk;obtain⟨k,hk1,hk2⟩:=Yl.mp hkk;refine⟨xs[i].2.1,k,?_,hk1,by rw[hx];rfl,?_⟩
  .rw[Option.some.inj hke];rfl
  .rw[hb,<-hk2];rfl
 have hpr:∀ (i:Nat) v k,vs[i]?=some v->c[i]?=some k->T0 h' v k:=fun i v k e1 h=>by
  obtain⟨t,k',rfl,e3,_,ht⟩:=hat i v e1;rw[h]at e3;cases e3;exact SM I2 (N8.of ht)
 have hsl:vs.length <=sizeLine:=by rw[hvl,<-hcl,YG];lia
 refine Y0 (Vn ?_ hsl);have hoL:(h'.push (seqObj "list" vs.toArray 0)).get? h'.objs.size=some (seqObj "list" vs.toArray 0):=Ye _ rfl;have keep:∀b o,h'.get? b=some o->(h'.push (seqObj "list" vs.toArray 0)).get? b=some o:=fun b o q=>Y8 _ q
 have S:RH X.prog X.w h' Sy (fun i=>c.getD i (0,"","")) (tuples' (Value.type "int" !=Value.type "tuple")) vs:=xN hpr (by lia);refine Y0 (Xa (Xi slot_list_sort ⟨_,hoL,rfl⟩ entry_list_sort (QA (h₀:=h') hoL (Y9 _) keep S (by lia) (by show X.A.units+ 1+ 1 < cLine;lia) fun p a1 a2=>⟨_,rfl,?_⟩) (args_list_sort _)));obtain⟨e,he⟩:=sortedHeap_at (n:=0) (vs:=vs) (out:=(List.map (fun i=>vs.getD i Value.none) p.toList).toArray) hoL;have hf:H h'.objs.size=none:=I2.hok.fresh (Y9 _);have g:p.toList.Perm (List.range c.length):=by rw[show c.length=vs.length by lia];exact UZ.mp a1
 have hb:∀i∈p.toList,i < c.length:=fun i hi=>by simpa using g.mem_iff.mp hi
 obtain⟨f,eas⟩:∃f:List Addr,f=xs.map (·.2.1):=⟨_,rfl⟩;have hal:f.length=c.length:=by rw[eas,Y1];lia
 have has:∀i,i < c.length->vs.getD i Value.none= .ref (f.getD i 0)/\H (f.getD i 0)=some (.tup (Ea (c.getD i (0,"","")))):=fun i hi=>by
  have gi:vs[i]?=some (vs.getD i Value.none):=by rw[Y7 (by lia)];simp[show i < vs.length by lia]
  obtain⟨t,k,e1,h,e3,e4⟩:=hat i _ gi;have et:f.getD i 0=t:=by rw[eas,Xt,Ya,e3];rfl
  have ek:c.getD i (0,"","")=k:=by rw[Xt,h];rfl
  rw[et,ek];exact⟨e1,e4⟩
 have hvals:JB ((p.toList.map fun i=>f.getD i 0).map V.ref) (p.toList.map fun i=>vs.getD i Value.none):=by
  have:∀r:List Nat,(∀i∈r,i < c.length)->JB ((r.map fun i=>f.getD i 0).map V.ref) (r.map fun i=>vs.getD i Value.none):=by
   intro r
   induction r with
   |nil=>exact fun _=>.nil
   |cons i r ih=>
    intro hr;refine .cons ?_ (ih fun j hj=>hr j (.tail _ hj));exact(has i (hr i (.head _))).1
  exact this _ hb
 have hln:(p.toList.map fun i=>f.getD i 0).length=c.length:=by rw[Y1,g.length_eq,YT]
 refine Y6 ⟨_,rfl,.ref h'.objs.size,upd H h'.objs.size (.lst ((p.toList.map fun i=>f.getD i 0).map V.ref)),I2.laid (t':=tk) (fun b o z'=>?_) (Y9 _) ?_,rfl,q (p.toList.map fun i=>c.getD i (0,"","")) _ _ _ ?_ (PR a1 a2) ?_ ?_ hf (ML hf) Nb⟩
 .have hlt:=Yf z';rw[sortedHeap_old (Yo hlt) (by rw[Xu];exact Xw hlt)];exact Y8 _ z'
 .exact⟨by rw[Y1,hln,YG];lia,_,e,hvals,he⟩
 .have h1:=g.map fun i=>c.getD i ((0,"",""):Ky)
  have h2:(List.range c.length).map (fun i=>c.getD i ((0,"",""):Ky))=c:=by
   apply Wp
   .simp
   .intro i hi _;have:i < c.length:=by simpa using hi
    simp[this]
  rw[h2]at h1;exact h1
 .rw[Y1,Y1]
 .intro i t k e1 h;rw[Ya]at e1 h;obtain⟨j,hj,rfl⟩:=Yl.mp e1;rw[hj]at h;cases h;exact(has j (hb j (Yk hj))).2
theorem yE(hc:X.calm=true)(hu:X.A.units+ 64 < cLine):JN X (.builtin "sorted") II:=by
 intro pins s σ H xs i Q I r h;obtain⟨a,kvs,c,rfl,f,b,e,q⟩:=h;obtain⟨u,rfl,rx⟩:=Rn r;cases rx;exact PY hc hu I f b e (fun o es ep h1 h2 g y=>⟨_,_,vG y h2 g,h1⟩) q
def Ld:List V->Hp->VK->Prop:=fun as H Q=>∃ (v a:Jg) (kvs:List (List JL×V)) (c:List Ky),as=[V.ref v]/\H v=some (.frz (Ek a) (.own a))/\H a=some (.dT kvs)/\kvs.map (·.1)=c.map (fun k=>[Sum.inl k.1,Sum.inr k.2.1,Sum.inr k.2.2])/\c.length <=100000/\
 ∀ (ks:List Ky) (ts:List Addr) l G,ks.Perm c->ks.Pairwise (fun a b=>Mj b a=false)->ts.length=ks.length->(∀ (i:Nat) t k,ts[i]?=some t->ks[i]?=some k->H t=some (.tup (Ea k)))->H l=none->Jo H G->G l=some (.lst (ts.map V.ref))->Q (.ref l) G
theorem QQ(hc:X.calm=true)(hu:X.A.units+ 64 < cLine):JN X (.builtin "sorted") Ld:=by
 intro pins s σ H xs p Q I r h;obtain⟨b,a,kvs,c,rfl,f,j,g,i,q⟩:=h;obtain⟨u,rfl,rx⟩:=Rn r;cases rx;obtain⟨e,_⟩:=(show s.heap.get? b=some (Ek a)/\_ from I.hok b _ f);exact PY hc hu I j g i (fun o es ep h1 h2 n y=>⟨_,_,tO n,e,h1⟩) q
end
def OD:KeyOrd where
 α:=Int
 blt a b:=decide (a < b)
 irrefl a:=by simp
 trans a b c:=by simp;lia
 negTrans a b c:=by simp;lia
 total a b:=by simp;lia
section
variable{prog:J9}{w:Jd}
theorem rZ{vs:Ji}{c:Jh}{h:Jj}(hp:∀ (i:Nat) v p,vs[i]?=some v->c[i]?=some p->∃t,v= .int p t)(hl:vs.length=c.length):RH prog w h OD (fun i=>c.getD i 0) oneType' vs where
 kind A s Q hk h2 hQ:=by
  have hall:∀v,v∈vs->∃n t,v=Value.int n t:=fun v a=>by
   obtain⟨i,hi⟩:=YC.mp a;have r:=(Y4.mp hi).1;obtain⟨t,e⟩:=hp i v _ hi (Y7 (by lia));exact⟨_,t,e⟩
  match vs,h2,hall with
  |v₁::v₂::rest,_,hall=>rw[keyKind_ints (intsAre_map _ hall)];exact Y6 hQ
 cmp A s i j C hu hk hi hj hC:=by
  have f:vs[i]?=some (vs.getD i Value.none):=by rw[Y7 hi];simp[hi]
  have b:vs[j]?=some (vs.getD j Value.none):=by rw[Y7 hj];simp[hj]
  have q:c[i]?=some (c.getD i 0):=by rw[Y7 (by lia)];simp[show i < c.length by lia]
  have o:c[j]?=some (c.getD j 0):=by rw[Y7 (by lia)];simp[show j < c.length by lia]
  obtain⟨t,e⟩:=hp i _ _ f q;obtain⟨u,g⟩:=hp j _ _ b o;unfold kas_ask;rw[e,g,keyLt'_oneType];exact oneLt_int hC
end
section
variable{X:Cx}{K:Je}
def Lr(K:Je):List V->Hp->VK->Prop:=fun xs H Q=>∃ (p:Jg) (ns:Jh),xs=[.ref p]/\JA K H p (ns.map V.int)/\ns.length <=100000/\∀ (ms:Jh) l G,ms.Perm ns->ms.Pairwise (· <=·)->H l=none->Jo H G->G l=some (.lst (ms.map V.int))->Q (.ref l) G
theorem eZ(hu:X.A.units+ 64 < cLine)(h:X.K=K):JN X (.builtin "sorted") (Lr K):=by
 refine(Qy (O:=OD) (d:=(0:Int)) (κ:=oneType') (RA:=fun _ x q=>x= .int q) (RV:=fun _ v q=>∃t,v= .int q t) h hu (fun I r e=>?_) (fun z j=>rZ z j)).imp fun xs H Q q=>?_
 .subst e;exact r
 .obtain⟨p,c,rfl,w,j,q⟩:=q;refine⟨p,c.map V.int,c,rfl,w,Y1 ..,fun i x p a b=>?_,by rw[Y1];exact j,fun r l G f g o s e=>?_⟩
  .rw[Ya]at a;obtain⟨y,n,rfl⟩:=Yl.mp a;rw[show c[i]?=some p from b]at n;cases n;rfl
  .rw[Y1]at f;have hb:∀i∈r,i < c.length:=fun i hi=>by simpa using f.mem_iff.mp hi
   have e1:(r.map fun i=>(c.map V.int).getD i .non)=(r.map fun i=>c.getD i 0).map V.int:=by
    rw[Yw];refine YU fun i hi=>?_
    have:=hb i hi;simp[Xt,this]
   rw[e1]at e;refine q _ l G ?_ ?_ o s e
   .have h1:=f.map fun i=>c.getD i 0
    have h2:(List.range c.length).map (fun i=>c.getD i 0)=c:=by
     apply Wp
     .simp
     .intro i a b;rw[Xk,List.getElem_range];simp[Xt,b]
    rw[h2]at h1;exact h1
   .refine List.Pairwise.imp (R:=fun a b:Int=>decide (b < a)=false) (fun {a b} h=>?_) g;have:=VU h
    lia
end
def mI(x:V)(Q:Int->Prop):Prop:=match x with| .int i=>Q i|_=>False
def mB(x:V)(Q:Bool->Prop):Prop:=match x with| .bl i=>Q i|_=>False
def mR(x:V)(Q:Addr->Prop):Prop:=match x with| .ref i=>Q i|_=>False
def mV(x:Option (Option V))(Q:V->Prop):Prop:=match x with|some (some v)=>Q v|_=>False
def mA(x:List V)(Q:V->Prop):Prop:=match x with|[v]=>Q v|_=>False
def mC(c:Bool)(A B:Prop):Prop:=if c=true then A else B
theorem wU(A B:Prop):mC true A B=A:=rfl
theorem ZX(A B:Prop):mC false A B=B:=rfl
theorem bO(c:TT)(t u:TS)(D:Mh)(σ:St)(H:Hp):HL c t u D σ H=c σ H fun b H1=>mC b (t D σ H1) (u D σ H1):=rfl
theorem cD(t u:TT)(σ:St)(H:Hp)(Q:Bool->Hp->Prop):Lh t u σ H Q=t σ H fun c H1=>mC c (u σ H1 Q) (Q false H1):=rfl
theorem uJ(t u:TT)(σ:St)(H:Hp)(Q:Bool->Hp->Prop):HU t u σ H Q=t σ H fun c H1=>mC c (Q true H1) (u σ H1 Q):=rfl
theorem yB(t:TT)(ta tb:TE)(σ:St)(H:Hp)(Q:VK):Ie t ta tb σ H Q=t σ H fun c H1=>mC c (ta σ H1 Q) (tb σ H1 Q):=rfl
theorem L3(i:Int)(Q:Int->Prop):mI (.int i) Q=Q i:=rfl
theorem Oh(i:Bool)(Q:Bool->Prop):mB (.bl i) Q=Q i:=rfl
theorem QX(i:Jg)(Q:Addr->Prop):mR (.ref i) Q=Q i:=rfl
theorem Ov(v:V)(Q:V->Prop):mV (some (some v)) Q=Q v:=rfl
theorem PH(v:V)(Q:V->Prop):mA [v] Q=Q v:=rfl
theorem EQ(x:V)(Q:Int->Prop):mI x Q=∃i,x= .int i/\Q i:=propext ⟨fun h=>by cases x <;> first|exact⟨_,rfl,h⟩|exact h.elim,fun⟨_,e,h⟩=>by subst e;exact h⟩
theorem Fc(x:V)(Q:Bool->Prop):mB x Q=∃i,x= .bl i/\Q i:=propext ⟨fun h=>by cases x <;> first|exact⟨_,rfl,h⟩|exact h.elim,fun⟨_,e,h⟩=>by subst e;exact h⟩
theorem GZ(x:V)(Q:Addr->Prop):mR x Q=∃i,x= .ref i/\Q i:=propext ⟨fun h=>by cases x <;> first|exact⟨_,rfl,h⟩|exact h.elim,fun⟨_,e,h⟩=>by subst e;exact h⟩
theorem QP(x:Option (Option V))(Q:V->Prop):mV x Q=∃v,x=some (some v)/\Q v:=propext ⟨fun h=>by rcases x with _|_|v <;> first|exact⟨_,rfl,h⟩|exact h.elim,fun⟨_,e,h⟩=>by subst e;exact h⟩
theorem BV(x:List V)(Q:V->Prop):mA x Q=∃v,x=[v]/\Q v:=propext ⟨fun h=>by rcases x with _|⟨v,_|⟨u,l⟩⟩ <;> first|exact⟨_,rfl,h⟩|exact h.elim,fun⟨_,e,h⟩=>by subst e;exact h⟩
section
variable{X:Cx}{K:Je}
def Bk(i:Nat):TE:=fun σ H Q=>mV σ[i]? fun v=>Q v H
theorem Jn(i:Nat){x:Str}{pos:Pos}(hN:X.N[i]?=some x:=by rfl)(hv:AZ X.env.scope x:=by first|exact Or.inl rfl|exact Or.inr (Or.inl rfl)|exact Or.inr (Or.inr rfl))(hd:(x==("__debug__":Str))=false:=by decide)(hcd:(x==("__classdict__":Str))=false:=by decide):PE X (.Name x pos) (Bk i):=
 fun pins s σ H Q I h=>pv i hN hv hd hcd pins s σ H Q I (by unfold Bk at h;rw[QP]at h;exact h)
def HF(C:Int->Int->Prop)(g:Int->Int->V):R2:=fun x y H Q=>mI x fun i=>mI y fun j=>C i j/\Q (g i j) H
def Ah(g:Int->Int->V):R2:=fun x y H Q=>mI x fun i=>mI y fun j=>Q (g i j) H
theorem dI{f:Value->Value->Sem Value}{C:Int->Int->Prop}{g:Int->Int->V}(h:Nz X f (rI C g)):Nz X f (HF C g):=h.imp fun x y H Q q=>by
 unfold HF at q;simp only[EQ]at q;obtain⟨i,e,j,a,q⟩:=q;exact⟨i,j,e,a,q⟩
theorem NL{f:Value->Value->Sem Value}{g:Int->Int->V}(h:Nz X f (RN g)):Nz X f (Ah g):=h.imp fun x y H Q q=>by
 unfold Ah at q;simp only[EQ]at q;obtain⟨i,e,j,a,q⟩:=q;exact⟨i,j,e,a,q⟩
def AW:R2:=fun x y H Q=>match x,y with
 | .int a,.int b=>DJ (.int a) (.int b)=true/\Q (.bl (decide (a=b))) H
 | .str a,.str b=>DJ (.str a) (.str b)=true/\Q (.bl (decide (a=b))) H
 |x,y=>DJ x y=true/\Q (.bl (decide (x=y))) H
def C7:R2:=fun x y H Q=>match x,y with
 | .int a,.int b=>DJ (.int a) (.int b)=true/\Q (.bl (!decide (a=b))) H
 | .str a,.str b=>DJ (.str a) (.str b)=true/\Q (.bl (!decide (a=b))) H
 |x,y=>DJ x y=true/\Q (.bl (!decide (x=y))) H
theorem Qt(a b:Int)(H:Hp)(Q:VK):AW (.int a) (.int b) H Q=(DJ (.int a) (.int b)=true/\Q (.bl (decide (a=b))) H):=rfl
theorem OW(a b:Str)(H:Hp)(Q:VK):AW (.str a) (.str b) H Q=(DJ (.str a) (.str b)=true/\Q (.bl (decide (a=b))) H):=rfl
theorem Pp(a b:Int)(H:Hp)(Q:VK):C7 (.int a) (.int b) H Q=(DJ (.int a) (.int b)=true/\Q (.bl (!decide (a=b))) H):=rfl
theorem P9(a b:Str)(H:Hp)(Q:VK):C7 (.str a) (.str b) H Q=(DJ (.str a) (.str b)=true/\Q (.bl (!decide (a=b))) H):=rfl
theorem Sc(x y:V)(H:Hp)(Q:VK):AW x y H Q=(DJ x y=true/\Q (.bl (decide (x=y))) H):=by
 unfold AW
 split
 .simp[DJ]
 .simp[DJ]
 .rfl
theorem Zb(x y:V)(H:Hp)(Q:VK):C7 x y H Q=(DJ x y=true/\Q (.bl (!decide (x=y))) H):=by
 unfold C7
 split
 .simp[DJ]
 .simp[DJ]
 .rfl
theorem GK{f:Value->Value->Sem Value}(h:Nz X f F4):Nz X f AW:=h.imp fun x y H Q q=>by rw[Sc]at q;exact q
theorem Cd{f:Value->Value->Sem Value}(h:Nz X f FG):Nz X f C7:=h.imp fun x y H Q q=>by rw[Zb]at q;exact q
def Ef(t:TE):TT:=fun σ H Q=>t σ H fun x H1=>mB x fun c=>Q c H1
theorem Zl(t:TE):tB t=Ef t:=by unfold tB Ef;simp only[Fc]
theorem cB{e:Jk}{t:TE}(h:PT X e (tB t)):PT X e (Ef t):=Zl t▸h
theorem cT{e:Jk}{t:TE}(h:PT X e (Cg t)):PT X e (Ef t):=Zl t▸h
def BK(ta tb:TE):TE:=fun σ H Q=>ta σ H fun x H1=>mB x fun c=>mC c (tb σ H1 Q) (Q (.bl false) H1)
def BM(ta:TE):TE:=fun σ H Q=>ta σ H fun x H1=>mB x fun c=>Q (.bl (!c)) H1
theorem tE{e:Jk}{ta tb:TE}(h:PE X e (BQ ta tb)):PE X e (BK ta tb):=by
 have:BK ta tb=BQ ta tb:=by unfold BK BQ mC;simp only[Fc]
 rw[this];exact h
theorem jP{e:Jk}{ta:TE}(h:PE X e (Bs ta)):PE X e (BM ta):=by
 have:BM ta=Bs ta:=by unfold BM Bs;simp only[Fc]
 rw[this];exact h
def Fl(K:Je):List V->Hp->VK->Prop:=fun xs H Q=>mA xs fun x=>mR x fun p=>∃ys,(JA K H p ys\/N8 K H p ys)/\Q (.int ys.length) H
theorem Bd{f:Jf}(h:JN X f (He K)):JN X f (Fl K):=h.imp fun xs H Q q=>by
 unfold Fl at q;simp only[BV,GZ]at q;obtain⟨x,e,p,rfl,ys,h1,q⟩:=q;exact⟨p,ys,e,h1,q⟩
theorem Rv.imp{r r':R2}(h:Rv X r)(hi:∀x y H Q,r' x y H Q->r x y H Q):Rv X r':=fun a b pins s σ H x y v u Q I rx ry q z=>h a b pins s σ H x y v u Q I rx ry (hi _ _ _ _ q) z
def Cc(K:Je):R2:=fun x y H Q=>mR x fun p=>∃xs,mI y fun i=>JA K H p xs/\∃v,GH xs i=some v/\Q v H
def BB(K:Je):R2:=fun x y H Q=>mR x fun p=>∃xs,mI y fun i=>N8 K H p xs/\∃v,GH xs i=some v/\Q v H
theorem rT(h:Rv X (Ag K)):Rv X (Cc K):=h.imp fun x y H Q q=>by
 unfold Cc at q;simp only[EQ,GZ]at q;obtain⟨p,e,xs,i,a,h1,v,h2,q⟩:=q;exact⟨p,xs,i,v,e,a,h1,h2,q⟩
theorem gG(h:Rv X (Ax K)):Rv X (BB K):=h.imp fun x y H Q q=>by
 unfold BB at q;simp only[EQ,GZ]at q;obtain⟨p,e,xs,i,a,h1,v,h2,q⟩:=q;exact⟨p,xs,i,v,e,a,h1,h2,q⟩
def HD:V->List V->Hp->VK->Prop:=fun x vs H Q=>mR x fun l=>mA vs fun y=>∃xs,H l=some (.lst xs)/\xs.length < sizeLine/\∀G,Nd l H G->G l=some (.lst (xs++[y]))->Q .non G
theorem Ei{id:String}(h:Gp X id FM):Gp X id HD:=h.imp fun x vs H Q q=>by
 unfold HD at q;simp only[BV,GZ]at q;obtain⟨l,e,y,a,xs,h1,h2,q⟩:=q;exact⟨l,xs,y,e,a,h1,h2,q⟩
def CG(K:Je):List V->Hp->VK->Prop:=fun vs H Q=>mA vs fun x=>mR x fun p=>∃ys,(JA K H p ys\/N8 K H p ys)/\∀l G,H l=none->Jo H G->G l=some (.lst ys)->Q (.ref l) G
theorem dQ{f:Jf}(h:JN X f (FY K)):JN X f (CG K):=h.imp fun xs H Q q=>by
 unfold CG at q;simp only[BV,GZ]at q;obtain⟨x,e,p,rfl,ys,h1,q⟩:=q;exact⟨p,ys,e,h1,q⟩
def Fy:R2:=fun x y H Q=>mR x fun l=>mR y fun b=>∃xs,H l=some (.lst xs)/\∃zs,H b=some (.lst zs)/\xs.length+ zs.length <=sizeLine/\∀p G,H p=none->Jo H G->G p=some (.lst (xs++zs))->Q (.ref p) G
theorem Hl{f:Value->Value->Sem Value}(h:Nz X f F6):Nz X f Fy:=h.imp fun x y H Q q=>by
 unfold Fy at q;simp only[GZ]at q;obtain⟨l,e,b,a,xs,h1,zs,h2,q⟩:=q;exact⟨l,b,xs,zs,e,a,h1,h2,q⟩
def BL(ta:TA):TI:=fun σ H R=>ta σ H fun vs H1=>mA vs fun x=>mI x fun j=> -(2 ^ 62) <=j/\j < 2 ^ 62/\R (Ec 0 j.toNat) H1
theorem cF{tg e:Jk}{ta:TA}(h:PI X tg e (Af ta)):PI X tg e (BL ta):=by
 have:BL ta=Af ta:=by
  unfold BL Af
  funext σ H R;congr;funext vs H1
  simp only[BV,EQ];exact propext ⟨fun⟨x,e,j,e2,q⟩=>⟨j,by rw[e,e2],q⟩,fun⟨j,e,q⟩=>⟨_,e,j,rfl,q⟩⟩
 rw[this];exact h
def Ad(K:Je)(tl:TE):TI:=fun σ H R=>tl σ H fun x H1=>mR x fun a=>(∃xs,JA K H1 a xs)/\R (E7 K a) H1
theorem bK{tg e:Jk}{tl:TE}(h:PI X tg e (Bo K tl)):PI X tg e (Ad K tl):=by
 have:Ad K tl=Bo K tl:=by unfold Ad Bo;simp only[GZ]
 rw[this];exact h
def FN(K:Je):R2:=fun x y H Q=>mR x fun a=>mR y fun b=>∃xs,JA K H a xs/\JA K H b []/\Q (.bl (decide (xs.length=0))) H
theorem dH{f:Value->Value->Sem Value}(h:Nz X f (Cp K)):Nz X f (FN K):=h.imp fun x y H Q q=>by
 unfold FN at q;simp only[GZ]at q;obtain⟨a,e,b,c,xs,h1,h2,q⟩:=q;exact⟨a,b,xs,e,c,h1,h2,q⟩
def Fz:R2:=fun y x H Q=>mI y fun n=>mR x fun a=>∃kvs,H a=some (.dK kvs)/\Q (.bl (JP kvs (Sum.inl n)).isSome) H
def Ht:R2:=fun y x H Q=>mI y fun n=>mR x fun a=>∃kvs,H a=some (.dK kvs)/\Q (.bl (!(JP kvs (Sum.inl n)).isSome)) H
theorem jO{f:Value->Value->Sem Value}(h:Nz X f Hz):Nz X f Fz:=h.imp fun x y H Q q=>by
 unfold Fz at q;simp only[GZ,EQ]at q;obtain⟨n,e,a,b,kvs,h1,q⟩:=q;exact⟨a,n,kvs,e,b,h1,q⟩
theorem aX{f:Value->Value->Sem Value}(h:Nz X f Fm):Nz X f Ht:=h.imp fun x y H Q q=>by
 unfold Ht at q;simp only[GZ,EQ]at q;obtain⟨n,e,a,b,kvs,h1,q⟩:=q;exact⟨a,n,kvs,e,b,h1,q⟩
def F0(K:Je):V->Option Int->Option Int->Hp->VK->Prop:=fun x lo hi H Q=>mR x fun a=>∃xs,JA K H a xs/\∀p G,H p=none->Jo H G->G p=some (.lst (Gv xs lo hi))->Q (.ref p) G
theorem HV(h:EC X (FL K)):EC X (F0 K):=h.imp fun x lo hi H Q q=>by
 unfold F0 at q;simp only[GZ]at q;obtain⟨a,e,xs,q⟩:=q;exact⟨a,xs,e,q⟩
def Ho:V->List V->Hp->VK->Prop:=fun x vs H Q=>mR x fun l=>mA vs fun y=>mR y fun b=>∃xs,H l=some (.lst xs)/\∃zs,H b=some (.lst zs)/\xs.length+ zs.length <=sizeLine/\∀G,Nd l H G->G l=some (.lst (xs++zs))->Q .non G
theorem mU{id:String}(h:Gp X id FX):Gp X id Ho:=h.imp fun x vs H Q q=>by
 unfold Ho at q;simp only[BV,GZ]at q;obtain⟨l,e,y,a,b,rfl,xs,h1,zs,h2,q⟩:=q;exact⟨l,b,xs,zs,e,a,h1,h2,q⟩
variable{a b:Jk}{ta tb:TE}{rest:List Expr}{pos:Pos}
theorem MO{e:Jk}{t:TE}(h:PE X e t)(he:∀whole,isTrue e X.env whole=(do let v <-whole;standAt e.pos;holding [v] (truthy v)):=by intro _;rfl):PT X e (Ef t):=cB (cM h he)
theorem Hh{op:CmpOp}{r:R2}(ho:Nz X (compareOp op) r)(ha:PE X a ta)(hb:PE X b tb)(hm:behindInMarks op b=false):PT X (.Compare a [op] [b] pos) (Ef (Rs r ta tb)):=cT (aN ho ha hb hm)
theorem Dy(ha:PE X a ta)(hb:PE X (.BoolOp .And (b::rest) pos) tb):PE X (.BoolOp .And (a::b::rest) pos) (BK ta tb):=tE (yV ha hb)
theorem aY(ha:PE X a ta):PE X (.UnaryOp .Not a pos) (BM ta):=jP (uA ha)
theorem HK{tg a:Jk}{ta:TA}{p pos:Pos}(hg:Gl X "range")(hm:X.mg "range"=none)(ha:PA X [a] ta)(hs:starEach [a] X.env=[(false,eval a X.env)]:=by rfl):PI X tg (.Call (.Name "range" p) [a] [] pos) (BL ta):=cF (jN hg hm ha hs)
theorem GS{tg l:Jk}{tl:TE}(h:X.K=K)(hl:PE X l tl):PI X tg l (Ad K tl):=bK (tH h hl)
end
theorem _root_.L2.Room.m{j k:Nat}{A:Jc}(r:Room k A)(h:j <=k:=by decide):Room j A:=r.mono h
section
variable{X:Cx}{es:List Expr}{t:TA}{te ta tb:TE}{pos:Pos}{x:Str}{ps N:List Str}{a b:Jk}
theorem Jv(i:Nat)(hr:PA X es t)(hN:X.N[i]?=some x:=by rfl)(hv:AZ X.env.scope x:=by first|exact Or.inl rfl|exact Or.inr (Or.inl rfl)|exact Or.inr (Or.inr rfl))(hd:(x==("__debug__":Str))=false:=by decide)(hcd:(x==("__classdict__":Str))=false:=by decide):PA X (.Name x pos::es) (Gr (Bk i) t):=Nc (Jn i hN hv hd hcd) hr Gu
theorem TH{v:Const}{k:Nat}(ha:PE X (.Constant v k pos) te)(hr:PA X es t):PA X (.Constant v k pos::es) (Gr te t):=Nc ha hr E1
theorem Dq(ha:PE X (.Subscript a b pos) te)(hr:PA X es t):PA X (.Subscript a b pos::es) (Gr te t):=Nc ha hr Qv
theorem Dt(ha:PE X (.Attribute a x pos) te)(hr:PA X es t):PA X (.Attribute a x pos::es) (Gr te t):=Nc ha hr bT
theorem DZ{gs:List Expr}{ks:List Keyword}(ha:PE X (.Call a gs ks pos) te)(hr:PA X es t):PA X (.Call a gs ks pos::es) (Gr te t):=Nc ha hr tM
theorem Tr(i:Nat){pos':Pos}(S:Nv X.N ps X.env.scope)(he:PE X a te)(hi:X.N[i]?=some x:=by rfl)(hx:Bl X.env.scope x:=by exact Or.inl rfl)(hs:swapsWith a (some (.Name x pos')) pos.line X.env=pure false:=by rfl)(hf:X.fn x=true\/X.env.scope.names.lookup x=some .local:=by first|exact .inl rfl|exact .inr rfl|assumption):
  PS X (.Assign [.Name x pos'] a pos) (B1 te (RT i)):=Zg S.nd hi hx he hs hf
theorem Dr(i:Nat)(S:Nv X.N ps X.env.scope)(hi:X.N[i]?=some x:=by rfl)(hx:Bl X.env.scope x:=by exact Or.inl rfl)(hf:X.fn x=true\/X.env.scope.names.lookup x=some .local:=by first|exact .inl rfl|exact .inr rfl|assumption):PG X (.Name x pos) (RT i):=D0 S.nd hi hx hf
theorem Nx(K:Je)(he:PE X a te)(h:X.K=K:=by rfl)(hb:attributeBase a x X.env (eval a X.env)=eval a X.env:=by rfl):PE X (.Attribute a x pos) (CJ K te x):=ZF h he hb
theorem EL(K:Je)(ha:PE X a ta)(hb:PE X b tb)(h:X.K=K:=by rfl)(hs:LY b:=by exact fun _ _=>rfl):PE X (.Subscript a b pos) (Rs (Cc K) ta tb):=C6 (rT (Ct h)) ha hb hs
theorem M5(K:Je)(ha:PE X a ta)(hb:PE X b tb)(h:X.K=K:=by rfl)(hs:LY b:=by exact fun _ _=>rfl):PE X (.Subscript a b pos) (Rs (BB K) ta tb):=C6 (gG (jH h)) ha hb hs
theorem Tx{op:CmpOp}{r:R2}(ho:Nz X (compareOp op) r)(ha:PE X a ta)(hb:PE X b tb)(hm:behindInMarks op b=false:=by exact Dx _):PT X (.Compare a [op] [b] pos) (Ef (Rs r ta tb)):=Hh ho ha hb hm
theorem GJ{k:Nat}{A:Jc}(hr:Room k A)(ha:PE X a ta)(hb:PE X b tb)(e:X.A=A:=by rfl)(hs:Ou b:=by exact fun _ _=>rfl):PE X (.Subscript a b pos) (Fp ta tb):=nD (e▸Gy hr) ha hb hs
theorem Tu{id:String}{r:List V->Hp->VK->Prop}{p:Pos}(hc:JN X (.builtin id) r)(hm:X.mg x=none)(ha:PA X (a::es) t)(hg:Gl X x:=by rfl)(hv:bootBuiltins x=some (.builtin id):=by rfl)(hn:x≠"__name__":=by decide)(hdb:(x==("__debug__":Str))=false:=by decide)
  (he:starEach (a::es) X.env=(false,eval a X.env)::starEach es X.env:=by rfl) (hpl:(backTo pos (starEach es X.env)).any (·.1)=false:=by rfl):PE X (.Call (.Name x p) (a::es) [] pos) (AF r t):=xX hc hg hm hv ha hn hdb he hpl
end
end L2
namespace Mine
open PySem L2 PyProof.Rows
local macro_rules | `(tactic| walk_at"e")=>`(tactic| exact ⟨rfl,rfl,rfl,by decide +kernel,rfl,by decide +kernel,by decide +kernel⟩)
local macro_rules | `(tactic| walk_at"r") => do
 let f:=fun(s:String)=>(s.splitOn " ").toArray.mapM fun x=>`(Lean.Parser.Tactic.simpLemma|$(Lean.mkIdent x.toName):term)
 let a<-f "QK Bool.not_true Bool.not_false Bk HF Ah Ef BK BM Fl Cc BB HD CG Fy BL Ad FN Fz Ht F0 Ho L3 Oh QX Ov PH Qt OW Pp P9 Nat.reduceAdd IK HW O8 FO GD KZ KB Ob He Kc Iz B1 RT Hw tC Rs L6 Cg tB Lx LZ Av CM Gr R5 AF K6 O1 BQ Bs Fn CK Hr Hk AY FZ L5 Ka HY Lc Il rI RN rU F4 FG Oo KU Ls Bo Af E5 AS Nf Ag Ax Kq Iu Ki Fs L2.start IE KI F6 FY FL FM FX Kl Hx CJ LQ Ll Ix Cp Hz Ic Oe KA LS LG O6 IA I0 Lr Kn Hq II Ld CY AC Hi Fp Om C9 Fm Lz HN O4 List.map_cons List.map_nil List.length_cons List.length_nil List.cons_append List.nil_append List.getElem?_cons_zero List.getElem?_cons_succ List.set_cons_zero List.set_cons_succ Option.bind_some Option.bind_none Option.join_some List.replicate"
 let b<-f "wU ZX bO cD uJ yB"
 let c<-f "EQ Fc GZ QP BV Sc Zb HL Lh HU Ie Nat.reduceSub List.append_nil Option.some.injEq V.int.injEq V.bl.injEq V.str.injEq V.ref.injEq V.ty.injEq exists_eq_left' exists_eq_left exists_and_left and_assoc and_true true_and List.cons.injEq exists_eq exists_eq' exists_const Nat.reduceLT Nat.reduceLeDiff if_true Bool.false_eq_true if_false reduceCtorEq false_and and_false exists_false aM wS d9 gE"
 `(tactic|((try dsimp only[$b,*,$a,*]);(try dsimp only[mC]);(try simp only[$a,*,$c,*])))
local macro_rules | `(tactic| walk_at"w") => `(tactic| dsimp only [Ef, Rs, Bk, Ah, Ov, L3, Oh, List.getElem?_cons_zero, List.getElem?_cons_succ])
local macro_rules | `(tactic| walk_at"n") => `(tactic| first | assumption | (apply Ne.symm; assumption) | grind [Jo, Nd])
local macro_rules | `(tactic| walk_at"h") => `(tactic| first | assumption | exact Nb | (refine Jo.get (by assumption) ?_; walk_at"h") | (refine Nd.get (by assumption) ?_ ?_; (· walk_at"h"); (· walk_at"n")))
def top(i:Nat):Stmt:=PySem.Challenge.pw_pieceways_k44_forty_keys.main.body.getD i (.Pass ⟨0,0,0,0⟩)
structure Cn(mg:J5):Prop where
 c_MOST_NUMBER:∃t,mg "MOST_NUMBER"=some (.int 65535 t)
 c_MOST_BYTE:∃t,mg "MOST_BYTE"=some (.int 255 t)
 c_MOST_SIGNS:∃t,mg "MOST_SIGNS"=some (.int 8 t)
 c_MOST_BYTES:∃t,mg "MOST_BYTES"=some (.int 4000 t)
 c_STEP:∃t,mg "STEP"=some (.int 8 t)
section
variable{P:J9}{w:Jd}{K:Je}{mg:J5}{base:Jj}
inductive Fw(vs:List V)(H:Hp)(Q:VK)(E:XK):Prop|mk (x n:_) (_:vs=[x]) (_:Mq H x=some n) (_:Q (.bl (Ee x)) H)
abbrev KM:Stmt:=top 9
theorem cZ:Nv ["value"] ["value"] (Jl KM):=by walk_at"e"
theorem aH{f:Jg}{fd:Jb}(F:NK K "is_whole" "is_whole" KM f fd)(B:Bt mg):Ju P w K mg base N7 1 f fd ["value"] Fw:=by
 refine F.ok cZ (fun vs H Q E h=>?_) (fun b A a s H vs Q E c h=>?_)
 .obtain⟨x,n,rfl,_⟩:=h;rfl
 .obtain⟨x,n,rfl,ty,q⟩:=h;refine⟨_,(JM (Nk (Dy (Tu (EF "int") B.isinstance (Jv 0 (Nc (hs:=Gu) (B0 (v:=.ty "int") rfl B.bint (by rfl) rfl) Jt))) (GU (aY (Tu (EF "bool") B.isinstance (Jv 0 (Nc (hs:=Gu) (B0 (v:=.ty "bool") rfl B.bbool (by rfl) rfl) Jt)))))))),?_⟩;walk_at"r";refine⟨n,ty,?_⟩;rw[rJ ty];refine DX (fun h=>⟨n,ty,?_⟩) (fun h=>?_)
  .rw[PP ty];have e:(!Eh x)=Ee x:=by cases x <;> first|rfl|(simp[Ee,Eh]at h)
   rw[e];exact q
  .have e:Ee x=false:=by cases x <;> first|rfl|(simp[Ee,Eh]at h)
   rw[e]at q;exact q
inductive Io(vs:List V)(H:Hp)(Q:VK)(E:XK):Prop|mk (x n lo hi:_) (_:vs=[x,.int lo,.int hi]) (_:Mq H x=some n) (_:Q (.bl (DR x lo hi)) H)
abbrev IL:Stmt:=top 10
theorem xK:Nv ["value","low","high"] ["value","low","high"] (Jl IL):=by walk_at"e"
theorem yA{f:Jg}{fd:Jb}(F:NK K "is_whole_within" "is_whole_within" IL f fd)(Nu:Tc P w K mg base "is_whole" 1 ["value"] [] Fw):Ju P w K mg base N7 2 f fd ["value","low","high"] Io:=by
 refine F.ok xK (fun vs H Q E h=>?_) (fun c A a s H vs Q E b h=>?_)
 .obtain⟨x,n,lo,hi,rfl,_⟩:=h;rfl
 .obtain⟨x,n,lo,hi,rfl,ty,q⟩:=h;refine⟨_,(JM (Nk (Dy (Tb Nu b.m rfl (Jv 0 Jt)) (GU (OJ (NL Eb) (NL Eb) (Jn 1) (Jn 0) (Jn 2)))))),?_⟩;walk_at"r";refine⟨x,n,rfl,ty,_,rfl,?_⟩;refine DX (fun h=>?_) (fun h=>?_)
  .cases x <;> first|(simp[Ee]at h;done)|skip
   rename_i i
   walk_at"r"
   by_cases h1:lo <=i
   .simp only[h1,X9,if_true];simpa[DR,h1] using q
   .simp only[h1,X4,Bool.false_eq_true,if_false];simpa[DR,h1] using q
  .have e:DR x lo hi=false:=by cases x <;> first|rfl|(simp[Ee]at h)
   rw[e]at q;exact q
inductive La(vs:List V)(H:Hp)(Q:VK)(E:XK):Prop|mk (x n:_) (_:vs=[x]) (_:Mq H x=some n) (_:Q (.bl (Eh x)) H)
abbrev IP:Stmt:=top 12
theorem vI:Nv ["value"] ["value"] (Jl IP):=by walk_at"e"
theorem ZO{f:Jg}{fd:Jb}(F:NK K "is_truth" "is_truth" IP f fd)(B:Bt mg):Ju P w K mg base N7 1 f fd ["value"] La:=by
 refine F.ok vI (fun vs H Q E h=>?_) (fun b A a s H vs Q E c h=>?_)
 .obtain⟨x,n,rfl,_⟩:=h;rfl
 .obtain⟨x,n,rfl,ty,q⟩:=h;refine⟨_,(JM (Nk (Tu (EF "bool") B.isinstance (Jv 0 (Nc (hs:=Gu) (B0 (v:=.ty "bool") rfl B.bbool (by rfl) rfl) Jt))))),?_⟩;walk_at"r";exact⟨n,ty,by rw[PP ty];exact q⟩
inductive SZ(vs:List V)(H:Hp)(Q:VK)(E:XK):Prop|mk (x n:_) (_:vs=[x]) (_:Mq H x=some n) (_:Q (.bl (DR x 0 65535)) H)
abbrev Le:Stmt:=top 13
theorem j7:Nv ["value"] ["value"] (Jl Le):=by walk_at"e"
theorem jK{f:Jg}{fd:Jb}(F:NK K "is_number" "is_number" Le f fd)(T:Cn mg)(JW:Tc P w K mg base "is_whole_within" 2 ["value","low","high"] [] Io):Ju P w K mg base N7 3 f fd ["value"] SZ:=by
 refine F.ok j7 (fun vs H Q E h=>?_) (fun c A a s H vs Q E b h=>?_)
 .obtain⟨x,n,rfl,_⟩:=h;rfl
 .obtain⟨x,n,rfl,ty,q⟩:=h;refine⟨_,(JM (Nk (Tb JW b.m rfl (Jv 0 (TH JI (Nc (hs:=Gu) (ES rfl T.c_MOST_NUMBER) Jt)))))),?_⟩;walk_at"r";exact⟨x,n,0,65535,rfl,ty,q⟩
inductive QO(vs:List V)(H:Hp)(Q:VK)(E:XK):Prop|mk (x n:_) (_:vs=[x]) (_:Mq H x=some n) (_:Q (.bl (DR x 0 255)) H)
abbrev Kj:Stmt:=top 15
theorem cY:Nv ["value"] ["value"] (Jl Kj):=by walk_at"e"
theorem tV{f:Jg}{fd:Jb}(F:NK K "is_byte" "is_byte" Kj f fd)(T:Cn mg)(JW:Tc P w K mg base "is_whole_within" 2 ["value","low","high"] [] Io):Ju P w K mg base N7 3 f fd ["value"] QO:=by
 refine F.ok cY (fun vs H Q E h=>?_) (fun c A a s H vs Q E b h=>?_)
 .obtain⟨x,n,rfl,_⟩:=h;rfl
 .obtain⟨x,n,rfl,ty,q⟩:=h;refine⟨_,(JM (Nk (Tb JW b.m rfl (Jv 0 (TH JI (Nc (hs:=Gu) (ES rfl T.c_MOST_BYTE) Jt)))))),?_⟩;walk_at"r";exact⟨x,n,0,255,rfl,ty,q⟩
inductive Q6(vs:List V)(H:Hp)(Q:VK)(E:XK):Prop|mk (x n:_) (_:vs=[x]) (_:Mq H x=some n) (_:(∀z,x= .str z->z.length <=100000)) (_:∀H',Jo H H'->Q (.bl (DB x)) H')
abbrev HB:Stmt:=top 14
theorem mK:Nv ["value"] ["value"] (Jl HB):=by walk_at"e"
theorem xZ{f:Jg}{fd:Jb}(F:NK K "is_name" "is_name" HB f fd)(T:Cn mg)(B:Bt mg):Ju P w K mg base N7 1 f fd ["value"] Q6:=by
 refine F.ok mK (fun vs H Q E h=>?_) (fun cdv A outer s H vs Q E hr h=>?_)
 .obtain⟨x,n,rfl,_⟩:=h;rfl
 .obtain⟨x,n,rfl,ty,hz,q⟩:=h;refine⟨_,(JE (Tg (PW.pt (RD (DD (MO (Tu (EF "str") B.isinstance (Jv 0 (Nc (hs:=Gu) (B0 (v:=.ty "str") rfl B.bstr (by rfl) rfl) Jt))))) (RJ (DD (QI (NL Eb) (NL Eb) JI (Tu tU B.len (Jv 0 Jt)) (ES rfl T.c_MOST_SIGNS)))))) (JM (Nk Er)) TC) (JM (Nk (Tu (QB (K:=K) rfl rfl) B.all (Nc (hs:=Rt) (Gk (N':=["sign"]) (caps:=[none]) (Do (sc:=Jl HB) (N:=["value"]) rfl rfl (by decide +kernel)) rfl (wC (Jn 0)) (fun _ _ _ _ _=>(D0 (i:=0) (Dm (N:=["sign"]) rfl (by decide +kernel)) rfl (Or.inl rfl))) (fun _ _ _ _ _=>Gj) (fun _ _ _ _ _=>(OJ Qb Qb Tj (Jn 0) Tj))) Jt))))),?_⟩;walk_at"r";refine⟨n,ty,?_⟩;rw[bF ty];cases x <;> first
   |(simp only[Lp,Bool.not_false,if_true];exact q H (Jo.refl H))
   |skip
  rename_i z
  have o:=hz z rfl;simp only[Lp,Bool.not_true,Bool.false_eq_true,if_false];walk_at"r";refine⟨Ni o,?_⟩;have hq:∀b,DB (.str z)=b->∀H',Jo H H'->Q (.bl b) H':=fun b e H' s=>e▸q H' s
  by_cases h1:1 <=z.length
  .have j:(1:Int) <=(z.length:Int):=by lia
   simp only[j,X9,if_true]
   by_cases h2:z.length <=8
   .have g:(z.length:Int) <=8:=by lia
    simp only[g,X9,Bool.not_true,Bool.false_eq_true,if_false];have hsz:z.cps.size=z.length:=rfl;obtain⟨Pv,a⟩:∃Pv:Nat->List V->L2.St->Hp->Prop,Pv=fun i ys σ' H1=>H1=H/\i <=z.cps.size/\ys=(z.cps.toList.take i).map (fun c=>V.bl (EI c))/\∃v,σ'=[v]:=⟨_,rfl⟩
    refine gK Pv (by rw[a];exact⟨rfl,Yx _,by simp,none,rfl⟩) ?_ (by rw[hsz];exact Ni o) ?_ ?_ <;> rw[a]
    .rintro i ys σ' H1 ⟨_,hi,rfl,_⟩ _;simp only[Y1,Yu];lia
    .rintro i c ys σ' H1 hc ⟨rfl,hi,rfl,v,rfl⟩;rw[<-a];have r:i < z.cps.size:=(Wa.mp hc).1;walk_at"r";obtain⟨e1,e2⟩:=eO c;rw[e1,e2];have et:z.cps.toList.take (i+ 1)=z.cps.toList.take i++[c]:=by
      rw[YQ];have:z.cps.toList[i]?=some c:=by rw[Array.getElem?_toList];exact hc
      rw[this];rfl
     have eb:V.bl (EI c)=V.bl (decide (97 <=c) && decide (c <=122)):=rfl
     by_cases k1:97 <=c
     .simp only[k1,X9,if_true];rw[a];exact⟨rfl,r,by rw[et,Yh,List.map_cons,List.map_nil,eb];simp[k1],_,rfl⟩
     .simp only[k1,X4,Bool.false_eq_true,if_false];rw[a];exact⟨rfl,r,by rw[et,Yh,List.map_cons,List.map_nil,eb];simp[k1],_,rfl⟩
    .rintro ys σ' H1 ⟨rfl,_,rfl,_⟩ p hp;walk_at"r";refine⟨z.cps.toList.map EI,JA.of ?_,?_⟩
     .rw[Nb];have:z.cps.toList.take z.cps.size=z.cps.toList:=by rw[Yv];simp
      rw[this,Yw];rfl
     .refine hq _ ?_ _ (Jo.new (Jo.refl _) hp);simp only[DB,h1,h2,X9,U5,List.all_map];rfl
   .have g:¬(z.length:Int) <=8:=by lia
    simp only[g,X4,Bool.not_false,if_true];exact hq _ (by simp[DB,h2]) H (Jo.refl H)
  .have j:¬(1:Int) <=(z.length:Int):=by lia
   simp only[j,X4,Bool.false_eq_true,if_false,Bool.not_false,if_true,true_and,exists_eq_left'];exact hq _ (by simp[DB,h1]) H (Jo.refl H)
def MX(H:Hp)(x:V):Prop:=∀a xs,x= .ref a->H a=some (.lst xs)->xs.length <=100000/\∀y∈xs,∃n,Mq H y=some n
inductive Zy(vs:List V)(H:Hp)(Q:VK)(E:XK):Prop|mk (x n:_) (_:vs=[x]) (_:Mq H x=some n) (_:MX H x) (_:∀H',Jo H H'->Q (.bl (GW H x)) H')
abbrev Hs:Stmt:=top 16
theorem ZH:Nv ["value"] ["value"] (Jl Hs):=by walk_at"e"
theorem aR{f:Jg}{fd:Jb}(F:NK K "is_body" "is_body" Hs f fd)(T:Cn mg)(B:Bt mg)(MD:Tc P w K mg base "is_byte" 3 ["value"] [] QO):Ju P w K mg base N7 4 f fd ["value"] Zy:=by
 refine F.ok ZH (fun vs H Q E h=>?_) (fun cdv A ac s H vs Q E hr h=>?_)
 .obtain⟨x,n,rfl,_⟩:=h;rfl
 .obtain⟨x,n,rfl,ty,hz,q⟩:=h;refine⟨_,(JE (Tg (PW.pt (RD (DD (MO (Tu (EF "list") B.isinstance (Jv 0 (Nc (hs:=Gu) (B0 (v:=.ty "list") rfl B.blist (by rfl) rfl) Jt))))) (RJ (DD (QI (NL Eb) (NL Eb) JI (Tu (Bd (B4 (K:=K) rfl)) B.len (Jv 0 Jt)) (ES rfl T.c_MOST_BYTES)))))) (JM (Nk Er)) TC) (JM (Nk (Tu (QB (K:=K) rfl rfl) B.all (Nc (hs:=Rt) (Gk (N':=["part"]) (caps:=[none]) (Do (sc:=Jl Hs) (N:=["value"]) rfl rfl (by decide +kernel)) rfl (GS (K:=K) rfl (Jn 0)) (fun _ _ _ _ _=>(D0 (i:=0) (Dm (N:=["part"]) rfl (by decide +kernel)) rfl (Or.inl rfl))) (fun _ _ _ _ _=>Gj) (fun _ _ _ _ _=>(Tb MD hr.m rfl (Jv 0 Jt)))) Jt))))),?_⟩;walk_at"r";refine⟨n,ty,?_⟩;rw[mF ty];cases hL:Aw H x with
  |false=>
   simp only[Bool.not_false,if_true];have e:=aB hL;rw[e]at q;exact q H (Jo.refl H)
  |true=>
   obtain⟨a,xs,rfl,c⟩:=eJ hL;obtain⟨r,aa⟩:=hz a xs rfl c;rw[PJ c]at q;simp only[Bool.not_true,Bool.false_eq_true,if_false];walk_at"r";refine⟨xs,.inl (JA.of c),?_⟩
   by_cases h1:1 <=xs.length
   .have j:(1:Int) <=(xs.length:Int):=by lia
    simp only[j,X9,if_true]
    by_cases h2:xs.length <=4000
    .have g:(xs.length:Int) <=4000:=by lia
     simp only[g,X9,Bool.not_true,Bool.false_eq_true,if_false];refine⟨⟨xs,JA.of c⟩,?_⟩;obtain⟨z,b⟩:∃z:Nat->List V->L2.St->Hp->Prop,z=fun i ys σ' H1=>H1=H/\i <=xs.length/\ys=(xs.take i).map (fun y=>V.bl (DR y 0 255))/\∃v,σ'=[v]:=⟨_,rfl⟩
     refine SA (xs:=xs) z (by rw[b];exact⟨rfl,Yx _,by simp,none,rfl⟩) ?_ (Ni r) ?_ ?_ <;> rw[b]
     .rintro i ys σ' H1 ⟨rfl,hi,rfl,_⟩ _;refine⟨JA.of c,?_⟩;simp only[Y1,Yu];lia
     .rintro i y ys σ' H1 o ⟨rfl,hi,rfl,v,rfl⟩;rw[<-b];have ab:i < xs.length:=(Y4.mp o).1;obtain⟨m,hm⟩:=aa y (Yk o);walk_at"r";refine⟨y,m,rfl,hm,?_⟩;rw[b];refine⟨rfl,ab,?_,_,rfl⟩;rw[YQ,o,XX,Yh,List.map_cons,List.map_nil]
     .rintro ys σ' H1 ⟨rfl,_,rfl,_⟩ p hp;walk_at"r";refine⟨xs.map (fun y=>DR y 0 255),JA.of ?_,?_⟩
      .rw[Nb,Yv (Y9 _),Yw];rfl
      .have e:(xs.map (fun y=>DR y 0 255)).all id=(decide (1 <=xs.length) && decide (xs.length <=4000) && xs.all (fun y=>DR y 0 255)):=by
        simp only[h1,h2,X9,U5,List.all_map];rfl
       rw[e];exact q _ (Jo.new (Jo.refl _) hp)
    .have g:¬(xs.length:Int) <=4000:=by lia
     simp only[g,X4,Bool.not_false,if_true];simp only[h2,X4,WH,XF]at q;exact q H (Jo.refl H)
   .have j:¬(1:Int) <=(xs.length:Int):=by lia
    simp only[j,X4,Bool.false_eq_true,if_false,Bool.not_false,if_true,true_and,exists_eq_left'];simp only[h1,X4,XF]at q;exact q H (Jo.refl H)
def T5(H:Hp)(number sender goal body keep:V):Bool:=DR number 0 65535 && (DB sender && (DB goal && (GW H body && Eh keep)))
structure FW(H:Hp)(number sender goal body keep:V):Prop where
 n:∃t,Mq H number=some t
 s:∃t,Mq H sender=some t
 sl:∀z,sender= .str z->z.length <=100000
 g:∃t,Mq H goal=some t
 gl:∀z,goal= .str z->z.length <=100000
 b:∃t,Mq H body=some t
 bp:MX H body
 k:∃t,Mq H keep=some t
theorem Zp{H H':Hp}(s:Jo H H'){x:V}{n:String}(ty:Mq H x=some n):GW H' x=GW H x:=by
 cases x with
 |ref a=>
  have ty:(H a).bind Ry=some n:=ty;cases e:H a with
  |none=>rw[e]at ty;cases ty
  |some o=>
   show(match H' a with|some (.lst xs)=>_|_=>false)=(match H a with|some (.lst xs)=>_|_=>false);rw[s a o e,e]
 |_=>rfl
theorem MX.same{H H':Hp}(s:Jo H H'){x:V}{n:String}(ty:Mq H x=some n)(h:MX H x):MX H' x:=by
 intro a xs ex g;subst ex;have b:(H a).bind Ry=some n:=ty;cases e:H a with
 |none=>rw[e]at b;cases b
 |some o=>
  have:=s a o e;rw[g]at this;cases this;obtain⟨h1,h2⟩:=h a xs rfl e;exact⟨h1,fun y c=>by obtain⟨m,f⟩:=h2 y c;exact⟨m,Fi s f⟩⟩
inductive Kr(vs:List V)(H:Hp)(Q:VK)(E:XK):Prop|mk (number sender goal body keep:_) (_:vs=[number,sender,goal,body,keep]) (_:FW H number sender goal body keep) (_:∀H',Jo H H'->Q (.bl (T5 H number sender goal body keep)) H')
abbrev Im:Stmt:=top 28
theorem aF:Nv ["number","sender","goal","body","keep"] ["number","sender","goal","body","keep"] (Jl Im):=by walk_at"e"
theorem ZD{f:Jg}{fd:Jb}(F:NK K "are_shared_parts" "are_shared_parts" Im f fd)(TL:Tc P w K mg base "is_number" 3 ["value"] [] SZ)(TX:Tc P w K mg base "is_name" 1 ["value"] [] Q6)
  (MG:Tc P w K mg base "is_body" 4 ["value"] [] Zy) (T7:Tc P w K mg base "is_truth" 1 ["value"] [] La):Ju P w K mg base N7 5 f fd ["number","sender","goal","body","keep"] Kr:=by
 refine F.ok aF (fun vs H Q E h=>?_) (fun cdv A aa s H vs Q E i h=>?_)
 .obtain⟨a,b,c,d,e,rfl,_⟩:=h;rfl
 .obtain⟨nu,se,go,bo,ke,rfl,⟨⟨tn,hn⟩,⟨ts,hs⟩,r,⟨tg,hg⟩,v,⟨tb,o⟩,z,⟨tk,hk⟩⟩,q⟩:=h;refine⟨_,(JM (Nk (Dy (Tb TL i.m rfl (Jv 0 Jt)) (Dy (Tb TX i.m rfl (Jv 1 Jt)) (Dy (Tb TX i.m rfl (Jv 2 Jt)) (Dy (Tb MG i.m rfl (Jv 3 Jt)) (GU (Tb T7 i.m rfl (Jv 4 Jt))))))))),?_⟩;walk_at"r";unfold T5 at q;refine⟨nu,tn,rfl,hn,_,rfl,DX (fun h1=>?_) (fun h1=>?_)⟩
  .refine⟨se,ts,rfl,hs,r,fun H1 s1=>⟨_,rfl,DX (fun h2=>?_) (fun h2=>?_)⟩⟩
   .refine⟨go,tg,rfl,Fi s1 hg,v,fun H2 s2=>⟨_,rfl,DX (fun n=>?_) (fun n=>?_)⟩⟩
    .have g:=s1.trans s2;refine⟨bo,tb,rfl,Fi g o,z.same g o,fun H3 p=>⟨_,rfl,DX (fun j=>?_) (fun j=>?_)⟩⟩
     .refine⟨ke,tk,rfl,Fi (g.trans p) hk,?_⟩;rw[Zp g o]at j;simp only[h1,h2,n,j,U5]at q;exact q _ (g.trans p)
     .rw[Zp g o,Uw]at j;simp only[h1,h2,n,j,U5,XF]at q;exact q _ (g.trans p)
    .rw[Uw]at n;simp only[h1,h2,n,U5,XF]at q;exact q _ (s1.trans s2)
   .rw[Uw]at h2;simp only[h1,h2,U5,XF]at q;exact q _ s1
  .rw[Uw]at h1;simp only[h1,XF]at q;exact q H (Jo.refl H)
end
section
theorem JT{f:Str}{v:V}{fs:List (Str×V)}{n:Nat}(h:fs.length <=n):(NX f v fs).length <=n+ 1:=YD (Lk f v fs) (Nat.succ_le_succ h)
theorem JJ{f g:Str}{v:V}{fs:List (Str×V)}(h:¬g=f):(NX f v fs).lookup g=fs.lookup g:=by rw[CN,Y2 h]
theorem D4{f:Str}{v:V}{fs:List (Str×V)}:(NX f v fs).lookup f=some v:=by rw[CN,Y3 rfl]
end
section
variable{P:J9}{w:Jd}{K:Je}{mg:J5}{base:Jj}
structure Hd(K:Je)(C:Jg):Prop where
 cl:Db K C
 number:Jx K C "number"
 sender:Jx K C "sender"
 goal:Jx K C "goal"
 body:Jx K C "body"
 keep:Jx K C "keep"
structure Ta(C:Jg)(H:Hp)(p:Jg)(nu se go bo ke:V):Prop where
 ex:∃dx fs,H p=some (.ins C dx fs)/\fs.lookup ("number":Str)=some nu/\fs.lookup ("sender":Str)=some se/\fs.lookup ("goal":Str)=some go/\fs.lookup ("body":Str)=some bo/\fs.lookup ("keep":Str)=some ke/\
  fs.lookup ("key":Str)=none/\fs.lookup ("is_like":Str)=none
inductive Al(C:Jg)(vs:List V)(H:Hp)(Q:VK)(E:XK):Prop|mk (p dx nu se go b ke xs:_) (_:vs=[.ref p,nu,se,go,.ref b,ke]) (_:H p=some (.ins C dx [])) (_:FW H nu se go (.ref b) ke) (_:T5 H nu se go (.ref b) ke=true) (_:H b=some (.lst xs)) (_:∀H' b',H b'=none->b'≠p->H' b'=some (.lst xs)->Ta C H' p nu se go (.ref b') ke->Nd p H H'->Q .non H')
abbrev Jw:Stmt:=Mv (top 31) 0
theorem nB:Nv ["self","number","sender","goal","body","keep"] ["self","number","sender","goal","body","keep"] (Jl Jw):=by walk_at"e"
theorem wX {f C : Addr} {fd : FuncData} (F : ∃ (oc : Value) (od : Option Addr) (dV kV doc pm : Value) (an : Option Addr) (cdv ct : Value) (osl : Array (Option Value)),
  fd = W.fnOf "__init__" "Letter.__init__" (Df Jw) (Jy Jw) (Jl Jw) dV kV doc pm an cdv ct /\ K.lookup f = some ⟨oc, od, .func fd, osl⟩ /\ W.codeIn K cdv "Letter.__init__" = true) (L : Hd K C) (B : Bt mg)
  (JR:Tc P w K mg base "are_shared_parts" 5 ["number","sender","goal","body","keep"] [] Kr):Ju P w K mg base N7 6 f fd ["self","number","sender","goal","body","keep"] (Al C):=by
 obtain⟨oc,od,dV,kV,doc,pm,an,cdv,ct,osl,rfl,lk,hcd⟩:=F;refine EZ lk hcd nB (fun vs H Q E h=>?_) (fun A j s H vs Q E hr h=>?_)
 .obtain⟨p,dx,nu,se,go,b,ke,xs,rfl,_⟩:=h;rfl
 .obtain⟨p,dx,nu,se,go,b,ke,xs,rfl,hp,hpl,hgd,hb,q⟩:=h
  suffices hh:∃t,Dl (Mz N7 P w K mg base _ "Letter.__init__" (Jl Jw) f cdv A j s H E).nox (Jy Jw) t/\t {nx:=fun _ H'=>Q .non H',rt:=Q} (L2.start _ _) H by
   obtain⟨t,h1,h2⟩:=hh;exact⟨t,h1.nox,h2⟩
  refine⟨_,(JE (Tg (DD (MO (Tb JR hr.m rfl (Jv 1 (Jv 2 (Jv 3 (Jv 4 (Jv 5 Jt)))))))) EE TC) (JE (Rx (K:=K) rfl (Jn 0) (Jn 1) rfl) (JE (Rx (K:=K) rfl (Jn 0) (Jn 2) rfl) (JE (Rx (K:=K) rfl (Jn 0) (Jn 3) rfl) (JE (Rx (K:=K) rfl (Jn 0) (HC (Ik (K:=K) rfl) rfl B.blist (by rfl) (Jv 4 Jt)) rfl) (JM (Rx (K:=K) rfl (Jn 0) (Jn 5) rfl))))))),?_⟩;refine Nl fun N hN=>?_
  walk_at"r";refine ⟨nu, se, go, .ref b, ke, rfl, hpl, fun H1 s1 => ⟨_, rfl, ?_⟩⟩;rw [hgd];simp only [Bool.not_true, Bool.false_eq_true, if_false];refine hN _ _ ?_;clear hN N;walk_at"r";have hp1 := s1 p _ hp;have hb1 := s1 b _ hb;have g : b ≠ p := Jm hb hp (by intro z; cases z);have n : ([] : List (Str × V)).length <= 0 := Y9 0;refine ⟨C, dx, [], hp1, L.cl, L.number, by decide, C, dx, _, Nb, L.cl, L.sender, Yn (JT n) (by decide), C, dx, _, Nb, L.cl, L.goal, Yn (JT (JT n)) (by decide), xs,
   .inl (JA.of (by rw [JG g, JG g, JG g]; exact hb1)), fun l r => ?_⟩
  have a:l≠p:=fun z=>by rw[z,Nb]at r;cases r
  have v:H1 l=none:=by rw[JG a,JG a,JG a]at r;exact r
  refine⟨C,dx,_,by rw[JG (Ne.symm a)];exact Nb,L.cl,L.body,Yn (JT (JT (JT n))) (by decide),C,dx,_,Nb,L.cl,L.keep,Yn (JT (JT (JT (JT n)))) (by decide),?_⟩;refine q _ l (s1.free v) a (by rw[JG a,JG a,Nb]) ⟨dx,_,Nb,?_,?_,?_,?_,?_,?_,?_⟩ ?_
  .rw[JJ,JJ,JJ,JJ,D4] <;> decide +kernel
  .rw[JJ,JJ,JJ,D4] <;> decide +kernel
  .rw[JJ,JJ,D4] <;> decide +kernel
  .rw[JJ,D4] <;> decide +kernel
  .rw[D4]
  .rw[JJ,JJ,JJ,JJ,JJ] <;> first|rfl|decide +kernel
  .rw[JJ,JJ,JJ,JJ,JJ] <;> first|rfl|decide +kernel
  .intro c o e i;rw[JG i,JG i,JG (Te (s1 c o e) v),JG i,JG i,JG i];exact s1 c o e
inductive Kk(C:Jg)(vs:List V)(H:Hp)(Q:VK)(E:XK):Prop|mk (p nu se go bo ke:_) (_:vs=[.ref p]) (_:Ta C H p nu se go bo ke) (_:∀t,H t=none->Q (.ref t) (upd H t (.tup [nu,se,go])))
abbrev L7:Stmt:=Mv (top 31) 1
theorem eX:Nv ["self"] ["self"] (Jl L7):=by walk_at"e"
theorem mQ{f C:Jg}{fd:Jb}(F:NK K "key" "Letter.key" L7 f fd)(L:Hd K C):Ju P w K mg base N7 1 f fd ["self"] (Kk C):=by
 refine F.ok eX (fun vs H Q E h=>?_) (fun v A g s H vs Q E z h=>?_)
 .obtain⟨p,c,b,e,r,i,rfl,_⟩:=h;rfl
 .obtain⟨p,c,b,e,r,i,rfl,⟨dx,fs,a,o,n,j,_⟩,q⟩:=h;refine⟨_,(JM (Nk (QS (Dt (Rw (K:=K) rfl (Jn 0) rfl) (Dt (Rw (K:=K) rfl (Jn 0) rfl) (Dt (Rw (K:=K) rfl (Jn 0) rfl) Jt)))))),?_⟩;walk_at"r";exact⟨C,dx,fs,a,L.cl,L.number,c,o,C,dx,fs,a,L.cl,L.sender,b,n,C,dx,fs,a,L.cl,L.goal,e,j,Ni (by decide),q⟩
def BD:V->Bool
 | .int i=>decide (0 <=i) && decide (i%8=0)
 |_=>false
inductive Za(vs:List V)(H:Hp)(Q:VK)(E:XK):Prop|mk (x n:_) (_:vs=[x]) (_:Mq H x=some n) (_:Q (.bl (BD x)) H)
abbrev Iq:Stmt:=top 29
theorem eY:Nv ["at"] ["at"] (Jl Iq):=by walk_at"e"
theorem mX{f:Jg}{fd:Jb}(F:NK K "is_place" "is_place" Iq f fd)(T:Cn mg)(Nu:Tc P w K mg base "is_whole" 1 ["value"] [] Fw):Ju P w K mg base N7 2 f fd ["at"] Za:=by
 refine F.ok eY (fun vs H Q E h=>?_) (fun c A a s H vs Q E b h=>?_)
 .obtain⟨x,n,rfl,_⟩:=h;rfl
 .obtain⟨x,n,rfl,ty,q⟩:=h;refine⟨_,(JM (Nk (Dy (Tb Nu b.m rfl (Jv 0 Jt)) (Dy (D7 (NL Hb) (Jn 0) JI (Dx _)) (GU (D7 (GK GG) (Na (dI Dd) (Jn 0) (ES rfl T.c_STEP)) JI (Dx _))))))),?_⟩;walk_at"r";refine⟨x,n,rfl,ty,_,rfl,DX (fun h=>?_) (fun h=>?_)⟩
  .cases x <;> first|(simp[Ee]at h;done)|skip
   rename_i i
   walk_at"r"
   by_cases h1:0 <=i
   .simp only[h1,X9,if_true];refine⟨by decide,rfl,?_⟩;simpa[BD,h1] using q
   .simp only[h1,X4,Bool.false_eq_true,if_false];simpa[BD,h1] using q
  .have e:BD x=false:=by cases x <;> first|rfl|(simp[Ee]at h)
   rw[e]at q;exact q
def Eg(at' len:Int)(more:Bool):Bool:=if more then decide (len%8=0) && decide (at'+ len < 4000) else decide (at'+ len <=4000)
inductive P2(vs:List V)(H:Hp)(Q:VK)(E:XK):Prop|mk (at' len more:_) (_:vs=[.int at',.int len,.bl more]) (_:Q (.bl (Eg at' len more)) H)
abbrev O7:Stmt:=top 30
theorem cW:Nv ["at","length","more"] ["at","length","more"] (Jl O7):=by walk_at"e"
theorem rA{f:Jg}{fd:Jb}(F:NK K "has_room" "has_room" O7 f fd)(T:Cn mg):Ju P w K mg base N7 1 f fd ["at","length","more"] P2:=by
 refine F.ok cW (fun vs H Q E h=>?_) (fun c A b s H vs Q E e h=>?_)
 .obtain⟨a,l,m,rfl,_⟩:=h;rfl
 .obtain⟨a,l,m,rfl,q⟩:=h;refine⟨_,(JE (Tg (MO (Jn 2)) (JM (Nk (Dy (D7 (GK GG) (Na (dI Dd) (Jn 1) (ES rfl T.c_STEP)) JI (Dx _)) (GU (D7 (NL C5) (Na (NL Mo) (Jn 0) (Jn 1)) (ES rfl T.c_MOST_BYTES) (Dx _)))))) TC) (JM (Nk (D7 (NL Eb) (Na (NL Mo) (Jn 0) (Jn 1)) (ES rfl T.c_MOST_BYTES) (Dx _))))),?_⟩;walk_at"r";cases m with
  |true=>
   rw[Y3 rfl];refine⟨by decide,rfl,?_⟩;unfold Eg at q;rw[Y3 rfl]at q
   by_cases h1:l%8=0
   .rw[Y3 (by simpa using h1)];simpa[h1] using q
   .rw[Y2 (by simpa using h1)];simpa[h1] using q
  |false=>
   rw[Y2 (by simp)];exact q
structure Ru(K:Je)(C:Jg):Prop where
 cl:Db K C
 number:Jx K C "number"
 sender:Jx K C "sender"
 goal:Jx K C "goal"
 at':Jx K C "at"
 body:Jx K C "body"
 more:Jx K C "more"
 keep:Jx K C "keep"
structure Tv(C:Jg)(H:Hp)(p:Jg)(nu se go a bo mo ke:V):Prop where
 ex:∃dx fs,H p=some (.ins C dx fs)/\fs.lookup ("number":Str)=some nu/\fs.lookup ("sender":Str)=some se/\fs.lookup ("goal":Str)=some go/\fs.lookup ("at":Str)=some a/\fs.lookup ("body":Str)=some bo/\fs.lookup ("more":Str)=some mo/\fs.lookup ("keep":Str)=some ke/\
  fs.lookup ("key":Str)=none/\fs.lookup ("end":Str)=none/\fs.lookup ("is_like":Str)=none
theorem Tv.same{C p:Jg}{H H':Hp}{nu se go a bo mo ke:V}(s:∀o,H p=some o->H' p=some o)(h:Tv C H p nu se go a bo mo ke):Tv C H' p nu se go a bo mo ke:=by
 obtain⟨dx,fs,b,r⟩:=h;exact⟨dx,fs,s _ b,r⟩
inductive AH(C:Jg)(vs:List V)(H:Hp)(Q:VK)(E:XK):Prop|mk (p dx:Jg) (nu se go:V) (a:Int) (b:Jg) (mo:Bool) (ke:V) (xs:List V) (_:vs=[.ref p,nu,se,go,.int a,.ref b,.bl mo,ke]) (_:H p=some (.ins C dx [])) (_:FW H nu se go (.ref b) ke) (_:T5 H nu se go (.ref b) ke=true) (_:BD (.int a)=true) (_:H b=some (.lst xs)) (_:Eg a xs.length mo=true) (_:∀H' b',H b'=none->b'≠p->H' b'=some (.lst xs)->Tv C H' p nu se go (.int a) (.ref b') (.bl mo) ke->Nd p H H'->Q .non H')
abbrev JC:Stmt:=Mv (top 32) 0
theorem n9:Nv ["self","number","sender","goal","at","body","more","keep"] ["self","number","sender","goal","at","body","more","keep"] (Jl JC):=by walk_at"e"
theorem tS {f C : Addr} {fd : FuncData} (F : ∃ (oc : Value) (od : Option Addr) (dV kV doc pm : Value) (an : Option Addr) (cdv ct : Value) (osl : Array (Option Value)),
  fd = W.fnOf "__init__" "Piece.__init__" (Df JC) (Jy JC) (Jl JC) dV kV doc pm an cdv ct /\ K.lookup f = some ⟨oc, od, .func fd, osl⟩ /\ W.codeIn K cdv "Piece.__init__" = true) (L : Ru K C) (B : Bt mg)
  (JR:Tc P w K mg base "are_shared_parts" 5 ["number","sender","goal","body","keep"] [] Kr) (Mf:Tc P w K mg base "is_place" 2 ["at"] [] Za) (T7:Tc P w K mg base "is_truth" 1 ["value"] [] La)
  (Me:Tc P w K mg base "has_room" 1 ["at","length","more"] [] P2):Ju P w K mg base N7 6 f fd ["self","number","sender","goal","at","body","more","keep"] (AH C):=by
 obtain⟨oc,od,dV,kV,doc,pm,an,cdv,ct,osl,rfl,lk,hcd⟩:=F;refine EZ lk hcd n9 (fun vs H Q E h=>?_) (fun A v s H vs Q E hr h=>?_)
 .obtain⟨p,dx,nu,se,go,a,b,mo,ke,xs,rfl,_⟩:=h;rfl
 .obtain⟨p,dx,nu,se,go,a,b,mo,ke,xs,rfl,hp,hpl,hgd,hat,hb,aa,q⟩:=h
  suffices hh:∃t,Dl (Mz N7 P w K mg base _ "Piece.__init__" (Jl JC) f cdv A v s H E).nox (Jy JC) t/\t {nx:=fun _ H'=>Q .non H',rt:=Q} (L2.start _ _) H by
   obtain⟨t,h1,h2⟩:=hh;exact⟨t,h1.nox,h2⟩
  refine⟨_,(JE (Tg (DD (MO (Tb JR hr.m rfl (Jv 1 (Jv 2 (Jv 3 (Jv 5 (Jv 7 Jt)))))))) EE TC) (JE (Tg (PW.pt (RD (DD (MO (Tb Mf hr.m rfl (Jv 4 Jt)))) (RD (DD (MO (Tb T7 hr.m rfl (Jv 6 Jt)))) (RJ (DD (MO (Tb Me hr.m rfl (Jv 4 (DZ (Tu (Bd (B4 (K:=K) rfl)) B.len (Jv 5 Jt)) (Jv 6 Jt)))))))))) EE TC) (JE (Rx (K:=K) rfl (Jn 0) (Jn 1) rfl) (JE (Rx (K:=K) rfl (Jn 0) (Jn 2) rfl) (JE (Rx (K:=K) rfl (Jn 0) (Jn 3) rfl) (JE (Rx (K:=K) rfl (Jn 0) (Jn 4) rfl) (JE (Rx (K:=K) rfl (Jn 0) (HC (Ik (K:=K) rfl) rfl B.blist (by rfl) (Jv 5 Jt)) rfl) (JE (Rx (K:=K) rfl (Jn 0) (Jn 6) rfl) (JM (Rx (K:=K) rfl (Jn 0) (Jn 7) rfl)))))))))),?_⟩;refine Nl fun N r=>?_
  walk_at"r";refine⟨nu,se,go,.ref b,ke,rfl,hpl,fun H1 s1=>⟨_,rfl,?_⟩⟩;rw[hgd];simp only[Bool.not_true,Bool.false_eq_true,if_false];refine r _ _ ?_;clear r N;refine Nl fun N r=>?_
  walk_at"r";refine ⟨.int a, _, rfl, rfl, _, rfl, ?_⟩;rw [hat];simp only [Bool.not_true, Bool.false_eq_true, if_false];refine ⟨.bl mo, _, rfl, rfl, _, rfl, ?_⟩;have hp1 := s1 p _ hp;have hb1 := s1 b _ hb;have j : b ≠ p := Jm hb hp (by intro z; cases z);have n : ([] : List (Str × V)).length <= 0 := Y9 0;simp only [Eh, Bool.not_true, Bool.false_eq_true, if_false];refine ⟨_, .inl (JA.of hb1), a, _, mo, rfl, _, rfl, ?_⟩;rw [aa];simp only [Bool.not_true, Bool.false_eq_true, if_false];refine r _ _ ?_;clear r N;walk_at"r";refine ⟨C, dx, [], hp1, L.cl, L.number, by decide, C, dx, _, Nb, L.cl, L.sender, Yn (JT n) (by decide), C, dx, _, Nb, L.cl, L.goal, Yn (JT (JT n)) (by decide), C, dx, _, Nb, L.cl, L.at', Yn (JT (JT (JT n))) (by decide), xs,
   .inl (JA.of (by rw [JG j, JG j, JG j, JG j]; exact hb1)), fun l hl => ?_⟩
  have g:l≠p:=fun z=>by rw[z,Nb]at hl;cases hl
  have hl1:H1 l=none:=by rw[JG g,JG g,JG g,JG g]at hl;exact hl
  refine⟨C,dx,_,by rw[JG (Ne.symm g)];exact Nb,L.cl,L.body,Yn (JT (JT (JT (JT n)))) (by decide),C,dx,_,Nb,L.cl,L.more,Yn (JT (JT (JT (JT (JT n))))) (by decide),C,dx,_,Nb,L.cl,L.keep,Yn (JT (JT (JT (JT (JT (JT n)))))) (by decide),?_⟩;refine q _ l (s1.free hl1) g (by rw[JG g,JG g,JG g,Nb]) ⟨dx,_,Nb,?_,?_,?_,?_,?_,?_,?_,?_,?_,?_⟩ ?_
  .rw[JJ,JJ,JJ,JJ,JJ,JJ,D4] <;> decide +kernel
  .rw[JJ,JJ,JJ,JJ,JJ,D4] <;> decide +kernel
  .rw[JJ,JJ,JJ,JJ,D4] <;> decide +kernel
  .rw[JJ,JJ,JJ,D4] <;> decide +kernel
  .rw[JJ,JJ,D4] <;> decide +kernel
  .rw[JJ,D4] <;> decide +kernel
  .rw[D4]
  .rw[JJ,JJ,JJ,JJ,JJ,JJ,JJ] <;> first|rfl|decide +kernel
  .rw[JJ,JJ,JJ,JJ,JJ,JJ,JJ] <;> first|rfl|decide +kernel
  .rw[JJ,JJ,JJ,JJ,JJ,JJ,JJ] <;> first|rfl|decide +kernel
  .intro c o e i;rw[JG i,JG i,JG i,JG (Te (s1 c o e) hl1),JG i,JG i,JG i,JG i];exact s1 c o e
inductive KY(C:Jg)(vs:List V)(H:Hp)(Q:VK)(E:XK):Prop|mk (p nu se go a bo mo ke:_) (_:vs=[.ref p]) (_:Tv C H p nu se go a bo mo ke) (_:∀t,H t=none->Q (.ref t) (upd H t (.tup [nu,se,go])))
abbrev LO:Stmt:=Mv (top 32) 1
theorem mJ:Nv ["self"] ["self"] (Jl LO):=by walk_at"e"
theorem uX{f C:Jg}{fd:Jb}(F:NK K "key" "Piece.key" LO f fd)(L:Ru K C):Ju P w K mg base N7 1 f fd ["self"] (KY C):=by
 refine F.ok mJ (fun vs H Q E h=>?_) (fun aa A i s H vs Q E hr h=>?_)
 .obtain⟨p,e,c,g,a,z,j,n,rfl,_⟩:=h;rfl
 .obtain⟨p,e,c,g,a,z,j,n,rfl,⟨dx,fs,b,v,r,o,_⟩,q⟩:=h;refine⟨_,(JM (Nk (QS (Dt (Rw (K:=K) rfl (Jn 0) rfl) (Dt (Rw (K:=K) rfl (Jn 0) rfl) (Dt (Rw (K:=K) rfl (Jn 0) rfl) Jt)))))),?_⟩;walk_at"r";exact⟨C,dx,fs,b,L.cl,L.number,e,v,C,dx,fs,b,L.cl,L.sender,c,r,C,dx,fs,b,L.cl,L.goal,g,o,Ni (by decide),q⟩
inductive Oy(C:Jg)(vs:List V)(H:Hp)(Q:VK)(E:XK):Prop|mk (p:Jg) (nu se go:V) (a:Int) (b:Jg) (mo ke:V) (xs:List V) (_:vs=[.ref p]) (_:Tv C H p nu se go (.int a) (.ref b) mo ke) (_:H b=some (.lst xs)) (_:Q (.int (a+ xs.length)) H)
abbrev O3:Stmt:=Mv (top 32) 2
theorem dY:Nv ["self"] ["self"] (Jl O3):=by walk_at"e"
theorem vL{f C:Jg}{fd:Jb}(F:NK K "end" "Piece.end" O3 f fd)(L:Ru K C)(B:Bt mg):Ju P w K mg base N7 1 f fd ["self"] (Oy C):=by
 refine F.ok dY (fun vs H Q E h=>?_) (fun aa A e s H vs Q E hr h=>?_)
 .obtain⟨p,i,g,r,a,bo,j,n,xs,rfl,_⟩:=h;rfl
 .obtain⟨p,i,g,r,a,b,j,n,xs,rfl,⟨dx,fs,c,f1,f2,f3,z,v,_⟩,o,q⟩:=h;refine⟨_,(JM (Nk (Na (NL Mo) (Rw (K:=K) rfl (Jn 0) rfl) (Tu (Bd (B4 (K:=K) rfl)) B.len (Dt (Rw (K:=K) rfl (Jn 0) rfl) Jt))))),?_⟩;walk_at"r";exact⟨C,dx,fs,c,L.cl,L.at',_,z,C,dx,fs,c,L.cl,L.body,_,v,b,rfl,xs,.inl (JA.of o),a,rfl,q⟩
def GB(H:Hp)(a:Jg):Prop:=(∃n,H a=some (.lst [.int n]))\/∃n m c,H a=some (.lst [.int n,.int m,.int c])
theorem wV(x y:Int):RI (x%2147483647) y:=.inl ⟨by have:=V5 x (show(2147483647:Int)≠0 by decide);lia,by have:=Vc x (show(0:Int) < 2147483647 by decide);lia⟩
def M0(z:Str):Prop:=1 <=z.length/\z.length <=8/\z.cps.toList.all EI=true
theorem M0.is{z:Str}(h:M0 z):DB (.str z)=true:=by
 obtain⟨h1,h2,a⟩:=h;simp only[DB,h1,h2,a,X9,Bool.and_self]
end
section
variable{K:Je}
theorem M0.ok{z:Str}(h:M0 z):PyData.strOk z=true:=by
 unfold PyData.strOk;rw[Array.all_eq_true];intro i hi;have a:=XB.mp h.2.2 (z.cps[i]) (Array.getElem_mem_toList hi);unfold EI at a;simp only[X2,Yd]at a;simp only[Yd];lia
abbrev GC(nu:Int)(z1 z2:Str):PyData:=.tuple [.int nu,.str z1,.str z2]
theorem E3{H:Hp}{t:Jg}{nu:Int}{z1 z2:Str}(h:H t=some (.tup [.int nu,.str z1,.str z2])):Dp K H (.ref t) (GC nu z1 z2):=
 .tup (N8.of h) (.cons (.int _) (.cons (.str _) (.cons (.str _) .nil)))
theorem A9(nu:Int){z1 z2:Str}(h1:M0 z1)(h2:M0 z2):SeqAt.shaped (GC nu z1 z2)=true:=by
 simp[SeqAt.shaped,PyData.canLay0,PyData.canLayAll0,PyData.depth,PyData.depthAll,h1.ok,h2.ok]
theorem uC(nu:Int)(z1 z2:Str):PyData.eqv (GC nu z1 z2) (GC nu z1 z2)=true:=by simp[PyData.eqv,PyData.eqvAll]
theorem Sb{H:Hp}{b:Jg}{ns:Jh}(h:H b=some (.lst (ns.map V.int))):Dp K H (.ref b) (.list (ns.map PyData.int)):=.lst (JA.of h) (NC.ints ns)
theorem ZM(ns:Jh):PyData.eqv (.list (ns.map PyData.int)) (.list (ns.map PyData.int))=true:=by
 show PyData.eqvAll _ _=true;rw[W.ked_eqvAll];simp
theorem Ss{H:Hp}{nu:Int}{z1 z2:Str}{b:Jg}{ns:Jh}{k:Bool}(h0:0 <=nu)(h1:nu <=65535)(n1:M0 z1)(n2:M0 z2)(hb:H b=some (.lst (ns.map V.int)))(l1:1 <=ns.length)(l2:ns.length <=4000)(hns:∀x∈ns,0 <=x/\x <=255):
  FW H (.int nu) (.str z1) (.str z2) (.ref b) (.bl k)/\T5 H (.int nu) (.str z1) (.str z2) (.ref b) (.bl k)=true:=by
 refine⟨⟨⟨_,rfl⟩,⟨_,rfl⟩,fun z e=>?_,⟨_,rfl⟩,fun z e=>?_,⟨_,uZ hb⟩,fun a xs h g=>?_,⟨_,rfl⟩⟩,?_⟩
 .cases e;have:=n1.2.1;lia
 .cases e;have:=n2.2.1;lia
 .cases h;rw[hb]at g;cases g;refine⟨by rw[Y1];lia,fun y c=>?_⟩;obtain⟨i,_,rfl⟩:=Y5.mp c;exact⟨_,rfl⟩
 .unfold T5;rw[n1.is,n2.is,PJ hb];have f:(ns.map V.int).all (fun y=>DR y 0 255)=true:=by
   rw[XB];intro y c;obtain⟨i,hi,rfl⟩:=Y5.mp c;have:=hns i hi;simp[DR,this.1,this.2]
  rw[f];simp[DR,h0,h1,l1,l2,Eh]
end
section
variable{P:J9}{w:Jd}{K:Je}{mg:J5}{base:Jj}
theorem LK(nu:Int)(z1 z2:Str)(nu':Int)(z1' z2':Str):PyData.eqv (GC nu z1 z2) (GC nu' z1' z2')=decide (nu=nu'/\z1=z1'/\z2=z2'):=by
 simp only[PyData.eqv,PyData.eqvAll,Bool.and_true];rw[YF];simp
theorem wN(ns ms:Jh):PyData.eqv (.list (ns.map PyData.int)) (.list (ms.map PyData.int))=decide (ns=ms):=by
 show PyData.eqvAll _ _=_;rw[W.ked_eqvAll]
theorem Ta.same{C p:Jg}{H H':Hp}{nu se go bo ke:V}(s:∀o,H p=some o->H' p=some o)(h:Ta C H p nu se go bo ke):Ta C H' p nu se go bo ke:=by
 obtain⟨dx,fs,a,r⟩:=h;exact⟨dx,fs,s _ a,r⟩
def Oj(C:Jg)(H:Hp)(p:Jg)(nu:Int)(z1 z2:Str)(ns:Jh)(k:Bool):Prop:=M0 z1/\M0 z2/\∃b,Ta C H p (.int nu) (.str z1) (.str z2) (.ref b) (.bl k)/\H b=some (.lst (ns.map V.int))
def GN(nu:Int)(z1 z2:Str)(ns:Jh)(k:Bool)(nu':Int)(z1' z2':Str)(ns':Jh)(k':Bool):Bool:=decide (nu=nu'/\z1=z1'/\z2=z2') && (decide (ns=ns') && decide (k=k'))
inductive Lq(C:Jg)(vs:List V)(H:Hp)(Q:VK)(E:XK):Prop|mk (p p':Jg) (nu nu':Int) (z1 z2 z1' z2':Str) (ns ns':Jh) (k k':Bool) (_:vs=[.ref p,.ref p']) (_:Oj C H p nu z1 z2 ns k) (_:Oj C H p' nu' z1' z2' ns' k') (_:∀H',Jo H H'->Q (.bl (GN nu z1 z2 ns k nu' z1' z2' ns' k')) H')
end
structure PD where
 nu:Int
 z1:Str
 z2:Str
 at':Int
 ns:List Int
 mo:Bool
 k:Bool
 deriving DecidableEq
structure PD.Ok(d:PD):Prop where
 n0:0 <=d.nu
 n1:d.nu <=65535
 k1:M0 d.z1
 k2:M0 d.z2
 l1:1 <=d.ns.length
 l2:d.ns.length <=4000
 by':∀x∈d.ns,0 <=x/\x <=255
 a0:0 <=d.at'
 a8:d.at'%8=0
 rm:Eg d.at' d.ns.length d.mo=true
structure NH(C:Jg)(H:Hp)(p b:Jg)(d:PD):Prop where
 ok:d.Ok
 ats:Tv C H p (.int d.nu) (.str d.z1) (.str d.z2) (.int d.at') (.ref b) (.bl d.mo) (.bl d.k)
 bd:H b=some (.lst (d.ns.map V.int))
section
variable{P:J9}{w:Jd}{K:Je}{mg:J5}{base:Jj}{C p b:Jg}{H G:Hp}
theorem NH.mono{d:PD}(s:Jo H G)(h:NH C H p b d):NH C G p b d:=⟨h.ok,h.ats.same (s p),s _ _ h.bd⟩
theorem NH.but{d:PD}{l:Jg}(s:Nd l H G)(h:NH C H p b d)(n1:p≠l)(n2:b≠l):NH C G p b d:=⟨h.ok,h.ats.same fun o e=>s p o e n1,s _ _ h.bd n2⟩
theorem NH.ins{d:PD}(h:NH C H p b d):∃dx fs,H p=some (.ins C dx fs):=by
 obtain⟨dx,fs,a,_⟩:=h.ats;exact⟨dx,fs,a⟩
theorem FP{d:PD}(L:Ru K C)(h:NH C H p b d):Ti K H (.ref p) "at" (.int d.at'):=by
 obtain⟨dx,fs,a,n,j,i,c,g,f,e,_⟩:=h.ats;exact⟨p,C,dx,fs,rfl,a,L.cl,L.at',c⟩
theorem P1{d:PD}(L:Ru K C)(h:NH C H p b d):Ti K H (.ref p) "body" (.ref b):=by
 obtain⟨dx,fs,a,n,j,i,g,c,f,e,_⟩:=h.ats;exact⟨p,C,dx,fs,rfl,a,L.cl,L.body,c⟩
theorem So{d:PD}(L:Ru K C)(h:NH C H p b d):Ti K H (.ref p) "more" (.bl d.mo):=by
 obtain⟨dx,fs,a,n,j,i,g,f,c,e,_⟩:=h.ats;exact⟨p,C,dx,fs,rfl,a,L.cl,L.more,c⟩
theorem tN{d:PD}(h:NH C H p b d):Ro C "key" H (.ref p):=by
 obtain⟨dx,fs,a,_,_,_,_,_,_,_,f,_⟩:=h.ats;exact⟨p,dx,fs,rfl,a,f⟩
theorem BS{d:PD}(h:NH C H p b d):Ro C "end" H (.ref p):=by
 obtain⟨dx,fs,a,_,_,_,_,_,_,_,_,f,_⟩:=h.ats;exact⟨p,dx,fs,rfl,a,f⟩
def PD.key(d:PD):Int×Str×Str:=(d.nu,d.z1,d.z2)
end
section
variable{P:J9}{w:Jd}{K:Je}{mg:J5}{base:Jj}{C:Jg}
inductive Sz(C:Jg)(vs:List V)(H:Hp)(Q:VK)(E:XK):Prop|mk (p b:Jg) (d:PD) (_:vs=[.ref p]) (_:NH C H p b d) (_:∀t G,H t=none->Jo H G->G t=some (.tup [.int d.nu,.str d.z1,.str d.z2])->Q (.ref t) G)
theorem jL(F:T4 P w K mg base C "key" 1 ["self"] [] (KY C)):T4 P w K mg base C "key" 1 ["self"] [] (Sz C):=
 F.imp fun vs H Q E zz=>by rcases zz with⟨p,b,d,e,h,q⟩;exact ⟨p,_,_,_,_,_,_,_,e,h.ats,fun t a=>q t _ a (ML a) Nb⟩
end
structure LD where
 nu:Int
 z1:Str
 z2:Str
 ns:List Int
 k:Bool
 deriving DecidableEq
structure LD.Ok(d:LD):Prop where
 n0:0 <=d.nu
 n1:d.nu <=65535
 k1:M0 d.z1
 k2:M0 d.z2
 l1:1 <=d.ns.length
 l2:d.ns.length <=4000
 by':∀x∈d.ns,0 <=x/\x <=255
structure Mp(C:Jg)(H:Hp)(p b:Jg)(d:LD):Prop where
 ok:d.Ok
 ats:Ta C H p (.int d.nu) (.str d.z1) (.str d.z2) (.ref b) (.bl d.k)
 bd:H b=some (.lst (d.ns.map V.int))
section
variable{P:J9}{w:Jd}{K:Je}{mg:J5}{base:Jj}{C p b:Jg}{H G:Hp}
theorem Mp.mono{d:LD}(s:Jo H G)(h:Mp C H p b d):Mp C G p b d:=⟨h.ok,h.ats.same (s p),s _ _ h.bd⟩
theorem Mp.ins{d:LD}(h:Mp C H p b d):∃dx fs,H p=some (.ins C dx fs):=by
 obtain⟨dx,fs,a,_⟩:=h.ats;exact⟨dx,fs,a⟩
theorem vF{d:LD}(h:Mp C H p b d):Ro C "is_like" H (.ref p):=by
 obtain⟨dx,fs,a,_,_,_,_,_,_,f⟩:=h.ats;exact⟨p,dx,fs,rfl,a,f⟩
end
section
variable{P:J9}{w:Jd}{K:Je}{mg:J5}{base:Jj}{C:Jg}
theorem vD(d d':LD):GN d.nu d.z1 d.z2 d.ns d.k d'.nu d'.z1 d'.z2 d'.ns d'.k=decide (d=d'):=by
 rw[YF];unfold GN;cases d;cases d';simp only[X2,Yd,LD.mk.injEq];constructor
 .rintro⟨⟨a,b,c⟩,e,g⟩;exact⟨a,b,c,e,g⟩
 .rintro⟨a,b,c,e,g⟩;exact⟨⟨a,b,c⟩,e,g⟩
theorem Mp.d{H:Hp}{p b:Jg}{d:LD}(h:Mp C H p b d):Oj C H p d.nu d.z1 d.z2 d.ns d.k:=⟨h.ok.k1,h.ok.k2,b,h.ats,h.bd⟩
inductive Q4(C:Jg)(vs:List V)(H:Hp)(Q:VK)(E:XK):Prop|mk (p b p' b':Jg) (d d':LD) (_:vs=[.ref p,.ref p']) (_:Mp C H p b d) (_:Mp C H p' b' d') (_:∀G,Jo H G->Q (.bl (decide (d=d'))) G)
theorem yN(F:T4 P w K mg base C "is_like" 2 ["self","other"] [] (Lq C)):T4 P w K mg base C "is_like" 2 ["self","other"] [] (Q4 C):=
 F.imp fun vs H Q E zz=>by rcases zz with⟨p,b,a,f,d,c,e,h,h',q⟩;exact ⟨p,a,_,_,_,_,_,_,_,_,_,_,e,h.d,h'.d,fun G s=>by rw[vD];exact q G s⟩
def LD.whole(d:LD):PD:=⟨d.nu,d.z1,d.z2,0,d.ns,false,d.k⟩
end
section
variable{P:J9}{w:Jd}{K:Je}{mg:J5}{base:Jj}
inductive Kb(C:Jg)(vs:List V)(H:Hp)(Q:VK)(E:XK):Prop|mk (p b:Jg) (d:PD) (_:vs=[.ref p]) (_:NH C H p b d) (_:Q (.int (d.at'+ d.ns.length)) H)
theorem PC{C:Jg}(F:T4 P w K mg base C "end" 1 ["self"] [] (Oy C)):T4 P w K mg base C "end" 1 ["self"] [] (Kb C):=
 F.imp fun vs H Q E zz=>by rcases zz with⟨p,b,d,e,h,q⟩;exact ⟨p,_,_,_,d.at',b,_,_,_,e,h.ats,h.bd,by rw[Y1];exact q⟩
end
def DI:List (Int×Int)->Prop
 |[]=>True
 |p::r=>p.1 < p.2/\(∀q∈r,p.2 < q.1)/\DI r
def Th(c:List (Int×Int))(x:Int):Prop:=∃p∈c,p.1 <=x/\x < p.2
theorem GE(x:Int):¬Th [] x:=by rintro⟨p,hp,_⟩;exact nomatch hp
theorem N0{p:Int×Int}{r:List (Int×Int)}{x:Int}:Th (p::r) x↔(p.1 <=x/\x < p.2)\/Th r x:=by
 constructor
 .rintro⟨q,hq,h⟩;rcases Ym.mp hq with rfl|hq
  .exact .inl h
  .exact .inr ⟨q,hq,h⟩
 .rintro(h|⟨q,hq,h⟩)
  .exact⟨p,YE,h⟩
  .exact⟨q,Yp _ hq,h⟩
theorem Ci{c d:List (Int×Int)}{x:Int}:Th (c++d) x↔Th c x\/Th d x:=by
 induction c with
 |nil=>simp[GE]
 |cons p r ih=>rw[List.cons_append,N0,N0,ih,or_assoc]
theorem Z1{p:Int×Int}{r:List (Int×Int)}(h:∀q∈r,p.2 < q.1){x:Int}(hx:Th r x):p.2 < x:=by
 obtain⟨q,a,h1,h2⟩:=hx;have:=h q a
 lia
theorem LV{c:List (Int×Int)}{p:Int×Int}(hc:DI c)(hp:p.1 < p.2)(h:∀q∈c,q.2 < p.1):DI (c++[p]):=by
 induction c with
 |nil=>exact⟨hp,fun _ h=>(nomatch h),trivial⟩
 |cons a r ih=>
  obtain⟨h1,h2,e⟩:=hc;refine⟨h1,fun q b=>?_,ih e fun q b=>h q (Yp _ b)⟩;rcases Yq.mp b with b|b
  .exact h2 q b
  .rw[Yb.mp b];exact h a YE
theorem yW{c d:List (Int×Int)}(hc:DI c)(hd:DI d)(h:∀p∈c,∀q∈d,p.2 < q.1):DI (c++d):=by
 induction c with
 |nil=>exact hd
 |cons a r ih=>
  obtain⟨h1,h2,f⟩:=hc;refine⟨h1,fun q b=>?_,ih f fun p e=>h p (Yp _ e)⟩;rcases Yq.mp b with b|b
  .exact h2 q b
  .exact h a YE q b
structure WS where
 ah:List (Int×Int)
 lo:Int
 hi:Int
 be:List (Int×Int)
def M7(s:WS)(p:Int×Int):WS:=
 if p.2 < s.lo then {s with ah:=s.ah++[p]} else if p.1 > s.hi then {s with be:=s.be++[p]} else {s with lo:=min s.lo p.1,hi:=max s.hi p.2}
def EO(c:List (Int×Int))(lo hi:Int):WS:=c.foldl M7 ⟨[],lo,hi,[]⟩
def NJ(c:List (Int×Int))(lo hi:Int):List (Int×Int):=(EO c lo hi).ah++[((EO c lo hi).lo,(EO c lo hi).hi)]++(EO c lo hi).be
structure Cj(lo hi:Int)(pre:List (Int×Int))(s:WS)(c:List (Int×Int)):Prop where
 cov:DI c
 ca:DI s.ah
 cb:DI s.be
 lh:s.lo < s.hi
 al:∀p∈s.ah,p.2 < s.lo
 bh:∀p∈s.be,s.hi < p.1
 ac:∀p∈s.ah,∀q∈c,p.2 < q.1
 bc:∀p∈s.be,∀q∈c,p.2 < q.1
 bc2:s.be≠[]->∀q∈c,s.hi < q.1
 gl:s.lo=lo\/∀q∈c,s.lo < q.1
 gh:s.hi=hi\/∀q∈c,s.hi < q.1
 le:s.lo <=lo/\hi <=s.hi
 mem:∀x,(Th s.ah x\/(s.lo <=x/\x < s.hi)\/Th s.be x)↔(Th pre x\/(lo <=x/\x < hi))
theorem uQ{lo hi:Int}{pre:List (Int×Int)}{s:WS}{p:Int×Int}{r:List (Int×Int)}(h:Cj lo hi pre s (p::r)):Cj lo hi (pre++[p]) (M7 s p) r:=by
 obtain⟨⟨hp,e,w⟩,ca,cb,v,al,bh,n,bc,o,gl,gh,le,j⟩:=h;have i:∀x,Th (pre++[p]) x↔Th pre x\/(p.1 <=x/\x < p.2):=fun x=>by
  rw[Ci,N0];simp[GE]
 unfold M7
 by_cases h1:p.2 < s.lo
 .rw[Y3 h1];have acp:=fun q b=>n q b p YE
  refine⟨w,LV ca hp acp,cb,v,?_,bh,?_,fun a c q b=>bc a c q (Yp _ b),fun z q b=>o z q (Yp _ b),?_,?_,le,fun x=>?_⟩
  .intro q b;rcases Yq.mp b with b|b
   .exact al q b
   .rw[Yb.mp b];exact h1
  .intro q b a c;rcases Yq.mp b with b|b
   .exact n q b a (Yp _ c)
   .rw[Yb.mp b];exact e a c
  .rcases gl with g|g
   .exact .inl g
   .exact .inr fun q b=>g q (Yp _ b)
  .rcases gh with g|g
   .exact .inl g
   .exact .inr fun q b=>g q (Yp _ b)
  .rw[i];have m:=j x;show(Th (s.ah++[p]) x\/_)↔_;rw[Ci,N0];simp only[GE,WQ];constructor
   .rintro((z|z)|z)
    .rcases m.mp (.inl z) with y|y
     .exact .inl (.inl y)
     .exact .inr y
    .exact .inl (.inr z)
    .rcases m.mp (.inr z) with y|y
     .exact .inl (.inl y)
     .exact .inr y
   .rintro((z|z)|z)
    .rcases m.mpr (.inl z) with y|y
     .exact .inl (.inl y)
     .exact .inr y
    .exact .inl (.inr z)
    .rcases m.mpr (.inr z) with y|y
     .exact .inl (.inl y)
     .exact .inr y
 .rw[Y2 h1]
  by_cases h2:p.1 > s.hi
  .rw[Y3 h2];refine⟨w,ca,LV cb hp fun q b=>bc q b p YE,v,al,?_,fun q b a c=>n q b a (Yp _ c),?_,?_,?_,?_,le,fun x=>?_⟩
   .intro q b;rcases Yq.mp b with b|b
    .exact bh q b
    .rw[Yb.mp b];exact h2
   .intro q b a c;rcases Yq.mp b with b|b
    .exact bc q b a (Yp _ c)
    .rw[Yb.mp b];exact e a c
   .intro _ q b;have:=e q b;show s.hi < q.1
    lia
   .rcases gl with g|g
    .exact .inl g
    .exact .inr fun q b=>g q (Yp _ b)
   .rcases gh with g|g
    .exact .inl g
    .exact .inr fun q b=>g q (Yp _ b)
   .rw[i];have m:=j x;show(_\/_\/Th (s.be++[p]) x)↔_;rw[Ci,N0];simp only[GE,WQ];constructor
    .rintro(z|z|z|z)
     .rcases m.mp (.inl z) with y|y
      .exact .inl (.inl y)
      .exact .inr y
     .rcases m.mp (.inr (.inl z)) with y|y
      .exact .inl (.inl y)
      .exact .inr y
     .rcases m.mp (.inr (.inr z)) with y|y
      .exact .inl (.inl y)
      .exact .inr y
     .exact .inl (.inr z)
    .rintro((z|z)|z)
     .rcases m.mpr (.inl z) with y|y|y
      .exact .inl y
      .exact .inr (.inl y)
      .exact .inr (.inr (.inl y))
     .exact .inr (.inr (.inr z))
     .rcases m.mpr (.inr z) with y|y|y
      .exact .inl y
      .exact .inr (.inl y)
      .exact .inr (.inr (.inl y))
  .rw[Y2 h2];have f:s.be=[]:=by
    cases hb:s.be with
    |nil=>rfl
    |cons a t=>
     have:=o (by rw[hb];simp) p YE;exact absurd this (by lia)
   refine⟨w,ca,by rw[f];trivial,Int.lt_of_le_of_lt (VB ..) (Vd v (VC ..)),?_,by rw[f];exact fun _ h=>(nomatch h),fun q b a c=>n q b a (Yp _ c),by rw[f];exact fun _ h=>(nomatch h),fun z=>absurd f z,?_,?_,?_,fun x=>?_⟩
   .intro q b;have h3:=al q b;have h4:=n q b p YE;exact Int.lt_min.mpr ⟨h3,h4⟩
   .show min s.lo p.1=lo\/∀q∈r,min s.lo p.1 < q.1;exact .inr fun q b=>by have:=e q b;lia
   .show max s.hi p.2=hi\/∀q∈r,max s.hi p.2 < q.1;rcases gh with g|g
    .by_cases h5:p.2 <=s.hi
     .exact .inl (by lia)
     .exact .inr fun q b=>by have:=e q b;lia
    .exact .inr fun q b=>by have h6:=g q (Yp _ b);have:=e q b;lia
   .exact⟨XR (VB ..) le.1,XR le.2 (VC ..)⟩
   .rw[i];have m:=j x;rw[f]at m ⊢;show(Th s.ah x\/(min s.lo p.1 <=x/\x < max s.hi p.2)\/Th [] x)↔_;simp only[GE,WQ]at m ⊢;constructor
    .rintro(z|z)
     .rcases m.mp (.inl z) with y|y
      .exact .inl (.inl y)
      .exact .inr y
     .by_cases h7:s.lo <=x/\x < s.hi
      .rcases m.mp (.inr h7) with y|y
       .exact .inl (.inl y)
       .exact .inr y
      .exact .inl (.inr (by lia))
    .rintro((z|z)|z)
     .exact(m.mpr (.inl z)).imp id fun y=>⟨XR (VB ..) y.1,Vd y.2 (VC ..)⟩
     .exact .inr ⟨XR (Int.min_le_right ..) z.1,Vd z.2 (Int.le_max_right ..)⟩
     .exact(m.mpr (.inr z)).imp id fun y=>⟨XR (VB ..) y.1,Vd y.2 (VC ..)⟩
theorem OI{lo hi:Int}:∀{pre c:List (Int×Int)} {s:WS},Cj lo hi pre s c->Cj lo hi (pre++c) (c.foldl M7 s) []
 |pre,[],s,h=>by rw[List.append_nil];exact h
 |pre,p::r,s,h=>by
  have:=OI (uQ h);rw[List.append_assoc]at this;exact this
theorem uD{c:List (Int×Int)}{lo hi:Int}(hc:DI c)(h:lo < hi):DI (NJ c lo hi)/\∀x,Th (NJ c lo hi) x↔Th c x\/(lo <=x/\x < hi):=by
 have o:Cj lo hi [] ⟨[],lo,hi,[]⟩ c:=⟨hc,trivial,trivial,h,fun _ z=>(nomatch z),fun _ z=>(nomatch z),fun _ z=>(nomatch z),fun _ z=>(nomatch z),fun z=>absurd rfl z,.inl rfl,.inl rfl,⟨Xd _,Xd _⟩,fun x=>by simp[GE]⟩;have h1:=OI o;rw[List.nil_append]at h1;obtain⟨_,i,g,f,e,j,_,_,_,_,_,_,b⟩:=h1;unfold NJ EO;generalize List.foldl M7 ⟨[],lo,hi,[]⟩ c=s at i g f e j b ⊢;refine⟨yW (LV i f e) g fun p a q n=>?_,fun x=>?_⟩
 .have:=j q n;rcases Yq.mp a with a|a
  .have:=e p a;lia
  .rw[Yb.mp a];exact this
 .rw[Ci,Ci,N0,<-b x,or_assoc];simp[GE]
def total(c:List (Int×Int)):Int:=(c.map fun p=>p.2 - p.1).sum
def TK(e:Int)(re:Int):List (Int×Int)->List (Int×Int)
 |[]=>if re < e then [(re,e)] else []
 |p::r=>if e <=p.1 then(if re < e then [(re,e)] else []) else(if re < p.1 then [(re,p.1)] else [])++TK e p.2 r
theorem dG{e:Int}:∀{c:List (Int×Int)} {re:Int},DI c->(∀p∈c,re <=p.1)->DI (TK e re c)/\(∀q∈TK e re c,re <=q.1)/\∀x,Th (TK e re c) x↔(re <=x/\x < e/\¬Th c x):=by
 have last:∀ (c:List (Int×Int)) (re:Int),(∀x,x < e->¬Th c x)->DI (if re < e then [(re,e)] else [])/\(∀q∈(if re < e then [(re,e)] else []),re <=q.1)/\∀x,Th (if re < e then [(re,e)] else []) x↔(re <=x/\x < e/\¬Th c x):=by
  intro c re j
  by_cases h:re < e
  .rw[Y3 h];refine⟨⟨h,fun _ z=>(nomatch z),trivial⟩,fun q a=>by rw[Yb.mp a];exact Xd _,fun x=>?_⟩;rw[N0];simp only[GE,WQ];exact⟨fun z=>⟨z.1,z.2,j x z.2⟩,fun z=>⟨z.1,z.2.1⟩⟩
  .rw[Y2 h];refine⟨trivial,fun _ z=>(nomatch z),fun x=>⟨fun z=>absurd z (GE _),fun z=>by lia⟩⟩
 intro c
 induction c with
 |nil=>intro re _ _;exact last [] re fun x _=>GE x
 |cons p r ih=>
  intro re j v;obtain⟨h1,h2,h3⟩:=j;unfold TK
  by_cases he:e <=p.1
  .rw[Y3 he];refine last (p::r) re fun x s w=>?_
   rcases N0.mp w with z|z
   .lia
   .have:=Z1 h2 z;lia
  .rw[Y2 he];obtain⟨o,i,n⟩:=ih h3 (re:=p.2) fun q a=>Int.le_of_lt (h2 q a)
   have hp:=v p YE
   by_cases hr:re < p.1
   .rw[Y3 hr];refine⟨⟨hr,fun q a=>by have:=i q a;show p.1 < q.1;lia,o⟩,fun q a=>?_,fun x=>?_⟩
    .rcases Ym.mp a with rfl|a
     .exact Xd _
     .have:=i q a;lia
    .show Th ((re,p.1)::TK e p.2 r) x↔_;rw[N0,n,N0];constructor
     .rintro(z|⟨g,f,b⟩)
      .refine⟨z.1,by have:=z.2;lia,?_⟩;rintro(y|y)
       .have:=z.2;lia
       .have:=Z1 h2 y;have:=z.2;lia
      .exact⟨by lia,f,by rintro(y|y);lia;exact b y⟩
     .rintro⟨g,f,b⟩
      by_cases s:x < p.1
      .exact .inl ⟨g,s⟩
      .exact .inr ⟨by
        by_cases hx2:x < p.2
        .exact absurd (.inl ⟨by lia,hx2⟩) b
        .lia, f, fun y => b (.inr y)⟩
   .rw[Y2 hr];refine⟨o,fun q a=>by have:=i q a;lia,fun x=>?_⟩;rw[List.nil_append,n,N0];constructor
    .rintro⟨g,f,b⟩;exact⟨by lia,f,by rintro(y|y);lia;exact b y⟩
    .rintro ⟨g, f, b⟩;exact ⟨by
      by_cases hx2:x < p.2
      .exact absurd (.inl ⟨by lia,hx2⟩) b
      .lia, f, fun y => b (.inr y)⟩
def Tl(re:Int):List (Int×Int)->Int
 |[]=>re
 |p::r=>Tl p.2 r
theorem Qx:∀{c:List (Int×Int)} {re:Int},DI c->(∀x,Th c x->x < Tl re c)/\(c≠[]->Th c (Tl re c - 1))/\(∀p∈c,p.1 < Tl re c)
 |[],re,_=>⟨fun x z=>absurd z (GE _),fun z=>absurd rfl z,fun _ z=>(nomatch z)⟩
 |p::r,re,hc=>by
  obtain⟨h1,h2,h3⟩:=hc;obtain⟨f,e,b⟩:=Qx (re:=p.2) h3;have g:p.2 <=Tl p.2 r:=by
   cases r with
   |nil=>exact Xd _
   |cons q t=>have:=b q YE;have:=h2 q YE;lia
  refine⟨fun x z=>?_,fun _=>?_,fun q a=>?_⟩
  .show x < Tl p.2 r;rcases N0.mp z with y|y
   .lia
   .exact f x y
  .show Th (p::r) (Tl p.2 r - 1);rw[N0];cases r with
   |nil=>exact .inl ⟨by show p.1 <=p.2 - 1;lia,by show p.2 - 1 < p.2;lia⟩
   |cons q t=>exact .inr (e (by simp))
  .show q.1 < Tl p.2 r;rcases Ym.mp a with rfl|a
   .lia
   .exact b q a
def Rk(e:Option Int)(p:Int×Int):Bool:=match e with
 |none=>false
 |some x=>decide (x <=p.1)
def HG(e:Option Int)(re:Int):List (Int×Option Int):=match e with
 |none=>[(re,none)]
 |some x=>if re < x then [(re,some x)] else []
def Ma(e:Option Int)(re:Int):List (Int×Int)->List (Int×Option Int)
 |[]=>HG e re
 |p::r=>if Rk e p=true then HG e re else(if re < p.1 then [(re,some p.1)] else [])++Ma e p.2 r
def DN(c:List (Int×Int)):List (Int×Option Int):=c.map fun p=>(p.1,some p.2)
theorem Bv(c d:List (Int×Int)):DN (c++d)=DN c++DN d:=Yh
theorem Zx(e:Int):∀ (c:List (Int×Int)) (re:Int),Ma (some e) re c=DN (TK e re c)
 |[],re=>by
  show(if re < e then [(re,some e)] else [])=DN (if re < e then [(re,e)] else [])
  split <;> rfl
 |p::r,re=>by
  unfold Ma TK;have es:Rk (some e) p=decide (e <=p.1):=rfl;rw[es]
  by_cases h:e <=p.1
  .rw[Y3 (by simpa using h),Y3 h];show(if re < e then [(re,some e)] else [])=_
   split <;> rfl
  .rw[Y2 (by simpa using h),Y2 h,Zx e r p.2,Bv]
   congr 1
   split <;> rfl
theorem Sm:∀{c:List (Int×Int)} {re:Int},DI c->Ma none re c=DN (TK (Tl re c) re c)++[(Tl re c,none)]
 |[],re,_=>by
  show [(re,none)]=DN (if re < re then [(re,re)] else [])++[(re,none)];rw[Y2 (by lia)];rfl
 |p::r,re,hc=>by
  have h3:=(Qx (re:=re) hc).2.2 p YE;unfold Ma TK;rw[Y2 (show ¬Rk none p=true from Yg),Sm (re:=p.2) hc.2.2];have a:Tl re (p::r)=Tl p.2 r:=rfl;rw[a]at h3 ⊢;rw[Y2 (show ¬Tl p.2 r <=p.1 by lia),Bv,List.append_assoc]
  congr 1
  split <;> rfl
def oV:Option Int->V
 |none=>.non
 |some n=>.int n
def Z5(H:Hp)(x:V)(p:Int×Option Int):Prop:=∃t,x= .ref t/\H t=some (.tup [.int p.1,oV p.2])
def Tz(H:Hp)(xs:List V)(c:List (Int×Option Int)):Prop:=Paired (fun x p=>Z5 H x p) xs c
def Tk(H:Hp)(l:Jg)(c:List (Int×Option Int)):Prop:=∃xs,H l=some (.lst xs)/\Tz H xs c
def BW(H G:Hp):Prop:=∀t xs,H t=some (.tup xs)->G t=some (.tup xs)
section
variable{H G J:Hp}{l l':Jg}{xs ys:List V}{c d:List (Int×Option Int)}
theorem BU(s:Jo H G):BW H G:=fun t xs e=>s t _ e
theorem My(b:Nd l H G)(h:H l=some (.lst xs)):BW H G:=fun t ys e=>b t _ e (Jm e h nofun)
theorem El{kvs:List (JL×V)}(b:Nd l H G)(h:H l=some (.dK kvs)):BW H G:=fun t ys e=>b t _ e (Jm e h nofun)
theorem Tz.tk(k:BW H G)(h:Tz H xs c):Tz G xs c:=by
 induction h with
 |nil=>exact .nil
 |cons r _ ih=>obtain⟨t,e,z⟩:=r;exact .cons ⟨t,e,k _ _ z⟩ ih
theorem Tz.len(h:Tz H xs c):xs.length=c.length:=Paired.length h
theorem Tz.app(h:Tz H xs c)(k:Tz H ys d):Tz H (xs++ys) (c++d):=by
 induction h with
 |nil=>exact k
 |cons r _ ih=>exact .cons r ih
theorem Tz.get(h:Tz H xs c){i:Nat}{x:V}(e:xs[i]?=some x):∃p,c[i]?=some p/\Z5 H x p:=by
 induction h generalizing i with
 |nil=>simp at e
 |cons r _ ih=>
  cases i with
  |zero=>simp at e;subst e;exact⟨_,rfl,r⟩
  |succ i=>simp at e;simpa using ih e
theorem Tk.same(s:Jo H G)(h:Tk H l c):Tk G l c:=by
 obtain⟨xs,e,k⟩:=h;exact⟨xs,s _ _ e,k.tk (BU s)⟩
theorem Cf(c:List (Int×Int)):(DN c).length=c.length:=Y1 ..
theorem Q5{c:List (Int×Int)}{i:Nat}{p:Int×Option Int}(e:(DN c)[i]?=some p):∃q,c[i]?=some q/\p=(q.1,some q.2):=by
 unfold DN at e;rw[Ya]at e;cases h:c[i]? with
 |none=>rw[h]at e;cases e
 |some q=>rw[h]at e;exact⟨q,rfl,(by simpa using e.symm)⟩
end
section
variable{P:J9}{w:Jd}{K:Je}{mg:J5}{base:Jj}
inductive SV(vs:List V)(H:Hp)(Q:VK)(E:XK):Prop|mk (l t:Jg) (c:List (Int×Int)) (lo hi:Int) (_:vs=[.ref l,.ref t]) (_:Tk H l (DN c)) (_:c.length <=1000) (_:H t=some (.tup [.int lo,.int hi])) (_:∀l' G,H l'=none->Jo H G->Tk G l' (DN (NJ c lo hi))->Q (.ref l') G)
abbrev Oa:Stmt:=top 34
theorem EN:Nv ["cover","span","low","high","ahead","behind","one"] ["cover","span"] (Jl Oa):=by walk_at"e"
theorem uI{f:Jg}{fd:Jb}(F:NK K "with_span" "with_span" Oa f fd)(B:Bt mg):Ju P w K mg base N7 1 f fd ["cover","span"] SV:=by
 refine F.ok EN (fun vs H Q E h=>?_) (fun cdv A outer s H vs Q E hr h=>?_)
 .obtain⟨l,t,c,lo,hi,rfl,_⟩:=h;rfl
 .obtain⟨l,t,c,lo,hi,rfl,⟨xs,hl,hc⟩,hz,ht,q⟩:=h;have hlen:xs.length=c.length:=by rw[hc.len,Cf]
  refine⟨_,(JE (Tr 2 EN (M5 K (Jn 1) JI)) (JE (Tr 3 EN (M5 K (Jn 1) JI)) (JE (Tr 4 EN (Dn Jt)) (JE (Tr 5 EN (Dn Jt)) (JE (Ed Xh rfl (GS (K:=K) rfl (Jn 0)) (Dr 6 EN) (JM (Tg (Tx (NL C5) (M5 K (Jn 6) JI) (Jn 2)) (JM (D8 (DQ (K:=K) rfl YW YY YZ (Ei Em) (Jn 4) (Jv 6 Jt)))) (JM (Tg (Tx (NL Bp) (M5 K (Jn 6) JI) (Jn 3)) (JM (D8 (DQ (K:=K) rfl YW YY YZ (Ei Em) (Jn 5) (Jv 6 Jt)))) (JE (Tr 2 EN (Tu (bV rfl) B.min (Jv 2 (Dq (M5 K (Jn 6) JI) Jt)))) (JM (Tr 3 EN (Tu (LB rfl) B.max (Jv 3 (Dq (M5 K (Jn 6) JI) Jt))))))))))) (JM (Nk (Na (Hl CQ) (Na (Hl CQ) (Jn 4) (Dn (Nc (hs:=GM) (MR (Jv 2 (Jv 3 Jt))) Jt))) (Jn 5))))))))),?_⟩;walk_at"r";refine⟨_,N8.of ht,_,rfl,_,N8.of ht,_,rfl,Ni (by simp),fun la G1 hla s1 h1=>⟨Ni (by simp),fun lb G2 hlb s2 h2=>⟨⟨_,JA.of (s2 l _ (s1 l _ hl))⟩,?_⟩⟩⟩;have nab:la≠lb:=Te h1 hlb;have s02:=s1.trans s2;obtain⟨Pv,o⟩:∃Pv:Nat->L2.St->Hp->Prop,Pv=fun i σ' G=>∃ (st:WS) (v:Option V) (xa xb:List V),st=(c.take i).foldl M7 ⟨[],lo,hi,[]⟩/\σ'=[some (.ref l),some (.ref t),some (.int st.lo),some (.int st.hi),some (.ref la),some (.ref lb),v]/\Jo H G/\
   G la=some (.lst xa)/\Tz G xa (DN st.ah)/\G lb=some (.lst xb)/\Tz G xb (DN st.be)/\st.ah.length <=i/\st.be.length <=i:=⟨_,rfl⟩
  have hlb0:H lb=none:=s1.free hlb;refine Bm (xs:=xs) Pv (by rw[o];exact⟨_,none,[],[],rfl,rfl,s02,s2 la _ h1,.nil,h2,.nil,Y9 _,Y9 _⟩) ?_ ?_ ?_ <;> rw[o]
  .rintro i σ' G _ ⟨st,v,xa,xb,_,_,r,_⟩;exact JA.of (r l _ hl)
  .rintro i x σ' G hx ⟨st,v,xa,xb,est,rfl,r,ha,j,hb,g,la1,lb1⟩;rw[<-o];have hi':i < xs.length:=(Y4.mp hx).1;obtain⟨p',hp',t1,rfl,ht1⟩:=hc.get hx;obtain⟨p,hp,rfl⟩:=Q5 hp';have b:=r t1 _ ht1;have etake:c.take (i+ 1)=c.take i++[p]:=by rw[YQ,hp];rfl
   have z:(c.take (i+ 1)).foldl M7 ⟨[],lo,hi,[]⟩=M7 st p:=by rw[etake,List.foldl_append,<-est];rfl
   walk_at"r";refine⟨_,N8.of b,_,rfl,_,rfl,DX (fun h1=>?_) (fun h1=>?_)⟩
   .have a:p.2 < st.lo:=by simpa using h1
    refine⟨.inl ⟨rfl,_,JA.of ha⟩,_,ha,Rq (by have:=j.len;rw[Cf]at this;lia),fun G3 b3 h3=>?_⟩;have tk:=My b3 ha;rw[o];refine⟨M7 st p,some (.ref t1),xa++[.ref t1],xb,z.symm,?_,r.butNew b3 hla,h3,?_,b3 lb _ hb (Ne.symm nab),?_,?_,?_⟩
    .unfold M7;rw[Y3 a]
    .have e:(M7 st p).ah=st.ah++[p]:=by unfold M7;rw[Y3 a]
     rw[e,Bv];exact(j.tk tk).app (.cons ⟨t1,rfl,tk _ _ b⟩ .nil)
    .have e:(M7 st p).be=st.be:=by unfold M7;rw[Y3 a]
     rw[e];exact g.tk tk
    .have e:(M7 st p).ah=st.ah++[p]:=by unfold M7;rw[Y3 a]
     rw[e];simp;lia
    .have e:(M7 st p).be=st.be:=by unfold M7;rw[Y3 a]
     rw[e];lia
   .have a:¬p.2 < st.lo:=by simpa using h1
    refine⟨_,N8.of b,_,rfl,_,rfl,DX (fun h2=>?_) (fun h2=>?_)⟩
    .have h2':p.1 > st.hi:=by simpa using h2
     refine⟨.inl ⟨rfl,_,JA.of hb⟩,_,hb,Rq (by have:=g.len;rw[Cf]at this;lia),fun G3 b3 h3=>?_⟩;have tk:=My b3 hb;have n:M7 st p={st with be:=st.be++[p]}:=by unfold M7;rw[Y2 a,Y3 h2']
     rw[o];refine⟨M7 st p,some (.ref t1),xa,xb++[.ref t1],z.symm,by rw[n],r.butNew b3 hlb0,b3 la _ ha nab,by rw[n];exact j.tk tk,h3,?_,by rw[n];show st.ah.length <=i+ 1;lia,by rw[n];show(st.be++[p]).length <=i+ 1;simp;lia⟩;rw[n];show Tz G3 _ (DN (st.be++[p]));rw[Bv];exact(g.tk tk).app (.cons ⟨t1,rfl,tk _ _ b⟩ .nil)
    .have h2':¬p.1 > st.hi:=by simpa using h2
     have n:M7 st p={st with lo:=min st.lo p.1,hi:=max st.hi p.2}:=by unfold M7;rw[Y2 a,Y2 h2']
     refine⟨_,N8.of b,_,rfl,_,rfl,_,N8.of b,_,rfl,_,rfl,?_⟩;rw[o];refine⟨M7 st p,some (.ref t1),xa,xb,z.symm,?_,r,ha,by rw[n];exact j,hb,by rw[n];exact g,by rw[n];show st.ah.length <=i+ 1;lia,by rw[n];show st.be.length <=i+ 1;lia⟩;rw[n];have e1:(if p.1 < st.lo then p.1 else st.lo)=min st.lo p.1:=by split <;> lia
     have e2:(if p.2 > st.hi then p.2 else st.hi)=max st.hi p.2:=by split <;> lia
     rw[e1,e2]
  .rintro σ' G ⟨st,v,xa,xb,est,rfl,r,ha,j,hb,g,la1,lb1⟩;walk_at"r";have a:=j.len;have h2':=g.len;rw[Cf]at a h2';refine⟨Ni (by simp),fun t2 G3 ht2 s3 h3=>⟨Ni (by simp),fun l3 G4 hl3 s4 h4=>⟨_,s4 la _ (s3 la _ ha),_,h4,Ni (by simp;lia),fun l5 G5 hl5 s5 h5=>⟨_,h5,_,s5 lb _ (s4 lb _ (s3 lb _ hb)),Ni (by simp;lia),fun l6 G6 hl6 s6 h6=>?_⟩⟩⟩⟩;have s36:=(s4.trans s5).trans s6;have sG6:=s3.trans s36;refine q l6 G6 ?_ (r.trans sG6) ⟨_,h6,?_⟩
   .exact r.free (s3.free (s4.free (s5.free hl6)))
   .have e:NJ c lo hi=st.ah++[(st.lo,st.hi)]++st.be:=by
     unfold NJ EO;rw[est,show c.take xs.length=c by rw[hlen,Vq]]
    rw[e,Bv,Bv];exact((j.tk (BU sG6)).app (.cons ⟨t2,rfl,s36 t2 _ h3⟩ .nil)).app (g.tk (BU sG6))
inductive Pq(vs:List V)(H:Hp)(Q:VK)(E:XK):Prop|mk (l:Jg) (c:List (Int×Int)) (e:Option Int) (_:vs=[.ref l,oV e]) (_:Tk H l (DN c)) (_:c.length <=1000) (_:∀l' G,H l'=none->Jo H G->Tk G l' (Ma e 0 c)->Q (.ref l') G)
theorem rB{e:Option Int}{re:Int}{p:Int×Int}{r:List (Int×Int)}(h:Rk e p=true):Ma e re (p::r)=Ma e re []:=by
 show(if Rk e p=true then _ else _)=_;rw[Y3 h];rfl
theorem wT{e:Option Int}{re:Int}{p:Int×Int}{r:List (Int×Int)}(h:Rk e p=false):Ma e re (p::r)=(if re < p.1 then [(re,some p.1)] else [])++Ma e p.2 r:=by
 show(if Rk e p=true then _ else _)=_;rw[Y2 (by rw[h];exact Yg)]
abbrev IR:Stmt:=top 35
theorem BC:Nv ["cover","end","told","reached","low","high"] ["cover","end"] (Jl IR):=by walk_at"e"
theorem ZG{f:Jg}{fd:Jb}(F:NK K "lacking" "lacking" IR f fd):Ju P w K mg base N7 1 f fd ["cover","end"] Pq:=by
 refine F.ok BC (fun vs H Q E h=>?_) (fun cdv A outer s H vs Q E hr h=>?_)
 .obtain⟨l,c,e,rfl,_⟩:=h;rfl
 .obtain⟨l,c,e,rfl,⟨xs,hl,hc⟩,hz,q⟩:=h;have hlen:xs.length=c.length:=by rw[hc.len,Cf]
  refine⟨_,(JE (Tr 2 BC (Dn Jt)) (JE (Tr 3 BC JI) (JE (Ed Xh rfl (GS (K:=K) rfl (Jn 0)) (ET (K:=K) (n:=2) rfl rfl (DK (Dr 4 BC) (DK (Dr 5 BC) EJ))) (JE (Tg (PW.pt (A2 (Tx AJ (Jn 1) DY) (Ab (Tx (NL Hb) (Jn 4) (Jn 1))))) (JM bS) TC) (JE (FK (Tg (Tx (NL Bp) (Jn 4) (Jn 3)) (JM (D8 (DQ (K:=K) rfl YW YY YZ (Ei Em) (Jn 2) (Nc (hs:=GM) (MR (Jv 3 (Jv 4 Jt))) Jt)))) TC)) (JM (Tr 3 BC (Jn 5)))))) (JE (FK (Tg (Tx IQ (Jn 1) DY) (JM (D8 (DQ (K:=K) rfl YW YY YZ (Ei Em) (Jn 2) (Nc (hs:=GM) (MR (Jv 3 (TH DY Jt))) Jt)))) (JM (Tg (Tx (NL C5) (Jn 3) (Jn 1)) (JM (D8 (DQ (K:=K) rfl YW YY YZ (Ei Em) (Jn 2) (Nc (hs:=GM) (MR (Jv 3 (Jv 1 Jt))) Jt)))) TC)))) (JM (Nk (Jn 2))))))),?_⟩;refine Nl fun N z=>?_
  walk_at"r";refine⟨Ni (by simp),fun lt G1 hlt s1 h1=>z _ _ ?_⟩;clear z N;refine Nl fun N z=>?_
  walk_at"r";refine z _ _ ?_;clear z N;refine Nl fun N z=>?_
  have tail:∀ (t:List (Int×Option Int)) (a:Int) (G:Hp) (o:List V) (v4 v5:Option V),Jo H G->G lt=some (.lst o)->Tz G o t->t.length <=1001->Ma e 0 c=t++Ma e a []->
    N [some (.ref l),some (oV e),some (.ref lt),some (.int a),v4,v5] G:=by
   intro t a G o v4 v5 r v ht hl2 b;refine z _ _ ?_;have hxl:=ht.len;refine Nl fun N z=>?_
   obtain⟨R,eR⟩:∃R:L2.St->Hp->Prop,R=fun σ' G'=>∃j:List V,σ'=[some (.ref l),some (oV e),some (.ref lt),some (.int a),v4,v5]/\Jo H G'/\G' lt=some (.lst j)/\Tz G' j (Ma e 0 c):=⟨_,rfl⟩
   refine⟨R,?_,fun σ' G' hR=>z _ _ ?_⟩
   rotate_left
   .rw[eR]at hR;obtain⟨j,rfl,sG',hx',ht'⟩:=hR;walk_at"r";exact q lt G' hlt sG' ⟨j,hx',ht'⟩
   clear z;cases e with
   |none=>
    have g:Ma none 0 c=t++[(a,none)]:=b;walk_at"r";simp only[oV,X9,if_true];refine⟨.inl ⟨rfl,_,JA.of v⟩,Ni (by simp),fun t2 G2 ht2 s2 h2=>⟨_,s2 lt _ v,Rq (by lia),fun G3 b3 h3=>?_⟩⟩;have tk:=My b3 (s2 lt _ v);rw[eR];refine⟨_,rfl,(r.trans s2).butNew b3 hlt,h3,?_⟩;rw[g];exact((ht.tk (BU s2)).tk tk).app (.cons ⟨t2,rfl,tk _ _ h2⟩ .nil)
   |some x=>
    have g:Ma (some x) 0 c=t++(if a < x then [(a,some x)] else []):=b;walk_at"r";simp only[oV,reduceCtorEq,X4,Bool.false_eq_true,if_false];refine⟨_,rfl,DX (fun h=>?_) (fun h=>?_)⟩
    .have h':a < x:=by simpa using h
     rw[Y3 h']at g;refine⟨.inl ⟨rfl,_,JA.of v⟩,Ni (by simp),fun t2 G2 ht2 s2 h2=>⟨_,s2 lt _ v,Rq (by lia),fun G3 b3 h3=>?_⟩⟩;have tk:=My b3 (s2 lt _ v);rw[eR];refine⟨_,rfl,(r.trans s2).butNew b3 hlt,h3,?_⟩;rw[g];exact((ht.tk (BU s2)).tk tk).app (.cons ⟨t2,rfl,tk _ _ h2⟩ .nil)
    .have h':¬a < x:=by simpa using h
     rw[Y2 h',List.append_nil]at g;rw[eR];exact⟨o,rfl,r,v,by rw[g];exact ht⟩
  walk_at"r";refine⟨⟨_,JA.of (s1 l _ hl)⟩,?_⟩;obtain⟨Pv,ePv⟩:∃Pv:Nat->L2.St->Hp->Prop,Pv=fun i σ' G=>∃ (t:List (Int×Option Int)) (a:Int) (o:List V) (v4 v5:Option V),σ'=[some (.ref l),some (oV e),some (.ref lt),some (.int a),v4,v5]/\Jo H G/\G lt=some (.lst o)/\Tz G o t/\t.length <=i/\
   Ma e 0 c=t++Ma e a (c.drop i):=⟨_,rfl⟩
  refine Bm (xs:=xs) Pv (by rw[ePv];exact⟨[],0,[],none,none,rfl,s1,h1,.nil,Y9 _,by simp⟩) ?_ ?_ ?_ <;> rw[ePv]
  .rintro i σ' G _ ⟨t,a,o,v4,v5,_,r,_⟩;exact JA.of (r l _ hl)
  .rintro i x σ' G v ⟨t,a,o,v4,v5,rfl,r,ha,hca,hti,b⟩;rw[<-ePv];have hi':i < xs.length:=(Y4.mp v).1;obtain⟨p',hp',t1,rfl,ht1⟩:=hc.get v;obtain⟨p,hp,rfl⟩:=Q5 hp';have ht1':=r t1 _ ht1;have edrop:c.drop i=p::c.drop (i+ 1):=by
    rw[X8 (by lia)]
    congr 1
    have:=Y7 (l:=c) (i:=i) (by lia);rw[this]at hp;exact Option.some.inj hp
   rw[edrop]at b;refine⟨t1,_,rfl,N8.of ht1',rfl,_,_,rfl,_,_,rfl,rfl,?_⟩;refine Nl fun N2 hN2=>?_
   have brk:Rk e p=true->N [some (.ref l),some (oV e),some (.ref lt),some (.int a),some (.int p.1),some (.int p.2)] G:=fun hs=>by
    rw[rB hs]at b;exact tail t a G o _ _ r ha hca (by lia) b
   have goOn:Rk e p=false->N2 [some (.ref l),some (oV e),some (.ref lt),some (.int a),some (.int p.1),some (.int p.2)] G:=fun hs=>by
    rw[wT hs]at b;have hxl:=hca.len;refine hN2 _ _ ?_;refine Nl fun N3 hN3=>?_
    obtain⟨R,eR⟩:∃R:L2.St->Hp->Prop,R=fun σ' G'=>∃ (t':List (Int×Option Int)) (j:List V),σ'=[some (.ref l),some (oV e),some (.ref lt),some (.int a),some (.int p.1),some (.int p.2)]/\Jo H G'/\G' lt=some (.lst j)/\Tz G' j t'/\t'.length <=i+ 1/\Ma e 0 c=t'++Ma e p.2 (c.drop (i+ 1)):=⟨_,rfl⟩
    refine⟨R,?_,fun σ' G' hR=>hN3 _ _ ?_⟩
    rotate_left
    .rw[eR]at hR;obtain⟨t',j,rfl,sG',hx',ht',hl',g⟩:=hR;walk_at"r";rw[ePv];exact⟨t',p.2,j,_,_,rfl,sG',hx',ht',hl',g⟩
    walk_at"r";refine DX (fun h=>?_) (fun h=>?_)
    .have h':a < p.1:=by simpa using h
     rw[Y3 h']at b;refine⟨.inl ⟨rfl,_,JA.of ha⟩,Ni (by decide),fun t2 G2 ht2 s2 h2=>⟨_,s2 lt _ ha,Rq (by lia),fun G3 b3 h3=>?_⟩⟩;have tk:=My b3 (s2 lt _ ha);rw[eR];refine⟨t++[(a,some p.1)],_,rfl,(r.trans s2).butNew b3 hlt,h3,?_,by simp;lia,by rw[b,List.append_assoc]⟩;exact((hca.tk (BU s2)).tk tk).app (.cons ⟨t2,rfl,tk _ _ h2⟩ .nil)
    .have h':¬a < p.1:=by simpa using h
     rw[Y2 h',List.nil_append]at b;rw[eR];exact⟨t,o,rfl,r,ha,hca,by lia,b⟩
   walk_at"r";cases e with
   |none=>
    simp only[oV,X9,Bool.not_true,Bool.false_eq_true,if_false];exact goOn rfl
   |some x=>
    simp only[oV,reduceCtorEq,X4,Bool.not_false,if_true];refine⟨_,rfl,DX (fun h=>?_) (fun h=>?_)⟩
    .exact brk h
    .exact goOn (by simpa[Rk] using h)
  .rintro σ' G ⟨t,a,o,v4,v5,rfl,r,ha,hca,hti,b⟩;exact tail t a G o v4 v5 r ha hca (by lia) (by rw[b,Vm (by lia)])
end
structure RS where
 st:List (Int×Int)
 cv:List (Int×Int)
 en:Option Int
 re:Int
def GV(st:List (Int×Int)):List (JL×V):=st.map fun p=>(Sum.inl p.1,V.int p.2)
def N9(st:List (Int×Int))(n:Int):Option Int:=(st.find? fun p=>decide (p.1=n)).map (·.2)
def GQ(st:List (Int×Int))(n b:Int):List (Int×Int):=if(st.any fun p=>decide (p.1=n))=true then st.map (fun p=>if p.1=n then(p.1,b) else p) else st++[(n,b)]
theorem BI(st:List (Int×Int))(n:Int):JP (GV st) (Sum.inl n)=(N9 st n).map V.int:=by
 unfold JP GV N9
 induction st with
 |nil=>rfl
 |cons p r ih=>
  by_cases h:p.1=n
  .simp[YS,h]
  .have h':¬(Sum.inl p.1:JL)=Sum.inl n:=fun z=>h (Vk z)
   simp only[List.map_cons,YS,Yz h,Yz h'];exact ih
theorem IT(st:List (Int×Int))(n b:Int):MY (GV st) (Sum.inl n) (V.int b)=GV (GQ st n b):=by
 have e:((GV st).any fun a=>decide (a.1=(Sum.inl n:JL)))=(st.any fun p=>decide (p.1=n)):=by
  unfold GV;rw[J1]
  congr 1
  funext p
  show decide ((Sum.inl p.1:JL)=Sum.inl n)=decide (p.1=n);rw[YF,Yd,Yd];exact⟨Vk,YR _⟩
 unfold MY GQ;rw[e]
 by_cases h:(st.any fun p=>decide (p.1=n))=true
 .rw[Y3 h,Y3 h];unfold GV;rw[Yw,Yw];apply YU;intro p _;show(if(Sum.inl p.1:JL)=Sum.inl n then((Sum.inl p.1:JL),V.int b) else((Sum.inl p.1:JL),V.int p.2))=((Sum.inl (if p.1=n then(p.1,b) else p).1:JL),V.int (if p.1=n then(p.1,b) else p).2)
  by_cases hp:p.1=n
  .rw[Y3 hp,Y3 (YR _ hp)]
  .rw[Y2 hp,Y2 (fun z=>hp (Vk z))]
 .rw[Y2 h,Y2 h];unfold GV;rw[Yh];rfl
theorem P3(st:List (Int×Int))(n b m:Int):N9 (GQ st n b) m=if m=n then some b else N9 st m:=by
 have h:=YR (fun k=>JP k (Sum.inl m)) (IT st n b);rw[u8,BI,BI]at h
 by_cases hm:m=n
 .rw[Y3 hm];rw[Y3 (YR _ hm)]at h;cases e:N9 (GQ st n b) m with
  |none=>rw[e]at h;cases h
  |some x=>rw[e]at h;have:=Option.some.inj h;rw[V.int.injEq]at this;rw[<-this]
 .rw[Y2 hm];rw[Y2 (fun z=>hm (Vk z))]at h;cases e:N9 (GQ st n b) m with
  |none=>
   rw[e]at h;cases e2:N9 st m with
   |none=>rfl
   |some y=>rw[e2]at h;cases h
  |some x=>
   rw[e]at h;cases e2:N9 st m with
   |none=>rw[e2]at h;cases h
   |some y=>rw[e2]at h;have:=Option.some.inj h;rw[V.int.injEq]at this;rw[this]
theorem jU(st:List (Int×Int))(n b:Int):(GQ st n b).length <=st.length+ 1:=by
 unfold GQ;split
 .rw[Y1];lia
 .rw[List.length_append];exact Y9 _
def Nq(la:Bool):List (Int×Int)->Int->List Int->List (Int×Int)
 |st,_,[]=>st
 |st,n,b::bs=>Nq la (if la=true\/(N9 st n).isSome=false then GQ st n b else st) (n+ 1) bs
def strange(rs:RS)(d:PD):Bool:=
 if d.mo=true then(match rs.en with|some e=>decide (e <=d.at'+ d.ns.length)|none=>false)
 else(match rs.en with|some e=> !decide (d.at'+ d.ns.length=e)|none=>decide (d.at'+ d.ns.length <=rs.re))
def Ts(st:List (Int×Int)):Int->List Int->Option Int
 |_,[]=>none
 |n,b::bs=>match N9 st n with|some x=>if x=b then Ts st (n+ 1) bs else some n|none=>Ts st (n+ 1) bs
def MM(la:Bool)(rs:RS)(d:PD):RS:=
 ⟨Nq la rs.st d.at' d.ns,NJ rs.cv d.at' (d.at'+ d.ns.length),if d.mo=true then rs.en else some (d.at'+ d.ns.length),if d.mo=true then max rs.re (d.at'+ d.ns.length) else rs.re⟩
theorem Oz(la:Bool):∀ (bs:Jh) (st:List (Int×Int)) (n:Int),(Nq la st n bs).length <=st.length+ bs.length
 |[],st,n=>Y9 _
 |b::bs,st,n=>by
  have h:=Oz la bs (if la=true\/(N9 st n).isSome=false then GQ st n b else st) (n+ 1);have h2:=jU st n b;show(Nq la _ _ bs).length <=st.length+ (bs.length+ 1)
  split at h <;> rename_i hc
  .rw[Y3 hc];lia
  .rw[Y2 hc];lia
section
variable{P:J9}{w:Jd}{K:Je}{mg:J5}{base:Jj}
structure GO(K:Je)(C:Jg):Prop where
 cl:Db K C
 rule:Jx K C "rule"
 standing:Jx K C "standing"
 cover:Jx K C "cover"
 ending:Jx K C "ending"
 reach:Jx K C "reach"
structure NU(C:Jg)(H:Hp)(p a l:Jg)(ru:Str)(rs:RS):Prop where
 ex:∃dx fs,H p=some (.ins C dx fs)/\fs.length <=5/\fs.lookup ("rule":Str)=some (.str ru)/\fs.lookup ("standing":Str)=some (.ref a)/\fs.lookup ("cover":Str)=some (.ref l)/\fs.lookup ("ending":Str)=some (oV rs.en)/\fs.lookup ("reach":Str)=some (.int rs.re)/\
  fs.lookup ("is_strange":Str)=none/\fs.lookup ("unlike_number":Str)=none/\fs.lookup ("take":Str)=none/\fs.lookup ("missing":Str)=none/\fs.lookup ("taken_body":Str)=none/\fs.lookup ("answer_to":Str)=none/\fs.lookup ("size":Str)=none/\fs.lookup ("number":Str)=none
 dk:H a=some (.dK (GV rs.st))
 cv:Tk H l (DN rs.cv)
theorem NU.mono{C:Jg}{H G:Hp}{p a l:Jg}{ru:Str}{rs:RS}(s:Jo H G)(h:NU C H p a l ru rs):NU C G p a l ru rs:=by
 obtain⟨⟨dx,fs,b,r⟩,c,e⟩:=h;exact⟨⟨dx,fs,s _ _ b,r⟩,s _ _ c,e.same s⟩
variable{C p a l:Jg}{H:Hp}{ru:Str}{rs:RS}
theorem NU.ne{CP q b:Jg}{d:PD}(h:NU C H p a l ru rs)(k:NH CP H q b d):q≠p/\b≠p/\q≠a/\b≠a:=by
 obtain⟨dx,fs,e,_,_,_,_,_,_,_,_,_,_,_,_,_,j⟩:=h.ex;obtain⟨n,fs',c,i,_⟩:=k.ats;have g:=k.bd;have f:=h.dk;refine⟨fun z=>?_,Jm g e nofun,Jm c f nofun,Jm g f nofun⟩;rw[z,e]at c;cases c;rw[j]at i;cases i
theorem ZA(la:Bool):∀ (bs:Jh) (st:List (Int×Int)) (n b:Int),Nq la st n (bs++[b])=(if la=true\/(N9 (Nq la st n bs) (n+ bs.length)).isSome=false then GQ (Nq la st n bs) (n+ bs.length) b else Nq la st n bs)
 |[],st,n,b=>by
  show Nq la (if la=true\/(N9 st n).isSome=false then GQ st n b else st) (n+ 1) []=_;simp[Nq]
 |x::bs,st,n,b=>by
  show Nq la _ (n+ 1) (bs++[b])=_;rw[ZA la bs];have e:n+ 1+ (bs.length:Int)=n+ ((x::bs).length:Int):=by rw[List.length_cons];lia
  rw[e];rfl
theorem Ku(L:GO K C)(h:NU C H p a l ru rs):Ti K H (.ref p) "rule" (.str ru):=by
 obtain⟨dx,fs,b,_,c,i,g,f,e,_⟩:=h.ex;exact⟨p,C,dx,fs,rfl,b,L.cl,L.rule,c⟩
theorem Ba(L:GO K C)(h:NU C H p a l ru rs):Ti K H (.ref p) "standing" (.ref a):=by
 obtain⟨dx,fs,b,_,i,c,g,f,e,_⟩:=h.ex;exact⟨p,C,dx,fs,rfl,b,L.cl,L.standing,c⟩
theorem Py(L:GO K C)(h:NU C H p a l ru rs):Ti K H (.ref p) "cover" (.ref l):=by
 obtain⟨dx,fs,b,_,i,g,c,f,e,_⟩:=h.ex;exact⟨p,C,dx,fs,rfl,b,L.cl,L.cover,c⟩
theorem BN(L:GO K C)(h:NU C H p a l ru rs):Ti K H (.ref p) "ending" (oV rs.en):=by
 obtain⟨dx,fs,b,_,i,g,f,c,e,_⟩:=h.ex;exact⟨p,C,dx,fs,rfl,b,L.cl,L.ending,c⟩
theorem S8(L:GO K C)(h:NU C H p a l ru rs):Ti K H (.ref p) "reach" (.int rs.re):=by
 obtain⟨dx,fs,b,_,i,g,f,e,c,_⟩:=h.ex;exact⟨p,C,dx,fs,rfl,b,L.cl,L.reach,c⟩
theorem Se(h:NU C H p a l ru rs):Ro C "is_strange" H (.ref p):=by
 obtain⟨dx,fs,b,_,_,_,_,_,_,f,_⟩:=h.ex;exact⟨p,dx,fs,rfl,b,f⟩
theorem aU(h:NU C H p a l ru rs):Ro C "unlike_number" H (.ref p):=by
 obtain⟨dx,fs,b,_,_,_,_,_,_,_,f,_⟩:=h.ex;exact⟨p,dx,fs,rfl,b,f⟩
theorem nQ(h:NU C H p a l ru rs):Ro C "take" H (.ref p):=by
 obtain⟨dx,fs,b,_,_,_,_,_,_,_,_,f,_⟩:=h.ex;exact⟨p,dx,fs,rfl,b,f⟩
theorem xO(h:NU C H p a l ru rs):Ro C "missing" H (.ref p):=by
 obtain⟨dx,fs,b,_,_,_,_,_,_,_,_,_,f,_⟩:=h.ex;exact⟨p,dx,fs,rfl,b,f⟩
theorem dP(h:NU C H p a l ru rs):Ro C "taken_body" H (.ref p):=by
 obtain⟨dx,fs,b,_,_,_,_,_,_,_,_,_,_,f,_⟩:=h.ex;exact⟨p,dx,fs,rfl,b,f⟩
theorem Ko(h:NU C H p a l ru rs):Ro C "size" H (.ref p):=by
 obtain⟨dx,fs,b,_,_,_,_,_,_,_,_,_,_,_,_,f,_⟩:=h.ex;exact⟨p,dx,fs,rfl,b,f⟩
theorem uV(h:NU C H p a l ru rs):Ro C "answer_to" H (.ref p):=by
 obtain⟨dx,fs,b,_,_,_,_,_,_,_,_,_,_,_,f,_⟩:=h.ex;exact⟨p,dx,fs,rfl,b,f⟩
end
section
variable{P:J9}{w:Jd}{K:Je}{mg:J5}{base:Jj}
def Li(C:Jg)(f:Str)(H:Hp)(p b:Jg)(xs:List V):Prop:=∃dx fs,H p=some (.ins C dx fs)/\fs.lookup f=some (.ref b)/\H b=some (.lst xs)
def RW(C:Jg)(f:Str)(H:Hp)(p:Jg)(v:V):Prop:=∃dx fs,H p=some (.ins C dx fs)/\fs.lookup f=some v
structure BY(K:Je)(C:Jg)(f:Str):Prop where
 cl:Db K C
 na:Jx K C f
abbrev Ha(K:Je)(f:Jg)(fd:Jb)(q:Str)(st:Stmt):Prop:=∃ (oc:Jf) (od:Option Addr) (dV kV doc pm:Jf) (an:Option Addr) (cdv ct:Jf) (osl:Array (Option Value)),
  fd=W.fnOf "__init__" q (Df st) (Jy st) (Jl st) dV kV doc pm an cdv ct/\K.lookup f=some ⟨oc,od,.func fd,osl⟩/\W.codeIn K cdv q=true
inductive SY(C:Jg)(vs:List V)(H:Hp)(Q:VK)(E:XK):Prop|mk (p dx b xs:_) (_:vs=[.ref p,.ref b]) (_:H p=some (.ins C dx [])) (_:H b=some (.lst xs)) (_:∀b' G,H b'=none->Nd p H G->Li C "body" G p b' xs->Q .non G)
abbrev ND:Stmt:=Mv (top 38) 0
theorem gS:Nv ["self","body"] ["self","body"] (Jl ND):=by walk_at"e"
theorem vQ{f C:Jg}{fd:Jb}(F:Ha K f fd "Whole.__init__" ND)(L:BY K C "body")(B:Bt mg):Ju P w K mg base N7 1 f fd ["self","body"] (SY C):=by
 obtain⟨oc,od,dV,kV,doc,pm,an,aa,ct,osl,rfl,lk,r⟩:=F;refine EZ lk r gS (fun vs H Q E h=>?_) (fun A a s H vs Q E hr h=>?_)
 .obtain⟨p,dx,b,xs,rfl,_⟩:=h;rfl
 .obtain⟨p,dx,b,xs,rfl,n,hb,q⟩:=h
  suffices hh:∃t,Dl (Mz N7 P w K mg base _ "Whole.__init__" (Jl ND) f aa A a s H E).nox (Jy ND) t/\t {nx:=fun _ H'=>Q .non H',rt:=Q} (L2.start _ _) H by
   obtain⟨t,h1,h2⟩:=hh;exact⟨t,h1.nox,h2⟩
  refine⟨_,(JM (Dg (K:=K) rfl (Jn 0) (HC (dQ (mE (K:=K) rfl)) rfl B.blist (by rfl) (Jv 1 Jt)) rfl)),?_⟩;walk_at"r";refine⟨_,.inl (JA.of hb),fun i G1 g s1 z=>?_⟩;refine⟨C,dx,[],s1 p _ n,L.cl,L.na,by decide,fun G2 b2 v=>?_⟩;have j:i≠p:=Ne.symm (Te n g);exact q i G2 g (fun c o e hc=>b2 c o (s1 c o e) hc) ⟨dx,_,v,D4,b2 i _ z j⟩
inductive Pk(C:Jg)(vs:List V)(H:Hp)(Q:VK)(E:XK):Prop|mk (p dx v:_) (_:vs=[.ref p,v]) (_:H p=some (.ins C dx [])) (_:∀G,Nd p H G->RW C "at" G p v->Q .non G)
abbrev Nr:Stmt:=Mv (top 39) 0
theorem nG:Nv ["self","at"] ["self","at"] (Jl Nr):=by walk_at"e"
theorem vR{f C:Jg}{fd:Jb}(F:Ha K f fd "Unlike.__init__" Nr)(L:BY K C "at"):Ju P w K mg base N7 1 f fd ["self","at"] (Pk C):=by
 obtain⟨oc,z,dV,kV,r,pm,an,e,ct,o,rfl,g,b⟩:=F;refine EZ g b nG (fun vs H Q E h=>?_) (fun A a s H vs Q E hr h=>?_)
 .obtain⟨p,dx,v,rfl,_⟩:=h;rfl
 .obtain⟨p,dx,v,rfl,i,q⟩:=h
  suffices hh:∃t,Dl (Mz N7 P w K mg base _ "Unlike.__init__" (Jl Nr) f e A a s H E).nox (Jy Nr) t/\t {nx:=fun _ H'=>Q .non H',rt:=Q} (L2.start _ _) H by
   obtain⟨t,h1,h2⟩:=hh;exact⟨t,h1.nox,h2⟩
  refine⟨_,(JM (Dg (K:=K) rfl (Jn 0) (Jn 1) rfl)),?_⟩;walk_at"r";exact⟨C,dx,[],i,L.cl,L.na,by decide,fun n j c=>q n j ⟨dx,_,c,D4⟩⟩
inductive Sn(C:Jg)(f:Str)(vs:List V)(H:Hp)(Q:VK)(E:XK):Prop|mk (b xs:_) (_:vs=[.ref b]) (_:H b=some (.lst xs)) (_:∀p b' G,H p=none->H b'=none->Jo H G->Li C f G p b' xs->Q (.ref p) G)
theorem vC{C:Jg}(F:Rj P w K mg base "Whole" C 1 ["self","body"] [] (SY C)):Gg P w K mg base "Whole" 1 (Sn C "body"):=by
 refine F.ct fun vs H Q h y dx G a p r s f=>?_
 obtain⟨b,xs,rfl,c,q⟩:=h;exact⟨y,dx,b,xs,rfl,f,s b _ c,fun n H' i j g=>⟨rfl,q y n H' a (s.free i) (fun d o e=>j d o (s d o e) (Te e a)) g⟩⟩
inductive SO(C:Jg)(vs:List V)(H:Hp)(Q:VK)(E:XK):Prop|mk (v:_) (_:vs=[v]) (_:∀p G,H p=none->Jo H G->RW C "at" G p v->Q (.ref p) G)
theorem cN{C:Jg}(F:Rj P w K mg base "Unlike" C 1 ["self","at"] [] (Pk C)):Gg P w K mg base "Unlike" 1 (SO C):=by
 refine F.ct fun vs H Q h y dx G a g i s b=>?_
 obtain⟨v,rfl,q⟩:=h;exact⟨y,dx,v,rfl,b,fun H' f c=>⟨rfl,q y H' a (fun d o e=>f d o (s d o e) (Te e a)) c⟩⟩
inductive Q1(C:Jg)(vs:List V)(H:Hp)(Q:VK)(E:XK):Prop|mk (p dx ru:_) (_:vs=[.ref p,.str ru]) (_:H p=some (.ins C dx [])) (_:∀a l G,H a=none->H l=none->a≠l->Nd p H G->NU C G p a l ru ⟨[],[],none,0⟩->Q .non G)
abbrev Nh:Stmt:=Mv (top 40) 0
theorem y7:Nv ["self","rule"] ["self","rule"] (Jl Nh):=by walk_at"e"
theorem bL{f C:Jg}{fd:Jb}(F:Ha K f fd "Reading.__init__" Nh)(L:GO K C):Ju P w K mg base N7 1 f fd ["self","rule"] (Q1 C):=by
 obtain⟨oc,od,dV,kV,doc,pm,an,cdv,ct,osl,rfl,lk,hcd⟩:=F;refine EZ lk hcd y7 (fun vs H Q E h=>?_) (fun A n s H vs Q E hr h=>?_)
 .obtain⟨p,dx,ru,rfl,_⟩:=h;rfl
 .obtain⟨p,dx,ru,rfl,hp,q⟩:=h
  suffices hh:∃t,Dl (Mz N7 P w K mg base _ "Reading.__init__" (Jl Nh) f cdv A n s H E).nox (Jy Nh) t/\t {nx:=fun _ H'=>Q .non H',rt:=Q} (L2.start _ _) H by
   obtain⟨t,h1,h2⟩:=hh;exact⟨t,h1.nox,h2⟩
  refine⟨_,(JE (Dg (K:=K) rfl (Jn 0) (Jn 1) rfl) (JE (Dg (K:=K) rfl (Jn 0) uU rfl) (JE (Dg (K:=K) rfl (Jn 0) (Dn Jt) rfl) (JE (Dg (K:=K) rfl (Jn 0) DY rfl) (JM (Dg (K:=K) rfl (Jn 0) JI rfl)))))),?_⟩;walk_at"r";have i:([]:List (Str×V)).length <=0:=Y9 0;refine⟨C,dx,[],hp,L.cl,L.rule,by decide,fun G1 b1 aa=>?_⟩;intro a Ga ha sa hGa;refine⟨C,dx,_,sa p _ aa,L.cl,L.standing,Yn (JT i) (by decide),fun G2 b2 z=>⟨Ni (by simp),fun l Gl r sl hGl=>?_⟩⟩;refine⟨C,dx,_,sl p _ z,L.cl,L.cover,Yn (JT (JT i)) (by decide),fun G3 b3 hG3=>?_⟩;refine⟨C,dx,_,hG3,L.cl,L.ending,Yn (JT (JT (JT i))) (by decide),fun G4 b4 hG4=>?_⟩;refine⟨C,dx,_,hG4,L.cl,L.reach,Yn (JT (JT (JT (JT i)))) (by decide),fun G5 b5 hG5=>?_⟩;have g:a≠p:=Ne.symm (Te aa ha);have b:l≠p:=Ne.symm (Te z r);have v:G2 a=some (.dK []):=b2 a _ hGa g;have nal:a≠l:=Te v r;have haH:H a=none:=by
   cases e:H a with
   |none=>rfl
   |some o=>rw[b1 a o e g]at ha;cases ha
  have hlH:H l=none:=by
   cases e:H l with
   |none=>rfl
   |some o=>rw[b2 l o (sa l o (b1 l o e b)) b]at r;cases r
  refine q a l G5 haH hlH nal (fun c o e j=>b5 c o (b4 c o (b3 c o (sl c o (b2 c o (sa c o (b1 c o e j)) j)) j) j) j) ⟨⟨dx,_,hG5,?_,?_,?_,?_,?_,?_,?_,?_,?_,?_,?_,?_,?_,?_⟩,?_,?_⟩
  .exact JT (JT (JT (JT (JT i))))
  .rw[JJ,JJ,JJ,JJ,D4] <;> decide +kernel
  .rw[JJ,JJ,JJ,D4] <;> decide +kernel
  .rw[JJ,JJ,D4] <;> decide +kernel
  .rw[JJ,D4] <;> first|rfl|decide +kernel
  .rw[D4]
  all_goals first
   |(rw[JJ,JJ,JJ,JJ,JJ] <;> first|rfl|decide +kernel)
   |skip
  .exact b5 a _ (b4 a _ (b3 a _ (sl a _ v) g) g) g
  .exact⟨[],b5 l _ (b4 l _ (b3 l _ hGl b) b) b,.nil⟩
end
section
theorem AU{f:Str}{v x:V}:∀{fs:List (Str×V)},fs.lookup f=some x->(NX f v fs).length=fs.length
 |[],h=>by cases h
 |(g,y)::r,h=>by
  show(if g=f then(g,v)::r else(g,y)::NX f v r).length=_
  by_cases e:g=f
  .rw[Y3 e];rfl
  .rw[Y2 e,List.length_cons,List.length_cons];have hb:(f==g)=false:=Xz.mpr (fun z=>e z.symm);rw[show List.lookup f ((g,y)::r)=(match f==g with|true=>some y|false=>List.lookup f r) from rfl,hb]at h;rw[AU h]
theorem Tk.tkp{H G:Hp}{l:Jg}{c:List (Int×Option Int)}(h:Tk H l c)(k:BW H G)(e:∀xs,H l=some (.lst xs)->G l=some (.lst xs)):Tk G l c:=by
 obtain⟨xs,h1,h2⟩:=h;exact⟨xs,e xs h1,h2.tk k⟩
variable{C p a l:Jg}{H G:Hp}{ru:Str}{rs:RS}
theorem NU.dict{st:List (Int×Int)}(h:NU C H p a l ru rs)(b:Nd a H G)(e:G a=some (.dK (GV st))):NU C G p a l ru {rs with st:=st}:=by
 obtain⟨⟨dx,fs,g,r⟩,c,i⟩:=h;exact⟨⟨dx,fs,b _ _ g (Jm g c nofun),r⟩,e,i.tkp (El b c) fun xs f=>b _ _ f (Jm f c nofun)⟩
theorem Lv{C dx:Jg}{fs:List (Str×V)}(b:Nd p H G)(h:H p=some (.ins C dx fs)):BW H G:=fun t ys e=>b t _ e (Jm e h nofun)
theorem NU.cover'{l' dx:Jg}{fs:List (Str×V)}{cv:List (Int×Int)}(h:NU C H p a l ru rs)(hp:H p=some (.ins C dx fs))(b:Nd p H G)(e:G p=some (.ins C dx (NX "cover" (.ref l') fs)))(hc:Tk H l' (DN cv)):NU C G p a l' ru {rs with cv:=cv}:=by
 obtain⟨⟨dx',fs',c,f0,f1,f2,f3,f4,w,v,s,r,q,o,n,j,i⟩,g,cv⟩:=h;rw[hp]at c;cases c;have tk:=Lv b hp;refine⟨⟨dx,_,e,?_,?_,?_,?_,?_,?_,?_,?_,?_,?_,?_,?_,?_,?_⟩,b _ _ g (Jm g hp nofun),hc.tkp tk fun xs f=>b _ _ f (Jm f hp nofun)⟩
 .rw[AU f3];exact f0
 .rw[JJ (by decide +kernel)];exact f1
 .rw[JJ (by decide +kernel)];exact f2
 .rw[D4]
 .rw[JJ (by decide +kernel)];exact f4
 .rw[JJ (by decide +kernel)];exact w
 .rw[JJ (by decide +kernel)];exact v
 .rw[JJ (by decide +kernel)];exact s
 .rw[JJ (by decide +kernel)];exact r
 .rw[JJ (by decide +kernel)];exact q
 .rw[JJ (by decide +kernel)];exact o
 .rw[JJ (by decide +kernel)];exact n
 .rw[JJ (by decide +kernel)];exact j
 .rw[JJ (by decide +kernel)];exact i
theorem NU.reach'{dx:Jg}{fs:List (Str×V)}{re:Int}(h:NU C H p a l ru rs)(hp:H p=some (.ins C dx fs))(b:Nd p H G)(e:G p=some (.ins C dx (NX "reach" (.int re) fs))):NU C G p a l ru {rs with re:=re}:=by
 obtain⟨⟨dx',fs',c,f0,f1,f2,f3,f4,w,v,s,r,q,o,n,j,i⟩,g,cv⟩:=h;rw[hp]at c;cases c;have tk:=Lv b hp;refine⟨⟨dx,_,e,?_,?_,?_,?_,?_,?_,?_,?_,?_,?_,?_,?_,?_,?_⟩,b _ _ g (Jm g hp nofun),cv.tkp tk fun xs f=>b _ _ f (Jm f hp nofun)⟩
 .rw[AU w];exact f0
 .rw[JJ (by decide +kernel)];exact f1
 .rw[JJ (by decide +kernel)];exact f2
 .rw[JJ (by decide +kernel)];exact f3
 .rw[JJ (by decide +kernel)];exact f4
 .rw[D4]
 .rw[JJ (by decide +kernel)];exact v
 .rw[JJ (by decide +kernel)];exact s
 .rw[JJ (by decide +kernel)];exact r
 .rw[JJ (by decide +kernel)];exact q
 .rw[JJ (by decide +kernel)];exact o
 .rw[JJ (by decide +kernel)];exact n
 .rw[JJ (by decide +kernel)];exact j
 .rw[JJ (by decide +kernel)];exact i
theorem NU.ending'{dx:Jg}{fs:List (Str×V)}{e':Int}(h:NU C H p a l ru rs)(hp:H p=some (.ins C dx fs))(b:Nd p H G)(e:G p=some (.ins C dx (NX "ending" (.int e') fs))):NU C G p a l ru {rs with en:=some e'}:=by
 obtain⟨⟨dx',fs',c,f0,f1,f2,f3,f4,w,v,s,r,q,o,n,j,i⟩,g,cv⟩:=h;rw[hp]at c;cases c;have tk:=Lv b hp;refine⟨⟨dx,_,e,?_,?_,?_,?_,?_,?_,?_,?_,?_,?_,?_,?_,?_,?_⟩,b _ _ g (Jm g hp nofun),cv.tkp tk fun xs f=>b _ _ f (Jm f hp nofun)⟩
 .rw[AU f4];exact f0
 .rw[JJ (by decide +kernel)];exact f1
 .rw[JJ (by decide +kernel)];exact f2
 .rw[JJ (by decide +kernel)];exact f3
 .rw[D4];rfl
 .rw[JJ (by decide +kernel)];exact w
 .rw[JJ (by decide +kernel)];exact v
 .rw[JJ (by decide +kernel)];exact s
 .rw[JJ (by decide +kernel)];exact r
 .rw[JJ (by decide +kernel)];exact q
 .rw[JJ (by decide +kernel)];exact o
 .rw[JJ (by decide +kernel)];exact n
 .rw[JJ (by decide +kernel)];exact j
 .rw[JJ (by decide +kernel)];exact i
theorem NU.ins(h:NU C H p a l ru rs):∃dx fs,H p=some (.ins C dx fs)/\fs.length <=5:=by
 obtain⟨⟨dx,fs,b,c,_⟩,_,_⟩:=h;exact⟨dx,fs,b,c⟩
end
section
variable{P:J9}{w:Jd}{K:Je}{mg:J5}{base:Jj}
inductive Fq(C CP:Jg)(vs:List V)(H:Hp)(Q:VK)(E:XK):Prop|mk (p a l q b:Jg) (ru:Str) (rs:RS) (d:PD) (_:vs=[.ref p,.ref q]) (_:NU C H p a l ru rs) (_:NH CP H q b d) (_:Q (.bl (strange rs d)) H)
abbrev Lj:Stmt:=Mv (top 40) 1
theorem cP:Nv ["self","piece"] ["self","piece"] (Jl Lj):=by walk_at"e"
theorem d7{f C CP:Jg}{fd:Jb}(F:NK K "is_strange" "Reading.is_strange" Lj f fd)(L:GO K C)(LP:Ru K CP)(JX:T4 P w K mg base CP "end" 1 ["self"] [] (Kb CP)):Ju P w K mg base N7 2 f fd ["self","piece"] (Fq C CP):=by
 refine F.ok cP (fun vs H Q E h=>?_) (fun r A n s H vs Q E j h=>?_)
 .obtain⟨p,a,l,q,b,ru,rs,d,rfl,_⟩:=h;rfl
 .obtain⟨p,a,l,q,b,ru,rs,d,rfl,i,c,k⟩:=h;refine⟨_,(JE (Tg (MO (Nx K (Jn 1))) (JM (Nk (Dy (D7 AJ (Nx K (Jn 0)) DY (Dx _)) (GU (D7 (NL Hb) (Dc (Jn 1) JX j.m) (Nx K (Jn 0)) (Dx _)))))) TC) (JE (Tg (Tx AJ (Nx K (Jn 0)) DY) (JM (Nk (D7 (Cd Ar) (Dc (Jn 1) JX j.m) (Nx K (Jn 0)) (Dx _)))) TC) (JM (Nk (D7 (NL Eb) (Dc (Jn 1) JX j.m) (Nx K (Jn 0)) (Dx _)))))),?_⟩;walk_at"r";refine⟨_,So LP c,_,rfl,?_⟩;unfold strange at k;cases hm:d.mo with
  |true=>
   rw[hm,Y3 rfl]at k;rw[Y3 rfl];refine⟨_,BN L i,?_⟩;cases he:rs.en with
   |none=>
    rw[he]at k;exact k
   |some e=>
    rw[he]at k;rw[Y3 (by simp[oV])];have g:=BN L i;rw[he]at g;exact⟨BS c,q,b,d,rfl,c,_,g,_,rfl,_,rfl,k⟩
  |false=>
   rw[hm,Y2 (by simp)]at k;rw[Y2 (by simp)];refine⟨_,BN L i,?_⟩;cases he:rs.en with
   |none=>
    rw[he]at k;rw[Y2 (by simp[oV])];exact⟨BS c,q,b,d,rfl,c,_,S8 L i,_,rfl,_,rfl,k⟩
   |some e=>
    rw[he]at k;rw[Y3 (by simp[oV])];have g:=BN L i;rw[he]at g;refine⟨BS c,q,b,d,rfl,c,_,g,rfl,?_⟩;have o:(!decide (V.int (d.at'+ d.ns.length)=oV (some e)))= !decide (d.at'+ d.ns.length=e):=by simp[oV]
    rw[o];exact k
inductive Ow(C CP:Jg)(vs:List V)(H:Hp)(Q:VK)(E:XK):Prop|mk (p a l q b:Jg) (ru:Str) (rs:RS) (d:PD) (_:vs=[.ref p,.ref q]) (_:NU C H p a l ru rs) (_:NH CP H q b d) (_:(0 <=d.at'/\d.at' <=4000/\d.ns.length <=4000)) (_:∀G,Jo H G->Q (oV (Ts rs.st d.at' d.ns)) G)
abbrev LF:Stmt:=Mv (top 40) 2
theorem Ot:Nv ["self","piece","number","byte"] ["self","piece"] (Jl LF):=by walk_at"e"
theorem dS{f C CP:Jg}{fd:Jb}(F:NK K "unlike_number" "Reading.unlike_number" LF f fd)(L:GO K C)(LP:Ru K CP)(B3:K5 mg):Ju P w K mg base N7 1 f fd ["self","piece"] (Ow C CP):=by
 refine F.ok Ot (fun vs H Q E h=>?_) (fun cdv A outer s H vs Q E hr h=>?_)
 .obtain⟨p,a,l,q,b,ru,rs,d,rfl,_⟩:=h;rfl
 .obtain⟨p,a,l,q,b,ru,rs,d,rfl,hR,r,hd,k⟩:=h;refine⟨_,(JE (Ed Xh rfl (Qs (K:=K) rfl rfl B3.enumerate (Nx K (Jn 1)) (Nx K (Jn 1))) (ET (K:=K) (n:=2) rfl rfl (DK (Dr 2 Ot) (DK (Dr 3 Ot) EJ))) (JM (Tg (PW.pt (A2 (Hh (jO (nX (Gy hr))) (Jn 2) (Nx K (Jn 0)) (by with_unfolding_all rfl)) (Ab (Tx (Cd Ar) (GJ hr (Nx K (Jn 0)) (Jn 2)) (Jn 3))))) (JM (Nk (Jn 2))) TC))) (JM (Nk DY))),?_⟩;walk_at"r";refine⟨_,P1 LP r,_,FP LP r,_,rfl,_,rfl,by lia,by lia,⟨_,JA.of r.bd⟩,?_⟩;obtain⟨Pv,c⟩:∃Pv:Nat->L2.St->Hp->Prop,Pv=fun i σ' G=>∃ (v2 z:Option V),σ'=[some (.ref p),some (.ref q),v2,z]/\Jo H G/\Ts rs.st d.at' d.ns=Ts rs.st (d.at'+ (i:Nat)) (d.ns.drop i):=⟨_,rfl⟩
  refine Pr (xs:=d.ns.map V.int) Pv (by rw[c];exact⟨_,_,rfl,Jo.refl _,by simp⟩) ?_ ?_ ?_ <;> rw[c]
  .rintro i σ' G _ ⟨_,_,_,s,_⟩;exact JA.of (s b _ r.bd)
  .rintro i x t σ' G0 G hx ⟨v2,z,rfl,s0,e⟩ _ s1 ht;rw[<-c];have s:=s0.trans s1;rw[Ya]at hx;obtain⟨n,o,rfl⟩:=Yl.mp hx;have v:i < d.ns.length:=by
    rcases Nat.lt_or_ge i d.ns.length with h|h
    .exact h
    .rw[XU h]at o;cases o
   have hdr:d.ns.drop i=n::d.ns.drop (i+ 1):=by
    rw[X8 v];rw[Y7 v]at o;rw[Option.some.inj o]
   rw[hdr]at e;have g:=hR.mono s;refine⟨t,_,rfl,N8.of ht,rfl,_,_,rfl,_,_,rfl,rfl,?_⟩;walk_at"r";refine⟨_,Ba L g,_,rfl,_,g.dk,?_⟩;rw[BI];have ei:d.at'+ (i:Int)+ 1=d.at'+ ((i+ 1:Nat):Int):=by lia
   have j:=e;rw[show Ts rs.st (d.at'+ (i:Nat)) (n::d.ns.drop (i+ 1))=(match N9 rs.st (d.at'+ (i:Nat)) with|some x=>if x=n then Ts rs.st (d.at'+ (i:Nat)+ 1) (d.ns.drop (i+ 1)) else some (d.at'+ (i:Nat))|none=>Ts rs.st (d.at'+ (i:Nat)+ 1) (d.ns.drop (i+ 1))) from rfl,ei]at j;cases hg:N9 rs.st (d.at'+ i) with
   |none=>
    rw[hg]at j;rw[Y2 (by simp),c];exact⟨_,_,rfl,s,j⟩
   |some x=>
    rw[hg]at j;rw[Y3 (by rfl)];refine⟨_,Ba L g,_,rfl,V.int x,?_,rfl,?_⟩
    .have:=D3.k (k:=Sum.inl (d.at'+ (i:Int))) g.dk;rw[BI,hg]at this;exact this
    .by_cases hxn:x=n
     .rw[Y2 (by simp[hxn]),c];exact⟨_,_,rfl,s,by rw[j];exact Y3 hxn⟩
     .rw[Y3 (by simp[hxn])];have:=k G s;rw[j.trans (Y2 hxn)]at this;exact this
  .rintro σ' G ⟨v2,z,rfl,s,e⟩;rw[WE (by simp)]at e;have:=k G s;rw[e]at this;exact this
inductive L1(C CP:Jg)(vs:List V)(H:Hp)(Q:VK)(E:XK):Prop|mk (p a l q b:Jg) (ru:Str) (rs:RS) (d:PD) (_:vs=[.ref p,.ref q]) (_:NU C H p a l ru rs) (_:NH CP H q b d) (_:(0 <=d.at'/\d.at' <=4000/\d.ns.length <=4000)) (_:rs.st.length <=20000) (_:rs.cv.length <=1000) (_:∀l' G,H l'=none->(∀c o,H c=some o->c≠p->c≠a->G c=some o)->NU C G p a l' ru (MM (decide (ru="last")) rs d)->Q .non G)
abbrev IZ:Stmt:=Mv (top 40) 3
theorem K3:Nv ["self","piece","number","byte"] ["self","piece"] (Jl IZ):=by walk_at"e"
theorem aG{f C CP:Jg}{fd:Jb}(F:NK K "take" "Reading.take" IZ f fd)(L:GO K C)(LP:Ru K CP)(B:Bt mg)(B3:K5 mg)(JX:T4 P w K mg base CP "end" 1 ["self"] [] (Kb CP))(TQ:Tc P w K mg base "with_span" 1 ["cover","span"] [] SV):Ju P w K mg base N7 2 f fd ["self","piece"] (L1 C CP):=by
 refine F.ok K3 (fun vs H Q E h=>?_) (fun cdv A outer s H vs Q E hr h=>?_)
 .obtain⟨p,a,l,q,b,ru,rs,d,rfl,_⟩:=h;rfl
 .obtain⟨p,a,l,q,b,ru,rs,d,rfl,hR,hP,hd,hst,hcv,k⟩:=h;refine⟨_,(JE (Ed Xh rfl (Qs (K:=K) rfl rfl B3.enumerate (Nx K (Jn 1)) (Nx K (Jn 1))) (ET (K:=K) (n:=2) rfl rfl (DK (Dr 2 K3) (DK (Dr 3 K3) EJ))) (JM (Tg (PW.pt (RD (Tx (GK GG) (Nx K (Jn 0)) Tj) (RJ (Hh (aX (bA (Gy hr))) (Jn 2) (Nx K (Jn 0)) (by with_unfolding_all rfl))))) (JM (j3 (Gy hr) (Nx K (Jn 0)) (Jn 2) (Jn 3) rfl)) TC))) (JE (Dg (K:=K) rfl (Jn 0) (Tb TQ hr.m rfl (Dt (Nx K (Jn 0)) (Nc (hs:=GM) (MR (Dt (Nx K (Jn 1)) (DZ (Dc (Jn 1) JX hr.m) Jt))) Jt))) rfl) (JM (Tg (MO (Nx K (Jn 1))) (JM (Dg (K:=K) rfl (Jn 0) (Tu (LB rfl) B.max (Dt (Nx K (Jn 0)) (DZ (Dc (Jn 1) JX hr.m) Jt))) rfl)) (JM (Dg (K:=K) rfl (Jn 0) (Dc (Jn 1) JX hr.m) rfl)))))),?_⟩;refine Nl fun N hN=>?_
  walk_at"r";refine⟨_,P1 LP hP,_,FP LP hP,_,rfl,_,rfl,by lia,by lia,⟨_,JA.of hP.bd⟩,?_⟩;obtain⟨nqp,nbp,nqa,nba⟩:=hR.ne hP;obtain⟨Pv,v⟩:∃Pv:Nat->L2.St->Hp->Prop,Pv=fun i σ' G=>∃ (v2 v3:Option V),σ'=[some (.ref p),some (.ref q),v2,v3]/\Nd a H G/\G a=some (.dK (GV (Nq (decide (ru="last")) rs.st d.at' (d.ns.take i)))):=⟨_,rfl⟩
  refine Pr (xs:=d.ns.map V.int) Pv (by rw[v];exact⟨_,_,rfl,Nd.refl _ _,hR.dk⟩) ?_ ?_ ?_ <;> rw[v]
  .rintro i σ' G _ ⟨_,_,_,s,_⟩;exact JA.of (s b _ hP.bd nba)
  .rintro i x t σ' G0 G hx ⟨v2,v3,rfl,s0,hd0⟩ _ s1 ht;rw[<-v];have s:Nd a H G:=fun c o e hc=>s1 c o (s0 c o e hc)
   have g:=s1 a _ hd0;rw[Ya]at hx;obtain⟨n,hn,rfl⟩:=Yl.mp hx;have hlt:i < d.ns.length:=by
    rcases Nat.lt_or_ge i d.ns.length with h|h
    .exact h
    .rw[XU h]at hn;cases hn
   have htk:d.ns.take (i+ 1)=d.ns.take i++[n]:=by
    rw[List.take_succ,hn];rfl
   have hli:((d.ns.take i).length:Int)=i:=by rw[Yu];lia
   have hsz:=Oz (decide (ru="last")) (d.ns.take i) rs.st d.at';refine⟨t,_,rfl,N8.of ht,rfl,_,_,rfl,_,_,rfl,rfl,?_⟩;have j:=hR.dict s g;have hst2:(GV (Nq (decide (ru="last")) rs.st d.at' (d.ns.take i))).length < sizeLine:=by
    refine Yy (m:=30000) ?_ (Ni (by lia));unfold GV;rw[Y1];rw[Yu]at hsz
    lia
   have r:=ZA (decide (ru="last")) (d.ns.take i) rs.st d.at' n;rw[hli]at r;walk_at"r";refine⟨_,Ku L j,rfl,?_⟩
   by_cases hru:ru="last"
   .rw[Y3 (by rw[hru];exact Yt rfl)];refine⟨_,Ba L j,_,rfl,_,g,hst2,fun G1 b1 h1=>?_⟩;rw[IT]at h1;rw[Y3 (.inl (Yt hru))]at r;rw[v];refine⟨_,_,rfl,s.trans b1,?_⟩;rw[htk,r];exact h1
   .rw[Y2 (by simpa using hru)];refine⟨_,Ba L j,_,rfl,_,g,?_⟩;rw[BI];cases hg:N9 (Nq (decide (ru="last")) rs.st d.at' (d.ns.take i)) (d.at'+ i) with
    |none=>
     rw[Y3 (by rfl)];refine⟨_,Ba L j,_,rfl,_,g,hst2,fun G1 b1 h1=>?_⟩;rw[IT]at h1;rw[Y3 (.inr (by rw[hg];rfl))]at r;rw[v];refine⟨_,_,rfl,s.trans b1,?_⟩;rw[htk,r];exact h1
    |some x=>
     rw[Y2 (by simp)];rw[Y2 (by rw[hg];simp[hru])]at r;rw[v];refine⟨_,_,rfl,s,?_⟩;rw[htk,r];exact g
  .rintro σ' G ⟨v2,v3,rfl,s,g⟩;refine hN _ _ ?_;clear hN N;rw[Yv (by simp)]at g;have j:=hR.dict s g;have ad:=hP.but s nqa nba;refine Nl fun N hN=>?_
   walk_at"r";refine⟨_,Py L j,_,FP LP ad,BS ad,q,b,d,rfl,ad,?_⟩;refine⟨Ni (by simp),fun t G2 ht s2 hG2=>?_⟩;refine⟨l,t,rs.cv,_,_,rfl,j.cv.same s2,hcv,hG2,fun l' G3 hl' s3 hC3=>?_⟩;have hl0:H l'=none:=s.free (s2.free hl') (Ne.symm (Te g (s2.free hl')));have s13:=s2.trans s3;have hR3:=j.mono s13;have hP3:=ad.mono s13;obtain⟨dx,fs,hp3,hf5⟩:=hR3.ins;refine⟨C,dx,fs,hp3,L.cl,L.cover,by lia,fun G4 b4 hG4=>hN _ _ ?_⟩;clear hN N;have ac:=hR3.cover' hp3 b4 hG4 hC3;have z:=hP3.but b4 nqp nbp;have aa:∀c o,H c=some o->c≠p->c≠a->G4 c=some o:=fun c o e h1 h2=>b4 c o (s13 c o (s c o e h2)) h1
   obtain⟨dx4,fs4,ab,hf4⟩:=ac.ins;walk_at"r";refine⟨_,So LP z,_,rfl,?_⟩;cases hm:d.mo with
   |true=>
    rw[Y3 rfl];refine⟨_,S8 L ac,BS z,q,b,d,rfl,z,_,rfl,_,rfl,C,dx4,fs4,ab,L.cl,L.reach,by lia,fun G5 b5 hG5=>?_⟩;have hR5:=ac.reach' ab b5 hG5;refine k l' G5 hl0 (fun c o e h1 h2=>b5 c o (aa c o e h1 h2) h1) ?_;unfold MM;rw[Y3 hm,Y3 hm];have e:max rs.re (d.at'+ d.ns.length)=if d.at'+ d.ns.length > rs.re then d.at'+ d.ns.length else rs.re:=by split <;> lia
    rw[e];exact hR5
   |false=>
    rw[Y2 (by simp)];refine⟨BS z,q,b,d,rfl,z,C,dx4,fs4,ab,L.cl,L.ending,by lia,fun G5 b5 hG5=>?_⟩;have hR5:=ac.ending' ab b5 hG5;refine k l' G5 hl0 (fun c o e h1 h2=>b5 c o (aa c o e h1 h2) h1) ?_;unfold MM;rw[Y2 (by rw[hm];simp),Y2 (by rw[hm];simp)];exact hR5
inductive Ij(C:Jg)(vs:List V)(H:Hp)(Q:VK)(E:XK):Prop|mk (p a l:Jg) (ru:Str) (rs:RS) (_:vs=[.ref p]) (_:NU C H p a l ru rs) (_:rs.cv.length <=1000) (_:∀m G,Jo H G->H m=none->Tk G m (Ma rs.en 0 rs.cv)->Q (.ref m) G)
abbrev K4:Stmt:=Mv (top 40) 5
theorem jC:Nv ["self"] ["self"] (Jl K4):=by walk_at"e"
theorem bJ{f C:Jg}{fd:Jb}(F:NK K "missing" "Reading.missing" K4 f fd)(L:GO K C)(MA:Tc P w K mg base "lacking" 1 ["cover","end"] [] Pq):Ju P w K mg base N7 2 f fd ["self"] (Ij C):=by
 refine F.ok jC (fun vs H Q E h=>?_) (fun n A c s H vs Q E e h=>?_)
 .obtain⟨p,a,l,ru,rs,rfl,_⟩:=h;rfl
 .obtain⟨p,a,l,ru,rs,rfl,b,g,k⟩:=h;refine⟨_,(JM (Nk (Tb MA e.m rfl (Dt (Nx K (Jn 0)) (Dt (Nx K (Jn 0)) Jt))))),?_⟩;walk_at"r";exact⟨_,Py L b,_,BN L b,l,rs.cv,rs.en,rfl,b.cv,g,fun l' G j s i=>k l' G s j i⟩
inductive Ig(C:Jg)(vs:List V)(H:Hp)(Q:VK)(E:XK):Prop|mk (p a l:Jg) (ru:Str) (rs:RS) (e:Nat) (ns:Jh) (_:vs=[.ref p]) (_:NU C H p a l ru rs) (_:rs.en=some (e:Int)) (_:e <=65536) (_:ns.length=e) (_:(∀i:Nat,∀x,ns[i]?=some x->N9 rs.st i=some x)) (_:∀m G,Jo H G->H m=none->G m=some (.lst (ns.map V.int))->Q (.ref m) G)
abbrev Hu:Stmt:=Mv (top 40) 6
theorem dU:Nv ["self"] ["self"] (Jl Hu):=by walk_at"e"
theorem xP{f C:Jg}{fd:Jb}(F:NK K "taken_body" "Reading.taken_body" Hu f fd)(L:GO K C)(B:Bt mg):Ju P w K mg base N7 1 f fd ["self"] (Ig C):=by
 refine F.ok dU (fun vs H Q E h=>?_) (fun cdv A aa s H vs Q E hr h=>?_)
 .obtain⟨p,a,l,ru,rs,e,c,rfl,_⟩:=h;rfl
 .obtain⟨p,a,l,ru,rs,e,c,rfl,j,he,hd,hn,hg,k⟩:=h;refine⟨_,(JM (Nk (Gk (N':=["number","self"]) (caps:=[none,some 0]) (Do (sc:=Jl Hu) (N:=["self"]) rfl rfl (by decide +kernel)) rfl (HK rfl B.range (Dt (Nx K (Jn 0)) Jt)) (fun _ _ _ _ _=>(D0 (i:=0) (Dm (N:=["number","self"]) rfl (by decide +kernel)) rfl (Or.inl rfl))) (fun _ _ _ _ _=>Gj) (fun _ _ _ _ _=>(GJ hr (Nx K (Jn 1)) (Jn 0)))))),?_⟩;walk_at"r";have r:=BN L j;rw[he]at r;refine⟨_,r,_,rfl,by lia,by lia,?_⟩;rw[Xv];obtain⟨n,b⟩:∃n:Nat->List V->L2.St->Hp->Prop,n=fun i ys σ' G=>∃v:Option V,σ'=[v,some (.ref p)]/\ys=(c.take i).map V.int/\G=H:=⟨_,rfl⟩
  refine Sr n (by rw[b];exact⟨none,rfl,rfl,rfl⟩) ?_ (Ni (by lia)) ?_ ?_ <;> rw[b]
  .rintro i ys σ' z ⟨v,rfl,rfl,rfl⟩ _;rw[Y1,Yu];lia
  .rintro i ys σ' z hi ⟨v,rfl,rfl,rfl⟩;rw[<-b];walk_at"r";have o:i < c.length:=by lia
   have g:=hg i c[i] (Y7 o);refine⟨_,Ba L j,_,rfl,V.int c[i],?_,?_⟩
   .have:=D3.k (k:=Sum.inl (0+ (i:Int))) j.dk;rw[BI,VD,g]at this;rw[VD];exact this
   .rw[b];exact⟨_,rfl,by rw[List.take_succ,Y7 o,Yh];rfl,rfl⟩
  .rintro ys σ' z ⟨v,rfl,rfl,rfl⟩ m G h0 s q;rw[Yv (by lia)]at q;exact k m G s h0 q
theorem Zr:∀ (c:List (Int×Int)) (st:WS),(c.foldl M7 st).ah.length+ (c.foldl M7 st).be.length <=st.ah.length+ st.be.length+ c.length
 |[],st=>Y9 _
 |p::r,st=>by
  have h:=Zr r (M7 st p);have h2:(M7 st p).ah.length+ (M7 st p).be.length <=st.ah.length+ st.be.length+ 1:=by
   unfold M7
   split
   .simp;omega
   .split
    .simp;omega
    .simp
  rw[Wy,List.length_cons];omega
theorem dL(c:List (Int×Int))(lo hi:Int):(NJ c lo hi).length <=c.length+ 1:=by
 have h:=Zr c ⟨[],lo,hi,[]⟩;unfold NJ EO;simp only[List.length_append,List.length_cons,List.length_nil]at h ⊢;omega
def TN(p a:Jg)(H G:Hp):Prop:=∀c o,H c=some o->c≠p->c≠a->G c=some o
theorem TN.free{p a:Jg}{H G:Hp}(kp:TN p a H G){C l b:Jg}{ru:Str}{rs:RS}(hR:NU C G p a l ru rs)(h:G b=none):H b=none:=by
 cases e:H b with
 |none=>rfl
 |some o=>
  obtain⟨dx,fs,c,_⟩:=hR.ex;have:=kp b o e (Ne.symm (Te c h)) (Ne.symm (Te hR.dk h));rw[this]at h;cases h
inductive Ih(C CP CW CU:Jg)(vs:List V)(H:Hp)(Q:VK)(E:XK):Prop|mk (p a l q b:Jg) (ru:Str) (rs:RS) (d:PD) (_:vs=[.ref p,.ref q]) (_:NU C H p a l ru rs) (_:NH CP H q b d) (_:rs.st.length <=20000) (_:rs.cv.length <=900) (_:(strange rs d=true->(ru="refuse"->∀m G,Jo H G->RW CU "at" G m (.int d.at')->Q (.ref m) G)/\(¬ru="refuse"->Q .non H))) (_:(strange rs d=false->(∀n,ru="refuse"->Ts rs.st d.at' d.ns=some n->∀m G,Jo H G->RW CU "at" G m (.int n)->Q (.ref m) G)/\((ru="refuse"->Ts rs.st d.at' d.ns=none)->∀rs',rs'=MM (decide (ru="last")) rs d->(Ma rs'.en 0 rs'.cv≠[]->∀l' G,H l'=none->TN p a H G->NU C G p a l' ru rs'->Q .non G)/\(Ma rs'.en 0 rs'.cv=[]->∃ (e:Nat) (ns:Jh),rs'.en=some (e:Int)/\e <=4000/\ns.length=e/\(∀i:Nat,∀x,ns[i]?=some x->N9 rs'.st i=some x)/\∀m b' l' G,H b'=none->H l'=none->TN p a H G->NU C G p a l' ru rs'->Li CW "body" G m b' (ns.map V.int)->Q (.ref m) G))))
theorem PD.Ok.bds{d:PD}(h:d.Ok):0 <=d.at'/\d.at' <=4000/\d.ns.length <=4000:=by
 have h1:=h.a0;have h2:=h.rm;have a:=h.l2;unfold Eg at h2;refine⟨h1,?_,a⟩
 split at h2
 .simp only[X2,Yd]at h2;omega
 .simp only[Yd]at h2;omega
abbrev K0:Stmt:=Mv (top 40) 7
theorem OF:Nv ["self","piece","number"] ["self","piece"] (Jl K0):=by walk_at"e"
theorem nI{f C CP CW CU:Jg}{fd:Jb}(F:NK K "answer_to" "Reading.answer_to" K0 f fd)(L:GO K C)(LP:Ru K CP)
  (JK:T4 P w K mg base C "is_strange" 2 ["self","piece"] [] (Fq C CP)) (N6:T4 P w K mg base C "unlike_number" 1 ["self","piece"] [] (Ow C CP)) (T6:T4 P w K mg base C "take" 2 ["self","piece"] [] (L1 C CP))
  (NF:T4 P w K mg base C "missing" 2 ["self"] [] (Ij C)) (Ng:T4 P w K mg base C "taken_body" 1 ["self"] [] (Ig C))
  (Ey:Gg P w K mg base "Whole" 1 (Sn CW "body")) (DT:Gg P w K mg base "Unlike" 1 (SO CU)):Ju P w K mg base N7 3 f fd ["self","piece"] (Ih C CP CW CU):=by
 refine F.ok OF (fun vs H Q E h=>?_) (fun cdv A outer s H vs Q E j h=>?_)
 .obtain⟨p,a,l,q,b,ru,rs,d,rfl,_⟩:=h;rfl
 .obtain⟨p,a,l,q,b,ru,rs,d,rfl,r,hP,hst,hcv,k1,k2⟩:=h;have hd:=hP.ok.bds;refine⟨_,(JE (Tg (MO (DM (Jn 0) JK j.m (Jv 1 Jt))) (JM (Nk (PZ (Tx (GK GG) (Nx K (Jn 0)) Tj) (Eo DT j.m rfl (Dt (Nx K (Jn 1)) Jt)) DY))) TC) (JE (FK (Tg (Tx (GK GG) (Nx K (Jn 0)) Tj) (JE (Tr 2 OF (DM (Jn 0) N6 j.m (Jv 1 Jt))) (JM (Tg (Tx AJ (Jn 2) DY) (JM (Nk (Eo DT j.m rfl (Jv 2 Jt)))) TC))) TC)) (JE (D8 (DM (Jn 0) T6 j.m (Jv 1 Jt))) (JM (Nk (PZ (Tx (dH (yF (K:=K) (Room.units j) rfl)) (Dc (Jn 0) NF j.m) (Dn Jt)) (Eo Ey j.m rfl (DZ (Dc (Jn 0) Ng j.m) Jt)) DY)))))),?_⟩;walk_at"r";refine⟨Se r,p,a,l,q,b,ru,rs,d,rfl,r,hP,_,rfl,?_⟩;cases hs:strange rs d with
  |true=>
   obtain⟨q1,q2⟩:=k1 hs;rw[Y3 rfl];refine⟨_,Ku L r,rfl,?_⟩
   by_cases hru:ru="refuse"
   .rw[Y3 (by rw[hru];exact Yt rfl)];exact⟨_,FP LP hP,_,rfl,fun m G h0 s hA=>q1 hru m G s hA⟩
   .rw[Y2 (by simpa using hru)];exact q2 hru
  |false=>
   obtain⟨q1,q2⟩:=k2 hs;rw[Y2 (by simp)];obtain⟨R,eR⟩:∃R:L2.St->Hp->Prop,R=fun σ' G=>∃v,σ'=[some (.ref p),some (.ref q),v]/\Jo H G/\(ru="refuse"->Ts rs.st d.at' d.ns=none):=⟨_,rfl⟩
   refine⟨R,?_,fun σ' G hRr=>?_⟩
   .refine⟨_,Ku L r,rfl,?_⟩
    by_cases hru:ru="refuse"
    .rw[Y3 (by rw[hru];exact Yt rfl)];refine⟨aU r,p,a,l,q,b,ru,rs,d,rfl,r,hP,hd,fun G s=>?_⟩;cases hu:Ts rs.st d.at' d.ns with
     |none=>
      rw[Y2 (by simp[oV]),eR];exact⟨_,rfl,s,fun _=>hu⟩
     |some n=>
      rw[Y3 (by simp[oV])];exact⟨_,rfl,fun m G2 h0 s2 hA=>q1 n hru hu m G2 (s.trans s2) hA⟩
    .rw[Y2 (by simpa using hru),eR];exact⟨_,rfl,Jo.refl _,fun z=>absurd z hru⟩
   .rw[eR]at hRr;obtain⟨v,rfl,s,hu⟩:=hRr;have hR1:=r.mono s;have hP1:=hP.mono s;obtain⟨q3,q4⟩:=q2 hu _ rfl;refine⟨_,rfl,nQ hR1,_,rfl,p,a,l,q,b,ru,rs,d,rfl,hR1,hP1,hd,hst,by omega,fun l' G2 hl0 kp g=>?_⟩;have ab:(MM (decide (ru="last")) rs d).cv.length <=1000:=by
     have:=dL rs.cv d.at' (d.at'+ d.ns.length);show(NJ rs.cv d.at' (d.at'+ d.ns.length)).length <=1000;omega
    generalize MM (decide (ru="last")) rs d=rs' at g q3 q4 ab;refine⟨_,rfl,xO g,p,a,l',ru,rs',rfl,g,ab,fun m G3 s3 hm hC=>⟨Ni (by simp),fun z G4 hz s4 hz4=>?_⟩⟩;obtain⟨xs,hx,hxc⟩:=hC;refine⟨m,rfl,xs,JA.of (s4 m _ hx),JA.of hz4,?_⟩;have i:=s3.trans s4;have aa:TN p a H G4:=fun c o e h1 h2=>i c o (kp c o (s c o e) h1 h2)
    have hxl:=hxc.len
    by_cases hn:Ma rs'.en 0 rs'.cv=[]
    .rw[hn]at hxl;rw[Y3 (Yt (show xs.length=0 from hxl))];obtain⟨e,ns,he,he2,hns,hg,q5⟩:=q4 hn;exact⟨_,rfl,dP (g.mono i),p,a,l',ru,rs',e,ns,rfl,g.mono i,he,by omega,hns,hg,fun m5 G5 s5 hm5 h5=>⟨m5,_,rfl,h5,fun w b' G6 hw hb' s6 hA=>q5 w b' l' G6 (TN.free (fun c o e h1 h2=>s5 c o (aa c o e h1 h2)) ((g.mono i).mono s5) hb') (s.free hl0) (fun c o e h1 h2=>s6 c o (s5 c o (aa c o e h1 h2))) (((g.mono i).mono s5).mono s6) hA⟩⟩
    .rw [Y2 (by
      simp only [Yd];intro hz;exact hn (UE (by omega)))]
     exact q3 hn l' G4 (s.free hl0) aa (g.mono i)
theorem Kp(a b:Str):Ex (.str a) (.str b)=decide (a=b):=by
 show(a==b)=_;rw[YF,Vw,Yd]
inductive QW(C:Jg)(vs:List V)(H:Hp)(Q:VK)(E:XK):Prop|mk (ru:_) (_:vs=[.str ru]) (_:∀p a l G,H p=none->H a=none->H l=none->Jo H G->NU C G p a l ru ⟨[],[],none,0⟩->Q (.ref p) G)
theorem uM{C:Jg}(F:Rj P w K mg base "Reading" C 1 ["self","rule"] [] (Q1 C)):Gg P w K mg base "Reading" 1 (QW C):=by
 refine F.ct fun vs H Q h y dx G b n r s i=>?_
 obtain⟨ru,rfl,q⟩:=h;exact⟨y,dx,ru,rfl,i,fun a l H' f c p j g=>⟨rfl,q y a l H' b (s.free f) (s.free c) (fun d o e=>j d o (s d o e) (Te e b)) g⟩⟩
inductive SF(vs:List V)(H:Hp)(Q:VK)(E:XK):Prop|mk (ru:Str) (_:vs=[.str ru]) (_:Q (.bl (decide (ru="first"\/ru="last"\/ru="refuse"))) H)
abbrev O5:Stmt:=top 17
theorem xF:Nv ["value"] ["value"] (Jl O5):=by walk_at"e"
theorem dZ{f aRULES:Jg}{fd:Jb}(F:NK K "is_rule" "is_rule" O5 f fd)(B:Bt mg)(g_RULES:mg "RULES"=some (.ref aRULES))(t_RULES:∀H,N8 K H aRULES [.str "first",.str "last",.str "refuse"]):Ju P w K mg base N7 1 f fd ["value"] SF:=by
 refine F.ok xF (fun vs H Q E h=>?_) (fun b A a s H vs Q E c h=>?_)
 .obtain⟨ru,rfl,_⟩:=h;rfl
 .obtain⟨ru,rfl,k⟩:=h;refine⟨_,(JM (Nk (Dy (Tu (EF "str") B.isinstance (Jv 0 (Nc (hs:=Gu) (B0 (v:=.ty "str") rfl B.bstr (by rfl) rfl) Jt))) (GU (D7 (KF (K:=K) rfl) (Jn 0) (A7 (v:=.ref aRULES) rfl g_RULES rfl) (by with_unfolding_all rfl)))))),?_⟩;walk_at"r";rw[Y3 (by decide)];refine⟨aRULES,_,rfl,.inr (t_RULES H),rfl,rfl,?_⟩;have e:EM (.str ru) [.str "first",.str "last",.str "refuse"]=decide (ru="first"\/ru="last"\/ru="refuse"):=by
   rw[YF];simp only[EM,Kp,Uh,J2,W4,Wz,Yd];exact⟨fun h=>h.imp U9 (Or.imp U9 U9),fun h=>h.imp U9 (Or.imp U9 U9)⟩
  rw[Y2 (by simp),e];exact k
def Du:RS:=⟨[],[],none,0⟩
end
theorem Qp{P:Int->Int->Prop}(la:Bool):∀ (bs:Jh) (st:List (Int×Int)) (n:Int),(∀k x,N9 st k=some x->P k x)->(∀i:Nat,∀x,bs[i]?=some x->P (n+ i) x)->∀k x,N9 (Nq la st n bs) k=some x->P k x
 |[],_,_,h,_=>h
 |b::bs,st,n,h,g=>by
  refine Qp la bs _ (n+ 1) (fun k x hk=>?_) (fun i x hx=>?_)
  .split at hk
   .rw[P3]at hk
    by_cases e:k=n
    .rw[Y3 e]at hk;have:=g 0 b rfl;rw[e,<-Option.some.inj hk];simpa using this
    .rw[Y2 e]at hk;exact h k x hk
   .exact h k x hk
  .have:=g (i+ 1) x hx;have e:n+ ((i+ 1:Nat):Int)=n+ 1+ (i:Int):=by lia
   rwa [e]at this
theorem Qo(la:Bool):∀ (bs:Jh) (st:List (Int×Int)) (n k:Int),(N9 (Nq la st n bs) k).isSome=true↔(N9 st k).isSome=true\/(n <=k/\k < n+ bs.length)
 |[],st,n,k=>by
  show(N9 st k).isSome=true↔_;exact⟨.inl,fun h=>h.elim id fun z=>by simp at z;lia⟩
 |b::bs,st,n,k=>by
  show(N9 (Nq la _ (n+ 1) bs) k).isSome=true↔_;rw[Qo la bs,List.length_cons];have e1:(n+ 1 <=k/\k < n+ 1+ (bs.length:Int))\/k=n↔(n <=k/\k < n+ ((bs.length+ 1:Nat):Int)):=by lia
  rw[<-e1]
  split <;> rename_i hc
  .rw[P3]
   by_cases e:k=n
   .rw[Y3 e];exact⟨fun _=>.inr (.inr e),fun _=>.inl rfl⟩
   .rw[Y2 e];exact⟨fun h=>h.imp id .inl,fun h=>h.imp id fun z=>z.elim id fun z=>absurd z e⟩
  .constructor
   .exact fun h=>h.imp id .inl
   .rintro(h|h|h)
    .exact .inl h
    .exact .inr h
    .left
     rw[h];rcases Bool.eq_false_or_eq_true (N9 st n).isSome with z|z
     .exact z
     .exact absurd (.inr z) hc
def T9(rs:RS):List Int:=(List.range (rs.en.getD 0).toNat).map fun i:Nat=>(N9 rs.st (i:Int)).getD 0
structure DC(rs:RS):Prop where
 cov:DI rs.cv
 dom:∀n,Th rs.cv n↔(N9 rs.st n).isSome=true
 low:∀n,Th rs.cv n->0 <=n
 en:∀e,rs.en=some e->0 <=e/\e <=4000
 top:∀n,Th rs.cv n->n < 4000
theorem DC.zero:DC Du where
 cov:=trivial
 dom:=fun n=>⟨fun h=>absurd h (GE n),fun h=>by cases h⟩
 low:=fun n h=>absurd h (GE n)
 en:=fun e h=>by cases h
 top:=fun n h=>absurd h (GE n)
theorem PD.Ok.end'{d:PD}(h:d.Ok):0 <=d.at'/\d.at'+ d.ns.length <=4000/\1 <=d.ns.length:=by
 have h1:=h.a0;have h2:=h.rm;unfold Eg at h2;refine⟨h1,?_,h.l1⟩
 split at h2
 .simp only[X2,Yd]at h2;omega
 .simp only[Yd]at h2;omega
theorem DC.step{rs:RS}{d:PD}(la:Bool)(h:DC rs)(hd:d.Ok):DC (MM la rs d):=by
 obtain⟨h1,h2,g⟩:=hd.end';have b:=uD (c:=rs.cv) (lo:=d.at') (hi:=d.at'+ d.ns.length) h.cov (by omega);refine⟨b.1,fun n=>?_,fun n f=>?_,fun e a=>?_,fun n f=>?_⟩
 .show Th (NJ rs.cv d.at' (d.at'+ d.ns.length)) n↔(N9 (Nq la rs.st d.at' d.ns) n).isSome=true;rw[b.2,Qo,h.dom]
 .rcases(b.2 n).mp f with z|z
  .exact h.low n z
  .omega
 .have a:(if d.mo=true then rs.en else some (d.at'+ d.ns.length))=some e:=a
  split at a
  .exact h.en e a
  .have:=Option.some.inj a;omega
 .rcases(b.2 n).mp f with z|z
  .exact h.top n z
  .omega
theorem gW{c:List (Int×Int)}(hc:DI c){p:Int×Int}(hp:p∈c):p.1 < p.2:=by
 induction c with
 |nil=>exact nomatch hp
 |cons q r ih=>
  obtain⟨h1,h2,a⟩:=hc;rcases Ym.mp hp with rfl|hp
  .exact h1
  .exact ih a hp
theorem DC.body{rs:RS}(h:DC rs)(hl:Ma rs.en 0 rs.cv=[]):∃e:Nat,rs.en=some (e:Int)/\e <=4000/\(T9 rs).length=e/\∀i:Nat,∀x,(T9 rs)[i]?=some x->N9 rs.st i=some x:=by
 cases he:rs.en with
 |none=>rw[he,Sm h.cov]at hl;exact absurd hl (by simp)
 |some e0=>
  obtain⟨a,b⟩:=h.en e0 he;obtain⟨e,rfl⟩:∃e:Nat,e0=e:=⟨e0.toNat,by omega⟩;rw[he,Zx]at hl;have hs:TK e 0 rs.cv=[]:=WZ.mp hl;have j:∀p∈rs.cv,0 <=p.1:=fun p r=>h.low p.1 ⟨p,r,Xd _,gW h.cov r⟩
  have o:∀n:Int,0 <=n->n < e->Th rs.cv n:=fun n v h1=>by
   have:=(dG (e:=(e:Int)) h.cov j).2.2 n;rw[hs]at this;exact U0 fun z=>GE n (this.mpr ⟨v,h1,z⟩)
  have c:(T9 rs).length=e:=by
   unfold T9;rw[he,Y1,YT];simp
  refine⟨e,rfl,by omega,c,fun i x f=>?_⟩;have hi:i < e:=by rw[<-c];exact(Y4.mp f).1
  have s:=(h.dom i).mp (o i (by omega) (by omega));obtain⟨y,q⟩:=V7.mp s;unfold T9 at f;rw[Ya,U8 (by rw[he];simpa using hi)]at f;have g:(N9 rs.st (i:Int)).getD 0=x:=Option.some.inj f;rw[q]at g;rw[q,<-g];rfl
def oD:Option Int->PyData
 |none=>.none
 |some n=>.int n
def NB(k:Int×Str×Str):List JL:=[Sum.inl k.1,Sum.inr k.2.1,Sum.inr k.2.2]
def TD(k:Int×Str×Str):List V:=[.int k.1,.str k.2.1,.str k.2.2]
theorem R8{k j:Int×Str×Str}(h:NB k=NB j):k=j:=by
 unfold NB at h;simp only[List.cons.injEq,WT,WU,and_true]at h;exact Ui h.1 (Ui h.2.1 h.2.2)
structure RE where
 ky:Int×Str×Str
 p:Addr
 a:Addr
 l:Addr
 rs:RS
 first:Int
structure Js where
 ru:Str
 wt:Int
 sp:Int
 out:Str
 ag:Str
 now:Int
 es:List RE
 ws:List ((Int×Str×Str)×Int)
def B7(R:Js)(dr df dw:Jg):List (Str×V):=[("rule",.str R.ru),("wait",.int R.wt),("space",.int R.sp),("out",.str R.out),("again",.str R.ag),("now",.int R.now),("readings",.ref dr),("firsts",.ref df),("wholes",.ref dw)]
def Dh(es:List RE):List (List JL×V):=es.map fun e=>(NB e.ky,.ref e.p)
def DH(es:List RE):List (List JL×V):=es.map fun e=>(NB e.ky,.int e.first)
def RB(ws:List ((Int×Str×Str)×Int)):List (List JL×V):=ws.map fun e=>(NB e.1,.int e.2)
structure D2(K:Je)(C:Jg):Prop where
 cl:Db K C
 rule:Jx K C "rule"
 wait:Jx K C "wait"
 space:Jx K C "space"
 out:Jx K C "out"
 again:Jx K C "again"
 now:Jx K C "now"
 readings:Jx K C "readings"
 firsts:Jx K C "firsts"
 wholes:Jx K C "wholes"
structure Jr(C CR:Jg)(H:Hp)(m dr df dw:Jg)(R:Js):Prop where
 ex:∃dx fs,H m=some (.ins C dx fs)/\fs.length <=9/\∀f,fs.lookup f=(B7 R dr df dw).lookup f
 dR:H dr=some (.dT (Dh R.es))
 dF:H df=some (.dT (DH R.es))
 dW:H dw=some (.dT (RB R.ws))
 n1:dr≠df
 n2:dr≠dw
 n3:df≠dw
 rd:∀e∈R.es,NU CR H e.p e.a e.l R.ru e.rs
 np:(R.es.map (·.p)).Nodup
 na:(R.es.map (·.a)).Nodup
 nk:(R.es.map (·.ky)).Nodup
section
variable{P:J9}{w:Jd}{K:Je}{mg:J5}{base:Jj}{C CR m dr df dw:Jg}{H G:Hp}{R:Js}
theorem Jr.mono(s:Jo H G)(h:Jr C CR H m dr df dw R):Jr C CR G m dr df dw R:=by
 obtain⟨dx,fs,e,r⟩:=h.ex;exact⟨⟨dx,fs,s _ _ e,r⟩,s _ _ h.dR,s _ _ h.dF,s _ _ h.dW,h.n1,h.n2,h.n3,fun e a=>(h.rd e a).mono s,h.np,h.na,h.nk⟩
theorem Jr.fld(h:Jr C CR H m dr df dw R)(cl:Db K C){f:Str}{v:V}(na:Jx K C f)(e:(B7 R dr df dw).lookup f=some v):Ti K H (.ref m) f v:=by
 obtain⟨dx,fs,a,_,b⟩:=h.ex;exact⟨m,C,dx,fs,rfl,a,cl,na,by rw[b f,e]⟩
theorem Pm(L:D2 K C)(h:Jr C CR H m dr df dw R):Ti K H (.ref m) "rule" (.str R.ru):=h.fld L.cl L.rule rfl
theorem cK(L:D2 K C)(h:Jr C CR H m dr df dw R):Ti K H (.ref m) "wait" (.int R.wt):=h.fld L.cl L.wait rfl
theorem SG(L:D2 K C)(h:Jr C CR H m dr df dw R):Ti K H (.ref m) "space" (.int R.sp):=h.fld L.cl L.space rfl
theorem Ph(L:D2 K C)(h:Jr C CR H m dr df dw R):Ti K H (.ref m) "out" (.str R.out):=h.fld L.cl L.out rfl
theorem cE(L:D2 K C)(h:Jr C CR H m dr df dw R):Ti K H (.ref m) "again" (.str R.ag):=h.fld L.cl L.again rfl
theorem F9(L:D2 K C)(h:Jr C CR H m dr df dw R):Ti K H (.ref m) "now" (.int R.now):=h.fld L.cl L.now rfl
theorem B9(L:D2 K C)(h:Jr C CR H m dr df dw R):Ti K H (.ref m) "readings" (.ref dr):=h.fld L.cl L.readings rfl
theorem FC(L:D2 K C)(h:Jr C CR H m dr df dw R):Ti K H (.ref m) "firsts" (.ref df):=h.fld L.cl L.firsts rfl
theorem Oc(L:D2 K C)(h:Jr C CR H m dr df dw R):Ti K H (.ref m) "wholes" (.ref dw):=h.fld L.cl L.wholes rfl
theorem Jr.mt(h:Jr C CR H m dr df dw R){f:Str}(e:(B7 R dr df dw).lookup f=none):Ro C f H (.ref m):=by
 obtain⟨dx,fs,a,_,b⟩:=h.ex;exact⟨m,dx,fs,rfl,a,by rw[b f,e]⟩
theorem Bz{es:List RE}(hk:(es.map (·.ky)).Nodup){e:RE}(he:e∈es):JP (Dh es) (NB e.ky)=some (.ref e.p):=by
 induction es with
 |nil=>exact nomatch he
 |cons x r ih=>
  unfold Dh JP;rw[List.map_cons,YS];rcases Ym.mp he with rfl|z
  .simp
  .have a:¬NB x.ky=NB e.ky:=fun q=>(YH.mp hk).1 (Y5.mpr ⟨e,z,(R8 q).symm⟩)
   rw[Yz a];exact ih (YH.mp hk).2 z
theorem By{es:List RE}(hk:(es.map (·.ky)).Nodup){e:RE}(he:e∈es):JP (DH es) (NB e.ky)=some (.int e.first):=by
 induction es with
 |nil=>exact nomatch he
 |cons x r ih=>
  unfold DH JP;rw[List.map_cons,YS];rcases Ym.mp he with rfl|z
  .simp
  .have a:¬NB x.ky=NB e.ky:=fun q=>(YH.mp hk).1 (Y5.mpr ⟨e,z,(R8 q).symm⟩)
   rw[Yz a];exact ih (YH.mp hk).2 z
theorem bW{es:List RE}{k:Int×Str×Str}(hk:k∉es.map (·.ky)):JP (Dh es) (NB k)=none:=by
 unfold Dh JP;rw[XY.mpr]
 .rfl
 .intro x a;obtain⟨e,b,rfl⟩:=Y5.mp a;simp only[Yd];exact fun q=>hk (Y5.mpr ⟨e,b,R8 q⟩)
theorem wI{es:List RE}{k:Int×Str×Str}(hk:k∉es.map (·.ky)):JP (DH es) (NB k)=none:=by
 unfold DH JP;rw[XY.mpr]
 .rfl
 .intro x a;obtain⟨e,b,rfl⟩:=Y5.mp a;simp only[Yd];exact fun q=>hk (Y5.mpr ⟨e,b,R8 q⟩)
def Nw(es:List RE)(k:Int×Str×Str):List RE:=es.filter fun e=> !decide (e.ky=k)
theorem nV(es:List RE)(k:Int×Str×Str):Nt (Dh es) (NB k)=Dh (Nw es k):=by
 unfold Nt Dh Nw;rw[U3]
 congr 1
 apply XJ;intro e _;show(!decide (NB e.ky=NB k))= !decide (e.ky=k)
 congr 1
 rw[YF,Yd,Yd];exact⟨R8,YR NB⟩
theorem tX(es:List RE)(k:Int×Str×Str):Nt (DH es) (NB k)=DH (Nw es k):=by
 unfold Nt DH Nw;rw[U3]
 congr 1
 apply XJ;intro e _;show(!decide (NB e.ky=NB k))= !decide (e.ky=k)
 congr 1
 rw[YF,Yd,Yd];exact⟨R8,YR NB⟩
theorem Jr.ne(h:Jr C CR H m dr df dw R):m≠dr/\m≠df/\m≠dw/\∀e∈R.es,m≠e.p/\m≠e.a/\e.p≠dr/\e.p≠df/\e.p≠dw/\e.a≠dr/\e.a≠df/\e.a≠dw:=by
 obtain⟨dx,fs,b,_,f⟩:=h.ex;refine⟨Jm b h.dR nofun,Jm b h.dF nofun,Jm b h.dW nofun,fun e g=>?_⟩;have r:=h.rd e g;obtain⟨i,fs',c,_,_,hs,_⟩:=r.ex;refine⟨fun z=>?_,Jm b r.dk nofun,Jm c h.dR nofun,Jm c h.dF nofun,Jm c h.dW nofun,Jm r.dk h.dR nofun,Jm r.dk h.dF nofun,Jm r.dk h.dW nofun⟩;rw[z,c]at b;cases b;rw[f]at hs;cases hs
def Kf(d:Jg)(H G:Hp):Prop:=∀c o,H c=some o->c≠d->G c=some o
theorem NU.offD{p a l d:Jg}{ru:Str}{rs:RS}{kvs:List (List JL×V)}(b:Kf d H G)(hd:H d=some (.dT kvs))(h:NU CR H p a l ru rs):NU CR G p a l ru rs:=by
 obtain⟨dx,fs,f,r⟩:=h.ex;obtain⟨xs,c,g⟩:=h.cv;exact⟨⟨dx,fs,b _ _ f (Jm f hd nofun),r⟩,b _ _ h.dk (Jm h.dk hd nofun),xs,b _ _ c (Jm c hd nofun),g.tk fun t ys e=>b _ _ e (Jm e hd nofun)⟩
theorem Jr.fldO(h:Jr C CR H m dr df dw R)(hG:∀o,H m=some o->G m=some o)(cl:Db K C){f:Str}{v:V}(na:Jx K C f)(e:(B7 R dr df dw).lookup f=some v):Ti K G (.ref m) f v:=by
 obtain⟨dx,fs,a,_,b⟩:=h.ex;exact⟨m,C,dx,fs,rfl,hG _ a,cl,na,by rw[b f,e]⟩
theorem Zc{es:List RE}{i:Nat}{k:List JL}{v:V}(h:(Dh es)[i]?=some (k,v)):∃e,es[i]?=some e/\k=NB e.ky/\v= .ref e.p:=by
 unfold Dh at h;rw[Ya]at h;obtain⟨e,a,q⟩:=Yl.mp h;cases q;exact⟨e,a,rfl,rfl⟩
theorem Qk{es:List RE}{i:Nat}{k:List JL}{v:V}(h:(DH es)[i]?=some (k,v)):∃e,es[i]?=some e/\k=NB e.ky/\v= .int e.first:=by
 unfold DH at h;rw[Ya]at h;obtain⟨e,a,q⟩:=Yl.mp h;cases q;exact⟨e,a,rfl,rfl⟩
end
section
variable{P:J9}{w:Jd}{K:Je}{mg:J5}{base:Jj}
def Tp(k:Int×Str×Str):Prop:=0 <=k.1/\k.1 <=65535/\M0 k.2.1/\M0 k.2.2
inductive Kz(vs:List V)(H:Hp)(Q:VK)(E:XK):Prop|mk (n lo:Int) (_:vs=[.int n,.int lo]) (_:Q (.bl (decide (lo <=n))) H)
abbrev KQ:Stmt:=top 11
theorem uE:Nv ["value","low"] ["value","low"] (Jl KQ):=by walk_at"e"
theorem wJ{f:Jg}{fd:Jb}(F:NK K "is_whole_from" "is_whole_from" KQ f fd)(Nu:Tc P w K mg base "is_whole" 1 ["value"] [] Fw):Ju P w K mg base N7 2 f fd ["value","low"] Kz:=by
 refine F.ok uE (fun vs H Q E h=>?_) (fun c A a s H vs Q E b h=>?_)
 .obtain⟨n,lo,rfl,_⟩:=h;rfl
 .obtain⟨n,lo,rfl,q⟩:=h;refine⟨_,(JM (Nk (Dy (Tb Nu b.m rfl (Jv 0 Jt)) (GU (D7 (NL Hb) (Jn 0) (Jn 1) (Dx _)))))),?_⟩;walk_at"r";exact⟨_,_,rfl,rfl,_,rfl,q⟩
inductive Z6(vs:List V)(H:Hp)(Q:VK)(E:XK):Prop|mk (ru:Str) (_:vs=[.str ru]) (_:Q (.bl (decide (ru="oldest"\/ru="widest"\/ru="own"))) H)
abbrev L9:Stmt:=top 18
theorem dM:Nv ["value"] ["value"] (Jl L9):=by walk_at"e"
theorem cQ{f aOUTS:Jg}{fd:Jb}(F:NK K "is_out" "is_out" L9 f fd)(B:Bt mg)(g_OUTS:mg "OUTS"=some (.ref aOUTS))(t_OUTS:∀H,N8 K H aOUTS [.str "oldest",.str "widest",.str "own"]):Ju P w K mg base N7 1 f fd ["value"] Z6:=by
 refine F.ok dM (fun vs H Q E h=>?_) (fun b A a s H vs Q E c h=>?_)
 .obtain⟨ru,rfl,_⟩:=h;rfl
 .obtain⟨ru,rfl,k⟩:=h;refine⟨_,(JM (Nk (Dy (Tu (EF "str") B.isinstance (Jv 0 (Nc (hs:=Gu) (B0 (v:=.ty "str") rfl B.bstr (by rfl) rfl) Jt))) (GU (D7 (KF (K:=K) rfl) (Jn 0) (A7 (v:=.ref aOUTS) rfl g_OUTS rfl) (by with_unfolding_all rfl)))))),?_⟩;walk_at"r";rw[Y3 (by decide)];refine⟨aOUTS,_,rfl,.inr (t_OUTS H),rfl,rfl,?_⟩;have e:EM (.str ru) [.str "oldest",.str "widest",.str "own"]=decide (ru="oldest"\/ru="widest"\/ru="own"):=by
   rw[YF];simp only[EM,Kp,Uh,J2,W4,Wz,Yd];exact⟨fun h=>h.imp U9 (Or.imp U9 U9),fun h=>h.imp U9 (Or.imp U9 U9)⟩
  rw[Y2 (by simp),e];exact k
inductive QR(vs:List V)(H:Hp)(Q:VK)(E:XK):Prop|mk (ru:Str) (_:vs=[.str ru]) (_:Q (.bl (decide (ru="fresh"\/ru="rest"))) H)
abbrev Kt:Stmt:=top 19
theorem vZ:Nv ["value"] ["value"] (Jl Kt):=by walk_at"e"
theorem ZY{f aAGAINS:Jg}{fd:Jb}(F:NK K "is_again" "is_again" Kt f fd)(B:Bt mg)(g_AGAINS:mg "AGAINS"=some (.ref aAGAINS))(t_AGAINS:∀H,N8 K H aAGAINS [.str "fresh",.str "rest"]):Ju P w K mg base N7 1 f fd ["value"] QR:=by
 refine F.ok vZ (fun vs H Q E h=>?_) (fun b A a s H vs Q E c h=>?_)
 .obtain⟨ru,rfl,_⟩:=h;rfl
 .obtain⟨ru,rfl,k⟩:=h;refine⟨_,(JM (Nk (Dy (Tu (EF "str") B.isinstance (Jv 0 (Nc (hs:=Gu) (B0 (v:=.ty "str") rfl B.bstr (by rfl) rfl) Jt))) (GU (D7 (KF (K:=K) rfl) (Jn 0) (A7 (v:=.ref aAGAINS) rfl g_AGAINS rfl) (by with_unfolding_all rfl)))))),?_⟩;walk_at"r";rw[Y3 (by decide)];refine⟨aAGAINS,_,rfl,.inr (t_AGAINS H),rfl,rfl,?_⟩;have e:EM (.str ru) [.str "fresh",.str "rest"]=decide (ru="fresh"\/ru="rest"):=by
   rw[YF];simp only[EM,Kp,Uh,J2,W4,Wz,Yd];exact⟨fun h=>h.imp U9 U9,fun h=>h.imp U9 U9⟩
  rw[Y2 (by simp),e];exact k
inductive Fe(C:Jg)(vs:List V)(H:Hp)(Q:VK)(E:XK):Prop|mk (p a l:Jg) (ru:Str) (rs:RS) (_:vs=[.ref p]) (_:NU C H p a l ru rs) (_:Q (.int rs.st.length) H)
abbrev IS:Stmt:=Mv (top 40) 4
theorem jI:Nv ["self"] ["self"] (Jl IS):=by walk_at"e"
theorem mT{f C:Jg}{fd:Jb}(F:NK K "size" "Reading.size" IS f fd)(L:GO K C)(B:Bt mg):Ju P w K mg base N7 1 f fd ["self"] (Fe C):=by
 refine F.ok jI (fun vs H Q E h=>?_) (fun g A c s H vs Q E i h=>?_)
 .obtain⟨p,a,l,ru,rs,rfl,_⟩:=h;rfl
 .obtain⟨p,a,l,ru,rs,rfl,b,q⟩:=h;refine⟨_,(JM (Nk (Tu vE B.len (Dt (Nx K (Jn 0)) Jt)))),?_⟩;walk_at"r";refine⟨_,Ba L b,_,rfl,_,b.dk,?_⟩;have e:(GV rs.st).length=rs.st.length:=Y1 ..;rw[e];exact q
inductive Hv(C CR:Jg)(vs:List V)(H:Hp)(Q:VK)(E:XK):Prop|mk (m dr df dw:Jg) (R:Js) (t:Int) (_:vs=[.ref m,.int t]) (_:Jr C CR H m dr df dw R) (_:R.now <=t) (_:Q .non H)
abbrev Ol:Stmt:=Mv (top 42) 8
theorem d3:Nv ["self","time"] ["self","time"] (Jl Ol):=by walk_at"e"
theorem jG{f C CR:Jg}{fd:Jb}(F:NK K "check_time" "Room.check_time" Ol f fd)(L:D2 K C)(JU:Tc P w K mg base "is_whole_from" 2 ["value","low"] [] Kz):Ju P w K mg base N7 3 f fd ["self","time"] (Hv C CR):=by
 refine F.ok d3 (fun vs H Q E h=>?_) (fun g A a s H vs Q E c h=>?_)
 .obtain⟨m,dr,df,dw,R,t,rfl,_⟩:=h;rfl
 .obtain⟨m,dr,df,dw,R,t,rfl,e,b,q⟩:=h;refine⟨_,(JM (Tg (DD (MO (Tb JU c.m rfl (Jv 1 (Dt (Nx K (Jn 0)) Jt))))) EE TC)),?_⟩;walk_at"r";refine⟨_,F9 L e,t,R.now,rfl,?_⟩;rw[Yt b];exact⟨_,rfl,q⟩
inductive C4(C CR:Jg)(vs:List V)(H:Hp)(Q:VK)(E:XK):Prop|mk (m dr df dw t:Jg) (R:Js) (k:Int×Str×Str) (_:vs=[.ref m,.ref t]) (_:Jr C CR H m dr df dw R) (_:H t=some (.tup (TD k))) (_:k∈R.es.map (·.ky)) (_:∀G,(∀c o,H c=some o->c≠dr->c≠df->G c=some o)->Jr C CR G m dr df dw {R with es:=Nw R.es k}->Q .non G)
abbrev Lu:Stmt:=Mv (top 42) 10
theorem aJ:Nv ["self","key"] ["self","key"] (Jl Lu):=by walk_at"e"
theorem gY{f C CR:Jg}{fd:Jb}(F:NK K "let_go" "Room.let_go" Lu f fd)(L:D2 K C):Ju P w K mg base N7 1 f fd ["self","key"] (C4 C CR):=by
 refine F.ok aJ (fun vs H Q E h=>?_) (fun cdv A outer s H vs Q E hr h=>?_)
 .obtain⟨m,dr,df,dw,t,R,k,rfl,_⟩:=h;rfl
 .obtain⟨m,dr,df,dw,t,R,k,rfl,a,r,hk,q⟩:=h;refine⟨_,(JE (D8 (DQ (K:=K) rfl YN XV Ug (Cm (Gy hr)) (Nx K (Jn 0)) (Jv 1 Jt))) (JM (D8 (DQ (K:=K) rfl YN XV Ug (Cm (Gy hr)) (Nx K (Jn 0)) (Jv 1 Jt))))),?_⟩;walk_at"r";obtain⟨e,he,rfl⟩:=Y5.mp hk;obtain⟨i,nm2,nm3,nme⟩:=a.ne;refine⟨_,B9 L a,.inr (.inr (.inl ⟨rfl,.inr ⟨_,a.dR⟩⟩)),dr,rfl,NB e.ky,_,a.dR,r,_,Bz a.nk he,fun G1 g e1=>?_⟩;have hm1:∀o,H m=some o->G1 m=some o:=fun o h=>g m o h i
  have b:=g df _ a.dF (Ne.symm a.n1);have ht1:=g t _ r (Jm r a.dR nofun);refine⟨_,a.fldO hm1 L.cl L.firsts rfl,.inr (.inr (.inl ⟨rfl,.inr ⟨_,b⟩⟩)),df,rfl,NB e.ky,_,b,ht1,_,By a.nk he,fun G2 v e2=>?_⟩;rw[nV]at e1;rw[tX]at e2;have j:∀c o,H c=some o->c≠dr->c≠df->G2 c=some o:=fun c o h n1 n2=>v c o (g c o h n1) n2
  refine q G2 j ?_;obtain⟨dx,fs,hm,hl,hf⟩:=a.ex;have sub:∀x∈Nw R.es e.ky,x∈R.es:=fun x p=>(Yr.mp p).1
  refine⟨⟨dx,fs,j m _ hm i nm2,hl,hf⟩,v dr _ e1 a.n1,e2,j dw _ a.dW (Ne.symm a.n2) (Ne.symm a.n3),a.n1,a.n2,a.n3,fun x p=>?_,?_,?_,?_⟩
  .have h1:=(a.rd x (sub x p)).offD (G:=G1) (fun c o h n=>g c o h n) a.dR;exact h1.offD (G:=G2) (fun c o h n=>v c o h n) b
  .exact a.np.sublist (Xs _ YM)
  .exact a.na.sublist (Xs _ YM)
  .exact a.nk.sublist (Xs _ YM)
def R9(es:List RE):Int:=(es.map fun e=>(e.rs.st.length:Int)).sum
inductive AN(C CR:Jg)(vs:List V)(H:Hp)(Q:VK)(E:XK):Prop|mk (m dr df dw:Jg) (R:Js) (_:vs=[.ref m]) (_:Jr C CR H m dr df dw R) (_:R.es.length <=1000) (_:(∀e∈R.es,e.rs.st.length <=100000)) (_:∀G,Jo H G->Q (.int (R9 R.es)) G)
abbrev HJ:Stmt:=Mv (top 42) 4
theorem bX:Nv ["self"] ["self"] (Jl HJ):=by walk_at"e"
theorem rN{f C CR:Jg}{fd:Jb}(F:NK K "bytes_kept" "Room.bytes_kept" HJ f fd)(L:D2 K C)(B2:RF mg)(N5:T4 P w K mg base CR "size" 1 ["self"] [] (Fe CR)):Ju P w K mg base N7 2 f fd ["self"] (AN C CR):=by
 refine F.ok bX (fun vs H Q E h=>?_) (fun cdv A outer s H vs Q E hr h=>?_)
 .obtain⟨m,dr,df,dw,R,rfl,_⟩:=h;rfl
 .obtain⟨m,dr,df,dw,R,rfl,g,hl,hb,q⟩:=h;refine⟨_,(JM (Nk (Tu (F2 (K:=K) rfl rfl) B2.sum (Nc (hs:=Rt) (Bg (Gk (N':=["key","self"]) (caps:=[none,some 0]) (Do (sc:=Jl HJ) (N:=["self"]) rfl rfl (by decide +kernel)) rfl (Bi (Nx K (Jn 0))) (fun _ _ _ _ _=>(D0 (i:=0) (Dm (N:=["key","self"]) rfl (by decide +kernel)) rfl (Or.inl rfl))) (fun _ _ _ _ _=>Gj) (fun _ _ _ _ _=>(Dc (GJ hr (Nx K (Jn 1)) (Jn 0)) N5 hr.m)))) Jt)))),?_⟩;walk_at"r";obtain⟨nm1,nm2,nm3,nme⟩:=g.ne;have hrl:(Dh R.es).length=R.es.length:=Y1 ..;refine Ai g.dR (fun Rr h=>by walk_at"r";exact⟨_,B9 L g,h⟩) (fun i ys σ'=>ys=((R.es.take i).map fun e=>V.int e.rs.st.length)/\∃v,σ'=[v,some (.ref m)]) ⟨rfl,_,rfl⟩ ?_ (by lia) ?_ ?_
  .rintro i ys σ' ⟨rfl,_⟩;rw[Y1,Yu];lia
  .rintro Hf o hfo hfd i b k v ys σ' hk hb ⟨rfl,v0,rfl⟩;obtain⟨e,he,rfl,rfl⟩:=Zc hk;have hmem:=Yk he;have hbd:b≠dr:=Jm hb g.dR nofun;have aa:Kf dr H Hf:=fun c o h n=>by rw[hfo c n];exact h
   have hr1:=(g.rd e hmem).offD aa g.dR;walk_at"r";refine⟨_,g.fldO (fun o h=>aa m o h nm1) L.cl L.readings rfl,_,rfl,_,.inr ⟨_,_,b,.inr ⟨o,hfd⟩,rfl,aa b _ hb hbd,(Bz g.nk hmem).symm⟩,?_⟩;refine⟨Ko hr1,e.p,e.a,e.l,R.ru,e.rs,rfl,hr1,?_⟩;rw[YQ,he,XX,Yh];exact⟨rfl,rfl⟩
  .rintro ys σ' ⟨rfl,_⟩ p G hp s1 e1;rw[hrl,Yv (Y9 _)]at e1;have em:(R.es.map fun e=>V.int e.rs.st.length)=(R.es.map fun e=>(e.rs.st.length:Int)).map V.int:=by rw[Yw];rfl
   rw[em]at e1;have bd:∀x∈R.es.map (fun e=>(e.rs.st.length:Int)),0 <=x/\x <=100000:=fun x hx=>by
    obtain⟨e,he,rfl⟩:=Y5.mp hx;have:=hb e he;lia
   have sm:∀l:List Int,(∀x∈l,0 <=x/\x <=100000)->0 <=l.sum/\l.sum <=100000*l.length:=fun l=>by
    induction l with
    |nil=>intro _;simp
    |cons x r ih=>
     intro h;have h1:=ih fun y hy=>h y (Yp _ hy)
     have h2:=h x YE;rw[V0,List.length_cons];lia
   refine⟨p,rfl,_,JA.of e1,fun x hx=>by have:=bd x hx;lia,fun j hj=>?_,q G s1⟩;have h1:=sm _ fun x hx=>bd x (YV (i:=j) hx)
   have h2:((R.es.map fun e=>(e.rs.st.length:Int)).take j).length <=1000:=by rw[Yu,Y1];lia
   lia
end
theorem BF{α β:Type}{f:α->β}:∀{l:List α} {x y:α},(l.map f).Nodup->x∈l->y∈l->x≠y->f x≠f y
 |[],_,_,_,hx,_,_=>nomatch hx
 |z::r,x,y,hn,hx,hy,ne=>by
  obtain⟨h1,h2⟩:=YH.mp hn;rcases Ym.mp hx with e1|hx2
  .rcases Ym.mp hy with e2|hy2
   .exact absurd (e1.trans e2.symm) ne
   .exact fun q=>h1 (Y5.mpr ⟨y,hy2,by rw[<-e1];exact q.symm⟩)
  .rcases Ym.mp hy with e2|hy2
   .exact fun q=>h1 (Y5.mpr ⟨x,hx2,by rw[<-e2];exact q⟩)
   .exact BF h2 hx2 hy2 ne
def Aa(ws:List ((Int×Str×Str)×Int))(k:Int×Str×Str):Option Int:=(ws.find? fun x=>decide (x.1=k)).map (·.2)
theorem Ql(ws:List ((Int×Str×Str)×Int))(k:Int×Str×Str):JP (RB ws) (NB k)=(Aa ws k).map V.int:=by
 unfold RB JP Aa
 induction ws with
 |nil=>rfl
 |cons x r ih=>
  rw[List.map_cons,YS,YS]
  by_cases h:x.1=k
  .rw[Yt h,Yt (by rw[h])];rfl
  .rw[Yz h,Yz (fun z=>h (R8 z))];exact ih
def Ae(R:Js)(k:Int×Str×Str):Bool:=decide (R.ag="rest") && (match Aa R.ws k with|some t=>decide (R.now < t+ R.wt)|none=>false)
def Nn(R:Js)(e:RE):Bool:=decide (e.first+ R.wt <=R.now)
def DA(R:Js):List (Int×Ky):=(R.es.filter (Nn R)).map fun e=>(e.first,e.ky)
def A3(R:Js):List RE:=R.es.filter fun e=> !Nn R e
def TF(G:Hp)(l:Jg)(ks:List Ky)(why:Str):Prop:=∃ts:List (Addr×Addr),ts.length=ks.length/\G l=some (.lst (ts.map fun t=>.ref t.1))/\∀ (i:Nat) t k,ts[i]?=some t->ks[i]?=some k->G t.1=some (.tup [.str "gone",.ref t.2,.str why])/\G t.2=some (.tup (TD k))
section
variable{P:J9}{w:Jd}{K:Je}{mg:J5}{base:Jj}
inductive Ox(C CR:Jg)(vs:List V)(H:Hp)(Q:VK)(E:XK):Prop|mk (m dr df dw t:Jg) (R:Js) (k:Int×Str×Str) (_:vs=[.ref m,.ref t]) (_:Jr C CR H m dr df dw R) (_:H t=some (.tup (TD k))) (_:Q (.bl (Ae R k)) H)
abbrev LL:Stmt:=Mv (top 42) 12
theorem xH:Nv ["self","key"] ["self","key"] (Jl LL):=by walk_at"e"
theorem eE{f C CR:Jg}{fd:Jb}(F:NK K "is_resting" "Room.is_resting" LL f fd)(L:D2 K C):Ju P w K mg base N7 1 f fd ["self","key"] (Ox C CR):=by
 refine F.ok xH (fun vs H Q E h=>?_) (fun g A e s H vs Q E c h=>?_)
 .obtain⟨m,dr,df,dw,t,R,k,rfl,_⟩:=h;rfl
 .obtain⟨m,dr,df,dw,t,R,k,rfl,a,b,q⟩:=h;refine⟨_,(JM (Nk (Dy (D7 (GK GG) (Nx K (Jn 0)) Tj (Dx _)) (Dy (D7 (Zi (Gy c)) (Jn 1) (Nx K (Jn 0)) (by with_unfolding_all rfl)) (GU (D7 (NL C5) (Nx K (Jn 0)) (Na (NL Mo) (GJ c (Nx K (Jn 0)) (Jn 1)) (Nx K (Jn 0))) (Dx _))))))),?_⟩;walk_at"r";refine⟨_,cE L a,rfl,?_⟩;unfold Ae at q
  by_cases h1:R.ag="rest"
  .rw[Y3 (by rw[h1];simp)];refine⟨_,Oc L a,dw,rfl,NB k,_,.inl a.dW,b,?_⟩;rw[Yt h1,U5]at q;rw[Ql];cases h2:Aa R.ws k with
   |none=>rw[h2]at q;exact q
   |some t0=>
    rw[h2]at q;exact⟨_,F9 L a,_,Oc L a,dw,rfl,_,.inr ⟨_,NB k,t,.inl a.dW,rfl,b,by rw[Ql,h2];rfl⟩,_,cK L a,_,rfl,_,rfl,_,rfl,q⟩
  .rw[Y2 (by simpa using fun z=>h1 z)];rw[Yz h1,XF]at q;exact q
theorem Jr.butL{C CR m dr df dw l:Jg}{H G:Hp}{R:Js}{xs:List V}(h:Jr C CR H m dr df dw R)(b:Nd l H G)(hl:H l=some (.lst xs))(hn:∀e∈R.es,e.l≠l):Jr C CR G m dr df dw R:=by
 obtain⟨dx,fs,g,r⟩:=h.ex;refine⟨⟨dx,fs,b _ _ g (Jm g hl nofun),r⟩,b _ _ h.dR (Jm h.dR hl nofun),b _ _ h.dF (Jm h.dF hl nofun),b _ _ h.dW (Jm h.dW hl nofun),h.n1,h.n2,h.n3,fun x c=>?_,h.np,h.na,h.nk⟩;have r:=h.rd x c;obtain⟨j,i,f,n⟩:=r.ex;obtain⟨ys,a,o⟩:=r.cv;exact⟨⟨j,i,b _ _ f (Jm f hl nofun),n⟩,b _ _ r.dk (Jm r.dk hl nofun),ys,b _ _ a (hn x c),o.tk (My b hl)⟩
theorem SL{R:Js}(hk:(R.es.map (·.ky)).Nodup){e:RE}(he:e∈R.es){p:Int×Ky}(hp:p∈DA R)(h:e.ky=p.2):Nn R e=true/\e.first=p.1:=by
 obtain⟨x,a,rfl⟩:=Y5.mp hp;obtain⟨h1,h2⟩:=Yr.mp a;have:e=x:=U0 fun ne=>BF hk he h1 ne h
 rw[this];exact⟨h2,rfl⟩
def E4(R:Js)(ps:List (Int×Ky)):List RE:=R.es.filter fun e=> !decide ((e.first,e.ky)∈ps)
theorem xG(R:Js):E4 R []=R.es:=by
 unfold E4;rw[Xc];intro e _;simp
theorem yI{R:Js}(hk:(R.es.map (·.ky)).Nodup){ps:List (Int×Ky)}(h:ps.Perm (DA R)):E4 R ps=A3 R:=by
 unfold E4 A3;apply XJ;intro e a
 congr 1
 rw[YF,Yd,h.mem_iff];exact⟨fun z=>(SL hk a z rfl).1,fun z=>Y5.mpr ⟨e,Yr.mpr ⟨a,z⟩,rfl⟩⟩
theorem vO{R:Js}(hk:(R.es.map (·.ky)).Nodup){qs:List (Int×Ky)}{p:Int×Ky}(hp:p∈DA R):Nw (E4 R qs) p.2=E4 R (qs++[p]):=by
 unfold Nw E4;rw[VW];apply XJ;intro e a;rw[YF];simp only[X2,Xx,Xe,Yq,Yb,not_or];refine⟨fun z=>⟨z.2,fun q=>z.1 (by rw[<-q])⟩,fun z=>⟨fun q=>z.2 ?_,z.1⟩⟩;obtain⟨_,h2⟩:=SL hk a hp q;rw[h2,q]
theorem tF{R:Js}(hk:(R.es.map (·.ky)).Nodup):(DA R).Nodup:=by
 have h1:((R.es.filter (Nn R)).map (·.ky)).Nodup:=hk.sublist (Xs _ YM);unfold DA;rw[XS,List.pairwise_map]at h1 ⊢;exact h1.imp fun h z=>h (YR (·.2) z)
def Gh(H:Hp)(x:V)(q:Int×Ky):Prop:=∃t b,x= .ref t/\H t=some (.tup [.int q.1,.ref b])/\H b=some (.tup (TD q.2))
inductive FH(C CR:Jg)(vs:List V)(H:Hp)(Q:VK)(E:XK):Prop|mk (m dr df dw:Jg) (R:Js) (_:vs=[.ref m]) (_:Jr C CR H m dr df dw R) (_:R.es.length <=1000) (_:∀ (ps:List (Int×Ky)) l G,ps.Perm (DA R)->ps.Pairwise (fun a b=>JS b a=false)->H l=none->(∀c o,H c=some o->c≠dr->c≠df->G c=some o)->Jr C CR G m dr df dw {R with es:=A3 R}->TF G l (ps.map (·.2)) "wait"->Q (.ref l) G)
abbrev FE:Stmt:=Mv (top 42) 11
theorem Ce:Nv ["self","over","events","first","key"] ["self"] (Jl FE):=by walk_at"e"
theorem nY{f C CR:Jg}{fd:Jb}(F:NK K "end_waits" "Room.end_waits" FE f fd)(L:D2 K C)(B2:RF mg)(JY:T4 P w K mg base C "let_go" 1 ["self","key"] [] (C4 C CR)):Ju P w K mg base N7 2 f fd ["self"] (FH C CR):=by
 refine F.ok Ce (fun vs H Q E h=>?_) (fun cdv A outer s H vs Q E hr h=>?_)
 .obtain⟨m,dr,df,dw,R,rfl,_⟩:=h;rfl
 .obtain⟨m,dr,df,dw,R,rfl,hR,hl,q⟩:=h;refine⟨_,(JE (HQ (HE (i:=1) (N':=["key","self"]) (caps:=[none,some 0]) (Do (sc:=Jl FE) (N:=["self","over","events","first","key"]) rfl rfl (by decide +kernel)) rfl (Ce).nd rfl (Or.inl rfl) (Bi (Nx K (Jn 0))) (fun _ _ _ _ _=>(D0 (i:=0) (Dm (N:=["key","self"]) rfl (by decide +kernel)) rfl (Or.inl rfl))) (fun _ _ _ _ _=>(Fd (Tx (NL Eb) (Na (NL Mo) (GJ hr (Nx K (Jn 1)) (Jn 0)) (Nx K (Jn 1))) (Nx K (Jn 1))))) (fun _ _ _ _ _=>(MR (Dq (GJ hr (Nx K (Jn 1)) (Jn 0)) (Jv 0 Jt)))) rfl)) (JE (Tr 2 Ce (Dn Jt)) (JE (Ed Xh rfl (GS (K:=K) rfl (Tu (Zf (K:=K) (Room.units hr) rfl) B2.sorted (Jv 1 Jt))) (ET (K:=K) (n:=2) rfl rfl (DK (Dr 3 Ce) (DK (Dr 4 Ce) EJ))) (JE (D8 (DM (Jn 0) JY hr.m (Jv 4 Jt))) (JM (D8 (DQ (K:=K) rfl YW YY YZ (Ei Em) (Jn 2) (Nc (hs:=GM) (MR (TH Tj (Jv 4 (TH Tj Jt)))) Jt)))))) (JM (Nk (Jn 2)))))),?_⟩;refine Nl fun N hN=>?_
  walk_at"r";obtain⟨nm1,nm2,nm3,nme⟩:=hR.ne;have hrl:(DH R.es).length=R.es.length:=Y1 ..;refine mY (Zt hR.dF (fun Rr h=>by walk_at"r";exact⟨_,FC L hR,h⟩) (fun i ys σ' Hf=>Pw (Gh Hf) ys (((R.es.take i).filter (Nn R)).map fun e=>(e.first,e.ky))/\∃v,σ'=[v,some (.ref m)]) (fun Hf _=>⟨Pw.nil,_,rfl⟩) ?_ (by lia) ?_ ?_)
  .rintro i ys σ' Hf ⟨h1,_⟩;rw[h1.1,Y1];exact YD (YB ..) (by rw[Yu];lia)
  .rintro Hf o off hfd i b k v ys σ' hk hb ⟨h1,v0,rfl⟩;obtain⟨e,he,rfl,rfl⟩:=Qk hk;have hmem:=Yk he;have hmo:=fun o h=>off m o h nm2
   walk_at"r";refine⟨_,hR.fldO hmo L.cl L.firsts rfl,_,rfl,_,.inr ⟨_,_,b,.inr ⟨o,hfd⟩,rfl,hb,(By hR.nk hmem).symm⟩,_,hR.fldO hmo L.cl L.wait rfl,_,rfl,_,rfl,_,hR.fldO hmo L.cl L.now rfl,_,rfl,?_⟩;rw[YQ,he,XX,XE,Yh]
   by_cases ho:e.first+ R.wt <=R.now
   .rw[Y3 (Yt ho)];have e0:[e].filter (Nn R)=[e]:=by simp[Nn,ho]
    refine⟨_,hR.fldO hmo L.cl L.firsts rfl,_,rfl,_,.inr ⟨_,_,b,.inr ⟨o,hfd⟩,rfl,hb,(By hR.nk hmem).symm⟩,Ni (by simp),fun p G hp s1 e1=>⟨?_,s1⟩⟩;rw[e0];exact(h1.imp fun x y ⟨t,b,h1,h2,h3⟩=>⟨t,b,h1,s1 _ _ h2,s1 _ _ h3⟩).snoc ⟨p,b,rfl,e1,s1 _ _ hb⟩
   .rw[Y2 (by simpa using ho)];have e0:[e].filter (Nn R)=[]:=by simp[Nn,ho]
    rw[e0,List.map_nil,List.append_nil];exact⟨h1,Jo.refl _⟩
  .rintro ys σ' Hn ⟨h1,_⟩ hold p G hp s1 s2 e1;rw[hrl,Yv (Y9 _)]at h1;refine hN _ _ ?_;clear hN N;walk_at"r";have hG:=hR.mono s1;have ne2:∀{x:V} {y:Int×Ky},Gh Hn x y->Gh G x y:=fun {x y} ⟨t,b,h1,h2,h3⟩=>⟨t,b,h1,s2 _ _ h2 (fun _ _ z=>nomatch z),s2 _ _ h3 (fun _ _ z=>nomatch z)⟩
   have h2:Pw (Gh G) ys (DA R):=h1.imp fun x y=>ne2
   refine⟨Ni (by simp),fun p1 G1 hp1 s3 e2=>⟨ys,JA.of (s3 p _ e1),DA R,h2.1,fun i x q a b=>?_,?_,fun r l G2 hperm hsort hl0 s4 e4=>?_⟩⟩
   .obtain⟨t,b,h1,h3,h4⟩:=h2.2 i x q a b;exact⟨t,h1,b,N8.of (s3 _ _ h3),N8.of (s3 _ _ h4)⟩
   .rw[h2.1];unfold DA;rw[Y1];exact YD (YD (YB ..) hl) (by decide)
   obtain⟨ps,eps⟩:∃ps:List (Int×Ky),ps=r.map fun i=>(DA R).getD i (0,0,"",""):=⟨_,rfl⟩
   obtain⟨zs,ezs⟩:∃zs:List V,zs=r.map fun i=>ys.getD i .non:=⟨_,rfl⟩
   have hpp:ps.Perm (DA R):=by rw[eps];exact QN (by rw[<-h2.1];exact hperm)
   have hps:ps.Pairwise (fun a b=>JS b a=false):=by rw[eps];exact hsort
   have hzp:Pw (Gh G2) zs ps:=by
    rw[ezs,eps];refine(h2.pick r fun i hi=>by simpa using hperm.mem_iff.mp hi).imp fun x y ⟨t,b,h1,h3,h4⟩=>⟨t,b,h1,s4 _ _ (s3 _ _ h3),s4 _ _ (s3 _ _ h4)⟩
   rw[<-ezs]at e4;clear hsort hperm eps ezs;refine⟨⟨_,JA.of e4⟩,?_⟩;have hR2:=hG.mono (s3.trans s4);refine Bm (xs:=zs) (fun i σ' G'=>(∃a b,σ'=[some (.ref m),some (.ref p),some (.ref p1),a,b])/\(∀c o,G2 c=some o->c≠dr->c≠df->c≠p1->G' c=some o)/\Jr C CR G' m dr df dw {R with es:=E4 R (ps.take i)}/\TF G' p1 ((ps.take i).map (·.2)) "wait") ⟨⟨_,_,rfl⟩,fun c o h _ _ _=>h,?_,?_⟩ (fun i σ' G' _ h=>?_) (fun i x σ' G' hx h=>?_) fun σ' G' h=>?_
   .rw[List.take_zero,xG];exact hR2
   .exact⟨[],rfl,s4 _ _ e2,fun i t k h=>by simp at h⟩
   .exact JA.of (h.2.1 l _ e4 (Jm e4 hR2.dR nofun) (Jm e4 hR2.dF nofun) (fun z=>by rw[z,e2]at hl0;cases hl0))
   .obtain⟨⟨a,b,rfl⟩,kp,g,hE⟩:=h;obtain⟨pr,hpr,t,tb,rfl,ht,htb⟩:=hzp.get hx;have hkeep:∀{c:Jg} {xs:List V},G2 c=some (.tup xs)->G' c=some (.tup xs):=fun {c xs} h=>kp c _ h (Jm h hR2.dR nofun) (Jm h hR2.dF nofun) (Jm h (s4 _ _ e2) nofun)
    have hop:pr∈DA R:=hpp.mem_iff.mp (Yk hpr);have hpt:ps.take (i+ 1)=ps.take i++[pr]:=by rw[YQ,hpr];rfl
    have hin:pr.2∈(E4 R (ps.take i)).map (·.ky):=by
     obtain⟨e,he,rfl⟩:=Y5.mp hop;refine Y5.mpr ⟨e,Yr.mpr ⟨(Yr.mp he).1,?_⟩,rfl⟩;have hnd:(ps.take (i+ 1)).Nodup:=((hpp.nodup_iff).mpr (tF hR.nk)).sublist (Ul ..);rw[hpt,Um]at hnd;simp only[Xx,Xe];exact fun z=>hnd.2.2 _ z _ (Yb.mpr rfl) rfl
    walk_at"r";refine⟨_,N8.of (hkeep ht),rfl,?_⟩;walk_at"r";refine⟨g.mt rfl,m,dr,df,dw,tb,_,pr.2,rfl,g,hkeep htb,hin,fun G3 kp3 hR3=>?_⟩;obtain⟨ts,h1',h2',h3'⟩:=hE;have d1:=Jm h2' g.dR nofun;have d2:=Jm h2' g.dF nofun;have hp3:=kp3 p1 _ h2' d1 d2;have k3:∀{c:Jg} {xs:List V},G' c=some (.tup xs)->G3 c=some (.tup xs):=fun {c xs} h=>kp3 c _ h (Jm h g.dR nofun) (Jm h g.dF nofun)
    have hR3:Jr C CR G3 m dr df dw {R with es:=E4 R (ps.take (i+ 1))}:=by rw[hpt,<-vO hR.nk hop];exact hR3
    have htl:ts.length <=1000:=by
     rw[h1',Y1,Yu];have:=hpp.length_eq;unfold DA at this;rw[Y1]at this;have:=YB (Nn R) R.es
     lia
    refine⟨.inl ⟨rfl,_,JA.of hp3⟩,Ni (by simp),fun t3 G4 ht3 s5 e5=>⟨_,s5 _ _ hp3,Yn (by rw[Y1];exact htl) (by rw[YG];decide),fun G5 b5 e6=>⟨fun c o h n1 n2 n3=>b5 c o (s5 c o (kp3 c o (kp c o h n1 n2 n3) n1 n2)) n3,(hR3.mono s5).butL b5 (s5 _ _ hp3) (fun e he=>?_),?_⟩⟩⟩
    .obtain⟨ys',hy,_⟩:=(hR.rd e (Yr.mp he).1).cv;exact fun z=>by rw[z]at hy;rw[s1 _ _ hy]at hp1;cases hp1
    .have k5:∀{c:Jg} {xs:List V},G4 c=some (.tup xs)->G5 c=some (.tup xs):=fun {c xs} h=>b5 c _ h (Jm h (s5 _ _ hp3) nofun)
     refine⟨ts++[(t3,tb)],?_,by rw[e6,Yh];rfl,?_⟩
     .rw[hpt,List.length_append,Yh,List.length_append,h1'];rfl
     .have hw : Pw (fun (t : Addr × Addr) (k : Ky) => G5 t.1 = some (.tup [.str "gone", .ref t.2, .str "wait"]) /\ G5 t.2 = some (.tup (TD k))) ts ((ps.take i).map (·.2)) := ⟨h1', fun j x y a b => by
       obtain ⟨z1, z2⟩ := h3' j x y a b;exact ⟨k5 (s5 _ _ (k3 z1)), k5 (s5 _ _ (k3 z2))⟩⟩
      rw[hpt,Yh];exact(hw.snoc (x:=(t3,tb)) (y:=pr.2) ⟨k5 e5,k5 (s5 _ _ (k3 (hkeep htb)))⟩).2
   .obtain⟨⟨a,b,rfl⟩,kp,g,hE⟩:=h;rw[hzp.1,Yv (Y9 _)]at g hE;rw[yI hR.nk hpp]at g;walk_at"r";refine q ps p1 G' hpp hps (s1.free hp1) (fun c o h n1 n2=>kp c o (s4 _ _ (s3 _ _ (s1 _ _ h))) n1 n2 (fun z=>?_)) g hE;rw[z]at h;rw[s1 _ _ h]at hp1;cases hp1
end
inductive DS where
 |str
 |unl (n:Int)
 |keep (rs:RS)
 |whole (rs:RS)
def Ny(ru:Str)(rs:RS)(d:PD):DS:=
 if strange rs d=true then(if ru="refuse" then .unl d.at' else .str) else
  match (if ru="refuse" then Ts rs.st d.at' d.ns else none) with
  |some n=>.unl n
  |none=>if Ma (MM (decide (ru="last")) rs d).en 0 (MM (decide (ru="last")) rs d).cv=[] then .whole (MM (decide (ru="last")) rs d) else .keep (MM (decide (ru="last")) rs d)
def Mu(es:List RE)(k:Int×Str×Str):RS:=match es.find? fun e=>decide (e.ky=k) with|some e=>e.rs|none=>Du
def EV(R:Js)(m dr df dw c:Jg):Prop:=c=m\/c=dr\/c=df\/c=dw\/∃e∈R.es,c=e.p\/c=e.a
def MI(R:Js)(m dr df dw:Jg)(H G:Hp):Prop:=∀c o,H c=some o->¬EV R m dr df dw c->G c=some o
abbrev AE:=(Int×Str×Str)×RS×Int
def Jp(es:List RE):List AE:=es.map fun e=>(e.ky,e.rs,e.first)
def No(xs:List AE)(k:Int×Str×Str)(rs:RS)(now:Int):List AE:=if k∈xs.map (·.1) then xs.map (fun x=>if x.1=k then(k,rs,x.2.2) else x) else xs++[(k,rs,now)]
def JD(xs:List AE)(k:Int×Str×Str):List AE:=xs.filter fun x=> !decide (x.1=k)
structure M6(C CR:Jg)(H G:Hp)(m dr df dw:Jg)(R R':Js)(xs:List AE)(ws:List ((Int×Str×Str)×Int)):Prop where
 kp:MI R m dr df dw H G
 ok:Jr C CR G m dr df dw R'
 es:Jp R'.es=xs
 ws':R'.ws=ws
 pr:R'.ru=R.ru/\R'.wt=R.wt/\R'.sp=R.sp/\R'.out=R.out/\R'.ag=R.ag/\R'.now=R.now
 nw:∀e∈R'.es,(∃e0∈R.es,e.p=e0.p/\e.a=e0.a)\/(H e.p=none/\H e.a=none)
 nl:∀e∈R'.es,(∃e0∈R.es,e.l=e0.l)\/H e.l=none
section
variable{P:J9}{w:Jd}{K:Je}{mg:J5}{base:Jj}
inductive Sv(C:Jg)(vs:List V)(H:Hp)(Q:VK)(E:XK):Prop|mk (m dx:Jg) (ru out ag:Str) (wt sp:Int) (_:vs=[.ref m,.str ru,.int wt,.int sp,.str out,.str ag]) (_:H m=some (.ins C dx [])) (_:(ru="first"\/ru="last"\/ru="refuse")) (_:1 <=wt) (_:1 <=sp) (_:(out="oldest"\/out="widest"\/out="own")) (_:(ag="fresh"\/ag="rest")) (_:∀dr df dw G,H dr=none->H df=none->H dw=none->Nd m H G->(∀CR,Jr C CR G m dr df dw ⟨ru,wt,sp,out,ag,0,[],[]⟩)->Q .non G)
abbrev NW:Stmt:=Mv (top 42) 0
theorem tD:Nv ["self","rule","wait","space","out","again"] ["self","rule","wait","space","out","again"] (Jl NW):=by walk_at"e"
theorem wZ{f C:Jg}{fd:Jb}(F:Ha K f fd "Room.__init__" NW)(L:D2 K C)(MH:Tc P w K mg base "is_rule" 1 ["value"] [] SF)(JU:Tc P w K mg base "is_whole_from" 2 ["value","low"] [] Kz)(D1:Tc P w K mg base "is_out" 1 ["value"] [] Z6)(M9:Tc P w K mg base "is_again" 1 ["value"] [] QR):Ju P w K mg base N7 3 f fd ["self","rule","wait","space","out","again"] (Sv C):=by
 obtain⟨oc,od,dV,kV,doc,pm,an,cdv,ct,osl,rfl,lk,hcd⟩:=F;refine EZ lk hcd tD (fun vs H Q E h=>?_) (fun A j s H vs Q E g h=>?_)
 .obtain⟨m,dx,ru,out,ag,wt,sp,rfl,_⟩:=h;rfl
 .obtain⟨m,dx,ru,out,ag,wt,sp,rfl,hm,h1,h2,h3,h4,h5,q⟩:=h
  suffices hh:∃t,Dl (Mz N7 P w K mg base _ "Room.__init__" (Jl NW) f cdv A j s H E).nox (Jy NW) t/\t {nx:=fun _ H'=>Q .non H',rt:=Q} (L2.start _ _) H by
   obtain⟨t,h1,h2⟩:=hh;exact⟨t,h1.nox,h2⟩
  refine⟨_,(JE (Tg (DD (MO (Tb MH g.m rfl (Jv 1 Jt)))) EE TC) (JE (Tg (PW.pt (RD (DD (MO (Tb JU g.m rfl (Jv 2 (TH JI Jt))))) (RJ (DD (MO (Tb JU g.m rfl (Jv 3 (TH JI Jt)))))))) EE TC) (JE (Tg (PW.pt (RD (DD (MO (Tb D1 g.m rfl (Jv 4 Jt)))) (RJ (DD (MO (Tb M9 g.m rfl (Jv 5 Jt))))))) EE TC) (JE (Dg (K:=K) rfl (Jn 0) (Jn 1) rfl) (JE (Dg (K:=K) rfl (Jn 0) (Jn 2) rfl) (JE (Dg (K:=K) rfl (Jn 0) (Jn 3) rfl) (JE (Dg (K:=K) rfl (Jn 0) (Jn 4) rfl) (JE (Dg (K:=K) rfl (Jn 0) (Jn 5) rfl) (JE (Dg (K:=K) rfl (Jn 0) JI rfl) (JE (Dg (K:=K) rfl (Jn 0) CV rfl) (JE (Dg (K:=K) rfl (Jn 0) CV rfl) (JM (Dg (K:=K) rfl (Jn 0) CV rfl))))))))))))),?_⟩;refine Nl fun N b=>?_
  walk_at"r";refine⟨ru,rfl,?_⟩;rw[Yt h1];refine⟨_,rfl,?_⟩;rw[Y2 (by simp)];refine b _ _ ?_;clear b N;refine Nl fun N b=>?_
  walk_at"r";refine⟨wt,1,rfl,?_⟩;rw[Yt h2];refine⟨_,rfl,?_⟩;rw[Y2 (by simp)];refine⟨sp,1,rfl,?_⟩;rw[Yt h3];refine⟨_,rfl,?_⟩;rw[Y2 (by simp)];refine b _ _ ?_;clear b N;refine Nl fun N b=>?_
  walk_at"r";refine⟨out,rfl,?_⟩;rw[Yt h4];refine⟨_,rfl,?_⟩;rw[Y2 (by simp)];refine⟨ag,rfl,?_⟩;rw[Yt h5];refine⟨_,rfl,?_⟩;rw[Y2 (by simp)];refine b _ _ ?_;clear b N;walk_at"r";have a:([]:List (Str×V)).length <=0:=Y9 0;refine⟨C,dx,[],hm,L.cl,L.rule,by decide,fun G1 b1 g1=>?_⟩;refine⟨C,dx,_,g1,L.cl,L.wait,Yn (JT a) (by decide),fun G2 b2 g2=>?_⟩;refine⟨C,dx,_,g2,L.cl,L.space,Yn (JT (JT a)) (by decide),fun G3 b3 g3=>?_⟩;refine⟨C,dx,_,g3,L.cl,L.out,Yn (JT (JT (JT a))) (by decide),fun G4 b4 g4=>?_⟩;refine⟨C,dx,_,g4,L.cl,L.again,Yn (JT (JT (JT (JT a)))) (by decide),fun G5 b5 g5=>?_⟩;refine⟨C,dx,_,g5,L.cl,L.now,Yn (JT (JT (JT (JT (JT a))))) (by decide),fun G6 b6 g6=>?_⟩;intro dr Ga ha sa ga;refine⟨C,dx,_,sa _ _ g6,L.cl,L.readings,Yn (JT (JT (JT (JT (JT (JT a)))))) (by decide),fun G7 b7 g7=>?_⟩;intro df Gb hb z gb;refine⟨C,dx,_,z _ _ g7,L.cl,L.firsts,Yn (JT (JT (JT (JT (JT (JT (JT a))))))) (by decide),fun G8 b8 g8=>?_⟩;intro dw Gc r i gc;refine⟨C,dx,_,i _ _ g8,L.cl,L.wholes,Yn (JT (JT (JT (JT (JT (JT (JT (JT a)))))))) (by decide),fun G9 v g9=>?_⟩;have p:dr≠m:=Ne.symm (Te g6 ha);have n2:df≠m:=Ne.symm (Te g7 hb);have n3:dw≠m:=Ne.symm (Te g8 r);have a7:=b7 dr _ ga p;have a8:=b8 dr _ (z _ _ a7) p;have a9:=v dr _ (i _ _ a8) p;have c8:=b8 df _ gb n2;have c9:=v df _ (i _ _ c8) n2;have k6:Nd m H G6:=b1.trans (b2.trans (b3.trans (b4.trans (b5.trans b6))));have k7:Nd m H G7:=fun c o h n=>b7 c o (sa c o (k6 c o h n)) n
  have k8:Nd m H G8:=fun c o h n=>b8 c o (z c o (k7 c o h n)) n
  have k9:Nd m H G9:=fun c o h n=>v c o (i c o (k8 c o h n)) n
  refine q dr df dw G9 (k6.free ha p) (k7.free hb n2) (k8.free r n3) k9 fun CR=>⟨⟨dx,_,g9,?_,fun f=>rfl⟩,a9,c9,v dw _ gc n3,Te a7 hb,Te a8 r,Te c8 r,(fun e he=>nomatch he),Vf,Vf,Vf⟩
  exact JT (JT (JT (JT (JT (JT (JT (JT (JT a))))))))
end
section
variable{C CR m dr df dw:Jg}{H G:Hp}{R:Js}
theorem CZ{es:List RE}(hk:(es.map (·.ky)).Nodup){e:RE}(he:e∈es):Mu es e.ky=e.rs:=by
 unfold Mu
 induction es with
 |nil=>exact nomatch he
 |cons x r ih=>
  rw[YS];rcases Ym.mp he with rfl|z
  .simp
  .have a:¬x.ky=e.ky:=fun q=>(YH.mp hk).1 (Y5.mpr ⟨e,z,q.symm⟩)
   rw[Yz a];exact ih (YH.mp hk).2 z
theorem F7{es:List RE}{k:Int×Str×Str}(hk:k∉es.map (·.ky)):Mu es k=Du:=by
 unfold Mu;rw[XY.mpr];intro e a;simp only[Yd];exact fun q=>hk (Y5.mpr ⟨e,a,q⟩)
theorem Kv(es:List RE):(Jp es).map (·.1)=es.map (·.ky):=by unfold Jp;rw[Yw];rfl
def Mr(es:List RE)(k:Int×Str×Str)(l:Jg)(rs:RS):List RE:=es.map fun e=>if e.ky=k then {e with l:=l,rs:=rs} else e
theorem uK(es:List RE)(k:Int×Str×Str)(l:Jg)(rs:RS):Dh (Mr es k l rs)=Dh es:=by
 unfold Dh Mr;rw[Yw];apply YU;intro e _;simp only[Function.comp]
 split <;> rfl
theorem aQ(es:List RE)(k:Int×Str×Str)(l:Jg)(rs:RS):DH (Mr es k l rs)=DH es:=by
 unfold DH Mr;rw[Yw];apply YU;intro e _;simp only[Function.comp]
 split <;> rfl
theorem HI{β:Type}(f:RE->β)(hf:∀e l rs,f {e with l:=l,rs:=rs}=f e)(es:List RE)(k:Int×Str×Str)(l:Jg)(rs:RS):(Mr es k l rs).map f=es.map f:=by
 unfold Mr;rw[Yw];apply YU;intro e _;simp only[Function.comp]
 split
 .exact hf _ _ _
 .rfl
theorem Pn{es:List RE}{k:Int×Str×Str}{l:Jg}{rs:RS}(now:Int)(hk:k∈es.map (·.ky)):Jp (Mr es k l rs)=No (Jp es) k rs now:=by
 unfold No;rw[Y3 (by rw[Kv];exact hk)];unfold Jp Mr;rw[Yw,Yw];apply YU;intro e _;simp only[Function.comp]
 by_cases h:e.ky=k
 .rw[Y3 h,Y3 h,h]
 .rw[Y2 h,Y2 h]
theorem Pb{xs:List AE}{k:Int×Str×Str}{rs rs':RS}{now:Int}:No (No xs k rs now) k rs' now=No xs k rs' now:=by
 unfold No
 by_cases h:k∈xs.map (·.1)
 .rw[Y3 h,Y3 h];have h2:k∈(xs.map fun x=>if x.1=k then(k,rs,x.2.2) else x).map (·.1):=by
   rw[Yw];obtain⟨x,a,rfl⟩:=Y5.mp h;exact Y5.mpr ⟨x,a,by simp[Function.comp]⟩
  rw[Y3 h2,Yw];apply YU;intro x _;simp only[Function.comp]
  by_cases a:x.1=k
  .simp[a]
  .simp[a]
 .rw[Y2 h,Y2 h,Y3 (by simp),Yh];have e:(xs.map fun x=>if x.1=k then(k,rs',x.2.2) else x)=xs:=by
   conv=>rhs;rw[<-List.map_id xs]
   apply YU;intro x a;rw[Y2 (fun z=>h (Y5.mpr ⟨x,a,z⟩))];rfl
  rw[e];simp
theorem Sa(es:List RE)(k:Int×Str×Str):Jp (Nw es k)=JD (Jp es) k:=by
 unfold Jp Nw JD;rw[U3];rfl
theorem Iv{xs:List AE}{k:Int×Str×Str}{rs:RS}{now:Int}:JD (No xs k rs now) k=JD xs k:=by
 unfold No JD
 by_cases h:k∈xs.map (·.1)
 .rw[Y3 h];clear h
  induction xs with
  |nil=>rfl
  |cons x r ih=>
   rw[List.map_cons,Xj,Xj,ih]
   by_cases hx:x.1=k
   .simp[hx]
   .simp[hx]
 .rw[Y2 h,XE];simp
theorem NU.keepPA{p a p' a' l':Jg}{ru:Str}{rs':RS}(kp:TN p a H G)(h:NU CR H p' a' l' ru rs')(n1:p'≠p)(n2:a'≠a){dx:Jg}{fs:List (Str×V)}(hp:H p=some (.ins CR dx fs)){kvs:List (JL×V)}(ha:H a=some (.dK kvs)):NU CR G p' a' l' ru rs':=by
 obtain⟨f,fs',b,r⟩:=h.ex;obtain⟨xs,c,g⟩:=h.cv;refine⟨⟨f,fs',kp _ _ b n1 (Jm b ha nofun),r⟩,kp _ _ h.dk (Jm h.dk hp nofun) n2,xs,kp _ _ c (Jm c hp nofun) (Jm c ha nofun),g.tk fun t ys e=>kp _ _ e (Jm e hp nofun) (Jm e ha nofun)⟩
theorem Jr.goOn{e:RE}{l:Jg}{rs:RS}(h:Jr C CR H m dr df dw R)(he:e∈R.es)(kp:TN e.p e.a H G)(hr:NU CR G e.p e.a l R.ru rs):Jr C CR G m dr df dw {R with es:=Mr R.es e.ky l rs}:=by
 obtain⟨nm1,nm2,nm3,i⟩:=h.ne;obtain⟨x1,w,v,s,r,q,o,n⟩:=i e he;obtain⟨dx,fs,hm,hl,hf⟩:=h.ex;have g:=h.rd e he;obtain⟨dxe,fse,j,_⟩:=g.ex;refine⟨⟨dx,fs,kp m _ hm x1 w,hl,hf⟩,?_,?_,kp dw _ h.dW (Ne.symm r) (Ne.symm n),h.n1,h.n2,h.n3,fun y hy=>?_,?_,?_,?_⟩
 .show G dr=some (.dT (Dh (Mr R.es e.ky l rs)));rw[uK];exact kp dr _ h.dR (Ne.symm v) (Ne.symm q)
 .show G df=some (.dT (DH (Mr R.es e.ky l rs)));rw[aQ];exact kp df _ h.dF (Ne.symm s) (Ne.symm o)
 .obtain⟨c,b,rfl⟩:=Y5.mp hy
  by_cases hk:c.ky=e.ky
  .rw[Y3 hk];have:c=e:=by
    by_cases e1:c=e
    .exact e1
    .exact absurd hk (BF h.nk b he e1)
   subst this;exact hr
  .rw[Y2 hk];have f:c≠e:=fun z=>hk (by rw[z])
   exact(h.rd c b).keepPA kp (BF h.np b he f) (BF h.na b he f) j g.dk
 .show((Mr R.es e.ky l rs).map (·.p)).Nodup;rw[HI (·.p) (fun _ _ _=>rfl)];exact h.np
 .show((Mr R.es e.ky l rs).map (·.a)).Nodup;rw[HI (·.a) (fun _ _ _=>rfl)];exact h.na
 .show((Mr R.es e.ky l rs).map (·.ky)).Nodup;rw[HI (·.ky) (fun _ _ _=>rfl)];exact h.nk
end
def T3(xs:List AE):Int:=(xs.map fun x=>(x.2.1.st.length:Int)).sum
def GI(xs:List AE)(k:Ky):Int:=((xs.find? fun x=>decide (x.1=k)).map fun x=>(x.2.1.st.length:Int)).getD 0
def prs(out:Str)(own:Ky)(xs:List AE):List (Int×Ky):=(xs.filter fun x=> !decide (x.1=own)).map fun x=>(if out="oldest" then x.2.2 else -(x.2.1.st.length:Int),x.1)
def MZ:List (Int×Ky)->Option (Int×Ky)
 |[]=>none
 |x::xs=>some (xs.foldl (fun a b=>if JS b a=true then b else a) x)
def MP(out:Str)(sp:Int)(own:Ky)(xs:List AE):Ky:=if out="own"\/sp < GI xs own then own else((MZ (prs out own xs)).map (·.2)).getD own
def Tt(out:Str)(sp:Int)(own:Ky):Nat->List AE->List AE×List Ky
 |0,xs=>(xs,[])
 |n+ 1,xs=>if T3 xs <=sp then(xs,[]) else((Tt out sp own n (JD xs (MP out sp own xs))).1,MP out sp own xs::(Tt out sp own n (JD xs (MP out sp own xs))).2)
theorem Fx:∀ (xs:List (Int×Ky)) (x:Int×Ky),xs.foldl (fun a b=>if JS b a=true then b else a) x∈x::xs/\∀q∈x::xs,JS q (xs.foldl (fun a b=>if JS b a=true then b else a) x)=false
 |[],x=>⟨Yb.mpr rfl,fun q hq=>by rw[Yb.mp hq];exact Gs.irrefl x⟩
 |y::ys,x=>by
  obtain⟨h1,h2⟩:=Fx ys (if JS y x=true then y else x);rw[Wy];generalize ys.foldl (fun a b=>if JS b a=true then b else a) (if JS y x=true then y else x)=r at h1 h2
  by_cases hyx:JS y x=true
  .rw[Y3 hyx]at h1 h2;refine⟨.tail _ h1,fun q hq=>?_⟩;rcases Ym.mp hq with rfl|z
   .refine X6.mpr fun z=>?_
    have e:=Gs.trans _ _ _ hyx z;have c:JS y r=true:=e;rw[h2 y (.head _)]at c;cases c
   .exact h2 q z
  .rw[Y2 hyx]at h1 h2;refine⟨?_,fun q hq=>?_⟩
   .rcases Ym.mp h1 with z|z
    .rw[z];exact .head _
    .exact .tail _ (.tail _ z)
   .rcases Ym.mp hq with rfl|z
    .exact h2 q (.head _)
    .rcases Ym.mp z with rfl|z
     .refine X6.mpr fun z=>?_
      rcases Gs.negTrans q x r z with e|e
      .exact hyx e
      .have c:JS x r=true:=e;rw[h2 x (.head _)]at c;cases c
     .exact h2 q (.tail _ z)
theorem Z9{c:List (Int×Ky)}{q:Int×Ky}(hq:q∈c)(h:∀q'∈c,JS q' q=false):MZ c=some q:=by
 cases c with
 |nil=>exact nomatch hq
 |cons x xs=>
  obtain⟨h1,h2⟩:=Fx xs x;exact YR some (Gs.total _ _ (h _ h1) (h2 q hq))
theorem jM{es:List RE}(hk:(es.map (·.ky)).Nodup){e:RE}(he:e∈es):GI (Jp es) e.ky=e.rs.st.length:=by
 unfold GI Jp;rw[List.find?_map];have:es.find? ((fun x:AE=>decide (x.1=e.ky)) ∘ fun e=>(e.ky,e.rs,e.first))=some e:=by
  induction es with
  |nil=>exact nomatch he
  |cons x r ih=>
   rw[YS];rcases Ym.mp he with rfl|z
   .simp
   .have a:¬x.ky=e.ky:=fun q=>(YH.mp hk).1 (Y5.mpr ⟨e,z,q.symm⟩)
    have:((fun x:AE=>decide (x.1=e.ky)) ∘ fun e=>(e.ky,e.rs,e.first)) x=false:=Yz a;rw[this];exact ih (YH.mp hk).2 z
 rw[this];rfl
theorem Gd(es:List RE):(Jp es).map (·.1)=es.map (·.ky):=by
 unfold Jp;rw[Yw];rfl
theorem Qu(es:List RE)(k:Ky):Jp (Nw es k)=JD (Jp es) k:=by
 unfold Jp Nw JD;rw[U3];rfl
theorem Lo{out:Str}{sp:Int}{own:Ky}{xs:List AE}(hn:(xs.map (·.1)).Nodup)(ht:sp < T3 xs)(hs:GI xs own <=sp):prs out own xs≠[]:=by
 intro z;have h0:∀x∈xs,x.1=own:=fun x a=>by
  refine U0 fun n=>?_
  have:(if out="oldest" then x.2.2 else -(x.2.1.st.length:Int),x.1)∈prs out own xs:=Y5.mpr ⟨x,Yr.mpr ⟨a,by simpa using n⟩,rfl⟩;rw[z]at this;exact nomatch this
 match xs,hn,h0 with
 |[],_,_=>unfold T3 at ht;unfold GI at hs;simp at ht hs;omega
 |[x],_,h0=>
  unfold T3 at ht;unfold GI at hs;rw[YS,Yt (h0 x (.head _))]at hs;simp at ht hs;omega
 |x::y::r,hn,h0=>
  rw[List.map_cons,List.map_cons,h0 x (.head _),h0 y (.tail _ (.head _))]at hn;exact(YH.mp hn).1 (.head _)
section
variable{P:J9}{w:Jd}{K:Je}{mg:J5}{base:Jj}
inductive IV(C CR:Jg)(vs:List V)(H:Hp)(Q:VK)(E:XK):Prop|mk (m dr df dw t:Jg) (R:Js) (own:Ky) (_:vs=[.ref m,.ref t]) (_:Jr C CR H m dr df dw R) (_:H t=some (.tup (TD own))) (_:own∈R.es.map (·.ky)) (_:R.es.length <=1000) (_:(∀e∈R.es,Tp e.ky)) (_:(GI (Jp R.es) own <=R.sp->prs R.out own (Jp R.es)≠[])) (_:∀t' G,Jo H G->G t'=some (.tup (TD (MP R.out R.sp own (Jp R.es))))->Q (.ref t') G)
abbrev BJ:Stmt:=Mv (top 42) 15
theorem SJ:Nv ["self","own","others"] ["self","own"] (Jl BJ):=by walk_at"e"
theorem mM{f C CR:Jg}{fd:Jb}(F:NK K "first_out" "Room.first_out" BJ f fd)(L:D2 K C)(B:Bt mg)(N5:T4 P w K mg base CR "size" 1 ["self"] [] (Fe CR)):Ju P w K mg base N7 3 f fd ["self","own"] (IV C CR):=by
 refine F.ok SJ (fun vs H Q E h=>?_) (fun cdv A outer s H vs Q E hr h=>?_)
 .obtain⟨m,dr,df,dw,t,R,own,rfl,_⟩:=h;rfl
 .obtain⟨m,dr,df,dw,t,R,own,rfl,hR,ht,hown,hl,hok,hpr,q⟩:=h;refine⟨_,(JE (Tg (PW.pt (RD (Tx (GK GG) (Nx K (Jn 0)) Tj) (RJ (Tx (NL Bp) (Dc (GJ hr (Nx K (Jn 0)) (Jn 1)) N5 hr.m) (Nx K (Jn 0)))))) (JM (Nk (Jn 1))) TC) (JE (HQ (HE (i:=2) (N':=["key","own"]) (caps:=[none,some 1]) (Do (sc:=Jl BJ) (N:=["self","own","others"]) rfl rfl (by decide +kernel)) rfl (SJ).nd rfl (Or.inl rfl) (Bi (Nx K (Jn 0))) (fun _ _ _ _ _=>(D0 (i:=0) (Dm (N:=["key","own"]) rfl (by decide +kernel)) rfl (Or.inl rfl))) (fun _ _ _ _ _=>(Fd (Tx (Ao (K:=K) (Room.units hr) rfl) (Jn 0) (Jn 1)))) (fun _ _ _ _ _=>(Jn 0)) rfl)) (JE (Tg (Tx (GK GG) (Nx K (Jn 0)) Tj) (JM (Nk (M5 K (Tu (Fg (K:=K) rfl (Room.units hr) rfl) B.min (Nc (hs:=Rt) (Gk (N':=["key","self"]) (caps:=[none,some 0]) (Do (sc:=Jl BJ) (N:=["self","own","others"]) rfl rfl (by decide +kernel)) rfl (GS (K:=K) rfl (Jn 2)) (fun _ _ _ _ _=>(D0 (i:=0) (Dm (N:=["key","self"]) rfl (by decide +kernel)) rfl (Or.inl rfl))) (fun _ _ _ _ _=>Gj) (fun _ _ _ _ _=>(MR (Dq (GJ hr (Nx K (Jn 1)) (Jn 0)) (Jv 0 Jt))))) Jt)) JI))) TC) (JM (Nk (M5 K (Tu (Fg (K:=K) rfl (Room.units hr) rfl) B.min (Nc (hs:=Rt) (Gk (N':=["key","self"]) (caps:=[none,some 0]) (Do (sc:=Jl BJ) (N:=["self","own","others"]) rfl rfl (by decide +kernel)) rfl (GS (K:=K) rfl (Jn 2)) (fun _ _ _ _ _=>(D0 (i:=0) (Dm (N:=["key","self"]) rfl (by decide +kernel)) rfl (Or.inl rfl))) (fun _ _ _ _ _=>Gj) (fun _ _ _ _ _=>(MR (Nc (hs:=w9) (g0 cL (Dc (GJ hr (Nx K (Jn 1)) (Jn 0)) N5 hr.m)) (Jv 0 Jt))))) Jt)) JI)))))),?_⟩;refine Nl fun N hN=>?_
  walk_at"r";obtain⟨e,he,rfl⟩:=Y5.mp hown;have hsz:=jM hR.nk he;refine⟨_,Ph L hR,rfl,?_⟩
  by_cases ho:R.out="own"
  .rw[Y3 (by rw[ho];simp)];refine q t H (Jo.refl _) ?_;have:MP R.out R.sp e.ky (Jp R.es)=e.ky:=by unfold MP;rw[Y3 (.inl ho)]
   rw[this];exact ht
  rw[Y2 (by simpa using ho)];refine⟨_,B9 L hR,dr,rfl,_,.inr ⟨_,NB e.ky,t,.inl hR.dR,rfl,ht,(Bz hR.nk he).symm⟩,Ko (hR.rd e he),e.p,e.a,e.l,R.ru,e.rs,rfl,hR.rd e he,_,SG L hR,_,rfl,R.sp,rfl,?_⟩
  by_cases hs:R.sp < (e.rs.st.length:Int)
  .rw[Y3 (Yt hs)];refine q t H (Jo.refl _) ?_;have:MP R.out R.sp e.ky (Jp R.es)=e.ky:=by unfold MP;rw[Y3 (.inr (by rw[hsz];exact hs))]
   rw[this];exact ht
  rw[Y2 (by simpa using hs)];refine hN _ _ ?_;clear hN N;have efa:MP R.out R.sp e.ky (Jp R.es)=((MZ (prs R.out e.ky (Jp R.es))).map (·.2)).getD e.ky:=by unfold MP;rw[Y2 (by rw[hsz];exact fun z=>z.elim ho hs)]
  have hne:=hpr (by rw[hsz];omega);rw[efa]at q;refine Nl fun N hN=>?_
  walk_at"r";obtain⟨nm1,nm2,nm3,nme⟩:=hR.ne;have hrl:(Dh R.es).length=R.es.length:=Y1 ..;have hKe:=hok e he;obtain⟨Pv,ePv⟩:∃Pv:Nat->List V->L2.St->Prop,Pv=fun i ys σ'=>∃ (bs:List Addr) (v:Option V),ys=bs.map V.ref/\σ'=[v,some (.ref t)]/\Pw (fun b (x:RE)=>H b=some (.tup (TD x.ky))) bs ((R.es.take i).filter fun x=> !decide (x.ky=e.ky)):=⟨_,rfl⟩
  refine Ai hR.dR (fun Rr h=>by walk_at"r";exact⟨_,B9 L hR,h⟩) Pv (by rw[ePv];exact⟨[],_,rfl,rfl,(.nil:Pw _ [] [])⟩) ?_ (by omega) ?_ ?_ <;> rw[ePv]
  .rintro i ys σ' ⟨bs,v,rfl,rfl,hw⟩;rw[Y1,hw.1];have:=YB (fun x:RE=> !decide (x.ky=e.ky)) (R.es.take i);rw[Yu]at this;omega
  .rintro Hf o hfo hfd i b k v ys σ' hk hb ⟨bs,v0,rfl,rfl,hw⟩;rw[<-ePv];obtain⟨x,r,rfl,rfl⟩:=Zc hk;have hKx:=hok x (Yk r);have hb':Hf b=some (.tup (TD x.ky)):=by rw[hfo b (Jm hb hR.dR nofun)];exact hb
   have ht':Hf t=some (.tup (TD e.ky)):=by rw[hfo t (Jm ht hR.dR nofun)];exact ht
   walk_at"r";refine⟨_,_,E3 hb',E3 ht',A9 _ hKx.2.2.1 hKx.2.2.2,A9 _ hKe.2.2.1 hKe.2.2.2,_,rfl,?_⟩;have ee:PyData.eqv (GC x.ky.1 x.ky.2.1 x.ky.2.2) (GC e.ky.1 e.ky.2.1 e.ky.2.2)=decide (x.ky=e.ky):=by
    rw[LK,YF,Yd,Yd];exact⟨fun h=>Ui h.1 (Ui h.2.1 h.2.2),fun h=>by rw[h];exact⟨rfl,rfl,rfl⟩⟩
   have etk:R.es.take (i+ 1)=R.es.take i++[x]:=by rw[YQ,r];rfl
   rw[ee]
   by_cases hxe:x.ky=e.ky
   .rw[Y2 (by simpa using hxe),ePv];refine⟨⟨bs,_,rfl,rfl,?_⟩,rfl⟩;rw[etk,XE,Vi (by simpa using hxe),VE,List.append_nil];exact hw
   .rw[Y3 (by simpa using hxe),ePv];refine⟨⟨bs++[b],_,by rw[Yh];rfl,rfl,?_⟩,rfl⟩;rw[etk,XE,Vj (by simpa using hxe),VE];exact hw.snoc hb
  .rintro ys σ' ⟨bs,v,rfl,rfl,hw⟩ lo G1 hlo s1 e1;refine hN _ _ ?_;clear hN N;rw[hrl,Yv (Y9 _)]at hw;obtain⟨n,eot⟩:∃n,n=R.es.filter fun x=> !decide (x.ky=e.ky):=⟨_,rfl⟩
   rw[<-eot]at hw;have hot:∀x∈n,x∈R.es:=fun x r=>by rw[eot]at r;exact(Yr.mp r).1
   have hotl:n.length <=R.es.length:=by rw[eot];exact YB _ _
   have hR1:=hR.mono s1;have eprs:prs R.out e.ky (Jp R.es)=n.map fun x=>(if R.out="oldest" then x.first else -(x.rs.st.length:Int),x.ky):=by
    unfold prs Jp;rw[U3,Yw,eot];rfl
   have fin:∀ (G2:Hp) (ps:List Addr) (gs:Jh),Jo G1 G2->gs.length=n.length->(∀ (j:Nat) p b (x:RE) g,ps[j]?=some p->bs[j]?=some b->n[j]?=some x->gs[j]?=some g->G2 p=some (.tup [.int g,.ref b]))->ps.length=n.length->(n.zip gs).map (fun z=>(z.2,z.1.ky))=prs R.out e.ky (Jp R.es)->∀ (lp:Jg),G2 lp=some (.lst (ps.map V.ref))->
     ∃p,V.ref lp=V.ref p/\∃x,JA K G2 p x/\∃x_1:List (Int×Ky),x.length=x_1.length/\(∀ (i:Nat) (x_2:V) (q:Int×Ky),x[i]?=some x_2->x_1[i]?=some q->∃t,x_2=V.ref t/\∃x,N8 K G2 t [V.int q.1,V.ref x]/\N8 K G2 x (Ea q.2))/\x_1≠[]/\
      ∀ (i:Nat) (x_2:V) (q:Int×Ky),x[i]?=some x_2->x_1[i]?=some q->(∀q':Int×Ky,q'∈x_1->JS q' q=false)->∃p,x_2=V.ref p/\∃x,N8 K G2 p x/\∃x_3,GH x 1=some x_3/\Q x_3 G2:=fun G2 ps gs s2 hg hp c hz lp elp=>by
    have hpw:∀ (i:Nat) x q',(ps.map V.ref)[i]?=some x->(prs R.out e.ky (Jp R.es))[i]?=some q'->∃p b,x= .ref p/\G2 p=some (.tup [.int q'.1,.ref b])/\G2 b=some (.tup (TD q'.2)):=fun i x q' r hq'=>by
     rw[Ya]at r;obtain⟨p,hp',rfl⟩:=Yl.mp r;rw[<-hz,Ya]at hq';obtain⟨z,hz',rfl⟩:=Yl.mp hq';obtain⟨h1,h2⟩:=Ur.mp hz';have hil:=(Y4.mp h1).1;have hb':bs[i]?=some (bs[i]'(by rw[hw.1];exact hil)):=Y7 _;exact⟨p,_,rfl,hp i p _ z.1 z.2 hp' hb' h1 h2,s2 _ _ (s1 _ _ (hw.2 i _ z.1 hb' h1))⟩
    have hlc:(ps.map V.ref).length=(prs R.out e.ky (Jp R.es)).length:=by rw[Y1,<-hz,Y1,List.length_zip];omega
    refine⟨lp,rfl,_,JA.of elp,prs R.out e.ky (Jp R.es),hlc,fun i x q' r hq'=>?_,hne,fun i x q' r hq' hmin=>?_⟩
    .obtain⟨p,b,h1,h2,h3⟩:=hpw i x q' r hq';exact⟨p,h1,b,N8.of h2,N8.of h3⟩
    .obtain⟨p,b,h1,h2,h3⟩:=hpw i x q' r hq';refine⟨p,h1,_,N8.of h2,_,rfl,q b G2 (s1.trans s2) ?_⟩;rw[Z9 (Yk hq') hmin];exact h3
   have tw:∀ (g:RE->Int),(∀x∈n,(if R.out="oldest" then x.first else -(x.rs.st.length:Int))=g x)->(n.zip (n.map g)).map (fun z=>(z.2,z.1.ky))=prs R.out e.ky (Jp R.es):=fun g hg=>by
    rw[eprs];apply Wc;intro j;rw[Ya,Ya];cases hj:n[j]? with
    |none=>
     have:(n.zip (n.map g))[j]?=none:=by
      rw[Uq]at hj ⊢;rw[List.length_zip,Y1];omega
     rw[this];rfl
    |some x=>
     have:(n.zip (n.map g))[j]?=some (x,g x):=Ur.mpr ⟨hj,by rw[Ya,hj];rfl⟩;rw[this];show some (g x,x.ky)=some (_,x.ky);rw[hg x (Yk hj)]
   refine Nl fun N hN=>?_
   walk_at"r";refine⟨_,Ph L hR1,rfl,?_⟩
   by_cases hod:R.out="oldest"
   .rw[Y3 (by rw[hod];simp)];refine⟨⟨_,JA.of e1⟩,?_⟩;obtain⟨Pc,ePc⟩:∃Pc:Nat->List V->L2.St->Hp->Prop,Pc=fun j ys σ' G'=>∃ (v:Option V) (ps:List Addr),ys=ps.map V.ref/\ps.length=j/\σ'=[v,some (.ref m)]/\Jo G1 G'/\∀ (i:Nat) p b (x:RE),ps[i]?=some p->bs[i]?=some b->n[i]?=some x->G' p=some (.tup [.int x.first,.ref b]):=⟨_,rfl⟩
    refine AV (xs:=bs.map V.ref) Pc (by rw[ePc];exact⟨_,[],rfl,rfl,rfl,Jo.refl _,(fun i p b x h=>by cases h)⟩) ?_ (Ni (by rw[Y1,hw.1];omega)) ?_ ?_ <;> rw[ePc]
    .rintro j ys σ' G' ⟨v,ps,rfl,c,rfl,sG,_⟩ _;exact⟨JA.of (sG _ _ e1),by rw[Y1];omega⟩
    .rintro j y ys σ' G' hy ⟨v,ps,rfl,c,rfl,sG,hp⟩;rw[<-ePc];rw[Ya]at hy;obtain⟨b,hb,rfl⟩:=Yl.mp hy;obtain⟨x,r,hbx⟩:=hw.get hb;have hxm:=hot x (Yk r);have hRG:=hR1.mono sG;walk_at"r";refine⟨_,FC L hRG,df,rfl,_,.inr ⟨_,NB x.ky,b,.inl hRG.dF,rfl,sG _ _ (s1 _ _ hbx),(By hR.nk hxm).symm⟩,Ni (by simp),fun p3 G3 hp3 s3 e3=>?_⟩;rw[ePc];refine⟨_,ps++[p3],by rw[Yh];rfl,by simp[c],rfl,sG.trans s3,fun i p b' x' h1 h2 h3=>?_⟩
     by_cases hij:i < j
     .rw[Up (by omega)]at h1;exact s3 _ _ (hp i p b' x' h1 h2 h3)
     .have hij':i=j:=by have:=(Y4.mp h1).1;simp at this;omega
      subst hij';rw[X0 (by omega),c,UP]at h1;rw[hb]at h2;rw[r]at h3;cases h1;cases h2;cases h3;exact e3
    .rintro ys σ' G' ⟨v, ps, rfl, c, rfl, sG, hp⟩ lp G2 hlp s2 e2;rw [Y1, hw.1] at c;exact fin G2 ps (n.map fun x => x.first) (sG.trans s2) (Y1 ..) (fun j p b x g h1 h2 h3 h4 => by
      rw [Ya, h3] at h4;cases h4;exact s2 _ _ (hp j p b x h1 h2 h3)) c (tw _ fun x _ => Y3 hod) lp e2
   .rw[Y2 (by simpa using hod)];refine hN _ _ ?_;clear hN N;walk_at"r";refine⟨⟨_,JA.of e1⟩,?_⟩;obtain⟨Pc,ePc⟩:∃Pc:Nat->List V->L2.St->Hp->Prop,Pc=fun j ys σ' G'=>∃ (v:Option V) (ps:List Addr),ys=ps.map V.ref/\ps.length=j/\σ'=[v,some (.ref m)]/\Jo G1 G'/\∀ (i:Nat) p b (x:RE),ps[i]?=some p->bs[i]?=some b->n[i]?=some x->G' p=some (.tup [.int (-(x.rs.st.length:Int)),.ref b]):=⟨_,rfl⟩
    refine AV (xs:=bs.map V.ref) Pc (by rw[ePc];exact⟨_,[],rfl,rfl,rfl,Jo.refl _,(fun i p b x h=>by cases h)⟩) ?_ (Ni (by rw[Y1,hw.1];omega)) ?_ ?_ <;> rw[ePc]
    .rintro j ys σ' G' ⟨v,ps,rfl,c,rfl,sG,_⟩ _;exact⟨JA.of (sG _ _ e1),by rw[Y1];omega⟩
    .rintro j y ys σ' G' hy ⟨v,ps,rfl,c,rfl,sG,hp⟩;rw[<-ePc];rw[Ya]at hy;obtain⟨b,hb,rfl⟩:=Yl.mp hy;obtain⟨x,r,hbx⟩:=hw.get hb;have hxm:=hot x (Yk r);have hRG:=hR1.mono sG;walk_at"r";refine⟨_,B9 L hRG,dr,rfl,_,.inr ⟨_,NB x.ky,b,.inl hRG.dR,rfl,sG _ _ (s1 _ _ hbx),(Bz hR.nk hxm).symm⟩,Ko (hRG.rd x hxm),x.p,x.a,x.l,R.ru,x.rs,rfl,hRG.rd x hxm,_,rfl,Ni (by simp),fun p3 G3 hp3 s3 e3=>?_⟩;rw[ePc];refine⟨_,ps++[p3],by rw[Yh];rfl,by simp[c],rfl,sG.trans s3,fun i p b' x' h1 h2 h3=>?_⟩
     by_cases hij:i < j
     .rw[Up (by omega)]at h1;exact s3 _ _ (hp i p b' x' h1 h2 h3)
     .have hij':i=j:=by have:=(Y4.mp h1).1;simp at this;omega
      subst hij';rw[X0 (by omega),c,UP]at h1;rw[hb]at h2;rw[r]at h3;cases h1;cases h2;cases h3;exact e3
    .rintro ys σ' G' ⟨v, ps, rfl, c, rfl, sG, hp⟩ lp G2 hlp s2 e2;rw [Y1, hw.1] at c;exact fin G2 ps (n.map fun x => -(x.rs.st.length : Int)) (sG.trans s2) (Y1 ..) (fun j p b x g h1 h2 h3 h4 => by
      rw [Ya, h3] at h4;cases h4;exact s2 _ _ (hp j p b x h1 h2 h3)) c (tw _ fun x _ => Y2 hod) lp e2
end
theorem BZ{xs ys:List AE}(h:xs.Sublist ys):T3 xs <=T3 ys:=by
 induction h with
 |slnil=>exact Xd _
 |cons a _ ih=>unfold T3 at ih ⊢;rw[List.map_cons,V0];omega
 |cons_cons a _ ih=>unfold T3 at ih ⊢;rw[List.map_cons,List.map_cons,V0,V0];omega
theorem Ps(es:List RE):R9 es=T3 (Jp es):=by
 unfold R9 T3 Jp;rw[Yw];rfl
theorem aL{es:List RE}{k:Ky}(hk:(es.map (·.ky)).Nodup)(h:k∈es.map (·.ky)):(Nw es k).length+ 1=es.length:=by
 induction es with
 |nil=>exact nomatch h
 |cons x r ih=>
  unfold Nw at ih ⊢;rw[List.map_cons]at h hk;obtain⟨h1,h2⟩:=YH.mp hk
  by_cases hx:x.ky=k
  .rw[Vi (by simpa using hx),List.length_cons];have:r.filter (fun e=> !decide (e.ky=k))=r:=Xc.mpr fun e a=>by
    simp only[Xx,Xe];exact fun z=>h1 (Y5.mpr ⟨e,a,by rw[z,hx]⟩)
   rw[this]
  .rw[Vj (by simpa using hx),List.length_cons,List.length_cons,ih h2 ((Ym.mp h).resolve_left fun z=>hx z.symm)]
theorem S9{out:Str}{sp:Int}{own:Ky}{xs:List AE}(ho:own∈xs.map (·.1))(h:GI xs own <=sp->prs out own xs≠[]):MP out sp own xs∈xs.map (·.1):=by
 unfold MP
 split
 .exact ho
 .rename_i hn
  have c:=h (by have:=fun z=>hn (.inr z);omega);cases hp:prs out own xs with
  |nil=>exact absurd hp c
  |cons x r=>
   obtain⟨h1,_⟩:=Fx r x;have h2:(r.foldl (fun a b=>if JS b a=true then b else a) x)∈prs out own xs:=by rw[hp];exact h1
   obtain⟨y,f,e⟩:=Y5.mp h2;show(r.foldl (fun a b=>if JS b a=true then b else a) x).2∈_;rw[<-e];exact Y5.mpr ⟨y,(Yr.mp f).1,rfl⟩
section
variable{P:J9}{w:Jd}{K:Je}{mg:J5}{base:Jj}
def Co(R:Js)(own:Ky):List AE×List Ky:=Tt R.out R.sp own (R.es.length+ 1) (Jp R.es)
inductive Iw(C CR:Jg)(vs:List V)(H:Hp)(Q:VK)(E:XK):Prop|mk (m dr df dw t:Jg) (R:Js) (own:Ky) (_:vs=[.ref m,.ref t]) (_:Jr C CR H m dr df dw R) (_:H t=some (.tup (TD own))) (_:own∈R.es.map (·.ky)) (_:R.es.length <=1000) (_:(∀e∈R.es,e.rs.st.length <=100000)) (_:(∀e∈R.es,Tp e.ky)) (_:T3 (JD (Jp R.es) own) <=R.sp) (_:∀es' l G,Jp es'=(Co R own).1->(∀x∈es',x∈R.es)->H l=none->(∀c o,H c=some o->c≠dr->c≠df->G c=some o)->Jr C CR G m dr df dw {R with es:=es'}->TF G l (Co R own).2 "room"->Q (.ref l) G)
abbrev Ii:Stmt:=Mv (top 42) 14
theorem Ly:Nv ["self","own","events","key"] ["self","own"] (Jl Ii):=by walk_at"e"
theorem dE{f C CR:Jg}{fd:Jb}(F:NK K "make_space" "Room.make_space" Ii f fd)(L:D2 K C)(JH:T4 P w K mg base C "bytes_kept" 2 ["self"] [] (AN C CR))(JY:T4 P w K mg base C "let_go" 1 ["self","key"] [] (C4 C CR))(NR:T4 P w K mg base C "first_out" 3 ["self","own"] [] (IV C CR)):Ju P w K mg base N7 4 f fd ["self","own"] (Iw C CR):=by
 refine F.ok Ly (fun vs H Q E h=>?_) (fun cdv A outer s H vs Q E hr h=>?_)
 .obtain⟨m,dr,df,dw,t,R,own,rfl,_⟩:=h;rfl
 .obtain⟨m,dr,df,dw,t,R,own,rfl,hR,ht,hown,hl,hb,hok,hot,q⟩:=h;refine⟨_,(JE (Tr 2 Ly (Dn Jt)) (JE (Z4 Xh (Tx (NL Bp) (Dc (Jn 0) JH hr.m) (Nx K (Jn 0))) (JE (Tr 3 Ly (DM (Jn 0) NR hr.m (Jv 1 Jt))) (JE (D8 (DM (Jn 0) JY hr.m (Jv 3 Jt))) (JM (D8 (DQ (K:=K) rfl YW YY YZ (Ei Em) (Jn 2) (Nc (hs:=GM) (MR (TH Tj (Jv 3 (TH Tj Jt)))) Jt))))))) (JM (Nk (Jn 2))))),?_⟩;refine Nl fun N hN=>?_
  walk_at"r";refine⟨Ni (by simp),fun p G hp s1 e1=>hN _ _ ?_⟩;clear hN N;refine Nl fun N hN=>?_
  obtain⟨Wd,eW⟩:∃Wd:Nat->L2.St->Hp->Prop,Wd=fun mm σ' G'=>∃ (v:Option V) (es:List RE) (gs:List Ky),σ'=[some (.ref m),some (.ref t),some (.ref p),v]/\mm=es.length/\(∀x∈es,x∈R.es)/\es.Sublist R.es/\gs.length+ es.length=R.es.length/\(Co R own=((Tt R.out R.sp own (es.length+ 1) (Jp es)).1,gs++(Tt R.out R.sp own (es.length+ 1) (Jp es)).2))/\(own∈es.map (·.ky)\/T3 (Jp es) <=R.sp)/\
    (∀c o,H c=some o->c≠dr->c≠df->G' c=some o)/\Jr C CR G' m dr df dw {R with es:=es}/\TF G' p gs "room":=⟨_,rfl⟩
  have hw0:∀c o,H c=some o->c≠dr->c≠df->G c=some o:=fun c o h _ _=>s1 _ _ h
  refine⟨Wd,⟨R.es.length,?_⟩,?_⟩ <;> rw[eW]
  .exact⟨_,R.es,[],rfl,rfl,fun x hx=>hx,List.Sublist.refl _,by simp,rfl,.inl hown,hw0,hR.mono s1,[],rfl,e1,fun i t k h=>by simp at h⟩
  rintro mm σ' G' ⟨v,es,gs,rfl,rfl,n,hsl,hgl,hsp,hor,kp,hRi,hE⟩;rw[<-eW];have hel:es.length <=R.es.length:=hsl.length_le;walk_at"r";refine⟨hRi.mt rfl,m,dr,df,dw,_,rfl,hRi,by show es.length <=1000;omega,fun e he=>hb e (n e he),fun G2 s2=>?_⟩;have hR2:=hRi.mono s2;have etot:R9 es=T3 (Jp es):=Ps es;refine⟨_,SG L hR2,_,rfl,_,rfl,?_⟩
  by_cases hts:R.sp < T3 (Jp es)
  .rw[Y3 (by show decide (R.sp < R9 es)=true;rw[etot];exact Yt hts)];have hin:own∈es.map (·.ky):=hor.resolve_right (by omega);have hink:own∈(Jp es).map (·.1):=by rw[Gd];exact hin
   have hnk:((Jp es).map (·.1)).Nodup:=by rw[Gd];exact hRi.nk
   have hpn:GI (Jp es) own <=R.sp->prs R.out own (Jp es)≠[]:=fun hs=>Lo hnk hts hs
   have hfm:=S9 (out:=R.out) (sp:=R.sp) hink hpn;rw[Gd]at hfm;obtain⟨g,ekk⟩:∃g,g=MP R.out R.sp own (Jp es):=⟨_,rfl⟩;rw[<-ekk]at hfm;have ht2:G2 t=some (.tup (TD own)):=s2 _ _ (kp t _ ht (Jm ht hR.dR nofun) (Jm ht hR.dF nofun));have hlen:=aL hRi.nk hfm;have hlen:(Nw es g).length+ 1=es.length:=hlen;refine⟨Wd (es.length - 1),fun σ'' H'' h=>⟨es.length - 1,by omega,h⟩,?_⟩;refine⟨hR2.mt rfl,m,dr,df,dw,t,_,own,rfl,hR2,ht2,hin,by show es.length <=1000;omega,fun e he=>hok e (n e he),hpn,fun t' G3 s3 e3=>?_⟩;have r:=hR2.mono s3;have e3':G3 t'=some (.tup (TD g)):=by rw[ekk];exact e3
   refine⟨r.mt rfl,m,dr,df,dw,t',_,g,rfl,r,e3',hfm,fun G4 k4 hR4=>?_⟩;obtain⟨ts,h1,h2,h3⟩:=hE;have s23:=s2.trans s3;have hp3:=s23 _ _ h2;have hp4:=k4 p _ hp3 (Jm hp3 r.dR nofun) (Jm hp3 r.dF nofun);have t4:∀{c:Jg} {xs:List V},G3 c=some (.tup xs)->G4 c=some (.tup xs):=fun {c xs} h=>k4 c _ h (Jm h r.dR nofun) (Jm h r.dF nofun)
   have htl:ts.length <=1000:=by rw[h1];omega
   refine⟨.inl ⟨rfl,_,JA.of hp4⟩,Ni (by simp),fun p5 G5 hp5 s5 e5=>⟨_,s5 _ _ hp4,Yn (by rw[Y1];exact htl) (by rw[YG];decide),fun G6 b6 e6=>?_⟩⟩;have t6:∀{c:Jg} {xs:List V},G5 c=some (.tup xs)->G6 c=some (.tup xs):=fun {c xs} h=>b6 c _ h (Jm h (s5 _ _ hp4) nofun)
   have hsub':∀x∈Nw es g,x∈es:=fun x hx=>(Yr.mp hx).1
   rw[eW];refine⟨_,Nw es g,gs++[g],rfl,by omega,fun x hx=>n x (hsub' x hx),List.Sublist.trans YM hsl,by rw[List.length_append,UL];omega,?_,?_,fun c o h n1 n2=>b6 c o (s5 _ _ (k4 c o (s23 _ _ (kp c o h n1 n2)) n1 n2)) (Te h hp),(hR4.mono s5).butL b6 (s5 _ _ hp4) (fun e he=>?_),?_⟩
   .rw[hsp];have est:Tt R.out R.sp own (es.length+ 1) (Jp es)=((Tt R.out R.sp own es.length (JD (Jp es) g)).1,g::(Tt R.out R.sp own es.length (JD (Jp es) g)).2):=by
     show(if T3 (Jp es) <=R.sp then _ else _)=_;rw[Y2 (by omega),<-ekk]
    rw[est,hlen,Qu,List.append_assoc];rfl
   .by_cases hko:g=own
    .right
     rw[Qu,hko];refine XR (BZ ?_) hot;unfold JD Jp;exact(hsl.map _).filter _
    .left
     obtain⟨e,he,hek⟩:=Y5.mp hin;exact Y5.mpr ⟨e,Yr.mpr ⟨he,by simp only[Xx,Xe];exact fun z=>hko (z.symm.trans hek)⟩,hek⟩
   .obtain⟨ys',hy,_⟩:=(hR.rd e (n e (hsub' e he))).cv;exact Te hy hp
   .have hw:Pw (fun(t:Addr×Addr) (k:Ky)=>G6 t.1=some (.tup [.str "gone",.ref t.2,.str "room"])/\G6 t.2=some (.tup (TD k))) ts gs:=⟨h1,fun j x y a b=>⟨t6 (s5 _ _ (t4 (s23 _ _ (h3 j x y a b).1))),t6 (s5 _ _ (t4 (s23 _ _ (h3 j x y a b).2)))⟩⟩;have hw2:=hw.snoc (x:=(p5,t')) (y:=g) ⟨t6 e5,t6 (s5 _ _ (t4 e3'))⟩;exact⟨ts++[(p5,t')],hw2.1,by rw[e6,Yh];rfl,hw2.2⟩
  .rw[Y2 (by show ¬decide (R.sp < R9 es)=true;rw[etot];simpa using hts)];refine hN _ _ ?_;walk_at"r";have hend:Tt R.out R.sp own (es.length+ 1) (Jp es)=(Jp es,[]):=by
    show(if T3 (Jp es) <=R.sp then _ else _)=_;rw[Y3 (by omega)]
   rw[hend]at hsp;refine q es p G2 (by rw[hsp]) n hp (fun c o h n1 n2=>s2 _ _ (kp c o h n1 n2)) hR2 ?_
   .rw[hsp,List.append_nil];obtain⟨ts,h1,h2,h3⟩:=hE;exact⟨ts,h1,s2 _ _ h2,fun i t' k a b=>⟨s2 _ _ (h3 i t' k a b).1,s2 _ _ (h3 i t' k a b).2⟩⟩
inductive HM(C:Jg)(vs:List V)(H:Hp)(Q:VK)(E:XK):Prop|mk (d:LD) (b:Jg) (_:vs=[.int d.nu,.str d.z1,.str d.z2,.ref b]) (_:d.k=false) (_:d.Ok) (_:H b=some (.lst (d.ns.map V.int))) (_:∀p b' G,H p=none->H b'=none->Jo H G->Mp C G p b' d->Q (.ref p) G)
theorem Pd{C:Jg}(F:Rj P w K mg base "Letter" C 6 ["self","number","sender","goal","body","keep"] [.bl false] (Al C)):Gg P w K mg base "Letter" 6 (HM C):=by
 refine F.ct fun vs H Q h y dx G c z hn s n=>?_
 obtain⟨d,b,rfl,f,ok,g,q⟩:=h;obtain⟨a,i⟩:=Ss (k:=d.k) ok.n0 ok.n1 ok.k1 ok.k2 (s b _ g) ok.l1 ok.l2 ok.by'
 rw[f]at a i;exact⟨y,dx,_,_,_,b,_,_,rfl,n,a,i,s b _ g,fun H' v p h1 h2 j r=>⟨rfl,q y v H' c (s.free p) (fun d o e=>r d o (s d o e) (Te e c)) ⟨ok,by rw[f];exact j,h2⟩⟩⟩
end
theorem rX{t u v:TS}{D:L2.Mh}{σ:L2.St}{H:Hp}(h:∀N:L2.St->Hp->Prop,(∀σ' H',v D σ' H'->N σ' H')->GD t u {D with nx:=N} σ H):GD t (GD u v) D σ H:=h (v D) fun _ _ x=>x
structure Ms(rs:RS):Prop where
 iv:DC rs
 by':∀n x,N9 rs.st n=some x->0 <=x/\x <=255
 e1:∀e,rs.en=some e->1 <=e
theorem Ms.zero:Ms Du:=⟨DC.zero,fun n x h=>(by cases h),fun e h=>(by cases h)⟩
theorem Ms.step{rs:RS}{d:PD}(la:Bool)(h:Ms rs)(hd:d.Ok):Ms (MM la rs d):=by
 refine⟨h.iv.step la hd,?_,fun e a=>?_⟩
 .refine Qp (P:=fun _ x=>0 <=x/\x <=255) la d.ns rs.st d.at' h.by' fun i x b=>hd.by' x (Yk b)
 .have a:(if d.mo=true then rs.en else some (d.at'+ d.ns.length))=some e:=a;obtain⟨g,f,c⟩:=hd.end'
  split at a
  .exact h.e1 e a
  .have:=Option.some.inj a;omega
theorem Ms.body{rs:RS}(h:Ms rs)(hl:Ma rs.en 0 rs.cv=[]):1 <=(T9 rs).length/\(T9 rs).length <=4000/\∀x∈T9 rs,0 <=x/\x <=255:=by
 obtain⟨e,c,g,f,b⟩:=h.iv.body hl;have:=h.e1 e c;refine⟨by omega,by omega,fun x a=>?_⟩;obtain⟨i,hi,rfl⟩:=UU.mp a;exact h.by' i _ (b i _ (Y7 hi))
theorem ZR{es:List RE}{now:Int}(hk:(es.map (·.ky)).Nodup){e:RE}(he:e∈es):No (Jp es) e.ky e.rs now=Jp es:=by
 unfold No;rw[Y3 (by rw[Kv];exact Y5.mpr ⟨e,he,rfl⟩)];unfold Jp;rw[Yw];apply YU;intro x a;simp only[Function.comp]
 by_cases h:x.ky=e.ky
 .have:x=e:=U0 fun ne=>BF hk a he ne h
  subst this;rw[Y3 rfl]
 .rw[Y2 h]
theorem OA{ru:Str}{rs:RS}{d:PD}(hs:strange rs d=false)(hu:ru="refuse"->Ts rs.st d.at' d.ns=none):Ny ru rs d=if Ma (MM (decide (ru="last")) rs d).en 0 (MM (decide (ru="last")) rs d).cv=[] then .whole (MM (decide (ru="last")) rs d) else .keep (MM (decide (ru="last")) rs d):=by
 have a:(if ru="refuse" then Ts rs.st d.at' d.ns else none)=none:=by
  split
  .rename_i h;exact hu h
  .rfl
 unfold Ny;rw[Y2 (by rw[hs];simp),a]
theorem PQ(xs:List AE)(k:Int×Str×Str)(rs:RS)(now:Int):(No xs k rs now).length <=xs.length+ 1:=by
 unfold No
 split
 .rw[Y1];omega
 .rw[List.length_append];exact Y9 _
theorem x9{xs:List AE}{k:Int×Str×Str}{rs:RS}{now:Int}{y:AE}(h:y∈No xs k rs now):y∈xs\/y.2.1=rs:=by
 unfold No at h
 split at h
 .obtain⟨x,a,rfl⟩:=Y5.mp h
  split
  .exact .inr rfl
  .exact .inl a
 .rcases Yq.mp h with z|z
  .exact .inl z
  .rw[Yb.mp z];exact .inr rfl
def MK(ws:List ((Int×Str×Str)×Int))(k:Int×Str×Str)(t:Int):List ((Int×Str×Str)×Int):=if k∈ws.map (·.1) then ws.map (fun x=>if x.1=k then(k,t) else x) else ws++[(k,t)]
theorem m9(ws:List ((Int×Str×Str)×Int))(k:Int×Str×Str)(t:Int):MY (RB ws) (NB k) (.int t)=RB (MK ws k t):=by
 have e:((RB ws).any fun b=>decide (b.1=NB k))=decide (k∈ws.map (·.1)):=by
  unfold RB;rw[J1,YF,Yd,Wr];constructor
  .rintro⟨x,a,h⟩;exact Y5.mpr ⟨x,a,R8 (UG h)⟩
  .intro h;obtain⟨x,a,rfl⟩:=Y5.mp h;exact⟨x,a,Yt rfl⟩
 unfold MY MK;rw[e]
 by_cases h:k∈ws.map (·.1)
 .rw[Y3 (Yt h),Y3 h];unfold RB;rw[Yw,Yw];apply YU;intro x _;simp only[Function.comp]
  by_cases a:x.1=k
  .rw[Y3 a,Y3 (by rw[a]),a]
  .rw[Y2 a,Y2 (fun z=>a (R8 z))]
 .rw[Y2 (by simpa using h),Y2 h];unfold RB;rw[Yh];rfl
inductive Ev where
 |gone (k:Ky) (w:Str)
 |late (k:Ky)
 |strange (k:Ky)
 |whole (d:LD)
def Aq(CL:Jg)(G:Hp)(v:V):Ev->Prop
 | .gone k w=>∃t tk,v= .ref t/\G t=some (.tup [.str "gone",.ref tk,.str w])/\G tk=some (.tup (TD k))
 | .late k=>∃t tk,v= .ref t/\G t=some (.tup [.str "late",.ref tk])/\G tk=some (.tup (TD k))
 | .strange k=>∃t tk,v= .ref t/\G t=some (.tup [.str "strange",.ref tk])/\G tk=some (.tup (TD k))
 | .whole d=>∃t pl bl,v= .ref t/\G t=some (.tup [.str "whole",.ref pl])/\Mp CL G pl bl d
def Fj(CL:Jg)(G:Hp)(l:Jg)(evs:List Ev):Prop:=∃xs,G l=some (.lst xs)/\Pw (Aq CL G) xs evs
def KJ(CL:Jg)(H G:Hp)(v:V):Ev->Prop
 | .whole d=>∃t pl bl,v= .ref t/\G t=some (.tup [.str "whole",.ref pl])/\Mp CL G pl bl d/\∀ys,H bl≠some (.lst ys)
 | .gone k w=>Aq CL G v (.gone k w)
 | .late k=>Aq CL G v (.late k)
 | .strange k=>Aq CL G v (.strange k)
def Ez(CL:Jg)(H G:Hp)(l:Jg)(evs:List Ev):Prop:=∃xs,G l=some (.lst xs)/\Pw (KJ CL H G) xs evs
def EB(R:Js)(own:Ky)(xs:List AE):List AE×List Ky:=Tt R.out R.sp own (xs.length+ 1) xs
theorem TF.evsR{CL:Jg}{H G:Hp}{l:Jg}{ks:List Ky}(h:TF G l ks "room"):Ez CL H G l (ks.map fun k=>.gone k "room"):=by
 obtain⟨n,h1,h2,i⟩:=h;refine⟨_,h2,by rw[Y1,Y1,h1],fun j x y a b=>?_⟩;rw[Ya]at a b;obtain⟨t,f,rfl⟩:=Yl.mp a;obtain⟨k,g,rfl⟩:=Yl.mp b;obtain⟨e,c⟩:=i j t k f g;exact⟨t.1,t.2,rfl,e,c⟩
theorem Jr.lstN{C CR m dr df dw c:Jg}{H:Hp}{R:Js}{xs:List V}(h:Jr C CR H m dr df dw R)(hc:H c=some (.lst xs)):¬EV R m dr df dw c:=fun z=>by
 obtain⟨dx,fs,b,_⟩:=h.ex;rcases z with z|z|z|z|⟨e,he,z⟩
 .exact Jm hc b nofun z
 .exact Jm hc h.dR nofun z
 .exact Jm hc h.dF nofun z
 .exact Jm hc h.dW nofun z
 .have r:=h.rd e he;obtain⟨_,_,a,_⟩:=r.ex;rcases z with z|z
  .exact Jm hc a nofun z
  .exact Jm hc r.dk nofun z
def Mw(R:Js)(d:PD):List AE×List ((Int×Str×Str)×Int)×List Ev:=
 if Ae R d.key=true then(Jp R.es,R.ws,[.late d.key]) else
 match Ny R.ru (Mu R.es d.key) d with
 | .str=>(No (Jp R.es) d.key (Mu R.es d.key) R.now,R.ws,[.strange d.key])
 | .unl _=>(JD (Jp R.es) d.key,R.ws,[.gone d.key "unlike"])
 | .keep rs=>((EB R d.key (No (Jp R.es) d.key rs R.now)).1,R.ws,(EB R d.key (No (Jp R.es) d.key rs R.now)).2.map fun k=>.gone k "room")
 | .whole rs=>(JD (Jp R.es) d.key,MK R.ws d.key R.now,[.whole ⟨d.nu,d.z1,d.z2,T9 rs,false⟩])
section
variable{P:J9}{w:Jd}{K:Je}{mg:J5}{base:Jj}
inductive Iy(C CR CP CL:Jg)(vs:List V)(H:Hp)(Q:VK)(E:XK):Prop|mk (m dr df dw q b:Jg) (R:Js) (d:PD) (_:vs=[.ref m,.ref q]) (_:Jr C CR H m dr df dw R) (_:NH CP H q b d) (_:R.es.length <=900) (_:R.ws.length <=1000) (_:(∀e∈R.es,e.rs.st.length <=10000/\e.rs.cv.length <=800/\Ms e.rs)) (_:T3 (JD (Jp R.es) d.key) <=R.sp) (_:(∀e∈R.es,Tp e.ky)) (_:∀R' l G,M6 C CR H G m dr df dw R R' (Mw R d).1 (Mw R d).2.1->Ez CL H G l (Mw R d).2.2->Q (.ref l) G)
abbrev KL:Stmt:=Mv (top 42) 13
theorem F5:Nv ["self","piece","key","reading","answer"] ["self","piece"] (Jl KL):=by walk_at"e"
theorem rP{f C CR CP CW CU CL:Jg}{fd:Jb}(F:NK K "take_in" "Room.take_in" KL f fd)(L:D2 K C)(LW:BY K CW "body")(icW:Bu K CW)(icU:Bu K CU)(LU:BY K CU "at")(ww:W.kitOne K (.ref CW) (.ref CW)=some true)(uw:W.kitOne K (.ref CU) (.ref CW)=some false)(B:Bt mg)(gC_Whole:mg "Whole"=some (.ref CW))
  (TW:T4 P w K mg base CP "key" 1 ["self"] [] (Sz CP)) (NG:T4 P w K mg base C "is_resting" 1 ["self","key"] [] (Ox C CR)) (Rg:Gg P w K mg base "Reading" 1 (QW CR)) (JK:T4 P w K mg base CR "is_strange" 2 ["self","piece"] [] (Fq CR CP)) (Np:T4 P w K mg base CR "answer_to" 3 ["self","piece"] [] (Ih CR CP CW CU))
  (NI:T4 P w K mg base C "make_space" 4 ["self","own"] [] (Iw C CR)) (JY:T4 P w K mg base C "let_go" 1 ["self","key"] [] (C4 C CR)) (TR:Gg P w K mg base "Letter" 6 (HM CL)):Ju P w K mg base N7 8 f fd ["self","piece"] (Iy C CR CP CL):=by
 refine F.ok F5 (fun vs H Q E h=>?_) (fun cdv A outer s H vs Q E hr h=>?_)
 .obtain⟨m,dr,df,dw,q,b,R,d,rfl,_⟩:=h;rfl
 .obtain⟨m,dr,df,dw,q,b,R,d,rfl,hR,hP,hel,hwl,hes,htot,hkok,q0⟩:=h;refine⟨_,(JE (Tr 2 F5 (Dc (Jn 1) TW hr.m)) (JE (Tg (MO (DM (Jn 0) NG hr.m (Jv 2 Jt))) (JM (Nk (Dn (Nc (hs:=GM) (MR (TH Tj (Jv 2 Jt))) Jt)))) TC) (JE (Tr 3 F5 (DQ (K:=K) rfl YN UO VR (OU (Gy hr)) (Nx K (Jn 0)) (Jv 2 (DZ (Eo Rg hr.m rfl (Dt (Nx K (Jn 0)) Jt)) Jt)))) (JE (D8 (DQ (K:=K) rfl YN UO VR (OU (Gy hr)) (Nx K (Jn 0)) (Jv 2 (Dt (Nx K (Jn 0)) Jt)))) (JE (Tg (PW.pt (A2 (Tx (Cd Ar) (Nx K (Jn 0)) Tj) (Ab (MO (DM (Jn 3) JK hr.m (Jv 1 Jt)))))) (JM (Nk (Dn (Nc (hs:=GM) (MR (TH Tj (Jv 2 Jt))) Jt)))) TC) (JE (Tr 4 F5 (DM (Jn 3) Np hr.m (Jv 1 Jt))) (JE (Tg (Tx IQ (Jn 4) DY) (JM (Nk (DM (Jn 0) NI hr.m (Jv 2 Jt)))) TC) (JE (D8 (DM (Jn 0) JY hr.m (Jv 2 Jt))) (JE (Tg (MO (Tu (mW (K:=K) rfl) B.isinstance (Jv 4 (Nc (hs:=Gu) (A7 (v:=.ref CW) rfl gC_Whole rfl) Jt)))) (JE (Zn (Gy hr) (Nx K (Jn 0)) (Jn 2) (Nx K (Jn 0)) rfl) (JM (Nk (Dn (Nc (hs:=GM) (MR (TH Tj (DZ (Eo TR hr.m rfl (Dq (M5 K (Jn 2) JI) (Dq (M5 K (Jn 2) JI) (Dq (M5 K (Jn 2) JI) (Dt (Nx K (Jn 4)) Jt))))) Jt))) Jt))))) TC) (JM (Nk (Dn (Nc (hs:=GM) (MR (TH Tj (Jv 2 (TH Tj Jt)))) Jt))))))))))))),?_⟩;refine Nl fun N hN=>?_
  walk_at"r";refine⟨tN hP,q,b,d,rfl,hP,fun tk G1 htk s1 e1=>hN _ _ ?_⟩;clear hN N;have hR1:=hR.mono s1;have hP1:=hP.mono s1;refine Nl fun N hN=>?_
  walk_at"r";refine⟨hR1.mt rfl,m,dr,df,dw,tk,R,d.key,rfl,hR1,e1,_,rfl,?_⟩
  by_cases hrs:Ae R d.key=true
  .rw[Y3 hrs];refine⟨Ni (by simp),fun t G2 ht s2 e2=>⟨Ni (by simp),fun l G3 hl s3 e3=>?_⟩⟩;have s123:=s1.trans (s2.trans s3);unfold Mw at q0;rw[Y3 hrs]at q0;refine q0 R l G3 ⟨fun c o h _=>s123 c o h,hR.mono s123,rfl,rfl,⟨rfl,rfl,rfl,rfl,rfl,rfl⟩,fun e he=>.inl ⟨e,he,rfl,rfl⟩,fun e he=>.inl ⟨e,he,rfl⟩⟩ ⟨_,e3,.one ⟨t,tk,rfl,s3 _ _ e2,s3 _ _ (s2 _ _ e1)⟩⟩
  rw[Y2 hrs];refine hN _ _ ?_;clear hN N;have q0:match Ny R.ru (Mu R.es d.key) d with
    | .str=>∀R' l t tk G,M6 C CR H G m dr df dw R R' (No (Jp R.es) d.key (Mu R.es d.key) R.now) R.ws->G l=some (.lst [.ref t])->G t=some (.tup [.str "strange",.ref tk])->G tk=some (.tup (TD d.key))->Q (.ref l) G
    | .unl _=>∀R' l t tk G,M6 C CR H G m dr df dw R R' (JD (Jp R.es) d.key) R.ws->G l=some (.lst [.ref t])->G t=some (.tup [.str "gone",.ref tk,.str "unlike"])->G tk=some (.tup (TD d.key))->Q (.ref l) G
    | .keep rs=>∀R' l G,M6 C CR H G m dr df dw R R' (EB R d.key (No (Jp R.es) d.key rs R.now)).1 R.ws->TF G l (EB R d.key (No (Jp R.es) d.key rs R.now)).2 "room"->Q (.ref l) G
    | .whole rs=>∀R' l t pl bl G,M6 C CR H G m dr df dw R R' (JD (Jp R.es) d.key) (MK R.ws d.key R.now)->G l=some (.lst [.ref t])->G t=some (.tup [.str "whole",.ref pl])->Mp CL G pl bl ⟨d.nu,d.z1,d.z2,T9 rs,false⟩->(∀ys,H bl≠some (.lst ys))->Q (.ref l) G:=by
   unfold Mw at q0;rw[Y2 hrs]at q0;cases hst:Ny R.ru (Mu R.es d.key) d with
   |str=>rw[hst]at q0;exact fun R' l t tk G hn x1 x2 x3=>q0 R' l G hn ⟨_,x1,.one ⟨t,tk,rfl,x2,x3⟩⟩
   |unl n=>rw[hst]at q0;exact fun R' l t tk G hn x1 x2 x3=>q0 R' l G hn ⟨_,x1,.one ⟨t,tk,rfl,x2,x3⟩⟩
   |keep rs=>rw[hst]at q0;exact fun R' l G hn x1=>q0 R' l G hn x1.evsR
   |whole rs=>rw[hst]at q0;exact fun R' l t pl bl G hn x1 x2 x3 x4=>q0 R' l G hn ⟨_,x1,.one ⟨t,pl,bl,rfl,x2,x3,x4⟩⟩
  obtain⟨nm1,nm2,nm3,nme⟩:=hR1.ne;refine rX fun N hN=>?_
  have go:∀ (i:List RE) (e:RE) (G:Hp),Jr C CR G m dr df dw {R with es:=i}->MI R m dr df dw H G->e∈i->e.ky=d.key->e.rs=Mu R.es d.key->Jp i=No (Jp R.es) d.key (Mu R.es d.key) R.now->(∀x∈i,((∃e0∈R.es,x.p=e0.p/\x.a=e0.a)\/(H x.p=none/\H x.a=none))/\((∃e0∈R.es,x.l=e0.l)\/H x.l=none))->(∀x∈R.es,∃y∈i,y.p=x.p/\y.a=x.a)->NH CP G q b d->G tk=some (.tup (TD d.key))->
    N [some (.ref m),some (.ref q),some (.ref tk),some (.ref e.p),none] G:=by
   intro i e G hG hkp he hek hers habs hnw hold hPG htkG;refine hN _ _ ?_;clear hN N;have hre:=hG.rd e he;have hcur:e.rs.st.length <=10000/\e.rs.cv.length <=800/\Ms e.rs:=by
    rw[hers]
    by_cases h:d.key∈R.es.map (·.ky)
    .obtain⟨x,g,hxk⟩:=Y5.mp h;have hxk:x.ky=d.key:=hxk;rw[<-hxk,CZ hR.nk g];exact hes x g
    .rw[F7 h];exact⟨Yx _,Yx _,Ms.zero⟩
   rw[<-hers]at q0 habs;have hfree:∀c,G c=none->H c=none:=fun c hc=>by
    cases h:H c with
    |none=>rfl
    |some o=>
     have:EV R m dr df dw c:=U0 fun n=>by rw[hkp c o h n]at hc;cases hc
     exfalso
     obtain⟨_,_,hmG,_⟩:=hG.ex;rcases this with rfl|rfl|rfl|rfl|⟨x,g,hxc⟩
     .rw[hmG]at hc;cases hc
     .rw[hG.dR]at hc;cases hc
     .rw[hG.dF]at hc;cases hc
     .rw[hG.dW]at hc;cases hc
     .obtain⟨y,hy,h1,h2⟩:=hold x g;have ry:=hG.rd y hy;obtain⟨_,_,hyp,_⟩:=ry.ex;rcases hxc with z|z
      .rw[z,<-h1,hyp]at hc;cases hc
      .rw[z,<-h2,ry.dk]at hc;cases hc
   have nxt:∀{G2:Hp} (es2:List RE) (ws2:List ((Int×Str×Str)×Int)),MI R m dr df dw H G2->Jr C CR G2 m dr df dw {R with es:=es2,ws:=ws2}->(∀x∈es2,∃y∈i,x.p=y.p/\x.a=y.a/\(x.l=y.l\/H x.l=none))->M6 C CR H G2 m dr df dw R {R with es:=es2,ws:=ws2} (Jp es2) ws2:=fun es2 ws2 k o h=>
    ⟨k, o, rfl, rfl, ⟨rfl, rfl, rfl, rfl, rfl, rfl⟩, fun x g => by
     obtain⟨y,hy,h1,h2,_⟩:=h x g;rw[h1,h2];exact(hnw y hy).1,fun x g=>by
     obtain⟨y,hy,_,_,h3|h3⟩:=h x g
     .rw[h3];exact(hnw y hy).2
     .exact .inr h3⟩
   refine Nl fun N hN=>?_
   have k6:(R.ru≠"refuse"->strange e.rs d=false)->N [some (.ref m),some (.ref q),some (.ref tk),some (.ref e.p),none] G:=fun hns=>by
    refine hN _ _ ?_;clear hN N;refine Nl fun N hN=>?_
    have unl:∀ (n:Int) (m':Jg) (G2:Hp),Jo G G2->RW CU "at" G2 m' (.int n)->Ny R.ru e.rs d= .unl n->N [some (.ref m),some (.ref q),some (.ref tk),some (.ref e.p),some (.ref m')] G2:=fun n m' G2 s2 hA hst=>by
     refine hN _ _ ?_;clear hN N;rw[hst]at q0;obtain⟨dx,fs,x1,x2⟩:=hA;have hG2:=hG.mono s2;refine Nl fun N hN=>?_
     walk_at"r";refine hN _ _ ?_;clear hN N;refine Nl fun N hN=>?_
     walk_at"r";refine⟨hG2.mt rfl,m,dr,df,dw,tk,{R with es:=i},d.key,rfl,hG2,s2 _ _ htkG,Y5.mpr ⟨e,he,hek⟩,fun G3 kp3 hG3=>hN _ _ ?_⟩;clear hN N;have x3:=kp3 m' _ x1 (Jm x1 hG2.dR nofun) (Jm x1 hG2.dF nofun);have htk2:=s2 _ _ htkG;have htk3:=kp3 tk _ htk2 (Jm htk2 hG2.dR nofun) (Jm htk2 hG2.dF nofun);walk_at"r";refine⟨_,_,_,x3,LU.cl,icU,_,uw,?_⟩;rw[Y2 (by simp)];refine⟨Ni (by simp),fun t G4 ht s4 e4=>⟨Ni (by simp),fun l G5 hl s5 e5=>?_⟩⟩;have s45:=s4.trans s5;have hn:=nxt (G2:=G5) (Nw i d.key) R.ws (fun c o h hc=>s45 c o (kp3 c o (s2 c o (hkp c o h hc)) (fun z=>hc (.inr (.inl z))) (fun z=>hc (.inr (.inr (.inl z)))))) (hG3.mono s45) fun x g=>⟨x,(Yr.mp g).1,rfl,rfl,.inl rfl⟩
     rw[Sa,habs,Iv]at hn;exact q0 _ l t tk G5 hn e5 (s5 _ _ e4) (s45 _ _ htk3)
    walk_at"r";refine⟨uV hre,e.p,e.a,e.l,q,b,R.ru,e.rs,d,rfl,hre,hPG,by omega,by omega,fun hs=>⟨fun hr m' G2 s2 hA=>?_,fun hr=>?_⟩,fun hs=>⟨fun n h2 h3 m' G2 s2 hA=>?_,fun hu j ers=>⟨fun hne l' G2 hl0 kp hR2=>?_,fun heq=>?_⟩⟩⟩
    .have hst:Ny R.ru e.rs d= .unl d.at':=by unfold Ny;rw[Y3 hs,Y3 hr]
     exact unl _ m' G2 s2 hA hst
    .rw[hns hr]at hs;cases hs
    .have hst:Ny R.ru e.rs d= .unl n:=by unfold Ny;rw[Y2 (by rw[hs];simp),Y3 h2,h3]
     exact unl _ m' G2 s2 hA hst
    .have hst:Ny R.ru e.rs d= .keep j:=by rw[OA hs hu,<-ers,Y2 hne]
     rw[hst]at q0;have hl0':H l'=none:=hfree l' hl0;have hR3:=hG.goOn he kp hR2;have hlen:j.st.length <=e.rs.st.length+ d.ns.length:=by rw[ers];exact Oz _ _ _ _
     have hdl:=hPG.ok.l2;have habs2:Jp (Mr i e.ky l' j)=No (Jp R.es) d.key j R.now:=by
      rw[Pn R.now (Y5.mpr ⟨e,he,rfl⟩),habs,hek,Pb]
     have hel1:i.length <=901:=by
      have h1:=YR List.length habs;have h2:=PQ (Jp R.es) d.key e.rs R.now;unfold Jp at h1 h2;rw[Y1]at h1 h2;omega
     have hbd1:∀x∈i,x.rs.st.length <=10000:=fun x g=>by
      have:(x.ky,x.rs,x.first)∈No (Jp R.es) d.key e.rs R.now:=by rw[<-habs];exact Y5.mpr ⟨x,g,rfl⟩
      rcases x9 this with z|z
      .obtain⟨y,hy,hz⟩:=Y5.mp z;have:y.rs=x.rs:=YR (fun t=>t.2.1) hz;rw[<-this];exact(hes y hy).1
      .have:x.rs=e.rs:=z;rw[this];exact hcur.1
     refine hN _ _ ?_;clear unl hN N;refine Nl fun N hN=>?_
     walk_at"r";have htk2:=kp tk _ htkG (fun z=>by obtain⟨_,_,hpe,_⟩:=hre.ex;rw[z,hpe]at htkG;cases htkG) (fun z=>by have:=hre.dk;rw[z,this]at htkG;cases htkG);have hupd:(Mr i e.ky l' j).length=(No (Jp R.es) d.key j R.now).length:=by rw[<-habs2];exact(Y1 ..).symm
     have hsk:Co {R with es:=Mr i e.ky l' j} d.key=EB R d.key (No (Jp R.es) d.key j R.now):=by
      unfold Co EB;show Tt R.out R.sp d.key ((Mr i e.ky l' j).length+ 1) (Jp (Mr i e.ky l' j))=_;rw[hupd,habs2]
     refine⟨hR3.mt rfl,m,dr,df,dw,tk,{R with es:=Mr i e.ky l' j},d.key,rfl,hR3,htk2,?_,?_,fun x g=>?_,fun x g=>?_,?_,fun es' l G4 hes' hsub hl k4 hR4 hG4=>?_⟩
     .show d.key∈(Mr i e.ky l' j).map (·.ky);rw[<-Gd,habs2];unfold No
      split
      .rename_i hin
       obtain⟨x,g,hxk⟩:=Y5.mp hin;exact Y5.mpr ⟨(d.key,j,x.2.2),Y5.mpr ⟨x,g,by rw[Y3 hxk]⟩,rfl⟩
      .simp
     .show(Mr i e.ky l' j).length <=1000;unfold Mr;rw[Y1];omega
     .obtain⟨y,hy,rfl⟩:=Y5.mp g
      split
      .show j.st.length <=100000;omega
      .have:=hbd1 y hy;omega
     .have hxk:x.ky∈(Jp (Mr i e.ky l' j)).map (·.1):=by rw[Gd];exact Y5.mpr ⟨x,g,rfl⟩
      rw[habs2]at hxk;have hin:x.ky=d.key\/x.ky∈(Jp R.es).map (·.1):=by
       unfold No at hxk
       split at hxk
       .obtain⟨y,hy,hyk⟩:=Y5.mp hxk;obtain⟨z,hz,rfl⟩:=Y5.mp hy
        by_cases hzk:z.1=d.key
        .rw[Y3 hzk]at hyk;exact .inl hyk.symm
        .rw[Y2 hzk]at hyk;exact .inr (Y5.mpr ⟨z,hz,hyk⟩)
       .rw[Yh]at hxk;rcases Yq.mp hxk with z|z
        .exact .inr z
        .exact .inl (by simpa using z)
      rcases hin with z|z
      .rw[z];exact⟨hPG.ok.n0,hPG.ok.n1,hPG.ok.k1,hPG.ok.k2⟩
      .rw[Gd]at z;obtain⟨y,hy,hyk⟩:=Y5.mp z;rw[<-hyk];exact hkok y hy
     .show T3 (JD (Jp (Mr i e.ky l' j)) d.key) <=R.sp;rw[habs2,Iv];exact htot
     .rw[hsk]at hes' hG4;have hn:=nxt (G2:=G4) es' R.ws (fun c o h hc=>k4 c o (kp c o (hkp c o h hc) (fun z=>?_) (fun z=>?_)) (fun z=>hc (.inr (.inl z))) (fun z=>hc (.inr (.inr (.inl z))))) hR4 fun x g=>?_
      .rw[hes']at hn;exact q0 _ l G4 hn hG4
      .rcases(hnw e he).1 with⟨e0,h0,z1,_⟩|⟨z1,_⟩
       .exact hc (.inr (.inr (.inr (.inr ⟨e0,h0,.inl (z.trans z1)⟩))))
       .rw[z,z1]at h;cases h
      .rcases(hnw e he).1 with⟨e0,h0,_,z1⟩|⟨_,z1⟩
       .exact hc (.inr (.inr (.inr (.inr ⟨e0,h0,.inr (z.trans z1)⟩))))
       .rw[z,z1]at h;cases h
      .obtain⟨y,hy,rfl⟩:=Y5.mp (hsub x g);refine⟨y,hy,?_⟩
       split
       .exact⟨rfl,rfl,.inr hl0'⟩
       .exact⟨rfl,rfl,.inl rfl⟩
    .have hst:Ny R.ru e.rs d= .whole j:=by rw[OA hs hu,<-ers,Y3 heq]
     rw[hst]at q0;have hI':Ms j:=by rw[ers];exact hcur.2.2.step _ hPG.ok
     obtain⟨en,b1,b2,b3,b4⟩:=hI'.iv.body heq;obtain⟨c1,c2,c3⟩:=hI'.body heq;refine⟨en,T9 j,b1,b2,b3,b4,fun m' b' l' G2 hb0 hl0 kp hR2 hA=>hN _ _ ?_⟩;clear unl hN N;have hl0':H l'=none:=hfree l' hl0;have hR3:=hG.goOn he kp hR2;obtain⟨dx,fs,x1,x2,x3⟩:=hA;have htk2:=kp tk _ htkG (fun z=>by obtain⟨_,_,hpe,_⟩:=hre.ex;rw[z,hpe]at htkG;cases htkG) (fun z=>by have:=hre.dk;rw[z,this]at htkG;cases htkG);refine Nl fun N hN=>?_
     walk_at"r";refine hN _ _ ?_;clear hN N;refine Nl fun N hN=>?_
     walk_at"r";refine⟨hR3.mt rfl,m,dr,df,dw,tk,{R with es:=Mr i e.ky l' j},d.key,rfl,hR3,htk2,?_,fun G3 kp3 hG3=>hN _ _ ?_⟩
     .show d.key∈(Mr i e.ky l' j).map (·.ky);rw[HI (·.ky) (fun _ _ _=>rfl)];exact Y5.mpr ⟨e,he,hek⟩
     clear hN N;have off3:∀{c:Jg} {o:HO},G2 c=some o->(∀kvs,o≠ .dT kvs)->G3 c=some o:=fun h n=>kp3 _ _ h (fun z=>by rw[z,hR3.dR]at h;cases h;exact n _ rfl) (fun z=>by rw[z,hR3.dF]at h;cases h;exact n _ rfl)
     have y1:=off3 x1 (fun _ z=>nomatch z);have y3:=off3 x3 (fun _ z=>nomatch z);have htk3:=off3 htk2 (fun _ z=>nomatch z);walk_at"r";refine⟨_,_,_,y1,LW.cl,icW,_,ww,?_⟩;rw[Y3 rfl];have hwl':(RB R.ws).length=R.ws.length:=Y1 ..;refine⟨_,F9 L hG3,_,Oc L hG3,dw,rfl,NB d.key,_,hG3.dW,htk3,Rq (show(RB R.ws).length <=100000 by omega),fun G4 b4 e4=>?_⟩;have e4':G4 dw=some (.dT (RB (MK R.ws d.key R.now))):=by rw[<-m9];exact e4
     have off4:∀{c:Jg} {o:HO},G3 c=some o->(∀kvs,o≠ .dT kvs)->G4 c=some o:=fun h n=>b4 _ _ h (fun z=>by rw[z,hG3.dW]at h;cases h;exact n _ rfl)
     have z1:=off4 y1 (fun _ z=>nomatch z);have z3:=off4 y3 (fun _ z=>nomatch z);have htk4:=off4 htk3 (fun _ z=>nomatch z);refine⟨_,N8.of htk4,_,rfl,_,N8.of htk4,_,rfl,_,N8.of htk4,_,rfl,_,⟨m',CW,dx,fs,rfl,z1,LW.cl,LW.na,x2⟩,?_⟩;refine⟨⟨d.nu,d.z1,d.z2,T9 j,false⟩,b',rfl,rfl,⟨hPG.ok.n0,hPG.ok.n1,hPG.ok.k1,hPG.ok.k2,c1,c2,c3⟩,z3,fun pl bl G5 hpl hbl s5 hL=>⟨Ni (by simp),fun t G6 ht s6 e6=>⟨Ni (by simp),fun l G7 hl s7 e7=>?_⟩⟩⟩;have s57:=s5.trans (s6.trans s7);obtain⟨dxm,fsm,hm3,hlm,hfm⟩:=hG3.ex;have hG4:Jr C CR G4 m dr df dw {R with es:=Nw (Mr i e.ky l' j) d.key,ws:=MK R.ws d.key R.now}:=
      ⟨⟨dxm,fsm,off4 hm3 (fun _ z=>nomatch z),hlm,hfm⟩,b4 dr _ hG3.dR hR.n2,b4 df _ hG3.dF hR.n3,e4',hR.n1,hR.n2,hR.n3,fun x g=>(hG3.rd x g).offD (fun c o h n=>b4 c o h n) hG3.dW,hG3.np,hG3.na,hG3.nk⟩
     have k04:MI R m dr df dw H G4:=fun c o h hc=>by
      refine b4 c o (kp3 c o (kp c o (hkp c o h hc) (fun z=>?_) (fun z=>?_)) (fun z=>hc (.inr (.inl z))) (fun z=>hc (.inr (.inr (.inl z))))) (fun z=>hc (.inr (.inr (.inr (.inl z)))))
      .rcases(hnw e he).1 with⟨e0,h0,z1,_⟩|⟨z1,_⟩
       .exact hc (.inr (.inr (.inr (.inr ⟨e0,h0,.inl (z.trans z1)⟩))))
       .rw[z,z1]at h;cases h
      .rcases(hnw e he).1 with⟨e0,h0,_,z1⟩|⟨_,z1⟩
       .exact hc (.inr (.inr (.inr (.inr ⟨e0,h0,.inr (z.trans z1)⟩))))
       .rw[z,z1]at h;cases h
     have hn:=nxt (G2:=G7) (Nw (Mr i e.ky l' j) d.key) (MK R.ws d.key R.now) (fun c o h hc=>s57 c o (k04 c o h hc)) (hG4.mono s57) fun x g=>?_
     .rw[Sa,Pn R.now (Y5.mpr ⟨e,he,rfl⟩),habs,hek,Pb,Iv]at hn;refine q0 _ l t pl bl G7 hn e7 (s7 _ _ e6) (hL.mono (s6.trans s7)) fun ys h=>?_
      rw[k04 _ _ h (hR.lstN h)]at hbl;cases hbl
     .obtain⟨y,hy,rfl⟩:=Y5.mp (Yr.mp g).1;refine⟨y,hy,?_⟩
      split
      .exact⟨rfl,rfl,.inr hl0'⟩
      .exact⟨rfl,rfl,.inl rfl⟩
   walk_at"r";refine⟨_,Pm L hG,rfl,?_⟩
   by_cases hru:R.ru="refuse"
   .rw[Y2 (by rw[show({R with es:=i}:Js).ru=R.ru from rfl,hru];simp)];exact k6 fun z=>absurd hru z
   .rw[Y3 (by simpa using hru)];refine⟨Se hre,e.p,e.a,e.l,q,b,R.ru,e.rs,d,rfl,hre,hPG,_,rfl,DX (fun hs=>?_) fun hs=>k6 fun _=>by simpa using hs⟩;refine⟨Ni (by simp),fun t G2 ht s2 e2=>⟨Ni (by simp),fun l G3 hl s3 e3=>?_⟩⟩;have hst:Ny R.ru e.rs d= .str:=by unfold Ny;rw[Y3 hs,Y2 hru]
    rw[hst]at q0;have s23:=s2.trans s3;have hn:=nxt i R.ws (fun c o h hc=>s23 c o (hkp c o h hc)) (hG.mono s23) fun x g=>⟨x,g,rfl,rfl,.inl rfl⟩
    rw[habs]at hn;exact q0 _ l t tk G3 hn e3 (s3 _ _ e2) (s23 _ _ htkG)
  refine Nl fun N3 hN3=>?_
  walk_at"r";have hkn:=hR.nk;have erl:(Dh R.es).length=R.es.length:=Y1 ..;have efl:(DH R.es).length=R.es.length:=Y1 ..;refine⟨_,B9 L hR1,.inr (.inr (.inl ⟨rfl,.inr ⟨_,hR1.dR⟩⟩)),_,Pm L hR1,R.ru,rfl,fun p a l G2 hp2 ha2 hl2 s2 hRd=>?_⟩;have hR2:=hR1.mono s2;have htk2:=s2 _ _ e1;refine⟨dr,rfl,NB d.key,_,hR2.dR,htk2,Rq (by omega),fun v hv=>hN3 _ _ ?_,fun hv G3 b3 e3=>hN3 _ _ ?_⟩ <;> clear hN3 N3
  .have hmem:d.key∈R.es.map (·.ky):=by
    by_cases h:d.key∈R.es.map (·.ky)
    .exact h
    .rw[bW h]at hv;cases hv
   obtain⟨e,he,hek⟩:=Y5.mp hmem;have hek:e.ky=d.key:=hek;rw[<-hek,Bz hkn he]at hv;cases hv;walk_at"r";refine⟨_,FC L hR2,.inr (.inr (.inl ⟨rfl,.inr ⟨_,hR2.dF⟩⟩)),_,F9 L hR2,df,rfl,NB d.key,_,hR2.dF,htk2,Rq (by omega),fun v hv=>?_,fun hv=>?_⟩
   .refine go R.es e G2 hR2 (fun c o h _=>s2 c o (s1 c o h)) he hek (by rw[<-hek];exact(CZ hkn he).symm) ?_ (fun x g=>⟨.inl ⟨x,g,rfl,rfl⟩,.inl ⟨x,g,rfl⟩⟩) (fun x g=>⟨x,g,rfl,rfl⟩) (hP1.mono s2) htk2;rw[<-hek,CZ hkn he,ZR hkn he]
   .rw[<-hek,By hkn he]at hv;cases hv
  .have hmem:d.key∉R.es.map (·.ky):=fun h=>by
    obtain⟨e,he,hek⟩:=Y5.mp h;have hek:e.ky=d.key:=hek;rw[<-hek,Bz hkn he]at hv;cases hv
   have hm3:∀o,G2 m=some o->G3 m=some o:=fun o h=>b3 m o h nm1
   have hf3:=b3 df _ hR2.dF (Ne.symm hR.n1);have htk3:=b3 tk _ htk2 (Jm htk2 hR2.dR nofun);walk_at"r";refine⟨_,hR2.fldO hm3 L.cl L.firsts rfl,.inr (.inr (.inl ⟨rfl,.inr ⟨_,hf3⟩⟩)),_,hR2.fldO hm3 L.cl L.now rfl,df,rfl,NB d.key,_,hf3,htk3,Rq (by omega),fun v hv=>?_,fun _ G4 b4 e4=>?_⟩
   .rw[wI hmem]at hv;cases hv
   .have kp:∀c o,G2 c=some o->c≠dr->c≠df->G4 c=some o:=fun c o h n1 n2=>b4 c o (b3 c o h n1) n2
    have off2:∀{p' a' l':Jg} {rs:RS},NU CR G2 p' a' l' R.ru rs->NU CR G4 p' a' l' R.ru rs:=fun h=>
     (h.offD (G:=G3) (fun c o h n=>b3 c o h n) hR2.dR).offD (G:=G4) (fun c o h n=>b4 c o h n) hf3
    obtain⟨dx,fs,hm,hl,hf⟩:=hR2.ex;have np':∀x∈R.es,x.p≠p/\x.a≠a:=fun x g=>by
     have r:=hR1.rd x g;obtain⟨_,_,hxp,_⟩:=r.ex;exact⟨Te hxp hp2,Te r.dk ha2⟩
    have nd:∀{β:Type} (f:RE->β),(R.es.map f).Nodup->(∀x∈R.es,f x≠f (⟨d.key,p,a,l,Du,R.now⟩:RE))->((R.es++[(⟨d.key,p,a,l,Du,R.now⟩:RE)]).map f).Nodup:=fun f h1 h2=>by
     rw[Yh,Um];refine⟨h1,by simp,fun x g y hy z=>?_⟩;obtain⟨x0,hx0,rfl⟩:=Y5.mp g;have:y=f (⟨d.key,p,a,l,Du,R.now⟩:RE):=by simpa using hy
     exact h2 x0 hx0 (by rw[<-this];exact z)
    refine go (R.es++[(⟨d.key,p,a,l,Du,R.now⟩:RE)]) ⟨d.key,p,a,l,Du,R.now⟩ G4 ⟨⟨dx,fs,kp m _ hm nm1 nm2,hl,hf⟩,?_,?_,kp dw _ hR2.dW (Ne.symm hR.n2) (Ne.symm hR.n3),hR.n1,hR.n2,hR.n3,fun x g=>?_,nd (·.p) hR.np fun x g=>(np' x g).1,nd (·.a) hR.na fun x g=>(np' x g).2,nd (·.ky) hR.nk fun x g z=>hmem (Y5.mpr ⟨x,g,z⟩)⟩ (fun c o h hc=>?_) (by simp) rfl (F7 hmem).symm ?_ (fun x g=>?_) (fun x g=>⟨x,Xf _ g,rfl,rfl⟩) ?_ (kp tk _ htk2 (Jm htk2 hR2.dR nofun) (Jm htk2 hR2.dF nofun))
    .show G4 dr=some (.dT (Dh (R.es++[(⟨d.key,p,a,l,Du,R.now⟩:RE)])));rw[b4 dr _ e3 hR.n1];unfold Dh;rw[Yh];rfl
    .show G4 df=some (.dT (DH (R.es++[(⟨d.key,p,a,l,Du,R.now⟩:RE)])));rw[e4];unfold DH;rw[Yh];rfl
    .rcases Yq.mp g with z|z
     .exact off2 (hR2.rd x z)
     .rw[Yb.mp z];exact off2 hRd
    .exact kp c o (s2 c o (s1 c o h)) (fun z=>hc (.inr (.inl z))) (fun z=>hc (.inr (.inr (.inl z))))
    .unfold No;rw[Y2 (by rw[Kv];exact hmem),F7 hmem];unfold Jp;rw[Yh];rfl
    .rcases Yq.mp g with z|z
     .exact⟨.inl ⟨x,z,rfl,rfl⟩,.inl ⟨x,z,rfl⟩⟩
     .rw[Yb.mp z];exact⟨.inr ⟨s1.free hp2,s1.free ha2⟩,.inr (s1.free hl2)⟩
    .have hP2:=hP1.mono s2;obtain⟨dxq,fsq,hq⟩:=hP2.ins;exact⟨hP2.ok,hP2.ats.same fun o h=>kp q o h (Jm hq hR2.dR nofun) (Jm hq hR2.dF nofun),kp b _ hP2.bd (Jm hP2.bd hR2.dR nofun) (Jm hP2.bd hR2.dF nofun)⟩
theorem Jr.setNow{C CR m dr df dw dx:Jg}{H G:Hp}{R:Js}{fs:List (Str×V)}{t:Int}(h:Jr C CR H m dr df dw R)(hm:H m=some (.ins C dx fs))(b:Nd m H G)(e:G m=some (.ins C dx (NX "now" (.int t) fs))):Jr C CR G m dr df dw {R with now:=t}:=by
 obtain⟨dx',fs',c,hl,s⟩:=h.ex;rw[hm]at c;cases c;obtain⟨o,n,j,i⟩:=h.ne;have g:fs.lookup ("now":Str)=some (.int R.now):=by rw[s];rfl
 refine⟨⟨dx,_,e,by rw[AU g];exact hl,fun f=>?_⟩,b _ _ h.dR (Ne.symm o),b _ _ h.dF (Ne.symm n),b _ _ h.dW (Ne.symm j),h.n1,h.n2,h.n3,fun x p=>?_,h.np,h.na,h.nk⟩
 .by_cases hfn:f="now"
  .subst hfn;rw[D4];rfl
  .rw[JJ hfn,s f];show List.lookup f (B7 R dr df dw)=List.lookup f (B7 {R with now:=t} dr df dw);have hb:(f==("now":Str))=false:=Xz.mpr hfn;simp only[B7,Ut,hb]
 .obtain⟨n1,n2,_⟩:=i x p;have r:=h.rd x p;obtain⟨w,v,hp,r2⟩:=r.ex;obtain⟨xs,a,hc⟩:=r.cv;exact⟨⟨w,v,b _ _ hp (Ne.symm n1),r2⟩,b _ _ r.dk (Ne.symm n2),xs,b _ _ a (Jm a hm nofun),hc.tk fun t ys q=>b _ _ q (Jm q hm nofun)⟩
theorem NH.neM{C CR CP m dr df dw q b:Jg}{H:Hp}{R:Js}{d:PD}(h:Jr C CR H m dr df dw R)(k:NH CP H q b d):q≠m/\b≠m/\¬EV R m dr df dw q/\¬EV R m dr df dw b:=by
 obtain⟨dx,fs,n,_,p⟩:=h.ex;obtain⟨r,fs',a,o,_⟩:=k.ats;have c:=k.bd;have j:q≠m:=fun z=>by
  rw[z,n]at a;cases a;rw[p]at o;cases o
 have i:b≠m:=Jm c n nofun;refine⟨j,i,fun z=>?_,fun z=>?_⟩
 .rcases z with z|z|z|z|⟨e,he,z⟩
  .exact j z
  .exact Jm a h.dR nofun z
  .exact Jm a h.dF nofun z
  .exact Jm a h.dW nofun z
  .obtain⟨g,_,f,_⟩:=(h.rd e he).ne k;rcases z with z|z
   .exact g z
   .exact f z
 .rcases z with z|z|z|z|⟨e,he,z⟩
  .exact i z
  .exact Jm c h.dR nofun z
  .exact Jm c h.dF nofun z
  .exact Jm c h.dW nofun z
  .obtain⟨_,g,_,f⟩:=(h.rd e he).ne k;rcases z with z|z
   .exact g z
   .exact f z
theorem MI.tup{C CR m dr df dw c:Jg}{H G:Hp}{R:Js}{xs:List V}(h:Jr C CR H m dr df dw R)(k:MI R m dr df dw H G)(hc:H c=some (.tup xs)):G c=some (.tup xs):=by
 refine k c _ hc fun z=>?_
 obtain⟨dx,fs,b,_⟩:=h.ex;rcases z with z|z|z|z|⟨e,he,z⟩
 .rw[z,b]at hc;cases hc
 .rw[z,h.dR]at hc;cases hc
 .rw[z,h.dF]at hc;cases hc
 .rw[z,h.dW]at hc;cases hc
 .have r:=h.rd e he;obtain⟨_,_,a,_⟩:=r.ex;rcases z with z|z
  .rw[z,a]at hc;cases hc
  .rw[z,r.dk]at hc;cases hc
def Nj(ps:List (Int×Ky)):List Ev:=ps.map fun p=>.gone p.2 "wait"
def Dj(R:Js)(t:Int):Js:={R with now:=t,es:=A3 {R with now:=t}}
theorem TF.evs{CL:Jg}{G:Hp}{l:Jg}{ps:List (Int×Ky)}(h:TF G l (ps.map (·.2)) "wait"):Fj CL G l (Nj ps):=by
 obtain⟨n,h1,h2,i⟩:=h;rw[Y1]at h1;refine⟨_,h2,by unfold Nj;rw[Y1,Y1,h1],fun j x y a b=>?_⟩;unfold Nj at b;rw[Ya]at a b;obtain⟨t,f,rfl⟩:=Yl.mp a;obtain⟨p,g,rfl⟩:=Yl.mp b;obtain⟨e,c⟩:=i j t p.2 f (by rw[Ya,g];rfl);exact⟨t.1,t.2,rfl,e,c⟩
theorem gJ(out:Str)(sp:Int)(own:Ky)(n:Nat):∀xs:List AE,(Tt out sp own n xs).2.length <=n:=by
 induction n with
 |zero=>intro xs;exact Y9 _
 |succ n ih=>
  intro xs;unfold Tt
  split
  .exact Yx _
  .exact Nat.succ_le_succ (ih _)
theorem xC(R:Js)(d:PD):(Mw R d).2.2.length <=(Jp R.es).length+ 2:=by
 unfold Mw
 split
 .exact VF _ _
 .split
  .exact VF _ _
  .exact VF _ _
  .rename_i rs _
   show(List.map _ _).length <=_;rw[Y1];unfold EB;have h1:=gJ R.out R.sp d.key ((No (Jp R.es) d.key rs R.now).length+ 1) (No (Jp R.es) d.key rs R.now);have h2:=PQ (Jp R.es) d.key rs R.now;omega
  .exact VF _ _
inductive Fa(C CR CP CL:Jg)(vs:List V)(H:Hp)(Q:VK)(E:XK):Prop|mk (m dr df dw q b:Jg) (R:Js) (d:PD) (t:Int) (_:vs=[.ref m,.int t,.ref q]) (_:Jr C CR H m dr df dw R) (_:NH CP H q b d) (_:R.now <=t) (_:R.es.length <=800) (_:R.ws.length <=1000) (_:(∀e∈R.es,e.rs.st.length <=10000/\e.rs.cv.length <=800/\Ms e.rs)) (_:T3 (JD (Jp (Dj R t).es) d.key) <=R.sp) (_:(∀e∈R.es,Tp e.ky)) (_:∀ (ps:List (Int×Ky)) R' l G,ps.Perm (DA {R with now:=t})->ps.Pairwise (fun a b=>JS b a=false)->H l=none->M6 C CR H G m dr df dw {R with now:=t} R' (Mw (Dj R t) d).1 (Mw (Dj R t) d).2.1->Ez CL H G l (Nj ps++(Mw (Dj R t) d).2.2)->(∀e∈R'.es,e.l≠l)->Q (.ref l) G)
abbrev Oq:Stmt:=Mv (top 42) 1
theorem Zm:Nv ["self","time","piece","events"] ["self","time","piece"] (Jl Oq):=by walk_at"e"
theorem bI{f C CR CP CL:Jg}{fd:Jb}(F:NK K "come" "Room.come" Oq f fd)(L:D2 K C)(LP:Ru K CP)(B:Bt mg)(gC_Piece:mg "Piece"=some (.ref CP))(ic_Piece:Bu K CP)
  (JV:T4 P w K mg base C "check_time" 3 ["self","time"] [] (Hv C CR)) (JZ:T4 P w K mg base C "end_waits" 2 ["self"] [] (FH C CR)) (T8:T4 P w K mg base C "take_in" 8 ["self","piece"] [] (Iy C CR CP CL)):Ju P w K mg base N7 9 f fd ["self","time","piece"] (Fa C CR CP CL):=by
 have cl_Piece:=LP.cl;refine F.ok Zm (fun vs H Q E h=>?_) (fun cdv A outer s H vs Q E hr h=>?_)
 .obtain⟨m,dr,df,dw,q,b,R,d,t,rfl,_⟩:=h;rfl
 .obtain⟨m,dr,df,dw,q,b,R,d,t,rfl,hR,hP,ht,hel,hwl,hes,qt,qk,q0⟩:=h;refine⟨_,(JE (D8 (DM (Jn 0) JV hr.m (Jv 1 Jt))) (JE (Tg (DD (MO (Tu (yM (K:=K) rfl cl_Piece ic_Piece) B.isinstance (Jv 2 (Nc (hs:=Gu) (A7 (v:=.ref CP) rfl gC_Piece rfl) Jt))))) EE TC) (JE (Dg (K:=K) rfl (Jn 0) (Jn 1) rfl) (JE (Tr 3 Zm (Dc (Jn 0) JZ hr.m)) (JE (D8 (DQ (K:=K) rfl YW PySem.F.slot_list_extend PySem.F.type_list_extend (mU wE) (Jn 3) (DZ (DM (Jn 0) T8 hr.m (Jv 2 Jt)) Jt))) (JM (Nk (Jn 3)))))))),?_⟩;obtain⟨dxq,fsq,hq⟩:=hP.ins;obtain⟨dx,fs,hm,hl,hf⟩:=hR.ex;obtain⟨nqm,nbm,nq,nb⟩:=NH.neM hR hP;obtain⟨nm1,nm2,nm3,nme⟩:=hR.ne;refine Nl fun N hN=>?_
  walk_at"r";refine⟨hR.mt rfl,m,dr,df,dw,R,t,rfl,hR,ht,hN _ _ ?_⟩;clear hN N;refine Nl fun N hN=>?_
  walk_at"r";refine⟨dxq,fsq,hq,hN _ _ ?_⟩;clear hN N;refine Nl fun N hN=>?_
  walk_at"r";refine⟨C,dx,fs,hm,L.cl,L.now,by omega,fun G1 b1 e1=>hN _ _ ?_⟩;clear hN N;have i:=hR.setNow hm b1 e1;have hP1:=hP.but b1 nqm nbm;refine Nl fun N hN=>?_
  walk_at"r";refine⟨i.mt rfl,m,dr,df,dw,{R with now:=t},rfl,i,YD hel (by decide),fun ps l G2 hpp hps g k2 hR2 hE=>hN _ _ ?_⟩;clear hN N;walk_at"r";have hR2:Jr C CR G2 m dr df dw (Dj R t):=hR2;have hl0:H l=none:=b1.free g (Ne.symm (Te e1 g));have hst:∀e∈(Dj R t).es,e∈R.es:=fun e he=>(Yr.mp he).1
  obtain⟨dxq1,fsq1,hq1⟩:=hP1.ins;have hP2:NH CP G2 q b d:=⟨hP1.ok,hP1.ats.same fun o h=>k2 q o h (Jm hq1 i.dR nofun) (Jm hq1 i.dF nofun),k2 b _ hP1.bd (Jm hP1.bd i.dR nofun) (Jm hP1.bd i.dF nofun)⟩;obtain⟨xs0,e2,hx0⟩:=(hE.evs:Fj CL G2 l (Nj ps));have el:∀e∈R.es,e.l≠l:=fun e he=>by
   obtain⟨ys,hy,_⟩:=(i.rd e he).cv;exact Te hy g
  have nl:¬EV (Dj R t) m dr df dw l:=fun z=>by
   rcases z with z|z|z|z|⟨e,he,z⟩
   .rw[z,e1]at g;cases g
   .rw[z,i.dR]at g;cases g
   .rw[z,i.dF]at g;cases g
   .rw[z,i.dW]at g;cases g
   .have r:=i.rd e (hst e he);obtain⟨_,_,hpe,_⟩:=r.ex;rcases z with z|z
    .rw[z,hpe]at g;cases g
    .rw[z,r.dk]at g;cases g
  have hxl:xs0.length <=1000:=by
   have h1:ps.length=(List.filter (Nn {R with now:=t}) R.es).length:=hpp.length_eq.trans (Y1 ..);have h2:=YB (Nn {R with now:=t}) R.es;have h3:xs0.length=ps.length:=hx0.1.trans (Y1 ..);have h2:(List.filter (Nn {R with now:=t}) R.es).length <=R.es.length:=h2;omega
  refine⟨.inl ⟨rfl,_,JA.of e2⟩,hR2.mt rfl,m,dr,df,dw,q,b,Dj R t,d,rfl,hR2,hP2,?_,hwl,fun e he=>hes e (hst e he),qt,fun e he=>qk e (hst e he),fun R' l3 G3 hn hE3=>?_⟩
  .have:=YB (fun e=> !Nn {R with now:=t} e) R.es;show(List.filter (fun e=> !Nn {R with now:=t} e) R.es).length <=900;omega
  obtain ⟨xs3, e3, hx3⟩ := hE3;have hl3 : G3 l = some (.lst xs0) := hn.kp l _ e2 nl;have hx0' : Pw (KJ CL G2 G3) xs0 (Nj ps) := ⟨hx0.1, fun j x y a b => by
   have h1 := hx0.2 j x y a b;unfold Nj at b;rw [Ya] at b;obtain ⟨p, hp, rfl⟩ := Yl.mp b;obtain ⟨t1, tk, z1, z2, z3⟩ := h1;exact ⟨t1, tk, z1, hn.kp.tup hR2 z2, hn.kp.tup hR2 z3⟩⟩
  have hal:(Jp (Dj R t).es).length <=R.es.length:=by
   unfold Jp;rw[Y1];exact YB _ _
  have hlen3:xs3.length <=1002:=by
   rw[hx3.1];have:=xC (Dj R t) d;omega
  refine⟨l3,rfl,_,hl3,_,e3,YD (show _ <=4066 by omega) (Ni (n:=4066) (by decide)),fun G4 b4 e4=>?_⟩;have hnl:∀e∈R'.es,e.l≠l:=fun e he=>by
   rcases hn.nl e he with⟨e0,h0,z⟩|z
   .rw[z];exact el e0 (hst e0 h0)
   .exact fun q=>by rw[q,e2]at z;cases z
  refine q0 ps R' l G4 hpp hps hl0 ?_ ⟨_,e4,(hx0'.app hx3).imp fun x y h=>?_⟩ hnl
  .have frm:∀{c:Jg},G2 c=none->H c=none:=fun {c} hc=>by
    cases h:H c with
    |none=>rfl
    |some o=>
     by_cases hcm:c=m
     .rw[hcm]at hc;obtain⟨_,_,z,_⟩:=hR2.ex;rw[z]at hc;cases hc
     .by_cases h1:c=dr
      .rw[h1,hR2.dR]at hc;cases hc
      .by_cases h2:c=df
       .rw[h2,hR2.dF]at hc;cases hc
       .rw[k2 c o (b1 c o h hcm) h1 h2]at hc;cases hc
   refine⟨fun c o h hc=>b4 c o (hn.kp c o (k2 c o (b1 c o h fun z=>hc (.inl z)) (fun z=>hc (.inr (.inl z))) (fun z=>hc (.inr (.inr (.inl z))))) (fun z=>hc ?_)) (Te h hl0),hn.ok.butL b4 hl3 hnl,hn.es,hn.ws',hn.pr,fun e he=>?_,fun e he=>?_⟩
   .rcases z with z|z|z|z|⟨e,he,z⟩
    .exact .inl z
    .exact .inr (.inl z)
    .exact .inr (.inr (.inl z))
    .exact .inr (.inr (.inr (.inl z)))
    .exact .inr (.inr (.inr (.inr ⟨e,hst e he,z⟩)))
   .rcases hn.nw e he with⟨e0,h0,z⟩|⟨z1,z2⟩
    .exact .inl ⟨e0,hst e0 h0,z⟩
    .exact .inr ⟨frm z1,frm z2⟩
   .rcases hn.nl e he with⟨e0,h0,z⟩|z
    .exact .inl ⟨e0,hst e0 h0,z⟩
    .exact .inr (frm z)
  .have k4:∀{c:Jg} {xs:List V},G3 c=some (.tup xs)->G4 c=some (.tup xs):=fun {c xs} h=>b4 c _ h (Jm h hl3 nofun)
   cases y with
   |gone k w=>obtain⟨t1,tk,z1,z2,z3⟩:=h;exact⟨t1,tk,z1,k4 z2,k4 z3⟩
   |late k=>obtain⟨t1,tk,z1,z2,z3⟩:=h;exact⟨t1,tk,z1,k4 z2,k4 z3⟩
   |strange k=>obtain⟨t1,tk,z1,z2,z3⟩:=h;exact⟨t1,tk,z1,k4 z2,k4 z3⟩
   |whole d'=>
    obtain⟨t1,pl,bl,z1,z2,hL,hnb⟩:=h;obtain⟨dxL,fsL,hpl⟩:=hL.ins;have nbl:bl≠l:=fun z=>by
     have hbl:=hL.bd;rw[z,hl3]at hbl;injection hbl with hbl;injection hbl with hbl;have h1:=hL.ok.l1;have hlt:0 < d'.ns.length:=h1;have ex:xs0[0]?=some (.int d'.ns[0]):=by rw[hbl,Ya,Y7 hlt];rfl
     obtain⟨y,hy,hR'⟩:=hx0'.get ex;unfold Nj at hy;rw[Ya]at hy;obtain⟨p,_,rfl⟩:=Yl.mp hy;obtain⟨_,_,z1,_⟩:=hR';cases z1
    refine⟨t1,pl,bl,z1,k4 z2,⟨hL.ok,hL.ats.same fun o e=>b4 pl o e (Jm hpl hl3 nofun),b4 _ _ hL.bd nbl⟩,fun ys h=>?_⟩;have h1:=b1 bl _ h (Jm h hm nofun);exact hnb ys (k2 bl _ h1 (Jm h1 i.dR nofun) (Jm h1 i.dF nofun))
end
theorem bY(es:List RE):(Dh es).map (·.1)=(es.map (·.ky)).map fun k=>[Sum.inl k.1,Sum.inr k.2.1,Sum.inr k.2.2]:=by
 unfold Dh;rw[Yw,Yw];rfl
section
variable{P:J9}{w:Jd}{K:Je}{mg:J5}{base:Jj}
def Bj(G:Hp)(l:Jg)(ks:List Ky):Prop:=∃ts:List Addr,ts.length=ks.length/\G l=some (.lst (ts.map V.ref))/\∀ (i:Nat) t k,ts[i]?=some t->ks[i]?=some k->G t=some (.tup (TD k))
inductive Hm(C CR:Jg)(vs:List V)(H:Hp)(Q:VK)(E:XK):Prop|mk (m dr df dw:Jg) (R:Js) (_:vs=[.ref m]) (_:Jr C CR H m dr df dw R) (_:R.es.length <=1000) (_:∀ (ks:List Ky) l G,ks.Perm (R.es.map (·.ky))->ks.Pairwise (fun a b=>Mj b a=false)->H l=none->Jo H G->Bj G l ks->Q (.ref l) G)
abbrev Lg:Stmt:=Mv (top 42) 3
theorem rH:Nv ["self"] ["self"] (Jl Lg):=by walk_at"e"
theorem nO{f C CR:Jg}{fd:Jb}(F:NK K "kept" "Room.kept" Lg f fd)(L:D2 K C)(B2:RF mg):Ju P w K mg base N7 1 f fd ["self"] (Hm C CR):=by
 refine F.ok rH (fun vs H Q E h=>?_) (fun aa A j s H vs Q E p h=>?_)
 .obtain⟨m,dr,df,dw,R,rfl,_⟩:=h;rfl
 .obtain⟨m,dr,df,dw,R,rfl,g,v,q⟩:=h;refine⟨_,(JM (Nk (Tu (yE rfl (Room.units p)) B2.sorted (Dt (Nx K (Jn 0)) Jt)))),?_⟩;walk_at"r";refine⟨_,B9 L g,dr,rfl,_,g.dR,R.es.map (·.ky),bY _,by rw[Y1];exact YD v (by decide),fun ks n l G r hs c o e s1 z=>?_⟩;exact q ks l G r hs e s1 ⟨n,c,z,fun i t k a b=>s1 _ _ (o i t k a b)⟩
inductive AL(C CR:Jg)(vs:List V)(H:Hp)(Q:VK)(E:XK):Prop|mk (m dr df dw:Jg) (R:Js) (_:vs=[.ref m]) (_:Jr C CR H m dr df dw R) (_:R.es.length <=1000) (_:∀G,Jo H G->(R.es=[]->Q .non G)/\(∀n:Int,n∈R.es.map (fun e=>e.first+ R.wt)->(∀e∈R.es,n <=e.first+ R.wt)->Q (.int n) G))
abbrev F8:Stmt:=Mv (top 42) 7
theorem bE:Nv ["self"] ["self"] (Jl F8):=by walk_at"e"
theorem xU{f C CR:Jg}{fd:Jb}(F:NK K "ends_at" "Room.ends_at" F8 f fd)(L:D2 K C)(B:Bt mg)(B2:RF mg):Ju P w K mg base N7 1 f fd ["self"] (AL C CR):=by
 refine F.ok bE (fun vs H Q E h=>?_) (fun cdv A outer s H vs Q E hr h=>?_)
 .obtain⟨m,dr,df,dw,R,rfl,_⟩:=h;rfl
 .obtain⟨m,dr,df,dw,R,rfl,a,hl,q⟩:=h;refine⟨_,(JM (Nk (tR (K:=K) rfl rfl rfl rfl B.min (by rfl) (Bg (Gk (N':=["key","self"]) (caps:=[none,some 0]) (Do (sc:=Jl F8) (N:=["self"]) rfl rfl (by decide +kernel)) rfl (Bi (Nx K (Jn 0))) (fun _ _ _ _ _=>(D0 (i:=0) (Dm (N:=["key","self"]) rfl (by decide +kernel)) rfl (Or.inl rfl))) (fun _ _ _ _ _=>Gj) (fun _ _ _ _ _=>(Na (NL Mo) (GJ hr (Nx K (Jn 1)) (Jn 0)) (Nx K (Jn 1)))))) DY))),?_⟩;walk_at"r";obtain⟨nm1,nm2,nm3,nme⟩:=a.ne;have hrl:(DH R.es).length=R.es.length:=Y1 ..;refine Ai a.dF (fun Rr h=>by walk_at"r";exact⟨_,FC L a,h⟩) (fun i ys σ'=>ys=((R.es.take i).map fun e=>V.int (e.first+ R.wt))/\∃v,σ'=[v,some (.ref m)]) ⟨rfl,_,rfl⟩ ?_ (by omega) ?_ ?_
  .rintro i ys σ' ⟨rfl,_⟩;rw[Y1,Yu];omega
  .rintro Hf o hfo hfd i b k v ys σ' hk hb ⟨rfl,v0,rfl⟩;obtain⟨e,g,rfl,rfl⟩:=Qk hk;have aa:=Yk g;have hbd:b≠df:=Jm hb a.dF nofun;have j:Kf df H Hf:=fun c o h n=>by rw[hfo c n];exact h
   have r:=fun o h=>j m o h nm2
   walk_at"r";refine⟨_,a.fldO r L.cl L.firsts rfl,_,rfl,_,.inr ⟨_,_,b,.inr ⟨o,hfd⟩,rfl,j b _ hb hbd,(By a.nk aa).symm⟩,_,a.fldO r L.cl L.wait rfl,_,rfl,_,rfl,?_⟩;rw[YQ,g,XX,Yh];rfl
  .rintro ys σ' ⟨rfl,_⟩ p G hp s1 e1;rw[hrl,Yv (Y9 _)]at e1;have em:(R.es.map fun e=>V.int (e.first+ R.wt))=(R.es.map fun e=>e.first+ R.wt).map V.int:=by rw[Yw];rfl
   rw[em]at e1;obtain⟨q1,q2⟩:=q G s1;refine⟨p,rfl,_,JA.of e1,fun h=>q1 (WZ.mp h),fun v h1 h2=>q2 v h1 fun e g=>h2 _ (Y5.mpr ⟨e,g,rfl⟩)⟩
inductive Lm(C CR CL:Jg)(vs:List V)(H:Hp)(Q:VK)(E:XK):Prop|mk (m dr df dw:Jg) (R:Js) (t:Int) (_:vs=[.ref m,.int t]) (_:Jr C CR H m dr df dw R) (_:R.now <=t) (_:R.es.length <=1000) (_:∀ (ps:List (Int×Ky)) l G,ps.Perm (DA {R with now:=t})->ps.Pairwise (fun a b=>JS b a=false)->H l=none->M6 C CR H G m dr df dw {R with now:=t} (Dj R t) (Jp (Dj R t).es) R.ws->Fj CL G l (Nj ps)->(∀e∈(Dj R t).es,e.l≠l)->Q (.ref l) G)
abbrev Od:Stmt:=Mv (top 42) 2
theorem vS:Nv ["self","time"] ["self","time"] (Jl Od):=by walk_at"e"
theorem aK{f C CR CL:Jg}{fd:Jb}(F:NK K "tick" "Room.tick" Od f fd)(L:D2 K C)(JV:T4 P w K mg base C "check_time" 3 ["self","time"] [] (Hv C CR))(JZ:T4 P w K mg base C "end_waits" 2 ["self"] [] (FH C CR)):Ju P w K mg base N7 4 f fd ["self","time"] (Lm C CR CL):=by
 refine F.ok vS (fun vs H Q E h=>?_) (fun cdv A outer s H vs Q E p h=>?_)
 .obtain⟨m,dr,df,dw,R,t,rfl,_⟩:=h;rfl
 .obtain⟨m,dr,df,dw,R,t,rfl,i,ht,hel,q⟩:=h;refine⟨_,(JE (D8 (DM (Jn 0) JV p.m (Jv 1 Jt))) (JE (Dg (K:=K) rfl (Jn 0) (Jn 1) rfl) (JM (Nk (Dc (Jn 0) JZ p.m))))),?_⟩;walk_at"r";obtain⟨dx,fs,hm,hl,hf⟩:=i.ex;refine⟨i.mt rfl,m,dr,df,dw,R,t,rfl,i,ht,C,dx,fs,hm,L.cl,L.now,by omega,fun G1 n e1=>?_⟩;have g:=i.setNow hm n e1;refine⟨g.mt rfl,m,dr,df,dw,{R with now:=t},rfl,g,hel,fun ps l G2 v r a k2 hR2 hE=>?_⟩;exact q ps l G2 v r (n.free a (Ne.symm (Te e1 a))) ⟨fun c o h j=>k2 c o (n c o h fun z=>j (.inl z)) (fun z=>j (.inr (.inl z))) (fun z=>j (.inr (.inr (.inl z)))),hR2,rfl,rfl,⟨rfl,rfl,rfl,rfl,rfl,rfl⟩,fun e b=>.inl ⟨e,(Yr.mp b).1,rfl,rfl⟩,fun e b=>.inl ⟨e,(Yr.mp b).1,rfl⟩⟩ hE.evs fun e b=>by
   obtain⟨ys,hy,_⟩:=(g.rd e (Yr.mp b).1).cv;exact Te hy a
inductive Ia(K:Je)(vs:List V)(H:Hp)(Q:VK)(E:XK):Prop|mk (a:Jg) (ns:Jh) (k:Nat) (_:vs=[.ref a,.int (k:Int)]) (_:JA K H a (ns.map V.int)) (_:∀c,Q (.int c) H)
abbrev L4:Stmt:=top 44
theorem aW:Nv ["_law_script","_law_k"] ["_law_script","_law_k"] (Jl L4):=by walk_at"e"
theorem mS{f:Jg}{fd:Jb}(F:NK K "_law_cell_at" "_law_cell_at" L4 f fd)(B:Bt mg):Ju P w K mg base N7 1 f fd ["_law_script","_law_k"] (Ia K):=by
 refine F.ok aW (fun vs H Q E h=>?_) (fun j A g s H vs Q E n h=>?_)
 .obtain⟨a,b,k,rfl,_⟩:=h;rfl
 .obtain⟨a,b,k,rfl,c,q⟩:=h;refine⟨_,(JE (Tg (Tx (NL C5) (Jn 1) (Tu (Bd (B4 (K:=K) rfl)) B.len (Jv 0 Jt))) (JM (Nk (EL K (Jn 0) (Jn 1)))) TC) (JM (Nk JI))),?_⟩;walk_at"r";refine⟨_,.inl c,DX (fun e=>?_) (fun e=>q 0)⟩;rw[Yd,Y1]at e;have i:k < b.length:=by lia
  exact⟨_,c,.int b[k],CO (by rw[Ya,Y7 i];rfl),q _⟩
def QM(c k:Int):Int:=(c%2147483647+ 7919*k+ 1)*48271%2147483647
def OH(a:Int):Int:=a*(a / 1009+ 69621)%2147483647
def Cb(c k:Int):Int:=(OH (QM c k)+ 7*k)*(OH (QM c k) / 677+ 40692)%2147483399
theorem tJ(c k:Int):0 <=Cb c k:=V5 _ (by decide)
theorem rQ(c k:Int):Cb c k < 2147483399:=Vc _ (by decide)
inductive AQ(vs:List V)(H:Hp)(Q:VK)(E:XK):Prop|mk (c k:Int) (_:vs=[.int c,.int k]) (_:0 <=k) (_:k <=100000) (_:∀m:Int,0 <=m->m < 2147483399->Q (.int m) H)
inductive HR(vs:List V)(H:Hp)(Q:VK)(E:XK):Prop|mk (c k:Int) (_:vs=[.int c,.int k]) (_:0 <=k) (_:k <=100000) (_:Q (.int (Cb c k)) H)
abbrev IM:Stmt:=top 45
theorem LI:Nv ["_law_cell","_law_k","_law_number"] ["_law_cell","_law_k"] (Jl IM):=by walk_at"e"
theorem ZQ{f:Jg}{fd:Jb}(F:NK K "_law_mixed" "_law_mixed" IM f fd):Ju P w K mg base N7 1 f fd ["_law_cell","_law_k"] HR:=by
 refine F.ok LI (fun vs H Q E h=>?_) (fun e A a s H vs Q E g h=>?_)
 .obtain⟨c,k,rfl,_⟩:=h;rfl
 .obtain⟨c,k,rfl,i,h1,q⟩:=h;refine⟨_,(JE (Tr 2 LI (Na (dI Dd) (Na (dI EY) (Na (NL Mo) (Na (NL Mo) (Na (dI Dd) (Jn 0) JI) (Na (dI EY) JI (Jn 1))) JI) JI) JI)) (JE (Tr 2 LI (Na (dI Dd) (Na (dI EY) (Jn 2) (Na (NL Mo) (Na (dI BX) (Jn 2) JI) JI)) JI)) (JM (Nk (Na (dI Dd) (Na (dI EY) (Na (NL Mo) (Jn 2) (Na (dI EY) JI (Jn 1))) (Na (NL Mo) (Na (dI BX) (Jn 2) JI) JI)) JI))))),?_⟩;walk_at"r";have b:∀x y:Int,RI (x%2147483647+ 7*k) y:=fun x y=>.inl ⟨by lia,by lia⟩
  refine⟨by decide,.inl ⟨by decide,by decide⟩,.inr ⟨by decide,by decide⟩,by decide,⟨by decide,by decide⟩,wV _ _,by decide,.inl ⟨by decide,by decide⟩,⟨by decide,by decide⟩,b _ _,by decide,?_⟩;exact q
theorem aI(F:Tc P w K mg base "_law_mixed" 1 ["_law_cell","_law_k"] [] HR):Tc P w K mg base "_law_mixed" 1 ["_law_cell","_law_k"] [] AQ:=F.imp fun vs H Q E zz=>by rcases zz with⟨c,k,e,a,h1,q⟩;exact ⟨c,k,e,a,h1,q _ (tJ c k) (rQ c k)⟩
def Gi(k:Nat):Str:=(["a","ann","an","b","zz","bo"]:List Str).getD (k%6) ""
def E9(k:Nat):Str:=(["","x","xy"]:List Str).getD (k / 36%3) ""
def Aj(a:Int)(k:Nat):Ky:=(a,Gi k,Gi (k / 6)++E9 k)
inductive QL(vs:List V)(H:Hp)(Q:VK)(E:XK):Prop|mk (k:Nat) (c:Int) (_:vs=[.int (k:Int),.int c]) (_:k < 108) (_:∀ (a:Int) t G,0 <=a->a < 4->H t=none->Jo H G->G t=some (.tup (TD (Aj a k)))->Q (.ref t) G)
theorem SN(k:Nat):GH [V.str "a",V.str "ann",V.str "an",V.str "b",V.str "zz",V.str "bo"] ((k:Int)%6)=some (.str (Gi k)):=by
 have:(k:Int)%6=((k%6:Nat):Int):=by lia
 rw[this];unfold Gi;have h:k%6 < 6:=WR _ (by decide);generalize k%6=j at h
 match j,h with
 |0,_=>rfl
 |1,_=>rfl
 |2,_=>rfl
 |3,_=>rfl
 |4,_=>rfl
 |5,_=>rfl
theorem yJ(k:Nat):GH [V.str "",V.str "x",V.str "xy"] ((k:Int) / 36%3)=some (.str (E9 k)):=by
 have:(k:Int) / 36%3=((k / 36%3:Nat):Int):=by lia
 rw[this];unfold E9;have h:k / 36%3 < 3:=WR _ (by decide);generalize k / 36%3=j at h
 match j,h with
 |0,_=>rfl
 |1,_=>rfl
 |2,_=>rfl
theorem uS(k:Nat):(Gi k).length <=3:=by
 unfold Gi;have h:k%6 < 6:=WR _ (by decide);generalize k%6=j at h
 match j,h with
 |0,_=>decide +kernel
 |1,_=>decide +kernel
 |2,_=>decide +kernel
 |3,_=>decide +kernel
 |4,_=>decide +kernel
 |5,_=>decide +kernel
theorem gX(k:Nat):(E9 k).length <=2:=by
 unfold E9;have h:k / 36%3 < 3:=WR _ (by decide);generalize k / 36%3=j at h
 match j,h with
 |0,_=>decide +kernel
 |1,_=>decide +kernel
 |2,_=>decide +kernel
abbrev LX:Stmt:=top 47
theorem SX:Nv ["_law_k","_law_cell","_law_names"] ["_law_k","_law_cell"] (Jl LX):=by walk_at"e"
theorem xS{f:Jg}{fd:Jb}(F:NK K "_law_key" "_law_key" LX f fd)(Nm:Tc P w K mg base "_law_mixed" 1 ["_law_cell","_law_k"] [] AQ):Ju P w K mg base N7 4 f fd ["_law_k","_law_cell"] QL:=by
 refine F.ok SX (fun vs H Q E h=>?_) (fun v A e s H vs Q E i h=>?_)
 .obtain⟨k,c,rfl,_⟩:=h;rfl
 .obtain⟨k,c,rfl,hk,q⟩:=h;refine⟨_,(@JE _ _ _ _ _ (@Zg _ _ 2 _ _ _ _ (SX).nd rfl (Or.inl rfl) (@Dn _ _ _ _ (@Nc _ _ _ _ _ (@Tj _ _ _ _) (@Nc _ _ _ _ _ (@Tj _ _ _ _) (@Nc _ _ _ _ _ (@Tj _ _ _ _) (@Nc _ _ _ _ _ (@Tj _ _ _ _) (@Nc _ _ _ _ _ (@Tj _ _ _ _) (@Nc _ _ _ _ _ (@Tj _ _ _ _) Jt E1) E1) E1) E1) E1) E1)) (by rfl) (Or.inl rfl)) (@JM _ _ _ (@Nk _ _ _ _ (@MR _ _ _ _ _ (@Nc _ _ _ _ _ (@Na _ _ _ _ _ _ _ _ Dd (Tb Nm (i.mono (by decide)) rfl (@Nc _ _ _ _ _ (pv 1) (@Nc _ _ _ _ _ (pv 0) Jt Gu) Gu)) (@JI _ _ _ _)) (@Nc _ _ _ _ _ (@C6 _ _ _ _ _ _ _ (Ct (K:=K) rfl) (pv 2) (@Na _ _ _ _ _ _ _ _ Dd (pv 0) (@JI _ _ _ _)) (fun _ _=>rfl)) (@Nc _ _ _ _ _ (@Na _ _ _ _ _ _ _ _ nE (@C6 _ _ _ _ _ _ _ (Ct (K:=K) rfl) (pv 2) (@Na _ _ _ _ _ _ _ _ Dd (@Na _ _ _ _ _ _ _ _ BX (pv 0) (@JI _ _ _ _)) (@JI _ _ _ _)) (fun _ _=>rfl)) (@C6 _ _ _ _ _ _ _ (Ct (K:=K) rfl) (@Dn _ _ _ _ (@Nc _ _ _ _ _ (@Tj _ _ _ _) (@Nc _ _ _ _ _ (@Tj _ _ _ _) (@Nc _ _ _ _ _ (@Tj _ _ _ _) Jt E1) E1) E1)) (@Na _ _ _ _ _ _ _ _ Dd (@Na _ _ _ _ _ _ _ _ BX (pv 0) (@JI _ _ _ _)) (@JI _ _ _ _)) (fun _ _=>rfl))) Jt GR) Qv) GR))))),?_⟩;refine Nl fun N a=>?_
  walk_at"r";refine⟨Ni (by decide),fun p G1 hp s1 b=>a _ _ ?_⟩;clear a N;walk_at"r";refine⟨c,k,rfl,by lia,by lia,fun m m0 z=>?_⟩;refine⟨m,rfl,by decide,by decide,_,JA.of b,_,SN k,⟨by decide,by decide⟩,by decide,_,JA.of b,_,(by have:=SN (k / 6);rwa [Int.natCast_ediv]at this),Ni (by decide),fun p2 G2 h2 s2 o=>⟨⟨by decide,by decide⟩,by decide,_,JA.of o,_,yJ k,_,rfl,_,rfl,?_,Ni (by decide),fun t r j g n=>?_⟩⟩
  .have h1:=uS (k / 6);have h2:=gX k;exact Ni (by lia)
  .exact q (m%4) t r (by lia) (by lia) (s1.free (s2.free j)) (s1.trans (s2.trans g)) n
structure NZ where
 ky:Ky
 ns:List Int
 mn:Nat
structure NZ.Ok(x:NZ):Prop where
 l1:9 <=x.ns.length
 l2:x.ns.length <=48
 by':∀b∈x.ns,0 <=b/\b <=255
 m1:8 <=x.mn
 m8:8 ∣ x.mn
 m2:x.mn < x.ns.length
 ok:Tp x.ky
def E8(G:Hp)(v:V)(x:NZ):Prop:=∃t tk b,v= .ref t/\G t=some (.tup [.ref tk,.ref b,.int (x.mn:Int)])/\G tk=some (.tup (TD x.ky))/\G b=some (.lst (x.ns.map V.int))
def nW(l:Jg)(G:Hp)(v:V)(x:NZ):Prop:=∃t tk b,v= .ref t/\G t=some (.tup [.ref tk,.ref b,.int (x.mn:Int)])/\G tk=some (.tup (TD x.ky))/\G b=some (.lst (x.ns.map V.int))/\b≠l
theorem x8:∀i:Fin 108,∀j:Fin 108,(Gi i.1,Gi (i.1 / 6)++E9 i.1)=(Gi j.1,Gi (j.1 / 6)++E9 j.1)->i=j:=by decide +kernel
theorem QV:∀k:Fin 108,(1 <=(Gi k.1).length/\(Gi k.1).length <=8/\(Gi k.1).cps.toList.all EI=true)/\1 <=(Gi (k.1 / 6)++E9 k.1).length/\(Gi (k.1 / 6)++E9 k.1).length <=8/\(Gi (k.1 / 6)++E9 k.1).cps.toList.all EI=true:=by decide +kernel
theorem m7{a:Int}{k:Nat}(h0:0 <=a)(h1:a < 4)(hk:k < 108):Tp (Aj a k):=⟨h0,by show a <=65535;lia,(QV ⟨k,hk⟩).1,(QV ⟨k,hk⟩).2⟩
theorem nZ{ls:List NZ}(h:∀ (j:Nat) x,ls[j]?=some x->∃a,x.ky=Aj a j)(hl:ls.length <=108):(ls.map (·.ky)).Nodup:=by
 rw[XS,YO];intro i j hi c g z;rw[Y1]at hi c;rw[Xk,Xk]at z;obtain⟨a,f⟩:=h i _ (Y7 hi);obtain⟨b,e⟩:=h j _ (Y7 c);rw[f,e]at z;have:=x8 ⟨i,by lia⟩ ⟨j,by lia⟩ (YR Prod.snd z);have:i=j:=YR Fin.val this
 lia
structure RX(ls:List NZ):Prop where
 n1:20 <=ls.length
 n2:ls.length <=100
 ok:∀x∈ls,x.Ok
 nd:(ls.map (·.ky)).Nodup
inductive Sl(vs:List V)(H:Hp)(Q:VK)(E:XK):Prop|mk (c:Int) (_:vs=[.int c]) (_:∀l xs (ls:List NZ) G,H l=none->Jo H G->G l=some (.lst xs)->Pw (E8 G) xs ls->RX ls->Q (.ref l) G)
abbrev Fk:Stmt:=top 48
theorem Ak:Nv ["_law_cell","_law_found","_law_k","_law_many","_law_body"] ["_law_cell"] (Jl Fk):=by walk_at"e"
theorem uW{f:Jg}{fd:Jb}(F:NK K "_law_letters" "_law_letters" Fk f fd)(B:Bt mg)(Nm:Tc P w K mg base "_law_mixed" 1 ["_law_cell","_law_k"] [] AQ)(RK:Tc P w K mg base "_law_key" 4 ["_law_k","_law_cell"] [] QL):Ju P w K mg base N7 5 f fd ["_law_cell"] Sl:=by
 refine F.ok Ak (fun vs H Q E h=>?_) (fun cdv A outer s H vs Q E hr h=>?_)
 .obtain⟨c,rfl,_⟩:=h;rfl
 .obtain⟨c,rfl,q⟩:=h;refine⟨_,(JE (Tr 1 Ak (Dn Jt)) (JE (Ed Xh rfl (HK rfl B.range (Nc (hs:=GR) (Na (NL Mo) JI (Na (dI Dd) (Tb Nm hr.m rfl (Jv 0 (TH JI Jt))) JI)) Jt)) (D0 (i:=2) (Ak).nd rfl (Or.inr rfl)) (JE (Tr 3 Ak (Na (NL Mo) JI (Na (dI Dd) (Tb Nm hr.m rfl (Jv 0 (Nc (hs:=GR) (Na (NL Mo) JI (Jn 2)) Jt))) JI))) (JE (HE (i:=4) (N':=["_law_j","_law_cell","_law_k"]) (caps:=[none,some 0,some 2]) (Do (sc:=Jl Fk) (N:=["_law_cell","_law_found","_law_k","_law_many","_law_body"]) rfl rfl (by decide +kernel)) rfl (Ak).nd rfl (Or.inl rfl) (HK rfl B.range (Jv 3 Jt)) (fun _ _ _ _ _=>(D0 (i:=0) (Dm (N:=["_law_j","_law_cell","_law_k"]) rfl (by decide +kernel)) rfl (Or.inl rfl))) (fun _ _ _ _ _=>Gj) (fun _ _ _ _ _=>(Na (dI Dd) (Na (NL Mo) (Na (NL Mo) (Na (dI EY) (Jn 2) JI) (Na (dI EY) (Jn 0) JI)) (Jn 1)) JI)) rfl) (JM (D8 (DQ (K:=K) rfl YW YY YZ (Ei Em) (Jn 1) (Nc (hs:=GM) (MR (DZ (Tb RK hr.m rfl (Jv 2 (Jv 0 Jt))) (Jv 4 (Nc (hs:=GR) (Na (dI EY) JI (Na (NL Mo) JI (Na (dI Dd) (Tb Nm hr.m rfl (Jv 0 (Nc (hs:=GR) (Na (NL Mo) JI (Jn 2)) Jt))) (Na (dI BX) (Na (NL PU) (Jn 3) JI) JI)))) Jt)))) Jt))))))) (JM (Nk (Jn 1))))),?_⟩;refine Nl fun N hN=>?_
  walk_at"r";refine⟨Ni (by decide),fun l G1 hl s1 e1=>hN _ _ ?_⟩;clear hN N;refine Nl fun N hN=>?_
  walk_at"r";refine⟨c,99,rfl,by decide,by decide,fun m0 a0 a1=>?_⟩;walk_at"r";refine⟨by decide,by lia,by lia,?_⟩;obtain⟨n,hn,n1,n2⟩:∃n:Nat,(20+ m0%81).toNat=n/\20 <=n/\n <=100:=⟨_,rfl,by lia,by lia⟩;rw[hn];obtain⟨Pv,ePv⟩:∃Pv:Nat->L2.St->Hp->Prop,Pv=fun i σ' G=>∃ (xs:List V) (ls:List NZ) (v1 v2 v3:Option V),ls.length=i/\σ'=[some (V.int c),some (.ref l),v1,v2,v3]/\Nd l G1 G/\G l=some (.lst xs)/\Pw (nW l G) xs ls/\∀ (j:Nat) x,ls[j]?=some x->x.Ok/\∃a,x.ky=Aj a j:=⟨_,rfl⟩
  refine wP Pv (by rw[ePv];exact⟨[],[],none,none,none,rfl,rfl,fun b o e _=>e,e1,.nil,fun j x h=>by cases h⟩) ?_ ?_ <;> rw[ePv]
  .rintro i σ' G hi ⟨xs,ls,v1,v2,v3,hls,rfl,bG,eL,pw,ok⟩;rw[<-ePv];refine Nl fun N hN=>?_
   walk_at"r";refine⟨c,_,rfl,by lia,by lia,fun m1 b0 b1=>⟨_,rfl,by decide,hN _ _ ?_⟩⟩;clear hN N;obtain⟨p,hmn,k1,k2⟩:∃p:Nat,9+ m1%40=(p:Int)/\9 <=p/\p <=48:=⟨(9+ m1%40).toNat,by lia,by lia,by lia⟩;rw[hmn];refine Nl fun N hN=>?_
   walk_at"r";refine⟨by lia,by lia,?_⟩;rw[Xv];obtain⟨Pw',ePw⟩:∃Pw':Nat->List V->L2.St->Hp->Prop,Pw'=fun i' ys σ' G'=>∃ (g:Jh) (v:Option V),ys=g.map V.int/\g.length=i'/\(∀x∈g,0 <=x/\x <=255)/\σ'=[v,some (.int c),some (.int (0+ (i:Int)))]/\G'=G:=⟨_,rfl⟩
   refine Sr Pw' (by rw[ePw];exact⟨[],none,rfl,rfl,(fun _ h=>nomatch h),rfl,rfl⟩) ?_ (by rw[YG];lia) ?_ ?_ <;> rw[ePw]
   .rintro i ys σ' G ⟨g,v,rfl,hl,_⟩ _;rw[Y1];lia
   .rintro i' ys σ' G' hi' ⟨g,v,rfl,hl,hw,rfl,rfl⟩;rw[<-ePw];walk_at"r";refine⟨.inl ⟨by lia,by lia⟩,.inl ⟨by lia,by lia⟩,by decide,?_⟩;rw[ePw];refine⟨g++[_],_,by rw[Yh];rfl,by simp[hl],fun x hx=>?_,rfl,rfl⟩;rcases Yq.mp hx with z|z
    .exact hw x z
    .rw[Yb.mp z];lia
   rintro ys σ' H0 ⟨g,v,rfl,hns,hw,rfl,rfl⟩ lb G2 hlb s2 eB;refine hN _ _ ?_;clear hN N;walk_at"r";have eL2:=s2 _ _ eL;have e0:(0:Int)+ (i:Int)=((i:Nat):Int):=by lia
   refine⟨.inl ⟨rfl,_,JA.of eL2⟩,i,c,by rw[e0],by lia,fun a tk G3 a0 a1 htk s3 eK=>⟨c,_,rfl,by lia,by lia,fun m2 d0 d1=>⟨⟨by decide,by decide⟩,_,rfl,by lia,?_,Ni (by decide),fun t G4 ht s4 eT=>?_⟩⟩⟩
   .have h1:=V5 m2 (show((p:Int) - 1) / 8≠0 by lia);have h2:=Vc m2 (show 0 < ((p:Int) - 1) / 8 by lia);exact .inl ⟨by lia,by lia⟩
   obtain⟨my,hmy,y1,y2,y8⟩:∃my:Nat,8*(1+ m2%(((p:Int) - 1) / 8))=(my:Int)/\8 <=my/\my < p/\8 ∣ my:=by
    have h1:=V5 m2 (show((p:Int) - 1) / 8≠0 by lia);have h2:=Vc m2 (show 0 < ((p:Int) - 1) / 8 by lia);generalize m2%(((p:Int) - 1) / 8)=r at h1 h2;exact⟨(8*(1+ r)).toNat,by lia,by lia,by lia,by lia⟩
   rw[hmy]at eT;have eL4:=s4 _ _ (s3 _ _ eL2);have hxl:xs.length=i:=by rw[pw.1,hls]
   refine⟨xs,eL4,by rw[hxl,YG];lia,fun G5 b5 eL5=>?_⟩;have nlb:lb≠l:=fun z=>by rw[z,eL]at hlb;cases hlb
   have ntk:tk≠l:=fun z=>by rw[z,eL2]at htk;cases htk
   have nt:t≠l:=fun z=>by rw[z,s3 _ _ eL2]at ht;cases ht
   rw[ePv];refine⟨_,ls++[⟨Aj a i,g,my⟩],_,_,_,by simp[hls],rfl,?_,eL5,?_,?_⟩
   .exact fun b o e n=>b5 b o (s4 _ _ (s3 _ _ (s2 _ _ (bG b o e n)))) n
   .refine(pw.imp fun x y zz=>by rcases zz with⟨t0,tk0,b0,h1,h2,h3,h4,h5⟩;exact ⟨t0,tk0,b0,h1,b5 _ _ (s4 _ _ (s3 _ _ (s2 _ _ h2))) (Jm h2 eL nofun),b5 _ _ (s4 _ _ (s3 _ _ (s2 _ _ h3))) (Jm h3 eL nofun),b5 _ _ (s4 _ _ (s3 _ _ (s2 _ _ h4))) h5,h5⟩).snoc ⟨t,tk,lb,rfl,b5 _ _ eT nt,b5 _ _ (s4 _ _ eK) ntk,b5 _ _ (s4 _ _ (s3 _ _ eB)) nlb,nlb⟩
   .intro j x hj;rw[U2]at hj
    split at hj
    .exact ok j x hj
    .rename_i hlt
     have hj0:j=i:=by
      have:=(Y4.mp hj).1;simp at this;lia
     subst hj0;rw[hls,UP]at hj;cases hj;exact⟨⟨by show 9 <=g.length;lia,by show g.length <=48;lia,hw,y1,y8,by show my < g.length;lia,m7 a0 a1 (by lia)⟩,a,rfl⟩
  .rintro σ' G ⟨xs,ls,v1,v2,v3,hls,rfl,bG,eL,pw,ok⟩;refine hN _ _ ?_;walk_at"r";refine q l xs ls G hl ?_ eL (pw.imp fun x y zz=>by rcases zz with⟨t,tk,b,h1,h2,h3,h4,_⟩;exact ⟨t,tk,b,h1,h2,h3,h4⟩) ⟨by lia,by lia,fun x hx=>?_,?_⟩
   .exact fun c o e=>bG c o (s1 c o e) (fun z=>by rw[z,hl]at e;cases e)
   .obtain⟨j,hj⟩:=YC.mp hx;exact(ok j x hj).1
   .exact nZ (fun j x h=>(ok j x h).2) (by lia)
abbrev B5:Str:=(("_law_order":Str)++(".<locals>.":Str))++("<lambda>":Str)
def Es(os:List Nat):List V:=os.map fun k:Nat=>V.int (k:Int)
inductive H9(T:Jg)(vs:List V)(H:Hp)(Q:VK)(E:XK):Prop|mk (n:Nat) (c:Int) (_:vs=[.int (n:Int),.int c]) (_:n <=4001) (_:Mx H T B5) (_:∀ (l:Jg) (os:List Nat) G,H l=none->Nd T H G->Mx G T B5->os.Perm (List.range n)->G l=some (.lst (Es os))->Q (.ref l) G)
abbrev FV:Stmt:=top 49
theorem yS:Nv ["_law_many","_law_cell"] ["_law_many","_law_cell"] (Jl FV):=by walk_at"e"
theorem bC{H:Hp}{T l:Jg}{q:Str}{xs:List V}(t:Mx H T q)(e:H l=some (.lst xs)):l≠T:=fun z=>by
 subst z;obtain⟨ps,h,_⟩:=t.ex;rw[e]at h;cases h
theorem uF{f c0 T:Jg}{fd:Jb}(F:GL K "_law_order" "_law_order" FV f fd (.ref c0))(B:Bt mg)(B2:RF mg)(LC:RL mg base c0 T)(Nm:Tc P w K mg base "_law_mixed" 1 ["_law_cell","_law_k"] [] HR):Ju P w K mg base N7 9 f fd ["_law_many","_law_cell"] (H9 T):=by
 refine F.ok yS (fun vs H Q E h=>?_) (fun A v s H vs Q E hr h=>?_)
 .obtain⟨n,c,rfl,_⟩:=h;rfl
 .obtain ⟨n, c, rfl, n2, tb, q⟩ := h;refine ⟨_, (JM (Nk (ZJ (k := 1) (q := B5) (y := "_law_k") (N' := ["_law_cell"]) (caps := [some 1]) (K := K) rfl rfl B2.sorted (by rfl) (HC (jS rfl) rfl B.blist (by rfl) (DZ (vB rfl B.range (Jv 0 Jt)) Jt)) LC rfl rfl (rS (sc := Jl FV) (N := ["_law_many", "_law_cell"]) rfl rfl (by decide +kernel)) rfl (fun _ _ _ _ _ => rfl) (fun f c' cl A v s H E hr => (MR (Nc (hs := GR) (Na (dI Dd) (Tb Nm hr.m rfl (Jv 1 (Jv 0 Jt))) JI) (Jv 0 Jt)))) (fun _ => rfl) hr.m))), ?_⟩;walk_at"r";obtain ⟨cs, lcs, gcs⟩ : ∃ cs : List (Int × Int), cs.length = n /\ ∀ (j : Nat) p, cs[j]? = some p -> j < n /\ p = ((Cb c j % 97 : Int), (j : Int)) := ⟨(List.range n).map fun i : Nat => ((Cb c i % 97 : Int), (i : Int)), by simp, fun j p e => by
   rw [Ya] at e;obtain ⟨i, hi, rfl⟩ := Yl.mp e;obtain ⟨hj, rfl⟩ := Y4.mp hi;simp at hj ⊢; exact hj⟩
  refine fun r G2 hr2 s2 e2=>⟨n,e2,by lia,fun l0 G3 hl0 g e3=>⟨tb.same (s2.trans g),fun f G4 hf b4 t4=>⟨l0,_,cs,rfl,JA.of (b4 l0 _ e3 (bC (tb.same (s2.trans g)) e3)),by rw[Y1,YT];exact lcs.symm,by rw[Y1,YT];lia,?_,?_⟩⟩⟩
  .intro j x p ex ep G kG;obtain⟨hj,rfl⟩:=gcs j p ep;rw[Ya,U8 hj]at ex;cases ex;walk_at"r";refine⟨c,_,rfl,by lia,by lia,_,rfl,by decide,Ni (by decide),fun p G' hp s' e'=>⟨s',p,rfl,e'⟩⟩
  intro rp l G5 pm sr hl s5 e5;rw[Y1,YT]at pm;have hrow:(rp.map fun i=>((List.range n).map fun i:Nat=>V.int (i:Int)).getD i .non)=Es rp:=by
   unfold Es;refine YU fun i hi=>?_
   have:i < n:=by have:=pm.mem_iff.mp hi;simpa using this
   rw[Xt,Ya,U8 this];rfl
  rw[hrow]at e5;have b5:Nd T H G5:=fun b o e a=>s5 _ _ (b4 _ _ (g _ _ (s2 _ _ e)) a)
  have fr:∀{x},G5 x=none->H x=none:=fun {x} hx=>by
   cases z:H x with
   |none=>rfl
   |some o=>
    by_cases a:x=T
    .subst a;obtain⟨ps,h,_⟩:=(t4.same s5).ex;rw[h]at hx;cases hx
    .rw[b5 _ _ z a]at hx;cases hx
  have fl:H l=none:=by
   cases z:H l with
   |none=>rfl
   |some o=>
    by_cases a:l=T
    .subst a;obtain⟨ps,h,_⟩:=t4.ex;rw[h]at hl;cases hl
    .rw[b4 _ _ (g _ _ (s2 _ _ z)) a]at hl;cases hl
  exact q l rp G5 fl b5 (t4.same s5) pm e5
end
structure KE where
 ky:Ky
 t:Addr
 tm:Int
 mn:Int
def MU(ks:List KE):List (List JL×V):=ks.map fun e=>(NB e.ky,.ref e.t)
structure Ds(H:Hp)(d:Jg)(ks:List KE):Prop where
 dd:H d=some (.dT (MU ks))
 tt:∀e∈ks,H e.t=some (.tup [.int e.tm,.int e.mn])
 nk:(ks.map (·.ky)).Nodup
 ok:∀e∈ks,Tp e.ky
theorem Ds.mono{H G:Hp}{d:Jg}{ks:List KE}(s:Jo H G)(h:Ds H d ks):Ds G d ks:=⟨s _ _ h.dd,fun e a=>s _ _ (h.tt e a),h.nk,h.ok⟩
def DV(out:Str)(own:Ky)(ks:List KE):List (Int×Ky):=(ks.filter fun x=> !decide (x.ky=own)).map fun x=>(if out="oldest" then x.tm else 0 - x.mn,x.ky)
theorem FI{ks:List KE}{i:Nat}{k:List JL}{v:V}(h:(MU ks)[i]?=some (k,v)):∃x,ks[i]?=some x/\k=NB x.ky/\v= .ref x.t:=by
 unfold MU at h;rw[Ya]at h;obtain⟨x,a,e⟩:=Yl.mp h;cases e;exact⟨x,a,rfl,rfl⟩
theorem EG{ks:List KE}(hn:(ks.map (·.ky)).Nodup){e:KE}(he:e∈ks):JP (MU ks) (NB e.ky)=some (.ref e.t):=by
 induction ks with
 |nil=>exact nomatch he
 |cons x r ih=>
  unfold MU JP;rw[List.map_cons,YS];rcases Ym.mp he with rfl|z
  .simp
  .have a:¬NB x.ky=NB e.ky:=fun q=>(YH.mp hn).1 (Y5.mpr ⟨e,z,(R8 q).symm⟩)
   have h1:=ih (YH.mp hn).2 z;unfold MU JP at h1;simpa[a] using h1
section
variable{P:J9}{w:Jd}{K:Je}{mg:J5}{base:Jj}
inductive Sh(vs:List V)(H:Hp)(Q:VK)(E:XK):Prop|mk (d t:Jg) (ks:List KE) (out:Str) (own:Ky) (_:vs=[.ref d,.str out,.ref t]) (_:Ds H d ks) (_:H t=some (.tup (TD own))) (_:Tp own) (_:ks.length <=1000) (_:DV out own ks≠[]) (_:∀t' q G,MZ (DV out own ks)=some q->Jo H G->G t'=some (.tup (TD q.2))->Q (.ref t') G)
abbrev A8:Stmt:=top 50
theorem Pf:Nv ["_law_kept","_law_out","_law_own","_law_others"] ["_law_kept","_law_out","_law_own"] (Jl A8):=by walk_at"e"
theorem wL{f:Jg}{fd:Jb}(F:NK K "_law_first_out" "_law_first_out" A8 f fd)(B:Bt mg):Ju P w K mg base N7 3 f fd ["_law_kept","_law_out","_law_own"] Sh:=by
 refine F.ok Pf (fun vs H Q E h=>?_) (fun cdv A outer s H vs Q E hr h=>?_)
 .obtain⟨d,t,ks,out,own,rfl,_⟩:=h;rfl
 .obtain⟨d,t,ks,out,own,rfl,hD,ht,hKo,hl,hne,q⟩:=h;refine⟨_,(JE (HQ (HE (i:=3) (N':=["_law_one","_law_own"]) (caps:=[none,some 2]) (Do (sc:=Jl A8) (N:=["_law_kept","_law_out","_law_own","_law_others"]) rfl rfl (by decide +kernel)) rfl (Pf).nd rfl (Or.inl rfl) (Bi (Jn 0)) (fun _ _ _ _ _=>(D0 (i:=0) (Dm (N:=["_law_one","_law_own"]) rfl (by decide +kernel)) rfl (Or.inl rfl))) (fun _ _ _ _ _=>(Fd (Tx (Ao (K:=K) (Room.units hr) rfl) (Jn 0) (Jn 1)))) (fun _ _ _ _ _=>(Jn 0)) rfl)) (JE (Tg (Tx (GK GG) (Jn 1) Tj) (JM (Nk (M5 K (Tu (Fg (K:=K) rfl (Room.units hr) rfl) B.min (Nc (hs:=Rt) (Gk (N':=["_law_one","_law_kept"]) (caps:=[none,some 0]) (Do (sc:=Jl A8) (N:=["_law_kept","_law_out","_law_own","_law_others"]) rfl rfl (by decide +kernel)) rfl (GS (K:=K) rfl (Jn 3)) (fun _ _ _ _ _=>(D0 (i:=0) (Dm (N:=["_law_one","_law_kept"]) rfl (by decide +kernel)) rfl (Or.inl rfl))) (fun _ _ _ _ _=>Gj) (fun _ _ _ _ _=>(MR (Dq (M5 K (GJ hr (Jn 1) (Jn 0)) JI) (Jv 0 Jt))))) Jt)) JI))) TC) (JM (Nk (M5 K (Tu (Fg (K:=K) rfl (Room.units hr) rfl) B.min (Nc (hs:=Rt) (Gk (N':=["_law_one","_law_kept"]) (caps:=[none,some 0]) (Do (sc:=Jl A8) (N:=["_law_kept","_law_out","_law_own","_law_others"]) rfl rfl (by decide +kernel)) rfl (GS (K:=K) rfl (Jn 3)) (fun _ _ _ _ _=>(D0 (i:=0) (Dm (N:=["_law_one","_law_kept"]) rfl (by decide +kernel)) rfl (Or.inl rfl))) (fun _ _ _ _ _=>Gj) (fun _ _ _ _ _=>(MR (Nc (hs:=GR) (Na (NL PU) JI (M5 K (GJ hr (Jn 1) (Jn 0)) JI)) (Jv 0 Jt))))) Jt)) JI))))),?_⟩;refine Nl fun N hN=>?_
  walk_at"r";have hrl:(MU ks).length=ks.length:=Y1 ..;obtain⟨Pv,ePv⟩:∃Pv:Nat->List V->L2.St->Prop,Pv=fun i ys σ'=>∃ (bs:List Addr) (v:Option V),ys=bs.map V.ref/\σ'=[v,some (.ref t)]/\Pw (fun b (x:KE)=>H b=some (.tup (TD x.ky))) bs ((ks.take i).filter fun x=> !decide (x.ky=own)):=⟨_,rfl⟩
  refine Ai hD.dd (fun Rr h=>by walk_at"r";exact h) Pv (by rw[ePv];exact⟨[],_,rfl,rfl,(.nil:Pw _ [] [])⟩) ?_ (by lia) ?_ ?_ <;> rw[ePv]
  .rintro i ys σ' ⟨bs,v,rfl,rfl,hw⟩;rw[Y1,hw.1];have:=YB (fun x:KE=> !decide (x.ky=own)) (ks.take i);rw[Yu]at this
   lia
  .rintro Hf o hfo hfd i b k v ys σ' hk hb ⟨bs,v0,rfl,rfl,hw⟩;rw[<-ePv];obtain⟨x,c,rfl,rfl⟩:=FI hk;have hKx:=hD.ok x (Yk c);have hb':Hf b=some (.tup (TD x.ky)):=by rw[hfo b (Jm hb hD.dd nofun)];exact hb
   have ht':Hf t=some (.tup (TD own)):=by rw[hfo t (Jm ht hD.dd nofun)];exact ht
   walk_at"r";refine⟨_,_,E3 hb',E3 ht',A9 _ hKx.2.2.1 hKx.2.2.2,A9 _ hKo.2.2.1 hKo.2.2.2,_,rfl,?_⟩;have ee:PyData.eqv (GC x.ky.1 x.ky.2.1 x.ky.2.2) (GC own.1 own.2.1 own.2.2)=decide (x.ky=own):=by
    rw[LK,YF,Yd,Yd];exact⟨fun h=>Ui h.1 (Ui h.2.1 h.2.2),fun h=>by rw[h];exact⟨rfl,rfl,rfl⟩⟩
   have etk:ks.take (i+ 1)=ks.take i++[x]:=by rw[YQ,c];rfl
   rw[ee]
   by_cases hxe:x.ky=own
   .rw[Y2 (by simpa using hxe),ePv];refine⟨⟨bs,_,rfl,rfl,?_⟩,rfl⟩;rw[etk,XE,Vi (by simpa using hxe),VE,List.append_nil];exact hw
   .rw[Y3 (by simpa using hxe),ePv];refine⟨⟨bs++[b],_,by rw[Yh];rfl,rfl,?_⟩,rfl⟩;rw[etk,XE,Vj (by simpa using hxe),VE];exact hw.snoc hb
  .rintro ys σ' ⟨bs,v,rfl,rfl,hw⟩ lo G1 hlo s1 e1;refine hN _ _ ?_;clear hN N;rw[hrl,Yv (Y9 _)]at hw;obtain⟨r,eot⟩:∃r,r=ks.filter fun x=> !decide (x.ky=own):=⟨_,rfl⟩
   rw[<-eot]at hw;have hot:∀x∈r,x∈ks:=fun x c=>by rw[eot]at c;exact(Yr.mp c).1
   have hotl:r.length <=ks.length:=by rw[eot];exact YB _ _
   have hD1:=hD.mono s1;have go:∀ (te:TE) (g:KE->Int),(∀x∈r,(if out="oldest" then x.tm else 0 - x.mn)=g x)->(∀b x (e:Hp) (R:VK),x∈r->Jo G1 e->e b=some (.tup (TD x.ky))->(∀p3 G3,Jo e G3->G3 p3=some (.tup [.int (g x),.ref b])->R (.ref p3) G3)->te [some (.ref b),some (.ref d)] e R)->
     ∀ (Qf:VK),(∀lp (ps:List V) a,Jo G1 a->a lp=some (.lst ps)->Pw (Gh a) ps (DV out own ks)->Qf (.ref lp) a)->Bq [none,some 0] (RT 0) AS te [some (.ref d),some (.str out),some (.ref t),some (.ref lo)] Qf (E7 K lo) G1:=fun te g hg hte Qf hq=>by
    have epr:DV out own ks=r.map fun x=>(g x,x.ky):=by
     unfold DV;rw[<-eot];exact YU fun x c=>by rw[hg x c]
    rw[epr]at hq;obtain⟨Pc,ePc⟩:∃Pc:Nat->List V->L2.St->Hp->Prop,Pc=fun j ys σ' e=>∃ (v:Option V),σ'=[v,some (.ref d)]/\Jo G1 e/\Pw (Gh e) ys ((r.take j).map fun x=>(g x,x.ky)):=⟨_,rfl⟩
    refine AV (xs:=bs.map V.ref) Pc (by rw[ePc];exact⟨_,rfl,Jo.refl _,.nil⟩) ?_ (Ni (by rw[Y1,hw.1];lia)) ?_ ?_ <;> rw[ePc]
    .rintro j ys σ' e ⟨v,rfl,n,pw⟩ _;exact⟨JA.of (n _ _ e1),by rw[pw.1,Y1,Yu];lia⟩
    .rintro j y ys σ' e hy ⟨v,rfl,n,pw⟩;rw[<-ePc];rw[Ya]at hy;obtain⟨b,hb,rfl⟩:=Yl.mp hy;obtain⟨x,c,hbx⟩:=hw.get hb;have hxm:=Yk c;have hbG:=n _ _ (s1 _ _ hbx);walk_at"r";refine hte b x e _ hxm n hbG fun p3 G3 s3 e3=>?_
     rw[ePc];show ∃v,_=[v,some (V.ref d)]/\Jo G1 G3/\Pw (Gh G3) (ys++[V.ref p3]) (List.map (fun x=>(g x,x.ky)) (List.take (j+ 1) r));have etk:r.take (j+ 1)=r.take j++[x]:=by rw[YQ,c];rfl
     rw[etk,Yh];exact⟨_,rfl,n.trans s3,(pw.imp fun x y ⟨t,b,h1,h2,h3⟩=>⟨t,b,h1,s3 _ _ h2,s3 _ _ h3⟩).snoc ⟨p3,b,rfl,e3,s3 _ _ hbG⟩⟩
    .rintro ys σ' e ⟨v,rfl,n,pw⟩ lp a hlp s2 e2;rw[Y1,hw.1,Yv (Y9 _)]at pw;exact hq lp ys a (n.trans s2) e2 (pw.imp fun x y ⟨t,b,h1,h2,h3⟩=>⟨t,b,h1,s2 _ _ h2,s2 _ _ h3⟩)
   have fin:∀lp (ps:List V) a,Jo G1 a->a lp=some (.lst ps)->Pw (Gh a) ps (DV out own ks)->∃p,V.ref lp=V.ref p/\∃x,JA K a p x/\∃x_1:List (Int×Ky),x.length=x_1.length/\(∀ (i:Nat) (x_2:V) (q:Int×Ky),x[i]?=some x_2->x_1[i]?=some q->∃t,x_2=V.ref t/\∃x,N8 K a t [V.int q.1,V.ref x]/\N8 K a x (Ea q.2))/\x_1≠[]/\
      ∀ (i:Nat) (x_2:V) (q:Int×Ky),x[i]?=some x_2->x_1[i]?=some q->(∀q':Int×Ky,q'∈x_1->JS q' q=false)->∃p,x_2=V.ref p/\∃x,N8 K a p x/\∃x_3,GH x 1=some x_3/\Q x_3 a:=fun lp ps a s2 e2 pw=>by
    refine⟨lp,rfl,_,JA.of e2,_,pw.1,fun i x q' h1 h2=>?_,hne,fun i x q' h1 h2 hmin=>?_⟩
    .obtain⟨t,b,h3,h4,h5⟩:=pw.2 i x q' h1 h2;exact⟨t,h3,b,N8.of h4,N8.of h5⟩
    .obtain⟨t,b,h3,h4,h5⟩:=pw.2 i x q' h1 h2;exact⟨t,h3,_,N8.of h4,_,rfl,q b q' a (Z9 (Yk h2) hmin) (s1.trans s2) h5⟩
   refine Nl fun N hN=>?_
   walk_at"r";refine⟨rfl,?_⟩
   by_cases ho:out="oldest"
   .rw[Y3 (Yt ho)];refine⟨⟨_,JA.of e1⟩,go _ (fun x=>x.tm) (fun x _=>Y3 ho) (fun b x e R c n hb k=>?_) _ fin⟩;have hDG:=hD1.mono n;walk_at"r";exact⟨_,.inr ⟨_,NB x.ky,b,.inl hDG.dd,rfl,hb,(EG hD.nk (hot x c)).symm⟩,_,rfl,_,N8.of (hDG.tt x (hot x c)),_,rfl,Ni (by simp),fun p3 G3 _ s3 e3=>k p3 G3 s3 e3⟩
   .rw[Y2 (by simpa using ho)];refine hN _ _ ?_;clear hN N;walk_at"r";refine⟨⟨_,JA.of e1⟩,go _ (fun x=>0 - x.mn) (fun x _=>Y2 ho) (fun b x e R c n hb k=>?_) _ fin⟩;have hDG:=hD1.mono n;walk_at"r";exact⟨_,.inr ⟨_,NB x.ky,b,.inl hDG.dd,rfl,hb,(EG hD.nk (hot x c)).symm⟩,_,rfl,_,N8.of (hDG.tt x (hot x c)),_,rfl,_,rfl,Ni (by simp),fun p3 G3 _ s3 e3=>k p3 G3 s3 e3⟩
end
def Tn(ks:List KE)(xs:List AE):Prop:=(ks.map fun e=>(e.ky,e.tm,e.mn))=xs.map fun x=>(x.1,x.2.2,(x.2.1.st.length:Int))
def Qa(ks:List KE):Int:=(ks.map fun e=>e.mn).sum
def En(ks:List KE)(k:Ky):List KE:=ks.filter fun x=> !decide (x.ky=k)
section
variable{ks:List KE}{xs:List AE}{k own:Ky}{out:Str}{H G:Hp}{d:Jg}
theorem Tn.len(h:Tn ks xs):ks.length=xs.length:=by have:=YR List.length h;simpa using this
theorem Tn.keys(h:Tn ks xs):ks.map (·.ky)=xs.map (·.1):=by
 have:=YR (List.map Prod.fst) h;simpa[Yw,Uo] using this
theorem Tn.tot(h:Tn ks xs):Qa ks=T3 xs:=by
 have:=YR (fun l=>(l.map fun z:Ky×Int×Int=>z.2.2).sum) h;simpa[Qa,T3,Yw,Uo] using this
theorem Tn.cons{e:KE}{x:AE}(h:Tn (e::ks) (x::xs)):(e.ky=x.1/\e.tm=x.2.2/\e.mn=(x.2.1.st.length:Int))/\Tn ks xs:=by
 unfold Tn at h;simp only[List.map_cons,List.cons.injEq,Uy]at h;exact h
theorem Tn.filter(h:Tn ks xs)(f:Ky->Bool):Tn (ks.filter fun x=>f x.ky) (xs.filter fun x=>f x.1):=by
 induction ks generalizing xs with
 |nil=>cases xs with
  |nil=>rfl
  |cons x xs=>exact absurd h.len (by simp)
 |cons e ks ih=>cases xs with
  |nil=>exact absurd h.len (by simp)
  |cons x xs=>
   obtain⟨⟨h1,h2,b⟩,a⟩:=h.cons;rw[Xj,Xj,h1]
   split
   .unfold Tn;rw[List.map_cons,List.map_cons,ih a,h1,h2,b]
   .exact ih a
theorem Tn.less(h:Tn ks xs)(k:Ky):Tn (En ks k) (JD xs k):=h.filter fun x=> !decide (x=k)
theorem Tn.prs(h:Tn ks xs):DV out own ks=prs out own xs:=by
 have h1:=h.filter fun x=> !decide (x=own)
 unfold DV Mine.prs;have:=YR (List.map fun z:Ky×Int×Int=>((if out="oldest" then z.2.1 else 0 - z.2.2),z.1)) h1;simp only[Yw]at this;rw[show(fun x:KE=>(if out="oldest" then x.tm else 0 - x.mn,x.ky))=(fun z:Ky×Int×Int=>((if out="oldest" then z.2.1 else 0 - z.2.2),z.1)) ∘ (fun e:KE=>(e.ky,e.tm,e.mn)) from rfl,this];refine YU fun x _=>?_
 simp only[Uo,Int.zero_sub]
theorem Tn.snoc{e:KE}{x:AE}(h:Tn ks xs)(h1:e.ky=x.1)(h2:e.tm=x.2.2)(h3:e.mn=(x.2.1.st.length:Int)):Tn (ks++[e]) (xs++[x]):=by
 unfold Tn at h ⊢;rw[Yh,Yh,h,VX,VX,h1,h2,h3]
theorem rW:Nt (MU ks) (NB k)=MU (En ks k):=by
 unfold Nt MU En;rw[U3]
 congr 1
 refine XJ fun x _=>?_
 simp only[Uo]
 by_cases hx:x.ky=k
 .simp[hx]
 .have:¬NB x.ky=NB k:=fun z=>hx (R8 z)
  simp[hx,this]
theorem gM(hk:k∉ks.map (·.ky)){t:Jg}{tm mn:Int}:MY (MU ks) (NB k) (.ref t)=MU (ks++[⟨k,t,tm,mn⟩]):=by
 unfold MY MU;rw[Y2]
 .rw[Yh];rfl
 .simp only[J1,Wr,Uo,Yd,not_exists,not_and];exact fun x a z=>hk (Y5.mpr ⟨x,a,R8 z⟩)
theorem Ds.less(h:Ds H d ks)(b:Nd d H G)(e:G d=some (.dT (Nt (MU ks) (NB k)))):Ds G d (En ks k):=by
 rw[rW]at e;refine⟨e,fun x a=>?_,h.nk.sublist (Xs _ YM),fun x a=>h.ok x (Yr.mp a).1⟩;have h1:=h.tt x (Yr.mp a).1;exact b _ _ h1 (Jm h1 h.dd nofun)
theorem Ds.put{t:Jg}{tm mn:Int}(h:Ds H d ks)(hk:k∉ks.map (·.ky))(ho:Tp k)(ht:H t=some (.tup [.int tm,.int mn]))(b:Nd d H G)(e:G d=some (.dT (MY (MU ks) (NB k) (.ref t)))):Ds G d (ks++[⟨k,t,tm,mn⟩]):=by
 rw[gM hk (tm:=tm) (mn:=mn)]at e;have g:∀{c:Jg} {xs:List V},H c=some (.tup xs)->G c=some (.tup xs):=fun {c xs} h1=>b _ _ h1 (Jm h1 h.dd nofun)
 refine⟨e,fun x f=>?_,?_,fun x f=>?_⟩
 .rcases Yq.mp f with z|z
  .exact g (h.tt x z)
  .rw[Yb.mp z];exact g ht
 .rw[Yh,Um];refine⟨h.nk,by simp,fun a j b i z=>?_⟩;simp at i;subst z;subst i;exact hk j
 .rcases Yq.mp f with z|z
  .exact h.ok x z
  .rw[Yb.mp z];exact ho
end
theorem FT:∀{l:Jh},(∀x∈l,0 <=x/\x <=10000)->0 <=l.sum/\l.sum <=10000*l.length
 |[],_=>⟨by simp,by simp⟩
 |a::l,h=>by
  have h1:=FT (l:=l) fun x b=>h x (.tail _ b)
  have h2:=h a (.head _);rw[V0,List.length_cons]
  lia
theorem Tn.bd{ks:List KE}{xs:List AE}(h:Tn ks xs)(hb:∀x∈xs,x.2.1.st.length <=10000):∀e∈ks,0 <=e.mn/\e.mn <=10000:=fun e b=>by
 have:(e.ky,e.tm,e.mn)∈xs.map fun x=>(x.1,x.2.2,(x.2.1.st.length:Int)):=by
  rw[<-show _=_ from h];exact Y5.mpr ⟨e,b,rfl⟩
 obtain⟨x,a,z⟩:=Y5.mp this;simp only[Uy]at z;have:=hb x a
 lia
theorem jZ(xs:List AE):0 <=T3 xs:=by
 unfold T3
 induction xs with
 |nil=>simp
 |cons x xs ih=>rw[List.map_cons,V0];lia
theorem Q7(xs:List AE)(x:AE):T3 (xs++[x])=T3 xs+ (x.2.1.st.length:Int):=by
 unfold T3;rw[Yh,List.sum_append];simp
theorem ON{xs:List AE}{own:Ky}(hno:own∉xs.map (·.1))(rs:RS)(tm:Int):GI (xs++[(own,rs,tm)]) own=rs.st.length:=by
 unfold GI;rw[List.find?_append,XY.mpr fun x a=>by simp only[Yd];exact fun z=>hno (Y5.mpr ⟨x,a,z⟩)];simp
theorem PV{xs:List AE}{own:Ky}(hno:own∉xs.map (·.1))(rs:RS)(tm:Int):JD (xs++[(own,rs,tm)]) own=xs:=by
 unfold JD;rw[XE,Xc.mpr fun x a=>by simp only[Xx,Xe];exact fun z=>hno (Y5.mpr ⟨x,a,z⟩)];simp
theorem uB{xs:List AE}{own:Ky}{out:Str}{sp tm:Int}{rs:RS}{n:Nat}(hno:own∉xs.map (·.1))(ht:T3 xs <=sp)(hbig:sp < T3 xs+ (rs.st.length:Int))(hc:out="own"\/sp < (rs.st.length:Int)):Tt out sp own (n+ 2) (xs++[(own,rs,tm)])=(xs,[own]):=by
 have a:MP out sp own (xs++[(own,rs,tm)])=own:=by
  unfold MP;rw[ON hno,Y3 hc]
 show(if T3 (xs++[(own,rs,tm)]) <=sp then _ else _)=_;rw[Q7,Y2 (by show ¬T3 xs+ (rs.st.length:Int) <=sp;lia),a,PV hno];show((if T3 xs <=sp then(xs,[]) else _:List AE×List Ky).1,own::(if T3 xs <=sp then(xs,[]) else _:List AE×List Ky).2)=_;rw[Y3 ht]
theorem Qz{c:List (Int×Ky)}{q:Int×Ky}(h:MZ c=some q):q∈c:=by
 cases c with
 |nil=>cases h
 |cons x l=>
  have:=(Fx l x).1;unfold MZ at h;rw[Option.some.inj h]at this;exact this
theorem QG{out:Str}{own:Ky}{xs:List AE}{q:Int×Ky}(h:q∈prs out own xs):q.2∈xs.map (·.1)/\¬q.2=own:=by
 obtain⟨x,a,rfl⟩:=Y5.mp h;obtain⟨h1,h2⟩:=Yr.mp a;exact⟨Y5.mpr ⟨x,h1,rfl⟩,by simpa using h2⟩
theorem Z8:∀{xs:List AE} {k:Ky},(xs.map (·.1)).Nodup->k∈xs.map (·.1)->(JD xs k).length+ 1=xs.length
 |[],_,_,h=>nomatch h
 |x::xs,k,hn,h=>by
  unfold JD;rw[List.map_cons,YH]at hn;rw[Xj]
  by_cases hx:x.1=k
  .rw[Y2 (by simpa using hx),Xc.mpr fun y hy=>by simp only[Xx,Xe];exact fun z=>hn.1 (Y5.mpr ⟨y,hy,z.trans hx.symm⟩)];rfl
  .rw[Y3 (by simpa using hx),List.length_cons];have h1:k∈xs.map (·.1):=by
    rcases Ym.mp h with z|z
    .exact absurd z.symm hx
    .exact z
   have:=Z8 hn.2 h1;unfold JD at this;rw[List.length_cons];lia
theorem r6{xs:List AE}{k own:Ky}(h:¬k=own):GI (JD xs k) own=GI xs own:=by
 unfold GI JD;rw[List.find?_filter]
 congr 2
 refine congrFun (YR _ ?_) _
 funext x
 by_cases hx:x.1=own
 .simp[hx,show ¬own=k from fun z=>h z.symm]
 .simp[hx]
section
variable{P:J9}{w:Jd}{K:Je}{mg:J5}{base:Jj}
inductive Pg(vs:List V)(H:Hp)(Q:VK)(E:XK):Prop|mk (d t:Jg) (ks:List KE) (own:Ky) (tm sp:Int) (out:Str) (xs:List AE) (rs:RS) (_:vs=[.ref d,.ref t,.int (rs.st.length:Int),.int tm,.int sp,.str out]) (_:Ds H d ks) (_:Tn ks xs) (_:H t=some (.tup (TD own))) (_:Tp own) (_:own∉ks.map (·.ky)) (_:ks.length <=900) (_:T3 xs <=sp) (_:(∀x∈xs,x.2.1.st.length <=10000)) (_:rs.st.length <=10000) (_:∀ks' l G,Nd d H G->H l=none->Ds G d ks'->Tn ks' (Tt out sp own (xs.length+ 2) (xs++[(own,rs,tm)])).1->TF G l (Tt out sp own (xs.length+ 2) (xs++[(own,rs,tm)])).2 "room"->Q (.ref l) G)
abbrev AD:Stmt:=top 51
theorem IU:Nv ["_law_kept","_law_mine","_law_many","_law_time","_law_space","_law_out","_law_events","_law_first"] ["_law_kept","_law_mine","_law_many","_law_time","_law_space","_law_out"] (Jl AD):=by walk_at"e"
theorem KD{td:TE}{σ:L2.St}{H:Hp}{d:Jg}{ks:List KE}{Q:VK}(hD:Ds H d ks)(hl:ks.length <=1000)(htd:∀R:VK,R (.ref d) H->td σ H R)(hq:∀G,Jo H G->∀p,G p=some (.lst (ks.map fun e=>V.int e.mn))->Q (.ref p) G):
  A5 (E5 [none] (AC (AY K "dict" CY td)) (RT 0) AS (Rs (BB K) (Bk 0) (tC (V.int 1)))) σ H Q:=by
 have c:(MU ks).length=ks.length:=Y1 ..;refine aE hD.dd (fun w h=>?_) (fun i ys σ'=>ys=((ks.take i).map fun e=>V.int e.mn)/\∃v,σ'=[v]) ⟨rfl,_,rfl⟩ ?_ (by lia) ?_ ?_
 .walk_at"r";refine htd _ ⟨.inr (.inr (.inl ⟨rfl,.inr ⟨_,hD.dd⟩⟩)),d,rfl,_,hD.dd,h⟩
 .rintro i ys σ' ⟨rfl,_⟩;rw[Y1,Yu];lia
 .rintro Hf o f q i k v ys σ' n ⟨rfl,r,rfl⟩;obtain⟨e,g,rfl,rfl⟩:=FI n;have b:=hD.tt e (Yk g);have a:=f _ _ b (Jm b hD.dd nofun);walk_at"r";refine⟨_,N8.of a,_,rfl,?_⟩;rw[YQ,g,XX,Yh]
  first
  |exact rfl
  |exact⟨⟨rfl,_,rfl⟩,rfl⟩
 .rintro ys σ' ⟨rfl,_⟩ p G s s1 j;rw[c,Yv (Y9 _)]at j;exact hq G s1 p j
theorem wD{f:Jg}{fd:Jb}(F:NK K "_law_room_made" "_law_room_made" AD f fd)(B:Bt mg)(B2:RF mg)(Mb:Tc P w K mg base "_law_first_out" 3 ["_law_kept","_law_out","_law_own"] [] Sh):Ju P w K mg base N7 5 f fd ["_law_kept","_law_mine","_law_many","_law_time","_law_space","_law_out"] Pg:=by
 refine F.ok IU (fun vs H Q E h=>?_) (fun cdv A outer s H vs Q E hr h=>?_)
 .obtain⟨d,t,ks,own,tm,sp,out,xs,rs,rfl,_⟩:=h;rfl
 .obtain⟨d,t,ks,own,tm,sp,out,xs,rs,rfl,hD,hA,ht,hKo,hno,hl,htot,hxb,hrb,q⟩:=h;refine⟨_,(JE (Tr 6 IU (Dn Jt)) (JE (Tg (PW.pt (RD (Tx (NL Bp) (Jn 2) (Jn 4)) (RJ (PW.pt (A2 (Tx (GK GG) (Jn 5) Tj) (Ab (Tx (NL Bp) (Na (NL Mo) (Tu (F2 (K:=K) rfl rfl) B2.sum (Nc (hs:=Rt) (Bg (Gk (N':=["_law_one"]) (caps:=[none]) (Do (sc:=Jl AD) (N:=["_law_kept","_law_mine","_law_many","_law_time","_law_space","_law_out","_law_events","_law_first"]) rfl rfl (by decide +kernel)) rfl (IN (Ap (K:=K) rfl YN Uu Ve IY (Jn 0))) (fun _ _ _ _ _=>(D0 (i:=0) (Dm (N:=["_law_one"]) rfl (by decide +kernel)) rfl (Or.inl rfl))) (fun _ _ _ _ _=>Gj) (fun _ _ _ _ _=>(M5 K (Jn 0) JI)))) Jt)) (Jn 2)) (Jn 4)))))))) (JM (Nk (Dn (Nc (hs:=GM) (MR (TH Tj (Jv 1 (TH Tj Jt)))) Jt)))) TC) (JE (Zn (Gy hr) (Jn 0) (Jn 1) (MR (Jv 3 (Jv 2 Jt))) rfl) (JE (Z4 Xh (Tx (NL Bp) (Tu (F2 (K:=K) rfl rfl) B2.sum (Nc (hs:=Rt) (Bg (Gk (N':=["_law_one"]) (caps:=[none]) (Do (sc:=Jl AD) (N:=["_law_kept","_law_mine","_law_many","_law_time","_law_space","_law_out","_law_events","_law_first"]) rfl rfl (by decide +kernel)) rfl (IN (Ap (K:=K) rfl YN Uu Ve IY (Jn 0))) (fun _ _ _ _ _=>(D0 (i:=0) (Dm (N:=["_law_one"]) rfl (by decide +kernel)) rfl (Or.inl rfl))) (fun _ _ _ _ _=>Gj) (fun _ _ _ _ _=>(M5 K (Jn 0) JI)))) Jt)) (Jn 4)) (JE (Tr 7 IU (Tb Mb hr.m rfl (Jv 0 (Jv 5 (Jv 1 Jt))))) (JE (D8 (DQ (K:=K) rfl YN XV Ug (Cm (Gy hr)) (Jn 0) (Jv 7 Jt))) (JM (D8 (DQ (K:=K) rfl YW YY YZ (Ei Em) (Jn 6) (Nc (hs:=GM) (MR (TH Tj (Jv 7 (TH Tj Jt)))) Jt))))))) (JM (Nk (Jn 6))))))),?_⟩;refine Nl fun N hN=>?_
  walk_at"r";refine⟨Ni (by simp),fun p G hp s1 e1=>hN _ _ ?_⟩;clear hN N;refine Nl fun N hN=>?_
  walk_at"r";have hlx:=hA.len;have hxo:own∉xs.map (·.1):=by rw[<-hA.keys];exact hno
  have g1:(∀G1 p1 p2,G p1=none->Jo G G1->G1 p1=some (.tup [.str "gone",.ref t,.str "room"])->∀G2,G1 p2=none->Jo G1 G2->G2 p2=some (.lst [.ref p1])->sp < T3 xs+ (rs.st.length:Int)->(out="own"\/sp < (rs.st.length:Int))->Q (.ref p2) G2):=fun G1 p1 p2 h1 s2 e2 G2 h2 s3 e3 hb hc=>by
   have s123:=s1.trans (s2.trans s3);refine q ks p2 G2 (fun c o h _=>s123 _ _ h) (s1.free (s2.free h2)) (hD.mono s123) ?_ ?_ <;> rw[uB hxo htot hb hc]
   .exact hA
   .refine⟨[(p1,t)],rfl,e3,fun i t' k a b=>?_⟩
    match i,a,b with
    |0,a,b=>cases a;cases b;exact⟨s3 _ _ e2,s123 _ _ ht⟩
  by_cases hms:sp < (rs.st.length:Int)
  .rw[Y3 (Yt hms)];refine⟨Ni (by decide),fun p1 G1 h1 s2 e2=>⟨Ni (by decide),fun p2 G2 h2 s3 e3=>g1 G1 p1 p2 h1 s2 e2 G2 h2 s3 e3 (by have:=jZ xs;lia) (.inr hms)⟩⟩
  rw[Y2 (by simpa using hms)];refine⟨rfl,?_⟩;have nxt:∀ (G0:Hp),Jo G G0->(out="own"->T3 xs+ (rs.st.length:Int) <=sp)->N [some (.ref d),some (.ref t),some (.int (rs.st.length:Int)),some (.int tm),some (.int sp),some (.str out),some (.ref p),none] G0:=fun G0 s0 hoo=>by
   refine hN _ _ ?_;clear hN N g1;have hD0:=hD.mono (s1.trans s0);have ht0:=s0 _ _ (s1 _ _ ht);have e0:=s0 _ _ e1;refine Nl fun N hN=>?_
   walk_at"r";refine⟨Ni (by decide),fun pt G3 hpt s3 e3=>⟨NB own,_,s3 _ _ hD0.dd,s3 _ _ ht0,Yn (show _ <=900 by unfold MU;rw[Y1];exact hl) (by rw[YG];decide),fun G4 b4 e4=>hN _ _ ?_⟩⟩;clear hN N;have hD4:=(hD0.mono s3).put hno hKo e3 b4 e4;have tp4:∀{c:Jg} {ys:List V},G0 c=some (.tup ys)->G4 c=some (.tup ys):=fun {c ys} h1=>b4 _ _ (s3 _ _ h1) (Jm h1 hD0.dd nofun)
   have ep4:G4 p=some (.lst []):=b4 _ _ (s3 _ _ e0) (Jm e0 hD0.dd nofun);have bH4:Nd d H G4:=fun c o h n=>b4 _ _ (s3 _ _ (s0 _ _ (s1 _ _ h))) n
   obtain⟨fl,efl⟩:∃fl,fl=Tt out sp own (xs.length+ 2) (xs++[(own,rs,tm)]):=⟨_,rfl⟩;rw[<-efl]at q;refine Nl fun N hN=>?_
   obtain⟨Wd,eW⟩:∃Wd:Nat->L2.St->Hp->Prop,Wd=fun mm σ' G'=>∃ (v:Option V) (ki:List KE) (g:List AE) (gs:List Ky),σ'=[some (.ref d),some (.ref t),some (.int (rs.st.length:Int)),some (.int tm),some (.int sp),some (.str out),some (.ref p),v]/\mm=g.length/\Ds G' d ki/\Tn ki g/\gs.length+ g.length=xs.length+ 1/\fl=((Tt out sp own (g.length+ 1) g).1,gs++(Tt out sp own (g.length+ 1) g).2)/\GI g own <=sp/\(out="own"->T3 g <=sp)/\(∀x∈g,x.2.1.st.length <=10000)/\Nd d H G'/\TF G' p gs "room":=⟨_,rfl⟩
   refine⟨Wd,⟨xs.length+ 1,?_⟩,?_⟩ <;> rw[eW]
   .refine⟨_,_,xs++[(own,rs,tm)],[],rfl,by simp,hD4,hA.snoc rfl rfl rfl,by simp,by rw[efl];simp,by rw[ON hxo];lia,fun z=>by rw[Q7];exact hoo z,fun x hx=>?_,bH4,[],rfl,ep4,fun i t k h=>by simp at h⟩;rcases Yq.mp hx with z|z
    .exact hxb x z
    .rw[Yb.mp z];exact hrb
   rintro mm σ' G' ⟨v,ki,g,gs,rfl,rfl,hDi,r,hgl,hfl,hsz,hoi,hxi,bi,hE⟩;rw[<-eW];have hli:=r.len;walk_at"r";refine KD hDi (by lia) (fun R h=>by walk_at"r";exact h) fun G5 s5 p5 e5=>?_
   have eb:=r.bd hxi;refine⟨p5,rfl,ki.map (·.mn),JA.of (by rw[e5,Yw];rfl),fun x hx=>?_,fun j hj=>?_,?_⟩
   .obtain⟨e,he,rfl⟩:=Y5.mp hx;have:=eb e he;lia
   .have:=FT (l:=(ki.map (·.mn)).take j) fun x hx=>by
     obtain⟨e,he,rfl⟩:=Y5.mp (YV hx);exact eb e he
    rw[Yu,Y1]at this
    lia
   have et:(ki.map (·.mn)).sum=T3 g:=r.tot;rw[et];have hD5:=hDi.mono s5
   by_cases hts:sp < T3 g
   .rw[Y3 (Yt hts)];have hnk:(g.map (·.1)).Nodup:=by rw[<-r.keys];exact hDi.nk
    have hpn:=Lo (out:=out) hnk hts hsz;have hoo':¬out="own":=fun z=>by have:=hoi z;lia
    have hx0:0 < g.length:=VJ.mpr fun z=>by rw[z]at hpn;exact hpn rfl
    refine⟨Wd (g.length - 1),fun σ'' H'' h=>⟨g.length - 1,by lia,h⟩,?_⟩;refine⟨d,t,ki,out,own,rfl,hD5,s5 _ _ (bi t _ ht (Jm ht hD.dd nofun)),hKo,by lia,by rw[r.prs];exact hpn,fun t' qq G6 hmin s6 e6=>?_⟩;rw[r.prs]at hmin;obtain⟨kk,ekk⟩:∃kk,kk=qq.2:=⟨_,rfl⟩;rw[<-ekk]at e6;have hfa:MP out sp own g=kk:=by
     unfold MP;rw[Y2 (fun z=>z.elim hoo' (by lia)),hmin,ekk];rfl
    obtain⟨hkx,hko⟩:=QG (Qz hmin);rw[<-ekk]at hkx hko;have hkk:kk∈ki.map (·.ky):=by rw[r.keys];exact hkx
    obtain⟨e,he,rfl⟩:=Y5.mp hkk;have hD6:=hD5.mono s6;obtain⟨ts,h1,h2,h3⟩:=hE;have hp6:=s6 _ _ (s5 _ _ h2);refine⟨.inr (.inr (.inl ⟨rfl,.inr ⟨_,hD6.dd⟩⟩)),t',rfl,NB e.ky,_,hD6.dd,e6,_,EG hDi.nk he,fun G7 b7 e7=>?_⟩;have hD7:=hD6.less b7 e7;have hp7:=b7 _ _ hp6 (Jm hp6 hD6.dd nofun);refine⟨.inl ⟨rfl,_,JA.of hp7⟩,Ni (by decide),fun p8 G8 h8 s8 e8=>⟨_,s8 _ _ hp7,Yn (show _ <=1000 by rw[Y1,h1];lia) (by rw[YG];decide),fun G9 b9 e9=>?_⟩⟩;have npd:p≠d:=Jm hp7 hD7.dd nofun;have t9:∀{c:Jg} {ys:List V},G8 c=some (.tup ys)->G9 c=some (.tup ys):=fun {c ys} h=>b9 c _ h (Jm h (s8 _ _ hp7) nofun)
    have t7:∀{c:Jg} {ys:List V},G6 c=some (.tup ys)->G7 c=some (.tup ys):=fun {c ys} h=>b7 c _ h (Jm h hD6.dd nofun)
    have hD8:=hD7.mono s8;have hlen:(JD g e.ky).length+ 1=g.length:=Z8 hnk hkx;rw[eW];refine⟨_,En ki e.ky,JD g e.ky,gs++[e.ky],rfl,by lia,⟨b9 _ _ hD8.dd (Ne.symm npd),fun x hx=>t9 (hD8.tt x hx),hD8.nk,hD8.ok⟩,r.less _,by rw[List.length_append,UL];lia,?_,by rw[r6 hko];exact hsz,fun z=>absurd z hoo',fun x hx=>hxi x (Yr.mp hx).1,fun c o h n=>b9 c o (s8 _ _ (b7 c o (s6 _ _ (s5 _ _ (bi c o h n))) n)) (fun z=>by rw[z,hp]at h;cases h),?_⟩
    .rw[hfl];have est:Tt out sp own (g.length+ 1) g=((Tt out sp own g.length (JD g e.ky)).1,e.ky::(Tt out sp own g.length (JD g e.ky)).2):=by
      show(if T3 g <=sp then _ else _)=_;rw[Y2 (by lia),hfa]
     rw[est,hlen,List.append_assoc];rfl
    .have hw:Pw (fun(t:Addr×Addr) (k:Ky)=>G9 t.1=some (.tup [.str "gone",.ref t.2,.str "room"])/\G9 t.2=some (.tup (TD k))) ts gs:=⟨h1,fun j x y a b=>⟨t9 (s8 _ _ (t7 (s6 _ _ (s5 _ _ (h3 j x y a b).1)))),t9 (s8 _ _ (t7 (s6 _ _ (s5 _ _ (h3 j x y a b).2))))⟩⟩;have hw2:=hw.snoc (x:=(p8,t')) (y:=e.ky) ⟨t9 e8,t9 (s8 _ _ (t7 e6))⟩;exact⟨ts++[(p8,t')],hw2.1,by rw[e9,Yh];rfl,hw2.2⟩
   .rw[Y2 (by simpa using hts)];refine hN _ _ ?_;walk_at"r";have hend:Tt out sp own (g.length+ 1) g=(g,[]):=by
     show(if T3 g <=sp then _ else _)=_;rw[Y3 (by lia)]
    rw[hend,List.append_nil]at hfl;refine q ki p G5 (fun c o h n=>s5 _ _ (bi c o h n)) hp hD5 (by rw[hfl];exact r) ?_;rw[hfl];obtain⟨ts,h1,h2,h3⟩:=hE;exact⟨ts,h1,s5 _ _ h2,fun i t' k a b=>⟨s5 _ _ (h3 i t' k a b).1,s5 _ _ (h3 i t' k a b).2⟩⟩
  by_cases ho:out="own"
  .rw[Y3 (Yt ho)];refine KD (hD.mono s1) (by lia) (fun R h=>by walk_at"r";exact h) fun G2 s2 p2 e2=>?_
   have eb:=hA.bd hxb;refine⟨p2,rfl,ks.map (·.mn),JA.of (by rw[e2,Yw];rfl),fun x hx=>?_,fun j hj=>?_,?_⟩
   .obtain⟨e,he,rfl⟩:=Y5.mp hx;have:=eb e he;lia
   .have:=FT (l:=(ks.map (·.mn)).take j) fun x hx=>by
     obtain⟨e,he,rfl⟩:=Y5.mp (YV hx);exact eb e he
    rw[Yu,Y1]at this
    lia
   have et:(ks.map (·.mn)).sum=T3 xs:=hA.tot;rw[et]
   by_cases hb:sp < T3 xs+ (rs.st.length:Int)
   .rw[Y3 (Yt hb)];exact⟨Ni (by decide),fun p1 G1 h1 s3 e3=>⟨Ni (by decide),fun p2 G3 h3 s4 e4=>g1 G1 p1 p2 (s2.free h1) (s2.trans s3) e3 G3 h3 s4 e4 hb (.inl ho)⟩⟩
   .rw[Y2 (by simpa using hb)];exact nxt G2 s2 fun _=>by lia
  .rw[Y2 (by simpa using ho)];exact nxt G (Jo.refl _) fun z=>absurd z ho
end
def DL(x:NZ):PD:=⟨x.ky.1,x.ky.2.1,x.ky.2.2,0,x.ns.take x.mn,true,false⟩
def Rz(x:NZ):PD:=⟨x.ky.1,x.ky.2.1,x.ky.2.2,(x.mn:Int),x.ns.drop x.mn,false,false⟩
def MT:Int->List Int->List (Int×Int)
 |_,[]=>[]
 |n,b::bs=>(n,b)::MT (n+ 1) bs
def MN(x:NZ):RS:=MM false Du (DL x)
section
variable{x:NZ}
theorem Pi{st:List (Int×Int)}{n:Int}(h:∀p∈st,p.1 < n):N9 st n=none:=by
 unfold N9;rw[XY.mpr fun p a=>by simp only[Yd];have:=h p a;lia];rfl
theorem Op:∀ (bs:Jh) (st:List (Int×Int)) (n:Int),(∀p∈st,p.1 < n)->Nq false st n bs=st++MT n bs
 |[],st,n,_=>by simp[Nq,MT]
 |b::bs,st,n,h=>by
  have g:=Pi h;have c:GQ st n b=st++[(n,b)]:=by
   unfold GQ;rw[Y2];simp only[Wr,Yd,not_exists,not_and];exact fun p a z=>by have:=h p a;lia
  show Nq false (if false=true\/(N9 st n).isSome=false then GQ st n b else st) (n+ 1) bs=_;rw[Y3 (.inr (by rw[g];rfl)),c,Op bs _ (n+ 1) fun p a=>?_]
  .rw[List.append_assoc];rfl
  .rcases Yq.mp a with z|z
   .have:=h p z;lia
   .rw[Yb.mp z];show n < n+ 1;lia
theorem QE:∀ (bs:Jh) (n:Int),(MT n bs).length=bs.length
 |[],_=>rfl
 |_::bs,n=>by rw[MT,List.length_cons,List.length_cons,QE bs]
theorem OB:∀ (bs:Jh) (n:Int),∀p∈MT n bs,n <=p.1/\p.1 < n+ bs.length
 |[],_,p,h=>nomatch h
 |b::bs,n,p,h=>by
  rw[List.length_cons];rcases Ym.mp h with rfl|z
  .show n <=n/\n < _;lia
  .have:=OB bs (n+ 1) p z;lia
theorem Sq:∀ (bs cs:Jh) (n:Int),MT n (bs++cs)=MT n bs++MT (n+ bs.length) cs
 |[],cs,n=>by simp[MT]
 |b::bs,cs,n=>by
  rw[List.cons_append,MT,MT,Sq bs cs (n+ 1),List.length_cons,List.cons_append]
  congr 3;lia
theorem OV:∀ (bs:Jh) (n:Int) (i:Nat),N9 (MT n bs) (n+ i)=bs[i]?
 |[],n,i=>rfl
 |b::bs,n,0=>by simp[MT,N9]
 |b::bs,n,i+ 1=>by
  have h:=OV bs (n+ 1) i;unfold N9 at h ⊢;rw[MT,YS,Yz (by show ¬n=n+ ((i+ 1:Nat):Int);lia),List.getElem?_cons_succ,<-h];show Option.map _ (List.find? (fun p=>decide (p.fst=n+ ((i+ 1:Nat):Int))) (MT (n+ 1) bs))=_;rw[show n+ ((i+ 1:Nat):Int)=n+ 1+ (i:Int) by lia]
theorem IH:∀ (bs:Jh) (st:List (Int×Int)) (n:Int),(∀p∈st,p.1 < n)->Ts st n bs=none
 |[],st,n,_=>rfl
 |b::bs,st,n,h=>by
  have g:=Pi h;have:=IH bs st (n+ 1) fun p a=>by have:=h p a;lia
  unfold Ts;rw[g];exact this
theorem NZ.Ok.tk(h:x.Ok):(x.ns.take x.mn).length=x.mn:=by rw[Yu];have:=h.m2;lia
theorem A4(h:x.Ok):MN x=⟨MT 0 (x.ns.take x.mn),[(0,(x.mn:Int))],none,(x.mn:Int)⟩:=by
 unfold MN MM DL Du;have:=h.m1;simp only[Op _ _ _ (fun p (h:p∈([]:List (Int×Int)))=>nomatch h),h.tk];have a:NJ [] 0 (0+ ((x.mn:Nat):Int))=[(0,(x.mn:Int))]:=by
  rw[VD];rfl
 rw[a]
 congr 1
 show max 0 (0+ (x.mn:Int))=_
 lia
theorem LH(h:x.Ok):(MN x).st.length=x.mn:=by rw[A4 h,QE,h.tk]
theorem Zk(h:x.Ok):(DL x).Ok:=by
 have h1:=h.l2;have h2:=h.m1;have f:=h.m2;have c:=h.tk;obtain⟨j,e⟩:=h.m8;refine⟨h.ok.1,h.ok.2.1,h.ok.2.2.1,h.ok.2.2.2,by show 1 <=(x.ns.take x.mn).length;lia,by show(x.ns.take x.mn).length <=4000;lia,fun b a=>h.by' b (YV a),Xd 0,rfl,?_⟩;show Eg 0 ((x.ns.take x.mn).length:Int) true=true;rw[c];simp[Eg]
 lia
theorem dC(h:x.Ok):(Rz x).Ok:=by
 have h1:=h.l2;have h2:=h.m1;have f:=h.m2;obtain⟨j,e⟩:=h.m8;have c:(x.ns.drop x.mn).length=x.ns.length - x.mn:=X1 ..;refine⟨h.ok.1,h.ok.2.1,h.ok.2.2.1,h.ok.2.2.2,by show 1 <=(x.ns.drop x.mn).length;lia,by show(x.ns.drop x.mn).length <=4000;lia,fun b a=>h.by' b (XG a),by show(0:Int) <=(x.mn:Int);lia,by show(x.mn:Int)%8=0;lia,?_⟩;show Eg (x.mn:Int) ((x.ns.drop x.mn).length:Int) false=true;rw[c];simp[Eg]
 lia
theorem yD(h:x.Ok):Ny "refuse" Du (DL x)= .keep (MN x):=by
 have e:MM (decide (("refuse":Str)="last")) Du (DL x)=MN x:=by
  rw[Yz (by decide +kernel)];rfl
 unfold Ny;rw[Y2 (by show ¬false=true;decide),Y3 rfl];have u:Ts Du.st (DL x).at' (DL x).ns=none:=IH _ _ _ fun p (h:p∈([]:List (Int×Int)))=>nomatch h
 rw[u];show(if Ma (MM (decide (("refuse":Str)="last")) Du (DL x)).en 0 (MM (decide (("refuse":Str)="last")) Du (DL x)).cv=[] then DS.whole (MM (decide (("refuse":Str)="last")) Du (DL x)) else DS.keep (MM (decide (("refuse":Str)="last")) Du (DL x)))=_;rw[e,Y2];rw[A4 h];simp[Ma,Rk,HG]
theorem gD(h:x.Ok):∃rs,Ny "refuse" (MN x) (Rz x)= .whole rs/\T9 rs=x.ns:=by
 have h1:=h.l2;have h2:=h.m1;have j:=h.m2;have a:(x.ns.drop x.mn).length=x.ns.length - x.mn:=X1 ..;have lt:∀p∈MT 0 (x.ns.take x.mn),p.1 < (x.mn:Int):=fun p b=>by
  have:=OB _ _ p b;rw[h.tk]at this;lia
 have e:MM (decide (("refuse":Str)="last")) (MN x) (Rz x)=⟨MT 0 x.ns,[(0,(x.ns.length:Int))],some (x.ns.length:Int),(x.mn:Int)⟩:=by
  rw[Yz (by decide +kernel),A4 h];unfold MM Rz;simp only[Op _ _ _ lt,a];have g:MT 0 (x.ns.take x.mn)++MT (x.mn:Int) (x.ns.drop x.mn)=MT 0 x.ns:=by
   have:=Sq (x.ns.take x.mn) (x.ns.drop x.mn) 0;rw[YJ,h.tk,VD]at this;exact this.symm
  have f:(x.mn:Int)+ ((x.ns.length - x.mn:Nat):Int)=(x.ns.length:Int):=by lia
  rw[g,f];have c:NJ [(0,(x.mn:Int))] (x.mn:Int) (x.ns.length:Int)=[(0,(x.ns.length:Int))]:=by
   have es:EO [(0,(x.mn:Int))] (x.mn:Int) (x.ns.length:Int)=⟨[],0,(x.ns.length:Int),[]⟩:=by
    show M7 ⟨[],(x.mn:Int),(x.ns.length:Int),[]⟩ (0,(x.mn:Int))=_;unfold M7;rw[Y2 (by show ¬(x.mn:Int) < (x.mn:Int);lia),Y2 (by show ¬(0:Int) > (x.ns.length:Int);lia)];show WS.mk [] (min (x.mn:Int) 0) (max (x.ns.length:Int) (x.mn:Int)) []=_;rw[show min (x.mn:Int) 0=0 by lia,show max (x.ns.length:Int) (x.mn:Int)=(x.ns.length:Int) by lia]
   unfold NJ;rw[es];rfl
  rw[c];rfl
 refine⟨⟨MT 0 x.ns,[(0,(x.ns.length:Int))],some (x.ns.length:Int),(x.mn:Int)⟩,?_,?_⟩
 .unfold Ny;rw [Y2 (by
   rw [A4 h];show ¬ decide ((x.mn : Int) + ((x.ns.drop x.mn).length : Int) <= (x.mn : Int)) = true;rw [a]; simp; lia), Y3 rfl]
  have u:Ts (MN x).st (Rz x).at' (Rz x).ns=none:=by
   rw[A4 h];exact IH _ _ _ lt
  rw[u,e];show(if Ma (some (x.ns.length:Int)) 0 [(0,(x.ns.length:Int))]=[] then DS.whole _ else DS.keep _)=_;rw[Y3 (by simp[Ma,Rk,HG])]
 .unfold T9;apply Wc;intro i;rw[Ya]
  by_cases hi:i < x.ns.length
  .rw[U8 (by simpa using hi)];have:=OV x.ns 0 i;rw[VD]at this;show some ((N9 (MT 0 x.ns) (i:Int)).getD 0)=_;rw[this,Y7 hi];rfl
  .rw[XU (by simpa using hi),XU (by lia)];rfl
end
def MJ:Ev->PyData
 | .gone k w=>.tuple [.str "gone",GC k.1 k.2.1 k.2.2,.str w]
 | .late k=>.tuple [.str "late",GC k.1 k.2.1 k.2.2]
 | .strange k=>.tuple [.str "strange",GC k.1 k.2.1 k.2.2]
 | .whole d=>.tuple [.str "whole",GC d.nu d.z1 d.z2,.list (d.ns.map PyData.int)]
section
variable{P:J9}{w:Jd}{K:Je}{mg:J5}{base:Jj}
def BG(K:Je)(G:Hp)(l:Jg)(evs:List Ev):Prop:=∃xs,G l=some (.lst xs)/\NC K G xs (evs.map MJ)
theorem uY{G:Hp}{l:Jg}{w:Str}:∀{ks:List Ky},TF G l ks w->BG K G l (ks.map fun k=>.gone k w):=by
 intro ks ⟨e,h1,h2,c⟩;refine⟨_,h2,?_⟩;clear h2
 induction e generalizing ks with
 |nil=>cases ks with
  |nil=>exact .nil
  |cons _ _=>simp at h1
 |cons t r ih=>
  cases ks with
  |nil=>simp at h1
  |cons k ks=>
   obtain⟨a,b⟩:=c 0 t k rfl rfl;exact .cons (.tup (N8.of a) (.cons (.str _) (.cons (E3 b) (.cons (.str _) .nil)))) (ih (by simpa using h1) fun i t k a b=>c (i+ 1) t k (by simpa using a) (by simpa using b))
end
def TZ(H G:Hp):Prop:=∀c o,H c=some o->(∀C dx fs,o≠ .ins C dx fs)->(∀l,o≠ .dT l)->(∀l,o≠ .dK l)->(∀oo l,o≠ .frz oo (.dT l))->G c=some o
theorem TZ.of{H G:Hp}(s:Jo H G):TZ H G:=fun c o h _ _ _ _=>s c o h
section
variable{P:J9}{w:Jd}{K:Je}{mg:J5}{base:Jj}
theorem Rd.klt{H G:Hp}{a:Jg}{xs:List V}(k:TZ H G)(h:Rd H a (.lst xs)):Rd G a (.lst xs):=by
 rcases h with h|⟨o,h⟩
 .exact .inl (k _ _ h (fun _ _ _ z=>by cases z) (fun _ z=>by cases z) (fun _ z=>by cases z) (fun _ _ z=>by cases z))
 .exact .inr ⟨o,k _ _ h (fun _ _ _ z=>by cases z) (fun _ z=>by cases z) (fun _ z=>by cases z) (fun _ _ z=>by cases z)⟩
theorem Rd.kltT{H G:Hp}{a:Jg}{xs:List V}(k:TZ H G)(h:Rd H a (.tup xs)):Rd G a (.tup xs):=by
 rcases h with h|⟨o,h⟩
 .exact .inl (k _ _ h (fun _ _ _ z=>by cases z) (fun _ z=>by cases z) (fun _ z=>by cases z) (fun _ _ z=>by cases z))
 .exact .inr ⟨o,k _ _ h (fun _ _ _ z=>by cases z) (fun _ z=>by cases z) (fun _ z=>by cases z) (fun _ _ z=>by cases z)⟩
mutual
theorem Dp.klt{H G:Hp}(k:TZ H G):∀{x:V} {d:PyData},Dp K H x d->Dp K G x d
 |_,_,.non=>.non
 |_,_,.bl b=>.bl b
 |_,_,.int i=>.int i
 |_,_,.str x=>.str x
 |_,_,.lst h t=>.lst (h.imp (Rd.klt k) id) (NC.klt k t)
 |_,_,.tup h t=>.tup (h.imp (Rd.kltT k) id) (NC.klt k t)
theorem NC.klt{H G:Hp}(k:TZ H G):∀{xs:List V} {ds:List PyData},NC K H xs ds->NC K G xs ds
 |_,_,.nil=>.nil
 |_,_,.cons h t=>.cons (Dp.klt k h) (NC.klt k t)
end
def DO:Ev->Prop
 | .gone k w=>Tp k/\(w="wait"\/w="unlike"\/w="room")
 | .late k=>Tp k
 | .strange k=>Tp k
 | .whole d=>Tp (d.nu,d.z1,d.z2)
theorem vP{ev:Ev}(h:DO ev):PyData.canLay0 (MJ ev)=true/\PyData.depth (MJ ev) <=8:=by
 have o:PyData.canLay0 (.str "gone")=true:=by decide +kernel
 have j:PyData.canLay0 (.str "late")=true:=by decide +kernel
 have i:PyData.canLay0 (.str "strange")=true:=by decide +kernel
 have g:PyData.canLay0 (.str "whole")=true:=by decide +kernel
 have f:PyData.canLay0 (.str "wait")=true:=by decide +kernel
 have e:PyData.canLay0 (.str "unlike")=true:=by decide +kernel
 have c:PyData.canLay0 (.str "room")=true:=by decide +kernel
 unfold PyData.canLay0 at o j i g f e c;cases ev with
 |gone k w=>
  obtain⟨h,p⟩:=h;rcases p with rfl|rfl|rfl <;> simp[MJ,PyData.canLay0,PyData.canLayAll0,PyData.depth,PyData.depthAll,h.2.2.1.ok,h.2.2.2.ok,o,f,e,c]
 |late k=>simp[MJ,PyData.canLay0,PyData.canLayAll0,PyData.depth,PyData.depthAll,h.2.2.1.ok,h.2.2.2.ok,j]
 |strange k=>simp[MJ,PyData.canLay0,PyData.canLayAll0,PyData.depth,PyData.depthAll,h.2.2.1.ok,h.2.2.2.ok,i]
 |whole d=>
  have hi:∀ns:List Int,PyData.canLayAll0 (ns.map PyData.int)=true/\PyData.depthAll (ns.map PyData.int) <=2:=fun ns=>by
   induction ns with
   |nil=>exact⟨rfl,by simp[PyData.depthAll]⟩
   |cons n r ih=>
    refine⟨by simp[PyData.canLayAll0,PyData.canLay0,ih.1],?_⟩;have:=ih.2;simp[PyData.depthAll,PyData.depth];omega
  obtain⟨a,b⟩:=hi d.ns;have h1:=h.2.2.1.ok;have h2:=h.2.2.2.ok;refine⟨by simp[MJ,PyData.canLay0,PyData.canLayAll0,h1,h2,g,a],?_⟩;simp[MJ,PyData.depth,PyData.depthAll];omega
theorem CC{evs:List Ev}(h:∀ev∈evs,DO ev):SeqAt.shaped (.list (evs.map MJ))=true:=by
 have h1:∀c:List Ev,(∀k∈c,DO k)->PyData.canLayAll0 (c.map MJ)=true/\PyData.depthAll (c.map MJ) <=9:=fun c=>by
  induction c with
  |nil=>exact fun _=>⟨rfl,by simp[PyData.depthAll]⟩
  |cons p r ih=>
   intro e;obtain⟨a,b⟩:=ih fun k f=>e k (.tail _ f)
   obtain⟨g,i⟩:=vP (e p (.head _));refine⟨by simp[PyData.canLayAll0,a,g],?_⟩;simp[PyData.depthAll];omega
 obtain⟨a,b⟩:=h1 evs h;simp[SeqAt.shaped,PyData.canLay0,a,PyData.depth];omega
theorem tI(ev:Ev):PyData.eqv (MJ ev) (MJ ev)=true:=by
 cases ev with
 |gone k w=>simp[MJ,PyData.eqv,PyData.eqvAll]
 |late k=>simp[MJ,PyData.eqv,PyData.eqvAll]
 |strange k=>simp[MJ,PyData.eqv,PyData.eqvAll]
 |whole d=>
  have h:PyData.eqv (.list (d.ns.map PyData.int)) (.list (d.ns.map PyData.int))=true:=ZM _;simp[MJ,PyData.eqv,PyData.eqvAll]at h ⊢;exact h
theorem Ze(evs:List Ev):PyData.eqv (.list (evs.map MJ)) (.list (evs.map MJ))=true:=by
 have h:∀c:List Ev,PyData.eqvAll (c.map MJ) (c.map MJ)=true:=fun c=>by
  induction c with
  |nil=>simp[PyData.eqvAll]
  |cons p r ih=>
   show(PyData.eqv (MJ p) (MJ p) && PyData.eqvAll (r.map MJ) (r.map MJ))=true;rw[tI,ih];rfl
 exact h evs
end
section
variable{P:J9}{w:Jd}{K:Je}{mg:J5}{base:Jj}
def Gx(k:Ky):PyData:=GC k.1 k.2.1 k.2.2
theorem C3{G:Hp}:∀{zs:List V} {ks:List Ky},Pw (fun x k=>∃t,x=V.ref t/\G t=some (.tup (TD k))) zs ks->NC K G zs (ks.map Gx)
 |[],[],_=>.nil
 |[],_::_,h=>absurd h.1 (by simp)
 |_::_,[],h=>absurd h.1 (by simp)
 |x::zs,k::ks,h=>by
  obtain⟨t,rfl,ht⟩:=h.2 0 x k rfl rfl;exact .cons (E3 ht) (C3 ⟨by have:=h.1;simpa using this,fun j x y a b=>h.2 (j+ 1) x y (by simpa using a) (by simpa using b)⟩)
theorem Hj{ks:List Ky}(h:∀k∈ks,Tp k):SeqAt.shaped (.list (ks.map Gx))=true:=by
 have h1:∀c:List Ky,(∀k∈c,Tp k)->PyData.canLayAll0 (c.map Gx)=true:=fun c=>by
  induction c with
  |nil=>exact fun _=>rfl
  |cons p r ih=>
   intro b;have a:=b p (.head _);simp[PyData.canLayAll0,PyData.canLay0,Gx,a.2.2.1.ok,a.2.2.2.ok,ih fun k e=>b k (.tail _ e)]
 have h2:∀c:List Ky,PyData.depthAll (c.map Gx) <=6:=fun c=>by
  induction c with
  |nil=>simp[PyData.depthAll]
  |cons p r ih=>simp[PyData.depthAll,PyData.depth,Gx];omega
 have f:=h2 ks;simp[SeqAt.shaped,PyData.canLay0,h1 ks h,PyData.depth];omega
theorem Pz(ks:List Ky):PyData.eqv (.list (ks.map Gx)) (.list (ks.map Gx))=true:=by
 have h:∀c:List Ky,PyData.eqvAll (c.map Gx) (c.map Gx)=true:=fun c=>by
  induction c with
  |nil=>simp[PyData.eqvAll]
  |cons p r ih=>
   show(PyData.eqv (Gx p) (Gx p) && PyData.eqvAll (r.map Gx) (r.map Gx))=true;unfold Gx at ih ⊢;rw[uC,ih];rfl
 exact h ks
theorem Bj.zs{G:Hp}{l:Jg}{ks:List Ky}(h:Bj G l ks):∃zs,G l=some (.lst zs)/\Pw (fun x k=>∃t,x=V.ref t/\G t=some (.tup (TD k))) zs ks:=by
 obtain⟨f,h1,h2,e⟩:=h;refine⟨_,h2,by rw[Y1];exact h1,fun j x y a b=>?_⟩;rw[Ya]at a;obtain⟨t,c,rfl⟩:=Yl.mp a;exact⟨t,rfl,e j t y c b⟩
theorem PX{ks js:List Ky}(h1:ks.Pairwise fun a b=>Mj b a=false)(h2:js.Pairwise fun a b=>Mj b a=false)(h:ks.Perm js):ks=js:=
 Ws (le:=fun a b=>Mj b a=false) (fun a b _ _ x y=>HH y x) h1 h2 h
inductive QZ(C:Jg)(vs:List V)(H:Hp)(Q:VK)(E:XK):Prop|mk (ru out ag:Str) (wt sp:Int) (_:vs=[.str ru,.int wt,.int sp,.str out,.str ag]) (_:(ru="first"\/ru="last"\/ru="refuse")) (_:1 <=wt) (_:1 <=sp) (_:(out="oldest"\/out="widest"\/out="own")) (_:(ag="fresh"\/ag="rest")) (_:∀m dr df dw G,Jo H G->H m=none->H dr=none->H df=none->H dw=none->(∀CR,Jr C CR G m dr df dw ⟨ru,wt,sp,out,ag,0,[],[]⟩)->Q (.ref m) G)
theorem xA{C:Jg}(F:Rj P w K mg base "Room" C 3 ["self","rule","wait","space","out","again"] [] (Sv C)):Gg P w K mg base "Room" 3 (QZ C):=by
 refine F.ct fun vs H Q h y dx G a hdx hn s g=>?_
 obtain⟨ru,out,z,wt,sp,rfl,h1,h2,n,j,i,q⟩:=h;exact⟨y,dx,ru,out,z,wt,sp,rfl,g,h1,h2,n,j,i,fun dr df dw G2 v r p b f=>⟨rfl,q y dr df dw G2 (fun c o e=>b c o (s c o e) (Te e a)) a (s.free v) (s.free r) (s.free p) f⟩⟩
theorem uN{a b:Int×Ky}(h1:JS b a=false)(h2:JS a b=false):a=b:=by
 have e:¬JS b a=true:=by rw[h1];exact Yg
 have c:¬JS a b=true:=by rw[h2];exact Yg
 rw[To]at e c;have f:a.1=b.1:=by
  have j:=fun z=>e (.inl z)
  have i:=fun z=>c (.inl z)
  omega
 have h:Mj b.2 a.2=false:=X6.mpr fun z=>e (.inr ⟨f.symm,z⟩)
 have g:Mj a.2 b.2=false:=X6.mpr fun z=>c (.inr ⟨f,z⟩)
 exact Ui f (HH g h)
theorem vX{ks js:List (Int×Ky)}(h1:ks.Pairwise fun a b=>JS b a=false)(h2:js.Pairwise fun a b=>JS b a=false)(h:ks.Perm js):ks=js:=
 Ws (le:=fun a b=>JS b a=false) (fun a b _ _ x y=>uN x y) h1 h2 h
theorem FQ{C CR r dr df dw:Jg}{H G:Hp}{R R0:Js}(h:Jr C CR H r dr df dw R)(e0:R0.es=R.es)(k:MI R0 r dr df dw H G):TZ H G:=fun c o a f b g _=>k c o a fun z=>by
 obtain⟨dx,fs,j,_⟩:=h.ex;rcases z with z|z|z|z|⟨e,he,z⟩
 .rw[z,j]at a;cases a;exact f _ _ _ rfl
 .rw[z,h.dR]at a;cases a;exact b _ rfl
 .rw[z,h.dF]at a;cases a;exact b _ rfl
 .rw[z,h.dW]at a;cases a;exact b _ rfl
 .rw[e0]at he;have r:=h.rd e he;obtain⟨_,_,i,_⟩:=r.ex;rcases z with z|z
  .rw[z,i]at a;cases a;exact f _ _ _ rfl
  .rw[z,r.dk]at a;cases a;exact g _ rfl
theorem TZ.l{H G:Hp}(k:TZ H G){c:Jg}{xs:List V}(h:H c=some (.lst xs)):G c=some (.lst xs):=k _ _ h (fun _ _ _ z=>by cases z) (fun _ z=>by cases z) (fun _ z=>by cases z) (fun _ _ z=>by cases z)
theorem TZ.t{H G:Hp}(k:TZ H G){c:Jg}{xs:List V}(h:H c=some (.tup xs)):G c=some (.tup xs):=k _ _ h (fun _ _ _ z=>by cases z) (fun _ z=>by cases z) (fun _ z=>by cases z) (fun _ _ z=>by cases z)
theorem BG.klt{H G:Hp}(k:TZ H G){l:Jg}{evs:List Ev}(h:BG K H l evs):BG K G l evs:=by
 obtain⟨xs,e,d⟩:=h;exact⟨xs,k.l e,NC.klt k d⟩
end
theorem Cw(out:Str)(sp:Int)(own:Ky):∀ (n:Nat) (xs:List AE),(Tt out sp own n xs).1=xs.filter fun x=> !decide (x.1∈(Tt out sp own n xs).2)
 |0,xs=>by
  show xs=_;rw[Xc.mpr fun x _=>by simp[Tt]]
 |n+ 1,xs=>by
  unfold Tt
  split
  .rw[Xc.mpr fun x _=>by simp]
  .show(Tt out sp own n (JD xs (MP out sp own xs))).1=_;rw[Cw out sp own n];show List.filter _ (List.filter _ _)=_;rw[VW];apply XJ;intro x _
   by_cases h1:x.1=MP out sp own xs <;> by_cases h2:x.1∈(Tt out sp own n (JD xs (MP out sp own xs))).2 <;> simp[h1,h2]
theorem ZP{xs:List AE}{k:Ky}(h:k∈xs.map (·.1)):(JD xs k).length < xs.length:=by
 obtain⟨x,a,e⟩:=Y5.mp h;unfold JD;refine Nat.lt_of_le_of_ne (YB _ _) fun z=>?_
 have:=Xc.mp (YM.eq_of_length z) x a;simp[e]at this
theorem OX{out:Str}{sp:Int}{own:Ky}:∀ (n:Nat) (xs:List AE),xs.length < n->(xs.map (·.1)).Nodup->own∈xs.map (·.1)\/T3 xs <=sp->T3 (JD xs own) <=sp->T3 (Tt out sp own n xs).1 <=sp
 |0,xs,h,_,_,_=>by omega
 |n+ 1,xs,h,hn,ho,hl=>by
  unfold Tt
  split
  .assumption
  .rename_i ht
   have ho:=ho.resolve_right ht;have b:=S9 (out:=out) (sp:=sp) ho fun hs=>Lo hn (by omega) hs
   have c:=ZP b;refine OX n _ (by omega) (hn.sublist (Xs _ YM)) ?_ ?_
   .by_cases e:own=MP out sp own xs
    .refine .inr ?_;rw[<-e];exact hl
    .refine .inl ?_;obtain⟨x,a,ex⟩:=Y5.mp ho;exact Y5.mpr ⟨x,Yr.mpr ⟨a,by rw[ex];simpa using e⟩,ex⟩
   .exact XR (BZ (List.Sublist.filter _ YM)) hl
structure D9(ls:List NZ)(R:Js)(tm:Int)(n:Nat):Prop where
 ru:R.ru="refuse"
 wt:150 <=R.wt
 now:R.now <=tm
 es:∀e∈R.es,∃x∈ls,e.ky=x.ky/\e.rs=MN x/\0 <=e.first/\e.first <=tm
 tot:T3 (Jp R.es) <=R.sp
 len:R.es.length <=n
section
variable{ls:List NZ}{R:Js}{tm t:Int}{n:Nat}{x:NZ}{C CR m dr df dw d:Jg}{H G:Hp}
theorem D9.sz(h:D9 ls R tm n)(L:RX ls):∀e∈R.es,e.rs.st.length <=10000/\e.rs.cv.length <=800/\Ms e.rs:=fun e c=>by
 obtain⟨x,b,_,h2,_⟩:=h.es e c;have a:=L.ok x b;have:=a.m2;have:=a.l2;rw[h2];exact⟨by rw[LH a];lia,by rw[A4 a];show 1 <=800;decide,Ms.zero.step false (Zk a)⟩
theorem D9.kok(h:D9 ls R tm n)(L:RX ls):∀e∈R.es,Tp e.ky:=fun e b=>by
 obtain⟨x,a,h1,_⟩:=h.es e b;rw[h1];exact(L.ok x a).ok
theorem D9.at(h:D9 ls R tm n)(ht:t < 150):Dj R t={R with now:=t}/\DA {R with now:=t}=[]:=by
 have b:∀e∈R.es,Nn {R with now:=t} e=false:=fun e a=>by
  obtain⟨x,_,_,_,h1,_⟩:=h.es e a;have h2:=h.wt;unfold Nn;exact Yz (by show ¬e.first+ R.wt <=t;lia)
 constructor
 .unfold Dj A3;have:R.es.filter (fun e=> !Nn {R with now:=t} e)=R.es:=Xc.mpr fun e a=>by rw[b e a];rfl
  show Js.mk R.ru R.wt R.sp R.out R.ag t (R.es.filter fun e=> !Nn {R with now:=t} e) R.ws=_;rw[this]
 .unfold DA;have:R.es.filter (Nn {R with now:=t})=[]:=List.filter_eq_nil_iff.mpr fun e a=>by rw[b e a];exact Yg
  show(R.es.filter (Nn {R with now:=t})).map _=[];rw[this];rfl
theorem Qe{k:Ky}(h:k∉R.ws.map (·.1)):Ae R k=false:=by
 have:Aa R.ws k=none:=by
  unfold Aa;rw[XY.mpr fun y a=>by simp only[Yd];exact fun z=>h (Y5.mpr ⟨y,a,z⟩)];rfl
 unfold Ae;rw[this,WH]
theorem D9.out1(h:D9 ls R tm n)(L:RX ls)(hx:x∈ls)(hn:x.ky∉R.es.map (·.ky))(hw:R.ws=[])(ht:t < 150):
  Mw (Dj R t) (DL x)=((Tt R.out R.sp x.ky ((Jp R.es).length+ 2) (Jp R.es++[(x.ky,MN x,t)])).1,[],(Tt R.out R.sp x.ky ((Jp R.es).length+ 2) (Jp R.es++[(x.ky,MN x,t)])).2.map fun k=>.gone k "room"):=by
 rw[(h.at ht).1];unfold Mw;have a:(DL x).key=x.ky:=rfl;rw[a,Qe (by show x.ky∉R.ws.map (·.1);rw[hw];exact List.not_mem_nil),Y2 Yg];show(match Ny R.ru (Mu R.es x.ky) (DL x) with| .str=>_| .unl _=>_| .keep rs=>_| .whole rs=>_)=_;rw[h.ru,F7 hn,yD (L.ok x hx)];have es:No (Jp R.es) x.ky (MN x) t=Jp R.es++[(x.ky,MN x,t)]:=by
  unfold No;rw[Y2 (by rw[Gd];exact hn)]
 show((EB {R with now:=t} x.ky (No (Jp R.es) x.ky (MN x) t)).1,R.ws,_)=_;rw[hw];unfold EB;rw[es,List.length_append];rfl
theorem D9.next1(h:D9 ls R tm n)(L:RX ls)(hR:Jr C CR H m dr df dw R)(hx:x∈ls)(hn:x.ky∉R.es.map (·.ky))(ht:tm <=t)(t0:0 <=t){R':Js}(hN:M6 C CR H G m dr df dw {R with now:=t} R' (Tt R.out R.sp x.ky ((Jp R.es).length+ 2) (Jp R.es++[(x.ky,MN x,t)])).1 []):D9 ls R' t (n+ 1):=by
 obtain⟨v,p2,s,p4,p5,r⟩:=hN.pr;have f:∀e∈R'.es,(e.ky,e.rs,e.first)∈Jp R.es++[(x.ky,MN x,t)]:=fun e c=>by
  have:(e.ky,e.rs,e.first)∈Jp R'.es:=Y5.mpr ⟨e,c,rfl⟩;rw[hN.es,Cw]at this;exact(Yr.mp this).1
 refine⟨v.trans h.ru,by rw[p2];exact h.wt,by rw[r];exact Xd _,fun e c=>?_,?_,?_⟩
 .rcases Yq.mp (f e c) with z|z
  .obtain⟨e0,j,q⟩:=Y5.mp z;simp only[Uy]at q;obtain⟨p,g,a1,a2,a3,a4⟩:=h.es e0 j;exact⟨p,g,q.1.symm.trans a1,q.2.1.symm.trans a2,by lia,by lia⟩
  .have q:=Yb.mp z;simp only[Uy]at q;exact⟨x,hx,q.1,q.2.1,by lia,by lia⟩
 .rw[hN.es,s];have i:((Jp R.es++[(x.ky,MN x,t)]).map (·.1)).Nodup:=by
   rw[Yh,Gd,Um];exact⟨hR.nk,by simp,fun a w b o z=>by simp at o;subst z;subst o;exact hn w⟩
  refine OX _ _ (by simp) i (.inl (by simp)) ?_;rw[PV (by rw[Gd];exact hn)];exact h.tot
 .have:=YR List.length hN.es;rw[Cw]at this;have h2:=YB (fun y:AE=> !decide (y.1∈(Tt R.out R.sp x.ky ((Jp R.es).length+ 2) (Jp R.es++[(x.ky,MN x,t)])).2)) (Jp R.es++[(x.ky,MN x,t)]);have h3:(Jp R'.es).length=R'.es.length:=Y1 ..;have h4:(Jp R.es++[(x.ky,MN x,t)]).length=R.es.length+ 1:=by simp[Jp]
  have:=h.len
  lia
theorem Jr.offD1{kvs:List (List JL×V)}(h:Jr C CR H m dr df dw R)(hd:H d=some (.dT kvs))(n1:d≠dr)(n2:d≠df)(n3:d≠dw)(b:Nd d H G):Jr C CR G m dr df dw R:=by
 obtain⟨dx,fs,e,r⟩:=h.ex;exact⟨⟨dx,fs,b _ _ e (Jm e hd nofun),r⟩,b _ _ h.dR (Ne.symm n1),b _ _ h.dF (Ne.symm n2),b _ _ h.dW (Ne.symm n3),h.n1,h.n2,h.n3,fun e a=>(h.rd e a).offD (fun c o q n=>b c o q n) hd,h.np,h.na,h.nk⟩
theorem Jr.dTN{c:Jg}{kvs:List (List JL×V)}(h:Jr C CR H m dr df dw R)(hc:H c=some (.dT kvs))(n1:c≠dr)(n2:c≠df)(n3:c≠dw):¬EV R m dr df dw c:=fun z=>by
 obtain⟨dx,fs,b,_⟩:=h.ex;rcases z with z|z|z|z|⟨e,he,z⟩
 .rw[z,b]at hc;cases hc
 .exact n1 z
 .exact n2 z
 .exact n3 z
 .have r:=h.rd e he;obtain⟨_,_,a,_⟩:=r.ex;rcases z with z|z
  .rw[z,a]at hc;cases hc
  .rw[z,r.dk]at hc;cases hc
theorem Ds.keep{ks:List KE}{R0:Js}(h:Ds H d ks)(hR:Jr C CR H m dr df dw R)(e0:R0.es=R.es)(n1:d≠dr)(n2:d≠df)(n3:d≠dw)(k:MI R0 m dr df dw H G):Ds G d ks:=
 ⟨k _ _ h.dd (fun z=>hR.dTN h.dd n1 n2 n3 (by unfold EV at z ⊢;rw[e0]at z;exact z)),fun e a=>(FQ hR e0 k).t (h.tt e a),h.nk,h.ok⟩
theorem KP{kvs:List (List JL×V)}(hd:H d=some (.dT kvs))(b:Nd d H G):TZ H G:=fun c o a _ e _ _=>b c o a fun z=>by rw[z,hd]at a;cases a;exact e _ rfl
theorem TZ.trans{H1 H2 H3:Hp}(a:TZ H1 H2)(b:TZ H2 H3):TZ H1 H3:=fun c o h i g f e=>b c o (a c o h i g f e) i g f e
theorem TZ.tab{T:Jg}{q:Str}(k:TZ H G)(t:Mx H T q):Mx G T q:=t.of fun b o h z=>k b o h (fun _ _ _ y=>by rcases z with⟨_,z⟩|⟨_,z⟩ <;> rw[z]at y <;> cases y) (fun _ y=>by rcases z with⟨_,z⟩|⟨_,z⟩ <;> rw[z]at y <;> cases y) (fun _ y=>by rcases z with⟨_,z⟩|⟨_,z⟩ <;> rw[z]at y <;> cases y) (fun _ _ y=>by rcases z with⟨_,z⟩|⟨_,z⟩ <;> rw[z]at y <;> cases y)
theorem E8.klt{v:V}(k:TZ H G)(h:E8 H v x):E8 G v x:=by
 obtain⟨t,tk,b,h1,h2,c,a⟩:=h;exact⟨t,tk,b,h1,k.t h2,k.t c,k.l a⟩
end
section
variable{P:J9}{w:Jd}{K:Je}{mg:J5}{base:Jj}
inductive O0(C:Jg)(vs:List V)(H:Hp)(Q:VK)(E:XK):Prop|mk (d:PD) (b:Jg) (_:vs=[.int d.nu,.str d.z1,.str d.z2,.int d.at',.ref b,.bl d.mo]) (_:d.k=false) (_:d.Ok) (_:H b=some (.lst (d.ns.map V.int))) (_:∀p b' G,H p=none->H b'=none->Jo H G->NH C G p b' d->Q (.ref p) G)
theorem Q3{C:Jg}(F:Rj P w K mg base "Piece" C 6 ["self","number","sender","goal","at","body","more","keep"] [.bl false] (AH C)):Gg P w K mg base "Piece" 6 (O0 C):=by
 refine F.ct fun vs H Q h y dx G a z hn s j=>?_
 obtain⟨d,b,rfl,g,ok,c,q⟩:=h;obtain⟨f,p⟩:=Ss (k:=d.k) ok.n0 ok.n1 ok.k1 ok.k2 (s b _ c) ok.l1 ok.l2 ok.by'
 exact⟨y,dx,_,_,_,d.at',b,d.mo,_,_,by rw[g];rfl,j,f,p,by simp[BD,ok.a0,ok.a8],s b _ c,by rw[Y1];exact ok.rm,fun H' v n h1 h2 i r=>⟨rfl,q y v H' a (s.free n) (fun d o e=>r d o (s d o e) (Te e a)) ⟨ok,i,h2⟩⟩⟩
def Lf(H G:Hp):Prop:=∀c o,H c=some o->(∀C dx fs,o≠ .ins C dx fs)->(∀l,o≠ .dT l)->(∀l,o≠ .dK l)->(∀oo l,o≠ .frz oo (.dT l))->(∀ps,o≠ .tbl ps)->G c=some o
structure DW(C CR:Jg)(H:Hp)(m dr df dw d:Jg)(ls:List NZ)(R:Js)(ks:List KE)(tm:Int)(n:Nat):Prop where
 ro:Jr C CR H m dr df dw R
 kd:Ds H d ks
 ab:Tn ks (Jp R.es)
 n1:d≠dr
 n2:d≠df
 n3:d≠dw
 st:D9 ls R tm n
theorem DW.mono{C CR m dr df dw d:Jg}{H G:Hp}{ls:List NZ}{R:Js}{ks:List KE}{tm:Int}{n:Nat}(h:DW C CR H m dr df dw d ls R ks tm n)(s:Jo H G):DW C CR G m dr df dw d ls R ks tm n:=⟨h.ro.mono s,h.kd.mono s,h.ab,h.n1,h.n2,h.n3,h.st⟩
theorem Z7{H G:Hp}{T:Jg}{q:Str}(tb:Mx H T q)(b:Nd T H G):∀c o,H c=some o->(∀ps,o≠ .tbl ps)->G c=some o:=fun c o h n=>b c o h fun z=>by
 obtain⟨ps,e,_⟩:=tb.ex;rw[z,e]at h;exact n ps (Option.some.inj h).symm
theorem DW.tab{C CR m dr df dw d:Jg}{H G:Hp}{ls:List NZ}{R:Js}{ks:List KE}{tm:Int}{n:Nat}(h:DW C CR H m dr df dw d ls R ks tm n)(k:∀c o,H c=some o->(∀ps,o≠ .tbl ps)->G c=some o):DW C CR G m dr df dw d ls R ks tm n:=by
 have r:=h.ro;obtain⟨dx,fs,e,j⟩:=r.ex;refine⟨⟨⟨dx,fs,k _ _ e (fun _ z=>by cases z),j⟩,k _ _ r.dR (fun _ z=>by cases z),k _ _ r.dF (fun _ z=>by cases z),k _ _ r.dW (fun _ z=>by cases z),r.n1,r.n2,r.n3,fun e a=>?_,r.np,r.na,r.nk⟩,⟨k _ _ h.kd.dd (fun _ z=>by cases z),fun e a=>k _ _ (h.kd.tt e a) (fun _ z=>by cases z),h.kd.nk,h.kd.ok⟩,h.ab,h.n1,h.n2,h.n3,h.st⟩;have rd:=r.rd e a;obtain⟨g,f,p,i⟩:=rd.ex;obtain⟨xs,b,s⟩:=rd.cv;exact⟨⟨g,f,k _ _ p (fun _ z=>by cases z),i⟩,k _ _ rd.dk (fun _ z=>by cases z),xs,k _ _ b (fun _ z=>by cases z),s.tk fun t ys q=>k _ _ q (fun _ z=>by cases z)⟩
theorem Pe(ks:List KE):(MU ks).map (·.1)=(ks.map (·.ky)).map fun k=>[Sum.inl k.1,Sum.inr k.2.1,Sum.inr k.2.2]:=by
 unfold MU;rw[Yw,Yw];rfl
theorem uL{out:Str}{sp:Int}{own:Ky}(xs:List AE):MP out sp own xs=own\/MP out sp own xs∈xs.map (·.1):=by
 unfold MP
 split
 .exact .inl rfl
 .cases h:MZ (prs out own xs) with
  |none=>exact .inl rfl
  |some q=>exact .inr (QG (Qz h)).1
theorem Qw{out:Str}{sp:Int}{own k:Ky}:∀ (n:Nat) (xs:List AE),k∈(Tt out sp own n xs).2->k=own\/k∈xs.map (·.1)
 |0,xs,h=>nomatch h
 |n+ 1,xs,h=>by
  unfold Tt at h
  split at h
  .exact nomatch h
  .rcases Ym.mp h with z|z
   .rw[z];exact uL xs
   .rcases Qw n _ z with y|y
    .exact .inl y
    .obtain⟨x,hx,e⟩:=Y5.mp y;exact .inr (Y5.mpr ⟨x,(Yr.mp hx).1,e⟩)
theorem rV{CL:Jg}{H G:Hp}{l:Jg}{ks:List Ky}{w:Str}(h:Ez CL H G l (ks.map fun k=>.gone k w)):BG K G l (ks.map fun k=>.gone k w):=by
 obtain⟨xs,e,pw⟩:=h;refine⟨xs,e,?_⟩;clear e
 induction ks generalizing xs with
 |nil=>cases xs with
  |nil=>exact .nil
  |cons _ _=>exact absurd pw.1 (by simp)
 |cons k ks ih=>cases xs with
  |nil=>exact absurd pw.1 (by simp)
  |cons x xs=>
   obtain⟨t,tk,rfl,h1,h2⟩:=pw.2 0 x _ rfl rfl;exact .cons (.tup (N8.of h1) (.cons (.str _) (.cons (E3 h2) (.cons (.str _) .nil)))) (ih xs ⟨by have:=pw.1;simpa using this,fun j x y a b=>pw.2 (j+ 1) x y (by simpa using a) (by simpa using b)⟩)
inductive On(C CR T:Jg)(vs:List V)(H:Hp)(Q:VK)(E:XK):Prop|mk (m dr df dw d l:Jg) (R:Js) (xs:List V) (ls:List NZ) (c:Int) (_:vs=[.ref m,.ref l,.int c,.ref d,.int R.sp,.str R.out]) (_:DW C CR H m dr df dw d ls R [] 0 0) (_:R.ws=[]) (_:H l=some (.lst xs)) (_:Pw (E8 H) xs ls) (_:RX ls) (_:Mx H T B5) (_:∀ (tm:Int) (R':Js) (ks':List KE) G,0 <=tm->tm <=100->DW C CR G m dr df dw d ls R' ks' tm 100->R'.ws=[]->R'.wt=R.wt->R'.sp=R.sp->R'.ag=R.ag->G l=some (.lst xs)->Pw (E8 G) xs ls->Mx G T B5->Lf H G->Q (.int tm) G)
abbrev IW:Stmt:=top 52
theorem Ej:Nv ["_law_room","_law_letters_here","_law_cell","_law_kept","_law_space","_law_out","_law_time","_law_k","_law_mine","_law_body","_law_many","_law_piece","_law_due"] ["_law_room","_law_letters_here","_law_cell","_law_kept","_law_space","_law_out"] (Jl IW):=by walk_at"e"
theorem rK{f C CR CP CL T:Jg}{fd:Jb}(F:NK K "_law_begun" "_law_begun" IW f fd)(B:Bt mg)(B2:RF mg)(Mc:Tc P w K mg base "_law_order" 9 ["_law_many","_law_cell"] [] (H9 T))(Nm:Tc P w K mg base "_law_mixed" 1 ["_law_cell","_law_k"] [] AQ)(Md:Gg P w K mg base "Piece" 6 (O0 CP))(MC:Tc P w K mg base "_law_room_made" 5 ["_law_kept","_law_mine","_law_many","_law_time","_law_space","_law_out"] [] Pg)(NY:T4 P w K mg base C "come" 9 ["self","time","piece"] [] (Fa C CR CP CL))(NV:T4 P w K mg base C "kept" 1 ["self"] [] (Hm C CR)):Ju P w K mg base N7 10 f fd ["_law_room","_law_letters_here","_law_cell","_law_kept","_law_space","_law_out"] (On C CR T):=by
 refine F.ok Ej (fun vs H Q E h=>?_) (fun cdv A outer s H vs Q E hr h=>?_)
 .obtain⟨m,dr,df,dw,d,l,R,xs,ls,c,rfl,_⟩:=h;rfl
 .obtain⟨m,dr,df,dw,d,l,R,xs,ls,c,rfl,W,hws,hl,hx,L,tb,q⟩:=h;refine⟨_,(JE (Tr 6 Ej JI) (JE (Ed Xh rfl (GS (K:=K) rfl (Tb Mc hr.m rfl (DZ (Tu (Bd (B4 (K:=K) rfl)) B.len (Jv 1 Jt)) (Jv 2 Jt)))) (Dr 7 Ej) (JE (Qr (EL K (Jn 1) (Jn 7)) (ET (K:=K) (n:=3) rfl rfl (DK (Dr 8 Ej) (DK (Dr 9 Ej) (DK (Dr 10 Ej) EJ))))) (JE (Tr 6 Ej (Na (NL Mo) (Jn 6) (Na (dI BX) (Na (dI Dd) (Tb Nm hr.m rfl (Jv 2 (Nc (hs:=GR) (Na (NL Mo) JI (Jn 7)) Jt))) JI) JI))) (JE (Tr 11 Ej (Eo Md hr.m rfl (Dq (M5 K (Jn 8) JI) (Dq (M5 K (Jn 8) JI) (Dq (M5 K (Jn 8) JI) (TH JI (Dq (KO (HV (Km (K:=K) rfl)) (Jn 9) SI (CH (Jn 10))) (TH Er Jt)))))))) (JE (Tr 12 Ej (Tb MC hr.m rfl (Jv 3 (Jv 8 (Jv 10 (Jv 6 (Jv 4 (Jv 5 Jt)))))))) (JM (Tg (PW.pt (RD (Tx (Ao (K:=K) (Room.units hr) rfl) (DM (Jn 0) NY hr.m (Jv 6 (Jv 11 Jt))) (Jn 12)) (RJ (Tx (Ao (K:=K) (Room.units hr) rfl) (Dc (Jn 0) NV hr.m) (Tu (QQ rfl (Room.units hr)) B2.sorted (DZ (Ap (K:=K) rfl YN Vl WF Zq (Jn 3)) Jt)))))) (JM (Nk DY)) TC))))))) (JM (Nk (Jn 6))))),?_⟩;refine Nl fun N hN=>?_
  walk_at"r";refine hN _ _ ?_;clear hN N;refine Nl fun N hN=>?_
  walk_at"r";refine⟨xs,.inl (JA.of hl),xs.length,c,rfl,by rw[hx.1];have:=L.n2;lia,tb,fun lo os G1 hlo b1 tb1 pm e1=>⟨lo,rfl,⟨_,JA.of e1⟩,?_⟩⟩;have kt:=Z7 tb b1;have W1:=W.tab kt;have hl1:=kt _ _ hl (fun _ z=>by cases z);have hx1:Pw (E8 G1) xs ls:=hx.imp fun v x zz=>by rcases zz with⟨t,tk,b,h1,h2,h3,h4⟩;exact ⟨t,tk,b,h1,kt _ _ h2 (fun _ z=>by cases z),kt _ _ h3 (fun _ z=>by cases z),kt _ _ h4 (fun _ z=>by cases z)⟩
  rw[hx.1]at pm;have hol:os.length=ls.length:=by rw[pm.length_eq,YT]
  have hnv:(Es os).length=os.length:=Y1 ..;obtain⟨Pv,ePv⟩:∃Pv:Nat->L2.St->Hp->Prop,Pv=fun(i:Nat) σ' G=>∃ (tm:Int) (R':Js) (ks':List KE) (v1 v2 v3 v4 v5 v6:Option V),σ'=[some (.ref m),some (.ref l),some (.int c),some (.ref d),some (.int R.sp),some (.str R.out),some (.int tm),v1,v2,v3,v4,v5,v6]/\0 <=tm/\tm <=(i:Int)/\DW C CR G m dr df dw d ls R' ks' tm i/\R'.ws=[]/\(R'.wt=R.wt/\R'.sp=R.sp/\R'.out=R.out/\R'.ag=R.ag)/\TZ G1 G/\∀e∈R'.es,∃j∈os.take i,∃y,ls[j]?=some y/\e.ky=y.ky:=⟨_,rfl⟩
  have he0:R.es=[]:=UE (Nat.le_zero.mp W.st.len);refine Bm (xs:=Es os) Pv (by rw[ePv];exact⟨0,R,[],_,_,_,_,_,_,rfl,Xd _,Xd _,W1,hws,⟨rfl,rfl,rfl,rfl⟩,fun c o h _ _ _ _=>h,fun e he=>by rw[he0]at he;exact nomatch he⟩) ?_ ?_ ?_ <;> rw[ePv]
  .rintro i σ' G _ ⟨tm,R',ks',v1,v2,v3,v4,v5,v6,rfl,_,_,_,_,_,kl,_⟩;exact JA.of (kl.l e1)
  .rintro i v σ' G hv ⟨tm,R',ks',v1,v2,v3,v4,v5,v6,rfl,t0,t1,g,hwi,⟨f1,f2,f3,f4⟩,kl,hky⟩;rw[<-ePv];unfold Es at hv;rw[Ya]at hv;obtain⟨j,hj,rfl⟩:=Yl.mp hv;have hjm:=Yk hj;have hjl:j < ls.length:=by have:=pm.mem_iff.mp hjm;simpa using this
   have hil:i < os.length:=(Y4.mp hj).1;have hgx:xs[j]?=some (xs[j]'(by rw[hx.1];exact hjl)):=Y7 _;obtain⟨x,hgl,hLx⟩:=hx1.get hgx;obtain⟨t,tk,b,hxe,ht1,htk1,hb1⟩:=hLx;have hxm:=Yk hgl;have ox:=L.ok x hxm;have ln2:=L.n2;have hl3:=kl.l hl1;have ht3:=kl.t ht1;have htk3:=kl.t htk1;have hb3:=kl.l hb1;have hnk:x.ky∉R'.es.map (·.ky):=fun z=>by
    obtain⟨e,he,ek⟩:=Y5.mp z;obtain⟨j',hj',y,hy,ey⟩:=hky e he;have h1:j'≠j:=fun z=>by
     have nd:os.Nodup:=pm.nodup_iff.mpr List.nodup_range;rw[z]at hj';obtain⟨i',hi',hi2⟩:=List.mem_take_iff_getElem.mp hj';have h3:=(Y4.mp hj).2;rw[XS,YO]at nd;exact nd i' i (by lia) hil (by lia) (hi2.trans h3.symm)
    have nd:=L.nd;rw[XS,YO]at nd;obtain⟨l1,g1⟩:=Y4.mp hy;obtain⟨l2,g2⟩:=Y4.mp hgl;have ee:y.ky=x.ky:=ey.symm.trans ek;rcases Nat.lt_or_gt_of_ne h1 with z|z
    .exact nd j' j (by rw[Y1];exact l1) (by rw[Y1];exact l2) z (by rw[Xk,Xk,g1,g2];exact ee)
    .exact nd j j' (by rw[Y1];exact l2) (by rw[Y1];exact l1) z (by rw[Xk,Xk,g1,g2];exact ee.symm)
   refine Nl fun N1 r=>?_
   walk_at"r";refine⟨xs,JA.of hl3,_,(CO hgx),t,hxe,_,N8.of ht3,rfl,_,_,rfl,_,_,rfl,_,_,rfl,rfl,r _ _ ?_⟩;clear r N1;refine Nl fun N1 r=>?_
   walk_at"r";refine⟨c,_,rfl,by lia,by lia,fun m1 b0 b2=>?_⟩;walk_at"r";refine⟨by decide,⟨by decide,by decide⟩,r _ _ ?_⟩;clear r N1;obtain⟨p,etm,u1,u2⟩:∃p,tm+ m1%3 / 2=p/\tm <=p/\p <=tm+ 1:=⟨_,rfl,by lia,by lia⟩;rw[etm];refine Nl fun N1 r=>?_
   walk_at"r";refine⟨_,N8.of htk3,_,rfl,_,N8.of htk3,_,rfl,_,N8.of htk3,_,rfl,_,JA.of hb3,fun pb G4 hpb s4 e4=>?_⟩;have ecut:Gv (x.ns.map V.int) none (some (x.mn:Int))=(DL x).ns.map V.int:=by
    rw[rG (by rw[Y1];exact XN ox.m2),<-List.map_take];rfl
   rw[ecut]at e4;refine⟨DL x,pb,rfl,rfl,Zk ox,e4,fun pp pb2 G5 hpp hpb2 s5 hP5=>r _ _ ?_⟩;clear r N1;have s35:=s4.trans s5;have W5:=g.mono s35;have hkl:=g.ab.len;have hal:(Jp R'.es).length=R'.es.length:=Y1 ..;have hel:=g.st.len;have hbx:∀y∈Jp R'.es,y.2.1.st.length <=10000:=fun y hy=>by
    obtain⟨e,he,rfl⟩:=Y5.mp hy;exact(g.st.sz L e he).1
   have hnk2:x.ky∉ks'.map (·.ky):=by rw[g.ab.keys,Gd];exact hnk
   have om2:=ox.m2;have ol2:=ox.l2;have htt:=g.st.tot;rw[f2]at htt;refine Nl fun N1 r=>?_
   walk_at"r";refine ⟨d, tk, ks', x.ky, p, R.sp, R.out, Jp R'.es, MN x, by rw [LH ox], W5.kd, W5.ab, s35 _ _ htk3, ox.ok, hnk2, by lia, htt, hbx, by rw [LH ox]; lia, fun ks2 ld G6 b6 hld kd6 ab6 gone6 => r _ _ ?_⟩;clear r N1;have R6 := W5.ro.offD1 W5.kd.dd W5.n1 W5.n2 W5.n3 b6;have kl56 := KP W5.kd.dd b6;have P6 : NH CP G6 pp pb2 (DL x) := ⟨hP5.ok, hP5.ats.same fun o e => b6 pp o e (fun z => by
    obtain ⟨_, _, e2, _⟩ := hP5.ats.ex;rw [z, W5.kd.dd] at e2; cases e2), b6 _ _ hP5.bd (Jm hP5.bd W5.kd.dd (by intro z; cases z))⟩
   have o1:=g.st.out1 L hxm hnk hwi (t:=p) (by lia);obtain⟨a1,a2⟩:=g.st.at (t:=p) (by lia);rw[f2,f3]at o1;obtain⟨SP,eSP⟩:∃SP,SP=Tt R.out R.sp x.ky ((Jp R'.es).length+ 2) (Jp R'.es++[(x.ky,MN x,p)]):=⟨_,rfl⟩;rw[<-eSP]at o1 ab6 gone6;have hgk:∀k∈SP.2,Tp k:=fun k hk=>by
    rw[eSP]at hk;rcases Qw _ _ hk with z|z
    .rw[z];exact ox.ok
    .rw[Yh]at z;rcases Yq.mp z with y|y
     .rw[Gd]at y;obtain⟨e,he,rfl⟩:=Y5.mp y;exact g.st.kok L e he
     .rw[Yb.mp y];exact ox.ok
   walk_at"r";refine⟨R6.mt rfl,m,dr,df,dw,pp,pb2,R',DL x,p,rfl,R6,P6,by have:=g.st.now;lia,by lia,by rw[hwi];decide,g.st.sz L,?_,g.st.kok L,fun ps R2 le G7 hpp2 hps hle hn hE hnl=>?_⟩
   .rw[a1];exact XR (BZ YM) (by show T3 (Jp R'.es) <=R'.sp;exact g.st.tot)
   rw[o1]at hn hE;rw[a2]at hpp2;have hps0:ps=[]:=hpp2.eq_nil;rw[hps0]at hE;have kl67:=FQ R6 rfl hn.kp;obtain⟨ys,eys,dys⟩:=rV (K:=K) hE;obtain⟨zs,ezs,dzs⟩:=(uY (K:=K) gone6).klt kl67;have hev:∀ev∈SP.2.map (fun k=>Ev.gone k "room"),DO ev:=fun ev he=>by
    obtain⟨k,hk,rfl⟩:=Y5.mp he;exact⟨hgk k hk,.inr (.inr rfl)⟩
   refine⟨_,_,.lst (JA.of eys) dys,.lst (JA.of ezs) dzs,CC hev,CC hev,_,rfl,?_⟩;rw[Y2 (by rw[Ze];simp)];have kd7:=kd6.keep R6 (R0:={R' with now:=p}) rfl W5.n1 W5.n2 W5.n3 hn.kp;have S2:D9 ls R2 p (i+ 1):=g.st.next1 L R6 hxm hnk u1 (by lia) (G:=G7) (R':=R2) (by rw[show Tt R'.out R'.sp x.ky ((Jp R'.es).length+ 2) (Jp R'.es++[(x.ky,MN x,p)])=SP by rw[f2,f3,eSP]];exact hn);have hab2:Tn ks2 (Jp R2.es):=by rw[hn.es];exact ab6
   have hkk:ks2.map (·.ky)=R2.es.map (·.ky):=by rw[hab2.keys,Gd]
   have hl2:=S2.len;have hk2l:=hab2.len;have hal2:(Jp R2.es).length=R2.es.length:=Y1 ..;refine⟨hn.ok.mt rfl,m,dr,df,dw,R2,rfl,hn.ok,by lia,fun ks3 l3 G8 hp3 hs3 hl3 s8 k3=>?_⟩;have kd8:=kd7.mono s8;refine⟨.inr (.inr (.inl ⟨rfl,.inr ⟨_,kd8.dd⟩⟩)),_,kd8.dd,fun v9 G9 h9 s9 e9=>⟨d,e9,_,s9 _ _ kd8.dd,ks2.map (·.ky),Pe ks2,by rw[Y1];lia,fun ks4 ts l4 G10 hp4 hs4 htl ht hl4 s10 e10=>?_⟩⟩;have hkk3:ks3=ks4:=PX hs3 hs4 (hp3.trans (by rw[<-hkk];exact hp4.symm));subst hkk3;obtain⟨zs3,hz3,hzp3⟩:=k3.zs;have s810:=s9.trans s10;have hkok:∀k∈ks3,Tp k:=fun k hk=>by
    obtain⟨e,he,rfl⟩:=Y5.mp (hp3.mem_iff.mp hk);exact S2.kok L e he
   have hz4:Pw (fun x k=>∃t,x=V.ref t/\G10 t=some (.tup (TD k))) (ts.map V.ref) ks3:=by
    refine⟨by rw[Y1];exact htl,fun j x y a b=>?_⟩;rw[Ya]at a;obtain⟨t,ht',rfl⟩:=Yl.mp a;exact⟨t,rfl,s10 _ _ (ht j t y ht' b)⟩
   refine⟨_,_,.lst (JA.of (s810 _ _ hz3)) (C3 (hzp3.imp fun x k ⟨t,a,b⟩=>⟨t,a,s810 _ _ b⟩)),.lst (JA.of e10) (C3 hz4),Hj hkok,Hj hkok,_,rfl,?_⟩;rw[Y2 (by rw[Pz];simp),ePv];have s710:=s8.trans s810;obtain⟨p1,p2,p3,p4,p5,p6⟩:=hn.pr;refine⟨p,R2,ks2,_,_,_,_,_,_,rfl,by lia,by lia,⟨hn.ok.mono s710,kd7.mono s710,hab2,g.n1,g.n2,g.n3,S2⟩,hn.ws',⟨p2.trans f1,p3.trans f2,p4.trans f3,p5.trans f4⟩,kl.trans ((TZ.of s35).trans (kl56.trans (kl67.trans (TZ.of s710)))),fun e he=>?_⟩;have hmem:(e.ky,e.rs,e.first)∈Jp R2.es:=Y5.mpr ⟨e,he,rfl⟩;rw[hn.es,eSP,Cw]at hmem;rcases Yq.mp (Yr.mp hmem).1 with z|z
   .obtain⟨e0,he0,q0⟩:=Y5.mp z;simp only[Uy]at q0;obtain⟨j',hj',y,hy,ey⟩:=hky e0 he0;exact⟨j',YV (i:=i) (by rw[List.take_take,XM (XO i)];exact hj'),y,hy,q0.1.symm.trans ey⟩
   .have q0:=Yb.mp z;simp only[Uy]at q0;exact⟨j,by rw[YQ,hj];simp,x,hgl,q0.1⟩
  .rintro σ' G ⟨tm,R',ks',v1,v2,v3,v4,v5,v6,rfl,t0,t1,g,hwi,⟨f1,f2,f3,f4⟩,kl,hky⟩;refine hN _ _ ?_;walk_at"r";rw[hnv,hol]at t1 g;have n2:=L.n2;exact q tm R' ks' G t0 (by lia) ⟨g.ro,g.kd,g.ab,g.n1,g.n2,g.n3,⟨g.st.ru,g.st.wt,g.st.now,g.st.es,g.st.tot,YD g.st.len n2⟩⟩ hwi f1 f2 f4 (kl.l hl1) (hx1.imp fun v x h=>h.klt kl) (kl.tab tb1) fun c o h n1 n2 n3 n4 n5=>kl c o (kt c o h n5) n1 n2 n3 n4
end
section
variable{ls:List NZ}{R:Js}{tm t:Int}{n:Nat}{x:NZ}{C CR m dr df dw d:Jg}{H G:Hp}
theorem dA(L:RX ls){y:NZ}(hx:x∈ls)(hy:y∈ls)(e:x.ky=y.ky):x=y:=by
 obtain⟨i,hi⟩:=YC.mp hx;obtain⟨j,g⟩:=YC.mp hy;obtain⟨f,b⟩:=Y4.mp hi;obtain⟨c,a⟩:=Y4.mp g;have nd:=L.nd;rw[XS,YO]at nd;rcases Nat.lt_trichotomy i j with z|z|z
 .exact absurd (by rw[Xk,Xk,b,a];exact e) (nd i j (by rw[Y1];exact f) (by rw[Y1];exact c) z)
 .subst z;exact b.symm.trans a
 .exact absurd (by rw[Xk,Xk,b,a];exact e.symm) (nd j i (by rw[Y1];exact c) (by rw[Y1];exact f) z)
theorem nU(ws:List (Ky×Int))(k:Ky)(t:Int):(MK ws k t).length <=ws.length+ 1:=by
 unfold MK
 split
 .rw[Y1];lia
 .simp
theorem jW{ws:List (Ky×Int)}{k:Ky}{t:Int}{y:Ky×Int}(h:y∈MK ws k t):y.1=k\/y∈ws:=by
 unfold MK at h
 split at h
 .obtain⟨z,a,rfl⟩:=Y5.mp h
  split
  .exact .inl rfl
  .exact .inr a
 .rcases Yq.mp h with z|z
  .exact .inr z
  .rw[Yb.mp z];exact .inl rfl
theorem nM{ks:List KE}{k:Ky}(hk:k∉ks.map (·.ky)):JP (MU ks) (NB k)=none:=by
 unfold MU JP;rw[XY.mpr]
 .rfl
 .intro x a;obtain⟨e,b,rfl⟩:=Y5.mp a;simp only[Yd];exact fun z=>hk (Y5.mpr ⟨e,b,R8 z⟩)
theorem D9.cur(h:D9 ls R tm n)(L:RX ls)(hk:(R.es.map (·.ky)).Nodup)(hx:x∈ls)(hn:x.ky∈R.es.map (·.ky)):Mu R.es x.ky=MN x:=by
 obtain⟨e,a,b⟩:=Y5.mp hn;obtain⟨y,c,h1,h2,_⟩:=h.es e a;have:=dA L hx c (b.symm.trans h1);subst this;rw[<-b,CZ hk a];exact h2
theorem D9.out2(h:D9 ls R tm n)(L:RX ls)(hk:(R.es.map (·.ky)).Nodup)(hx:x∈ls)(hn:x.ky∈R.es.map (·.ky))(hw:x.ky∉R.ws.map (·.1))(ht:t < 150):
  Mw (Dj R t) (Rz x)=(JD (Jp R.es) x.ky,MK R.ws x.ky t,[.whole ⟨x.ky.1,x.ky.2.1,x.ky.2.2,x.ns,false⟩]):=by
 rw[(h.at ht).1];unfold Mw;have a:(Rz x).key=x.ky:=rfl;obtain⟨rs,c,b⟩:=gD (L.ok x hx);rw[a,Qe (by exact hw),Y2 Yg];show(match Ny R.ru (Mu R.es x.ky) (Rz x) with| .str=>_| .unl _=>_| .keep rs=>_| .whole rs=>_)=_;rw[h.ru,h.cur L hk hx hn,c];show(_,_,[Ev.whole ⟨x.ky.1,x.ky.2.1,x.ky.2.2,T9 rs,false⟩])=_;rw[b]
theorem D9.next2(h:D9 ls R tm n)(ht:tm <=t){R':Js}{ws:List (Ky×Int)}(hN:M6 C CR H G m dr df dw {R with now:=t} R' (JD (Jp R.es) x.ky) ws):D9 ls R' t n:=by
 obtain⟨i,p2,g,v,s,f⟩:=hN.pr;refine⟨i.trans h.ru,by rw[p2];exact h.wt,by rw[f];exact Xd _,fun e j=>?_,?_,?_⟩
 .have:(e.ky,e.rs,e.first)∈Jp R'.es:=Y5.mpr ⟨e,j,rfl⟩;rw[hN.es]at this;obtain⟨o,b,q⟩:=Y5.mp (Yr.mp this).1;simp only[Uy]at q;obtain⟨c,a,r,p,a3,a4⟩:=h.es o b;exact⟨c,a,q.1.symm.trans r,q.2.1.symm.trans p,by lia,by lia⟩
 .rw[hN.es,g];exact XR (BZ YM) h.tot
 .have h1:=YR List.length hN.es;have h2:=YB (fun y:AE=> !decide (y.1=x.ky)) (Jp R.es);have z:(Jp R'.es).length=R'.es.length:=Y1 ..;have w:(Jp R.es).length=R.es.length:=Y1 ..;have:=h.len;unfold JD at h1
  lia
end
section
variable{P:J9}{w:Jd}{K:Je}{mg:J5}{base:Jj}
inductive Of(C CR T:Jg)(vs:List V)(H:Hp)(Q:VK)(E:XK):Prop|mk (m dr df dw d l:Jg) (R:Js) (ks:List KE) (xs:List V) (ls:List NZ) (c tm:Int) (_:vs=[.ref m,.ref l,.int c,.ref d,.int tm]) (_:DW C CR H m dr df dw d ls R ks tm 100) (_:0 <=tm) (_:tm <=100) (_:R.ws=[]) (_:H l=some (.lst xs)) (_:Pw (E8 H) xs ls) (_:RX ls) (_:Mx H T B5) (_:∀ (R':Js) (ks':List KE) G,DW C CR G m dr df dw d ls R' ks' tm 100->R'.wt=R.wt->Lf H G->Q (.bl true) G)
abbrev CS:Stmt:=top 53
theorem A6:Nv ["_law_room","_law_letters_here","_law_cell","_law_kept","_law_time","_law_k","_law_mine","_law_body","_law_many","_law_events"] ["_law_room","_law_letters_here","_law_cell","_law_kept","_law_time"] (Jl CS):=by walk_at"e"
theorem tT{f C CR CP CL T:Jg}{fd:Jb}(F:NK K "_law_completed" "_law_completed" CS f fd)(B:Bt mg)(B2:RF mg)(Mc:Tc P w K mg base "_law_order" 9 ["_law_many","_law_cell"] [] (H9 T))(Nm:Tc P w K mg base "_law_mixed" 1 ["_law_cell","_law_k"] [] AQ)(Md:Gg P w K mg base "Piece" 6 (O0 CP))(TR:Gg P w K mg base "Letter" 6 (HM CL))(NM:T4 P w K mg base CL "is_like" 2 ["self","other"] [] (Q4 CL))(NY:T4 P w K mg base C "come" 9 ["self","time","piece"] [] (Fa C CR CP CL))(JH:T4 P w K mg base C "bytes_kept" 2 ["self"] [] (AN C CR)):Ju P w K mg base N7 10 f fd ["_law_room","_law_letters_here","_law_cell","_law_kept","_law_time"] (Of C CR T):=by
 refine F.ok A6 (fun vs H Q E h=>?_) (fun cdv A outer s H vs Q E hr h=>?_)
 .obtain⟨m,dr,df,dw,d,l,R,ks,xs,ls,c,tm,rfl,_⟩:=h;rfl
 .obtain⟨m,dr,df,dw,d,l,R,ks,xs,ls,c,tm,rfl,W,t0,t1,hws,hl,hx,L,tb,q⟩:=h;refine⟨_,(JE (Ed Xh rfl (GS (K:=K) rfl (Tb Mc hr.m rfl (DZ (Tu (Bd (B4 (K:=K) rfl)) B.len (Jv 1 Jt)) (Nc (hs:=GR) (Na (NL Mo) (Jn 2) JI) Jt)))) (Dr 5 A6) (JE (Qr (EL K (Jn 1) (Jn 5)) (ET (K:=K) (n:=3) rfl rfl (DK (Dr 6 A6) (DK (Dr 7 A6) (DK (Dr 8 A6) EJ))))) (JM (Tg (PW.pt (A2 (Hh (Zi (Gy hr)) (Jn 6) (Jn 3) (by with_unfolding_all rfl)) (Ab (Tx (GK GG) (Na (dI Dd) (Tb Nm hr.m rfl (Jv 2 (Nc (hs:=GR) (Na (NL Mo) JI (Jn 5)) Jt))) JI) JI)))) (JE (D8 (DQ (K:=K) rfl YN XV Ug (Cm (Gy hr)) (Jn 3) (Jv 6 Jt))) (JE (Tr 9 A6 (DM (Jn 0) NY hr.m (Jv 4 (DZ (Eo Md hr.m rfl (Dq (M5 K (Jn 6) JI) (Dq (M5 K (Jn 6) JI) (Dq (M5 K (Jn 6) JI) (Jv 8 (Dq (KO (HV (Km (K:=K) rfl)) (Jn 7) (CH (Jn 8)) SI) (TH Er Jt))))))) Jt)))) (JE (Tg (PW.pt (RD (Tx (Cd Ar) (Tu (Bd (B4 (K:=K) rfl)) B.len (Jv 9 Jt)) JI) (RJ (Tx (Cd Ar) (M5 K (EL K (Jn 9) JI) JI) Tj)))) (JM (Nk Er)) TC) (JM (Tg (DD (MO (DM (M5 K (EL K (Jn 9) JI) JI) NM hr.m (DZ (Eo TR hr.m rfl (Dq (M5 K (Jn 6) JI) (Dq (M5 K (Jn 6) JI) (Dq (M5 K (Jn 6) JI) (Jv 7 Jt))))) Jt)))) (JM (Nk Er)) TC))))) TC)))) (JM (Nk (D7 (GK GG) (Dc (Jn 0) JH hr.m) (Tu (F2 (K:=K) rfl rfl) B2.sum (Nc (hs:=Rt) (Bg (Gk (N':=["_law_one"]) (caps:=[none]) (Do (sc:=Jl CS) (N:=["_law_room","_law_letters_here","_law_cell","_law_kept","_law_time","_law_k","_law_mine","_law_body","_law_many","_law_events"]) rfl rfl (by decide +kernel)) rfl (IN (Ap (K:=K) rfl YN Uu Ve IY (Jn 3))) (fun _ _ _ _ _=>(D0 (i:=0) (Dm (N:=["_law_one"]) rfl (by decide +kernel)) rfl (Or.inl rfl))) (fun _ _ _ _ _=>Gj) (fun _ _ _ _ _=>(M5 K (Jn 0) JI)))) Jt)) (Dx _))))),?_⟩;refine Nl fun N hN=>?_
  walk_at"r";refine⟨xs,.inl (JA.of hl),xs.length,c+ 1,rfl,by rw[hx.1];have:=L.n2;lia,tb,fun lo os G1 hlo b1 tb1 pm e1=>⟨lo,rfl,⟨_,JA.of e1⟩,?_⟩⟩;have kt:=Z7 tb b1;have W1:=W.tab kt;have hl1:=kt _ _ hl (fun _ z=>by cases z);have hx1:Pw (E8 G1) xs ls:=hx.imp fun v x zz=>by rcases zz with⟨t,tk,b,h1,h2,h3,h4⟩;exact ⟨t,tk,b,h1,kt _ _ h2 (fun _ z=>by cases z),kt _ _ h3 (fun _ z=>by cases z),kt _ _ h4 (fun _ z=>by cases z)⟩
  rw[hx.1]at pm;have hol:os.length=ls.length:=by rw[pm.length_eq,YT]
  have hnv:(Es os).length=os.length:=Y1 ..;obtain⟨Pv,ePv⟩:∃Pv:Nat->L2.St->Hp->Prop,Pv=fun(i:Nat) σ' G=>∃ (p:Js) (r:List KE) (v1 v2 v3 v4 v5:Option V),σ'=[some (.ref m),some (.ref l),some (.int c),some (.ref d),some (.int tm),v1,v2,v3,v4,v5]/\DW C CR G m dr df dw d ls p r tm 100/\p.ws.length <=i/\(∀y∈p.ws,y.1∉p.es.map (·.ky))/\p.wt=R.wt/\TZ G1 G:=⟨_,rfl⟩
  refine Bm (xs:=Es os) Pv (by rw[ePv];exact⟨R,ks,_,_,_,_,_,rfl,W1,by rw[hws];exact Y9 _,(fun y hy=>by rw[hws]at hy;exact(nomatch hy)),rfl,fun c o h _ _ _ _=>h⟩) ?_ ?_ ?_ <;> rw[ePv]
  .rintro i σ' G _ ⟨p,r,v1,v2,v3,v4,v5,rfl,_,_,_,_,kl⟩;exact JA.of (kl.l e1)
  .rintro i v σ' G hv ⟨p,r,v1,v2,v3,v4,v5,rfl,g,hwl,hwn,f1,kl⟩;rw[<-ePv];unfold Es at hv;rw[Ya]at hv;obtain⟨j,hj,rfl⟩:=Yl.mp hv;have hjm:=Yk hj;have hjl:j < ls.length:=by have:=pm.mem_iff.mp hjm;simpa using this
   have hil:i < os.length:=(Y4.mp hj).1;have hgx:xs[j]?=some (xs[j]'(by rw[hx.1];exact hjl)):=Y7 _;obtain⟨x,hgl,hLx⟩:=hx1.get hgx;obtain⟨t,tk,b,hxe,ht1,htk1,hb1⟩:=hLx;have hxm:=Yk hgl;have ox:=L.ok x hxm;have ln2:=L.n2;have hl3:=kl.l hl1;have ht3:=kl.t ht1;have htk3:=kl.t htk1;have hb3:=kl.l hb1;refine Nl fun N1 hN1=>?_
   walk_at"r";refine⟨xs,JA.of hl3,_,(CO hgx),t,hxe,_,N8.of ht3,rfl,_,_,rfl,_,_,rfl,_,_,rfl,rfl,hN1 _ _ ?_⟩;clear hN1 N1;have hkk:r.map (·.ky)=p.es.map (·.ky):=by rw[g.ab.keys,Gd]
   have stay:∀w2 w3 w4:Option V,∀w5,Pv (i+ 1) [some (.ref m),some (.ref l),some (.int c),some (.ref d),some (.int tm),some (.int (j:Int)),w2,w3,w4,w5] G:=fun w2 w3 w4 w5=>by
    rw[ePv];exact⟨p,r,_,_,_,_,_,rfl,g,by lia,hwn,f1,kl⟩
   walk_at"r";refine⟨NB x.ky,_,.inl g.kd.dd,htk3,?_⟩
   by_cases hin:x.ky∈p.es.map (·.ky)
   rotate_left
   .rw[Y2 (by rw[nM (by rw[hkk];exact hin)];exact Yg)];exact stay _ _ _ _
   obtain⟨e,he,ee⟩:=Y5.mp (show x.ky∈r.map (·.ky) by rw[hkk];exact hin);have hval:JP (MU r) (NB x.ky)=some (.ref e.t):=by rw[<-ee];exact EG g.kd.nk he
   rw[Y3 (by rw[hval];rfl)];refine⟨c,_,rfl,by lia,by lia,fun m1 b0 b2=>⟨_,rfl,by decide,rfl,?_⟩⟩
   by_cases hod:m1%2=1
   rotate_left
   .rw[Y2 (by simpa using hod)];exact stay _ _ _ _
   rw[Y3 (Yt hod)];refine⟨.inr (.inr (.inl ⟨rfl,.inr ⟨_,g.kd.dd⟩⟩)),NB x.ky,_,g.kd.dd,htk3,_,hval,fun G4 b4 e4=>?_⟩;have kd4:=g.kd.less b4 e4;have R4:=g.ro.offD1 g.kd.dd g.n1 g.n2 g.n3 b4;have kl4:=KP g.kd.dd b4;have htk4:=kl4.t htk3;have hb4:=kl4.l hb3;have ecut:Gv (x.ns.map V.int) (some (x.mn:Int)) none=(Rz x).ns.map V.int:=by
    rw[jF (by rw[Y1];exact XN ox.m2),<-W8];rfl
   have hwx:x.ky∉p.ws.map (·.1):=fun z=>by
    obtain⟨y,hy,e⟩:=Y5.mp z;exact hwn y hy (by rw[e];exact hin)
   have o2:=g.st.out2 L g.ro.nk hxm hin hwx (t:=tm) (by lia);obtain⟨a1,a2⟩:=g.st.at (t:=tm) (by lia);have hel:=g.st.len;refine⟨R4.mt rfl,_,N8.of htk4,_,rfl,_,N8.of htk4,_,rfl,_,N8.of htk4,_,rfl,_,JA.of hb4,fun pb G5 hpb s5 e5=>⟨Rz x,pb,rfl,rfl,dC ox,by rw[ecut]at e5;exact e5,fun pp pb2 G6 hpp hpb2 s6 hP6=>?_⟩⟩;have R6:=R4.mono (s5.trans s6);have kd6:=kd4.mono (s5.trans s6);refine⟨m,dr,df,dw,pp,pb2,p,Rz x,tm,rfl,R6,hP6,g.st.now,by lia,by lia,g.st.sz L,?_,g.st.kok L,fun ps R2 le G7 hpp2 hps hle hn hE hnl=>?_⟩
   .rw[a1];exact XR (BZ YM) (by show T3 (Jp p.es) <=p.sp;exact g.st.tot)
   rw[o2]at hn hE;rw[a2]at hpp2;have hps0:ps=[]:=hpp2.eq_nil;rw[hps0]at hE;have kl67:=FQ R6 rfl hn.kp;obtain⟨ys,eys,pys⟩:=hE;have pys:Pw (KJ CL G6 G7) ys [.whole ⟨x.ky.1,x.ky.2.1,x.ky.2.2,x.ns,false⟩]:=pys
   match ys,pys with
   |[],pys=>exact absurd pys.1 (by simp)
   |_::_::_,pys=>exact absurd pys.1 (by simp)
   |[y],pys=>
    obtain⟨t7,pl,bl,ey,ht7,hL7,_⟩:=pys.2 0 y _ rfl rfl;subst ey;refine⟨le,rfl,_,.inl (JA.of eys),rfl,?_⟩;rw[Y2 (by simp)];refine⟨le,rfl,_,JA.of eys,_,rfl,t7,rfl,_,N8.of ht7,_,rfl,rfl,?_⟩;rw[Y2 (by simp)];have htk7:=kl67.t (s6 _ _ (s5 _ _ htk4));have hb7:=kl67.l (s6 _ _ (s5 _ _ hb4));have okL:(⟨x.ky.1,x.ky.2.1,x.ky.2.2,x.ns,false⟩:LD).Ok:=hL7.ok;refine⟨le,rfl,_,JA.of eys,_,rfl,t7,rfl,_,N8.of ht7,_,rfl,vF hL7,_,N8.of htk7,_,rfl,_,N8.of htk7,_,rfl,_,N8.of htk7,_,rfl,⟨x.ky.1,x.ky.2.1,x.ky.2.2,x.ns,false⟩,b,rfl,rfl,okL,hb7,fun p8 b8 G8 hp8 hb8 s8 hL8=>⟨pl,bl,p8,b8,_,_,rfl,hL7.mono s8,hL8,fun G9 s9=>⟨_,rfl,?_⟩⟩⟩;rw[Y2 (by simp),ePv];have s79:=s8.trans s9;obtain⟨p1,p2,p3,p4,p5,p6⟩:=hn.pr;have S2:D9 ls R2 tm 100:=g.st.next2 (Xd _) hn;have kd7:=kd6.keep R6 (R0:={p with now:=tm}) rfl g.n1 g.n2 g.n3 hn.kp;have hab2:Tn (En r x.ky) (Jp R2.es):=by rw[hn.es];exact g.ab.less _
    refine⟨R2,En r x.ky,_,_,_,_,_,rfl,⟨hn.ok.mono s79,kd7.mono s79,hab2,g.n1,g.n2,g.n3,S2⟩,?_,fun y hy=>?_,p2.trans f1,kl.trans (kl4.trans ((TZ.of (s5.trans s6)).trans (kl67.trans (TZ.of s79))))⟩
    .rw[hn.ws'];have:=nU p.ws x.ky tm
     lia
    .rw[hn.ws']at hy;rw[show R2.es.map (·.ky)=(JD (Jp p.es) x.ky).map (·.1) by rw[<-show Jp R2.es=JD (Jp p.es) x.ky from hn.es,Gd]];intro z;obtain⟨a,ha,ea⟩:=Y5.mp z;obtain⟨ha1,ha2⟩:=Yr.mp ha;rcases jW hy with h1|h1
     .rw[<-ea]at h1;simp[h1]at ha2
     .exact hwn y h1 (by rw[<-ea,<-Gd];exact Y5.mpr ⟨a,ha1,rfl⟩)
  .rintro σ' G ⟨p,r,v1,v2,v3,v4,v5,rfl,g,hwl,hwn,f1,kl⟩;refine hN _ _ ?_;walk_at"r";have hel:=g.st.len;have hkl:=g.ab.len;have hal:(Jp p.es).length=p.es.length:=Y1 ..;have hbx:∀y∈Jp p.es,y.2.1.st.length <=10000:=fun y hy=>by
    obtain⟨e,he,rfl⟩:=Y5.mp hy;exact(g.st.sz L e he).1
   have eb:=g.ab.bd hbx;refine⟨g.ro.mt rfl,m,dr,df,dw,p,rfl,g.ro,by lia,fun e he=>YD (g.st.sz L e he).1 (by decide),fun G2 s2=>?_⟩;refine KD (g.kd.mono s2) (by lia) (fun R h=>by walk_at"r";exact h) fun G3 s3 p3 e3=>?_
   refine⟨p3,rfl,r.map (·.mn),JA.of (by rw[e3,Yw];rfl),fun x hx=>?_,fun j hj=>?_,rfl,?_⟩
   .obtain⟨e,he,rfl⟩:=Y5.mp hx;have:=eb e he;lia
   .have:=FT (l:=(r.map (·.mn)).take j) fun x hx=>by
     obtain⟨e,he,rfl⟩:=Y5.mp (YV hx);exact eb e he
    rw[Yu,Y1]at this
    lia
   have et:(r.map (·.mn)).sum=T3 (Jp p.es):=g.ab.tot;rw[et,<-Ps];have:=q p r G3 (g.mono (s2.trans s3)) f1 fun c o h n1 n2 n3 n4 n5=>s3 _ _ (s2 _ _ (kl c o (kt c o h n5) n1 n2 n3 n4))
   simpa using this
end
def RQ(wt t:Int)(e:KE):Bool:=decide (e.tm+ wt <=t)
def Rl(wt t:Int)(ks:List KE):List (Int×Ky):=(ks.filter (RQ wt t)).map fun e=>(e.tm,e.ky)
section
variable{ks:List KE}{xs:List AE}{wt t:Int}
theorem Tn.filter2(h:Tn ks xs)(f:Ky->Int->Bool):Tn (ks.filter fun x=>f x.ky x.tm) (xs.filter fun x=>f x.1 x.2.2):=by
 induction ks generalizing xs with
 |nil=>cases xs with
  |nil=>rfl
  |cons x xs=>exact absurd h.len (by simp)
 |cons e ks ih=>cases xs with
  |nil=>exact absurd h.len (by simp)
  |cons x xs=>
   obtain⟨⟨h1,h2,b⟩,a⟩:=h.cons;rw[Xj,Xj,h1,h2]
   split
   .unfold Tn;rw[List.map_cons,List.map_cons,ih a,h1,h2,b]
   .exact ih a
theorem Tn.over{R:Js}(h:Tn ks (Jp R.es)):Rl R.wt t ks=DA {R with now:=t}:=by
 have h1:=h.filter2 fun _ f=>decide (f+ R.wt <=t)
 have h2:=YR (List.map fun z:Ky×Int×Int=>(z.2.1,z.1)) h1;rw[Yw,Yw]at h2;unfold Rl DA RQ;refine h2.trans ?_;unfold Jp;rw[U3,Yw];rfl
theorem Tn.stay{R:Js}(h:Tn ks (Jp R.es)):Tn (ks.filter fun e=> !RQ R.wt t e) (Jp (Dj R t).es):=by
 have h1:=h.filter2 fun _ f=> !decide (f+ R.wt <=t)
 have e:Jp (Dj R t).es=(Jp R.es).filter fun x=> !decide (x.2.2+ R.wt <=t):=by
  unfold Jp Dj A3;rw[U3];rfl
 rw[e];exact h1
end
theorem cA{ks:List KE}(hn:(ks.map (·.ky)).Nodup){e e':KE}(h:e∈ks)(h':e'∈ks)(z:e.ky=e'.ky):e=e':=by
 induction ks with
 |nil=>exact nomatch h
 |cons a ks ih=>
  rw[List.map_cons,YH]at hn;rcases Ym.mp h with y|y <;> rcases Ym.mp h' with y'|y'
  .rw[y,y']
  .exact absurd (Y5.mpr ⟨e',y',by rw[<-z,y]⟩) hn.1
  .exact absurd (Y5.mpr ⟨e,y,by rw[z,y']⟩) hn.1
  .exact ih hn.2 y y'
theorem Ln{ks:List KE}{wt t:Int}{q:Int×Ky}(h:q∈Rl wt t ks):∃e∈ks,RQ wt t e=true/\e.tm=q.1/\e.ky=q.2:=by
 obtain⟨e,a,rfl⟩:=Y5.mp h;exact⟨e,(Yr.mp a).1,(Yr.mp a).2,rfl,rfl⟩
theorem v7{ks:List KE}{wt t:Int}(hn:(ks.map (·.ky)).Nodup):((Rl wt t ks).map (·.2)).Nodup:=by
 unfold Rl;rw[Yw];exact hn.sublist (Xs _ YM)
theorem ZU{ks:List KE}{wt t:Int}{ps:List (Int×Ky)}(hn:(ks.map (·.ky)).Nodup)(hp:ps.Perm (Rl wt t ks)):(ks.filter fun e=> !decide (e.ky∈ps.map (·.2)))=ks.filter fun e=> !RQ wt t e:=by
 refine XJ fun e a=>?_
 congr 1
 rw[YF,Yd];constructor
 .intro h;obtain⟨q,b,z⟩:=Y5.mp h;obtain⟨g,h1,h2,f,c⟩:=Ln (hp.mem_iff.mp b);rw[cA hn a h1 (z.symm.trans c.symm)];exact h2
 .intro h;exact Y5.mpr ⟨(e.tm,e.ky),hp.mem_iff.mpr (Y5.mpr ⟨e,Yr.mpr ⟨a,h⟩,rfl⟩),rfl⟩
section
variable{P:J9}{w:Jd}{K:Je}{mg:J5}{base:Jj}
theorem Su{CL:Jg}{G:Hp}{l:Jg}{ps:List (Int×Ky)}(h:Fj CL G l (Nj ps)):BG K G l (Nj ps):=by
 obtain⟨xs,e,pw⟩:=h;refine⟨xs,e,?_⟩;clear e;unfold Nj at pw ⊢
 induction ps generalizing xs with
 |nil=>cases xs with
  |nil=>exact .nil
  |cons _ _=>exact absurd pw.1 (by simp)
 |cons k ks ih=>cases xs with
  |nil=>exact absurd pw.1 (by simp)
  |cons x xs=>
   obtain⟨t,tk,rfl,h1,h2⟩:=pw.2 0 x _ rfl rfl;exact .cons (.tup (N8.of h1) (.cons (.str _) (.cons (E3 h2) (.cons (.str _) .nil)))) (ih xs ⟨by have:=pw.1;simpa using this,fun j x y a b=>pw.2 (j+ 1) x y (by simpa using a) (by simpa using b)⟩)
theorem cJ{C CR m dr df dw:Jg}{G:Hp}{R:Js}{ms:Jh}{Q:VK}{E:XK}(ro:Jr C CR G m dr df dw R)(hl:R.es.length <=1000)(hp:ms.Perm (R.es.map fun e=>e.first+ R.wt))(hs:ms.Pairwise (· <=·))
  (h:∀G' x dx,Jo G G'->GH (ms.map V.int++[V.non]) 0=some x->(∀J,Dp K J x dx)->SeqAt.shaped dx=true->PyData.eqv dx dx=true->Q x G'):AL C CR [.ref m] G Q E:=by
 refine⟨m,dr,df,dw,R,rfl,ro,hl,fun G' s=>⟨fun c=>?_,fun n f b=>?_⟩⟩
 .have:ms=[]:=by rw[c]at hp;exact hp.eq_nil
  rw[this]at h;exact h G' _ _ s rfl (fun _=>.non) rfl rfl
 .cases ms with
  |nil=>exact absurd (hp.mem_iff.mpr f) (by simp)
  |cons a ms=>
   have e:a=n:=by
    have h1:=hp.mem_iff.mpr f;obtain⟨e,c,g⟩:=Y5.mp (hp.mem_iff.mp (YE (a:=a) (l:=ms)));have h2:=b e c;rcases Ym.mp h1 with z|z
    .exact z.symm
    .have:=List.rel_of_pairwise_cons hs z
     lia
   subst e;exact h G' _ _ s (CO (j:=0) rfl) (fun _=>.int _) (by simp[SeqAt.shaped,PyData.canLay0,PyData.depth]) (by simp[PyData.eqv])
inductive Kg(C CR:Jg)(vs:List V)(H:Hp)(Q:VK)(E:XK):Prop|mk (m dr df dw d:Jg) (R:Js) (ks:List KE) (ls:List NZ) (tm t:Int) (_:vs=[.ref m,.ref d,.int R.wt,.int t]) (_:DW C CR H m dr df dw d ls R ks tm 100) (_:tm <=t) (_:RX ls) (_:∀ (R':Js) (ks':List KE) G,DW C CR G m dr df dw d ls R' ks' t 100->R'.wt=R.wt->(∀e∈R'.es,t < e.first+ R.wt/\e∈R.es)->TZ H G->Q (.bl true) G)
abbrev BH:Stmt:=top 54
theorem C0:Nv ["_law_room","_law_kept","_law_wait","_law_time","_law_over","_law_since","_law_one","_law_ends"] ["_law_room","_law_kept","_law_wait","_law_time"] (Jl BH):=by walk_at"e"
theorem nR{f C CR CL:Jg}{fd:Jb}(F:NK K "_law_ended" "_law_ended" BH f fd)(B:Bt mg)(B2:RF mg)(TM:T4 P w K mg base C "tick" 4 ["self","time"] [] (Lm C CR CL))(N4:T4 P w K mg base C "ends_at" 1 ["self"] [] (AL C CR))(NV:T4 P w K mg base C "kept" 1 ["self"] [] (Hm C CR)):Ju P w K mg base N7 5 f fd ["_law_room","_law_kept","_law_wait","_law_time"] (Kg C CR):=by
 refine F.ok C0 (fun vs H Q E h=>?_) (fun cdv A outer s H vs Q E hr h=>?_)
 .obtain⟨m,dr,df,dw,d,R,ks,ls,tm,t,rfl,_⟩:=h;rfl
 .obtain⟨m,dr,df,dw,d,R,ks,ls,tm,t,rfl,W,htm,L,q⟩:=h;refine⟨_,(JE (Tr 4 C0 (Tu (Zf (K:=K) (Room.units hr) rfl) B2.sorted (Nc (hs:=Rt) (Bg (Gk (N':=["_law_one","_law_kept","_law_time","_law_wait"]) (caps:=[none,some 1,some 3,some 2]) (Do (sc:=Jl BH) (N:=["_law_room","_law_kept","_law_wait","_law_time","_law_over","_law_since","_law_one","_law_ends"]) rfl rfl (by decide +kernel)) rfl (Bi (Jn 1)) (fun _ _ _ _ _=>(D0 (i:=0) (Dm (N:=["_law_one","_law_kept","_law_time","_law_wait"]) rfl (by decide +kernel)) rfl (Or.inl rfl))) (fun _ _ _ _ _=>(Fd (Tx (NL Eb) (Na (NL Mo) (M5 K (GJ hr (Jn 1) (Jn 0)) JI) (Jn 3)) (Jn 2)))) (fun _ _ _ _ _=>(MR (Dq (M5 K (GJ hr (Jn 1) (Jn 0)) JI) (Jv 0 Jt)))))) Jt))) (JE (Ed Xh rfl (GS (K:=K) rfl (Jn 4)) (ET (K:=K) (n:=2) rfl rfl (DK (Dr 5 C0) (DK (Dr 6 C0) EJ))) (JM (D8 (DQ (K:=K) rfl YN XV Ug (Cm (Gy hr)) (Jn 1) (Jv 6 Jt))))) (JE (Tg (Tx (Ao (K:=K) (Room.units hr) rfl) (DM (Jn 0) TM hr.m (Jv 3 Jt)) (Gk (N':=["_law_since","_law_one"]) (caps:=[none,none]) (Do (sc:=Jl BH) (N:=["_law_room","_law_kept","_law_wait","_law_time","_law_over","_law_since","_law_one","_law_ends"]) rfl rfl (by decide +kernel)) rfl (GS (K:=K) rfl (Jn 4)) (fun _ _ _ _ _=>(ET (K:=K) (n:=2) rfl rfl (DK (D0 (i:=0) (Dm (N:=["_law_since","_law_one"]) rfl (by decide +kernel)) rfl (Or.inl rfl)) (DK (D0 (i:=1) (Dm (N:=["_law_since","_law_one"]) rfl (by decide +kernel)) rfl (Or.inl rfl)) EJ)))) (fun _ _ _ _ _=>Gj) (fun _ _ _ _ _=>(MR (TH Tj (Jv 1 (TH Tj Jt))))))) (JM (Nk Er)) TC) (JE (Tr 7 C0 (Tu (eZ (K:=K) (Room.units hr) rfl) B2.sorted (Nc (hs:=Rt) (Bg (Gk (N':=["_law_one","_law_wait","_law_kept"]) (caps:=[none,some 2,some 1]) (Do (sc:=Jl BH) (N:=["_law_room","_law_kept","_law_wait","_law_time","_law_over","_law_since","_law_one","_law_ends"]) rfl rfl (by decide +kernel)) rfl (Bi (Jn 1)) (fun _ _ _ _ _=>(D0 (i:=0) (Dm (N:=["_law_one","_law_wait","_law_kept"]) rfl (by decide +kernel)) rfl (Or.inl rfl))) (fun _ _ _ _ _=>Gj) (fun _ _ _ _ _=>(Na (NL Mo) (M5 K (GJ hr (Jn 2) (Jn 0)) JI) (Jn 1))))) Jt))) (JM (Nk (Dy (D7 (FB (K:=K) (Room.units hr) rfl) (Dc (Jn 0) N4 hr.m) (EL K (Na (Hl CQ) (Jn 7) (Dn (TH DY Jt))) JI) (Dx _)) (GU (D7 (FB (K:=K) (Room.units hr) rfl) (Dc (Jn 0) NV hr.m) (Tu (QQ rfl (Room.units hr)) B2.sorted (DZ (Ap (K:=K) rfl YN Vl WF Zq (Jn 1)) Jt)) (Dx _)))))))))),?_⟩;have hrl:(MU ks).length=ks.length:=Y1 ..;have hel:=W.st.len;have hkl:=W.ab.len;have hal:(Jp R.es).length=R.es.length:=Y1 ..;refine Nl fun N hN=>?_
  walk_at"r";refine Zt W.kd.dd (fun Rr h=>by walk_at"r";exact h) (fun i ys σ' Hf=>Pw (Gh Hf) ys (((ks.take i).filter (RQ R.wt t)).map fun e=>(e.tm,e.ky))/\∃v,σ'=[v,some (.ref d),some (.int t),some (.int R.wt)]) (fun Hf _=>⟨Pw.nil,_,rfl⟩) ?_ (by lia) ?_ ?_
  .rintro i ys σ' Hf ⟨h1,_⟩;rw[h1.1,Y1];exact YD (YB ..) (by rw[Yu];lia)
  .rintro Hf o off hfd i b k v ys σ' hk hb ⟨h1,v0,rfl⟩;obtain⟨e,g,rfl,rfl⟩:=FI hk;have hmem:=Yk g;have htt:=W.kd.tt e hmem;have htt':=off _ _ htt (Jm htt W.kd.dd nofun);walk_at"r";refine⟨_,.inr ⟨_,_,b,.inr ⟨o,hfd⟩,rfl,hb,(EG W.kd.nk hmem).symm⟩,_,rfl,_,N8.of htt',_,rfl,_,rfl,?_⟩;rw[YQ,g,XX,XE,Yh]
   by_cases ho:e.tm+ R.wt <=t
   .rw[Y3 (Yt ho)];have e0:[e].filter (RQ R.wt t)=[e]:=by simp[RQ,ho]
    refine⟨_,.inr ⟨_,_,b,.inr ⟨o,hfd⟩,rfl,hb,(EG W.kd.nk hmem).symm⟩,_,rfl,_,N8.of htt',_,rfl,Ni (by simp),fun p G hp s1 e1=>⟨?_,s1⟩⟩;rw[e0];exact(h1.imp fun x y ⟨t,b,h1,h2,h3⟩=>⟨t,b,h1,s1 _ _ h2,s1 _ _ h3⟩).snoc ⟨p,b,rfl,e1,s1 _ _ hb⟩
   .rw[Y2 (by simpa using ho)];have e0:[e].filter (RQ R.wt t)=[]:=by simp[RQ,ho]
    rw[e0,List.map_nil,List.append_nil];exact⟨h1,Jo.refl _⟩
  rintro ys σ' Hn ⟨h1,_⟩ hold p G hp s1 s2 e1;rw[hrl,Yv (Y9 _)]at h1;have ne2:∀{x:V} {y:Int×Ky},Gh Hn x y->Gh G x y:=fun {x y} ⟨t,b,h1,h2,h3⟩=>⟨t,b,h1,s2 _ _ h2 (fun _ _ z=>nomatch z),s2 _ _ h3 (fun _ _ z=>nomatch z)⟩
  have h2:Pw (Gh G) ys (Rl R.wt t ks):=h1.imp fun x y=>ne2
  refine⟨p,rfl,ys,JA.of e1,Rl R.wt t ks,h2.1,fun i x q a b=>?_,?_,fun r l G2 hperm hsort hl0 s4 e4=>hN _ _ ?_⟩
  .obtain⟨t,b,h1,h3,h4⟩:=h2.2 i x q a b;exact⟨t,h1,b,N8.of h3,N8.of h4⟩
  .rw[h2.1];unfold Rl;rw[Y1];exact YD (YD (YB ..) (show ks.length <=100 by lia)) (by decide)
  clear hN N;obtain⟨ps,eps⟩:∃ps:List (Int×Ky),ps=r.map fun i=>(Rl R.wt t ks).getD i (0,0,"",""):=⟨_,rfl⟩
  obtain⟨zs,ezs⟩:∃zs:List V,zs=r.map fun i=>ys.getD i .non:=⟨_,rfl⟩
  have hpp:ps.Perm (Rl R.wt t ks):=by rw[eps];exact QN (by rw[<-h2.1];exact hperm)
  have hps:ps.Pairwise (fun a b=>JS b a=false):=by rw[eps];exact hsort
  have hzp:Pw (Gh G2) zs ps:=by
   rw[ezs,eps];refine(h2.pick r fun i hi=>by simpa using hperm.mem_iff.mp hi).imp fun x y ⟨t,b,h1,h3,h4⟩=>⟨t,b,h1,s4 _ _ h3,s4 _ _ h4⟩
  rw[<-ezs]at e4;clear hsort hperm eps ezs h1 h2 ne2 hold;have s02:=s1.trans s4;have W2:=W.mono s02;refine Nl fun N hN=>?_
  walk_at"r";refine⟨⟨_,JA.of e4⟩,?_⟩;have hfk:∀i,(ks.filter fun e=> !decide (e.ky∈(ps.take i).map (·.2))).length <=ks.length:=fun i=>YB ..
  refine Bm (xs:=zs) (fun i σ' G'=>(∃a b c,σ'=[some (.ref m),some (.ref d),some (.int R.wt),some (.int t),some (.ref l),a,b,c])/\Nd d G2 G'/\Ds G' d (ks.filter fun e=> !decide (e.ky∈(ps.take i).map (·.2)))) ⟨⟨_,_,_,rfl⟩,fun c o h _=>h,?_⟩ (fun i σ' G' _ h=>?_) (fun i x σ' G' hx h=>?_) fun σ' G' h=>?_
  .rw[Xc.mpr fun e _=>by simp];exact W2.kd
  .exact JA.of (h.2.1 l _ e4 (Jm e4 W2.kd.dd nofun))
  .obtain⟨⟨a,b,c,rfl⟩,bG,kdi⟩:=h;obtain⟨pr,hpr,tq,tb,rfl,ht,htb⟩:=hzp.get hx;have tG:∀{c:Jg} {xs:List V},G2 c=some (.tup xs)->G' c=some (.tup xs):=fun {c xs} h=>bG c _ h (Jm h W2.kd.dd nofun)
   have hpt:ps.take (i+ 1)=ps.take i++[pr]:=by rw[YQ,hpr];rfl
   obtain⟨e,g,_,e3,e4'⟩:=Ln (hpp.mem_iff.mp (Yk hpr));have hnd:((ps.take (i+ 1)).map (·.2)).Nodup:=((hpp.map (·.2)).nodup_iff.mpr (v7 W.kd.nk)).sublist (Xs _ (Ul ..));rw[hpt,Yh,Um]at hnd;have hni:pr.2∉(ps.take i).map (·.2):=fun z=>hnd.2.2 _ z pr.2 (by simp) rfl
   have hef:e∈ks.filter fun e=> !decide (e.ky∈(ps.take i).map (·.2)):=Yr.mpr ⟨g,by rw[e4'];simpa using hni⟩
   walk_at"r";refine⟨_,N8.of (tG ht),rfl,_,_,rfl,_,_,rfl,rfl,.inr (.inr (.inl ⟨rfl,.inr ⟨_,kdi.dd⟩⟩)),tb,rfl,NB pr.2,_,kdi.dd,tG htb,_,by rw[<-e4'];exact EG kdi.nk hef,fun G3 b3 e5=>⟨fun c o h n=>b3 c o (bG c o h n) n,?_⟩⟩;have:=kdi.less b3 e5;have ek:En (ks.filter fun e=> !decide (e.ky∈(ps.take i).map (·.2))) pr.2=ks.filter fun e=> !decide (e.ky∈(ps.take (i+ 1)).map (·.2)):=by
    unfold En;rw[VW,hpt];refine XJ fun x _=>?_
    rw[Yh,VX]
    by_cases h1:x.ky=pr.2 <;> by_cases h2:x.ky∈(ps.take i).map (·.2) <;> simp[h1,h2]
   rw[ek]at this;exact this
  .obtain⟨⟨a,b,c,rfl⟩,bG,kdi⟩:=h;rw[hzp.1,Yv (Y9 _)]at kdi;refine hN _ _ ?_;clear hN N;rw[ZU W.kd.nk hpp]at kdi;have RG:=W2.ro.offD1 W2.kd.dd W2.n1 W2.n2 W2.n3 bG;have klG:=KP W2.kd.dd bG;have hzG:Pw (Gh G') zs ps:=hzp.imp fun x y ⟨t,b,h1,h2,h3⟩=>⟨t,b,h1,klG.t h2,klG.t h3⟩
   have e4G:=klG.l e4;refine Nl fun N hN=>?_
   walk_at"r";have now:=W.st.now;refine⟨RG.mt rfl,m,dr,df,dw,R,t,rfl,RG,by lia,by lia,fun ps2 le G5 hpp2 hps2 hle hn hE hnl=>?_⟩;have hpe:ps2=ps:=vX hps2 hps (hpp2.trans (by rw[<-W.ab.over];exact hpp.symm));subst hpe;have kl5:=FQ RG (R0:={R with now:=t}) rfl hn.kp;have e45:=kl5.l e4G;have hz5:Pw (Gh G5) zs ps2:=hzG.imp fun x y ⟨t,b,h1,h2,h3⟩=>⟨t,b,h1,kl5.t h2,kl5.t h3⟩
   have kd5:=kdi.keep RG (R0:={R with now:=t}) rfl W.n1 W.n2 W.n3 hn.kp;have hzl:zs.length <=100:=by
    rw[hzp.1,hpp.length_eq];unfold Rl;rw[Y1];exact YD (YB ..) (by lia)
   refine⟨⟨_,JA.of e45⟩,?_⟩;obtain⟨Pc,ePc⟩:∃Pc:Nat->List V->L2.St->Hp->Prop,Pc=fun j ys σ' G'=>∃ (v v2:Option V),σ'=[v,v2]/\Jo G5 G'/\Pw (Aq CL G') ys (Nj (ps2.take j)):=⟨_,rfl⟩
   refine AV (xs:=zs) Pc (by rw[ePc];exact⟨_,_,rfl,Jo.refl _,.nil⟩) ?_ (Ni (by lia)) ?_ ?_ <;> rw[ePc]
   .rintro j ys σ' G' ⟨v,v2,rfl,sG,pw⟩ _;exact⟨JA.of (sG _ _ e45),by rw[pw.1];unfold Nj;rw[Y1,Yu];lia⟩
   .rintro j y ys σ' G' hy ⟨v,v2,rfl,sG,pw⟩;rw[<-ePc];obtain⟨pr,hpr,tq,tb,rfl,ht,htb⟩:=hz5.get hy;walk_at"r";refine⟨_,N8.of (sG _ _ ht),rfl,_,_,rfl,_,_,rfl,rfl,Ni (by decide),fun p3 G3 hp3 s3 e3=>?_⟩;rw[ePc];refine⟨_,_,rfl,sG.trans s3,?_⟩;have etk:ps2.take (j+ 1)=ps2.take j++[pr]:=by rw[YQ,hpr];rfl
    unfold Nj at pw ⊢;rw[etk,Yh];refine Pw.snoc ⟨pw.1,fun i x y a b=>?_⟩ ⟨p3,tb,rfl,e3,s3 _ _ (sG _ _ htb)⟩;have h1:=pw.2 i x y a b;rw[Ya]at b;obtain⟨pq,_,rfl⟩:=Yl.mp b;obtain⟨t3,tk3,z1,z2,z3⟩:=h1;exact⟨t3,tk3,z1,s3 _ _ z2,s3 _ _ z3⟩
   rintro ys2 σ2 G6 ⟨v, v2, rfl, s6, pw6⟩ l7 G7 hl7 s7 e7;rw [hz5.1, Yv (Y9 _)] at pw6;have s57 := s6.trans s7;obtain ⟨ys, eys, dys⟩ := (Su (K := K) hE).klt (TZ.of s57);obtain ⟨ws, ews, dws⟩ := Su (K := K) (CL := CL) (l := l7) (G := G7) (ps := ps2) ⟨ys2, e7, by
    unfold Nj at pw6 ⊢;refine ⟨pw6.1, fun i x y a b => ?_⟩;have h1 := pw6.2 i x y a b;rw [Ya] at b;obtain ⟨pq, _, rfl⟩ := Yl.mp b;obtain ⟨t3, tk3, z1, z2, z3⟩ := h1;exact ⟨t3, tk3, z1, s7 _ _ z2, s7 _ _ z3⟩⟩
   have hev:∀ev∈Nj ps2,DO ev:=fun ev g=>by
    obtain⟨pq,hq,rfl⟩:=Y5.mp g;obtain⟨e,g,_,_,e4'⟩:=Ln (hpp.mem_iff.mp hq);exact⟨by rw[<-e4'];exact W.kd.ok e g,.inl rfl⟩
   refine⟨_,_,.lst (JA.of eys) dys,.lst (JA.of ews) dws,CC hev,CC hev,_,rfl,?_⟩;rw[Y2 (by rw[Ze];simp)];refine hN _ _ ?_;clear hN N;obtain⟨K2,eK2⟩:∃K2,K2=ks.filter fun e=> !RQ R.wt t e:=⟨_,rfl⟩
   obtain⟨R2,eR2⟩:∃R2,R2=Dj R t:=⟨_,rfl⟩;have ab2:Tn K2 (Jp R2.es):=by rw[eK2,eR2];exact W.ab.stay
   have kd7:Ds G7 d K2:=by rw[eK2];exact kd5.mono s57
   have ro7:Jr C CR G7 m dr df dw R2:=by rw[eR2];exact hn.ok.mono s57
   have S2:D9 ls R2 t 100:=by
    rw[eR2];refine⟨W.st.ru,W.st.wt,Xd _,fun e g=>?_,?_,?_⟩
    .obtain⟨x,hx,a1,a2,a3,a4⟩:=W.st.es e (Yr.mp g).1;exact⟨x,hx,a1,a2,a3,by lia⟩
    .exact XR (BZ (Xs _ YM)) W.st.tot
    .exact YD (YB ..) W.st.len
   have wt2:R2.wt=R.wt:=by rw[eR2];rfl
   have late:∀e∈R2.es,t < e.first+ R.wt/\e∈R.es:=fun e g=>by
    rw[eR2]at g;have:=(Yr.mp g).2;simp[Nn]at this;exact⟨this,(Yr.mp g).1⟩
   have q2:∀G8,Jo G7 G8->Q (.bl true) G8:=fun G8 s8=>q R2 K2 G8 ⟨ro7.mono s8,kd7.mono s8,ab2,W.n1,W.n2,W.n3,S2⟩ wt2 late ((TZ.of s02).trans (klG.trans (kl5.trans (TZ.of (s57.trans s8)))))
   clear q late eR2 eK2 ews dws eys dys hev e7 pw6 hl7 s57 s7 s6 hnl hE hn kd5 hz5 e45 kl5;refine Nl fun N hN=>?_
   walk_at"r";have hkl2:=ab2.len;have hal2:(Jp R2.es).length=R2.es.length:=Y1 ..;have hl2:=S2.len;have hrl2:(MU K2).length=K2.length:=Y1 ..;obtain⟨Pv,ePv⟩:∃Pv:Nat->List V->L2.St->Prop,Pv=fun i ys σ'=>∃ (v:Option V),ys=((K2.take i).map fun e=>V.int (e.tm+ R.wt))/\σ'=[v,some (.int R.wt),some (.ref d)]:=⟨_,rfl⟩
   refine Ai kd7.dd (fun Rr h=>by walk_at"r";exact h) Pv (by rw[ePv];exact⟨_,rfl,rfl⟩) ?_ (by lia) ?_ ?_ <;> rw[ePv]
   .rintro i ys σ' ⟨v,rfl,rfl⟩;rw[Y1,Yu];lia
   .rintro Hf o hfo hfd i b k v ys σ' hk hb ⟨v0,rfl,rfl⟩;rw[<-ePv];obtain⟨x,hx,rfl,rfl⟩:=FI hk;have hxm:=Yk hx;have htt:=kd7.tt x hxm;have htt':Hf x.t=some (.tup [.int x.tm,.int x.mn]):=by rw[hfo _ (Jm htt kd7.dd nofun)];exact htt
    have hb':Hf b=some (.tup (TD x.ky)):=by rw[hfo b (Jm hb kd7.dd nofun)];exact hb
    walk_at"r";refine⟨_,.inr ⟨_,NB x.ky,b,.inr ⟨o,hfd⟩,rfl,hb',(EG kd7.nk hxm).symm⟩,_,rfl,_,N8.of htt',_,rfl,_,rfl,?_⟩;rw[ePv];dsimp only;rw[YQ,hx,XX,Yh]
    first
    |exact⟨⟨_,rfl,rfl⟩,rfl⟩
    |exact⟨_,rfl,rfl⟩
   rintro ys σ2 ⟨v,rfl,rfl⟩ lp G8 hlp s8 e8;rw[hrl2,Yv (Y9 _)]at e8;obtain⟨ns,ens⟩:∃ns:List Int,ns=K2.map fun e=>e.tm+ R.wt:=⟨_,rfl⟩
   have e8':G8 lp=some (.lst (ns.map V.int)):=by rw[e8,ens,Yw];rfl
   refine⟨lp,rfl,ns,JA.of e8',by rw[ens,Y1];lia,fun ms l9 G9 hpm hso hl9 s9 e9=>hN _ _ ?_⟩;clear hN N;have s79:=s8.trans s9;have ro9:=ro7.mono s79;have kd9:=kd7.mono s79;have ens2:ns=R2.es.map fun e=>e.first+ R2.wt:=by
    rw[ens,wt2];have:=YR (List.map fun z:Ky×Int×Int=>z.2.1+ R.wt) ab2;unfold Jp at this;simpa[Yw,Uo] using this
   walk_at"r";refine⟨ro9.mt rfl,cJ (K:=K) ro9 (by lia) (by rw[<-ens2];exact hpm) hso fun G10 x dx s10 hat hdx hsx hex=>⟨Ni (by decide),fun p11 G11 h11 s11 e11=>⟨_,s11 _ _ (s10 _ _ e9),_,e11,Ni (by simp[hpm.length_eq,ens];lia),fun p12 G12 h12 s12 e12=>⟨_,JA.of e12,_,hat,?_⟩⟩⟩⟩;have s912:=s10.trans (s11.trans s12);refine⟨_,_,hdx G12,hdx G12,hsx,hsx,_,rfl,?_⟩;rw[Y3 (by rw[hex])];have ro12:=ro9.mono s912;have kd12:=kd9.mono s912;refine⟨ro12.mt rfl,m,dr,df,dw,R2,rfl,ro12,by lia,fun ks3 l3 G13 hp3 hs3 hl3 s13 k3=>?_⟩;have kd13:=kd12.mono s13;refine⟨.inr (.inr (.inl ⟨rfl,.inr ⟨_,kd13.dd⟩⟩)),_,kd13.dd,fun v9 G14 h9 s14 e14=>⟨d,e14,_,s14 _ _ kd13.dd,K2.map (·.ky),Pe K2,by rw[Y1];lia,fun ks4 ts l4 G15 hp4 hs4 htl ht hl4 s15 e15=>?_⟩⟩;have hkk:K2.map (·.ky)=R2.es.map (·.ky):=by rw[ab2.keys,Gd]
   have hkk3:ks3=ks4:=PX hs3 hs4 (hp3.trans (by rw[<-hkk];exact hp4.symm));subst hkk3;obtain⟨zs3,hz3,hzp3⟩:=k3.zs;have s1315:=s14.trans s15;have hkok:∀k∈ks3,Tp k:=fun k hk=>by
    obtain⟨e,g,rfl⟩:=Y5.mp (hp3.mem_iff.mp hk);exact S2.kok L e g
   have hz4:Pw (fun x k=>∃t,x=V.ref t/\G15 t=some (.tup (TD k))) (ts.map V.ref) ks3:=by
    refine⟨by rw[Y1];exact htl,fun j x y a b=>?_⟩;rw[Ya]at a;obtain⟨t,ht',rfl⟩:=Yl.mp a;exact⟨t,rfl,s15 _ _ (ht j t y ht' b)⟩
   refine⟨_,_,.lst (JA.of (s1315 _ _ hz3)) (C3 (hzp3.imp fun x k ⟨t,a,b⟩=>⟨t,a,s1315 _ _ b⟩)),.lst (JA.of e15) (C3 hz4),Hj hkok,Hj hkok,?_⟩;rw[Pz];exact q2 _ (s79.trans (s912.trans (s13.trans s1315)))
end
theorem xT(xs:List V)(lo hi:Nat):Gv xs (some (lo:Int)) (some (hi:Int))=(xs.drop lo).take (hi - lo):=by
 unfold Gv HT.sIx;simp only;rw[Y2 (by lia),Y2 (by lia),Xv,Xv]
 by_cases h:lo <=xs.length
 .rw[XM h]
  by_cases h2:hi <=xs.length
  .rw[XM h2]
  .rw[Nat.min_eq_right (by lia),Yv (by rw[X1];lia),Yv (by rw[X1];lia)]
 .rw[Vm (by lia),Vm (by lia)];simp
section
variable{P:J9}{w:Jd}{K:Je}{mg:J5}{base:Jj}
theorem Az{H G:Hp}{a:Jg}{xs:List V}(h:JA K H a xs)(s:Jo H G):JA K G a xs:=by
 rcases h with(h|⟨o,h⟩)|h
 .exact .inl (.inl (s _ _ h))
 .exact .inl (.inr ⟨o,s _ _ h⟩)
 .exact .inr h
theorem QY {H G : Hp} {a : Addr} {xs : List V} (h : JA K H a xs) (k : Lf H G) : JA K G a xs := h.imp (fun h => by
 rcases h with h|⟨o,h⟩
 .exact .inl (k _ _ h (fun _ _ _ z=>by cases z) (fun _ z=>by cases z) (fun _ z=>by cases z) (fun _ _ z=>by cases z) (fun _ z=>by cases z))
 .exact .inr ⟨o, k _ _ h (fun _ _ _ z => by cases z) (fun _ z => by cases z) (fun _ z => by cases z) (fun _ _ z => by cases z) (fun _ z => by cases z)⟩) id
inductive HA(K:Je)(T:Jg)(vs:List V)(H:Hp)(Q:VK)(E:XK):Prop|mk (a:Jg) (ns:Jh) (_:vs=[.ref a]) (_:JA K H a (ns.map V.int)) (_:ns.length <=63) (_:Mx H T B5) (_:∀H',Q (.bl true) H')
abbrev EU:Stmt:=top 55
theorem RC:Nv ["_law_script","_law_cell","_law_letters_here","_law_out","_law_space","_law_wait","_law_room","_law_kept","_law_time","_law_step"] ["_law_script"] (Jl EU):=by walk_at"e"
theorem gI{f C CR CP CL T:Jg}{fd:Jb}(F:NK K "law" "law" EU f fd)(B:Bt mg)(B2:RF mg)(NO:Tc P w K mg base "_law_cell_at" 1 ["_law_script","_law_k"] [] (Ia K))(TB:Tc P w K mg base "_law_letters" 5 ["_law_cell"] [] Sl)(Br:Gg P w K mg base "Room" 3 (QZ C))(Mi:Tc P w K mg base "_law_begun" 10 ["_law_room","_law_letters_here","_law_cell","_law_kept","_law_space","_law_out"] [] (On C CR T))(ME:Tc P w K mg base "_law_completed" 10 ["_law_room","_law_letters_here","_law_cell","_law_kept","_law_time"] [] (Of C CR T))(Tw:Tc P w K mg base "_law_ended" 5 ["_law_room","_law_kept","_law_wait","_law_time"] [] (Kg C CR))(N4:T4 P w K mg base C "ends_at" 1 ["self"] [] (AL C CR))(JH:T4 P w K mg base C "bytes_kept" 2 ["self"] [] (AN C CR)):Ju P w K mg base N7 11 f fd ["_law_script"] (HA K T):=by
 refine F.ok RC (fun vs H Q E h=>?_) (fun cdv A outer s H vs Q E g h=>?_)
 .obtain⟨a,ns,rfl,_⟩:=h;rfl
 .obtain⟨a,ns,rfl,hs,hn,tb,q⟩:=h;refine⟨_,(JE (Tr 1 RC (Tb NO g.m rfl (Jv 0 (TH JI Jt)))) (JE (Tr 2 RC (Tb TB g.m rfl (Jv 1 Jt))) (JE (Tr 3 RC (EL K (Dn (TH Tj (TH Tj (TH Tj Jt)))) (Na (dI Dd) (Tb NO g.m rfl (Jv 0 (TH JI Jt))) JI))) (JE (Tr 4 RC (EL K (Dn (Nc (hs:=GR) (Na (dI OE) JI JI) (Nc (hs:=GR) (Na (NL Mo) JI (Na (dI Dd) (Na (dI Qn) (Tb NO g.m rfl (Jv 0 (TH JI Jt))) JI) JI)) Jt))) (Na (dI Dd) (Na (dI Qn) (Tb NO g.m rfl (Jv 0 (TH JI Jt))) JI) JI))) (JE (Tr 5 RC (Na (NL Mo) JI (Na (dI Dd) (Tb NO g.m rfl (Jv 0 (TH JI Jt))) (Na (dI OE) JI JI)))) (JE (Tr 6 RC (Eo Br g.m rfl (TH Tj (Jv 5 (Jv 4 (Jv 3 (TH Tj Jt))))))) (JE (Tr 7 RC CV) (JE (Tr 8 RC (Tb Mi g.m rfl (Jv 6 (Jv 2 (Jv 1 (Jv 7 (Jv 4 (Jv 3 Jt)))))))) (JE (Tg (PW.pt (RD (Tx IQ (Jn 8) DY) (RJ (DD (MO (Tb ME g.m rfl (Jv 6 (Jv 2 (Jv 1 (Jv 7 (Jv 8 Jt))))))))))) (JM (Nk Er)) TC) (JE (Ed Xh rfl (GS (K:=K) rfl (Na (Hl CQ) (Gk (N':=["_law_one"]) (caps:=[none]) (Do (sc:=Jl EU) (N:=["_law_script","_law_cell","_law_letters_here","_law_out","_law_space","_law_wait","_law_room","_law_kept","_law_time","_law_step"]) rfl rfl (by decide +kernel)) rfl (GS (K:=K) rfl (KO (HV (Km (K:=K) rfl)) (Jn 0) (CH JI) (CH JI))) (fun _ _ _ _ _=>(D0 (i:=0) (Dm (N:=["_law_one"]) rfl (by decide +kernel)) rfl (Or.inl rfl))) (fun _ _ _ _ _=>Gj) (fun _ _ _ _ _=>(Na (dI Dd) (Jn 0) JI))) (Dn (TH JI (TH JI Jt))))) (Dr 9 RC) (JE (Tr 8 RC (Na (NL Mo) (Jn 8) (Jn 9))) (JE (FK (Tg (PW.pt (A2 (Tx (GK GG) (Jn 9) JI) (Ab (Tx AJ (Dc (Jn 6) N4 g.m) DY)))) (JM (Tr 8 RC (Tu (LB rfl) B.max (Jv 8 (DZ (Dc (Jn 6) N4 g.m) Jt))))) TC)) (JM (Tg (DD (MO (Tb Tw g.m rfl (Jv 6 (Jv 7 (Jv 5 (Jv 8 Jt))))))) (JM (Nk Er)) TC))))) (JM (Nk (Dy (Tb Tw g.m rfl (Jv 6 (Jv 7 (Jv 5 (Nc (hs:=GR) (Na (NL Mo) (Jn 8) (Jn 5)) Jt))))) (GU (D7 (GK GG) (Dc (Jn 6) JH g.m) JI (Dx _)))))))))))))))),?_⟩;refine Nl fun N b=>?_
  walk_at"r";refine⟨a,ns,0,rfl,hs,fun c0=>b _ _ ?_⟩;clear b N;refine Nl fun N b=>?_
  walk_at"r";refine⟨c0,rfl,fun ll xs ls G1 hll s1 e1 pw1 L=>b _ _ ?_⟩;clear b N;refine Nl fun N b=>?_
  walk_at"r";refine⟨Ni (by decide),fun p2 G2 hp2 s2 e2=>?_⟩;refine⟨a,ns,1,rfl,Az hs (s1.trans s2),fun c1=>?_⟩;walk_at"r";obtain⟨out,hout,ho⟩:∃out:Str,GH [V.str "oldest",V.str "widest",V.str "own"] (c1%3)=some (.str out)/\(out="oldest"\/out="widest"\/out="own"):=by
   have:c1%3=0\/c1%3=1\/c1%3=2:=by lia
   rcases this with z|z|z <;> rw[z]
   .exact⟨_,rfl,.inl rfl⟩
   .exact⟨_,rfl,.inr (.inl rfl)⟩
   .exact⟨_,rfl,.inr (.inr rfl)⟩
  refine⟨by decide,_,JA.of e2,_,hout,b _ _ ?_⟩;clear b N;have s12:=s1.trans s2;refine Nl fun N b=>?_
  walk_at"r";refine⟨⟨by decide,by decide,by decide⟩,a,ns,1,rfl,Az hs s12,fun c2=>⟨_,rfl,⟨by decide,by decide⟩,by decide,Ni (by decide),fun p3 G3 hp3 s3 e3=>⟨a,ns,1,rfl,Az hs (s12.trans s3),fun c3=>⟨_,rfl,⟨by decide,by decide⟩,by decide,_,JA.of e3,?_⟩⟩⟩⟩;obtain⟨sp,hsp,hs1⟩:∃sp:Int,GH [V.int (10 ^ Int.toNat 6),V.int (60+ c2 / 6%300)] (c3 / 3%2)=some (.int sp)/\1 <=sp:=by
   have:c3 / 3%2=0\/c3 / 3%2=1:=by lia
   rcases this with z|z <;> rw[z]
   .exact⟨_,rfl,by decide⟩
   .exact⟨_,rfl,by lia⟩
  refine⟨_,hsp,b _ _ ?_⟩;clear b N;have s13:=s12.trans s3;refine Nl fun N b=>?_
  walk_at"r";refine⟨a,ns,2,rfl,Az hs s13,fun c4=>⟨⟨by decide,by decide,by decide⟩,_,rfl,by decide,b _ _ ?_⟩⟩;clear b N;obtain⟨wt,ewt,hwt⟩:∃wt:Int,150+ c4%10 ^ Int.toNat 9=wt/\150 <=wt:=⟨_,rfl,by have:=V5 c4 (show(10:Int) ^ Int.toNat 9≠0 by decide);lia⟩;rw[ewt];refine Nl fun N b=>?_
  walk_at"r";refine⟨"refuse",out,"rest",wt,sp,rfl,.inr (.inr rfl),by lia,hs1,ho,.inr rfl,fun m dr df dw G4 s4 hm hdr hdf hdw hR=>b _ _ ?_⟩;clear b N;refine Nl fun N b=>?_
  walk_at"r";refine fun d G5 hd s5 e5=>b _ _ ?_
  clear b N;have s15:=s13.trans (s4.trans s5);have hR5:=(hR CR).mono s5;obtain⟨R,p⟩:∃R:Js,R=⟨"refuse",wt,sp,out,"rest",0,[],[]⟩:=⟨_,rfl⟩;rw[<-p]at hR5;have s25:=s2.trans (s3.trans (s4.trans s5));have W5:DW C CR G5 m dr df dw d ls R [] 0 0:=by
   refine⟨hR5,⟨e5,(fun _ h=>nomatch h),Vf,(fun _ h=>nomatch h)⟩,by rw[p];rfl,fun z=>?_,fun z=>?_,fun z=>?_,⟨by rw[p],by rw[p];exact hwt,by rw[p];exact Xd _,by rw[p];exact(fun _ h=>nomatch h),by rw[p];show(0:Int) <=sp;lia,by rw[p];exact Y9 _⟩⟩
   .rw[z,(hR CR).dR]at hd;cases hd
   .rw[z,(hR CR).dF]at hd;cases hd
   .rw[z,(hR CR).dW]at hd;cases hd
  have e15:=s25 _ _ e1;have pw5:Pw (E8 G5) xs ls:=pw1.imp fun v x h=>h.klt (TZ.of s25)
  have tb5:=tb.same s15;have hs5:=Az hs s15;clear e2 e3 s1 s2 s3 s4 s5 s12 s13 s25 hp2 hp3 hR hdr hdf hdw hm hd e5 hR5 pw1 e1 hsp hout ewt;refine Nl fun N b=>?_
  walk_at"r";refine⟨m,dr,df,dw,d,ll,R,xs,ls,c0,by rw[p],W5,by rw[p],e15,pw5,L,tb5,fun tm R1 ks1 G6 t0 t1 W6 hws6 hwt6 hsp6 hag6 e6 pw6 tb6 kp6=>b _ _ ?_⟩;clear b N;have hs6:=QY hs5 kp6;have ewt:R.wt=wt:=by rw[p]
  rw[ewt]at hwt6;refine Nl fun N b=>?_
  walk_at"r";rw[Y2 (by simp)];refine⟨m,dr,df,dw,d,ll,R1,ks1,xs,ls,c0,tm,rfl,W6,t0,t1,hws6,e6,pw6,L,tb6,fun R2 ks2 G7 W7 hwt7 kp7=>⟨_,rfl,?_⟩⟩;rw[Y2 (by simp)];refine b _ _ ?_;clear b N;rw[hwt6]at hwt7;have hs7:=QY hs6 kp7;clear kp6 kp7 hs6 W6 e6 pw6 tb6 hws6 hwt6 hsp6 hag6 W5 e15 pw5 tb5 hs5 ewt p;refine Nl fun N b=>?_
  walk_at"r";refine⟨_,hs7,fun p8 G8 hp8 s8 e8=>⟨⟨_,JA.of e8⟩,?_⟩⟩;obtain⟨us,eus,hul⟩:∃us:List Int,Gv (ns.map V.int) (some 3) (some 20)=us.map V.int/\us.length <=63:=by
   have:=xT (ns.map V.int) 3 20;refine⟨(ns.drop 3).take 17,this.trans (by rw[List.map_take,W8]),?_⟩;rw[Yu,X1];lia
  rw[eus]at e8;obtain⟨Pc,ePc⟩:∃Pc:Nat->List V->L2.St->Hp->Prop,Pc=fun j ys σ' G'=>∃ (v:Option V) (qs:Jh),ys=qs.map V.int/\qs.length=j/\(∀x∈qs,0 <=x)/\σ'=[v]/\G'=G8:=⟨_,rfl⟩
  refine AV (xs:=us.map V.int) Pc (by rw[ePc];exact⟨none,[],rfl,rfl,(fun _ h=>nomatch h),rfl,rfl⟩) ?_ (Ni (by rw[Y1];lia)) ?_ ?_ <;> rw[ePc]
  .rintro j ys σ' G' ⟨v,qs,rfl,hq,_,rfl,rfl⟩ _;exact⟨JA.of e8,by rw[Y1];lia⟩
  .rintro j y ys σ' G' hy ⟨v,qs,rfl,hq,hq0,rfl,rfl⟩;rw[<-ePc];rw[Ya]at hy;obtain⟨u,hu,rfl⟩:=Yl.mp hy;walk_at"r";refine⟨by decide,?_⟩;rw[ePc];refine⟨_,qs++[u%3],by rw[Yh];rfl,by simp[hq],fun x hx=>?_,rfl,rfl⟩;rcases Yq.mp hx with z|z
   .exact hq0 x z
   .rw[Yb.mp z];lia
  rintro ys σ' H0 ⟨v, qs, rfl, hq, hq0, rfl, rfl⟩ l9 G9 hl9 s9 e9;rw [Y1] at hq;refine ⟨Ni (by decide), fun p10 G10 hp10 s10 e10 => ⟨l9, rfl, _, s10 _ _ e9, _, e10, Ni (by simp; lia), fun lt G11 hlt s11 e11 => ⟨⟨_, JA.of e11⟩, ?_⟩⟩⟩;have s711 := s8.trans (s9.trans (s10.trans s11));obtain ⟨rs, ers, hr0, hrl⟩ : ∃ rs : List Int, List.map V.int qs ++ [V.int 0, V.int 1] = rs.map V.int /\ (∀ x ∈ rs, 0 <= x) /\ rs.length <= 100 := ⟨qs ++ [0, 1], by rw [Yh]; rfl, fun x hx => by
   rcases Yq.mp hx with z|z
   .exact hq0 x z
   .simp at z; lia, by simp; lia⟩
  rw[ers]at e11;obtain⟨Pv,ePv⟩:∃Pv:Nat->L2.St->Hp->Prop,Pv=fun(i:Nat) σ' G=>∃ (t:Int) (R':Js) (aa:List KE) (v:Option V),σ'=[some (.ref a),some (.int c0),some (.ref ll),some (.str out),some (.int sp),some (.int wt),some (.ref m),some (.ref d),some (.int t),v]/\0 <=t/\DW C CR G m dr df dw d ls R' aa t 100/\R'.wt=wt/\TZ G11 G:=⟨_,rfl⟩
  refine Bm (xs:=rs.map V.int) Pv (by rw[ePv];exact⟨tm,R2,ks2,_,rfl,t0,W7.mono s711,hwt7,fun c o h _ _ _ _=>h⟩) ?_ ?_ ?_ <;> rw[ePv]
  .rintro i σ' G _ ⟨t,R',aa,v,rfl,_,_,_,kl⟩;exact JA.of (kl.l e11)
  .rintro i y σ' G hy ⟨t,R',aa,v,rfl,tn,Wi,fw,kl⟩;rw[<-ePv];rw[Ya]at hy;obtain⟨u,hu,rfl⟩:=Yl.mp hy;have u0:=hr0 u (Yk hu);refine Nl fun N1 hN1=>?_
   walk_at"r";refine hN1 _ _ ?_;clear hN1 N1;refine Nl fun N1 hN1=>?_
   walk_at"r";have hel:=Wi.st.len;refine⟨rfl,fun σ' H'=>Jo G H'/\∃t':Int,t <=t'/\σ'=[some (.ref a),some (.int c0),some (.ref ll),some (.str out),some (.int sp),some (.int wt),some (.ref m),some (.ref d),some (.int t'),some (.int u)],?_,?_⟩
   .by_cases hu1:u=1
    .rw[Y3 (Yt hu1)];refine⟨Wi.ro.mt rfl,m,dr,df,dw,R',rfl,Wi.ro,by lia,fun G2 s2=>⟨fun _=>?_,fun n hn hmin=>?_⟩⟩
     .rw[Y2 (by simp)];exact⟨s2,_,by lia,rfl⟩
     .rw[Y3 (by simp)];have ro2:=Wi.ro.mono s2;refine⟨ro2.mt rfl,m,dr,df,dw,R',rfl,ro2,by lia,fun G3 s3=>⟨fun z=>?_,fun n2 hn2 hmin2=>⟨_,rfl,s2.trans s3,_,?_,rfl⟩⟩⟩
      .rw[z]at hn;exact nomatch hn
      .split <;> lia
    .rw[Y2 (by simpa using hu1)];exact⟨Jo.refl _,_,by lia,rfl⟩
   rintro σ' H' ⟨s2,t',ht',rfl⟩;refine hN1 _ _ ?_;clear hN1 N1;have W2:=Wi.mono s2;walk_at"r";refine⟨m,dr,df,dw,d,R',aa,ls,t,t',by rw[fw],W2,ht',L,fun R3 ks3 G3 W3 hw3 _ kl3=>⟨_,rfl,?_⟩⟩;rw[Y2 (by simp),ePv];exact⟨t',R3,ks3,_,rfl,by lia,W3,hw3.trans fw,kl.trans ((TZ.of s2).trans kl3)⟩
  .rintro σ' G ⟨t,R',aa,v,rfl,tn,Wi,fw,kl⟩;refine b _ _ ?_;clear b N;walk_at"r";refine⟨m,dr,df,dw,d,R',aa,ls,t,t+ wt,by rw[fw],Wi,by have:=Wi.st.wt;lia,L,fun R3 ks3 G3 W3 hw3 late kl3=>⟨_,rfl,?_⟩⟩;rw[Y3 rfl];have he:R3.es=[]:=by
    cases hz:R3.es with
    |nil=>rfl
    |cons e r=>
     obtain⟨h1,h2⟩:=late e (by rw[hz];exact .head _);obtain⟨_,_,_,_,_,h3⟩:=Wi.st.es e h2;rw[fw]at h1
     lia
   refine⟨W3.ro.mt rfl,m,dr,df,dw,R3,rfl,W3.ro,by rw[he];decide,(by rw[he];exact(fun _ h=>nomatch h)),fun G4 s4=>⟨rfl,?_⟩⟩;rw[he];exact q _
abbrev L0:Stmt:=Mv (top 31) 2
theorem yH:Nv ["self","other"] ["self","other"] (Jl L0):=by walk_at"e"
theorem ZT{f C:Jg}{fd:Jb}(F:NK K "is_like" "Letter.is_like" L0 f fd)(L:Hd K C)(T2:T4 P w K mg base C "key" 1 ["self"] [] (Kk C)):Ju P w K mg base N7 2 f fd ["self","other"] (Lq C):=by
 refine F.ok yH (fun vs H Q E h=>?_) (fun cdv A outer s H vs Q E hr h=>?_)
 .obtain⟨p,g,i,e,r,n,o,j,ns,ns',k,k',rfl,_⟩:=h;rfl
 .obtain⟨p,g,i,e,r,n,o,j,ns,ns',k,k',rfl,⟨n1,n2,b,hL,hb⟩,⟨n1',n2',b',hL',hb'⟩,q⟩:=h;obtain⟨dx,fs,hp,f1,f2,f3,f4,f5,f6,f7⟩:=id hL;obtain⟨z,fs',v,g1,g2,g3,g4,g5,g6,g7⟩:=id hL';refine⟨_,(JM (Nk (Dy (D7 (FB (K:=K) (Room.units hr) rfl) (OG (Jn 0) T2 hr.m) (OG (Jn 1) T2 hr.m) (Dx _)) (Dy (D7 (FB (K:=K) (Room.units hr) rfl) (Rw (K:=K) rfl (Jn 0) rfl) (Rw (K:=K) rfl (Jn 1) rfl) (Dx _)) (GU (D7 (GK GG) (Rw (K:=K) rfl (Jn 0) rfl) (Rw (K:=K) rfl (Jn 1) rfl) (Dx _))))))),?_⟩;walk_at"r";refine⟨dx,fs,hp,f6,p,_,_,_,_,_,rfl,hL,fun c hc=>?_⟩;have s1:Jo H (upd H c (.tup [.int i,.str r,.str n])):=(Jo.refl H).new hc;refine⟨z,fs',s1 g _ v,g6,?_⟩;refine⟨g,_,_,_,_,_,rfl,hL'.same (s1 g),fun c2 hc2=>?_⟩;have n12:c≠c2:=Te (H:=upd H c (.tup [.int i,.str r,.str n])) Nb hc2;have s2:Jo H (upd (upd H c (.tup [.int i,.str r,.str n])) c2 (.tup [.int e,.str o,.str j])):=s1.trans ((Jo.refl _).new hc2);refine⟨_,_,E3 ((JG n12).trans Nb),E3 Nb,A9 i n1 n2,A9 e n1' n2',?_⟩;rw[LK];generalize upd (upd H c (.tup [.int i,.str r,.str n])) c2 (.tup [.int e,.str o,.str j])=H2 at s2 ⊢;have a:=q H2 s2;unfold GN at a;walk_at"r";refine DX (fun h1=>?_) (fun h1=>?_)
  .rw[h1,U5]at a;refine⟨C,dx,fs,s2 p _ hp,L.cl,L.body,_,f4,C,z,fs',s2 g _ v,L.cl,L.body,_,g4,_,_,Sb (s2 b _ hb),Sb (s2 b' _ hb'),OC ns,OC ns',?_⟩;rw[wN];walk_at"r";refine DX (fun h2=>?_) (fun h2=>?_)
   .rw[h2,U5]at a;refine⟨C,dx,fs,s2 p _ hp,L.cl,L.keep,_,f5,C,z,fs',s2 g _ v,L.cl,L.keep,_,g5,rfl,?_⟩;simpa using a
   .rw[Uw]at h2;rw[h2,XF]at a;exact a
  .rw[Uw]at h1;rw[h1,XF]at a;exact a
end
theorem wF{us:Ji}{v:Jf}(hl:(us++[v]).length=6):∃u0 u1 u2 u3 u4,us=[u0,u1,u2,u3,u4]:=by
 have a:us.length=5:=by rw[List.length_append]at hl;simpa using hl
 exact Kx a
theorem uT{K:Je}{s:Ja}{T:Jg}{oT:Option Addr}{nT:Nat}{sT:Array (Option Value)}{kV dc pm cd ct:Jf}{an:Option Addr}{u0 u1 u2 u3 u4 u5:Jf}(kx:K.In s.heap)(h:K.lookup T=some ⟨.type "tuple",oT,.seq #[.bool false] nT,sT⟩):
  BindsTo s (W.fnOf "__init__" "Letter.__init__" (Df Jw) (Jy Jw) (Jl Jw) (.ref T) kV dc pm an cd ct) ⟨[u0,u1,u2,u3,u4,u5],[]⟩ ((["self","number","sender","goal","body","keep"]:List Str).zip ([u0,u1,u2,u3,u4,u5]++[])):=by
 first
  |exact .of_eq rfl
  |exact .of_defaults rfl (kx _ _ h) rfl rfl rfl
theorem cI{K:Je}{s:Ja}{T:Jg}{oT:Option Addr}{nT:Nat}{sT:Array (Option Value)}{kV dc pm cd ct:Jf}{an:Option Addr}{u0 u1 u2 u3 u4:Jf}(kx:K.In s.heap)(h:K.lookup T=some ⟨.type "tuple",oT,.seq #[.bool false] nT,sT⟩):
  BindsTo s (W.fnOf "__init__" "Letter.__init__" (Df Jw) (Jy Jw) (Jl Jw) (.ref T) kV dc pm an cd ct) ⟨[u0,u1,u2,u3,u4],[]⟩ ((["self","number","sender","goal","body","keep"]:List Str).zip ([u0,u1,u2,u3,u4]++[.bool false])):=by
 exact .of_defaults rfl (kx _ _ h) rfl rfl rfl
theorem vK{us:Ji}{v:Jf}(hl:(us++[v]).length=8):∃u0 u1 u2 u3 u4 u5 u6,us=[u0,u1,u2,u3,u4,u5,u6]:=by
 have a:us.length=7:=by rw[List.length_append]at hl;simpa using hl
 exact Zz a
theorem wA{K:Je}{s:Ja}{T:Jg}{oT:Option Addr}{nT:Nat}{sT:Array (Option Value)}{kV dc pm cd ct:Jf}{an:Option Addr}{u0 u1 u2 u3 u4 u5 u6 u7:Jf}(kx:K.In s.heap)(h:K.lookup T=some ⟨.type "tuple",oT,.seq #[.bool false] nT,sT⟩):
  BindsTo s (W.fnOf "__init__" "Piece.__init__" (Df JC) (Jy JC) (Jl JC) (.ref T) kV dc pm an cd ct) ⟨[u0,u1,u2,u3,u4,u5,u6,u7],[]⟩ ((["self","number","sender","goal","at","body","more","keep"]:List Str).zip ([u0,u1,u2,u3,u4,u5,u6,u7]++[])):=by
 first
  |exact .of_eq rfl
  |exact .of_defaults rfl (kx _ _ h) rfl rfl rfl
theorem dN{K:Je}{s:Ja}{T:Jg}{oT:Option Addr}{nT:Nat}{sT:Array (Option Value)}{kV dc pm cd ct:Jf}{an:Option Addr}{u0 u1 u2 u3 u4 u5 u6:Jf}(kx:K.In s.heap)(h:K.lookup T=some ⟨.type "tuple",oT,.seq #[.bool false] nT,sT⟩):
  BindsTo s (W.fnOf "__init__" "Piece.__init__" (Df JC) (Jy JC) (Jl JC) (.ref T) kV dc pm an cd ct) ⟨[u0,u1,u2,u3,u4,u5,u6],[]⟩ ((["self","number","sender","goal","at","body","more","keep"]:List Str).zip ([u0,u1,u2,u3,u4,u5,u6]++[.bool false])):=by
 exact .of_defaults rfl (kx _ _ h) rfl rfl rfl
local macro_rules | `(tactic| walk_at"A") => `(tactic| exact fun _ _ _ _ _ _ us hl => by obtain ⟨_, e⟩ := Rf hl; subst e; rfl)
local macro_rules | `(tactic| walk_at"B") => `(tactic| exact fun _ _ _ _ _ _ us hl => by obtain ⟨_, _, e⟩ := Gz hl; subst e; rfl)
local macro_rules | `(tactic| walk_at"C") => `(tactic| exact fun _ _ _ _ _ _ us hl => by obtain ⟨_, _, _, e⟩ := Bh hl; subst e; rfl)
local macro_rules | `(tactic| walk_at"D") => `(tactic| exact fun _ _ _ _ _ _ us hl => by obtain ⟨_, _, _, _, e⟩ := OL hl; subst e; rfl)
local macro_rules | `(tactic| walk_at"E") => `(tactic| exact fun _ _ _ _ _ _ us hl => by obtain ⟨_, _, _, _, _, e⟩ := Kx hl; subst e; rfl)
local macro_rules | `(tactic| walk_at"F") => `(tactic| exact fun _ _ _ _ _ _ us hl => by obtain ⟨_, _, _, _, _, _, e⟩ := Og hl; subst e; rfl)
set_option maxHeartbeats 0 in
theorem KN{l:W.OpenLaw}{w:Jd}{K:Je}{h:Jj}{mg:J5}{fa:Jg}(X:K.In h)(G:h.Ns mainGlobals mg)(hfa:mg "law"=some (.ref fa))
  {f_is_whole f_is_whole_within f_is_whole_from f_is_truth f_is_number f_is_name f_is_byte f_is_body f_is_rule f_is_out f_is_again f_are_shared_parts f_is_place f_has_room f_with_span f_lacking f_cell_at f_mixed f_key f_lawletters f_laworder cL_laworder tL_laworder f_lawfirst f_lawmade f_lawbegun f_lawdone f_lawended f_law C_Letter f_Letter_key f_Letter_is_like f_Letter_init T_Letter_init C_Piece f_Piece_key f_Piece_end f_Piece_init T_Piece_init C_Whole f_Whole_init C_Unlike f_Unlike_init C_Reading f_Reading_is_strange f_Reading_unlike_number f_Reading_take f_Reading_missing f_Reading_taken_body f_Reading_answer_to f_Reading_size f_Reading_init C_Room f_Room_check_time f_Room_let_go f_Room_is_resting f_Room_bytes_kept f_Room_end_waits f_Room_first_out f_Room_make_space f_Room_kept f_Room_ends_at f_Room_take_in f_Room_tick f_Room_come f_Room_init:Jg}
  {aRULES:Jg}
  {aOUTS:Jg}
  {aAGAINS:Jg}
  (q_is_whole:GF K "is_whole" KM f_is_whole)
  (q_is_whole_within:GF K "is_whole_within" IL f_is_whole_within)
  (q_is_whole_from:GF K "is_whole_from" KQ f_is_whole_from)
  (q_is_truth:GF K "is_truth" IP f_is_truth)
  (q_is_number:GF K "is_number" Le f_is_number)
  (q_is_name:GF K "is_name" HB f_is_name)
  (q_is_byte:GF K "is_byte" Kj f_is_byte)
  (q_is_body:GF K "is_body" Hs f_is_body)
  (q_is_rule:GF K "is_rule" O5 f_is_rule)
  (q_is_out:GF K "is_out" L9 f_is_out)
  (q_is_again:GF K "is_again" Kt f_is_again)
  (q_are_shared_parts:GF K "are_shared_parts" Im f_are_shared_parts)
  (q_is_place:GF K "is_place" Iq f_is_place)
  (q_has_room:GF K "has_room" O7 f_has_room)
  (q_with_span:GF K "with_span" Oa f_with_span)
  (q_lacking:GF K "lacking" IR f_lacking)
  (q_cell_at:GF K "_law_cell_at" L4 f_cell_at)
  (q_mixed:GF K "_law_mixed" IM f_mixed)
  (q_key:GF K "_law_key" LX f_key)
  (q_lawletters:GF K "_law_letters" Fk f_lawletters)
  (q_laworder:GA K "_law_order" FV f_laworder cL_laworder tL_laworder)
  (q_lawfirst:GF K "_law_first_out" A8 f_lawfirst)
  (q_lawmade:GF K "_law_room_made" AD f_lawmade)
  (q_lawbegun:GF K "_law_begun" IW f_lawbegun)
  (q_lawdone:GF K "_law_completed" CS f_lawdone)
  (q_lawended:GF K "_law_ended" BH f_lawended)
  (q_law:GF K "law" EU f_law)
  (qc_Letter:CF K "Letter" C_Letter)
  (na_Letter:NA K C_Letter ["number","sender","goal","body","keep"])
  (q_Letter_key:MF K C_Letter "key" "Letter.key" L7 f_Letter_key)
  (q_Letter_is_like:MF K C_Letter "is_like" "Letter.is_like" L0 f_Letter_is_like)
  (q_Letter_init:DF K C_Letter "Letter.__init__" Jw f_Letter_init T_Letter_init)
  (qc_Piece:CF K "Piece" C_Piece)
  (na_Piece:NA K C_Piece ["number","sender","goal","at","body","more","keep"])
  (q_Piece_key:MF K C_Piece "key" "Piece.key" LO f_Piece_key)
  (q_Piece_end:MF K C_Piece "end" "Piece.end" O3 f_Piece_end)
  (q_Piece_init:DF K C_Piece "Piece.__init__" JC f_Piece_init T_Piece_init)
  (qc_Whole:CF K "Whole" C_Whole)
  (na_Whole:NA K C_Whole ["body"])
  (q_Whole_init:MF K C_Whole "__init__" "Whole.__init__" ND f_Whole_init)
  (qc_Unlike:CF K "Unlike" C_Unlike)
  (na_Unlike:NA K C_Unlike ["at"])
  (q_Unlike_init:MF K C_Unlike "__init__" "Unlike.__init__" Nr f_Unlike_init)
  (qc_Reading:CF K "Reading" C_Reading)
  (na_Reading:NA K C_Reading ["rule","standing","cover","ending","reach"])
  (q_Reading_is_strange:MF K C_Reading "is_strange" "Reading.is_strange" Lj f_Reading_is_strange)
  (q_Reading_unlike_number:MF K C_Reading "unlike_number" "Reading.unlike_number" LF f_Reading_unlike_number)
  (q_Reading_take:MF K C_Reading "take" "Reading.take" IZ f_Reading_take)
  (q_Reading_missing:MF K C_Reading "missing" "Reading.missing" K4 f_Reading_missing)
  (q_Reading_taken_body:MF K C_Reading "taken_body" "Reading.taken_body" Hu f_Reading_taken_body)
  (q_Reading_answer_to:MF K C_Reading "answer_to" "Reading.answer_to" K0 f_Reading_answer_to)
  (q_Reading_size:MF K C_Reading "size" "Reading.size" IS f_Reading_size)
  (q_Reading_init:MF K C_Reading "__init__" "Reading.__init__" Nh f_Reading_init)
  (qc_Room:CF K "Room" C_Room)
  (na_Room:NA K C_Room ["rule","wait","space","out","again","now","readings","firsts","wholes"])
  (q_Room_check_time:MF K C_Room "check_time" "Room.check_time" Ol f_Room_check_time)
  (q_Room_let_go:MF K C_Room "let_go" "Room.let_go" Lu f_Room_let_go)
  (q_Room_is_resting:MF K C_Room "is_resting" "Room.is_resting" LL f_Room_is_resting)
  (q_Room_bytes_kept:MF K C_Room "bytes_kept" "Room.bytes_kept" HJ f_Room_bytes_kept)
  (q_Room_end_waits:MF K C_Room "end_waits" "Room.end_waits" FE f_Room_end_waits)
  (q_Room_first_out:MF K C_Room "first_out" "Room.first_out" BJ f_Room_first_out)
  (q_Room_make_space:MF K C_Room "make_space" "Room.make_space" Ii f_Room_make_space)
  (q_Room_kept:MF K C_Room "kept" "Room.kept" Lg f_Room_kept)
  (q_Room_ends_at:MF K C_Room "ends_at" "Room.ends_at" F8 f_Room_ends_at)
  (q_Room_take_in:MF K C_Room "take_in" "Room.take_in" KL f_Room_take_in)
  (q_Room_tick:MF K C_Room "tick" "Room.tick" Od f_Room_tick)
  (q_Room_come:MF K C_Room "come" "Room.come" Oq f_Room_come)
  (q_Room_init:MF K C_Room "__init__" "Room.__init__" NW f_Room_init)
  (kt_Whole:W.typeIn K (.ref C_Whole)=some (.type "type")/\W.mroIn K C_Whole (.type "object")=some true)
  (kt_Unlike:W.typeIn K (.ref C_Unlike)=some (.type "type")/\W.mroIn K C_Unlike (.type "object")=some true)
  (kmr_Whole_Whole:W.mroIn K C_Whole (.ref C_Whole)=some true)
  (kmr_Unlike_Whole:W.mroIn K C_Unlike (.ref C_Whole)=some false)
  (kmr_Unlike_Unlike:W.mroIn K C_Unlike (.ref C_Unlike)=some true)
  (qk:(∃t,W.nsIn K mainGlobals "MOST_NUMBER"=some (some (.int 65535 t)))/\(∃t,W.nsIn K mainGlobals "MOST_BYTE"=some (some (.int 255 t)))/\(∃t,W.nsIn K mainGlobals "MOST_SIGNS"=some (some (.int 8 t)))/\(∃t,W.nsIn K mainGlobals "MOST_BYTES"=some (some (.int 4000 t)))/\(∃t,W.nsIn K mainGlobals "STEP"=some (some (.int 8 t)))/\True)
  (q_RULES:W.nsIn K mainGlobals "RULES"=some (some (.ref aRULES))/\∃o n s u0 u1 u2,K.lookup aRULES=some ⟨.type "tuple",o,.seq #[.str "first" u0,.str "last" u1,.str "refuse" u2] n,s⟩)
  (q_OUTS:W.nsIn K mainGlobals "OUTS"=some (some (.ref aOUTS))/\∃o n s u0 u1 u2,K.lookup aOUTS=some ⟨.type "tuple",o,.seq #[.str "oldest" u0,.str "widest" u1,.str "own" u2] n,s⟩)
  (q_AGAINS:W.nsIn K mainGlobals "AGAINS"=some (some (.ref aAGAINS))/\∃o n s u0 u1,K.lookup aAGAINS=some ⟨.type "tuple",o,.seq #[.str "fresh" u0,.str "rest" u1] n,s⟩)
  (zs:NS K ["len","range","isinstance","all","min","max","int","bool","str","list","tuple","enumerate","zip","sum","sorted"])
  (nt:W.noTabs K=true):
  ∃ (c1 T1:Jg) (fd:Jb),W.tabIn K "_law_order"=some (c1,T1)/\W.noTabs K=true/\(∀ (s:Ja) (v:Jf),BindsTo s fd ⟨[v],[]⟩ [("_law_script",v)])/\∀base:Heap,W.Frag.In K base->base.Ns mainGlobals mg->RL mg base c1 T1->Ju l.prog w K mg base N7 11 fa fd ["_law_script"] (HA K T1):=by
 obtain⟨a_law,oc,od,kV,dc,pm,an,cd,ct,sl,l_law,c_law,k_law⟩:=q_law;have e:=hfa.symm.trans (W.mg_of X G a_law);cases e;have AK:=Cr (st:=EU) l_law c_law k_law;refine⟨cL_laworder,tL_laworder,W.fnOf "law" "law" (Df EU) (Jy EU) (Jl EU) .none kV dc pm an cd ct,q_laworder.tab,nt,fun s v=>.of_eq rfl,fun base kb nb LC_laworder=>?_⟩;have E:Dz l.prog w K mg base:=⟨fun e=>W.mg_of X G e,fun e=>W.mg_none_of X G e⟩;have kit_Whole_Whole:W.kitOne K (.ref C_Whole) (.ref C_Whole)=some true:=Oi kmr_Whole_Whole kt_Whole.1 kt_Whole.2 kmr_Whole_Whole;have kit_Unlike_Whole:W.kitOne K (.ref C_Unlike) (.ref C_Whole)=some false:=Oi kmr_Unlike_Whole kt_Whole.1 kt_Whole.2 kmr_Unlike_Unlike;have kit_Unlike_Unlike:W.kitOne K (.ref C_Unlike) (.ref C_Unlike)=some true:=Oi kmr_Unlike_Unlike kt_Unlike.1 kt_Unlike.2 kmr_Unlike_Unlike;have cl_Letter:=qc_Letter.2.1;have m_Piece:=E.of qc_Piece.1;have cl_Piece:=qc_Piece.2.1;have ic_Piece:=qc_Piece.2.2.2.2;have m_Whole:=E.of qc_Whole.1;have cl_Whole:=qc_Whole.2.1;have ic_Whole:=qc_Whole.2.2.2.2;have cl_Unlike:=qc_Unlike.2.1;have ic_Unlike:=qc_Unlike.2.2.2.2;have cl_Reading:=qc_Reading.2.1;have cl_Room:=qc_Room.2.1;obtain⟨g_RULES,_,_,_,_,_,_,tt_RULES⟩:=q_RULES;have g_RULES:=E.of g_RULES;have t_RULES:∀H,L2.N8 K H aRULES [.str "first",.str "last",.str "refuse"]:=fun H=>.inr ⟨_,_,_,tt_RULES,rfl,rfl,Ni (by simp),(.cons ⟨_,rfl⟩ (.cons ⟨_,rfl⟩ (.cons ⟨_,rfl⟩ .nil)))⟩
 obtain⟨g_OUTS,_,_,_,_,_,_,tt_OUTS⟩:=q_OUTS;have g_OUTS:=E.of g_OUTS;have t_OUTS:∀H,L2.N8 K H aOUTS [.str "oldest",.str "widest",.str "own"]:=fun H=>.inr ⟨_,_,_,tt_OUTS,rfl,rfl,Ni (by simp),(.cons ⟨_,rfl⟩ (.cons ⟨_,rfl⟩ (.cons ⟨_,rfl⟩ .nil)))⟩
 obtain⟨g_AGAINS,_,_,_,_,_,tt_AGAINS⟩:=q_AGAINS;have g_AGAINS:=E.of g_AGAINS;have t_AGAINS:∀H,L2.N8 K H aAGAINS [.str "fresh",.str "rest"]:=fun H=>.inr ⟨_,_,_,tt_AGAINS,rfl,rfl,Ni (by simp),(.cons ⟨_,rfl⟩ (.cons ⟨_,rfl⟩ .nil))⟩
 have B:Bt mg:=⟨E.no zs.1,E.no zs.2.1,E.no zs.2.2.1,E.no zs.2.2.2.1,E.no zs.2.2.2.2.1,E.no zs.2.2.2.2.2.1,E.no zs.2.2.2.2.2.2.1,E.no zs.2.2.2.2.2.2.2.1,E.no zs.2.2.2.2.2.2.2.2.1,E.no zs.2.2.2.2.2.2.2.2.2.1,E.no zs.2.2.2.2.2.2.2.2.2.2.1⟩;have B2:RF mg:=⟨E.no zs.2.2.2.2.2.2.2.2.2.2.2.2.2.1,E.no zs.2.2.2.2.2.2.2.2.2.2.2.2.2.2.1⟩;have B3:K5 mg:=⟨E.no zs.2.2.2.2.2.2.2.2.2.2.2.1,E.no zs.2.2.2.2.2.2.2.2.2.2.2.2.1⟩;have T:Cn mg:=⟨qk.1.imp fun _ e=>E.of e,qk.2.1.imp fun _ e=>E.of e,qk.2.2.1.imp fun _ e=>E.of e,qk.2.2.2.1.imp fun _ e=>E.of e,qk.2.2.2.2.1.imp fun _ e=>E.of e⟩;have L:Hd K C_Letter:=⟨cl_Letter,na_Letter.1,na_Letter.2.1,na_Letter.2.2.1,na_Letter.2.2.2.1,na_Letter.2.2.2.2.1⟩;have LP:Ru K C_Piece:=⟨cl_Piece,na_Piece.1,na_Piece.2.1,na_Piece.2.2.1,na_Piece.2.2.2.1,na_Piece.2.2.2.2.1,na_Piece.2.2.2.2.2.1,na_Piece.2.2.2.2.2.2.1⟩;have LW:BY K C_Whole "body":=⟨cl_Whole,na_Whole.1⟩
 have LU:BY K C_Unlike "at":=⟨cl_Unlike,na_Unlike.1⟩
 have LR:GO K C_Reading:=⟨cl_Reading,na_Reading.1,na_Reading.2.1,na_Reading.2.2.1,na_Reading.2.2.2.1,na_Reading.2.2.2.2.1⟩;have LM:D2 K C_Room:=⟨cl_Room,na_Room.1,na_Room.2.1,na_Room.2.2.1,na_Room.2.2.2.1,na_Room.2.2.2.2.1,na_Room.2.2.2.2.2.1,na_Room.2.2.2.2.2.2.1,na_Room.2.2.2.2.2.2.2.1,na_Room.2.2.2.2.2.2.2.2.1⟩;have g_is_whole:=E.fb q_is_whole (fun Nu=>aH Nu B) (by walk_at"A");have g_is_whole_within:=E.fb q_is_whole_within (fun JW=>yA JW g_is_whole) (by walk_at"C");have g_is_whole_from:=E.fb q_is_whole_from (fun JU=>wJ JU g_is_whole) (by walk_at"B");have g_is_truth:=E.fb q_is_truth (fun T7=>ZO T7 B) (by walk_at"A");have g_is_number:=E.fb q_is_number (fun TL=>jK TL T g_is_whole_within) (by walk_at"A");have g_is_name:=E.fb q_is_name (fun TX=>xZ TX T B) (by walk_at"A");have g_is_byte:=E.fb q_is_byte (fun MD=>tV MD T g_is_whole_within) (by walk_at"A");have g_is_body:=E.fb q_is_body (fun MG=>aR MG T B g_is_byte) (by walk_at"A");have g_is_rule:=E.fb q_is_rule (fun MH=>dZ MH B g_RULES t_RULES) (by walk_at"A");have g_is_out:=E.fb q_is_out (fun D1=>cQ D1 B g_OUTS t_OUTS) (by walk_at"A");have g_is_again:=E.fb q_is_again (fun M9=>ZY M9 B g_AGAINS t_AGAINS) (by walk_at"A");have g_are_shared_parts:=E.fb q_are_shared_parts (fun JR=>ZD JR g_is_number g_is_name g_is_body g_is_truth) (by walk_at"E");have g_is_place:=E.fb q_is_place (fun Mf=>mX Mf T g_is_whole) (by walk_at"A");have g_has_room:=E.fb q_has_room (fun Me=>rA Me T) (by walk_at"C");obtain⟨a_Letter_init,i_Letter_init,_,_,_,_,_,_,_,_,_,l_Letter_init,c_Letter_init,_,_,_,t_Letter_init⟩:=q_Letter_init;have o_Letter:Ju l.prog w K mg base N7 6 f_Letter_init _ ["self","number","sender","goal","body","keep"] (Al C_Letter):=wX ⟨_,_,_,_,_,_,_,_,_,_,rfl,l_Letter_init,c_Letter_init⟩ L B g_are_shared_parts;have M_Letter:Mk K C_Letter f_Letter_init:=⟨qc_Letter.2.2.1,a_Letter_init,i_Letter_init,qc_Letter.2.2.2.1⟩;have i_Letter:Rj l.prog w K mg base "Letter" C_Letter 6 ["self","number","sender","goal","body","keep"] [] (Al C_Letter):=⟨_,_,[],o_Letter,E.of qc_Letter.1,M_Letter,(fun s us kx hl=>by rw[List.append_nil]at hl ⊢;obtain⟨_,_,_,_,_,_,rfl⟩:=Og hl;exact uT kx t_Letter_init),.nil⟩
 have i_Letter_d1:Rj l.prog w K mg base "Letter" C_Letter 6 ["self","number","sender","goal","body","keep"] [.bl false] (Al C_Letter):=⟨_,_,[.bool false],o_Letter,E.of qc_Letter.1,M_Letter,(fun s us kx hl=>by obtain⟨u0,u1,u2,u3,u4,rfl⟩:=wF hl;exact cI kx t_Letter_init),.cons rfl .nil⟩
 have m_Letter_key:=E.mb (sp:=Kk C_Letter) qc_Letter q_Letter_key (fun T2=>mQ T2 L) (by walk_at"A");have m_Letter_is_like:=E.mb (sp:=Lq C_Letter) qc_Letter q_Letter_is_like (fun NM=>ZT NM L m_Letter_key) (by walk_at"B");obtain⟨a_Piece_init,i_Piece_init,_,_,_,_,_,_,_,_,_,l_Piece_init,c_Piece_init,_,_,_,t_Piece_init⟩:=q_Piece_init;have o_Piece:Ju l.prog w K mg base N7 6 f_Piece_init _ ["self","number","sender","goal","at","body","more","keep"] (AH C_Piece):=tS ⟨_,_,_,_,_,_,_,_,_,_,rfl,l_Piece_init,c_Piece_init⟩ LP B g_are_shared_parts g_is_place g_is_truth g_has_room;have M_Piece:Mk K C_Piece f_Piece_init:=⟨qc_Piece.2.2.1,a_Piece_init,i_Piece_init,qc_Piece.2.2.2.1⟩;have i_Piece:Rj l.prog w K mg base "Piece" C_Piece 6 ["self","number","sender","goal","at","body","more","keep"] [] (AH C_Piece):=⟨_,_,[],o_Piece,E.of qc_Piece.1,M_Piece,(fun s us kx hl=>by rw[List.append_nil]at hl ⊢;obtain⟨_,_,_,_,_,_,_,_,rfl⟩:=yR hl;exact wA kx t_Piece_init),.nil⟩
 have i_Piece_d1:Rj l.prog w K mg base "Piece" C_Piece 6 ["self","number","sender","goal","at","body","more","keep"] [.bl false] (AH C_Piece):=⟨_,_,[.bool false],o_Piece,E.of qc_Piece.1,M_Piece,(fun s us kx hl=>by obtain⟨u0,u1,u2,u3,u4,u5,u6,rfl⟩:=vK hl;exact dN kx t_Piece_init),.cons rfl .nil⟩
 have m_Piece_key:=E.mb (sp:=KY C_Piece) qc_Piece q_Piece_key (fun TW=>uX TW LP) (by walk_at"A");have m_Piece_end:=E.mb (sp:=Oy C_Piece) qc_Piece q_Piece_end (fun JX=>vL JX LP B) (by walk_at"A");have g_with_span:=E.fb q_with_span (fun TQ=>uI TQ B) (by walk_at"B");have g_lacking:=E.fb q_lacking (fun MA=>ZG MA) (by walk_at"B");have i_Whole:=E.kb qc_Whole q_Whole_init (fun F=>vQ F LW B) (by walk_at"B");have i_Unlike:=E.kb qc_Unlike q_Unlike_init (fun F=>vR F LU) (by walk_at"B");have i_Reading:=E.kb qc_Reading q_Reading_init (fun F=>bL F LR) (by walk_at"B");have m_Reading_is_strange:=E.mb (sp:=Fq C_Reading C_Piece) qc_Reading q_Reading_is_strange (fun JK=>d7 JK LR LP (PC m_Piece_end)) (by walk_at"B");have m_Reading_unlike_number:=E.mb (sp:=Ow C_Reading C_Piece) qc_Reading q_Reading_unlike_number (fun N6=>dS N6 LR LP B3) (by walk_at"B");have m_Reading_take:=E.mb (sp:=L1 C_Reading C_Piece) qc_Reading q_Reading_take (fun T6=>aG T6 LR LP B B3 (PC m_Piece_end) g_with_span) (by walk_at"B");have m_Reading_missing:=E.mb (sp:=Ij C_Reading) qc_Reading q_Reading_missing (fun NF=>bJ NF LR g_lacking) (by walk_at"A");have m_Reading_taken_body:=E.mb (sp:=Ig C_Reading) qc_Reading q_Reading_taken_body (fun Ng=>xP Ng LR B) (by walk_at"A");have m_Reading_answer_to:=E.mb (sp:=Ih C_Reading C_Piece C_Whole C_Unlike) qc_Reading q_Reading_answer_to (fun Np=>nI Np LR LP m_Reading_is_strange m_Reading_unlike_number m_Reading_take m_Reading_missing m_Reading_taken_body (vC i_Whole) (cN i_Unlike)) (by walk_at"B");have m_Reading_size:=E.mb (sp:=Fe C_Reading) qc_Reading q_Reading_size (fun N5=>mT N5 LR B) (by walk_at"A");have i_Room:=E.kb qc_Room q_Room_init (fun F=>wZ F LM g_is_rule g_is_whole_from g_is_out g_is_again) (by walk_at"F");have m_Room_check_time:=E.mb (sp:=Hv C_Room C_Reading) qc_Room q_Room_check_time (fun JV=>jG JV LM g_is_whole_from) (by walk_at"B");have m_Room_let_go:=E.mb (sp:=C4 C_Room C_Reading) qc_Room q_Room_let_go (fun JY=>gY JY LM) (by walk_at"B");have m_Room_is_resting:=E.mb (sp:=Ox C_Room C_Reading) qc_Room q_Room_is_resting (fun NG=>eE NG LM) (by walk_at"B");have m_Room_bytes_kept:=E.mb (sp:=AN C_Room C_Reading) qc_Room q_Room_bytes_kept (fun JH=>rN JH LM B2 m_Reading_size) (by walk_at"A");have m_Room_end_waits:=E.mb (sp:=FH C_Room C_Reading) qc_Room q_Room_end_waits (fun JZ=>nY JZ LM B2 m_Room_let_go) (by walk_at"A");have m_Room_first_out:=E.mb (sp:=IV C_Room C_Reading) qc_Room q_Room_first_out (fun NR=>mM NR LM B m_Reading_size) (by walk_at"B");have m_Room_make_space:=E.mb (sp:=Iw C_Room C_Reading) qc_Room q_Room_make_space (fun NI=>dE NI LM m_Room_bytes_kept m_Room_let_go m_Room_first_out) (by walk_at"B");have m_Room_kept:=E.mb (sp:=Hm C_Room C_Reading) qc_Room q_Room_kept (fun NV=>nO NV LM B2) (by walk_at"A");have m_Room_ends_at:=E.mb (sp:=AL C_Room C_Reading) qc_Room q_Room_ends_at (fun N4=>xU N4 LM B B2) (by walk_at"A");have m_Room_take_in:=E.mb (sp:=Iy C_Room C_Reading C_Piece C_Letter) qc_Room q_Room_take_in (fun T8=>rP T8 LM LW ic_Whole ic_Unlike LU kit_Whole_Whole kit_Unlike_Whole B m_Whole (jL m_Piece_key) m_Room_is_resting (uM i_Reading) m_Reading_is_strange m_Reading_answer_to m_Room_make_space m_Room_let_go (Pd i_Letter_d1)) (by walk_at"B");have m_Room_tick:=E.mb (sp:=Lm C_Room C_Reading C_Letter) qc_Room q_Room_tick (fun TM=>aK TM LM m_Room_check_time m_Room_end_waits) (by walk_at"B");have m_Room_come:=E.mb (sp:=Fa C_Room C_Reading C_Piece C_Letter) qc_Room q_Room_come (fun NY=>bI NY LM LP B m_Piece ic_Piece m_Room_check_time m_Room_end_waits m_Room_take_in) (by walk_at"C");have g_cell_at:=E.fb (sp:=Ia K) q_cell_at (fun NO=>mS NO B) (by walk_at"B");have g_mixed:=E.fb q_mixed (fun Nm=>ZQ Nm) (by walk_at"B");have gl_mixed:=aI g_mixed;have g_key:=E.fb q_key (fun RK=>xS RK gl_mixed) (by walk_at"B");have g_lawletters:=E.fb q_lawletters (fun TB=>uW TB B gl_mixed g_key) (by walk_at"A");have g_laworder:=E.fa (sp:=H9 tL_laworder) q_laworder (fun FA_laworder=>uF FA_laworder B B2 LC_laworder g_mixed) (by walk_at"B");have g_lawfirst:=E.fb q_lawfirst (fun Mb=>wL Mb B) (by walk_at"C");have g_lawmade:=E.fb q_lawmade (fun MC=>wD MC B B2 g_lawfirst) (by walk_at"F");have g_lawbegun:=E.fb (sp:=On C_Room C_Reading tL_laworder) q_lawbegun (fun Mi=>rK Mi B B2 g_laworder gl_mixed (Q3 i_Piece_d1) g_lawmade m_Room_come m_Room_kept) (by walk_at"F");have g_lawdone:=E.fb (sp:=Of C_Room C_Reading tL_laworder) q_lawdone (fun ME=>tT ME B B2 g_laworder gl_mixed (Q3 i_Piece_d1) (Pd i_Letter_d1) (yN m_Letter_is_like) m_Room_come m_Room_bytes_kept) (by walk_at"E");have g_lawended:=E.fb (sp:=Kg C_Room C_Reading) q_lawended (fun Tw=>nR Tw B B2 m_Room_tick m_Room_ends_at m_Room_kept) (by walk_at"D");exact gI (CP:=C_Piece) (CL:=C_Letter) (CR:=C_Reading) AK B B2 g_cell_at g_lawletters (xA i_Room) g_lawbegun g_lawdone g_lawended m_Room_ends_at m_Room_bytes_kept
theorem t5{l:W.OpenLaw}{q:J9}{loose:List Str}{XP:(Str->Option Value)->Heap->Prop}{YP:World->Heap->Prop}{d d1:DefRec}{K:Params->W.Frag}(hn:l.most=some 63)(hdf:d.params.defaults=[])
  (hY:∀ (w:Jd) (h:Jj),YP w h->(K w.params).In h) (hrec1:(recsOf q).find? (fun e=>e.name==("_law_order":Str))=some d1)
  (F:∀ (w:Jd) (mg:J5) (fa:Jg) (h:Jj),(K w.params).In h->h.Ns mainGlobals mg->mg d.name=some (.ref fa)->∃ (c1 T1:Jg) (fd:Jb),W.tabIn (K w.params) "_law_order"=some (c1,T1)/\W.noTabs (K w.params)=true/\(∀ (s:Ja) (v:Jf),BindsTo s fd ⟨[v],[]⟩ [("_law_script",v)])/\∀base:Heap,W.Frag.In (K w.params) base->base.Ns mainGlobals mg->RL mg base c1 T1->Ju l.prog w (K w.params) mg base N7 11 fa fd ["_law_script"] (HA (K w.params) T1)):
  W.WalkO q loose XP YP l.row.toRowW d [] (fun f vs=>PySem.call f vs):=
 L2.AX (y:="_law_order") (n:=63) (k:=11) (x:="_law_script") (sp:=fun w T1=>HA (K w.params) T1) hn (by decide) hdf ⟨rfl,by decide,by decide⟩ hY hrec1 F fun _ _ _ a b c h1 g=>⟨a,b,rfl,g,c,⟨#[],h1,trivial,fun pos i e=>by cases e⟩,fun _=>rfl⟩
end Mine
namespace PySem.W.Fast
def tw264694966987154008:=()
def tw13052344252743950925:=()
def tw2494924693130378393:=()
def tw16517479304968148002:=()
def tw16925003290258160613:=()
def tw1288639592157802579:=()
def tw2472255503541866868:=()
def tw2861991260442333549:=()
def tw15827790476380104724:=()
def tw14387840572542181560:=()
def tw4470120586267998550:=()
def tw17909948984290447256:=()
def tw12634966066939994792:=()
def tw2639270904856064922:=()
def tw4228015474905025448:=()
def tw10600380854472674766:=()
def tw7131869358653456319:=()
def tw7543562946390775218:=()
def tw5725861171089898378:=()
def tw5401241658926428310:=()
def tw2543554467095654446:=()
def tw14022336801913281456:=()
def tw4199287000382401419:=()
def tw10076457585455331883:=()
def tw7394899284896381098:=()
def tw14683974012228905293:=()
def tw12356840241344914085:=()
def tw15379844435852322792:=()
def tw6051359363776265063:=()
def tw2675104209064269791:=()
def tw1014228874758748709:=()
def tw16019963954357507571:=()
def tw8763242909970935337:=()
def tw18365664818939357237:=()
def tw18274746171848931065:=()
def tw15721062045943668688:=()
def tw13964623244241065739:=()
def tw12224741064563440544:=()
def tw4793636533549859123:=()
def tw3282430580936862326:=()
def tw8306938471068189564:=()
def tw16702423855762643216:=()
def tw12943360629903868634:=()
def tw11101861977310893976:=()
def tw12002674367926745308:=()
def tw10084066459670510385:=()
def tw1273470090613913991:=()
def tw12259772169809336684:=()
def tw918240489477694089:=()
def tw712176959748512388:=()
def tw4724134101425283476:=()
def tw578745772302371071:=()
def tw13790560625149069747:=()
def tw1170686356498717045:=()
def tw2330600165044730544:=()
def tw13904019444019222197:=()
def tw8783610655963608340:=()
def tw1845089292596418032:=()
def tw124344973642051098:=()
def tw364038319012020492:=()
def tw17337617839067136561:=()
def tw17941673693606389625:=()
def tw11779764590904410675:=()
def tw3355692226087910177:=()
def tw6030940451212872814:=()
def tw6333886891201829064:=()
def tw3402023066148040243:=()
def tw10424703018344242727:=()
def tw6478762241672951723:=()
def tw1875797595860743668:=()
def tw10229624192975512562:=()
def tw17432858611441340709:=()
def tw10430877784807692228:=()
def tw17404408844439705085:=()
def tw11248505379423600373:=()
def tw11852343943046376034:=()
def tw8856742451240590779:=()
def tw11271389225966344703:=()
def tw4495976284648503740:=()
def tw15655504782025916301:=()
def tw5074328404676252611:=()
def tw16168411133126003929:=()
def tw1007392982936927793:=()
def tw7219999285625972945:=()
def tw13044506878411015736:=()
def tw3381775772440110189:=()
def tw9018949245316908959:=()
def tw4824115074034457424:=()
def tw1814409614309232485:=()
def tw2734196594566766148:=()
def tw193334857963136411:=()
def tw6009180721942571458:=()
def tw9347483980723638889:=()
def tw2405996045590530736:=()
def tw18208001025320177173:=()
def tw13361833686062093661:=()
def tw2487373527794854935:=()
def tw13774179119667635039:=()
def tw1507159144457254748:=()
def tw4082470419878242614:=()
def tw8302417104714718288:=()
def tw8220077075471127739:=()
def tw14442712785359655585:=()
def tw14347710714365176388:=()
def tw1748001244707811775:=()
def tw134577759006590704:=()
def tw15506501946761955660:=()
def tw9589572258228033675:=()
def tw3085066482294222695:=()
def tw11470397654389516144:=()
def tw10110614059585669217:=()
def tw6990960329282171817:=()
def tw9079586788463091897:=()
def tw9682753990572575440:=()
def tw4497521223299169081:=()
def tw10255169142571077323:=()
def tw12297112433701770705:=()
def tw3325941897686378809:=()
def tw14685262719804870267:=()
def tw9402126307420857535:=()
def tw14923568871527369615:=()
def tw3454112298843208101:=()
def tw4245102414773883512:=()
def tw7761860438413074610:=()
def tw13971173425977144115:=()
def tw4258010066595823314:=()
def tw15295394400012017199:=()
def tw4841374122266895691:=()
def tw13855290999839759305:=()
def tw10151966324055591945:=()
def tw1586962066822380490:=()
def tw13281806544413512964:=()
def tw11574473351511285960:=()
def tw11854418447658758109:=()
def tw16642216775964293662:=()
def tw1625684505629331801:=()
def tw2801672143136571005:=()
def tw10336891290483478562:=()
def tw15198739775269708485:=()
def tw9935949646698771168:=()
def tw3450037484431138179:=()
def tw6914309463522747232:=()
def tw7314193296188821221:=()
def tw6079334583327550623:=()
def tw3813973091222023655:=()
def tw11743032941894291836:=()
def tw16867471595592135201:=()
def tw1015237180630649214:=()
def tw16241751148542462083:=()
def tw2363018896355552328:=()
def tw14665891217720426415:=()
def tw14871920571479427744:=()
def tw17376859700108084462:=()
def tw11790614694705888032:=()
def tw11135962007411162124:=()
def tw18427820103198277431:=()
def tw13220513637096189497:=()
def tw14094443145759702439:=()
def tw10097136958460379410:=()
def tw15442354091785911560:=()
def tw9597281117735736950:=()
def tw2533600585705933737:=()
def tw2247550194241754442:=()
def tw16098613832673302893:=()
def tw5425484831172027084:=()
def tw4422236725416926343:=()
def tw9450404344007256349:=()
def tw17260246015592620157:=()
def tw9449165682545708676:=()
def tw2472888884289046709:=()
def tw12393388720835827383:=()
def tw11674084283824812682:=()
def tw4234164660272874568:=()
def tw8553540835612460539:=()
def tw10266664695157681227:=()
def tw5524282574366347208:=()
def tw12498901804484399692:=()
def tw4520540889939664357:=()
def tw18172696816407082777:=()
def tw8033397320362453980:=()
def tw16372412270393900787:=()
def tw7141776757638679366:=()
def tw15422072510071943004:=()
def tw15400323351340261143:=()
def tw1461934128862544607:=()
def tw1313017696343964345:=()
def tw1871233040688006781:=()
def tw15629023412987029335:=()
def tw13408774951028645037:=()
def tw13936269363067995144:=()
def tw8714841422268146194:=()
def tw11460858922377905441:=()
def tw2473457988950742598:=()
def tw17530379573870678724:=()
def tw800031238554331205:=()
def tw14404198181607590893:=()
def tw6735709060703229573:=()
def tw13242951925900191848:=()
def tw12122013561014324244:=()
def tw16871279864370214538:=()
def tw10866235089807882632:=()
def tw18363344387000030577:=()
def tw4042731242721182538:=()
def tw2292470303200936493:=()
def tw8499537131520205615:=()
def tw9666731994523795557:=()
def tw12903050165525684032:=()
def tw576552055476685844:=()
def tw4623260925418679128:=()
def tw2134582062093380738:=()
def tw9926310972177772873:=()
def tw3555429787700536059:=()
def tw17933081032025494813:=()
def tw8539781856952012929:=()
def tw1171347088999429168:=()
def tw2468771250989464800:=()
def tw4752305495064175295:=()
def tw9982220029403960453:=()
def tw10096628207117920865:=()
def tw9543385694140048906:=()
def tw13434087319112050118:=()
def tw6749586214931088646:=()
def tw10402984406826805291:=()
def tw2166750424935962736:=()
def tw15022787012750660518:=()
def tw6168989817047832914:=()
def tw9359961651107792138:=()
def tw9271910231460214545:=()
def tw15615383611319848420:=()
def tw1209997824185757230:=()
def tw12350262772465409876:=()
def tw12238924179155714601:=()
def tw15621454439678257978:=()
def tw12380191578248487895:=()
def tw8423181408477859304:=()
def tw13565445902248204351:=()
def tw7474339950511156056:=()
def tw993807703198875380:=()
def tw12008731512973198841:=()
def tw13859951261656245447:=()
def tw14078762750220358875:=()
def tw8266123821903628262:=()
def tw1883571834001461328:=()
def tw18240049056623763097:=()
def tw14950632639316333540:=()
def tw16651237286491803946:=()
def tw9801354039123444367:=()
def tw2683418813018970667:=()
def tw4475432812967876589:=()
def tw16305311807394302993:=()
def tw12317459707614810951:=()
def tw17416884061517628091:=()
def tw8010861727130155603:=()
def tw4914234496736581484:=()
def tw3983007778213406914:=()
def tw11401869385883804670:=()
def tw8494199916382467178:=()
end PySem.W.Fast
open PySem PySem.W PyProof.Rows
local macro_rules | `(tactic| walk_at"5") => `(tactic| exact ⟨by k_is, _, _, _, _, _, _, _, _, _, by k_is, by k_is, by k_is⟩)
local macro_rules | `(tactic| walk_at"6") => `(tactic| exact ⟨by k_is, by k_is, _, _, _, _, _, _, _, _, _, by k_is, by k_is, by k_is⟩)
local macro_rules | `(tactic| walk_at"4") => `(tactic| exact ⟨by k_is, by k_is, _, _, _, _, _, _, _, _, _, by k_is, by k_is, _, _, _, by k_is⟩)
local macro_rules | `(tactic| walk_at"3") => `(tactic| exact ⟨by k_is, ⟨by k_is, by k_is, by k_is, by k_is⟩, by k_is, by k_is, ⟨by k_is, by k_is, by k_is, by k_is⟩⟩)
local macro_rules | `(tactic| walk_at"7") => `(tactic| (repeat (first | exact trivial | refine ⟨by k_is, ?_⟩)))
local macro_rules | `(tactic| walk_at"2") => `(tactic| exact ⟨by k_is, _, _, _, _, _, _, _, _, by k_is, by k_is, by k_is, _, _, _, _, by k_is, by exact rfl⟩)
local macro_rules | `(tactic| walk_at"8") => `(tactic| kernel_rfl)
local macro_rules | `(tactic| walk_at"1") => `(tactic| exact ⟨by k_is, by k_is⟩)
local macro_rules | `(tactic| walk_at"0") => `(tactic| k_is)
set_option maxRecDepth 100000 in
set_option maxHeartbeats 0 in
theorem PySem.Challenge.cw_pieceways_k44_forty_keys_holds : PySem.Challenge.rw_pieceways_k44_forty_keys.Holds := by
 w_on;o_law;k_head;(case hw=>w_witness2)
 k_fill
 refine Mine.t5 (l:=PySem.Challenge.rw_pieceways_k44_forty_keys) rfl rfl (fun w h Y=>PySem.W.km_in_of Y) rfl ?F
 case F=>
  intro w mg fa h KX G hmg;exact Mine.KN KX G hmg (by walk_at"5") (by walk_at"5") (by walk_at"5") (by walk_at"5") (by walk_at"5") (by walk_at"5") (by walk_at"5") (by walk_at"5") (by walk_at"5") (by walk_at"5") (by walk_at"5") (by walk_at"5") (by walk_at"5") (by walk_at"5") (by walk_at"5") (by walk_at"5") (by walk_at"5") (by walk_at"5") (by walk_at"5") (by walk_at"5") (by walk_at"2") (by walk_at"5") (by walk_at"5") (by walk_at"5") (by walk_at"5") (by walk_at"5") (by walk_at"5") (by walk_at"3") (by walk_at"7") (by walk_at"6") (by walk_at"6") (by walk_at"4") (by walk_at"3") (by walk_at"7") (by walk_at"6") (by walk_at"6") (by walk_at"4") (by walk_at"3") (by walk_at"7") (by walk_at"6") (by walk_at"3") (by walk_at"7") (by walk_at"6") (by walk_at"3") (by walk_at"7") (by walk_at"6") (by walk_at"6") (by walk_at"6") (by walk_at"6") (by walk_at"6") (by walk_at"6") (by walk_at"6") (by walk_at"6") (by walk_at"3") (by walk_at"7") (by walk_at"6") (by walk_at"6") (by walk_at"6") (by walk_at"6") (by walk_at"6") (by walk_at"6") (by walk_at"6") (by walk_at"6") (by walk_at"6") (by walk_at"6") (by walk_at"6") (by walk_at"6") (by walk_at"6") (by walk_at"1") (by walk_at"1") (by walk_at"0") (by walk_at"0") (by walk_at"0") ⟨⟨_,by k_is⟩,⟨_,by k_is⟩,⟨_,by k_is⟩,⟨_,by k_is⟩,⟨_,by k_is⟩,trivial⟩ ⟨by k_is,_,_,_,_,_,_,by k_is⟩ ⟨by k_is,_,_,_,_,_,_,by k_is⟩ ⟨by k_is,_,_,_,_,_,by k_is⟩ (by walk_at"7") (by walk_at"8")
