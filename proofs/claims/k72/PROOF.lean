import PyProof.Rows.All
import Wide.All
import OpenK.AllK
import Wide.FinOn
import Lean
import PyProof.EqAt
import PyProof.EqKinds
import PyProof.TupleCall
import OpenK.KOwn
import KE.KIsAll
import KE.KLam
import KE.KEqDict
import PySem.Challenge.RW_pieceways_k72_what_a_post_refuses
set_option Elab.async false
set_option linter.all false
set_option maxRecDepth 100000
set_option compiler.extract_closed false
noncomputable section
theorem hide_{G:Prop}(h:∀N:Prop,(G->N)->N):G:=h G id
local macro_rules|`(tactic|obtain $p:rcasesPatMed := $e:term)=>`(tactic|first|((refine hide_ fun N hN=>?_;rcases $e:term with $p)<;>(refine hN ?_;clear hN;clear N))|rcases $e:term with $p)
set_option bootstrap.genMatcherCode false
local macro_rules|`(command|def $n:declId $s:optDeclSig $v:declVal)=>`(command|noncomputable def $n:declId $s:optDeclSig $v:declVal)
def Y0:=@PySem.wpAny_bind
def Y1:=@Nat.le_refl
def Y2:=@if_neg
def Y3:=@PySem.Heap.get?_push_of_some
def Y4:=@PySem.wpAny_pure
def Y5:=@List.getElem?_eq_some_iff
def Y6:=@List.mem_cons
def Y7:=@List.getElem?_eq_getElem
def Y8:=@PySem.Heap.lt_size
def Y9:=@if_pos
def Ya:=@List.mem_cons_of_mem
def Yb:=@List.size_toArray
def Yc:=@PySem.F.plainAttrs_list
def Yd:=@List.mem_of_getElem?
def Ye:=@Nat.lt_of_le_of_lt
def Yf:=@PySem.F.slot_list_append
def Yg:=@PySem.F.type_list_append
def Yh:=@Nat.zero_le
def Yi:=@Nat.ne_of_lt
def Yj:=@PySem.Heap.get?_push_size
def Yk:=@List.getElem?_map
def Yl:=@List.not_mem_nil
def Ym:=@Nat.lt_of_lt_of_le
def Yn:=@List.mem_singleton
def Yo:=@Option.some.inj
def Yp:=@List.map_append
def Yq:=@List.mem_cons_self
def Yr:=@List.mem_append_right
def Ys:=@Bool.false_ne_true
def Yt:=@decide_eq_false
def Yu:=@Nat.le_trans
def Yv:=@List.mem_map
def Yw:=@decide_eq_true
def Yx:=@List.length_append
def Yy:=@decide_eq_true_eq
def Yz:=@List.take_add_one
def YA:=@Option.map_eq_some_iff
def YB:=@List.map_map
def YC:=@PySem.wpAny_mono
def YD:=@List.length_take
def YE:=@PySem.sizeLine_eq
def YF:=@Bool.and_eq_true
def YG:=@List.mem_append
def YH:=@congrArg
def YI:=@Option.toList_some
def YJ:=@List.forall_mem_cons
def YK:=@List.all_eq_true
def YL:=@or_false
def YM:=@Nat.lt_irrefl
def YN:=@PySem.wpAny_Call_Name_kw
def YO:=@List.take_length
def YQ:=@PySem.mem_of_lookup
def YR:=@List.getD_eq_getElem?_getD
def YS:=@List.nodup_cons
def YT:=@decide_false
def YU:=@List.mem_map_of_mem
def YV:=@PySem.wpAny_truthy_bool
def YW:=@PySem.F.slot_dict_keyiterator_next
def YX:=@decide_true
def YY:=@PySem.wpAny_holding
def YZ:=@List.take_of_length_le
def X0:=@List.map_congr_left
def X1:=@Bool.false_and
def X2:=@PyProof.Rows.KeyOrd.kle_refl
def X3:=@beq_eq_false_iff_ne
def X4:=@PySem.Heap.SameBut.update
def X5:=@Nat.le_of_lt
def X6:=@PySem.codeAny_mono
def X7:=@PySem.Heap.get?_update_other
def X8:=@Bool.true_and
def X9:=@Nat.le_succ
def Xa:=@Bool.eq_iff_iff
def Xb:=@List.find?_cons
def Xc:=@PySem.F.slot_list_extend
def Xd:=@PySem.F.type_list_extend
def Xe:=@List.eq_of_mem_replicate
def Xf:=@Nat.lt_succ_of_lt
def Xg:=@PySem.Heap.get?_push_ne
def Xh:=@PySem.wpAny_typeNameOfWhole_keyiter
def Xi:=@PySem.wpAny_call_entry
def Xj:=@PyProof.Rows.callWith_type1
def Xk:=@PySem.W.kia_one
def Xl:=@PySem.tupleKind_room_in1
def Xm:=@List.mem_filter
def Xn:=@PySem.wpAny_passesOwn
def Xo:=@PySem.Heap.get?_update_self
def Xp:=@List.length_filter_le
def Xq:=@Array.perm_iff_toList_perm
def Xr:=@PySem.wpAny_pyIter_list
def Xs:=@PySem.wpAny_dictEntries
def Xt:=@PySem.PassesOwn.leaving
def Xu:=@List.mem_append_left
def Xv:=@List.getElem?_zip_eq_some
def Xw:=@PySem.codeAny_call_builtin
def Xx:=@PySem.Heap.size_push
def Xy:=@Nat.lt_succ_self
def Xz:=@PySem.F.plain_min_loop
def XA:=@List.replicate_succ
def XB:=@PySem.wpAny_callSpecial?_slot
def XD:=@PySem.F.plainAttrs_dict
def XE:=@PyProof.Rows.listUpdate_at
def XG:=@PySem.wpAny_execs_nil
def XH:=@beq_iff_eq
def XI:=@PySem.wpAny_setField_rec
def XJ:=@PySem.wpAny_newObj_type
def XM:=@Bool.not_eq_true'
def XN:=@of_decide_eq_true
def XO:=@PySem.W.callWith_K
def XQ:=@Bool.and_false
def XR:=@PySem.F.slot_enumerate_next
def XS:=@PySem.F.slot_dict_setdefault
def XT:=@Array.getElem?_toList
def XU:=@PySem.wpAny_call
def XV:=@List.lookup_cons
def XW:=@PySem.Obj.data_mapDictKeys
def XX:=@PySem.Heap.size_update
def XY:=@PySem.wpAny_letGo
def XZ:=@List.filterMap_cons
def U0:=@List.forIn_cons
def U1:=@PySem.wpAny_loadPart'
def U5:=@Array.getElem?_eq_getElem
def U6:=@PySem.PassesOwn.never
def U7:=@PySem.wpAny_comprehension_free
def U8:=@PySem.F.args_dict_keyiterator_next_1
def U9:=@of_decide_eq_false
def Ua:=@PySem.F.entry_dict_keyiterator_next
def Ub:=@Option.bind_eq_some_iff
def Uc:=@Int.toNat_natCast
def Ud:=@List.flatten_cons
def Ue:=@PyProof.Rows.KeyOrd.kle_of_klt
def Uf:=@PySem.wpAny_pyIter_enum
def Ug:=@List.length_range
def Uh:=@List.getElem?_set_self
def Uj:=@PySem.wpAny_Assign_Subscript
def Uk:=@PySem.wpAny_field
def Ul:=@List.any_cons
def Um:=@PySem.wpAny_attempt
def Uo:=@PySem.wpAny_newList
def Up:=@PyProof.Rows.KeyOrd.kle_trans
def Uq:=@List.filter_cons
def Ur:=@Bool.not_eq_true
def Us:=@PySem.wpAny_notOrdered_dict
def Ut:=@PySem.F.slot_dict_pop
def Uu:=@PySem.plainObj_wpAny_Assign_Attribute
def Uv:=@List.getElem?_set_ne
def Uw:=@Nat.ne_of_gt
def Ux:=@PySem.Around.frames_deeper
def Uy:=@PySem.wpAny_newFunctionEnv
def Uz:=@PySem.codeAny_builtin
def UA:=@List.all_map
def UB:=@List.replicate_succ'
def UC:=@List.filter_eq_self
def UD:=@PySem.Heap.get?_update_ne
def UE:=@List.mem_range
def UF:=@PySem.W.looks_findIn
def UG:=@PySem.F.type_dict_setdefault
def UH:=@Int.le_refl
def UI:=@PyProof.Rows.seqEpoch_at
def UJ:=@List.mem_filterMap
def UK:=@Array.getD_eq_getD_getElem?
def UL:=@PySem.Calls.Name_function_global
def UM:=@PySem.wpAny_standAt
def UN:=@List.all_cons
def UO:=@PySem.plainId_quiet
def UP:=@PySem.F.excBase_ValueError
def UQ:=@Array.getElem?_eq_some_iff
def UR:=@List.append_assoc
def US:=@Option.isSome_map
def UT:=@bne_self_eq_false
def UU:=@List.getElem?_eq_none_iff
def UV:=@PySem.wpAny_rule
def UW:=@PySem.Calls.call_function_entry
def UX:=@List.pairwise_iff_getElem
def UY:=@PySem.wpAny_execs_cons
def UZ:=@Nat.le_of_eq
def V0:=@List.length_drop
def V1:=@List.getElem_mem
def V2:=@Nat.lt_succ_iff_lt_or_eq
def V3:=@List.any_eq_true
def V4:=@decide_eq_false_iff_not
def V5:=@List.length_eq_zero_iff
def V6:=@List.lookup_eq_none_iff
def V7:=@List.of_mem_zip
def V8:=@PySem.W.methodCall_KW
def V9:=@PySem.wpAny_updateSeq
def Va:=@PySem.size_of_entries
def Vb:=@PySem.wpAny_dictEpoch
def Vc:=@Sum.inr.inj
def Vd:=@PySem.F.slot_dict_iter
def Ve:=@PySem.wpAny_loadPart
def Vf:=@List.length_singleton
def Vg:=@List.cons_lt_cons_iff
def Vh:=@List.getElem?_eq_none
def Vi:=@PySem.wpAny_tryCatch
def Vj:=@PySem.wpAny_newTuple
def Vk:=@List.mem_iff_getElem?
def Vl:=@List.take_append_drop
def Vm:=@PySem.F.type_dict_pop
def Vn:=@PySem.call_meets
def Vo:=@List.mem_iff_getElem
def Vp:=@List.getElem?_append
def Vq:=@List.getElem?_of_mem
def Vr:=@List.getElem?_range
def Vs:=@PySem.W.looks_mroIn
def Vt:=@Bool.true_or
def Vu:=@Int.zero_add
def Vv:=@Sum.inl.inj
def Vw:=@List.not_lt
section
open PySem
abbrev Vx:=Str->Option Value
abbrev Vy:=Value->Shared->Prop
abbrev Vz:=Unit->Shared->Prop
abbrev VA:=List (Addr×Obj)
abbrev VB:=PySem.Program
abbrev VC:=PySem.Shared
abbrev VD:=PySem.FuncData
abbrev VE:=PySem.Around
abbrev VF:=PySem.World
abbrev VG:=PySem.W.Frag
abbrev VH:=PySem.Value
abbrev VI:=PySem.Addr
abbrev VJ:=List Int
abbrev VL:=List Value
abbrev VM:=PySem.Heap
abbrev VN:=PySem.Expr
end
namespace L2
open PySem PySem.Spec PyProof.Rows
abbrev Wu:=Sum Int Str
def RO:Wu->Value->Bool
 | .inl k,v=>Value.isInt k v
 | .inr x,v=>Value.isStrOf x v
def ZL(w:VF):Wu->Int
 | .inl k=>hashInt k
 | .inr x=>hashStr w x
theorem Gp:∀{k:Wu} {v:VH},RO k v=true->(∃i t,k=Sum.inl i/\v=Value.int i t)\/(∃x t,k=Sum.inr x/\v=Value.str x t)
 | .inl i,v,h=>by
  obtain⟨t,e⟩:=Value.isInt_shape (k:=i) (v:=v) h;exact .inl ⟨i,t,rfl,e⟩
 | .inr x,v,h=>by
  obtain⟨t,e⟩:=Value.isStrOf_shape (x:=x) (v:=v) h;exact .inr ⟨x,t,rfl,e⟩
theorem jS(i:Int)(t:Tok):RO (.inl i) (.int i t)=true:=by simp[RO,Value.isInt]
theorem SN(x:Str)(t:Tok):RO (.inr x) (.str x t)=true:=by simp[RO,Value.isStrOf]
theorem vP(a b:Int):decide ((Sum.inl a:Wu)=Sum.inl b)=(a==b):=by
 by_cases e:a=b
 .subst e;simp
 .have h:¬(Sum.inl a:Wu)=Sum.inl b:=fun q=>e (Vv q)
  rw[Yt h];exact(X3.mpr e).symm
theorem jW(a b:Str):decide ((Sum.inr a:Wu)=Sum.inr b)=decide (a=b):=by
 by_cases e:a=b
 .subst e;simp
 .have h:¬(Sum.inr a:Wu)=Sum.inr b:=fun q=>e (Vc q)
  rw[Yt h,Yt e]
theorem vM(a:Int)(b:Str):decide ((Sum.inl a:Wu)=Sum.inr b)=false:=Yt (fun q=>nomatch q)
theorem mH(a:Str)(b:Int):decide ((Sum.inr a:Wu)=Sum.inl b)=false:=Yt (fun q=>nomatch q)
def WC(prog:VB)(w:VF):PySem.KeyKind prog w Wu where
 is:=RO
 hash:=ZL w
 inj:=fun v a b ha hb=>by
  rcases Gp ha with⟨i,t,rfl,rfl⟩|⟨x,t,rfl,rfl⟩
  .rcases Gp hb with⟨j,u,rfl,e⟩|⟨y,u,rfl,e⟩
   .injection e with e1 _;rw[e1]
   .exact nomatch e
  .rcases Gp hb with⟨j,u,rfl,e⟩|⟨y,u,rfl,e⟩
   .exact nomatch e
   .injection e with e1 _;rw[e1]
 byValue:=fun k v h=>by
  rcases Gp h with⟨i,t,rfl,rfl⟩|⟨x,t,rfl,rfl⟩ <;> rfl
 pyHash:=fun hv h=>by
  rcases Gp hv with⟨i,t,rfl,rfl⟩|⟨x,t,rfl,rfl⟩
  .exact wpAny_pyHash_int h
  .exact wpAny_pyHash_str h
 eqBool:=fun hu hv h=>by
  rcases Gp hu with⟨i,t,rfl,rfl⟩|⟨x,t,rfl,rfl⟩
  .rcases Gp hv with⟨j,u,rfl,rfl⟩|⟨y,u,rfl,rfl⟩
   .rw[vP]at h;exact wpAny_eqBool_int h
   .rw[vM]at h;exact SeqAt.EqAt.int_str i t y u _ _ _ _ h
  .rcases Gp hv with⟨j,u,rfl,rfl⟩|⟨y,u,rfl,rfl⟩
   .rw[mH]at h;exact SeqAt.EqAt.str_int x t j u _ _ _ _ h
   .rw[jW]at h;exact wpAny_eqBool_str h
 «strs»:=fun k x t v h=>by
  rcases Gp h with⟨i,u,rfl,e⟩|⟨y,u,rfl,e⟩
  .exact nomatch e
  .injection e with e1 _;subst e1;cases v <;> rfl
theorem wZ(prog:VB)(w:VF)(i:Int)(t:Tok):(WC prog w).is (.inl i) (.int i t)=true:=jS i t
theorem ZF(prog:VB)(w:VF)(x:Str)(t:Tok):(WC prog w).is (.inr x) (.str x t)=true:=SN x t
inductive V where
 |non|bl (b:Bool)|int (i:Int)|str (x:Str)|byt (b:Array UInt8)|flt (b:UInt64)|ref (a:VI)|ty (n:String)
 deriving DecidableEq
def W9:V->Value->Prop
 | .non,u=>u=Value.none
 | .bl b,u=>u=Value.bool b
 | .int i,u=>∃t,u=Value.int i t
 | .str x,u=>∃t,u=Value.str x t
 | .byt b,u=>∃t,u=Value.bytes b t
 | .flt b,u=>∃t,u=Value.float b t
 | .ref a,u=>u=Value.ref a
 | .ty n,u=>u=Value.type n
abbrev W2:List V->List Value->Prop:=Paired W9
theorem W2.length{xs:List V}{us:VL}(r:W2 xs us):xs.length=us.length:=Paired.length r
theorem W2.get:∀{xs:List V} {us:VL} {i:Nat} {x:V},W2 xs us->xs[i]?=some x->∃u,us[i]?=some u/\W9 x u
 |_,_,_,_,.nil,e=>by simp at e
 |_,_,0,_,.cons r _,e=>by simp at e;subst e;exact⟨_,rfl,r⟩
 |_,_,i+ 1,x,.cons _ t,e=>by
  obtain⟨u,h1,h2⟩:=W2.get (i:=i) (x:=x) t (by simpa using e);exact⟨u,by simpa using h1,h2⟩
theorem W2.append:∀{xs ys:List V} {us ws:VL},W2 xs us->W2 ys ws->W2 (xs++ys) (us++ws)
 |_,_,_,_,.nil,s=>s
 |_,_,_,_,.cons r t,s=>.cons r (W2.append t s)
theorem W2.take:∀{xs:List V} {us:VL} (n:Nat),W2 xs us->W2 (xs.take n) (us.take n)
 |_,_,0,_=>.nil
 |_,_,_+ 1,.nil=>.nil
 |_,_,n+ 1,.cons r t=>.cons r (W2.take n t)
theorem W2.drop:∀{xs:List V} {us:VL} (n:Nat),W2 xs us->W2 (xs.drop n) (us.drop n)
 |_,_,0,r=>r
 |_,_,_+ 1,.nil=>.nil
 |_,_,n+ 1,.cons _ t=>W2.drop n t
def Np:Option V->Option Value->Prop
 |some v,some u=>W9 v u
 |none,none=>True
 |_,_=>False
def KV{κ:Type}:List (κ×V)->List (κ×Value)->Prop:=Paired fun(p:κ×V) (q:κ×Value)=>p.1=q.1/\W9 p.2 q.2
def kV:Wu->V
 | .inl i=>.int i
 | .inr x=>.str x
inductive HO where
 |lst (xs:List V)
 |tup (xs:List V)
 |dK (kvs:List (Wu×V))|dT (kvs:List (List Wu×V))
 |set (S:Int->Bool) (n:Nat)
 |ins (C dx:VI) (fs:List (Str×V))
 |own (x:VI)
 |xd (fs:List (Str×V))
 |met (f x:VI)
 |rng (lo hi:Int)
 |frz (o:Obj) (u:HO)
 |tbl (ps:Array Value)
 |ext (φ:Heap->Prop)
abbrev Hp:=Addr->Option HO
def upd(H:Hp)(a:VI)(o:HO):Hp:=fun b=>if b=a then some o else H b
theorem WU{H:Hp}{a:VI}{o:HO}:upd H a o a=some o:=by unfold upd;rw[Y9 rfl]
theorem Wh{H:Hp}{a b:VI}{o:HO}(h:b≠a):upd H a o b=H b:=by unfold upd;rw[Y2 h]
theorem VS{H:Hp}{a b:VI}{o u:HO}(h:H a=some o)(h':H b=some u)(d:o≠u):a≠b:=by
 intro e;subst e;rw[h]at h';exact d (Yo h')
theorem WJ{H:Hp}{a b:VI}{o:HO}(h:H a=some o)(h':H b=none):a≠b:=by
 intro e;subst e;rw[h]at h';cases h'
section
variable(P:VB)(w:VF)
def Wf(H:Hp)(h:VM)(a:VI):HO->Prop
 | .lst xs=>xs.length <=sizeLine/\∃ (its:VL) (n:Nat),W2 xs its/\h.get? a=some {cls:=.type "list",data:=.seq its.toArray n}
 | .tup xs=>xs.length <=sizeLine/\∃its:List Value,W2 xs its/\IsTup h a its.toArray
 | .dK kvs=>kvs.length <=sizeLine/\(a==sysModules)=false/\∃vs,KV kvs vs/\h.DictOf (WC P w) a vs
 | .dT kvs=>kvs.length <=sizeLine/\(a==sysModules)=false/\∃xs:List (List Wu×Addr×Value),
   Paired (fun(p:List Wu×V) (q:List Wu×Addr×Value)=>p.1=q.1/\H q.2.1=some (.tup (p.1.map kV))/\W9 p.2 q.2.2) kvs xs/\
   ∃o es ep,h.get? a=some o/\o.ExactDict/\o.data= .dict es ep/\es.toList=xs.map (entryOfKey (tupleKind (WC P w)))/\(xs.map (·.1)).Nodup
 | .set S n=>h.SetOf (intKind P w) a S n
 | .ins C dx fs=>H dx=some (.own a)/\fs.length <=1000/\dx≠a/\h.get? a=some (W.instObj C dx)/\
   ∃mA,h.Ns1 dx mA/\(∀f,Np (fs.lookup f) (mA f))/\PySem.Within mA (fs.map (·.1))
 | .own _=>∃o,h.get? a=some o
 | .xd fs=>∃mA,h.Ns1 a mA/\∀f,Np (fs.lookup f) (mA f)
 | .rng lo hi=>∃t u v,h.get? a=some {cls:=.type "range",data:=.fields #[.int lo t,.int hi u,.int 1 v]}
 | .frz o u=>h.get? a=some o/\Wf H h a u
 | .tbl ps=>h.get? a=some {cls:=.none,data:=.fields ps}
 | .met f x=>h.get? a=some (W.methodObj (.ref f) (.ref x))
 | .ext φ=>φ h/\(∃o,h.get? a=some o)/\∀h1 h2:Heap,φ h1->(∀o,h1.get? a=some o->h2.get? a=some o)->φ h2
def JU(H:Hp)(h:VM):Prop:=∀a o,H a=some o->Wf P w H h a o
end
section
variable{P:VB}{w:VF}{H H':Hp}{h h':VM}{a:VI}{o:HO}
theorem Wf.lt(x:Wf P w H h a o):a < h.objs.size:=by
 cases o with
 |lst xs=>obtain⟨_,_,_,_,e⟩:=x;exact Y8 e
 |tup xs=>obtain⟨_,_,_,p⟩:=x;exact p.lt
 |dK kvs=>obtain⟨_,_,_,_,o,_,_,e,_⟩:=x;exact Y8 e
 |dT kvs=>obtain⟨_,_,_,_,o,_,_,e,_⟩:=x;exact Y8 e
 |set S n=>obtain⟨o,_,_,_,e,_⟩:=x;exact Y8 e
 |ins C dx fs=>obtain⟨_,_,_,e,_⟩:=x;exact Y8 e
 |own y=>obtain⟨_,e⟩:=x;exact Y8 e
 |xd fs=>obtain⟨_,⟨_,_,_,e,_⟩,_⟩:=x;exact Y8 e
 |rng lo hi=>obtain⟨_,_,_,e⟩:=x;exact Y8 e
 |frz ob u=>obtain⟨e,_⟩:=x;exact Y8 e
 |tbl ps=>exact Y8 (show h.get? a=some _ from x)
 |met f y=>exact Y8 (show h.get? a=some _ from x)
 |ext φ=>obtain⟨_,⟨_,e⟩,_⟩:=x;exact Y8 e
theorem Paired.mapP{α β:Type}{F G:α->β->Prop}:∀{l₁:List α} {l₂:List β},Paired F l₁ l₂->(∀a b,F a b->G a b)->Paired G l₁ l₂
 |_,_,.nil,_=>.nil
 |_,_,.cons r t,f=>.cons (f _ _ r) (Paired.mapP t f)
theorem Wf.stay(x:Wf P w H h a o)(k:∀b u,(b=a\/H b=some (.own a))->h.get? b=some u->h'.get? b=some u)
  (ho:∀b,H b=some (.own a)->H' b=some (.own a)) (ht:∀b xs,H b=some (.tup xs)->H' b=some (.tup xs)):Wf P w H' h' a o:=by
 induction o with
 |lst xs=>obtain⟨z,g,n,r,e⟩:=x;exact⟨z,g,n,r,k _ _ (.inl rfl) e⟩
 |tup xs=>obtain⟨z,g,r,ob,e,c⟩:=x;exact⟨z,g,r,ob,k _ _ (.inl rfl) e,c⟩
 |dK kvs=>obtain⟨z,y,vs,r,ob,es,ep,e,c⟩:=x;exact⟨z,y,vs,r,ob,es,ep,k _ _ (.inl rfl) e,c⟩
 |dT kvs=>
  obtain⟨z,y,xs,r,ob,es,ep,e,c⟩:=x;exact⟨z,y,xs,Paired.mapP r fun p q z=>⟨z.1,ht _ _ z.2.1,z.2.2⟩,ob,es,ep,k _ _ (.inl rfl) e,c⟩
 |set S n=>obtain⟨ob,es,ep,t,e,c⟩:=x;exact⟨ob,es,ep,t,k _ _ (.inl rfl) e,c⟩
 |ins C dx fs=>
  obtain⟨d,z,ne,e,mA,⟨i,es,ep,j,c⟩,r⟩:=x;exact⟨ho _ d,z,ne,k _ _ (.inl rfl) e,mA,⟨i,es,ep,k _ _ (.inr d) j,c⟩,r⟩
 |own y=>obtain⟨ob,e⟩:=x;exact⟨ob,k _ _ (.inl rfl) e⟩
 |xd fs=>obtain⟨mA,⟨i,es,ep,e,c⟩,r⟩:=x;exact⟨mA,⟨i,es,ep,k _ _ (.inl rfl) e,c⟩,r⟩
 |rng lo hi=>obtain⟨t,u,v,e⟩:=x;exact⟨t,u,v,k _ _ (.inl rfl) e⟩
 |frz ob u ih=>obtain⟨e,q⟩:=x;exact⟨k _ _ (.inl rfl) e,ih q⟩
 |tbl ps=>
  have e:h.get? a=some {cls:=.none,data:=.fields ps}:=x;show h'.get? a=some {cls:=.none,data:=.fields ps};exact k a _ (.inl rfl) e
 |met f y=>
  have e:h.get? a=some (W.methodObj (.ref f) (.ref y)):=x;show h'.get? a=some (W.methodObj (.ref f) (.ref y));exact k a _ (.inl rfl) e
 |ext φ=>obtain⟨p,⟨o,e⟩,st⟩:=x;exact⟨st _ _ p fun o q=>k _ _ (.inl rfl) q,⟨o,k _ _ (.inl rfl) e⟩,st⟩
theorem JU.lt(x:JU P w H h)(e:H a=some o):a < h.objs.size:=(x a o e).lt
theorem JU.fresh(x:JU P w H h)(e:h.objs.size <=a):H a=none:=by
 cases q:H a with
 |none=>rfl
 |some u=>exact absurd (Ym (x.lt q) e) (YM _)
theorem JU.kept(x:JU P w H h)(k:∀b u,h.get? b=some u->h'.get? b=some u):JU P w H h':=fun a o e=>
 (x a o e).stay (fun b u _ q=>k b u q) (fun _ q=>q) fun _ _ q=>q
theorem JU.laid(x:JU P w H h)(k:∀b u,h.get? b=some u->h'.get? b=some u)(hp:h.objs.size <=a)(new:Wf P w (upd H a o) h' a o):JU P w (upd H a o) h':=fun b u e=>by
 have d:=x.fresh hp
 by_cases hb:b=a
 .subst hb;rw[WU]at e;cases e;exact new
 .rw[Wh hb]at e;exact(x b u e).stay (fun c v _ q=>k c v q) (fun c q=>by rw[Wh (WJ q d)];exact q) fun c xs q=>by rw[Wh (WJ q d)];exact q
end
def Rd(H:Hp)(a:VI)(u:HO):Prop:=H a=some u\/∃o,H a=some (.frz o u)
theorem Rd.ok{P:VB}{w:VF}{H:Hp}{h:VM}{a:VI}{u:HO}(r:Rd H a u)(x:JU P w H h):Wf P w H h a u:=by
 rcases r with r|⟨o,r⟩
 .exact x a u r
 .obtain⟨_,q⟩:=x a _ r;exact q
def B1:Option HO->Prop
 |some (.lst _)=>True
 |some (.dK _)=>True
 |some (.dT _)=>True
 |some (.set _ _)=>True
 |some (.ins _ _ _)=>True
 |some (.ext _)=>True
 |_=>False
section
variable{P:VB}{w:VF}{H:Hp}{h h':VM}{x e:VI}{o':HO}
theorem JU.write(ok:JU P w H h)(mu:B1 (H x))(he:e=x\/H e=some (.own x))(k:∀b u,b≠e->h.get? b=some u->h'.get? b=some u)(heo:∃u,h'.get? e=some u)
  (new:Wf P w (upd H x o') h' x o'):JU P w (upd H x o') h':=fun b u q=>by
 have a:∀c y,H c=some (.own y)->c≠x:=fun c y r z=>by subst z;rw[r]at mu;exact mu
 have f:∀c xs,H c=some (.tup xs)->c≠x:=fun c xs r z=>by subst z;rw[r]at mu;exact mu
 by_cases hb:b=x
 .subst hb;rw[WU]at q;cases q;exact new
 .rw[Wh hb]at q
  by_cases hbe:b=e
  .have g:H b=some (.own x):=by
    rcases he with z|z
    .exact absurd (hbe.trans z) hb
    .rw[hbe];exact z
   rw[q]at g;cases g;obtain⟨v,i⟩:=heo;exact⟨v,by rw[hbe];exact i⟩
  .refine(ok b u q).stay (fun c v d r=>k c v ?_ r) (fun c r=>by rw[Wh (a c b r)];exact r) fun c xs r=>by rw[Wh (f c xs r)];exact r
   rcases d with rfl|d
   .exact hbe
   .rintro rfl;rcases he with z|z
    .exact a c b d z
    .rw[d]at z;cases z;exact hb rfl
end
structure Un(fs ex:List Addr)(H H':Hp)(h h':VM):Prop where
 keep:∀b o,h.get? b=some o->H b=none->b∉fs->b∉ex->h'.get? b=some o
 slot:∀b o,h.get? b=some o->H b=none->b∈fs->b∉ex->∃sl,h'.get? b=some {o with slots:=sl}
 free:∀b o,h.get? b=some o->H b=none->b∉ex->H' b=none
 there:∀b o,h.get? b=some o->b∉ex->∃o',h'.get? b=some o'
 tups:∀b xs,H b=some (.tup xs)->H' b=some (.tup xs)
 frzs:∀b o u,H b=some (.frz o u)->H' b=some (.frz o u)
 tbls:∀b ps,H b=some (.tbl ps)->∃more,H' b=some (.tbl (ps++more))
section
variable{fs fs' ex ex':List Addr}{H H1 H2:Hp}{h h1 h2 h':VM}{a x e:VI}{o:HO}
theorem Un.any(u:Un fs ex H H1 h h1){b:VI}{ob:Obj}(q:h.get? b=some ob)(n:H b=none)(hx:b∉ex):∃sl,h1.get? b=some {ob with slots:=sl}:=by
 by_cases hb:b∈fs
 .exact u.slot b ob q n hb hx
 .exact⟨ob.slots,u.keep b ob q n hb hx⟩
theorem Un.kept(k:∀b u,h.get? b=some u->h'.get? b=some u):Un fs ex H H h h':=
 ⟨fun b a q _ _ _=>k b a q,fun b a q _ _ _=>⟨a.slots,k b a q⟩,fun _ _ _ n _=>n,fun b a q _=>⟨a,k b a q⟩,fun _ _ q=>q,fun _ _ _ q=>q,fun _ ps q=>⟨#[],by rw[q];simp⟩⟩
theorem Un.refl:Un fs ex H H h h:=Un.kept fun _ _ q=>q
theorem Un.laid(k:∀b u,h.get? b=some u->h'.get? b=some u)(hp:h.objs.size <=a)(hn:H a=none):Un fs ex H (upd H a o) h h' where
 keep:=fun b u q _ _ _=>k b u q
 slot:=fun b u q _ _ _=>⟨u.slots,k b u q⟩
 free:=fun b u q n _=>by rw[Wh (Yi (Ym (Y8 q) hp))];exact n
 there:=fun b u q _=>⟨u,k b u q⟩
 tups:=fun b xs q=>by rw[Wh (WJ q hn)];exact q
 frzs:=fun b u xs q=>by rw[Wh (WJ q hn)];exact q
 tbls:=fun b ps q=>⟨#[],by rw[Wh (WJ q hn),q];simp⟩
theorem Un.write(mu:B1 (H x))(he:e=x\/H e=some (.own x))(k:∀b u,b≠e->h.get? b=some u->h'.get? b=some u)(heo:∃u,h'.get? e=some u):Un fs ex H (upd H x o) h h':=by
 have c:∀b,H b=none->b≠x:=fun b n z=>by subst z;rw[n]at mu;exact mu
 have d:∀b,H b=none->b≠e:=fun b n z=>by
  subst z;rcases he with r|r
  .exact c b n r
  .rw[n]at r;cases r
 have a:∀b u,H b=some u->¬B1 (some u)->b≠x:=fun b u q nm z=>by subst z;rw[q]at mu;exact nm mu
 refine ⟨fun b u q n _ _ => k b u (d b n) q, fun b u q n _ _ => ⟨u.slots, k b u (d b n) q⟩, fun b u q n _ => by rw [Wh (c b n)]; exact n, fun b u q _ => ?_,
  fun b xs q => by rw [Wh (a b _ q fun z => z)]; exact q, fun b u xs q => by rw [Wh (a b _ q fun z => z)]; exact q, fun b ps q => ⟨#[], by rw [Wh (a b _ q fun z => z), q]; simp⟩⟩
 by_cases hbe:b=e
 .subst hbe;exact heo
 .exact⟨u,k b u hbe q⟩
end
def Cd(h:VM)(H:Hp):List Addr:=(List.range h.objs.size).filter fun a=>(H a).isSome
def TY(h:VM)(H:Hp):Heap:=W.hideAll h (Cd h H)
theorem wC(h:VM)(H:Hp):(TY h H).objs.size=h.objs.size:=W.hideAll_size _ _
theorem Zd{h:VM}{H:Hp}{b:VI}{o:Obj}(e:h.get? b=some o)(n:H b=none):(TY h H).get? b=some o:=
 W.hideAll_get _ e fun a=>by
  have q:(H b).isSome=true:=(Xm.mp a).2;rw[n]at q;simp at q
theorem nW{h:VM}{H:Hp}{b:VI}{o:Obj}(e:(TY h H).get? b=some o):h.get? b=some o/\H b=none:=by
 have a:h.get? b=some o:=W.of_hideAll (Cd h H) e;refine⟨a,?_⟩;cases q:H b with
 |none=>rfl
 |some x=>
  have c:b∈Cd h H:=Xm.mpr ⟨UE.mpr (Y8 a),by simp[q]⟩;have z:(TY h H).get? b=none:=W.hideAll_none (Cd h H) c;rw[z]at e;cases e
def gR(g h:VM)(L:VI):List (Addr×Obj):=(List.range h.objs.size).filterMap fun a=>if a=L\/(g.get? a).isSome=true then none else(h.get? a).map fun o=>(a,o)
def rest(g h:VM)(L d:VI):List (Addr×Obj):=(gR g h L).filter fun p=>decide (p.1≠d)
structure Mod(K:VG)(mg:Vx)(base:VM):Prop where
 kin:K.In base
 glob:base.Ns mainGlobals mg
 blt:∃mb,base.Ns builtinsNs mb/\∀x:Str,x≠"__name__"->mb x=bootBuiltins x
 nolimit:base.NoLimit
structure Cx where
 prog:Program
 w:World
 K:W.Frag
 mg:Str->Option Value
 base:Heap
 A:Around
 N:List Str
 s₀:Shared
 H₀:Hp
 env:Env
 outer:List Env
 stack:List Env
 ex:List Addr
 fn:Str->Bool
 calm:Bool
 pn:List (Addr×Obj)
 xe:Value->Shared->Prop
def JM(l:List Env):List Addr:=l.filterMap (·.frame)
abbrev Cx.fs(X:Cx):List Addr:=JM X.outer
def Ed(sc:Scope)(x:Str):Prop:=sc.names.lookup x=some .local\/sc.names.lookup x=some .cell\/sc.names.lookup x=some .free
def Rq(sc:Scope)(x:Str):Prop:=sc.names.lookup x=some .local\/sc.names.lookup x=some .cell
def KU(env:Env)(h:VM)(m:Vx)(x:Str)(u:VH):Prop:=
 (env.kindOf x=some .local/\m x=some u)\/((env.kindOf x=some .cell\/env.kindOf x=some .free)/\∃c,env.cells.lookup x=some c/\h.IsCell c (some u))
structure Cx.Ok(X:Cx):Prop where
 mod:Mod X.K X.mg X.base
 kind:X.env.scope.kind= .function
 glob:X.env.globals=mainGlobals
 blt:X.env.builtins=builtinsNs
 above:X.s₀.heap.objs.size <=X.env.locals
 inj:∀x y c,X.env.cells.lookup x=some c->X.env.cells.lookup y=some c->x=y
 has:∀x,(X.env.kindOf x=some .cell\/X.env.kindOf x=some .free)->∃c,X.env.cells.lookup x=some c
 cab:∀x c,X.fn x=true->X.env.cells.lookup x=some c->X.s₀.heap.objs.size <=c
 hd:X.calm=true->X.A.handled=none
 frames:X.A.frames=some X.stack
 stk:X.stack=X.outer\/(X.stack=X.env::X.outer/\X.env.frame=some X.env.locals)
 exf:∀b∈X.ex,b≠X.env.locals/\∀x c,X.env.cells.lookup x=some c->c≠b
 bs:∀b o,X.base.get? b=some o->X.s₀.heap.get? b=some o/\X.H₀ b=none
 bsz:X.base.objs.size <=X.s₀.heap.objs.size
 noex:∀b o,X.base.get? b=some o->b∉X.ex
 exfs:∀b∈X.ex,b∉X.fs
 funs:X.s₀.heap.FunFrames X.base X.outer
 frf:∀b∈X.fs,X.H₀ b=none
structure VV(X:Cx)(pins:VA)(σ:List (Option V))(H:Hp)(s:VC):Prop where
 ok:X.Ok
 os:s.os=X.s₀.os
 bare:AllBare s.gens
 base:Un X.fs X.ex X.H₀ H X.s₀.heap s.heap
 loc:∃m,s.heap.Ns X.env.locals m/\∀ (i:Nat) (x:Str) (v:V),X.N[i]?=some x->σ[i]?=some (some v)->Ed X.env.scope x->∃u,W9 v u/\KU X.env s.heap m x u
 cell:∀x c,X.env.cells.lookup x=some c->∃v,s.heap.IsCell c v
 free:H X.env.locals=none
 freeC:∀x c,X.env.cells.lookup x=some c->H c=none
 pin:∀p∈X.pn++pins,s.heap.get? p.1=some p.2/\H p.1=none/\p.1≠X.env.locals/\p.1∉X.fs/\∀v,p.2.data≠ .cell v
 hok:JU X.prog X.w H s.heap
 len:σ.length=X.N.length
section
variable{X:Cx}{pins:VA}{σ:List (Option V)}{H H':Hp}{s:VC}{h':VM}
theorem Cx.Ok.nofr(ok:X.Ok){b:VI}{o:Obj}(e:X.base.get? b=some o):b∉X.fs:=fun a=>by
 have:=(ok.funs.mem a).1;rw[e]at this;cases this
theorem VV.bs(I:VV X pins σ H s):∀b o,X.base.get? b=some o->s.heap.get? b=some o/\H b=none:=fun b o e=>
 ⟨I.base.keep b o (I.ok.bs b o e).1 (I.ok.bs b o e).2 (I.ok.nofr e) (I.ok.noex b o e),I.base.free b o (I.ok.bs b o e).1 (I.ok.bs b o e).2 (I.ok.noex b o e)⟩
theorem VV.bk(I:VV X pins σ H s):∀b o,X.base.get? b=some o->s.heap.get? b=some o:=fun b o e=>(I.bs b o e).1
theorem VV.mod(I:VV X pins σ H s):Mod X.K X.mg X.base:=I.ok.mod
theorem VV.kIn(I:VV X pins σ H s):X.K.In s.heap:=I.ok.mod.kin.keeps I.bk
theorem VV.lt(I:VV X pins σ H s):X.env.locals < s.heap.objs.size:=let ⟨_,hn,_⟩:=I.loc;hn.lt
theorem VV.sz(I:VV X pins σ H s):X.s₀.heap.objs.size <=s.heap.objs.size:=Yu I.ok.above (X5 I.lt)
theorem VV.nofs(I:VV X pins σ H s){a:VI}(h:s.heap.objs.size <=a):a∉X.fs:=fun c=>by
 obtain⟨_,o,b,_⟩:=I.ok.funs.mem c;exact absurd (Ym (Y8 b) (Yu I.sz h)) (YM _)
theorem VV.cne(I:VV X pins σ H s):∀x c,X.env.cells.lookup x=some c->c≠X.env.locals:=fun x c e z=>by
 obtain⟨v,o,b,hd⟩:=I.cell x c e;obtain⟨m,⟨o',es,ep,a,d,_⟩,_⟩:=I.loc;rw[z,a]at b;cases b;rw[d]at hd;cases hd
theorem VV.funs(I:VV X pins σ H s):s.heap.FunFrames X.base X.outer:=by
 have all:∀ (l:List Env),(∀b∈JM l,b∈X.fs)->X.s₀.heap.FunFrames X.base l->s.heap.FunFrames X.base l:=by
  intro l
  induction l with
  |nil=>intro _ _;trivial
  |cons env r ih=>
   intro hs i;obtain⟨j,⟨L,o,a,h,g,hd⟩,f⟩:=i;have d:L∈X.fs:=hs L (by unfold JM;rw[XZ,a];exact Yq);obtain⟨n,e⟩:=I.base.slot L o g (I.ok.frf L d) d fun z=>I.ok.exfs L z d
   exact⟨j,⟨L,_,a,h,e,hd⟩,ih (fun b c=>hs b (by unfold JM;rw[XZ,a];exact Ya _ c)) f⟩
 exact all X.outer (fun _ c=>c) I.ok.funs
theorem VV.stack(I:VV X pins σ H s):s.heap.FunFrames X.base X.stack:=by
 rcases I.ok.stk with e|⟨e,hf⟩
 .rw[e];exact I.funs
 .rw[e];obtain⟨m,a,_⟩:=I.loc;refine .cons (by rw[I.ok.kind];decide) hf a ?_ I.funs;exact Heap.get?_none_of_le (Yu I.ok.bsz I.ok.above)
theorem VV.stkSub(I:VV X pins σ H s):∀b∈JM X.stack,b∈X.env.locals::X.fs:=fun b a=>by
 rcases I.ok.stk with e|⟨e,hf⟩
 .rw[e]at a;exact Ya _ a
 .rw[e]at a;unfold JM at a;rw[XZ,hf]at a;exact a
theorem VV.stkFree(I:VV X pins σ H s):∀b∈JM X.stack,H b=none:=fun b a=>by
 rcases Y6.mp (I.stkSub b a) with e|a
 .rw[e];exact I.free
 .obtain⟨_,o,c,_⟩:=I.ok.funs.mem a;exact I.base.free b o c (I.ok.frf b a) fun z=>I.ok.exfs b z a
theorem VV.step{g':Array GenState}{t':Nat}{d':Drawn}{ch:List Addr}(I:VV X pins σ H s)
  (hch:∀b∈ch,(b∈X.ex\/X.s₀.heap.objs.size <=b)/\b≠X.env.locals/\(∀x c,X.env.cells.lookup x=some c->c≠b)/\∀p∈X.pn++pins,p.1≠b)
  (keep:∀b o,b≠X.env.locals->b∉X.fs->b∉ch->s.heap.get? b=some o->H b=none->h'.get? b=some o)
  (slot:∀b o,b≠X.env.locals->b∈X.fs->b∉ch->s.heap.get? b=some o->H b=none->∃sl,h'.get? b=some {o with slots:=sl}) (free:∀b o,b∉ch->s.heap.get? b=some o->H b=none->H' b=none)
  (there:∀b o,b∉ch->s.heap.get? b=some o->∃o',h'.get? b=some o')
  (tups:∀b xs,H b=some (.tup xs)->H' b=some (.tup xs)) (frzs:∀b o u,H b=some (.frz o u)->H' b=some (.frz o u)) (tbls:∀b ps,H b=some (.tbl ps)->∃more,H' b=some (.tbl (ps++more)))
  (ns:∀m,s.heap.Ns X.env.locals m->h'.Ns X.env.locals m) (hok:JU X.prog X.w H' h') (hg:AllBare g'):
  VV X pins σ H' {s with heap:=h',gens:=g',drawn:=d',toks:=t'}:=by
 have neL:∀b o,X.s₀.heap.get? b=some o->b≠X.env.locals:=fun b o e=>Yi (Ym (Y8 e) I.ok.above)
 have j:∀b o,X.s₀.heap.get? b=some o->b∉X.ex->b∉ch:=fun b o e a h=>by
  rcases(hch b h).1 with z|z
  .exact a z
  .exact absurd (Ym (Y8 e) z) (YM _)
 have y:∀x c,X.env.cells.lookup x=some c->∀v,s.heap.IsCell c v->h'.IsCell c v:=fun x c e v ⟨o,ho,hd⟩=>by
  have g:c∉ch:=fun z=>(hch c z).2.2.1 x c e rfl
  by_cases hc:c∈X.fs
  .obtain⟨sl,q⟩:=slot c o (I.cne x c e) hc g ho (I.freeC x c e);exact⟨_,q,hd⟩
  .exact⟨o,keep c o (I.cne x c e) hc g ho (I.freeC x c e),hd⟩
 refine⟨I.ok,I.os,hg,⟨fun b o e n h a=>?_,fun b o e n h a=>?_,fun b o e n a=>?_,fun b o e a=>?_,fun b xs e=>tups b xs (I.base.tups b xs e),fun b o xs e=>frzs b o xs (I.base.frzs b o xs e),fun b ps e=>?_⟩,?_,fun x c e=>?_,?_,fun x c e=>?_,fun p hp=>?_,hok,I.len⟩
 .exact keep b o (neL b o e) h (j b o e a) (I.base.keep b o e n h a) (I.base.free b o e n a)
 .obtain⟨sl,f⟩:=I.base.slot b o e n h a;obtain⟨sl',e2⟩:=slot b _ (neL b o e) h (j b o e a) f (I.base.free b o e n a);exact⟨sl',e2⟩
 .obtain⟨o',f⟩:=I.base.there b o e a;exact free b o' (j b o e a) f (I.base.free b o e n a)
 .obtain⟨o',f⟩:=I.base.there b o e a;exact there b o' (j b o e a) f
 .obtain⟨m1,f⟩:=I.base.tbls b ps e;obtain⟨m2,e2⟩:=tbls b _ f;exact⟨m1++m2,by rw[e2,Array.append_assoc]⟩
 .obtain⟨m,hn,hl⟩:=I.loc;refine⟨m,ns m hn,fun i x v f e2 e3=>?_⟩;obtain⟨u,r,l⟩:=hl i x v f e2 e3;refine⟨u,r,?_⟩;rcases l with l|⟨k,c,e,z⟩
  .exact .inl l
  .exact .inr ⟨k,c,e,y x c e _ z⟩
 .obtain⟨v,z⟩:=I.cell x c e;exact⟨v,y x c e v z⟩
 .obtain⟨m,⟨o,_,_,ho,_⟩,_⟩:=I.loc;exact free _ o (fun z=>(hch _ z).2.1 rfl) ho I.free
 .obtain⟨v,o,ho,hd⟩:=I.cell x c e;exact free c o (fun z=>(hch c z).2.2.1 x c e rfl) ho (I.freeC x c e)
 .obtain⟨e,n,ne,nf,d⟩:=I.pin p hp;have g:p.1∉ch:=fun z=>(hch p.1 z).2.2.2 p hp rfl
  exact⟨keep p.1 p.2 ne nf g e n,free p.1 p.2 g e n,ne,nf,d⟩
theorem VV.un{t':Nat}(I:VV X pins σ H s)(u:Un X.fs [] H H' s.heap h')(hok:JU X.prog X.w H' h'):VV X pins σ H' {s with heap:=h',toks:=t'}:=by
 obtain ⟨m, ⟨o, es, ep, d, r⟩, _⟩ := id I.loc;obtain ⟨l, j⟩ := u.any d I.free (by simp);exact I.step (g' := s.gens) (d' := s.drawn) (ch := []) (fun _ z => nomatch z) (fun b o _ c _ e n => u.keep b o e n c (by simp)) (fun b o _ c _ e n => u.slot b o e n c (by simp)) (fun b o _ e n => u.free b o e n (by simp)) (fun b o _ e => u.there b o e (by simp)) u.tups u.frzs u.tbls (fun p i => by
  obtain ⟨o', f, g, a, h⟩ := i;rw [d] at a; cases a;exact ⟨_, f, g, j, h⟩) hok I.bare
theorem VV.call{g':Array GenState}{t':Nat}{d':Drawn}{ch:List Addr}(I:VV X pins σ H s)(u:Un (JM X.stack) ch H H' s.heap h')(hok:JU X.prog X.w H' h')(hg:AllBare g')
  (hch:∀b∈ch,(b∈X.ex\/X.s₀.heap.objs.size <=b)/\b≠X.env.locals/\(∀x c,X.env.cells.lookup x=some c->c≠b)/\∀p∈X.pn++pins,p.1≠b):
  VV X pins σ H' {s with heap:=h',gens:=g',drawn:=d',toks:=t'}:=by
 obtain⟨m,⟨o,es,ep,g,r⟩,_⟩:=id I.loc;obtain⟨v,f⟩:=u.any g I.free fun z=>(hch _ z).2.1 rfl
 exact I.step (ch := ch) hch (fun b o f q a e n => u.keep b o e n (fun z => (Y6.mp (I.stkSub b z)).elim f q) a) (fun b o _ _ a e n => u.any e n a) (fun b o a e n => u.free b o e n a) (fun b o a e => u.there b o e a) u.tups u.frzs u.tbls (fun y l => by
  obtain ⟨o', h, i, d, j⟩ := l;rw [g] at d; cases d;exact ⟨_, h, i, f, j⟩) hok hg
theorem VV.turned{t':Nat}{it:VI}(I:VV X pins σ H s)(k:∀b o,b≠it->s.heap.get? b=some o->h'.get? b=some o)(hn:H it=none)(hL:it≠X.env.locals)
  (h1:it∈X.ex\/X.s₀.heap.objs.size <=it) (h2:∀x c,X.env.cells.lookup x=some c->c≠it) (h3:∀p∈X.pn++pins,p.1≠it):VV X pins σ H {s with heap:=h',toks:=t'}:=by
 have d:∀b u,H b=some u->b≠it:=fun b u e z=>by rw[z,hn]at e;cases e
 refine I.step (g':=s.gens) (d':=s.drawn) (ch:=[it]) (fun b h=>?_) (fun b o _ _ a e _=>k b o (fun z=>a (by simp[z])) e) (fun b o _ _ a e _=>⟨o.slots,k b o (fun z=>a (by simp[z])) e⟩) (fun _ _ _ _ n=>n)
  (fun b o a e=>⟨o,k b o (fun z=>a (by simp[z])) e⟩) (fun _ _ e=>e) (fun _ _ _ e=>e) (fun b ps e=>⟨#[],by rw[e];simp⟩) (fun m g=>?_) (fun b u e=>?_) I.bare
 .have e:b=it:=by simpa using h
  subst e;exact⟨h1,hL,h2,h3⟩
 .obtain⟨o,es,ep,f,r⟩:=g;exact⟨o,es,ep,k _ o (Ne.symm hL) f,r⟩
 .refine(I.hok b u e).stay (fun c v a q=>k c v ?_ q) (fun _ q=>q) fun _ _ q=>q
  rcases a with z|z
  .rw[z];exact d b u e
  .exact d c _ z
theorem VV.tok(I:VV X pins σ H s)(t:Nat):VV X pins σ H {s with toks:=t}:=I.un (h':=s.heap) (t':=t) Un.refl I.hok
theorem VV.kept{t':Nat}(I:VV X pins σ H s)(k:∀b u,s.heap.get? b=some u->h'.get? b=some u):VV X pins σ H {s with heap:=h',toks:=t'}:=I.un (Un.kept k) (I.hok.kept k)
theorem VV.laid{a:VI}{o:HO}{t':Nat}(I:VV X pins σ H s)(k:∀b u,s.heap.get? b=some u->h'.get? b=some u)(hp:s.heap.objs.size <=a)(new:Wf X.prog X.w (upd H a o) h' a o):
  VV X pins σ (upd H a o) {s with heap:=h',toks:=t'}:=I.un (Un.laid k hp (I.hok.fresh hp)) (I.hok.laid k hp new)
theorem VV.write{x e:VI}{o:HO}{t':Nat}(I:VV X pins σ H s)(mu:B1 (H x))(he:e=x\/H e=some (.own x))(k:∀b u,b≠e->s.heap.get? b=some u->h'.get? b=some u)(heo:∃u,h'.get? e=some u)
  (new:Wf X.prog X.w (upd H x o) h' x o):VV X pins σ (upd H x o) {s with heap:=h',toks:=t'}:=I.un (Un.write mu he k heo) (I.hok.write mu he k heo new)
theorem VV.pins_of{pins':VA}(I:VV X pins σ H s)(h:∀p∈pins',s.heap.get? p.1=some p.2/\H p.1=none/\p.1≠X.env.locals/\p.1∉X.fs/\∀v,p.2.data≠ .cell v):VV X pins' σ H s:=
 ⟨I.ok,I.os,I.bare,I.base,I.loc,I.cell,I.free,I.freeC,fun p a=>(YG.mp a).elim (fun z=>I.pin p (Xu _ z)) (h p),I.hok,I.len⟩
theorem HB{N:List Str}(hN:N.Nodup){i j:Nat}{x:Str}(a:N[i]?=some x)(b:N[j]?=some x):i=j:=by
 obtain⟨h1,d⟩:=Y5.mp a;obtain⟨h2,c⟩:=Y5.mp b;exact(List.getElem_inj hN).mp (d.trans c.symm)
theorem vQ{M:Model}{A:VE}{E:Vy}{i:Nat}{x:Str}{v:V}{u:VH}{Q:Vz}(I:VV X pins σ H s)(hN:X.N.Nodup)(hi:X.N[i]?=some x)(hx:Rq X.env.scope x)(r:W9 v u)
  (h:∀s',VV X pins (σ.set i (some v)) H s'->(∃a,Heap.SameBut a s.heap s'.heap/\(a=X.env.locals\/X.env.cells.lookup x=some a))->Q () s') (hf:X.fn x=true\/X.env.scope.names.lookup x=some .local:=by first|exact .inl rfl|exact .inr rfl|assumption):wpAny M A (storeName X.env x u) Q E s:=by
 obtain⟨m,hn,hl⟩:=id I.loc;have hcls:(X.env.scope.kind== .class||(X.env.scope.kind== .module && X.env.locals !=X.env.globals))=false:=by rw[I.ok.kind];rfl
 have hiσ:i < σ.length:=by rw[I.len];exact(Y5.mp hi).1
 have cne:=I.cne;have l:∀{a:VI} {h':VM},(∃o,s.heap.get? a=some o/\H a=none)->Heap.SameBut a s.heap h'->JU X.prog X.w H h':=fun {a h'} ha hs b ob e=>by
  obtain⟨_,_,hfree⟩:=ha;refine(I.hok b ob e).stay (fun c w' g q=>(hs.2 c ?_).trans q) (fun _ q=>q) fun _ _ q=>q
  rintro rfl;rcases g with rfl|g
  .rw[hfree]at e;cases e
  .rw[hfree]at g;cases g
 rcases hx with hk|hk
 .refine wpAny_storeName_local hk hn (fun h' hn' hs=>?_) hcls;obtain⟨oL,_,_,hoL,_⟩:=id hn;refine h _ ⟨I.ok,I.os,I.bare,⟨fun b o e n hb hx=>?_,fun b o e n hb hx=>?_,I.base.free,fun b o e hx=>?_,I.base.tups,I.base.frzs,I.base.tbls⟩,⟨_,hn',fun j y v' f e2 e3=>?_⟩,fun y c e=>?_,I.free,I.freeC,fun p hp=>?_,l ⟨oL,hoL,I.free⟩ hs,by simpa using I.len⟩ ⟨_,hs,.inl rfl⟩
  .exact(hs.2 b (Yi (Ym (Y8 e) I.ok.above))).trans (I.base.keep b o e n hb hx)
  .obtain⟨sl,f⟩:=I.base.slot b o e n hb hx;exact⟨sl,(hs.2 b (Yi (Ym (Y8 e) I.ok.above))).trans f⟩
  .obtain⟨o',f⟩:=I.base.there b o e hx;exact⟨o',(hs.2 b (Yi (Ym (Y8 e) I.ok.above))).trans f⟩
  .by_cases hj:j=i
   .subst hj;rw[hi]at f;cases f;rw[Uh hiσ]at e2;cases e2;exact⟨u,r,.inl ⟨hk,by simp⟩⟩
   .rw[Uv (Ne.symm hj)]at e2;obtain⟨u',r',q⟩:=hl j y v' f e2 e3;refine⟨u',r',?_⟩;rcases q with⟨k,e⟩|⟨k,c,e,z⟩
    .refine .inl ⟨k,?_⟩;have:y≠x:=fun e=>hj (HB hN f (e▸hi))
     simp[this,e]
    .exact .inr ⟨k,c,e,z.sameBut hs (cne y c e)⟩
  .obtain⟨w',z⟩:=I.cell y c e;exact⟨w',z.sameBut hs (cne y c e)⟩
  .obtain⟨e,n,ne,nf,d⟩:=I.pin p hp;exact⟨(hs.2 p.1 ne).trans e,n,ne,nf,d⟩
 .have hfn:X.fn x=true:=by
   rcases hf with z|z
   .exact z
   .rw[z]at hk;cases hk
  obtain⟨c,g⟩:=I.ok.has x (.inl hk);obtain⟨w',z⟩:=I.cell x c g;refine wpAny_storeName_cell I.ok.kind hk g z (fun h' hc' hs=>?_);obtain⟨oc,hoc,hocd⟩:=id z;refine h {s with heap:=h'} ⟨I.ok,I.os,I.bare,⟨fun b o e n hb hx=>?_,fun b o e n hb hx=>?_,I.base.free,fun b o e hx=>?_,I.base.tups,I.base.frzs,I.base.tbls⟩,⟨m,hn.sameBut hs (Ne.symm (cne x c g)),fun j y v' f e2 e3=>?_⟩,fun y c' e=>?_,I.free,I.freeC,fun p hp=>?_,l ⟨oc,hoc,I.freeC x c g⟩ hs,by simpa using I.len⟩ ⟨c,hs,.inr g⟩
  .exact(hs.2 b (Yi (Ym (Y8 e) (I.ok.cab x c hfn g)))).trans (I.base.keep b o e n hb hx)
  .obtain⟨sl,f⟩:=I.base.slot b o e n hb hx;exact⟨sl,(hs.2 b (Yi (Ym (Y8 e) (I.ok.cab x c hfn g)))).trans f⟩
  .obtain⟨o',f⟩:=I.base.there b o e hx;exact⟨o',(hs.2 b (Yi (Ym (Y8 e) (I.ok.cab x c hfn g)))).trans f⟩
  .by_cases hj:j=i
   .subst hj;rw[hi]at f;cases f;rw[Uh hiσ]at e2;cases e2;exact⟨u,r,.inr ⟨.inl hk,c,g,hc'⟩⟩
   .rw[Uv (Ne.symm hj)]at e2;obtain⟨u',r',q⟩:=hl j y v' f e2 e3;refine⟨u',r',?_⟩;rcases q with q|⟨k,c',e,z'⟩
    .exact .inl q
    .refine .inr ⟨k,c',e,z'.sameBut hs ?_⟩;rintro rfl;exact hj (HB hN f (I.ok.inj _ _ _ e g▸hi))
  .by_cases hcc:c'=c
   .subst hcc;exact⟨_,hc'⟩
   .obtain⟨w2,z2⟩:=I.cell y c' e;exact⟨w2,z2.sameBut hs hcc⟩
  .obtain⟨e,n,ne,nf,d⟩:=I.pin p hp;refine⟨(hs.2 p.1 ?_).trans e,n,ne,nf,d⟩;intro q;rw[q,hoc]at e;have q':oc=p.2:=Yo e;exact d w' (by rw[<-q'];exact hocd)
theorem A6{M:Model}{A:VE}{E:Vy}{i:Nat}{x:Str}{v:V}{u:VH}{Q:Vz}(I:VV X pins σ H s)(hN:X.N.Nodup)(hi:X.N[i]?=some x)(hx:Rq X.env.scope x)(r:W9 v u)
  (h:∀s',VV X pins (σ.set i (some v)) H s'->Q () s') (hf:X.fn x=true\/X.env.scope.names.lookup x=some .local:=by first|exact .inl rfl|exact .inr rfl|assumption):wpAny M A (storeName X.env x u) Q E s:=
 vQ I hN hi hx r (fun s' a _=>h s' a) hf
theorem VV.call'{s':VC}{ch:List Addr}(I:VV X pins σ H s)(ho:s'.os=s.os)(u:Un (JM X.stack) ch H H' s.heap s'.heap)(hok:JU X.prog X.w H' s'.heap)(hg:AllBare s'.gens)
  (hch:∀b∈ch,(b∈X.ex\/X.s₀.heap.objs.size <=b)/\b≠X.env.locals/\(∀x c,X.env.cells.lookup x=some c->c≠b)/\∀p∈X.pn++pins,p.1≠b):VV X pins σ H' s':=by
 obtain⟨h',g',d',t',o'⟩:=s';have e:o'=s.os:=ho;subst e;exact I.call (g':=g') (t':=t') (d':=d') u hok hg hch
end
abbrev XK:=Value->Option Addr->Hp->Prop
abbrev St:=List (Option V)
abbrev VK:=V->Hp->Prop
abbrev TE:=St->Hp->VK->Prop
abbrev TT:=St->Hp->(Bool->Hp->Prop)->Prop
abbrev TA:=St->Hp->(List V->Hp->Prop)->Prop
structure MQ where
 nx:St->Hp->Prop
 rt:VK
 bk:St->Hp->Prop:=fun _ _=>False
 ct:St->Hp->Prop:=fun _ _=>False
abbrev TS:=MQ->St->Hp->Prop
def EP(X:Cx)(pins:VA)(σ:St)(Q:VK)(u:VH)(s':VC):Prop:=∃v H',VV X pins σ H' s'/\W9 v u/\Q v H'
def TP(X:Cx)(pins:VA)(σ:St)(Q:Bool->Hp->Prop)(b:Bool)(s':VC):Prop:=∃H',VV X pins σ H' s'/\Q b H'
def AP(X:Cx)(pins:VA)(σ:St)(Q:List V->Hp->Prop)(us:VL)(s':VC):Prop:=∃vs H',VV X pins σ H' s'/\W2 vs us/\Q vs H'
def SP(X:Cx)(pins:VA)(D:MQ)(f:Flow)(s':VC):Prop:=
 match f with
 | .next=>∃σ' H',VV X pins σ' H' s'/\D.nx σ' H'
 | .brk=>∃σ' H',VV X pins σ' H' s'/\D.bk σ' H'
 | .cont=>∃σ' H',VV X pins σ' H' s'/\D.ct σ' H'
 | .ret u=>∃v σ' H',VV X pins σ' H' s'/\W9 v u/\D.rt v H'
def PE(X:Cx)(e:VN)(t:TE):Prop:=
 ∀ (pins:VA) (s:VC) (σ:St) (H:Hp) (Q:VK),VV X pins σ H s->t σ H Q->wpAny (model X.prog X.w) X.A (eval e X.env) (EP X pins σ Q) X.xe s
def PT(X:Cx)(e:VN)(t:TT):Prop:=
 ∀ (pins:VA) (s:VC) (σ:St) (H:Hp) (Q:Bool->Hp->Prop),VV X pins σ H s->t σ H Q->wpAny (model X.prog X.w) X.A (isTrue e X.env (eval e X.env)) (TP X pins σ Q) X.xe s
def PW(X:Cx)(e:VN)(t:TT):Prop:=
 ∀ (whole:Sem Value) (pins:VA) (s:VC) (σ:St) (H:Hp) (Q:Bool->Hp->Prop),VV X pins σ H s->t σ H Q->wpAny (model X.prog X.w) X.A (isTrue e X.env whole) (TP X pins σ Q) X.xe s
theorem PW.pt{X:Cx}{e:VN}{t:TT}(h:PW X e t):PT X e t:=h _
def PA(X:Cx)(es:List Expr)(t:TA):Prop:=
 ∀ (pos:Pos) (pins:VA) (s:VC) (σ:St) (H:Hp) (Q:List V->Hp->Prop),VV X pins σ H s->t σ H Q->wpAny (model X.prog X.w) X.A (spliced (backTo pos (starEach es X.env))) (AP X pins σ Q) X.xe s
def PS(X:Cx)(st:Stmt)(t:TS):Prop:=
 ∀ (pins:VA) (s:VC) (σ:St) (H:Hp) (D:MQ),VV X pins σ H s->t D σ H->wpAny (model X.prog X.w) X.A (exec st X.env) (SP X pins D) X.xe s
def To(X:Cx)(st:List Stmt)(t:TS):Prop:=
 ∀ (pins:VA) (s:VC) (σ:St) (H:Hp) (D:MQ),VV X pins σ H s->t D σ H->wpAny (model X.prog X.w) X.A (execs st X.env) (SP X pins D) X.xe s
theorem Wj{α:Type}{t:Sem α}{Q Q':α->Shared->Prop}{M:Model}{A:VE}{E:Vy}{s:VC}(h:wpAny M A t Q E s)(hQ:∀a s,Q a s->Q' a s):wpAny M A t Q' E s:=YC h hQ fun _ _ x=>x
section
variable{X:Cx}
def AF(i:Nat):TE:=fun σ H Q=>∃v,σ[i]?=some (some v)/\Q v H
def tC(v:V):TE:=fun _ H Q=>Q v H
theorem Ou{i:Nat}{x:Str}{pos:Pos}(hN:X.N[i]?=some x)(hv:Ed X.env.scope x)(hd:(x==("__debug__":Str))=false:=by decide)(hcd:(x==("__classdict__":Str))=false:=by decide):PE X (.Name x pos) (AF i):=by
 intro pins s σ H Q I h;obtain⟨v,e,h⟩:=h;obtain⟨m,b,d⟩:=I.loc;obtain⟨u,r,l⟩:=d i x v hN e hv;have a:EP X pins σ Q u s:=⟨v,H,I,r,h⟩;rcases l with⟨hk,hm⟩|⟨hk,c,hc,hcell⟩
 .exact wpAny_Name (wpAny_loadName_local I.ok.kind hk b hm a) hd
 .rcases hk with hk|hk
  .exact wpAny_Name (wpAny_loadName_cell I.ok.kind hk hc hcell a) hd
  .exact wpAny_Name (wpAny_loadName_free I.ok.kind hk hc hcell a hcd) hd
theorem W3{i j pos}:PE X (.Constant (.int i) j pos) (tC (.int i)):=fun _ _ _ H _ I h=>wpAny_Constant_int ⟨.int i,H,I.tok _,⟨_,rfl⟩,h⟩
theorem TQ{b j pos}:PE X (.Constant (.bool b) j pos) (tC (.bl b)):=fun _ _ _ H _ I h=>Constant_bool ⟨.bl b,H,I,rfl,h⟩
theorem Tk{j pos}:PE X (.Constant .none j pos) (tC .non):=fun _ _ _ H _ I h=>Constant_none ⟨.non,H,I,rfl,h⟩
theorem Wm{x j pos}:PE X (.Constant (.str x) j pos) (tC (.str x)):=fun _ _ _ H _ I h=>Calls.Constant_str ⟨.str x,H,I.tok _,⟨_,rfl⟩,h⟩
def Gl(X:Cx)(x:Str):Prop:=X.env.kindOf x=some .globalImplicit
theorem Gz{E:Vy}{pins:VA}{s:VC}{σ:St}{H:Hp}{x:Str}{u:VH}{pos:Pos}{Q:Vy}(I:VV X pins σ H s)(hg:Gl X x)(hm:X.mg x=some u)(h:Q u s)
  (hd:(x==("__debug__":Str))=false:=by decide):wpAny (model X.prog X.w) X.A (eval (.Name x pos) X.env) Q E s:=
 UL I.ok.kind hg (Calls.loadGlobal_global (by rw[I.ok.glob];exact I.mod.glob.keeps I.bk) hm h) hd
theorem GI{E:Vy}{pins:VA}{s:VC}{σ:St}{H:Hp}{x:Str}{u:VH}{pos:Pos}{Q:Vy}(I:VV X pins σ H s)(hg:Gl X x)(hm:X.mg x=none)(hv:bootBuiltins x=some u)(h:Q u s)
  (hn:x≠"__name__":=by decide) (hd:(x==("__debug__":Str))=false:=by decide):wpAny (model X.prog X.w) X.A (eval (.Name x pos) X.env) Q E s:=by
 obtain⟨mb,h1,h2⟩:=I.mod.blt;exact UL I.ok.kind hg (Calls.loadGlobal_builtin (by rw[I.ok.glob];exact I.mod.glob.keeps I.bk) hm (by rw[I.ok.blt];exact h1.keeps I.bk) ((h2 x hn).trans hv) h) hd
theorem M3{x:Str}{v:V}{u:VH}{pos:Pos}(hg:Gl X x)(hm:X.mg x=some u)(r:W9 v u)(hd:(x==("__debug__":Str))=false:=by decide):PE X (.Name x pos) (tC v):=
 fun _ _ _ H _ I h=>Gz I hg hm ⟨v,H,I,r,h⟩ hd
theorem Dv{x:Str}{v:V}{u:VH}{pos:Pos}(hg:Gl X x)(hm:X.mg x=none)(hv:bootBuiltins x=some u)(r:W9 v u)(hn:x≠"__name__":=by decide)(hd:(x==("__debug__":Str))=false:=by decide):PE X (.Name x pos) (tC v):=
 fun _ _ _ H _ I h=>GI I hg hm hv ⟨v,H,I,r,h⟩ hn hd
variable{a b:VN}{ta tb:TE}{pos:Pos}
def tB(t:TE):TT:=fun σ H Q=>t σ H fun x H1=>∃c,x= .bl c/\Q c H1
theorem Kq{e:VN}{t:TE}(h:PE X e t)(he:∀whole,isTrue e X.env whole=(do let v <-whole;standAt e.pos;holding [v] (truthy v)):=by intro _;rfl):PT X e (tB t):=by
 intro pins s σ H Q I c;refine isTrue_plain (Wj (h pins s σ H _ I c) fun v s1 zz=>?_) (he _);rcases zz with⟨x,H1,f,a,b⟩;obtain⟨d,rfl,q⟩:=b;cases a;exact YV ⟨H1,f,q⟩
variable{tA tB':TT}{rest:List Expr}
def L6(t u:TT):TT:=fun σ H Q=>t σ H fun c H1=>if c=true then u σ H1 Q else Q false H1
def FB(t u:TT):TT:=fun σ H Q=>t σ H fun c H1=>if c=true then Q true H1 else u σ H1 Q
def Ic(t:TT):TT:=fun σ H Q=>t σ H fun c H1=>Q (!c) H1
theorem IB(ha:PT X a tA):PW X (.BoolOp .And [a] pos) tA:=by
 intro b pins s σ H Q I h;refine isTrue_and (Wj (ha pins s σ H Q I h) fun c s1 e=>?_);cases c with
 |true=>exact isTrue_and_nil e
 |false=>exact e
theorem Mr(ha:PT X a tA):PW X (.BoolOp .Or [a] pos) tA:=by
 intro b pins s σ H Q I h;refine isTrue_or (Wj (ha pins s σ H Q I h) fun c s1 e=>?_);cases c with
 |false=>exact isTrue_or_nil e
 |true=>exact e
theorem FC(ha:PT X a tA)(hb:PW X (.BoolOp .And (b::rest) pos) tB'):PW X (.BoolOp .And (a::b::rest) pos) (L6 tA tB'):=by
 intro f pins s σ H Q I h;refine isTrue_and (Wj (ha pins s σ H _ I h) fun c s1 ⟨H1,e,d⟩=>?_);cases c with
 |true=>exact hb f pins s1 σ H1 Q e d
 |false=>exact⟨H1,e,d⟩
theorem Mf(ha:PT X a tA)(hb:PW X (.BoolOp .Or (b::rest) pos) tB'):PW X (.BoolOp .Or (a::b::rest) pos) (FB tA tB'):=by
 intro f pins s σ H Q I h;refine isTrue_or (Wj (ha pins s σ H _ I h) fun c s1 ⟨H1,e,d⟩=>?_);cases c with
 |true=>exact⟨H1,e,d⟩
 |false=>exact hb f pins s1 σ H1 Q e d
theorem Nq(ha:PT X a tA):PT X (.UnaryOp .Not a pos) (Ic tA):=by
 intro pins s σ H Q I h;exact isTrue_not (ha pins s σ H (fun c H1=>Q (!c) H1) I h)
def EC(ta tb:TE):TE:=fun σ H Q=>ta σ H fun x H1=>∃c,x= .bl c/\if c=true then tb σ H1 Q else Q (.bl false) H1
def EI(ta tb:TE):TE:=fun σ H Q=>ta σ H fun x H1=>∃c,x= .bl c/\if c=true then Q (.bl true) H1 else tb σ H1 Q
def El(ta:TE):TE:=fun σ H Q=>ta σ H fun x H1=>∃c,x= .bl c/\Q (.bl (!c)) H1
theorem MT{op}{t:TE}(h:PE X a t):PE X (.BoolOp op [a] pos) t:=fun pins s σ H Q I b=>BoolOp_one (h pins s σ H Q I b)
theorem ZJ(ha:PE X a ta)(hb:PE X (.BoolOp .And (b::rest) pos) tb):PE X (.BoolOp .And (a::b::rest) pos) (EC ta tb):=by
 intro pins s σ H Q I h;refine BoolOp_and (Wj (ha pins s σ H _ I h) fun v s1 zz=>?_);rcases zz with⟨x,H1,e,f,d⟩;obtain⟨c,rfl,d⟩:=d;cases f;refine YV ?_;cases c with
 |true=>exact hb pins s1 σ H1 Q e d
 |false=>exact⟨.bl false,H1,e,rfl,d⟩
theorem yQ(ha:PE X a ta)(hb:PE X (.BoolOp .Or (b::rest) pos) tb):PE X (.BoolOp .Or (a::b::rest) pos) (EI ta tb):=by
 intro pins s σ H Q I h;refine BoolOp_or (Wj (ha pins s σ H _ I h) fun v s1 zz=>?_);rcases zz with⟨x,H1,e,f,d⟩;obtain⟨c,rfl,d⟩:=d;cases f;refine YV ?_;cases c with
 |false=>exact hb pins s1 σ H1 Q e d
 |true=>exact⟨.bl true,H1,e,rfl,d⟩
theorem gM(ha:PE X a ta):PE X (.UnaryOp .Not a pos) (El ta):=by
 intro pins s σ H Q I h;refine UnaryOp_ (Wj (ha pins s σ H _ I h) fun v s1 zz=>?_);rcases zz with⟨x,H1,e,d,b⟩;obtain⟨c,rfl,b⟩:=b;cases d;exact not_of (YV ⟨.bl (!c),H1,e,rfl,b⟩)
def IN(t:TT)(ta tb:TE):TE:=fun σ H Q=>t σ H fun c H1=>if c=true then ta σ H1 Q else tb σ H1 Q
theorem FL{c:VN}(hc:PT X c tA)(ha:PE X a ta)(hb:PE X b tb):PE X (.IfExp c a b pos) (IN tA ta tb):=by
 intro pins s σ H Q I h;refine wpAny_IfExp (Wj (hc pins s σ H _ I h) fun d s1 ⟨H1,f,e⟩=>?_);cases d with
 |true=>exact ha pins s1 σ H1 Q f e
 |false=>exact hb pins s1 σ H1 Q f e
end
def VZ(K:VG)(H:Hp)(a:VI)(xs:List V):Prop:=
 Rd H a (.lst xs)\/
  ∃ (o:Obj) (its:Array Value) (n:Nat),K.lookup a=some o/\o.cls= .type "list"/\o.dict=none/\o.data= .seq its n/\its.size <=sizeLine/\W2 xs its.toList
def JN(K:VG)(H:Hp)(a:VI)(xs:List V):Prop:=
 Rd H a (.tup xs)\/
  ∃ (o:Obj) (its:Array Value) (n:Nat),K.lookup a=some o/\o.cls= .type "tuple"/\o.data= .seq its n/\its.size <=sizeLine/\W2 xs its.toList
def S8:Value->Option V
 | .none=>some .non
 | .bool b=>some (.bl b)
 | .int i _=>some (.int i)
 | .str x _=>some (.str x)
 | .bytes b _=>some (.byt b)
 | .float b _=>some (.flt b)
 | .ref a=>some (.ref a)
 | .type n=>some (.ty n)
 |_=>none
theorem W9.abs{x:V}{u:VH}(r:W9 x u):S8 u=some x:=by
 cases x with
 |non=>cases r;rfl
 |bl _=>cases r;rfl
 |int _=>obtain⟨t,rfl⟩:=r;rfl
 |str _=>obtain⟨t,rfl⟩:=r;rfl
 |byt _=>obtain⟨t,rfl⟩:=r;rfl
 |flt _=>obtain⟨t,rfl⟩:=r;rfl
 |ref _=>cases r;rfl
 |ty _=>cases r;rfl
theorem W9.inj{x y:V}{u:VH}(r:W9 x u)(q:W9 y u):x=y:=Yo (r.abs.symm.trans q.abs)
theorem W2.inj:∀{xs ys:List V} {us:VL},W2 xs us->W2 ys us->xs=ys
 |_,_,_,.nil,.nil=>rfl
 |_,_,_,.cons r t,.cons r' t'=>by rw[r.inj r',W2.inj t t']
section
variable{X:Cx}{pins:VA}{σ:St}{H:Hp}{s:VC}{a:VI}{xs ys:List V}
theorem VZ.of{K:VG}(h:H a=some (.lst xs)):VZ K H a xs:=.inl (.inl h)
theorem JN.of{K:VG}(h:H a=some (.tup xs)):JN K H a xs:=.inl (.inl h)
theorem VV.list(I:VV X pins σ H s)(h:VZ X.K H a xs):∃its:List Value,W2 xs its/\PlainL s.heap a its.toArray/\xs.length <=sizeLine:=by
 rcases h with h|⟨o,its,n,hk,hc,hd,hs,hz,r⟩
 .obtain⟨z,its,n,r,e⟩:=h.ok I.hok;exact⟨its,r,⟨_,n,e,rfl,rfl,rfl⟩,z⟩
 .refine⟨its.toList,r,⟨o,n,I.kIn a o hk,hc,hd,by simpa using hs⟩,?_⟩;have e:=r.length;simp only[Array.length_toList]at e
  lia
theorem VV.tuple(I:VV X pins σ H s)(h:JN X.K H a xs):∃its:List Value,W2 xs its/\IsTup s.heap a its.toArray/\xs.length <=sizeLine:=by
 rcases h with h|⟨o,its,n,hk,hc,hs,hz,r⟩
 .obtain⟨z,its,r,p⟩:=h.ok I.hok;exact⟨its,r,p,z⟩
 .refine⟨its.toList,r,⟨o,I.kIn a o hk,hc,n,by simpa using hs⟩,?_⟩;have e:=r.length;simp only[Array.length_toList]at e
  lia
theorem VV.list_inj(I:VV X pins σ H s)(h:VZ X.K H a xs)(h':VZ X.K H a ys):xs=ys:=by
 obtain⟨c,r,⟨o,n,e,_,_,d⟩,_⟩:=I.list h;obtain⟨b,i,⟨o',j,f,_,_,g⟩,_⟩:=I.list h';rw[e]at f;cases f;rw[d]at g;injection g with d1 _;have:c=b:=by simpa using YH Array.toList d1
 subst this;exact r.inj i
end
abbrev Cx.wish(X:Cx)(E:Vy):Cx:={X with xe:=E}
abbrev Cx.nox(X:Cx):Cx:=X.wish fun _ _=>False
theorem Cx.Ok.wish{X:Cx}(ok:X.Ok)(E:Vy):(X.wish E).Ok:=
 ⟨ok.mod,ok.kind,ok.glob,ok.blt,ok.above,ok.inj,ok.has,ok.cab,ok.hd,ok.frames,ok.stk,ok.exf,ok.bs,ok.bsz,ok.noex,ok.exfs,ok.funs,ok.frf⟩
theorem Cx.Ok.unwish{X:Cx}{E:Vy}(ok:(X.wish E).Ok):X.Ok:=
 ⟨ok.mod,ok.kind,ok.glob,ok.blt,ok.above,ok.inj,ok.has,ok.cab,ok.hd,ok.frames,ok.stk,ok.exf,ok.bs,ok.bsz,ok.noex,ok.exfs,ok.funs,ok.frf⟩
section
variable{X:Cx}{pins:VA}{σ:St}{H:Hp}{s:VC}{E:Vy}
theorem VV.wish(I:VV X pins σ H s)(E:Vy):VV (X.wish E) pins σ H s:=⟨I.ok.wish E,I.os,I.bare,I.base,I.loc,I.cell,I.free,I.freeC,I.pin,I.hok,I.len⟩
theorem VV.unwish(I:VV (X.wish E) pins σ H s):VV X pins σ H s:=⟨I.ok.unwish,I.os,I.bare,I.base,I.loc,I.cell,I.free,I.freeC,I.pin,I.hok,I.len⟩
theorem SP.unwish{D:MQ}{f:Flow}{s':VC}(h:SP (X.wish E) pins D f s'):SP X pins D f s':=by
 cases f with
 |next=>obtain⟨σ',H',I,q⟩:=h;exact⟨σ',H',I.unwish,q⟩
 |brk=>obtain⟨σ',H',I,q⟩:=h;exact⟨σ',H',I.unwish,q⟩
 |cont=>obtain⟨σ',H',I,q⟩:=h;exact⟨σ',H',I.unwish,q⟩
 |ret u=>obtain⟨v,σ',H',I,r,q⟩:=h;exact⟨v,σ',H',I.unwish,r,q⟩
theorem To.nox{st:List Stmt}{t:TS}(h:To X.nox st t):To X st t:=fun pins s σ H D I a=>
 YC (h pins s σ H D (I.wish _) a) (fun _ _ q=>q.unwish) fun _ _ z=>False.elim z
end
section
variable{X:Cx}{st:Stmt}{rest:List Stmt}{t u:TS}{e:VN}{te:TE}{pos:Pos}
def HN:TS:=fun D σ H=>D.nx σ H
def Ah(t u:TS):TS:=fun D σ H=>t {D with nx:=u D} σ H
theorem Jw:To X [] HN:=fun _ _ σ H _ I h=>XG ⟨σ,H,I,h⟩
theorem W1(h1:PS X st t)(h2:To X rest u):To X (st::rest) (Ah t u):=by
 intro pins s σ H D I h;refine UY (Wj (h1 pins s σ H {D with nx:=u D} I h) fun f s1 q=>?_);cases f with
 |next=>
  obtain⟨σ',H',a,q⟩:=q;exact h2 pins s1 σ' H' D a q
 |ret v=>exact q
 |brk=>exact q
 |cont=>exact q
theorem Wc(h1:PS X st t):To X [st] t:=by
 intro pins s σ H D I h;refine UY (Wj (h1 pins s σ H D I h) fun f s1 q=>?_);cases f with
 |next=>exact XG q
 |ret v=>exact q
 |brk=>exact q
 |cont=>exact q
def Fo:TS:=fun D σ H=>D.bk σ H
theorem xV:PS X (.Break pos) Fo:=fun _ _ σ H _ I h=>wpAny_Break ⟨σ,H,I,h⟩
theorem VV.quiet{pins:VA}{σ:St}{H:Hp}{s:VC}(I:VV X pins σ H s):interactive X.env=false:=by simp[interactive,I.ok.kind]
def L4(te:TE):TS:=fun D σ H=>te σ H fun _ H1=>D.nx σ H1
theorem JR(he:PE X e te)(hs:swapsWith e none pos.line X.env=pure false:=by rfl):PS X (.Expr e pos) (L4 te):=by
 intro pins s σ H D I h;exact wpAny_Expr_any (Wj (he pins s σ H _ I h) fun v s1 zz=>by rcases zz with⟨x,H1,b,c,a⟩;exact ⟨σ,H1,b,a⟩) I.quiet hs
def KP(te:TE):TS:=fun D σ H=>te σ H D.rt
theorem WL(he:PE X e te):PS X (.Return (some e) pos) (KP te):=by
 intro pins s σ H D I h;exact wpAny_Return_some (Wj (he pins s σ H _ I h) fun v s1 zz=>by rcases zz with⟨x,H1,c,a,b⟩;exact ⟨x,σ,H1,c,a,b⟩)
def FE(c:TT)(t u:TS):TS:=fun D σ H=>c σ H fun b H1=>if b=true then t D σ H1 else u D σ H1
theorem Jj{c:VN}{a b:List Stmt}{tc:TT}(hc:PT X c tc)(ha:To X a t)(hb:To X b u):PS X (.If c a b pos) (FE tc t u):=by
 intro pins s σ H D I h;refine wpAny_If (Wj (hc pins s σ H _ I h) fun d s1 ⟨H1,f,e⟩=>?_);cases d with
 |true=>exact ha pins s1 σ H1 D f e
 |false=>exact hb pins s1 σ H1 D f e
def jQ:TS:=fun _ _ _=>False
theorem Rl{sts:List Stmt}:To X sts jQ:=fun _ _ _ _ _ _ h=>h.elim
end
abbrev TG:=V->St->Hp->(St->Hp->Prop)->Prop
abbrev Rw:=List V->St->Hp->(St->Hp->Prop)->Prop
def PG(X:Cx)(target:VN)(t:TG):Prop:=
 ∀ (pins:VA) (s:VC) (σ:St) (H:Hp) (v:V) (u:VH) (Q:St->Hp->Prop),VV X pins σ H s->W9 v u->t v σ H Q->
  wpAny (model X.prog X.w) X.A (assign target X.env u) (fun _ s'=>∃σ' H',VV X pins σ' H' s'/\Q σ' H') X.xe s
def BH(X:Cx)(ts:List Expr)(t:Rw):Prop:=
 ∀ (pins:VA) (s:VC) (σ:St) (H:Hp) (vs:List V) (us:VL) (Q:St->Hp->Prop),VV X pins σ H s->W2 vs us->t vs σ H Q->
  wpAny (model X.prog X.w) X.A (assignInOrder ((assignEach ts X.env).map (·.2)) us) (fun _ s'=>∃σ' H',VV X pins σ' H' s'/\Q σ' H') X.xe s
section
variable{X:Cx}{pos:Pos}
def GJ(i:Nat):TG:=fun v σ H Q=>Q (σ.set i (some v)) H
theorem Tg{i:Nat}{x:Str}(hN:X.N.Nodup)(hi:X.N[i]?=some x)(hx:Rq X.env.scope x)(hf:X.fn x=true\/X.env.scope.names.lookup x=some .local:=by first|exact .inl rfl|exact .inr rfl|assumption):PG X (.Name x pos) (GJ i):=by
 intro pins s σ H v u Q I r h;exact wpAny_assign_Name (A6 I hN hi hx r (fun s' a=>⟨_,H,a,h⟩) hf)
def FD:Rw:=fun vs σ H Q=>vs=[]/\Q σ H
def Hw(t:TG)(u:Rw):Rw:=fun vs σ H Q=>∃v r,vs=v::r/\t v σ H fun σ' H'=>u r σ' H' Q
theorem Ge:BH X [] FD:=by
 intro pins s σ H vs a Q I r h;obtain⟨e,h⟩:=h;subst e;cases r;exact assignInOrder_nil ⟨σ,H,I,h⟩
theorem TJ{e:VN}{es:List Expr}{t:TG}{u:Rw}(h1:PG X e t)(h2:BH X es u)
  (hs:(assignEach (e::es) X.env).map (·.2)=assign e X.env::(assignEach es X.env).map (·.2):=by rfl):BH X (e::es) (Hw t u):=by
 intro pins s σ H vs f Q I r h;obtain⟨v,d,b,h⟩:=h;subst b;cases r with
 |cons r rr=>
  rw[hs];refine assignInOrder_cons (Wj (h1 pins s σ H _ _ _ I r h) fun _ s1 zz=>?_);rcases zz with⟨σ1,H1,c,a⟩;exact h2 pins s1 σ1 H1 _ _ Q c rr a
def Cb(K:VG)(n:Nat)(t:Rw):TG:=fun v σ H Q=>∃a xs,v= .ref a/\JN K H a xs/\xs.length=n/\t xs σ H Q
theorem ZV{es:List Expr}{k:Nat}{t:Rw}{n:Nat}(hc:X.calm=true)(h:BH X es t)
  (hn:(assignEach es X.env).length=n:=by rfl) (hst:(assignEach es X.env).findIdx? (·.1)=none:=by rfl):PG X (.Tuple es k pos) (Cb X.K n t):=by
 intro pins s σ H v u Q I r c;obtain⟨a,xs,l,i,j,c⟩:=c;subst l;cases r;obtain⟨q,d,g,w⟩:=I.tuple i;refine assign_Tuple_tuple (I.ok.hd hc) g (by simp[hn,<-j,d.length]) hst fun h' f=>?_
 have p:VV X pins σ H {s with heap:=h'}:=I.kept (t':=s.toks) fun b o e=>f b o (Yi (Y8 e)) e
 exact h pins _ σ H xs _ Q p (by simpa using d) c
def Rz(te:TE)(g:TG):TS:=fun D σ H=>te σ H fun x H1=>g x σ H1 D.nx
theorem tQ{tg e:VN}{te:TE}{g:TG}(he:PE X e te)(hg:PG X tg g)(hs:swapsWithSole [tg] e pos.line X.env=pure false:=by rfl)(hw:swappedStores [tg] e X.env=pure none:=by rfl)
  (h1:(assignEach [tg] X.env).map (·.2)=[assign tg X.env]:=by rfl):PS X (.Assign [tg] e pos) (Rz te g):=by
 intro pins s σ H D I h;refine wpAny_Assign_stores (Wj (he pins s σ H _ I h) fun v s1 zz=>?_) hs hw;rcases zz with⟨x,H1,c,a,b⟩;rw[h1];exact Wj (hg pins s1 σ H1 x v _ c a b) fun _ s2 q=>q
theorem T5{i:Nat}{x:Str}{e:VN}{te:TE}{pos':Pos}(hN:X.N.Nodup)(hi:X.N[i]?=some x)(hx:Rq X.env.scope x)(he:PE X e te)(hs:swapsWith e (some (.Name x pos')) pos.line X.env=pure false:=by rfl)(hf:X.fn x=true\/X.env.scope.names.lookup x=some .local:=by first|exact .inl rfl|exact .inr rfl|assumption):
  PS X (.Assign [.Name x pos'] e pos) (Rz te (GJ i)):=by
 intro pins s σ H D I h;refine wpAny_Assign_Name (Wj (he pins s σ H _ I h) fun v s1 zz=>?_) hs;rcases zz with⟨y,H1,d,a,b⟩;exact A6 d hN hi hx a (fun s2 c=>⟨_,H1,c,b⟩) hf
def Oz(c:TT)(tb:TS):TS:=fun D σ H=>∃W:Nat->St->Hp->Prop,(∃m,W m σ H)/\∀m σ H,W m σ H->
 c σ H fun b H1=>if b=true then ∃N:St->Hp->Prop,(∀σ' H',N σ' H'->∃m',m' < m/\W m' σ' H')/\tb {D with nx:=N,ct:=N,bk:=D.nx} σ H1 else D.nx σ H1
theorem Zp{c:VN}{body:List Stmt}{tc:TT}{tb:TS}(hp:PassesOwn (model X.prog X.w) X.A X.env X.xe)(hc:PT X c tc)(hb:To X body tb):PS X (.While c body [] pos) (Oz tc tb):=by
 intro pins s σ H D I h;obtain⟨W,⟨y,x⟩,i⟩:=h;refine wpAny_While (codeAny_whileLoop (fun n s'=>∃σ' H',VV X pins σ' H' s'/\W n σ' H') ?_ y ⟨σ,H,I,x⟩);intro n s1 Zq;obtain⟨σ1,H1,z,u⟩:=Zq;refine Xn hp (Wj (hc pins s1 σ1 H1 _ z (i n σ1 H1 u)) fun b s2 ⟨H2,r,e⟩=>?_);cases b with
 |true=>
  obtain⟨N,q,e⟩:=e;rw[Y9 rfl];refine Xn hp (Wj (hb pins s2 σ1 H2 _ r e) fun f s3 d=>?_);cases f with
  |next=>
   obtain⟨σ3,a,p,j⟩:=d;obtain⟨l,o,g⟩:=q σ3 a j;exact⟨l,o,σ3,a,p,g⟩
  |cont=>
   obtain⟨σ3,a,p,j⟩:=d;obtain⟨l,o,g⟩:=q σ3 a j;exact⟨l,o,σ3,a,p,g⟩
  |brk=>exact d
  |ret v=>exact d
 |false=>
  rw[Y2 Ys];exact XG ⟨σ1,H2,r,e⟩
end
structure It where
 go:Nat->Hp->Prop
 yld:Nat->Hp->V->Hp->Prop
 stop:Nat->Hp->Prop
def NP(X:Cx)(pins:VA)(H:Hp)(b:VI):Prop:=
 H b=none/\b≠X.env.locals/\b∉X.fs/\(b∈X.ex\/X.s₀.heap.objs.size <=b)/\(∀x c,X.env.cells.lookup x=some c->c≠b)/\∀p∈X.pn++pins,p.1≠b
theorem VV.fpOk{X:Cx}{pins:VA}{σ:St}{H H':Hp}{s:VC}{b:VI}(I:VV X pins σ H s)(hb:s.heap.objs.size <=b)(hn:H' b=none):NP X pins H' b:=by
 refine⟨hn,Uw (Ym I.lt hb),I.nofs hb,.inr (Yu I.sz hb),fun x c e z=>?_,fun p a z=>?_⟩
 .obtain⟨v,q⟩:=I.cell x c e;exact absurd (Ym q.lt (by rw[z];exact hb)) (YM _)
 .exact absurd (Ym (Y8 (I.pin p a).1) (by rw[z];exact hb)) (YM _)
structure GU(P:VB)(w:VF)(K:VG)(tg:VN)(J:It)(fp:List Addr)(it:VI)(tn:Nat->Heap->Prop):Prop where
 mem:it∈fp
 obj:∀i h,tn i h->∀b∈fp,∃o,h.get? b=some o/\∀v,o.data≠ .cell v
 keep:∀i h h',tn i h->(∀b∈fp,∀o,h.get? b=some o->h'.get? b=some o)->tn i h'
 item:∀ (X:Cx),X.prog=P->X.w=w->X.K=K->X.calm=true->∀ (i:Nat) (pins:VA) (s:VC) (σ:St) (H:Hp) (E:Vy),VV X pins σ H s->(∀b∈fp,NP X pins H b)->tn i s.heap->J.go i H->
  wpAny (model P w) X.A (pyNext (.ref it)) (fun r s1 => ∃ u, r = some u /\
   wpAny (model P w) X.A (letOwnedTupleGo tg (.ref it) u) (fun _ s2 => ∃ x H', VV X pins σ H' s2 /\ W9 x u /\ J.yld i H x H' /\ tn (i + 1) s2.heap /\ ∀ b ∈ fp, H' b = none) E s1) E s
 done:∀ (X:Cx),X.prog=P->X.w=w->X.K=K->X.calm=true->∀ (i:Nat) (pins:VA) (s:VC) (σ:St) (H:Hp) (E:Vy),VV X pins σ H s->(∀b∈fp,NP X pins H b)->tn i s.heap->J.stop i H->
  wpAny (model P w) X.A (pyNext (.ref it)) (fun r s1=>r=none/\VV X pins σ H s1) E s
 self:∀ (A:VE) (i:Nat) (s:VC) (Q:Vy) (E:Vy),tn i s.heap->Q (.ref it) s->wpAny (model P w) A (pyIter (.ref it)) Q E s
abbrev TI:=St->Hp->(It->Hp->Prop)->Prop
def QL(X:Cx)(pins:VA)(σ:St)(tg:VN)(R:It->Hp->Prop)(itv:VH)(s2:VC):Prop:=
 ∃ (it:VI) (fp:List Addr) (tn:Nat->Heap->Prop) (J:It) (H':Hp),itv= .ref it/\VV X pins σ H' s2/\GU X.prog X.w X.K tg J fp it tn/\tn 0 s2.heap/\(∀b∈fp,NP X pins H' b)/\R J H'
def PI(X:Cx)(tg iter:VN)(wi:TI):Prop:=
 ∀ (pins:VA) (s:VC) (σ:St) (H:Hp) (R:It->Hp->Prop),VV X pins σ H s->wi σ H R->
  wpAny (model X.prog X.w) X.A (eval iter X.env) (fun v s1=>wpAny (model X.prog X.w) X.A (pyIter v) (QL X pins σ tg R) X.xe s1) X.xe s
theorem CT{M:Model}{A:VE}{E:Vy}{s:VC}{tg:VN}{it:VI}{u:VH}{o:Obj}{n:String}{vs:Array Value}{Q:Vz}(ho:s.heap.get? it=some o)(hc:o.cls= .type n)(hd:o.data= .fields vs)
    (hn:["enumerate","zip","dict_itemiterator","dict_reverseitemiterator","odict_iterator","itertools.zip_longest","itertools.pairwise"].contains n=false) (hQ:Q () s):wpAny M A (letOwnedTupleGo tg (.ref it) u) Q E s:=by
  unfold letOwnedTupleGo
  cases tg <;> first
    |exact Y4 hQ
    | (cases u <;> first
        |exact Y4 hQ
        | (refine Y0 (wpAny_load ho ?_)
           rw[hc,hd]
           show wpAny M A (if(["enumerate","zip","dict_itemiterator","dict_reverseitemiterator","odict_iterator","itertools.zip_longest","itertools.pairwise"].contains n && vs[0]?==some (rawInt _))=true then _ else _) Q E s
           rw[Y2 (by intro h;rw[hn,X1]at h;cases h)]
           exact Y4 hQ))
def GH(K:VG)(a:VI):It:=
 ⟨fun i H=>∃xs x,VZ K H a xs/\xs[i]?=some x,fun i H x H'=>H'=H/\∀xs,VZ K H a xs->xs[i]?=some x,fun i H=>∃xs,VZ K H a xs/\xs.length <=i⟩
def EN(lo:Int)(n:Nat):It:=⟨fun i _=>i < n,fun i H x H'=>H'=H/\x= .int (lo+ i),fun i _=>n <=i⟩
theorem jB{P:VB}{w:VF}{K:VG}{tg:VN}(a it:VI):GU P w K tg (GH K a) [it] it (fun i h=>h.IsListIter it a i) where
 mem:=by simp
 obj:=fun i h st b f=>by
  have e:b=it:=by simpa using f
  subst e;obtain⟨o,e,c,d⟩:=st;exact⟨o,e,fun v z=>by rw[d]at z;cases z⟩
 keep:=fun i h h' st k=>st.at fun o e=>k it (by simp) o e
 item:=by
  intro X hP r hK hc i pins s σ H E I j st y;subst hP r hK;obtain⟨xs,x,g,q⟩:=y;obtain⟨its,n,p,hz⟩:=I.list g;obtain⟨u,hu,ru⟩:=n.get q;obtain⟨f0,f1,f2,f3,f4,f5⟩:=j it (by simp);refine wpAny_pyNext_list_item st p.isList (x:=u) (by simpa using hu) fun h' l sb=>?_
  have I1:VV X pins σ H {s with heap:=h'}:=I.turned (t':=s.toks) (fun b o f e=>(sb.2 b f).trans e) f0 f1 f3 f4 f5;obtain⟨o,e,c,d⟩:=id l;exact⟨u,rfl,CT (s:={s with heap:=h'}) e c d (by decide) ⟨x,H,I1,ru,⟨rfl,fun ys hy=>by rw[I.list_inj hy g];exact q⟩,l,fun b f=>(j b f).1⟩⟩
 done:=by
  intro X hP r hK hc i pins s σ H E I j st y;subst hP r hK;obtain⟨xs,g,q⟩:=y;obtain⟨its,n,p,hz⟩:=I.list g;obtain⟨f0,f1,f2,f3,f4,f5⟩:=j it (by simp);have hl:=n.length;exact wpAny_pyNext_list_end (I.ok.hd hc) st p.isList (by simp;lia) fun h' eb=>⟨rfl,I.turned (t':=s.toks) (fun b o f e=>eb b o f e) f0 f1 f3 f4 f5⟩
 self:=fun _ _ _ _ _ st h=>wpAny_pyIter_listiter st h
theorem Se{P:VB}{w:VF}{K:PySem.W.Frag}{tg:VN}(it:VI)(lo:Int)(n:Nat):GU P w K tg (EN lo n) [it] it (fun i h=>IsRangeIter h it (lo+ (i:Nat)*1) ((n:Int) - (i:Nat)) 1) where
 mem:=by simp
 obj:=fun i h st b a=>by
  have e:b=it:=by simpa using a
  subst e;exact ⟨_, st, fun v z => by
   have z' : Data.fields _ = Data.cell v := z;cases z'⟩
 keep:=fun i h h' st k=>k it (by simp) _ st
 item:=by
  intro X l f p j i pins s σ H E I c st g;subst l f p;obtain⟨y,x,f2,u,r,q⟩:=c it (by simp);have W:=Walks.range (prog:=X.prog) (w:=X.w) (I.ok.hd j) it lo 1 n;refine W.item i s _ _ g st fun v h' tk hv d kk=>?_
  obtain⟨t,rfl⟩:=hv;have I1:VV X pins σ H {s with heap:=h',toks:=tk}:=I.turned (fun b o a e=>kk b o (by simpa using a) e) y x u r q;refine⟨_,rfl,CT (s:={s with heap:=h',toks:=tk}) (n:="range_iterator") d rfl rfl (by decide) ⟨.int (lo+ i),H,I1,⟨t,?_⟩,⟨rfl,rfl⟩,d,fun b a=>(c b a).1⟩⟩;rw[Int.mul_one]
 done:=by
  intro X l f p j i pins s σ H E I c st g;subst l f p;obtain⟨y,x,f2,u,r,q⟩:=c it (by simp);exact wpAny_pyNext_range_end (I.ok.hd j) st (by have:n <=i:=g;lia) fun h' eb=>⟨rfl,I.turned (t':=s.toks) (fun b o a e=>eb b o a e) y x u r q⟩
 self:=fun _ _ _ _ _ st h=>wpAny_pyIter_rangeiter st h
section
variable{X:Cx}{tg:VN}
def RM(K:VG)(tl:TE):TI:=fun σ H R=>tl σ H fun x H1=>∃a,x= .ref a/\(∃xs,VZ K H1 a xs)/\R (GH K a) H1
theorem xS{l:VN}{tl:TE}(hl:PE X l tl):PI X tg l (RM X.K tl):=by
 intro pins s σ H R I h;refine Wj (hl pins s σ H _ I h) fun v s1 zz=>?_;rcases zz with⟨x,H1,c,d,f⟩
 obtain⟨a,e,⟨xs,g⟩,q⟩:=f;subst e;cases d;obtain⟨j,n,p,r⟩:=c.list g;refine Xr p.isList ?_;refine⟨s1.heap.objs.size,[s1.heap.objs.size],_,_,H1,rfl,c.kept (t':=s1.toks) fun b o e=>Y3 _ e,jB a _,⟨_,Yj _ rfl,rfl,rfl⟩,fun b i=>?_,q⟩;have e:b=s1.heap.objs.size:=by simpa using i
 subst e;exact c.fpOk (Y1 _) (c.hok.fresh (Y1 _))
theorem wQ{pins:VA}{σ:St}{H:Hp}{s:VC}{R:It->Hp->Prop}{E:Vy}{lo hi:Int}{t u v:Tok}{tk:Nat}(I:VV X pins σ H s)(h1: -(2 ^ 62) <=lo)(h2:lo < 2 ^ 62)(h3: -(2 ^ 62) <=hi)(h4:hi < 2 ^ 62)
  (q:R (EN lo (hi - lo).toNat) H):wpAny (model X.prog X.w) X.A (pyIter (.ref s.heap.objs.size)) (QL X pins σ tg R) E {s with heap:=s.heap.push {cls:=.type "range",data:=.fields #[.int lo t,.int hi u,.int 1 v]},toks:=tk}:=by
 refine wpAny_pyIter_range (IsRange.new ..) (small_one h1 h2 h3 h4) ?_;have a:VV X pins σ H {s with heap:=s.heap.push {cls:=.type "range",data:=.fields #[.int lo t,.int hi u,.int 1 v]},toks:=tk}:=I.kept fun b o e=>Y3 _ e
 refine ⟨(s.heap.push { cls := .type "range", data := .fields #[.int lo t, .int hi u, .int 1 v] }).objs.size, [(s.heap.push { cls := .type "range", data := .fields #[.int lo t, .int hi u, .int 1 v] }).objs.size], _, _, H, rfl,
  a.kept (t' := tk) fun b o e => Y3 _ e, Se _ lo (hi - lo).toNat, ?_, fun b c => ?_, q⟩
 .have f:lo+ ((0:Nat):Int)*1=lo:=by simp
  have d:(((hi - lo).toNat:Nat):Int) - ((0:Nat):Int)=Builtin.Range.rangeSize lo hi 1:=by rw[rangeSize_one];split <;> lia
  show IsRangeIter _ _ (lo+ ((0:Nat):Int)*1) ((((hi - lo).toNat:Nat):Int) - ((0:Nat):Int)) 1;rw[f,d];exact Yj _ rfl
 .have e:b=(s.heap.push {cls:=.type "range",data:=.fields #[.int lo t,.int hi u,.int 1 v]}).objs.size:=by simpa using c
  subst e;exact a.fpOk (Y1 _) (a.hok.fresh (Y1 _))
def Em(ta:TA):TI:=fun σ H R=>ta σ H fun vs H1=>∃j:Int,vs=[.int j]/\ -(2 ^ 62) <=j/\j < 2 ^ 62/\R (EN 0 j.toNat) H1
theorem nM{a:VN}{ta:TA}{p pos:Pos}(hg:Gl X "range")(hm:X.mg "range"=none)(ha:PA X [a] ta)(hs:starEach [a] X.env=[(false,eval a X.env)]:=by rfl):PI X tg (.Call (.Name "range" p) [a] [] pos) (Em ta):=by
 intro pins s σ H R I h;refine Call_ (GI I hg hm boot_range (Xj (Wj (ha pos pins s σ H _ I h) fun g s1 zz=>?_) hs rfl));rcases zz with⟨vs,H1,f,c,b⟩;obtain⟨j,e,b,d,q⟩:=b;subst e;cases c with
 |cons r rr=>
  cases rr;obtain⟨t,rfl⟩:=r;exact call_range_1 (wQ f (by lia) (by lia) b d (by simpa using q))
def Pe(wi:TI)(g:TG)(tb:TS):TS:=fun D σ H=>wi σ H fun J H1=>∃W:Nat->Nat->St->Hp->Prop,(∃m,W 0 m σ H1)/\∀i m σ H,W i m σ H->
 (J.stop i H/\D.nx σ H)\/(J.go i H/\∃N:St->Hp->Prop,(∀σ' H',N σ' H'->∃m',m' < m/\W (i+ 1) m' σ' H')/\∀x H',J.yld i H x H'->g x σ H' fun σ2 H2=>tb {D with nx:=N,ct:=N,bk:=D.nx} σ2 H2)
def Bz(fp:List Addr)(h:VM):List (Addr×Obj):=fp.filterMap fun b=>(h.get? b).map fun o=>(b,o)
theorem CN{fp:List Addr}{h:VM}{b:VI}{o:Obj}(hb:b∈fp)(e:h.get? b=some o):(b,o)∈Bz fp h:=UJ.mpr ⟨b,hb,by rw[e];rfl⟩
theorem ZS{fp:List Addr}{h:VM}{p:Addr×Obj}(hp:p∈Bz fp h):p.1∈fp/\h.get? p.1=some p.2:=by
 obtain⟨b,a,e⟩:=UJ.mp hp;cases q:h.get? b with
 |none=>rw[q]at e;cases e
 |some o=>
  rw[q]at e;have c:(b,o)=p:=Yo e;subst c;exact⟨a,q⟩
theorem VV.pinned{pins:VA}{σ:St}{H:Hp}{s:VC}{fp:List Addr}(I:VV X pins σ H s)(hf:∀b∈fp,NP X pins H b)(ho:∀b∈fp,∃o,s.heap.get? b=some o/\∀v,o.data≠ .cell v):VV X (pins++Bz fp s.heap) σ H s:=
 I.pins_of fun p f=>(YG.mp f).elim (fun z=>I.pin p (Yr _ z)) fun z=>by
  obtain⟨a,e⟩:=ZS z;obtain⟨i,h,g,_⟩:=hf p.1 a;obtain⟨o,c,d⟩:=ho p.1 a;rw[e]at c;cases c;exact⟨e,i,h,g,d⟩
theorem VV.unpinned{pins pl:VA}{σ:St}{H:Hp}{s:VC}(I:VV X (pins++pl) σ H s):VV X pins σ H s:=I.pins_of fun p a=>I.pin p (Yr _ (Xu _ a))
theorem Gi{iter:VN}{body:List Stmt}{wi:TI}{g:TG}{tb:TS}{pos:Pos}(hp:PassesOwn (model X.prog X.w) X.A X.env X.xe)(hc:X.calm=true)(hi:PI X tg iter wi)(hg:PG X tg g)(hb:To X body tb)
  (hs:∀x,foldedSetIterable iter X.env x=pure x:=by intro _;rfl):PS X (.For tg iter body [] pos) (Pe wi g tb):=by
 intro pins s σ H D I h;refine wpAny_For (Wj (hi pins s σ H _ I h) fun v s1 h1=>Wj h1 fun itv s2 h2=>?_) hs;obtain⟨it,fp,tn,J,H2,e,I2,T,st2,f2,W,⟨m0,w0⟩,ac⟩:=h2;subst e
 -- what stays true of the iterator's objects through the loop
 have l:∀{H':Hp},(∀b∈fp,H' b=none)->∀b∈fp,NP X pins H' b:=fun hn b hb=>⟨hn b hb,(f2 b hb).2⟩
 refine codeAny_forLoop_any (fun n s'=>∃i σ' H',VV X pins σ' H' s'/\tn i s'.heap/\(∀b∈fp,H' b=none)/\W i n σ' H') ?_ m0 ⟨0,σ,H2,I2,st2,fun b hb=>(f2 b hb).1,w0⟩;intro n s3 Zq;obtain⟨i,σ3,z,I3,aa,ab,w3⟩:=Zq;rcases ac i n σ3 z w3 with⟨stop,qn⟩|⟨go,N,hN,step⟩
 .refine Xn hp (Wj (T.done X rfl rfl rfl hc i pins s3 σ3 z X.xe I3 (l ab) aa stop) fun r s4 ⟨hr,I4⟩=>?_);subst hr;exact XG ⟨σ3,z,I4,qn⟩
 .refine Xn hp (Wj (T.item X rfl rfl rfl hc i pins s3 σ3 z X.xe I3 (l ab) aa go) fun r s4 ⟨u,hr,h4⟩=>?_);subst hr;refine Xn hp (Wj h4 fun _ s5 zz=>?_);rcases zz with⟨x,H5,I5,r5,y5,q,fr5⟩;have I5':=I5.pinned (l fr5) (T.obj _ _ q);refine Xn hp (Wj (hg _ s5 σ3 H5 x u _ I5' r5 (step x H5 y5)) fun _ s6 zz=>?_);rcases zz with⟨σ6,H6,I6,q6⟩;refine Xn hp (Wj (hb _ s6 σ6 H6 _ I6 q6) fun f s7 j=>?_);have p:∀{σ7:St} {c:Hp},VV X (pins++Bz fp s5.heap) σ7 c s7->N σ7 c->∃m,m < n/\∃i σ' H',VV X pins σ' H' s7/\tn i s7.heap/\(∀b∈fp,H' b=none)/\W i m σ' H':=fun {σ7 c} a y=>by
   obtain⟨m',hm,w7⟩:=hN σ7 c y;refine⟨m',hm,i+ 1,σ7,c,a.unpinned,T.keep _ _ _ q fun b hb o e=>(a.pin (b,o) (Yr _ (Yr _ (CN hb e)))).1,fun b hb=>?_,w7⟩;obtain⟨o,e,d⟩:=T.obj _ _ q b hb;exact(a.pin (b,o) (Yr _ (Yr _ (CN hb e)))).2.1
  cases f with
  |next=>obtain⟨σ7,c,a,y⟩:=j;exact p a y
  |cont=>obtain⟨σ7,c,a,y⟩:=j;exact p a y
  |brk=>obtain⟨σ7,c,a,j⟩:=j;exact⟨σ7,c,a.unpinned,j⟩
  |ret v=>obtain⟨x7,σ7,c,a,r7,j⟩:=j;exact⟨x7,σ7,c,a.unpinned,r7,j⟩
end
theorem xJ{K:PySem.W.Frag}{a:VI}{xs:List V}{g:TG}{tb:TS}{D:MQ}{σ:St}{H:Hp}(Pv:Nat->St->Hp->Prop)(h0:Pv 0 σ H)(hl:∀i σ H,i <=xs.length->Pv i σ H->VZ K H a xs)
  (hs:∀i x σ H,xs[i]?=some x->Pv i σ H->g x σ H fun σ2 H2=>tb {D with nx:=Pv (i+ 1),ct:=Pv (i+ 1),bk:=D.nx} σ2 H2) (hd:∀σ H,Pv xs.length σ H->D.nx σ H):
  ∃W:Nat->Nat->St->Hp->Prop,(∃m,W 0 m σ H)/\∀i m σ H,W i m σ H->
   ((GH K a).stop i H/\D.nx σ H)\/((GH K a).go i H/\∃N:St->Hp->Prop,(∀σ' H',N σ' H'->∃m',m' < m/\W (i+ 1) m' σ' H')/\∀x H',(GH K a).yld i H x H'->g x σ H' fun σ2 H2=>tb {D with nx:=N,ct:=N,bk:=D.nx} σ2 H2):=by
 refine⟨fun i m σ H=>m=xs.length - i/\i <=xs.length/\Pv i σ H,⟨xs.length,by simp,Yh _,h0⟩,?_⟩;intro i m σ H Zq;obtain⟨rfl,hi,p⟩:=Zq;have q:=hl i σ H hi p
 by_cases hlt:i < xs.length
 .refine .inr ⟨⟨xs,xs[i],q,by simp[hlt]⟩,Pv (i+ 1),fun σ' H' b=>⟨xs.length - (i+ 1),by lia,rfl,hlt,b⟩,fun x H' y=>?_⟩;obtain⟨e,y⟩:=y;subst e;exact hs i x σ _ (y xs q) p
 .have e:i=xs.length:=by lia
  subst e;exact .inl ⟨⟨xs,q,Y1 _⟩,hd σ H p⟩
abbrev R2:=V->V->Hp->VK->Prop
def Ja(X:Cx)(f:Value->Value->Sem Value)(r:R2):Prop:=
 ∀ (pins:VA) (s:VC) (σ:St) (H:Hp) (x y:V) (v u:VH) (Q:VK),VV X pins σ H s->W9 x v->W9 y u->r x y H Q->
  wpAny (model X.prog X.w) X.A (f v u) (EP X pins σ Q) X.xe s
def FH(X:Cx)(f:Value->Sem Value)(r:V->Hp->VK->Prop):Prop:=
 ∀ (pins:VA) (s:VC) (σ:St) (H:Hp) (x:V) (v:VH) (Q:VK),VV X pins σ H s->W9 x v->r x H Q->
  wpAny (model X.prog X.w) X.A (f v) (EP X pins σ Q) X.xe s
def Wr(X:Cx)(f:VH)(r:List V->Hp->VK->Prop):Prop:=
 ∀ (pins:VA) (s:VC) (σ:St) (H:Hp) (xs:List V) (us:VL) (Q:VK),VV X pins σ H s->W2 xs us->r xs H Q->
  wpAny (model X.prog X.w) X.A (call f us) (EP X pins σ Q) X.xe s
def Gg(r:R2)(ta tb:TE):TE:=fun σ H Q=>ta σ H fun x H1=>tb σ H1 fun y H2=>r x y H2 Q
def L5(r:V->Hp->VK->Prop)(ta:TE):TE:=fun σ H Q=>ta σ H fun x H1=>r x H1 Q
def rI(C:Int->Int->Prop)(g:Int->Int->V):R2:=fun x y H Q=>∃i j,x= .int i/\y= .int j/\C i j/\Q (g i j) H
def DC(g:Int->Int->V):R2:=fun x y H Q=>∃i j,x= .int i/\y= .int j/\Q (g i j) H
def rU(g:Int->V):V->Hp->VK->Prop:=fun x H Q=>∃i,x= .int i/\Q (g i) H
section
variable{X:Cx}{a b c:VN}{ta tb tc:TE}{pos:Pos}
theorem Hk(ha:PE X a ta)(hb:PE X b tb){pins:VA}{s:VC}{σ:St}{H:Hp}{R:V->V->Hp->Prop}(I:VV X pins σ H s)
  (h:ta σ H fun x H1=>tb σ H1 fun y H2=>R x y H2) {Q:Vy} {f:Value->Value->Sem Value}
  (hf:∀v u s2 x y H2,VV X pins σ H2 s2->W9 x v->W9 y u->R x y H2->wpAny (model X.prog X.w) X.A (f v u) Q X.xe s2):
  wpAny (model X.prog X.w) X.A (eval a X.env) (fun v s₁=>wpAny (model X.prog X.w) X.A (eval b X.env) (fun u s₂=>wpAny (model X.prog X.w) X.A (f v u) Q X.xe s₂) X.xe s₁) X.xe s:=by
 refine Wj (ha pins s σ H _ I h) fun v s1 zz=>?_;rcases zz with⟨x,H1,j,d,g⟩
 refine Wj (hb pins s1 σ H1 _ j g) fun u s2 zz=>?_;rcases zz with⟨y,H2,i,c,e⟩
 exact hf v u s2 x y H2 i d c e
theorem J0{op:Operator}{r:R2}(ho:Ja X (binaryOp op) r)(ha:PE X a ta)(hb:PE X b tb):PE X (.BinOp a op b pos) (Gg r ta tb):=by
 intro pins s σ H Q I h;exact wpAny_BinOp (Hk ha hb I h fun v u s2 x y H2 e d c q=>ho pins s2 σ H2 x y v u Q e d c q)
theorem IM{op:UnaryOp}{r:V->Hp->VK->Prop}(ho:FH X (unaryOp op) r)(ha:PE X a ta):PE X (.UnaryOp op a pos) (L5 r ta):=by
 intro pins s σ H Q I h;exact UnaryOp_ (Wj (ha pins s σ H _ I h) fun v s1 zz=>by rcases zz with⟨x,H1,d,b,c⟩;exact ho pins s1 σ H1 x v Q d b c)
theorem FQ{f:Value->Value->Sem Value}{C:Int->Int->Prop}{g:Int->Int->Int}
  (rule:∀ (i j:Int) (t u:Tok) (s:VC) (Q:Vy) (E:Vy),C i j->Q (.int (g i j) s.toks) {s with toks:=s.toks+ 1}->wpAny (model X.prog X.w) X.A (f (.int i t) (.int j u)) Q E s):
  Ja X f (rI C fun i j=>.int (g i j)):=by
 intro pins s σ H x y v u Q I c b h;obtain⟨i,j,rfl,rfl,d,q⟩:=h;obtain⟨t,rfl⟩:=c;obtain⟨a,rfl⟩:=b;exact rule i j t a s _ _ d ⟨.int (g i j),H,I.tok _,⟨_,rfl⟩,q⟩
theorem LG{f:Value->Value->Sem Value}{g:Int->Int->Int}
  (rule:∀ (i j:Int) (t u:Tok) (s:VC) (Q:Vy) (E:Vy),Q (.int (g i j) s.toks) {s with toks:=s.toks+ 1}->wpAny (model X.prog X.w) X.A (f (.int i t) (.int j u)) Q E s):
  Ja X f (DC fun i j=>.int (g i j)):=by
 intro pins s σ H x y v u Q I c b h;obtain⟨i,j,rfl,rfl,q⟩:=h;obtain⟨t,rfl⟩:=c;obtain⟨a,rfl⟩:=b;exact rule i j t a s _ _ ⟨.int (g i j),H,I.tok _,⟨_,rfl⟩,q⟩
theorem Aq{f:Value->Value->Sem Value}{g:Int->Int->Bool}
  (rule:∀ (i j:Int) (t u:Tok) (s:VC) (Q:Vy) (E:Vy),Q (.bool (g i j)) s->wpAny (model X.prog X.w) X.A (f (.int i t) (.int j u)) Q E s):
  Ja X f (DC fun i j=>.bl (g i j)):=by
 intro pins s σ H x y v u Q I c b h;obtain⟨i,j,rfl,rfl,q⟩:=h;obtain⟨t,rfl⟩:=c;obtain⟨a,rfl⟩:=b;exact rule i j t a s _ _ ⟨.bl (g i j),H,I,rfl,q⟩
def Zv(i j:Int):Prop:=0 <=j/\j <=1000000/\i.natAbs < 2 ^ 64
theorem NH:Ja X (binaryOp .Add) (DC fun i j=>.int (i+ j)):=LG fun _ _ _ _ _ _ _ q=>add_int q
theorem HG:Ja X (binaryOp .Sub) (DC fun i j=>.int (i - j)):=LG fun _ _ _ _ _ _ _ q=>sub_int q
theorem MN:Ja X (binaryOp .Mod) (rI (fun _ j=>0 < j) fun i j=>.int (i%j)):=FQ fun i j _ _ _ _ _ a q=>by
 have h1:(0:Int) < j:=a;exact mod_int' (by lia) (by rw[Int.fmod_eq_emod_of_nonneg i (by lia)];exact q)
theorem nE:Ja X (binaryOp .Pow) (rI Zv fun i j=>.int (i ^ j.toNat)):=FQ fun _ _ _ _ _ _ _ a q=>pow_int_small a.1 a.2.1 a.2.2 q
theorem SA{f:Value->Sem Value}{g:Int->Int}
  (rule:∀ (i:Int) (t:Tok) (s:VC) (Q:Vy) (E:Vy),Q (.int (g i) s.toks) {s with toks:=s.toks+ 1}->wpAny (model X.prog X.w) X.A (f (.int i t)) Q E s):
  FH X f (rU fun i=>.int (g i)):=by
 intro pins s σ H x v Q I a h;obtain⟨i,rfl,q⟩:=h;obtain⟨t,rfl⟩:=a;exact rule i t s _ _ ⟨.int (g i),H,I.tok _,⟨_,rfl⟩,q⟩
theorem HM:FH X (unaryOp .USub) (rU fun i=>.int (-i)):=SA fun _ _ _ _ _ q=>neg_int q
end
def Mh:V->V->Bool
 | .non,.non=>true| .non,.int _=>true| .int _,.non=>true| .non,.bl _=>true| .bl _,.non=>true| .non,.str _=>true| .str _,.non=>true
 | .int _,.int _=>true| .bl _,.bl _=>true| .str _,.str _=>true| .byt _,.byt _=>true
 | .int _,.str _=>true| .str _,.int _=>true| .bl _,.str _=>true| .str _,.bl _=>true
 |_,_=>false
def Av:R2:=fun x y H Q=>Mh x y=true/\Q (.bl (decide (x=y))) H
def Cf:R2:=fun x y H Q=>Mh x y=true/\Q (.bl (!decide (x=y))) H
theorem QF{i j:Int}:decide (V.int i=V.int j)=(i==j):=by
 rw[Xa];simp
theorem Pt{i j:Bool}:decide (V.bl i=V.bl j)=(i==j):=by
 rw[Xa];simp
theorem PQ{i j:Str}:decide (V.str i=V.str j)=(i==j):=by
 rw[Xa];simp
theorem O2{i j:Array UInt8}:decide (V.byt i=V.byt j)=(i.toList==j.toList):=by
 rw[Xa];cases i;cases j;simp
section
variable{X:Cx}{a b c:VN}{ta tb tc:TE}{pos:Pos}
theorem N9{pins:VA}{σ:St}{H:Hp}{s:VC}{Q:VK}{k k':Bool}(I:VV X pins σ H s)(q:Q (.bl k) H)(e:k=k'):EP X pins σ Q (.bool k') s:=by
 subst e;exact⟨.bl k,H,I,rfl,q⟩
theorem Ry:Ja X (compareOp .Eq) Av:=by
 intro pins s σ H x y v u Q I c a h;obtain⟨hs,q⟩:=h;cases x with
 |non=>
  cases c;cases y with
  |non=>cases a;exact PySem.EqNone.eq_none_none (N9 I q (by simp))
  |bl j=>cases a;exact PySem.EqNone.eq_none_bool (N9 I q (by simp))
  |int j=>obtain⟨b,rfl⟩:=a;exact PySem.EqNone.eq_none_int (N9 I q (by simp))
  |str j=>obtain⟨b,rfl⟩:=a;exact PySem.EqNone.eq_none_str (N9 I q (by simp))
  |_=>exact absurd (show false=true from hs) Ys
 |bl i=>
  cases c;cases y with
  |non=>cases a;exact PySem.EqNone.eq_bool_none (N9 I q (by simp))
  |bl j=>cases a;exact eq_bool (N9 I q Pt)
  |str j=>obtain⟨b,rfl⟩:=a;exact PySem.EqMixed.eq_bool_str (N9 I q (by simp))
  |_=>exact absurd (show false=true from hs) Ys
 |int i=>
  obtain⟨t,rfl⟩:=c;cases y with
  |non=>cases a;exact PySem.EqNone.eq_int_none (N9 I q (by simp))
  |int j=>obtain⟨b,rfl⟩:=a;exact eq_int (N9 I q QF)
  |str j=>obtain⟨b,rfl⟩:=a;exact PySem.EqMixed.eq_int_str (N9 I q (by simp))
  |_=>exact absurd (show false=true from hs) Ys
 |str i=>
  obtain⟨t,rfl⟩:=c;cases y with
  |non=>cases a;exact PySem.EqNone.eq_str_none (N9 I q (by simp))
  |bl j=>cases a;exact PySem.EqMixed.eq_str_bool (N9 I q (by simp))
  |int j=>obtain⟨b,rfl⟩:=a;exact PySem.EqMixed.eq_str_int (N9 I q (by simp))
  |str j=>obtain⟨b,rfl⟩:=a;exact eq_str (N9 I q PQ)
  |_=>exact absurd (show false=true from hs) Ys
 |byt i=>
  obtain⟨t,rfl⟩:=c;cases y with
  |byt j=>obtain⟨b,rfl⟩:=a;exact W.eq_bytes (N9 I q O2)
  |_=>exact absurd (show false=true from hs) Ys
 |_=>cases y <;> exact absurd (show false=true from hs) Ys
theorem DP:Ja X (compareOp .NotEq) Cf:=by
 intro pins s σ H x y v u Q I c a h;obtain⟨hs,q⟩:=h;cases x with
 |non=>
  cases c;cases y with
  |non=>cases a;exact PySem.EqNone.ne_none_none (N9 I q (by simp))
  |bl j=>cases a;exact PySem.EqNone.ne_none_bool (N9 I q (by simp))
  |int j=>obtain⟨b,rfl⟩:=a;exact PySem.EqNone.ne_none_int (N9 I q (by simp))
  |str j=>obtain⟨b,rfl⟩:=a;exact PySem.EqNone.ne_none_str (N9 I q (by simp))
  |_=>exact absurd (show false=true from hs) Ys
 |bl i=>
  cases c;cases y with
  |non=>cases a;exact PySem.EqNone.ne_bool_none (N9 I q (by simp))
  |bl j=>cases a;exact ne_bool (N9 I q (YH not Pt))
  |str j=>obtain⟨b,rfl⟩:=a;exact PySem.EqMixed.ne_bool_str (N9 I q (by simp))
  |_=>exact absurd (show false=true from hs) Ys
 |int i=>
  obtain⟨t,rfl⟩:=c;cases y with
  |non=>cases a;exact PySem.EqNone.ne_int_none (N9 I q (by simp))
  |int j=>obtain⟨b,rfl⟩:=a;exact ne_int (N9 I q (YH not QF))
  |str j=>obtain⟨b,rfl⟩:=a;exact PySem.EqMixed.ne_int_str (N9 I q (by simp))
  |_=>exact absurd (show false=true from hs) Ys
 |str i=>
  obtain⟨t,rfl⟩:=c;cases y with
  |non=>cases a;exact PySem.EqNone.ne_str_none (N9 I q (by simp))
  |bl j=>cases a;exact PySem.EqMixed.ne_str_bool (N9 I q (by simp))
  |int j=>obtain⟨b,rfl⟩:=a;exact PySem.EqMixed.ne_str_int (N9 I q (by simp))
  |str j=>obtain⟨b,rfl⟩:=a;exact ne_str (N9 I q (YH not PQ))
  |_=>exact absurd (show false=true from hs) Ys
 |byt i=>
  obtain⟨t,rfl⟩:=c;cases y with
  |byt j=>obtain⟨b,rfl⟩:=a;exact W.ne_bytes (N9 I q (YH not O2))
  |_=>exact absurd (show false=true from hs) Ys
 |_=>cases y <;> exact absurd (show false=true from hs) Ys
theorem EF:Ja X (compareOp .Lt) (DC fun i j=>.bl (decide (i < j))):=Aq fun _ _ _ _ _ _ _ q=>lt_int q
theorem Dx:Ja X (compareOp .LtE) (DC fun i j=>.bl (decide (i <=j))):=Aq fun _ _ _ _ _ _ _ q=>le_int q
theorem Ba:Ja X (compareOp .Gt) (DC fun i j=>.bl (decide (j < i))):=Aq fun _ _ _ _ _ _ _ q=>gt_int q
theorem A9:Ja X (compareOp .GtE) (DC fun i j=>.bl (decide (j <=i))):=Aq fun _ _ _ _ _ _ _ q=>ge_int q
theorem Br:Ja X (compareOp .Is) (fun x y H Q=>y= .non/\Q (.bl (decide (x= .non))) H):=by
 intro pins s σ H x y v u Q I a b h;obtain⟨rfl,q⟩:=h;cases b;refine is_none_gen (N9 I q ?_);cases x <;> first
  |(cases a;rfl)
  |(obtain⟨t,rfl⟩:=a;rfl)
theorem BZ:Ja X (compareOp .IsNot) (fun x y H Q=>y= .non/\Q (.bl (!decide (x= .non))) H):=by
 intro pins s σ H x y v u Q I a b h;obtain⟨rfl,q⟩:=h;cases b;refine isnot_none_gen (N9 I q ?_);cases x <;> first
  |(cases a;rfl)
  |(obtain⟨t,rfl⟩:=a;rfl)
theorem TV(b:VN){op:CmpOp}(h:op≠ .In:=by decide)(h2:op≠ .NotIn:=by decide):behindInMarks op b=false:=by
 have c:(op==CmpOp.In)=false:=by cases op <;> first|rfl|exact absurd rfl h
 have a:(op==CmpOp.NotIn)=false:=by cases op <;> first|rfl|exact absurd rfl h2
 cases b <;> simp[behindInMarks,c,a]
theorem Ts{op:CmpOp}{r:R2}(ho:Ja X (compareOp op) r)(ha:PE X a ta)(hb:PE X b tb)(hm:behindInMarks op b=false):PE X (.Compare a [op] [b] pos) (Gg r ta tb):=by
 intro pins s σ H Q I h;exact wpAny_Compare1 (Hk ha hb I h fun v u s2 x y H2 e d c q=>ho pins s2 σ H2 x y v u Q e d c q) hm
def Bc(t:TE):TT:=fun σ H Q=>t σ H fun x H'=>∃k,x= .bl k/\Q k H'
theorem KQ{op:CmpOp}{r:R2}(ho:Ja X (compareOp op) r)(ha:PE X a ta)(hb:PE X b tb)(hm:behindInMarks op b=false):PT X (.Compare a [op] [b] pos) (Bc (Gg r ta tb)):=by
 intro pins s σ H Q I h;refine wpAny_isTrue_Compare1 (Wj (ha pins s σ H _ I h) fun v s1 ⟨x, H1, p, g, l⟩ => Wj (hb pins s1 σ H1 _ p l) fun u s2 ⟨y, H2, o, f, j⟩ =>
  Wj (ho pins s2 σ H2 x y v u _ o g f j) fun c s3 ⟨z, q, n, d, k, e, i⟩ => ?_) hm
 subst e;cases d;exact YV ⟨q,n,i⟩
def CO(r r':R2)(ta tb tc:TE):TE:=fun σ H Q=>ta σ H fun x H1=>tb σ H1 fun y H2=>r x y H2 fun z H3=>∃k,z= .bl k/\
 (if k=true then tc σ H3 fun w' H4=>r' y w' H4 Q else Q (.bl false) H3)
theorem LS{op op':CmpOp}{r r':R2}(ho:Ja X (compareOp op) r)(ho':Ja X (compareOp op') r')(ha:PE X a ta)(hb:PE X b tb)(hc:PE X c tc)
  (hm:lastMarks [op,op'] [b,c]=false:=by with_unfolding_all rfl):PE X (.Compare a [op,op'] [b,c] pos) (CO r r' ta tb tc):=by
 intro pins s σ H Q I h;refine Compare_chain (Wj (ha pins s σ H _ I h) fun v s1 ⟨x, H1, I1, w, q1⟩ => chain_link (Wj (hb pins s1 σ H1 _ I1 q1) fun u s2 ⟨y, H2, I2, f, q2⟩ =>
  Wj (ho pins s2 σ H2 x y v u _ I2 w f q2) fun d s3 ⟨z, j, i, q, k, e, g⟩ => ?_)) hm
 subst e;cases q;refine YV ?_;cases k with
 |false=>exact ite_ff ⟨.bl false,j,i,rfl,g⟩
 |true=>exact ite_tt (chain_last (Wj (hc pins s3 σ j _ i g) fun n o zz=>by rcases zz with⟨l,H4,I4,p,q4⟩;exact ho' pins o σ H4 y l u n Q I4 f p q4))
theorem Ko{op op':CmpOp}{r r':R2}(ho:Ja X (compareOp op) r)(ho':Ja X (compareOp op') r')(ha:PE X a ta)(hb:PE X b tb)(hc:PE X c tc)
  (hm:lastMarks [op,op'] [b,c]=false:=by with_unfolding_all rfl):PT X (.Compare a [op,op'] [b,c] pos) (Bc (CO r r' ta tb tc)):=by
 intro pins s σ H Q I h;refine isTrue_chain (Wj (ha pins s σ H _ I h) fun v s1 ⟨x, H1, I1, r1, q1⟩ => test_link (Wj (hb pins s1 σ H1 _ I1 q1) fun u s2 ⟨y, H2, I2, f, q2⟩ =>
  Wj (ho pins s2 σ H2 x y v u _ I2 r1 f q2) fun d s3 ⟨z, j, i, w, k, e, g⟩ => ?_)) hm
 subst e;cases w;refine YV ?_;cases k with
 |false=>
  obtain⟨k',e',q'⟩:=g;cases e';exact ite_ff ⟨j,i,q'⟩
 |true=>
  refine ite_tt (test_last (Wj (hc pins s3 σ j _ i g) fun n o ⟨l,H4,I4,q,q4⟩=>Wj (ho' pins o σ H4 y l u n _ I4 f q q4) fun d' s5 zz=>?_));rcases zz with⟨z2,H5,I5,p,k2,e2,q5⟩;subst e2;cases p;exact YV ⟨H5,I5,q5⟩
theorem CJ:(sizeLine:Nat) < 2 ^ 63:=by rw[YE];decide
theorem DO{x:V}{us:VL}(r:W2 [x] us):∃u,us=[u]/\W9 x u:=by
 cases r with
 |cons r1 r2=>cases r2;exact⟨_,rfl,r1⟩
theorem AU{x y:V}{us:VL}(r:W2 [x,y] us):∃u w',us=[u,w']/\W9 x u/\W9 y w':=by
 cases r with
 |cons r1 r2=>
  cases r2 with
  |cons r3 r4=>cases r4;exact⟨_,_,rfl,r1,r3⟩
theorem Ap(hc:X.calm=true):Wr X (.builtin "max") (fun xs H Q=>∃i j,xs=[.int i,.int j]/\Q (.int (if j > i then j else i)) H):=by
 intro pins s σ H xs b Q I r h;obtain⟨i,j,rfl,q⟩:=h;obtain⟨u,a,rfl,⟨t,rfl⟩,⟨c,rfl⟩⟩:=AU r;refine max_two_ints (I.ok.hd hc) fun h' tk k=>⟨_,H,I.kept k,?_,q⟩
 by_cases hj:j > i
 .rw[Y9 hj,Y9 hj];exact⟨_,rfl⟩
 .rw[Y2 hj,Y2 hj];exact⟨_,rfl⟩
theorem So(hc:X.calm=true):Wr X (.builtin "min") (fun xs H Q=>∃i j,xs=[.int i,.int j]/\Q (.int (if j < i then j else i)) H):=by
 intro pins s σ H xs b Q I r h;obtain⟨i,j,rfl,q⟩:=h;obtain⟨u,a,rfl,⟨t,rfl⟩,⟨c,rfl⟩⟩:=AU r;refine min_two_ints (I.ok.hd hc) fun h' tk k=>⟨_,H,I.kept k,?_,q⟩
 by_cases hj:j < i
 .rw[Y9 hj,Y9 hj];exact⟨_,rfl⟩
 .rw[Y2 hj,Y2 hj];exact⟨_,rfl⟩
end
structure ML(h:VM)(x dx C:VI)(mA:Vx):Prop where
 obj:h.get? x=some (W.instObj C dx)
 ns:h.Ns1 dx mA
 ne:dx≠x
theorem uJ{h:VM}{dx:VI}{mA:Vx}(n:h.Ns1 dx mA):∃od,h.get? dx=some od/\∀name,W.lookIn name od=some (mA name):=by
 obtain⟨o,es,ep,d,hd,g,_,f⟩:=n;refine⟨o,d,fun name=>?_⟩;have e:=f name;unfold nsFind findBy at e;rw[<-Array.find?_toList]at e;unfold W.lookIn;rw[hd];dsimp only
 split
 .rename_i y q
  rw[q]at e;exact YH some e
 .rename_i q
  rw[q]at e;have a:es.toList.any (·.refKey)=false:=by
   rw[List.any_eq_false];intro y c;obtain⟨z,t,b⟩:=g y (Array.mem_toList_iff.mp c);simp[DictEntry.refKey,b]
  have i:¬es.toList.any (·.refKey)=true:=by rw[a];exact Ys
  rw[Y2 i];exact YH some e
theorem ML.look{h:VM}{x dx C:VI}{mA:Vx}(I:ML h x dx C mA):∃od,W.InstAt h x (W.instObj C dx) C (some od)/\∀name,W.lookIn name od=some (mA name):=
 let ⟨od,ho,hl⟩:=uJ I.ns
 ⟨od,⟨I.obj,rfl,rfl,ho⟩,hl⟩
section
variable{prog:VB}{w:VF}{A:VE}{E:Vy}{s:VC}{K:VG}{x dx C f:VI}{mA:Vx}{name:Str}{v:VH}
theorem uN{expr:Bool}{Q:Vy}(X:K.In s.heap)(I:ML s.heap x dx C mA)(hg:W.plainGet K C name=true)(hh:W.hasDictIn K C=true)
  (ha:W.findIn K (.ref C) name=some none) (hv:mA name=some v) (hv':W.handedIn v=true) (h:Q v {s with toks:=s.toks+ 1}):
  wpAny (model prog w) A (getAttr (.ref x) name expr) Q E s:=by
 obtain⟨b,J,a⟩:=I.look;exact W.get_value X J (W.plainGet_of hg).1 (W.findObj_own hh ha rfl (by rw[a,hv])) hv' h
theorem nY{pl:Sem Bool}{Q:Value×List Value->Shared->Prop}(X:K.In s.heap)(I:ML s.heap x dx C mA)(hg:W.plainGet K C name=true)
  (hf:W.findIn K (.ref C) name=some (some (.ref f))) (ht:W.isFn K (.ref f)=true) (hv:mA name=none) (h:Q (.ref f,[.ref x]) s):
  wpAny (model prog w) A (getMethod (.ref x) name pl) Q E s:=by
 obtain⟨a,J,b⟩:=I.look;exact W.method_fn X J (W.plainGet_of hg).1 (W.plainGet_of hg).2 hf (XH.mp ht) (by show(W.lookIn name a).map (·.isSome)=some false;rw[b,hv];rfl) h
theorem nV{ns:List Str}{Q:Vz}(X:K.In s.heap)(I:ML s.heap x dx C mA)
  (hs:W.findIn K (.ref C) "__setattr__"=some (some (.builtin "object.__setattr__"))) (hp:W.plainOver K C=true) (ht:W.takerIn K C name=some none) (hh:W.hasDictIn K C=true)
  (hw:PySem.Within mA ns) (hsz:ns.length <=sizeLine)
  (h:∀h',ML h' x dx C (fun y=>if y=name then some v else mA y)->Heap.SameBut dx s.heap h'->Q () {s with heap:=h',toks:=s.toks+ 2}):
  wpAny (model prog w) A (setAttr (.ref x) name v) Q E s:=by
 obtain⟨p,J,u⟩:=I.look;refine W.set_plain X J hs (W.osa_open (s:={s with toks:=s.toks+ 1}) (r:=none) X J hp ht fun b=>?_);obtain⟨z,l,g⟩:=W.any_some hh;have j:s.heap.get? x=some ⟨.ref C,some dx,.plain,#[]⟩:=I.obj;refine Y0 (Y4 (Y0 (Y0 (Ve j (Y0 (W.Looks.here (s:={s with toks:=s.toks+ 1}) (W.looks_clsIn X l) ?_))))));rw[g];refine Y4 (a:=some dx) (Y0 (Y4 (Y0 ?_)));refine wpAny_nsSet1 (s:={s with toks:=s.toks+ 1}) I.ns fun h' d c=>?_
 obtain⟨q,n,o,e,f,i⟩:=d.count (PySem.Within.cons name v hw);refine Y0 (wpAny_lookBehind e (by rw[f];exact pastItsLine_dict (Yu i (by rw[List.length_cons];lia))) ?_);exact Y4 (h _ ⟨(c.2 _ (Ne.symm I.ne)).trans I.obj,d,I.ne⟩ c)
theorem ZE{R:Result->Shared->Prop}{vs:VL}{kw:List (Str×Value)}(X:K.In s.heap)(hm:W.makesIn K C=true)
  (hi:W.findIn K (.ref C) "__init__"=some (some (.ref f))) (hf:W.typeIn K (.ref f)=some (.type "function"))
  (h : codeAny (model prog w) (A.under (.builtin "type.__call__" ⟨.ref C :: vs, kw⟩)) (.call (.ref f) ⟨.ref (s.heap.objs.size + 1) :: vs, kw⟩) (W.InitBack (s.heap.objs.size + 1) R)
   { s with heap := (s.heap.push W.emptyDict).push (W.instObj C s.heap.objs.size) }) :
  codeAny (model prog w) A (.call (.ref C) ⟨vs,kw⟩) R s:=by
 obtain⟨b,g,d,t,os⟩:=s;exact W.make_core (W.makes_of X hm) (UF X hi) (fun a=>W.bind_fn X a hf) (.inl rfl) h
end
def Jl(f:Str)(v:V):List (Str×V)->List (Str×V)
 |[]=>[(f,v)]
 |(g,x)::r=>if g=f then(g,v)::r else(g,x)::Jl f v r
theorem C9(f g:Str)(v:V):∀fs:List (Str×V),(Jl f v fs).lookup g=if g=f then some v else fs.lookup g
 |[]=>by
  show List.lookup g [(f,v)]=_
  by_cases h:g=f
  .have hb:(g==f)=true:=XH.mpr h;simp only[List.lookup,hb,Y9 h]
  .have hb:(g==f)=false:=X3.mpr h;simp only[List.lookup,hb,Y2 h]
 |(k,x)::r=>by
  have a:=C9 f g v r;rw[show Jl f v ((k,x)::r)=(if k=f then(k,v)::r else(k,x)::Jl f v r) from rfl]
  by_cases hk:k=f
  .rw[Y9 hk]
   by_cases h:g=k
   .have hb:(g==k)=true:=XH.mpr h;simp only[List.lookup,hb,Y9 (h.trans hk)]
   .have hb:(g==k)=false:=X3.mpr h;simp only[List.lookup,hb,Y2 (fun e:g=f=>h (e.trans hk.symm))]
  .rw[Y2 hk]
   by_cases h:g=k
   .have hb:(g==k)=true:=XH.mpr h;simp only[List.lookup,hb,Y2 (fun e:g=f=>hk (h.symm.trans e))]
   .have hb:(g==k)=false:=X3.mpr h;simp only[List.lookup,hb];exact a
theorem K7(f:Str)(v:V):∀fs:List (Str×V),f∈(Jl f v fs).map (·.1)/\∀g,g∈fs.map (·.1)->g∈(Jl f v fs).map (·.1)
 |[]=>⟨by simp[Jl],fun g h=>by simp at h⟩
 |(k,x)::r=>by
  obtain⟨i1,i2⟩:=K7 f v r;rw[show Jl f v ((k,x)::r)=(if k=f then(k,v)::r else(k,x)::Jl f v r) from rfl]
  by_cases hk:k=f
  .rw[Y9 hk];subst hk;exact⟨by simp,fun g h=>by simpa using h⟩
  .rw[Y2 hk];refine⟨?_,fun g h=>?_⟩
   .rw[List.map_cons];exact Ya _ i1
   .rw[List.map_cons]at h ⊢;rcases Y6.mp h with e|e
    .exact Y6.mpr (.inl e)
    .exact Ya _ (i2 g e)
theorem IY(f:Str)(v:V):∀fs:List (Str×V),(Jl f v fs).length <=fs.length+ 1
 |[]=>by simp[Jl]
 |(k,x)::r=>by
  have ih:=IY f v r;rw[show Jl f v ((k,x)::r)=(if k=f then(k,v)::r else(k,x)::Jl f v r) from rfl]
  by_cases hk:k=f
  .rw[Y9 hk,List.length_cons,List.length_cons];lia
  .rw[Y2 hk,List.length_cons,List.length_cons];lia
theorem Np.some_of{v:V}{o:Option Value}(r:Np (some v) o):∃u,o=some u/\W9 v u:=by
 cases o with
 |none=>exact(show False from r).elim
 |some u=>exact⟨u,rfl,r⟩
theorem Np.none_of{o:Option Value}(r:Np none o):o=none:=by
 cases o with
 |none=>rfl
 |some u=>exact(show False from r).elim
theorem SM{v:V}{u:VH}(r:W9 v u):W.handedIn u=true:=by
 cases v with
 |non=>cases (show u=Value.none from r);rfl
 |bl b=>cases (show u=Value.bool b from r);rfl
 |int i=>obtain⟨t,e⟩:=(show ∃t,u=Value.int i t from r);cases e;rfl
 |str x=>obtain⟨t,e⟩:=(show ∃t,u=Value.str x t from r);cases e;rfl
 |byt b=>obtain⟨t,e⟩:=(show ∃t,u=Value.bytes b t from r);cases e;rfl
 |flt b=>obtain⟨t,e⟩:=(show ∃t,u=Value.float b t from r);cases e;rfl
 |ref a=>cases (show u=Value.ref a from r);rfl
 |ty n=>cases (show u=Value.type n from r);rfl
section
variable{P:VB}{w:VF}{H H':Hp}{h h':VM}{a C dx:VI}{fs fs':List (Str×V)}
theorem Af(hok:JU P w H h)(e:H a=some (.ins C dx fs)):∃mA,ML h a dx C mA/\(∀f,Np (fs.lookup f) (mA f))/\PySem.Within mA (fs.map (·.1))/\fs.length <=1000/\H dx=some (.own a):=by
 obtain⟨d,z,ne,b,mA,n,r,q⟩:=(show Wf P w H h a (.ins C dx fs) from hok a _ e);exact⟨mA,⟨b,n,ne⟩,r,q,z,d⟩
end
structure T7(K:VG)(C:VI):Prop where
 pg:W.plainGet K C Str.empty=true
 hd:W.hasDictIn K C=true
 po:W.plainOver K C=true
 sa:W.findIn K (.ref C) "__setattr__"=some (some (.builtin "object.__setattr__"))
theorem T7.get{K:VG}{C:VI}(c:T7 K C)(f:Str):W.plainGet K C f=true:=c.pg
def W0(K:VG)(C:VI)(f:Str):Prop:=W.findIn K (.ref C) f=some none
theorem W0.taker{K:VG}{C:VI}{f:Str}(n:W0 K C f):W.takerIn K C f=some none:=by
 unfold W.takerIn;rw[show W.findIn K (.ref C) f=some none from n];rfl
structure HU(K:VG)(C:VI)(m:Str)(f:VI):Prop where
 at_:W.findIn K (.ref C) m=some (some (.ref f))
 fn:W.isFn K (.ref f)=true
 kp:W.keepIn K (.ref f)=true
section
variable{X:Cx}{pins:VA}{σ:St}{H:Hp}{s:VC}{a C dx:VI}{fs:List (Str×V)}{f:Str}{v:V}{A:VE}{E:Vy}
theorem OJ{b:Bool}{Q:Vy}(I:VV X pins σ H s)(e:H a=some (.ins C dx fs))(c:T7 X.K C)(n:W0 X.K C f)(l:fs.lookup f=some v)
  (h:∀u s',VV X pins σ H s'->W9 v u->Q u s'):wpAny (model X.prog X.w) A (getAttr (.ref a) f b) Q E s:=by
 obtain⟨mA,O,r,_,_,_⟩:=Af I.hok e;obtain⟨u,g,d⟩:=Np.some_of (v:=v) (o:=mA f) (by rw[<-l];exact r f);exact uN I.kIn O (c.get f) c.hd n g (SM d) (h u _ (I.tok _) d)
theorem Hy{m:Str}{g:VI}{pl:Sem Bool}{Q:Value×List Value->Shared->Prop}(I:VV X pins σ H s)(e:H a=some (.ins C dx fs))(c:T7 X.K C)(k:HU X.K C m g)(l:fs.lookup m=none)
  (h:Q (.ref g,[.ref a]) s):wpAny (model X.prog X.w) A (getMethod (.ref a) m pl) Q E s:=by
 obtain⟨mA,O,r,_,_,_⟩:=Af I.hok e;have b:mA m=none:=Np.none_of (by rw[<-l];exact r m);exact nY I.kIn O (c.get m) k.at_ k.fn b h
theorem QD{y:V}{u:VH}{Q:Vz}(I:VV X pins σ H s)(e:H a=some (.ins C dx fs))(c:T7 X.K C)(n:W0 X.K C f)(hl:fs.length < 1000)(ry:W9 y u)
  (h:∀s',VV X pins σ (upd H a (.ins C dx (Jl f y fs))) s'->Q () s'):wpAny (model X.prog X.w) A (setAttr (.ref a) f u) Q E s:=by
 obtain⟨mA,O,r,wi,_,i⟩:=Af I.hok e;have l:(fs.map (·.1)).length <=sizeLine:=by rw[List.length_map,YE];lia
 refine nV I.kIn O c.sa c.po n.taker c.hd wi l fun h' d j=>h _ ?_
 have hd:∃o,h'.get? dx=some o:=let ⟨o,_,_,e',_⟩:=d.ns;⟨o,e'⟩;refine I.write (x:=a) (e:=dx) (by rw[e];exact True.intro) (.inr i) (fun b q v z=>(j.2 b v).trans z) hd ?_;refine⟨by rw[Wh O.ne];exact i,?_,O.ne,d.obj,_,d.ns,fun g=>?_,fun g p=>?_⟩
 .have:=IY f y fs;lia
 .show Np ((Jl f y fs).lookup g) (if g=f then some u else mA g);rw[C9]
  by_cases q:g=f
  .rw[Y9 q,Y9 q];exact ry
  .rw[Y2 q,Y2 q];exact r g
 .by_cases q:g=f
  .rw[q];exact(K7 f y fs).1
  .refine(K7 f y fs).2 g (wi g fun z=>p ?_);show(if g=f then some u else mA g)=none;rw[Y2 q];exact z
theorem VV.made(I:VV X pins σ H s):VV X pins σ (upd (upd H s.heap.objs.size (.own (s.heap.objs.size+ 1))) (s.heap.objs.size+ 1) (.ins C s.heap.objs.size []))
  {s with heap:=(s.heap.push W.emptyDict).push (W.instObj C s.heap.objs.size)}:=by
 have c:(s.heap.push W.emptyDict).get? s.heap.objs.size=some W.emptyDict:=Yj s.heap rfl;have h:((s.heap.push W.emptyDict).push (W.instObj C s.heap.objs.size)).get? (s.heap.objs.size+ 1)=some (W.instObj C s.heap.objs.size):=by
  have:=Yj (s.heap.push W.emptyDict) (o:=W.instObj C s.heap.objs.size) rfl;rwa [Xx]at this
 have g:(s.heap.push W.emptyDict).Ns s.heap.objs.size (fun _=>none):=⟨W.emptyDict,#[],_,c,rfl,(fun e f=>absurd f (by simp)),fun _=>rfl⟩;have i:=I.laid (a:=s.heap.objs.size) (o:=.own (s.heap.objs.size+ 1)) (h':=s.heap.push W.emptyDict) (t':=s.toks) (fun b u q=>Y3 _ q) (Y1 _) ⟨_,c⟩;refine i.laid (a:=s.heap.objs.size+ 1) (o:=.ins C s.heap.objs.size []) (t':=s.toks) (fun b u q=>Y3 _ q) (UZ (Xx _ _)) ?_;have ne:s.heap.objs.size≠s.heap.objs.size+ 1:=Yi (Xy _);refine⟨by rw[Wh ne,WU],Yh _,ne,h,fun _=>none,(Heap.Ns1.of_empty g).at fun o q=>Y3 _ q,fun _=>True.intro,fun y d=>absurd rfl d⟩
theorem Lr{prog:VB}{w:VF}{env:Env}{e:VN}{f:Str}{pos:Pos}{s:VC}{Q:Vy}(hb:attributeBase e f env (eval e env)=eval e env)
  (h:wpAny (model prog w) A (eval e env) (fun o s₁=>wpAny (model prog w) A (getAttr o f true) Q E s₁) E s):wpAny (model prog w) A (eval (.Attribute e f pos) env) Q E s:=
 Attribute_any_ h (by rw[arm_eval_Attribute,hb])
end
def Co(K:VG)(ta:TE)(f:Str):TE:=fun σ H Q=>ta σ H fun x H1=>∃a C dx fs v,x= .ref a/\H1 a=some (.ins C dx fs)/\T7 K C/\W0 K C f/\fs.lookup f=some v/\Q v H1
def AC(K:VG)(ta tv:TE)(f:Str):TS:=fun D σ H=>tv σ H fun y H1=>ta σ H1 fun x H2=>∃a C dx fs,x= .ref a/\H2 a=some (.ins C dx fs)/\T7 K C/\W0 K C f/\fs.length < 1000/\
 D.nx σ (upd H2 a (.ins C dx (Jl f y fs)))
section
variable{X:Cx}{o e value:VN}{f:Str}{pos pos' tpos:Pos}{ta tv:TE}
theorem Zh(he:PE X e ta)(hb:attributeBase e f X.env (eval e X.env)=eval e X.env):PE X (.Attribute e f pos) (Co X.K ta f):=by
 intro pins s σ H Q I h;refine Lr hb (Wj (he pins s σ H _ I h) fun u s1 zz=>?_);rcases zz with⟨x,H1,j,b,a,C,dx,fs,v,ex,g,c,n,l,q⟩;subst ex;obtain rfl:u=Value.ref a:=b;exact OJ j g c n l fun o s2 i d=>⟨v,H1,i,d,q⟩
theorem xQ(ha:PE X o ta)(hv:PE X value tv)(hs:swapsWith value (some (.Attribute o f pos')) pos.line X.env=pure false):PS X (.Assign [.Attribute o f pos'] value pos) (AC X.K ta tv f):=by
 intro pins s σ H D I h;refine Uu (Wj (hv pins s σ H _ I h) fun u s1 ⟨y,H1,r,b,q⟩=>Wj (ha pins s1 σ H1 _ r q) fun g s2 zz=>?_) hs;rcases zz with⟨x,H2,p,d,a,C,dx,fs,ex,i,c,n,l,e⟩;subst ex;obtain rfl:g=Value.ref a:=d;exact QD p i c n l b fun s3 j=>⟨σ,_,j,e⟩
end
section
variable{X:Cx}{pins:VA}{σ:St}{H:Hp}{s:VC}{A:VE}{E:Vy}{Q:Vy}{c:VH}{b:Bool}
inductive JW(K:VG)(H:Hp):V->Value->Prop where
 |non:JW K H .non (.type "NoneType")
 |bl (x:Bool):JW K H (.bl x) (.type "bool")
 |int (i:Int):JW K H (.int i) (.type "int")
 |str (x:Str):JW K H (.str x) (.type "str")
 |flt (x:UInt64):JW K H (.flt x) (.type "float")
 |lst {a:VI} {xs:List V} (e:H a=some (.lst xs)):JW K H (.ref a) (.type "list")
 |frz {a:VI} {o:Obj} {xs:List V} (e:H a=some (.frz o (.lst xs))):JW K H (.ref a) (.type "list")
 |tup {a:VI} {xs:List V} (e:H a=some (.tup xs)):JW K H (.ref a) (.type "tuple")
 |dK {a:VI} {kvs:List (Wu×V)} (e:H a=some (.dK kvs)):JW K H (.ref a) (.type "dict")
 |dT {a:VI} {kvs:List (List Wu×V)} (e:H a=some (.dT kvs)):JW K H (.ref a) (.type "dict")
 |ins {a C dx:VI} {fs:List (Str×V)} (e:H a=some (.ins C dx fs)) (cl:T7 K C) (ha:W.findIn K (.ref C) "__class__"=some (some (.builtin "object.__class__")))
   (hn:W.specialIn K (.builtin "object.__class__") "__get__"=some (some (.builtin "getset_descriptor.__get__"))) (htk:W.takesIn K (.builtin "object.__class__")=some true)
   (hm:W.mroIn K C (.type "object")=some true):JW K H (.ref a) (.ref C)
theorem OC{x:V}{u t:VH}(I:VV X pins σ H s)(rx:W9 x u)(ty:JW X.K H x t)(e:W.kitOne X.K t c=some b)(h:∀tk,Q (.bool b) {s with toks:=tk}):
  wpAny (model X.prog X.w) A (call (.builtin "isinstance") [u,c]) Q E s:=by
 cases ty with
 |non=>cases (show u=Value.none from rx);exact Xk W.kitx_none I.kIn True.intro e (fun z=>nomatch z) h
 |bl y=>cases (show u=Value.bool y from rx);exact Xk W.kitx_bool I.kIn True.intro e (fun z=>nomatch z) h
 |int i=>obtain⟨t,q⟩:=(show ∃t,u=Value.int i t from rx);cases q;exact Xk W.kitx_int I.kIn True.intro e (fun z=>nomatch z) h
 |str y=>obtain⟨t,q⟩:=(show ∃t,u=Value.str y t from rx);cases q;exact Xk W.kitx_str I.kIn True.intro e (fun z=>nomatch z) h
 |flt y=>obtain⟨t,q⟩:=(show ∃t,u=Value.float y t from rx);cases q;exact Xk W.kitx_float I.kIn True.intro e (fun z=>nomatch z) h
 |@lst a xs ea=>
  cases (show u=Value.ref a from rx);obtain⟨_,_,n,_,h1⟩:=(show Wf X.prog X.w H s.heap a (.lst xs) from I.hok a _ ea);exact Xk W.kitx_list I.kIn ⟨_,h1,rfl⟩ e (fun z=>nomatch z) h
 |@frz a ob xs ea=>
  cases (show u=Value.ref a from rx);obtain⟨_,_,_,n,_,h1⟩:=(show Wf X.prog X.w H s.heap a (.frz ob (.lst xs)) from I.hok a _ ea);exact Xk W.kitx_list I.kIn ⟨_,h1,rfl⟩ e (fun z=>nomatch z) h
 |@tup a xs ea=>
  cases (show u=Value.ref a from rx);obtain⟨_,_,_,p⟩:=(show Wf X.prog X.w H s.heap a (.tup xs) from I.hok a _ ea);obtain⟨o,h1,h2,_⟩:=p;exact Xk W.kitx_tuple I.kIn ⟨o,h1,h2⟩ e (fun z=>nomatch z) h
 |@dK a kvs ea=>
  cases (show u=Value.ref a from rx);obtain⟨_,_,vs,_,p⟩:=(show Wf X.prog X.w H s.heap a (.dK kvs) from I.hok a _ ea);obtain⟨o,es,ep,h1,h2,_⟩:=p;exact Xk W.kitx_dict I.kIn ⟨o,h1,h2.1⟩ e (fun z=>nomatch z) h
 |@dT a kvs ea=>
  cases (show u=Value.ref a from rx);obtain⟨_,_,xs,_,o,es,ep,h1,h2,_⟩:=(show Wf X.prog X.w H s.heap a (.dT kvs) from I.hok a _ ea);exact Xk W.kitx_dict I.kIn ⟨o,h1,h2.1⟩ e (fun z=>nomatch z) h
 |@ins a C dx fs ea cl ha hn htk hm=>
  cases (show u=Value.ref a from rx);obtain⟨mA,O,_⟩:=Af I.hok ea;obtain⟨d,J,_⟩:=O.look;exact Xk (W.kitx_own (cl.get _) cl.hd ha hn htk hm) I.kIn J e (fun z=>nomatch z) h
end
structure Room(k:Nat)(A:VE):Prop where
 hd:A.handled=none
 dp:A.depth+ 3*k+ 5 < recursionLimit
 un:A.units+ 16*k+ 200 < cLine
theorem Room.mono{j k:Nat}{A:VE}(r:Room k A)(h:j <=k):Room j A:=⟨r.hd,by have:=r.dp;lia,by have:=r.un;lia⟩
theorem Room.deeper{k:Nat}{A:VE}(r:Room (k+ 1) A)(env:Env):Room k (A.deeper env):=
 ⟨r.hd,by have:=r.dp;show A.depth+ 1+ 3*k+ 5 < _;lia,by have:=r.un;show A.units+ 3+ 16*k+ 200 < _;lia⟩
theorem Room.in1{k:Nat}{A:VE}(r:Room (k+ 1) A):Room k A.in1:=
 ⟨r.hd,by have:=r.dp;show A.depth+ 3*k+ 5 < _;lia,by have:=r.un;show A.units+ 1+ 16*k+ 200 < _;lia⟩
theorem x9{A:VE}{C:VI}{us:VL}{kw:List (Str×Value)}:(A.under (.builtin "type.__call__" ⟨.ref C::us,kw⟩)).depth=A.depth+ 1:=by
 first|rfl|simp[Around.under,Code.weight,Code.isCreation,Code.isGuard,Code.isCaller,Code.frames,Code.isFrame,guardIds]
theorem uI{A:VE}{C:VI}{us:VL}{kw:List (Str×Value)}:(A.under (.builtin "type.__call__" ⟨.ref C::us,kw⟩)).units=A.units+ 1:=by
 first|rfl|simp[Around.under,Code.cUnits,Code.frames,Code.isFrame]
theorem Room.make{k:Nat}{A:VE}(r:Room (k+ 1) A)(C:VI)(us:VL)(kw:List (Str×Value)):Room k (A.under (.builtin "type.__call__" ⟨.ref C::us,kw⟩)):=
 ⟨r.hd,by have:=r.dp;rw[x9];lia,by have:=r.un;rw[uI];lia⟩
theorem Room.depth{k:Nat}{A:VE}(r:Room k A):A.depth < recursionLimit:=by have:=r.dp;lia
theorem Room.units{k:Nat}{A:VE}(r:Room k A):A.units+ 64 < cLine:=by have:=r.un;lia
def D7:TA:=fun _ H Q=>Q [] H
def Mu(ta:TE)(tr:TA):TA:=fun σ H Q=>ta σ H fun x H1=>tr σ H1 fun xs H2=>Q (x::xs) H2
section
variable{X:Cx}{e:VN}{es:List Expr}{te:TE}{t:TA}{pos:Pos}
theorem VT:PA X [] D7:=fun _ _ _ _ H Q I h=>Calls.spliced_nil ⟨[],H,I,.nil,h⟩
theorem VR(ha:PE X e te)(hr:PA X es t)(hs:starEach (e::es) X.env=(false,eval e X.env)::starEach es X.env:=by rfl):PA X (e::es) (Mu te t):=by
 intro pos pins s σ H Q I h;rw[hs];show wpAny _ _ (spliced ((false,eval e X.env)::backTo pos (starEach es X.env))) _ _ s;refine Calls.spliced_cons (Wj (ha pins s σ H _ I h) fun u s1 zz=>?_);rcases zz with⟨x,H1,g,b,d⟩;exact Wj (hr pos pins s1 σ H1 _ g d) fun i s2 zz=>by rcases zz with⟨xs,H2,f,a,c⟩;exact ⟨x::xs,H2,f,.cons b a,c⟩
def IA(t:TA):TE:=fun σ H Q=>t σ H fun xs H1=>xs.length <=sizeLine/\∀p,H1 p=none->Q (.ref p) (upd H1 p (.tup xs))
theorem ZW{x1}(h:PA X es t):PE X (.Tuple es x1 pos) (IA t):=by
 intro pins s σ H Q I d;refine wpAny_Tuple_spliced (Wj (h pos pins s σ H _ I d) fun c s1 ⟨xs,H1,a,r,z,q⟩=>⟨by rw[<-r.length];exact z,?_⟩);have f:H1 s1.heap.objs.size=none:=a.hok.fresh (Y1 _);refine⟨.ref s1.heap.objs.size,upd H1 s1.heap.objs.size (.tup xs),a.laid (t':=s1.toks) (fun b u e=>Y3 _ e) (Y1 _) ?_,rfl,q _ f⟩;exact⟨z,c,r,⟨_,Yj _ rfl,rfl,_,rfl⟩⟩
end
abbrev Sp:=List V->Hp->VK->XK->Prop
abbrev DT:=List Env->Hp->Shared->XK->Value->Shared->Prop
structure Tx(P:VB)(w:VF)(K:VG)(mg:Vx)(base:VM)(A:VE)(outer:List Env)(s:VC)(H:Hp):Prop where
 frames:A.frames=some outer
 mod:Mod K mg base
 bs:∀b o,base.get? b=some o->s.heap.get? b=some o/\H b=none
 bsz:base.objs.size <=s.heap.objs.size
 funs:s.heap.FunFrames base outer
 frf:∀b∈JM outer,H b=none
 hok:JU P w H s.heap
 bare:AllBare s.gens
def CE(outer:List Env)(P:VB)(w:VF)(H:Hp)(s:VC)(Q:VK)(u:VH)(s':VC):Prop:=
 ∃v H',s'.os=s.os/\AllBare s'.gens/\Un (JM outer) [] H H' s.heap s'.heap/\JU P w H' s'.heap/\W9 v u/\Q v H'
def CR(CX:DT)(outer:List Env)(P:VB)(w:VF)(H:Hp)(s:VC)(Q:VK)(E:XK)(r:Result)(s':VC):Prop:=
 match r with
 | .ok (.ret u)=>CE outer P w H s Q u s'
 | .ok _=>False
 | .error e=>CX outer H s E e s'
structure VW(P:VB)(w:VF)(K:VG)(mg:Vx)(base:VM)(CX:DT)(k:Nat)(f:VI)(fd:VD)(ps:List Str)(sp:Sp):Prop where
 len:∀vs H Q E,sp vs H Q E->vs.length=ps.length
 run:∀ (A:VE) (outer:List Env) (s:VC) (H:Hp) (args:Args) (us:VL) (vs:List V) (Q:VK) (E:XK),Room k A->Tx P w K mg base A outer s H->BindsTo s fd args (ps.zip us)->W2 vs us->sp vs H Q E->
  codeAny (model P w) A (.call (.ref f) args) (CR CX outer P w H s Q E) s
theorem VW.imp{P:VB}{w:VF}{K:VG}{mg:Vx}{base:VM}{CX:DT}{k:Nat}{f:VI}{fd:VD}{ps:List Str}{sp sp':Sp}(F:VW P w K mg base CX k f fd ps sp)
  (h:∀vs H Q E,sp' vs H Q E->sp vs H Q E):VW P w K mg base CX k f fd ps sp':=
 ⟨fun vs H Q E q=>F.len vs H Q E (h _ _ _ _ q),fun A outer s H a b vs Q E d e g c hs=>F.run A outer s H a b vs Q E d e g c (h _ _ _ _ hs)⟩
theorem Tx.make{P:VB}{w:VF}{K:VG}{mg:Vx}{base:VM}{A:VE}{outer:List Env}{s:VC}{H:Hp}(e:Tx P w K mg base A outer s H)(C:VI)(us:VL)(kw:List (Str×Value)):
  Tx P w K mg base (A.under (.builtin "type.__call__" ⟨.ref C::us,kw⟩)) outer s H:=⟨by first|exact e.frames|(simpa[Around.under,Code.envs,Code.isFrame,pushEnvs] using e.frames),e.mod,e.bs,e.bsz,e.funs,e.frf,e.hok,e.bare⟩
section
variable{X:Cx}{pins:VA}{σ:St}{H:Hp}{s s':VC}
theorem VV.env0(I:VV X pins σ H s):Tx X.prog X.w X.K X.mg X.base X.A X.stack s H:=
 ⟨I.ok.frames,I.ok.mod,I.bs,Yu I.ok.bsz I.sz,I.stack,I.stkFree,I.hok,I.bare⟩
theorem VV.after{Q:VK}{u:VH}(I:VV X pins σ H s)(h:CE X.stack X.prog X.w H s Q u s'):EP X pins σ Q u s':=by
 obtain⟨v,H',os,a,un,e,r,q⟩:=h;obtain⟨f,g,d,t,c⟩:=s';obtain rfl:c=s.os:=os;exact⟨v,H',I.call (h':=f) (g':=g) (d':=d) (t':=t) (ch:=[]) un e a (fun b z=>absurd z (by simp)),r,q⟩
end
def Rx(sp:Sp)(dvs:List V)(E:XK)(t:TA):TE:=fun σ H Q=>t σ H fun vs H1=>sp (vs++dvs) H1 Q E
def JK(K:VG)(fd:VD)(ps:List Str)(ds:VL):Prop:=
 ∀ (s:VC) (us:VL),K.In s.heap->(us++ds).length=ps.length->BindsTo s fd ⟨us,[]⟩ (ps.zip (us++ds))
theorem JK.all{K:VG}{fd:VD}{ps:List Str}(h:∀us:List Value,us.length=ps.length->bindArgs fd ⟨us,[]⟩=pure (ps.zip us)):JK K fd ps []:=fun s us _ a=>by
 rw[List.append_nil]at a ⊢;exact .of_eq (h us a)
def GM(CX:DT)(X:Cx)(E:XK):Prop:=∀ (pins:VA) (σ:St) (H:Hp) (s:VC) (e:VH) (s':VC),VV X pins σ H s->CX X.stack H s E e s'->X.xe e s'
section
variable{X:Cx}{CX:DT}{k:Nat}{f C:VI}{fd:VD}{ps:List Str}{sp:Sp}{dvs:List V}{ds:VL}{E:XK}{x m:Str}{p pos apos:Pos}{e o:VN}{es:List Expr}{ta:TE}{t:TA}
theorem Ag{pins:VA}{σ:St}{H:Hp}{s:VC}{Q:VK}{us:VL}{vs:List V}(F:VW X.prog X.w X.K X.mg X.base CX k f fd ps sp)(hr:Room k X.A)(hb:JK X.K fd ps ds)(hd:W2 dvs ds)(hx:GM CX X E)
  (I:VV X pins σ H s) (r:W2 vs us) (h:sp (vs++dvs) H Q E):wpAny (model X.prog X.w) X.A (call (.ref f) us) (EP X pins σ Q) X.xe s:=by
 have b:W2 (vs++dvs) (us++ds):=r.append hd;have c:(us++ds).length=ps.length:=by rw[<-b.length];exact F.len _ _ _ _ h
 refine XU (X6 (F.run X.A X.stack s H ⟨us,[]⟩ (us++ds) (vs++dvs) Q E hr I.env0 (hb s us I.kIn c) b h) fun r s' a=>?_);cases r with
 |error e=>exact hx pins σ H s e s' I a
 |ok fl=>
  cases fl with
  |ret u=>exact I.after a
  |next=>exact False.elim a
  |brk=>exact False.elim a
  |cont=>exact False.elim a
theorem QB(F:VW X.prog X.w X.K X.mg X.base CX k f fd ps sp)(hr:Room k X.A)(hg:Gl X x)(hm:X.mg x=some (.ref f))(hk:W.keepIn X.K (.ref f)=true)(hb:JK X.K fd ps ds)(hd:W2 dvs ds)(hx:GM CX X E)
  (ha:PA X (e::es) t) (hdb:(x==("__debug__":Str))=false:=by decide) (he:starEach (e::es) X.env=(false,eval e X.env)::starEach es X.env:=by rfl) (hpl:(backTo pos (starEach es X.env)).any (·.1)=false:=by rfl):
  PE X (.Call (.Name x p) (e::es) [] pos) (Rx sp dvs E t):=by
 intro pins s σ H Q I h;refine YN (Gz I hg hm ?_ hdb);refine XO (h₀:=X.base) I.ok.mod.kin hk (Wj (ha pos pins s σ H _ I h) fun b s1 ⟨vs,H1,a,r,q⟩=>⟨a.kIn,?_⟩) he hpl;exact Ag F hr hb hd hx a r q
structure Mk(K:VG)(C f:VI):Prop where
 makes:W.makesIn K C=true
 init:W.findIn K (.ref C) "__init__"=some (some (.ref f))
 fn:W.isFn K (.ref f)=true
 kp:W.keepIn K (.ref C)=true
theorem Hq{pins:VA}{σ:St}{H:Hp}{s:VC}{Q:VK}{us:VL}{vs:List V}(M:Mk X.K C f)(F:VW X.prog X.w X.K X.mg X.base CX k f fd ps sp)(hr:Room (k+ 1) X.A)(hb:JK X.K fd ps ds)(hd:W2 dvs ds)
  (hx:GM CX X E) (I:VV X pins σ H s) (r:W2 vs us)
  (h:∀x dx,H x=none->H dx=none->dx≠x->sp (.ref x::(vs++dvs)) (upd (upd H dx (.own x)) x (.ins C dx [])) (fun v H2=>v= .non/\Q (.ref x) H2) E):
  wpAny (model X.prog X.w) X.A (call (.ref C) us) (EP X pins σ Q) X.xe s:=by
 have d:=h (s.heap.objs.size+ 1) s.heap.objs.size (I.hok.fresh (X9 _)) (I.hok.fresh (Y1 _)) (Yi (Xy _));have b:=VV.made (C:=C) I;have c:W2 (V.ref (s.heap.objs.size+ 1)::(vs++dvs)) (Value.ref (s.heap.objs.size+ 1)::(us++ds)):=.cons rfl (r.append hd);have j:(Value.ref (s.heap.objs.size+ 1)::us++ds).length=ps.length:=by
  have e:=c.length;rw[F.len _ _ _ _ d]at e;exact e.symm
 refine XU (ZE (f := f) I.kIn M.makes M.init (XH.mp M.fn) (X6 (F.run _ X.stack _ _ ⟨Value.ref (s.heap.objs.size + 1) :: us, []⟩ (Value.ref (s.heap.objs.size + 1) :: (us ++ ds)) _ _ E (hr.make C us [])
  (b.env0.make C us []) (hb _ (Value.ref (s.heap.objs.size + 1) :: us) b.kIn j) c d) fun r s' a => ?_))
 cases r with
 |error e=>exact hx pins σ _ _ e s' b a
 |ok fl=>
  cases fl with
  |ret u=>
   obtain⟨v,H',n,g,l,i⟩:=b.after a;subst l;exact⟨g,⟨V.ref (s.heap.objs.size+ 1),H',n,rfl,i⟩⟩
  |next=>exact False.elim a
  |brk=>exact False.elim a
  |cont=>exact False.elim a
end
def PK(X:Cx)(kws:List Keyword)(t:TA):Prop:=
 ∀ (pos:Pos) (pins:VA) (s:VC) (σ:St) (H:Hp) (Q:List V->Hp->Prop),VV X pins σ H s->t σ H Q->wpAny (model X.prog X.w) X.A (evalAll ((backToKw pos (keywordEach kws X.env)).map (·.2))) (AP X pins σ Q) X.xe s
section
variable{X:Cx}{CX:DT}{k:Nat}{f C:VI}{fd:VD}{ps ks:List Str}{sp:Sp}{E:XK}{x m:Str}{p pos apos kpos:Pos}{e o:VN}{es:List Expr}{kws:List Keyword}{te ta:TE}{t tk:TA}{nm:Option Str}
theorem L7:PK X [] D7:=fun _ _ _ _ H Q I h=>wpAny_evalAll_nil ⟨[],H,I,.nil,h⟩
theorem Ik(ha:PE X e te)(hr:PK X kws t):PK X (⟨nm,e,kpos⟩::kws) (Mu te t):=by
 intro pos pins s σ H Q I h;show wpAny _ _ (evalAll ((do let v <-eval e X.env;standAt pos;pure v)::(backToKw pos (keywordEach kws X.env)).map (·.2))) _ _ s;refine wpAny_evalAll_cons (Y0 (Wj (ha pins s σ H _ I h) fun u s1 ⟨x,H1,g,b,d⟩=>Y0 (UM (Y4 ?_))));exact Wj (hr pos pins s1 σ H1 _ g d) fun i s2 zz=>by rcases zz with⟨xs,H2,f,a,c⟩;exact ⟨x::xs,H2,f,.cons b a,c⟩
variable{g:List Value->List Value->List Value}{gV:List V->List V->List V}
end
structure WQ(N P:List Str)(sc:Scope):Prop where
 kind:sc.kind= .function
 co:sc.isCoroutine=false
 gen:sc.isGenerator=false
 nd:N.Nodup
 pre:N.take P.length=P
 par:∀x∈P,sc.names.lookup x=some .local\/sc.names.lookup x=some .cell
 nofree:∀y∈sc.names,y.2≠ .free
theorem OD{kindOf:Str->Option NameKind}{x:Str}:∀{binds:List (Str×Value)} {m:Vx},(∀v,(x,v)∉binds)->bindL kindOf binds m x=m x
 |[],_,_=>rfl
 |(n,v)::r,m,h=>by
  unfold bindL;rw[OD fun w hw=>h w (Ya _ hw)]
  split
  .have:x≠n:=by rintro rfl;exact h v Yq
   simp[this]
  .rfl
theorem Q2{kindOf:Str->Option NameKind}{x:Str}:∀{binds:List (Str×Value)} {m:Vx},(∀v,(x,v)∉binds)->bindC kindOf binds m x=m x
 |[],_,_=>rfl
 |(n,v)::r,m,h=>by
  unfold bindC;rw[Q2 fun w hw=>h w (Ya _ hw)]
  split
  .rfl
  .have:x≠n:=by rintro rfl;exact h v Yq
   simp[this]
theorem ON{kindOf:Str->Option NameKind}{x:Str}{v:VH}:∀{P:List Str} {vs:VL} {i:Nat} {m:Vx},P.Nodup->P[i]?=some x->vs[i]?=some v->kindOf x=some .local->
  bindL kindOf (P.zip vs) m x=some v
 |[],_,_,_,_,h,_,_=>by simp at h
 |_::_,[],_,_,_,_,h,_=>by simp at h
 |p::P,w::vs,0,m,nd,h1,h2,hk=>by
  simp at h1 h2;subst h1;subst h2;show bindL kindOf ((p,w)::P.zip vs) m p=_;unfold bindL;rw[OD fun v hv=>(YS.mp nd).1 (V7 hv).1,Y9 hk];simp
 |p::P,w::vs,i+ 1,m,nd,h1,h2,hk=>by
  show bindL kindOf ((p,w)::P.zip vs) m x=_;unfold bindL;exact ON (i:=i) (YS.mp nd).2 (by simpa using h1) (by simpa using h2) hk
theorem QM{kindOf:Str->Option NameKind}{x:Str}{v:VH}:∀{P:List Str} {vs:VL} {i:Nat} {m:Vx},P.Nodup->P[i]?=some x->vs[i]?=some v->kindOf x≠some .local->
  bindC kindOf (P.zip vs) m x=some v
 |[],_,_,_,_,h,_,_=>by simp at h
 |_::_,[],_,_,_,_,h,_=>by simp at h
 |p::P,w::vs,0,m,nd,h1,h2,hk=>by
  simp at h1 h2;subst h1;subst h2;show bindC kindOf ((p,w)::P.zip vs) m p=_;unfold bindC;rw[Q2 fun v hv=>(YS.mp nd).1 (V7 hv).1,Y2 hk];simp
 |p::P,w::vs,i+ 1,m,nd,h1,h2,hk=>by
  show bindC kindOf ((p,w)::P.zip vs) m x=_;unfold bindC;exact QM (i:=i) (YS.mp nd).2 (by simpa using h1) (by simpa using h2) hk
def start(N:List Str)(vs:List V):St:=vs.map some++List.replicate (N.length - vs.length) none
def Nr(CX:DT)(P:VB)(w:VF)(K:VG)(mg:Vx)(base:VM)(N:List Str)(qual:Str)(scope:Scope)(f:VI)(cd:VH)(A:VE)(outer:List Env)(s:VC)(H:Hp)(E:XK):Cx where
 prog:=P
 w:=w
 K:=K
 mg:=mg
 base:=base
 A:=A.deeper (envOfC qual scope s.heap.objs.size f cd)
 N:=N
 s₀:=s
 H₀:=H
 env:=envOfC qual scope s.heap.objs.size f cd
 outer:=outer
 stack:=envOfC qual scope s.heap.objs.size f cd::outer
 ex:=[]
 calm:=true
 fn:=fun _=>true
 pn:=[]
 xe:=fun e s'=>wpAny (model P w) (A.deeper (envOfC qual scope s.heap.objs.size f cd)) (leaving (envOfC qual scope s.heap.objs.size f cd) e) (fun _ s''=>CX outer H s E e s'') (fun e' s''=>CX outer H s E e' s'') s'
theorem P6{sc:Scope}{n:Nat}{x:Str}(h:sc.names.lookup x=some .cell):∃c,(cellsFrom n sc.names []).lookup x=some c:=by
 have q:=W.cellsFrom_some sc.names n [] (.inl h);exact Option.isSome_iff_exists.mp q
theorem uF{CX:DT}{P:VB}{w:VF}{K:VG}{mg:Vx}{base:VM}{N ps:List Str}{qual:Str}{scope:Scope}{f:VI}{cd:VH}{A:VE}{outer:List Env}{s s1:VC}{H:Hp}{E:XK}{us:VL}{vs:List V}
  (S:WQ N ps scope) (hd:A.handled=none) (e0:Tx P w K mg base A outer s H) (hl:vs.length=ps.length) (r:W2 vs us)
  (x:InCallC s s.heap.objs.size (bindL (envOfC qual scope s.heap.objs.size f cd).kindOf (ps.zip us) fun _=>none) (cellsFrom (s.heap.objs.size+ 1) scope.names []) (bindC (envOfC qual scope s.heap.objs.size f cd).kindOf (ps.zip us) fun _=>none) s1):
  VV (Nr CX P w K mg base N qual scope f cd A outer s H E) [] (start N vs) H s1:=by
 have hpl:ps.length <=N.length:=by have:=YH List.length S.pre;rw[YD]at this;lia
 obtain⟨h1,tk,rfl,hk⟩:=x.done;have g:∀b:Addr,b∉(Nr CX P w K mg base N qual scope f cd A outer s H E).ex:=fun b z=>absurd (show b∈([]:List Addr) from z) (by simp)
 refine ⟨⟨e0.mod, S.kind, rfl, rfl, Y1 _, fun y z c h1 h2 => ?_, fun y d => ?_, fun y c _ h => ?_, fun _ => hd, Ux e0.frames, .inr ⟨rfl, rfl⟩, fun b z => absurd z (g b), e0.bs, e0.bsz, fun b _ _ => g b, fun b z => absurd z (g b), e0.funs, e0.frf⟩,
  rfl, e0.bare, Un.kept hk, ⟨_, x.toInCall.ns, fun i y v h1 h2 h3 => ?_⟩, fun y c h => ⟨_, x.cell y c h⟩, e0.hok.fresh (Y1 _), fun y c h => ?_, fun p j => absurd (show p ∈ ([] : List (Addr × Obj)) from j) (by simp), e0.hok.kept hk, ?_⟩
 .exact name_of_addr x.apart (YQ h1) (YQ h2)
 .have d:scope.names.lookup y=some .cell\/scope.names.lookup y=some .free:=d;rcases d with d|d
  .exact P6 d
  .exact absurd rfl (S.nofree _ (YQ d))
 .exact X5 (x.above y c (YQ h))
 .have hi:i < vs.length:=by
   unfold start at h2
   by_cases hi:i < vs.length
   .exact hi
   .rw[List.getElem?_append_right (by simpa using hi)]at h2;rw[List.getElem?_replicate]at h2
    split at h2 <;> cases h2
  have ha:vs[i]?=some v:=by
   unfold start at h2;rw[List.getElem?_append_left (by simpa using hi),Yk]at h2;cases e:vs[i]? with
   |none=>rw[e]at h2;cases h2
   |some a=>rw[e]at h2;cases h2;rfl
  obtain⟨u,o,rv⟩:=r.get ha;have j:ps[i]?=some y:=by
   rw[<-S.pre,List.getElem?_take_of_lt (by lia)];exact h1
  have l:ps.Nodup:=by rw[<-S.pre];exact S.nd.sublist (List.take_sublist _ _)
  refine⟨u,rv,?_⟩;rcases S.par y (Yd j) with k|k
  .exact .inl ⟨k,ON l j o k⟩
  .obtain⟨c,e⟩:=P6 (n:=s.heap.objs.size+ 1) k;refine .inr ⟨.inl k,c,e,?_⟩;have q:=x.cell y c e;rw[QM l j o (by show scope.names.lookup y≠_;rw[k];decide)]at q;exact q
 .exact e0.hok.fresh (X5 (x.above y c (YQ h)))
 .unfold start;show _=N.length;rw[Yx,List.length_map,List.length_replicate]
  lia
theorem Dt{CX:DT}{P:VB}{w:VF}{K:VG}{mg:Vx}{base:VM}{k:Nat}{f:VI}{name qual:Str}{params:Arguments}{body:List Stmt}{scope:Scope}{dV kV doc pm cdv ct oc:VH}{an od:Option Addr}
  {osl:Array (Option Value)} {N ps:List Str} {sp:Sp} (lk:K.lookup f=some ⟨oc,od,.func (W.fnOf name qual params body scope dV kV doc pm an cdv ct),osl⟩) (hcd:W.codeIn K cdv qual=true) (S:WQ N ps scope)
  (len:∀vs H Q E,sp vs H Q E->vs.length=ps.length)
  (hbody : ∀ (A : Around) (outer : List Env) (s : Shared) (H : Hp) (vs : List V) (Q : VK) (E : XK), Room k (A.deeper (envOfC qual scope s.heap.objs.size f cdv)) -> sp vs H Q E ->
   ∃ t, To (Nr CX P w K mg base N qual scope f cdv A outer s H E) body t /\ t { nx := fun _ H' => Q .non H', rt := Q } (start N vs) H) :
  VW P w K mg base CX (k+ 1) f (W.fnOf name qual params body scope dV kV doc pm an cdv ct) ps sp:=by
 refine⟨len,fun A outer s H args l vs Q E i a hb r d=>?_⟩;have hl:=len _ _ _ _ d;have KX:K.In s.heap:=a.mod.kin.keeps fun b o e=>(a.bs b o e).1
 have j:s.heap.NoLimit:=a.mod.nolimit.keeps fun b o e=>(a.bs b o e).1
 have c:∀y∈ps.zip l,scope.names.lookup y.1=some .local\/(scope.names.lookup y.1=some .cell/\((cellsFrom (s.heap.objs.size+ 1) scope.names []).lookup y.1).isSome=true):=fun⟨n,v⟩ hy=>by
  rcases S.par n (V7 hy).1 with q|q
  .exact .inl q
  .exact .inr ⟨q,W.cellsFrom_some _ _ _ (.inl q)⟩
 refine codeAny_call_function i.depth (KX _ _ lk) rfl S.co S.gen rfl (W.codeRec_of KX hcd) (hb _ _ _ _ ?_);refine wpAny_newFunctionEnv_cells S.kind c fun env he s1 x=>?_
 subst he;refine⟨j.keeps x.toInCall.keep,codeAny_func ?_⟩;obtain⟨t,p,z⟩:=hbody A outer s H vs Q E (i.deeper _) d;have I:VV (Nr CX P w K mg base N qual scope f cdv A outer s H E) [] (start N vs) H s1:=uF S i.hd a hl r x;refine YC (p [] s1 (start N vs) H _ I z) (fun fl s' hs=>?_) fun e s' hs=>hs
 have g:∀{σ':St} {H':Hp} {v:V} {u:VH},VV (Nr CX P w K mg base N qual scope f cdv A outer s H E) [] σ' H' s'->W9 v u->Q v H'->CE outer P w H s Q u s':=
  fun {σ' H' v u} J h q=>⟨v,H',J.os,J.bare,J.base,J.hok,h,q⟩
 cases fl with
 |ret u=>
  obtain⟨v,σ',H',J,h,q⟩:=hs;exact g J h q
 |next=>
  obtain⟨σ',H',J,q⟩:=hs;exact g (v:=V.non) (u:=Value.none) J rfl q
 |brk=>
  obtain⟨_,_,_,q⟩:=hs;exact False.elim q
 |cont=>
  obtain⟨_,_,_,q⟩:=hs;exact False.elim q
section
variable{X:Cx}{x:Str}{p pos:Pos}{e:VN}{es:List Expr}{t:TA}{id T:String}{r:List V->Hp->VK->Prop}
def BG(r:List V->Hp->VK->Prop)(t:TA):TE:=fun σ H Q=>t σ H fun vs H1=>r vs H1 Q
theorem D8(hc:Wr X (.builtin id) r)(hg:Gl X x)(hm:X.mg x=none)(hv:bootBuiltins x=some (.builtin id))(ha:PA X (e::es) t)(hn:x≠"__name__":=by decide)(hdb:(x==("__debug__":Str))=false:=by decide)
  (he:starEach (e::es) X.env=(false,eval e X.env)::starEach es X.env:=by rfl) (hpl:(backTo pos (starEach es X.env)).any (·.1)=false:=by rfl):PE X (.Call (.Name x p) (e::es) [] pos) (BG r t):=by
 intro pins s σ H Q I h;refine YN (GI I hg hm hv ?_ hn hdb);exact PyProof.Rows.callWith_builtin1 (Wj (ha pos pins s σ H _ I h) fun a s1 zz=>by rcases zz with⟨vs,H1,d,b,c⟩;exact hc pins s1 σ H1 vs a Q d b c) he hpl
theorem EL(hc:Wr X (.type T) r)(hg:Gl X x)(hm:X.mg x=none)(hv:bootBuiltins x=some (.type T))(ha:PA X (e::es) t)(hn:x≠"__name__":=by decide)(hdb:(x==("__debug__":Str))=false:=by decide)
  (he:starEach (e::es) X.env=(false,eval e X.env)::starEach es X.env:=by rfl) (hpl:(backTo pos (starEach es X.env)).any (·.1)=false:=by rfl):PE X (.Call (.Name x p) (e::es) [] pos) (BG r t):=by
 intro pins s σ H Q I h;refine YN (GI I hg hm hv ?_ hn hdb);exact Xj (Wj (ha pos pins s σ H _ I h) fun a s1 zz=>by rcases zz with⟨vs,H1,d,b,c⟩;exact hc pins s1 σ H1 vs a Q d b c) he hpl
end
end L2
namespace HT
open PySem PyProof.Rows
section
variable{prog:VB}{w:VF}{A:VE}{E:Vy}{s:VC}
def sIx(n d:Nat):Option Int->Nat
 |none=>d
 |some v=>if v < 0 then(v+ (n:Int)).toNat else min v.toNat n
theorem sIx_nat(n d k:Nat):sIx n d (some (k:Int))=min k n:=by
 show(if(k:Int) < 0 then((k:Int)+ (n:Int)).toNat else min (k:Int).toNat n)=min k n;rw[Y2 (by lia),Uc]
end
end HT
namespace L2
open PySem PySem.Spec PyProof.Rows
abbrev TO:=St->Hp->(Option Int->Hp->Prop)->Prop
def PO(X:Cx)(e:Option Expr)(t:TO):Prop:=
 ∀ (pins:VA) (s:VC) (σ:St) (H:Hp) (Q:Option Int->Hp->Prop),VV X pins σ H s->t σ H Q->
  wpAny (model X.prog X.w) X.A (evalPart e X.env) (fun u s'=>∃o H',VV X pins σ H' s'/\IsPart u o/\Q o H') X.xe s
def Hi:TO:=fun _ H Q=>Q none H
def Ln(t:TE):TO:=fun σ H Q=>t σ H fun x H1=>∃i,x= .int i/\Q (some i) H1
section
variable{X:Cx}{e:VN}{te:TE}{lo hi:Option Expr}{tl th:TO}{pos p2:Pos}
theorem wJ:PO X none Hi:=by
 intro pins s σ H Q I h;rw[evalPart_none];exact Y4 ⟨none,H,I,.none,h⟩
theorem FI(h:PE X e te):PO X (some e) (Ln te):=by
 intro pins s σ H Q I c;rw[evalPart_some];refine Wj (h pins s σ H _ I c) fun u s1 zz=>?_;rcases zz with⟨x,H1,d,a,b⟩
 obtain⟨i,rfl,q⟩:=b;obtain⟨t,rfl⟩:=a;exact⟨some i,H1,d,.int i t,q⟩
def GX(X:Cx)(r:V->Option Int->Option Int->Hp->VK->Prop):Prop:=
 ∀ (pins:VA) (s:VC) (σ:St) (H:Hp) (x:V) (v vl vu:VH) (lo hi:Option Int) (sl:VI) (Q:VK),VV X pins σ H s->W9 x v->s.heap.IsSliceOf sl vl vu .none->IsPart vl lo->IsPart vu hi->r x lo hi H Q->
  ∃T id,typeLookup (.type T) "__getitem__"=pure (some (.builtin id))/\s.TypeIs v T/\wpAny (model X.prog X.w) X.A (getItem v (.ref sl)) (EP X pins σ Q) X.xe s
def CZ(r:V->Option Int->Option Int->Hp->VK->Prop)(te:TE)(tl th:TO):TE:=fun σ H Q=>te σ H fun x H1=>tl σ H1 fun l H2=>th σ H2 fun u H3=>r x l u H3 Q
theorem P2{r:V->Option Int->Option Int->Hp->VK->Prop}(hr:GX X r)(he:PE X e te)(hl:PO X lo tl)(hu:PO X hi th):PE X (.Subscript e (.Slice lo hi none p2) pos) (CZ r te tl th):=by
 intro pins s σ H Q I h;refine Subscript_ (Wj (he pins s σ H _ I h) fun v s1 zz=>?_);rcases zz with⟨x,H1,I1,f,j⟩;refine wpAny_Slice (Wj (hl pins s1 σ H1 _ I1 j) fun c s2 ⟨l,H2,I2,o,i⟩=>Wj (hu pins s2 σ H2 _ I2 i) fun a s3 zz=>?_);rcases zz with⟨u,d,I3,n,g⟩;rw[evalPart_none];refine Y4 ?_;have I4:VV X pins σ d {s3 with heap:=s3.heap.push {cls:=.type "slice",data:=.fields #[c,a,.none]}}:=I3.kept (t':=s3.toks) fun b ob q=>Y3 _ q
 obtain⟨T,id,z,p,y⟩:=hr pins {s3 with heap:=s3.heap.push {cls:=.type "slice",data:=.fields #[c,a,.none]}} σ d x v c a l u s3.heap.objs.size Q I4 f (Heap.IsSliceOf.new ..) o n g;show wpAny (model X.prog X.w) X.A (subscriptTail e (.Slice lo hi none p2) v (.ref s3.heap.objs.size)) (EP X pins σ Q) X.xe {s3 with heap:=s3.heap.push {cls:=.type "slice",data:=.fields #[c,a,.none]}};exact tail_any (ops:=[.ref s3.heap.objs.size,v]) p z y (by with_unfolding_all rfl)
def DX(xs:List V)(lo hi:Option Int):List V:=(xs.drop (HT.sIx xs.length 0 lo)).take (HT.sIx xs.length xs.length hi - HT.sIx xs.length 0 lo)
theorem yJ(xs:List V)(lo hi:Option Int):(DX xs lo hi).length <=xs.length:=by
 unfold DX;rw[YD,V0]
 lia
end
def Ek(n:Nat)(i:Int):Option Nat:=if 0 <=i then(if i < n then some i.toNat else none) else if -(n:Int) <=i then some (i+ n).toNat else none
def GS{α:Type}(xs:List α)(i:Int):Option α:=(Ek xs.length i).bind fun j=>xs[j]?
theorem uO{n:Nat}{i:Int}{j:Nat}(h:Ek n i=some j):seqIndex? i n=some j/\j < n/\ -(n:Int) <=i/\i < n:=by
 unfold Ek at h
 by_cases h0:0 <=i
 .rw[Y9 h0]at h
  by_cases h1:i < n
  .rw[Y9 h1]at h;have e:i.toNat=j:=Yo h;exact⟨by rw[seqIndex_of h0 h1,e],by lia,by lia,h1⟩
  .rw[Y2 h1]at h;cases h
 .rw[Y2 h0]at h
  by_cases h1: -(n:Int) <=i
  .rw[Y9 h1]at h;have e:(i+ n).toNat=j:=Yo h;exact⟨by rw[seqIndex_neg (by lia) h1,e],by lia,h1,by lia⟩
  .rw[Y2 h1]at h;cases h
theorem Oy{α:Type}{xs:List α}{i:Int}{v:α}(h:GS xs i=some v):∃j,seqIndex? i xs.length=some j/\xs[j]?=some v/\j < xs.length/\ -(xs.length:Int) <=i/\i < xs.length:=by
 unfold GS at h;cases e:Ek xs.length i with
 |none=>rw[e]at h;cases h
 |some j=>
  rw[e]at h;obtain⟨h1,h2,b,a⟩:=uO e;exact⟨j,h1,h,h2,b,a⟩
theorem CI{α:Type}{xs:List α}{j:Nat}{v:α}(h:xs[j]?=some v):GS xs (j:Int)=some v:=by
 have a:j < xs.length:=(Y5.mp h).1;have e:Ek xs.length (j:Int)=some j:=by
  unfold Ek;rw[Y9 (by lia),Y9 (by lia)];simp
 unfold GS;rw[e];exact h
def FY(b:VN):Prop:=∀o i,subscripted b false o i=operate [o,i] (getItem o i)
def Dz(X:Cx)(r:R2):Prop:=
 ∀ (value slice:VN) (pins:VA) (s:VC) (σ:St) (H:Hp) (x y:V) (v u:VH) (Q:VK),VV X pins σ H s->W9 x v->W9 y u->r x y H Q->
  subscripted slice false v u=operate [v,u] (getItem v u)->wpAny (model X.prog X.w) X.A (subscriptTail value slice v u) (EP X pins σ Q) X.xe s
def LU(X:Cx)(id:String)(r:V->List V->Hp->VK->Prop):Prop:=
 ∀ (pins:VA) (s:VC) (σ:St) (H:Hp) (x:V) (xs:List V) (v:VH) (us:VL) (Q:VK),VV X pins σ H s->W9 x v->W2 xs us->r x xs H Q->
  wpAny (model X.prog X.w) X.A (call (.builtin id) (v::us)) (EP X pins σ Q) X.xe s
section
variable{X:Cx}{a b:VN}{ta tb:TE}{pos:Pos}
theorem Mi{r:R2}(hr:Dz X r)(ha:PE X a ta)(hb:PE X b tb)(hs:FY b):PE X (.Subscript a b pos) (Gg r ta tb):=by
 intro pins s σ H Q I h;exact Subscript_ (Hk ha hb I h fun v u s2 x y H2 e d c q=>hr a b pins s2 σ H2 x y v u Q e d c q (hs _ _))
def BE(K:VG):R2:=fun x y H Q=>∃p xs i v,x= .ref p/\y= .int i/\VZ K H p xs/\GS xs i=some v/\Q v H
def EZ(K:VG):R2:=fun x y H Q=>∃p xs i v,x= .ref p/\y= .int i/\JN K H p xs/\GS xs i=some v/\Q v H
theorem dN:Dz X (BE X.K):=by
 intro value g pins s σ H x y v u Q I n l h hs;obtain⟨p,xs,i,z,rfl,rfl,o,he,q⟩:=h;cases n;obtain⟨t,rfl⟩:=l;obtain⟨e,r,b,hz⟩:=I.list o;obtain⟨j,h1,h2,h3,h4,h5⟩:=Oy he;obtain⟨w,f,d⟩:=r.get h2;have hl:=r.length;have hn:=CJ;have a:EP X pins σ Q w s:=⟨z,H,I,d,q⟩
 by_cases h0:0 <=i
 .have c:i.toNat=j:=by
   rw[seqIndex_of h0 h5]at h1;exact Yo h1
  exact item_listR b.isList h0 (by lia) (by rw[c];simpa using f) a hs
 .have c:(i+ (e.toArray.size:Int)).toNat=j:=by
   rw[seqIndex_neg (by lia) h4]at h1;rw[Yb,<-hl];exact Yo h1
  exact subscriptTail_builtinR (x:=w) b.isList.typeIs slot_list_getitem.lookup
   (wpAny_getItem_list_neg (Q:=fun r s'=>r=w/\EP X pins σ Q r s') b.isList (by lia) (by rw[Yb] <;> lia) (by lia) (by rw[c];simpa using f) ⟨rfl,a⟩) hs
theorem xE:Dz X (EZ X.K):=by
 intro value d pins s σ H x y v u Q I f e h hs;obtain⟨p,xs,i,z,rfl,rfl,g,n,q⟩:=h;cases f;obtain⟨t,rfl⟩:=e;obtain⟨aa,r,b,hz⟩:=I.tuple g;obtain⟨j,h1,h2,h3,h4,h5⟩:=Oy n;obtain⟨w,o,a⟩:=r.get h2;have l:=r.length;have hn:=CJ;have c:EP X pins σ Q w s:=⟨z,H,I,a,q⟩;exact subscriptTail_builtinR (x:=w) b.typeIs slot_tuple_getitem.lookup
  (getItem_tuple (j:=j) (Q:=fun r s'=>r=w/\EP X pins σ Q r s') b (by lia) (by lia) (by rw[Yb,<-l];exact h1) (by simpa using o) ⟨rfl,c⟩) hs
theorem nS(lo hi:Option Int)(n:Nat):(sliceBounds lo hi none n).1=((HT.sIx n 0 lo:Nat):Int)/\(sliceBounds lo hi none n).2.1=((HT.sIx n n hi:Nat):Int)/\(sliceBounds lo hi none n).2.2=1:=by
 refine⟨?_,?_,rfl⟩
 .cases lo with
  |none=>simp[sliceBounds,HT.sIx]
  |some i=>
   simp only[sliceBounds,HT.sIx,Option.getD_none,show(1:Int) > 0 by decide,if_true]
   by_cases h:i < 0
   .simp only[h,if_true] <;> lia
   .simp only[h,if_false] <;> lia
 .cases hi with
  |none=>simp[sliceBounds,HT.sIx]
  |some i=>
   simp only[sliceBounds,HT.sIx,Option.getD_none,show(1:Int) > 0 by decide,if_true]
   by_cases h:i < 0
   .simp only[h,if_true] <;> lia
   .simp only[h,if_false] <;> lia
theorem Zo(its:VL)(lo hi:Option Int):slicePick its.toArray lo hi none=((its.drop (HT.sIx its.length 0 lo)).take (HT.sIx its.length its.length hi - HT.sIx its.length 0 lo)).toArray:=by
 obtain⟨h1,h2,a⟩:=nS lo hi its.toArray.size;unfold slicePick;rw[h1,h2,a];simp only[sliceRange_one,pick_run,Yb] <;> rfl
def C6(K:VG):V->Option Int->Option Int->Hp->VK->Prop:=fun x lo hi H Q=>∃a xs,x= .ref a/\VZ K H a xs/\∀p,H p=none->Q (.ref p) (upd H p (.lst (DX xs lo hi)))
theorem mF:GX X (C6 X.K):=by
 intro pins s σ H x v p n lo hi u Q I e hs g f h;obtain⟨a,xs,rfl,j,q⟩:=h;cases e;obtain⟨l,r,d,i⟩:=I.list j;have c:=r.length;refine⟨"list",_,slot_list_getitem.lookup,d.isList.typeIs,?_⟩;refine wpAny_getItem_list_slice d.isList hs g f .none (by simp) ?_ (by rw[Yb] <;> lia);rw[Zo,<-c];refine⟨.ref s.heap.objs.size,_,I.laid (t':=s.toks) (o:=.lst (DX xs lo hi)) (fun b w q=>Y3 _ q) (Y1 _) ?_,rfl,q _ (I.hok.fresh (Y1 _))⟩;exact⟨Yu (yJ xs lo hi) i,_,0,(r.drop (HT.sIx xs.length 0 lo)).take (HT.sIx xs.length xs.length hi - HT.sIx xs.length 0 lo),Yj _ rfl⟩
def GT:V->Bool
 | .non=>true
 | .bl _=>true
 | .int _=>true
 | .str _=>true
 |_=>false
def DS:V->V->Bool
 | .non,.non=>true
 | .bl a,.bl b=>a==b
 | .bl a,.int b=>(if a then 1 else 0)==b
 | .int a,.bl b=>a==(if b then 1 else 0)
 | .int a,.int b=>a==b
 | .str a,.str b=>a==b
 |_,_=>false
theorem Zu{A:VE}{s:VC}{y x:V}{u v:VH}(ry:W9 y u)(rx:W9 x v)(fy:GT y=true)(fx:GT x=true):SeqAt.EqAt A s u v (DS y x):=by
 cases y with
 |non=>
  cases ry;cases x with
  |non=>cases rx;exact SeqAt.EqAt.same _
  |bl b=>cases rx;exact SeqAt.EqAt.none_bool b
  |int b=>obtain⟨t,rfl⟩:=rx;exact SeqAt.EqAt.none_int b t
  |str b=>obtain⟨t,rfl⟩:=rx;exact SeqAt.EqAt.none_str b t
  |_=>exact absurd (show false=true from fx) Ys
 |bl a=>
  cases ry;cases x with
  |non=>cases rx;exact SeqAt.EqAt.bool_none a
  |bl b=>cases rx;exact SeqAt.EqAt.bool_bool a b
  |int b=>obtain⟨t,rfl⟩:=rx;exact SeqAt.EqAt.bool_int a b t
  |str b=>obtain⟨t,rfl⟩:=rx;exact SeqAt.EqAt.bool_str a b t
  |_=>exact absurd (show false=true from fx) Ys
 |int a=>
  obtain⟨c,rfl⟩:=ry;cases x with
  |non=>cases rx;exact SeqAt.EqAt.int_none a c
  |bl b=>cases rx;exact SeqAt.EqAt.int_bool a c b
  |int b=>obtain⟨t,rfl⟩:=rx;exact SeqAt.EqAt.int_int a c b t
  |str b=>obtain⟨t,rfl⟩:=rx;exact SeqAt.EqAt.int_str a c b t
  |_=>exact absurd (show false=true from fx) Ys
 |str a=>
  obtain⟨c,rfl⟩:=ry;cases x with
  |non=>cases rx;exact SeqAt.EqAt.str_none a c
  |bl b=>cases rx;exact SeqAt.EqAt.str_bool a c b
  |int b=>obtain⟨t,rfl⟩:=rx;exact SeqAt.EqAt.str_int a c b t
  |str b=>obtain⟨t,rfl⟩:=rx;exact SeqAt.EqAt.str_str a c b t
  |_=>exact absurd (show false=true from fx) Ys
 |_=>exact absurd (show false=true from fy) Ys
def MS(x:V)(u:VH):Bool:=match u with
 | .none=>DS .non x
 | .bool b=>DS (.bl b) x
 | .int i _=>DS (.int i) x
 | .str z _=>DS (.str z) x
 |_=>false
theorem Qv{x y:V}{u:VH}(r:W9 y u)(f:GT y=true):MS x u=DS y x:=by
 cases y with
 |non=>cases r;rfl
 |bl b=>cases r;rfl
 |int i=>obtain⟨t,rfl⟩:=r;rfl
 |str z=>obtain⟨t,rfl⟩:=r;rfl
 |_=>exact absurd (show false=true from f) Ys
theorem Bu{x:V}:∀{xs:List V} {us:VL},W2 xs us->xs.all GT=true->us.any (MS x)=xs.any fun y=>DS y x
 |_,_,.nil,_=>rfl
 |y::xs,u::us,.cons r t,f=>by
  rw[UN,YF]at f;rw[Ul,Ul,Qv r f.1,Bu t f.2]
theorem BB{A:VE}{s:VC}{x:V}{v:VH}(rx:W9 x v)(fx:GT x=true):∀{xs:List V} {us:VL},W2 xs us->xs.all GT=true->∀u∈us,SeqAt.EqAt A s u v (MS x u)
 |_,_,.nil,_=>fun u hu=>by cases hu
 |y::xs,u::us,.cons r t,f=>fun u' hu=>by
  rw[UN,YF]at f;rcases Y6.mp hu with rfl|hu
  .rw[Qv r f.1];exact Zu r rx f.1 fx
  .exact BB rx fx t f.2 u' hu
def RE(x:V)(xs:List V):Bool:=xs.any fun y=>DS y x
def CB(K:VG)(neg:Bool):R2:=fun x y H Q=>∃p xs,y= .ref p/\(VZ K H p xs\/JN K H p xs)/\GT x=true/\xs.all GT=true/\Q (.bl (if neg then !RE x xs else RE x xs)) H
theorem j2:Ja X (compareOp .In) (CB X.K false):=by
 intro pins s σ H x y v u Q I e f h;obtain⟨p,xs,rfl,b,fx,fs,q⟩:=h;cases f;rcases b with b|b
 .obtain⟨a,r,c,g⟩:=I.list b;refine SeqAt.in_listAt (MS x) c.isList (fun w d=>BB e fx r fs w (by simpa using d)) ⟨.bl _,H,I,rfl,?_⟩;rw[show a.toArray.any (MS x)=a.any (MS x) by simp,Bu r fs];exact q
 .obtain⟨a,r,c,g⟩:=I.tuple b;refine SeqAt.in_tupleAt (MS x) c (fun w d=>BB e fx r fs w (by simpa using d)) ⟨.bl _,H,I,rfl,?_⟩;rw[show a.toArray.any (MS x)=a.any (MS x) by simp,Bu r fs];exact q
theorem Sk:Ja X (compareOp .NotIn) (CB X.K true):=by
 intro pins s σ H x y v u Q I e f h;obtain⟨p,xs,rfl,b,fx,fs,q⟩:=h;cases f;rcases b with b|b
 .obtain⟨a,r,c,g⟩:=I.list b;refine SeqAt.notIn_listAt (MS x) c.isList (fun w d=>BB e fx r fs w (by simpa using d)) ⟨.bl _,H,I,rfl,?_⟩;rw[show a.toArray.any (MS x)=a.any (MS x) by simp,Bu r fs];exact q
 .obtain⟨a,r,c,g⟩:=I.tuple b;refine SeqAt.notIn_tupleAt (MS x) c (fun w d=>BB e fx r fs w (by simpa using d)) ⟨.bl _,H,I,rfl,?_⟩;rw[show a.toArray.any (MS x)=a.any (MS x) by simp,Bu r fs];exact q
theorem gE:Wr X (.builtin "len") (fun xs H Q=>∃p ys,xs=[.ref p]/\(VZ X.K H p ys\/JN X.K H p ys)/\Q (.int ys.length) H):=by
 intro pins s σ H xs i Q I r h;obtain⟨p,ys,rfl,b,q⟩:=h;obtain⟨u,rfl,f⟩:=DO r;cases f;have j:=CJ;rcases b with b|b
 .obtain⟨e,c,d,g⟩:=I.list b;have a:=c.length;exact Calls.call_len_list d.isList (by simp only[Yb] <;> lia) ⟨.int ys.length,H,I.tok _,⟨s.toks+ 1,by rw[Yb,a]⟩,q⟩
 .obtain⟨e,c,d,g⟩:=I.tuple b;have a:=c.length;exact len_tuple d (by simp only[Yb] <;> lia) ⟨.int ys.length,H,I.tok _,⟨s.toks+ 1,by rw[Yb,a]⟩,q⟩
theorem wS:Wr X (.builtin "len") (fun xs H Q=>∃z,xs=[.str z]/\z.length <=sizeLine/\Q (.int z.length) H):=by
 intro pins s σ H xs a Q I r h;obtain⟨z,rfl,b,q⟩:=h;obtain⟨u,rfl,t,rfl⟩:=DO r;have c:=CJ;exact len_str (by lia) ⟨.int z.length,H,I.tok _,⟨_,rfl⟩,q⟩
theorem xY:Wr X (.type "list") (fun xs H Q=>∃p ys,xs=[.ref p]/\(VZ X.K H p ys\/JN X.K H p ys)/\∀l,H l=none->Q (.ref l) (upd H l (.lst ys))):=by
 intro pins s σ H xs z Q I r h;obtain⟨p,ys,rfl,f,q⟩:=h;obtain⟨u,rfl,y⟩:=DO r;cases y;have g:∀ (a:VL),W2 ys a->ys.length <=sizeLine->∀ (h':VM) (c':Nat),(∀b o',s.heap.get? b=some o'->h'.get? b=some o')->
   h'.get? s.heap.objs.size=some {cls:=.type "list",dict:=none,data:=.seq a.toArray c',slots:=#[]}->EP X pins σ Q (.ref s.heap.objs.size) {s with heap:=h'}:=fun a c d h' c' kp e=>
  ⟨.ref s.heap.objs.size,_,I.laid (t':=s.toks) kp (Y1 _) (show Wf X.prog X.w _ h' _ (.lst ys) from⟨d,a,c',c,e⟩),rfl,q _ (I.hok.fresh (Y1 _))⟩
 rcases f with f|f
 .obtain⟨a,c,i,d⟩:=I.list f;have v:=c.length;obtain⟨o,j,x,n,hd⟩:=i.isList;exact call_list_seq p (.inl rfl) j x hd (fun h' c' kp e=>g a c d h' c' kp e) (by simp only[Yb] <;> lia)
 .obtain⟨a,c,i,d⟩:=I.tuple f;have v:=c.length;obtain⟨o,j,x,n,hd⟩:=i;exact call_list_seq p (.inr rfl) j x hd (fun h' c' kp e=>g a c d h' c' kp e) (by simp only[Yb] <;> lia)
def Of(K:VG)(T:String)(x:V)(H:Hp):Prop:=match x with
 | .str _=>T="str"
 | .int _=>T="int"
 | .ref p=>(T="list"/\∃xs,VZ K H p xs)\/(T="tuple"/\∃o,K.lookup p=some o/\o.cls= .type "tuple"/\o.dict=none)\/
   (T="dict"/\((∃kvs,H p=some (.dK kvs))\/∃kvs,H p=some (.dT kvs)))\/(T="set"/\∃S n,H p=some (.set S n))
 |_=>False
theorem xM{pins:VA}{σ:St}{H:Hp}{s:VC}{T:String}{x:V}{v:VH}(I:VV X pins σ H s)(r:W9 x v)(ty:Of X.K T x H):
  s.TypeIs v T/\∀a,v= .ref a->∃ob,s.heap.get? a=some ob/\ob.dict=none:=by
 cases x with
 |str z=>
  obtain⟨t,rfl⟩:=r;cases (show T="str" from ty);exact⟨typeIs_str s z t,fun _ e=>nomatch e⟩
 |int i=>
  obtain⟨t,rfl⟩:=r;cases (show T="int" from ty);exact⟨typeIs_int s i t,fun _ e=>nomatch e⟩
 |ref p=>
  cases r;rcases ty with⟨rfl,xs,hq⟩|⟨rfl,o,hk,hc,hd⟩|⟨rfl,hk⟩|⟨rfl,S,n,hk⟩
  .obtain⟨f,_,d,_⟩:=I.list hq;refine⟨d.isList.typeIs,fun a e=>?_⟩;cases e;obtain⟨o,n,e,c,hd,_⟩:=d;exact⟨o,e,hd⟩
  .refine⟨⟨o,I.kIn p o hk,hc⟩,fun a e=>?_⟩;cases e;exact⟨o,I.kIn _ o hk,hd⟩
  .have z:∃o,s.heap.get? p=some o/\o.ExactDict:=by
    rcases hk with⟨kvs,hk⟩|⟨kvs,hk⟩
    .obtain⟨_,_,_,_,o,_,_,e,ex,_⟩:=I.hok p _ hk;exact⟨o,e,ex⟩
    .obtain⟨_,_,_,_,o,_,_,e,ex,_⟩:=I.hok p _ hk;exact⟨o,e,ex⟩
   obtain⟨o,e,ex⟩:=z;refine⟨⟨o,e,ex.1⟩,fun a b=>?_⟩;cases b;exact⟨o,e,ex.2.1⟩
  .obtain⟨o,_,_,_,e,ex,_⟩:=I.hok p _ hk;refine⟨⟨o,e,ex.1⟩,fun a b=>?_⟩;cases b;exact⟨o,e,ex.2.1⟩
 |_=>exact False.elim ty
def C8(K:VG)(T:String)(r:V->List V->Hp->VK->Prop)(to:TE)(t:TA):TE:=fun σ H Q=>to σ H fun x H1=>Of K T x H1/\t σ H1 fun xs H2=>r x xs H2 Q
variable{o e:VN}{es:List Expr}{to:TE}{t:TA}{name:Str}{apos cpos:Pos}{T id:String}{r:V->List V->Hp->VK->Prop}
theorem SZ(pa:PlainAttrs T)(slot:Slot T name id)(hty:typeOf (.builtin id)=pure (.type "method_descriptor"))(hm:LU X id r)(ho:PE X o to)(ha:PA X (e::es) t)
  (hbase:attributeBase o name X.env (eval o X.env)=eval o X.env:=by rfl)
  (hfew : ((backTo cpos (starEach (e :: es) X.env)).all (fun x => !x.1) && (backToKw cpos (keywordEach [] X.env)).all (fun x => x.1.isSome)
   && decide ((e :: es).length + ([] : List Keyword).length + (if ([] : List Keyword).isEmpty then 0 else 1) < 30)) = true := by rfl)
  (hline:(apos.endLine==cpos.line)=true:=by rfl) (hs:starEach (e::es) X.env=(false,eval e X.env)::starEach es X.env:=by rfl) (hplain:(backTo cpos (starEach es X.env)).any (·.1)=false:=by rfl):
  PE X (.Call (.Attribute o name apos) (e::es) [] cpos) (C8 X.K T r to t):=by
 intro pins s σ H Q I h;refine wpAny_Call_method_late hbase hfew hline rfl (Wj (ho pins s σ H _ I h) fun v s1 zz=>?_);rcases zz with⟨x,H1,c,a,ty,i⟩;obtain⟨h1,h2⟩:=xM c a ty;refine⟨T,id,pa,slot,hty,h1,h2,?_⟩;have b:=ha cpos pins s1 σ H1 _ c i;rw[hs]at b ⊢;refine Calls.callWith_builtin (by show(false||(backTo cpos (starEach es X.env)).any (·.1))=false;rw[hplain] <;> rfl) (Calls.evalArgs_plain ?_);exact Wj b fun d s2 zz=>by rcases zz with⟨vs,H2,j,f,g⟩;exact hm pins s2 σ H2 x vs v d Q j a f g
end
def Dm(X:Cx)(id:String)(r:V->List V->Hp->VK->Prop):Prop:=
 ∀ (pins:VA) (s:VC) (σ:St) (H:Hp) (x:V) (xs:List V) (v:VH) (us:VL) (Q:VK),VV X pins σ H s->W9 x v->W2 xs us->r x xs H Q->
  wpAny (model X.prog X.w) X.A (call (.builtin id) (v::us)) (EP X pins σ Q) X.xe s
theorem W2.one{x:V}{us:VL}(h:W2 [x] us):∃u,us=[u]/\W9 x u:=by cases h with|cons r h=>cases h;exact⟨_,rfl,r⟩
theorem W2.rep{xs:List V}{us:VL}(h:W2 xs us):∀k:Nat,W2 (List.replicate k xs).flatten (List.replicate k us).flatten
 |0=>.nil
 |k+ 1=>by
  rw[XA,XA,Ud,Ud];exact W2.append h (W2.rep h k)
theorem Qk(its:VL):∀ (k:Nat) (acc:VL),
  List.foldl (fun x1 x2=>x1++x2) acc.toArray (List.replicate k its.toArray)=(acc++(List.replicate k its).flatten).toArray
 |0,acc=>by simp
 |k+ 1,acc=>by
  have e:acc.toArray++its.toArray=(acc++its).toArray:=by simp
  have a:(acc++its)++(List.replicate k its).flatten=acc++(List.replicate (k+ 1) its).flatten:=by
   rw[XA,Ud,UR]
  rw[<-a,<-Qk its k (acc++its),<-e,XA,List.foldl_cons]
section
variable{X:Cx}{pins:VA}{σ:St}{H:Hp}{s:VC}{l b:VI}{xs ys zs:List V}
theorem VV.lset{its its':VL}{n:Nat}{f:Array Value->Array Value}{t':Nat}(I:VV X pins σ H s)(hH:H l=some (.lst xs))
  (e:s.heap.get? l=some {cls:=.type "list",data:=.seq its.toArray n}) (hf:f its.toArray=its'.toArray) (hv:W2 ys its') (hz:ys.length <=sizeLine):
  VV X pins σ (upd H l (.lst ys)) {s with heap:=s.heap.update l (Obj.mapSeq f),toks:=t'}:=by
 have q:=PySem.IsL.update e f;rw[hf]at q;refine I.write (x:=l) (e:=l) (by rw[hH];exact trivial) (.inl rfl) (fun c u b a=>(X7 s.heap (Obj.mapSeq f) (Ne.symm b)).trans a) ⟨_,q⟩ ?_;exact⟨hz,its',_,hv,q⟩
theorem VV.lnew{its:VL}{t':Nat}(I:VV X pins σ H s)(hv:W2 ys its)(hz:ys.length <=sizeLine):
  VV X pins σ (upd H s.heap.objs.size (.lst ys)) {s with heap:=s.heap.push {cls:=.type "list",data:=.seq its.toArray},toks:=t'}:=
 I.laid (fun _ _ q=>Y3 _ q) (Y1 _) ⟨hz,its,0,hv,Yj _ rfl⟩
theorem VV.fresh(I:VV X pins σ H s):H s.heap.objs.size=none:=I.hok.fresh (Y1 _)
theorem VV.lstM(I:VV X pins σ H s)(hH:H l=some (.lst xs)):xs.length <=sizeLine/\∃ (its:VL) (n:Nat),W2 xs its/\xs.length=its.length/\s.heap.get? l=some {cls:=.type "list",data:=.seq its.toArray n}:=by
 obtain⟨z,its,n,r,e⟩:=I.hok l _ hH;exact⟨z,its,n,r,r.length,e⟩
theorem Pa{n:Nat}(h:n <=sizeLine):Builtin.List.listTooLong n=false:=by
 unfold Builtin.List.listTooLong;exact Yt (by lia)
end
section
variable{X:Cx}
def Iw:V->List V->Hp->VK->Prop:=fun x vs H Q=>∃l xs y,x= .ref l/\vs=[y]/\H l=some (.lst xs)/\xs.length < sizeLine/\Q .non (upd H l (.lst (xs++[y])))
theorem Df:Dm X "list.append" Iw:=by
 intro pins s σ H x vs v g Q I c d h;obtain⟨l,xs,y,rfl,rfl,b,i,q⟩:=h;cases c;obtain⟨u,rfl,f⟩:=d.one;obtain⟨z,a,n,r,j,e⟩:=I.lstM b;refine Vn F.slot_list_append ⟨_,e,rfl⟩ F.entry_list_append (F.args_list_append_2 _ _) (PySem.list_append l a.toArray n u (by rw[Yb];lia)) ⟨e,?_⟩;refine⟨.non,_,I.lset (its':=a++[u]) b e (by simp) (r.append (.cons f .nil)) ?_,rfl,q⟩;rw[Yx,Vf]
 lia
def FK:V->List V->Hp->VK->Prop:=fun x vs H Q=>∃l b xs zs,x= .ref l/\vs=[.ref b]/\H l=some (.lst xs)/\H b=some (.lst zs)/\xs.length+ zs.length <=sizeLine/\Q .non (upd H l (.lst (xs++zs)))
theorem Da:Dm X "list.extend" FK:=by
 intro pins s σ H x vs v us Q I g i h;obtain⟨l,b,xs,zs,rfl,rfl,f,w,hz,q⟩:=h;cases g;obtain⟨u,rfl,j⟩:=i.one;cases j;obtain⟨z,its,n,r,hl,e⟩:=I.lstM f;obtain⟨z2,a,p,o,aa,y⟩:=I.lstM w;have d:its.toArray.size+ a.toArray.size <=sizeLine:=by rw[Yb,Yb];lia
 have c:¬(!its.toArray.isEmpty && Builtin.List.listTooLong (its.toArray.size+ a.toArray.size))=true:=by
  rw[Pa d,XQ];exact Ys
 refine Vn F.slot_list_extend ⟨_,e,rfl⟩ F.entry_list_extend (F.args_list_extend_2 _ _)
  (AutoSeq1.list_extend_list_list_0 l its.toArray n b a.toArray p c (by rw[Yb];lia) (by lia)) ⟨e,y,?_⟩
 refine⟨.non,_,I.lset (its':=its++a) f e (by simp) (r.append o) ?_,rfl,q⟩;rw[Yx]
 lia
def IH:R2:=fun x y H Q=>∃l b xs zs,x= .ref l/\y= .ref b/\H l=some (.lst xs)/\H b=some (.lst zs)/\xs.length+ zs.length <=sizeLine/\∀p,H p=none->Q (.ref p) (upd H p (.lst (xs++zs)))
theorem RL:Ja X (binaryOp .Add) IH:=by
 intro pins s σ H x y v u Q I f d h;obtain⟨l,b,xs,zs,rfl,rfl,i,j,hz,q⟩:=h;cases f;cases d;obtain⟨z,c,n,r,hl,e⟩:=I.lstM i;obtain⟨z2,a,n2,g,w,p⟩:=I.lstM j;refine PySem.P.add_list e p ?_ (by rw[Yb,Yb];lia);have o:c.toArray++a.toArray=(c++a).toArray:=by simp
 rw[o];exact⟨.ref _,_,I.lnew (t':=s.toks) (r.append g) (by rw[Yx];lia),rfl,q _ I.fresh⟩
def ZR:R2:=fun x y H Q=>∃l k xs,x= .ref l/\y= .int k/\H l=some (.lst xs)/\ -(2 ^ 63) <=k/\k < 2 ^ 63/\xs.length*k.toNat <=sizeLine/\
 ∀p,H p=none->Q (.ref p) (upd H p (.lst (List.replicate k.toNat xs).flatten))
theorem xB{α:Type}(xs:List α)(k:Nat):(List.replicate k xs).flatten.length=k*xs.length:=by
 induction k with
 |zero=>simp
 |succ k ih=>rw[XA,Ud,Yx,ih,Nat.succ_mul,Nat.add_comm]
theorem RK:Ja X (binaryOp .Mult) ZR:=by
 intro pins s σ H x y v u Q I rx w h;obtain⟨l,k,xs,rfl,rfl,hH,h1,h2,p,q⟩:=h;cases rx;obtain⟨t,rfl⟩:=w;obtain⟨z,b,n,r,hl,e⟩:=I.lstM hH;have i:b.toArray.size*k.toNat <=sizeLine:=by rw[Yb,<-hl];exact p
 have o:¬b.toArray.size*k.toNat > (2 ^ 63 - 1) / 8:=by
  have:(sizeLine:Nat) <=(2 ^ 63 - 1) / 8:=by decide
  lia
 have j:¬(!Builtin.List.listFitsIndex k)=true:=by
  rw[fitsIndex_both h1 h2];exact Ys
 have c:¬Builtin.List.listTooLong (b.toArray.size*k.toNat)=true:=by
  rw[Pa i];exact Ys
 have g:List.foldl (fun f d=>f++d) #[] (List.replicate (if b.toArray.isEmpty=true then 0 else k.toNat) b.toArray)=(List.replicate k.toNat b).flatten.toArray:=by
  have f0:∀m:Nat,List.foldl (fun f d=>f++d) #[] (List.replicate m b.toArray)=(List.replicate m b).flatten.toArray:=fun m=>by
   have:=Qk b m [];rw[List.nil_append]at this;exact this
  rw[f0];cases b with
  |nil=>simp
  |cons a r'=>rw[Y2 (by simp)]
 refine wpAny_binaryOp_repeat_ref (T:="list") (U:="int") (by decide) ⟨_,e,rfl⟩ (fun s'=>typeIs_int s' k t) noFill_list_mul F.fills_int_mul F.slot_int_rmul repeat_list F.slot_int_index.lookup
  (Vn F.slot_int_rmul (typeIs_int s k t) F.entry_int_rmul (F.args_int_rmul_2 _ _) (int___rmul___int_list k t l b.toArray n)
   ⟨e, rfl, ⟨_, e, rfl⟩, Vn F.slot_list_mul ⟨_, e, rfl⟩ F.entry_list_mul (F.args_list_mul_2 _ _) (AutoListH.list___mul___list_int_3 l b.toArray n k t j o c) ⟨e, ?_⟩⟩)
 rw[g];exact⟨.ref _,_,I.lnew (t':=s.toks) (r.rep k.toNat) (by rw[xB,Nat.mul_comm];exact p),rfl,q _ I.fresh⟩
end
end L2
namespace Att
open PySem PySem.W PySem.Calls PyProof.Rows
theorem vT{P:Params}{h:VM}:∀ (ns:VJ) (vs:VL),WellAll P h vs (ns.map WData.int)->IntsAre vs ns:=by
 intro ns
 induction ns with
 |nil=>
  intro vs w;rw[List.map_nil]at w;cases w;exact .nil
 |cons n ns ih=>
  intro vs w;rw[List.map_cons]at w;cases w with
  |cons a b=>
   cases a;exact .cons _ _ (ih _ b)
theorem vH{l:OpenLaw}{n:Nat}(hn:l.most=some n){P:Params}{h:VM}{args:List WData}{vals:VL}
  (hpre:l.row.toRowW.claim.pre args=true) (hwl:WellAll P h vals args):
  ∃a vs ns,vals=[Value.ref a]/\args=[WData.list (ns.map WData.int)]/\h.get? a=some {cls:=.type "list",data:=.seq vs.toArray}/\IntsAre vs ns/\ns.length <=n:=by
 have e:WShape.hasAll [] args [.list .int]=true:=(pre_splitW hpre).1;have f:l.pre.holds [] {args:=args}=true:=(pre_splitW hpre).2;obtain⟨d,r,rfl,h1,h2⟩:=hasAllW_cons e;obtain rfl:=hasAllW_nil h2;obtain⟨xs,rfl,i⟩:=hasW_list h1;obtain⟨ns,rfl⟩:=items_int i;have c:ns.length <=n:=by
  unfold OpenLaw.pre at f;have b:(WTm.not (.lt (.lit (.int (n:Int))) (.len (.arg 0)))).holds [] {args:=[.list (ns.map .int)]}=true:=by
   have b:=(holds_andW f).1;rw[hn]at b;exact b
  have h5:=condW_of b (w_not (w_lt w_lit (w_len_list (w_arg rfl))));rw[List.length_map]at h5;refine Nat.le_of_not_lt fun q=>?_
  have g:(n:Int) < ((ns.length:Nat):Int):=by lia
  first
   |(rw[Yw g]at h5;exact absurd h5 (by decide))
   |(simp at h5;lia)
 cases hwl with
 |cons w1 w2=>
  cases w2;cases w1 with
  |list ho hall=>exact⟨_,_,ns,rfl,rfl,ho,vT ns _ hall,c⟩
theorem dL(l:OpenLaw)(args:List WData):l.row.toRowW.claim.post args (.bool true) args=true:=
 postW_of (r:=l.row.toRowW) (X:=(true==true))
  (show WShape.has [] (.bool true) .bool=true by first|rfl|decide|simp[WShape.has,WShape.arms,WShape.armsAll])
  (show(WTm.eq .res (.lit (.bool true))).value [] {args:=args,res:=some (.bool true),after:=args}=some (.bool (true==true)) from w_eq_bool (w_res rfl) w_lit) rfl
theorem attach_call{l:OpenLaw}{n:Nat}{q:VB}{loose:List Str}{XP:(Str->Option Value)->Heap->Prop}{YP:World->Heap->Prop}{d:DefRec}
  (hn:l.most=some n) (hdf:d.params.defaults=[])
  (call : ∀ (w : World) (s₀ s₁ : Shared) (mg mb : Str -> Option Value) (fa : Addr) (o : Obj) (pm cd doc : Value) (a : Addr) (vs : List Value) (ns : List Int),
   Ground q loose [] XP w s₀ mg mb s₁.heap->YP w s₁.heap->
   s₁.heap.get? fa=some o->o.data= .func (docDef d.name d.params d.body d.scope pm cd doc)->s₁.heap.CodeRec cd d.name->mg d.name=some (.ref fa)->
   s₁.heap.get? a=some {cls:=.type "list",data:=.seq vs.toArray}->IntsAre vs ns->ns.length <=n->s₁.gens=#[]->
   codeAny (model l.prog w) callerA (.call (.ref fa) ⟨[.ref a], []⟩) (fun r s' => r = .ok (.ret (.bool true)) /\ OldK s₁.heap s'.heap /\ s'.os = s₁.os /\ AllBare s'.gens) s₁) :
  WalkO q loose XP YP l.row.toRowW d [] (fun f vs=>PySem.call f vs):=by
 intro w s₀ s₁ mg mb G Y fa o pm cd doc dV kV v hd j p i z args s as c y hrd h hlo;obtain rfl:dV= .none:=Dflts.none p hdf;obtain rfl:kV= .none:=Dflts.noKw p;obtain⟨a,vs,ns,rfl,rfl,e,b,g⟩:=vH hn c h;refine enter_call (X6 (call w s₀ s₁ mg mb fa o pm cd doc a vs ns G Y v (fd_plain hd) j i e b g z) fun r s' u=>?_);obtain⟨rfl,h2,h3,h4⟩:=u;exact⟨.inl ⟨.bool true,.bool true,[],rfl,fun _=>rfl,.bool true,dL l _,fun _=>⟨List.Pairwise.nil,fun _ x=>(nomatch x)⟩⟩,h2,h3,h4⟩
section
variable{prog:VB}{w:VF}{A:VE}{E:Vy}{s:VC}{K:Frag}
def FP(h:VM)(L d:VI):List (Addr×Obj):=(List.range h.objs.size).filterMap fun a=>if a=L\/a=d then none else(h.get? a).map fun o=>(a,o)
end
end Att
namespace L2
open PySem PySem.Spec PyProof.Rows
theorem Pq:∀{vs:VL} {ns:VJ},IntsAre vs ns->W2 (ns.map V.int) vs
 |_,_,.nil=>.nil
 |_,_,.cons n t h=>.cons ⟨t,rfl⟩ (Pq h)
def Nl(s:Stmt)(j:Nat):Stmt:=match s with
 | .ClassDef _ _ _ body _ _ _ _ _ _ _=>body.getD j (.Pass ⟨0,0,0,0⟩)
 |_=>.Pass ⟨0,0,0,0⟩
def NV(s:Stmt):Arguments:=match s with
 | .FunctionDef _ a _ _ _ _ _ _ _ _=>a
 |_=>{posonlyargs:=[],args:=[],vararg:=none,kwonlyargs:=[],kw_defaults:=[],kwarg:=none,defaults:=[]}
def VX(s:Stmt):List Stmt:=match s with
 | .FunctionDef _ _ b _ _ _ _ _ _ _=>b
 |_=>[]
def VO(s:Stmt):Scope:=match s with
 | .FunctionDef _ _ _ _ _ _ sc _ _ _=>sc
 |_=>{kind:=.function,names:=[],isGenerator:=false,isCoroutine:=false}
abbrev WK:DT:=fun _ _ _ _ _ _=>False
abbrev E0:XK:=fun _ _ _=>False
theorem BO{X:Cx}:GM WK X E0:=fun _ _ _ _ _ _ _ h=>h.elim
structure WX(K:VG)(x qual:Str)(st:Stmt)(f:VI)(fd:VD):Prop where
 ex:∃ (oc:VH) (od:Option Addr) (kV doc pm:VH) (an:Option Addr) (cdv ct:VH) (osl:Array (Option Value)),
  fd=W.fnOf x qual (NV st) (VX st) (VO st) .none kV doc pm an cdv ct/\K.lookup f=some ⟨oc,od,.func fd,osl⟩/\W.codeIn K cdv qual=true
 kp:W.keepIn K (.ref f)=true
section
variable{P:VB}{w:VF}{K:VG}{mg:Vx}{base:VM}
theorem WX.ok{x qual:Str}{st:Stmt}{f:VI}{fd:VD}{N ps:List Str}{k:Nat}{sp:Sp}(F:WX K x qual st f fd)(S:WQ N ps (VO st))(len:∀vs H Q E,sp vs H Q E->vs.length=ps.length)
  (hbody : ∀ (cdv : Value) (A : Around) (outer : List Env) (s : Shared) (H : Hp) (vs : List V) (Q : VK) (E : XK), Room k (A.deeper (envOfC qual (VO st) s.heap.objs.size f cdv)) -> sp vs H Q E ->
   ∃ t, To (Nr WK P w K mg base N qual (VO st) f cdv A outer s H E).nox (VX st) t /\ t { nx := fun _ H' => Q .non H', rt := Q } (start N vs) H) : VW P w K mg base WK (k + 1) f fd ps sp := by
 obtain⟨j,i,kV,g,pm,l,cdv,ct,e,rfl,c,b⟩:=F.ex;refine Dt c b S len fun A outer s H vs Q E d a=>?_
 obtain⟨t,h,q⟩:=hbody cdv A outer s H vs Q E d a;exact⟨t,h.nox,q⟩
theorem WX.binds{x qual:Str}{st:Stmt}{f:VI}{fd:VD}{ps:List Str}(F:WX K x qual st f fd)
  (h:∀ (kV doc pm:VH) (an:Option Addr) (cdv ct:VH) (us:VL),us.length=ps.length->bindArgs (W.fnOf x qual (NV st) (VX st) (VO st) .none kV doc pm an cdv ct) ⟨us,[]⟩=pure (ps.zip us)):JK K fd ps []:=by
 obtain⟨d,c,kV,doc,pm,an,cdv,ct,a,rfl,e,b⟩:=F.ex;exact .all (h kV doc pm an cdv ct)
theorem BL{x qual:Str}{st:Stmt}{f:VI}{oc:VH}{od an:Option Addr}{osl:Array (Option Value)}{kV doc pm cdv ct:VH}(l:K.lookup f=some ⟨oc,od,.func (W.fnOf x qual (NV st) (VX st) (VO st) .none kV doc pm an cdv ct),osl⟩)
  (c:W.codeIn K cdv qual=true) (k:W.keepIn K (.ref f)=true):WX K x qual st f (W.fnOf x qual (NV st) (VX st) (VO st) .none kV doc pm an cdv ct):=⟨⟨oc,od,kV,doc,pm,an,cdv,ct,osl,rfl,l,c⟩,k⟩
end
theorem D6{A:VE}{k:Nat}(hr:Room k A):A.units+ 1 < cLine:=Ye (Nat.add_le_add_left (by decide:1 <=64) _) hr.units
section
variable{X:Cx}
theorem pv(i:Nat){x:Str}{pos:Pos}(hN:X.N[i]?=some x:=by rfl)(hv:Ed X.env.scope x:=by first|exact Or.inl rfl|exact Or.inr (Or.inl rfl)|exact Or.inr (Or.inr rfl))(hd:(x==("__debug__":Str))=false:=by decide)
  (hcd:(x==("__classdict__":Str))=false:=by decide):PE X (.Name x pos) (AF i):=Ou hN hv hd hcd
end
theorem GN{c A B:Prop}[Decidable c](h1:c->A)(h2:¬c->B):if c then A else B:=by
 by_cases h:c
 .rw[Y9 h];exact h1 h
 .rw[Y2 h];exact h2 h
def VP(H H':Hp):Prop:=∀b o,H b=some o->H' b=some o
theorem VP.refl(H:Hp):VP H H:=fun _ _ h=>h
theorem VP.trans{H H1 H2:Hp}(a:VP H H1)(b:VP H1 H2):VP H H2:=fun c o h=>b c o (a c o h)
theorem VP.free{H H':Hp}(e:VP H H'){l:VI}(h:H' l=Option.none):H l=Option.none:=by
 cases q:H l with
 |none=>rfl
 |some o=>
  rw[e l o q]at h;cases h
end L2
set_option maxHeartbeats 4000000
namespace L2
open PySem PySem.Spec PyProof.Rows
theorem Fw{env:Env}:∀ (names:List (Str×NameKind)) (cs:List (Str×Addr)),(∀x,(x,NameKind.free)∈names->∃c,env.cells.lookup x=some c)->
  (∀x c,cs.lookup x=some c->env.cells.lookup x=some c)->
  ∃cl,(forIn names cs fun(p:Str×NameKind) (r:List (Str×Addr))=>(match p with|(name,kind)=>(if(kind==NameKind.free)=true then(do let a <-cellOf env name;pure (ForInStep.yield ((name,a)::r))) else pure (ForInStep.yield r)):Sem (ForInStep (List (Str×Addr)))))=pure cl/\
   (∀x c,cl.lookup x=some c->env.cells.lookup x=some c)/\(∀x,(x,NameKind.free)∈names->∃c,cl.lookup x=some c)/\∀x,(∃c,cs.lookup x=some c)->∃c,cl.lookup x=some c
 |[],cs,_,h2=>⟨cs,rfl,h2,(fun _ h=>nomatch h),fun _ h=>h⟩
 |(n,k)::r,cs,h1,h2=>by
  by_cases hk:k=NameKind.free
  .subst hk;obtain ⟨c, hc⟩ := h1 n Yq;obtain ⟨cl, e, a, b, d⟩ := Fw r ((n, c) :: cs) (fun x f => h1 x (Ya _ f)) (fun x c' f => by
    rw[XV]at f;cases q:x==n with
    |true=>rw[q]at f;cases f;rw[eq_of_beq q];exact hc
    | false => rw [q] at f; exact h2 x c' f)
   refine⟨cl,?_,a,fun x f=>?_,fun x ⟨c',f⟩=>?_⟩
   .rw[U0];have:cellOf env n=pure c:=by unfold cellOf;rw[hc]
    simp only[this,beq_self_eq_true,if_true];exact e
   .rcases Y6.mp f with z|z
    .cases z;exact d _ ⟨c,by simp[XV]⟩
    .exact b x z
   .refine d x ?_;rw[XV];cases q:x==n with
    |true=>exact⟨c,rfl⟩
    |false=>exact⟨c',f⟩
  .obtain⟨cl,e,a,b,d⟩:=Fw r cs (fun x f=>h1 x (Ya _ f)) h2;have g:(k==NameKind.free)=false:=by simpa using hk
   refine⟨cl,?_,a,fun x f=>?_,d⟩
   .rw[U0];simp only[g,Bool.false_eq_true,if_false];exact e
   .rcases Y6.mp f with z|z
    .cases z;exact absurd rfl hk
    .exact b x z
theorem Ax{scope:Scope}{env:Env}(h:∀x,(x,NameKind.free)∈scope.names->∃c,env.cells.lookup x=some c):
  ∃cl,closureFor scope env=pure cl/\(∀x c,cl.lookup x=some c->env.cells.lookup x=some c)/\∀x,(x,NameKind.free)∈scope.names->∃c,cl.lookup x=some c:=by
 obtain⟨cl,e,a,b,_⟩:=Fw scope.names [] h (fun x c z=>nomatch z);refine⟨cl,?_,a,b⟩;unfold closureFor;show(forIn scope.names [] _ >>=fun d=>pure d)=pure cl;rw[show(forIn scope.names ([]:List (Str×Addr)) _:Sem _)=pure cl from e];rfl
theorem Hl{env:Env}{x:Str}:∀{names:List (Str×NameKind)} {k:NameKind},(names.map fun(n,k)=>if(k==NameKind.free && env.scope.kind== .function && env.kindOf n==some .cell) then(n,NameKind.cell) else(n,k)).lookup x=some k->
  (x,k)∈names\/(k=NameKind.cell/\(x,NameKind.free)∈names)
 |[],_,h=>by simp at h
 |(n,k')::r,k,h=>by
  have ih:=@Hl env x r k;have h':List.lookup x ((if(k'==NameKind.free && env.scope.kind== .function && env.kindOf n==some .cell)=true then(n,NameKind.cell) else(n,k'))::(r.map fun(n,k)=>if(k==NameKind.free && env.scope.kind== .function && env.kindOf n==some .cell) then(n,NameKind.cell) else(n,k)))=some k:=h
  by_cases hc:(k'==NameKind.free && env.scope.kind== .function && env.kindOf n==some .cell)=true
  .rw[Y9 hc,XV]at h';cases q:x==n with
   |true=>
    rw[q]at h';have e:NameKind.cell=k:=Yo h';have a:k'=NameKind.free:=by
     have:=(YF _ _▸(YF _ _▸hc).1).1;exact eq_of_beq this
    have ex:x=n:=eq_of_beq q;subst a ex;exact .inr ⟨e.symm,Yq⟩
   |false=>
    rw[q]at h';rcases ih h' with z|⟨z1,z2⟩
    .exact .inl (Ya _ z)
    .exact .inr ⟨z1,Ya _ z2⟩
  .rw[Y2 hc,XV]at h';cases q:x==n with
   |true=>
    rw[q]at h';have e:k'=k:=Yo h';have ex:x=n:=eq_of_beq q;subst e ex;exact .inl Yq
   |false=>
    rw[q]at h';rcases ih h' with z|⟨z1,z2⟩
    .exact .inl (Ya _ z)
    .exact .inr ⟨z1,Ya _ z2⟩
theorem yB{prog:VB}{w:VF}{A:VE}{R:Result->Shared->Prop}{s:VC}{elt target iter:VN}{ifs:List Expr}{scope:Scope}{pos:Pos}{it acc:VH}{env:Env}(I:Nat->Shared->Prop)
  (turn : ∀ n s, I n s -> wpAny (model prog w) A (pyNext it) (fun r s₁ => match r with
   |none=>R (.ok .next) s₁
   | some v => wpAny (model prog w) A (letOwnedTupleGo target it v) (fun _ s₀ => wpAny (model prog w) A (assign target env v) (fun _ s₂ =>
     wpAny (model prog w) A (forIn ifs true fun c r => if r = true then do let ok <- isTrue c env (eval c env); pure (ForInStep.yield ok) else pure (ForInStep.yield r)) (fun ok s₃ =>
      if ok = true then wpAny (model prog w) A (eval elt env) (fun x s₄ =>
       wpAny (model prog w) A (call (.builtin "list.append") [acc, x]) (fun _ s₅ => ∃ m, m < n /\ I m s₅) (fun _ _ => False) s₄) (fun _ _ => False) s₃
      else ∃ m, m < n /\ I m s₃) (fun _ _ => False) s₂) (fun _ _ => False) s₀) (fun _ _ => False) s₁) (fun _ _ => False) s)
  (n:Nat) (h:I n s):
  codeAny (model prog w) A (.compLoop (.ListComp elt [⟨target,iter,ifs,0⟩] scope pos) 0 it acc env) R s:=by
 refine codeAny_loop rfl I (fun n s i=>?_) n h;show wpAny _ A ((compTurn (.ListComp elt [⟨target,iter,ifs,0⟩] scope pos) 0 it acc env).onRaise (fun x=>do noteFrame x env;theTreesLotGoes x)) _ _ s;refine wpAny_noted (wpAny_noRaise ?_);rw[compTurn_list];refine Y0 (UM (Y0 (YC (turn n s i) (fun r s₁ b=>?_) fun _ _ h'=>h')));cases r with
 |none=>exact Y4 b
 |some v=>
  refine Y0 (YC b (fun _ s₀ g=>?_) fun _ _ h'=>h');refine Y0 (YC g (fun _ s₂ f=>Y0 (YC f (fun ok s₃ a=>?_) fun _ _ h'=>h')) fun _ _ h'=>h');cases ok with
  |false=>exact Y4 ⟨rfl,a⟩
  |true=>
   exact Y0 (Y0 (YC a (fun x s₄ e=>Y0 (YC e (fun _ s₅ d=>Y4 (Y4 ⟨rfl,d⟩)) fun _ _ h'=>h')) fun _ _ h'=>h'))
def WF(X:Cx)(N':List Str)(scope:Scope)(cl:List (Str×Addr))(C:VI)(s:VC)(H:Hp)(ex:List Addr):Cx:=
 {X with N:=N',s₀:=s,H₀:=H,env:=compEnvC scope cl C X.env,outer:=X.stack,ex:=ex,fn:=fun _=>false,pn:=[],xe:=fun _ _=>False}
def Ws(caps:List (Option Nat))(σ:St):St:=caps.map fun o=>o.bind fun j=>(σ[j]?).join
def Kn(N N':List Str)(scope:Scope)(caps:List (Option Nat)):Prop:=
 caps.length=N'.length/\∀ (i j:Nat) (x:Str),N'[i]?=some x->caps[i]?=some (some j)->N[j]?=some x/\(x,NameKind.free)∈scope.names/\∀k,(x,k)∈scope.names->k=NameKind.free
structure E7(X:Cx)(N':List Str)(scope:Scope)(caps:List (Option Nat)):Prop where
 kind:scope.kind= .function
 nocell:∀y∈scope.names,y.2≠ .cell
 locs:∀y∈scope.names,y.2= .local->scope.names.lookup y.1=some .local
 cap:Kn X.N N' scope caps
 vis:∀x,(x,NameKind.free)∈scope.names->X.env.kindOf x=some .cell\/X.env.kindOf x=some .free
def Hg:TT:=fun _ H Q=>Q true H
def Rv(caps:List (Option Nat))(g:TG)(tc:TT)(te:TE)(σ:St)(Q:VK)(J:It)(H1:Hp):Prop:=
 ∃W:Nat->Nat->List V->St->Hp->Prop,(∃m,W 0 m [] (Ws caps σ) H1)/\∀i m ys σ' H,W i m ys σ' H->
  (J.stop i H/\ys.length <=sizeLine/\∀p,H p=none->Q (.ref p) (upd H p (.lst ys)))\/
  (J.go i H /\ ys.length < sizeLine /\ ∃ N : List V -> St -> Hp -> Prop, (∀ ys σ H, N ys σ H -> ∃ m', m' < m /\ W (i + 1) m' ys σ H) /\ ∀ x H', J.yld i H x H' -> g x σ' H' fun σ2 H2 => tc σ2 H2 fun b H3 =>
   if b = true then te σ2 H3 fun y H4 => N (ys ++ [y]) σ2 H4 else N ys σ2 H3)
def RI(caps:List (Option Nat))(wi:TI)(g:TG)(tc:TT)(te:TE):TE:=fun σ H Q=>wi σ H fun J H1=>Rv caps g tc te σ Q J H1
def MR(X:Cx)(ifs:List Expr)(t:TT):Prop:=
 ∀ (pins:VA) (s:VC) (σ:St) (H:Hp) (Q:Bool->Hp->Prop),VV X pins σ H s->t σ H Q->
  wpAny (model X.prog X.w) X.A (forIn ifs true fun c r=>if r=true then do let ok <-isTrue c X.env (eval c X.env);pure (ForInStep.yield ok) else pure (ForInStep.yield r)) (TP X pins σ Q) X.xe s
theorem D5{X:Cx}:MR X [] Hg:=fun _ _ _ H _ I h=>wpAny_tests_nil ⟨H,I,h⟩
theorem As{X:Cx}{c:VN}{t:TT}(h:PT X c t):MR X [c] t:=fun pins s σ H Q I q=>wpAny_tests_one (h pins s σ H Q I q)
section
variable{X:Cx}{elt tg iter:VN}{ifs:List Expr}{scope:Scope}{pos:Pos}{N':List Str}{caps:List (Option Nat)}{wi:TI}{g:TG}{tc:TT}{te:TE}
def NO(its:VL)(n:Nat):Obj:={cls:=.type "list",data:=.seq its.toArray n}
theorem KM{pins:VA}{s2:VC}{σ:St}{H2:Hp}{J:It}{it:VI}{fp:List Addr}{tn:Nat->Heap->Prop}{cl:List (Str×Addr)}{Q:VK}{RR:Value->Addr->Result->Shared->Prop}
  (S:E7 X N' scope caps) (hc:X.calm=true)
  (hcl1:∀x c,cl.lookup x=some c->X.env.cells.lookup x=some c) (hcl2:∀x,(x,NameKind.free)∈scope.names->∃c,cl.lookup x=some c)
  (hg:∀cl C s H ex,PG (WF X N' scope cl C s H ex) tg g) (ht:∀C,MR (WF X N' scope cl C s2 H2 fp) ifs tc) (he:∀C,PE (WF X N' scope cl C s2 H2 fp) elt te)
  (I:VV X pins σ H2 s2) (T:GU X.prog X.w X.K tg J fp it tn) (st:tn 0 s2.heap) (f2:∀b∈fp,NP X pins H2 b)
  (W:Nat->Nat->List V->St->Hp->Prop) (w0:∃m,W 0 m [] (Ws caps σ) H2)
  (turn : ∀ i m ys σ' H, W i m ys σ' H -> (J.stop i H /\ ys.length <= sizeLine /\ ∀ p, H p = none -> Q (.ref p) (upd H p (.lst ys))) \/
   (J.go i H /\ ys.length < sizeLine /\ ∃ N : List V -> St -> Hp -> Prop, (∀ ys σ H, N ys σ H -> ∃ m', m' < m /\ W (i + 1) m' ys σ H) /\ ∀ x H', J.yld i H x H' -> g x σ' H' fun σ2 H2 => tc σ2 H2 fun b H3 =>
    if b = true then te σ2 H3 fun y H4 => N (ys ++ [y]) σ2 H4 else N ys σ2 H3))
  (hRR : ∀ D C oC m s' H', VV X (pins ++ [(C, oC)]) σ H' s' -> s'.heap.Ns C m -> Q (.ref D) H' -> X.s₀.heap.objs.size <= C -> (∀ x c, X.env.cells.lookup x = some c -> c ≠ C) -> (∀ p ∈ X.pn ++ pins, p.1 ≠ C) -> s'.heap.get? C = some oC ->
   RR (.ref D) C (.ok .next) s') {E : Value -> Shared -> Prop} :
  wpAny (model X.prog X.w) X.A (newList []) (fun acc s₃ => wpAny (model X.prog X.w) X.A (newFunctionEnv scope X.env.globals cl [] X.env.qual none .none (some X.env)) (fun cenv s₄ =>
   codeAny (model X.prog X.w) X.A (.compStart (.ListComp elt [⟨tg, iter, ifs, 0⟩] scope pos) 0 (.ref it) acc { cenv with scope := relabel scope X.env }) (RR acc cenv.locals) s₄) E s₃) E s2 := by
 refine XJ (Uy S.nocell (by intro y hy;simp at hy) (fun h₁ hns₁ hsb₁=>?_) S.kind);dsimp only at hns₁ hsb₁ ⊢;generalize hH2:s2.heap.push {cls:=.type "list",dict:=none,data:=.seq ([]:VL).toArray}=HP at hns₁ hsb₁ ⊢;have hC:HP.objs.size=s2.heap.objs.size+ 1:=by rw[<-hH2,Xx]
 generalize hCC:HP.objs.size=C at hns₁ hsb₁ hC ⊢;have hDC:s2.heap.objs.size≠C:=by rw[hC];exact Yi (Xy _)
 have aa:∀b,b < s2.heap.objs.size->b≠C:=fun b f=>by rw[hC];exact Yi (Xf f)
 have old:∀b o,s2.heap.get? b=some o->h₁.get? b=some o:=fun b o e=>hsb₁.extBut b o (aa b (Y8 e)) (Y3 _ (hH2▸Y3 _ e))
 have hacc:h₁.get? s2.heap.objs.size=some (NO [] 0):=hsb₁.extBut _ _ hDC (Y3 _ (hH2▸Yj _ rfl));have fpLt:∀b∈fp,b < s2.heap.objs.size:=fun b f=>by obtain⟨o,e,_⟩:=T.obj _ _ st b f;exact Y8 e
 have st₁:tn 0 h₁:=T.keep _ _ _ st fun b _ o e=>old b o e
 have sz:X.s₀.heap.objs.size <=s2.heap.objs.size:=I.sz;have cellLt:∀x c,X.env.cells.lookup x=some c->c < s2.heap.objs.size:=fun x c e=>by obtain⟨v,q⟩:=I.cell x c e;exact q.lt
 have okX:(WF X N' scope cl C s2 H2 fp).Ok:=by
  refine ⟨I.ok.mod, S.kind, I.ok.glob, I.ok.blt, by show s2.heap.objs.size <= C; rw [hC]; exact X9 _, fun x y c a b => I.ok.inj x y c (hcl1 x c a) (hcl1 y c b), fun x hx => ?_, (fun x c z => by cases z), I.ok.hd, I.ok.frames, .inl rfl,
   fun b f => ⟨aa b (fpLt b f), fun x c e => (f2 b f).2.2.2.2.1 x c (hcl1 x c e)⟩, I.bs, Yu I.ok.bsz sz, fun b o e f => ?_, fun b f z => ?_, I.stack, I.stkFree⟩
  .have key:∀k,(k=NameKind.cell\/k=NameKind.free)->(relabel scope X.env).names.lookup x=some k->∃c,cl.lookup x=some c:=fun k hk hx=>by
    rcases Hl hx with z|⟨_,z⟩
    .rcases hk with rfl|rfl
     .exact absurd rfl (S.nocell _ z)
     .exact hcl2 x z
    .exact hcl2 x z
   rcases hx with hx|hx
   .exact key _ (.inl rfl) hx
   .exact key _ (.inr rfl) hx
  .rcases(f2 b f).2.2.2.1 with z|z
   .exact I.ok.noex b o e z
   .exact absurd (Ym (Y8 (I.ok.bs b o e).1) z) (YM _)
  .rcases Y6.mp (I.stkSub b z) with y|y
   .exact(f2 b f).2.1 y
   .exact(f2 b f).2.2.1 y
 have freshC:∀b,s2.heap.objs.size <=b->H2 b=none:=fun b f=>I.hok.fresh f
 have capI:VV (WF X N' scope cl C s2 H2 fp) [(s2.heap.objs.size,NO [] 0)] (Ws caps σ) H2 {s2 with heap:=h₁,toks:=s2.toks+ ([]:List (Str×Value)).length}:=by
  refine⟨okX,rfl,I.bare,Un.kept old,⟨_,hns₁,fun i x v e1 e2 e3=>?_⟩,fun x c e=>?_,freshC C (by rw[hC];exact X9 _),fun x c e=>I.freeC x c (hcl1 x c e),fun p hp=>?_,I.hok.kept old,?_⟩
  .have e2':(caps[i]?).map (fun o=>o.bind fun j=>(σ[j]?).join)=some (some v):=by
    unfold Ws at e2;rw[Yk]at e2;exact e2
   cases q:caps[i]? with
   |none=>rw[q]at e2';cases e2'
   |some o=>
    rw[q]at e2';cases o with
    |none=>cases e2'
    |some j=>
     have hv:(σ[j]?).join=some v:=Yo e2';obtain⟨hN,hfr,honly⟩:=S.cap.2 i j x e1 q;have hσ:σ[j]?=some (some v):=by
      cases r:σ[j]? with
      |none=>rw[r]at hv;cases hv
      |some o=>rw[r]at hv;rw[<-hv];rfl
     obtain⟨m,hn,hl⟩:=I.loc;have hkx:=S.vis x hfr;obtain⟨u,ru,lk⟩:=hl j x v hN hσ (by rcases hkx with z|z;exact .inr (.inl z);exact .inr (.inr z));refine⟨u,ru,.inr ?_⟩;obtain⟨c,hc'⟩:=hcl2 x hfr;have hcx:=hcl1 x c hc';rcases lk with⟨z,_⟩|⟨_,c',hc2,hcell⟩
     .rcases hkx with y|y <;> rw[y]at z <;> cases z
     .rw[hcx]at hc2;cases hc2;have hcell':h₁.IsCell c (some u):=by
       obtain⟨oc,q1,q2⟩:=hcell;exact⟨oc,old c oc q1,q2⟩
      refine⟨?_,c,hc',hcell'⟩;rcases e3 with z|z|z
      .rcases Hl z with y|⟨y,_⟩
       .have:=honly _ y;cases this
       .cases y
      .exact .inl z
      .exact .inr z
  .obtain⟨v,oc,q1,q2⟩:=I.cell x c (hcl1 x c e);exact⟨v,oc,old c oc q1,q2⟩
  .have e:p=(s2.heap.objs.size,NO [] 0):=by simpa[WF] using hp
   subst e;refine ⟨hacc, freshC _ (Y1 _), hDC, fun z => ?_, fun v z => by cases z⟩;exact absurd (show s2.heap.objs.size < s2.heap.objs.size from by
    rcases Y6.mp (I.stkSub _ z) with y|y
    .exact absurd (I.lt) (by rw[<-y];exact YM _)
    .exact absurd y (I.nofs (Y1 _))) (YM _)
  .unfold Ws;rw[List.length_map];exact S.cap.1
 generalize hX':WF X N' scope cl C s2 H2 fp=X' at okX capI;have ePr:X'.prog=X.prog:=by rw[<-hX'];rfl
 have eW:X'.w=X.w:=by rw[<-hX'];rfl
 have eK:X'.K=X.K:=by rw[<-hX'];rfl
 have eA:X'.A=X.A:=by rw[<-hX'];rfl
 have eEnv:X'.env=compEnvC scope cl C X.env:=by rw[<-hX'];rfl
 have eXe:X'.xe=fun _ _=>False:=by rw[<-hX'];rfl
 have eCalm:X'.calm=true:=by rw[<-hX'];exact hc
 have eLoc:X'.env.locals=C:=by rw[eEnv];rfl
 have eS0:X'.s₀=s2:=by rw[<-hX'];rfl
 have eEx:X'.ex=fp:=by rw[<-hX'];rfl
 have eFs:X'.fs=JM X.stack:=by rw[<-hX'];rfl
 have eCells:X'.env.cells=cl:=by rw[eEnv];rfl
 have ePn:X'.pn=[]:=by rw[<-hX'];rfl
 have eH0:X'.H₀=H2:=by rw[<-hX'];rfl
 have hgX:PG X' tg g:=hX'▸hg cl C s2 H2 fp;have htX:MR X' ifs tc:=hX'▸ht C;have heX:PE X' elt te:=hX'▸he C;obtain⟨m0,w0⟩:=w0;have nDfs:s2.heap.objs.size∉X'.fs:=fun z=>by
  rw[eFs]at z;rcases Y6.mp (I.stkSub _ z) with y|y
  .exact absurd (I.lt) (by rw[<-y];exact YM _)
  .exact absurd y (I.nofs (Y1 _))
 have fpX:∀{H':Hp} {its:VL} {n:Nat},(∀b∈fp,H' b=none)->∀b∈fp,NP X' [(s2.heap.objs.size,NO its n)] H' b:=fun {H' its n} hn b f=>by
  refine⟨hn b f,by rw[eLoc];exact aa b (fpLt b f),fun z=>?_,.inl (by rw[eEx];exact f),fun x c e=>?_,fun p hp z=>?_⟩
  .rw[eFs]at z;rcases Y6.mp (I.stkSub b z) with y|y
   .exact(f2 b f).2.1 y
   .exact(f2 b f).2.2.1 y
  .rw[eCells]at e;exact(f2 b f).2.2.2.2.1 x c (hcl1 x c e)
  .rw[ePn]at hp;have e:p=(s2.heap.objs.size,NO its n):=by simpa using hp
   subst e;exact absurd (fpLt b f) (by rw[<-z];exact YM _)
 have loop:∀s₃:Shared,s₃={s2 with heap:=h₁,toks:=s2.toks+ ([]:List (Str×Value)).length}->
   codeAny (model X.prog X.w) X.A (.compLoop (.ListComp elt [⟨tg,iter,ifs,0⟩] scope pos) 0 (.ref it) (.ref s2.heap.objs.size) (compEnvC scope cl C X.env)) (RR (.ref s2.heap.objs.size) C) s₃:=by
  rintro s₃ rfl;rw[<-eEnv,<-eA];refine yB (fun n s'=>∃i ys its k σ' H',VV X' [(s2.heap.objs.size,NO its k)] σ' H' s'/\tn i s'.heap/\(∀b∈fp,H' b=none)/\W2 ys its/\W i n ys σ' H') ?_ m0
   ⟨0,[],[],0,Ws caps σ,H2,capI,st₁,fun b f=>(f2 b f).1,.nil,w0⟩
  intro n s' Zq;obtain⟨i,ys,its,k,σ',H',I',st',fr',rv',w'⟩:=Zq;rcases turn i n ys σ' H' w' with⟨stop,hsz,q⟩|⟨go,hsz,NN,hNN,step⟩
  .refine Wj (T.done X' ePr eW eK eCalm i _ s' σ' H' (fun _ _=>False) I' (fpX fr') st' stop) fun r s4 ⟨hr,I4⟩=>?_
   subst hr;have pinD:=(I4.pin (s2.heap.objs.size,NO its k) (by rw[ePn];simp)).1;have freeD:=(I4.pin (s2.heap.objs.size,NO its k) (by rw[ePn];simp)).2.1;have hq:=q s2.heap.objs.size freeD;obtain⟨mC,hnC,_⟩:=id I4.loc;rw[eLoc]at hnC;obtain⟨oC,es,ep,hoC,hdC,_⟩:=id hnC;have freeC':H' C=none:=by have:=I4.free;rw[eLoc]at this;exact this
   have l:=I4.base;rw[eS0,eEx,eFs,eH0]at l;have neD:∀b o,s2.heap.get? b=some o->b≠s2.heap.objs.size:=fun b o e=>Yi (Y8 e)
   have neDH:∀b o,H2 b=some o->b≠s2.heap.objs.size:=fun b o e=>Yi (I.hok.lt e)
   have un4:Un (JM X.stack) fp H2 (upd H' s2.heap.objs.size (.lst ys)) s2.heap s4.heap:=
    ⟨l.keep, l.slot, fun b o e n hx => by rw [Wh (neD b o e)]; exact l.free b o e n hx, l.there, fun b xs e => by rw [Wh (neDH b _ e)]; exact l.tups b xs e,
     fun b o u e => by rw [Wh (neDH b _ e)]; exact l.frzs b o u e, fun b ps e => by rw [Wh (neDH b _ e)]; exact l.tbls b ps e⟩
   have hok4:JU X.prog X.w (upd H' s2.heap.objs.size (.lst ys)) s4.heap:=by
    have h4:=I4.hok;rw[ePr,eW]at h4;intro b u e
    by_cases f:b=s2.heap.objs.size
    .subst f;rw[WU]at e;cases e;exact⟨hsz,its,k,rv',pinD⟩
    .rw[Wh f]at e;refine(h4 b u e).stay (fun c v _ z=>z) (fun c z=>?_) (fun c xs z=>?_)
     .rw[Wh];exact z;intro zz;rw[zz,freeD]at z;cases z
     .rw[Wh];exact z;intro zz;rw[zz,freeD]at z;cases z
   have os4:s4.os=s2.os:=by have:=I4.os;rw[eS0]at this;exact this
   have J4:VV X pins σ (upd H' s2.heap.objs.size (.lst ys)) s4:=I.call' (ch:=fp) os4 un4 hok4 I4.bare fun b f=>⟨(f2 b f).2.2.2.1,(f2 b f).2.1,(f2 b f).2.2.2.2.1,(f2 b f).2.2.2.2.2⟩
   have hCle:X.s₀.heap.objs.size <=C:=by rw[hC];exact Nat.le_succ_of_le sz
   have hCcell:∀x c,X.env.cells.lookup x=some c->c≠C:=fun x c e=>aa c (cellLt x c e)
   have hCpin:∀p∈X.pn++pins,p.1≠C:=fun p hp=>aa p.1 (Y8 (I.pin p hp).1)
   have hCl:C≠X.env.locals:=fun z=>absurd I.lt (by rw[<-z,hC];exact Nat.not_lt.mpr (X9 _))
   refine hRR s2.heap.objs.size C oC mC s4 _ (J4.pins_of fun p hp=>?_) hnC hq hCle hCcell hCpin hoC;rcases YG.mp hp with z|z
   .exact J4.pin p (Yr _ z)
   .have e:p=(C,oC):=by simpa using z
    subst e;refine⟨hoC,by rw[Wh (Ne.symm hDC)];exact freeC',hCl,fun z=>?_,fun v z=>by rw[hdC]at z;cases z⟩;exact I.nofs (by rw[hC];exact X9 _) z
  .refine Wj (T.item X' ePr eW eK eCalm i _ s' σ' H' (fun _ _=>False) I' (fpX fr') st' go) fun r s4 ⟨u,hr,h4⟩=>?_
   subst hr;refine Wj h4 fun _ s5 zz=>?_;rcases zz with⟨x,H5,I5,r5,y5,st5,fr5⟩
   have I5':=I5.pinned (fpX fr5) (T.obj _ _ st5);have xeF:∀{α:Type} {t:Sem α} {Q:α->Shared->Prop} {s:VC},wpAny (model X.prog X.w) X'.A t Q X'.xe s->wpAny (model X.prog X.w) X'.A t Q (fun _ _=>False) s:=fun h=>by rw[eXe]at h;exact h
   have ag:=hgX _ s5 σ' H5 x u _ I5' r5 (step x H5 y5);rw[ePr,eW]at ag;refine Wj (xeF ag) fun _ s6 zz=>?_;rcases zz with⟨σ6,H6,I6,q6⟩
   have at':=htX _ s6 σ6 H6 _ I6 q6;rw[ePr,eW]at at';refine Wj (xeF at') fun b s7 ⟨H7,I7,q7⟩=>?_
   -- what the pins say behind the turn
   have back:∀{s8:VC} {H8:Hp},VV X' ([(s2.heap.objs.size,NO its k)]++Bz fp s5.heap) σ6 H8 s8->tn (i+ 1) s8.heap/\(∀b∈fp,H8 b=none)/\VV X' [(s2.heap.objs.size,NO its k)] σ6 H8 s8:=fun {s8 H8} I8=>by
    refine⟨T.keep _ _ _ st5 fun b f o e=>(I8.pin (b,o) (Yr _ (Yr _ (CN f e)))).1,fun b f=>?_,I8.unpinned⟩;obtain⟨o,e,d⟩:=T.obj _ _ st5 b f;exact(I8.pin (b,o) (Yr _ (Yr _ (CN f e)))).2.1
   cases b with
   |false=>
    simp only[Bool.false_eq_true,if_false]at q7 ⊢;obtain⟨m',hm,w7⟩:=hNN _ _ _ q7;obtain⟨t7,f7,I7'⟩:=back I7;exact⟨m',hm,i+ 1,ys,its,k,σ6,H7,I7',t7,f7,rv',w7⟩
   |true=>
    simp only[if_true]at q7 ⊢;have ae:=heX _ s7 σ6 H7 _ I7 q7;rw[ePr,eW]at ae;refine Wj (xeF ae) fun y s8 zz=>?_;rcases zz with⟨yv,H8,I8,r8,n8⟩
    obtain⟨m',hm,w8⟩:=hNN _ _ _ n8;obtain⟨t8,f8,I8'⟩:=back I8;have pinD:=I8'.pin (s2.heap.objs.size,NO its k) (by rw[ePn];simp);have hlen:=rv'.length;refine append_at (its:=its.toArray) (n:=k) (hsz:=by rw[Yb,<-hlen];exact X5 hsz) pinD.1 fun h9 hs9 hD9=>?_
    have I9:VV X' [] σ6 H8 {s8 with heap:=h9,toks:=s8.toks}:=by
     refine(I8'.pins_of (pins':=[]) fun p hp=>by simp at hp).turned (it:=s2.heap.objs.size) (fun b o f e=>(hs9.2 b f).trans e) pinD.2.1 (by rw[eLoc];exact hDC) (.inr (by rw[eS0];exact Y1 _)) (fun x c e=>?_) fun p hp=>?_
     .rw[eCells]at e;exact Yi (cellLt x c (hcl1 x c e))
     .rw[ePn]at hp;simp at hp
    have ePush:({cls:=.type "list",data:=.seq (its.toArray.push y) (k+ 1)}:Obj)=NO (its++[y]) (k+ 1):=by unfold NO;rw[List.push_toArray]
    rw[ePush]at hD9;refine⟨m',hm,i+ 1,ys++[yv],its++[y],k+ 1,σ6,H8,?_,T.keep _ _ _ t8 fun b f o e=>(hs9.2 b (Yi (fpLt b f))).trans e,f8,rv'.append (.cons r8 .nil),w8⟩;refine I9.pins_of fun p hp=>?_
    have e:p=(s2.heap.objs.size,NO (its++[y]) (k+ 1)):=by simpa using hp
    subst e;exact⟨hD9,pinD.2.1,by rw[eLoc];exact hDC,nDfs,fun v z=>by cases z⟩
 exact codeAny_compStart_list (loop _ rfl) (T.self _ 0 _ _ _ st₁ (loop _ rfl))
theorem VV.cellsOf{pins:VA}{σ:St}{H:Hp}{s:VC}(I:VV X pins σ H s)(S:E7 X N' scope caps):∀x,(x,NameKind.free)∈scope.names->∃c,X.env.cells.lookup x=some c:=
 fun x a=>I.ok.has x (S.vis x a)
theorem DL(S:E7 X N' scope caps)(hc:X.calm=true)(hi:PI X tg iter wi)
  (hg:∀cl C s H ex,PG (WF X N' scope cl C s H ex) tg g) (ht:∀cl C s H ex,MR (WF X N' scope cl C s H ex) ifs tc) (he:∀cl C s H ex,PE (WF X N' scope cl C s H ex) elt te)
  (hs:∀x,foldedSetIterable iter X.env x=pure x:=by intro _;rfl):PE X (.ListComp elt [⟨tg,iter,ifs,0⟩] scope pos) (RI caps wi g tc te):=by
 intro pins s σ H Q I h;obtain⟨cl,r,i,f⟩:=Ax (I.cellsOf S);rw[eval_ListComp];refine U7 (use:=none) rfl hs r S.kind S.locs (Wj (hi pins s σ H _ I h) fun v s1 h1=>Wj h1 fun itv s2 h2=>?_);obtain⟨it,fp,tn,J,H2,e,I2,T,l,f2,W,u,c⟩:=h2;subst e;refine KM S hc i f hg (fun C=>ht _ C _ _ _) (fun C=>he _ C _ _ _) I2 T l f2 W u c fun D C w m s' H' j z q hC a d hoC=>?_
 refine⟨m,z,fun h' hs'=>⟨.ref D,H',?_,rfl,q⟩⟩;have n:=j.pin (C,w) (Yr _ (Yr _ (by simp)));exact(j.pins_of (pins':=pins) fun p y=>j.pin p (Yr _ (Xu _ y))).turned (t':=s'.toks) (it:=C) (fun b o hb e=>(hs'.2 b hb).trans e) n.2.1 n.2.2.1 (.inr hC) a d
theorem AA{i:Nat}{x:Str}{pos' spos:Pos}(S:E7 X N' scope caps)(hc:X.calm=true)(hN:X.N.Nodup)(hix:X.N[i]?=some x)(hx:Rq X.env.scope x)(hi:PI X tg iter wi)
  (hg:∀cl C s H ex,PG (WF X N' scope cl C s H ex) tg g) (ht:∀cl C s H ex,MR (WF X N' scope cl C s H ex) ifs tc) (he:∀cl C s H ex,PE (WF X N' scope cl C s H ex) elt te)
  (hsw:swapsWith (.ListComp elt [⟨tg,iter,ifs,0⟩] scope pos) (some (.Name x pos')) spos.line X.env=pure true)
  (hf:X.fn x=true\/X.env.scope.names.lookup x=some .local:=by first|exact .inl rfl|exact .inr rfl|assumption)
  (hs:∀x,foldedSetIterable iter X.env x=pure x:=by intro _;rfl):PS X (.Assign [.Name x pos'] (.ListComp elt [⟨tg,iter,ifs,0⟩] scope pos) spos) (Rz (RI caps wi g tc te) (GJ i)):=by
 intro pins s σ H D I h;obtain ⟨cl, ecl, u, n⟩ := Ax (I.cellsOf S);rw [exec_Assign_Name_used _ _ _ _ hsw];refine Y0 (UM (Y0 ?_));show wpAny _ X.A (do let _ <- comprehension (.ListComp elt [⟨tg, iter, ifs, 0⟩] scope pos) scope X.env _ (newList []) false (eval iter X.env) (some (assign (.Name x pos') X.env))) _ _ s;refine Y0 (YC (U7 (use := some (assign (.Name x pos') X.env)) (Q := fun _ s' => SP X pins D .next s') rfl hs ecl S.kind S.locs
  (Wj (hi pins s σ H _ I h) fun v s1 h1 => Wj h1 fun itv s2 h2 => ?_)) (fun _ s' hq => Y4 (Y4 hq)) fun _ _ e => e)
 obtain⟨it,fp,tn,J,H2,e,I2,T,y,f2,W,w0,f⟩:=h2;subst e;refine KM (Q:=fun x H1=>GJ i x σ H1 D.nx) S hc u n hg (fun C=>ht _ C _ _ _) (fun C=>he _ C _ _ _) I2 T y f2 W w0 f fun w C z m s' H' I' hn q hC c l aa=>?_
 show wpAny _ X.A (assign (.Name x pos') X.env (.ref w)) _ _ _;refine wpAny_assign_Name (A6 I' hN hix hx (v:=.ref w) rfl (fun d a=>?_) hf);have j:=a.pin (C,z) (Yr _ (Yr _ (by simp)));have hn':d.heap.Ns C m:=by
  obtain⟨o,es,ep,ho,r⟩:=hn;rw[aa]at ho;cases ho;exact⟨z,es,ep,j.1,r⟩
 refine⟨m,hn',fun h' hs'=>⟨σ.set i (some (.ref w)),H',?_,q⟩⟩;exact(a.pins_of (pins':=pins) fun p hp=>a.pin p (Yr _ (Xu _ hp))).turned (t':=d.toks) (it:=C) (fun b o hb e=>(hs'.2 b hb).trans e) j.2.1 j.2.2.1 (.inr hC) c l
theorem QG{K:VG}{a:VI}{xs:List V}{σ:St}{H1:Hp}{Q:VK}(Pv:Nat->List V->St->Hp->Prop)(h0:Pv 0 [] (Ws caps σ) H1)(hl:∀i ys σ H,Pv i ys σ H->i <=xs.length->VZ K H a xs/\ys.length <=i)(hz:xs.length <=sizeLine)
  (hs:∀i x ys σ H,xs[i]?=some x->Pv i ys σ H->g x σ H fun σ2 H2=>tc σ2 H2 fun b H3=>if b=true then te σ2 H3 fun y H4=>Pv (i+ 1) (ys++[y]) σ2 H4 else Pv (i+ 1) ys σ2 H3)
  (hd:∀ys σ H,Pv xs.length ys σ H->∀p,H p=none->Q (.ref p) (upd H p (.lst ys))):
  Rv caps g tc te σ Q (GH K a) H1:=by
 refine⟨fun i m ys σ H=>m=xs.length - i/\i <=xs.length/\Pv i ys σ H,⟨xs.length,by simp,Yh _,h0⟩,?_⟩;intro i m ys σ H Zq;obtain⟨rfl,hi,p⟩:=Zq;obtain⟨q,f⟩:=hl i ys σ H p hi
 by_cases hlt:i < xs.length
 .refine .inr ⟨⟨xs,xs[i],q,by simp[hlt]⟩,by lia,Pv (i+ 1),fun d σ' H' c=>⟨xs.length - (i+ 1),by lia,rfl,hlt,c⟩,fun x H' y=>?_⟩;obtain⟨e,y⟩:=y;subst e;exact hs i x ys σ _ (y xs q) p
 .have e:i=xs.length:=by lia
  subst e;exact .inl ⟨⟨xs,q,Y1 _⟩,by lia,hd ys σ H p⟩
theorem wP{lo:Int}{n:Nat}{σ:St}{H1:Hp}{Q:VK}(Pv:Nat->List V->St->Hp->Prop)(h0:Pv 0 [] (Ws caps σ) H1)(hl:∀i ys σ H,Pv i ys σ H->i <=n->ys.length <=i)(hz:n <=sizeLine)
  (hs:∀i ys σ H,i < n->Pv i ys σ H->g (.int (lo+ i)) σ H fun σ2 H2=>tc σ2 H2 fun b H3=>if b=true then te σ2 H3 fun y H4=>Pv (i+ 1) (ys++[y]) σ2 H4 else Pv (i+ 1) ys σ2 H3)
  (hd:∀ys σ H,Pv n ys σ H->∀p,H p=none->Q (.ref p) (upd H p (.lst ys))):
  Rv caps g tc te σ Q (EN lo n) H1:=by
 refine⟨fun i m ys σ H=>m=n - i/\i <=n/\Pv i ys σ H,⟨n,by simp,Yh _,h0⟩,?_⟩;intro i m ys σ H Zq;obtain⟨rfl,hi,p⟩:=Zq;have d:=hl i ys σ H p hi
 by_cases hlt:i < n
 .refine .inr ⟨hlt,by lia,Pv (i+ 1),fun c σ' H' a=>⟨n - (i+ 1),by lia,rfl,hlt,a⟩,fun x H' y=>?_⟩;obtain⟨e,y⟩:=y;subst e y;exact hs i ys σ _ hlt p
 .have e:i=n:=by lia
  subst e;exact .inl ⟨Y1 _,by lia,hd ys σ H p⟩
end
mutual
inductive Dp(K:VG)(H:Hp):V->PyData->Prop
 |non:Dp K H .non .none
 |bl (b:Bool):Dp K H (.bl b) (.bool b)
 |int (i:Int):Dp K H (.int i) (.int i)
 |str (x:Str):Dp K H (.str x) (.str x)
 |lst {a:VI} {xs:List V} {ds:List PyData}:VZ K H a xs->Nb K H xs ds->Dp K H (.ref a) (.list ds)
 |tup {a:VI} {xs:List V} {ds:List PyData}:JN K H a xs->Nb K H xs ds->Dp K H (.ref a) (.tuple ds)
inductive Nb(K:VG)(H:Hp):List V->List PyData->Prop
 |nil:Nb K H [] []
 |cons {x:V} {xs:List V} {d:PyData} {ds:List PyData}:Dp K H x d->Nb K H xs ds->Nb K H (x::xs) (d::ds)
end
theorem Nb.ints{K:VG}{H:Hp}:∀ns:List Int,Nb K H (ns.map V.int) (ns.map PyData.int)
 |[]=>.nil
 |_::r=>.cons (.int _) (Nb.ints r)
section
variable{X:Cx}{pins:VA}{σ:St}{H:Hp}{s:VC}
mutual
theorem VV.reads(I:VV X pins σ H s):∀{x:V} {d:PyData} {u:VH},Dp X.K H x d->W9 x u->∃as,Reads s.heap u d as
 |_,_,u,.non,r=>by cases (show u=Value.none from r);exact⟨_,.none⟩
 |_,_,u,.bl b,r=>by cases (show u=Value.bool b from r);exact⟨_,.bool b⟩
 |_,_,u,.int i,r=>by obtain⟨t,rfl⟩:=(show ∃t,u=Value.int i t from r);exact⟨_,.int i t⟩
 |_,_,u,.str x,r=>by obtain⟨t,rfl⟩:=(show ∃t,u=Value.str x t from r);exact⟨_,.str x t⟩
 |_,_,u,.lst (a:=a) hl hd,r=>by
  cases (show u=Value.ref a from r);obtain⟨j,f,⟨o,n,e,h,_,c⟩,l⟩:=I.list hl;obtain⟨as,g⟩:=VV.readsAll I hd f;exact⟨_,.list e h c (by simpa using g)⟩
 |_,_,u,.tup (a:=a) hl hd,r=>by
  cases (show u=Value.ref a from r);obtain⟨j,f,⟨o,e,h,n,c⟩,l⟩:=I.tuple hl;obtain⟨as,g⟩:=VV.readsAll I hd f;exact⟨_,.tuple e h c (by simpa using g)⟩
theorem VV.readsAll(I:VV X pins σ H s):∀{xs:List V} {ds:List PyData} {us:VL},Nb X.K H xs ds->W2 xs us->∃as,ReadsAll s.heap us ds as
 |_,_,_,.nil,r=>by cases r;exact⟨_,.nil⟩
 |_,_,_,.cons h t,r=>by
  cases r with
  |cons r1 r2=>
   obtain⟨as,ra⟩:=VV.reads I h r1;obtain⟨bs,a⟩:=VV.readsAll I t r2;exact⟨_,.cons ra a⟩
end
end
def PZ(K:VG):R2:=fun x y H Q=>∃d e,Dp K H x d/\Dp K H y e/\SeqAt.shaped d=true/\SeqAt.shaped e=true/\Q (.bl (PyData.eqv d e)) H
def Pg(K:VG):R2:=fun x y H Q=>∃d e,Dp K H x d/\Dp K H y e/\SeqAt.shaped d=true/\SeqAt.shaped e=true/\Q (.bl (!PyData.eqv d e)) H
section
variable{X:Cx}
theorem nB(hu:X.A.units+ 64 < cLine):Ja X (compareOp .Eq) (PZ X.K):=by
 intro pins s σ H x y v u Q I b a h;obtain⟨d,e,h1,h2,s1,s2,q⟩:=h;obtain⟨g,f⟩:=I.reads h1 b;obtain⟨bs,c⟩:=I.reads h2 a;exact eq_dataH f c s1 s2 hu (N9 I q rfl)
theorem jI(hu:X.A.units+ 64 < cLine):Ja X (compareOp .NotEq) (Pg X.K):=by
 intro pins s σ H x y v u Q I b a h;obtain⟨d,e,h1,h2,s1,s2,q⟩:=h;obtain⟨g,f⟩:=I.reads h1 b;obtain⟨bs,c⟩:=I.reads h2 a;exact ne_dataH f c s1 s2 hu (N9 I q rfl)
def K6:R2:=fun x y H Q=>∃i j,x= .str i/\y= .str j/\Q (.bl (!decide (j.cps.toList < i.cps.toList))) H
theorem Oe:Ja X (compareOp .LtE) K6:=by
 intro pins s σ H x y v u Q I b a h;obtain⟨i,j,rfl,rfl,q⟩:=h;obtain⟨t,rfl⟩:=b;obtain⟨c,rfl⟩:=a;exact PySem.P.le_str (N9 I q rfl)
theorem dH(hc:X.calm=true):Wr X (.builtin "all") (fun xs H Q=>∃ (p:VI) (bs:List Bool),xs=[.ref p]/\VZ X.K H p (bs.map V.bl)/\Q (.bl (bs.all id)) H):=by
 intro pins s σ H xs us Q I r h;obtain⟨p,bs,rfl,hq,q⟩:=h;obtain⟨u,rfl,z⟩:=DO r;cases z;obtain⟨a,l,pl,hz⟩:=I.list hq;have hh:X.A.in1.handled=none:=I.ok.hd hc;have g:=pl.isList;have w:p < s.heap.objs.size:=by obtain⟨_,e,_⟩:=g;exact Y8 e
 have f:bs.length=a.length:=by have:=l.length;simpa using this
 refine call_all_walk (Xr g ⟨s.heap.objs.size,_,_,_,_,_,fun i=>bs.getD i false,rfl,Walks.list hh s.heap.objs.size p (Yi w) a.toArray,⟨⟨_,Yj _ rfl,rfl,rfl⟩,g.push _⟩,?_,?_⟩)
 .intro i v s' Q' E' hv j;have c:a[i]?=some v:=by simpa using hv
  cases e:bs[i]? with
  |none=>
   have:a[i]?=none:=by
    rw[UU]at e ⊢;lia
   rw[this]at c;cases c
  |some b=>
   obtain⟨u,n,ru⟩:=l.get (i:=i) (x:=V.bl b) (by rw[Yk,e];rfl);rw[c]at n;cases n;cases (show v=Value.bool b from ru);have:bs.getD i false=b:=by simp[List.getD,e]
   dsimp only at j;rw[this]at j;exact YV j
 .intro h' tk hk;have e:(List.range a.toArray.size).all (fun i=>bs.getD i false)=bs.all id:=by
   rw[Yb,<-f,Xa,YK,YK];constructor
   .intro h x hx;obtain⟨i,hi,rfl⟩:=Vo.mp hx;have:=h i (UE.mpr hi);simpa[List.getD,hi] using this
   .intro h i hi;have d:=UE.mp hi;have:=h bs[i] (V1 d);simpa[List.getD,d] using this
  rw[e];exact⟨.bl (bs.all id),H,I.kept (t':=tk) fun b o y=>hk b o (by simpa using Yi (Y8 y)) (Y3 _ y),rfl,q⟩
def AY:V->Value
 | .ty n=>.type n
 | .ref a=>.ref a
 |_=>.none
def Op:V->Bool
 | .ty _=>true
 | .ref _=>true
 |_=>false
def OG(K:VG):List V->Hp->VK->Prop:=fun xs H Q=>∃x c t b,xs=[x,c]/\JW K H x t/\Op c=true/\W.kitOne K t (AY c)=some b/\Q (.bl b) H
theorem AQ:Wr X (.builtin "isinstance") (OG X.K):=by
 intro pins s σ H xs j Q I r h;obtain⟨x,c,t,b,rfl,ty,i,e,q⟩:=h;obtain⟨u,a,rfl,d,f⟩:=AU r;have g:a=AY c:=by cases c <;> first|exact f|cases i
 subst g;exact OC I d ty e fun tk=>⟨.bl b,H,I.tok tk,rfl,q⟩
def Hj(x:Str):It:=⟨fun i _=>i < x.cps.size,fun i H v H'=>H'=H/\∃c,x.cps[i]?=some c/\v= .str ⟨#[c]⟩,fun i _=>i=x.cps.size⟩
theorem Pb{P:VB}{w:VF}{K:PySem.W.Frag}{tg:VN}{it:VI}{ty:String}{x:Str}{t:Tok}
  (W:∀A:Around,A.handled=none->Walks P w A it [it] [it] x.cps.size (SignAt x) (fun i h=>h.IsStrIter it ty x t i))
  (hself:∀ (A:VE) (i:Nat) (s:VC) (Q:Vy) (E:Vy),s.heap.IsStrIter it ty x t i->Q (.ref it) s->wpAny (model P w) A (pyIter (.ref it)) Q E s)
  (hn:["enumerate","zip","dict_itemiterator","dict_reverseitemiterator","odict_iterator","itertools.zip_longest","itertools.pairwise"].contains ty=false):
  GU P w K tg (Hj x) [it] it (fun i h=>h.IsStrIter it ty x t i) where
 mem:=by simp
 obj:=fun i h st b a=>by
  have e:b=it:=by simpa using a
  subst e;obtain⟨o,e,c,d⟩:=st;exact⟨o,e,fun v z=>by rw[d]at z;cases z⟩
 keep:=fun i h h' st k=>by obtain⟨o,e,r⟩:=st;exact⟨o,k it (by simp) o e,r⟩
 item:=by
  intro X q j y p i pins s σ H E I f st n;subst q j y;obtain⟨f0,f1,f2,f3,f4,f5⟩:=f it (by simp);refine(W X.A (I.ok.hd p)).item i s _ _ n st fun v h' tk hv g l=>?_
  obtain⟨c,u,hc',rfl⟩:=hv;have I1:VV X pins σ H {s with heap:=h',toks:=tk}:=I.turned (t':=tk) (fun b o a e=>l b o (by simpa using a) e) f0 f1 f3 f4 f5;obtain⟨o,e,cc,d⟩:=id g;exact⟨_,rfl,CT (s:={s with heap:=h',toks:=tk}) e cc d hn ⟨.str ⟨#[c]⟩,H,I1,⟨u,rfl⟩,⟨rfl,c,hc',rfl⟩,g,fun b a=>(f b a).1⟩⟩
 done:=by
  intro X q j y p i pins s σ H E I f st n;subst q j y;obtain⟨f0,f1,f2,f3,f4,f5⟩:=f it (by simp);have hg':i=x.cps.size:=n;subst hg';exact(W X.A (I.ok.hd p)).done s _ _ st fun h' tk l=>⟨rfl,I.turned (t':=tk) (fun b o a e=>l b o (by simpa using a) e) f0 f1 f3 f4 f5⟩
 self:=fun A i s Q E st h=>hself A i s Q E st h
def Ig(tl:TE):TI:=fun σ H R=>tl σ H fun x H1=>∃z,x= .str z/\R (Hj z) H1
theorem gF{tg l:VN}{tl:TE}(hl:PE X l tl):PI X tg l (Ig tl):=by
 intro pins s σ H R I h;refine Wj (hl pins s σ H _ I h) fun v s1 zz=>?_;rcases zz with⟨x,H1,a,f,g⟩
 obtain⟨z,e,q⟩:=g;subst e;obtain⟨t,rfl⟩:=(show ∃t,v=Value.str z t from f);have c:∀b:Addr,b∈[s1.heap.objs.size]->NP X pins H1 b:=fun b j=>by
  have e:b=s1.heap.objs.size:=by simpa using j
  subst e;exact a.fpOk (Y1 _) (a.hok.fresh (Y1 _))
 cases ha:z.cps.all (· < 128)
 .exact wpAny_pyIter_wide ha ⟨s1.heap.objs.size, [s1.heap.objs.size], _, _, H1, rfl, a.kept (t' := s1.toks) fun b o e => Y3 _ e,
   Pb (fun A d => Walks.strWide d _ z t) (fun A i s Q E st h => wpAny_pyIter_striter_wide st h) (by decide), ⟨_, Yj _ rfl, rfl, rfl⟩, c, q⟩
 .exact wpAny_pyIter_ascii ha ⟨s1.heap.objs.size, [s1.heap.objs.size], _, _, H1, rfl, a.kept (t' := s1.toks) fun b o e => Y3 _ e,
   Pb (fun A d => Walks.strAscii d _ z t) (fun A i s Q E st h => wpAny_pyIter_striter_ascii st h) (by decide), ⟨_, Yj _ rfl, rfl, rfl⟩, c, q⟩
theorem SE{caps:List (Option Nat)}{g:TG}{tc:TT}{te:TE}{z:Str}{σ:St}{H1:Hp}{Q:VK}(Pv:Nat->List V->St->Hp->Prop)(h0:Pv 0 [] (Ws caps σ) H1)(hl:∀i ys σ H,Pv i ys σ H->i <=z.cps.size->ys.length <=i)(hz:z.cps.size <=sizeLine)
  (hs:∀i c ys σ H,z.cps[i]?=some c->Pv i ys σ H->g (.str ⟨#[c]⟩) σ H fun σ2 H2=>tc σ2 H2 fun b H3=>if b=true then te σ2 H3 fun y H4=>Pv (i+ 1) (ys++[y]) σ2 H4 else Pv (i+ 1) ys σ2 H3)
  (hd:∀ys σ H,Pv z.cps.size ys σ H->∀p,H p=none->Q (.ref p) (upd H p (.lst ys))):
  Rv caps g tc te σ Q (Hj z) H1:=by
 refine⟨fun i m ys σ H=>m=z.cps.size - i/\i <=z.cps.size/\Pv i ys σ H,⟨z.cps.size,by simp,Yh _,h0⟩,?_⟩;intro i m ys σ H Zq;obtain⟨rfl,hi,p⟩:=Zq;have h:=hl i ys σ H p hi
 by_cases hlt:i < z.cps.size
 .refine .inr ⟨hlt,by lia,Pv (i+ 1),fun f σ' H' a=>⟨z.cps.size - (i+ 1),by lia,rfl,hlt,a⟩,fun x H' y=>?_⟩;obtain⟨e,c,d,y⟩:=y;subst e y;exact hs i c ys σ _ d p
 .have e:i=z.cps.size:=by lia
  subst e;exact .inl ⟨rfl,by lia,hd ys σ H p⟩
end
def Qb(N N':List Str)(scope:Scope)(caps:List (Option Nat))(sc:Scope):Bool:=
 decide (scope.kind= .function) && (scope.names.all fun y=>decide (y.2≠ .cell)) && (scope.names.all fun y=>decide (y.2= .local->scope.names.lookup y.1=some .local)) && decide (caps.length=N'.length) &&
 ((N'.zip caps).all fun p => match p.2 with
  |none=>true
  | some j => decide (N[j]? = some p.1) && decide ((p.1, NameKind.free) ∈ scope.names) && (scope.names.all fun y => decide (y.1 = p.1 -> y.2 = .free))) &&
 (scope.names.all fun y=>decide (y.2= .free->sc.names.lookup y.1=some .cell\/sc.names.lookup y.1=some .free))
theorem Me{X:Cx}{N':List Str}{scope:Scope}{caps:List (Option Nat)}{sc:Scope}{N:List Str}(hsc:X.env.scope=sc)(hN:X.N=N)(h:Qb N N' scope caps sc=true):E7 X N' scope caps:=by
 subst hsc hN;unfold Qb at h;simp only[YF,Yy,YK]at h;obtain⟨⟨⟨⟨⟨h1,h2⟩,f⟩,e⟩,h5⟩,d⟩:=h;refine⟨h1,h2,f,⟨e,fun i j x l g=>?_⟩,fun x b=>?_⟩
 .have a:(x,some j)∈N'.zip caps:=by
   have:(N'.zip caps)[i]?=some (x,some j):=by
    rw[Xv];exact⟨l,g⟩
   exact Yd this
  have q:=h5 _ a;simp only[YF,Yy,YK]at q;exact⟨q.1.1,q.1.2,fun k c=>q.2 _ c rfl⟩
 .exact d _ b rfl
theorem TH{X:Cx}{N:List Str}(h:X.N=N)(d:N.Nodup):X.N.Nodup:=h▸d
theorem Do{X:Cx}{x:Str}{n:Int}{pos:Pos}(hg:Gl X x)(hm:∃t,X.mg x=some (.int n t))(hd:(x==("__debug__":Str))=false:=by decide):PE X (.Name x pos) (tC (.int n)):=by
 obtain⟨t,e⟩:=hm;exact M3 hg e ⟨t,rfl⟩ hd
structure JA(P:VB)(w:VF)(K:VG)(mg:Vx)(base:VM)(x:Str)(k:Nat)(ps:List Str)(dvs:List V)(sp:Sp):Prop where
 ex:∃ (f:VI) (fd:VD) (ds:VL),VW P w K mg base WK k f fd ps sp/\mg x=some (.ref f)/\W.keepIn K (.ref f)=true/\JK K fd ps ds/\W2 dvs ds
structure MP(P:VB)(w:VF)(K:VG)(mg:Vx)(base:VM)(x:Str)(C:VI)(k:Nat)(ps:List Str)(dvs:List V)(sp:Sp):Prop where
 ex:∃ (f:VI) (fd:VD) (ds:VL),VW P w K mg base WK k f fd ps sp/\mg x=some (.ref C)/\Mk K C f/\JK K fd ps ds/\W2 dvs ds
structure N0(P:VB)(w:VF)(K:VG)(mg:Vx)(base:VM)(C:VI)(m:Str)(k:Nat)(ps:List Str)(dvs:List V)(sp:Sp):Prop where
 ex:∃ (f:VI) (fd:VD) (ds:VL),VW P w K mg base WK k f fd ps sp/\T7 K C/\HU K C m f/\JK K fd ps ds/\W2 dvs ds
section
variable{X:Cx}{k:Nat}{C:VI}{ps:List Str}{sp:Sp}{dvs:List V}{x m:Str}{p pos apos:Pos}{e o:VN}{es:List Expr}{ta:TE}{t:TA}
theorem JT(F:JA X.prog X.w X.K X.mg X.base x k ps dvs sp)(hr:Room k X.A)(hg:Gl X x)(ha:PA X (e::es) t)(hdb:(x==("__debug__":Str))=false:=by decide)
  (he:starEach (e::es) X.env=(false,eval e X.env)::starEach es X.env:=by rfl) (hpl:(backTo pos (starEach es X.env)).any (·.1)=false:=by rfl):PE X (.Call (.Name x p) (e::es) [] pos) (Rx sp dvs E0 t):=by
 obtain⟨f,fd,ds,G,a,b,c,hd⟩:=F.ex;exact QB G hr hg a b c hd BO ha hdb he hpl
end
structure Bt(mg:Vx):Prop where
 len:mg "len"=none
 range:mg "range"=none
 isinstance:mg "isinstance"=none
 all:mg "all"=none
 min:mg "min"=none
 max:mg "max"=none
 bint:mg "int"=none
 bbool:mg "bool"=none
 bstr:mg "str"=none
 blist:mg "list"=none
 btuple:mg "tuple"=none
def WP(a:VI)(H H':Hp):Prop:=∀b o,H b=some o->b≠a->H' b=some o
theorem WP.refl(a:VI)(H:Hp):WP a H H:=fun _ _ h _=>h
theorem WP.trans{a:VI}{H H1 H2:Hp}(x:WP a H H1)(y:WP a H1 H2):WP a H H2:=fun b o h n=>y b o (x b o h n) n
theorem WP.upd{a:VI}{H:Hp}{o:HO}:WP a H (upd H a o):=fun b _ h n=>by rw[Wh n];exact h
def Ao(g:TG)(tb:TS)(D:MQ)(σ:St)(J:It)(H1:Hp):Prop:=∃W:Nat->Nat->St->Hp->Prop,(∃m,W 0 m σ H1)/\∀i m σ H,W i m σ H->
 (J.stop i H/\D.nx σ H)\/(J.go i H/\∃N:St->Hp->Prop,(∀σ' H',N σ' H'->∃m',m' < m/\W (i+ 1) m' σ' H')/\∀x H',J.yld i H x H'->g x σ H' fun σ2 H2=>tb {D with nx:=N,ct:=N,bk:=D.nx} σ2 H2)
theorem PP(wi:TI)(g:TG)(tb:TS)(D:MQ)(σ:St)(H:Hp):Pe wi g tb D σ H=wi σ H fun J H1=>Ao g tb D σ J H1:=rfl
theorem Rs{K:VG}{a:VI}{xs:List V}{g:TG}{tb:TS}{D:MQ}{σ:St}{H:Hp}(Pv:Nat->St->Hp->Prop)(h0:Pv 0 σ H)(hl:∀i σ H,i <=xs.length->Pv i σ H->VZ K H a xs)
  (hs:∀i x σ H,xs[i]?=some x->Pv i σ H->g x σ H fun σ2 H2=>tb {D with nx:=Pv (i+ 1),ct:=Pv (i+ 1),bk:=D.nx} σ2 H2) (hd:∀σ H,Pv xs.length σ H->D.nx σ H):Ao g tb D σ (GH K a) H:=xJ Pv h0 hl hs hd
theorem vX{c:TT}{tb:TS}{D:MQ}{σ:St}{H:Hp}(Pv:St->Hp->Prop)(μ:St->Hp->Nat)(h0:Pv σ H)
  (hs:∀σ H,Pv σ H->c σ H fun b H1=>if b=true then ∃N:St->Hp->Prop,(∀σ' H',N σ' H'->∃m',m' < μ σ H/\(m'=μ σ' H'/\Pv σ' H'))/\tb {D with nx:=N,ct:=N,bk:=D.nx} σ H1 else D.nx σ H1):Oz c tb D σ H:=by
 refine⟨fun m σ H=>m=μ σ H/\Pv σ H,⟨_,rfl,h0⟩,?_⟩;rintro m σ H ⟨rfl,p⟩;exact hs σ H p
theorem Wi{n:Nat}(h:n <=100000):n <=sizeLine:=Yu h (by rw[YE];decide)
theorem Ml{n:Nat}(h:n <=100000):n < sizeLine:=Ye h (by rw[YE];decide)
def M0:HO->Option String
 | .lst _=>some "list"
 | .tup _=>some "tuple"
 | .dK _=>some "dict"
 |_=>none
def WY(H:Hp):V->Option String
 | .non=>some "NoneType"
 | .bl _=>some "bool"
 | .int _=>some "int"
 | .str _=>some "str"
 | .ref a=>(H a).bind M0
 |_=>none
def Eg(n T:String):Bool:=n==T||(n=="bool" && T=="int")
theorem mP{K:VG}{H:Hp}{x:V}{n:String}(h:WY H x=some n):JW K H x (.type n)/\n∈["NoneType","bool","int","str","list","tuple","dict"]:=by
 cases x with
 |non=>cases h;exact⟨.non,by simp⟩
 |bl b=>cases h;exact⟨.bl b,by simp⟩
 |int i=>cases h;exact⟨.int i,by simp⟩
 |str i=>cases h;exact⟨.str i,by simp⟩
 |ref a=>
  have h:(H a).bind M0=some n:=h;cases e:H a with
  |none=>rw[e]at h;cases h
  |some o=>
   rw[e]at h;cases o <;> first|(cases h;done)|skip
   .cases h;exact⟨.lst e,by simp⟩
   .cases h;exact⟨.tup e,by simp⟩
   .cases h;exact⟨.dK e,by simp⟩
 |_=>cases h
theorem Zy{K:VG}{n T:String}(hn:n∈["NoneType","bool","int","str","list","tuple","dict"])(hT:T∈["bool","int","str","list","tuple","dict"]):W.kitOne K (.type n) (.type T)=some (Eg n T):=by
 simp only[Y6,Yl,YL]at hn hT;rcases hn with rfl|rfl|rfl|rfl|rfl|rfl|rfl <;> rcases hT with rfl|rfl|rfl|rfl|rfl|rfl <;> rfl
def Ix(T:String):List V->Hp->VK->Prop:=fun xs H Q=>∃x n,xs=[x,.ty T]/\WY H x=some n/\Q (.bl (Eg n T)) H
theorem DJ{X:Cx}(T:String)(hT:T∈["bool","int","str","list","tuple","dict"]:=by decide):Wr X (.builtin "isinstance") (Ix T):=by
 intro pins s σ H xs a Q I r h;obtain⟨x,n,rfl,ty,q⟩:=h;obtain⟨c,b⟩:=mP (K:=X.K) ty;exact AQ pins s σ H _ a Q I r ⟨x,.ty T,_,_,rfl,c,rfl,Zy b hT,q⟩
theorem Ww{H:Hp}{a:VI}{xs:List V}(h:H a=some (.lst xs)):WY H (.ref a)=some "list":=by show(H a).bind M0=_;rw[h];rfl
theorem Hr{H:Hp}{a:VI}{xs:List V}(h:H a=some (.tup xs)):WY H (.ref a)=some "tuple":=by show(H a).bind M0=_;rw[h];rfl
theorem jJ{H:Hp}{i:Int}:WY H (.int i)=some "int":=rfl
theorem Zf{H:Hp}{i:Bool}:WY H (.bl i)=some "bool":=rfl
theorem nZ{H:Hp}{i:Str}:WY H (.str i)=some "str":=rfl
theorem dY{H:Hp}:WY H .non=some "NoneType":=rfl
def Ds:V->Bool
 | .int _=>true
 |_=>false
def GO:V->Bool
 | .bl _=>true
 |_=>false
def F5:V->Bool
 | .str _=>true
 |_=>false
def DY(H:Hp):V->Bool
 | .ref a=>match H a with
  |some (.lst _)=>true
  |_=>false
 |_=>false
theorem Hz{o:HO}{n:String}(h:M0 o=some n):n="list"\/n="tuple"\/n="dict":=by
 cases o <;> first|(cases h;done)|(cases h;simp)
theorem Zg{H:Hp}{x:V}{n:String}(h:WY H x=some n):Eg n "int"=(Ds x||GO x):=by
 cases x with
 |ref a=>
  have h:(H a).bind M0=some n:=h;cases e:H a with
  |none=>rw[e]at h;cases h
  |some o=>
   rw[e]at h;rcases Hz h with rfl|rfl|rfl <;> rfl
 |_=>first|(cases h;done)|(cases h;rfl)
theorem Lx{H:Hp}{x:V}{n:String}(h:WY H x=some n):Eg n "bool"=GO x:=by
 cases x with
 |ref a=>
  have h:(H a).bind M0=some n:=h;cases e:H a with
  |none=>rw[e]at h;cases h
  |some o=>
   rw[e]at h;rcases Hz h with rfl|rfl|rfl <;> rfl
 |_=>first|(cases h;done)|(cases h;rfl)
theorem nN{H:Hp}{x:V}{n:String}(h:WY H x=some n):Eg n "str"=F5 x:=by
 cases x with
 |ref a=>
  have h:(H a).bind M0=some n:=h;cases e:H a with
  |none=>rw[e]at h;cases h
  |some o=>
   rw[e]at h;rcases Hz h with rfl|rfl|rfl <;> rfl
 |_=>first|(cases h;done)|(cases h;rfl)
theorem Cv{H:Hp}{x:V}{n:String}(h:WY H x=some n):Eg n "list"=DY H x:=by
 cases x with
 |ref a=>
  have h:(H a).bind M0=some n:=h;cases e:H a with
  |none=>rw[e]at h;cases h
  |some o=>
   rw[e]at h;have b:DY H (.ref a)=match some o with|some (.lst _)=>true|_=>false:=by
    show(match H a with|some (.lst _)=>true|_=>false)=_;rw[e]
   rw[b];cases o <;> first|(cases h;done)|(cases h;rfl)
 |_=>first|(cases h;done)|(cases h;rfl)
theorem CC{H:Hp}{x:V}(h:DY H x=true):∃a xs,x= .ref a/\H a=some (.lst xs):=by
 cases x with
 |ref a=>
  have h:(match H a with|some (.lst _)=>true|_=>false)=true:=h;cases e:H a with
  |none=>rw[e]at h;cases h
  |some o=>
   rw[e]at h;cases o <;> first|(cases h;done)|exact⟨a,_,rfl,e⟩
 |_=>cases h
theorem TN{H H':Hp}(s:VP H H'){x:V}{n:String}(h:WY H x=some n):WY H' x=some n:=by
 cases x with
 |ref a=>
  have h:(H a).bind M0=some n:=h;show(H' a).bind M0=some n;cases e:H a with
  |none=>rw[e]at h;cases h
  |some o=>rw[s a o e];rw[e]at h;exact h
 |_=>exact h
def N1(x:V)(lo hi:Int):Bool:=match x with
 | .int i=>decide (lo <=i) && decide (i <=hi)
 |_=>false
def En(c:Nat):Bool:=decide (97 <=c) && decide (c <=122)
def N5:V->Bool
 | .str z=>decide (1 <=z.length) && decide (z.length <=8) && z.cps.toList.all En
 |_=>false
def Dk(H:Hp):V->Bool
 | .ref a=>match H a with
  |some (.lst xs)=>decide (1 <=xs.length) && decide (xs.length <=4000) && xs.all (fun y=>N1 y 0 255)
  |_=>false
 |_=>false
theorem OU{H:Hp}{a:VI}{xs:List V}(h:H a=some (.lst xs)):Dk H (.ref a)=(decide (1 <=xs.length) && decide (xs.length <=4000) && xs.all (fun y=>N1 y 0 255)):=by
 show(match H a with|some (.lst xs)=>decide (1 <=xs.length) && decide (xs.length <=4000) && xs.all (fun y=>N1 y 0 255)|_=>false)=_;rw[h]
theorem uA{H:Hp}{x:V}(h:DY H x=false):Dk H x=false:=by
 cases x with
 |ref a=>
  have h:(match H a with|some (.lst _)=>true|_=>false)=false:=h;show(match H a with|some (.lst xs)=>_|_=>false)=false;cases e:H a with
  |none=>rfl
  |some o=>
   rw[e]at h;cases o <;> first|rfl|cases h
 |_=>rfl
theorem VP.new{H H':Hp}{p:VI}{o:HO}(x:VP H H')(h:H p=none):VP H (upd H' p o):=fun b u e=>by
 rw[Wh (WJ e h)];exact x b u e
theorem w6(c:Nat):((!decide ((⟨#[c]⟩:Str).cps.toList < ("a":Str).cps.toList))=decide (97 <=c))/\((!decide (("z":Str).cps.toList < (⟨#[c]⟩:Str).cps.toList))=decide (c <=122)):=by
 have g:("a":Str).cps.toList=[97]:=by decide +kernel
 have f:("z":Str).cps.toList=[122]:=by decide +kernel
 rw[g,f];have e:(⟨#[c]⟩:Str).cps.toList=[c]:=rfl;rw[e];have d:∀a b:Nat,([a] < [b])↔a < b:=fun a b=>by
  constructor
  .intro h;rcases Vg.mp h with h|⟨_,h⟩
   .exact h
   .exact absurd h (List.not_lt_nil _)
  .intro h;exact Vg.mpr (.inl h)
 constructor
 .rw[Xa];simp only[XM,V4,Yy,d];lia
 .rw[Xa];simp only[XM,V4,Yy,d];lia
def Kx(t:TS):TS:=fun D σ H=>∃R:St->Hp->Prop,t {D with nx:=R} σ H/\∀σ' H',R σ' H'->D.nx σ' H'
theorem Ai{X:Cx}{st:Stmt}{t:TS}(h:PS X st t):PS X st (Kx t):=by
 intro pins s σ H D I b;obtain⟨R,h1,h2⟩:=b;refine Wj (h pins s σ H _ I h1) fun f s' q=>?_
 cases f with
 |next=>obtain⟨σ',H',c,a⟩:=q;exact⟨σ',H',c,h2 σ' H' a⟩
 |brk=>exact q
 |cont=>exact q
 |ret v=>exact q
section
variable{X:Cx}{K:VG}
theorem Gh(h:X.K=K):Dz X (BE K):=h▸dN
theorem Rp(h:X.K=K):Dz X (EZ K):=h▸xE
theorem Zz(h:X.K=K):GX X (C6 K):=h▸mF
def CU(K:VG):List V->Hp->VK->Prop:=fun xs H Q=>∃p ys,xs=[.ref p]/\(VZ K H p ys\/JN K H p ys)/\Q (.int ys.length) H
def Ky(K:VG):List V->Hp->VK->Prop:=fun xs H Q=>∃p ys,xs=[.ref p]/\(VZ K H p ys\/JN K H p ys)/\∀l,H l=none->Q (.ref l) (upd H l (.lst ys))
def HJ(K:VG):List V->Hp->VK->Prop:=fun xs H Q=>∃ (p:VI) (bs:List Bool),xs=[.ref p]/\VZ K H p (bs.map V.bl)/\Q (.bl (bs.all id)) H
theorem DA(h:X.K=K):Wr X (.builtin "len") (CU K):=h▸gE
theorem K9(h:X.K=K):Wr X (.type "list") (Ky K):=h▸xY
theorem B8(hc:X.calm=true)(h:X.K=K):Wr X (.builtin "all") (HJ K):=h▸dH hc
theorem IS(hu:X.A.units+ 64 < cLine)(h:X.K=K):Ja X (compareOp .Eq) (PZ K):=h▸nB hu
theorem BQ(hu:X.A.units+ 64 < cLine)(h:X.K=K):Ja X (compareOp .NotEq) (Pg K):=h▸jI hu
theorem FM(h:X.K=K):Ja X (compareOp .In) (CB K false):=h▸j2
theorem Su(h:X.K=K):Ja X (compareOp .NotIn) (CB K true):=h▸Sk
theorem Bb{e:VN}{f:Str}{pos:Pos}{ta:TE}(h:X.K=K)(he:PE X e ta)(hb:attributeBase e f X.env (eval e X.env)=eval e X.env):PE X (.Attribute e f pos) (Co K ta f):=h▸Zh he hb
theorem Dw{o value:VN}{f:Str}{pos pos':Pos}{ta tv:TE}(h:X.K=K)(ha:PE X o ta)(hv:PE X value tv)(hs:swapsWith value (some (.Attribute o f pos')) pos.line X.env=pure false):PS X (.Assign [.Attribute o f pos'] value pos) (AC K ta tv f):=h▸xQ ha hv hs
theorem DZ{es:List Expr}{k:Nat}{t:Rw}{n:Nat}{pos:Pos}(h:X.K=K)(hc:X.calm=true)(hg:BH X es t)
  (hn:(assignEach es X.env).length=n:=by rfl) (hst:(assignEach es X.env).findIdx? (·.1)=none:=by rfl):PG X (.Tuple es k pos) (Cb K n t):=h▸ZV hc hg hn hst
theorem nX{tg l:VN}{tl:TE}(h:X.K=K)(hl:PE X l tl):PI X tg l (RM K tl):=h▸xS hl
theorem Nu{o e:VN}{es:List Expr}{to:TE}{t:TA}{name:Str}{apos cpos:Pos}{T id:String}{r:V->List V->Hp->VK->Prop}(h:X.K=K)(pa:PlainAttrs T)(slot:Slot T name id)(hty:typeOf (.builtin id)=pure (.type "method_descriptor"))(hm:LU X id r)(ho:PE X o to)(ha:PA X (e::es) t)
  (hbase:attributeBase o name X.env (eval o X.env)=eval o X.env:=by rfl)
  (hfew : ((backTo cpos (starEach (e :: es) X.env)).all (fun x => !x.1) && (backToKw cpos (keywordEach [] X.env)).all (fun x => x.1.isSome)
   && decide ((e :: es).length + ([] : List Keyword).length + (if ([] : List Keyword).isEmpty then 0 else 1) < 30)) = true := by rfl)
  (hline:(apos.endLine==cpos.line)=true:=by rfl) (hs:starEach (e::es) X.env=(false,eval e X.env)::starEach es X.env:=by rfl) (hplain:(backTo cpos (starEach es X.env)).any (·.1)=false:=by rfl):
  PE X (.Call (.Attribute o name apos) (e::es) [] cpos) (C8 K T r to t):=h▸SZ pa slot hty hm ho ha hbase hfew hline hs hplain
end
theorem NX{H:Hp}{p:VI}{o:HO}(h:H p=none):VP H (upd H p o):=(VP.refl H).new h
section
variable{X:Cx}{es:List Expr}{t:TA}{pos:Pos}
def Iv(t:TA):TE:=fun σ H Q=>t σ H fun xs H1=>xs.length <=sizeLine/\∀p G,H1 p=none->VP H1 G->G p=some (.tup xs)->Q (.ref p) G
def KD(t:TA):TE:=fun σ H Q=>t σ H fun xs H1=>xs.length <=sizeLine/\∀p G,H1 p=none->VP H1 G->G p=some (.lst xs)->Q (.ref p) G
theorem Tf{x1}(h:PA X es t):PE X (.Tuple es x1 pos) (Iv t):=by
 intro pins s σ H Q I f;refine wpAny_Tuple_spliced (Wj (h pos pins s σ H _ I f) fun d s1 ⟨xs,H1,c,r,z,q⟩=>⟨by rw[<-r.length];exact z,?_⟩);have a:H1 s1.heap.objs.size=none:=c.hok.fresh (Y1 _);refine⟨.ref s1.heap.objs.size,upd H1 s1.heap.objs.size (.tup xs),c.laid (t':=s1.toks) (fun b u e=>Y3 _ e) (Y1 _) ?_,rfl,q _ _ a (NX a) WU⟩;exact⟨z,d,r,⟨_,Yj _ rfl,rfl,_,rfl⟩⟩
theorem WO(h:PA X es t):PE X (.List es pos) (KD t):=by
 intro pins s σ H Q I f;refine wpAny_List_spliced (Wj (h pos pins s σ H _ I f) fun d s1 ⟨xs,H1,c,r,z,q⟩=>⟨by rw[<-r.length];exact z,?_⟩);have a:H1 s1.heap.objs.size=none:=c.hok.fresh (Y1 _);refine⟨.ref s1.heap.objs.size,upd H1 s1.heap.objs.size (.lst xs),c.laid (t':=s1.toks) (fun b u e=>Y3 _ e) (Y1 _) ?_,rfl,q _ _ a (NX a) WU⟩;exact⟨z,d,0,r,Yj _ rfl⟩
end
section
variable{X:Cx}{K:VG}
theorem Ja.imp{f:Value->Value->Sem Value}{r r':R2}(h:Ja X f r)(hi:∀x y H Q,r' x y H Q->r x y H Q):Ja X f r':=fun pins s σ H x y v u Q I b a q=>h pins s σ H x y v u Q I b a (hi _ _ _ _ q)
theorem Wr.imp{f:VH}{r r':List V->Hp->VK->Prop}(h:Wr X f r)(hi:∀xs H Q,r' xs H Q->r xs H Q):Wr X f r':=fun pins s σ H xs a Q I b q=>h pins s σ H xs a Q I b (hi _ _ _ q)
theorem Dm.imp{id:String}{r r':V->List V->Hp->VK->Prop}(h:Dm X id r)(hi:∀x xs H Q,r' x xs H Q->r x xs H Q):Dm X id r':=fun pins s σ H x xs v a Q I b c q=>h pins s σ H x xs v a Q I b c (hi _ _ _ _ q)
theorem GX.imp{r r':V->Option Int->Option Int->Hp->VK->Prop}(h:GX X r)(hi:∀x a b H Q,r' x a b H Q->r x a b H Q):GX X r':=fun pins s σ H x v e d lo c f Q I g hs j i q=>h pins s σ H x v e d lo c f Q I g hs j i (hi _ _ _ _ _ q)
def AV:R2:=fun x y H Q=>∃l b xs zs,x= .ref l/\y= .ref b/\H l=some (.lst xs)/\H b=some (.lst zs)/\xs.length+ zs.length <=sizeLine/\∀p G,H p=none->VP H G->G p=some (.lst (xs++zs))->Q (.ref p) G
theorem BF:Ja X (binaryOp .Add) AV:=RL.imp fun x y H Q zz=>by rcases zz with⟨l,b,xs,zs,e,d,h1,h2,c,q⟩;exact ⟨l,b,xs,zs,e,d,h1,h2,c,fun p a=>q p _ a (NX a) WU⟩
def Au:R2:=fun x y H Q=>∃l k xs,x= .ref l/\y= .int k/\H l=some (.lst xs)/\ -(2 ^ 63) <=k/\k < 2 ^ 63/\xs.length*k.toNat <=sizeLine/\∀p G,H p=none->VP H G->G p=some (.lst (List.replicate k.toNat xs).flatten)->Q (.ref p) G
theorem Bp:Ja X (binaryOp .Mult) Au:=RK.imp fun x y H Q zz=>by rcases zz with⟨l,k,xs,e,d,h1,h2,c,b,q⟩;exact ⟨l,k,xs,e,d,h1,h2,c,b,fun p a=>q p _ a (NX a) WU⟩
def AN(K:VG):List V->Hp->VK->Prop:=fun xs H Q=>∃p ys,xs=[.ref p]/\(VZ K H p ys\/JN K H p ys)/\∀l G,H l=none->VP H G->G l=some (.lst ys)->Q (.ref l) G
theorem IK(h:X.K=K):Wr X (.type "list") (AN K):=(K9 h).imp fun xs H Q zz=>by rcases zz with⟨p,ys,e,h1,q⟩;exact ⟨p,ys,e,h1,fun l a=>q l _ a (NX a) WU⟩
def AK(K:VG):V->Option Int->Option Int->Hp->VK->Prop:=fun x lo hi H Q=>∃a xs,x= .ref a/\VZ K H a xs/\∀p G,H p=none->VP H G->G p=some (.lst (DX xs lo hi))->Q (.ref p) G
theorem PX(h:X.K=K):GX X (AK K):=(Zz h).imp fun x a b H Q zz=>by rcases zz with⟨p,ys,e,h1,q⟩;exact ⟨p,ys,e,h1,fun l c=>q l _ c (NX c) WU⟩
def Ac:V->List V->Hp->VK->Prop:=fun x vs H Q=>∃l xs y,x= .ref l/\vs=[y]/\H l=some (.lst xs)/\xs.length < sizeLine/\∀G,WP l H G->G l=some (.lst (xs++[y]))->Q .non G
theorem Tq:Dm X "list.append" Ac:=Df.imp fun x xs H Q zz=>by rcases zz with⟨l,ys,y,b,a,h1,h2,q⟩;exact ⟨l,ys,y,b,a,h1,h2,q _ WP.upd WU⟩
def Ar:V->List V->Hp->VK->Prop:=fun x vs H Q=>∃l b xs zs,x= .ref l/\vs=[.ref b]/\H l=some (.lst xs)/\H b=some (.lst zs)/\xs.length+ zs.length <=sizeLine/\∀G,WP l H G->G l=some (.lst (xs++zs))->Q .non G
theorem Bs:Dm X "list.extend" Ar:=Da.imp fun x xs H Q zz=>by rcases zz with⟨l,b,ys,zs,d,c,h1,h2,a,q⟩;exact ⟨l,b,ys,zs,d,c,h1,h2,a,q _ WP.upd WU⟩
def L3(K:VG)(ta tv:TE)(f:Str):TS:=fun D σ H=>tv σ H fun y H1=>ta σ H1 fun x H2=>∃a C dx fs,x= .ref a/\H2 a=some (.ins C dx fs)/\T7 K C/\W0 K C f/\fs.length < 1000/\
 ∀G,WP a H2 G->G a=some (.ins C dx (Jl f y fs))->D.nx σ G
theorem NJ{o value:VN}{f:Str}{pos pos':Pos}{ta tv:TE}(h:X.K=K)(ha:PE X o ta)(hv:PE X value tv)(hs:swapsWith value (some (.Attribute o f pos')) pos.line X.env=pure false):PS X (.Assign [.Attribute o f pos'] value pos) (L3 K ta tv f):=by
 subst h;intro pins s σ H D I h;refine Uu (Wj (hv pins s σ H _ I h) fun u s1 ⟨y,H1,r,b,q⟩=>Wj (ha pins s1 σ H1 _ r q) fun g s2 zz=>?_) hs;rcases zz with⟨x,H2,p,d,a,C,dx,fs,ex,i,c,n,l,e⟩;subst ex;obtain rfl:g=Value.ref a:=d;exact QD p i c n l b fun s3 j=>⟨σ,_,j,e _ WP.upd WU⟩
end
def JB(K:VG)(H:Hp)(x:V)(f:Str)(v:V):Prop:=∃a C dx fs,x= .ref a/\H a=some (.ins C dx fs)/\T7 K C/\W0 K C f/\fs.lookup f=some v
def Ae(K:VG)(ta:TE)(f:Str):TE:=fun σ H Q=>ta σ H fun x H1=>∃v,JB K H1 x f v/\Q v H1
theorem S6{X:Cx}{K:VG}{e:VN}{f:Str}{pos:Pos}{ta:TE}(h:X.K=K)(he:PE X e ta)(hb:attributeBase e f X.env (eval e X.env)=eval e X.env):PE X (.Attribute e f pos) (Ae K ta f):=by
 subst h;intro pins s σ H Q I h;refine Lr hb (Wj (he pins s σ H _ I h) fun u s1 zz=>?_);rcases zz with⟨x,H1,j,b,v,⟨a,C,dx,fs,ex,g,c,n,l⟩,q⟩;subst ex;obtain rfl:u=Value.ref a:=b;exact OJ j g c n l fun o s2 i d=>⟨v,H1,i,d,q⟩
structure Tt(P:VB)(w:VF)(K:VG)(mg:Vx)(base:VM)(x:Str)(k:Nat)(sp:Sp):Prop where
 ex:∃ (f C:VI) (fd:VD) (ds:VL) (dvs:List V) (ps:List Str) (sp0:Sp),VW P w K mg base WK k f fd ps sp0/\mg x=some (.ref C)/\Mk K C f/\JK K fd ps ds/\W2 dvs ds/\
  ∀vs H Q,sp vs H Q E0->∀y dx G,H y=none->H dx=none->dx≠y->VP H G->G y=some (.ins C dx [])->sp0 (.ref y::(vs++dvs)) G (fun v H2=>v= .non/\Q (.ref y) H2) E0
theorem MP.ct{P:VB}{w:VF}{K:VG}{mg:Vx}{base:VM}{x:Str}{C:VI}{k:Nat}{ps:List Str}{dvs:List V}{sp sp':Sp}(F:MP P w K mg base x C k ps dvs sp)
  (h:∀vs H Q,sp' vs H Q E0->∀y dx G,H y=none->H dx=none->dx≠y->VP H G->G y=some (.ins C dx [])->sp (.ref y::(vs++dvs)) G (fun v H2=>v= .non/\Q (.ref y) H2) E0):Tt P w K mg base x k sp':=by
 obtain⟨f,fd,ds,G,a,M,b,hd⟩:=F.ex;exact⟨f,C,fd,ds,dvs,ps,sp,G,a,M,b,hd,h⟩
theorem D9{X:Cx}{k:Nat}{sp:Sp}{x:Str}{p pos:Pos}{e:VN}{es:List Expr}{t:TA}(F:Tt X.prog X.w X.K X.mg X.base x k sp)(hr:Room (k+ 1) X.A)(hg:Gl X x)(ha:PA X (e::es) t)(hdb:(x==("__debug__":Str))=false:=by decide)
  (he:starEach (e::es) X.env=(false,eval e X.env)::starEach es X.env:=by rfl) (hpl:(backTo pos (starEach es X.env)).any (·.1)=false:=by rfl):PE X (.Call (.Name x p) (e::es) [] pos) (Rx sp [] E0 t):=by
 obtain⟨f,C,fd,ds,dvs,ps,sp0,G,g,M,i,hd,hi⟩:=F.ex;intro pins s σ H Q I h;refine YN (Gz I hg g ?_ hdb);refine XO (h₀:=X.base) I.ok.mod.kin M.kp (Wj (ha pos pins s σ H _ I h) fun j s1 ⟨vs,H1,c,r,q⟩=>⟨c.kIn,?_⟩) he hpl;have q:sp (vs++[]) H1 Q E0:=q;rw[List.append_nil]at q;exact Hq M G hr i hd BO c r fun y dx b a d=>hi _ _ _ q y dx _ b a d ((NX a).new b) WU
def Ex(C:VI)(m:Str)(H:Hp)(x:V):Prop:=∃a dx fs,x= .ref a/\H a=some (.ins C dx fs)/\fs.lookup m=none
def Aw(C:VI)(m:Str)(sp:Sp)(dvs:List V)(ta:TE)(t:TA):TE:=fun σ H Q=>ta σ H fun x H1=>Ex C m H1 x/\t σ H1 fun vs H2=>sp (x::(vs++dvs)) H2 Q E0
section
variable{X:Cx}{k:Nat}{C:VI}{ps:List Str}{sp:Sp}{dvs:List V}{m:Str}{pos apos:Pos}{e o:VN}{es:List Expr}{ta:TE}{t:TA}
theorem Mt{pl:Sem Bool}(he:PE X o ta)(F:N0 X.prog X.w X.K X.mg X.base C m k ps dvs sp)(hr:Room k X.A)(ha:PA X (e::es) t)
  (hst:starEach (e::es) X.env=(false,eval e X.env)::starEach es X.env:=by rfl) (hpl:(backTo pos (starEach es X.env)).any (·.1)=false:=by rfl)
  (ht : eval (.Call (.Attribute o m apos) (e :: es) [] pos) X.env = (do
   let ov <-eval o X.env
   standAt apos.atName
   let (f,first) <-holding [ov] (getMethod ov m pl)
   callWith pos f first (backTo pos (starEach (e :: es) X.env)) (backToKw pos (keywordEach [] X.env))) := by rfl) :
  PE X (.Call (.Attribute o m apos) (e::es) [] pos) (Aw C m sp dvs ta t):=by
 obtain⟨f,fd,ds,G,c,b,n,hd⟩:=F.ex;intro pins s σ H Q I h;refine V8 (pl:=pl) (Wj (he pins s σ H _ I h) fun u s1 zz=>?_) ht;rcases zz with⟨x,H1,g,i,⟨a,dx,fs,ex,p,l⟩,q⟩;subst ex;obtain rfl:u=Value.ref a:=i;refine Hy g p c b l ?_;refine XO (first:=[.ref a]) (h₀:=X.base) I.ok.mod.kin b.kp (Wj (ha pos pins s1 σ H1 _ g q) fun us s2 ⟨vs,H2,d,r,j⟩=>⟨d.kIn,?_⟩) hst hpl;exact Ag (us:=.ref a::us) (vs:=.ref a::vs) G hr n hd BO d (.cons rfl r) j
theorem MH{pl:Sem Bool}(he:PE X o ta)(F:N0 X.prog X.w X.K X.mg X.base C m k ps dvs sp)(hr:Room k X.A)
  (ht : eval (.Call (.Attribute o m apos) [] [] pos) X.env = (do
   let ov <-eval o X.env
   standAt apos.atName
   let (f,first) <-holding [ov] (getMethod ov m pl)
   callWith pos f first (backTo pos (starEach [] X.env)) (backToKw pos (keywordEach [] X.env))) := by rfl) :
  PE X (.Call (.Attribute o m apos) [] [] pos) (Aw C m sp dvs ta D7):=by
 obtain⟨f,fd,ds,G,c,d,g,hd⟩:=F.ex;intro pins s σ H Q I h;refine V8 (pl:=pl) (Wj (he pins s σ H _ I h) fun u s1 zz=>?_) ht;rcases zz with⟨x,H1,b,e,⟨a,dx,fs,ex,i,l⟩,q⟩;subst ex;obtain rfl:u=Value.ref a:=e;refine Hy b i c d l ?_;exact W.callWith_K0 (first:=[.ref a]) b.kIn d.kp (Ag (us:=[.ref a]) (vs:=[.ref a]) G hr g hd BO b (.cons rfl .nil) q)
end
theorem VP.get{H G:Hp}{b:VI}{o:HO}(s:VP H G)(h:H b=some o):G b=some o:=s b o h
theorem WP.get{l:VI}{H G:Hp}{b:VI}{o:HO}(s:WP l H G)(h:H b=some o)(n:b≠l):G b=some o:=s b o h n
theorem VP.butNew{l:VI}{H H' G:Hp}(s:VP H H')(b:WP l H' G)(h:H l=none):VP H G:=fun c o e=>b c o (s c o e) (WJ e h)
theorem WP.free{l:VI}{H G:Hp}(s:WP l H G){b:VI}(h:G b=none)(n:b≠l):H b=none:=by
 cases e:H b with
 |none=>rfl
 |some o=>rw[s b o e n]at h;cases h
theorem VP.toBut{l:VI}{H G:Hp}(s:VP H G):WP l H G:=fun b o e _=>s b o e
section
variable{caps:List (Option Nat)}{g:TG}{tc:TT}{te:TE}
theorem Db{K:VG}{a:VI}{xs:List V}{σ:St}{H1:Hp}{Q:VK}(Pv:Nat->List V->St->Hp->Prop)(h0:Pv 0 [] (Ws caps σ) H1)(hl:∀i ys σ H,Pv i ys σ H->i <=xs.length->VZ K H a xs/\ys.length <=i)(hz:xs.length <=sizeLine)
  (hs:∀i x ys σ H,xs[i]?=some x->Pv i ys σ H->g x σ H fun σ2 H2=>tc σ2 H2 fun b H3=>if b=true then te σ2 H3 fun y H4=>Pv (i+ 1) (ys++[y]) σ2 H4 else Pv (i+ 1) ys σ2 H3)
  (hd:∀ys σ H,Pv xs.length ys σ H->∀p G,H p=none->VP H G->G p=some (.lst ys)->Q (.ref p) G):Rv caps g tc te σ Q (GH K a) H1:=
 QG Pv h0 hl hz hs fun ys σ H h p c=>hd ys σ H h p _ c (NX c) WU
theorem jZ{lo:Int}{n:Nat}{σ:St}{H1:Hp}{Q:VK}(Pv:Nat->List V->St->Hp->Prop)(h0:Pv 0 [] (Ws caps σ) H1)(hl:∀i ys σ H,Pv i ys σ H->i <=n->ys.length <=i)(hz:n <=sizeLine)
  (hs:∀i ys σ H,i < n->Pv i ys σ H->g (.int (lo+ i)) σ H fun σ2 H2=>tc σ2 H2 fun b H3=>if b=true then te σ2 H3 fun y H4=>Pv (i+ 1) (ys++[y]) σ2 H4 else Pv (i+ 1) ys σ2 H3)
  (hd:∀ys σ H,Pv n ys σ H->∀p G,H p=none->VP H G->G p=some (.lst ys)->Q (.ref p) G):Rv caps g tc te σ Q (EN lo n) H1:=
 wP Pv h0 hl hz hs fun ys σ H h p a=>hd ys σ H h p _ a (NX a) WU
end
structure EO(K:VG)(C:VI):Prop where
 ha:W.findIn K (.ref C) "__class__"=some (some (.builtin "object.__class__"))
 hn:W.specialIn K (.builtin "object.__class__") "__get__"=some (some (.builtin "getset_descriptor.__get__"))
 htk:W.takesIn K (.builtin "object.__class__")=some true
 hm:W.mroIn K C (.type "object")=some true
def Kh(C:VI):List V->Hp->VK->Prop:=fun xs H Q=>∃a dx fs,xs=[.ref a,.ref C]/\H a=some (.ins C dx fs)/\Q (.bl true) H
theorem tN{X:Cx}{K:VG}{C:VI}(h:X.K=K)(cl:T7 K C)(ic:EO K C):Wr X (.builtin "isinstance") (Kh C):=by
 subst h;intro pins s σ H xs b Q I r c;obtain⟨a,dx,fs,rfl,ha,q⟩:=c;refine AQ pins s σ H _ b Q I r ⟨.ref a,.ref C,.ref C,true,rfl,.ins ha cl ic.ha ic.hn ic.htk ic.hm,rfl,?_,q⟩;show W.kitOne X.K (.ref C) (.ref C)=some true;unfold W.kitOne;rw[Y9 (by simp)]
section
variable{P:VB}{w:VF}{K:VG}{mg:Vx}{base:VM}
theorem N0.imp{C:VI}{m:Str}{k:Nat}{ps:List Str}{dvs:List V}{sp sp':Sp}(F:N0 P w K mg base C m k ps dvs sp)(h:∀vs H Q E,sp' vs H Q E->sp vs H Q E):N0 P w K mg base C m k ps dvs sp':=by
 obtain⟨f,fd,ds,a,b,c,d,e⟩:=F.ex;exact⟨f,fd,ds,a.imp h,b,c,d,e⟩
end
theorem We{t u:TS}{D:MQ}{σ:St}{H:Hp}(h:∀N:St->Hp->Prop,(∀σ' H',u D σ' H'->N σ' H')->t {D with nx:=N} σ H):Ah t u D σ H:=h (u D) fun _ _ x=>x
theorem Qr(ns:VJ){lo hi:Nat}(h1:lo <=hi)(h2:hi <=ns.length):DX (ns.map V.int) (some (lo:Int)) (some (hi:Int))=((ns.drop lo).take (hi - lo)).map V.int:=by
 unfold DX;rw[HT.sIx_nat,HT.sIx_nat,List.length_map,Nat.min_eq_left h2,Nat.min_eq_left (Yu h1 h2),List.map_take,List.map_drop]
section
variable{κ:Type}[DecidableEq κ]
def Jh(kvs:List (κ×V))(k:κ):Option V:=(kvs.find? fun kv=>decide (kv.1=k)).map (·.2)
def Tp(kvs:List (κ×V))(k:κ)(v:V):List (κ×V):=
 if(kvs.any fun kv=>decide (kv.1=k))=true then kvs.map (fun kv=>if kv.1=k then(kv.1,v) else kv) else kvs++[(k,v)]
theorem ET{p:κ×V}{r:List (κ×V)}{k:κ}(e:p.1=k):Jh (p::r) k=some p.2:=by simp[Jh,Xb,e]
theorem BC{p:κ×V}{r:List (κ×V)}{k:κ}(e:¬p.1=k):Jh (p::r) k=Jh r k:=by simp[Jh,Xb,e]
theorem On(k:κ):∀kvs:List (κ×V),(kvs.any fun kv=>decide (kv.1=k))=(Jh kvs k).isSome
 |[]=>rfl
 |p::r=>by
  rw[Ul]
  by_cases e:p.1=k
  .simp only[ET e,Yw e,Vt,Option.isSome_some]
  .rw[BC e,Yt e,Bool.false_or];exact On k r
theorem Ql(kvs:List (κ×V))(k:κ)(v:V):(Tp kvs k v).length <=kvs.length+ 1:=by
 unfold Tp
 split
 .rw[List.length_map];lia
 .rw[Yx,List.length_cons,List.length_nil];lia
theorem Np.isSome_eq{o:Option V}{u:Option Value}(r:Np o u):o.isSome=u.isSome:=by
 cases o with
 |none=>cases u with
  |none=>rfl
  |some _=>exact(show False from r).elim
 |some _=>cases u with
  |none=>exact(show False from r).elim
  |some _=>rfl
theorem KV.val{kvs:List (κ×V)}{vs:List (κ×Value)}(r:KV kvs vs)(k:κ):Np (Jh kvs k) (valueAt vs k):=by
 unfold KV at r
 induction r with
 |nil=>exact True.intro
 |@cons p q ps qs h t ih=>
  obtain⟨h1,h2⟩:=h
  by_cases e:p.1=k
  .have a:q.1=k:=h1.symm.trans e;have b:valueAt (q::qs) k=some q.2:=by simp[valueAt,Xb,a]
   rw[ET e,b];exact h2
  .have a:¬q.1=k:=fun z=>e (h1.trans z)
   have b:valueAt (q::qs) k=valueAt qs k:=by simp[valueAt,Xb,a]
   rw[BC e,b];exact ih
theorem KV.any{kvs:List (κ×V)}{vs:List (κ×Value)}(r:KV kvs vs)(k:κ):(kvs.any fun kv=>decide (kv.1=k))=vs.any fun kv=>decide (kv.1=k):=by
 unfold KV at r
 induction r with
 |nil=>rfl
 |cons h t ih=>rw[Ul,Ul,ih,h.1]
theorem KV.repl{kvs:List (κ×V)}{vs:List (κ×Value)}(r:KV kvs vs)(k:κ){y:V}{u:VH}(ry:W9 y u):
  KV (kvs.map fun kv=>if kv.1=k then(kv.1,y) else kv) (vs.map fun kv=>if kv.1=k then(kv.1,u) else kv):=by
 unfold KV at r ⊢
 induction r with
 |nil=>exact .nil
 |@cons p q ps qs h t ih=>
  rw[List.map_cons,List.map_cons];refine .cons ?_ ih;obtain⟨h1,h2⟩:=h
  by_cases e:p.1=k
  .rw[Y9 e,Y9 (h1.symm.trans e)];exact⟨h1,ry⟩
  .rw[Y2 e,Y2 (fun z=>e (h1.trans z))];exact⟨h1,h2⟩
theorem KV.put{kvs:List (κ×V)}{vs:List (κ×Value)}(r:KV kvs vs)(k:κ){y:V}{u:VH}(ry:W9 y u):KV (Tp kvs k y) (stored vs k u):=by
 unfold Tp stored;rw[r.any k]
 by_cases e:(vs.any fun a=>decide (a.1=k))=true
 .rw[Y9 e,Y9 e];exact r.repl k ry
 .rw[Y2 e,Y2 e];exact Paired.snoc r ⟨rfl,ry⟩
theorem KV.length{kvs:List (κ×V)}{vs:List (κ×Value)}(r:KV kvs vs):kvs.length=vs.length:=Paired.length r
end
theorem BI{P:VB}{w:VF}{k:Wu}{u:VH}(r:W9 (kV k) u):(WC P w).is k u=true:=by
 cases k with
 |inl i=>obtain⟨t,e⟩:=(show ∃t,u=Value.int i t from r);subst e;exact wZ P w i t
 |inr x=>obtain⟨t,e⟩:=(show ∃t,u=Value.str x t from r);subst e;exact ZF P w x t
theorem LI{P:VB}{w:VF}:∀{ks:List Wu} {us:VL},W2 (ks.map kV) us->ItemsAre (WC P w) ks us
 |[],_,r=>by rw[List.map_nil]at r;cases r;exact .nil
 |k::ks,_,r=>by
  rw[List.map_cons]at r;cases r with
  |cons h t=>exact .cons (BI h) (LI t)
abbrev KT(H:Hp):List (List Wu×V)->List (List Wu×Addr×Value)->Prop:=Paired fun p q=>p.1=q.1/\H q.2.1=some (.tup (p.1.map kV))/\W9 p.2 q.2.2
theorem KT.val{H:Hp}{kvs:List (List Wu×V)}{xs:List (List Wu×Addr×Value)}(r:KT H kvs xs)(k:List Wu):Np (Jh kvs k) ((atKey xs k).map (·.2)):=by
 induction r with
 |nil=>exact True.intro
 |@cons p q ps qs h t ih=>
  obtain⟨h1,_,h2⟩:=h
  by_cases e:p.1=k
  .have a:q.1=k:=h1.symm.trans e;have b:atKey (q::qs) k=some q.2:=by simp[atKey,Xb,a]
   rw[ET e,b];exact h2
  .have a:¬q.1=k:=fun z=>e (h1.trans z)
   have b:atKey (q::qs) k=atKey qs k:=by simp[atKey,Xb,a]
   rw[BC e,b];exact ih
theorem KT.repl{H:Hp}{kvs:List (List Wu×V)}{xs:List (List Wu×Addr×Value)}(r:KT H kvs xs)(k:List Wu){y:V}{u:VH}(ry:W9 y u):
  KT H (kvs.map fun kv=>if kv.1=k then(kv.1,y) else kv) (xs.map (putAt k u)):=by
 induction r with
 |nil=>exact .nil
 |@cons p q ps qs h t ih=>
  rw[List.map_cons,List.map_cons];refine .cons ?_ ih;obtain⟨h1,h2,a⟩:=h;unfold putAt
  by_cases e:p.1=k
  .rw[Y9 e,Y9 (h1.symm.trans e)];exact⟨h1,h2,ry⟩
  .rw[Y2 e,Y2 (fun z=>e (h1.trans z))];exact⟨h1,h2,a⟩
theorem KT.put{H:Hp}{kvs:List (List Wu×V)}{xs:List (List Wu×Addr×Value)}(r:KT H kvs xs)(k:List Wu){b:VI}{y:V}{u:VH}(hb:H b=some (.tup (k.map kV)))(ry:W9 y u):
  KT H (Tp kvs k y) (storedH xs k b u):=by
 have e:(kvs.any fun a=>decide (a.1=k))=(atKey xs k).isSome:=by
  rw[On,(r.val k).isSome_eq,US]
 unfold Tp storedH;rw[e]
 by_cases q:(atKey xs k).isSome=true
 .rw[Y9 q,Y9 q];exact r.repl k ry
 .rw[Y2 q,Y2 q];exact Paired.snoc r ⟨rfl,hb,ry⟩
theorem KT.keeps{H H':Hp}{kvs:List (List Wu×V)}{xs:List (List Wu×Addr×Value)}(r:KT H kvs xs)(ht:∀b ys,H b=some (.tup ys)->H' b=some (.tup ys)):KT H' kvs xs:=
 Paired.mapP r fun _ _ z=>⟨z.1,ht _ _ z.2.1,z.2.2⟩
section
variable{P:VB}{w:VF}{H:Hp}{h:VM}{a:VI}
theorem Oa{u:HO}(ok:JU P w H h)(e:Rd H a u):Wf P w H h a u:=e.ok ok
theorem B9{kvs:List (Wu×V)}(ok:JU P w H h)(e:Rd H a (.dK kvs)):kvs.length <=sizeLine/\(a==sysModules)=false/\∃vs,KV kvs vs/\h.DictOf (WC P w) a vs:=
 show Wf P w H h a (.dK kvs) from Oa ok e
theorem OS{kvs:List (Wu×V)}(ok:JU P w H h)(e:H a=some (.dK kvs)):kvs.length <=sizeLine/\(a==sysModules)=false/\∃vs,KV kvs vs/\h.DictOf (WC P w) a vs:=B9 ok (.inl e)
theorem RJ{ks:List Wu}(ok:JU P w H h)(e:H a=some (.tup (ks.map kV))):(tupleKind (WC P w)).is h ks a:=by
 obtain⟨_,b,r,o,h1,h2,n,c⟩:=(show Wf P w H h a (.tup (ks.map kV)) from ok a _ e);exact⟨o,b.toArray,n,h1,h2,c,by simpa using LI r⟩
theorem B0{kvs:List (List Wu×V)}(ok:JU P w H h)(e:Rd H a (.dT kvs)):kvs.length <=sizeLine/\(a==sysModules)=false/\
  ∃xs,KT H kvs xs/\h.DictOfH (tupleKind (WC P w)) a xs:=by
 obtain⟨z,y,xs,r,o,es,ep,h1,h2,d,c,h5⟩:=(show Wf P w H h a (.dT kvs) from Oa ok e);refine⟨z,y,xs,r,o,es,ep,h1,h2,d,c,fun x b=>?_,h5⟩;have all:∀{l:List (List Wu×V)} {m:List (List Wu×Addr×Value)},KT H l m->∀x∈m,(tupleKind (WC P w)).is h x.1 x.2.1:=by
  intro l m q
  induction q with
  |nil=>intro x b;exact nomatch b
  |@cons p q ps qs hq t ih=>
   intro x b;rcases Y6.mp b with e|b
   .subst e;exact RJ ok (by rw[<-hq.1];exact hq.2.1)
   .exact ih x b
 exact all r x b
theorem F2{kvs:List (List Wu×V)}(ok:JU P w H h)(e:H a=some (.dT kvs)):kvs.length <=sizeLine/\(a==sysModules)=false/\
  ∃xs,KT H kvs xs/\h.DictOfH (tupleKind (WC P w)) a xs:=B0 ok (.inl e)
end
def Tv(H:Hp)(a:VI)(y:V)(r:Option V):Prop:=
 (∃kvs k,Rd H a (.dK kvs)/\y=kV k/\r=Jh kvs k)\/∃kvs k b,Rd H a (.dT kvs)/\y= .ref b/\H b=some (.tup (k.map kV))/\r=Jh kvs k
def Mw(H:Hp)(a:VI)(y v:V)(H':Hp):Prop:=
 (∃kvs k,H a=some (.dK kvs)/\y=kV k/\kvs.length < sizeLine/\H'=upd H a (.dK (Tp kvs k v)))\/
 ∃kvs k b,H a=some (.dT kvs)/\y= .ref b/\H b=some (.tup (k.map kV))/\kvs.length < sizeLine/\H'=upd H a (.dT (Tp kvs k v))
theorem Tv.k{H:Hp}{a:VI}{kvs:List (Wu×V)}{k:Wu}(e:H a=some (.dK kvs)):Tv H a (kV k) (Jh kvs k):=.inl ⟨kvs,k,.inl e,rfl,rfl⟩
theorem Mw.k{H:Hp}{a:VI}{kvs:List (Wu×V)}{k:Wu}{v:V}(e:H a=some (.dK kvs))(hl:kvs.length < sizeLine):Mw H a (kV k) v (upd H a (.dK (Tp kvs k v))):=.inl ⟨kvs,k,e,rfl,hl,rfl⟩
theorem Mw.t{H:Hp}{a b:VI}{kvs:List (List Wu×V)}{k:List Wu}{v:V}(e:H a=some (.dT kvs))(eb:H b=some (.tup (k.map kV)))(hl:kvs.length < sizeLine):
  Mw H a (.ref b) v (upd H a (.dT (Tp kvs k v))):=.inr ⟨kvs,k,b,e,rfl,eb,hl,rfl⟩
section
variable{X:Cx}{pins:VA}{σ:St}{H:Hp}{s:VC}{a:VI}{y v:V}{u r:VH}{o:Option V}{A:VE}{E:Vy}
theorem VV.big(I:VV X pins σ H s):sysModules < s.heap.objs.size:=by
 have h:mainGlobals < s.heap.objs.size:=(I.mod.glob.keeps I.bk).lt;exact Nat.lt_trans (by decide) h
theorem dO{Q:Vy}(hu:A.units+ 1 < cLine)(I:VV X pins σ H s)(g:Tv H a y (some v))(ry:W9 y u)(h:∀w' s',VV X pins σ H s'->W9 v w'->Q w' s'):
  wpAny (model X.prog X.w) A (getItem (.ref a) u) Q E s:=by
 rcases g with⟨kvs,k,e,ey,l⟩|⟨kvs,k,b,e,ey,eb,l⟩
 .subst ey;obtain⟨z,hd,vs,d,i⟩:=B9 I.hok e;obtain⟨w',f,c⟩:=Np.some_of (v:=v) (o:=valueAt vs k) (by rw[l];exact d.val k);exact wpAny_getItem_of (BI ry) i.mapOf f (h w' _ (I.tok _) c)
 .subst ey;cases (show u=Value.ref b from ry);obtain⟨z,hd,xs,d,i⟩:=B0 I.hok e;obtain⟨w',f,c⟩:=Np.some_of (v:=v) (o:=(atKey xs k).map (·.2)) (by rw[l];exact d.val k);obtain⟨p,n,j⟩:=YA.mp f;refine wpAny_getItem_heap (Xl hu) (RJ I.hok eb) i n ?_;rw[j];exact h w' _ (I.tok _) c
theorem O9{Q:Vy}(hu:A.units+ 1 < cLine)(I:VV X pins σ H s)(g:Tv H a y o)(ry:W9 y u)(h:∀s',VV X pins σ H s'->Q (.bool o.isSome) s'):
  wpAny (model X.prog X.w) A (compareOp .In u (.ref a)) Q E s:=by
 rcases g with⟨kvs,k,e,ey,l⟩|⟨kvs,k,b,e,ey,eb,l⟩
 .subst ey;obtain⟨z,hd,vs,c,d⟩:=B9 I.hok e;refine wpAny_in_of (BI ry) hd d.mapOf ?_;rw[<-(c.val k).isSome_eq,<-l];exact h _ (I.tok _)
 .subst ey;cases (show u=Value.ref b from ry);obtain⟨z,hd,xs,c,d⟩:=B0 I.hok e;refine wpAny_in_heap (Xl hu) (RJ I.hok eb) hd d ?_;have q:=(c.val k).isSome_eq;rw[US]at q;rw[<-q,<-l];exact h _ (I.tok _)
theorem yY{Q:Vy}(hu:A.units+ 1 < cLine)(I:VV X pins σ H s)(g:Tv H a y o)(ry:W9 y u)(h:∀s',VV X pins σ H s'->Q (.bool (!o.isSome)) s'):
  wpAny (model X.prog X.w) A (compareOp .NotIn u (.ref a)) Q E s:=by
 rcases g with⟨kvs,k,e,ey,l⟩|⟨kvs,k,b,e,ey,eb,l⟩
 .subst ey;obtain⟨z,hd,vs,c,d⟩:=B9 I.hok e;refine wpAny_notIn_of (BI ry) hd d.mapOf ?_;rw[<-(c.val k).isSome_eq,<-l];exact h _ (I.tok _)
 .subst ey;cases (show u=Value.ref b from ry);obtain⟨z,hd,xs,c,d⟩:=B0 I.hok e;refine wpAny_notIn_heap (Xl hu) (RJ I.hok eb) hd d ?_;have q:=(c.val k).isSome_eq;rw[US]at q;rw[<-q,<-l];exact h _ (I.tok _)
theorem Ck{h':VM}{t':Nat}{ob:HO}(I:VV X pins σ H s)(mu:B1 (H a))(hs:Heap.SameBut a s.heap h')(he:∃q,h'.get? a=some q)(new:Wf X.prog X.w (upd H a ob) h' a ob):
  VV X pins σ (upd H a ob) {s with heap:=h',toks:=t'}:=
 I.write (x:=a) (e:=a) mu (.inl rfl) (fun b q c z=>(hs.2 b c).trans z) he new
theorem yA{P:VB}{w:VF}{H':Hp}{h':VM}{kvs:List (Wu×V)}{vs:List (Wu×Value)}(z:kvs.length <=sizeLine)(hd:(a==sysModules)=false)(rel:KV kvs vs)(dd:h'.DictOf (WC P w) a vs):
  Wf P w H' h' a (.dK kvs):=⟨z,hd,vs,rel,dd⟩
theorem Ht{H':Hp}{Q:Vz}(hu:A.units+ 1 < cLine)(I:VV X pins σ H s)(g:Mw H a y v H')(ry:W9 y u)(rv:W9 v r)(h:∀s',VV X pins σ H' s'->Q () s'):
  wpAny (model X.prog X.w) A (setItem (.ref a) u r) Q E s:=by
 rcases g with⟨kvs,k,e,ey,l,eH⟩|⟨kvs,k,b,e,ey,eb,l,eH⟩
 .subst ey eH;obtain⟨z,hd,vs,d,o⟩:=OS I.hok e;have j:vs.length <=sizeLine:=by rw[<-d.length];exact z
  have n:(Tp kvs k v).length <=sizeLine:=by have:=Ql kvs k v;lia
  refine wpAny_setItem_pairs (hsz:=j) (BI ry) o fun h' f hs=>h _ ?_
  have x:∃q,h'.get? a=some q:=let ⟨q,_,_,i,_⟩:=f;⟨q,i⟩;exact Ck I (by rw[e];exact True.intro) hs x (yA n hd (d.put k rv) f)
 .subst ey eH;cases (show u=Value.ref b from ry);obtain⟨z,hd,xs,d,o⟩:=F2 I.hok e;have j:xs.length <=sizeLine:=by rw[<-Paired.length d];exact z
  have n:(Tp kvs k v).length <=sizeLine:=by have:=Ql kvs k v;lia
  refine wpAny_setItem_heap (hsz:=j) (Xl hu) (RJ I.hok eb) o fun h' f hs=>h _ ?_
  obtain⟨q,es,ep,i,h2,h3,h4,_,h5⟩:=f;refine Ck I (by rw[e];exact True.intro) hs ⟨q,i⟩ ⟨n,hd,_,(d.put k eb rv).keeps fun c ys p=>?_,q,es,ep,i,h2,h3,h4,h5⟩;rw[Wh (VS p e (fun z=>nomatch z))];exact p
end
def IE(i:VN):Prop:=∀ov iv,subscripted i false ov iv=operate [ov,iv] (getItem ov iv)
theorem vV{prog:VB}{w:VF}{A:VE}{E:Vy}{s:VC}{env:Env}{value slice:VN}{pos:Pos}{T id:String}{Q:Vy}
  (hl:typeLookup (.type T) "__getitem__"=pure (some (.builtin id))) (hs:IE slice)
  (h:wpAny (model prog w) A (eval value env) (fun o s₁=>wpAny (model prog w) A (eval slice env) (fun i s₂=>s₂.TypeIs o T/\wpAny (model prog w) A (getItem o i) Q E s₂) E s₁) E s):
  wpAny (model prog w) A (eval (.Subscript value slice pos) env) Q E s:=by
 refine Subscript_ (YC h (fun o s₁ f=>YC f (fun i s₂ b=>?_) fun _ _ x=>x) fun _ _ x=>x);obtain⟨d,b⟩:=b;unfold subscriptTail;refine Y0 ?_;rw[getitemInPython_of_ne d.not_modules];refine Y0 (wpAny_specialOf d hl ?_);have a:wpAny (model prog w) A (subscripted slice false o i) (fun r c=>wpAny (model prog w) A (letTemporaryGo value o r >>=fun _=>pure r) Q E c) E s₂:=by
  rw[hs o i];exact wpAny_operating (YC b (fun r c e=>Y0 (wpAny_letTemporaryGo (Y4 e))) fun _ _ x=>x)
 first
  |exact Y4 (Y0 a)
  |exact Y0 (Y4 (Y0 a))
  |exact Y0 a
theorem xK{X:Cx}{pins:VA}{σ:St}{H:Hp}{s:VC}{a:VI}{y:V}{o:Option V}(I:VV X pins σ H s)(g:Tv H a y o):s.TypeIs (.ref a) "dict":=by
 rcases g with⟨kvs,k,e,_,_⟩|⟨kvs,k,b,e,_,_,_⟩
 .obtain⟨_,_,vs,_,c⟩:=B9 I.hok e;exact c.typeIs
 .obtain⟨_,_,xs,_,c⟩:=B0 I.hok e;exact c.typeIs
def AI(td ty:TE):TE:=fun σ H Q=>td σ H fun x H1=>ty σ H1 fun y H2=>∃a v,x= .ref a/\Tv H2 a y (some v)/\Q v H2
section
variable{X:Cx}{o i e value:VN}{pos pos' tpos:Pos}{td ty tv:TE}
theorem Sh(hu:X.A.units+ 1 < cLine)(ho:PE X o td)(hi:PE X i ty)(hs:IE i):PE X (.Subscript o i pos) (AI td ty):=by
 intro pins s σ H Q I h;refine vV PySem.F.slot_dict_getitem.lookup hs (Wj (ho pins s σ H _ I h) fun u s1 ⟨x,H1,n,e,j⟩=>Wj (hi pins s1 σ H1 _ n j) fun q s2 zz=>?_);rcases zz with⟨y,H2,c,d,a,v,ex,g,f⟩;subst ex;obtain rfl:u=Value.ref a:=e;exact⟨xK c g,dO hu c g d fun p s3 l b=>⟨v,H2,l,b,f⟩⟩
end
theorem Zn{P:VB}{w:VF}{H:Hp}(h:VM)(hb:sysModules < h.objs.size):Wf P w H (h.push {cls:=.type "dict",data:=.dict #[]}) h.objs.size (.dK []):=
 ⟨Yh _,X3.mpr (Ne.symm (Yi hb)),[],.nil,Heap.DictOf.new h⟩
theorem jC{P:VB}{w:VF}{H:Hp}(h:VM)(hb:sysModules < h.objs.size):Wf P w H (h.push {cls:=.type "dict",data:=.dict #[]}) h.objs.size (.dT []):=
 ⟨Yh _,X3.mpr (Ne.symm (Yi hb)),[],.nil,_,#[],0,Yj _ rfl,⟨rfl,rfl,rfl⟩,rfl,rfl,List.nodup_nil⟩
def wY:TE:=fun _ H Q=>∀p,H p=none->Q (.ref p) (upd H p (.dK []))
def tK:TE:=fun _ H Q=>∀p,H p=none->Q (.ref p) (upd H p (.dT []))
section
variable{X:Cx}{pos:Pos}
theorem yS:PE X (.Dict [] [] pos) wY:=fun pins s σ H Q I h=>
 wpAny_Dict_empty ⟨.ref s.heap.objs.size,_,I.laid (a:=s.heap.objs.size) (o:=.dK []) (t':=s.toks) (fun _ _ q=>Y3 _ q) (Y1 _) (Zn s.heap I.big),rfl,h _ (I.hok.fresh (Y1 _))⟩
theorem vA:PE X (.Dict [] [] pos) tK:=fun pins s σ H Q I h=>
 wpAny_Dict_empty ⟨.ref s.heap.objs.size,_,I.laid (a:=s.heap.objs.size) (o:=.dT []) (t':=s.toks) (fun _ _ q=>Y3 _ q) (Y1 _) (jC s.heap I.big),rfl,h _ (I.hok.fresh (Y1 _))⟩
end
end L2
set_option maxHeartbeats 400000
namespace L2
open PySem PySem.Spec PyProof.Rows
section
variable{prog:VB}{w:VF}{A:VE}{E:Vy}{s:VC}
theorem uH{id:String}{b:Builtin}{args:VL}{kw:List (Str×Value)}{Q:Vy}(hk:builtinKind id=none)(hp:plainId id=true)(hb:entryFor table id=some b)(ha:argsOk id ⟨args,kw⟩)
  (hc:wpAny (model prog w) A.in1 (b ⟨args,kw⟩) (fun f s'=>∃c,f= .again c/\c.quiet=true/\codeAny (model prog w) A c (fun r s'=>match r with| .ok (.ret v)=>Q v s'| .ok _=>False| .error e=>E e s') s') E s):
  wpAny (model prog w) A (call (.builtin id) args kw) Q E s:=by
 refine XU (Xw hp hb ?_); simp only [checkBuiltinCall, hk];have a := YC (Q' := fun g s' => match g with
   | .done f=>(match (Except.ok f:Result) with| .ok (.ret v)=>Q v s'| .ok _=>False| .error e=>E e s')
   | .again c' => c'.quiet = true /\ codeAny (model prog w) A c' (fun r s' => match r with | .ok (.ret v) => Q v s' | .ok _ => False | .error e => E e s') s') hc (fun f s' ⟨c, e, z⟩ => by subst e; exact z) fun _ _ z => z
 cases hsig:Manifest.signature? id with
 |none=>exact Y4 a
 |some sig=>
  have d:Bind.checkArgs id sig ⟨args,kw⟩=pure ():=by simpa only[argsOk,hsig] using ha
  simp only[d];exact Y4 a
end
section
variable{prog:VB}{w:VF}{A:VE}{R:Result->Shared->Prop}{I:VI}{fp wr:List Addr}{n:Nat}{P:Nat->Value->Prop}{St:Nat->Heap->Prop}
theorem HR{a b:VH}:(#[a,b]:Array Value).size <=sizeLine:=by show 2 <=sizeLine;rw[YE];decide
theorem O8{a b:VH}:(#[a,b]:Array Value).size <=sizeLine+ 1:=Nat.le_succ_of_le HR
theorem QW:(#[]:Array Value).size <=sizeLine+ 1:=Yh _
end
structure Az(mg:Vx):Prop where
 sum:mg "sum"=none
 sorted:mg "sorted"=none
section
variable{X:Cx}{pos pos':Pos}{o i value:VN}{td ty tv:TE}
def Ll:TE:=fun _ H Q=>∀p G,H p=none->VP H G->G p=some (.dK [])->Q (.ref p) G
theorem Fs:PE X (.Dict [] [] pos) Ll:=fun pins s σ H Q I h=>yS pins s σ H Q I fun p a=>h p _ a (NX a) WU
def Ke(td ty tv:TE):TS:=fun D σ H=>tv σ H fun v H1=>td σ H1 fun x H2=>ty σ H2 fun y H3=>∃a n kvs,x= .ref a/\y= .int n/\H3 a=some (.dK kvs)/\kvs.length < sizeLine/\∀G,WP a H3 G->G a=some (.dK (Tp kvs (.inl n) v))->D.nx σ G
theorem SF(hu:X.A.units+ 1 < cLine)(ho:PE X o td)(hi:PE X i ty)(hv:PE X value tv)(hs:swapsWith value (some (.Subscript o i pos')) pos.line X.env=pure false):
  PS X (.Assign [.Subscript o i pos'] value pos) (Ke td ty tv):=by
 intro pins s σ H D I h;refine Uj (Wj (hv pins s σ H _ I h) fun r s1 ⟨v,H1,I1,d,g⟩=>Wj (ho pins s1 σ H1 _ I1 g) fun u s2 ⟨x,H2,z,c,f⟩=>Wj (hi pins s2 σ H2 _ z f) fun iv s3 zz=>?_) hs;rcases zz with⟨y,H3,w,b,a,n,kvs,ex,l,p,j,e⟩;subst ex l;obtain rfl:u=Value.ref a:=c;exact Ht hu w (Mw.k (k:=Sum.inl n) p j) b d fun s4 q=>⟨σ,_,q,e _ WP.upd WU⟩
def CY:R2:=fun y x H Q=>∃a n kvs,y= .int n/\x= .ref a/\H a=some (.dK kvs)/\Q (.bl (!(Jh kvs (Sum.inl n)).isSome)) H
theorem Zq(hu:X.A.units+ 1 < cLine):Ja X (compareOp .NotIn) CY:=by
 intro pins s σ H y x v u Q I b c h;obtain⟨a,n,kvs,rfl,rfl,d,q⟩:=h;cases c;exact yY hu I (Tv.k (k:=Sum.inl n) d) b fun s' e=>⟨.bl _,H,e,rfl,q⟩
end
end L2
set_option maxHeartbeats 4000000
namespace L2
open PySem PySem.Spec PyProof.Rows
end L2
namespace L2
open PySem PySem.Spec PyProof.Rows PySem.W
section
variable{α β:Type}{N:Nat}{lt:Nat->Nat->Bool}
def Nv(N:Nat)(lt:Nat->Nat->Bool):KasT α->(α->Prop)->Prop
 | .ret a,Q=>Q a
 | .ask i j k,Q=>i < N/\j < N/\Nv N lt (k (lt i j)) Q
theorem Nv.bind{f:α->KasT β}{Q:β->Prop}:∀{t:KasT α},Nv N lt t (fun a=>Nv N lt (f a) Q)->Nv N lt (t.bind f) Q
 | .ret _,h=>h
 | .ask i j k,h=>⟨h.1,h.2.1,Nv.bind (t:=k (lt i j)) h.2.2⟩
theorem Nv.wp{cmp:Nat->Nat->(Bool->Shared->Prop)->Shared->Prop}{s:VC}{R:α->Shared->Prop}{Q:α->Prop}(hc:∀i j C,i < N->j < N->C (lt i j) s->cmp i j C s)(hq:∀a,Q a->R a s):∀{t:KasT α},Nv N lt t Q->t.kasWp cmp R s
 | .ret a,h=>hq a h
 | .ask i j k,h=>hc i j _ h.1 h.2.1 (Nv.wp hc hq (t:=k (lt i j)) h.2.2)
end
section
variable{O:KeyOrd}{key:Nat->O.α}{N:Nat}{p:Array Nat}
def SK(O:KeyOrd)(key:Nat->O.α)(p:Array Nat)(i:Nat):O.α:=key (p.getD i 0)
def MM(O:KeyOrd)(key:Nat->O.α)(p:Array Nat)(k:Nat):Prop:=∀i j,i <=j->j < k->O.kle (SK O key p i) (SK O key p j)
def BD(O:KeyOrd)(key:Nat->O.α)(p:Array Nat)(k:Nat):Prop:=∀i j,i <=j->j < k->O.kle (SK O key p j) (SK O key p i)
theorem Bx{q:Array Nat}{i j:Nat}(h:p[i]?=q[j]?):SK O key p i=SK O key q j:=by
 unfold SK;rw[UK,UK,h]
theorem LQ{src d:Nat}(hs:src < p.size)(hd:d <=src)(k:Nat):
  SK O key (bubble p src d) k=if k=src - d then SK O key p src else if src - d < k/\k <=src then SK O key p (k - 1) else SK O key p k:=by
 have e:=getElem?_bubble hs d hd k
 by_cases h1:k=src - d
 .rw[Y9 h1]at e ⊢;exact Bx e
 .rw[Y2 h1]at e ⊢
  by_cases h2:src - d < k/\k <=src
  .rw[Y9 h2]at e ⊢;exact Bx e
  .rw[Y2 h2]at e ⊢;exact Bx e
theorem Kc{i j:Nat}(hj:j <=p.size)(k:Nat):SK O key (kas_rev p i j) k=if i <=k/\k < j then SK O key p (i+ j - 1 - k) else SK O key p k:=by
 unfold kas_rev;have e:=getElem?_mirror_all (i:=i) hj k
 by_cases h1:i <=k/\k < j
 .rw[Y9 h1]at e ⊢;exact Bx e
 .rw[Y2 h1]at e ⊢;exact Bx e
theorem Bm{i j:Nat}(hj:j <=p.size)(heq:∀k,i <=k->k < j->SK O key p k=SK O key p (j - 1))(k:Nat):SK O key (kas_rev p i j) k=SK O key p k:=by
 rw[Kc hj]
 split
 .rw[heq _ (by lia) (by lia),heq k (by lia) (by lia)]
 .rfl
def Wn(N:Nat)(p:Array Nat):Prop:=p.Perm (List.toArray (List.range N))
theorem Wn.size(h:Wn N p):p.size=N:=by have:=Array.Perm.size_eq h;simpa using this
theorem Wn.lt(h:Wn N p)(h0:0 < N)(i:Nat):p.getD i 0 < N:=by
 by_cases hi:i < p.size
 .have e:p.getD i 0=p[i]:=by simp[Array.getD,hi]
  rw[e];have a:p[i]∈(List.toArray (List.range N)).toList:=(Xq.mp h).mem_iff.mp (by simp);simpa using a
 .have e:p.getD i 0=0:=by simp[Array.getD,hi]
  rw[e];exact h0
theorem Wn.rev(h:Wn N p)(i j:Nat):Wn N (kas_rev p i j):=(mirror_perm _ _ _ _).trans h
theorem Wn.bub(h:Wn N p)(i j:Nat):Wn N (bubble p i j):=(bubble_perm _ _ _).trans h
abbrev NG(O:KeyOrd)(key:Nat->O.α)(i j:Nat):Bool:=O.blt (key i) (key j)
theorem HV(h0:0 < N)(hp:Wn N p){Q:Nat->Prop}:∀ (f n:Nat),1 <=n->MM O key p n->(∀m,n <=m->m <=n+ f->MM O key p m->(m=n+ f\/O.klt (SK O key p m) (SK O key p (m - 1)))->Q m)->Nv N (NG O key) (kas_asc p f n) Q
 |0,n,_,hs,h=>h n (Y1 _) (Y1 _) hs (.inl rfl)
 |f+ 1,n,h1,hs,h=>by
  refine⟨hp.lt h0 _,hp.lt h0 _,?_⟩;cases hl:NG O key (p.getD n 0) (p.getD (n - 1) 0) with
  |true=>
   simp only[if_true];exact h n (Y1 _) (by lia) hs (.inr hl)
  |false=>
   simp only[Bool.false_eq_true,if_false];refine HV h0 hp f (n+ 1) (by lia) (fun i j hij hj=>?_) fun m a b c d=>h m (by lia) (by lia) c (d.elim (fun e=>.inl (by lia)) .inr)
   by_cases hjx:j < n
   .exact hs i j hij hjx
   .obtain rfl:j=n:=by lia
    by_cases hi':i=j
    .subst hi';exact X2 _
    .exact Up (hs i (j - 1) (by lia) (by lia)) hl
theorem AH(h0:0 < N){Q:Array Nat×Nat×Nat->Prop}:∀ (f:Nat) (p:Array Nat) (n q:Nat),Wn N p->1 <=n->n+ f <=N->BD O key p n->q+ 1 <=n->(∀i,n - (q+ 1) <=i->i < n->SK O key p i=SK O key p (n - 1))->
  (∀p' m q',Wn N p'->n <=m->m <=n+ f->BD O key p' m->q'+ 1 <=m->(∀i,m - (q'+ 1) <=i->i < m->SK O key p' i=SK O key p' (m - 1))->Q (p',m,q'))->Nv N (NG O key) (kas_desc f p n q) Q
 |0,p,n,q,hp,h1,hn,hs,hq,he,h=>h p n q hp (Y1 _) (Y1 _) hs hq he
 |f+ 1,p,n,q,hp,h1,hn,hs,hq,he,h=>by
  have hsz:n <=p.size:=by rw[hp.size];lia
  refine⟨hp.lt h0 _,hp.lt h0 _,?_⟩;cases hl:NG O key (p.getD n 0) (p.getD (n - 1) 0) with
  |true=>
   simp only[if_true];have l:∀xs:Array Nat,(∀k,SK O key xs k=SK O key p k)->BD O key xs (n+ 1):=by
    intro xs s i j o u;rw[s,s]
    by_cases hjx:j < n
    .exact hs i j o hjx
    .obtain rfl:j=n:=by lia
     by_cases hi':i=j
     .subst hi';exact X2 _
     .exact Up (Ue (show O.klt (SK O key p j) (SK O key p (j - 1)) from hl)) (hs i (j - 1) (by lia) (by lia))
   by_cases hneq:q > 0
   .rw[Y9 hneq];exact AH h0 f _ (n+ 1) 0 (hp.rev _ _) (by lia) (by lia) (l _ (Bm hsz he)) (by lia) (fun i h1 h2=>by congr 1;lia) fun p' m q' a b c d e g=>h p' m q' a (by lia) (by lia) d e g
   .rw[Y2 hneq];exact AH h0 f _ (n+ 1) 0 hp (by lia) (by lia) (l _ fun _=>rfl) (by lia) (fun i h1 h2=>by congr 1;lia) fun p' m q' a b c d e g=>h p' m q' a (by lia) (by lia) d e g
  |false=>
   simp only[Bool.false_eq_true,if_false];refine⟨hp.lt h0 _,hp.lt h0 _,?_⟩;cases hl2:NG O key (p.getD (n - 1) 0) (p.getD n 0) with
   |true=>
    simp only[if_true];exact h p n q hp (Y1 _) (by lia) hs hq he
   |false=>
    simp only[Bool.false_eq_true,if_false];have r:SK O key p n=SK O key p (n - 1):=KeyOrd.kle_antisymm hl2 hl;refine AH h0 f p (n+ 1) (q+ 1) hp (by lia) (by lia) (fun i j o u=>?_) (by lia) (fun i h1 h2=>?_) fun p' m q' a b c d e g=>h p' m q' a (by lia) (by lia) d e g
    .by_cases hjx:j < n
     .exact hs i j o hjx
     .obtain rfl:j=n:=by lia
      by_cases hi':i=j
      .subst hi';exact X2 _
      .rw[r];exact hs i (j - 1) (by lia) (by lia)
    .rw[show n+ 1 - 1=n by lia]
     by_cases hix:i=n
     .subst hix;rfl
     .rw[r];exact he i (by lia) (by lia)
theorem Px(h0:0 < N)(hp:Wn N p){n nrem:Nat}{Q:Nat×Array Nat->Prop}(h1:1 <=n)(hnn:n <=nrem)(hN:nrem <=N)(hs:BD O key p n)
  (h:∀m p',Wn N p'->1 <=m->m <=nrem->MM O key p' m->Q (m,p')):Nv N (NG O key) (kas_tail3 n nrem p) Q:=by
 unfold kas_tail3;have d:n <=p.size:=by rw[hp.size];lia
 refine Nv.bind (HV h0 (hp.rev 0 n) _ _ h1 ?_ fun m a b c _=>h m _ (hp.rev 0 n) (by lia) (by lia) c);intro i j e f;rw[Kc d,Kc d,Y9 (by lia),Y9 (by lia)];exact hs _ _ (by lia) (by lia)
theorem PV(h0:0 < N)(hp:Wn N p){n nrem:Nat}{Q:Nat×Array Nat->Prop}(hnn:n+ 1 <=nrem)(hN:nrem <=N)(hs:BD O key p (n+ 1))
  (h:∀m p',Wn N p'->1 <=m->m <=nrem->MM O key p' m->Q (m,p')):Nv N (NG O key) (kas_descPart n nrem p) Q:=by
 unfold kas_descPart;refine Nv.bind (AH h0 _ _ _ _ hp (by lia) (by lia) hs (by lia) (fun i h1 h2=>by congr 1;lia) fun p' m o a b c d e g=>?_);dsimp only;have f:m <=p'.size:=by rw[a.size];lia
 by_cases hq:o > 0
 .rw[Y9 hq];refine Px h0 (a.rev _ _) (by lia) (by lia) hN ?_ h;intro i j l q;rw[Bm f g,Bm f g];exact d i j l q
 .rw[Y2 hq];exact Px h0 a (by lia) (by lia) hN d h
theorem ZO(h0:0 < N)(hp:Wn N p){nrem:Nat}{Q:Nat×Array Nat->Prop}(h1:1 <=nrem)(hN:nrem <=N)
  (h:∀m p',Wn N p'->1 <=m->m <=nrem->MM O key p' m->Q (m,p')):Nv N (NG O key) (kas_count nrem p) Q:=by
 unfold kas_count;refine Nv.bind (HV h0 hp _ _ (Y1 1) (fun i j f l=>by obtain rfl:i=j:=(by lia);exact X2 _) fun n d s b g=>?_)
 by_cases hnn:n=nrem
 .rw[Y9 (by simpa using hnn)];exact h n p hp d (by lia) b
 .rw[Y2 (by simpa using hnn)];have e:O.klt (SK O key p n) (SK O key p (n - 1)):=g.resolve_left (by lia)
  by_cases hgt:n > 1
  .rw[Y9 hgt];refine⟨hp.lt h0 _,hp.lt h0 _,?_⟩;cases hrose:NG O key (p.getD 0 0) (p.getD (n - 1) 0) with
   |true=>
    simp only[if_true];exact h n p hp d (by lia) b
   |false=>
    simp only[Bool.false_eq_true,if_false];have c:n <=p.size:=by rw[hp.size];lia
    have a:∀k,0 <=k->k < n->SK O key p k=SK O key p (n - 1):=by
     intro k _ o;have r:=b 0 k (by lia) o;have q:=b k (n - 1) (by lia) (by lia);exact KeyOrd.kle_antisymm q (Up (show O.kle (SK O key p (n - 1)) (SK O key p 0) from hrose) r)
    refine PV h0 (hp.rev _ _) (by lia) hN ?_ h;intro i j f l;rw[Bm c a,Bm c a]
    by_cases hjn:j < n
    .rw[a i (by lia) (by lia),a j (by lia) hjn];exact X2 _
    .obtain rfl:j=n:=by lia
     by_cases hi':i=j
     .subst hi';exact X2 _
     .rw[a i (by lia) (by lia)];exact Ue e
  .rw[Y2 hgt];obtain rfl:n=1:=by lia
   refine PV h0 hp (by lia) hN ?_ h;intro i j f l
   by_cases hi':i=j
   .subst hi';exact X2 _
   .obtain rfl:i=0:=by lia
    obtain rfl:j=1:=by lia
    exact Ue e
theorem Kf(h0:0 < N)(hp:Wn N p){k:Nat}(hs:MM O key p k){Q:Nat->Prop}:∀ (f l r:Nat),l <=r->r <=k->r - l <=f->(∀i,i < l->O.kle (SK O key p i) (SK O key p k))->(∀i,r <=i->i < k->O.klt (SK O key p k) (SK O key p i))->
  (∀l,l <=k->(∀i,i < l->O.kle (SK O key p i) (SK O key p k))->(∀i,l <=i->i < k->O.klt (SK O key p k) (SK O key p i))->Q l)->Nv N (NG O key) (kas_place p k f l r) Q
 |0,l,r,h1,h2,h3,hlo,hhi,h=>by
  obtain rfl:l=r:=by lia
  exact h l h2 hlo hhi
 |f+ 1,l,r,h1,h2,h3,hlo,hhi,h=>by
  unfold kas_place
  by_cases hge:l≥r
  .rw[Y9 hge];obtain rfl:l=r:=by lia
   exact h l h2 hlo hhi
  .rw[Y2 hge];refine⟨hp.lt h0 _,hp.lt h0 _,?_⟩;cases hl:NG O key (p.getD k 0) (p.getD ((l+ r) / 2) 0) with
   |true=>
    simp only[if_true];refine Kf h0 hp hs f _ _ (by lia) (by lia) (by lia) hlo (fun i a b=>?_) h;exact KeyOrd.klt_of_klt_of_kle (show O.klt (SK O key p k) (SK O key p ((l+ r) / 2)) from hl) (hs _ _ a b)
   |false=>
    simp only[Bool.false_eq_true,if_false];refine Kf h0 hp hs f _ _ (by lia) (by lia) (by lia) (fun i a=>?_) hhi h;exact Up (hs i ((l+ r) / 2) (by lia) (by lia)) (show O.kle (SK O key p ((l+ r) / 2)) (SK O key p k) from hl)
theorem P4(h0:0 < N){Q:Array Nat->Prop}:∀ (f:Nat) (p:Array Nat) (k:Nat),Wn N p->k+ f <=N->MM O key p k->(∀p',Wn N p'->MM O key p' (k+ f)->Q p')->Nv N (NG O key) (kas_bin f p k) Q
 |0,p,k,hp,hk,hs,h=>h p hp hs
 |f+ 1,p,k,hp,hk,hs,h=>by
  unfold kas_bin;refine Nv.bind (Kf h0 hp hs k 0 k (by lia) (by lia) (by lia) (fun i hi=>by lia) (fun i a b=>by lia) fun l hl hlo hhi=>?_);refine P4 h0 f _ (k+ 1) (hp.bub _ _) (by lia) ?_ fun p' a b=>h p' a (by rw[show k+ (f+ 1)=k+ 1+ f by lia];exact b)
  have hks:k < p.size:=by rw[hp.size];lia
  intro i j c d;rw[LQ hks (by lia),LQ hks (by lia),show k - (k - l)=l by lia]
  repeat' split
  all_goals first
   |(exfalso;lia)
   |exact X2 _
   |exact hlo _ (by lia)
   |exact Ue (hhi _ (by lia) (by lia))
   |exact hs _ _ (by lia) (by lia)
theorem Bk(h0:0 < N){Q:Array Nat->Prop}(h:∀p,Wn N p->MM O key p N->Q p):Nv N (NG O key) (kas_sort N) Q:=by
 unfold kas_sort;refine Nv.bind (ZO h0 (Array.Perm.refl _) h0 (Y1 _) fun m d c h1 f hs=>?_);dsimp only
 by_cases hlt:m < N
 .rw[Y9 hlt];have e:max m 1=m:=by lia
  rw[e];refine P4 h0 _ _ _ c (by lia) hs fun p2 a b=>h p2 a ?_
  rwa [show m+ (N - m)=N by lia]at b
 .rw[Y2 hlt];obtain rfl:m=N:=by lia
  exact h d c hs
end
section
variable{prog:VB}{w:VF}{A:VE}{E:Vy}{s:VC}{O:KeyOrd}{key:Nat->O.α}{κ:SortKind}{vs:VL}
theorem O5(vs:VL):(List.range vs.length).map (fun i=>vs.getD i Value.none)=vs:=by
 apply List.ext_getElem?;intro i;rw[Yk]
 by_cases h:i < vs.length
 .rw[Vr h,Y7 h];simp[h]
 .rw[Vh (by simpa using h),Vh (by simpa using h)];rfl
end
section
variable{prog:VB}{w:VF}{A:VE}{E:Vy}{s:VC}
theorem nQ{a b:Int}{t u:Tok}{Q:Vy}(h:Q (.bool (decide (a < b))) s):wpAny (model prog w) A (richCompare .Lt (.int a t) (.int b u)) Q E s:=
 CmpOf.ints_lt (P := fun i v => (i = 0 /\ v = .int a t) \/ (i ≠ 0 /\ v = .int b u)) (fun i => if i = 0 then a else b) (by
  rintro i v (⟨rfl,rfl⟩|⟨h,rfl⟩)
  .exact⟨t,rfl⟩
  .exact ⟨u, by rw [Y2 h]⟩) 0 1 _ _ s Q E (.inl ⟨rfl, rfl⟩) (.inr ⟨by decide, rfl⟩) h
def IsPair(h:VM)(v:VH)(p:Int×Int):Prop:=∃a t u,v= .ref a/\IsTup h a #[.int p.1 t,.int p.2 u]
end
end L2
namespace L2
open PySem PySem.Spec PyProof.Rows
section
variable{X:Cx}{pins:VA}{σ:St}{H:Hp}{s:VC}{h':VM}
theorem VV.turnL{t':Nat}{wr:List Addr}(I:VV X pins σ H s)(hf:∀b∈wr,NP X pins H b)(k:∀b o,b∉wr->s.heap.get? b=some o->h'.get? b=some o):VV X pins σ H {s with heap:=h',toks:=t'}:=by
 have f:∀b u,H b=some u->b∉wr:=fun b u e z=>by rw[(hf b z).1]at e;cases e
 refine I.step (g':=s.gens) (d':=s.drawn) (ch:=wr) (fun b d=>⟨(hf b d).2.2.2.1,(hf b d).2.1,(hf b d).2.2.2.2.1,(hf b d).2.2.2.2.2⟩) (fun b o _ _ a e _=>k b o a e) (fun b o _ _ a e _=>⟨o.slots,k b o a e⟩) (fun _ _ _ _ n=>n)
  (fun b o a e=>⟨o,k b o a e⟩) (fun _ _ e=>e) (fun _ _ _ e=>e) (fun b ps e=>⟨#[],by rw[e];simp⟩) (fun m h=>?_) (fun b u e=>?_) I.bare
 .obtain⟨o,es,ep,g,r⟩:=h;exact⟨o,es,ep,k _ o (fun z=>(hf _ z).2.1 rfl) g,r⟩
 .refine(I.hok b u e).stay (fun c v a q=>k c v ?_ q) (fun _ q=>q) fun _ _ q=>q
  rcases a with z|z
  .rw[z];exact f b u e
  .exact f c _ z
theorem VV.turnNew{t':Nat}{wr:List Addr}{a:VI}{o:HO}(I:VV X pins σ H s)(hf:∀b∈wr,NP X pins H b)(k:∀b o,b∉wr->s.heap.get? b=some o->h'.get? b=some o)(hp:s.heap.objs.size <=a)
  (new:Wf X.prog X.w (upd H a o) h' a o):VV X pins σ (upd H a o) {s with heap:=h',toks:=t'}:=by
 have g:H a=none:=I.hok.fresh hp;have h:∀b u,H b=some u->b∉wr:=fun b u e z=>by rw[(hf b z).1]at e;cases e
 refine I.step (g':=s.gens) (d':=s.drawn) (ch:=wr) (fun b f=>⟨(hf b f).2.2.2.1,(hf b f).2.1,(hf b f).2.2.2.2.1,(hf b f).2.2.2.2.2⟩) (fun b o _ _ d e _=>k b o d e) (fun b o _ _ d e _=>⟨o.slots,k b o d e⟩)
  (fun b o _ e n=>by rw[Wh (Yi (Ym (Y8 e) hp))];exact n)
  (fun b o d e=>⟨o,k b o d e⟩) (fun b xs e=>by rw[Wh (WJ e g)];exact e) (fun b o u e=>by rw[Wh (WJ e g)];exact e) (fun b ps e=>⟨#[],by rw[Wh (WJ e g),e];simp⟩) (fun m j=>?_) (fun b u e=>?_) I.bare
 .obtain⟨o,es,ep,i,r⟩:=j;exact⟨o,es,ep,k _ o (fun z=>(hf _ z).2.1 rfl) i,r⟩
 .by_cases f:b=a
  .subst f;rw[WU]at e;cases e;exact new
  .rw[Wh f]at e;refine(I.hok b u e).stay (fun c v d q=>k c v ?_ q) (fun c q=>by rw[Wh (WJ q g)];exact q) fun c xs q=>by rw[Wh (WJ q g)];exact q
   rcases d with z|z
   .rw[z];exact h b u e
   .exact h c _ z
end
def Kr(K:VG)(a:VI):It:=
 ⟨fun i H=>∃xs x,VZ K H a xs/\xs[i]?=some x,fun i H x H'=>∃t y,x= .ref t/\H t=none/\VP H H'/\H' t=some (.tup [.int i,y])/\∀xs,VZ K H a xs->xs[i]?=some y,fun i H=>∃xs,VZ K H a xs/\xs.length <=i⟩
theorem Na{h:VM}{a b:VI}{o o':Obj}(e:h.get? a=some o)(e':h.get? b=some o')(hc:o.cls≠o'.cls):a≠b:=fun z=>by
 subst z;rw[e]at e';cases e';exact hc rfl
theorem ZU{P:VB}{w:VF}{K:PySem.W.Frag}{elts:List Expr}{k:Nat}{pos:Pos}(l e it:VI):GU P w K (.Tuple elts k pos) (Kr K l) [e,it] e (fun i h=>(∃old,IsEnum h e it i old)/\h.IsListIter it l i) where
 mem:=by simp
 obj:=fun i h st b a=>by
  obtain⟨⟨old,c⟩,o,ho,hc,hd⟩:=st;rcases Y6.mp a with rfl|a
  .exact⟨_,c,fun v z=>by cases z⟩
  .have e:b=it:=by simpa using a
   subst e;exact⟨o,ho,fun v z=>by rw[hd]at z;cases z⟩
 keep:=fun i h h' st n=>⟨⟨st.1.choose,n e (by simp) _ st.1.choose_spec⟩,st.2.at fun o x=>n it (by simp) o x⟩
 item:=by
  intro X j hw hK hc i pins s σ H E I r st hg;subst j hw hK;obtain⟨xs,x,q,hx⟩:=hg;obtain⟨d,rv,p,hz⟩:=I.list q;obtain⟨u,hu,ru⟩:=rv.get hx;obtain⟨⟨old,c⟩,f⟩:=st;obtain⟨oit,g,cit,dit⟩:=id f;obtain⟨ol,el,cl,nl,dl⟩:=id p.isList;have hei:e≠it:=Na c g (by rw[cit];(try dsimp only);decide);have hle:l≠e:=Na el c (by rw[cl];(try dsimp only);decide);have hli:l≠it:=Na el g (by rw[cl,cit];(try dsimp only);decide);have W:=WalksT.enumerate (prog:=X.prog) (w:=X.w) (I.ok.hd hc) e it l hei hle hli d.toArray;have hi:i < d.toArray.size:=by rw[Yb];exact(Y5.mp hu).1
  refine W.item i s _ _ hi ⟨⟨old,c⟩,f,p.isList⟩ fun T vals h1 tk j hT hIT hM k1=>⟨.ref T,rfl,W.go _ _ _ i T _ _ _ hM fun h2 st2 k2=>?_⟩
  obtain⟨t,y,hy,rfl⟩:=j;have ey:y=u:=by
   have:d.toArray[i]?=some u:=by simpa using hu
   rw[this]at hy;exact(Yo hy).symm
  subst ey;have hn:H T=none:=I.hok.fresh hT;have n:∀b o,b∉[e,it]->s.heap.get? b=some o->h2.get? b=some o:=fun b o a x=>k2 b o a (k1 b o a x)
  have hT2:h2.IsTuple T #[.int i t,y]:=hIT.at fun o x=>k2 T o (W.apart i T _ hM) x
  refine⟨.ref T,upd H T (.tup [.int i,x]),I.turnNew (t':=tk) r n hT ⟨by show 2 <=sizeLine;decide,[.int i t,y],.cons ⟨t,rfl⟩ (.cons ru .nil),hT2⟩,rfl,⟨T,x,rfl,hn,NX hn,WU,fun ys hys=>?_⟩,⟨st2.1,st2.2.1⟩,fun b a=>?_⟩
  .rw[I.list_inj hys q];exact hx
  .have hbn:=(r b a).1;have:b≠T:=fun z=>W.apart i T _ hM (z▸a)
   rw[Wh this];exact hbn
 done:=by
  intro X j hw hK hc i pins s σ H E I r st hg;subst j hw hK;obtain⟨xs,q,hx⟩:=hg;obtain⟨d,rv,p,hz⟩:=I.list q;obtain⟨⟨old,c⟩,f⟩:=st;have hl:=rv.length;exact wpAny_pyNext_enum_end (I.ok.hd hc) c f p.isList (by simp;lia) fun h' eb=>⟨rfl,I.turnL (t':=s.toks) r fun b o a x=>eb b o (fun z=>a (by simp[z])) x⟩
 self:=fun _ _ _ _ _ st h=>Uf st.1.choose_spec h
section
variable{X:Cx}{K:VG}
def Fj(K:VG)(ta:TA):TI:=fun σ H R=>ta σ H fun vs H1=>∃l,vs=[.ref l]/\(∃xs,VZ K H1 l xs)/\R (Kr K l) H1
theorem Zi{a:VN}{ta:TA}{elts:List Expr}{k:Nat}{pos' p pos:Pos}(h:X.K=K)(hg:Gl X "enumerate")(hm:X.mg "enumerate"=none)(ha:PA X [a] ta)(hs:starEach [a] X.env=[(false,eval a X.env)]:=by rfl):
  PI X (.Tuple elts k pos') (.Call (.Name "enumerate" p) [a] [] pos) (Fj K ta):=by
 subst h;intro pins s σ H R I h;refine Call_ (GI I hg hm boot_enumerate (Xj (Wj (ha pos pins s σ H _ I h) fun y s1 zz=>?_) hs rfl));rcases zz with⟨vs,H1,c,n,o⟩;obtain⟨l,e,⟨xs,r⟩,q⟩:=o;subst e;obtain⟨u,rfl,j⟩:=DO n;cases j;obtain⟨w,z,p,hz⟩:=c.list r;refine call_enumerate_list p.isList fun h' i g x v=>Uf i ?_
 refine⟨_,[s1.heap.objs.size+ 1,s1.heap.objs.size],_,_,H1,rfl,c.kept (t':=s1.toks) v,ZU l _ s1.heap.objs.size,⟨⟨_,i⟩,g⟩,fun b f=>?_,q⟩;have d:s1.heap.objs.size <=b:=by
  rcases Y6.mp f with rfl|f
  .exact X9 _
  .rw[Yn.mp f];exact Y1 _
 exact c.fpOk d (c.hok.fresh d)
end
def L0(K:VG)(a b:VI):It:=
  ⟨fun i H => ∃ xs ys x y, VZ K H a xs /\ VZ K H b ys /\ xs[i]? = some x /\ ys[i]? = some y, fun i H x H' => ∃ t y z, x = .ref t /\ H t = none /\ VP H H' /\ H' t = some (.tup [y, z]) /\ (∀ xs, VZ K H a xs -> xs[i]? = some y) /\ (∀ ys, VZ K H b ys -> ys[i]? = some z),
   fun i H => ∃ xs ys, VZ K H a xs /\ VZ K H b ys /\ (xs.length <= i \/ ys.length <= i)⟩
theorem wB{P:VB}{w:VF}{K:PySem.W.Frag}{elts:List Expr}{k:Nat}{pos:Pos}(l1 l2 z TI TO i1 i2:VI)(hTT:TI≠TO)(h12:i1≠i2):GU P w K (.Tuple elts k pos) (L0 K l1 l2) [z,TI,TO,i1,i2] z
  (fun i h=>IsZip h z TI TO .none/\PySem.IsPair h TI (.ref i1) (.ref i2)/\(∃a b,PySem.IsPair h TO a b)/\h.IsListIter i1 l1 i/\h.IsListIter i2 l2 i) where
 mem:=by simp
 obj:=fun i h st b n=>by
  obtain⟨g,f,⟨a,c,d⟩,⟨o1,ho1,c1,d1⟩,⟨o2,ho2,c2,d2⟩⟩:=st;simp only[Y6,Yl,YL]at n;rcases n with rfl|rfl|rfl|rfl|rfl
  .exact⟨_,g,fun v z=>by cases z⟩
  .exact⟨_,f,fun v z=>by cases z⟩
  .exact⟨_,d,fun v z=>by cases z⟩
  .exact⟨o1,ho1,fun v z=>by rw[d1]at z;cases z⟩
  .exact⟨o2,ho2,fun v z=>by rw[d2]at z;cases z⟩
 keep:=fun i h h' st kk=>by
  obtain⟨g,f,⟨a,c,d⟩,h1,h2⟩:=st;exact⟨kk z (by simp) _ g,kk TI (by simp) _ f,⟨a,c,kk TO (by simp) _ d⟩,h1.at fun o x=>kk i1 (by simp) o x,h2.at fun o x=>kk i2 (by simp) o x⟩
 item:=by
  intro X hP hw hK hc i pins s σ H E I hf st hg;subst hP hw hK;obtain ⟨xs, ys, x, y, hq, hq2, hx, hy⟩ := hg;obtain ⟨its, rv, p, hz'⟩ := I.list hq;obtain ⟨its2, rv2, p2, hz2⟩ := I.list hq2;obtain ⟨u, hu, ru⟩ := rv.get hx;obtain ⟨u2, hu2, ru2⟩ := rv2.get hy;obtain ⟨g, f, ⟨a, c, d⟩, h1, h2⟩ := st;obtain ⟨o1, e1, c1, d1⟩ := id h1;obtain ⟨o2, e2, c2, d2⟩ := id h2;obtain ⟨ol, el, cl, nl, dl⟩ := id p.isList;obtain ⟨ol2, j, l, nl2, dl2⟩ := id p2.isList;have D : ZipApart z TI TO i1 i2 l1 l2 := ⟨Na f g (by dsimp only; decide), Na d g (by dsimp only; decide), Na e1 g (by rw [c1]; (try dsimp only); decide), Na e2 g (by rw [c2]; (try dsimp only); decide), hTT, Na f e1 (by rw [c1]; (try dsimp only); decide), Na f e2 (by rw [c2]; (try dsimp only); decide),
   Na d e1 (by rw[c1];(try dsimp only);decide),Na d e2 (by rw[c2];(try dsimp only);decide),h12,Na el g (by rw[cl];(try dsimp only);decide),Na el d (by rw[cl];(try dsimp only);decide),Na el e1 (by rw[cl,c1];(try dsimp only);decide),Na el e2 (by rw[cl,c2];(try dsimp only);decide),
   Na j g (by rw [l]; (try dsimp only); decide), Na j d (by rw [l]; (try dsimp only); decide), Na j e1 (by rw [l, c1]; (try dsimp only); decide), Na j e2 (by rw [l, c2]; (try dsimp only); decide)⟩
  have W:=WalksT.zip2 (prog:=X.prog) (w:=X.w) (I.ok.hd hc) z TI TO i1 i2 l1 l2 D its.toArray its2.toArray;have hi:i < min its.toArray.size its2.toArray.size:=by
   rw[Yb,Yb];have a1:=(Y5.mp hu).1;have a2:=(Y5.mp hu2).1
   lia
  refine W.item i s _ _ hi ⟨g,f,⟨a,c,d⟩,h1,h2,p.isList,p2.isList⟩ fun T vals h3 tk hP hT hIT hM k1=>⟨.ref T,rfl,W.go _ _ _ i T _ _ _ hM fun h4 st2 k2=>?_⟩
  obtain⟨y1,y2,hy1,hy2,rfl⟩:=hP;have ey:y1=u:=by
   have:its.toArray[i]?=some u:=by simpa using hu
   rw[this]at hy1;exact(Yo hy1).symm
  have ey2:y2=u2:=by
   have:its2.toArray[i]?=some u2:=by simpa using hu2
   rw[this]at hy2;exact(Yo hy2).symm
  subst ey ey2;have hn:H T=none:=I.hok.fresh hT;have kk:∀b o,b∉[z,TI,TO,i1,i2]->s.heap.get? b=some o->h4.get? b=some o:=fun b o n x=>by
   have hb':b∉[z,TO,i1,i2]:=fun q=>n (by simp at q ⊢;rcases q with r|r|r|r <;> simp[r])
   exact k2 b o hb' (k1 b o hb' x)
  have hT2:h4.IsTuple T #[y1,y2]:=hIT.at fun o x=>k2 T o (W.apart i T _ hM) x
  refine⟨.ref T,upd H T (.tup [x,y]),I.turnNew (t':=tk) hf kk hT ⟨by show 2 <=sizeLine;decide,[y1,y2],.cons ru (.cons ru2 .nil),hT2⟩,rfl,⟨T,x,y,rfl,hn,NX hn,WU,fun ys' hys=>?_,fun ys' hys=>?_⟩,⟨st2.1,st2.2.1,st2.2.2.1,st2.2.2.2.1,st2.2.2.2.2.1⟩,fun b n=>?_⟩
  .rw[I.list_inj hys hq];exact hx
  .rw[I.list_inj hys hq2];exact hy
  .have hbn:=(hf b n).1;have:b≠T:=fun q=>by
    subst q;have hlt:∀{o},s.heap.get? b=some o->False:=fun e=>absurd (Ym (Y8 e) hT) (YM _)
    simp only[Y6,Yl,YL]at n;rcases n with rfl|rfl|rfl|rfl|rfl
    .exact hlt g
    .exact hlt f
    .exact hlt d
    .exact hlt e1
    .exact hlt e2
   rw[Wh this];exact hbn
 done:=by
  intro X hP hw hK hc i pins s σ H E I hf st hg;subst hP hw hK;obtain ⟨xs, ys, hq, hq2, hx⟩ := hg;obtain ⟨its, rv, p, hz'⟩ := I.list hq;obtain ⟨its2, rv2, p2, hz2⟩ := I.list hq2;obtain ⟨g, f, ⟨a, c, d⟩, h1, h2⟩ := st;obtain ⟨o1, e1, c1, d1⟩ := id h1;obtain ⟨o2, e2, c2, d2⟩ := id h2;obtain ⟨ol, el, cl, nl, dl⟩ := id p.isList;obtain ⟨ol2, j, l, nl2, dl2⟩ := id p2.isList;have D : ZipApart z TI TO i1 i2 l1 l2 := ⟨Na f g (by dsimp only; decide), Na d g (by dsimp only; decide), Na e1 g (by rw [c1]; (try dsimp only); decide), Na e2 g (by rw [c2]; (try dsimp only); decide), hTT, Na f e1 (by rw [c1]; (try dsimp only); decide), Na f e2 (by rw [c2]; (try dsimp only); decide),
   Na d e1 (by rw[c1];(try dsimp only);decide),Na d e2 (by rw[c2];(try dsimp only);decide),h12,Na el g (by rw[cl];(try dsimp only);decide),Na el d (by rw[cl];(try dsimp only);decide),Na el e1 (by rw[cl,c1];(try dsimp only);decide),Na el e2 (by rw[cl,c2];(try dsimp only);decide),
   Na j g (by rw [l]; (try dsimp only); decide), Na j d (by rw [l]; (try dsimp only); decide), Na j e1 (by rw [l, c1]; (try dsimp only); decide), Na j e2 (by rw [l, c2]; (try dsimp only); decide)⟩
  have hl:=rv.length;have hl2:=rv2.length;refine wpAny_pyNext_zip_end (I.ok.hd hc) D g f d h1 h2 p.isList p2.isList ?_ fun h' eb=>⟨rfl,I.turnL (t':=s.toks) hf fun b o n x=>eb b o (fun q=>n (by simp[q])) (fun q=>n (by simp[q])) (fun q=>n (by simp[q])) (fun q=>n (by simp[q])) x⟩
  rcases hx with hx|hx
  .exact .inl (by simp;lia)
  .exact .inr (by simp;lia)
 self:=fun _ _ _ _ _ st h=>wpAny_pyIter_zip st.1 h
section
variable{X:Cx}{K:VG}
def FU(K:VG)(ta:TA):TI:=fun σ H R=>ta σ H fun vs H1=>∃l1 l2,vs=[.ref l1,.ref l2]/\(∃xs,VZ K H1 l1 xs)/\(∃xs,VZ K H1 l2 xs)/\R (L0 K l1 l2) H1
theorem mW{a b:VN}{ta:TA}{elts:List Expr}{k:Nat}{pos' p pos:Pos}(h:X.K=K)(hg:Gl X "zip")(hm:X.mg "zip"=none)(ha:PA X [a,b] ta)(hs:starEach [a,b] X.env=[(false,eval a X.env),(false,eval b X.env)]:=by rfl)(hs2:starEach [b] X.env=[(false,eval b X.env)]:=by rfl):
  PI X (.Tuple elts k pos') (.Call (.Name "zip" p) [a,b] [] pos) (FU K ta):=by
 subst h;intro pins s σ H R I h;refine Call_ (GI I hg hm boot_zip (Xj (Wj (ha pos pins s σ H _ I h) fun us s1 zz=>?_) (by rw[hs,hs2]) (by rw[hs2];rfl)));rcases zz with⟨vs,H1,c,u,v⟩;obtain⟨x,w,e,⟨xs,z⟩,⟨ys,g⟩,q⟩:=v;subst e;cases u with
 |cons r rr=>
  cases rr with
  |cons r' rr=>
   cases rr;cases r;cases r';obtain⟨its,rv,p,f⟩:=c.list z;obtain⟨y,rv2,p2,hz2⟩:=c.list g;refine call_zip_2 p.isList p2.isList fun h' f o n j i hsz hk=>wpAny_pyIter_zip f ?_
   refine⟨_,[s1.heap.objs.size+ 4,s1.heap.objs.size+ 2,s1.heap.objs.size+ 3,s1.heap.objs.size,s1.heap.objs.size+ 1],_,_,H1,rfl,c.kept (t':=s1.toks) hk,wB x w _ (s1.heap.objs.size+ 2) (s1.heap.objs.size+ 3) s1.heap.objs.size (s1.heap.objs.size+ 1) (Yi (Xy _)) (Yi (Xy _)),⟨f,o,⟨_,_,n⟩,j,i⟩,fun b l=>?_,q⟩;have d:s1.heap.objs.size <=b:=by
    simp only[Y6,Yl,YL]at l;rcases l with rfl|rfl|rfl|rfl|rfl <;> lia
   exact c.fpOk d (c.hok.fresh d)
end
def MB(val:Nat->Int):Nat->Int
 |0=>val 0
 |j+ 1=>if val (j+ 1) < MB val j then val (j+ 1) else MB val j
section
variable{prog:VB}{w:VF}{A:VE}{R:Result->Shared->Prop}{I:VI}{fp wr:List Addr}{n:Nat}{P:Nat->Value->Prop}{St:Nat->Heap->Prop}
def ZI(val:Nat->Int)(j:Nat)(old:Array Value):Prop:=(j=0/\old=#[])\/∃i t,j=i+ 1/\old=#[.int (MB val i) t,.int (MB val i) t]
theorem Sm(W:Walks prog w A.in1 I fp wr n P St)(val:Nat->Int)(hval:∀i v,P i v->∃t,v= .int (val i) t)(d:VH)(S:VI)(hSf:S∉fp):
  ∀ (k j:Nat) (s:VC) (old:Array Value) (c:Nat),n - j=k->j <=n->St j s.heap->ZI val j old->s.heap.get? S=some {cls:=.type "list",dict:=none,data:=.seq old c,slots:=#[]}->
  (∀v h' tk,(n=0->v=d)->(∀m,n=m+ 1->∃t,v= .int (MB val m) t)->(∀b o,b∉wr->b≠S->s.heap.get? b=some o->h'.get? b=some o)->R (.ok (.ret v)) {s with heap:=h',toks:=tk})->
  codeAny (model prog w) A (.builtin "min.loop" ⟨[.ref I,.none,.ref S],[("default",d)]⟩) R s:=by
 have hSw:S∉wr:=fun z=>hSf (W.sub _ z)
 have hnm:(toString "min"++toString ".loop":String)="min.loop":=by decide
 intro k
 induction k with
 |zero=>
  intro j s old c hk hj hst hB hS y;obtain rfl:j=n:=by lia
  refine Uz F.entry_min_loop ?_;rw[Around.under_plainId Xz _];refine Y0 (wpAny_seqItems hS rfl (Y0 (Vi (W.done s _ _ hst fun h' tk h=>?_))));have q:=h S _ hSw hS;rcases hB with⟨h0,rfl⟩|⟨i,t,hi,rfl⟩
  .refine Y0 (UV (Y4 ?_));exact y d h' tk (fun _=>rfl) (fun m z=>by lia) fun b o a _ e=>h b o a e
  .refine Y0 (V9 (hz:=HR) (_hz':=QW) q rfl (Y0 (XY (Y4 ?_))));exact y _ _ tk (fun z=>by lia) (fun m z=>⟨t,by rw[show i=m by lia]⟩) fun b o a g e=>(X7 _ _ (Ne.symm g)).trans (h b o a e)
 |succ k ih=>
  intro j s old c hk hj hst hB hS y;refine Uz F.entry_min_loop ?_;rw[Around.under_plainId Xz _];refine Y0 (wpAny_seqItems hS rfl (Y0 (Vi (W.item j s _ _ (by lia) hst fun v h' tk hP x h=>?_))));have q:=h S _ hSw hS;obtain⟨t,rfl⟩:=hval j v hP;rcases hB with⟨rfl,rfl⟩|⟨i,t',rfl,rfl⟩
  .refine Y0 (Y4 ?_);show wpAny _ A.in1 (updateSeq S (fun _=>#[.int (val 0) t,.int (val 0) t]) >>=fun _=>again _) _ _ _;refine Y0 (V9 (f:=fun _=>#[.int (val 0) t,.int (val 0) t]) (xs:=#[]) (n:=c) q rfl ?_ (Yh _) O8);rw[hnm];refine Y4 ⟨UO Xz _,ih 1 _ _ _ (by lia) (by lia) (W.frame _ _ _ x fun b r o e=>(X7 _ _ (fun z:S=b=>hSf (by rw[z];exact r))).trans e) (.inr ⟨0,t,rfl,rfl⟩) (Xo _ q rfl) ?_⟩;exact fun v' u l z1 z2 p=>y v' u l z1 z2 fun b o a g e=>p b o a g ((X7 _ _ (Ne.symm g)).trans (h b o a e))
  .refine Y0 (Y4 (Y0 (Vi (YY (Y0 (nQ ?_))))));refine Y0 (YY (YV (Y0 (XY (Y4 ?_)))))
   by_cases r:val (i+ 1) < MB val i
   .have eU:MB val (i+ 1)=val (i+ 1):=by show(if _ then _ else _)=_;rw[Y9 r]
    simp only[r,YX,if_true];refine Y0 (V9 (f:=fun _=>#[.int (val (i+ 1)) t,.int (val (i+ 1)) t]) (n:=c) q rfl (Y0 (XY ?_)) HR O8);rw[hnm];refine Y4 ⟨UO Xz _,ih (i+ 1+ 1) _ _ _ (by rw[Nat.sub_succ,hk];rfl) (by lia) (W.frame _ _ _ x fun b r o e=>(X7 _ _ (fun z:S=b=>hSf (by rw[z];exact r))).trans e) (.inr ⟨i+ 1,t,rfl,by rw[eU]⟩) (Xo _ q rfl) ?_⟩;exact fun v' u l z1 z2 p=>y v' u l z1 z2 fun b o a g e=>p b o a g ((X7 _ _ (Ne.symm g)).trans (h b o a e))
   .have eU:MB val (i+ 1)=MB val i:=by show(if _ then _ else _)=_;rw[Y2 r]
    simp only[r,YT,Bool.false_eq_true,if_false];refine Y0 (XY ?_);rw[hnm];refine Y4 ⟨UO Xz _,ih (i+ 1+ 1) _ _ _ (by rw[Nat.sub_succ,hk];rfl) (by lia) x (.inr ⟨i+ 1,t',rfl,by rw[eU]⟩) q ?_⟩;exact fun v' u l z1 z2 p=>y v' u l z1 z2 fun b o a g e=>p b o a g (h b o a e)
end
theorem P1(val:Nat->Int):∀m,(∃i,i <=m/\MB val m=val i)/\∀i,i <=m->MB val m <=val i
 | 0 => ⟨⟨0, Y1 _, rfl⟩, fun i hi => by
   have:i=0:=by lia
   subst this; exact UH _⟩
 |m+ 1=>by
  obtain⟨⟨i,hi,e⟩,h⟩:=P1 val m
  by_cases hb:val (m+ 1) < MB val m
  .have a:MB val (m+ 1)=val (m+ 1):=by show(if _ then _ else _)=_;rw[Y9 hb]
   refine⟨⟨m+ 1,Y1 _,a⟩,fun j b=>?_⟩;rw[a]
   by_cases hj':j=m+ 1
   .rw[hj'];exact UH _
   .have:=h j (by lia);lia
  .have a:MB val (m+ 1)=MB val m:=by show(if _ then _ else _)=_;rw[Y2 hb]
   refine⟨⟨i,by lia,by rw[a,e]⟩,fun j b=>?_⟩;rw[a]
   by_cases hj':j=m+ 1
   .rw[hj'];lia
   .exact h j (by lia)
theorem j9(a d:VH):argsOk "min" ⟨[a],[("default",d)]⟩:=by unfold argsOk;kernel_rfl
def Bo(K:VG):V->V->Hp->VK->Prop:=fun x d H Q=>∃ (p:VI) (ns:VJ),x= .ref p/\VZ K H p (ns.map V.int)/\(ns=[]->Q d H)/\∀v,v∈ns->(∀y∈ns,v <=y)->Q (.int v) H
def FJ(K:VG)(ta tb:TE):TE:=fun σ H Q=>ta σ H fun x H1=>tb σ H1 fun d H2=>Bo K x d H2 Q
section
variable{X:Cx}{K:VG}
theorem Zj{pins:VA}{s:VC}{σ:St}{H:Hp}{x d:V}{u w':VH}{Q:VK}(hc:X.calm=true)(I:VV X pins σ H s)(rx:W9 x u)(rd:W9 d w')(h:Bo X.K x d H Q):
  wpAny (model X.prog X.w) X.A (call (.builtin "min") [u] [("default",w')]) (EP X pins σ Q) X.xe s:=by
 obtain⟨p,c,rfl,hq,q0,q1⟩:=h;cases rx;obtain⟨f,rv,pl,hz⟩:=I.list hq;have hh:X.A.in1.handled=none:=I.ok.hd hc;have q:=pl.isList;have j:p < s.heap.objs.size:=by obtain⟨_,e,_⟩:=q;exact Y8 e
 have n:c.length=f.length:=by have:=rv.length;simpa using this
 refine uH F.kind_min F.plain_min F.entry_min (j9 _ _) ?_;show wpAny _ X.A.in1 (Builtin.Builtins.bindParams "min" ["key","default"] 0 ⟨[],[("default",w')]⟩ >>=_) _ _ s;refine Y0 (wpAny_of_eq (show Builtin.Builtins.bindParams "min" ["key","default"] 0 ⟨[],[("default",w')]⟩=pure [none,some w'] from rfl) ?_);refine Y0 (Y4 (Y0 (Xr q (Y0 (XJ ?_)))));have hnm:(toString "min"++toString ".loop":String)="min.loop":=by decide
 rw[hnm];have W:=Walks.list (prog:=X.prog) (w:=X.w) hh s.heap.objs.size p (Yi j) f.toArray;refine Y4 ⟨_,rfl,UO Xz _,Sm W (fun i=>c.getD i 0) ?_ w' _ ?_ _ 0 _ _ _ rfl (Yh _) (W.frame _ _ _ ⟨⟨_,Yj _ rfl,rfl,rfl⟩,q.push _⟩ fun b _ o e=>Y3 _ e) (.inl ⟨rfl,rfl⟩) (Yj _ rfl) ?_⟩
 .intro i v hv;have g:f[i]?=some v:=by simpa using hv
  cases e:c[i]? with
  |none=>
   have:f[i]?=none:=by
    rw[UU]at e ⊢;lia
   rw[this]at g;cases g
  |some b=>
   obtain⟨u,hu,ru⟩:=rv.get (i:=i) (x:=V.int b) (by rw[Yk,e];rfl);rw[g]at hu;cases hu;obtain⟨t,rfl⟩:=(show ∃t,v=Value.int b t from ru);exact⟨t,by simp[List.getD,e]⟩
 .intro z;rw[Y6,Yn]at z;dsimp only at z;rw[Xx]at z;rcases z with z|z
  .exact absurd z (Nat.succ_ne_self _)
  .rw[<-z]at j;exact absurd j (Nat.not_lt.mpr (X9 _))
 .intro v h' tk z1 z2 hk;have kept:∀b o,s.heap.get? b=some o->h'.get? b=some o:=fun b o eo=>by
   have hb:=Y8 eo;refine hk b o ?_ ?_ (Y3 _ (Y3 _ eo))
   .intro z;have e:b=s.heap.objs.size:=by simpa using z
    exact absurd e (Yi hb)
   .intro z;dsimp only at z;rw[Xx]at z;exact absurd z (Yi (Xf hb))
  have l:f.toArray.size=c.length:=by rw[Yb,n]
  cases hns:c with
  |nil=>
   rw[z1 (by rw[l,hns];rfl)];exact⟨d,H,I.kept (t':=tk) kept,rd,q0 hns⟩
  |cons a r=>
   obtain⟨t,rfl⟩:=z2 r.length (by rw[l,hns];rfl);obtain⟨⟨i,hi,e⟩,hmx⟩:=P1 (fun i=>c.getD i 0) r.length;have hl2:c.length=r.length+ 1:=by rw[hns];rfl
   refine⟨.int (MB (fun i=>c.getD i 0) r.length),H,I.kept (t':=tk) kept,⟨t,rfl⟩,q1 _ ?_ fun y hy=>?_⟩
   .rw[e];have:c.getD i 0=c[i]'(by lia):=by simp[List.getD,show i < c.length by lia]
    show c.getD i 0∈c;rw[this];exact V1 _
   .obtain⟨k,hk',rfl⟩:=Vo.mp hy;have:=hmx k (by lia);have e2:c.getD k 0=c[k]:=by simp[List.getD,hk']
    rw[<-e2];exact this
theorem SH{e e2:VN}{ta tb:TE}{x:Str}{p pos kp:Pos}(h:X.K=K)(hx:x="min")(hc:X.calm=true)(hg:Gl X x)(hm:X.mg x=none)(hv:bootBuiltins x=some (.builtin "min"))(ha:PE X e ta)(hb:PE X e2 tb)
  (hn:x≠"__name__":=by decide) (hdb:(x==("__debug__":Str))=false:=by decide)
  (he:backTo pos (starEach [e] X.env)=(false,eval e X.env)::backTo pos (starEach [] X.env):=by rfl) (hs:starEach [e] X.env=(false,eval e X.env)::starEach [] X.env:=by rfl)
  (hpl:(backTo pos (starEach [e] X.env)).any (·.1)=false:=by rfl):PE X (.Call (.Name x p) [e] [⟨some "default",e2,kp⟩] pos) (FJ K ta tb):=by
 subst h;intro pins s σ H Q I h;refine YN (GI I hg hm hv ?_ hn hdb);have h':Mu ta D7 σ H (fun vs H1=>Mu tb D7 σ H1 fun zs H2=>match vs,zs with|[x],[d]=>Bo X.K x d H2 Q|_,_=>False):=h;refine callWith_kw (Wj (VR ha VT hs pos pins s σ H _ I h') fun i s1 ⟨vs,H1,f,r,q⟩=>Wj (Ik hb L7 pos pins s1 σ H1 _ f q) fun g s2 zz=>?_) he hpl;rcases zz with⟨zs,H2,c,b,a⟩;cases r with
 |nil=>cases b <;> exact False.elim a
 |cons r1 rr=>
  cases rr with
  |cons _ _=>cases b <;> exact False.elim a
  |nil=>
   cases b with
   |nil=>exact False.elim a
   |cons z1 zz=>
    cases zz with
    |cons _ _=>exact False.elim a
    |nil=>exact Zj hc c r1 z1 a
end
theorem yD{K:VG}{a:VI}{xs:List V}{g:TG}{tb:TS}{D:MQ}{σ:St}{H:Hp}(Pv:Nat->St->Hp->Prop)(h0:Pv 0 σ H)(hl:∀i σ H,i <=xs.length->Pv i σ H->VZ K H a xs)
  (hs:∀i x t σ H H',xs[i]?=some x->Pv i σ H->H t=none->VP H H'->H' t=some (.tup [.int i,x])->g (.ref t) σ H' fun σ2 H2=>tb {D with nx:=Pv (i+ 1),ct:=Pv (i+ 1),bk:=D.nx} σ2 H2) (hd:∀σ H,Pv xs.length σ H->D.nx σ H):Ao g tb D σ (Kr K a) H:=by
 refine⟨fun i m σ H=>m=xs.length - i/\i <=xs.length/\Pv i σ H,⟨xs.length,by simp,Yh _,h0⟩,?_⟩;intro i m σ H Zq;obtain⟨rfl,hi,p⟩:=Zq;have q:=hl i σ H hi p
 by_cases hlt:i < xs.length
 .refine .inr ⟨⟨xs,xs[i],q,by simp[hlt]⟩,Pv (i+ 1),fun σ' H' b=>⟨xs.length - (i+ 1),by lia,rfl,hlt,b⟩,fun x H' y=>?_⟩;obtain⟨t,y,rfl,h1,h2,d,c⟩:=y;exact hs i y t σ H H' (c xs q) p h1 h2 d
 .have e:i=xs.length:=by lia
  subst e;exact .inl ⟨⟨xs,q,Y1 _⟩,hd σ H p⟩
section
variable{caps:List (Option Nat)}{g:TG}{tc:TT}{te:TE}
theorem wI{K:VG}{a b:VI}{xs zs:List V}{σ:St}{H1:Hp}{Q:VK}(he:xs.length=zs.length)(Pv:Nat->List V->St->Hp->Prop)(h0:Pv 0 [] (Ws caps σ) H1)(hl:∀i ys σ H,Pv i ys σ H->i <=xs.length->VZ K H a xs/\VZ K H b zs/\ys.length <=i)(hz:xs.length <=sizeLine)
  (hs:∀i x z t ys σ H H',xs[i]?=some x->zs[i]?=some z->Pv i ys σ H->H t=none->VP H H'->H' t=some (.tup [x,z])->g (.ref t) σ H' fun σ2 H2=>tc σ2 H2 fun b H3=>if b=true then te σ2 H3 fun y H4=>Pv (i+ 1) (ys++[y]) σ2 H4 else Pv (i+ 1) ys σ2 H3)
  (hd:∀ys σ H,Pv xs.length ys σ H->∀p G,H p=none->VP H G->G p=some (.lst ys)->Q (.ref p) G):Rv caps g tc te σ Q (L0 K a b) H1:=by
 refine⟨fun i m ys σ H=>m=xs.length - i/\i <=xs.length/\Pv i ys σ H,⟨xs.length,by simp,Yh _,h0⟩,?_⟩;intro i m ys σ' H Zq;obtain⟨rfl,hi,p⟩:=Zq;obtain⟨q,d,l⟩:=hl i ys σ' H p hi
 by_cases hlt:i < xs.length
 .refine .inr ⟨⟨xs,zs,xs[i],zs[i]'(by lia),q,d,by simp[hlt],Y7 (by lia)⟩,by lia,fun ys σ H=>Pv (i+ 1) ys σ H,fun ys σ H f=>⟨xs.length - (i+ 1),by lia,rfl,hlt,f⟩,fun x H' y=>?_⟩;obtain⟨t,y,z,rfl,h1,h2,j,h,h5⟩:=y;exact hs i y z t ys σ' H H' (h xs q) (h5 zs d) p h1 h2 j
 .have e:i=xs.length:=by lia
  subst e;exact .inl ⟨⟨xs,zs,q,d,.inl (Y1 _)⟩,by lia,fun f c=>hd ys σ' H p f _ c (NX c) WU⟩
end
structure Cr(mg:Vx):Prop where
 enumerate:mg "enumerate"=none
 zip:mg "zip"=none
end L2
namespace L2
open PySem PySem.Spec PyProof.Rows
open Sem (wp)
open AutoSeq1 (wpAny_loadPart')
section
variable{prog:VB}{w:VF}{A:VE}{E:Vy}{s:VC}
theorem gB{T newId:String}{self:VH}{rest:VL}{kw:List (Str×Value)}(hl:typeLookup (.type T) "__init__"=pure (some (.builtin "object.__init__")))
  (hm:Bind.madeBy (.type T)=pure (some newId)) (hne:(some newId !=some "object.__new__")=true):
  Meets (Builtin.«object.__init__» ⟨self::rest,kw⟩) (fun _ R s=>s.TypeIs self T/\R (.ok (.ret .none)) s):=by
 refine Meets.of_wp fun prog w A R s ⟨c,b⟩=>?_
 cases rest with
 |nil=>
  cases kw with
  |nil=>exact Y4 ⟨_,rfl,b⟩
  |cons k kw=>(repeat (any_goals (first|assumption|wp_step)));exact⟨_,rfl,b⟩
 |cons a rest=>(repeat (any_goals (first|assumption|wp_step)));exact⟨_,rfl,b⟩
theorem Sc{T newId:String}{Bn:Builtin}{args:VL}{kw:List (Str×Value)}{S:_root_.PySem.Spec}{Q:Vy}(ft:TypeCalled T newId "object.__init__")(hne:(some newId !=some "object.__new__")=true)
  (hct:checkTypeCall T ⟨args,kw⟩=pure ()) (hcn:checkBuiltinCall newId ⟨.type T::args,kw⟩=pure ()) (hok:∀obj,argsOk "object.__init__" ⟨obj::args,kw⟩) (entryN:entryFor table newId=some Bn) (g:Meets (Bn ⟨.type T::args,kw⟩) S)
  (h:S A.in1 (wants (fun obj s₁=>s₁.TypeIs obj T/\Q obj s₁) E) s):wpAny (model prog w) A (call (.type T) args kw) Q E s:=by
 obtain⟨c,tl,o⟩:=ft.mro;have i:=ft.made;have l:=ft.sub;refine XU (codeAny_of_tree ?_);show wpAny _ _ (callAny (.type T) _) _ _ _;refine Y4 ⟨Code.quiet_builtin _ (by decide +kernel),Uz F.entry_type_call ?_⟩;rw[Around.under_plain (weight_type_call_type T args kw) (units_type_call_type T args kw)];have h1:=ft.notType;have h2:=ft.canCreate
 repeat (any_goals (first|assumption|wp_step))
 refine X6 (Xw ft.plain entryN (wpAny_of_eq hcn (g prog w A.in1 _ s h))) fun r s₁ b=>?_
 cases r with
 |error e=>exact b
 |ok fl=>
  cases fl with
  |ret obj=>
   obtain⟨f,n⟩:=(show s₁.TypeIs obj T/\Q obj s₁ from b);have q:=ft.init.lookup;have u:=ft.init.bind obj
   repeat (any_goals (first|assumption|wp_step))
   refine X6 (Xw ft.init.plain F.entry_object_init (ft.init.check _ _ _ _ _ _ _ _ f (hok obj) (gB ft.init.lookup ft.made hne prog w A.in1 (wants (fun r d=>r= .none/\Q obj d) E) s₁ ⟨f,rfl,n⟩))) fun j d a=>?_
   cases j with
   |error e=>exact a
   |ok fl₂=>
    cases fl₂ with
    |ret r=>
     obtain⟨rfl,p⟩:=a
     repeat (any_goals (first|assumption|wp_step))
    |_=>exact a.elim
  |_=>exact b.elim
end
theorem xF(l:VI)(items:Array Value)(n:Nat)(dct:Option Addr)(sl:Array (Option Value))(c:Int)(t:Tok)(hc:Builtin.SmallTypes.fitsIndex c=true):
  Meets (Builtin.«enumerate.__new__» ⟨[.type "enumerate", .ref l], [("start", .int c t)]⟩) (fun _ R s => s.heap.get? l = some { cls := .type "list", dict := dct, data := .seq items n, slots := sl } /\
   R (.ok (.ret (.ref (s.heap.push {cls:=.type "list_iterator",data:=.fields #[.ref l,.int 0 0]}).objs.size)))
    { s with heap := (s.heap.push { cls := .type "list_iterator", data := .fields #[.ref l, .int 0 0] }).push { cls := .type "enumerate", data := .fields #[.none, .bool false, .ref s.heap.objs.size, rawInt c, .none, .none] } }) :=
 .of_wp fun prog w A R s h=>by
  obtain⟨f,g,d,tk,os⟩:=s;obtain⟨a,h⟩:=h;have e:=sub_enumerate;have b:Heap.IsList (Shared.heap ⟨f,g,d,tk,os⟩) l items:=⟨_,a,rfl,n,rfl⟩
  wp_walk using U1 a
  refine wpAny_stack_any fun st=>Y4 ?_
  split
  .rename_i c' _ _ _ _ _
   cases (c'==Value.type "enumerate")
   .wp_walk using U1 a,Xr b
    exact⟨_,rfl,h⟩
   .wp_walk using U1 a,Xr b
    exact⟨_,rfl,h⟩
  .wp_walk using U1 a,Xr b
   exact⟨_,rfl,h⟩
section
variable{prog:VB}{w:VF}{A:VE}{E:Vy}{s:VC}
theorem Sw(a b:VH):checkTypeCall "enumerate" ⟨[a],[("start",b)]⟩=pure ():=by kernel_rfl
theorem Z0(a b:VH):checkBuiltinCall "enumerate.__new__" ⟨[.type "enumerate",a],[("start",b)]⟩=pure ():=by kernel_rfl
theorem xZ(o a b:VH):argsOk "object.__init__" ⟨[o,a],[("start",b)]⟩:=by unfold argsOk;kernel_rfl
theorem Sd{l:VI}{items:Array Value}{c:Int}{t:Tok}{Q:Vy}(hL:s.heap.IsList l items)(hc:Builtin.SmallTypes.fitsIndex c=true)
  (h:∀h',IsEnum h' (s.heap.objs.size+ 1) s.heap.objs.size c .none->h'.IsListIter s.heap.objs.size l 0->(∀b o,s.heap.get? b=some o->h'.get? b=some o)->Q (.ref (s.heap.objs.size+ 1)) {s with heap:=h'}):
  wpAny (model prog w) A (call (.type "enumerate") [.ref l] [("start",.int c t)]) Q E s:=by
 obtain⟨⟨cl,f,j,g⟩,i,a,n,hd⟩:=hL
 replace a:cl= .type "list":=a
 replace hd:j= .seq items n:=hd
 subst a hd;refine Sc F.called_enumerate (by decide) (Sw _ _) (Z0 _ _) (fun obj => xZ obj _ _) F.entry_enumerate_new (xF l items n f g c t hc) ⟨i, ?_⟩;have d : (s.heap.push { cls := .type "list_iterator", data := .fields #[.ref l, .int 0 0] }).objs.size = s.heap.objs.size + 1 := Xx ..;show _ /\ _;rw [d];have e : IsEnum ((s.heap.push { cls := .type "list_iterator", data := .fields #[.ref l, .int 0 0] }).push
   { cls := .type "enumerate", data := .fields #[.none, .bool false, .ref s.heap.objs.size, rawInt c, .none, .none] }) (s.heap.objs.size + 1) s.heap.objs.size c .none := by
  have:=Yj (s.heap.push {cls:=.type "list_iterator",data:=.fields #[.ref l,.int 0 0]})
   (o:={cls:=.type "enumerate",data:=.fields #[.none,.bool false,.ref s.heap.objs.size,rawInt c,.none,.none]}) rfl
  rw[d]at this;exact this
 exact⟨⟨_,e,rfl⟩,h _ e ⟨_,Y3 _ (Yj _ rfl),rfl,rfl⟩ fun b o x=>Y3 _ (Y3 _ x)⟩
theorem wF{e it l:VI}{i:Nat}{c:Int}{items:Array Value}{x old:VH}{Q:Option Value->Shared->Prop}(he:IsEnum s.heap e it c old)(hit:s.heap.IsListIter it l i)(hl:s.heap.IsList l items)(hx:items[i]?=some x)(hne:e≠it)
  (hQ : ∀ h', IsEnumOut h' e it (c + 1) x s.heap.objs.size -> h'.IsListIter it l (i + 1) -> h'.get? s.heap.objs.size = some { cls := .type "tuple", data := .seq #[.int c s.toks, x] } ->
   (∀ b o, b ≠ e -> b ≠ it -> s.heap.get? b = some o -> h'.get? b = some o) -> Q (some (.ref s.heap.objs.size)) { s with heap := h', toks := s.toks + 1 }) : wpAny (model prog w) A (pyNext (.ref e)) Q E s := by
 have hT:s.TypeIs (.ref e) "enumerate":=⟨_,he,rfl⟩
 unfold pyNext;refine Y0 (Um (XB (name:=Str.ofString "__next__") hT XR (Xi XR hT F.entry_enumerate_next ?_ (F.args_enumerate_next_1 _))));obtain⟨j,g,d,tk,os⟩:=s;show wpAny _ _ (field (.ref e) 2 >>=_) _ _ _;refine Y0 (Uk he rfl (x:=.ref it) rfl (Y0 (wpAny_nextOf_list_item hit hl hx fun h ad hs₁=>?_)));have q:Heap.SameBut it j h:=hs₁;have u:IsEnum h e it c old:=(q.2 e hne).trans he;refine Y0 (Uk u rfl (x:=rawInt c) rfl ?_);refine Y0 (m:=field (.ref e) 4) (Uk (s:=⟨h,g,d,tk,os⟩) u rfl (x:=.none) rfl ?_);show wpAny _ _ (mkInt c >>=_) _ _ ⟨h,g,d,tk,os⟩;refine Y0 (wpAny_mkInt ?_);show wpAny _ _ (setField (.ref e) 3 (rawInt (c+ 1)) >>=_) _ _ ⟨h,g,d,tk+ 1,os⟩;refine Y0 (XI u (by simp) fun y he₂ hs₂=>?_);have p:Heap.SameBut e h y:=hs₂;have he2:IsEnum y e it (c+ 1) old:=he₂;show wpAny _ _ (setField (.ref e) 4 .none >>=_) _ _ ⟨y,g,d,tk+ 1,os⟩;refine Y0 (XI he2 (by simp) fun f he₃ hs₃=>?_);have n:Heap.SameBut e y f:=hs₃;have he3:IsEnum f e it (c+ 1) old:=he₃;show wpAny _ _ (newTuple [.int c tk,x] >>=_) _ _ ⟨f,g,d,tk+ 1,os⟩;refine Y0 (Vj ?_);have v:IsEnum (f.push {cls:=.type "tuple",data:=.seq #[.int c tk,x]}) e it (c+ 1) old:=Y3 _ he3;generalize hh:f.push {cls:=.type "tuple",data:=.seq #[.int c tk,x]}=h₄ at v;have z:f.objs.size=j.objs.size:=by rw[n.1,p.1,q.1]
 have ae:e < j.objs.size:=Y8 he;have ht4:h₄.get? j.objs.size=some {cls:=.type "tuple",data:=.seq #[.int c tk,x]}:=by rw[<-hh,<-z];exact Yj _ rfl
 have hk4:∀b o,b≠e->b≠it->j.get? b=some o->h₄.get? b=some o:=fun b o a af hb=>by
  rw[<-hh];exact Y3 _ (n.extBut b o a (p.extBut b o a (q.extBut b o af hb)))
 have hit4:h₄.IsListIter it l (i+ 1):=by
  rw[<-hh];obtain⟨o,ho,r⟩:=(ad.extBut p.extBut (Ne.symm hne)).extBut n.extBut (Ne.symm hne);exact⟨o,Y3 _ ho,r⟩
 show wpAny _ _ (Builtin.SmallTypes.ownedTupleIsFree (.ref e) >>=_) _ _ ⟨h₄,g,d,tk+ 1,os⟩;rw[z];clear hh he3 n he₃ hs₃ he2 p he₂ hs₂ u q hs₁ ad z f y h;refine Y0 ?_;unfold Builtin.SmallTypes.ownedTupleIsFree;refine Y0 (Uk v rfl (x:=.none) rfl (Y4 ?_));simp only[if_true];refine Y0 (UV (Y0 (Uk v rfl (x:=old) rfl (Y0 (XI v (by simp) fun h₅ he₅ hs₅=>?_)))));have ac:Heap.SameBut e h₄ h₅:=hs₅;have he5:IsEnum h₅ e it (c+ 1) x:=he₅;show wpAny _ _ (Builtin.SmallTypes.ownedTupleHandOut (.ref e) (.ref j.objs.size) >>=_) _ _ ⟨h₅,g,d,tk+ 1,os⟩;refine Y0 ?_;unfold Builtin.SmallTypes.ownedTupleHandOut;refine Y0 (XI he5 (by simp) fun h₆ he₆ hs₆=>?_);have ab:Heap.SameBut e h₅ h₆:=hs₆;have he6:IsEnumOut h₆ e it (c+ 1) x j.objs.size:=he₆;refine XI he6 (by simp) fun h₇ he₇ hs₇=>?_
 have aa:Heap.SameBut e h₆ h₇:=hs₇;refine Y0 (XY (Y4 ⟨_,rfl,Y4 (hQ h₇ he₇ ?_ ?_ ?_)⟩))
 .exact((hit4.extBut ac.extBut (Ne.symm hne)).extBut ab.extBut (Ne.symm hne)).extBut aa.extBut (Ne.symm hne)
 .exact aa.extBut _ _ (Uw ae) (ab.extBut _ _ (Uw ae) (ac.extBut _ _ (Uw ae) ht4))
 .exact fun b o a af hb=>aa.extBut b o a (ab.extBut b o a (ac.extBut b o a (hk4 b o a af hb)))
theorem tL{e it l:VI}{i:Nat}{c:Int}{items:Array Value}{old:VH}{Q:Option Value->Shared->Prop}(hh:A.handled=none)(he:IsEnum s.heap e it c old)(hit:s.heap.IsListIter it l i)(hl:s.heap.IsList l items)(hx:items[i]?=none)
  (hQ:∀h',Heap.ExtBut it s.heap h'->Q none {s with heap:=h'}):wpAny (model prog w) A (pyNext (.ref e)) Q E s:=by
 have f:s.TypeIs (.ref e) "enumerate":=⟨_,he,rfl⟩
 unfold pyNext;refine Y0 (Um (XB (name:=Str.ofString "__next__") f XR (Xi XR f F.entry_enumerate_next ?_ (F.args_enumerate_next_1 _))));show wpAny _ _ (field (.ref e) 2 >>=_) _ _ _;refine Y0 (Uk he rfl (x:=.ref it) rfl (Y0 (wpAny_nextOf_list_end hh hit hl hx fun h' x d a=>?_)));obtain⟨o,g,h⟩:=a;exact Y0 (wpAny_isInstance (T:="StopIteration") (b:=true) ⟨o,g,h⟩ isSubtype_stop (Y4 (hQ _ d)))
end
def AT(K:VG)(a:VI)(c:Int):It:=
 ⟨fun i H=>∃xs x,VZ K H a xs/\xs[i]?=some x,fun i H x H'=>∃t y,x= .ref t/\H t=none/\VP H H'/\H' t=some (.tup [.int (c+ i),y])/\∀xs,VZ K H a xs->xs[i]?=some y,fun i H=>∃xs,VZ K H a xs/\xs.length <=i⟩
theorem tH{P:VB}{w:VF}{K:VG}{elts:List Expr}{k:Nat}{pos:Pos}(l e it:VI)(c:Int):GU P w K (.Tuple elts k pos) (AT K l c) [e,it] e (fun i h=>(∃old,IsEnum h e it (c+ (i:Nat)) old)/\h.IsListIter it l i) where
 mem:=by simp
 obj:=fun i h st b a=>by
  obtain⟨⟨old,f⟩,o,ho,hc,hd⟩:=st;rcases Y6.mp a with rfl|a
  .exact⟨_,f,fun v z=>by cases z⟩
  .have e:b=it:=by simpa using a
   subst e;exact⟨o,ho,fun v z=>by rw[hd]at z;cases z⟩
 keep:=fun i h h' st n=>⟨⟨st.1.choose,n e (by simp) _ st.1.choose_spec⟩,st.2.at fun o x=>n it (by simp) o x⟩
 item:=by
  intro X hP hw hK hc i pins s σ H E I hf st hg;subst hP hw hK;obtain⟨xs,x,r,hx⟩:=hg;obtain⟨its,rv,p,hz⟩:=I.list r;obtain⟨u,hu,ru⟩:=rv.get hx;obtain⟨⟨old,f⟩,g⟩:=st;obtain⟨oit,j,cit,dit⟩:=id g;have hei:e≠it:=Na f j (by rw[cit];(try dsimp only);decide);have hel:e < s.heap.objs.size:=Y8 f;have hil:it < s.heap.objs.size:=Y8 j;refine wF f g p.isList (x:=u) (by simpa using hu) hei fun h1 ho hit1 hT1 k1=>⟨_,rfl,wpAny_letOwnedTupleGo_enum ho fun h2 he2 hs2=>?_⟩
  have d:Heap.SameBut e h1 h2:=hs2;have hn:H s.heap.objs.size=none:=I.hok.fresh (Y1 _);have n:∀b o,b∉[e,it]->s.heap.get? b=some o->h2.get? b=some o:=fun b o a z=>(d.2 b fun q=>a (by simp[q])).trans (k1 b o (fun q=>a (by simp[q])) (fun q=>a (by simp[q])) z)
  have hT2:h2.get? s.heap.objs.size=some {cls:=.type "tuple",data:=.seq #[.int (c+ (i:Nat)) s.toks,u]}:=(d.2 _ (Uw hel)).trans hT1;refine⟨.ref s.heap.objs.size,upd H s.heap.objs.size (.tup [.int (c+ i),x]),I.turnNew (t':=s.toks+ 1) hf n (Y1 _) ⟨by show 2 <=sizeLine;decide,[.int (c+ i) s.toks,u],.cons ⟨_,rfl⟩ (.cons ru .nil),⟨_,hT2,rfl,_,rfl⟩⟩,rfl,⟨_,x,rfl,hn,NX hn,WU,fun ys hys=>?_⟩,⟨⟨u,?_⟩,hit1.at fun o y=>(d.2 it hei.symm).trans y⟩,fun b a=>?_⟩
  .rw[I.list_inj hys r];exact hx
  .have e1:c+ ((i+ 1:Nat):Int)=c+ (i:Nat)+ 1:=by omega
   rw[e1];exact he2
  .have hbn:=(hf b a).1;have:b≠s.heap.objs.size:=by
    rcases Y6.mp a with rfl|a
    .exact Yi hel
    .rw[Yn.mp a];exact Yi hil
   rw[Wh this];exact hbn
 done:=by
  intro X hP hw hK hc i pins s σ H E I hf st hg;subst hP hw hK;obtain⟨xs,r,hx⟩:=hg;obtain⟨its,rv,p,hz⟩:=I.list r;obtain⟨⟨old,f⟩,g⟩:=st;have hl:=rv.length;exact tL (I.ok.hd hc) f g p.isList (by simp;omega) fun h' eb=>⟨rfl,I.turnL (t':=s.toks) hf fun b o a x=>eb b o (fun z=>a (by simp[z])) x⟩
 self:=fun _ _ _ _ _ st h=>Uf st.1.choose_spec h
section
variable{M:Model}{A:VE}{E:Vy}{s:VC}{env:Env}
theorem wN{pos:Pos}{T:String}{e:VN}{kws:List Keyword}{Q:Vy}
  (h:wpAny M A (spliced (backTo pos (starEach [e] env))) (fun vs s₁=>wpAny M A (evalAll ((backToKw pos (keywordEach kws env)).map (·.2))) (fun kvs s₂=>wpAny M A (call (.type T) vs (((backToKw pos (keywordEach kws env)).filterMap (·.1)).zip kvs)) Q E s₂) E s₁) E s)
  (he:backTo pos (starEach [e] env)=(false,eval e env)::backTo pos (starEach [] env)) (hplain:(backTo pos (starEach [e] env)).any (·.1)=false)
  (hall:(backToKw pos (keywordEach kws env)).all (·.1.isSome)=true) (hkw:(backToKw pos (keywordEach kws env)).any (·.1.isNone)=false):
  wpAny M A (callWith pos (.type T) [] (backTo pos (starEach [e] env)) (backToKw pos (keywordEach kws env))) Q E s:=by
 unfold callWith;have h':wpAny M A (evalArgs (.type T) true (backTo pos (starEach [e] env)) (backToKw pos (keywordEach kws env))) (fun a s₁=>wpAny M A (call (.type T) ([]++a.pos) a.kw) Q E s₁) E s:=by
  rw[he]at h ⊢;exact evalArgs_kwB hall h
 refine Y0 (YY (YC h' (fun a s₁ b=>Y0 (UM ?_)) fun _ _ x=>x));simp only[hplain,hkw,Bool.or_false];exact Y0 (Y4 (Y0 (YC b (fun r s₂ c=>Y0 (YY (wpAny_point (Y4 c)))) fun _ _ x=>x)))
end
section
variable{X:Cx}{K:VG}
def KJ(K:VG)(ta tb:TE):TI:=fun σ H R=>ta σ H fun x H1=>tb σ H1 fun y H2=>∃l c,x= .ref l/\y= .int c/\ -(2 ^ 62) <=c/\c < 2 ^ 62/\(∃xs,VZ K H2 l xs)/\R (AT K l c) H2
theorem yX{e e2:VN}{ta tb:TE}{elts:List Expr}{k:Nat}{pos' p pos kp:Pos}(h:X.K=K)(hg:Gl X "enumerate")(hm:X.mg "enumerate"=none)(ha:PE X e ta)(hb:PE X e2 tb)
  (he:backTo pos (starEach [e] X.env)=(false,eval e X.env)::backTo pos (starEach [] X.env):=by rfl) (hs:starEach [e] X.env=(false,eval e X.env)::starEach [] X.env:=by rfl)
  (hpl:(backTo pos (starEach [e] X.env)).any (·.1)=false:=by rfl):PI X (.Tuple elts k pos') (.Call (.Name "enumerate" p) [e] [⟨some "start",e2,kp⟩] pos) (KJ K ta tb):=by
 subst h;intro pins s σ H R I h;refine YN (GI I hg hm boot_enumerate ?_);have h':Mu ta D7 σ H (fun vs H1=>Mu tb D7 σ H1 fun zs H2=>match vs,zs with|[x],[y]=>∃l c,x= .ref l/\y= .int c/\ -(2 ^ 62) <=c/\c < 2 ^ 62/\(∃xs,VZ X.K H2 l xs)/\R (AT X.K l c) H2|_,_=>False):=h;refine wN (Wj (VR ha VT hs pos pins s σ H _ I h') fun us s1 ⟨vs,H1,w,r,q⟩=>Wj (Ik hb L7 pos pins s1 σ H1 _ w q) fun ws s2 zz=>?_) he hpl rfl rfl;rcases zz with⟨zs,H2,d,i,a⟩;cases r with
 |nil=>cases i <;> exact False.elim a
 |cons r1 rr=>
  cases rr with
  |cons _ _=>cases i <;> exact False.elim a
  |nil=>
   cases i with
   |nil=>exact False.elim a
   |cons z1 zz=>
    cases zz with
    |cons _ _=>exact False.elim a
    |nil=>
     obtain⟨l,c,rfl,rfl,c1,c2,⟨xs,u⟩,n⟩:=a;cases r1;obtain⟨t,rfl⟩:=z1;obtain⟨z,rv,o,hz⟩:=d.list u;refine Sd o.isList (by unfold Builtin.SmallTypes.fitsIndex;simp;omega) fun h' f j v=>Uf f ?_
     refine⟨_,[s2.heap.objs.size+ 1,s2.heap.objs.size],_,_,H2,rfl,d.kept (t':=s2.toks) v,tH l _ s2.heap.objs.size c,⟨⟨Value.none,?_⟩,j⟩,fun b hb=>?_,n⟩
     .rw[show c+ ((0:Nat):Int)=c by omega];exact f
     .have g:s2.heap.objs.size <=b:=by
       rcases Y6.mp hb with rfl|hb
       .exact X9 _
       .rw[Yn.mp hb];exact Y1 _
      exact d.fpOk g (d.hok.fresh g)
end
theorem ZZ{K:VG}{a:VI}{c:Int}{xs:List V}{g:TG}{tb:TS}{D:MQ}{σ:St}{H:Hp}(Pv:Nat->St->Hp->Prop)(h0:Pv 0 σ H)(hl:∀i σ H,i <=xs.length->Pv i σ H->VZ K H a xs)
  (hs:∀i x t σ H H',xs[i]?=some x->Pv i σ H->H t=none->VP H H'->H' t=some (.tup [.int (c+ i),x])->g (.ref t) σ H' fun σ2 H2=>tb {D with nx:=Pv (i+ 1),ct:=Pv (i+ 1),bk:=D.nx} σ2 H2) (hd:∀σ H,Pv xs.length σ H->D.nx σ H):Ao g tb D σ (AT K a c) H:=by
 refine⟨fun i m σ H=>m=xs.length - i/\i <=xs.length/\Pv i σ H,⟨xs.length,by simp,Yh _,h0⟩,?_⟩;intro i m σ H Zq;obtain⟨rfl,hi,p⟩:=Zq;have q:=hl i σ H hi p
 by_cases hlt:i < xs.length
 .refine .inr ⟨⟨xs,xs[i],q,by simp[hlt]⟩,Pv (i+ 1),fun σ' H' b=>⟨xs.length - (i+ 1),by omega,rfl,hlt,b⟩,fun x H' y=>?_⟩;obtain⟨t,y,rfl,h1,h2,f,d⟩:=y;exact hs i y t σ H H' (d xs q) p h1 h2 f
 .have e:i=xs.length:=by omega
  subst e;exact .inl ⟨⟨xs,q,Y1 _⟩,hd σ H p⟩
section
variable{X:Cx}{K:VG}
def C0(K:VG):R2:=fun x y H Q=>∃a b xs,x= .ref a/\y= .ref b/\VZ K H a xs/\VZ K H b []/\Q (.bl (decide (xs.length=0))) H
theorem QH(hu:X.A.units+ 64 < cLine)(h:X.K=K):Ja X (compareOp .Eq) (C0 K):=by
 subst h;intro pins s σ H x y v u Q I i g h;obtain⟨a,b,xs,rfl,rfl,h1,h2,q⟩:=h;cases i;cases g;obtain⟨d,l,p,w⟩:=I.list h1;obtain⟨n,c,p2,r⟩:=I.list h2;cases c;have f:=l.length
 by_cases h0:xs.length=0
 .refine PySem.SeqAt.eq_listAt (e:=fun _=>true) p.isList p2.isList (by rw[Yb,Yb,<-f,h0];rfl) (Ye (Nat.le_add_right _ 64) hu) ?_ ?_
  .intro j h1;rw[Yb]at h1;omega
  .have o:d.toArray.size=0:=by rw[Yb];omega
   rw[o];rw[Yw h0]at q;exact N9 I q rfl
 .refine PySem.SeqAt.eq_list_lengthsAt p.isList p2.isList (by rw[Yb,Yb,<-f];simp;exact fun z=>h0 (by rw[z];rfl)) (Ye (Nat.le_add_right _ 64) hu) ?_;rw[Yt h0]at q;exact N9 I q rfl
end
end L2
namespace L2
open PySem PySem.Spec PyProof.Rows
section
variable{X:Cx}{pos pos' p0:Pos}{o i value:VN}{td ty tv tz:TE}
def Ho(td ty tv:TE):TS:=fun D σ H=>tv σ H fun v H1=>td σ H1 fun x H2=>ty σ H2 fun y H3=>∃a n kvs,x= .ref a/\y= .str n/\H3 a=some (.dK kvs)/\kvs.length < sizeLine/\∀G,WP a H3 G->G a=some (.dK (Tp kvs (.inr n) v))->D.nx σ G
theorem Kb(hu:X.A.units+ 1 < cLine)(ho:PE X o td)(hi:PE X i ty)(hv:PE X value tv)(hs:swapsWith value (some (.Subscript o i pos')) pos.line X.env=pure false):
  PS X (.Assign [.Subscript o i pos'] value pos) (Ho td ty tv):=by
 intro pins s σ H D I h;refine Uj (Wj (hv pins s σ H _ I h) fun r s1 ⟨v,H1,I1,d,g⟩=>Wj (ho pins s1 σ H1 _ I1 g) fun u s2 ⟨x,H2,z,c,f⟩=>Wj (hi pins s2 σ H2 _ z f) fun iv s3 zz=>?_) hs;rcases zz with⟨y,H3,w,b,a,n,kvs,ex,l,p,j,e⟩;subst ex l;obtain rfl:u=Value.ref a:=c;exact Ht hu w (Mw.k (k:=Sum.inr n) p j) b d fun s4 q=>⟨σ,_,q,e _ WP.upd WU⟩
def Im:R2:=fun y x H Q=>∃a n kvs,y= .str n/\x= .ref a/\H a=some (.dK kvs)/\Q (.bl (Jh kvs (Sum.inr n)).isSome) H
theorem P0(hu:X.A.units+ 1 < cLine):Ja X (compareOp .In) Im:=by
 intro pins s σ H y x v u Q I b c h;obtain⟨a,n,kvs,rfl,rfl,d,q⟩:=h;cases c;exact O9 hu I (Tv.k (k:=Sum.inr n) d) b fun s' e=>⟨.bl _,H,e,rfl,q⟩
end
def Li(K:VG):List V->Hp->VK->Prop:=fun xs H Q=>∃a C1 C2 dx fs b,xs=[.ref a,.ref C2]/\H a=some (.ins C1 dx fs)/\T7 K C1/\EO K C1/\W.kitOne K (.ref C1) (.ref C2)=some b/\Q (.bl b) H
theorem nA{X:Cx}{K:VG}(h:X.K=K):Wr X (.builtin "isinstance") (Li K):=by
 subst h;intro pins s σ H xs d Q I r f;obtain⟨a,i,g,dx,fs,b,rfl,ha,cl,c,e,q⟩:=f;exact AQ pins s σ H _ d Q I r ⟨.ref a,.ref g,.ref i,b,rfl,.ins ha cl c.ha c.hn c.htk c.hm,rfl,e,q⟩
section
variable{rest es:List Expr}{env:Env}{pos:Pos}{a b c:VN}
theorem TL{k:Nat}:starEach (.Tuple es k pos::rest) env=(false,eval (.Tuple es k pos) env)::starEach rest env:=rfl
theorem Nk:starEach (.List es pos::rest) env=(false,eval (.List es pos) env)::starEach rest env:=rfl
theorem W7{v:Const}{k:Nat}:starEach (.Constant v k pos::rest) env=(false,eval (.Constant v k pos) env)::starEach rest env:=rfl
theorem Wq{x:Str}:starEach (.Name x pos::rest) env=(false,eval (.Name x pos) env)::starEach rest env:=rfl
theorem TU{o:Operator}:starEach (.BinOp a o b pos::rest) env=(false,eval (.BinOp a o b pos) env)::starEach rest env:=rfl
theorem M7{ks:List Keyword}:starEach (.Call a es ks pos::rest) env=(false,eval (.Call a es ks pos) env)::starEach rest env:=rfl
theorem wG{x:Str}:starEach (.Attribute a x pos::rest) env=(false,eval (.Attribute a x pos) env)::starEach rest env:=rfl
theorem E5:starEach (.Subscript a b pos::rest) env=(false,eval (.Subscript a b pos) env)::starEach rest env:=rfl
theorem Ef{gs:List Comprehension}{sc:Scope}:starEach (.ListComp a gs sc pos::rest) env=(false,eval (.ListComp a gs sc pos) env)::starEach rest env:=rfl
theorem HS{o:UnaryOp}:starEach (.UnaryOp o a pos::rest) env=(false,eval (.UnaryOp o a pos) env)::starEach rest env:=rfl
theorem Mx{ar:Arguments}{sc:Scope}:starEach (.Lambda ar a sc pos::rest) env=(false,eval (.Lambda ar a sc pos) env)::starEach rest env:=rfl
end
section
variable{prog:VB}{w:VF}{J:Type}[DecidableEq J]{knd:HeapKind prog w J}{A:VE}{E:Vy}{s:VC}{d a:VI}{k:J}{xs:List (J×Addr×Value)}
def Jz{β:Type}(xs:List (J×β))(k:J):List (J×β):=xs.filter fun x=> !decide (x.1=k)
theorem vZ{β:Type}{xs:List (J×β)}(h:k∉xs.map (·.1)):Jz xs k=xs:=by
 unfold Jz;refine UC.mpr fun x a=>?_
 have:x.1≠k:=fun e=>h (Yv.mpr ⟨x,a,e⟩)
 simp[this]
theorem LA{β:Type}:∀{xs:List (J×β)} {j:Nat} {p:β},(xs.map (·.1)).Nodup->xs[j]?=some (k,p)->xs.eraseIdx j=Jz xs k
 |[],_,_,_,h=>by simp at h
 |x::r,0,p,hn,h=>by
  simp only[List.getElem?_cons_zero,Option.some.injEq]at h;subst h;have hn':k∉r.map (·.1):=(YS.mp hn).1;show r=Jz ((k,p)::r) k;unfold Jz;rw[Uq,Y2 (by simp)];exact(vZ hn').symm
 |x::r,j+ 1,p,hn,h=>by
  simp only[List.getElem?_cons_succ]at h;have c:k∈r.map (·.1):=Yv.mpr ⟨(k,p),Yd h,rfl⟩;have a:¬x.1=k:=fun e=>(YS.mp hn).1 (by show x.1∈_;rw[e];exact c)
  have b:=LA (YS.mp hn).2 h;show x::r.eraseIdx j=Jz (x::r) k;rw[b];unfold Jz;rw[Uq,Y9 (by simp[a])]
theorem Qu{α β:Type}(f:α->β):∀ (l:List α) (j:Nat),(l.map f).eraseIdx j=(l.eraseIdx j).map f
 |[],_=>rfl
 |_::_,0=>rfl
 |x::r,j+ 1=>by show f x::(r.map f).eraseIdx j=f x::(r.eraseIdx j).map f;rw[Qu f r j]
theorem ZG{p:Addr×Value}{Q:Option DictEntry->Shared->Prop}(hu:knd.room A)(hkey:knd.is s.heap k a)(hm:s.heap.DictOfH knd d xs)(hp:atKey xs k=some p)(hz:xs.length <=sizeLine)
  (hQ:∀h',h'.DictOfH knd d (Jz xs k)->Heap.SameBut d s.heap h'->Q (some ⟨knd.hash k,.ref p.1,p.2⟩) {s with heap:=h',toks:=s.toks+ knd.draws k}):wpAny (model prog w) A (Builtin.Dict.takeOut d (.ref a)) Q E s:=by
 obtain⟨o,es,ep,b,n,hd,e,f,c⟩:=hm;have i:es.size <=sizeLine:=by rw[Va e];exact hz
 unfold Builtin.Dict.takeOut
 try with_reducible refine YY ?_
 refine Y0 (knd.pyHash hu hkey (Y0 (wpAny_dictFind_heap (s:={s with toks:=s.toks+ knd.draws k}) hu hkey b hd e f c (fun h=>?_) fun j q g=>?_)))
 .rw[atKey_none_of_get h]at hp;cases hp
 .rw[atKey_of_get c g]at hp;obtain rfl:=Yo hp;refine Y0 (Xs (s:={s with toks:=s.toks+ knd.draws k}) b hd ?_);rw[entry_at e j,g];refine Y0 (wpAny_updateDictKeys (hz:=i) (s:={s with toks:=s.toks+ knd.draws k}) b hd (Y4 (hQ _ ⟨_,_,ep+ 1,Xo _ b (Obj.isFreed_of_dict (XW hd _)),n.mapDictKeys _,XW hd _,?_,?_,?_⟩ (X4 ..))))
  .rw[<-LA c g];have r:(es.eraseIdxIfInBounds j).toList=es.toList.eraseIdx j:=by simp
   rw[r,e,Qu]
  .intro x l;exact knd.keeps (f x (Xm.mp l).1) b hd (X4 ..)
  .exact List.Nodup.sublist (List.Sublist.map _ List.filter_sublist) c
theorem j3{v:VH}{Q:Vy}(hu:knd.room A)(hkey:knd.is s.heap k a)(hm:s.heap.DictOfH knd d xs)(hz:xs.length <=sizeLine)(h1:∀p,atKey xs k=some p->Q p.2 {s with toks:=s.toks+ knd.draws k})
  (h2:atKey xs k=none->∀h',h'.DictOfH knd d (xs++[(k,a,v)])->Heap.SameBut d s.heap h'->Q v {s with heap:=h',toks:=s.toks+ knd.draws k}):wpAny (model prog w) A (dictSetDefault d (.ref a) v) Q E s:=by
 obtain⟨o,es,ep,b,hc,hd,c,g,l⟩:=hm;have r:es.size <=sizeLine:=by rw[Va c];exact hz
 unfold dictSetDefault
 try with_reducible refine YY ?_
 refine Y0 (knd.pyHash hu hkey (Y0 (wpAny_dictFind_heap (s:={s with toks:=s.toks+ knd.draws k}) hu hkey b hd c g l (fun f=>?_) fun j q n=>?_)))
 .have i:k∉xs.map (·.1):=not_mem_keys_of_get f;refine Y0 (UV (Y0 (wpAny_updateDictKeys (hz:=r) (s:={s with toks:=s.toks+ knd.draws k}) b hd (Y4 (h2 (atKey_none_of_get f) _ ⟨_,_,ep+ 1,Xo _ b (Obj.isFreed_of_dict (XW hd _)),hc.mapDictKeys _,XW hd _,?_,?_,?_⟩ (X4 ..))))))
  .simp[c,entryOfKey]
  .intro x h;rcases YG.mp h with z|z
   .exact knd.keeps (g x z) b hd (X4 ..)
   .rw[Yn.mp z];exact knd.keeps hkey b hd (X4 ..)
  .rw[Yp,List.nodup_append];refine⟨l,by simp,fun x h y u e=>i ?_⟩;have:y=k:=by simpa using u
   rw[<-this,<-e];exact h
 .refine Y0 (Xs (s:={s with toks:=s.toks+ knd.draws k}) b hd ?_);rw[entry_at c j,n];exact Y0 (UV (Y4 (h1 q (atKey_of_get l n))))
end
section
variable{prog:VB}{w:VF}{J:Type}[DecidableEq J]{knd:HeapKind prog w J}{d a:VI}
theorem nK (hd : (d == sysModules) = false) (dflt : Value) : MeetsIn prog w (Builtin.«dict.setdefault» ⟨[.ref d, .ref a, dflt], []⟩) (fun A R s => knd.room A.in1 /\ ∃ k xs, knd.is s.heap k a /\ s.heap.DictOfH knd d xs /\ xs.length <= sizeLine /\
  (∀ p, atKey xs k = some p -> R (.ok (.ret p.2)) { s with toks := s.toks + knd.draws k }) /\ (atKey xs k = none -> ∀ h', h'.DictOfH knd d (xs ++ [(k, a, dflt)]) -> Heap.SameBut d s.heap h' -> R (.ok (.ret dflt)) { s with heap := h', toks := s.toks + knd.draws k })) :=
 .of_wp fun A R s zz=>by
  rcases zz with⟨e,k,xs,h,b,c,h1,h2⟩
  unfold Builtin.«dict.setdefault»;refine Y0 (?_:wpAny _ _ (Builtin.Dict.keyAndDefault _ _) _ _ _);unfold Builtin.Dict.keyAndDefault;refine Y0 (Us b.typeIs (?_:wpAny _ _ (pure (d,Value.ref a,some dflt)) _ _ s));refine Y4 (?_:wpAny _ _ (if(d==sysModules)=true then _ else(dictSetDefault d (.ref a) dflt >>=_)) _ _ s);rw[Y2 (by simp[hd])];exact Y0 (j3 e h b c (fun p f=>Y4 ⟨_,rfl,h1 p f⟩) fun g h' i hs=>Y4 ⟨_,rfl,h2 g h' i hs⟩)
theorem jX : MeetsIn prog w (Builtin.«dict.pop» ⟨[.ref d, .ref a], []⟩) (fun A R s => knd.room A.in1 /\ ∃ k xs p, knd.is s.heap k a /\ s.heap.DictOfH knd d xs /\ xs.length <= sizeLine /\ atKey xs k = some p /\
  ∀ h', h'.DictOfH knd d (Jz xs k) -> Heap.SameBut d s.heap h' -> R (.ok (.ret p.2)) { s with heap := h', toks := s.toks + knd.draws k }) :=
 .of_wp fun A R s zz=>by
  rcases zz with⟨j,k,xs,p,n,c,i,b,h⟩
  obtain⟨o,es,ep,l,hc,hd,q,y,hn⟩:=id c;unfold Builtin.«dict.pop»;refine Y0 (?_:wpAny _ _ (Builtin.Dict.keyAndDefault _ _) _ _ _);unfold Builtin.Dict.keyAndDefault;refine Y0 (Us c.typeIs (?_:wpAny _ _ (pure (d,Value.ref a,none)) _ _ s));refine Y4 ?_;have g:(keyPart (.ref a)).isSome=false:=rfl;have f:es.isEmpty=false:=by
   have x:=Va q;have e:xs≠[]:=fun z=>by rw[z]at b;cases b
   have v:0 < xs.length:=List.length_pos_iff.mpr e;have r:¬es.size=0:=by lia
   unfold Array.isEmpty;exact Yt r
  simp only[g,Bool.false_eq_true,if_false];refine Y0 (Xs l hd (Y0 (Y4 ?_)));rw[f];simp only[Bool.false_eq_true,if_false];refine Y0 (ZG j n c b i fun h' u hs=>?_);simp only[Option.isNone_some,Bool.false_eq_true,if_false];exact Y0 (XY (Y4 ⟨_,rfl,h h' u hs⟩))
end
section
variable{X:Cx}{K:VG}
theorem KT.app{H:Hp}{kvs:List (List Wu×V)}{xs:List (List Wu×Addr×Value)}{k:List Wu}{v:V}{b:VI}{u:VH}(r:KT H kvs xs)(hb:H b=some (.tup (k.map kV)))(rv:W9 v u):KT H (kvs++[(k,v)]) (xs++[(k,b,u)]):=by
 induction r with
 |nil=>exact .cons ⟨rfl,hb,rv⟩ .nil
 |cons q _ ih=>exact .cons q ih
theorem KT.less{H:Hp}{kvs:List (List Wu×V)}{xs:List (List Wu×Addr×Value)}{k:List Wu}(r:KT H kvs xs):KT H (Jz kvs k) (Jz xs k):=by
 induction r with
 |nil=>exact .nil
 |@cons p q ps qs hq t ih=>
  unfold Jz at ih ⊢;rw[Uq,Uq,<-hq.1]
  split
  .exact .cons hq ih
  .exact ih
def Fp:V->List V->Hp->VK->Prop:=fun x vs H Q=>∃ (a b:VI) (k:List Wu) (kvs:List (List Wu×V)) (z:V),x= .ref a/\vs=[.ref b,z]/\H a=some (.dT kvs)/\H b=some (.tup (k.map kV))/\kvs.length < sizeLine/\
 (∀v,Jh kvs k=some v->Q v H)/\(Jh kvs k=none->∀G,WP a H G->G a=some (.dT (kvs++[(k,z)]))->Q z G)
theorem Qt(hu:X.A.units+ 1 < cLine):Dm X "dict.setdefault" Fp:=by
 intro pins s σ H x vs v us Q I u rv h;obtain⟨a,b,k,kvs,z,rfl,rfl,g,l,hl,q1,q2⟩:=h;cases u;cases rv with
 |cons r1 t1=>
  cases t1 with
  |cons r2 t2=>
   cases t2;cases r1;obtain⟨hz,hd,xs,f,r⟩:=F2 I.hok g;have i:xs.length <=sizeLine:=by rw[<-Paired.length f];exact hz
   have d:=f.val k;refine call_meetsIn XS r.typeIs PySem.F.entry_dict_setdefault (PySem.F.args_dict_setdefault_3 _ _ _) (nK (knd:=tupleKind (WC X.prog X.w)) hd _) ⟨Xl hu,k,xs,RJ I.hok l,r,i,fun p hp=>?_,fun hn h' o hs=>?_⟩
   .rw[hp]at d;cases e:Jh kvs k with
    |none=>rw[e]at d;exact d.elim
    |some y=>rw[e]at d;exact⟨y,H,I.tok _,d,q1 y e⟩
   .rw[hn]at d;cases e:Jh kvs k with
    |some y=>rw[e]at d;exact d.elim
    |none=>
     obtain⟨q,es,ep,j,h2,h3,h4,_,h5⟩:=o;refine⟨z,upd H a (.dT (kvs++[(k,z)])),?_,r2,q2 e _ WP.upd WU⟩;refine Ck I (by rw[g];exact True.intro) hs ⟨q,j⟩ ⟨by rw[Yx];exact hl,hd,_,(f.app l r2).keeps fun c ys n=>?_,q,es,ep,j,h2,h3,h4,h5⟩;rw[Wh (VS n g (fun z=>nomatch z))];exact n
def Lo:V->List V->Hp->VK->Prop:=fun x vs H Q=>∃ (a b:VI) (k:List Wu) (kvs:List (List Wu×V)) (v:V),x= .ref a/\vs=[.ref b]/\H a=some (.dT kvs)/\H b=some (.tup (k.map kV))/\Jh kvs k=some v/\
 ∀G,WP a H G->G a=some (.dT (Jz kvs k))->Q v G
theorem Ls(hu:X.A.units+ 1 < cLine):Dm X "dict.pop" Lo:=by
 intro pins s σ H x vs v us Q I rx rv h;obtain⟨a,b,k,kvs,z,rfl,rfl,g,hb,i,q⟩:=h;cases rx;cases rv with
 |cons r1 t1=>
  cases t1;cases r1;obtain⟨j,hd,xs,e,y⟩:=F2 I.hok g;have l:xs.length <=sizeLine:=by rw[<-Paired.length e];exact j
  have f:=e.val k;rw[i]at f;cases hp:atKey xs k with
  |none=>rw[hp]at f;exact f.elim
  |some p=>
   rw[hp]at f;refine call_meetsIn Ut y.typeIs PySem.F.entry_dict_pop (PySem.F.args_dict_pop_2 _ _) (jX (knd:=tupleKind (WC X.prog X.w)) (d:=a) (a:=b)) ⟨Xl hu,k,xs,p,RJ I.hok hb,y,l,hp,fun h' u hs=>?_⟩;obtain⟨o,es,ep,n,h2,h3,h4,_,h5⟩:=u;refine⟨z,upd H a (.dT (Jz kvs k)),?_,f,q _ WP.upd WU⟩;refine Ck I (by rw[g];exact True.intro) hs ⟨o,n⟩ ⟨Yu (Xp _ _) j,hd,_,(KT.less e).keeps fun c ys r=>?_,o,es,ep,n,h2,h3,h4,h5⟩;rw[Wh (VS r g (fun z=>nomatch z))];exact r
end
section
variable{X:Cx}{pins:VA}{σ:St}{H:Hp}{s:VC}{d:VI}{u0 u1:HO}
theorem VV.retag(I:VV X pins σ H s)(e:H d=some u0)(n1:∀xs,u0≠ .tup xs)(n2:∀x,u0≠ .own x)(n3:∀ps,u0≠ .tbl ps)(n4:∀o u,X.H₀ d≠some (.frz o u))(new:Wf X.prog X.w (upd H d u1) s.heap d u1):VV X pins σ (upd H d u1) s:=by
 have ne:∀{b:VI},H b=none->b≠d:=fun h z=>by rw[z,e]at h;cases h
 have a:∀b xs,H b=some (.tup xs)->upd H d u1 b=some (.tup xs):=fun b xs h=>by
  rw[Wh (fun z=>by rw[z,e]at h;exact n1 xs (Yo h))];exact h
 have g:∀b x,H b=some (.own x)->upd H d u1 b=some (.own x):=fun b x h=>by
  rw[Wh (fun z=>by rw[z,e]at h;exact n2 x (Yo h))];exact h
 refine⟨I.ok,I.os,I.bare,⟨I.base.keep,I.base.slot,fun b o q n i=>?_,I.base.there,fun b xs q=>a b xs (I.base.tups b xs q),fun b o u q=>?_,fun b ps q=>?_⟩,I.loc,I.cell,?_,fun x c q=>?_,fun p j=>?_,fun b u q=>?_,I.len⟩
 .have:=I.base.free b o q n i;rw[Wh (ne this)];exact this
 .rw[Wh (fun z=>n4 o u (by rw[<-z];exact q))];exact I.base.frzs b o u q
 .obtain⟨m,h⟩:=I.base.tbls b ps q;exact⟨m,by rw[Wh (fun z=>by rw[z,e]at h;exact n3 _ (Yo h))];exact h⟩
 .rw[Wh (ne I.free)];exact I.free
 .rw[Wh (ne (I.freeC x c q))];exact I.freeC x c q
 .obtain⟨r,f,l⟩:=I.pin p j;exact⟨r,by rw[Wh (ne f)];exact f,l⟩
 .by_cases hb:b=d
  .subst hb;rw[WU]at q;cases q;exact new
  .rw[Wh hb]at q;exact(I.hok b u q).stay (fun c v _ h=>h) (fun c h=>g c b h) a
theorem VV.freeze{kvs:List (List Wu×V)}{o:Obj}(I:VV X pins σ H s)(e:H d=some (.dT kvs))(ho:s.heap.get? d=some o):VV X pins σ (upd H d (.frz o (.dT kvs))) s:=by
 refine I.retag e (fun _ z=>nomatch z) (fun _ z=>nomatch z) (fun _ z=>nomatch z) (fun o u z=>?_) ⟨ho,?_⟩
 .have:=I.base.frzs d o u z;rw[e]at this;cases this
 .exact(I.hok d _ e).stay (fun c v _ h=>h) (fun c h=>by rw[Wh (VS h e (fun z=>nomatch z))];exact h) fun c xs h=>by rw[Wh (VS h e (fun z=>nomatch z))];exact h
theorem VV.thaw{kvs:List (List Wu×V)}{o:Obj}(I:VV X pins σ H s)(e:H d=some (.frz o (.dT kvs)))(n4:∀o u,X.H₀ d≠some (.frz o u)):VV X pins σ (upd H d (.dT kvs)) s:=by
 refine I.retag e (fun _ z=>nomatch z) (fun _ z=>nomatch z) (fun _ z=>nomatch z) n4 ?_;have h1:Wf X.prog X.w H s.heap d (.dT kvs):=(I.hok d _ e).2;exact h1.stay (fun c v _ h=>h) (fun c h=>by rw[Wh (VS h e (fun z=>nomatch z))];exact h) fun c xs h=>by rw[Wh (VS h e (fun z=>nomatch z))];exact h
end
section
variable{prog:VB}{w:VF}{A:VE}{E:Vy}{s:VC}{d it:VI}{o:Obj}{es:Array DictEntry}{ep i n:Nat}
theorem Oj{Q:Vy}(hd:(d==sysModules)=false)(ho:s.heap.get? d=some o)(hc:o.ExactDict)(hdat:o.data= .dict es ep)
  (hQ:Q (.ref s.heap.objs.size) {s with heap:=s.heap.push {cls:=.type "dict_keyiterator",data:=.fields #[.ref d,.int 0 0,.int es.size 0,.int ep 0]}}):wpAny (model prog w) A (pyIter (.ref d)) Q E s:=by
 have a:s.TypeIs (.ref d) "dict":=⟨o,ho,hc.1⟩
 refine wpAny_pyIter_slot a Vd (Xi Vd a PySem.F.entry_dict_iter ?_ (PySem.F.args_dict_iter_1 _));unfold Builtin.«dict.__iter__»;refine Y0 (?_:wpAny _ _ (Builtin.Dict.dictSlotNone _ _) _ _ _);unfold Builtin.Dict.dictSlotNone;refine Y0 (Us a (?_:wpAny _ _ (pure (Value.ref d)) _ _ s));refine Y4 (?_:wpAny _ _ (Builtin.Dict.showsAll d >>=_) _ _ s);unfold Builtin.Dict.showsAll;rw[Y2 (by simp[hd])];refine Y0 (Y4 (Y0 (Xs ho hdat (Y0 (Vb ho hdat (Y0 (XJ (Y4 ⟨_,rfl,"dict_keyiterator",_,⟨_,Yj _ rfl,rfl⟩,YW.lookup,?_⟩))))))));simpa[rawInt] using hQ
theorem Qg{Q:Option Value->Shared->Prop}(hit:s.heap.IsKeyIter it d i es.size ep)(ho:s.heap.get? d=some o)(hdd:o.data= .dict es ep)(hlt:i < es.size)
  (hQ:∀h',h'.IsKeyIter it d (i+ 1) es.size ep->Heap.SameBut it s.heap h'->Q (some es[i].key) {s with heap:=h'}):wpAny (model prog w) A (pyNext (.ref it)) Q E s:=by
 obtain⟨f,a,e,hd⟩:=id hit;have c:=hit.typeIs;unfold pyNext;refine Y0 (Um (XB (name:=Str.ofString "__next__") c YW (Xi YW c Ua ?_ (U8 _))));refine Y0 (Y4 (Y0 (Y0 ?_)));refine Y0 (Xh c (Y4 (Y0 (wpAny_fieldsOf a hd ?_))));simp only[show Builtin.Dict_items.ownsTuple "dict_keyiterator"=false by decide,Bool.false_eq_true,if_false];refine(?_:wpAny _ _ (if(Value.ref d==Value.none)=true then _ else _) _ _ s);rw[Y2 (show ¬((Value.ref d==Value.none)=true) from fun z=>Bool.noConfusion z)];refine Y0 (Y4 (Y0 (Xs ho hdd ?_)));rw[Y2 (by simp)];refine Y0 (Y4 (Y0 (Vb ho hdd ?_)));rw[Y2 (by simp)];refine Y4 ?_;simp only[show ¬((i:Int) < 0) by omega,if_false,Uc,U5 hlt];refine Y0 (Y0 (Xh c (Y4 (Y0 (wpAny_isOneOf_keyiter c ?_)))));refine(?_:wpAny _ _ (setField (.ref it) 1 (rawInt ((i:Int)+ 1)) >>=_) _ _ s);refine Y0 (wpAny_setField a hd (by simp) ?_);have b:(s.heap.update it (Obj.mapFields (·.setIfInBounds 1 (rawInt ((i:Int)+ 1))))).IsKeyIter it d (i+ 1) es.size ep:=
  ⟨_,Xo _ a (Obj.isFreed_of_fields (Obj.data_mapFields hd _)),(Obj.cls_mapFields ..).trans e,by rw[Obj.data_mapFields hd];simp[rawInt]⟩
 refine Y0 (YY (Y0 (wpAny_isOneOf_keyiter (s:={s with heap:=s.heap.update it (Obj.mapFields (·.setIfInBounds 1 (rawInt ((i:Int)+ 1))))}) b.typeIs ?_)));refine(?_:wpAny _ _ (pure es[i].key) _ _ _);exact Y4 (Y4 ⟨_,rfl,Y4 (hQ _ b (X4 ..))⟩)
theorem PJ{Q:Option Value->Shared->Prop}(hh:A.handled=none)(hit:s.heap.IsKeyIter it d i es.size ep)(ho:s.heap.get? d=some o)(hdd:o.data= .dict es ep)(hge:es.size <=i)
  (hQ:∀h',Heap.ExtBut it s.heap h'->Q none {s with heap:=h'}):wpAny (model prog w) A (pyNext (.ref it)) Q E s:=by
 obtain⟨f,e,g,hd⟩:=id hit;have c:=hit.typeIs;unfold pyNext;refine Y0 (Um (XB (name:=Str.ofString "__next__") c YW (Xi YW c Ua ?_ (U8 _))));refine Y0 (Y4 (Y0 (Y0 ?_)));refine Y0 (Xh c (Y4 (Y0 (wpAny_fieldsOf e hd ?_))));simp only[show Builtin.Dict_items.ownsTuple "dict_keyiterator"=false by decide,Bool.false_eq_true,if_false];refine(?_:wpAny _ _ (if(Value.ref d==Value.none)=true then _ else _) _ _ s);rw[Y2 (show ¬((Value.ref d==Value.none)=true) from fun z=>Bool.noConfusion z)];refine Y0 (Y4 (Y0 (Xs ho hdd ?_)));rw[Y2 (by simp)];refine Y0 (Y4 (Y0 (Vb ho hdd ?_)));rw[Y2 (by simp)];refine Y4 ?_;simp only[show ¬((i:Int) < 0) by omega,if_false,Uc,Array.getElem?_eq_none hge];refine Y0 (Y0 (Xh c (Y4 ?_)));refine(?_:wpAny _ _ (setField (.ref it) 0 .none >>=_) _ _ s);refine Y0 (wpAny_setField e hd (by simp) ?_);refine(?_:wpAny _ _ (newExc (.type "StopIteration") [] >>=_) _ _ _);refine Y0 ?_;simp only[newExc,newTuple];refine Y0 (XJ (Y0 (m:=firstArgMember _ _) (wpAny_of_eq (a:=Value.none) (by first|rfl|(simp only[firstArgMember];rfl)) (XJ ?_ (by size_fits)))) (by size_fits));simp only[raiseNew];refine Y0 (wpAny_handled ?_);rw[show A.in1.handled=none from hh];refine Y0 (Y4 (wpAny_throw ?_));exact Y0 (wpAny_isInstance (T:="StopIteration") (b:=true) ⟨_,Yj _ rfl,rfl⟩ isSubtype_stop (Y4 (hQ _ (((X4 ..).extBut.push _).push _))))
end
def P9(d:VI)(o:Obj)(kvs:List (List Wu×V)):It:=
 ⟨fun i H=>H d=some (.frz o (.dT kvs))/\i < kvs.length,fun i H x H'=>H'=H/\∃b k v,x= .ref b/\kvs[i]?=some (k,v)/\H b=some (.tup (k.map kV)),fun i H=>H d=some (.frz o (.dT kvs))/\kvs.length <=i⟩
theorem KT.at'{H:Hp}:∀{kvs:List (List Wu×V)} {xs:List (List Wu×Addr×Value)},KT H kvs xs->∀{i:Nat} {x:List Wu×Addr×Value},xs[i]?=some x->∃v,kvs[i]?=some (x.1,v)/\H x.2.1=some (.tup (x.1.map kV)):=by
 intro kvs xs r
 induction r with
 |nil=>intro i x h;simp at h
 |@cons p q ps qs hq t ih=>
  intro i x h;cases i with
  |zero=>
   simp only[List.getElem?_cons_zero,Option.some.injEq]at h;subst h;refine⟨p.2,by simp[<-hq.1],by rw[<-hq.1];exact hq.2.1⟩
  |succ i=>exact ih (by simpa using h)
theorem yP{P:VB}{w:VF}{K:VG}{tg:VN}{o:Obj}{kvs:List (List Wu×V)}{es:Array DictEntry}{ep:Nat}(d it:VI)(hdat:o.data= .dict es ep)(hsz:es.size=kvs.length):GU P w K tg (P9 d o kvs) [it] it (fun i h=>h.IsKeyIter it d i es.size ep) where
 mem:=by simp
 obj:=fun i h st b a=>by
  have e:b=it:=by simpa using a
  subst e;obtain⟨o,e,c,d⟩:=st;exact⟨o,e,fun v z=>by rw[d]at z;cases z⟩
 keep:=fun i h h' st k=>by
  obtain⟨n,e,r⟩:=st;exact⟨n,k it (by simp) n e,r⟩
 item:=by
  intro X u p x hc i pins s σ H E I g st q;subst u p x;obtain⟨hF,hi⟩:=q;obtain⟨f0,f1,f2,f3,f4,f5⟩:=g it (by simp);obtain⟨f,hob⟩:=(show s.heap.get? d=some o/\Wf X.prog X.w H s.heap d (.dT kvs) from I.hok d _ hF);obtain⟨z,y,xs,r,o',es',ep',q1,q2,q3,q4,q5⟩:=hob;rw[f]at q1;cases q1;rw[hdat]at q3;cases q3;have l:i < es.size:=by omega
  refine Qg st f hdat l fun h' j sb=>?_
  have I1:VV X pins σ H {s with heap:=h'}:=I.turned (t':=s.toks) (fun b o a e=>(sb.2 b a).trans e) f0 f1 f3 f4 f5;obtain⟨n,e,c,dd⟩:=id j;have hxl:xs.length=es.size:=by rw[<-Array.length_toList,q4,List.length_map]
  have hx:xs[i]?=some xs[i]:=Y7 (by omega);obtain⟨v,hv,a⟩:=KT.at' r hx;have hk:es[i].key= .ref xs[i].2.1:=by
   have:es.toList[i]?=(xs.map (entryOfKey (tupleKind (WC X.prog X.w))))[i]?:=by rw[q4]
   rw[Yk,hx,XT,U5 l]at this;rw[Yo this];rfl
  exact⟨_,rfl,CT (s:={s with heap:=h'}) e c dd (by decide) ⟨.ref xs[i].2.1,H,I1,hk,⟨rfl,_,_,v,rfl,hv,a⟩,j,fun b a=>(g b a).1⟩⟩
 done:=by
  intro X u p x hc i pins s σ H E I g st q;subst u p x;obtain⟨hF,hi⟩:=q;obtain⟨f0,f1,f2,f3,f4,f5⟩:=g it (by simp);have f:s.heap.get? d=some o:=(show s.heap.get? d=some o/\Wf X.prog X.w H s.heap d (.dT kvs) from I.hok d _ hF).1;exact PJ (I.ok.hd hc) st f hdat (by omega) fun h' eb=>⟨rfl,I.turned (t':=s.toks) (fun b o a e=>eb b o a e) f0 f1 f3 f4 f5⟩
 self:=fun A i s Q E st h=>by
  exact wpAny_pyIter_keyiter st h
section
variable{X:Cx}{K:VG}
def Q1(td:TE):TI:=fun σ H R=>td σ H fun x H1=>∃a kvs,x= .ref a/\H1 a=some (.dT kvs)/\∀o,R (P9 a o kvs) (upd H1 a (.frz o (.dT kvs)))
theorem tV{tg e:VN}{td:TE}(hl:PE X e td):PI X tg e (Q1 td):=by
 intro pins s σ H R I h;refine Wj (hl pins s σ H _ I h) fun v s1 zz=>?_;rcases zz with⟨x,H1,i,j,a,kvs,ex,g,q⟩
 subst ex;cases j;obtain⟨z,y,xs,r,o,es,ep,f,n,d,l,q5⟩:=(show Wf X.prog X.w H1 s1.heap a (.dT kvs) from i.hok a _ g);have u:xs.length=es.size:=by rw[<-Array.length_toList,l,List.length_map]
 have aa:=Paired.length r;refine Oj y f n d ?_;have c:=i.freeze g f;refine⟨s1.heap.objs.size,[s1.heap.objs.size],_,_,_,rfl,c.kept (t':=s1.toks) fun b o e=>Y3 _ e,yP a _ d (by omega),⟨_,Yj _ rfl,rfl,rfl⟩,fun b p=>?_,q o⟩;have e:b=s1.heap.objs.size:=by simpa using p
 subst e;exact c.fpOk (Y1 _) (c.hok.fresh (Y1 _))
def Ox(t:TE):TE:=fun σ H Q=>∃d kvs,H d=some (.dT kvs)/\t σ H fun v H'=>∃o,H' d=some (.frz o (.dT kvs))/\Q v (upd H' d (.dT kvs))
end
section
variable{X:Cx}{pos pos' p0:Pos}{o i value:VN}{td ty tv tz:TE}
def IJ(td ty tv:TE):TS:=fun D σ H=>tv σ H fun v H1=>td σ H1 fun x H2=>ty σ H2 fun y H3=>∃ (a b:VI) (k:List Wu) (kvs:List (List Wu×V)),x= .ref a/\y= .ref b/\H3 a=some (.dT kvs)/\H3 b=some (.tup (k.map kV))/\kvs.length < sizeLine/\∀G,WP a H3 G->G a=some (.dT (Tp kvs k v))->D.nx σ G
theorem QR(hu:X.A.units+ 1 < cLine)(ho:PE X o td)(hi:PE X i ty)(hv:PE X value tv)(hs:swapsWith value (some (.Subscript o i pos')) pos.line X.env=pure false):
  PS X (.Assign [.Subscript o i pos'] value pos) (IJ td ty tv):=by
 intro pins s σ H D I h;refine Uj (Wj (hv pins s σ H _ I h) fun r s1 ⟨v,H1,I1,e,j⟩=>Wj (ho pins s1 σ H1 _ I1 j) fun u s2 ⟨x,H2,I2,d,g⟩=>Wj (hi pins s2 σ H2 _ I2 g) fun iv s3 zz=>?_) hs;rcases zz with⟨y,H3,z,c,a,b,k,kvs,ex,n,q,p,l,f⟩;subst ex n;obtain rfl:u=Value.ref a:=d;exact Ht hu z (Mw.t (k:=k) q p l) c e fun s4 w=>⟨σ,_,w,f _ WP.upd WU⟩
def HI:R2:=fun y x H Q=>∃ (a b:VI) (k:List Wu) (kvs:List (List Wu×V)),y= .ref b/\x= .ref a/\Rd H a (.dT kvs)/\H b=some (.tup (k.map kV))/\Q (.bl (Jh kvs k).isSome) H
theorem SJ(hu:X.A.units+ 1 < cLine):Ja X (compareOp .In) HI:=by
 intro pins s σ H y x v u Q I c d h;obtain⟨a,b,k,kvs,rfl,rfl,f,e,q⟩:=h;cases d;exact O9 hu I (.inr ⟨kvs,k,b,f,rfl,e,rfl⟩) c fun s' g=>⟨.bl _,H,g,rfl,q⟩
def K1:TE:=fun _ H Q=>∀p G,H p=none->VP H G->G p=some (.dT [])->Q (.ref p) G
theorem F7:PE X (.Dict [] [] p0) K1:=by
 intro pins s σ H Q I h;exact vA pins s σ H Q I fun p a=>h p _ a (NX a) WU
end
section
variable{X:Cx}
def Pn(t:TS):TS:=fun D σ H=>∃d kvs,H d=some (.dT kvs)/\t {nx:=fun σ' H'=>∃o,H' d=some (.frz o (.dT kvs))/\D.nx σ' (upd H' d (.dT kvs)),rt:=fun _ _=>False} σ H
theorem nO{st:Stmt}{t:TS}(h:PS X st t):PS X st (Pn t):=by
 intro pins s σ H D I a;obtain⟨d,kvs,hd,a⟩:=a;have b:∀o u,X.H₀ d≠some (.frz o u):=fun o u z=>by have:=I.base.frzs d o u z;rw[hd]at this;cases this
 refine Wj (h pins s σ H _ I a) fun f s1 k=>?_
 cases f with
 |next=>obtain⟨σ',H',e,o,c,q⟩:=k;exact⟨σ',_,e.thaw c b,q⟩
 |brk=>obtain⟨_,_,_,q⟩:=k;exact q.elim
 |cont=>obtain⟨_,_,_,q⟩:=k;exact q.elim
 |ret u=>obtain⟨_,_,_,_,_,q⟩:=k;exact q.elim
theorem dG{caps:List (Option Nat)}{wi:TI}{g:TG}{tc:TT}{te:TE}{i:Nat}{D:MQ}{σ:St}{H:Hp}(h:Ox (RI caps wi g tc te) σ H fun v G=>D.nx (σ.set i (some v)) G):Pn (Rz (RI caps wi g tc te) (GJ i)) D σ H:=h
end
end L2
namespace L2
open PySem PySem.Spec PyProof.Rows PySem.W
end L2
namespace L2
open PySem PySem.Spec PyProof.Rows
theorem Wf.there{P:VB}{w:VF}{H:Hp}{h:VM}{a:VI}{o:HO}(x:Wf P w H h a o):∃ob,h.get? a=some ob:=by
 cases o with
 |lst xs=>obtain⟨_,_,_,_,e⟩:=x;exact⟨_,e⟩
 |tup xs=>obtain⟨_,_,_,ob,e,_⟩:=x;exact⟨_,e⟩
 |dK kvs=>obtain⟨_,_,_,_,o,_,_,e,_⟩:=x;exact⟨_,e⟩
 |dT kvs=>obtain⟨_,_,_,_,o,_,_,e,_⟩:=x;exact⟨_,e⟩
 |set S n=>obtain⟨o,_,_,_,e,_⟩:=x;exact⟨_,e⟩
 |ins C dx fs=>obtain⟨_,_,_,e,_⟩:=x;exact⟨_,e⟩
 |own y=>obtain⟨_,e⟩:=x;exact⟨_,e⟩
 |xd fs=>obtain⟨_,⟨_,_,_,e,_⟩,_⟩:=x;exact⟨_,e⟩
 |rng lo hi=>obtain⟨_,_,_,e⟩:=x;exact⟨_,e⟩
 |frz ob u=>obtain⟨e,_⟩:=x;exact⟨_,e⟩
 |tbl ps=>exact⟨_,show h.get? a=some _ from x⟩
 |met f y=>exact⟨_,show h.get? a=some _ from x⟩
 |ext φ=>obtain⟨_,⟨_,e⟩,_⟩:=x;exact⟨_,e⟩
structure MO(P:VB)(w:VF)(outer:List Env)(H:Hp)(s:VC)(a C:VI)(t:VH)(B:VM)(H':Hp)(s':VC):Prop where
 os:s'.os=s.os
 bare:AllBare s'.gens
 fly:Heap.FlyingW B outer a (.ref C) t s'.heap
 hok:JU P w H' B
 un:Un (JM outer) [] H H' s.heap s'.heap
 keepB:∀b o,s.heap.get? b=some o->b∉JM outer->H b=none->B.get? b=some o
 thereB:∀b o,s.heap.get? b=some o->b∉JM outer->∃o',B.get? b=some o'
def N4(P:VB)(w:VF):DT:=fun outer H s E e s'=>∃ (a C:VI) (t:VH) (B:VM) (H':Hp),e= .ref a/\MO P w outer H s a C t B H' s'/\E (.ref C) none H'
structure BU(X:Cx)(E:XK):Prop where
 stk:X.stack=X.env::X.outer
 fr:X.env.frame=some X.env.locals
 ex:X.ex=[]
 xe:∀e s,wpAny (model X.prog X.w) X.A (leaving X.env e) (fun _ s''=>N4 X.prog X.w X.outer X.H₀ X.s₀ E e s'') (fun e' s''=>N4 X.prog X.w X.outer X.H₀ X.s₀ E e' s'') s->X.xe e s
section
variable{X:Cx}{pins:VA}{σ:St}{H:Hp}{s:VC}{E E1:XK}
theorem Cp(L:X.stack=X.env::X.outer)(fr:X.env.frame=some X.env.locals){b:VI}:b∈JM X.stack↔b=X.env.locals\/b∈JM X.outer:=by
 rw[L];unfold JM;simp[fr]
theorem ZD(I:VV X pins σ H s)(L:BU X E){h1:VM}{e C:VI}{args:VL}{tk:Nat}(hx:Heap.MadeExcOf s.heap h1 e (.ref C) args)(hE:E (.ref C) none H):X.xe (.ref e) {s with heap:=h1,toks:=tk}:=by
 refine L.xe _ _ ?_;have f:∀b o,X.s₀.heap.get? b=some o->b∉JM X.outer->b∉JM X.stack:=fun b o q c g=>by
  rcases(Cp L.stk L.fr).mp g with rfl|g
  .exact absurd (Ym (Y8 q) I.ok.above) (YM _)
  .exact c g
 have d:∀b,b∉X.ex:=fun b=>by rw[L.ex];simp
 have y:∀env∈X.stack,∀a,env.frame=some a->a∈JM X.stack:=fun env he a ha=>UJ.mpr ⟨env,he,ha⟩
 have aa:s.heap.FunFrames (W.hideAll s.heap (JM X.stack)) (X.env::X.outer):=L.stk▸W.funFrames_hide I.stack y;refine wpAny_leaves_madeW (base:=W.hideAll s.heap (JM X.stack)) (h:=s.heap) (L:=X.env.locals) (s:={s with heap:=h1,toks:=tk}) (L.stk▸I.ok.frames) L.fr (fun b o q=>W.of_hideAll _ q) aa hx fun h' t r _ _ sm=>?_
 have j:s.heap.UpToSlots h':=(Heap.UpToSlots.of_keeps hx.keeps).trans sm;have i:∀b o,s.heap.get? b=some o->b∉JM X.stack->(W.hideAll s.heap (JM X.stack)).get? b=some o:=fun b o q c=>W.hideAll_get _ q c
 have w:∀b o,b∈JM X.stack->s.heap.get? b=some o->∀vs,o.data≠ .fields vs:=fun b o c q=>by
  obtain⟨_,o',v,z⟩:=I.stack.mem c;rw[q]at v;cases v;exact z
 refine⟨e,C,.ref t,_,H,rfl,⟨I.os,I.bare,r,fun a o q=>?_,⟨fun b o q n c _=>?_,fun b o q n c _=>?_,fun b o q n _=>I.base.free b o q n (d b),fun b o q _=>?_,I.base.tups,I.base.frzs,I.base.tbls⟩,fun b o q c n=>?_,fun b o q c=>?_⟩,hE⟩
 .refine(I.hok a o q).stay (fun b u c z=>i b u z fun g=>?_) (fun _ z=>z) fun _ _ z=>z
  have x:=I.stkFree b g;rcases c with rfl|c
  .rw[x]at q;cases q
  .rw[x]at c;cases c
 .exact r.1 b o (i b o (I.base.keep b o q n c (d b)) (f b o q c))
 .obtain⟨sl,z⟩:=I.base.slot b o q n c (d b);obtain⟨l,p⟩:=j b _ z (w b _ ((Cp L.stk L.fr).mpr (.inr c)) z);exact⟨l,p⟩
 .obtain⟨o',z⟩:=I.base.there b o q (d b)
  by_cases c:b∈JM X.stack
  .obtain⟨l,p⟩:=j b _ z (w b _ c z);exact⟨_,p⟩
  .exact⟨o',r.1 b o' (i b o' z c)⟩
 .exact i b o (I.base.keep b o q n c (d b)) (f b o q c)
 .obtain⟨o',z⟩:=I.base.there b o q (d b);exact⟨o',i b o' z (f b o q c)⟩
theorem NK(L:BU X E)(hE:∀C H',E1 (.ref C) none H'->E (.ref C) none H'):GM (N4 X.prog X.w) X E1:=by
 intro pins σ H s e s' I c;obtain⟨a,C,t,B,H',rfl,F,hq⟩:=c;refine L.xe _ _ ?_;have h:∀b o,X.s₀.heap.get? b=some o->b∉JM X.outer->b∉JM X.stack:=fun b o q d j=>by
  rcases(Cp L.stk L.fr).mp j with rfl|j
  .exact absurd (Ym (Y8 q) I.ok.above) (YM _)
  .exact d j
 have f:∀b,b∉X.ex:=fun b=>by rw[L.ex];simp
 refine wpAny_leaves_onW (base:=B) (L:=X.env.locals) (L.stk▸I.ok.frames) L.fr (L.stk▸F.fly) fun h' l p=>?_
 have y:∀b o,b∈JM X.stack->s'.heap.get? b=some o->∀vs,o.data≠ .fields vs:=fun b o d q=>by
  obtain⟨_,o',u,z⟩:=F.fly.2.2.1.mem d;rw[q]at u;cases u;exact z
 refine⟨a,C,t,B,H',rfl,⟨F.os.trans I.os,F.bare,l,F.hok,⟨fun b o q n d _=>?_,fun b o q n d _=>?_,fun b o q n _=>?_,fun b o q _=>?_,fun b xs z=>F.un.tups b xs (I.base.tups b xs z),fun b v xs z=>F.un.frzs b v xs (I.base.frzs b v xs z),fun b ps z=>?_⟩,fun b o q d n=>?_,fun b o q d=>?_⟩,hE C H' hq⟩
 .exact l.1 b o (F.keepB b o (I.base.keep b o q n d (f b)) (h b o q d) (I.base.free b o q n (f b)))
 .obtain⟨sl,z⟩:=I.base.slot b o q n d (f b);have hs:b∈JM X.stack:=(Cp L.stk L.fr).mpr (.inr d);obtain⟨sl1,g⟩:=F.un.slot b _ z (I.base.free b o q n (f b)) hs (by simp);obtain⟨r,i⟩:=p b _ g (y b _ hs g);exact⟨r,i⟩
 .obtain⟨o',z⟩:=I.base.there b o q (f b);exact F.un.free b o' z (I.base.free b o q n (f b)) (by simp)
 .obtain⟨o',z⟩:=I.base.there b o q (f b);obtain⟨o1,g⟩:=F.un.there b o' z (by simp)
  by_cases d:b∈JM X.stack
  .obtain⟨sl',z'⟩:=p b _ g (y b _ d g);exact⟨_,z'⟩
  .obtain⟨x,i⟩:=F.thereB b o' z d;exact⟨x,l.1 b x i⟩
 .obtain⟨m1,e1⟩:=I.base.tbls b ps z;obtain⟨m2,e2⟩:=F.un.tbls b _ e1;exact⟨m1++m2,by rw[e2,Array.append_assoc]⟩
 .exact F.keepB b o (I.base.keep b o q n d (f b)) (h b o q d) (I.base.free b o q n (f b))
 .obtain⟨o',z⟩:=I.base.there b o q (f b);exact F.thereB b o' z (h b o q d)
end
theorem Ma{P:VB}{w:VF}{K:VG}{mg:Vx}{base:VM}{N:List Str}{qual:Str}{scope:Scope}{f:VI}{cd:VH}{A:VE}{outer:List Env}{s:VC}{H:Hp}{E:XK}:
  BU (Nr (N4 P w) P w K mg base N qual scope f cd A outer s H E) E:=⟨rfl,rfl,rfl,fun _ _ h=>h⟩
structure Gv(P:VB)(w:VF)(K:VG)(mg:Vx)(base:VM)(x:Str)(k:Nat)(ps:List Str)(dvs:List V)(sp:Sp):Prop where
 ex:∃ (f:VI) (fd:VD) (ds:VL),VW P w K mg base (N4 P w) k f fd ps sp/\mg x=some (.ref f)/\W.keepIn K (.ref f)=true/\JK K fd ps ds/\W2 dvs ds
structure RY(P:VB)(w:VF)(K:VG)(mg:Vx)(base:VM)(x:Str)(k:Nat)(sp:Sp):Prop where
 ex:∃ (f C:VI) (fd:VD) (ds:VL) (dvs:List V) (ps:List Str) (sp0:Sp),VW P w K mg base (N4 P w) k f fd ps sp0/\mg x=some (.ref C)/\Mk K C f/\JK K fd ps ds/\W2 dvs ds/\
  ∀vs H Q E,sp vs H Q E->∀y dx G,H y=none->H dx=none->dx≠y->VP H G->G y=some (.ins C dx [])->sp0 (.ref y::(vs++dvs)) G (fun v H2=>v= .non/\Q (.ref y) H2) E
section
variable{X:Cx}{k:Nat}{ps:List Str}{sp:Sp}{dvs:List V}{x:Str}{p pos:Pos}{e:VN}{es:List Expr}{t:TA}{E:XK}
theorem GG(F:Gv X.prog X.w X.K X.mg X.base x k ps dvs sp)(hr:Room k X.A)(hg:Gl X x)(hx:GM (N4 X.prog X.w) X E)(ha:PA X (e::es) t)(hdb:(x==("__debug__":Str))=false:=by decide)
  (he:starEach (e::es) X.env=(false,eval e X.env)::starEach es X.env:=by rfl) (hpl:(backTo pos (starEach es X.env)).any (·.1)=false:=by rfl):PE X (.Call (.Name x p) (e::es) [] pos) (Rx sp dvs E t):=by
 obtain⟨f,fd,ds,G,a,b,c,hd⟩:=F.ex;exact QB G hr hg a b c hd hx ha hdb he hpl
theorem E6(F:RY X.prog X.w X.K X.mg X.base x k sp)(hr:Room (k+ 1) X.A)(hg:Gl X x)(hx:GM (N4 X.prog X.w) X E)(ha:PA X (e::es) t)(hdb:(x==("__debug__":Str))=false:=by decide)
  (he:starEach (e::es) X.env=(false,eval e X.env)::starEach es X.env:=by rfl) (hpl:(backTo pos (starEach es X.env)).any (·.1)=false:=by rfl):PE X (.Call (.Name x p) (e::es) [] pos) (Rx sp [] E t):=by
 obtain⟨f,C,fd,ds,dvs,ps,sp0,G,g,M,i,hd,hi⟩:=F.ex;intro pins s σ H Q I h;refine YN (Gz I hg g ?_ hdb);refine XO (h₀:=X.base) I.ok.mod.kin M.kp (Wj (ha pos pins s σ H _ I h) fun j s1 ⟨vs,H1,c,r,q⟩=>⟨c.kIn,?_⟩) he hpl;have q:sp (vs++[]) H1 Q E:=q;rw[List.append_nil]at q;exact Hq M G hr i hd hx c r fun y dx b a d=>hi _ _ _ _ q y dx _ b a d ((NX a).new b) WU
end
section
variable{P:VB}{w:VF}{K:VG}{mg:Vx}{base:VM}
theorem WX.okX{x qual:Str}{st:Stmt}{f:VI}{fd:VD}{N ps:List Str}{k:Nat}{sp:Sp}(F:WX K x qual st f fd)(S:WQ N ps (VO st))(len:∀vs H Q E,sp vs H Q E->vs.length=ps.length)
  (hbody : ∀ (cdv : Value) (A : Around) (outer : List Env) (s : Shared) (H : Hp) (vs : List V) (Q : VK) (E : XK), Room k (A.deeper (envOfC qual (VO st) s.heap.objs.size f cdv)) -> sp vs H Q E ->
   ∃ t, To (Nr (N4 P w) P w K mg base N qual (VO st) f cdv A outer s H E) (VX st) t /\ t { nx := fun _ H' => Q .non H', rt := Q } (start N vs) H) : VW P w K mg base (N4 P w) (k + 1) f fd ps sp := by
 obtain⟨i,h,kV,g,pm,j,cdv,ct,e,rfl,c,b⟩:=F.ex;exact Dt c b S len fun A outer s H vs Q E d a=>hbody cdv A outer s H vs Q E d a
end
abbrev Hb:List Value:=[.type "ValueError",.type "Exception",.type "BaseException",.type "object"]
structure XC(K:VG)(mg:Vx)(x:Str)(C:VI):Prop where
 m:mg x=some (.ref C)
 exc:W.excIn K C Hb "ValueError.__new__"=true
theorem XC.obj{K:VG}{mg:Vx}{x:Str}{C:VI}(c:XC K mg x C){h:VM}(X:K.In h):
  ∃bm N nm q bs hdct sn sub ab col dd k0 k1 k2 k3 k5 mN,h.get? C=some (excClassObj nm q C N bs bm hdct sn sub ab col dd k0 k1 k2 k3 k5 "ValueError.__new__")/\h.Ns N mN/\mN "__init__"=none/\OwnTail h Hb bm:=by
 have q:=c.exc;unfold W.excIn at q
 split at q
 .rename_i dd cd sl ho
  split at q
  .rename_i C' bm k0 k1 k2 k3 n k5 d hs
   rw[YF,YF,YF,YF,YF,XH,XH,XH,XM]at q;obtain⟨⟨⟨⟨⟨rfl,rfl⟩,a⟩,l⟩,b⟩,f⟩:=q;obtain⟨nm,bs,e,j,i,hd,sn,sub,ab,col,g⟩:=cd;have d:e= .ref C'::bm:=d;have a:g=false:=a;subst d a;obtain rfl:sl=#[k0,k1,k2,k3,some (.builtin "ValueError.__new__"),k5]:=by
    rw[<-Array.toList_inj];exact hs
   exact⟨bm,j,nm,i,bs,hd,sn,sub,ab,col,dd,k0,k1,k2,k3,k5,_,X _ _ ho,.of_isNs (W.isNs_of_in X b),W.nsMap_none_of_in X b f,W.tail_of_in X l⟩
  .cases q
 .cases q
def Fn(te:TE)(C:VI)(E:XK):TS:=fun _ σ H=>te σ H fun _ H1=>E (.ref C) none H1
theorem Gq{X:Cx}{E:XK}{x:Str}{C:VI}{e:VN}{te:TE}{np cpos pos:Pos}(L:BU X E)(hc:X.calm=true)(hg:Gl X x)(c:XC X.K X.mg x C)(ha:PE X e te)(hdb:(x==("__debug__":Str))=false:=by decide)
  (he:starEach [e] X.env=[(false,eval e X.env)]:=by rfl):PS X (.Raise (some (.Call (.Name x np) [e] [] cpos)) none pos) (Fn te C E):=by
 intro pins s σ H D I h;obtain⟨tl,N,nm,q,bs,hdct,sn,sub,ab,col,dd,k0,k1,k2,k3,k5,mN,i,g,b,T⟩:=c.obj I.ok.mod.kin;refine wpAny_Raise_call_subT (C:=C) (nm:=nm) (q:=q) (N:=N) (bs:=bs) (bm:=tl) (hdct:=hdct) (sn:=sn) (sub:=sub) (ab:=ab) (col:=col) (dd:=dd) (k0:=k0) (k1:=k1) (k2:=k2) (k3:=k3) (k5:=k5)
  UP (mN:=mN) (T.hasType UP.hasBase) (I.ok.hd hc) (by rw[he];rfl) b (Gz I hg c.m ⟨rfl,?_⟩ hdb)
 rw[he];refine Calls.evalArgs_plain (Calls.spliced_cons (Wj (ha pins s σ H _ I h) fun u s1 ⟨y,H1,a,j,d⟩=>Calls.spliced_nil ⟨rfl,?_⟩));refine⟨Wi (by show 1 <=100000;decide),a.bk _ _ i,g.keeps a.bk,T.keeps a.bk,fun h' e f=>?_⟩;exact ZD (tk:=s1.toks) a L f d
end L2
namespace L2
open PySem PySem.Spec PyProof.Rows PySem.Builtin PySem.Builtin.ObjectAttr PySem.Builtin.Getset_descriptor
structure Ro(K:VG)(C:VI):Prop where
 ga:W.findIn K (.ref C) "__getattribute__"=some (some (.builtin "BaseException.__getattribute__"))
 gt:W.findIn K (.ref C) "__getattr__"=some none
 cl:W.findIn K (.ref C) "__class__"=some (some (.builtin "object.__class__"))
 ob:W.mroIn K C (.type "object")=some true
 bs:W.mroIn K C (.type "BaseException")=some true
section
variable{prog:VB}{w:VF}{A:VE}{E:Vy}{h:VM}{g:Array GenState}{d:Drawn}{t:Nat}{os:OsState}{a C:VI}{o:Obj}{K:VG}
theorem EJ{M:Model}(hx:h.get? a=some o)(hc:o.cls= .ref C):W.Looks M h (typeOf (.ref a)) (.ref C):=hc▸(W.Looks.ld hx).andThen .now
theorem dZ{R:Result->Shared->Prop}(X:K.In h)(c:Ro K C)(hx:h.get? a=some o)(hc:o.cls= .ref C)(hq:R (.ok (.ret (.ref C))) ⟨h,g,d,t,os⟩):
  codeAny (model prog w) A (.call (.builtin "getset_descriptor.__get__") ⟨[.builtin "object.__class__",.ref a,.ref C],[]⟩) R ⟨h,g,d,t,os⟩:=by
 have e:=EJ (M:=model prog w) hx hc;have b:=W.looks_mroIn (M:=model prog w) X c.ob;refine Xw W.KF.slot_gs.plain W.KF.entry_gs (W.KF.slot_gs.check _ _ _ _ _ _ _ _ W.KF.type_class (W.KF.args_gs _ _ _) ?_);unfold Builtin.«getset_descriptor.__get__» descrGet;rw[W.dga_obj];refine Y0 (Y4 ?_);unfold descrGetter descrCheckInstance descrNameAndClass isInstance;simp only[W.KF.owner_class]
 repeat lk
 refine⟨Code.quiet_builtin _ (by decide +kernel),Uz W.KF.entry_class ?_⟩;unfold Builtin.«object.__class__» shownTypeOf
 repeat lk
 exact hq
theorem vL{tk:Tok}{Q:Fin->Shared->Prop}(X:K.In h)(c:Ro K C)(hx:h.get? a=some o)(hc:o.cls= .ref C)(hq:Q (.done (.ret (.ref C))) ⟨h,g,d,t,os⟩):
  wpAny (model prog w) A (Builtin.«object.__getattribute__» ⟨[.ref a,.str "__class__" tk],[]⟩) Q E ⟨h,g,d,t,os⟩:=by
 have e:=EJ (M:=model prog w) hx hc;have b:=UF (M:=model prog w) X c.cl;have l:=F.typeOf_object_class;have j:=F.slot_gs_get.lookup;have i:=F.slot_gs_set.lookup;have f:(⟨h,g,d,t,os⟩:VC).TypeIs (.builtin "object.__class__") "getset_descriptor":=F.typeOf_object_class
 repeat (any_goals (first|assumption|with_reducible refine e.at ?_|with_reducible refine b.at ?_|wp_step))
 refine dZ X c hx hc ?_
 repeat (any_goals (first|assumption|wp_step))
theorem vG{M:Model}{nv:VH}{Q:Vz}(X:K.In h)(c:Ro K C)(hx:h.get? a=some o)(hc:o.cls= .ref C)(hq:Q () ⟨h,g,d,t,os⟩):
  wpAny M A (checkBuiltinCall "BaseException.__getattribute__" ⟨[.ref a,nv],[]⟩) Q E ⟨h,g,d,t,os⟩:=by
 have k1:builtinKind "BaseException.__getattribute__"=some .slot:=by decide +kernel
 have b:splitId "BaseException.__getattribute__"=some ("BaseException","__getattribute__"):=by decide +kernel
 have i:=F.args_bexc_ga (.ref a) nv;have f:=EJ (M:=M) hx hc;have e:=W.looks_mroIn (M:=M) X c.bs;simp only[checkBuiltinCall,k1,b];refine Y0 ?_;unfold isInstance
 repeat (any_goals (first|assumption|with_reducible refine f.at ?_|with_reducible refine e.at ?_|wp_step))
theorem gZ{tk:Tok}{Q:Vy}(X:K.In h)(c:Ro K C)(hx:h.get? a=some o)(hc:o.cls= .ref C)(hq:Q (.ref C) ⟨h,g,d,t,os⟩):
  wpAny (model prog w) A (getAttrBy (.ref a) (.str "__class__" tk) false) Q E ⟨h,g,d,t,os⟩:=by
 have i:=EJ (M:=model prog w) hx hc;have f:=UF (M:=model prog w) X c.ga;have e:=UF (M:=model prog w) X c.gt;have n:=F.attr_ValueError.ga.bind (.ref a);have b:(Value.builtin "BaseException.__getattribute__"==Value.builtin "object.__getattribute__")=false:=by decide +kernel
 have j:(onTheHeap (Value.ref C) && Value.builtin "BaseException.__getattribute__"==Value.builtin "object.__getattribute__")=false:=by rw[b];rfl
 have l:(false && onTheHeap (Value.builtin "BaseException.__getattribute__"))=false:=rfl
 repeat (any_goals (first|assumption|with_reducible refine i.at ?_|with_reducible refine f.at ?_|with_reducible refine e.at ?_|wp_step))
 refine Xw F.attr_ValueError.ga.plain F.entry_bexc_ga (vG X c hx hc (vL X c hx hc ?_))
 repeat (any_goals (first|assumption|wp_step))
theorem xC{Q:Option Value->Shared->Prop}(X:K.In h)(c:Ro K C)(hx:h.get? a=some o)(hc:o.cls= .ref C)(hq:Q (some (.ref C)) ⟨h,g,d,t+ 1,os⟩):
  wpAny (model prog w) A (getAttr? (.ref a) "__class__") Q E ⟨h,g,d,t,os⟩:=by
 unfold getAttr? getAttrBy?
 repeat (any_goals (first|assumption|with_reducible apply gZ X c hx hc|wp_step))
end
def Fz(C e:VI):Heap->Prop:=fun h=>∃o,h.get? e=some o/\o.cls= .ref C
theorem mQ{K:VG}{e C:VI}(c:Ro K C):W.KitX K (.ref e) (.ref C) (Fz C e) where
 ty:=fun _ _ _ ⟨_,b,f⟩=>EJ b f
 it:=fun _ _ X _=>by
  obtain⟨l,a,_⟩:=Ub.mp c.ob;unfold W.clsIn at a
  split at a
  .rename_i c1 d1 cd1 sl1 ho
   intro y v x s' k q;unfold isType loadHead;exact Y0 (Ve (k _ _ (X _ _ ho)) (Y4 q))
  .cases a
 ne:=fun h j u p n r X i=>by
  obtain⟨l,a,_⟩:=Ub.mp c.ob;refine Bool.eq_false_iff.mpr fun q=>?_
  obtain rfl:C=j:=Value.ref.inj (XH.mp q);unfold W.clsIn at a
  split at a
  .rename_i c1 d1 cd1 sl1 ho
   have z:=(X _ _ ho).symm.trans i;cases z
  .cases a
 ca:=fun {prog w A E Q s} X ⟨o,b,f⟩ hq=>by obtain⟨h,g,d,t,os⟩:=s;exact xC X c b f hq
def HX(C e:VI):HO:=.ext (Fz C e)
inductive A8(K:VG)(H:Hp):V->Value->Prop where
 |non:A8 K H .non (.type "NoneType")
 |exc {e C:VI} (he:H e=some (HX C e)) (c:Ro K C):A8 K H (.ref e) (.ref C)
def Kt(K:VG):List V->Hp->VK->Prop:=fun xs H Q=>∃x c t b,xs=[x,c]/\A8 K H x t/\Op c=true/\W.kitOne K t (AY c)=some b/\Q (.bl b) H
theorem Dr{X:Cx}{K:VG}(h:X.K=K):Wr X (.builtin "isinstance") (Kt K):=by
 subst h;intro pins s σ H xs n Q I r j;obtain⟨x,c,t,b,rfl,ty,l,d,q⟩:=j;obtain⟨u,f,rfl,a,g⟩:=AU r;have i:f=AY c:=by cases c <;> first|exact g|cases l
 subst i;cases ty with
 |non=>exact OC I a .non d fun tk=>⟨.bl b,H,I.tok tk,rfl,q⟩
 |@exc e C he ec=>
  cases (show u=Value.ref e from a);obtain⟨⟨o,h1,h2⟩,_⟩:=(show Wf X.prog X.w H s.heap e (HX C e) from I.hok e _ he);exact Xk (mQ ec) I.kIn ⟨o,h1,h2⟩ d (fun z=>nomatch z) fun tk=>⟨.bl b,H,I.tok tk,rfl,q⟩
end L2
namespace L2
open PySem PySem.Spec PyProof.Rows
section
variable{X:Cx}{pins:VA}{σ:St}{H H':Hp}{s s':VC}{e C:VI}{t:VH}{B h5:VM}
theorem HX.ok{P:VB}{w:VF}{H:Hp}{h:VM}(x:Fz C e h):Wf P w H h e (HX C e):=by
 obtain⟨o,h1,h2⟩:=x;exact⟨⟨o,h1,h2⟩,⟨o,h1⟩,fun a b ⟨o,d,c⟩ k=>⟨o,k o d,c⟩⟩
theorem MO.noE(F:MO X.prog X.w X.stack H s e C t B H' s'):H' e=none:=by
 cases q:H' e with
 |none=>rfl
 |some o=>
  obtain⟨a,z⟩:=(F.hok e o q).there;rw[F.fly.2.1]at z;cases z
theorem MO.caught(I:VV X pins σ H s)(F:MO X.prog X.w X.stack H s e C t B H' s')(fl:Heap.FlyingW B X.stack e (.ref C) t h5)(sm:s'.heap.UpToSlots h5):
  VV X pins σ (upd H' e (HX C e)) {s' with heap:=h5}:=by
 have p:∀b o,b∈JM X.stack->s'.heap.get? b=some o->∀vs,o.data≠ .fields vs:=fun b o a q=>by
  obtain⟨_,o',d,z⟩:=F.fly.2.2.1.mem a;rw[q]at d;cases d;exact z
 obtain⟨y,vs,x,v,r,_⟩:=fl.first;have ne:∀b o,s.heap.get? b=some o->b≠e:=fun b o q z=>by
  subst z
  by_cases a:b∈JM X.stack
  .obtain⟨_,o',d,i⟩:=fl.2.2.1.mem a;rw[x]at d;cases d;exact i vs r
  .obtain⟨o',d⟩:=F.thereB b o q a;rw[F.fly.2.1]at d;cases d
 have f:∀b u,H' b=some u->b≠e:=fun b u q z=>by subst z;rw[F.noE]at q;cases q
 refine I.call' (ch:=[]) F.os ⟨fun b o q n a _=>fl.1 b o (F.keepB b o q a n),fun b o q n a _=>?_,fun b o q n _=>?_,fun b o q _=>?_,fun b xs z=>?_,fun b ob xs z=>?_,fun b ps z=>?_⟩ (fun b o q=>?_) F.bare (fun b z=>absurd z (by simp))
 .obtain⟨sl1,g⟩:=F.un.slot b o q n a (by simp);obtain⟨j,h⟩:=sm b _ g (p b _ a g);exact⟨j,h⟩
 .rw[Wh (ne b o q)];exact F.un.free b o q n (by simp)
 .obtain⟨o1,g⟩:=F.un.there b o q (by simp)
  by_cases a:b∈JM X.stack
  .obtain⟨sl',i⟩:=sm b _ g (p b _ a g);exact⟨_,i⟩
  .obtain⟨l,h⟩:=F.thereB b o q a;exact⟨l,fl.1 b l h⟩
 .have:=F.un.tups b xs z;rw[Wh (f b _ this)];exact this
 .have:=F.un.frzs b ob xs z;rw[Wh (f b _ this)];exact this
 .obtain⟨m,this⟩:=F.un.tbls b ps z;exact⟨m,by rw[Wh (f b _ this)];exact this⟩
 .by_cases a:b=e
  .subst a;rw[WU]at q;cases q;exact HX.ok ⟨y,x,v⟩
  .rw[Wh a]at q;exact(F.hok b o q).stay (fun c u _ z=>fl.1 c u z) (fun c z=>by rw[Wh (f c _ z)];exact z) fun c xs z=>by rw[Wh (f c _ z)];exact z
abbrev Cx.marked(X:Cx)(e:VI):Cx:={X with A:=X.A.mark (some (.ref e)),calm:=false,xe:=fun _ _=>False}
theorem Cx.Ok.marked(ok:X.Ok)(e:VI):(X.marked e).Ok:=
 ⟨ok.mod,ok.kind,ok.glob,ok.blt,ok.above,ok.inj,ok.has,ok.cab,fun z=>(by cases z),ok.frames,ok.stk,ok.exf,ok.bs,ok.bsz,ok.noex,ok.exfs,ok.funs,ok.frf⟩
theorem VV.marked(I:VV X pins σ H s)(e:VI):VV (X.marked e) pins σ H s:=⟨I.ok.marked e,I.os,I.bare,I.base,I.loc,I.cell,I.free,I.freeC,I.pin,I.hok,I.len⟩
theorem VV.unmarked(ok:X.Ok)(I:VV (X.marked e) pins σ H s):VV X pins σ H s:=⟨ok,I.os,I.bare,I.base,I.loc,I.cell,I.free,I.freeC,I.pin,I.hok,I.len⟩
theorem An{A:VE}{E:Vy}{j:Nat}{n:Str}{pos:Pos}{Q:Vz}(I:VV X pins σ H s)(hN:X.N.Nodup)(hj:X.N[j]?=some n)(hl:X.env.kindOf n=some .local)
  (h:∀s2,VV X pins (σ.set j none) H s2->Q () s2):wpAny (model X.prog X.w) A (do bindName X.env n .none;unbindBehindTheSuite X.env n pos) Q E s:=by
 obtain⟨m,hn,hv⟩:=I.loc;refine wpAny_nameGoes_keeps hl hn (by rw[I.ok.kind];rfl) fun h' v hn' hs=>h _ ?_
 have hjl:j < X.N.length:=(Y5.mp hj).1;have cne:=I.cne;have g:∀b o,X.s₀.heap.get? b=some o->b≠X.env.locals:=fun b o q=>Yi (Ym (Y8 q) I.ok.above)
 refine⟨I.ok,I.os,I.bare,⟨fun b o q n e l=>?_,fun b o q n e l=>?_,I.base.free,fun b o q l=>?_,I.base.tups,I.base.frzs,I.base.tbls⟩,⟨_,hn',fun i y w f x e3=>?_⟩,fun y c q=>?_,I.free,I.freeC,fun p hp=>?_,fun a o q=>?_,by simpa using I.len⟩
 .exact(hs.2 b (g b o q)).trans (I.base.keep b o q n e l)
 .obtain⟨sl,f⟩:=I.base.slot b o q n e l;exact⟨sl,(hs.2 b (g b o q)).trans f⟩
 .obtain⟨o',f⟩:=I.base.there b o q l;exact⟨o',(hs.2 b (g b o q)).trans f⟩
 .by_cases hi:i=j
  .subst hi;rw[Uh (by rw[I.len];exact hjl)]at x;cases x
  .rw[Uv (Ne.symm hi)]at x;obtain⟨u,r,q⟩:=hv i y w f x e3;refine⟨u,r,?_⟩;have hy:y≠n:=fun z=>hi (HB hN f (z▸hj))
   rcases q with⟨k,z⟩|⟨k,c,z,zc⟩
   .exact .inl ⟨k,by show(if y=n then v else m y)=some u;rw[Y2 hy];exact z⟩
   .exact .inr ⟨k,c,z,zc.sameBut hs (cne y c z)⟩
 .obtain⟨w',z⟩:=I.cell y c q;exact⟨w',z.sameBut hs (cne y c q)⟩
 .obtain⟨q,n',ne,nf,d⟩:=I.pin p hp;exact⟨(hs.2 p.1 ne).trans q,n',ne,nf,d⟩
 .have kk:∀b u,(b=a\/H b=some (.own a))->s.heap.get? b=some u->h'.get? b=some u:=fun b u e z=>by
   refine(hs.2 b fun zz=>?_).trans z;rcases e with rfl|e
   .rw[zz,I.free]at q;cases q
   .rw[zz,I.free]at e;cases e
  exact(I.hok a o q).stay kk (fun _ z=>z) fun _ _ z=>z
end
def TC(P:VB)(w:VF)(K:VG)(mg:Vx)(base:VM)(k:Nat)(f:VI)(H:Hp)(Q:VK)(E:XK):Prop:=
 ∀ (A:VE) (outer:List Env) (s:VC),Room k A->Tx P w K mg base A outer s H->codeAny (model P w) A (.call (.ref f) ⟨[],[]⟩) (CR (N4 P w) outer P w H s Q E) s
structure L8(K:PySem.W.Frag)(W:VI):Prop where
 ty:PySem.W.typeIn K (.ref W)=some (.type "type")
 bs:PySem.W.mroIn K W (.type "BaseException")=some true
theorem yM{prog:VB}{w:VF}{A:VE}{E:Vy}{h:VM}{g:Array GenState}{d:Drawn}{t:Nat}{os:OsState}{a C W:VI}{o:Obj}{K:PySem.W.Frag}{Q:Bool->Shared->Prop}
  (X:K.In h) (cw:L8 K W) (hm:PySem.W.mroIn K C (.ref W)=some true) (hx:h.get? a=some o) (hc:o.cls= .ref C) (hq:Q true ⟨h,g,d,t,os⟩):wpAny (model prog w) A (excMatches (.ref a) (.ref W)) Q E ⟨h,g,d,t,os⟩:=by
 have j:=EJ (M:=model prog w) hx hc;have i:=Vs (M:=model prog w) X cw.bs;have e:=Vs (M:=model prog w) X hm;have Ld:=PySem.W.looks_typeIn (M:=model prog w) X cw.ty;have f:=tc_notTuple;have c:PySem.W.Looks (model prog w) h (isType (.ref W)) true:=by
  obtain⟨l,b,_⟩:=Ub.mp cw.bs;unfold PySem.W.clsIn at b
  split at b
  .rename_i c1 d1 cd1 sl1 ho
   intro r n p s' k q;unfold isType loadHead;exact Y0 (Ve (k _ _ (X _ _ ho)) (Y4 q))
  .cases b
 unfold excMatches isInstance isExcClass
 repeat (any_goals (first|assumption|with_reducible refine j.at ?_|with_reducible refine i.at ?_|with_reducible refine e.at ?_|with_reducible refine Ld.at ?_|with_reducible refine c.at ?_|wp_step))
def FG(P:VB)(w:VF)(K:PySem.W.Frag)(mg:Vx)(base:VM)(k i j:Nat)(W:VI)(ts:TS):TS:=fun D σ H=>∃f o u fd,σ[i]?=some (some (.ref f))/\H f=some (.frz o u)/\o.data= .func fd/\
 ∃E1:XK,TC P w K mg base k f H (fun _ H'=>D.nx σ H') E1/\∀C H',E1 (.ref C) none H'->PySem.W.mroIn K C (.ref W)=some true/\∀e G,H' e=none->VP H' G->G e=some (HX C e)->
  ts {nx:=fun σ' H2=>D.nx (σ'.set j none) H2,rt:=D.rt,bk:=fun σ' H2=>D.bk (σ'.set j none) H2,ct:=fun σ' H2=>D.ct (σ'.set j none) H2} (σ.set j (some (.ref e))) G
section
variable{X:Cx}
theorem SW{k i j:Nat}{x n wn:Str}{W:VI}{b0:Stmt}{suite:List Stmt}{ts:TS}{p1 p2 p3 np hp pos:Pos}(hst:X.stack=X.env::X.outer)(hfr:X.env.frame=some X.env.locals)(hr:Room k X.A)(hN:X.N.Nodup)
  (hi:X.N[i]?=some x) (hv:Ed X.env.scope x) (hj:X.N[j]?=some n) (hl:X.env.kindOf n=some .local) (hgW:Gl X wn) (hmW:X.mg wn=some (.ref W)) (cw:L8 X.K W) (hs:∀e,To (X.marked e) (b0::suite) ts)
  (hd1:(x==("__debug__":Str))=false:=by decide) (hd2:(x==("__classdict__":Str))=false:=by decide) (hd3:(wn==("__debug__":Str))=false:=by decide) (hsw:swapsWith (.Call (.Name x p1) [] [] p2) none p3.line X.env=pure false:=by rfl):
  PS X (.Try [.Expr (.Call (.Name x p1) [] [] p2) p3] [.ExceptHandler (some (.Name wn np)) (some n) (b0::suite) hp] [] [] pos) (FG X.prog X.w X.K X.mg X.base k i j W ts):=by
 intro pins s σ H D I h;obtain⟨f,o,u,fd,hσ,hf,hd,E1,ask,hx⟩:=h;have hL:Rq X.env.scope n:=.inl hl
 -- the call
 have aa:wpAny (model X.prog X.w) X.A (exec (.Expr (.Call (.Name x p1) [] [] p2) p3) X.env) (fun fl s1=>fl= .next/\∃H1,VV X pins σ H1 s1/\D.nx σ H1)
   (fun e s2=>∃s1,VV X pins σ H s1/\N4 X.prog X.w X.stack H s1 E1 e s2) s:=by
  refine wpAny_Expr_any (YN ?_) I.quiet hsw;refine Wj (Ou (X:=X.wish fun e s2=>∃s1,VV X pins σ H s1/\N4 X.prog X.w X.stack H s1 E1 e s2) hi hv hd1 hd2 pins s σ H (fun v H1=>v= .ref f/\H1=H) (I.wish _) ⟨_,hσ,rfl,rfl⟩) fun v s1 zz=>?_;rcases zz with⟨y,H1,g,ry,e1,e2⟩
  subst e1 e2;cases (show v=Value.ref f from ry);have I2:VV X pins σ H1 s1:=g.unwish;obtain⟨hget,_⟩:=(show Wf X.prog X.w H1 s1.heap f (.frz o u) from I2.hok f _ hf);have hF:PySem.W.FnAt f s1.heap:=by
   obtain⟨c1,d1,dt,sl⟩:=o;have hd':dt= .func fd:=hd;subst hd';exact⟨c1,d1,fd,sl,hget⟩
  refine PySem.W.callWith_F0 hF (XU (X6 (ask X.A X.stack s1 hr I2.env0) fun r s2 b=>?_));cases r with
  |error e=>exact⟨s1,I2,b⟩
  |ok fl=>
   cases fl with
   |ret v=>
    obtain⟨y,H2,I3,ry,q⟩:=I2.after b;exact⟨rfl,H2,I3,q⟩
   |next=>exact False.elim b
   |brk=>exact False.elim b
   |cont=>exact False.elim b
 refine wpAny_Try_except (UY (YC aa (fun fl s1 b=>?_) fun e s2 b=>?_))
 .obtain⟨rfl,H1,g,q⟩:=b;exact XG (XG ⟨σ,H1,g,q⟩)
 .obtain⟨s1,g,a,C,t,B,H',rfl,F,b⟩:=b;obtain⟨hm,b⟩:=hx C H' b;refine wpAny_looks_onW (base:=B) (L:=X.env.locals) (hst▸g.ok.frames) hfr (hst▸F.fly) fun h4 hd4 sm4=>?_
  refine wpAny_landsW hd4 fun h5 p sm5=>?_
  have J5:VV X pins σ (upd H' a (HX C a)) {s2 with heap:=h5}:=MO.caught g F (hst▸p) (sm4.trans sm5);obtain⟨ob,hob,hobc⟩:=p.there;refine wpAny_handleBy_cons (codeAny_handlers_test ?_) (by intro q;cases q);have J5m:=J5.marked a;refine Gz (X:=X.marked a) J5m hgW hmW ?_ hd3;refine yM J5.kIn cw hm hob hobc ?_;refine codeAny_handlers_suite_as (lands_againW p fun h6 fl6 sm6=>?_);have J6:VV X pins σ (upd H' a (HX C a)) {s2 with heap:=h6}:=MO.caught g F (hst▸fl6) ((sm4.trans sm5).trans sm6);refine A6 (v:=.ref a) J6 hN hj hL rfl (fun s7 J7=>?_) (.inr hl);have q7:=b a _ F.noE (NX F.noE) WU;refine YC (hs a pins s7 _ _ _ (J7.marked a) q7) (fun fl s8 l=>?_) fun _ _ z=>z.elim
  cases fl with
  |next=>
   obtain⟨σ',H2,d,q⟩:=l;exact An (d.unmarked I.ok) hN hj hl fun s9 c=>⟨_,H2,c,q⟩
  |brk=>
   obtain⟨σ',H2,d,q⟩:=l;exact An (d.unmarked I.ok) hN hj hl fun s9 c=>⟨_,H2,c,q⟩
  |cont=>
   obtain⟨σ',H2,d,q⟩:=l;exact An (d.unmarked I.ok) hN hj hl fun s9 c=>⟨_,H2,c,q⟩
  |ret v=>
   obtain⟨y,σ',H2,d,ry,q⟩:=l;exact An (d.unmarked I.ok) hN hj hl fun s9 c=>⟨y,_,H2,c,ry,q⟩
end
def HT:HO:=.ext fun _=>True
theorem HT.ok{P:VB}{w:VF}{H:Hp}{h:VM}{a:VI}{o:Obj}(e:h.get? a=some o):Wf P w H h a (.frz o HT):=⟨e,trivial,⟨o,e⟩,fun _ _ _ _=>trivial⟩
structure JG(mg:Vx)(base:VM)(c P:VI):Prop where
 hd:W.CodeHd base c P
 gP:mainGlobals≠P
 bt:base.BuiltinsAt mg P
structure Ji(H:Hp)(P:VI)(q:Str):Prop where
 ex:∃ps,H P=some (.tbl ps)/\TriplesOk ps.toList/\∀pos cv,codeAmong pos ps.toList=some cv->∃c' oc vs t,cv= .ref c'/\H c'=some (.frz oc HT)/\oc.data= .fields vs/\vs[1]?=some (.str q t)
theorem Ji.of{H G:Hp}{P:VI}{q:Str}(x:Ji H P q)(h:∀b o,H b=some o->(∃ps,o= .tbl ps)\/(∃oc,o= .frz oc HT)->G b=some o):Ji G P q:=by
 obtain⟨ps,h1,h2,a⟩:=x;refine⟨ps,h _ _ h1 (.inl ⟨ps,rfl⟩),h2,fun pos g e=>?_⟩;obtain⟨c',oc,vs,t,f,d,c⟩:=a pos g e;exact⟨c',oc,vs,t,f,h _ _ d (.inr ⟨oc,rfl⟩),c⟩
theorem Ji.same{H G:Hp}{P:VI}{q:Str}(x:Ji H P q)(s:VP H G):Ji G P q:=x.of fun b o e _=>s b o e
theorem Ji.but{H G:Hp}{P l:VI}{q:Str}{xs:List V}(x:Ji H P q)(s:WP l H G)(hl:H l=some (.lst xs)):Ji G P q:=x.of fun b o e k=>s b o e fun z=>by
 subst z;rw[hl]at e;cases e;rcases k with⟨_,k⟩|⟨_,k⟩ <;> cases k
theorem j5{pos:Pos}{a b:Int}{c cv:VH}:∀ (l:VL),TriplesOk l->codeAmong pos (l++[rawInt a,rawInt b,c])=some cv->codeAmong pos l=some cv\/cv=c:=by
 intro l h e
 fun_induction TriplesOk l with
 |case1=>
  simp only[List.nil_append,codeAmong,rawInt]at e
  split at e
  .exact .inr (Yo e).symm
  .cases e
 |case2 a' t b' u x r ih=>
  simp only[List.cons_append,codeAmong]at e ⊢
  split at e
  .rename_i q;rw[Y9 q];exact .inl e
  .rename_i q;rw[Y2 q];exact ih h e
 |case3 l h1 h2=>exact h.elim
section
variable{X:Cx}{pins:VA}{σ:St}{H:Hp}{s:VC}{c P:VI}{q:Str}
abbrev Gy(q:Str)(params:Arguments)(body:VN)(scope:Scope)(cl:List (Str×Addr))(pm cv ctv:VH):Obj:={cls:=.type "function",data:=.func (W.kla_fn "<lambda>" q params body scope cl pm cv ctv)}
theorem uM{M:Model}{A:VE}{E:Vy}{Q:Vy}{params:Arguments}{body:VN}{scope:Scope}{cl:List (Str×Addr)}{pos:Pos}(I:VV X pins σ H s)(lc:JG X.mg X.base c P)(hcode:X.env.code= .ref c)(tb:Ji H P q)
  (hq:X.env.qual++"<lambda>"=q) (hcl:closureFor scope X.env=pure cl) (hdef:defaultsOf params X.env=([],[]))
  (h:∀f c' ctv pm G s1 oc vs t,VV X pins σ G s1->WP P H G->H f=none->Ji G P q->G f=some (.frz (Gy q params body scope cl pm (.ref c') ctv) HT)->G c'=some (.frz oc HT)->oc.data= .fields vs->vs[1]?=some (.str q t)->(∀b o,s.heap.get? b=some o->b≠P->s1.heap.get? b=some o)->Q (.ref f) s1):
  wpAny M A (eval (.Lambda params body scope pos) X.env) Q E s:=by
 subst hq;obtain⟨ps,h1,h2,h3⟩:=tb;have hP:s.heap.get? P=some (W.tabObj ps):=I.hok P _ h1;refine W.kla_eval hdef ?_;have fr:∀b o,s.heap.get? b=some o->b < s.heap.objs.size:=fun b o e=>Y8 e
 cases hn:codeAmong pos ps.toList with
 |none=>
  refine W.kla_makeFunction (mg:=X.mg) (clos:=cl) hcl I.ok.glob (I.mod.glob.keeps I.bk) hcode (lc.hd.keeps I.bk) hP h2 hn lc.gP (lc.bt.keeps I.bk) fun c' ctv h' tk hx j ac af aa=>?_
  obtain⟨c2,oc,vs,t,w,hoc,hd,y⟩:=af;cases w;generalize hf:h'.objs.size=f at*;have nP:∀b,s.heap.objs.size <=b->b≠P:=fun b a z=>by subst z;exact absurd (Ym (Y8 hP) a) (YM _)
  have v:s.heap.objs.size <=f:=Yu j (X5 ac);have Hc:H c'=none:=I.hok.fresh j;have g:H f=none:=I.hok.fresh v;have cf:c'≠f:=Yi ac;have old:∀b o,s.heap.get? b=some o->b≠c'/\b≠f:=fun b o e=>⟨Yi (Ym (fr b o e) j),Yi (Ym (fr b o e) v)⟩
  have d:∀b o,s.heap.get? b=some o->b≠P->∀r:Obj,(h'.push r).get? b=some o:=fun b o e a r=>Y3 _ (hx b o a e)
  let G:Hp:=upd (upd (upd H P (.tbl (ps++#[rawInt pos.line,rawInt pos.col,.ref c']))) c' (.frz oc HT)) f (.frz (Gy (X.env.qual++"<lambda>") params body scope cl ((X.mg "__name__").getD .none) (.ref c') ctv) HT)
  have Gf:G f=some (.frz (Gy (X.env.qual++"<lambda>") params body scope cl ((X.mg "__name__").getD .none) (.ref c') ctv) HT):=WU;have Gc:G c'=some (.frz oc HT):=by show upd _ f _ c'=_;rw[Wh cf,WU]
  have GP:G P=some (.tbl (ps++#[rawInt pos.line,rawInt pos.col,.ref c'])):=by show upd _ f _ P=_;rw[Wh (Ne.symm (nP f v)),Wh (Ne.symm (nP c' j)),WU]
  have Go:∀b,b≠P->b≠c'->b≠f->G b=H b:=fun b a1 a2 a3=>by show upd _ f _ b=_;rw[Wh a3,Wh a2,Wh a1]
  have i:∀b u,H b=some u->b≠P->G b=some u:=fun b u e a=>by rw[Go b a (fun z=>by subst z;rw[Hc]at e;cases e) (fun z=>by subst z;rw[g]at e;cases e)];exact e
  have ag:WP P H G:=fun b u e a=>i b u e a
  have ae:Ji G P (X.env.qual++"<lambda>"):=by
   refine⟨_,GP,?_,fun pos' cv e=>?_⟩
   .have:(ps++#[rawInt pos.line,rawInt pos.col,Value.ref c']).toList=ps.toList++[rawInt pos.line,rawInt pos.col,.ref c']:=by simp
    rw[this];exact TriplesOk_snoc _ _ _ _ h2
   .have:(ps++#[rawInt pos.line,rawInt pos.col,Value.ref c']).toList=ps.toList++[rawInt pos.line,rawInt pos.col,.ref c']:=by simp
    rw[this]at e;rcases j5 _ h2 e with e|e
    .obtain⟨c1,oc1,vs1,t1,e1,w,e3⟩:=h3 pos' cv e;exact⟨c1,oc1,vs1,t1,e1,i _ _ w (fun z=>by subst z;rw[h1]at w;cases w),e3⟩
    .exact⟨c',oc,vs,t,e,Gc,hd,y⟩
  refine h f c' ctv _ G _ oc vs t (I.un (t':=tk) ⟨fun b o e n _ _=>d b o e (fun z=>by subst z;rw[h1]at n;cases n) _,fun b o e n _ _=>⟨o.slots,d b o e (fun z=>by subst z;rw[h1]at n;cases n) _⟩,fun b o e n _=>?_,fun b o e _=>?_,fun b xs e=>?_,fun b ob u e=>?_,fun b ps' e=>?_⟩ fun b u e=>?_) ag g ae Gf Gc hd y fun b o e a=>d b o e a _
  .rw[Go b (fun z=>by subst z;rw[h1]at n;cases n) (old b o e).1 (old b o e).2];exact n
  .by_cases a:b=P
   .subst a;exact⟨_,Y3 _ aa⟩
   .exact⟨o,d b o e a _⟩
  .exact i b _ e (fun z=>by subst z;rw[h1]at e;cases e)
  .exact i b _ e (fun z=>by subst z;rw[h1]at e;cases e)
  .by_cases a:b=P
   .subst a;rw[h1]at e;cases e;exact⟨_,GP⟩
   .exact⟨#[],by rw[i b _ e a];simp⟩
  .by_cases b1:b=f
   .subst b1;rw[Gf]at e;cases e;exact HT.ok (by rw[<-hf];exact Yj _ rfl)
   .by_cases b2:b=c'
    .subst b2;rw[Gc]at e;cases e;exact HT.ok (Y3 _ hoc)
    .by_cases b3:b=P
     .subst b3;rw[GP]at e;cases e;exact Y3 _ aa
     .rw[Go b b3 b2 b1]at e;refine(I.hok b u e).stay (fun x u' l z=>d x u' z (fun p=>?_) _) (fun x z=>i x _ z fun p=>by subst p;rw[h1]at z;cases z) fun x xs z=>i x _ z fun p=>by subst p;rw[h1]at z;cases z
      rcases l with rfl|l
      .exact b3 p
      .subst p;rw[h1]at l;cases l
 |some cv=>
  obtain⟨c',oc,vs,t,rfl,hc',hd,y⟩:=h3 pos cv hn;refine W.kla_makeFunctionHit (mg:=X.mg) (clos:=cl) hcl I.ok.glob (I.mod.glob.keeps I.bk) hcode (lc.hd.keeps I.bk) hP h2 hn (lc.bt.keeps I.bk) fun ctv h' tk hk ab=>?_
  have ad:∀b o,s.heap.get? b=some o->∀r:Obj,(h'.push r).get? b=some o:=fun b o e r=>Y3 _ (hk b o e)
  have g:H h'.objs.size=none:=I.hok.fresh ab;refine h h'.objs.size c' ctv _ (upd H h'.objs.size (.frz _ HT)) _ oc vs t (I.laid (t':=tk) (fun b u e=>ad b u e _) ab (HT.ok (Yj _ rfl))) ((NX g).toBut) g (Ji.same ⟨ps,h1,h2,h3⟩ (NX g)) WU ?_ hd y fun b o e _=>ad b o e _
  exact NX g _ _ hc'
end
def Wt(cl:List (Str×Addr))(h:VM)(H:Hp):Hp:=fun b=>if b∈cl.map (·.2) then(h.get? b).map (fun o=>.frz o HT) else H b
def M1(cl:List (Str×Addr))(H:Hp):Hp:=fun b=>if b∈cl.map (·.2) then none else H b
theorem JU.frz{P:VB}{w:VF}{H:Hp}{h:VM}{a:VI}{o:Obj}{u:HO}(x:JU P w H h)(e:H a=some (.frz o u)):h.get? a=some o:=(x a _ e).1
section
variable{cl:List (Str×Addr)}{h hs hs':VM}{G H2 Gc:Hp}{fs:List Addr}{P:VB}{w:VF}
theorem VU{b:VI}(n:b∉cl.map (·.2)):Wt cl h G b=G b:=Y2 n
theorem D4{b:VI}(n:b∈cl.map (·.2)):Wt cl h G b=(h.get? b).map (fun o=>.frz o HT):=Y9 n
theorem MJ{b:VI}(n:b∉cl.map (·.2)):M1 cl G b=G b:=Y2 n
theorem RD{b:VI}(n:b∈cl.map (·.2)):M1 cl G b=none:=Y9 n
theorem Eh(hok:JU P w (Wt cl h G) hs)(hc:∀b∈cl.map (·.2),(∃o,h.get? b=some o)/\b∉fs)(u:Un fs [] (M1 cl (Wt cl h G)) H2 hs hs'):
  Un fs [] (Wt cl h G) (Wt cl h H2) hs hs'/\(∀b∈cl.map (·.2),H2 b=none)/\∀B:Heap,(∀b o,hs.get? b=some o->b∉fs->M1 cl (Wt cl h G) b=none->B.get? b=some o)->JU P w H2 B->JU P w (Wt cl h H2) B:=by
 have d:∀b,b∈cl.map (·.2)->∃o,h.get? b=some o/\hs.get? b=some o/\Wt cl h G b=some (.frz o HT):=fun b a=>by
  obtain⟨⟨o,e⟩,_⟩:=hc b a;have q:Wt cl h G b=some (.frz o HT):=by rw[D4 a,e];rfl
  exact⟨o,e,(hok b _ q).1,q⟩
 have f:∀b,Wt cl h G b=none->b∉cl.map (·.2):=fun b e a=>by obtain⟨o,_,_,q⟩:=d b a;rw[e]at q;cases q
 have g:∀b,Wt cl h G b=none->M1 cl (Wt cl h G) b=none:=fun b e=>by rw[MJ (f b e)];exact e
 have j:∀b∈cl.map (·.2),H2 b=none:=fun b a=>by
  obtain⟨o,_,e,_⟩:=d b a;exact u.free b o e (RD a) (by simp)
 refine⟨⟨fun b o e n l i=>u.keep b o e (g b n) l i,fun b o e n l i=>u.slot b o e (g b n) l i,fun b o e n i=>?_,u.there,fun b xs e=>?_,fun b s x e=>?_,fun b ps e=>?_⟩,j,fun B hB y b o e=>?_⟩
 .rw[VU (f b n)];exact u.free b o e (g b n) i
 .by_cases a:b∈cl.map (·.2)
  .obtain⟨o,_,_,q⟩:=d b a;rw[e]at q;cases q
  .rw[VU a]at e ⊢;exact u.tups b xs (by rw[MJ a,VU a];exact e)
 .by_cases a:b∈cl.map (·.2)
  .rw[D4 a]at e ⊢;exact e
  .rw[VU a]at e ⊢;exact u.frzs b s x (by rw[MJ a,VU a];exact e)
 .by_cases a:b∈cl.map (·.2)
  .obtain⟨o,_,_,q⟩:=d b a;rw[e]at q;cases q
  .rw[VU a]at e;obtain⟨m,z⟩:=u.tbls b ps (by rw[MJ a,VU a];exact e);exact⟨m,by rw[VU a];exact z⟩
 .by_cases a:b∈cl.map (·.2)
  .obtain⟨o',e1,e2,q⟩:=d b a;rw[D4 a,e1]at e;cases e;exact HT.ok (hB b o' e2 (hc b a).2 (RD a))
  .rw[VU a]at e;have r:∀c p,H2 c=some p->c∉cl.map (·.2):=fun c p z v=>by rw[j c v]at z;cases z
   exact(y b o e).stay (fun _ _ _ z=>z) (fun c z=>by rw[VU (r c _ z)];exact z) fun c xs z=>by rw[VU (r c _ z)];exact z
theorem OP(hc:∀b∈cl.map (·.2),(∃o,hs.get? b=some o)/\G b=none)(u:Un fs [] (Wt cl hs G) H2 hs hs')(hk:JU P w H2 hs'):Un fs [] G (M1 cl H2) hs hs'/\JU P w (M1 cl H2) hs':=by
 have f:∀b,b∈cl.map (·.2)->∃o,hs.get? b=some o/\hs'.get? b=some o/\H2 b=some (.frz o HT):=fun b a=>by
  obtain⟨⟨o,e⟩,_⟩:=hc b a;have q:Wt cl hs G b=some (.frz o HT):=by rw[D4 a,e];rfl
  have p:=u.frzs b o HT q;exact⟨o,e,(hk b _ p).1,p⟩
 have d:∀b x,G b=some x->b∉cl.map (·.2):=fun b x e a=>by rw[(hc b a).2]at e;cases e
 refine⟨⟨fun b o e n j g=>?_,fun b o e n j g=>?_,fun b o e n g=>?_,u.there,fun b xs e=>?_,fun b v x e=>?_,fun b ps e=>?_⟩,fun b o e=>?_⟩
 .by_cases a:b∈cl.map (·.2)
  .obtain⟨o',h,l,_⟩:=f b a;rw[e]at h;cases h;exact l
  .exact u.keep b o e (by rw[VU a];exact n) j g
 .by_cases a:b∈cl.map (·.2)
  .obtain⟨o',h,l,_⟩:=f b a;rw[e]at h;cases h;exact⟨o.slots,l⟩
  .exact u.slot b o e (by rw[VU a];exact n) j g
 .by_cases a:b∈cl.map (·.2)
  .exact RD a
  .rw[MJ a];exact u.free b o e (by rw[VU a];exact n) g
 .have a:=d b _ e;rw[MJ a];exact u.tups b xs (by rw[VU a];exact e)
 .have a:=d b _ e;rw[MJ a];exact u.frzs b v x (by rw[VU a];exact e)
 .have a:=d b _ e;obtain⟨m,z⟩:=u.tbls b ps (by rw[VU a];exact e);exact⟨m,by rw[MJ a];exact z⟩
 .by_cases a:b∈cl.map (·.2)
  .rw[RD a]at e;cases e
  .rw[MJ a]at e;have r:∀c i,H2 c=some i->(∀o',i≠ .frz o' HT)->c∉cl.map (·.2):=fun c i z s y=>by obtain⟨o',_,_,q⟩:=f c y;rw[z]at q;cases q;exact s o' rfl
   exact(hk b o e).stay (fun _ _ _ z=>z) (fun c z=>by rw[MJ (r c _ z fun _ q=>by cases q)];exact z) fun c xs z=>by rw[MJ (r c _ z fun _ q=>by cases q)];exact z
end
def MU(P:VB)(w:VF)(K:VG)(mg:Vx)(base:VM)(N':List Str)(q:Str)(scope:Scope)(f:VI)(cd:VH)(cl:List (Str×Addr))(A:VE)(outer:List Env)(s:VC)(H:Hp)(E:XK):Cx where
 prog:=P
 w:=w
 K:=K
 mg:=mg
 base:=base
 A:=A.deeper (W.envX q scope s.heap.objs.size f cd cl)
 N:=N'
 s₀:=s
 H₀:=H
 env:=W.envX q scope s.heap.objs.size f cd cl
 outer:=outer
 stack:=W.envX q scope s.heap.objs.size f cd cl::outer
 ex:=[]
 calm:=true
 fn:=fun _=>false
 pn:=[]
 xe:=fun e s'=>wpAny (model P w) (A.deeper (W.envX q scope s.heap.objs.size f cd cl)) (leaving (W.envX q scope s.heap.objs.size f cd cl) e) (fun _ s''=>N4 P w outer H s E e s'') (fun e' s''=>N4 P w outer H s E e' s'') s'
theorem M2{P:VB}{w:VF}{K:VG}{mg:Vx}{base:VM}{N':List Str}{q:Str}{scope:Scope}{f:VI}{cd:VH}{cl:List (Str×Addr)}{A:VE}{outer:List Env}{s:VC}{H:Hp}{E:XK}:
  BU (MU P w K mg base N' q scope f cd cl A outer s H E) E:=⟨rfl,rfl,rfl,fun _ _ h=>h⟩
structure Pz(scope:Scope)(N':List Str):Prop where
 kind:scope.kind= .function
 co:scope.isCoroutine=false
 gen:scope.isGenerator=false
 nocell:∀y∈scope.names,y.2≠ .cell
 free:∀x∈N',scope.names.lookup x=some .free
def Holds(cl:List (Str×Addr))(h:VM)(N':List Str)(σ:St):Prop:=∀ (i:Nat) (x:Str) (v:V),N'[i]?=some x->σ[i]?=some (some v)->∃c o u,cl.lookup x=some c/\h.get? c=some o/\o.data= .cell (some u)/\W9 v u
structure EY(cl:List (Str×Addr))(h:VM)(scope:Scope):Prop where
 inj:∀x y c,cl.lookup x=some c->cl.lookup y=some c->x=y
 has:∀x,(x,NameKind.free)∈scope.names->∃c,cl.lookup x=some c
 cell:∀b∈cl.map (·.2),∃o v,h.get? b=some o/\o.data= .cell v
theorem Rk{cl:List (Str×Addr)}{x:Str}{c:VI}(h:cl.lookup x=some c):c∈cl.map (·.2):=Yv.mpr ⟨(x,c),YQ h,rfl⟩
section
variable{P:VB}{w:VF}{K:VG}{mg:Vx}{base:VM}{N':List Str}{q:Str}{scope:Scope}{f c':VI}{cl:List (Str×Addr)}{params:Arguments}{body:VN}{k:Nat}{h:VM}{G:Hp}{σ:St}{te:XK->TE}{pm ctv:VH}
theorem LN(S:Pz scope N')(C:EY cl h scope)(hσ:Holds cl h N' σ)(hl:σ.length=N'.length){oc:Obj}{vs:Array Value}{t:Tok}(hGf:G f=some (.frz (Gy q params body scope cl pm (.ref c') ctv) HT))(hGc:G c'=some (.frz oc HT))(hd:oc.data= .fields vs)(hv:vs[1]?=some (.str q t))
  (hcf:∀b∈cl.map (·.2),G b=none) (hbind:∀pm cv ctv,bindArgs (W.kla_fn "<lambda>" q params body scope cl pm cv ctv) ⟨[],[]⟩=pure [])
  (hb:∀ (A:VE) (outer:List Env) (s:VC) (H:Hp) (E:XK),Room k (A.deeper (W.envX q scope s.heap.objs.size f (.ref c') cl))->PE (MU P w K mg base N' q scope f (.ref c') cl A outer s H E) body (te E))
  {Q:VK} {E:XK} (ht:te E σ G Q):TC P w K mg base (k+ 1) f (Wt cl h G) (fun v H'=>∃H2,H'=Wt cl h H2/\(∀b∈cl.map (·.2),H2 b=none)/\Q v H2) (fun c _ H'=>∃H2,H'=Wt cl h H2/\(∀b∈cl.map (·.2),H2 b=none)/\E c none H2):=by
 intro A outer s hr j;have eG:M1 cl (Wt cl h G)=G:=by
  funext b
  by_cases hb:b∈cl.map (·.2)
  .rw[RD hb,hcf b hb]
  .rw[MJ hb,VU hb]
 have nC:∀b x,G b=some x->b∉cl.map (·.2):=fun b x e hb=>by rw[hcf b hb]at e;cases e
 have gf:s.heap.get? f=some (Gy q params body scope cl pm (.ref c') ctv):=j.hok.frz (by rw[VU (nC f _ hGf)];exact hGf);have gc:s.heap.get? c'=some oc:=j.hok.frz (by rw[VU (nC c' _ hGc)];exact hGc);have g:∀b∈cl.map (·.2),∃o,h.get? b=some o/\s.heap.get? b=some o:=fun b hb=>by
  obtain⟨o,v,l,_⟩:=C.cell b hb;exact⟨o,l,j.hok.frz (by rw[D4 hb,l];rfl)⟩
 have cfs:∀b∈cl.map (·.2),b∉JM outer:=fun b hb hm=>by
  obtain⟨o,l,_⟩:=g b hb;have:=j.frf b hm;rw[D4 hb,l]at this;cases this
 have hcc:∀b∈cl.map (·.2),(∃o,h.get? b=some o)/\b∉JM outer:=fun b hb=>⟨(g b hb).imp fun o z=>z.1,cfs b hb⟩
 have hokG:JU P w G s.heap:=fun b o e=>by
  have hb := nC b _ e;exact (j.hok b o (by rw [VU hb]; exact e)).stay (fun _ _ _ z => z) (fun d z => by
   by_cases hd:d∈cl.map (·.2)
   .obtain⟨o1,l,_⟩:=g d hd;rw[D4 hd,l]at z;cases z
   .rw [VU hd] at z; exact z) fun d xs z => by
   by_cases hd:d∈cl.map (·.2)
   .obtain⟨o1,l,_⟩:=g d hd;rw[D4 hd,l]at z;cases z
   .rw[VU hd]at z;exact z
 have gN:∀b,Wt cl h G b=none->G b=none:=fun b e=>by
  by_cases hb:b∈cl.map (·.2)
  .exact hcf b hb
  .rw[VU hb]at e;exact e
 refine W.kla_callFunE hr.depth gf rfl S.co S.gen rfl ⟨c',oc,vs,t,rfl,gc,hd,hv⟩ ?_;rw[hbind];refine Y4 (Uy S.nocell (fun y hy=>absurd hy (by simp)) (fun h₁ hns hsb=>⟨?_,?_⟩) S.kind)
 .exact(j.mod.nolimit.keeps fun b o e=>(j.bs b o e).1).fresh _ hsb
 have hk₁:∀b o,s.heap.get? b=some o->h₁.get? b=some o:=fun b o e=>hsb.extBut b o (Yi (Y8 e)) (Y3 _ e)
 show codeAny _ _ (.expr body (W.envX q scope s.heap.objs.size f (.ref c') cl)) _ _;refine W.kla_codeExpr ?_;have noA:∀b:Addr,b∉(MU P w K mg base N' q scope f (.ref c') cl A outer s G E).ex:=fun b z=>absurd (show b∈([]:List Addr) from z) (by simp)
 have I:VV (MU P w K mg base N' q scope f (.ref c') cl A outer s G E) [] σ G {s with heap:=h₁,toks:=s.toks}:=by
  refine ⟨⟨j.mod, S.kind, rfl, rfl, Y1 _, C.inj, fun x hx => ?_, (fun x c z => by cases z), fun _ => hr.hd, Ux j.frames, .inr ⟨rfl, rfl⟩, fun b z => absurd z (noA b), fun b o e => ⟨(j.bs b o e).1, gN b (j.bs b o e).2⟩, j.bsz, fun b _ _ => noA b, fun b z => absurd z (noA b), j.funs, fun b hb => gN b (j.frf b hb)⟩,
   rfl, j.bare, Un.kept hk₁, ⟨_, hns, fun i x v l e2 e3 => ?_⟩, fun x c e => ?_, hokG.fresh (Y1 _), fun x c e => hcf c (Rk e), fun p hp => absurd (show p ∈ ([] : List (Addr × Obj)) from hp) (by simp), hokG.kept hk₁, hl⟩
  .have hx:scope.names.lookup x=some .cell\/scope.names.lookup x=some .free:=hx;rcases hx with hx|hx
   .exact absurd rfl (S.nocell _ (YQ hx))
   .exact C.has x (YQ hx)
  .obtain⟨c,o,u,q1,q2,q3,q4⟩:=hσ i x v l e2;obtain⟨o',z1,z2⟩:=g c (Rk q1);rw[q2]at z1;cases z1;exact⟨u,q4,.inr ⟨.inr (S.free x (Yd l)),c,q1,⟨o,hk₁ _ _ z2,q3⟩⟩⟩
  .obtain⟨o,v,z1,z2⟩:=C.cell c (Rk e);obtain⟨o',y1,y2⟩:=g c (Rk e);rw[z1]at y1;cases y1;exact⟨v,⟨o,hk₁ _ _ y2,z2⟩⟩
 refine YC (hb A outer s G E (hr.deeper _) [] _ σ G Q I ht) (fun v s' hs=>?_) fun e s' hs=>?_
 .obtain⟨x,H',J,rx,qx⟩:=hs;obtain⟨u1,u2,u3⟩:=Eh (fs:=JM outer) j.hok hcc (eG▸J.base);exact⟨x,Wt cl h H',J.os,J.bare,u1,u3 _ (fun b o e r n=>J.base.keep b o e (eG▸n) r (by simp[MU])) J.hok,rx,H',rfl,u2,qx⟩
 .refine YC hs (fun _ s'' hc=>?_) fun e' s'' hc=>?_
  .obtain⟨a,C1,t1,B,H',l,F,hE⟩:=hc;obtain⟨u1,u2,u3⟩:=Eh (fs:=JM outer) j.hok hcc (eG▸F.un);exact⟨a,C1,t1,B,Wt cl h H',l,⟨F.os,F.bare,F.fly,u3 B (fun b o e r n=>F.keepB b o e r (eG▸n)) F.hok,u1,fun b o e r n=>F.keepB b o e r (gN b n),F.thereB⟩,H',rfl,u2,hE⟩
  .obtain⟨a,C1,t1,B,H',l,F,hE⟩:=hc;obtain⟨u1,u2,u3⟩:=Eh (fs:=JM outer) j.hok hcc (eG▸F.un);exact⟨a,C1,t1,B,Wt cl h H',l,⟨F.os,F.bare,F.fly,u3 B (fun b o e r n=>F.keepB b o e r (eG▸n)) F.hok,u1,fun b o e r n=>F.keepB b o e r (gN b n),F.thereB⟩,H',rfl,u2,hE⟩
end
theorem Ia{env:Env}:∀ (names:List (Str×NameKind)) (cs:List (Str×Addr)),(∀x,(x,NameKind.free)∈names->∃c,env.cells.lookup x=some c)->(∀p∈cs,env.cells.lookup p.1=some p.2)->
  ∃cl,(forIn names cs fun(p:Str×NameKind) (r:List (Str×Addr))=>(match p with|(name,kind)=>(if(kind==NameKind.free)=true then(do let a <-cellOf env name;pure (ForInStep.yield ((name,a)::r))) else pure (ForInStep.yield r)):Sem (ForInStep (List (Str×Addr)))))=pure cl/\∀p∈cl,env.cells.lookup p.1=some p.2
 |[],cs,_,h2=>⟨cs,rfl,h2⟩
 |(n,k)::r,cs,h1,h2=>by
  by_cases hk:k=NameKind.free
  .subst hk;obtain ⟨c, hc⟩ := h1 n Yq;obtain ⟨cl, e, a⟩ := Ia r ((n, c) :: cs) (fun x b => h1 x (Ya _ b)) (fun p d => by
    rcases Y6.mp d with rfl|d
    .exact hc
    .exact h2 p d)
   refine⟨cl,?_,a⟩;rw[U0];have:cellOf env n=pure c:=by unfold cellOf;rw[hc]
   simp only[this,beq_self_eq_true,if_true];exact e
  .obtain⟨cl,e,a⟩:=Ia r cs (fun x b=>h1 x (Ya _ b)) h2;have f:(k==NameKind.free)=false:=by simpa using hk
   refine⟨cl,?_,a⟩;rw[U0];simp only[f,Bool.false_eq_true,if_false];exact e
theorem LK{scope:Scope}{env:Env}(h:∀x,(x,NameKind.free)∈scope.names->∃c,env.cells.lookup x=some c):
  ∃cl,closureFor scope env=pure cl/\(∀x c,cl.lookup x=some c->env.cells.lookup x=some c)/\(∀x,(x,NameKind.free)∈scope.names->∃c,cl.lookup x=some c)/\∀p∈cl,env.cells.lookup p.1=some p.2:=by
 obtain⟨cl,e,a,b⟩:=Ax h;obtain⟨d,g,j⟩:=Ia scope.names [] h (fun p z=>nomatch z);have f:closureFor scope env=pure d:=by
  unfold closureFor;show(forIn scope.names [] _ >>=fun i=>pure i)=pure d;rw[show(forIn scope.names ([]:List (Str×Addr)) _:Sem _)=pure d from g];rfl
 have:(pure cl:Sem (List (Str×Addr)))=pure d:=e.symm.trans f;have z:cl=d:=by injection this
 subst z;exact⟨cl,e,a,b,j⟩
theorem TC.mono{P:VB}{w:VF}{K:VG}{mg:Vx}{base:VM}{k:Nat}{f:VI}{H:Hp}{Q Q':VK}{E E':XK}(h:TC P w K mg base k f H Q E)(hQ:∀v H',Q v H'->Q' v H')(hE:∀C H',E (.ref C) none H'->E' (.ref C) none H'):
  TC P w K mg base k f H Q' E':=fun A outer s n p=>X6 (h A outer s n p) fun r s' b=>by
 cases r with
 |error e=>
  obtain⟨a,C,t,B,H',o,F,z⟩:=b;exact⟨a,C,t,B,H',o,F,hE C H' z⟩
 |ok fl=>
  cases fl with
  |ret u=>
   obtain⟨v,H',l,j,i,g,d,c⟩:=b;exact⟨v,H',l,j,i,g,d,hQ v H' c⟩
  |next=>exact b
  |brk=>exact b
  |cont=>exact b
def LY(P:VI)(q:Str)(params:Arguments)(body:VN)(scope:Scope)(cl:List (Str×Addr)):TE:=fun _ H Q=>Ji H P q/\∀f c' ctv pm G oc vs t,WP P H G->H f=none->Ji G P q->G f=some (.frz (Gy q params body scope cl pm (.ref c') ctv) HT)->G c'=some (.frz oc HT)->oc.data= .fields vs->vs[1]?=some (.str q t)->Q (.ref f) G
section
variable{X:Cx}{c P:VI}{q:Str}{params:Arguments}{body:VN}{scope:Scope}{cl:List (Str×Addr)}{lpos:Pos}
theorem Q3(lc:JG X.mg X.base c P)(hcode:X.env.code= .ref c)(hq:X.env.qual++"<lambda>"=q)(hcl:closureFor scope X.env=pure cl)(hdef:defaultsOf params X.env=([],[])):PE X (.Lambda params body scope lpos) (LY P q params body scope cl):=by
 intro pins s σ H Q I h;obtain⟨tb,h⟩:=h;exact uM I lc hcode tb hq hcl hdef fun f c' ctv pm G s1 a vs t n l j i g e d b _=>⟨.ref f,G,n,rfl,h f c' ctv pm G a vs t l j i g e d b⟩
def Lc(Kd:Addr->Str->Prop)(P:VI)(q:Str)(caps:List (Option Nat))(te:XK->TE):TE:=fun σ H Q=>Ji H P q/\∀G0,WP P H G0->Ji G0 P q->
 te (fun c _ H'=>∃C wd,c= .ref C/\Kd C wd/\∀G,VP H' G->Q (.str wd) G) (Ws caps σ) G0 (fun _ _=>False)
structure Lm(X:Cx)(N':List Str)(scope:Scope)(caps:List (Option Nat)):Prop where
 s:Pz scope N'
 cap:Kn X.N N' scope caps
 vis:∀x,(x,NameKind.free)∈scope.names->X.env.kindOf x=some .cell\/X.env.kindOf x=some .free
variable{fn:Str}{p pos:Pos}{k k1:Nat}{ps:List Str}{sp:Sp}{N':List Str}{caps:List (Option Nat)}{te:XK->TE}{Kd:Addr->Str->Prop}
theorem Fd(F:JA X.prog X.w X.K X.mg X.base fn k1 ps [] sp)(hr:Room k1 X.A)(hg:Gl X fn)(hfn:∀x,X.fn x=true)(lc:JG X.mg X.base c P)(hcode:X.env.code= .ref c)(hq:X.env.qual++"<lambda>"=q)(S:Lm X N' scope caps)(hdef:defaultsOf params X.env=([],[]))
  (hbind:∀cl pm cv ctv,bindArgs (W.kla_fn "<lambda>" q params body scope cl pm cv ctv) ⟨[],[]⟩=pure [])
  (hb:∀ (f c':VI) (cl:List (Str×Addr)) (A:VE) (outer:List Env) (s:VC) (H:Hp) (E:XK),Room k (A.deeper (W.envX q scope s.heap.objs.size f (.ref c') cl))->PE (MU X.prog X.w X.K X.mg X.base N' q scope f (.ref c') cl A outer s H E) body (te E))
  (hsp:∀f o fd H Q E1,H f=some (.frz o HT)->o.data= .func fd->TC X.prog X.w X.K X.mg X.base (k+ 1) f H (fun _ _=>False) E1->(∀C H',E1 (.ref C) none H'->∃wd,Kd C wd/\∀G,VP H' G->Q (.str wd) G)->sp [.ref f] H Q E0)
  (hdb:(fn==("__debug__":Str))=false:=by decide) (he:starEach [Expr.Lambda params body scope lpos] X.env=[(false,eval (.Lambda params body scope lpos) X.env)]:=by rfl):
  PE X (.Call (.Name fn p) [.Lambda params body scope lpos] [] pos) (Lc Kd P q caps te):=by
 intro pins s σ H Q I h;obtain⟨tb,ht⟩:=h;obtain⟨ff,fd,ds,GF,hm,hk,hbd,hd⟩:=F.ex;obtain⟨cl,hcl,hcl1,hcl2,hcl3⟩:=LK (scope:=scope) (env:=X.env) fun x g=>I.ok.has x (S.vis x g)
 refine YN (Gz I hg hm ?_ hdb);have ha : PA X [.Lambda params body scope lpos] (Mu (LY P q params body scope cl) D7) := VR (Q3 lc hcode hq hcl hdef) VT he;refine XO (h₀ := X.base) I.ok.mod.kin hk (Wj (ha pos pins s σ H (fun vs G => ∃ f c' ctv pm oc ws t, vs = [.ref f] /\ WP P H G /\ Ji G P q /\ G f = some (.frz (Gy q params body scope cl pm (.ref c') ctv) HT) /\ G c' = some (.frz oc HT) /\ oc.data = .fields ws /\ ws[1]? = some (.str q t)) I
  ⟨tb, fun f c' ctv pm G oc ws t b1 b2 b3 b4 b5 b6 b7 => ⟨f, c', ctv, pm, oc, ws, t, rfl, b1, b3, b4, b5, b6, b7⟩⟩) fun us s1 ⟨vs, G, n, r, hh⟩ => ⟨n.kIn, ?_⟩) he rfl
 obtain⟨f,c',ctv,pm,oc,ws,t,rfl,b1,b3,b4,b5,b6,b7⟩:=hh
 -- the cells
 have cX:∀b∈cl.map (·.2),∃x,X.env.cells.lookup x=some b:=fun b hb=>by
  obtain⟨⟨x,b'⟩,g,rfl⟩:=Yv.mp hb;exact⟨x,hcl3 _ g⟩
 have cab:∀b∈cl.map (·.2),X.s₀.heap.objs.size <=b:=fun b hb=>by
  obtain⟨x,g⟩:=cX b hb;exact I.ok.cab x b (hfn x) g
 have aa:∀b∈cl.map (·.2),G b=none:=fun b hb=>by
  obtain⟨x,g⟩:=cX b hb;exact n.freeC x b g
 have ab:∀b∈cl.map (·.2),∃o v,s1.heap.get? b=some o/\o.data= .cell v:=fun b hb=>by
  obtain⟨x,g⟩:=cX b hb;obtain⟨v,o,l,a⟩:=n.cell x b g;exact⟨o,v,l,a⟩
 have noG:∀b x,G b=some x->b∉cl.map (·.2):=fun b x e hb=>by rw[aa b hb]at e;cases e
 have e0:=n.env0;have low:∀b,b < X.s₀.heap.objs.size->b∉cl.map (·.2):=fun b hb hm=>absurd (Ym hb (cab b hm)) (YM _)
 have e0c:Tx X.prog X.w X.K X.mg X.base X.A X.stack s1 (Wt cl s1.heap G):=by
  refine⟨e0.frames,e0.mod,fun b o e=>⟨(e0.bs b o e).1,?_⟩,e0.bsz,e0.funs,fun b hb=>?_,fun b o e=>?_,e0.bare⟩
  .rw[VU (low b (Ym (Y8 e) I.ok.bsz))];exact(e0.bs b o e).2
  .rw[VU ?_]
   .exact e0.frf b hb
   .intro hm;obtain⟨x,g⟩:=cX b hm;rcases Y6.mp (n.stkSub b hb) with z|z
    .exact n.cne x b g z
    .obtain⟨_,o,ho,_⟩:=n.ok.funs.mem z;exact low b (Y8 ho) hm
  .by_cases hb:b∈cl.map (·.2)
   .obtain⟨o',v,l,_⟩:=ab b hb;rw[D4 hb,l]at e;cases e;exact HT.ok l
   .rw[VU hb]at e;exact(n.hok b o e).stay (fun _ _ _ z=>z) (fun d z=>by rw[VU (noG d _ z)];exact z) fun d xs z=>by rw[VU (noG d _ z)];exact z
 have hCO:EY cl s1.heap scope:=⟨fun x y b h1 h2=>I.ok.inj x y b (hcl1 x b h1) (hcl1 y b h2),hcl2,ab⟩;have hH:Holds cl s1.heap N' (Ws caps σ):=fun i x v l a=>by
  obtain⟨m,hns,hl⟩:=n.loc;have hi:i < caps.length:=by rw[S.cap.1];exact(Y5.mp l).1
  unfold Ws at a;rw[Yk]at a;cases ec:caps[i]? with
  |none=>rw[ec]at a;cases a
  |some o=>
   rw[ec]at a;cases o with
   |none=>cases a
   |some j=>
    have a:(σ[j]?).join=some v:=Yo a;obtain⟨n1,n2,n3⟩:=S.cap.2 i j x l ec;have e3:σ[j]?=some (some v):=by
     cases z:σ[j]? with
     |none=>rw[z]at a;cases a
     |some y=>rw[z]at a;exact YH some a
    have hv:X.env.kindOf x=some .cell\/X.env.kindOf x=some .free:=S.vis x n2;obtain⟨u,ru,lk⟩:=hl j x v n1 e3 (hv.elim (fun z=>.inr (.inl z)) (fun z=>.inr (.inr z)));obtain⟨b,hb⟩:=hcl2 x n2;have hb2:=hcl1 x b hb;rcases lk with⟨z,_⟩|⟨_,b',hb',⟨o,q1,q2⟩⟩
    .rcases hv with y|y <;> (rw[z]at y;cases y)
    .rw[hb2]at hb';cases hb';exact⟨b,o,u,hb,q1,q2,ru⟩
 have asks:=LN (P:=X.prog) (w:=X.w) (K:=X.K) (mg:=X.mg) (base:=X.base) (k:=k) (h:=s1.heap) (G:=G) (te:=te) (params:=params) (body:=body) S.s hCO hH (by unfold Ws;rw[List.length_map];exact S.cap.1) b4 b5 b6 b7 aa (hbind cl) (hb f c' cl) (ht G b1 b3);have hsp':=hsp f _ _ (Wt cl s1.heap G) (fun v G'=>Q v (M1 cl G')) (fun c _ H'=>∃C wd,c= .ref C/\Kd C wd/\∀G',VP H' G'->Q (.str wd) (M1 cl G')) (by rw[VU (noG f _ b4)];exact b4) rfl
  (asks.mono (fun v H' z => by obtain ⟨_, _, _, z⟩ := z; exact z) fun C H' z => by
   obtain⟨H2,rfl,noH,C2,wd,l,a,z⟩:=z;refine⟨C2,wd,l,a,fun G' sG=>z _ fun b o e=>?_⟩;have hb:b∉cl.map (·.2):=fun hm=>by rw[noH b hm]at e;cases e
   rw [MJ hb]; exact sG b o (by rw [VU hb]; exact e))
  fun C H' z=>by
   obtain⟨C2,wd,l,a,z⟩:=z;cases l;exact⟨wd,a,z⟩
 obtain⟨u,rfl,ru⟩:=DO r;have r2:W2 ([.ref f]++[]) ([u]++ds):=W2.append r hd;have hl:([u]++ds).length=ps.length:=by rw[<-r2.length];exact GF.len _ _ _ _ (by simpa using hsp')
 refine XU (X6 (GF.run X.A X.stack s1 (Wt cl s1.heap G) ⟨[u],[]⟩ ([u]++ds) ([.ref f]++[]) (fun v G'=>Q v (M1 cl G')) E0 hr e0c (hbd s1 [u] n.kIn hl) r2 (by simpa using hsp')) fun rr s2 hq=>?_);cases rr with
 |error e=>exact False.elim hq
 |ok fl=>
  cases fl with
  |ret u=>
   obtain⟨v,H',z1,z2,z3,z4,z5,z6⟩:=hq;obtain⟨y1,y2⟩:=OP (fun b hb=>⟨(ab b hb).imp fun o z=>z.choose_spec.1,aa b hb⟩) z3 z4;exact n.after ⟨v,M1 cl H',z1,z2,y1,y2,z5,z6⟩
  |next=>exact False.elim hq
  |brk=>exact False.elim hq
  |cont=>exact False.elim hq
end
structure Nw(K:VG)(x qual:Str)(st:Stmt)(f:VI)(fd:VD)(cdv:VH):Prop where
 ex:∃ (oc:VH) (od:Option Addr) (kV doc pm:VH) (an:Option Addr) (ct:VH) (osl:Array (Option Value)),
  fd=W.fnOf x qual (NV st) (VX st) (VO st) .none kV doc pm an cdv ct/\K.lookup f=some ⟨oc,od,.func fd,osl⟩/\W.codeIn K cdv qual=true
theorem Nw.ok{P:VB}{w:VF}{K:VG}{mg:Vx}{base:VM}{x qual:Str}{st:Stmt}{f:VI}{fd:VD}{cdv:VH}{N ps:List Str}{k:Nat}{sp:Sp}(F:Nw K x qual st f fd cdv)(S:WQ N ps (VO st))(len:∀vs H Q E,sp vs H Q E->vs.length=ps.length)
  (hbody : ∀ (A : Around) (outer : List Env) (s : Shared) (H : Hp) (vs : List V) (Q : VK) (E : XK), Room k (A.deeper (envOfC qual (VO st) s.heap.objs.size f cdv)) -> sp vs H Q E ->
   ∃ t, To (Nr WK P w K mg base N qual (VO st) f cdv A outer s H E).nox (VX st) t /\ t { nx := fun _ H' => Q .non H', rt := Q } (start N vs) H) : VW P w K mg base WK (k + 1) f fd ps sp := by
 obtain⟨j,i,kV,g,pm,l,ct,e,rfl,c,b⟩:=F.ex;refine Dt c b S len fun A outer s H vs Q E d a=>?_
 obtain⟨t,h,q⟩:=hbody A outer s H vs Q E d a;exact⟨t,h.nox,q⟩
theorem SQ{K:VG}{h:VM}{T:VI}(KX:K.In h)(hT:h.get? T=some (W.tabObj #[]))(hK:W.noTabs K=true):K.lookup T=none:=by
 cases e:K.lookup T with
 |none=>rfl
 |some o=>
  have z:=KX T o e;rw[hT]at z;cases z;have h2:=YK.mp hK (T,W.tabObj #[]) (W.mem_of_lookupK e);cases h2
def P8(N N':List Str)(scope:Scope)(caps:List (Option Nat))(sc:Scope):Bool:=
 decide (scope.kind= .function) && !scope.isCoroutine && !scope.isGenerator && (scope.names.all fun y=>decide (y.2≠ .cell)) && (N'.all fun x=>decide (scope.names.lookup x=some .free)) && decide (caps.length=N'.length) &&
 ((N'.zip caps).all fun p => match p.2 with
  |none=>true
  | some j => decide (N[j]? = some p.1) && decide ((p.1, NameKind.free) ∈ scope.names) && (scope.names.all fun y => decide (y.1 = p.1 -> y.2 = .free))) &&
 (scope.names.all fun y=>decide (y.2= .free->sc.names.lookup y.1=some .cell\/sc.names.lookup y.1=some .free))
theorem N7{X:Cx}{N':List Str}{scope:Scope}{caps:List (Option Nat)}{sc:Scope}{N:List Str}(hsc:X.env.scope=sc)(hN:X.N=N)(h:P8 N N' scope caps sc=true):Lm X N' scope caps:=by
 subst hsc hN;unfold P8 at h;simp only[YF,Yy,YK,XM]at h;obtain⟨⟨⟨⟨⟨⟨⟨h1,h2⟩,l⟩,g⟩,h5⟩,f⟩,e⟩,d⟩:=h;refine⟨⟨h1,h2,l,g,h5⟩,⟨f,fun i j x o n=>?_⟩,fun x b=>d _ b rfl⟩;have a:(x,some j)∈N'.zip caps:=by
  have:(N'.zip caps)[i]?=some (x,some j):=by rw[Xv];exact⟨o,n⟩
  exact Yd this
 have q:=e _ a;simp only[YF,Yy,YK]at q;exact⟨q.1.1,q.1.2,fun k c=>q.2 _ c rfl⟩
theorem DR{X:Cx}:GM (N4 X.prog X.w) X E0:=fun _ _ _ _ _ _ _ h=>by obtain⟨_,_,_,_,_,_,_,h⟩:=h;exact h.elim
structure OO(mg:Vx):Prop where
 ValueError:mg "ValueError"=none
structure RG(K:PySem.W.Frag)(W:VI)(cs:List Addr)(C:VI)(i:Nat):Prop where
 e:Ro K C
 w:PySem.W.mroIn K C (.ref W)=some true
 v:PySem.W.kitOne K (.ref C) (.type "ValueError")=some true
 k:∀j c,cs[j]?=some c->PySem.W.kitOne K (.ref C) (.ref c)=some (decide (j=i))
def DB:List Str:=["letter","piece","width","wide","rule","time","key","text","row","room","road"]
def Kd(K:PySem.W.Frag)(W:VI)(cs:List Addr)(C:VI)(wd:Str):Prop:=∃i,RG K W cs C i/\DB[i]?=some wd
theorem BX{K:VG}{C1 C2:VI}{b:Bool}{x:VH}{r:Bool}(h1:W.mroIn K C1 (.ref C2)=some b)(h2:W.typeIn K (.ref C2)=some (.type "type"))(h3:W.mroIn K C2 x=some r)(hs:W.mroIn K C1 (.ref C1)=some true):W.kitOne K (.ref C1) (.ref C2)=some b:=by
 unfold W.kitOne
 by_cases e:C1=C2
 .subst e;rw[h1]at hs;rw[Y9 (by simp),<-hs]
 .rw[Y2 (by simpa using e)];show(if((W.clsIn K C2).isSome && W.typeIn K (.ref C2)==some (.type "type"))=true then W.subIn K (.ref C1) (.ref C2) else none)=some b;have a:(W.clsIn K C2).isSome=true:=by
   unfold W.mroIn at h3;cases hq:W.clsIn K C2 with
   |none=>rw[hq]at h3;cases h3
   |some cd=>rfl
  rw[a,h2];exact h1
theorem S5{K:VG}{C1:VI}{b:Bool}(h1:W.mroIn K C1 (.type "ValueError")=some b):W.kitOne K (.ref C1) (.type "ValueError")=some b:=by
 unfold W.kitOne;rw[Y2 (by simp)];show(if W.kitMeta "ValueError"=true then W.subIn K (.ref C1) (.type "ValueError") else none)=some b;rw[Y9 (by decide +kernel)];exact h1
def RQ(X:Cx)(scope:Scope)(cl:List (Str×Addr)):Prop:=(∀x c,cl.lookup x=some c->X.env.cells.lookup x=some c)/\(∀x,(x,NameKind.free)∈scope.names->∃c,cl.lookup x=some c)/\∀p∈cl,X.env.cells.lookup p.1=some p.2
def Nc(X:Cx)(q:Str)(params:Arguments)(body:VN)(scope:Scope)(H:Hp)(f:VI):Prop:=∃cl c' ctv pm oc vs t,RQ X scope cl/\H f=some (.frz (Gy q params body scope cl pm (.ref c') ctv) HT)/\H c'=some (.frz oc HT)/\oc.data= .fields vs/\vs[1]?=some (.str q t)
section
variable{X:Cx}{c P:VI}{q:Str}{params:Arguments}{body:VN}{scope:Scope}{lpos:Pos}{H G:Hp}{f:VI}
theorem Nc.of(c:Nc X q params body scope H f)(h:∀b oc,H b=some (.frz oc HT)->G b=some (.frz oc HT)):Nc X q params body scope G f:=by
 obtain⟨cl,c',ctv,pm,oc,vs,t,e,h1,h2,d,a⟩:=c;exact⟨cl,c',ctv,pm,oc,vs,t,e,h _ _ h1,h _ _ h2,d,a⟩
def CD(X:Cx)(P:VI)(q:Str)(params:Arguments)(body:VN)(scope:Scope):TE:=fun _ H Q=>Ji H P q/\∀f G,H f=none->WP P H G->Ji G P q->Nc X q params body scope G f->Q (.ref f) G
theorem Mj(lc:JG X.mg X.base c P)(hcode:X.env.code= .ref c)(hq:X.env.qual++"<lambda>"=q)(vis:∀x,(x,NameKind.free)∈scope.names->X.env.kindOf x=some .cell\/X.env.kindOf x=some .free)(hdef:defaultsOf params X.env=([],[])):
  PE X (.Lambda params body scope lpos) (CD X P q params body scope):=by
 intro pins s σ H Q I h;obtain⟨tb,h⟩:=h;obtain⟨cl,e,d,b,a⟩:=LK (scope:=scope) (env:=X.env) fun x i=>I.ok.has x (vis x i)
 exact Q3 lc hcode hq e hdef pins s σ H Q I ⟨tb,fun f c' ctv pm G g vs t u r p o n l j=>h f G r u p ⟨cl,c',ctv,pm,g,vs,t,⟨d,b,a⟩,o,n,l,j⟩⟩
end
def JS(X:Cx)(k:Nat)(f:VI)(H:Hp)(σ:St)(Q:VK)(E:XK):Prop:=∃ (o:Obj) (fd:VD) (cl:List (Str×Addr)),H f=some (.frz o HT)/\o.data= .func fd/\(∀b∈cl.map (·.2),∃x,X.env.cells.lookup x=some b)/\
 ∀pins s1,VV X pins σ H s1->TC X.prog X.w X.K X.mg X.base k f (Wt cl s1.heap H) (fun v H'=>∃H2,H'=Wt cl s1.heap H2/\(∀b∈cl.map (·.2),H2 b=none)/\Q v H2) (fun c _ H'=>∃H2,H'=Wt cl s1.heap H2/\(∀b∈cl.map (·.2),H2 b=none)/\E c none H2)
section
variable{X:Cx}{q:Str}{params:Arguments}{body:VN}{scope:Scope}{H G:Hp}{f:VI}{N':List Str}{caps:List (Option Nat)}{te:XK->TE}{k:Nat}{σ:St}{pins:VA}{s1 s2:VC}{cl:List (Str×Addr)}
theorem Mo(v:Nc X q params body scope H f)(S:Lm X N' scope caps)(hbind:∀cl pm cv ctv,bindArgs (W.kla_fn "<lambda>" q params body scope cl pm cv ctv) ⟨[],[]⟩=pure [])
  (hb:∀ (f c':VI) (cl:List (Str×Addr)) (A:VE) (outer:List Env) (s:VC) (H:Hp) (E:XK),Room k (A.deeper (W.envX q scope s.heap.objs.size f (.ref c') cl))->PE (MU X.prog X.w X.K X.mg X.base N' q scope f (.ref c') cl A outer s H E) body (te E))
  {Q:VK} {E:XK} (ht:te E (Ws caps σ) H Q):JS X (k+ 1) f H σ Q E:=by
 obtain⟨cl,c',ctv,pm,oc,vs,t,⟨c,e,p⟩,b4,b5,b6,b7⟩:=v;have cX:∀b∈cl.map (·.2),∃x,X.env.cells.lookup x=some b:=fun b hb=>by
  obtain⟨⟨x,b'⟩,d,rfl⟩:=Yv.mp hb;exact⟨x,p _ d⟩
 refine⟨_,_,cl,b4,rfl,cX,fun pins s1 n=>?_⟩;have g:∀b∈cl.map (·.2),H b=none:=fun b hb=>by
  obtain⟨x,d⟩:=cX b hb;exact n.freeC x b d
 have l:∀b∈cl.map (·.2),∃o v,s1.heap.get? b=some o/\o.data= .cell v:=fun b hb=>by
  obtain⟨x,d⟩:=cX b hb;obtain⟨v,o,r,a⟩:=n.cell x b d;exact⟨o,v,r,a⟩
 have hCO:EY cl s1.heap scope:=⟨fun x y b h1 h2=>n.ok.inj x y b (c x b h1) (c y b h2),e,l⟩;have hH:Holds cl s1.heap N' (Ws caps σ):=fun i x v r a=>by
  obtain⟨m,hns,hl⟩:=n.loc;unfold Ws at a;rw[Yk]at a;cases ec:caps[i]? with
  |none=>rw[ec]at a;cases a
  |some o=>
   rw[ec]at a;cases o with
   |none=>cases a
   |some j=>
    have a:(σ[j]?).join=some v:=Yo a;obtain⟨n1,n2,n3⟩:=S.cap.2 i j x r ec;have e3:σ[j]?=some (some v):=by
     cases z:σ[j]? with
     |none=>rw[z]at a;cases a
     |some y=>rw[z]at a;exact YH some a
    have hv:X.env.kindOf x=some .cell\/X.env.kindOf x=some .free:=S.vis x n2;obtain⟨u,ru,lk⟩:=hl j x v n1 e3 (hv.elim (fun z=>.inr (.inl z)) (fun z=>.inr (.inr z)));obtain⟨b,hb⟩:=e x n2;have hb2:=c x b hb;rcases lk with⟨z,_⟩|⟨_,b',hb',⟨o,q1,q2⟩⟩
    .rcases hv with y|y <;> (rw[z]at y;cases y)
    .rw[hb2]at hb';cases hb';exact⟨b,o,u,hb,q1,q2,ru⟩
 exact LN (P:=X.prog) (w:=X.w) (K:=X.K) (mg:=X.mg) (base:=X.base) (k:=k) (h:=s1.heap) (G:=H) (te:=te) (params:=params) (body:=body) S.s hCO hH (by unfold Ws;rw[List.length_map];exact S.cap.1) b4 b5 b6 b7 g (hbind cl) (hb f c' cl) ht
theorem Qf(I1:VV X pins σ G s1)(hfn:∀x,X.fn x=true)(cX:∀b∈cl.map (·.2),∃x,X.env.cells.lookup x=some b):Tx X.prog X.w X.K X.mg X.base X.A X.stack s1 (Wt cl s1.heap G):=by
 have cab:∀b∈cl.map (·.2),X.s₀.heap.objs.size <=b:=fun b a=>by
  obtain⟨x,f⟩:=cX b a;exact I1.ok.cab x b (hfn x) f
 have h:∀b∈cl.map (·.2),G b=none:=fun b a=>by
  obtain⟨x,f⟩:=cX b a;exact I1.freeC x b f
 have i:∀b x,G b=some x->b∉cl.map (·.2):=fun b x e a=>by rw[h b a]at e;cases e
 have c:=I1.env0;have j:∀b,b < X.s₀.heap.objs.size->b∉cl.map (·.2):=fun b a g=>absurd (Ym a (cab b g)) (YM _)
 refine⟨c.frames,c.mod,fun b o e=>⟨(c.bs b o e).1,?_⟩,c.bsz,c.funs,fun b a=>?_,fun b o e=>?_,c.bare⟩
 .rw[VU (j b (Ym (Y8 e) I1.ok.bsz))];exact(c.bs b o e).2
 .rw[VU ?_]
  .exact c.frf b a
  .intro g;obtain⟨x,f⟩:=cX b g;rcases Y6.mp (I1.stkSub b a) with z|z
   .exact I1.cne x b f z
   .obtain⟨_,o,n,_⟩:=I1.ok.funs.mem z;exact j b (Y8 n) g
 .by_cases a:b∈cl.map (·.2)
  .obtain⟨x,f⟩:=cX b a;obtain⟨v,o',l,p⟩:=I1.cell x b f;rw[D4 a,l]at e;cases e;exact HT.ok l
  .rw[VU a]at e;exact(I1.hok b o e).stay (fun _ _ _ z=>z) (fun d z=>by rw[VU (i d _ z)];exact z) fun d xs z=>by rw[VU (i d _ z)];exact z
theorem Os(I1:VV X pins σ G s1)(cX:∀b∈cl.map (·.2),∃x,X.env.cells.lookup x=some b){Q:VK}{u:VH}(h:CE X.stack X.prog X.w (Wt cl s1.heap G) s1 (fun v G'=>Q v (M1 cl G')) u s2):CE X.stack X.prog X.w G s1 Q u s2:=by
 obtain ⟨v, H', i, g, f, e, d, c⟩ := h;obtain ⟨l, j⟩ := OP (fun b n => by
  obtain ⟨x, a⟩ := cX b n;obtain ⟨v, o', o, p⟩ := I1.cell x b a;exact ⟨⟨o', o⟩, I1.freeC x b a⟩) f e
 exact⟨v,M1 cl H',i,g,l,j,d,c⟩
theorem j8{h:VM}{H2:Hp}(e:∀b∈cl.map (·.2),H2 b=none):M1 cl (Wt cl h H2)=H2:=by
 funext b
 by_cases hb:b∈cl.map (·.2)
 .rw[RD hb,e b hb]
 .rw[MJ hb,VU hb]
theorem nU{h:VM}{H2 G':Hp}(e:∀b∈cl.map (·.2),H2 b=none)(s:VP (Wt cl h H2) G'):VP H2 (M1 cl G'):=fun b o z=>by
 have a:b∉cl.map (·.2):=fun c=>by rw[e b c]at z;cases z
 rw[MJ a];exact s b o (by rw[VU a];exact z)
end
def PH(R:V->Hp->Prop)(vs:List V)(G:Hp):Prop:=match vs with
 |[x]=>R x G
 |_=>False
theorem jL{R:V->Hp->Prop}{vs:List V}{G:Hp}(h:PH R vs G):∃x,vs=[x]/\R x G:=by
 match vs,h with
 |[x],h=>exact⟨x,rfl,h⟩
def Mq(X:Cx)(N':List Str)(s₀:VC)(H₀:Hp)(env:Env)(outer:List Env)(ex:List Addr)(fn:Str->Bool)(pn:VA)(xe:Vy):Cx:={X with N:=N',s₀:=s₀,H₀:=H₀,env:=env,outer:=outer,ex:=ex,fn:=fn,pn:=pn,xe:=xe}
def A3(X:Cx)(k:Nat)(Kd:Addr->Str->Prop)(σo:St->St)(te:TE):TE:=fun σ' H Q=>te σ' H fun x H1=>∃f E1,x= .ref f/\JS X k f H1 (σo σ') (fun _ _=>False) E1/\∀C H',E1 (.ref C) none H'->∃wd,Kd C wd/\∀G,VP H' G->Q (.str wd) G
section
variable{X:Cx}{N':List Str}{s₀:VC}{H₀:Hp}{env:Env}{outer:List Env}{ex:List Addr}{fn1:Str->Bool}{pn:VA}{xe:Vy}
variable{fn:Str}{p pos:Pos}{k k1:Nat}{ps:List Str}{sp:Sp}{e:VN}{te:TE}{Kd:Addr->Str->Prop}{σo:St->St}
theorem gH(F:JA X.prog X.w X.K X.mg X.base fn k1 ps [] sp)(hr:Room k1 X.A)(hg:Gl (Mq X N' s₀ H₀ env outer ex fn1 pn xe) fn)(hfn:∀x,X.fn x=true)
  (back:∀pins' σ' H' s',VV (Mq X N' s₀ H₀ env outer ex fn1 pn xe) pins' σ' H' s'->∃pins,VV X pins (σo σ') H' s')
  (he:PE (Mq X N' s₀ H₀ env outer ex fn1 pn xe) e te)
  (hsp:∀f o fd H Q E1,H f=some (.frz o HT)->o.data= .func fd->TC X.prog X.w X.K X.mg X.base k f H (fun _ _=>False) E1->(∀C H',E1 (.ref C) none H'->∃wd,Kd C wd/\∀G,VP H' G->Q (.str wd) G)->sp [.ref f] H Q E0)
  (hdb:(fn==("__debug__":Str))=false) (hs:starEach [e] env=[(false,eval e env)]):
  PE (Mq X N' s₀ H₀ env outer ex fn1 pn xe) (.Call (.Name fn p) [e] [] pos) (A3 X k Kd σo te):=by
 intro pins s σ H Q I h;obtain⟨ff,fd,ds,GF,hm,hk,ab,hd⟩:=F.ex;refine YN (Gz I hg hm ?_ hdb);have ha:PA (Mq X N' s₀ H₀ env outer ex fn1 pn xe) [e] (Mu te D7):=VR he VT hs;refine XO (h₀:=X.base) I.ok.mod.kin hk (Wj (ha pos pins s σ H (PH fun x G=>∃f E1,x= .ref f/\JS X k f G (σo σ) (fun _ _=>False) E1/\∀C H',E1 (.ref C) none H'->∃wd,Kd C wd/\∀G,VP H' G->Q (.str wd) G) I h) fun us s1 ⟨vs,G,i,r,hh⟩=>⟨i.kIn,?_⟩) hs rfl;obtain⟨x,rfl,f,E1,rfl,⟨o,fo,cl,l,l2,n,ask⟩,hE⟩:=jL hh;obtain⟨ad,g⟩:=back _ _ _ _ i;have ac:=Qf g hfn n;have aa:f∉cl.map (·.2):=fun hb=>by
  obtain⟨x,hx⟩:=n f hb;rw[g.freeC x f hx]at l;cases l
 have d:=hsp f _ _ (Wt cl s1.heap G) (fun v j=>Q v (M1 cl j)) (fun c _ H'=>∃H2,H'=Wt cl s1.heap H2/\(∀b∈cl.map (·.2),H2 b=none)/\E1 c none H2) (by rw[VU aa];exact l) l2
  ((ask _ _ g).mono (fun v H' z=>by obtain⟨_,_,_,z⟩:=z;exact z) fun C H' z=>z)
  fun C H' z=>by
   obtain⟨H2,rfl,y,z⟩:=z;obtain⟨wd,kd,a⟩:=hE C H2 z;exact⟨wd,kd,fun j sG=>a _ (nU y sG)⟩
 obtain⟨u,rfl,ru⟩:=DO r;have q:W2 ([.ref f]++[]) ([u]++ds):=W2.append r hd;have hl:([u]++ds).length=ps.length:=by rw[<-q.length];exact GF.len _ _ _ _ (by simpa using d)
 refine XU (X6 (GF.run X.A X.stack s1 (Wt cl s1.heap G) ⟨[u],[]⟩ ([u]++ds) ([.ref f]++[]) (fun v j=>Q v (M1 cl j)) E0 hr ac (ab s1 [u] i.kIn hl) q (by simpa using d)) fun rr s2 a=>?_);cases rr with
 |error e=>exact False.elim a
 |ok fl=>
  cases fl with
  |ret u=>exact i.after (Os g n a)
  |next=>exact False.elim a
  |brk=>exact False.elim a
  |cont=>exact False.elim a
end
section
variable{X:Cx}{elt tg iter:VN}{ifs:List Expr}{scope:Scope}{pos:Pos}{N':List Str}{caps:List (Option Nat)}{wi:TI}{g:TG}{tc:St->TT}{te:TE}
theorem dX{cl:List (Str×Addr)}{C:VI}{s2 s':VC}{H2 H':Hp}{fp:List Addr}{pins pins':VA}{σ σ':St}(I:VV X pins σ H2 s2)(f2:∀b∈fp,NP X pins H2 b)(J:VV (WF X N' scope cl C s2 H2 fp) pins' σ' H' s'):VV X pins σ H' s':=
 I.call' (ch:=fp) J.os J.base J.hok J.bare fun b a=>⟨(f2 b a).2.2.2.1,(f2 b a).2.1,(f2 b a).2.2.2.2.1,(f2 b a).2.2.2.2.2⟩
end
section
variable{X:Cx}{fn:Str}{p pos:Pos}{k k1:Nat}{ps:List Str}{sp:Sp}{e:VN}{te:TE}{Kd:Addr->Str->Prop}
theorem Ka{N':List Str}{scope:Scope}{cl:List (Str×Addr)}{C:VI}{s2:VC}{H2:Hp}{fp:List Addr}{pins:VA}{σ:St}(I:VV X pins σ H2 s2)(f2:∀b∈fp,NP X pins H2 b)
  (F:JA X.prog X.w X.K X.mg X.base fn k1 ps [] sp) (hr:Room k1 X.A) (hg:Gl (WF X N' scope cl C s2 H2 fp) fn) (hfn:∀x,X.fn x=true) (he:PE (WF X N' scope cl C s2 H2 fp) e te)
  (hsp:∀f o fd H Q E1,H f=some (.frz o HT)->o.data= .func fd->TC X.prog X.w X.K X.mg X.base k f H (fun _ _=>False) E1->(∀C H',E1 (.ref C) none H'->∃wd,Kd C wd/\∀G,VP H' G->Q (.str wd) G)->sp [.ref f] H Q E0)
  (hdb:(fn==("__debug__":Str))=false:=by decide) (hs:starEach [e] (compEnvC scope cl C X.env)=[(false,eval e (compEnvC scope cl C X.env))]:=by rfl):PE (WF X N' scope cl C s2 H2 fp) (.Call (.Name fn p) [e] [] pos) (A3 X k Kd (fun _=>σ) te):=
 gH (X:=X) (N':=N') (s₀:=s2) (H₀:=H2) (env:=compEnvC scope cl C X.env) (outer:=X.stack) (ex:=fp) (fn1:=fun _=>false) (pn:=[]) (xe:=fun _ _=>False) (σo:=fun _=>σ) F hr hg hfn (fun a σ' H' s' J=>⟨pins,dX (N':=N') (scope:=scope) (cl:=cl) (C:=C) I f2 J⟩) he hsp hdb hs
end
theorem nD{P:VB}{w:VF}{K:VG}{mg mb:Vx}{k:Nat}{fa a:VI}{cts:List (Addr×Addr)}{fd:VD}{x:Str}{sp:Sp}{s₁:VC}{vs:VL}{ns:VJ}
  (KX:K.In s₁.heap) (hns:s₁.heap.Ns mainGlobals mg) (hb:s₁.heap.Ns builtinsNs mb) (hbb:∀x:Str,x≠"__name__"->mb x=bootBuiltins x) (hlim:s₁.heap.NoLimit) (hg:s₁.gens=#[])
  (hbm:∃bm ob,mg "__builtins__"=some (.ref bm)/\bm≠builtinsNs/\s₁.heap.get? bm=some ob/\ob.cls= .type "module"/\ob.dict=some builtinsNs/\ob.data= .plain)
  (hcd:∀x∈cts,W.CodeHd s₁.heap x.1 x.2) (hTT:∀x∈cts,s₁.heap.get? x.2=some (W.tabObj #[])) (hKTT:∀x∈cts,K.lookup x.2=none)
  (ha:s₁.heap.get? a=some {cls:=.type "list",data:=.seq vs.toArray}) (hi:IntsAre vs ns) (hl:ns.length <=sizeLine) (hr:Room k callerA)
  (F:∀base:Heap,K.In base->base.Ns mainGlobals mg->(∀x∈cts,JG mg base x.1 x.2)->VW P w K mg base WK k fa fd [x] sp) (hbind:∀ (s:VC) (u:VH),BindsTo s fd ⟨[u],[]⟩ [(x,u)])
  (hsp:∀H:Hp,(∀x∈cts,H x.2=some (.tbl #[]))->VZ K H a (ns.map V.int)->sp [.ref a] H (fun v _=>v= .bl true) fun _ _ _=>False):
  codeAny (model P w) callerA (.call (.ref fa) ⟨[.ref a],[]⟩) (fun r s'=>r= .ok (.ret (.bool true))/\OldK s₁.heap s'.heap/\s'.os=s₁.os/\AllBare s'.gens) s₁:=by
 have rv:=Pq hi;have lenV:=hi.length;have hT:∀b∈cts.map (·.2),s₁.heap.get? b=some (W.tabObj #[]):=fun b hb=>by obtain⟨x,i,rfl⟩:=Yv.mp hb;exact hTT x i
 have hKT:∀b∈cts.map (·.2),K.lookup b=none:=fun b hb=>by obtain⟨x,i,rfl⟩:=Yv.mp hb;exact hKTT x i
 have aT:a∉cts.map (·.2):=fun z=>by have:=hT a z;rw[ha]at this;cases this
 obtain⟨bm,ob,m1,m2,y,m4,m5,m6⟩:=hbm;have core:∀H:Hp,(∀b,H b=none\/(∃o xs,H b=some (.frz o (.lst xs)))\/b∈cts.map (·.2))->(∀b∈cts.map (·.2),H b=some (.tbl #[]))->VZ K H a (ns.map V.int)->JU P w H s₁.heap->(∀b,H b≠none->b=a\/b∈cts.map (·.2))->(H a≠none->K.lookup a=none)->
   codeAny (model P w) callerA (.call (.ref fa) ⟨[.ref a],[]⟩) (fun r s'=>r= .ok (.ret (.bool true))/\OldK s₁.heap s'.heap/\s'.os=s₁.os/\AllBare s'.gens) s₁:=by
  intro H hO hHT hS hok hA hK;have c:∀{b:VI} {o:Obj},s₁.heap.get? b=some o->H b=none->(TY s₁.heap H).get? b=some o:=fun e n=>Zd e n
  have no2:∀{b:VI} {o:Obj},s₁.heap.get? b=some o->o.cls≠ .type "list"->o.cls≠ .none->H b=none:=fun {b o} e n1 n2=>by
   cases q:H b with
   |none=>rfl
   |some u=>
    rcases hA b (by rw[q];simp) with e'|e'
    .subst e';rw[ha]at e;cases e;exact absurd rfl n1
    .rw[hT b e']at e;cases e;exact absurd rfl n2
  have noA:∀{b:VI} {o:Obj} {es:Array DictEntry} {ep:Nat},s₁.heap.get? b=some o->o.data= .dict es ep->H b=none:=fun {b o es ep} e d=>by
   cases q:H b with
   |none=>rfl
   |some u=>
    rcases hA b (by rw[q];simp) with e'|e'
    .subst e';rw[ha]at e;cases e;have d':Data.seq vs.toArray _=Data.dict es ep:=d;cases d'
    .rw[hT b e']at e;cases e;have d':Data.fields #[]=Data.dict es ep:=d;cases d'
  have l:∀{b:VI} {m:Vx},s₁.heap.Ns b m->(TY s₁.heap H).Ns b m:=fun {b m} zz=>by rcases zz with⟨o,es,ep,e,d,r⟩;exact ⟨o,es,ep,c e (noA e d),d,r⟩
  have hKb : K.In (TY s₁.heap H) := fun b o e => c (KX b o e) (by
   cases q:H b with
   |none=>rfl
   |some u=>
    rcases hA b (by rw[q];simp) with e'|e'
    .subst e';rw[hK (by rw[q];simp)]at e;cases e
    .rw [hKT b e'] at e; cases e)
  have hM:Mod K mg (TY s₁.heap H):=⟨hKb,l hns,⟨mb,l hb,hbb⟩,let ⟨mc,h1,h2⟩:=hlim;⟨mc,l h1,h2⟩⟩;have hLC:∀x∈cts,JG mg (TY s₁.heap H) x.1 x.2:=fun x i=>by
   have hTx:=hTT x i;refine⟨?_,?_,bm,ob,m1,m2,?_,?_,c y (no2 y (by rw[m4];nofun) (by rw[m4];nofun)),m4,m5,m6⟩
   .obtain⟨o,ws,file,tf,flags,tg,inF,text,tt,e1,e2,r⟩:=hcd x i;exact⟨o,ws,file,tf,flags,tg,inF,text,tt,c e1 (no2 e1 (by rw[e2];nofun) (by rw[e2];nofun)),e2,r⟩
   .intro z;obtain⟨o,es,ep,e,d,_⟩:=hns;rw[z,hTx]at e;cases e;cases d
   .intro z;obtain⟨o,es,ep,e,d,_⟩:=hns;rw[<-z,y]at e;cases e;rw[m6]at d;cases d
   .intro z;rw[z,hTx]at y;cases y;cases m4
  have e0:Tx P w K mg (TY s₁.heap H) callerA [] s₁ H:=⟨rfl,hM,fun b o e=>nW e,UZ (wC _ _),trivial,fun b hb=>absurd (show b∈([]:List Addr) from hb) (by simp),hok,.of_eq hg⟩;refine X6 ((F _ hKb (l hns) hLC).run callerA [] s₁ H ⟨[.ref a],[]⟩ [.ref a] [.ref a] _ _ hr e0 (hbind s₁ (.ref a)) (.cons rfl .nil) (hsp H (fun x i=>hHT _ (YU i)) hS)) fun r s' h=>?_
  cases r with
  |error e=>exact h.elim
  |ok fl=>
   cases fl with
   |next=>exact False.elim h
   |brk=>exact False.elim h
   |cont=>exact False.elim h
   |ret u=>
    obtain⟨v,H',os,bare,un,aa,r',q⟩:=h;have q':v= .bl true:=q;subst q';obtain rfl:u=Value.bool true:=r';have kp:∀b o,s₁.heap.get? b=some o->b∉cts.map (·.2)->s'.heap.get? b=some o:=fun b o e f=>by
     cases q:H b with
     |none=>exact un.keep b o e q (by intro z;exact absurd (show b∈([]:List Addr) from z) (by simp)) (by simp)
     |some u=>
      rcases hO b with z|⟨ob,xs,z⟩|z
      .rw[q]at z;cases z
      .have z2:=un.frzs b ob _ z;obtain⟨e1,_⟩:=hok b _ z;obtain⟨e2,_⟩:=aa b _ z2;rw[e]at e1;cases e1;exact e2
      .exact absurd z f
    have p:∀b∈cts.map (·.2),∃g,s'.heap.get? b=some (W.tabObj (#[]++g)):=fun b hb=>by
     obtain⟨g,hm⟩:=un.tbls b _ (hHT b hb);exact⟨g,aa b _ hm⟩
    refine⟨rfl,⟨fun b o e=>?_,fun b o e=>?_⟩,os,bare⟩
    .by_cases f:b∈cts.map (·.2)
     .obtain⟨g,ab⟩:=p b f;have hb0:=hT b f;rw[hb0]at e;cases e;obtain⟨x,i,rfl⟩:=Yv.mp f;exact .inr (.inl ⟨((hcd x i).tab hb0).isCodeTable,rfl,#[],g,rfl,ab⟩)
     .exact .inl (kp b o e f)
    .by_cases f:b∈cts.map (·.2)
     .obtain⟨g,ab⟩:=p b f;exact⟨_,ab⟩
     .exact⟨o,kp b o e f⟩
 have okT:∀ (H:Hp) (b:VI),b∈cts.map (·.2)->Wf P w H s₁.heap b (.tbl #[]):=fun H b hb=>hT b hb
 cases hk:K.lookup a with
 |some o=>
  have e:=KX a o hk;rw[ha]at e;cases e;refine core (fun b=>if b∈cts.map (·.2) then some (.tbl #[]) else none) (fun b=>?_) (fun b hb=>Y9 hb) (.inr ⟨_,vs.toArray,_,hk,rfl,rfl,rfl,by rw[Yb,lenV];exact hl,by simpa using rv⟩) (fun b u z=>?_) (fun b z=>?_) fun z=>absurd (Y2 aT) z
  .by_cases h:b∈cts.map (·.2)
   .exact .inr (.inr h)
   .exact .inl (Y2 h)
  .by_cases h:b∈cts.map (·.2)
   .have j:=(Y9 h).symm.trans z;cases j;exact okT _ b h
   .have j:=(Y2 h).symm.trans z;cases j
  .by_cases h:b∈cts.map (·.2)
   .exact .inr h
   .exact absurd (Y2 h) z
 |none=>
  refine core (fun b=>if b∈cts.map (·.2) then some (.tbl #[]) else if b=a then some (.frz {cls:=.type "list",data:=.seq vs.toArray} (.lst (ns.map V.int))) else none) (fun b=>?_) (fun b hb=>Y9 hb) (.inl (.inr ⟨{cls:=.type "list",data:=.seq vs.toArray},(Y2 aT).trans (Y9 rfl)⟩)) (fun b u z=>?_) (fun b z=>?_) fun _=>hk
  .by_cases h:b∈cts.map (·.2)
   .exact .inr (.inr h)
   .by_cases hb:b=a
    .exact .inr (.inl ⟨_,_,(Y2 h).trans (Y9 hb)⟩)
    .exact .inl ((Y2 h).trans (Y2 hb))
  .by_cases h:b∈cts.map (·.2)
   .have j:=(Y9 h).symm.trans z;cases j;exact okT _ b h
   .by_cases hb:b=a
    .have j:=((Y2 h).trans (Y9 hb)).symm.trans z;cases j;subst hb;exact⟨ha,by rw[List.length_map];exact hl,vs,_,rv,ha⟩
    .have j:=((Y2 h).trans (Y2 hb)).symm.trans z;cases j
  .by_cases h:b∈cts.map (·.2)
   .exact .inr h
   .by_cases hb:b=a
    .exact .inl hb
    .exact absurd ((Y2 h).trans (Y2 hb)) z
theorem Ot{X:Cx}{K:VG}(h:X.K=K):Wr X (.builtin "isinstance") (OG K):=by subst h;exact AQ
section
variable{X:Cx}{K:VG}
def KH:List V->Hp->VK->Prop:=fun xs H Q=>∃n:Int,xs=[.int n]/\n.natAbs.log2 < 1920/\Q (.str (Str.ofString (toString n))) H
theorem jK:Wr X (.type "str") KH:=by
 intro pins s σ H xs d Q I r c;obtain⟨n,rfl,b,q⟩:=c;obtain⟨u,rfl,a⟩:=DO r;obtain⟨t,rfl⟩:=(show ∃t,u=Value.int n t from a);exact P.str_of_int b ⟨.str _,H,I.tok _,⟨_,rfl⟩,q⟩
end
end L2
namespace L2
open PySem PySem.Spec PyProof.Rows PySem.W
def MD(a b:Str):Bool:=decide (a.cps.toList < b.cps.toList)
theorem gU(a:Str):MD a a=false:=Yt (List.lt_irrefl _)
theorem S7{a b c:Str}(h1:MD a b=true)(h2:MD b c=true):MD a c=true:=Yw (List.lt_trans (XN h1) (XN h2))
theorem QQ{a b c:Str}(h:MD a c=true):MD a b=true\/MD b c=true:=by
 by_cases h1:a.cps.toList < b.cps.toList
 .exact .inl (Yw h1)
 .exact .inr (Yw (List.lt_of_le_of_lt (Vw.mp h1) (XN h)))
theorem Qw{a b:Str}(h1:MD a b=false)(h2:MD b a=false):a=b:=by
 have e:=List.le_antisymm (Vw.mp (U9 h2)) (Vw.mp (U9 h1));cases a;cases b;simp only[PySem.Str.mk.injEq];exact Array.toList_inj.mp e
end L2
namespace HT
open PySem PyProof.Rows
end HT
namespace L2
open PySem PySem.Spec PyProof.Rows PySem.W
section
variable{prog:VB}{w:VF}{A:VE}{E:Vy}{s:VC}{O:KeyOrd}{key:Nat->O.α}{κ:SortKind}{vs:VL}
structure Rm(prog:VB)(w:VF)(h:VM)(O:KeyOrd)(key:Nat->O.α)(κ:SortKind)(vs:VL):Prop where
 kind:∀ (A:VE) (s:VC) (Q:SortKind->Shared->Prop),(∀b o,h.get? b=some o->s.heap.get? b=some o)->2 <=vs.length->Q κ s->wpAny (model prog w) A (keyKind' vs.toArray) Q (fun _ _=>False) s
 cmp:∀ (A:VE) (s:VC) (i j:Nat) (C:Bool->Shared->Prop),A.units < cLine->(∀b o,h.get? b=some o->s.heap.get? b=some o)->i < vs.length->j < vs.length->C (NG O key i j) s->kas_ask prog w A κ vs i j C s
theorem O0{a:VI}{n:Nat}{P:PySem.Fin->Shared->Prop}{h₀:VM}(ho:s.heap.get? a=some (seqObj "list" vs.toArray n))(ha0:h₀.objs.size <=a)(hk:∀b o,h₀.get? b=some o->s.heap.get? b=some o)
  (S:Rm prog w h₀ O key κ vs) (h64:vs.length < 64) (hu:A.units < cLine)
  (h:∀p:Array Nat,Wn vs.length p->MM O key p vs.length->P (.done (.ret .none)) {s with heap:=sortedHeap s.heap a vs (List.toArray (p.toList.map fun i=>vs.getD i Value.none))}):
  wpAny (model prog w) A (Builtin.«list.sort» ⟨[.ref a],[]⟩) P E s:=by
 rw[list_sort_plain];have ha:a < s.heap.objs.size:=Y8 ho;refine Y0 (listItems_at ho rfl ?_);refine Y0 (XE ho rfl ?_ (by rw[Yb,YE];lia) (Yh _));obtain⟨z,l⟩:∃z,(s.heap.update a (Obj.mapSeq fun _=>#[])).get? a=some (seqObj "list" #[] z):=⟨_,get?_update_seq ho (fun _=>#[])⟩;refine Y0 (UI l rfl ?_);refine Y0 (Vj ?_ (by show vs.length <=_;rw[YE];lia));refine Y0 (Uo ?_ (Yh _));refine YY ?_;have d:(((s.heap.update a (Obj.mapSeq fun _=>#[])).push (seqObj "tuple" vs.toArray 0)).push (seqObj "list" #[] 0)).get? a=some (seqObj "list" #[] z):=by
  rw[Xg _ _ _ (by rw[size_push',XX];exact Yi (Xf ha)),Xg _ _ _ (by rw[XX];exact Yi ha)];exact l
 have f:∀b o,h₀.get? b=some o->(((s.heap.update a (Obj.mapSeq fun _=>#[])).push (seqObj "tuple" vs.toArray 0)).push (seqObj "list" #[] 0)).get? b=some o:=fun b o q=>by
  have hb:b < h₀.objs.size:=Y8 q;have q':=hk b o q;have r:b < s.heap.objs.size:=Y8 q';rw[Xg _ _ _ (by rw[size_push',XX];exact Yi (Xf r)),Xg _ _ _ (by rw[XX];exact Yi r),UD _ _ _ _ (Yi (Ym hb ha0))];exact q'
 show wpAny (model prog w) A _ P E {s with heap:=((s.heap.update a (Obj.mapSeq fun _=>#[])).push (seqObj "tuple" vs.toArray 0)).push (seqObj "list" #[] 0)};dsimp only;have hsz:vs.toArray.size=vs.length:=by simp
 by_cases h2:vs.toArray.size < 2
 .rw[Y9 h2,Y9 h2];refine Y0 (Y4 ?_);rw[StateT.run_pure];refine Y0 (Y4 ?_);dsimp only;refine Y0 (UI d rfl ?_);refine Y0 (XE d rfl ?_ (Yh _) (hsz2:=by rw[Array.size_map];show(pairsOf vs).size <=_;rw[pairsOf_size,YE];lia));simp only[UT,Bool.false_eq_true,if_false];have e:Array.map (fun x:Keyed=>x.2) (vs.toArray.zip vs.toArray)=List.toArray ((List.toArray (List.range vs.length)).toList.map fun i=>vs.getD i Value.none):=by
   apply Array.toList_inj.mp;simp only[O5];rw[Array.toList_map];show List.map (fun x:Keyed=>x.2) (vs.toArray.zip vs.toArray).toList=vs;rw[Array.toList_zip];show List.map Prod.snd (List.zip vs vs)=vs;rw[List.map_snd_zip];exact Y1 _
  have:=h (List.toArray (List.range vs.length)) (Array.Perm.refl _) (fun i j hij hj=>by obtain rfl:i=j:=(by lia);exact X2 _);rw[<-e]at this;exact Y4 this
 .rw[Y2 h2,Y2 h2];have u:2 <=vs.length:=by lia
  refine Y0 (YC (S.kind A _ (fun κ' s' => κ' = κ /\ s' = { s with heap := ((s.heap.update a (Obj.mapSeq fun _ => #[])).push (seqObj "tuple" vs.toArray 0)).push (seqObj "list" #[] 0) }) f u ⟨rfl, rfl⟩) ?_ fun _ _ x => x.elim);rintro _ _ ⟨rfl, rfl⟩;refine Y0 (YC (kat_run (E := E) (Q := fun c s' => ∃ p : Array Nat, p.size = vs.length /\ arrOf c = p.map (kas_item (vs.toArray.zip vs.toArray)) /\ failedOf c = none /\ Wn vs.length p /\ MM O key p vs.length /\ s' = { s with heap := ((s.heap.update a (Obj.mapSeq fun _ => #[])).push (seqObj "tuple" vs.toArray 0)).push (seqObj "list" #[] 0) })
   (G:=fun p s'=>Wn vs.length p/\MM O key p vs.length/\s'={s with heap:=((s.heap.update a (Obj.mapSeq fun _=>#[])).push (seqObj "tuple" vs.toArray 0)).push (seqObj "list" #[] 0)})
   rfl u h64 (fun p' c s' a1 a2 a3 a4=>⟨p',a1,a2,a3,a4.1,a4.2.1,a4.2.2⟩)
   (Nv.wp (N := vs.length) (lt := NG O key) (Q := fun p => Wn vs.length p /\ MM O key p vs.length) (fun i j C hi hj hC => S.cmp A _ i j C hu f hi hj hC) (fun p g => ⟨g.1, g.2, rfl⟩) (Bk (by lia) fun p b1 b2 => ⟨b1, b2⟩))) ?_ fun _ _ e => e)
  rintro⟨⟨⟩,c⟩ s' ⟨p,g,har,hf,b1,b2,rfl⟩;dsimp only;have y:=kat_snds rfl har;have v:(List.toArray (p.toList.map fun i=>vs.getD i Value.none)).size=vs.length:=by rw[Yb,List.length_map,Array.length_toList,g]
  rw[y];refine Y0 (UI d rfl ?_);refine Y0 (XE d rfl ?_ (Yh _) (Yu (UZ v) (by rw[YE];lia)));rw[hf];simp only[UT,Bool.false_eq_true,if_false];exact Y4 (h p b1 b2)
theorem QX{l:VI}{Q:Vy}(hl:s.heap.IsList l vs.toArray)(S:Rm prog w s.heap O key κ vs)(h64:vs.length < 64)(hu:A.units+ 2 < cLine)
  (h:∀p:Array Nat,Wn vs.length p->MM O key p vs.length->Q (.ref (s.heap.objs.size+ 1)) {s with heap:=sortedAll s.heap vs (List.toArray (p.toList.map fun i=>vs.getD i Value.none))}):
  wpAny (model prog w) A (call (.builtin "sorted") [.ref l]) Q E s:=by
 refine UW kind_sorted plain_sorted entry_sorted (args_sorted1 _) ?_;unfold Builtin.«sorted»;refine Y0 (m:=checkCount "sorted" 1 1 _) (Y4 ?_);refine Y0 (collect_list hl ?_ (by rw[YE];lia));refine Y0 (Uo ?_ (by rw[YE];lia));have a:((s.heap.push (seqObj "list" #[] 0)).update s.heap.objs.size (Obj.mapSeq (·++vs.toArray))).objs.size=s.heap.objs.size+ 1:=by
  rw[XX,size_push']
 have d:(((s.heap.push (seqObj "list" #[] 0)).update s.heap.objs.size (Obj.mapSeq (·++vs.toArray))).push (seqObj "list" vs.toArray 0)).get? (s.heap.objs.size+ 1)=some (seqObj "list" vs.toArray 0):=by
  rw[<-a];exact Yj _ rfl
 have e:∀b o,s.heap.get? b=some o->(((s.heap.push (seqObj "list" #[] 0)).update s.heap.objs.size (Obj.mapSeq (·++vs.toArray))).push (seqObj "list" vs.toArray 0)).get? b=some o:=fun b o q=>by
  have c:b < s.heap.objs.size:=Y8 q;rw[Xg _ _ _ (by rw[a];exact Yi (Xf c)),UD _ _ _ _ (Yi c),Xg _ _ _ (Yi c)];exact q
 show wpAny _ _ _ _ _ {s with heap:=((s.heap.push (seqObj "list" #[] 0)).update s.heap.objs.size (Obj.mapSeq (·++vs.toArray))).push (seqObj "list" vs.toArray 0)};rw[a];refine Y0 (YY (Xi slot_list_sort ⟨_,d,rfl⟩ entry_list_sort (O0 (h₀:=s.heap) d (X9 _) e S h64 (by show A.units+ 1+ 1 < cLine;lia) fun p g f=>⟨_,rfl,?_⟩) (args_list_sort _)));exact Y4 ⟨_,rfl,h p g f⟩
end
section
variable{X:Cx}{K:VG}
def Kw(K:VG)(O:KeyOrd)(d:O.α)(RA:Hp->V->O.α->Prop):List V->Hp->VK->Prop:=fun as H Q=>∃ (p:VI) (xs:List V) (c:List O.α),as=[.ref p]/\VZ K H p xs/\xs.length=c.length/\(∀ (i:Nat) (x:V) (q:O.α),xs[i]?=some x->c[i]?=some q->RA H x q)/\xs.length < 64/\
 ∀ (r:List Nat) l G,r.Perm (List.range xs.length)->(r.map fun i=>c.getD i d).Pairwise (fun a b=>O.blt b a=false)->H l=none->VP H G->G l=some (.lst (r.map fun i=>xs.getD i .non))->Q (.ref l) G
theorem IT{xs:List V}{its:VL}(rv:W2 xs its):∀r:List Nat,(∀i∈r,i < xs.length)->W2 (r.map fun i=>xs.getD i .non) (r.map fun i=>its.getD i Value.none)
 |[],_=>.nil
 |i::r,hr=>by
  refine .cons ?_ (IT rv r fun j hj=>hr j (.tail _ hj));have hi:i < xs.length:=hr i (.head _);obtain⟨u,b,a⟩:=rv.get (i:=i) (x:=xs[i]) (Y7 hi);have d:xs.getD i .non=xs[i]:=by simp[hi]
  have c:its.getD i Value.none=u:=by rw[YR,b];rfl
  show W9 (xs.getD i .non) (its.getD i Value.none);rw[d,c];exact a
theorem Qy{O:KeyOrd}{c:List O.α}{d:O.α}{pa:Array Nat}{n:Nat}(a1:Wn n pa)(a2:MM O (fun i=>c.getD i d) pa n):(pa.toList.map fun i=>c.getD i d).Pairwise (fun a b=>O.blt b a=false):=by
 rw[List.pairwise_map,UX];intro i j hi e g;have f:pa.size=n:=a1.size;have:=a2 i j (X5 g) (by simpa[f] using e);have l:pa.getD i 0=pa.toList[i]:=by simp at hi;simp[Array.getD,hi]
 have h:pa.getD j 0=pa.toList[j]:=by simp at e;simp[Array.getD,e]
 unfold SK at this;rw[l,h]at this;exact this
theorem Za{O:KeyOrd}{d:O.α}{κ:SortKind}{RA:Hp->V->O.α->Prop}{RV:Heap->Value->O.α->Prop}(h:X.K=K)(hu:X.A.units+ 64 < cLine)
  (hv:∀{pins s σ H x v q},VV X pins σ H s->W9 x v->RA H x q->RV s.heap v q)
  (ask:∀{vs:VL} {c:List O.α} {h:VM},(∀ (i:Nat) v p,vs[i]?=some v->c[i]?=some p->RV h v p)->vs.length=c.length->Rm X.prog X.w h O (fun i=>c.getD i d) κ vs):Wr X (.builtin "sorted") (Kw K O d RA):=by
 subst h;intro pins s σ H xs us Q I r hh;obtain⟨p,xs,c,rfl,hq,hlc,hp,h64,q⟩:=hh;obtain⟨u,rfl,rx⟩:=DO r;cases rx;obtain⟨a,g,pl,hz⟩:=I.list hq;have j:xs.length=a.length:=g.length;have n:∀ (i:Nat) v q,a[i]?=some v->c[i]?=some q->RV s.heap v q:=fun i v q e1 e2=>by
  have hi:i < a.length:=(Y5.mp e1).1;have ex:xs[i]?=some (xs[i]'(by lia)):=Y7 (by lia);obtain⟨u,hu,ru⟩:=g.get (i:=i) (x:=_) ex;rw[e1]at hu;cases hu;exact hv I ru (hp i _ q ex e2)
 refine QX pl.isList (ask n (by lia)) (by lia) (by lia) fun pa a1 a2=>?_
 obtain⟨e,he⟩:=sortedAll_at s.heap a (List.toArray (pa.toList.map fun i=>a.getD i Value.none));have y:H (s.heap.objs.size+ 1)=none:=I.hok.fresh (X9 _);have f:pa.toList.Perm (List.range xs.length):=by rw[j];exact Xq.mp a1
 have hb:∀i∈pa.toList,i < xs.length:=fun i hi=>by simpa using f.mem_iff.mp hi
 have l:(pa.toList.map fun i=>xs.getD i .non).length <=sizeLine:=by
  rw[List.length_map,f.length_eq,Ug];exact hz
 refine⟨.ref (s.heap.objs.size+ 1),upd H (s.heap.objs.size+ 1) (.lst (pa.toList.map fun i=>xs.getD i .non)),I.laid (t':=s.toks) (fun b o z=>sortedAll_old z) (X9 _) ?_,rfl,q _ _ _ f (Qy a1 a2) y (NX y) WU⟩;refine⟨l,pa.toList.map fun i=>a.getD i Value.none,e,IT g _ hb,?_⟩;simpa using he
end
section
variable{prog:VB}{w:VF}{A:VE}{d:VI}{o:Obj}{es:Array DictEntry}{ep:Nat}
theorem j0(hh:A.handled=none)(I:VI)(hne:d≠I)(hdat:o.data= .dict es ep):
  Walks prog w A I [I,d] [I] es.size (fun i v=>∃e,es[i]?=some e/\v=e.key) (fun i h=>h.IsKeyIter I d i es.size ep/\h.get? d=some o) where
 sub:=fun b a=>by simp at a;simp[a]
 frame:=fun _ _ _ st g=>⟨let ⟨oi,a1,a2⟩:=st.1;⟨oi,g I (by simp) _ a1,a2⟩,g d (by simp) _ st.2⟩
 item:=fun i s Q E hi st c=>by
  refine Qg st.1 st.2 hdat hi fun h' f hs'=>?_
  exact c _ h' s.toks ⟨_,U5 hi,rfl⟩ ⟨f,hs'.extBut d o hne st.2⟩ fun b o a e=>hs'.extBut b o (fun h=>a (by simp[h])) e
 done:=fun s Q E st c=>PJ hh st.1 st.2 hdat (Y1 _) fun h' j=>c h' s.toks fun b o a e=>j b o (fun h=>a (by simp[h])) e
 self:=fun _ _ _ _ st c=>wpAny_pyIter_keyiter st.1 c
theorem SX(lo:(d==sysModules)=false)(hc:o.ExactDict)(hdat:o.data= .dict es ep):KdlSrc prog w "dict" d d es.size (fun i v=>∃e,es[i]?=some e/\v=e.key) (fun h=>h.get? d=some o) where
 type:=fun _ a=>⟨o,a,hc.1⟩
 there:=fun _ a=>⟨Y8 a,Y8 a⟩
 keep:=fun _ _ a c=>c d (.inl rfl) o a
 notList:=by decide
 notTuple:=by decide
 hint:=fun _ _ _ _ a b=>kdl_hint_dict ⟨o,a,hc.1⟩ b
 iter:=fun _ _ f a=>⟨_,_,(fun _ _ b=>Oj lo a hc hdat b),j0 f _ (Yi (Y8 a)) hdat,⟨⟨_,Yj _ rfl,rfl,rfl⟩,Y3 _ a⟩⟩
end
section
variable{caps:List (Option Nat)}{g:TG}{tc:TT}{te td:TE}{d:VI}{kvs:List (List Wu×V)}{σ:St}{H:Hp}{Q:VK}
theorem xL(hd:H d=some (.dT kvs))(htd:∀R:VK,R (.ref d) H->td σ H R)(Pv:Nat->List V->St->Hp->Prop)(h0:∀Hf,(∀c,c≠d->Hf c=H c)->Pv 0 [] (Ws caps σ) Hf)(hl:∀i ys σ' Hf,Pv i ys σ' Hf->ys.length <=i)(hz:kvs.length <=100000)
  (hs:∀Hf o,(∀c u,H c=some u->c≠d->Hf c=some u)->Hf d=some (.frz o (.dT kvs))->∀i b k v ys σ',kvs[i]?=some (k,v)->Hf b=some (.tup (k.map kV))->Pv i ys σ' Hf->g (.ref b) σ' Hf fun σ2 H2=>tc σ2 H2 fun c H3=>if c=true then te σ2 H3 fun y H4=>Pv (i+ 1) (ys++[y]) σ2 H4/\VP Hf H4 else Pv (i+ 1) ys σ2 H3/\VP Hf H3)
  (he:∀ys σ' Hn,Pv kvs.length ys σ' Hn->(∀c u,H c=some u->c≠d->Hn c=some u)->∀p G,H p=none->VP H G->(∀c u,Hn c=some u->(∀o w,u≠ .frz o w)->G c=some u)->G p=some (.lst ys)->Q (.ref p) G):Ox (RI caps (Q1 td) g tc te) σ H Q:=by
 refine⟨d,kvs,hd,htd _ ⟨d,kvs,rfl,hd,fun o=>?_⟩⟩;obtain⟨Hf,r⟩:∃Hf,Hf=upd H d (.frz o (.dT kvs)):=⟨_,rfl⟩;rw[<-r];have l:Hf d=some (.frz o (.dT kvs)):=by rw[r,WU]
 have ab:∀c,c≠d->Hf c=H c:=fun c j=>by rw[r,Wh j]
 refine⟨fun i m ys σ' H'=>m=kvs.length - i/\i <=kvs.length/\Pv i ys σ' H'/\VP Hf H',⟨kvs.length,by simp,Yh _,h0 Hf ab,VP.refl _⟩,?_⟩;intro i m ys σ' H' Zq;obtain⟨rfl,hi,p,s1⟩:=Zq;have hy:=hl i ys σ' H' p;have f:∀c u,H c=some u->c≠d->H' c=some u:=fun c u e n=>s1 c u (by rw[ab c n];exact e)
 by_cases hlt:i < kvs.length
 .refine .inr ⟨⟨s1 _ _ l,hlt⟩,Ye (X5 (Ye hy hlt)) (Ml hz),fun aa σ2 H2=>Pv (i+ 1) aa σ2 H2/\VP H' H2,fun aa σ2 H2 q=>⟨kvs.length - (i+ 1),by omega,rfl,hlt,q.1,s1.trans q.2⟩,fun x H2 y=>?_⟩;obtain⟨e,b,k,v,ex,hk,hb⟩:=y;subst e ex;exact hs H2 o f (s1 _ _ l) i b k v ys σ' hk hb p
 .have e:i=kvs.length:=by omega
  subst e;have h:=s1 _ _ l;refine .inl ⟨⟨h,Y1 _⟩,Wi (Yu hy hz),fun s a=>?_⟩;have n1:d≠s:=fun z=>by rw[<-z,h]at a;cases a
  refine⟨o,by rw[Wh n1];exact h,he ys σ' H' p f s _ ?_ (fun c u e=>?_) (fun c u e n=>?_) ?_⟩
  .cases e:H s with
   |none=>rfl
   |some u=>rw[f s u e (Ne.symm n1)]at a;cases a
  .by_cases j:c=d
   .rw[j,hd]at e;rw[j,WU];exact e
   .have e':=f c u e j;rw[Wh j,Wh (fun z=>by rw[z,a]at e';cases e')];exact e'
  .have n:c≠d:=fun z=>by rw[z,h]at e;exact n _ _ (Yo e).symm
   rw[Wh n,Wh (fun z=>by rw[z,a]at e;cases e)];exact e
  .rw[Wh (Ne.symm n1),WU]
end
def Pw{α β:Type}(R:α->β->Prop)(xs:List α)(ys:List β):Prop:=xs.length=ys.length/\∀ (j:Nat) x y,xs[j]?=some x->ys[j]?=some y->R x y
end L2
namespace HT
open PySem PyProof.Rows
end HT
namespace L2
open PySem PySem.Spec PyProof.Rows PySem.W
end L2
namespace HT
open PySem PyProof.Rows
end HT
namespace L2
open PySem PySem.Spec PyProof.Rows PySem.W
end L2
namespace L2
open PySem PySem.Spec PyProof.Rows
theorem Re{us:VL}{n:Nat}(h:us.length=n+ 1):∃a r,us=a::r/\r.length=n:=by
 cases us with
 |nil=>cases h
 |cons a r=>exact⟨a,r,rfl,Nat.succ.inj h⟩
theorem O1{us:VL}(h:us.length=1):∃a,us=[a]:=by
 obtain⟨a,r,e,g⟩:=Re h;rw[List.eq_nil_of_length_eq_zero g]at e;exact⟨a,e⟩
theorem Q7{us:VL}(h:us.length=2):∃a a1,us=[a,a1]:=by
 obtain⟨a,r,e,g⟩:=Re h;obtain⟨a1,z⟩:=O1 g;rw[z]at e;exact⟨_,_,e⟩
theorem Hv{us:VL}(h:us.length=3):∃a a1 a2,us=[a,a1,a2]:=by
 obtain⟨a,r,e,g⟩:=Re h;obtain⟨a1,a2,z⟩:=Q7 g;rw[z]at e;exact⟨_,_,_,e⟩
theorem FV{us:VL}(h:us.length=4):∃a a1 a2 a3,us=[a,a1,a2,a3]:=by
 obtain⟨a,r,e,g⟩:=Re h;obtain⟨a1,a2,a3,z⟩:=Hv g;rw[z]at e;exact⟨_,_,_,_,e⟩
theorem IV{us:VL}(h:us.length=5):∃a a1 a2 a3 a4,us=[a,a1,a2,a3,a4]:=by
 obtain⟨a,r,e,g⟩:=Re h;obtain⟨a1,a2,a3,a4,z⟩:=FV g;rw[z]at e;exact⟨_,_,_,_,_,e⟩
theorem Fi{us:VL}(h:us.length=6):∃a a1 a2 a3 a4 a5,us=[a,a1,a2,a3,a4,a5]:=by
 obtain⟨a,r,e,g⟩:=Re h;obtain⟨a1,a2,a3,a4,a5,z⟩:=IV g;rw[z]at e;exact⟨_,_,_,_,_,_,e⟩
theorem QK{us:VL}(h:us.length=7):∃a a1 a2 a3 a4 a5 a6,us=[a,a1,a2,a3,a4,a5,a6]:=by
 obtain⟨a,r,e,g⟩:=Re h;obtain⟨a1,a2,a3,a4,a5,a6,z⟩:=Fi g;rw[z]at e;exact⟨_,_,_,_,_,_,_,e⟩
theorem SR{us:VL}(h:us.length=8):∃a a1 a2 a3 a4 a5 a6 a7,us=[a,a1,a2,a3,a4,a5,a6,a7]:=by
 obtain⟨a,r,e,g⟩:=Re h;obtain⟨a1,a2,a3,a4,a5,a6,a7,z⟩:=QK g;rw[z]at e;exact⟨_,_,_,_,_,_,_,_,e⟩
structure Ny(P:VB)(w:VF)(K:VG)(mg:Vx)(base:VM):Prop where
 of:∀{n:Str} {v:VH},W.nsIn K mainGlobals n=some (some v)->mg n=some v
 no:∀{n:Str},W.nsIn K mainGlobals n=some none->mg n=none
def FF(K:VG)(n q:Str)(st:Stmt)(f:VI):Prop:=∃ (oc:VH) (od:Option Addr) (kV dc pm:VH) (an:Option Addr) (cd ct:VH) (sl:Array (Option Value)),
 K.lookup f=some ⟨oc,od,.func (W.fnOf n q (NV st) (VX st) (VO st) .none kV dc pm an cd ct),sl⟩/\W.codeIn K cd q=true/\W.keepIn K (.ref f)=true
def GF(K:VG)(n:Str)(st:Stmt)(f:VI):Prop:=W.nsIn K mainGlobals n=some (some (.ref f))/\FF K n n st f
def MF(K:VG)(C:VI)(m q:Str)(st:Stmt)(f:VI):Prop:=W.findIn K (.ref C) m=some (some (.ref f))/\W.isFn K (.ref f)=true/\FF K m q st f
def DF(K:VG)(C:VI)(q:Str)(st:Stmt)(f T:VI):Prop:=W.findIn K (.ref C) "__init__"=some (some (.ref f))/\W.isFn K (.ref f)=true/\∃ (oc:VH) (od:Option Addr) (kV dc pm:VH) (an:Option Addr) (cd ct:VH) (sl:Array (Option Value)),
 K.lookup f=some ⟨oc,od,.func (W.fnOf "__init__" q (NV st) (VX st) (VO st) (.ref T) kV dc pm an cd ct),sl⟩/\W.codeIn K cd q=true/\∃ (oT:Option Addr) (nT:Nat) (sT:Array (Option Value)),K.lookup T=some ⟨.type "tuple",oT,.seq #[.bool false] nT,sT⟩
def CF(K:VG)(n:Str)(C:VI):Prop:=W.nsIn K mainGlobals n=some (some (.ref C))/\T7 K C/\W.makesIn K C=true/\W.keepIn K (.ref C)=true/\EO K C
def NA(K:VG)(C:VI):List Str->Prop
 |[]=>True
 |x::r=>W.findIn K (.ref C) x=some none/\NA K C r
def NS(K:VG):List Str->Prop
 |[]=>True
 |x::r=>W.nsIn K mainGlobals x=some none/\NS K r
section
variable{P:VB}{w:VF}{K:VG}{mg:Vx}{base:VM}{n q m:Str}{st:Stmt}{f C:VI}{k:Nat}{ps:List Str}{sp:Sp}
theorem FF.fn(h:FF K n q st f):∃fd,WX K n q st f fd/\W.keepIn K (.ref f)=true:=by
 obtain⟨d,b,kV,dc,pm,g,e,ct,a,l,c,kp⟩:=h;exact⟨_,BL l c kp,kp⟩
theorem Ny.fb(E:Ny P w K mg base)(g:GF K n st f)(h:∀{fd},WX K n n st f fd->VW P w K mg base WK k f fd ps sp)
  (hb:∀ (kV doc pm:VH) (an:Option Addr) (cdv ct:VH) (us:VL),us.length=ps.length->bindArgs (W.fnOf n n (NV st) (VX st) (VO st) .none kV doc pm an cdv ct) ⟨us,[]⟩=pure (ps.zip us)):JA P w K mg base n k ps [] sp:=by
 obtain⟨fd,F,kp⟩:=g.2.fn;exact⟨f,fd,[],h F,E.of g.1,kp,F.binds hb,.nil⟩
theorem Ny.fx(E:Ny P w K mg base)(g:GF K n st f)(h:∀{fd},WX K n n st f fd->VW P w K mg base (N4 P w) k f fd ps sp)
  (hb:∀ (kV doc pm:VH) (an:Option Addr) (cdv ct:VH) (us:VL),us.length=ps.length->bindArgs (W.fnOf n n (NV st) (VX st) (VO st) .none kV doc pm an cdv ct) ⟨us,[]⟩=pure (ps.zip us)):Gv P w K mg base n k ps [] sp:=by
 obtain⟨fd,F,kp⟩:=g.2.fn;exact⟨f,fd,[],h F,E.of g.1,kp,F.binds hb,.nil⟩
theorem Ny.mb(E:Ny P w K mg base){cn:Str}(c:CF K cn C)(g:MF K C m q st f)(h:∀{fd},WX K m q st f fd->VW P w K mg base WK k f fd ps sp)
  (hb:∀ (kV doc pm:VH) (an:Option Addr) (cdv ct:VH) (us:VL),us.length=ps.length->bindArgs (W.fnOf m q (NV st) (VX st) (VO st) .none kV doc pm an cdv ct) ⟨us,[]⟩=pure (ps.zip us)):N0 P w K mg base C m k ps [] sp:=by
 obtain⟨fd,F,kp⟩:=g.2.2.fn;exact⟨f,fd,[],h F,c.2.1,⟨g.1,g.2.1,kp⟩,F.binds hb,.nil⟩
theorem Ny.kb(E:Ny P w K mg base){cn:Str}(c:CF K cn C)(g:MF K C "__init__" q st f)
  (h:∀{fd},(∃ (oc:VH) (od:Option Addr) (dV kV doc pm:VH) (an:Option Addr) (cdv ct:VH) (osl:Array (Option Value)),fd=W.fnOf "__init__" q (NV st) (VX st) (VO st) dV kV doc pm an cdv ct/\K.lookup f=some ⟨oc,od,.func fd,osl⟩/\W.codeIn K cdv q=true)->VW P w K mg base WK k f fd ps sp)
  (hb:∀ (kV doc pm:VH) (an:Option Addr) (cdv ct:VH) (us:VL),us.length=ps.length->bindArgs (W.fnOf "__init__" q (NV st) (VX st) (VO st) .none kV doc pm an cdv ct) ⟨us,[]⟩=pure (ps.zip us)):MP P w K mg base cn C k ps [] sp:=by
 obtain⟨oc,od,kV,dc,pm,an,d,ct,b,l,a,kp⟩:=g.2.2;exact⟨f,_,[],h ⟨oc,od,.none,kV,dc,pm,an,d,ct,b,rfl,l,a⟩,E.of c.1,⟨c.2.2.1,g.1,g.2.1,c.2.2.2.1⟩,(BL l a kp).binds hb,.nil⟩
end
section
variable{X:Cx}{K:VG}
def dP(i j:Int):Prop:=0 < j/\j < 1267650600228229401496703205376
theorem EE:Ja X (binaryOp .FloorDiv) (rI dP fun i j=>.int (i / j)):=FQ fun i j _ _ _ _ _ a q=>by
 have h1:(0:Int) < j:=a.1;have h2:j < 1267650600228229401496703205376:=a.2;refine floordiv_int (by omega) (by rw[Int.fdiv_eq_ediv_of_nonneg i (by omega)];exact q) (.inl (PyProof.noPylong_of_log2 ?_));have:j.natAbs.log2 < 100:=(Nat.log2_lt (by omega)).mpr (by omega);omega
end
structure MW(P:VB)(w:VF)(K:VG)(mg:Vx)(base:VM)(C:VI)(m:Str)(k:Nat)(ps:List Str)(dvs:List V)(sp:Sp):Prop where
 ex:∃ (f:VI) (fd:VD) (ds:VL),VW P w K mg base (N4 P w) k f fd ps sp/\T7 K C/\HU K C m f/\JK K fd ps ds/\W2 dvs ds
def Ki(C:VI)(m:Str)(sp:Sp)(dvs:List V)(E:XK)(ta:TE)(t:TA):TE:=fun σ H Q=>ta σ H fun x H1=>Ex C m H1 x/\t σ H1 fun vs H2=>sp (x::(vs++dvs)) H2 Q E
section
variable{X:Cx}{k:Nat}{C:VI}{ps:List Str}{sp:Sp}{dvs:List V}{m:Str}{pos apos:Pos}{e o:VN}{es:List Expr}{ta:TE}{t:TA}{E:XK}
theorem Ti{pl:Sem Bool}(he:PE X o ta)(F:MW X.prog X.w X.K X.mg X.base C m k ps dvs sp)(hr:Room k X.A)(hx:GM (N4 X.prog X.w) X E)(ha:PA X (e::es) t)
  (hst:starEach (e::es) X.env=(false,eval e X.env)::starEach es X.env:=by rfl) (hpl:(backTo pos (starEach es X.env)).any (·.1)=false:=by rfl)
  (ht : eval (.Call (.Attribute o m apos) (e :: es) [] pos) X.env = (do
   let ov <-eval o X.env
   standAt apos.atName
   let (f,first) <-holding [ov] (getMethod ov m pl)
   callWith pos f first (backTo pos (starEach (e :: es) X.env)) (backToKw pos (keywordEach [] X.env))) := by rfl) :
  PE X (.Call (.Attribute o m apos) (e::es) [] pos) (Ki C m sp dvs E ta t):=by
 obtain⟨f,fd,ds,G,c,b,n,hd⟩:=F.ex;intro pins s σ H Q I h;refine V8 (pl:=pl) (Wj (he pins s σ H _ I h) fun u s1 zz=>?_) ht;rcases zz with⟨x,H1,g,i,⟨a,dx,fs,ex,p,l⟩,q⟩;subst ex;obtain rfl:u=Value.ref a:=i;refine Hy g p c b l ?_;refine XO (first:=[.ref a]) (h₀:=X.base) I.ok.mod.kin b.kp (Wj (ha pos pins s1 σ H1 _ g q) fun us s2 ⟨vs,H2,d,r,j⟩=>⟨d.kIn,?_⟩) hst hpl;exact Ag (us:=.ref a::us) (vs:=.ref a::vs) G hr n hd hx d (.cons rfl r) j
end
def RB(K:VG):List (Str×Addr)->Prop
 |[]=>True
 |p::r=>(W.nsIn K mainGlobals p.1=some (some (.ref p.2))/\W.typeIn K (.ref p.2)=some (.type "type")/\W.mroIn K p.2 (.type "BaseException")=some true)/\RB K r
def DG(K:VG)(C:VI):List (Addr×Bool)->Prop
 |[]=>True
 |p::r=>W.mroIn K C (.ref p.1)=some p.2/\DG K C r
def XF(K:VG)(C:VI):Prop:=W.excIn K C Hb "ValueError.__new__"=true/\W.findIn K (.ref C) "__getattribute__"=some (some (.builtin "BaseException.__getattribute__"))/\W.findIn K (.ref C) "__getattr__"=some none/\W.findIn K (.ref C) "__class__"=some (some (.builtin "object.__class__"))/\W.mroIn K C (.type "object")=some true/\W.mroIn K C (.type "ValueError")=some true
def GA(K:VG)(n:Str)(st:Stmt)(f c T:VI):Prop:=W.nsIn K mainGlobals n=some (some (.ref f))/\∃ (oc:VH) (od:Option Addr) (kV dc pm:VH) (an:Option Addr) (ct:VH) (sl:Array (Option Value)),
 K.lookup f=some ⟨oc,od,.func (W.fnOf n n (NV st) (VX st) (VO st) .none kV dc pm an (.ref c) ct),sl⟩/\W.codeIn K (.ref c) n=true/\W.keepIn K (.ref f)=true/\∃ (oc':VH) (od':Option Addr) (vs:Array Value) (sl':Array (Option Value)),K.lookup c=some ⟨oc',od',.fields vs,sl'⟩/\vs[11]?=some (.ref T)
section
variable{P:VB}{w:VF}{K:PySem.W.Frag}{mg:Vx}{base:VM}{n q m:Str}{st:Stmt}{f C c T W:VI}{k:Nat}{ps:List Str}{sp sp0:Sp}
theorem RB.get{p:Str×Addr}:∀{l:List (Str×Addr)} {j:Nat},RB K l->l[j]?=some p->PySem.W.nsIn K mainGlobals p.1=some (some (.ref p.2))/\PySem.W.typeIn K (.ref p.2)=some (.type "type")/\PySem.W.mroIn K p.2 (.type "BaseException")=some true
 |_::_,0,h,e=>by cases e;exact h.1
 |_::_,j+ 1,h,e=>RB.get h.2 e
theorem DG.get{p:Addr×Bool}:∀{l:List (Addr×Bool)} {j:Nat},DG K C l->l[j]?=some p->PySem.W.mroIn K C (.ref p.1)=some p.2
 |_::_,0,h,e=>by cases e;exact h.1
 |_::_,j+ 1,h,e=>DG.get h.2 e
theorem Bh{l:List (Str×Addr)}{i:Nat}(hw:RB K l)(hi:(l.map (·.2))[i]?=some C)(x:XF K C)(m:DG K C ((W,true)::(l.zip ((List.range l.length).map fun j=>decide (j=i))).map fun p=>(p.1.2,p.2))):RG K W (l.map (·.2)) C i:=by
 obtain⟨u,q,o,n,g,f⟩:=x;rw[Yk]at hi;obtain⟨p,d,rfl⟩:=YA.mp hi;have at':∀j y,l[j]?=some y->PySem.W.mroIn K p.2 (.ref y.2)=some (decide (j=i)):=fun j y h=>by
  have s:j < l.length:=(Y5.mp h).1;refine DG.get (p:=(y.2,decide (j=i))) (j:=j) m.2 ?_;have r:(l.zip ((List.range l.length).map fun j=>decide (j=i)))[j]?=some (y,decide (j=i)):=Xv.mpr ⟨h,by rw[Yk,Vr s];rfl⟩;rw[Yk,r];rfl
 have hs:=at' i p d;rw[Yw rfl]at hs;refine⟨⟨q,o,n,g,(hw.get (j:=i) d).2.2⟩,m.1,S5 f,fun j c e=>?_⟩;rw[Yk]at e;obtain⟨y,b,rfl⟩:=YA.mp e;have a:=hw.get (j:=j) b;exact BX (at' j y b) a.2.1 a.2.2 hs
theorem Ny.fa(E:Ny P w K mg base)(g:GA K n st f c T)(h:∀{fd},Nw K n n st f fd (.ref c)->VW P w K mg base WK k f fd ps sp)
  (hb:∀ (kV doc pm:VH) (an:Option Addr) (cdv ct:VH) (us:VL),us.length=ps.length->bindArgs (PySem.W.fnOf n n (NV st) (VX st) (VO st) .none kV doc pm an cdv ct) ⟨us,[]⟩=pure (ps.zip us)):JA P w K mg base n k ps [] sp:=by
 obtain⟨h1,i,e,kV,dc,pm,an,ct,d,h2,b,a,_⟩:=g;exact⟨f,_,[],h ⟨i,e,kV,dc,pm,an,ct,d,rfl,h2,b⟩,E.of h1,a,(BL h2 b a).binds hb,.nil⟩
theorem Ny.mx(E:Ny P w K mg base){cn:Str}(c:CF K cn C)(g:MF K C m q st f)(h:∀{fd},WX K m q st f fd->VW P w K mg base (N4 P w) k f fd ps sp)
  (hb:∀ (kV doc pm:VH) (an:Option Addr) (cdv ct:VH) (us:VL),us.length=ps.length->bindArgs (PySem.W.fnOf m q (NV st) (VX st) (VO st) .none kV doc pm an cdv ct) ⟨us,[]⟩=pure (ps.zip us)):MW P w K mg base C m k ps [] sp:=by
 obtain⟨fd,F,kp⟩:=g.2.2.fn;exact⟨f,fd,[],h F,c.2.1,⟨g.1,g.2.1,kp⟩,F.binds hb,.nil⟩
end
structure OL(scope:Scope)(y:Str)(N':List Str):Prop where
 kind:scope.kind= .function
 co:scope.isCoroutine=false
 gen:scope.isGenerator=false
 nocell:∀y∈scope.names,y.2≠ .cell
 loc:scope.names.lookup y=some .local
 free:∀x∈N',scope.names.lookup x=some .free
def wD(P:VB)(w:VF)(K:VG)(mg:Vx)(base:VM)(k:Nat)(f:VI)(u:VH)(H:Hp)(Q:VK)(E:XK):Prop:=
 ∀ (A:VE) (outer:List Env) (s:VC),Room k A->Tx P w K mg base A outer s H->codeAny (model P w) A (.call (.ref f) ⟨[u],[]⟩) (CR (N4 P w) outer P w H s Q E) s
section
variable{P:VB}{w:VF}{K:VG}{mg:Vx}{base:VM}{N':List Str}{q:Str}{scope:Scope}{f c':VI}{cl:List (Str×Addr)}{params:Arguments}{body:VN}{k:Nat}{h:VM}{G:Hp}{σ:St}{te:XK->TE}{pm ctv:VH}
theorem gJ{y:Str}{xv:V}{u0:VH}(rxv:W9 xv u0)(S:OL scope y N')(C:EY cl h scope)(hσ:Holds cl h N' σ)(hl:σ.length=N'.length){oc:Obj}{vs:Array Value}{t:Tok}(hGf:G f=some (.frz (Gy q params body scope cl pm (.ref c') ctv) HT))(hGc:G c'=some (.frz oc HT))(hd:oc.data= .fields vs)(hv:vs[1]?=some (.str q t))
  (hcf:∀b∈cl.map (·.2),G b=none) (hbind:∀pm cv ctv u,bindArgs (W.kla_fn "<lambda>" q params body scope cl pm cv ctv) ⟨[u],[]⟩=pure [(y,u)])
  (hb:∀ (A:VE) (outer:List Env) (s:VC) (H:Hp) (E:XK),Room k (A.deeper (W.envX q scope s.heap.objs.size f (.ref c') cl))->PE (MU P w K mg base (y::N') q scope f (.ref c') cl A outer s H E) body (te E))
  {Q:VK} {E:XK} (ht:te E (some xv::σ) G Q):wD P w K mg base (k+ 1) f u0 (Wt cl h G) (fun v H'=>∃H2,H'=Wt cl h H2/\(∀b∈cl.map (·.2),H2 b=none)/\Q v H2) (fun c _ H'=>∃H2,H'=Wt cl h H2/\(∀b∈cl.map (·.2),H2 b=none)/\E c none H2):=by
 intro A outer s hr l;have eG:M1 cl (Wt cl h G)=G:=by
  funext b
  by_cases hb:b∈cl.map (·.2)
  .rw[RD hb,hcf b hb]
  .rw[MJ hb,VU hb]
 have nC:∀b x,G b=some x->b∉cl.map (·.2):=fun b x e hb=>by rw[hcf b hb]at e;cases e
 have gf:s.heap.get? f=some (Gy q params body scope cl pm (.ref c') ctv):=l.hok.frz (by rw[VU (nC f _ hGf)];exact hGf);have gc:s.heap.get? c'=some oc:=l.hok.frz (by rw[VU (nC c' _ hGc)];exact hGc);have j:∀b∈cl.map (·.2),∃o,h.get? b=some o/\s.heap.get? b=some o:=fun b hb=>by
  obtain⟨o,v,g,_⟩:=C.cell b hb;exact⟨o,g,l.hok.frz (by rw[D4 hb,g];rfl)⟩
 have cfs:∀b∈cl.map (·.2),b∉JM outer:=fun b hb hm=>by
  obtain⟨o,g,_⟩:=j b hb;have:=l.frf b hm;rw[D4 hb,g]at this;cases this
 have hcc:∀b∈cl.map (·.2),(∃o,h.get? b=some o)/\b∉JM outer:=fun b hb=>⟨(j b hb).imp fun o z=>z.1,cfs b hb⟩
 have hokG:JU P w G s.heap:=fun b o e=>by
  have hb := nC b _ e;exact (l.hok b o (by rw [VU hb]; exact e)).stay (fun _ _ _ z => z) (fun d z => by
   by_cases hd:d∈cl.map (·.2)
   .obtain⟨o1,g,_⟩:=j d hd;rw[D4 hd,g]at z;cases z
   .rw [VU hd] at z; exact z) fun d xs z => by
   by_cases hd:d∈cl.map (·.2)
   .obtain⟨o1,g,_⟩:=j d hd;rw[D4 hd,g]at z;cases z
   .rw[VU hd]at z;exact z
 have gN:∀b,Wt cl h G b=none->G b=none:=fun b e=>by
  by_cases hb:b∈cl.map (·.2)
  .exact hcf b hb
  .rw[VU hb]at e;exact e
 refine W.kla_callFunE hr.depth gf rfl S.co S.gen rfl ⟨c',oc,vs,t,rfl,gc,hd,hv⟩ ?_;rw[hbind];refine Y4 (Uy S.nocell (fun z hz=>by obtain rfl:=Yn.mp hz;exact S.loc) (fun h₁ hns hsb=>⟨?_,?_⟩) S.kind)
 .exact(l.mod.nolimit.keeps fun b o e=>(l.bs b o e).1).fresh _ hsb
 have hk₁:∀b o,s.heap.get? b=some o->h₁.get? b=some o:=fun b o e=>hsb.extBut b o (Yi (Y8 e)) (Y3 _ e)
 show codeAny _ _ (.expr body (W.envX q scope s.heap.objs.size f (.ref c') cl)) _ _;refine W.kla_codeExpr ?_;have noA:∀b:Addr,b∉(MU P w K mg base (y::N') q scope f (.ref c') cl A outer s G E).ex:=fun b z=>absurd (show b∈([]:List Addr) from z) (by simp)
 have I:VV (MU P w K mg base (y::N') q scope f (.ref c') cl A outer s G E) [] (some xv::σ) G {s with heap:=h₁,toks:=s.toks+ 1}:=by
  refine ⟨⟨l.mod, S.kind, rfl, rfl, Y1 _, C.inj, fun x hx => ?_, (fun x c z => by cases z), fun _ => hr.hd, Ux l.frames, .inr ⟨rfl, rfl⟩, fun b z => absurd z (noA b), fun b o e => ⟨(l.bs b o e).1, gN b (l.bs b o e).2⟩, l.bsz, fun b _ _ => noA b, fun b z => absurd z (noA b), l.funs, fun b hb => gN b (l.frf b hb)⟩,
   rfl, l.bare, Un.kept hk₁, ⟨_, hns, fun i x v g e2 e3 => ?_⟩, fun x c e => ?_, hokG.fresh (Y1 _), fun x c e => hcf c (Rk e), fun p hp => absurd (show p ∈ ([] : List (Addr × Obj)) from hp) (by simp), hokG.kept hk₁, by simp [hl]; rfl⟩
  .have hx:scope.names.lookup x=some .cell\/scope.names.lookup x=some .free:=hx;rcases hx with hx|hx
   .exact absurd rfl (S.nocell _ (YQ hx))
   .exact C.has x (YQ hx)
  .cases i with
   |zero=>
    have g:some y=some x:=g;have e2:some (some xv)=some (some v):=e2;cases g;cases e2;exact⟨u0,rxv,.inl ⟨S.loc,by simp[List.lookup]⟩⟩
   |succ i=>?_
   have g:N'[i]?=some x:=g;have e2:σ[i]?=some (some v):=e2;obtain⟨c,o,u,q1,q2,q3,q4⟩:=hσ i x v g e2;obtain⟨o',z1,z2⟩:=j c (Rk q1);rw[q2]at z1;cases z1;exact⟨u,q4,.inr ⟨.inr (S.free x (Yd g)),c,q1,⟨o,hk₁ _ _ z2,q3⟩⟩⟩
  .obtain⟨o,v,z1,z2⟩:=C.cell c (Rk e);obtain⟨o',y1,y2⟩:=j c (Rk e);rw[z1]at y1;cases y1;exact⟨v,⟨o,hk₁ _ _ y2,z2⟩⟩
 refine YC (hb A outer s G E (hr.deeper _) [] _ (some xv::σ) G Q I ht) (fun v s' hs=>?_) fun e s' hs=>?_
 .obtain⟨x,H',J,rx,qx⟩:=hs;obtain⟨u1,u2,u3⟩:=Eh (fs:=JM outer) l.hok hcc (eG▸J.base);exact⟨x,Wt cl h H',J.os,J.bare,u1,u3 _ (fun b o e r n=>J.base.keep b o e (eG▸n) r (by simp[MU])) J.hok,rx,H',rfl,u2,qx⟩
 .refine YC hs (fun _ s'' hc=>?_) fun e' s'' hc=>?_
  .obtain⟨a,C1,t1,B,H',g,F,hE⟩:=hc;obtain⟨u1,u2,u3⟩:=Eh (fs:=JM outer) l.hok hcc (eG▸F.un);exact⟨a,C1,t1,B,Wt cl h H',g,⟨F.os,F.bare,F.fly,u3 B (fun b o e r n=>F.keepB b o e r (eG▸n)) F.hok,u1,fun b o e r n=>F.keepB b o e r (gN b n),F.thereB⟩,H',rfl,u2,hE⟩
  .obtain⟨a,C1,t1,B,H',g,F,hE⟩:=hc;obtain⟨u1,u2,u3⟩:=Eh (fs:=JM outer) l.hok hcc (eG▸F.un);exact⟨a,C1,t1,B,Wt cl h H',g,⟨F.os,F.bare,F.fly,u3 B (fun b o e r n=>F.keepB b o e r (eG▸n)) F.hok,u1,fun b o e r n=>F.keepB b o e r (gN b n),F.thereB⟩,H',rfl,u2,hE⟩
end
end L2
namespace L2
open PySem PySem.Spec PyProof.Rows PySem.W
structure B6(X:Cx)(y:Str)(N':List Str)(scope:Scope)(caps:List (Option Nat)):Prop where
 s:OL scope y N'
 cap:Kn X.N N' scope caps
 vis:∀x,(x,NameKind.free)∈scope.names->X.env.kindOf x=some .cell\/X.env.kindOf x=some .free
def OV(N:List Str)(y:Str)(N':List Str)(scope:Scope)(caps:List (Option Nat))(sc:Scope):Bool:=
 decide (scope.kind= .function) && !scope.isCoroutine && !scope.isGenerator && (scope.names.all fun y=>decide (y.2≠ .cell)) && decide (scope.names.lookup y=some .local) && (N'.all fun x=>decide (scope.names.lookup x=some .free)) && decide (caps.length=N'.length) &&
 ((N'.zip caps).all fun p => match p.2 with
  |none=>true
  | some j => decide (N[j]? = some p.1) && decide ((p.1, NameKind.free) ∈ scope.names) && (scope.names.all fun y => decide (y.1 = p.1 -> y.2 = .free))) &&
 (scope.names.all fun y=>decide (y.2= .free->sc.names.lookup y.1=some .cell\/sc.names.lookup y.1=some .free))
theorem yF{X:Cx}{y:Str}{N':List Str}{scope:Scope}{caps:List (Option Nat)}{sc:Scope}{N:List Str}(hsc:X.env.scope=sc)(hN:X.N=N)(h:OV N y N' scope caps sc=true):B6 X y N' scope caps:=by
 subst hsc hN;unfold OV at h;simp only[YF,Yy,YK,XM]at h;obtain⟨⟨⟨⟨⟨⟨⟨⟨h1,h2⟩,l⟩,g⟩,n⟩,h5⟩,f⟩,e⟩,d⟩:=h;refine⟨⟨h1,h2,l,g,n,h5⟩,⟨f,fun i j x p o=>?_⟩,fun x b=>d _ b rfl⟩;have a:(x,some j)∈N'.zip caps:=by
  have:(N'.zip caps)[i]?=some (x,some j):=by rw[Xv];exact⟨p,o⟩
  exact Yd this
 have q:=e _ a;simp only[YF,Yy,YK]at q;exact⟨q.1.1,q.1.2,fun k c=>q.2 _ c rfl⟩
section
variable{X:Cx}{q:Str}{params:Arguments}{body:VN}{scope:Scope}{H G:Hp}{f:VI}{y:Str}{N':List Str}{caps:List (Option Nat)}{te:TE}{k:Nat}{σ:St}{pins:VA}{s s1 s2:VC}{cl:List (Str×Addr)}{A:VE}
theorem uW(v:Nc X q params body scope H f)(S:B6 X y N' scope caps)(hbind:∀cl pm cv ctv u,bindArgs (W.kla_fn "<lambda>" q params body scope cl pm cv ctv) ⟨[u],[]⟩=pure [(y,u)])
  (hb:∀ (f c':VI) (cl:List (Str×Addr)) (A:VE) (outer:List Env) (s:VC) (H:Hp) (E:XK),Room k (A.deeper (W.envX q scope s.heap.objs.size f (.ref c') cl))->PE (MU X.prog X.w X.K X.mg X.base (y::N') q scope f (.ref c') cl A outer s H E) body te)
  {Q:VK} {xv:V} {u0:VH} {E:Vy} (rx:W9 xv u0) (I1:VV X pins σ H s1) (hfn:∀x,X.fn x=true) (hr:Room (k+ 1) A) (hA:A.frames=X.A.frames) (ht:te (some xv::Ws caps σ) H Q):
  wpAny (model X.prog X.w) A (call (.ref f) [u0]) (CE X.stack X.prog X.w H s1 Q) E s1:=by
 obtain⟨cl,c',ctv,pm,oc,vs,t,⟨d,n,hcl3⟩,b4,b5,b6,b7⟩:=v;have cX:∀b∈cl.map (·.2),∃x,X.env.cells.lookup x=some b:=fun b hb=>by
  obtain⟨⟨x,b'⟩,g,rfl⟩:=Yv.mp hb;exact⟨x,hcl3 _ g⟩
 have p:∀b∈cl.map (·.2),H b=none:=fun b hb=>by
  obtain⟨x,g⟩:=cX b hb;exact I1.freeC x b g
 have aa:∀b∈cl.map (·.2),∃o v,s1.heap.get? b=some o/\o.data= .cell v:=fun b hb=>by
  obtain⟨x,g⟩:=cX b hb;obtain⟨v,o,e1,a⟩:=I1.cell x b g;exact⟨o,v,e1,a⟩
 have hCO:EY cl s1.heap scope:=⟨fun x y b h1 h2=>I1.ok.inj x y b (d x b h1) (d y b h2),n,aa⟩;have hH:Holds cl s1.heap N' (Ws caps σ):=fun i x v e1 a=>by
  obtain⟨m,hns,hl⟩:=I1.loc;unfold Ws at a;rw[Yk]at a;cases ec:caps[i]? with
  |none=>rw[ec]at a;cases a
  |some o=>
   rw[ec]at a;cases o with
   |none=>cases a
   |some j=>
    have a:(σ[j]?).join=some v:=Yo a;obtain⟨n1,n2,n3⟩:=S.cap.2 i j x e1 ec;have e3:σ[j]?=some (some v):=by
     cases z:σ[j]? with
     |none=>rw[z]at a;cases a
     |some y=>rw[z]at a;exact YH some a
    have hv:X.env.kindOf x=some .cell\/X.env.kindOf x=some .free:=S.vis x n2;obtain⟨u,ru,lk⟩:=hl j x v n1 e3 (hv.elim (fun z=>.inr (.inl z)) (fun z=>.inr (.inr z)));obtain⟨b,hb⟩:=n x n2;have hb2:=d x b hb;rcases lk with⟨z,_⟩|⟨_,b',hb',⟨o,q1,q2⟩⟩
    .rcases hv with y|y <;> (rw[z]at y;cases y)
    .rw[hb2]at hb';cases hb';exact⟨b,o,u,hb,q1,q2,ru⟩
 have ask:=gJ (P:=X.prog) (w:=X.w) (K:=X.K) (mg:=X.mg) (base:=X.base) (k:=k) (h:=s1.heap) (G:=H) (te:=fun _=>te) (params:=params) (body:=body) (Q:=Q) (E:=fun _ _ _=>False) rx S.s hCO hH (by unfold Ws;rw[List.length_map];exact S.cap.1) b4 b5 b6 b7 p (hbind cl) (hb f c' cl) ht;have c:=Qf I1 hfn cX;refine XU (X6 (ask A X.stack s1 hr ⟨by rw[hA];exact c.frames,c.mod,c.bs,c.bsz,c.funs,c.frf,c.hok,c.bare⟩) fun r s2 l=>?_);cases r with
 |error e=>obtain⟨_,_,_,_,_,_,_,_,_,_,z⟩:=l;exact z.elim
 |ok fl=>
  cases fl with
  |ret v=>
   obtain⟨x,H',z1,z2,z3,z4,z5,H2,rfl,z7,z8⟩:=l;exact Os I1 cX ⟨x,_,z1,z2,z3,z4,z5,by show Q x (M1 cl (Wt cl s1.heap H2));rw[j8 z7];exact z8⟩
  |next=>exact False.elim l
  |brk=>exact False.elim l
  |cont=>exact False.elim l
end
def Jr(H G:Hp):Prop:=∀b o,H b=some o->(∀xs,o≠ .lst xs)->G b=some o
theorem Jr.rfl'{H:Hp}:Jr H H:=fun _ _ e _=>e
theorem Jr.trans{H G F:Hp}(a:Jr H G)(b:Jr G F):Jr H F:=fun x o e n=>b x o (a x o e n) n
theorem VP.keepT{H G:Hp}(a:VP H G):Jr H G:=fun b o e _=>a b o e
theorem Ay{H:Hp}{l:VI}{xs:List V}{o:HO}(e:H l=some (.lst xs)):Jr H (upd H l o):=fun b u a n=>by
 rw[Wh (fun z=>by subst z;rw[e]at a;cases a;exact n xs rfl)];exact a
section
variable{X:Cx}{q:Str}{params:Arguments}{body:VN}{scope:Scope}{f:VI}{y:Str}{N':List Str}{caps:List (Option Nat)}{te:TE}{k:Nat}{σ:St}{pins:VA}{A:VE}{E:Vy}{O:KeyOrd}{d:O.α}{RA:Hp->V->O.α->Prop}{c:List O.α}
theorem Nc.keepT{H G:Hp}(v:Nc X q params body scope H f)(h:Jr H G):Nc X q params body scope G f:=v.of fun b a e=>h b _ e fun _ z=>by cases z
theorem mE{kS:VI}{bd:Value->PUnit->Sem (ForInStep PUnit)}(S:B6 X y N' scope caps)(hbind:∀cl pm cv ctv u,bindArgs (W.kla_fn "<lambda>" q params body scope cl pm cv ctv) ⟨[u],[]⟩=pure [(y,u)])
  (hb:∀ (f c':VI) (cl:List (Str×Addr)) (A:VE) (outer:List Env) (s:VC) (H:Hp) (E:XK),Room k (A.deeper (W.envX q scope s.heap.objs.size f (.ref c') cl))->PE (MU X.prog X.w X.K X.mg X.base (y::N') q scope f (.ref c') cl A outer s H E) body te)
  (hfn:∀x,X.fn x=true) (hr:Room (k+ 1) A) (hA:A.frames=X.A.frames) (mono:∀{G G' v p},Jr G G'->RA G v p->RA G' v p)
  (hbd:∀ (u:VH) (s:VC) (R:Shared->Prop),wpAny (model X.prog X.w) A (call (.ref f) [u]) (fun k s'=>wpAny (model X.prog X.w) A (Builtin.List.listUpdate (.ref kS) (·.push k)) (fun _ s''=>R s'') (fun _ _=>False) s') (fun _ _=>False) s->wpAny (model X.prog X.w) A (bd u ⟨⟩) (fun r s'=>r= .yield ⟨⟩/\R s') E s):
  ∀ (xs:List V) (us:VL) (kv:List V) (H:Hp) (s:VC),W2 xs us->VV X pins σ H s->H kS=some (.lst kv)->kv.length+ xs.length <=100000->Nc X q params body scope H f->
   (∀ (j:Nat) x p,xs[j]?=some x->c[kv.length+ j]?=some p->∀G,Jr H G->te (some x::Ws caps σ) G (fun v G'=>VP G G'/\RA G' v p))->kv.length+ xs.length=c.length->(∀ (j:Nat) v p,kv[j]?=some v->c[j]?=some p->RA H v p)->
   wpAny (model X.prog X.w) A (forIn us PUnit.unit bd) (fun _ s'=>∃kv' H',VV X pins σ H' s'/\Jr H H'/\H' kS=some (.lst kv')/\kv'.length=c.length/\(∀b,b≠kS->∀o,H b=some o->H' b=some o)/\∀ (j:Nat) v p,kv'[j]?=some v->c[j]?=some p->RA H' v p) E s:=by
 intro xs
 induction xs with
 |nil=>
  intro us kv H s z I hk _ _ _ hl hR;cases z;rw[List.forIn_nil];exact Y4 ⟨kv,H,I,.rfl',hk,by simpa using hl,fun b _ o e=>e,hR⟩
 |cons x xs ih=>
  intro us kv H s z I hk hz v ht hl hR;cases us with
  |nil=>cases z
  |cons u us=>
  obtain⟨rx,rs⟩:W9 x u/\W2 xs us:=by cases z with|cons a b=>exact⟨a,b⟩
  clear z;rw[U0];rw[List.length_cons]at hz hl;obtain⟨p,hp⟩:∃p,c[kv.length]?=some p:=⟨_,Y7 (by lia)⟩;refine Y0 (YC (hbd u s (fun s'=>∃H' i,VV X pins σ H' s'/\Jr H H'/\H' kS=some (.lst (kv++[i]))/\RA H' i p/\∀b,b≠kS->∀o,H b=some o->H' b=some o) ?_) (fun r s' hr'=>?_) fun _ _ e=>e)
  .refine YC (uW v S hbind hb rx I hfn hr hA (ht 0 x p rfl (by simpa using hp) H .rfl')) (fun k1 s1 hc=>?_) fun _ _ e=>e
   obtain⟨i,H1,z1,z2,z3,z4,z5,sm,ra⟩:=hc;obtain⟨g,H1',I1,rk,rfl,rfl⟩:∃g H1',VV X pins σ H1' s1/\W9 g k1/\g=i/\H1'=H1:=I.after (Q:=fun a b=>a=i/\b=H1) ⟨i,H1,z1,z2,z3,z4,z5,rfl,rfl⟩;have l:=sm _ _ hk;obtain⟨hz1,its,n,r1,l1,d⟩:=I1.lstM l;refine XE d rfl ?_ (by rw[Yb,YE];lia) (by rw[Array.size_push,Yb,YE];lia);have I2:=I1.lset (ys:=kv++[g]) (its':=its++[k1]) (f:=(·.push k1)) (t':=s1.toks) l d (by simp) (W2.append r1 (.cons rk .nil)) (by rw[Yx,YE];simp;lia);exact⟨_,g,I2,sm.keepT.trans (Ay l),WU,mono (Ay l) ra,fun b hb o e=>by rw[Wh hb];exact sm b o e⟩
  .obtain⟨rfl,H',i,I',kp,hk',ra,kb⟩:=hr';show wpAny (model X.prog X.w) A (forIn us PUnit.unit bd) _ E s';refine YC (ih us (kv++[i]) H' s' rs I' hk' (by simp;lia) (v.keepT kp) (fun j x' p' d e2 G hG=>ht (j+ 1) x' p' d (by rw[<-e2];congr 1;simp;lia) G (kp.trans hG)) (by simp;lia) fun j v' p' d e2=>?_) (fun _ s'' h=>?_) fun _ _ e=>e
   .rw[Vp]at d
    split at d
    .exact mono kp (hR j v' p' d e2)
    .rename_i hj
     have hj2:j=kv.length:=by
      have:=(Y5.mp d).1;simp at this;lia
     subst hj2;rw[Nat.sub_self]at d;cases d;rw[hp]at e2;cases e2;exact ra
   .obtain⟨kv',H'',a1,a2,a3,a4,a5,a6⟩:=h;exact⟨kv',H'',a1,kp.trans a2,a3,a4,fun b hb o e=>a5 b hb o (kb b hb o e),a6⟩
theorem nI{ks vs:VL}(hl:ks.length=vs.length):Array.map (fun x:Keyed=>x.2) (ks.toArray.zip vs.toArray)=List.toArray ((List.range vs.length).map fun i=>vs.getD i Value.none):=by
 apply Array.toList_inj.mp;rw[Array.toList_map,Array.toList_zip];show List.map Prod.snd (List.zip ks vs)=_;rw[List.map_snd_zip (by lia)];exact(O5 vs).symm
end
end L2
namespace L2
open PySem PySem.Spec PyProof.Rows
end L2
namespace L2
open PySem PySem.Spec PyProof.Rows PySem.W
def DM:KeyOrd where
 α:=Int
 blt a b:=decide (a < b)
 irrefl a:=by simp
 trans a b c:=by simp;lia
 negTrans a b c:=by simp;lia
 total a b:=by simp;lia
section
variable{prog:VB}{w:VF}
theorem Q0{vs:VL}{c:VJ}{h:VM}(hp:∀ (i:Nat) v p,vs[i]?=some v->c[i]?=some p->∃t,v= .int p t)(hl:vs.length=c.length):Rm prog w h DM (fun i=>c.getD i 0) oneType' vs where
 kind A s Q hk h2 hQ:=by
  have hall:∀v,v∈vs->∃n t,v=Value.int n t:=fun v a=>by
   obtain⟨i,hi⟩:=Vk.mp a;have o:=(Y5.mp hi).1;obtain⟨t,e⟩:=hp i v _ hi (Y7 (by lia));exact⟨_,t,e⟩
  match vs,h2,hall with
  |v₁::v₂::rest,_,hall=>rw[keyKind_ints (intsAre_map _ hall)];exact Y4 hQ
 cmp A s i j C hu hk hi hj hC:=by
  have d:vs[i]?=some (vs.getD i Value.none):=by rw[Y7 hi];simp[hi]
  have b:vs[j]?=some (vs.getD j Value.none):=by rw[Y7 hj];simp[hj]
  have l:c[i]?=some (c.getD i 0):=by rw[Y7 (by lia)];simp[show i < c.length by lia]
  have g:c[j]?=some (c.getD j 0):=by rw[Y7 (by lia)];simp[show j < c.length by lia]
  obtain⟨t,e⟩:=hp i _ _ d l;obtain⟨u,f⟩:=hp j _ _ b g;unfold kas_ask;rw[e,f,keyLt'_oneType];exact oneLt_int hC
end
def mI(x:V)(Q:Int->Prop):Prop:=match x with| .int i=>Q i|_=>False
def mB(x:V)(Q:Bool->Prop):Prop:=match x with| .bl i=>Q i|_=>False
def mR(x:V)(Q:Addr->Prop):Prop:=match x with| .ref i=>Q i|_=>False
def mV(x:Option (Option V))(Q:V->Prop):Prop:=match x with|some (some v)=>Q v|_=>False
def mA(x:List V)(Q:V->Prop):Prop:=match x with|[v]=>Q v|_=>False
def mC(c:Bool)(A B:Prop):Prop:=if c=true then A else B
theorem uT(A B:Prop):mC true A B=A:=rfl
theorem mG(A B:Prop):mC false A B=B:=rfl
theorem jP(c:TT)(t u:TS)(D:MQ)(σ:St)(H:Hp):FE c t u D σ H=c σ H fun b H1=>mC b (t D σ H1) (u D σ H1):=rfl
theorem nL(t u:TT)(σ:St)(H:Hp)(Q:Bool->Hp->Prop):L6 t u σ H Q=t σ H fun c H1=>mC c (u σ H1 Q) (Q false H1):=rfl
theorem mK(t u:TT)(σ:St)(H:Hp)(Q:Bool->Hp->Prop):FB t u σ H Q=t σ H fun c H1=>mC c (Q true H1) (u σ H1 Q):=rfl
theorem wA(t:TT)(ta tb:TE)(σ:St)(H:Hp)(Q:VK):IN t ta tb σ H Q=t σ H fun c H1=>mC c (ta σ H1 Q) (tb σ H1 Q):=rfl
theorem HQ(i:Int)(Q:Int->Prop):mI (.int i) Q=Q i:=rfl
theorem IU(i:Bool)(Q:Bool->Prop):mB (.bl i) Q=Q i:=rfl
theorem Ow(i:VI)(Q:Addr->Prop):mR (.ref i) Q=Q i:=rfl
theorem I0(v:V)(Q:V->Prop):mV (some (some v)) Q=Q v:=rfl
theorem Ph(v:V)(Q:V->Prop):mA [v] Q=Q v:=rfl
theorem Rg(x:V)(Q:Int->Prop):mI x Q=∃i,x= .int i/\Q i:=propext ⟨fun h=>by cases x <;> first|exact⟨_,rfl,h⟩|exact h.elim,fun⟨_,e,h⟩=>by subst e;exact h⟩
theorem Be(x:V)(Q:Bool->Prop):mB x Q=∃i,x= .bl i/\Q i:=propext ⟨fun h=>by cases x <;> first|exact⟨_,rfl,h⟩|exact h.elim,fun⟨_,e,h⟩=>by subst e;exact h⟩
theorem Dd(x:V)(Q:Addr->Prop):mR x Q=∃i,x= .ref i/\Q i:=propext ⟨fun h=>by cases x <;> first|exact⟨_,rfl,h⟩|exact h.elim,fun⟨_,e,h⟩=>by subst e;exact h⟩
theorem Om(x:Option (Option V))(Q:V->Prop):mV x Q=∃v,x=some (some v)/\Q v:=propext ⟨fun h=>by rcases x with _|_|v <;> first|exact⟨_,rfl,h⟩|exact h.elim,fun⟨_,e,h⟩=>by subst e;exact h⟩
theorem Ec(x:List V)(Q:V->Prop):mA x Q=∃v,x=[v]/\Q v:=propext ⟨fun h=>by rcases x with _|⟨v,_|⟨u,l⟩⟩ <;> first|exact⟨_,rfl,h⟩|exact h.elim,fun⟨_,e,h⟩=>by subst e;exact h⟩
section
variable{X:Cx}{K:VG}
def Ej(i:Nat):TE:=fun σ H Q=>mV σ[i]? fun v=>Q v H
theorem VQ(i:Nat){x:Str}{pos:Pos}(hN:X.N[i]?=some x:=by rfl)(hv:Ed X.env.scope x:=by first|exact Or.inl rfl|exact Or.inr (Or.inl rfl)|exact Or.inr (Or.inr rfl))(hd:(x==("__debug__":Str))=false:=by decide)(hcd:(x==("__classdict__":Str))=false:=by decide):PE X (.Name x pos) (Ej i):=
 fun pins s σ H Q I h=>pv i hN hv hd hcd pins s σ H Q I (by unfold Ej at h;rw[Om]at h;exact h)
def Ct(C:Int->Int->Prop)(g:Int->Int->V):R2:=fun x y H Q=>mI x fun i=>mI y fun j=>C i j/\Q (g i j) H
def BJ(g:Int->Int->V):R2:=fun x y H Q=>mI x fun i=>mI y fun j=>Q (g i j) H
theorem dI{f:Value->Value->Sem Value}{C:Int->Int->Prop}{g:Int->Int->V}(h:Ja X f (rI C g)):Ja X f (Ct C g):=h.imp fun x y H Q q=>by
 unfold Ct at q;simp only[Rg]at q;obtain⟨i,e,j,a,q⟩:=q;exact⟨i,j,e,a,q⟩
theorem Jp{f:Value->Value->Sem Value}{g:Int->Int->V}(h:Ja X f (DC g)):Ja X f (BJ g):=h.imp fun x y H Q q=>by
 unfold BJ at q;simp only[Rg]at q;obtain⟨i,e,j,a,q⟩:=q;exact⟨i,j,e,a,q⟩
def BP:R2:=fun x y H Q=>match x,y with
 | .int a,.int b=>Mh (.int a) (.int b)=true/\Q (.bl (decide (a=b))) H
 | .str a,.str b=>Mh (.str a) (.str b)=true/\Q (.bl (decide (a=b))) H
 |x,y=>Mh x y=true/\Q (.bl (decide (x=y))) H
def BA:R2:=fun x y H Q=>match x,y with
 | .int a,.int b=>Mh (.int a) (.int b)=true/\Q (.bl (!decide (a=b))) H
 | .str a,.str b=>Mh (.str a) (.str b)=true/\Q (.bl (!decide (a=b))) H
 |x,y=>Mh x y=true/\Q (.bl (!decide (x=y))) H
theorem OF(a b:Int)(H:Hp)(Q:VK):BP (.int a) (.int b) H Q=(Mh (.int a) (.int b)=true/\Q (.bl (decide (a=b))) H):=rfl
theorem Pd(a b:Str)(H:Hp)(Q:VK):BP (.str a) (.str b) H Q=(Mh (.str a) (.str b)=true/\Q (.bl (decide (a=b))) H):=rfl
theorem Oc(a b:Int)(H:Hp)(Q:VK):BA (.int a) (.int b) H Q=(Mh (.int a) (.int b)=true/\Q (.bl (!decide (a=b))) H):=rfl
theorem OR(a b:Str)(H:Hp)(Q:VK):BA (.str a) (.str b) H Q=(Mh (.str a) (.str b)=true/\Q (.bl (!decide (a=b))) H):=rfl
theorem Qn(x y:V)(H:Hp)(Q:VK):BP x y H Q=(Mh x y=true/\Q (.bl (decide (x=y))) H):=by
 unfold BP
 split
 .simp[Mh]
 .simp[Mh]
 .rfl
theorem Qx(x y:V)(H:Hp)(Q:VK):BA x y H Q=(Mh x y=true/\Q (.bl (!decide (x=y))) H):=by
 unfold BA
 split
 .simp[Mh]
 .simp[Mh]
 .rfl
theorem Rt{f:Value->Value->Sem Value}(h:Ja X f Av):Ja X f BP:=h.imp fun x y H Q q=>by rw[Qn]at q;exact q
theorem Gj{f:Value->Value->Sem Value}(h:Ja X f Cf):Ja X f BA:=h.imp fun x y H Q q=>by rw[Qx]at q;exact q
def Gk(t:TE):TT:=fun σ H Q=>t σ H fun x H1=>mB x fun c=>Q c H1
theorem P7(t:TE):tB t=Gk t:=by unfold tB Gk;simp only[Be]
theorem cB{e:VN}{t:TE}(h:PT X e (tB t)):PT X e (Gk t):=P7 t▸h
theorem cT{e:VN}{t:TE}(h:PT X e (Bc t)):PT X e (Gk t):=P7 t▸h
def ED(ta tb:TE):TE:=fun σ H Q=>ta σ H fun x H1=>mB x fun c=>mC c (tb σ H1 Q) (Q (.bl false) H1)
def Ei(ta tb:TE):TE:=fun σ H Q=>ta σ H fun x H1=>mB x fun c=>mC c (Q (.bl true) H1) (tb σ H1 Q)
def EK(ta:TE):TE:=fun σ H Q=>ta σ H fun x H1=>mB x fun c=>Q (.bl (!c)) H1
theorem mJ{e:VN}{ta tb:TE}(h:PE X e (EC ta tb)):PE X e (ED ta tb):=by
 have:ED ta tb=EC ta tb:=by unfold ED EC mC;simp only[Be]
 rw[this];exact h
theorem SY{e:VN}{ta tb:TE}(h:PE X e (EI ta tb)):PE X e (Ei ta tb):=by
 have:Ei ta tb=EI ta tb:=by unfold Ei EI mC;simp only[Be]
 rw[this];exact h
theorem ZT{e:VN}{ta:TE}(h:PE X e (El ta)):PE X e (EK ta):=by
 have:EK ta=El ta:=by unfold EK El;simp only[Be]
 rw[this];exact h
def Cq(K:VG):List V->Hp->VK->Prop:=fun xs H Q=>mA xs fun x=>mR x fun p=>∃ys,(VZ K H p ys\/JN K H p ys)/\Q (.int ys.length) H
theorem Gu{f:VH}(h:Wr X f (CU K)):Wr X f (Cq K):=h.imp fun xs H Q q=>by
 unfold Cq at q;simp only[Ec,Dd]at q;obtain⟨x,e,p,rfl,ys,h1,q⟩:=q;exact⟨p,ys,e,h1,q⟩
theorem Dz.imp{r r':R2}(h:Dz X r)(hi:∀x y H Q,r' x y H Q->r x y H Q):Dz X r':=fun a b pins s σ H x y v u Q I d c q z=>h a b pins s σ H x y v u Q I d c (hi _ _ _ _ q) z
def BK(K:VG):R2:=fun x y H Q=>mR x fun p=>∃xs,mI y fun i=>VZ K H p xs/\∃v,GS xs i=some v/\Q v H
def BN(K:VG):R2:=fun x y H Q=>mR x fun p=>∃xs,mI y fun i=>JN K H p xs/\∃v,GS xs i=some v/\Q v H
theorem GR(h:Dz X (BE K)):Dz X (BK K):=h.imp fun x y H Q q=>by
 unfold BK at q;simp only[Rg,Dd]at q;obtain⟨p,e,xs,i,a,h1,v,h2,q⟩:=q;exact⟨p,xs,i,v,e,a,h1,h2,q⟩
theorem RN(h:Dz X (EZ K)):Dz X (BN K):=h.imp fun x y H Q q=>by
 unfold BN at q;simp only[Rg,Dd]at q;obtain⟨p,e,xs,i,a,h1,v,h2,q⟩:=q;exact⟨p,xs,i,v,e,a,h1,h2,q⟩
def CS:V->List V->Hp->VK->Prop:=fun x vs H Q=>mR x fun l=>mA vs fun y=>∃xs,H l=some (.lst xs)/\xs.length < sizeLine/\∀G,WP l H G->G l=some (.lst (xs++[y]))->Q .non G
theorem Tn{id:String}(h:Dm X id Ac):Dm X id CS:=h.imp fun x vs H Q q=>by
 unfold CS at q;simp only[Ec,Dd]at q;obtain⟨l,e,y,a,xs,h1,h2,q⟩:=q;exact⟨l,xs,y,e,a,h1,h2,q⟩
def AX(K:VG):List V->Hp->VK->Prop:=fun vs H Q=>mA vs fun x=>mR x fun p=>∃ys,(VZ K H p ys\/JN K H p ys)/\∀l G,H l=none->VP H G->G l=some (.lst ys)->Q (.ref l) G
theorem HC{f:VH}(h:Wr X f (AN K)):Wr X f (AX K):=h.imp fun xs H Q q=>by
 unfold AX at q;simp only[Ec,Dd]at q;obtain⟨x,e,p,rfl,ys,h1,q⟩:=q;exact⟨p,ys,e,h1,q⟩
def BY:R2:=fun x y H Q=>mR x fun l=>mR y fun b=>∃xs,H l=some (.lst xs)/\∃zs,H b=some (.lst zs)/\xs.length+ zs.length <=sizeLine/\∀p G,H p=none->VP H G->G p=some (.lst (xs++zs))->Q (.ref p) G
theorem PL{f:Value->Value->Sem Value}(h:Ja X f AV):Ja X f BY:=h.imp fun x y H Q q=>by
 unfold BY at q;simp only[Dd]at q;obtain⟨l,e,b,a,xs,h1,zs,h2,q⟩:=q;exact⟨l,b,xs,zs,e,a,h1,h2,q⟩
def Ey(ta:TA):TI:=fun σ H R=>ta σ H fun vs H1=>mA vs fun x=>mI x fun j=> -(2 ^ 62) <=j/\j < 2 ^ 62/\R (EN 0 j.toNat) H1
theorem yG{tg e:VN}{ta:TA}(h:PI X tg e (Em ta)):PI X tg e (Ey ta):=by
 have:Ey ta=Em ta:=by
  unfold Ey Em
  funext σ H R;congr;funext vs H1
  simp only[Ec,Rg];exact propext ⟨fun⟨x,e,j,e2,q⟩=>⟨j,by rw[e,e2],q⟩,fun⟨j,e,q⟩=>⟨_,e,j,rfl,q⟩⟩
 rw[this];exact h
def Ew(K:VG)(tl:TE):TI:=fun σ H R=>tl σ H fun x H1=>mR x fun a=>(∃xs,VZ K H1 a xs)/\R (GH K a) H1
theorem yR{tg e:VN}{tl:TE}(h:PI X tg e (RM K tl)):PI X tg e (Ew K tl):=by
 have:Ew K tl=RM K tl:=by unfold Ew RM;simp only[Dd]
 rw[this];exact h
def CM(K:VG):R2:=fun x y H Q=>mR x fun a=>mR y fun b=>∃xs,VZ K H a xs/\VZ K H b []/\Q (.bl (decide (xs.length=0))) H
theorem OE{f:Value->Value->Sem Value}(h:Ja X f (C0 K)):Ja X f (CM K):=h.imp fun x y H Q q=>by
 unfold CM at q;simp only[Dd]at q;obtain⟨a,e,b,c,xs,h1,h2,q⟩:=q;exact⟨a,b,xs,e,c,h1,h2,q⟩
def Ch:R2:=fun y x H Q=>mI y fun n=>mR x fun a=>∃kvs,H a=some (.dK kvs)/\Q (.bl (!(Jh kvs (Sum.inl n)).isSome)) H
theorem tD{f:Value->Value->Sem Value}(h:Ja X f CY):Ja X f Ch:=h.imp fun x y H Q q=>by
 unfold Ch at q;simp only[Dd,Rg]at q;obtain⟨n,e,a,b,kvs,h1,q⟩:=q;exact⟨a,n,kvs,e,b,h1,q⟩
def Am:R2:=fun x y H Q=>mR x fun l=>mI y fun k=>∃xs,H l=some (.lst xs)/\ -(2 ^ 63) <=k/\k < 2 ^ 63/\xs.length*k.toNat <=sizeLine/\∀p G,H p=none->VP H G->G p=some (.lst (List.replicate k.toNat xs).flatten)->Q (.ref p) G
theorem BR{f:Value->Value->Sem Value}(h:Ja X f Au):Ja X f Am:=h.imp fun x y H Q q=>by
 unfold Am at q;simp only[Dd,Rg]at q;obtain⟨l,e,k,a,xs,q⟩:=q;exact⟨l,k,xs,e,a,q⟩
def Cw(K:VG):V->Option Int->Option Int->Hp->VK->Prop:=fun x lo hi H Q=>mR x fun a=>∃xs,VZ K H a xs/\∀p G,H p=none->VP H G->G p=some (.lst (DX xs lo hi))->Q (.ref p) G
theorem OY(h:GX X (AK K)):GX X (Cw K):=h.imp fun x lo hi H Q q=>by
 unfold Cw at q;simp only[Dd]at q;obtain⟨a,e,xs,q⟩:=q;exact⟨a,xs,e,q⟩
def AZ:V->List V->Hp->VK->Prop:=fun x vs H Q=>mR x fun l=>mA vs fun y=>mR y fun b=>∃xs,H l=some (.lst xs)/\∃zs,H b=some (.lst zs)/\xs.length+ zs.length <=sizeLine/\∀G,WP l H G->G l=some (.lst (xs++zs))->Q .non G
theorem EX{id:String}(h:Dm X id Ar):Dm X id AZ:=h.imp fun x vs H Q q=>by
 unfold AZ at q;simp only[Ec,Dd]at q;obtain⟨l,e,y,a,b,rfl,xs,h1,zs,h2,q⟩:=q;exact⟨l,b,xs,zs,e,a,h1,h2,q⟩
variable{a b:VN}{ta tb:TE}{rest:List Expr}{pos:Pos}
theorem N6{e:VN}{t:TE}(h:PE X e t)(he:∀whole,isTrue e X.env whole=(do let v <-whole;standAt e.pos;holding [v] (truthy v)):=by intro _;rfl):PT X e (Gk t):=cB (Kq h he)
theorem Cj{op:CmpOp}{r:R2}(ho:Ja X (compareOp op) r)(ha:PE X a ta)(hb:PE X b tb)(hm:behindInMarks op b=false):PT X (.Compare a [op] [b] pos) (Gk (Gg r ta tb)):=cT (KQ ho ha hb hm)
theorem M8(ha:PE X a ta)(hb:PE X (.BoolOp .And (b::rest) pos) tb):PE X (.BoolOp .And (a::b::rest) pos) (ED ta tb):=mJ (ZJ ha hb)
theorem gA(ha:PE X a ta)(hb:PE X (.BoolOp .Or (b::rest) pos) tb):PE X (.BoolOp .Or (a::b::rest) pos) (Ei ta tb):=SY (yQ ha hb)
theorem uP(ha:PE X a ta):PE X (.UnaryOp .Not a pos) (EK ta):=ZT (gM ha)
theorem QZ{tg a:VN}{ta:TA}{p pos:Pos}(hg:Gl X "range")(hm:X.mg "range"=none)(ha:PA X [a] ta)(hs:starEach [a] X.env=[(false,eval a X.env)]:=by rfl):PI X tg (.Call (.Name "range" p) [a] [] pos) (Ey ta):=yG (nM hg hm ha hs)
theorem TK{tg l:VN}{tl:TE}(h:X.K=K)(hl:PE X l tl):PI X tg l (Ew K tl):=yR (nX h hl)
end
theorem _root_.L2.Room.m{j k:Nat}{A:VE}(r:Room k A)(h:j <=k:=by decide):Room j A:=r.mono h
section
variable{X:Cx}{es:List Expr}{t:TA}{te ta tb:TE}{pos:Pos}{x:Str}{ps N:List Str}{a b:VN}
theorem Wb(i:Nat)(hr:PA X es t)(hN:X.N[i]?=some x:=by rfl)(hv:Ed X.env.scope x:=by first|exact Or.inl rfl|exact Or.inr (Or.inl rfl)|exact Or.inr (Or.inr rfl))(hd:(x==("__debug__":Str))=false:=by decide)(hcd:(x==("__classdict__":Str))=false:=by decide):PA X (.Name x pos::es) (Mu (Ej i) t):=VR (VQ i hN hv hd hcd) hr Wq
theorem MK{v:Const}{k:Nat}(ha:PE X (.Constant v k pos) te)(hr:PA X es t):PA X (.Constant v k pos::es) (Mu te t):=VR ha hr W7
theorem RT(ha:PE X (.Subscript a b pos) te)(hr:PA X es t):PA X (.Subscript a b pos::es) (Mu te t):=VR ha hr E5
theorem Nt(ha:PE X (.Attribute a x pos) te)(hr:PA X es t):PA X (.Attribute a x pos::es) (Mu te t):=VR ha hr wG
theorem MG{gs:List Expr}{ks:List Keyword}(ha:PE X (.Call a gs ks pos) te)(hr:PA X es t):PA X (.Call a gs ks pos::es) (Mu te t):=VR ha hr M7
theorem NY(i:Nat){pos':Pos}(S:WQ X.N ps X.env.scope)(he:PE X a te)(hi:X.N[i]?=some x:=by rfl)(hx:Rq X.env.scope x:=by exact Or.inl rfl)(hs:swapsWith a (some (.Name x pos')) pos.line X.env=pure false:=by rfl)(hf:X.fn x=true\/X.env.scope.names.lookup x=some .local:=by first|exact .inl rfl|exact .inr rfl|assumption):
  PS X (.Assign [.Name x pos'] a pos) (Rz te (GJ i)):=T5 S.nd hi hx he hs hf
theorem MC(i:Nat)(S:WQ X.N ps X.env.scope)(hi:X.N[i]?=some x:=by rfl)(hx:Rq X.env.scope x:=by exact Or.inl rfl)(hf:X.fn x=true\/X.env.scope.names.lookup x=some .local:=by first|exact .inl rfl|exact .inr rfl|assumption):PG X (.Name x pos) (GJ i):=Tg S.nd hi hx hf
theorem WG(K:VG)(he:PE X a te)(h:X.K=K:=by rfl)(hb:attributeBase a x X.env (eval a X.env)=eval a X.env:=by rfl):PE X (.Attribute a x pos) (Ae K te x):=S6 h he hb
theorem Q5(K:VG)(ha:PE X a ta)(hb:PE X b tb)(h:X.K=K:=by rfl)(hs:FY b:=by exact fun _ _=>rfl):PE X (.Subscript a b pos) (Gg (BK K) ta tb):=Mi (GR (Gh h)) ha hb hs
theorem Dh(K:VG)(ha:PE X a ta)(hb:PE X b tb)(h:X.K=K:=by rfl)(hs:FY b:=by exact fun _ _=>rfl):PE X (.Subscript a b pos) (Gg (BN K) ta tb):=Mi (RN (Rp h)) ha hb hs
theorem N8{op:CmpOp}{r:R2}(ho:Ja X (compareOp op) r)(ha:PE X a ta)(hb:PE X b tb)(hm:behindInMarks op b=false:=by exact TV _):PT X (.Compare a [op] [b] pos) (Gk (Gg r ta tb)):=Cj ho ha hb hm
theorem Rn{k:Nat}{A:VE}(hr:Room k A)(ha:PE X a ta)(hb:PE X b tb)(e:X.A=A:=by rfl)(hs:IE b:=by exact fun _ _=>rfl):PE X (.Subscript a b pos) (AI ta tb):=Sh (e▸D6 hr) ha hb hs
theorem N3{id:String}{r:List V->Hp->VK->Prop}{p:Pos}(hc:Wr X (.builtin id) r)(hm:X.mg x=none)(ha:PA X (a::es) t)(hg:Gl X x:=by rfl)(hv:bootBuiltins x=some (.builtin id):=by rfl)(hn:x≠"__name__":=by decide)(hdb:(x==("__debug__":Str))=false:=by decide)
  (he:starEach (a::es) X.env=(false,eval a X.env)::starEach es X.env:=by rfl) (hpl:(backTo pos (starEach es X.env)).any (·.1)=false:=by rfl):PE X (.Call (.Name x p) (a::es) [] pos) (BG r t):=D8 hc hg hm hv ha hn hdb he hpl
end
def Pm:KeyOrd where
 α:=Str
 blt:=MD
 irrefl:=gU
 trans _ _ _:=S7
 negTrans _ _ _:=QQ
 total _ _:=Qw
section
variable{prog:VB}{w:VF}
theorem yZ{vs:VL}{c:List Str}{h:VM}(hp:∀ (i:Nat) v p,vs[i]?=some v->c[i]?=some p->∃t,v= .str p t)(hl:vs.length=c.length):Rm prog w h Pm (fun i=>c.getD i "") oneType' vs where
 kind A s Q hk h2 hQ:=by
  have hall:∀v,v∈vs->∃n t,v=Value.str n t:=fun v a=>by
   obtain⟨i,hi⟩:=Vk.mp a;have o:=(Y5.mp hi).1;obtain⟨t,e⟩:=hp i v _ hi (Y7 (by lia));exact⟨_,t,e⟩
  match vs,h2,hall with
  |v₁::v₂::rest,_,hall=>rw[keyKind_strs (strsAre_map _ hall)];exact Y4 hQ
 cmp A s i j C hu hk hi hj hC:=by
  have d:vs[i]?=some (vs.getD i Value.none):=by rw[Y7 hi];simp[hi]
  have b:vs[j]?=some (vs.getD j Value.none):=by rw[Y7 hj];simp[hj]
  have l:c[i]?=some (c.getD i ""):=by rw[Y7 (by lia)];simp[show i < c.length by lia]
  have g:c[j]?=some (c.getD j ""):=by rw[Y7 (by lia)];simp[show j < c.length by lia]
  obtain⟨t,e⟩:=hp i _ _ d l;obtain⟨u,f⟩:=hp j _ _ b g;unfold kas_ask;rw[e,f,keyLt'_oneType];exact oneLt_str hC
end
theorem vI{J:Type}[DecidableEq J]{prog:VB}{w:VF}{knd:KeyKind prog w J}{es:List DictEntry}{kvs:List (J×Value)}(h:Pairs knd es kvs){i:Nat}{e:DictEntry}(he:es[i]?=some e):∃k,(kvs.map (·.1))[i]?=some k/\knd.is k e.key=true:=by
 induction h generalizing i with
 |nil=>simp at he
 |cons h1 h2 _ ih=>
  cases i with
  |zero=>cases he;exact⟨_,rfl,h1⟩
  |succ i=>exact ih (by simpa using he)
theorem SI{kvs:List (Wu×V)}{vs:List (Wu×Value)}(r:KV kvs vs):kvs.map (·.1)=vs.map (·.1):=by
 induction r with
 |nil=>rfl
 |cons a _ ih=>rw[List.map_cons,List.map_cons,ih,a.1]
section
variable{X:Cx}{K:VG}
theorem dU{r:List Nat}{c:List Str}(hperm:r.Perm (List.range c.length)):(r.map fun i=>(c.map V.str).getD i .non)=(r.map fun i=>c.getD i "").map V.str/\(r.map fun i=>c.getD i "").Perm c:=by
 have d:∀i∈r,i < c.length:=fun i hi=>by simpa using hperm.mem_iff.mp hi
 refine⟨?_,?_⟩
 .rw[YB];refine X0 fun i hi=>?_
  have:=d i hi;simp[YR,this]
 .have h1:=hperm.map fun i=>c.getD i ""
  have h2:(List.range c.length).map (fun i=>c.getD i "")=c:=by
   apply List.ext_getElem
   .simp
   .intro i a b;rw[List.getElem_map,List.getElem_range];simp[YR,b]
  rw[h2]at h1;exact h1
end
def QT:Hp->V->Int->Prop:=fun _ x p=>x= .int p
theorem SU{X:Cx}{k:Nat}{sp:Sp}{x:Str}{p pos:Pos}(F:Tt X.prog X.w X.K X.mg X.base x k sp)(hr:Room (k+ 1) X.A)(hg:Gl X x)(hdb:(x==("__debug__":Str))=false:=by decide):PE X (.Call (.Name x p) [] [] pos) (Rx sp [] E0 D7):=by
 obtain⟨f,C,fd,ds,dvs,ps,sp0,G,d,M,e,hd,hi⟩:=F.ex;intro pins s σ H Q I h;refine YN (Gz I hg d ?_ hdb);refine W.callWith_K0 I.kIn M.kp ?_;have q:sp ([]++[]) H Q E0:=h;exact Hq M G hr e hd BO I .nil fun y dx b a c=>hi _ _ _ q y dx _ b a c ((NX a).new b) WU
end L2
namespace L2
open PySem PySem.Spec PyProof.Rows
def MA(K:VG)(C:VI)(m q:Str)(st:Stmt)(f c T:VI):Prop:=W.findIn K (.ref C) m=some (some (.ref f))/\W.isFn K (.ref f)=true/\∃ (oc:VH) (od:Option Addr) (kV dc pm:VH) (an:Option Addr) (ct:VH) (sl:Array (Option Value)),
 K.lookup f=some ⟨oc,od,.func (W.fnOf m q (NV st) (VX st) (VO st) .none kV dc pm an (.ref c) ct),sl⟩/\W.codeIn K (.ref c) q=true/\W.keepIn K (.ref f)=true/\(∃ (oc':VH) (od':Option Addr) (vs:Array Value) (sl':Array (Option Value)),K.lookup c=some ⟨oc',od',.fields vs,sl'⟩/\vs[11]?=some (.ref T))/\W.codeHdIn K c T=true
def DN(K:VG)(C:VI)(q:Str)(st:Stmt)(f T:VI):Prop:=W.findIn K (.ref C) "__init__"=some (some (.ref f))/\W.isFn K (.ref f)=true/\∃ (oc:VH) (od:Option Addr) (kV dc pm:VH) (an:Option Addr) (cd ct:VH) (sl:Array (Option Value)),
 K.lookup f=some ⟨oc,od,.func (W.fnOf "__init__" q (NV st) (VX st) (VO st) (.ref T) kV dc pm an cd ct),sl⟩/\W.codeIn K cd q=true/\∃ (oT:Option Addr) (nT:Nat) (sT:Array (Option Value)),K.lookup T=some ⟨.type "tuple",oT,.seq #[.none] nT,sT⟩
section
variable{P:VB}{w:VF}{K:VG}{mg:Vx}{base:VM}{n q m:Str}{st:Stmt}{f C c T:VI}{k:Nat}{ps:List Str}{sp:Sp}
theorem MA.hd(g:MA K C m q st f c T):W.codeHdIn K c T=true:=by
 obtain⟨_,_,_,_,_,_,_,_,_,_,_,_,_,_,h⟩:=g;exact h
end
end L2
namespace L2
open PySem PySem.Spec PyProof.Rows PySem.W
def IF(caps:List (Option Nat))(wi:TI)(g:TG)(tc:TT)(te:St->TE):TE:=fun σ H Q=>wi σ H fun J H1=>Rv caps g tc (te σ) σ Q J H1
section
variable{X:Cx}{elt tg iter:VN}{ifs:List Expr}{scope:Scope}{pos:Pos}{N':List Str}{caps:List (Option Nat)}{wi:TI}{g:TG}{tc:TT}{te:St->TE}
theorem FX(S:E7 X N' scope caps)(hc:X.calm=true)(hi:PI X tg iter wi)
  (hg:∀cl C s H ex,PG (WF X N' scope cl C s H ex) tg g) (ht:∀cl C s H ex,MR (WF X N' scope cl C s H ex) ifs tc) (he:∀cl C s H ex pins σ,VV X pins σ H s->(∀b∈ex,NP X pins H b)->PE (WF X N' scope cl C s H ex) elt (te σ))
  (hs:∀x,foldedSetIterable iter X.env x=pure x:=by intro _;rfl):PE X (.ListComp elt [⟨tg,iter,ifs,0⟩] scope pos) (IF caps wi g tc te):=by
 intro pins s σ H Q I h;obtain⟨cl,u,i,f⟩:=Ax (I.cellsOf S);rw[eval_ListComp];refine U7 (use:=none) rfl hs u S.kind S.locs (Wj (hi pins s σ H _ I h) fun v s1 h1=>Wj h1 fun itv s2 h2=>?_);obtain⟨it,fp,tn,J,H2,e,w,T,l,r,W,y,c⟩:=h2;subst e;refine KM S hc i f hg (fun C=>ht _ C _ _ _) (fun C=>he _ C _ _ _ _ _ w r) w T l r W y c fun D C z m s' H' j hn q hC a d hoC=>?_
 refine⟨m,hn,fun h' hs'=>⟨.ref D,H',?_,rfl,q⟩⟩;have n:=j.pin (C,z) (Yr _ (Yr _ (by simp)));exact(j.pins_of (pins':=pins) fun p hp=>j.pin p (Yr _ (Xu _ hp))).turned (t':=s'.toks) (it:=C) (fun b o hb e=>(hs'.2 b hb).trans e) n.2.1 n.2.2.1 (.inr hC) a d
end
end L2
namespace L2
open PySem PySem.Spec PyProof.Rows
theorem Bq{l:W.OpenLaw}{n k:Nat}{q:VB}{loose:List Str}{XP:(Str->Option Value)->Heap->Prop}{YP:World->Heap->Prop}{d:DefRec}{K:Params->W.Frag}{sp:World->List (Addr×Addr)->Sp}{x:Str}{ts:List Addr}
  (hn:l.most=some n) (hn2:n <=sizeLine) (hdf:d.params.defaults=[]) (hr:Room k callerA)
  (hY:∀ (w:VF) (h:VM),YP w h->(K w.params).In h) (hT:∀ (w:VF) (h:VM),YP w h->∀P∈ts,h.get? P=some (W.tabObj #[]))
  (F : ∀ (w : World) (mg : Str -> Option Value) (fa : Addr) (h : Heap), (K w.params).In h -> h.Ns mainGlobals mg -> mg d.name = some (.ref fa) ->
   ∃ (cts:List (Addr×Addr)) (fd:VD),(∀x∈cts,x.2∈ts/\W.codeHdIn (K w.params) x.1 x.2=true)/\W.noTabs (K w.params)=true/\(∀ (s:VC) (u:VH),BindsTo s fd ⟨[u],[]⟩ [(x,u)])/\
    ∀ base : Heap, (K w.params).In base -> base.Ns mainGlobals mg -> (∀ x ∈ cts, JG mg base x.1 x.2) -> VW l.prog w (K w.params) mg base WK k fa fd [x] (sp w cts))
  (hsp:∀ (w:VF) (cts:List (Addr×Addr)) (H:Hp) (a:VI) (ns:VJ),ns.length <=n->(∀x∈cts,H x.2=some (.tbl #[]))->VZ (K w.params) H a (ns.map V.int)->sp w cts [.ref a] H (fun v _=>v= .bl true) fun _ _ _=>False):
  W.WalkO q loose XP YP l.row.toRowW d [] (fun f vs=>PySem.call f vs):=by
 refine Att.attach_call hn hdf fun w s₀ s₁ mg mb fa o pm cd doc a vs ns G Y ho hd hcd y p j i z=>?_
 have KX:=hY w _ Y;obtain⟨cts,fd,e,r,hb,hF⟩:=F w mg fa _ KX G.T.g y;exact nD (cts:=cts) KX G.T.g G.T.b G.T.builtins G.T.nolimit z G.T.bmain (fun x c=>W.codeHd_of_K KX (e x c).2) (fun x c=>hT w _ Y x.2 (e x c).1) (fun x c=>SQ KX (hT w _ Y x.2 (e x c).1) r) p j (Yu i hn2) hr hF hb fun H h1 hS=>hsp w cts H a ns i h1 hS
theorem Ny.max{P:VB}{w:VF}{K:VG}{mg:Vx}{base:VM}{q m:Str}{st:Stmt}{f C c T:VI}{k:Nat}{ps:List Str}{sp:Sp}(E:Ny P w K mg base){cn:Str}(c':CF K cn C)(g:MA K C m q st f c T)(h:∀{fd},Nw K m q st f fd (.ref c)->VW P w K mg base (N4 P w) k f fd ps sp)
  (hb:∀ (kV doc pm:VH) (an:Option Addr) (cdv ct:VH) (us:VL),us.length=ps.length->bindArgs (W.fnOf m q (NV st) (VX st) (VO st) .none kV doc pm an cdv ct) ⟨us,[]⟩=pure (ps.zip us)):MW P w K mg base C m k ps [] sp:=by
 obtain⟨j,h1,i,e,kV,dc,pm,an,ct,d,h2,b,a,_⟩:=g;exact⟨f,_,[],h ⟨i,e,kV,dc,pm,an,ct,d,rfl,h2,b⟩,c'.2.1,⟨j,h1,a⟩,(BL h2 b a).binds hb,.nil⟩
end L2
namespace L2
open PySem PySem.Spec PyProof.Rows PySem.W
section
variable{α:Type}{N:Nat}{lt:Nat->Nat->Bool}
def Ra(lt:Nat->Nat->Bool):KasT α->α
 | .ret a=>a
 | .ask i j k=>Ra lt (k (lt i j))
theorem Nv.run{Q:α->Prop}:∀{t:KasT α},Nv N lt t Q->Nv N lt t fun a=>Q a/\a=Ra lt t
 | .ret _,h=>⟨h,rfl⟩
 | .ask i j k,h=>⟨h.1,h.2.1,Nv.run (t:=k (lt i j)) h.2.2⟩
theorem Nv.cong{lt':Nat->Nat->Bool}{Q:α->Prop}(e:∀i j,i < N->j < N->lt i j=lt' i j):∀{t:KasT α},Nv N lt t Q->Ra lt t=Ra lt' t
 | .ret _,_=>rfl
 | .ask i j k,h=>by
  show Ra lt (k (lt i j))=Ra lt' (k (lt' i j));rw[<-e i j h.1 h.2.1];exact Nv.cong e h.2.2
def Mz(N:Nat)(lt:Nat->Nat->Bool):List Nat:=if N < 2 then List.range N else(Ra lt (kas_sort N)).toList
end
section
variable{X:Cx}{q:Str}{params:Arguments}{body:VN}{scope:Scope}{f:VI}{y:Str}{N':List Str}{caps:List (Option Nat)}{te:TE}{k:Nat}{σ:St}{pins:VA}{A:VE}{E:Vy}{O:KeyOrd}{d:O.α}{RA:Hp->V->O.α->Prop}{c:List O.α}
theorem yN{D kS:VI}{e1:Nat}{vs ks:VL}{xs kv:List V}{H:Hp}{s:VC}{κ:SortKind}{n':Nat}{P:PySem.Fin->Shared->Prop}(I:VV X pins σ H s)(hD:H D=some (.frz (seqObj "list" #[] e1) HT))(n4:∀o u,X.H₀ D≠some (.frz o u))(hne:kS≠D)
  (hk:H kS=some (.lst kv)) (ek:s.heap.get? kS=some (seqObj "list" ks.toArray n')) (hkl:ks.length=vs.length) (rv:W2 xs vs) (hz:vs.length < 64) (hu:A.units < cLine)
  (S:Rm X.prog X.w s.heap O (fun i=>c.getD i d) κ ks)
  (h:∀ (p:List Nat) s' H',p.Perm (List.range xs.length)->p=Mz xs.length (NG O fun i=>c.getD i d)->VV X pins σ H' s'->H' D=some (.lst (p.map fun i=>xs.getD i .non))->(∀b,b≠kS->b≠D->∀o,H b=some o->H' b=some o)->P (.done (.ret .none)) s'):
  wpAny (model X.prog X.w) A (ksk_end D false vs.toArray e1 (.ref kS) ks.toArray) P E s:=by
 have n:xs.length=vs.length:=rv.length;have g:∀ (p:List Nat) (st:SortSt),p.Perm (List.range vs.length)->p=Mz vs.length (NG O fun i=>c.getD i d)->(arrOf st).map (·.2)=List.toArray (p.map fun i=>vs.getD i Value.none)->failedOf st=none->wpAny (model X.prog X.w) A (ksk_tail D false e1 (.ref kS) st) P E s:=fun p st pm v y hf=>by
  have hb:∀i∈p,i < xs.length:=fun i hi=>by have:=pm.mem_iff.mp hi;simp at this;lia
  have pl:p.length=vs.length:=by rw[pm.length_eq,Ug]
  unfold ksk_tail;dsimp only;rw[y];refine Y0 (XE ek rfl ?_ (by rw[Yb,YE];lia) (Yh _));have I1:=I.lset (l:=kS) (ys:=[]) (its':=[]) (f:=fun _=>#[]) (t':=s.toks) hk ek rfl .nil (Yh _);refine Y0 (XY ?_);have r:upd H kS (.lst []) D=some (.frz (seqObj "list" #[] e1) HT):=by rw[Wh (Ne.symm hne)];exact hD
  have q:=I1.hok.frz r;refine Y0 (UI q rfl ?_);have I2:=I1.retag (u1:=.lst []) r (fun _ z=>by cases z) (fun _ z=>by cases z) (fun _ z=>by cases z) n4 ⟨Yh _,[],e1,.nil,q⟩;refine Y0 (XE q rfl ?_ (Yh _) (by simp only[Bool.false_eq_true,if_false];rw[Yb,List.length_map,pl,YE];lia));have I3:=I2.lset (l:=D) (ys:=p.map fun i=>xs.getD i .non) (its':=p.map fun i=>vs.getD i Value.none) (f:=fun _=>List.toArray (p.map fun i=>vs.getD i Value.none)) (t':=s.toks) WU q rfl (IT rv p hb) (by rw[List.length_map,pl,YE];lia);rw[hf];simp only[UT,Bool.false_eq_true,if_false];exact Y4 (h p _ _ (by rw[n];exact pm) (by rw[n];exact v) I3 WU fun b h1 h2 o e=>by rw[Wh h2,Wh h2,Wh h1];exact e)
 unfold ksk_end;simp only[Bool.false_eq_true,if_false]
 by_cases h2:vs.toArray.size < 2
 .rw[Y9 h2,Y9 h2];refine Y0 (Y4 ?_);rw[StateT.run_pure];refine Y0 (Y4 ?_);rw[Yb]at h2;exact g (List.range vs.length) _ (.refl _) (by unfold Mz;rw[Y9 h2]) (nI hkl) rfl
 .rw [Y2 h2, Y2 h2];rw [Yb] at h2;refine Y0 (YC (S.kind A s (fun κ' s' => κ' = κ /\ s' = s) (fun _ _ z => z) (by lia) ⟨rfl, rfl⟩) ?_ fun _ _ x => x.elim);rintro _ _ ⟨rfl, rfl⟩;refine Y0 (YC (kat_run (E := E) (Q := fun a s' => ∃ p : Array Nat, s' = _ /\ arrOf a = p.map (kas_item (ks.toArray.zip vs.toArray)) /\ failedOf a = none /\ Wn vs.length p /\ p.toList = Mz vs.length (NG O fun i => c.getD i d)) (G := fun p s' => Wn vs.length p /\ p.toList = Mz vs.length (NG O fun i => c.getD i d) /\ s' = _)
   hkl (by lia) (by lia) (fun p' a s' a1 a2 a3 a4=>⟨p',a4.2.2,a2,a3,a4.1,a4.2.1⟩)
   (Nv.wp (N := vs.length) (lt := NG O fun i => c.getD i d) (Q := fun p => Wn vs.length p /\ p = Ra (NG O fun i => c.getD i d) (kas_sort vs.length)) (fun i j C hi hj hC => S.cmp A _ i j C hu (fun _ _ z => z) (by lia) (by lia) hC) (fun p hp => ⟨hp.1, by unfold Mz; rw [Y2 h2, hp.2], rfl⟩) (Bk (by lia) (Q := fun p => Wn vs.length p) fun p b1 _ => b1).run)) ?_ fun _ _ e => e)
  rintro⟨⟨⟩,a⟩ s' ⟨p,rfl,har,hf,pm,v⟩;exact g p.toList a (Xq.mp pm) v (by rw[kat_snds hkl har]) hf
end
section
variable{X:Cx}{q:Str}{params:Arguments}{body:VN}{scope:Scope}{f:VI}{y:Str}{N':List Str}{caps:List (Option Nat)}{te:TE}{k:Nat}{σ:St}{pins:VA}{A:VE}{E:Vy}{O:KeyOrd}{d:O.α}{RA:Hp->V->O.α->Prop}{RV:Heap->Value->O.α->Prop}{κ:SortKind}{c:List O.α}
theorem tM{D:VI}{n:Nat}{xs:List V}{vs:VL}{H:Hp}{s:VC}{P:PySem.Fin->Shared->Prop}(I:VV X pins σ H s)(hD:H D=some (.lst xs))(n4:X.s₀.heap.objs.size <=D)(eD:s.heap.get? D=some (seqObj "list" vs.toArray n))(rv:W2 xs vs)(hz:xs.length < 64)
  (v:Nc X q params body scope H f) (S:B6 X y N' scope caps) (hbind:∀cl pm cv ctv u,bindArgs (W.kla_fn "<lambda>" q params body scope cl pm cv ctv) ⟨[u],[]⟩=pure [(y,u)])
  (hb:∀ (f c':VI) (cl:List (Str×Addr)) (A:VE) (outer:List Env) (s:VC) (H:Hp) (E:XK),Room k (A.deeper (W.envX q scope s.heap.objs.size f (.ref c') cl))->PE (MU X.prog X.w X.K X.mg X.base (y::N') q scope f (.ref c') cl A outer s H E) body te)
  (hfn:∀x,X.fn x=true) (hr:Room (k+ 1) A) (hA:A.frames=X.A.frames) (mono:∀{G G' v p},Jr G G'->RA G v p->RA G' v p)
  (hv:∀{s H x v p},VV X pins σ H s->W9 x v->RA H x p->RV s.heap v p)
  (ask:∀{vs:VL} {c:List O.α} {h:VM},(∀ (i:Nat) v p,vs[i]?=some v->c[i]?=some p->RV h v p)->vs.length=c.length->Rm X.prog X.w h O (fun i=>c.getD i d) κ vs)
  (hc:xs.length=c.length) (ht:∀ (j:Nat) x p,xs[j]?=some x->c[j]?=some p->∀G,Jr H G->te (some x::Ws caps σ) G (fun v G'=>VP G G'/\RA G' v p))
  (h:∀ (p:List Nat) s' H',p.Perm (List.range xs.length)->p=Mz xs.length (NG O fun i=>c.getD i d)->VV X pins σ H' s'->H' D=some (.lst (p.map fun i=>xs.getD i .non))->(∀b,b≠D->∀o,H b=some o->H' b=some o)->P (.done (.ret .none)) s'):
  wpAny (model X.prog X.w) A (ksk_tree D (.ref f) false) P E s:=by
 have hlen:xs.length=vs.length:=rv.length;have hn4:∀o u,X.H₀ D≠some (.frz o u):=fun o u z=>by
  have:=I.base.frzs D o u z;rw[hD]at this;cases this
 unfold ksk_tree;refine Y0 (listItems_at eD rfl ?_);refine Y0 (XE eD rfl ?_ (by rw[Yb,YE];lia) (Yh _));have I1:=I.lset (l:=D) (ys:=[]) (its':=[]) (f:=fun _=>#[]) (t':=s.toks) hD eD rfl .nil (Yh _);obtain⟨a,eD1⟩:∃a,(s.heap.update D (Obj.mapSeq fun _=>#[])).get? D=some (seqObj "list" #[] a):=⟨_,get?_update_seq eD (fun _=>#[])⟩;refine Y0 (UI eD1 rfl ?_);refine Y0 (Vj ?_ (by show vs.length <=_;rw[YE];lia));have I2:=I1.kept (h':=(s.heap.update D (Obj.mapSeq fun _=>#[])).push (seqObj "tuple" vs.toArray 0)) (t':=s.toks) (fun b u e=>Y3 _ e);refine Y0 (Uo ?_ (Yh _));have I3:=I2.lnew (ys:=[]) (its:=[]) (t':=s.toks) .nil (Yh _);refine YY ?_;obtain⟨kS,ab⟩:∃kS,kS=((s.heap.update D (Obj.mapSeq fun _=>#[])).push (seqObj "tuple" vs.toArray 0)).objs.size:=⟨_,rfl⟩;have g:upd H D (.lst []) kS=none:=by rw[ab];exact I2.fresh
 have r:kS≠D:=fun z=>by rw[z,WU]at g;cases g
 have I3':VV X pins σ (upd (upd H D (.lst [])) kS (.lst [])) {s with heap:=((s.heap.update D (Obj.mapSeq fun _=>#[])).push (seqObj "tuple" vs.toArray 0)).push (seqObj "list" #[] 0),toks:=s.toks}:=by rw[ab];exact I3
 have hD3:upd (upd H D (.lst [])) kS (.lst []) D=some (.lst []):=by rw[Wh (Ne.symm r),WU]
 have eD3:(((s.heap.update D (Obj.mapSeq fun _=>#[])).push (seqObj "tuple" vs.toArray 0)).push (seqObj "list" #[] 0)).get? D=some (seqObj "list" #[] a):=Y3 _ (Y3 _ eD1);have I4:=I3'.retag (u1:=.frz (seqObj "list" #[] a) HT) hD3 (fun _ z=>by cases z) (fun _ z=>by cases z) (fun _ z=>by cases z) hn4 (HT.ok eD3);have kp:Jr H (upd (upd (upd H D (.lst [])) kS (.lst [])) D (.frz (seqObj "list" #[] a) HT)):=((Ay hD).trans (NX g).keepT).trans (Ay hD3);have sb:∀b,b≠D->∀o,H b=some o->upd (upd (upd H D (.lst [])) kS (.lst [])) D (.frz (seqObj "list" #[] a) HT) b=some o:=fun b hb o e=>by
  have e2:upd H D (.lst []) b=some o:=by rw[Wh hb];exact e
  rw[Wh hb];exact NX g b o e2
 show wpAny (model X.prog X.w) A (ksk_rest D (.ref f) false vs.toArray a (.ref ((s.heap.update D (Obj.mapSeq fun _=>#[])).push (seqObj "tuple" vs.toArray 0)).objs.size)) P E {s with heap:=((s.heap.update D (Obj.mapSeq fun _=>#[])).push (seqObj "tuple" vs.toArray 0)).push (seqObj "list" #[] 0),toks:=s.toks};rw[<-ab];unfold ksk_rest;refine Y0 (UV ?_)
 first
  |rw[List.forIn_toArray]
  |(rw[<-Array.forIn_toList];simp only[List.toList_toArray])
 refine Y0 (YC (mE (E:=E) (kS:=kS) (c:=c) (RA:=RA) S hbind hb hfn hr hA mono (fun u s R hx=>?_) xs vs [] _ _ rv I4 (by rw[Wh r,WU]) (by simp only[List.nil_append,List.length_nil,Nat.zero_add];lia) (v.keepT kp) (fun j x p a e2 G hG=>ht j x p a (by simpa using e2) G (kp.trans hG)) (by simpa using hc) (fun j v p e=>by simp at e)) (fun _ s' hd=>?_) fun _ _ x=>x)
 .refine Y0 (Um (YC hx (fun k s'' hk=>?_) fun _ _ hF=>hF.elim));exact Y0 (YC hk (fun _ s3 z=>Y4 ⟨rfl,z⟩) fun _ _ x=>x.elim)
 .obtain⟨aa,H',I5,k5,hk5,l5,b5,ra5⟩:=hd;obtain⟨hz5,ks,n5,r5,lk5,ek5⟩:=I5.lstM hk5;refine Y0 (listItems_at ek5 rfl ?_);have hD5:=b5 D (Ne.symm r) _ WU;refine yN (kv:=aa) (xs:=xs) (c:=c) (d:=d) (κ:=κ) I5 hD5 hn4 r hk5 ek5 (by lia) rv (by lia) (by have:=hr.un;lia) (ask (fun i v p a e2=>?_) (by lia)) fun p s6 H6 a1 a2 a3 a4 a5=>h p s6 H6 a1 a2 a3 a4 fun b hb o e=>?_
  .have hi:i < aa.length:=by have:=(Y5.mp a).1;lia
   obtain⟨u,hu,ru⟩:=r5.get (i:=i) (x:=aa[i]) (Y7 hi);rw[a]at hu;cases hu;exact hv I5 ru (ra5 i _ p (Y7 hi) e2)
  .by_cases hbk:b=kS
   .subst hbk;have:upd H D (.lst []) b=some o:=by rw[Wh hb];exact e
    rw[g]at this;cases this
   .exact a5 b hbk hb o (b5 b hbk o (sb b hb o e))
end
section
variable{X:Cx}{K:VG}{q:Str}{params:Arguments}{body:VN}{scope:Scope}{y:Str}{N':List Str}{caps:List (Option Nat)}{te:TE}{k:Nat}{c0 P:VI}
def IW(K:VG)(P:VI)(q:Str)(caps:List (Option Nat))(te:TE)(σ:St)(Q:VK)(x:V)(H1:Hp):Prop:=Ji H1 P q/\∀f G0,H1 f=none->WP P H1 G0->Ji G0 P q->∃ (p:VI) (xs:List V) (c:VJ),x= .ref p/\VZ K G0 p xs/\xs.length=c.length/\xs.length < 64/\
 (∀ (j:Nat) x p,xs[j]?=some x->c[j]?=some p->∀G,Jr G0 G->te (some x::Ws caps σ) G (fun v G'=>VP G G'/\v= .int p))/\
 ∀ (r:List Nat) l G,r.Perm (List.range xs.length)->r=Mz xs.length (NG DM fun i=>c.getD i (0:Int))->G0 l=none->VP G0 G->G l=some (.lst (r.map fun i=>xs.getD i .non))->Q (.ref l) G
def Fx(K:VG)(P:VI)(q:Str)(caps:List (Option Nat))(te:TE)(ta:TE):TE:=fun σ H Q=>ta σ H fun x H1=>IW K P q caps te σ Q x H1
theorem y0{e:VN}{ta:TE}{x:Str}{p pos kp lpos:Pos}(h:X.K=K)(hg:Gl X x)(hm:X.mg x=none)(hv0:bootBuiltins x=some (.builtin "sorted"))(ha:PE X e ta)(lc:JG X.mg X.base c0 P)(hcode:X.env.code= .ref c0)(hq:X.env.qual++"<lambda>"=q)
  (S:B6 X y N' scope caps) (hdef:defaultsOf params X.env=([],[])) (hbind:∀cl pm cv ctv u,bindArgs (W.kla_fn "<lambda>" q params body scope cl pm cv ctv) ⟨[u],[]⟩=pure [(y,u)])
  (hb:∀ (f c':VI) (cl:List (Str×Addr)) (A:VE) (outer:List Env) (s:VC) (H:Hp) (E:XK),Room k (A.deeper (W.envX q scope s.heap.objs.size f (.ref c') cl))->PE (MU X.prog X.w X.K X.mg X.base (y::N') q scope f (.ref c') cl A outer s H E) body te)
  (hfn:∀x,X.fn x=true) (hr:Room (k+ 3) X.A)
  (hn:x≠"__name__":=by decide) (hdb:(x==("__debug__":Str))=false:=by decide)
  (he:backTo pos (starEach [e] X.env)=(false,eval e X.env)::backTo pos (starEach [] X.env):=by rfl) (hs:starEach [e] X.env=(false,eval e X.env)::starEach [] X.env:=by rfl)
  (hpl:(backTo pos (starEach [e] X.env)).any (·.1)=false:=by rfl):
  PE X (.Call (.Name x p) [e] [⟨some "key",.Lambda params body scope lpos,kp⟩] pos) (Fx K P q caps te ta):=by
 subst h;intro pins s σ H Q I h;refine YN (GI I hg hm hv0 ?_ hn hdb);have h':Mu ta D7 σ H (fun vs H1=>match vs with|[x]=>IW X.K P q caps te σ Q x H1|_=>False):=h;refine callWith_kw (Wj (VR ha VT hs pos pins s σ H _ I h') fun us s1 ⟨vs,H1,I1,r,a⟩=>?_) he hpl;cases r with
 |nil=>exact False.elim a
 |cons ru rr=>
 cases rr with
 |cons _ _=>exact False.elim a
 |nil=>
 rename_i x0 u0 hap
 have a:IW X.K P q caps te σ Q x0 H1:=a;obtain⟨tb,a⟩:=a;have hl:Mu (CD X P q params body scope) D7 σ H1 (fun zs H2=>∃f,zs=[.ref f]/\H1 f=none/\WP P H1 H2/\Ji H2 P q/\Nc X q params body scope H2 f):=⟨tb,fun f G a1 a2 a3 a4=>⟨f,rfl,a1,a2,a3,a4⟩⟩;refine Wj (Ik (Mj lc hcode hq S.vis hdef) L7 pos pins s1 σ H1 _ I1 hl) fun ws s2 zz=>?_;rcases zz with⟨zs,H2,I2,rz,q2⟩
 obtain⟨f,rfl,f1,f2,f3,v⟩:=q2;obtain⟨p,xs,c,rfl,hx,hc,hz,ht,hQ⟩:=a f H2 f1 f2 f3;obtain⟨w,rfl,rw⟩:=DO rz;cases ru;cases rw;obtain⟨vs,n,pl,hz2⟩:=I2.list hx;have hlen:xs.length=vs.length:=n.length;show wpAny (model X.prog X.w) X.A (call (.builtin "sorted") [.ref p] [(Str.ofString "key",.ref f)]) (EP X pins σ Q) X.xe s2;refine call_function_entry_kw kind_sorted plain_sorted entry_sorted (ksk_s1 _ _) ?_;unfold Builtin.«sorted»;refine Y0 (m:=checkCount "sorted" 1 1 _) (Y4 ?_);refine Y0 (collect_list pl.isList ?_ (by rw[YE];omega));refine Y0 (Uo ?_ (by rw[YE];omega));obtain⟨h1,l⟩:∃h1,h1=(s2.heap.push (seqObj "list" #[] 0)).update s2.heap.objs.size (Obj.mapSeq (·++vs.toArray)):=⟨_,rfl⟩;have kp1:∀b o,s2.heap.get? b=some o->h1.get? b=some o:=fun b o e=>by
  have i:b < s2.heap.objs.size:=Y8 e;rw[l,UD _ _ _ _ (Yi i),Xg _ _ _ (Yi i)];exact e
 have I3:=I2.kept (h':=h1) (t':=s2.toks) kp1;have I4:=I3.lnew (ys:=xs) (its:=vs) (t':=s2.toks) n hz2;have g:H2 h1.objs.size=none:=I3.fresh;rw[<-l];refine Y0 (YY (wpAny_call_entry_kw slot_list_sort ⟨_,Yj _ rfl,rfl⟩ entry_list_sort ?body (ksk_l1 _ _)))
 case body=>
  show wpAny (model X.prog X.w) X.A.in1.in1 (Builtin.«list.sort» ⟨[.ref h1.objs.size],[(Str.ofString "key",.ref f)]⟩) _ _ _;rw[ksk_t1];refine tM (RA:=QT) (RV:=fun _ v q=>∃t,v= .int q t) (κ:=oneType') (O:=DM) (c:=c) (d:=(0:Int)) I4 WU (Yu I3.sz (Y1 _)) (Yj _ rfl) n hz (v.keepT (NX g).keepT) S hbind hb hfn (by have:=hr.in1.in1;exact this) rfl (fun _ h=>h) (fun I r h=>by subst h;exact r) (fun hp hl=>Q0 hp hl) hc (fun j x p e1 e2 G hG=>ht j x p e1 e2 G ((NX g).keepT.trans hG)) fun r s' H' a1 a2 a3 a4 a5=>⟨_,rfl,?_⟩
  have fb:∀b o,H2 b=some o->H' b=some o:=fun b o e=>by
   have hb:b≠h1.objs.size:=fun z=>by rw[z,g]at e;cases e
   exact a5 b hb o (by rw[Wh hb];exact e)
  exact Y4 ⟨_,rfl,.ref h1.objs.size,H',a3,rfl,hQ r _ H' a1 a2 g fb a4⟩
end
section
variable{X:Cx}{K:VG}
theorem Zx(hc:X.calm=true)(hu:X.A.units+ 64 < cLine){pins:VA}{s:VC}{σ:St}{H:Hp}{Q:VK}{v0 a:VI}{kvs:List (Wu×V)}{c:List Str}(I:VV X pins σ H s)(ha:H a=some (.dK kvs))(hks:kvs.map (·.1)=c.map Sum.inr)(h64:c.length < 64)
  (KS:∀o es ep,s.heap.get? a=some o->o.ExactDict->o.data= .dict es ep->(a==sysModules)=false->∃T OK,KdlSrc X.prog X.w T v0 a es.size (fun i v=>∃e,es[i]?=some e/\v=e.key) OK/\OK s.heap)
  (q:∀ (ms:List Str) l G,ms.Perm c->ms.Pairwise (fun a b=>MD b a=false)->H l=none->VP H G->G l=some (.lst (ms.map V.str))->Q (.ref l) G):wpAny (model X.prog X.w) X.A (call (.builtin "sorted") [.ref v0]) (fun v s'=>EP X pins σ Q v s') X.xe s:=by
 obtain⟨z,y,vs0,r,o,es,ep,h1,h2,h3,h4,h5,h6⟩:=OS I.hok ha;have hel:es.size=kvs.length:=by rw[<-Array.length_toList,h5.length,<-KV.length r]
 have hcl:c.length=es.size:=by
  have:=YH List.length hks;rw[List.length_map,List.length_map]at this;lia
 have hh:X.A.in1.handled=none:=I.ok.hd hc;refine UW kind_sorted plain_sorted entry_sorted (args_sorted1 _) ?_;unfold Builtin.«sorted»;refine Y0 (m:=checkCount "sorted" 1 1 _) (Y4 ?_);obtain⟨T,OK,KS,ok⟩:=KS o es ep h1 h2 h3 y;refine Y0 (kdu_collect (A:=X.A.in1) KS hh ok (by rw[hel];exact z) fun h' tk acc hk h=>?_);have I2:VV X pins σ H {s with heap:=h',toks:=tk}:=I.kept hk;obtain⟨vs,u⟩:∃vs,vs=acc.toList:=⟨_,rfl⟩;rw[<-u];have hvl:vs.length=es.size:=by rw[u,Array.length_toList];exact h.1
 have hpr:∀ (i:Nat) v p,vs[i]?=some v->c[i]?=some p->∃t,v=Value.str p t:=fun i v p hv hp=>by
  rw[u,XT]at hv;obtain⟨e,he,rfl⟩:=h.2 i v hv;have g:i < es.size:=(UQ.mp he).1;have hke:(kvs.map (·.1))[i]?=some (Sum.inr p):=by rw[hks,Yk,hp];rfl
  obtain⟨k',e1,e2⟩:=vI h5 (i:=i) (e:=e) (by rw[XT];exact he);rw[<-SI r]at e1;rw[hke]at e1;cases e1;have e2:RO (Sum.inr p) e.key=true:=e2;rcases Gp e2 with⟨j,t,e3,z⟩|⟨x,t,e3,z⟩
  .first|(injection z;done)|(injection e3;done)|exact nomatch z|exact nomatch e3
  .exact⟨t,by first|(injection e3 with e3;rw[e3];exact z)|(injection z with z;rw[z];exact e3)⟩
 have hsl:vs.length <=sizeLine:=by rw[hvl,<-hcl,YE];lia
 refine Y0 (Uo ?_ hsl);have f:(h'.push (seqObj "list" vs.toArray 0)).get? h'.objs.size=some (seqObj "list" vs.toArray 0):=Yj _ rfl;have keep:∀b o,h'.get? b=some o->(h'.push (seqObj "list" vs.toArray 0)).get? b=some o:=fun b o q=>Y3 _ q
 have S:Rm X.prog X.w h' Pm (fun i=>c.getD i "") oneType' vs:=yZ hpr (by lia);refine Y0 (YY (Xi slot_list_sort ⟨_,f,rfl⟩ entry_list_sort (O0 (h₀:=h') f (Y1 _) keep S (by lia) (by show X.A.units+ 1+ 1 < cLine;lia) fun p a1 a2=>⟨_,rfl,?_⟩) (args_list_sort _)));obtain⟨e,he⟩:=sortedHeap_at (n:=0) (vs:=vs) (out:=(List.map (fun i=>vs.getD i Value.none) p.toList).toArray) f;have hf:H h'.objs.size=none:=I2.hok.fresh (Y1 _);have d:p.toList.Perm (List.range c.length):=by rw[show c.length=vs.length by lia];exact Xq.mp a1
 obtain⟨_,e2⟩:=dU d;have hvals:W2 ((p.toList.map fun i=>c.getD i "").map V.str) (p.toList.map fun i=>vs.getD i Value.none):=by
  have hb:∀i∈p.toList,i < c.length:=fun i hi=>by simpa using d.mem_iff.mp hi
  have:∀r:List Nat,(∀i∈r,i < c.length)->W2 ((r.map fun i=>c.getD i "").map V.str) (r.map fun i=>vs.getD i Value.none):=by
   intro r
   induction r with
   |nil=>exact fun _=>.nil
   |cons i r ih=>
    intro hr;refine .cons ?_ (ih fun j hj=>hr j (.tail _ hj));have hi:=hr i (.head _);have g1:vs[i]?=some (vs.getD i Value.none):=by rw[Y7 (by lia)];simp[show i < vs.length by lia]
    have g2:c[i]?=some (c.getD i ""):=by rw[Y7 hi];simp[hi]
    exact hpr i _ _ g1 g2
  exact this _ hb
 have hln:((p.toList.map fun i=>c.getD i "").map V.str).length=c.length:=by rw[List.length_map,List.length_map,d.length_eq,Ug]
 refine Y4 ⟨_,rfl,.ref h'.objs.size,upd H h'.objs.size (.lst ((p.toList.map fun i=>c.getD i "").map V.str)),I2.laid (t':=tk) (fun b o z'=>?_) (Y1 _) ?_,rfl,q (p.toList.map fun i=>c.getD i "") _ _ e2 (Qy a1 a2) hf (NX hf) WU⟩
 .have g:=Y8 z';rw[sortedHeap_old (Yi g) (by rw[Xx];exact Xf g)];exact Y3 _ z'
 .exact⟨by rw[hln,YE];lia,_,e,hvals,he⟩
def HY:List V->Hp->VK->Prop:=fun as H Q=>∃ (a:VI) (kvs:List (Wu×V)) (c:List Str),as=[V.ref a]/\H a=some (.dK kvs)/\kvs.map (·.1)=c.map Sum.inr/\c.length < 64/\
 ∀ (ms:List Str) l G,ms.Perm c->ms.Pairwise (fun a b=>MD b a=false)->H l=none->VP H G->G l=some (.lst (ms.map V.str))->Q (.ref l) G
theorem xG(hc:X.calm=true)(hu:X.A.units+ 64 < cLine):Wr X (.builtin "sorted") HY:=by
 intro pins s σ H xs i Q I r h;obtain⟨a,kvs,c,rfl,f,b,d,q⟩:=h;obtain⟨u,rfl,e⟩:=DO r;cases e;exact Zx hc hu I f b d (fun o es ep h1 h2 g y=>⟨_,_,SX y h2 g,h1⟩) q
def Iz(K:VG):List V->Hp->VK->Prop:=fun as H Q=>∃a,as=[V.ref a]/\VZ K H a []/\∀l G,H l=none->VP H G->G l=some (.lst [])->Q (.ref l) G
theorem tX{K:VG}(hu:X.A.units+ 64 < cLine)(h:X.K=K):Wr X (.builtin "sorted") (Iz K):=by
 refine(Za (O:=DM) (d:=(0:Int)) (κ:=oneType') (RA:=fun _ x q=>x= .int q) (RV:=fun _ v q=>∃t,v= .int q t) h hu (fun I r e=>by subst e;exact r) (fun b c=>Q0 b c)).imp fun i H Q h=>?_
 obtain⟨a,rfl,f,q⟩:=h;exact⟨a,[],[],rfl,f,rfl,nofun,by decide,fun r l G b _ g s e=>q l G g s (by rw[V5.mp b.length_eq]at e;exact e)⟩
end
end L2
namespace Mine
open PySem L2 PyProof.Rows
local macro_rules | `(tactic| walk_at"e")=>`(tactic| exact ⟨rfl,rfl,rfl,by decide +kernel,rfl,by decide +kernel,by decide +kernel⟩)
local macro_rules | `(tactic| walk_at"rd") => do
 let f:=fun(s:String)=>(s.splitOn " ").toArray.mapM fun x=>`(Lean.Parser.Tactic.simpLemma|$(Lean.mkIdent x.toName):term)
 let a<-f "PP Bool.not_true Bool.not_false Ej Ct BJ Gk ED Ei EK Cq BK BN CS AX BY Ey Ew CM Ch Am Cw AZ HQ IU Ow I0 Ph OF Pd Oc OR Nat.reduceAdd HY Iz Fx Fn FG Lc IF A3 CD Kt KH Ki Ah Fo HN Kx CU Ky HJ Rz GJ AF tC Gg L5 Bc tB KP L4 Rx Mu D7 BG IA Ic EC EI El CO Co AC C8 Cb Hw FD CZ Ln Hi rI DC rU Av Cf Ix K6 Ig RM Em RI Hg Ws BE EZ FK Iw IH C6 L2.start KD Iv AV Au AN AK Ac Ar L3 Aw Ae Kh Fj FU KJ C0 Ho Im Li Fp Lo HI IJ K1 Kw AI FJ Bo CY Ll Ke List.map_cons List.map_nil List.length_cons List.length_nil List.cons_append List.nil_append List.getElem?_cons_zero List.getElem?_cons_succ List.set_cons_zero List.set_cons_succ Option.bind_some Option.bind_none Option.join_some List.replicate"
 let b<-f "uT mG jP nL mK wA"
 let c<-f "Rg Be Dd Om Ec Qn Qx FE L6 FB IN Nat.reduceSub List.append_nil Option.some.injEq V.int.injEq V.bl.injEq V.str.injEq V.ref.injEq V.ty.injEq exists_eq_left' exists_eq_left exists_and_left and_assoc and_true true_and List.cons.injEq exists_eq exists_eq' exists_const Nat.reduceLT Nat.reduceLeDiff if_true Bool.false_eq_true if_false reduceCtorEq false_and and_false exists_false jJ Zf nZ dY"
 `(tactic|((try dsimp only[$b,*,$a,*]);(try dsimp only[mC]);(try simp only[$a,*,$c,*])))
local macro_rules | `(tactic| walk_at"wt") => `(tactic| dsimp only [Gk, Gg, Ej, BJ, I0, HQ, IU, List.getElem?_cons_zero, List.getElem?_cons_succ])
local macro_rules | `(tactic| walk_at"ne") => `(tactic| first | assumption | (apply Ne.symm; assumption) | grind [VP, WP])
local macro_rules | `(tactic| walk_at"hp") => `(tactic| first | assumption | exact WU | (refine VP.get (by assumption) ?_; walk_at"hp") | (refine WP.get (by assumption) ?_ ?_; (· walk_at"hp"); (· walk_at"ne")))
def WW(i:Nat):Stmt:=PySem.Challenge.pw_pieceways_k72_what_a_post_refuses.main.body.getD i (.Pass ⟨0,0,0,0⟩)
structure Cn(mg:Vx):Prop where
 c_MOST_NUMBER:∃t,mg "MOST_NUMBER"=some (.int 65535 t)
 c_MOST_BYTE:∃t,mg "MOST_BYTE"=some (.int 255 t)
 c_MOST_SIGNS:∃t,mg "MOST_SIGNS"=some (.int 8 t)
 c_MOST_BYTES:∃t,mg "MOST_BYTES"=some (.int 4000 t)
 c_LEAST_WIDTH:∃t,mg "LEAST_WIDTH"=some (.int 8 t)
 c_MOST_WIDTH:∃t,mg "MOST_WIDTH"=some (.int 5000 t)
 c_MOST_WIDTHS:∃t,mg "MOST_WIDTHS"=some (.int 20 t)
 c_STEP:∃t,mg "STEP"=some (.int 8 t)
section
variable{P:VB}{w:VF}{K:VG}{mg:Vx}{base:VM}
inductive AO(vs:List V)(H:Hp)(Q:VK)(E:XK):Prop|mk (x n:_) (_:vs=[x]) (_:WY H x=some n) (_:Q (.bl (Ds x)) H)
abbrev HK:Stmt:=WW 12
theorem jA:WQ ["value"] ["value"] (VO HK):=by walk_at"e"
theorem n9{f:VI}{fd:VD}(F:WX K "is_whole" "is_whole" HK f fd)(B:Bt mg):VW P w K mg base WK 1 f fd ["value"] AO:=by
 refine F.ok jA (fun vs H Q E h=>?_) (fun a A outer s H vs Q E b h=>?_)
 .obtain⟨x,n,rfl,_⟩:=h;rfl
 .obtain⟨x,n,rfl,ty,q⟩:=h;refine⟨_,(Wc (WL (M8 (N3 (DJ "int") B.isinstance (Wb 0 (VR (hs:=Wq) (Dv (v:=.ty "int") rfl B.bint (by rfl) rfl) VT))) (MT (uP (N3 (DJ "bool") B.isinstance (Wb 0 (VR (hs:=Wq) (Dv (v:=.ty "bool") rfl B.bbool (by rfl) rfl) VT)))))))),?_⟩;walk_at"rd";refine⟨n,ty,?_⟩;rw[Zg ty];refine GN (fun h=>⟨n,ty,?_⟩) (fun h=>?_)
  .rw[Lx ty];have e:(!GO x)=Ds x:=by cases x <;> first|rfl|(simp[Ds,GO]at h)
   rw[e];exact q
  .have e:Ds x=false:=by cases x <;> first|rfl|(simp[Ds,GO]at h)
   rw[e]at q;exact q
inductive Cc(vs:List V)(H:Hp)(Q:VK)(E:XK):Prop|mk (x n lo hi:_) (_:vs=[x,.int lo,.int hi]) (_:WY H x=some n) (_:Q (.bl (N1 x lo hi)) H)
abbrev Hu:Stmt:=WW 13
theorem mU:WQ ["value","low","high"] ["value","low","high"] (VO Hu):=by walk_at"e"
theorem mL{f:VI}{fd:VD}(F:WX K "is_whole_within" "is_whole_within" Hu f fd)(J8:JA P w K mg base "is_whole" 1 ["value"] [] AO):VW P w K mg base WK 2 f fd ["value","low","high"] Cc:=by
 refine F.ok mU (fun vs H Q E h=>?_) (fun b A outer s H vs Q E a h=>?_)
 .obtain⟨x,n,lo,hi,rfl,_⟩:=h;rfl
 .obtain⟨x,n,lo,hi,rfl,ty,q⟩:=h;refine⟨_,(Wc (WL (M8 (JT J8 a.m rfl (Wb 0 VT)) (MT (LS (Jp Dx) (Jp Dx) (VQ 1) (VQ 0) (VQ 2)))))),?_⟩;walk_at"rd";refine⟨x,n,rfl,ty,_,rfl,?_⟩;refine GN (fun h=>?_) (fun h=>?_)
  .cases x <;> first|(simp[Ds]at h;done)|skip
   rename_i i
   walk_at"rd"
   by_cases h1:lo <=i
   .simp only[h1,YX,if_true];simpa[N1,h1] using q
   .simp only[h1,YT,Bool.false_eq_true,if_false];simpa[N1,h1] using q
  .have e:N1 x lo hi=false:=by cases x <;> first|rfl|(simp[Ds]at h)
   rw[e]at q;exact q
inductive Fq(vs:List V)(H:Hp)(Q:VK)(E:XK):Prop|mk (x n:_) (_:vs=[x]) (_:WY H x=some n) (_:Q (.bl (GO x)) H)
abbrev Fb:Stmt:=WW 15
theorem vS:WQ ["value"] ["value"] (VO Fb):=by walk_at"e"
theorem uU{f:VI}{fd:VD}(F:WX K "is_truth" "is_truth" Fb f fd)(B:Bt mg):VW P w K mg base WK 1 f fd ["value"] Fq:=by
 refine F.ok vS (fun vs H Q E h=>?_) (fun a A outer s H vs Q E b h=>?_)
 .obtain⟨x,n,rfl,_⟩:=h;rfl
 .obtain⟨x,n,rfl,ty,q⟩:=h;refine⟨_,(Wc (WL (N3 (DJ "bool") B.isinstance (Wb 0 (VR (hs:=Wq) (Dv (v:=.ty "bool") rfl B.bbool (by rfl) rfl) VT))))),?_⟩;walk_at"rd";exact⟨n,ty,by rw[Lx ty];exact q⟩
inductive QJ(vs:List V)(H:Hp)(Q:VK)(E:XK):Prop|mk (x n:_) (_:vs=[x]) (_:WY H x=some n) (_:Q (.bl (N1 x 0 65535)) H)
abbrev KY:Stmt:=WW 16
theorem jO:WQ ["value"] ["value"] (VO KY):=by walk_at"e"
theorem j7{f:VI}{fd:VD}(F:WX K "is_number" "is_number" KY f fd)(T:Cn mg)(Wg:JA P w K mg base "is_whole_within" 2 ["value","low","high"] [] Cc):VW P w K mg base WK 3 f fd ["value"] QJ:=by
 refine F.ok jO (fun vs H Q E h=>?_) (fun b A outer s H vs Q E a h=>?_)
 .obtain⟨x,n,rfl,_⟩:=h;rfl
 .obtain⟨x,n,rfl,ty,q⟩:=h;refine⟨_,(Wc (WL (JT Wg a.m rfl (Wb 0 (MK W3 (VR (hs:=Wq) (Do rfl T.c_MOST_NUMBER) VT)))))),?_⟩;walk_at"rd";exact⟨x,n,0,65535,rfl,ty,q⟩
inductive Qz(vs:List V)(H:Hp)(Q:VK)(E:XK):Prop|mk (x n:_) (_:vs=[x]) (_:WY H x=some n) (_:Q (.bl (N1 x 0 255)) H)
abbrev F0:Stmt:=WW 18
theorem j4:WQ ["value"] ["value"] (VO F0):=by walk_at"e"
theorem Sy{f:VI}{fd:VD}(F:WX K "is_byte" "is_byte" F0 f fd)(T:Cn mg)(Wg:JA P w K mg base "is_whole_within" 2 ["value","low","high"] [] Cc):VW P w K mg base WK 3 f fd ["value"] Qz:=by
 refine F.ok j4 (fun vs H Q E h=>?_) (fun b A outer s H vs Q E a h=>?_)
 .obtain⟨x,n,rfl,_⟩:=h;rfl
 .obtain⟨x,n,rfl,ty,q⟩:=h;refine⟨_,(Wc (WL (JT Wg a.m rfl (Wb 0 (MK W3 (VR (hs:=Wq) (Do rfl T.c_MOST_BYTE) VT)))))),?_⟩;walk_at"rd";exact⟨x,n,0,255,rfl,ty,q⟩
inductive CV(vs:List V)(H:Hp)(Q:VK)(E:XK):Prop|mk (x n:_) (_:vs=[x]) (_:WY H x=some n) (_:(∀z,x= .str z->z.length <=100000)) (_:∀H',VP H H'->Q (.bl (N5 x)) H')
abbrev Ak:Stmt:=WW 17
theorem gO:WQ ["value"] ["value"] (VO Ak):=by walk_at"e"
theorem nR{f:VI}{fd:VD}(F:WX K "is_name" "is_name" Ak f fd)(T:Cn mg)(B:Bt mg):VW P w K mg base WK 1 f fd ["value"] CV:=by
 refine F.ok gO (fun vs H Q E h=>?_) (fun cdv A outer s H vs Q E hr h=>?_)
 .obtain⟨x,n,rfl,_⟩:=h;rfl
 .obtain⟨x,n,rfl,ty,hz,q⟩:=h;refine⟨_,(W1 (Jj (PW.pt (Mf (Nq (N6 (N3 (DJ "str") B.isinstance (Wb 0 (VR (hs:=Wq) (Dv (v:=.ty "str") rfl B.bstr (by rfl) rfl) VT))))) (Mr (Nq (Ko (Jp Dx) (Jp Dx) W3 (N3 wS B.len (Wb 0 VT)) (Do rfl T.c_MOST_SIGNS)))))) (Wc (WL TQ)) Jw) (Wc (WL (N3 (B8 (K:=K) rfl rfl) B.all (VR (hs:=Ef) (DL (N':=["sign"]) (caps:=[none]) (Me (sc:=VO Ak) (N:=["value"]) rfl rfl (by decide +kernel)) rfl (gF (VQ 0)) (fun _ _ _ _ _=>(Tg (i:=0) (TH (N:=["sign"]) rfl (by decide +kernel)) rfl (Or.inl rfl))) (fun _ _ _ _ _=>D5) (fun _ _ _ _ _=>(LS Oe Oe Wm (VQ 0) Wm))) VT))))),?_⟩;walk_at"rd";refine⟨n,ty,?_⟩;rw[nN ty];cases x <;> first
   |(simp only[F5,Bool.not_false,if_true];exact q H (VP.refl H))
   |skip
  rename_i z
  have j:=hz z rfl;simp only[F5,Bool.not_true,Bool.false_eq_true,if_false];walk_at"rd";refine⟨Wi j,?_⟩;have o:∀b,N5 (.str z)=b->∀H',VP H H'->Q (.bl b) H':=fun b e H' s=>e▸q H' s
  by_cases h1:1 <=z.length
  .have g:(1:Int) <=(z.length:Int):=by lia
   simp only[g,YX,if_true]
   by_cases h2:z.length <=8
   .have d:(z.length:Int) <=8:=by lia
    simp only[d,YX,Bool.not_true,Bool.false_eq_true,if_false];have u:z.cps.size=z.length:=rfl;obtain⟨r,a⟩:∃r:Nat->List V->L2.St->Hp->Prop,r=fun i ys σ' H1=>H1=H/\i <=z.cps.size/\ys=(z.cps.toList.take i).map (fun c=>V.bl (En c))/\∃v,σ'=[v]:=⟨_,rfl⟩
    refine SE r (by rw[a];exact⟨rfl,Yh _,by simp,none,rfl⟩) ?_ (by rw[u];exact Wi j) ?_ ?_ <;> rw[a]
    .rintro i ys σ' H1 ⟨_,hi,rfl,_⟩ _;simp only[List.length_map,YD];lia
    .intro i c ys σ' H1 y Zq;obtain⟨rfl,hi,rfl,v,rfl⟩:=Zq;rw[<-a];have l:i < z.cps.size:=(UQ.mp y).1;walk_at"rd";obtain⟨e1,e2⟩:=w6 c;rw[e1,e2];have et:z.cps.toList.take (i+ 1)=z.cps.toList.take i++[c]:=by
      rw[Yz];have:z.cps.toList[i]?=some c:=by rw[XT];exact y
      rw[this];rfl
     have eb:V.bl (En c)=V.bl (decide (97 <=c) && decide (c <=122)):=rfl
     by_cases k1:97 <=c
     .simp only[k1,YX,if_true];rw[a];exact⟨rfl,l,by rw[et,Yp,List.map_cons,List.map_nil,eb];simp[k1],_,rfl⟩
     .simp only[k1,YT,Bool.false_eq_true,if_false];rw[a];exact⟨rfl,l,by rw[et,Yp,List.map_cons,List.map_nil,eb];simp[k1],_,rfl⟩
    .rintro ys σ' H1 ⟨rfl,_,rfl,_⟩ p hp;walk_at"rd";refine⟨z.cps.toList.map En,VZ.of ?_,?_⟩
     .rw[WU];have:z.cps.toList.take z.cps.size=z.cps.toList:=by rw[YZ];simp
      rw[this,YB];rfl
     .refine o _ ?_ _ (VP.new (VP.refl _) hp);simp only[N5,h1,h2,YX,X8,UA];rfl
   .have d:¬(z.length:Int) <=8:=by lia
    simp only[d,YT,Bool.not_false,if_true];exact o _ (by simp[N5,h2]) H (VP.refl H)
  .have g:¬(1:Int) <=(z.length:Int):=by lia
   simp only[g,YT,Bool.false_eq_true,if_false,Bool.not_false,if_true,true_and,exists_eq_left'];exact o _ (by simp[N5,h1]) H (VP.refl H)
def WH(H:Hp)(x:V):Prop:=∀a xs,x= .ref a->H a=some (.lst xs)->xs.length <=100000/\∀y∈xs,∃n,WY H y=some n
inductive Qc(vs:List V)(H:Hp)(Q:VK)(E:XK):Prop|mk (x n:_) (_:vs=[x]) (_:WY H x=some n) (_:WH H x) (_:∀H',VP H H'->Q (.bl (Dk H x)) H')
abbrev Cs:Stmt:=WW 19
theorem jM:WQ ["value"] ["value"] (VO Cs):=by walk_at"e"
theorem vR{f:VI}{fd:VD}(F:WX K "is_body" "is_body" Cs f fd)(T:Cn mg)(B:Bt mg)(Ta:JA P w K mg base "is_byte" 3 ["value"] [] Qz):VW P w K mg base WK 4 f fd ["value"] Qc:=by
 refine F.ok jM (fun vs H Q E h=>?_) (fun cdv A outer s H vs Q E hr h=>?_)
 .obtain⟨x,n,rfl,_⟩:=h;rfl
 .obtain⟨x,n,rfl,ty,z,q⟩:=h;refine⟨_,(W1 (Jj (PW.pt (Mf (Nq (N6 (N3 (DJ "list") B.isinstance (Wb 0 (VR (hs:=Wq) (Dv (v:=.ty "list") rfl B.blist (by rfl) rfl) VT))))) (Mr (Nq (Ko (Jp Dx) (Jp Dx) W3 (N3 (Gu (DA (K:=K) rfl)) B.len (Wb 0 VT)) (Do rfl T.c_MOST_BYTES)))))) (Wc (WL TQ)) Jw) (Wc (WL (N3 (B8 (K:=K) rfl rfl) B.all (VR (hs:=Ef) (DL (N':=["part"]) (caps:=[none]) (Me (sc:=VO Cs) (N:=["value"]) rfl rfl (by decide +kernel)) rfl (TK (K:=K) rfl (VQ 0)) (fun _ _ _ _ _=>(Tg (i:=0) (TH (N:=["part"]) rfl (by decide +kernel)) rfl (Or.inl rfl))) (fun _ _ _ _ _=>D5) (fun _ _ _ _ _=>(JT Ta hr.m rfl (Wb 0 VT)))) VT))))),?_⟩;walk_at"rd";refine⟨n,ty,?_⟩;rw[Cv ty];cases hL:DY H x with
  |false=>
   simp only[Bool.not_false,if_true];have e:=uA hL;rw[e]at q;exact q H (VP.refl H)
  |true=>
   obtain⟨a,xs,rfl,c⟩:=CC hL;obtain⟨l,r⟩:=z a xs rfl c;rw[OU c]at q;simp only[Bool.not_true,Bool.false_eq_true,if_false];walk_at"rd";refine⟨xs,.inl (VZ.of c),?_⟩
   by_cases h1:1 <=xs.length
   .have g:(1:Int) <=(xs.length:Int):=by lia
    simp only[g,YX,if_true]
    by_cases h2:xs.length <=4000
    .have d:(xs.length:Int) <=4000:=by lia
     simp only[d,YX,Bool.not_true,Bool.false_eq_true,if_false];refine⟨⟨xs,VZ.of c⟩,?_⟩;obtain⟨o,b⟩:∃o:Nat->List V->L2.St->Hp->Prop,o=fun i ys σ' H1=>H1=H/\i <=xs.length/\ys=(xs.take i).map (fun y=>V.bl (N1 y 0 255))/\∃v,σ'=[v]:=⟨_,rfl⟩
     refine QG (xs:=xs) o (by rw[b];exact⟨rfl,Yh _,by simp,none,rfl⟩) ?_ (Wi l) ?_ ?_ <;> rw[b]
     .rintro i ys σ' H1 ⟨rfl,hi,rfl,_⟩ _;refine⟨VZ.of c,?_⟩;simp only[List.length_map,YD];lia
     .intro i y ys σ' H1 j Zq;obtain⟨rfl,hi,rfl,v,rfl⟩:=Zq;rw[<-b];have u:i < xs.length:=(Y5.mp j).1;obtain⟨m,hm⟩:=r y (Yd j);walk_at"rd";refine⟨y,m,rfl,hm,?_⟩;rw[b];refine⟨rfl,u,?_,_,rfl⟩;rw[Yz,j,YI,Yp,List.map_cons,List.map_nil]
     .rintro ys σ' H1 ⟨rfl,_,rfl,_⟩ p hp;walk_at"rd";refine⟨xs.map (fun y=>N1 y 0 255),VZ.of ?_,?_⟩
      .rw[WU,YZ (Y1 _),YB];rfl
      .have e:(xs.map (fun y=>N1 y 0 255)).all id=(decide (1 <=xs.length) && decide (xs.length <=4000) && xs.all (fun y=>N1 y 0 255)):=by
        simp only[h1,h2,YX,X8,UA];rfl
       rw[e];exact q _ (VP.new (VP.refl _) hp)
    .have d:¬(xs.length:Int) <=4000:=by lia
     simp only[d,YT,Bool.not_false,if_true];simp only[h2,YT,XQ,X1]at q;exact q H (VP.refl H)
   .have g:¬(1:Int) <=(xs.length:Int):=by lia
    simp only[g,YT,Bool.false_eq_true,if_false,Bool.not_false,if_true,true_and,exists_eq_left'];simp only[h1,YT,X1]at q;exact q H (VP.refl H)
def JE(H:Hp)(number sender goal body keep:V):Bool:=N1 number 0 65535 && (N5 sender && (N5 goal && (Dk H body && GO keep)))
structure AD(H:Hp)(number sender goal body keep:V):Prop where
 n:∃t,WY H number=some t
 s:∃t,WY H sender=some t
 sl:∀z,sender= .str z->z.length <=100000
 g:∃t,WY H goal=some t
 gl:∀z,goal= .str z->z.length <=100000
 b:∃t,WY H body=some t
 bp:WH H body
 k:∃t,WY H keep=some t
theorem Py{H H':Hp}(s:VP H H'){x:V}{n:String}(ty:WY H x=some n):Dk H' x=Dk H x:=by
 cases x with
 |ref a=>
  have ty:(H a).bind M0=some n:=ty;cases e:H a with
  |none=>rw[e]at ty;cases ty
  |some o=>
   show(match H' a with|some (.lst xs)=>_|_=>false)=(match H a with|some (.lst xs)=>_|_=>false);rw[s a o e,e]
 |_=>rfl
theorem WH.same{H H':Hp}(s:VP H H'){x:V}{n:String}(ty:WY H x=some n)(h:WH H x):WH H' x:=by
 intro a xs ex f;subst ex;have b:(H a).bind M0=some n:=ty;cases e:H a with
 |none=>rw[e]at b;cases b
 |some o=>
  have:=s a o e;rw[f]at this;cases this;obtain⟨h1,h2⟩:=h a xs rfl e;exact⟨h1,fun y c=>by obtain⟨m,d⟩:=h2 y c;exact⟨m,TN s d⟩⟩
inductive FS(vs:List V)(H:Hp)(Q:VK)(E:XK):Prop|mk (number sender goal body keep:_) (_:vs=[number,sender,goal,body,keep]) (_:AD H number sender goal body keep) (_:∀H',VP H H'->Q (.bl (JE H number sender goal body keep)) H')
abbrev Fk:Stmt:=WW 40
theorem uV:WQ ["number","sender","goal","body","keep"] ["number","sender","goal","body","keep"] (VO Fk):=by walk_at"e"
theorem S9{f:VI}{fd:VD}(F:WX K "are_shared_parts" "are_shared_parts" Fk f fd)(Ni:JA P w K mg base "is_number" 3 ["value"] [] QJ)(J9:JA P w K mg base "is_name" 1 ["value"] [] CV)
  (Tb:JA P w K mg base "is_body" 4 ["value"] [] Qc) (JF:JA P w K mg base "is_truth" 1 ["value"] [] Fq):VW P w K mg base WK 5 f fd ["number","sender","goal","body","keep"] FS:=by
 refine F.ok uV (fun vs H Q E h=>?_) (fun cdv A outer s H vs Q E i h=>?_)
 .obtain⟨a,b,c,d,e,rfl,_⟩:=h;rfl
 .obtain⟨y,x,go,bo,z,rfl,⟨⟨v,hn⟩,⟨u,hs⟩,o,⟨tg,hg⟩,p,⟨tb,n⟩,r,⟨tk,hk⟩⟩,q⟩:=h;refine⟨_,(Wc (WL (M8 (JT Ni i.m rfl (Wb 0 VT)) (M8 (JT J9 i.m rfl (Wb 1 VT)) (M8 (JT J9 i.m rfl (Wb 2 VT)) (M8 (JT Tb i.m rfl (Wb 3 VT)) (MT (JT JF i.m rfl (Wb 4 VT))))))))),?_⟩;walk_at"rd";unfold JE at q;refine⟨y,v,rfl,hn,_,rfl,GN (fun h1=>?_) (fun h1=>?_)⟩
  .refine⟨x,u,rfl,hs,o,fun H1 s1=>⟨_,rfl,GN (fun h2=>?_) (fun h2=>?_)⟩⟩
   .refine⟨go,tg,rfl,TN s1 hg,p,fun H2 s2=>⟨_,rfl,GN (fun l=>?_) (fun l=>?_)⟩⟩
    .have g:=s1.trans s2;refine⟨bo,tb,rfl,TN g n,r.same g n,fun H3 s3=>⟨_,rfl,GN (fun j=>?_) (fun j=>?_)⟩⟩
     .refine⟨z,tk,rfl,TN (g.trans s3) hk,?_⟩;rw[Py g n]at j;simp only[h1,h2,l,j,X8]at q;exact q _ (g.trans s3)
     .rw[Py g n,Ur]at j;simp only[h1,h2,l,j,X8,X1]at q;exact q _ (g.trans s3)
    .rw[Ur]at l;simp only[h1,h2,l,X8,X1]at q;exact q _ (s1.trans s2)
   .rw[Ur]at h2;simp only[h1,h2,X8,X1]at q;exact q _ s1
  .rw[Ur]at h1;simp only[h1,X1]at q;exact q H (VP.refl H)
end
section
theorem Wo{f:Str}{v:V}{fs:List (Str×V)}{n:Nat}(h:fs.length <=n):(Jl f v fs).length <=n+ 1:=Yu (IY f v fs) (Nat.succ_le_succ h)
theorem J2{f g:Str}{v:V}{fs:List (Str×V)}(h:¬g=f):(Jl f v fs).lookup g=fs.lookup g:=by rw[C9,Y2 h]
theorem ME{f:Str}{v:V}{fs:List (Str×V)}:(Jl f v fs).lookup f=some v:=by rw[C9,Y9 rfl]
end
section
variable{P:VB}{w:VF}{K:VG}{mg:Vx}{base:VM}
structure R0(K:VG)(C:VI):Prop where
 cl:T7 K C
 number:W0 K C "number"
 sender:W0 K C "sender"
 goal:W0 K C "goal"
 body:W0 K C "body"
 keep:W0 K C "keep"
structure Ng(C:VI)(H:Hp)(p:VI)(nu se go bo ke:V):Prop where
 ex:∃dx fs,H p=some (.ins C dx fs)/\fs.lookup ("number":Str)=some nu/\fs.lookup ("sender":Str)=some se/\fs.lookup ("goal":Str)=some go/\fs.lookup ("body":Str)=some bo/\fs.lookup ("keep":Str)=some ke/\
  fs.lookup ("key":Str)=none/\fs.lookup ("is_like":Str)=none
inductive E8(C:VI)(vs:List V)(H:Hp)(Q:VK)(E:XK):Prop|mk (p dx nu se go b ke xs:_) (_:vs=[.ref p,nu,se,go,.ref b,ke]) (_:H p=some (.ins C dx [])) (_:AD H nu se go (.ref b) ke) (_:JE H nu se go (.ref b) ke=true) (_:H b=some (.lst xs)) (_:∀H' b',H b'=none->b'≠p->H' b'=some (.lst xs)->Ng C H' p nu se go (.ref b') ke->WP p H H'->Q .non H')
abbrev W4:Stmt:=Nl (WW 43) 0
theorem v9:WQ ["self","number","sender","goal","body","keep"] ["self","number","sender","goal","body","keep"] (VO W4):=by walk_at"e"
theorem Sq {f C : Addr} {fd : FuncData} (F : ∃ (oc : Value) (od : Option Addr) (dV kV doc pm : Value) (an : Option Addr) (cdv ct : Value) (osl : Array (Option Value)),
  fd = W.fnOf "__init__" "Letter.__init__" (NV W4) (VX W4) (VO W4) dV kV doc pm an cdv ct /\ K.lookup f = some ⟨oc, od, .func fd, osl⟩ /\ W.codeIn K cdv "Letter.__init__" = true) (L : R0 K C) (B : Bt mg)
  (Wp:JA P w K mg base "are_shared_parts" 5 ["number","sender","goal","body","keep"] [] FS):VW P w K mg base WK 6 f fd ["self","number","sender","goal","body","keep"] (E8 C):=by
 obtain⟨oc,od,dV,kV,doc,pm,an,cdv,ct,osl,rfl,lk,hcd⟩:=F;refine Dt lk hcd v9 (fun vs H Q E h=>?_) (fun A outer s H vs Q E hr h=>?_)
 .obtain⟨p,dx,u,r,go,b,v,xs,rfl,_⟩:=h;rfl
 .obtain⟨p,dx,u,r,go,b,v,xs,rfl,hp,x,hgd,hb,q⟩:=h
  suffices hh:∃t,To (Nr WK P w K mg base _ "Letter.__init__" (VO W4) f cdv A outer s H E).nox (VX W4) t/\t {nx:=fun _ H'=>Q .non H',rt:=Q} (L2.start _ _) H by
   obtain⟨t,h1,h2⟩:=hh;exact⟨t,h1.nox,h2⟩
  refine⟨_,(W1 (Jj (Nq (N6 (JT Wp hr.m rfl (Wb 1 (Wb 2 (Wb 3 (Wb 4 (Wb 5 VT)))))))) Rl Jw) (W1 (Dw (K:=K) rfl (VQ 0) (VQ 1) rfl) (W1 (Dw (K:=K) rfl (VQ 0) (VQ 2) rfl) (W1 (Dw (K:=K) rfl (VQ 0) (VQ 3) rfl) (W1 (Dw (K:=K) rfl (VQ 0) (EL (K9 (K:=K) rfl) rfl B.blist (by rfl) (Wb 4 VT)) rfl) (Wc (Dw (K:=K) rfl (VQ 0) (VQ 5) rfl))))))),?_⟩;refine We fun N hN=>?_
  walk_at"rd";refine ⟨u, r, go, .ref b, v, rfl, x, fun H1 s1 => ⟨_, rfl, ?_⟩⟩;rw [hgd];simp only [Bool.not_true, Bool.false_eq_true, if_false];refine hN _ _ ?_;clear hN N;walk_at"rd";have y := s1 p _ hp;have hb1 := s1 b _ hb;have d : b ≠ p := VS hb hp (by intro z; cases z);have i : ([] : List (Str × V)).length <= 0 := Y1 0;refine ⟨C, dx, [], y, L.cl, L.number, by decide, C, dx, _, WU, L.cl, L.sender, Ye (Wo i) (by decide), C, dx, _, WU, L.cl, L.goal, Ye (Wo (Wo i)) (by decide), xs,
   .inl (VZ.of (by rw [Wh d, Wh d, Wh d]; exact hb1)), fun l j => ?_⟩
  have a:l≠p:=fun z=>by rw[z,WU]at j;cases j
  have n:H1 l=none:=by rw[Wh a,Wh a,Wh a]at j;exact j
  refine⟨C,dx,_,by rw[Wh (Ne.symm a)];exact WU,L.cl,L.body,Ye (Wo (Wo (Wo i))) (by decide),C,dx,_,WU,L.cl,L.keep,Ye (Wo (Wo (Wo (Wo i)))) (by decide),?_⟩;refine q _ l (s1.free n) a (by rw[Wh a,Wh a,WU]) ⟨dx,_,WU,?_,?_,?_,?_,?_,?_,?_⟩ ?_
  .rw[J2,J2,J2,J2,ME] <;> decide +kernel
  .rw[J2,J2,J2,ME] <;> decide +kernel
  .rw[J2,J2,ME] <;> decide +kernel
  .rw[J2,ME] <;> decide +kernel
  .rw[ME]
  .rw[J2,J2,J2,J2,J2] <;> first|rfl|decide +kernel
  .rw[J2,J2,J2,J2,J2] <;> first|rfl|decide +kernel
  .intro c o e g;rw[Wh g,Wh g,Wh (WJ (s1 c o e) n),Wh g,Wh g,Wh g];exact s1 c o e
def Er:V->Bool
 | .int i=>decide (0 <=i) && decide (i%8=0)
 |_=>false
inductive QA(vs:List V)(H:Hp)(Q:VK)(E:XK):Prop|mk (x n:_) (_:vs=[x]) (_:WY H x=some n) (_:Q (.bl (Er x)) H)
abbrev FZ:Stmt:=WW 41
theorem Zt:WQ ["at"] ["at"] (VO FZ):=by walk_at"e"
theorem w9{f:VI}{fd:VD}(F:WX K "is_place" "is_place" FZ f fd)(T:Cn mg)(J8:JA P w K mg base "is_whole" 1 ["value"] [] AO):VW P w K mg base WK 2 f fd ["at"] QA:=by
 refine F.ok Zt (fun vs H Q E h=>?_) (fun b A outer s H vs Q E a h=>?_)
 .obtain⟨x,n,rfl,_⟩:=h;rfl
 .obtain⟨x,n,rfl,ty,q⟩:=h;refine⟨_,(Wc (WL (M8 (JT J8 a.m rfl (Wb 0 VT)) (M8 (Ts (Jp A9) (VQ 0) W3 (TV _)) (MT (Ts (Rt Ry) (J0 (dI MN) (VQ 0) (Do rfl T.c_STEP)) W3 (TV _))))))),?_⟩;walk_at"rd";refine⟨x,n,rfl,ty,_,rfl,GN (fun h=>?_) (fun h=>?_)⟩
  .cases x <;> first|(simp[Ds]at h;done)|skip
   rename_i i
   walk_at"rd"
   by_cases h1:0 <=i
   .simp only[h1,YX,if_true];refine⟨by decide,rfl,?_⟩;simpa[Er,h1] using q
   .simp only[h1,YT,Bool.false_eq_true,if_false];simpa[Er,h1] using q
  .have e:Er x=false:=by cases x <;> first|rfl|(simp[Ds]at h)
   rw[e]at q;exact q
def GZ(at' len:Int)(more:Bool):Bool:=if more then decide (len%8=0) && decide (at'+ len < 4000) else decide (at'+ len <=4000)
inductive Qs(vs:List V)(H:Hp)(Q:VK)(E:XK):Prop|mk (at' len more:_) (_:vs=[.int at',.int len,.bl more]) (_:Q (.bl (GZ at' len more)) H)
abbrev Kg:Stmt:=WW 42
theorem ZA:WQ ["at","length","more"] ["at","length","more"] (VO Kg):=by walk_at"e"
theorem wR{f:VI}{fd:VD}(F:WX K "has_room" "has_room" Kg f fd)(T:Cn mg):VW P w K mg base WK 1 f fd ["at","length","more"] Qs:=by
 refine F.ok ZA (fun vs H Q E h=>?_) (fun b A outer s H vs Q E c h=>?_)
 .obtain⟨a,l,m,rfl,_⟩:=h;rfl
 .obtain⟨a,l,m,rfl,q⟩:=h;refine⟨_,(W1 (Jj (N6 (VQ 2)) (Wc (WL (M8 (Ts (Rt Ry) (J0 (dI MN) (VQ 1) (Do rfl T.c_STEP)) W3 (TV _)) (MT (Ts (Jp EF) (J0 (Jp NH) (VQ 0) (VQ 1)) (Do rfl T.c_MOST_BYTES) (TV _)))))) Jw) (Wc (WL (Ts (Jp Dx) (J0 (Jp NH) (VQ 0) (VQ 1)) (Do rfl T.c_MOST_BYTES) (TV _))))),?_⟩;walk_at"rd";cases m with
  |true=>
   rw[Y9 rfl];refine⟨by decide,rfl,?_⟩;unfold GZ at q;rw[Y9 rfl]at q
   by_cases h1:l%8=0
   .rw[Y9 (by simpa using h1)];simpa[h1] using q
   .rw[Y2 (by simpa using h1)];simpa[h1] using q
  |false=>
   rw[Y2 (by simp)];exact q
structure Mn(K:VG)(C:VI):Prop where
 cl:T7 K C
 number:W0 K C "number"
 sender:W0 K C "sender"
 goal:W0 K C "goal"
 at':W0 K C "at"
 body:W0 K C "body"
 more:W0 K C "more"
 keep:W0 K C "keep"
structure JV(C:VI)(H:Hp)(p:VI)(nu se go a bo mo ke:V):Prop where
 ex:∃dx fs,H p=some (.ins C dx fs)/\fs.lookup ("number":Str)=some nu/\fs.lookup ("sender":Str)=some se/\fs.lookup ("goal":Str)=some go/\fs.lookup ("at":Str)=some a/\fs.lookup ("body":Str)=some bo/\fs.lookup ("more":Str)=some mo/\fs.lookup ("keep":Str)=some ke/\
  fs.lookup ("key":Str)=none/\fs.lookup ("end":Str)=none/\fs.lookup ("is_like":Str)=none
theorem JV.same{C p:VI}{H H':Hp}{nu se go a bo mo ke:V}(s:∀o,H p=some o->H' p=some o)(h:JV C H p nu se go a bo mo ke):JV C H' p nu se go a bo mo ke:=by
 obtain⟨dx,fs,b,r⟩:=h;exact⟨dx,fs,s _ b,r⟩
inductive By(C:VI)(vs:List V)(H:Hp)(Q:VK)(E:XK):Prop|mk (p dx:VI) (nu se go:V) (a:Int) (b:VI) (mo:Bool) (ke:V) (xs:List V) (_:vs=[.ref p,nu,se,go,.int a,.ref b,.bl mo,ke]) (_:H p=some (.ins C dx [])) (_:AD H nu se go (.ref b) ke) (_:JE H nu se go (.ref b) ke=true) (_:Er (.int a)=true) (_:H b=some (.lst xs)) (_:GZ a xs.length mo=true) (_:∀H' b',H b'=none->b'≠p->H' b'=some (.lst xs)->JV C H' p nu se go (.int a) (.ref b') (.bl mo) ke->WP p H H'->Q .non H')
abbrev W8:Stmt:=Nl (WW 44) 0
theorem y6:WQ ["self","number","sender","goal","at","body","more","keep"] ["self","number","sender","goal","at","body","more","keep"] (VO W8):=by walk_at"e"
theorem gY {f C : Addr} {fd : FuncData} (F : ∃ (oc : Value) (od : Option Addr) (dV kV doc pm : Value) (an : Option Addr) (cdv ct : Value) (osl : Array (Option Value)),
  fd = W.fnOf "__init__" "Piece.__init__" (NV W8) (VX W8) (VO W8) dV kV doc pm an cdv ct /\ K.lookup f = some ⟨oc, od, .func fd, osl⟩ /\ W.codeIn K cdv "Piece.__init__" = true) (L : Mn K C) (B : Bt mg)
  (Wp:JA P w K mg base "are_shared_parts" 5 ["number","sender","goal","body","keep"] [] FS) (Nz:JA P w K mg base "is_place" 2 ["at"] [] QA) (JF:JA P w K mg base "is_truth" 1 ["value"] [] Fq)
  (ND:JA P w K mg base "has_room" 1 ["at","length","more"] [] Qs):VW P w K mg base WK 6 f fd ["self","number","sender","goal","at","body","more","keep"] (By C):=by
 obtain⟨oc,od,dV,kV,doc,pm,an,cdv,ct,osl,rfl,lk,hcd⟩:=F;refine Dt lk hcd y6 (fun vs H Q E h=>?_) (fun A outer s H vs Q E u h=>?_)
 .obtain⟨p,dx,nu,se,go,a,b,mo,ke,xs,rfl,_⟩:=h;rfl
 .obtain⟨p,dx,nu,se,go,a,b,mo,ke,xs,rfl,hp,hpl,hgd,hat,hb,r,q⟩:=h
  suffices hh:∃t,To (Nr WK P w K mg base _ "Piece.__init__" (VO W8) f cdv A outer s H E).nox (VX W8) t/\t {nx:=fun _ H'=>Q .non H',rt:=Q} (L2.start _ _) H by
   obtain⟨t,h1,h2⟩:=hh;exact⟨t,h1.nox,h2⟩
  refine⟨_,(W1 (Jj (Nq (N6 (JT Wp u.m rfl (Wb 1 (Wb 2 (Wb 3 (Wb 5 (Wb 7 VT)))))))) Rl Jw) (W1 (Jj (PW.pt (Mf (Nq (N6 (JT Nz u.m rfl (Wb 4 VT)))) (Mf (Nq (N6 (JT JF u.m rfl (Wb 6 VT)))) (Mr (Nq (N6 (JT ND u.m rfl (Wb 4 (MG (N3 (Gu (DA (K:=K) rfl)) B.len (Wb 5 VT)) (Wb 6 VT)))))))))) Rl Jw) (W1 (Dw (K:=K) rfl (VQ 0) (VQ 1) rfl) (W1 (Dw (K:=K) rfl (VQ 0) (VQ 2) rfl) (W1 (Dw (K:=K) rfl (VQ 0) (VQ 3) rfl) (W1 (Dw (K:=K) rfl (VQ 0) (VQ 4) rfl) (W1 (Dw (K:=K) rfl (VQ 0) (EL (K9 (K:=K) rfl) rfl B.blist (by rfl) (Wb 5 VT)) rfl) (W1 (Dw (K:=K) rfl (VQ 0) (VQ 6) rfl) (Wc (Dw (K:=K) rfl (VQ 0) (VQ 7) rfl)))))))))),?_⟩;refine We fun N n=>?_
  walk_at"rd";refine⟨nu,se,go,.ref b,ke,rfl,hpl,fun H1 s1=>⟨_,rfl,?_⟩⟩;rw[hgd];simp only[Bool.not_true,Bool.false_eq_true,if_false];refine n _ _ ?_;clear n N;refine We fun N n=>?_
  walk_at"rd";refine ⟨.int a, _, rfl, rfl, _, rfl, ?_⟩;rw [hat];simp only [Bool.not_true, Bool.false_eq_true, if_false];refine ⟨.bl mo, _, rfl, rfl, _, rfl, ?_⟩;have hp1 := s1 p _ hp;have y := s1 b _ hb;have i : b ≠ p := VS hb hp (by intro z; cases z);have j : ([] : List (Str × V)).length <= 0 := Y1 0;simp only [GO, Bool.not_true, Bool.false_eq_true, if_false];refine ⟨_, .inl (VZ.of y), a, _, mo, rfl, _, rfl, ?_⟩;rw [r];simp only [Bool.not_true, Bool.false_eq_true, if_false];refine n _ _ ?_;clear n N;walk_at"rd";refine ⟨C, dx, [], hp1, L.cl, L.number, by decide, C, dx, _, WU, L.cl, L.sender, Ye (Wo j) (by decide), C, dx, _, WU, L.cl, L.goal, Ye (Wo (Wo j)) (by decide), C, dx, _, WU, L.cl, L.at', Ye (Wo (Wo (Wo j))) (by decide), xs,
   .inl (VZ.of (by rw [Wh i, Wh i, Wh i, Wh i]; exact y)), fun l v => ?_⟩
  have d:l≠p:=fun z=>by rw[z,WU]at v;cases v
  have x:H1 l=none:=by rw[Wh d,Wh d,Wh d,Wh d]at v;exact v
  refine⟨C,dx,_,by rw[Wh (Ne.symm d)];exact WU,L.cl,L.body,Ye (Wo (Wo (Wo (Wo j)))) (by decide),C,dx,_,WU,L.cl,L.more,Ye (Wo (Wo (Wo (Wo (Wo j))))) (by decide),C,dx,_,WU,L.cl,L.keep,Ye (Wo (Wo (Wo (Wo (Wo (Wo j)))))) (by decide),?_⟩;refine q _ l (s1.free x) d (by rw[Wh d,Wh d,Wh d,WU]) ⟨dx,_,WU,?_,?_,?_,?_,?_,?_,?_,?_,?_,?_⟩ ?_
  .rw[J2,J2,J2,J2,J2,J2,ME] <;> decide +kernel
  .rw[J2,J2,J2,J2,J2,ME] <;> decide +kernel
  .rw[J2,J2,J2,J2,ME] <;> decide +kernel
  .rw[J2,J2,J2,ME] <;> decide +kernel
  .rw[J2,J2,ME] <;> decide +kernel
  .rw[J2,ME] <;> decide +kernel
  .rw[ME]
  .rw[J2,J2,J2,J2,J2,J2,J2] <;> first|rfl|decide +kernel
  .rw[J2,J2,J2,J2,J2,J2,J2] <;> first|rfl|decide +kernel
  .rw[J2,J2,J2,J2,J2,J2,J2] <;> first|rfl|decide +kernel
  .intro c o e g;rw[Wh g,Wh g,Wh g,Wh (WJ (s1 c o e) x),Wh g,Wh g,Wh g,Wh g];exact s1 c o e
inductive Ft(C:VI)(vs:List V)(H:Hp)(Q:VK)(E:XK):Prop|mk (p nu se go a bo mo ke:_) (_:vs=[.ref p]) (_:JV C H p nu se go a bo mo ke) (_:∀t,H t=none->Q (.ref t) (upd H t (.tup [nu,se,go])))
abbrev HF:Stmt:=Nl (WW 44) 1
theorem nJ:WQ ["self"] ["self"] (VO HF):=by walk_at"e"
theorem Si{f C:VI}{fd:VD}(F:WX K "key" "Piece.key" HF f fd)(L:Mn K C):VW P w K mg base WK 1 f fd ["self"] (Ft C):=by
 refine F.ok nJ (fun vs H Q E h=>?_) (fun o A outer s H vs Q E r h=>?_)
 .obtain⟨p,d,c,e,a,bo,g,i,rfl,_⟩:=h;rfl
 .obtain⟨p,d,c,e,a,bo,g,i,rfl,⟨dx,fs,b,n,l,j,_⟩,q⟩:=h;refine⟨_,(Wc (WL (ZW (Nt (Bb (K:=K) rfl (VQ 0) rfl) (Nt (Bb (K:=K) rfl (VQ 0) rfl) (Nt (Bb (K:=K) rfl (VQ 0) rfl) VT)))))),?_⟩;walk_at"rd";exact⟨C,dx,fs,b,L.cl,L.number,d,n,C,dx,fs,b,L.cl,L.sender,c,l,C,dx,fs,b,L.cl,L.goal,e,j,Wi (by decide),q⟩
inductive Iq(C:VI)(vs:List V)(H:Hp)(Q:VK)(E:XK):Prop|mk (p:VI) (nu se go:V) (a:Int) (b:VI) (mo ke:V) (xs:List V) (_:vs=[.ref p]) (_:JV C H p nu se go (.int a) (.ref b) mo ke) (_:H b=some (.lst xs)) (_:Q (.int (a+ xs.length)) H)
abbrev F1:Stmt:=Nl (WW 44) 2
theorem yK:WQ ["self"] ["self"] (VO F1):=by walk_at"e"
theorem Sz{f C:VI}{fd:VD}(F:WX K "end" "Piece.end" F1 f fd)(L:Mn K C)(B:Bt mg):VW P w K mg base WK 1 f fd ["self"] (Iq C):=by
 refine F.ok yK (fun vs H Q E h=>?_) (fun r A outer s H vs Q E u h=>?_)
 .obtain⟨p,e,d,l,a,bo,g,i,xs,rfl,_⟩:=h;rfl
 .obtain⟨p,e,d,l,a,b,g,i,xs,rfl,⟨dx,fs,c,y,x,v,o,n,_⟩,j,q⟩:=h;refine⟨_,(Wc (WL (J0 (Jp NH) (Bb (K:=K) rfl (VQ 0) rfl) (N3 (Gu (DA (K:=K) rfl)) B.len (Nt (Bb (K:=K) rfl (VQ 0) rfl) VT))))),?_⟩;walk_at"rd";exact⟨C,dx,fs,c,L.cl,L.at',_,o,C,dx,fs,c,L.cl,L.body,_,n,b,rfl,xs,.inl (VZ.of j),a,rfl,q⟩
def JC(z:Str):Prop:=1 <=z.length/\z.length <=8/\z.cps.toList.all En=true
theorem JC.is{z:Str}(h:JC z):N5 (.str z)=true:=by
 obtain⟨h1,h2,a⟩:=h;simp only[N5,h1,h2,a,YX,Bool.and_self]
end
section
variable{K:VG}
theorem JC.ok{z:Str}(h:JC z):PyData.strOk z=true:=by
 unfold PyData.strOk;rw[Array.all_eq_true];intro i hi;have a:=YK.mp h.2.2 (z.cps[i]) (Array.getElem_mem_toList hi);unfold En at a;simp only[YF,Yy]at a;simp only[Yy];lia
theorem Qd{H:Hp}{b:VI}{ns:VJ}(h:H b=some (.lst (ns.map V.int))):Dp K H (.ref b) (.list (ns.map PyData.int)):=.lst (VZ.of h) (Nb.ints ns)
theorem vU(ns:VJ):PyData.eqv (.list (ns.map PyData.int)) (.list (ns.map PyData.int))=true:=by
 show PyData.eqvAll _ _=true;rw[W.ked_eqvAll];simp
theorem Ze(ns:VJ)(lo hi:Option Int):∃ms:List Int,DX (ns.map V.int) lo hi=ms.map V.int/\ms.length <=ns.length:=by
 refine⟨(ns.drop (HT.sIx (ns.map V.int).length 0 lo)).take (HT.sIx (ns.map V.int).length (ns.map V.int).length hi - HT.sIx (ns.map V.int).length 0 lo),?_,?_⟩
 .unfold DX;rw[List.map_take,List.map_drop]
 .rw[YD,V0];lia
theorem Km{H:Hp}{nu:Int}{z1 z2:Str}{b:VI}{ns:VJ}{k:Bool}(h0:0 <=nu)(h1:nu <=65535)(n1:JC z1)(n2:JC z2)(hb:H b=some (.lst (ns.map V.int)))(l1:1 <=ns.length)(l2:ns.length <=4000)(hns:∀x∈ns,0 <=x/\x <=255):
  AD H (.int nu) (.str z1) (.str z2) (.ref b) (.bl k)/\JE H (.int nu) (.str z1) (.str z2) (.ref b) (.bl k)=true:=by
 refine⟨⟨⟨_,rfl⟩,⟨_,rfl⟩,fun z e=>?_,⟨_,rfl⟩,fun z e=>?_,⟨_,Ww hb⟩,fun a xs g f=>?_,⟨_,rfl⟩⟩,?_⟩
 .cases e;have:=n1.2.1;lia
 .cases e;have:=n2.2.1;lia
 .cases g;rw[hb]at f;cases f;refine⟨by rw[List.length_map];lia,fun y c=>?_⟩;obtain⟨i,_,rfl⟩:=Yv.mp c;exact⟨_,rfl⟩
 .unfold JE;rw[n1.is,n2.is,OU hb];have d:(ns.map V.int).all (fun y=>N1 y 0 255)=true:=by
   rw[YK];intro y c;obtain⟨i,hi,rfl⟩:=Yv.mp c;have:=hns i hi;simp[N1,this.1,this.2]
  rw[d];simp[N1,h0,h1,l1,l2,GO]
end
section
variable{P:VB}{w:VF}{K:VG}{mg:Vx}{base:VM}
theorem Ng.same{C p:VI}{H H':Hp}{nu se go bo ke:V}(s:∀o,H p=some o->H' p=some o)(h:Ng C H p nu se go bo ke):Ng C H' p nu se go bo ke:=by
 obtain⟨dx,fs,a,r⟩:=h;exact⟨dx,fs,s _ a,r⟩
end
structure PD where
 nu:Int
 z1:Str
 z2:Str
 at':Int
 ns:List Int
 mo:Bool
 k:Bool
 deriving DecidableEq
structure PD.Ok(d:PD):Prop where
 n0:0 <=d.nu
 n1:d.nu <=65535
 k1:JC d.z1
 k2:JC d.z2
 l1:1 <=d.ns.length
 l2:d.ns.length <=4000
 by':∀x∈d.ns,0 <=x/\x <=255
 a0:0 <=d.at'
 a8:d.at'%8=0
 rm:GZ d.at' d.ns.length d.mo=true
structure WB(C:VI)(H:Hp)(p b:VI)(d:PD):Prop where
 ok:d.Ok
 ats:JV C H p (.int d.nu) (.str d.z1) (.str d.z2) (.int d.at') (.ref b) (.bl d.mo) (.bl d.k)
 bd:H b=some (.lst (d.ns.map V.int))
section
variable{P:VB}{w:VF}{K:VG}{mg:Vx}{base:VM}{C p b:VI}{H G:Hp}
theorem WB.mono{d:PD}(s:VP H G)(h:WB C H p b d):WB C G p b d:=⟨h.ok,h.ats.same (s p),s _ _ h.bd⟩
theorem WB.but{d:PD}{l:VI}(s:WP l H G)(h:WB C H p b d)(n1:p≠l)(n2:b≠l):WB C G p b d:=⟨h.ok,h.ats.same fun o e=>s p o e n1,s _ _ h.bd n2⟩
theorem WB.ins{d:PD}(h:WB C H p b d):∃dx fs,H p=some (.ins C dx fs):=by
 obtain⟨dx,fs,a,_⟩:=h.ats;exact⟨dx,fs,a⟩
theorem Qh{d:PD}(L:Mn K C)(h:WB C H p b d):JB K H (.ref p) "number" (.int d.nu):=by
 obtain⟨dx,fs,a,c,l,j,i,g,f,e,_⟩:=h.ats;exact⟨p,C,dx,fs,rfl,a,L.cl,L.number,c⟩
theorem LF{d:PD}(L:Mn K C)(h:WB C H p b d):JB K H (.ref p) "sender" (.str d.z1):=by
 obtain⟨dx,fs,a,l,c,j,i,g,f,e,_⟩:=h.ats;exact⟨p,C,dx,fs,rfl,a,L.cl,L.sender,c⟩
theorem OX{d:PD}(L:Mn K C)(h:WB C H p b d):JB K H (.ref p) "goal" (.str d.z2):=by
 obtain⟨dx,fs,a,l,j,c,i,g,f,e,_⟩:=h.ats;exact⟨p,C,dx,fs,rfl,a,L.cl,L.goal,c⟩
theorem Ms{d:PD}(L:Mn K C)(h:WB C H p b d):JB K H (.ref p) "at" (.int d.at'):=by
 obtain⟨dx,fs,a,l,j,i,c,g,f,e,_⟩:=h.ats;exact⟨p,C,dx,fs,rfl,a,L.cl,L.at',c⟩
theorem BM{d:PD}(L:Mn K C)(h:WB C H p b d):JB K H (.ref p) "body" (.ref b):=by
 obtain⟨dx,fs,a,l,j,i,g,c,f,e,_⟩:=h.ats;exact⟨p,C,dx,fs,rfl,a,L.cl,L.body,c⟩
theorem Hx{d:PD}(L:Mn K C)(h:WB C H p b d):JB K H (.ref p) "more" (.bl d.mo):=by
 obtain⟨dx,fs,a,l,j,i,g,f,c,e,_⟩:=h.ats;exact⟨p,C,dx,fs,rfl,a,L.cl,L.more,c⟩
theorem L9{d:PD}(L:Mn K C)(h:WB C H p b d):JB K H (.ref p) "keep" (.bl d.k):=by
 obtain⟨dx,fs,a,l,j,i,g,f,e,c,_⟩:=h.ats;exact⟨p,C,dx,fs,rfl,a,L.cl,L.keep,c⟩
theorem Sa{d:PD}(h:WB C H p b d):Ex C "key" H (.ref p):=by
 obtain⟨dx,fs,a,_,_,_,_,_,_,_,f,_⟩:=h.ats;exact⟨p,dx,fs,rfl,a,f⟩
theorem Il{d:PD}(h:WB C H p b d):Ex C "end" H (.ref p):=by
 obtain⟨dx,fs,a,_,_,_,_,_,_,_,_,f,_⟩:=h.ats;exact⟨p,dx,fs,rfl,a,f⟩
inductive Fg(C:VI)(vs:List V)(H:Hp)(Q:VK)(E:XK):Prop|mk (d:PD) (b:VI) (_:vs=[.int d.nu,.str d.z1,.str d.z2,.int d.at',.ref b,.bl d.mo,.bl d.k]) (_:d.Ok) (_:H b=some (.lst (d.ns.map V.int))) (_:∀p b' G,H p=none->H b'=none->VP H G->WB C G p b' d->Q (.ref p) G)
theorem Lz(F:MP P w K mg base "Piece" C 6 ["self","number","sender","goal","at","body","more","keep"] [] (By C)):Tt P w K mg base "Piece" 6 (Fg C):=by
 refine F.ct fun vs H Q h y dx G a r u s i=>?_
 obtain⟨d,b,rfl,ok,c,q⟩:=h;obtain⟨f,l⟩:=Km (k:=d.k) ok.n0 ok.n1 ok.k1 ok.k2 (s b _ c) ok.l1 ok.l2 ok.by'
 exact⟨y,dx,_,_,_,d.at',b,d.mo,_,_,rfl,i,f,l,by simp[Er,ok.a0,ok.a8],s b _ c,by rw[List.length_map];exact ok.rm,fun H' p j h1 h2 g n=>⟨rfl,q y p H' a (s.free j) (fun d o e=>n d o (s d o e) (WJ e a)) ⟨ok,g,h2⟩⟩⟩
def PD.key(d:PD):Int×Str×Str:=(d.nu,d.z1,d.z2)
end
section
variable{P:VB}{w:VF}{K:VG}{mg:Vx}{base:VM}{C:VI}
inductive PY(C:VI)(vs:List V)(H:Hp)(Q:VK)(E:XK):Prop|mk (p b:VI) (d:PD) (_:vs=[.ref p]) (_:WB C H p b d) (_:∀t G,H t=none->VP H G->G t=some (.tup [.int d.nu,.str d.z1,.str d.z2])->Q (.ref t) G)
theorem ZC(F:N0 P w K mg base C "key" 1 ["self"] [] (Ft C)):N0 P w K mg base C "key" 1 ["self"] [] (PY C):=
 F.imp fun vs H Q E zz=>by rcases zz with⟨p,b,d,e,h,q⟩;exact ⟨p,_,_,_,_,_,_,_,e,h.ats,fun t a=>q t _ a (NX a) WU⟩
end
structure LD where
 nu:Int
 z1:Str
 z2:Str
 ns:List Int
 k:Bool
 deriving DecidableEq
structure LD.Ok(d:LD):Prop where
 n0:0 <=d.nu
 n1:d.nu <=65535
 k1:JC d.z1
 k2:JC d.z2
 l1:1 <=d.ns.length
 l2:d.ns.length <=4000
 by':∀x∈d.ns,0 <=x/\x <=255
structure Jt(C:VI)(H:Hp)(p b:VI)(d:LD):Prop where
 ok:d.Ok
 ats:Ng C H p (.int d.nu) (.str d.z1) (.str d.z2) (.ref b) (.bl d.k)
 bd:H b=some (.lst (d.ns.map V.int))
section
variable{P:VB}{w:VF}{K:VG}{mg:Vx}{base:VM}{C p b:VI}{H G:Hp}
theorem Jt.mono{d:LD}(s:VP H G)(h:Jt C H p b d):Jt C G p b d:=⟨h.ok,h.ats.same (s p),s _ _ h.bd⟩
theorem Jt.ins{d:LD}(h:Jt C H p b d):∃dx fs,H p=some (.ins C dx fs):=by
 obtain⟨dx,fs,a,_⟩:=h.ats;exact⟨dx,fs,a⟩
theorem y9{d:LD}(L:R0 K C)(h:Jt C H p b d):JB K H (.ref p) "number" (.int d.nu):=by
 obtain⟨dx,fs,a,c,i,g,f,e,_⟩:=h.ats;exact⟨p,C,dx,fs,rfl,a,L.cl,L.number,c⟩
theorem y8{d:LD}(L:R0 K C)(h:Jt C H p b d):JB K H (.ref p) "sender" (.str d.z1):=by
 obtain⟨dx,fs,a,i,c,g,f,e,_⟩:=h.ats;exact⟨p,C,dx,fs,rfl,a,L.cl,L.sender,c⟩
theorem dQ{d:LD}(L:R0 K C)(h:Jt C H p b d):JB K H (.ref p) "goal" (.str d.z2):=by
 obtain⟨dx,fs,a,i,g,c,f,e,_⟩:=h.ats;exact⟨p,C,dx,fs,rfl,a,L.cl,L.goal,c⟩
theorem wE{d:LD}(L:R0 K C)(h:Jt C H p b d):JB K H (.ref p) "body" (.ref b):=by
 obtain⟨dx,fs,a,i,g,f,c,e,_⟩:=h.ats;exact⟨p,C,dx,fs,rfl,a,L.cl,L.body,c⟩
theorem Zw{d:LD}(L:R0 K C)(h:Jt C H p b d):JB K H (.ref p) "keep" (.bl d.k):=by
 obtain⟨dx,fs,a,i,g,f,e,c,_⟩:=h.ats;exact⟨p,C,dx,fs,rfl,a,L.cl,L.keep,c⟩
inductive OZ(C:VI)(vs:List V)(H:Hp)(Q:VK)(E:XK):Prop|mk (d:LD) (b:VI) (_:vs=[.int d.nu,.str d.z1,.str d.z2,.ref b,.bl d.k]) (_:d.Ok) (_:H b=some (.lst (d.ns.map V.int))) (_:∀p b' G,H p=none->H b'=none->VP H G->Jt C G p b' d->Q (.ref p) G)
theorem uS(F:MP P w K mg base "Letter" C 6 ["self","number","sender","goal","body","keep"] [] (E8 C)):Tt P w K mg base "Letter" 6 (OZ C):=by
 refine F.ct fun vs H Q h y dx G a r u s i=>?_
 obtain⟨d,b,rfl,ok,c,q⟩:=h;obtain⟨f,l⟩:=Km (k:=d.k) ok.n0 ok.n1 ok.k1 ok.k2 (s b _ c) ok.l1 ok.l2 ok.by'
 exact⟨y,dx,_,_,_,b,_,_,rfl,i,f,l,s b _ c,fun H' p j h1 h2 g n=>⟨rfl,q y p H' a (s.free j) (fun d o e=>n d o (s d o e) (WJ e a)) ⟨ok,g,h2⟩⟩⟩
end
section
variable{P:VB}{w:VF}{K:VG}{mg:Vx}{base:VM}{C:VI}
def LD.whole(d:LD):PD:=⟨d.nu,d.z1,d.z2,0,d.ns,false,d.k⟩
theorem LD.whole_ok {d : LD} (ok : d.Ok) : d.whole.Ok := ⟨ok.n0, ok.n1, ok.k1, ok.k2, ok.l1, ok.l2, ok.by', UH 0, rfl, by
 show GZ 0 d.ns.length false = true;unfold GZ;have := ok.l2;simp; lia⟩
end
section
variable{P:VB}{w:VF}{K:VG}{mg:Vx}{base:VM}
def Jc(C:VI)(H:Hp)(ps:List (Addr×Addr))(ds:List PD):Prop:=Paired (fun(q:Addr×Addr) (d:PD)=>WB C H q.1 q.2 d) ps ds
theorem Jc.len{C:VI}{H:Hp}{ps:List (Addr×Addr)}{ds:List PD}(h:Jc C H ps ds):ps.length=ds.length:=Paired.length h
theorem Jc.mono{C:VI}{H G:Hp}{ps:List (Addr×Addr)}{ds:List PD}(s:VP H G)(h:Jc C H ps ds):Jc C G ps ds:=by
 induction h with
 |nil=>exact .nil
 |cons r _ ih=>exact .cons (r.mono s) ih
theorem Jc.app{C:VI}{H:Hp}{ps qs:List (Addr×Addr)}{ds es:List PD}(h:Jc C H ps ds)(k:Jc C H qs es):Jc C H (ps++qs) (ds++es):=by
 induction h with
 |nil=>exact k
 |cons r _ ih=>exact .cons r ih
theorem Jc.get{C:VI}{H:Hp}{ps:List (Addr×Addr)}{ds:List PD}(h:Jc C H ps ds){i:Nat}{q:Addr×Addr}(e:ps[i]?=some q):∃d,ds[i]?=some d/\WB C H q.1 q.2 d:=by
 induction h generalizing i with
 |nil=>simp at e
 |cons r _ ih=>
  cases i with
  |zero=>
   simp only[List.getElem?_cons_zero,Option.some.injEq]at e;subst e;exact⟨_,rfl,r⟩
  |succ i=>exact ih (by simpa using e)
def Mg(ps:List (Addr×Addr)):List V:=ps.map fun q=>V.ref q.1
theorem Ez(ps:List (Addr×Addr)):(Mg ps).length=ps.length:=List.length_map ..
theorem mS(a b:List (Addr×Addr)):Mg (a++b)=Mg a++Mg b:=Yp
theorem F6{ps:List (Addr×Addr)}{i:Nat}{x:V}(h:(Mg ps)[i]?=some x):∃q,ps[i]?=some q/\x= .ref q.1:=by
 unfold Mg at h;rw[Yk]at h;cases e:ps[i]? with
 |none=>rw[e]at h;cases h
 |some q=>rw[e]at h;exact⟨q,rfl,(Yo h).symm⟩
inductive Fv(C:VI)(vs:List V)(H:Hp)(Q:VK)(E:XK):Prop|mk (p b:VI) (d:PD) (_:vs=[.ref p]) (_:WB C H p b d) (_:Q (.int (d.at'+ d.ns.length)) H)
theorem LZ{C:VI}(F:N0 P w K mg base C "end" 1 ["self"] [] (Iq C)):N0 P w K mg base C "end" 1 ["self"] [] (Fv C):=
 F.imp fun vs H Q E zz=>by rcases zz with⟨p,b,d,e,h,q⟩;exact ⟨p,_,_,_,d.at',b,_,_,_,e,h.ats,h.bd,by rw[List.length_map];exact q⟩
end
def gK(n:Nat):L2.St->Nat
 |[_,_,_,_,some (.int lo),_]=>n - lo.toNat
 |_=>0
theorem Zs{c e F R:Prop}[Decidable c][Decidable e](h:c->¬e)(r:R):if c then(if e then F else R) else R:=by
 by_cases hc:c
 .rw[Y9 hc,Y2 (h hc)];exact r
 .rw[Y2 hc];exact r
def Jk(w:Nat):Nat:=w - w%8
def PD.part(d:PD)(lo hi:Nat):PD:=⟨d.nu,d.z1,d.z2,d.at'+ lo,(d.ns.drop lo).take (hi - lo),d.mo||decide (hi < d.ns.length),d.k⟩
def Wa(w:Nat)(d:PD)(lo:Nat):List PD:=
 if h:w < d.ns.length - lo/\8 <=w then d.part lo (lo+ Jk w)::Wa w d (lo+ Jk w) else [d.part lo d.ns.length]
termination_by d.ns.length - lo
decreasing_by unfold Jk;omega
theorem RP{w:Nat}{d:PD}{lo:Nat}(h:w < d.ns.length - lo)(h8:8 <=w):Wa w d lo=d.part lo (lo+ Jk w)::Wa w d (lo+ Jk w):=by
 rw[Wa,dif_pos ⟨h,h8⟩]
theorem Eu{w:Nat}{d:PD}{lo:Nat}(h:¬w < d.ns.length - lo):Wa w d lo=[d.part lo d.ns.length]:=by
 rw[Wa,dif_neg (fun z=>h z.1)]
theorem PD.part_len{d:PD}{lo hi:Nat}(h1:lo <=hi)(h2:hi <=d.ns.length):(d.part lo hi).ns.length=hi - lo:=by
 show((d.ns.drop lo).take (hi - lo)).length=_;rw[YD,V0];omega
theorem PD.part_ok{d:PD}(ok:d.Ok){lo hi:Nat}(h1:lo < hi)(h2:hi <=d.ns.length)(h8:lo%8=0)(hh:hi=d.ns.length\/hi%8=0):(d.part lo hi).Ok:=by
 have b:=PD.part_len (d:=d) (X5 h1) h2;have l2:=ok.l2;have a8:=ok.a8;have a0:=ok.a0;refine⟨ok.n0,ok.n1,ok.k1,ok.k2,by omega,by omega,fun x a=>ok.by' x (List.mem_of_mem_drop (List.mem_of_mem_take a)),?_,?_,?_⟩
 .show 0 <=d.at'+ (lo:Int);omega
 .show(d.at'+ (lo:Int))%8=0;omega
 .rw[b];have rm:=ok.rm;show GZ (d.at'+ (lo:Int)) ((hi - lo:Nat):Int) (d.mo||decide (hi < d.ns.length))=true;unfold GZ at rm ⊢;cases e:d.mo
  .rw[e]at rm;simp only[Bool.false_eq_true,if_false,Yy]at rm
   by_cases hlt:hi < d.ns.length
   .simp only[hlt,YX,Bool.or_true,if_true,YF,Yy];omega
   .simp only[hlt,YT,Bool.or_false,Bool.false_eq_true,if_false,Yy];omega
  .rw[e]at rm;simp only[if_true,YF,Yy]at rm;simp only[Vt,if_true,YF,Yy];omega
section
variable{P:VB}{w:VF}{K:VG}{mg:Vx}{base:VM}
inductive Ih(vs:List V)(H:Hp)(Q:VK)(E:XK):Prop|mk (x n:_) (_:vs=[x]) (_:WY H x=some n) (_:Q (.bl (N1 x 8 5000)) H)
abbrev Lf:Stmt:=WW 20
theorem jU:WQ ["value"] ["value"] (VO Lf):=by walk_at"e"
theorem uK{f:VI}{fd:VD}(F:WX K "is_width" "is_width" Lf f fd)(T:Cn mg)(Wg:JA P w K mg base "is_whole_within" 2 ["value","low","high"] [] Cc):VW P w K mg base WK 3 f fd ["value"] Ih:=by
 refine F.ok jU (fun vs H Q E h=>?_) (fun b A outer s H vs Q E a h=>?_)
 .obtain⟨x,n,rfl,_⟩:=h;rfl
 .obtain⟨x,n,rfl,ty,q⟩:=h;refine⟨_,(Wc (WL (JT Wg a.m rfl (Wb 0 (VR (hs:=Wq) (Do rfl T.c_LEAST_WIDTH) (VR (hs:=Wq) (Do rfl T.c_MOST_WIDTH) VT)))))),?_⟩;walk_at"rd";exact⟨x,n,8,5000,rfl,ty,q⟩
inductive P5(vs:List V)(H:Hp)(Q:VK)(E:XK):Prop|mk (w:Nat) (_:vs=[.int w]) (_:Q (.int (Jk w)) H)
abbrev Lh:Stmt:=WW 46
theorem tW:WQ ["width"] ["width"] (VO Lh):=by walk_at"e"
theorem SB{f:VI}{fd:VD}(F:WX K "full_length" "full_length" Lh f fd)(T:Cn mg):VW P w K mg base WK 1 f fd ["width"] P5:=by
 refine F.ok tW (fun vs H Q E h=>?_) (fun a A outer s H vs Q E b h=>?_)
 .obtain⟨x,rfl,_⟩:=h;rfl
 .obtain⟨x,rfl,q⟩:=h;refine⟨_,(Wc (WL (J0 (Jp HG) (VQ 0) (J0 (dI MN) (VQ 0) (Do rfl T.c_STEP))))),?_⟩;walk_at"rd";refine⟨by decide,?_⟩;have e:(x:Int) - (x:Int)%8=((Jk x:Nat):Int):=by unfold Jk;omega
  rw[e];exact q
inductive ID(C:VI)(vs:List V)(H:Hp)(Q:VK)(E:XK):Prop|mk (p b:VI) (d:PD) (lo hi:Nat) (_:vs=[.ref p,.int lo,.int hi]) (_:WB C H p b d) (_:lo < hi) (_:hi <=d.ns.length) (_:lo%8=0) (_:(hi=d.ns.length\/hi%8=0)) (_:∀q b' G,H q=none->H b'=none->VP H G->WB C G q b' (d.part lo hi)->Q (.ref q) G)
abbrev IL:Stmt:=WW 47
theorem Oi:WQ ["piece","low","high","more"] ["piece","low","high"] (VO IL):=by walk_at"e"
theorem gX{f C:VI}{fd:VD}(F:WX K "part_of" "part_of" IL f fd)(B:Bt mg)(LP:Mn K C)(M4:Tt P w K mg base "Piece" 6 (Fg C)):VW P w K mg base WK 8 f fd ["piece","low","high"] (ID C):=by
 refine F.ok Oi (fun vs H Q E h=>?_) (fun z A outer s H vs Q E x h=>?_)
 .obtain⟨p,b,d,lo,hi,rfl,_⟩:=h;rfl
 .obtain⟨p,b,d,lo,hi,rfl,a,h1,h2,v,u,q⟩:=h;refine⟨_,(W1 (NY 3 Oi (gA (WG K (VQ 0)) (MT (Ts (Jp EF) (VQ 2) (N3 (Gu (DA (K:=K) rfl)) B.len (Nt (WG K (VQ 0)) VT)) (TV _))))) (Wc (WL (D9 M4 x.m rfl (Nt (WG K (VQ 0)) (Nt (WG K (VQ 0)) (Nt (WG K (VQ 0)) (VR (hs:=TU) (J0 (Jp NH) (WG K (VQ 0)) (VQ 1)) (RT (P2 (OY (PX (K:=K) rfl)) (WG K (VQ 0)) (FI (VQ 1)) (FI (VQ 2))) (Wb 3 (Nt (WG K (VQ 0)) VT))))))))))),?_⟩;walk_at"rd";refine⟨_,Hx LP a,_,rfl,?_⟩;cases e:d.mo
  .simp only[Bool.false_eq_true,if_false];refine⟨_,BM LP a,_,rfl,_,.inl (VZ.of a.bd),?_⟩;refine⟨_,Qh LP a,_,LF LP a,_,OX LP a,_,Ms LP a,_,rfl,_,BM LP a,_,rfl,_,VZ.of a.bd,fun l G y s i=>?_⟩;rw[Qr d.ns (X5 h1) h2]at i;refine⟨_,L9 LP (a.mono s),d.part lo hi,l,?_,PD.part_ok a.ok h1 h2 v u,i,fun j o r n c s' g=>q j o r (s.free n) (s.free c) (s.trans s') g⟩;simp only[PD.part,e,Bool.false_or,List.length_map]
   congr 6
   simp
  .simp only[if_true];refine⟨_,Qh LP a,_,LF LP a,_,OX LP a,_,Ms LP a,_,rfl,_,BM LP a,_,rfl,_,VZ.of a.bd,fun l G y s i=>?_⟩;rw[Qr d.ns (X5 h1) h2]at i;refine⟨_,L9 LP (a.mono s),d.part lo hi,l,?_,PD.part_ok a.ok h1 h2 v u,i,fun j o r n c s' g=>q j o r (s.free n) (s.free c) (s.trans s') g⟩;simp only[PD.part,e,Vt]
def JD(C:VI)(H G:Hp)(ps:List (Addr×Addr))(ds:List PD):Prop:=Paired (fun(q:Addr×Addr) (d:PD)=>WB C G q.1 q.2 d/\H q.1=none/\H q.2=none) ps ds
inductive BW(C NW TW:VI)(vs:List V)(H:Hp)(Q:VK)(E:XK):Prop|mk (p b:VI) (d:PD) (x:V) (t:String) (_:vs=[.ref p,x]) (_:WB C H p b d) (_:WY H x=some t) (_:((N1 x 8 5000=false/\E (.ref NW) none H)\/∃w:Nat,x= .int w/\8 <=w/\w <=5000/\(d.k=true->w < d.ns.length->E (.ref TW) none H)/\((d.k=true->d.ns.length <=w)->∀l ps G,H l=none->VP H G->G l=some (.lst (ps.map fun q=>V.ref q.1))->JD C H G ps (Wa w d 0)->Q (.ref l) G)))
abbrev IG:Stmt:=WW 48
theorem EB:WQ ["piece","width","length","told","low","high"] ["piece","width"] (VO IG):=by walk_at"e"
theorem JD.len{C:VI}{H G:Hp}{ps:List (Addr×Addr)}{ds:List PD}(h:JD C H G ps ds):ps.length=ds.length:=Paired.length h
theorem JD.mono{C:VI}{H G G':Hp}{ps:List (Addr×Addr)}{ds:List PD}(s:VP G G')(h:JD C H G ps ds):JD C H G' ps ds:=by
 induction h with
 |nil=>exact .nil
 |cons r _ ih=>exact .cons ⟨r.1.mono s,r.2⟩ ih
theorem JD.snoc{C:VI}{H G:Hp}{ps:List (Addr×Addr)}{ds:List PD}{q b:VI}{d:PD}(h:JD C H G ps ds)(hq:WB C G q b d)(h1:H q=none)(h2:H b=none):JD C H G (ps++[(q,b)]) (ds++[d]):=by
 induction h with
 |nil=>exact .cons ⟨hq,h1,h2⟩ .nil
 |cons r _ ih=>exact .cons r ih
theorem JD.but{C:VI}{H G G':Hp}{l:VI}{ps:List (Addr×Addr)}{ds:List PD}(s:WP l G G')(hl:∀q∈ps,q.1≠l/\q.2≠l)(h:JD C H G ps ds):JD C H G' ps ds:=by
 induction h with
 |nil=>exact .nil
 |cons r _ ih=>exact .cons ⟨r.1.but s (hl _ Yq).1 (hl _ Yq).2,r.2⟩ (ih fun q a=>hl q (Ya _ a))
theorem QC(w:Nat)(d:PD)(lo:Nat):(Wa w d lo).length <=d.ns.length - lo+ 1:=by
 fun_induction Wa w d lo with
 |case1 lo h ih=>rw[List.length_cons];unfold Jk at*;omega
 |case2 lo h=>simp
theorem Zk{f C NW TW:VI}{fd:VD}(F:WX K "cut_again" "cut_again" IG f fd)(B:Bt mg)(LP:Mn K C)(X_NoWidth:XC K mg "NoWidth" NW)(X_TooWide:XC K mg "TooWide" TW)(JI:JA P w K mg base "is_width" 3 ["value"] [] Ih)(JP:JA P w K mg base "full_length" 1 ["width"] [] P5)
  (Nn:JA P w K mg base "part_of" 8 ["piece","low","high"] [] (ID C)):VW P w K mg base (N4 P w) 9 f fd ["piece","width"] (BW C NW TW):=by
 refine F.okX EB (fun vs H Q E h=>?_) (fun cdv A outer s H vs Q E hr h=>?_)
 .obtain⟨p,b,d,x,t,rfl,_⟩:=h;rfl
 .obtain⟨p,b,d,x,n,rfl,hP,ty,hc⟩:=h;refine⟨_,(W1 (Jj (Nq (N6 (JT JI hr.m rfl (Wb 1 VT)))) (Wc (Gq Ma rfl rfl X_NoWidth Wm)) Jw) (W1 (NY 2 EB (N3 (Gu (DA (K:=K) rfl)) B.len (Nt (WG K (VQ 0)) VT))) (W1 (Jj (PW.pt (FC (N6 (WG K (VQ 0))) (IB (N8 (Jp Ba) (VQ 2) (VQ 1))))) (Wc (Gq Ma rfl rfl X_TooWide Wm)) Jw) (W1 (NY 3 EB (WO VT)) (W1 (NY 4 EB W3) (W1 (Zp Xt (N8 (Jp Ba) (J0 (Jp HG) (VQ 2) (VQ 4)) (VQ 1)) (W1 (NY 5 EB (J0 (Jp NH) (VQ 4) (JT JP hr.m rfl (Wb 1 VT)))) (W1 (JR (Nu (K:=K) rfl Yc Yf Yg (Tn Tq) (VQ 3) (MG (JT Nn hr.m rfl (Wb 0 (Wb 4 (Wb 5 VT)))) VT))) (Wc (NY 4 EB (VQ 5)))))) (W1 (JR (Nu (K:=K) rfl Yc Yf Yg (Tn Tq) (VQ 3) (MG (JT Nn hr.m rfl (Wb 0 (Wb 4 (Wb 2 VT)))) VT))) (Wc (WL (VQ 3)))))))))),?_⟩;refine We fun N hN=>?_
  walk_at"rd";refine⟨x,n,rfl,ty,?_⟩;rcases hc with⟨ew,qn⟩|⟨w',rfl,w8,w5,qt,q⟩
  .rw[ew];exact⟨_,rfl,qn⟩
  have ew:N1 (.int (w':Int)) 8 5000=true:=by simp[N1];omega
  rw[ew];refine⟨_,rfl,?_⟩;rw[Y2 (by simp)];refine hN _ _ ?_;clear hN N;walk_at"rd";refine⟨_,BM LP hP,_,rfl,_,.inl (VZ.of hP.bd),_,L9 LP hP,_,rfl,?_⟩;rw[List.length_map]
  by_cases tw:d.k=true/\w' < d.ns.length
  .rw[Y9 tw.1];have:(w':Int) < (d.ns.length:Int):=by omega
   rw[Y9 (by simpa using this)];exact qt tw.1 tw.2
  have hk:d.k=true->d.ns.length <=w':=fun z=>by
   by_cases y:w' < d.ns.length
   .exact absurd ⟨z,y⟩ tw
   .omega
  have q:=q hk;refine Zs (fun h=>?_) ?_
  .have:=hk h;simp;omega
  refine⟨Wi (by simp),fun l G0 hl s0 hG0=>?_⟩;have h2:=hP.ok.l2;have h1:=hP.ok.l1;obtain⟨Pw,ePw⟩:∃Pw:L2.St->Hp->Prop,Pw=fun σ' G=>∃ (lo:Nat) (v:Option V) (ps:List (Addr×Addr)) (ds:List PD),σ'=[some (.ref p),some (.int w'),some (.int d.ns.length),some (.ref l),some (.int lo),v]/\lo < d.ns.length/\lo%8=0/\VP H G/\G l=some (.lst (ps.map fun q=>V.ref q.1))/\(∀q∈ps,q.1≠l/\q.2≠l)/\JD C H G ps ds/\ds++Wa w' d lo=Wa w' d 0:=⟨_,rfl⟩
  have lenOf:∀ (ps:List (Addr×Addr)) (ds:List PD) (G:Hp) (lo:Nat),JD C H G ps ds->ds++Wa w' d lo=Wa w' d 0->ps.length <=4001:=fun ps ds G lo hp e=>by
   have e1:=YH List.length e;rw[Yx,<-hp.len]at e1;have:=QC w' d 0;omega
  have app:∀{ps:List (Addr×Addr)} {ds:List PD} {G G1 i:Hp} {a g:VI} {d':PD},VP H G->G l=some (.lst (ps.map fun q=>V.ref q.1))->(∀q∈ps,q.1≠l/\q.2≠l)->JD C H G ps ds->G a=none->G g=none->VP G G1->WB C G1 a g d'->WP l G1 i->i l=some (.lst (ps.map (fun q=>V.ref q.1)++[.ref a]))->
    VP H i/\i l=some (.lst ((ps++[(a,g)]).map fun q=>V.ref q.1))/\(∀q∈ps++[(a,g)],q.1≠l/\q.2≠l)/\JD C H i (ps++[(a,g)]) (ds++[d']):=by
   intro ps ds G G1 i a g d' j c o hp hq hb s1 r b2 u;have n1:a≠l:=Ne.symm (WJ c hq);have n2:g≠l:=Ne.symm (WJ c hb);refine⟨(j.trans s1).butNew b2 hl,by rw[u,Yp];rfl,fun q hq'=>?_,?_⟩
   .rcases YG.mp hq' with h|h
    .exact o q h
    .rw[Yn.mp h];exact⟨n1,n2⟩
   .exact((hp.mono s1).but b2 o).snoc (r.but b2 n1 n2) (j.free hq) (j.free hb)
  refine vX Pw (fun σ' _=>gK d.ns.length σ') (by rw[ePw];exact⟨0,_,[],[],rfl,by omega,rfl,s0,hG0,(fun _ h=>nomatch h),.nil,rfl⟩) ?_;intro σ' G hPw;rw[ePw]at hPw;obtain⟨lo,v,ps,ds,rfl,hlo,lo8,j,c,o,hp,hds⟩:=hPw;walk_at"rd";have hlen:=lenOf ps ds G lo hp hds;refine GN (fun hlt=>?_) (fun hlt=>?_)
  .have hlt':w' < d.ns.length - lo:=by
    have:(w':Int) < (d.ns.length:Int) - (lo:Int):=by simpa using hlt
    omega
   have f8:8 <=Jk w'/\Jk w' <=w'/\Jk w'%8=0:=by unfold Jk;omega
   refine⟨fun σ2 H2=>Pw σ2 H2/\∃v,σ2=[some (.ref p),some (.int w'),some (.int d.ns.length),some (.ref l),some (.int ((lo+ Jk w':Nat):Int)),v],?_,?_⟩
   .intro σ2 H2 Zq;obtain⟨p2,v2,rfl⟩:=Zq;refine⟨_,?_,rfl,p2⟩;show d.ns.length - ((lo+ Jk w':Nat):Int).toNat < d.ns.length - ((lo:Nat):Int).toNat;omega
   .refine⟨w',rfl,?_⟩
    try walk_at"rd"
    refine⟨.inl ⟨rfl,_,VZ.of c⟩,?_⟩;refine⟨p,b,d,lo,lo+ Jk w',rfl,hP.mono j,by omega,by omega,lo8,.inr (by omega),fun a g G1 hq hb s1 r=>?_⟩
    try walk_at"rd"
    refine⟨_,s1 l _ c,Ml (by rw[List.length_map];omega),fun i b2 u=>?_⟩;obtain⟨a1,a2,a3,a4⟩:=app j c o hp hq hb s1 r b2 u;rw[ePw];refine⟨⟨lo+ Jk w',_,_,_,rfl,by omega,by omega,a1,a2,a3,a4,?_⟩,by omega⟩;rw[<-hds,RP hlt' w8];simp
  .have hlt':¬w' < d.ns.length - lo:=by
    have:¬(w':Int) < (d.ns.length:Int) - (lo:Int):=by simpa using hlt
    omega
   refine⟨.inl ⟨rfl,_,VZ.of c⟩,?_⟩;refine⟨p,b,d,lo,d.ns.length,rfl,hP.mono j,hlo,Y1 _,lo8,.inl rfl,fun a g G1 hq hb s1 r=>?_⟩
   try walk_at"rd"
   refine⟨_,s1 l _ c,Ml (by rw[List.length_map];omega),fun i b2 u=>?_⟩;obtain⟨a1,a2,a3,a4⟩:=app j c o hp hq hb s1 r b2 u;rw[<-Eu hlt',hds]at a4;exact q l _ i hl a1 a2 a4
inductive Kp(CL CP NW TW:VI)(vs:List V)(H:Hp)(Q:VK)(E:XK):Prop|mk (p b:VI) (d:LD) (x:V) (t:String) (_:vs=[.ref p,x]) (_:Jt CL H p b d) (_:WY H x=some t) (_:((N1 x 8 5000=false/\∀G,VP H G->E (.ref NW) none G)\/∃w:Nat,x= .int w/\8 <=w/\w <=5000/\(d.k=true->w < d.ns.length->∀G,VP H G->E (.ref TW) none G)/\((d.k=true->d.ns.length <=w)->∀l ps G,H l=none->VP H G->G l=some (.lst (ps.map fun q=>V.ref q.1))->JD CP H G ps (Wa w d.whole 0)->Q (.ref l) G)))
abbrev H9:Stmt:=WW 49
theorem O7:WQ ["letter","width","whole"] ["letter","width"] (VO H9):=by walk_at"e"
theorem JD.old{C:VI}{H0 H G:Hp}{ps:List (Addr×Addr)}{ds:List PD}(s:VP H0 H)(h:JD C H G ps ds):JD C H0 G ps ds:=by
 induction h with
 |nil=>exact .nil
 |cons r _ ih=>exact .cons ⟨r.1,s.free r.2.1,s.free r.2.2⟩ ih
theorem tE{f CL CP NW TW:VI}{fd:VD}(F:WX K "cut" "cut" H9 f fd)(LL:R0 K CL)(M4:Tt P w K mg base "Piece" 6 (Fg CP))(Jq:Gv P w K mg base "cut_again" 9 ["piece","width"] [] (BW CP NW TW)):VW P w K mg base (N4 P w) 10 f fd ["letter","width"] (Kp CL CP NW TW):=by
 refine F.okX O7 (fun vs H Q E h=>?_) (fun cdv A outer s H vs Q E g h=>?_)
 .obtain⟨p,b,d,x,t,rfl,_⟩:=h;rfl
 .obtain⟨p,b,d,x,n,rfl,c,ty,z⟩:=h;refine⟨_,(W1 (NY 2 O7 (D9 M4 g.m rfl (Nt (WG K (VQ 0)) (Nt (WG K (VQ 0)) (Nt (WG K (VQ 0)) (MK W3 (Nt (WG K (VQ 0)) (MK TQ (Nt (WG K (VQ 0)) VT))))))))) (Wc (WL (GG Jq g.m rfl (NK Ma (fun _ _ h=>h)) (Wb 2 (Wb 1 VT)))))),?_⟩;walk_at"rd";refine⟨_,y9 LL c,_,y8 LL c,_,dQ LL c,_,wE LL c,_,Zw LL c,?_⟩;refine⟨d.whole,b,rfl,LD.whole_ok c.ok,c.bd,fun r b1 i h1 h2 s1 hP=>?_⟩
  try walk_at"rd"
  refine⟨r,b1,d.whole,x,n,rfl,hP,TN s1 ty,?_⟩;rcases z with⟨a,q⟩|⟨w',e,w8,w5,qt,q⟩
  .exact .inl ⟨a,q i s1⟩
  .exact .inr ⟨w',e,w8,w5,fun o j=>qt o j i s1,fun y l ps G v s2 hG u=>q y l ps G (s1.free v) (s1.trans s2) hG (u.old s1)⟩
end
theorem PD.part_part{d:PD}{lo hi a b:Nat}(h1:lo <=hi)(h2:hi <=d.ns.length)(hab:a <=b)(hb:b <=hi - lo):(d.part lo hi).part a b=d.part (lo+ a) (lo+ b):=by
 have c:=PD.part_len (d:=d) h1 h2;unfold PD.part at c ⊢;dsimp only at c ⊢;rw[c];have g:d.at'+ (lo:Int)+ (a:Int)=d.at'+ ((lo+ a:Nat):Int):=by omega
 have f:List.take (b - a) (List.drop a (List.take (hi - lo) (List.drop lo d.ns)))=List.take (lo+ b - (lo+ a)) (List.drop (lo+ a) d.ns):=by
  rw[List.drop_take,List.drop_drop,List.take_take]
  congr 1
  omega
 have e:((d.mo||decide (hi < d.ns.length))||decide (b < hi - lo))=(d.mo||decide (lo+ b < d.ns.length)):=by
  by_cases h3:b < hi - lo
  .rw[Yw h3,Yw (show lo+ b < d.ns.length by omega)];simp
  .have:lo+ b=hi:=by omega
   rw[Yt h3,this];simp
 rw[g,f,e]
theorem PD.part_all(d:PD):d.part 0 d.ns.length=d:=by
 unfold PD.part;cases d;simp
theorem E3{w:Nat}{d:PD}(h:d.ns.length <=w):Wa w d 0=[d]:=by
 rw[Eu (by omega),PD.part_all]
def Nm(d:PD):Nat->Nat->List PD->Prop
 |lo,hi,[]=>lo=hi
 |lo,hi,e::r=>∃m,lo < m/\m <=hi/\e=d.part lo m/\(m=hi\/m%8=0)/\Nm d m hi r
theorem Nm.le{d:PD}:∀{es:List PD} {lo hi:Nat},Nm d lo hi es->lo <=hi
 |[],_,_,h=>UZ h
 |_::_,_,_,⟨_,h1,_,_,_,h⟩=>Yu (X5 h1) (Nm.le h)
theorem Nm.app{d:PD}:∀{es fs:List PD} {lo m hi:Nat},Nm d lo m es->Nm d m hi fs->(m=hi\/m%8=0)->Nm d lo hi (es++fs)
 |[],_,_,_,_,h,g,_=>by cases h;exact g
 |e::es,fs,lo,m,hi,⟨k,h1,h2,h3,h4,h⟩,g,h8=>⟨k,h1,Yu h2 g.le,h3,by rcases h4 with rfl|h4;exact h8;exact .inr h4,Nm.app h g h8⟩
theorem Cy{w:Nat}{d:PD}(h8:8 <=w):∀ (n lo:Nat),d.ns.length - lo <=n->lo < d.ns.length->lo%8=0->Nm d lo d.ns.length (Wa w d lo)
 |0,lo,h,hl,_=>by omega
 |n+ 1,lo,h,hl,hm=>by
  by_cases hc:w < d.ns.length - lo
  .rw[RP hc h8];have f8:8 <=Jk w/\Jk w <=w/\Jk w%8=0:=by unfold Jk;omega
   exact⟨lo+ Jk w,by omega,by omega,rfl,.inr (by omega),Cy h8 n _ (by omega) (by omega) (by omega)⟩
  .rw[Eu hc];exact⟨_,hl,Y1 _,rfl,.inl rfl,rfl⟩
theorem Nm.part{d:PD}{lo hi:Nat}(h1:lo <=hi)(h2:hi <=d.ns.length)(h8:lo%8=0):∀{es:List PD} {a b:Nat},a <=b->b <=hi - lo->Nm (d.part lo hi) a b es->Nm d (lo+ a) (lo+ b) es
 |[],a,b,_,_,h=>by have h:a=b:=h;subst h;rfl
 |e::es,a,b,hab,hb,⟨m,k1,k2,k3,k4,h⟩=>by
  refine⟨lo+ m,by omega,by omega,?_,by rcases k4 with k4|k4 <;> omega,Nm.part h1 h2 h8 k2 hb h⟩;rw[k3,PD.part_part h1 h2 (by omega) (by omega)]
def TM(w:Nat)(ds:List PD):List PD:=ds.flatMap fun d=>Wa w d 0
def WM(ws:List Nat)(ds:List PD):List PD:=ws.foldl (fun ds w=>TM w ds) ds
theorem yO(w:Nat)(ws:List Nat)(ds:List PD):WM (w::ws) ds=WM ws (TM w ds):=rfl
theorem Lb{w:Nat}{d:PD}(h8:8 <=w):∀{es:List PD} {lo hi:Nat},hi <=d.ns.length->lo%8=0->Nm d lo hi es->Nm d lo hi (TM w es)
 |[],_,_,_,_,h=>h
 |e::es,lo,hi,hh,hl,⟨m,k1,k2,k3,k4,h⟩=>by
  show Nm d lo hi (Wa w e 0++TM w es);have hlen:e.ns.length=m - lo:=by rw[k3];exact PD.part_len (by omega) (by omega)
  have c:=Cy (d:=e) h8 _ 0 (Y1 _) (by omega) rfl;rw[hlen,k3]at c;have c':=Nm.part (by omega) (by omega) hl (Yh _) (Y1 _) c;rw[Nat.add_zero,show lo+ (m - lo)=m by omega,<-k3]at c';rcases k4 with rfl|k4
  .cases es with
   |nil=>exact Nm.app c' rfl (.inl rfl)
   |cons e' r=>obtain⟨f,b,a,_⟩:=h;omega
  .exact Nm.app c' (Lb h8 hh k4 h) (.inr k4)
theorem Qi{d:PD}:∀{ws:List Nat} {es:List PD},(∀w∈ws,8 <=w)->Nm d 0 d.ns.length es->Nm d 0 d.ns.length (WM ws es)
 |[],_,_,h=>h
 |w::ws,es,hw,h=>Qi (ws:=ws) (fun x hx=>hw x (Ya _ hx)) (Lb (hw w Yq) (Y1 _) rfl h)
theorem LH{w:Nat}{d:PD}(h8:8 <=w):∀ (n lo:Nat),d.ns.length - lo <=n->lo <=d.ns.length->∀e∈Wa w d lo,e.ns.length <=w/\e.ns.length <=d.ns.length/\e.k=d.k
 |0,lo,h,hl,e,he=>by
  rw[Eu (by omega)]at he;rw[Yn.mp he,PD.part_len (by omega) (Y1 _)];exact⟨by omega,by omega,rfl⟩
 |n+ 1,lo,h,hl,e,he=>by
  by_cases hc:w < d.ns.length - lo
  .rw[RP hc h8]at he;have f8:8 <=Jk w/\Jk w <=w/\Jk w%8=0:=by unfold Jk;omega
   rcases Y6.mp he with rfl|he
   .rw[PD.part_len (by omega) (by omega)];exact⟨by omega,by omega,rfl⟩
   .exact LH h8 n _ (by omega) (by omega) e he
  .rw[Eu hc]at he;rw[Yn.mp he,PD.part_len hl (Y1 _)];exact⟨by omega,by omega,rfl⟩
theorem QN{w:Nat}(h8:8 <=w){ds:List PD}{e:PD}(he:e∈TM w ds):∃d∈ds,e.ns.length <=w/\e.ns.length <=d.ns.length/\e.k=d.k:=by
 obtain⟨d,hd,he⟩:=List.mem_flatMap.mp he;exact⟨d,hd,LH h8 _ 0 (Y1 _) (Yh _) e he⟩
theorem Ff(w:Nat)(d:PD):TM w [d]=Wa w d 0:=by simp[TM]
def Sf(F:List Nat)(w:Nat):List Nat:=if ∀f∈F,w < f then F++[w] else F
def Oo(ws:List Nat):List Nat:=ws.foldl Sf []
theorem ZK(a b:List Nat)(ds:List PD):WM (a++b) ds=WM b (WM a ds):=by unfold WM;rw[List.foldl_append]
def tot(ds:List PD):Nat:=(ds.map fun d=>d.ns.length).sum
theorem Nm.tot{d:PD}:∀{es:List PD} {lo hi:Nat},hi <=d.ns.length->Nm d lo hi es->Mine.tot es=hi - lo/\es.length <=hi - lo
 |[],lo,hi,_,h=>by have h:lo=hi:=h;subst h;exact⟨by simp[Mine.tot],by simp⟩
 |e::es,lo,hi,hh,⟨m,k1,k2,k3,_,h⟩=>by
  obtain⟨a,b⟩:=Nm.tot hh h;have c:e.ns.length=m - lo:=by rw[k3];exact PD.part_len (by omega) (by omega)
  have:=h.le;refine⟨?_,?_⟩
  .show e.ns.length+ Mine.tot es=_;omega
  .rw[List.length_cons];omega
section
variable{P:VB}{w:VF}{K:VG}{mg:Vx}{base:VM}
def Dy(ws:List Nat):List V:=ws.map fun w=>V.int (w:Nat)
theorem IX(ws:List Nat):(Dy ws).length=ws.length:=List.length_map ..
theorem yH{ws:List Nat}{i:Nat}{x:V}(h:(Dy ws)[i]?=some x):∃w,ws[i]?=some w/\x= .int (w:Nat):=by
 unfold Dy at h;rw[Yk]at h;cases e:ws[i]? with
 |none=>rw[e]at h;cases h
 |some w=>rw[e]at h;exact⟨w,rfl,(Yo h).symm⟩
def ES(ws:List Nat):Prop:=∀w∈ws,8 <=w/\w <=5000
def Tj(H:Hp):V->Bool
 | .ref a => (match H a with
  |some (.lst xs)=>decide (1 <=xs.length) && decide (xs.length <=20) && xs.all (fun y=>N1 y 8 5000)
  | _ => false)
 |_=>false
theorem CK{H:Hp}{a:VI}{xs:List V}(h:H a=some (.lst xs)):Tj H (.ref a)=(decide (1 <=xs.length) && decide (xs.length <=20) && xs.all (fun y=>N1 y 8 5000)):=by
 show(match H a with|some (.lst xs)=>decide (1 <=xs.length) && decide (xs.length <=20) && xs.all (fun y=>N1 y 8 5000)|_=>false)=_;rw[h]
theorem tU{H:Hp}{x:V}(h:DY H x=false):Tj H x=false:=by
 cases e:Tj H x with
 |false=>rfl
 |true=>
  cases x with
  |ref a=>
   have b:(match H a with|some (.lst xs)=>decide (1 <=xs.length) && decide (xs.length <=20) && xs.all (fun y=>N1 y 8 5000)|_=>false)=true:=e;cases ha:H a with
   |none=>rw[ha]at b;cases b
   |some o=>
    cases o with
    |lst xs=>
     have h':(match H a with|some (.lst xs)=>true|_=>false)=false:=h;rw[ha]at h';cases h'
    |_=>rw[ha]at b;cases b
  |_=>cases e
theorem uZ{H:Hp}{l:VI}{ws:List Nat}(h:H l=some (.lst (Dy ws)))(h1:1 <=ws.length)(h2:ws.length <=20)(hw:ES ws):Tj H (.ref l)=true:=by
 rw[CK h,IX,Yw h1,Yw h2];simp only[X8,YK];intro y a;obtain⟨n,b,rfl⟩:=Yv.mp a;have:=hw n b;simp[N1];omega
theorem xX{H:Hp}{l:VI}{ws:List Nat}(h:H l=some (.lst (Dy ws)))(h2:ws.length <=20):(∃t,WY H (.ref l)=some t)/\WH H (.ref l):=by
 refine⟨⟨_,Ww h⟩,fun a xs d b=>?_⟩;cases d;rw[h]at b;cases b;refine⟨by rw[IX];omega,fun y c=>?_⟩;obtain⟨n,_,rfl⟩:=Yv.mp c;exact⟨_,rfl⟩
inductive Qe(vs:List V)(H:Hp)(Q:VK)(E:XK):Prop|mk (x n:_) (_:vs=[x]) (_:WY H x=some n) (_:WH H x) (_:∀H',VP H H'->Q (.bl (Tj H x)) H')
abbrev Cz:Stmt:=WW 21
theorem Zl:WQ ["value"] ["value"] (VO Cz):=by walk_at"e"
theorem uY{f:VI}{fd:VD}(F:WX K "are_widths" "are_widths" Cz f fd)(T:Cn mg)(B:Bt mg)(JI:JA P w K mg base "is_width" 3 ["value"] [] Ih):VW P w K mg base WK 4 f fd ["value"] Qe:=by
 refine F.ok Zl (fun vs H Q E h=>?_) (fun cdv A outer s H vs Q E hr h=>?_)
 .obtain⟨x,n,rfl,_⟩:=h;rfl
 .obtain⟨x,n,rfl,ty,hz,q⟩:=h;refine⟨_,(W1 (Jj (PW.pt (Mf (Nq (N6 (N3 (DJ "list") B.isinstance (Wb 0 (VR (hs:=Wq) (Dv (v:=.ty "list") rfl B.blist (by rfl) rfl) VT))))) (Mr (Nq (Ko (Jp Dx) (Jp Dx) W3 (N3 (Gu (DA (K:=K) rfl)) B.len (Wb 0 VT)) (Do rfl T.c_MOST_WIDTHS)))))) (Wc (WL TQ)) Jw) (Wc (WL (N3 (B8 (K:=K) rfl rfl) B.all (VR (hs:=Ef) (DL (N':=["part"]) (caps:=[none]) (Me (sc:=VO Cz) (N:=["value"]) rfl rfl (by decide +kernel)) rfl (TK (K:=K) rfl (VQ 0)) (fun _ _ _ _ _=>(Tg (i:=0) (TH (N:=["part"]) rfl (by decide +kernel)) rfl (Or.inl rfl))) (fun _ _ _ _ _=>D5) (fun _ _ _ _ _=>(JT JI hr.m rfl (Wb 0 VT)))) VT))))),?_⟩;walk_at"rd";refine⟨n,ty,?_⟩;rw[Cv ty];cases hL:DY H x with
  |false=>
   simp only[Bool.not_false,if_true];have e:=tU hL;rw[e]at q;exact q H (VP.refl H)
  |true=>
   obtain⟨a,xs,rfl,c⟩:=CC hL;obtain⟨l,u⟩:=hz a xs rfl c;rw[CK c]at q;simp only[Bool.not_true,Bool.false_eq_true,if_false];walk_at"rd";refine⟨xs,.inl (VZ.of c),?_⟩
   by_cases h1:1 <=xs.length
   .have g:(1:Int) <=(xs.length:Int):=by omega
    simp only[g,YX,if_true]
    by_cases h2:xs.length <=20
    .have d:(xs.length:Int) <=20:=by omega
     simp only[d,YX,Bool.not_true,Bool.false_eq_true,if_false];refine⟨⟨xs,VZ.of c⟩,?_⟩;obtain⟨o,b⟩:∃o:Nat->List V->L2.St->Hp->Prop,o=fun i ys σ' H1=>H1=H/\i <=xs.length/\ys=(xs.take i).map (fun y=>V.bl (N1 y 8 5000))/\∃v,σ'=[v]:=⟨_,rfl⟩
     refine Db (xs:=xs) o (by rw[b];exact⟨rfl,Yh _,by simp,none,rfl⟩) ?_ (Wi l) ?_ ?_ <;> rw[b]
     .rintro i ys σ' H1 ⟨rfl,hi,rfl,_⟩ _;refine⟨VZ.of c,?_⟩;simp only[List.length_map,YD];omega
     .intro i y ys σ' H1 j Zq;obtain⟨rfl,hi,rfl,v,rfl⟩:=Zq;rw[<-b];have z:i < xs.length:=(Y5.mp j).1;obtain⟨m,hm⟩:=u y (Yd j);walk_at"rd";refine⟨y,m,rfl,hm,?_⟩;rw[b];refine⟨rfl,z,?_,_,rfl⟩;rw[Yz,j,YI,Yp,List.map_cons,List.map_nil]
     .rintro ys σ' H1 ⟨rfl,_,rfl,_⟩ p G0 hp r aa;walk_at"rd";refine⟨xs.map (fun y=>N1 y 8 5000),VZ.of ?_,?_⟩
      .rw[aa,YZ (Y1 _),YB];rfl
      .have e:(xs.map (fun y=>N1 y 8 5000)).all id=(decide (1 <=xs.length) && decide (xs.length <=20) && xs.all (fun y=>N1 y 8 5000)):=by
        simp only[h1,h2,YX,X8,UA];rfl
       rw[e];exact q _ r
    .have d:¬(xs.length:Int) <=20:=by omega
     simp only[d,YT,Bool.not_false,if_true];simp only[h2,YT,XQ,X1]at q;exact q H (VP.refl H)
   .have g:¬(1:Int) <=(xs.length:Int):=by omega
    simp only[g,YT,Bool.false_eq_true,if_false,Bool.not_false,if_true,true_and,exists_eq_left'];simp only[h1,YT,X1]at q;exact q H (VP.refl H)
theorem JD.pieL{C:VI}{H G:Hp}{ps:List (Addr×Addr)}{ds:List PD}(h:JD C H G ps ds):Jc C G ps ds:=by
 induction h with
 |nil=>exact .nil
 |cons r _ ih=>exact .cons r.1 ih
theorem JD.mem{C:VI}{H G:Hp}{ps:List (Addr×Addr)}{ds:List PD}(h:JD C H G ps ds):∀q∈ps,H q.1=none/\H q.2=none:=by
 induction h with
 |nil=>exact fun _ h=>nomatch h
 |cons r _ ih=>
  intro q a;rcases Y6.mp a with rfl|a
  .exact r.2
  .exact ih q a
theorem QS{w:Nat}{ds:List PD}(i:Nat):(TM w (ds.take i)).length <=(TM w ds).length:=by
 have e:TM w ds=TM w (ds.take i)++TM w (ds.drop i):=by
  unfold TM;rw[<-List.flatMap_append,Vl]
 rw[e,Yx];omega
theorem Ps{w:Nat}{ds:List PD}{i:Nat}{d:PD}(h:ds[i]?=some d):TM w (ds.take (i+ 1))=TM w (ds.take i)++Wa w d 0:=by
 rw[Yz,h,YI];unfold TM;rw[List.flatMap_append];simp
inductive Kj(C TW:VI)(vs:List V)(H:Hp)(Q:VK)(E:XK):Prop|mk (l:VI) (ps:List (Addr×Addr)) (ds:List PD) (w:Nat) (_:vs=[.ref l,.int w]) (_:H l=some (.lst (Mg ps))) (_:Jc C H ps ds) (_:8 <=w) (_:w <=5000) (_:(TM w ds).length <=4000) (_:((∃d∈ds,d.k=true/\w < d.ns.length)->∀G,VP H G->E (.ref TW) none G)) (_:((∀d∈ds,d.k=true->d.ns.length <=w)->∀l' ps' G,H l'=none->VP H G->G l'=some (.lst (Mg ps'))->Jc C G ps' (TM w ds)->(∀q∈ps',H q.2=none)->Q (.ref l') G))
abbrev Io:Stmt:=WW 50
theorem Hm:WQ ["pieces","width","told","piece"] ["pieces","width"] (VO Io):=by walk_at"e"
theorem n7{f C NW TW:VI}{fd:VD}(F:WX K "all_cut_again" "all_cut_again" Io f fd)(Jq:Gv P w K mg base "cut_again" 9 ["piece","width"] [] (BW C NW TW)):VW P w K mg base (N4 P w) 10 f fd ["pieces","width"] (Kj C TW):=by
 refine F.okX Hm (fun vs H Q E h=>?_) (fun cdv A outer s H vs Q E hr h=>?_)
 .obtain⟨l,ps,ds,w',rfl,_⟩:=h;rfl
 .obtain⟨l,ps,ds,w',rfl,hl,hp,w8,w5,few,qt,q⟩:=h;refine⟨_,(W1 (NY 2 Hm (WO VT)) (W1 (Gi Xt rfl (TK (K:=K) rfl (VQ 0)) (MC 3 Hm) (Wc (JR (Nu (K:=K) rfl Yc Xc Xd (EX Bs) (VQ 2) (MG (GG Jq hr.m rfl (NK Ma (fun _ _ h=>h)) (Wb 3 (Wb 1 VT))) VT))))) (Wc (WL (VQ 2))))),?_⟩;walk_at"rd";refine⟨Wi (by simp),fun lt G0 hlt s0 hG0=>⟨⟨_,VZ.of (s0 l _ hl)⟩,?_⟩⟩;obtain⟨Pv,aa⟩:∃Pv:Nat->L2.St->Hp->Prop,Pv=fun i σ' G=>∃ (c:List (Addr×Addr)) (v:Option V),σ'=[some (.ref l),some (.int w'),some (.ref lt),v]/\VP H G/\G lt=some (.lst (Mg c))/\Jc C G c (TM w' (ds.take i))/\(∀q∈c,q.1≠lt/\q.2≠lt)/\(∀q∈c,H q.2=none)/\(∀d∈ds.take i,d.k=true->d.ns.length <=w'):=⟨_,rfl⟩
  refine Rs (xs:=Mg ps) Pv (by rw[aa];exact⟨[],none,rfl,s0,hG0,.nil,(fun _ h=>nomatch h),(fun _ h=>nomatch h),(by simp)⟩) ?_ ?_ ?_ <;> rw[aa]
  .intro i σ' G _ Zq;obtain⟨c,v,rfl,g,_⟩:=Zq;exact VZ.of (g l _ hl)
  .intro i x σ' G hx Zq;obtain⟨c,v,rfl,g,o,j,hne,hfr,u⟩:=Zq;rw[<-aa];obtain⟨qq,hqq,rfl⟩:=F6 hx;obtain⟨d,hd,hO⟩:=hp.get hqq;walk_at"rd";refine⟨.inl ⟨rfl,_,VZ.of o⟩,?_⟩;refine⟨qq.1,qq.2,d,_,_,rfl,hO.mono g,rfl,.inr ⟨w',rfl,w8,w5,fun z1 z2=>qt ⟨d,Yd hd,z1,z2⟩ G g,fun hk l1 ps1 G1 hl1 s1 hG1 y=>?_⟩⟩
   try walk_at"rd"
   have hlen:=j.len;have hb:=QS (w:=w') (ds:=ds) (i+ 1);rw[Ps hd,Yx]at hb;have:=few;have hl2:=y.len;refine⟨_,s1 lt _ o,_,hG1,Wi (by rw[Ez,List.length_map];omega),fun G2 b2 hG2=>?_⟩;rw[aa];have hne1:∀q∈ps1,q.1≠lt/\q.2≠lt:=fun q n=>by
    obtain⟨a,b⟩:=y.mem q n;exact⟨fun z=>(by rw[z,o]at a;cases a),fun z=>(by rw[z,o]at b;cases b)⟩
   have p:∀{c:List (Addr×Addr)} {es:List PD},(∀q∈c,q.1≠lt/\q.2≠lt)->Jc C G1 c es->Jc C G2 c es:=by
    intro c es hn h
    induction h with
    |nil=>exact .nil
    |cons r _ ih=>exact .cons (r.but b2 (hn _ Yq).1 (hn _ Yq).2) (ih fun q o=>hn q (Ya _ o))
   refine⟨c++ps1,_,rfl,(g.trans s1).butNew b2 hlt,by rw[hG2,mS];rfl,?_,fun q n=>?_,fun q n=>?_,fun e he=>?_⟩
   .rw[Ps hd];exact(p hne (j.mono s1)).app (p hne1 y.pieL)
   .rcases YG.mp n with h|h
    .exact hne q h
    .exact hne1 q h
   .rcases YG.mp n with h|h
    .exact hfr q h
    .exact g.free (y.mem q h).2
   .rw[Yz,hd,YI]at he;rcases YG.mp he with h|h
    .exact u e h
    .rw[Yn.mp h];exact hk
  .intro σ' G Zq;obtain⟨c,v,rfl,g,o,j,hne,hfr,u⟩:=Zq;walk_at"rd";rw[Ez,hp.len,YO]at j u;exact q u lt c G hlt g o j hfr
def Du:List Nat->List PD->Prop
 |[],_=>False
 |w::ws,ds=>(∃d∈ds,d.k=true/\w < d.ns.length)\/Du ws (TM w ds)
def TR:List Nat->List PD->Prop
 |[],_=>True
 |w::ws,ds=>(8 <=w/\w <=5000/\(TM w ds).length <=4000)/\TR ws (TM w ds)
theorem TR.drop:∀{ws:List Nat} {ds:List PD} (i:Nat),TR ws ds->TR (ws.drop i) (WM (ws.take i) ds)
 |ws,ds,0,h=>by simpa[WM] using h
 |[],ds,i+ 1,h=>trivial
 |w::ws,ds,i+ 1,h=>TR.drop i h.2
theorem OQ:∀{ws:List Nat} {ds:List PD} (i:Nat),Du (ws.drop i) (WM (ws.take i) ds)->Du ws ds
 |ws,ds,0,h=>by simpa[WM] using h
 |[],ds,i+ 1,h=>h.elim
 |w::ws,ds,i+ 1,h=>.inr (OQ i h)
theorem Q9:∀{ws:List Nat} {ds:List PD},(∀i (w:Nat),ws[i]?=some w->∀d∈WM (ws.take i) ds,d.k=true->d.ns.length <=w)->¬Du ws ds
 |[],ds,h,z=>z
 |w::ws,ds,h,z=>by
  rcases z with⟨d,a,b,c⟩|z
  .have:=h 0 w rfl d a b;omega
  .exact Q9 (fun i f e d hd=>h (i+ 1) f e d hd) z
inductive Iu(C TW:VI)(vs:List V)(H:Hp)(Q:VK)(E:XK):Prop|mk (l lw:VI) (ps:List (Addr×Addr)) (ds:List PD) (ws:List Nat) (_:vs=[.ref l,.ref lw]) (_:H l=some (.lst (Mg ps))) (_:Jc C H ps ds) (_:H lw=some (.lst (Dy ws))) (_:TR ws ds) (_:(Du ws ds->∀G,VP H G->E (.ref TW) none G)) (_:(¬Du ws ds->∀l' ps' G,VP H G->G l'=some (.lst (Mg ps'))->Jc C G ps' (WM ws ds)->(ws≠[]->H l'=none/\∀q∈ps',H q.2=none)->Q (.ref l') G))
abbrev KA:Stmt:=WW 51
theorem KI:WQ ["pieces","widths","width"] ["pieces","widths"] (VO KA):=by walk_at"e"
theorem wM{f C TW:VI}{fd:VD}(F:WX K "cut_over" "cut_over" KA f fd)(Ju:Gv P w K mg base "all_cut_again" 10 ["pieces","width"] [] (Kj C TW)):VW P w K mg base (N4 P w) 11 f fd ["pieces","widths"] (Iu C TW):=by
 refine F.okX KI (fun vs H Q E h=>?_) (fun cdv A outer s H vs Q E hr h=>?_)
 .obtain⟨l,lw,ps,ds,a,rfl,_⟩:=h;rfl
 .obtain⟨l,lw,ps,ds,a,rfl,hl,hp,hlw,hf,qt,q⟩:=h;refine⟨_,(W1 (Gi Xt rfl (TK (K:=K) rfl (VQ 1)) (MC 2 KI) (Wc (NY 0 KI (GG Ju hr.m rfl (NK Ma (fun _ _ h=>h)) (Wb 0 (Wb 2 VT)))))) (Wc (WL (VQ 0)))),?_⟩;walk_at"rd";refine⟨⟨_,VZ.of hlw⟩,?_⟩;obtain⟨Pv,p⟩:∃Pv:Nat->L2.St->Hp->Prop,Pv=fun i σ' G=>∃ (e:VI) (c:List (Addr×Addr)) (v:Option V),σ'=[some (.ref e),some (.ref lw),v]/\VP H G/\G e=some (.lst (Mg c))/\Jc C G c (WM (a.take i) ds)/\(i≠0->H e=none/\∀q∈c,H q.2=none)/\(∀j < i,∀w:Nat,a[j]?=some w->∀d∈WM (a.take j) ds,d.k=true->d.ns.length <=w):=⟨_,rfl⟩
  refine Rs (xs:=Dy a) Pv (by rw[p];exact⟨l,ps,none,rfl,VP.refl _,hl,hp,(fun h=>absurd rfl h),nofun⟩) ?_ ?_ ?_ <;> rw[p]
  .intro i σ' G _ Zq;obtain⟨e,c,v,rfl,b,_⟩:=Zq;exact VZ.of (b lw _ hlw)
  .intro i x σ' G hx Zq;obtain⟨e,c,v,rfl,b,u,n,y,o⟩:=Zq;rw[<-p];obtain⟨w',g,rfl⟩:=yH hx;have hi:i < a.length:=(Y5.mp g).1;have hd:=hf.drop i;have ed:a.drop i=w'::a.drop (i+ 1):=by
    rw[List.drop_eq_getElem_cons hi];have:a[i]=w':=by rw[Y7 hi]at g;exact Yo g
    rw[this]
   rw[ed]at hd;walk_at"rd";have wd:(∃d∈WM (a.take i) ds,d.k=true/\w' < d.ns.length)->Du a ds:=fun z=>OQ i (by rw[ed];exact .inl z)
   refine⟨e,c,_,w',rfl,u,n,hd.1.1,hd.1.2.1,hd.1.2.2,fun z G2 s2=>qt (wd z) G2 (b.trans s2),fun hk l2 ps2 G2 hl2 s2 hG2 hp2 hf2=>?_⟩;rw[p];refine⟨l2,ps2,_,rfl,b.trans s2,hG2,?_,fun _=>⟨b.free hl2,fun q u=>b.free (hf2 q u)⟩,fun j hj w2 r=>?_⟩
   .rw[Yz,g,YI,ZK];exact hp2
   .rcases V2.mp hj with h|rfl
    .exact o j h w2 r
    .rw[g]at r;cases r;exact hk
  .intro σ' G Zq;obtain⟨e,c,v,rfl,b,u,n,y,o⟩:=Zq;walk_at"rd";rw[IX]at n y o;rw[YO]at n;refine q (Q9 fun i w2 r=>o i (Y5.mp r).1 w2 r) e c G b u n fun hz=>y fun h=>hz (V5.mp h)
def NC:V->Int->Bool
 | .int n,lo=>decide (lo <=n)
 |_,_=>false
inductive RS(vs:List V)(H:Hp)(Q:VK)(E:XK):Prop|mk (x n lo:_) (_:vs=[x,.int lo]) (_:WY H x=some n) (_:Q (.bl (NC x lo)) H)
abbrev Ir:Stmt:=WW 14
theorem d9:WQ ["value","low"] ["value","low"] (VO Ir):=by walk_at"e"
theorem xU{f:VI}{fd:VD}(F:WX K "is_whole_from" "is_whole_from" Ir f fd)(J8:JA P w K mg base "is_whole" 1 ["value"] [] AO):VW P w K mg base WK 2 f fd ["value","low"] RS:=by
 refine F.ok d9 (fun vs H Q E h=>?_) (fun b A outer s H vs Q E a h=>?_)
 .obtain⟨x,n,lo,rfl,_⟩:=h;rfl
 .obtain⟨x,n,lo,rfl,ty,q⟩:=h;refine⟨_,(Wc (WL (M8 (JT J8 a.m rfl (Wb 0 VT)) (MT (Ts (Jp A9) (VQ 0) (VQ 1) (TV _)))))),?_⟩;walk_at"rd";refine⟨_,_,rfl,ty,_,rfl,?_⟩;cases x <;> first
   |(simp only[Ds,Bool.false_eq_true,if_false];exact q)
   |skip
  rename_i m
  rw[Y9 (show Ds (V.int m)=true from rfl)];exact⟨m,rfl,q⟩
def Tw(H:Hp):V->Bool
 | .non=>true
 | .ref a => (match H a with
  |some (.lst xs)=>xs.all (fun y=>NC y 0)
  | _ => false)
 |_=>false
theorem AE{H:Hp}{a:VI}{xs:List V}(h:H a=some (.lst xs)):Tw H (.ref a)=xs.all (fun y=>NC y 0):=by
 show(match H a with|some (.lst xs)=>xs.all (fun y=>NC y 0)|_=>false)=_;rw[h]
theorem mX{H:Hp}{x:V}(hn:x≠ .non)(h:DY H x=false):Tw H x=false:=by
 cases x with
 |non=>exact absurd rfl hn
 |ref a=>
  show(match H a with|some (.lst xs)=>xs.all (fun y=>NC y 0)|_=>false)=false;have h':(match H a with|some (.lst xs)=>true|_=>false)=false:=h
  split
  .rename_i e;rw[e]at h';cases h'
  .rfl
 |_=>rfl
inductive O3(vs:List V)(H:Hp)(Q:VK)(E:XK):Prop|mk (x n:_) (_:vs=[x]) (_:WY H x=some n) (_:WH H x) (_:∀G,VP H G->Q (.bl (Tw H x)) G)
abbrev CQ:Stmt:=WW 53
theorem SO:WQ ["value"] ["value"] (VO CQ):=by walk_at"e"
theorem ZX{f:VI}{fd:VD}(F:WX K "are_lost" "are_lost" CQ f fd)(B:Bt mg)(VY:JA P w K mg base "is_whole_from" 2 ["value","low"] [] RS):VW P w K mg base WK 3 f fd ["value"] O3:=by
 refine F.ok SO (fun vs H Q E h=>?_) (fun cdv A outer s H vs Q E hr h=>?_)
 .obtain⟨x,n,rfl,_⟩:=h;rfl
 .obtain⟨x,n,rfl,ty,z,q⟩:=h;refine⟨_,(W1 (Jj (N8 Br (VQ 0) Tk) (Wc (WL TQ)) Jw) (Wc (WL (M8 (N3 (DJ "list") B.isinstance (Wb 0 (VR (hs:=Wq) (Dv (v:=.ty "list") rfl B.blist (by rfl) rfl) VT))) (MT (N3 (B8 (K:=K) rfl rfl) B.all (VR (hs:=Ef) (DL (N':=["part"]) (caps:=[none]) (Me (sc:=VO CQ) (N:=["value"]) rfl rfl (by decide +kernel)) rfl (TK (K:=K) rfl (VQ 0)) (fun _ _ _ _ _=>(Tg (i:=0) (TH (N:=["part"]) rfl (by decide +kernel)) rfl (Or.inl rfl))) (fun _ _ _ _ _=>D5) (fun _ _ _ _ _=>(JT VY hr.m rfl (Wb 0 (MK W3 VT))))) VT))))))),?_⟩;refine We fun N r=>?_
  walk_at"rd"
  by_cases hx:x= .non
  .subst hx;rw[Y9 (by simp)];exact q _ (VP.refl _)
  rw[Y2 (by simpa using hx)];refine r _ _ ?_;clear r N;walk_at"rd";refine⟨n,ty,?_⟩;rw[Cv ty];cases hL:DY H x with
  |false=>
   rw[Y2 (by simp)];rw[mX hx hL]at q;exact q H (VP.refl H)
  |true=>
   obtain⟨a,xs,rfl,c⟩:=CC hL;obtain⟨g,l⟩:=z a xs rfl c;rw[AE c]at q;rw[Y9 rfl];refine⟨a,rfl,⟨xs,VZ.of c⟩,?_⟩;obtain⟨j,b⟩:∃j:Nat->List V->L2.St->Hp->Prop,j=fun i ys σ' H1=>H1=H/\i <=xs.length/\ys=(xs.take i).map (fun y=>V.bl (NC y 0))/\∃v,σ'=[v]:=⟨_,rfl⟩
   refine Db (xs:=xs) j (by rw[b];exact⟨rfl,Yh _,by simp,none,rfl⟩) ?_ (Wi g) ?_ ?_ <;> rw[b]
   .rintro i ys σ' H1 ⟨rfl,hi,rfl,_⟩ _;refine⟨VZ.of c,?_⟩;simp only[List.length_map,YD];omega
   .intro i y ys σ' H1 d Zq;obtain⟨rfl,hi,rfl,v,rfl⟩:=Zq;rw[<-b];have o:i < xs.length:=(Y5.mp d).1;obtain⟨m,hm⟩:=l y (Yd d);walk_at"rd";refine⟨y,m,0,rfl,hm,?_⟩;rw[b];refine⟨rfl,o,?_,_,rfl⟩;rw[Yz,d,YI,Yp,List.map_cons,List.map_nil]
   .rintro ys σ' H1 ⟨rfl,_,rfl,_⟩ p G hp u hG;refine⟨p,rfl,xs.map (fun y=>NC y 0),VZ.of (by rw[hG,YZ (Y1 _),YB];rfl),?_⟩;have e:(xs.map (fun y=>NC y 0)).all id=xs.all (fun y=>NC y 0):=by rw[UA];rfl
    rw[e];exact q _ u
def OH(xs:VJ):Prop:=xs.length <=100/\∀n∈xs,0 <=n
def NM(H:Hp)(x:V)(xs:VJ):Prop:=OH xs/\((x= .non/\xs=[])\/∃l,x= .ref l/\H l=some (.lst (xs.map V.int)))
theorem NM.mono{H G:Hp}{x:V}{xs:VJ}(s:VP H G)(h:NM H x xs):NM G x xs:=⟨h.1,h.2.imp id fun⟨l,a,b⟩=>⟨l,a,s _ _ b⟩⟩
abbrev Ea(K:VG)(f:VI)(fd:VD)(q:Str)(st:Stmt):Prop:=∃ (oc:VH) (od:Option Addr) (dV kV doc pm:VH) (an:Option Addr) (cdv ct:VH) (osl:Array (Option Value)),
  fd=W.fnOf "__init__" q (NV st) (VX st) (VO st) dV kV doc pm an cdv ct/\K.lookup f=some ⟨oc,od,.func fd,osl⟩/\W.codeIn K cdv q=true
structure MY where
 ws:List Nat
 dl:Int
 lo:List Int
structure Rf(K:VG)(C:VI):Prop where
 cl:T7 K C
 widths:W0 K C "widths"
 delay:W0 K C "delay"
 lost:W0 K C "lost"
structure ER(r:MY):Prop where
 l1:1 <=r.ws.length
 l2:r.ws.length <=20
 ok:ES r.ws
 d0:0 <=r.dl
 fw:OH r.lo
structure WZ(C:VI)(H:Hp)(p lw ll:VI)(r:MY):Prop where
 ex:∃dx fs,H p=some (.ins C dx fs)/\fs.lookup ("widths":Str)=some (.ref lw)/\fs.lookup ("delay":Str)=some (.int r.dl)/\fs.lookup ("lost":Str)=some (.ref ll)
 hw:H lw=some (.lst (Dy r.ws))
 hl:H ll=some (.lst (r.lo.map V.int))
 ok:ER r
theorem WZ.mono{C p lw ll:VI}{H G:Hp}{r:MY}(s:VP H G)(h:WZ C H p lw ll r):WZ C G p lw ll r:=by
 obtain⟨dx,fs,e,a⟩:=h.ex;exact⟨⟨dx,fs,s _ _ e,a⟩,s _ _ h.hw,s _ _ h.hl,h.ok⟩
section
variable{C p lw ll:VI}{H:Hp}{r:MY}
theorem yV(L:Rf K C)(h:WZ C H p lw ll r):JB K H (.ref p) "widths" (.ref lw):=by
 obtain⟨dx,fs,e,a,_,_⟩:=h.ex;exact⟨p,C,dx,fs,rfl,e,L.cl,L.widths,a⟩
theorem tR(L:Rf K C)(h:WZ C H p lw ll r):JB K H (.ref p) "delay" (.int r.dl):=by
 obtain⟨dx,fs,e,_,a,_⟩:=h.ex;exact⟨p,C,dx,fs,rfl,e,L.cl,L.delay,a⟩
theorem wV(L:Rf K C)(h:WZ C H p lw ll r):JB K H (.ref p) "lost" (.ref ll):=by
 obtain⟨dx,fs,e,_,_,a⟩:=h.ex;exact⟨p,C,dx,fs,rfl,e,L.cl,L.lost,a⟩
end
def Mm(H:Hp)(x y z:V):Bool:=Tj H x && (NC y 0 && Tw H z)
structure Tu(H:Hp)(x y z:V):Prop where
 t1:∃n,WY H x=some n
 t2:∃n,WY H y=some n
 t3:∃n,WY H z=some n
 p1:WH H x
 p3:WH H z
theorem dE{H:Hp}{l:VI}{xs:VJ}(h:H l=some (.lst (xs.map V.int)))(h2:xs.length <=100):WH H (.ref l):=fun a ys d b=>by
 cases d;rw[h]at b;cases b;exact⟨by rw[List.length_map];omega,fun y c=>by obtain⟨n,_,rfl⟩:=Yv.mp c;exact⟨_,rfl⟩⟩
theorem NM.ask{H:Hp}{z:V}{xs:VJ}(h:NM H z xs):(∃n,WY H z=some n)/\WH H z/\Tw H z=true:=by
 rcases h.2 with⟨rfl,_⟩|⟨l,rfl,hl⟩
 .exact⟨⟨_,rfl⟩,nofun,rfl⟩
 .refine⟨⟨_,Ww hl⟩,dE hl h.1.1,?_⟩;rw[AE hl,YK];intro y a;obtain⟨n,b,rfl⟩:=Yv.mp a;exact Yw (h.1.2 n b)
theorem WH.mono{H G:Hp}{x:V}(s:VP H G)(k:∃n,WY H x=some n)(h:WH H x):WH G x:=by
 intro a xs e c;subst e;obtain⟨n,b⟩:=k;have b:(H a).bind M0=some n:=b;cases e:H a with
 |none=>rw[e]at b;cases b
 |some o=>
  rw[s a o e]at c;cases c;obtain⟨h1,h2⟩:=h a xs rfl e;exact⟨h1,fun y d=>(h2 y d).imp fun _ e=>TN s e⟩
theorem Lp{H G:Hp}{x:V}(s:VP H G)(k:∃n,WY H x=some n):Tw G x=Tw H x:=by
 cases x with
 |ref a=>
  obtain⟨n,b⟩:=k;have b:(H a).bind M0=some n:=b;cases e:H a with
  |none=>rw[e]at b;cases b
  |some o=>
   show(match G a with|some (.lst xs)=>xs.all (fun y=>NC y 0)|_=>false)=(match H a with|some (.lst xs)=>xs.all (fun y=>NC y 0)|_=>false);rw[e,s a o e]
 |_=>rfl
inductive Cu(C NR:VI)(vs:List V)(H:Hp)(Q:VK)(E:XK):Prop|mk (p dx:VI) (x y z:V) (_:vs=[.ref p,x,y,z]) (_:H p=some (.ins C dx [])) (_:Tu H x y z) (_:(Mm H x y z=false->∀G,VP H G->E (.ref NR) none G)) (_:(Mm H x y z=true->∃ (hw:VI) (r:MY),x= .ref hw/\y= .int r.dl/\H hw=some (.lst (Dy r.ws))/\NM H z r.lo/\ER r/\∀lw ll G,H lw=none->H ll=none->lw≠ll->WP p H G->WZ C G p lw ll r->Q .non G))
abbrev GV:Stmt:=Nl (WW 54) 0
theorem ZY:WQ ["self","widths","delay","lost"] ["self","widths","delay","lost"] (VO GV):=by walk_at"e"
theorem jH{f C NR:VI}{fd:VD}(F:Ea K f fd "Road.__init__" GV)(L:Rf K C)(B:Bt mg)(X_NoRoad:XC K mg "NoRoad" NR)(JY:JA P w K mg base "are_widths" 4 ["value"] [] Qe)(VY:JA P w K mg base "is_whole_from" 2 ["value","low"] [] RS)(NB:JA P w K mg base "are_lost" 3 ["value"] [] O3):VW P w K mg base (N4 P w) 5 f fd ["self","widths","delay","lost"] (Cu C NR):=by
 obtain⟨oc,od,dV,kV,doc,pm,an,cdv,ct,osl,rfl,lk,hcd⟩:=F;refine Dt lk hcd ZY (fun vs H Q E h=>?_) (fun A outer s H vs Q E hr h=>?_)
 .obtain⟨p,dx,x,y,z,rfl,_⟩:=h;rfl
 .obtain⟨p,dx,x,y,z,rfl,hp,⟨⟨n1,t1⟩,⟨n2,t2⟩,t3,p1,p3⟩,qt,q0⟩:=h;refine⟨_,(W1 (Jj (Nq (N6 (JT JY hr.m rfl (Wb 1 VT)))) (Wc (Gq Ma rfl rfl X_NoRoad Wm)) Jw) (W1 (Jj (PW.pt (Mf (Nq (N6 (JT VY hr.m rfl (Wb 2 (MK W3 VT))))) (Mr (Nq (N6 (JT NB hr.m rfl (Wb 3 VT))))))) (Wc (Gq Ma rfl rfl X_NoRoad Wm)) Jw) (W1 (NJ (K:=K) rfl (VQ 0) (EL (HC (IK (K:=K) rfl)) rfl B.blist (by rfl) (Wb 1 VT)) rfl) (W1 (NJ (K:=K) rfl (VQ 0) (VQ 2) rfl) (Wc (NJ (K:=K) rfl (VQ 0) (FL (N8 Br (VQ 3) Tk) (WO VT) (EL (HC (IK (K:=K) rfl)) rfl B.blist (by rfl) (Wb 3 VT))) rfl)))))),?_⟩;refine We fun N g=>?_
  walk_at"rd";refine⟨x,n1,rfl,t1,p1,fun G0 u=>⟨_,rfl,?_⟩⟩;cases g1:Tj H x with
  |false=>
   rw[Y9 (by rfl)];exact qt (by unfold Mm;rw[g1];rfl) G0 u
  |true=>
  rw[Y2 (by simp)];refine g _ _ ?_;clear g N;refine We fun N g=>?_
  walk_at"rd";refine⟨y,n2,0,rfl,TN u t2,_,rfl,?_⟩;cases g2:NC y 0 with
  |false=>
   rw[Y9 (by rfl)];exact qt (by unfold Mm;rw[g1,g2];rfl) G0 u
  |true=>
  rw[Y2 (by simp)];have e3:=Lp u t3;refine⟨z,t3.choose,rfl,TN u t3.choose_spec,p3.mono u t3,fun G1 s1=>⟨_,rfl,?_⟩⟩;rw[e3];cases g3:Tw H z with
  |false=>
   rw[Y9 (by rfl)];exact qt (by unfold Mm;rw[g1,g2,g3];rfl) G1 (u.trans s1)
  |true=>
  rw[Y2 (by simp)];refine g _ _ ?_;clear g N;obtain⟨hw,r,rfl,rfl,hhw,hx,ok,q⟩:=q0 (by unfold Mm;rw[g1,g2,g3];rfl);have j:=u.trans s1;refine We fun N g=>?_
  walk_at"rd";have hw1:=j hw _ hhw;have hp1:=j p _ hp;have hx1:=hx.mono j;refine⟨_,.inl (VZ.of hw1),fun lw G2 hlw s2 hG2=>⟨C,dx,[],s2 _ _ hp1,L.cl,L.widths,by decide,fun G3 b3 hG3=>?_⟩⟩;refine g _ _ ?_;clear g N;refine We fun N g=>?_
  walk_at"rd";refine⟨C,dx,_,hG3,L.cl,L.delay,Ye (Wo (n:=0) (Y1 _)) (by decide),fun G4 b4 hG4=>?_⟩;refine g _ _ ?_;clear g N;have nlw:lw≠p:=Ne.symm (WJ hp1 hlw);have hx4:NM G4 z r.lo:=⟨hx1.1,hx1.2.imp id fun⟨l,a,b⟩=>⟨l,a,b4 _ _ (b3 _ _ (s2 _ _ b) (VS b hp1 nofun)) (VS b hp1 nofun)⟩⟩;have hlw4:G4 lw=some (.lst (Dy r.ws)):=b4 _ _ (b3 _ _ hG2 nlw) nlw;have bb:WP p H G4:=fun c o h n=>b4 c o (b3 c o (s2 c o (j c o h)) n) n
  have fin:∀ (ll:VI) (i:Hp),G4 ll=none->VP G4 i->i ll=some (.lst (r.lo.map V.int))->∃x_1 x_2 x_3,i p=some (HO.ins x_1 x_2 x_3)/\T7 K x_1/\W0 K x_1 "lost"/\x_3.length < 1000/\∀G6,WP p i G6->G6 p=some (HO.ins x_1 x_2 (Jl "lost" (V.ref ll) x_3))->Q .non G6:=by
   intro ll i d s5 v;refine⟨C,dx,_,s5 _ _ hG4,L.cl,L.lost,Ye (Wo (Wo (n:=0) (Y1 _))) (by decide),fun G6 b6 hG6=>?_⟩;have nll:ll≠p:=Ne.symm (WJ hG4 d);have nn:lw≠ll:=WJ hlw4 d;refine q lw ll G6 (j.free hlw) ?_ nn (fun c o h n=>b6 c o (s5 c o (bb c o h n)) n) ⟨⟨dx,_,hG6,rfl,rfl,rfl⟩,b6 _ _ (s5 _ _ hlw4) nlw,b6 _ _ v nll,ok⟩;cases e:H ll with
   |none=>rfl
   |some o=>rw[bb ll o e nll]at d;cases d
  walk_at"rd";rcases hx4 with⟨_,⟨rfl,e0⟩|⟨l,rfl,hl4⟩⟩
  .rw[Y9 (by simp)];refine⟨Yh _,fun ll i d s5 v=>fin ll i d s5 ?_⟩;rw[e0];exact v
  .rw[Y2 (by simp)];exact⟨l,rfl,_,.inl (VZ.of hl4),fun ll i d s5 v=>fin ll i d s5 v⟩
theorem Qa{H G:Hp}{x:V}(s:VP H G)(k:∃n,WY H x=some n):Tj G x=Tj H x:=by
 cases x with
 |ref a=>
  obtain⟨n,b⟩:=k;have b:(H a).bind M0=some n:=b;cases e:H a with
  |none=>rw[e]at b;cases b
  |some o=>
   show(match G a with|some (.lst xs)=>decide (1 <=xs.length) && decide (xs.length <=20) && xs.all (fun y=>N1 y 8 5000)|_=>false)=(match H a with|some (.lst xs)=>decide (1 <=xs.length) && decide (xs.length <=20) && xs.all (fun y=>N1 y 8 5000)|_=>false);rw[e,s a o e]
 |_=>rfl
theorem Tu.mono{H G:Hp}{x y z:V}(s:VP H G)(h:Tu H x y z):Tu G x y z:=⟨h.t1.imp fun _ e=>TN s e,h.t2.imp fun _ e=>TN s e,h.t3.imp fun _ e=>TN s e,h.p1.mono s h.t1,h.p3.mono s h.t3⟩
theorem PF{H G:Hp}{x y z:V}(s:VP H G)(h:Tu H x y z):Mm G x y z=Mm H x y z:=by
 unfold Mm;rw[Qa s h.t1,Lp s h.t3]
inductive Eb(C NR:VI)(vs:List V)(H:Hp)(Q:VK)(E:XK):Prop|mk (x y z:V) (_:vs=[x,y,z]) (_:Tu H x y z) (_:(Mm H x y z=false->∀G,VP H G->E (.ref NR) none G)) (_:(Mm H x y z=true->∃ (hw:VI) (r:MY),x= .ref hw/\y= .int r.dl/\H hw=some (.lst (Dy r.ws))/\NM H z r.lo/\ER r/\∀p lw ll G,H p=none->H lw=none->H ll=none->VP H G->WZ C G p lw ll r->Q (.ref p) G))
theorem Qj{C NR:VI}{x y z:V}{H:Hp}{Q:VK}{E:XK}(h:Eb C NR [x,y,z] H Q E):∀p dx G,H p=none->VP H G->G p=some (.ins C dx [])->Cu C NR (.ref p::[x,y,z]) G (fun v G'=>v= .non/\Q (.ref p) G') E:=by
 obtain⟨_,_,_,e,ask,f,q⟩:=h;cases e;intro p dx G a s n;refine⟨p,dx,x,y,z,rfl,n,ask.mono s,fun g u s2=>f (PF s ask▸g) u (s.trans s2),fun g=>?_⟩;obtain⟨j,r,rfl,rfl,d,i,ok,q⟩:=q (PF s ask▸g);exact⟨j,r,rfl,rfl,s _ _ d,i.mono s,ok,fun lw ll G' h1 h2 _ b l=>⟨rfl,q p lw ll G' a (s.free h1) (s.free h2) (fun c o e=>b c o (s c o e) (WJ e a)) l⟩⟩
theorem tP{f C NR:VI}{fd:VD}(G:VW P w K mg base (N4 P w) 5 f fd ["self","widths","delay","lost"] (Cu C NR))(hm:mg "Road"=some (.ref C))(M:Mk K C f)(hb:JK K fd ["self","widths","delay","lost"] []):RY P w K mg base "Road" 5 (Eb C NR):=
 ⟨f, C, fd, [], [], _, _, G, hm, M, hb, .nil, fun vs H Q E h y dx g d i j s e => by
  rw [List.append_nil];have h2 := h;obtain ⟨a, b, c, rfl, _⟩ := h2;exact Qj h y dx g d s e⟩
inductive Hh(C NR:VI)(vs:List V)(H:Hp)(Q:VK)(E:XK):Prop|mk (a b:_) (_:vs=[a,b]) (_:Eb C NR [a,b,.non] H Q E)
theorem j6{f C NR:VI}{fd:VD}(G:VW P w K mg base (N4 P w) 5 f fd ["self","widths","delay","lost"] (Cu C NR))(hm:mg "Road"=some (.ref C))(M:Mk K C f)(hb:JK K fd ["self","widths","delay","lost"] [Value.none]):RY P w K mg base "Road" 5 (Hh C NR):=
 ⟨f, C, fd, [.none], [.non], _, _, G, hm, M, hb, .cons rfl .nil, fun vs H Q E h y dx e c g i s d => by
  obtain ⟨a, b, rfl, h⟩ := h;exact Qj h y dx e c s d⟩
end
def dS(xs:List (Str×V)):List (Wu×V):=xs.map fun e=>(Sum.inr e.1,e.2)
theorem L1(xs:List (Str×V))(n:Str):Jh (dS xs) (.inr n)=xs.lookup n:=by
 induction xs with
 |nil=>rfl
 |cons x r ih=>
  unfold Jh dS at ih ⊢;rw[List.map_cons,Xb,List.lookup]
  by_cases h:x.1=n
  .subst h;simp
  .have b:decide ((Sum.inr x.1:Wu)=Sum.inr n)=false:=Yt fun z=>h (Vc z)
   have a:(n==x.1)=false:=by simpa using fun z=>h z.symm
   rw[b,a];exact ih
theorem Q6{xs:List (Str×V)}{n:Str}(v:V)(h:n∉xs.map (·.1)):Tp (dS xs) (.inr n) v=dS (xs++[(n,v)]):=by
 unfold Tp dS;rw[Yp];have e:((xs.map fun e=>((Sum.inr e.1,e.2):Wu×V)).any fun a=>decide (a.1=Sum.inr n))=false:=by
  rw[List.any_eq_false];intro x b;obtain⟨e,c,rfl⟩:=Yv.mp b;simp only[Yy];exact fun z=>h (Yv.mpr ⟨e,c,Vc z⟩)
 rw[e];rfl
theorem Sr{xs:List (Str×V)}{n:Str}(v:V)(h:n∈xs.map (·.1)):Tp (dS xs) (.inr n) v=dS (xs.map fun e=>if e.1=n then(e.1,v) else e):=by
 unfold Tp dS;have e:((xs.map fun e=>((Sum.inr e.1,e.2):Wu×V)).any fun a=>decide (a.1=Sum.inr n))=true:=by
  rw[V3];obtain⟨e,b,rfl⟩:=Yv.mp h;exact⟨_,Yv.mpr ⟨e,b,rfl⟩,by simp⟩
 rw[e,Y9 rfl,YB,YB];refine X0 fun x _=>?_
 show(if(Sum.inr x.1:Wu)=Sum.inr n then((Sum.inr x.1,v):Wu×V) else(Sum.inr x.1,x.2))=_
 by_cases h:x.1=n
 .subst h;simp
 .rw[Y2 (fun z=>h (Vc z))];simp[h]
theorem HW{α:Type}{f:α->Str}{g:α->V}{es:List α}(nd:(es.map f).Nodup){e:α}(he:e∈es):(es.map fun e=>(f e,g e)).lookup (f e)=some (g e):=by
 induction es with
 |nil=>exact nomatch he
 |cons x r ih=>
  rw[List.map_cons,List.lookup];rcases Y6.mp he with rfl|z
  .simp
  .have a:(f e==f x)=false:=by simpa using fun q=>(YS.mp nd).1 (Yv.mpr ⟨e,z,q⟩)
   rw[a];exact ih (YS.mp nd).2 z
theorem Hd{α β:Type}{f:α->β}:∀{l:List α},(l.map f).Nodup->∀{x y:α},x∈l->y∈l->f x=f y->x=y
 |a::r,h,x,y,hx,hy,e=>by
  rw[List.map_cons,YS]at h;rcases Y6.mp hx with rfl|hx' <;> rcases Y6.mp hy with rfl|hy'
  .rfl
  .exact absurd (Yv.mpr ⟨y,hy',e.symm⟩) h.1
  .exact absurd (Yv.mpr ⟨x,hx',e⟩:_∈r.map f) h.1
  .exact Hd h.2 hx' hy' e
theorem yT{xs:List (Str×V)}{n:Str}(h:n∉xs.map (·.1)):xs.lookup n=none:=by
 rw[V6];intro p a;simpa using fun z=>h (Yv.mpr ⟨p,a,z.symm⟩)
theorem tI{xs:List (Str×V)}{n:Str}(h:n∈xs.map (·.1)):(xs.lookup n).isSome=true:=by
 cases e:xs.lookup n with
 |some v=>rfl
 |none=>
  rw[V6]at e;obtain⟨p,a,rfl⟩:=Yv.mp h;simpa using e p a
structure PR where
 nm:Str
 p:Addr
 lw:Addr
 ll:Addr
 r:MY
 n:Int
structure Th where
 tm:Int
 t:Addr
 q:Addr
 b:Addr
 d:PD
structure NE where
 now:Int
 rs:List PR
 cs:List Th
def dB(rs:List PR):List (Str×V):=rs.map fun e=>(e.nm,.ref e.p)
def dC(rs:List PR):List (Str×V):=rs.map fun e=>(e.nm,.int e.n)
theorem II(rs:List PR):(dB rs).map (·.1)=rs.map (·.nm):=by unfold dB;rw[YB];rfl
theorem Q8(rs:List PR):(dC rs).map (·.1)=rs.map (·.nm):=by unfold dC;rw[YB];rfl
def JQ(cs:List Th):List V:=cs.map fun c=>.ref c.t
def Bv(U:NE)(db dc lc:VI):List (Str×V):=[("now",.int U.now),("built",.ref db),("counts",.ref dc),("coming",.ref lc)]
structure Mv(K:VG)(C:VI):Prop where
 cl:T7 K C
 now:W0 K C "now"
 built:W0 K C "built"
 counts:W0 K C "counts"
 coming:W0 K C "coming"
structure DH(CP:VI)(H:Hp)(c:Th):Prop where
 tu:H c.t=some (.tup [.int c.tm,.ref c.q])
 pi:WB CP H c.q c.b c.d
structure W6(C CR CP:VI)(H:Hp)(p db dc lc:VI)(U:NE):Prop where
 ex:∃dx fs,H p=some (.ins C dx fs)/\fs.length <=4/\∀f,fs.lookup f=(Bv U db dc lc).lookup f
 hb:H db=some (.dK (dS (dB U.rs)))
 hc:H dc=some (.dK (dS (dC U.rs)))
 hl:H lc=some (.lst (JQ U.cs))
 ne:db≠dc
 rd:∀e∈U.rs,WZ CR H e.p e.lw e.ll e.r
 th:∀c∈U.cs,DH CP H c
 nd:(U.rs.map (·.nm)).Nodup
def At(H G:Hp)(p:VI):Prop:=∀o,H p=some o->G p=some o
theorem WB.kp{C p b:VI}{H G:Hp}{d:PD}(h:WB C H p b d)(k1:At H G p)(k2:At H G b):WB C G p b d:=⟨h.ok,h.ats.same k1,k2 _ h.bd⟩
theorem WZ.kp{C p lw ll:VI}{H G:Hp}{r:MY}(h:WZ C H p lw ll r)(k1:At H G p)(k2:At H G lw)(k3:At H G ll):WZ C G p lw ll r:=by
 obtain⟨dx,fs,e,a⟩:=h.ex;exact⟨⟨dx,fs,k1 _ e,a⟩,k2 _ h.hw,k3 _ h.hl,h.ok⟩
theorem DH.kp{CP:VI}{H G:Hp}{c:Th}(h:DH CP H c)(k1:At H G c.t)(k2:At H G c.q)(k3:At H G c.b):DH CP G c:=⟨k1 _ h.tu,h.pi.kp k2 k3⟩
def Ru(H G:Hp):Prop:=∀c o,H c=some o->(∀l,o≠ .dK l)->G c=some o
theorem Ru.pie{C p b:VI}{H G:Hp}{d:PD}(k:Ru H G)(h:WB C H p b d):WB C G p b d:=h.kp (fun o e=>by obtain⟨dx,fs,a⟩:=h.ins;exact k _ _ e (by rw[e]at a;cases a;nofun)) (fun o e=>k _ _ e (by rw[h.bd]at e;cases e;nofun))
theorem Ru.thing{C:VI}{H G:Hp}{c:Th}(k:Ru H G)(h:DH C H c):DH C G c:=⟨k _ _ h.tu nofun,k.pie h.pi⟩
theorem Ru.road{C p lw ll:VI}{H G:Hp}{r:MY}(k:Ru H G)(h:WZ C H p lw ll r):WZ C G p lw ll r:=by
 obtain⟨dx,fs,e,a⟩:=h.ex;exact⟨⟨dx,fs,k _ _ e nofun,a⟩,k _ _ h.hw nofun,k _ _ h.hl nofun,h.ok⟩
theorem DH.mono{CP:VI}{H G:Hp}{c:Th}(s:VP H G)(h:DH CP H c):DH CP G c:=⟨s _ _ h.tu,h.pi.mono s⟩
section
variable{P:VB}{w:VF}{K:VG}{mg:Vx}{base:VM}{C CR CP p db dc lc:VI}{H G:Hp}{U:NE}
theorem W6.mono(s:VP H G)(h:W6 C CR CP H p db dc lc U):W6 C CR CP G p db dc lc U:=by
 obtain⟨dx,fs,e,r⟩:=h.ex;exact⟨⟨dx,fs,s _ _ e,r⟩,s _ _ h.hb,s _ _ h.hc,s _ _ h.hl,h.ne,fun e a=>(h.rd e a).mono s,fun c hc=>(h.th c hc).mono s,h.nd⟩
theorem W6.fld(h:W6 C CR CP H p db dc lc U)(cl:T7 K C){f:Str}{v:L2.V}(na:W0 K C f)(e:(Bv U db dc lc).lookup f=some v):JB K H (.ref p) f v:=by
 obtain⟨dx,fs,a,_,b⟩:=h.ex;exact⟨p,C,dx,fs,rfl,a,cl,na,by rw[b f,e]⟩
theorem Fa(L:Mv K C)(h:W6 C CR CP H p db dc lc U):JB K H (.ref p) "now" (.int U.now):=h.fld L.cl L.now rfl
theorem Et(L:Mv K C)(h:W6 C CR CP H p db dc lc U):JB K H (.ref p) "built" (.ref db):=h.fld L.cl L.built rfl
theorem QO(L:Mv K C)(h:W6 C CR CP H p db dc lc U):JB K H (.ref p) "counts" (.ref dc):=h.fld L.cl L.counts rfl
theorem Bd(L:Mv K C)(h:W6 C CR CP H p db dc lc U):JB K H (.ref p) "coming" (.ref lc):=h.fld L.cl L.coming rfl
theorem W6.mt(h:W6 C CR CP H p db dc lc U){f:Str}(e:(Bv U db dc lc).lookup f=none):Ex C f H (.ref p):=by
 obtain⟨dx,fs,a,_,b⟩:=h.ex;exact⟨p,dx,fs,rfl,a,by rw[b f,e]⟩
end
section
variable{P:VB}{w:VF}{K:VG}{mg:Vx}{base:VM}
structure KX(K:VG)(C:VI):Prop where
 cl:T7 K C
 ic:EO K C
 k:W.kitOne K (.ref C) (.ref C)=some true
 ty:W.typeIn K (.ref C)=some (.type "type")
theorem WZ.ty{C p lw ll:VI}{H:Hp}{r:MY}(X:KX K C)(h:WZ C H p lw ll r):JW K H (.ref p) (.ref C):=by
 obtain⟨dx,fs,e,_⟩:=h.ex;exact .ins e X.cl X.ic.ha X.ic.hn X.ic.htk X.ic.hm
inductive AG(C CRo CP NT:VI)(vs:List V)(H:Hp)(Q:VK)(E:XK):Prop|mk (p db dc lc:VI) (U:NE) (x:V) (n:String) (_:vs=[.ref p,x]) (_:W6 C CRo CP H p db dc lc U) (_:WY H x=some n) (_:(NC x U.now=false->E (.ref NT) none H)) (_:(NC x U.now=true->Q .non H))
abbrev F3:Stmt:=Nl (WW 55) 7
theorem mY:WQ ["self","time"] ["self","time"] (VO F3):=by walk_at"e"
theorem S4{f C CRo CP NT:VI}{fd:VD}(F:WX K "check_time" "Post.check_time" F3 f fd)(L:Mv K C)(X_NoTime:XC K mg "NoTime" NT)(VY:JA P w K mg base "is_whole_from" 2 ["value","low"] [] RS):VW P w K mg base (N4 P w) 3 f fd ["self","time"] (AG C CRo CP NT):=by
 refine F.okX mY (fun vs H Q E h=>?_) (fun d A outer s H vs Q E b h=>?_)
 .obtain⟨p,db,dc,lc,U,x,n,rfl,_⟩:=h;rfl
 .obtain⟨p,db,dc,lc,U,x,n,rfl,c,ty,a,q⟩:=h;refine⟨_,(Wc (Jj (Nq (N6 (JT VY b.m rfl (Wb 1 (Nt (WG K (VQ 0)) VT))))) (Wc (Gq Ma rfl rfl X_NoTime Wm)) Jw)),?_⟩;walk_at"rd";refine⟨_,Fa L c,x,n,U.now,rfl,ty,?_⟩;cases e:NC x U.now with
  |false=>exact⟨_,rfl,a e⟩
  |true=>exact⟨_,rfl,q e⟩
inductive HE(C CRo CP:VI)(vs:List V)(H:Hp)(Q:VK)(E:XK):Prop|mk (p db dc lc:VI) (U:NE) (_:vs=[.ref p]) (_:W6 C CRo CP H p db dc lc U) (_:U.rs.length < 64) (_:∀ (ms:List Str) l G,ms.Perm (U.rs.map (·.nm))->ms.Pairwise (fun a b=>MD b a=false)->H l=none->VP H G->G l=some (.lst (ms.map V.str))->Q (.ref l) G)
abbrev KZ:Stmt:=Nl (WW 55) 2
theorem SC:WQ ["self"] ["self"] (VO KZ):=by walk_at"e"
theorem jN{f C CRo CP:VI}{fd:VD}(F:WX K "roads" "Post.roads" KZ f fd)(L:Mv K C)(B2:Az mg):VW P w K mg base WK 3 f fd ["self"] (HE C CRo CP):=by
 refine F.ok SC (fun vs H Q E h=>?_) (fun c A outer s H vs Q E b h=>?_)
 .obtain⟨p,db,dc,lc,U,rfl,_⟩:=h;rfl
 .obtain⟨p,db,dc,lc,U,rfl,a,d,q⟩:=h;refine⟨_,(Wc (WL (N3 (xG rfl (Room.units b)) B2.sorted (Nt (WG K (VQ 0)) VT)))),?_⟩;walk_at"rd";refine⟨_,Et L a,db,rfl,_,a.hb,U.rs.map (·.nm),?_,by rw[List.length_map];omega,q⟩;unfold dS dB;rw[YB,YB,YB];rfl
inductive Ij(C CRo CP:VI)(vs:List V)(H:Hp)(Q:VK)(E:XK):Prop|mk (p db dc lc:VI) (U:NE) (_:vs=[.ref p]) (_:W6 C CRo CP H p db dc lc U) (_:Q (.int U.cs.length) H)
abbrev K3:Stmt:=Nl (WW 55) 5
theorem gQ:WQ ["self"] ["self"] (VO K3):=by walk_at"e"
theorem jD{f C CRo CP:VI}{fd:VD}(F:WX K "on_the_way" "Post.on_the_way" K3 f fd)(L:Mv K C)(B:Bt mg):VW P w K mg base WK 1 f fd ["self"] (Ij C CRo CP):=by
 refine F.ok gQ (fun vs H Q E h=>?_) (fun b A outer s H vs Q E c h=>?_)
 .obtain⟨p,db,dc,lc,U,rfl,_⟩:=h;rfl
 .obtain⟨p,db,dc,lc,U,rfl,a,q⟩:=h;refine⟨_,(Wc (WL (N3 (Gu (DA (K:=K) rfl)) B.len (Nt (WG K (VQ 0)) VT)))),?_⟩;walk_at"rd";refine⟨_,Bd L a,lc,rfl,_,.inl (VZ.of a.hl),?_⟩;rw[show(JQ U.cs).length=U.cs.length from List.length_map ..];exact q
inductive Ad(C CRo CP:VI)(vs:List V)(H:Hp)(Q:VK)(E:XK):Prop|mk (p db dc lc:VI) (U:NE) (_:vs=[.ref p]) (_:W6 C CRo CP H p db dc lc U) (_:U.cs.length <=5000) (_:∀G,VP H G->(U.cs=[]->Q .non G)/\∀v,v∈U.cs.map (·.tm)->(∀y∈U.cs.map (·.tm),v <=y)->Q (.int v) G)
abbrev A2:Stmt:=Nl (WW 55) 6
theorem vB:WQ ["self"] ["self"] (VO A2):=by walk_at"e"
theorem uR{f C CRo CP:VI}{fd:VD}(F:WX K "next_time" "Post.next_time" A2 f fd)(L:Mv K C)(B:Bt mg):VW P w K mg base WK 1 f fd ["self"] (Ad C CRo CP):=by
 refine F.ok vB (fun vs H Q E h=>?_) (fun x A outer s H vs Q E z h=>?_)
 .obtain⟨p,db,dc,lc,U,rfl,_⟩:=h;rfl
 .obtain⟨p,db,dc,lc,U,rfl,b,hn,q⟩:=h;refine⟨_,(Wc (WL (SH (K:=K) rfl rfl rfl rfl B.min (by rfl) (DL (N':=["one"]) (caps:=[none]) (Me (sc:=VO A2) (N:=["self"]) rfl rfl (by decide +kernel)) rfl (TK (K:=K) rfl (WG K (VQ 0))) (fun _ _ _ _ _=>(Tg (i:=0) (TH (N:=["one"]) rfl (by decide +kernel)) rfl (Or.inl rfl))) (fun _ _ _ _ _=>D5) (fun _ _ _ _ _=>(Dh K (VQ 0) W3))) Tk))),?_⟩;walk_at"rd";refine⟨_,Bd L b,lc,rfl,⟨_,VZ.of b.hl⟩,?_⟩;obtain⟨g,a⟩:∃g:Nat->List V->L2.St->Hp->Prop,g=fun i ys σ' H1=>H1=H/\ys=((U.cs.take i).map (·.tm)).map V.int/\∃v,σ'=[v]:=⟨_,rfl⟩
  refine Db (xs:=JQ U.cs) g (by rw[a];exact⟨rfl,by simp,none,rfl⟩) ?_ (Wi (by rw[show(JQ U.cs).length=U.cs.length from List.length_map ..];omega)) ?_ ?_ <;> rw[a]
  .rintro i ys σ' H1 ⟨rfl,rfl,_⟩ _;refine⟨VZ.of b.hl,?_⟩;rw[List.length_map,List.length_map,YD];omega
  .intro i y ys σ' H1 d Zq;obtain⟨rfl,rfl,v,rfl⟩:=Zq;rw[<-a];unfold JQ at d;rw[Yk]at d;obtain⟨c,j,rfl⟩:=YA.mp d;walk_at"rd";refine⟨_,JN.of (b.th c (Yd j)).tu,_,rfl,?_⟩;rw[a];refine⟨rfl,?_,_,rfl⟩;rw[Yz,j,YI,Yp,Yp];rfl
  .rintro ys σ' H1 ⟨rfl,rfl,_⟩ l G hl n u;obtain⟨r,o⟩:=q G n;refine⟨l,rfl,U.cs.map (·.tm),VZ.of (by rw[u,show(JQ U.cs).length=U.cs.length from List.length_map ..,YO]),fun e=>r (List.map_eq_nil_iff.mp e),o⟩
def Td (ms : List Str) (y : V) : Bool := N5 y && (match y with
 | .str z=>decide (z∈ms)
 | _ => false)
def MZ(H:Hp)(ms:List Str):V->Bool
 | .ref a => (match H a with
  |some (.lst xs)=>decide (xs.length≠0) && xs.all (Td ms)
  | _ => false)
 |_=>false
theorem Lj{H:Hp}{ms:List Str}{a:VI}{xs:List V}(h:H a=some (.lst xs)):MZ H ms (.ref a)=(decide (xs.length≠0) && xs.all (Td ms)):=by
 show(match H a with|some (.lst xs)=>decide (xs.length≠0) && xs.all (Td ms)|_=>false)=_;rw[h]
theorem gL{H:Hp}{ms:List Str}{x:V}(h:DY H x=false):MZ H ms x=false:=by
 cases x with
 |ref a=>
  show(match H a with|some (.lst xs)=>decide (xs.length≠0) && xs.all (Td ms)|_=>false)=false;have h':(match H a with|some (.lst xs)=>true|_=>false)=false:=h
  split
  .rename_i e;rw[e]at h';cases h'
  .rfl
 |_=>rfl
theorem Ol{y:V}(h:N5 y=true):∃z,y= .str z:=by
 cases y <;> first|exact⟨_,rfl⟩|cases h
theorem Lv{rs:List PR}{n:Str}:(Jh (dS (dB rs)) (.inr n)).isSome=decide (n∈rs.map (·.nm)):=by
 rw[L1]
 by_cases h:n∈rs.map (·.nm)
 .rw[tI (by rw[II];exact h),Yw h]
 .rw[yT (by rw[II];exact h),Yt h];rfl
def C4(H:Hp)(x:V):Prop:=∀a xs,x= .ref a->H a=some (.lst xs)->xs.length <=100/\∀y∈xs,(∃n,WY H y=some n)/\∀z,y= .str z->z.length <=100000
inductive Ku(C CRo CP:VI)(vs:List V)(H:Hp)(Q:VK)(E:XK):Prop|mk (p db dc lc:VI) (U:NE) (x:V) (n:String) (_:vs=[.ref p,x]) (_:W6 C CRo CP H p db dc lc U) (_:WY H x=some n) (_:C4 H x) (_:∀G,VP H G->Q (.bl (MZ H (U.rs.map (·.nm)) x)) G)
abbrev Ce:Stmt:=Nl (WW 55) 8
theorem vF:WQ ["self","names"] ["self","names"] (VO Ce):=by walk_at"e"
theorem yU{f C CRo CP:VI}{fd:VD}(F:WX K "are_built" "Post.are_built" Ce f fd)(L:Mv K C)(B:Bt mg)(J9:JA P w K mg base "is_name" 1 ["value"] [] CV):VW P w K mg base WK 2 f fd ["self","names"] (Ku C CRo CP):=by
 refine F.ok vF (fun vs H Q E h=>?_) (fun cdv A outer s H vs Q E r h=>?_)
 .obtain⟨p,db,dc,lc,U,x,n,rfl,_⟩:=h;rfl
 .obtain⟨p,db,dc,lc,U,x,n,rfl,hU,ty,nb,q⟩:=h;refine⟨_,(W1 (Jj (PW.pt (Mf (Nq (N6 (N3 (DJ "list") B.isinstance (Wb 1 (VR (hs:=Wq) (Dv (v:=.ty "list") rfl B.blist (by rfl) rfl) VT))))) (Mr (N8 (OE (QH (K:=K) (Room.units r) rfl)) (VQ 1) (WO VT))))) (Wc (WL TQ)) Jw) (Wc (WL (N3 (B8 (K:=K) rfl rfl) B.all (VR (hs:=Ef) (DL (N':=["name","self"]) (caps:=[none,some 0]) (Me (sc:=VO Ce) (N:=["self","names"]) rfl rfl (by decide +kernel)) rfl (TK (K:=K) rfl (VQ 1)) (fun _ _ _ _ _=>(Tg (i:=0) (TH (N:=["name","self"]) rfl (by decide +kernel)) rfl (Or.inl rfl))) (fun _ _ _ _ _=>D5) (fun _ _ _ _ _=>(M8 (JT J9 r.m rfl (Wb 0 VT)) (MT (Ts (P0 (D6 r)) (VQ 0) (WG K (VQ 1)) (by with_unfolding_all rfl)))))) VT))))),?_⟩;refine We fun N hN=>?_
  walk_at"rd";refine⟨n,ty,?_⟩;rw[Cv ty];cases hL:DY H x with
  |false=>
   rw[Y9 (by rfl)];rw[gL hL]at q;exact q H (VP.refl H)
  |true=>
  obtain⟨ln,xs,rfl,b⟩:=CC hL;rw[Lj b]at q;obtain⟨m1,m2⟩:=nb ln xs rfl b;clear nb hL ty;rw[Y2 (by decide)];refine⟨Yh _,fun l0 G0 hl0 c hG0=>⟨_,rfl,_,VZ.of (c _ _ b),VZ.of hG0,?_⟩⟩
  by_cases h0:xs.length=0
  .rw[Y9 (by rw[Yy];exact h0)];rw[Yt (by rw[h0];simp)]at q;exact q G0 c
  rw[Y2 (by rw[Yy];exact h0)];refine hN _ _ ?_;clear hN N;rw[Yw h0,X8]at q;walk_at"rd";have hU0:=hU.mono c;have d:=c _ _ b;refine⟨⟨_,VZ.of d⟩,?_⟩;obtain⟨u,a⟩:∃u:Nat->List V->L2.St->Hp->Prop,u=fun i ys σ' H1=>VP G0 H1/\i <=xs.length/\ys=(xs.take i).map (fun y=>V.bl (Td (U.rs.map (·.nm)) y))/\∃v,σ'=[v,some (.ref p)]:=⟨_,rfl⟩
  refine Db (xs:=xs) u (by rw[a];exact⟨VP.refl _,Yh _,by simp,none,rfl⟩) ?_ (Wi (by omega)) ?_ ?_ <;> rw[a]
  .rintro i ys σ' H1 ⟨s1,hi,rfl,_⟩ _;refine⟨VZ.of (s1 _ _ d),?_⟩;rw[List.length_map,YD];omega
  .intro i y ys σ' H1 o Zq;obtain⟨s1,hi,rfl,v,rfl⟩:=Zq;rw[<-a];have g:i < xs.length:=(Y5.mp o).1;obtain⟨⟨m,hm⟩,hz⟩:=m2 y (Yd o);have e0:(xs.take (i+ 1)).map (fun y=>V.bl (Td (U.rs.map (·.nm)) y))=(xs.take i).map (fun y=>V.bl (Td (U.rs.map (·.nm)) y))++[V.bl (Td (U.rs.map (·.nm)) y)]:=by
    rw[Yz,o,YI,Yp];rfl
   walk_at"rd";refine⟨_,_,rfl,TN (c.trans s1) hm,hz,fun H2 s2=>⟨_,rfl,?_⟩⟩;cases hb:N5 y with
   |false=>
    rw[Y2 (by simp),a];exact⟨s1.trans s2,g,by rw[e0];unfold Td;rw[hb];rfl,_,rfl⟩
   |true=>
    obtain⟨z,rfl⟩:=Ol hb;rw[Y9 rfl];have j:=hU0.mono (s1.trans s2);refine⟨_,Et L j,db,z,rfl,rfl,_,j.hb,?_⟩;rw[Lv,a];exact⟨s1.trans s2,g,by rw[e0];unfold Td;rw[hb];rfl,_,rfl⟩
  .rintro ys σ' H1 ⟨s1,_,rfl,_⟩ l G hl sG hG;refine⟨l,rfl,xs.map (Td (U.rs.map (·.nm))),VZ.of (by rw[hG,YZ (Y1 _),YB];rfl),?_⟩;have e:(xs.map (Td (U.rs.map (·.nm)))).all id=xs.all (Td (U.rs.map (·.nm))):=by rw[UA];rfl
   rw[e];exact q _ (c.trans (s1.trans sG))
inductive C3(K:VG)(C CRo CP NR:VI)(vs:List V)(H:Hp)(Q:VK)(E:XK):Prop|mk (p db dc lc:VI) (U:NE) (x y:V) (n:String) (_:vs=[.ref p,x,y]) (_:W6 C CRo CP H p db dc lc U) (_:WY H x=some n) (_:(∀z,x= .str z->z.length <=100000)) (_:(((N5 x=false\/Td (U.rs.map (·.nm)) x=true)/\∀G,VP H G->E (.ref NR) none G)\/(N5 x=true/\Td (U.rs.map (·.nm)) x=false/\(∀G,VP H G->∃tt,JW K G y tt/\W.kitOne K tt (.ref CRo)=some false)/\∀G,VP H G->E (.ref NR) none G)\/∃e:PR,x= .str e.nm/\y= .ref e.p/\WZ CRo H e.p e.lw e.ll e.r/\e.n=0/\JC e.nm/\e.nm∉U.rs.map (·.nm)/\U.rs.length <=100/\∀G,(∀c o,H c=some o->c≠db->c≠dc->G c=some o)->W6 C CRo CP G p db dc lc {U with rs:=U.rs++[e]}->Q .non G))
abbrev Ie:Stmt:=Nl (WW 55) 1
theorem vE:WQ ["self","name","road"] ["self","name","road"] (VO Ie):=by walk_at"e"
theorem tF{f C CRo CP NR:VI}{fd:VD}(F:WX K "build" "Post.build" Ie f fd)(L:Mv K C)(B:Bt mg)(gC_Road:mg "Road"=some (.ref CRo))(RX:KX K CRo)(X_NoRoad:XC K mg "NoRoad" NR)(J9:JA P w K mg base "is_name" 1 ["value"] [] CV):VW P w K mg base (N4 P w) 2 f fd ["self","name","road"] (C3 K C CRo CP NR):=by
 refine F.okX vE (fun vs H Q E h=>?_) (fun cdv A outer s H vs Q E u h=>?_)
 .obtain⟨p,db,dc,lc,U,x,y,n,rfl,_⟩:=h;rfl
 .obtain⟨p,db,dc,lc,U,x,y,n,rfl,d,ty,hz,hc⟩:=h;refine⟨_,(W1 (Jj (PW.pt (Mf (Nq (N6 (JT J9 u.m rfl (Wb 1 VT)))) (Mr (Cj (P0 (D6 u)) (VQ 1) (WG K (VQ 0)) (by with_unfolding_all rfl))))) (Wc (Gq Ma rfl rfl X_NoRoad Wm)) Jw) (W1 (Jj (Nq (N6 (N3 (Ot (K:=K) rfl) B.isinstance (Wb 2 (VR (hs:=Wq) (M3 (v:=.ref CRo) rfl gC_Road rfl) VT))))) (Wc (Gq Ma rfl rfl X_NoRoad Wm)) Jw) (W1 (Kb (D6 u) (WG K (VQ 0)) (VQ 1) (VQ 2) rfl) (Wc (Kb (D6 u) (WG K (VQ 0)) (VQ 1) W3 rfl))))),?_⟩;refine We fun N r=>?_
  walk_at"rd";refine⟨_,_,rfl,ty,hz,fun i g=>⟨_,rfl,?_⟩⟩;cases hb:N5 x with
  |false=>
   rw[Y9 (by rfl)];rcases hc with⟨_,q⟩|⟨h,_⟩|⟨e,rfl,_,_,_,nk,_⟩
   .exact q i g
   .rw[hb]at h;cases h
   .rw[nk.is]at hb;cases hb
  |true=>
  rw[Y2 (by simp)];obtain⟨z,rfl⟩:=Ol hb;have l:Td (U.rs.map (·.nm)) (.str z)=decide (z∈U.rs.map (·.nm)):=by unfold Td;rw[hb];rfl
  replace d:=d.mono g
  refine⟨_,Et L d,db,z,rfl,rfl,_,d.hb,?_⟩;rw[Lv,<-l];cases hn:Td (U.rs.map (·.nm)) (.str z) with
  |true=>
   rw[Y9 rfl];rcases hc with⟨_,q⟩|⟨_,h,_⟩|⟨e,ez,_,_,_,_,h,_⟩
   .exact q i g
   .rw[hn]at h;cases h
   .cases ez;rw[l]at hn;exact absurd (XN hn) h
  |false=>
  rw[Y2 (by simp)];refine r _ _ ?_;clear r N;refine We fun N r=>?_
  walk_at"rd";rcases hc with⟨h|h,_⟩|⟨_,_,ht,q⟩|⟨e,ez,rfl,hR,e0,nk,nn,hl,q⟩
  .rw[hb]at h;cases h
  .rw[hn]at h;cases h
  .obtain⟨tt,h1,h2⟩:=ht i g;refine⟨_,_,_,_,rfl,h1,rfl,h2,_,rfl,?_⟩;rw[Y9 (by rfl)];exact q i g
  cases ez;clear hb l hn hz ty
  replace hR:=hR.mono g
  replace q:∀G,(∀c o,i c=some o->c≠db->c≠dc->G c=some o)->W6 C CRo CP G p db dc lc {U with rs:=U.rs++[e]}->Q .non G:=fun G k hG=>q G (fun c o h=>k c o (g c o h)) hG
  refine⟨_,_,_,_,rfl,hR.ty RX,rfl,RX.k,_,rfl,?_⟩;rw[Y2 (by simp)];refine r _ _ ?_;clear r N;walk_at"rd";obtain⟨dx,fs,hp,hl',hf⟩:=d.ex;refine⟨_,Et L d,db,rfl,_,d.hb,?_,fun G1 b1 e1=>?_⟩
  .unfold dS dB;rw[List.length_map,List.length_map,YE];omega
  have np1:p≠db:=VS hp d.hb nofun;have np2:p≠dc:=VS hp d.hc nofun;have fl1:JB K G1 (.ref p) "counts" (.ref dc):=⟨p,C,dx,fs,rfl,b1 _ _ hp np1,L.cl,L.counts,by rw[hf "counts"];rfl⟩
  refine⟨_,fl1,dc,rfl,_,b1 _ _ d.hc (Ne.symm d.ne),?_,fun G2 b2 e2=>?_⟩
  .unfold dS dC;rw[List.length_map,List.length_map,YE];omega
  rw[Q6 _ (by rw[II];exact nn)]at e1;rw[Q6 _ (by rw[Q8];exact nn)]at e2;have kp:∀c o,i c=some o->c≠db->c≠dc->G2 c=some o:=fun c o h n1 n2=>b2 c o (b1 c o h n1) n2
  refine q G2 kp ?_;have kd:Ru i G2:=fun c o h n=>kp c o h (fun z=>n _ (Yo (h.symm.trans (z▸d.hb)))) (fun z=>n _ (Yo (h.symm.trans (z▸d.hc))))
  refine⟨⟨dx,fs,kp _ _ hp np1 np2,hl',hf⟩,?_,?_,kp _ _ d.hl (VS d.hl d.hb nofun) (VS d.hl d.hc nofun),d.ne,fun x j=>?_,fun c hc=>?_,?_⟩
  .rw[b2 _ _ e1 d.ne];unfold dB;rw[Yp];rfl
  .rw[e2];unfold dC;rw[Yp,show [e].map (fun e=>(e.nm,V.int e.n))=[(e.nm,V.int 0)] by rw[List.map_cons,e0];rfl]
  .rcases YG.mp j with j|j
   .exact kd.road (d.rd x j)
   .rw[Yn.mp j];exact kd.road hR
  .exact kd.thing (d.th c hc)
  .show((U.rs++[e]).map (·.nm)).Nodup;rw[Yp,List.nodup_append];exact⟨d.nd,by simp,fun a ha b hb=>by simp at hb;subst hb;exact fun z=>nn (z▸ha)⟩
structure CH(tm:Int)(ps:List (Addr×Addr))(ds:List PD)(cs:List Th):Prop where
 q:cs.map (fun c=>(c.q,c.b))=ps
 d:cs.map (·.d)=ds
 t:∀c∈cs,c.tm=tm
theorem ZN(p:Int)(ns:VJ):RE (.int p) (ns.map V.int)=decide (p∈ns):=by
 rw[Xa,Yy];unfold RE;rw[List.any_map,V3];constructor
 .rintro⟨x,hx,h⟩;have h:DS (.int x) (.int p)=true:=h;simp[DS]at h;rw[<-h];exact hx
 .intro h;exact⟨p,h,by simp[DS,Function.comp]⟩
def bump(nm:Str)(rs:List PR):List PR:=rs.map fun x=>if x.nm=nm then {x with n:=x.n+ 1} else x
theorem Sb(nm:Str)(rs:List PR):(bump nm rs).map (·.nm)=rs.map (·.nm):=by
 unfold bump;rw[YB];refine X0 fun x _=>?_
 show(if x.nm=nm then {x with n:=x.n+ 1} else x).nm=x.nm
 split <;> rfl
theorem vO(nm:Str)(rs:List PR):dB (bump nm rs)=dB rs:=by
 unfold bump dB;rw[YB];refine X0 fun x _=>?_
 show((if x.nm=nm then {x with n:=x.n+ 1} else x).nm,V.ref (if x.nm=nm then {x with n:=x.n+ 1} else x).p)=_
 split <;> rfl
theorem wO{nm:Str}{rs:List PR}{e:PR}(nd:(rs.map (·.nm)).Nodup)(he:e∈rs)(hn:e.nm=nm):Tp (dS (dC rs)) (.inr nm) (.int (e.n+ 1))=dS (dC (bump nm rs)):=by
 rw[Sr _ (by rw[Q8];exact hn▸YU he)];unfold dC bump;rw[YB,YB]
 congr 1
 refine X0 fun x a=>?_
 show(if x.nm=nm then(x.nm,V.int (e.n+ 1)) else(x.nm,V.int x.n))=((if x.nm=nm then {x with n:=x.n+ 1} else x).nm,V.int (if x.nm=nm then {x with n:=x.n+ 1} else x).n)
 by_cases h:x.nm=nm
 .rw[Y9 h,Y9 h,Hd nd a he (h.trans hn.symm)]
 .rw[Y2 h,Y2 h]
theorem jE{nm:Str}{rs:List PR}{x:PR}(h:x∈bump nm rs):∃y∈rs,x.nm=y.nm/\x.p=y.p/\x.lw=y.lw/\x.ll=y.ll/\x.r=y.r:=by
 obtain⟨y,a,rfl⟩:=Yv.mp h;refine⟨y,a,?_⟩
 split <;> exact⟨rfl,rfl,rfl,rfl,rfl⟩
inductive F9(C CRo CP:VI)(vs:List V)(H:Hp)(Q:VK)(E:XK):Prop|mk (p db dc lc lp:VI) (U:NE) (e:PR) (ps:List (Addr×Addr)) (ds:List PD) (_:vs=[.ref p,.str e.nm,.ref lp]) (_:W6 C CRo CP H p db dc lc U) (_:e∈U.rs) (_:H lp=some (.lst (Mg ps))) (_:Jc CP H ps ds) (_:lp≠lc) (_:(∀q∈ps,q.2≠lc)) (_:(∀c∈U.cs,c.b≠lc)) (_:(∀x∈U.rs,x.lw≠lc/\x.ll≠lc)) (_:U.rs.length <=100) (_:U.cs.length <=5000) (_:ps.length <=5000) (_:∀cs' G,(∀c o,H c=some o->c≠lc->c≠dc->G c=some o)->(if e.n∈e.r.lo then cs'=[] else CH (U.now+ e.r.dl) ps ds cs')->W6 C CRo CP G p db dc lc {U with rs:=bump e.nm U.rs,cs:=U.cs++cs'}->Q .non G)
abbrev C7:Stmt:=Nl (WW 55) 10
theorem Og:WQ ["self","name","parts","road"] ["self","name","parts"] (VO C7):=by walk_at"e"
theorem wT{f C CRo CP:VI}{fd:VD}(F:WX K "put_on_road" "Post.put_on_road" C7 f fd)(L:Mv K C)(LR:Rf K CRo):VW P w K mg base WK 1 f fd ["self","name","parts"] (F9 C CRo CP):=by
 refine F.ok Og (fun vs H Q E h=>?_) (fun cdv A outer s H vs Q E hr h=>?_)
 .obtain⟨p,db,dc,lc,lp,U,e,ps,ds,rfl,_⟩:=h;rfl
 .obtain⟨p,db,dc,lc,lp,U,e,ps,ds,rfl,j,he,hlp,hps,nlp,nps,ncs,nrs,n1,n2,n3,q⟩:=h;have hR:=j.rd e he;refine⟨_,(W1 (T5 (i:=3) (Og).nd rfl (Or.inr rfl) (Rn hr (WG K (VQ 0)) (VQ 1))) (W1 (Ai (Jj (Cj (Su (K:=K) rfl) (Rn hr (WG K (VQ 0)) (VQ 1)) (WG K (VQ 3)) (by with_unfolding_all rfl)) (Wc (JR (Nu (K:=K) rfl Yc Xc Xd (EX Bs) (WG K (VQ 0)) (VR (hs:=Ef) (DL (N':=["part","self","road"]) (caps:=[none,some 0,some 3]) (Me (sc:=VO C7) (N:=["self","name","parts","road"]) rfl rfl (by decide +kernel)) rfl (TK (K:=K) rfl (VQ 2)) (fun _ _ _ _ _=>(Tg (i:=0) (TH (N:=["part","self","road"]) rfl (by decide +kernel)) rfl (Or.inl rfl))) (fun _ _ _ _ _=>D5) (fun _ _ _ _ _=>(Tf (VR (hs:=TU) (J0 (Jp NH) (WG K (VQ 1)) (WG K (VQ 2))) (Wb 0 VT))))) VT)))) Jw)) (Wc (Kb (D6 hr) (WG K (VQ 0)) (VQ 1) (J0 (Jp NH) (Rn hr (WG K (VQ 0)) (VQ 1)) W3) rfl)))),?_⟩;refine We fun N hN=>?_
  walk_at"rd";have dg:∀{xs:List (Str×V)} {a:VI} {H':Hp} {n:Str} {v:V},H' a=some (.dK (dS xs))->xs.lookup n=some v->Tv H' a (.str n) (some v):=fun h1 h2=>.inl ⟨_,.inr _,.inl h1,rfl,by rw[L1];first|exact h2|exact h2.symm⟩
  have lB:(dB U.rs).lookup e.nm=some (.ref e.p):=HW (f:=(·.nm)) (g:=fun e:PR=>V.ref e.p) j.nd he;have lC:(dC U.rs).lookup e.nm=some (.int e.n):=HW (f:=(·.nm)) (g:=fun e:PR=>V.int e.n) j.nd he;refine⟨_,Et L j,db,rfl,_,dg j.hb lB,?_⟩;refine hN _ _ ?_;clear hN N;refine We fun N hN=>?_
  walk_at"rd";obtain⟨Pu,ePu⟩:∃Pu:L2.St->Hp->Prop,Pu=fun σ' G=>∃ab,σ'=[some (.ref p),some (.str e.nm),some (.ref lp),some (.ref e.p)]/\WP lc H G/\(if e.n∈e.r.lo then ab=[] else CH (U.now+ e.r.dl) ps ds ab)/\G lc=some (.lst (JQ (U.cs++ab)))/\∀c∈ab,DH CP G c:=⟨_,rfl⟩
  refine⟨Pu,?_,?_⟩
  .refine⟨_,QO L j,dc,rfl,_,dg j.hc lC,_,wV LR hR,?_⟩;refine⟨_,_,rfl,.inl (VZ.of hR.hl),rfl,by simp[GT],_,rfl,?_⟩;rw[Y9 rfl,ZN]
   by_cases hm:e.n∈e.r.lo
   .rw[Yw hm,Y2 (by simp),ePu];refine⟨[],rfl,fun c o h _=>h,by rw[Y9 hm],by rw[List.append_nil];exact j.hl,nofun⟩
   .rw[Yt hm,Y9 (by simp)];refine⟨_,Bd L j,.inl ⟨rfl,_,VZ.of j.hl⟩,⟨_,VZ.of hlp⟩,?_⟩;obtain⟨Pv,ePv⟩:∃Pv:Nat->List V->L2.St->Hp->Prop,Pv=fun i ys σ' G=>VP H G/\∃cs v,σ'=[v,some (.ref p),some (.ref e.p)]/\ys=JQ cs/\CH (U.now+ e.r.dl) (ps.take i) (ds.take i) cs/\∀c∈cs,DH CP G c/\H c.t=none:=⟨_,rfl⟩
    refine Db (xs:=Mg ps) Pv (by rw[ePv];exact⟨VP.refl _,[],none,rfl,rfl,⟨rfl,rfl,nofun⟩,nofun⟩) ?_ (Wi (by rw[Ez];omega)) ?_ ?_ <;> rw[ePv]
    .rintro i ys σ' G ⟨sG,cs,v,rfl,rfl,u,_⟩ _;refine⟨VZ.of (sG _ _ hlp),?_⟩;have e1:=YH List.length u.q;rw[List.length_map,YD]at e1;rw[show(JQ cs).length=cs.length from List.length_map ..];omega
    .intro i y ys σ' G hy Zq;obtain⟨sG,cs,v,rfl,rfl,u,aa⟩:=Zq;rw[<-ePv];obtain⟨q0,hq0,rfl⟩:=F6 hy;obtain⟨d0,hd0,hP0⟩:=hps.get hq0;walk_at"rd";have hUG:=j.mono sG;refine⟨_,Fa L hUG,_,tR LR (hR.mono sG),_,rfl,_,rfl,by decide,fun t1 G1 ht1 s1 hG1=>?_⟩;rw[ePv];refine⟨sG.trans s1,cs++[⟨U.now+ e.r.dl,t1,q0.1,q0.2,d0⟩],_,rfl,?_,⟨?_,?_,fun c hc=>?_⟩,fun c hc=>?_⟩
     .unfold JQ;rw[Yp];rfl
     .rw[Yp,u.q,Yz,hq0];rfl
     .rw[Yp,u.d,Yz,hd0];rfl
     .rcases YG.mp hc with hc|hc
      .exact u.t c hc
      .rw[Yn.mp hc]
     .rcases YG.mp hc with hc|hc
      .exact⟨(aa c hc).1.mono s1,(aa c hc).2⟩
      .rw[Yn.mp hc];exact⟨⟨hG1,hP0.mono (sG.trans s1)⟩,sG.free ht1⟩
    .rintro ys σ' G ⟨sG,cs,v,rfl,rfl,u,aa⟩ l G1 hl s1 hG1;have s01:=sG.trans s1;rw[Ez,YO,hps.len,YO]at u;have hlc1:=s01 _ _ j.hl;have ecs:cs.length=ps.length:=by rw[<-u.q,List.length_map]
     refine⟨lc,rfl,l,rfl,_,hlc1,_,hG1,?_,fun G2 b2 hG2=>?_⟩
     .unfold JQ;rw[List.length_map,List.length_map,YE];omega
     .rw[ePu];refine⟨cs,rfl,fun c o h n=>b2 c o (s01 c o h) n,by rw[Y2 hm];exact u,by rw[hG2];unfold JQ;rw[Yp],fun c hc=>?_⟩;have hT:=(aa c hc).1.mono s1;have hb:(c.q,c.b)∈ps:=by rw[<-u.q];exact YU (f:=fun c:Th=>(c.q,c.b)) hc
      obtain⟨dx,fs,hq⟩:=hT.pi.ins;exact hT.kp (fun o h=>b2 _ _ h (VS hT.tu hlc1 nofun)) (fun o h=>b2 _ _ h (VS hq hlc1 nofun)) (fun o h=>b2 _ _ h (nps _ hb))
  .rw[ePu];intro σ' G Zq;obtain⟨ab,rfl,bG,u,hG,aa⟩:=Zq;refine hN _ _ ?_;clear hN N;walk_at"rd";obtain⟨dx,fs,hp,hl,hf⟩:=j.ex;have np1:p≠lc:=VS hp j.hl nofun;have np2:p≠dc:=VS hp j.hc nofun;have nc:dc≠lc:=VS j.hc j.hl nofun;have fl:JB K G (.ref p) "counts" (.ref dc):=⟨p,C,dx,fs,rfl,bG _ _ hp np1,L.cl,L.counts,by rw[hf "counts"];rfl⟩
   have hc1:=bG _ _ j.hc nc;refine⟨_,fl,dc,rfl,_,dg hc1 lC,_,rfl,_,fl,dc,rfl,_,hc1,?_,fun G2 b2 e2=>?_⟩
   .unfold dS dC;rw[List.length_map,List.length_map,YE];omega
   rw[wO j.nd he rfl]at e2;have kp:∀c o,H c=some o->c≠lc->c≠dc->G2 c=some o:=fun c o h n1 n2=>b2 c o (bG c o h n1) n2
   have kd:Ru G G2:=fun c o h n=>b2 c o h fun z=>n _ (Yo (h.symm.trans (z▸hc1)))
   have nlc:lc≠dc:=Ne.symm nc;refine q ab G2 kp u ?_;refine⟨⟨dx,fs,kp _ _ hp np1 np2,hl,hf⟩,?_,e2,b2 _ _ hG nlc,j.ne,fun x hx=>?_,fun c hc=>?_,?_⟩
   .show G2 db=some (.dK (dS (dB (bump e.nm U.rs))));rw[vO];exact kp _ _ j.hb (VS j.hb j.hl nofun) j.ne
   .obtain⟨y,hy,_,h2,h3,h4,h5⟩:=jE hx;have hY:=j.rd y hy;obtain⟨m1,m2⟩:=nrs y hy;obtain⟨dxy,fsy,hyp,_⟩:=hY.ex;rw[h2,h3,h4,h5];exact kd.road (hY.kp (fun o h=>bG _ _ h (VS hyp j.hl nofun)) (fun o h=>bG _ _ h m1) (fun o h=>bG _ _ h m2))
   .rcases YG.mp hc with hc|hc
    .have hT:=j.th c hc;obtain⟨dxy,fsy,hq⟩:=hT.pi.ins;exact kd.thing (hT.kp (fun o h=>bG _ _ h (VS hT.tu j.hl nofun)) (fun o h=>bG _ _ h (VS hq j.hl nofun)) (fun o h=>bG _ _ h (ncs c hc)))
    .exact kd.thing (aa c hc)
   .show((bump e.nm U.rs).map (·.nm)).Nodup;rw[Sb];exact j.nd
structure Ld where
 t:Addr
 lp:Addr
 e:PR
 ps:List (Addr×Addr)
 ds:List PD
structure GW(CP:VI)(H:Hp)(x:Ld):Prop where
 tu:H x.t=some (.tup [.str x.e.nm,.ref x.lp])
 ls:H x.lp=some (.lst (Mg x.ps))
 pi:Jc CP H x.ps x.ds
theorem GW.mono{CP:VI}{H G:Hp}{x:Ld}(s:VP H G)(h:GW CP H x):GW CP G x:=⟨s _ _ h.tu,s _ _ h.ls,h.pi.mono s⟩
theorem GW.but{CP a:VI}{H G:Hp}{x:Ld}(b:WP a H G)(h:GW CP H x)(n1:x.t≠a)(n2:x.lp≠a)(n3:∀q∈x.ps,q.1≠a/\q.2≠a):GW CP G x:=by
 refine⟨b _ _ h.tu n1,b _ _ h.ls n2,?_⟩;have:=h.pi
 revert n3 this
 generalize x.ps=ps;generalize x.ds=ds;intro n3 h
 induction h with
 |nil=>exact .nil
 |cons r _ ih=>exact .cons (r.but b (n3 _ Yq).1 (n3 _ Yq).2) (ih fun q c=>n3 q (Ya _ c))
theorem Jc.mem{C:VI}{H:Hp}{ps:List (Addr×Addr)}{ds:List PD}(h:Jc C H ps ds){q:Addr×Addr}(hq:q∈ps):∃d∈ds,WB C H q.1 q.2 d:=by
 obtain⟨i,hi⟩:=Vq hq;obtain⟨d,hd,a⟩:=h.get hi;exact⟨d,Yd hd,a⟩
structure Po(rs:List PR)(ns:List Str)(ds:List PD)(H:Hp)(xs:List Ld):Prop where
 at':∀i x,xs[i]?=some x->x.e∈rs/\ns[i%ns.length]?=some x.e.nm/\∃d,ds[i]?=some d/\x.ds=WM x.e.r.ws [d]
 fr:∀x∈xs,H x.lp=none/\∀q∈x.ps,H q.2=none
 ap:xs.Pairwise fun x y=>∀a∈x.ps,∀b∈y.ps,a.2≠b.2
def Te(rs:List PR)(ns:List Str)(ds:List PD):Prop:=∃i d e,ds[i]?=some d/\e∈rs/\ns[i%ns.length]?=some e.nm/\Du e.r.ws [d]
inductive Ks(C CRo CP TW:VI)(vs:List V)(H:Hp)(Q:VK)(E:XK):Prop|mk (p db dc lc lq ln:VI) (U:NE) (ps:List (Addr×Addr)) (ds:List PD) (ns:List Str) (_:vs=[.ref p,.ref lq,.ref ln]) (_:W6 C CRo CP H p db dc lc U) (_:H lq=some (.lst (Mg ps))) (_:Jc CP H ps ds) (_:H ln=some (.lst (ns.map V.str))) (_:1 <=ns.length) (_:ns.length <=100) (_:(∀n∈ns,∃e∈U.rs,e.nm=n)) (_:(∀d∈ds,∀e∈U.rs,e.nm∈ns->TR e.r.ws [d])) (_:ps.length <=4001) (_:(Te U.rs ns ds->∀G,VP H G->E (.ref TW) none G)) (_:(¬Te U.rs ns ds->∀l xs G,H l=none->VP H G->G l=some (.lst (xs.map fun x=>V.ref x.t))->xs.length=ps.length->(∀x∈xs,GW CP G x)->Po U.rs ns ds H xs->Q (.ref l) G))
abbrev Le:Stmt:=Nl (WW 55) 9
theorem Bj:WQ ["self","pieces","names","loads","place","piece","name"] ["self","pieces","names"] (VO Le):=by walk_at"e"
theorem vJ{f C CRo CP TW:VI}{fd:VD}(F:WX K "loads_of" "Post.loads_of" Le f fd)(L:Mv K C)(LR:Rf K CRo)(B:Bt mg)(B3:Cr mg)(NF:Gv P w K mg base "cut_over" 11 ["pieces","widths"] [] (Iu CP TW)):VW P w K mg base (N4 P w) 12 f fd ["self","pieces","names"] (Ks C CRo CP TW):=by
 refine F.okX Bj (fun vs H Q E h=>?_) (fun cdv A outer s H vs Q E hr h=>?_)
 .obtain⟨p,db,dc,lc,lq,ln,U,ps,ds,ns,rfl,_⟩:=h;rfl
 .obtain⟨p,db,dc,lc,lq,ln,U,ps,ds,ns,rfl,hU,hlq,hps,hln,m1,m2,hns,hfit,m3,qt,q⟩:=h;refine⟨_,(W1 (NY 3 Bj (WO VT)) (W1 (Gi Xt rfl (Zi (K:=K) rfl rfl B3.enumerate (Wb 1 VT)) (DZ (K:=K) (n:=2) rfl rfl (TJ (MC 4 Bj) (TJ (MC 5 Bj) Ge))) (W1 (NY 6 Bj (Q5 K (VQ 2) (J0 (dI MN) (VQ 4) (N3 (Gu (DA (K:=K) rfl)) B.len (Wb 2 VT))))) (Wc (JR (Nu (K:=K) rfl Yc Yf Yg (Tn Tq) (VQ 3) (VR (hs:=TL) (Tf (Wb 6 (MG (GG NF hr.m rfl (NK Ma (fun _ _ h=>h)) (VR (hs:=Nk) (WO (Wb 5 VT)) (Nt (WG K (Rn hr (WG K (VQ 0)) (VQ 6))) VT))) VT))) VT)))))) (Wc (WL (VQ 3))))),?_⟩;refine We fun N hN=>?_
  walk_at"rd";refine⟨Yh _,fun l G0 hl s0 hG0=>hN _ _ ?_⟩;clear hN N;refine We fun N hN=>?_
  walk_at"rd";have hlq0:=s0 _ _ hlq;refine⟨⟨_,VZ.of hlq0⟩,?_⟩;obtain⟨Pv,ePv⟩:∃Pv:Nat->L2.St->Hp->Prop,Pv=fun i σ' G=>∃ (xs:List Ld) (v4 v5 v6:Option V),σ'=[some (.ref p),some (.ref lq),some (.ref ln),some (.ref l),v4,v5,v6]/\VP H G/\G l=some (.lst (xs.map fun x=>V.ref x.t))/\xs.length=i/\(∀x∈xs,GW CP G x/\x.t≠l/\x.lp≠l/\∀q∈x.ps,q.1≠l/\q.2≠l)/\Po U.rs ns ds H xs/\(∀j < i,∀d e,ds[j]?=some d->e∈U.rs->ns[j%ns.length]?=some e.nm->¬Du e.r.ws [d]):=⟨_,rfl⟩
  refine yD (xs:=Mg ps) Pv (by rw[ePv];exact⟨[],none,none,none,rfl,s0,hG0,rfl,nofun,⟨nofun,nofun,.nil⟩,nofun⟩) ?_ ?_ ?_ <;> rw[ePv]
  .intro i σ' G _ Zq;obtain⟨xs,v4,v5,v6,rfl,sG,_⟩:=Zq;exact VZ.of (sG _ _ hlq)
  .rintro i x t0 σ' G G' u ⟨xs,v4,v5,v6,rfl,sG,hGl,hxl,hxs,hL,hwd⟩ ht0 v hGt;rw[<-ePv];obtain⟨q0,hq0,rfl⟩:=F6 u;obtain⟨d0,hd0,hP0⟩:=hps.get hq0;walk_at"rd";have hln':=v _ _ (sG _ _ hln);have hi:i < ps.length:=by rw[<-Ez];exact(Y5.mp u).1
   obtain⟨nm,aa⟩:∃nm,ns[i%ns.length]?=some nm:=⟨_,Y7 (Nat.mod_lt _ (by omega))⟩;obtain⟨e,he,rfl⟩:=hns nm (Yd aa);have sHG:=sG.trans v;refine⟨_,JN.of hGt,rfl,_,_,rfl,_,_,rfl,rfl,_,.inl (VZ.of hln'),_,rfl,by rw[List.length_map];omega,_,VZ.of hln',.str e.nm,?_,.inl ⟨rfl,_,VZ.of (v _ _ hGl)⟩,by decide,fun l1 G1 hl1 s1 hG1=>?_⟩
   .rw[List.length_map,show((i:Int)%(ns.length:Int))=((i%ns.length:Nat):Int) by omega];refine CI ?_;rw[Yk,aa];rfl
   have s2:=sHG.trans s1;have hU1:=hU.mono s2;have hR:=hU1.rd e he;refine⟨_,Et L hU1,db,rfl,_,.inl ⟨_,.inr e.nm,.inl hU1.hb,rfl,by rw[L1];exact(HW (f:=(·.nm)) (g:=fun e:PR=>V.ref e.p) hU.nd he).symm⟩,_,yV LR hR,?_⟩;refine⟨l1,e.lw,[q0],[d0],e.r.ws,rfl,hG1,.cons (hP0.mono s2) .nil,hR.hw,hfit d0 (Yd hd0) e he (Yd aa),fun z G2 s3=>qt ⟨i,d0,e,hd0,he,aa,z⟩ G2 (s2.trans s3),fun hnw lp qs G2 s3 hG2 hq2 hfr=>⟨by decide,fun t2 G3 ht2 s4 hG3=>?_⟩⟩;have hne:e.r.ws≠[]:=fun z=>by have:=hR.ok.l1;rw[z]at this;simp at this
   obtain⟨hlp,hqs⟩:=hfr hne;have s24:=v.trans (s1.trans (s3.trans s4));have hGl3:=s24 _ _ hGl;have hGl1:G1 l=_:=s1 _ _ (v _ _ hGl);have hGl2:G2 l=_:=s3 _ _ hGl1;refine⟨_,hGl3,by rw[List.length_map,YE];omega,fun G4 b4 hG4=>?_⟩;rw[ePv];have hlpl:lp≠l:=Ne.symm (WJ hGl1 hlp);have ht2l:t2≠l:=Ne.symm (WJ hGl2 ht2);have hqa:∀q∈qs,q.1≠l/\q.2≠l:=fun q hq=>by
    obtain⟨d,hd,hP⟩:=hq2.mem hq;obtain⟨dx,fs,hi⟩:=hP.ins;exact⟨VS hi hGl2 nofun,Ne.symm (WJ hGl1 (hqs q hq))⟩
   have new:GW CP G3 ⟨t2,lp,e,qs,WM e.r.ws [d0]⟩:=⟨hG3,s4 _ _ hG2,hq2.mono s4⟩;refine⟨xs++[⟨t2,lp,e,qs,WM e.r.ws [d0]⟩],_,_,_,rfl,?_,?_,?_,fun x u=>?_,⟨fun k x hk=>?_,fun x u=>?_,?_⟩,fun j hj d2 e2 k1 k2 k3=>?_⟩
   .intro c o h;exact b4 c o (s24 c o (sG c o h)) (WJ h hl)
   .rw[hG4,Yp];rfl
   .rw[Yx,hxl];rfl
   .rcases YG.mp u with u|u
    .obtain⟨a1,a2,a3,a4⟩:=hxs x u;exact⟨(a1.mono s24).but b4 a2 a3 a4,a2,a3,a4⟩
    .rw[Yn.mp u];exact⟨new.but b4 ht2l hlpl hqa,ht2l,hlpl,hqa⟩
   .rw[Vp]at hk
    split at hk
    .exact hL.at' k x hk
    .rename_i hlt
     have hk0:k=i:=by
      rw[List.getElem?_singleton]at hk
      split at hk
      .omega
      .cases hk
     subst hk0;rw[hxl,Nat.sub_self]at hk;cases hk;exact⟨he,aa,d0,hd0,rfl⟩
   .rcases YG.mp u with u|u
    .exact hL.fr x u
    .rw[Yn.mp u];exact⟨s2.free hlp,fun q hq=>s2.free (hqs q hq)⟩
   .rw[List.pairwise_append];refine⟨hL.ap,by simp,fun x u y hy a ha b hb=>?_⟩;rw[Yn.mp hy]at hb;obtain⟨d,hd,hP⟩:=(hxs x u).1.pi.mem ha;exact WJ (s1 _ _ (v _ _ hP.bd)) (hqs b hb)
   .rcases V2.mp hj with h|rfl
    .exact hwd j h d2 e2 k1 k2 k3
    .rw[hd0]at k1;cases k1;rw[aa]at k3;have:=Hd hU.nd he k2 (Yo k3);rw[<-this];exact hnw
  .intro σ' G Zq;obtain⟨xs,v4,v5,v6,rfl,sG,hGl,hxl,hxs,hL,hwd⟩:=Zq;refine hN _ _ ?_;clear hN N;walk_at"rd";rw[Ez]at hxl hwd;refine q (fun⟨i,d,e,k1,k2,k3,k4⟩=>hwd i (by rw[hps.len];exact(Y5.mp k1).1) d e k1 k2 k3 k4) l xs G hl sG hGl hxl (fun x u=>(hxs x u).1) hL
end
structure AR where
 nm:Str
 r:MY
 n:Int
structure AP where
 rs:List AR
 cs:List (Int×PD)
def Dj(rs:List PR):List AR:=rs.map fun e=>⟨e.nm,e.r,e.n⟩
def TZ(cs:List Th):List (Int×PD):=cs.map fun c=>(c.tm,c.d)
def EQ(U:NE):AP:=⟨Dj U.rs,TZ U.cs⟩
def EM(nm:Str)(rs:List AR):List AR:=rs.map fun e=>if e.nm=nm then {e with n:=e.n+ 1} else e
def RU(t:Int)(d:PD)(e:AR):List (Int×PD):=if e.n∈e.r.lo then [] else(WM e.r.ws [d]).map fun x=>(t+ e.r.dl,x)
def TD(t:Int)(nm:Str)(d:PD)(A:AP):AP:=match A.rs.find? fun e=>decide (e.nm=nm) with
 |none=>A
 |some e=>⟨EM nm A.rs,A.cs++RU t d e⟩
def Gm(t:Int)(ns:List Str):Nat->List PD->AP->AP
 |_,[],A=>A
 |i,d::ds,A=>Gm t ns (i+ 1) ds (TD t (ns.getD (i%ns.length) "") d A)
theorem Ov(t:Int)(ns:List Str)(d:PD):∀ (ds:List PD) (i:Nat) (A:AP),Gm t ns i (ds++[d]) A=TD t (ns.getD ((i+ ds.length)%ns.length) "") d (Gm t ns i ds A)
 |[],i,A=>rfl
 |x::ds,i,A=>by
  show Gm t ns (i+ 1) (ds++[d]) _=_;rw[Ov t ns d ds (i+ 1)];rw[show i+ 1+ ds.length=i+ (x::ds).length by rw[List.length_cons];omega];rfl
theorem jF(nm:Str)(rs:List PR):Dj (bump nm rs)=EM nm (Dj rs):=by
 unfold Dj bump EM;rw[YB,YB];refine X0 fun x _=>?_
 show(⟨(if x.nm=nm then {x with n:=x.n+ 1} else x).nm,(if x.nm=nm then {x with n:=x.n+ 1} else x).r,(if x.nm=nm then {x with n:=x.n+ 1} else x).n⟩:AR)=if x.nm=nm then {(⟨x.nm,x.r,x.n⟩:AR) with n:=x.n+ 1} else⟨x.nm,x.r,x.n⟩
 split <;> rfl
theorem wK{rs:List PR}(nd:(rs.map (·.nm)).Nodup){e:PR}(he:e∈rs):(Dj rs).find? (fun x=>decide (x.nm=e.nm))=some ⟨e.nm,e.r,e.n⟩:=by
 unfold Dj
 induction rs with
 |nil=>exact nomatch he
 |cons x r ih=>
  rw[List.map_cons,Xb];rcases Y6.mp he with rfl|z
  .simp
  .have a:¬x.nm=e.nm:=fun q=>(YS.mp nd).1 (Yv.mpr ⟨e,z,q.symm⟩)
   rw[Yt a];exact ih (YS.mp nd).2 z
theorem tT{t:Int}{d:PD}{rs:List PR}{cs cs':List Th}{ps:List (Addr×Addr)}(nd:(rs.map (·.nm)).Nodup){e:PR}(he:e∈rs)(h:if e.n∈e.r.lo then cs'=[] else CH (t+ e.r.dl) ps (WM e.r.ws [d]) cs'):
  (⟨Dj (bump e.nm rs),TZ (cs++cs')⟩:AP)=TD t e.nm d ⟨Dj rs,TZ cs⟩:=by
 unfold TD;rw[wK nd he,jF];show _=(⟨EM e.nm (Dj rs),TZ cs++RU t d ⟨e.nm,e.r,e.n⟩⟩:AP);unfold TZ;rw[Yp]
 congr 2
 unfold RU;show _=if e.n∈e.r.lo then [] else _
 split at h
 .rename_i hm
  rw[Y9 hm,h];rfl
 .rename_i hm
  rw[Y2 hm,<-h.d,YB];exact X0 fun c a=>by rw[h.t c a];rfl
def Jv(a b:List PR):Prop:=a.map (fun e=>(e.nm,e.p,e.lw,e.ll,e.r))=b.map fun e=>(e.nm,e.p,e.lw,e.ll,e.r)
theorem Jv.bump{nm:Str}{a b:List PR}(h:Jv a b):Jv (bump nm a) b:=by
 unfold Jv at h ⊢;rw[<-h];unfold Mine.bump;rw[YB];refine X0 fun x _=>?_
 show(let y:=(if x.nm=nm then {x with n:=x.n+ 1} else x);(y.nm,y.p,y.lw,y.ll,y.r))=_
 split <;> rfl
theorem Jv.mem{a b:List PR}(h:Jv a b){x:PR}(hx:x∈b):∃y∈a,y.nm=x.nm/\y.p=x.p/\y.lw=x.lw/\y.ll=x.ll/\y.r=x.r:=by
 have:(x.nm,x.p,x.lw,x.ll,x.r)∈a.map fun e=>(e.nm,e.p,e.lw,e.ll,e.r):=by
  rw[h];exact YU (f:=fun e:PR=>(e.nm,e.p,e.lw,e.ll,e.r)) hx
 obtain⟨y,c,e⟩:=Yv.mp this;simp only[Prod.mk.injEq]at e;exact⟨y,c,e⟩
theorem Jv.len{a b:List PR}(h:Jv a b):a.length=b.length:=by
 have:=YH List.length h;simpa using this
theorem AJ{f:Str}{v x:V}:∀{fs:List (Str×V)},fs.lookup f=some x->(Jl f v fs).length=fs.length
 |[],h=>by cases h
 |(g,y)::r,h=>by
  show(if g=f then(g,v)::r else(g,y)::Jl f v r).length=_
  by_cases e:g=f
  .rw[Y9 e];rfl
  .rw[Y2 e,List.length_cons,List.length_cons];have hb:(f==g)=false:=X3.mpr (fun z=>e z.symm);rw[show List.lookup f ((g,y)::r)=(match f==g with|true=>some y|false=>List.lookup f r) from rfl,hb]at h;rw[AJ h]
theorem Od{C p lw ll a:VI}{H G:Hp}{r:MY}(b:WP a H G)(h:WZ C H p lw ll r)(n:p≠a)(m:∀l,H a≠some (.lst l)):WZ C G p lw ll r:=
 h.kp (fun o e=>b _ _ e n) (fun o e=>b _ _ e fun z=>m _ (z▸h.hw)) (fun o e=>b _ _ e fun z=>m _ (z▸h.hl))
theorem W6.setNow{C CR CP p db dc lc dx:VI}{H G:Hp}{U:NE}{fs:List (Str×V)}{t:Int}(h:W6 C CR CP H p db dc lc U)(hp:H p=some (.ins C dx fs))(b:WP p H G)(e:G p=some (.ins C dx (Jl "now" (.int t) fs)))(nc:C≠CR)(np:C≠CP):W6 C CR CP G p db dc lc {U with now:=t}:=by
 obtain⟨aa,fs',d,hl,i⟩:=h.ex;rw[hp]at d;cases d;have g:fs.lookup ("now":Str)=some (.int U.now):=by rw[i];rfl
 refine⟨⟨dx,_,e,by rw[AJ g];exact hl,fun f=>?_⟩,b _ _ h.hb (VS h.hb hp nofun),b _ _ h.hc (VS h.hc hp nofun),b _ _ h.hl (VS h.hl hp nofun),h.ne,fun x n=>?_,fun c hc=>?_,h.nd⟩
 .by_cases hfn:f="now"
  .subst hfn;rw[ME];rfl
  .rw[J2 hfn,i f];have s:(f==("now":Str))=false:=by simpa using hfn
   simp only[Bv,List.lookup,s]
 .have j:=h.rd x n;obtain⟨w,u,q,_⟩:=j.ex;exact Od b j (VS q hp (by intro z;injection z with z;exact nc z.symm)) (fun l z=>by rw[hp]at z;cases z)
 .have a:=h.th c hc;obtain⟨y,v,r⟩:=a.pi.ins;exact a.kp (fun o z=>b _ _ z (VS a.tu hp nofun)) (fun o z=>b _ _ z (VS r hp (by intro z;injection z with z;exact np z.symm))) (fun o z=>b _ _ z (VS a.pi.bd hp nofun))
theorem OB(d:PD)(h:1 <=d.ns.length):Nm d 0 d.ns.length [d]:=⟨d.ns.length,by omega,Y1 _,(PD.part_all d).symm,.inl rfl,rfl⟩
theorem Sg{d:PD}{ws:List Nat}(h:1 <=d.ns.length)(hw:ES ws):(WM ws [d]).length <=d.ns.length:=by
 have:=(Nm.tot (Y1 _) (Qi (ws:=ws) (fun w a=>(hw w a).1) (OB d h))).2;omega
theorem yC{ds:List PD}{i:Nat}{d:PD}(h:ds[i]?=some d):tot (ds.take (i+ 1))=tot (ds.take i)+ d.ns.length:=by
 unfold tot;rw[Yz,h,YI,Yp,List.sum_append];simp
theorem tZ(ds:List PD)(i:Nat):tot (ds.take i) <=tot ds:=by
 have:tot ds=tot (ds.take i)+ tot (ds.drop i):=by
  unfold tot;rw[<-List.sum_append,<-Yp,Vl]
 omega
theorem x5{w:Nat}{d:PD}(h8:8 <=w)(h1:1 <=d.ns.length):tot (Wa w d 0)=d.ns.length:=by
 have:=(Nm.tot (Y1 _) (Cy (d:=d) h8 _ 0 (Y1 _) (by omega) rfl)).1;omega
theorem Jc.kp{C:VI}{H G:Hp}{ps:List (Addr×Addr)}{ds:List PD}(h:Jc C H ps ds)(k:∀q∈ps,At H G q.1/\At H G q.2):Jc C G ps ds:=by
 induction h with
 |nil=>exact .nil
 |cons r _ ih=>exact .cons (r.kp (k _ Yq).1 (k _ Yq).2) (ih fun q a=>k q (Ya _ a))
structure mO(H:Hp)(t:Int)(ns:List Str)(ds:List PD)(U U':NE):Prop where
 now:U'.now=t
 rs:Jv U'.rs U.rs
 ab:EQ U'=Gm t ns 0 ds (EQ U)
 cs:∃cs',U'.cs=U.cs++cs'/\(∀c∈cs',H c.b=none)/\∀c∈cs',∀c'∈cs',c.b=c'.b->c.tm=c'.tm
section
variable{P:VB}{w:VF}{K:VG}{mg:Vx}{base:VM}
theorem Jt.ty{C p b:VI}{H:Hp}{d:LD}(X:KX K C)(h:Jt C H p b d):JW K H (.ref p) (.ref C):=by
 obtain⟨dx,fs,e⟩:=h.ins;exact .ins e X.cl X.ic.ha X.ic.hn X.ic.htk X.ic.hm
theorem A1{H:Hp}{ms ns:List Str}{ln:VI}(h:H ln=some (.lst (ns.map V.str)))(h1:1 <=ns.length)(h2:ns.length <=100)(h3:∀n∈ns,JC n/\n∈ms):MZ H ms (.ref ln)=true/\C4 H (.ref ln):=by
 refine⟨?_,fun a xs f d=>?_⟩
 .rw[Lj h,List.length_map,Yw (show ns.length≠0 by omega),X8,YK];intro y c;obtain⟨n,b,rfl⟩:=Yv.mp c;unfold Td;rw[(h3 n b).1.is];show(true && decide (n∈ms))=true;rw[Yw (h3 n b).2];rfl
 .cases f;rw[h]at d;cases d;refine⟨by rw[List.length_map];exact h2,fun y c=>?_⟩;obtain⟨n,b,rfl⟩:=Yv.mp c;have:=(h3 n b).1.2.1;exact⟨⟨_,rfl⟩,fun z e=>by cases e;omega⟩
def dJ(C CRo CP TW:VI)(H:Hp)(Q:VK)(E:XK)(p db dc lc:VI)(U:NE)(t:Int)(d:LD)(wd:Nat)(nm:V):Prop:=∃ln ns,nm= .ref ln/\H ln=some (.lst (ns.map V.str))/\1 <=ns.length/\ns.length <=100/\(∀n∈ns,∃e∈U.rs,e.nm=n)/\(∀d'∈Wa wd d.whole 0,∀e∈U.rs,e.nm∈ns->TR e.r.ws [d'])/\(Te U.rs ns (Wa wd d.whole 0)->∀G,VP H G->E (.ref TW) none G)/\
 (¬ Te U.rs ns (Wa wd d.whole 0) -> (∀ c ∈ U.cs, c.b ≠ lc) /\ (∀ x ∈ U.rs, x.lw ≠ lc /\ x.ll ≠ lc) /\ ln ≠ lc /\ U.rs.length <= 100 /\ U.cs.length + d.ns.length <= 5000 /\
 ∀ U' G, (∀ c o, H c = some o -> c ≠ lc -> c ≠ dc -> c ≠ p -> G c = some o) -> W6 C CRo CP G p db dc lc U' -> mO H t ns (Wa wd d.whole 0) U U' -> Q (.int (Wa wd d.whole 0).length) G)
inductive Ep(K:VG)(C CRo CP CL NT NL NR NW TW:VI)(vs:List V)(H:Hp)(Q:VK)(E:XK):Prop|mk (p db dc lc:VI) (U:NE) (x y wd nm:V) (n1:String) (_:vs=[.ref p,x,y,wd,nm]) (_:W6 C CRo CP H p db dc lc U) (_:WY H x=some n1) (_:((NC x U.now=false/\E (.ref NT) none H)\/∃t,x= .int t/\U.now <=t/\(((∃tt,JW K H y tt/\W.kitOne K tt (.ref CL)=some false)/\E (.ref NL) none H)\/∃q b d n4,y= .ref q/\Jt CL H q b d/\WY H nm=some n4/\C4 H nm/\((MZ H (U.rs.map (·.nm)) nm=false/\∀G,VP H G->E (.ref NR) none G)\/(MZ H (U.rs.map (·.nm)) nm=true/\∃n3,WY H wd=some n3/\((N1 wd 8 5000=false/\∀G,VP H G->E (.ref NW) none G)\/∃w:Nat,wd= .int w/\8 <=w/\w <=5000/\(d.k=true->w < d.ns.length->∀G,VP H G->E (.ref TW) none G)/\((d.k=true->d.ns.length <=w)->dJ C CRo CP TW H Q E p db dc lc U t d w nm)))))))
abbrev Fh:Stmt:=Nl (WW 55) 3
theorem BV:WQ ["self","time","letter","width","names","loads","name","parts"] ["self","time","letter","width","names"] (VO Fh):=by walk_at"e"
theorem yL{f C CRo CP CL NT NL NR NW TW:VI}{fd:VD}(F:WX K "send" "Post.send" Fh f fd)(L:Mv K C)(LR:Rf K CRo)(LX:KX K CL)(B:Bt mg)(gC_Letter:mg "Letter"=some (.ref CL))(X_NoLetter:XC K mg "NoLetter" NL)(X_NoRoad:XC K mg "NoRoad" NR)(ncr:C≠CRo)(ncp:C≠CP)(DI:Gv P w K mg base "cut" 10 ["letter","width"] [] (Kp CL CP NW TW))
  (Wy:MW P w K mg base C "check_time" 3 ["self","time"] [] (AG C CRo CP NT)) (Jm:N0 P w K mg base C "are_built" 2 ["self","names"] [] (Ku C CRo CP)) (Jy:MW P w K mg base C "loads_of" 12 ["self","pieces","names"] [] (Ks C CRo CP TW)) (J3:N0 P w K mg base C "put_on_road" 1 ["self","name","parts"] [] (F9 C CRo CP)):VW P w K mg base (N4 P w) 13 f fd ["self","time","letter","width","names"] (Ep K C CRo CP CL NT NL NR NW TW):=by
 refine F.okX BV (fun vs H Q E h=>?_) (fun cdv A outer s H vs Q E hr h=>?_)
 .obtain⟨p,db,dc,lc,U,x,y,wv,nm,n,rfl,_⟩:=h;rfl
 .obtain⟨p,db,dc,lc,U,x,y,wv,nm,n1,rfl,hU,ty1,hh⟩:=h;refine⟨_,(W1 (JR (Ti (VQ 0) Wy hr.m (NK Ma (fun _ _ h=>h)) (Wb 1 VT))) (W1 (Jj (Nq (N6 (N3 (Ot (K:=K) rfl) B.isinstance (Wb 2 (VR (hs:=Wq) (M3 (v:=.ref CL) rfl gC_Letter rfl) VT))))) (Wc (Gq Ma rfl rfl X_NoLetter Wm)) Jw) (W1 (Jj (Nq (N6 (Mt (VQ 0) Jm hr.m (Wb 4 VT)))) (Wc (Gq Ma rfl rfl X_NoRoad Wm)) Jw) (W1 (NY 5 BV (Ti (VQ 0) Jy hr.m (NK Ma (fun _ _ h=>h)) (MG (GG DI hr.m rfl (NK Ma (fun _ _ h=>h)) (Wb 2 (Wb 3 VT))) (Wb 4 VT)))) (W1 (NJ (K:=K) rfl (VQ 0) (VQ 1) rfl) (W1 (Gi Xt rfl (TK (K:=K) rfl (VQ 5)) (DZ (K:=K) (n:=2) rfl rfl (TJ (MC 6 BV) (TJ (MC 7 BV) Ge))) (Wc (JR (Mt (VQ 0) J3 hr.m (Wb 6 (Wb 7 VT)))))) (Wc (WL (N3 (Gu (DA (K:=K) rfl)) B.len (Wb 5 VT)))))))))),?_⟩;refine We fun N g=>?_
  walk_at"rd";refine⟨hU.mt rfl,p,db,dc,lc,U,x,n1,rfl,hU,ty1,fun z=>?_,fun z=>g _ _ ?_⟩
  .rcases hh with⟨_,q⟩|⟨t,rfl,h,_⟩
   .exact q
   .exact absurd h (U9 z)
  clear g N;rcases hh with⟨h,_⟩|⟨t,rfl,ht,hh⟩
  .rw[z]at h;cases h
  clear z ty1;refine We fun N g=>?_
  walk_at"rd";rcases hh with⟨⟨tt,h1,h2⟩,q⟩|⟨q,b,d,n4,rfl,hL,ty4,hnb,hh⟩
  .refine⟨_,_,_,_,rfl,h1,rfl,h2,_,rfl,?_⟩;rw[Y9 (by rfl)];exact q
  refine⟨_,_,_,_,rfl,hL.ty LX,rfl,LX.k,_,rfl,?_⟩;rw[Y2 (by simp)];refine g _ _ ?_;clear g N;refine We fun N g=>?_
  walk_at"rd";refine⟨hU.mt rfl,p,db,dc,lc,U,nm,n4,rfl,hU,ty4,hnb,fun G0 s0=>?_⟩;refine⟨_,rfl,?_⟩;rcases hh with⟨h,q⟩|⟨h,n3,ty3,hh⟩
  .rw[h,Y9 (by rfl)];exact q G0 s0
  rw[h,Y2 (by simp)];refine g _ _ ?_;clear g N h;refine We fun N g=>?_
  walk_at"rd";have hU0:=hU.mono s0;refine⟨hU0.mt rfl,q,b,d,wv,n3,rfl,hL.mono s0,TN s0 ty3,?_⟩;rcases hh with⟨h,qx⟩|⟨wd,rfl,w8,w5,qx,hh⟩
  .exact .inl ⟨h,fun G s=>qx G (s0.trans s)⟩
  refine .inr ⟨wd,rfl,w8,w5,fun z1 z2 G s=>qx z1 z2 G (s0.trans s),fun hk l1 ps G1 hl1 s1 hG1 hps=>?_⟩;obtain⟨ln,ns,rfl,hln,m1,m2,hns,hfit,qw,qq⟩:=hh hk;clear hh qx;have s01:=s0.trans s1;have hU1:=hU.mono s01;have e1:ps.length=(Wa wd d.whole 0).length:=hps.len;have lens:=QC wd d.whole 0;have hl2:=hL.ok.l2;refine⟨p,db,dc,lc,l1,ln,U,ps,Wa wd d.whole 0,ns,rfl,hU1,hG1,hps.pieL,s01 _ _ hln,m1,m2,hns,hfit,?_,fun z G s=>qw z G (s01.trans s),fun hnw l2 xs G2 hl2' s2 ae hxl hxs hLd=>g _ _ ?_⟩
  .rw[e1];have:d.whole.ns.length=d.ns.length:=rfl;omega
  clear g N;obtain⟨ncs,nrs,nln,n1,n2,qq⟩:=qq hnw;have s02:=s01.trans s2;have aa:=hU.mono s02;obtain⟨dx,fs,ac,hl3,hf⟩:=aa.ex;refine We fun N g=>?_
  walk_at"rd";refine⟨C,dx,fs,ac,L.cl,L.now,by omega,fun G3 b3 hG3=>g _ _ ?_⟩;clear g N;have hU3:=aa.setNow ac b3 hG3 ncr ncp;refine We fun N g=>?_
  walk_at"rd";have l2l:l2≠lc:=Ne.symm (WJ hU1.hl hl2');refine⟨⟨_,VZ.of (b3 _ _ ae (VS ae ac nofun))⟩,?_⟩;obtain⟨ab,edsv⟩:∃ab,ab=Wa wd d.whole 0:=⟨_,rfl⟩;obtain⟨Pv,ePv⟩:∃Pv:Nat->L2.St->Hp->Prop,Pv=fun i σ' G=>∃ (Ui:NE) (v6 v7:Option V) (l:List Th),σ'=[some (.ref p),some (.int t),some (.ref q),some (.int wd),some (.ref ln),some (.ref l2),v6,v7]/\(∀c o,G2 c=some o->c≠lc->c≠dc->c≠p->G c=some o)/\W6 C CRo CP G p db dc lc Ui/\Ui.now=t/\Jv Ui.rs U.rs/\EQ Ui=Gm t ns 0 (ab.take i) (EQ U)/\Ui.cs=U.cs++l/\(∀c∈l,∃j,j < i/\∃x,xs[j]?=some x/\(c.q,c.b)∈x.ps)/\(∀c∈l,∀c'∈l,c.b=c'.b->c.tm=c'.tm)/\l.length <=tot (ab.take i):=⟨_,rfl⟩
  refine Rs (xs:=xs.map fun x=>V.ref x.t) Pv (by rw[ePv];exact⟨{U with now:=t},none,none,[],rfl,fun c o h _ _ n=>b3 c o h n,hU3,rfl,rfl,rfl,by rw[List.append_nil],nofun,nofun,Yh _⟩) ?_ ?_ ?_ <;> rw[ePv]
  .intro i σ' G _ Zq;obtain⟨Ui,v6,v7,l,rfl,kG,_⟩:=Zq;exact VZ.of (kG _ _ ae l2l (VS ae aa.hc nofun) (VS ae ac nofun))
  .intro i x σ' G hx Zq;obtain⟨Ui,v6,v7,l,rfl,kG,hUi,hnow,hrs,hab,hcs,u,htm,hlen⟩:=Zq;rw[<-ePv];rw[Yk]at hx;obtain⟨x,hxi,rfl⟩:=YA.mp hx;have hx':=Yd hxi;have hX:=hxs x hx';have ex:=kG _ _ (hX.tu) (VS hX.tu aa.hl nofun) (VS hX.tu aa.hc nofun) (VS hX.tu ac nofun);walk_at"rd";obtain⟨hxe,hxn,d',hd',hxd⟩:=hLd.at' i x hxi;obtain⟨hf1,hf2⟩:=hLd.fr x hx';obtain⟨y,hy,y1,y2,y3,y4,y5⟩:=hrs.mem hxe;have lpc:x.lp≠lc:=Ne.symm (WJ hU1.hl hf1);have hlp:=kG _ _ hX.ls lpc (VS hX.ls aa.hc nofun) (VS hX.ls ac nofun);have hpi:Jc CP G x.ps x.ds:=hX.pi.kp fun a ha=>by
    obtain⟨dd,hdd,hP⟩:=hX.pi.mem ha;obtain⟨dxa,fsa,hia⟩:=hP.ins;exact⟨fun o h=>kG _ _ h (VS hia aa.hl nofun) (VS hia aa.hc nofun) (VS hia ac (by intro z;injection z with z;exact ncp z.symm)),fun o h=>kG _ _ h (Ne.symm (WJ hU1.hl (hf2 a ha))) (VS hP.bd aa.hc nofun) (VS hP.bd ac nofun)⟩
   have hd1:1 <=d'.ns.length:=by
    obtain⟨k,hk⟩:=Vq (Yd hd');have:k < ps.length:=by rw[e1];exact(Y5.mp hk).1
    obtain⟨dd,h1,h2⟩:=hps.pieL.get (Y7 this);rw[hk]at h1;cases h1;exact h2.ok.l1
   have hfew:x.ds.length <=d'.ns.length:=by rw[hxd];exact Sg hd1 (hU.rd _ hxe).ok.ok
   have htk:=yC (ds:=ab) (i:=i) (by rw[edsv];exact hd');have htl:=tZ ab (i+ 1);have htt:tot ab=d.ns.length:=by rw[edsv];exact x5 (d:=d.whole) w8 hL.ok.l1
   refine⟨_,JN.of ex,rfl,_,_,rfl,_,_,rfl,rfl,hUi.mt rfl,?_⟩;refine⟨p,db,dc,lc,x.lp,Ui,y,x.ps,x.ds,by rw[y1],hUi,hy,hlp,hpi,lpc,fun a ha=>Ne.symm (WJ hU1.hl (hf2 a ha)),fun c hc=>?_,fun z hz=>?_,by rw[hrs.len];exact n1,?_,?_,fun cs2 G4 k4 h4 hU4=>?_⟩
   .rw[hcs]at hc;rcases YG.mp hc with hc|hc
    .exact ncs c hc
    .obtain⟨j,_,x2,hx2,hb2⟩:=u c hc;exact Ne.symm (WJ hU1.hl ((hLd.fr x2 (Yd hx2)).2 _ hb2))
   .obtain⟨z',hz',_,_,z3,z4,_⟩:=Jv.mem hrs.symm hz;rw[<-z3,<-z4];exact nrs z' hz'
   .rw[hcs,Yx];omega
   .rw[hX.pi.len];have:=hL.ok.l2;omega
   .rw[ePv];rw[hnow,hxd,<-y5]at h4;have h2q:∀c∈cs2,(c.q,c.b)∈x.ps/\c.tm=t+ y.r.dl:=fun c hc=>by
     split at h4
     .rw[h4]at hc;cases hc
     .exact⟨by rw[<-h4.q];exact YU (f:=fun c:Th=>(c.q,c.b)) hc,h4.t c hc⟩
    have h2l:cs2.length <=d'.ns.length:=by
     split at h4
     .rw[h4];exact Yh _
     .have:=YH List.length h4.q;rw[List.length_map,hX.pi.len]at this;omega
    have hidx:i < ab.length:=by rw[edsv];exact(Y5.mp hd').1
    refine⟨_,_,_,l++cs2,rfl,fun c o h a1 a2 a3=>k4 c o (kG c o h a1 a2 a3) a1 a2,hU4,hnow,hrs.bump,?_,by rw[hcs,UR],fun c hc=>?_,?_,?_⟩
    .show(⟨Dj (bump y.nm Ui.rs),TZ (Ui.cs++cs2)⟩:AP)=_;rw[tT hUi.nd hy h4,Yz,show ab[i]?=some d' by rw[edsv];exact hd',YI,Ov,<-hab,YD,show 0+ min i ab.length=i by omega,y1]
     congr 1
     rw[YR,hxn];rfl
    .rcases YG.mp hc with hc|hc
     .obtain⟨j,h1,h2⟩:=u c hc;exact⟨j,by omega,h2⟩
     .exact⟨i,by omega,x,hxi,(h2q c hc).1⟩
    .have cross:∀c∈l,∀c'∈cs2,c.b≠c'.b:=fun c hc c' ad=>by
      obtain⟨j,h1,x2,hx2,hb2⟩:=u c hc;obtain⟨j1,e3⟩:=Y5.mp hx2;obtain⟨i1,e4⟩:=Y5.mp hxi;have:=UX.mp hLd.ap j i j1 i1 h1;rw[e3,e4]at this;exact this _ hb2 _ (h2q c' ad).1
     intro c hc c' ad e;rcases YG.mp hc with hc|hc <;> rcases YG.mp ad with ad|ad
     .exact htm c hc c' ad e
     .exact absurd e (cross c hc c' ad)
     .exact absurd e.symm (cross c' ad c hc)
     .rw[(h2q c hc).2,(h2q c' ad).2]
    .rw[Yx];omega
  .intro σ' G Zq;obtain⟨Ui,v6,v7,l,rfl,kG,hUi,hnow,hrs,hab,hcs,u,htm,hlen⟩:=Zq;refine g _ _ ?_;clear g N;walk_at"rd";refine⟨_,.inl (VZ.of (kG _ _ ae l2l (VS ae aa.hc nofun) (VS ae ac nofun))),?_⟩;rw[List.length_map]at hab u ⊢;rw[hxl,e1];refine qq Ui G (fun c o h a1 a2 a3=>kG c o (s02 _ _ h) a1 a2 a3) hUi ⟨hnow,hrs,?_,l,hcs,fun c hc=>?_,htm⟩
   .rw[hab,hxl,e1,<-edsv,YO]
   .obtain⟨j,_,x2,hx2,hb2⟩:=u c hc;exact s01.free ((hLd.fr x2 (Yd hx2)).2 _ hb2)
end
structure DQ(cs ms:List Th):Prop where
 pm:ms.Perm cs
 or:ms=(Mz cs.length (NG DM fun i=>(cs.map (·.tm)).getD i (0:Int))).filterMap fun i=>cs[i]?
theorem Q4{α:Type}(cs:List α):∀k,(List.range k).filterMap (fun i=>cs[i]?)=cs.take k
 |0=>rfl
 |k+ 1=>by
  rw[List.range_succ,List.filterMap_append,Q4 cs k,Yz]
  congr 1
theorem QY{cs:List Th}{r:List Nat}(pm:r.Perm (List.range cs.length))(sr:r=Mz cs.length (NG DM fun i=>(cs.map (·.tm)).getD i (0:Int))):∃ms,DQ cs ms/\(r.map fun i=>(JQ cs).getD i .non)=JQ ms:=by
 have a:∀i∈r,i < cs.length:=fun i hi=>UE.mp (pm.mem_iff.mp hi)
 refine⟨r.filterMap fun i=>cs[i]?,⟨?_,by rw[<-sr]⟩,?_⟩
 .have h:=pm.filterMap (fun i=>cs[i]?);rw[Q4,YO]at h;exact h
 .clear pm sr
  induction r with
  |nil=>rfl
  |cons i r ih=>
   have hi:=a i Yq;rw[List.map_cons,ih fun j b=>a j (Ya _ b),XZ,Y7 hi];show _::_=V.ref _::_
   congr 1
   unfold JQ;rw[YR,Yk,Y7 hi];rfl
theorem ZM{t:Int}{ns:VJ}(h:2 <=ns.length):Mz ns.length (NG DM fun i=>(ns.map (t+ ·)).getD i (0:Int))=Mz ns.length (NG DM fun i=>ns.getD i (0:Int)):=by
 have k:∀i,i < ns.length->(ns.map (t+ ·)).getD i (0:Int)=t+ ns.getD i 0:=fun i h=>by
  rw[YR,YR,Yk,Y7 h];rfl
 unfold Mz;rw[Y2 (by omega),Y2 (by omega)];refine YH Array.toList (Nv.cong (fun i j hi a=>?_) (Bk (N:=ns.length) (by omega) (Q:=fun _=>True) fun _ _ _=>trivial));show decide ((ns.map (t+ ·)).getD i (0:Int) < (ns.map (t+ ·)).getD j (0:Int))=decide (ns.getD i (0:Int) < ns.getD j (0:Int));rw[k i hi,k j a];exact decide_eq_decide.mpr (by omega)
section
variable{P:VB}{w:VF}{K:VG}{mg:Vx}{base:VM}
abbrev GK:Str:=(("Post.fetch":Str)++(".<locals>.":Str))++("<lambda>":Str)
theorem Jx{H:Hp}{T a:VI}{q:Str}{o:HO}(t:Ji H T q)(e:H a=some o)(h:∀ps,o≠ .tbl ps):a≠T:=fun z=>by
 subst z;obtain⟨ps,h',_⟩:=t.ex;rw[e]at h';cases h';exact h _ rfl
def Md(t:Int)(cs:List Th):List Th:=cs.filter fun c=>decide (c.tm <=t)
def DV(t:Int)(cs:List Th):List Th:=cs.filter fun c=>decide (c.tm > t)
theorem W6.setComing{C CR CP p db dc lc l2 dx:VI}{H G:Hp}{U:NE}{fs:List (Str×V)}{cs':List Th}(h:W6 C CR CP H p db dc lc U)(hp:H p=some (.ins C dx fs))(b:WP p H G)(e:G p=some (.ins C dx (Jl "coming" (.ref l2) fs)))(nc:C≠CR)(np:C≠CP)(hl2:H l2=some (.lst (JQ cs')))(sub:∀c∈cs',c∈U.cs):W6 C CR CP G p db dc l2 {U with cs:=cs'}:=by
 obtain⟨ab,fs',d,s,i⟩:=h.ex;rw[hp]at d;cases d;have g:fs.lookup ("coming":Str)=some (.ref lc):=by rw[i];rfl
 refine⟨⟨dx,_,e,by rw[AJ g];exact s,fun f=>?_⟩,b _ _ h.hb (VS h.hb hp nofun),b _ _ h.hc (VS h.hc hp nofun),b _ _ hl2 (VS hl2 hp nofun),h.ne,fun x n=>?_,fun c hc=>?_,h.nd⟩
 .by_cases hfn:f="coming"
  .subst hfn;rw[ME];rfl
  .rw[J2 hfn,i f];have u:(f==("coming":Str))=false:=by simpa using hfn
   simp only[Bv,List.lookup,u]
 .have j:=h.rd x n;obtain⟨y,v,q,_⟩:=j.ex;exact Od b j (VS q hp (by intro z;injection z with z;exact nc z.symm)) (fun l z=>by rw[hp]at z;cases z)
 .have a:=h.th c (sub c hc);obtain⟨aa,w,r⟩:=a.pi.ins;exact a.kp (fun o z=>b _ _ z (VS a.tu hp nofun)) (fun o z=>b _ _ z (VS r hp (by intro z;injection z with z;exact np z.symm))) (fun o z=>b _ _ z (VS a.pi.bd hp nofun))
theorem W6.butT{C CR CP p db dc lc:VI}{H G:Hp}{U:NE}(h:W6 C CR CP H p db dc lc U)(k:∀c o,H c=some o->(∀ps,o≠ .tbl ps)->G c=some o):W6 C CR CP G p db dc lc U:=by
 obtain⟨dx,fs,e,r⟩:=h.ex;refine⟨⟨dx,fs,k _ _ e nofun,r⟩,k _ _ h.hb nofun,k _ _ h.hc nofun,k _ _ h.hl nofun,h.ne,fun x i=>?_,fun c hc=>?_,h.nd⟩
 .have b:=h.rd x i;obtain⟨f,fs',d,g⟩:=b.ex;exact⟨⟨f,fs',k _ _ d nofun,g⟩,k _ _ b.hw nofun,k _ _ b.hl nofun,b.ok⟩
 .have a:=h.th c hc;obtain⟨f,fs',d⟩:=a.pi.ins;exact a.kp (fun o z=>by rw[a.tu]at z;cases z;exact k _ _ a.tu nofun) (fun o z=>by rw[d]at z;cases z;exact k _ _ d nofun) (fun o z=>by rw[a.pi.bd]at z;cases z;exact k _ _ a.pi.bd nofun)
inductive EH(C CRo CP T NT:VI)(vs:List V)(H:Hp)(Q:VK)(E:XK):Prop|mk (p db dc lc:VI) (U:NE) (x:V) (n1:String) (_:vs=[.ref p,x]) (_:W6 C CRo CP H p db dc lc U) (_:WY H x=some n1) (_:((NC x U.now=false/\E (.ref NT) none H)\/∃t,x= .int t/\U.now <=t/\U.cs.length < 64/\Ji H T GK/\∀l lc' ms G,H l=none->H lc'=none->l≠lc'->(∀c o,H c=some o->c≠p->c≠T->G c=some o)->Ji G T GK->DQ (Md t U.cs) ms->G l=some (.lst (JQ ms))->W6 C CRo CP G p db dc lc' {U with now:=t,cs:=DV t U.cs}->Q (.ref l) G))
theorem t9{x qual:Str}{st:Stmt}{f:VI}{fd:VD}{cdv:VH}{N ps:List Str}{k:Nat}{sp:Sp}(F:Nw K x qual st f fd cdv)(S:WQ N ps (VO st))(len:∀vs H Q E,sp vs H Q E->vs.length=ps.length)
  (hbody : ∀ (A : Around) (outer : List Env) (s : Shared) (H : Hp) (vs : List V) (Q : VK) (E : XK), Room k (A.deeper (envOfC qual (VO st) s.heap.objs.size f cdv)) -> sp vs H Q E ->
   ∃ t, To (Nr (N4 P w) P w K mg base N qual (VO st) f cdv A outer s H E) (VX st) t /\ t { nx := fun _ H' => Q .non H', rt := Q } (L2.start N vs) H) : VW P w K mg base (N4 P w) (k + 1) f fd ps sp := by
 obtain⟨i,h,kV,g,pm,j,ct,e,rfl,c,b⟩:=F.ex;exact Dt c b S len fun A outer s H vs Q E d a=>hbody A outer s H vs Q E d a
abbrev EG:Stmt:=Nl (WW 55) 4
theorem Ly:WQ ["self","time","arrived"] ["self","time"] (VO EG):=by walk_at"e"
theorem dM{f C CRo CP c0 T NT:VI}{fd:VD}(F:Nw K "fetch" "Post.fetch" EG f fd (.ref c0))(L:Mv K C)(B2:Az mg)(LC:JG mg base c0 T)(ncr:C≠CRo)(ncp:C≠CP)(Wy:MW P w K mg base C "check_time" 3 ["self","time"] [] (AG C CRo CP NT)):VW P w K mg base (N4 P w) 9 f fd ["self","time"] (EH C CRo CP T NT):=by
 refine t9 F Ly (fun vs H Q E h=>?_) (fun A outer s H vs Q E hr h=>?_)
 .obtain⟨p,db,dc,lc,U,x,n1,rfl,_⟩:=h;rfl
 .obtain⟨p,db,dc,lc,U,x,n1,rfl,hU,ty1,hh⟩:=h;refine⟨_,(W1 (JR (Ti (VQ 0) Wy hr.m (NK Ma (fun _ _ h=>h)) (Wb 1 VT))) (W1 (NJ (K:=K) rfl (VQ 0) (VQ 1) rfl) (W1 (AA (i:=2) (N':=["one","time"]) (caps:=[none,some 1]) (Me (sc:=VO EG) (N:=["self","time","arrived"]) rfl rfl (by decide +kernel)) rfl (Ly).nd rfl (Or.inl rfl) (TK (K:=K) rfl (WG K (VQ 0))) (fun _ _ _ _ _=>(Tg (i:=0) (TH (N:=["one","time"]) rfl (by decide +kernel)) rfl (Or.inl rfl))) (fun _ _ _ _ _=>(As (N8 (Jp Dx) (Dh K (VQ 0) W3) (VQ 1)))) (fun _ _ _ _ _=>(VQ 0)) rfl) (W1 (NJ (K:=K) rfl (VQ 0) (DL (N':=["one","time"]) (caps:=[none,some 1]) (Me (sc:=VO EG) (N:=["self","time","arrived"]) rfl rfl (by decide +kernel)) rfl (TK (K:=K) rfl (WG K (VQ 0))) (fun _ _ _ _ _=>(Tg (i:=0) (TH (N:=["one","time"]) rfl (by decide +kernel)) rfl (Or.inl rfl))) (fun _ _ _ _ _=>(As (N8 (Jp Ba) (Dh K (VQ 0) W3) (VQ 1)))) (fun _ _ _ _ _=>(VQ 0))) rfl) (Wc (WL (y0 (k:=1) (q:=GK) (y:="one") (N':=[]) (caps:=[]) (K:=K) rfl rfl B2.sorted (by rfl) (VQ 2) LC rfl rfl (yF (sc:=VO EG) (N:=["self","time","arrived"]) rfl rfl (by decide +kernel)) rfl (fun _ _ _ _ _=>rfl) (fun f c' cl A outer s H E hr=>(Dh K (VQ 0) W3)) (fun _=>rfl) hr.m))))))),?_⟩;obtain⟨dx,fs,hp,hl,hf⟩:=hU.ex;refine We fun N d=>?_
  walk_at"rd";refine⟨hU.mt rfl,p,db,dc,lc,U,x,n1,rfl,hU,ty1,fun z=>?_,fun z=>d _ _ ?_⟩
  .rcases hh with⟨_,q⟩|⟨t,rfl,h,_⟩
   .exact q
   .exact absurd h (U9 z)
  clear d N;rcases hh with⟨h,_⟩|⟨t,rfl,ht,hn,tb,q⟩
  .rw[z]at h;cases h
  clear z ty1;refine We fun N d=>?_
  walk_at"rd";refine⟨C,dx,fs,hp,L.cl,L.now,by omega,fun G1 b1 e1=>d _ _ ?_⟩;clear d N;have ab:=hU.setNow hp b1 e1 ncr ncp;have tb1:Ji G1 T GK:=tb.of fun a o h k=>b1 a o h fun z=>by rw[z,hp]at h;cases h;rcases k with⟨_,k⟩|⟨_,k⟩ <;> cases k
  refine We fun N d=>?_
  walk_at"rd";refine⟨_,Bd L ab,lc,rfl,⟨_,VZ.of ab.hl⟩,?_⟩;obtain⟨Pv,ad⟩:∃Pv:Nat->List V->L2.St->Hp->Prop,Pv=fun i ys σ' G=>G=G1/\ys=JQ (Md t (U.cs.take i))/\∃v,σ'=[v,some (.int t)]:=⟨_,rfl⟩
  refine Db (xs:=JQ U.cs) Pv (by rw[ad];exact⟨rfl,rfl,none,rfl⟩) ?_ (Wi (by rw[show(JQ U.cs).length=U.cs.length from List.length_map ..];omega)) ?_ ?_ <;> rw[ad]
  .rintro i ys σ' G ⟨rfl,rfl,_⟩ _;refine⟨VZ.of ab.hl,?_⟩;have h1:=Xp (fun c:Th=>decide (c.tm <=t)) (U.cs.take i);rw[YD]at h1;rw[show(JQ (Md t (U.cs.take i))).length=(Md t (U.cs.take i)).length from List.length_map ..];unfold Md;omega
  .intro i y ys σ' G hy Zq;obtain⟨rfl,rfl,v,rfl⟩:=Zq;rw[<-ad];unfold JQ at hy;rw[Yk]at hy;obtain⟨c,g,rfl⟩:=YA.mp hy;walk_at"rd";refine⟨_,JN.of (ab.th c (Yd g)).tu,_,rfl,_,rfl,?_⟩;have e0:Md t (U.cs.take (i+ 1))=Md t (U.cs.take i)++if c.tm <=t then [c] else []:=by
    unfold Md;rw[Yz,g,YI,List.filter_append]
    congr 1
    by_cases z:c.tm <=t
    .rw[Y9 z];simp[z]
    .rw[Y2 z];simp[z]
   by_cases z:c.tm <=t
   .rw[Y9 (by rw[Yw z]),ad];refine⟨rfl,?_,_,rfl⟩;rw[e0,Y9 z];unfold JQ;rw[Yp];rfl
   .rw[Y2 (by rw[Yt z];simp),ad];refine⟨rfl,?_,_,rfl⟩;rw[e0,Y2 z,List.append_nil]
  rintro ys σ' G ⟨rfl,rfl,_⟩ l1 G2 hl1 s2 hG2;rw[show(JQ U.cs).length=U.cs.length from List.length_map ..,YO]at hG2;refine d _ _ ?_;clear d N;have aa:=ab.mono s2;refine We fun N d=>?_
  walk_at"rd";refine⟨_,Bd L aa,lc,rfl,⟨_,VZ.of aa.hl⟩,?_⟩;obtain⟨Pw,ac⟩:∃Pv:Nat->List V->L2.St->Hp->Prop,Pv=fun i ys σ' G=>G=G2/\ys=JQ (DV t (U.cs.take i))/\∃v,σ'=[v,some (.int t)]:=⟨_,rfl⟩
  refine Db (xs:=JQ U.cs) Pw (by rw[ac];exact⟨rfl,rfl,none,rfl⟩) ?_ (Wi (by rw[show(JQ U.cs).length=U.cs.length from List.length_map ..];omega)) ?_ ?_ <;> rw[ac]
  .rintro i ys σ' G ⟨rfl,rfl,_⟩ _;refine⟨VZ.of aa.hl,?_⟩;have h1:=Xp (fun c:Th=>decide (c.tm > t)) (U.cs.take i);rw[YD]at h1;rw[show(JQ (DV t (U.cs.take i))).length=(DV t (U.cs.take i)).length from List.length_map ..];unfold DV;omega
  .intro i y ys σ' G hy Zq;obtain⟨rfl,rfl,v,rfl⟩:=Zq;rw[<-ac];unfold JQ at hy;rw[Yk]at hy;obtain⟨c,g,rfl⟩:=YA.mp hy;walk_at"rd";refine⟨_,JN.of (aa.th c (Yd g)).tu,_,rfl,_,rfl,?_⟩;have e0:DV t (U.cs.take (i+ 1))=DV t (U.cs.take i)++if c.tm > t then [c] else []:=by
    unfold DV;rw[Yz,g,YI,List.filter_append]
    congr 1
    by_cases z:c.tm > t
    .rw[Y9 z];simp[z]
    .rw[Y2 z];simp[z]
   by_cases z:c.tm > t
   .rw[Y9 (by rw[Yw z]),ac];refine⟨rfl,?_,_,rfl⟩;rw[e0,Y9 z];unfold JQ;rw[Yp];rfl
   .rw[Y2 (by rw[Yt z];simp),ac];refine⟨rfl,?_,_,rfl⟩;rw[e0,Y2 z,List.append_nil]
  rintro ys σ' G ⟨rfl,rfl,_⟩ l2 G3 hl2 s3 hG3;rw[show(JQ U.cs).length=U.cs.length from List.length_map ..,YO]at hG3;have e3:=s3 _ _ (s2 _ _ e1);refine⟨C,dx,_,e3,L.cl,L.coming,Ye (Wo hl) (by decide),fun G4 b4 e4=>d _ _ ?_⟩;clear d N;walk_at"rd";have hU3:=aa.mono s3;have hU4:=hU3.setComing e3 b4 e4 ncr ncp hG3 fun c g=>(Xm.mp g).1
  have hl1p:l1≠p:=VS hG2 (s2 _ _ e1) nofun;have h14:G4 l1=some (.lst (JQ (Md t U.cs))):=b4 _ _ (s3 _ _ hG2) hl1p;have u:Ji G4 T GK:=(tb1.same (s2.trans s3)).of fun a o h k=>b4 a o h fun z=>by rw[z,e3]at h;cases h;rcases k with⟨_,k⟩|⟨_,k⟩ <;> cases k
  refine⟨u,fun f G5 hf b5 tb5=>⟨l1,JQ (Md t U.cs),(Md t U.cs).map (·.tm),rfl,VZ.of (b5 _ _ h14 (Jx u h14 nofun)),?_,?_,?_,?_⟩⟩
  .exact(List.length_map ..).trans (List.length_map ..).symm
  .unfold JQ Md;rw[List.length_map];have:=Xp (fun c:Th=>decide (c.tm <=t)) U.cs;omega
  .intro j x v hx hv G kG;unfold JQ at hx;have hv:((Md t U.cs).map fun c=>c.tm)[j]?=some v:=hv;rw[Yk]at hx hv;obtain⟨c,g,rfl⟩:=YA.mp hx;rw[g]at hv;cases hv;have hT:=(hU3.th c (Xm.mp (Yd g)).1).tu;have h4:=b4 _ _ hT (VS hT e3 nofun);have h5:=b5 _ _ h4 (Jx u h4 nofun);walk_at"rd";exact⟨_,JN.of (kG _ _ h5 nofun),_,rfl,VP.refl _,rfl⟩
  .intro r l G6 pm sr b s6 e6;rw[show(JQ (Md t U.cs)).length=(Md t U.cs).length from List.length_map ..]at pm sr;obtain⟨ms,hms,ems⟩:=QY pm sr;rw[ems]at e6;have kp:∀c o,H c=some o->c≠p->c≠T->G5 c=some o:=fun c o h n1 n2=>b5 c o (b4 c o (s3 c o (s2 c o (b1 c o h n1))) n1) n2
   obtain⟨op,hop⟩:∃o,G5 p=some o:=⟨_,b5 _ _ e4 (Jx u e4 nofun)⟩;obtain⟨oT,hoT,_⟩:=tb5.ex;have hlH:H l=none:=by
    cases e:H l with
    |none=>rfl
    |some o=>
     by_cases z:l=p
     .rw[z,hop]at b;cases b
     .by_cases z2:l=T
      .rw[z2,hoT]at b;cases b
      .rw[kp l o e z z2]at b;cases b
   have hl2H:H l2=none:=by
    cases e:H l2 with
    |none=>rfl
    |some o=>
     by_cases z:l2=p
     .rw[z,s2 _ _ e1]at hl2;cases hl2
     .rw[s2 _ _ (b1 _ _ e z)]at hl2;cases hl2
   have h24:=b4 _ _ hG3 (VS hG3 e3 nofun);have h25:=b5 _ _ h24 (Jx u h24 nofun);have hU5:W6 C CRo CP G5 p db dc l2 {U with now:=t,cs:=DV t U.cs}:=by
    refine hU4.butT (fun c o h n=>b5 c o h fun z=>?_);obtain⟨ps,hps,_⟩:=u.ex;rw[z,hps]at h;cases h;exact n _ rfl
   exact q l l2 ms G6 hlH hl2H (Ne.symm (WJ h25 b)) (fun c o h n1 n2=>s6 _ _ (kp c o h n1 n2)) (tb5.same s6) hms e6 (hU5.mono s6)
inductive QE(C CRo CP:VI)(vs:List V)(H:Hp)(Q:VK)(E:XK):Prop|mk (p dx:VI) (_:vs=[.ref p]) (_:H p=some (.ins C dx [])) (_:∀db dc lc G,H db=none->H dc=none->H lc=none->WP p H G->W6 C CRo CP G p db dc lc ⟨0,[],[]⟩->Q .non G)
abbrev Jo:Stmt:=Nl (WW 55) 0
theorem jR:WQ ["self"] ["self"] (VO Jo):=by walk_at"e"
theorem mD{f C CRo CP:VI}{fd:VD}(F:Ea K f fd "Post.__init__" Jo)(L:Mv K C):VW P w K mg base WK 1 f fd ["self"] (QE C CRo CP):=by
 obtain⟨oc,od,dV,kV,doc,pm,an,cdv,ct,osl,rfl,lk,aa⟩:=F;refine Dt lk aa jR (fun vs H Q E h=>?_) (fun A outer s H vs Q E hr h=>?_)
 .obtain⟨p,dx,rfl,_⟩:=h;rfl
 .obtain⟨p,dx,rfl,hp,q⟩:=h
  suffices hh:∃t,To (Nr WK P w K mg base _ "Post.__init__" (VO Jo) f cdv A outer s H E).nox (VX Jo) t/\t {nx:=fun _ H'=>Q .non H',rt:=Q} (L2.start _ _) H by
   obtain⟨t,h1,h2⟩:=hh;exact⟨t,h1.nox,h2⟩
  refine⟨_,(W1 (NJ (K:=K) rfl (VQ 0) W3 rfl) (W1 (NJ (K:=K) rfl (VQ 0) Fs rfl) (W1 (NJ (K:=K) rfl (VQ 0) Fs rfl) (Wc (NJ (K:=K) rfl (VQ 0) (WO VT) rfl))))),?_⟩;refine We fun N a=>?_
  walk_at"rd";refine⟨C,dx,[],hp,L.cl,L.now,by decide,fun G1 z h1=>a _ _ ?_⟩;clear a N;refine We fun N a=>?_
  walk_at"rd";intro db G2 g s2 h2;refine⟨C,dx,_,s2 _ _ h1,L.cl,L.built,Ye (Wo (n:=0) (Y1 _)) (by decide),fun G3 y h3=>a _ _ ?_⟩;clear a N;refine We fun N a=>?_
  walk_at"rd";intro dc G4 b j h4;refine⟨C,dx,_,j _ _ h3,L.cl,L.counts,Ye (Wo (Wo (n:=0) (Y1 _))) (by decide),fun G5 x h5=>a _ _ ?_⟩;clear a N;walk_at"rd";refine⟨Yh _,fun lc G6 d i h6=>⟨C,dx,_,i _ _ h5,L.cl,L.coming,Ye (Wo (Wo (Wo (n:=0) (Y1 _)))) (by decide),fun G7 v h7=>?_⟩⟩;have u:db≠p:=Ne.symm (WJ h1 g);have r:dc≠p:=Ne.symm (WJ h3 b);have l:lc≠p:=Ne.symm (WJ h5 d);have d3:=y _ _ h2 u;have d5:=x _ _ (j _ _ d3) u;have c5:=x _ _ h4 r;have bb:WP p H G7:=fun c o h n=>v c o (i c o (x c o (j c o (y c o (s2 c o (z c o h n)) n)) n)) n
  have fr1:H db=none:=by
   cases e:H db with
   |none=>rfl
   |some o=>rw[z _ _ e u]at g;cases g
  have fr2:H dc=none:=by
   cases e:H dc with
   |none=>rfl
   |some o=>rw[y _ _ (s2 _ _ (z _ _ e r)) r]at b;cases b
  have fr3:H lc=none:=by
   cases e:H lc with
   |none=>rfl
   |some o=>rw[x _ _ (j _ _ (y _ _ (s2 _ _ (z _ _ e l)) l)) l]at d;cases d
  refine q db dc lc G7 fr1 fr2 fr3 bb ⟨⟨dx,_,h7,Y1 4,fun f=>?_⟩,v _ _ (i _ _ d5) u,v _ _ (i _ _ c5) r,v _ _ h6 l,WJ d3 b,nofun,nofun,.nil⟩;show List.lookup f [("now",V.int 0),("built",V.ref db),("counts",V.ref dc),("coming",V.ref lc)]=_;rfl
inductive Oq(C CRo CP:VI)(vs:List V)(H:Hp)(Q:VK)(E:XK):Prop|mk (_:vs=[]) (_:∀p db dc lc G,H p=none->H db=none->H dc=none->H lc=none->VP H G->W6 C CRo CP G p db dc lc ⟨0,[],[]⟩->Q (.ref p) G)
theorem xD{C CRo CP:VI}(F:MP P w K mg base "Post" C 1 ["self"] [] (QE C CRo CP)):Tt P w K mg base "Post" 1 (Oq C CRo CP):=
 F.ct fun vs H Q h y dx G a _ _ s f=>by
  obtain⟨rfl,q⟩:=h;refine⟨y,dx,rfl,f,fun db dc lc i h1 h2 g b d=>⟨rfl,?_⟩⟩;exact q y db dc lc i a (s.free h1) (s.free h2) (s.free g) (fun c o e=>b c o (s c o e) (WJ e a)) d
inductive Pr(vs:List V)(H:Hp)(Q:VK)(E:XK):Prop|mk (l t:VI) (lo hi:Int) (_:vs=[.ref l,.ref t]) (_:H l=some (.lst [])) (_:H t=some (.tup [.int lo,.int hi])) (_:∀l' t' G,H l'=none->H t'=none->VP H G->G l'=some (.lst [.ref t'])->G t'=some (.tup [.int lo,.int hi])->Q (.ref l') G)
abbrev Fm:Stmt:=WW 58
theorem Rb:WQ ["cover","span","low","high","ahead","behind","one"] ["cover","span"] (VO Fm):=by walk_at"e"
theorem yW{f:VI}{fd:VD}(F:WX K "with_span" "with_span" Fm f fd)(B:Bt mg):VW P w K mg base WK 1 f fd ["cover","span"] Pr:=by
 refine F.ok Rb (fun vs H Q E h=>?_) (fun cdv A outer s H vs Q E hr h=>?_)
 .obtain⟨l,t,lo,hi,rfl,_⟩:=h;rfl
 .obtain⟨l,t,lo,hi,rfl,z,o,q⟩:=h;refine⟨_,(W1 (NY 2 Rb (Dh K (VQ 1) W3)) (W1 (NY 3 Rb (Dh K (VQ 1) W3)) (W1 (NY 4 Rb (WO VT)) (W1 (NY 5 Rb (WO VT)) (W1 (Gi U6 rfl (TK (K:=K) rfl (VQ 0)) (MC 6 Rb) (Wc (Jj (N8 (Jp EF) (Dh K (VQ 6) W3) (VQ 2)) (Wc (JR (Nu (K:=K) rfl Yc Yf Yg (Tn Tq) (VQ 4) (Wb 6 VT)))) (Wc (Jj (N8 (Jp Ba) (Dh K (VQ 6) W3) (VQ 3)) (Wc (JR (Nu (K:=K) rfl Yc Yf Yg (Tn Tq) (VQ 5) (Wb 6 VT)))) (W1 (NY 2 Rb (N3 (So rfl) B.min (Wb 2 (RT (Dh K (VQ 6) W3) VT)))) (Wc (NY 3 Rb (N3 (Ap rfl) B.max (Wb 3 (RT (Dh K (VQ 6) W3) VT))))))))))) (Wc (WL (J0 (PL BF) (J0 (PL BF) (VQ 4) (WO (VR (hs:=TL) (Tf (Wb 2 (Wb 3 VT))) VT))) (VQ 5))))))))),?_⟩;refine We fun N a=>?_
  walk_at"rd";refine⟨_,JN.of o,_,rfl,a _ _ ?_⟩;clear a N;refine We fun N a=>?_
  walk_at"rd";refine⟨_,JN.of o,_,rfl,a _ _ ?_⟩;clear a N;refine We fun N a=>?_
  walk_at"rd";refine⟨Yh _,fun pa G1 hpa s1 g1=>a _ _ ?_⟩;clear a N;refine We fun N a=>?_
  walk_at"rd";refine⟨Yh _,fun u G2 hpb s2 g2=>a _ _ ?_⟩;clear a N;refine We fun N a=>?_
  walk_at"rd";have b:=s1.trans s2;have e:=b _ _ z;refine⟨⟨_,VZ.of e⟩,?_⟩;refine Rs (xs:=[]) (fun _ σ' G=>G=G2/\σ'=[some (.ref l),some (.ref t),some (.int lo),some (.int hi),some (.ref pa),some (.ref u),none]) ⟨rfl,rfl⟩ ?_ ?_ ?_
  .rintro i σ' G _ ⟨rfl,_⟩;exact VZ.of e
  .rintro i x σ' G y _;cases y
  .rintro σ' G ⟨rfl,rfl⟩;refine a _ _ ?_;clear a N;walk_at"rd";refine⟨Wi (by decide),fun r G3 n s3 g3=>⟨Wi (by decide),fun p1 G4 hp1 c g4=>⟨_,c _ _ (s3 _ _ (s2 _ _ g1)),_,g4,Wi (by simp),fun p2 G5 hp2 g g5=>⟨_,g5,_,g _ _ (c _ _ (s3 _ _ g2)),Wi (by simp),fun v G6 p j g6=>?_⟩⟩⟩⟩;have d:=s3.trans (c.trans g);exact q v r G6 (b.free (d.free p)) (b.free n) (b.trans (d.trans j)) g6 (j _ _ (g _ _ (c _ _ g3)))
inductive O4(vs:List V)(H:Hp)(Q:VK)(E:XK):Prop|mk (l t:VI) (n:Int) (_:vs=[.ref l,.int n]) (_:0 < n) (_:H l=some (.lst [.ref t])) (_:H t=some (.tup [.int 0,.int n])) (_:∀l' G,H l'=none->VP H G->G l'=some (.lst [])->Q (.ref l') G)
abbrev Fy:Stmt:=WW 59
theorem Ev:WQ ["cover","end","told","reached","low","high"] ["cover","end"] (VO Fy):=by walk_at"e"
theorem nG{f:VI}{fd:VD}(F:WX K "lacking" "lacking" Fy f fd):VW P w K mg base WK 1 f fd ["cover","end"] O4:=by
 refine F.ok Ev (fun vs H Q E h=>?_) (fun r A outer s H vs Q E u h=>?_)
 .obtain⟨l,t,n,rfl,_⟩:=h;rfl
 .obtain⟨l,t,n,rfl,y,j,g,q⟩:=h;refine⟨_,(W1 (NY 2 Ev (WO VT)) (W1 (NY 3 Ev W3) (W1 (Gi U6 rfl (TK (K:=K) rfl (VQ 0)) (DZ (K:=K) (n:=2) rfl rfl (TJ (MC 4 Ev) (TJ (MC 5 Ev) Ge))) (W1 (Jj (PW.pt (FC (N8 BZ (VQ 1) Tk) (IB (N8 (Jp A9) (VQ 4) (VQ 1))))) (Wc xV) Jw) (W1 (Ai (Jj (N8 (Jp Ba) (VQ 4) (VQ 3)) (Wc (JR (Nu (K:=K) rfl Yc Yf Yg (Tn Tq) (VQ 2) (VR (hs:=TL) (Tf (Wb 3 (Wb 4 VT))) VT)))) Jw)) (Wc (NY 3 Ev (VQ 5)))))) (W1 (Ai (Jj (N8 Br (VQ 1) Tk) (Wc (JR (Nu (K:=K) rfl Yc Yf Yg (Tn Tq) (VQ 2) (VR (hs:=TL) (Tf (Wb 3 (MK Tk VT))) VT)))) (Wc (Jj (N8 (Jp EF) (VQ 3) (VQ 1)) (Wc (JR (Nu (K:=K) rfl Yc Yf Yg (Tn Tq) (VQ 2) (VR (hs:=TL) (Tf (Wb 3 (Wb 1 VT))) VT)))) Jw)))) (Wc (WL (VQ 2))))))),?_⟩;refine We fun N a=>?_
  walk_at"rd";refine⟨Yh _,fun pa p e s1 o=>a _ _ ?_⟩;clear a N;refine We fun N a=>?_
  walk_at"rd";refine a _ _ ?_;clear a N;refine We fun N a=>?_
  walk_at"rd";have b:=s1 _ _ j;have d:=s1 _ _ g;refine⟨⟨_,VZ.of b⟩,?_⟩;refine Rs (xs:=[.ref t]) (fun i σ' G=>G=p/\((i=0/\σ'=[some (.ref l),some (.int n),some (.ref pa),some (.int 0),none,none])\/(i=1/\∃v w,σ'=[some (.ref l),some (.int n),some (.ref pa),some (.int n),v,w]))) ⟨rfl,.inl ⟨rfl,rfl⟩⟩ ?_ ?_ ?_
  .rintro i σ' G _ ⟨rfl,_⟩;exact VZ.of b
  .rintro i x σ' G c ⟨rfl,hs⟩;obtain rfl:i=0:=by
    have:=(Y5.mp c).1;simp at this;exact this
   cases c;rcases hs with⟨_,rfl⟩|⟨h,_⟩
   .walk_at"rd";refine⟨_,JN.of d,rfl,_,_,rfl,_,_,rfl,rfl,?_⟩;rw[Y9 (by simp)];refine⟨0,rfl,?_⟩;rw[Y2 (by simp;omega)];refine⟨fun σ' H'=>H'=G/\σ'=[some (.ref l),some (.int n),some (.ref pa),some (.int 0),some (.int 0),some (.int n)],⟨0,rfl,?_⟩,?_⟩
    .rw[Y2 (by simp)];exact⟨rfl,rfl⟩
    .rintro _ _ ⟨rfl,rfl⟩;exact⟨_,rfl,rfl,.inr ⟨_,_,rfl⟩⟩
   .cases h
  .rintro σ' G ⟨rfl,hs⟩;rcases hs with⟨h,_⟩|⟨_,v,w,rfl⟩
   .cases h
   refine a _ _ ?_;clear a N;walk_at"rd";refine⟨fun σ' H'=>H'=G/\σ'=[some (.ref l),some (.int n),some (.ref pa),some (.int n),v,w],?_,?_⟩
   .rw[Y2 (by simp),Y2 (by simp)];exact⟨rfl,rfl⟩
   .rintro _ _ ⟨rfl,rfl⟩;exact⟨_,rfl,q pa _ e s1 o⟩
end
structure Jg(C:VI)(H:Hp)(p:VI)(n:Nat)(L:List (Str×V)):Prop where
 ex:∃dx fs,H p=some (.ins C dx fs)/\fs.length <=n/\∀f,fs.lookup f=L.lookup f
section
variable{K:VG}{C p a dx:VI}{H G:Hp}{n:Nat}{L L':List (Str×V)}{fs:List (Str×V)}{f:Str}{v x:V}
theorem Jg.kp(h:Jg C H p n L)(k:At H G p):Jg C G p n L:=by
 obtain⟨dx,fs,e,r⟩:=h.ex;exact⟨dx,fs,k _ e,r⟩
theorem Jg.mono(s:VP H G)(h:Jg C H p n L):Jg C G p n L:=h.kp (s p)
theorem Jg.but(b:WP a H G)(na:p≠a)(h:Jg C H p n L):Jg C G p n L:=h.kp fun o e=>b p o e na
theorem Jg.ne(h:Jg C H p n L){o:HO}(ha:H a=some o)(ho:∀C dx fs,o≠ .ins C dx fs):p≠a:=fun z=>by
 obtain⟨dx,fs,e,_⟩:=h.ex;rw[z,ha]at e;cases e;exact ho _ _ _ rfl
theorem Jg.fld(h:Jg C H p n L)(cl:T7 K C)(na:W0 K C f)(e:L.lookup f=some v):JB K H (.ref p) f v:=by
 obtain⟨dx,fs,a,_,b⟩:=h.ex;exact⟨p,C,dx,fs,rfl,a,cl,na,by rw[b f,e]⟩
theorem Jg.mt(h:Jg C H p n L)(e:L.lookup f=none):Ex C f H (.ref p):=by
 obtain⟨dx,fs,a,_,b⟩:=h.ex;exact⟨p,dx,fs,rfl,a,by rw[b f,e]⟩
theorem Jg.set(h:Jg C H p n L)(hp:H p=some (.ins C dx fs))(e:G p=some (.ins C dx (Jl f v fs)))(hx:L.lookup f=some x)(h1:L'.lookup f=some v)(h2:∀g,(g==f)=false->L'.lookup g=L.lookup g):Jg C G p n L':=by
 obtain⟨d,fs',a,c,b⟩:=h.ex;rw[hp]at a;cases a;refine⟨dx,_,e,by rw[AJ (by rw[b];exact hx)];exact c,fun g=>?_⟩
 by_cases z:g=f
 .subst z;rw[ME,h1]
 .rw[J2 z,b g,h2 g (by simpa using z)]
end
def DU(a l:VI)(en:V):List (Str×V):=[("rule",.str "first"),("standing",.ref a),("cover",.ref l),("ending",en),("reach",.int 0)]
def D0(k:Nat):List Int->List (Wu×V)
 |[]=>[]
 |b::bs=>(.inl (k:Int),.int b)::D0 (k+ 1) bs
theorem LJ:∀ (ns:VJ) (k:Nat),(D0 k ns).length=ns.length
 |[],_=>rfl
 |_::bs,k=>YH (· + 1) (LJ bs (k+ 1))
theorem O6:∀ (ns:VJ) (k i:Nat) {b:Int},ns[i]?=some b->Jh (D0 k ns) (.inl ((k+ i:Nat):Int))=some (.int b)
 |x::bs,k,0,b,h=>by
  cases h;unfold D0;rw[Nat.add_zero];exact ET rfl
 |x::bs,k,i+ 1,b,h=>by
  unfold D0;rw[BC (by intro z;have:=Vv z;omega),show k+ (i+ 1)=k+ 1+ i by omega];exact O6 bs (k+ 1) i h
theorem Pi:∀ (ns:VJ) (k j:Nat),k+ ns.length <=j->Jh (D0 k ns) (.inl (j:Int))=none
 |[],k,j,h=>rfl
 |x::bs,k,j,h=>by
  unfold D0;rw[List.length_cons]at h;rw[BC (by intro z;have:=Vv z;omega)];exact Pi bs (k+ 1) j (by omega)
theorem Pp:∀ (ns:VJ) (k:Nat) (b:Int),D0 k (ns++[b])=D0 k ns++[(.inl ((k+ ns.length:Nat):Int),.int b)]
 |[],k,b=>rfl
 |x::bs,k,b=>by
  show _::D0 (k+ 1) (bs++[b])=_::(D0 (k+ 1) bs++_);rw[Pp bs (k+ 1) b,List.length_cons,show k+ 1+ bs.length=k+ (bs.length+ 1) by omega]
theorem Zm{kvs:List (Wu×V)}{k:Wu}{v:V}(h:Jh kvs k=none):Tp kvs k v=kvs++[(k,v)]:=by
 unfold Tp;unfold Jh at h;rw[Option.map_eq_none_iff,List.find?_eq_none]at h;rw[Y2];rw[V3];rintro⟨x,hx,z⟩;exact h x hx z
section
variable{P:VB}{w:VF}{K:VG}{mg:Vx}{base:VM}
structure RW(K:VG)(C:VI):Prop where
 cl:T7 K C
 rule:W0 K C "rule"
 standing:W0 K C "standing"
 cover:W0 K C "cover"
 ending:W0 K C "ending"
 reach:W0 K C "reach"
def IC(C:VI)(f:Str)(H:Hp)(p b:VI)(xs:List V):Prop:=∃dx fs,H p=some (.ins C dx fs)/\fs.lookup f=some (.ref b)/\H b=some (.lst xs)
structure Lk(K:VG)(C:VI)(f:Str):Prop where
 cl:T7 K C
 na:W0 K C f
inductive OT(C:VI)(vs:List V)(H:Hp)(Q:VK)(E:XK):Prop|mk (p dx b xs:_) (_:vs=[.ref p,.ref b]) (_:H p=some (.ins C dx [])) (_:H b=some (.lst xs)) (_:∀b' G,H b'=none->WP p H G->IC C "body" G p b' xs->Q .non G)
abbrev Jb:Stmt:=Nl (WW 62) 0
theorem gD:WQ ["self","body"] ["self","body"] (VO Jb):=by walk_at"e"
theorem QP{f C:VI}{fd:VD}(F:Ea K f fd "Whole.__init__" Jb)(L:Lk K C "body")(B:Bt mg):VW P w K mg base WK 1 f fd ["self","body"] (OT C):=by
 obtain⟨oc,od,dV,kV,ab,pm,an,r,ct,aa,rfl,v,j⟩:=F;refine Dt v j gD (fun vs H Q E h=>?_) (fun A outer s H vs Q E hr h=>?_)
 .obtain⟨p,dx,b,xs,rfl,_⟩:=h;rfl
 .obtain⟨p,dx,b,xs,rfl,i,y,q⟩:=h
  suffices hh:∃t,To (Nr WK P w K mg base _ "Whole.__init__" (VO Jb) f r A outer s H E).nox (VX Jb) t/\t {nx:=fun _ H'=>Q .non H',rt:=Q} (L2.start _ _) H by
   obtain⟨t,h1,h2⟩:=hh;exact⟨t,h1.nox,h2⟩
  refine⟨_,(Wc (NJ (K:=K) rfl (VQ 0) (EL (HC (IK (K:=K) rfl)) rfl B.blist (by rfl) (Wb 1 VT)) rfl)),?_⟩;walk_at"rd";refine⟨_,.inl (VZ.of y),fun d G1 a s1 n=>?_⟩;refine⟨C,dx,[],s1 p _ i,L.cl,L.na,by decide,fun z u l=>?_⟩;have g:d≠p:=Ne.symm (WJ i a);exact q d z a (fun c o e x=>u c o (s1 c o e) x) ⟨dx,_,l,ME,u d _ n g⟩
inductive PU(C:VI)(f:Str)(vs:List V)(H:Hp)(Q:VK)(E:XK):Prop|mk (b xs:_) (_:vs=[.ref b]) (_:H b=some (.lst xs)) (_:∀p b' G,H p=none->H b'=none->VP H G->IC C f G p b' xs->Q (.ref p) G)
theorem SS{C:VI}(F:MP P w K mg base "Whole" C 1 ["self","body"] [] (OT C)):Tt P w K mg base "Whole" 1 (PU C "body"):=by
 refine F.ct fun vs H Q h y dx G a n p s f=>?_
 obtain⟨b,xs,rfl,c,q⟩:=h;exact⟨y,dx,b,xs,rfl,f,s b _ c,fun l H' i j g=>⟨rfl,q y l H' a (s.free i) (fun d o e=>j d o (s d o e) (WJ e a)) g⟩⟩
def R9:Sp:=fun _ _ _ _=>False
abbrev Ip:Stmt:=Nl (WW 63) 0
theorem ZH:WQ ["self","at"] ["self","at"] (VO Ip):=by walk_at"e"
theorem Sl{f:VI}{fd:VD}(F:Ea K f fd "Unlike.__init__" Ip):VW P w K mg base WK 1 f fd ["self","at"] R9:=by
 obtain⟨i,g,l,kV,d,pm,n,e,ct,c,rfl,b,a⟩:=F;exact Dt b a ZH (fun vs H Q E h=>h.elim) (fun A outer s H vs Q E j h=>h.elim)
theorem SD{C:VI}(F:MP P w K mg base "Unlike" C 1 ["self","at"] [] R9):Tt P w K mg base "Unlike" 1 R9:=F.ct fun vs H Q h=>h.elim
abbrev F8:Stmt:=Nl (WW 64) 2
theorem x6:WQ ["self","piece","number","byte"] ["self","piece"] (VO F8):=by walk_at"e"
theorem vN{f:VI}{fd:VD}(F:WX K "unlike_number" "Reading.unlike_number" F8 f fd):VW P w K mg base WK 1 f fd ["self","piece"] R9:=
 F.ok x6 (fun vs H Q E h=>h.elim) (fun a A outer s H vs Q E b h=>h.elim)
inductive LO(C:VI)(vs:List V)(H:Hp)(Q:VK)(E:XK):Prop|mk (p dx:_) (_:vs=[.ref p,.str "first"]) (_:H p=some (.ins C dx [])) (_:∀a l G,H a=none->H l=none->WP p H G->Jg C G p 5 (DU a l .non)->G a=some (.dK [])->G l=some (.lst [])->Q .non G)
abbrev WS:Stmt:=Nl (WW 64) 0
theorem xH:WQ ["self","rule"] ["self","rule"] (VO WS):=by walk_at"e"
theorem vY{f C:VI}{fd:VD}(F:Ea K f fd "Reading.__init__" WS)(L:RW K C):VW P w K mg base WK 1 f fd ["self","rule"] (LO C):=by
 obtain⟨oc,od,dV,kV,doc,pm,an,cdv,ct,osl,rfl,lk,aa⟩:=F;refine Dt lk aa xH (fun vs H Q E h=>?_) (fun A outer s H vs Q E hr h=>?_)
 .obtain⟨p,dx,rfl,_⟩:=h;rfl
 .obtain⟨p,dx,rfl,hp,q⟩:=h
  suffices hh:∃t,To (Nr WK P w K mg base _ "Reading.__init__" (VO WS) f cdv A outer s H E).nox (VX WS) t/\t {nx:=fun _ H'=>Q .non H',rt:=Q} (L2.start _ _) H by
   obtain⟨t,h1,h2⟩:=hh;exact⟨t,h1.nox,h2⟩
  refine⟨_,(W1 (NJ (K:=K) rfl (VQ 0) (VQ 1) rfl) (W1 (NJ (K:=K) rfl (VQ 0) Fs rfl) (W1 (NJ (K:=K) rfl (VQ 0) (WO VT) rfl) (W1 (NJ (K:=K) rfl (VQ 0) Tk rfl) (Wc (NJ (K:=K) rfl (VQ 0) W3 rfl)))))),?_⟩;walk_at"rd";have i:([]:List (Str×V)).length <=0:=Y1 0;refine⟨C,dx,[],hp,L.cl,L.rule,by decide,fun G1 b1 n=>?_⟩;intro a Ga ha y hGa;refine⟨C,dx,_,y p _ n,L.cl,L.standing,Ye (Wo i) (by decide),fun G2 b2 j=>⟨Wi (by simp),fun l Gl z r hGl=>?_⟩⟩;refine⟨C,dx,_,r p _ j,L.cl,L.cover,Ye (Wo (Wo i)) (by decide),fun G3 x hG3=>?_⟩;refine⟨C,dx,_,hG3,L.cl,L.ending,Ye (Wo (Wo (Wo i))) (by decide),fun G4 v hG4=>?_⟩;refine⟨C,dx,_,hG4,L.cl,L.reach,Ye (Wo (Wo (Wo (Wo i)))) (by decide),fun G5 u hG5=>?_⟩;have b:a≠p:=Ne.symm (WJ n ha);have g:l≠p:=Ne.symm (WJ j z);have ab:G2 a=some (.dK []):=b2 a _ hGa b;have k1:WP p H G2:=fun c o e d=>b2 c o (y c o (b1 c o e d)) d
  refine q a l G5 (b1.free ha b) (k1.free z g) (fun c o e d=>u c o (v c o (x c o (r c o (k1 c o e d)) d) d) d) ⟨dx,_,hG5,Wo (Wo (Wo (Wo (Wo i)))),fun f=>rfl⟩ (u a _ (v a _ (x a _ (r a _ ab) b) b) b) (u l _ (v l _ (x l _ hGl g) g) g)
inductive LV(C:VI)(vs:List V)(H:Hp)(Q:VK)(E:XK):Prop|mk (_:vs=[.str "first"]) (_:∀p a l G,H p=none->H a=none->H l=none->VP H G->Jg C G p 5 (DU a l .non)->G a=some (.dK [])->G l=some (.lst [])->Q (.ref p) G)
theorem Z9{C:VI}(F:MP P w K mg base "Reading" C 1 ["self","rule"] [] (LO C)):Tt P w K mg base "Reading" 1 (LV C):=by
 refine F.ct fun vs H Q h y dx G c j n s f=>?_
 obtain⟨rfl,q⟩:=h;exact⟨y,dx,rfl,f,fun a l H' h1 h2 b i g h5=>⟨rfl,q y a l H' c (s.free h1) (s.free h2) (fun d o e=>b d o (s d o e) (WJ e c)) i g h5⟩⟩
inductive Aj(C CP:VI)(vs:List V)(H:Hp)(Q:VK)(E:XK):Prop|mk (p a l q b:VI) (d:PD) (_:vs=[.ref p,.ref q]) (_:Jg C H p 5 (DU a l .non)) (_:WB CP H q b d) (_:d.mo=false) (_:Q (.bl false) H)
abbrev K0:Stmt:=Nl (WW 64) 1
theorem uX:WQ ["self","piece"] ["self","piece"] (VO K0):=by walk_at"e"
theorem jG{f C CP:VI}{fd:VD}(F:WX K "is_strange" "Reading.is_strange" K0 f fd)(L:RW K C)(LP:Mn K CP)(Wz:N0 P w K mg base CP "end" 1 ["self"] [] (Fv CP)):VW P w K mg base WK 2 f fd ["self","piece"] (Aj C CP):=by
 refine F.ok uX (fun vs H Q E h=>?_) (fun j A outer s H vs Q E e h=>?_)
 .obtain⟨p,a,l,q,b,d,rfl,_⟩:=h;rfl
 .obtain⟨p,a,l,q,b,d,rfl,g,c,i,k⟩:=h;refine⟨_,(W1 (Jj (N6 (WG K (VQ 1))) (Wc (WL (M8 (Ts BZ (WG K (VQ 0)) Tk (TV _)) (MT (Ts (Jp A9) (MH (VQ 1) Wz e.m) (WG K (VQ 0)) (TV _)))))) Jw) (W1 (Jj (N8 BZ (WG K (VQ 0)) Tk) (Wc (WL (Ts (Gj DP) (MH (VQ 1) Wz e.m) (WG K (VQ 0)) (TV _)))) Jw) (Wc (WL (Ts (Jp Dx) (MH (VQ 1) Wz e.m) (WG K (VQ 0)) (TV _)))))),?_⟩;walk_at"rd";refine⟨_,Hx LP c,_,rfl,?_⟩;rw[i,Y2 (by simp)];refine⟨_,g.fld L.cl L.ending rfl,?_⟩;rw[Y2 (by simp)];refine⟨Il c,q,b,d,rfl,c,_,g.fld L.cl L.reach rfl,_,rfl,_,rfl,?_⟩;have h1:=c.ok.l1;have h2:=c.ok.a0;rw[Yt (by omega)];exact k
inductive IQ(C CP:VI)(vs:List V)(H:Hp)(Q:VK)(E:XK):Prop|mk (p a l q b:VI) (d:PD) (_:vs=[.ref p,.ref q]) (_:Jg C H p 5 (DU a l .non)) (_:H a=some (.dK [])) (_:H l=some (.lst [])) (_:WB CP H q b d) (_:C≠CP) (_:d.mo=false) (_:d.at'=0) (_:∀l' t' G,H l'=none->(∀c o,H c=some o->c≠p->c≠a->G c=some o)->Jg C G p 5 (DU a l' (.int d.ns.length))->G a=some (.dK (D0 0 d.ns))->G l'=some (.lst [.ref t'])->G t'=some (.tup [.int 0,.int d.ns.length])->Q .non G)
abbrev Fc:Stmt:=Nl (WW 64) 3
theorem F4:WQ ["self","piece","number","byte"] ["self","piece"] (VO Fc):=by walk_at"e"
theorem uG{f C CP:VI}{fd:VD}(F:WX K "take" "Reading.take" Fc f fd)(L:RW K C)(LP:Mn K CP)(B:Bt mg)(B3:Cr mg)(Wz:N0 P w K mg base CP "end" 1 ["self"] [] (Fv CP))(Nj:JA P w K mg base "with_span" 1 ["cover","span"] [] Pr):VW P w K mg base WK 2 f fd ["self","piece"] (IQ C CP):=by
 refine F.ok F4 (fun vs H Q E h=>?_) (fun cdv A outer s H vs Q E hr h=>?_)
 .obtain⟨p,a,l,q,b,d,rfl,_⟩:=h;rfl
 .obtain⟨p,a,l,q,b,d,rfl,hR,ha,hl,u,ncp,hm,h0,k⟩:=h;have hl2:=u.ok.l2;have npa:p≠a:=hR.ne ha nofun;obtain⟨dxp,fsp,hp,hpl,_⟩:=hR.ex;obtain⟨dxq,fsq,hq⟩:=u.ins;have nqa:q≠a:=VS hq ha nofun;have nba:b≠a:=VS u.bd ha nofun;have nqp:q≠p:=VS hq hp (by intro z;injection z with z;exact ncp z.symm);have nbp:b≠p:=VS u.bd hp nofun;have nla:l≠a:=VS hl ha nofun;refine⟨_,(W1 (Gi U6 rfl (yX (K:=K) rfl rfl B3.enumerate (WG K (VQ 1)) (WG K (VQ 1))) (DZ (K:=K) (n:=2) rfl rfl (TJ (MC 2 F4) (TJ (MC 3 F4) Ge))) (Wc (Jj (PW.pt (Mf (N8 (Rt Ry) (WG K (VQ 0)) Wm) (Mr (Cj (tD (Zq (D6 hr))) (VQ 2) (WG K (VQ 0)) (by with_unfolding_all rfl))))) (Wc (SF (D6 hr) (WG K (VQ 0)) (VQ 2) (VQ 3) rfl)) Jw))) (W1 (NJ (K:=K) rfl (VQ 0) (JT Nj hr.m rfl (Nt (WG K (VQ 0)) (VR (hs:=TL) (Tf (Nt (WG K (VQ 1)) (MG (MH (VQ 1) Wz hr.m) VT))) VT))) rfl) (Wc (Jj (N6 (WG K (VQ 1))) (Wc (NJ (K:=K) rfl (VQ 0) (N3 (Ap rfl) B.max (Nt (WG K (VQ 0)) (MG (MH (VQ 1) Wz hr.m) VT))) rfl)) (Wc (NJ (K:=K) rfl (VQ 0) (MH (VQ 1) Wz hr.m) rfl)))))),?_⟩;refine We fun N hN=>?_
  walk_at"rd";refine⟨_,BM LP u,_,Ms LP u,_,rfl,_,rfl,by omega,by omega,⟨_,VZ.of u.bd⟩,?_⟩;obtain⟨Pv,aa⟩:∃Pv:Nat->L2.St->Hp->Prop,Pv=fun i σ' G=>∃ (v2 v3:Option V),σ'=[some (.ref p),some (.ref q),v2,v3]/\WP a H G/\G a=some (.dK (D0 0 (d.ns.take i))):=⟨_,rfl⟩
  refine ZZ (xs:=d.ns.map V.int) Pv (by rw[aa];exact⟨_,_,rfl,WP.refl _ _,ha⟩) ?_ ?_ ?_ <;> rw[aa]
  .intro i σ' G _ Zq;obtain⟨_,_,_,s,_⟩:=Zq;exact VZ.of (s b _ u.bd nba)
  .rintro i x t σ' G0 G hx ⟨v2,v3,rfl,s0,hd0⟩ _ s1 ht;rw[<-aa];have s:WP a H G:=fun c o e hc=>s1 c o (s0 c o e hc)
   have r:=s1 a _ hd0;rw[Yk]at hx;obtain⟨n,hn,rfl⟩:=YA.mp hx;have hlt:i < d.ns.length:=(Y5.mp hn).1;have htk:d.ns.take (i+ 1)=d.ns.take i++[n]:=by
    rw[Yz,hn];rfl
   have hli:(d.ns.take i).length=i:=by rw[YD];omega
   have j:=hR.but s npa;have hno:Jh (D0 0 (d.ns.take i)) (.inl (d.at'+ (i:Int)))=none:=by
    rw[h0,Vu];exact Pi _ 0 i (by omega)
   walk_at"rd";refine⟨_,JN.of ht,rfl,_,_,rfl,_,_,rfl,rfl,?_⟩;refine⟨_,j.fld L.cl L.rule rfl,rfl,?_⟩;rw[Y2 (by decide +kernel)];refine⟨_,j.fld L.cl L.standing rfl,_,rfl,_,rfl,_,r,?_⟩;rw[hno,Y9 (by rfl)];refine⟨_,j.fld L.cl L.standing rfl,_,rfl,_,rfl,_,r,Ym (show _ < 5000 by rw[LJ];omega) (Wi (n:=5000) (by decide)),fun G1 b1 h1=>?_⟩;rw[Zm hno]at h1;rw[aa];refine⟨_,_,rfl,s.trans b1,?_⟩;rw[h1,htk,Pp,h0,hli];simp
  .intro σ' G Zq;obtain⟨v2,v3,rfl,s,r⟩:=Zq;refine hN _ _ ?_;clear hN N;rw[YZ (by simp)]at r;have j:=hR.but s npa;have y:=u.but s nqa nba;have hl1:=s _ _ hl nla;refine We fun N hN=>?_
   walk_at"rd";refine⟨_,j.fld L.cl L.cover rfl,_,Ms LP y,Il y,q,b,d,rfl,y,?_⟩;refine⟨Wi (by simp),fun t G2 ht s2 hG2=>?_⟩;refine⟨l,t,_,_,rfl,s2 _ _ hl1,hG2,fun l' t' G3 hl' ht' s3 g3 g4=>?_⟩;have v:=s2.trans s3;obtain⟨dx1,fs1,hp1,hl1',hf1⟩:=(j.mono v).ex;refine⟨C,dx1,fs1,hp1,L.cl,L.cover,by omega,fun G4 b4 e4=>hN _ _ ?_⟩;clear hN N;have hR4:Jg C G4 p 5 (DU a l' .non):=(j.mono v).set hp1 e4 (x:=.ref l) rfl rfl fun g hg=>by simp only[DU,List.lookup,hg]
   have hP4:=(y.mono v).but b4 nqp nbp;walk_at"rd";refine⟨_,Hx LP hP4,_,rfl,?_⟩;rw[hm,Y2 (by simp)];obtain⟨dx5,fs5,hp5,hl5,hf5⟩:=hR4.ex;refine⟨Il hP4,q,b,d,rfl,hP4,C,dx5,fs5,hp5,L.cl,L.ending,by omega,fun G5 b5 e5=>?_⟩;have na':a≠p:=Ne.symm npa;have hl'G:l'≠p:=Ne.symm (WJ ((j.mono s2).ex.choose_spec.choose_spec.1) hl');have htp:t'≠p:=VS g4 hp1 nofun;have kk:∀c o,c≠p->G3 c=some o->G5 c=some o:=fun c o n h=>b5 _ _ (b4 _ _ h n) n
   rw[h0]at e5 g4;rw[Vu]at e5 g4;refine k l' t' G5 ?_ (fun c o h n1 n2=>kk c o n1 (v _ _ (s c o h n2))) (hR4.set hp5 e5 (x:=.non) rfl rfl fun g hg=>by simp only[DU,List.lookup,hg]) (kk _ _ na' (v _ _ r)) (kk _ _ hl'G g3) (kk _ _ htp g4);have z:=s2.free hl';exact s.free z (Ne.symm (WJ r z))
inductive KB(C:VI)(vs:List V)(H:Hp)(Q:VK)(E:XK):Prop|mk (p a l t:VI) (n:Int) (_:vs=[.ref p]) (_:Jg C H p 5 (DU a l (.int n))) (_:0 < n) (_:H l=some (.lst [.ref t])) (_:H t=some (.tup [.int 0,.int n])) (_:∀l' G,H l'=none->VP H G->G l'=some (.lst [])->Q (.ref l') G)
abbrev Ii:Stmt:=Nl (WW 64) 5
theorem u8:WQ ["self"] ["self"] (VO Ii):=by walk_at"e"
theorem SG{f C:VI}{fd:VD}(F:WX K "missing" "Reading.missing" Ii f fd)(L:RW K C)(T0:JA P w K mg base "lacking" 1 ["cover","end"] [] O4):VW P w K mg base WK 2 f fd ["self"] (KB C):=by
 refine F.ok u8 (fun vs H Q E h=>?_) (fun i A outer s H vs Q E d h=>?_)
 .obtain⟨p,a,l,t,n,rfl,_⟩:=h;rfl
 .obtain⟨p,a,l,t,n,rfl,b,e,g,c,q⟩:=h;refine⟨_,(Wc (WL (JT T0 d.m rfl (Nt (WG K (VQ 0)) (Nt (WG K (VQ 0)) VT))))),?_⟩;walk_at"rd";exact⟨_,b.fld L.cl L.cover rfl,_,b.fld L.cl L.ending rfl,l,t,n,rfl,e,g,c,q⟩
inductive Kk(C:VI)(vs:List V)(H:Hp)(Q:VK)(E:XK):Prop|mk (p a l:VI) (ns:VJ) (_:vs=[.ref p]) (_:Jg C H p 5 (DU a l (.int ns.length))) (_:H a=some (.dK (D0 0 ns))) (_:ns.length <=5000) (_:∀m G,VP H G->H m=none->G m=some (.lst (ns.map V.int))->Q (.ref m) G)
abbrev AS:Stmt:=Nl (WW 64) 6
theorem wU:WQ ["self"] ["self"] (VO AS):=by walk_at"e"
theorem Ss{f C:VI}{fd:VD}(F:WX K "taken_body" "Reading.taken_body" AS f fd)(L:RW K C)(B:Bt mg):VW P w K mg base WK 1 f fd ["self"] (Kk C):=by
 refine F.ok wU (fun vs H Q E h=>?_) (fun x A outer s H vs Q E q h=>?_)
 .obtain⟨p,a,l,c,rfl,_⟩:=h;rfl
 .obtain⟨p,a,l,c,rfl,n,r,y,k⟩:=h;refine⟨_,(Wc (WL (DL (N':=["number","self"]) (caps:=[none,some 0]) (Me (sc:=VO AS) (N:=["self"]) rfl rfl (by decide +kernel)) rfl (QZ rfl B.range (Nt (WG K (VQ 0)) VT)) (fun _ _ _ _ _=>(Tg (i:=0) (TH (N:=["number","self"]) rfl (by decide +kernel)) rfl (Or.inl rfl))) (fun _ _ _ _ _=>D5) (fun _ _ _ _ _=>(Rn q (WG K (VQ 1)) (VQ 0)))))),?_⟩;walk_at"rd";refine⟨_,n.fld L.cl L.ending rfl,_,rfl,by omega,by omega,?_⟩;rw[Uc];obtain⟨d,b⟩:∃d:Nat->List V->L2.St->Hp->Prop,d=fun i ys σ' G=>∃v:Option V,σ'=[v,some (.ref p)]/\ys=(c.take i).map V.int/\G=H:=⟨_,rfl⟩
  refine jZ d (by rw[b];exact⟨none,rfl,rfl,rfl⟩) ?_ (Wi (by omega)) ?_ ?_ <;> rw[b]
  .rintro i ys σ' o ⟨v,rfl,rfl,rfl⟩ _;rw[List.length_map,YD];omega
  .intro i ys σ' o hi Zq;obtain⟨v,rfl,rfl,rfl⟩:=Zq;rw[<-b];walk_at"rd";have g:i < c.length:=by omega
   refine⟨_,n.fld L.cl L.standing rfl,_,rfl,V.int c[i],?_,?_⟩
   .have:=Tv.k (k:=Sum.inl (0+ (i:Int))) r;rw[Vu]at this ⊢;have e:=O6 c 0 i (Y7 g);rw[Nat.zero_add]at e;rw[e]at this;exact this
   .rw[b];exact⟨_,rfl,by rw[Yz,Y7 g,YI,Yp];rfl,rfl⟩
  .rintro ys σ' o ⟨v,rfl,rfl,rfl⟩ m G u s j;rw[YZ (by omega)]at j;exact k m G s u j
inductive KO(C CP CW:VI)(vs:List V)(H:Hp)(Q:VK)(E:XK):Prop|mk (p a l q b:VI) (d:PD) (_:vs=[.ref p,.ref q]) (_:Jg C H p 5 (DU a l .non)) (_:H a=some (.dK [])) (_:H l=some (.lst [])) (_:WB CP H q b d) (_:C≠CP) (_:d.mo=false) (_:d.at'=0) (_:∀w' b' G,H w'=none->H b'=none->(∀c o,H c=some o->c≠p->c≠a->G c=some o)->IC CW "body" G w' b' (d.ns.map V.int)->(∃o,G p=some o)->(∃o,G a=some o)->Q (.ref w') G)
abbrev HZ:Stmt:=Nl (WW 64) 7
theorem PB:WQ ["self","piece","number"] ["self","piece"] (VO HZ):=by walk_at"e"
theorem xW{f C CP CW:VI}{fd:VD}(F:WX K "answer_to" "Reading.answer_to" HZ f fd)(L:RW K C)(LP:Mn K CP)
  (Wk:N0 P w K mg base C "is_strange" 2 ["self","piece"] [] (Aj C CP)) (WD:N0 P w K mg base C "unlike_number" 1 ["self","piece"] [] R9) (JJ:N0 P w K mg base C "take" 2 ["self","piece"] [] (IQ C CP))
  (Jf:N0 P w K mg base C "missing" 2 ["self"] [] (KB C)) (WT:N0 P w K mg base C "taken_body" 1 ["self"] [] (Kk C))
  (GL:Tt P w K mg base "Whole" 1 (PU CW "body")) (Mp:Tt P w K mg base "Unlike" 1 R9):VW P w K mg base WK 3 f fd ["self","piece"] (KO C CP CW):=by
 refine F.ok PB (fun vs H Q E h=>?_) (fun cdv A outer s H vs Q E e h=>?_)
 .obtain⟨p,a,l,q,b,d,rfl,_⟩:=h;rfl
 .obtain⟨p,a,l,q,b,d,rfl,v,ha,hl,hP,ncp,hm,h0,k⟩:=h;refine⟨_,(W1 (Jj (N6 (Mt (VQ 0) Wk e.m (Wb 1 VT))) (Wc (WL (FL (N8 (Rt Ry) (WG K (VQ 0)) Wm) (D9 Mp e.m rfl (Nt (WG K (VQ 1)) VT)) Tk))) Jw) (W1 (Ai (Jj (N8 (Rt Ry) (WG K (VQ 0)) Wm) (W1 (NY 2 PB (Mt (VQ 0) WD e.m (Wb 1 VT))) (Wc (Jj (N8 BZ (VQ 2) Tk) (Wc (WL (D9 Mp e.m rfl (Wb 2 VT)))) Jw))) Jw)) (W1 (JR (Mt (VQ 0) JJ e.m (Wb 1 VT))) (Wc (WL (FL (N8 (OE (QH (K:=K) (Room.units e) rfl)) (MH (VQ 0) Jf e.m) (WO VT)) (D9 GL e.m rfl (MG (MH (VQ 0) WT e.m) VT)) Tk)))))),?_⟩;refine We fun N g=>?_
  walk_at"rd";refine⟨v.mt rfl,p,a,l,q,b,d,rfl,v,hP,hm,_,rfl,?_⟩;rw[Y2 (by simp)];refine g _ _ ?_;clear g N;refine We fun N g=>?_
  walk_at"rd";refine⟨fun σ' G=>G=H/\σ'=[some (.ref p),some (.ref q),none],?_,?_⟩
  .refine⟨_,v.fld L.cl L.rule rfl,rfl,?_⟩;rw[Y2 (by decide +kernel)];exact⟨rfl,rfl⟩
  rintro σ' G ⟨rfl,rfl⟩;refine g _ _ ?_;clear g N;refine We fun N g=>?_
  walk_at"rd";have hl2:=hP.ok.l2;have hl1:=hP.ok.l1;refine⟨v.mt rfl,p,a,l,q,b,d,rfl,v,ha,hl,hP,ncp,hm,h0,fun l' t' G1 hl' k1 u ha1 hl1' ht1=>g _ _ ?_⟩;clear g N;walk_at"rd";refine⟨u.mt rfl,p,a,l',t',d.ns.length,rfl,u,by omega,hl1',ht1,fun m G2 hm0 s2 hm2=>⟨Yh _,fun z G3 hz s3 hz3=>?_⟩⟩;refine⟨_,rfl,_,VZ.of (s3 _ _ hm2),VZ.of hz3,?_⟩;rw[Y9 (by rfl)];have i:=s2.trans s3;have j:=u.mono i;have r:=i _ _ ha1;refine⟨j.mt rfl,p,a,l',d.ns,rfl,j,r,by omega,fun m5 G5 x hm5 h5=>⟨m5,_,rfl,h5,fun w' b' G6 hw hb' s6 hA=>?_⟩⟩;have n:=x.trans s6;have kk:∀c o,G c=some o->c≠p->c≠a->G6 c=some o:=fun c o h n1 y=>n _ _ (i _ _ (k1 c o h n1 y))
  have fr:∀{c},G5 c=none->G c=none:=fun {c} hc=>by
   cases h:G c with
   |none=>rfl
   |some o=>
    obtain⟨dx,fs,hp,_⟩:=j.ex
    by_cases n1:c=p
    .rw[n1,x _ _ hp]at hc;cases hc
    .by_cases y:c=a
     .rw[y,x _ _ r]at hc;cases hc
     .rw[x _ _ (i _ _ (k1 c o h n1 y))]at hc;cases hc
  obtain⟨dx,fs,hp,_⟩:=j.ex;exact k w' b' G6 (fr hw) (fr hb') kk hA ⟨_,n _ _ hp⟩ ⟨_,n _ _ r⟩
end
def Dn(k:Int×Str×Str):List Wu:=[Sum.inl k.1,Sum.inr k.2.1,Sum.inr k.2.2]
def x8(k:Int×Str×Str):List V:=[.int k.1,.str k.2.1,.str k.2.2]
def QI(now:Int)(dr df dw:VI):List (Str×V):=[("rule",.str "first"),("wait",.int 9),("space",.int 99),("out",.str "own"),("again",.str "fresh"),("now",.int now),("readings",.ref dr),("firsts",.ref df),("wholes",.ref dw)]
structure Dq(K:VG)(C:VI):Prop where
 cl:T7 K C
 rule:W0 K C "rule"
 wait:W0 K C "wait"
 space:W0 K C "space"
 out:W0 K C "out"
 again:W0 K C "again"
 now:W0 K C "now"
 readings:W0 K C "readings"
 firsts:W0 K C "firsts"
 wholes:W0 K C "wholes"
structure NI(C:VI)(H:Hp)(m dr df dw:VI)(now:Int)(xs ys:List (List Wu×V))(n:Nat):Prop where
 ins:Jg C H m 9 (QI now dr df dw)
 dR:H dr=some (.dT xs)
 dF:H df=some (.dT ys)
 dW:∃kvs,H dw=some (.dT kvs)/\kvs.length <=n
 n1:dr≠df
 n2:dr≠dw
 n3:df≠dw
theorem NI.mono{C m dr df dw:VI}{H G:Hp}{now:Int}{xs ys:List (List Wu×V)}{n:Nat}(s:VP H G)(h:NI C H m dr df dw now xs ys n):NI C G m dr df dw now xs ys n:=
 ⟨h.ins.mono s,s _ _ h.dR,s _ _ h.dF,h.dW.imp fun _ e=>⟨s _ _ e.1,e.2⟩,h.n1,h.n2,h.n3⟩
section
variable{P:VB}{w:VF}{K:VG}{mg:Vx}{base:VM}
inductive Qq(vs:List V)(H:Hp)(Q:VK)(E:XK):Prop|mk (_:vs=[.str "first"]) (_:Q (.bl true) H)
abbrev IP:Stmt:=WW 22
theorem QU:WQ ["value"] ["value"] (VO IP):=by walk_at"e"
theorem dD{f aRULES:VI}{fd:VD}(F:WX K "is_rule" "is_rule" IP f fd)(B:Bt mg)(g_RULES:mg "RULES"=some (.ref aRULES))(t_RULES:∀H,JN K H aRULES [.str "first",.str "last",.str "refuse"]):VW P w K mg base WK 1 f fd ["value"] Qq:=by
 refine F.ok QU (fun vs H Q E h=>?_) (fun a A outer s H vs Q E b h=>?_)
 .obtain⟨rfl,_⟩:=h;rfl
 .obtain⟨rfl,k⟩:=h;refine⟨_,(Wc (WL (M8 (N3 (DJ "str") B.isinstance (Wb 0 (VR (hs:=Wq) (Dv (v:=.ty "str") rfl B.bstr (by rfl) rfl) VT))) (MT (Ts (FM (K:=K) rfl) (VQ 0) (M3 (v:=.ref aRULES) rfl g_RULES rfl) (by with_unfolding_all rfl)))))),?_⟩;walk_at"rd";rw[Y9 (by decide)];refine⟨aRULES,_,rfl,.inr (t_RULES H),rfl,rfl,?_⟩;rw[Y2 (by simp),show RE (.str "first") [.str "first",.str "last",.str "refuse"]=true by decide +kernel];exact k
inductive Pf(vs:List V)(H:Hp)(Q:VK)(E:XK):Prop|mk (_:vs=[.str "own"]) (_:Q (.bl true) H)
abbrev FO:Stmt:=WW 23
theorem QV:WQ ["value"] ["value"] (VO FO):=by walk_at"e"
theorem vK{f aOUTS:VI}{fd:VD}(F:WX K "is_out" "is_out" FO f fd)(B:Bt mg)(g_OUTS:mg "OUTS"=some (.ref aOUTS))(t_OUTS:∀H,JN K H aOUTS [.str "oldest",.str "widest",.str "own"]):VW P w K mg base WK 1 f fd ["value"] Pf:=by
 refine F.ok QV (fun vs H Q E h=>?_) (fun a A outer s H vs Q E b h=>?_)
 .obtain⟨rfl,_⟩:=h;rfl
 .obtain⟨rfl,k⟩:=h;refine⟨_,(Wc (WL (M8 (N3 (DJ "str") B.isinstance (Wb 0 (VR (hs:=Wq) (Dv (v:=.ty "str") rfl B.bstr (by rfl) rfl) VT))) (MT (Ts (FM (K:=K) rfl) (VQ 0) (M3 (v:=.ref aOUTS) rfl g_OUTS rfl) (by with_unfolding_all rfl)))))),?_⟩;walk_at"rd";rw[Y9 (by decide)];refine⟨aOUTS,_,rfl,.inr (t_OUTS H),rfl,rfl,?_⟩;rw[Y2 (by simp),show RE (.str "own") [.str "oldest",.str "widest",.str "own"]=true by decide +kernel];exact k
inductive Lq(vs:List V)(H:Hp)(Q:VK)(E:XK):Prop|mk (_:vs=[.str "fresh"]) (_:Q (.bl true) H)
abbrev FA:Stmt:=WW 24
theorem xO:WQ ["value"] ["value"] (VO FA):=by walk_at"e"
theorem SV{f aAGAINS:VI}{fd:VD}(F:WX K "is_again" "is_again" FA f fd)(B:Bt mg)(g_AGAINS:mg "AGAINS"=some (.ref aAGAINS))(t_AGAINS:∀H,JN K H aAGAINS [.str "fresh",.str "rest"]):VW P w K mg base WK 1 f fd ["value"] Lq:=by
 refine F.ok xO (fun vs H Q E h=>?_) (fun a A outer s H vs Q E b h=>?_)
 .obtain⟨rfl,_⟩:=h;rfl
 .obtain⟨rfl,k⟩:=h;refine⟨_,(Wc (WL (M8 (N3 (DJ "str") B.isinstance (Wb 0 (VR (hs:=Wq) (Dv (v:=.ty "str") rfl B.bstr (by rfl) rfl) VT))) (MT (Ts (FM (K:=K) rfl) (VQ 0) (M3 (v:=.ref aAGAINS) rfl g_AGAINS rfl) (by with_unfolding_all rfl)))))),?_⟩;walk_at"rd";rw[Y9 (by decide)];refine⟨aAGAINS,_,rfl,.inr (t_AGAINS H),rfl,rfl,?_⟩;rw[Y2 (by simp),show RE (.str "fresh") [.str "fresh",.str "rest"]=true by decide +kernel];exact k
inductive Pc(C:VI)(vs:List V)(H:Hp)(Q:VK)(E:XK):Prop|mk (m dx:VI) (_:vs=[.ref m,.str "first",.int 9,.int 99,.str "own",.str "fresh"]) (_:H m=some (.ins C dx [])) (_:∀dr df dw G,H dr=none->H df=none->H dw=none->WP m H G->NI C G m dr df dw 0 [] [] 0->Q .non G)
abbrev Js:Stmt:=Nl (WW 66) 0
theorem tY:WQ ["self","rule","wait","space","out","again"] ["self","rule","wait","space","out","again"] (VO Js):=by walk_at"e"
theorem uL{f C:VI}{fd:VD}(F:Ea K f fd "Room.__init__" Js)(L:Dq K C)(T9:JA P w K mg base "is_rule" 1 ["value"] [] Qq)(VY:JA P w K mg base "is_whole_from" 2 ["value","low"] [] RS)(Tz:JA P w K mg base "is_out" 1 ["value"] [] Pf)(Nx:JA P w K mg base "is_again" 1 ["value"] [] Lq):VW P w K mg base WK 3 f fd ["self","rule","wait","space","out","again"] (Pc C):=by
 obtain⟨oc,od,dV,kV,doc,pm,an,cdv,ct,osl,rfl,lk,hcd⟩:=F;refine Dt lk hcd tY (fun vs H Q E h=>?_) (fun A outer s H vs Q E d h=>?_)
 .obtain⟨m,dx,rfl,_⟩:=h;rfl
 .obtain⟨m,dx,rfl,hm,q⟩:=h
  suffices hh:∃t,To (Nr WK P w K mg base _ "Room.__init__" (VO Js) f cdv A outer s H E).nox (VX Js) t/\t {nx:=fun _ H'=>Q .non H',rt:=Q} (L2.start _ _) H by
   obtain⟨t,h1,h2⟩:=hh;exact⟨t,h1.nox,h2⟩
  refine⟨_,(W1 (Jj (Nq (N6 (JT T9 d.m rfl (Wb 1 VT)))) Rl Jw) (W1 (Jj (PW.pt (Mf (Nq (N6 (JT VY d.m rfl (Wb 2 (MK W3 VT))))) (Mr (Nq (N6 (JT VY d.m rfl (Wb 3 (MK W3 VT)))))))) Rl Jw) (W1 (Jj (PW.pt (Mf (Nq (N6 (JT Tz d.m rfl (Wb 4 VT)))) (Mr (Nq (N6 (JT Nx d.m rfl (Wb 5 VT))))))) Rl Jw) (W1 (NJ (K:=K) rfl (VQ 0) (VQ 1) rfl) (W1 (NJ (K:=K) rfl (VQ 0) (VQ 2) rfl) (W1 (NJ (K:=K) rfl (VQ 0) (VQ 3) rfl) (W1 (NJ (K:=K) rfl (VQ 0) (VQ 4) rfl) (W1 (NJ (K:=K) rfl (VQ 0) (VQ 5) rfl) (W1 (NJ (K:=K) rfl (VQ 0) W3 rfl) (W1 (NJ (K:=K) rfl (VQ 0) F7 rfl) (W1 (NJ (K:=K) rfl (VQ 0) F7 rfl) (Wc (NJ (K:=K) rfl (VQ 0) F7 rfl))))))))))))),?_⟩;refine We fun N b=>?_
  walk_at"rd";refine⟨rfl,_,rfl,?_⟩;rw[Y2 (by simp)];refine b _ _ ?_;clear b N;refine We fun N b=>?_
  walk_at"rd";refine⟨_,_,_,rfl,rfl,_,rfl,?_⟩;rw[Y2 (by simp[NC])];refine⟨_,_,_,rfl,rfl,_,rfl,?_⟩;rw[Y2 (by simp[NC])];refine b _ _ ?_;clear b N;refine We fun N b=>?_
  walk_at"rd";refine⟨rfl,_,rfl,?_⟩;rw[Y2 (by simp)];refine⟨rfl,_,rfl,?_⟩;rw[Y2 (by simp)];refine b _ _ ?_;clear b N;walk_at"rd";have a:([]:List (Str×V)).length <=0:=Y1 0;refine⟨C,dx,[],hm,L.cl,L.rule,by decide,fun G1 b1 g1=>?_⟩;refine⟨C,dx,_,g1,L.cl,L.wait,Ye (Wo a) (by decide),fun G2 b2 g2=>?_⟩;refine⟨C,dx,_,g2,L.cl,L.space,Ye (Wo (Wo a)) (by decide),fun G3 b3 g3=>?_⟩;refine⟨C,dx,_,g3,L.cl,L.out,Ye (Wo (Wo (Wo a))) (by decide),fun G4 b4 g4=>?_⟩;refine⟨C,dx,_,g4,L.cl,L.again,Ye (Wo (Wo (Wo (Wo a)))) (by decide),fun G5 b5 g5=>?_⟩;refine⟨C,dx,_,g5,L.cl,L.now,Ye (Wo (Wo (Wo (Wo (Wo a))))) (by decide),fun G6 b6 g6=>?_⟩;intro e Ga ha y ga;refine⟨C,dx,_,y _ _ g6,L.cl,L.readings,Ye (Wo (Wo (Wo (Wo (Wo (Wo a)))))) (by decide),fun G7 b7 g7=>?_⟩;intro j Gb u p gb;refine⟨C,dx,_,p _ _ g7,L.cl,L.firsts,Ye (Wo (Wo (Wo (Wo (Wo (Wo (Wo a))))))) (by decide),fun G8 x g8=>?_⟩;intro v Gc i sc gc;refine⟨C,dx,_,sc _ _ g8,L.cl,L.wholes,Ye (Wo (Wo (Wo (Wo (Wo (Wo (Wo (Wo a)))))))) (by decide),fun G9 l g9=>?_⟩;have g:e≠m:=Ne.symm (WJ g6 ha);have r:j≠m:=Ne.symm (WJ g7 u);have z:v≠m:=Ne.symm (WJ g8 i);have a7:=b7 e _ ga g;have a8:=x e _ (p _ _ a7) g;have a9:=l e _ (sc _ _ a8) g;have c8:=x j _ gb r;have c9:=l j _ (sc _ _ c8) r;have k6:WP m H G6:=b1.trans (b2.trans (b3.trans (b4.trans (b5.trans b6))));have k7:WP m H G7:=fun c o h n=>b7 c o (y c o (k6 c o h n)) n
  have k8:WP m H G8:=fun c o h n=>x c o (p c o (k7 c o h n)) n
  have k9:WP m H G9:=fun c o h n=>l c o (sc c o (k8 c o h n)) n
  refine q e j v G9 (k6.free ha g) (k7.free u r) (k8.free i z) k9 ⟨⟨dx,_,g9,?_,fun f=>rfl⟩,a9,c9,⟨_,l v _ gc z,Y1 _⟩,WJ a7 u,WJ a8 i,WJ c8 i⟩;exact Wo (Wo (Wo (Wo (Wo (Wo (Wo (Wo (Wo a))))))))
inductive A0(C:VI)(vs:List V)(H:Hp)(Q:VK)(E:XK):Prop|mk (_:vs=[.str "first",.int 9,.int 99,.str "own",.str "fresh"]) (_:∀m dr df dw G,H m=none->H dr=none->H df=none->H dw=none->VP H G->NI C G m dr df dw 0 [] [] 0->Q (.ref m) G)
theorem Fu{C:VI}(F:MP P w K mg base "Room" C 3 ["self","rule","wait","space","out","again"] [] (Pc C)):Tt P w K mg base "Room" 3 (A0 C):=by
 refine F.ct fun vs H Q h y dx G a n p s f=>?_
 obtain⟨rfl,q⟩:=h;exact⟨y,dx,rfl,f,fun j l i H' h1 h2 g b c=>⟨rfl,q y j l i H' a (s.free h1) (s.free h2) (s.free g) (fun d o e=>b d o (s d o e) (WJ e a)) c⟩⟩
inductive Ca(C:VI)(vs:List V)(H:Hp)(Q:VK)(E:XK):Prop|mk (m dr df dw:VI) (now t:Int) (xs ys:List (List Wu×V)) (n:Nat) (_:vs=[.ref m,.int t]) (_:NI C H m dr df dw now xs ys n) (_:now <=t) (_:Q .non H)
abbrev HA:Stmt:=Nl (WW 66) 8
theorem gW:WQ ["self","time"] ["self","time"] (VO HA):=by walk_at"e"
theorem gT{f C:VI}{fd:VD}(F:WX K "check_time" "Room.check_time" HA f fd)(L:Dq K C)(VY:JA P w K mg base "is_whole_from" 2 ["value","low"] [] RS):VW P w K mg base WK 3 f fd ["self","time"] (Ca C):=by
 refine F.ok gW (fun vs H Q E h=>?_) (fun i A outer s H vs Q E b h=>?_)
 .obtain⟨m,e,g,d,now,t,xs,ys,n,rfl,_⟩:=h;rfl
 .obtain⟨m,e,g,d,now,t,xs,ys,n,rfl,c,a,q⟩:=h;refine⟨_,(Wc (Jj (Nq (N6 (JT VY b.m rfl (Wb 1 (Nt (WG K (VQ 0)) VT))))) Rl Jw)),?_⟩;walk_at"rd";refine⟨_,c.ins.fld L.cl L.now rfl,_,_,_,rfl,rfl,?_⟩;rw[show NC (.int t) now=true from Yw a];exact⟨_,rfl,q⟩
inductive FR(C:VI)(vs:List V)(H:Hp)(Q:VK)(E:XK):Prop|mk (m dr df dw t:VI) (now:Int) (xs ys:List (List Wu×V)) (n:Nat) (_:vs=[.ref m,.ref t]) (_:NI C H m dr df dw now xs ys n) (_:Q (.bl false) H)
abbrev Iy:Stmt:=Nl (WW 66) 12
theorem ZB:WQ ["self","key"] ["self","key"] (VO Iy):=by walk_at"e"
theorem S0{f C:VI}{fd:VD}(F:WX K "is_resting" "Room.is_resting" Iy f fd)(L:Dq K C):VW P w K mg base WK 1 f fd ["self","key"] (FR C):=by
 refine F.ok ZB (fun vs H Q E h=>?_) (fun i A outer s H vs Q E b h=>?_)
 .obtain⟨m,e,g,d,t,a,xs,ys,n,rfl,_⟩:=h;rfl
 .obtain⟨m,e,g,d,t,a,xs,ys,n,rfl,c,q⟩:=h;refine⟨_,(Wc (WL (M8 (Ts (Rt Ry) (WG K (VQ 0)) Wm (TV _)) (M8 (Ts (SJ (D6 b)) (VQ 1) (WG K (VQ 0)) (by with_unfolding_all rfl)) (MT (Ts (Jp EF) (WG K (VQ 0)) (J0 (Jp NH) (Rn b (WG K (VQ 0)) (VQ 1)) (WG K (VQ 0))) (TV _))))))),?_⟩;walk_at"rd";refine⟨_,c.ins.fld L.cl L.again rfl,rfl,?_⟩;rw[Y2 (by decide +kernel)];exact q
inductive AM(C:VI)(vs:List V)(H:Hp)(Q:VK)(E:XK):Prop|mk (m dr df dw t:VI) (k:Int×Str×Str) (now:Int) (v1 v2:V) (n:Nat) (_:vs=[.ref m,.ref t]) (_:NI C H m dr df dw now [(Dn k,v1)] [(Dn k,v2)] n) (_:H t=some (.tup (x8 k))) (_:∀G,(∀c o,H c=some o->c≠dr->c≠df->G c=some o)->NI C G m dr df dw now [] [] n->Q .non G)
abbrev La:Stmt:=Nl (WW 66) 10
theorem xA:WQ ["self","key"] ["self","key"] (VO La):=by walk_at"e"
theorem wL{f C:VI}{fd:VD}(F:WX K "let_go" "Room.let_go" La f fd)(L:Dq K C):VW P w K mg base WK 1 f fd ["self","key"] (AM C):=by
 refine F.ok xA (fun vs H Q E h=>?_) (fun cdv A outer s H vs Q E x h=>?_)
 .obtain⟨m,l,d,dw,t,k,p,v1,v2,n,rfl,_⟩:=h;rfl
 .obtain⟨m,l,d,dw,t,k,p,v1,v2,n,rfl,a,j,q⟩:=h;refine⟨_,(W1 (JR (Nu (K:=K) rfl XD Ut Vm (Ls (D6 x)) (WG K (VQ 0)) (Wb 1 VT))) (Wc (JR (Nu (K:=K) rfl XD Ut Vm (Ls (D6 x)) (WG K (VQ 0)) (Wb 1 VT))))),?_⟩;refine We fun N y=>?_
  walk_at"rd";have u:m≠l:=a.ins.ne a.dR nofun;have r:m≠d:=a.ins.ne a.dF nofun;refine⟨_,a.ins.fld L.cl L.readings rfl,.inr (.inr (.inl ⟨rfl,.inr ⟨_,a.dR⟩⟩)),l,rfl,Dn k,_,a.dR,j,_,ET rfl,fun G1 b e1=>y _ _ ?_⟩;clear y N;walk_at"rd";have i:=b d _ a.dF (Ne.symm a.n1);have g:=a.ins.but b u;have v:=b t _ j (VS j a.dR nofun);refine⟨_,g.fld L.cl L.firsts rfl,.inr (.inr (.inl ⟨rfl,.inr ⟨_,i⟩⟩)),d,rfl,Dn k,_,i,v,_,ET rfl,fun G2 e e2=>?_⟩;refine q G2 (fun c o h n1 n2=>e c o (b c o h n1) n2) ⟨g.but e r,?_,?_,a.dW.imp fun _ z=>⟨e _ _ (b _ _ z.1 (Ne.symm a.n2)) (Ne.symm a.n3),z.2⟩,a.n1,a.n2,a.n3⟩
  .rw[e _ _ e1 a.n1];simp[Jz]
  .rw[e2];simp[Jz]
inductive Aa(C:VI)(vs:List V)(H:Hp)(Q:VK)(E:XK):Prop|mk (m dr df dw:VI) (now:Int) (n:Nat) (_:vs=[.ref m]) (_:NI C H m dr df dw now [] [] n) (_:∀l G,H l=none->VP H G->G l=some (.lst [])->Q (.ref l) G)
abbrev Ab:Stmt:=Nl (WW 66) 11
theorem Bi:WQ ["self","over","events","first","key"] ["self"] (VO Ab):=by walk_at"e"
theorem ZQ{f C:VI}{fd:VD}(F:WX K "end_waits" "Room.end_waits" Ab f fd)(L:Dq K C)(B2:Az mg)(J1:N0 P w K mg base C "let_go" 1 ["self","key"] [] (AM C)):VW P w K mg base WK 2 f fd ["self"] (Aa C):=by
 refine F.ok Bi (fun vs H Q E h=>?_) (fun cdv A outer s H vs Q E c h=>?_)
 .obtain⟨m,dr,df,dw,r,n,rfl,_⟩:=h;rfl
 .obtain⟨m,dr,df,dw,r,n,rfl,y,q⟩:=h;refine⟨_,(W1 (nO (AA (i:=1) (N':=["key","self"]) (caps:=[none,some 0]) (Me (sc:=VO Ab) (N:=["self","over","events","first","key"]) rfl rfl (by decide +kernel)) rfl (Bi).nd rfl (Or.inl rfl) (tV (WG K (VQ 0))) (fun _ _ _ _ _=>(Tg (i:=0) (TH (N:=["key","self"]) rfl (by decide +kernel)) rfl (Or.inl rfl))) (fun _ _ _ _ _=>(As (N8 (Jp Dx) (J0 (Jp NH) (Rn c (WG K (VQ 1)) (VQ 0)) (WG K (VQ 1))) (WG K (VQ 1))))) (fun _ _ _ _ _=>(Tf (RT (Rn c (WG K (VQ 1)) (VQ 0)) (Wb 0 VT)))) rfl)) (W1 (NY 2 Bi (WO VT)) (W1 (Gi U6 rfl (TK (K:=K) rfl (N3 (tX (K:=K) (Room.units c) rfl) B2.sorted (Wb 1 VT))) (DZ (K:=K) (n:=2) rfl rfl (TJ (MC 3 Bi) (TJ (MC 4 Bi) Ge))) (W1 (JR (Mt (VQ 0) J1 c.m (Wb 4 VT))) (Wc (JR (Nu (K:=K) rfl Yc Yf Yg (Tn Tq) (VQ 2) (VR (hs:=TL) (Tf (MK Wm (Wb 4 (MK Wm VT)))) VT)))))) (Wc (WL (VQ 2)))))),?_⟩;refine We fun N a=>?_
  walk_at"rd";refine dG (xL y.dF (fun Rr h=>by walk_at"rd";exact⟨_,y.ins.fld L.cl L.firsts rfl,h⟩) (fun i ys σ' e=>ys=[]/\∃v,σ'=[v,some (.ref m)]) (fun e _=>⟨rfl,_,rfl⟩) ?_ (Yh _) ?_ ?_)
  .rintro i ys σ' e ⟨rfl,_⟩;exact Yh _
  .rintro e o off hfd i b k v ys σ' hk;cases hk
  .rintro ys σ' Hn ⟨rfl,_⟩ hold p G hp s1 s2 e1;refine a _ _ ?_;clear a N;refine We fun N a=>?_
   walk_at"rd";refine⟨Yh _,fun j G1 u s3 e2=>a _ _ ?_⟩;clear a N;refine We fun N a=>?_
   walk_at"rd";refine⟨VZ.of (s3 _ _ e1),fun l G2 hl0 g z=>?_⟩;refine⟨⟨_,VZ.of z⟩,?_⟩;refine Rs (xs:=[]) (fun _ σ' d=>d=G2/\σ'=[some (.ref m),some (.ref p),some (.ref j),none,none]) ⟨rfl,rfl⟩ ?_ ?_ ?_
   .rintro i σ' d _ ⟨rfl,_⟩;exact VZ.of z
   .rintro i x σ' d hx _;cases hx
   .rintro σ' d ⟨rfl,rfl⟩;refine a _ _ ?_;clear a N;walk_at"rd";exact q j _ (s1.free u) (s1.trans (s3.trans g)) (g _ _ e2)
theorem NI.setNow{C m dr df dw dx:VI}{H G:Hp}{now t:Int}{xs ys:List (List Wu×V)}{n:Nat}{fs:List (Str×V)}(h:NI C H m dr df dw now xs ys n)(hm:H m=some (.ins C dx fs))(b:WP m H G)(e:G m=some (.ins C dx (Jl "now" (.int t) fs))):NI C G m dr df dw t xs ys n:=by
 have n1:m≠dr:=h.ins.ne h.dR nofun;have n2:m≠df:=h.ins.ne h.dF nofun;obtain⟨kvs,a,d⟩:=h.dW;have n3:m≠dw:=h.ins.ne a nofun;exact⟨h.ins.set hm e (x:=.int now) rfl rfl fun g c=>by simp only[QI,List.lookup,c],b _ _ h.dR (Ne.symm n1),b _ _ h.dF (Ne.symm n2),⟨kvs,b _ _ a (Ne.symm n3),d⟩,h.n1,h.n2,h.n3⟩
inductive C5(C:VI)(vs:List V)(H:Hp)(Q:VK)(E:XK):Prop|mk (m dr df dw:VI) (now t:Int) (n:Nat) (_:vs=[.ref m,.int t]) (_:NI C H m dr df dw now [] [] n) (_:now <=t) (_:∀l G,H l=none->(∀c o,H c=some o->c≠m->G c=some o)->NI C G m dr df dw t [] [] n->G l=some (.lst [])->Q (.ref l) G)
abbrev Hs:Stmt:=Nl (WW 66) 2
theorem jT:WQ ["self","time"] ["self","time"] (VO Hs):=by walk_at"e"
theorem tS{f C:VI}{fd:VD}(F:WX K "tick" "Room.tick" Hs f fd)(L:Dq K C)(WA:N0 P w K mg base C "check_time" 3 ["self","time"] [] (Ca C))(WI:N0 P w K mg base C "end_waits" 2 ["self"] [] (Aa C)):VW P w K mg base WK 4 f fd ["self","time"] (C5 C):=by
 refine F.ok jT (fun vs H Q E h=>?_) (fun aa A outer s H vs Q E r h=>?_)
 .obtain⟨m,i,j,g,now,t,n,rfl,_⟩:=h;rfl
 .obtain⟨m,i,j,g,now,t,n,rfl,d,x,q⟩:=h;refine⟨_,(W1 (JR (Mt (VQ 0) WA r.m (Wb 1 VT))) (W1 (NJ (K:=K) rfl (VQ 0) (VQ 1) rfl) (Wc (WL (MH (VQ 0) WI r.m))))),?_⟩;refine We fun N b=>?_
  walk_at"rd";refine⟨d.ins.mt rfl,m,i,j,g,now,t,_,_,n,rfl,d,x,b _ _ ?_⟩;clear b N;obtain⟨dx,fs,u,e,_⟩:=d.ins.ex;refine We fun N b=>?_
  walk_at"rd";refine⟨C,dx,fs,u,L.cl,L.now,by omega,fun G1 p v=>b _ _ ?_⟩;clear b N;have a:=d.setNow u p v;walk_at"rd";refine⟨a.ins.mt rfl,m,i,j,g,t,n,rfl,a,fun l z e s2 y=>?_⟩;exact q l z (p.free e (Ne.symm (WJ v e))) (fun c o h n=>s2 _ _ (p _ _ h n)) (a.mono s2) y
inductive HL(C:VI)(vs:List V)(H:Hp)(Q:VK)(E:XK):Prop|mk (d:LD) (b:VI) (_:vs=[.int d.nu,.str d.z1,.str d.z2,.ref b]) (_:d.k=false) (_:d.Ok) (_:H b=some (.lst (d.ns.map V.int))) (_:∀p b' G,H p=none->H b'=none->VP H G->Jt C G p b' d->Q (.ref p) G)
theorem Qm{C:VI}(F:MP P w K mg base "Letter" C 6 ["self","number","sender","goal","body","keep"] [.bl false] (E8 C)):Tt P w K mg base "Letter" 6 (HL C):=by
 refine F.ct fun vs H Q h y dx G c u v s l=>?_
 obtain⟨d,b,rfl,f,ok,g,q⟩:=h;obtain⟨a,i⟩:=Km (k:=d.k) ok.n0 ok.n1 ok.k1 ok.k2 (s b _ g) ok.l1 ok.l2 ok.by'
 rw[f]at a i;exact⟨y,dx,_,_,_,b,_,_,rfl,l,a,i,s b _ g,fun H' r n h1 h2 j p=>⟨rfl,q y r H' c (s.free n) (fun d o e=>p d o (s d o e) (WJ e c)) ⟨ok,by rw[f];exact j,h2⟩⟩⟩
abbrev FT:Stmt:=Nl (WW 66) 14
theorem xN:WQ ["self","own","events","key"] ["self","own"] (VO FT):=by walk_at"e"
theorem yE{f:VI}{fd:VD}(F:WX K "make_space" "Room.make_space" FT f fd):VW P w K mg base WK 4 f fd ["self","own"] R9:=
 F.ok xN (fun vs H Q E h=>h.elim) (fun a A outer s H vs Q E b h=>h.elim)
theorem Zb{α:Type}[DecidableEq α](kvs:List (α×V))(k:α)(v:V):(Tp kvs k v).length <=kvs.length+ 1:=by
 unfold Tp
 split
 .rw[List.length_map];omega
 .rw[Yx];exact Y1 _
structure Qp(G:Hp)(l:VI):Prop where
 ex:∃t pl,G l=some (.lst [.ref t])/\G t=some (.tup [.str "whole",.ref pl])
inductive HD(C CR CP:VI)(vs:List V)(H:Hp)(Q:VK)(E:XK):Prop|mk (m dr df dw q b:VI) (now:Int) (n:Nat) (d:PD) (_:vs=[.ref m,.ref q]) (_:NI C H m dr df dw now [] [] n) (_:n <=1000) (_:WB CP H q b d) (_:C≠CP) (_:CR≠CP) (_:C≠CR) (_:d.mo=false) (_:d.at'=0) (_:∀l G,H l=none->(∀c o,H c=some o->c≠dr->c≠df->c≠dw->G c=some o)->NI C G m dr df dw now [] [] (n+ 1)->Qp G l->Q (.ref l) G)
abbrev Ib:Stmt:=Nl (WW 66) 13
theorem Cg:WQ ["self","piece","key","reading","answer"] ["self","piece"] (VO Ib):=by walk_at"e"
theorem jV{f C CR CP CW CL:VI}{fd:VD}(F:WX K "take_in" "Room.take_in" Ib f fd)(L:Dq K C)(LW:Lk K CW "body")(icW:EO K CW)(ww:W.kitOne K (.ref CW) (.ref CW)=some true)(B:Bt mg)(gC_Whole:mg "Whole"=some (.ref CW))
  (Nf:N0 P w K mg base CP "key" 1 ["self"] [] (PY CP)) (Jd:N0 P w K mg base C "is_resting" 1 ["self","key"] [] (FR C)) (De:Tt P w K mg base "Reading" 1 (LV CR)) (Wk:N0 P w K mg base CR "is_strange" 2 ["self","piece"] [] (Aj CR CP)) (WV:N0 P w K mg base CR "answer_to" 3 ["self","piece"] [] (KO CR CP CW))
  (Je:N0 P w K mg base C "make_space" 4 ["self","own"] [] R9) (J1:N0 P w K mg base C "let_go" 1 ["self","key"] [] (AM C)) (Nh:Tt P w K mg base "Letter" 6 (HL CL)):VW P w K mg base WK 8 f fd ["self","piece"] (HD C CR CP):=by
 refine F.ok Cg (fun vs H Q E h=>?_) (fun cdv A outer s H vs Q E hr h=>?_)
 .obtain⟨m,u,df,dw,q,b,now,n,d,rfl,_⟩:=h;rfl
 .obtain⟨m,u,df,dw,q,b,now,n,d,rfl,j,hn,hP,ncp,nrp,ncr,hm,h0,k⟩:=h;refine⟨_,(W1 (NY 2 Cg (MH (VQ 1) Nf hr.m)) (W1 (Jj (N6 (Mt (VQ 0) Jd hr.m (Wb 2 VT))) (Wc (WL (WO (VR (hs:=TL) (Tf (MK Wm (Wb 2 VT))) VT)))) Jw) (W1 (NY 3 Cg (Nu (K:=K) rfl XD XS UG (Qt (D6 hr)) (WG K (VQ 0)) (Wb 2 (MG (D9 De hr.m rfl (Nt (WG K (VQ 0)) VT)) VT)))) (W1 (JR (Nu (K:=K) rfl XD XS UG (Qt (D6 hr)) (WG K (VQ 0)) (Wb 2 (Nt (WG K (VQ 0)) VT)))) (W1 (Jj (PW.pt (FC (N8 (Gj DP) (WG K (VQ 0)) Wm) (IB (N6 (Mt (VQ 3) Wk hr.m (Wb 1 VT)))))) (Wc (WL (WO (VR (hs:=TL) (Tf (MK Wm (Wb 2 VT))) VT)))) Jw) (W1 (NY 4 Cg (Mt (VQ 3) WV hr.m (Wb 1 VT))) (W1 (Jj (N8 Br (VQ 4) Tk) (Wc (WL (Mt (VQ 0) Je hr.m (Wb 2 VT)))) Jw) (W1 (JR (Mt (VQ 0) J1 hr.m (Wb 2 VT))) (W1 (Jj (N6 (N3 (nA (K:=K) rfl) B.isinstance (Wb 4 (VR (hs:=Wq) (M3 (v:=.ref CW) rfl gC_Whole rfl) VT)))) (W1 (QR (D6 hr) (WG K (VQ 0)) (VQ 2) (WG K (VQ 0)) rfl) (Wc (WL (WO (VR (hs:=TL) (Tf (MK Wm (MG (D9 Nh hr.m rfl (RT (Dh K (VQ 2) W3) (RT (Dh K (VQ 2) W3) (RT (Dh K (VQ 2) W3) (Nt (WG K (VQ 4)) VT))))) VT))) VT))))) Jw) (Wc (WL (WO (VR (hs:=TL) (Tf (MK Wm (Wb 2 (MK Wm VT)))) VT))))))))))))),?_⟩;refine We fun N i=>?_
  walk_at"rd";refine⟨Sa hP,q,b,d,rfl,hP,fun tk G1 htk s1 e1=>i _ _ ?_⟩;clear i N;have aa:=j.mono s1;have hP1:=hP.mono s1;refine We fun N i=>?_
  walk_at"rd";refine⟨aa.ins.mt rfl,m,u,df,dw,tk,now,[],[],n,rfl,aa,_,rfl,?_⟩;rw[Y2 (by simp)];refine i _ _ ?_;clear i N;refine We fun N i=>?_
  walk_at"rd";refine⟨_,aa.ins.fld L.cl L.readings rfl,.inr (.inr (.inl ⟨rfl,.inr ⟨_,aa.dR⟩⟩)),_,aa.ins.fld L.cl L.rule rfl,rfl,fun p a l G2 hp2 ha2 hl2 s2 hI hA hLl=>⟨u,rfl,Dn d.key,[],s2 _ _ aa.dR,s2 _ _ e1,by decide,(fun v hv=>by cases hv),fun _ G3 b3 g3=>i _ _ ?_⟩⟩;clear i N;have x:=aa.mono s2;have nmr:m≠u:=x.ins.ne x.dR nofun;have npr:p≠u:=hI.ne x.dR nofun;have Oo:a≠u:=VS hA x.dR nofun;have nlr:l≠u:=VS hLl x.dR nofun;obtain⟨dxq,fsq,hq⟩:=hP.ins;have k13:∀{c:VI} {o:HO},H c=some o->(∀xs,o≠ .dT xs)->G3 c=some o:=fun h n=>b3 _ _ (s2 _ _ (s1 _ _ h)) fun z=>by rw[z,j.dR]at h;cases h;exact n _ rfl
  have g:NI C G3 m u df dw now [(Dn d.key,.ref p)] [] n:=⟨x.ins.but b3 nmr,g3,b3 _ _ x.dF (Ne.symm j.n1),x.dW.imp fun _ z=>⟨b3 _ _ z.1 (Ne.symm j.n2),z.2⟩,j.n1,j.n2,j.n3⟩;have hI3:=hI.but b3 npr;have hA3:=b3 _ _ hA Oo;have hL3:=b3 _ _ hLl nlr;have ht3:=b3 _ _ (s2 _ _ e1) (VS (s2 _ _ e1) x.dR nofun);have hP3:WB CP G3 q b d:=hP.kp (fun o h=>k13 h (by rw[hq]at h;cases h;nofun)) (fun o h=>k13 h (by rw[hP.bd]at h;cases h;nofun));have kH3:∀c o,H c=some o->c≠u->G3 c=some o:=fun c o h n=>b3 _ _ (s2 _ _ (s1 _ _ h)) n
  clear x hI hA hLl hP1 aa k13;refine We fun N i=>?_
  walk_at"rd";refine⟨_,g.ins.fld L.cl L.firsts rfl,.inr (.inr (.inl ⟨rfl,.inr ⟨_,g.dF⟩⟩)),_,g.ins.fld L.cl L.now rfl,df,rfl,Dn d.key,[],g.dF,ht3,by decide,(fun v hv=>by cases hv),fun _ G4 b4 g4=>i _ _ ?_⟩;clear i N;have hR4:NI C G4 m u df dw now [(Dn d.key,.ref p)] [(Dn d.key,.int now)] n:=⟨g.ins.but b4 (g.ins.ne g.dF nofun),b4 _ _ g.dR j.n1,g4,g.dW.imp fun _ z=>⟨b4 _ _ z.1 (Ne.symm j.n3),z.2⟩,j.n1,j.n2,j.n3⟩;have hI4:=hI3.but b4 (hI3.ne g.dF nofun);have hA4:=b4 _ _ hA3 (VS hA3 g.dF nofun);have hL4:=b4 _ _ hL3 (VS hL3 g.dF nofun);have ht4:=b4 _ _ ht3 (VS ht3 g.dF nofun);obtain⟨dxq3,fsq3,hq3⟩:=hP3.ins;have hP4:=hP3.but b4 (VS hq3 g.dF nofun) (VS hP3.bd g.dF nofun);have kH4:∀c o,H c=some o->c≠u->c≠df->G4 c=some o:=fun c o h n1 n2=>b4 _ _ (kH3 c o h n1) n2
  clear g hI3 hA3 hL3 ht3 hP3 kH3;refine We fun N i=>?_
  walk_at"rd";refine⟨_,hR4.ins.fld L.cl L.rule rfl,rfl,?_⟩;rw[Y9 (by decide +kernel)];refine⟨hI4.mt rfl,p,a,l,q,b,d,rfl,hI4,hP4,hm,_,rfl,?_⟩;rw[Y2 (by simp)];refine i _ _ ?_;clear i N;refine We fun N i=>?_
  walk_at"rd";refine⟨hI4.mt rfl,p,a,l,q,b,d,rfl,hI4,hA4,hL4,hP4,nrp,hm,h0,fun w' b' G5 hw hb k5 hAns hp5 ha5=>i _ _ ?_⟩;clear i N;obtain⟨dxp,fsp,hpi,_⟩:=hI4.ex;obtain⟨dxm,fsm,hmi,_⟩:=hR4.ins.ex;have r:∀{c:VI} {o:HO},G4 c=some o->(∀C' dx fs,o= .ins C' dx fs->C'≠CR)->(∀xs,o≠ .dK xs)->G5 c=some o:=fun {c o} h n1 n2=>k5 c o h (fun z=>by rw[z,hpi]at h;cases h;exact n1 _ _ _ rfl rfl) (fun z=>by rw[z,hA4]at h;cases h;exact n2 _ rfl)
  have hR5:NI C G5 m u df dw now [(Dn d.key,.ref p)] [(Dn d.key,.int now)] n:=⟨hR4.ins.kp fun o h=>r h (by rw[hmi]at h;cases h;intro C' _ _ e;injection e with e;rw[<-e];exact ncr) (by rw[hmi]at h;cases h;nofun),r hR4.dR nofun nofun,r hR4.dF nofun nofun,hR4.dW.imp fun _ z=>⟨r z.1 nofun nofun,z.2⟩,j.n1,j.n2,j.n3⟩;have ht5:=r ht4 nofun nofun;have kH5:∀c o,H c=some o->c≠u->c≠df->G5 c=some o:=fun c o h n1 n2=>by
   refine k5 c o (kH4 c o h n1 n2) (fun z=>?_) (fun z=>?_)
   .rw[z,s1.free hp2]at h;cases h
   .rw[z,s1.free ha2]at h;cases h
  have hok:=hP4.ok;clear r hR4 hI4 hA4 hL4 hP4 kH4 ht4 hmi hpi;refine We fun N i=>?_
  walk_at"rd";refine i _ _ ?_;clear i N;refine We fun N i=>?_
  walk_at"rd";refine⟨hR5.ins.mt rfl,m,u,df,dw,tk,d.key,now,_,_,n,rfl,hR5,ht5,fun G6 k6 y=>i _ _ ?_⟩;clear i N;obtain⟨dxw,fsw,x1,x2,x3⟩:=hAns;have r:∀{c:VI} {o:HO},G5 c=some o->(∀xs,o≠ .dT xs)->G6 c=some o:=fun {c o} h n=>k6 c o h (fun z=>by rw[z,hR5.dR]at h;cases h;exact n _ rfl) (fun z=>by rw[z,hR5.dF]at h;cases h;exact n _ rfl)
  have y1:=r x1 nofun;have y3:=r x3 nofun;have ht6:=r ht5 nofun;have kH6:∀c o,H c=some o->c≠u->c≠df->G6 c=some o:=fun c o h n1 n2=>k6 c o (kH5 c o h n1 n2) n1 n2
  clear r x1 x3 ht5 hR5 kH5;refine We fun N i=>?_
  walk_at"rd";refine⟨_,_,_,y1,LW.cl,icW,_,ww,?_⟩;rw[Y9 rfl];obtain⟨kvs,hW,hkl⟩:=y.dW;refine⟨_,y.ins.fld L.cl L.now rfl,_,y.ins.fld L.cl L.wholes rfl,dw,rfl,Dn d.key,kvs,hW,ht6,Ym (show kvs.length < 1001 by omega) (Wi (n:=1001) (by decide)),fun G7 b7 e7=>?_⟩;have ht7:=b7 _ _ ht6 (VS ht6 hW nofun);have z1:=b7 _ _ y1 (VS y1 hW nofun);have z3:=b7 _ _ y3 (VS y3 hW nofun);have hR7:NI C G7 m u df dw now [] [] (n+ 1):=⟨y.ins.but b7 (y.ins.ne hW nofun),b7 _ _ y.dR j.n2,b7 _ _ y.dF j.n3,⟨_,e7,Yu (Zb _ _ _) (Nat.succ_le_succ hkl)⟩,j.n1,j.n2,j.n3⟩;have kH7:∀c o,H c=some o->c≠u->c≠df->c≠dw->G7 c=some o:=fun c o h n1 n2 n3=>b7 c o (kH6 c o h n1 n2) n3
  clear kH6 ht6 y1 y3 y hW e7;refine⟨_,JN.of ht7,_,rfl,_,JN.of ht7,_,rfl,_,JN.of ht7,_,rfl,_,⟨w',CW,dxw,fsw,rfl,z1,LW.cl,LW.na,x2⟩,?_⟩;refine⟨⟨d.nu,d.z1,d.z2,d.ns,false⟩,b',rfl,rfl,⟨hok.n0,hok.n1,hok.k1,hok.k2,hok.l1,hok.l2,hok.by'⟩,z3,fun pl bl G8 hpl hbl s8 hL=>⟨Wi (by simp),fun t G9 ht s9 e9=>⟨Wi (by simp),fun l' GA hl' sA eA=>?_⟩⟩⟩;have s79:=s8.trans s9;refine k l' GA ?_ (fun c o h n1 n2 n3=>sA _ _ (s79 _ _ (kH7 c o h n1 n2 n3))) (hR7.mono (s79.trans sA)) ⟨t,pl,eA,sA _ _ e9⟩;cases h:H l' with
  |none=>rfl
  |some o=>
   have hx:=s79.free hl';obtain⟨kw,hkw,_⟩:=hR7.dW;rw[kH7 l' o h (fun z=>by rw[z,hR7.dR]at hx;cases hx) (fun z=>by rw[z,hR7.dF]at hx;cases hx) (fun z=>by rw[z,hkw]at hx;cases hx)]at hx;cases hx
inductive Kz(C CR CP:VI)(vs:List V)(H:Hp)(Q:VK)(E:XK):Prop|mk (m dr df dw q b:VI) (now t:Int) (n:Nat) (d:PD) (_:vs=[.ref m,.int t,.ref q]) (_:NI C H m dr df dw now [] [] n) (_:n <=1000) (_:now <=t) (_:WB CP H q b d) (_:C≠CP) (_:CR≠CP) (_:C≠CR) (_:d.mo=false) (_:d.at'=0) (_:∀l G,H l=none->(∀c o,H c=some o->c≠m->c≠dr->c≠df->c≠dw->G c=some o)->NI C G m dr df dw t [] [] (n+ 1)->Qp G l->Q (.ref l) G)
abbrev Fe:Stmt:=Nl (WW 66) 1
theorem Lw:WQ ["self","time","piece","events"] ["self","time","piece"] (VO Fe):=by walk_at"e"
theorem mT{f C CR CP:VI}{fd:VD}(F:WX K "come" "Room.come" Fe f fd)(L:Dq K C)(B:Bt mg)(gC_Piece:mg "Piece"=some (.ref CP))(cl_Piece:T7 K CP)(ic_Piece:EO K CP)
  (WA:N0 P w K mg base C "check_time" 3 ["self","time"] [] (Ca C)) (WI:N0 P w K mg base C "end_waits" 2 ["self"] [] (Aa C)) (JH:N0 P w K mg base C "take_in" 8 ["self","piece"] [] (HD C CR CP)):VW P w K mg base WK 9 f fd ["self","time","piece"] (Kz C CR CP):=by
 refine F.ok Lw (fun vs H Q E h=>?_) (fun cdv A outer s H vs Q E hr h=>?_)
 .obtain⟨m,dr,df,dw,q,b,now,t,n,d,rfl,_⟩:=h;rfl
 .obtain⟨m,dr,df,dw,q,b,now,t,n,d,rfl,i,hn,ht,hP,ncp,nrp,ncr,hm,h0,k⟩:=h;refine⟨_,(W1 (JR (Mt (VQ 0) WA hr.m (Wb 1 VT))) (W1 (Jj (Nq (N6 (N3 (tN (K:=K) rfl cl_Piece ic_Piece) B.isinstance (Wb 2 (VR (hs:=Wq) (M3 (v:=.ref CP) rfl gC_Piece rfl) VT))))) Rl Jw) (W1 (NJ (K:=K) rfl (VQ 0) (VQ 1) rfl) (W1 (NY 3 Lw (MH (VQ 0) WI hr.m)) (W1 (JR (Nu (K:=K) rfl Yc Xc Xd (EX Bs) (VQ 3) (MG (Mt (VQ 0) JH hr.m (Wb 2 VT)) VT))) (Wc (WL (VQ 3)))))))),?_⟩;refine We fun N a=>?_
  walk_at"rd";refine⟨i.ins.mt rfl,m,dr,df,dw,now,t,_,_,n,rfl,i,ht,a _ _ ?_⟩;clear a N;obtain⟨dx,fs,j,hl,_⟩:=i.ins.ex;obtain⟨dxq,fsq,hq⟩:=hP.ins;refine We fun N a=>?_
  walk_at"rd";refine⟨dxq,fsq,hq,a _ _ ?_⟩;clear a N;refine We fun N a=>?_
  walk_at"rd";refine⟨C,dx,fs,j,L.cl,L.now,by omega,fun G1 b1 e1=>a _ _ ?_⟩;clear a N;have x:=i.setNow j b1 e1;have hP1:=hP.but b1 (VS hq j (by intro z;injection z with z;exact ncp z.symm)) (VS hP.bd j nofun);refine We fun N a=>?_
  walk_at"rd";refine⟨x.ins.mt rfl,m,dr,df,dw,t,n,rfl,x,fun l G2 hl s2 y=>a _ _ ?_⟩;clear a N;have g:=x.mono s2;walk_at"rd";refine⟨.inl ⟨rfl,_,VZ.of y⟩,g.ins.mt rfl,m,dr,df,dw,q,b,t,n,d,rfl,g,hn,hP1.mono s2,ncp,nrp,ncr,hm,h0,fun l3 G3 hl3 k3 e hW=>?_⟩;obtain⟨tt,pl,e3,e4⟩:=hW;have nl1:l≠dr:=VS y g.dR nofun;have nl2:l≠df:=VS y g.dF nofun;have nl3:l≠dw:=by obtain⟨kw,u,_⟩:=g.dW;exact VS y u nofun
  have r:=k3 _ _ y nl1 nl2 nl3;refine⟨l3,rfl,_,r,_,e3,Wi (by simp),fun G4 p e5=>?_⟩;have hl0:H l=none:=b1.free hl (Ne.symm (WJ e1 hl));obtain⟨kw,u,hkl⟩:=e.dW;refine k l G4 hl0 (fun c o h n0 n1 n2 n3=>p _ _ (k3 _ _ (s2 _ _ (b1 _ _ h n0)) n1 n2 n3) (WJ h hl0)) ⟨e.ins.but p (e.ins.ne r nofun),p _ _ e.dR (Ne.symm nl1),p _ _ e.dF (Ne.symm nl2),⟨kw,p _ _ u (Ne.symm nl3),hkl⟩,i.n1,i.n2,i.n3⟩ ⟨tt,pl,e5,p _ _ e4 (VS e4 r nofun)⟩
end
theorem W6.kpM{C CR CP Cm p db dc lc ev:VI}{H G:Hp}{U:NE}{zs:List V}(h:W6 C CR CP H p db dc lc U)(he:H ev=some (.lst zs))(n1:C≠Cm)(n2:CR≠Cm)(n3:CP≠Cm)(k:∀c o,H c=some o->c≠ev->(∀dx fs,o≠ .ins Cm dx fs)->(∀xs,o≠ .dT xs)->G c=some o)
  (nl:lc≠ev) (nb:∀c∈U.cs,c.b≠ev) (nr:∀e∈U.rs,e.lw≠ev/\e.ll≠ev):W6 C CR CP G p db dc lc U:=by
 have i:∀{c C' dx:VI} {fs:List (Str×V)},C'≠Cm->H c=some (.ins C' dx fs)->G c=some (.ins C' dx fs):=fun {c C' dx fs} n e=>k _ _ e (VS e he nofun) (by intro _ _ z;injection z with z;exact n z) nofun
 have a:∀{c:VI} {o:HO},H c=some o->c≠ev->(∀C dx fs,o≠ .ins C dx fs)->(∀xs,o≠ .dT xs)->G c=some o:=fun e n1 n2 n3=>k _ _ e n1 (n2 _) n3
 obtain⟨dx,fs,e,r⟩:=h.ex;refine⟨⟨dx,fs,i n1 e,r⟩,a h.hb (VS h.hb he nofun) nofun nofun,a h.hc (VS h.hc he nofun) nofun nofun,a h.hl nl nofun nofun,h.ne,fun x j=>?_,fun c hc=>?_,h.nd⟩
 .have f:=h.rd x j;obtain⟨l,fs',g,_⟩:=f.ex;exact f.kp (fun o z=>by rw[g]at z;cases z;exact i n2 g) (fun o z=>by rw[f.hw]at z;cases z;exact a f.hw (nr x j).1 nofun nofun) (fun o z=>by rw[f.hl]at z;cases z;exact a f.hl (nr x j).2 nofun nofun)
 .have d:=h.th c hc;obtain⟨l,fs',g⟩:=d.pi.ins;exact d.kp (fun o z=>by rw[d.tu]at z;cases z;exact a d.tu (VS d.tu he nofun) nofun nofun) (fun o z=>by rw[g]at z;cases z;exact i n3 g) (fun o z=>by rw[d.pi.bd]at z;cases z;exact a d.pi.bd (nb c hc) nofun nofun)
def D2(i j:Int):Int:=if j > i then j else i
theorem Pl{i j t:Int}(h1:i <=t)(h2:j <=t):D2 i j <=t:=by unfold D2;split <;> assumption
theorem xI(i j:Int):j <=D2 i j:=by unfold D2;split <;> omega
def OA(G:Hp)(x:V):Prop:=∃tt pl,x= .ref tt/\G tt=some (.tup [.str "whole",.ref pl])
section
variable{P:VB}{w:VF}{K:VG}{mg:Vx}{base:VM}
inductive B7(C CRo CP Cm T NT:VI)(vs:List V)(H:Hp)(Q:VK)(E:XK):Prop|mk (p db dc lc m dr df dw:VI) (U:NE) (now:Int) (n:Nat) (x:V) (n1:String) (_:vs=[.ref p,.ref m,x]) (_:W6 C CRo CP H p db dc lc U) (_:NI Cm H m dr df dw now [] [] n) (_:WY H x=some n1) (_:((NC x (D2 U.now now)=false/\E (.ref NT) none H)\/∃t,x= .int t/\U.now <=t/\now <=t/\n+ U.cs.length < 64/\Ji H T GK/\(∀c∈U.cs,c.d.mo=false/\c.d.at'=0)/\∀l lc' evs G,H l=none->(∀c o,H c=some o->c≠p->c≠T->c≠m->c≠dr->c≠df->c≠dw->G c=some o)->Ji G T GK->W6 C CRo CP G p db dc lc' {U with now:=t,cs:=DV t U.cs}->G l=some (.lst evs)->evs.length=(Md t U.cs).length->(∀x∈evs,OA G x)->Q (.ref l) G))
abbrev IR:Stmt:=WW 56
theorem CA:WQ ["post","room","time","events","arrived","piece"] ["post","room","time"] (VO IR):=by walk_at"e"
theorem vW{f C CRo CP Cm CR T NT:VI}{fd:VD}(F:WX K "carry" "carry" IR f fd)(L:Mv K C)(LM:Dq K Cm)(B:Bt mg)(X_NoTime:XC K mg "NoTime" NT)(n1:C≠Cm)(n2:CRo≠Cm)(n3:CP≠Cm)(n4:CR≠CP)(n5:Cm≠CR)(n6:C≠CP)(VY:JA P w K mg base "is_whole_from" 2 ["value","low"] [] RS)(Wx:MW P w K mg base C "fetch" 9 ["self","time"] [] (EH C CRo CP T NT))
  (Nd:N0 P w K mg base Cm "come" 9 ["self","time","piece"] [] (Kz Cm CR CP)) (Jn:N0 P w K mg base Cm "tick" 4 ["self","time"] [] (C5 Cm)):VW P w K mg base (N4 P w) 10 f fd ["post","room","time"] (B7 C CRo CP Cm T NT):=by
 refine F.okX CA (fun vs H Q E h=>?_) (fun cdv A outer s H vs Q E hr h=>?_)
 .obtain⟨p,db,dc,lc,m,dr,df,dw,U,now,n,x,ty,rfl,_⟩:=h;rfl
 .obtain⟨p,db,dc,lc,m,dr,df,dw,U,now,n,x,ty,rfl,hU,u,htx,hh⟩:=h;refine⟨_,(W1 (Jj (Nq (N6 (JT VY hr.m rfl (Wb 2 (MG (N3 (Ap rfl) B.max (Nt (WG K (VQ 0)) (Nt (WG K (VQ 1)) VT))) VT))))) (Wc (Gq Ma rfl rfl X_NoTime Wm)) Jw) (W1 (NY 3 CA (WO VT)) (W1 (Gi Xt rfl (TK (K:=K) rfl (Ti (VQ 0) Wx hr.m (NK Ma (fun _ _ h=>h)) (Wb 2 VT))) (DZ (K:=K) (n:=2) rfl rfl (TJ (MC 4 CA) (TJ (MC 5 CA) Ge))) (Wc (JR (Nu (K:=K) rfl Yc Xc Xd (EX Bs) (VQ 3) (MG (Mt (VQ 1) Nd hr.m (MG (N3 (Ap rfl) B.max (Wb 4 (Nt (WG K (VQ 1)) VT))) (Wb 5 VT))) VT))))) (W1 (JR (Nu (K:=K) rfl Yc Xc Xd (EX Bs) (VQ 3) (MG (Mt (VQ 1) Jn hr.m (Wb 2 VT)) VT))) (Wc (WL (VQ 3))))))),?_⟩;refine We fun N hN=>?_
  walk_at"rd";refine⟨_,Fa L hU,_,u.ins.fld LM.cl LM.now rfl,U.now,rfl,now,rfl,x,ty,D2 U.now now,rfl,htx,_,rfl,?_⟩;rcases hh with⟨h,q⟩|⟨t,rfl,ht1,ht2,hnl,tb,hpc,q⟩
  .rw[h,Y9 (by rfl)];exact q
  rw[show NC (.int t) (D2 U.now now)=true from Yw (Pl ht1 ht2),Y2 (by simp)];refine hN _ _ ?_;clear hN N;refine We fun N hN=>?_
  walk_at"rd";refine⟨Yh _,fun ev G1 hev s1 e1=>hN _ _ ?_⟩;clear hN N;have hU1:=hU.mono s1;have hR1:=u.mono s1;refine We fun N hN=>?_
  walk_at"rd";refine⟨hU1.mt rfl,p,db,dc,lc,U,.int t,_,rfl,hU1,rfl,.inr ⟨t,rfl,ht1,by omega,tb.same s1,fun l2 lc' ms G2 hl2 hlc' nll k2 tb2 hms e2 hU2=>?_⟩⟩;obtain⟨dxp,fsp,hp,_⟩:=hU.ex;obtain⟨dxm,fsm,hm,_⟩:=u.ins.ex;obtain⟨kw,hw,hkw⟩:=u.dW;have y:∀{c:VI} {o:HO},H c=some o->(∀dx fs,o≠ .ins C dx fs)->(∀ps,o≠ .tbl ps)->G2 c=some o:=fun {c o} h a1 a2=>k2 c o (s1 _ _ h) (fun z=>by rw[z,hp]at h;cases h;exact a1 _ _ rfl) (Jx tb h a2)
  have im:∀dx fs,HO.ins Cm dxm fsm≠ .ins C dx fs:=fun _ _ z=>by injection z with z;exact n1 z.symm
  have hR2:NI Cm G2 m dr df dw now [] [] n:=⟨u.ins.kp fun o h=>y h (by rw[hm]at h;cases h;exact im) (by rw[hm]at h;cases h;nofun),y u.dR nofun nofun,y u.dF nofun nofun,⟨kw,y hw nofun nofun,hkw⟩,u.n1,u.n2,u.n3⟩;have ev2:G2 ev=some (.lst []):=k2 _ _ e1 (VS e1 (s1 _ _ hp) nofun) (Jx (tb.same s1) e1 nofun);have nev:∀{c:VI} {o:HO},H c=some o->c≠ev:=fun h=>WJ h hev
  refine⟨l2,rfl,⟨_,VZ.of e2⟩,?_⟩;obtain⟨KG,eKG⟩:∃KG:Hp->Prop,KG=fun G=>∀c o,G2 c=some o->c≠m->c≠dr->c≠df->c≠dw->c≠ev->G c=some o:=⟨_,rfl⟩
  have up:∀{G:Hp},KG G->∀{c:VI} {o:HO},H c=some o->(∀dx fs,o≠ .ins C dx fs)->(∀dx fs,o≠ .ins Cm dx fs)->(∀ps,o≠ .tbl ps)->(∀xs,o≠ .dT xs)->G c=some o:=fun {G} kG {c o} h a1 a2 a3 a4=>by
   rw[eKG]at kG;exact kG c o (y h a1 a3) (fun z=>by rw[z,hm]at h;cases h;exact a2 _ _ rfl) (fun z=>by rw[z,u.dR]at h;cases h;exact a4 _ rfl) (fun z=>by rw[z,u.dF]at h;cases h;exact a4 _ rfl) (fun z=>by rw[z,hw]at h;cases h;exact a4 _ rfl) (nev h)
  obtain⟨Pv,ePv⟩:∃Pv:Nat->L2.St->Hp->Prop,Pv=fun i σ' G=>∃ (v:Int) (nn:Nat) (l:List V) (a b:Option V),σ'=[some (.ref p),some (.ref m),some (.int t),some (.ref ev),a,b]/\KG G/\NI Cm G m dr df dw v [] [] nn/\v <=t/\nn <=n+ i/\G ev=some (.lst l)/\l.length=i/\∀x∈l,OA G x:=⟨_,rfl⟩
  have hml:ms.length <=U.cs.length:=by rw[hms.pm.length_eq];exact Xp ..
  have l2ev:l2≠ev:=Ne.symm (WJ e1 hl2);refine Rs (xs:=JQ ms) Pv (by rw[ePv,eKG];exact⟨now,n,[],_,_,rfl,fun c o h _ _ _ _ _=>h,hR2,ht2,Y1 _,ev2,rfl,nofun⟩) ?_ ?_ ?_ <;> rw[ePv]
  .intro i σ' G _ Zq;obtain⟨v,nn,l,a,b,rfl,kG,_⟩:=Zq;rw[eKG]at kG;exact VZ.of (kG _ _ e2 (VS e2 (y hm im nofun) nofun) (VS e2 hR2.dR nofun) (VS e2 hR2.dF nofun) (VS e2 (y hw nofun nofun) nofun) l2ev)
  .intro i x σ' G hx Zq;obtain⟨v,nn,l,a,b,rfl,kG,j,hv,hnn,g,hel,hws⟩:=Zq;rw[<-ePv];unfold JQ at hx;rw[Yk]at hx;obtain⟨c,hc,rfl⟩:=YA.mp hx;have hil:i < ms.length:=(Y5.mp hc).1;obtain⟨hcU,hct⟩:=Xm.mp (hms.pm.mem_iff.mp (Yd hc));have hct:c.tm <=t:=XN hct;have hT:=hU.th c hcU;obtain⟨dxq,fsq,hq⟩:=hT.pi.ins;obtain⟨c1,c2⟩:=hpc c hcU;have htu:=up kG hT.tu nofun nofun nofun nofun;have hP:WB CP G c.q c.b c.d:=hT.pi.kp (fun o z=>by rw[hq]at z;cases z;exact up kG hq (by intro _ _ z;injection z with z;exact n6 z.symm) (by intro _ _ z;injection z with z;exact n3 z) nofun nofun) (fun o z=>by rw[hT.pi.bd]at z;cases z;exact up kG hT.pi.bd nofun nofun nofun nofun);walk_at"rd";refine⟨_,JN.of htu,rfl,_,_,rfl,_,_,rfl,rfl,.inl ⟨rfl,_,VZ.of g⟩,j.ins.mt rfl,_,j.ins.fld LM.cl LM.now rfl,?_⟩;have hil2:i < U.cs.length:=by omega
   refine⟨c.tm,rfl,v,rfl,m,dr,df,dw,c.q,c.b,v,D2 c.tm v,nn,c.d,rfl,j,by omega,xI _ _,hP,Ne.symm n3,n4,n5,c1,c2,fun l3 G3 hl3 k3 hR3 hW3=>?_⟩;obtain⟨tt,pl,e3,e4⟩:=hW3;obtain⟨kw1,hw1,_⟩:=j.dW;have nem:ev≠m:=Ne.symm (j.ins.ne g nofun);have r:=k3 _ _ g nem (VS g j.dR nofun) (VS g j.dF nofun) (VS g hw1 nofun);refine⟨l3,rfl,l,r,_,e3,Yu (show _ <=1001 by rw[Vf];omega) (Wi (n:=1001) (by decide)),fun G4 b4 e5=>?_⟩;obtain⟨kw3,hw3,hkw3⟩:=hR3.dW;have hR4:NI Cm G4 m dr df dw (D2 c.tm v) [] [] (nn+ 1):=⟨hR3.ins.but b4 (Ne.symm nem),b4 _ _ hR3.dR (VS hR3.dR r nofun),b4 _ _ hR3.dF (VS hR3.dF r nofun),⟨kw3,b4 _ _ hw3 (VS hw3 r nofun),hkw3⟩,u.n1,u.n2,u.n3⟩;have tp:∀{a:VI} {xs:List V},G a=some (.tup xs)->G4 a=some (.tup xs):=fun {a xs} h=>b4 _ _ (k3 _ _ h (Ne.symm (j.ins.ne h nofun)) (VS h j.dR nofun) (VS h j.dF nofun) (VS h hw1 nofun)) (VS h g nofun)
   rw[ePv];refine⟨D2 c.tm v,nn+ 1,l++[.ref tt],_,_,rfl,?_,hR4,Pl hct hv,by omega,e5,by rw[Yx,hel];rfl,fun x hx=>?_⟩
   .rw[eKG]at kG ⊢;exact fun c o h a1 a2 a3 a4 a5=>b4 _ _ (k3 _ _ (kG c o h a1 a2 a3 a4 a5) a1 a2 a3 a4) a5
   .rcases YG.mp hx with hx|hx
    .obtain⟨t1,p1,r1,r2⟩:=hws x hx;exact⟨t1,p1,r1,tp r2⟩
    .rw[Yn.mp hx];exact⟨tt,pl,rfl,b4 _ _ e4 (VS e4 r nofun)⟩
  .intro σ' G Zq;obtain⟨v,nn,l,a,b,rfl,kG,j,hv,hnn,g,hel,hws⟩:=Zq;refine hN _ _ ?_;clear hN N;walk_at"rd";obtain⟨kw1,hw1,_⟩:=j.dW;have nem:ev≠m:=Ne.symm (j.ins.ne g nofun);refine⟨.inl ⟨rfl,_,VZ.of g⟩,j.ins.mt rfl,m,dr,df,dw,v,t,nn,rfl,j,hv,fun l3 G3 hl3 k3 hR3 e3=>?_⟩;have r:=k3 _ _ g nem;have hlen:(JQ ms).length=ms.length:=List.length_map ..;rw[hlen]at hel;refine⟨l3,rfl,l,r,[],e3,Yu (show _ <=1001 by rw[List.length_nil];omega) (Wi (n:=1001) (by decide)),fun G4 b4 e5=>?_⟩;rw[List.append_nil]at e5;obtain⟨kw3,hw3,hkw3⟩:=hR3.dW;have kk:∀c o,G2 c=some o->c≠m->c≠dr->c≠df->c≠dw->c≠ev->G4 c=some o:=fun c o h a1 a2 a3 a4 a5=>by
    rw[eKG]at kG;exact b4 _ _ (k3 _ _ (kG c o h a1 a2 a3 a4 a5) a1) a5
   have hm2:=y hm im nofun;have hw2:=y hw nofun nofun;have gn:∀{a b:VI} {o o':HO},G2 a=some o->G2 b=some o'->o≠o'->a≠b:=fun h1 h2 n z=>by rw[z,h2]at h1;exact n (Yo h1.symm)
   refine q ev lc' l G4 hev (fun c o h a1 a2 a3 a4 a5 a6=>kk c o (k2 c o (s1 _ _ h) a1 a2) a3 a4 a5 a6 (nev h)) ?_ ?_ e5 (by rw[hel,hms.pm.length_eq]) fun x hx=>?_
   .refine tb2.of fun a o h k=>kk a o h (fun z=>?_) (fun z=>?_) (fun z=>?_) (fun z=>?_) (fun z=>?_)
    .rw[z,hm2]at h;cases h;rcases k with⟨_,k⟩|⟨_,k⟩ <;> cases k
    .rw[z,hR2.dR]at h;cases h;rcases k with⟨_,k⟩|⟨_,k⟩ <;> cases k
    .rw[z,hR2.dF]at h;cases h;rcases k with⟨_,k⟩|⟨_,k⟩ <;> cases k
    .rw[z,hw2]at h;cases h;rcases k with⟨_,k⟩|⟨_,k⟩ <;> cases k
    .rw[z,ev2]at h;cases h;rcases k with⟨_,k⟩|⟨_,k⟩ <;> cases k
   .refine hU2.kpM ev2 n1 n2 n3 (fun c o h a1 a2 a3=>kk c o h (fun z=>?_) (fun z=>?_) (fun z=>?_) (fun z=>?_) a1) (Ne.symm (WJ e1 hlc')) (fun c hc=>nev (hU.th c (Xm.mp hc).1).pi.bd) fun e he=>⟨nev (hU.rd e he).hw,nev (hU.rd e he).hl⟩
    .rw[z,hm2]at h;cases h;exact a2 _ _ rfl
    .rw[z,hR2.dR]at h;cases h;exact a3 _ rfl
    .rw[z,hR2.dF]at h;cases h;exact a3 _ rfl
    .rw[z,hw2]at h;cases h;exact a3 _ rfl
   .obtain⟨t1,p1,r1,r2⟩:=hws x hx;exact⟨t1,p1,r1,b4 _ _ (k3 _ _ r2 (Ne.symm (j.ins.ne r2 nofun))) (VS r2 g nofun)⟩
inductive Fl(K:VG)(vs:List V)(H:Hp)(Q:VK)(E:XK):Prop|mk (a:VI) (ns:VJ) (k:Nat) (_:vs=[.ref a,.int (k:Int)]) (_:VZ K H a (ns.map V.int)) (_:∀c,Q (.int c) H)
abbrev HH:Stmt:=WW 68
theorem Zc:WQ ["_law_script","_law_k"] ["_law_script","_law_k"] (VO HH):=by walk_at"e"
theorem v8{f:VI}{fd:VD}(F:WX K "_law_cell_at" "_law_cell_at" HH f fd)(B:Bt mg):VW P w K mg base WK 1 f fd ["_law_script","_law_k"] (Fl K):=by
 refine F.ok Zc (fun vs H Q E h=>?_) (fun g A outer s H vs Q E i h=>?_)
 .obtain⟨a,b,k,rfl,_⟩:=h;rfl
 .obtain⟨a,b,k,rfl,c,q⟩:=h;refine⟨_,(W1 (Jj (N8 (Jp EF) (VQ 1) (N3 (Gu (DA (K:=K) rfl)) B.len (Wb 0 VT))) (Wc (WL (Q5 K (VQ 0) (VQ 1)))) Jw) (Wc (WL W3))),?_⟩;walk_at"rd";refine⟨_,.inl c,GN (fun d=>?_) (fun d=>q 0)⟩;rw[Yy,List.length_map]at d;have e:k < b.length:=by lia
  exact⟨_,c,.int b[k],CI (by rw[Yk,Y7 e];rfl),q _⟩
structure PM(K:PySem.W.Frag)(mg:Vx)(W:VI)(cs:List Addr):Prop where
 way:mg "WayError"=some (.ref W)
 wc:L8 K W
 len:cs.length=11
 m0:∀c,cs[0]?=some c->mg "NoKey"=some (.ref c)
 m1:∀c,cs[1]?=some c->mg "NoLetter"=some (.ref c)
 m2:∀c,cs[2]?=some c->mg "NoPiece"=some (.ref c)
 m3:∀c,cs[3]?=some c->mg "NoRoom"=some (.ref c)
 m4:∀c,cs[4]?=some c->mg "NoRow"=some (.ref c)
 m5:∀c,cs[5]?=some c->mg "NoRule"=some (.ref c)
 m6:∀c,cs[6]?=some c->mg "NoText"=some (.ref c)
 m7:∀c,cs[7]?=some c->mg "NoTime"=some (.ref c)
 m8:∀c,cs[8]?=some c->mg "NoWidth"=some (.ref c)
 m9:∀c,cs[9]?=some c->mg "TooWide"=some (.ref c)
 m10:∀c,cs[10]?=some c->mg "NoRoad"=some (.ref c)
def TB:List Str:=["key","letter","piece","room","row","rule","text","time","width","wide","road"]
def Mc(K:PySem.W.Frag)(W:VI)(cs:List Addr)(C:VI)(wd:Str):Prop:=∃i,RG K W cs C i/\TB[i]?=some wd
inductive JZ(P:VB)(w:VF)(K:PySem.W.Frag)(mg:Vx)(base:VM)(kA:Nat)(W:VI)(cs:List Addr)(vs:List V)(H:Hp)(Q:VK)(E:XK):Prop|mk (f o fd E1:_) (_:vs=[.ref f]) (_:H f=some (.frz o HT)) (_:o.data= .func fd) (_:TC P w K mg base kA f H (fun _ _=>False) E1) (_:∀C H',E1 (.ref C) none H'->∃wd,Mc K W cs C wd/\∀G,VP H' G->Q (.str wd) G)
theorem A4{kA:Nat}{W:VI}{cs:List Addr}:∀f o fd H Q E1,H f=some (.frz o HT)->o.data= .func fd->TC P w K mg base kA f H (fun _ _=>False) E1->(∀C H',E1 (.ref C) none H'->∃wd,Mc K W cs C wd/\∀G,VP H' G->Q (.str wd) G)->JZ P w K mg base kA W cs [.ref f] H Q E0:=
 fun f o fd H Q E1 h1 h2 b a=>⟨f,o,fd,E1,rfl,h1,h2,b,a⟩
abbrev AB:Stmt:=WW 71
theorem Gs:WQ ["_law_deed","_law_error","_law_kinds","_law_words","_law_found","e"] ["_law_deed"] (VO AB):=by walk_at"e"
theorem Bk{f W:VI}{cs:List Addr}{fd:VD}(F:WX K "_law_sort" "_law_sort" AB f fd)(B:Bt mg)(B3:Cr mg)(B5:OO mg)(R:PM K mg W cs):VW P w K mg base WK 15 f fd ["_law_deed"] (JZ P w K mg base 14 W cs):=by
 refine F.ok Gs (fun vs H Q E h=>?_) (fun cdv A outer s H vs Q E hr h=>?_)
 .obtain⟨f,o,fd,E1,rfl,_⟩:=h;rfl
 .obtain⟨f,o,fd,E1,rfl,hf,hd,ask,hq⟩:=h;have q:=R.way;have ac:=R.wc;obtain⟨CNoKey,aj,CNoPiece,CNoRoom,CNoRow,CNoRule,CNoText,CNoTime,CNoWidth,CTooWide,CNoRoad,rfl⟩:∃a b c d e f g h i j k,cs=[a,b,c,d,e,f,g,h,i,j,k]:=by
   have:=R.len
   match cs,this with
   |[a,b,c,d,e,f,g,h,i,j,k],_=>exact⟨a,b,c,d,e,f,g,h,i,j,k,rfl⟩
  have gC_NoKey:=R.m0 _ rfl;have r:=R.m1 _ rfl;have ab:=R.m2 _ rfl;have ag:=R.m3 _ rfl;have gC_NoRow:=R.m4 _ rfl;have af:=R.m5 _ rfl;have ae:=R.m6 _ rfl;have ad:=R.m7 _ rfl;have aa:=R.m8 _ rfl;have y:=R.m9 _ rfl;have ah:=R.m10 _ rfl;refine⟨_,(@W1 _ _ _ _ _ (@T5 _ _ 1 _ _ _ _ (Gs).nd rfl (Or.inl rfl) (@Tk _ _ _) (by rfl) (Or.inl rfl)) (@W1 _ _ _ _ _ (SW (k:=14) (i:=0) (j:=5) rfl rfl (hr.mono (by decide)) (Gs).nd rfl (Or.inl rfl) rfl rfl rfl q ac (fun _=>(@Wc _ _ _ (@T5 _ _ 1 _ _ _ _ (Gs).nd rfl (Or.inl rfl) (pv 5) (by rfl) (Or.inl rfl))))) (@W1 _ _ _ _ _ (@T5 _ _ 2 _ _ _ _ (Gs).nd rfl (Or.inl rfl) (@WO _ _ _ _ (@VR _ _ _ _ _ (D8 (Dr (K:=K) rfl) rfl B.isinstance (by rfl) (@VR _ _ _ _ _ (pv 1) (@VR _ _ _ _ _ (M3 (v:=.ref CNoKey) rfl gC_NoKey rfl) VT Wq) Wq)) (@VR _ _ _ _ _ (D8 (Dr (K:=K) rfl) rfl B.isinstance (by rfl) (@VR _ _ _ _ _ (pv 1) (@VR _ _ _ _ _ (M3 (v:=.ref aj) rfl r rfl) VT Wq) Wq)) (@VR _ _ _ _ _ (D8 (Dr (K:=K) rfl) rfl B.isinstance (by rfl) (@VR _ _ _ _ _ (pv 1) (@VR _ _ _ _ _ (M3 (v:=.ref CNoPiece) rfl ab rfl) VT Wq) Wq)) VT M7) M7) M7)) (by rfl) (Or.inl rfl)) (@W1 _ _ _ _ _ (@T5 _ _ 2 _ _ _ _ (Gs).nd rfl (Or.inl rfl) (@J0 _ _ _ _ _ _ _ _ BF (pv 2) (@WO _ _ _ _ (@VR _ _ _ _ _ (D8 (Dr (K:=K) rfl) rfl B.isinstance (by rfl) (@VR _ _ _ _ _ (pv 1) (@VR _ _ _ _ _ (M3 (v:=.ref CNoRoom) rfl ag rfl) VT Wq) Wq)) (@VR _ _ _ _ _ (D8 (Dr (K:=K) rfl) rfl B.isinstance (by rfl) (@VR _ _ _ _ _ (pv 1) (@VR _ _ _ _ _ (M3 (v:=.ref CNoRow) rfl gC_NoRow rfl) VT Wq) Wq)) (@VR _ _ _ _ _ (D8 (Dr (K:=K) rfl) rfl B.isinstance (by rfl) (@VR _ _ _ _ _ (pv 1) (@VR _ _ _ _ _ (M3 (v:=.ref CNoRule) rfl af rfl) VT Wq) Wq)) VT M7) M7) M7))) (by rfl) (Or.inl rfl)) (@W1 _ _ _ _ _ (@T5 _ _ 2 _ _ _ _ (Gs).nd rfl (Or.inl rfl) (@J0 _ _ _ _ _ _ _ _ BF (pv 2) (@WO _ _ _ _ (@VR _ _ _ _ _ (D8 (Dr (K:=K) rfl) rfl B.isinstance (by rfl) (@VR _ _ _ _ _ (pv 1) (@VR _ _ _ _ _ (M3 (v:=.ref CNoText) rfl ae rfl) VT Wq) Wq)) (@VR _ _ _ _ _ (D8 (Dr (K:=K) rfl) rfl B.isinstance (by rfl) (@VR _ _ _ _ _ (pv 1) (@VR _ _ _ _ _ (M3 (v:=.ref CNoTime) rfl ad rfl) VT Wq) Wq)) (@VR _ _ _ _ _ (D8 (Dr (K:=K) rfl) rfl B.isinstance (by rfl) (@VR _ _ _ _ _ (pv 1) (@VR _ _ _ _ _ (M3 (v:=.ref CNoWidth) rfl aa rfl) VT Wq) Wq)) VT M7) M7) M7))) (by rfl) (Or.inl rfl)) (@W1 _ _ _ _ _ (@T5 _ _ 2 _ _ _ _ (Gs).nd rfl (Or.inl rfl) (@J0 _ _ _ _ _ _ _ _ BF (pv 2) (@WO _ _ _ _ (@VR _ _ _ _ _ (D8 (Dr (K:=K) rfl) rfl B.isinstance (by rfl) (@VR _ _ _ _ _ (pv 1) (@VR _ _ _ _ _ (M3 (v:=.ref CTooWide) rfl y rfl) VT Wq) Wq)) (@VR _ _ _ _ _ (D8 (Dr (K:=K) rfl) rfl B.isinstance (by rfl) (@VR _ _ _ _ _ (pv 1) (@VR _ _ _ _ _ (M3 (v:=.ref CNoRoad) rfl ah rfl) VT Wq) Wq)) VT M7) M7))) (by rfl) (Or.inl rfl)) (@W1 _ _ _ _ _ (@T5 _ _ 3 _ _ _ _ (Gs).nd rfl (Or.inl rfl) (@WO _ _ _ _ (@VR _ _ _ _ _ (@Wm _ _ _ _) (@VR _ _ _ _ _ (@Wm _ _ _ _) (@VR _ _ _ _ _ (@Wm _ _ _ _) (@VR _ _ _ _ _ (@Wm _ _ _ _) (@VR _ _ _ _ _ (@Wm _ _ _ _) (@VR _ _ _ _ _ (@Wm _ _ _ _) (@VR _ _ _ _ _ (@Wm _ _ _ _) (@VR _ _ _ _ _ (@Wm _ _ _ _) (@VR _ _ _ _ _ (@Wm _ _ _ _) (@VR _ _ _ _ _ (@Wm _ _ _ _) (@VR _ _ _ _ _ (@Wm _ _ _ _) VT W7) W7) W7) W7) W7) W7) W7) W7) W7) W7) W7)) (by rfl) (Or.inl rfl)) (@W1 _ _ _ _ _ (AA (i:=4) (N':=["_law_kind","_law_word"]) (caps:=[none,none]) (Me (sc:=VO AB) (N:=["_law_deed","_law_error","_law_kinds","_law_words","_law_found","e"]) rfl rfl (by decide +kernel)) rfl (Gs).nd rfl (Or.inl rfl) (mW (K:=K) rfl rfl B3.zip (@VR _ _ _ _ _ (pv 2) (@VR _ _ _ _ _ (pv 3) VT Wq) Wq)) (fun _ _ _ _ _=>(DZ (K:=K) (n:=2) rfl rfl (TJ (Tg (i:=0) (TH (N:=["_law_kind","_law_word"]) rfl (by decide +kernel)) rfl (Or.inl rfl)) (TJ (Tg (i:=1) (TH (N:=["_law_kind","_law_word"]) rfl (by decide +kernel)) rfl (Or.inl rfl)) Ge)))) (fun _ _ _ _ _=>(As (Kq (pv 0)))) (fun _ _ _ _ _=>(pv 1)) rfl) (@W1 _ _ _ _ _ (Jj (KQ Br (pv 1) (@Tk _ _ _) (TV _)) (@Wc _ _ _ (@WL _ _ _ _ (@Wm _ _ _ _))) Jw) (@W1 _ _ _ _ _ (Jj (PW.pt (Mf (KQ DP (D8 (DA (K:=K) rfl) rfl B.len (by rfl) (@VR _ _ _ _ _ (pv 4) VT Wq)) (@W3 _ _ _ _) (TV _)) (Mr (Nq (Kq (D8 (Dr (K:=K) rfl) rfl B.isinstance (by rfl) (@VR _ _ _ _ _ (pv 1) (@VR _ _ _ _ _ (Dv (v:=.ty "ValueError") rfl B5.ValueError (by rfl) rfl) VT Wq) Wq))))))) (@Wc _ _ _ (@WL _ _ _ _ (@Wm _ _ _ _))) Jw) (@Wc _ _ _ (@WL _ _ _ _ (@Mi _ _ _ _ _ _ _ (Gh (K:=K) rfl) (pv 4) (@W3 _ _ _ _) (fun _ _=>rfl)))))))))))))),?_⟩;refine We fun N l=>?_
  walk_at"rd";refine l _ _ ?_;clear l N;refine We fun N l=>?_
  walk_at"rd";refine⟨o,HT,hf,fd,hd,E1,ask.mono (fun _ _ z=>z.elim) (fun _ _ z=>z),fun C H' hE=>?_⟩;obtain⟨wd,⟨i,p,hw⟩,hQ⟩:=hq C H' hE;refine⟨p.w,fun e G he sG hGe=>l _ _ ?_⟩;clear l N;have ty:∀G',VP G G'->A8 K G' (.ref e) (.ref C):=fun G' s'=>.exc (s' _ _ hGe) p.e
  have ty0:=ty G (VP.refl G);have k0:=p.k 0 _ rfl;have k1:=p.k 1 _ rfl;have k2:=p.k 2 _ rfl;have k3:=p.k 3 _ rfl;have k4:=p.k 4 _ rfl;have k5:=p.k 5 _ rfl;have k6:=p.k 6 _ rfl;have k7:=p.k 7 _ rfl;have k8:=p.k 8 _ rfl;have k9:=p.k 9 _ rfl;have k10:=p.k 10 _ rfl;refine We fun N l=>?_
  walk_at"rd";refine⟨_,ty0,rfl,_,k0,_,ty0,rfl,_,k1,_,ty0,rfl,_,k2,Wi (by simp),fun p1 G1 hp1 s1 g1=>l _ _ ?_⟩;clear l N;have ty1:=ty G1 s1;refine We fun N l=>?_
  walk_at"rd";refine⟨_,ty1,rfl,_,k3,_,ty1,rfl,_,k4,_,ty1,rfl,_,k5,Wi (by simp),fun p2 G2 hp2 s2 g2=>?_⟩;refine⟨_,s2 _ _ g1,_,g2,Wi (by simp),fun p3 G3 hp3 s3 g3=>l _ _ ?_⟩;clear l N;have ty3:=ty G3 ((s1.trans s2).trans s3);refine We fun N l=>?_
  walk_at"rd";refine⟨_,ty3,rfl,_,k6,_,ty3,rfl,_,k7,_,ty3,rfl,_,k8,Wi (by simp),fun p4 G4 hp4 s4 g4=>?_⟩;refine⟨_,s4 _ _ g3,_,g4,Wi (by simp),fun p5 G5 hp5 s5 g5=>l _ _ ?_⟩;clear l N;have ty5:=ty G5 ((((s1.trans s2).trans s3).trans s4).trans s5);refine We fun N l=>?_
  walk_at"rd";refine⟨_,ty5,rfl,_,k9,_,ty5,rfl,_,k10,Wi (by simp),fun p6 G6 hp6 s6 g6=>?_⟩;refine⟨_,s6 _ _ g5,_,g6,Wi (by simp),fun p7 G7 hp7 s7 g7=>l _ _ ?_⟩;clear l N;have sG7:=(((((s1.trans s2).trans s3).trans s4).trans s5).trans s6).trans s7;refine We fun N l=>?_
  walk_at"rd";refine⟨Wi (by simp),fun p8 G8 hp8 s8 g8=>l _ _ ?_⟩;clear l N;have g7':=s8 _ _ g7;have sG8:=sG7.trans s8;refine We fun N l=>?_
  walk_at"rd";have g7k:G8 p7=some (.lst ((List.range 11).map fun j=>V.bl (decide (j=i)))):=g7';have g8k:G8 p8=some (.lst (TB.map V.str)):=g8;have hi:i < 11:=(Y5.mp hw).1;refine⟨⟨_,VZ.of g7k⟩,⟨_,VZ.of g8k⟩,?_⟩;obtain⟨Pv,ai⟩:∃Pv:Nat->List V->L2.St->Hp->Prop,Pv=fun n ys σ' H1=>VP G8 H1/\ys=(if i < n then [V.str wd] else [])/\∃v u,σ'=[v,u]:=⟨_,rfl⟩
  refine wI (xs:=(List.range 11).map fun j=>V.bl (decide (j=i))) (zs:=TB.map V.str) (by rw[List.length_map,List.length_map];rfl) Pv (by rw[ai];exact⟨VP.refl _,by simp,_,_,rfl⟩) ?_ (Wi (by rw[List.length_map];decide)) ?_ ?_ <;> rw[ai]
  .rintro n ys σ' H1 ⟨sx,rfl,_⟩ _;refine⟨VZ.of (sx _ _ g7k),VZ.of (sx _ _ g8k),?_⟩
   by_cases h:i < n
   .rw[Y9 h];simp;omega
   .rw[Y2 h];simp
  .rintro n x z t ys σ' H1 H2 hx hz ⟨sx,rfl,v,u,rfl⟩ ht st gt;rw[<-ai];walk_at"rd";rw[Yk]at hx hz;obtain⟨j,hj,rfl⟩:=YA.mp hx;have ej:j=n:=by
    have:=(Y5.mp hj).2;simpa using this.symm
   rw[ej]at gt;obtain⟨zw,hzw,rfl⟩:=YA.mp hz;refine⟨_,JN.of gt,rfl,_,_,rfl,_,_,rfl,rfl,_,rfl,?_⟩
   by_cases h:n=i
   .subst h;rw[hw]at hzw;cases hzw;rw[Y9 (by simp),ai];exact⟨sx.trans st,by rw[Y2 (YM _),Y9 (Xy _)];rfl,_,_,rfl⟩
   .rw[Y2 (by simp[h]),ai];refine⟨sx.trans st,?_,_,_,rfl⟩
    by_cases h2:i < n
    .rw[Y9 h2,Y9 (Xf h2)]
    .rw[Y2 h2,Y2 (by omega)]
  .rintro ys σ' H1 ⟨sx,rfl,_⟩ p9 G9 hp9 s9 g9;refine l _ _ ?_;clear l N;rw[Y9 (show i < (((List.range 11).map fun j=>V.bl (decide (j=i))).length) by rw[List.length_map,Ug];exact hi)]at g9;have s9:=sx.trans s9;refine We fun N l=>?_
   walk_at"rd";rw[Y2 (by decide)];refine l _ _ ?_;clear l N;refine We fun N l=>?_
   walk_at"rd";have ty9:=ty G9 (sG8.trans s9);refine⟨_,.inl (VZ.of g9),rfl,?_⟩;rw[Y2 (by simp)];refine⟨_,ty9,rfl,_,p.v,?_⟩;rw[Y2 (by decide)];refine l _ _ ?_;clear l N;walk_at"rd";refine⟨_,VZ.of g9,V.str wd,CI (j:=0) rfl,hQ _ (sG.trans (sG8.trans s9))⟩
end
section
theorem Rj{xs:List V}{d:Int}(h0:0 <=d)(h1:d < xs.length):∃x,GS xs d=some x/\x∈xs:=by
 obtain⟨n,rfl⟩:=Int.eq_ofNat_of_zero_le h0;have a:n < xs.length:=by omega
 exact⟨xs[n],CI (Y7 a),V1 a⟩
section
variable{K:VG}
theorem EV{CP:VI}{n:String}(X:KX K CP)(h:n="NoneType"\/n="int"\/n="str"\/n="list"\/n="tuple"):W.kitOne K (.type n) (.ref CP)=some false:=by
 have b:(W.clsIn K CP).isSome=true:=by
  have a:=X.ic.hm;unfold W.mroIn at a;cases hq:W.clsIn K CP with
  |none=>rw[hq]at a;cases a
  |some cd=>rfl
 unfold W.kitOne;rw[Y2 (by simp)];show(if((W.clsIn K CP).isSome && W.typeIn K (.ref CP)==some (.type "type"))=true then W.subIn K (.type n) (.ref CP) else none)=some false;rw[b,X.ty,Y9 (by decide)];rcases h with rfl|rfl|rfl|rfl|rfl <;> rfl
def Mb(H:Hp)(y:V):Prop:=y= .non\/(∃n,y= .int n)\/(∃z,y= .str z)\/(∃a xs,y= .ref a/\H a=some (.lst xs))\/∃a xs,y= .ref a/\H a=some (.tup xs)
theorem Mb.kp{H G:Hp}{y:V}(h:Mb H y)(k:∀c o,H c=some o->(∀ps,o≠ .tbl ps)->G c=some o):Mb G y:=by
 rcases h with h|h|h|⟨a,xs,h,e⟩|⟨a,xs,h,e⟩
 .exact .inl h
 .exact .inr (.inl h)
 .exact .inr (.inr (.inl h))
 .exact .inr (.inr (.inr (.inl ⟨a,xs,h,k _ _ e nofun⟩)))
 .exact .inr (.inr (.inr (.inr ⟨a,xs,h,k _ _ e nofun⟩)))
theorem Mb.ty{H:Hp}{y:V}{CP:VI}(h:Mb H y)(X:KX K CP):∃t,JW K H y t/\W.kitOne K t (.ref CP)=some false:=by
 rcases h with rfl|⟨n,rfl⟩|⟨z,rfl⟩|⟨a,xs,rfl,e⟩|⟨a,xs,rfl,e⟩
 .exact⟨_,.non,EV X (.inl rfl)⟩
 .exact⟨_,.int n,EV X (.inr (.inl rfl))⟩
 .exact⟨_,.str z,EV X (.inr (.inr (.inl rfl)))⟩
 .exact⟨_,.lst e,EV X (.inr (.inr (.inr (.inl rfl))))⟩
 .exact⟨_,.tup e,EV X (.inr (.inr (.inr (.inr rfl))))⟩
end
structure Sv(T:VI)(q:Str)(H G:Hp):Prop where
 kq:∀b o,H b=some o->b≠T->G b=some o
 tb:Ji G T q
section
variable{T l:VI}{q:Str}{H G J:Hp}{xs:List V}
theorem Sv.tab(m:Sv T q H G)(bT:WP T G J)(tJ:Ji J T q):Sv T q H J:=⟨fun b o e n=>bT b o (m.kq b o e n) n,tJ⟩
theorem Sv.same(m:Sv T q H G)(s:VP G J):Sv T q H J:=⟨fun b o e n=>s b o (m.kq b o e n),m.tb.same s⟩
theorem Sv.app(m:Sv T q H G)(h:H l=none)(hl:G l=some (.lst xs))(bA:WP l G J):Sv T q H J:=⟨fun b o e n=>bA b o (m.kq b o e n) (fun z=>by subst z;rw[h]at e;cases e),m.tb.but bA hl⟩
theorem Sv.kt(m:Sv T q H G)(t:Ji H T q):∀c o,H c=some o->(∀ps,o≠ .tbl ps)->G c=some o:=fun c o h n=>m.kq c o h (Jx t h n)
theorem Sv.new(m:Sv T q H G)(h:G l=none):H l=none:=by
 cases e:H l with
 |none=>rfl
 |some o=>
  by_cases z:l=T
  .subst z;obtain⟨ps,h',_⟩:=m.tb;rw[h]at h';cases h'
  .rw[m.kq _ _ e z]at h;cases h
def KF(G Z:Hp):Prop:=∀b o,G b=some o->(∀ps,o≠ .tbl ps)->(∀ys,o≠ .lst ys)->Z b=some o
theorem KF.trans(x:KF G H)(y:KF H J):KF G J:=fun b o e c a=>y b o (x b o e c a) c a
theorem RZ(s:VP G J):KF G J:=fun b o e _ _=>s b o e
theorem D3(t:Ji G T q)(b:WP T G J):KF G J:=fun c o e n _=>b c o e (Jx t e n)
theorem NU(hl:G l=some (.lst xs))(b:WP l G J):KF G J:=fun c o e _ n=>b c o e fun z=>by subst z;rw[hl]at e;cases e;exact n _ rfl
theorem MV{p:VI}(t:Ji G T q)(b:WP T G J)(h:G p=some (.lst xs)):J p=some (.lst xs):=b _ _ h (Jx t h nofun)
end
section
variable{X:Cx}{lq:Str}{pa:Arguments}{bo:VN}{sc:Scope}{f:VI}{H G:Hp}
theorem Tr(v:Nc X lq pa bo sc H f)(k:KF H G):Nc X lq pa bo sc G f:=v.of fun b a e=>k _ _ e nofun nofun
theorem Tc(v:Nc X lq pa bo sc H f)(s:VP H G):Nc X lq pa bo sc G f:=v.of fun b a e=>s _ _ e
end
def RF(H G:Hp):Prop:=∀c o,H c=some o->(M0 o).isSome=true->G c=some o
section
variable{H G:Hp}{x:V}
theorem Sv.kps{T:VI}{q:Str}(m:Sv T q H G)(t:Ji H T q):RF H G:=fun c o e k=>m.kt t c o e fun ps z=>by rw[z]at k;cases k
theorem Es(k:RF H G){a:VI}(h:∃n,WY H (.ref a)=some n):G a=H a:=by
 obtain⟨n,b⟩:=h;have b:(H a).bind M0=some n:=b;cases e:H a with
 |none=>rw[e]at b;cases b
 |some o=>
  rw[e]at b;have b:M0 o=some n:=b;exact k a o e (by rw[b];rfl)
theorem E2(k:RF H G)(h:∃n,WY H x=some n):∃n,WY G x=some n:=by
 cases x with
 |ref a=>
  obtain⟨n,b⟩:=h;refine⟨n,?_⟩;show(G a).bind M0=some n;rw[Es k ⟨n,b⟩];exact b
 |_=>exact h
theorem OW(k:RF H G)(t:∃n,WY H x=some n)(h:WH H x):WH G x:=by
 intro a xs e b;subst e;rw[Es k t]at b;exact(h a xs rfl b).imp id fun h2 y c=>E2 k (h2 y c)
theorem xT(k:RF H G)(t:∃n,WY H x=some n):Tj G x=Tj H x:=by
 cases x with
 |ref a=>
  show(match G a with|some (.lst xs)=>decide (1 <=xs.length) && decide (xs.length <=20) && xs.all (fun y=>N1 y 8 5000)|_=>false)=(match H a with|some (.lst xs)=>decide (1 <=xs.length) && decide (xs.length <=20) && xs.all (fun y=>N1 y 8 5000)|_=>false);rw[Es k t]
 |_=>rfl
theorem Zr(k:RF H G)(t:∃n,WY H x=some n):Tw G x=Tw H x:=by
 cases x with
 |ref a=>
  show(match G a with|some (.lst xs)=>xs.all (fun y=>NC y 0)|_=>false)=(match H a with|some (.lst xs)=>xs.all (fun y=>NC y 0)|_=>false);rw[Es k t]
 |_=>rfl
end
end
section
variable{K:VG}
theorem Oh{H:Hp}:∀xs:List Str,Nb K H (xs.map V.str) (xs.map PyData.str)
 |[]=>.nil
 |x::r=>.cons (.str x) (Oh r)
theorem Gw{H:Hp}{b:VI}{xs:List Str}(h:H b=some (.lst (xs.map V.str))):Dp K H (.ref b) (.list (xs.map PyData.str)):=.lst (VZ.of h) (Oh xs)
theorem Gx{xs:List Str}(h:∀x∈xs,JC x):SeqAt.shaped (.list (xs.map PyData.str))=true:=by
 have h1:∀c:List Str,(∀x∈c,JC x)->PyData.canLayAll0 (c.map PyData.str)=true:=fun c=>by
  induction c with
  |nil=>intro _;rfl
  |cons x r ih=>
   intro a;rw[List.map_cons,PyData.canLayAll0,ih fun y b=>a y (Ya _ b),Bool.and_true];simp[PyData.canLay0,(a x Yq).ok]
 have h2:∀c:List Str,PyData.depthAll (c.map PyData.str)=0:=fun c=>by
  induction c with
  |nil=>rfl
  |cons x r ih=>rw[List.map_cons,PyData.depthAll,ih];rfl
 simp[SeqAt.shaped,PyData.canLay0,PyData.depth,h1 xs h,h2 xs]
theorem Bl(xs:List Str):PyData.eqv (.list (xs.map PyData.str)) (.list (xs.map PyData.str))=true:=by
 show PyData.eqvAll _ _=true
 induction xs with
 |nil=>rfl
 |cons x r ih=>
  rw[List.map_cons,PyData.eqvAll,ih];simp[PyData.eqv]
theorem Sn{a b:List Str}(h:a.Perm b)(h1:a.Pairwise fun x y=>MD y x=false)(h2:b.Pairwise fun x y=>MD y x=false):a=b:=
 List.Perm.eq_of_pairwise (le:=fun x y=>MD y x=false) (fun x y _ _ p q=>Qw q p) h1 h2 h
theorem EA:JC "road":=⟨by decide +kernel,by decide +kernel,by decide +kernel⟩
theorem Bg:JC "a":=⟨by decide +kernel,by decide +kernel,by decide +kernel⟩
end
section
variable{P:VB}{w:VF}{K:VG}{mg:Vx}{base:VM}
abbrev Wl:Str:=(("_law_no_road":Str)++(".<locals>.":Str))++("<lambda>":Str)
structure Dg(H:Hp)(x:V):Prop where
 ty:∃n,WY H x=some n
 pl:WH H x
 no:Tj H x=false
structure Dl(H:Hp)(x:V):Prop where
 ty:∃n,WY H x=some n
 pl:WH H x
 no:Tw H x=false
structure Di(H:Hp)(ms:List Str)(x:V):Prop where
 ty:∃n,WY H x=some n
 le:∀z,x= .str z->z.length <=100000
 no:N5 x=false\/Td ms x=true
def Ee:V->Bool
 | .non=>true
 | .bl _=>true
 | .int _=>true
 | .str _=>true
 |_=>false
theorem BS{H:Hp}{x:V}(h:Ee x=true):∃n,WY H x=some n:=by
 cases x <;> first
  |exact⟨_,rfl⟩
  |cases h
theorem EU{G:Hp}{p:VI}{xs:List V}(h:G p=some (.lst xs))(a:xs.all Ee=true)(l:xs.length <=1000):WH G (.ref p):=fun b ys e c=>by
 cases e;rw[h]at c;cases c;exact⟨by omega,fun y d=>BS (YK.mp a y d)⟩
theorem E9{G:Hp}{p:VI}{xs:List V}(h:G p=some (.lst xs))(a:xs.all Ee=true)(l:xs.length <=1000)(e:(decide (1 <=xs.length) && decide (xs.length <=20) && xs.all (fun y=>N1 y 8 5000))=false):Dg G (.ref p):=
 ⟨⟨_,Ww h⟩,EU h a l,by rw[CK h];exact e⟩
theorem Kv{G:Hp}{p:VI}{xs:List V}(h:G p=some (.lst xs))(a:xs.all Ee=true)(l:xs.length <=1000)(e:xs.all (fun y=>NC y 0)=false):Dl G (.ref p):=
 ⟨⟨_,Ww h⟩,EU h a l,by rw[AE h];exact e⟩
theorem Dg.mono{G H:Hp}{x:V}(h:Dg G x)(s:VP G H):Dg H x:=⟨h.ty.imp fun _ e=>TN s e,h.pl.mono s h.ty,by rw[Qa s h.ty];exact h.no⟩
theorem Dl.mono{G H:Hp}{x:V}(h:Dl G x)(s:VP G H):Dl H x:=⟨h.ty.imp fun _ e=>TN s e,h.pl.mono s h.ty,by rw[Lp s h.ty];exact h.no⟩
theorem Di.mono{G H:Hp}{ms:List Str}{x:V}(h:Di G ms x)(s:VP G H):Di H ms x:=⟨h.ty.imp fun _ e=>TN s e,h.le,h.no⟩
theorem B4 {G : Hp} {ms : List Str} {z : Str} (h1 : z.length <= 1000) (h2 : (!N5 (.str z) || decide (z ∈ ms)) = true) : Di G ms (.str z) := ⟨⟨_, rfl⟩, fun y e => by cases e; omega, by
 unfold Td;cases h:N5 (.str z) with
 |false=>exact .inl rfl
 |true=>
  rw [h] at h2;exact .inr (by simpa using h2)⟩
inductive FW(C CRo CP T:VI)(vs:List V)(H:Hp)(Q:VK)(E:XK):Prop|mk (p db dc lc:VI) (U:NE) (c:Int) (_:vs=[.ref p,.int c]) (_:W6 C CRo CP H p db dc lc U) (_:U.rs.map (·.nm)=[("a":Str),"road"]) (_:Ji H T Wl) (_:∀G,Sv T Wl H G->Q (.bl true) G)
abbrev MI:Stmt:=WW 72
theorem RH:WQ ["_law_post","_law_cell","_law_widths","_law_delay","_law_lost","_law_name","_law_good","_law_some"] ["_law_post","_law_cell"] (VO MI):=by walk_at"e"
theorem gS{f c T C CRo CP CW NR:VI}{cs:List Addr}{fd:VD}(F:Nw K "_law_no_road" "_law_no_road" MI f fd (.ref c))(LC:JG mg base c T)(KN:Mc K CW cs NR "road")(RX:KX K CRo)(JL:JA P w K mg base "_law_sort" 15 ["_law_deed"] [] (JZ P w K mg base 14 CW cs))
  (M6:RY P w K mg base "Road" 5 (Eb CRo NR)) (No:RY P w K mg base "Road" 5 (Hh CRo NR)) (Wv:MW P w K mg base C "build" 2 ["self","name","road"] [] (C3 K C CRo CP NR)):VW P w K mg base WK 16 f fd ["_law_post","_law_cell"] (FW C CRo CP T):=by
 have hsp_refusal:=A4 (P:=P) (w:=w) (K:=K) (mg:=mg) (base:=base) (kA:=14) (W:=CW) (cs:=cs);refine F.ok RH (fun vs H Q E h=>?_) (fun A outer s H vs Q E hr h=>?_)
 .obtain⟨p,db,dc,lc,U,c,rfl,_⟩:=h;rfl
 .obtain⟨p,db,dc,lc,U,c,rfl,hU,hms,tb,q⟩:=h;refine⟨_,(@W1 _ _ _ _ _ (@T5 _ _ 2 _ _ _ _ (RH).nd rfl (Or.inr rfl) (@Mi _ _ _ _ _ _ _ (GR (Gh (K:=K) rfl)) (@WO _ _ _ _ (@VR _ _ _ _ _ (@WO _ _ _ _ VT) (@VR _ _ _ _ _ (@WO _ _ _ _ (@VR _ _ _ _ _ (@W3 _ _ _ _) VT W7)) (@VR _ _ _ _ _ (@WO _ _ _ _ (@VR _ _ _ _ _ (@W3 _ _ _ _) (@VR _ _ _ _ _ (@W3 _ _ _ _) VT W7) W7)) (@VR _ _ _ _ _ (@Tk _ _ _) (@VR _ _ _ _ _ (@W3 _ _ _ _) (@VR _ _ _ _ _ (@J0 _ _ _ _ _ _ _ _ (BR Bp) (@WO _ _ _ _ (@VR _ _ _ _ _ (@W3 _ _ _ _) VT W7)) (@W3 _ _ _ _)) (@VR _ _ _ _ _ (@WO _ _ _ _ (@VR _ _ _ _ _ (@Wm _ _ _ _) VT W7)) (@VR _ _ _ _ _ (@WO _ _ _ _ (@VR _ _ _ _ _ (@W3 _ _ _ _) (@VR _ _ _ _ _ TQ VT W7) W7)) VT Nk) Nk) TU) W7) W7) Nk) Nk) Nk)) (@J0 _ _ _ _ _ _ _ _ (dI MN) (VQ 1) (@W3 _ _ _ _)) (fun _ _=>rfl)) (by rfl) (Or.inl rfl)) (@W1 _ _ _ _ _ (@T5 _ _ 3 _ _ _ _ (RH).nd rfl (Or.inr rfl) (@Mi _ _ _ _ _ _ _ (GR (Gh (K:=K) rfl)) (@WO _ _ _ _ (@VR _ _ _ _ _ (IM HM (@W3 _ _ _ _)) (@VR _ _ _ _ _ (@Tk _ _ _) (@VR _ _ _ _ _ TQ (@VR _ _ _ _ _ (@Wm _ _ _ _) (@VR _ _ _ _ _ (@WO _ _ _ _ (@VR _ _ _ _ _ (@W3 _ _ _ _) VT W7)) VT Nk) W7) W7) W7) HS)) (@J0 _ _ _ _ _ _ _ _ (dI MN) (@J0 _ _ _ _ _ _ _ _ (dI EE) (VQ 1) (@W3 _ _ _ _)) (@W3 _ _ _ _)) (fun _ _=>rfl)) (by rfl) (Or.inl rfl)) (@W1 _ _ _ _ _ (@T5 _ _ 4 _ _ _ _ (RH).nd rfl (Or.inr rfl) (@Mi _ _ _ _ _ _ _ (GR (Gh (K:=K) rfl)) (@WO _ _ _ _ (@VR _ _ _ _ _ (@WO _ _ _ _ (@VR _ _ _ _ _ (IM HM (@W3 _ _ _ _)) VT HS)) (@VR _ _ _ _ _ (@WO _ _ _ _ (@VR _ _ _ _ _ (@W3 _ _ _ _) (@VR _ _ _ _ _ (@Tk _ _ _) VT W7) W7)) (@VR _ _ _ _ _ (@W3 _ _ _ _) (@VR _ _ _ _ _ (@Wm _ _ _ _) (@VR _ _ _ _ _ (@WO _ _ _ _ (@VR _ _ _ _ _ TQ VT W7)) (@VR _ _ _ _ _ (@Tf _ _ _ _ _ (@VR _ _ _ _ _ (@W3 _ _ _ _) VT W7)) VT TL) Nk) W7) W7) Nk) Nk)) (@J0 _ _ _ _ _ _ _ _ (dI MN) (@J0 _ _ _ _ _ _ _ _ (dI EE) (VQ 1) (@W3 _ _ _ _)) (@W3 _ _ _ _)) (fun _ _=>rfl)) (by rfl) (Or.inl rfl)) (@W1 _ _ _ _ _ (@T5 _ _ 5 _ _ _ _ (RH).nd rfl (Or.inr rfl) (@Mi _ _ _ _ _ _ _ (GR (Gh (K:=K) rfl)) (@WO _ _ _ _ (@VR _ _ _ _ _ (@Wm _ _ _ _) (@VR _ _ _ _ _ (@Wm _ _ _ _) (@VR _ _ _ _ _ (@Wm _ _ _ _) (@VR _ _ _ _ _ (@Tk _ _ _) (@VR _ _ _ _ _ (@W3 _ _ _ _) (@VR _ _ _ _ _ (@Wm _ _ _ _) (@VR _ _ _ _ _ (@Wm _ _ _ _) (@VR _ _ _ _ _ (@WO _ _ _ _ (@VR _ _ _ _ _ (@Wm _ _ _ _) VT W7)) (@VR _ _ _ _ _ (@Tf _ _ _ _ _ (@VR _ _ _ _ _ (@Wm _ _ _ _) VT W7)) VT TL) Nk) W7) W7) W7) W7) W7) W7) W7)) (@J0 _ _ _ _ _ _ _ _ (dI MN) (@J0 _ _ _ _ _ _ _ _ (dI EE) (VQ 1) (@W3 _ _ _ _)) (@W3 _ _ _ _)) (fun _ _=>rfl)) (by rfl) (Or.inl rfl)) (@W1 _ _ _ _ _ (@T5 _ _ 6 _ _ _ _ (RH).nd rfl (Or.inr rfl) (E6 M6 hr.m rfl DR (@VR _ _ _ _ _ (@WO _ _ _ _ (@VR _ _ _ _ _ (@W3 _ _ _ _) VT W7)) (@VR _ _ _ _ _ (@W3 _ _ _ _) (@VR _ _ _ _ _ (@WO _ _ _ _ VT) VT Nk) W7) Nk)) (by rfl) (Or.inl rfl)) (@W1 _ _ _ _ _ (@T5 _ _ 7 _ _ _ _ (RH).nd rfl (Or.inl rfl) (@WO _ _ _ _ (@VR _ _ _ _ _ (Mj (q:=Wl) LC rfl rfl (N7 (N':=["_law_widths"]) (caps:=[some 2]) (sc:=VO MI) (N:=["_law_post","_law_cell","_law_widths","_law_delay","_law_lost","_law_name","_law_good","_law_some"]) rfl rfl (by decide +kernel)).vis rfl) VT Mx)) (by rfl) (Or.inl rfl)) (@W1 _ _ _ _ _ (JR (@Nu _ K _ _ _ _ _ _ _ _ _ _ _ rfl Yc Yf Yg (Tn Tq) (VQ 7) (@VR _ _ _ _ _ (Mj (q:=Wl) LC rfl rfl (N7 (N':=["_law_delay"]) (caps:=[some 3]) (sc:=VO MI) (N:=["_law_post","_law_cell","_law_widths","_law_delay","_law_lost","_law_name","_law_good","_law_some"]) rfl rfl (by decide +kernel)).vis rfl) VT Mx) (by rfl) (by rfl) (by rfl) (by rfl) (by rfl))) (@W1 _ _ _ _ _ (JR (@Nu _ K _ _ _ _ _ _ _ _ _ _ _ rfl Yc Yf Yg (Tn Tq) (VQ 7) (@VR _ _ _ _ _ (Mj (q:=Wl) LC rfl rfl (N7 (N':=["_law_lost"]) (caps:=[some 4]) (sc:=VO MI) (N:=["_law_post","_law_cell","_law_widths","_law_delay","_law_lost","_law_name","_law_good","_law_some"]) rfl rfl (by decide +kernel)).vis rfl) VT Mx) (by rfl) (by rfl) (by rfl) (by rfl) (by rfl))) (@W1 _ _ _ _ _ (JR (@Nu _ K _ _ _ _ _ _ _ _ _ _ _ rfl Yc Yf Yg (Tn Tq) (VQ 7) (@VR _ _ _ _ _ (Mj (q:=Wl) LC rfl rfl (N7 (N':=["_law_name","_law_good","_law_post"]) (caps:=[some 5,some 6,some 0]) (sc:=VO MI) (N:=["_law_post","_law_cell","_law_widths","_law_delay","_law_lost","_law_name","_law_good","_law_some"]) rfl rfl (by decide +kernel)).vis rfl) VT Mx) (by rfl) (by rfl) (by rfl) (by rfl) (by rfl))) (@W1 _ _ _ _ _ (JR (@Nu _ K _ _ _ _ _ _ _ _ _ _ _ rfl Yc Yf Yg (Tn Tq) (VQ 7) (@VR _ _ _ _ _ (Mj (q:=Wl) LC rfl rfl (N7 (N':=["_law_post"]) (caps:=[some 0]) (sc:=VO MI) (N:=["_law_post","_law_cell","_law_widths","_law_delay","_law_lost","_law_name","_law_good","_law_some"]) rfl rfl (by decide +kernel)).vis rfl) VT Mx) (by rfl) (by rfl) (by rfl) (by rfl) (by rfl))) (@W1 _ _ _ _ _ (JR (@Nu _ K _ _ _ _ _ _ _ _ _ _ _ rfl Yc Yf Yg (Tn Tq) (VQ 7) (@VR _ _ _ _ _ (Mj (q:=Wl) LC rfl rfl (N7 (N':=["_law_name","_law_post"]) (caps:=[some 5,some 0]) (sc:=VO MI) (N:=["_law_post","_law_cell","_law_widths","_law_delay","_law_lost","_law_name","_law_good","_law_some"]) rfl rfl (by decide +kernel)).vis rfl) VT Mx) (by rfl) (by rfl) (by rfl) (by rfl) (by rfl))) (@Wc _ _ _ (@WL _ _ _ _ (Ts (IS (K:=K) (Room.units hr) rfl) (FX (N':=["_law_deed"]) (caps:=[none]) (Me (sc:=VO MI) (N:=["_law_post","_law_cell","_law_widths","_law_delay","_law_lost","_law_name","_law_good","_law_some"]) rfl rfl (by decide +kernel)) rfl (TK (K:=K) rfl (VQ 7)) (fun _ _ _ _ _=>(Tg (i:=0) (TH (N:=["_law_deed"]) rfl (by decide +kernel)) rfl (Or.inl rfl))) (fun _ _ _ _ _=>D5) (fun _ _ _ _ _ _ _ I f2=>(Ka I f2 JL hr.m rfl (fun _=>rfl) (VQ 0) hsp_refusal))) (@J0 _ _ _ _ _ _ _ _ (BR Bp) (@WO _ _ _ _ (@VR _ _ _ _ _ (@Wm _ _ _ _) VT W7)) (@W3 _ _ _ _)) (TV _))))))))))))))),?_⟩;refine We fun N g=>?_
  walk_at"rd";refine⟨Yh _,fun u G1 _ s1 r=>⟨Wi (by decide),fun p2 G2 _ s2 g2=>⟨Wi (by decide),fun p3 G3 _ s3 g3=>⟨Wi (by decide),fun p4 G4 _ s4 g4=>⟨_,g4,by decide,by decide,Wi (by decide),fun p5 G5 _ s5 g5=>⟨Wi (by decide),fun p6 G6 _ s6 g6=>⟨Wi (by decide),fun p7 G7 _ s7 g7=>⟨Wi (by decide),fun p8 G8 _ s8 g8=>?_⟩⟩⟩⟩⟩⟩⟩⟩;have t7:=s8;have t6:=s7.trans t7;have t5:=s6.trans t6;have t3:=s4.trans (s5.trans t5);have t2:=s3.trans t3;have t1:=s2.trans t2;have bad:∀x∈[V.ref u,.ref p2,.ref p3,.non,.int 9,.ref p5,.ref p6,.ref p7],Dg G8 x:=by
   simp only[Y6,Yl,YL];rintro x (rfl|rfl|rfl|rfl|rfl|rfl|rfl|rfl)
   .exact(E9 r rfl (by decide) rfl).mono t1
   .exact(E9 g2 rfl (by decide) rfl).mono t2
   .exact(E9 g3 rfl (by decide) rfl).mono t3
   .exact⟨⟨_,rfl⟩,nofun,rfl⟩
   .exact⟨⟨_,rfl⟩,nofun,rfl⟩
   .exact(E9 g5 rfl (by decide) rfl).mono t5
   .exact(E9 g6 rfl (by decide) rfl).mono t6
   .exact(E9 g7 rfl (by decide) rfl).mono t7
  obtain⟨x1,e1,m1⟩:=Rj (xs:=[V.ref u,.ref p2,.ref p3,.non,.int 9,.ref p5,.ref p6,.ref p7]) (d:=c%8) (by omega) (by simp;omega);have w1:=bad x1 m1;refine⟨by decide,_,VZ.of g8,x1,e1,g _ _ ?_⟩;have sA:=s1.trans t1;clear bad m1 e1 r g2 g3 g4 g5 g6 g7 g8 g N t1 t2 t3 t5 t6 t7 s1 s2 s3 s4 s5 s6 s7 s8;refine We fun N g=>?_
  walk_at"rd";refine⟨Wi (by decide),fun u G1 _ s1 r=>⟨Wi (by decide),fun p2 G2 _ s2 g2=>?_⟩⟩;have bad:∀x∈[V.int (-1),.non,.bl true,.str "3",.ref u],(∃n,WY G2 x=some n)/\NC x 0=false:=by
   simp only[Y6,Yl,YL];rintro x (rfl|rfl|rfl|rfl|rfl) <;> exact⟨⟨_,by first|rfl|exact Ww (s2 _ _ r)⟩,rfl⟩
  obtain⟨x2,e1,m1⟩:=Rj (xs:=[V.int (-1),.non,.bl true,.str "3",.ref u]) (d:=c / 8%5) (by omega) (by simp;omega);obtain⟨tx2,w2⟩:=bad x2 m1;refine⟨⟨by decide,by decide⟩,by decide,_,VZ.of g2,x2,e1,g _ _ ?_⟩;have l:=s1.trans s2
  replace w1:=w1.mono l
  replace sA:=sA.trans l
  clear bad m1 e1 r g2 g N s1 s2 l;refine We fun N g=>?_
  walk_at"rd";refine⟨Wi (by decide),fun u G1 _ s1 r=>⟨Wi (by decide),fun p3 G3 _ s3 g3=>⟨Wi (by decide),fun p4 G4 _ s4 g4=>⟨Wi (by decide),fun p5 G5 _ s5 g5=>⟨Wi (by decide),fun p6 G6 _ s6 g6=>?_⟩⟩⟩⟩⟩;have t5:=s6;have t4:=s5.trans t5;have t3:=s4.trans t4;have t1:=s3.trans t3;have bad:∀x∈[V.ref u,.ref p3,.int 3,.str "0",.ref p4,.ref p5],Dl G6 x:=by
   simp only[Y6,Yl,YL];rintro x (rfl|rfl|rfl|rfl|rfl|rfl)
   .exact(Kv r rfl (by decide) rfl).mono t1
   .exact(Kv g3 rfl (by decide) rfl).mono t3
   .exact⟨⟨_,rfl⟩,nofun,rfl⟩
   .exact⟨⟨_,rfl⟩,nofun,rfl⟩
   .exact(Kv g4 rfl (by decide) rfl).mono t4
   .have h5:=t5 _ _ g5;refine⟨⟨_,Hr h5⟩,fun a xs e1 e2=>?_,?_⟩
    .cases e1;rw[h5]at e2;cases e2
    .show(match G6 p5 with|some (.lst xs)=>xs.all (fun y=>NC y 0)|_=>false)=false;rw[h5]
  obtain⟨x3,e1,m1⟩:=Rj (xs:=[V.ref u,.ref p3,.int 3,.str "0",.ref p4,.ref p5]) (d:=c / 40%6) (by omega) (by simp;omega);have w3:=bad x3 m1;refine⟨⟨by decide,by decide⟩,by decide,_,VZ.of g6,x3,e1,g _ _ ?_⟩;have l:=s1.trans t1
  replace w1:=w1.mono l
  replace tx2:=tx2.imp fun _ e=>TN l e
  replace sA:=sA.trans l
  clear bad m1 e1 r g3 g4 g5 g6 g N t1 t3 t4 t5 s1 s3 s4 s5 s6 l;refine We fun N g=>?_
  walk_at"rd";refine⟨Wi (by decide),fun u G1 _ s1 r=>⟨Wi (by decide),fun p3 G3 _ s3 g3=>⟨Wi (by decide),fun p4 G4 _ s4 g4=>?_⟩⟩⟩;have bad:∀x∈[V.str "",.str "Road",.str "abcdefghi",.non,.int 3,.str "a",.str "road",.ref u,.ref p3],Di G4 ["a","road"] x:=by
   simp only[Y6,Yl,YL];rintro x (rfl|rfl|rfl|rfl|rfl|rfl|rfl|rfl|rfl)
   .exact B4 (by decide +kernel) (by decide +kernel)
   .exact B4 (by decide +kernel) (by decide +kernel)
   .exact B4 (by decide +kernel) (by decide +kernel)
   .exact⟨⟨_,rfl⟩,nofun,.inl rfl⟩
   .exact⟨⟨_,rfl⟩,nofun,.inl rfl⟩
   .exact B4 (by decide +kernel) (by decide +kernel)
   .exact B4 (by decide +kernel) (by decide +kernel)
   .exact⟨⟨_,Ww (s4 _ _ (s3 _ _ r))⟩,nofun,.inl rfl⟩
   .exact⟨⟨_,Hr (s4 _ _ g3)⟩,nofun,.inl rfl⟩
  obtain⟨x4,e1,m1⟩:=Rj (xs:=[V.str "",.str "Road",.str "abcdefghi",.non,.int 3,.str "a",.str "road",.ref u,.ref p3]) (d:=c / 240%9) (by omega) (by simp;omega);have w4:=bad x4 m1;refine⟨⟨by decide,by decide⟩,by decide,_,VZ.of g4,x4,e1,g _ _ ?_⟩;have l:=s1.trans (s3.trans s4)
  replace w1:=w1.mono l
  replace tx2:=tx2.imp fun _ e=>TN l e
  replace w3:=w3.mono l
  replace sA:=sA.trans l
  clear bad m1 e1 r g3 g4 g N s1 s3 s4 l;refine We fun N g=>?_
  walk_at"rd";refine⟨Wi (by decide),fun u G1 _ s1 r=>⟨Yh _,fun p3 G3 _ s3 g3=>?_⟩⟩;have h1:=s3 _ _ r;have ask:Tu G3 (.ref u) (.int 2) (.ref p3):=⟨⟨_,Ww h1⟩,⟨_,rfl⟩,⟨_,Ww g3⟩,EU h1 rfl (by decide),EU g3 rfl (by decide)⟩;have gd:Mm G3 (.ref u) (.int 2) (.ref p3)=true:=by
   unfold Mm;rw[CK h1,AE g3];rfl
  refine⟨_,_,_,rfl,ask,(fun z=>by rw[gd]at z;cases z),fun _=>⟨u,⟨[16],2,[]⟩,rfl,rfl,h1,⟨⟨by decide,nofun⟩,.inr ⟨p3,rfl,g3⟩⟩,⟨by decide,by decide,(fun w hw=>by simp at hw;omega),by decide,⟨by decide,nofun⟩⟩,fun rp rl rm G4 _ _ _ s4 hRd=>g _ _ ?_⟩⟩;have l:=s1.trans (s3.trans s4)
  replace w1:=w1.mono l
  replace tx2:=tx2.imp fun _ e=>TN l e
  replace w3:=w3.mono l
  replace w4:=w4.mono l
  replace sA:=sA.trans l
  clear ask gd h1 r g3 g N s1 s3 s4 l;have hU4:=hU.mono sA
  replace tb:=tb.same sA
  refine We fun N g=>?_
  walk_at"rd";refine⟨tb,fun f1 H1 _ b1 t1 v1=>⟨Wi (by decide),fun bl Z1 hbl s2 e2=>g _ _ ?_⟩⟩;clear g N;have m0:=(⟨fun _ _ e _=>e,tb⟩:Sv T Wl G4 G4).tab b1 t1;have m1:=m0.same s2;have hb0:=m0.new hbl
  replace v1:=Tc v1 s2
  clear m0 b1 t1 s2 hbl;refine We fun N g=>?_
  walk_at"rd";refine⟨.inl ⟨rfl,_,VZ.of e2⟩,m1.tb,fun f2 H2 _ b t v2=>?_⟩;have h:=MV m1.tb b e2;refine⟨_,h,Ml (by simp),fun Z2 j e3=>g _ _ ?_⟩;clear g N;have k2:=(D3 m1.tb b).trans (NU h j)
  replace v2:=Tr v2 (NU h j)
  have m2:=(m1.tab b t).app hb0 h j;clear m1 e2 h b j t;refine We fun N g=>?_
  walk_at"rd";refine⟨.inl ⟨rfl,_,VZ.of e3⟩,m2.tb,fun f3 H3 _ b t v3=>?_⟩;have h:=MV m2.tb b e3;refine⟨_,h,Ml (by simp),fun Z3 j e4=>g _ _ ?_⟩;clear g N;have k3:=(D3 m2.tb b).trans (NU h j)
  replace v3:=Tr v3 (NU h j)
  have m3:=(m2.tab b t).app hb0 h j;clear m2 e3 h b j t;refine We fun N g=>?_
  walk_at"rd";refine⟨.inl ⟨rfl,_,VZ.of e4⟩,m3.tb,fun f4 H4 _ b t v4=>?_⟩;have h:=MV m3.tb b e4;refine⟨_,h,Ml (by simp),fun Z4 j e5=>g _ _ ?_⟩;clear g N;have k4:=(D3 m3.tb b).trans (NU h j)
  replace v4:=Tr v4 (NU h j)
  have m4:=(m3.tab b t).app hb0 h j;clear m3 e4 h b j t;refine We fun N g=>?_
  walk_at"rd";refine⟨.inl ⟨rfl,_,VZ.of e5⟩,m4.tb,fun f5 H5 _ b t v5=>?_⟩;have h:=MV m4.tb b e5;refine⟨_,h,Ml (by simp),fun Z5 j e6=>g _ _ ?_⟩;clear g N;have k5:=(D3 m4.tb b).trans (NU h j)
  replace v5:=Tr v5 (NU h j)
  have m5:=(m4.tab b t).app hb0 h j;clear m4 e5 h b j t;refine We fun N g=>?_
  walk_at"rd";refine⟨.inl ⟨rfl,_,VZ.of e6⟩,m5.tb,fun f6 H6 _ b t v6=>?_⟩;have h:=MV m5.tb b e6;refine⟨_,h,Ml (by simp),fun Z j hZ=>g _ _ ?_⟩;clear g N;have k6:=(D3 m5.tb b).trans (NU h j)
  replace v6:=Tr v6 (NU h j)
  have mZ:=(m5.tab b t).app hb0 h j;clear m5 e6 h b j t
  replace v5:=Tr v5 k6
  replace k5:=k5.trans k6
  replace v4:=Tr v4 k5
  replace k4:=k4.trans k5
  replace v3:=Tr v3 k4
  replace k3:=k3.trans k4
  replace v2:=Tr v2 k3
  replace v1:=Tr v1 (k2.trans k3)
  clear k2 k3 k4 k5 k6;have kp:=mZ.kps tb;have kt:=mZ.kt tb
  replace w1:Dg Z x1:=⟨E2 kp w1.ty,OW kp w1.ty w1.pl,by rw[xT kp w1.ty];exact w1.no⟩
  replace tx2:=E2 kp tx2
  replace w3:Dl Z x3:=⟨E2 kp w3.ty,OW kp w3.ty w3.pl,by rw[Zr kp w3.ty];exact w3.no⟩
  replace w4:Di Z ["a","road"] x4:=⟨E2 kp w4.ty,w4.le,w4.no⟩
  have hUZ:=hU4.butT kt;obtain⟨dxr,fsr,hr1,_⟩:=hRd.ex;have hRZ:WZ CRo Z rp rl rm ⟨[16],2,[]⟩:=hRd.kp (fun o e=>kt _ _ e (by rw[hr1]at e;cases e;nofun)) (fun o e=>kt _ _ e (by rw[hRd.hw]at e;cases e;nofun)) (fun o e=>kt _ _ e (by rw[hRd.hl]at e;cases e;nofun));rw[<-hms]at w4;obtain⟨n4,hn4⟩:=w4.ty;obtain⟨S,eS⟩:∃S:L2.St,S=[some (.ref p),some (.int c),some x1,some x2,some x3,some x4,some (.ref rp),some (.ref bl)]:=⟨_,rfl⟩;have R1:∀H1,VP Z H1->JS _ 14 f1 H1 S (fun _ _=>False) (fun c _ H'=>c= .ref NR/\VP H1 H'):=fun H1 s1=>by
   rw [eS];exact Mo (k := 13) (Tc v1 s1) (N7 (N' := ["_law_widths"]) (caps := [some 2]) (sc := VO MI) (N := ["_law_post", "_law_cell", "_law_widths", "_law_delay", "_law_lost", "_law_name", "_law_good", "_law_some"]) rfl rfl (by decide +kernel)) (fun _ _ _ _ => rfl) (fun f c' cl A outer s H E hr => (E6 No (hr.mono (by decide)) rfl (NK M2 (fun _ _ h => h)) (VR (hs := Wq) (pv 0) (VR (hs := W7) W3 VT)))) (by
    walk_at"rd";have w := w1.mono s1;exact ⟨x1, .int 1, rfl, x1, .int 1, .non, rfl, ⟨w.ty, ⟨_, rfl⟩, ⟨_, rfl⟩, w.pl, nofun⟩, (fun _ G sG => ⟨rfl, sG⟩), fun z => by unfold Mm at z; rw [w.no] at z; cases z⟩)
  have R2:∀H1,VP Z H1->JS _ 14 f2 H1 S (fun _ _=>False) (fun c _ H'=>c= .ref NR/\VP H1 H'):=fun H1 s1=>by
   rw [eS];exact Mo (k := 13) (Tc v2 s1) (N7 (N' := ["_law_delay"]) (caps := [some 3]) (sc := VO MI) (N := ["_law_post", "_law_cell", "_law_widths", "_law_delay", "_law_lost", "_law_name", "_law_good", "_law_some"]) rfl rfl (by decide +kernel)) (fun _ _ _ _ => rfl) (fun f c' cl A outer s H E hr => (E6 No (hr.mono (by decide)) rfl (NK M2 (fun _ _ h => h)) (VR (hs := Nk) (WO (VR (hs := W7) W3 VT)) (VR (hs := Wq) (pv 0) VT)))) (by
    walk_at"rd";refine ⟨Wi (by decide), fun u G1 _ s2 r => ⟨_, x2, rfl, .ref u, x2, .non, rfl, ⟨⟨_, Ww r⟩, tx2.imp fun _ e => TN (s1.trans s2) e, ⟨_, rfl⟩, EU r rfl (by decide), nofun⟩, (fun _ G sG => ⟨rfl, s2.trans sG⟩), fun z => by unfold Mm at z; rw [w2, X1, XQ] at z; cases z⟩⟩)
  have R3:∀H1,VP Z H1->JS _ 14 f3 H1 S (fun _ _=>False) (fun c _ H'=>c= .ref NR/\VP H1 H'):=fun H1 s1=>by
   rw [eS];exact Mo (k := 13) (Tc v3 s1) (N7 (N' := ["_law_lost"]) (caps := [some 4]) (sc := VO MI) (N := ["_law_post", "_law_cell", "_law_widths", "_law_delay", "_law_lost", "_law_name", "_law_good", "_law_some"]) rfl rfl (by decide +kernel)) (fun _ _ _ _ => rfl) (fun f c' cl A outer s H E hr => (E6 M6 (hr.mono (by decide)) rfl (NK M2 (fun _ _ h => h)) (VR (hs := Nk) (WO (VR (hs := W7) W3 VT)) (VR (hs := W7) W3 (VR (hs := Wq) (pv 0) VT))))) (by
    walk_at"rd";refine ⟨Wi (by decide), fun u G1 _ s2 r => ?_⟩;have w := w3.mono (s1.trans s2);exact ⟨.ref u, .int 1, x3, rfl, ⟨⟨_, Ww r⟩, ⟨_, rfl⟩, w.ty, EU r rfl (by decide), w.pl⟩, (fun _ G sG => ⟨rfl, s2.trans sG⟩), fun z => by unfold Mm at z; rw [w.no, XQ, XQ] at z; cases z⟩)
  have R4:∀H1,VP Z H1->JS _ 14 f4 H1 S (fun _ _=>False) (fun c _ H'=>c= .ref NR/\VP H1 H'):=fun H1 s1=>by
   rw [eS];exact Mo (k := 13) (Tc v4 s1) (N7 (N' := ["_law_name", "_law_good", "_law_post"]) (caps := [some 5, some 6, some 0]) (sc := VO MI) (N := ["_law_post", "_law_cell", "_law_widths", "_law_delay", "_law_lost", "_law_name", "_law_good", "_law_some"]) rfl rfl (by decide +kernel)) (fun _ _ _ _ => rfl) (fun f c' cl A outer s H E hr => (Ti (pv 2) Wv (hr.mono (by decide)) (NK M2 (fun _ _ h => h)) (VR (hs := Wq) (pv 0) (VR (hs := Wq) (pv 1) VT)))) (by
    walk_at"rd";have hU1 := hUZ.mono s1;exact ⟨hU1.mt rfl, p, db, dc, lc, U, x4, _, n4, rfl, hU1, TN s1 hn4, w4.le, .inl ⟨w4.no, fun G sG => ⟨rfl, sG⟩⟩⟩)
  have R5:∀H1,VP Z H1->JS _ 14 f5 H1 S (fun _ _=>False) (fun c _ H'=>c= .ref NR/\VP H1 H'):=fun H1 s1=>by
   rw [eS];exact Mo (k := 13) (Tc v5 s1) (N7 (N' := ["_law_post"]) (caps := [some 0]) (sc := VO MI) (N := ["_law_post", "_law_cell", "_law_widths", "_law_delay", "_law_lost", "_law_name", "_law_good", "_law_some"]) rfl rfl (by decide +kernel)) (fun _ _ _ _ => rfl) (fun f c' cl A outer s H E hr => (Ti (pv 0) Wv (hr.mono (by decide)) (NK M2 (fun _ _ h => h)) (VR (hs := W7) Wm (VR (hs := W7) Tk VT)))) (by
    walk_at"rd";have hU1 := hUZ.mono s1;exact ⟨hU1.mt rfl, p, db, dc, lc, U, _, .non, _, rfl, hU1, rfl, (fun z e => by cases e; decide +kernel), .inr (.inl ⟨by decide +kernel, by rw [hms]; decide +kernel, fun G _ => ⟨_, .non, EV RX (.inl rfl)⟩, fun G sG => ⟨rfl, sG⟩⟩)⟩)
  have R6:∀H1,VP Z H1->JS _ 14 f6 H1 S (fun _ _=>False) (fun c _ H'=>c= .ref NR/\VP H1 H'):=fun H1 s1=>by
   rw [eS];exact Mo (k := 13) (Tc v6 s1) (N7 (N' := ["_law_name", "_law_post"]) (caps := [some 5, some 0]) (sc := VO MI) (N := ["_law_post", "_law_cell", "_law_widths", "_law_delay", "_law_lost", "_law_name", "_law_good", "_law_some"]) rfl rfl (by decide +kernel)) (fun _ _ _ _ => rfl) (fun f c' cl A outer s H E hr => (Ti (pv 1) Wv (hr.mono (by decide)) (NK M2 (fun _ _ h => h)) (VR (hs := Wq) (pv 0) (VR (hs := Nk) (WO (VR (hs := W7) W3 VT)) VT)))) (by
    walk_at"rd";have hU1 := hUZ.mono s1;refine ⟨hU1.mt rfl, Wi (by decide), fun u G1 _ s2 r => ?_⟩;have hU2 := hU1.mono s2;exact ⟨p, db, dc, lc, U, x4, _, n4, rfl, hU2, TN (s1.trans s2) hn4, w4.le, .inl ⟨w4.no, fun G sG => ⟨rfl, s2.trans sG⟩⟩⟩)
  rw[<-eS];walk_at"rd";simp only[List.cons_append,List.nil_append]at hZ;refine⟨.ref bl,by rw[eS];rfl,bl,rfl,⟨_,VZ.of hZ⟩,?_⟩;obtain⟨Pv,ePv⟩:∃Pv:Nat->List V->L2.St->Hp->Prop,Pv=fun i ys σ' H'=>ys=(List.replicate i ("road":Str)).map V.str/\(∃v,σ'=[v])/\VP Z H':=⟨_,rfl⟩
  refine Db (xs:=[.ref f1,.ref f2,.ref f3,.ref f4,.ref f5,.ref f6]) Pv (by rw[ePv];exact⟨rfl,⟨none,rfl⟩,VP.refl _⟩) ?_ (Wi (by simp)) ?_ ?_
  .rintro i ys σ' H' hP hi;rw[ePv]at hP;obtain⟨rfl,_,sH⟩:=hP;exact⟨VZ.of (sH _ _ hZ),by simp⟩
  .rintro i x ys σ' H' hx hP;obtain⟨v,rfl⟩:∃v,σ'=[v]:=by rw[ePv]at hP;exact hP.2.1
   walk_at"rd";have fin:VP Z H'->∀ (C:VI) (H2:Hp),(Value.ref C= .ref NR/\VP H' H2)->∃wd,Mc K CW cs C wd/\∀G,VP H2 G->Pv (i+ 1) (ys++[V.str wd]) [some x] G:=fun sH C H2 hE=>by
    obtain⟨eC,s2⟩:=hE;cases eC;refine⟨_,KN,fun G s3=>?_⟩;rw[ePv]at hP ⊢;obtain⟨rfl,_,_⟩:=hP;exact⟨by rw[UB,Yp];rfl,⟨_,rfl⟩,(sH.trans s2).trans s3⟩
   rw[ePv]at hP;obtain⟨rfl,_,sH⟩:=hP;have hmem:=Yd hx;simp only[Y6,Yl,YL]at hmem;rcases hmem with rfl|rfl|rfl|rfl|rfl|rfl
   .exact⟨_,rfl,_,R1 _ sH,fin sH⟩
   .exact⟨_,rfl,_,R2 _ sH,fin sH⟩
   .exact⟨_,rfl,_,R3 _ sH,fin sH⟩
   .exact⟨_,rfl,_,R4 _ sH,fin sH⟩
   .exact⟨_,rfl,_,R5 _ sH,fin sH⟩
   .exact⟨_,rfl,_,R6 _ sH,fin sH⟩
  .rintro ys σ' H' hP l1 G5 hl1 s5 e5;rw[ePv]at hP;obtain⟨rfl,_,sH⟩:=hP;clear ePv Pv R1 R2 R3 R4 R5 R6 v1 v2 v3 v4 v5 v6;refine⟨Wi (by decide),fun l2 G6 hl2 s6 e6=>⟨_,e6,by decide,by decide,Wi (by decide),fun l3 G7 hl3 s7 e7=>?_⟩⟩;have hok:∀x∈List.replicate 6 ("road":Str),JC x:=fun x hx=>by rw[Xe hx];exact EA
   refine⟨_,_,Gw (xs:=List.replicate 6 "road") (s7 _ _ (s6 _ _ e5)),Gw (xs:=List.replicate 6 "road") e7,Gx hok,Gx hok,?_⟩;rw[Bl];have m:=mZ.same (sH.trans (s5.trans (s6.trans s7)));exact q G7 ⟨fun b o e n=>m.kq b o (sA _ _ e) n,m.tb⟩
abbrev Wd:Str:=(("_law_no_send":Str)++(".<locals>.":Str))++("<lambda>":Str)
structure LT(X:Cx)(lq:Str)(pa:Arguments)(bo:VN)(sc:Scope)(G:Hp)(f t:VI)(due:Str):Prop where
 v:Nc X lq pa bo sc G f
 tt:G t=some (.tup [.str due,.ref f])
theorem LT.kf{X:Cx}{lq:Str}{pa:Arguments}{bo:VN}{sc:Scope}{G J:Hp}{f t:VI}{due:Str}(h:LT X lq pa bo sc G f t due)(k:KF G J):LT X lq pa bo sc J f t due:=⟨Tr h.v k,k _ _ h.tt nofun nofun⟩
structure DK(H:Hp)(ms:List Str)(x:V):Prop where
 ty:∃n,WY H x=some n
 nb:C4 H x
 no:MZ H ms x=false
theorem A5{G:Hp}{ms:List Str}{p:VI}{xs:List V}(h:G p=some (.lst xs))(l:xs.length <=100)(a:∀y∈xs,(∃n,WY G y=some n)/\∀z,y= .str z->z.length <=100000)(e:(decide (xs.length≠0) && xs.all (Td ms))=false):DK G ms (.ref p):=
 ⟨⟨_,Ww h⟩,fun b ys d c=>by cases d;rw[h]at c;cases c;exact⟨l,a⟩,by rw[Lj h];exact e⟩
theorem DK.kp{H G:Hp}{ms:List Str}{x:V}(h:DK H ms x)(k:RF H G):DK G ms x:=by
 refine⟨E2 k h.ty,fun a xs e c=>?_,?_⟩
 .subst e;rw[Es k h.ty]at c;exact(h.nb a xs rfl c).imp id fun h2 y b=>⟨E2 k (h2 y b).1,(h2 y b).2⟩
 .rw[<-h.no];cases x with
  |ref a=>
   show(match G a with|some (.lst xs)=>decide (xs.length≠0) && xs.all (Td ms)|_=>false)=(match H a with|some (.lst xs)=>decide (xs.length≠0) && xs.all (Td ms)|_=>false);rw[Es k h.ty]
  |_=>rfl
structure uE(X:Cx)(Z:Hp)(S:L2.St)(K:VG)(CW:VI)(cs:List Addr)(e:Addr×Str×Addr×Addr):Prop where
 tt:Z e.1=some (.tup [.str e.2.1,.ref e.2.2.1])
 lv:∀H1,VP Z H1->JS X 14 e.2.2.1 H1 S (fun _ _=>False) (fun c _ H'=>c= .ref e.2.2.2/\VP H1 H')
 kd:Mc K CW cs e.2.2.2 e.2.1
structure T8(CL:VI)(H:Hp)(tl a k:VI)(ba bk:VI)(da dk:LD):Prop where
 tt:H tl=some (.tup [.ref a,.ref k])
 la:Jt CL H a ba da
 lk:Jt CL H k bk dk
 ka:da.k=false
 kk:dk.k=true
 na:da.ns.length=40
 nk:dk.ns.length=40
theorem T8.kt{CL tl a k ba bk:VI}{H G:Hp}{da dk:LD}(h:T8 CL H tl a k ba bk da dk)(kt:∀c o,H c=some o->(∀ps,o≠ .tbl ps)->G c=some o):T8 CL G tl a k ba bk da dk:=by
 have f:∀{p b:VI} {d:LD},Jt CL H p b d->Jt CL G p b d:=fun h=>⟨h.ok,h.ats.same (fun o e=>kt _ _ e fun ps z=>by obtain⟨dx,fs,g,_⟩:=h.ats.ex;rw[g,z]at e;cases e),kt _ _ h.bd nofun⟩
 exact⟨kt _ _ h.tt nofun,f h.la,f h.lk,h.ka,h.kk,h.na,h.nk⟩
theorem T8.mono{CL tl a k ba bk:VI}{H G:Hp}{da dk:LD}(h:T8 CL H tl a k ba bk da dk)(s:VP H G):T8 CL G tl a k ba bk da dk:=h.kt fun c o e _=>s c o e
theorem Mb.kt{H G:Hp}{y:V}(h:Mb H y)(k:∀c o,H c=some o->(∀ps,o≠ .tbl ps)->G c=some o):Mb G y:=h.kp k
theorem NI.kt{C m dr df dw:VI}{H G:Hp}{now:Int}{xs ys:List (List Wu×V)}{n:Nat}(h:NI C H m dr df dw now xs ys n)(k:∀c o,H c=some o->(∀ps,o≠ .tbl ps)->G c=some o):NI C G m dr df dw now xs ys n:=by
 obtain⟨dx,fs,a,_⟩:=h.ins.ex;exact⟨h.ins.kp fun o e=>k _ _ e (by rw[a]at e;cases e;nofun),k _ _ h.dR nofun,k _ _ h.dF nofun,h.dW.imp fun _ e=>⟨k _ _ e.1 nofun,e.2⟩,h.n1,h.n2,h.n3⟩
structure M9(rs:List PR):Prop where
 nm:rs.map (·.nm)=[("a":Str),"road"]
 wa:∀e∈rs,e.nm="a"->e.r.ws=[40]
 wr:∀e∈rs,e.nm="road"->e.r.ws=[4000,24]
theorem PN{d:PD}(h2:d.ns.length <=4000):∀{ws:List Nat} {es:List PD},ES ws->Nm d 0 d.ns.length es->TR ws es
 |[],_,_,_=>trivial
 |w::ws,es,hw,hc=>by
  obtain⟨w8,w5⟩:=hw w Yq;have a:=Lb (d:=d) w8 (Y1 _) rfl hc;refine⟨⟨w8,w5,?_⟩,PN h2 (fun x b=>hw x (Ya _ b)) a⟩;have:=(Nm.tot (Y1 _) a).2;omega
theorem OI{d:PD}{ws:List Nat}(h1:1 <=d.ns.length)(h2:d.ns.length <=4000)(hw:ES ws):TR ws [d]:=PN h2 hw (OB d h1)
theorem uQ{w:Nat}{ws:List Nat}{d:PD}(h:d.ns.length <=w)(hw:Du ws [d]):Du (w::ws) [d]:=.inr (by rw[Ff,E3 h];exact hw)
theorem M9.has{rs:List PR}(h:M9 rs){n:Str}(hn:n∈[("a":Str),"road"]):∃e∈rs,e.nm=n:=Yv.mp (by rw[h.nm];exact hn)
theorem M9.wok{rs:List PR}(h:M9 rs){e:PR}(he:e∈rs):ES e.r.ws:=by
 have b:e.nm∈[("a":Str),"road"]:=by rw[<-h.nm];exact YU (f:=fun e:PR=>e.nm) he
 simp only[Y6,Yl,YL]at b;rcases b with z|z
 .rw[h.wa e he z];intro w a;simp at a;omega
 .rw[h.wr e he z];intro w a;simp at a;omega
inductive KC(C CRo CP CL T:VI)(vs:List V)(H:Hp)(Q:VK)(E:XK):Prop|mk (p db dc lc tl a k ba bk:VI) (da dk:LD) (U:NE) (c:Int) (_:vs=[.ref p,.int U.now,.ref tl,.int c]) (_:W6 C CRo CP H p db dc lc U) (_:T8 CL H tl a k ba bk da dk) (_:M9 U.rs) (_:1 <=U.now) (_:U.now <=10000000000) (_:Ji H T Wd) (_:∀G,Sv T Wd H G->Q (.bl true) G)
abbrev TX:Stmt:=WW 73
theorem GQ:WQ ["_law_post","_law_now","_law_letters","_law_cell","_law_plain","_law_kept","_law_time","_law_odd","_law_names","_law_width","_law_room","_law_some"] ["_law_post","_law_now","_law_letters","_law_cell"] (VO TX):=by walk_at"e"
theorem Sx{f c T TF C CRo CP CL Cm CW NT NL NR NW TW:VI}{cs:List Addr}{fd:VD}(F:Nw K "_law_no_send" "_law_no_send" TX f fd (.ref c))(B:Bt mg)(LC:JG mg base c T)(KT:Mc K CW cs NT "time")(KL:Mc K CW cs NL "letter")(KR:Mc K CW cs NR "road")(KW:Mc K CW cs NW "width")(KTW:Mc K CW cs TW "wide")(LX:KX K CL)(JL:JA P w K mg base "_law_sort" 15 ["_law_deed"] [] (JZ P w K mg base 14 CW cs))
  (NZ:Tt P w K mg base "Room" 3 (A0 Cm)) (W5:MW P w K mg base C "send" 13 ["self","time","letter","width","names"] [] (Ep K C CRo CP CL NT NL NR NW TW)) (Wx:MW P w K mg base C "fetch" 9 ["self","time"] [] (EH C CRo CP TF NT)) (JO:Gv P w K mg base "carry" 10 ["post","room","time"] [] (B7 C CRo CP Cm TF NT)):VW P w K mg base WK 16 f fd ["_law_post","_law_now","_law_letters","_law_cell"] (KC C CRo CP CL T):=by
 have hsp_refusal:=A4 (P:=P) (w:=w) (K:=K) (mg:=mg) (base:=base) (kA:=14) (W:=CW) (cs:=cs);refine F.ok GQ (fun vs H Q E h=>?_) (fun A outer s H vs Q E hr h=>?_)
 .obtain⟨p,db,dc,lc,tl,a,k,ba,bk,da,dk,U,c,rfl,_⟩:=h;rfl
 .obtain⟨p,db,dc,lc,tl,a,k,ba,bk,da,dk,U,c,rfl,hU,hL,hRs,h1,h10,tb,q⟩:=h;refine⟨_,(@W1 _ _ _ _ _ (tQ (VQ 2) (DZ (K:=K) (n:=2) rfl rfl (TJ (Tg (i:=4) (GQ).nd rfl (Or.inr rfl)) (TJ (Tg (i:=5) (GQ).nd rfl (Or.inr rfl)) Ge)))) (@W1 _ _ _ _ _ (@T5 _ _ 6 _ _ _ _ (GQ).nd rfl (Or.inr rfl) (@Mi _ _ _ _ _ _ _ (GR (Gh (K:=K) rfl)) (@WO _ _ _ _ (@VR _ _ _ _ _ (@J0 _ _ _ _ _ _ _ _ (Jp HG) (VQ 1) (@W3 _ _ _ _)) (@VR _ _ _ _ _ (IM HM (@W3 _ _ _ _)) (@VR _ _ _ _ _ (@Tk _ _ _) (@VR _ _ _ _ _ TQ (@VR _ _ _ _ _ (EL jK rfl B.bstr (by rfl) (@VR _ _ _ _ _ (VQ 1) VT Wq)) VT M7) W7) W7) HS) TU)) (@J0 _ _ _ _ _ _ _ _ (dI MN) (VQ 3) (@W3 _ _ _ _)) (fun _ _=>rfl)) (by rfl) (Or.inl rfl)) (@W1 _ _ _ _ _ (@T5 _ _ 7 _ _ _ _ (GQ).nd rfl (Or.inr rfl) (@Mi _ _ _ _ _ _ _ (GR (Gh (K:=K) rfl)) (@WO _ _ _ _ (@VR _ _ _ _ _ (@Tk _ _ _) (@VR _ _ _ _ _ (@Wm _ _ _ _) (@VR _ _ _ _ _ (@W3 _ _ _ _) (@VR _ _ _ _ _ (@WO _ _ _ _ (@VR _ _ _ _ _ (VQ 4) VT Wq)) VT Nk) W7) W7) W7)) (@J0 _ _ _ _ _ _ _ _ (dI MN) (@J0 _ _ _ _ _ _ _ _ (dI EE) (VQ 3) (@W3 _ _ _ _)) (@W3 _ _ _ _)) (fun _ _=>rfl)) (by rfl) (Or.inl rfl)) (@W1 _ _ _ _ _ (@T5 _ _ 8 _ _ _ _ (GQ).nd rfl (Or.inr rfl) (@Mi _ _ _ _ _ _ _ (GR (Gh (K:=K) rfl)) (@WO _ _ _ _ (@VR _ _ _ _ _ (@WO _ _ _ _ VT) (@VR _ _ _ _ _ (@Tk _ _ _) (@VR _ _ _ _ _ (@Wm _ _ _ _) (@VR _ _ _ _ _ (@WO _ _ _ _ (@VR _ _ _ _ _ (@Wm _ _ _ _) VT W7)) (@VR _ _ _ _ _ (@WO _ _ _ _ (@VR _ _ _ _ _ (@Wm _ _ _ _) (@VR _ _ _ _ _ (@Tk _ _ _) VT W7) W7)) (@VR _ _ _ _ _ (@WO _ _ _ _ (@VR _ _ _ _ _ (@Wm _ _ _ _) (@VR _ _ _ _ _ (@WO _ _ _ _ (@VR _ _ _ _ _ (@Wm _ _ _ _) VT W7)) VT Nk) W7)) (@VR _ _ _ _ _ (@Tf _ _ _ _ _ (@VR _ _ _ _ _ (@Wm _ _ _ _) VT W7)) VT TL) Nk) Nk) Nk) W7) W7) Nk)) (@J0 _ _ _ _ _ _ _ _ (dI MN) (@J0 _ _ _ _ _ _ _ _ (dI EE) (VQ 3) (@W3 _ _ _ _)) (@W3 _ _ _ _)) (fun _ _=>rfl)) (by rfl) (Or.inl rfl)) (@W1 _ _ _ _ _ (@T5 _ _ 9 _ _ _ _ (GQ).nd rfl (Or.inr rfl) (@Mi _ _ _ _ _ _ _ (GR (Gh (K:=K) rfl)) (@WO _ _ _ _ (@VR _ _ _ _ _ (@W3 _ _ _ _) (@VR _ _ _ _ _ (@W3 _ _ _ _) (@VR _ _ _ _ _ (@W3 _ _ _ _) (@VR _ _ _ _ _ (@Tk _ _ _) (@VR _ _ _ _ _ (@Wm _ _ _ _) (@VR _ _ _ _ _ TQ VT W7) W7) W7) W7) W7) W7)) (@J0 _ _ _ _ _ _ _ _ (dI MN) (@J0 _ _ _ _ _ _ _ _ (dI EE) (VQ 3) (@W3 _ _ _ _)) (@W3 _ _ _ _)) (fun _ _=>rfl)) (by rfl) (Or.inl rfl)) (@W1 _ _ _ _ _ (@T5 _ _ 10 _ _ _ _ (GQ).nd rfl (Or.inr rfl) (D9 NZ hr.m rfl (@VR _ _ _ _ _ (@Wm _ _ _ _) (@VR _ _ _ _ _ (@W3 _ _ _ _) (@VR _ _ _ _ _ (@W3 _ _ _ _) (@VR _ _ _ _ _ (@Wm _ _ _ _) (@VR _ _ _ _ _ (@Wm _ _ _ _) VT W7) W7) W7) W7) W7)) (by rfl) (Or.inl rfl)) (@W1 _ _ _ _ _ (@T5 _ _ 11 _ _ _ _ (GQ).nd rfl (Or.inl rfl) (@WO _ _ _ _ (@VR _ _ _ _ _ (@Tf _ _ _ _ _ (@VR _ _ _ _ _ (@Wm _ _ _ _) (@VR _ _ _ _ _ (Mj (q:=Wd) LC rfl rfl (N7 (N':=["_law_time","_law_odd","_law_width","_law_names","_law_post"]) (caps:=[some 6,some 7,some 9,some 8,some 0]) (sc:=VO TX) (N:=["_law_post","_law_now","_law_letters","_law_cell","_law_plain","_law_kept","_law_time","_law_odd","_law_names","_law_width","_law_room","_law_some"]) rfl rfl (by decide +kernel)).vis rfl) VT Mx) W7)) VT TL)) (by rfl) (Or.inl rfl)) (@W1 _ _ _ _ _ (JR (@Nu _ K _ _ _ _ _ _ _ _ _ _ _ rfl Yc Yf Yg (Tn Tq) (VQ 11) (@VR _ _ _ _ _ (@Tf _ _ _ _ _ (@VR _ _ _ _ _ (@Wm _ _ _ _) (@VR _ _ _ _ _ (Mj (q:=Wd) LC rfl rfl (N7 (N':=["_law_now","_law_odd","_law_width","_law_names","_law_post"]) (caps:=[some 1,some 7,some 9,some 8,some 0]) (sc:=VO TX) (N:=["_law_post","_law_now","_law_letters","_law_cell","_law_plain","_law_kept","_law_time","_law_odd","_law_names","_law_width","_law_room","_law_some"]) rfl rfl (by decide +kernel)).vis rfl) VT Mx) W7)) VT TL) (by rfl) (by rfl) (by rfl) (by rfl) (by rfl))) (@W1 _ _ _ _ _ (JR (@Nu _ K _ _ _ _ _ _ _ _ _ _ _ rfl Yc Yf Yg (Tn Tq) (VQ 11) (@VR _ _ _ _ _ (@Tf _ _ _ _ _ (@VR _ _ _ _ _ (@Wm _ _ _ _) (@VR _ _ _ _ _ (Mj (q:=Wd) LC rfl rfl (N7 (N':=["_law_plain","_law_width","_law_names","_law_post","_law_now"]) (caps:=[some 4,some 9,some 8,some 0,some 1]) (sc:=VO TX) (N:=["_law_post","_law_now","_law_letters","_law_cell","_law_plain","_law_kept","_law_time","_law_odd","_law_names","_law_width","_law_room","_law_some"]) rfl rfl (by decide +kernel)).vis rfl) VT Mx) W7)) VT TL) (by rfl) (by rfl) (by rfl) (by rfl) (by rfl))) (@W1 _ _ _ _ _ (JR (@Nu _ K _ _ _ _ _ _ _ _ _ _ _ rfl Yc Yf Yg (Tn Tq) (VQ 11) (@VR _ _ _ _ _ (@Tf _ _ _ _ _ (@VR _ _ _ _ _ (@Wm _ _ _ _) (@VR _ _ _ _ _ (Mj (q:=Wd) LC rfl rfl (N7 (N':=["_law_kept","_law_width","_law_post","_law_now"]) (caps:=[some 5,some 9,some 0,some 1]) (sc:=VO TX) (N:=["_law_post","_law_now","_law_letters","_law_cell","_law_plain","_law_kept","_law_time","_law_odd","_law_names","_law_width","_law_room","_law_some"]) rfl rfl (by decide +kernel)).vis rfl) VT Mx) W7)) VT TL) (by rfl) (by rfl) (by rfl) (by rfl) (by rfl))) (@W1 _ _ _ _ _ (JR (@Nu _ K _ _ _ _ _ _ _ _ _ _ _ rfl Yc Yf Yg (Tn Tq) (VQ 11) (@VR _ _ _ _ _ (@Tf _ _ _ _ _ (@VR _ _ _ _ _ (@Wm _ _ _ _) (@VR _ _ _ _ _ (Mj (q:=Wd) LC rfl rfl (N7 (N':=["_law_kept","_law_post","_law_now"]) (caps:=[some 5,some 0,some 1]) (sc:=VO TX) (N:=["_law_post","_law_now","_law_letters","_law_cell","_law_plain","_law_kept","_law_time","_law_odd","_law_names","_law_width","_law_room","_law_some"]) rfl rfl (by decide +kernel)).vis rfl) VT Mx) W7)) VT TL) (by rfl) (by rfl) (by rfl) (by rfl) (by rfl))) (@W1 _ _ _ _ _ (JR (@Nu _ K _ _ _ _ _ _ _ _ _ _ _ rfl Yc Yf Yg (Tn Tq) (VQ 11) (@VR _ _ _ _ _ (@Tf _ _ _ _ _ (@VR _ _ _ _ _ (@Wm _ _ _ _) (@VR _ _ _ _ _ (Mj (q:=Wd) LC rfl rfl (N7 (N':=["_law_kept","_law_post","_law_now"]) (caps:=[some 5,some 0,some 1]) (sc:=VO TX) (N:=["_law_post","_law_now","_law_letters","_law_cell","_law_plain","_law_kept","_law_time","_law_odd","_law_names","_law_width","_law_room","_law_some"]) rfl rfl (by decide +kernel)).vis rfl) VT Mx) W7)) VT TL) (by rfl) (by rfl) (by rfl) (by rfl) (by rfl))) (@W1 _ _ _ _ _ (JR (@Nu _ K _ _ _ _ _ _ _ _ _ _ _ rfl Yc Yf Yg (Tn Tq) (VQ 11) (@VR _ _ _ _ _ (@Tf _ _ _ _ _ (@VR _ _ _ _ _ (@Wm _ _ _ _) (@VR _ _ _ _ _ (Mj (q:=Wd) LC rfl rfl (N7 (N':=["_law_time","_law_post"]) (caps:=[some 6,some 0]) (sc:=VO TX) (N:=["_law_post","_law_now","_law_letters","_law_cell","_law_plain","_law_kept","_law_time","_law_odd","_law_names","_law_width","_law_room","_law_some"]) rfl rfl (by decide +kernel)).vis rfl) VT Mx) W7)) VT TL) (by rfl) (by rfl) (by rfl) (by rfl) (by rfl))) (@W1 _ _ _ _ _ (JR (@Nu _ K _ _ _ _ _ _ _ _ _ _ _ rfl Yc Yf Yg (Tn Tq) (VQ 11) (@VR _ _ _ _ _ (@Tf _ _ _ _ _ (@VR _ _ _ _ _ (@Wm _ _ _ _) (@VR _ _ _ _ _ (Mj (q:=Wd) LC rfl rfl (N7 (N':=["_law_post","_law_room","_law_time"]) (caps:=[some 0,some 10,some 6]) (sc:=VO TX) (N:=["_law_post","_law_now","_law_letters","_law_cell","_law_plain","_law_kept","_law_time","_law_odd","_law_names","_law_width","_law_room","_law_some"]) rfl rfl (by decide +kernel)).vis rfl) VT Mx) W7)) VT TL) (by rfl) (by rfl) (by rfl) (by rfl) (by rfl))) (@Wc _ _ _ (@WL _ _ _ _ (Ts (IS (K:=K) (Room.units hr) rfl) (FX (N':=["_law_due","_law_deed"]) (caps:=[none,none]) (Me (sc:=VO TX) (N:=["_law_post","_law_now","_law_letters","_law_cell","_law_plain","_law_kept","_law_time","_law_odd","_law_names","_law_width","_law_room","_law_some"]) rfl rfl (by decide +kernel)) rfl (TK (K:=K) rfl (VQ 11)) (fun _ _ _ _ _=>(DZ (K:=K) (n:=2) rfl rfl (TJ (Tg (i:=0) (TH (N:=["_law_due","_law_deed"]) rfl (by decide +kernel)) rfl (Or.inl rfl)) (TJ (Tg (i:=1) (TH (N:=["_law_due","_law_deed"]) rfl (by decide +kernel)) rfl (Or.inl rfl)) Ge)))) (fun _ _ _ _ _=>D5) (fun _ _ _ _ _ _ _ I f2=>(Ka I f2 JL hr.m rfl (fun _=>rfl) (VQ 1) hsp_refusal))) (DL (N':=["_law_due","_law_deed"]) (caps:=[none,none]) (Me (sc:=VO TX) (N:=["_law_post","_law_now","_law_letters","_law_cell","_law_plain","_law_kept","_law_time","_law_odd","_law_names","_law_width","_law_room","_law_some"]) rfl rfl (by decide +kernel)) rfl (TK (K:=K) rfl (VQ 11)) (fun _ _ _ _ _=>(DZ (K:=K) (n:=2) rfl rfl (TJ (Tg (i:=0) (TH (N:=["_law_due","_law_deed"]) rfl (by decide +kernel)) rfl (Or.inl rfl)) (TJ (Tg (i:=1) (TH (N:=["_law_due","_law_deed"]) rfl (by decide +kernel)) rfl (Or.inl rfl)) Ge)))) (fun _ _ _ _ _=>D5) (fun _ _ _ _ _=>(VQ 0))) (TV _)))))))))))))))))),?_⟩;refine We fun N l=>?_
  walk_at"rd";refine⟨_,JN.of hL.tt,rfl,_,_,rfl,_,_,rfl,rfl,l _ _ ?_⟩;clear l N;refine We fun N l=>?_
  walk_at"rd";have hlg:U.now.natAbs.log2 < 1920:=(Nat.log2_lt (by omega)).mpr (Ye (show U.now.natAbs <=10000000000 by omega) (by decide +kernel));refine⟨hlg,Wi (by decide),fun p1 G1 _ s1 g1=>?_⟩;have bad:∀x∈[V.int (U.now - 1),.int (-1),.non,.bl true,.str (Str.ofString (toString U.now))],Ee x=true/\NC x U.now=false:=by
   simp only[Y6,Yl,YL];rintro x (rfl|rfl|rfl|rfl|rfl)
   .exact⟨rfl,Yt (by omega)⟩
   .exact⟨rfl,Yt (by omega)⟩
   all_goals exact⟨rfl,rfl⟩
  obtain⟨x1,j,g⟩:=Rj (xs:=[V.int (U.now - 1),.int (-1),.non,.bl true,.str (Str.ofString (toString U.now))]) (d:=c%5) (by omega) (by simp;omega);obtain⟨sx1,w1⟩:=bad x1 g;refine⟨by decide,_,VZ.of g1,x1,j,l _ _ ?_⟩;have sA:=s1;clear bad g j g1 l N s1 hlg;refine We fun N l=>?_
  walk_at"rd";refine⟨Wi (by simp),fun p1 G2 _ s1 g1=>⟨Wi (by simp),fun p2 G3 _ s2 g2=>?_⟩⟩;have bad:∀x∈[V.non,.str "letter",.int 3,.ref p1],Mb G3 x:=by
   simp only[Y6,Yl,YL];rintro x (rfl|rfl|rfl|rfl)
   .exact .inl rfl
   .exact .inr (.inr (.inl ⟨_,rfl⟩))
   .exact .inr (.inl ⟨_,rfl⟩)
   .exact .inr (.inr (.inr (.inl ⟨_,_,rfl,s2 _ _ g1⟩)))
  obtain⟨x2,j,g⟩:=Rj (xs:=[V.non,.str "letter",.int 3,.ref p1]) (d:=c / 5%4) (by omega) (by simp;omega);have w2:=bad x2 g;refine⟨⟨by decide,by decide⟩,by decide,_,VZ.of g2,x2,j,l _ _ ?_⟩
  replace sA:=sA.trans (s1.trans s2)
  clear bad g j g1 g2 l N s1 s2;refine We fun N l=>?_
  walk_at"rd";refine⟨Yh _,fun p1 H1 _ s1 g1=>⟨Wi (by decide),fun p2 H2 _ s2 g2=>⟨Wi (by decide),fun p3 H3 _ s3 g3=>⟨Wi (by decide),fun p4 H4 _ s4 g4=>⟨Wi (by decide),fun p5 H5 _ s5 g5=>⟨Wi (by decide),fun p6 H6 _ s6 g6=>⟨Wi (by decide),fun p7 G4 _ s7 g7=>?_⟩⟩⟩⟩⟩⟩⟩;have t6:=s7;have t5:=s6.trans t6;have t3:=s4.trans (s5.trans t5);have t2:=s3.trans t3;have t1:=s2.trans t2;have ls:∀z:Str,z.length <=1000->∀y,V.str z= .str y->y.length <=100000:=fun z hz y e=>by cases e;omega
  have bad:∀x∈[V.ref p1,.non,.str "a",.ref p2,.ref p3,.ref p5,.ref p6],DK G4 ["a","road"] x:=by
   simp only[Y6,Yl,YL];rintro x (rfl|rfl|rfl|rfl|rfl|rfl|rfl)
   .exact A5 (t1 _ _ g1) (by decide) nofun rfl
   .exact⟨⟨_,rfl⟩,nofun,rfl⟩
   .exact⟨⟨_,rfl⟩,nofun,rfl⟩
   .refine A5 (t2 _ _ g2) (by decide) (fun y hy=>?_) (by decide +kernel);rw[Yn.mp hy];exact⟨⟨_,rfl⟩,ls _ (by decide +kernel)⟩
   .refine A5 (t3 _ _ g3) (by decide) (fun y hy=>?_) (by decide +kernel);simp only[Y6,Yl,YL]at hy;rcases hy with rfl|rfl
    .exact⟨⟨_,rfl⟩,ls _ (by decide +kernel)⟩
    .exact⟨⟨_,rfl⟩,nofun⟩
   .refine A5 (t5 _ _ g5) (by simp) (fun y hy=>?_) (by rw[UN,UN,show Td ["a","road"] (V.ref p4)=false from rfl];simp);simp only[Y6,Yl,YL]at hy;rcases hy with rfl|rfl
    .exact⟨⟨_,rfl⟩,ls _ (by decide +kernel)⟩
    .exact⟨⟨_,Ww (t5 _ _ (s5 _ _ g4))⟩,nofun⟩
   .have h6:=t6 _ _ g6;refine⟨⟨_,Hr h6⟩,fun b xs j u=>?_,?_⟩
    .cases j;rw[h6]at u;cases u
    .show(match G4 p6 with|some (.lst xs)=>decide (xs.length≠0) && xs.all (Td ["a","road"])|_=>false)=false;rw[h6]
  obtain⟨x3,j,g⟩:=Rj (xs:=[V.ref p1,.non,.str "a",.ref p2,.ref p3,.ref p5,.ref p6]) (d:=c / 20%7) (by omega) (by simp;omega);have w3:=bad x3 g;refine⟨⟨by decide,by decide⟩,by decide,_,VZ.of g7,x3,j,l _ _ ?_⟩;have sB:=s1.trans t1
  replace w2:=w2.kt fun c o h _=>sB c o h
  replace sA:=sA.trans sB
  clear bad g j g1 g2 g3 g4 g5 g6 g7 l N s1 s2 s3 s4 s5 s6 s7 t1 t2 t3 t5 t6 sB ls;refine We fun N l=>?_
  walk_at"rd";refine⟨Wi (by simp),fun p1 G5 _ s1 g1=>?_⟩;have bad:∀x∈[V.int 7,.int 0,.int 5001,.non,.str "9",.bl true],Ee x=true/\N1 x 8 5000=false:=by
   simp only[Y6,Yl,YL];rintro x (rfl|rfl|rfl|rfl|rfl|rfl) <;> exact⟨rfl,rfl⟩
  obtain⟨x4,j,g⟩:=Rj (xs:=[V.int 7,.int 0,.int 5001,.non,.str "9",.bl true]) (d:=c / 140%6) (by omega) (by simp;omega);obtain⟨sx4,w4⟩:=bad x4 g;refine⟨⟨by decide,by decide⟩,by decide,_,VZ.of g1,x4,j,l _ _ ?_⟩
  replace w2:=w2.kt fun c o h _=>s1 c o h
  replace w3:=w3.kp fun c o h _=>s1 c o h
  replace sA:=sA.trans s1
  clear bad g j g1 l N s1;refine We fun N l=>?_
  walk_at"rd";refine⟨rfl,fun m dr df dw G6 _ _ _ _ s1 hRm=>l _ _ ?_⟩
  replace w2:=w2.kt fun c o h _=>s1 c o h
  replace w3:=w3.kp fun c o h _=>s1 c o h
  replace sA:=sA.trans s1
  clear l N s1
  replace tb:=tb.same sA
  replace hU:=hU.mono sA
  refine We fun N l=>?_
  walk_at"rd";refine⟨tb,fun f1 H1 _ b1 t1 v1=>⟨Wi (by simp),fun q1 H2 _ s2 j=>⟨Wi (by simp),fun bl Z1 hbl s3 u=>l _ _ ?_⟩⟩⟩;clear l N;have m0:=((⟨fun _ _ e _=>e,tb⟩:Sv T Wd G6 G6).tab b1 t1).same s2;have g:=m0.same s3;have hb0:=m0.new hbl;have d1:LT _ _ _ _ _ Z1 f1 q1 "time":=⟨Tc v1 (s2.trans s3),s3 _ _ j⟩
  clear m0 b1 t1 s2 s3 hbl j v1;refine We fun N l=>?_
  walk_at"rd";refine⟨.inl ⟨rfl,_,VZ.of u⟩,g.tb,fun f2 H1 _ b t v=>⟨Wi (by simp),fun q2 H2 _ s2 j=>?_⟩⟩;have h:=s2 _ _ (MV g.tb b u);refine⟨_,h,Ml (by simp),fun Z2 r e3=>l _ _ ?_⟩;clear l N;have k2:=(D3 g.tb b).trans ((RZ s2).trans (NU h r));have d2:LT _ _ _ _ _ Z2 f2 q2 "letter":=⟨Tr (Tc v s2) (NU h r),r _ _ j (VS j h nofun)⟩
  replace g:=((g.tab b t).same s2).app hb0 h r
  clear u h b r t s2 j v;have u:=e3;clear e3;refine We fun N l=>?_
  walk_at"rd";refine⟨.inl ⟨rfl,_,VZ.of u⟩,g.tb,fun f3 H1 _ b t v=>⟨Wi (by simp),fun q3 H2 _ s2 j=>?_⟩⟩;have h:=s2 _ _ (MV g.tb b u);refine⟨_,h,Ml (by simp),fun Z3 r e3=>l _ _ ?_⟩;clear l N;have k3:=(D3 g.tb b).trans ((RZ s2).trans (NU h r));have d3:LT _ _ _ _ _ Z3 f3 q3 "road":=⟨Tr (Tc v s2) (NU h r),r _ _ j (VS j h nofun)⟩
  replace g:=((g.tab b t).same s2).app hb0 h r
  clear u h b r t s2 j v;have u:=e3;clear e3;refine We fun N l=>?_
  walk_at"rd";refine⟨.inl ⟨rfl,_,VZ.of u⟩,g.tb,fun f4 H1 _ b t v=>⟨Wi (by simp),fun q4 H2 _ s2 j=>?_⟩⟩;have h:=s2 _ _ (MV g.tb b u);refine⟨_,h,Ml (by simp),fun Z4 r e3=>l _ _ ?_⟩;clear l N;have k4:=(D3 g.tb b).trans ((RZ s2).trans (NU h r));have d4:LT _ _ _ _ _ Z4 f4 q4 "width":=⟨Tr (Tc v s2) (NU h r),r _ _ j (VS j h nofun)⟩
  replace g:=((g.tab b t).same s2).app hb0 h r
  clear u h b r t s2 j v;have u:=e3;clear e3;refine We fun N l=>?_
  walk_at"rd";refine⟨.inl ⟨rfl,_,VZ.of u⟩,g.tb,fun f5 H1 _ b t v=>⟨Wi (by simp),fun q5 H2 _ s2 j=>?_⟩⟩;have h:=s2 _ _ (MV g.tb b u);refine⟨_,h,Ml (by simp),fun Z5 r e3=>l _ _ ?_⟩;clear l N;have k5:=(D3 g.tb b).trans ((RZ s2).trans (NU h r));have d5:LT _ _ _ _ _ Z5 f5 q5 "wide":=⟨Tr (Tc v s2) (NU h r),r _ _ j (VS j h nofun)⟩
  replace g:=((g.tab b t).same s2).app hb0 h r
  clear u h b r t s2 j v;have u:=e3;clear e3;refine We fun N l=>?_
  walk_at"rd";refine⟨.inl ⟨rfl,_,VZ.of u⟩,g.tb,fun f6 H1 _ b t v=>⟨Wi (by simp),fun q6 H2 _ s2 j=>?_⟩⟩;have h:=s2 _ _ (MV g.tb b u);refine⟨_,h,Ml (by simp),fun Z6 r e3=>l _ _ ?_⟩;clear l N;have k6:=(D3 g.tb b).trans ((RZ s2).trans (NU h r));have d6:LT _ _ _ _ _ Z6 f6 q6 "wide":=⟨Tr (Tc v s2) (NU h r),r _ _ j (VS j h nofun)⟩
  replace g:=((g.tab b t).same s2).app hb0 h r
  clear u h b r t s2 j v;have u:=e3;clear e3;refine We fun N l=>?_
  walk_at"rd";refine⟨.inl ⟨rfl,_,VZ.of u⟩,g.tb,fun f7 H1 _ b t v=>⟨Wi (by simp),fun q7 H2 _ s2 j=>?_⟩⟩;have h:=s2 _ _ (MV g.tb b u);refine⟨_,h,Ml (by simp),fun Z7 r e3=>l _ _ ?_⟩;clear l N;have k7:=(D3 g.tb b).trans ((RZ s2).trans (NU h r));have d7:LT _ _ _ _ _ Z7 f7 q7 "time":=⟨Tr (Tc v s2) (NU h r),r _ _ j (VS j h nofun)⟩
  replace g:=((g.tab b t).same s2).app hb0 h r
  clear u h b r t s2 j v;have u:=e3;clear e3;refine We fun N l=>?_
  walk_at"rd";refine⟨.inl ⟨rfl,_,VZ.of u⟩,g.tb,fun f8 H1 _ b t v=>⟨Wi (by simp),fun q8 H2 _ s2 j=>?_⟩⟩;have h:=s2 _ _ (MV g.tb b u);refine⟨_,h,Ml (by simp),fun Z8 r e3=>l _ _ ?_⟩;clear l N;have k8:=(D3 g.tb b).trans ((RZ s2).trans (NU h r));have d8:LT _ _ _ _ _ Z8 f8 q8 "time":=⟨Tr (Tc v s2) (NU h r),r _ _ j (VS j h nofun)⟩
  replace g:=((g.tab b t).same s2).app hb0 h r
  clear u h b r t s2 j v;have u:=e3;clear e3
  replace d7:=d7.kf k8
  replace k7:=k7.trans k8
  replace d6:=d6.kf k7
  replace k6:=k6.trans k7
  replace d5:=d5.kf k6
  replace k5:=k5.trans k6
  replace d4:=d4.kf k5
  replace k4:=k4.trans k5
  replace d3:=d3.kf k4
  replace k3:=k3.trans k4
  replace d2:=d2.kf k3
  replace k2:=k2.trans k3
  replace d1:=d1.kf k2
  clear k2 k3 k4 k5 k6 k7 k8;simp only[List.cons_append,List.nil_append]at u;have kp:=g.kps tb;have kt:=g.kt tb
  replace w2:=w2.kt kt
  replace w3:=w3.kp kp
  replace hU:=hU.butT kt
  replace hRm:=hRm.kt kt
  have hLZ:=(hL.mono sA).kt kt;rw[<-hRs.nm]at w3;obtain⟨S,eS⟩:∃S:L2.St,S=[some (.ref p),some (.int U.now),some (.ref tl),some (.int c),some (.ref a),some (.ref k),some x1,some x2,some x3,some x4,some (.ref m),some (.ref bl)]:=⟨_,rfl⟩;have R1:∀H1,VP Z8 H1->JS _ 14 f1 H1 S (fun _ _=>False) (fun c _ H'=>c= .ref NT/\VP H1 H'):=fun H1 s1=>by
   have hU1 := hU.mono s1;rw [eS];exact Mo (k := 13) (Tc d1.v s1) (N7 (N' := ["_law_time", "_law_odd", "_law_width", "_law_names", "_law_post"]) (caps := [some 6, some 7, some 9, some 8, some 0]) (sc := VO TX) (N := ["_law_post", "_law_now", "_law_letters", "_law_cell", "_law_plain", "_law_kept", "_law_time", "_law_odd", "_law_names", "_law_width", "_law_room", "_law_some"]) rfl rfl (by decide +kernel)) (fun _ _ _ _ => rfl) (fun f c' cl A outer s H E hr => (Ti (pv 4) W5 (hr.mono (by decide)) (NK M2 (fun _ _ h => h)) (VR (hs := Wq) (pv 0) (VR (hs := Wq) (pv 1) (VR (hs := Wq) (pv 2) (VR (hs := Wq) (pv 3) VT)))))) (by
    walk_at"rd";obtain ⟨n1, hn1⟩ := BS (H := H1) sx1;exact ⟨hU1.mt rfl, p, db, dc, lc, U, x1, x2, x4, x3, n1, rfl, hU1, hn1, .inl ⟨w1, rfl, VP.refl _⟩⟩)
  have R2:∀H1,VP Z8 H1->JS _ 14 f2 H1 S (fun _ _=>False) (fun c _ H'=>c= .ref NL/\VP H1 H'):=fun H1 s1=>by
   have hU1 := hU.mono s1;rw [eS];exact Mo (k := 13) (Tc d2.v s1) (N7 (N' := ["_law_now", "_law_odd", "_law_width", "_law_names", "_law_post"]) (caps := [some 1, some 7, some 9, some 8, some 0]) (sc := VO TX) (N := ["_law_post", "_law_now", "_law_letters", "_law_cell", "_law_plain", "_law_kept", "_law_time", "_law_odd", "_law_names", "_law_width", "_law_room", "_law_some"]) rfl rfl (by decide +kernel)) (fun _ _ _ _ => rfl) (fun f c' cl A outer s H E hr => (Ti (pv 4) W5 (hr.mono (by decide)) (NK M2 (fun _ _ h => h)) (VR (hs := Wq) (pv 0) (VR (hs := Wq) (pv 1) (VR (hs := Wq) (pv 2) (VR (hs := Wq) (pv 3) VT)))))) (by
    walk_at"rd";exact ⟨hU1.mt rfl, p, db, dc, lc, U, _, x2, x4, x3, _, rfl, hU1, rfl, .inr ⟨U.now, rfl, UH _, .inl ⟨(w2.kt fun c o h _ => s1 c o h).ty LX, rfl, VP.refl _⟩⟩⟩)
  have R3:∀H1,VP Z8 H1->JS _ 14 f3 H1 S (fun _ _=>False) (fun c _ H'=>c= .ref NR/\VP H1 H'):=fun H1 s1=>by
   have hU1 := hU.mono s1;rw [eS];exact Mo (k := 13) (Tc d3.v s1) (N7 (N' := ["_law_plain", "_law_width", "_law_names", "_law_post", "_law_now"]) (caps := [some 4, some 9, some 8, some 0, some 1]) (sc := VO TX) (N := ["_law_post", "_law_now", "_law_letters", "_law_cell", "_law_plain", "_law_kept", "_law_time", "_law_odd", "_law_names", "_law_width", "_law_room", "_law_some"]) rfl rfl (by decide +kernel)) (fun _ _ _ _ => rfl) (fun f c' cl A outer s H E hr => (Ti (pv 3) W5 (hr.mono (by decide)) (NK M2 (fun _ _ h => h)) (VR (hs := TU) (J0 NH (pv 4) W3) (VR (hs := Wq) (pv 0) (VR (hs := Wq) (pv 1) (VR (hs := Wq) (pv 2) VT)))))) (by
    walk_at"rd";have w:=w3.kp fun c o h _=>s1 c o h
    obtain ⟨n4, hn4⟩ := w.ty;exact ⟨hU1.mt rfl, p, db, dc, lc, U, _, _, x4, x3, _, rfl, hU1, rfl, .inr ⟨U.now + 5, rfl, by omega, .inr ⟨a, ba, da, n4, rfl, (hLZ.mono s1).la, hn4, w.nb, .inl ⟨w.no, fun G sG => ⟨rfl, sG⟩⟩⟩⟩⟩)
  have R4:∀H1,VP Z8 H1->JS _ 14 f4 H1 S (fun _ _=>False) (fun c _ H'=>c= .ref NW/\VP H1 H'):=fun H1 s1=>by
   have hU1 := hU.mono s1;rw [eS];exact Mo (k := 13) (Tc d4.v s1) (N7 (N' := ["_law_kept", "_law_width", "_law_post", "_law_now"]) (caps := [some 5, some 9, some 0, some 1]) (sc := VO TX) (N := ["_law_post", "_law_now", "_law_letters", "_law_cell", "_law_plain", "_law_kept", "_law_time", "_law_odd", "_law_names", "_law_width", "_law_room", "_law_some"]) rfl rfl (by decide +kernel)) (fun _ _ _ _ => rfl) (fun f c' cl A outer s H E hr => (Ti (pv 2) W5 (hr.mono (by decide)) (NK M2 (fun _ _ h => h)) (VR (hs := TU) (J0 NH (pv 3) W3) (VR (hs := Wq) (pv 0) (VR (hs := Wq) (pv 1) (VR (hs := Nk) (WO (VR (hs := W7) Wm VT)) VT)))))) (by
    walk_at"rd";refine ⟨hU1.mt rfl, Wi (by decide), fun p1 G1 _ s2 g1 => ?_⟩;have s12 := s1.trans s2;obtain ⟨n3, hn3⟩ := BS (H := G1) sx4;obtain ⟨o1, o2⟩ := A1 (ns := ["a"]) (ms := U.rs.map (·.nm)) g1 (by decide) (by decide) (fun n hn => by rw [Yn.mp hn, hRs.nm]; exact ⟨Bg, by simp⟩);exact ⟨p, db, dc, lc, U, _, _, x4, _, _, rfl, hU1.mono s2, rfl, .inr ⟨U.now + 5, rfl, by omega, .inr ⟨k, bk, dk, _, rfl, (hLZ.mono s12).lk, Ww g1, o2, .inr ⟨o1, n3, hn3, .inl ⟨w4, fun G sG => ⟨rfl, s2.trans sG⟩⟩⟩⟩⟩⟩)
  have R5:∀H1,VP Z8 H1->JS _ 14 f5 H1 S (fun _ _=>False) (fun c _ H'=>c= .ref TW/\VP H1 H'):=fun H1 s1=>by
   have hU1 := hU.mono s1;rw [eS];exact Mo (k := 13) (Tc d5.v s1) (N7 (N' := ["_law_kept", "_law_post", "_law_now"]) (caps := [some 5, some 0, some 1]) (sc := VO TX) (N := ["_law_post", "_law_now", "_law_letters", "_law_cell", "_law_plain", "_law_kept", "_law_time", "_law_odd", "_law_names", "_law_width", "_law_room", "_law_some"]) rfl rfl (by decide +kernel)) (fun _ _ _ _ => rfl) (fun f c' cl A outer s H E hr => (Ti (pv 1) W5 (hr.mono (by decide)) (NK M2 (fun _ _ h => h)) (VR (hs := TU) (J0 NH (pv 2) W3) (VR (hs := Wq) (pv 0) (VR (hs := W7) W3 (VR (hs := Nk) (WO (VR (hs := W7) Wm (VR (hs := W7) Wm VT))) VT)))))) (by
    walk_at"rd";refine ⟨hU1.mt rfl, Wi (by decide), fun p1 G1 _ s2 g1 => ?_⟩;have s12 := s1.trans s2;obtain ⟨o1, o2⟩ := A1 (ns := ["a", "road"]) (ms := U.rs.map (·.nm)) g1 (by decide) (by decide) (fun n hn => by rw [hRs.nm]; simp only [Y6, Yl, YL] at hn; rcases hn with rfl | rfl; exact ⟨Bg, by simp⟩; exact ⟨EA, by simp⟩);exact ⟨p, db, dc, lc, U, _, _, _, _, _, rfl, hU1.mono s2, rfl, .inr ⟨U.now + 5, rfl, by omega, .inr ⟨k, bk, dk, _, rfl, (hLZ.mono s12).lk, Ww g1, o2, .inr ⟨o1, _, rfl, .inr ⟨39, rfl, by decide, by decide, (fun _ _ G sG => ⟨rfl, s2.trans sG⟩), fun hk => absurd (hk hL.kk) (by rw [hL.nk]; decide)⟩⟩⟩⟩⟩)
  have R6:∀H1,VP Z8 H1->JS _ 14 f6 H1 S (fun _ _=>False) (fun c _ H'=>c= .ref TW/\VP H1 H'):=fun H1 s1=>by
   have hU1 := hU.mono s1;rw [eS];exact Mo (k := 13) (Tc d6.v s1) (N7 (N' := ["_law_kept", "_law_post", "_law_now"]) (caps := [some 5, some 0, some 1]) (sc := VO TX) (N := ["_law_post", "_law_now", "_law_letters", "_law_cell", "_law_plain", "_law_kept", "_law_time", "_law_odd", "_law_names", "_law_width", "_law_room", "_law_some"]) rfl rfl (by decide +kernel)) (fun _ _ _ _ => rfl) (fun f c' cl A outer s H E hr => (Ti (pv 1) W5 (hr.mono (by decide)) (NK M2 (fun _ _ h => h)) (VR (hs := TU) (J0 NH (pv 2) W3) (VR (hs := Wq) (pv 0) (VR (hs := W7) W3 (VR (hs := Nk) (WO (VR (hs := W7) Wm VT)) VT)))))) (by
    walk_at"rd";refine⟨hU1.mt rfl,Wi (by decide),fun p1 G1 _ s2 g1=>?_⟩;have s12:=s1.trans s2;obtain⟨o1,o2⟩:=A1 (ns:=["road"]) (ms:=U.rs.map (·.nm)) g1 (by decide) (by decide) (fun n hn=>by rw[Yn.mp hn,hRs.nm];exact⟨EA,by simp⟩);have hwl:dk.whole.ns.length=40:=hL.nk;have cw:Wa 40 dk.whole 0=[dk.whole]:=E3 (by omega);obtain⟨e,he,hen⟩:=hRs.has (n:="road") (by simp);have wid:Te U.rs ["road"] (Wa 40 dk.whole 0):=by
     rw[cw];refine⟨0,dk.whole,e,rfl,he,by rw[hen];rfl,?_⟩;rw[hRs.wr e he hen];exact uQ (by omega) (.inl ⟨dk.whole,Yn.mpr rfl,hL.kk,by omega⟩)
    exact ⟨p, db, dc, lc, U, _, _, _, _, _, rfl, hU1.mono s2, rfl, .inr ⟨U.now + 5, rfl, by omega, .inr ⟨k, bk, dk, _, rfl, (hLZ.mono s12).lk, Ww g1, o2, .inr ⟨o1, _, rfl, .inr ⟨40, rfl, by decide, by decide, (fun _ z => absurd z (by rw [hL.nk]; decide)), fun _ => ⟨p1, ["road"], rfl, g1, by decide, by decide, (fun n hn => hRs.has (by rw [Yn.mp hn]; simp)), (fun d' hd' e he _ => by rw [cw] at hd'; rw [Yn.mp hd']; exact OI (by omega) (by omega) (hRs.wok he)), (fun _ G sG => ⟨rfl, s2.trans sG⟩), fun z => absurd wid z⟩⟩⟩⟩⟩⟩)
  have R7:∀H1,VP Z8 H1->JS _ 14 f7 H1 S (fun _ _=>False) (fun c _ H'=>c= .ref NT/\VP H1 H'):=fun H1 s1=>by
   have hU1 := hU.mono s1;rw [eS];exact Mo (k := 13) (Tc d7.v s1) (N7 (N' := ["_law_time", "_law_post"]) (caps := [some 6, some 0]) (sc := VO TX) (N := ["_law_post", "_law_now", "_law_letters", "_law_cell", "_law_plain", "_law_kept", "_law_time", "_law_odd", "_law_names", "_law_width", "_law_room", "_law_some"]) rfl rfl (by decide +kernel)) (fun _ _ _ _ => rfl) (fun f c' cl A outer s H E hr => (Ti (pv 1) Wx (hr.mono (by decide)) (NK M2 (fun _ _ h => h)) (VR (hs := Wq) (pv 0) VT))) (by
    walk_at"rd";obtain ⟨n1, hn1⟩ := BS (H := H1) sx1;exact ⟨hU1.mt rfl, p, db, dc, lc, U, x1, n1, rfl, hU1, hn1, .inl ⟨w1, rfl, VP.refl _⟩⟩)
  have R8:∀H1,VP Z8 H1->JS _ 14 f8 H1 S (fun _ _=>False) (fun c _ H'=>c= .ref NT/\VP H1 H'):=fun H1 s1=>by
   have hU1 := hU.mono s1;rw [eS];exact Mo (k := 13) (Tc d8.v s1) (N7 (N' := ["_law_post", "_law_room", "_law_time"]) (caps := [some 0, some 10, some 6]) (sc := VO TX) (N := ["_law_post", "_law_now", "_law_letters", "_law_cell", "_law_plain", "_law_kept", "_law_time", "_law_odd", "_law_names", "_law_width", "_law_room", "_law_some"]) rfl rfl (by decide +kernel)) (fun _ _ _ _ => rfl) (fun f c' cl A outer s H E hr => (GG JO (hr.mono (by decide)) rfl (NK M2 (fun _ _ h => h)) (VR (hs := Wq) (pv 0) (VR (hs := Wq) (pv 1) (VR (hs := Wq) (pv 2) VT))))) (by
    walk_at"rd";obtain⟨n1,hn1⟩:=BS (H:=H1) sx1;have mx:D2 U.now 0=U.now:=by unfold D2;rw[Y2 (by omega)]
    exact ⟨p, db, dc, lc, m, dr, df, dw, U, 0, 0, x1, n1, rfl, hU1, hRm.mono s1, hn1, .inl ⟨by rw [mx]; exact w1, rfl, VP.refl _⟩⟩)
  have hes:∀e∈[(q1,("time":Str),f1,NT),(q2,("letter":Str),f2,NL),(q3,("road":Str),f3,NR),(q4,("width":Str),f4,NW),(q5,("wide":Str),f5,TW),(q6,("wide":Str),f6,TW),(q7,("time":Str),f7,NT),(q8,("time":Str),f8,NT)],uE _ Z8 S K CW cs e:=YJ.mpr ⟨⟨d1.tt,R1,KT⟩,YJ.mpr ⟨⟨d2.tt,R2,KL⟩,YJ.mpr ⟨⟨d3.tt,R3,KR⟩,YJ.mpr ⟨⟨d4.tt,R4,KW⟩,YJ.mpr ⟨⟨d5.tt,R5,KTW⟩,YJ.mpr ⟨⟨d6.tt,R6,KTW⟩,YJ.mpr ⟨⟨d7.tt,R7,KT⟩,YJ.mpr ⟨⟨d8.tt,R8,KT⟩,nofun⟩⟩⟩⟩⟩⟩⟩⟩;obtain⟨es,ees⟩:∃es:List (Addr×Str×Addr×Addr),es=[(q1,("time":Str),f1,NT),(q2,("letter":Str),f2,NL),(q3,("road":Str),f3,NR),(q4,("width":Str),f4,NW),(q5,("wide":Str),f5,TW),(q6,("wide":Str),f6,TW),(q7,("time":Str),f7,NT),(q8,("time":Str),f8,NT)]:=⟨_,rfl⟩;rw[<-ees]at hes;have hbl:Z8 bl=some (.lst (es.map fun e=>V.ref e.1)):=by rw[ees];exact u
  have hD:es.map (·.2.1)=[("time":Str),"letter","road","width","wide","wide","time","time"]:=by rw[ees];rfl
  have hel:es.length=8:=by rw[ees];rfl
  rw[<-eS]
  replace eS:S[11]?=some (some (.ref bl)):=by rw[eS];rfl
  clear R1 R2 R3 R4 R5 R6 R7 R8 d1 d2 d3 d4 d5 d6 d7 d8 ees u w1 w2 w3 w4 hLZ hRm;walk_at"rd";have hok:∀x∈es.map (·.2.1),JC x:=by
   rw[hD];simp only[Y6,Yl,YL];rintro x (rfl|rfl|rfl|rfl|rfl|rfl|rfl|rfl) <;> exact⟨by decide +kernel,by decide +kernel,by decide +kernel⟩
  have take1:∀{i:Nat} {e:Addr×Str×Addr×Addr},es[i]?=some e->(es.take (i+ 1)).map (fun e=>V.str e.2.1)=(es.take i).map (fun e=>V.str e.2.1)++[V.str e.2.1]:=fun he=>by rw[Yz,he,YI,Yp];rfl
  refine⟨_,eS,bl,rfl,⟨_,VZ.of hbl⟩,?_⟩;obtain⟨Pv,ePv⟩:∃Pv:Nat->List V->L2.St->Hp->Prop,Pv=fun i ys σ' H'=>ys=(es.take i).map (fun e=>V.str e.2.1)/\(∃v v',σ'=[v,v'])/\VP Z8 H':=⟨_,rfl⟩
  refine Db (xs:=es.map fun e=>V.ref e.1) Pv (by rw[ePv];exact⟨rfl,⟨none,none,rfl⟩,VP.refl _⟩) ?_ (Wi (by rw[List.length_map,hel];decide)) ?_ ?_
  .rintro i ys σ' H' hP hi;rw[ePv]at hP;obtain⟨rfl,_,sH⟩:=hP;refine⟨VZ.of (sH _ _ hbl),?_⟩;rw[List.length_map,YD];omega
  .rintro i x ys σ' H' hx hP;obtain⟨v,v',rfl⟩:∃v v',σ'=[v,v']:=by rw[ePv]at hP;exact hP.2.1
   rw[Yk]at hx;obtain⟨e,he,rfl⟩:=YA.mp hx;have hE:=hes e (Yd he);have sH:VP Z8 H':=by rw[ePv]at hP;exact hP.2.2
   walk_at"rd";refine⟨_,JN.of (sH _ _ hE.tt),rfl,_,_,rfl,_,_,rfl,rfl,_,rfl,_,hE.lv _ sH,fun C H2 h2=>?_⟩;obtain⟨eC,s2⟩:=h2;cases eC;refine⟨_,hE.kd,fun G s3=>?_⟩;rw[ePv]at hP ⊢;obtain⟨rfl,_,_⟩:=hP;exact⟨(take1 he).symm,⟨_,_,rfl⟩,(sH.trans s2).trans s3⟩
  .rintro ys σ' H' hP l1 G1 hl1 s1 g1;rw[ePv]at hP;obtain⟨rfl,_,sH⟩:=hP;clear ePv Pv;rw[List.length_map,YO]at g1;have sZ:=sH.trans s1;have hb1:=sZ _ _ hbl;refine⟨_,eS,bl,rfl,⟨_,VZ.of hb1⟩,?_⟩;obtain⟨Pv,ePv⟩:∃Pv:Nat->List V->L2.St->Hp->Prop,Pv=fun i ys σ' H'=>ys=(es.take i).map (fun e=>V.str e.2.1)/\(∃v v',σ'=[v,v'])/\H'=G1:=⟨_,rfl⟩
   refine Db (xs:=es.map fun e=>V.ref e.1) Pv (by rw[ePv];exact⟨rfl,⟨none,none,rfl⟩,rfl⟩) ?_ (Wi (by rw[List.length_map,hel];decide)) ?_ ?_ <;> rw[ePv]
   .rintro i ys σ' H' ⟨rfl,_,rfl⟩ hi;refine⟨VZ.of hb1,?_⟩;rw[List.length_map,YD];omega
   .intro i x ys σ' H' hx Zq;obtain⟨rfl,⟨v,v',rfl⟩,rfl⟩:=Zq;rw[<-ePv];rw[Yk]at hx;obtain⟨e,he,rfl⟩:=YA.mp hx;walk_at"rd";refine⟨_,JN.of (sZ _ _ (hes e (Yd he)).tt),rfl,_,_,rfl,_,_,rfl,rfl,?_⟩;rw[ePv];exact⟨(take1 he).symm,⟨_,_,rfl⟩,rfl⟩
   .rintro ys σ' H' ⟨rfl,_,rfl⟩ l2 G2 hl2 s2 g2;rw[List.length_map,YO]at g2;have em:es.map (fun e=>V.str e.2.1)=(es.map (·.2.1)).map V.str:=by rw[YB];rfl
    rw[em]at g1 g2;refine⟨_,_,Gw (s2 _ _ g1),Gw g2,Gx hok,Gx hok,?_⟩;rw[Bl];have mZ:=g.same (sZ.trans s2);exact q G2 ⟨fun b o e n=>mZ.kq b o (sA _ _ e) n,mZ.tb⟩
abbrev WN:Str:=(("_law_late_room":Str)++(".<locals>.":Str))++("<lambda>":Str)
inductive He(C CRo CP T:VI)(vs:List V)(H:Hp)(Q:VK)(E:XK):Prop|mk (p db dc lc:VI) (U:NE) (c:Int) (_:vs=[.ref p,.int U.now,.int c]) (_:W6 C CRo CP H p db dc lc U) (_:0 <=U.now) (_:Ji H T WN) (_:∀G,Sv T WN H G->Q (.bl true) G)
abbrev AL:Stmt:=WW 74
theorem OM:WQ ["_law_post","_law_now","_law_cell","_law_room"] ["_law_post","_law_now","_law_cell"] (VO AL):=by walk_at"e"
theorem uB{f c0 T TF C CRo CP Cm CW NT:VI}{cs:List Addr}{fd:VD}(F:Nw K "_law_late_room" "_law_late_room" AL f fd (.ref c0))(LM:Dq K Cm)(LC:JG mg base c0 T)(KT:Mc K CW cs NT "time")(JL:JA P w K mg base "_law_sort" 15 ["_law_deed"] [] (JZ P w K mg base 14 CW cs))
  (NZ:Tt P w K mg base "Room" 3 (A0 Cm)) (Jn:N0 P w K mg base Cm "tick" 4 ["self","time"] [] (C5 Cm)) (JO:Gv P w K mg base "carry" 10 ["post","room","time"] [] (B7 C CRo CP Cm TF NT)):VW P w K mg base WK 16 f fd ["_law_post","_law_now","_law_cell"] (He C CRo CP T):=by
 have a:=A4 (P:=P) (w:=w) (K:=K) (mg:=mg) (base:=base) (kA:=14) (W:=CW) (cs:=cs);refine F.ok OM (fun vs H Q E h=>?_) (fun A outer s H vs Q E i h=>?_)
 .obtain⟨p,db,dc,lc,U,c,rfl,_⟩:=h;rfl
 .obtain⟨p,db,dc,lc,U,c,rfl,u,h0,tb,q⟩:=h;refine⟨_,(@W1 _ _ _ _ _ (@T5 _ _ 3 _ _ _ _ (OM).nd rfl (Or.inr rfl) (D9 NZ i.m rfl (@VR _ _ _ _ _ (@Wm _ _ _ _) (@VR _ _ _ _ _ (@W3 _ _ _ _) (@VR _ _ _ _ _ (@W3 _ _ _ _) (@VR _ _ _ _ _ (@Wm _ _ _ _) (@VR _ _ _ _ _ (@Wm _ _ _ _) VT W7) W7) W7) W7) W7)) (by rfl) (Or.inl rfl)) (@W1 _ _ _ _ _ (JR (Mt (VQ 3) Jn i.m (@VR _ _ _ _ _ (@J0 _ _ _ _ _ _ _ _ (Jp NH) (@J0 _ _ _ _ _ _ _ _ (Jp NH) (VQ 1) (@W3 _ _ _ _)) (@J0 _ _ _ _ _ _ _ _ (dI MN) (VQ 2) (@W3 _ _ _ _))) VT TU))) (@W1 _ _ _ _ _ (Jj (N8 (Gj DP) (Fd (k:=13) (q:=WN) (N':=["_law_post","_law_room","_law_now"]) (caps:=[some 0,some 3,some 1]) JL i.m rfl (fun _=>rfl) LC rfl rfl (N7 (sc:=VO AL) (N:=["_law_post","_law_now","_law_cell","_law_room"]) rfl rfl (by decide +kernel)) rfl (fun _ _ _ _=>rfl) (fun f c' cl A outer s H E i=>(GG JO i.m rfl (NK M2 (fun _ _ h=>h)) (@VR _ _ _ _ _ (VQ 0) (@VR _ _ _ _ _ (VQ 1) (@VR _ _ _ _ _ (@J0 _ _ _ _ _ _ _ _ (Jp NH) (VQ 2) (@W3 _ _ _ _)) VT TU) Wq) Wq))) a) (@Wm _ _ _ _)) (@Wc _ _ _ (@WL _ _ _ _ TQ)) Jw) (@Wc _ _ _ (@WL _ _ _ _ (Ts (Rt Ry) (WG K (VQ 3)) (@J0 _ _ _ _ _ _ _ _ (Jp NH) (@J0 _ _ _ _ _ _ _ _ (Jp NH) (VQ 1) (@W3 _ _ _ _)) (@J0 _ _ _ _ _ _ _ _ (dI MN) (VQ 2) (@W3 _ _ _ _))) (TV _))))))),?_⟩;refine We fun N d=>?_
  walk_at"rd";refine⟨rfl,fun m dr df dw G1 hm hdr hdf hdw s1 j=>d _ _ ?_⟩;clear d N;refine We fun N d=>?_
  walk_at"rd";refine⟨j.ins.mt rfl,by decide,m,dr,df,dw,0,_,0,rfl,j,by omega,fun l v hl k2 hR2 e2=>d _ _ ?_⟩;clear d N;have g:VP H v:=fun b o e=>k2 b o (s1 b o e) (WJ e hm)
  replace u:=u.mono g
  replace tb:=tb.same g
  clear e2 k2 j s1;refine We fun N d=>?_
  walk_at"rd";refine⟨tb,fun G3 b3 t3=>?_⟩;have z:=(⟨fun _ _ e _=>e,tb⟩:Sv T WN v v).tab b3 t3;have kt:=z.kt tb;have r:=hR2.kt kt;refine⟨p,db,dc,lc,m,dr,df,dw,U,_,0,_,_,rfl,u.butT kt,r,rfl,.inl ⟨?_,NT,rfl,_,KT,fun G4 x=>⟨rfl,?_⟩⟩⟩
  .exact Yt (by unfold D2;split <;> omega)
  .rw[Y2 (by simp)];refine d _ _ ?_;clear d N;walk_at"rd";refine⟨_,(r.mono x).ins.fld LM.cl LM.now rfl,?_⟩;refine⟨by decide,rfl,?_⟩;rw[Yw rfl];have y:=z.same x;exact q G4 ⟨fun b o e n=>y.kq b o (g _ _ e) n,y.tb⟩
theorem Nm.pos{d:PD}:∀{es:List PD} {lo hi:Nat},hi <=d.ns.length->Nm d lo hi es->∀e∈es,1 <=e.ns.length/\e.ns.length <=d.ns.length
 |[],_,_,_,_=>fun _ h=>absurd h Yl
 |e::es,lo,hi,hh,⟨m,k1,k2,k3,_,h⟩=>fun x hx=>by
  have hlen:e.ns.length=m - lo:=by rw[k3];exact PD.part_len (by omega) (by omega)
  rcases Y6.mp hx with rfl|hx
  .exact⟨by omega,by omega⟩
  .exact Nm.pos hh h x hx
def rA:MY:=⟨[40],3,[5]⟩
def rR:MY:=⟨[4000,24],7,[]⟩
def Tl(n m:Int)(cs:List (Int×PD)):AP:=⟨[⟨"a",rA,n⟩,⟨"road",rR,m⟩],cs⟩
theorem Kl:∀{ws:List Nat} {d:PD},(∀w∈ws,d.ns.length <=w)->WM ws [d]=[d]
 |[],d,_=>rfl
 |w::ws,d,h=>by
  rw[yO,Ff,E3 (h w Yq)];exact Kl fun x hx=>h x (Ya _ hx)
theorem Pj{t n m:Int}{d:PD}{cs:List (Int×PD)}(h:d.ns.length <=40):TD t "a" d (Tl n m cs)=Tl (n+ 1) m (cs++if n∈[5] then [] else [(t+ 3,d)]):=by
 have e:WM rA.ws [d]=[d]:=Kl fun w b=>by simp[rA]at b;omega
 show(⟨EM "a" (Tl n m cs).rs,cs++RU t d ⟨"a",rA,n⟩⟩:AP)=_;unfold RU;rw[e];rfl
theorem P3{t n m:Int}{d:PD}{cs:List (Int×PD)}(h:d.ns.length <=24):TD t "road" d (Tl n m cs)=Tl n (m+ 1) (cs++[(t+ 7,d)]):=by
 have e:WM rR.ws [d]=[d]:=Kl fun w a=>by simp[rR]at a;omega
 show(⟨EM "road" (Tl n m cs).rs,cs++RU t d ⟨"road",rR,m⟩⟩:AP)=_;unfold RU;rw[e];rfl
theorem Ci{U:NE}{n m:Int}{cs:List (Int×PD)}(h:EQ U=Tl n m cs):M9 U.rs/\TZ U.cs=cs/\∃e1 e2,U.rs=[e1,e2]/\e1.nm="a"/\e2.nm="road"/\e1.r=rA/\e2.r=rR/\e1.n=n/\e2.n=m:=by
 have h1:Dj U.rs=[⟨"a",rA,n⟩,⟨"road",rR,m⟩]:=YH AP.rs h;have h2:TZ U.cs=cs:=YH AP.cs h;obtain⟨e1,e2,c⟩:∃e1 e2,U.rs=[e1,e2]:=by
  have:=YH List.length h1;unfold Dj at this;rw[List.length_map]at this
  match hrs:U.rs,this with
  |[e1,e2],_=>exact⟨e1,e2,rfl⟩
 unfold Dj at h1;rw[c]at h1;simp only[List.map_cons,List.map_nil,List.cons.injEq,AR.mk.injEq,and_true]at h1;obtain⟨⟨g,j,o⟩,f,i,l⟩:=h1;have ne:("a":Str)≠"road":=by decide +kernel
 refine⟨⟨?_,fun e b d=>?_,fun e b d=>?_⟩,h2,e1,e2,c,g,f,j,i,o,l⟩
 .rw[c,List.map_cons,List.map_cons,g,f];rfl
 .rw[c]at b;simp only[Y6,Yl,YL]at b;rcases b with rfl|rfl
  .rw[j];rfl
  .exact absurd (d.symm.trans f) ne
 .rw[c]at b;simp only[Y6,Yl,YL]at b;rcases b with rfl|rfl
  .exact absurd (g.symm.trans d) ne
  .rw[i];rfl
theorem Ri{t n m:Int}{d:PD}{cs:List (Int×PD)}(h:d.ns.length <=40)(hn:n≠5):TD t "a" d (Tl n m cs)=Tl (n+ 1) m (cs++[(t+ 3,d)]):=by
 rw[Pj h,Y2 (by simpa using hn)]
theorem Sj{t m:Int}{d:PD}{cs:List (Int×PD)}(h:d.ns.length <=40):TD t "a" d (Tl 5 m cs)=Tl (5+ 1) m cs:=by
 rw[Pj h,Y9 (by simp),List.append_nil]
structure Gr(C CRo CP:VI)(H:Hp)(p db dc lc:VI)(U:NE)(n m:Int)(cs:List (Int×PD)):Prop where
 po:W6 C CRo CP H p db dc lc U
 ap:EQ U=Tl n m cs
 nb:∀c∈U.cs,c.b≠lc
 nr:∀x∈U.rs,x.lw≠lc/\x.ll≠lc
theorem Gr.mono{C CRo CP p db dc lc:VI}{H G:Hp}{U:NE}{n m:Int}{cs:List (Int×PD)}(h:Gr C CRo CP H p db dc lc U n m cs)(s:VP H G):Gr C CRo CP G p db dc lc U n m cs:=⟨h.po.mono s,h.ap,h.nb,h.nr⟩
theorem CG{C CRo CP CL NT NL NR NW TW p db dc lc q b ln:VI}{H:Hp}{Q:VK}{E:XK}{U:NE}{t n m n' m':Int}{cs cs':List (Int×PD)}{d:LD}{w:Nat}{ns:List Str}(h:Gr C CRo CP H p db dc lc U n m cs)(ht:U.now <=t)(hL:Jt CL H q b d)(hd:d.ns.length=40)(w8:8 <=w)(w5:w <=5000)(hk:d.k=true->40 <=w)
  (hln:H ln=some (.lst (ns.map V.str))) (n1:1 <=ns.length) (n2:ns.length <=100) (hns:∀x∈ns,x="a"\/x="road") (hnw:∀rs,M9 rs->¬Te rs ns (Wa w d.whole 0)) (nln:ln≠lc) (few:cs.length <=1000) (hs:Gm t ns 0 (Wa w d.whole 0) (Tl n m cs)=Tl n' m' cs')
  (k:∀U' G,(∀c o,H c=some o->c≠lc->c≠dc->c≠p->G c=some o)->Gr C CRo CP G p db dc lc U' n' m' cs'->U'.now=t->Q (.int (Wa w d.whole 0).length) G):Ep K C CRo CP CL NT NL NR NW TW [.ref p,.int t,.ref q,.int w,.ref ln] H Q E:=by
 obtain⟨f,u,e1,e2,hr,_⟩:=Ci h.ap;have s:∀x∈ns,JC x/\x∈U.rs.map (·.nm):=fun x i=>by
  rw[f.nm];rcases hns x i with rfl|rfl
  .exact⟨Bg,by simp⟩
  .exact⟨EA,by simp⟩
 obtain⟨o1,o2⟩:=A1 hln n1 n2 s;have hwl:d.whole.ns.length=40:=hd;have r:=Nm.pos (Y1 _) (Cy (d:=d.whole) w8 _ 0 (Y1 _) (by omega) rfl);have hcl:U.cs.length=cs.length:=by
  have:=YH List.length u;unfold TZ at this;rw[List.length_map]at this;exact this
 refine⟨p,db,dc,lc,U,_,_,_,_,_,rfl,h.po,rfl,.inr ⟨t,rfl,ht,.inr ⟨q,b,d,_,rfl,hL,Ww hln,o2,.inr ⟨o1,_,rfl,.inr ⟨w,rfl,w8,w5,(fun z1 z2=>absurd (hk z1) (by omega)),fun _=>⟨ln,ns,rfl,hln,n1,n2,fun x i=>f.has (by rw[<-f.nm];exact(s x i).2),(fun y j e he _=>OI (r y j).1 (by have:=(r y j).2;omega) (f.wok he)),fun z=>absurd z (hnw _ f),fun _=>⟨h.nb,h.nr,nln,by rw[hr];simp,by omega,fun U' G kp v S=>?_⟩⟩⟩⟩⟩⟩⟩;refine k U' G kp ⟨v,by rw[S.ab,h.ap,hs],fun c g=>?_,fun x i=>?_⟩ S.now
 .obtain⟨cs2,e,f1,_⟩:=S.cs;rw[e]at g;rcases YG.mp g with g|g
  .exact h.nb c g
  .exact Ne.symm (WJ h.po.hl (f1 c g))
 .obtain⟨z',l,_,_,z3,z4,_⟩:=Jv.mem S.rs.symm i;rw[<-z3,<-z4];exact h.nr z' l
theorem jY{w:Nat}{ws:List Nat}(hw:∀x∈ws,8 <=x):∀{ds:List PD},(∀d∈ds,d.k=false)->¬Du ws ds:=by
 induction ws with
 |nil=>exact fun _ z=>z
 |cons x ws ih=>
  intro ds hd z;rcases z with⟨d,a,b,_⟩|z
  .rw[hd d a]at b;cases b
  .exact ih (fun y c=>hw y (Ya _ c)) (fun e f=>by obtain⟨d,h1,_,_,g⟩:=QN (hw x Yq) f;rw[g];exact hd d h1) z
theorem K4{d:LD}{w:Nat}{ns:List Str}(w8:8 <=w)(hk:d.k=false):∀rs,M9 rs->¬Te rs ns (Wa w d.whole 0):=fun rs b zz=>by
 rcases zz with⟨i,x,e,h1,h2,g,f⟩
 refine jY (w:=0) (fun y a=>(b.wok h2 y a).1) (fun y a=>?_) f;rw[Yn.mp a];obtain⟨h,h5,_,_,c⟩:=QN (ds:=[d.whole]) w8 (by rw[Ff];exact Yd h1);rw[c,Yn.mp h5];exact hk
theorem Al{d:PD}(h:d.ns.length=40):Wa 8 d 0=[d.part 0 8,d.part 8 16,d.part 16 24,d.part 24 32,d.part 32 40]:=by
 have f:Jk 8=8:=rfl;rw[RP (by omega) (by omega),f,RP (by omega) (by omega),f,RP (by omega) (by omega),f,RP (by omega) (by omega),f,Eu (by omega),h]
def Bf(t:Int)(d:PD):List (Int×PD):=[(t+ 3,d.part 0 8),(t+ 7,d.part 8 16),(t+ 3,d.part 16 24),(t+ 7,d.part 24 32),(t+ 3,d.part 32 40)]
def IZ(t:Int)(d:PD):List (Int×PD):=[(t+ 3,d.part 0 8),(t+ 3,d.part 8 16),(t+ 3,d.part 24 32),(t+ 3,d.part 32 40)]
theorem LB{d:PD}(lo hi:Nat):(d.part lo hi).ns.length <=hi - lo:=by
 show((d.ns.drop lo).take (hi - lo)).length <=_;rw[YD];omega
theorem u9{t:Int}{d:PD}(h:d.ns.length=40):Gm t ["a","road"] 0 (Wa 8 d 0) (Tl 0 0 [])=Tl 3 2 (Bf t d):=by
 rw[Al h];show TD t "a" _ (TD t "road" _ (TD t "a" _ (TD t "road" _ (TD t "a" _ (Tl 0 0 [])))))=_
 have l:=LB (d:=d);rw[Ri (Yu (l _ _) (by decide)) (by decide),P3 (Yu (l _ _) (by decide)),Ri (Yu (l _ _) (by decide)) (by decide),P3 (Yu (l _ _) (by decide)),Ri (Yu (l _ _) (by decide)) (by decide)];rfl
theorem tO{t:Int}{d:PD}{cs:List (Int×PD)}(h:d.ns.length=40):Gm t ["a"] 0 (Wa 8 d 0) (Tl 3 2 cs)=Tl 8 2 (cs++IZ t d):=by
 rw[Al h];show TD t "a" _ (TD t "a" _ (TD t "a" _ (TD t "a" _ (TD t "a" _ (Tl 3 2 cs)))))=_
 have l:=LB (d:=d);rw[Ri (Yu (l _ _) (by decide)) (by decide),Ri (Yu (l _ _) (by decide)) (by decide)];show TD t "a" _ (TD t "a" _ (TD t "a" _ (Tl 5 2 _)))=_
 rw[Sj (Yu (l _ _) (by decide)),Ri (Yu (l _ _) (by decide)) (by decide),Ri (Yu (l _ _) (by decide)) (by decide)];simp only[UR];rfl
theorem Ob{t n m:Int}{d:PD}{ns:List Str}{cs:List (Int×PD)}(h:d.ns.length=40)(hn:n≠5)(ha:ns.getD (0%ns.length) ""="a"):Gm t ns 0 (Wa 40 d 0) (Tl n m cs)=Tl (n+ 1) m (cs++[(t+ 3,d)]):=by
 rw[E3 (by omega)];show TD t (ns.getD (0%ns.length) "") d (Tl n m cs)=_;rw[ha,Ri (by omega) hn]
theorem gI{d:LD}{ns:List Str}(h:d.ns.length=40)(ha:ns[0%ns.length]?=some "a"):∀rs,M9 rs->¬Te rs ns (Wa 40 d.whole 0):=fun rs c zz=>by
 rcases zz with⟨i,x,e,h1,h2,f,b⟩
 have g:d.whole.ns.length=40:=h;rw[E3 (by omega)]at h1;obtain rfl:i=0:=by
  have:=(Y5.mp h1).1;simp at this;exact this
 cases h1;rw[ha]at f;rw[c.wa e h2 (Yo f).symm]at b;rcases b with⟨y,h5,_,h6⟩|b
 .rw[Yn.mp h5]at h6;omega
 .exact b
section
variable{C CRo CP CL p db dc lc tl a k ba bk T:VI}{H G:Hp}{U:NE}{da dk:LD}{q:Str}
theorem T8.kp(h:T8 CL H tl a k ba bk da dk)(hU:W6 C CRo CP H p db dc lc U)(ncl:CL≠C)(nba:ba≠lc)(nbk:bk≠lc)(kp:∀c o,H c=some o->c≠lc->c≠dc->c≠p->G c=some o):T8 CL G tl a k ba bk da dk:=by
 obtain⟨dx,fs,g,_⟩:=hU.ex;have f:∀{l b:VI} {d:LD},Jt CL H l b d->b≠lc->Jt CL G l b d:=fun {l b d} h nb=>by
  obtain⟨i,fs',hl⟩:=h.ins;exact⟨h.ok,h.ats.same (fun o e=>kp _ _ e (VS hl hU.hl nofun) (VS hl hU.hc nofun) (VS hl g (by intro z;injection z with z;exact ncl z))),kp _ _ h.bd nb (VS h.bd hU.hc nofun) (VS h.bd g nofun)⟩
 exact⟨kp _ _ h.tt (VS h.tt hU.hl nofun) (VS h.tt hU.hc nofun) (VS h.tt g nofun),f h.la nba,f h.lk nbk,h.ka,h.kk,h.na,h.nk⟩
theorem A7(t:Ji H T q)(hU:W6 C CRo CP H p db dc lc U)(kp:∀c o,H c=some o->c≠lc->c≠dc->c≠p->G c=some o):Ji G T q:=by
 obtain⟨dx,fs,b,_⟩:=hU.ex;refine t.of fun a o h k=>kp a o h (fun z=>?_) (fun z=>?_) (fun z=>?_)
 .rw[z,hU.hl]at h;cases h;rcases k with⟨_,k⟩|⟨_,k⟩ <;> cases k
 .rw[z,hU.hc]at h;cases h;rcases k with⟨_,k⟩|⟨_,k⟩ <;> cases k
 .rw[z,b]at h;cases h;rcases k with⟨_,k⟩|⟨_,k⟩ <;> cases k
end
end
section
variable{P:VB}{w:VF}{K:VG}{mg:Vx}{base:VM}
abbrev Gn:Str:=(("_law_behind":Str)++(".<locals>.":Str))++("<lambda>":Str)
theorem D1{T T':VI}{q q':Str}{H G:Hp}(t:Ji H T q)(t':Ji H T' q')(n:T≠T')(k:∀b o,H b=some o->b≠T'->G b=some o):Ji G T q:=by
 obtain⟨ps,h1,h2,f⟩:=t;obtain⟨j,c,_⟩:=t';refine⟨ps,k _ _ h1 n,h2,fun pos i e=>?_⟩;obtain⟨c',d,vs,t,h,a,g⟩:=f pos i e;exact⟨c',d,vs,t,h,k _ _ a (fun z=>by subst z;rw[c]at a;cases a),g⟩
theorem Pk{T T':VI}{q q':Str}{H G:Hp}(t:Ji H T q)(t':Ji H T' q')(n:T≠T')(k:∀b o,H b=some o->b≠T'->(∀C dx fs,o≠ .ins C dx fs)->(∀xs,o≠ .dT xs)->G b=some o):Ji G T q:=by
 obtain⟨ps,h1,h2,f⟩:=t;obtain⟨j,c,_⟩:=t';refine⟨ps,k _ _ h1 n nofun nofun,h2,fun pos i e=>?_⟩;obtain⟨c',d,vs,t,h,a,g⟩:=f pos i e;exact⟨c',d,vs,t,h,k _ _ a (fun z=>by subst z;rw[c]at a;cases a) nofun nofun,g⟩
inductive FN(C CRo CP CL T TF:VI)(vs:List V)(H:Hp)(Q:VK)(E:XK):Prop|mk (p db dc lc tl a k ba bk:VI) (da dk:LD) (U:NE) (t m:Int) (_:vs=[.ref p,.ref tl,.int t]) (_:Gr C CRo CP H p db dc lc U 8 m []) (_:T8 CL H tl a k ba bk da dk) (_:U.now=t+ 7) (_:1 <=t) (_:Ji H T Gn) (_:Ji H TF GK) (_:T≠TF) (_:ba≠lc) (_:bk≠lc) (_:∀G,Q (.bl true) G)
abbrev Dc:Stmt:=WW 75
theorem Lg:WQ ["_law_post","_law_letters","_law_now","_law_some","_law_events"] ["_law_post","_law_letters","_law_now"] (VO Dc):=by walk_at"e"
theorem y7{f c0 T TF C CRo CP CL Cm CW NT NL NR NW TW:VI}{cs:List Addr}{fd:VD}(F:Nw K "_law_behind" "_law_behind" Dc f fd (.ref c0))(LM:Dq K Cm)(LC:JG mg base c0 T)(KT:Mc K CW cs NT "time")(ncl:CL≠C)(JL:JA P w K mg base "_law_sort" 15 ["_law_deed"] [] (JZ P w K mg base 14 CW cs))
  (NZ:Tt P w K mg base "Room" 3 (A0 Cm)) (W5:MW P w K mg base C "send" 13 ["self","time","letter","width","names"] [] (Ep K C CRo CP CL NT NL NR NW TW)) (Wx:MW P w K mg base C "fetch" 9 ["self","time"] [] (EH C CRo CP TF NT)) (WE:N0 P w K mg base C "next_time" 1 ["self"] [] (Ad C CRo CP)) (JO:Gv P w K mg base "carry" 10 ["post","room","time"] [] (B7 C CRo CP Cm TF NT)):VW P w K mg base WK 16 f fd ["_law_post","_law_letters","_law_now"] (FN C CRo CP CL T TF):=by
 have n:=A4 (P:=P) (w:=w) (K:=K) (mg:=mg) (base:=base) (kA:=14) (W:=CW) (cs:=cs);refine F.ok Lg (fun vs H Q E h=>?_) (fun A outer s H vs Q E j h=>?_)
 .obtain⟨p,db,dc,lc,tl,a,k,ba,bk,da,dk,U,t,m,rfl,_⟩:=h;rfl
 .obtain⟨p,db,dc,lc,tl,a,k,ba,bk,da,dk,U,t,m,rfl,hU,hL,hn,ht,tb,tf,ntf,nba,nbk,q⟩:=h;refine⟨_,(@W1 _ _ _ _ _ (@T5 _ _ 3 _ _ _ _ (Lg).nd rfl (Or.inl rfl) (@WO _ _ _ _ VT) (by rfl) (Or.inl rfl)) (@W1 _ _ _ _ _ (JR (@Nu _ K _ _ _ _ _ _ _ _ _ _ _ rfl Yc Yf Yg (Tn Tq) (VQ 3) (@VR _ _ _ _ _ (Mj (q:=Gn) LC rfl rfl (N7 (N':=["_law_post","_law_now","_law_letters"]) (caps:=[some 0,some 2,some 1]) (sc:=VO Dc) (N:=["_law_post","_law_letters","_law_now","_law_some","_law_events"]) rfl rfl (by decide +kernel)).vis rfl) VT Mx) (by rfl) (by rfl) (by rfl) (by rfl) (by rfl))) (@W1 _ _ _ _ _ (JR (@Nu _ K _ _ _ _ _ _ _ _ _ _ _ rfl Yc Yf Yg (Tn Tq) (VQ 3) (@VR _ _ _ _ _ (Mj (q:=Gn) LC rfl rfl (N7 (N':=["_law_post","_law_now"]) (caps:=[some 0,some 2]) (sc:=VO Dc) (N:=["_law_post","_law_letters","_law_now","_law_some","_law_events"]) rfl rfl (by decide +kernel)).vis rfl) VT Mx) (by rfl) (by rfl) (by rfl) (by rfl) (by rfl))) (@W1 _ _ _ _ _ (JR (@Nu _ K _ _ _ _ _ _ _ _ _ _ _ rfl Yc Yf Yg (Tn Tq) (VQ 3) (@VR _ _ _ _ _ (Mj (q:=Gn) LC rfl rfl (N7 (N':=["_law_post","_law_now"]) (caps:=[some 0,some 2]) (sc:=VO Dc) (N:=["_law_post","_law_letters","_law_now","_law_some","_law_events"]) rfl rfl (by decide +kernel)).vis rfl) VT Mx) (by rfl) (by rfl) (by rfl) (by rfl) (by rfl))) (@W1 _ _ _ _ _ (Jj (N8 (BQ (K:=K) (Room.units j) rfl) (FX (N':=["_law_deed"]) (caps:=[none]) (Me (sc:=VO Dc) (N:=["_law_post","_law_letters","_law_now","_law_some","_law_events"]) rfl rfl (by decide +kernel)) rfl (TK (K:=K) rfl (VQ 3)) (fun _ _ _ _ _=>(Tg (i:=0) (TH (N:=["_law_deed"]) rfl (by decide +kernel)) rfl (Or.inl rfl))) (fun _ _ _ _ _=>D5) (fun _ _ _ _ _ _ _ I f2=>(Ka I f2 JL j.m rfl (fun _=>rfl) (VQ 0) n))) (@J0 _ _ _ _ _ _ _ _ (BR Bp) (@WO _ _ _ _ (@VR _ _ _ _ _ (@Wm _ _ _ _) VT W7)) (@W3 _ _ _ _))) (@Wc _ _ _ (@WL _ _ _ _ TQ)) Jw) (@W1 _ _ _ _ _ (Jj (PW.pt (Mf (N8 (Gj DP) (Ti (VQ 0) W5 j.m DR (@VR _ _ _ _ _ (@J0 _ _ _ _ _ _ _ _ (Jp NH) (VQ 2) (@W3 _ _ _ _)) (@VR _ _ _ _ _ (@Mi _ _ _ _ _ _ _ (RN (Rp (K:=K) rfl)) (VQ 1) (@W3 _ _ _ _) (fun _ _=>rfl)) (@VR _ _ _ _ _ (@W3 _ _ _ _) (@VR _ _ _ _ _ (@WO _ _ _ _ (@VR _ _ _ _ _ (@Wm _ _ _ _) VT W7)) VT Nk) W7) E5) TU)) (@W3 _ _ _ _)) (Mr (N8 (Gj DP) (Ti (VQ 0) W5 j.m DR (@VR _ _ _ _ _ (@J0 _ _ _ _ _ _ _ _ (Jp NH) (VQ 2) (@W3 _ _ _ _)) (@VR _ _ _ _ _ (@Mi _ _ _ _ _ _ _ (RN (Rp (K:=K) rfl)) (VQ 1) (@W3 _ _ _ _) (fun _ _=>rfl)) (@VR _ _ _ _ _ (@W3 _ _ _ _) (@VR _ _ _ _ _ (@WO _ _ _ _ (@VR _ _ _ _ _ (@Wm _ _ _ _) (@VR _ _ _ _ _ (@Wm _ _ _ _) VT W7) W7)) VT Nk) W7) E5) TU)) (@W3 _ _ _ _))))) (@Wc _ _ _ (@WL _ _ _ _ TQ)) Jw) (@W1 _ _ _ _ _ (Jj (PW.pt (Mf (N8 (Gj DP) (Fd (k:=13) (q:=Gn) (N':=["_law_post","_law_now"]) (caps:=[some 0,some 2]) JL j.m rfl (fun _=>rfl) LC rfl rfl (N7 (sc:=VO Dc) (N:=["_law_post","_law_letters","_law_now","_law_some","_law_events"]) rfl rfl (by decide +kernel)) rfl (fun _ _ _ _=>rfl) (fun f c' cl A outer s H E j=>(Ti (VQ 0) Wx j.m (NK M2 (fun _ _ h=>h)) (@VR _ _ _ _ _ (@J0 _ _ _ _ _ _ _ _ (Jp NH) (VQ 1) (@W3 _ _ _ _)) VT TU))) n) (@Wm _ _ _ _)) (Mr (N8 (BQ (K:=K) (Room.units j) rfl) (MH (VQ 0) WE j.m) (@J0 _ _ _ _ _ _ _ _ (Jp NH) (VQ 2) (@W3 _ _ _ _)))))) (@Wc _ _ _ (@WL _ _ _ _ TQ)) Jw) (@W1 _ _ _ _ _ (@T5 _ _ 4 _ _ _ _ (Lg).nd rfl (Or.inl rfl) (GG JO j.m rfl DR (@VR _ _ _ _ _ (VQ 0) (@VR _ _ _ _ _ (D9 NZ j.m rfl (@VR _ _ _ _ _ (@Wm _ _ _ _) (@VR _ _ _ _ _ (@W3 _ _ _ _) (@VR _ _ _ _ _ (@W3 _ _ _ _) (@VR _ _ _ _ _ (@Wm _ _ _ _) (@VR _ _ _ _ _ (@Wm _ _ _ _) VT W7) W7) W7) W7) W7)) (@VR _ _ _ _ _ (@J0 _ _ _ _ _ _ _ _ (Jp NH) (VQ 2) (@W3 _ _ _ _)) VT TU) M7) Wq)) (by rfl) (Or.inl rfl)) (@W1 _ _ _ _ _ (Jj (N8 (BQ (K:=K) (Room.units j) rfl) (DL (N':=["_law_event"]) (caps:=[none]) (Me (sc:=VO Dc) (N:=["_law_post","_law_letters","_law_now","_law_some","_law_events"]) rfl rfl (by decide +kernel)) rfl (TK (K:=K) rfl (VQ 4)) (fun _ _ _ _ _=>(Tg (i:=0) (TH (N:=["_law_event"]) rfl (by decide +kernel)) rfl (Or.inl rfl))) (fun _ _ _ _ _=>D5) (fun _ _ _ _ _=>(@Mi _ _ _ _ _ _ _ (RN (Rp (K:=K) rfl)) (VQ 0) (@W3 _ _ _ _) (fun _ _=>rfl)))) (@WO _ _ _ _ (@VR _ _ _ _ _ (@Wm _ _ _ _) (@VR _ _ _ _ _ (@Wm _ _ _ _) VT W7) W7))) (@Wc _ _ _ (@WL _ _ _ _ TQ)) Jw) (@Wc _ _ _ (@WL _ _ _ _ (Ts (Rt Ry) (Fd (k:=13) (q:=Gn) (N':=["_law_post","_law_now","_law_letters"]) (caps:=[some 0,some 2,some 1]) JL j.m rfl (fun _=>rfl) LC rfl rfl (N7 (sc:=VO Dc) (N:=["_law_post","_law_letters","_law_now","_law_some","_law_events"]) rfl rfl (by decide +kernel)) rfl (fun _ _ _ _=>rfl) (fun f c' cl A outer s H E j=>(Ti (VQ 0) W5 j.m (NK M2 (fun _ _ h=>h)) (@VR _ _ _ _ _ (@J0 _ _ _ _ _ _ _ _ (Jp NH) (VQ 1) (@W3 _ _ _ _)) (@VR _ _ _ _ _ (@Mi _ _ _ _ _ _ _ (RN (Rp (K:=K) rfl)) (VQ 2) (@W3 _ _ _ _) (fun _ _=>rfl)) (@VR _ _ _ _ _ (@W3 _ _ _ _) (@VR _ _ _ _ _ (@WO _ _ _ _ (@VR _ _ _ _ _ (@Wm _ _ _ _) VT W7)) VT Nk) W7) E5) TU))) n) (@Wm _ _ _ _) (TV _))))))))))))),?_⟩;refine We fun N g=>?_
  walk_at"rd";refine⟨Yh _,fun bl G1 hbl s1 e1=>g _ _ ?_⟩;clear g N;have y:=(⟨fun _ _ e _=>e,tb⟩:Sv T Gn H H).same s1;clear s1;refine We fun N g=>?_
  walk_at"rd";refine⟨.inl ⟨rfl,_,VZ.of e1⟩,y.tb,fun f1 H1 _ b t' v1=>?_⟩;have h:=MV y.tb b e1;refine⟨_,h,Ml (by simp),fun Z1 b' e3=>g _ _ ?_⟩;clear g N
  replace v1:=Tr v1 (NU h b')
  replace y:=(y.tab b t').app hbl h b'
  clear e1 h b b' t';have e1:=e3;clear e3;refine We fun N g=>?_
  walk_at"rd";refine⟨.inl ⟨rfl,_,VZ.of e1⟩,y.tb,fun f2 H1 _ b t' v2=>?_⟩;have h:=MV y.tb b e1;refine⟨_,h,Ml (by simp),fun Z2 b' e3=>g _ _ ?_⟩;clear g N;have k2:=(D3 y.tb b).trans (NU h b')
  replace v2:=Tr v2 (NU h b')
  replace y:=(y.tab b t').app hbl h b'
  clear e1 h b b' t';have e1:=e3;clear e3;refine We fun N g=>?_
  walk_at"rd";refine⟨.inl ⟨rfl,_,VZ.of e1⟩,y.tb,fun f3 H1 _ b t' v3=>?_⟩;have h:=MV y.tb b e1;refine⟨_,h,Ml (by simp),fun Z3 b' e3=>g _ _ ?_⟩;clear g N;have k3:=(D3 y.tb b).trans (NU h b')
  replace v3:=Tr v3 (NU h b')
  replace y:=(y.tab b t').app hbl h b'
  clear e1 h b b' t';have e1:=e3;clear e3
  replace v2:=Tr v2 k3
  replace v1:=Tr v1 (k2.trans k3)
  clear k2 k3;simp only[List.cons_append,List.nil_append]at e1;have kt:=y.kt tb;have hU1:Gr C CRo CP Z3 p db dc lc U 8 m []:=⟨hU.po.butT kt,hU.ap,hU.nb,hU.nr⟩;have hL1:=hL.kt kt
  replace tf:=D1 tf tb (Ne.symm ntf) y.kq
  obtain⟨S,eS⟩:∃S:L2.St,S=[some (.ref p),some (.ref tl),some (.int t),some (.ref bl),none]:=⟨_,rfl⟩;have fr6:NC (.int (t+ 6)) U.now=false:=Yt (by omega);have R1:∀H1,VP Z3 H1->JS _ 14 f1 H1 S (fun _ _=>False) (fun c _ H'=>c= .ref NT/\VP H1 H'):=fun H1 s1=>by
   have hP1 := hU1.po.mono s1;rw [eS];exact Mo (k := 13) (Tc v1 s1) (N7 (N' := ["_law_post", "_law_now", "_law_letters"]) (caps := [some 0, some 2, some 1]) (sc := VO Dc) (N := ["_law_post", "_law_letters", "_law_now", "_law_some", "_law_events"]) rfl rfl (by decide +kernel)) (fun _ _ _ _ => rfl) (fun f c' cl A outer s H E j => (Ti (pv 0) W5 (j.mono (by decide)) (NK M2 (fun _ _ h => h)) (VR (hs := TU) (J0 NH (pv 1) W3) (VR (hs := E5) (Mi (Rp (K := K) rfl) (pv 2) W3 (fun _ _ => rfl)) (VR (hs := W7) W3 (VR (hs := Nk) (WO (VR (hs := W7) Wm VT)) VT)))))) (by
    walk_at"rd";refine ⟨hP1.mt rfl, _, JN.of (s1 _ _ hL1.tt), _, rfl, Wi (by decide), fun p1 G1 _ s2 g1 => ?_⟩;exact ⟨p, db, dc, lc, U, _, _, _, _, _, rfl, hP1.mono s2, rfl, .inl ⟨fr6, rfl, s2⟩⟩)
  have R2:∀H1,VP Z3 H1->JS _ 14 f2 H1 S (fun _ _=>False) (fun c _ H'=>c= .ref NT/\VP H1 H'):=fun H1 s1=>by
   have hP1 := hU1.po.mono s1;rw [eS];exact Mo (k := 13) (Tc v2 s1) (N7 (N' := ["_law_post", "_law_now"]) (caps := [some 0, some 2]) (sc := VO Dc) (N := ["_law_post", "_law_letters", "_law_now", "_law_some", "_law_events"]) rfl rfl (by decide +kernel)) (fun _ _ _ _ => rfl) (fun f c' cl A outer s H E j => (Ti (pv 0) Wx (j.mono (by decide)) (NK M2 (fun _ _ h => h)) (VR (hs := TU) (J0 NH (pv 1) W3) VT))) (by
    walk_at"rd";exact ⟨hP1.mt rfl, p, db, dc, lc, U, _, _, rfl, hP1, rfl, .inl ⟨fr6, rfl, VP.refl _⟩⟩)
  have R3:∀H1,VP Z3 H1->JS _ 14 f3 H1 S (fun _ _=>False) (fun c _ H'=>c= .ref NT/\VP H1 H'):=fun H1 s1=>by
   have hP1 := hU1.po.mono s1;rw [eS];exact Mo (k := 13) (Tc v3 s1) (N7 (N' := ["_law_post", "_law_now"]) (caps := [some 0, some 2]) (sc := VO Dc) (N := ["_law_post", "_law_letters", "_law_now", "_law_some", "_law_events"]) rfl rfl (by decide +kernel)) (fun _ _ _ _ => rfl) (fun f c' cl A outer s H E j => (GG JO (j.mono (by decide)) rfl (NK M2 (fun _ _ h => h)) (VR (hs := Wq) (pv 0) (VR (hs := M7) (D9 NZ (j.mono (by decide)) rfl (VR (hs := W7) Wm (VR (hs := W7) W3 (VR (hs := W7) W3 (VR (hs := W7) Wm (VR (hs := W7) Wm VT)))))) (VR (hs := TU) (J0 NH (pv 1) W3) VT))))) (by
    walk_at"rd";refine ⟨rfl, fun r dr df dw G1 _ _ _ _ s2 hRm => ?_⟩;exact ⟨p, db, dc, lc, r, dr, df, dw, U, 0, 0, _, _, rfl, hP1.mono s2, hRm, rfl, .inl ⟨Yt (by unfold D2; rw [Y2 (by omega)]; omega), rfl, s2⟩⟩)
  rw[<-eS];refine We fun N g=>?_
  walk_at"rd";refine⟨.ref bl,by rw[eS];rfl,bl,rfl,⟨_,VZ.of e1⟩,?_⟩;obtain⟨Pv,u⟩:∃Pv:Nat->List V->L2.St->Hp->Prop,Pv=fun i ys σ' H'=>ys=(List.replicate i ("time":Str)).map V.str/\(∃v,σ'=[v])/\VP Z3 H':=⟨_,rfl⟩
  refine Db (xs:=[.ref f1,.ref f2,.ref f3]) Pv (by rw[u];exact⟨rfl,⟨none,rfl⟩,VP.refl _⟩) ?_ (Wi (by simp)) ?_ ?_
  .rintro i ys σ' H' hP hi;rw[u]at hP;obtain⟨rfl,_,sH⟩:=hP;exact⟨VZ.of (sH _ _ e1),by simp⟩
  .rintro i x ys σ' H' hx hP;obtain⟨v,rfl⟩:∃v,σ'=[v]:=by rw[u]at hP;exact hP.2.1
   walk_at"rd";have fin:VP Z3 H'->∀ (C:VI) (H2:Hp),(Value.ref C= .ref NT/\VP H' H2)->∃wd,Mc K CW cs C wd/\∀G,VP H2 G->Pv (i+ 1) (ys++[V.str wd]) [some x] G:=fun sH C H2 hE=>by
    obtain⟨eC,s2⟩:=hE;cases eC;refine⟨_,KT,fun G s3=>?_⟩;rw[u]at hP ⊢;obtain⟨rfl,_,_⟩:=hP;exact⟨by rw[UB,Yp];rfl,⟨_,rfl⟩,(sH.trans s2).trans s3⟩
   rw[u]at hP;obtain⟨rfl,_,sH⟩:=hP;have hmem:=Yd hx;simp only[Y6,Yl,YL]at hmem;rcases hmem with rfl|rfl|rfl
   .exact⟨_,rfl,_,R1 _ sH,fin sH⟩
   .exact⟨_,rfl,_,R2 _ sH,fin sH⟩
   .exact⟨_,rfl,_,R3 _ sH,fin sH⟩
  rintro ys σ' H' hP l1 G5 hl1 s5 e5;rw[u]at hP;obtain⟨rfl,_,sH⟩:=hP;clear u Pv R1 R2 R3 v1 v2 v3 fr6;refine⟨Wi (by decide),fun l2 G6 hl2 s6 e6=>⟨_,e6,by decide,by decide,Wi (by decide),fun l3 G7 hl3 s7 e7=>?_⟩⟩;have hok:∀x∈List.replicate 3 ("time":Str),JC x:=fun x hx=>by rw[Xe hx];exact⟨by decide +kernel,by decide +kernel,by decide +kernel⟩
  refine⟨_,_,Gw (xs:=List.replicate 3 "time") (s7 _ _ (s6 _ _ e5)),Gw (xs:=List.replicate 3 "time") e7,Gx hok,Gx hok,?_⟩;rw[Bl];refine⟨_,rfl,?_⟩;rw[Y2 (by simp)];have s57:=sH.trans (s5.trans (s6.trans s7));refine g _ _ ?_;clear g N e5 e6 e7 hok s5 s6 s7 sH;have hU2:=hU1.mono s57;have hL2:=hL1.mono s57
  replace tb:=y.tb.same s57
  replace tf:=tf.same s57
  clear hU1 hL1 y kt hU hL e1 s57;rw[eS];clear eS S;refine We fun N g=>?_
  walk_at"rd";refine⟨hU2.po.mt rfl,_,JN.of hL2.tt,_,rfl,Wi (by decide),fun p1 G1 hp1 s1 g1=>?_⟩;refine CG (d:=da) (w:=40) (ns:=["a"]) (hU2.mono s1) (by omega) (hL2.mono s1).la hL2.na (by decide) (by decide) (fun _=>by decide) g1 (by decide) (by decide) (fun x hx=>.inl (Yn.mp hx)) (K4 (by decide) hL2.ka) (Ne.symm (WJ hU2.po.hl hp1)) (by decide) (Ob (d:=da.whole) hL2.na (by decide) rfl) fun U3 G2 k3 hU3 hn3=>?_
  have cw:Wa 40 da.whole 0=[da.whole]:=E3 (by show da.ns.length <=40;rw[hL2.na];decide);have hL3:=(hL2.mono s1).kp (hU2.mono s1).po ncl nba nbk k3
  replace tb:=A7 (tb.same s1) (hU2.mono s1).po k3
  replace tf:=A7 (tf.same s1) (hU2.mono s1).po k3
  refine⟨rfl,?_⟩;rw[cw,Y2 (by simp)];clear cw hU2 hL2 k3 s1 g1 hp1;refine⟨hU3.po.mt rfl,_,JN.of hL3.tt,_,rfl,Wi (by decide),fun p1 G1 hp1 s1 g1=>?_⟩;refine CG (d:=dk) (w:=40) (ns:=["a","road"]) (hU3.mono s1) (by omega) (hL3.mono s1).lk hL3.nk (by decide) (by decide) (fun _=>by decide) g1 (by decide) (by decide) (fun x hx=>by simpa using hx) (gI hL3.nk rfl) (Ne.symm (WJ hU3.po.hl hp1)) (by simp) (Ob (d:=dk.whole) hL3.nk (by decide) rfl) fun U4 G3 k4 hU4 hn4=>?_
  have cw:Wa 40 dk.whole 0=[dk.whole]:=E3 (by show dk.ns.length <=40;rw[hL3.nk];decide);have hL4:=(hL3.mono s1).kp (hU3.mono s1).po ncl nba nbk k4
  replace tb:=A7 (tb.same s1) (hU3.mono s1).po k4
  replace tf:=A7 (tf.same s1) (hU3.mono s1).po k4
  refine⟨rfl,?_⟩;rw[cw,Y2 (by simp)];clear cw hU3 hL3 k4 s1 g1 hp1;refine g _ _ ?_;clear g N;refine We fun N g=>?_
  walk_at"rd";refine⟨tb,fun G4 b4 t4=>?_⟩;have m4:=(⟨fun _ _ e _=>e,tb⟩:Sv T Gn G3 G3).tab b4 t4;have hP4:=hU4.po.butT (m4.kt tb);have hL5:=hL4.kt (m4.kt tb)
  replace tf:=D1 tf tb (Ne.symm ntf) m4.kq
  refine⟨hP4.mt rfl,p,db,dc,lc,U4,_,_,rfl,hP4,rfl,.inl ⟨Yt (by omega),NT,rfl,_,KT,fun G5 s5=>⟨rfl,?_⟩⟩⟩;rw[Y2 (by simp)];obtain⟨hRs,hcs,_⟩:=Ci hU4.ap;have htm:U4.cs.map (·.tm)=[t+ 9+ 3,t+ 9+ 3]:=by
   have:=YH (List.map Prod.fst) hcs;unfold TZ at this;rw[YB]at this;exact this
  have hcl:U4.cs.length=2:=by have:=YH List.length htm;rw[List.length_map]at this;exact this
  have hP5:=hP4.mono s5;refine⟨hP5.mt rfl,p,db,dc,lc,U4,rfl,hP5,by omega,fun G6 s6=>⟨fun e=>(by rw[e]at hcl;cases hcl),fun v hv _=>?_⟩⟩;obtain rfl:v=t+ 12:=by
   rw[htm]at hv;simp only[Y6,Yl,YL]at hv;rcases hv with rfl|rfl <;> omega
  refine⟨.int _,.int _,.int _,.int _,rfl,rfl,?_⟩;rw[show PyData.eqv (.int (t+ 12)) (.int (t+ 12))=true by simp[PyData.eqv]];refine⟨_,rfl,?_⟩;rw[Y2 (by simp)];refine g _ _ ?_;clear g N;have hP6:=hP5.mono s6;have hL6:=(hL5.mono s5).mono s6
  replace tf:=(tf.same s5).same s6
  replace tb:=(m4.tb.same s5).same s6
  clear hP5 hP4 hL5 hL4 m4 b4 t4 s5 s6;refine We fun N g=>?_
  walk_at"rd";have hdd:U4.cs.map (·.d)=[da.whole,dk.whole]:=by
   have:=YH (List.map Prod.snd) hcs;unfold TZ at this;rw[YB]at this;exact this
  have harr:Md (t+ 20) U4.cs=U4.cs:=UC.mpr fun c hc=>by
   have:c.tm∈U4.cs.map (·.tm):=YU (f:=fun c:Th=>c.tm) hc;rw[htm]at this;simp only[Y6,Yl,YL]at this;exact Yw (by omega)
  have hpc:∀c∈U4.cs,c.d.mo=false/\c.d.at'=0:=fun c hc=>by
   have:c.d∈U4.cs.map (·.d):=YU (f:=fun c:Th=>c.d) hc;rw[hdd]at this;simp only[Y6,Yl,YL]at this;rcases this with e|e <;> rw[e] <;> exact⟨rfl,rfl⟩
  refine⟨rfl,fun r dr df dw G7 hr0 hdr hdf hdw s7 hRm=>?_⟩;have hP7:=hP6.mono s7;refine⟨p,db,dc,lc,r,dr,df,dw,U4,0,0,_,_,rfl,hP7,hRm,rfl,.inr ⟨t+ 20,rfl,by omega,by omega,by omega,tf.same s7,hpc,fun l lc' evs G8 hl0 k8 tf8 hP8 e8 hlen hws=>g _ _ ?_⟩⟩;clear g N;obtain⟨dxr,fsr,hri,_⟩:=hRm.ins.ex;obtain⟨kw,hkw,_⟩:=hRm.dW;obtain⟨dxp,fsp,hpi,_⟩:=hP7.ex;rw[harr,hcl]at hlen;have k8':∀c o,G7 c=some o->c≠TF->(∀C dx fs,o≠ .ins C dx fs)->(∀xs,o≠ .dT xs)->G8 c=some o:=fun c o h n1 n2 n3=>k8 c o h (fun z=>by rw[z,hpi]at h;cases h;exact n2 _ _ _ rfl) n1 (fun z=>by rw[z,hri]at h;cases h;exact n2 _ _ _ rfl) (fun z=>by rw[z,hRm.dR]at h;cases h;exact n3 _ rfl) (fun z=>by rw[z,hRm.dF]at h;cases h;exact n3 _ rfl) (fun z=>by rw[z,hkw]at h;cases h;exact n3 _ rfl)
  have tb8:=Pk (tb.same s7) (tf.same s7) ntf k8';have ht8:=k8' _ _ (s7 _ _ hL6.tt) (Jx (tf.same s7) (s7 _ _ hL6.tt) nofun) nofun nofun;clear hdd harr hpc k8 k8' hri hkw hpi hRm hP7 hP6 hL6 tb tf tf8;refine We fun N g=>?_
  walk_at"rd";refine⟨⟨_,VZ.of e8⟩,?_⟩;obtain⟨Pv,u⟩:∃Pv:Nat->List V->L2.St->Hp->Prop,Pv=fun i ys σ' H'=>i <=evs.length/\ys=(List.replicate i ("whole":Str)).map V.str/\(∃v,σ'=[v])/\H'=G8:=⟨_,rfl⟩
  refine Db (xs:=evs) Pv (by rw[u];exact⟨Yh _,rfl,⟨none,rfl⟩,rfl⟩) ?_ (Wi (by rw[hlen];decide)) ?_ ?_ <;> rw[u]
  .rintro i ys σ' H' ⟨_,rfl,_,rfl⟩ hi;exact⟨VZ.of e8,by simp⟩
  .intro i x ys σ' H' hx Zq;obtain⟨_,rfl,⟨v,rfl⟩,rfl⟩:=Zq;rw[<-u];obtain⟨tt,pl,rfl,h2⟩:=hws x (Yd hx);walk_at"rd";refine⟨_,JN.of h2,_,rfl,?_⟩;rw[u];exact⟨(Y5.mp hx).1,by rw[UB,Yp];rfl,⟨_,rfl⟩,rfl⟩
  rintro ys σ' H' ⟨_,rfl,_,rfl⟩ l2 G9 hl2 s9 e9;rw[hlen]at e9;refine⟨Wi (by decide),fun l3 GA hl3 sA eA=>?_⟩;have hok:∀x∈List.replicate 2 ("whole":Str),JC x:=fun x hx=>by rw[Xe hx];exact⟨by decide +kernel,by decide +kernel,by decide +kernel⟩
  refine⟨_,_,Gw (xs:=List.replicate 2 "whole") (sA _ _ e9),Gw (xs:=List.replicate 2 "whole") eA,Gx hok,Gx hok,?_⟩;rw[Bl];refine⟨_,rfl,?_⟩;rw[Y2 (by simp)];refine g _ _ ?_;clear g N u Pv hok;have s9A:=s9.trans sA;walk_at"rd";refine⟨tb8.same s9A,fun GB bB tB=>?_⟩;have mB:=(⟨fun _ _ e _=>e,tb8.same s9A⟩:Sv T Gn GA GA).tab bB tB;have kB:=mB.kt (tb8.same s9A);have hPB:=(hP8.mono s9A).butT kB;refine⟨hPB.mt rfl,_,JN.of (kB _ _ (s9A _ _ ht8) nofun),_,rfl,Wi (by decide),fun p1 GC _ sC gC=>?_⟩;refine⟨p,db,dc,lc',_,_,_,_,_,_,rfl,hPB.mono sC,rfl,.inl ⟨Yt (by show ¬t+ 20 <=t+ 19;omega),NT,rfl,_,KT,fun GD sD=>?_⟩⟩;exact⟨rfl,by rw[Yw rfl];exact q GD⟩
theorem AW:∀ns:List Int,PyData.canLayAll0 (ns.map PyData.int)=true/\PyData.depthAll (ns.map PyData.int)=0
 |[]=>⟨rfl,rfl⟩
 |n::r=>⟨by simp[PyData.canLayAll0,PyData.canLay0,(AW r).1],by simp[PyData.depthAll,PyData.depth,(AW r).2]⟩
theorem Lu(ns:VJ):SeqAt.shaped (.list (ns.map PyData.int))=true:=by
 simp[SeqAt.shaped,PyData.canLay0,PyData.depth,(AW ns).1,(AW ns).2]
def wX(t:Int)(d:PD):List (Int×PD):=[(t+ 3,d.part 0 8),(t+ 3,d.part 16 24),(t+ 3,d.part 32 40),(t+ 3,d.part 0 8),(t+ 3,d.part 8 16),(t+ 3,d.part 24 32),(t+ 3,d.part 32 40),(t+ 7,d.part 8 16),(t+ 7,d.part 24 32)]
theorem SL{t:Int}{d:PD}{cs ms:List Th}(h:DQ cs ms)(hc:TZ cs=Bf t d++IZ t d):TZ ms=wX t d:=by
 have a:cs.map (·.tm)=[3,7,3,7,3,3,3,3,3].map (t+ ·):=by
  have:=YH (List.map Prod.fst) hc;unfold TZ at this;rw[YB]at this;exact this
 have g:TZ ms=(Mz cs.length (NG DM fun i=>(cs.map (·.tm)).getD i (0:Int))).filterMap fun i=>(TZ cs)[i]?:=by
  rw[h.or];unfold TZ;rw[List.map_filterMap];exact YH (fun f=>List.filterMap f _) (funext fun i=>(Yk ..).symm)
 have e:Mz cs.length (NG DM fun i=>(cs.map (·.tm)).getD i (0:Int))=[0,2,4,5,6,7,8,1,3]:=by
  have c:=YH (fun l:List Int=>NG DM fun i=>l.getD i (0:Int)) a;have b:cs.length=9:=by rw[<-List.length_map (f:=(·.tm)),a];rfl
  exact(congr (YH Mz b) c).trans ((ZM (t:=t) (ns:=[3,7,3,7,3,3,3,3,3]) (by decide)).trans (by decide +kernel))
 rw[g,e,hc];rfl
def NQ(K:VG)(cts:List (Addr×Addr)):Sp:=fun vs H Q _=>∃ (a:VI) (ns:VJ),vs=[.ref a]/\ns.length <=63/\VZ K H a (ns.map V.int)/\(∀x∈cts,H x.2=some (.tbl #[]))/\∀G,Q (.bl true) G
theorem Bw{H:Hp}{T:VI}(q:Str)(h:H T=some (.tbl #[])):Ji H T q:=⟨#[],h,trivial,fun pos a e=>by cases e⟩
structure My(T1 T2 T3 T4 TF:VI)(H:Hp):Prop where
 t1:Ji H T1 Wl
 t2:Ji H T2 Wd
 t3:Ji H T3 WN
 t4:Ji H T4 Gn
 tf:Ji H TF GK
theorem My.same{T1 T2 T3 T4 TF:VI}{H G:Hp}(t:My T1 T2 T3 T4 TF H)(s:VP H G):My T1 T2 T3 T4 TF G:=⟨t.t1.same s,t.t2.same s,t.t3.same s,t.t4.same s,t.tf.same s⟩
theorem My.kp{T1 T2 T3 T4 TF:VI}{H G:Hp}(t:My T1 T2 T3 T4 TF H)(k:∀b o,H b=some o->(∀xs,o≠ .dK xs)->(∀C dx fs,o≠ .ins C dx fs)->(∀xs,o≠ .lst xs)->G b=some o):My T1 T2 T3 T4 TF G:=by
 have f:∀{T:VI} {q:Str},Ji H T q->Ji G T q:=fun t=>t.of fun a o h e=>k a o h (by rcases e with⟨_,e⟩|⟨_,e⟩ <;> rw[e] <;> nofun) (by rcases e with⟨_,e⟩|⟨_,e⟩ <;> rw[e] <;> nofun) (by rcases e with⟨_,e⟩|⟨_,e⟩ <;> rw[e] <;> nofun)
 exact⟨f t.t1,f t.t2,f t.t3,f t.t4,f t.tf⟩
section
variable{T1 T2 T3 T4 TF:VI}{H G:Hp}
theorem My.s1(t:My T1 T2 T3 T4 TF H)(S:Sv T1 Wl H G)(n2:T1≠T2)(n3:T1≠T3)(n4:T1≠T4)(nF:T1≠TF):My T1 T2 T3 T4 TF G:=⟨S.tb,D1 t.t2 t.t1 (Ne.symm n2) S.kq,D1 t.t3 t.t1 (Ne.symm n3) S.kq,D1 t.t4 t.t1 (Ne.symm n4) S.kq,D1 t.tf t.t1 (Ne.symm nF) S.kq⟩
theorem My.s2(t:My T1 T2 T3 T4 TF H)(S:Sv T2 Wd H G)(n1:T1≠T2)(n3:T2≠T3)(n4:T2≠T4)(nF:T2≠TF):My T1 T2 T3 T4 TF G:=⟨D1 t.t1 t.t2 n1 S.kq,S.tb,D1 t.t3 t.t2 (Ne.symm n3) S.kq,D1 t.t4 t.t2 (Ne.symm n4) S.kq,D1 t.tf t.t2 (Ne.symm nF) S.kq⟩
theorem My.s3(t:My T1 T2 T3 T4 TF H)(S:Sv T3 WN H G)(n1:T1≠T3)(n2:T2≠T3)(n4:T3≠T4)(nF:T3≠TF):My T1 T2 T3 T4 TF G:=⟨D1 t.t1 t.t3 n1 S.kq,D1 t.t2 t.t3 n2 S.kq,S.tb,D1 t.t4 t.t3 (Ne.symm n4) S.kq,D1 t.tf t.t3 (Ne.symm nF) S.kq⟩
end
theorem PC{K:VG}{H G:Hp}{a:VI}{xs:List V}(h:VZ K H a xs)(k:∀b o,H b=some o->(∀ps,o≠ .tbl ps)->G b=some o):VZ K G a xs:=h.imp (fun r=>r.imp (fun e=>k _ _ e nofun) fun⟨ob,e⟩=>⟨ob,k _ _ e nofun⟩) id
theorem Qo{C NR q1:VI}{z:V}{H:Hp}{Q:VK}{E:XK}(r:MY)(hr:ER r)(h1:H q1=some (.lst (Dy r.ws)))(h2:NM H z r.lo)(k:∀p lw ll G,H p=none->H lw=none->H ll=none->VP H G->WZ C G p lw ll r->Q (.ref p) G):Eb C NR [.ref q1,.int r.dl,z] H Q E:=by
 obtain⟨f,d⟩:=xX h1 hr.l2;obtain⟨c,b,a⟩:=h2.ask;have g:Mm H (.ref q1) (.int r.dl) z=true:=by
  unfold Mm;rw[uZ h1 hr.l1 hr.l2 hr.ok,a,show NC (.int r.dl) 0=true from Yw hr.d0];rfl
 exact⟨_,_,_,rfl,⟨f,⟨_,rfl⟩,c,d,b⟩,(fun e=>by rw[g]at e;cases e),fun _=>⟨q1,r,rfl,rfl,h1,h2,hr,k⟩⟩
theorem Rh:ER rA:=⟨by decide,by decide,(fun w a=>by simp[rA]at a;omega),by decide,⟨by decide,fun n b=>by simp[rA]at b;omega⟩⟩
theorem GY:ER rR:=⟨by decide,by decide,(fun w a=>by simp[rR]at a;omega),by decide,⟨by decide,fun n b=>absurd b Yl⟩⟩
def dA:LD:=⟨7,"ann","bo",List.replicate 40 1,false⟩
def dK:LD:=⟨8,"ann","bo",List.replicate 40 2,true⟩
theorem M5:JC "ann"/\JC "bo":=⟨⟨by decide +kernel,by decide +kernel,by decide +kernel⟩,by decide +kernel,by decide +kernel,by decide +kernel⟩
theorem mM:dA.Ok:=⟨by decide,by decide,M5.1,M5.2,by decide,by decide,fun x a=>by rw[Xe a];decide⟩
theorem ZP:dK.Ok:=⟨by decide,by decide,M5.1,M5.2,by decide,by decide,fun x a=>by rw[Xe a];decide⟩
abbrev Rc:Stmt:=WW 76
theorem Eo:WQ ["_law_script","_law_post","_law_letters","_law_now","_law_cell","_law_found"] ["_law_script"] (VO Rc):=by walk_at"e"
theorem yI{f c1 T1 c2 T2 c3 T3 c4 T4 c5 TF C CRo CP CL CW NT NL NR NW TW:VI}{cs:List Addr}{fd:VD}(F:WX K "law" "law" Rc f fd)(B:Bt mg)(LP:Mn K CP)(RX:KX K CRo)(ncl:CL≠C)(ncp:C≠CP)(n12:T1≠T2)(n13:T1≠T3)(n14:T1≠T4)(n1F:T1≠TF)(n23:T2≠T3)(n24:T2≠T4)(n2F:T2≠TF)(n34:T3≠T4)(n3F:T3≠TF)(n4F:T4≠TF)
  (T6:JA P w K mg base "_law_cell_at" 1 ["_law_script","_law_k"] [] (Fl K)) (E4:Tt P w K mg base "Post" 1 (Oq C CRo CP)) (M6:RY P w K mg base "Road" 5 (Eb CRo NR)) (No:RY P w K mg base "Road" 5 (Hh CRo NR)) (Wv:MW P w K mg base C "build" 2 ["self","name","road"] [] (C3 K C CRo CP NR))
  (Gd:Tt P w K mg base "Letter" 6 (OZ CL)) (Nh:Tt P w K mg base "Letter" 6 (HL CL)) (W5:MW P w K mg base C "send" 13 ["self","time","letter","width","names"] [] (Ep K C CRo CP CL NT NL NR NW TW)) (Wx:MW P w K mg base C "fetch" 9 ["self","time"] [] (EH C CRo CP TF NT)) (JX:N0 P w K mg base C "roads" 3 ["self"] [] (HE C CRo CP)) (WR:N0 P w K mg base C "on_the_way" 1 ["self"] [] (Ij C CRo CP)) (WE:N0 P w K mg base C "next_time" 1 ["self"] [] (Ad C CRo CP))
  (DE:JA P w K mg base "_law_no_road" 16 ["_law_post","_law_cell"] [] (FW C CRo CP T1)) (DD:JA P w K mg base "_law_no_send" 16 ["_law_post","_law_now","_law_letters","_law_cell"] [] (KC C CRo CP CL T2)) (MX:JA P w K mg base "_law_late_room" 16 ["_law_post","_law_now","_law_cell"] [] (He C CRo CP T3)) (DW:JA P w K mg base "_law_behind" 16 ["_law_post","_law_letters","_law_now"] [] (FN C CRo CP CL T4 TF)):VW P w K mg base WK 17 f fd ["_law_script"] (NQ K [(c1,T1),(c2,T2),(c3,T3),(c4,T4),(c5,TF)]):=by
 refine F.ok Eo (fun vs H Q E h=>?_) (fun cdv A outer s H vs Q E u h=>?_)
 .obtain⟨a,ns,rfl,_⟩:=h;rfl
 .obtain⟨a,ns,rfl,hns,ha,hT,q⟩:=h;have tb:My T1 T2 T3 T4 TF H:=⟨Bw _ (hT (c1,T1) (by simp)),Bw _ (hT (c2,T2) (by simp)),Bw _ (hT (c3,T3) (by simp)),Bw _ (hT (c4,T4) (by simp)),Bw _ (hT (c5,TF) (by simp))⟩;clear hT;refine⟨_,(@W1 _ _ _ _ _ (@T5 _ _ 1 _ _ _ _ (Eo).nd rfl (Or.inl rfl) (SU E4 u.m rfl) (by rfl) (Or.inl rfl)) (@W1 _ _ _ _ _ (JR (Ti (VQ 1) Wv u.m DR (@VR _ _ _ _ _ (@Wm _ _ _ _) (@VR _ _ _ _ _ (E6 M6 u.m rfl DR (@VR _ _ _ _ _ (@WO _ _ _ _ (@VR _ _ _ _ _ (@W3 _ _ _ _) VT W7)) (@VR _ _ _ _ _ (@W3 _ _ _ _) (@VR _ _ _ _ _ (@WO _ _ _ _ (@VR _ _ _ _ _ (@W3 _ _ _ _) VT W7)) VT Nk) W7) Nk)) VT M7) W7))) (@W1 _ _ _ _ _ (JR (Ti (VQ 1) Wv u.m DR (@VR _ _ _ _ _ (@Wm _ _ _ _) (@VR _ _ _ _ _ (E6 No u.m rfl DR (@VR _ _ _ _ _ (@WO _ _ _ _ (@VR _ _ _ _ _ (@W3 _ _ _ _) (@VR _ _ _ _ _ (@W3 _ _ _ _) VT W7) W7)) (@VR _ _ _ _ _ (@W3 _ _ _ _) VT W7) Nk)) VT M7) W7))) (@W1 _ _ _ _ _ (@T5 _ _ 2 _ _ _ _ (Eo).nd rfl (Or.inl rfl) (@Tf _ _ _ _ _ (@VR _ _ _ _ _ (D9 Nh u.m rfl (@VR _ _ _ _ _ (@W3 _ _ _ _) (@VR _ _ _ _ _ (@Wm _ _ _ _) (@VR _ _ _ _ _ (@Wm _ _ _ _) (@VR _ _ _ _ _ (@J0 _ _ _ _ _ _ _ _ (BR Bp) (@WO _ _ _ _ (@VR _ _ _ _ _ (@W3 _ _ _ _) VT W7)) (@W3 _ _ _ _)) VT TU) W7) W7) W7)) (@VR _ _ _ _ _ (D9 Gd u.m rfl (@VR _ _ _ _ _ (@W3 _ _ _ _) (@VR _ _ _ _ _ (@Wm _ _ _ _) (@VR _ _ _ _ _ (@Wm _ _ _ _) (@VR _ _ _ _ _ (@J0 _ _ _ _ _ _ _ _ (BR Bp) (@WO _ _ _ _ (@VR _ _ _ _ _ (@W3 _ _ _ _) VT W7)) (@W3 _ _ _ _)) (@VR _ _ _ _ _ TQ VT W7) TU) W7) W7) W7)) VT M7) M7)) (by rfl) (Or.inl rfl)) (@W1 _ _ _ _ _ (@T5 _ _ 3 _ _ _ _ (Eo).nd rfl (Or.inl rfl) (@J0 _ _ _ _ _ _ _ _ (Jp NH) (@W3 _ _ _ _) (@J0 _ _ _ _ _ _ _ _ (dI MN) (JT T6 u.m rfl (@VR _ _ _ _ _ (VQ 0) (@VR _ _ _ _ _ (@W3 _ _ _ _) VT W7) Wq)) (@J0 _ _ _ _ _ _ _ _ (dI nE) (@W3 _ _ _ _) (@W3 _ _ _ _)))) (by rfl) (Or.inl rfl)) (@W1 _ _ _ _ _ (Jj (N8 (Gj DP) (Ti (VQ 1) W5 u.m DR (@VR _ _ _ _ _ (VQ 3) (@VR _ _ _ _ _ (@Mi _ _ _ _ _ _ _ (RN (Rp (K:=K) rfl)) (VQ 2) (@W3 _ _ _ _) (fun _ _=>rfl)) (@VR _ _ _ _ _ (@W3 _ _ _ _) (@VR _ _ _ _ _ (@WO _ _ _ _ (@VR _ _ _ _ _ (@Wm _ _ _ _) (@VR _ _ _ _ _ (@Wm _ _ _ _) VT W7) W7)) VT Nk) W7) E5) Wq)) (@W3 _ _ _ _)) (@Wc _ _ _ (@WL _ _ _ _ TQ)) Jw) (@W1 _ _ _ _ _ (Gi U6 rfl (TK (K:=K) rfl (P2 (OY (PX (K:=K) rfl)) (VQ 0) wJ (FI (@W3 _ _ _ _)))) (MC 4 Eo) (@W1 _ _ _ _ _ (Jj (PW.pt (Mf (Nq (N6 (JT DE u.m rfl (@VR _ _ _ _ _ (VQ 1) (@VR _ _ _ _ _ (VQ 4) VT Wq) Wq)))) (Mr (Nq (N6 (JT DD u.m rfl (@VR _ _ _ _ _ (VQ 1) (@VR _ _ _ _ _ (VQ 3) (@VR _ _ _ _ _ (VQ 2) (@VR _ _ _ _ _ (VQ 4) VT Wq) Wq) Wq) Wq))))))) (@Wc _ _ _ (@WL _ _ _ _ TQ)) Jw) (@W1 _ _ _ _ _ (Jj (PW.pt (Mf (Nq (N6 (JT MX u.m rfl (@VR _ _ _ _ _ (VQ 1) (@VR _ _ _ _ _ (VQ 3) (@VR _ _ _ _ _ (VQ 4) VT Wq) Wq) Wq)))) (Mr (N8 (BQ (K:=K) (Room.units u) rfl) (MH (VQ 1) JX u.m) (@WO _ _ _ _ (@VR _ _ _ _ _ (@Wm _ _ _ _) (@VR _ _ _ _ _ (@Wm _ _ _ _) VT W7) W7)))))) (@Wc _ _ _ (@WL _ _ _ _ TQ)) Jw) (@Wc _ _ _ (Jj (PW.pt (Mf (N8 (Gj DP) (MH (VQ 1) WR u.m) (@W3 _ _ _ _)) (Mr (N8 (BQ (K:=K) (Room.units u) rfl) (MH (VQ 1) WE u.m) (@J0 _ _ _ _ _ _ _ _ (Jp NH) (VQ 3) (@W3 _ _ _ _)))))) (@Wc _ _ _ (@WL _ _ _ _ TQ)) Jw))))) (@W1 _ _ _ _ _ (Jj (PW.pt (Mf (N8 (Gj DP) (Ti (VQ 1) W5 u.m DR (@VR _ _ _ _ _ (VQ 3) (@VR _ _ _ _ _ (@Mi _ _ _ _ _ _ _ (RN (Rp (K:=K) rfl)) (VQ 2) (@W3 _ _ _ _) (fun _ _=>rfl)) (@VR _ _ _ _ _ (@W3 _ _ _ _) (@VR _ _ _ _ _ (@WO _ _ _ _ (@VR _ _ _ _ _ (@Wm _ _ _ _) VT W7)) VT Nk) W7) E5) Wq)) (@W3 _ _ _ _)) (Mr (N8 (Gj DP) (MH (VQ 1) WR u.m) (@W3 _ _ _ _))))) (@Wc _ _ _ (@WL _ _ _ _ TQ)) Jw) (@W1 _ _ _ _ _ (AA (i:=5) (N':=["_law_when","_law_piece"]) (caps:=[none,none]) (Me (sc:=VO Rc) (N:=["_law_script","_law_post","_law_letters","_law_now","_law_cell","_law_found"]) rfl rfl (by decide +kernel)) rfl (Eo).nd rfl (Or.inl rfl) (TK (K:=K) rfl (Ti (VQ 1) Wx u.m DR (@VR _ _ _ _ _ (@J0 _ _ _ _ _ _ _ _ (Jp NH) (VQ 3) (@W3 _ _ _ _)) VT TU))) (fun _ _ _ _ _=>(DZ (K:=K) (n:=2) rfl rfl (TJ (Tg (i:=0) (TH (N:=["_law_when","_law_piece"]) rfl (by decide +kernel)) rfl (Or.inl rfl)) (TJ (Tg (i:=1) (TH (N:=["_law_when","_law_piece"]) rfl (by decide +kernel)) rfl (Or.inl rfl)) Ge)))) (fun _ _ _ _ _=>D5) (fun _ _ _ _ _=>(WG K (VQ 1))) rfl) (@Wc _ _ _ (@WL _ _ _ _ (M8 (Ts (IS (K:=K) (Room.units u) rfl) (VQ 5) (@WO _ _ _ _ (@VR _ _ _ _ _ (@W3 _ _ _ _) (@VR _ _ _ _ _ (@W3 _ _ _ _) (@VR _ _ _ _ _ (@W3 _ _ _ _) (@VR _ _ _ _ _ (@W3 _ _ _ _) (@VR _ _ _ _ _ (@W3 _ _ _ _) (@VR _ _ _ _ _ (@W3 _ _ _ _) (@VR _ _ _ _ _ (@W3 _ _ _ _) (@VR _ _ _ _ _ (@W3 _ _ _ _) (@VR _ _ _ _ _ (@W3 _ _ _ _) VT W7) W7) W7) W7) W7) W7) W7) W7) W7)) (TV _)) (MT (JT DW u.m rfl (@VR _ _ _ _ _ (VQ 1) (@VR _ _ _ _ _ (VQ 2) (@VR _ _ _ _ _ (VQ 3) VT Wq) Wq) Wq))))))))))))))),?_⟩;refine We fun N j=>?_
  walk_at"rd";refine⟨rfl,fun p db dc lc G1 hp hdb hdc hlc s1 hU=>j _ _ ?_⟩;clear j N
  replace tb:=tb.same s1
  have hp':=hU.ex;refine We fun N j=>?_
  walk_at"rd";refine⟨hU.mt rfl,Wi (by decide),fun q1 G2 _ s2 g2=>⟨Wi (by decide),fun q2 G3 _ s3 g3=>?_⟩⟩;refine Qo rA Rh (s3 _ _ g2) ⟨Rh.fw,.inr ⟨q2,rfl,g3⟩⟩ fun ap al am G4 hap hal ham s4 hRa=>?_
  have s24:=s2.trans (s3.trans s4);have hU4:=hU.mono s24;refine⟨p,db,dc,lc,_,_,_,_,rfl,hU4,rfl,(fun z e=>by cases e;decide +kernel),.inr (.inr ⟨⟨"a",ap,al,am,rA,0⟩,rfl,rfl,hRa,rfl,Bg,Yl,by decide,fun G5 k5 hU5=>j _ _ ?_⟩)⟩;clear j N;have K5:∀b o,H b=some o->G5 b=some o:=fun b o e=>k5 b o (s24 _ _ (s1 _ _ e)) (WJ e hdb) (WJ e hdc)
  have nal:al≠lc/\am≠lc:=⟨Ne.symm (WJ (s3 _ _ (s2 _ _ hU.hl)) hal),Ne.symm (WJ (s3 _ _ (s2 _ _ hU.hl)) ham)⟩
  replace tb:=(tb.same s24).kp fun b o h n _ _=>k5 b o h (fun z=>by rw[z,hU4.hb]at h;cases h;exact n _ rfl) (fun z=>by rw[z,hU4.hc]at h;cases h;exact n _ rfl)
  clear hU4 hU k5 s24 s2 s3 s4 g2 g3 hRa s1 hap hal ham hp';refine We fun N j=>?_
  walk_at"rd";refine⟨hU5.mt rfl,Wi (by decide),fun q3 G6 _ s2 g2=>?_⟩;refine⟨_,_,rfl,Qo rR GY g2 ⟨GY.fw,.inl ⟨rfl,rfl⟩⟩ fun bp bl bm G7 _ hbl hbm s3 hRb=>?_⟩;have s23:=s2.trans s3;have hU7:=hU5.mono s23;refine⟨p,db,dc,lc,_,_,_,_,rfl,hU7,rfl,(fun z e=>by cases e;decide +kernel),.inr (.inr ⟨⟨"road",bp,bl,bm,rR,0⟩,rfl,rfl,hRb,rfl,EA,(by simp;decide +kernel),by simp,fun G8 k8 hU8=>j _ _ ?_⟩)⟩;clear j N;have K8:∀b o,H b=some o->G8 b=some o:=fun b o e=>k8 b o (s23 _ _ (K5 _ _ e)) (WJ e hdb) (WJ e hdc)
  have nbl:bl≠lc/\bm≠lc:=⟨Ne.symm (WJ (s2 _ _ hU5.hl) hbl),Ne.symm (WJ (s2 _ _ hU5.hl) hbm)⟩
  replace tb:=(tb.same s23).kp fun b o h n _ _=>k8 b o h (fun z=>by rw[z,hU7.hb]at h;cases h;exact n _ rfl) (fun z=>by rw[z,hU7.hc]at h;cases h;exact n _ rfl)
  have hI : Gr C CRo CP G8 p db dc lc ⟨0, [⟨"a", ap, al, am, rA, 0⟩, ⟨"road", bp, bl, bm, rR, 0⟩], []⟩ 0 0 [] := ⟨hU8, rfl, fun c hc => absurd hc Yl, fun x y => by
   simp only[Y6,Yl,YL]at y;rcases y with rfl|rfl
   .exact nal
   .exact nbl⟩
  clear hU8 hU7 hU5 k8 s23 s2 s3 g2 hRb hbl hbm K5 nal nbl;refine We fun N j=>?_
  walk_at"rd";refine⟨Wi (by decide),fun q4 G9 _ s2 g2=>⟨_,g2,by decide,by decide,Wi (by decide),fun q5 GA _ s3 g3=>?_⟩⟩;refine⟨dA,q5,rfl,rfl,mM,g3,fun la lb GB _ hlb s4 hLa=>?_⟩;have s24:=s2.trans (s3.trans s4);have n1:lb≠lc:=Ne.symm (WJ (s3 _ _ (s2 _ _ hI.po.hl)) hlb);clear g2 g3 hlb s2 s3 s4;refine⟨Wi (by decide),fun q6 GC _ s5 g5=>⟨_,g5,by decide,by decide,Wi (by decide),fun q7 GD _ s6 g6=>?_⟩⟩;refine⟨dK,q7,rfl,ZP,g6,fun ka kb GE _ hkb s7 hLk=>⟨Wi (by decide),fun tl GF _ s8 g8=>j _ _ ?_⟩⟩;clear j N;have n2:kb≠lc:=Ne.symm (WJ (s6 _ _ (s5 _ _ (s24 _ _ hI.po.hl))) hkb);have s58:=s5.trans (s6.trans (s7.trans s8));have hL:T8 CL GF tl la ka lb kb dA dK:=⟨g8,hLa.mono s58,hLk.mono s8,rfl,rfl,rfl,rfl⟩;have sA:=s24.trans s58
  replace hI:=hI.mono sA
  replace tb:=tb.same sA
  replace K8:∀b o,H b=some o->GF b=some o:=fun b o e=>sA _ _ (K8 _ _ e)
  clear g5 g6 g8 hLa hLk hkb s5 s6 s7 s8 s24 s58 sA;refine We fun N j=>?_
  walk_at"rd";refine⟨a,ns,0,rfl,PC ha fun b o e _=>K8 b o e,fun c=>⟨⟨by decide,by decide,by decide⟩,c,rfl,by decide,j _ _ ?_⟩⟩;clear j N;obtain⟨t,et⟩:∃t:Int,t=1+ c%10 ^ Int.toNat 9:=⟨_,rfl⟩;rw[<-et];have t1:1 <=t/\t <=10000000000:=by
   have h1:(10:Int) ^ Int.toNat 9=1000000000:=by decide
   rw[h1]at et;omega
  clear et;refine We fun N j=>?_
  walk_at"rd";refine⟨hI.po.mt rfl,_,JN.of hL.tt,_,rfl,Wi (by decide),fun q1 G1 hq1 s1 g1=>?_⟩;refine CG (d:=dA) (w:=8) (ns:=["a","road"]) (hI.mono s1) (show(0:Int) <=t by omega) (hL.mono s1).la rfl (by decide) (by decide) (fun z=>by cases z) g1 (by decide) (by decide) (fun x y=>by simpa using y) (K4 (by decide) rfl) (Ne.symm (WJ hI.po.hl hq1)) (by decide) (u9 (d:=dA.whole) rfl) fun g G2 k2 hU1 hn1=>?_
  rw[show(Wa 8 dA.whole 0).length=5 by rw[Al (d:=dA.whole) rfl];rfl];refine⟨rfl,?_⟩;rw[Y2 (by simp)];refine j _ _ ?_;clear j N;have hL1:=(hL.mono s1).kp (hI.mono s1).po ncl n1 n2 k2;obtain⟨dxp,fsp,ac,_⟩:=hI.po.ex;have K2:∀b o,H b=some o->G2 b=some o:=fun b o e=>k2 b o (s1 _ _ (K8 _ _ e)) (WJ e hlc) (WJ e hdc) (WJ e hp)
  replace tb:=(tb.same s1).kp fun b o h n1 n2 n3=>k2 b o h (fun z=>by rw[z,s1 _ _ hI.po.hl]at h;cases h;exact n3 _ rfl) (fun z=>by rw[z,s1 _ _ hI.po.hc]at h;cases h;exact n1 _ rfl) (fun z=>by rw[z,s1 _ _ ac]at h;cases h;exact n2 _ _ _ rfl)
  clear hI hL k2 K8 s1 g1 hq1 ac;refine We fun N j=>?_
  walk_at"rd";refine⟨_,PC ha fun b o e _=>K2 b o e,fun sl G3 hsl s3 e3=>?_⟩;have hU3:=hU1.mono s3;have hL3:=hL1.mono s3
  replace tb:=tb.same s3
  subst hn1;obtain⟨hRs,hcs,_⟩:=Ci hU1.ap;have htm:g.cs.map (·.tm)=[g.now+ 3,g.now+ 7,g.now+ 3,g.now+ 7,g.now+ 3]:=by
   have:=YH (List.map Prod.fst) hcs;unfold TZ at this;rw[YB]at this;exact this
  have hcl:g.cs.length=5:=by have:=YH List.length htm;rw[List.length_map]at this;exact this
  have hrl:g.rs.length=2:=by have:=YH List.length hRs.nm;rw[List.length_map]at this;exact this
  clear hU1 hL1 K2 s3 ha;refine⟨⟨_,VZ.of e3⟩,?_⟩;obtain⟨zs,ezs⟩:∃zs,zs=DX (ns.map V.int) none (some 14):=⟨_,rfl⟩;have hz:∀x∈zs,∃n,x=V.int n:=fun x y=>by
   obtain⟨ms,em,_⟩:=Ze ns none (some 14);rw[ezs,em]at y;obtain⟨n,_,rfl⟩:=Yv.mp y;exact⟨n,rfl⟩
  rw[<-ezs]at e3;obtain⟨Pv,aa⟩:∃Pv:Nat->L2.St->Hp->Prop,Pv=fun _ σ' G=>(∃v,σ'=[some (.ref a),some (.ref p),some (.ref tl),some (.int g.now),v,none])/\(∀b o,G3 b=some o->(∀ps,o≠ .tbl ps)->G b=some o)/\My T1 T2 T3 T4 TF G:=⟨_,rfl⟩
  refine Rs (xs:=zs) Pv (by rw[aa];exact⟨⟨_,rfl⟩,fun _ _ e _=>e,tb⟩) ?_ ?_ ?_ <;> rw[aa]
  .intro i σ' G _ Zq;obtain⟨_,kG,_⟩:=Zq;exact VZ.of (kG _ _ e3 nofun)
  .intro i x σ' G y Zq;obtain⟨⟨v,rfl⟩,kG,tG⟩:=Zq;rw[<-aa];obtain⟨n,rfl⟩:=hz x (Yd y);have hPG:=hU3.po.butT kG;have hLG:=hL3.kt kG;refine We fun N2 hN2=>?_
   walk_at"rd";refine⟨p,db,dc,lc,g,n,rfl,hPG,hRs.nm,tG.t1,fun H1 S1=>⟨_,rfl,?_⟩⟩;rw[Y2 (by simp)];have T1':=tG.s1 S1 n12 n13 n14 n1F;have k1:=S1.kt tG.t1;have hP1:=hPG.butT k1;have hL1:=hLG.kt k1;refine⟨p,db,dc,lc,tl,la,ka,lb,kb,dA,dK,g,n,rfl,hP1,hL1,hRs,t1.1,t1.2,T1'.t2,fun H2 S2=>⟨_,rfl,?_⟩⟩;rw[Y2 (by simp)];refine hN2 _ _ ?_;clear hN2 N2;have T2':=T1'.s2 S2 n12 n23 n24 n2F;have k2:=S2.kt T1'.t2;have hP2:=hP1.butT k2;refine We fun N2 hN2=>?_
   walk_at"rd";refine⟨p,db,dc,lc,g,n,rfl,hP2,by omega,T2'.t3,fun H3 S3=>⟨_,rfl,?_⟩⟩;rw[Y2 (by simp)];have T3':=T2'.s3 S3 n13 n23 n34 n3F;have k3:=S3.kt T2'.t3;have hP3:=hP2.butT k3;refine⟨hP3.mt rfl,p,db,dc,lc,g,rfl,hP3,by omega,fun ms l H4 pm so _ s4 e4=>⟨Wi (by decide),fun l2 H5 _ s5 e5=>?_⟩⟩;rw[hRs.nm]at pm;obtain rfl:=Sn pm so (by simp;decide +kernel);have hok:∀x∈[("a":Str),"road"],JC x:=fun x y=>by
    simp only[Y6,Yl,YL]at y;rcases y with rfl|rfl
    .exact Bg
    .exact EA
   refine⟨_,_,Gw (s5 _ _ e4),Gw (xs:=["a","road"]) e5,Gx hok,Gx hok,?_⟩;rw[Bl];refine⟨_,rfl,?_⟩;rw[Y2 (by simp)];refine hN2 _ _ ?_;clear hN2 N2 hok;have s45:=s4.trans s5;have hP5:=hP3.mono s45;walk_at"rd";refine⟨hP5.mt rfl,p,db,dc,lc,g,rfl,hP5,?_⟩;rw[hcl];refine⟨rfl,?_⟩;rw[Y2 (by simp)];refine⟨hP5.mt rfl,p,db,dc,lc,g,rfl,hP5,by omega,fun H6 s6=>⟨fun e=>(by rw[e]at hcl;cases hcl),fun v hv hmin=>?_⟩⟩;obtain rfl:v=g.now+ 3:=by
    rw[htm]at hv hmin;have h1:=hmin (g.now+ 3) (by simp);simp only[Y6,Yl,YL]at hv;omega
   refine⟨.int _,.int _,.int _,.int _,rfl,rfl,?_⟩;rw[show PyData.eqv (.int (g.now+ 3)) (.int (g.now+ 3))=true by simp[PyData.eqv]];refine⟨_,rfl,?_⟩;rw[Y2 (by simp),aa];exact⟨⟨_,rfl⟩,fun b o e n=>(s45.trans s6) _ _ (k3 _ _ (k2 _ _ (k1 _ _ (kG _ _ e n) n) n) n),T3'.same (s45.trans s6)⟩
  .intro σ' G Zq;obtain⟨⟨v,rfl⟩,kG,tG⟩:=Zq;refine j _ _ ?_;clear j N aa Pv hz ezs;have hPG:=hU3.po.butT kG;have hLG:=hL3.kt kG;have hIG:Gr C CRo CP G p db dc lc g 3 2 (Bf g.now dA.whole):=⟨hPG,hU3.ap,hU3.nb,hU3.nr⟩;clear hU3 hL3 tb kG hPG htm hcl hrl hRs hcs;refine We fun N j=>?_
   walk_at"rd";refine⟨hIG.po.mt rfl,_,JN.of hLG.tt,_,rfl,Wi (by decide),fun q1 H1 hq1 s1 g1=>?_⟩;refine CG (d:=dA) (w:=8) (ns:=["a"]) (hIG.mono s1) (UH _) (hLG.mono s1).la rfl (by decide) (by decide) (fun z=>by cases z) g1 (by decide) (by decide) (fun x y=>.inl (Yn.mp y)) (K4 (by decide) rfl) (Ne.symm (WJ hIG.po.hl hq1)) (by simp[Bf]) (tO (d:=dA.whole) rfl) fun U2 H2 k2 ab hn2=>?_
   rw[show(Wa 8 dA.whole 0).length=5 by rw[Al (d:=dA.whole) rfl];rfl];refine⟨rfl,?_⟩;rw[Y2 (by simp)];have hL2:=(hLG.mono s1).kp (hIG.mono s1).po ncl n1 n2 k2;obtain⟨dxp,fsp,ac,_⟩:=hIG.po.ex;have tb2:=(tG.same s1).kp fun b o h n1 n2 n3=>k2 b o h (fun z=>by rw[z,s1 _ _ hIG.po.hl]at h;cases h;exact n3 _ rfl) (fun z=>by rw[z,s1 _ _ hIG.po.hc]at h;cases h;exact n1 _ rfl) (fun z=>by rw[z,s1 _ _ ac]at h;cases h;exact n2 _ _ _ rfl)
   obtain⟨_,hcs,_⟩:=Ci ab.ap;have hcl:U2.cs.length=9:=by
    have:=YH List.length hcs;unfold TZ at this;rw[List.length_map]at this;exact this
   refine⟨ab.po.mt rfl,p,db,dc,lc,U2,rfl,ab.po,?_⟩;rw[hcl];refine⟨rfl,?_⟩;rw[Y2 (by simp)];refine j _ _ ?_;clear j N hLG hIG tG k2 s1 g1 hq1 ac;refine We fun N j=>?_
   walk_at"rd";have htm:∀c∈U2.cs,c.tm <=g.now+ 7:=fun c hc=>by
    have:(c.tm,c.d)∈TZ U2.cs:=YU (f:=fun c:Th=>(c.tm,c.d)) hc;rw[hcs]at this;simp only[Bf,IZ,List.cons_append,List.nil_append,Y6,Yl,YL,Prod.mk.injEq]at this;omega
   have harr:Md (g.now+ 7) U2.cs=U2.cs:=UC.mpr fun c hc=>Yw (htm c hc)
   have hlate:DV (g.now+ 7) U2.cs=[]:=List.filter_eq_nil_iff.mpr fun c hc=>by have:=htm c hc;simp;omega
   refine⟨ab.po.mt rfl,p,db,dc,lc,U2,_,_,rfl,ab.po,rfl,.inr ⟨g.now+ 7,rfl,by omega,by omega,tb2.tf,fun l lc' ms G5 hl hlc' nll k5 tf5 hms e5 hU5=>?_⟩⟩;rw[harr]at hms;rw[hlate]at hU5;have hgs:=SL hms hcs;refine⟨l,rfl,⟨_,VZ.of e5⟩,?_⟩;obtain⟨dxp,fsp,ac,_⟩:=ab.po.ex;have up:∀{c:VI} {o:HO},H2 c=some o->(∀dx fs,o≠ .ins C dx fs)->(∀ps,o≠ .tbl ps)->G5 c=some o:=fun {c o} h a1 a2=>k5 c o h (fun z=>by rw[z,ac]at h;cases h;exact a1 _ _ rfl) (Jx tb2.tf h a2)
   have hml:ms.length=9:=by rw[hms.pm.length_eq,hcl]
   obtain⟨Pv,aa⟩:∃Pv:Nat->List V->L2.St->Hp->Prop,Pv=fun i ys σ' G=>ys=((ms.take i).map (·.d.at')).map V.int/\(∃v w,σ'=[v,w])/\G=G5:=⟨_,rfl⟩
   refine Db (xs:=JQ ms) Pv (by rw[aa];exact⟨rfl,⟨none,none,rfl⟩,rfl⟩) ?_ (Wi (by rw[show(JQ ms).length=ms.length from List.length_map ..,hml];decide)) ?_ ?_ <;> rw[aa]
   .rintro i ys σ' G ⟨rfl,_,rfl⟩ _;refine⟨VZ.of e5,?_⟩;rw[List.length_map,List.length_map,YD];omega
   .intro i x ys σ' G y Zq;obtain⟨rfl,⟨v,w,rfl⟩,rfl⟩:=Zq;rw[<-aa];unfold JQ at y;rw[Yk]at y;obtain⟨c,hc,rfl⟩:=YA.mp y;have hT:=ab.po.th c (hms.pm.mem_iff.mp (Yd hc));obtain⟨dxq,fsq,hq⟩:=hT.pi.ins;have hP:WB CP G c.q c.b c.d:=hT.pi.kp (fun o z=>by rw[hq]at z;cases z;exact up hq (by intro _ _ z;injection z with z;exact ncp z.symm) nofun) (fun o z=>by rw[hT.pi.bd]at z;cases z;exact up hT.pi.bd nofun nofun);walk_at"rd";refine⟨_,JN.of (up hT.tu nofun nofun),rfl,_,_,rfl,_,_,rfl,rfl,_,Ms LP hP,?_⟩;rw[aa];exact⟨by rw[Yz,hc,YI,Yp,Yp];rfl,⟨_,_,rfl⟩,rfl⟩
   rintro ys σ' G ⟨rfl,_,rfl⟩ l9 G6 hl9 s6 e6;rw[show(JQ ms).length=ms.length from List.length_map ..,YO]at e6;have hat:ms.map (·.d.at')=[0,16,32,0,8,24,32,8,24]:=by
    have:=YH (List.map fun c:Int×PD=>c.2.at') hgs;unfold TZ at this;rw[YB]at this;exact this
   rw[hat]at e6;refine j _ _ ?_;clear j N aa Pv;walk_at"rd";refine⟨Wi (by decide),fun q2 G7 _ s7 e7=>?_⟩;refine⟨_,_,Qd (ns:=[0,16,32,0,8,24,32,8,24]) (s7 _ _ e6),Qd (ns:=[0,16,32,0,8,24,32,8,24]) e7,Lu _,Lu _,?_⟩;rw[vU];refine⟨_,rfl,?_⟩;rw[Y9 rfl];have s67:=s6.trans s7;have hnr:∀x∈U2.rs,x.lw≠lc'/\x.ll≠lc':=fun x y=>⟨WJ (ab.po.rd x y).hw hlc',WJ (ab.po.rd x y).hl hlc'⟩
   have hI:Gr C CRo CP G7 p db dc lc' {U2 with now:=g.now+ 7,cs:=[]} 8 2 []:=⟨hU5.mono s67,YH (fun r=>(⟨r,[]⟩:AP)) (YH AP.rs ab.ap),fun c hc=>absurd hc Yl,hnr⟩;have f:∀{l b:VI} {d:LD},Jt CL H2 l b d->Jt CL G7 l b d:=fun {l b d} h=>by
    obtain⟨dx',fs',hl⟩:=h.ins;exact⟨h.ok,h.ats.same (fun o e=>s67 _ _ (k5 _ _ e (VS hl ac (by intro z;injection z with z;exact ncl z)) (Jx tb2.tf hl nofun))),s67 _ _ (up h.bd nofun nofun)⟩
   have hLs:T8 CL G7 tl la ka lb kb dA dK:=⟨s67 _ _ (up hL2.tt nofun nofun),f hL2.la,f hL2.lk,rfl,rfl,rfl,rfl⟩;have t4:=(Pk tb2.t4 tb2.tf n4F fun b o h n z _=>k5 b o h (fun e=>by rw[e,ac]at h;cases h;exact z _ _ _ rfl) n).same s67;exact⟨p,db,dc,lc',tl,la,ka,lb,kb,dA,dK,_,g.now,2,rfl,hI,hLs,rfl,t1.1,t4,tf5.same s67,n4F,WJ hL2.la.bd hlc',WJ hL2.lk.bd hlc',fun G=>q G⟩
end
theorem uD{us:VL}{v:VH}(hl:(us++[v]).length=6):∃u0 u1 u2 u3 u4,us=[u0,u1,u2,u3,u4]:=by
 have h5:us.length=5:=by rw[Yx]at hl;simpa using hl
 exact IV h5
theorem nH{K:VG}{s:VC}{T:VI}{oT:Option Addr}{nT:Nat}{sT:Array (Option Value)}{kV dc pm cd ct:VH}{an:Option Addr}{u0 u1 u2 u3 u4 u5:VH}(kx:K.In s.heap)(h:K.lookup T=some ⟨.type "tuple",oT,.seq #[.bool false] nT,sT⟩):
  BindsTo s (W.fnOf "__init__" "Letter.__init__" (NV W4) (VX W4) (VO W4) (.ref T) kV dc pm an cd ct) ⟨[u0,u1,u2,u3,u4,u5],[]⟩ ((["self","number","sender","goal","body","keep"]:List Str).zip ([u0,u1,u2,u3,u4,u5]++[])):=by
 first
  |exact .of_eq rfl
  |exact .of_defaults rfl (kx _ _ h) rfl rfl rfl
theorem vD{K:VG}{s:VC}{T:VI}{oT:Option Addr}{nT:Nat}{sT:Array (Option Value)}{kV dc pm cd ct:VH}{an:Option Addr}{u0 u1 u2 u3 u4:VH}(kx:K.In s.heap)(h:K.lookup T=some ⟨.type "tuple",oT,.seq #[.bool false] nT,sT⟩):
  BindsTo s (W.fnOf "__init__" "Letter.__init__" (NV W4) (VX W4) (VO W4) (.ref T) kV dc pm an cd ct) ⟨[u0,u1,u2,u3,u4],[]⟩ ((["self","number","sender","goal","body","keep"]:List Str).zip ([u0,u1,u2,u3,u4]++[.bool false])):=by
 exact .of_defaults rfl (kx _ _ h) rfl rfl rfl
theorem gG{us:VL}{v:VH}(hl:(us++[v]).length=8):∃u0 u1 u2 u3 u4 u5 u6,us=[u0,u1,u2,u3,u4,u5,u6]:=by
 have h5:us.length=7:=by rw[Yx]at hl;simpa using hl
 exact QK h5
theorem wH{K:VG}{s:VC}{T:VI}{oT:Option Addr}{nT:Nat}{sT:Array (Option Value)}{kV dc pm cd ct:VH}{an:Option Addr}{u0 u1 u2 u3 u4 u5 u6 u7:VH}(kx:K.In s.heap)(h:K.lookup T=some ⟨.type "tuple",oT,.seq #[.bool false] nT,sT⟩):
  BindsTo s (W.fnOf "__init__" "Piece.__init__" (NV W8) (VX W8) (VO W8) (.ref T) kV dc pm an cd ct) ⟨[u0,u1,u2,u3,u4,u5,u6,u7],[]⟩ ((["self","number","sender","goal","at","body","more","keep"]:List Str).zip ([u0,u1,u2,u3,u4,u5,u6,u7]++[])):=by
 first
  |exact .of_eq rfl
  |exact .of_defaults rfl (kx _ _ h) rfl rfl rfl
theorem xP{K:VG}{s:VC}{T:VI}{oT:Option Addr}{nT:Nat}{sT:Array (Option Value)}{kV dc pm cd ct:VH}{an:Option Addr}{u0 u1 u2 u3 u4 u5 u6:VH}(kx:K.In s.heap)(h:K.lookup T=some ⟨.type "tuple",oT,.seq #[.bool false] nT,sT⟩):
  BindsTo s (W.fnOf "__init__" "Piece.__init__" (NV W8) (VX W8) (VO W8) (.ref T) kV dc pm an cd ct) ⟨[u0,u1,u2,u3,u4,u5,u6],[]⟩ ((["self","number","sender","goal","at","body","more","keep"]:List Str).zip ([u0,u1,u2,u3,u4,u5,u6]++[.bool false])):=by
 exact .of_defaults rfl (kx _ _ h) rfl rfl rfl
theorem wW{us:VL}{v:VH}(hl:(us++[v]).length=4):∃u0 u1 u2,us=[u0,u1,u2]:=by
 have h5:us.length=3:=by rw[Yx]at hl;simpa using hl
 exact Hv h5
theorem vC{K:VG}{s:VC}{T:VI}{oT:Option Addr}{nT:Nat}{sT:Array (Option Value)}{kV dc pm cd ct:VH}{an:Option Addr}{u0 u1 u2 u3:VH}(kx:K.In s.heap)(h:K.lookup T=some ⟨.type "tuple",oT,.seq #[.none] nT,sT⟩):
  BindsTo s (W.fnOf "__init__" "Road.__init__" (NV GV) (VX GV) (VO GV) (.ref T) kV dc pm an cd ct) ⟨[u0,u1,u2,u3],[]⟩ ((["self","widths","delay","lost"]:List Str).zip ([u0,u1,u2,u3]++[])):=by
 first
  |exact .of_eq rfl
  |exact .of_defaults rfl (kx _ _ h) rfl rfl rfl
theorem xR{K:VG}{s:VC}{T:VI}{oT:Option Addr}{nT:Nat}{sT:Array (Option Value)}{kV dc pm cd ct:VH}{an:Option Addr}{u0 u1 u2:VH}(kx:K.In s.heap)(h:K.lookup T=some ⟨.type "tuple",oT,.seq #[.none] nT,sT⟩):
  BindsTo s (W.fnOf "__init__" "Road.__init__" (NV GV) (VX GV) (VO GV) (.ref T) kV dc pm an cd ct) ⟨[u0,u1,u2],[]⟩ ((["self","widths","delay","lost"]:List Str).zip ([u0,u1,u2]++[.none])):=by
 exact .of_defaults rfl (kx _ _ h) rfl rfl rfl
local macro_rules | `(tactic| walk_at"b1") => `(tactic| exact fun _ _ _ _ _ _ us hl => by obtain ⟨_, e⟩ := O1 hl; subst e; rfl)
local macro_rules | `(tactic| walk_at"b2") => `(tactic| exact fun _ _ _ _ _ _ us hl => by obtain ⟨_, _, e⟩ := Q7 hl; subst e; rfl)
local macro_rules | `(tactic| walk_at"b3") => `(tactic| exact fun _ _ _ _ _ _ us hl => by obtain ⟨_, _, _, e⟩ := Hv hl; subst e; rfl)
local macro_rules | `(tactic| walk_at"b4") => `(tactic| exact fun _ _ _ _ _ _ us hl => by obtain ⟨_, _, _, _, e⟩ := FV hl; subst e; rfl)
local macro_rules | `(tactic| walk_at"b5") => `(tactic| exact fun _ _ _ _ _ _ us hl => by obtain ⟨_, _, _, _, _, e⟩ := IV hl; subst e; rfl)
local macro_rules | `(tactic| walk_at"b6") => `(tactic| exact fun _ _ _ _ _ _ us hl => by obtain ⟨_, _, _, _, _, _, e⟩ := Fi hl; subst e; rfl)
set_option maxHeartbeats 0 in
theorem Ha{l:W.OpenLaw}{w:VF}{K:VG}{h:VM}{mg:Vx}{fa:VI}(X:K.In h)(G:h.Ns mainGlobals mg)(hfa:mg "law"=some (.ref fa))
  {f_is_whole f_is_whole_within f_is_whole_from f_is_truth f_is_number f_is_name f_is_byte f_is_body f_is_width f_are_widths f_is_rule f_is_out f_is_again f_are_shared_parts f_is_place f_has_room f_full_length f_part_of f_cut_again f_cut f_all_cut_again f_cut_over f_are_lost f_with_span f_lacking f_carry f_cell_at f_sort f_noroad cL_noroad tL_noroad f_nosend cL_nosend tL_nosend f_lateroom cL_lateroom tL_lateroom f_behind cL_behind tL_behind f_law C_Letter f_Letter_init T_Letter_init C_Piece f_Piece_key f_Piece_end f_Piece_init T_Piece_init C_Road f_Road_init T_Road_init C_Post f_Post_check_time f_Post_roads f_Post_on_the_way f_Post_next_time f_Post_are_built f_Post_build f_Post_put_on_road f_Post_loads_of f_Post_send f_Post_fetch cL_Post_fetch tL_Post_fetch f_Post_init C_Whole f_Whole_init C_Unlike f_Unlike_init C_Reading f_Reading_is_strange f_Reading_unlike_number f_Reading_take f_Reading_missing f_Reading_taken_body f_Reading_answer_to f_Reading_init C_Room f_Room_check_time f_Room_let_go f_Room_is_resting f_Room_end_waits f_Room_make_space f_Room_take_in f_Room_tick f_Room_come f_Room_init C_WayError C_NoKey C_NoLetter C_NoPiece C_NoRoom C_NoRow C_NoRule C_NoText C_NoTime C_NoWidth C_TooWide C_NoRoad:VI}
  {ts:List Addr}
  {aRULES:VI}
  {aOUTS:VI}
  {aAGAINS:VI}
  (q_is_whole:GF K "is_whole" HK f_is_whole)
  (q_is_whole_within:GF K "is_whole_within" Hu f_is_whole_within)
  (q_is_whole_from:GF K "is_whole_from" Ir f_is_whole_from)
  (q_is_truth:GF K "is_truth" Fb f_is_truth)
  (q_is_number:GF K "is_number" KY f_is_number)
  (q_is_name:GF K "is_name" Ak f_is_name)
  (q_is_byte:GF K "is_byte" F0 f_is_byte)
  (q_is_body:GF K "is_body" Cs f_is_body)
  (q_is_width:GF K "is_width" Lf f_is_width)
  (q_are_widths:GF K "are_widths" Cz f_are_widths)
  (q_is_rule:GF K "is_rule" IP f_is_rule)
  (q_is_out:GF K "is_out" FO f_is_out)
  (q_is_again:GF K "is_again" FA f_is_again)
  (q_are_shared_parts:GF K "are_shared_parts" Fk f_are_shared_parts)
  (q_is_place:GF K "is_place" FZ f_is_place)
  (q_has_room:GF K "has_room" Kg f_has_room)
  (q_full_length:GF K "full_length" Lh f_full_length)
  (q_part_of:GF K "part_of" IL f_part_of)
  (q_cut_again:GF K "cut_again" IG f_cut_again)
  (q_cut:GF K "cut" H9 f_cut)
  (q_all_cut_again:GF K "all_cut_again" Io f_all_cut_again)
  (q_cut_over:GF K "cut_over" KA f_cut_over)
  (q_are_lost:GF K "are_lost" CQ f_are_lost)
  (q_with_span:GF K "with_span" Fm f_with_span)
  (q_lacking:GF K "lacking" Fy f_lacking)
  (q_carry:GF K "carry" IR f_carry)
  (q_cell_at:GF K "_law_cell_at" HH f_cell_at)
  (q_sort:GF K "_law_sort" AB f_sort)
  (q_noroad:GA K "_law_no_road" MI f_noroad cL_noroad tL_noroad)
  (hm_noroad:tL_noroad∈ts)
  (hd_noroad:W.codeHdIn K cL_noroad tL_noroad=true)
  (q_nosend:GA K "_law_no_send" TX f_nosend cL_nosend tL_nosend)
  (hm_nosend:tL_nosend∈ts)
  (hd_nosend:W.codeHdIn K cL_nosend tL_nosend=true)
  (q_lateroom:GA K "_law_late_room" AL f_lateroom cL_lateroom tL_lateroom)
  (hm_lateroom:tL_lateroom∈ts)
  (hd_lateroom:W.codeHdIn K cL_lateroom tL_lateroom=true)
  (q_behind:GA K "_law_behind" Dc f_behind cL_behind tL_behind)
  (hm_behind:tL_behind∈ts)
  (hd_behind:W.codeHdIn K cL_behind tL_behind=true)
  (q_law:GF K "law" Rc f_law)
  (qc_Letter:CF K "Letter" C_Letter)
  (na_Letter:NA K C_Letter ["number","sender","goal","body","keep"])
  (q_Letter_init:DF K C_Letter "Letter.__init__" W4 f_Letter_init T_Letter_init)
  (qc_Piece:CF K "Piece" C_Piece)
  (na_Piece:NA K C_Piece ["number","sender","goal","at","body","more","keep"])
  (q_Piece_key:MF K C_Piece "key" "Piece.key" HF f_Piece_key)
  (q_Piece_end:MF K C_Piece "end" "Piece.end" F1 f_Piece_end)
  (q_Piece_init:DF K C_Piece "Piece.__init__" W8 f_Piece_init T_Piece_init)
  (qc_Road:CF K "Road" C_Road)
  (na_Road:NA K C_Road ["widths","delay","lost"])
  (q_Road_init:DN K C_Road "Road.__init__" GV f_Road_init T_Road_init)
  (qc_Post:CF K "Post" C_Post)
  (na_Post:NA K C_Post ["now","built","counts","coming"])
  (q_Post_check_time:MF K C_Post "check_time" "Post.check_time" F3 f_Post_check_time)
  (q_Post_roads:MF K C_Post "roads" "Post.roads" KZ f_Post_roads)
  (q_Post_on_the_way:MF K C_Post "on_the_way" "Post.on_the_way" K3 f_Post_on_the_way)
  (q_Post_next_time:MF K C_Post "next_time" "Post.next_time" A2 f_Post_next_time)
  (q_Post_are_built:MF K C_Post "are_built" "Post.are_built" Ce f_Post_are_built)
  (q_Post_build:MF K C_Post "build" "Post.build" Ie f_Post_build)
  (q_Post_put_on_road:MF K C_Post "put_on_road" "Post.put_on_road" C7 f_Post_put_on_road)
  (q_Post_loads_of:MF K C_Post "loads_of" "Post.loads_of" Le f_Post_loads_of)
  (q_Post_send:MF K C_Post "send" "Post.send" Fh f_Post_send)
  (q_Post_fetch:MA K C_Post "fetch" "Post.fetch" EG f_Post_fetch cL_Post_fetch tL_Post_fetch)
  (hm_Post_fetch:tL_Post_fetch∈ts)
  (q_Post_init:MF K C_Post "__init__" "Post.__init__" Jo f_Post_init)
  (qc_Whole:CF K "Whole" C_Whole)
  (na_Whole:NA K C_Whole ["body"])
  (q_Whole_init:MF K C_Whole "__init__" "Whole.__init__" Jb f_Whole_init)
  (qc_Unlike:CF K "Unlike" C_Unlike)
  (na_Unlike:NA K C_Unlike [])
  (q_Unlike_init:MF K C_Unlike "__init__" "Unlike.__init__" Ip f_Unlike_init)
  (qc_Reading:CF K "Reading" C_Reading)
  (na_Reading:NA K C_Reading ["rule","standing","cover","ending","reach"])
  (q_Reading_is_strange:MF K C_Reading "is_strange" "Reading.is_strange" K0 f_Reading_is_strange)
  (q_Reading_unlike_number:MF K C_Reading "unlike_number" "Reading.unlike_number" F8 f_Reading_unlike_number)
  (q_Reading_take:MF K C_Reading "take" "Reading.take" Fc f_Reading_take)
  (q_Reading_missing:MF K C_Reading "missing" "Reading.missing" Ii f_Reading_missing)
  (q_Reading_taken_body:MF K C_Reading "taken_body" "Reading.taken_body" AS f_Reading_taken_body)
  (q_Reading_answer_to:MF K C_Reading "answer_to" "Reading.answer_to" HZ f_Reading_answer_to)
  (q_Reading_init:MF K C_Reading "__init__" "Reading.__init__" WS f_Reading_init)
  (qc_Room:CF K "Room" C_Room)
  (na_Room:NA K C_Room ["rule","wait","space","out","again","now","readings","firsts","wholes"])
  (q_Room_check_time:MF K C_Room "check_time" "Room.check_time" HA f_Room_check_time)
  (q_Room_let_go:MF K C_Room "let_go" "Room.let_go" La f_Room_let_go)
  (q_Room_is_resting:MF K C_Room "is_resting" "Room.is_resting" Iy f_Room_is_resting)
  (q_Room_end_waits:MF K C_Room "end_waits" "Room.end_waits" Ab f_Room_end_waits)
  (q_Room_make_space:MF K C_Room "make_space" "Room.make_space" FT f_Room_make_space)
  (q_Room_take_in:MF K C_Room "take_in" "Room.take_in" Ib f_Room_take_in)
  (q_Room_tick:MF K C_Room "tick" "Room.tick" Hs f_Room_tick)
  (q_Room_come:MF K C_Room "come" "Room.come" Fe f_Room_come)
  (q_Room_init:MF K C_Room "__init__" "Room.__init__" Js f_Room_init)
  (qw:RB K [("WayError",C_WayError)])
  (qx:RB K [("NoKey",C_NoKey),("NoLetter",C_NoLetter),("NoPiece",C_NoPiece),("NoRoom",C_NoRoom),("NoRow",C_NoRow),("NoRule",C_NoRule),("NoText",C_NoText),("NoTime",C_NoTime),("NoWidth",C_NoWidth),("TooWide",C_TooWide),("NoRoad",C_NoRoad)])
  (xf_NoLetter:XF K C_NoLetter)
  (mr_NoLetter:DG K C_NoLetter [(C_WayError,true),(C_NoKey,false),(C_NoLetter,true),(C_NoPiece,false),(C_NoRoom,false),(C_NoRow,false),(C_NoRule,false),(C_NoText,false),(C_NoTime,false),(C_NoWidth,false),(C_TooWide,false),(C_NoRoad,false)])
  (xf_NoTime:XF K C_NoTime)
  (mr_NoTime:DG K C_NoTime [(C_WayError,true),(C_NoKey,false),(C_NoLetter,false),(C_NoPiece,false),(C_NoRoom,false),(C_NoRow,false),(C_NoRule,false),(C_NoText,false),(C_NoTime,true),(C_NoWidth,false),(C_TooWide,false),(C_NoRoad,false)])
  (xf_NoWidth:XF K C_NoWidth)
  (mr_NoWidth:DG K C_NoWidth [(C_WayError,true),(C_NoKey,false),(C_NoLetter,false),(C_NoPiece,false),(C_NoRoom,false),(C_NoRow,false),(C_NoRule,false),(C_NoText,false),(C_NoTime,false),(C_NoWidth,true),(C_TooWide,false),(C_NoRoad,false)])
  (xf_TooWide:XF K C_TooWide)
  (mr_TooWide:DG K C_TooWide [(C_WayError,true),(C_NoKey,false),(C_NoLetter,false),(C_NoPiece,false),(C_NoRoom,false),(C_NoRow,false),(C_NoRule,false),(C_NoText,false),(C_NoTime,false),(C_NoWidth,false),(C_TooWide,true),(C_NoRoad,false)])
  (xf_NoRoad:XF K C_NoRoad)
  (mr_NoRoad:DG K C_NoRoad [(C_WayError,true),(C_NoKey,false),(C_NoLetter,false),(C_NoPiece,false),(C_NoRoom,false),(C_NoRow,false),(C_NoRule,false),(C_NoText,false),(C_NoTime,false),(C_NoWidth,false),(C_TooWide,false),(C_NoRoad,true)])
  (kt_Letter:W.typeIn K (.ref C_Letter)=some (.type "type")/\W.mroIn K C_Letter (.type "object")=some true)
  (kt_Road:W.typeIn K (.ref C_Road)=some (.type "type")/\W.mroIn K C_Road (.type "object")=some true)
  (kt_Whole:W.typeIn K (.ref C_Whole)=some (.type "type")/\W.mroIn K C_Whole (.type "object")=some true)
  (kmr_Letter_Letter:W.mroIn K C_Letter (.ref C_Letter)=some true)
  (kmr_Road_Road:W.mroIn K C_Road (.ref C_Road)=some true)
  (kmr_Whole_Whole:W.mroIn K C_Whole (.ref C_Whole)=some true)
  (qk:(∃t,W.nsIn K mainGlobals "MOST_NUMBER"=some (some (.int 65535 t)))/\(∃t,W.nsIn K mainGlobals "MOST_BYTE"=some (some (.int 255 t)))/\(∃t,W.nsIn K mainGlobals "MOST_SIGNS"=some (some (.int 8 t)))/\(∃t,W.nsIn K mainGlobals "MOST_BYTES"=some (some (.int 4000 t)))/\(∃t,W.nsIn K mainGlobals "LEAST_WIDTH"=some (some (.int 8 t)))/\(∃t,W.nsIn K mainGlobals "MOST_WIDTH"=some (some (.int 5000 t)))/\(∃t,W.nsIn K mainGlobals "MOST_WIDTHS"=some (some (.int 20 t)))/\(∃t,W.nsIn K mainGlobals "STEP"=some (some (.int 8 t)))/\True)
  (q_RULES:W.nsIn K mainGlobals "RULES"=some (some (.ref aRULES))/\∃o n s u0 u1 u2,K.lookup aRULES=some ⟨.type "tuple",o,.seq #[.str "first" u0,.str "last" u1,.str "refuse" u2] n,s⟩)
  (q_OUTS:W.nsIn K mainGlobals "OUTS"=some (some (.ref aOUTS))/\∃o n s u0 u1 u2,K.lookup aOUTS=some ⟨.type "tuple",o,.seq #[.str "oldest" u0,.str "widest" u1,.str "own" u2] n,s⟩)
  (q_AGAINS:W.nsIn K mainGlobals "AGAINS"=some (some (.ref aAGAINS))/\∃o n s u0 u1,K.lookup aAGAINS=some ⟨.type "tuple",o,.seq #[.str "fresh" u0,.str "rest" u1] n,s⟩)
  (zs:NS K ["len","range","isinstance","all","min","max","int","bool","str","list","tuple","enumerate","zip","sum","sorted","ValueError"])
  (nt:W.noTabs K=true)
  (nq_Post_Road:C_Post≠C_Road)
  (nq_Post_Piece:C_Post≠C_Piece)
  (nq_Post_Room:C_Post≠C_Room)
  (nq_Road_Room:C_Road≠C_Room)
  (nq_Piece_Room:C_Piece≠C_Room)
  (nq_Reading_Piece:C_Reading≠C_Piece)
  (nq_Room_Reading:C_Room≠C_Reading)
  (nq_Letter_Post:C_Letter≠C_Post)
  (ne_12:tL_noroad≠tL_nosend)
  (ne_13:tL_noroad≠tL_lateroom)
  (ne_23:tL_nosend≠tL_lateroom)
  (ne_14:tL_noroad≠tL_behind)
  (ne_24:tL_nosend≠tL_behind)
  (ne_34:tL_lateroom≠tL_behind)
  (ne_15:tL_noroad≠tL_Post_fetch)
  (ne_25:tL_nosend≠tL_Post_fetch)
  (ne_35:tL_lateroom≠tL_Post_fetch)
  (ne_45:tL_behind≠tL_Post_fetch):
  ∃ (cts:List (Addr×Addr)) (fd:VD),(∀x∈cts,x.2∈ts/\W.codeHdIn K x.1 x.2=true)/\W.noTabs K=true/\(∀ (s:VC) (v:VH),BindsTo s fd ⟨[v],[]⟩ [("_law_script",v)])/\∀base:Heap,W.Frag.In K base->base.Ns mainGlobals mg->(∀x∈cts,JG mg base x.1 x.2)->VW l.prog w K mg base WK 17 fa fd ["_law_script"] (NQ K cts):=by
 obtain⟨a_law,oc,od,kV,dc,pm,an,cd,ct,sl,l_law,c_law,k_law⟩:=q_law;have e:=hfa.symm.trans (W.mg_of X G a_law);cases e;have EW:=BL (st:=Rc) l_law c_law k_law;refine⟨[(cL_noroad,tL_noroad),(cL_nosend,tL_nosend),(cL_lateroom,tL_lateroom),(cL_behind,tL_behind),(cL_Post_fetch,tL_Post_fetch)],W.fnOf "law" "law" (NV Rc) (VX Rc) (VO Rc) .none kV dc pm an cd ct,(YJ.mpr ⟨⟨hm_noroad,hd_noroad⟩,(YJ.mpr ⟨⟨hm_nosend,hd_nosend⟩,(YJ.mpr ⟨⟨hm_lateroom,hd_lateroom⟩,(YJ.mpr ⟨⟨hm_behind,hd_behind⟩,(YJ.mpr ⟨⟨hm_Post_fetch,q_Post_fetch.hd⟩,(fun _ h=>absurd h Yl)⟩)⟩)⟩)⟩)⟩),nt,fun s v=>.of_eq rfl,fun base kb nb hLC=>?_⟩;have LC_noroad:=hLC _ (Yq);have LC_nosend:=hLC _ (Ya _ <|Yq);have LC_lateroom:=hLC _ (Ya _ <|Ya _ <|Yq);have LC_behind:=hLC _ (Ya _ <|Ya _ <|Ya _ <|Yq);have LC_Post_fetch:=hLC _ (Ya _ <|Ya _ <|Ya _ <|Ya _ <|Yq);have E:Ny l.prog w K mg base:=⟨fun e=>W.mg_of X G e,fun e=>W.mg_none_of X G e⟩;have kit_Letter_Letter:W.kitOne K (.ref C_Letter) (.ref C_Letter)=some true:=BX kmr_Letter_Letter kt_Letter.1 kt_Letter.2 kmr_Letter_Letter;have kit_Road_Road:W.kitOne K (.ref C_Road) (.ref C_Road)=some true:=BX kmr_Road_Road kt_Road.1 kt_Road.2 kmr_Road_Road;have kit_Whole_Whole:W.kitOne K (.ref C_Whole) (.ref C_Whole)=some true:=BX kmr_Whole_Whole kt_Whole.1 kt_Whole.2 kmr_Whole_Whole;have m_Letter:=E.of qc_Letter.1;have cl_Letter:=qc_Letter.2.1;have ic_Letter:=qc_Letter.2.2.2.2;have m_Piece:=E.of qc_Piece.1;have cl_Piece:=qc_Piece.2.1;have ic_Piece:=qc_Piece.2.2.2.2;have m_Road:=E.of qc_Road.1;have cl_Road:=qc_Road.2.1;have ic_Road:=qc_Road.2.2.2.2;have cl_Post:=qc_Post.2.1;have m_Whole:=E.of qc_Whole.1;have cl_Whole:=qc_Whole.2.1;have ic_Whole:=qc_Whole.2.2.2.2;have cl_Reading:=qc_Reading.2.1;have cl_Room:=qc_Room.2.1;obtain⟨g_RULES,_,_,_,_,_,_,tt_RULES⟩:=q_RULES;have g_RULES:=E.of g_RULES;have t_RULES:∀H,L2.JN K H aRULES [.str "first",.str "last",.str "refuse"]:=fun H=>.inr ⟨_,_,_,tt_RULES,rfl,rfl,Wi (by simp),(.cons ⟨_,rfl⟩ (.cons ⟨_,rfl⟩ (.cons ⟨_,rfl⟩ .nil)))⟩
 obtain⟨g_OUTS,_,_,_,_,_,_,tt_OUTS⟩:=q_OUTS;have g_OUTS:=E.of g_OUTS;have t_OUTS:∀H,L2.JN K H aOUTS [.str "oldest",.str "widest",.str "own"]:=fun H=>.inr ⟨_,_,_,tt_OUTS,rfl,rfl,Wi (by simp),(.cons ⟨_,rfl⟩ (.cons ⟨_,rfl⟩ (.cons ⟨_,rfl⟩ .nil)))⟩
 obtain⟨g_AGAINS,_,_,_,_,_,tt_AGAINS⟩:=q_AGAINS;have g_AGAINS:=E.of g_AGAINS;have t_AGAINS:∀H,L2.JN K H aAGAINS [.str "fresh",.str "rest"]:=fun H=>.inr ⟨_,_,_,tt_AGAINS,rfl,rfl,Wi (by simp),(.cons ⟨_,rfl⟩ (.cons ⟨_,rfl⟩ .nil))⟩
 have B:Bt mg:=⟨E.no zs.1,E.no zs.2.1,E.no zs.2.2.1,E.no zs.2.2.2.1,E.no zs.2.2.2.2.1,E.no zs.2.2.2.2.2.1,E.no zs.2.2.2.2.2.2.1,E.no zs.2.2.2.2.2.2.2.1,E.no zs.2.2.2.2.2.2.2.2.1,E.no zs.2.2.2.2.2.2.2.2.2.1,E.no zs.2.2.2.2.2.2.2.2.2.2.1⟩;have B2:Az mg:=⟨E.no zs.2.2.2.2.2.2.2.2.2.2.2.2.2.1,E.no zs.2.2.2.2.2.2.2.2.2.2.2.2.2.2.1⟩;have B3:Cr mg:=⟨E.no zs.2.2.2.2.2.2.2.2.2.2.2.1,E.no zs.2.2.2.2.2.2.2.2.2.2.2.2.1⟩;have B5:OO mg:=⟨E.no zs.2.2.2.2.2.2.2.2.2.2.2.2.2.2.2.1⟩;have RC:PM K mg C_WayError [C_NoKey,C_NoLetter,C_NoPiece,C_NoRoom,C_NoRow,C_NoRule,C_NoText,C_NoTime,C_NoWidth,C_TooWide,C_NoRoad]:=⟨E.of qw.1.1,⟨qw.1.2.1,qw.1.2.2⟩,rfl,(fun c hc=>by cases hc;exact E.of qx.1.1),(fun c hc=>by cases hc;exact E.of qx.2.1.1),(fun c hc=>by cases hc;exact E.of qx.2.2.1.1),(fun c hc=>by cases hc;exact E.of qx.2.2.2.1.1),(fun c hc=>by cases hc;exact E.of qx.2.2.2.2.1.1),(fun c hc=>by cases hc;exact E.of qx.2.2.2.2.2.1.1),(fun c hc=>by cases hc;exact E.of qx.2.2.2.2.2.2.1.1),(fun c hc=>by cases hc;exact E.of qx.2.2.2.2.2.2.2.1.1),(fun c hc=>by cases hc;exact E.of qx.2.2.2.2.2.2.2.2.1.1),(fun c hc=>by cases hc;exact E.of qx.2.2.2.2.2.2.2.2.2.1.1),(fun c hc=>by cases hc;exact E.of qx.2.2.2.2.2.2.2.2.2.2.1.1)⟩;have X_NoLetter:XC K mg "NoLetter" C_NoLetter:=⟨E.of qx.2.1.1,xf_NoLetter.1⟩
 have N_NoLetter:Mc K C_WayError [C_NoKey,C_NoLetter,C_NoPiece,C_NoRoom,C_NoRow,C_NoRule,C_NoText,C_NoTime,C_NoWidth,C_TooWide,C_NoRoad] C_NoLetter "letter":=⟨1,Bh qx rfl xf_NoLetter mr_NoLetter,rfl⟩
 have X_NoTime:XC K mg "NoTime" C_NoTime:=⟨E.of qx.2.2.2.2.2.2.2.1.1,xf_NoTime.1⟩
 have N_NoTime:Mc K C_WayError [C_NoKey,C_NoLetter,C_NoPiece,C_NoRoom,C_NoRow,C_NoRule,C_NoText,C_NoTime,C_NoWidth,C_TooWide,C_NoRoad] C_NoTime "time":=⟨7,Bh qx rfl xf_NoTime mr_NoTime,rfl⟩
 have X_NoWidth:XC K mg "NoWidth" C_NoWidth:=⟨E.of qx.2.2.2.2.2.2.2.2.1.1,xf_NoWidth.1⟩
 have N_NoWidth:Mc K C_WayError [C_NoKey,C_NoLetter,C_NoPiece,C_NoRoom,C_NoRow,C_NoRule,C_NoText,C_NoTime,C_NoWidth,C_TooWide,C_NoRoad] C_NoWidth "width":=⟨8,Bh qx rfl xf_NoWidth mr_NoWidth,rfl⟩
 have X_TooWide:XC K mg "TooWide" C_TooWide:=⟨E.of qx.2.2.2.2.2.2.2.2.2.1.1,xf_TooWide.1⟩
 have N_TooWide:Mc K C_WayError [C_NoKey,C_NoLetter,C_NoPiece,C_NoRoom,C_NoRow,C_NoRule,C_NoText,C_NoTime,C_NoWidth,C_TooWide,C_NoRoad] C_TooWide "wide":=⟨9,Bh qx rfl xf_TooWide mr_TooWide,rfl⟩
 have X_NoRoad:XC K mg "NoRoad" C_NoRoad:=⟨E.of qx.2.2.2.2.2.2.2.2.2.2.1.1,xf_NoRoad.1⟩
 have N_NoRoad:Mc K C_WayError [C_NoKey,C_NoLetter,C_NoPiece,C_NoRoom,C_NoRow,C_NoRule,C_NoText,C_NoTime,C_NoWidth,C_TooWide,C_NoRoad] C_NoRoad "road":=⟨10,Bh qx rfl xf_NoRoad mr_NoRoad,rfl⟩
 have T:Cn mg:=⟨qk.1.imp fun _ e=>E.of e,qk.2.1.imp fun _ e=>E.of e,qk.2.2.1.imp fun _ e=>E.of e,qk.2.2.2.1.imp fun _ e=>E.of e,qk.2.2.2.2.1.imp fun _ e=>E.of e,qk.2.2.2.2.2.1.imp fun _ e=>E.of e,qk.2.2.2.2.2.2.1.imp fun _ e=>E.of e,qk.2.2.2.2.2.2.2.1.imp fun _ e=>E.of e⟩;have L:R0 K C_Letter:=⟨cl_Letter,na_Letter.1,na_Letter.2.1,na_Letter.2.2.1,na_Letter.2.2.2.1,na_Letter.2.2.2.2.1⟩;have LP:Mn K C_Piece:=⟨cl_Piece,na_Piece.1,na_Piece.2.1,na_Piece.2.2.1,na_Piece.2.2.2.1,na_Piece.2.2.2.2.1,na_Piece.2.2.2.2.2.1,na_Piece.2.2.2.2.2.2.1⟩;have LRo:Rf K C_Road:=⟨cl_Road,na_Road.1,na_Road.2.1,na_Road.2.2.1⟩;have LPo:Mv K C_Post:=⟨cl_Post,na_Post.1,na_Post.2.1,na_Post.2.2.1,na_Post.2.2.2.1⟩;have RX:KX K C_Road:=⟨cl_Road,ic_Road,kit_Road_Road,kt_Road.1⟩;have LX:KX K C_Letter:=⟨cl_Letter,ic_Letter,kit_Letter_Letter,kt_Letter.1⟩;have LW:Lk K C_Whole "body":=⟨cl_Whole,na_Whole.1⟩
 have LR:RW K C_Reading:=⟨cl_Reading,na_Reading.1,na_Reading.2.1,na_Reading.2.2.1,na_Reading.2.2.2.1,na_Reading.2.2.2.2.1⟩;have LM:Dq K C_Room:=⟨cl_Room,na_Room.1,na_Room.2.1,na_Room.2.2.1,na_Room.2.2.2.1,na_Room.2.2.2.2.1,na_Room.2.2.2.2.2.1,na_Room.2.2.2.2.2.2.1,na_Room.2.2.2.2.2.2.2.1,na_Room.2.2.2.2.2.2.2.2.1⟩;have g_is_whole:=E.fb q_is_whole (fun J8=>n9 J8 B) (by walk_at"b1");have g_is_whole_within:=E.fb q_is_whole_within (fun Wg=>mL Wg g_is_whole) (by walk_at"b3");have g_is_whole_from:=E.fb q_is_whole_from (fun VY=>xU VY g_is_whole) (by walk_at"b2");have g_is_truth:=E.fb q_is_truth (fun JF=>uU JF B) (by walk_at"b1");have g_is_number:=E.fb q_is_number (fun Ni=>j7 Ni T g_is_whole_within) (by walk_at"b1");have g_is_name:=E.fb q_is_name (fun J9=>nR J9 T B) (by walk_at"b1");have g_is_byte:=E.fb q_is_byte (fun Ta=>Sy Ta T g_is_whole_within) (by walk_at"b1");have g_is_body:=E.fb q_is_body (fun Tb=>vR Tb T B g_is_byte) (by walk_at"b1");have g_is_width:=E.fb q_is_width (fun JI=>uK JI T g_is_whole_within) (by walk_at"b1");have g_are_widths:=E.fb q_are_widths (fun JY=>uY JY T B g_is_width) (by walk_at"b1");have g_is_rule:=E.fb q_is_rule (fun T9=>dD T9 B g_RULES t_RULES) (by walk_at"b1");have g_is_out:=E.fb q_is_out (fun Tz=>vK Tz B g_OUTS t_OUTS) (by walk_at"b1");have g_is_again:=E.fb q_is_again (fun Nx=>SV Nx B g_AGAINS t_AGAINS) (by walk_at"b1");have g_are_shared_parts:=E.fb q_are_shared_parts (fun Wp=>S9 Wp g_is_number g_is_name g_is_body g_is_truth) (by walk_at"b5");have g_is_place:=E.fb q_is_place (fun Nz=>w9 Nz T g_is_whole) (by walk_at"b1");have g_has_room:=E.fb q_has_room (fun ND=>wR ND T) (by walk_at"b3");obtain⟨a_Letter_init,i_Letter_init,_,_,_,_,_,_,_,_,_,l_Letter_init,c_Letter_init,_,_,_,t_Letter_init⟩:=q_Letter_init;have o_Letter:VW l.prog w K mg base WK 6 f_Letter_init _ ["self","number","sender","goal","body","keep"] (E8 C_Letter):=Sq ⟨_,_,_,_,_,_,_,_,_,_,rfl,l_Letter_init,c_Letter_init⟩ L B g_are_shared_parts;have M_Letter:Mk K C_Letter f_Letter_init:=⟨qc_Letter.2.2.1,a_Letter_init,i_Letter_init,qc_Letter.2.2.2.1⟩;have i_Letter:MP l.prog w K mg base "Letter" C_Letter 6 ["self","number","sender","goal","body","keep"] [] (E8 C_Letter):=⟨_,_,[],o_Letter,E.of qc_Letter.1,M_Letter,(fun s us kx hl=>by rw[List.append_nil]at hl ⊢;obtain⟨_,_,_,_,_,_,rfl⟩:=Fi hl;exact nH kx t_Letter_init),.nil⟩
 have i_Letter_d1:MP l.prog w K mg base "Letter" C_Letter 6 ["self","number","sender","goal","body","keep"] [.bl false] (E8 C_Letter):=⟨_,_,[.bool false],o_Letter,E.of qc_Letter.1,M_Letter,(fun s us kx hl=>by obtain⟨u0,u1,u2,u3,u4,rfl⟩:=uD hl;exact vD kx t_Letter_init),.cons rfl .nil⟩
 obtain⟨a_Piece_init,i_Piece_init,_,_,_,_,_,_,_,_,_,l_Piece_init,c_Piece_init,_,_,_,t_Piece_init⟩:=q_Piece_init;have o_Piece:VW l.prog w K mg base WK 6 f_Piece_init _ ["self","number","sender","goal","at","body","more","keep"] (By C_Piece):=gY ⟨_,_,_,_,_,_,_,_,_,_,rfl,l_Piece_init,c_Piece_init⟩ LP B g_are_shared_parts g_is_place g_is_truth g_has_room;have M_Piece:Mk K C_Piece f_Piece_init:=⟨qc_Piece.2.2.1,a_Piece_init,i_Piece_init,qc_Piece.2.2.2.1⟩;have i_Piece:MP l.prog w K mg base "Piece" C_Piece 6 ["self","number","sender","goal","at","body","more","keep"] [] (By C_Piece):=⟨_,_,[],o_Piece,E.of qc_Piece.1,M_Piece,(fun s us kx hl=>by rw[List.append_nil]at hl ⊢;obtain⟨_,_,_,_,_,_,_,_,rfl⟩:=SR hl;exact wH kx t_Piece_init),.nil⟩
 have i_Piece_d1:MP l.prog w K mg base "Piece" C_Piece 6 ["self","number","sender","goal","at","body","more","keep"] [.bl false] (By C_Piece):=⟨_,_,[.bool false],o_Piece,E.of qc_Piece.1,M_Piece,(fun s us kx hl=>by obtain⟨u0,u1,u2,u3,u4,u5,u6,rfl⟩:=gG hl;exact xP kx t_Piece_init),.cons rfl .nil⟩
 have m_Piece_key:=E.mb (sp:=Ft C_Piece) qc_Piece q_Piece_key (fun Nf=>Si Nf LP) (by walk_at"b1");have m_Piece_end:=E.mb (sp:=Iq C_Piece) qc_Piece q_Piece_end (fun Wz=>Sz Wz LP B) (by walk_at"b1");have g_full_length:=E.fb q_full_length (fun JP=>SB JP T) (by walk_at"b1");have g_part_of:=E.fb (sp:=ID C_Piece) q_part_of (fun Nn=>gX Nn B LP (Lz i_Piece)) (by walk_at"b3");have g_cut_again:=E.fx (sp:=BW C_Piece C_NoWidth C_TooWide) q_cut_again (fun Jq=>Zk Jq B LP X_NoWidth X_TooWide g_is_width g_full_length g_part_of) (by walk_at"b2");have g_cut:=E.fx (sp:=Kp C_Letter C_Piece C_NoWidth C_TooWide) q_cut (fun DI=>tE DI L (Lz i_Piece) g_cut_again) (by walk_at"b2");have g_all_cut_again:=E.fx (sp:=Kj C_Piece C_TooWide) q_all_cut_again (fun Ju=>n7 Ju g_cut_again) (by walk_at"b2");have g_cut_over:=E.fx (sp:=Iu C_Piece C_TooWide) q_cut_over (fun NF=>wM NF g_all_cut_again) (by walk_at"b2");have g_are_lost:=E.fb q_are_lost (fun NB=>ZX NB B g_is_whole_from) (by walk_at"b1");obtain⟨a_Road_init,i_Road_init,_,_,_,_,_,_,_,_,_,l_Road_init,c_Road_init,_,_,_,t_Road_init⟩:=q_Road_init;have o_Road:=jH ⟨_,_,_,_,_,_,_,_,_,_,rfl,l_Road_init,c_Road_init⟩ LRo B X_NoRoad g_are_widths g_is_whole_from g_are_lost;have M_Road:Mk K C_Road f_Road_init:=⟨qc_Road.2.2.1,a_Road_init,i_Road_init,qc_Road.2.2.2.1⟩;have i_Road:=tP o_Road (E.of qc_Road.1) M_Road (fun s us kx hl=>by rw[List.append_nil]at hl ⊢;obtain⟨_,_,_,_,rfl⟩:=FV hl;exact vC kx t_Road_init);have i_Road_d1:=j6 o_Road (E.of qc_Road.1) M_Road (fun s us kx hl=>by obtain⟨u0,u1,u2,rfl⟩:=wW hl;exact xR kx t_Road_init);have i_Post:=E.kb qc_Post q_Post_init (fun F=>mD (CRo:=C_Road) (CP:=C_Piece) F LPo) (by walk_at"b1");have m_Post_check_time:=E.mx (sp:=AG C_Post C_Road C_Piece C_NoTime) qc_Post q_Post_check_time (fun Wy=>S4 Wy LPo X_NoTime g_is_whole_from) (by walk_at"b2");have m_Post_roads:=E.mb (sp:=HE C_Post C_Road C_Piece) qc_Post q_Post_roads (fun JX=>jN JX LPo B2) (by walk_at"b1");have m_Post_on_the_way:=E.mb (sp:=Ij C_Post C_Road C_Piece) qc_Post q_Post_on_the_way (fun WR=>jD WR LPo B) (by walk_at"b1");have m_Post_next_time:=E.mb (sp:=Ad C_Post C_Road C_Piece) qc_Post q_Post_next_time (fun WE=>uR WE LPo B) (by walk_at"b1");have m_Post_are_built:=E.mb (sp:=Ku C_Post C_Road C_Piece) qc_Post q_Post_are_built (fun Jm=>yU Jm LPo B g_is_name) (by walk_at"b2");have m_Post_build:=E.mx (sp:=C3 K C_Post C_Road C_Piece C_NoRoad) qc_Post q_Post_build (fun Wv=>tF Wv LPo B m_Road RX X_NoRoad g_is_name) (by walk_at"b3");have m_Post_put_on_road:=E.mb (sp:=F9 C_Post C_Road C_Piece) qc_Post q_Post_put_on_road (fun J3=>wT J3 LPo LRo) (by walk_at"b3");have m_Post_loads_of:=E.mx (sp:=Ks C_Post C_Road C_Piece C_TooWide) qc_Post q_Post_loads_of (fun Jy=>vJ Jy LPo LRo B B3 g_cut_over) (by walk_at"b3");have m_Post_send:=E.mx (sp:=Ep K C_Post C_Road C_Piece C_Letter C_NoTime C_NoLetter C_NoRoad C_NoWidth C_TooWide) qc_Post q_Post_send (fun W5=>yL W5 LPo LRo LX B m_Letter X_NoLetter X_NoRoad nq_Post_Road nq_Post_Piece g_cut m_Post_check_time m_Post_are_built m_Post_loads_of m_Post_put_on_road) (by walk_at"b5");have m_Post_fetch:=E.max (sp:=EH C_Post C_Road C_Piece tL_Post_fetch C_NoTime) qc_Post q_Post_fetch (fun FA_Post_fetch=>dM FA_Post_fetch LPo B2 LC_Post_fetch nq_Post_Road nq_Post_Piece m_Post_check_time) (by walk_at"b2");have g_with_span:=E.fb q_with_span (fun Nj=>yW Nj B) (by walk_at"b2");have g_lacking:=E.fb q_lacking (fun T0=>nG T0) (by walk_at"b2");have i_Whole:=E.kb qc_Whole q_Whole_init (fun F=>QP F LW B) (by walk_at"b2");have i_Unlike:=E.kb qc_Unlike q_Unlike_init (fun F=>Sl F) (by walk_at"b2");have i_Reading:=E.kb qc_Reading q_Reading_init (fun F=>vY F LR) (by walk_at"b2");have m_Reading_is_strange:=E.mb (sp:=Aj C_Reading C_Piece) qc_Reading q_Reading_is_strange (fun Wk=>jG Wk LR LP (LZ m_Piece_end)) (by walk_at"b2");have m_Reading_unlike_number:=E.mb qc_Reading q_Reading_unlike_number (fun WD=>vN WD) (by walk_at"b2");have m_Reading_take:=E.mb (sp:=IQ C_Reading C_Piece) qc_Reading q_Reading_take (fun JJ=>uG JJ LR LP B B3 (LZ m_Piece_end) g_with_span) (by walk_at"b2");have m_Reading_missing:=E.mb (sp:=KB C_Reading) qc_Reading q_Reading_missing (fun Jf=>SG Jf LR g_lacking) (by walk_at"b1");have m_Reading_taken_body:=E.mb (sp:=Kk C_Reading) qc_Reading q_Reading_taken_body (fun WT=>Ss WT LR B) (by walk_at"b1");have m_Reading_answer_to:=E.mb (sp:=KO C_Reading C_Piece C_Whole) qc_Reading q_Reading_answer_to (fun WV=>xW WV LR LP m_Reading_is_strange m_Reading_unlike_number m_Reading_take m_Reading_missing m_Reading_taken_body (SS i_Whole) (SD i_Unlike)) (by walk_at"b2");have i_Room:=E.kb qc_Room q_Room_init (fun F=>uL F LM g_is_rule g_is_whole_from g_is_out g_is_again) (by walk_at"b6");have m_Room_check_time:=E.mb (sp:=Ca C_Room) qc_Room q_Room_check_time (fun WA=>gT WA LM g_is_whole_from) (by walk_at"b2");have m_Room_let_go:=E.mb (sp:=AM C_Room) qc_Room q_Room_let_go (fun J1=>wL J1 LM) (by walk_at"b2");have m_Room_is_resting:=E.mb (sp:=FR C_Room) qc_Room q_Room_is_resting (fun Jd=>S0 Jd LM) (by walk_at"b2");have m_Room_end_waits:=E.mb (sp:=Aa C_Room) qc_Room q_Room_end_waits (fun WI=>ZQ WI LM B2 m_Room_let_go) (by walk_at"b1");have m_Room_make_space:=E.mb qc_Room q_Room_make_space (fun Je=>yE Je) (by walk_at"b2");have m_Room_take_in:=E.mb (sp:=HD C_Room C_Reading C_Piece) qc_Room q_Room_take_in (fun JH=>jV JH LM LW ic_Whole kit_Whole_Whole B m_Whole (ZC m_Piece_key) m_Room_is_resting (Z9 i_Reading) m_Reading_is_strange m_Reading_answer_to m_Room_make_space m_Room_let_go (Qm i_Letter_d1)) (by walk_at"b2");have m_Room_tick:=E.mb (sp:=C5 C_Room) qc_Room q_Room_tick (fun Jn=>tS Jn LM m_Room_check_time m_Room_end_waits) (by walk_at"b2");have m_Room_come:=E.mb (sp:=Kz C_Room C_Reading C_Piece) qc_Room q_Room_come (fun Nd=>mT Nd LM B m_Piece cl_Piece ic_Piece m_Room_check_time m_Room_end_waits m_Room_take_in) (by walk_at"b3");have g_carry:=E.fx (sp:=B7 C_Post C_Road C_Piece C_Room tL_Post_fetch C_NoTime) q_carry (fun JO=>vW JO LPo LM B X_NoTime nq_Post_Room nq_Road_Room nq_Piece_Room nq_Reading_Piece nq_Room_Reading nq_Post_Piece g_is_whole_from m_Post_fetch m_Room_come m_Room_tick) (by walk_at"b3");have g_cell_at:=E.fb (sp:=Fl K) q_cell_at (fun T6=>v8 T6 B) (by walk_at"b2");have g_sort:=E.fb (sp:=JZ l.prog w K mg base 14 C_WayError [C_NoKey,C_NoLetter,C_NoPiece,C_NoRoom,C_NoRow,C_NoRule,C_NoText,C_NoTime,C_NoWidth,C_TooWide,C_NoRoad]) q_sort (fun JL=>Bk JL B B3 B5 RC) (by walk_at"b1");have g_noroad:=E.fa (sp:=FW C_Post C_Road C_Piece tL_noroad) q_noroad (fun FA_noroad=>gS FA_noroad LC_noroad N_NoRoad RX g_sort i_Road i_Road_d1 m_Post_build) (by walk_at"b2");have g_nosend:=E.fa (sp:=KC C_Post C_Road C_Piece C_Letter tL_nosend) q_nosend (fun FA_nosend=>Sx FA_nosend B LC_nosend N_NoTime N_NoLetter N_NoRoad N_NoWidth N_TooWide LX g_sort (Fu i_Room) m_Post_send m_Post_fetch g_carry) (by walk_at"b4");have g_lateroom:=E.fa (sp:=He C_Post C_Road C_Piece tL_lateroom) q_lateroom (fun FA_lateroom=>uB FA_lateroom LM LC_lateroom N_NoTime g_sort (Fu i_Room) m_Room_tick g_carry) (by walk_at"b3");have g_behind:=E.fa (sp:=FN C_Post C_Road C_Piece C_Letter tL_behind tL_Post_fetch) q_behind (fun FA_behind=>y7 FA_behind LM LC_behind N_NoTime nq_Letter_Post g_sort (Fu i_Room) m_Post_send m_Post_fetch m_Post_next_time g_carry) (by walk_at"b3");exact yI (CW:=C_WayError) (cs:=[]) EW B LP RX nq_Letter_Post nq_Post_Piece ne_12 ne_13 ne_14 ne_15 ne_23 ne_24 ne_25 ne_34 ne_35 ne_45 g_cell_at (xD i_Post) i_Road i_Road_d1 m_Post_build (uS i_Letter) (Qm i_Letter_d1) m_Post_send m_Post_fetch m_Post_roads m_Post_on_the_way m_Post_next_time g_noroad g_nosend g_lateroom g_behind
theorem uC{l:W.OpenLaw}{q:VB}{loose:List Str}{XP:(Str->Option Value)->Heap->Prop}{YP:World->Heap->Prop}{d:DefRec}{K:Params->W.Frag}{ts:List Addr}(hn:l.most=some 63)(hdf:d.params.defaults=[])
  (hY:∀ (w:VF) (h:VM),YP w h->(K w.params).In h) (hT:∀ (w:VF) (h:VM),YP w h->∀P∈ts,h.get? P=some (W.tabObj #[]))
  (F:∀ (w:VF) (mg:Vx) (fa:VI) (h:VM),(K w.params).In h->h.Ns mainGlobals mg->mg d.name=some (.ref fa)->∃ (cts:List (Addr×Addr)) (fd:VD),(∀x∈cts,x.2∈ts/\W.codeHdIn (K w.params) x.1 x.2=true)/\W.noTabs (K w.params)=true/\(∀ (s:VC) (v:VH),BindsTo s fd ⟨[v],[]⟩ [("_law_script",v)])/\∀base:Heap,W.Frag.In (K w.params) base->base.Ns mainGlobals mg->(∀x∈cts,JG mg base x.1 x.2)->VW l.prog w (K w.params) mg base WK 17 fa fd ["_law_script"] (NQ (K w.params) cts)):
  W.WalkO q loose XP YP l.row.toRowW d [] (fun f vs=>PySem.call f vs):=
 L2.Bq (n:=63) (k:=17) (x:="_law_script") (sp:=fun w cts=>NQ (K w.params) cts) hn (by decide) hdf ⟨rfl,by decide,by decide⟩ hY hT F fun _ _ _ a b c h1 e=>⟨a,b,rfl,c,e,h1,fun _=>rfl⟩
end Mine
namespace PySem.W.Fast
def tw16248178254749104959:=()
def tw651260247637889813:=()
def tw11052117695290856837:=()
def tw5227322846190505022:=()
def tw9253132033998685743:=()
def tw4449041350124500107:=()
def tw17069260033334507859:=()
def tw9809250674481576889:=()
def tw7492558041574207098:=()
def tw6836002908627265315:=()
def tw4698741697504909353:=()
def tw2577167047367004977:=()
def tw13055364627835624874:=()
def tw9407873709771455319:=()
def tw8759673170315035426:=()
def tw9329602127733748570:=()
def tw6735557333915996837:=()
def tw8883668460399092075:=()
def tw7160470505907040658:=()
def tw867907376689317108:=()
def tw11398019796367033980:=()
def tw11711225487076942204:=()
def tw12831768950658733407:=()
def tw9873993350287323326:=()
def tw16406560297939418863:=()
def tw10712517533232606835:=()
def tw4868001047146540251:=()
def tw16575801467795909289:=()
def tw1867691462036535329:=()
def tw4640672912344052077:=()
def tw9515946233935901086:=()
def tw5241280150003592768:=()
def tw15739821672172325488:=()
def tw6749014969695109128:=()
def tw6106167033153740956:=()
def tw77769158887154786:=()
def tw15133234561273974072:=()
def tw6786948776184941263:=()
def tw5357061379631584913:=()
def tw5815735669802508544:=()
def tw13368259054375980099:=()
def tw13772527965490874289:=()
def tw5532802741077420714:=()
def tw14272611453333488093:=()
def tw7923310958059117942:=()
def tw20480180452593326:=()
def tw3680908576273547758:=()
def tw2422994047336792889:=()
def tw5703335596576655181:=()
def tw1081232362684148141:=()
def tw14914242830505310816:=()
def tw18157264506261797500:=()
def tw7653721013343744252:=()
def tw4456716213479911007:=()
def tw6011790526545043009:=()
def tw17157843605559052093:=()
def tw5890507798895003323:=()
def tw11603358413454571353:=()
def tw15544183235927821877:=()
def tw9509221042871863701:=()
def tw2903398352031076940:=()
def tw11937145920861376946:=()
def tw10647499246804110785:=()
def tw14837350981453671833:=()
def tw2846896941925603294:=()
def tw247395277995905994:=()
def tw6788280557435484229:=()
def tw709536819585086187:=()
def tw6966654044523908298:=()
def tw5364400335446581227:=()
def tw16299461437915530348:=()
def tw7427605851751244168:=()
def tw3432751323369262176:=()
def tw4302526607276768976:=()
def tw4755616414295257011:=()
def tw352208481341759598:=()
def tw17553184880442051613:=()
def tw1930885620676491603:=()
def tw5907206701710841619:=()
def tw13150428333647835699:=()
def tw948330796392725801:=()
def tw9214813141488370315:=()
def tw8478725579581538030:=()
def tw10382697013175233120:=()
def tw16198228092830891786:=()
def tw5935184301839209436:=()
def tw7064849739912712239:=()
def tw12908006876585815981:=()
def tw3703400560825208500:=()
def tw13165809586847523523:=()
def tw8500159876054860543:=()
def tw7405017200351011857:=()
def tw15322525483874020454:=()
def tw4508120734821357348:=()
def tw8341229864065820013:=()
def tw13931614501658192241:=()
def tw14603946721202398441:=()
def tw1872817204001239421:=()
def tw9996168950916305384:=()
def tw14518551872764650477:=()
def tw6442659851473704119:=()
def tw10129431340761550980:=()
def tw14498332792454991206:=()
def tw9874527439819319310:=()
def tw4386244151866077612:=()
def tw9902977385165943816:=()
def tw7610870527528725249:=()
def tw4133050822669401756:=()
def tw3419659764071267836:=()
def tw10858089942828006095:=()
def tw17975194781285634640:=()
def tw9331445989753161840:=()
def tw4579255328508924909:=()
def tw15781357963214847907:=()
def tw17389783154763086268:=()
def tw13084849667797341992:=()
def tw7174766634015728975:=()
def tw13870886388170169869:=()
def tw14145980922254861086:=()
def tw11998747922909905377:=()
def tw15078905674269400649:=()
def tw3496021902844495990:=()
def tw7000469417026405638:=()
def tw3712222447276094345:=()
def tw15935556910028346390:=()
def tw6192664096613820102:=()
def tw2426276806824533940:=()
def tw14624884567822821656:=()
def tw3976810872190164003:=()
def tw15557936667612660138:=()
def tw6096314621415661612:=()
def tw2924632665365862249:=()
def tw12850544831559170955:=()
def tw28970823259551385:=()
def tw5237072659663364635:=()
def tw18307160066068897055:=()
def tw2532039536570260878:=()
def tw2724790190464959430:=()
def tw10650377734436189570:=()
def tw17227575239761933554:=()
def tw4042979989801370332:=()
def tw638667858682347725:=()
def tw5548678642505251106:=()
def tw7112129085769357098:=()
def tw13940783006047562874:=()
def tw4322192165915262925:=()
def tw11499642493943429243:=()
def tw12467039398042578698:=()
def tw8371927546329156493:=()
def tw12353206789459782358:=()
def tw2836796222095386159:=()
def tw1426628842699422218:=()
def tw9813337206382694577:=()
def tw12218136921832784907:=()
def tw12330865120256464993:=()
def tw13489853941756999597:=()
def tw7326616453606861939:=()
def tw16513582580042456183:=()
def tw15901718480602581557:=()
def tw16120890673190710366:=()
def tw3863187783425717625:=()
def tw17959284704751357692:=()
def tw17086160994820991348:=()
def tw7917307081209813802:=()
def tw12534580000035001348:=()
def tw5809570436387108250:=()
def tw2944537852618943044:=()
def tw9186233820339483680:=()
def tw4738390816688512105:=()
def tw6314698597859857204:=()
def tw15611421098762775203:=()
def tw17091588482801881596:=()
def tw18337445469458323291:=()
def tw13019601542444019161:=()
def tw18432434574251488658:=()
def tw9453523137746572494:=()
def tw13227207672052359986:=()
def tw9614335803473784739:=()
def tw18030442264522128355:=()
def tw3164088473790468028:=()
def tw14664993268723358503:=()
def tw11077380621804098298:=()
def tw15742274136162498845:=()
def tw14507116617185391684:=()
def tw13742697216270781185:=()
def tw2678296930149085240:=()
def tw14796218656354881934:=()
def tw10984802311370952546:=()
def tw14729470752374391399:=()
def tw9116981811760125346:=()
def tw1618261866607128130:=()
def tw10616868422388724283:=()
def tw16082086031721506735:=()
def tw15102104779264242809:=()
def tw9564865290279691341:=()
def tw1985025606577268489:=()
def tw13360065517785636871:=()
def tw13452191737462534813:=()
def tw9776011533839769277:=()
def tw3560632521102418623:=()
def tw11731013003404280381:=()
def tw16895404974153970950:=()
def tw151044833494457478:=()
def tw464834841153685349:=()
def tw9862836575559820597:=()
def tw13874242419587046178:=()
def tw5673178406186740029:=()
def tw17273265192102115042:=()
def tw14519168049921719710:=()
def tw9431163545779533172:=()
def tw67748417560405968:=()
def tw210316779446295116:=()
def tw16893974660872128488:=()
def tw13911077645541075790:=()
def tw8186409455323570616:=()
def tw1638206618376473535:=()
def tw1841716854449594657:=()
def tw1593752208849326736:=()
def tw14532665186431725042:=()
def tw4930741517396199611:=()
def tw15191802967486658628:=()
def tw10091869544224314074:=()
def tw12242708109848622470:=()
def tw1743785758639947907:=()
def tw7182767521240397313:=()
def tw14976755609164695106:=()
def tw2308077855810288052:=()
def tw11082020975665964660:=()
def tw10676417694148555257:=()
def tw7668241133826268268:=()
def tw13863501711966163152:=()
def tw3401288516577614498:=()
def tw12576059823762833062:=()
def tw15354628676886299435:=()
def tw16648579034738088967:=()
def tw5488882599572619756:=()
def tw13174693915936854736:=()
def tw7022368434295055279:=()
def tw4077809238308235138:=()
def tw10495931873225832220:=()
def tw5921059314022550426:=()
def tw5023154764050782826:=()
def tw16240008434746497504:=()
def tw3973984649490778896:=()
def tw4786175431248875659:=()
def tw4977792760147576339:=()
def tw16043402698430138128:=()
def tw14323927568822290661:=()
def tw16293096108441275916:=()
def tw11916108175101911959:=()
def tw6689707082486821187:=()
def tw10904838607959753811:=()
def tw10462558258153336670:=()
def tw14765978098979913141:=()
def tw8463252805348263192:=()
def tw6039841820173621299:=()
def tw12273668779858431559:=()
def tw13317081853768392792:=()
def tw13365171118311326449:=()
def tw16705481922129104205:=()
def tw14731722699674683393:=()
def tw13545355608097087130:=()
def tw16110335335470995789:=()
def tw7156094683916251380:=()
def tw4518251808024712996:=()
def tw14621568680977941354:=()
def tw3361917253844690258:=()
def tw18251002840585791671:=()
def tw10993920897733911957:=()
def tw9135378245016276642:=()
def tw17706153433728338359:=()
def tw17408045086850181268:=()
def tw15260720909890644667:=()
def tw4471084421952802703:=()
def tw17057543585553947950:=()
def tw1181851108966919745:=()
def tw15170197061879748288:=()
def tw13720103527239225615:=()
def tw13929911403968306467:=()
def tw3111614448189833530:=()
def tw3020332841083466680:=()
def tw13830929029655136116:=()
def tw9053081659789529686:=()
def tw5377146418223612844:=()
def tw4291842609477168978:=()
def tw17562246506797904534:=()
def tw7929264192488518213:=()
def tw9997886474928235916:=()
def tw13119950430103787034:=()
def tw5701461202242177973:=()
def tw9822644748977698460:=()
def tw1092295116091188761:=()
def tw17156697250729477065:=()
def tw17459785010166001660:=()
def tw702602351739993720:=()
def tw15430359781565178984:=()
def tw4867807710549222438:=()
def tw707057865370426638:=()
def tw3782805099341006461:=()
def tw7675163831029040385:=()
def tw17827871449416028462:=()
def tw7244656410178087348:=()
def tw14888341854601439852:=()
def tw14935802653868953787:=()
def tw13828571136611584156:=()
def tw10755319682362008657:=()
def tw15612840538302353843:=()
def tw38736462976154005:=()
def tw4129863855207988875:=()
def tw8105286227061634650:=()
def tw9310731127015558658:=()
def tw5042587380477671731:=()
def tw16097524989457963757:=()
def tw299987808407617775:=()
def tw7962671529957132157:=()
def tw5299067483044637210:=()
def tw7593532320058575632:=()
def tw1027646851042425800:=()
def tw11886089688927607066:=()
def tw8180448044409337538:=()
def tw12145075497955688552:=()
def tw6000468516431723798:=()
def tw5013958951854022919:=()
def tw4222714890679788210:=()
def tw5471435824602853570:=()
def tw10281482353636647903:=()
def tw7975097045614784683:=()
def tw12605903037554161584:=()
def tw7403719649398377949:=()
def tw11496754793408541371:=()
def tw13793026171268760221:=()
def tw18298371749666057193:=()
def tw15466735926163540167:=()
def tw14576952662674925629:=()
def tw13502414523804037737:=()
def tw9433360561823357441:=()
def tw3094103568428232721:=()
def tw14649448882852651048:=()
def tw1640858300930879978:=()
def tw11365230910702883820:=()
def tw17842002841549100403:=()
def tw14062005619394803039:=()
def tw16396060079923628568:=()
def tw13908482053335685101:=()
def tw18040100231021863096:=()
def tw5366586444799800600:=()
def tw920276027840575665:=()
def tw7067503531376448041:=()
def tw8382363605318781925:=()
def tw17921727796574888028:=()
def tw6776144661580272467:=()
def tw7025868205055803154:=()
def tw5714250073670054594:=()
def tw2536018804762588656:=()
def tw16254930672339616445:=()
def tw14891500211803942130:=()
def tw15877174135310600418:=()
def tw8216379099278889902:=()
def tw16631097533370332367:=()
def tw17633923134396052764:=()
def tw12664623537667029316:=()
def tw12742862646444636602:=()
def tw12184001514075365402:=()
def tw8725642039989195433:=()
def tw8988523141179708080:=()
def tw12941756267748695314:=()
def tw8977507945037188373:=()
def tw8348465303847518916:=()
def tw839397831987041039:=()
def tw2689016411960700236:=()
def tw3744505837686297269:=()
def tw18218969015063570833:=()
def tw2881874781204581959:=()
def tw7587202700759275436:=()
def tw212623135363122352:=()
def tw16699728229726522687:=()
def tw17937436367885209967:=()
def tw10640123047699237468:=()
def tw10722351799953061198:=()
def tw4310419193994714230:=()
def tw17329091602581534501:=()
def tw12956360891093172911:=()
def tw4721716752113851743:=()
def tw3089062178941478098:=()
def tw18075959183204277303:=()
def tw5000931507044701256:=()
def tw3228535451876178551:=()
def tw3165985688977972360:=()
def tw16799938624512496552:=()
def tw10457397693022501122:=()
def tw971745348632367741:=()
def tw16712593769956806301:=()
def tw2215358963167586655:=()
def tw3677693792692845968:=()
def tw7552828593965703259:=()
def tw17134876490045989678:=()
def tw6681656713611492328:=()
def tw5957808341112852453:=()
def tw4210648305825420753:=()
def tw14049593128942827115:=()
def tw15663046962684703441:=()
def tw10918210278947710605:=()
def tw2747429128846755908:=()
def tw16442049342983619248:=()
def tw4658808145776978711:=()
def tw8887409530557531057:=()
def tw6650740364337399152:=()
def tw3471974416488949006:=()
def tw14401660119687623780:=()
def tw9958740184454992463:=()
def tw18257182247992303059:=()
def tw2314264194805925486:=()
def tw9421663107243976159:=()
def tw11071766352345532985:=()
def tw5135878626116721618:=()
def tw16222114835865625902:=()
def tw3233919588860217205:=()
def tw940968332884388119:=()
def tw280964924214844447:=()
def tw101763459741984615:=()
end PySem.W.Fast
open PySem PySem.W PyProof.Rows
local macro_rules | `(tactic| walk_at"kf") => `(tactic| exact ⟨by k_is, _, _, _, _, _, _, _, _, _, by k_is, by k_is, by k_is⟩)
local macro_rules | `(tactic| walk_at"km") => `(tactic| exact ⟨by k_is, by k_is, _, _, _, _, _, _, _, _, _, by k_is, by k_is, by k_is⟩)
local macro_rules | `(tactic| walk_at"kd") => `(tactic| exact ⟨by k_is, by k_is, _, _, _, _, _, _, _, _, _, by k_is, by k_is, _, _, _, by k_is⟩)
local macro_rules | `(tactic| walk_at"kc") => `(tactic| exact ⟨by k_is, ⟨by k_is, by k_is, by k_is, by k_is⟩, by k_is, by k_is, ⟨by k_is, by k_is, by k_is, by k_is⟩⟩)
local macro_rules | `(tactic| walk_at"kn") => `(tactic| (repeat (first | exact trivial | refine ⟨by k_is, ?_⟩)))
local macro_rules | `(tactic| walk_at"ka") => `(tactic| exact ⟨by k_is, _, _, _, _, _, _, _, _, by k_is, by k_is, by k_is, _, _, _, _, by k_is, by exact rfl⟩)
local macro_rules | `(tactic| walk_at"kma") => `(tactic| exact ⟨by k_is, by k_is, _, _, _, _, _, _, _, _, by k_is, by k_is, by k_is, ⟨_, _, _, _, by k_is, by exact rfl⟩, by kernel_rfl⟩)
local macro_rules | `(tactic| walk_at"kw") => `(tactic| (repeat (first | exact trivial | refine ⟨⟨by k_is, by k_is, by k_is⟩, ?_⟩)))
local macro_rules | `(tactic| walk_at"kx") => `(tactic| exact ⟨by k_exc, by k_is, by k_is, by k_is, by k_is, by k_is⟩)
local macro_rules | `(tactic| walk_at"kt") => `(tactic| kernel_rfl)
local macro_rules | `(tactic| walk_at"ke") => `(tactic| decide)
local macro_rules | `(tactic| walk_at"k2") => `(tactic| exact ⟨by k_is, by k_is⟩)
local macro_rules | `(tactic| walk_at"k1") => `(tactic| k_is)
set_option maxRecDepth 100000 in
set_option maxHeartbeats 0 in
theorem PySem.Challenge.cw_pieceways_k72_what_a_post_refuses_holds : PySem.Challenge.rw_pieceways_k72_what_a_post_refuses.Holds := by
 w_on;o_law;k_head;(case hw=>w_witness2)
 k_fill
 refine Mine.uC (l:=PySem.Challenge.rw_pieceways_k72_what_a_post_refuses) rfl rfl (fun w h Y=>PySem.W.km_in_of Y) (fun w h Y=>PySem.W.km_tabs_of Y) ?F
 case F=>
  intro w mg fa h KX G hmg;exact Mine.Ha KX G hmg (by walk_at"kf") (by walk_at"kf") (by walk_at"kf") (by walk_at"kf") (by walk_at"kf") (by walk_at"kf") (by walk_at"kf") (by walk_at"kf") (by walk_at"kf") (by walk_at"kf") (by walk_at"kf") (by walk_at"kf") (by walk_at"kf") (by walk_at"kf") (by walk_at"kf") (by walk_at"kf") (by walk_at"kf") (by walk_at"kf") (by walk_at"kf") (by walk_at"kf") (by walk_at"kf") (by walk_at"kf") (by walk_at"kf") (by walk_at"kf") (by walk_at"kf") (by walk_at"kf") (by walk_at"kf") (by walk_at"kf") (by walk_at"ka") (by walk_at"ke") (by walk_at"kt") (by walk_at"ka") (by walk_at"ke") (by walk_at"kt") (by walk_at"ka") (by walk_at"ke") (by walk_at"kt") (by walk_at"ka") (by walk_at"ke") (by walk_at"kt") (by walk_at"kf") (by walk_at"kc") (by walk_at"kn") (by walk_at"kd") (by walk_at"kc") (by walk_at"kn") (by walk_at"km") (by walk_at"km") (by walk_at"kd") (by walk_at"kc") (by walk_at"kn") (by walk_at"kd") (by walk_at"kc") (by walk_at"kn") (by walk_at"km") (by walk_at"km") (by walk_at"km") (by walk_at"km") (by walk_at"km") (by walk_at"km") (by walk_at"km") (by walk_at"km") (by walk_at"km") (by walk_at"kma") (by walk_at"ke") (by walk_at"km") (by walk_at"kc") (by walk_at"kn") (by walk_at"km") (by walk_at"kc") (by walk_at"kn") (by walk_at"km") (by walk_at"kc") (by walk_at"kn") (by walk_at"km") (by walk_at"km") (by walk_at"km") (by walk_at"km") (by walk_at"km") (by walk_at"km") (by walk_at"km") (by walk_at"kc") (by walk_at"kn") (by walk_at"km") (by walk_at"km") (by walk_at"km") (by walk_at"km") (by walk_at"km") (by walk_at"km") (by walk_at"km") (by walk_at"km") (by walk_at"km") (by walk_at"kw") (by walk_at"kw") (by walk_at"kx") (by walk_at"kn") (by walk_at"kx") (by walk_at"kn") (by walk_at"kx") (by walk_at"kn") (by walk_at"kx") (by walk_at"kn") (by walk_at"kx") (by walk_at"kn") (by walk_at"k2") (by walk_at"k2") (by walk_at"k2") (by walk_at"k1") (by walk_at"k1") (by walk_at"k1") ⟨⟨_,by k_is⟩,⟨_,by k_is⟩,⟨_,by k_is⟩,⟨_,by k_is⟩,⟨_,by k_is⟩,⟨_,by k_is⟩,⟨_,by k_is⟩,⟨_,by k_is⟩,trivial⟩ ⟨by k_is,_,_,_,_,_,_,by k_is⟩ ⟨by k_is,_,_,_,_,_,_,by k_is⟩ ⟨by k_is,_,_,_,_,_,by k_is⟩ (by walk_at"kn") (by walk_at"kt") (by walk_at"ke") (by walk_at"ke") (by walk_at"ke") (by walk_at"ke") (by walk_at"ke") (by walk_at"ke") (by walk_at"ke") (by walk_at"ke") (by walk_at"ke") (by walk_at"ke") (by walk_at"ke") (by walk_at"ke") (by walk_at"ke") (by walk_at"ke") (by walk_at"ke") (by walk_at"ke") (by walk_at"ke") (by walk_at"ke")
