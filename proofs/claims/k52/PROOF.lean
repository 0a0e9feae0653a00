import PyProof.Rows.All
import Wide.All
import OpenK.AllK
import Wide.FinOn
import Lean
import PyProof.EqAt
import PyProof.EqKinds
import PyProof.TupleCall
import OpenK.KOwn
import KE.KIsAll
import KE.KLam
import PySem.Challenge.RW_pieceways_k52_whole_any_text
set_option Elab.async false
set_option linter.all false
set_option maxRecDepth 100000
noncomputable section
namespace L2
open PySem PySem.Spec PyProof.Rows
abbrev Key:=Sum Int Str
def Zug:Key->Value->Bool
 | .inl k,v=>Value.isInt k v
 | .inr x,v=>Value.isStrOf x v
def Zwe(w:World):Key->Int
 | .inl k=>hashInt k
 | .inr x=>hashStr w x
theorem Zbn:∀{k:Key} {v:Value},Zug k v=true->(∃i t,k=Sum.inl i/\v=Value.int i t)\/(∃x t,k=Sum.inr x/\v=Value.str x t)
 | .inl i,v,h=>by
  obtain⟨t,e⟩:=Value.isInt_shape (k:=i) (v:=v) h;exact .inl ⟨i,t,rfl,e⟩
 | .inr x,v,h=>by
  obtain⟨t,e⟩:=Value.isStrOf_shape (x:=x) (v:=v) h;exact .inr ⟨x,t,rfl,e⟩
theorem Zuf(a b:Int):decide ((Sum.inl a:Key)=Sum.inl b)=(a==b):=by
 by_cases e:a=b
 ·subst e;simp
 ·have h:¬(Sum.inl a:Key)=Sum.inl b:=fun q=>e (Sum.inl.inj q)
  rw[decide_eq_false h];exact(beq_eq_false_iff_ne.mpr e).symm
theorem Zuc(a b:Str):decide ((Sum.inr a:Key)=Sum.inr b)=decide (a=b):=by
 by_cases e:a=b
 ·subst e;simp
 ·have h:¬(Sum.inr a:Key)=Sum.inr b:=fun q=>e (Sum.inr.inj q)
  rw[decide_eq_false h,decide_eq_false e]
theorem Zue(a:Int)(b:Str):decide ((Sum.inl a:Key)=Sum.inr b)=false:=decide_eq_false (fun q=>nomatch q)
theorem Zud(a:Str)(b:Int):decide ((Sum.inr a:Key)=Sum.inl b)=false:=decide_eq_false (fun q=>nomatch q)
def mixKind(prog:Program)(w:World):PySem.KeyKind prog w Key where
 is:=Zug
 hash:=Zwe w
 inj:=fun v a b ha hb=>by
  rcases Zbn ha with⟨i,t,rfl,rfl⟩|⟨x,t,rfl,rfl⟩
  ·rcases Zbn hb with⟨j,u,rfl,e⟩|⟨y,u,rfl,e⟩
   ·injection e with e1 _;rw[e1]
   ·exact nomatch e
  ·rcases Zbn hb with⟨j,u,rfl,e⟩|⟨y,u,rfl,e⟩
   ·exact nomatch e
   ·injection e with e1 _;rw[e1]
 byValue:=fun k v h=>by
  rcases Zbn h with⟨i,t,rfl,rfl⟩|⟨x,t,rfl,rfl⟩ <;> rfl
 pyHash:=fun hv h=>by
  rcases Zbn hv with⟨i,t,rfl,rfl⟩|⟨x,t,rfl,rfl⟩
  ·exact wpAny_pyHash_int h
  ·exact wpAny_pyHash_str h
 eqBool:=fun hu hv h=>by
  rcases Zbn hu with⟨i,t,rfl,rfl⟩|⟨x,t,rfl,rfl⟩
  ·rcases Zbn hv with⟨j,u,rfl,rfl⟩|⟨y,u,rfl,rfl⟩
   ·rw[Zuf]at h;exact wpAny_eqBool_int h
   ·rw[Zue]at h;exact SeqAt.EqAt.int_str i t y u _ _ _ _ h
  ·rcases Zbn hv with⟨j,u,rfl,rfl⟩|⟨y,u,rfl,rfl⟩
   ·rw[Zud]at h;exact SeqAt.EqAt.str_int x t j u _ _ _ _ h
   ·rw[Zuc]at h;exact wpAny_eqBool_str h
 «strs»:=fun k x t v h=>by
  rcases Zbn h with⟨i,u,rfl,e⟩|⟨y,u,rfl,e⟩
  ·exact nomatch e
  ·injection e with e1 _;subst e1;cases v <;> rfl
inductive V where
 |non|bl (b:Bool)|int (i:Int)|str (x:Str)|byt (b:Array UInt8)|flt (b:UInt64)|ref (a:Addr)|ty (n:String)
 deriving DecidableEq
def RelV:V->Value->Prop
 | .non,u=>u=Value.none
 | .bl b,u=>u=Value.bool b
 | .int i,u=>∃t,u=Value.int i t
 | .str x,u=>∃t,u=Value.str x t
 | .byt b,u=>∃t,u=Value.bytes b t
 | .flt b,u=>∃t,u=Value.float b t
 | .ref a,u=>u=Value.ref a
 | .ty n,u=>u=Value.type n
abbrev Vals:List V->List Value->Prop:=Paired RelV
theorem Vals.length{xs:List V}{us:List Value}(r:Vals xs us):xs.length=us.length:=Paired.length r
theorem Vals.get:∀{xs:List V} {us:List Value} {i:Nat} {x:V},Vals xs us->xs[i]?=some x->∃u,us[i]?=some u/\RelV x u
 |_,_,_,_,.nil,e=>by simp at e
 |_,_,0,_,.cons r _,e=>by simp at e;subst e;exact⟨_,rfl,r⟩
 |_,_,i+ 1,x,.cons _ t,e=>by
  obtain⟨u,h1,h2⟩:=Vals.get (i:=i) (x:=x) t (by simpa using e);exact⟨u,by simpa using h1,h2⟩
theorem Vals.set{x:V}{u:Value}(r:RelV x u):∀{xs:List V} {us:List Value} (i:Nat),Vals xs us->Vals (xs.set i x) (us.set i u)
 |_,_,_,.nil=>.nil
 |_,_,0,.cons _ t=>.cons r t
 |_,_,i+ 1,.cons q t=>.cons q (Vals.set r i t)
theorem Vals.append:∀{xs ys:List V} {us ws:List Value},Vals xs us->Vals ys ws->Vals (xs++ys) (us++ws)
 |_,_,_,_,.nil,s=>s
 |_,_,_,_,.cons r t,s=>.cons r (Vals.append t s)
theorem Vals.take:∀{xs:List V} {us:List Value} (n:Nat),Vals xs us->Vals (xs.take n) (us.take n)
 |_,_,0,_=>.nil
 |_,_,_+ 1,.nil=>.nil
 |_,_,n+ 1,.cons r t=>.cons r (Vals.take n t)
theorem Vals.drop:∀{xs:List V} {us:List Value} (n:Nat),Vals xs us->Vals (xs.drop n) (us.drop n)
 |_,_,0,r=>r
 |_,_,_+ 1,.nil=>.nil
 |_,_,n+ 1,.cons _ t=>Vals.drop n t
def RelO:Option V->Option Value->Prop
 |some v,some u=>RelV v u
 |none,none=>True
 |_,_=>False
def KV{κ:Type}:List (κ×V)->List (κ×Value)->Prop:=Paired fun(p:κ×V) (q:κ×Value)=>p.1=q.1/\RelV p.2 q.2
def kV:Key->V
 | .inl i=>.int i
 | .inr x=>.str x
inductive HO where
 |lst (xs:List V)
 |tup (xs:List V)
 |dK (kvs:List (Key×V))|dT (kvs:List (List Key×V))
 |set (S:Int->Bool) (n:Nat)
 |ins (C dx:Addr) (fs:List (Str×V))
 |own (x:Addr)
 |xd (fs:List (Str×V))
 |met (f x:Addr)
 |rng (lo hi:Int)
 |frz (o:Obj) (u:HO)
 |tbl (ps:Array Value)
 |ext (φ:Heap->Prop)
abbrev Hp:=Addr->Option HO
def upd(H:Hp)(a:Addr)(o:HO):Hp:=fun b=>if b=a then some o else H b
theorem Zan{H:Hp}{a:Addr}{o:HO}:upd H a o a=some o:=by unfold upd;rw[if_pos rfl]
theorem Zap{H:Hp}{a b:Addr}{o:HO}(h:b≠a):upd H a o b=H b:=by unfold upd;rw[if_neg h]
theorem Zt6{H:Hp}{a b:Addr}{o u:HO}(h:H a=some o)(h':H b=some u)(d:o≠u):a≠b:=by
 intro e;subst e;rw[h]at h';exact d (Option.some.inj h')
theorem Zaz{H:Hp}{a b:Addr}{o:HO}(h:H a=some o)(h':H b=none):a≠b:=by
 intro e;subst e;rw[h]at h';cases h'
section
variable(P:Program)(w:World)
def ObjOk(H:Hp)(h:Heap)(a:Addr):HO->Prop
 | .lst xs=>xs.length <=sizeLine/\∃ (its:List Value) (n:Nat),Vals xs its/\h.get? a=some {cls:=.type "list",data:=.seq its.toArray n}
 | .tup xs=>xs.length <=sizeLine/\∃its:List Value,Vals xs its/\IsTup h a its.toArray
 | .dK kvs=>kvs.length <=sizeLine/\(a==sysModules)=false/\∃vs,KV kvs vs/\h.DictOf (mixKind P w) a vs
 | .dT kvs=>kvs.length <=sizeLine/\(a==sysModules)=false/\∃xs:List (List Key×Addr×Value),
   Paired (fun(p:List Key×V) (q:List Key×Addr×Value)=>p.1=q.1/\H q.2.1=some (.tup (p.1.map kV))/\RelV p.2 q.2.2) kvs xs/\
   ∃o es ep,h.get? a=some o/\o.ExactDict/\o.data= .dict es ep/\es.toList=xs.map (entryOfKey (tupleKind (mixKind P w)))/\(xs.map (·.1)).Nodup
 | .set S n=>h.SetOf (intKind P w) a S n
 | .ins C dx fs=>H dx=some (.own a)/\fs.length <=1000/\dx≠a/\h.get? a=some (W.instObj C dx)/\
   ∃mA,h.Ns1 dx mA/\(∀f,RelO (fs.lookup f) (mA f))/\PySem.Within mA (fs.map (·.1))
 | .own _=>∃o,h.get? a=some o
 | .xd fs=>∃mA,h.Ns1 a mA/\∀f,RelO (fs.lookup f) (mA f)
 | .rng lo hi=>∃t u v,h.get? a=some {cls:=.type "range",data:=.fields #[.int lo t,.int hi u,.int 1 v]}
 | .frz o u=>h.get? a=some o/\ObjOk H h a u
 | .tbl ps=>h.get? a=some {cls:=.none,data:=.fields ps}
 | .met f x=>h.get? a=some (W.methodObj (.ref f) (.ref x))
 | .ext φ=>φ h/\(∃o,h.get? a=some o)/\∀h1 h2:Heap,φ h1->(∀o,h1.get? a=some o->h2.get? a=some o)->φ h2
def HOk(H:Hp)(h:Heap):Prop:=∀a o,H a=some o->ObjOk P w H h a o
end
section
variable{P:Program}{w:World}{H H':Hp}{h h':Heap}{a:Addr}{o:HO}
theorem ObjOk.lt(x:ObjOk P w H h a o):a < h.objs.size:=by
 cases o with
 |lst xs=>obtain⟨_,_,_,_,e⟩:=x;exact Heap.lt_size e
 |tup xs=>obtain⟨_,_,_,p⟩:=x;exact p.lt
 |dK kvs=>obtain⟨_,_,_,_,o,_,_,e,_⟩:=x;exact Heap.lt_size e
 |dT kvs=>obtain⟨_,_,_,_,o,_,_,e,_⟩:=x;exact Heap.lt_size e
 |set S n=>obtain⟨o,_,_,_,e,_⟩:=x;exact Heap.lt_size e
 |ins C dx fs=>obtain⟨_,_,_,e,_⟩:=x;exact Heap.lt_size e
 |own y=>obtain⟨_,e⟩:=x;exact Heap.lt_size e
 |xd fs=>obtain⟨_,⟨_,_,_,e,_⟩,_⟩:=x;exact Heap.lt_size e
 |rng lo hi=>obtain⟨_,_,_,e⟩:=x;exact Heap.lt_size e
 |frz ob u=>obtain⟨e,_⟩:=x;exact Heap.lt_size e
 |tbl ps=>exact Heap.lt_size (show h.get? a=some _ from x)
 |met f y=>exact Heap.lt_size (show h.get? a=some _ from x)
 |ext φ=>obtain⟨_,⟨_,e⟩,_⟩:=x;exact Heap.lt_size e
theorem Paired.mapP{α β:Type}{F G:α->β->Prop}:∀{l₁:List α} {l₂:List β},Paired F l₁ l₂->(∀a b,F a b->G a b)->Paired G l₁ l₂
 |_,_,.nil,_=>.nil
 |_,_,.cons r t,f=>.cons (f _ _ r) (Paired.mapP t f)
theorem ObjOk.stay(x:ObjOk P w H h a o)(k:∀b u,(b=a\/H b=some (.own a))->h.get? b=some u->h'.get? b=some u)
  (ho:∀b,H b=some (.own a)->H' b=some (.own a)) (ht:∀b xs,H b=some (.tup xs)->H' b=some (.tup xs)):ObjOk P w H' h' a o:=by
 induction o with
 |lst xs=>obtain⟨z,g,n,r,e⟩:=x;exact⟨z,g,n,r,k _ _ (.inl rfl) e⟩
 |tup xs=>obtain⟨z,g,r,ob,e,c⟩:=x;exact⟨z,g,r,ob,k _ _ (.inl rfl) e,c⟩
 |dK kvs=>obtain⟨z,y,vs,r,ob,es,ep,e,c⟩:=x;exact⟨z,y,vs,r,ob,es,ep,k _ _ (.inl rfl) e,c⟩
 |dT kvs=>
  obtain⟨z,y,xs,r,ob,es,ep,e,c⟩:=x;exact⟨z,y,xs,Paired.mapP r fun p q z=>⟨z.1,ht _ _ z.2.1,z.2.2⟩,ob,es,ep,k _ _ (.inl rfl) e,c⟩
 |set S n=>obtain⟨ob,es,ep,t,e,c⟩:=x;exact⟨ob,es,ep,t,k _ _ (.inl rfl) e,c⟩
 |ins C dx fs=>
  obtain⟨d,z,ne,e,mA,⟨i,es,ep,j,c⟩,r⟩:=x;exact⟨ho _ d,z,ne,k _ _ (.inl rfl) e,mA,⟨i,es,ep,k _ _ (.inr d) j,c⟩,r⟩
 |own y=>obtain⟨ob,e⟩:=x;exact⟨ob,k _ _ (.inl rfl) e⟩
 |xd fs=>obtain⟨mA,⟨i,es,ep,e,c⟩,r⟩:=x;exact⟨mA,⟨i,es,ep,k _ _ (.inl rfl) e,c⟩,r⟩
 |rng lo hi=>obtain⟨t,u,v,e⟩:=x;exact⟨t,u,v,k _ _ (.inl rfl) e⟩
 |frz ob u ih=>obtain⟨e,q⟩:=x;exact⟨k _ _ (.inl rfl) e,ih q⟩
 |tbl ps=>
  have e:h.get? a=some {cls:=.none,data:=.fields ps}:=x;show h'.get? a=some {cls:=.none,data:=.fields ps};exact k a _ (.inl rfl) e
 |met f y=>
  have e:h.get? a=some (W.methodObj (.ref f) (.ref y)):=x;show h'.get? a=some (W.methodObj (.ref f) (.ref y));exact k a _ (.inl rfl) e
 |ext φ=>obtain⟨p,⟨o,e⟩,st⟩:=x;exact⟨st _ _ p fun o q=>k _ _ (.inl rfl) q,⟨o,k _ _ (.inl rfl) e⟩,st⟩
theorem HOk.lt(x:HOk P w H h)(e:H a=some o):a < h.objs.size:=(x a o e).lt
theorem HOk.fresh(x:HOk P w H h)(e:h.objs.size <=a):H a=none:=by
 cases q:H a with
 |none=>rfl
 |some u=>exact absurd (Nat.lt_of_lt_of_le (x.lt q) e) (Nat.lt_irrefl _)
theorem HOk.kept(x:HOk P w H h)(k:∀b u,h.get? b=some u->h'.get? b=some u):HOk P w H h':=fun a o e=>
 (x a o e).stay (fun b u _ q=>k b u q) (fun _ q=>q) fun _ _ q=>q
theorem HOk.laid(x:HOk P w H h)(k:∀b u,h.get? b=some u->h'.get? b=some u)(hp:h.objs.size <=a)(new:ObjOk P w (upd H a o) h' a o):HOk P w (upd H a o) h':=fun b u e=>by
 have d:=x.fresh hp
 by_cases hb:b=a
 ·subst hb;rw[Zan]at e;cases e;exact new
 ·rw[Zap hb]at e;exact(x b u e).stay (fun c v _ q=>k c v q) (fun c q=>by rw[Zap (Zaz q d)];exact q) fun c xs q=>by rw[Zap (Zaz q d)];exact q
end
def Rd(H:Hp)(a:Addr)(u:HO):Prop:=H a=some u\/∃o,H a=some (.frz o u)
theorem Rd.ok{P:Program}{w:World}{H:Hp}{h:Heap}{a:Addr}{u:HO}(r:Rd H a u)(x:HOk P w H h):ObjOk P w H h a u:=by
 rcases r with r|⟨o,r⟩
 ·exact x a u r
 ·obtain⟨_,q⟩:=x a _ r;exact q
def Mut:Option HO->Prop
 |some (.lst _)=>True
 |some (.dK _)=>True
 |some (.dT _)=>True
 |some (.set _ _)=>True
 |some (.ins _ _ _)=>True
 |some (.ext _)=>True
 |_=>False
section
variable{P:Program}{w:World}{H:Hp}{h h':Heap}{x e:Addr}{o':HO}
theorem HOk.write(ok:HOk P w H h)(mu:Mut (H x))(he:e=x\/H e=some (.own x))(k:∀b u,b≠e->h.get? b=some u->h'.get? b=some u)(heo:∃u,h'.get? e=some u)
  (new:ObjOk P w (upd H x o') h' x o'):HOk P w (upd H x o') h':=fun b u q=>by
 have a:∀c y,H c=some (.own y)->c≠x:=fun c y r z=>by subst z;rw[r]at mu;exact mu
 have f:∀c xs,H c=some (.tup xs)->c≠x:=fun c xs r z=>by subst z;rw[r]at mu;exact mu
 by_cases hb:b=x
 ·subst hb;rw[Zan]at q;cases q;exact new
 ·rw[Zap hb]at q
  by_cases hbe:b=e
  ·have g:H b=some (.own x):=by
    rcases he with z|z
    ·exact absurd (hbe.trans z) hb
    ·rw[hbe];exact z
   rw[q]at g;cases g;obtain⟨v,i⟩:=heo;exact⟨v,by rw[hbe];exact i⟩
  ·refine(ok b u q).stay (fun c v d r=>k c v ?_ r) (fun c r=>by rw[Zap (a c b r)];exact r) fun c xs r=>by rw[Zap (f c xs r)];exact r
   rcases d with rfl|d
   ·exact hbe
   ·rintro rfl;rcases he with z|z
    ·exact a c b d z
    ·rw[d]at z;cases z;exact hb rfl
end
structure Un(fs ex:List Addr)(H H':Hp)(h h':Heap):Prop where
 keep:∀b o,h.get? b=some o->H b=none->b∉fs->b∉ex->h'.get? b=some o
 slot:∀b o,h.get? b=some o->H b=none->b∈fs->b∉ex->∃sl,h'.get? b=some {o with slots:=sl}
 free:∀b o,h.get? b=some o->H b=none->b∉ex->H' b=none
 there:∀b o,h.get? b=some o->b∉ex->∃o',h'.get? b=some o'
 tups:∀b xs,H b=some (.tup xs)->H' b=some (.tup xs)
 frzs:∀b o u,H b=some (.frz o u)->H' b=some (.frz o u)
 tbls:∀b ps,H b=some (.tbl ps)->∃more,H' b=some (.tbl (ps++more))
section
variable{fs fs' ex ex':List Addr}{H H1 H2:Hp}{h h1 h2 h':Heap}{a x e:Addr}{o:HO}
theorem Un.any(u:Un fs ex H H1 h h1){b:Addr}{ob:Obj}(q:h.get? b=some ob)(n:H b=none)(hx:b∉ex):∃sl,h1.get? b=some {ob with slots:=sl}:=by
 by_cases hb:b∈fs
 ·exact u.slot b ob q n hb hx
 ·exact⟨ob.slots,u.keep b ob q n hb hx⟩
theorem Un.kept(k:∀b u,h.get? b=some u->h'.get? b=some u):Un fs ex H H h h':=
 ⟨fun b a q _ _ _=>k b a q,fun b a q _ _ _=>⟨a.slots,k b a q⟩,fun _ _ _ n _=>n,fun b a q _=>⟨a,k b a q⟩,fun _ _ q=>q,fun _ _ _ q=>q,fun _ ps q=>⟨#[],by rw[q];simp⟩⟩
theorem Un.refl:Un fs ex H H h h:=Un.kept fun _ _ q=>q
theorem Un.laid(k:∀b u,h.get? b=some u->h'.get? b=some u)(hp:h.objs.size <=a)(hn:H a=none):Un fs ex H (upd H a o) h h' where
 keep:=fun b u q _ _ _=>k b u q
 slot:=fun b u q _ _ _=>⟨u.slots,k b u q⟩
 free:=fun b u q n _=>by rw[Zap (Nat.ne_of_lt (Nat.lt_of_lt_of_le (Heap.lt_size q) hp))];exact n
 there:=fun b u q _=>⟨u,k b u q⟩
 tups:=fun b xs q=>by rw[Zap (Zaz q hn)];exact q
 frzs:=fun b u xs q=>by rw[Zap (Zaz q hn)];exact q
 tbls:=fun b ps q=>⟨#[],by rw[Zap (Zaz q hn),q];simp⟩
theorem Un.write(mu:Mut (H x))(he:e=x\/H e=some (.own x))(k:∀b u,b≠e->h.get? b=some u->h'.get? b=some u)(heo:∃u,h'.get? e=some u):Un fs ex H (upd H x o) h h':=by
 have hx:∀b,H b=none->b≠x:=fun b n z=>by subst z;rw[n]at mu;exact mu
 have c:∀b,H b=none->b≠e:=fun b n z=>by
  subst z;rcases he with r|r
  ·exact hx b n r
  ·rw[n]at r;cases r
 have a:∀b u,H b=some u->¬Mut (some u)->b≠x:=fun b u q nm z=>by subst z;rw[q]at mu;exact nm mu
 refine ⟨fun b u q n _ _ => k b u (c b n) q, fun b u q n _ _ => ⟨u.slots, k b u (c b n) q⟩, fun b u q n _ => by rw [Zap (hx b n)]; exact n, fun b u q _ => ?_,
  fun b xs q => by rw [Zap (a b _ q fun z => z)]; exact q, fun b u xs q => by rw [Zap (a b _ q fun z => z)]; exact q, fun b ps q => ⟨#[], by rw [Zap (a b _ q fun z => z), q]; simp⟩⟩
 by_cases hbe:b=e
 ·subst hbe;exact heo
 ·exact⟨u,k b u hbe q⟩
end
def trk(h:Heap)(H:Hp):List Addr:=(List.range h.objs.size).filter fun a=>(H a).isSome
def Zpn(h:Heap)(H:Hp):Heap:=W.hideAll h (trk h H)
theorem Zog(h:Heap)(H:Hp):(Zpn h H).objs.size=h.objs.size:=W.hideAll_size _ _
theorem Zpm{h:Heap}{H:Hp}{b:Addr}{o:Obj}(e:h.get? b=some o)(n:H b=none):(Zpn h H).get? b=some o:=
 W.hideAll_get _ e fun a=>by
  have q:(H b).isSome=true:=(List.mem_filter.mp a).2;rw[n]at q;simp at q
theorem Zrz{h:Heap}{H:Hp}{b:Addr}{o:Obj}(e:(Zpn h H).get? b=some o):h.get? b=some o/\H b=none:=by
 have a:h.get? b=some o:=W.of_hideAll (trk h H) e;refine⟨a,?_⟩;cases q:H b with
 |none=>rfl
 |some x=>
  have c:b∈trk h H:=List.mem_filter.mpr ⟨List.mem_range.mpr (Heap.lt_size a),by simp[q]⟩;have z:(Zpn h H).get? b=none:=W.hideAll_none (trk h H) c;rw[z]at e;cases e
def Zsj(g h:Heap)(L:Addr):List (Addr×Obj):=(List.range h.objs.size).filterMap fun a=>if a=L\/(g.get? a).isSome=true then none else(h.get? a).map fun o=>(a,o)
def rest(g h:Heap)(L d:Addr):List (Addr×Obj):=(Zsj g h L).filter fun p=>decide (p.1≠d)
structure Mod(K:W.Frag)(mg:Str->Option Value)(base:Heap):Prop where
 kin:K.In base
 glob:base.Ns mainGlobals mg
 blt:∃mb,base.Ns builtinsNs mb/\∀x:Str,x≠"__name__"->mb x=bootBuiltins x
 nolimit:base.NoLimit
structure Cx where
 prog:Program
 w:World
 K:W.Frag
 mg:Str->Option Value
 base:Heap
 A:Around
 N:List Str
 s₀:Shared
 H₀:Hp
 env:Env
 outer:List Env
 stack:List Env
 ex:List Addr
 fn:Str->Bool
 calm:Bool
 pn:List (Addr×Obj)
 xe:Value->Shared->Prop
def frs(l:List Env):List Addr:=l.filterMap (·.frame)
abbrev Cx.fs(X:Cx):List Addr:=frs X.outer
def Vis(sc:Scope)(x:Str):Prop:=sc.names.lookup x=some .local\/sc.names.lookup x=some .cell\/sc.names.lookup x=some .free
def Loc(sc:Scope)(x:Str):Prop:=sc.names.lookup x=some .local\/sc.names.lookup x=some .cell
def Look(env:Env)(h:Heap)(m:Str->Option Value)(x:Str)(u:Value):Prop:=
 (env.kindOf x=some .local/\m x=some u)\/((env.kindOf x=some .cell\/env.kindOf x=some .free)/\∃c,env.cells.lookup x=some c/\h.IsCell c (some u))
structure Cx.Ok(X:Cx):Prop where
 mod:Mod X.K X.mg X.base
 kind:X.env.scope.kind= .function
 glob:X.env.globals=mainGlobals
 blt:X.env.builtins=builtinsNs
 above:X.s₀.heap.objs.size <=X.env.locals
 inj:∀x y c,X.env.cells.lookup x=some c->X.env.cells.lookup y=some c->x=y
 has:∀x,(X.env.kindOf x=some .cell\/X.env.kindOf x=some .free)->∃c,X.env.cells.lookup x=some c
 cab:∀x c,X.fn x=true->X.env.cells.lookup x=some c->X.s₀.heap.objs.size <=c
 hd:X.calm=true->X.A.handled=none
 frames:X.A.frames=some X.stack
 stk:X.stack=X.outer\/(X.stack=X.env::X.outer/\X.env.frame=some X.env.locals)
 exf:∀b∈X.ex,b≠X.env.locals/\∀x c,X.env.cells.lookup x=some c->c≠b
 bs:∀b o,X.base.get? b=some o->X.s₀.heap.get? b=some o/\X.H₀ b=none
 bsz:X.base.objs.size <=X.s₀.heap.objs.size
 noex:∀b o,X.base.get? b=some o->b∉X.ex
 exfs:∀b∈X.ex,b∉X.fs
 funs:X.s₀.heap.FunFrames X.base X.outer
 frf:∀b∈X.fs,X.H₀ b=none
structure Inv(X:Cx)(pins:List (Addr×Obj))(σ:List (Option V))(H:Hp)(s:Shared):Prop where
 ok:X.Ok
 os:s.os=X.s₀.os
 bare:AllBare s.gens
 base:Un X.fs X.ex X.H₀ H X.s₀.heap s.heap
 loc:∃m,s.heap.Ns X.env.locals m/\∀ (i:Nat) (x:Str) (v:V),X.N[i]?=some x->σ[i]?=some (some v)->Vis X.env.scope x->∃u,RelV v u/\Look X.env s.heap m x u
 cell:∀x c,X.env.cells.lookup x=some c->∃v,s.heap.IsCell c v
 free:H X.env.locals=none
 freeC:∀x c,X.env.cells.lookup x=some c->H c=none
 pin:∀p∈X.pn++pins,s.heap.get? p.1=some p.2/\H p.1=none/\p.1≠X.env.locals/\p.1∉X.fs/\∀v,p.2.data≠ .cell v
 hok:HOk X.prog X.w H s.heap
 len:σ.length=X.N.length
section
variable{X:Cx}{pins:List (Addr×Obj)}{σ:List (Option V)}{H H':Hp}{s:Shared}{h':Heap}
theorem Cx.Ok.nofr(ok:X.Ok){b:Addr}{o:Obj}(e:X.base.get? b=some o):b∉X.fs:=fun a=>by
 have:=(ok.funs.mem a).1;rw[e]at this;cases this
theorem Inv.bs(I:Inv X pins σ H s):∀b o,X.base.get? b=some o->s.heap.get? b=some o/\H b=none:=fun b o e=>
 ⟨I.base.keep b o (I.ok.bs b o e).1 (I.ok.bs b o e).2 (I.ok.nofr e) (I.ok.noex b o e),I.base.free b o (I.ok.bs b o e).1 (I.ok.bs b o e).2 (I.ok.noex b o e)⟩
theorem Inv.bk(I:Inv X pins σ H s):∀b o,X.base.get? b=some o->s.heap.get? b=some o:=fun b o e=>(I.bs b o e).1
theorem Inv.mod(I:Inv X pins σ H s):Mod X.K X.mg X.base:=I.ok.mod
theorem Inv.kIn(I:Inv X pins σ H s):X.K.In s.heap:=I.ok.mod.kin.keeps I.bk
theorem Inv.lt(I:Inv X pins σ H s):X.env.locals < s.heap.objs.size:=let ⟨_,hn,_⟩:=I.loc;hn.lt
theorem Inv.sz(I:Inv X pins σ H s):X.s₀.heap.objs.size <=s.heap.objs.size:=Nat.le_trans I.ok.above (Nat.le_of_lt I.lt)
theorem Inv.nofs(I:Inv X pins σ H s){a:Addr}(h:s.heap.objs.size <=a):a∉X.fs:=fun c=>by
 obtain⟨_,o,b,_⟩:=I.ok.funs.mem c;exact absurd (Nat.lt_of_lt_of_le (Heap.lt_size b) (Nat.le_trans I.sz h)) (Nat.lt_irrefl _)
theorem Inv.cne(I:Inv X pins σ H s):∀x c,X.env.cells.lookup x=some c->c≠X.env.locals:=fun x c e z=>by
 obtain⟨v,o,b,f⟩:=I.cell x c e;obtain⟨m,⟨o',es,ep,a,d,_⟩,_⟩:=I.loc;rw[z,a]at b;cases b;rw[d]at f;cases f
theorem Inv.funs(I:Inv X pins σ H s):s.heap.FunFrames X.base X.outer:=by
 have all:∀ (l:List Env),(∀b∈frs l,b∈X.fs)->X.s₀.heap.FunFrames X.base l->s.heap.FunFrames X.base l:=by
  intro l
  induction l with
  |nil=>intro _ _;trivial
  |cons env r ih=>
   intro hs i;obtain⟨j,⟨L,o,a,h,g,k⟩,f⟩:=i;have d:L∈X.fs:=hs L (by unfold frs;rw[List.filterMap_cons,a];exact List.mem_cons_self);obtain⟨m,e⟩:=I.base.slot L o g (I.ok.frf L d) d fun z=>I.ok.exfs L z d
   exact⟨j,⟨L,_,a,h,e,k⟩,ih (fun b c=>hs b (by unfold frs;rw[List.filterMap_cons,a];exact List.mem_cons_of_mem _ c)) f⟩
 exact all X.outer (fun _ c=>c) I.ok.funs
theorem Inv.stack(I:Inv X pins σ H s):s.heap.FunFrames X.base X.stack:=by
 rcases I.ok.stk with e|⟨e,hf⟩
 ·rw[e];exact I.funs
 ·rw[e];obtain⟨m,a,_⟩:=I.loc;refine .cons (by rw[I.ok.kind];decide) hf a ?_ I.funs;exact Heap.get?_none_of_le (Nat.le_trans I.ok.bsz I.ok.above)
theorem Inv.stkSub(I:Inv X pins σ H s):∀b∈frs X.stack,b∈X.env.locals::X.fs:=fun b a=>by
 rcases I.ok.stk with e|⟨e,hf⟩
 ·rw[e]at a;exact List.mem_cons_of_mem _ a
 ·rw[e]at a;unfold frs at a;rw[List.filterMap_cons,hf]at a;exact a
theorem Inv.stkFree(I:Inv X pins σ H s):∀b∈frs X.stack,H b=none:=fun b a=>by
 rcases List.mem_cons.mp (I.stkSub b a) with e|a
 ·rw[e];exact I.free
 ·obtain⟨_,o,c,_⟩:=I.ok.funs.mem a;exact I.base.free b o c (I.ok.frf b a) fun z=>I.ok.exfs b z a
theorem Inv.step{g':Array GenState}{t':Nat}{d':Drawn}{ch:List Addr}(I:Inv X pins σ H s)
  (hch:∀b∈ch,(b∈X.ex\/X.s₀.heap.objs.size <=b)/\b≠X.env.locals/\(∀x c,X.env.cells.lookup x=some c->c≠b)/\∀p∈X.pn++pins,p.1≠b)
  (keep:∀b o,b≠X.env.locals->b∉X.fs->b∉ch->s.heap.get? b=some o->H b=none->h'.get? b=some o)
  (slot:∀b o,b≠X.env.locals->b∈X.fs->b∉ch->s.heap.get? b=some o->H b=none->∃sl,h'.get? b=some {o with slots:=sl}) (free:∀b o,b∉ch->s.heap.get? b=some o->H b=none->H' b=none)
  (there:∀b o,b∉ch->s.heap.get? b=some o->∃o',h'.get? b=some o')
  (tups:∀b xs,H b=some (.tup xs)->H' b=some (.tup xs)) (frzs:∀b o u,H b=some (.frz o u)->H' b=some (.frz o u)) (tbls:∀b ps,H b=some (.tbl ps)->∃more,H' b=some (.tbl (ps++more)))
  (ns:∀m,s.heap.Ns X.env.locals m->h'.Ns X.env.locals m) (hok:HOk X.prog X.w H' h') (hg:AllBare g'):
  Inv X pins σ H' {s with heap:=h',gens:=g',drawn:=d',toks:=t'}:=by
 have aa:∀b o,X.s₀.heap.get? b=some o->b≠X.env.locals:=fun b o e=>Nat.ne_of_lt (Nat.lt_of_lt_of_le (Heap.lt_size e) I.ok.above)
 have h:∀b o,X.s₀.heap.get? b=some o->b∉X.ex->b∉ch:=fun b o e hx g=>by
  rcases(hch b g).1 with z|z
  ·exact hx z
  ·exact absurd (Nat.lt_of_lt_of_le (Heap.lt_size e) z) (Nat.lt_irrefl _)
 have j:∀x c,X.env.cells.lookup x=some c->∀v,s.heap.IsCell c v->h'.IsCell c v:=fun x c e v ⟨o,t,hd⟩=>by
  have f:c∉ch:=fun z=>(hch c z).2.2.1 x c e rfl
  by_cases hc:c∈X.fs
  ·obtain⟨sl,q⟩:=slot c o (I.cne x c e) hc f t (I.freeC x c e);exact⟨_,q,hd⟩
  ·exact⟨o,keep c o (I.cne x c e) hc f t (I.freeC x c e),hd⟩
 refine⟨I.ok,I.os,hg,⟨fun b o e n g hx=>?_,fun b o e n g hx=>?_,fun b o e n hx=>?_,fun b o e hx=>?_,fun b xs e=>tups b xs (I.base.tups b xs e),fun b o xs e=>frzs b o xs (I.base.frzs b o xs e),fun b ps e=>?_⟩,?_,fun x c e=>?_,?_,fun x c e=>?_,fun p hp=>?_,hok,I.len⟩
 ·exact keep b o (aa b o e) g (h b o e hx) (I.base.keep b o e n g hx) (I.base.free b o e n hx)
 ·obtain⟨sl,a⟩:=I.base.slot b o e n g hx;obtain⟨sl',y⟩:=slot b _ (aa b o e) g (h b o e hx) a (I.base.free b o e n hx);exact⟨sl',y⟩
 ·obtain⟨o',a⟩:=I.base.there b o e hx;exact free b o' (h b o e hx) a (I.base.free b o e n hx)
 ·obtain⟨o',a⟩:=I.base.there b o e hx;exact there b o' (h b o e hx) a
 ·obtain⟨m1,a⟩:=I.base.tbls b ps e;obtain⟨m2,y⟩:=tbls b _ a;exact⟨m1++m2,by rw[y,Array.append_assoc]⟩
 ·obtain⟨m,hn,hl⟩:=I.loc;refine⟨m,ns m hn,fun i x v a y e3=>?_⟩;obtain⟨u,r,l⟩:=hl i x v a y e3;refine⟨u,r,?_⟩;rcases l with l|⟨k,c,e,z⟩
  ·exact .inl l
  ·exact .inr ⟨k,c,e,j x c e _ z⟩
 ·obtain⟨v,z⟩:=I.cell x c e;exact⟨v,j x c e v z⟩
 ·obtain⟨m,⟨o,_,_,t,_⟩,_⟩:=I.loc;exact free _ o (fun z=>(hch _ z).2.1 rfl) t I.free
 ·obtain⟨v,o,t,hd⟩:=I.cell x c e;exact free c o (fun z=>(hch c z).2.2.1 x c e rfl) t (I.freeC x c e)
 ·obtain⟨e,n,ne,nf,d⟩:=I.pin p hp;have f:p.1∉ch:=fun z=>(hch p.1 z).2.2.2 p hp rfl
  exact⟨keep p.1 p.2 ne nf f e n,free p.1 p.2 f e n,ne,nf,d⟩
theorem Inv.un{t':Nat}(I:Inv X pins σ H s)(u:Un X.fs [] H H' s.heap h')(hok:HOk X.prog X.w H' h'):Inv X pins σ H' {s with heap:=h',toks:=t'}:=by
 obtain ⟨m, ⟨o, es, ep, d, r⟩, _⟩ := id I.loc;obtain ⟨k, j⟩ := u.any d I.free (by simp);exact I.step (g' := s.gens) (d' := s.drawn) (ch := []) (fun _ z => nomatch z) (fun b o _ c _ e n => u.keep b o e n c (by simp)) (fun b o _ c _ e n => u.slot b o e n c (by simp)) (fun b o _ e n => u.free b o e n (by simp)) (fun b o _ e => u.there b o e (by simp)) u.tups u.frzs u.tbls (fun l i => by
  obtain ⟨o', f, g, a, h⟩ := i;rw [d] at a; cases a;exact ⟨_, f, g, j, h⟩) hok I.bare
theorem Inv.call{g':Array GenState}{t':Nat}{d':Drawn}{ch:List Addr}(I:Inv X pins σ H s)(u:Un (frs X.stack) ch H H' s.heap h')(hok:HOk X.prog X.w H' h')(hg:AllBare g')
  (hch:∀b∈ch,(b∈X.ex\/X.s₀.heap.objs.size <=b)/\b≠X.env.locals/\(∀x c,X.env.cells.lookup x=some c->c≠b)/\∀p∈X.pn++pins,p.1≠b):
  Inv X pins σ H' {s with heap:=h',gens:=g',drawn:=d',toks:=t'}:=by
 obtain⟨m,⟨o,es,ep,g,r⟩,_⟩:=id I.loc;obtain⟨q,f⟩:=u.any g I.free fun z=>(hch _ z).2.1 rfl
 exact I.step (ch := ch) hch (fun b o f l a e n => u.keep b o e n (fun z => (List.mem_cons.mp (I.stkSub b z)).elim f l) a) (fun b o _ _ a e n => u.any e n a) (fun b o a e n => u.free b o e n a) (fun b o a e => u.there b o e a) u.tups u.frzs u.tbls (fun t k => by
  obtain ⟨o', h, i, d, j⟩ := k;rw [g] at d; cases d;exact ⟨_, h, i, f, j⟩) hok hg
theorem Inv.turned{t':Nat}{it:Addr}(I:Inv X pins σ H s)(k:∀b o,b≠it->s.heap.get? b=some o->h'.get? b=some o)(hn:H it=none)(hL:it≠X.env.locals)
  (h1:it∈X.ex\/X.s₀.heap.objs.size <=it) (h2:∀x c,X.env.cells.lookup x=some c->c≠it) (h3:∀p∈X.pn++pins,p.1≠it):Inv X pins σ H {s with heap:=h',toks:=t'}:=by
 have d:∀b u,H b=some u->b≠it:=fun b u e z=>by rw[z,hn]at e;cases e
 refine I.step (g':=s.gens) (d':=s.drawn) (ch:=[it]) (fun b h=>?_) (fun b o _ _ a e _=>k b o (fun z=>a (by simp[z])) e) (fun b o _ _ a e _=>⟨o.slots,k b o (fun z=>a (by simp[z])) e⟩) (fun _ _ _ _ n=>n)
  (fun b o a e=>⟨o,k b o (fun z=>a (by simp[z])) e⟩) (fun _ _ e=>e) (fun _ _ _ e=>e) (fun b ps e=>⟨#[],by rw[e];simp⟩) (fun m g=>?_) (fun b u e=>?_) I.bare
 ·have e:b=it:=by simpa using h
  subst e;exact⟨h1,hL,h2,h3⟩
 ·obtain⟨o,es,ep,f,r⟩:=g;exact⟨o,es,ep,k _ o (Ne.symm hL) f,r⟩
 ·refine(I.hok b u e).stay (fun c v a q=>k c v ?_ q) (fun _ q=>q) fun _ _ q=>q
  rcases a with z|z
  ·rw[z];exact d b u e
  ·exact d c _ z
theorem Inv.tok(I:Inv X pins σ H s)(t:Nat):Inv X pins σ H {s with toks:=t}:=I.un (h':=s.heap) (t':=t) Un.refl I.hok
theorem Inv.kept{t':Nat}(I:Inv X pins σ H s)(k:∀b u,s.heap.get? b=some u->h'.get? b=some u):Inv X pins σ H {s with heap:=h',toks:=t'}:=I.un (Un.kept k) (I.hok.kept k)
theorem Inv.laid{a:Addr}{o:HO}{t':Nat}(I:Inv X pins σ H s)(k:∀b u,s.heap.get? b=some u->h'.get? b=some u)(hp:s.heap.objs.size <=a)(new:ObjOk X.prog X.w (upd H a o) h' a o):
  Inv X pins σ (upd H a o) {s with heap:=h',toks:=t'}:=I.un (Un.laid k hp (I.hok.fresh hp)) (I.hok.laid k hp new)
theorem Inv.write{x e:Addr}{o:HO}{t':Nat}(I:Inv X pins σ H s)(mu:Mut (H x))(he:e=x\/H e=some (.own x))(k:∀b u,b≠e->s.heap.get? b=some u->h'.get? b=some u)(heo:∃u,h'.get? e=some u)
  (new:ObjOk X.prog X.w (upd H x o) h' x o):Inv X pins σ (upd H x o) {s with heap:=h',toks:=t'}:=I.un (Un.write mu he k heo) (I.hok.write mu he k heo new)
theorem Inv.pins_of{pins':List (Addr×Obj)}(I:Inv X pins σ H s)(h:∀p∈pins',s.heap.get? p.1=some p.2/\H p.1=none/\p.1≠X.env.locals/\p.1∉X.fs/\∀v,p.2.data≠ .cell v):Inv X pins' σ H s:=
 ⟨I.ok,I.os,I.bare,I.base,I.loc,I.cell,I.free,I.freeC,fun p a=>(List.mem_append.mp a).elim (fun z=>I.pin p (List.mem_append_left _ z)) (h p),I.hok,I.len⟩
theorem Zie{N:List Str}(hN:N.Nodup){i j:Nat}{x:Str}(a:N[i]?=some x)(b:N[j]?=some x):i=j:=by
 obtain⟨h1,d⟩:=List.getElem?_eq_some_iff.mp a;obtain⟨h2,c⟩:=List.getElem?_eq_some_iff.mp b;exact(List.getElem_inj hN).mp (d.trans c.symm)
theorem Zna{M:Model}{A:Around}{E:Value->Shared->Prop}{i:Nat}{x:Str}{v:V}{u:Value}{Q:Unit->Shared->Prop}(I:Inv X pins σ H s)(hN:X.N.Nodup)(hi:X.N[i]?=some x)(hx:Loc X.env.scope x)(r:RelV v u)
  (h:∀s',Inv X pins (σ.set i (some v)) H s'->(∃a,Heap.SameBut a s.heap s'.heap/\(a=X.env.locals\/X.env.cells.lookup x=some a))->Q () s') (hf:X.fn x=true\/X.env.scope.names.lookup x=some .local:=by first|exact .inl rfl|exact .inr rfl|assumption):wpAny M A (storeName X.env x u) Q E s:=by
 obtain⟨m,hn,hl⟩:=id I.loc;have hcls:(X.env.scope.kind== .class||(X.env.scope.kind== .module && X.env.locals !=X.env.globals))=false:=by rw[I.ok.kind];rfl
 have hiσ:i < σ.length:=by rw[I.len];exact(List.getElem?_eq_some_iff.mp hi).1
 have cne:=I.cne;have l:∀{a:Addr} {h':Heap},(∃o,s.heap.get? a=some o/\H a=none)->Heap.SameBut a s.heap h'->HOk X.prog X.w H h':=fun {a h'} ha hs b ob e=>by
  obtain⟨_,_,hfree⟩:=ha;refine(I.hok b ob e).stay (fun c w' g q=>(hs.2 c ?_).trans q) (fun _ q=>q) fun _ _ q=>q
  rintro rfl;rcases g with rfl|g
  ·rw[hfree]at e;cases e
  ·rw[hfree]at g;cases g
 rcases hx with hk|hk
 ·refine wpAny_storeName_local hk hn (fun h' hn' hs=>?_) hcls;obtain⟨oL,_,_,hoL,_⟩:=id hn;refine h _ ⟨I.ok,I.os,I.bare,⟨fun b o e n hb hx=>?_,fun b o e n hb hx=>?_,I.base.free,fun b o e hx=>?_,I.base.tups,I.base.frzs,I.base.tbls⟩,⟨_,hn',fun j y v' f t e3=>?_⟩,fun y c e=>?_,I.free,I.freeC,fun p hp=>?_,l ⟨oL,hoL,I.free⟩ hs,by simpa using I.len⟩ ⟨_,hs,.inl rfl⟩
  ·exact(hs.2 b (Nat.ne_of_lt (Nat.lt_of_lt_of_le (Heap.lt_size e) I.ok.above))).trans (I.base.keep b o e n hb hx)
  ·obtain⟨sl,f⟩:=I.base.slot b o e n hb hx;exact⟨sl,(hs.2 b (Nat.ne_of_lt (Nat.lt_of_lt_of_le (Heap.lt_size e) I.ok.above))).trans f⟩
  ·obtain⟨o',f⟩:=I.base.there b o e hx;exact⟨o',(hs.2 b (Nat.ne_of_lt (Nat.lt_of_lt_of_le (Heap.lt_size e) I.ok.above))).trans f⟩
  ·by_cases hj:j=i
   ·subst hj;rw[hi]at f;cases f;rw[List.getElem?_set_self hiσ]at t;cases t;exact⟨u,r,.inl ⟨hk,by simp⟩⟩
   ·rw[List.getElem?_set_ne (Ne.symm hj)]at t;obtain⟨u',r',q⟩:=hl j y v' f t e3;refine⟨u',r',?_⟩;rcases q with⟨k,e⟩|⟨k,c,e,z⟩
    ·refine .inl ⟨k,?_⟩;have:y≠x:=fun e=>hj (Zie hN f (e▸hi))
     simp[this,e]
    ·exact .inr ⟨k,c,e,z.sameBut hs (cne y c e)⟩
  ·obtain⟨w',z⟩:=I.cell y c e;exact⟨w',z.sameBut hs (cne y c e)⟩
  ·obtain⟨e,n,ne,nf,d⟩:=I.pin p hp;exact⟨(hs.2 p.1 ne).trans e,n,ne,nf,d⟩
 ·have hfn:X.fn x=true:=by
   rcases hf with z|z
   ·exact z
   ·rw[z]at hk;cases hk
  obtain⟨c,g⟩:=I.ok.has x (.inl hk);obtain⟨w',z⟩:=I.cell x c g;refine wpAny_storeName_cell I.ok.kind hk g z (fun h' hc' hs=>?_);obtain⟨oc,hoc,hocd⟩:=id z;refine h {s with heap:=h'} ⟨I.ok,I.os,I.bare,⟨fun b o e n hb hx=>?_,fun b o e n hb hx=>?_,I.base.free,fun b o e hx=>?_,I.base.tups,I.base.frzs,I.base.tbls⟩,⟨m,hn.sameBut hs (Ne.symm (cne x c g)),fun j y v' f t e3=>?_⟩,fun y c' e=>?_,I.free,I.freeC,fun p hp=>?_,l ⟨oc,hoc,I.freeC x c g⟩ hs,by simpa using I.len⟩ ⟨c,hs,.inr g⟩
  ·exact(hs.2 b (Nat.ne_of_lt (Nat.lt_of_lt_of_le (Heap.lt_size e) (I.ok.cab x c hfn g)))).trans (I.base.keep b o e n hb hx)
  ·obtain⟨sl,f⟩:=I.base.slot b o e n hb hx;exact⟨sl,(hs.2 b (Nat.ne_of_lt (Nat.lt_of_lt_of_le (Heap.lt_size e) (I.ok.cab x c hfn g)))).trans f⟩
  ·obtain⟨o',f⟩:=I.base.there b o e hx;exact⟨o',(hs.2 b (Nat.ne_of_lt (Nat.lt_of_lt_of_le (Heap.lt_size e) (I.ok.cab x c hfn g)))).trans f⟩
  ·by_cases hj:j=i
   ·subst hj;rw[hi]at f;cases f;rw[List.getElem?_set_self hiσ]at t;cases t;exact⟨u,r,.inr ⟨.inl hk,c,g,hc'⟩⟩
   ·rw[List.getElem?_set_ne (Ne.symm hj)]at t;obtain⟨u',r',q⟩:=hl j y v' f t e3;refine⟨u',r',?_⟩;rcases q with q|⟨k,c',e,z'⟩
    ·exact .inl q
    ·refine .inr ⟨k,c',e,z'.sameBut hs ?_⟩;rintro rfl;exact hj (Zie hN f (I.ok.inj _ _ _ e g▸hi))
  ·by_cases hcc:c'=c
   ·subst hcc;exact⟨_,hc'⟩
   ·obtain⟨w2,z2⟩:=I.cell y c' e;exact⟨w2,z2.sameBut hs hcc⟩
  ·obtain⟨e,n,ne,nf,d⟩:=I.pin p hp;refine⟨(hs.2 p.1 ?_).trans e,n,ne,nf,d⟩;intro q;rw[q,hoc]at e;have q':oc=p.2:=Option.some.inj e;exact d w' (by rw[<-q'];exact hocd)
theorem Zfz{M:Model}{A:Around}{E:Value->Shared->Prop}{i:Nat}{x:Str}{v:V}{u:Value}{Q:Unit->Shared->Prop}(I:Inv X pins σ H s)(hN:X.N.Nodup)(hi:X.N[i]?=some x)(hx:Loc X.env.scope x)(r:RelV v u)
  (h:∀s',Inv X pins (σ.set i (some v)) H s'->Q () s') (hf:X.fn x=true\/X.env.scope.names.lookup x=some .local:=by first|exact .inl rfl|exact .inr rfl|assumption):wpAny M A (storeName X.env x u) Q E s:=
 Zna I hN hi hx r (fun s' a _=>h s' a) hf
theorem Inv.call'{s':Shared}{ch:List Addr}(I:Inv X pins σ H s)(ho:s'.os=s.os)(u:Un (frs X.stack) ch H H' s.heap s'.heap)(hok:HOk X.prog X.w H' s'.heap)(hg:AllBare s'.gens)
  (hch:∀b∈ch,(b∈X.ex\/X.s₀.heap.objs.size <=b)/\b≠X.env.locals/\(∀x c,X.env.cells.lookup x=some c->c≠b)/\∀p∈X.pn++pins,p.1≠b):Inv X pins σ H' s':=by
 obtain⟨h',g',d',t',o'⟩:=s';have e:o'=s.os:=ho;subst e;exact I.call (g':=g') (t':=t') (d':=d') u hok hg hch
end
abbrev XK:=Value->Option Addr->Hp->Prop
abbrev St:=List (Option V)
abbrev VK:=V->Hp->Prop
abbrev TE:=St->Hp->VK->Prop
abbrev TT:=St->Hp->(Bool->Hp->Prop)->Prop
abbrev TA:=St->Hp->(List V->Hp->Prop)->Prop
structure Zmz where
 nx:St->Hp->Prop
 rt:VK
 bk:St->Hp->Prop:=fun _ _=>False
 ct:St->Hp->Prop:=fun _ _=>False
abbrev TS:=Zmz->St->Hp->Prop
def EP(X:Cx)(pins:List (Addr×Obj))(σ:St)(Q:VK)(u:Value)(s':Shared):Prop:=∃v H',Inv X pins σ H' s'/\RelV v u/\Q v H'
def TP(X:Cx)(pins:List (Addr×Obj))(σ:St)(Q:Bool->Hp->Prop)(b:Bool)(s':Shared):Prop:=∃H',Inv X pins σ H' s'/\Q b H'
def AP(X:Cx)(pins:List (Addr×Obj))(σ:St)(Q:List V->Hp->Prop)(us:List Value)(s':Shared):Prop:=∃vs H',Inv X pins σ H' s'/\Vals vs us/\Q vs H'
def SP(X:Cx)(pins:List (Addr×Obj))(D:Zmz)(f:Flow)(s':Shared):Prop:=
 match f with
 | .next=>∃σ' H',Inv X pins σ' H' s'/\D.nx σ' H'
 | .brk=>∃σ' H',Inv X pins σ' H' s'/\D.bk σ' H'
 | .cont=>∃σ' H',Inv X pins σ' H' s'/\D.ct σ' H'
 | .ret u=>∃v σ' H',Inv X pins σ' H' s'/\RelV v u/\D.rt v H'
def PE(X:Cx)(e:Expr)(t:TE):Prop:=
 ∀ (pins:List (Addr×Obj)) (s:Shared) (σ:St) (H:Hp) (Q:VK),Inv X pins σ H s->t σ H Q->wpAny (model X.prog X.w) X.A (eval e X.env) (EP X pins σ Q) X.xe s
def PT(X:Cx)(e:Expr)(t:TT):Prop:=
 ∀ (pins:List (Addr×Obj)) (s:Shared) (σ:St) (H:Hp) (Q:Bool->Hp->Prop),Inv X pins σ H s->t σ H Q->wpAny (model X.prog X.w) X.A (isTrue e X.env (eval e X.env)) (TP X pins σ Q) X.xe s
def PW(X:Cx)(e:Expr)(t:TT):Prop:=
 ∀ (whole:Sem Value) (pins:List (Addr×Obj)) (s:Shared) (σ:St) (H:Hp) (Q:Bool->Hp->Prop),Inv X pins σ H s->t σ H Q->wpAny (model X.prog X.w) X.A (isTrue e X.env whole) (TP X pins σ Q) X.xe s
theorem PW.pt{X:Cx}{e:Expr}{t:TT}(h:PW X e t):PT X e t:=h _
def PA(X:Cx)(es:List Expr)(t:TA):Prop:=
 ∀ (pos:Pos) (pins:List (Addr×Obj)) (s:Shared) (σ:St) (H:Hp) (Q:List V->Hp->Prop),Inv X pins σ H s->t σ H Q->wpAny (model X.prog X.w) X.A (spliced (backTo pos (starEach es X.env))) (AP X pins σ Q) X.xe s
def PS(X:Cx)(st:Stmt)(t:TS):Prop:=
 ∀ (pins:List (Addr×Obj)) (s:Shared) (σ:St) (H:Hp) (D:Zmz),Inv X pins σ H s->t D σ H->wpAny (model X.prog X.w) X.A (exec st X.env) (SP X pins D) X.xe s
def PSs(X:Cx)(st:List Stmt)(t:TS):Prop:=
 ∀ (pins:List (Addr×Obj)) (s:Shared) (σ:St) (H:Hp) (D:Zmz),Inv X pins σ H s->t D σ H->wpAny (model X.prog X.w) X.A (execs st X.env) (SP X pins D) X.xe s
theorem thn{α:Type}{t:Sem α}{Q Q':α->Shared->Prop}{M:Model}{A:Around}{E:Value->Shared->Prop}{s:Shared}(h:wpAny M A t Q E s)(hQ:∀a s,Q a s->Q' a s):wpAny M A t Q' E s:=wpAny_mono h hQ fun _ _ x=>x
section
variable{X:Cx}
def Zp3(i:Nat):TE:=fun σ H Q=>∃v,σ[i]?=some (some v)/\Q v H
def tC(v:V):TE:=fun _ H Q=>Q v H
theorem Ztt{i:Nat}{x:Str}{pos:Pos}(hN:X.N[i]?=some x)(hv:Vis X.env.scope x)(hd:(x==("__debug__":Str))=false:=by decide)(hcd:(x==("__classdict__":Str))=false:=by decide):PE X (.Name x pos) (Zp3 i):=by
 intro pins s σ H Q I h;obtain⟨v,e,h⟩:=h;obtain⟨m,b,d⟩:=I.loc;obtain⟨u,r,l⟩:=d i x v hN e hv;have a:EP X pins σ Q u s:=⟨v,H,I,r,h⟩;rcases l with⟨hk,hm⟩|⟨hk,c,hc,hcell⟩
 ·exact wpAny_Name (wpAny_loadName_local I.ok.kind hk b hm a) hd
 ·rcases hk with hk|hk
  ·exact wpAny_Name (wpAny_loadName_cell I.ok.kind hk hc hcell a) hd
  ·exact wpAny_Name (wpAny_loadName_free I.ok.kind hk hc hcell a hcd) hd
theorem Zad{i j pos}:PE X (.Constant (.int i) j pos) (tC (.int i)):=fun _ _ _ H _ I h=>wpAny_Constant_int ⟨.int i,H,I.tok _,⟨_,rfl⟩,h⟩
theorem Ze6{b j pos}:PE X (.Constant (.bool b) j pos) (tC (.bl b)):=fun _ _ _ H _ I h=>Constant_bool ⟨.bl b,H,I,rfl,h⟩
theorem Znx{j pos}:PE X (.Constant .none j pos) (tC .non):=fun _ _ _ H _ I h=>Constant_none ⟨.non,H,I,rfl,h⟩
theorem Zaj{x j pos}:PE X (.Constant (.str x) j pos) (tC (.str x)):=fun _ _ _ H _ I h=>Calls.Constant_str ⟨.str x,H,I.tok _,⟨_,rfl⟩,h⟩
def Gl(X:Cx)(x:Str):Prop:=X.env.kindOf x=some .globalImplicit
theorem Zdo{E:Value->Shared->Prop}{pins:List (Addr×Obj)}{s:Shared}{σ:St}{H:Hp}{x:Str}{u:Value}{pos:Pos}{Q:Value->Shared->Prop}(I:Inv X pins σ H s)(hg:Gl X x)(hm:X.mg x=some u)(h:Q u s)
  (hd:(x==("__debug__":Str))=false:=by decide):wpAny (model X.prog X.w) X.A (eval (.Name x pos) X.env) Q E s:=
 Calls.Name_function_global I.ok.kind hg (Calls.loadGlobal_global (by rw[I.ok.glob];exact I.mod.glob.keeps I.bk) hm h) hd
theorem Zjc{E:Value->Shared->Prop}{pins:List (Addr×Obj)}{s:Shared}{σ:St}{H:Hp}{x:Str}{u:Value}{pos:Pos}{Q:Value->Shared->Prop}(I:Inv X pins σ H s)(hg:Gl X x)(hm:X.mg x=none)(hv:bootBuiltins x=some u)(h:Q u s)
  (hn:x≠"__name__":=by decide) (hd:(x==("__debug__":Str))=false:=by decide):wpAny (model X.prog X.w) X.A (eval (.Name x pos) X.env) Q E s:=by
 obtain⟨a,h1,h2⟩:=I.mod.blt;exact Calls.Name_function_global I.ok.kind hg (Calls.loadGlobal_builtin (by rw[I.ok.glob];exact I.mod.glob.keeps I.bk) hm (by rw[I.ok.blt];exact h1.keeps I.bk) ((h2 x hn).trans hv) h) hd
theorem Zbs{x:Str}{v:V}{u:Value}{pos:Pos}(hg:Gl X x)(hm:X.mg x=some u)(r:RelV v u)(hd:(x==("__debug__":Str))=false:=by decide):PE X (.Name x pos) (tC v):=
 fun _ _ _ H _ I h=>Zdo I hg hm ⟨v,H,I,r,h⟩ hd
theorem Zex{x:Str}{v:V}{u:Value}{pos:Pos}(hg:Gl X x)(hm:X.mg x=none)(hv:bootBuiltins x=some u)(r:RelV v u)(hn:x≠"__name__":=by decide)(hd:(x==("__debug__":Str))=false:=by decide):PE X (.Name x pos) (tC v):=
 fun _ _ _ H _ I h=>Zjc I hg hm hv ⟨v,H,I,r,h⟩ hn hd
def t2I(ta tb:TE)(k:Int->Int->Hp->Prop):St->Hp->Prop:=fun σ H=>ta σ H fun x H1=>tb σ H1 fun y H2=>∃i j,x= .int i/\y= .int j/\k i j H2
variable{a b:Expr}{ta tb:TE}{pos:Pos}
def Zsq(p:Int->Int->Bool)(ta tb:TE):TE:=fun σ H Q=>t2I ta tb (fun i j H2=>Q (.bl (p i j)) H2) σ H
abbrev tLt:TE->TE->TE:=Zsq fun i j=>decide (i < j)
abbrev tLe:TE->TE->TE:=Zsq fun i j=>decide (i <=j)
abbrev tGt:TE->TE->TE:=Zsq fun i j=>decide (j < i)
abbrev tGe:TE->TE->TE:=Zsq fun i j=>decide (j <=i)
abbrev tEqI:TE->TE->TE:=Zsq fun i j=>decide (i=j)
abbrev tNeI:TE->TE->TE:=Zsq fun i j=> !decide (i=j)
def tB(t:TE):TT:=fun σ H Q=>t σ H fun x H1=>∃c,x= .bl c/\Q c H1
theorem Zby{e:Expr}{t:TE}(h:PE X e t)(he:∀whole,isTrue e X.env whole=(do let v <-whole;standAt e.pos;holding [v] (truthy v)):=by intro _;rfl):PT X e (tB t):=by
 intro pins s σ H Q I c;refine isTrue_plain (thn (h pins s σ H _ I c) fun v s1 ⟨x,H1,f,a,b⟩=>?_) (he _);obtain⟨d,rfl,q⟩:=b;cases a;exact wpAny_truthy_bool ⟨H1,f,q⟩
variable{tA tB':TT}{rest:List Expr}
def Zvd(t u:TT):TT:=fun σ H Q=>t σ H fun c H1=>if c=true then u σ H1 Q else Q false H1
def tOr(t u:TT):TT:=fun σ H Q=>t σ H fun c H1=>if c=true then Q true H1 else u σ H1 Q
def Zvc(t:TT):TT:=fun σ H Q=>t σ H fun c H1=>Q (!c) H1
theorem Znt(ha:PT X a tA):PW X (.BoolOp .And [a] pos) tA:=by
 intro b pins s σ H Q I h;refine isTrue_and (thn (ha pins s σ H Q I h) fun c s1 e=>?_);cases c with
 |true=>exact isTrue_and_nil e
 |false=>exact e
theorem Zea(ha:PT X a tA):PW X (.BoolOp .Or [a] pos) tA:=by
 intro b pins s σ H Q I h;refine isTrue_or (thn (ha pins s σ H Q I h) fun c s1 e=>?_);cases c with
 |false=>exact isTrue_or_nil e
 |true=>exact e
theorem Zqi(ha:PT X a tA)(hb:PW X (.BoolOp .And (b::rest) pos) tB'):PW X (.BoolOp .And (a::b::rest) pos) (Zvd tA tB'):=by
 intro f pins s σ H Q I h;refine isTrue_and (thn (ha pins s σ H _ I h) fun c s1 ⟨H1,e,d⟩=>?_);cases c with
 |true=>exact hb f pins s1 σ H1 Q e d
 |false=>exact⟨H1,e,d⟩
theorem Zew(ha:PT X a tA)(hb:PW X (.BoolOp .Or (b::rest) pos) tB'):PW X (.BoolOp .Or (a::b::rest) pos) (tOr tA tB'):=by
 intro f pins s σ H Q I h;refine isTrue_or (thn (ha pins s σ H _ I h) fun c s1 ⟨H1,e,d⟩=>?_);cases c with
 |true=>exact⟨H1,e,d⟩
 |false=>exact hb f pins s1 σ H1 Q e d
theorem Zca(ha:PT X a tA):PT X (.UnaryOp .Not a pos) (Zvc tA):=by
 intro pins s σ H Q I h;exact isTrue_not (ha pins s σ H (fun c H1=>Q (!c) H1) I h)
def Zq9(ta tb:TE):TE:=fun σ H Q=>ta σ H fun x H1=>∃c,x= .bl c/\if c=true then tb σ H1 Q else Q (.bl false) H1
def Zvb(ta tb:TE):TE:=fun σ H Q=>ta σ H fun x H1=>∃c,x= .bl c/\if c=true then Q (.bl true) H1 else tb σ H1 Q
def Zq1(ta:TE):TE:=fun σ H Q=>ta σ H fun x H1=>∃c,x= .bl c/\Q (.bl (!c)) H1
theorem Zde{op}{t:TE}(h:PE X a t):PE X (.BoolOp op [a] pos) t:=fun pins s σ H Q I b=>BoolOp_one (h pins s σ H Q I b)
theorem Zb5(ha:PE X a ta)(hb:PE X (.BoolOp .And (b::rest) pos) tb):PE X (.BoolOp .And (a::b::rest) pos) (Zq9 ta tb):=by
 intro pins s σ H Q I h;refine BoolOp_and (thn (ha pins s σ H _ I h) fun v s1 ⟨x,H1,e,f,d⟩=>?_);obtain⟨c,rfl,d⟩:=d;cases f;refine wpAny_truthy_bool ?_;cases c with
 |true=>exact hb pins s1 σ H1 Q e d
 |false=>exact⟨.bl false,H1,e,rfl,d⟩
theorem Ztu(ha:PE X a ta)(hb:PE X (.BoolOp .Or (b::rest) pos) tb):PE X (.BoolOp .Or (a::b::rest) pos) (Zvb ta tb):=by
 intro pins s σ H Q I h;refine BoolOp_or (thn (ha pins s σ H _ I h) fun v s1 ⟨x,H1,e,f,d⟩=>?_);obtain⟨c,rfl,d⟩:=d;cases f;refine wpAny_truthy_bool ?_;cases c with
 |false=>exact hb pins s1 σ H1 Q e d
 |true=>exact⟨.bl true,H1,e,rfl,d⟩
theorem Zql(ha:PE X a ta):PE X (.UnaryOp .Not a pos) (Zq1 ta):=by
 intro pins s σ H Q I h;refine UnaryOp_ (thn (ha pins s σ H _ I h) fun v s1 ⟨x,H1,e,d,b⟩=>?_);obtain⟨c,rfl,b⟩:=b;cases d;exact not_of (wpAny_truthy_bool ⟨.bl (!c),H1,e,rfl,b⟩)
def tIf(t:TT)(ta tb:TE):TE:=fun σ H Q=>t σ H fun c H1=>if c=true then ta σ H1 Q else tb σ H1 Q
theorem Zo4{c:Expr}(hc:PT X c tA)(ha:PE X a ta)(hb:PE X b tb):PE X (.IfExp c a b pos) (tIf tA ta tb):=by
 intro pins s σ H Q I h;refine wpAny_IfExp (thn (hc pins s σ H _ I h) fun d s1 ⟨H1,f,e⟩=>?_);cases d with
 |true=>exact ha pins s1 σ H1 Q f e
 |false=>exact hb pins s1 σ H1 Q f e
end
def SqL(K:W.Frag)(H:Hp)(a:Addr)(xs:List V):Prop:=
 Rd H a (.lst xs)\/
  ∃ (o:Obj) (its:Array Value) (n:Nat),K.lookup a=some o/\o.cls= .type "list"/\o.dict=none/\o.data= .seq its n/\its.size <=sizeLine/\Vals xs its.toList
def SqT(K:W.Frag)(H:Hp)(a:Addr)(xs:List V):Prop:=
 Rd H a (.tup xs)\/
  ∃ (o:Obj) (its:Array Value) (n:Nat),K.lookup a=some o/\o.cls= .type "tuple"/\o.data= .seq its n/\its.size <=sizeLine/\Vals xs its.toList
def Zwi:Value->Option V
 | .none=>some .non
 | .bool b=>some (.bl b)
 | .int i _=>some (.int i)
 | .str x _=>some (.str x)
 | .bytes b _=>some (.byt b)
 | .float b _=>some (.flt b)
 | .ref a=>some (.ref a)
 | .type n=>some (.ty n)
 |_=>none
theorem RelV.abs{x:V}{u:Value}(r:RelV x u):Zwi u=some x:=by
 cases x with
 |non=>cases r;rfl
 |bl _=>cases r;rfl
 |int _=>obtain⟨t,rfl⟩:=r;rfl
 |str _=>obtain⟨t,rfl⟩:=r;rfl
 |byt _=>obtain⟨t,rfl⟩:=r;rfl
 |flt _=>obtain⟨t,rfl⟩:=r;rfl
 |ref _=>cases r;rfl
 |ty _=>cases r;rfl
theorem RelV.inj{x y:V}{u:Value}(r:RelV x u)(q:RelV y u):x=y:=Option.some.inj (r.abs.symm.trans q.abs)
theorem Vals.inj:∀{xs ys:List V} {us:List Value},Vals xs us->Vals ys us->xs=ys
 |_,_,_,.nil,.nil=>rfl
 |_,_,_,.cons r t,.cons r' t'=>by rw[r.inj r',Vals.inj t t']
section
variable{X:Cx}{pins:List (Addr×Obj)}{σ:St}{H:Hp}{s:Shared}{a:Addr}{xs ys:List V}
theorem SqL.of{K:W.Frag}(h:H a=some (.lst xs)):SqL K H a xs:=.inl (.inl h)
theorem SqT.of{K:W.Frag}(h:H a=some (.tup xs)):SqT K H a xs:=.inl (.inl h)
theorem Inv.list(I:Inv X pins σ H s)(h:SqL X.K H a xs):∃its:List Value,Vals xs its/\PlainL s.heap a its.toArray/\xs.length <=sizeLine:=by
 rcases h with h|⟨o,its,n,hk,hc,hd,hs,hz,r⟩
 ·obtain⟨z,its,n,r,e⟩:=h.ok I.hok;exact⟨its,r,⟨_,n,e,rfl,rfl,rfl⟩,z⟩
 ·refine⟨its.toList,r,⟨o,n,I.kIn a o hk,hc,hd,by simpa using hs⟩,?_⟩;have e:=r.length;simp only[Array.length_toList]at e;omega
theorem Inv.tuple(I:Inv X pins σ H s)(h:SqT X.K H a xs):∃its:List Value,Vals xs its/\IsTup s.heap a its.toArray/\xs.length <=sizeLine:=by
 rcases h with h|⟨o,its,n,hk,hc,hs,hz,r⟩
 ·obtain⟨z,its,r,p⟩:=h.ok I.hok;exact⟨its,r,p,z⟩
 ·refine⟨its.toList,r,⟨o,I.kIn a o hk,hc,n,by simpa using hs⟩,?_⟩;have e:=r.length;simp only[Array.length_toList]at e;omega
theorem Inv.list_inj(I:Inv X pins σ H s)(h:SqL X.K H a xs)(h':SqL X.K H a ys):xs=ys:=by
 obtain⟨c,r,⟨o,n,e,_,_,d⟩,_⟩:=I.list h;obtain⟨b,i,⟨o',j,f,_,_,g⟩,_⟩:=I.list h';rw[e]at f;cases f;rw[d]at g;injection g with d1 _;have:c=b:=by simpa using congrArg Array.toList d1
 subst this;exact r.inj i
end
abbrev Cx.wish(X:Cx)(E:Value->Shared->Prop):Cx:={X with xe:=E}
abbrev Cx.nox(X:Cx):Cx:=X.wish fun _ _=>False
theorem Cx.Ok.wish{X:Cx}(ok:X.Ok)(E:Value->Shared->Prop):(X.wish E).Ok:=
 ⟨ok.mod,ok.kind,ok.glob,ok.blt,ok.above,ok.inj,ok.has,ok.cab,ok.hd,ok.frames,ok.stk,ok.exf,ok.bs,ok.bsz,ok.noex,ok.exfs,ok.funs,ok.frf⟩
theorem Cx.Ok.unwish{X:Cx}{E:Value->Shared->Prop}(ok:(X.wish E).Ok):X.Ok:=
 ⟨ok.mod,ok.kind,ok.glob,ok.blt,ok.above,ok.inj,ok.has,ok.cab,ok.hd,ok.frames,ok.stk,ok.exf,ok.bs,ok.bsz,ok.noex,ok.exfs,ok.funs,ok.frf⟩
section
variable{X:Cx}{pins:List (Addr×Obj)}{σ:St}{H:Hp}{s:Shared}{E:Value->Shared->Prop}
theorem Inv.wish(I:Inv X pins σ H s)(E:Value->Shared->Prop):Inv (X.wish E) pins σ H s:=⟨I.ok.wish E,I.os,I.bare,I.base,I.loc,I.cell,I.free,I.freeC,I.pin,I.hok,I.len⟩
theorem Inv.unwish(I:Inv (X.wish E) pins σ H s):Inv X pins σ H s:=⟨I.ok.unwish,I.os,I.bare,I.base,I.loc,I.cell,I.free,I.freeC,I.pin,I.hok,I.len⟩
theorem SP.unwish{D:Zmz}{f:Flow}{s':Shared}(h:SP (X.wish E) pins D f s'):SP X pins D f s':=by
 cases f with
 |next=>obtain⟨σ',H',I,q⟩:=h;exact⟨σ',H',I.unwish,q⟩
 |brk=>obtain⟨σ',H',I,q⟩:=h;exact⟨σ',H',I.unwish,q⟩
 |cont=>obtain⟨σ',H',I,q⟩:=h;exact⟨σ',H',I.unwish,q⟩
 |ret u=>obtain⟨v,σ',H',I,r,q⟩:=h;exact⟨v,σ',H',I.unwish,r,q⟩
theorem PSs.nox{st:List Stmt}{t:TS}(h:PSs X.nox st t):PSs X st t:=fun pins s σ H D I a=>
 wpAny_mono (h pins s σ H D (I.wish _) a) (fun _ _ q=>q.unwish) fun _ _ z=>False.elim z
end
section
variable{X:Cx}{st:Stmt}{rest:List Stmt}{t u:TS}{e:Expr}{te:TE}{pos:Pos}
def Zq2:TS:=fun D σ H=>D.nx σ H
def Zus(t u:TS):TS:=fun D σ H=>t {D with nx:=u D} σ H
theorem Za0:PSs X [] Zq2:=fun _ _ σ H _ I h=>wpAny_execs_nil ⟨σ,H,I,h⟩
theorem Zae(h1:PS X st t)(h2:PSs X rest u):PSs X (st::rest) (Zus t u):=by
 intro pins s σ H D I h;refine wpAny_execs_cons (thn (h1 pins s σ H {D with nx:=u D} I h) fun f s1 q=>?_);cases f with
 |next=>
  obtain⟨σ',H',a,q⟩:=q;exact h2 pins s1 σ' H' D a q
 |ret v=>exact q
 |brk=>exact q
 |cont=>exact q
theorem Zag(h1:PS X st t):PSs X [st] t:=by
 intro pins s σ H D I h;refine wpAny_execs_cons (thn (h1 pins s σ H D I h) fun f s1 q=>?_);cases f with
 |next=>exact wpAny_execs_nil q
 |ret v=>exact q
 |brk=>exact q
 |cont=>exact q
def Zp6:TS:=fun D σ H=>D.bk σ H
def Zs7:TS:=fun D σ H=>D.ct σ H
theorem Inv.quiet{pins:List (Addr×Obj)}{σ:St}{H:Hp}{s:Shared}(I:Inv X pins σ H s):interactive X.env=false:=by simp[interactive,I.ok.kind]
def Zq6(te:TE):TS:=fun D σ H=>te σ H fun _ H1=>D.nx σ H1
theorem Zkk(he:PE X e te)(hs:swapsWith e none pos.line X.env=pure false:=by rfl):PS X (.Expr e pos) (Zq6 te):=by
 intro pins s σ H D I h;exact wpAny_Expr_any (thn (he pins s σ H _ I h) fun v s1 ⟨x,H1,b,c,a⟩=>⟨σ,H1,b,a⟩) I.quiet hs
def Zva(te:TE):TS:=fun D σ H=>te σ H D.rt
theorem Zat(he:PE X e te):PS X (.Return (some e) pos) (Zva te):=by
 intro pins s σ H D I h;exact wpAny_Return_some (thn (he pins s σ H _ I h) fun v s1 ⟨x,H1,c,a,b⟩=>⟨x,σ,H1,c,a,b⟩)
def Zsy:TS:=fun D _ H=>D.rt .non H
def Zs3(c:TT)(t u:TS):TS:=fun D σ H=>c σ H fun b H1=>if b=true then t D σ H1 else u D σ H1
theorem Zbo{c:Expr}{a b:List Stmt}{tc:TT}(hc:PT X c tc)(ha:PSs X a t)(hb:PSs X b u):PS X (.If c a b pos) (Zs3 tc t u):=by
 intro pins s σ H D I h;refine wpAny_If (thn (hc pins s σ H _ I h) fun d s1 ⟨H1,f,e⟩=>?_);cases d with
 |true=>exact ha pins s1 σ H1 D f e
 |false=>exact hb pins s1 σ H1 D f e
end
abbrev TG:=V->St->Hp->(St->Hp->Prop)->Prop
abbrev TGs:=List V->St->Hp->(St->Hp->Prop)->Prop
def PG(X:Cx)(target:Expr)(t:TG):Prop:=
 ∀ (pins:List (Addr×Obj)) (s:Shared) (σ:St) (H:Hp) (v:V) (u:Value) (Q:St->Hp->Prop),Inv X pins σ H s->RelV v u->t v σ H Q->
  wpAny (model X.prog X.w) X.A (assign target X.env u) (fun _ s'=>∃σ' H',Inv X pins σ' H' s'/\Q σ' H') X.xe s
def PGs(X:Cx)(ts:List Expr)(t:TGs):Prop:=
 ∀ (pins:List (Addr×Obj)) (s:Shared) (σ:St) (H:Hp) (vs:List V) (us:List Value) (Q:St->Hp->Prop),Inv X pins σ H s->Vals vs us->t vs σ H Q->
  wpAny (model X.prog X.w) X.A (assignInOrder ((assignEach ts X.env).map (·.2)) us) (fun _ s'=>∃σ' H',Inv X pins σ' H' s'/\Q σ' H') X.xe s
abbrev Zu4:=V->V->V->Hp->(Hp->Prop)->Prop
def PSet(X:Cx)(t:Zu4):Prop:=
 ∀ (pins:List (Addr×Obj)) (s:Shared) (σ:St) (H:Hp) (o i v:V) (ov iv u:Value) (Q:Hp->Prop),Inv X pins σ H s->RelV o ov->RelV i iv->RelV v u->t o i v H Q->
  wpAny (model X.prog X.w) X.A (setItem ov iv u) (fun _ s'=>∃H',Inv X pins σ H' s'/\Q H') X.xe s
abbrev TIp:=V->V->Hp->VK->Prop
section
variable{X:Cx}{pos:Pos}
def Zk2(i:Nat):TG:=fun v σ H Q=>Q (σ.set i (some v)) H
theorem Zcj{i:Nat}{x:Str}(hN:X.N.Nodup)(hi:X.N[i]?=some x)(hx:Loc X.env.scope x)(hf:X.fn x=true\/X.env.scope.names.lookup x=some .local:=by first|exact .inl rfl|exact .inr rfl|assumption):PG X (.Name x pos) (Zk2 i):=by
 intro pins s σ H v u Q I r h;exact wpAny_assign_Name (Zfz I hN hi hx r (fun s' a=>⟨_,H,a,h⟩) hf)
def Zvp:TGs:=fun vs σ H Q=>vs=[]/\Q σ H
def Zsb(t:TG)(u:TGs):TGs:=fun vs σ H Q=>∃v r,vs=v::r/\t v σ H fun σ' H'=>u r σ' H' Q
theorem Zrs:PGs X [] Zvp:=by
 intro pins s σ H vs a Q I r h;obtain⟨e,h⟩:=h;subst e;cases r;exact assignInOrder_nil ⟨σ,H,I,h⟩
theorem Zl0{e:Expr}{es:List Expr}{t:TG}{u:TGs}(h1:PG X e t)(h2:PGs X es u)
  (hs:(assignEach (e::es) X.env).map (·.2)=assign e X.env::(assignEach es X.env).map (·.2):=by rfl):PGs X (e::es) (Zsb t u):=by
 intro pins s σ H vs f Q I r h;obtain⟨v,d,b,h⟩:=h;subst b;cases r with
 |cons r rr=>
  rw[hs];refine assignInOrder_cons (thn (h1 pins s σ H _ _ _ I r h) fun _ s1 ⟨σ1,H1,c,a⟩=>?_);exact h2 pins s1 σ1 H1 _ _ Q c rr a
def Zu3(K:W.Frag)(n:Nat)(t:TGs):TG:=fun v σ H Q=>∃a xs,v= .ref a/\SqT K H a xs/\xs.length=n/\t xs σ H Q
theorem Zts{es:List Expr}{k:Nat}{t:TGs}{n:Nat}(hc:X.calm=true)(h:PGs X es t)
  (hn:(assignEach es X.env).length=n:=by rfl) (hst:(assignEach es X.env).findIdx? (·.1)=none:=by rfl):PG X (.Tuple es k pos) (Zu3 X.K n t):=by
 intro pins s σ H v u Q I r c;obtain⟨a,xs,j,g,i,c⟩:=c;subst j;cases r;obtain⟨m,d,f,p⟩:=I.tuple g;refine assign_Tuple_tuple (I.ok.hd hc) f (by simp[hn,<-i,d.length]) hst fun h' hx=>?_
 have l:Inv X pins σ H {s with heap:=h'}:=I.kept (t':=s.toks) fun b o e=>hx b o (Nat.ne_of_lt (Heap.lt_size e)) e
 exact h pins _ σ H xs _ Q l (by simpa using d) c
def Zvo(to ti:TE)(t:Zu4):TG:=fun v σ H Q=>to σ H fun o H1=>ti σ H1 fun i H2=>t o i v H2 fun H3=>Q σ H3
theorem Zfv{o i:Expr}{to ti:TE}{t:Zu4}(ho:PE X o to)(hi:PE X i ti)(hs:PSet X t)
  (ha : ∀ v, assign (.Subscript o i pos) X.env v = (do
   let ov <-holding [v] (eval o X.env)
   let iv <-holding [v,ov] (eval i X.env)
   standAt pos
   holding [v,ov,iv] (setItem ov iv v)
   release [v, ov, iv] []) := by intro _; rfl) : PG X (.Subscript o i pos) (Zvo to ti t) := by
 intro pins s σ H v u Q I r h;rw[ha];refine wpAny_bind (wpAny_holding (thn (ho pins s σ H _ I h) fun ov s1 ⟨x,H1,j,b,e⟩=>?_));refine wpAny_bind (wpAny_holding (thn (hi pins s1 σ H1 _ j e) fun iv s2 ⟨y,H2,g,a,d⟩=>?_));refine wpAny_bind (wpAny_standAt (wpAny_bind (wpAny_holding (thn (hs pins s2 σ H2 x y v ov iv u _ g b a r d) fun _ l ⟨k,f,c⟩=>?_))));exact wpAny_release ⟨σ,k,f,c⟩
def Zuw(te:TE)(g:TG):TS:=fun D σ H=>te σ H fun x H1=>g x σ H1 D.nx
theorem Zgg{tg e:Expr}{te:TE}{g:TG}(he:PE X e te)(hg:PG X tg g)(hs:swapsWithSole [tg] e pos.line X.env=pure false:=by rfl)(hw:swappedStores [tg] e X.env=pure none:=by rfl)
  (h1:(assignEach [tg] X.env).map (·.2)=[assign tg X.env]:=by rfl):PS X (.Assign [tg] e pos) (Zuw te g):=by
 intro pins s σ H D I h;refine wpAny_Assign_stores (thn (he pins s σ H _ I h) fun v s1 ⟨x,H1,c,a,b⟩=>?_) hs hw;rw[h1];exact thn (hg pins s1 σ H1 x v _ c a b) fun _ s2 q=>q
theorem Zav{i:Nat}{x:Str}{e:Expr}{te:TE}{pos':Pos}(hN:X.N.Nodup)(hi:X.N[i]?=some x)(hx:Loc X.env.scope x)(he:PE X e te)(hs:swapsWith e (some (.Name x pos')) pos.line X.env=pure false:=by rfl)(hf:X.fn x=true\/X.env.scope.names.lookup x=some .local:=by first|exact .inl rfl|exact .inr rfl|assumption):
  PS X (.Assign [.Name x pos'] e pos) (Zuw te (Zk2 i)):=by
 intro pins s σ H D I h;refine wpAny_Assign_Name (thn (he pins s σ H _ I h) fun v s1 ⟨y,H1,d,a,b⟩=>?_) hs;exact Zfz d hN hi hx a (fun s2 c=>⟨_,H1,c,b⟩) hf
end
structure It where
 go:Nat->Hp->Prop
 yld:Nat->Hp->V->Hp->Prop
 stop:Nat->Hp->Prop
def FpOk(X:Cx)(pins:List (Addr×Obj))(H:Hp)(b:Addr):Prop:=
 H b=none/\b≠X.env.locals/\b∉X.fs/\(b∈X.ex\/X.s₀.heap.objs.size <=b)/\(∀x c,X.env.cells.lookup x=some c->c≠b)/\∀p∈X.pn++pins,p.1≠b
theorem Inv.fpOk{X:Cx}{pins:List (Addr×Obj)}{σ:St}{H H':Hp}{s:Shared}{b:Addr}(I:Inv X pins σ H s)(hb:s.heap.objs.size <=b)(hn:H' b=none):FpOk X pins H' b:=by
 refine⟨hn,Nat.ne_of_gt (Nat.lt_of_lt_of_le I.lt hb),I.nofs hb,.inr (Nat.le_trans I.sz hb),fun x c e z=>?_,fun p a z=>?_⟩
 ·obtain⟨v,q⟩:=I.cell x c e;exact absurd (Nat.lt_of_lt_of_le q.lt (by rw[z];exact hb)) (Nat.lt_irrefl _)
 ·exact absurd (Nat.lt_of_lt_of_le (Heap.lt_size (I.pin p a).1) (by rw[z];exact hb)) (Nat.lt_irrefl _)
structure Zss(P:Program)(w:World)(K:W.Frag)(tg:Expr)(J:It)(fp:List Addr)(it:Addr)(tn:Nat->Heap->Prop):Prop where
 mem:it∈fp
 obj:∀i h,tn i h->∀b∈fp,∃o,h.get? b=some o/\∀v,o.data≠ .cell v
 keep:∀i h h',tn i h->(∀b∈fp,∀o,h.get? b=some o->h'.get? b=some o)->tn i h'
 item:∀ (X:Cx),X.prog=P->X.w=w->X.K=K->X.calm=true->∀ (i:Nat) (pins:List (Addr×Obj)) (s:Shared) (σ:St) (H:Hp) (E:Value->Shared->Prop),Inv X pins σ H s->(∀b∈fp,FpOk X pins H b)->tn i s.heap->J.go i H->
  wpAny (model P w) X.A (pyNext (.ref it)) (fun r s1 => ∃ u, r = some u /\
   wpAny (model P w) X.A (letOwnedTupleGo tg (.ref it) u) (fun _ s2 => ∃ x H', Inv X pins σ H' s2 /\ RelV x u /\ J.yld i H x H' /\ tn (i + 1) s2.heap /\ ∀ b ∈ fp, H' b = none) E s1) E s
 done:∀ (X:Cx),X.prog=P->X.w=w->X.K=K->X.calm=true->∀ (i:Nat) (pins:List (Addr×Obj)) (s:Shared) (σ:St) (H:Hp) (E:Value->Shared->Prop),Inv X pins σ H s->(∀b∈fp,FpOk X pins H b)->tn i s.heap->J.stop i H->
  wpAny (model P w) X.A (pyNext (.ref it)) (fun r s1=>r=none/\Inv X pins σ H s1) E s
 self:∀ (A:Around) (i:Nat) (s:Shared) (Q:Value->Shared->Prop) (E:Value->Shared->Prop),tn i s.heap->Q (.ref it) s->wpAny (model P w) A (pyIter (.ref it)) Q E s
abbrev TI:=St->Hp->(It->Hp->Prop)->Prop
def PIE(X:Cx)(pins:List (Addr×Obj))(σ:St)(tg:Expr)(R:It->Hp->Prop)(itv:Value)(s2:Shared):Prop:=
 ∃ (it:Addr) (fp:List Addr) (tn:Nat->Heap->Prop) (J:It) (H':Hp),itv= .ref it/\Inv X pins σ H' s2/\Zss X.prog X.w X.K tg J fp it tn/\tn 0 s2.heap/\(∀b∈fp,FpOk X pins H' b)/\R J H'
def PI(X:Cx)(tg iter:Expr)(wi:TI):Prop:=
 ∀ (pins:List (Addr×Obj)) (s:Shared) (σ:St) (H:Hp) (R:It->Hp->Prop),Inv X pins σ H s->wi σ H R->
  wpAny (model X.prog X.w) X.A (eval iter X.env) (fun v s1=>wpAny (model X.prog X.w) X.A (pyIter v) (PIE X pins σ tg R) X.xe s1) X.xe s
theorem Zpo{M:Model}{A:Around}{E:Value->Shared->Prop}{s:Shared}{tg:Expr}{it:Addr}{u:Value}{o:Obj}{n:String}{vs:Array Value}{Q:Unit->Shared->Prop}(ho:s.heap.get? it=some o)(hc:o.cls= .type n)(hd:o.data= .fields vs)
    (hn:["enumerate","zip","dict_itemiterator","dict_reverseitemiterator","odict_iterator","itertools.zip_longest","itertools.pairwise"].contains n=false) (hQ:Q () s):wpAny M A (letOwnedTupleGo tg (.ref it) u) Q E s:=by
  unfold letOwnedTupleGo
  cases tg <;> first
    |exact wpAny_pure hQ
    | (cases u <;> first
        |exact wpAny_pure hQ
        | (refine wpAny_bind (wpAny_load ho ?_)
           rw[hc,hd]
           show wpAny M A (if(["enumerate","zip","dict_itemiterator","dict_reverseitemiterator","odict_iterator","itertools.zip_longest","itertools.pairwise"].contains n && vs[0]?==some (rawInt _))=true then _ else _) Q E s
           rw[if_neg (by intro h;rw[hn,Bool.false_and]at h;cases h)]
           exact wpAny_pure hQ))
def Itl(K:W.Frag)(a:Addr):It:=
 ⟨fun i H=>∃xs x,SqL K H a xs/\xs[i]?=some x,fun i H x H'=>H'=H/\∀xs,SqL K H a xs->xs[i]?=some x,fun i H=>∃xs,SqL K H a xs/\xs.length <=i⟩
def Itr(lo:Int)(n:Nat):It:=⟨fun i _=>i < n,fun i H x H'=>H'=H/\x= .int (lo+ i),fun i _=>n <=i⟩
theorem Zm1{P:Program}{w:World}{K:W.Frag}{tg:Expr}(a it:Addr):Zss P w K tg (Itl K a) [it] it (fun i h=>h.IsListIter it a i) where
 mem:=by simp
 obj:=fun i h st b f=>by
  have e:b=it:=by simpa using f
  subst e;obtain⟨o,e,c,d⟩:=st;exact⟨o,e,fun v z=>by rw[d]at z;cases z⟩
 keep:=fun i h h' st k=>st.at fun o e=>k it (by simp) o e
 item:=by
  intro X r n t hc i pins s σ H E I j st q;subst r n t;obtain⟨xs,x,g,hx⟩:=q;obtain⟨its,m,p,hz⟩:=I.list g;obtain⟨u,hu,ru⟩:=m.get hx;obtain⟨f0,f1,f2,f3,f4,y⟩:=j it (by simp);refine wpAny_pyNext_list_item st p.isList (x:=u) (by simpa using hu) fun h' l sb=>?_
  have I1:Inv X pins σ H {s with heap:=h'}:=I.turned (t':=s.toks) (fun b o f e=>(sb.2 b f).trans e) f0 f1 f3 f4 y;obtain⟨o,e,c,d⟩:=id l;exact⟨u,rfl,Zpo (s:={s with heap:=h'}) e c d (by decide) ⟨x,H,I1,ru,⟨rfl,fun ys hy=>by rw[I.list_inj hy g];exact hx⟩,l,fun b f=>(j b f).1⟩⟩
 done:=by
  intro X r n t hc i pins s σ H E I j st q;subst r n t;obtain⟨xs,g,hx⟩:=q;obtain⟨its,m,p,hz⟩:=I.list g;obtain⟨f0,f1,f2,f3,f4,y⟩:=j it (by simp);have hl:=m.length;exact wpAny_pyNext_list_end (I.ok.hd hc) st p.isList (by simp;omega) fun h' eb=>⟨rfl,I.turned (t':=s.toks) (fun b o f e=>eb b o f e) f0 f1 f3 f4 y⟩
 self:=fun _ _ _ _ _ st h=>wpAny_pyIter_listiter st h
theorem Zmd{P:Program}{w:World}{K:PySem.W.Frag}{tg:Expr}(it:Addr)(lo:Int)(n:Nat):Zss P w K tg (Itr lo n) [it] it (fun i h=>IsRangeIter h it (lo+ (i:Nat)*1) ((n:Int) - (i:Nat)) 1) where
 mem:=by simp
 obj:=fun i h st b a=>by
  have e:b=it:=by simpa using a
  subst e;exact ⟨_, st, fun v z => by
   have y : Data.fields _ = Data.cell v := z;cases y⟩
 keep:=fun i h h' st k=>k it (by simp) _ st
 item:=by
  intro X l f m j i pins s σ H E I c st g;subst l f m;obtain⟨x,u,f2,r,q,p⟩:=c it (by simp);have W:=Walks.range (prog:=X.prog) (w:=X.w) (I.ok.hd j) it lo 1 n;refine W.item i s _ _ g st fun v h' tk hv d kk=>?_
  obtain⟨t,rfl⟩:=hv;have I1:Inv X pins σ H {s with heap:=h',toks:=tk}:=I.turned (fun b o a e=>kk b o (by simpa using a) e) x u r q p;refine⟨_,rfl,Zpo (s:={s with heap:=h',toks:=tk}) (n:="range_iterator") d rfl rfl (by decide) ⟨.int (lo+ i),H,I1,⟨t,?_⟩,⟨rfl,rfl⟩,d,fun b a=>(c b a).1⟩⟩;rw[Int.mul_one]
 done:=by
  intro X l f m j i pins s σ H E I c st g;subst l f m;obtain⟨x,u,f2,r,q,p⟩:=c it (by simp);exact wpAny_pyNext_range_end (I.ok.hd j) st (by have:n <=i:=g;omega) fun h' eb=>⟨rfl,I.turned (t':=s.toks) (fun b o a e=>eb b o a e) x u r q p⟩
 self:=fun _ _ _ _ _ st h=>wpAny_pyIter_rangeiter st h
section
variable{X:Cx}{tg:Expr}
def Zpk(K:W.Frag)(tl:TE):TI:=fun σ H R=>tl σ H fun x H1=>∃a,x= .ref a/\(∃xs,SqL K H1 a xs)/\R (Itl K a) H1
theorem Zrr{l:Expr}{tl:TE}(hl:PE X l tl):PI X tg l (Zpk X.K tl):=by
 intro pins s σ H R I h;refine thn (hl pins s σ H _ I h) fun v s1 ⟨x,H1,c,d,f⟩=>?_
 obtain⟨a,e,⟨xs,g⟩,q⟩:=f;subst e;cases d;obtain⟨j,k,p,m⟩:=c.list g;refine wpAny_pyIter_list p.isList ?_;refine⟨s1.heap.objs.size,[s1.heap.objs.size],_,_,H1,rfl,c.kept (t':=s1.toks) fun b o e=>Heap.get?_push_of_some _ e,Zm1 a _,⟨_,Heap.get?_push_size _ rfl,rfl,rfl⟩,fun b i=>?_,q⟩;have e:b=s1.heap.objs.size:=by simpa using i
 subst e;exact c.fpOk (Nat.le_refl _) (c.hok.fresh (Nat.le_refl _))
theorem Zo0{pins:List (Addr×Obj)}{σ:St}{H:Hp}{s:Shared}{R:It->Hp->Prop}{E:Value->Shared->Prop}{lo hi:Int}{t u v:Tok}{tk:Nat}(I:Inv X pins σ H s)(h1: -(2 ^ 62) <=lo)(h2:lo < 2 ^ 62)(h3: -(2 ^ 62) <=hi)(h4:hi < 2 ^ 62)
  (q:R (Itr lo (hi - lo).toNat) H):wpAny (model X.prog X.w) X.A (pyIter (.ref s.heap.objs.size)) (PIE X pins σ tg R) E {s with heap:=s.heap.push {cls:=.type "range",data:=.fields #[.int lo t,.int hi u,.int 1 v]},toks:=tk}:=by
 refine wpAny_pyIter_range (IsRange.new ..) (small_one h1 h2 h3 h4) ?_;have a:Inv X pins σ H {s with heap:=s.heap.push {cls:=.type "range",data:=.fields #[.int lo t,.int hi u,.int 1 v]},toks:=tk}:=I.kept fun b o e=>Heap.get?_push_of_some _ e
 refine ⟨(s.heap.push { cls := .type "range", data := .fields #[.int lo t, .int hi u, .int 1 v] }).objs.size, [(s.heap.push { cls := .type "range", data := .fields #[.int lo t, .int hi u, .int 1 v] }).objs.size], _, _, H, rfl,
  a.kept (t' := tk) fun b o e => Heap.get?_push_of_some _ e, Zmd _ lo (hi - lo).toNat, ?_, fun b c => ?_, q⟩
 ·have f:lo+ ((0:Nat):Int)*1=lo:=by simp
  have d:(((hi - lo).toNat:Nat):Int) - ((0:Nat):Int)=Builtin.Range.rangeSize lo hi 1:=by rw[rangeSize_one];split <;> omega
  show IsRangeIter _ _ (lo+ ((0:Nat):Int)*1) ((((hi - lo).toNat:Nat):Int) - ((0:Nat):Int)) 1;rw[f,d];exact Heap.get?_push_size _ rfl
 ·have e:b=(s.heap.push {cls:=.type "range",data:=.fields #[.int lo t,.int hi u,.int 1 v]}).objs.size:=by simpa using c
  subst e;exact a.fpOk (Nat.le_refl _) (a.hok.fresh (Nat.le_refl _))
def Zr8(ta:TA):TI:=fun σ H R=>ta σ H fun vs H1=>∃j:Int,vs=[.int j]/\ -(2 ^ 62) <=j/\j < 2 ^ 62/\R (Itr 0 j.toNat) H1
def Zuj(ta:TA):TI:=fun σ H R=>ta σ H fun vs H1=>∃i j:Int,vs=[.int i,.int j]/\(-(2 ^ 62) <=i/\i < 2 ^ 62/\ -(2 ^ 62) <=j/\j < 2 ^ 62)/\R (Itr i (j - i).toNat) H1
theorem Ze5{a:Expr}{ta:TA}{p pos:Pos}(hg:Gl X "range")(hm:X.mg "range"=none)(ha:PA X [a] ta)(hs:starEach [a] X.env=[(false,eval a X.env)]:=by rfl):PI X tg (.Call (.Name "range" p) [a] [] pos) (Zr8 ta):=by
 intro pins s σ H R I h;refine Call_ (Zjc I hg hm boot_range (PyProof.Rows.callWith_type1 (thn (ha pos pins s σ H _ I h) fun g s1 ⟨vs,H1,f,c,b⟩=>?_) hs rfl));obtain⟨j,e,b,d,q⟩:=b;subst e;cases c with
 |cons r rr=>
  cases rr;obtain⟨t,rfl⟩:=r;exact call_range_1 (Zo0 f (by omega) (by omega) b d (by simpa using q))
def Zv1(wi:TI)(g:TG)(tb:TS):TS:=fun D σ H=>wi σ H fun J H1=>∃W:Nat->Nat->St->Hp->Prop,(∃m,W 0 m σ H1)/\∀i m σ H,W i m σ H->
 (J.stop i H/\D.nx σ H)\/(J.go i H/\∃N:St->Hp->Prop,(∀σ' H',N σ' H'->∃m',m' < m/\W (i+ 1) m' σ' H')/\∀x H',J.yld i H x H'->g x σ H' fun σ2 H2=>tb {D with nx:=N,ct:=N,bk:=D.nx} σ2 H2)
def Ziz(fp:List Addr)(h:Heap):List (Addr×Obj):=fp.filterMap fun b=>(h.get? b).map fun o=>(b,o)
theorem Zeh{fp:List Addr}{h:Heap}{b:Addr}{o:Obj}(hb:b∈fp)(e:h.get? b=some o):(b,o)∈Ziz fp h:=List.mem_filterMap.mpr ⟨b,hb,by rw[e];rfl⟩
theorem Zn4{fp:List Addr}{h:Heap}{p:Addr×Obj}(hp:p∈Ziz fp h):p.1∈fp/\h.get? p.1=some p.2:=by
 obtain⟨b,a,e⟩:=List.mem_filterMap.mp hp;cases q:h.get? b with
 |none=>rw[q]at e;cases e
 |some o=>
  rw[q]at e;have c:(b,o)=p:=Option.some.inj e;subst c;exact⟨a,q⟩
theorem Inv.pinned{pins:List (Addr×Obj)}{σ:St}{H:Hp}{s:Shared}{fp:List Addr}(I:Inv X pins σ H s)(hf:∀b∈fp,FpOk X pins H b)(ho:∀b∈fp,∃o,s.heap.get? b=some o/\∀v,o.data≠ .cell v):Inv X (pins++Ziz fp s.heap) σ H s:=
 I.pins_of fun p f=>(List.mem_append.mp f).elim (fun z=>I.pin p (List.mem_append_right _ z)) fun z=>by
  obtain⟨a,e⟩:=Zn4 z;obtain⟨i,h,g,_⟩:=hf p.1 a;obtain⟨o,c,d⟩:=ho p.1 a;rw[e]at c;cases c;exact⟨e,i,h,g,d⟩
theorem Inv.unpinned{pins pl:List (Addr×Obj)}{σ:St}{H:Hp}{s:Shared}(I:Inv X (pins++pl) σ H s):Inv X pins σ H s:=I.pins_of fun p a=>I.pin p (List.mem_append_right _ (List.mem_append_left _ a))
theorem Zqj{iter:Expr}{body:List Stmt}{wi:TI}{g:TG}{tb:TS}{pos:Pos}(hp:PassesOwn (model X.prog X.w) X.A X.env X.xe)(hc:X.calm=true)(hi:PI X tg iter wi)(hg:PG X tg g)(hb:PSs X body tb)
  (hs:∀x,foldedSetIterable iter X.env x=pure x:=by intro _;rfl):PS X (.For tg iter body [] pos) (Zv1 wi g tb):=by
 intro pins s σ H D I h;refine wpAny_For (thn (hi pins s σ H _ I h) fun v s1 h1=>thn h1 fun itv s2 h2=>?_) hs;obtain⟨it,fp,tn,J,H2,e,I2,T,st2,f2,W,⟨m0,w0⟩,aa⟩:=h2;subst e
 -- what stays true of the iterator's objects through the loop
 have k:∀{H':Hp},(∀b∈fp,H' b=none)->∀b∈fp,FpOk X pins H' b:=fun hn b hb=>⟨hn b hb,(f2 b hb).2⟩
 refine codeAny_forLoop_any (fun n s'=>∃i σ' H',Inv X pins σ' H' s'/\tn i s'.heap/\(∀b∈fp,H' b=none)/\W i n σ' H') ?_ m0 ⟨0,σ,H2,I2,st2,fun b hb=>(f2 b hb).1,w0⟩;rintro n s3 ⟨i,σ3,t,I3,y,z,w3⟩;rcases aa i n σ3 t w3 with⟨stop,qn⟩|⟨go,N,hN,step⟩
 ·refine wpAny_passesOwn hp (thn (T.done X rfl rfl rfl hc i pins s3 σ3 t X.xe I3 (k z) y stop) fun r s4 ⟨hr,I4⟩=>?_);subst hr;exact wpAny_execs_nil ⟨σ3,t,I4,qn⟩
 ·refine wpAny_passesOwn hp (thn (T.item X rfl rfl rfl hc i pins s3 σ3 t X.xe I3 (k z) y go) fun r s4 ⟨u,hr,h4⟩=>?_);subst hr;refine wpAny_passesOwn hp (thn h4 fun _ s5 ⟨x,H5,I5,r5,y5,p,fr5⟩=>?_);have I5':=I5.pinned (k fr5) (T.obj _ _ p);refine wpAny_passesOwn hp (thn (hg _ s5 σ3 H5 x u _ I5' r5 (step x H5 y5)) fun _ s6 ⟨σ6,H6,I6,q6⟩=>?_);refine wpAny_passesOwn hp (thn (hb _ s6 σ6 H6 _ I6 q6) fun f s7 j=>?_);have l:∀{σ7:St} {c:Hp},Inv X (pins++Ziz fp s5.heap) σ7 c s7->N σ7 c->∃m,m < n/\∃i σ' H',Inv X pins σ' H' s7/\tn i s7.heap/\(∀b∈fp,H' b=none)/\W i m σ' H':=fun {σ7 c} a q=>by
   obtain⟨m',hm,w7⟩:=hN σ7 c q;refine⟨m',hm,i+ 1,σ7,c,a.unpinned,T.keep _ _ _ p fun b hb o e=>(a.pin (b,o) (List.mem_append_right _ (List.mem_append_right _ (Zeh hb e)))).1,fun b hb=>?_,w7⟩;obtain⟨o,e,d⟩:=T.obj _ _ p b hb;exact(a.pin (b,o) (List.mem_append_right _ (List.mem_append_right _ (Zeh hb e)))).2.1
  cases f with
  |next=>obtain⟨σ7,c,a,q⟩:=j;exact l a q
  |cont=>obtain⟨σ7,c,a,q⟩:=j;exact l a q
  |brk=>obtain⟨σ7,c,a,j⟩:=j;exact⟨σ7,c,a.unpinned,j⟩
  |ret v=>obtain⟨x7,σ7,c,a,r7,j⟩:=j;exact⟨x7,σ7,c,a.unpinned,r7,j⟩
end
theorem Zoi{lo:Int}{n:Nat}{g:TG}{tb:TS}{D:Zmz}{σ:St}{H:Hp}(Pv:Nat->St->Hp->Prop)(h0:Pv 0 σ H)
  (hs:∀i σ H,i < n->Pv i σ H->g (.int (lo+ i)) σ H fun σ2 H2=>tb {D with nx:=Pv (i+ 1),ct:=Pv (i+ 1),bk:=D.nx} σ2 H2) (hd:∀σ H,Pv n σ H->D.nx σ H):
  ∃W:Nat->Nat->St->Hp->Prop,(∃m,W 0 m σ H)/\∀i m σ H,W i m σ H->
   ((Itr lo n).stop i H/\D.nx σ H)\/((Itr lo n).go i H/\∃N:St->Hp->Prop,(∀σ' H',N σ' H'->∃m',m' < m/\W (i+ 1) m' σ' H')/\∀x H',(Itr lo n).yld i H x H'->g x σ H' fun σ2 H2=>tb {D with nx:=N,ct:=N,bk:=D.nx} σ2 H2):=by
 refine⟨fun i m σ H=>m=n - i/\i <=n/\Pv i σ H,⟨n,by simp,Nat.zero_le _,h0⟩,?_⟩;rintro i m σ H ⟨rfl,hi,p⟩
 by_cases hlt:i < n
 ·refine .inr ⟨hlt,Pv (i+ 1),fun σ' H' a=>⟨n - (i+ 1),by omega,rfl,hlt,a⟩,fun x H' y=>?_⟩;obtain⟨e,y⟩:=y;subst e y;exact hs i σ _ hlt p
 ·have e:i=n:=by omega
  subst e;exact .inl ⟨Nat.le_refl _,hd σ H p⟩
abbrev R2:=V->V->Hp->VK->Prop
def OpR(X:Cx)(f:Value->Value->Sem Value)(r:R2):Prop:=
 ∀ (pins:List (Addr×Obj)) (s:Shared) (σ:St) (H:Hp) (x y:V) (v u:Value) (Q:VK),Inv X pins σ H s->RelV x v->RelV y u->r x y H Q->
  wpAny (model X.prog X.w) X.A (f v u) (EP X pins σ Q) X.xe s
def Zd4(X:Cx)(f:Value)(r:List V->Hp->VK->Prop):Prop:=
 ∀ (pins:List (Addr×Obj)) (s:Shared) (σ:St) (H:Hp) (xs:List V) (us:List Value) (Q:VK),Inv X pins σ H s->Vals xs us->r xs H Q->
  wpAny (model X.prog X.w) X.A (call f us) (EP X pins σ Q) X.xe s
def tOp(r:R2)(ta tb:TE):TE:=fun σ H Q=>ta σ H fun x H1=>tb σ H1 fun y H2=>r x y H2 Q
def tUn(r:V->Hp->VK->Prop)(ta:TE):TE:=fun σ H Q=>ta σ H fun x H1=>r x H1 Q
def rI(C:Int->Int->Prop)(g:Int->Int->V):R2:=fun x y H Q=>∃i j,x= .int i/\y= .int j/\C i j/\Q (g i j) H
def rI0(g:Int->Int->V):R2:=fun x y H Q=>∃i j,x= .int i/\y= .int j/\Q (g i j) H
def rU(g:Int->V):V->Hp->VK->Prop:=fun x H Q=>∃i,x= .int i/\Q (g i) H
section
variable{X:Cx}{a b c:Expr}{ta tb tc:TE}{pos:Pos}
theorem Zvt(ha:PE X a ta)(hb:PE X b tb){pins:List (Addr×Obj)}{s:Shared}{σ:St}{H:Hp}{R:V->V->Hp->Prop}(I:Inv X pins σ H s)
  (h:ta σ H fun x H1=>tb σ H1 fun y H2=>R x y H2) {Q:Value->Shared->Prop} {f:Value->Value->Sem Value}
  (hf:∀v u s2 x y H2,Inv X pins σ H2 s2->RelV x v->RelV y u->R x y H2->wpAny (model X.prog X.w) X.A (f v u) Q X.xe s2):
  wpAny (model X.prog X.w) X.A (eval a X.env) (fun v s₁=>wpAny (model X.prog X.w) X.A (eval b X.env) (fun u s₂=>wpAny (model X.prog X.w) X.A (f v u) Q X.xe s₂) X.xe s₁) X.xe s:=by
 refine thn (ha pins s σ H _ I h) fun v s1 ⟨x,H1,j,d,g⟩=>?_
 refine thn (hb pins s1 σ H1 _ j g) fun u s2 ⟨y,H2,i,c,e⟩=>?_
 exact hf v u s2 x y H2 i d c e
theorem Za1{op:Operator}{r:R2}(ho:OpR X (binaryOp op) r)(ha:PE X a ta)(hb:PE X b tb):PE X (.BinOp a op b pos) (tOp r ta tb):=by
 intro pins s σ H Q I h;exact wpAny_BinOp (Zvt ha hb I h fun v u s2 x y H2 e d c q=>ho pins s2 σ H2 x y v u Q e d c q)
theorem opI{f:Value->Value->Sem Value}{C:Int->Int->Prop}{g:Int->Int->Int}
  (rule:∀ (i j:Int) (t u:Tok) (s:Shared) (Q:Value->Shared->Prop) (E:Value->Shared->Prop),C i j->Q (.int (g i j) s.toks) {s with toks:=s.toks+ 1}->wpAny (model X.prog X.w) X.A (f (.int i t) (.int j u)) Q E s):
  OpR X f (rI C fun i j=>.int (g i j)):=by
 intro pins s σ H x y v u Q I c b h;obtain⟨i,j,rfl,rfl,d,q⟩:=h;obtain⟨t,rfl⟩:=c;obtain⟨a,rfl⟩:=b;exact rule i j t a s _ _ d ⟨.int (g i j),H,I.tok _,⟨_,rfl⟩,q⟩
theorem Zwd{f:Value->Value->Sem Value}{g:Int->Int->Int}
  (rule:∀ (i j:Int) (t u:Tok) (s:Shared) (Q:Value->Shared->Prop) (E:Value->Shared->Prop),Q (.int (g i j) s.toks) {s with toks:=s.toks+ 1}->wpAny (model X.prog X.w) X.A (f (.int i t) (.int j u)) Q E s):
  OpR X f (rI0 fun i j=>.int (g i j)):=by
 intro pins s σ H x y v u Q I c b h;obtain⟨i,j,rfl,rfl,q⟩:=h;obtain⟨t,rfl⟩:=c;obtain⟨a,rfl⟩:=b;exact rule i j t a s _ _ ⟨.int (g i j),H,I.tok _,⟨_,rfl⟩,q⟩
theorem Zu2{f:Value->Value->Sem Value}{g:Int->Int->Bool}
  (rule:∀ (i j:Int) (t u:Tok) (s:Shared) (Q:Value->Shared->Prop) (E:Value->Shared->Prop),Q (.bool (g i j)) s->wpAny (model X.prog X.w) X.A (f (.int i t) (.int j u)) Q E s):
  OpR X f (rI0 fun i j=>.bl (g i j)):=by
 intro pins s σ H x y v u Q I c b h;obtain⟨i,j,rfl,rfl,q⟩:=h;obtain⟨t,rfl⟩:=c;obtain⟨a,rfl⟩:=b;exact rule i j t a s _ _ ⟨.bl (g i j),H,I,rfl,q⟩
def CMul(i j:Int):Prop:=(-(2 ^ 64) < i/\i < 2 ^ 64)\/(-(2 ^ 64) < j/\j < 2 ^ 64)
theorem CMul.ok{i j:Int}(h:CMul i j):IntMulOk i j:=by
 rcases h with⟨h1,h2⟩|⟨h1,h2⟩
 ·exact .of_left (intBits_le_64 h1 h2)
 ·exact .of_right (intBits_le_64 h1 h2)
theorem Zb9:OpR X (binaryOp .Add) (rI0 fun i j=>.int (i+ j)):=Zwd fun _ _ _ _ _ _ _ q=>add_int q
theorem Ze7:OpR X (binaryOp .Mult) (rI CMul fun i j=>.int (i*j)):=opI fun _ _ _ _ _ _ _ a q=>mul_int q a.ok
theorem Zdg:OpR X (binaryOp .Mod) (rI (fun _ j=>0 < j) fun i j=>.int (i%j)):=opI fun i j _ _ _ _ _ a q=>by
 have h1:(0:Int) < j:=a;exact mod_int' (by omega) (by rw[Int.fmod_eq_emod_of_nonneg i (by omega)];exact q)
end
def Zv2:V->V->Bool
 | .non,.non=>true| .non,.int _=>true| .int _,.non=>true| .non,.bl _=>true| .bl _,.non=>true| .non,.str _=>true| .str _,.non=>true
 | .int _,.int _=>true| .bl _,.bl _=>true| .str _,.str _=>true| .byt _,.byt _=>true
 | .int _,.str _=>true| .str _,.int _=>true| .bl _,.str _=>true| .str _,.bl _=>true
 |_,_=>false
def rEq:R2:=fun x y H Q=>Zv2 x y=true/\Q (.bl (decide (x=y))) H
def rNe:R2:=fun x y H Q=>Zv2 x y=true/\Q (.bl (!decide (x=y))) H
theorem Zol{i j:Int}:decide (V.int i=V.int j)=(i==j):=by
 rw[Bool.eq_iff_iff];simp
theorem Zqs{i j:Bool}:decide (V.bl i=V.bl j)=(i==j):=by
 rw[Bool.eq_iff_iff];simp
theorem Zok{i j:Str}:decide (V.str i=V.str j)=(i==j):=by
 rw[Bool.eq_iff_iff];simp
theorem Zom{i j:Array UInt8}:decide (V.byt i=V.byt j)=(i.toList==j.toList):=by
 rw[Bool.eq_iff_iff];cases i;cases j;simp
section
variable{X:Cx}{a b c:Expr}{ta tb tc:TE}{pos:Pos}
theorem Za4{pins:List (Addr×Obj)}{σ:St}{H:Hp}{s:Shared}{Q:VK}{k k':Bool}(I:Inv X pins σ H s)(q:Q (.bl k) H)(e:k=k'):EP X pins σ Q (.bool k') s:=by
 subst e;exact⟨.bl k,H,I,rfl,q⟩
theorem Zcs:OpR X (compareOp .Eq) rEq:=by
 intro pins s σ H x y v u Q I c a h;obtain⟨hs,q⟩:=h;cases x with
 |non=>
  cases c;cases y with
  |non=>cases a;exact PySem.EqNone.eq_none_none (Za4 I q (by simp))
  |bl j=>cases a;exact PySem.EqNone.eq_none_bool (Za4 I q (by simp))
  |int j=>obtain⟨b,rfl⟩:=a;exact PySem.EqNone.eq_none_int (Za4 I q (by simp))
  |str j=>obtain⟨b,rfl⟩:=a;exact PySem.EqNone.eq_none_str (Za4 I q (by simp))
  |_=>exact absurd (show false=true from hs) Bool.false_ne_true
 |bl i=>
  cases c;cases y with
  |non=>cases a;exact PySem.EqNone.eq_bool_none (Za4 I q (by simp))
  |bl j=>cases a;exact eq_bool (Za4 I q Zqs)
  |str j=>obtain⟨b,rfl⟩:=a;exact PySem.EqMixed.eq_bool_str (Za4 I q (by simp))
  |_=>exact absurd (show false=true from hs) Bool.false_ne_true
 |int i=>
  obtain⟨t,rfl⟩:=c;cases y with
  |non=>cases a;exact PySem.EqNone.eq_int_none (Za4 I q (by simp))
  |int j=>obtain⟨b,rfl⟩:=a;exact eq_int (Za4 I q Zol)
  |str j=>obtain⟨b,rfl⟩:=a;exact PySem.EqMixed.eq_int_str (Za4 I q (by simp))
  |_=>exact absurd (show false=true from hs) Bool.false_ne_true
 |str i=>
  obtain⟨t,rfl⟩:=c;cases y with
  |non=>cases a;exact PySem.EqNone.eq_str_none (Za4 I q (by simp))
  |bl j=>cases a;exact PySem.EqMixed.eq_str_bool (Za4 I q (by simp))
  |int j=>obtain⟨b,rfl⟩:=a;exact PySem.EqMixed.eq_str_int (Za4 I q (by simp))
  |str j=>obtain⟨b,rfl⟩:=a;exact eq_str (Za4 I q Zok)
  |_=>exact absurd (show false=true from hs) Bool.false_ne_true
 |byt i=>
  obtain⟨t,rfl⟩:=c;cases y with
  |byt j=>obtain⟨b,rfl⟩:=a;exact W.eq_bytes (Za4 I q Zom)
  |_=>exact absurd (show false=true from hs) Bool.false_ne_true
 |_=>cases y <;> exact absurd (show false=true from hs) Bool.false_ne_true
theorem Zi4:OpR X (compareOp .NotEq) rNe:=by
 intro pins s σ H x y v u Q I c a h;obtain⟨hs,q⟩:=h;cases x with
 |non=>
  cases c;cases y with
  |non=>cases a;exact PySem.EqNone.ne_none_none (Za4 I q (by simp))
  |bl j=>cases a;exact PySem.EqNone.ne_none_bool (Za4 I q (by simp))
  |int j=>obtain⟨b,rfl⟩:=a;exact PySem.EqNone.ne_none_int (Za4 I q (by simp))
  |str j=>obtain⟨b,rfl⟩:=a;exact PySem.EqNone.ne_none_str (Za4 I q (by simp))
  |_=>exact absurd (show false=true from hs) Bool.false_ne_true
 |bl i=>
  cases c;cases y with
  |non=>cases a;exact PySem.EqNone.ne_bool_none (Za4 I q (by simp))
  |bl j=>cases a;exact ne_bool (Za4 I q (congrArg not Zqs))
  |str j=>obtain⟨b,rfl⟩:=a;exact PySem.EqMixed.ne_bool_str (Za4 I q (by simp))
  |_=>exact absurd (show false=true from hs) Bool.false_ne_true
 |int i=>
  obtain⟨t,rfl⟩:=c;cases y with
  |non=>cases a;exact PySem.EqNone.ne_int_none (Za4 I q (by simp))
  |int j=>obtain⟨b,rfl⟩:=a;exact ne_int (Za4 I q (congrArg not Zol))
  |str j=>obtain⟨b,rfl⟩:=a;exact PySem.EqMixed.ne_int_str (Za4 I q (by simp))
  |_=>exact absurd (show false=true from hs) Bool.false_ne_true
 |str i=>
  obtain⟨t,rfl⟩:=c;cases y with
  |non=>cases a;exact PySem.EqNone.ne_str_none (Za4 I q (by simp))
  |bl j=>cases a;exact PySem.EqMixed.ne_str_bool (Za4 I q (by simp))
  |int j=>obtain⟨b,rfl⟩:=a;exact PySem.EqMixed.ne_str_int (Za4 I q (by simp))
  |str j=>obtain⟨b,rfl⟩:=a;exact ne_str (Za4 I q (congrArg not Zok))
  |_=>exact absurd (show false=true from hs) Bool.false_ne_true
 |byt i=>
  obtain⟨t,rfl⟩:=c;cases y with
  |byt j=>obtain⟨b,rfl⟩:=a;exact W.ne_bytes (Za4 I q (congrArg not Zom))
  |_=>exact absurd (show false=true from hs) Bool.false_ne_true
 |_=>cases y <;> exact absurd (show false=true from hs) Bool.false_ne_true
theorem Zn0:OpR X (compareOp .Lt) (rI0 fun i j=>.bl (decide (i < j))):=Zu2 fun _ _ _ _ _ _ _ q=>lt_int q
theorem Zfr:OpR X (compareOp .LtE) (rI0 fun i j=>.bl (decide (i <=j))):=Zu2 fun _ _ _ _ _ _ _ q=>le_int q
theorem Zt0:OpR X (compareOp .Gt) (rI0 fun i j=>.bl (decide (j < i))):=Zu2 fun _ _ _ _ _ _ _ q=>gt_int q
theorem Zvk:OpR X (compareOp .GtE) (rI0 fun i j=>.bl (decide (j <=i))):=Zu2 fun _ _ _ _ _ _ _ q=>ge_int q
theorem Zau(b:Expr){op:CmpOp}(h:op≠ .In:=by decide)(h2:op≠ .NotIn:=by decide):behindInMarks op b=false:=by
 have c:(op==CmpOp.In)=false:=by cases op <;> first|rfl|exact absurd rfl h
 have a:(op==CmpOp.NotIn)=false:=by cases op <;> first|rfl|exact absurd rfl h2
 cases b <;> simp[behindInMarks,c,a]
theorem Zbd{op:CmpOp}{r:R2}(ho:OpR X (compareOp op) r)(ha:PE X a ta)(hb:PE X b tb)(hm:behindInMarks op b=false):PE X (.Compare a [op] [b] pos) (tOp r ta tb):=by
 intro pins s σ H Q I h;exact wpAny_Compare1 (Zvt ha hb I h fun v u s2 x y H2 e d c q=>ho pins s2 σ H2 x y v u Q e d c q) hm
def Zj4(t:TE):TT:=fun σ H Q=>t σ H fun x H'=>∃k,x= .bl k/\Q k H'
theorem Zaw{op:CmpOp}{r:R2}(ho:OpR X (compareOp op) r)(ha:PE X a ta)(hb:PE X b tb)(hm:behindInMarks op b=false):PT X (.Compare a [op] [b] pos) (Zj4 (tOp r ta tb)):=by
 intro pins s σ H Q I h;refine wpAny_isTrue_Compare1 (thn (ha pins s σ H _ I h) fun v s1 ⟨x, H1, o, g, l⟩ => thn (hb pins s1 σ H1 _ o l) fun u s2 ⟨y, H2, n, f, j⟩ =>
  thn (ho pins s2 σ H2 x y v u _ n g f j) fun c q ⟨z, p, m, d, k, e, i⟩ => ?_) hm
 subst e;cases d;exact wpAny_truthy_bool ⟨p,m,i⟩
def Zlj(r r':R2)(ta tb tc:TE):TE:=fun σ H Q=>ta σ H fun x H1=>tb σ H1 fun y H2=>r x y H2 fun z H3=>∃k,z= .bl k/\
 (if k=true then tc σ H3 fun w' H4=>r' y w' H4 Q else Q (.bl false) H3)
theorem Zf1{op op':CmpOp}{r r':R2}(ho:OpR X (compareOp op) r)(ho':OpR X (compareOp op') r')(ha:PE X a ta)(hb:PE X b tb)(hc:PE X c tc)
  (hm:lastMarks [op,op'] [b,c]=false:=by with_unfolding_all rfl):PE X (.Compare a [op,op'] [b,c] pos) (Zlj r r' ta tb tc):=by
 intro pins s σ H Q I h;refine Compare_chain (thn (ha pins s σ H _ I h) fun v s1 ⟨x, H1, I1, t, q1⟩ => chain_link (thn (hb pins s1 σ H1 _ I1 q1) fun u s2 ⟨y, H2, I2, f, q2⟩ =>
  thn (ho pins s2 σ H2 x y v u _ I2 t f q2) fun d o ⟨z, j, i, q, k, e, g⟩ => ?_)) hm
 subst e;cases q;refine wpAny_truthy_bool ?_;cases k with
 |false=>exact ite_ff ⟨.bl false,j,i,rfl,g⟩
 |true=>exact ite_tt (chain_last (thn (hc pins o σ j _ i g) fun m n ⟨l,H4,I4,p,w⟩=>ho' pins n σ H4 y l u m Q I4 f p w))
theorem Zh5{op op':CmpOp}{r r':R2}(ho:OpR X (compareOp op) r)(ho':OpR X (compareOp op') r')(ha:PE X a ta)(hb:PE X b tb)(hc:PE X c tc)
  (hm:lastMarks [op,op'] [b,c]=false:=by with_unfolding_all rfl):PT X (.Compare a [op,op'] [b,c] pos) (Zj4 (Zlj r r' ta tb tc)):=by
 intro pins s σ H Q I h;refine isTrue_chain (thn (ha pins s σ H _ I h) fun v s1 ⟨x, H1, I1, w, q1⟩ => test_link (thn (hb pins s1 σ H1 _ I1 q1) fun u s2 ⟨y, H2, I2, f, q2⟩ =>
  thn (ho pins s2 σ H2 x y v u _ I2 w f q2) fun d o ⟨z, j, i, t, k, e, g⟩ => ?_)) hm
 subst e;cases t;refine wpAny_truthy_bool ?_;cases k with
 |false=>
  obtain⟨k',e',q'⟩:=g;cases e';exact ite_ff ⟨j,i,q'⟩
 |true=>
  refine ite_tt (test_last (thn (hc pins o σ j _ i g) fun m n ⟨l,H4,I4,q,q4⟩=>thn (ho' pins n σ H4 y l u m _ I4 f q q4) fun d' s5 ⟨z2,H5,I5,p,k2,e2,q5⟩=>?_));subst e2;cases p;exact wpAny_truthy_bool ⟨H5,I5,q5⟩
def TruV(K:W.Frag)(x:V)(H:Hp)(k:Bool):Prop:=
 match x with
 | .non=>k=false
 | .bl b=>k=b
 | .int i=>k=(i !=0)
 | .str y=>y.length <=sizeLine/\k=((y.length:Int) !=0)
 | .byt y=>y.size <=sizeLine/\k=((y.size:Int) !=0)
 | .ref p=>(∃xs,SqL K H p xs/\k= !xs.isEmpty)\/(∃xs,SqT K H p xs/\k= !xs.isEmpty)\/∃kvs,H p=some (.dK kvs)/\k= !kvs.isEmpty
 |_=>False
theorem Zhf:(sizeLine:Nat) < 2 ^ 63:=by rw[sizeLine_eq];decide
theorem Zhd:OpR X (binaryOp .Add) (fun x y H Q=>∃i j,x= .str i/\y= .str j/\i.length+ j.length <=sizeLine/\Q (.str (i++j)) H):=by
 intro pins s σ H x y v u Q I c b h;obtain⟨i,j,rfl,rfl,d,q⟩:=h;obtain⟨t,rfl⟩:=c;obtain⟨a,rfl⟩:=b;exact add_str (fun a tk=>⟨.str (i++j),H,I.tok _,⟨_,rfl⟩,q⟩) d
theorem Zir{x:V}{us:List Value}(r:Vals [x] us):∃u,us=[u]/\RelV x u:=by
 cases r with
 |cons r1 r2=>cases r2;exact⟨_,rfl,r1⟩
theorem Zow{x y:V}{us:List Value}(r:Vals [x,y] us):∃u w',us=[u,w']/\RelV x u/\RelV y w':=by
 cases r with
 |cons r1 r2=>
  cases r2 with
  |cons r3 r4=>cases r4;exact⟨_,_,rfl,r1,r3⟩
theorem Zoo(hc:X.calm=true):Zd4 X (.builtin "min") (fun xs H Q=>∃i j,xs=[.int i,.int j]/\Q (.int (if j < i then j else i)) H):=by
 intro pins s σ H xs b Q I r h;obtain⟨i,j,rfl,q⟩:=h;obtain⟨u,a,rfl,⟨t,rfl⟩,⟨c,rfl⟩⟩:=Zow r;refine min_two_ints (I.ok.hd hc) fun h' tk k=>⟨_,H,I.kept k,?_,q⟩
 by_cases hj:j < i
 ·rw[if_pos hj,if_pos hj];exact⟨_,rfl⟩
 ·rw[if_neg hj,if_neg hj];exact⟨_,rfl⟩
theorem Zop:Zd4 X (.type "int") (fun xs H Q=>(∃i,xs=[.int i]/\Q (.int i) H)\/∃k,xs=[.bl k]/\Q (.int (if k then 1 else 0)) H):=by
 intro pins s σ H xs b Q I r h;rcases h with⟨i,rfl,q⟩|⟨k,rfl,q⟩
 ·obtain⟨u,rfl,t,rfl⟩:=Zir r;exact call_int_int ⟨.int i,H,I,⟨_,rfl⟩,q⟩
 ·obtain⟨u,rfl,a⟩:=Zir r;cases a;exact call_int_bool ⟨.int (if k then 1 else 0),H,I.tok _,⟨_,rfl⟩,q⟩
end
structure ObjM(h:Heap)(x dx C:Addr)(mA:Str->Option Value):Prop where
 obj:h.get? x=some (W.instObj C dx)
 ns:h.Ns1 dx mA
 ne:dx≠x
theorem Zn8{h:Heap}{dx:Addr}{mA:Str->Option Value}(n:h.Ns1 dx mA):∃od,h.get? dx=some od/\∀name,W.lookIn name od=some (mA name):=by
 obtain⟨o,es,ep,d,i,g,_,f⟩:=n;refine⟨o,d,fun name=>?_⟩;have e:=f name;unfold nsFind findBy at e;rw[<-Array.find?_toList]at e;unfold W.lookIn;rw[i];dsimp only
 split
 ·rename_i y q
  rw[q]at e;exact congrArg some e
 ·rename_i q
  rw[q]at e;have a:es.toList.any (·.refKey)=false:=by
   rw[List.any_eq_false];intro y c;obtain⟨z,t,b⟩:=g y (Array.mem_toList_iff.mp c);simp[DictEntry.refKey,b]
  have j:¬es.toList.any (·.refKey)=true:=by rw[a];exact Bool.false_ne_true
  rw[if_neg j];exact congrArg some e
theorem ObjM.look{h:Heap}{x dx C:Addr}{mA:Str->Option Value}(I:ObjM h x dx C mA):∃od,W.InstAt h x (W.instObj C dx) C (some od)/\∀name,W.lookIn name od=some (mA name):=
 let ⟨od,ho,hl⟩:=Zn8 I.ns
 ⟨od,⟨I.obj,rfl,rfl,ho⟩,hl⟩
section
variable{prog:Program}{w:World}{A:Around}{E:Value->Shared->Prop}{s:Shared}{K:W.Frag}{x dx C f:Addr}{mA:Str->Option Value}{name:Str}{v:Value}
theorem Zsa{expr:Bool}{Q:Value->Shared->Prop}(X:K.In s.heap)(I:ObjM s.heap x dx C mA)(hg:W.plainGet K C name=true)(hh:W.hasDictIn K C=true)
  (ha:W.findIn K (.ref C) name=some none) (hv:mA name=some v) (hv':W.handedIn v=true) (h:Q v {s with toks:=s.toks+ 1}):
  wpAny (model prog w) A (getAttr (.ref x) name expr) Q E s:=by
 obtain⟨b,J,a⟩:=I.look;exact W.get_value X J (W.plainGet_of hg).1 (W.findObj_own hh ha rfl (by rw[a,hv])) hv' h
theorem Zpp{pl:Sem Bool}{Q:Value×List Value->Shared->Prop}(X:K.In s.heap)(I:ObjM s.heap x dx C mA)(hg:W.plainGet K C name=true)
  (hf:W.findIn K (.ref C) name=some (some (.ref f))) (ht:W.isFn K (.ref f)=true) (hv:mA name=none) (h:Q (.ref f,[.ref x]) s):
  wpAny (model prog w) A (getMethod (.ref x) name pl) Q E s:=by
 obtain⟨a,J,b⟩:=I.look;exact W.method_fn X J (W.plainGet_of hg).1 (W.plainGet_of hg).2 hf (beq_iff_eq.mp ht) (by show(W.lookIn name a).map (·.isSome)=some false;rw[b,hv];rfl) h
theorem Zrd{ns:List Str}{Q:Unit->Shared->Prop}(X:K.In s.heap)(I:ObjM s.heap x dx C mA)
  (hs:W.findIn K (.ref C) "__setattr__"=some (some (.builtin "object.__setattr__"))) (hp:W.plainOver K C=true) (ht:W.takerIn K C name=some none) (hh:W.hasDictIn K C=true)
  (hw:PySem.Within mA ns) (hsz:ns.length <=sizeLine)
  (h:∀h',ObjM h' x dx C (fun y=>if y=name then some v else mA y)->Heap.SameBut dx s.heap h'->Q () {s with heap:=h',toks:=s.toks+ 2}):
  wpAny (model prog w) A (setAttr (.ref x) name v) Q E s:=by
 obtain⟨m,J,o⟩:=I.look;refine W.set_plain X J hs (W.osa_open (s:={s with toks:=s.toks+ 1}) (r:=none) X J hp ht fun b=>?_);obtain⟨cd,j,g⟩:=W.any_some hh;have hx:s.heap.get? x=some ⟨.ref C,some dx,.plain,#[]⟩:=I.obj;refine wpAny_bind (wpAny_pure (wpAny_bind (wpAny_bind (wpAny_loadPart hx (wpAny_bind (W.Looks.here (s:={s with toks:=s.toks+ 1}) (W.looks_clsIn X j) ?_))))));rw[g];refine wpAny_pure (a:=some dx) (wpAny_bind (wpAny_pure (wpAny_bind ?_)));refine wpAny_nsSet1 (s:={s with toks:=s.toks+ 1}) I.ns fun h' d c=>?_
 obtain⟨n,k,l,e,f,i⟩:=d.count (PySem.Within.cons name v hw);refine wpAny_bind (wpAny_lookBehind e (by rw[f];exact pastItsLine_dict (Nat.le_trans i (by rw[List.length_cons];omega))) ?_);exact wpAny_pure (h _ ⟨(c.2 _ (Ne.symm I.ne)).trans I.obj,d,I.ne⟩ c)
theorem Zph{R:Result->Shared->Prop}{vs:List Value}{kw:List (Str×Value)}(X:K.In s.heap)(hm:W.makesIn K C=true)
  (hi:W.findIn K (.ref C) "__init__"=some (some (.ref f))) (hf:W.typeIn K (.ref f)=some (.type "function"))
  (h : codeAny (model prog w) (A.under (.builtin "type.__call__" ⟨.ref C :: vs, kw⟩)) (.call (.ref f) ⟨.ref (s.heap.objs.size + 1) :: vs, kw⟩) (W.InitBack (s.heap.objs.size + 1) R)
   { s with heap := (s.heap.push W.emptyDict).push (W.instObj C s.heap.objs.size) }) :
  codeAny (model prog w) A (.call (.ref C) ⟨vs,kw⟩) R s:=by
 obtain⟨b,g,d,t,os⟩:=s;exact W.make_core (W.makes_of X hm) (W.looks_findIn X hi) (fun a=>W.bind_fn X a hf) (.inl rfl) h
end
def putF(f:Str)(v:V):List (Str×V)->List (Str×V)
 |[]=>[(f,v)]
 |(g,x)::r=>if g=f then(g,v)::r else(g,x)::putF f v r
theorem Zd1(f g:Str)(v:V):∀fs:List (Str×V),(putF f v fs).lookup g=if g=f then some v else fs.lookup g
 |[]=>by
  show List.lookup g [(f,v)]=_
  by_cases h:g=f
  ·have hb:(g==f)=true:=beq_iff_eq.mpr h;simp only[List.lookup,hb,if_pos h]
  ·have hb:(g==f)=false:=beq_eq_false_iff_ne.mpr h;simp only[List.lookup,hb,if_neg h]
 |(k,x)::r=>by
  have a:=Zd1 f g v r;rw[show putF f v ((k,x)::r)=(if k=f then(k,v)::r else(k,x)::putF f v r) from rfl]
  by_cases hk:k=f
  ·rw[if_pos hk]
   by_cases h:g=k
   ·have hb:(g==k)=true:=beq_iff_eq.mpr h;simp only[List.lookup,hb,if_pos (h.trans hk)]
   ·have hb:(g==k)=false:=beq_eq_false_iff_ne.mpr h;simp only[List.lookup,hb,if_neg (fun e:g=f=>h (e.trans hk.symm))]
  ·rw[if_neg hk]
   by_cases h:g=k
   ·have hb:(g==k)=true:=beq_iff_eq.mpr h;simp only[List.lookup,hb,if_neg (fun e:g=f=>hk (h.symm.trans e))]
   ·have hb:(g==k)=false:=beq_eq_false_iff_ne.mpr h;simp only[List.lookup,hb];exact a
theorem Zgn(f:Str)(v:V):∀fs:List (Str×V),f∈(putF f v fs).map (·.1)/\∀g,g∈fs.map (·.1)->g∈(putF f v fs).map (·.1)
 |[]=>⟨by simp[putF],fun g h=>by simp at h⟩
 |(k,x)::r=>by
  obtain⟨i1,i2⟩:=Zgn f v r;rw[show putF f v ((k,x)::r)=(if k=f then(k,v)::r else(k,x)::putF f v r) from rfl]
  by_cases hk:k=f
  ·rw[if_pos hk];subst hk;exact⟨by simp,fun g h=>by simpa using h⟩
  ·rw[if_neg hk];refine⟨?_,fun g h=>?_⟩
   ·rw[List.map_cons];exact List.mem_cons_of_mem _ i1
   ·rw[List.map_cons]at h ⊢;rcases List.mem_cons.mp h with e|e
    ·exact List.mem_cons.mpr (.inl e)
    ·exact List.mem_cons_of_mem _ (i2 g e)
theorem Zez(f:Str)(v:V):∀fs:List (Str×V),(putF f v fs).length <=fs.length+ 1
 |[]=>by simp[putF]
 |(k,x)::r=>by
  have ih:=Zez f v r;rw[show putF f v ((k,x)::r)=(if k=f then(k,v)::r else(k,x)::putF f v r) from rfl]
  by_cases hk:k=f
  ·rw[if_pos hk,List.length_cons,List.length_cons];omega
  ·rw[if_neg hk,List.length_cons,List.length_cons];omega
theorem RelO.some_of{v:V}{o:Option Value}(r:RelO (some v) o):∃u,o=some u/\RelV v u:=by
 cases o with
 |none=>exact(show False from r).elim
 |some u=>exact⟨u,rfl,r⟩
theorem RelO.none_of{o:Option Value}(r:RelO none o):o=none:=by
 cases o with
 |none=>rfl
 |some u=>exact(show False from r).elim
theorem Zoh{v:V}{u:Value}(r:RelV v u):W.handedIn u=true:=by
 cases v with
 |non=>cases (show u=Value.none from r);rfl
 |bl b=>cases (show u=Value.bool b from r);rfl
 |int i=>obtain⟨t,e⟩:=(show ∃t,u=Value.int i t from r);cases e;rfl
 |str x=>obtain⟨t,e⟩:=(show ∃t,u=Value.str x t from r);cases e;rfl
 |byt b=>obtain⟨t,e⟩:=(show ∃t,u=Value.bytes b t from r);cases e;rfl
 |flt b=>obtain⟨t,e⟩:=(show ∃t,u=Value.float b t from r);cases e;rfl
 |ref a=>cases (show u=Value.ref a from r);rfl
 |ty n=>cases (show u=Value.type n from r);rfl
section
variable{P:Program}{w:World}{H H':Hp}{h h':Heap}{a C dx:Addr}{fs fs':List (Str×V)}
theorem Zih(hok:HOk P w H h)(e:H a=some (.ins C dx fs)):∃mA,ObjM h a dx C mA/\(∀f,RelO (fs.lookup f) (mA f))/\PySem.Within mA (fs.map (·.1))/\fs.length <=1000/\H dx=some (.own a):=by
 obtain⟨d,z,ne,b,mA,n,r,q⟩:=(show ObjOk P w H h a (.ins C dx fs) from hok a _ e);exact⟨mA,⟨b,n,ne⟩,r,q,z,d⟩
end
structure Cls(K:W.Frag)(C:Addr):Prop where
 pg:W.plainGet K C Str.empty=true
 hd:W.hasDictIn K C=true
 po:W.plainOver K C=true
 sa:W.findIn K (.ref C) "__setattr__"=some (some (.builtin "object.__setattr__"))
theorem Cls.get{K:W.Frag}{C:Addr}(c:Cls K C)(f:Str):W.plainGet K C f=true:=c.pg
def NoAttr(K:W.Frag)(C:Addr)(f:Str):Prop:=W.findIn K (.ref C) f=some none
theorem NoAttr.taker{K:W.Frag}{C:Addr}{f:Str}(n:NoAttr K C f):W.takerIn K C f=some none:=by
 unfold W.takerIn;rw[show W.findIn K (.ref C) f=some none from n];rfl
structure Con(K:W.Frag)(C:Addr)(f:Str)(v:V)(u:Value):Prop where
 at_:W.findIn K (.ref C) f=some (some u)
 rel:RelV v u
 get:W.specialIn K u "__get__"=some none
 cp:W.copiedNames.contains f=false
structure Zv9(K:W.Frag)(C:Addr)(m:Str)(f:Addr):Prop where
 at_:W.findIn K (.ref C) m=some (some (.ref f))
 fn:W.isFn K (.ref f)=true
 kp:W.keepIn K (.ref f)=true
section
variable{X:Cx}{pins:List (Addr×Obj)}{σ:St}{H:Hp}{s:Shared}{a C dx:Addr}{fs:List (Str×V)}{f:Str}{v:V}{A:Around}{E:Value->Shared->Prop}
theorem Zhh{b:Bool}{Q:Value->Shared->Prop}(I:Inv X pins σ H s)(e:H a=some (.ins C dx fs))(c:Cls X.K C)(n:NoAttr X.K C f)(l:fs.lookup f=some v)
  (h:∀u s',Inv X pins σ H s'->RelV v u->Q u s'):wpAny (model X.prog X.w) A (getAttr (.ref a) f b) Q E s:=by
 obtain⟨mA,O,r,_,_,_⟩:=Zih I.hok e;obtain⟨u,g,d⟩:=RelO.some_of (v:=v) (o:=mA f) (by rw[<-l];exact r f);exact Zsa I.kIn O (c.get f) c.hd n g (Zoh d) (h u _ (I.tok _) d)
theorem Zmu{m:Str}{g:Addr}{pl:Sem Bool}{Q:Value×List Value->Shared->Prop}(I:Inv X pins σ H s)(e:H a=some (.ins C dx fs))(c:Cls X.K C)(k:Zv9 X.K C m g)(l:fs.lookup m=none)
  (h:Q (.ref g,[.ref a]) s):wpAny (model X.prog X.w) A (getMethod (.ref a) m pl) Q E s:=by
 obtain⟨mA,O,r,_,_,_⟩:=Zih I.hok e;have b:mA m=none:=RelO.none_of (by rw[<-l];exact r m);exact Zpp I.kIn O (c.get m) k.at_ k.fn b h
theorem Zmf{y:V}{u:Value}{Q:Unit->Shared->Prop}(I:Inv X pins σ H s)(e:H a=some (.ins C dx fs))(c:Cls X.K C)(n:NoAttr X.K C f)(hl:fs.length < 1000)(ry:RelV y u)
  (h:∀s',Inv X pins σ (upd H a (.ins C dx (putF f y fs))) s'->Q () s'):wpAny (model X.prog X.w) A (setAttr (.ref a) f u) Q E s:=by
 obtain⟨mA,O,r,wi,_,i⟩:=Zih I.hok e;have k:(fs.map (·.1)).length <=sizeLine:=by rw[List.length_map,sizeLine_eq];omega
 refine Zrd I.kIn O c.sa c.po n.taker c.hd wi k fun h' d j=>h _ ?_
 have hd:∃o,h'.get? dx=some o:=let ⟨o,_,_,e',_⟩:=d.ns;⟨o,e'⟩;refine I.write (x:=a) (e:=dx) (by rw[e];exact True.intro) (.inr i) (fun b q m z=>(j.2 b m).trans z) hd ?_;refine⟨by rw[Zap O.ne];exact i,?_,O.ne,d.obj,_,d.ns,fun g=>?_,fun g l=>?_⟩
 ·have:=Zez f y fs;omega
 ·show RelO ((putF f y fs).lookup g) (if g=f then some u else mA g);rw[Zd1]
  by_cases q:g=f
  ·rw[if_pos q,if_pos q];exact ry
  ·rw[if_neg q,if_neg q];exact r g
 ·by_cases q:g=f
  ·rw[q];exact(Zgn f y fs).1
  ·refine(Zgn f y fs).2 g (wi g fun z=>l ?_);show(if g=f then some u else mA g)=none;rw[if_neg q];exact z
theorem Inv.made(I:Inv X pins σ H s):Inv X pins σ (upd (upd H s.heap.objs.size (.own (s.heap.objs.size+ 1))) (s.heap.objs.size+ 1) (.ins C s.heap.objs.size []))
  {s with heap:=(s.heap.push W.emptyDict).push (W.instObj C s.heap.objs.size)}:=by
 have c:(s.heap.push W.emptyDict).get? s.heap.objs.size=some W.emptyDict:=Heap.get?_push_size s.heap rfl;have h:((s.heap.push W.emptyDict).push (W.instObj C s.heap.objs.size)).get? (s.heap.objs.size+ 1)=some (W.instObj C s.heap.objs.size):=by
  have:=Heap.get?_push_size (s.heap.push W.emptyDict) (o:=W.instObj C s.heap.objs.size) rfl;rwa [Heap.size_push]at this
 have g:(s.heap.push W.emptyDict).Ns s.heap.objs.size (fun _=>none):=⟨W.emptyDict,#[],_,c,rfl,(fun e f=>absurd f (by simp)),fun _=>rfl⟩;have i:=I.laid (a:=s.heap.objs.size) (o:=.own (s.heap.objs.size+ 1)) (h':=s.heap.push W.emptyDict) (t':=s.toks) (fun b u q=>Heap.get?_push_of_some _ q) (Nat.le_refl _) ⟨_,c⟩;refine i.laid (a:=s.heap.objs.size+ 1) (o:=.ins C s.heap.objs.size []) (t':=s.toks) (fun b u q=>Heap.get?_push_of_some _ q) (Nat.le_of_eq (Heap.size_push _ _)) ?_;have ne:s.heap.objs.size≠s.heap.objs.size+ 1:=Nat.ne_of_lt (Nat.lt_succ_self _);refine⟨by rw[Zap ne,Zan],Nat.zero_le _,ne,h,fun _=>none,(Heap.Ns1.of_empty g).at fun o q=>Heap.get?_push_of_some _ q,fun _=>True.intro,fun y d=>absurd rfl d⟩
theorem Zoq{prog:Program}{w:World}{env:Env}{e:Expr}{f:Str}{pos:Pos}{s:Shared}{Q:Value->Shared->Prop}(hb:attributeBase e f env (eval e env)=eval e env)
  (h:wpAny (model prog w) A (eval e env) (fun o s₁=>wpAny (model prog w) A (getAttr o f true) Q E s₁) E s):wpAny (model prog w) A (eval (.Attribute e f pos) env) Q E s:=
 Attribute_any_ h (by rw[arm_eval_Attribute,hb])
end
def Zuu(K:W.Frag)(ta:TE)(f:Str):TE:=fun σ H Q=>ta σ H fun x H1=>∃a C dx fs v,x= .ref a/\H1 a=some (.ins C dx fs)/\Cls K C/\NoAttr K C f/\fs.lookup f=some v/\Q v H1
def Zux(K:W.Frag)(ta tv:TE)(f:Str):TS:=fun D σ H=>tv σ H fun y H1=>ta σ H1 fun x H2=>∃a C dx fs,x= .ref a/\H2 a=some (.ins C dx fs)/\Cls K C/\NoAttr K C f/\fs.length < 1000/\
 D.nx σ (upd H2 a (.ins C dx (putF f y fs)))
section
variable{X:Cx}{o e value:Expr}{f:Str}{pos pos' tpos:Pos}{ta tv:TE}
theorem Ztv(he:PE X e ta)(hb:attributeBase e f X.env (eval e X.env)=eval e X.env):PE X (.Attribute e f pos) (Zuu X.K ta f):=by
 intro pins s σ H Q I h;refine Zoq hb (thn (he pins s σ H _ I h) fun u s1 ⟨x,H1,j,b,a,C,dx,fs,v,ex,g,c,n,l,q⟩=>?_);subst ex;obtain rfl:u=Value.ref a:=b;exact Zhh j g c n l fun k s2 i d=>⟨v,H1,i,d,q⟩
theorem Ztr(ha:PE X o ta)(hv:PE X value tv)(hs:swapsWith value (some (.Attribute o f pos')) pos.line X.env=pure false):PS X (.Assign [.Attribute o f pos'] value pos) (Zux X.K ta tv f):=by
 intro pins s σ H D I h;refine plainObj_wpAny_Assign_Attribute (thn (hv pins s σ H _ I h) fun u s1 ⟨y,H1,m,b,q⟩=>thn (ha pins s1 σ H1 _ m q) fun g s2 ⟨x,H2,k,d,a,C,dx,fs,ex,i,c,n,l,e⟩=>?_) hs;subst ex;obtain rfl:g=Value.ref a:=d;exact Zmf k i c n l b fun p j=>⟨σ,_,j,e⟩
end
section
variable{X:Cx}{pins:List (Addr×Obj)}{σ:St}{H:Hp}{s:Shared}{A:Around}{E:Value->Shared->Prop}{Q:Value->Shared->Prop}{c:Value}{b:Bool}
inductive Zmc(K:W.Frag)(H:Hp):V->Value->Prop where
 |non:Zmc K H .non (.type "NoneType")
 |bl (x:Bool):Zmc K H (.bl x) (.type "bool")
 |int (i:Int):Zmc K H (.int i) (.type "int")
 |str (x:Str):Zmc K H (.str x) (.type "str")
 |flt (x:UInt64):Zmc K H (.flt x) (.type "float")
 |lst {a:Addr} {xs:List V} (e:H a=some (.lst xs)):Zmc K H (.ref a) (.type "list")
 |frz {a:Addr} {o:Obj} {xs:List V} (e:H a=some (.frz o (.lst xs))):Zmc K H (.ref a) (.type "list")
 |tup {a:Addr} {xs:List V} (e:H a=some (.tup xs)):Zmc K H (.ref a) (.type "tuple")
 |dK {a:Addr} {kvs:List (Key×V)} (e:H a=some (.dK kvs)):Zmc K H (.ref a) (.type "dict")
 |dT {a:Addr} {kvs:List (List Key×V)} (e:H a=some (.dT kvs)):Zmc K H (.ref a) (.type "dict")
 |ins {a C dx:Addr} {fs:List (Str×V)} (e:H a=some (.ins C dx fs)) (cl:Cls K C) (ha:W.findIn K (.ref C) "__class__"=some (some (.builtin "object.__class__")))
   (hn:W.specialIn K (.builtin "object.__class__") "__get__"=some (some (.builtin "getset_descriptor.__get__"))) (htk:W.takesIn K (.builtin "object.__class__")=some true)
   (hm:W.mroIn K C (.type "object")=some true):Zmc K H (.ref a) (.ref C)
theorem Zje{x:V}{u t:Value}(I:Inv X pins σ H s)(rx:RelV x u)(ty:Zmc X.K H x t)(e:W.kitOne X.K t c=some b)(h:∀tk,Q (.bool b) {s with toks:=tk}):
  wpAny (model X.prog X.w) A (call (.builtin "isinstance") [u,c]) Q E s:=by
 cases ty with
 |non=>cases (show u=Value.none from rx);exact W.kia_one W.kitx_none I.kIn True.intro e (fun z=>nomatch z) h
 |bl y=>cases (show u=Value.bool y from rx);exact W.kia_one W.kitx_bool I.kIn True.intro e (fun z=>nomatch z) h
 |int i=>obtain⟨t,q⟩:=(show ∃t,u=Value.int i t from rx);cases q;exact W.kia_one W.kitx_int I.kIn True.intro e (fun z=>nomatch z) h
 |str y=>obtain⟨t,q⟩:=(show ∃t,u=Value.str y t from rx);cases q;exact W.kia_one W.kitx_str I.kIn True.intro e (fun z=>nomatch z) h
 |flt y=>obtain⟨t,q⟩:=(show ∃t,u=Value.float y t from rx);cases q;exact W.kia_one W.kitx_float I.kIn True.intro e (fun z=>nomatch z) h
 |@lst a xs ea=>
  cases (show u=Value.ref a from rx);obtain⟨_,_,n,_,h1⟩:=(show ObjOk X.prog X.w H s.heap a (.lst xs) from I.hok a _ ea);exact W.kia_one W.kitx_list I.kIn ⟨_,h1,rfl⟩ e (fun z=>nomatch z) h
 |@frz a ob xs ea=>
  cases (show u=Value.ref a from rx);obtain⟨_,_,_,n,_,h1⟩:=(show ObjOk X.prog X.w H s.heap a (.frz ob (.lst xs)) from I.hok a _ ea);exact W.kia_one W.kitx_list I.kIn ⟨_,h1,rfl⟩ e (fun z=>nomatch z) h
 |@tup a xs ea=>
  cases (show u=Value.ref a from rx);obtain⟨_,_,_,p⟩:=(show ObjOk X.prog X.w H s.heap a (.tup xs) from I.hok a _ ea);obtain⟨o,h1,h2,_⟩:=p;exact W.kia_one W.kitx_tuple I.kIn ⟨o,h1,h2⟩ e (fun z=>nomatch z) h
 |@dK a kvs ea=>
  cases (show u=Value.ref a from rx);obtain⟨_,_,vs,_,p⟩:=(show ObjOk X.prog X.w H s.heap a (.dK kvs) from I.hok a _ ea);obtain⟨o,es,ep,h1,h2,_⟩:=p;exact W.kia_one W.kitx_dict I.kIn ⟨o,h1,h2.1⟩ e (fun z=>nomatch z) h
 |@dT a kvs ea=>
  cases (show u=Value.ref a from rx);obtain⟨_,_,xs,_,o,es,ep,h1,h2,_⟩:=(show ObjOk X.prog X.w H s.heap a (.dT kvs) from I.hok a _ ea);exact W.kia_one W.kitx_dict I.kIn ⟨o,h1,h2.1⟩ e (fun z=>nomatch z) h
 |@ins a C dx fs ea cl ha hn htk hm=>
  cases (show u=Value.ref a from rx);obtain⟨mA,O,_⟩:=Zih I.hok ea;obtain⟨d,J,_⟩:=O.look;exact W.kia_one (W.kitx_own (cl.get _) cl.hd ha hn htk hm) I.kIn J e (fun z=>nomatch z) h
end
structure Room(k:Nat)(A:Around):Prop where
 hd:A.handled=none
 dp:A.depth+ 3*k+ 5 < recursionLimit
 un:A.units+ 16*k+ 200 < cLine
theorem Room.mono{j k:Nat}{A:Around}(r:Room k A)(h:j <=k):Room j A:=⟨r.hd,by have:=r.dp;omega,by have:=r.un;omega⟩
theorem Room.deeper{k:Nat}{A:Around}(r:Room (k+ 1) A)(env:Env):Room k (A.deeper env):=
 ⟨r.hd,by have:=r.dp;show A.depth+ 1+ 3*k+ 5 < _;omega,by have:=r.un;show A.units+ 3+ 16*k+ 200 < _;omega⟩
theorem Zms{A:Around}{C:Addr}{us:List Value}{kw:List (Str×Value)}:(A.under (.builtin "type.__call__" ⟨.ref C::us,kw⟩)).depth=A.depth+ 1:=by
 first|rfl|simp[Around.under,Code.weight,Code.isCreation,Code.isGuard,Code.isCaller,Code.frames,Code.isFrame,guardIds]
theorem Zmr{A:Around}{C:Addr}{us:List Value}{kw:List (Str×Value)}:(A.under (.builtin "type.__call__" ⟨.ref C::us,kw⟩)).units=A.units+ 1:=by
 first|rfl|simp[Around.under,Code.cUnits,Code.frames,Code.isFrame]
theorem Room.make{k:Nat}{A:Around}(r:Room (k+ 1) A)(C:Addr)(us:List Value)(kw:List (Str×Value)):Room k (A.under (.builtin "type.__call__" ⟨.ref C::us,kw⟩)):=
 ⟨r.hd,by have:=r.dp;rw[Zms];omega,by have:=r.un;rw[Zmr];omega⟩
theorem Room.depth{k:Nat}{A:Around}(r:Room k A):A.depth < recursionLimit:=by have:=r.dp;omega
theorem Room.units{k:Nat}{A:Around}(r:Room k A):A.units+ 64 < cLine:=by have:=r.un;omega
def Zut:TA:=fun _ H Q=>Q [] H
def Zq7(ta:TE)(tr:TA):TA:=fun σ H Q=>ta σ H fun x H1=>tr σ H1 fun xs H2=>Q (x::xs) H2
section
variable{X:Cx}{e:Expr}{es:List Expr}{te:TE}{t:TA}{pos:Pos}
theorem Zac:PA X [] Zut:=fun _ _ _ _ H Q I h=>Calls.spliced_nil ⟨[],H,I,.nil,h⟩
theorem pa_cons(ha:PE X e te)(hr:PA X es t)(hs:starEach (e::es) X.env=(false,eval e X.env)::starEach es X.env:=by rfl):PA X (e::es) (Zq7 te t):=by
 intro pos pins s σ H Q I h;rw[hs];show wpAny _ _ (spliced ((false,eval e X.env)::backTo pos (starEach es X.env))) _ _ s;refine Calls.spliced_cons (thn (ha pins s σ H _ I h) fun u s1 ⟨x,H1,g,b,d⟩=>?_);exact thn (hr pos pins s1 σ H1 _ g d) fun i s2 ⟨xs,H2,f,a,c⟩=>⟨x::xs,H2,f,.cons b a,c⟩
def Zu9(t:TA):TE:=fun σ H Q=>t σ H fun xs H1=>xs.length <=sizeLine/\∀p,H1 p=none->Q (.ref p) (upd H1 p (.tup xs))
def Zv0(t:TA):TE:=fun σ H Q=>t σ H fun xs H1=>xs.length <=sizeLine/\∀p,H1 p=none->Q (.ref p) (upd H1 p (.lst xs))
theorem Zqk{x1}(h:PA X es t):PE X (.Tuple es x1 pos) (Zu9 t):=by
 intro pins s σ H Q I d;refine wpAny_Tuple_spliced (thn (h pos pins s σ H _ I d) fun c s1 ⟨xs,H1,a,r,z,q⟩=>⟨by rw[<-r.length];exact z,?_⟩);have f:H1 s1.heap.objs.size=none:=a.hok.fresh (Nat.le_refl _);refine⟨.ref s1.heap.objs.size,upd H1 s1.heap.objs.size (.tup xs),a.laid (t':=s1.toks) (fun b u e=>Heap.get?_push_of_some _ e) (Nat.le_refl _) ?_,rfl,q _ f⟩;exact⟨z,c,r,⟨_,Heap.get?_push_size _ rfl,rfl,_,rfl⟩⟩
end
abbrev Sp:=List V->Hp->VK->XK->Prop
abbrev CXT:=List Env->Hp->Shared->XK->Value->Shared->Prop
structure Env0(P:Program)(w:World)(K:W.Frag)(mg:Str->Option Value)(base:Heap)(A:Around)(outer:List Env)(s:Shared)(H:Hp):Prop where
 frames:A.frames=some outer
 mod:Mod K mg base
 bs:∀b o,base.get? b=some o->s.heap.get? b=some o/\H b=none
 bsz:base.objs.size <=s.heap.objs.size
 funs:s.heap.FunFrames base outer
 frf:∀b∈frs outer,H b=none
 hok:HOk P w H s.heap
 bare:AllBare s.gens
def CE(outer:List Env)(P:Program)(w:World)(H:Hp)(s:Shared)(Q:VK)(u:Value)(s':Shared):Prop:=
 ∃v H',s'.os=s.os/\AllBare s'.gens/\Un (frs outer) [] H H' s.heap s'.heap/\HOk P w H' s'.heap/\RelV v u/\Q v H'
def CR(CX:CXT)(outer:List Env)(P:Program)(w:World)(H:Hp)(s:Shared)(Q:VK)(E:XK)(r:Result)(s':Shared):Prop:=
 match r with
 | .ok (.ret u)=>CE outer P w H s Q u s'
 | .ok _=>False
 | .error e=>CX outer H s E e s'
structure FnOk(P:Program)(w:World)(K:W.Frag)(mg:Str->Option Value)(base:Heap)(CX:CXT)(k:Nat)(f:Addr)(fd:FuncData)(ps:List Str)(sp:Sp):Prop where
 len:∀vs H Q E,sp vs H Q E->vs.length=ps.length
 run:∀ (A:Around) (outer:List Env) (s:Shared) (H:Hp) (args:Args) (us:List Value) (vs:List V) (Q:VK) (E:XK),Room k A->Env0 P w K mg base A outer s H->BindsTo s fd args (ps.zip us)->Vals vs us->sp vs H Q E->
  codeAny (model P w) A (.call (.ref f) args) (CR CX outer P w H s Q E) s
theorem FnOk.imp{P:Program}{w:World}{K:W.Frag}{mg:Str->Option Value}{base:Heap}{CX:CXT}{k:Nat}{f:Addr}{fd:FuncData}{ps:List Str}{sp sp':Sp}(F:FnOk P w K mg base CX k f fd ps sp)
  (h:∀vs H Q E,sp' vs H Q E->sp vs H Q E):FnOk P w K mg base CX k f fd ps sp':=
 ⟨fun vs H Q E q=>F.len vs H Q E (h _ _ _ _ q),fun A outer s H a b vs Q E d e g c hs=>F.run A outer s H a b vs Q E d e g c (h _ _ _ _ hs)⟩
theorem Env0.make{P:Program}{w:World}{K:W.Frag}{mg:Str->Option Value}{base:Heap}{A:Around}{outer:List Env}{s:Shared}{H:Hp}(e:Env0 P w K mg base A outer s H)(C:Addr)(us:List Value)(kw:List (Str×Value)):
  Env0 P w K mg base (A.under (.builtin "type.__call__" ⟨.ref C::us,kw⟩)) outer s H:=⟨by first|exact e.frames|(simpa[Around.under,Code.envs,Code.isFrame,pushEnvs] using e.frames),e.mod,e.bs,e.bsz,e.funs,e.frf,e.hok,e.bare⟩
section
variable{X:Cx}{pins:List (Addr×Obj)}{σ:St}{H:Hp}{s s':Shared}
theorem Inv.env0(I:Inv X pins σ H s):Env0 X.prog X.w X.K X.mg X.base X.A X.stack s H:=
 ⟨I.ok.frames,I.ok.mod,I.bs,Nat.le_trans I.ok.bsz I.sz,I.stack,I.stkFree,I.hok,I.bare⟩
theorem Inv.after{Q:VK}{u:Value}(I:Inv X pins σ H s)(h:CE X.stack X.prog X.w H s Q u s'):EP X pins σ Q u s':=by
 obtain⟨v,H',os,a,un,e,r,q⟩:=h;obtain⟨f,g,d,t,c⟩:=s';obtain rfl:c=s.os:=os;exact⟨v,H',I.call (h':=f) (g':=g) (d':=d) (t':=t) (ch:=[]) un e a (fun b z=>absurd z (by simp)),r,q⟩
end
def Zhm(sp:Sp)(dvs:List V)(E:XK)(t:TA):TE:=fun σ H Q=>t σ H fun vs H1=>sp (vs++dvs) H1 Q E
def Zs0(C:Addr)(m:Str)(sp:Sp)(dvs:List V)(E:XK)(ta:TE)(t:TA):TE:=fun σ H Q=>ta σ H fun x H1=>∃a dx fs,x= .ref a/\H1 a=some (.ins C dx fs)/\fs.lookup m=none/\
 t σ H1 fun vs H2=>sp (x::(vs++dvs)) H2 Q E
def Zs2(C:Addr)(sp:Sp)(dvs:List V)(E:XK)(t:TA):TE:=fun σ H Q=>t σ H fun vs H1=>∀x dx,H1 x=none->H1 dx=none->dx≠x->
 sp (.ref x::(vs++dvs)) (upd (upd H1 dx (.own x)) x (.ins C dx [])) (fun v H2=>v= .non/\Q (.ref x) H2) E
def Binds(K:W.Frag)(fd:FuncData)(ps:List Str)(ds:List Value):Prop:=
 ∀ (s:Shared) (us:List Value),K.In s.heap->(us++ds).length=ps.length->BindsTo s fd ⟨us,[]⟩ (ps.zip (us++ds))
theorem Binds.all{K:W.Frag}{fd:FuncData}{ps:List Str}(h:∀us:List Value,us.length=ps.length->bindArgs fd ⟨us,[]⟩=pure (ps.zip us)):Binds K fd ps []:=fun s us _ a=>by
 rw[List.append_nil]at a ⊢;exact .of_eq (h us a)
def Zfw(CX:CXT)(X:Cx)(E:XK):Prop:=∀ (pins:List (Addr×Obj)) (σ:St) (H:Hp) (s:Shared) (e:Value) (s':Shared),Inv X pins σ H s->CX X.stack H s E e s'->X.xe e s'
section
variable{X:Cx}{CX:CXT}{k:Nat}{f C:Addr}{fd:FuncData}{ps:List Str}{sp:Sp}{dvs:List V}{ds:List Value}{E:XK}{x m:Str}{p pos apos:Pos}{e o:Expr}{es:List Expr}{ta:TE}{t:TA}
theorem Zqd{pins:List (Addr×Obj)}{σ:St}{H:Hp}{s:Shared}{Q:VK}{us:List Value}{vs:List V}(F:FnOk X.prog X.w X.K X.mg X.base CX k f fd ps sp)(hr:Room k X.A)(hb:Binds X.K fd ps ds)(hd:Vals dvs ds)(hx:Zfw CX X E)
  (I:Inv X pins σ H s) (r:Vals vs us) (h:sp (vs++dvs) H Q E):wpAny (model X.prog X.w) X.A (call (.ref f) us) (EP X pins σ Q) X.xe s:=by
 have b:Vals (vs++dvs) (us++ds):=r.append hd;have c:(us++ds).length=ps.length:=by rw[<-b.length];exact F.len _ _ _ _ h
 refine wpAny_call (codeAny_mono (F.run X.A X.stack s H ⟨us,[]⟩ (us++ds) (vs++dvs) Q E hr I.env0 (hb s us I.kIn c) b h) fun r s' a=>?_);cases r with
 |error e=>exact hx pins σ H s e s' I a
 |ok fl=>
  cases fl with
  |ret u=>exact I.after a
  |next=>exact False.elim a
  |brk=>exact False.elim a
  |cont=>exact False.elim a
theorem Zny(F:FnOk X.prog X.w X.K X.mg X.base CX k f fd ps sp)(hr:Room k X.A)(hg:Gl X x)(hm:X.mg x=some (.ref f))(hk:W.keepIn X.K (.ref f)=true)(hb:Binds X.K fd ps ds)(hd:Vals dvs ds)(hx:Zfw CX X E)
  (ha:PA X (e::es) t) (hdb:(x==("__debug__":Str))=false:=by decide) (he:starEach (e::es) X.env=(false,eval e X.env)::starEach es X.env:=by rfl) (hpl:(backTo pos (starEach es X.env)).any (·.1)=false:=by rfl):
  PE X (.Call (.Name x p) (e::es) [] pos) (Zhm sp dvs E t):=by
 intro pins s σ H Q I h;refine wpAny_Call_Name_kw (Zdo I hg hm ?_ hdb);refine W.callWith_K (h₀:=X.base) I.ok.mod.kin hk (thn (ha pos pins s σ H _ I h) fun b s1 ⟨vs,H1,a,r,q⟩=>⟨a.kIn,?_⟩) he hpl;exact Zqd F hr hb hd hx a r q
structure Mk(K:W.Frag)(C f:Addr):Prop where
 makes:W.makesIn K C=true
 init:W.findIn K (.ref C) "__init__"=some (some (.ref f))
 fn:W.isFn K (.ref f)=true
 kp:W.keepIn K (.ref C)=true
theorem Zlt{pins:List (Addr×Obj)}{σ:St}{H:Hp}{s:Shared}{Q:VK}{us:List Value}{vs:List V}(M:Mk X.K C f)(F:FnOk X.prog X.w X.K X.mg X.base CX k f fd ps sp)(hr:Room (k+ 1) X.A)(hb:Binds X.K fd ps ds)(hd:Vals dvs ds)
  (hx:Zfw CX X E) (I:Inv X pins σ H s) (r:Vals vs us)
  (h:∀x dx,H x=none->H dx=none->dx≠x->sp (.ref x::(vs++dvs)) (upd (upd H dx (.own x)) x (.ins C dx [])) (fun v H2=>v= .non/\Q (.ref x) H2) E):
  wpAny (model X.prog X.w) X.A (call (.ref C) us) (EP X pins σ Q) X.xe s:=by
 have d:=h (s.heap.objs.size+ 1) s.heap.objs.size (I.hok.fresh (Nat.le_succ _)) (I.hok.fresh (Nat.le_refl _)) (Nat.ne_of_lt (Nat.lt_succ_self _));have b:=Inv.made (C:=C) I;have c:Vals (V.ref (s.heap.objs.size+ 1)::(vs++dvs)) (Value.ref (s.heap.objs.size+ 1)::(us++ds)):=.cons rfl (r.append hd);have j:(Value.ref (s.heap.objs.size+ 1)::us++ds).length=ps.length:=by
  have e:=c.length;rw[F.len _ _ _ _ d]at e;exact e.symm
 refine wpAny_call (Zph (f := f) I.kIn M.makes M.init (beq_iff_eq.mp M.fn) (codeAny_mono (F.run _ X.stack _ _ ⟨Value.ref (s.heap.objs.size + 1) :: us, []⟩ (Value.ref (s.heap.objs.size + 1) :: (us ++ ds)) _ _ E (hr.make C us [])
  (b.env0.make C us []) (hb _ (Value.ref (s.heap.objs.size + 1) :: us) b.kIn j) c d) fun r s' a => ?_))
 cases r with
 |error e=>exact hx pins σ _ _ e s' b a
 |ok fl=>
  cases fl with
  |ret u=>
   obtain⟨v,H',m,g,l,i⟩:=b.after a;subst l;exact⟨g,⟨V.ref (s.heap.objs.size+ 1),H',m,rfl,i⟩⟩
  |next=>exact False.elim a
  |brk=>exact False.elim a
  |cont=>exact False.elim a
end
section
variable{X:Cx}{CX:CXT}{k:Nat}{f C:Addr}{fd:FuncData}{ps ks:List Str}{sp:Sp}{E:XK}{x m:Str}{p pos apos kpos:Pos}{e o:Expr}{es:List Expr}{kws:List Keyword}{te ta:TE}{t tk:TA}{nm:Option Str}
structure KBinds(K:W.Frag)(fd:FuncData)(ps ks:List Str)(g:List Value->List Value->List Value)(gV:List V->List V->List V):Prop where
 to:∀ (s:Shared) (us ws:List Value),K.In s.heap->(g us ws).length=ps.length->BindsTo s fd ⟨us,ks.zip ws⟩ (ps.zip (g us ws))
 rel:∀{vs:List V} {us:List Value} {zs:List V} {ws:List Value},Vals vs us->Vals zs ws->Vals (gV vs zs) (g us ws)
variable{g:List Value->List Value->List Value}{gV:List V->List V->List V}
end
structure Zaq(N P:List Str)(sc:Scope):Prop where
 kind:sc.kind= .function
 co:sc.isCoroutine=false
 gen:sc.isGenerator=false
 nd:N.Nodup
 pre:N.take P.length=P
 par:∀x∈P,sc.names.lookup x=some .local\/sc.names.lookup x=some .cell
 nofree:∀y∈sc.names,y.2≠ .free
theorem Zjv{kindOf:Str->Option NameKind}{x:Str}:∀{binds:List (Str×Value)} {m:Str->Option Value},(∀v,(x,v)∉binds)->bindL kindOf binds m x=m x
 |[],_,_=>rfl
 |(n,v)::r,m,h=>by
  unfold bindL;rw[Zjv fun w hw=>h w (List.mem_cons_of_mem _ hw)]
  split
  ·have:x≠n:=by rintro rfl;exact h v List.mem_cons_self
   simp[this]
  ·rfl
theorem Zjx{kindOf:Str->Option NameKind}{x:Str}:∀{binds:List (Str×Value)} {m:Str->Option Value},(∀v,(x,v)∉binds)->bindC kindOf binds m x=m x
 |[],_,_=>rfl
 |(n,v)::r,m,h=>by
  unfold bindC;rw[Zjx fun w hw=>h w (List.mem_cons_of_mem _ hw)]
  split
  ·rfl
  ·have:x≠n:=by rintro rfl;exact h v List.mem_cons_self
   simp[this]
theorem Zjw{kindOf:Str->Option NameKind}{x:Str}{v:Value}:∀{P:List Str} {vs:List Value} {i:Nat} {m:Str->Option Value},P.Nodup->P[i]?=some x->vs[i]?=some v->kindOf x=some .local->
  bindL kindOf (P.zip vs) m x=some v
 |[],_,_,_,_,h,_,_=>by simp at h
 |_::_,[],_,_,_,_,h,_=>by simp at h
 |p::P,w::vs,0,m,nd,h1,h2,hk=>by
  simp at h1 h2;subst h1;subst h2;show bindL kindOf ((p,w)::P.zip vs) m p=_;unfold bindL;rw[Zjv fun v hv=>(List.nodup_cons.mp nd).1 (List.of_mem_zip hv).1,if_pos hk];simp
 |p::P,w::vs,i+ 1,m,nd,h1,h2,hk=>by
  show bindL kindOf ((p,w)::P.zip vs) m x=_;unfold bindL;exact Zjw (i:=i) (List.nodup_cons.mp nd).2 (by simpa using h1) (by simpa using h2) hk
theorem Zjy{kindOf:Str->Option NameKind}{x:Str}{v:Value}:∀{P:List Str} {vs:List Value} {i:Nat} {m:Str->Option Value},P.Nodup->P[i]?=some x->vs[i]?=some v->kindOf x≠some .local->
  bindC kindOf (P.zip vs) m x=some v
 |[],_,_,_,_,h,_,_=>by simp at h
 |_::_,[],_,_,_,_,h,_=>by simp at h
 |p::P,w::vs,0,m,nd,h1,h2,hk=>by
  simp at h1 h2;subst h1;subst h2;show bindC kindOf ((p,w)::P.zip vs) m p=_;unfold bindC;rw[Zjx fun v hv=>(List.nodup_cons.mp nd).1 (List.of_mem_zip hv).1,if_neg hk];simp
 |p::P,w::vs,i+ 1,m,nd,h1,h2,hk=>by
  show bindC kindOf ((p,w)::P.zip vs) m x=_;unfold bindC;exact Zjy (i:=i) (List.nodup_cons.mp nd).2 (by simpa using h1) (by simpa using h2) hk
def start(N:List Str)(vs:List V):St:=vs.map some++List.replicate (N.length - vs.length) none
def cxOf(CX:CXT)(P:Program)(w:World)(K:W.Frag)(mg:Str->Option Value)(base:Heap)(N:List Str)(qual:Str)(scope:Scope)(f:Addr)(cd:Value)(A:Around)(outer:List Env)(s:Shared)(H:Hp)(E:XK):Cx where
 prog:=P
 w:=w
 K:=K
 mg:=mg
 base:=base
 A:=A.deeper (envOfC qual scope s.heap.objs.size f cd)
 N:=N
 s₀:=s
 H₀:=H
 env:=envOfC qual scope s.heap.objs.size f cd
 outer:=outer
 stack:=envOfC qual scope s.heap.objs.size f cd::outer
 ex:=[]
 calm:=true
 fn:=fun _=>true
 pn:=[]
 xe:=fun e s'=>wpAny (model P w) (A.deeper (envOfC qual scope s.heap.objs.size f cd)) (leaving (envOfC qual scope s.heap.objs.size f cd) e) (fun _ s''=>CX outer H s E e s'') (fun e' s''=>CX outer H s E e' s'') s'
theorem Zma{sc:Scope}{n:Nat}{x:Str}(h:sc.names.lookup x=some .cell):∃c,(cellsFrom n sc.names []).lookup x=some c:=by
 have q:=W.cellsFrom_some sc.names n [] (.inl h);exact Option.isSome_iff_exists.mp q
theorem Zjh{CX:CXT}{P:Program}{w:World}{K:W.Frag}{mg:Str->Option Value}{base:Heap}{N ps:List Str}{qual:Str}{scope:Scope}{f:Addr}{cd:Value}{A:Around}{outer:List Env}{s s1:Shared}{H:Hp}{E:XK}{us:List Value}{vs:List V}
  (S:Zaq N ps scope) (hd:A.handled=none) (e0:Env0 P w K mg base A outer s H) (hl:vs.length=ps.length) (r:Vals vs us)
  (x:InCallC s s.heap.objs.size (bindL (envOfC qual scope s.heap.objs.size f cd).kindOf (ps.zip us) fun _=>none) (cellsFrom (s.heap.objs.size+ 1) scope.names []) (bindC (envOfC qual scope s.heap.objs.size f cd).kindOf (ps.zip us) fun _=>none) s1):
  Inv (cxOf CX P w K mg base N qual scope f cd A outer s H E) [] (start N vs) H s1:=by
 have hpl:ps.length <=N.length:=by have:=congrArg List.length S.pre;rw[List.length_take]at this;omega
 obtain⟨h1,tk,rfl,o⟩:=x.done;have g:∀b:Addr,b∉(cxOf CX P w K mg base N qual scope f cd A outer s H E).ex:=fun b z=>absurd (show b∈([]:List Addr) from z) (by simp)
 refine ⟨⟨e0.mod, S.kind, rfl, rfl, Nat.le_refl _, fun y z c h1 h2 => ?_, fun y d => ?_, fun y c _ h => ?_, fun _ => hd, Around.frames_deeper e0.frames, .inr ⟨rfl, rfl⟩, fun b z => absurd z (g b), e0.bs, e0.bsz, fun b _ _ => g b, fun b z => absurd z (g b), e0.funs, e0.frf⟩,
  rfl, e0.bare, Un.kept o, ⟨_, x.toInCall.ns, fun i y v h1 h2 h3 => ?_⟩, fun y c h => ⟨_, x.cell y c h⟩, e0.hok.fresh (Nat.le_refl _), fun y c h => ?_, fun p j => absurd (show p ∈ ([] : List (Addr × Obj)) from j) (by simp), e0.hok.kept o, ?_⟩
 ·exact name_of_addr x.apart (PySem.mem_of_lookup h1) (PySem.mem_of_lookup h2)
 ·have d:scope.names.lookup y=some .cell\/scope.names.lookup y=some .free:=d;rcases d with d|d
  ·exact Zma d
  ·exact absurd rfl (S.nofree _ (PySem.mem_of_lookup d))
 ·exact Nat.le_of_lt (x.above y c (PySem.mem_of_lookup h))
 ·have hi:i < vs.length:=by
   unfold start at h2
   by_cases hi:i < vs.length
   ·exact hi
   ·rw[List.getElem?_append_right (by simpa using hi)]at h2;rw[List.getElem?_replicate]at h2
    split at h2 <;> cases h2
  have ha:vs[i]?=some v:=by
   unfold start at h2;rw[List.getElem?_append_left (by simpa using hi),List.getElem?_map]at h2;cases e:vs[i]? with
   |none=>rw[e]at h2;cases h2
   |some a=>rw[e]at h2;cases h2;rfl
  obtain⟨u,m,t⟩:=r.get ha;have j:ps[i]?=some y:=by
   rw[<-S.pre,List.getElem?_take_of_lt (by omega)];exact h1
  have l:ps.Nodup:=by rw[<-S.pre];exact S.nd.sublist (List.take_sublist _ _)
  refine⟨u,t,?_⟩;rcases S.par y (List.mem_of_getElem? j) with k|k
  ·exact .inl ⟨k,Zjw l j m k⟩
  ·obtain⟨c,e⟩:=Zma (n:=s.heap.objs.size+ 1) k;refine .inr ⟨.inl k,c,e,?_⟩;have q:=x.cell y c e;rw[Zjy l j m (by show scope.names.lookup y≠_;rw[k];decide)]at q;exact q
 ·exact e0.hok.fresh (Nat.le_of_lt (x.above y c (PySem.mem_of_lookup h)))
 ·unfold start;show _=N.length;rw[List.length_append,List.length_map,List.length_replicate];omega
theorem Zpq{CX:CXT}{P:Program}{w:World}{K:W.Frag}{mg:Str->Option Value}{base:Heap}{k:Nat}{f:Addr}{name qual:Str}{params:Arguments}{body:List Stmt}{scope:Scope}{dV kV doc pm cdv ct oc:Value}{an od:Option Addr}
  {osl:Array (Option Value)} {N ps:List Str} {sp:Sp} (lk:K.lookup f=some ⟨oc,od,.func (W.fnOf name qual params body scope dV kV doc pm an cdv ct),osl⟩) (hcd:W.codeIn K cdv qual=true) (S:Zaq N ps scope)
  (len:∀vs H Q E,sp vs H Q E->vs.length=ps.length)
  (hbody : ∀ (A : Around) (outer : List Env) (s : Shared) (H : Hp) (vs : List V) (Q : VK) (E : XK), Room k (A.deeper (envOfC qual scope s.heap.objs.size f cdv)) -> sp vs H Q E ->
   ∃ t, PSs (cxOf CX P w K mg base N qual scope f cdv A outer s H E) body t /\ t { nx := fun _ H' => Q .non H', rt := Q } (start N vs) H) :
  FnOk P w K mg base CX (k+ 1) f (W.fnOf name qual params body scope dV kV doc pm an cdv ct) ps sp:=by
 refine⟨len,fun A outer s H args m vs Q E i a hb r d=>?_⟩;have hl:=len _ _ _ _ d;have l:K.In s.heap:=a.mod.kin.keeps fun b o e=>(a.bs b o e).1
 have j:s.heap.NoLimit:=a.mod.nolimit.keeps fun b o e=>(a.bs b o e).1
 have c:∀y∈ps.zip m,scope.names.lookup y.1=some .local\/(scope.names.lookup y.1=some .cell/\((cellsFrom (s.heap.objs.size+ 1) scope.names []).lookup y.1).isSome=true):=fun⟨n,v⟩ hy=>by
  rcases S.par n (List.of_mem_zip hy).1 with q|q
  ·exact .inl q
  ·exact .inr ⟨q,W.cellsFrom_some _ _ _ (.inl q)⟩
 refine codeAny_call_function i.depth (l _ _ lk) rfl S.co S.gen rfl (W.codeRec_of l hcd) (hb _ _ _ _ ?_);refine wpAny_newFunctionEnv_cells S.kind c fun env he s1 x=>?_
 subst he;refine⟨j.keeps x.toInCall.keep,codeAny_func ?_⟩;obtain⟨t,p,z⟩:=hbody A outer s H vs Q E (i.deeper _) d;have I:Inv (cxOf CX P w K mg base N qual scope f cdv A outer s H E) [] (start N vs) H s1:=Zjh S i.hd a hl r x;refine wpAny_mono (p [] s1 (start N vs) H _ I z) (fun fl s' hs=>?_) fun e s' hs=>hs
 have g:∀{σ':St} {H':Hp} {v:V} {u:Value},Inv (cxOf CX P w K mg base N qual scope f cdv A outer s H E) [] σ' H' s'->RelV v u->Q v H'->CE outer P w H s Q u s':=
  fun {σ' H' v u} J h q=>⟨v,H',J.os,J.bare,J.base,J.hok,h,q⟩
 cases fl with
 |ret u=>
  obtain⟨v,σ',H',J,h,q⟩:=hs;exact g J h q
 |next=>
  obtain⟨σ',H',J,q⟩:=hs;exact g (v:=V.non) (u:=Value.none) J rfl q
 |brk=>
  obtain⟨_,_,_,q⟩:=hs;exact False.elim q
 |cont=>
  obtain⟨_,_,_,q⟩:=hs;exact False.elim q
section
variable{X:Cx}{x:Str}{p pos:Pos}{e:Expr}{es:List Expr}{t:TA}{id T:String}{r:List V->Hp->VK->Prop}
def tCB(r:List V->Hp->VK->Prop)(t:TA):TE:=fun σ H Q=>t σ H fun vs H1=>r vs H1 Q
theorem Zas(hc:Zd4 X (.builtin id) r)(hg:Gl X x)(hm:X.mg x=none)(hv:bootBuiltins x=some (.builtin id))(ha:PA X (e::es) t)(hn:x≠"__name__":=by decide)(hdb:(x==("__debug__":Str))=false:=by decide)
  (he:starEach (e::es) X.env=(false,eval e X.env)::starEach es X.env:=by rfl) (hpl:(backTo pos (starEach es X.env)).any (·.1)=false:=by rfl):PE X (.Call (.Name x p) (e::es) [] pos) (tCB r t):=by
 intro pins s σ H Q I h;refine wpAny_Call_Name_kw (Zjc I hg hm hv ?_ hn hdb);exact PyProof.Rows.callWith_builtin1 (thn (ha pos pins s σ H _ I h) fun a s1 ⟨vs,H1,d,b,c⟩=>hc pins s1 σ H1 vs a Q d b c) he hpl
theorem Zbz(hc:Zd4 X (.type T) r)(hg:Gl X x)(hm:X.mg x=none)(hv:bootBuiltins x=some (.type T))(ha:PA X (e::es) t)(hn:x≠"__name__":=by decide)(hdb:(x==("__debug__":Str))=false:=by decide)
  (he:starEach (e::es) X.env=(false,eval e X.env)::starEach es X.env:=by rfl) (hpl:(backTo pos (starEach es X.env)).any (·.1)=false:=by rfl):PE X (.Call (.Name x p) (e::es) [] pos) (tCB r t):=by
 intro pins s σ H Q I h;refine wpAny_Call_Name_kw (Zjc I hg hm hv ?_ hn hdb);exact PyProof.Rows.callWith_type1 (thn (ha pos pins s σ H _ I h) fun a s1 ⟨vs,H1,d,b,c⟩=>hc pins s1 σ H1 vs a Q d b c) he hpl
end
end L2
namespace HT
open PySem PyProof.Rows
def Zvl:List Int->List Int->Bool
 |[],[]=>false
 |[],_::_=>true
 |_::_,[]=>false
 |x::xs,y::ys=>if x=y then Zvl xs ys else decide (x < y)
section
open PySem.SeqAt
open PySem.AutoSeq1 (wpAny_loadPart')
open PySem.MeetsSeq PySem.MeetsSeq2 PySem.MeetsSeq3
end
section
variable{prog:Program}{w:World}{A:Around}{E:Value->Shared->Prop}{s:Shared}
def sIx(n d:Nat):Option Int->Nat
 |none=>d
 |some v=>if v < 0 then(v+ (n:Int)).toNat else min v.toNat n
end
end HT
namespace L2
open PySem PySem.Spec PyProof.Rows
abbrev TO:=St->Hp->(Option Int->Hp->Prop)->Prop
def PO(X:Cx)(e:Option Expr)(t:TO):Prop:=
 ∀ (pins:List (Addr×Obj)) (s:Shared) (σ:St) (H:Hp) (Q:Option Int->Hp->Prop),Inv X pins σ H s->t σ H Q->
  wpAny (model X.prog X.w) X.A (evalPart e X.env) (fun u s'=>∃o H',Inv X pins σ H' s'/\IsPart u o/\Q o H') X.xe s
def Zj5:TO:=fun _ H Q=>Q none H
def Zq0(t:TE):TO:=fun σ H Q=>t σ H fun x H1=>∃i,x= .int i/\Q (some i) H1
section
variable{X:Cx}{e:Expr}{te:TE}{lo hi:Option Expr}{tl th:TO}{pos p2:Pos}
theorem Zkm:PO X none Zj5:=by
 intro pins s σ H Q I h;rw[evalPart_none];exact wpAny_pure ⟨none,H,I,.none,h⟩
theorem Zkl(h:PE X e te):PO X (some e) (Zq0 te):=by
 intro pins s σ H Q I c;rw[evalPart_some];refine thn (h pins s σ H _ I c) fun u s1 ⟨x,H1,d,a,b⟩=>?_
 obtain⟨i,rfl,q⟩:=b;obtain⟨t,rfl⟩:=a;exact⟨some i,H1,d,.int i t,q⟩
def SlR(X:Cx)(r:V->Option Int->Option Int->Hp->VK->Prop):Prop:=
 ∀ (pins:List (Addr×Obj)) (s:Shared) (σ:St) (H:Hp) (x:V) (v vl vu:Value) (lo hi:Option Int) (sl:Addr) (Q:VK),Inv X pins σ H s->RelV x v->s.heap.IsSliceOf sl vl vu .none->IsPart vl lo->IsPart vu hi->r x lo hi H Q->
  ∃T id,typeLookup (.type T) "__getitem__"=pure (some (.builtin id))/\s.TypeIs v T/\wpAny (model X.prog X.w) X.A (getItem v (.ref sl)) (EP X pins σ Q) X.xe s
def tSl(r:V->Option Int->Option Int->Hp->VK->Prop)(te:TE)(tl th:TO):TE:=fun σ H Q=>te σ H fun x H1=>tl σ H1 fun l H2=>th σ H2 fun u H3=>r x l u H3 Q
theorem Zh6{r:V->Option Int->Option Int->Hp->VK->Prop}(hr:SlR X r)(he:PE X e te)(hl:PO X lo tl)(hu:PO X hi th):PE X (.Subscript e (.Slice lo hi none p2) pos) (tSl r te tl th):=by
 intro pins s σ H Q I h;refine Subscript_ (thn (he pins s σ H _ I h) fun v s1 ⟨x,H1,I1,g,k⟩=>?_);refine wpAny_Slice (thn (hl pins s1 σ H1 _ I1 k) fun d s2 ⟨l,H2,I2,n,j⟩=>thn (hu pins s2 σ H2 _ I2 j) fun c a ⟨u,f,z,m,i⟩=>?_);rw[evalPart_none];refine wpAny_pure ?_;have y:Inv X pins σ f {a with heap:=a.heap.push {cls:=.type "slice",data:=.fields #[d,c,.none]}}:=z.kept (t':=a.toks) fun b ob q=>Heap.get?_push_of_some _ q
 obtain⟨T,id,t,o,p⟩:=hr pins {a with heap:=a.heap.push {cls:=.type "slice",data:=.fields #[d,c,.none]}} σ f x v d c l u a.heap.objs.size Q y g (Heap.IsSliceOf.new ..) n m i;show wpAny (model X.prog X.w) X.A (subscriptTail e (.Slice lo hi none p2) v (.ref a.heap.objs.size)) (EP X pins σ Q) X.xe {a with heap:=a.heap.push {cls:=.type "slice",data:=.fields #[d,c,.none]}};exact tail_any (ops:=[.ref a.heap.objs.size,v]) o t p (by with_unfolding_all rfl)
def Zun(xs:List V)(lo hi:Option Int):List V:=(xs.drop (HT.sIx xs.length 0 lo)).take (HT.sIx xs.length xs.length hi - HT.sIx xs.length 0 lo)
theorem Zk4(xs:List V)(lo hi:Option Int):(Zun xs lo hi).length <=xs.length:=by
 unfold Zun;rw[List.length_take,List.length_drop];omega
end
def ixN(n:Nat)(i:Int):Option Nat:=if 0 <=i then(if i < n then some i.toNat else none) else if -(n:Int) <=i then some (i+ n).toNat else none
def atI{α:Type}(xs:List α)(i:Int):Option α:=(ixN xs.length i).bind fun j=>xs[j]?
theorem Zk1{n:Nat}{i:Int}{j:Nat}(h:ixN n i=some j):seqIndex? i n=some j/\j < n/\ -(n:Int) <=i/\i < n:=by
 unfold ixN at h
 by_cases h0:0 <=i
 ·rw[if_pos h0]at h
  by_cases h1:i < n
  ·rw[if_pos h1]at h;have e:i.toNat=j:=Option.some.inj h;exact⟨by rw[seqIndex_of h0 h1,e],by omega,by omega,h1⟩
  ·rw[if_neg h1]at h;cases h
 ·rw[if_neg h0]at h
  by_cases h1: -(n:Int) <=i
  ·rw[if_pos h1]at h;have e:(i+ n).toNat=j:=Option.some.inj h;exact⟨by rw[seqIndex_neg (by omega) h1,e],by omega,h1,by omega⟩
  ·rw[if_neg h1]at h;cases h
theorem Zk7{α:Type}{xs:List α}{i:Int}{v:α}(h:atI xs i=some v):∃j,seqIndex? i xs.length=some j/\xs[j]?=some v/\j < xs.length/\ -(xs.length:Int) <=i/\i < xs.length:=by
 unfold atI at h;cases e:ixN xs.length i with
 |none=>rw[e]at h;cases h
 |some j=>
  rw[e]at h;obtain⟨h1,h2,b,a⟩:=Zk1 e;exact⟨j,h1,h,h2,b,a⟩
theorem Zar{α:Type}{xs:List α}{j:Nat}{v:α}(h:xs[j]?=some v):atI xs (j:Int)=some v:=by
 have a:j < xs.length:=(List.getElem?_eq_some_iff.mp h).1;have e:ixN xs.length (j:Int)=some j:=by
  unfold ixN;rw[if_pos (by omega),if_pos (by omega)];simp
 unfold atI;rw[e];exact h
def Zsn(b:Expr):Prop:=∀o i,subscripted b false o i=operate [o,i] (getItem o i)
def IxR(X:Cx)(r:R2):Prop:=
 ∀ (value slice:Expr) (pins:List (Addr×Obj)) (s:Shared) (σ:St) (H:Hp) (x y:V) (v u:Value) (Q:VK),Inv X pins σ H s->RelV x v->RelV y u->r x y H Q->
  subscripted slice false v u=operate [v,u] (getItem v u)->wpAny (model X.prog X.w) X.A (subscriptTail value slice v u) (EP X pins σ Q) X.xe s
def MtR(X:Cx)(id:String)(r:V->List V->Hp->VK->Prop):Prop:=
 ∀ (pins:List (Addr×Obj)) (s:Shared) (σ:St) (H:Hp) (x:V) (xs:List V) (v:Value) (us:List Value) (Q:VK),Inv X pins σ H s->RelV x v->Vals xs us->r x xs H Q->
  wpAny (model X.prog X.w) X.A (call (.builtin id) (v::us)) (EP X pins σ Q) X.xe s
section
variable{X:Cx}{a b:Expr}{ta tb:TE}{pos:Pos}
theorem Za2{r:R2}(hr:IxR X r)(ha:PE X a ta)(hb:PE X b tb)(hs:Zsn b):PE X (.Subscript a b pos) (tOp r ta tb):=by
 intro pins s σ H Q I h;exact Subscript_ (Zvt ha hb I h fun v u s2 x y H2 e d c q=>hr a b pins s2 σ H2 x y v u Q e d c q (hs _ _))
def Zu0(K:W.Frag):R2:=fun x y H Q=>∃p xs i v,x= .ref p/\y= .int i/\SqL K H p xs/\atI xs i=some v/\Q v H
def Zuz(K:W.Frag):R2:=fun x y H Q=>∃p xs i v,x= .ref p/\y= .int i/\SqT K H p xs/\atI xs i=some v/\Q v H
def Ztm:R2:=fun x y H Q=>∃z i c,x= .str z/\y= .int i/\z.length <=sizeLine/\atI z.cps.toList i=some c/\Q (.str ⟨#[c]⟩) H
theorem Zr3:IxR X (Zu0 X.K):=by
 intro value g pins s σ H x y v u Q I l k h hs;obtain⟨p,xs,i,z,rfl,rfl,m,o,q⟩:=h;cases l;obtain⟨t,rfl⟩:=k;obtain⟨e,r,b,hz⟩:=I.list m;obtain⟨j,h1,h2,h3,h4,h5⟩:=Zk7 o;obtain⟨w,f,d⟩:=r.get h2;have n:=r.length;have hn:=Zhf;have a:EP X pins σ Q w s:=⟨z,H,I,d,q⟩
 by_cases h0:0 <=i
 ·have c:i.toNat=j:=by
   rw[seqIndex_of h0 h5]at h1;exact Option.some.inj h1
  exact item_listR b.isList h0 (by omega) (by rw[c];simpa using f) a hs
 ·have c:(i+ (e.toArray.size:Int)).toNat=j:=by
   rw[seqIndex_neg (by omega) h4]at h1;rw[List.size_toArray,<-n];exact Option.some.inj h1
  exact subscriptTail_builtinR (x:=w) b.isList.typeIs slot_list_getitem.lookup
   (wpAny_getItem_list_neg (Q:=fun r s'=>r=w/\EP X pins σ Q r s') b.isList (by omega) (by rw[List.size_toArray] <;> omega) (by omega) (by rw[c];simpa using f) ⟨rfl,a⟩) hs
theorem Zuh:IxR X (Zuz X.K):=by
 intro value d pins s σ H x y v u Q I f e h hs;obtain⟨p,xs,i,z,rfl,rfl,g,l,q⟩:=h;cases f;obtain⟨t,rfl⟩:=e;obtain⟨n,r,b,o⟩:=I.tuple g;obtain⟨j,h1,h2,h3,h4,h5⟩:=Zk7 l;obtain⟨w,m,a⟩:=r.get h2;have k:=r.length;have hn:=Zhf;have c:EP X pins σ Q w s:=⟨z,H,I,a,q⟩;exact subscriptTail_builtinR (x:=w) b.typeIs slot_tuple_getitem.lookup
  (getItem_tuple (j:=j) (Q:=fun r s'=>r=w/\EP X pins σ Q r s') b (by omega) (by omega) (by rw[List.size_toArray,<-k];exact h1) (by simpa using m) ⟨rfl,c⟩) hs
theorem Zgo:IxR X Ztm:=by
 intro value a pins s σ H x y v u Q I d b h hs;obtain⟨z,i,c,rfl,rfl,n,f,q⟩:=h;obtain⟨t,rfl⟩:=d;obtain⟨m,rfl⟩:=b;obtain⟨j,h1,h2,p,g,h5⟩:=Zk7 f;have e:z.cps.toList.length=z.length:=by simp[Str.length]
 rw [e] at h1 g h5;have o := Zhf;exact tail_any (typeIs_str s z t) slot_str_getitem.lookup (getItem_str (c := c) (by
  have l : decide (i < -(2 ^ 63 : Int)) = false := decide_eq_false (by omega);have k : decide (i ≥ 2 ^ 63) = false := decide_eq_false (by omega);rw [l, k, Bool.or_false]) (by rw [h1]; simpa using h2) ⟨.str ⟨#[c]⟩, H, I.tok _, ⟨_, rfl⟩, q⟩) hs
theorem Zmq(its:List Value)(n j:Nat)(u:Value):Obj.mapSeq (·.setIfInBounds j u) {cls:=.type "list",data:=.seq its.toArray n}={cls:=.type "list",data:=.seq (its.set j u).toArray n}:=by
 simp[Obj.mapSeq]
theorem Inv.lst{pins:List (Addr×Obj)}{σ:St}{H:Hp}{s:Shared}{p:Addr}{xs:List V}(I:Inv X pins σ H s)(h:H p=some (.lst xs)):
  ∃ (its:List Value) (n:Nat),Vals xs its/\s.heap.get? p=some {cls:=.type "list",data:=.seq its.toArray n}/\xs.length <=sizeLine:=by
 obtain⟨z,its,n,r,e⟩:=I.hok p _ h;exact⟨its,n,r,e,z⟩
theorem Inv.lstUpd{pins:List (Addr×Obj)}{σ:St}{H:Hp}{s:Shared}{p:Addr}{xs ys:List V}{its its':List Value}{n n':Nat}{f:Obj->Obj}(I:Inv X pins σ H s)(h:H p=some (.lst xs))
  (ho:s.heap.get? p=some {cls:=.type "list",data:=.seq its.toArray n}) (hf:f {cls:=.type "list",data:=.seq its.toArray n}={cls:=.type "list",data:=.seq its'.toArray n'}) (r:Vals ys its') (hz:ys.length <=sizeLine) (t:Nat):
  Inv X pins σ (upd H p (.lst ys)) {s with heap:=s.heap.update p f,toks:=t}:=by
 have e:(s.heap.update p f).get? p=some {cls:=.type "list",data:=.seq its'.toArray n'}:=by
  rw[Heap.get?_update_self f ho (by rw[hf] <;> rfl),hf]
 refine I.write (x:=p) (e:=p) (by rw[h];trivial) (.inl rfl) (fun b u a q=>(Heap.get?_update_other _ _ (Ne.symm a)).trans q) ⟨_,e⟩ ?_;exact⟨hz,its',n',r,e⟩
def Zrh:V->V->V->Hp->(Hp->Prop)->Prop:=fun o i v H Q=>∃p xs k j,o= .ref p/\i= .int k/\H p=some (.lst xs)/\ixN xs.length k=some j/\Q (upd H p (.lst (xs.set j v)))
theorem set_list:PSet X Zrh:=by
 intro pins s σ H o i v ov iv u Q I w x m h;obtain⟨p,xs,k,j,rfl,rfl,e,z,q⟩:=h;cases w;obtain⟨t,rfl⟩:=x;obtain⟨a,n,r,b,y⟩:=I.lst e;obtain⟨h1,h2,g,f⟩:=Zk1 z;have c:=r.length;have hn:=Zhf;have l:Inv X pins σ (upd H p (.lst (xs.set j v))) {s with heap:=s.heap.update p (Obj.mapSeq (·.setIfInBounds j u))}:=
  I.lstUpd e b (Zmq a n j u) (r.set m j) (by rw[List.length_set];exact y) s.toks
 by_cases h0:0 <=k
 ·have d:k.toNat=j:=by
   rw[seqIndex_of h0 f]at h1;exact Option.some.inj h1
  exact W.ki_setAt b h0 (by omega) (by rw[List.size_toArray,<-c];exact f) (by rw[d];exact⟨_,l,q⟩)
 ·have d:(k+ (a.toArray.size:Int)).toNat=j:=by
   rw[seqIndex_neg (by omega) g]at h1;rw[List.size_toArray,<-c];exact Option.some.inj h1
  exact W.ki_setBack b (by omega) (by rw[List.size_toArray,<-c];exact g) (by omega) (by rw[d];exact⟨_,l,q⟩)
theorem Ziu(lo hi:Option Int)(n:Nat):(sliceBounds lo hi none n).1=((HT.sIx n 0 lo:Nat):Int)/\(sliceBounds lo hi none n).2.1=((HT.sIx n n hi:Nat):Int)/\(sliceBounds lo hi none n).2.2=1:=by
 refine⟨?_,?_,rfl⟩
 ·cases lo with
  |none=>simp[sliceBounds,HT.sIx]
  |some i=>
   simp only[sliceBounds,HT.sIx,Option.getD_none,show(1:Int) > 0 by decide,if_true]
   by_cases h:i < 0
   ·simp only[h,if_true] <;> omega
   ·simp only[h,if_false] <;> omega
 ·cases hi with
  |none=>simp[sliceBounds,HT.sIx]
  |some i=>
   simp only[sliceBounds,HT.sIx,Option.getD_none,show(1:Int) > 0 by decide,if_true]
   by_cases h:i < 0
   ·simp only[h,if_true] <;> omega
   ·simp only[h,if_false] <;> omega
theorem Zht(its:List Value)(lo hi:Option Int):slicePick its.toArray lo hi none=((its.drop (HT.sIx its.length 0 lo)).take (HT.sIx its.length its.length hi - HT.sIx its.length 0 lo)).toArray:=by
 obtain⟨h1,h2,a⟩:=Ziu lo hi its.toArray.size;unfold slicePick;rw[h1,h2,a];simp only[sliceRange_one,pick_run,List.size_toArray] <;> rfl
def Zuy(K:W.Frag):V->Option Int->Option Int->Hp->VK->Prop:=fun x lo hi H Q=>∃a xs,x= .ref a/\SqL K H a xs/\∀p,H p=none->Q (.ref p) (upd H p (.lst (Zun xs lo hi)))
theorem Zrb:SlR X (Zuy X.K):=by
 intro pins s σ H x v l k lo hi m Q I e hs g f h;obtain⟨a,xs,rfl,hx,q⟩:=h;cases e;obtain⟨j,r,d,i⟩:=I.list hx;have c:=r.length;refine⟨"list",_,slot_list_getitem.lookup,d.isList.typeIs,?_⟩;refine wpAny_getItem_list_slice d.isList hs g f .none (by simp) ?_ (by rw[List.size_toArray] <;> omega);rw[Zht,<-c];refine⟨.ref s.heap.objs.size,_,I.laid (t':=s.toks) (o:=.lst (Zun xs lo hi)) (fun b n q=>Heap.get?_push_of_some _ q) (Nat.le_refl _) ?_,rfl,q _ (I.hok.fresh (Nat.le_refl _))⟩;exact⟨Nat.le_trans (Zk4 xs lo hi) i,_,0,(r.drop (HT.sIx xs.length 0 lo)).take (HT.sIx xs.length xs.length hi - HT.sIx xs.length 0 lo),Heap.get?_push_size _ rfl⟩
def Zjk:V->Bool
 | .non=>true
 | .bl _=>true
 | .int _=>true
 | .str _=>true
 |_=>false
def eqV:V->V->Bool
 | .non,.non=>true
 | .bl a,.bl b=>a==b
 | .bl a,.int b=>(if a then 1 else 0)==b
 | .int a,.bl b=>a==(if b then 1 else 0)
 | .int a,.int b=>a==b
 | .str a,.str b=>a==b
 |_,_=>false
theorem Zum{A:Around}{s:Shared}{y x:V}{u v:Value}(ry:RelV y u)(rx:RelV x v)(fy:Zjk y=true)(fx:Zjk x=true):SeqAt.EqAt A s u v (eqV y x):=by
 cases y with
 |non=>
  cases ry;cases x with
  |non=>cases rx;exact SeqAt.EqAt.same _
  |bl b=>cases rx;exact SeqAt.EqAt.none_bool b
  |int b=>obtain⟨t,rfl⟩:=rx;exact SeqAt.EqAt.none_int b t
  |str b=>obtain⟨t,rfl⟩:=rx;exact SeqAt.EqAt.none_str b t
  |_=>exact absurd (show false=true from fx) Bool.false_ne_true
 |bl a=>
  cases ry;cases x with
  |non=>cases rx;exact SeqAt.EqAt.bool_none a
  |bl b=>cases rx;exact SeqAt.EqAt.bool_bool a b
  |int b=>obtain⟨t,rfl⟩:=rx;exact SeqAt.EqAt.bool_int a b t
  |str b=>obtain⟨t,rfl⟩:=rx;exact SeqAt.EqAt.bool_str a b t
  |_=>exact absurd (show false=true from fx) Bool.false_ne_true
 |int a=>
  obtain⟨c,rfl⟩:=ry;cases x with
  |non=>cases rx;exact SeqAt.EqAt.int_none a c
  |bl b=>cases rx;exact SeqAt.EqAt.int_bool a c b
  |int b=>obtain⟨t,rfl⟩:=rx;exact SeqAt.EqAt.int_int a c b t
  |str b=>obtain⟨t,rfl⟩:=rx;exact SeqAt.EqAt.int_str a c b t
  |_=>exact absurd (show false=true from fx) Bool.false_ne_true
 |str a=>
  obtain⟨c,rfl⟩:=ry;cases x with
  |non=>cases rx;exact SeqAt.EqAt.str_none a c
  |bl b=>cases rx;exact SeqAt.EqAt.str_bool a c b
  |int b=>obtain⟨t,rfl⟩:=rx;exact SeqAt.EqAt.str_int a c b t
  |str b=>obtain⟨t,rfl⟩:=rx;exact SeqAt.EqAt.str_str a c b t
  |_=>exact absurd (show false=true from fx) Bool.false_ne_true
 |_=>exact absurd (show false=true from fy) Bool.false_ne_true
def eqU(x:V)(u:Value):Bool:=match u with
 | .none=>eqV .non x
 | .bool b=>eqV (.bl b) x
 | .int i _=>eqV (.int i) x
 | .str z _=>eqV (.str z) x
 |_=>false
theorem Zqr{x y:V}{u:Value}(r:RelV y u)(f:Zjk y=true):eqU x u=eqV y x:=by
 cases y with
 |non=>cases r;rfl
 |bl b=>cases r;rfl
 |int i=>obtain⟨t,rfl⟩:=r;rfl
 |str z=>obtain⟨t,rfl⟩:=r;rfl
 |_=>exact absurd (show false=true from f) Bool.false_ne_true
theorem Zk8{x:V}:∀{xs:List V} {us:List Value},Vals xs us->xs.all Zjk=true->us.any (eqU x)=xs.any fun y=>eqV y x
 |_,_,.nil,_=>rfl
 |y::xs,u::us,.cons r t,f=>by
  rw[List.all_cons,Bool.and_eq_true]at f;rw[List.any_cons,List.any_cons,Zqr r f.1,Zk8 t f.2]
theorem Zig{A:Around}{s:Shared}{x:V}{v:Value}(rx:RelV x v)(fx:Zjk x=true):∀{xs:List V} {us:List Value},Vals xs us->xs.all Zjk=true->∀u∈us,SeqAt.EqAt A s u v (eqU x u)
 |_,_,.nil,_=>fun u hu=>by cases hu
 |y::xs,u::us,.cons r t,f=>fun u' hu=>by
  rw[List.all_cons,Bool.and_eq_true]at f;rcases List.mem_cons.mp hu with rfl|hu
  ·rw[Zqr r f.1];exact Zum r rx f.1 fx
  ·exact Zig rx fx t f.2 u' hu
def inV(x:V)(xs:List V):Bool:=xs.any fun y=>eqV y x
def rIn(K:W.Frag)(neg:Bool):R2:=fun x y H Q=>∃p xs,y= .ref p/\(SqL K H p xs\/SqT K H p xs)/\Zjk x=true/\xs.all Zjk=true/\Q (.bl (if neg then !inV x xs else inV x xs)) H
theorem Zi2:OpR X (compareOp .NotIn) (rIn X.K true):=by
 intro pins s σ H x y v u Q I e g h;obtain⟨p,xs,rfl,b,f,fs,q⟩:=h;cases g;rcases b with b|b
 ·obtain⟨a,r,c,i⟩:=I.list b;refine SeqAt.notIn_listAt (eqU x) c.isList (fun w d=>Zig e f r fs w (by simpa using d)) ⟨.bl _,H,I,rfl,?_⟩;rw[show a.toArray.any (eqU x)=a.any (eqU x) by simp,Zk8 r fs];exact q
 ·obtain⟨a,r,c,i⟩:=I.tuple b;refine SeqAt.notIn_tupleAt (eqU x) c (fun w d=>Zig e f r fs w (by simpa using d)) ⟨.bl _,H,I,rfl,?_⟩;rw[show a.toArray.any (eqU x)=a.any (eqU x) by simp,Zk8 r fs];exact q
theorem Zjr:Zd4 X (.builtin "len") (fun xs H Q=>∃p ys,xs=[.ref p]/\(SqL X.K H p ys\/SqT X.K H p ys)/\Q (.int ys.length) H):=by
 intro pins s σ H xs i Q I r h;obtain⟨p,ys,rfl,b,q⟩:=h;obtain⟨u,rfl,f⟩:=Zir r;cases f;have j:=Zhf;rcases b with b|b
 ·obtain⟨e,c,d,g⟩:=I.list b;have a:=c.length;exact Calls.call_len_list d.isList (by simp only[List.size_toArray] <;> omega) ⟨.int ys.length,H,I.tok _,⟨s.toks+ 1,by rw[List.size_toArray,a]⟩,q⟩
 ·obtain⟨e,c,d,g⟩:=I.tuple b;have a:=c.length;exact len_tuple d (by simp only[List.size_toArray] <;> omega) ⟨.int ys.length,H,I.tok _,⟨s.toks+ 1,by rw[List.size_toArray,a]⟩,q⟩
theorem Zbe:Zd4 X (.builtin "len") (fun xs H Q=>∃z,xs=[.str z]/\z.length <=sizeLine/\Q (.int z.length) H):=by
 intro pins s σ H xs a Q I r h;obtain⟨z,rfl,b,q⟩:=h;obtain⟨u,rfl,t,rfl⟩:=Zir r;have c:=Zhf;exact len_str (by omega) ⟨.int z.length,H,I.tok _,⟨_,rfl⟩,q⟩
theorem Zjq:Zd4 X (.type "list") (fun xs H Q=>∃p ys,xs=[.ref p]/\(SqL X.K H p ys\/SqT X.K H p ys)/\∀l,H l=none->Q (.ref l) (upd H l (.lst ys))):=by
 intro pins s σ H xs y Q I r h;obtain⟨p,ys,rfl,g,q⟩:=h;obtain⟨u,rfl,x⟩:=Zir r;cases x;have i:∀ (a:List Value),Vals ys a->ys.length <=sizeLine->∀ (h':Heap) (c':Nat),(∀b o',s.heap.get? b=some o'->h'.get? b=some o')->
   h'.get? s.heap.objs.size=some {cls:=.type "list",dict:=none,data:=.seq a.toArray c',slots:=#[]}->EP X pins σ Q (.ref s.heap.objs.size) {s with heap:=h'}:=fun a c f h' c' d e=>
  ⟨.ref s.heap.objs.size,_,I.laid (t':=s.toks) d (Nat.le_refl _) (show ObjOk X.prog X.w _ h' _ (.lst ys) from⟨f,a,c',c,e⟩),rfl,q _ (I.hok.fresh (Nat.le_refl _))⟩
 rcases g with g|g
 ·obtain⟨a,c,j,f⟩:=I.list g;have m:=c.length;obtain⟨o,k,v,n,t⟩:=j.isList;exact call_list_seq p (.inl rfl) k v t (fun h' c' d e=>i a c f h' c' d e) (by simp only[List.size_toArray] <;> omega)
 ·obtain⟨a,c,j,f⟩:=I.tuple g;have m:=c.length;obtain⟨o,k,v,n,t⟩:=j;exact call_list_seq p (.inr rfl) k v t (fun h' c' d e=>i a c f h' c' d e) (by simp only[List.size_toArray] <;> omega)
def tyV(K:W.Frag)(T:String)(x:V)(H:Hp):Prop:=match x with
 | .str _=>T="str"
 | .int _=>T="int"
 | .ref p=>(T="list"/\∃xs,SqL K H p xs)\/(T="tuple"/\∃o,K.lookup p=some o/\o.cls= .type "tuple"/\o.dict=none)\/
   (T="dict"/\((∃kvs,H p=some (.dK kvs))\/∃kvs,H p=some (.dT kvs)))\/(T="set"/\∃S n,H p=some (.set S n))
 |_=>False
theorem Zp1{pins:List (Addr×Obj)}{σ:St}{H:Hp}{s:Shared}{T:String}{x:V}{v:Value}(I:Inv X pins σ H s)(r:RelV x v)(ty:tyV X.K T x H):
  s.TypeIs v T/\∀a,v= .ref a->∃ob,s.heap.get? a=some ob/\ob.dict=none:=by
 cases x with
 |str z=>
  obtain⟨t,rfl⟩:=r;cases (show T="str" from ty);exact⟨typeIs_str s z t,fun _ e=>nomatch e⟩
 |int i=>
  obtain⟨t,rfl⟩:=r;cases (show T="int" from ty);exact⟨typeIs_int s i t,fun _ e=>nomatch e⟩
 |ref p=>
  cases r;rcases ty with⟨rfl,xs,hq⟩|⟨rfl,o,hk,hc,b⟩|⟨rfl,hk⟩|⟨rfl,S,n,hk⟩
  ·obtain⟨g,_,f,_⟩:=I.list hq;refine⟨f.isList.typeIs,fun a e=>?_⟩;cases e;obtain⟨o,n,e,c,b,_⟩:=f;exact⟨o,e,b⟩
  ·refine⟨⟨o,I.kIn p o hk,hc⟩,fun a e=>?_⟩;cases e;exact⟨o,I.kIn _ o hk,b⟩
  ·have z:∃o,s.heap.get? p=some o/\o.ExactDict:=by
    rcases hk with⟨kvs,hk⟩|⟨kvs,hk⟩
    ·obtain⟨_,_,_,_,o,_,_,e,ex,_⟩:=I.hok p _ hk;exact⟨o,e,ex⟩
    ·obtain⟨_,_,_,_,o,_,_,e,ex,_⟩:=I.hok p _ hk;exact⟨o,e,ex⟩
   obtain⟨o,e,ex⟩:=z;refine⟨⟨o,e,ex.1⟩,fun a d=>?_⟩;cases d;exact⟨o,e,ex.2.1⟩
  ·obtain⟨o,_,_,_,e,ex,_⟩:=I.hok p _ hk;refine⟨⟨o,e,ex.1⟩,fun a d=>?_⟩;cases d;exact⟨o,e,ex.2.1⟩
 |_=>exact False.elim ty
def Zuv(K:W.Frag)(T:String)(r:V->List V->Hp->VK->Prop)(to:TE):TE:=fun σ H Q=>to σ H fun x H1=>tyV K T x H1/\r x [] H1 Q
def tBM(K:W.Frag)(T:String)(r:V->List V->Hp->VK->Prop)(to:TE)(t:TA):TE:=fun σ H Q=>to σ H fun x H1=>tyV K T x H1/\t σ H1 fun xs H2=>r x xs H2 Q
variable{o e:Expr}{es:List Expr}{to:TE}{t:TA}{name:Str}{apos cpos:Pos}{T id:String}{r:V->List V->Hp->VK->Prop}
theorem Ztx(pa:PlainAttrs T)(slot:Slot T name id)(hty:typeOf (.builtin id)=pure (.type "method_descriptor"))(hm:MtR X id r)(ho:PE X o to)
  (hbase:attributeBase o name X.env (eval o X.env)=eval o X.env:=by rfl) (hline:(apos.endLine==cpos.line)=true:=by rfl):PE X (.Call (.Attribute o name apos) [] [] cpos) (Zuv X.K T r to):=by
 intro pins s σ H Q I h;refine wpAny_Call_method0_late hbase hline (thn (ho pins s σ H _ I h) fun v s1 ⟨x,H1,b,a,ty,c⟩=>?_);obtain⟨h1,h2⟩:=Zp1 b a ty;exact⟨T,id,pa,slot,hty,h1,h2,Calls.callWith_builtin rfl (PySem.evalArgs_none (hm pins s1 σ H1 x [] v [] Q b a .nil c))⟩
theorem Zvj(pa:PlainAttrs T)(slot:Slot T name id)(hty:typeOf (.builtin id)=pure (.type "method_descriptor"))(hm:MtR X id r)(ho:PE X o to)(ha:PA X (e::es) t)
  (hbase:attributeBase o name X.env (eval o X.env)=eval o X.env:=by rfl)
  (hfew : ((backTo cpos (starEach (e :: es) X.env)).all (fun x => !x.1) && (backToKw cpos (keywordEach [] X.env)).all (fun x => x.1.isSome)
   && decide ((e :: es).length + ([] : List Keyword).length + (if ([] : List Keyword).isEmpty then 0 else 1) < 30)) = true := by rfl)
  (hline:(apos.endLine==cpos.line)=true:=by rfl) (hs:starEach (e::es) X.env=(false,eval e X.env)::starEach es X.env:=by rfl) (hplain:(backTo cpos (starEach es X.env)).any (·.1)=false:=by rfl):
  PE X (.Call (.Attribute o name apos) (e::es) [] cpos) (tBM X.K T r to t):=by
 intro pins s σ H Q I h;refine wpAny_Call_method_late hbase hfew hline rfl (thn (ho pins s σ H _ I h) fun v s1 ⟨x,H1,c,a,ty,i⟩=>?_);obtain⟨h1,h2⟩:=Zp1 c a ty;refine⟨T,id,pa,slot,hty,h1,h2,?_⟩;have b:=ha cpos pins s1 σ H1 _ c i;rw[hs]at b ⊢;refine Calls.callWith_builtin (by show(false||(backTo cpos (starEach es X.env)).any (·.1))=false;rw[hplain] <;> rfl) (Calls.evalArgs_plain ?_);exact thn b fun d s2 ⟨vs,H2,j,f,g⟩=>hm pins s2 σ H2 x vs v d Q j a f g
end
def MtM(X:Cx)(id:String)(r:V->List V->Hp->VK->Prop):Prop:=
 ∀ (pins:List (Addr×Obj)) (s:Shared) (σ:St) (H:Hp) (x:V) (xs:List V) (v:Value) (us:List Value) (Q:VK),Inv X pins σ H s->RelV x v->Vals xs us->r x xs H Q->
  wpAny (model X.prog X.w) X.A (call (.builtin id) (v::us)) (EP X pins σ Q) X.xe s
theorem Vals.one:∀{x:V} {us:List Value},Vals [x] us->∃u,us=[u]/\RelV x u
 |_,_,.cons r .nil=>⟨_,rfl,r⟩
theorem Vals.zero:∀{us:List Value},Vals [] us->us=[]
 |_,.nil=>rfl
theorem Vals.eraseIdx:∀{xs:List V} {us:List Value} (i:Nat),Vals xs us->Vals (xs.eraseIdx i) (us.eraseIdx i)
 |_,_,_,.nil=>.nil
 |_,_,0,.cons _ t=>t
 |_,_,i+ 1,.cons r t=>.cons r (Vals.eraseIdx i t)
theorem Zjb{α:Type}:∀ (l:List α) (i:Nat),(l.eraseIdx i).length <=l.length
 |[],_=>Nat.le_refl _
 |_::_,0=>Nat.le_succ _
 |_::r,i+ 1=>Nat.succ_le_succ (Zjb r i)
section
variable{X:Cx}{pins:List (Addr×Obj)}{σ:St}{H:Hp}{s:Shared}{l b:Addr}{xs ys zs:List V}
theorem Inv.lset{its its':List Value}{n:Nat}{f:Array Value->Array Value}{t':Nat}(I:Inv X pins σ H s)(hH:H l=some (.lst xs))
  (e:s.heap.get? l=some {cls:=.type "list",data:=.seq its.toArray n}) (hf:f its.toArray=its'.toArray) (hv:Vals ys its') (hz:ys.length <=sizeLine):
  Inv X pins σ (upd H l (.lst ys)) {s with heap:=s.heap.update l (Obj.mapSeq f),toks:=t'}:=by
 have q:=PySem.IsL.update e f;rw[hf]at q;refine I.write (x:=l) (e:=l) (by rw[hH];exact trivial) (.inl rfl) (fun c u b a=>(Heap.get?_update_other s.heap (Obj.mapSeq f) (Ne.symm b)).trans a) ⟨_,q⟩ ?_;exact⟨hz,its',_,hv,q⟩
theorem Inv.lnew{its:List Value}{t':Nat}(I:Inv X pins σ H s)(hv:Vals ys its)(hz:ys.length <=sizeLine):
  Inv X pins σ (upd H s.heap.objs.size (.lst ys)) {s with heap:=s.heap.push {cls:=.type "list",data:=.seq its.toArray},toks:=t'}:=
 I.laid (fun _ _ q=>Heap.get?_push_of_some _ q) (Nat.le_refl _) ⟨hz,its,0,hv,Heap.get?_push_size _ rfl⟩
theorem Inv.fresh(I:Inv X pins σ H s):H s.heap.objs.size=none:=I.hok.fresh (Nat.le_refl _)
theorem Inv.lstM(I:Inv X pins σ H s)(hH:H l=some (.lst xs)):xs.length <=sizeLine/\∃ (its:List Value) (n:Nat),Vals xs its/\xs.length=its.length/\s.heap.get? l=some {cls:=.type "list",data:=.seq its.toArray n}:=by
 obtain⟨z,its,n,r,e⟩:=I.hok l _ hH;exact⟨z,its,n,r,r.length,e⟩
end
section
variable{X:Cx}
def Zns:V->List V->Hp->VK->Prop:=fun x vs H Q=>∃l xs y,x= .ref l/\vs=[y]/\H l=some (.lst xs)/\xs.length < sizeLine/\Q .non (upd H l (.lst (xs++[y])))
def Zno:V->List V->Hp->VK->Prop:=fun x vs H Q=>∃l b xs zs,x= .ref l/\vs=[.ref b]/\H l=some (.lst xs)/\H b=some (.lst zs)/\xs.length+ zs.length <=sizeLine/\Q .non (upd H l (.lst (xs++zs)))
def Zti:V->List V->Hp->VK->Prop:=fun x vs H Q=>∃l xs i k y,x= .ref l/\vs=[.int i]/\H l=some (.lst xs)/\ -(2 ^ 63) <=i/\i < 2 ^ 63/\seqIndex? i xs.length=some k/\xs[k]?=some y/\Q y (upd H l (.lst (xs.eraseIdx k)))
theorem mt_popAt:MtM X "list.pop" Zti:=by
 intro pins s σ H x vs v us Q I d f h;obtain⟨l,xs,i,k,y,rfl,rfl,c,h1,h2,p,j,q⟩:=h;cases d;obtain⟨u,rfl,g⟩:=f.one;obtain⟨t,rfl⟩:=g;obtain⟨z,a,n,r,o,e⟩:=I.lstM c;obtain⟨w,m,b⟩:=r.get j;refine call_meets F.slot_list_pop ⟨_,e,rfl⟩ F.entry_list_pop (F.args_list_pop_2 _ _)
  (MeetsSeq.list_pop_at l a.toArray n i t k w (fitsIndex_both h1 h2) (by rw[List.size_toArray,<-o];exact p) (by rw[<-Array.getElem?_toList];exact m) (by rw[List.size_toArray];omega)) ⟨e,?_⟩
 refine⟨y,_,I.lset (its':=a.eraseIdx k) c e ?_ (r.eraseIdx k) ?_,b,q⟩
 ·show a.toArray.eraseIdxIfInBounds k=(a.eraseIdx k).toArray;rw[List.eraseIdxIfInBounds_toArray]
 ·have:=Zjb xs k;omega
def Zvh:R2:=fun x y H Q=>∃l b xs zs,x= .ref l/\y= .ref b/\H l=some (.lst xs)/\H b=some (.lst zs)/\xs.length+ zs.length <=sizeLine/\∀p,H p=none->Q (.ref p) (upd H p (.lst (xs++zs)))
theorem op_cat:OpR X (binaryOp .Add) Zvh:=by
 intro pins s σ H x y v u Q I f d h;obtain⟨l,b,xs,zs,rfl,rfl,i,j,w,q⟩:=h;cases f;cases d;obtain⟨z,c,n,r,hl,e⟩:=I.lstM i;obtain⟨p,a,t,g,o,m⟩:=I.lstM j;refine PySem.P.add_list e m ?_ (by rw[List.size_toArray,List.size_toArray];omega);have k:c.toArray++a.toArray=(c++a).toArray:=by simp
 rw[k];exact⟨.ref _,_,I.lnew (t':=s.toks) (r.append g) (by rw[List.length_append];omega),rfl,q _ I.fresh⟩
end
section
variable{prog:Program}{w:World}{A:Around}{E:Value->Shared->Prop}{s:Shared}
end
section
variable{X:Cx}
end
end L2
namespace Att
open PySem PySem.W PySem.Calls PyProof.Rows
theorem Zgp{P:Params}{h:Heap}:∀ (ns:List Int) (vs:List Value),WellAll P h vs (ns.map WData.int)->IntsAre vs ns:=by
 intro ns
 induction ns with
 |nil=>
  intro vs w;rw[List.map_nil]at w;cases w;exact .nil
 |cons n ns ih=>
  intro vs w;rw[List.map_cons]at w;cases w with
  |cons a b=>
   cases a;exact .cons _ _ (ih _ b)
theorem Znc{l:OpenLaw}{n:Nat}(hn:l.most=some n){P:Params}{h:Heap}{args:List WData}{vals:List Value}
  (hpre:l.row.toRowW.claim.pre args=true) (hwl:WellAll P h vals args):
  ∃a vs ns,vals=[Value.ref a]/\args=[WData.list (ns.map WData.int)]/\h.get? a=some {cls:=.type "list",data:=.seq vs.toArray}/\IntsAre vs ns/\ns.length <=n:=by
 have e:WShape.hasAll [] args [.list .int]=true:=(pre_splitW hpre).1;have f:l.pre.holds [] {args:=args}=true:=(pre_splitW hpre).2;obtain⟨d,r,rfl,h1,h2⟩:=hasAllW_cons e;obtain rfl:=hasAllW_nil h2;obtain⟨xs,rfl,i⟩:=hasW_list h1;obtain⟨ns,rfl⟩:=items_int i;have c:ns.length <=n:=by
  unfold OpenLaw.pre at f;have b:(WTm.not (.lt (.lit (.int (n:Int))) (.len (.arg 0)))).holds [] {args:=[.list (ns.map .int)]}=true:=by
   have b:=(holds_andW f).1;rw[hn]at b;exact b
  have h5:=condW_of b (w_not (w_lt w_lit (w_len_list (w_arg rfl))));rw[List.length_map]at h5;refine Nat.le_of_not_lt fun q=>?_
  have g:(n:Int) < ((ns.length:Nat):Int):=by omega
  first
   |(rw[decide_eq_true g]at h5;exact absurd h5 (by decide))
   |(simp at h5;omega)
 cases hwl with
 |cons w1 w2=>
  cases w2;cases w1 with
  |list ho hall=>exact⟨_,_,ns,rfl,rfl,ho,Zgp ns _ hall,c⟩
theorem Znv(l:OpenLaw)(args:List WData):l.row.toRowW.claim.post args (.bool true) args=true:=
 postW_of (r:=l.row.toRowW) (X:=(true==true))
  (show WShape.has [] (.bool true) .bool=true by first|rfl|decide|simp[WShape.has,WShape.arms,WShape.armsAll])
  (show(WTm.eq .res (.lit (.bool true))).value [] {args:=args,res:=some (.bool true),after:=args}=some (.bool (true==true)) from w_eq_bool (w_res rfl) w_lit) rfl
theorem attach_call{l:OpenLaw}{n:Nat}{q:Program}{loose:List Str}{XP:(Str->Option Value)->Heap->Prop}{YP:World->Heap->Prop}{d:DefRec}
  (hn:l.most=some n) (hdf:d.params.defaults=[])
  (call : ∀ (w : World) (s₀ s₁ : Shared) (mg mb : Str -> Option Value) (fa : Addr) (o : Obj) (pm cd doc : Value) (a : Addr) (vs : List Value) (ns : List Int),
   Ground q loose [] XP w s₀ mg mb s₁.heap->YP w s₁.heap->
   s₁.heap.get? fa=some o->o.data= .func (docDef d.name d.params d.body d.scope pm cd doc)->s₁.heap.CodeRec cd d.name->mg d.name=some (.ref fa)->
   s₁.heap.get? a=some {cls:=.type "list",data:=.seq vs.toArray}->IntsAre vs ns->ns.length <=n->s₁.gens=#[]->
   codeAny (model l.prog w) callerA (.call (.ref fa) ⟨[.ref a], []⟩) (fun r s' => r = .ok (.ret (.bool true)) /\ OldK s₁.heap s'.heap /\ s'.os = s₁.os /\ AllBare s'.gens) s₁) :
  WalkO q loose XP YP l.row.toRowW d [] (fun f vs=>PySem.call f vs):=by
 intro w s₀ s₁ mg mb G Y fa o pm cd doc dV kV s x j k i v args m as c u hrd h hlo;obtain rfl:dV= .none:=Dflts.none k hdf;obtain rfl:kV= .none:=Dflts.noKw k;obtain⟨a,vs,ns,rfl,rfl,e,b,g⟩:=Znc hn c h;refine enter_call (codeAny_mono (call w s₀ s₁ mg mb fa o pm cd doc a vs ns G Y s (fd_plain x) j i e b g v) fun r s' p=>?_);obtain⟨rfl,h2,z,y⟩:=p;exact⟨.inl ⟨.bool true,.bool true,[],rfl,fun _=>rfl,.bool true,Znv l _,fun _=>⟨List.Pairwise.nil,fun _ t=>(nomatch t)⟩⟩,h2,z,y⟩
section
variable{prog:Program}{w:World}{A:Around}{E:Value->Shared->Prop}{s:Shared}{K:Frag}
def ledger(h:Heap)(L d:Addr):List (Addr×Obj):=(List.range h.objs.size).filterMap fun a=>if a=L\/a=d then none else(h.get? a).map fun o=>(a,o)
end
end Att
namespace L2
open PySem PySem.Spec PyProof.Rows
theorem Zip:∀{vs:List Value} {ns:List Int},IntsAre vs ns->Vals (ns.map V.int) vs
 |_,_,.nil=>.nil
 |_,_,.cons n t h=>.cons ⟨t,rfl⟩ (Zip h)
def Zvu(H:Hp):Prop:=∀b,H b=none\/∃o xs,H b=some (.frz o (.lst xs))
theorem Zpi{P:Program}{w:World}{K:W.Frag}{mg mb:Str->Option Value}{CX:CXT}{k:Nat}{fa a:Addr}{fd:FuncData}{x:Str}{sp:Sp}{s₁:Shared}{vs:List Value}{ns:List Int}
  (KX:K.In s₁.heap) (hns:s₁.heap.Ns mainGlobals mg) (hb:s₁.heap.Ns builtinsNs mb) (hbb:∀x:Str,x≠"__name__"->mb x=bootBuiltins x) (hlim:s₁.heap.NoLimit) (hg:s₁.gens=#[])
  (ha:s₁.heap.get? a=some {cls:=.type "list",data:=.seq vs.toArray}) (hi:IntsAre vs ns) (hl:ns.length <=sizeLine) (hr:Room k callerA)
  (F:∀base:Heap,K.In base->base.Ns mainGlobals mg->FnOk P w K mg base CX k fa fd [x] sp) (hbind:∀ (s:Shared) (u:Value),BindsTo s fd ⟨[u],[]⟩ [(x,u)])
  (hsp:∀H:Hp,Zvu H->SqL K H a (ns.map V.int)->sp [.ref a] H (fun v _=>v= .bl true) fun _ _ _=>False)
  (hCX:∀H e s',CX [] H s₁ (fun _ _ _=>False) e s'->False):
  codeAny (model P w) callerA (.call (.ref fa) ⟨[.ref a],[]⟩) (fun r s'=>r= .ok (.ret (.bool true))/\OldK s₁.heap s'.heap/\s'.os=s₁.os/\AllBare s'.gens) s₁:=by
 have rv:=Zip hi;have p:=hi.length
 -- from an abstract heap in which nothing but the script may be tracked
 have i:∀H:Hp,Zvu H->SqL K H a (ns.map V.int)->HOk P w H s₁.heap->(∀b,H b≠none->b=a)->(H a≠none->K.lookup a=none)->
   codeAny (model P w) callerA (.call (.ref fa) ⟨[.ref a],[]⟩) (fun r s'=>r= .ok (.ret (.bool true))/\OldK s₁.heap s'.heap/\s'.os=s₁.os/\AllBare s'.gens) s₁:=by
  intro H hO hS j hA hK;have c:∀{b:Addr} {o:Obj},s₁.heap.get? b=some o->H b=none->(Zpn s₁.heap H).get? b=some o:=fun e n=>Zpm e n
  have noA:∀{b:Addr} {o:Obj} {es:Array DictEntry} {ep:Nat},s₁.heap.get? b=some o->o.data= .dict es ep->H b=none:=fun {b o es ep} e d=>by
   cases q:H b with
   |none=>rfl
   |some u=>
    have y:b=a:=hA b (by rw[q];simp);subst y;rw[ha]at e;cases e;have d':Data.seq vs.toArray _=Data.dict es ep:=d;cases d'
  have f:∀{b:Addr} {m:Str->Option Value},s₁.heap.Ns b m->(Zpn s₁.heap H).Ns b m:=fun {b m} ⟨o,es,ep,e,d,r⟩=>⟨o,es,ep,c e (noA e d),d,r⟩
  have l : K.In (Zpn s₁.heap H) := fun b o e => c (KX b o e) (by
   cases q:H b with
   |none=>rfl
   |some u=>
    have y : b = a := hA b (by rw [q]; simp);subst y;rw [hK (by rw [q]; simp)] at e; cases e)
  have hM:Mod K mg (Zpn s₁.heap H):=⟨l,f hns,⟨mb,f hb,hbb⟩,let ⟨mc,h1,h2⟩:=hlim;⟨mc,f h1,h2⟩⟩;have e0:Env0 P w K mg (Zpn s₁.heap H) callerA [] s₁ H:=⟨rfl,hM,fun b o e=>Zrz e,Nat.le_of_eq (Zog _ _),trivial,fun b hb=>absurd (show b∈([]:List Addr) from hb) (by simp),j,.of_eq hg⟩;refine codeAny_mono ((F _ l (f hns)).run callerA [] s₁ H ⟨[.ref a],[]⟩ [.ref a] [.ref a] _ _ hr e0 (hbind s₁ (.ref a)) (.cons rfl .nil) (hsp H hO hS)) fun r s' h=>?_
  cases r with
  |error e=>exact(hCX H e s' h).elim
  |ok fl=>
   cases fl with
   |next=>exact False.elim h
   |brk=>exact False.elim h
   |cont=>exact False.elim h
   |ret u=>
    obtain⟨v,H',os,aa,un,t,r',q⟩:=h;have q':v= .bl true:=q;subst q';obtain rfl:u=Value.bool true:=r';refine⟨rfl,OldK.of_keep fun b o e=>?_,os,aa⟩;cases q:H b with
    |none=>exact un.keep b o e q (by intro z;exact absurd (show b∈([]:List Addr) from z) (by simp)) (by simp)
    |some u=>
     rcases hO b with z|⟨ob,xs,z⟩
     ·rw[q]at z;cases z
     ·have z2:=un.frzs b ob _ z;obtain⟨e1,_⟩:=j b _ z;obtain⟨e2,_⟩:=t b _ z2;rw[e]at e1;cases e1;exact e2
 cases hk:K.lookup a with
 |some o=>
  -- the script is one of the module's own objects
  have e:=KX a o hk;rw[ha]at e;cases e;refine i (fun _=>none) (fun _=>.inl rfl) (.inr ⟨_,vs.toArray,_,hk,rfl,rfl,rfl,by rw[List.size_toArray,p];exact hl,by simpa using rv⟩) (fun b u z=>by have g:(none:Option HO)=some u:=z;cases g) (fun b z=>absurd rfl z) fun z=>absurd rfl z
 |none=>
  refine i (fun b=>if b=a then some (.frz {cls:=.type "list",data:=.seq vs.toArray} (.lst (ns.map V.int))) else none) (fun b=>?_) (.inl (.inr ⟨{cls:=.type "list",data:=.seq vs.toArray},if_pos rfl⟩)) (fun b u z=>?_) (fun b z=>?_) fun _=>hk
  ·by_cases hb:b=a
   ·exact .inr ⟨_,_,if_pos hb⟩
   ·exact .inl (if_neg hb)
  ·by_cases hb:b=a
   ·have g:=(if_pos hb).symm.trans z;cases g;subst hb;exact⟨ha,by rw[List.length_map];exact hl,vs,_,rv,ha⟩
   ·have g:=(if_neg hb).symm.trans z;cases g
  ·by_cases hb:b=a
   ·exact hb
   ·exact absurd (if_neg hb) z
abbrev KOf{K:W.Frag}{h:Heap}(_:K.In h):W.Frag:=K
theorem walk_of{l:W.OpenLaw}{n k:Nat}{q:Program}{loose:List Str}{XP:(Str->Option Value)->Heap->Prop}{YP:World->Heap->Prop}{d:DefRec}{K:Params->W.Frag}{CX:World->CXT}{sp:World->Sp}{x:Str}
  (hn:l.most=some n) (hn2:n <=sizeLine) (hdf:d.params.defaults=[]) (hr:Room k callerA)
  (hY:∀ (w:World) (h:Heap),YP w h->(K w.params).In h)
  (F : ∀ (w : World) (mg : Str -> Option Value) (fa : Addr) (h : Heap), (K w.params).In h -> h.Ns mainGlobals mg -> mg d.name = some (.ref fa) ->
   ∃fd:FuncData,(∀ (s:Shared) (u:Value),BindsTo s fd ⟨[u],[]⟩ [(x,u)])/\
    ∀ base : Heap, (K w.params).In base -> base.Ns mainGlobals mg -> FnOk l.prog w (K w.params) mg base (CX w) k fa fd [x] (sp w))
  (hsp:∀ (w:World) (H:Hp) (a:Addr) (ns:List Int),ns.length <=n->Zvu H->SqL (K w.params) H a (ns.map V.int)->sp w [.ref a] H (fun v _=>v= .bl true) fun _ _ _=>False)
  (hCX:∀ (w:World) (H:Hp) (s:Shared) (e:Value) (s':Shared),CX w [] H s (fun _ _ _=>False) e s'->False):
  W.WalkO q loose XP YP l.row.toRowW d [] (fun f vs=>PySem.call f vs):=by
 refine Att.attach_call hn hdf fun w s₀ r mg mb fa o pm cd doc a vs ns G Y ho hd hcd m j i c t=>?_
 have p:=hY w _ Y;obtain⟨fd,y,hF⟩:=F w mg fa _ p G.T.g m;exact Zpi p G.T.g G.T.b G.T.builtins G.T.nolimit t j i (Nat.le_trans c hn2) hr hF y (fun H hO z=>hsp w H a ns c hO z) fun H e s'=>hCX w H r e s'
def Zii(s:Stmt)(j:Nat):Stmt:=match s with
 | .ClassDef _ _ _ body _ _ _ _ _ _ _=>body.getD j (.Pass ⟨0,0,0,0⟩)
 |_=>.Pass ⟨0,0,0,0⟩
def Zao(s:Stmt):Arguments:=match s with
 | .FunctionDef _ a _ _ _ _ _ _ _ _=>a
 |_=>{posonlyargs:=[],args:=[],vararg:=none,kwonlyargs:=[],kw_defaults:=[],kwarg:=none,defaults:=[]}
def defBody(s:Stmt):List Stmt:=match s with
 | .FunctionDef _ _ b _ _ _ _ _ _ _=>b
 |_=>[]
def defScope(s:Stmt):Scope:=match s with
 | .FunctionDef _ _ _ _ _ _ sc _ _ _=>sc
 |_=>{kind:=.function,names:=[],isGenerator:=false,isCoroutine:=false}
abbrev CX0:CXT:=fun _ _ _ _ _ _=>False
abbrev E0:XK:=fun _ _ _=>False
theorem Zrv{X:Cx}:Zfw CX0 X E0:=fun _ _ _ _ _ _ _ h=>h.elim
structure Fun(K:W.Frag)(x qual:Str)(st:Stmt)(f:Addr)(fd:FuncData):Prop where
 ex:∃ (oc:Value) (od:Option Addr) (kV doc pm:Value) (an:Option Addr) (cdv ct:Value) (osl:Array (Option Value)),
  fd=W.fnOf x qual (Zao st) (defBody st) (defScope st) .none kV doc pm an cdv ct/\K.lookup f=some ⟨oc,od,.func fd,osl⟩/\W.codeIn K cdv qual=true
 kp:W.keepIn K (.ref f)=true
section
variable{P:Program}{w:World}{K:W.Frag}{mg:Str->Option Value}{base:Heap}
theorem Fun.ok{x qual:Str}{st:Stmt}{f:Addr}{fd:FuncData}{N ps:List Str}{k:Nat}{sp:Sp}(F:Fun K x qual st f fd)(S:Zaq N ps (defScope st))(len:∀vs H Q E,sp vs H Q E->vs.length=ps.length)
  (hbody : ∀ (cdv : Value) (A : Around) (outer : List Env) (s : Shared) (H : Hp) (vs : List V) (Q : VK) (E : XK), Room k (A.deeper (envOfC qual (defScope st) s.heap.objs.size f cdv)) -> sp vs H Q E ->
   ∃ t, PSs (cxOf CX0 P w K mg base N qual (defScope st) f cdv A outer s H E).nox (defBody st) t /\ t { nx := fun _ H' => Q .non H', rt := Q } (start N vs) H) : FnOk P w K mg base CX0 (k + 1) f fd ps sp := by
 obtain⟨j,i,kV,g,pm,m,cdv,l,e,rfl,c,b⟩:=F.ex;refine Zpq c b S len fun A outer s H vs Q E d a=>?_
 obtain⟨t,h,q⟩:=hbody cdv A outer s H vs Q E d a;exact⟨t,h.nox,q⟩
theorem Fun.binds{x qual:Str}{st:Stmt}{f:Addr}{fd:FuncData}{ps:List Str}(F:Fun K x qual st f fd)
  (h:∀ (kV doc pm:Value) (an:Option Addr) (cdv ct:Value) (us:List Value),us.length=ps.length->bindArgs (W.fnOf x qual (Zao st) (defBody st) (defScope st) .none kV doc pm an cdv ct) ⟨us,[]⟩=pure (ps.zip us)):Binds K fd ps []:=by
 obtain⟨d,c,kV,doc,pm,an,cdv,ct,a,rfl,e,b⟩:=F.ex;exact .all (h kV doc pm an cdv ct)
theorem Zax{x qual:Str}{st:Stmt}{f:Addr}{oc:Value}{od an:Option Addr}{osl:Array (Option Value)}{kV doc pm cdv ct:Value}(l:K.lookup f=some ⟨oc,od,.func (W.fnOf x qual (Zao st) (defBody st) (defScope st) .none kV doc pm an cdv ct),osl⟩)
  (c:W.codeIn K cdv qual=true) (k:W.keepIn K (.ref f)=true):Fun K x qual st f (W.fnOf x qual (Zao st) (defBody st) (defScope st) .none kV doc pm an cdv ct):=⟨⟨oc,od,kV,doc,pm,an,cdv,ct,osl,rfl,l,c⟩,k⟩
end
section
variable{X:Cx}
theorem pv(i:Nat){x:Str}{pos:Pos}(hN:X.N[i]?=some x:=by rfl)(hv:Vis X.env.scope x:=by first|exact Or.inl rfl|exact Or.inr (Or.inl rfl)|exact Or.inr (Or.inr rfl))(hd:(x==("__debug__":Str))=false:=by decide)
  (hcd:(x==("__classdict__":Str))=false:=by decide):PE X (.Name x pos) (Zp3 i):=Ztt hN hv hd hcd
end
theorem Zpj{c A B:Prop}[Decidable c](h1:c->A)(h2:¬c->B):if c then A else B:=by
 by_cases h:c
 ·rw[if_pos h];exact h1 h
 ·rw[if_neg h];exact h2 h
def Same(H H':Hp):Prop:=∀b o,H b=some o->H' b=some o
theorem Same.refl(H:Hp):Same H H:=fun _ _ h=>h
theorem Same.trans{H H1 H2:Hp}(a:Same H H1)(b:Same H1 H2):Same H H2:=fun c o h=>b c o (a c o h)
theorem Same.free{H H':Hp}(e:Same H H'){l:Addr}(h:H' l=Option.none):H l=Option.none:=by
 cases q:H l with
 |none=>rfl
 |some o=>
  rw[e l o q]at h;cases h
end L2
set_option maxHeartbeats 4000000
namespace L2
open PySem PySem.Spec PyProof.Rows
theorem Zk6{env:Env}:∀ (names:List (Str×NameKind)) (cs:List (Str×Addr)),(∀x,(x,NameKind.free)∈names->∃c,env.cells.lookup x=some c)->
  (∀x c,cs.lookup x=some c->env.cells.lookup x=some c)->
  ∃cl,(forIn names cs fun(p:Str×NameKind) (r:List (Str×Addr))=>(match p with|(name,kind)=>(if(kind==NameKind.free)=true then(do let a <-cellOf env name;pure (ForInStep.yield ((name,a)::r))) else pure (ForInStep.yield r)):Sem (ForInStep (List (Str×Addr)))))=pure cl/\
   (∀x c,cl.lookup x=some c->env.cells.lookup x=some c)/\(∀x,(x,NameKind.free)∈names->∃c,cl.lookup x=some c)/\∀x,(∃c,cs.lookup x=some c)->∃c,cl.lookup x=some c
 |[],cs,_,h2=>⟨cs,rfl,h2,(fun _ h=>nomatch h),fun _ h=>h⟩
 |(n,k)::r,cs,h1,h2=>by
  by_cases hk:k=NameKind.free
  ·subst hk;obtain ⟨c, hc⟩ := h1 n List.mem_cons_self;obtain ⟨cl, e, a, b, d⟩ := Zk6 r ((n, c) :: cs) (fun x hx => h1 x (List.mem_cons_of_mem _ hx)) (fun x c' hx => by
    rw[List.lookup_cons]at hx;cases q:x==n with
    |true=>rw[q]at hx;cases hx;rw[eq_of_beq q];exact hc
    | false => rw [q] at hx; exact h2 x c' hx)
   refine⟨cl,?_,a,fun x hx=>?_,fun x ⟨c',hx⟩=>?_⟩
   ·rw[List.forIn_cons];have:cellOf env n=pure c:=by unfold cellOf;rw[hc]
    simp only[this,beq_self_eq_true,if_true];exact e
   ·rcases List.mem_cons.mp hx with z|z
    ·cases z;exact d _ ⟨c,by simp[List.lookup_cons]⟩
    ·exact b x z
   ·refine d x ?_;rw[List.lookup_cons];cases q:x==n with
    |true=>exact⟨c,rfl⟩
    |false=>exact⟨c',hx⟩
  ·obtain⟨cl,e,a,b,d⟩:=Zk6 r cs (fun x hx=>h1 x (List.mem_cons_of_mem _ hx)) h2;have f:(k==NameKind.free)=false:=by simpa using hk
   refine⟨cl,?_,a,fun x hx=>?_,d⟩
   ·rw[List.forIn_cons];simp only[f,Bool.false_eq_true,if_false];exact e
   ·rcases List.mem_cons.mp hx with z|z
    ·cases z;exact absurd rfl hk
    ·exact b x z
theorem Zsi{scope:Scope}{env:Env}(h:∀x,(x,NameKind.free)∈scope.names->∃c,env.cells.lookup x=some c):
  ∃cl,closureFor scope env=pure cl/\(∀x c,cl.lookup x=some c->env.cells.lookup x=some c)/\∀x,(x,NameKind.free)∈scope.names->∃c,cl.lookup x=some c:=by
 obtain⟨cl,e,a,b,_⟩:=Zk6 scope.names [] h (fun x c z=>nomatch z);refine⟨cl,?_,a,b⟩;unfold closureFor;show(forIn scope.names [] _ >>=fun d=>pure d)=pure cl;rw[show(forIn scope.names ([]:List (Str×Addr)) _:Sem _)=pure cl from e];rfl
theorem Zev{env:Env}{x:Str}:∀{names:List (Str×NameKind)} {k:NameKind},(names.map fun(n,k)=>if(k==NameKind.free && env.scope.kind== .function && env.kindOf n==some .cell) then(n,NameKind.cell) else(n,k)).lookup x=some k->
  (x,k)∈names\/(k=NameKind.cell/\(x,NameKind.free)∈names)
 |[],_,h=>by simp at h
 |(n,k')::r,k,h=>by
  have ih:=@Zev env x r k;have h':List.lookup x ((if(k'==NameKind.free && env.scope.kind== .function && env.kindOf n==some .cell)=true then(n,NameKind.cell) else(n,k'))::(r.map fun(n,k)=>if(k==NameKind.free && env.scope.kind== .function && env.kindOf n==some .cell) then(n,NameKind.cell) else(n,k)))=some k:=h
  by_cases hc:(k'==NameKind.free && env.scope.kind== .function && env.kindOf n==some .cell)=true
  ·rw[if_pos hc,List.lookup_cons]at h';cases q:x==n with
   |true=>
    rw[q]at h';have e:NameKind.cell=k:=Option.some.inj h';have a:k'=NameKind.free:=by
     have:=(Bool.and_eq_true _ _▸(Bool.and_eq_true _ _▸hc).1).1;exact eq_of_beq this
    have ex:x=n:=eq_of_beq q;subst a ex;exact .inr ⟨e.symm,List.mem_cons_self⟩
   |false=>
    rw[q]at h';rcases ih h' with z|⟨z1,z2⟩
    ·exact .inl (List.mem_cons_of_mem _ z)
    ·exact .inr ⟨z1,List.mem_cons_of_mem _ z2⟩
  ·rw[if_neg hc,List.lookup_cons]at h';cases q:x==n with
   |true=>
    rw[q]at h';have e:k'=k:=Option.some.inj h';have ex:x=n:=eq_of_beq q;subst e ex;exact .inl List.mem_cons_self
   |false=>
    rw[q]at h';rcases ih h' with z|⟨z1,z2⟩
    ·exact .inl (List.mem_cons_of_mem _ z)
    ·exact .inr ⟨z1,List.mem_cons_of_mem _ z2⟩
theorem Zjo{prog:Program}{w:World}{A:Around}{R:Result->Shared->Prop}{s:Shared}{elt target iter:Expr}{ifs:List Expr}{scope:Scope}{pos:Pos}{it acc:Value}{env:Env}(I:Nat->Shared->Prop)
  (turn : ∀ n s, I n s -> wpAny (model prog w) A (pyNext it) (fun r s₁ => match r with
   |none=>R (.ok .next) s₁
   | some v => wpAny (model prog w) A (letOwnedTupleGo target it v) (fun _ s₀ => wpAny (model prog w) A (assign target env v) (fun _ s₂ =>
     wpAny (model prog w) A (forIn ifs true fun c r => if r = true then do let ok <- isTrue c env (eval c env); pure (ForInStep.yield ok) else pure (ForInStep.yield r)) (fun ok s₃ =>
      if ok = true then wpAny (model prog w) A (eval elt env) (fun x s₄ =>
       wpAny (model prog w) A (call (.builtin "list.append") [acc, x]) (fun _ s₅ => ∃ m, m < n /\ I m s₅) (fun _ _ => False) s₄) (fun _ _ => False) s₃
      else ∃ m, m < n /\ I m s₃) (fun _ _ => False) s₂) (fun _ _ => False) s₀) (fun _ _ => False) s₁) (fun _ _ => False) s)
  (n:Nat) (h:I n s):
  codeAny (model prog w) A (.compLoop (.ListComp elt [⟨target,iter,ifs,0⟩] scope pos) 0 it acc env) R s:=by
 refine codeAny_loop rfl I (fun n s i=>?_) n h;show wpAny _ A ((compTurn (.ListComp elt [⟨target,iter,ifs,0⟩] scope pos) 0 it acc env).onRaise (fun x=>do noteFrame x env;theTreesLotGoes x)) _ _ s;refine wpAny_noted (wpAny_noRaise ?_);rw[compTurn_list];refine wpAny_bind (wpAny_standAt (wpAny_bind (wpAny_mono (turn n s i) (fun r s₁ b=>?_) fun _ _ h'=>h')));cases r with
 |none=>exact wpAny_pure b
 |some v=>
  refine wpAny_bind (wpAny_mono b (fun _ s₀ g=>?_) fun _ _ h'=>h');refine wpAny_bind (wpAny_mono g (fun _ s₂ f=>wpAny_bind (wpAny_mono f (fun ok s₃ a=>?_) fun _ _ h'=>h')) fun _ _ h'=>h');cases ok with
  |false=>exact wpAny_pure ⟨rfl,a⟩
  |true=>
   exact wpAny_bind (wpAny_bind (wpAny_mono a (fun x s₄ e=>wpAny_bind (wpAny_mono e (fun _ s₅ d=>wpAny_pure (wpAny_pure ⟨rfl,d⟩)) fun _ _ h'=>h')) fun _ _ h'=>h'))
def cxComp(X:Cx)(N':List Str)(scope:Scope)(cl:List (Str×Addr))(C:Addr)(s:Shared)(H:Hp)(ex:List Addr):Cx:=
 {X with N:=N',s₀:=s,H₀:=H,env:=compEnvC scope cl C X.env,outer:=X.stack,ex:=ex,fn:=fun _=>false,pn:=[],xe:=fun _ _=>False}
def capSt(caps:List (Option Nat))(σ:St):St:=caps.map fun o=>o.bind fun j=>(σ[j]?).join
def Zur(N N':List Str)(scope:Scope)(caps:List (Option Nat)):Prop:=
 caps.length=N'.length/\∀ (i j:Nat) (x:Str),N'[i]?=some x->caps[i]?=some (some j)->N[j]?=some x/\(x,NameKind.free)∈scope.names/\∀k,(x,k)∈scope.names->k=NameKind.free
structure Zfc(X:Cx)(N':List Str)(scope:Scope)(caps:List (Option Nat)):Prop where
 kind:scope.kind= .function
 nocell:∀y∈scope.names,y.2≠ .cell
 locs:∀y∈scope.names,y.2= .local->scope.names.lookup y.1=some .local
 cap:Zur X.N N' scope caps
 vis:∀x,(x,NameKind.free)∈scope.names->X.env.kindOf x=some .cell\/X.env.kindOf x=some .free
def Zu8:TT:=fun _ H Q=>Q true H
def Zfx(caps:List (Option Nat))(g:TG)(tc:TT)(te:TE)(σ:St)(Q:VK)(J:It)(H1:Hp):Prop:=
 ∃W:Nat->Nat->List V->St->Hp->Prop,(∃m,W 0 m [] (capSt caps σ) H1)/\∀i m ys σ' H,W i m ys σ' H->
  (J.stop i H/\ys.length <=sizeLine/\∀p,H p=none->Q (.ref p) (upd H p (.lst ys)))\/
  (J.go i H /\ ys.length < sizeLine /\ ∃ N : List V -> St -> Hp -> Prop, (∀ ys σ H, N ys σ H -> ∃ m', m' < m /\ W (i + 1) m' ys σ H) /\ ∀ x H', J.yld i H x H' -> g x σ' H' fun σ2 H2 => tc σ2 H2 fun b H3 =>
   if b = true then te σ2 H3 fun y H4 => N (ys ++ [y]) σ2 H4 else N ys σ2 H3)
def Zq8(caps:List (Option Nat))(wi:TI)(g:TG)(tc:TT)(te:TE):TE:=fun σ H Q=>wi σ H fun J H1=>Zfx caps g tc te σ Q J H1
def PIfs(X:Cx)(ifs:List Expr)(t:TT):Prop:=
 ∀ (pins:List (Addr×Obj)) (s:Shared) (σ:St) (H:Hp) (Q:Bool->Hp->Prop),Inv X pins σ H s->t σ H Q->
  wpAny (model X.prog X.w) X.A (forIn ifs true fun c r=>if r=true then do let ok <-isTrue c X.env (eval c X.env);pure (ForInStep.yield ok) else pure (ForInStep.yield r)) (TP X pins σ Q) X.xe s
theorem Zeb{X:Cx}:PIfs X [] Zu8:=fun _ _ _ H _ I h=>wpAny_tests_nil ⟨H,I,h⟩
theorem Zkn{X:Cx}{c:Expr}{t:TT}(h:PT X c t):PIfs X [c] t:=fun pins s σ H Q I q=>wpAny_tests_one (h pins s σ H Q I q)
section
variable{X:Cx}{elt tg iter:Expr}{ifs:List Expr}{scope:Scope}{pos:Pos}{N':List Str}{caps:List (Option Nat)}{wi:TI}{g:TG}{tc:TT}{te:TE}
def lstO(its:List Value)(n:Nat):Obj:={cls:=.type "list",data:=.seq its.toArray n}
theorem Zpv{pins:List (Addr×Obj)}{s2:Shared}{σ:St}{H2:Hp}{J:It}{it:Addr}{fp:List Addr}{tn:Nat->Heap->Prop}{cl:List (Str×Addr)}{Q:VK}{RR:Value->Addr->Result->Shared->Prop}
  (S:Zfc X N' scope caps) (hc:X.calm=true)
  (hcl1:∀x c,cl.lookup x=some c->X.env.cells.lookup x=some c) (hcl2:∀x,(x,NameKind.free)∈scope.names->∃c,cl.lookup x=some c)
  (hg:∀cl C s H ex,PG (cxComp X N' scope cl C s H ex) tg g) (ht:∀C,PIfs (cxComp X N' scope cl C s2 H2 fp) ifs tc) (he:∀cl C s H ex,PE (cxComp X N' scope cl C s H ex) elt te)
  (I:Inv X pins σ H2 s2) (T:Zss X.prog X.w X.K tg J fp it tn) (st:tn 0 s2.heap) (f2:∀b∈fp,FpOk X pins H2 b)
  (W:Nat->Nat->List V->St->Hp->Prop) (w0:∃m,W 0 m [] (capSt caps σ) H2)
  (turn : ∀ i m ys σ' H, W i m ys σ' H -> (J.stop i H /\ ys.length <= sizeLine /\ ∀ p, H p = none -> Q (.ref p) (upd H p (.lst ys))) \/
   (J.go i H /\ ys.length < sizeLine /\ ∃ N : List V -> St -> Hp -> Prop, (∀ ys σ H, N ys σ H -> ∃ m', m' < m /\ W (i + 1) m' ys σ H) /\ ∀ x H', J.yld i H x H' -> g x σ' H' fun σ2 H2 => tc σ2 H2 fun b H3 =>
    if b = true then te σ2 H3 fun y H4 => N (ys ++ [y]) σ2 H4 else N ys σ2 H3))
  (hRR : ∀ D C oC m s' H', Inv X (pins ++ [(C, oC)]) σ H' s' -> s'.heap.Ns C m -> Q (.ref D) H' -> X.s₀.heap.objs.size <= C -> (∀ x c, X.env.cells.lookup x = some c -> c ≠ C) -> (∀ p ∈ X.pn ++ pins, p.1 ≠ C) -> s'.heap.get? C = some oC ->
   RR (.ref D) C (.ok .next) s') {E : Value -> Shared -> Prop} :
  wpAny (model X.prog X.w) X.A (newList []) (fun acc s₃ => wpAny (model X.prog X.w) X.A (newFunctionEnv scope X.env.globals cl [] X.env.qual none .none (some X.env)) (fun cenv s₄ =>
   codeAny (model X.prog X.w) X.A (.compStart (.ListComp elt [⟨tg, iter, ifs, 0⟩] scope pos) 0 (.ref it) acc { cenv with scope := relabel scope X.env }) (RR acc cenv.locals) s₄) E s₃) E s2 := by
 refine wpAny_newObj_type (wpAny_newFunctionEnv S.nocell (by intro y hy;simp at hy) (fun h₁ hns₁ hsb₁=>?_) S.kind);dsimp only at hns₁ hsb₁ ⊢;generalize hH2:s2.heap.push {cls:=.type "list",dict:=none,data:=.seq ([]:List Value).toArray}=HP at hns₁ hsb₁ ⊢;have hC:HP.objs.size=s2.heap.objs.size+ 1:=by rw[<-hH2,Heap.size_push]
 generalize hCC:HP.objs.size=C at hns₁ hsb₁ hC ⊢;have hDC:s2.heap.objs.size≠C:=by rw[hC];exact Nat.ne_of_lt (Nat.lt_succ_self _)
 have aa:∀b,b < s2.heap.objs.size->b≠C:=fun b f=>by rw[hC];exact Nat.ne_of_lt (Nat.lt_succ_of_lt f)
 have old:∀b o,s2.heap.get? b=some o->h₁.get? b=some o:=fun b o e=>hsb₁.extBut b o (aa b (Heap.lt_size e)) (Heap.get?_push_of_some _ (hH2▸Heap.get?_push_of_some _ e))
 have hacc:h₁.get? s2.heap.objs.size=some (lstO [] 0):=hsb₁.extBut _ _ hDC (Heap.get?_push_of_some _ (hH2▸Heap.get?_push_size _ rfl));have fpLt:∀b∈fp,b < s2.heap.objs.size:=fun b f=>by obtain⟨o,e,_⟩:=T.obj _ _ st b f;exact Heap.lt_size e
 have st₁:tn 0 h₁:=T.keep _ _ _ st fun b _ o e=>old b o e
 have sz:X.s₀.heap.objs.size <=s2.heap.objs.size:=I.sz;have cellLt:∀x c,X.env.cells.lookup x=some c->c < s2.heap.objs.size:=fun x c e=>by obtain⟨v,q⟩:=I.cell x c e;exact q.lt
 have okX:(cxComp X N' scope cl C s2 H2 fp).Ok:=by
  refine ⟨I.ok.mod, S.kind, I.ok.glob, I.ok.blt, by show s2.heap.objs.size <= C; rw [hC]; exact Nat.le_succ _, fun x y c a b => I.ok.inj x y c (hcl1 x c a) (hcl1 y c b), fun x hx => ?_, (fun x c z => by cases z), I.ok.hd, I.ok.frames, .inl rfl,
   fun b f => ⟨aa b (fpLt b f), fun x c e => (f2 b f).2.2.2.2.1 x c (hcl1 x c e)⟩, I.bs, Nat.le_trans I.ok.bsz sz, fun b o e f => ?_, fun b f z => ?_, I.stack, I.stkFree⟩
  ·have key:∀k,(k=NameKind.cell\/k=NameKind.free)->(relabel scope X.env).names.lookup x=some k->∃c,cl.lookup x=some c:=fun k hk hx=>by
    rcases Zev hx with z|⟨_,z⟩
    ·rcases hk with rfl|rfl
     ·exact absurd rfl (S.nocell _ z)
     ·exact hcl2 x z
    ·exact hcl2 x z
   rcases hx with hx|hx
   ·exact key _ (.inl rfl) hx
   ·exact key _ (.inr rfl) hx
  ·rcases(f2 b f).2.2.2.1 with z|z
   ·exact I.ok.noex b o e z
   ·exact absurd (Nat.lt_of_lt_of_le (Heap.lt_size (I.ok.bs b o e).1) z) (Nat.lt_irrefl _)
  ·rcases List.mem_cons.mp (I.stkSub b z) with y|y
   ·exact(f2 b f).2.1 y
   ·exact(f2 b f).2.2.1 y
 have freshC:∀b,s2.heap.objs.size <=b->H2 b=none:=fun b f=>I.hok.fresh f
 have capI:Inv (cxComp X N' scope cl C s2 H2 fp) [(s2.heap.objs.size,lstO [] 0)] (capSt caps σ) H2 {s2 with heap:=h₁,toks:=s2.toks+ ([]:List (Str×Value)).length}:=by
  refine⟨okX,rfl,I.bare,Un.kept old,⟨_,hns₁,fun i x v e1 e2 e3=>?_⟩,fun x c e=>?_,freshC C (by rw[hC];exact Nat.le_succ _),fun x c e=>I.freeC x c (hcl1 x c e),fun p hp=>?_,I.hok.kept old,?_⟩
  ·have e2':(caps[i]?).map (fun o=>o.bind fun j=>(σ[j]?).join)=some (some v):=by
    unfold capSt at e2;rw[List.getElem?_map]at e2;exact e2
   cases q:caps[i]? with
   |none=>rw[q]at e2';cases e2'
   |some o=>
    rw[q]at e2';cases o with
    |none=>cases e2'
    |some j=>
     have hv:(σ[j]?).join=some v:=Option.some.inj e2';obtain⟨hN,hfr,honly⟩:=S.cap.2 i j x e1 q;have hσ:σ[j]?=some (some v):=by
      cases r:σ[j]? with
      |none=>rw[r]at hv;cases hv
      |some o=>rw[r]at hv;rw[<-hv];rfl
     obtain⟨m,hn,hl⟩:=I.loc;have hkx:=S.vis x hfr;obtain⟨u,ru,lk⟩:=hl j x v hN hσ (by rcases hkx with z|z;exact .inr (.inl z);exact .inr (.inr z));refine⟨u,ru,.inr ?_⟩;obtain⟨c,hc'⟩:=hcl2 x hfr;have hcx:=hcl1 x c hc';rcases lk with⟨z,_⟩|⟨_,c',hc2,hcell⟩
     ·rcases hkx with y|y <;> rw[y]at z <;> cases z
     ·rw[hcx]at hc2;cases hc2;have hcell':h₁.IsCell c (some u):=by
       obtain⟨oc,q1,q2⟩:=hcell;exact⟨oc,old c oc q1,q2⟩
      refine⟨?_,c,hc',hcell'⟩;rcases e3 with z|z|z
      ·rcases Zev z with y|⟨y,_⟩
       ·have:=honly _ y;cases this
       ·cases y
      ·exact .inl z
      ·exact .inr z
  ·obtain⟨v,oc,q1,q2⟩:=I.cell x c (hcl1 x c e);exact⟨v,oc,old c oc q1,q2⟩
  ·have e:p=(s2.heap.objs.size,lstO [] 0):=by simpa[cxComp] using hp
   subst e;refine ⟨hacc, freshC _ (Nat.le_refl _), hDC, fun z => ?_, fun v z => by cases z⟩;exact absurd (show s2.heap.objs.size < s2.heap.objs.size from by
    rcases List.mem_cons.mp (I.stkSub _ z) with y|y
    ·exact absurd (I.lt) (by rw[<-y];exact Nat.lt_irrefl _)
    ·exact absurd y (I.nofs (Nat.le_refl _))) (Nat.lt_irrefl _)
  ·unfold capSt;rw[List.length_map];exact S.cap.1
 generalize hX':cxComp X N' scope cl C s2 H2 fp=X' at okX capI;have ePr:X'.prog=X.prog:=by rw[<-hX'];rfl
 have eW:X'.w=X.w:=by rw[<-hX'];rfl
 have eK:X'.K=X.K:=by rw[<-hX'];rfl
 have eA:X'.A=X.A:=by rw[<-hX'];rfl
 have eEnv:X'.env=compEnvC scope cl C X.env:=by rw[<-hX'];rfl
 have eXe:X'.xe=fun _ _=>False:=by rw[<-hX'];rfl
 have eCalm:X'.calm=true:=by rw[<-hX'];exact hc
 have eLoc:X'.env.locals=C:=by rw[eEnv];rfl
 have eS0:X'.s₀=s2:=by rw[<-hX'];rfl
 have eEx:X'.ex=fp:=by rw[<-hX'];rfl
 have eFs:X'.fs=frs X.stack:=by rw[<-hX'];rfl
 have eCells:X'.env.cells=cl:=by rw[eEnv];rfl
 have ePn:X'.pn=[]:=by rw[<-hX'];rfl
 have eH0:X'.H₀=H2:=by rw[<-hX'];rfl
 have hgX:PG X' tg g:=hX'▸hg cl C s2 H2 fp;have htX:PIfs X' ifs tc:=hX'▸ht C;have heX:PE X' elt te:=hX'▸he cl C s2 H2 fp;obtain⟨m0,w0⟩:=w0;have nDfs:s2.heap.objs.size∉X'.fs:=fun z=>by
  rw[eFs]at z;rcases List.mem_cons.mp (I.stkSub _ z) with y|y
  ·exact absurd (I.lt) (by rw[<-y];exact Nat.lt_irrefl _)
  ·exact absurd y (I.nofs (Nat.le_refl _))
 have fpX:∀{H':Hp} {its:List Value} {n:Nat},(∀b∈fp,H' b=none)->∀b∈fp,FpOk X' [(s2.heap.objs.size,lstO its n)] H' b:=fun {H' its n} hn b f=>by
  refine⟨hn b f,by rw[eLoc];exact aa b (fpLt b f),fun z=>?_,.inl (by rw[eEx];exact f),fun x c e=>?_,fun p hp z=>?_⟩
  ·rw[eFs]at z;rcases List.mem_cons.mp (I.stkSub b z) with y|y
   ·exact(f2 b f).2.1 y
   ·exact(f2 b f).2.2.1 y
  ·rw[eCells]at e;exact(f2 b f).2.2.2.2.1 x c (hcl1 x c e)
  ·rw[ePn]at hp;have e:p=(s2.heap.objs.size,lstO its n):=by simpa using hp
   subst e;exact absurd (fpLt b f) (by rw[<-z];exact Nat.lt_irrefl _)
 have loop:∀s₃:Shared,s₃={s2 with heap:=h₁,toks:=s2.toks+ ([]:List (Str×Value)).length}->
   codeAny (model X.prog X.w) X.A (.compLoop (.ListComp elt [⟨tg,iter,ifs,0⟩] scope pos) 0 (.ref it) (.ref s2.heap.objs.size) (compEnvC scope cl C X.env)) (RR (.ref s2.heap.objs.size) C) s₃:=by
  rintro s₃ rfl;rw[<-eEnv,<-eA];refine Zjo (fun n s'=>∃i ys its k σ' H',Inv X' [(s2.heap.objs.size,lstO its k)] σ' H' s'/\tn i s'.heap/\(∀b∈fp,H' b=none)/\Vals ys its/\W i n ys σ' H') ?_ m0
   ⟨0,[],[],0,capSt caps σ,H2,capI,st₁,fun b f=>(f2 b f).1,.nil,w0⟩
  rintro n s' ⟨i,ys,its,k,σ',H',I',st',fr',rv',w'⟩;rcases turn i n ys σ' H' w' with⟨stop,hsz,q⟩|⟨go,hsz,NN,hNN,step⟩
  ·refine thn (T.done X' ePr eW eK eCalm i _ s' σ' H' (fun _ _=>False) I' (fpX fr') st' stop) fun r s4 ⟨hr,I4⟩=>?_
   subst hr;have pinD:=(I4.pin (s2.heap.objs.size,lstO its k) (by rw[ePn];simp)).1;have freeD:=(I4.pin (s2.heap.objs.size,lstO its k) (by rw[ePn];simp)).2.1;have hq:=q s2.heap.objs.size freeD;obtain⟨mC,hnC,_⟩:=id I4.loc;rw[eLoc]at hnC;obtain⟨oC,es,ep,hoC,hdC,_⟩:=id hnC;have freeC':H' C=none:=by have:=I4.free;rw[eLoc]at this;exact this
   have l:=I4.base;rw[eS0,eEx,eFs,eH0]at l;have neD:∀b o,s2.heap.get? b=some o->b≠s2.heap.objs.size:=fun b o e=>Nat.ne_of_lt (Heap.lt_size e)
   have neDH:∀b o,H2 b=some o->b≠s2.heap.objs.size:=fun b o e=>Nat.ne_of_lt (I.hok.lt e)
   have un4:Un (frs X.stack) fp H2 (upd H' s2.heap.objs.size (.lst ys)) s2.heap s4.heap:=
    ⟨l.keep, l.slot, fun b o e n hx => by rw [Zap (neD b o e)]; exact l.free b o e n hx, l.there, fun b xs e => by rw [Zap (neDH b _ e)]; exact l.tups b xs e,
     fun b o u e => by rw [Zap (neDH b _ e)]; exact l.frzs b o u e, fun b ps e => by rw [Zap (neDH b _ e)]; exact l.tbls b ps e⟩
   have hok4:HOk X.prog X.w (upd H' s2.heap.objs.size (.lst ys)) s4.heap:=by
    have h4:=I4.hok;rw[ePr,eW]at h4;intro b u e
    by_cases f:b=s2.heap.objs.size
    ·subst f;rw[Zan]at e;cases e;exact⟨hsz,its,k,rv',pinD⟩
    ·rw[Zap f]at e;refine(h4 b u e).stay (fun c v _ z=>z) (fun c z=>?_) (fun c xs z=>?_)
     ·rw[Zap];exact z;intro zz;rw[zz,freeD]at z;cases z
     ·rw[Zap];exact z;intro zz;rw[zz,freeD]at z;cases z
   have os4:s4.os=s2.os:=by have:=I4.os;rw[eS0]at this;exact this
   have J4:Inv X pins σ (upd H' s2.heap.objs.size (.lst ys)) s4:=I.call' (ch:=fp) os4 un4 hok4 I4.bare fun b f=>⟨(f2 b f).2.2.2.1,(f2 b f).2.1,(f2 b f).2.2.2.2.1,(f2 b f).2.2.2.2.2⟩
   have hCle:X.s₀.heap.objs.size <=C:=by rw[hC];exact Nat.le_succ_of_le sz
   have hCcell:∀x c,X.env.cells.lookup x=some c->c≠C:=fun x c e=>aa c (cellLt x c e)
   have hCpin:∀p∈X.pn++pins,p.1≠C:=fun p hp=>aa p.1 (Heap.lt_size (I.pin p hp).1)
   have hCl:C≠X.env.locals:=fun z=>absurd I.lt (by rw[<-z,hC];exact Nat.not_lt.mpr (Nat.le_succ _))
   refine hRR s2.heap.objs.size C oC mC s4 _ (J4.pins_of fun p hp=>?_) hnC hq hCle hCcell hCpin hoC;rcases List.mem_append.mp hp with z|z
   ·exact J4.pin p (List.mem_append_right _ z)
   ·have e:p=(C,oC):=by simpa using z
    subst e;refine⟨hoC,by rw[Zap (Ne.symm hDC)];exact freeC',hCl,fun z=>?_,fun v z=>by rw[hdC]at z;cases z⟩;exact I.nofs (by rw[hC];exact Nat.le_succ _) z
  ·refine thn (T.item X' ePr eW eK eCalm i _ s' σ' H' (fun _ _=>False) I' (fpX fr') st' go) fun r s4 ⟨u,hr,h4⟩=>?_
   subst hr;refine thn h4 fun _ s5 ⟨x,H5,I5,r5,y5,st5,fr5⟩=>?_
   have I5':=I5.pinned (fpX fr5) (T.obj _ _ st5);have xeF:∀{α:Type} {t:Sem α} {Q:α->Shared->Prop} {s:Shared},wpAny (model X.prog X.w) X'.A t Q X'.xe s->wpAny (model X.prog X.w) X'.A t Q (fun _ _=>False) s:=fun h=>by rw[eXe]at h;exact h
   have ag:=hgX _ s5 σ' H5 x u _ I5' r5 (step x H5 y5);rw[ePr,eW]at ag;refine thn (xeF ag) fun _ s6 ⟨σ6,H6,I6,q6⟩=>?_
   have at':=htX _ s6 σ6 H6 _ I6 q6;rw[ePr,eW]at at';refine thn (xeF at') fun b s7 ⟨H7,I7,q7⟩=>?_
   -- what the pins say behind the turn
   have back:∀{s8:Shared} {H8:Hp},Inv X' ([(s2.heap.objs.size,lstO its k)]++Ziz fp s5.heap) σ6 H8 s8->tn (i+ 1) s8.heap/\(∀b∈fp,H8 b=none)/\Inv X' [(s2.heap.objs.size,lstO its k)] σ6 H8 s8:=fun {s8 H8} I8=>by
    refine⟨T.keep _ _ _ st5 fun b f o e=>(I8.pin (b,o) (List.mem_append_right _ (List.mem_append_right _ (Zeh f e)))).1,fun b f=>?_,I8.unpinned⟩;obtain⟨o,e,d⟩:=T.obj _ _ st5 b f;exact(I8.pin (b,o) (List.mem_append_right _ (List.mem_append_right _ (Zeh f e)))).2.1
   cases b with
   |false=>
    simp only[Bool.false_eq_true,if_false]at q7 ⊢;obtain⟨m',hm,w7⟩:=hNN _ _ _ q7;obtain⟨t7,f7,I7'⟩:=back I7;exact⟨m',hm,i+ 1,ys,its,k,σ6,H7,I7',t7,f7,rv',w7⟩
   |true=>
    simp only[if_true]at q7 ⊢;have ae:=heX _ s7 σ6 H7 _ I7 q7;rw[ePr,eW]at ae;refine thn (xeF ae) fun y s8 ⟨yv,H8,I8,r8,n8⟩=>?_
    obtain⟨m',hm,w8⟩:=hNN _ _ _ n8;obtain⟨t8,f8,I8'⟩:=back I8;have pinD:=I8'.pin (s2.heap.objs.size,lstO its k) (by rw[ePn];simp);have hlen:=rv'.length;refine append_at (its:=its.toArray) (n:=k) (hsz:=by rw[List.size_toArray,<-hlen];exact Nat.le_of_lt hsz) pinD.1 fun h9 hs9 hD9=>?_
    have I9:Inv X' [] σ6 H8 {s8 with heap:=h9,toks:=s8.toks}:=by
     refine(I8'.pins_of (pins':=[]) fun p hp=>by simp at hp).turned (it:=s2.heap.objs.size) (fun b o f e=>(hs9.2 b f).trans e) pinD.2.1 (by rw[eLoc];exact hDC) (.inr (by rw[eS0];exact Nat.le_refl _)) (fun x c e=>?_) fun p hp=>?_
     ·rw[eCells]at e;exact Nat.ne_of_lt (cellLt x c (hcl1 x c e))
     ·rw[ePn]at hp;simp at hp
    have ePush:({cls:=.type "list",data:=.seq (its.toArray.push y) (k+ 1)}:Obj)=lstO (its++[y]) (k+ 1):=by unfold lstO;rw[List.push_toArray]
    rw[ePush]at hD9;refine⟨m',hm,i+ 1,ys++[yv],its++[y],k+ 1,σ6,H8,?_,T.keep _ _ _ t8 fun b f o e=>(hs9.2 b (Nat.ne_of_lt (fpLt b f))).trans e,f8,rv'.append (.cons r8 .nil),w8⟩;refine I9.pins_of fun p hp=>?_
    have e:p=(s2.heap.objs.size,lstO (its++[y]) (k+ 1)):=by simpa using hp
    subst e;exact⟨hD9,pinD.2.1,by rw[eLoc];exact hDC,nDfs,fun v z=>by cases z⟩
 exact codeAny_compStart_list (loop _ rfl) (T.self _ 0 _ _ _ st₁ (loop _ rfl))
theorem Inv.cellsOf{pins:List (Addr×Obj)}{σ:St}{H:Hp}{s:Shared}(I:Inv X pins σ H s)(S:Zfc X N' scope caps):∀x,(x,NameKind.free)∈scope.names->∃c,X.env.cells.lookup x=some c:=
 fun x hx=>I.ok.has x (S.vis x hx)
theorem Zdf(S:Zfc X N' scope caps)(hc:X.calm=true)(hi:PI X tg iter wi)
  (hg:∀cl C s H ex,PG (cxComp X N' scope cl C s H ex) tg g) (ht:∀cl C s H ex,PIfs (cxComp X N' scope cl C s H ex) ifs tc) (he:∀cl C s H ex,PE (cxComp X N' scope cl C s H ex) elt te)
  (hs:∀x,foldedSetIterable iter X.env x=pure x:=by intro _;rfl):PE X (.ListComp elt [⟨tg,iter,ifs,0⟩] scope pos) (Zq8 caps wi g tc te):=by
 intro pins s σ H Q I h;obtain⟨cl,n,i,f⟩:=Zsi (I.cellsOf S);rw[eval_ListComp];refine wpAny_comprehension_free (use:=none) rfl hs n S.kind S.locs (thn (hi pins s σ H _ I h) fun v s1 h1=>thn h1 fun itv s2 h2=>?_);obtain⟨it,fp,tn,J,H2,e,I2,T,k,f2,W,r,c⟩:=h2;subst e;refine Zpv S hc i f hg (fun C=>ht _ C _ _ _) he I2 T k f2 W r c fun D C t m s' H' j w q z a d hoC=>?_
 refine⟨m,w,fun h' hs'=>⟨.ref D,H',?_,rfl,q⟩⟩;have l:=j.pin (C,t) (List.mem_append_right _ (List.mem_append_right _ (by simp)));exact(j.pins_of (pins':=pins) fun p u=>j.pin p (List.mem_append_right _ (List.mem_append_left _ u))).turned (t':=s'.toks) (it:=C) (fun b o y e=>(hs'.2 b y).trans e) l.2.1 l.2.2.1 (.inr z) a d
theorem Zjn{K:W.Frag}{a:Addr}{xs:List V}{σ:St}{H1:Hp}{Q:VK}(Pv:Nat->List V->St->Hp->Prop)(h0:Pv 0 [] (capSt caps σ) H1)(hl:∀i ys σ H,Pv i ys σ H->i <=xs.length->SqL K H a xs/\ys.length <=i)(hz:xs.length <=sizeLine)
  (hs:∀i x ys σ H,xs[i]?=some x->Pv i ys σ H->g x σ H fun σ2 H2=>tc σ2 H2 fun b H3=>if b=true then te σ2 H3 fun y H4=>Pv (i+ 1) (ys++[y]) σ2 H4 else Pv (i+ 1) ys σ2 H3)
  (hd:∀ys σ H,Pv xs.length ys σ H->∀p,H p=none->Q (.ref p) (upd H p (.lst ys))):
  Zfx caps g tc te σ Q (Itl K a) H1:=by
 refine⟨fun i m ys σ H=>m=xs.length - i/\i <=xs.length/\Pv i ys σ H,⟨xs.length,by simp,Nat.zero_le _,h0⟩,?_⟩;rintro i m ys σ H ⟨rfl,hi,p⟩;obtain⟨q,f⟩:=hl i ys σ H p hi
 by_cases hlt:i < xs.length
 ·refine .inr ⟨⟨xs,xs[i],q,by simp[hlt]⟩,by omega,Pv (i+ 1),fun d σ' H' c=>⟨xs.length - (i+ 1),by omega,rfl,hlt,c⟩,fun x H' y=>?_⟩;obtain⟨e,y⟩:=y;subst e;exact hs i x ys σ _ (y xs q) p
 ·have e:i=xs.length:=by omega
  subst e;exact .inl ⟨⟨xs,q,Nat.le_refl _⟩,by omega,hd ys σ H p⟩
theorem Zmv{lo:Int}{n:Nat}{σ:St}{H1:Hp}{Q:VK}(Pv:Nat->List V->St->Hp->Prop)(h0:Pv 0 [] (capSt caps σ) H1)(hl:∀i ys σ H,Pv i ys σ H->i <=n->ys.length <=i)(hz:n <=sizeLine)
  (hs:∀i ys σ H,i < n->Pv i ys σ H->g (.int (lo+ i)) σ H fun σ2 H2=>tc σ2 H2 fun b H3=>if b=true then te σ2 H3 fun y H4=>Pv (i+ 1) (ys++[y]) σ2 H4 else Pv (i+ 1) ys σ2 H3)
  (hd:∀ys σ H,Pv n ys σ H->∀p,H p=none->Q (.ref p) (upd H p (.lst ys))):
  Zfx caps g tc te σ Q (Itr lo n) H1:=by
 refine⟨fun i m ys σ H=>m=n - i/\i <=n/\Pv i ys σ H,⟨n,by simp,Nat.zero_le _,h0⟩,?_⟩;rintro i m ys σ H ⟨rfl,hi,p⟩;have d:=hl i ys σ H p hi
 by_cases hlt:i < n
 ·refine .inr ⟨hlt,by omega,Pv (i+ 1),fun c σ' H' a=>⟨n - (i+ 1),by omega,rfl,hlt,a⟩,fun x H' y=>?_⟩;obtain⟨e,y⟩:=y;subst e y;exact hs i ys σ _ hlt p
 ·have e:i=n:=by omega
  subst e;exact .inl ⟨Nat.le_refl _,by omega,hd ys σ H p⟩
end
mutual
inductive Dp(K:W.Frag)(H:Hp):V->PyData->Prop
 |non:Dp K H .non .none
 |bl (b:Bool):Dp K H (.bl b) (.bool b)
 |int (i:Int):Dp K H (.int i) (.int i)
 |str (x:Str):Dp K H (.str x) (.str x)
 |lst {a:Addr} {xs:List V} {ds:List PyData}:SqL K H a xs->Zmy K H xs ds->Dp K H (.ref a) (.list ds)
 |tup {a:Addr} {xs:List V} {ds:List PyData}:SqT K H a xs->Zmy K H xs ds->Dp K H (.ref a) (.tuple ds)
inductive Zmy(K:W.Frag)(H:Hp):List V->List PyData->Prop
 |nil:Zmy K H [] []
 |cons {x:V} {xs:List V} {d:PyData} {ds:List PyData}:Dp K H x d->Zmy K H xs ds->Zmy K H (x::xs) (d::ds)
end
section
variable{X:Cx}{pins:List (Addr×Obj)}{σ:St}{H:Hp}{s:Shared}
mutual
theorem Inv.reads(I:Inv X pins σ H s):∀{x:V} {d:PyData} {u:Value},Dp X.K H x d->RelV x u->∃as,Reads s.heap u d as
 |_,_,u,.non,r=>by cases (show u=Value.none from r);exact⟨_,.none⟩
 |_,_,u,.bl b,r=>by cases (show u=Value.bool b from r);exact⟨_,.bool b⟩
 |_,_,u,.int i,r=>by obtain⟨t,rfl⟩:=(show ∃t,u=Value.int i t from r);exact⟨_,.int i t⟩
 |_,_,u,.str x,r=>by obtain⟨t,rfl⟩:=(show ∃t,u=Value.str x t from r);exact⟨_,.str x t⟩
 |_,_,u,.lst (a:=a) hl hd,r=>by
  cases (show u=Value.ref a from r);obtain⟨j,f,⟨o,n,e,h,_,c⟩,k⟩:=I.list hl;obtain⟨as,g⟩:=Inv.readsAll I hd f;exact⟨_,.list e h c (by simpa using g)⟩
 |_,_,u,.tup (a:=a) hl hd,r=>by
  cases (show u=Value.ref a from r);obtain⟨j,f,⟨o,e,h,n,c⟩,k⟩:=I.tuple hl;obtain⟨as,g⟩:=Inv.readsAll I hd f;exact⟨_,.tuple e h c (by simpa using g)⟩
theorem Inv.readsAll(I:Inv X pins σ H s):∀{xs:List V} {ds:List PyData} {us:List Value},Zmy X.K H xs ds->Vals xs us->∃as,ReadsAll s.heap us ds as
 |_,_,_,.nil,r=>by cases r;exact⟨_,.nil⟩
 |_,_,_,.cons h t,r=>by
  cases r with
  |cons r1 r2=>
   obtain⟨as,ra⟩:=Inv.reads I h r1;obtain⟨bs,a⟩:=Inv.readsAll I t r2;exact⟨_,.cons ra a⟩
end
end
def Zv5(K:W.Frag):R2:=fun x y H Q=>∃d e,Dp K H x d/\Dp K H y e/\SeqAt.shaped d=true/\SeqAt.shaped e=true/\Q (.bl (PyData.eqv d e)) H
def Zv4(K:W.Frag):R2:=fun x y H Q=>∃d e,Dp K H x d/\Dp K H y e/\SeqAt.shaped d=true/\SeqAt.shaped e=true/\Q (.bl (!PyData.eqv d e)) H
section
variable{X:Cx}
theorem Zt1(hu:X.A.units+ 64 < cLine):OpR X (compareOp .Eq) (Zv5 X.K):=by
 intro pins s σ H x y v u Q I b a h;obtain⟨d,e,h1,h2,s1,s2,q⟩:=h;obtain⟨g,f⟩:=I.reads h1 b;obtain⟨bs,c⟩:=I.reads h2 a;exact eq_dataH f c s1 s2 hu (Za4 I q rfl)
theorem Zty(hu:X.A.units+ 64 < cLine):OpR X (compareOp .NotEq) (Zv4 X.K):=by
 intro pins s σ H x y v u Q I b a h;obtain⟨d,e,h1,h2,s1,s2,q⟩:=h;obtain⟨g,f⟩:=I.reads h1 b;obtain⟨bs,c⟩:=I.reads h2 a;exact ne_dataH f c s1 s2 hu (Za4 I q rfl)
def Zvf:R2:=fun x y H Q=>∃i j,x= .str i/\y= .str j/\Q (.bl (!decide (j.cps.toList < i.cps.toList))) H
theorem Zl1:OpR X (compareOp .LtE) Zvf:=by
 intro pins s σ H x y v u Q I b a h;obtain⟨i,j,rfl,rfl,q⟩:=h;obtain⟨t,rfl⟩:=b;obtain⟨c,rfl⟩:=a;exact PySem.P.le_str (Za4 I q rfl)
theorem Zpx(hc:X.calm=true):Zd4 X (.builtin "all") (fun xs H Q=>∃ (p:Addr) (bs:List Bool),xs=[.ref p]/\SqL X.K H p (bs.map V.bl)/\Q (.bl (bs.all id)) H):=by
 intro pins s σ H xs us Q I r h;obtain⟨p,bs,rfl,hq,q⟩:=h;obtain⟨u,rfl,t⟩:=Zir r;cases t;obtain⟨a,k,y,hz⟩:=I.list hq;have hh:X.A.in1.handled=none:=I.ok.hd hc;have g:=y.isList;have m:p < s.heap.objs.size:=by obtain⟨_,e,_⟩:=g;exact Heap.lt_size e
 have f:bs.length=a.length:=by have:=k.length;simpa using this
 refine call_all_walk (wpAny_pyIter_list g ⟨s.heap.objs.size,_,_,_,_,_,fun i=>bs.getD i false,rfl,Walks.list hh s.heap.objs.size p (Nat.ne_of_lt m) a.toArray,⟨⟨_,Heap.get?_push_size _ rfl,rfl,rfl⟩,g.push _⟩,?_,?_⟩)
 ·intro i v s' Q' E' z j;have c:a[i]?=some v:=by simpa using z
  cases e:bs[i]? with
  |none=>
   have:a[i]?=none:=by
    rw[List.getElem?_eq_none_iff]at e ⊢;omega
   rw[this]at c;cases c
  |some b=>
   obtain⟨u,l,w⟩:=k.get (i:=i) (x:=V.bl b) (by rw[List.getElem?_map,e];rfl);rw[c]at l;cases l;cases (show v=Value.bool b from w);have:bs.getD i false=b:=by simp[List.getD,e]
   dsimp only at j;rw[this]at j;exact wpAny_truthy_bool j
 ·intro h' tk hk;have e:(List.range a.toArray.size).all (fun i=>bs.getD i false)=bs.all id:=by
   rw[List.size_toArray,<-f,Bool.eq_iff_iff,List.all_eq_true,List.all_eq_true];constructor
   ·intro h x hx;obtain⟨i,hi,rfl⟩:=List.mem_iff_getElem.mp hx;have:=h i (List.mem_range.mpr hi);simpa[List.getD,hi] using this
   ·intro h i hi;have d:=List.mem_range.mp hi;have:=h bs[i] (List.getElem_mem d);simpa[List.getD,d] using this
  rw[e];exact⟨.bl (bs.all id),H,I.kept (t':=tk) fun b o n=>hk b o (by simpa using Nat.ne_of_lt (Heap.lt_size n)) (Heap.get?_push_of_some _ n),rfl,q⟩
def Zpw:V->Value
 | .ty n=>.type n
 | .ref a=>.ref a
 |_=>.none
def isCls:V->Bool
 | .ty _=>true
 | .ref _=>true
 |_=>false
def Zwc(K:W.Frag):List V->Hp->VK->Prop:=fun xs H Q=>∃x c t b,xs=[x,c]/\Zmc K H x t/\isCls c=true/\W.kitOne K t (Zpw c)=some b/\Q (.bl b) H
theorem Zmb:Zd4 X (.builtin "isinstance") (Zwc X.K):=by
 intro pins s σ H xs j Q I r h;obtain⟨x,c,t,b,rfl,ty,i,e,q⟩:=h;obtain⟨u,a,rfl,d,f⟩:=Zow r;have g:a=Zpw c:=by cases c <;> first|exact f|cases i
 subst g;exact Zje I d ty e fun tk=>⟨.bl b,H,I.tok tk,rfl,q⟩
def Its(x:Str):It:=⟨fun i _=>i < x.cps.size,fun i H v H'=>H'=H/\∃c,x.cps[i]?=some c/\v= .str ⟨#[c]⟩,fun i _=>i=x.cps.size⟩
theorem Zlc{P:Program}{w:World}{K:PySem.W.Frag}{tg:Expr}{it:Addr}{ty:String}{x:Str}{t:Tok}
  (W:∀A:Around,A.handled=none->Walks P w A it [it] [it] x.cps.size (SignAt x) (fun i h=>h.IsStrIter it ty x t i))
  (hself:∀ (A:Around) (i:Nat) (s:Shared) (Q:Value->Shared->Prop) (E:Value->Shared->Prop),s.heap.IsStrIter it ty x t i->Q (.ref it) s->wpAny (model P w) A (pyIter (.ref it)) Q E s)
  (hn:["enumerate","zip","dict_itemiterator","dict_reverseitemiterator","odict_iterator","itertools.zip_longest","itertools.pairwise"].contains ty=false):
  Zss P w K tg (Its x) [it] it (fun i h=>h.IsStrIter it ty x t i) where
 mem:=by simp
 obj:=fun i h st b a=>by
  have e:b=it:=by simpa using a
  subst e;obtain⟨o,e,c,d⟩:=st;exact⟨o,e,fun v z=>by rw[d]at z;cases z⟩
 keep:=fun i h h' st k=>by obtain⟨o,e,r⟩:=st;exact⟨o,k it (by simp) o e,r⟩
 item:=by
  intro X p j q n i pins s σ H E I f st m;subst p j q;obtain⟨f0,f1,f2,f3,f4,y⟩:=f it (by simp);refine(W X.A (I.ok.hd n)).item i s _ _ m st fun v h' tk hv g l=>?_
  obtain⟨c,u,hc',rfl⟩:=hv;have I1:Inv X pins σ H {s with heap:=h',toks:=tk}:=I.turned (t':=tk) (fun b o a e=>l b o (by simpa using a) e) f0 f1 f3 f4 y;obtain⟨o,e,cc,d⟩:=id g;exact⟨_,rfl,Zpo (s:={s with heap:=h',toks:=tk}) e cc d hn ⟨.str ⟨#[c]⟩,H,I1,⟨u,rfl⟩,⟨rfl,c,hc',rfl⟩,g,fun b a=>(f b a).1⟩⟩
 done:=by
  intro X p j q n i pins s σ H E I f st m;subst p j q;obtain⟨f0,f1,f2,f3,f4,y⟩:=f it (by simp);have hg':i=x.cps.size:=m;subst hg';exact(W X.A (I.ok.hd n)).done s _ _ st fun h' tk l=>⟨rfl,I.turned (t':=tk) (fun b o a e=>l b o (by simpa using a) e) f0 f1 f3 f4 y⟩
 self:=fun A i s Q E st h=>hself A i s Q E st h
def Zvn(tl:TE):TI:=fun σ H R=>tl σ H fun x H1=>∃z,x= .str z/\R (Its z) H1
theorem Zhc{tg l:Expr}{tl:TE}(hl:PE X l tl):PI X tg l (Zvn tl):=by
 intro pins s σ H R I h;refine thn (hl pins s σ H _ I h) fun v s1 ⟨x,H1,a,f,g⟩=>?_
 obtain⟨z,e,q⟩:=g;subst e;obtain⟨t,rfl⟩:=(show ∃t,v=Value.str z t from f);have c:∀b:Addr,b∈[s1.heap.objs.size]->FpOk X pins H1 b:=fun b j=>by
  have e:b=s1.heap.objs.size:=by simpa using j
  subst e;exact a.fpOk (Nat.le_refl _) (a.hok.fresh (Nat.le_refl _))
 cases ha:z.cps.all (· < 128)
 ·exact wpAny_pyIter_wide ha ⟨s1.heap.objs.size, [s1.heap.objs.size], _, _, H1, rfl, a.kept (t' := s1.toks) fun b o e => Heap.get?_push_of_some _ e,
   Zlc (fun A d => Walks.strWide d _ z t) (fun A i s Q E st h => wpAny_pyIter_striter_wide st h) (by decide), ⟨_, Heap.get?_push_size _ rfl, rfl, rfl⟩, c, q⟩
 ·exact wpAny_pyIter_ascii ha ⟨s1.heap.objs.size, [s1.heap.objs.size], _, _, H1, rfl, a.kept (t' := s1.toks) fun b o e => Heap.get?_push_of_some _ e,
   Zlc (fun A d => Walks.strAscii d _ z t) (fun A i s Q E st h => wpAny_pyIter_striter_ascii st h) (by decide), ⟨_, Heap.get?_push_size _ rfl, rfl, rfl⟩, c, q⟩
theorem Zf6{caps:List (Option Nat)}{g:TG}{tc:TT}{te:TE}{z:Str}{σ:St}{H1:Hp}{Q:VK}(Pv:Nat->List V->St->Hp->Prop)(h0:Pv 0 [] (capSt caps σ) H1)(hl:∀i ys σ H,Pv i ys σ H->i <=z.cps.size->ys.length <=i)(hz:z.cps.size <=sizeLine)
  (hs:∀i c ys σ H,z.cps[i]?=some c->Pv i ys σ H->g (.str ⟨#[c]⟩) σ H fun σ2 H2=>tc σ2 H2 fun b H3=>if b=true then te σ2 H3 fun y H4=>Pv (i+ 1) (ys++[y]) σ2 H4 else Pv (i+ 1) ys σ2 H3)
  (hd:∀ys σ H,Pv z.cps.size ys σ H->∀p,H p=none->Q (.ref p) (upd H p (.lst ys))):
  Zfx caps g tc te σ Q (Its z) H1:=by
 refine⟨fun i m ys σ H=>m=z.cps.size - i/\i <=z.cps.size/\Pv i ys σ H,⟨z.cps.size,by simp,Nat.zero_le _,h0⟩,?_⟩;rintro i m ys σ H ⟨rfl,hi,p⟩;have h:=hl i ys σ H p hi
 by_cases hlt:i < z.cps.size
 ·refine .inr ⟨hlt,by omega,Pv (i+ 1),fun f σ' H' a=>⟨z.cps.size - (i+ 1),by omega,rfl,hlt,a⟩,fun x H' y=>?_⟩;obtain⟨e,c,d,y⟩:=y;subst e y;exact hs i c ys σ _ d p
 ·have e:i=z.cps.size:=by omega
  subst e;exact .inl ⟨rfl,by omega,hd ys σ H p⟩
end
def Zon(N N':List Str)(scope:Scope)(caps:List (Option Nat))(sc:Scope):Bool:=
 decide (scope.kind= .function) && (scope.names.all fun y=>decide (y.2≠ .cell)) && (scope.names.all fun y=>decide (y.2= .local->scope.names.lookup y.1=some .local)) && decide (caps.length=N'.length) &&
 ((N'.zip caps).all fun p => match p.2 with
  |none=>true
  | some j => decide (N[j]? = some p.1) && decide ((p.1, NameKind.free) ∈ scope.names) && (scope.names.all fun y => decide (y.1 = p.1 -> y.2 = .free))) &&
 (scope.names.all fun y=>decide (y.2= .free->sc.names.lookup y.1=some .cell\/sc.names.lookup y.1=some .free))
theorem Zgs{X:Cx}{N':List Str}{scope:Scope}{caps:List (Option Nat)}{sc:Scope}{N:List Str}(hsc:X.env.scope=sc)(hN:X.N=N)(h:Zon N N' scope caps sc=true):Zfc X N' scope caps:=by
 subst hsc hN;unfold Zon at h;simp only[Bool.and_eq_true,decide_eq_true_eq,List.all_eq_true]at h;obtain⟨⟨⟨⟨⟨h1,h2⟩,e⟩,d⟩,h5⟩,c⟩:=h;refine⟨h1,h2,e,⟨d,fun i j x g f=>?_⟩,fun x hx=>?_⟩
 ·have a:(x,some j)∈N'.zip caps:=by
   have:(N'.zip caps)[i]?=some (x,some j):=by
    rw[List.getElem?_zip_eq_some];exact⟨g,f⟩
   exact List.mem_of_getElem? this
  have q:=h5 _ a;simp only[Bool.and_eq_true,decide_eq_true_eq,List.all_eq_true]at q;exact⟨q.1.1,q.1.2,fun k b=>q.2 _ b rfl⟩
 ·exact c _ hx rfl
theorem Zgl{X:Cx}{N:List Str}(h:X.N=N)(d:N.Nodup):X.N.Nodup:=h▸d
theorem Zb8{X:Cx}{x:Str}{n:Int}{pos:Pos}(hg:Gl X x)(hm:∃t,X.mg x=some (.int n t))(hd:(x==("__debug__":Str))=false:=by decide):PE X (.Name x pos) (tC (.int n)):=by
 obtain⟨t,e⟩:=hm;exact Zbs hg e ⟨t,rfl⟩ hd
structure FnB(P:Program)(w:World)(K:W.Frag)(mg:Str->Option Value)(base:Heap)(x:Str)(k:Nat)(ps:List Str)(dvs:List V)(sp:Sp):Prop where
 ex:∃ (f:Addr) (fd:FuncData) (ds:List Value),FnOk P w K mg base CX0 k f fd ps sp/\mg x=some (.ref f)/\W.keepIn K (.ref f)=true/\Binds K fd ps ds/\Vals dvs ds
structure MkB(P:Program)(w:World)(K:W.Frag)(mg:Str->Option Value)(base:Heap)(x:Str)(C:Addr)(k:Nat)(ps:List Str)(dvs:List V)(sp:Sp):Prop where
 ex:∃ (f:Addr) (fd:FuncData) (ds:List Value),FnOk P w K mg base CX0 k f fd ps sp/\mg x=some (.ref C)/\Mk K C f/\Binds K fd ps ds/\Vals dvs ds
structure MtB(P:Program)(w:World)(K:W.Frag)(mg:Str->Option Value)(base:Heap)(C:Addr)(m:Str)(k:Nat)(ps:List Str)(dvs:List V)(sp:Sp):Prop where
 ex:∃ (f:Addr) (fd:FuncData) (ds:List Value),FnOk P w K mg base CX0 k f fd ps sp/\Cls K C/\Zv9 K C m f/\Binds K fd ps ds/\Vals dvs ds
section
variable{X:Cx}{k:Nat}{C:Addr}{ps:List Str}{sp:Sp}{dvs:List V}{x m:Str}{p pos apos:Pos}{e o:Expr}{es:List Expr}{ta:TE}{t:TA}
theorem Zaf(F:FnB X.prog X.w X.K X.mg X.base x k ps dvs sp)(hr:Room k X.A)(hg:Gl X x)(ha:PA X (e::es) t)(hdb:(x==("__debug__":Str))=false:=by decide)
  (he:starEach (e::es) X.env=(false,eval e X.env)::starEach es X.env:=by rfl) (hpl:(backTo pos (starEach es X.env)).any (·.1)=false:=by rfl):PE X (.Call (.Name x p) (e::es) [] pos) (Zhm sp dvs E0 t):=by
 obtain⟨f,fd,ds,G,a,b,d,c⟩:=F.ex;exact Zny G hr hg a b d c Zrv ha hdb he hpl
end
structure Bt(mg:Str->Option Value):Prop where
 len:mg "len"=none
 range:mg "range"=none
 isinstance:mg "isinstance"=none
 all:mg "all"=none
 min:mg "min"=none
 max:mg "max"=none
 bint:mg "int"=none
 bbool:mg "bool"=none
 bstr:mg "str"=none
 blist:mg "list"=none
 btuple:mg "tuple"=none
def But(a:Addr)(H H':Hp):Prop:=∀b o,H b=some o->b≠a->H' b=some o
theorem But.upd{a:Addr}{H:Hp}{o:HO}:But a H (upd H a o):=fun b _ h n=>by rw[Zap n];exact h
def Zuq(g:TG)(tb:TS)(D:Zmz)(σ:St)(J:It)(H1:Hp):Prop:=∃W:Nat->Nat->St->Hp->Prop,(∃m,W 0 m σ H1)/\∀i m σ H,W i m σ H->
 (J.stop i H/\D.nx σ H)\/(J.go i H/\∃N:St->Hp->Prop,(∀σ' H',N σ' H'->∃m',m' < m/\W (i+ 1) m' σ' H')/\∀x H',J.yld i H x H'->g x σ H' fun σ2 H2=>tb {D with nx:=N,ct:=N,bk:=D.nx} σ2 H2)
theorem Zq4(wi:TI)(g:TG)(tb:TS)(D:Zmz)(σ:St)(H:Hp):Zv1 wi g tb D σ H=wi σ H fun J H1=>Zuq g tb D σ J H1:=rfl
theorem Zl9{lo:Int}{n:Nat}{g:TG}{tb:TS}{D:Zmz}{σ:St}{H:Hp}(Pv:Nat->St->Hp->Prop)(h0:Pv 0 σ H)
  (hs:∀i σ H,i < n->Pv i σ H->g (.int (lo+ i)) σ H fun σ2 H2=>tb {D with nx:=Pv (i+ 1),ct:=Pv (i+ 1),bk:=D.nx} σ2 H2) (hd:∀σ H,Pv n σ H->D.nx σ H):Zuq g tb D σ (Itr lo n) H:=Zoi Pv h0 hs hd
theorem Zai{n:Nat}(h:n <=100000):n <=sizeLine:=Nat.le_trans h (by rw[sizeLine_eq];decide)
def tyO:HO->Option String
 | .lst _=>some "list"
 | .tup _=>some "tuple"
 | .dK _=>some "dict"
 |_=>none
def tyF(H:Hp):V->Option String
 | .non=>some "NoneType"
 | .bl _=>some "bool"
 | .int _=>some "int"
 | .str _=>some "str"
 | .ref a=>(H a).bind tyO
 |_=>none
def Zme(n T:String):Bool:=n==T||(n=="bool" && T=="int")
theorem Zsw{K:W.Frag}{H:Hp}{x:V}{n:String}(h:tyF H x=some n):Zmc K H x (.type n)/\n∈["NoneType","bool","int","str","list","tuple","dict"]:=by
 cases x with
 |non=>cases h;exact⟨.non,by simp⟩
 |bl b=>cases h;exact⟨.bl b,by simp⟩
 |int i=>cases h;exact⟨.int i,by simp⟩
 |str i=>cases h;exact⟨.str i,by simp⟩
 |ref a=>
  have h:(H a).bind tyO=some n:=h;cases e:H a with
  |none=>rw[e]at h;cases h
  |some o=>
   rw[e]at h;cases o <;> first|(cases h;done)|skip
   ·cases h;exact⟨.lst e,by simp⟩
   ·cases h;exact⟨.tup e,by simp⟩
   ·cases h;exact⟨.dK e,by simp⟩
 |_=>cases h
theorem Zr1{K:W.Frag}{n T:String}(hn:n∈["NoneType","bool","int","str","list","tuple","dict"])(hT:T∈["bool","int","str","list","tuple","dict"]):W.kitOne K (.type n) (.type T)=some (Zme n T):=by
 simp only[List.mem_cons,List.not_mem_nil,or_false]at hn hT;rcases hn with rfl|rfl|rfl|rfl|rfl|rfl|rfl <;> rcases hT with rfl|rfl|rfl|rfl|rfl|rfl <;> rfl
def Zrn(T:String):List V->Hp->VK->Prop:=fun xs H Q=>∃x n,xs=[x,.ty T]/\tyF H x=some n/\Q (.bl (Zme n T)) H
theorem Zds{X:Cx}(T:String)(hT:T∈["bool","int","str","list","tuple","dict"]:=by decide):Zd4 X (.builtin "isinstance") (Zrn T):=by
 intro pins s σ H xs a Q I r h;obtain⟨x,n,rfl,ty,q⟩:=h;obtain⟨c,b⟩:=Zsw (K:=X.K) ty;exact Zmb pins s σ H _ a Q I r ⟨x,.ty T,_,_,rfl,c,rfl,Zr1 b hT,q⟩
theorem Zqx{H:Hp}{a:Addr}{xs:List V}(h:H a=some (.lst xs)):tyF H (.ref a)=some "list":=by show(H a).bind tyO=_;rw[h];rfl
theorem Zqy{H:Hp}{i:Int}:tyF H (.int i)=some "int":=rfl
theorem Zsx{H:Hp}{i:Bool}:tyF H (.bl i)=some "bool":=rfl
theorem Zqv{H:Hp}{i:Str}:tyF H (.str i)=some "str":=rfl
theorem Zqw{H:Hp}:tyF H .non=some "NoneType":=rfl
section
variable{CX:CXT}{P:Program}{w:World}{K:W.Frag}{mg:Str->Option Value}{base:Heap}{N:List Str}{q:Str}{sc:Scope}{f:Addr}{cd:Value}{A:Around}{o:List Env}{s:Shared}{H:Hp}{E:XK}
theorem cxK:(cxOf CX P w K mg base N q sc f cd A o s H E).K=K:=rfl
end
def isI:V->Bool
 | .int _=>true
 |_=>false
def isB:V->Bool
 | .bl _=>true
 |_=>false
def isS:V->Bool
 | .str _=>true
 |_=>false
def isL(H:Hp):V->Bool
 | .ref a=>match H a with
  |some (.lst _)=>true
  |_=>false
 |_=>false
theorem Zjz{o:HO}{n:String}(h:tyO o=some n):n="list"\/n="tuple"\/n="dict":=by
 cases o <;> first|(cases h;done)|(cases h;simp)
theorem Zsv{H:Hp}{x:V}{n:String}(h:tyF H x=some n):Zme n "int"=(isI x||isB x):=by
 cases x with
 |ref a=>
  have h:(H a).bind tyO=some n:=h;cases e:H a with
  |none=>rw[e]at h;cases h
  |some o=>
   rw[e]at h;rcases Zjz h with rfl|rfl|rfl <;> rfl
 |_=>first|(cases h;done)|(cases h;rfl)
theorem Zm0{H:Hp}{x:V}{n:String}(h:tyF H x=some n):Zme n "bool"=isB x:=by
 cases x with
 |ref a=>
  have h:(H a).bind tyO=some n:=h;cases e:H a with
  |none=>rw[e]at h;cases h
  |some o=>
   rw[e]at h;rcases Zjz h with rfl|rfl|rfl <;> rfl
 |_=>first|(cases h;done)|(cases h;rfl)
theorem Zp0{H:Hp}{x:V}{n:String}(h:tyF H x=some n):Zme n "str"=isS x:=by
 cases x with
 |ref a=>
  have h:(H a).bind tyO=some n:=h;cases e:H a with
  |none=>rw[e]at h;cases h
  |some o=>
   rw[e]at h;rcases Zjz h with rfl|rfl|rfl <;> rfl
 |_=>first|(cases h;done)|(cases h;rfl)
theorem Zqu{H:Hp}{x:V}{n:String}(h:tyF H x=some n):Zme n "list"=isL H x:=by
 cases x with
 |ref a=>
  have h:(H a).bind tyO=some n:=h;cases e:H a with
  |none=>rw[e]at h;cases h
  |some o=>
   rw[e]at h;have b:isL H (.ref a)=match some o with|some (.lst _)=>true|_=>false:=by
    show(match H a with|some (.lst _)=>true|_=>false)=_;rw[e]
   rw[b];cases o <;> first|(cases h;done)|(cases h;rfl)
 |_=>first|(cases h;done)|(cases h;rfl)
theorem Zqp{H:Hp}{x:V}(h:isL H x=true):∃a xs,x= .ref a/\H a=some (.lst xs):=by
 cases x with
 |ref a=>
  have h:(match H a with|some (.lst _)=>true|_=>false)=true:=h;cases e:H a with
  |none=>rw[e]at h;cases h
  |some o=>
   rw[e]at h;cases o <;> first|(cases h;done)|exact⟨a,_,rfl,e⟩
 |_=>cases h
theorem Zcu{H H':Hp}(s:Same H H'){x:V}{n:String}(h:tyF H x=some n):tyF H' x=some n:=by
 cases x with
 |ref a=>
  have h:(H a).bind tyO=some n:=h;show(H' a).bind tyO=some n;cases e:H a with
  |none=>rw[e]at h;cases h
  |some o=>rw[s a o e];rw[e]at h;exact h
 |_=>exact h
def wIn(x:V)(lo hi:Int):Bool:=match x with
 | .int i=>decide (lo <=i) && decide (i <=hi)
 |_=>false
def smallC(c:Nat):Bool:=decide (97 <=c) && decide (c <=122)
def isNm:V->Bool
 | .str z=>decide (1 <=z.length) && decide (z.length <=8) && z.cps.toList.all smallC
 |_=>false
def isBd(H:Hp):V->Bool
 | .ref a=>match H a with
  |some (.lst xs)=>decide (1 <=xs.length) && decide (xs.length <=4000) && xs.all (fun y=>wIn y 0 255)
  |_=>false
 |_=>false
theorem Zl7{H:Hp}{a:Addr}{xs:List V}(h:H a=some (.lst xs)):isBd H (.ref a)=(decide (1 <=xs.length) && decide (xs.length <=4000) && xs.all (fun y=>wIn y 0 255)):=by
 show(match H a with|some (.lst xs)=>decide (1 <=xs.length) && decide (xs.length <=4000) && xs.all (fun y=>wIn y 0 255)|_=>false)=_;rw[h]
theorem Zob{H:Hp}{x:V}(h:isL H x=false):isBd H x=false:=by
 cases x with
 |ref a=>
  have h:(match H a with|some (.lst _)=>true|_=>false)=false:=h;show(match H a with|some (.lst xs)=>_|_=>false)=false;cases e:H a with
  |none=>rfl
  |some o=>
   rw[e]at h;cases o <;> first|rfl|cases h
 |_=>rfl
theorem Same.new{H H':Hp}{p:Addr}{o:HO}(x:Same H H')(h:H p=none):Same H (upd H' p o):=fun b u e=>by
 rw[Zap (Zaz e h)];exact x b u e
theorem Zrc(c:Nat):((!decide ((⟨#[c]⟩:Str).cps.toList < ("a":Str).cps.toList))=decide (97 <=c))/\((!decide (("z":Str).cps.toList < (⟨#[c]⟩:Str).cps.toList))=decide (c <=122)):=by
 have g:("a":Str).cps.toList=[97]:=by decide +kernel
 have f:("z":Str).cps.toList=[122]:=by decide +kernel
 rw[g,f];have e:(⟨#[c]⟩:Str).cps.toList=[c]:=rfl;rw[e];have d:∀a b:Nat,([a] < [b])↔a < b:=fun a b=>by
  constructor
  ·intro h;rcases List.cons_lt_cons_iff.mp h with h|⟨_,h⟩
   ·exact h
   ·exact absurd h (List.not_lt_nil _)
  ·intro h;exact List.cons_lt_cons_iff.mpr (.inl h)
 constructor
 ·rw[Bool.eq_iff_iff];simp only[Bool.not_eq_true',decide_eq_false_iff_not,decide_eq_true_eq,d];omega
 ·rw[Bool.eq_iff_iff];simp only[Bool.not_eq_true',decide_eq_false_iff_not,decide_eq_true_eq,d];omega
def tUp(t:TS):TS:=fun D σ H=>∃R:St->Hp->Prop,t {D with nx:=R} σ H/\∀σ' H',R σ' H'->D.nx σ' H'
theorem Zo3{X:Cx}{st:Stmt}{t:TS}(h:PS X st t):PS X st (tUp t):=by
 intro pins s σ H D I b;obtain⟨R,h1,h2⟩:=b;refine thn (h pins s σ H _ I h1) fun f s' q=>?_
 cases f with
 |next=>obtain⟨σ',H',c,a⟩:=q;exact⟨σ',H',c,h2 σ' H' a⟩
 |brk=>exact q
 |cont=>exact q
 |ret v=>exact q
section
variable{X:Cx}{K:W.Frag}
theorem Zam(h:X.K=K):IxR X (Zu0 K):=h▸Zr3
theorem Zd2(h:X.K=K):IxR X (Zuz K):=h▸Zuh
theorem Zox(h:X.K=K):SlR X (Zuy K):=h▸Zrb
def Zve(K:W.Frag):List V->Hp->VK->Prop:=fun xs H Q=>∃p ys,xs=[.ref p]/\(SqL K H p ys\/SqT K H p ys)/\Q (.int ys.length) H
def Zkj(K:W.Frag):List V->Hp->VK->Prop:=fun xs H Q=>∃p ys,xs=[.ref p]/\(SqL K H p ys\/SqT K H p ys)/\∀l,H l=none->Q (.ref l) (upd H l (.lst ys))
def Zvi(K:W.Frag):List V->Hp->VK->Prop:=fun xs H Q=>∃ (p:Addr) (bs:List Bool),xs=[.ref p]/\SqL K H p (bs.map V.bl)/\Q (.bl (bs.all id)) H
theorem Zbt(h:X.K=K):Zd4 X (.builtin "len") (Zve K):=h▸Zjr
theorem Zhi(h:X.K=K):Zd4 X (.type "list") (Zkj K):=h▸Zjq
theorem Zfb(hc:X.calm=true)(h:X.K=K):Zd4 X (.builtin "all") (Zvi K):=h▸Zpx hc
theorem Zrw(hu:X.A.units+ 64 < cLine)(h:X.K=K):OpR X (compareOp .Eq) (Zv5 K):=h▸Zt1 hu
theorem Zko(hu:X.A.units+ 64 < cLine)(h:X.K=K):OpR X (compareOp .NotEq) (Zv4 K):=h▸Zty hu
theorem Zi3(h:X.K=K):OpR X (compareOp .NotIn) (rIn K true):=h▸Zi2
theorem Zfp{e:Expr}{f:Str}{pos:Pos}{ta:TE}(h:X.K=K)(he:PE X e ta)(hb:attributeBase e f X.env (eval e X.env)=eval e X.env):PE X (.Attribute e f pos) (Zuu K ta f):=h▸Ztv he hb
theorem Zcr{o value:Expr}{f:Str}{pos pos':Pos}{ta tv:TE}(h:X.K=K)(ha:PE X o ta)(hv:PE X value tv)(hs:swapsWith value (some (.Attribute o f pos')) pos.line X.env=pure false):PS X (.Assign [.Attribute o f pos'] value pos) (Zux K ta tv f):=h▸Ztr ha hv hs
theorem Zrt{es:List Expr}{k:Nat}{t:TGs}{n:Nat}{pos:Pos}(h:X.K=K)(hc:X.calm=true)(hg:PGs X es t)
  (hn:(assignEach es X.env).length=n:=by rfl) (hst:(assignEach es X.env).findIdx? (·.1)=none:=by rfl):PG X (.Tuple es k pos) (Zu3 K n t):=h▸Zts hc hg hn hst
theorem Zlz{tg l:Expr}{tl:TE}(h:X.K=K)(hl:PE X l tl):PI X tg l (Zpk K tl):=h▸Zrr hl
theorem pe_bmK{o e:Expr}{es:List Expr}{to:TE}{t:TA}{name:Str}{apos cpos:Pos}{T id:String}{r:V->List V->Hp->VK->Prop}(h:X.K=K)(pa:PlainAttrs T)(slot:Slot T name id)(hty:typeOf (.builtin id)=pure (.type "method_descriptor"))(hm:MtR X id r)(ho:PE X o to)(ha:PA X (e::es) t)
  (hbase:attributeBase o name X.env (eval o X.env)=eval o X.env:=by rfl)
  (hfew : ((backTo cpos (starEach (e :: es) X.env)).all (fun x => !x.1) && (backToKw cpos (keywordEach [] X.env)).all (fun x => x.1.isSome)
   && decide ((e :: es).length + ([] : List Keyword).length + (if ([] : List Keyword).isEmpty then 0 else 1) < 30)) = true := by rfl)
  (hline:(apos.endLine==cpos.line)=true:=by rfl) (hs:starEach (e::es) X.env=(false,eval e X.env)::starEach es X.env:=by rfl) (hplain:(backTo cpos (starEach es X.env)).any (·.1)=false:=by rfl):
  PE X (.Call (.Attribute o name apos) (e::es) [] cpos) (tBM K T r to t):=h▸Zvj pa slot hty hm ho ha hbase hfew hline hs hplain
def Zv3(K:W.Frag)(ta:TE):TT:=fun σ H Q=>ta σ H fun x H1=>∃k,TruV K x H1 k/\Q k H1
end
def Zwb:V->Option Int->Option Int->Hp->VK->Prop:=fun x lo hi H Q=>∃z,x= .str z/\z.length <=sizeLine/\Q (.str (Txt.slice z lo hi)) H
section
variable{X:Cx}
theorem Znz{v:Value}{o:Option Int}(p:IsPart v o):∃q:Option (Int×Tok),v=partValue q/\q.map (·.1)=o:=by
 cases p with
 |none=>exact⟨none,rfl,rfl⟩
 |int i t=>exact⟨some (i,t),rfl,rfl⟩
theorem Zs9:SlR X Zwb:=by
 intro pins s σ H x v m k lo hi n Q I c hs f d h;obtain⟨z,rfl,g,q⟩:=h;obtain⟨t,rfl⟩:=c;obtain⟨l,rfl,j⟩:=Znz f;obtain⟨u,rfl,i⟩:=Znz d;refine⟨"str",_,F.slot_str_getitem.lookup,typeIs_str s z t,?_⟩;refine wpAny_getItem_str_slice (l:=l) (u:=u) (st:=none) hs rfl ?_;have e:sliceMade z t l u none=if((1:Int)==1 && (Builtin.Str.strSliceIndices lo hi 1 z.length).length==z.length)=true then .val (.str z t) else .str ⟨((Builtin.Str.strSliceIndices lo hi 1 z.length).filterMap (z.cps[·]?)).toArray⟩:=by
  unfold sliceMade slicePicked;rw[j,i];rfl
 rw[e];unfold Txt.slice at q
 split
 ·rename_i h
  rw[if_pos h]at q;exact⟨.str z,H,I,⟨t,rfl⟩,q⟩
 ·rename_i h
  rw[if_neg h]at q;have a:∀tk b,EP X pins σ Q (.str ⟨((Builtin.Str.strSliceIndices lo hi 1 z.length).filterMap (z.cps[·]?)).toArray⟩ tk) {s with toks:=b}:=fun tk b=>⟨.str _,H,I.tok _,⟨tk,rfl⟩,q⟩
  first
   |exact a _ _
   |exact⟨by show(List.filterMap _ _).toArray.size <=_;rw[List.size_toArray];exact Nat.le_trans (List.length_filterMap_le _ _) (Nat.le_trans (indices_len_le lo hi z.length) g),a _ _⟩
end
theorem Zbc{H:Hp}{p:Addr}{o:HO}(h:H p=none):Same H (upd H p o):=(Same.refl H).new h
section
variable{X:Cx}{es:List Expr}{t:TA}{pos:Pos}
def Zqz(t:TA):TE:=fun σ H Q=>t σ H fun xs H1=>xs.length <=sizeLine/\∀p G,H1 p=none->Same H1 G->G p=some (.tup xs)->Q (.ref p) G
def Zq3(t:TA):TE:=fun σ H Q=>t σ H fun xs H1=>xs.length <=sizeLine/\∀p G,H1 p=none->Same H1 G->G p=some (.lst xs)->Q (.ref p) G
theorem Zfo{x1}(h:PA X es t):PE X (.Tuple es x1 pos) (Zqz t):=by
 intro pins s σ H Q I f;refine wpAny_Tuple_spliced (thn (h pos pins s σ H _ I f) fun d s1 ⟨xs,H1,c,r,z,q⟩=>⟨by rw[<-r.length];exact z,?_⟩);have a:H1 s1.heap.objs.size=none:=c.hok.fresh (Nat.le_refl _);refine⟨.ref s1.heap.objs.size,upd H1 s1.heap.objs.size (.tup xs),c.laid (t':=s1.toks) (fun b u e=>Heap.get?_push_of_some _ e) (Nat.le_refl _) ?_,rfl,q _ _ a (Zbc a) Zan⟩;exact⟨z,d,r,⟨_,Heap.get?_push_size _ rfl,rfl,_,rfl⟩⟩
theorem Zbm(h:PA X es t):PE X (.List es pos) (Zq3 t):=by
 intro pins s σ H Q I f;refine wpAny_List_spliced (thn (h pos pins s σ H _ I f) fun d s1 ⟨xs,H1,c,r,z,q⟩=>⟨by rw[<-r.length];exact z,?_⟩);have a:H1 s1.heap.objs.size=none:=c.hok.fresh (Nat.le_refl _);refine⟨.ref s1.heap.objs.size,upd H1 s1.heap.objs.size (.lst xs),c.laid (t':=s1.toks) (fun b u e=>Heap.get?_push_of_some _ e) (Nat.le_refl _) ?_,rfl,q _ _ a (Zbc a) Zan⟩;exact⟨z,d,0,r,Heap.get?_push_size _ rfl⟩
end
section
variable{X:Cx}{K:W.Frag}
theorem OpR.imp{f:Value->Value->Sem Value}{r r':R2}(h:OpR X f r)(hi:∀x y H Q,r' x y H Q->r x y H Q):OpR X f r':=fun pins s σ H x y v u Q I b a q=>h pins s σ H x y v u Q I b a (hi _ _ _ _ q)
theorem MtM.imp{id:String}{r r':V->List V->Hp->VK->Prop}(h:MtM X id r)(hi:∀x xs H Q,r' x xs H Q->r x xs H Q):MtM X id r':=fun pins s σ H x xs v a Q I b c q=>h pins s σ H x xs v a Q I b c (hi _ _ _ _ q)
theorem SlR.imp{r r':V->Option Int->Option Int->Hp->VK->Prop}(h:SlR X r)(hi:∀x a b H Q,r' x a b H Q->r x a b H Q):SlR X r':=fun pins s σ H x v e d lo c f Q I g hs j i q=>h pins s σ H x v e d lo c f Q I g hs j i (hi _ _ _ _ _ q)
theorem PSet.imp{t t':Zu4}(h:PSet X t)(hi:∀o i v H Q,t' o i v H Q->t o i v H Q):PSet X t':=fun pins s σ H o i v d e u Q I a b c q=>h pins s σ H o i v d e u Q I a b c (hi _ _ _ _ _ q)
def Zrq:R2:=fun x y H Q=>∃l b xs zs,x= .ref l/\y= .ref b/\H l=some (.lst xs)/\H b=some (.lst zs)/\xs.length+ zs.length <=sizeLine/\∀p G,H p=none->Same H G->G p=some (.lst (xs++zs))->Q (.ref p) G
theorem Zkp:OpR X (binaryOp .Add) Zrq:=op_cat.imp fun x y H Q ⟨l,b,xs,zs,e,d,h1,h2,c,q⟩=>⟨l,b,xs,zs,e,d,h1,h2,c,fun p a=>q p _ a (Zbc a) Zan⟩
def Ztf:R2:=fun x y H Q=>∃l k xs,x= .ref l/\y= .int k/\H l=some (.lst xs)/\ -(2 ^ 63) <=k/\k < 2 ^ 63/\xs.length*k.toNat <=sizeLine/\∀p G,H p=none->Same H G->G p=some (.lst (List.replicate k.toNat xs).flatten)->Q (.ref p) G
def Zlu(K:W.Frag):List V->Hp->VK->Prop:=fun xs H Q=>∃p ys,xs=[.ref p]/\(SqL K H p ys\/SqT K H p ys)/\∀l G,H l=none->Same H G->G l=some (.lst ys)->Q (.ref l) G
def Zrg(K:W.Frag):V->Option Int->Option Int->Hp->VK->Prop:=fun x lo hi H Q=>∃a xs,x= .ref a/\SqL K H a xs/\∀p G,H p=none->Same H G->G p=some (.lst (Zun xs lo hi))->Q (.ref p) G
theorem Zlr(h:X.K=K):SlR X (Zrg K):=(Zox h).imp fun x a b H Q ⟨p,ys,e,h1,q⟩=>⟨p,ys,e,h1,fun l c=>q l _ c (Zbc c) Zan⟩
def Zlx:V->List V->Hp->VK->Prop:=fun x vs H Q=>∃l xs y,x= .ref l/\vs=[y]/\H l=some (.lst xs)/\xs.length < sizeLine/\∀G,But l H G->G l=some (.lst (xs++[y]))->Q .non G
def Zlv:V->List V->Hp->VK->Prop:=fun x vs H Q=>∃l b xs zs,x= .ref l/\vs=[.ref b]/\H l=some (.lst xs)/\H b=some (.lst zs)/\xs.length+ zs.length <=sizeLine/\∀G,But l H G->G l=some (.lst (xs++zs))->Q .non G
def Zth:V->List V->Hp->VK->Prop:=fun x vs H Q=>∃l xs y,x= .ref l/\vs=[]/\H l=some (.lst xs)/\xs[xs.length - 1]?=some y/\∀G,But l H G->G l=some (.lst xs.dropLast)->Q y G
def Znr:V->List V->Hp->VK->Prop:=fun x vs H Q=>∃l xs,x= .ref l/\vs=[]/\H l=some (.lst xs)/\∀G,But l H G->G l=some (.lst [])->Q .non G
def Zni:V->V->V->Hp->(Hp->Prop)->Prop:=fun o i v H Q=>∃p xs k j,o= .ref p/\i= .int k/\H p=some (.lst xs)/\ixN xs.length k=some j/\∀G,But p H G->G p=some (.lst (xs.set j v))->Q G
theorem Zcq:PSet X Zni:=set_list.imp fun o i v H Q ⟨p,xs,k,j,b,a,h1,h2,q⟩=>⟨p,xs,k,j,b,a,h1,h2,q _ But.upd Zan⟩
def Zta(K:W.Frag)(ta tv:TE)(f:Str):TS:=fun D σ H=>tv σ H fun y H1=>ta σ H1 fun x H2=>∃a C dx fs,x= .ref a/\H2 a=some (.ins C dx fs)/\Cls K C/\NoAttr K C f/\fs.length < 1000/\
 ∀G,But a H2 G->G a=some (.ins C dx (putF f y fs))->D.nx σ G
end
def FldV(K:W.Frag)(H:Hp)(x:V)(f:Str)(v:V):Prop:=∃a C dx fs,x= .ref a/\H a=some (.ins C dx fs)/\Cls K C/\NoAttr K C f/\fs.lookup f=some v
def Zq5(K:W.Frag)(ta:TE)(f:Str):TE:=fun σ H Q=>ta σ H fun x H1=>∃v,FldV K H1 x f v/\Q v H1
theorem Zfq{X:Cx}{K:W.Frag}{e:Expr}{f:Str}{pos:Pos}{ta:TE}(h:X.K=K)(he:PE X e ta)(hb:attributeBase e f X.env (eval e X.env)=eval e X.env):PE X (.Attribute e f pos) (Zq5 K ta f):=by
 subst h;intro pins s σ H Q I h;refine Zoq hb (thn (he pins s σ H _ I h) fun u s1 ⟨x,H1,j,b,v,⟨a,C,dx,fs,ex,g,c,n,l⟩,q⟩=>?_);subst ex;obtain rfl:u=Value.ref a:=b;exact Zhh j g c n l fun k s2 i d=>⟨v,H1,i,d,q⟩
theorem Zru{X:Cx}{K:W.Frag}{o:Expr}{to:TE}{name:Str}{apos cpos:Pos}{T id:String}{r:V->List V->Hp->VK->Prop}(h:X.K=K)(pa:PlainAttrs T)(slot:Slot T name id)(hty:typeOf (.builtin id)=pure (.type "method_descriptor"))(hm:MtR X id r)(ho:PE X o to)
  (hbase:attributeBase o name X.env (eval o X.env)=eval o X.env:=by rfl) (hline:(apos.endLine==cpos.line)=true:=by rfl):PE X (.Call (.Attribute o name apos) [] [] cpos) (Zuv K T r to):=h▸Ztx pa slot hty hm ho hbase hline
structure CtB(P:Program)(w:World)(K:W.Frag)(mg:Str->Option Value)(base:Heap)(x:Str)(k:Nat)(sp:Sp):Prop where
 ex:∃ (f C:Addr) (fd:FuncData) (ds:List Value) (dvs:List V) (ps:List Str) (sp0:Sp),FnOk P w K mg base CX0 k f fd ps sp0/\mg x=some (.ref C)/\Mk K C f/\Binds K fd ps ds/\Vals dvs ds/\
  ∀vs H Q,sp vs H Q E0->∀y dx G,H y=none->H dx=none->dx≠y->Same H G->G y=some (.ins C dx [])->sp0 (.ref y::(vs++dvs)) G (fun v H2=>v= .non/\Q (.ref y) H2) E0
theorem Zqm{X:Cx}{k:Nat}{sp:Sp}{x:Str}{p pos:Pos}{e:Expr}{es:List Expr}{t:TA}(F:CtB X.prog X.w X.K X.mg X.base x k sp)(hr:Room (k+ 1) X.A)(hg:Gl X x)(ha:PA X (e::es) t)(hdb:(x==("__debug__":Str))=false:=by decide)
  (he:starEach (e::es) X.env=(false,eval e X.env)::starEach es X.env:=by rfl) (hpl:(backTo pos (starEach es X.env)).any (·.1)=false:=by rfl):PE X (.Call (.Name x p) (e::es) [] pos) (Zhm sp [] E0 t):=by
 obtain⟨f,C,fd,ds,dvs,ps,l,G,g,M,j,i,hi⟩:=F.ex;intro pins s σ H Q I h;refine wpAny_Call_Name_kw (Zdo I hg g ?_ hdb);refine W.callWith_K (h₀:=X.base) I.ok.mod.kin M.kp (thn (ha pos pins s σ H _ I h) fun m s1 ⟨vs,H1,c,r,q⟩=>⟨c.kIn,?_⟩) he hpl;have q:sp (vs++[]) H1 Q E0:=q;rw[List.append_nil]at q;exact Zlt M G hr j i Zrv c r fun y dx b a d=>hi _ _ _ q y dx _ b a d ((Zbc a).new b) Zan
def Zvw(C:Addr)(m:Str)(H:Hp)(x:V):Prop:=∃a dx fs,x= .ref a/\H a=some (.ins C dx fs)/\fs.lookup m=none
def Zm6(C:Addr)(m:Str)(sp:Sp)(dvs:List V)(ta:TE)(t:TA):TE:=fun σ H Q=>ta σ H fun x H1=>Zvw C m H1 x/\t σ H1 fun vs H2=>sp (x::(vs++dvs)) H2 Q E0
section
variable{X:Cx}{k:Nat}{C:Addr}{ps:List Str}{sp:Sp}{dvs:List V}{m:Str}{pos apos:Pos}{e o:Expr}{es:List Expr}{ta:TE}{t:TA}
theorem Zi0{pl:Sem Bool}(he:PE X o ta)(F:MtB X.prog X.w X.K X.mg X.base C m k ps dvs sp)(hr:Room k X.A)
  (ht : eval (.Call (.Attribute o m apos) [] [] pos) X.env = (do
   let ov <-eval o X.env
   standAt apos.atName
   let (f,first) <-holding [ov] (getMethod ov m pl)
   callWith pos f first (backTo pos (starEach [] X.env)) (backToKw pos (keywordEach [] X.env))) := by rfl) :
  PE X (.Call (.Attribute o m apos) [] [] pos) (Zm6 C m sp dvs ta Zut):=by
 obtain⟨f,fd,ds,G,c,d,i,g⟩:=F.ex;intro pins s σ H Q I h;refine W.methodCall_KW (pl:=pl) (thn (he pins s σ H _ I h) fun u s1 ⟨x,H1,b,e,⟨a,dx,fs,ex,j,l⟩,q⟩=>?_) ht;subst ex;obtain rfl:u=Value.ref a:=e;refine Zmu b j c d l ?_;exact W.callWith_K0 (first:=[.ref a]) b.kIn d.kp (Zqd (us:=[.ref a]) (vs:=[.ref a]) G hr i g Zrv b (.cons rfl .nil) q)
end
theorem Same.get{H G:Hp}{b:Addr}{o:HO}(s:Same H G)(h:H b=some o):G b=some o:=s b o h
theorem But.get{l:Addr}{H G:Hp}{b:Addr}{o:HO}(s:But l H G)(h:H b=some o)(n:b≠l):G b=some o:=s b o h n
theorem Same.butNew{l:Addr}{H H' G:Hp}(s:Same H H')(b:But l H' G)(h:H l=none):Same H G:=fun c o e=>b c o (s c o e) (Zaz e h)
section
variable{caps:List (Option Nat)}{g:TG}{tc:TT}{te:TE}
theorem Zmw{K:W.Frag}{a:Addr}{xs:List V}{σ:St}{H1:Hp}{Q:VK}(Pv:Nat->List V->St->Hp->Prop)(h0:Pv 0 [] (capSt caps σ) H1)(hl:∀i ys σ H,Pv i ys σ H->i <=xs.length->SqL K H a xs/\ys.length <=i)(hz:xs.length <=sizeLine)
  (hs:∀i x ys σ H,xs[i]?=some x->Pv i ys σ H->g x σ H fun σ2 H2=>tc σ2 H2 fun b H3=>if b=true then te σ2 H3 fun y H4=>Pv (i+ 1) (ys++[y]) σ2 H4 else Pv (i+ 1) ys σ2 H3)
  (hd:∀ys σ H,Pv xs.length ys σ H->∀p G,H p=none->Same H G->G p=some (.lst ys)->Q (.ref p) G):Zfx caps g tc te σ Q (Itl K a) H1:=
 Zjn Pv h0 hl hz hs fun ys σ H h p c=>hd ys σ H h p _ c (Zbc c) Zan
theorem Zgt{lo:Int}{n:Nat}{σ:St}{H1:Hp}{Q:VK}(Pv:Nat->List V->St->Hp->Prop)(h0:Pv 0 [] (capSt caps σ) H1)(hl:∀i ys σ H,Pv i ys σ H->i <=n->ys.length <=i)(hz:n <=sizeLine)
  (hs:∀i ys σ H,i < n->Pv i ys σ H->g (.int (lo+ i)) σ H fun σ2 H2=>tc σ2 H2 fun b H3=>if b=true then te σ2 H3 fun y H4=>Pv (i+ 1) (ys++[y]) σ2 H4 else Pv (i+ 1) ys σ2 H3)
  (hd:∀ys σ H,Pv n ys σ H->∀p G,H p=none->Same H G->G p=some (.lst ys)->Q (.ref p) G):Zfx caps g tc te σ Q (Itr lo n) H1:=
 Zmv Pv h0 hl hz hs fun ys σ H h p a=>hd ys σ H h p _ a (Zbc a) Zan
end
structure Zst(K:W.Frag)(C:Addr):Prop where
 ha:W.findIn K (.ref C) "__class__"=some (some (.builtin "object.__class__"))
 hn:W.specialIn K (.builtin "object.__class__") "__get__"=some (some (.builtin "getset_descriptor.__get__"))
 htk:W.takesIn K (.builtin "object.__class__")=some true
 hm:W.mroIn K C (.type "object")=some true
def Zro(C:Addr):List V->Hp->VK->Prop:=fun xs H Q=>∃a dx fs,xs=[.ref a,.ref C]/\H a=some (.ins C dx fs)/\Q (.bl true) H
theorem Zjt{X:Cx}{K:W.Frag}{C:Addr}(h:X.K=K)(cl:Cls K C)(ic:Zst K C):Zd4 X (.builtin "isinstance") (Zro C):=by
 subst h;intro pins s σ H xs b Q I r c;obtain⟨a,dx,fs,rfl,ha,q⟩:=c;refine Zmb pins s σ H _ b Q I r ⟨.ref a,.ref C,.ref C,true,rfl,.ins ha cl ic.ha ic.hn ic.htk ic.hm,rfl,?_,q⟩;show W.kitOne X.K (.ref C) (.ref C)=some true;unfold W.kitOne;rw[if_pos (by simp)]
section
variable{P:Program}{w:World}{K:W.Frag}{mg:Str->Option Value}{base:Heap}
theorem MtB.imp{C:Addr}{m:Str}{k:Nat}{ps:List Str}{dvs:List V}{sp sp':Sp}(F:MtB P w K mg base C m k ps dvs sp)(h:∀vs H Q E,sp' vs H Q E->sp vs H Q E):MtB P w K mg base C m k ps dvs sp':=by
 obtain⟨f,fd,ds,a,b,c,d,e⟩:=F.ex;exact⟨f,fd,ds,a.imp h,b,c,d,e⟩
end
def Zvz(t:TE):TE:=fun σ H Q=>∃R:VK,t σ H R/\∀v H',R v H'->Q v H'
theorem Zal{t u:TS}{D:Zmz}{σ:St}{H:Hp}(h:∀N:St->Hp->Prop,(∀σ' H',u D σ' H'->N σ' H')->t {D with nx:=N} σ H):Zus t u D σ H:=h (u D) fun _ _ x=>x
section
variable{κ:Type}[DecidableEq κ]
def valV(kvs:List (κ×V))(k:κ):Option V:=(kvs.find? fun kv=>decide (kv.1=k)).map (·.2)
def Zu1(kvs:List (κ×V))(k:κ)(v:V):List (κ×V):=
 if(kvs.any fun kv=>decide (kv.1=k))=true then kvs.map (fun kv=>if kv.1=k then(kv.1,v) else kv) else kvs++[(k,v)]
end
abbrev KT(H:Hp):List (List Key×V)->List (List Key×Addr×Value)->Prop:=Paired fun p q=>p.1=q.1/\H q.2.1=some (.tup (p.1.map kV))/\RelV p.2 q.2.2
section
variable{P:Program}{w:World}{H:Hp}{h:Heap}{a:Addr}
end
def Zwj(H:Hp)(a:Addr)(y:V)(r:Option V):Prop:=
 (∃kvs k,Rd H a (.dK kvs)/\y=kV k/\r=valV kvs k)\/∃kvs k b,Rd H a (.dT kvs)/\y= .ref b/\H b=some (.tup (k.map kV))/\r=valV kvs k
section
variable{X:Cx}{pins:List (Addr×Obj)}{σ:St}{H:Hp}{s:Shared}{a:Addr}{y v:V}{u r:Value}{o:Option V}{A:Around}{E:Value->Shared->Prop}
theorem Inv.big(I:Inv X pins σ H s):sysModules < s.heap.objs.size:=by
 have h:mainGlobals < s.heap.objs.size:=(I.mod.glob.keeps I.bk).lt;exact Nat.lt_trans (by decide) h
end
section
variable{X:Cx}{pins:List (Addr×Obj)}{σ:St}{H:Hp}{s:Shared}{a:Addr}{kvs:List (Key×V)}{k:Key}{u:Value}{A:Around}{E:Value->Shared->Prop}
end
def Zs6(td ty:TE):TE:=fun σ H Q=>td σ H fun x H1=>ty σ H1 fun y H2=>∃a v,x= .ref a/\Zwj H2 a y (some v)/\Q v H2
section
variable{X:Cx}{o i e value:Expr}{pos pos' tpos:Pos}{td ty tv:TE}
end
theorem Zpt{P:Program}{w:World}{H:Hp}(h:Heap)(hb:sysModules < h.objs.size):ObjOk P w H (h.push {cls:=.type "dict",data:=.dict #[]}) h.objs.size (.dK []):=
 ⟨Nat.zero_le _,beq_eq_false_iff_ne.mpr (Ne.symm (Nat.ne_of_lt hb)),[],.nil,Heap.DictOf.new h⟩
def Zs5:TE:=fun _ H Q=>∀p,H p=none->Q (.ref p) (upd H p (.dK []))
section
variable{X:Cx}{pos:Pos}
theorem Zo5:PE X (.Dict [] [] pos) Zs5:=fun pins s σ H Q I h=>
 wpAny_Dict_empty ⟨.ref s.heap.objs.size,_,I.laid (a:=s.heap.objs.size) (o:=.dK []) (t':=s.toks) (fun _ _ q=>Heap.get?_push_of_some _ q) (Nat.le_refl _) (Zpt s.heap I.big),rfl,h _ (I.hok.fresh (Nat.le_refl _))⟩
end
def Zli:List (TE×TE)->St->Hp->(List (V×V)->Hp->Prop)->Prop
 |[],_,H,Q=>Q [] H
 |(tk,tv)::r,σ,H,Q=>tk σ H fun x H1=>tv σ H1 fun y H2=>Zli r σ H2 fun ps H3=>Q ((x,y)::ps) H3
abbrev VV:List (V×V)->List (Value×Value)->Prop:=Paired fun p q=>RelV p.1 q.1/\RelV p.2 q.2
def Zt7(kvs more:List (Key×V)):List (Key×V):=more.foldl (fun acc kv=>Zu1 acc kv.1 kv.2) kvs
def Zs4(trs:List (TE×TE)):TE:=fun σ H Q=>∀p,H p=none->Zli trs σ (upd H p (.dK [])) fun ps H2=>H2 p=some (.dK [])/\∃kvs:List (Key×V),ps=kvs.map (fun kv=>(kV kv.1,kv.2))/\kvs.length <=15/\Q (.ref p) (upd H2 p (.dK (Zt7 [] kvs)))
section
variable{X:Cx}
end
section
variable{X:Cx}{K:W.Frag}
def Zqe(K:W.Frag):List V->Hp->VK->Prop:=fun xs H Q=>∃ (p:Addr) (ns:List Int),xs=[.ref p]/\SqL K H p (ns.map V.int)/\ns.length < 64/\∀ (ms:List Int) l G,ms.Perm ns->ms.Pairwise (· <=·)->H l=none->Same H G->G l=some (.lst (ms.map V.int))->Q (.ref l) G
def Ztd(K:W.Frag):List V->Hp->VK->Prop:=fun xs H Q=>∃ (p:Addr) (ns:List Int),xs=[.ref p]/\SqL K H p (ns.map V.int)/\(∀x∈ns,-(2 ^ 62) <=x/\x < 2 ^ 62)/\(∀j,j <=ns.length-> -(2 ^ 62) <=(ns.take j).sum/\(ns.take j).sum < 2 ^ 62)/\Q (.int ns.sum) H
end
end L2
set_option maxHeartbeats 400000
namespace L2
open PySem PySem.Spec PyProof.Rows
section
variable{prog:Program}{w:World}{A:Around}{E:Value->Shared->Prop}{s:Shared}
end
def Zvy(val:Nat->Int):Nat->Int
 |0=>val 0
 |j+ 1=>if val (j+ 1) > Zvy val j then val (j+ 1) else Zvy val j
section
variable{prog:Program}{w:World}{A:Around}{R:Result->Shared->Prop}{I:Addr}{fp wr:List Addr}{n:Nat}{P:Nat->Value->Prop}{St:Nat->Heap->Prop}
end
def Zrk(K:W.Frag):V->V->Hp->VK->Prop:=fun x d H Q=>∃ (p:Addr) (ns:List Int),x= .ref p/\SqL K H p (ns.map V.int)/\(ns=[]->Q d H)/\∀v,v∈ns->(∀y∈ns,y <=v)->Q (.int v) H
def Zs1(K:W.Frag)(ta tb:TE):TE:=fun σ H Q=>ta σ H fun x H1=>tb σ H1 fun d H2=>Zrk K x d H2 Q
section
variable{X:Cx}{K:W.Frag}
end
section
variable{X:Cx}
def Zqg:List V->Hp->VK->Prop:=fun xs H Q=>∃a kvs,xs=[V.ref a]/\H a=some (.dK kvs)/\∀l G,H l=none->Same H G->G l=some (.lst (kvs.map fun kv=>kV kv.1))->Q (.ref l) G
end
structure Bt2(mg:Str->Option Value):Prop where
 sum:mg "sum"=none
 sorted:mg "sorted"=none
section
variable{X:Cx}{pos pos':Pos}{o i value:Expr}{td ty tv:TE}
def Zm8:TE:=fun _ H Q=>∀p G,H p=none->Same H G->G p=some (.dK [])->Q (.ref p) G
theorem Zo6:PE X (.Dict [] [] pos) Zm8:=fun pins s σ H Q I h=>Zo5 pins s σ H Q I fun p a=>h p _ a (Zbc a) Zan
def Zqc(td ty tv:TE):TS:=fun D σ H=>tv σ H fun v H1=>td σ H1 fun x H2=>ty σ H2 fun y H3=>∃a n kvs,x= .ref a/\y= .int n/\H3 a=some (.dK kvs)/\kvs.length < sizeLine/\∀G,But a H3 G->G a=some (.dK (Zu1 kvs (.inl n) v))->D.nx σ G
def Znq:R2:=fun y x H Q=>∃a n kvs,y= .int n/\x= .ref a/\H a=some (.dK kvs)/\Q (.bl (!(valV kvs (Sum.inl n)).isSome)) H
def Ztl:List V->Hp->VK->Prop:=fun xs H Q=>∃a kvs,xs=[V.ref a]/\H a=some (.dK kvs)/\Q (.int kvs.length) H
end
end L2
set_option maxHeartbeats 4000000
namespace L2
open PySem PySem.Spec PyProof.Rows
section
variable{X:Cx}{K:W.Frag}
def Zte(K:W.Frag):List V->Hp->VK->Prop:=fun xs H Q=>∃ (p:Addr) (ns:List Int),xs=[.ref p]/\SqL K H p (ns.map V.int)/\Q (.int ns.sum) H
def Zvx(i j:Int):Prop:=0 < j/\j < 18446744073709551616
theorem Zcx:OpR X (binaryOp .FloorDiv) (rI Zvx fun i j=>.int (i / j)):=opI fun i j _ _ _ _ _ a q=>by
 have h1:(0:Int) < j:=a.1;have h2:j < 18446744073709551616:=a.2;refine floordiv_int (by omega) (by rw[Int.fdiv_eq_ediv_of_nonneg i (by omega)];exact q) (.inl (PyProof.noPylong_of_log2 ?_));have:j.natAbs.log2 < 64:=(Nat.log2_lt (by omega)).mpr (by omega);omega
def Zki:V->List V->Hp->VK->Prop:=fun x vs H Q=>∃l xs i k y,x= .ref l/\vs=[.int i]/\H l=some (.lst xs)/\ -(2 ^ 63) <=i/\i < 2 ^ 63/\seqIndex? i xs.length=some k/\xs[k]?=some y/\∀G,But l H G->G l=some (.lst (xs.eraseIdx k))->Q y G
theorem Zn6:MtM X "list.pop" Zki:=mt_popAt.imp fun x xs H Q ⟨l,ys,i,k,y,d,c,h1,h2,b,a,h5,q⟩=>⟨l,ys,i,k,y,d,c,h1,h2,b,a,h5,q _ But.upd Zan⟩
end
end L2
namespace L2
open PySem PySem.Spec PyProof.Rows PySem.W
section
variable{α β:Type}{N:Nat}{lt:Nat->Nat->Bool}
def TOk(N:Nat)(lt:Nat->Nat->Bool):KasT α->(α->Prop)->Prop
 | .ret a,Q=>Q a
 | .ask i j k,Q=>i < N/\j < N/\TOk N lt (k (lt i j)) Q
end
section
variable{O:KeyOrd}{key:Nat->O.α}{N:Nat}{p:Array Nat}
abbrev KLt(O:KeyOrd)(key:Nat->O.α)(i j:Nat):Bool:=O.blt (key i) (key j)
end
section
variable{prog:Program}{w:World}{A:Around}{E:Value->Shared->Prop}{s:Shared}{O:KeyOrd}{key:Nat->O.α}{κ:SortKind}{vs:List Value}
structure SortAsk(prog:Program)(w:World)(h:Heap)(O:KeyOrd)(key:Nat->O.α)(κ:SortKind)(vs:List Value):Prop where
 kind:∀ (A:Around) (s:Shared) (Q:SortKind->Shared->Prop),(∀b o,h.get? b=some o->s.heap.get? b=some o)->2 <=vs.length->Q κ s->wpAny (model prog w) A (keyKind' vs.toArray) Q (fun _ _=>False) s
 cmp:∀ (A:Around) (s:Shared) (i j:Nat) (C:Bool->Shared->Prop),(∀b o,h.get? b=some o->s.heap.get? b=some o)->i < vs.length->j < vs.length->C (KLt O key i j) s->kas_ask prog w A κ vs i j C s
end
section
variable{prog:Program}{w:World}{A:Around}{E:Value->Shared->Prop}{s:Shared}
end
section
variable{X:Cx}{K:W.Frag}
end
end L2
namespace L2
open PySem PySem.Spec PyProof.Rows
section
variable{X:Cx}{pins:List (Addr×Obj)}{σ:St}{H:Hp}{s:Shared}{h':Heap}
end
def Ite(K:W.Frag)(a:Addr):It:=
 ⟨fun i H=>∃xs x,SqL K H a xs/\xs[i]?=some x,fun i H x H'=>∃t y,x= .ref t/\H t=none/\Same H H'/\H' t=some (.tup [.int i,y])/\∀xs,SqL K H a xs->xs[i]?=some y,fun i H=>∃xs,SqL K H a xs/\xs.length <=i⟩
section
variable{X:Cx}{K:W.Frag}
def Zuk(K:W.Frag)(ta:TA):TI:=fun σ H R=>ta σ H fun vs H1=>∃l,vs=[.ref l]/\(∃xs,SqL K H1 l xs)/\R (Ite K l) H1
end
def Itz(K:W.Frag)(a b:Addr):It:=
  ⟨fun i H => ∃ xs ys x y, SqL K H a xs /\ SqL K H b ys /\ xs[i]? = some x /\ ys[i]? = some y, fun i H x H' => ∃ t y z, x = .ref t /\ H t = none /\ Same H H' /\ H' t = some (.tup [y, z]) /\ (∀ xs, SqL K H a xs -> xs[i]? = some y) /\ (∀ ys, SqL K H b ys -> ys[i]? = some z),
   fun i H => ∃ xs ys, SqL K H a xs /\ SqL K H b ys /\ (xs.length <= i \/ ys.length <= i)⟩
section
variable{X:Cx}{K:W.Frag}
def Zv7(K:W.Frag)(ta:TA):TI:=fun σ H R=>ta σ H fun vs H1=>∃l1 l2,vs=[.ref l1,.ref l2]/\(∃xs,SqL K H1 l1 xs)/\(∃xs,SqL K H1 l2 xs)/\R (Itz K l1 l2) H1
def Ztj(K:W.Frag):List V->Hp->VK->Prop:=fun xs H Q=>∃ (p:Addr) (ns:List Int),xs=[.ref p]/\SqL K H p (ns.map V.int)/\ns≠[]/\∀v,v∈ns->(∀y∈ns,v <=y)->Q (.int v) H
end
def Zv8(val:Nat->Int):Nat->Int
 |0=>val 0
 |j+ 1=>if val (j+ 1) < Zv8 val j then val (j+ 1) else Zv8 val j
section
variable{prog:Program}{w:World}{A:Around}{R:Result->Shared->Prop}{I:Addr}{fp wr:List Addr}{n:Nat}{P:Nat->Value->Prop}{St:Nat->Heap->Prop}
end
def Zrj(K:W.Frag):V->V->Hp->VK->Prop:=fun x d H Q=>∃ (p:Addr) (ns:List Int),x= .ref p/\SqL K H p (ns.map V.int)/\(ns=[]->Q d H)/\∀v,v∈ns->(∀y∈ns,v <=y)->Q (.int v) H
def Zsz(K:W.Frag)(ta tb:TE):TE:=fun σ H Q=>ta σ H fun x H1=>tb σ H1 fun d H2=>Zrj K x d H2 Q
section
variable{X:Cx}{K:W.Frag}
end
section
variable{caps:List (Option Nat)}{g:TG}{tc:TT}{te:TE}
end
structure Bt3(mg:Str->Option Value):Prop where
 enumerate:mg "enumerate"=none
 zip:mg "zip"=none
def Zu5(lo st:Int)(n:Nat):It:=⟨fun i _=>i < n,fun i H x H'=>H'=H/\x= .int (lo+ i*st),fun i _=>n <=i⟩
theorem Zj0{P:Program}{w:World}{K:PySem.W.Frag}{tg:Expr}(it:Addr)(lo st:Int)(n:Nat):Zss P w K tg (Zu5 lo st n) [it] it (fun i h=>IsRangeIter h it (lo+ (i:Nat)*st) ((n:Int) - (i:Nat)) st) where
 mem:=by simp
 obj:=fun i h hs b a=>by
  have e:b=it:=by simpa using a
  subst e;exact ⟨_, hs, fun v z => by
   have y : Data.fields _ = Data.cell v := z;cases y⟩
 keep:=fun i h h' hs k=>k it (by simp) _ hs
 item:=by
  intro X l f m j i pins s σ H E I c hs g;subst l f m;obtain⟨x,u,f2,r,q,p⟩:=c it (by simp);have W:=Walks.range (prog:=X.prog) (w:=X.w) (I.ok.hd j) it lo st n;refine W.item i s _ _ g hs fun v h' tk hv d kk=>?_
  obtain⟨t,rfl⟩:=hv;have I1:Inv X pins σ H {s with heap:=h',toks:=tk}:=I.turned (fun b o a e=>kk b o (by simpa using a) e) x u r q p;exact⟨_,rfl,Zpo (s:={s with heap:=h',toks:=tk}) (n:="range_iterator") d rfl rfl (by decide) ⟨.int (lo+ i*st),H,I1,⟨t,rfl⟩,⟨rfl,rfl⟩,d,fun b a=>(c b a).1⟩⟩
 done:=by
  intro X l f m j i pins s σ H E I c hs g;subst l f m;obtain⟨x,u,f2,r,q,p⟩:=c it (by simp);exact wpAny_pyNext_range_end (I.ok.hd j) hs (by have:n <=i:=g;omega) fun h' eb=>⟨rfl,I.turned (t':=s.toks) (fun b o a e=>eb b o a e) x u r q p⟩
 self:=fun _ _ _ _ _ st h=>wpAny_pyIter_rangeiter st h
def rsz(i j c:Int):Nat:=(Builtin.Range.rangeSize i j c).toNat
section
variable{X:Cx}{tg:Expr}
def Zr7(ta:TA):TI:=fun σ H R=>ta σ H fun vs H1=>∃i j c:Int,vs=[.int i,.int j,.int c]/\(-(2 ^ 30) <=i/\i < 2 ^ 30/\ -(2 ^ 30) <=j/\j < 2 ^ 30/\0 < c/\c < 2 ^ 20)/\R (Zu5 i c (rsz i j c)) H1
theorem Zmk{i j c:Int}(hc:0 < c):0 <=Builtin.Range.rangeSize i j c:=by
 unfold Builtin.Range.rangeSize;rw[if_pos hc]
 split
 ·have:=Int.ediv_nonneg (show 0 <=j - i - 1 by omega) (Int.le_of_lt hc);omega
 ·exact Int.le_refl _
theorem Ztb{i j c:Int}(hc:0 < c):Builtin.Range.rangeSize i j c <=(j - i).toNat:=by
 unfold Builtin.Range.rangeSize;rw[if_pos hc]
 split
 ·have h1:(j - i - 1) / c <=j - i - 1:=Int.ediv_le_self _ (by omega);omega
 ·omega
theorem Zne{pins:List (Addr×Obj)}{σ:St}{H:Hp}{s:Shared}{R:It->Hp->Prop}{E:Value->Shared->Prop}{lo hi c:Int}{t u v:Tok}{tk:Nat}(I:Inv X pins σ H s)(h1: -(2 ^ 30) <=lo)(h2:lo < 2 ^ 30)(h3: -(2 ^ 30) <=hi)(h4:hi < 2 ^ 30)(h5:0 < c)(h6:c < 2 ^ 20)
  (q:R (Zu5 lo c (rsz lo hi c)) H):wpAny (model X.prog X.w) X.A (pyIter (.ref s.heap.objs.size)) (PIE X pins σ tg R) E {s with heap:=s.heap.push {cls:=.type "range",data:=.fields #[.int lo t,.int hi u,.int c v]},toks:=tk}:=by
 have h:=Zmk (i:=lo) (j:=hi) h5;have k:=Ztb (i:=lo) (j:=hi) h5;have hs:Builtin.Range.small lo hi c=true:=by
  unfold Builtin.Range.small;simp only[Builtin.Range.rangeFitsLong,Bool.and_eq_true,Bool.or_eq_true,decide_eq_true_eq,beq_iff_eq,if_pos (show c > 0 from h5)];omega
 refine wpAny_pyIter_range (IsRange.new ..) hs ?_;have a:Inv X pins σ H {s with heap:=s.heap.push {cls:=.type "range",data:=.fields #[.int lo t,.int hi u,.int c v]},toks:=tk}:=I.kept fun b o e=>Heap.get?_push_of_some _ e
 refine ⟨(s.heap.push { cls := .type "range", data := .fields #[.int lo t, .int hi u, .int c v] }).objs.size, [(s.heap.push { cls := .type "range", data := .fields #[.int lo t, .int hi u, .int c v] }).objs.size], _, _, H, rfl,
  a.kept (t' := tk) fun b o e => Heap.get?_push_of_some _ e, Zj0 _ lo c (rsz lo hi c), ?_, fun b d => ?_, q⟩
 ·have g:lo+ ((0:Nat):Int)*c=lo:=by simp
  have f:((rsz lo hi c:Nat):Int) - ((0:Nat):Int)=Builtin.Range.rangeSize lo hi c:=by unfold rsz;omega
  show IsRangeIter _ _ (lo+ ((0:Nat):Int)*c) (((rsz lo hi c:Nat):Int) - ((0:Nat):Int)) c;rw[g,f];exact Heap.get?_push_size _ rfl
 ·have e:b=(s.heap.push {cls:=.type "range",data:=.fields #[.int lo t,.int hi u,.int c v]}).objs.size:=by simpa using d
  subst e;exact a.fpOk (Nat.le_refl _) (a.hok.fresh (Nat.le_refl _))
theorem Znw{a b c:Expr}{ta:TA}{p pos:Pos}(hg:Gl X "range")(hm:X.mg "range"=none)(ha:PA X [a,b,c] ta)(hs:starEach [a,b,c] X.env=[(false,eval a X.env),(false,eval b X.env),(false,eval c X.env)]:=by rfl)(hs2:starEach [b,c] X.env=[(false,eval b X.env),(false,eval c X.env)]:=by rfl):
  PI X tg (.Call (.Name "range" p) [a,b,c] [] pos) (Zr7 ta):=by
 intro pins s σ H R I h;refine Call_ (Zjc I hg hm boot_range (PyProof.Rows.callWith_type1 (thn (ha pos pins s σ H _ I h) fun w s1 ⟨vs,H1,u,f,d⟩=>?_) (by rw[hs,hs2]) (by rw[hs2];rfl)));obtain⟨i,j,k,e,⟨d,o,n,m,l,g⟩,q⟩:=d;subst e;cases f with
 |cons r rr=>
  cases rr with
  |cons r' rr=>
   cases rr with
   |cons r'' rr=>
    cases rr;obtain⟨t,rfl⟩:=r;obtain⟨x,rfl⟩:=r';obtain⟨v,rfl⟩:=r'';exact call_range_3 (by omega) (Zne u d o n m l g q) (Or.inl (PyProof.noPylong_small (by omega)))
end
section
variable{caps:List (Option Nat)}{g:TG}{tc:TT}{te:TE}
theorem Zk5{lo st:Int}{n:Nat}{σ:St}{H1:Hp}{Q:VK}(Pv:Nat->List V->St->Hp->Prop)(h0:Pv 0 [] (capSt caps σ) H1)(hl:∀i ys σ H,Pv i ys σ H->i <=n->ys.length <=i)(hz:n <=sizeLine)
  (hs:∀i ys σ H,i < n->Pv i ys σ H->g (.int (lo+ i*st)) σ H fun σ2 H2=>tc σ2 H2 fun b H3=>if b=true then te σ2 H3 fun y H4=>Pv (i+ 1) (ys++[y]) σ2 H4 else Pv (i+ 1) ys σ2 H3)
  (hd:∀ys σ H,Pv n ys σ H->∀p G,H p=none->Same H G->G p=some (.lst ys)->Q (.ref p) G):Zfx caps g tc te σ Q (Zu5 lo st n) H1:=by
 refine⟨fun i m ys σ H=>m=n - i/\i <=n/\Pv i ys σ H,⟨n,by simp,Nat.zero_le _,h0⟩,?_⟩;rintro i m ys σ' H ⟨rfl,hi,p⟩;have d:=hl i ys σ' H p hi
 by_cases hlt:i < n
 ·refine .inr ⟨hlt,by omega,fun ys σ H=>Pv (i+ 1) ys σ H,fun ys σ H c=>⟨n - (i+ 1),by omega,rfl,hlt,c⟩,fun x H' y=>?_⟩;obtain⟨e,y⟩:=y;subst e y;exact hs i ys σ' _ hlt p
 ·have e:i=n:=by omega
  subst e;exact .inl ⟨Nat.le_refl _,by omega,fun c a=>hd ys σ' H p c _ a (Zbc a) Zan⟩
end
section
variable{X:Cx}
def Zp4(n m:Int):TE:=fun _ H Q=>∀p G,H p=none->Same H G->G p=some (.dK [(.inl n,.int m)])->Q (.ref p) G
end
end L2
namespace L2
open PySem PySem.Spec PyProof.Rows
open Sem (wp)
open AutoSeq1 (wpAny_loadPart')
section
variable{prog:Program}{w:World}{A:Around}{E:Value->Shared->Prop}{s:Shared}
end
def Itn(K:W.Frag)(a:Addr)(c:Int):It:=
 ⟨fun i H=>∃xs x,SqL K H a xs/\xs[i]?=some x,fun i H x H'=>∃t y,x= .ref t/\H t=none/\Same H H'/\H' t=some (.tup [.int (c+ i),y])/\∀xs,SqL K H a xs->xs[i]?=some y,fun i H=>∃xs,SqL K H a xs/\xs.length <=i⟩
section
variable{M:Model}{A:Around}{E:Value->Shared->Prop}{s:Shared}{env:Env}
end
section
variable{X:Cx}{K:W.Frag}
def Zqq(K:W.Frag)(ta tb:TE):TI:=fun σ H R=>ta σ H fun x H1=>tb σ H1 fun y H2=>∃l c,x= .ref l/\y= .int c/\ -(2 ^ 62) <=c/\c < 2 ^ 62/\(∃xs,SqL K H2 l xs)/\R (Itn K l c) H2
def Znp(K:W.Frag):R2:=fun x y H Q=>∃a b xs,x= .ref a/\y= .ref b/\SqL K H a xs/\SqL K H b []/\Q (.bl (decide (xs.length=0))) H
theorem Zl2(hu:X.A.units+ 64 < cLine)(h:X.K=K):OpR X (compareOp .Eq) (Znp K):=by
 subst h;intro pins s σ H x y v u Q I i g h;obtain⟨a,b,xs,rfl,rfl,h1,h2,q⟩:=h;cases i;cases g;obtain⟨d,k,p,o⟩:=I.list h1;obtain⟨l,c,p2,n⟩:=I.list h2;cases c;have f:=k.length
 by_cases h0:xs.length=0
 ·refine PySem.SeqAt.eq_listAt (e:=fun _=>true) p.isList p2.isList (by rw[List.size_toArray,List.size_toArray,<-f,h0];rfl) (Nat.lt_of_le_of_lt (Nat.le_add_right _ 64) hu) ?_ ?_
  ·intro j h1;rw[List.size_toArray]at h1;omega
  ·have m:d.toArray.size=0:=by rw[List.size_toArray];omega
   rw[m];rw[decide_eq_true h0]at q;exact Za4 I q rfl
 ·refine PySem.SeqAt.eq_list_lengthsAt p.isList p2.isList (by rw[List.size_toArray,List.size_toArray,<-f];simp;exact fun z=>h0 (by rw[z];rfl)) (Nat.lt_of_le_of_lt (Nat.le_add_right _ 64) hu) ?_;rw[decide_eq_false h0]at q;exact Za4 I q rfl
def Zv6:R2:=fun y x H Q=>∃a n kvs,y= .int n/\x= .ref a/\H a=some (.dK kvs)/\Q (.bl (valV kvs (Sum.inl n)).isSome) H
end
end L2
namespace L2
open PySem PySem.Spec PyProof.Rows
section
variable{X:Cx}{pos pos' p0:Pos}{o i value:Expr}{td ty tv tz:TE}
def Zqb(td ty tv:TE):TS:=fun D σ H=>tv σ H fun v H1=>td σ H1 fun x H2=>ty σ H2 fun y H3=>∃a n kvs,x= .ref a/\y= .str n/\H3 a=some (.dK kvs)/\kvs.length < sizeLine/\∀G,But a H3 G->G a=some (.dK (Zu1 kvs (.inr n) v))->D.nx σ G
def Ztp:R2:=fun y x H Q=>∃a n kvs,y= .str n/\x= .ref a/\H a=some (.dK kvs)/\Q (.bl (valV kvs (Sum.inr n)).isSome) H
def Zqh:V->List V->Hp->VK->Prop:=fun x vs H Q=>∃a n kvs z,x= .ref a/\vs=[.int n,z]/\H a=some (.dK kvs)/\Q ((valV kvs (Sum.inl n)).getD z) H
end
section
variable{X:Cx}{K:W.Frag}
def Ztk(K:W.Frag):List V->Hp->VK->Prop:=fun xs H Q=>∃ (p:Addr) (ns:List Int),xs=[.ref p]/\SqL K H p (ns.map V.int)/\ns≠[]/\∀v,v∈ns->(∀y∈ns,y <=v)->Q (.int v) H
end
def Ztn(K:W.Frag):List V->Hp->VK->Prop:=fun xs H Q=>∃a C1 C2 dx fs b,xs=[.ref a,.ref C2]/\H a=some (.ins C1 dx fs)/\Cls K C1/\Zst K C1/\W.kitOne K (.ref C1) (.ref C2)=some b/\Q (.bl b) H
section
variable{X:Cx}{K:W.Frag}
def Znk(K:W.Frag):R2:=fun x y H Q=>∃ (a b:Addr) (xs:List Addr),x= .ref a/\y= .ref b/\SqL K H a (xs.map V.ref)/\SqL K H b (xs.map V.ref)/\Q (.bl false) H
end
section
variable{rest es:List Expr}{env:Env}{pos:Pos}{a b c:Expr}
theorem Zlk{k:Nat}:starEach (.Tuple es k pos::rest) env=(false,eval (.Tuple es k pos) env)::starEach rest env:=rfl
theorem Zfe:starEach (.List es pos::rest) env=(false,eval (.List es pos) env)::starEach rest env:=rfl
theorem Zaa{v:Const}{k:Nat}:starEach (.Constant v k pos::rest) env=(false,eval (.Constant v k pos) env)::starEach rest env:=rfl
theorem Zab{x:Str}:starEach (.Name x pos::rest) env=(false,eval (.Name x pos) env)::starEach rest env:=rfl
theorem Zb6{o:Operator}:starEach (.BinOp a o b pos::rest) env=(false,eval (.BinOp a o b pos) env)::starEach rest env:=rfl
theorem Za6{ks:List Keyword}:starEach (.Call a es ks pos::rest) env=(false,eval (.Call a es ks pos) env)::starEach rest env:=rfl
theorem Za3{x:Str}:starEach (.Attribute a x pos::rest) env=(false,eval (.Attribute a x pos) env)::starEach rest env:=rfl
theorem Zah:starEach (.Subscript a b pos::rest) env=(false,eval (.Subscript a b pos) env)::starEach rest env:=rfl
theorem Zha{os:List CmpOp}:starEach (.Compare a os es pos::rest) env=(false,eval (.Compare a os es pos) env)::starEach rest env:=rfl
theorem Zcb{gs:List Comprehension}{sc:Scope}:starEach (.ListComp a gs sc pos::rest) env=(false,eval (.ListComp a gs sc pos) env)::starEach rest env:=rfl
theorem Zra{ks:List (Option Expr)}:starEach (.Dict ks es pos::rest) env=(false,eval (.Dict ks es pos) env)::starEach rest env:=rfl
end
section
variable{prog:Program}{w:World}{J:Type}[DecidableEq J]{knd:HeapKind prog w J}{A:Around}{E:Value->Shared->Prop}{s:Shared}{d a:Addr}{k:J}{xs:List (J×Addr×Value)}
def Zvm{β:Type}(xs:List (J×β))(k:J):List (J×β):=xs.filter fun x=> !decide (x.1=k)
end
section
variable{prog:Program}{w:World}{J:Type}[DecidableEq J]{knd:HeapKind prog w J}{d a:Addr}
end
section
variable{X:Cx}{K:W.Frag}
def Znj:V->List V->Hp->VK->Prop:=fun x vs H Q=>∃ (a b:Addr) (k:List Key) (kvs:List (List Key×V)) (z:V),x= .ref a/\vs=[.ref b,z]/\H a=some (.dT kvs)/\H b=some (.tup (k.map kV))/\kvs.length < sizeLine/\
 (∀v,valV kvs k=some v->Q v H)/\(valV kvs k=none->∀G,But a H G->G a=some (.dT (kvs++[(k,z)]))->Q z G)
def Ztg:V->List V->Hp->VK->Prop:=fun x vs H Q=>∃ (a b:Addr) (k:List Key) (kvs:List (List Key×V)) (v:V),x= .ref a/\vs=[.ref b]/\H a=some (.dT kvs)/\H b=some (.tup (k.map kV))/\valV kvs k=some v/\
 ∀G,But a H G->G a=some (.dT (Zvm kvs k))->Q v G
end
section
variable{X:Cx}{pins:List (Addr×Obj)}{σ:St}{H:Hp}{s:Shared}{d:Addr}{u0 u1:HO}
end
section
variable{prog:Program}{w:World}{A:Around}{E:Value->Shared->Prop}{s:Shared}{d it:Addr}{o:Obj}{es:Array DictEntry}{ep i n:Nat}
end
section
variable{X:Cx}{K:W.Frag}
end
section
variable{caps:List (Option Nat)}{g:TG}{tc:TT}{te td:TE}{d:Addr}{kvs:List (List Key×V)}{σ:St}{H:Hp}{Q:VK}
end
section
variable{X:Cx}{pos pos' p0:Pos}{o i value:Expr}{td ty tv tz:TE}
def Zqa(td ty tv:TE):TS:=fun D σ H=>tv σ H fun v H1=>td σ H1 fun x H2=>ty σ H2 fun y H3=>∃ (a b:Addr) (k:List Key) (kvs:List (List Key×V)),x= .ref a/\y= .ref b/\H3 a=some (.dT kvs)/\H3 b=some (.tup (k.map kV))/\kvs.length < sizeLine/\∀G,But a H3 G->G a=some (.dT (Zu1 kvs k v))->D.nx σ G
def Zto:R2:=fun y x H Q=>∃ (a b:Addr) (k:List Key) (kvs:List (List Key×V)),y= .ref b/\x= .ref a/\Rd H a (.dT kvs)/\H b=some (.tup (k.map kV))/\Q (.bl (valV kvs k).isSome) H
def Zlw:R2:=fun y x H Q=>∃ (a b:Addr) (k:List Key) (kvs:List (List Key×V)),y= .ref b/\x= .ref a/\Rd H a (.dT kvs)/\H b=some (.tup (k.map kV))/\Q (.bl (!(valV kvs k).isSome)) H
def Zm7:TE:=fun _ H Q=>∀p G,H p=none->Same H G->G p=some (.dT [])->Q (.ref p) G
end
section
variable{X:Cx}
end
end L2
namespace L2
open PySem PySem.Spec PyProof.Rows PySem.W
section
variable{X:Cx}{K:W.Frag}
def Znl(K:W.Frag):R2:=fun x y H Q=>∃a b xs,x= .ref a/\y= .ref b/\SqL K H a xs/\SqL K H b []/\Q (.bl (!decide (xs.length=0))) H
theorem Zo8(hu:X.A.units+ 64 < cLine)(h:X.K=K):OpR X (compareOp .NotEq) (Znl K):=by
 subst h;intro pins s σ H x y v u Q I i g h;obtain⟨a,b,xs,rfl,rfl,h1,h2,q⟩:=h;cases i;cases g;obtain⟨d,k,p,o⟩:=I.list h1;obtain⟨l,c,p2,n⟩:=I.list h2;cases c;have f:=k.length
 by_cases h0:xs.length=0
 ·refine PySem.SeqAt.RcNeAt.lists (e:=fun _=>true) p.isList p2.isList (by rw[List.size_toArray,List.size_toArray,<-f,h0];rfl) (Nat.lt_of_le_of_lt (Nat.le_add_right _ 64) hu) (fun j h1 h2=>?_) X.prog X.w _ _ ?_
  ·rw[List.size_toArray]at h1;omega
  ·have m:d.toArray.size=0:=by rw[List.size_toArray];omega
   rw[m];rw[decide_eq_true h0]at q;exact Za4 I q rfl
 ·refine PySem.SeqAt.RcNeAt.lists_lengths p.isList p2.isList (by rw[List.size_toArray,List.size_toArray,<-f];simp;exact fun z=>h0 (by rw[z];rfl)) (Nat.lt_of_le_of_lt (Nat.le_add_right _ 64) hu) X.prog X.w _ _ ?_;rw[decide_eq_false h0]at q;exact Za4 I q rfl
def Zqf:List V->Hp->VK->Prop:=fun xs H Q=>∃a,xs=[V.ref a]/\H a=some (.dT [])/\∀l G,H l=none->Same H G->G l=some (.lst [])->Q (.ref l) G
end
end L2
namespace L2
open PySem PySem.Spec PyProof.Rows
theorem ObjOk.there{P:Program}{w:World}{H:Hp}{h:Heap}{a:Addr}{o:HO}(x:ObjOk P w H h a o):∃ob,h.get? a=some ob:=by
 cases o with
 |lst xs=>obtain⟨_,_,_,_,e⟩:=x;exact⟨_,e⟩
 |tup xs=>obtain⟨_,_,_,ob,e,_⟩:=x;exact⟨_,e⟩
 |dK kvs=>obtain⟨_,_,_,_,o,_,_,e,_⟩:=x;exact⟨_,e⟩
 |dT kvs=>obtain⟨_,_,_,_,o,_,_,e,_⟩:=x;exact⟨_,e⟩
 |set S n=>obtain⟨o,_,_,_,e,_⟩:=x;exact⟨_,e⟩
 |ins C dx fs=>obtain⟨_,_,_,e,_⟩:=x;exact⟨_,e⟩
 |own y=>obtain⟨_,e⟩:=x;exact⟨_,e⟩
 |xd fs=>obtain⟨_,⟨_,_,_,e,_⟩,_⟩:=x;exact⟨_,e⟩
 |rng lo hi=>obtain⟨_,_,_,e⟩:=x;exact⟨_,e⟩
 |frz ob u=>obtain⟨e,_⟩:=x;exact⟨_,e⟩
 |tbl ps=>exact⟨_,show h.get? a=some _ from x⟩
 |met f y=>exact⟨_,show h.get? a=some _ from x⟩
 |ext φ=>obtain⟨_,⟨_,e⟩,_⟩:=x;exact⟨_,e⟩
structure Flew(P:Program)(w:World)(outer:List Env)(H:Hp)(s:Shared)(a C:Addr)(t:Value)(B:Heap)(H':Hp)(s':Shared):Prop where
 os:s'.os=s.os
 bare:AllBare s'.gens
 fly:Heap.FlyingW B outer a (.ref C) t s'.heap
 hok:HOk P w H' B
 un:Un (frs outer) [] H H' s.heap s'.heap
 keepB:∀b o,s.heap.get? b=some o->b∉frs outer->H b=none->B.get? b=some o
 thereB:∀b o,s.heap.get? b=some o->b∉frs outer->∃o',B.get? b=some o'
def CXx(P:Program)(w:World):CXT:=fun outer H s E e s'=>∃ (a C:Addr) (t:Value) (B:Heap) (H':Hp),e= .ref a/\Flew P w outer H s a C t B H' s'/\E (.ref C) none H'
structure Zgv(X:Cx)(E:XK):Prop where
 stk:X.stack=X.env::X.outer
 fr:X.env.frame=some X.env.locals
 ex:X.ex=[]
 xe:∀e s,wpAny (model X.prog X.w) X.A (leaving X.env e) (fun _ s''=>CXx X.prog X.w X.outer X.H₀ X.s₀ E e s'') (fun e' s''=>CXx X.prog X.w X.outer X.H₀ X.s₀ E e' s'') s->X.xe e s
section
variable{X:Cx}{pins:List (Addr×Obj)}{σ:St}{H:Hp}{s:Shared}{E E1:XK}
theorem Zfs(L:X.stack=X.env::X.outer)(fr:X.env.frame=some X.env.locals){b:Addr}:b∈frs X.stack↔b=X.env.locals\/b∈frs X.outer:=by
 rw[L];unfold frs;simp[fr]
theorem Zo2(I:Inv X pins σ H s)(L:Zgv X E){h1:Heap}{e C:Addr}{args:List Value}{tk:Nat}(hx:Heap.MadeExcOf s.heap h1 e (.ref C) args)(hE:E (.ref C) none H):X.xe (.ref e) {s with heap:=h1,toks:=tk}:=by
 refine L.xe _ _ ?_;have f:∀b o,X.s₀.heap.get? b=some o->b∉frs X.outer->b∉frs X.stack:=fun b o q c g=>by
  rcases(Zfs L.stk L.fr).mp g with rfl|g
  ·exact absurd (Nat.lt_of_lt_of_le (Heap.lt_size q) I.ok.above) (Nat.lt_irrefl _)
  ·exact c g
 have d:∀b,b∉X.ex:=fun b=>by rw[L.ex];simp
 have w:∀env∈X.stack,∀a,env.frame=some a->a∈frs X.stack:=fun env he a ha=>List.mem_filterMap.mpr ⟨env,he,ha⟩
 have x:s.heap.FunFrames (W.hideAll s.heap (frs X.stack)) (X.env::X.outer):=L.stk▸W.funFrames_hide I.stack w;refine wpAny_leaves_madeW (base:=W.hideAll s.heap (frs X.stack)) (h:=s.heap) (L:=X.env.locals) (s:={s with heap:=h1,toks:=tk}) (L.stk▸I.ok.frames) L.fr (fun b o q=>W.of_hideAll _ q) x hx fun h' t m _ _ y=>?_
 have j:s.heap.UpToSlots h':=(Heap.UpToSlots.of_keeps hx.keeps).trans y;have i:∀b o,s.heap.get? b=some o->b∉frs X.stack->(W.hideAll s.heap (frs X.stack)).get? b=some o:=fun b o q c=>W.hideAll_get _ q c
 have r:∀b o,b∈frs X.stack->s.heap.get? b=some o->∀vs,o.data≠ .fields vs:=fun b o c q=>by
  obtain⟨_,o',p,z⟩:=I.stack.mem c;rw[q]at p;cases p;exact z
 refine⟨e,C,.ref t,_,H,rfl,⟨I.os,I.bare,m,fun a o q=>?_,⟨fun b o q n c _=>?_,fun b o q n c _=>?_,fun b o q n _=>I.base.free b o q n (d b),fun b o q _=>?_,I.base.tups,I.base.frzs,I.base.tbls⟩,fun b o q c n=>?_,fun b o q c=>?_⟩,hE⟩
 ·refine(I.hok a o q).stay (fun b u c z=>i b u z fun g=>?_) (fun _ z=>z) fun _ _ z=>z
  have v:=I.stkFree b g;rcases c with rfl|c
  ·rw[v]at q;cases q
  ·rw[v]at c;cases c
 ·exact m.1 b o (i b o (I.base.keep b o q n c (d b)) (f b o q c))
 ·obtain⟨sl,z⟩:=I.base.slot b o q n c (d b);obtain⟨k,l⟩:=j b _ z (r b _ ((Zfs L.stk L.fr).mpr (.inr c)) z);exact⟨k,l⟩
 ·obtain⟨o',z⟩:=I.base.there b o q (d b)
  by_cases c:b∈frs X.stack
  ·obtain⟨k,l⟩:=j b _ z (r b _ c z);exact⟨_,l⟩
  ·exact⟨o',m.1 b o' (i b o' z c)⟩
 ·exact i b o (I.base.keep b o q n c (d b)) (f b o q c)
 ·obtain⟨o',z⟩:=I.base.there b o q (d b);exact⟨o',i b o' z (f b o q c)⟩
theorem Zel(L:Zgv X E)(hE:∀C H',E1 (.ref C) none H'->E (.ref C) none H'):Zfw (CXx X.prog X.w) X E1:=by
 intro pins σ H s e s' I c;obtain⟨a,C,t,B,H',rfl,F,hq⟩:=c;refine L.xe _ _ ?_;have h:∀b o,X.s₀.heap.get? b=some o->b∉frs X.outer->b∉frs X.stack:=fun b o q d j=>by
  rcases(Zfs L.stk L.fr).mp j with rfl|j
  ·exact absurd (Nat.lt_of_lt_of_le (Heap.lt_size q) I.ok.above) (Nat.lt_irrefl _)
  ·exact d j
 have f:∀b,b∉X.ex:=fun b=>by rw[L.ex];simp
 refine wpAny_leaves_onW (base:=B) (L:=X.env.locals) (L.stk▸I.ok.frames) L.fr (L.stk▸F.fly) fun h' k l=>?_
 have v:∀b o,b∈frs X.stack->s'.heap.get? b=some o->∀vs,o.data≠ .fields vs:=fun b o d q=>by
  obtain⟨_,o',p,z⟩:=F.fly.2.2.1.mem d;rw[q]at p;cases p;exact z
 refine⟨a,C,t,B,H',rfl,⟨F.os.trans I.os,F.bare,k,F.hok,⟨fun b o q n d _=>?_,fun b o q n d _=>?_,fun b o q n _=>?_,fun b o q _=>?_,fun b xs z=>F.un.tups b xs (I.base.tups b xs z),fun b r xs z=>F.un.frzs b r xs (I.base.frzs b r xs z),fun b ps z=>?_⟩,fun b o q d n=>?_,fun b o q d=>?_⟩,hE C H' hq⟩
 ·exact k.1 b o (F.keepB b o (I.base.keep b o q n d (f b)) (h b o q d) (I.base.free b o q n (f b)))
 ·obtain⟨sl,z⟩:=I.base.slot b o q n d (f b);have hs:b∈frs X.stack:=(Zfs L.stk L.fr).mpr (.inr d);obtain⟨sl1,g⟩:=F.un.slot b _ z (I.base.free b o q n (f b)) hs (by simp);obtain⟨m,i⟩:=l b _ g (v b _ hs g);exact⟨m,i⟩
 ·obtain⟨o',z⟩:=I.base.there b o q (f b);exact F.un.free b o' z (I.base.free b o q n (f b)) (by simp)
 ·obtain⟨o',z⟩:=I.base.there b o q (f b);obtain⟨o1,g⟩:=F.un.there b o' z (by simp)
  by_cases d:b∈frs X.stack
  ·obtain⟨sl',x⟩:=l b _ g (v b _ d g);exact⟨_,x⟩
  ·obtain⟨u,i⟩:=F.thereB b o' z d;exact⟨u,k.1 b u i⟩
 ·obtain⟨m1,e1⟩:=I.base.tbls b ps z;obtain⟨y,e2⟩:=F.un.tbls b _ e1;exact⟨m1++y,by rw[e2,Array.append_assoc]⟩
 ·exact F.keepB b o (I.base.keep b o q n d (f b)) (h b o q d) (I.base.free b o q n (f b))
 ·obtain⟨o',z⟩:=I.base.there b o q (f b);exact F.thereB b o' z (h b o q d)
end
theorem Za7{P:Program}{w:World}{K:W.Frag}{mg:Str->Option Value}{base:Heap}{N:List Str}{qual:Str}{scope:Scope}{f:Addr}{cd:Value}{A:Around}{outer:List Env}{s:Shared}{H:Hp}{E:XK}:
  Zgv (cxOf (CXx P w) P w K mg base N qual scope f cd A outer s H E) E:=⟨rfl,rfl,rfl,fun _ _ h=>h⟩
structure FnX(P:Program)(w:World)(K:W.Frag)(mg:Str->Option Value)(base:Heap)(x:Str)(k:Nat)(ps:List Str)(dvs:List V)(sp:Sp):Prop where
 ex:∃ (f:Addr) (fd:FuncData) (ds:List Value),FnOk P w K mg base (CXx P w) k f fd ps sp/\mg x=some (.ref f)/\W.keepIn K (.ref f)=true/\Binds K fd ps ds/\Vals dvs ds
structure CtX(P:Program)(w:World)(K:W.Frag)(mg:Str->Option Value)(base:Heap)(x:Str)(k:Nat)(sp:Sp):Prop where
 ex:∃ (f C:Addr) (fd:FuncData) (ds:List Value) (dvs:List V) (ps:List Str) (sp0:Sp),FnOk P w K mg base (CXx P w) k f fd ps sp0/\mg x=some (.ref C)/\Mk K C f/\Binds K fd ps ds/\Vals dvs ds/\
  ∀vs H Q E,sp vs H Q E->∀y dx G,H y=none->H dx=none->dx≠y->Same H G->G y=some (.ins C dx [])->sp0 (.ref y::(vs++dvs)) G (fun v H2=>v= .non/\Q (.ref y) H2) E
section
variable{X:Cx}{k:Nat}{ps:List Str}{sp:Sp}{dvs:List V}{x:Str}{p pos:Pos}{e:Expr}{es:List Expr}{t:TA}{E:XK}
theorem Zcp(F:FnX X.prog X.w X.K X.mg X.base x k ps dvs sp)(hr:Room k X.A)(hg:Gl X x)(hx:Zfw (CXx X.prog X.w) X E)(ha:PA X (e::es) t)(hdb:(x==("__debug__":Str))=false:=by decide)
  (he:starEach (e::es) X.env=(false,eval e X.env)::starEach es X.env:=by rfl) (hpl:(backTo pos (starEach es X.env)).any (·.1)=false:=by rfl):PE X (.Call (.Name x p) (e::es) [] pos) (Zhm sp dvs E t):=by
 obtain⟨f,fd,ds,G,a,b,d,c⟩:=F.ex;exact Zny G hr hg a b d c hx ha hdb he hpl
end
section
variable{P:Program}{w:World}{K:W.Frag}{mg:Str->Option Value}{base:Heap}
theorem Fun.okX{x qual:Str}{st:Stmt}{f:Addr}{fd:FuncData}{N ps:List Str}{k:Nat}{sp:Sp}(F:Fun K x qual st f fd)(S:Zaq N ps (defScope st))(len:∀vs H Q E,sp vs H Q E->vs.length=ps.length)
  (hbody : ∀ (cdv : Value) (A : Around) (outer : List Env) (s : Shared) (H : Hp) (vs : List V) (Q : VK) (E : XK), Room k (A.deeper (envOfC qual (defScope st) s.heap.objs.size f cdv)) -> sp vs H Q E ->
   ∃ t, PSs (cxOf (CXx P w) P w K mg base N qual (defScope st) f cdv A outer s H E) (defBody st) t /\ t { nx := fun _ H' => Q .non H', rt := Q } (start N vs) H) : FnOk P w K mg base (CXx P w) (k + 1) f fd ps sp := by
 obtain⟨i,h,kV,g,pm,l,cdv,j,e,rfl,c,b⟩:=F.ex;exact Zpq c b S len fun A outer s H vs Q E d a=>hbody cdv A outer s H vs Q E d a
end
abbrev Zsr:List Value:=[.type "ValueError",.type "Exception",.type "BaseException",.type "object"]
structure XC(K:W.Frag)(mg:Str->Option Value)(x:Str)(C:Addr):Prop where
 m:mg x=some (.ref C)
 exc:W.excIn K C Zsr "ValueError.__new__"=true
theorem XC.obj{K:W.Frag}{mg:Str->Option Value}{x:Str}{C:Addr}(c:XC K mg x C){h:Heap}(X:K.In h):
  ∃bm N nm q bs hdct sn sub ab col dd k0 k1 k2 k3 k5 mN,h.get? C=some (excClassObj nm q C N bs bm hdct sn sub ab col dd k0 k1 k2 k3 k5 "ValueError.__new__")/\h.Ns N mN/\mN "__init__"=none/\OwnTail h Zsr bm:=by
 have q:=c.exc;unfold W.excIn at q
 split at q
 ·rename_i dd cd sl ho
  split at q
  ·rename_i C' bm k0 k1 k2 k3 n k5 d hs
   rw[Bool.and_eq_true,Bool.and_eq_true,Bool.and_eq_true,Bool.and_eq_true,Bool.and_eq_true,beq_iff_eq,beq_iff_eq,beq_iff_eq,Bool.not_eq_true']at q;obtain⟨⟨⟨⟨⟨rfl,rfl⟩,a⟩,k⟩,b⟩,f⟩:=q;obtain⟨nm,bs,e,j,i,l,sn,sub,ab,col,g⟩:=cd;have d:e= .ref C'::bm:=d;have a:g=false:=a;subst d a;obtain rfl:sl=#[k0,k1,k2,k3,some (.builtin "ValueError.__new__"),k5]:=by
    rw[<-Array.toList_inj];exact hs
   exact⟨bm,j,nm,i,bs,l,sn,sub,ab,col,dd,k0,k1,k2,k3,k5,_,X _ _ ho,.of_isNs (W.isNs_of_in X b),W.nsMap_none_of_in X b f,W.tail_of_in X k⟩
  ·cases q
 ·cases q
def Zlh(te:TE)(C:Addr)(E:XK):TS:=fun _ σ H=>te σ H fun _ H1=>E (.ref C) none H1
theorem Ze4{X:Cx}{E:XK}{x:Str}{C:Addr}{e:Expr}{te:TE}{np cpos pos:Pos}(L:Zgv X E)(hc:X.calm=true)(hg:Gl X x)(c:XC X.K X.mg x C)(ha:PE X e te)(hdb:(x==("__debug__":Str))=false:=by decide)
  (he:starEach [e] X.env=[(false,eval e X.env)]:=by rfl):PS X (.Raise (some (.Call (.Name x np) [e] [] cpos)) none pos) (Zlh te C E):=by
 intro pins s σ H D I h;obtain⟨tl,N,nm,q,bs,hdct,sn,sub,ab,col,dd,k0,k1,k2,k3,k5,mN,i,g,b,T⟩:=c.obj I.ok.mod.kin;refine wpAny_Raise_call_subT (C:=C) (nm:=nm) (q:=q) (N:=N) (bs:=bs) (bm:=tl) (hdct:=hdct) (sn:=sn) (sub:=sub) (ab:=ab) (col:=col) (dd:=dd) (k0:=k0) (k1:=k1) (k2:=k2) (k3:=k3) (k5:=k5)
  PySem.F.excBase_ValueError (mN:=mN) (T.hasType PySem.F.excBase_ValueError.hasBase) (I.ok.hd hc) (by rw[he];rfl) b (Zdo I hg c.m ⟨rfl,?_⟩ hdb)
 rw[he];refine Calls.evalArgs_plain (Calls.spliced_cons (thn (ha pins s σ H _ I h) fun u s1 ⟨y,H1,a,j,d⟩=>Calls.spliced_nil ⟨rfl,?_⟩));refine⟨Zai (by show 1 <=100000;decide),a.bk _ _ i,g.keeps a.bk,T.keeps a.bk,fun h' e f=>?_⟩;exact Zo2 (tk:=s1.toks) a L f d
end L2
namespace L2
open PySem PySem.Spec PyProof.Rows PySem.Builtin PySem.Builtin.ObjectAttr PySem.Builtin.Getset_descriptor
structure Zot(K:W.Frag)(C:Addr):Prop where
 ga:W.findIn K (.ref C) "__getattribute__"=some (some (.builtin "BaseException.__getattribute__"))
 gt:W.findIn K (.ref C) "__getattr__"=some none
 cl:W.findIn K (.ref C) "__class__"=some (some (.builtin "object.__class__"))
 ob:W.mroIn K C (.type "object")=some true
 bs:W.mroIn K C (.type "BaseException")=some true
section
variable{prog:Program}{w:World}{A:Around}{E:Value->Shared->Prop}{h:Heap}{g:Array GenState}{d:Drawn}{t:Nat}{os:OsState}{a C:Addr}{o:Obj}{K:W.Frag}
theorem Zfd{M:Model}(hx:h.get? a=some o)(hc:o.cls= .ref C):W.Looks M h (typeOf (.ref a)) (.ref C):=hc▸(W.Looks.ld hx).andThen .now
theorem Zsu{R:Result->Shared->Prop}(X:K.In h)(c:Zot K C)(hx:h.get? a=some o)(hc:o.cls= .ref C)(hq:R (.ok (.ret (.ref C))) ⟨h,g,d,t,os⟩):
  codeAny (model prog w) A (.call (.builtin "getset_descriptor.__get__") ⟨[.builtin "object.__class__",.ref a,.ref C],[]⟩) R ⟨h,g,d,t,os⟩:=by
 have e:=Zfd (M:=model prog w) hx hc;have b:=W.looks_mroIn (M:=model prog w) X c.ob;refine codeAny_call_builtin W.KF.slot_gs.plain W.KF.entry_gs (W.KF.slot_gs.check _ _ _ _ _ _ _ _ W.KF.type_class (W.KF.args_gs _ _ _) ?_);unfold Builtin.«getset_descriptor.__get__» descrGet;rw[W.dga_obj];refine wpAny_bind (wpAny_pure ?_);unfold descrGetter descrCheckInstance descrNameAndClass isInstance;simp only[W.KF.owner_class]
 repeat lk
 refine⟨Code.quiet_builtin _ (by decide +kernel),codeAny_builtin W.KF.entry_class ?_⟩;unfold Builtin.«object.__class__» shownTypeOf
 repeat lk
 exact hq
theorem Zou{tk:Tok}{Q:Fin->Shared->Prop}(X:K.In h)(c:Zot K C)(hx:h.get? a=some o)(hc:o.cls= .ref C)(hq:Q (.done (.ret (.ref C))) ⟨h,g,d,t,os⟩):
  wpAny (model prog w) A (Builtin.«object.__getattribute__» ⟨[.ref a,.str "__class__" tk],[]⟩) Q E ⟨h,g,d,t,os⟩:=by
 have e:=Zfd (M:=model prog w) hx hc;have b:=W.looks_findIn (M:=model prog w) X c.cl;have k:=F.typeOf_object_class;have j:=F.slot_gs_get.lookup;have i:=F.slot_gs_set.lookup;have f:(⟨h,g,d,t,os⟩:Shared).TypeIs (.builtin "object.__class__") "getset_descriptor":=F.typeOf_object_class
 repeat (any_goals (first|assumption|with_reducible refine e.at ?_|with_reducible refine b.at ?_|wp_step))
 refine Zsu X c hx hc ?_
 repeat (any_goals (first|assumption|wp_step))
theorem Zov{M:Model}{nv:Value}{Q:Unit->Shared->Prop}(X:K.In h)(c:Zot K C)(hx:h.get? a=some o)(hc:o.cls= .ref C)(hq:Q () ⟨h,g,d,t,os⟩):
  wpAny M A (checkBuiltinCall "BaseException.__getattribute__" ⟨[.ref a,nv],[]⟩) Q E ⟨h,g,d,t,os⟩:=by
 have k1:builtinKind "BaseException.__getattribute__"=some .slot:=by decide +kernel
 have k2:splitId "BaseException.__getattribute__"=some ("BaseException","__getattribute__"):=by decide +kernel
 have f:=F.args_bexc_ga (.ref a) nv;have e:=Zfd (M:=M) hx hc;have b:=W.looks_mroIn (M:=M) X c.bs;simp only[checkBuiltinCall,k1,k2];refine wpAny_bind ?_;unfold isInstance
 repeat (any_goals (first|assumption|with_reducible refine e.at ?_|with_reducible refine b.at ?_|wp_step))
theorem Zu6{tk:Tok}{Q:Value->Shared->Prop}(X:K.In h)(c:Zot K C)(hx:h.get? a=some o)(hc:o.cls= .ref C)(hq:Q (.ref C) ⟨h,g,d,t,os⟩):
  wpAny (model prog w) A (getAttrBy (.ref a) (.str "__class__" tk) false) Q E ⟨h,g,d,t,os⟩:=by
 have i:=Zfd (M:=model prog w) hx hc;have f:=W.looks_findIn (M:=model prog w) X c.ga;have e:=W.looks_findIn (M:=model prog w) X c.gt;have l:=F.attr_ValueError.ga.bind (.ref a);have b:(Value.builtin "BaseException.__getattribute__"==Value.builtin "object.__getattribute__")=false:=by decide +kernel
 have j:(onTheHeap (Value.ref C) && Value.builtin "BaseException.__getattribute__"==Value.builtin "object.__getattribute__")=false:=by rw[b];rfl
 have k:(false && onTheHeap (Value.builtin "BaseException.__getattribute__"))=false:=rfl
 repeat (any_goals (first|assumption|with_reducible refine i.at ?_|with_reducible refine f.at ?_|with_reducible refine e.at ?_|wp_step))
 refine codeAny_call_builtin F.attr_ValueError.ga.plain F.entry_bexc_ga (Zov X c hx hc (Zou X c hx hc ?_))
 repeat (any_goals (first|assumption|wp_step))
theorem Zqt{Q:Option Value->Shared->Prop}(X:K.In h)(c:Zot K C)(hx:h.get? a=some o)(hc:o.cls= .ref C)(hq:Q (some (.ref C)) ⟨h,g,d,t+ 1,os⟩):
  wpAny (model prog w) A (getAttr? (.ref a) "__class__") Q E ⟨h,g,d,t,os⟩:=by
 unfold getAttr? getAttrBy?
 repeat (any_goals (first|assumption|with_reducible apply Zu6 X c hx hc|wp_step))
end
def Zsp(C e:Addr):Heap->Prop:=fun h=>∃o,h.get? e=some o/\o.cls= .ref C
theorem Zl6{K:W.Frag}{e C:Addr}(c:Zot K C):W.KitX K (.ref e) (.ref C) (Zsp C e) where
 ty:=fun _ _ _ ⟨_,hx,b⟩=>Zfd hx b
 it:=fun _ _ X _=>by
  obtain⟨cd,a,_⟩:=Option.bind_eq_some_iff.mp c.ob;unfold W.clsIn at a
  split at a
  ·rename_i c1 d1 cd1 sl1 ho
   intro r m p s' k q;unfold isType loadHead;exact wpAny_bind (wpAny_loadPart (k _ _ (X _ _ ho)) (wpAny_pure q))
  ·cases a
 ne:=fun h i dd j n l X f=>by
  obtain⟨cd,a,_⟩:=Option.bind_eq_some_iff.mp c.ob;refine Bool.eq_false_iff.mpr fun q=>?_
  obtain rfl:C=i:=Value.ref.inj (beq_iff_eq.mp q);unfold W.clsIn at a
  split at a
  ·rename_i c1 d1 cd1 sl1 ho
   have z:=(X _ _ ho).symm.trans f;cases z
  ·cases a
 ca:=fun {prog w A E Q s} X ⟨o,hx,b⟩ hq=>by obtain⟨h,g,d,t,os⟩:=s;exact Zqt X c hx b hq
def HX(C e:Addr):HO:=.ext (Zsp C e)
inductive XTy(K:W.Frag)(H:Hp):V->Value->Prop where
 |non:XTy K H .non (.type "NoneType")
 |exc {e C:Addr} (he:H e=some (HX C e)) (c:Zot K C):XTy K H (.ref e) (.ref C)
def Zrm(K:W.Frag):List V->Hp->VK->Prop:=fun xs H Q=>∃x c t b,xs=[x,c]/\XTy K H x t/\isCls c=true/\W.kitOne K t (Zpw c)=some b/\Q (.bl b) H
theorem Zjs{X:Cx}{K:W.Frag}(h:X.K=K):Zd4 X (.builtin "isinstance") (Zrm K):=by
 subst h;intro pins s σ H xs l Q I r j;obtain⟨x,c,t,b,rfl,ty,k,d,q⟩:=j;obtain⟨u,f,rfl,a,g⟩:=Zow r;have i:f=Zpw c:=by cases c <;> first|exact g|cases k
 subst i;cases ty with
 |non=>exact Zje I a .non d fun tk=>⟨.bl b,H,I.tok tk,rfl,q⟩
 |@exc e C he ec=>
  cases (show u=Value.ref e from a);obtain⟨⟨o,h1,h2⟩,_⟩:=(show ObjOk X.prog X.w H s.heap e (HX C e) from I.hok e _ he);exact W.kia_one (Zl6 ec) I.kIn ⟨o,h1,h2⟩ d (fun z=>nomatch z) fun tk=>⟨.bl b,H,I.tok tk,rfl,q⟩
end L2
namespace L2
open PySem PySem.Spec PyProof.Rows
section
variable{X:Cx}{pins:List (Addr×Obj)}{σ:St}{H H':Hp}{s s':Shared}{e C:Addr}{t:Value}{B h5:Heap}
theorem HX.ok{P:Program}{w:World}{H:Hp}{h:Heap}(x:Zsp C e h):ObjOk P w H h e (HX C e):=by
 obtain⟨o,h1,h2⟩:=x;exact⟨⟨o,h1,h2⟩,⟨o,h1⟩,fun a b ⟨o,d,c⟩ k=>⟨o,k o d,c⟩⟩
theorem Flew.noE(F:Flew X.prog X.w X.stack H s e C t B H' s'):H' e=none:=by
 cases q:H' e with
 |none=>rfl
 |some o=>
  obtain⟨a,z⟩:=(F.hok e o q).there;rw[F.fly.2.1]at z;cases z
theorem Flew.caught(I:Inv X pins σ H s)(F:Flew X.prog X.w X.stack H s e C t B H' s')(fl:Heap.FlyingW B X.stack e (.ref C) t h5)(sm:s'.heap.UpToSlots h5):
  Inv X pins σ (upd H' e (HX C e)) {s' with heap:=h5}:=by
 have l:∀b o,b∈frs X.stack->s'.heap.get? b=some o->∀vs,o.data≠ .fields vs:=fun b o a q=>by
  obtain⟨_,o',d,z⟩:=F.fly.2.2.1.mem a;rw[q]at d;cases d;exact z
 obtain⟨x,vs,v,r,p,_⟩:=fl.first;have ne:∀b o,s.heap.get? b=some o->b≠e:=fun b o q z=>by
  subst z
  by_cases a:b∈frs X.stack
  ·obtain⟨_,o',d,i⟩:=fl.2.2.1.mem a;rw[v]at d;cases d;exact i vs p
  ·obtain⟨o',d⟩:=F.thereB b o q a;rw[F.fly.2.1]at d;cases d
 have f:∀b u,H' b=some u->b≠e:=fun b u q z=>by subst z;rw[F.noE]at q;cases q
 refine I.call' (ch:=[]) F.os ⟨fun b o q n a _=>fl.1 b o (F.keepB b o q a n),fun b o q n a _=>?_,fun b o q n _=>?_,fun b o q _=>?_,fun b xs z=>?_,fun b y xs z=>?_,fun b ps z=>?_⟩ (fun b o q=>?_) F.bare (fun b z=>absurd z (by simp))
 ·obtain⟨aa,g⟩:=F.un.slot b o q n a (by simp);obtain⟨j,h⟩:=sm b _ g (l b _ a g);exact⟨j,h⟩
 ·rw[Zap (ne b o q)];exact F.un.free b o q n (by simp)
 ·obtain⟨o1,g⟩:=F.un.there b o q (by simp)
  by_cases a:b∈frs X.stack
  ·obtain⟨ab,i⟩:=sm b _ g (l b _ a g);exact⟨_,i⟩
  ·obtain⟨k,h⟩:=F.thereB b o q a;exact⟨k,fl.1 b k h⟩
 ·have:=F.un.tups b xs z;rw[Zap (f b _ this)];exact this
 ·have:=F.un.frzs b y xs z;rw[Zap (f b _ this)];exact this
 ·obtain⟨m,this⟩:=F.un.tbls b ps z;exact⟨m,by rw[Zap (f b _ this)];exact this⟩
 ·by_cases a:b=e
  ·subst a;rw[Zan]at q;cases q;exact HX.ok ⟨x,v,r⟩
  ·rw[Zap a]at q;exact(F.hok b o q).stay (fun c u _ z=>fl.1 c u z) (fun c z=>by rw[Zap (f c _ z)];exact z) fun c xs z=>by rw[Zap (f c _ z)];exact z
abbrev Cx.marked(X:Cx)(e:Addr):Cx:={X with A:=X.A.mark (some (.ref e)),calm:=false,xe:=fun _ _=>False}
theorem Cx.Ok.marked(ok:X.Ok)(e:Addr):(X.marked e).Ok:=
 ⟨ok.mod,ok.kind,ok.glob,ok.blt,ok.above,ok.inj,ok.has,ok.cab,fun z=>(by cases z),ok.frames,ok.stk,ok.exf,ok.bs,ok.bsz,ok.noex,ok.exfs,ok.funs,ok.frf⟩
theorem Inv.marked(I:Inv X pins σ H s)(e:Addr):Inv (X.marked e) pins σ H s:=⟨I.ok.marked e,I.os,I.bare,I.base,I.loc,I.cell,I.free,I.freeC,I.pin,I.hok,I.len⟩
theorem Inv.unmarked(ok:X.Ok)(I:Inv (X.marked e) pins σ H s):Inv X pins σ H s:=⟨ok,I.os,I.bare,I.base,I.loc,I.cell,I.free,I.freeC,I.pin,I.hok,I.len⟩
theorem Ze9{A:Around}{E:Value->Shared->Prop}{j:Nat}{n:Str}{pos:Pos}{Q:Unit->Shared->Prop}(I:Inv X pins σ H s)(hN:X.N.Nodup)(hj:X.N[j]?=some n)(hl:X.env.kindOf n=some .local)
  (h:∀s2,Inv X pins (σ.set j none) H s2->Q () s2):wpAny (model X.prog X.w) A (do bindName X.env n .none;unbindBehindTheSuite X.env n pos) Q E s:=by
 obtain⟨m,hn,hv⟩:=I.loc;refine wpAny_nameGoes_keeps hl hn (by rw[I.ok.kind];rfl) fun h' v x hs=>h _ ?_
 have aa:j < X.N.length:=(List.getElem?_eq_some_iff.mp hj).1;have cne:=I.cne;have g:∀b o,X.s₀.heap.get? b=some o->b≠X.env.locals:=fun b o q=>Nat.ne_of_lt (Nat.lt_of_lt_of_le (Heap.lt_size q) I.ok.above)
 refine⟨I.ok,I.os,I.bare,⟨fun b o q n e hx=>?_,fun b o q n e hx=>?_,I.base.free,fun b o q hx=>?_,I.base.tups,I.base.frzs,I.base.tbls⟩,⟨_,x,fun i y w f l e3=>?_⟩,fun y c q=>?_,I.free,I.freeC,fun p hp=>?_,fun a o q=>?_,by simpa using I.len⟩
 ·exact(hs.2 b (g b o q)).trans (I.base.keep b o q n e hx)
 ·obtain⟨sl,f⟩:=I.base.slot b o q n e hx;exact⟨sl,(hs.2 b (g b o q)).trans f⟩
 ·obtain⟨o',f⟩:=I.base.there b o q hx;exact⟨o',(hs.2 b (g b o q)).trans f⟩
 ·by_cases hi:i=j
  ·subst hi;rw[List.getElem?_set_self (by rw[I.len];exact aa)]at l;cases l
  ·rw[List.getElem?_set_ne (Ne.symm hi)]at l;obtain⟨u,r,q⟩:=hv i y w f l e3;refine⟨u,r,?_⟩;have hy:y≠n:=fun z=>hi (Zie hN f (z▸hj))
   rcases q with⟨k,z⟩|⟨k,c,z,zc⟩
   ·exact .inl ⟨k,by show(if y=n then v else m y)=some u;rw[if_neg hy];exact z⟩
   ·exact .inr ⟨k,c,z,zc.sameBut hs (cne y c z)⟩
 ·obtain⟨w',z⟩:=I.cell y c q;exact⟨w',z.sameBut hs (cne y c q)⟩
 ·obtain⟨q,n',ne,nf,d⟩:=I.pin p hp;exact⟨(hs.2 p.1 ne).trans q,n',ne,nf,d⟩
 ·have kk:∀b u,(b=a\/H b=some (.own a))->s.heap.get? b=some u->h'.get? b=some u:=fun b u e z=>by
   refine(hs.2 b fun t=>?_).trans z;rcases e with rfl|e
   ·rw[t,I.free]at q;cases q
   ·rw[t,I.free]at e;cases e
  exact(I.hok a o q).stay kk (fun _ z=>z) fun _ _ z=>z
end
def Zwa(P:Program)(w:World)(K:W.Frag)(mg:Str->Option Value)(base:Heap)(k:Nat)(f:Addr)(H:Hp)(Q:VK)(E:XK):Prop:=
 ∀ (A:Around) (outer:List Env) (s:Shared),Room k A->Env0 P w K mg base A outer s H->codeAny (model P w) A (.call (.ref f) ⟨[],[]⟩) (CR (CXx P w) outer P w H s Q E) s
structure Zin(K:PySem.W.Frag)(W:Addr):Prop where
 ty:PySem.W.typeIn K (.ref W)=some (.type "type")
 bs:PySem.W.mroIn K W (.type "BaseException")=some true
theorem Zla{prog:Program}{w:World}{A:Around}{E:Value->Shared->Prop}{h:Heap}{g:Array GenState}{d:Drawn}{t:Nat}{os:OsState}{a C W:Addr}{o:Obj}{K:PySem.W.Frag}{Q:Bool->Shared->Prop}
  (X:K.In h) (cw:Zin K W) (hm:PySem.W.mroIn K C (.ref W)=some true) (hx:h.get? a=some o) (hc:o.cls= .ref C) (hq:Q true ⟨h,g,d,t,os⟩):wpAny (model prog w) A (excMatches (.ref a) (.ref W)) Q E ⟨h,g,d,t,os⟩:=by
 have l:=Zfd (M:=model prog w) hx hc;have j:=PySem.W.looks_mroIn (M:=model prog w) X cw.bs;have i:=PySem.W.looks_mroIn (M:=model prog w) X hm;have e:=PySem.W.looks_typeIn (M:=model prog w) X cw.ty;have f:=tc_notTuple;have c:PySem.W.Looks (model prog w) h (isType (.ref W)) true:=by
  obtain⟨cd,b,_⟩:=Option.bind_eq_some_iff.mp cw.bs;unfold PySem.W.clsIn at b
  split at b
  ·rename_i c1 d1 cd1 sl1 ho
   intro p m n s' k q;unfold isType loadHead;exact wpAny_bind (wpAny_loadPart (k _ _ (X _ _ ho)) (wpAny_pure q))
  ·cases b
 unfold excMatches isInstance isExcClass
 repeat (any_goals (first|assumption|with_reducible refine l.at ?_|with_reducible refine j.at ?_|with_reducible refine i.at ?_|with_reducible refine e.at ?_|with_reducible refine c.at ?_|wp_step))
def Zm4(P:Program)(w:World)(K:PySem.W.Frag)(mg:Str->Option Value)(base:Heap)(k i j:Nat)(W:Addr)(ts:TS):TS:=fun D σ H=>∃f o u fd,σ[i]?=some (some (.ref f))/\H f=some (.frz o u)/\o.data= .func fd/\
 ∃E1:XK,Zwa P w K mg base k f H (fun _ H'=>D.nx σ H') E1/\∀C H',E1 (.ref C) none H'->PySem.W.mroIn K C (.ref W)=some true/\∀e G,H' e=none->Same H' G->G e=some (HX C e)->
  ts {nx:=fun σ' H2=>D.nx (σ'.set j none) H2,rt:=D.rt,bk:=fun σ' H2=>D.bk (σ'.set j none) H2,ct:=fun σ' H2=>D.ct (σ'.set j none) H2} (σ.set j (some (.ref e))) G
section
variable{X:Cx}
end
def HT:HO:=.ext fun _=>True
structure LamCx(mg:Str->Option Value)(base:Heap)(c P:Addr):Prop where
 hd:W.CodeHd base c P
 gP:mainGlobals≠P
 bt:base.BuiltinsAt mg P
structure Tab(H:Hp)(P:Addr)(q:Str):Prop where
 ex:∃ps,H P=some (.tbl ps)/\TriplesOk ps.toList/\∀pos cv,codeAmong pos ps.toList=some cv->∃c' oc vs t,cv= .ref c'/\H c'=some (.frz oc HT)/\oc.data= .fields vs/\vs[1]?=some (.str q t)
section
variable{X:Cx}{pins:List (Addr×Obj)}{σ:St}{H:Hp}{s:Shared}{c P:Addr}{q:Str}
abbrev lamO(q:Str)(params:Arguments)(body:Expr)(scope:Scope)(cl:List (Str×Addr))(pm cv ctv:Value):Obj:={cls:=.type "function",data:=.func (W.kla_fn "<lambda>" q params body scope cl pm cv ctv)}
end
section
variable{cl:List (Str×Addr)}{h hs hs':Heap}{G H2 Gc:Hp}{fs:List Addr}{P:Program}{w:World}
end
structure Zpz(scope:Scope)(N':List Str):Prop where
 kind:scope.kind= .function
 co:scope.isCoroutine=false
 gen:scope.isGenerator=false
 nocell:∀y∈scope.names,y.2≠ .cell
 free:∀x∈N',scope.names.lookup x=some .free
def Holds(cl:List (Str×Addr))(h:Heap)(N':List Str)(σ:St):Prop:=∀ (i:Nat) (x:Str) (v:V),N'[i]?=some x->σ[i]?=some (some v)->∃c o u,cl.lookup x=some c/\h.get? c=some o/\o.data= .cell (some u)/\RelV v u
structure CellsOk(cl:List (Str×Addr))(h:Heap)(scope:Scope):Prop where
 inj:∀x y c,cl.lookup x=some c->cl.lookup y=some c->x=y
 has:∀x,(x,NameKind.free)∈scope.names->∃c,cl.lookup x=some c
 cell:∀b∈cl.map (·.2),∃o v,h.get? b=some o/\o.data= .cell v
section
variable{P:Program}{w:World}{K:W.Frag}{mg:Str->Option Value}{base:Heap}{N':List Str}{q:Str}{scope:Scope}{f c':Addr}{cl:List (Str×Addr)}{params:Arguments}{body:Expr}{k:Nat}{h:Heap}{G:Hp}{σ:St}{te:XK->TE}{pm ctv:Value}
end
section
variable{X:Cx}{c P:Addr}{q:Str}{params:Arguments}{body:Expr}{scope:Scope}{cl:List (Str×Addr)}{lpos:Pos}
def Zm5(Kd:Addr->Str->Prop)(P:Addr)(q:Str)(caps:List (Option Nat))(te:XK->TE):TE:=fun σ H Q=>Tab H P q/\∀G0,But P H G0->Tab G0 P q->
 te (fun c _ H'=>∃C wd,c= .ref C/\Kd C wd/\∀G,Same H' G->Q (.str wd) G) (capSt caps σ) G0 (fun _ _=>False)
structure LamAt(X:Cx)(N':List Str)(scope:Scope)(caps:List (Option Nat)):Prop where
 s:Zpz scope N'
 cap:Zur X.N N' scope caps
 vis:∀x,(x,NameKind.free)∈scope.names->X.env.kindOf x=some .cell\/X.env.kindOf x=some .free
variable{fn:Str}{p pos:Pos}{k k1:Nat}{ps:List Str}{sp:Sp}{N':List Str}{caps:List (Option Nat)}{te:XK->TE}{Kd:Addr->Str->Prop}
end
structure FunAt(K:W.Frag)(x qual:Str)(st:Stmt)(f:Addr)(fd:FuncData)(cdv:Value):Prop where
 ex:∃ (oc:Value) (od:Option Addr) (kV doc pm:Value) (an:Option Addr) (ct:Value) (osl:Array (Option Value)),
  fd=W.fnOf x qual (Zao st) (defBody st) (defScope st) .none kV doc pm an cdv ct/\K.lookup f=some ⟨oc,od,.func fd,osl⟩/\W.codeIn K cdv qual=true
structure Bt5(mg:Str->Option Value):Prop where
 ValueError:mg "ValueError"=none
structure KdOk(K:PySem.W.Frag)(W:Addr)(cs:List Addr)(C:Addr)(i:Nat):Prop where
 e:Zot K C
 w:PySem.W.mroIn K C (.ref W)=some true
 v:PySem.W.kitOne K (.ref C) (.type "ValueError")=some true
 k:∀j c,cs[j]?=some c->PySem.W.kitOne K (.ref C) (.ref c)=some (decide (j=i))
def refWords:List Str:=["letter","piece","width","wide","rule","time","key","text","row","room","road"]
def Kd(K:PySem.W.Frag)(W:Addr)(cs:List Addr)(C:Addr)(wd:Str):Prop:=∃i,KdOk K W cs C i/\refWords[i]?=some wd
def Ztc(K:W.Frag):List V->Hp->VK->Prop:=fun xs H Q=>∃p ys,xs=[.ref p]/\SqL K H p ys/\∀l G,H l=none->Same H G->G l=some (.tup ys)->Q (.ref l) G
theorem Zdh{K:W.Frag}{C1 C2:Addr}{b:Bool}{x:Value}{r:Bool}(h1:W.mroIn K C1 (.ref C2)=some b)(h2:W.typeIn K (.ref C2)=some (.type "type"))(h3:W.mroIn K C2 x=some r)(hs:W.mroIn K C1 (.ref C1)=some true):W.kitOne K (.ref C1) (.ref C2)=some b:=by
 unfold W.kitOne
 by_cases e:C1=C2
 ·subst e;rw[h1]at hs;rw[if_pos (by simp),<-hs]
 ·rw[if_neg (by simpa using e)];show(if((W.clsIn K C2).isSome && W.typeIn K (.ref C2)==some (.type "type"))=true then W.subIn K (.ref C1) (.ref C2) else none)=some b;have a:(W.clsIn K C2).isSome=true:=by
   unfold W.mroIn at h3;cases hq:W.clsIn K C2 with
   |none=>rw[hq]at h3;cases h3
   |some cd=>rfl
  rw[a,h2];exact h1
theorem Zr2{K:W.Frag}{C1:Addr}{b:Bool}(h1:W.mroIn K C1 (.type "ValueError")=some b):W.kitOne K (.ref C1) (.type "ValueError")=some b:=by
 unfold W.kitOne;rw[if_neg (by simp)];show(if W.kitMeta "ValueError"=true then W.subIn K (.ref C1) (.type "ValueError") else none)=some b;rw[if_pos (by decide +kernel)];exact h1
section
variable{q:Str}{params:Arguments}{body:Expr}{scope:Scope}{N':List Str}{H G:Hp}{f:Addr}{σ:St}
variable{P:Program}{w:World}{K:W.Frag}{mg:Str->Option Value}{base:Heap}{k:Nat}{te:XK->TE}
end
def Zp5(P:Program)(w:World)(K:W.Frag)(mg:Str->Option Value)(base:Heap)(k:Nat)(tf:TE):TE:=fun σ H Q=>tf σ H fun x H1=>∃f o fd,x= .ref f/\H1 f=some (.frz o HT)/\o.data= .func fd/\Zwa P w K mg base k f H1 Q E0
section
variable{X:Cx}{c P:Addr}{q:Str}{params:Arguments}{body:Expr}{scope:Scope}{lpos:Pos}{H G:Hp}{f:Addr}
end
section
variable{X:Cx}{q:Str}{params:Arguments}{body:Expr}{scope:Scope}{H G:Hp}{f:Addr}{N':List Str}{caps:List (Option Nat)}{te:XK->TE}{k:Nat}{σ:St}{pins:List (Addr×Obj)}{s1 s2:Shared}{cl:List (Str×Addr)}
end
section
variable{X:Cx}{N':List Str}{s₀:Shared}{H₀:Hp}{env:Env}{outer:List Env}{ex:List Addr}{fn1:Str->Bool}{pn:List (Addr×Obj)}{xe:Value->Shared->Prop}
variable{fn:Str}{p pos:Pos}{k k1:Nat}{ps:List Str}{sp:Sp}{e:Expr}{te:TE}{Kd:Addr->Str->Prop}{σo:St->St}
end
section
variable{X:Cx}{k:Nat}{e:Expr}{te:TE}{pos:Pos}
end
section
variable{X:Cx}{elt tg iter:Expr}{ifs:List Expr}{scope:Scope}{pos:Pos}{N':List Str}{caps:List (Option Nat)}{wi:TI}{g:TG}{tc:St->TT}{te:TE}
end
section
variable{X:Cx}{fn:Str}{p pos:Pos}{k k1:Nat}{ps:List Str}{sp:Sp}{e:Expr}{te:TE}{Kd:Addr->Str->Prop}
end
def Znm(K:W.Frag):List V->Hp->VK->Prop:=fun xs H Q=>∃x tp cs t b,xs=[x,.ref tp]/\XTy K H x t/\H tp=some (.tup cs)/\(∀c∈cs,isCls c=true)/\W.kitAny K t (cs.map Zpw)=some b/\Q (.bl b) H
theorem Zlb:∀{cs:List V} {its:List Value},Vals cs its->(∀c∈cs,isCls c=true)->its=cs.map Zpw
 |[],_,.nil,_=>rfl
 |c::cs,_,.cons r rs,h=>by
  rw[Zlb rs fun c hc=>h c (List.mem_cons_of_mem _ hc),List.map_cons]
  congr 1
  have hc:=h c List.mem_cons_self;cases c <;> first|exact r|cases hc
theorem Zmx{X:Cx}{K:W.Frag}(h:X.K=K):Zd4 X (.builtin "isinstance") (Znm K):=by
 subst h;intro pins s σ H xs us Q I r y;obtain⟨x,a,i,t,b,rfl,ty,k,hc,l,q⟩:=y;obtain⟨u,m,rfl,j,v⟩:=Zow r;cases (show m=Value.ref a from v);obtain⟨_,its,p,c⟩:=(show ObjOk X.prog X.w H s.heap a (.tup i) from I.hok a _ k);have ei:=Zlb p hc;subst ei;obtain⟨dd,n,d,c⟩:∃dd n d,s.heap.get? a=some ⟨.type "tuple",dd,.seq (i.map Zpw).toArray n,d⟩:=by
  obtain⟨⟨c1,d1,dt,d⟩,e1,g,n,f⟩:=c;have g:c1= .type "tuple":=g
  have f:dt= .seq (i.map Zpw).toArray n:=f;subst g f;exact⟨_,_,_,e1⟩
 cases ty with
 |non=>
  cases (show u=Value.none from j);exact W.kia_tup W.kitx_none I.kIn trivial c l (fun z=>nomatch z) fun tk=>⟨.bl b,H,I.tok tk,rfl,q⟩
 |@exc e C he ec=>
  cases (show u=Value.ref e from j);obtain⟨⟨o,h1,h2⟩,_⟩:=(show ObjOk X.prog X.w H s.heap e (HX C e) from I.hok e _ he);exact W.kia_tup (Zl6 ec) I.kIn ⟨o,h1,h2⟩ c l (fun z=>nomatch z) fun tk=>⟨.bl b,H,I.tok tk,rfl,q⟩
section
variable{X:Cx}{K:W.Frag}
theorem Zm9:∀{ys:List Str} {its:List Value},Vals (ys.map V.str) its->StrsAre its ys
 |[],_,.nil=>.nil
 |y::ys,_,.cons r rs=>by
  obtain⟨t,rfl⟩:=(show ∃t,_=Value.str y t from r);exact .cons y t (Zm9 rs)
def Zrl(K:W.Frag):V->List V->Hp->VK->Prop:=fun x vs H Q=>∃sep l ys,x= .str sep/\vs=[.ref l]/\SqL K H l (ys.map V.str)/\(ys.map (fun z:Str=>z.length)).sum+ ys.length*sep.length <=16777216/\Q (.str (Txt.join sep ys)) H
theorem mt_join(h:X.K=K):MtR X "str.join" (Zrl K):=by
 subst h;intro pins s σ H x vs v n Q I c d j;obtain⟨a,l,ys,rfl,rfl,i,g,q⟩:=j;obtain⟨t,rfl⟩:=(show ∃t,v=Value.str a t from c);obtain⟨u,rfl,e⟩:=d.one;cases (show u=Value.ref l from e);obtain⟨m,r,f,_⟩:=I.list i;exact join_list f.isList (by simpa using Zm9 r) g fun b k=>⟨.str _,H,I.tok k,⟨b,rfl⟩,q⟩
theorem Ze0:∀ (ys:List Str) (n:Nat),Vals (ys.map V.str) (strsFrom n ys)
 |[],_=>.nil
 |y::ys,n=>.cons ⟨_,rfl⟩ (Ze0 ys (n+ 1))
def Znh:V->List V->Hp->VK->Prop:=fun x vs H Q=>∃z y:Str,x= .str z/\vs=[.str y]/\(y.length==0)=false/\z.length <=50000/\∀l G,H l=none->Same H G->G l=some (.lst ((Txt.split z y).map V.str))->Q (.ref l) G
theorem Zf3:MtR X "str.split" Znh:=by
 intro pins s σ H x vs v o Q I j k m;obtain⟨z,y,rfl,rfl,f,p,q⟩:=m;obtain⟨t,rfl⟩:=(show ∃t,v=Value.str z t from j);obtain⟨i,rfl,l⟩:=k.one;obtain⟨u,rfl⟩:=(show ∃t,i=Value.str y t from l);have h:50002 <=sizeLine:=Zai (by decide);have n:=(fact_split z y).2;have g:H s.heap.objs.size=none:=I.hok.fresh (Nat.le_refl _);have c:∀ (a:List Value) (tk:Nat),Vals ((Txt.split z y).map V.str) a->EP X pins σ Q (.ref s.heap.objs.size) {s with heap:=s.heap.push {cls:=.type "list",data:=.seq a.toArray},toks:=tk}:=fun a tk r=>by
  refine⟨.ref _,upd H s.heap.objs.size (.lst ((Txt.split z y).map V.str)),I.laid (t':=tk) (fun b u e=>Heap.get?_push_of_some _ e) (Nat.le_refl _) ⟨?_,a,_,r,Heap.get?_push_size _ rfl⟩,rfl,q _ _ g (Zbc g) Zan⟩;rw[List.length_map];omega
 by_cases h1:(decide (z.length < y.length)||decide (Builtin.Str.strKind z < Builtin.Str.strKind y))=true
 ·refine call_meets F.slot_str_split (typeIs_str s z t) F.entry_str_split (F.args_str_split_2 _ _) (meets_str_split_cannot_occur z y t u h1) ?_;have e:Txt.split z y=[z]:=by unfold Txt.split;rw[if_pos h1]
  refine c [.str z t] s.toks ?_;rw[e];exact .cons ⟨t,rfl⟩ .nil
 ·have d:(decide (z.length < y.length)||decide (Builtin.Str.strKind z < Builtin.Str.strKind y))=false:=by simpa using h1
  by_cases h2:(Builtin.Str.occurrences z y 0 z.length (z.length+ 1)).isEmpty=true
  ·refine call_meets F.slot_str_split (typeIs_str s z t) F.entry_str_split (F.args_str_split_2 _ _) (meets_str_split_not_found z y t u d f h2) ?_;have e:Txt.split z y=[z]:=by unfold Txt.split;rw[if_neg h1,if_pos h2]
   refine c [.str z t] s.toks ?_;rw[e];exact .cons ⟨t,rfl⟩ .nil
  ·have e:Txt.split z y=Builtin.Str.partsBetween z (Builtin.Str.occurrences z y 0 z.length (z.length+ 1)) y.length:=by unfold Txt.split;rw[if_neg h1,if_neg h2]
   refine call_meets F.slot_str_split (typeIs_str s z t) F.entry_str_split (F.args_str_split_2 _ _) (meets_str_split_sep z y t u d f (by simpa using h2) (by omega) (by rw[<-e];omega)) ?_;rw[<-e];exact c _ _ (Ze0 _ _)
def Znn:V->List V->Hp->VK->Prop:=fun x vs H Q=>∃ (z y:Str) (i:Nat) (rest:List Nat),x= .str z/\vs=[.str y]/\Builtin.Str.occurrences z y 0 z.length 1=i::rest/\Q (.int i) H
theorem Zl5:MtR X "str.index" Znn:=by
 intro pins s σ H x vs v g Q I b c f;obtain⟨z,y,i,rest,rfl,rfl,e,q⟩:=f;obtain⟨t,rfl⟩:=(show ∃t,v=Value.str z t from b);obtain⟨a,rfl,d⟩:=c.one;obtain⟨u,rfl⟩:=(show ∃t,a=Value.str y t from d);exact SC.index e ⟨.int i,H,I.tok _,⟨_,rfl⟩,q⟩
def Zkh:V->List V->Hp->VK->Prop:=fun x vs H Q=>∃z y:Str,x= .str z/\vs=[.str y]/\Q (.bl (Txt.startswith z y)) H
theorem Zn5:MtR X "str.startswith" Zkh:=by
 intro pins s σ H x vs v f Q I b c e;obtain⟨z,y,rfl,rfl,q⟩:=e;obtain⟨t,rfl⟩:=(show ∃t,v=Value.str z t from b);obtain⟨a,rfl,d⟩:=c.one;obtain⟨u,rfl⟩:=(show ∃t,a=Value.str y t from d);exact SC.startswith ⟨.bl _,H,I,rfl,q⟩
def Zvg:R2:=fun x y H Q=>∃z p:Str,x= .str p/\y= .str z/\Q (.bl (!(Builtin.Str.occurrences z p 0 z.length 1).isEmpty)) H
theorem Ztz:OpR X (compareOp .In) Zvg:=by
 intro pins s σ H x y v u Q I b a c;obtain⟨z,p,rfl,rfl,q⟩:=c;obtain⟨t,rfl⟩:=(show ∃t,v=Value.str p t from b);obtain⟨d,rfl⟩:=(show ∃t,u=Value.str z t from a);exact P.in_str ⟨.bl _,H,I,rfl,q⟩
def Zrf:List V->Hp->VK->Prop:=fun xs H Q=>∃n:Int,xs=[.int n]/\n.natAbs.log2 < 1920/\Q (.str (Str.ofString (toString n))) H
theorem Zjp:Zd4 X (.type "str") Zrf:=by
 intro pins s σ H xs d Q I r c;obtain⟨n,rfl,b,q⟩:=c;obtain⟨u,rfl,a⟩:=Zir r;obtain⟨t,rfl⟩:=(show ∃t,u=Value.int n t from a);exact P.str_of_int b ⟨.str _,H,I.tok _,⟨_,rfl⟩,q⟩
def Zrp:List V->Hp->VK->Prop:=fun xs H Q=>∃ (n:Int) (z:Str),xs=[.str z]/\intText? z=some n/\z.length <=640/\Q (.int n) H
theorem Zec:Zd4 X (.type "int") Zrp:=by
 intro pins s σ H xs e Q I r d;obtain⟨n,z,rfl,c,b,q⟩:=d;obtain⟨u,rfl,a⟩:=Zir r;obtain⟨t,rfl⟩:=(show ∃t,u=Value.str z t from a);exact W.KIN.call_text c b ⟨.int n,H,I.tok _,⟨_,rfl⟩,q⟩
theorem Zck{x:Str}{z:Str}{pos:Pos}(hg:Gl X x)(hm:∃t,X.mg x=some (.str z t))(hd:(x==("__debug__":Str))=false:=by decide):PE X (.Name x pos) (tC (.str z)):=by
 obtain⟨t,e⟩:=hm;exact Zbs hg e ⟨t,rfl⟩ hd
end
section
variable{X:Cx}
def Zlg(sp:Sp)(i:Nat)(K:PySem.W.Frag)(W:Addr)(ts:TS):TS:=fun D σ H=>∃v E1,σ[i]?=some (some v)/\sp [v] H (fun _ H'=>D.nx σ H') E1/\∀C H',E1 (.ref C) none H'->PySem.W.mroIn K C (.ref W)=some true/\∀G,Same H' G->ts D σ G
end
def Cx2(e:Addr)(h:Heap):Prop:=∃ob vs,h.get? e=some ob/\ob.data= .fields vs/\vs[2]?=some Value.none
section
variable{M:Model}{A:Around}{E:Value->Shared->Prop}{s:Shared}
theorem Zk3{base:Heap}{env:Env}{outer:List Env}{L e:Addr}{ob:Obj}{vs:Array Value}{hd0 z0:Value}{b0:Bool}{Q:Unit->Shared->Prop}(hfr:A.frames=some (env::outer))(hl:s.heap.FunFrames base (env::outer))(hf:env.frame=some L)
  (hb:base.StaysIn s.heap) (hn:base.get? e=none) (he:s.heap.get? e=some ob) (hd:ob.data= .fields vs) (h1:1 < vs.size) (h0:vs[0]?=some z0)
  (k:∀h',Heap.NotedW base (env::outer) e ob.cls z0 (rawInt L) s.heap h'->(vs[2]?=some .none->Cx2 e h')->Q () {s with heap:=h'}):
  wpAny M A (do let a <-frameOf env;let pl <-entryPlaceOf L b0;let b <-EntryCells.newEntry hd0 a .none (rawInt L) .none pl;setField (.ref e) 1 b) Q E s:=by
 have r:e∉(env::outer).filterMap (·.frame):=fun l=>by
  obtain⟨_,o,q,z⟩:=hl.mem l;rw[he]at q;cases q;exact z vs hd
 refine wpAny_bind (wpAny_frameOf_fun hfr hl hf fun g f=>wpAny_bind (wpAny_entryPlaceOf fun pl h=>?_));unfold EntryCells.newEntry newFields;refine wpAny_bind (wpAny_newObj_type ?_ (h.sizeOk5 _ _ _ _ _));have t:g.get? e=some ob:=(f.2.1 e r).trans he;have i:base.StaysIn g:=fun b o q=>(f.2.1 b fun l=>by rw[(hl.mem l).1]at q;cases q).trans (hb b o q)
 obtain⟨te,c⟩:∃te:Obj,te={cls:=.type "traceback",dict:=none,data:=.fields ([hd0,.ref L,.none,rawInt L,.none]++(if pl.isEmpty then List.replicate 6 Value.none else pl)).toArray}:=⟨_,rfl⟩;have m:(g.push te).get? e=some ob:=Heap.get?_push_of_some _ t;have u:te.isFreed=false:=by rw[c];rfl
 rw[<-c];refine wpAny_setField m hd h1 (k _ ?_ fun h2=>?_)
 ·have ne:g.objs.size≠e:=Nat.ne_of_gt (Heap.lt_size t);have d:=Obj.data_mapFields hd (·.setIfInBounds 1 (Value.ref g.objs.size));have x:=Heap.get?_update_self (Obj.mapFields (·.setIfInBounds 1 (Value.ref g.objs.size))) m (Obj.isFreed_of_fields d);have v:=(Heap.get?_update_other (g.push te) (Obj.mapFields (·.setIfInBounds 1 (Value.ref g.objs.size))) (Ne.symm ne)).trans (Heap.get?_push_size g u);have j:∀b o,b≠e->g.get? b=some o->((g.push te).update e (Obj.mapFields (·.setIfInBounds 1 (Value.ref g.objs.size)))).get? b=some o:=fun b o w q=>
   (Heap.get?_update_other _ _ (Ne.symm w)).trans (Heap.get?_push_of_some _ q)
  have p:∀b o,s.heap.get? b=some o->(∀ws,o.data≠ .fields ws)->b≠e:=fun b o q hx z=>by
   subst z;rw[he]at q;cases q;exact hx vs hd
  refine⟨fun b o q=>j b o (fun z=>by subst z;rw[hn]at q;cases q) (i b o q),hl.of_keeps fun b o q hx=>?_,?_,fun b o q hx=>?_⟩
  ·obtain⟨n,z⟩:=f.2.2 b o q;exact⟨_,j b _ (p b o q hx) z,rfl⟩
  ·refine⟨_,_,g.objs.size,te,_,x,⟨Obj.cls_mapFields _ _,?_⟩,d,by simp[h1],i.fresh,ne,v,by rw[c],?_⟩
   ·rw[Array.getElem?_setIfInBounds_ne (by decide)];exact h0
   ·rcases h with rfl|⟨_,_,_,_,_,_,_,rfl⟩ <;> simp
  ·obtain⟨n,z⟩:=f.2.2 b o q;exact⟨n,j b _ (p b o q hx) z⟩
 ·have d:=Obj.data_mapFields hd (·.setIfInBounds 1 (Value.ref g.objs.size));refine⟨_,_,Heap.get?_update_self _ m (Obj.isFreed_of_fields d),d,?_⟩;rw[Array.getElem?_setIfInBounds_ne (by decide)];exact h2
theorem Zfa{base:Heap}{l:List Env}{e:Addr}{cls z0 fl:Value}{fr:Option Addr}{Q:Unit->Shared->Prop}(hb:base.StaysIn s.heap)(hl:s.heap.FunFrames base l)(ht:s.heap.TracedAtW base e cls z0 fl)
  (k:∀h',base.StaysIn h'->h'.FunFrames base l->h'.TracedAtW base e cls z0 (fr.elim .none fun f=>rawInt f)->s.heap.UpToSlots h'->(Cx2 e s.heap->Cx2 e h')->Q () {s with heap:=h'}):wpAny M A (setFlight (.ref e) fr) Q E s:=by
 obtain⟨n,vs,T,v,h,j,t,m,h1,d,ne,g,c,u⟩:=ht;have sz:3 < h.size:=(Array.getElem?_eq_some_iff.mp u).1;have a:∀b,b≠T->(s.heap.update T (Obj.mapFields (·.setIfInBounds 3 (fr.elim Value.none fun f=>rawInt f)))).get? b=s.heap.get? b:=fun b p=>Heap.get?_update_other _ _ (Ne.symm p)
 have i:∀b o,s.heap.get? b=some o->(∀ws,o.data≠ .fields ws)->b≠T:=fun b o q hx z=>by
  subst z;rw[g]at q;cases q;exact hx h c
 unfold setFlight;refine wpAny_bind (wpAny_field j m h1 ?_);rw[if_pos (by simp)];refine wpAny_setField g c sz (k _ (fun b o q=>(a b fun z=>by subst z;rw[d]at q;cases q).trans (hb b o q)) (hl.of_keeps fun b o q hx=>⟨o,(a b (i b o q hx)).trans q,rfl⟩) ?_ (fun b o q hx=>⟨o.slots,(a b (i b o q hx)).trans q⟩) ?_)
 ·exact⟨n,vs,T,_,_,(a e (Ne.symm ne)).trans j,t,m,h1,d,ne,Heap.get?_update_self _ g (Obj.isFreed_of_fields (Obj.data_mapFields c _)),Obj.data_mapFields c _,by simp[sz]⟩
 ·rintro⟨ob',vs',q,r⟩;exact⟨ob',vs',(a e (Ne.symm ne)).trans q,r⟩
theorem Zt4{base:Heap}{env:Env}{outer:List Env}{L e:Addr}{cls z0:Value}{Q:Unit->Shared->Prop}(hfr:A.frames=some (env::outer))(hf:env.frame=some L)(F:Heap.FlyingW base (env::outer) e cls z0 s.heap)
  (k:∀h',Heap.HeldW base (env::outer) e cls z0 L h'->s.heap.UpToSlots h'->(Cx2 e s.heap->Cx2 e h')->Q () {s with heap:=h'}):wpAny M A (noteFrame (.ref e) env) Q E s:=by
 obtain⟨f1,m,y,ob,vs,T,oT,u,c,⟨w,x⟩,f,h1,j,ne,g,h,l⟩:=F;subst w;have a:∀b,b≠T->(s.heap.update T (Obj.mapFields (·.setIfInBounds 3 Value.none))).get? b=s.heap.get? b:=fun b v=>Heap.get?_update_other _ _ (Ne.symm v)
 have i:∀b o,s.heap.get? b=some o->(∀ws,o.data≠ .fields ws)->b≠T:=fun b o q hx z=>by
  subst z;rw[g]at q;cases q;exact hx u h
 unfold noteFrame;simp only[hf];refine wpAny_bind (wpAny_field c f h1 ?_);rw[if_pos (by simp)];refine wpAny_bind (wpAny_field g h l ?_);rw[if_neg (by simp[rawInt])];refine wpAny_bind (wpAny_setField g h (Array.getElem?_eq_some_iff.mp l).1 ?_);refine Zk3 hfr (y.of_keeps fun b o q hx=>⟨o,(a b (i b o q hx)).trans q,rfl⟩) hf (fun b o q=>(a b fun z=>by subst z;rw[j]at q;cases q).trans (f1 b o q)) m ((a e (Ne.symm ne)).trans c) f (Array.getElem?_eq_some_iff.mp h1).1 x ?_;rintro h' ⟨t,r,p,n⟩ c2;refine k h' ⟨t,m,r,p⟩ (fun b o q hx=>n b o ((a b (i b o q hx)).trans q) hx) fun⟨ob',vs',q,d,z⟩=>c2 ?_
 rw[c]at q;cases q;rw[f]at d;cases d;exact z
end
def CXp(P:Program)(w:World):CXT:=fun outer H s E e s'=>CXx P w outer H s E e s'/\∀a,e= .ref a->Cx2 a s'.heap
structure Zk9(X:Cx)(E:XK):Prop where
 stk:X.stack=X.env::X.outer
 fr:X.env.frame=some X.env.locals
 ex:X.ex=[]
 xe:∀e s,wpAny (model X.prog X.w) X.A (leaving X.env e) (fun _ s''=>CXp X.prog X.w X.outer X.H₀ X.s₀ E e s'') (fun e' s''=>CXp X.prog X.w X.outer X.H₀ X.s₀ E e' s'') s->X.xe e s
section
variable{X:Cx}{pins:List (Addr×Obj)}{σ:St}{H:Hp}{s:Shared}{E E1:XK}
theorem Zoj(I:Inv X pins σ H s)(stk:X.stack=X.env::X.outer)(fr:X.env.frame=some X.env.locals)(ex:X.ex=[]){h':Heap}{tk:Nat}{e C:Addr}{t:Value}(fl:Heap.FlyingW (W.hideAll s.heap (frs X.stack)) X.outer e (.ref C) t h')(sm':s.heap.UpToSlots h'):
  Flew X.prog X.w X.outer X.H₀ X.s₀ e C t (W.hideAll s.heap (frs X.stack)) H {s with heap:=h',toks:=tk}:=by
 have f:∀b o,X.s₀.heap.get? b=some o->b∉frs X.outer->b∉frs X.stack:=fun b o q c g=>by
  rcases(Zfs stk fr).mp g with rfl|g
  ·exact absurd (Nat.lt_of_lt_of_le (Heap.lt_size q) I.ok.above) (Nat.lt_irrefl _)
  ·exact c g
 have d:∀b,b∉X.ex:=fun b=>by rw[ex];simp
 have h:∀b o,s.heap.get? b=some o->b∉frs X.stack->(W.hideAll s.heap (frs X.stack)).get? b=some o:=fun b o q c=>W.hideAll_get _ q c
 have l:∀b o,b∈frs X.stack->s.heap.get? b=some o->∀vs,o.data≠ .fields vs:=fun b o c q=>by
  obtain⟨_,o',k,z⟩:=I.stack.mem c;rw[q]at k;cases k;exact z
 refine⟨I.os,I.bare,fl,fun a o q=>?_,⟨fun b o q n c _=>?_,fun b o q n c _=>?_,fun b o q n _=>I.base.free b o q n (d b),fun b o q _=>?_,I.base.tups,I.base.frzs,I.base.tbls⟩,fun b o q c n=>?_,fun b o q c=>?_⟩
 ·refine(I.hok a o q).stay (fun b u c z=>h b u z fun g=>?_) (fun _ z=>z) fun _ _ z=>z
  have m:=I.stkFree b g;rcases c with rfl|c
  ·rw[m]at q;cases q
  ·rw[m]at c;cases c
 ·exact fl.1 b o (h b o (I.base.keep b o q n c (d b)) (f b o q c))
 ·obtain⟨p,z⟩:=I.base.slot b o q n c (d b);obtain⟨i,j⟩:=sm' b _ z (l b _ ((Zfs stk fr).mpr (.inr c)) z);exact⟨i,j⟩
 ·obtain⟨o',z⟩:=I.base.there b o q (d b)
  by_cases c:b∈frs X.stack
  ·obtain⟨i,j⟩:=sm' b _ z (l b _ c z);exact⟨_,j⟩
  ·exact⟨o',fl.1 b o' (h b o' z c)⟩
 ·exact h b o (I.base.keep b o q n c (d b)) (f b o q c)
 ·obtain⟨o',z⟩:=I.base.there b o q (d b);exact⟨o',h b o' z (f b o q c)⟩
theorem Zgr(I:Inv X pins σ H s)(stk:X.stack=X.env::X.outer):s.heap.FunFrames (W.hideAll s.heap (frs X.stack)) (X.env::X.outer):=
 stk▸W.funFrames_hide I.stack fun env b a c=>List.mem_filterMap.mpr ⟨env,b,c⟩
theorem Znf(I:Inv X pins σ H s)(L:Zk9 X E){h1:Heap}{e C:Addr}{args:List Value}{tk:Nat}(hx:Heap.MadeExcOf s.heap h1 e (.ref C) args)(hE:E (.ref C) none H):X.xe (.ref e) {s with heap:=h1,toks:=tk}:=by
 refine L.xe _ _ ?_;have g:=Zgr I L.stk;have f:X.A.frames=some (X.env::X.outer):=L.stk▸I.ok.frames;obtain⟨t,h,_,_⟩:=hx.there;have d:(W.hideAll s.heap (frs X.stack)).StaysIn h1:=fun b o q=>hx.keeps b o (W.of_hideAll _ q)
 have c:(W.hideAll s.heap (frs X.stack)).get? e=none:=by
  cases q:(W.hideAll s.heap (frs X.stack)).get? e with
  |none=>rfl
  |some o=>have:=W.of_hideAll _ q;rw[hx.new]at this;cases this
 unfold leaving noteFrame;simp only[L.fr];refine wpAny_bind (wpAny_bind (wpAny_field (x:=Value.none) h rfl rfl ?_));rw[if_neg (by simp)];refine Zk3 (s:={s with heap:=h1,toks:=tk}) f (g.of_keeps fun b o q _=>⟨o,hx.keeps b o q,rfl⟩) L.fr d c h rfl (by simp) rfl fun h2 ⟨u,r,p,n⟩ v=>?_
 refine Zfa (s:={s with heap:=h2,toks:=tk}) u r p fun w m l k j i=>⟨⟨e,C,.ref t,_,H,rfl,Zoj I L.stk L.fr L.ex ⟨m,c,l.2.2,k⟩ (((Heap.UpToSlots.of_keeps hx.keeps).trans n).trans j),hE⟩,fun a z=>?_⟩
 cases z;exact i (v rfl)
end
theorem Zgm{P:Program}{w:World}{K:W.Frag}{mg:Str->Option Value}{base:Heap}{N:List Str}{qual:Str}{scope:Scope}{f:Addr}{cd:Value}{A:Around}{outer:List Env}{s:Shared}{H:Hp}{E:XK}:
  Zk9 (cxOf (CXp P w) P w K mg base N qual scope f cd A outer s H E) E:=⟨rfl,rfl,rfl,fun _ _ h=>h⟩
theorem Zgf{X:Cx}{E:XK}{x:Str}{C:Addr}{e:Expr}{te:TE}{np cpos pos:Pos}(L:Zk9 X E)(hc:X.calm=true)(hg:Gl X x)(c:XC X.K X.mg x C)(ha:PE X e te)(hdb:(x==("__debug__":Str))=false:=by decide)
  (he:starEach [e] X.env=[(false,eval e X.env)]:=by rfl):PS X (.Raise (some (.Call (.Name x np) [e] [] cpos)) none pos) (Zlh te C E):=by
 intro pins s σ H D I h;obtain⟨tl,N,nm,q,bs,hdct,sn,sub,ab,col,dd,k0,k1,k2,k3,k5,mN,i,g,b,T⟩:=c.obj I.ok.mod.kin;refine wpAny_Raise_call_subT (C:=C) (nm:=nm) (q:=q) (N:=N) (bs:=bs) (bm:=tl) (hdct:=hdct) (sn:=sn) (sub:=sub) (ab:=ab) (col:=col) (dd:=dd) (k0:=k0) (k1:=k1) (k2:=k2) (k3:=k3) (k5:=k5)
  PySem.F.excBase_ValueError (mN:=mN) (T.hasType PySem.F.excBase_ValueError.hasBase) (I.ok.hd hc) (by rw[he];rfl) b (Zdo I hg c.m ⟨rfl,?_⟩ hdb)
 rw[he];refine Calls.evalArgs_plain (Calls.spliced_cons (thn (ha pins s σ H _ I h) fun u s1 ⟨y,H1,a,j,d⟩=>Calls.spliced_nil ⟨rfl,?_⟩));refine⟨Zai (by show 1 <=100000;decide),a.bk _ _ i,g.keeps a.bk,T.keeps a.bk,fun h' e f=>?_⟩;exact Znf (tk:=s1.toks) a L f d
structure CtP(P:Program)(w:World)(K:W.Frag)(mg:Str->Option Value)(base:Heap)(x:Str)(k:Nat)(sp:Sp):Prop where
 ex:∃ (f C:Addr) (fd:FuncData) (ds:List Value) (dvs:List V) (ps:List Str) (sp0:Sp),FnOk P w K mg base (CXp P w) k f fd ps sp0/\mg x=some (.ref C)/\Mk K C f/\Binds K fd ps ds/\Vals dvs ds/\
  ∀vs H Q E,sp vs H Q E->∀y dx G,H y=none->H dx=none->dx≠y->Same H G->G y=some (.ins C dx [])->sp0 (.ref y::(vs++dvs)) G (fun v H2=>v= .non/\Q (.ref y) H2) E
section
variable{X:Cx}{k:Nat}{sp:Sp}{x:Str}{p pos:Pos}{e:Expr}{es:List Expr}{t:TA}{E:XK}
theorem Ztw(F:CtP X.prog X.w X.K X.mg X.base x k sp)(hr:Room (k+ 1) X.A)(hg:Gl X x)(hx:Zfw (CXp X.prog X.w) X E)(ha:PA X (e::es) t)(hdb:(x==("__debug__":Str))=false:=by decide)
  (he:starEach (e::es) X.env=(false,eval e X.env)::starEach es X.env:=by rfl) (hpl:(backTo pos (starEach es X.env)).any (·.1)=false:=by rfl):PE X (.Call (.Name x p) (e::es) [] pos) (Zhm sp [] E t):=by
 obtain⟨f,C,fd,ds,dvs,ps,l,G,g,M,j,i,hi⟩:=F.ex;intro pins s σ H Q I h;refine wpAny_Call_Name_kw (Zdo I hg g ?_ hdb);refine W.callWith_K (h₀:=X.base) I.ok.mod.kin M.kp (thn (ha pos pins s σ H _ I h) fun m s1 ⟨vs,H1,c,r,q⟩=>⟨c.kIn,?_⟩) he hpl;have q:sp (vs++[]) H1 Q E:=q;rw[List.append_nil]at q;exact Zlt M G hr j i hx c r fun y dx b a d=>hi _ _ _ _ q y dx _ b a d ((Zbc a).new b) Zan
end
theorem Zij:entryFor table "proto.unchain"=some Builtin.«proto.unchain»:=entryFor_of_tree (by kernel_rfl)
section
variable{prog:Program}{w:World}{A:Around}{E:Value->Shared->Prop}{env:Env}
theorem Zis{s:Shared}{e:Value}{a:Addr}{Q:Value->Shared->Prop}(hc:Cx2 a s.heap)(h:Q .none s):wpAny (model prog w) A (runValue (.builtin "proto.unchain" ⟨[e,.ref a,.ref a,.bool false],[]⟩)) Q E s:=by
 obtain⟨d,vs,c,b,h2⟩:=hc;refine wpAny_runValue (codeAny_builtin Zij ?_);unfold Builtin.«proto.unchain»;refine wpAny_bind (wpAny_field c b h2 ?_);rw[if_pos (by simp)];exact wpAny_pure h
theorem Zkg{α:Type}{s:Shared}{a e:Addr}{ob:Obj}{vs:Array Value}{Q:α->Shared->Prop}(hh:A.handled=some (.ref a))(ne:e≠a)(hc:Cx2 a s.heap)(he:s.heap.get? e=some ob)(hd:ob.data= .fields vs)(h2:2 < vs.size)
  (h:E (.ref e) {s with heap:=s.heap.update e (Obj.mapFields (·.setIfInBounds 2 (.ref a)))}):wpAny (model prog w) A (raiseNew (.ref e):Sem α) Q E s:=by
 unfold raiseNew;refine wpAny_bind (wpAny_handled ?_);rw[hh];simp only;rw[if_pos (by simpa using fun z=>ne (by simpa using z.symm))];refine wpAny_bind (wpAny_holding (Zis hc (wpAny_bind ?_)));unfold updateField;refine wpAny_bind (wpAny_load he ?_);rw[hd];simp only;rw[if_pos h2];exact wpAny_update he (wpAny_throw h)
variable{nm q:Str}{C N:Addr}{bs bm:List Value}{hdct:Bool}{sn:List Str}{sub:List Value}{ab:Bool}{col:Option Bool}{dd:Option Addr}{k0 k1 k2 k3 k5:Option Value}{newId:String}
theorem Zg1{s:Shared}{a:Addr}{x c:Sem Value}{Q:Flow->Shared->Prop}(hbase:bm.contains (.type "BaseException")=true)(hh:A.handled=some (.ref a))
  (hcv:∀Q' s',Q' Value.none s'->wpAny (model prog w) A c Q' E s')
  (h : wpAny (model prog w) A x (fun v s₁ => ∃ e t, v = .ref e /\ s₁.heap.get? C = some (excClassObj nm q C N bs bm hdct sn sub ab col dd k0 k1 k2 k3 k5 newId) /\ C ≠ e /\ e ≠ a /\ Cx2 a s₁.heap /\
   s₁.heap.get? e=some {cls:=.ref C,data:=.fields #[.ref t,.none,.none,.none,.bool false,.none]}/\
   ∀ h', (∀ b, b ≠ e -> h'.get? b = s₁.heap.get? b) -> h'.get? e = some { cls := .ref C, data := .fields #[.ref t, .none, .ref a, .none, .bool true, .none] } -> E (.ref e) { s₁ with heap := h' }) E s) :
  wpAny (model prog w) A (raiseStmt env (some x) (some c)) Q E s:=by
 have l:(Value.ref C::bm).contains (.type "BaseException")=true:=by rw[List.contains_cons,hbase,Bool.or_true]
 unfold raiseStmt;refine wpAny_bind (wpAny_mono h (fun v s₁ p=>?_) fun _ _ x=>x);obtain⟨e,t,rfl,m,nC,f,y,i,z⟩:=p;obtain⟨u,g,d,tk,os⟩:=s₁;refine wpAny_bind (wpAny_holding (hcv _ _ (wpAny_bind (wpAny_pure ?_))));dsimp only
 repeat (first|(with_reducible refine wpAny_isSubtype_exc m ?_;rw[l])|with_reducible refine wpAny_loadPart_at m ?_|with_reducible refine wpAny_loadPart_at i ?_|wp_step)
 have i:u.get? e=some {cls:=.ref C,data:=.fields #[.ref t,.none,.none,.none,.bool false,.none]}:=i;have u1:=Heap.get?_update_self (Obj.mapFields fun x=>x.setIfInBounds 3 Value.none) i (Obj.isFreed_of_fields (Obj.data_mapFields rfl _));have k:=Heap.get?_update_self (Obj.mapFields fun x=>x.setIfInBounds 4 (Value.bool true)) u1 (Obj.isFreed_of_fields (Obj.data_mapFields (Obj.data_mapFields rfl _) _));have n:=Heap.get?_update_self (Obj.mapFields fun x=>x.setIfInBounds 2 (Value.ref a)) k (Obj.isFreed_of_fields (Obj.data_mapFields (Obj.data_mapFields (Obj.data_mapFields rfl _) _) _));refine Zkg hh f ?_ k rfl (by simp) (z _ (fun b j=>?_) n)
 ·obtain⟨o,vs,q,r⟩:=y;refine⟨o,vs,?_,r⟩;rw[Heap.get?_update_other _ _ f,Heap.get?_update_other _ _ f];exact q
 ·rw[Heap.get?_update_other _ _ (Ne.symm j),Heap.get?_update_other _ _ (Ne.symm j),Heap.get?_update_other _ _ (Ne.symm j)]
end
section
variable{X:Cx}{pins:List (Addr×Obj)}{σ:St}{H:Hp}{s:Shared}{E E1:XK}
theorem Zr9{e:Addr}{l:List Addr}(h:s.heap.get? e=none):(W.hideAll s.heap l).get? e=none:=by
 cases q:(W.hideAll s.heap l).get? e with
 |none=>rfl
 |some o=>have:=W.of_hideAll _ q;rw[h]at this;cases this
theorem Zu7(I:Inv X pins σ H s)(L:Zgv X E){h1:Heap}{e C a t:Addr}{tk:Nat}(hk:∀b o,s.heap.get? b=some o->h1.get? b=some o)(hn:s.heap.get? e=none)
  (he:h1.get? e=some {cls:=.ref C,data:=.fields #[.ref t,.none,.ref a,.none,.bool true,.none]}) (hE:E (.ref C) none H):
  notedBy (model X.prog X.w) (X.A.mark (some (.ref a))) X.env (cameBackBy (model X.prog X.w) X.A X.env X.xe) (.ref e) {s with heap:=h1,toks:=tk}:=by
 have j:=Zgr I L.stk;have h:X.A.frames=some (X.env::X.outer):=L.stk▸I.ok.frames;have i:(X.A.mark (some (.ref a))).frames=some (X.env::X.outer):=h;have g:(W.hideAll s.heap (frs X.stack)).StaysIn h1:=fun b o q=>hk b o (W.of_hideAll _ q)
 have c:=Zr9 (l:=frs X.stack) hn;unfold notedBy noteFrame;simp only[L.fr];refine wpAny_bind (wpAny_field (x:=Value.none) he rfl rfl ?_);rw[if_neg (by simp)];refine Zk3 (s:={s with heap:=h1,toks:=tk}) i (j.of_keeps fun b o q _=>⟨o,hk b o q,rfl⟩) L.fr g c he rfl (by simp) rfl fun h2 ⟨x1,x2,f,x4⟩ _=>?_
 obtain⟨ob,vs,T,oT,ts,k,hc,hd,n,r⟩:=id f;unfold cameBackBy;refine wpAny_bind (wpAny_field (s:={s with heap:=h2,toks:=tk}) k hd n ?_);rw[if_neg (by simp)];rw[L.fr];refine Zfa (s:={s with heap:=h2,toks:=tk}) x1 x2 f fun m y1 y2 d z _=>L.xe _ _ ?_
 unfold leaving;refine wpAny_bind (wpAny_noteFrame_againW (s:={s with heap:=m,toks:=tk}) L.fr d ?_);refine Zfa (s:={s with heap:=m,toks:=tk}) y1 y2 d fun h4 y v u p _=>?_
 exact⟨e,C,.ref t,_,H,rfl,Zoj I L.stk L.fr L.ex ⟨y,c,v.2.2,u⟩ ((((Heap.UpToSlots.of_keeps hk).trans x4).trans z).trans p),hE⟩
theorem Zo1{a C:Addr}{x z:Str}{j1 j2:Nat}{np cpos p1 p2 pos:Pos}{Q:Flow->Shared->Prop}(I:Inv X pins σ H s)(L:Zgv X E)(hg:Gl X x)(c:XC X.K X.mg x C)(h2:Cx2 a s.heap)(hE:E (.ref C) none H)(hdb:(x==("__debug__":Str))=false:=by decide)
  (hst:starEach [Expr.Constant (.str z) j1 p1] X.env=[(false,eval (.Constant (.str z) j1 p1) X.env)]:=by rfl):
  wpAny (model X.prog X.w) (X.A.mark (some (.ref a))) (exec (.Raise (some (.Call (.Name x np) [.Constant (.str z) j1 p1] [] cpos)) (some (.Constant .none j2 p2)) pos) X.env) Q
   (notedBy (model X.prog X.w) (X.A.mark (some (.ref a))) X.env (cameBackBy (model X.prog X.w) X.A X.env X.xe)) s:=by
 obtain ⟨tl, N, nm, q, bs, hdct, sn, sub, ab, col, dd, k0, k1, k2, k3, k5, mN, hC, hN, n, T⟩ := c.obj I.ok.mod.kin;rw [arm_exec_Raise];simp only [evalOpt, Option.map];refine wpAny_bind (wpAny_standAt (Zg1 (C := C) (nm := nm) (q := q) (N := N) (bs := bs) (bm := tl) (hdct := hdct) (sn := sn) (sub := sub) (ab := ab) (col := col) (dd := dd) (k0 := k0) (k1 := k1) (k2 := k2) (k3 := k3) (k5 := k5) (newId := "ValueError.__new__")
  (T.hasType PySem.F.excBase_ValueError.hasBase) rfl (fun Q' s' hq => wpAny_bind (Constant_none (wpAny_bind (wpAny_standAt (wpAny_pure hq))))) (wpAny_bind (wpAny_mono (wpAny_Call_ofName (Zdo (X := X.marked a) (I.marked a) hg c.m ?_ hdb)) (fun v s₃ h₃ => wpAny_bind (wpAny_standAt (wpAny_pure h₃))) fun _ _ y => y))))
 unfold callWith;rw[hst];refine wpAny_bind (wpAny_holding (Calls.evalArgs_plain (Calls.spliced_cons (Calls.Constant_str (k:=j1) (pos:=p1) (Calls.spliced_nil (wpAny_bind (wpAny_standAt ?_)))))));have j:∀{b:Addr} {o:Obj},X.base.get? b=some o->s.heap.get? b=some o:=fun q=>I.bk _ _ q
 obtain⟨i,g,d,tk,os⟩:=s;simp only[show(backTo cpos [(false,eval (Expr.Constant (Const.str z) j1 p1) X.env)]).any (fun y=>y.fst)=false from rfl,show(backToKw cpos (keywordEach [] X.env)).any (fun y=>y.fst.isNone)=false from rfl,Bool.or_false];have f:i.get? C=some (excClassObj nm q C N bs tl hdct sn sub ab col dd k0 k1 k2 k3 k5 "ValueError.__new__"):=j hC;refine wpAny_bind (wpAny_keeperOf_exc (g:=g) (d:=d) (t:=tk+ 1) (os:=os) f ?_);have TS:OwnTail i Zsr tl:=T.keeps fun b o q=>j q
 have p:i.Ns N mN:=hN.keeps fun b o q=>j q
 refine wpAny_bind (wpAny_call_exc_subT (g:=g) (d:=d) (t:=tk+ 1) (os:=os) (hrest:=Zai (by show 1 <=100000;decide)) PySem.F.excBase_ValueError TS f p n fun h' e h=>wpAny_bind (wpAny_holding (wpAny_point (wpAny_pure ?_))));obtain⟨t,ht,_,_⟩:=h.there;have ne:∀{b:Addr} {o:Obj},i.get? b=some o->b≠e:=fun q z=>by rw[z,h.new]at q;cases q
 obtain⟨oa,r,l,u⟩:=h2;refine⟨e,t,rfl,h.keeps _ _ f,ne f,Ne.symm (ne l),⟨oa,r,h.keeps _ _ l,u⟩,ht,fun h'' hk he=>?_⟩;exact Zu7 (s:=⟨i,g,d,tk,os⟩) (tk:=tk+ 1) I L (fun b o q=>(hk b (ne q)).trans (h.keeps _ _ q)) h.new he hE
end
section
variable{X:Cx}{E:XK}
def Zm3(sp:Sp)(t:TA)(K:PySem.W.Frag)(W CY:Addr)(E:XK):TS:=fun D σ H=>∃E1:XK,Zhm sp [] E1 t σ H D.rt/\∀C H',E1 (.ref C) none H'->PySem.W.mroIn K C (.ref W)=some true/\∀G,Same H' G->E (.ref CY) none G
theorem Zly{k:Nat}{sp:Sp}{x wn y z:Str}{W CY:Addr}{e:Expr}{es:List Expr}{t:TA}{j1 j2:Nat}{p p0 p1 p2 p3 np np2 cpos rp hp pos:Pos}(L:Zgv X E)(F:CtP X.prog X.w X.K X.mg X.base x k sp)(hr:Room (k+ 1) X.A)(hgx:Gl X x)
  (ha:∀P,PA (X.wish P) (e::es) t) (hgW:Gl X wn) (hmW:X.mg wn=some (.ref W)) (cw:Zin X.K W) (hgy:Gl X y) (c:XC X.K X.mg y CY)
  (hd0:(x==("__debug__":Str))=false:=by decide) (hd1:(wn==("__debug__":Str))=false:=by decide) (hd2:(y==("__debug__":Str))=false:=by decide)
  (he:starEach (e::es) X.env=(false,eval e X.env)::starEach es X.env:=by rfl) (hpl:(backTo p0 (starEach es X.env)).any (·.1)=false:=by rfl)
  (hst:starEach [Expr.Constant (.str z) j1 p2] X.env=[(false,eval (.Constant (.str z) j1 p2) X.env)]:=by rfl):
  PS X (.Try [.Return (some (.Call (.Name x p) (e::es) [] p0)) p1] [.ExceptHandler (some (.Name wn np)) none [.Raise (some (.Call (.Name y np2) [.Constant (.str z) j1 p2] [] cpos)) (some (.Constant .none j2 p3)) rp] hp] [] [] pos) (Zm3 sp t X.K W CY E):=by
 intro pins s σ H D I h;obtain⟨E1,hc,hx⟩:=h;have d:=L.stk;have ae:=L.fr;obtain⟨g,n⟩:∃g:Value->Shared->Prop,g=fun e s2=>∃pins σ H s1,Inv X pins σ H s1/\CXp X.prog X.w X.stack H s1 E1 e s2:=⟨_,rfl⟩
 have ab:Zfw (CXp X.prog X.w) (X.wish g) E1:=fun pins σ H s e s' I c=>by
  show g e s';rw[n];exact⟨pins,σ,H,s,I.unwish,c⟩
 refine wpAny_Try_except (wpAny_execs_cons (wpAny_mono (Zat (X:=X.wish g) (pos:=p1) (Ztw (X:=X.wish g) (p:=p) (pos:=p0) F hr hgx ab (ha g) hd0 he hpl) pins s σ H D (I.wish _) hc) (fun fl s1 b=>?_) fun e s2 b=>?_))
 ·cases fl with
  |next=>exact wpAny_execs_nil (wpAny_execs_nil b.unwish)
  |brk=>exact SP.unwish b
  |cont=>exact SP.unwish b
  |ret v=>exact SP.unwish b
 ·have b:g e s2:=b;rw[n]at b;obtain⟨i,σ',H1,s1,u,⟨a,C,t,B,H',rfl,F,b⟩,c0⟩:=b;obtain⟨ad,b⟩:=hx C H' b;refine Zt4 (base:=B) (L:=X.env.locals) (d▸u.ok.frames) ae (d▸F.fly) fun h4 f l c4=>?_
  refine Zfa (s:={s2 with heap:=h4}) f.1 f.2.2.1 f.2.2.2 fun h5 f1 f2 f3 j c5=>?_
  have m:Heap.FlyingW B (X.env::X.outer) a (.ref C) t h5:=⟨f1,f.2.1,f2,f3⟩;have J5:Inv X i σ' (upd H' a (HX C a)) {s2 with heap:=h5}:=Flew.caught u F (d▸m) (l.trans j);obtain⟨ob,ac,r⟩:=m.there;refine wpAny_handleBy_cons (codeAny_handlers_test ?_) (by intro q;cases q);have J5m:=J5.marked a;refine Zdo (X:=X.marked a) J5m hgW hmW ?_ hd1;refine Zla J5.kIn cw ad ac r ?_;refine codeAny_handlers_suite ?_;refine Zfa (s:={s2 with heap:=h5}) f1 f2 f3 fun h6 g1 g2 g3 aa c6=>?_
  have fl6:Heap.FlyingW B (X.env::X.outer) a (.ref C) t h6:=⟨g1,f.2.1,g2,g3⟩;have J6:Inv X i σ' (upd H' a (HX C a)) {s2 with heap:=h6}:=Flew.caught u F (d▸fl6) ((l.trans j).trans aa);refine wpAny_execs_cons (wpAny_mono (Zo1 (Q:=fun _ _=>False) J6 L hgy c (c6 (c5 (c4 (c0 a rfl)))) (b _ (Zbc (o:=HX C a) F.noE)) hd2 hst) (fun _ _ z=>z.elim) fun _ _ z=>z)
end
structure FvX(P:Program)(w:World)(K:W.Frag)(mg:Str->Option Value)(base:Heap)(k:Nat)(f:Addr)(sp:Sp):Prop where
 ex:∃ (fd:FuncData) (ps:List Str),FnOk P w K mg base (CXx P w) k f fd ps sp/\W.keepIn K (.ref f)=true/\Binds K fd ps []
section
variable{X:Cx}
theorem subcallA{M:Model}{A:Around}{env:Env}{a b:Expr}{es:List Expr}{p pos:Pos}{Q:Value->Shared->Prop}{E:Value->Shared->Prop}{s:Shared}(h:wpAny M A (eval (.Subscript a b p) env) (fun fv s1=>wpAny M A (callWith pos fv [] (backTo pos (starEach es env)) (backToKw pos (keywordEach [] env))) Q E s1) E s):
  wpAny M A (eval (.Call (.Subscript a b p) es [] pos) env) Q E s:=by
 show wpAny M A (do let f <-eval (.Subscript a b p) env;callWith pos f [] (backTo pos (starEach es env)) (backToKw pos (keywordEach [] env))) Q E s;exact wpAny_bind h
def Zj3(P:Program)(w:World)(K:PySem.W.Frag)(mg:Str->Option Value)(base:Heap)(k i j:Nat)(te:TE)(t:TA)(W:Addr)(ts:TS):TS:=fun D σ H=>te σ H fun v H1=>∃f sp,v= .ref f/\FvX P w K mg base k f sp/\t σ H1 fun vs H2=>∃E1:XK,
 sp vs H2 (fun r H3=>D.nx (σ.set i (some r)) H3) E1/\∀C H',E1 (.ref C) none H'->PySem.W.mroIn K C (.ref W)=some true/\∀e G,H' e=none->Same H' G->G e=some (HX C e)->
  ts {nx:=fun σ' H2=>D.nx (σ'.set j none) H2,rt:=D.rt,bk:=fun σ' H2=>D.bk (σ'.set j none) H2,ct:=fun σ' H2=>D.ct (σ'.set j none) H2} (σ.set j (some (.ref e))) G
theorem Znu{k i j:Nat}{x n wn:Str}{W:Addr}{a b e:Expr}{es:List Expr}{te:TE}{t:TA}{b0:Stmt}{suite:List Stmt}{ts:TS}{p p0 p1 px np hp pos:Pos}(hst:X.stack=X.env::X.outer)(hfr:X.env.frame=some X.env.locals)(hr:Room k X.A)(hN:X.N.Nodup)
  (hi:X.N[i]?=some x) (hx:Loc X.env.scope x) (hj:X.N[j]?=some n) (hl:X.env.kindOf n=some .local) (he:∀Pe,PE (X.wish Pe) (.Subscript a b p) te) (ha:∀Pe,PA (X.wish Pe) (e::es) t) (hgW:Gl X wn) (hmW:X.mg wn=some (.ref W)) (cw:Zin X.K W) (hs:∀e,PSs (X.marked e) (b0::suite) ts)
  (hd3:(wn==("__debug__":Str))=false:=by decide) (hsw:swapsWith (.Call (.Subscript a b p) (e::es) [] p0) (some (.Name x px)) p1.line X.env=pure false:=by rfl)
  (hse:starEach (e::es) X.env=(false,eval e X.env)::starEach es X.env:=by rfl) (hpl:(backTo p0 (starEach es X.env)).any (·.1)=false:=by rfl) (hf:X.fn x=true\/X.env.scope.names.lookup x=some .local:=by first|exact .inl rfl|exact .inr rfl|assumption):
  PS X (.Try [.Assign [.Name x px] (.Call (.Subscript a b p) (e::es) [] p0) p1] [.ExceptHandler (some (.Name wn np)) (some n) (b0::suite) hp] [] [] pos) (Zj3 X.prog X.w X.K X.mg X.base k i j te t W ts):=by
 intro pins s σ H D I h;have hL:Loc X.env.scope n:=.inl hl;obtain⟨Gd,eGd⟩:∃Gd:XK->Prop,Gd=fun E1=>∀C H',E1 (.ref C) none H'->PySem.W.mroIn X.K C (.ref W)=some true/\∀e G,H' e=none->Same H' G->G e=some (HX C e)->
  ts {nx:=fun σ' H2=>D.nx (σ'.set j none) H2,rt:=D.rt,bk:=fun σ' H2=>D.bk (σ'.set j none) H2,ct:=fun σ' H2=>D.ct (σ'.set j none) H2} (σ.set j (some (.ref e))) G:=⟨_,rfl⟩
 have h:te σ H fun v H1=>∃f sp,v= .ref f/\FvX X.prog X.w X.K X.mg X.base k f sp/\t σ H1 fun vs H2=>∃E1:XK,sp vs H2 (fun r H3=>D.nx (σ.set i (some r)) H3) E1/\Gd E1:=by rw[eGd];exact h
 obtain⟨Pe,ePe⟩:∃Pe:Value->Shared->Prop,Pe=fun e s2=>∃H1 s1 E1,Gd E1/\Inv X pins σ H1 s1/\CXx X.prog X.w X.stack H1 s1 E1 e s2:=⟨_,rfl⟩
 have ac:wpAny (model X.prog X.w) X.A (exec (.Assign [.Name x px] (.Call (.Subscript a b p) (e::es) [] p0) p1) X.env) (fun fl s1=>fl= .next/\∃v H1,Inv X pins (σ.set i (some v)) H1 s1/\D.nx (σ.set i (some v)) H1) Pe s:=by
  refine wpAny_Assign_Name (wpAny_mono (Q:=fun u s2=>∃y H2,Inv X pins σ H2 s2/\RelV y u/\D.nx (σ.set i (some y)) H2) (subcallA ?_) (fun u s2 ⟨y,H2,d,g,q⟩=>Zfz d hN hi hx g (fun s3 I3=>⟨rfl,y,H2,I3,q⟩) hf) fun _ _ z=>z) hsw;refine thn (he Pe pins s σ H _ (I.wish _) h) fun u s1 ⟨y,H1,o,g,f,sp,e1,FV,q1⟩=>?_
  subst e1;cases (show u=Value.ref f from g);obtain⟨fd,ps,GF,hk,hbd⟩:=FV.ex;refine PySem.W.callWith_K (h₀:=X.base) I.ok.mod.kin hk (thn (ha Pe p0 pins s1 σ H1 _ o q1) fun us s2 ⟨vs,H2,d,r,E1,hsp,gd⟩=>⟨d.unwish.kIn,?_⟩) hse hpl;have d:Inv X pins σ H2 s2:=d.unwish;have hlen:us.length=ps.length:=by rw[<-r.length];exact GF.len _ _ _ _ hsp
  have hbt:=hbd s2 us d.kIn (by rw[List.append_nil];exact hlen);rw[List.append_nil]at hbt;refine wpAny_call (codeAny_mono (GF.run X.A X.stack s2 H2 ⟨us,[]⟩ us vs _ E1 hr d.env0 hbt r hsp) fun rr s3 c=>?_);cases rr with
  |error e=>rw[ePe];exact⟨H2,s2,E1,gd,d,c⟩
  |ok fl=>
   cases fl with
   |ret v'=>
    obtain⟨y,H3,I3,g,q⟩:=d.after c;exact⟨y,H3,I3,g,q⟩
   |next=>exact False.elim c
   |brk=>exact False.elim c
   |cont=>exact False.elim c
 refine wpAny_Try_except (wpAny_execs_cons (wpAny_mono ac (fun fl s1 c=>?_) fun e s2 c=>?_))
 ·obtain⟨rfl,v,H1,o,q⟩:=c;exact wpAny_execs_nil (wpAny_execs_nil ⟨_,H1,o,q⟩)
 ·rw[ePe]at c;obtain⟨H1,s1,E1,gd,o,a,C,t,B,H',rfl,F,c⟩:=c;rw[eGd]at gd;obtain⟨hm,c⟩:=gd C H' c;refine wpAny_looks_onW (base:=B) (L:=X.env.locals) (hst▸o.ok.frames) hfr (hst▸F.fly) fun h4 hd4 sm4=>?_
  refine wpAny_landsW hd4 fun h5 ab sm5=>?_
  have J5:Inv X pins σ (upd H' a (HX C a)) {s2 with heap:=h5}:=Flew.caught o F (hst▸ab) (sm4.trans sm5);obtain⟨ob,hob,hobc⟩:=ab.there;refine wpAny_handleBy_cons (codeAny_handlers_test ?_) (by intro q;cases q);have J5m:=J5.marked a;refine Zdo (X:=X.marked a) J5m hgW hmW ?_ hd3;refine Zla J5.kIn cw hm hob hobc ?_;refine codeAny_handlers_suite_as (lands_againW ab fun h6 fl6 sm6=>?_);have J6:Inv X pins σ (upd H' a (HX C a)) {s2 with heap:=h6}:=Flew.caught o F (hst▸fl6) ((sm4.trans sm5).trans sm6);refine Zfz (v:=.ref a) J6 hN hj hL rfl (fun s7 J7=>?_) (.inr hl);have q7:=c a _ F.noE (Zbc F.noE) Zan;refine wpAny_mono (hs a pins s7 _ _ _ (J7.marked a) q7) (fun fl s8 aa=>?_) fun _ _ z=>z.elim
  cases fl with
  |next=>
   obtain⟨σ',H2,m,q⟩:=aa;exact Ze9 (m.unmarked I.ok) hN hj hl fun s9 l=>⟨_,H2,l,q⟩
  |brk=>
   obtain⟨σ',H2,m,q⟩:=aa;exact Ze9 (m.unmarked I.ok) hN hj hl fun s9 l=>⟨_,H2,l,q⟩
  |cont=>
   obtain⟨σ',H2,m,q⟩:=aa;exact Ze9 (m.unmarked I.ok) hN hj hl fun s9 l=>⟨_,H2,l,q⟩
  |ret v=>
   obtain⟨y,σ',H2,m,g,q⟩:=aa;exact Ze9 (m.unmarked I.ok) hN hj hl fun s9 l=>⟨y,_,H2,l,g,q⟩
end
structure Zsm(k:Nat)(A:Around):Prop where
 dp:A.depth+ 3*k+ 5 < recursionLimit
 un:A.units+ 16*k+ 200 < cLine
theorem Room.nm{j k:Nat}{A:Around}{m:Option Value}(r:Room k A)(h:j <=k):Zsm j (A.mark m):=⟨by have:=r.dp;show A.depth+ 3*j+ 5 < _;omega,by have:=r.un;show A.units+ 16*j+ 200 < _;omega⟩
def cxN(P:Program)(w:World)(K:W.Frag)(mg:Str->Option Value)(base:Heap)(N:List Str)(qual:Str)(scope:Scope)(f:Addr)(cd:Value)(A:Around)(outer:List Env)(s:Shared)(H:Hp):Cx:={(cxOf CX0 P w K mg base N qual scope f cd A outer s H fun _ _ _=>False).nox with calm:=false}
structure FnN(P:Program)(w:World)(K:W.Frag)(mg:Str->Option Value)(base:Heap)(x:Str)(k:Nat)(ps:List Str)(sp:Sp):Prop where
 ex : ∃ (f : Addr) (fd : FuncData), (∀ vs H Q E, sp vs H Q E -> vs.length = ps.length) /\ (∀ (A : Around) (outer : List Env) (s : Shared) (H : Hp) (args : Args) (us : List Value) (vs : List V) (Q : VK) (E : XK), Zsm k A -> Env0 P w K mg base A outer s H -> BindsTo s fd args (ps.zip us) -> Vals vs us -> sp vs H Q E ->
  codeAny (model P w) A (.call (.ref f) args) (CR (fun _ _ _ _ _ _ => False) outer P w H s Q E) s) /\ mg x = some (.ref f) /\ W.keepIn K (.ref f) = true /\ Binds K fd ps []
section
variable{P:Program}{w:World}{K:W.Frag}{mg:Str->Option Value}{base:Heap}
theorem Fun.okN{x qual:Str}{st:Stmt}{f:Addr}{fd:FuncData}{N ps:List Str}{k:Nat}{sp:Sp}(F:Fun K x qual st f fd)(S:Zaq N ps (defScope st))(len:∀vs H Q E,sp vs H Q E->vs.length=ps.length)(hm:mg x=some (.ref f))(hkp:W.keepIn K (.ref f)=true)(hb0:Binds K fd ps [])
  (hbody : ∀ (cdv : Value) (A : Around) (outer : List Env) (s : Shared) (H : Hp) (vs : List V) (Q : VK) (E : XK), sp vs H Q E ->
   ∃ t, PSs (cxN P w K mg base N qual (defScope st) f cdv A outer s H) (defBody st) t /\ t { nx := fun _ H' => Q .non H', rt := Q } (start N vs) H) : FnN P w K mg base x (k + 1) ps sp := by
 obtain⟨oc,od,kV,doc,pm,an,cdv,ct,osl,rfl,lk,l⟩:=F.ex;refine⟨f,_,len,fun A outer s H args p vs Q E hr c hb r g=>?_,hm,hkp,hb0⟩;have hl:=len _ _ _ _ g;have m:K.In s.heap:=c.mod.kin.keeps fun b o e=>(c.bs b o e).1
 have j:s.heap.NoLimit:=c.mod.nolimit.keeps fun b o e=>(c.bs b o e).1
 have d:∀y∈ps.zip p,(defScope st).names.lookup y.1=some .local\/((defScope st).names.lookup y.1=some .cell/\((cellsFrom (s.heap.objs.size+ 1) (defScope st).names []).lookup y.1).isSome=true):=fun⟨n,v⟩ hy=>by
  rcases S.par n (List.of_mem_zip hy).1 with q|q
  ·exact .inl q
  ·exact .inr ⟨q,W.cellsFrom_some _ _ _ (.inl q)⟩
 refine codeAny_call_function (by have:=hr.dp;omega) (m _ _ lk) rfl S.co S.gen rfl (W.codeRec_of m l) (hb _ _ _ _ ?_);refine wpAny_newFunctionEnv_cells S.kind d fun env he s1 x=>?_
 subst he;refine⟨j.keeps x.toInCall.keep,codeAny_func ?_⟩;obtain⟨t,ht,hq⟩:=hbody cdv A outer s H vs Q E g;have e1:Env0 P w K mg base {A with handled:=none} outer s H:=⟨c.frames,c.mod,c.bs,c.bsz,c.funs,c.frf,c.hok,c.bare⟩;have a:=Zjh (CX:=CX0) (A:={A with handled:=none}) (E:=fun _ _ _=>False) S rfl e1 hl r x;have I:Inv (cxN P w K mg base N qual (defScope st) f cdv A outer s H) [] (start N vs) H s1:=
  ⟨⟨a.ok.mod,a.ok.kind,a.ok.glob,a.ok.blt,a.ok.above,a.ok.inj,a.ok.has,a.ok.cab,fun z=>(by cases z),Around.frames_deeper c.frames,a.ok.stk,a.ok.exf,a.ok.bs,a.ok.bsz,a.ok.noex,a.ok.exfs,a.ok.funs,a.ok.frf⟩,a.os,a.bare,a.base,a.loc,a.cell,a.free,a.freeC,a.pin,a.hok,a.len⟩
 refine wpAny_mono (ht [] s1 (start N vs) H _ I hq) (fun fl s' hs=>?_) fun e s' hs=>hs.elim
 have h:∀{σ':St} {H':Hp} {v:V} {u:Value},Inv (cxN P w K mg base N qual (defScope st) f cdv A outer s H) [] σ' H' s'->RelV v u->Q v H'->CE outer P w H s Q u s':=
  fun {σ' H' v u} J i q=>⟨v,H',J.os,J.bare,J.base,J.hok,i,q⟩
 cases fl with
 |ret u=>
  obtain⟨v,σ',H',J,i,q⟩:=hs;exact h J i q
 |next=>
  obtain⟨σ',H',J,q⟩:=hs;exact h (v:=V.non) (u:=Value.none) J rfl q
 |brk=>
  obtain⟨_,_,_,q⟩:=hs;exact False.elim q
 |cont=>
  obtain⟨_,_,_,q⟩:=hs;exact False.elim q
end
section
variable{X:Cx}{k:Nat}{ps:List Str}{sp:Sp}{x:Str}{p pos:Pos}{e:Expr}{es:List Expr}{t:TA}
theorem Zo7(F:FnN X.prog X.w X.K X.mg X.base x k ps sp)(hr:Zsm k X.A)(hg:Gl X x)(ha:PA X (e::es) t)(hdb:(x==("__debug__":Str))=false:=by decide)
  (he:starEach (e::es) X.env=(false,eval e X.env)::starEach es X.env:=by rfl) (hpl:(backTo pos (starEach es X.env)).any (·.1)=false:=by rfl):PE X (.Call (.Name x p) (e::es) [] pos) (Zhm sp [] E0 t):=by
 obtain⟨f,fd,i,g,l,n,o⟩:=F.ex;intro pins s σ H Q I h;refine wpAny_Call_Name_kw (Zdo I hg l ?_ hdb);refine W.callWith_K (h₀:=X.base) I.ok.mod.kin n (thn (ha pos pins s σ H _ I h) fun b s1 ⟨vs,H1,c,r,q⟩=>⟨c.kIn,?_⟩) he hpl;have q:sp (vs++[]) H1 Q E0:=q;rw[List.append_nil]at q;have m:b.length=ps.length:=by rw[<-r.length];exact i _ _ _ _ q
 have d:=o s1 b c.kIn (by rw[List.append_nil];exact m);rw[List.append_nil]at d;refine wpAny_call (codeAny_mono (g X.A X.stack s1 H1 ⟨b,[]⟩ b vs Q E0 hr c.env0 d r q) fun j s' a=>?_);cases j with
 |error e=>exact False.elim a
 |ok fl=>
  cases fl with
  |ret u=>exact c.after a
  |next=>exact False.elim a
  |brk=>exact False.elim a
  |cont=>exact False.elim a
end
section
variable{X:Cx}{K:W.Frag}
def Zng:V->List V->Hp->VK->Prop:=fun x vs H Q=>∃z:Str,x= .str z/\vs=[]/\z.length <=5592405/\∀r:Str,r.length <=3*z.length->Q (.str r) H
theorem Zpe:MtR X "str.upper" Zng:=by
 intro pins s σ H x vs v f Q I a b e;obtain⟨z,rfl,rfl,c,q⟩:=e;obtain⟨t,rfl⟩:=(show ∃t,v=Value.str z t from a);cases b.zero;exact SCL.upper c fun d=>⟨.str _,H,I.tok _,⟨_,rfl⟩,q _ d⟩
def Zri:R2:=fun x y H Q=>∃ (z:Str) (n:Int),x= .str z/\y= .int n/\2 <=n/\n <=10000/\1 <=z.length/\z.length <=9/\∀r:Str,r.length <=z.length*n.toNat->Q (.str r) H
theorem Znd(a:Array Nat):∀ (n:Nat) (b:Array Nat),((List.replicate n a).foldl (·++·) b).size=b.size+ a.size*n
 |0,b=>by simp
 |n+ 1,b=>by rw[List.replicate_succ,List.foldl_cons,Znd a n,Array.size_append,Nat.mul_succ];omega
theorem Zh7:OpR X (binaryOp .Mult) Zri:=by
 intro pins s σ H x y v u Q I c b d;obtain⟨z,n,rfl,rfl,h2,h,g,h5,q⟩:=d;obtain⟨t,rfl⟩:=(show ∃t,v=Value.str z t from c);obtain⟨e,rfl⟩:=(show ∃t,u=Value.int n t from b);have f:z.length*n.toNat <=90000:=by
  have:=Nat.mul_le_mul h5 (show n.toNat <=10000 by omega);omega
 refine P.mul_str ?_ (fun _ _=>?_) (fun _ _=>?_) ?_
 ·rw[decide_eq_false (by omega),decide_eq_false (by omega)];rfl
 ·have:(9:Int) <=(2 ^ 63 - 1) / n:=Int.le_ediv_of_mul_le (by omega) (by omega);omega
 ·have:=Zai (n:=z.length*n.toNat) (by omega);unfold Builtin.Str.tooLong
  first|(rw[decide_eq_false];omega)|simpa using this|omega
 ·rw[if_neg (by omega),if_neg (by simp;exact⟨by omega,by omega⟩)];have a:({cps:=(List.replicate n.toNat z.cps).foldl (·++·) #[]}:Str).length=z.length*n.toNat:=by
   show((List.replicate n.toNat z.cps).foldl (·++·) #[]).size=_;rw[Znd];simp;rfl
  refine⟨?_,.str _,H,I.tok _,⟨_,rfl⟩,q _ (Nat.le_of_eq a)⟩;rw[a];exact Zai (by omega)
def Zh3:R2:=fun x y H Q=>∃z p:Str,x= .str p/\y= .str z/\Q (.bl (Builtin.Str.occurrences z p 0 z.length 1).isEmpty) H
theorem Zgi:OpR X (compareOp .NotIn) Zh3:=by
 intro pins s σ H x y v u Q I b a c;obtain⟨z,p,rfl,rfl,q⟩:=c;obtain⟨t,rfl⟩:=(show ∃t,v=Value.str p t from b);obtain⟨d,rfl⟩:=(show ∃t,u=Value.str z t from a);exact P.notIn_str ⟨.bl _,H,I,rfl,by rw[Bool.not_not];exact q⟩
def Zh4:V->List V->Hp->VK->Prop:=fun x vs H Q=>∃l xs i y,x= .ref l/\vs=[.int i,y]/\H l=some (.lst xs)/\0 <=i/\i <=xs.length/\xs.length < 60000/\∀G,But l H G->G l=some (.lst (xs.take i.toNat++[y]++xs.drop i.toNat))->Q .non G
theorem Zio:∀{vs:List V} {us:List Value},Vals vs us->∀n,Vals (vs.take n) (us.take n)
 |_,_,.nil,n=>by simp;exact .nil
 |_,_,.cons r rs,0=>.nil
 |_,_,.cons r rs,n+ 1=>.cons r (Zio rs n)
theorem Ziq:∀{vs:List V} {us:List Value},Vals vs us->∀n,Vals (vs.drop n) (us.drop n)
 |_,_,.nil,n=>by simp;exact .nil
 |_,_,.cons r rs,0=>.cons r rs
 |_,_,.cons r rs,n+ 1=>Ziq rs n
theorem Zhe:MtM X "list.insert" Zh4:=by
 intro pins s σ H x vs v k Q I o p h;obtain⟨l,xs,i,y,rfl,rfl,j,h1,h2,h3,q⟩:=h;cases o;obtain⟨u,f,rfl,w,m⟩:∃u f,k=[u,f]/\RelV (.int i) u/\RelV y f:=by
  cases p with
  |cons a b=>cases b with
   |cons c d=>cases d;exact⟨_,_,rfl,a,c⟩
 obtain⟨t,rfl⟩:=(show ∃t,u=Value.int i t from w);obtain⟨z,g,n,r,hl,e⟩:=I.lstM j;have aa:=Zai (n:=xs.length) (by omega);refine call_meets F.slot_list_insert ⟨_,e,rfl⟩ F.entry_list_insert (F.args_list_insert_3 _ _ _) (AutoSeq1.list_insert_list_int_val_1 l g.toArray n i t f ?_ (by rw[List.size_toArray];omega)) ⟨e,?_⟩
 ·have:i < 2 ^ 63:=by omega
  unfold Builtin.List.listFitsIndex;simp;omega
 ·refine⟨.non,_,I.lset (its':=g.take i.toNat++[f]++g.drop i.toNat) j e ?_ (((Zio r _).append (.cons m .nil)).append (Ziq r _)) ?_,rfl,q _ But.upd Zan⟩
  ·simp only;rw[if_neg (by omega),Nat.min_eq_left (by rw[List.size_toArray];omega)];apply Array.toList_inj.mp;simp;exact List.take_of_length_le (by rw[List.length_drop];omega)
  ·have:=Zai (n:=xs.length+ 1) (by omega);simp only[List.length_append,List.length_take,List.length_drop,List.length_singleton];omega
end
end L2
namespace Mine
open PySem L2 PyProof.Rows
local macro_rules | `(tactic| walk_at "rd") => `(tactic| ((try dsimp only [Zm3, Zj3, Zng, Zri, Zh3, Zh4, Znm, Zus, Zp6, Zs7, Zq2, tUp, Zve, Zkj, Zvi, Zv3, Zuw, Zk2, Zp3, tC, tOp, tUn, Zj4, tB, Zs3, Zva, Zsy, Zq6, Zhm, Zs2, Zs0, Zq7, Zut, tCB, Zu9, Zv0, Zvd, tOr, Zvc, Zq9, Zvb, Zq1, tIf, Zlj, Zuu, Zux, tBM, Zuv, Zvo, Zu3, Zsb, Zvp, tSl, Zq0, Zj5, rI, rI0, rU, rEq, rNe, Zrn, Zvf, Zvn, Zpk, Zr8, Zuj, Zq8, Zu8, capSt, Zu0, Zuz, Ztm, Zno, Zns, Zrh, Zvh, Zuy, cxK, L2.start, List.map_cons, List.map_nil, List.length_cons, List.length_nil, List.replicate, List.cons_append, List.nil_append, List.getElem?_cons_zero, List.getElem?_cons_succ, List.set_cons_zero, List.set_cons_succ, Option.bind_some, Option.bind_none, Option.join_some, Zq3, Zqz, Zrq, Ztf, Zlu, Zrg, Zlx, Zlv, Zth, Znr, Zni, Zta, Zm6, Zq5, Zvz, Zro, Zqe, Ztd, Zte, Zki, Zuk, Zv7, Zqq, Znp, Zv6, Zqb, Ztp, Zqh, Ztk, Ztn, Znk, Znj, Zlh, Zm4, Zm5, Zrm, Zrl, Znh, Znn, Zkh, Zvg, Zrf, Zrp, Zlg, Ztc, Zp5, Ztg, Zto, Zlw, Zqa, Zm7, Znl, Zqf, Zs4, Zli, Zr7, Zp4, Zs6, Ztj, Zsz, Zrj, Zs1, Zrk, Zqg, Znq, Ztl, Zm8, Zqc, Ztm]); (try simp only [Zm3, Zj3, Zng, Zri, Zh3, Zh4, Znm, Zus, Zp6, Zs7, Zq2, tUp, Zve, Zkj, Zvi, Zv3, Zuw, Zk2, Zp3, tC, tOp, tUn, Zj4, tB, Zs3, Zva, Zsy, Zq6, Zhm, Zs2, Zs0, Zq7, Zut, tCB, Zu9, Zv0, Zvd, tOr, Zvc, Zq9, Zvb, Zq1, tIf, Zlj, Zuu, Zux, tBM, Zuv, Zvo, Zu3, Zsb, Zvp, tSl, Zq0, Zj5, rI, rI0, rU, rEq, rNe, Zrn, Zvf, Zvn, Zpk, Zr8, Zuj, Zq8, Zu8, Zq4, capSt, Zu0, Zuz, Ztm, Zno, Zns, Zrh, Zvh, Zuy, cxK, L2.start, List.map_cons, List.map_nil, List.length_cons, List.length_nil, Nat.reduceAdd, Nat.reduceSub, List.replicate, List.cons_append, List.nil_append, List.append_nil, List.getElem?_cons_zero, List.getElem?_cons_succ, List.set_cons_zero, List.set_cons_succ, Option.some.injEq, V.int.injEq, V.bl.injEq, V.str.injEq, V.ref.injEq, V.ty.injEq, exists_eq_left', exists_eq_left, exists_and_left, and_assoc, and_true, true_and, List.cons.injEq, exists_eq, exists_eq', Option.bind_some, Option.bind_none, Option.join_some, exists_const, Nat.reduceLT, Nat.reduceLeDiff, if_true, Bool.false_eq_true, if_false, Bool.not_true, Bool.not_false, reduceCtorEq, false_and, and_false, exists_false, Zq3, Zqz, Zrq, Ztf, Zlu, Zrg, Zlx, Zlv, Zth, Znr, Zni, Zta, Zm6, Zq5, Zvz, Zro, Zqe, Ztd, Zte, Zki, Zuk, Zv7, Zqq, Znp, Zv6, Zqb, Ztp, Zqh, Ztk, Ztn, Znk, Znj, Zlh, Zm4, Zm5, Zrm, Zrl, Znh, Znn, Zkh, Zvg, Zrf, Zrp, Zlg, Ztc, Zp5, Ztg, Zto, Zlw, Zqa, Zm7, Znl, Zqf, Zs4, Zli, Zr7, Zp4, Zs6, Ztj, Zsz, Zrj, Zs1, Zrk, Zqg, Znq, Ztl, Zm8, Zqc, Ztm, Zqy, Zsx, Zqv, Zqw])))
local macro_rules | `(tactic| walk_at "ne") => `(tactic| first | assumption | (apply Ne.symm; assumption) | grind [Same, But])
local macro_rules | `(tactic| walk_at "hp") => `(tactic| first | assumption | exact Zan | (refine Same.get (by assumption) ?_; walk_at "hp") | (refine But.get (by assumption) ?_ ?_; (· walk_at "hp"); (· walk_at "ne")))
def top(i:Nat):Stmt:=PySem.Challenge.pw_pieceways_k52_whole_any_text.main.body.getD i (.Pass ⟨0,0,0,0⟩)
structure Cn(mg:Str->Option Value):Prop where
 c_MOST_NUMBER:∃t,mg "MOST_NUMBER"=some (.int 65535 t)
 c_MOST_BYTE:∃t,mg "MOST_BYTE"=some (.int 255 t)
 c_MOST_SIGNS:∃t,mg "MOST_SIGNS"=some (.int 8 t)
 c_MOST_BYTES:∃t,mg "MOST_BYTES"=some (.int 4000 t)
 c_MOST_FIGURES:∃t,mg "MOST_FIGURES"=some (.int 12 t)
 c_STEP:∃t,mg "STEP"=some (.int 8 t)
 c_BASE:∃t,mg "BASE"=some (.int 16 t)
 c_WORDS_OF_A_PIECE:∃t,mg "WORDS_OF_A_PIECE"=some (.int 7 t)
 c_WORDS_OF_A_LETTER:∃t,mg "WORDS_OF_A_LETTER"=some (.int 5 t)
 c_HALVES:∃t,mg "HALVES"=some (.str "0123456789abcdef" t)
 c_NO_SIGN:∃t,mg "NO_SIGN"=some (.str "." t)
 c_MORE_SIGN:∃t,mg "MORE_SIGN"=some (.str "+" t)
 c_KEEP_SIGN:∃t,mg "KEEP_SIGN"=some (.str "!" t)
section
variable{P:Program}{w:World}{K:W.Frag}{mg:Str->Option Value}{base:Heap}
def Zdy:Sp:=fun vs H Q _=>∃x n,vs=[x]/\tyF H x=some n/\Q (.bl (isI x)) H
abbrev Zc3:Stmt:=top 7
theorem Zkc:Zaq ["value"] ["value"] (defScope Zc3):=⟨rfl,rfl,rfl,by decide +kernel,rfl,by decide +kernel,by decide +kernel⟩
theorem Zkw{f:Addr}{fd:FuncData}(F:Fun K "is_whole" "is_whole" Zc3 f fd)(B:Bt mg):FnOk P w K mg base CX0 1 f fd ["value"] Zdy:=by
 refine F.ok Zkc (fun vs H Q E h=>?_) (fun a A outer s H vs Q E b h=>?_)
 ·obtain⟨x,n,rfl,_⟩:=h;rfl
 ·obtain⟨x,n,rfl,ty,q⟩:=h;refine⟨_,(Zag (Zat (Zb5 (Zas (Zds "int") rfl B.isinstance (by rfl) (pa_cons (hs:=Zab) (pv 0) (pa_cons (hs:=Zab) (Zex (v:=.ty "int") rfl B.bint (by rfl) rfl) Zac))) (Zde (Zql (Zas (Zds "bool") rfl B.isinstance (by rfl) (pa_cons (hs:=Zab) (pv 0) (pa_cons (hs:=Zab) (Zex (v:=.ty "bool") rfl B.bbool (by rfl) rfl) Zac)))))))),?_⟩;walk_at "rd";refine⟨n,ty,?_⟩;rw[Zsv ty];refine Zpj (fun h=>⟨n,ty,?_⟩) (fun h=>?_)
  ·rw[Zm0 ty];have e:(!isB x)=isI x:=by cases x <;> first|rfl|(simp[isI,isB]at h)
   rw[e];exact q
  ·have e:isI x=false:=by cases x <;> first|rfl|(simp[isI,isB]at h)
   rw[e]at q;exact q
def Zbq:Sp:=fun vs H Q _=>∃x n lo hi,vs=[x,.int lo,.int hi]/\tyF H x=some n/\Q (.bl (wIn x lo hi)) H
abbrev Zba:Stmt:=top 8
theorem Ze3:Zaq ["value","low","high"] ["value","low","high"] (defScope Zba):=⟨rfl,rfl,rfl,by decide +kernel,rfl,by decide +kernel,by decide +kernel⟩
theorem Ze8{f:Addr}{fd:FuncData}(F:Fun K "is_whole_within" "is_whole_within" Zba f fd)(F_is_whole:FnB P w K mg base "is_whole" 1 ["value"] [] Zdy):FnOk P w K mg base CX0 2 f fd ["value","low","high"] Zbq:=by
 refine F.ok Ze3 (fun vs H Q E h=>?_) (fun b A outer s H vs Q E a h=>?_)
 ·obtain⟨x,n,lo,hi,rfl,_⟩:=h;rfl
 ·obtain⟨x,n,lo,hi,rfl,ty,q⟩:=h;refine⟨_,(Zag (Zat (Zb5 (Zaf F_is_whole (a.mono (by decide)) rfl (pa_cons (hs:=Zab) (pv 0) Zac)) (Zde (Zf1 Zfr Zfr (pv 1) (pv 0) (pv 2)))))),?_⟩;walk_at "rd";refine⟨x,n,rfl,ty,_,rfl,?_⟩;refine Zpj (fun h=>?_) (fun h=>?_)
  ·cases x <;> first|(simp[isI]at h;done)|skip
   rename_i i
   walk_at "rd"
   by_cases h1:lo <=i
   ·simp only[h1,decide_true,if_true];simpa[wIn,h1] using q
   ·simp only[h1,decide_false,Bool.false_eq_true,if_false];simpa[wIn,h1] using q
  ·have e:wIn x lo hi=false:=by cases x <;> first|rfl|(simp[isI]at h)
   rw[e]at q;exact q
def Zdz:Sp:=fun vs H Q _=>∃x n,vs=[x]/\tyF H x=some n/\Q (.bl (isB x)) H
abbrev Zc4:Stmt:=top 9
theorem Zkd:Zaq ["value"] ["value"] (defScope Zc4):=⟨rfl,rfl,rfl,by decide +kernel,rfl,by decide +kernel,by decide +kernel⟩
theorem Zkx{f:Addr}{fd:FuncData}(F:Fun K "is_truth" "is_truth" Zc4 f fd)(B:Bt mg):FnOk P w K mg base CX0 1 f fd ["value"] Zdz:=by
 refine F.ok Zkd (fun vs H Q E h=>?_) (fun a A outer s H vs Q E b h=>?_)
 ·obtain⟨x,n,rfl,_⟩:=h;rfl
 ·obtain⟨x,n,rfl,ty,q⟩:=h;refine⟨_,(Zag (Zat (Zas (Zds "bool") rfl B.isinstance (by rfl) (pa_cons (hs:=Zab) (pv 0) (pa_cons (hs:=Zab) (Zex (v:=.ty "bool") rfl B.bbool (by rfl) rfl) Zac))))),?_⟩;walk_at "rd";exact⟨n,ty,by rw[Zm0 ty];exact q⟩
def Zd7:Sp:=fun vs H Q _=>∃x n,vs=[x]/\tyF H x=some n/\Q (.bl (wIn x 0 65535)) H
abbrev Zch:Stmt:=top 10
theorem Zix:Zaq ["value"] ["value"] (defScope Zch):=⟨rfl,rfl,rfl,by decide +kernel,rfl,by decide +kernel,by decide +kernel⟩
theorem Zi8{f:Addr}{fd:FuncData}(F:Fun K "is_number" "is_number" Zch f fd)(T:Cn mg)(F_is_whole_within:FnB P w K mg base "is_whole_within" 2 ["value","low","high"] [] Zbq):FnOk P w K mg base CX0 3 f fd ["value"] Zd7:=by
 refine F.ok Zix (fun vs H Q E h=>?_) (fun b A outer s H vs Q E a h=>?_)
 ·obtain⟨x,n,rfl,_⟩:=h;rfl
 ·obtain⟨x,n,rfl,ty,q⟩:=h;refine⟨_,(Zag (Zat (Zaf F_is_whole_within (a.mono (by decide)) rfl (pa_cons (hs:=Zab) (pv 0) (pa_cons (hs:=Zaa) Zad (pa_cons (hs:=Zab) (Zb8 rfl T.c_MOST_NUMBER) Zac)))))),?_⟩;walk_at "rd";exact⟨x,n,0,65535,rfl,ty,q⟩
def Zfg:Sp:=fun vs H Q _=>∃x n,vs=[x]/\tyF H x=some n/\Q (.bl (wIn x 0 255)) H
abbrev Zdr:Stmt:=top 12
theorem Zmh:Zaq ["value"] ["value"] (defScope Zdr):=⟨rfl,rfl,rfl,by decide +kernel,rfl,by decide +kernel,by decide +kernel⟩
theorem Zmo{f:Addr}{fd:FuncData}(F:Fun K "is_byte" "is_byte" Zdr f fd)(T:Cn mg)(F_is_whole_within:FnB P w K mg base "is_whole_within" 2 ["value","low","high"] [] Zbq):FnOk P w K mg base CX0 3 f fd ["value"] Zfg:=by
 refine F.ok Zmh (fun vs H Q E h=>?_) (fun b A outer s H vs Q E a h=>?_)
 ·obtain⟨x,n,rfl,_⟩:=h;rfl
 ·obtain⟨x,n,rfl,ty,q⟩:=h;refine⟨_,(Zag (Zat (Zaf F_is_whole_within (a.mono (by decide)) rfl (pa_cons (hs:=Zab) (pv 0) (pa_cons (hs:=Zaa) Zad (pa_cons (hs:=Zab) (Zb8 rfl T.c_MOST_BYTE) Zac)))))),?_⟩;walk_at "rd";exact⟨x,n,0,255,rfl,ty,q⟩
def Zff:Sp:=fun vs H Q _=>∃x n,vs=[x]/\tyF H x=some n/\(∀z,x= .str z->z.length <=100000)/\∀H',Same H H'->Q (.bl (isNm x)) H'
abbrev Zdc:Stmt:=top 11
theorem Zmg:Zaq ["value"] ["value"] (defScope Zdc):=⟨rfl,rfl,rfl,by decide +kernel,rfl,by decide +kernel,by decide +kernel⟩
theorem Zmn{f:Addr}{fd:FuncData}(F:Fun K "is_name" "is_name" Zdc f fd)(T:Cn mg)(B:Bt mg):FnOk P w K mg base CX0 1 f fd ["value"] Zff:=by
 refine F.ok Zmg (fun vs H Q E h=>?_) (fun cdv A outer s H vs Q E hr h=>?_)
 ·obtain⟨x,n,rfl,_⟩:=h;rfl
 ·obtain⟨x,n,rfl,ty,y,q⟩:=h;refine⟨_,(Zae (Zbo (PW.pt (Zew (Zca (Zby (Zas (Zds "str") rfl B.isinstance (by rfl) (pa_cons (hs:=Zab) (pv 0) (pa_cons (hs:=Zab) (Zex (v:=.ty "str") rfl B.bstr (by rfl) rfl) Zac))))) (Zea (Zca (Zh5 Zfr Zfr Zad (Zas Zbe rfl B.len (by rfl) (pa_cons (hs:=Zab) (pv 0) Zac)) (Zb8 rfl T.c_MOST_SIGNS)))))) (Zag (Zat Ze6)) Za0) (Zag (Zat (Zas (Zfb (K:=K) rfl rfl) rfl B.all (by rfl) (pa_cons (hs:=Zcb) (Zdf (N':=["sign"]) (caps:=[none]) (Zgs (sc:=defScope Zdc) (N:=["value"]) rfl rfl (by decide +kernel)) rfl (Zhc (pv 0)) (fun _ _ _ _ _=>(Zcj (i:=0) (Zgl (N:=["sign"]) rfl (by decide +kernel)) rfl (Or.inl rfl))) (fun _ _ _ _ _=>Zeb) (fun _ _ _ _ _=>(Zf1 Zl1 Zl1 Zaj (pv 0) Zaj))) Zac))))),?_⟩;walk_at "rd";refine⟨n,ty,?_⟩;rw[Zp0 ty];cases x <;> first
   |(simp only[isS,Bool.not_false,if_true];exact q H (Same.refl H))
   |skip
  rename_i z
  have j:=y z rfl;simp only[isS,Bool.not_true,Bool.false_eq_true,if_false];walk_at "rd";refine⟨Zai j,?_⟩;have l:∀b,isNm (.str z)=b->∀H',Same H H'->Q (.bl b) H':=fun b e H' s=>e▸q H' s
  by_cases h1:1 <=z.length
  ·have g:(1:Int) <=(z.length:Int):=by omega
   simp only[g,decide_true,if_true]
   by_cases h2:z.length <=8
   ·have d:(z.length:Int) <=8:=by omega
    simp only[d,decide_true,Bool.not_true,Bool.false_eq_true,if_false];have o:z.cps.size=z.length:=rfl;obtain⟨m,a⟩:∃m:Nat->List V->L2.St->Hp->Prop,m=fun i ys σ' H1=>H1=H/\i <=z.cps.size/\ys=(z.cps.toList.take i).map (fun c=>V.bl (smallC c))/\∃v,σ'=[v]:=⟨_,rfl⟩
    refine Zf6 m (by rw[a];exact⟨rfl,Nat.zero_le _,by simp,none,rfl⟩) ?_ (by rw[o];exact Zai j) ?_ ?_ <;> rw[a]
    ·rintro i ys σ' H1 ⟨_,hi,rfl,_⟩ _;simp only[List.length_map,List.length_take];omega
    ·rintro i c ys σ' H1 r ⟨rfl,hi,rfl,v,rfl⟩;rw[<-a];have k:i < z.cps.size:=(Array.getElem?_eq_some_iff.mp r).1;walk_at "rd";obtain⟨e1,e2⟩:=Zrc c;rw[e1,e2];have t:z.cps.toList.take (i+ 1)=z.cps.toList.take i++[c]:=by
      rw[List.take_add_one];have:z.cps.toList[i]?=some c:=by rw[Array.getElem?_toList];exact r
      rw[this];rfl
     have u:V.bl (smallC c)=V.bl (decide (97 <=c) && decide (c <=122)):=rfl
     by_cases k1:97 <=c
     ·simp only[k1,decide_true,if_true];rw[a];exact⟨rfl,k,by rw[t,List.map_append,List.map_cons,List.map_nil,u];simp[k1],_,rfl⟩
     ·simp only[k1,decide_false,Bool.false_eq_true,if_false];rw[a];exact⟨rfl,k,by rw[t,List.map_append,List.map_cons,List.map_nil,u];simp[k1],_,rfl⟩
    ·rintro ys σ' H1 ⟨rfl,_,rfl,_⟩ p hp;walk_at "rd";refine⟨z.cps.toList.map smallC,SqL.of ?_,?_⟩
     ·rw[Zan];have:z.cps.toList.take z.cps.size=z.cps.toList:=by rw[List.take_of_length_le];simp
      rw[this,List.map_map];rfl
     ·refine l _ ?_ _ (Same.new (Same.refl _) hp);simp only[isNm,h1,h2,decide_true,Bool.true_and,List.all_map];rfl
   ·have d:¬(z.length:Int) <=8:=by omega
    simp only[d,decide_false,Bool.not_false,if_true];exact l _ (by simp[isNm,h2]) H (Same.refl H)
  ·have g:¬(1:Int) <=(z.length:Int):=by omega
   simp only[g,decide_false,Bool.false_eq_true,if_false,Bool.not_false,if_true,true_and,exists_eq_left'];exact l _ (by simp[isNm,h1]) H (Same.refl H)
def Plains(H:Hp)(x:V):Prop:=∀a xs,x= .ref a->H a=some (.lst xs)->xs.length <=100000/\∀y∈xs,∃n,tyF H y=some n
def Zfh:Sp:=fun vs H Q _=>∃x n,vs=[x]/\tyF H x=some n/\Plains H x/\∀H',Same H H'->Q (.bl (isBd H x)) H'
abbrev Zdd:Stmt:=top 13
theorem Zmi:Zaq ["value"] ["value"] (defScope Zdd):=⟨rfl,rfl,rfl,by decide +kernel,rfl,by decide +kernel,by decide +kernel⟩
theorem Zmp{f:Addr}{fd:FuncData}(F:Fun K "is_body" "is_body" Zdd f fd)(T:Cn mg)(B:Bt mg)(F_is_byte:FnB P w K mg base "is_byte" 3 ["value"] [] Zfg):FnOk P w K mg base CX0 4 f fd ["value"] Zfh:=by
 refine F.ok Zmi (fun vs H Q E h=>?_) (fun cdv A outer s H vs Q E u h=>?_)
 ·obtain⟨x,n,rfl,_⟩:=h;rfl
 ·obtain⟨x,n,rfl,ty,t,q⟩:=h;refine⟨_,(Zae (Zbo (PW.pt (Zew (Zca (Zby (Zas (Zds "list") rfl B.isinstance (by rfl) (pa_cons (hs:=Zab) (pv 0) (pa_cons (hs:=Zab) (Zex (v:=.ty "list") rfl B.blist (by rfl) rfl) Zac))))) (Zea (Zca (Zh5 Zfr Zfr Zad (Zas (Zbt (K:=K) rfl) rfl B.len (by rfl) (pa_cons (hs:=Zab) (pv 0) Zac)) (Zb8 rfl T.c_MOST_BYTES)))))) (Zag (Zat Ze6)) Za0) (Zag (Zat (Zas (Zfb (K:=K) rfl rfl) rfl B.all (by rfl) (pa_cons (hs:=Zcb) (Zdf (N':=["part"]) (caps:=[none]) (Zgs (sc:=defScope Zdd) (N:=["value"]) rfl rfl (by decide +kernel)) rfl (Zlz (K:=K) rfl (pv 0)) (fun _ _ _ _ _=>(Zcj (i:=0) (Zgl (N:=["part"]) rfl (by decide +kernel)) rfl (Or.inl rfl))) (fun _ _ _ _ _=>Zeb) (fun _ _ _ _ _=>(Zaf F_is_byte (u.mono (by decide)) rfl (pa_cons (hs:=Zab) (pv 0) Zac)))) Zac))))),?_⟩;walk_at "rd";refine⟨n,ty,?_⟩;rw[Zqu ty];cases hL:isL H x with
  |false=>
   simp only[Bool.not_false,if_true];have e:=Zob hL;rw[e]at q;exact q H (Same.refl H)
  |true=>
   obtain⟨a,xs,rfl,c⟩:=Zqp hL;obtain⟨k,o⟩:=t a xs rfl c;rw[Zl7 c]at q;simp only[Bool.not_true,Bool.false_eq_true,if_false];walk_at "rd";refine⟨xs,.inl (SqL.of c),?_⟩
   by_cases h1:1 <=xs.length
   ·have g:(1:Int) <=(xs.length:Int):=by omega
    simp only[g,decide_true,if_true]
    by_cases h2:xs.length <=4000
    ·have d:(xs.length:Int) <=4000:=by omega
     simp only[d,decide_true,Bool.not_true,Bool.false_eq_true,if_false];refine⟨⟨xs,SqL.of c⟩,?_⟩;obtain⟨l,b⟩:∃l:Nat->List V->L2.St->Hp->Prop,l=fun i ys σ' H1=>H1=H/\i <=xs.length/\ys=(xs.take i).map (fun y=>V.bl (wIn y 0 255))/\∃v,σ'=[v]:=⟨_,rfl⟩
     refine Zjn (xs:=xs) l (by rw[b];exact⟨rfl,Nat.zero_le _,by simp,none,rfl⟩) ?_ (Zai k) ?_ ?_ <;> rw[b]
     ·rintro i ys σ' H1 ⟨rfl,hi,rfl,_⟩ _;refine⟨SqL.of c,?_⟩;simp only[List.length_map,List.length_take];omega
     ·rintro i y ys σ' H1 j ⟨rfl,hi,rfl,v,rfl⟩;rw[<-b];have r:i < xs.length:=(List.getElem?_eq_some_iff.mp j).1;obtain⟨m,hm⟩:=o y (List.mem_of_getElem? j);walk_at "rd";refine⟨y,m,rfl,hm,?_⟩;rw[b];refine⟨rfl,r,?_,_,rfl⟩;rw[List.take_add_one,j,Option.toList_some,List.map_append,List.map_cons,List.map_nil]
     ·rintro ys σ' H1 ⟨rfl,_,rfl,_⟩ p z;walk_at "rd";refine⟨xs.map (fun y=>wIn y 0 255),SqL.of ?_,?_⟩
      ·rw[Zan,List.take_of_length_le (Nat.le_refl _),List.map_map];rfl
      ·have e:(xs.map (fun y=>wIn y 0 255)).all id=(decide (1 <=xs.length) && decide (xs.length <=4000) && xs.all (fun y=>wIn y 0 255)):=by
        simp only[h1,h2,decide_true,Bool.true_and,List.all_map];rfl
       rw[e];exact q _ (Same.new (Same.refl _) z)
    ·have d:¬(xs.length:Int) <=4000:=by omega
     simp only[d,decide_false,Bool.not_false,if_true];simp only[h2,decide_false,Bool.and_false,Bool.false_and]at q;exact q H (Same.refl H)
   ·have g:¬(1:Int) <=(xs.length:Int):=by omega
    simp only[g,decide_false,Bool.false_eq_true,if_false,Bool.not_false,if_true,true_and,exists_eq_left'];simp only[h1,decide_false,Bool.false_and]at q;exact q H (Same.refl H)
def goodParts(H:Hp)(number sender goal body keep:V):Bool:=wIn number 0 65535 && (isNm sender && (isNm goal && (isBd H body && isB keep)))
structure Zek(H:Hp)(number sender goal body keep:V):Prop where
 n:∃t,tyF H number=some t
 s:∃t,tyF H sender=some t
 sl:∀z,sender= .str z->z.length <=100000
 g:∃t,tyF H goal=some t
 gl:∀z,goal= .str z->z.length <=100000
 b:∃t,tyF H body=some t
 bp:Plains H body
 k:∃t,tyF H keep=some t
theorem Zjf{H H':Hp}(s:Same H H'){x:V}{n:String}(ty:tyF H x=some n):isBd H' x=isBd H x:=by
 cases x with
 |ref a=>
  have ty:(H a).bind tyO=some n:=ty;cases e:H a with
  |none=>rw[e]at ty;cases ty
  |some o=>
   show(match H' a with|some (.lst xs)=>_|_=>false)=(match H a with|some (.lst xs)=>_|_=>false);rw[s a o e,e]
 |_=>rfl
theorem Plains.same{H H':Hp}(s:Same H H'){x:V}{n:String}(ty:tyF H x=some n)(h:Plains H x):Plains H' x:=by
 intro a xs ex f;subst ex;have b:(H a).bind tyO=some n:=ty;cases e:H a with
 |none=>rw[e]at b;cases b
 |some o=>
  have:=s a o e;rw[f]at this;cases this;obtain⟨h1,h2⟩:=h a xs rfl e;exact⟨h1,fun y c=>by obtain⟨m,d⟩:=h2 y c;exact⟨m,Zcu s d⟩⟩
def Zbi:Sp:=fun vs H Q _=>∃number sender goal body keep,vs=[number,sender,goal,body,keep]/\Zek H number sender goal body keep/\∀H',Same H H'->Q (.bl (goodParts H number sender goal body keep)) H'
abbrev Za8:Stmt:=top 30
theorem Zeu:Zaq ["number","sender","goal","body","keep"] ["number","sender","goal","body","keep"] (defScope Za8):=⟨rfl,rfl,rfl,by decide +kernel,rfl,by decide +kernel,by decide +kernel⟩
theorem Zey{f:Addr}{fd:FuncData}(F:Fun K "are_shared_parts" "are_shared_parts" Za8 f fd)(F_is_number:FnB P w K mg base "is_number" 3 ["value"] [] Zd7)(F_is_name:FnB P w K mg base "is_name" 1 ["value"] [] Zff)
  (F_is_body:FnB P w K mg base "is_body" 4 ["value"] [] Zfh) (F_is_truth:FnB P w K mg base "is_truth" 1 ["value"] [] Zdz):FnOk P w K mg base CX0 5 f fd ["number","sender","goal","body","keep"] Zbi:=by
 refine F.ok Zeu (fun vs H Q E h=>?_) (fun cdv A outer s H vs Q E i h=>?_)
 ·obtain⟨a,b,c,d,e,rfl,_⟩:=h;rfl
 ·obtain⟨v,u,go,bo,x,rfl,⟨⟨t,y⟩,⟨r,hs⟩,n,⟨tg,hg⟩,o,⟨tb,l⟩,p,⟨tk,z⟩⟩,q⟩:=h;refine⟨_,(Zag (Zat (Zb5 (Zaf F_is_number (i.mono (by decide)) rfl (pa_cons (hs:=Zab) (pv 0) Zac)) (Zb5 (Zaf F_is_name (i.mono (by decide)) rfl (pa_cons (hs:=Zab) (pv 1) Zac)) (Zb5 (Zaf F_is_name (i.mono (by decide)) rfl (pa_cons (hs:=Zab) (pv 2) Zac)) (Zb5 (Zaf F_is_body (i.mono (by decide)) rfl (pa_cons (hs:=Zab) (pv 3) Zac)) (Zde (Zaf F_is_truth (i.mono (by decide)) rfl (pa_cons (hs:=Zab) (pv 4) Zac))))))))),?_⟩;walk_at "rd";unfold goodParts at q;refine⟨v,t,rfl,y,_,rfl,Zpj (fun h1=>?_) (fun h1=>?_)⟩
  ·refine⟨u,r,rfl,hs,n,fun H1 s1=>⟨_,rfl,Zpj (fun h2=>?_) (fun h2=>?_)⟩⟩
   ·refine⟨go,tg,rfl,Zcu s1 hg,o,fun H2 s2=>⟨_,rfl,Zpj (fun k=>?_) (fun k=>?_)⟩⟩
    ·have g:=s1.trans s2;refine⟨bo,tb,rfl,Zcu g l,p.same g l,fun H3 m=>⟨_,rfl,Zpj (fun j=>?_) (fun j=>?_)⟩⟩
     ·refine⟨x,tk,rfl,Zcu (g.trans m) z,?_⟩;rw[Zjf g l]at j;simp only[h1,h2,k,j,Bool.true_and]at q;exact q _ (g.trans m)
     ·rw[Zjf g l,Bool.not_eq_true]at j;simp only[h1,h2,k,j,Bool.true_and,Bool.false_and]at q;exact q _ (g.trans m)
    ·rw[Bool.not_eq_true]at k;simp only[h1,h2,k,Bool.true_and,Bool.false_and]at q;exact q _ (s1.trans s2)
   ·rw[Bool.not_eq_true]at h2;simp only[h1,h2,Bool.true_and,Bool.false_and]at q;exact q _ s1
  ·rw[Bool.not_eq_true]at h1;simp only[h1,Bool.false_and]at q;exact q H (Same.refl H)
end
section
theorem Zay{f:Str}{v:V}{fs:List (Str×V)}{n:Nat}(h:fs.length <=n):(putF f v fs).length <=n+ 1:=Nat.le_trans (Zez f v fs) (Nat.succ_le_succ h)
theorem Zak{f g:Str}{v:V}{fs:List (Str×V)}(h:¬g=f):(putF f v fs).lookup g=fs.lookup g:=by rw[Zd1,if_neg h]
theorem Zct{f:Str}{v:V}{fs:List (Str×V)}:(putF f v fs).lookup f=some v:=by rw[Zd1,if_pos rfl]
end
section
variable{P:Program}{w:World}{K:W.Frag}{mg:Str->Option Value}{base:Heap}
structure Zso(K:W.Frag)(C:Addr):Prop where
 cl:Cls K C
 number:NoAttr K C "number"
 sender:NoAttr K C "sender"
 goal:NoAttr K C "goal"
 body:NoAttr K C "body"
 keep:NoAttr K C "keep"
structure LetterAt(C:Addr)(H:Hp)(p:Addr)(nu se go bo ke:V):Prop where
 ex:∃dx fs,H p=some (.ins C dx fs)/\fs.lookup ("number":Str)=some nu/\fs.lookup ("sender":Str)=some se/\fs.lookup ("goal":Str)=some go/\fs.lookup ("body":Str)=some bo/\fs.lookup ("keep":Str)=some ke/\
  fs.lookup ("key":Str)=none/\fs.lookup ("is_like":Str)=none
def Zc9(C CN:Addr):Sp:=fun vs H Q E=>∃p dx nu se go bo ke,vs=[.ref p,nu,se,go,bo,ke]/\H p=some (.ins C dx [])/\Zek H nu se go bo ke/\
 (goodParts H nu se go bo ke=true->∀b xs H' b',bo= .ref b->H b=some (.lst xs)->H b'=none->b'≠p->H' b'=some (.lst xs)->LetterAt C H' p nu se go (.ref b') ke->But p H H'->Q .non H')/\
 (goodParts H nu se go bo ke=false->∀H',Same H H'->E (.ref CN) none H')
theorem Zjg{H:Hp}{x:V}(h:isBd H x=true):∃b xs,x= .ref b/\H b=some (.lst xs):=by
 cases e:isL H x with
 |true=>exact Zqp e
 |false=>rw[Zob e]at h;cases h
abbrev Za5:Stmt:=Zii (top 33) 0
theorem Zg0:Zaq ["self","number","sender","goal","body","keep"] ["self","number","sender","goal","body","keep"] (defScope Za5):=⟨rfl,rfl,rfl,by decide +kernel,rfl,by decide +kernel,by decide +kernel⟩
theorem Zgk {f C CN : Addr} {fd : FuncData} (F : ∃ (oc : Value) (od : Option Addr) (dV kV doc pm : Value) (an : Option Addr) (cdv ct : Value) (osl : Array (Option Value)),
  fd = W.fnOf "__init__" "Letter.__init__" (Zao Za5) (defBody Za5) (defScope Za5) dV kV doc pm an cdv ct /\ K.lookup f = some ⟨oc, od, .func fd, osl⟩ /\ W.codeIn K cdv "Letter.__init__" = true) (L : Zso K C) (B : Bt mg) (X_NoLetter : XC K mg "NoLetter" CN)
  (F_are_shared_parts:FnB P w K mg base "are_shared_parts" 5 ["number","sender","goal","body","keep"] [] Zbi):FnOk P w K mg base (CXp P w) 6 f fd ["self","number","sender","goal","body","keep"] (Zc9 C CN):=by
 obtain⟨oc,od,dV,kV,doc,pm,an,cdv,ct,osl,rfl,lk,hcd⟩:=F;refine Zpq lk hcd Zg0 (fun vs H Q E h=>?_) (fun A outer s H vs Q E hr h=>?_)
 ·obtain⟨p,dx,r,n,v,k,t,rfl,_⟩:=h;rfl
 ·obtain⟨p,dx,r,n,v,k,t,rfl,hp,x,q,qx⟩:=h;refine⟨_,(Zae (Zbo (Zca (Zby (Zaf F_are_shared_parts (hr.mono (by decide)) rfl (pa_cons (hs:=Zab) (pv 1) (pa_cons (hs:=Zab) (pv 2) (pa_cons (hs:=Zab) (pv 3) (pa_cons (hs:=Zab) (pv 4) (pa_cons (hs:=Zab) (pv 5) Zac)))))))) (Zag (Zgf Zgm rfl rfl X_NoLetter Zaj)) Za0) (Zae (Zcr (K:=K) rfl (pv 0) (pv 1) rfl) (Zae (Zcr (K:=K) rfl (pv 0) (pv 2) rfl) (Zae (Zcr (K:=K) rfl (pv 0) (pv 3) rfl) (Zae (Zcr (K:=K) rfl (pv 0) (Zbz (Zhi (K:=K) rfl) rfl B.blist (by rfl) (pa_cons (hs:=Zab) (pv 4) Zac)) rfl) (Zag (Zcr (K:=K) rfl (pv 0) (pv 5) rfl))))))),?_⟩;walk_at "rd";refine⟨r,n,v,k,t,rfl,x,fun H1 s1=>⟨_,rfl,?_⟩⟩;cases hgd:goodParts H r n v k t with
  |false=>
   simp only[Bool.not_false,if_true];exact qx hgd H1 s1
  |true=>
  simp only[Bool.not_true,Bool.false_eq_true,if_false];have hbd:isBd H k=true:=by
   unfold goodParts at hgd;simp only[Bool.and_eq_true]at hgd;exact hgd.2.2.2.1
  obtain ⟨b, xs, rfl, u⟩ := Zjg hbd;walk_at "rd";have y := s1 p _ hp;have hb1 := s1 b _ u;have d : b ≠ p := Zt6 u hp (by intro z; cases z);have i : ([] : List (Str × V)).length <= 0 := Nat.le_refl 0;refine ⟨C, dx, [], y, L.cl, L.number, by decide, C, dx, _, Zan, L.cl, L.sender, Nat.lt_of_le_of_lt (Zay i) (by decide), C, dx, _, Zan, L.cl, L.goal, Nat.lt_of_le_of_lt (Zay (Zay i)) (by decide), xs,
   .inl (SqL.of (by rw [Zap d, Zap d, Zap d]; exact hb1)), fun l j => ?_⟩
  have a:l≠p:=fun z=>by rw[z,Zan]at j;cases j
  have m:H1 l=none:=by rw[Zap a,Zap a,Zap a]at j;exact j
  refine⟨C,dx,_,by rw[Zap (Ne.symm a)];exact Zan,L.cl,L.body,Nat.lt_of_le_of_lt (Zay (Zay (Zay i))) (by decide),C,dx,_,Zan,L.cl,L.keep,Nat.lt_of_le_of_lt (Zay (Zay (Zay (Zay i)))) (by decide),?_⟩;refine q hgd b xs _ l rfl u (s1.free m) a (by rw[Zap a,Zap a,Zan]) ⟨dx,_,Zan,?_,?_,?_,?_,?_,?_,?_⟩ ?_
  ·rw[Zak,Zak,Zak,Zak,Zct] <;> decide +kernel
  ·rw[Zak,Zak,Zak,Zct] <;> decide +kernel
  ·rw[Zak,Zak,Zct] <;> decide +kernel
  ·rw[Zak,Zct] <;> decide +kernel
  ·rw[Zct]
  ·rw[Zak,Zak,Zak,Zak,Zak] <;> first|rfl|decide +kernel
  ·rw[Zak,Zak,Zak,Zak,Zak] <;> first|rfl|decide +kernel
  ·intro c o e g;rw[Zap g,Zap g,Zap (Zaz (s1 c o e) m),Zap g,Zap g,Zap g];exact s1 c o e
def Zd0(C:Addr):Sp:=fun vs H Q _=>∃p nu se go bo ke,vs=[.ref p]/\LetterAt C H p nu se go bo ke/\∀t,H t=none->Q (.ref t) (upd H t (.tup [nu,se,go]))
abbrev Zb4:Stmt:=Zii (top 33) 1
theorem Zh1:Zaq ["self"] ["self"] (defScope Zb4):=⟨rfl,rfl,rfl,by decide +kernel,rfl,by decide +kernel,by decide +kernel⟩
theorem Zic{f C:Addr}{fd:FuncData}(F:Fun K "key" "Letter.key" Zb4 f fd)(L:Zso K C):FnOk P w K mg base CX0 1 f fd ["self"] (Zd0 C):=by
 refine F.ok Zh1 (fun vs H Q E h=>?_) (fun l A outer s H vs Q E m h=>?_)
 ·obtain⟨p,c,b,d,k,e,rfl,_⟩:=h;rfl
 ·obtain⟨p,c,b,d,k,e,rfl,⟨dx,fs,a,j,i,g,_⟩,q⟩:=h;refine⟨_,(Zag (Zat (Zqk (pa_cons (hs:=Za3) (Zfp (K:=K) rfl (pv 0) rfl) (pa_cons (hs:=Za3) (Zfp (K:=K) rfl (pv 0) rfl) (pa_cons (hs:=Za3) (Zfp (K:=K) rfl (pv 0) rfl) Zac)))))),?_⟩;walk_at "rd";exact⟨C,dx,fs,a,L.cl,L.number,c,j,C,dx,fs,a,L.cl,L.sender,b,i,C,dx,fs,a,L.cl,L.goal,d,g,Zai (by decide),q⟩
def Zr4:V->Bool
 | .int i=>decide (0 <=i) && decide (i%8=0)
 |_=>false
def Zeq:Sp:=fun vs H Q _=>∃x n,vs=[x]/\tyF H x=some n/\Q (.bl (Zr4 x)) H
abbrev Zc5:Stmt:=top 31
theorem Zke:Zaq ["at"] ["at"] (defScope Zc5):=⟨rfl,rfl,rfl,by decide +kernel,rfl,by decide +kernel,by decide +kernel⟩
theorem Zky{f:Addr}{fd:FuncData}(F:Fun K "is_place" "is_place" Zc5 f fd)(T:Cn mg)(F_is_whole:FnB P w K mg base "is_whole" 1 ["value"] [] Zdy):FnOk P w K mg base CX0 2 f fd ["at"] Zeq:=by
 refine F.ok Zke (fun vs H Q E h=>?_) (fun b A outer s H vs Q E a h=>?_)
 ·obtain⟨x,n,rfl,_⟩:=h;rfl
 ·obtain⟨x,n,rfl,ty,q⟩:=h;refine⟨_,(Zag (Zat (Zb5 (Zaf F_is_whole (a.mono (by decide)) rfl (pa_cons (hs:=Zab) (pv 0) Zac)) (Zb5 (Zbd Zvk (pv 0) Zad (Zau _)) (Zde (Zbd Zcs (Za1 Zdg (pv 0) (Zb8 rfl T.c_STEP)) Zad (Zau _))))))),?_⟩;walk_at "rd";refine⟨x,n,rfl,ty,_,rfl,Zpj (fun h=>?_) (fun h=>?_)⟩
  ·cases x <;> first|(simp[isI]at h;done)|skip
   rename_i i
   walk_at "rd"
   by_cases h1:0 <=i
   ·simp only[h1,decide_true,if_true];refine⟨by decide,rfl,?_⟩;simpa[Zr4,h1] using q
   ·simp only[h1,decide_false,Bool.false_eq_true,if_false];simpa[Zr4,h1] using q
  ·have e:Zr4 x=false:=by cases x <;> first|rfl|(simp[isI]at h)
   rw[e]at q;exact q
def roomB(at' len:Int)(more:Bool):Bool:=if more then decide (len%8=0) && decide (at'+ len < 4000) else decide (at'+ len <=4000)
def Zer:Sp:=fun vs H Q _=>∃at' len more,vs=[.int at',.int len,.bl more]/\Q (.bl (roomB at' len more)) H
abbrev Zc6:Stmt:=top 32
theorem Zkf:Zaq ["at","length","more"] ["at","length","more"] (defScope Zc6):=⟨rfl,rfl,rfl,by decide +kernel,rfl,by decide +kernel,by decide +kernel⟩
theorem Zkz{f:Addr}{fd:FuncData}(F:Fun K "has_room" "has_room" Zc6 f fd)(T:Cn mg):FnOk P w K mg base CX0 1 f fd ["at","length","more"] Zer:=by
 refine F.ok Zkf (fun vs H Q E h=>?_) (fun b A outer s H vs Q E c h=>?_)
 ·obtain⟨a,l,m,rfl,_⟩:=h;rfl
 ·obtain⟨a,l,m,rfl,q⟩:=h;refine⟨_,(Zae (Zbo (Zby (pv 2)) (Zag (Zat (Zb5 (Zbd Zcs (Za1 Zdg (pv 1) (Zb8 rfl T.c_STEP)) Zad (Zau _)) (Zde (Zbd Zn0 (Za1 Zb9 (pv 0) (pv 1)) (Zb8 rfl T.c_MOST_BYTES) (Zau _)))))) Za0) (Zag (Zat (Zbd Zfr (Za1 Zb9 (pv 0) (pv 1)) (Zb8 rfl T.c_MOST_BYTES) (Zau _))))),?_⟩;walk_at "rd";cases m with
  |true=>
   rw[if_pos rfl];refine⟨by decide,rfl,?_⟩;unfold roomB at q;rw[if_pos rfl]at q
   by_cases h1:l%8=0
   ·rw[if_pos (by simpa using h1)];simpa[h1] using q
   ·rw[if_neg (by simpa using h1)];simpa[h1] using q
  |false=>
   rw[if_neg (by simp)];exact q
structure Zpy(K:W.Frag)(C:Addr):Prop where
 cl:Cls K C
 number:NoAttr K C "number"
 sender:NoAttr K C "sender"
 goal:NoAttr K C "goal"
 at':NoAttr K C "at"
 body:NoAttr K C "body"
 more:NoAttr K C "more"
 keep:NoAttr K C "keep"
structure PieceAt(C:Addr)(H:Hp)(p:Addr)(nu se go a bo mo ke:V):Prop where
 ex:∃dx fs,H p=some (.ins C dx fs)/\fs.lookup ("number":Str)=some nu/\fs.lookup ("sender":Str)=some se/\fs.lookup ("goal":Str)=some go/\fs.lookup ("at":Str)=some a/\fs.lookup ("body":Str)=some bo/\fs.lookup ("more":Str)=some mo/\fs.lookup ("keep":Str)=some ke/\
  fs.lookup ("key":Str)=none/\fs.lookup ("end":Str)=none/\fs.lookup ("is_like":Str)=none
theorem PieceAt.same{C p:Addr}{H H':Hp}{nu se go a bo mo ke:V}(s:∀o,H p=some o->H' p=some o)(h:PieceAt C H p nu se go a bo mo ke):PieceAt C H' p nu se go a bo mo ke:=by
 obtain⟨dx,fs,b,r⟩:=h;exact⟨dx,fs,s _ b,r⟩
def Zre(H:Hp)(at' bo mo:V):Bool:=match at',bo,mo with
 | .int a, .ref b, .bl m => (match H b with
  |some (.lst xs)=>roomB a xs.length m
  | _ => false)
 |_,_,_=>false
def Zb0(H:Hp)(nu se go at' bo mo ke:V):Bool:=goodParts H nu se go bo ke && (Zr4 at' && (isB mo && Zre H at' bo mo))
theorem Zjj{H:Hp}{a b c d e:V}(h:goodParts H a b c d e=true):isBd H d=true:=by
 unfold goodParts at h;simp only[Bool.and_eq_true]at h;exact h.2.2.2.1
def Zdn(C CN:Addr):Sp:=fun vs H Q E=>∃p dx nu se go at' bo mo ke,vs=[.ref p,nu,se,go,at',bo,mo,ke]/\H p=some (.ins C dx [])/\Zek H nu se go bo ke/\(∃t,tyF H at'=some t)/\(∃t,tyF H mo=some t)/\
 (Zb0 H nu se go at' bo mo ke=true->∀a b m xs H' b',at'= .int a->bo= .ref b->mo= .bl m->H b=some (.lst xs)->H b'=none->b'≠p->H' b'=some (.lst xs)->PieceAt C H' p nu se go (.int a) (.ref b') (.bl m) ke->But p H H'->Q .non H')/\
 (Zb0 H nu se go at' bo mo ke=false->∀H',Same H H'->E (.ref CN) none H')
abbrev Za9:Stmt:=Zii (top 34) 0
theorem Zh0:Zaq ["self","number","sender","goal","at","body","more","keep"] ["self","number","sender","goal","at","body","more","keep"] (defScope Za9):=⟨rfl,rfl,rfl,by decide +kernel,rfl,by decide +kernel,by decide +kernel⟩
theorem Zg7 {f C CN : Addr} {fd : FuncData} (F : ∃ (oc : Value) (od : Option Addr) (dV kV doc pm : Value) (an : Option Addr) (cdv ct : Value) (osl : Array (Option Value)),
  fd = W.fnOf "__init__" "Piece.__init__" (Zao Za9) (defBody Za9) (defScope Za9) dV kV doc pm an cdv ct /\ K.lookup f = some ⟨oc, od, .func fd, osl⟩ /\ W.codeIn K cdv "Piece.__init__" = true) (L : Zpy K C) (B : Bt mg) (X_NoPiece : XC K mg "NoPiece" CN)
  (F_are_shared_parts:FnB P w K mg base "are_shared_parts" 5 ["number","sender","goal","body","keep"] [] Zbi) (F_is_place:FnB P w K mg base "is_place" 2 ["at"] [] Zeq) (F_is_truth:FnB P w K mg base "is_truth" 1 ["value"] [] Zdz)
  (F_has_room:FnB P w K mg base "has_room" 1 ["at","length","more"] [] Zer):FnOk P w K mg base (CXp P w) 6 f fd ["self","number","sender","goal","at","body","more","keep"] (Zdn C CN):=by
 obtain⟨oc,od,dV,kV,doc,pm,an,cdv,ct,osl,rfl,lk,hcd⟩:=F;refine Zpq lk hcd Zh0 (fun vs H Q E h=>?_) (fun A outer s H vs Q E v h=>?_)
 ·obtain⟨p,dx,t,n,go,at',bo,g,u,rfl,_⟩:=h;rfl
 ·obtain⟨p,dx,t,n,go,at',bo,g,u,rfl,hp,hpl,⟨ta,hta⟩,⟨tm,htm⟩,q,r⟩:=h;refine⟨_,(Zae (Zbo (Zca (Zby (Zaf F_are_shared_parts (v.mono (by decide)) rfl (pa_cons (hs:=Zab) (pv 1) (pa_cons (hs:=Zab) (pv 2) (pa_cons (hs:=Zab) (pv 3) (pa_cons (hs:=Zab) (pv 5) (pa_cons (hs:=Zab) (pv 7) Zac)))))))) (Zag (Zgf Zgm rfl rfl X_NoPiece Zaj)) Za0) (Zae (Zbo (PW.pt (Zew (Zca (Zby (Zaf F_is_place (v.mono (by decide)) rfl (pa_cons (hs:=Zab) (pv 4) Zac)))) (Zew (Zca (Zby (Zaf F_is_truth (v.mono (by decide)) rfl (pa_cons (hs:=Zab) (pv 6) Zac)))) (Zea (Zca (Zby (Zaf F_has_room (v.mono (by decide)) rfl (pa_cons (hs:=Zab) (pv 4) (pa_cons (hs:=Za6) (Zas (Zbt (K:=K) rfl) rfl B.len (by rfl) (pa_cons (hs:=Zab) (pv 5) Zac)) (pa_cons (hs:=Zab) (pv 6) Zac)))))))))) (Zag (Zgf Zgm rfl rfl X_NoPiece Zaj)) Za0) (Zae (Zcr (K:=K) rfl (pv 0) (pv 1) rfl) (Zae (Zcr (K:=K) rfl (pv 0) (pv 2) rfl) (Zae (Zcr (K:=K) rfl (pv 0) (pv 3) rfl) (Zae (Zcr (K:=K) rfl (pv 0) (pv 4) rfl) (Zae (Zcr (K:=K) rfl (pv 0) (Zbz (Zhi (K:=K) rfl) rfl B.blist (by rfl) (pa_cons (hs:=Zab) (pv 5) Zac)) rfl) (Zae (Zcr (K:=K) rfl (pv 0) (pv 6) rfl) (Zag (Zcr (K:=K) rfl (pv 0) (pv 7) rfl)))))))))),?_⟩;walk_at "rd";refine⟨t,n,go,bo,u,rfl,hpl,fun H1 s1=>⟨_,rfl,?_⟩⟩;cases hgd:goodParts H t n go bo u with
  |false=>
   simp only[Bool.not_false,if_true];exact r (by unfold Zb0;rw[hgd];rfl) H1 s1
  |true=>
  simp only[Bool.not_true,Bool.false_eq_true,if_false];obtain⟨b,xs,rfl,hb⟩:=Zjg (Zjj hgd);refine⟨at',ta,rfl,Zcu s1 hta,_,rfl,?_⟩;cases hat:Zr4 at' with
  |false=>
   simp only[Bool.not_false,if_true];exact r (by unfold Zb0;rw[hgd,hat];rfl) H1 s1
  |true=>
  simp only[Bool.not_true,Bool.false_eq_true,if_false];refine⟨g,tm,rfl,Zcu s1 htm,_,rfl,?_⟩;cases hmo:isB g with
  |false=>
   simp only[Bool.not_false,if_true];exact r (by unfold Zb0;rw[hgd,hat,hmo];rfl) H1 s1
  |true=>
  simp only[Bool.not_true,Bool.false_eq_true,if_false];obtain⟨a,rfl⟩:∃a,at'= .int a:=by cases at' <;> first|exact⟨_,rfl⟩|cases hat
  obtain⟨g,rfl⟩:∃m,g= .bl m:=by cases g <;> first|exact⟨_,rfl⟩|cases hmo
  walk_at "rd";have hp1:=s1 p _ hp;have hb1:=s1 b _ hb;have j:b≠p:=Zt6 hb hp (by intro z;cases z);have k:([]:List (Str×V)).length <=0:=Nat.le_refl 0;refine⟨_,.inl (SqL.of hb1),a,_,g,rfl,_,rfl,?_⟩;have hrv:Zre H (.int a) (.ref b) (.bl g)=roomB a xs.length g:=by
   show(match H b with|some (.lst xs)=>roomB a xs.length g|_=>false)=_;rw[hb]
  cases hroom:roomB a xs.length g with
  |false=>
   simp only[Bool.not_false,if_true];exact r (by unfold Zb0;rw[hgd,hat,hmo,hrv,hroom];rfl) H1 s1
  |true=>
  simp only[Bool.not_true,Bool.false_eq_true,if_false];have y:Zb0 H t n go (.int a) (.ref b) (.bl g) u=true:=by unfold Zb0;rw[hgd,hat,hmo,hrv,hroom];rfl
  refine ⟨C, dx, [], hp1, L.cl, L.number, by decide, C, dx, _, Zan, L.cl, L.sender, Nat.lt_of_le_of_lt (Zay k) (by decide), C, dx, _, Zan, L.cl, L.goal, Nat.lt_of_le_of_lt (Zay (Zay k)) (by decide), C, dx, _, Zan, L.cl, L.at', Nat.lt_of_le_of_lt (Zay (Zay (Zay k))) (by decide), xs,
   .inl (SqL.of (by rw [Zap j, Zap j, Zap j, Zap j]; exact hb1)), fun l x => ?_⟩
  have d:l≠p:=fun z=>by rw[z,Zan]at x;cases x
  have hl1:H1 l=none:=by rw[Zap d,Zap d,Zap d,Zap d]at x;exact x
  refine⟨C,dx,_,by rw[Zap (Ne.symm d)];exact Zan,L.cl,L.body,Nat.lt_of_le_of_lt (Zay (Zay (Zay (Zay k)))) (by decide),C,dx,_,Zan,L.cl,L.more,Nat.lt_of_le_of_lt (Zay (Zay (Zay (Zay (Zay k))))) (by decide),C,dx,_,Zan,L.cl,L.keep,Nat.lt_of_le_of_lt (Zay (Zay (Zay (Zay (Zay (Zay k)))))) (by decide),?_⟩;refine q y a b g xs _ l rfl rfl rfl hb (s1.free hl1) d (by rw[Zap d,Zap d,Zap d,Zan]) ⟨dx,_,Zan,?_,?_,?_,?_,?_,?_,?_,?_,?_,?_⟩ ?_
  ·rw[Zak,Zak,Zak,Zak,Zak,Zak,Zct] <;> decide +kernel
  ·rw[Zak,Zak,Zak,Zak,Zak,Zct] <;> decide +kernel
  ·rw[Zak,Zak,Zak,Zak,Zct] <;> decide +kernel
  ·rw[Zak,Zak,Zak,Zct] <;> decide +kernel
  ·rw[Zak,Zak,Zct] <;> decide +kernel
  ·rw[Zak,Zct] <;> decide +kernel
  ·rw[Zct]
  ·rw[Zak,Zak,Zak,Zak,Zak,Zak,Zak] <;> first|rfl|decide +kernel
  ·rw[Zak,Zak,Zak,Zak,Zak,Zak,Zak] <;> first|rfl|decide +kernel
  ·rw[Zak,Zak,Zak,Zak,Zak,Zak,Zak] <;> first|rfl|decide +kernel
  ·intro c o e i;rw[Zap i,Zap i,Zap i,Zap (Zaz (s1 c o e) hl1),Zap i,Zap i,Zap i,Zap i];exact s1 c o e
def Zd8(C:Addr):Sp:=fun vs H Q _=>∃p nu se go a bo mo ke,vs=[.ref p]/\PieceAt C H p nu se go a bo mo ke/\∀t,H t=none->Q (.ref t) (upd H t (.tup [nu,se,go]))
abbrev Zci:Stmt:=Zii (top 34) 1
theorem Ziy:Zaq ["self"] ["self"] (defScope Zci):=⟨rfl,rfl,rfl,by decide +kernel,rfl,by decide +kernel,by decide +kernel⟩
theorem Zi9{f C:Addr}{fd:FuncData}(F:Fun K "key" "Piece.key" Zci f fd)(L:Zpy K C):FnOk P w K mg base CX0 1 f fd ["self"] (Zd8 C):=by
 refine F.ok Ziy (fun vs H Q E h=>?_) (fun n A outer s H vs Q E o h=>?_)
 ·obtain⟨p,d,c,e,a,m,g,i,rfl,_⟩:=h;rfl
 ·obtain⟨p,d,c,e,a,m,g,i,rfl,⟨dx,fs,b,l,k,j,_⟩,q⟩:=h;refine⟨_,(Zag (Zat (Zqk (pa_cons (hs:=Za3) (Zfp (K:=K) rfl (pv 0) rfl) (pa_cons (hs:=Za3) (Zfp (K:=K) rfl (pv 0) rfl) (pa_cons (hs:=Za3) (Zfp (K:=K) rfl (pv 0) rfl) Zac)))))),?_⟩;walk_at "rd";exact⟨C,dx,fs,b,L.cl,L.number,d,l,C,dx,fs,b,L.cl,L.sender,c,k,C,dx,fs,b,L.cl,L.goal,e,j,Zai (by decide),q⟩
def NmOk(z:Str):Prop:=1 <=z.length/\z.length <=8/\z.cps.toList.all smallC=true
theorem NmOk.is{z:Str}(h:NmOk z):isNm (.str z)=true:=by
 obtain⟨h1,h2,a⟩:=h;simp only[isNm,h1,h2,a,decide_true,Bool.and_self]
theorem at3{x0 x1 x2:V}{d:Int}(h0:0 <=d)(h1:d < 3):∃x,atI [x0,x1,x2] d=some x/\(x=x0\/x=x1\/x=x2):=by
 have:d=0\/d=1\/d=2:=by omega
 rcases this with rfl|rfl|rfl
 ·exact⟨x0,rfl,.inl rfl⟩
 ·exact⟨x1,rfl,.inr (.inl rfl)⟩
 ·exact⟨x2,rfl,.inr (.inr rfl)⟩
end
section
variable{K:W.Frag}
abbrev keyD(nu:Int)(z1 z2:Str):PyData:=.tuple [.int nu,.str z1,.str z2]
theorem Zwf{n:Nat}(h:0 < n):ixN n 0=some 0:=by
 have h':(0:Int) < (n:Int):=by omega
 unfold ixN;rw[if_pos (by decide),if_pos h'];rfl
theorem at0{α:Type}{x:α}{xs:List α}:atI (x::xs) 0=some x:=by
 unfold atI;rw[List.length_cons,Zwf (Nat.succ_pos _)];rfl
def Zln(K:W.Frag):Sp:=fun vs H Q _=>∃ (a:Addr) (ns:List Int),vs=[.ref a]/\SqL K H a (ns.map V.int)/\ns.length <=63/\∀H',Q (.bl true) H'
end
section
variable{P:Program}{w:World}{K:W.Frag}{mg:Str->Option Value}{base:Heap}
end
section
theorem LetterAt.same{C p:Addr}{H H':Hp}{nu se go bo ke:V}(s:∀o,H p=some o->H' p=some o)(h:LetterAt C H p nu se go bo ke):LetterAt C H' p nu se go bo ke:=by
 obtain⟨dx,fs,a,r⟩:=h;exact⟨dx,fs,s _ a,r⟩
end
structure PD where
 nu:Int
 z1:Str
 z2:Str
 at':Int
 ns:List Int
 mo:Bool
 k:Bool
 deriving DecidableEq
structure PD.Ok(d:PD):Prop where
 n0:0 <=d.nu
 n1:d.nu <=65535
 k1:NmOk d.z1
 k2:NmOk d.z2
 l1:1 <=d.ns.length
 l2:d.ns.length <=4000
 by':∀x∈d.ns,0 <=x/\x <=255
 a0:0 <=d.at'
 a8:d.at'%8=0
 rm:roomB d.at' d.ns.length d.mo=true
structure PieO(C:Addr)(H:Hp)(p b:Addr)(d:PD):Prop where
 ok:d.Ok
 ats:PieceAt C H p (.int d.nu) (.str d.z1) (.str d.z2) (.int d.at') (.ref b) (.bl d.mo) (.bl d.k)
 bd:H b=some (.lst (d.ns.map V.int))
section
variable{P:Program}{w:World}{K:W.Frag}{mg:Str->Option Value}{base:Heap}{C p b:Addr}{H G:Hp}
theorem PieO.mono{d:PD}(s:Same H G)(h:PieO C H p b d):PieO C G p b d:=⟨h.ok,h.ats.same (s p),s _ _ h.bd⟩
theorem PieO.ins{d:PD}(h:PieO C H p b d):∃dx fs,H p=some (.ins C dx fs):=by
 obtain⟨dx,fs,a,_⟩:=h.ats;exact⟨dx,fs,a⟩
theorem Zvq{d:PD}(L:Zpy K C)(h:PieO C H p b d):FldV K H (.ref p) "at" (.int d.at'):=by
 obtain⟨dx,fs,a,k,j,i,c,g,f,e,_⟩:=h.ats;exact⟨p,C,dx,fs,rfl,a,L.cl,L.at',c⟩
theorem Zse{d:PD}(L:Zpy K C)(h:PieO C H p b d):FldV K H (.ref p) "body" (.ref b):=by
 obtain⟨dx,fs,a,k,j,i,g,c,f,e,_⟩:=h.ats;exact⟨p,C,dx,fs,rfl,a,L.cl,L.body,c⟩
theorem Zsc{d:PD}(L:Zpy K C)(h:PieO C H p b d):FldV K H (.ref p) "more" (.bl d.mo):=by
 obtain⟨dx,fs,a,k,j,i,g,f,c,e,_⟩:=h.ats;exact⟨p,C,dx,fs,rfl,a,L.cl,L.more,c⟩
theorem Zsd{d:PD}(L:Zpy K C)(h:PieO C H p b d):FldV K H (.ref p) "keep" (.bl d.k):=by
 obtain⟨dx,fs,a,l,j,i,g,f,e,c,_⟩:=h.ats;exact⟨p,C,dx,fs,rfl,a,L.cl,L.keep,c⟩
theorem Zt8{d:PD}(h:PieO C H p b d):Zvw C "key" H (.ref p):=by
 obtain⟨dx,fs,a,_,_,_,_,_,_,_,f,_⟩:=h.ats;exact⟨p,dx,fs,rfl,a,f⟩
def Zp7(C:Addr):Sp:=fun vs H Q _=>∃ (d:PD) (b:Addr),vs=[.int d.nu,.str d.z1,.str d.z2,.int d.at',.ref b,.bl d.mo,.bl d.k]/\d.Ok/\H b=some (.lst (d.ns.map V.int))/\
 ∀p b' G,H p=none->H b'=none->Same H G->PieO C G p b' d->Q (.ref p) G
def PD.key(d:PD):Int×Str×Str:=(d.nu,d.z1,d.z2)
end
section
variable{P:Program}{w:World}{K:W.Frag}{mg:Str->Option Value}{base:Heap}{C:Addr}
def Zlp(C:Addr):Sp:=fun vs H Q _=>∃ (p b:Addr) (d:PD),vs=[.ref p]/\PieO C H p b d/\∀t G,H t=none->Same H G->G t=some (.tup [.int d.nu,.str d.z1,.str d.z2])->Q (.ref t) G
theorem Zpf(F:MtB P w K mg base C "key" 1 ["self"] [] (Zd8 C)):MtB P w K mg base C "key" 1 ["self"] [] (Zlp C):=
 F.imp fun vs H Q E ⟨p,b,d,e,h,q⟩=>⟨p,_,_,_,_,_,_,_,e,h.ats,fun t a=>q t _ a (Zbc a) Zan⟩
end
structure LD where
 nu:Int
 z1:Str
 z2:Str
 ns:List Int
 k:Bool
 deriving DecidableEq
structure LD.Ok(d:LD):Prop where
 n0:0 <=d.nu
 n1:d.nu <=65535
 k1:NmOk d.z1
 k2:NmOk d.z2
 l1:1 <=d.ns.length
 l2:d.ns.length <=4000
 by':∀x∈d.ns,0 <=x/\x <=255
structure LetO(C:Addr)(H:Hp)(p b:Addr)(d:LD):Prop where
 ok:d.Ok
 ats:LetterAt C H p (.int d.nu) (.str d.z1) (.str d.z2) (.ref b) (.bl d.k)
 bd:H b=some (.lst (d.ns.map V.int))
section
variable{P:Program}{w:World}{K:W.Frag}{mg:Str->Option Value}{base:Heap}{C p b:Addr}{H G:Hp}
theorem LetO.mono{d:LD}(s:Same H G)(h:LetO C H p b d):LetO C G p b d:=⟨h.ok,h.ats.same (s p),s _ _ h.bd⟩
theorem LetO.ins{d:LD}(h:LetO C H p b d):∃dx fs,H p=some (.ins C dx fs):=by
 obtain⟨dx,fs,a,_⟩:=h.ats;exact⟨dx,fs,a⟩
theorem Zsg{d:LD}(L:Zso K C)(h:LetO C H p b d):FldV K H (.ref p) "body" (.ref b):=by
 obtain⟨dx,fs,a,i,g,f,c,e,_⟩:=h.ats;exact⟨p,C,dx,fs,rfl,a,L.cl,L.body,c⟩
theorem Zsf{d:LD}(L:Zso K C)(h:LetO C H p b d):FldV K H (.ref p) "keep" (.bl d.k):=by
 obtain⟨dx,fs,a,i,g,f,e,c,_⟩:=h.ats;exact⟨p,C,dx,fs,rfl,a,L.cl,L.keep,c⟩
theorem Zt9{d:LD}(h:LetO C H p b d):Zvw C "key" H (.ref p):=by
 obtain⟨dx,fs,a,_,_,_,_,_,f,_⟩:=h.ats;exact⟨p,dx,fs,rfl,a,f⟩
def Zp8(C:Addr):Sp:=fun vs H Q _=>∃ (d:LD) (b:Addr),vs=[.int d.nu,.str d.z1,.str d.z2,.ref b,.bl d.k]/\d.Ok/\H b=some (.lst (d.ns.map V.int))/\
 ∀p b' G,H p=none->H b'=none->Same H G->LetO C G p b' d->Q (.ref p) G
end
section
variable{P:Program}{w:World}{K:W.Frag}{mg:Str->Option Value}{base:Heap}
theorem Zt5(z:Str):isNm (.str z)=true↔NmOk z:=by
 refine⟨fun h=>?_,fun h=>h.is⟩;unfold isNm at h;simp only[Bool.and_eq_true,decide_eq_true_eq]at h;exact⟨by omega,by omega,h.2⟩
theorem Zi1{H:Hp}{nu:Int}{z1 z2:Str}{b:Addr}{ns:List Int}{k:Bool}(hb:H b=some (.lst (ns.map V.int))):goodParts H (.int nu) (.str z1) (.str z2) (.ref b) (.bl k)=true↔(0 <=nu/\nu <=65535)/\NmOk z1/\NmOk z2/\(1 <=ns.length/\ns.length <=4000)/\∀x∈ns,0 <=x/\x <=255:=by
 unfold goodParts;rw[Zl7 hb];simp only[Bool.and_eq_true,Zt5,wIn,decide_eq_true_eq,isB,List.length_map,List.all_eq_true,List.mem_map,forall_exists_index,and_imp,forall_apply_eq_imp_iff₂];constructor
 ·rintro⟨h1,h2,h3,h4,_⟩;refine⟨?_,h2,h3,?_,fun x hx=>?_⟩
  ·omega
  ·omega
  ·have:=h4.2 x hx;omega
 ·rintro⟨h1,h2,h3,h4,h5⟩;refine⟨?_,h2,h3,⟨?_,fun x hx=>?_⟩,trivial⟩
  ·omega
  ·omega
  ·have:=h5 x hx;omega
theorem Zgh{H:Hp}{nu:Int}{z1 z2:Str}{b:Addr}{ns:List Int}{k:Bool}(hb:H b=some (.lst (ns.map V.int)))(l1:z1.length <=50000)(l2:z2.length <=50000)(l3:ns.length <=50000):Zek H (.int nu) (.str z1) (.str z2) (.ref b) (.bl k):=by
 refine⟨⟨_,rfl⟩,⟨_,rfl⟩,fun z e=>?_,⟨_,rfl⟩,fun z e=>?_,⟨_,Zqx hb⟩,fun a xs f c=>?_,⟨_,rfl⟩⟩
 ·cases e;omega
 ·cases e;omega
 ·cases f;rw[hb]at c;cases c;refine⟨by rw[List.length_map];omega,fun y d=>?_⟩;obtain⟨i,_,rfl⟩:=List.mem_map.mp d;exact⟨_,rfl⟩
theorem Zn2{H:Hp}{d:PD}{b:Addr}(hb:H b=some (.lst (d.ns.map V.int))):Zb0 H (.int d.nu) (.str d.z1) (.str d.z2) (.int d.at') (.ref b) (.bl d.mo) (.bl d.k)=true↔d.Ok:=by
 have a:Zre H (.int d.at') (.ref b) (.bl d.mo)=roomB d.at' d.ns.length d.mo:=by
  show(match H b with|some (.lst xs)=>roomB d.at' xs.length d.mo|_=>false)=_;rw[hb];simp only[List.length_map]
 unfold Zb0;rw[Bool.and_eq_true,Zi1 hb,a];simp only[Zr4,isB,Bool.and_eq_true,decide_eq_true_eq,true_and];constructor
 ·rintro⟨⟨h1,h2,h3,h4,h5⟩,⟨h6,h7⟩,h8⟩;exact⟨h1.1,h1.2,h2,h3,h4.1,h4.2,h5,h6,h7,h8⟩
 ·intro h;exact⟨⟨⟨h.n0,h.n1⟩,h.k1,h.k2,⟨h.l1,h.l2⟩,h.by'⟩,⟨h.a0,h.a8⟩,h.rm⟩
theorem Zn3{H:Hp}{d:LD}{b:Addr}(hb:H b=some (.lst (d.ns.map V.int))):goodParts H (.int d.nu) (.str d.z1) (.str d.z2) (.ref b) (.bl d.k)=true↔d.Ok:=by
 rw[Zi1 hb];constructor
 ·rintro⟨h1,h2,h3,h4,h5⟩;exact⟨h1.1,h1.2,h2,h3,h4.1,h4.2,h5⟩
 ·intro h;exact⟨⟨h.n0,h.n1⟩,h.k1,h.k2,⟨h.l1,h.l2⟩,h.by'⟩
structure PD.Lay(d:PD):Prop where
 l1:d.z1.length <=50000
 l2:d.z2.length <=50000
 l3:d.ns.length <=50000
structure LD.Lay(d:LD):Prop where
 l1:d.z1.length <=50000
 l2:d.z2.length <=50000
 l3:d.ns.length <=50000
def Zhp(C CN:Addr):Sp:=fun vs H Q E=>∃ (d:PD) (b:Addr),vs=[.int d.nu,.str d.z1,.str d.z2,.int d.at',.ref b,.bl d.mo,.bl d.k]/\d.Lay/\H b=some (.lst (d.ns.map V.int))/\
 (d.Ok->∀p b' G,H p=none->H b'=none->Same H G->PieO C G p b' d->Q (.ref p) G)/\(¬d.Ok->∀G,Same H G->E (.ref CN) none G)
def Zhq(C CN:Addr):Sp:=fun vs H Q E=>∃ (d:LD) (b:Addr),vs=[.int d.nu,.str d.z1,.str d.z2,.ref b,.bl d.k]/\d.Lay/\H b=some (.lst (d.ns.map V.int))/\
 (d.Ok->∀p b' G,H p=none->H b'=none->Same H G->LetO C G p b' d->Q (.ref p) G)/\(¬d.Ok->∀G,Same H G->E (.ref CN) none G)
theorem Zvr{f C CN:Addr}{fd:FuncData}(G:FnOk P w K mg base (CXp P w) 6 f fd ["self","number","sender","goal","at","body","more","keep"] (Zdn C CN))(hm:mg "Piece"=some (.ref C))(M:Mk K C f)(hb:Binds K fd ["self","number","sender","goal","at","body","more","keep"] []):CtP P w K mg base "Piece" 6 (Zhp C CN):=by
 refine⟨f,C,fd,[],[],_,_,G,hm,M,hb,.nil,fun vs H Q E h y dx G' k hdx hn s r=>?_⟩;obtain⟨d,b,rfl,j,l,q,p⟩:=h;have g:=s b _ l;refine⟨y,dx,_,_,_,_,_,_,_,rfl,r,Zgh g j.l1 j.l2 j.l3,⟨_,rfl⟩,⟨_,rfl⟩,fun i a b0 m xs H' b1 e0 e1 t n z e4 x v u=>⟨rfl,?_⟩,fun i H' s'=>p (fun ok=>?_) H' (s.trans s')⟩
 ·have ok:=(Zn2 g).mp i;cases e0;cases e1;cases t;rw[g]at n;cases n;exact q ok y b1 H' k (s.free z) (fun c o e=>u c o (s c o e) (Zaz e k)) ⟨ok,v,x⟩
 ·rw[(Zn2 g).mpr ok]at i;cases i
theorem Zvs{f C CN:Addr}{fd:FuncData}(G:FnOk P w K mg base (CXp P w) 6 f fd ["self","number","sender","goal","body","keep"] (Zc9 C CN))(hm:mg "Letter"=some (.ref C))(M:Mk K C f)(hb:Binds K fd ["self","number","sender","goal","body","keep"] []):CtP P w K mg base "Letter" 6 (Zhq C CN):=by
 refine⟨f,C,fd,[],[],_,_,G,hm,M,hb,.nil,fun vs H Q E h y dx G' j z hn s n=>?_⟩;obtain⟨d,b,rfl,i,k,q,m⟩:=h;have a:=s b _ k;refine⟨y,dx,_,_,_,_,_,rfl,n,Zgh a i.l1 i.l2 i.l3,fun g b0 xs H' x v l u e4 t r p=>⟨rfl,?_⟩,fun g H' s'=>m (fun ok=>?_) H' (s.trans s')⟩
 ·have ok:=(Zn3 a).mp g;cases v;rw[a]at l;cases l;exact q ok y x H' j (s.free u) (fun c o e=>p c o (s c o e) (Zaz e j)) ⟨ok,r,t⟩
 ·rw[(Zn3 a).mpr ok]at g;cases g
theorem CtP.ctB{x:Str}{k:Nat}{sp sp':Sp}(F:CtP P w K mg base x k sp)(h:∀vs H Q,sp' vs H Q E0->sp vs H Q E0):CtB P w K mg base x k sp':=by
 obtain⟨f,C,fd,ds,dvs,ps,c,G,o,M,a,q,hi⟩:=F.ex;refine⟨f,C,fd,ds,dvs,ps,fun vs H Q _=>c vs H Q E0,⟨fun vs H Q _ h=>G.len vs H Q E0 h,fun A outer s H b i vs Q E m p a l h=>?_⟩,o,M,a,q,fun vs H Q hs y dx u j g n s t=>hi vs H Q E0 (h vs H Q hs) y dx u j g n s t⟩;refine codeAny_mono (G.run A outer s H b i vs Q E0 m p a l h) fun r s' d=>?_
 cases r with
 |error e=>obtain⟨⟨_,_,_,_,_,_,_,z⟩,_⟩:=d;exact z.elim
 |ok fl=>cases fl <;> exact d
theorem PD.Ok.lay{d:PD}(h:d.Ok):d.Lay:=by
 have h1:=h.k1.2.1;have h2:=h.k2.2.1;have a:=h.l2;exact⟨by omega,by omega,by omega⟩
theorem LD.Ok.lay{d:LD}(h:d.Ok):d.Lay:=by
 have h1:=h.k1.2.1;have h2:=h.k2.2.1;have a:=h.l2;exact⟨by omega,by omega,by omega⟩
theorem Zwg{C CN:Addr}(F:CtP P w K mg base "Piece" 6 (Zhp C CN)):CtB P w K mg base "Piece" 6 (Zp7 C):=CtP.ctB F fun vs H Q ⟨d,b,e,ok,a,q⟩=>⟨d,b,e,ok.lay,a,fun _=>q,fun n=>absurd ok n⟩
theorem Zwh{C CN:Addr}(F:CtP P w K mg base "Letter" 6 (Zhq C CN)):CtB P w K mg base "Letter" 6 (Zp8 C):=CtP.ctB F fun vs H Q ⟨d,b,e,ok,a,q⟩=>⟨d,b,e,ok.lay,a,fun _=>q,fun n=>absurd ok n⟩
end
def numT(n:Int):Str:=Str.ofString (toString n)
def hvs:List Nat:=[48,49,50,51,52,53,54,55,56,57,97,98,99,100,101,102]
abbrev HVS:Str:="0123456789abcdef"
theorem Zof:HVS.cps.toList=hvs:=by decide +kernel
def hx(i:Nat):Str:=⟨#[hvs.getD i 0]⟩
def Zil(b:Int):Str:=hx (b / 16).toNat++hx (b%16).toNat
def bytesT(ns:List Int):Str:=Txt.join "" (ns.map Zil)
def Zcc(b:Bool)(s:Str):Str:=if b=true then s else "."
def Zdi(d:PD):List Str:=[numT d.nu,d.z1,d.z2,numT d.at',Zcc d.mo "+",Zcc d.k "!",bytesT d.ns]
def Zd3(d:LD):List Str:=[numT d.nu,d.z1,d.z2,Zcc d.k "!",bytesT d.ns]
def textP(d:PD):Str:=Txt.join " " (Zdi d)
def textL(d:LD):Str:=Txt.join " " (Zd3 d)
theorem Zc8{a b:Str}(h:a.cps.toList=b.cps.toList):a=b:=by
 cases a;cases b;simp only[PySem.Str.mk.injEq];exact Array.toList_inj.mp h
theorem str_app(a b:Str):(a++b).cps.toList=a.cps.toList++b.cps.toList:=Array.toList_append
theorem Zbg(a:Str):a.length=a.cps.toList.length:=rfl
theorem Zf7:(" ":Str)=⟨#[32]⟩:=by decide +kernel
def jnC(c:List Nat):List Str->List Nat
 |[]=>[]
 |[w]=>w.cps.toList
 |w::v::r=>w.cps.toList++c++jnC c (v::r)
theorem Zbf(sep:Str):∀ws:List Str,(Txt.join sep ws).cps.toList=jnC sep.cps.toList ws
 |[]=>rfl
 |[w]=>rfl
 |w::v::r=>by
  have ih:=Zbf sep (v::r);unfold Txt.join at ih ⊢;rw[StrLaws.glued_eq_join]at ih ⊢;rw[Str.join.eq_3 sep w (v::r) (by intro z;cases z),str_app,str_app,ih];rfl
theorem Zor{c:Nat}:∀{a b x y:List Nat},c∉a->c∉b->a++c::x=b++c::y->a=b/\x=y
 |[],[],_,_,_,_,h=>⟨rfl,(List.cons.inj h).2⟩
 |[],b::bs,_,_,_,hb,h=>absurd (List.mem_cons.mpr (.inl (List.cons.inj h).1)) hb
 |a::as,[],_,_,ha,_,h=>absurd (List.mem_cons.mpr (.inl (List.cons.inj h).1.symm)) ha
 |a::as,b::bs,_,_,ha,hb,h=>by
  obtain⟨h1,h2⟩:=List.cons.inj h;obtain⟨e,d⟩:=Zor (fun z=>ha (List.mem_cons_of_mem _ z)) (fun z=>hb (List.mem_cons_of_mem _ z)) h2;exact⟨by rw[h1,e],d⟩
theorem Zqo{c:Nat}:∀{ws vs:List Str},ws≠[]->vs≠[]->(∀w∈ws,c∉w.cps.toList)->(∀v∈vs,c∉v.cps.toList)->jnC [c] ws=jnC [c] vs->ws=vs
 |[],_,h,_,_,_,_=>absurd rfl h
 |_,[],_,h,_,_,_=>absurd rfl h
 |[w],[v],_,_,_,_,h=>by rw[Zc8 (show w.cps.toList=v.cps.toList from h)]
 |[w],v::v'::s,_,_,hw,_,h=>by
  have h:w.cps.toList=v.cps.toList++[c]++jnC [c] (v'::s):=h;exact absurd (by rw[h];simp) (hw w List.mem_cons_self)
 |w::w'::r,[v],_,_,_,hv,h=>by
  have h:w.cps.toList++[c]++jnC [c] (w'::r)=v.cps.toList:=h;exact absurd (by rw[<-h];simp) (hv v List.mem_cons_self)
 |w::w'::r,v::v'::s,_,_,hw,hv,h=>by
  have h:w.cps.toList++[c]++jnC [c] (w'::r)=v.cps.toList++[c]++jnC [c] (v'::s):=h;rw[List.append_assoc,List.append_assoc]at h;obtain⟨b,a⟩:=Zor (hw w List.mem_cons_self) (hv v List.mem_cons_self) h;rw[Zc8 b,Zqo (by simp) (by simp) (fun x hx=>hw x (List.mem_cons_of_mem _ hx)) (fun x hx=>hv x (List.mem_cons_of_mem _ hx)) a]
theorem Zem{ws:List Str}(h:ws≠[])(hf:∀w∈ws,32∉w.cps.toList):Txt.split (Txt.join " " ws) " "=ws:=by
 have h1:=(fact_split (Txt.join " " ws) " ").1;refine Zqo (c:=32) (by intro z;rw[z]at h1;simp at h1) h (fun w a=>?_) hf ?_
 ·rw[Zf7]at a;exact StrLaws.split_free _ 32 w a
 ·have e:=congrArg (fun z:Str=>z.cps.toList) (StrLaws.join_split (Txt.join " " ws) " ");have d:((" ":Str).join (Txt.split (Txt.join " " ws) " ")).cps.toList=jnC [32] (Txt.split (Txt.join " " ws) " "):=by
   rw[<-StrLaws.glued_eq_join];have:=Zbf " " (Txt.split (Txt.join " " ws) " ")
   rw[show(" ":Str).cps.toList=[32] by rw[Zf7]]at this;exact this
  have b:=Zbf " " ws
  rw[show(" ":Str).cps.toList=[32] by rw[Zf7]]at b;rw[<-d,<-b];exact e
theorem Zid(n:Int):32∉(numT n).cps.toList:=fun h=>(intText_free_32 n).mp h
theorem Zif{z:Str}(h:NmOk z):32∉z.cps.toList:=fun a=>by
 have:=List.all_eq_true.mp h.2.2 32 a;exact absurd this (by decide)
theorem Zga(b:Bool):32∉(Zcc b "+").cps.toList/\32∉(Zcc b "!").cps.toList:=by
 cases b <;> exact⟨by decide +kernel,by decide +kernel⟩
theorem Zoe{i:Nat}(h:i < 16):hvs[i]?=some (hvs.getD i 0):=by
 have:i < hvs.length:=h;rw[List.getElem?_eq_getElem this];simp[this]
theorem Zgu(b:Int):(Zil b).cps.toList=[hvs.getD (b / 16).toNat 0,hvs.getD (b%16).toNat 0]:=by
 unfold Zil;rw[str_app];rfl
theorem Zc7:∀ns:List Int,(bytesT ns).cps.toList=(ns.map fun b=>[hvs.getD (b / 16).toNat 0,hvs.getD (b%16).toNat 0]).flatten
 |[]=>by unfold bytesT;rw[Zbf];rfl
 |[b]=>by unfold bytesT;rw[Zbf];show(Zil b).cps.toList=_;rw[Zgu];rfl
 |b::c::r=>by
  have ih:=Zc7 (c::r);unfold bytesT at ih ⊢;rw[Zbf]at ih ⊢;show(Zil b).cps.toList++("":Str).cps.toList++jnC _ _=_;rw[Zgu,show("":Str).cps.toList=[] by decide +kernel,List.append_nil];show _++jnC ("":Str).cps.toList ((c::r).map Zil)=_;rw[ih];rfl
theorem Zbb(ns:List Int):(bytesT ns).length=2*ns.length:=by
 rw[Zbg,Zc7]
 induction ns with
 |nil=>rfl
 |cons b r ih=>rw[List.map_cons,List.flatten_cons,List.length_append,ih,List.length_cons];simp;omega
theorem Zej:∀ (ns:List Int) (i:Nat) (b:Int),ns[i]?=some b->(bytesT ns).cps.toList[2*i]?=some (hvs.getD (b / 16).toNat 0)/\(bytesT ns).cps.toList[2*i+ 1]?=some (hvs.getD (b%16).toNat 0)
 |[],_,_,h=>by simp at h
 |c::r,0,b,h=>by
  have h:c=b:=Option.some.inj h;subst h;rw[Zc7];exact⟨rfl,rfl⟩
 |c::r,i+ 1,b,h=>by
  have a:=Zej r i b (by simpa using h);rw[Zc7]at a ⊢;rw[List.map_cons,List.flatten_cons];exact a
theorem Zhk{ns:List Int}(hb:∀x∈ns,0 <=x/\x <=255){c:Nat}(h:c∈(bytesT ns).cps.toList):∃i,i < 16/\c=hvs.getD i 0:=by
 rw[Zc7]at h;obtain⟨l,e,a⟩:=List.mem_flatten.mp h;obtain⟨b,d,rfl⟩:=List.mem_map.mp e;have:=hb b d;simp only[List.mem_cons,List.not_mem_nil,or_false]at a;rcases a with rfl|rfl
 ·exact⟨_,by omega,rfl⟩
 ·exact⟨_,by omega,rfl⟩
theorem Zoc:∀i:Nat,i < 16->Builtin.Str.occurrences HVS ⟨#[hvs.getD i 0]⟩ 0 HVS.length 1=[i]:=by
 have h:∀i:_root_.Fin 16,Builtin.Str.occurrences HVS ⟨#[hvs.getD i.val 0]⟩ 0 HVS.length 1=[i.val]:=by decide +kernel
 exact fun i hi=>h ⟨i,hi⟩
theorem Zpl:∀i:Nat,i < 16->hvs.getD i 0≠32:=by
 have h:∀i:_root_.Fin 16,hvs.getD i.val 0≠32:=by decide +kernel
 exact fun i hi=>h ⟨i,hi⟩
theorem Zhj{ns:List Int}(hb:∀x∈ns,0 <=x/\x <=255):32∉(bytesT ns).cps.toList:=fun h=>by
 obtain⟨i,hi,e⟩:=Zhk hb h;exact Zpl i hi e.symm
theorem Zll{d:PD}(h:d.Ok):Txt.split (textP d) " "=Zdi d:=Zem (by simp[Zdi]) fun w a=>by
 simp only[Zdi,List.mem_cons,List.not_mem_nil,or_false]at a;rcases a with rfl|rfl|rfl|rfl|rfl|rfl|rfl
 ·exact Zid _
 ·exact Zif h.k1
 ·exact Zif h.k2
 ·exact Zid _
 ·exact(Zga _).1
 ·exact(Zga _).2
 ·exact Zhj h.by'
theorem Zlm{d:LD}(h:d.Ok):Txt.split (textL d) " "=Zd3 d:=Zem (by simp[Zd3]) fun w a=>by
 simp only[Zd3,List.mem_cons,List.not_mem_nil,or_false]at a;rcases a with rfl|rfl|rfl|rfl|rfl
 ·exact Zid _
 ·exact Zif h.k1
 ·exact Zif h.k2
 ·exact(Zga _).2
 ·exact Zhj h.by'
structure Zvv(n:Int):Prop where
 len1:1 <=(numT n).length
 len2:(numT n).length <=12
 dig:∀c∈(numT n).cps.toList,48 <=c/\c <=57
 zero:numT n="0"\/Txt.startswith (numT n) "0"=false
 back:intText? (numT n)=some n
theorem Zpu:∀ (m:Nat),0 < m->∃c r,(Nat.toDigits 10 m).map Char.toNat=c::r/\c≠48:=by
 intro m
 induction m using Nat.strongRecOn with
 |_ m ih=>
  intro b;rw[Nat.toDigits_eq_if (by decide)]
  by_cases h:m < 10
  ·rw[if_pos h];refine⟨(Nat.digitChar m).toNat,[],rfl,?_⟩;have:∀i:_root_.Fin 10,i.val≠0->(Nat.digitChar i.val).toNat≠48:=by decide +kernel
   exact this ⟨m,h⟩ (by show m≠0;omega)
  ·rw[if_neg h];obtain⟨c,r,e,a⟩:=ih (m / 10) (by omega) (by omega);exact⟨c,r++[(Nat.digitChar (m%10)).toNat],by rw[List.map_append,e];rfl,a⟩
theorem Zit{z:Str}{c:Nat}{r:List Nat}(h:z.cps.toList=c::r)(hc:c≠48):Txt.startswith z "0"=false:=by
 unfold Txt.startswith Builtin.Str.subAt;rw[Bool.and_eq_false_iff]
 right
 rw[beq_eq_false_iff_ne];intro e;have e:=congrArg Array.toList e;rw[show("0":Str).cps=#[48] by decide +kernel,show("0":Str).length=1 by decide +kernel]at e;rw[Array.toList_extract,h]at e;simp at e;exact hc e
theorem Zdk{n:Int}(h0:0 <=n)(h1:n < 10 ^ 10):Zvv n:=by
 obtain⟨m,rfl⟩:∃m:Nat,n=m:=⟨n.toNat,by omega⟩;have hs:=W.KIN.signs_num m;have hs:(numT (m:Int)).cps.toList=(Nat.toDigits 10 m).map Char.toNat:=hs;have d:(numT (m:Int)).length=(Nat.toDigits 10 m).length:=by rw[Zbg,hs,List.length_map]
 refine⟨?_,?_,fun c a=>?_,?_,W.KIN.num_reads h0 h1⟩
 ·rw[d];exact Nat.length_toDigits_pos
 ·rw[d];exact(Nat.length_toDigits_le_iff (b:=10) (n:=m) (k:=12) (by decide) (by decide)).mpr (by omega)
 ·rw[hs]at a;obtain⟨g,f,rfl⟩:=List.mem_map.mp a;have:=Nat.isDigit_of_mem_toDigits (b:=10) (by decide) (by decide) f;unfold Char.isDigit at this;simp only[Bool.and_eq_true,decide_eq_true_eq]at this;exact this
 ·by_cases hm:m=0
  ·subst hm;exact .inl (by decide +kernel)
  ·obtain⟨c,r,e,a⟩:=Zpu m (by omega);exact .inr (Zit (hs.trans e) a)
section
variable{P:Program}{w:World}{K:W.Frag}{mg:Str->Option Value}{base:Heap}
def keyT(nu:Int)(z1 z2:Str):Str:=Txt.join " " [numT nu,z1,z2]
theorem Zja{n:Int}(h0:0 <=n)(h1:n < 10 ^ 10):n.natAbs.log2 < 1920:=by
 by_cases h:n.natAbs=0
 ·rw[h];decide
 ·have h2:n.natAbs.log2 < 40:=(Nat.log2_lt h).mpr (show n.natAbs < 1099511627776 by omega);omega
def Zdj:Sp:=fun vs H Q _=>∃ (t:Addr) (nu:Int) (z1 z2:Str),vs=[.ref t]/\H t=some (.tup [.int nu,.str z1,.str z2])/\0 <=nu/\nu < 10 ^ 10/\NmOk z1/\NmOk z2/\∀G,Same H G->Q (.str (keyT nu z1 z2)) G
abbrev Zce:Stmt:=top 43
theorem Ziv:Zaq ["key"] ["key"] (defScope Zce):=⟨rfl,rfl,rfl,by decide +kernel,rfl,by decide +kernel,by decide +kernel⟩
theorem Zi5{f:Addr}{fd:FuncData}(F:Fun K "shown_key" "shown_key" Zce f fd)(B:Bt mg):FnOk P w K mg base CX0 1 f fd ["key"] Zdj:=by
 refine F.ok Ziv (fun vs H Q E h=>?_) (fun k A outer s H vs Q E l h=>?_)
 ·obtain⟨t,a,d,c,rfl,_⟩:=h;rfl
 ·obtain⟨t,a,d,c,rfl,b,g,e,k1,k2,q⟩:=h;refine⟨_,(@Zag _ _ _ (@Zat _ _ _ _ (@pe_bmK _ K _ _ _ _ _ _ _ _ _ _ _ rfl PySem.F.plainAttrs_str PySem.F.slot_str_join PySem.F.type_str_join (mt_join (K:=K) rfl) (@Zaj _ _ _ _) (@pa_cons _ _ _ _ _ (@Zbm _ _ _ _ (@pa_cons _ _ _ _ _ (Zbz Zjp rfl B.bstr (by rfl) (@pa_cons _ _ _ _ _ (@Za2 _ _ _ _ _ _ _ (Zd2 (K:=K) rfl) (pv 0) (@Zad _ _ _ _) (fun _ _=>rfl)) Zac Zah)) (@pa_cons _ _ _ _ _ (@Za2 _ _ _ _ _ _ _ (Zd2 (K:=K) rfl) (pv 0) (@Zad _ _ _ _) (fun _ _=>rfl)) (@pa_cons _ _ _ _ _ (@Za2 _ _ _ _ _ _ _ (Zd2 (K:=K) rfl) (pv 0) (@Zad _ _ _ _) (fun _ _=>rfl)) Zac Zah) Zah) Za6)) Zac Zfe) (by rfl) (by rfl) (by rfl) (by rfl) (by rfl)))),?_⟩;walk_at "rd";refine⟨rfl,_,SqT.of b,_,at0,a,rfl,Zja g e,_,SqT.of b,_,Zar (j:=1) rfl,_,SqT.of b,_,Zar (j:=2) rfl,Zai (by decide),fun p G m s i=>⟨[numT a,d,c],SqL.of i,?_,q G s⟩⟩;have h1:=(Zdk g e).len2;have h2:=k1.2.1;have n:=k2.2.1;simp only[List.map_cons,List.map_nil,List.sum_cons,List.sum_nil,List.length_cons,List.length_nil];rw[show(Str.ofString " ").length=1 by decide +kernel];omega
def Zcl:Sp:=fun vs H Q _=>∃ (b:Bool) (z:Str),vs=[.bl b,.str z]/\Q (.str (Zcc b z)) H
abbrev Zbu:Stmt:=top 44
theorem Zgw:Zaq ["truth","sign"] ["truth","sign"] (defScope Zbu):=⟨rfl,rfl,rfl,by decide +kernel,rfl,by decide +kernel,by decide +kernel⟩
theorem Zg2{f:Addr}{fd:FuncData}(F:Fun K "shown_truth" "shown_truth" Zbu f fd)(T:Cn mg):FnOk P w K mg base CX0 1 f fd ["truth","sign"] Zcl:=by
 refine F.ok Zgw (fun vs H Q E h=>?_) (fun a A outer s H vs Q E c h=>?_)
 ·obtain⟨b,z,rfl,_⟩:=h;rfl
 ·obtain⟨b,z,rfl,q⟩:=h;refine⟨_,(Zag (Zat (Zo4 (Zby (pv 0)) (pv 1) (Zck rfl T.c_NO_SIGN)))),?_⟩;walk_at "rd";unfold Zcc at q;cases b
  ·exact q
  ·exact q
theorem Zju:∀ns:List Int,((ns.map Zil).map (fun z:Str=>z.length)).sum <=2*ns.length
 |[]=>Nat.le_refl _
 |a::r=>by
  have ih:=Zju r;rw[List.map_cons,List.map_cons,List.sum_cons,List.length_cons,Zbg,Zgu];simp only[List.length_cons,List.length_nil];omega
def Zcm:Sp:=fun vs H Q _=>∃ (b:Addr) (ns:List Int),vs=[.ref b]/\H b=some (.lst (ns.map V.int))/\ns.length <=4000/\(∀x∈ns,0 <=x/\x <=255)/\∀G,Same H G->Q (.str (bytesT ns)) G
abbrev Zbk:Stmt:=top 45
theorem Zgx:Zaq ["body"] ["body"] (defScope Zbk):=⟨rfl,rfl,rfl,by decide +kernel,rfl,by decide +kernel,by decide +kernel⟩
theorem Zg3{f:Addr}{fd:FuncData}(F:Fun K "shown_bytes" "shown_bytes" Zbk f fd)(T:Cn mg):FnOk P w K mg base CX0 1 f fd ["body"] Zcm:=by
 refine F.ok Zgx (fun vs H Q E h=>?_) (fun y A outer s H vs Q E z h=>?_)
 ·obtain⟨b,c,rfl,_⟩:=h;rfl
 ·obtain⟨b,c,rfl,o,hl,m,q⟩:=h;refine⟨_,(@Zag _ _ _ (@Zat _ _ _ _ (@pe_bmK _ K _ _ _ _ _ _ _ _ _ _ _ rfl PySem.F.plainAttrs_str PySem.F.slot_str_join PySem.F.type_str_join (mt_join (K:=K) rfl) (@Zaj _ _ _ _) (@pa_cons _ _ _ _ _ (Zdf (N':=["byte"]) (caps:=[none]) (Zgs (sc:=defScope Zbk) (N:=["body"]) rfl rfl (by decide +kernel)) rfl (Zlz (K:=K) rfl (pv 0)) (fun _ _ _ _ _=>(Zcj (i:=0) (Zgl (N:=["byte"]) rfl (by decide +kernel)) rfl (Or.inl rfl))) (fun _ _ _ _ _=>Zeb) (fun _ _ _ _ _=>(@Za1 _ _ _ _ _ _ _ _ Zhd (@Za2 _ _ _ _ _ _ _ Zgo (Zck rfl T.c_HALVES) (@Za1 _ _ _ _ _ _ _ _ Zcx (pv 0) (Zb8 rfl T.c_BASE)) (fun _ _=>rfl)) (@Za2 _ _ _ _ _ _ _ Zgo (Zck rfl T.c_HALVES) (@Za1 _ _ _ _ _ _ _ _ Zdg (pv 0) (Zb8 rfl T.c_BASE)) (fun _ _=>rfl))))) Zac Zcb) (by rfl) (by rfl) (by rfl) (by rfl) (by rfl)))),?_⟩;walk_at "rd";refine⟨rfl,⟨_,SqL.of o⟩,?_⟩;obtain⟨k,a⟩:∃k:Nat->List V->L2.St->Hp->Prop,k=fun i ys σ' G=>∃v:Option V,σ'=[v]/\ys=((c.take i).map Zil).map V.str/\G=H:=⟨_,rfl⟩
  refine Zmw (xs:=c.map V.int) k (by rw[a];exact⟨none,rfl,rfl,rfl⟩) ?_ (Zai (by rw[List.length_map];omega)) ?_ ?_ <;> rw[a]
  ·rintro i ys σ' G ⟨v,rfl,rfl,rfl⟩ _;refine⟨SqL.of o,?_⟩;rw[List.length_map,List.length_map,List.length_take];omega
  ·rintro i x ys σ' G hx ⟨v,rfl,rfl,rfl⟩;rw[<-a];rw[List.getElem?_map]at hx;obtain⟨n,l,rfl⟩:=Option.map_eq_some_iff.mp hx;have u:=m n (List.mem_of_getElem? l);have d:(Str.ofString "0123456789abcdef").length <=sizeLine:=Zai (by decide +kernel);have g:∀j:Nat,j < 16->atI (Str.ofString "0123456789abcdef").cps.toList (j:Int)=some (hvs.getD j 0):=fun j t=>Zar (by rw[Zof];exact Zoe t)
   walk_at "rd";refine⟨⟨by decide,by decide⟩,d,hvs.getD (n / 16).toNat 0,?_,by decide,d,hvs.getD (n%16).toNat 0,?_,Zai (show 1+ 1 <=100000 by decide),?_⟩
   ·have:=g (n / 16).toNat (by omega);rwa [show((n / 16).toNat:Int)=n / 16 by omega]at this
   ·have:=g (n%16).toNat (by omega);rwa [show((n%16).toNat:Int)=n%16 by omega]at this
   ·rw[a];exact⟨_,rfl,by rw[List.take_succ,l,List.map_append,List.map_append];rfl,rfl⟩
  ·rintro ys σ' G ⟨v,rfl,rfl,rfl⟩ p G h0 s r;rw[List.length_map,List.take_length]at r;refine⟨p,rfl,c.map Zil,SqL.of r,?_,q G s⟩;have e:=Zju c;rw[List.length_map,show(Str.ofString "").length=0 by decide +kernel];omega
theorem Zle(d:PD):Txt.join " " [keyT d.nu d.z1 d.z2,numT d.at',Zcc d.mo "+",Zcc d.k "!",bytesT d.ns]=textP d:=by
 apply Zc8;unfold textP Zdi;rw[Zbf,Zbf];simp only[jnC];unfold keyT;rw[Zbf];simp only[jnC,List.append_assoc]
theorem Zlf(d:LD):Txt.join " " [keyT d.nu d.z1 d.z2,Zcc d.k "!",bytesT d.ns]=textL d:=by
 apply Zc8;unfold textL Zd3;rw[Zbf,Zbf];simp only[jnC];unfold keyT;rw[Zbf];simp only[jnC,List.append_assoc]
theorem Zf4{nu:Int}{z1 z2:Str}(n0:0 <=nu)(n1:nu < 10 ^ 10)(k1:NmOk z1)(k2:NmOk z2):(keyT nu z1 z2).length <=30:=by
 have h1:=(Zdk n0 n1).len2;have h2:=k1.2.1;have a:=k2.2.1;rw[Zbg]at h1 h2 a ⊢;unfold keyT;rw[Zbf];simp only[jnC,List.length_append];rw[show(" ":Str).cps.toList.length=1 by decide +kernel];omega
theorem PD.Ok.bds'{d:PD}(h:d.Ok):0 <=d.at'/\d.at'+ d.ns.length <=4000:=by
 have h1:=h.a0;have h2:=h.rm;unfold roomB at h2;refine⟨h1,?_⟩
 split at h2
 ·simp only[Bool.and_eq_true,decide_eq_true_eq]at h2;omega
 ·simp only[decide_eq_true_eq]at h2;omega
theorem Zdp(b:Bool):(Zcc b "+").length=1/\(Zcc b "!").length=1:=by cases b <;> exact⟨by decide +kernel,by decide +kernel⟩
def Zlq(C:Addr):Sp:=fun vs H Q _=>∃ (p b:Addr) (d:LD),vs=[.ref p]/\LetO C H p b d/\∀t G,H t=none->Same H G->G t=some (.tup [.int d.nu,.str d.z1,.str d.z2])->Q (.ref t) G
theorem Zpg{C:Addr}(F:MtB P w K mg base C "key" 1 ["self"] [] (Zd0 C)):MtB P w K mg base C "key" 1 ["self"] [] (Zlq C):=
 F.imp fun vs H Q E ⟨p,b,d,e,h,q⟩=>⟨p,_,_,_,_,_,e,h.ats,fun t a=>q t _ a (Zbc a) Zan⟩
def Zf0(CP:Addr):Sp:=fun vs H Q _=>∃ (p b:Addr) (d:PD),vs=[.ref p]/\PieO CP H p b d/\∀G,Same H G->Q (.str (textP d)) G
abbrev Zfk:Stmt:=top 46
theorem Zhv:Zaq ["piece","more","keep"] ["piece"] (defScope Zfk):=⟨rfl,rfl,rfl,by decide +kernel,rfl,by decide +kernel,by decide +kernel⟩
theorem Zpa{f CP:Addr}{fd:FuncData}(F:Fun K "shown" "shown" Zfk f fd)(B:Bt mg)(T:Cn mg)(LP:Zpy K CP)(F_shown_key:FnB P w K mg base "shown_key" 1 ["key"] [] Zdj)(F_shown_truth:FnB P w K mg base "shown_truth" 1 ["truth","sign"] [] Zcl)(F_shown_bytes:FnB P w K mg base "shown_bytes" 1 ["body"] [] Zcm)(F_Piece_key:MtB P w K mg base CP "key" 1 ["self"] [] (Zlp CP)):FnOk P w K mg base CX0 2 f fd ["piece"] (Zf0 CP):=by
 refine F.ok Zhv (fun vs H Q E h=>?_) (fun r A outer s H vs Q E c h=>?_)
 ·obtain⟨p,b,d,rfl,_⟩:=h;rfl
 ·obtain⟨p,b,d,rfl,a,q⟩:=h;refine⟨_,(@Zae _ _ _ _ _ (@Zav _ _ 1 _ _ _ _ (Zhv).nd rfl (Or.inl rfl) (Zaf F_shown_truth (c.mono (by decide)) rfl (@pa_cons _ _ _ _ _ (Zfq (K:=K) rfl (pv 0) rfl) (@pa_cons _ _ _ _ _ (Zck rfl T.c_MORE_SIGN) Zac Zab) Za3)) (by rfl) (Or.inl rfl)) (@Zae _ _ _ _ _ (@Zav _ _ 2 _ _ _ _ (Zhv).nd rfl (Or.inl rfl) (Zaf F_shown_truth (c.mono (by decide)) rfl (@pa_cons _ _ _ _ _ (Zfq (K:=K) rfl (pv 0) rfl) (@pa_cons _ _ _ _ _ (Zck rfl T.c_KEEP_SIGN) Zac Zab) Za3)) (by rfl) (Or.inl rfl)) (@Zag _ _ _ (@Zat _ _ _ _ (@pe_bmK _ K _ _ _ _ _ _ _ _ _ _ _ rfl PySem.F.plainAttrs_str PySem.F.slot_str_join PySem.F.type_str_join (mt_join (K:=K) rfl) (@Zaj _ _ _ _) (@pa_cons _ _ _ _ _ (@Zbm _ _ _ _ (@pa_cons _ _ _ _ _ (Zaf F_shown_key (c.mono (by decide)) rfl (@pa_cons _ _ _ _ _ (Zi0 (pv 0) F_Piece_key (c.mono (by decide))) Zac Za6)) (@pa_cons _ _ _ _ _ (Zbz Zjp rfl B.bstr (by rfl) (@pa_cons _ _ _ _ _ (Zfq (K:=K) rfl (pv 0) rfl) Zac Za3)) (@pa_cons _ _ _ _ _ (pv 1) (@pa_cons _ _ _ _ _ (pv 2) (@pa_cons _ _ _ _ _ (Zaf F_shown_bytes (c.mono (by decide)) rfl (@pa_cons _ _ _ _ _ (Zfq (K:=K) rfl (pv 0) rfl) Zac Za3)) Zac Za6) Zab) Zab) Za6) Za6)) Zac Zfe) (by rfl) (by rfl) (by rfl) (by rfl) (by rfl)))))),?_⟩;walk_at "rd";have a0:=a.ok.a0;have i:d.at' < 10 ^ 10:=by have:=a.ok.bds';omega
  have n0:=a.ok.n0;have n1:d.nu < 10 ^ 10:=by have:=a.ok.n1;omega
  refine⟨_,Zsc LP a,_,_,rfl,_,Zsd LP a,_,_,rfl,rfl,Zt8 a,p,b,d,rfl,a,fun t G1 u s1 o=>⟨t,d.nu,d.z1,d.z2,rfl,o,n0,n1,a.ok.k1,a.ok.k2,fun G2 s2=>?_⟩⟩;have g:=s1.trans s2;have e:=a.mono g;refine⟨_,Zvq LP e,d.at',rfl,Zja a0 i,_,Zse LP e,b,d.ns,rfl,e.bd,a.ok.l2,a.ok.by',fun G3 m=>⟨Zai (by decide),fun l G4 v j n=>?_⟩⟩;refine⟨[keyT d.nu d.z1 d.z2,numT d.at',Zcc d.mo "+",Zcc d.k "!",bytesT d.ns],SqL.of n,?_,?_⟩
  ·have h1:=Zf4 n0 n1 a.ok.k1 a.ok.k2;have h2:=(Zdk a0 i).len2;have z:=Zdp d.mo;have y:=Zdp d.k;have h5:=Zbb d.ns;have x:=a.ok.l2;simp only[List.map_cons,List.map_nil,List.sum_cons,List.sum_nil,List.length_cons,List.length_nil];rw[show(Str.ofString " ").length=1 by decide +kernel];omega
  ·rw[Zle];exact q _ ((g.trans m).trans j)
def Zb7(CL:Addr):Sp:=fun vs H Q _=>∃ (p b:Addr) (d:LD),vs=[.ref p]/\LetO CL H p b d/\∀G,Same H G->Q (.str (textL d)) G
abbrev Zbp:Stmt:=top 47
theorem Zgc:Zaq ["letter"] ["letter"] (defScope Zbp):=⟨rfl,rfl,rfl,by decide +kernel,rfl,by decide +kernel,by decide +kernel⟩
theorem Zgj{f CL:Addr}{fd:FuncData}(F:Fun K "shown_letter" "shown_letter" Zbp f fd)(B:Bt mg)(T:Cn mg)(L:Zso K CL)(F_shown_key:FnB P w K mg base "shown_key" 1 ["key"] [] Zdj)(F_shown_truth:FnB P w K mg base "shown_truth" 1 ["truth","sign"] [] Zcl)(F_shown_bytes:FnB P w K mg base "shown_bytes" 1 ["body"] [] Zcm)(F_Letter_key:MtB P w K mg base CL "key" 1 ["self"] [] (Zlq CL)):FnOk P w K mg base CX0 2 f fd ["letter"] (Zb7 CL):=by
 refine F.ok Zgc (fun vs H Q E h=>?_) (fun o A outer s H vs Q E e h=>?_)
 ·obtain⟨p,b,d,rfl,_⟩:=h;rfl
 ·obtain⟨p,b,d,rfl,a,q⟩:=h;refine⟨_,(@Zag _ _ _ (@Zat _ _ _ _ (@pe_bmK _ K _ _ _ _ _ _ _ _ _ _ _ rfl PySem.F.plainAttrs_str PySem.F.slot_str_join PySem.F.type_str_join (mt_join (K:=K) rfl) (@Zaj _ _ _ _) (@pa_cons _ _ _ _ _ (@Zbm _ _ _ _ (@pa_cons _ _ _ _ _ (Zaf F_shown_key (e.mono (by decide)) rfl (@pa_cons _ _ _ _ _ (Zi0 (pv 0) F_Letter_key (e.mono (by decide))) Zac Za6)) (@pa_cons _ _ _ _ _ (Zaf F_shown_truth (e.mono (by decide)) rfl (@pa_cons _ _ _ _ _ (Zfq (K:=K) rfl (pv 0) rfl) (@pa_cons _ _ _ _ _ (Zck rfl T.c_KEEP_SIGN) Zac Zab) Za3)) (@pa_cons _ _ _ _ _ (Zaf F_shown_bytes (e.mono (by decide)) rfl (@pa_cons _ _ _ _ _ (Zfq (K:=K) rfl (pv 0) rfl) Zac Za3)) Zac Za6) Za6) Za6)) Zac Zfe) (by rfl) (by rfl) (by rfl) (by rfl) (by rfl)))),?_⟩;walk_at "rd";have n0:=a.ok.n0;have n1:d.nu < 10 ^ 10:=by have:=a.ok.n1;omega
  refine⟨rfl,Zt9 a,p,b,d,rfl,a,fun t G1 r s1 n=>⟨t,d.nu,d.z1,d.z2,rfl,n,n0,n1,a.ok.k1,a.ok.k2,fun G2 s2=>?_⟩⟩;have g:=s1.trans s2;have c:=a.mono g;refine⟨_,Zsf L c,_,_,rfl,_,Zsg L c,b,d.ns,rfl,c.bd,a.ok.l2,a.ok.by',fun z j=>⟨Zai (by decide),fun l y u i m=>?_⟩⟩;refine⟨[keyT d.nu d.z1 d.z2,Zcc d.k "!",bytesT d.ns],SqL.of m,?_,?_⟩
  ·have h1:=Zf4 n0 n1 a.ok.k1 a.ok.k2;have x:=Zdp d.k;have h5:=Zbb d.ns;have v:=a.ok.l2;simp only[List.map_cons,List.map_nil,List.sum_cons,List.sum_nil,List.length_cons,List.length_nil];rw[show(Str.ofString " ").length=1 by decide +kernel];omega
  ·rw[Zlf];exact q _ ((g.trans j).trans i)
end
open PySem.NumText in
theorem Zjm:∀ (n:Nat) (ds:List Nat),ds.length=n->(∀c∈ds,48 <=c/\c <=57)->ds≠[]->ds.head?≠some 48->(Nat.toDigits 10 (digitsVal ds)).map Char.toNat=ds/\0 < digitsVal ds
 |0,ds,hl,_,h0,_=>absurd (List.length_eq_zero_iff.mp hl) h0
 |n+ 1,ds,hl,hd,h0,h1=>by
  obtain⟨l,c,rfl⟩:∃l c,ds=l++[c]:=⟨ds.dropLast,ds.getLast h0,(List.dropLast_concat_getLast h0).symm⟩;have j:=hd c (by simp);have i:∀d:_root_.Fin 10,(Nat.digitChar d.val).toNat=48+ d.val:=by decide +kernel
  have f:((Nat.toDigits 10 (c - 48)).map Char.toNat)=[c]:=by
   rw[Nat.toDigits_of_lt_base (by omega)];have:=i ⟨c - 48,by omega⟩;simp only[List.map_cons,List.map_nil];rw[this];congr 1;show 48+ (c - 48)=c;omega
  cases l with
  |nil=>
   have:c≠48:=fun z=>h1 (by simp[z])
   rw[List.nil_append];have e:digitsVal [c]=c - 48:=by unfold digitsVal;simp
   rw[e,f];exact⟨rfl,by omega⟩
  |cons a r=>
   have g:=Zjm n (a::r) (by simpa using hl) (fun x hx=>hd x (by simp at hx ⊢;rcases hx with h|h <;> simp[h])) (by simp) (by simpa using h1);rw[digitsVal_snoc];have t:=Nat.toDigits_append_toDigits (b:=10) (n:=digitsVal (a::r)) (d:=c - 48) (by decide) g.2 (by omega);rw[Nat.mul_comm,<-t,List.map_append,g.1,f];exact⟨rfl,by omega⟩
def Zfy(c:Nat):Bool:=decide (48 <=c) && decide (c <=57)
def Zl8(z:Str):Bool:=z.cps.toList.all Zfy && (decide (z="0")|| !Txt.startswith z "0") && !decide (z.length=0)
theorem Zps{z:Str}(h:z.cps.toList.all Zfy=true):∀c∈z.cps.toList,48 <=c/\c <=57:=fun c a=>by
 have:=List.all_eq_true.mp h c a;unfold Zfy at this;simpa using this
theorem Zj6{z:Str}:Txt.startswith z "0"=decide (z.cps.toList.head?=some 48):=by
 cases hz:z.cps.toList with
 |nil=>
  have:z="":=Zc8 (by rw[hz];decide +kernel)
  subst this;decide +kernel
 |cons c r=>
  by_cases hc:c=48
  ·subst hc;rw[show decide ((48::r).head?=some 48)=true by simp];unfold Txt.startswith Builtin.Str.subAt;have e:("0":Str).cps=#[48]:=by decide +kernel
   have d:("0":Str).length=1:=by decide +kernel
   have b:z.length=r.length+ 1:=by rw[Zbg,hz];simp
   have a:z.cps.extract 0 (0+ 1)=#[48]:=by
    apply Array.toList_inj.mp;rw[Array.toList_extract,hz];simp
   simp[e,d,b,a]
  ·rw[Zit hz hc];simp[hc]
theorem Zpr{z:Str}(h:Zl8 z=true):∃m:Nat,z=numT (m:Int)/\(Nat.toDigits 10 m).length=z.length/\(∀c∈z.cps.toList,48 <=c/\c <=57):=by
 unfold Zl8 at h;simp only[Bool.and_eq_true,Bool.or_eq_true,decide_eq_true_eq,Bool.not_eq_true',decide_eq_false_iff_not]at h;obtain⟨⟨h1,h2⟩,g⟩:=h;have d:=Zps h1;have key:∀m:Nat,(Nat.toDigits 10 m).map Char.toNat=z.cps.toList->z=numT (m:Int)/\(Nat.toDigits 10 m).length=z.length:=fun m e=>by
  have hs:(numT (m:Int)).cps.toList=(Nat.toDigits 10 m).map Char.toNat:=W.KIN.signs_num m;refine⟨Zc8 (by rw[hs,e]),?_⟩;rw[Zbg,<-e,List.length_map]
 rcases h2 with h2|h2
 ·subst h2;obtain⟨a,b⟩:=key 0 (by decide +kernel);exact⟨0,a,b,d⟩
 ·rw[Zj6]at h2;have f:z.cps.toList≠[]:=fun e=>g (by rw[Zbg,e];rfl)
  obtain⟨a,b⟩:=key _ (Zjm _ _ rfl d f (by simpa using h2)).1;exact⟨_,a,b,d⟩
theorem Zl4{n:Int}(h0:0 <=n)(h1:n < 10 ^ 10):Zl8 (numT n)=true:=by
 have ok:=Zdk h0 h1;have b:=ok.len1;unfold Zl8;simp only[Bool.and_eq_true,Bool.or_eq_true,decide_eq_true_eq,Bool.not_eq_true',decide_eq_false_iff_not];refine⟨⟨List.all_eq_true.mpr fun c a=>?_,ok.zero⟩,by omega⟩;have:=ok.dig c a;unfold Zfy;simp[this.1,this.2]
theorem Zei{z:Str}(h:Zl8 z=true)(hl:z.length <=4000):∃n:Int,0 <=n/\z=numT n/\intText? z=some n/\∀k:Nat,1 <=k->(z.length <=k↔n < 10 ^ k):=by
 obtain⟨m,e,a,f⟩:=Zpr h;have hs:(numT (m:Int)).cps.toList=(Nat.toDigits 10 m).map Char.toNat:=W.KIN.signs_num m;have c:z.cps.toList≠[]:=fun q=>by
  have:0 < (Nat.toDigits 10 m).length:=Nat.length_toDigits_pos;rw[a,Zbg,q]at this;simp at this
 have d:=intText_digits (x:=z) f c (by omega);have g:PySem.NumText.digitsVal z.cps.toList=m:=by rw[e,hs,W.KIN.val_back]
 rw[g]at d;refine⟨m,by omega,e,d,fun k i=>?_⟩;have:=Nat.length_toDigits_le_iff (b:=10) (n:=m) (k:=k) (by decide) (by omega);rw[a]at this;rw[this];exact_mod_cast Iff.rfl
theorem Zl3(x:Str)(c:Nat):(Builtin.Str.occurrences x ⟨#[c]⟩ 0 x.length 1).isEmpty= !decide (c∈x.cps.toList):=by
 have:=StrLaws.found_one x c;rw[<-this,Bool.not_not]
theorem Zod{c:Nat}(h:c∈hvs):∃i,i < 16/\hvs.getD i 0=c:=by
 obtain⟨i,hi,e⟩:=List.mem_iff_getElem.mp h;exact⟨i,hi,by rw[List.getD_eq_getElem?_getD,List.getElem?_eq_getElem hi,e];rfl⟩
def Zmt(z:Str):Bool:=decide (z.length%2=0) && z.cps.toList.all fun c=>decide (c∈hvs)
theorem Zji:∀ (n:Nat) (l:List Nat),l.length=2*n->(∀c∈l,c∈hvs)->∃ns:List Int,ns.length=n/\(∀x∈ns,0 <=x/\x <=255)/\(ns.map fun b=>[hvs.getD (b / 16).toNat 0,hvs.getD (b%16).toNat 0]).flatten=l
 |0,l,hl,_=>⟨[],rfl,by simp,by rw[List.length_eq_zero_iff.mp hl];rfl⟩
 |n+ 1,[],hl,_=>by simp at hl
 |n+ 1,[a],hl,_=>by simp at hl;omega
 |n+ 1,a::b::r,hl,hm=>by
  obtain⟨ns,h1,h2,h3⟩:=Zji n r (by simp at hl;omega) fun c d=>hm c (by simp[d])
  obtain⟨i,hi,f⟩:=Zod (hm a (by simp));obtain⟨j,k,e⟩:=Zod (hm b (by simp));refine⟨((16*i+ j:Nat):Int)::ns,by rw[List.length_cons,h1],fun x hx=>?_,?_⟩
  ·rcases List.mem_cons.mp hx with rfl|hx
   ·omega
   ·exact h2 x hx
  ·rw[List.map_cons,List.flatten_cons,h3];have h:(((16*i+ j:Nat):Int) / 16).toNat=i:=by omega
   have g:(((16*i+ j:Nat):Int)%16).toNat=j:=by omega
   rw[h,g,f,e];rfl
theorem Zhg{z:Str}(h:Zmt z=true):∃ns:List Int,z=bytesT ns/\z.length=2*ns.length/\∀x∈ns,0 <=x/\x <=255:=by
 unfold Zmt at h;simp only[Bool.and_eq_true,decide_eq_true_eq,List.all_eq_true]at h;obtain⟨ns,h1,h2,a⟩:=Zji (z.length / 2) z.cps.toList (by rw[<-Zbg];omega) h.2;have e:z=bytesT ns:=Zc8 (by rw[Zc7,a]);exact⟨ns,e,by rw[e,Zbb],h2⟩
theorem Zfu{ns:List Int}(hb:∀x∈ns,0 <=x/\x <=255):Zmt (bytesT ns)=true:=by
 unfold Zmt;simp only[Bool.and_eq_true,decide_eq_true_eq,List.all_eq_true];refine⟨by rw[Zbb];omega,fun c a=>?_⟩;obtain⟨i,hi,rfl⟩:=Zhk hb a;exact List.mem_of_getElem? (Zoe hi)
theorem join_split(z:Str):Txt.join " " (Txt.split z " ")=z:=by
 have e:=StrLaws.join_split z " "
 rw[<-StrLaws.glued_eq_join]at e;exact e
theorem split_free{z w:Str}(h:w∈Txt.split z " "):32∉w.cps.toList:=by
 rw[Zf7]at h;exact StrLaws.split_free _ 32 w h
theorem Zoa(c:List Nat):∀ws:List Str,ws≠[]->(jnC c ws).length+ c.length=(ws.map (fun w:Str=>w.length)).sum+ ws.length*c.length
 |[],h=>absurd rfl h
 |[w],_=>by simp[jnC,Zbg]
 |w::v::r,_=>by
  have ih:=Zoa c (v::r) (by simp);simp only[jnC,List.length_append,List.map_cons,List.sum_cons,List.length_cons]at ih ⊢;rw[<-Zbg];rw[Nat.add_mul,Nat.one_mul];omega
theorem Zhn(z:Str):Txt.split z " "≠[]:=fun e=>by
 have h1:=(fact_split z " ").1;rw[e]at h1;simp at h1
theorem Zf8(z:Str):((Txt.split z " ").map (fun w:Str=>w.length)).sum+ (Txt.split z " ").length=z.length+ 1:=by
 have e:=congrArg (fun q:Str=>q.cps.toList.length) (join_split z);simp only[Zbf]at e;have:=Zoa (" ":Str).cps.toList (Txt.split z " ") (Zhn z);rw[show(" ":Str).cps.toList.length=1 by decide +kernel]at this;rw[e,<-Zbg]at this;omega
theorem Zf5(ws:List Str):(Txt.join " " ws).length <=(ws.map (fun w:Str=>w.length)).sum+ ws.length:=by
 by_cases h:ws=[]
 ·subst h;decide +kernel
 ·have:=Zoa (" ":Str).cps.toList ws h;rw[show(" ":Str).cps.toList.length=1 by decide +kernel]at this;rw[Zbg,Zbf];omega
theorem Zk0{ws:List Str}{w:Str}(h:w∈ws):w.length <=(ws.map (fun w:Str=>w.length)).sum:=by
 induction ws with
 |nil=>cases h
 |cons a r ih=>
  rw[List.map_cons,List.sum_cons];rcases List.mem_cons.mp h with rfl|h
  ·omega
  ·have:=ih h;omega
theorem Zed{z w:Str}(h:w∈Txt.split z " "):w.length <=z.length:=by
 have h1:=Zk0 h;have h2:=Zf8 z;have a:0 < (Txt.split z " ").length:=List.length_pos_iff.mpr (Zhn z);omega
section
variable{P:Program}{w:World}{K:W.Frag}{mg:Str->Option Value}{base:Heap}
theorem Zul(c:Nat):(!decide (({cps:=#[c]}:Str).cps.toList < ("0":Str).cps.toList))=decide (48 <=c)/\(!decide (("9":Str).cps.toList < ({cps:=#[c]}:Str).cps.toList))=decide (c <=57):=by
 have b:("0":Str).cps.toList=[48]:=by decide +kernel
 have a:("9":Str).cps.toList=[57]:=by decide +kernel
 rw[b,a];constructor
 ·rw[Bool.eq_iff_iff];simp only[Bool.not_eq_true',decide_eq_false_iff_not,decide_eq_true_eq,List.cons_lt_cons_iff,List.lt_irrefl,and_false,or_false,Nat.not_lt]
 ·rw[Bool.eq_iff_iff];simp only[Bool.not_eq_true',decide_eq_false_iff_not,decide_eq_true_eq,List.cons_lt_cons_iff,List.lt_irrefl,and_false,or_false,Nat.not_lt]
def figs12(z:Str):Bool:=Zl8 z && decide (z.length <=12)
def Zdm:Sp:=fun vs H Q _=>∃z:Str,vs=[.str z]/\z.length <=50000/\∀G,Same H G->Q (.bl (figs12 z)) G
abbrev Zbl:Stmt:=top 14
theorem Zgz:Zaq ["word"] ["word"] (defScope Zbl):=⟨rfl,rfl,rfl,by decide +kernel,rfl,by decide +kernel,by decide +kernel⟩
theorem Zg6{f:Addr}{fd:FuncData}(F:Fun K "are_figures" "are_figures" Zbl f fd)(B:Bt mg)(T:Cn mg):FnOk P w K mg base CX0 1 f fd ["word"] Zdm:=by
 refine F.ok Zgz (fun vs H Q E h=>?_) (fun aa A outer s H vs Q E hr h=>?_)
 ·obtain⟨z,rfl,_⟩:=h;rfl
 ·obtain⟨z,rfl,hz,q⟩:=h;refine⟨_,(@Zae _ _ _ _ _ (Zbo (Zca (Zh5 Zfr Zfr (@Zad _ _ _ _) (Zas Zbe rfl B.len (by rfl) (@pa_cons _ _ _ _ _ (pv 0) Zac Zab)) (Zb8 rfl T.c_MOST_FIGURES))) (@Zag _ _ _ (@Zat _ _ _ _ Ze6)) Za0) (@Zag _ _ _ (@Zat _ _ _ _ (Zb5 (Zas (Zfb (K:=K) rfl rfl) rfl B.all (by rfl) (@pa_cons _ _ _ _ _ (Zdf (N':=["sign"]) (caps:=[none]) (Zgs (sc:=defScope Zbl) (N:=["word"]) rfl rfl (by decide +kernel)) rfl (Zhc (pv 0)) (fun _ _ _ _ _=>(Zcj (i:=0) (Zgl (N:=["sign"]) rfl (by decide +kernel)) rfl (Or.inl rfl))) (fun _ _ _ _ _=>Zeb) (fun _ _ _ _ _=>(Zf1 Zl1 Zl1 (@Zaj _ _ _ _) (pv 0) (@Zaj _ _ _ _)))) Zac Zcb)) (Zde (Ztu (Zbd Zcs (pv 0) (@Zaj _ _ _ _) (Zau _)) (Zde (Zql (@pe_bmK _ K _ _ _ _ _ _ _ _ _ _ _ rfl PySem.F.plainAttrs_str PySem.F.slot_str_startswith PySem.F.type_str_startswith Zn5 (pv 0) (@pa_cons _ _ _ _ _ (@Zaj _ _ _ _) Zac Zaa) (by rfl) (by rfl) (by rfl) (by rfl) (by rfl)))))))))),?_⟩;refine Zal fun N m=>?_
  walk_at "rd";refine⟨Zai (by omega),?_⟩
  by_cases hl:1 <=z.length/\z.length <=12
  ·rw[if_pos (decide_eq_true (by omega)),if_neg (by simp;omega)];refine m _ _ ?_;clear m N;have j:z.cps.size=z.length:=rfl;walk_at "rd";obtain⟨g,d⟩:∃g:Nat->List V->L2.St->Hp->Prop,g=fun i ys σ' H1=>H1=H/\i <=z.cps.size/\ys=(z.cps.toList.take i).map (fun c=>V.bl (Zfy c))/\∃v,σ'=[v]:=⟨_,rfl⟩
   refine Zf6 g (by rw[d];exact⟨rfl,Nat.zero_le _,rfl,none,rfl⟩) ?_ (by rw[j];exact Zai (by omega)) ?_ ?_ <;> rw[d]
   ·rintro i ys σ' H1 ⟨_,hi,rfl,_⟩ _;rw[List.length_map,List.length_take];omega
   ·rintro i c ys σ' H1 l ⟨rfl,hi,rfl,v,rfl⟩;rw[<-d];have y:i < z.cps.size:=(Array.getElem?_eq_some_iff.mp l).1;have k:z.cps.toList[i]?=some c:=by rw[Array.getElem?_toList];exact l
    walk_at "rd";obtain⟨x,u⟩:=Zul c;rw[x,u];have a:V.bl (Zfy c)=V.bl (Zfy c)->g (i+ 1) ((z.cps.toList.take i).map (fun c=>V.bl (Zfy c))++[V.bl (Zfy c)]) [some (.str ⟨#[c]⟩)] H1:=fun _=>by
     rw[d];exact⟨rfl,by omega,by rw[List.take_succ,k,List.map_append];rfl,_,rfl⟩
    have a:=a rfl
    by_cases h1:48 <=c
    ·rw[if_pos (decide_eq_true h1)];unfold Zfy at a;rw[decide_eq_true h1,Bool.true_and]at a;unfold Zfy;exact a
    ·rw[if_neg (by simpa using h1)];unfold Zfy at a;rw[decide_eq_false h1,Bool.false_and]at a;unfold Zfy;exact a
   ·rintro ys σ' H1 ⟨rfl,_,rfl,_⟩ p r;rw[show z.cps.toList.take z.cps.size=z.cps.toList by rw[<-Array.length_toList,List.take_length]];refine⟨p,rfl,z.cps.toList.map Zfy,SqL.of (by rw[List.map_map];exact Zan),?_⟩;have n:=Zbc (o:=HO.lst (z.cps.toList.map fun c=>V.bl (Zfy c))) r;have b:=q _ n;rw[List.all_map,show(id ∘ Zfy)=Zfy from rfl];have t:figs12 z=(z.cps.toList.all Zfy && (decide (z="0")|| !Txt.startswith z "0")):=by
     unfold figs12 Zl8;rw[decide_eq_true hl.2,decide_eq_false (show ¬z.length=0 by omega)];simp
    rw[t]at b;cases ha:z.cps.toList.all Zfy with
    |false=>rw[ha]at b;exact b
    |true=>
     rw[ha,Bool.true_and]at b;rw[if_pos rfl];refine⟨rfl,?_⟩;cases h0:decide (z="0") with
     |true=>rw[h0]at b;exact b
     |false=>rw[h0]at b;exact⟨rfl,b⟩
  ·have e:figs12 z=false:=by
    unfold figs12 Zl8
    by_cases h1:z.length=0
    ·rw[decide_eq_true h1];simp
    ·rw[decide_eq_false (show ¬z.length <=12 by omega)];simp
   rw[e]at q
   by_cases h1:1 <=z.length
   ·rw[if_pos (decide_eq_true (by omega)),if_pos (by simp;omega)];exact q H (Same.refl H)
   ·rw[if_neg (by simp;omega)];exact q H (Same.refl H)
def Zdt(NT:Addr):Sp:=fun vs H Q E=>∃ (x:V) (ty:String) (n:Int),vs=[x,.int n]/\tyF H x=some ty/\(∀z,x= .str z->z.length <=50000)/\((¬∃z,x= .str z/\((Txt.split z " ").length:Int)=n)->∀G,Same H G->E (.ref NT) none G)/\
 ∀z,x= .str z->((Txt.split z " ").length:Int)=n->∀l G,H l=none->Same H G->G l=some (.lst ((Txt.split z " ").map V.str))->Q (.ref l) G
abbrev Zcy:Stmt:=top 48
theorem Zgb:Zaq ["text","count","words"] ["text","count"] (defScope Zcy):=⟨rfl,rfl,rfl,by decide +kernel,rfl,by decide +kernel,by decide +kernel⟩
theorem Zkq{f NT:Addr}{fd:FuncData}(F:Fun K "words_of" "words_of" Zcy f fd)(B:Bt mg)(X_NoText:XC K mg "NoText" NT):FnOk P w K mg base (CXx P w) 1 f fd ["text","count"] (Zdt NT):=by
 refine F.okX Zgb (fun vs H Q E h=>?_) (fun j A outer s H vs Q E k h=>?_)
 ·obtain⟨x,ty,n,rfl,_⟩:=h;rfl
 ·obtain⟨x,ty,n,rfl,a,g,b,q⟩:=h;refine⟨_,(@Zae _ _ _ _ _ (Zbo (Zca (Zby (Zas (Zds "str") rfl B.isinstance (by rfl) (@pa_cons _ _ _ _ _ (pv 0) (@pa_cons _ _ _ _ _ (Zex (v:=.ty "str") rfl B.bstr (by rfl) rfl) Zac Zab) Zab)))) (@Zag _ _ _ (Ze4 Za7 rfl rfl X_NoText (@Zaj _ _ _ _))) Za0) (@Zae _ _ _ _ _ (@Zav _ _ 2 _ _ _ _ (Zgb).nd rfl (Or.inl rfl) (@pe_bmK _ K _ _ _ _ _ _ _ _ _ _ _ rfl PySem.F.plainAttrs_str PySem.F.slot_str_split PySem.F.type_str_split Zf3 (pv 0) (@pa_cons _ _ _ _ _ (@Zaj _ _ _ _) Zac Zaa) (by rfl) (by rfl) (by rfl) (by rfl) (by rfl)) (by rfl) (Or.inl rfl)) (@Zae _ _ _ _ _ (Zbo (Zaw Zi4 (Zas (Zbt (K:=K) rfl) rfl B.len (by rfl) (@pa_cons _ _ _ _ _ (pv 2) Zac Zab)) (pv 1) (Zau _)) (@Zag _ _ _ (Ze4 Za7 rfl rfl X_NoText (@Zaj _ _ _ _))) Za0) (@Zag _ _ _ (@Zat _ _ _ _ (pv 2)))))),?_⟩;refine Zal fun N c=>?_
  walk_at "rd";refine⟨ty,a,?_⟩;rw[Zp0 a];cases hx:isS x with
  |false=>
   rw[if_pos (by rfl)];refine b ?_ H (Same.refl H);rintro⟨z,rfl,_⟩;cases hx
  |true=>
   rw[if_neg (by simp)];obtain⟨z,rfl⟩:∃z,x= .str z:=by cases x <;> first|exact⟨_,rfl⟩|cases hx
   refine c _ _ ?_;clear c N;walk_at "rd";refine⟨rfl,by decide +kernel,g z rfl,fun l G i s d=>⟨_,.inl (SqL.of d),rfl,?_⟩⟩;rw[List.length_map]
   by_cases h:((Txt.split z " ").length:Int)=n
   ·rw[if_neg (by simpa using h)];exact q z rfl h l G i s d
   ·rw[if_pos (by simpa using h)];refine b ?_ G s;rintro⟨z',e,h'⟩;cases e;exact h h'
def Zcn(NT:Addr):Sp:=fun vs H Q E=>∃z:Str,vs=[.str z]/\z.length <=50000/\(figs12 z=false->∀G,Same H G->E (.ref NT) none G)/\(∀n:Int,0 <=n->z=numT n->intText? z=some n->figs12 z=true->∀G,Same H G->Q (.int n) G)
abbrev Zbv:Stmt:=top 49
theorem Zgy:Zaq ["word"] ["word"] (defScope Zbv):=⟨rfl,rfl,rfl,by decide +kernel,rfl,by decide +kernel,by decide +kernel⟩
theorem Zg4{f NT:Addr}{fd:FuncData}(F:Fun K "read_number" "read_number" Zbv f fd)(B:Bt mg)(X_NoText:XC K mg "NoText" NT)(F_are_figures:FnB P w K mg base "are_figures" 1 ["word"] [] Zdm):FnOk P w K mg base (CXx P w) 2 f fd ["word"] (Zcn NT):=by
 refine F.okX Zgy (fun vs H Q E h=>?_) (fun g A outer s H vs Q E a h=>?_)
 ·obtain⟨z,rfl,_⟩:=h;rfl
 ·obtain⟨z,rfl,c,b,q⟩:=h;refine⟨_,(Zae (Zbo (Zca (Zby (Zaf F_are_figures (a.mono (by decide)) rfl (pa_cons (hs:=Zab) (pv 0) Zac)))) (Zag (Ze4 Za7 rfl rfl X_NoText Zaj)) Za0) (Zag (Zat (Zbz Zec rfl B.bint (by rfl) (pa_cons (hs:=Zab) (pv 0) Zac))))),?_⟩;walk_at "rd";refine⟨z,rfl,c,fun G s=>⟨_,rfl,?_⟩⟩;cases hf:figs12 z with
  |false=>
   rw[if_pos (by rfl)];exact b hf G s
  |true=>
   rw[if_neg (by simp)];have h1:Zl8 z=true/\z.length <=12:=by unfold figs12 at hf;simpa using hf
   obtain⟨n,d,e,a,_⟩:=Zei h1.1 (by omega);exact⟨n,a,by omega,q n d e a hf G s⟩
def Zcv(NT:Addr):Sp:=fun vs H Q E=>∃ (y z:Str),vs=[.str y,.str z]/\z≠"."/\((¬∃b,y=Zcc b z)->E (.ref NT) none H)/\∀b,y=Zcc b z->Q (.bl b) H
abbrev Zb2:Stmt:=top 50
theorem Zhw:Zaq ["word","sign"] ["word","sign"] (defScope Zb2):=⟨rfl,rfl,rfl,by decide +kernel,rfl,by decide +kernel,by decide +kernel⟩
theorem Zh8{f NT:Addr}{fd:FuncData}(F:Fun K "read_truth" "read_truth" Zb2 f fd)(T:Cn mg)(X_NoText:XC K mg "NoText" NT):FnOk P w K mg base (CXx P w) 1 f fd ["word","sign"] (Zcv NT):=by
 refine F.okX Zhw (fun vs H Q E h=>?_) (fun c A outer s H vs Q E e h=>?_)
 ·obtain⟨y,z,rfl,_⟩:=h;rfl
 ·obtain⟨y,z,rfl,d,a,q⟩:=h;refine⟨_,(Zae (Zbo (PW.pt (Zqi (Zaw Zi4 (pv 0) (pv 1) (Zau _)) (Znt (Zaw Zi4 (pv 0) (Zck rfl T.c_NO_SIGN) (Zau _))))) (Zag (Ze4 Za7 rfl rfl X_NoText Zaj)) Za0) (Zag (Zat (Zbd Zcs (pv 0) (pv 1) (Zau _))))),?_⟩;walk_at "rd"
  by_cases h1:y=z
  ·subst h1;rw[decide_eq_true rfl];exact⟨rfl,rfl,q true rfl⟩
  ·rw[decide_eq_false h1]
   by_cases h2:y="."
   ·subst h2;rw[decide_eq_true rfl];exact⟨rfl,rfl,rfl,q false rfl⟩
   ·rw[decide_eq_false h2];refine⟨rfl,rfl,a ?_⟩;rintro⟨b,rfl⟩;cases b
    ·exact h2 rfl
    ·exact h1 rfl
def Zcw(NT:Addr):Sp:=fun vs H Q E=>∃z:Str,vs=[.str z]/\z.length <=50000/\(Zmt z=false->∀G,Same H G->E (.ref NT) none G)/\∀ns:List Int,z=bytesT ns->(∀x∈ns,0 <=x/\x <=255)->∀l G,H l=none->Same H G->G l=some (.lst (ns.map V.int))->Q (.ref l) G
abbrev Zbh:Stmt:=top 51
theorem Zhx:Zaq ["word"] ["word"] (defScope Zbh):=⟨rfl,rfl,rfl,by decide +kernel,rfl,by decide +kernel,by decide +kernel⟩
theorem Zia{f NT:Addr}{fd:FuncData}(F:Fun K "read_bytes" "read_bytes" Zbh f fd)(B:Bt mg)(T:Cn mg)(X_NoText:XC K mg "NoText" NT):FnOk P w K mg base (CXx P w) 1 f fd ["word"] (Zcw NT):=by
 refine F.okX Zhx (fun vs H Q E h=>?_) (fun cdv A outer s H vs Q E hr h=>?_)
 ·obtain⟨z,rfl,_⟩:=h;rfl
 ·obtain⟨z,rfl,hz,t,q⟩:=h;refine⟨_,(@Zae _ _ _ _ _ (Zbo (PW.pt (Zew (Zaw Zcs (@Za1 _ _ _ _ _ _ _ _ Zdg (Zas Zbe rfl B.len (by rfl) (@pa_cons _ _ _ _ _ (pv 0) Zac Zab)) (@Zad _ _ _ _)) (@Zad _ _ _ _) (Zau _)) (Zea (Zca (Zby (Zas (Zfb (K:=K) rfl rfl) rfl B.all (by rfl) (@pa_cons _ _ _ _ _ (Zdf (N':=["sign"]) (caps:=[none]) (Zgs (sc:=defScope Zbh) (N:=["word"]) rfl rfl (by decide +kernel)) rfl (Zhc (pv 0)) (fun _ _ _ _ _=>(Zcj (i:=0) (Zgl (N:=["sign"]) rfl (by decide +kernel)) rfl (Or.inl rfl))) (fun _ _ _ _ _=>Zeb) (fun _ _ _ _ _=>(Zbd Ztz (pv 0) (Zck rfl T.c_HALVES) (by with_unfolding_all rfl)))) Zac Zcb))))))) (@Zag _ _ _ (Ze4 Za7 rfl rfl X_NoText (@Zaj _ _ _ _))) Za0) (@Zag _ _ _ (@Zat _ _ _ _ (Zdf (N':=["place","word"]) (caps:=[none,some 0]) (Zgs (sc:=defScope Zbh) (N:=["word"]) rfl rfl (by decide +kernel)) rfl (Znw rfl B.range (@pa_cons _ _ _ _ _ (@Zad _ _ _ _) (@pa_cons _ _ _ _ _ (Zas Zbe rfl B.len (by rfl) (@pa_cons _ _ _ _ _ (pv 0) Zac Zab)) (@pa_cons _ _ _ _ _ (@Zad _ _ _ _) Zac Zaa) Za6) Zaa)) (fun _ _ _ _ _=>(Zcj (i:=0) (Zgl (N:=["place","word"]) rfl (by decide +kernel)) rfl (Or.inl rfl))) (fun _ _ _ _ _=>Zeb) (fun _ _ _ _ _=>(@Za1 _ _ _ _ _ _ _ _ Zb9 (@Za1 _ _ _ _ _ _ _ _ Ze7 (Zb8 rfl T.c_BASE) (@pe_bmK _ K _ _ _ _ _ _ _ _ _ _ _ rfl PySem.F.plainAttrs_str PySem.F.slot_str_index PySem.F.type_str_index Zl5 (Zck rfl T.c_HALVES) (@pa_cons _ _ _ _ _ (@Za2 _ _ _ _ _ _ _ Zgo (pv 1) (pv 0) (fun _ _=>rfl)) Zac Zah) (by rfl) (by rfl) (by rfl) (by rfl) (by rfl))) (@pe_bmK _ K _ _ _ _ _ _ _ _ _ _ _ rfl PySem.F.plainAttrs_str PySem.F.slot_str_index PySem.F.type_str_index Zl5 (Zck rfl T.c_HALVES) (@pa_cons _ _ _ _ _ (@Za2 _ _ _ _ _ _ _ Zgo (pv 1) (@Za1 _ _ _ _ _ _ _ _ Zb9 (pv 0) (@Zad _ _ _ _)) (fun _ _=>rfl)) Zac Zah) (by rfl) (by rfl) (by rfl) (by rfl) (by rfl)))))))),?_⟩;refine Zal fun N hN=>?_
  walk_at "rd";have d:z.length <=sizeLine:=Zai (by omega);have u:z.cps.size=z.length:=rfl;refine⟨d,by decide,rfl,?_⟩
  by_cases hev:z.length%2=0
  ·rw[if_neg (by simp;omega)];obtain⟨r,g⟩:∃r:Nat->List V->L2.St->Hp->Prop,r=fun i ys σ' H1=>H1=H/\i <=z.cps.size/\ys=(z.cps.toList.take i).map (fun c=>V.bl (decide (c∈hvs)))/\∃v,σ'=[v]:=⟨_,rfl⟩
   refine Zf6 r (by rw[g];exact⟨rfl,Nat.zero_le _,rfl,none,rfl⟩) ?_ (by rw[u];exact d) ?_ ?_ <;> rw[g]
   ·rintro i ys σ' H1 ⟨_,_,rfl,_⟩ _;rw[List.length_map,List.length_take];omega
   ·rintro i c ys σ' H1 hc ⟨rfl,hi,rfl,v,rfl⟩;rw[<-g];have hi':i < z.cps.size:=(Array.getElem?_eq_some_iff.mp hc).1;have y:z.cps.toList[i]?=some c:=by rw[Array.getElem?_toList];exact hc
    walk_at "rd";rw[Zl3,Bool.not_not,show(Str.ofString "0123456789abcdef").cps.toList=hvs from Zof,g];exact⟨rfl,by omega,by rw[List.take_succ,y,List.map_append];rfl,_,rfl⟩
   ·rintro ys σ' H1 ⟨rfl,_,rfl,_⟩ p hp;rw[show z.cps.toList.take z.cps.size=z.cps.toList by rw[<-Array.length_toList,List.take_length]];refine⟨p,rfl,z.cps.toList.map fun c=>decide (c∈hvs),SqL.of (by rw[List.map_map];exact Zan),?_⟩;have j:=Zbc (o:=HO.lst (z.cps.toList.map fun c=>V.bl (decide (c∈hvs)))) hp;generalize upd H1 p (HO.lst (z.cps.toList.map fun c=>V.bl (decide (c∈hvs))))=G1 at j;rw[List.all_map,show(id ∘ fun c=>decide (c∈hvs))=fun c=>decide (c∈hvs) from rfl];have ev:Zmt z=z.cps.toList.all fun c=>decide (c∈hvs):=by unfold Zmt;rw[decide_eq_true hev,Bool.true_and]
    rw[<-ev];cases hh:Zmt z with
    |false=>
     rw[if_pos (by rfl)];exact t hh G1 j
    |true=>
     rw[if_neg (by simp)];refine hN _ _ ?_;clear hN N;obtain⟨a,ez,hl2,hb⟩:=Zhg hh;have q2:=q a ez hb;subst ez;have m:=Zbb a;walk_at "rd";refine⟨d,by decide,by decide,by omega,by omega,by decide,by decide,?_⟩;have x:rsz 0 ((bytesT a).length:Int) 2=a.length:=by
      unfold rsz Builtin.Range.rangeSize;rw[if_pos (by decide),m]
      split
      ·omega
      ·omega
     rw[x];obtain⟨n,e⟩:∃n:Nat->List V->L2.St->Hp->Prop,n=fun i ys σ' H2=>H2=G1/\ys=(a.take i).map V.int/\∃v,σ'=[v,some (.str (bytesT a))]:=⟨_,rfl⟩
     refine Zk5 n (by rw[e];exact⟨rfl,rfl,none,rfl⟩) ?_ (Zai (by omega)) ?_ ?_ <;> rw[e]
     ·rintro i ys σ' H2 ⟨_,rfl,_⟩ _;rw[List.length_map,List.length_take];omega
     ·rintro i ys σ' H2 hi ⟨rfl,rfl,v,rfl⟩;rw[<-e];have k:a[i]?=some a[i]:=List.getElem?_eq_getElem hi;have hbi:=hb _ (List.mem_of_getElem? k);obtain⟨g1,g2⟩:=Zej a i _ k;generalize a[i]=b at*;have e1:(0:Int)+ (i:Int)*2=((2*i:Nat):Int):=by omega
      have e2:((2*i:Nat):Int)+ 1=((2*i+ 1:Nat):Int):=by omega
      rw[e1];walk_at "rd";rw[e2];refine⟨rfl,d,_,Zar g1,(b / 16).toNat,[],Zoc _ (by omega),.inl ⟨by decide,by decide⟩,rfl,d,_,Zar g2,(b%16).toNat,[],Zoc _ (by omega),?_⟩;rw[e];refine⟨rfl,?_,_,rfl⟩;rw[List.take_succ,k,List.map_append];have:(16:Int)*((b / 16).toNat:Int)+ ((b%16).toNat:Int)=b:=by omega
      rw[this];rfl
     ·rintro ys σ' H2 ⟨rfl,rfl,_⟩ l G hl s hG;rw[List.take_length]at hG;exact q2 l G (j.free hl) (j.trans s) hG
  ·rw[if_pos (by simp;omega)];exact t (by unfold Zmt;rw[decide_eq_false hev];rfl) H (Same.refl H)
theorem Zua{α:Type}{l:List α}(h:l.length=7):∃a b c d e f g,l=[a,b,c,d,e,f,g]:=by
 match l,h with
 |[a,b,c,d,e,f,g],_=>exact⟨a,b,c,d,e,f,g,rfl⟩
theorem Zub{α:Type}{l:List α}(h:l.length=5):∃a b c d e,l=[a,b,c,d,e]:=by
 match l,h with
 |[a,b,c,d,e],_=>exact⟨a,b,c,d,e,rfl⟩
theorem Zft{n:Int}(h0:0 <=n)(h1:n < 10 ^ 10):figs12 (numT n)=true:=by
 have:=(Zdk h0 h1).len2;unfold figs12;rw[Zl4 h0 h1,decide_eq_true this];rfl
theorem Zf2{n m:Int}(h1:intText? (numT n)=some n)(h2:intText? (numT m)=some m)(e:numT n=numT m):n=m:=by rw[e,h2]at h1;exact(Option.some.inj h1).symm
theorem Zhl:∀{ns ms:List Int},(∀x∈ns,0 <=x/\x <=255)->(∀x∈ms,0 <=x/\x <=255)->bytesT ns=bytesT ms->ns=ms:=fun {ns ms} h1 h2 e=>by
 have d:ns.length=ms.length:=by have:=congrArg (fun z:Str=>z.length) e;simp only[Zbb]at this;omega
 have inj:∀i j:_root_.Fin 16,hvs.getD i.val 0=hvs.getD j.val 0->i=j:=by decide +kernel
 refine List.ext_getElem d fun i hi b=>?_
 have a:=Zej ns i _ (List.getElem?_eq_getElem hi);have c:=Zej ms i _ (List.getElem?_eq_getElem b);rw[e]at a;have k:=h1 _ (List.getElem_mem hi);have h:=h2 _ (List.getElem_mem b);have g:=inj ⟨(ns[i] / 16).toNat,by omega⟩ ⟨(ms[i] / 16).toNat,by omega⟩ (by have:=a.1.symm.trans c.1;exact Option.some.inj this);have f:=inj ⟨(ns[i]%16).toNat,by omega⟩ ⟨(ms[i]%16).toNat,by omega⟩ (by have:=a.2.symm.trans c.2;exact Option.some.inj this);simp only[_root_.Fin.mk.injEq]at g f;omega
theorem Ze1{a b:Bool}{z:Str}(hz:z≠".")(e:Zcc a z=Zcc b z):a=b:=by
 cases a <;> cases b
 ·rfl
 ·exact absurd e.symm hz
 ·exact absurd e hz
 ·rfl
def Zr5(z:Str):Prop:=∃d:PD,d.Ok/\z=textP d
def Zr6(z:Str):Prop:=∃d:LD,d.Ok/\z=textL d
theorem PD.Ok.words{d:PD}(h:d.Ok):figs12 (numT d.nu)=true/\figs12 (numT d.at')=true/\Zmt (bytesT d.ns)=true:=by
 have a:d.at' < 10 ^ 10:=by have:=h.bds';omega
 have n1:d.nu < 10 ^ 10:=by have:=h.n1;omega
 exact⟨Zft h.n0 n1,Zft h.a0 a,Zfu h.by'⟩
theorem LD.Ok.words{d:LD}(h:d.Ok):figs12 (numT d.nu)=true/\Zmt (bytesT d.ns)=true:=by
 have n1:d.nu < 10 ^ 10:=by have:=h.n1;omega
 exact⟨Zft h.n0 n1,Zfu h.by'⟩
def Zdu(CP NT:Addr):Sp:=fun vs H Q E=>∃ (x:V) (ty:String),vs=[x]/\tyF H x=some ty/\(∀z,x= .str z->z.length <=50000)/\((¬∃z,x= .str z/\Zr5 z)->∀G,Same H G->E (.ref NT) none G)/\
 ∀d:PD,d.Ok->x= .str (textP d)->∀p b G,H p=none->H b=none->Same H G->PieO CP G p b d->Q (.ref p) G
abbrev Zb3:Stmt:=top 52
theorem Zbj:Zaq ["text","words","number","at","more","keep","body"] ["text"] (defScope Zb3):=⟨rfl,rfl,rfl,by decide +kernel,rfl,by decide +kernel,by decide +kernel⟩
theorem Zh9{f CP NT NP:Addr}{fd:FuncData}(F:Fun K "read_piece" "read_piece" Zb3 f fd)(T:Cn mg)(X_NoText:XC K mg "NoText" NT)(gC_NoPiece:mg "NoPiece"=some (.ref NP))(W_NoPiece:Zin K NP)(kNP:W.mroIn K NP (.ref NP)=some true)(F_words_of:FnX P w K mg base "words_of" 1 ["text","count"] [] (Zdt NT))(F_read_number:FnX P w K mg base "read_number" 2 ["word"] [] (Zcn NT))(F_read_truth:FnX P w K mg base "read_truth" 1 ["word","sign"] [] (Zcv NT))(F_read_bytes:FnX P w K mg base "read_bytes" 1 ["word"] [] (Zcw NT))(F_Piece:CtP P w K mg base "Piece" 6 (Zhp CP NP)):FnOk P w K mg base (CXx P w) 8 f fd ["text"] (Zdu CP NT):=by
 refine F.okX Zbj (fun vs H Q E h=>?_) (fun cdv A outer s H vs Q E t h=>?_)
 ·obtain⟨z,ty,rfl,_⟩:=h;rfl
 ·obtain⟨x,ty,rfl,hty,hz,r,q⟩:=h;refine⟨_,(Zae (Zav (i:=1) (Zbj).nd rfl (Or.inl rfl) (Zcp F_words_of (t.mono (by decide)) rfl (Zel Za7 (fun _ _ h=>h)) (pa_cons (hs:=Zab) (pv 0) (pa_cons (hs:=Zab) (Zb8 rfl T.c_WORDS_OF_A_PIECE) Zac)))) (Zae (Zav (i:=2) (Zbj).nd rfl (Or.inl rfl) (Zcp F_read_number (t.mono (by decide)) rfl (Zel Za7 (fun _ _ h=>h)) (pa_cons (hs:=Zah) (Za2 (Zam (K:=K) rfl) (pv 1) Zad (fun _ _=>rfl)) Zac))) (Zae (Zav (i:=3) (Zbj).nd rfl (Or.inl rfl) (Zcp F_read_number (t.mono (by decide)) rfl (Zel Za7 (fun _ _ h=>h)) (pa_cons (hs:=Zah) (Za2 (Zam (K:=K) rfl) (pv 1) Zad (fun _ _=>rfl)) Zac))) (Zae (Zav (i:=4) (Zbj).nd rfl (Or.inl rfl) (Zcp F_read_truth (t.mono (by decide)) rfl (Zel Za7 (fun _ _ h=>h)) (pa_cons (hs:=Zah) (Za2 (Zam (K:=K) rfl) (pv 1) Zad (fun _ _=>rfl)) (pa_cons (hs:=Zab) (Zck rfl T.c_MORE_SIGN) Zac)))) (Zae (Zav (i:=5) (Zbj).nd rfl (Or.inl rfl) (Zcp F_read_truth (t.mono (by decide)) rfl (Zel Za7 (fun _ _ h=>h)) (pa_cons (hs:=Zah) (Za2 (Zam (K:=K) rfl) (pv 1) Zad (fun _ _=>rfl)) (pa_cons (hs:=Zab) (Zck rfl T.c_KEEP_SIGN) Zac)))) (Zae (Zav (i:=6) (Zbj).nd rfl (Or.inl rfl) (Zcp F_read_bytes (t.mono (by decide)) rfl (Zel Za7 (fun _ _ h=>h)) (pa_cons (hs:=Zah) (Za2 (Zam (K:=K) rfl) (pv 1) Zad (fun _ _=>rfl)) Zac))) (Zag (Zly Za7 F_Piece (t.mono (by decide)) rfl (fun _=>(pa_cons (hs:=Zab) (pv 2) (pa_cons (hs:=Zah) (Za2 (Zam (K:=K) rfl) (pv 1) Zad (fun _ _=>rfl)) (pa_cons (hs:=Zah) (Za2 (Zam (K:=K) rfl) (pv 1) Zad (fun _ _=>rfl)) (pa_cons (hs:=Zab) (pv 3) (pa_cons (hs:=Zab) (pv 6) (pa_cons (hs:=Zab) (pv 4) (pa_cons (hs:=Zab) (pv 5) Zac)))))))) rfl gC_NoPiece W_NoPiece rfl X_NoText)))))))),?_⟩;refine Zal fun N g=>?_
  walk_at "rd";refine⟨x,ty,7,rfl,hty,hz,fun hno=>r ?_,fun z ez h7 l G hl s1 hG=>g _ _ ?_⟩
  ·rintro⟨z,rfl,d,ok,rfl⟩;exact hno ⟨_,rfl,by rw[Zll ok];rfl⟩
  clear g N;subst ez;obtain⟨w0,w1,w2,w3,w4,w5,w6,ew⟩:=Zua (l:=Txt.split z " ") (by omega);have hz:=hz z rfl;have o:∀v∈Txt.split z " ",v.length <=50000:=fun v hv=>Nat.le_trans (Zed hv) hz
  have y:=join_split z;rw[ew]at hG o y;have m:∀d:PD,d.Ok->z=textP d->Zdi d=[w0,w1,w2,w3,w4,w5,w6]:=fun d ok e=>by rw[<-Zll ok,<-e,ew]
  -- the first number
  refine Zal fun N g=>?_
  walk_at "rd";refine⟨_,SqL.of hG,_,at0,w0,rfl,o _ (by simp),fun hf G1 s2=>?_,fun n n0 en hn hf G1 s2=>g _ _ ?_⟩
  ·refine r ?_ G1 (s1.trans s2);rintro⟨z',e,d,ok,rfl⟩;cases e;have:=m d ok rfl;simp only[Zdi,List.cons.injEq]at this;rw[<-this.1,ok.words.1]at hf;cases hf
  clear g N;have hG1:=s2 _ _ hG;have t1:=s1.trans s2;refine Zal fun N g=>?_
  walk_at "rd";refine⟨_,SqL.of hG1,_,Zar (j:=3) rfl,w3,rfl,o _ (by simp),fun hf3 G2 s3=>?_,fun a a0 ea ha hf3 G2 s3=>g _ _ ?_⟩
  ·refine r ?_ G2 (t1.trans s3);rintro⟨z',e,d,ok,rfl⟩;cases e;have:=m d ok rfl;simp only[Zdi,List.cons.injEq]at this;rw[<-this.2.2.2.1,ok.words.2.1]at hf3;cases hf3
  clear g N;have u:=s3 _ _ hG1;have t2:=t1.trans s3;refine Zal fun N g=>?_
  walk_at "rd";refine⟨_,SqL.of u,_,Zar (j:=4) rfl,w4,_,rfl,by decide +kernel,fun hb=>?_,fun mo emo=>g _ _ ?_⟩
  ·refine r ?_ G2 t2;rintro⟨z',e,d,ok,rfl⟩;cases e;have:=m d ok rfl;simp only[Zdi,List.cons.injEq]at this;exact hb ⟨d.mo,this.2.2.2.2.1.symm⟩
  clear g N;refine Zal fun N g=>?_
  walk_at "rd";refine⟨_,SqL.of u,_,Zar (j:=5) rfl,w5,_,rfl,by decide +kernel,fun hb=>?_,fun ke eke=>g _ _ ?_⟩
  ·refine r ?_ G2 t2;rintro⟨z',e,d,ok,rfl⟩;cases e;have:=m d ok rfl;simp only[Zdi,List.cons.injEq]at this;exact hb ⟨d.k,this.2.2.2.2.2.1.symm⟩
  clear g N;refine Zal fun N g=>?_
  walk_at "rd";refine⟨_,SqL.of u,_,Zar (j:=6) rfl,w6,rfl,o _ (by simp),fun hx G3 s4=>?_,fun ns ens hby lb G3 hlb s4 g3=>g _ _ ?_⟩
  ·refine r ?_ G3 (t2.trans s4);rintro⟨z',e,d,ok,rfl⟩;cases e;have:=m d ok rfl;simp only[Zdi,List.cons.injEq]at this;rw[<-this.2.2.2.2.2.2.1,ok.words.2.2]at hx;cases hx
  clear g N;have hG3:=s4 _ _ u;have t3:=t2.trans s4;have l6:=o w6 (by simp);rw[ens,Zbb]at l6;have ez:z=textP ⟨n,w1,w2,a,ns,mo,ke⟩:=by
   rw[<-y];unfold textP Zdi;rw[<-en,<-ea,<-emo,<-eke,<-ens]
  walk_at "rd";refine⟨fun c _ G=>c= .ref NP/\Same G3 G/\¬(⟨n,w1,w2,a,ns,mo,ke⟩:PD).Ok,⟨_,SqL.of hG3,_,Zar (j:=1) rfl,_,SqL.of hG3,_,Zar (j:=2) rfl,⟨n,w1,w2,a,ns,mo,ke⟩,lb,rfl,⟨o _ (by simp),o _ (by simp),by show ns.length <=50000;omega⟩,g3,fun ok p b G4 hp hb s5 hO=>q _ ok (by rw[ez]) p b G4 (t3.free hp) (t3.free hb) (t3.trans s5) hO,fun nok G4 s5=>⟨rfl,s5,nok⟩⟩,?_⟩;rintro C H' ⟨e,s5,nok⟩;cases e;refine⟨kNP,fun G s6=>?_⟩;refine r ?_ G ((t3.trans s5).trans s6);rintro⟨z',e,d,ok,rfl⟩;cases e;have e7:=m d ok rfl;simp only[Zdi,List.cons.injEq]at e7;obtain⟨e0,e1,e2,e3,e4,e5,e6,_⟩:=e7;have a1:d.at' < 10 ^ 10:=by have:=ok.bds';omega
  have n1:d.nu < 10 ^ 10:=by have:=ok.n1;omega
  refine nok ?_;rw[en]at hn;rw[ea]at ha;have i0:=Zf2 (Zdk ok.n0 n1).back hn (e0.trans en);have i3:=Zf2 (Zdk ok.a0 a1).back ha (e3.trans ea);have i4:=Ze1 (by decide +kernel) (e4.trans emo);have i5:=Ze1 (by decide +kernel) (e5.trans eke);have i6:=Zhl ok.by' hby (e6.trans ens)
  rw[<-i0,<-i3,<-i4,<-i5,<-i6,<-e1,<-e2];exact ok
def Zdl(CL NT:Addr):Sp:=fun vs H Q E=>∃ (x:V) (ty:String),vs=[x]/\tyF H x=some ty/\(∀z,x= .str z->z.length <=50000)/\((¬∃z,x= .str z/\Zr6 z)->∀G,Same H G->E (.ref NT) none G)/\
 ∀d:LD,d.Ok->x= .str (textL d)->∀p b G,H p=none->H b=none->Same H G->LetO CL G p b d->Q (.ref p) G
abbrev Zbw:Stmt:=top 53
theorem Zbx:Zaq ["text","words","number","keep","body"] ["text"] (defScope Zbw):=⟨rfl,rfl,rfl,by decide +kernel,rfl,by decide +kernel,by decide +kernel⟩
theorem Zg5{f CL NT NL:Addr}{fd:FuncData}(F:Fun K "read_letter" "read_letter" Zbw f fd)(T:Cn mg)(X_NoText:XC K mg "NoText" NT)(gC_NoLetter:mg "NoLetter"=some (.ref NL))(W_NoLetter:Zin K NL)(kNL:W.mroIn K NL (.ref NL)=some true)(F_words_of:FnX P w K mg base "words_of" 1 ["text","count"] [] (Zdt NT))(F_read_number:FnX P w K mg base "read_number" 2 ["word"] [] (Zcn NT))(F_read_truth:FnX P w K mg base "read_truth" 1 ["word","sign"] [] (Zcv NT))(F_read_bytes:FnX P w K mg base "read_bytes" 1 ["word"] [] (Zcw NT))(F_Letter:CtP P w K mg base "Letter" 6 (Zhq CL NL)):FnOk P w K mg base (CXx P w) 8 f fd ["text"] (Zdl CL NT):=by
 refine F.okX Zbx (fun vs H Q E h=>?_) (fun cdv A outer s H vs Q E y h=>?_)
 ·obtain⟨z,ty,rfl,_⟩:=h;rfl
 ·obtain⟨x,ty,rfl,hty,hz,t,q⟩:=h;refine⟨_,(Zae (Zav (i:=1) (Zbx).nd rfl (Or.inl rfl) (Zcp F_words_of (y.mono (by decide)) rfl (Zel Za7 (fun _ _ h=>h)) (pa_cons (hs:=Zab) (pv 0) (pa_cons (hs:=Zab) (Zb8 rfl T.c_WORDS_OF_A_LETTER) Zac)))) (Zae (Zav (i:=2) (Zbx).nd rfl (Or.inl rfl) (Zcp F_read_number (y.mono (by decide)) rfl (Zel Za7 (fun _ _ h=>h)) (pa_cons (hs:=Zah) (Za2 (Zam (K:=K) rfl) (pv 1) Zad (fun _ _=>rfl)) Zac))) (Zae (Zav (i:=3) (Zbx).nd rfl (Or.inl rfl) (Zcp F_read_truth (y.mono (by decide)) rfl (Zel Za7 (fun _ _ h=>h)) (pa_cons (hs:=Zah) (Za2 (Zam (K:=K) rfl) (pv 1) Zad (fun _ _=>rfl)) (pa_cons (hs:=Zab) (Zck rfl T.c_KEEP_SIGN) Zac)))) (Zae (Zav (i:=4) (Zbx).nd rfl (Or.inl rfl) (Zcp F_read_bytes (y.mono (by decide)) rfl (Zel Za7 (fun _ _ h=>h)) (pa_cons (hs:=Zah) (Za2 (Zam (K:=K) rfl) (pv 1) Zad (fun _ _=>rfl)) Zac))) (Zag (Zly Za7 F_Letter (y.mono (by decide)) rfl (fun _=>(pa_cons (hs:=Zab) (pv 2) (pa_cons (hs:=Zah) (Za2 (Zam (K:=K) rfl) (pv 1) Zad (fun _ _=>rfl)) (pa_cons (hs:=Zah) (Za2 (Zam (K:=K) rfl) (pv 1) Zad (fun _ _=>rfl)) (pa_cons (hs:=Zab) (pv 4) (pa_cons (hs:=Zab) (pv 3) Zac)))))) rfl gC_NoLetter W_NoLetter rfl X_NoText)))))),?_⟩;refine Zal fun N a=>?_
  walk_at "rd";refine⟨x,ty,5,rfl,hty,hz,fun hno=>t ?_,fun z ez h7 l G hl s1 hG=>a _ _ ?_⟩
  ·rintro⟨z,rfl,d,ok,rfl⟩;exact hno ⟨_,rfl,by rw[Zlm ok];rfl⟩
  clear a N;subst ez;obtain⟨w0,w1,w2,w3,w4,ew⟩:=Zub (l:=Txt.split z " ") (by omega);have hz:=hz z rfl;have o:∀v∈Txt.split z " ",v.length <=50000:=fun v hv=>Nat.le_trans (Zed hv) hz
  have m:=join_split z;rw[ew]at hG o m;have g:∀d:LD,d.Ok->z=textL d->Zd3 d=[w0,w1,w2,w3,w4]:=fun d ok e=>by rw[<-Zlm ok,<-e,ew]
  refine Zal fun N a=>?_
  walk_at "rd";refine⟨_,SqL.of hG,_,at0,w0,rfl,o _ (by simp),fun hf G1 s2=>?_,fun n n0 en hn hf G1 s2=>a _ _ ?_⟩
  ·refine t ?_ G1 (s1.trans s2);rintro⟨z',e,d,ok,rfl⟩;cases e;have:=g d ok rfl;simp only[Zd3,List.cons.injEq]at this;rw[<-this.1,ok.words.1]at hf;cases hf
  clear a N;have aa:=s2 _ _ hG;have t2:=s1.trans s2;refine Zal fun N a=>?_
  walk_at "rd";refine⟨_,SqL.of aa,_,Zar (j:=3) rfl,w3,_,rfl,by decide +kernel,fun hb=>?_,fun ke eke=>a _ _ ?_⟩
  ·refine t ?_ G1 t2;rintro⟨z',e,d,ok,rfl⟩;cases e;have:=g d ok rfl;simp only[Zd3,List.cons.injEq]at this;exact hb ⟨d.k,this.2.2.2.1.symm⟩
  clear a N;refine Zal fun N a=>?_
  walk_at "rd";refine⟨_,SqL.of aa,_,Zar (j:=4) rfl,w4,rfl,o _ (by simp),fun hx G3 s4=>?_,fun ns ab hby lb G3 hlb s4 g3=>a _ _ ?_⟩
  ·refine t ?_ G3 (t2.trans s4);rintro⟨z',e,d,ok,rfl⟩;cases e;have:=g d ok rfl;simp only[Zd3,List.cons.injEq]at this;rw[<-this.2.2.2.2.1,ok.words.2]at hx;cases hx
  clear a N;have hG3:=s4 _ _ aa;have t3:=t2.trans s4;have l6:=o w4 (by simp);rw[ab,Zbb]at l6;have ez:z=textL ⟨n,w1,w2,ns,ke⟩:=by
   rw[<-m];unfold textL Zd3;rw[<-en,<-eke,<-ab]
  walk_at "rd";refine⟨fun c _ G=>c= .ref NL/\Same G3 G/\¬(⟨n,w1,w2,ns,ke⟩:LD).Ok,⟨_,SqL.of hG3,_,Zar (j:=1) rfl,_,SqL.of hG3,_,Zar (j:=2) rfl,⟨n,w1,w2,ns,ke⟩,lb,rfl,⟨o _ (by simp),o _ (by simp),by show ns.length <=50000;omega⟩,g3,fun ok p b G4 hp hb r hO=>q _ ok (by rw[ez]) p b G4 (t3.free hp) (t3.free hb) (t3.trans r) hO,fun u G4 r=>⟨rfl,r,u⟩⟩,?_⟩;rintro C H' ⟨e,r,u⟩;cases e;refine⟨kNL,fun G s6=>?_⟩;refine t ?_ G ((t3.trans r).trans s6);rintro⟨z',e,d,ok,rfl⟩;cases e;have e7:=g d ok rfl;simp only[Zd3,List.cons.injEq]at e7;obtain⟨e0,e1,e2,e5,e6,_⟩:=e7;have n1:d.nu < 10 ^ 10:=by have:=ok.n1;omega
  refine u ?_;rw[en]at hn;have i0:=Zf2 (Zdk ok.n0 n1).back hn (e0.trans en);have i5:=Ze1 (by decide +kernel) (e5.trans eke);have i6:=Zhl ok.by' hby (e6.trans ab)
  rw[<-i0,<-i5,<-i6,<-e1,<-e2];exact ok
def Zup(m:Int)(z:Str):Prop:=∃n:Int,0 <=n/\n <=m/\z=numT n
theorem Zsh(c:Nat):decide (c∈(Str.ofString "0123456789").cps.toList)=Zfy c:=by
 rw[show(Str.ofString "0123456789").cps.toList=[48,49,50,51,52,53,54,55,56,57] by decide +kernel];unfold Zfy;rw[Bool.eq_iff_iff];simp only[List.mem_cons,List.not_mem_nil,or_false,decide_eq_true_eq,Bool.and_eq_true];omega
theorem Zsk(c:Nat):decide (c∈(Str.ofString "abcdefghijklmnopqrstuvwxyz").cps.toList)=smallC c:=by
 rw[show(Str.ofString "abcdefghijklmnopqrstuvwxyz").cps.toList=[97,98,99,100,101,102,103,104,105,106,107,108,109,110,111,112,113,114,115,116,117,118,119,120,121,122] by decide +kernel];unfold smallC;rw[Bool.eq_iff_iff];simp only[List.mem_cons,List.not_mem_nil,or_false,decide_eq_true_eq,Bool.and_eq_true];omega
theorem Zik{Y z:Str}{σ:L2.St}{H:Hp}{Q:VK}{good:Nat->Bool}(hm:∀c,decide (c∈Y.cps.toList)=good c)(hz:z.length <=50000)(h:∀p l G,H p=none->Same H G->G p=some (.lst l)->(l.length=0↔z.cps.toList.all good=true)->Q (.ref p) G):
  Zfx [none] (Zk2 0) (Zj4 (tOp Zh3 (Zp3 0) (tC (.str Y)))) (Zp3 0) σ Q (Its z) H:=by
 have e:z.cps.size=z.length:=rfl;obtain⟨d,a⟩:∃d:Nat->List V->L2.St->Hp->Prop,d=fun i ys σ' H1=>H1=H/\i <=z.cps.size/\ys.length <=i/\(ys.length=0↔(z.cps.toList.take i).all good=true)/\∃v,σ'=[v]:=⟨_,rfl⟩
 refine Zf6 d (by rw[a];exact⟨rfl,Nat.zero_le _,Nat.le_refl _,by simp,none,rfl⟩) ?_ (by rw[e];exact Zai (by omega)) ?_ ?_ <;> rw[a]
 ·rintro i ys σ' H1 ⟨_,_,g,_⟩ _;exact g
 ·rintro i c ys σ' H1 k ⟨rfl,hi,g,b,v,rfl⟩;rw[<-a];have n:i < z.cps.size:=(Array.getElem?_eq_some_iff.mp k).1;have j:z.cps.toList[i]?=some c:=by rw[Array.getElem?_toList];exact k
  walk_at "rd";rw[Zl3,hm c];have m:(z.cps.toList.take (i+ 1)).all good=((z.cps.toList.take i).all good && good c):=by rw[List.take_succ,j,List.all_append];simp
  cases hg:good c with
  |true=>
   simp only[Bool.not_true,Bool.false_eq_true,if_false];rw[a];exact⟨rfl,by omega,by omega,by rw[m,hg,Bool.and_true];exact b,_,rfl⟩
  |false=>
   simp only[Bool.not_false,if_true];rw[a];refine⟨rfl,by omega,by simp;omega,?_,_,rfl⟩;rw[m,hg,Bool.and_false];simp
 ·rintro ys σ' H1 ⟨rfl,_,_,b,_⟩ p f;rw[show z.cps.toList.take z.cps.size=z.cps.toList by rw[<-Array.length_toList,List.take_length]]at b;exact h p ys _ f (Zbc f) Zan b
theorem Zr0{z:Str}{m:Int}(m1:m <=65535)(n0:¬z="")(hd:z.cps.toList.all Zfy=true):Zup m z↔(z="0"\/¬z.cps.toList.head?=some 48)/\z.length < 6/\∀n,intText? z=some n->n <=m:=by
 have g:¬z.length=0:=fun e=>n0 (Zc8 (by rw[show("":Str).cps.toList=[] by decide +kernel];exact List.length_eq_zero_iff.mp (by rw[<-Zbg];exact e)))
 have d:Zl8 z=true↔(z="0"\/¬z.cps.toList.head?=some 48):=by
  unfold Zl8;rw[hd,Zj6,decide_eq_false g];simp
 constructor
 ·rintro⟨n,b,h1,rfl⟩;have h2:Zl8 (numT n)=true:=Zl4 b (by omega);have ok:=Zdk b (show n < 10 ^ 10 by omega);obtain⟨f,_,e,a,h⟩:=Zei h2 (by have:=ok.len2;omega);have i:n=f:=by rw[ok.back]at a;exact Option.some.inj a
  subst i;refine⟨d.mp h2,?_,fun k c=>?_⟩
  ·have:=(h 5 (by decide)).mpr (by omega);omega
  ·rw[a]at c;cases c;exact h1
 ·rintro⟨h1,h2,h3⟩;obtain⟨n,b,e,a,_⟩:=Zei (d.mpr h1) (by omega);exact⟨n,b,h3 n a,e⟩
def Zdv:Sp:=fun vs H Q _=>∃ (z:Str) (m:Int),vs=[.str z,.int m]/\z.length <=50000/\0 <=m/\m <=65535/\∀b G,(b=true↔Zup m z)->Same H G->Q (.bl b) G
abbrev Zcg:Stmt:=top 64
theorem Zkb:Zaq ["_law_word","_law_most"] ["_law_word","_law_most"] (defScope Zcg):=⟨rfl,rfl,rfl,by decide +kernel,rfl,by decide +kernel,by decide +kernel⟩
theorem Zku{f:Addr}{fd:FuncData}(F:Fun K "_law_is_number" "_law_is_number" Zcg f fd)(B:Bt mg):FnOk P w K mg base CX0 1 f fd ["_law_word","_law_most"] Zdv:=by
 refine F.ok Zkb (fun vs H Q E h=>?_) (fun cdv A outer s H vs Q E d h=>?_)
 ·obtain⟨z,m,rfl,_⟩:=h;rfl
 ·obtain⟨z,m,rfl,hz,m0,m1,q⟩:=h;refine⟨_,(@Zae _ _ _ _ _ (Zbo (PW.pt (Zew (Zaw Zcs (pv 0) (@Zaj _ _ _ _) (Zau _)) (Zea (Zaw (Zo8 (K:=K) (Room.units d) rfl) (Zdf (N':=["_law_sign"]) (caps:=[none]) (Zgs (sc:=defScope Zcg) (N:=["_law_word","_law_most"]) rfl rfl (by decide +kernel)) rfl (Zhc (pv 0)) (fun _ _ _ _ _=>(Zcj (i:=0) (Zgl (N:=["_law_sign"]) rfl (by decide +kernel)) rfl (Or.inl rfl))) (fun _ _ _ _ _=>(Zkn (Zaw Zgi (pv 0) (@Zaj _ _ _ _) (by with_unfolding_all rfl)))) (fun _ _ _ _ _=>(pv 0))) (@Zbm _ _ _ _ Zac) (Zau _))))) (@Zag _ _ _ (@Zat _ _ _ _ Ze6)) Za0) (@Zag _ _ _ (@Zat _ _ _ _ (Zb5 (Ztu (Zbd Zcs (pv 0) (@Zaj _ _ _ _) (Zau _)) (Zde (Zbd Zi4 (@Za2 _ _ _ _ _ _ _ Zgo (pv 0) (@Zad _ _ _ _) (fun _ _=>rfl)) (@Zaj _ _ _ _) (Zau _)))) (Zb5 (Zbd Zn0 (Zas Zbe rfl B.len (by rfl) (@pa_cons _ _ _ _ _ (pv 0) Zac Zab)) (@Zad _ _ _ _) (Zau _)) (Zde (Zbd Zfr (Zbz Zec rfl B.bint (by rfl) (@pa_cons _ _ _ _ _ (pv 0) Zac Zab)) (pv 1) (Zau _)))))))),?_⟩;refine Zal fun N y=>?_
  walk_at "rd";refine⟨rfl,?_⟩
  by_cases h0:z=""
  ·rw[if_pos (decide_eq_true h0)];refine q false H ⟨(fun h=>nomatch h),?_⟩ (Same.refl H);rintro⟨n,o,n1,e⟩;have:=(Zdk o (show n < 10 ^ 10 by omega)).len1;rw[<-e,h0]at this;exact absurd this (by decide +kernel)
  rw[if_neg (by simpa using h0)];refine Zik Zsh hz fun p l G hp s1 hG t=>⟨Zai (Nat.zero_le _),fun p2 a hp2 s2 aa=>⟨p,rfl,l,SqL.of (s2 _ _ hG),SqL.of aa,?_⟩⟩
  have j:=s1.trans s2;cases ha:z.cps.toList.all Zfy with
  |false=>
   rw[ha]at t;rw[if_pos (by simpa using t)];refine q false a ⟨(fun h=>nomatch h),?_⟩ j;rintro⟨n,o,n1,e⟩;have ok:=Zdk o (show n < 10 ^ 10 by omega);have:z.cps.toList.all Zfy=true:=List.all_eq_true.mpr fun c x=>by
    rw[e]at x;have:=ok.dig c x;unfold Zfy;simp[this.1,this.2]
   rw[ha]at this;cases this
  |true=>
   rw[ha]at t;rw[if_neg (by simp only[Bool.not_eq_true',decide_eq_false_iff_not,Decidable.not_not];exact t.mpr rfl)];refine y _ _ ?_;clear y N;have key:=Zr0 m1 h0 ha;walk_at "rd";have b:(z="0"\/¬z.cps.toList.head?=some 48)->z.length <=sizeLine/\(if decide ((z.length:Int) < 6)=true then ∃n,intText? z=some n/\z.length <=640/\Q (V.bl (decide (n <=m))) a else Q (V.bl false) a):=by
    intro v;refine⟨Zai (by omega),?_⟩
    by_cases h6:z.length < 6
    ·rw[if_pos (decide_eq_true (by omega))];have hf:Zl8 z=true:=by
      unfold Zl8;rw[ha,Zj6];have:¬z.length=0:=fun e=>h0 (Zc8 (by rw[show("":Str).cps.toList=[] by decide +kernel];exact List.length_eq_zero_iff.mp (by rw[<-Zbg];exact e)))
      simp[this];exact v
     obtain⟨n,o,e,d,_⟩:=Zei hf (by omega);refine⟨n,d,by omega,q _ a ?_ j⟩;rw[key,decide_eq_true_eq];exact⟨fun h=>⟨v,h6,fun k u=>by rw[d]at u;cases u;exact h⟩,fun h=>h.2.2 n d⟩
    ·rw[if_neg (by simp;omega)];exact q false a ⟨(fun h=>nomatch h),fun h=>absurd (key.mp h).2.1 h6⟩ j
   refine⟨rfl,?_⟩
   by_cases hz0:z="0"
   ·rw[if_pos (decide_eq_true hz0)];exact b (.inl hz0)
   ·rw[if_neg (by simpa using hz0)];refine⟨Zai (by omega),?_⟩;obtain⟨c,r,g⟩:∃c r,z.cps.toList=c::r:=by
     cases hq:z.cps.toList with
     |nil=>exact absurd (Zc8 (by rw[hq];decide +kernel)) h0
     |cons c r=>exact⟨c,r,rfl⟩
    refine⟨c,by rw[g];exact at0,rfl,?_⟩;have ec:(({cps:=#[c]}:Str)="0")↔c=48:=by
     rw[show("0":Str)=⟨#[48]⟩ by decide +kernel];constructor
     ·intro h;injection h with h;simpa using h
     ·rintro rfl;rfl
    by_cases h48:c=48
    ·rw[if_neg (by simp only[Bool.not_eq_true',decide_eq_false_iff_not,Decidable.not_not];exact ec.mpr h48)];refine q false a ⟨(fun h=>nomatch h),fun h=>?_⟩ j;rcases(key.mp h).1 with h|h
     ·exact absurd h hz0
     ·exact absurd (by rw[g,h48];rfl) h
    ·rw[if_pos (by simp only[Bool.not_eq_true',decide_eq_false_iff_not];exact fun z=>h48 (ec.mp z))];exact b (.inr (by rw[g];simpa using h48))
def Zd6:Sp:=fun vs H Q _=>∃ (z:Str),vs=[.str z]/\z.length <=50000/\∀b G,(b=true↔NmOk z)->Same H G->Q (.bl b) G
abbrev Zb1:Stmt:=top 65
theorem Ziw:Zaq ["_law_word"] ["_law_word"] (defScope Zb1):=⟨rfl,rfl,rfl,by decide +kernel,rfl,by decide +kernel,by decide +kernel⟩
theorem Zi7{f:Addr}{fd:FuncData}(F:Fun K "_law_is_name" "_law_is_name" Zb1 f fd)(B:Bt mg):FnOk P w K mg base CX0 1 f fd ["_law_word"] Zd6:=by
 refine F.ok Ziw (fun vs H Q E h=>?_) (fun k A outer s H vs Q E c h=>?_)
 ·obtain⟨z,rfl,_⟩:=h;rfl
 ·obtain⟨z,rfl,b,q⟩:=h;refine⟨_,(@Zag _ _ _ (@Zat _ _ _ _ (Zb5 (Zf1 Zfr Zfr (@Zad _ _ _ _) (Zas Zbe rfl B.len (by rfl) (@pa_cons _ _ _ _ _ (pv 0) Zac Zab)) (@Zad _ _ _ _)) (Zde (Zbd (Zl2 (K:=K) (Room.units c) rfl) (Zdf (N':=["_law_sign"]) (caps:=[none]) (Zgs (sc:=defScope Zb1) (N:=["_law_word"]) rfl rfl (by decide +kernel)) rfl (Zhc (pv 0)) (fun _ _ _ _ _=>(Zcj (i:=0) (Zgl (N:=["_law_sign"]) rfl (by decide +kernel)) rfl (Or.inl rfl))) (fun _ _ _ _ _=>(Zkn (Zaw Zgi (pv 0) (@Zaj _ _ _ _) (by with_unfolding_all rfl)))) (fun _ _ _ _ _=>(pv 0))) (@Zbm _ _ _ _ Zac) (Zau _)))))),?_⟩;walk_at "rd";refine⟨Zai (by omega),?_⟩
  by_cases h1:1 <=z.length
  ·rw[if_pos (decide_eq_true (by omega))]
   by_cases h2:z.length <=8
   ·rw[if_pos (decide_eq_true (by omega))];refine Zik Zsk b fun p l G m s1 e d=>⟨Zai (Nat.zero_le _),fun p2 g j s2 a=>⟨p,rfl,l,SqL.of (s2 _ _ e),SqL.of a,q _ g ?_ (s1.trans s2)⟩⟩
    rw[decide_eq_true_eq,d];exact⟨fun h=>⟨h1,h2,h⟩,fun h=>h.2.2⟩
   ·rw[if_neg (by simp;omega)];exact q false H ⟨(fun h=>nomatch h),fun h=>absurd h.2.1 h2⟩ (Same.refl H)
  ·rw[if_neg (by simp;omega)];exact q false H ⟨(fun h=>nomatch h),fun h=>absurd h.1 h1⟩ (Same.refl H)
def Zos(z:Str):Prop:=∃ns:List Int,z=bytesT ns/\(1 <=ns.length/\ns.length <=4000)/\∀x∈ns,0 <=x/\x <=255
def Zdx:Sp:=fun vs H Q _=>∃ (z:Str),vs=[.str z]/\z.length <=50000/\∀b G,(b=true↔Zos z)->Same H G->Q (.bl b) G
abbrev Zbr:Stmt:=top 66
theorem Zhz:Zaq ["_law_word"] ["_law_word"] (defScope Zbr):=⟨rfl,rfl,rfl,by decide +kernel,rfl,by decide +kernel,by decide +kernel⟩
theorem Zib{f:Addr}{fd:FuncData}(F:Fun K "_law_is_bytes" "_law_is_bytes" Zbr f fd)(B:Bt mg):FnOk P w K mg base CX0 1 f fd ["_law_word"] Zdx:=by
 refine F.ok Zhz (fun vs H Q E h=>?_) (fun y A outer s H vs Q E o h=>?_)
 ·obtain⟨z,rfl,_⟩:=h;rfl
 ·obtain⟨z,rfl,n,q⟩:=h;refine⟨_,(@Zae _ _ _ _ _ (Zbo (PW.pt (Zew (Zaw Zcs (pv 0) (@Zaj _ _ _ _) (Zau _)) (Zew (Zaw Zcs (@Za1 _ _ _ _ _ _ _ _ Zdg (Zas Zbe rfl B.len (by rfl) (@pa_cons _ _ _ _ _ (pv 0) Zac Zab)) (@Zad _ _ _ _)) (@Zad _ _ _ _) (Zau _)) (Zea (Zaw Zt0 (Zas Zbe rfl B.len (by rfl) (@pa_cons _ _ _ _ _ (pv 0) Zac Zab)) (@Zad _ _ _ _) (Zau _)))))) (@Zag _ _ _ (@Zat _ _ _ _ Ze6)) Za0) (@Zag _ _ _ (@Zat _ _ _ _ (Zbd (Zl2 (K:=K) (Room.units o) rfl) (Zdf (N':=["_law_sign"]) (caps:=[none]) (Zgs (sc:=defScope Zbr) (N:=["_law_word"]) rfl rfl (by decide +kernel)) rfl (Zhc (pv 0)) (fun _ _ _ _ _=>(Zcj (i:=0) (Zgl (N:=["_law_sign"]) rfl (by decide +kernel)) rfl (Or.inl rfl))) (fun _ _ _ _ _=>(Zkn (Zaw Zgi (pv 0) (@Zaj _ _ _ _) (by with_unfolding_all rfl)))) (fun _ _ _ _ _=>(pv 0))) (@Zbm _ _ _ _ Zac) (Zau _))))),?_⟩;refine Zal fun N k=>?_
  walk_at "rd";have j:(∀a:List Int,z=bytesT a->(∀x∈a,0 <=x/\x <=255)->1 <=a.length->a.length <=4000->False)->Q (.bl false) H:=fun h=>q false H ⟨(fun h=>nomatch h),fun⟨a,e,g,d⟩=>(h a e d g.1 g.2).elim⟩ (Same.refl H)
  have b:∀a:List Int,z=bytesT a->z.length=2*a.length:=fun a e=>by rw[e,Zbb]
  refine⟨rfl,?_⟩
  by_cases h0:z=""
  ·rw[if_pos (decide_eq_true h0)];refine j fun a e _ h1 _=>?_
   have:=b a e;rw[h0,show("":Str).length=0 by decide +kernel]at this;omega
  rw[if_neg (by simpa using h0)];have v:¬z.length=0:=fun e=>h0 (Zc8 (by rw[show("":Str).cps.toList=[] by decide +kernel];exact List.length_eq_zero_iff.mp (by rw[<-Zbg];exact e)))
  refine⟨Zai (by omega),by decide,rfl,?_⟩
  by_cases h1:z.length%2=1
  ·rw[if_pos (decide_eq_true (by omega))];exact j fun a e _ _ _=>by have:=b a e;omega
  rw[if_neg (by simp;omega)];refine⟨Zai (by omega),?_⟩
  by_cases h2:8000 < z.length
  ·rw[if_pos (decide_eq_true (by omega))];exact j fun a e _ _ _=>by have:=b a e;omega
  rw[if_neg (by simp;omega)];refine k _ _ ?_;clear k N;walk_at "rd";refine Zik (good:=fun c=>decide (c∈hvs)) (fun c=>by rw[show(Str.ofString "0123456789abcdef").cps.toList=hvs from Zof]) n fun p l G hp s1 r g=>⟨Zai (Nat.zero_le _),fun p2 t u s2 m=>⟨p,rfl,l,SqL.of (s2 _ _ r),SqL.of m,q _ t ?_ (s1.trans s2)⟩⟩
  rw[decide_eq_true_eq,g];have hx:Zmt z=z.cps.toList.all fun c=>decide (c∈hvs):=by unfold Zmt;rw[decide_eq_true (by omega),Bool.true_and]
  rw[<-hx];constructor
  ·intro h;obtain⟨a,e,e2,d⟩:=Zhg h;exact⟨a,e,by omega,d⟩
  ·rintro⟨a,rfl,_,d⟩;exact Zfu d
theorem Zhu{w z:Str}(hz:z≠"."):inV (.str w) [.str ".",.str z]=true↔∃b,w=Zcc b z:=by
 unfold inV;simp only[List.any_cons,List.any_nil,Bool.or_false,Bool.or_eq_true,eqV,beq_iff_eq,decide_eq_true_eq];constructor
 ·rintro(h|h)
  ·exact⟨false,h.symm⟩
  ·exact⟨true,h.symm⟩
 ·rintro⟨b,rfl⟩;cases b
  ·exact .inl rfl
  ·exact .inr rfl
theorem Zqn{z w0 w1 w2 w3 w4:Str}(ew:Txt.split z " "=[w0,w1,w2,w3,w4]):Zr6 z↔Zup 65535 w0/\(∃b,w3=Zcc b "!")/\NmOk w1/\NmOk w2/\Zos w4:=by
 constructor
 ·rintro⟨d,ok,rfl⟩;rw[Zlm ok]at ew;simp only[Zd3,List.cons.injEq]at ew;obtain⟨rfl,rfl,rfl,rfl,rfl,_⟩:=ew;exact⟨⟨_,ok.n0,ok.n1,rfl⟩,⟨_,rfl⟩,ok.k1,ok.k2,_,rfl,⟨ok.l1,ok.l2⟩,ok.by'⟩
 ·rintro⟨⟨n,n0,n1,rfl⟩,⟨b,rfl⟩,k1,k2,ns,rfl,hl,hb⟩;refine⟨⟨n,w1,w2,ns,b⟩,⟨n0,n1,k1,k2,hl.1,hl.2,hb⟩,?_⟩;have:=join_split z;rw[ew]at this;exact this.symm
theorem Ztq{z w0 w1 w2 w3 w4 w5 w6:Str}(ew:Txt.split z " "=[w0,w1,w2,w3,w4,w5,w6]):Zr5 z↔(Zup 65535 w0/\(∃b,w5=Zcc b "!")/\NmOk w1/\NmOk w2/\Zos w6)/\∃a:Int,0 <=a/\w3=numT a/\a%8=0/\∃m,w4=Zcc m "+"/\roomB a (w6.length / 2:Nat) m=true:=by
 constructor
 ·rintro⟨d,ok,rfl⟩;rw[Zll ok]at ew;simp only[Zdi,List.cons.injEq]at ew;obtain⟨rfl,rfl,rfl,rfl,rfl,rfl,rfl,_⟩:=ew;refine⟨⟨⟨_,ok.n0,ok.n1,rfl⟩,⟨_,rfl⟩,ok.k1,ok.k2,_,rfl,⟨ok.l1,ok.l2⟩,ok.by'⟩,d.at',ok.a0,rfl,ok.a8,d.mo,rfl,?_⟩;rw[Zbb,Nat.mul_div_cancel_left _ (by decide)];exact ok.rm
 ·rintro⟨⟨⟨n,n0,n1,rfl⟩,⟨b,rfl⟩,k1,k2,ns,rfl,hl,hb⟩,a,a0,rfl,a8,m,rfl,rm⟩;rw[Zbb,Nat.mul_div_cancel_left _ (by decide)]at rm;refine⟨⟨n,w1,w2,a,ns,m,b⟩,⟨n0,n1,k1,k2,hl.1,hl.2,hb,a0,a8,rm⟩,?_⟩;have:=join_split z;rw[ew]at this;exact this.symm
def Zdw:Sp:=fun vs H Q _=>∃ (z:Str),vs=[.str z]/\z.length <=50000/\∀b G,(b=true↔Zr6 z)->Same H G->Q (.bl b) G
abbrev Zc2:Stmt:=top 67
theorem Zgd:Zaq ["_law_text","_law_words"] ["_law_text"] (defScope Zc2):=⟨rfl,rfl,rfl,by decide +kernel,rfl,by decide +kernel,by decide +kernel⟩
theorem Zkv{f:Addr}{fd:FuncData}(F:Fun K "_law_is_letter" "_law_is_letter" Zc2 f fd)(B:Bt mg)(F_lawisnum:FnB P w K mg base "_law_is_number" 1 ["_law_word","_law_most"] [] Zdv)(F_lawisname:FnB P w K mg base "_law_is_name" 1 ["_law_word"] [] Zd6)(F_lawisbytes:FnB P w K mg base "_law_is_bytes" 1 ["_law_word"] [] Zdx):FnOk P w K mg base CX0 2 f fd ["_law_text"] Zdw:=by
 refine F.ok Zgd (fun vs H Q E h=>?_) (fun cdv A outer s H vs Q E c h=>?_)
 ·obtain⟨z,rfl,_⟩:=h;rfl
 ·obtain⟨z,rfl,hz,q⟩:=h;refine⟨_,(@Zae _ _ _ _ _ (@Zav _ _ 1 _ _ _ _ (Zgd).nd rfl (Or.inl rfl) (@pe_bmK _ K _ _ _ _ _ _ _ _ _ _ _ rfl PySem.F.plainAttrs_str PySem.F.slot_str_split PySem.F.type_str_split Zf3 (pv 0) (@pa_cons _ _ _ _ _ (@Zaj _ _ _ _) Zac Zaa) (by rfl) (by rfl) (by rfl) (by rfl) (by rfl)) (by rfl) (Or.inl rfl)) (@Zae _ _ _ _ _ (Zbo (PW.pt (Zew (Zaw Zi4 (Zas (Zbt (K:=K) rfl) rfl B.len (by rfl) (@pa_cons _ _ _ _ _ (pv 1) Zac Zab)) (@Zad _ _ _ _) (Zau _)) (Zew (Zca (Zby (Zaf F_lawisnum (c.mono (by decide)) rfl (@pa_cons _ _ _ _ _ (@Za2 _ _ _ _ _ _ _ (Zam (K:=K) rfl) (pv 1) (@Zad _ _ _ _) (fun _ _=>rfl)) (@pa_cons _ _ _ _ _ (@Zad _ _ _ _) Zac Zaa) Zah)))) (Zea (Zaw (Zi3 (K:=K) rfl) (@Za2 _ _ _ _ _ _ _ (Zam (K:=K) rfl) (pv 1) (@Zad _ _ _ _) (fun _ _=>rfl)) (@Zfo _ _ _ _ _ (@pa_cons _ _ _ _ _ (@Zaj _ _ _ _) (@pa_cons _ _ _ _ _ (@Zaj _ _ _ _) Zac Zaa) Zaa)) (by with_unfolding_all rfl)))))) (@Zag _ _ _ (@Zat _ _ _ _ Ze6)) Za0) (@Zag _ _ _ (@Zat _ _ _ _ (Zb5 (Zaf F_lawisname (c.mono (by decide)) rfl (@pa_cons _ _ _ _ _ (@Za2 _ _ _ _ _ _ _ (Zam (K:=K) rfl) (pv 1) (@Zad _ _ _ _) (fun _ _=>rfl)) Zac Zah)) (Zb5 (Zaf F_lawisname (c.mono (by decide)) rfl (@pa_cons _ _ _ _ _ (@Za2 _ _ _ _ _ _ _ (Zam (K:=K) rfl) (pv 1) (@Zad _ _ _ _) (fun _ _=>rfl)) Zac Zah)) (Zde (Zaf F_lawisbytes (c.mono (by decide)) rfl (@pa_cons _ _ _ _ _ (@Za2 _ _ _ _ _ _ _ (Zam (K:=K) rfl) (pv 1) (@Zad _ _ _ _) (fun _ _=>rfl)) Zac Zah))))))))),?_⟩;refine Zal fun N b=>?_
  walk_at "rd";refine⟨rfl,by decide +kernel,hz,fun l G hl s1 e=>b _ _ ?_⟩;clear b N;refine Zal fun N b=>?_
  walk_at "rd";refine⟨_,.inl (SqL.of e),rfl,?_⟩;rw[List.length_map]
  by_cases h5:(Txt.split z " ").length=5
  ·rw[if_neg (by simp;omega)];obtain⟨w0,w1,w2,w3,w4,ew⟩:=Zub h5;have a:∀v∈Txt.split z " ",v.length <=50000:=fun v hv=>Nat.le_trans (Zed hv) hz
   have key:=Zqn ew;rw[ew]at e a;refine⟨_,SqL.of e,_,at0,w0,65535,rfl,a _ (by simp),by decide,by decide,fun b0 G1 k s2=>⟨_,rfl,?_⟩⟩;have x:=s1.trans s2;have o:=s2 _ _ e;cases b0 with
   |false=>
    rw[if_pos (by rfl)];exact q false G1 ⟨(fun h=>nomatch h),fun h=>absurd (k.mpr (key.mp h).1) (by simp)⟩ x
   |true=>
    rw[if_neg (by simp)];refine⟨_,SqL.of o,_,Zar (j:=3) rfl,Zai (by decide),fun p G2 hp s3 e3=>⟨p,_,rfl,.inr (SqT.of e3),rfl,by decide +kernel,_,rfl,?_⟩⟩;have u:=x.trans s3;have n:=s3 _ _ o;rw[if_pos rfl];cases hs:inV (.str w3) [.str (Str.ofString "."),.str (Str.ofString "!")] with
    |false=>
     rw[if_pos (by rfl)];refine q false G2 ⟨(fun h=>nomatch h),fun h=>?_⟩ u;have:=(Zhu (by decide +kernel)).mpr (key.mp h).2.1;rw[hs]at this;cases this
    |true=>
     rw[if_neg (by simp)];have hsg:=(Zhu (by decide +kernel)).mp hs;refine b _ _ ?_;clear b N;walk_at "rd";refine⟨_,SqL.of n,_,Zar (j:=1) rfl,w1,rfl,a _ (by simp),fun b1 G3 i s4=>⟨_,rfl,?_⟩⟩;have t:=u.trans s4;have m:=s4 _ _ n;cases b1 with
     |false=>
      rw[if_neg (by simp)];exact q false G3 ⟨(fun h=>nomatch h),fun h=>absurd (i.mpr (key.mp h).2.2.1) (by simp)⟩ t
     |true=>
      rw[if_pos rfl];refine⟨_,SqL.of m,_,Zar (j:=2) rfl,w2,rfl,a _ (by simp),fun b2 G4 g y=>⟨_,rfl,?_⟩⟩;have r:=t.trans y;have hG4:=y _ _ m;cases b2 with
      |false=>
       rw[if_neg (by simp)];exact q false G4 ⟨(fun h=>nomatch h),fun h=>absurd (g.mpr (key.mp h).2.2.2.1) (by simp)⟩ r
      |true=>
       rw[if_pos rfl];refine⟨_,SqL.of hG4,_,Zar (j:=4) rfl,w4,rfl,a _ (by simp),fun b3 G5 hb3 s6=>q b3 G5 ?_ (r.trans s6)⟩;rw[hb3,key];exact⟨fun h=>⟨k.mp rfl,hsg,i.mp rfl,g.mp rfl,h⟩,fun h=>h.2.2.2.2⟩
  ·rw[if_pos (by simp;omega)];refine q false G ⟨(fun h=>nomatch h),?_⟩ s1;rintro⟨d,ok,rfl⟩;rw[Zlm ok]at h5;exact absurd rfl h5
def Zep:Sp:=fun vs H Q _=>∃ (z:Str),vs=[.str z]/\z.length <=50000/\∀b G,(b=true↔Zr5 z)->Same H G->Q (.bl b) G
abbrev Zc1:Stmt:=top 68
theorem Zet:Zaq ["_law_text","_law_words","_law_length"] ["_law_text"] (defScope Zc1):=⟨rfl,rfl,rfl,by decide +kernel,rfl,by decide +kernel,by decide +kernel⟩
theorem Zkt{f:Addr}{fd:FuncData}(F:Fun K "_law_is_piece" "_law_is_piece" Zc1 f fd)(B:Bt mg)(F_lawisnum:FnB P w K mg base "_law_is_number" 1 ["_law_word","_law_most"] [] Zdv)(F_lawislet:FnB P w K mg base "_law_is_letter" 2 ["_law_text"] [] Zdw):FnOk P w K mg base CX0 3 f fd ["_law_text"] Zep:=by
 refine F.ok Zet (fun vs H Q E h=>?_) (fun cdv A outer s H vs Q E hr h=>?_)
 ·obtain⟨z,rfl,_⟩:=h;rfl
 ·obtain⟨z,rfl,hz,q⟩:=h;refine⟨_,(@Zae _ _ _ _ _ (@Zav _ _ 1 _ _ _ _ (Zet).nd rfl (Or.inl rfl) (@pe_bmK _ K _ _ _ _ _ _ _ _ _ _ _ rfl PySem.F.plainAttrs_str PySem.F.slot_str_split PySem.F.type_str_split Zf3 (pv 0) (@pa_cons _ _ _ _ _ (@Zaj _ _ _ _) Zac Zaa) (by rfl) (by rfl) (by rfl) (by rfl) (by rfl)) (by rfl) (Or.inl rfl)) (@Zae _ _ _ _ _ (Zbo (PW.pt (Zew (Zaw Zi4 (Zas (Zbt (K:=K) rfl) rfl B.len (by rfl) (@pa_cons _ _ _ _ _ (pv 1) Zac Zab)) (@Zad _ _ _ _) (Zau _)) (Zea (Zca (Zby (Zaf F_lawislet (hr.mono (by decide)) rfl (@pa_cons _ _ _ _ _ (@pe_bmK _ K _ _ _ _ _ _ _ _ _ _ _ rfl PySem.F.plainAttrs_str PySem.F.slot_str_join PySem.F.type_str_join (mt_join (K:=K) rfl) (@Zaj _ _ _ _) (@pa_cons _ _ _ _ _ (@Za1 _ _ _ _ _ _ _ _ Zkp (Zh6 (Zlr (K:=K) rfl) (pv 1) Zkm (Zkl (@Zad _ _ _ _))) (Zh6 (Zlr (K:=K) rfl) (pv 1) (Zkl (@Zad _ _ _ _)) Zkm)) Zac Zb6) (by rfl) (by rfl) (by rfl) (by rfl) (by rfl)) Zac Za6))))))) (@Zag _ _ _ (@Zat _ _ _ _ Ze6)) Za0) (@Zae _ _ _ _ _ (Zbo (PW.pt (Zew (Zca (Zby (Zaf F_lawisnum (hr.mono (by decide)) rfl (@pa_cons _ _ _ _ _ (@Za2 _ _ _ _ _ _ _ (Zam (K:=K) rfl) (pv 1) (@Zad _ _ _ _) (fun _ _=>rfl)) (@pa_cons _ _ _ _ _ (@Zad _ _ _ _) Zac Zaa) Zah)))) (Zew (Zaw Zi4 (@Za1 _ _ _ _ _ _ _ _ Zdg (Zbz Zec rfl B.bint (by rfl) (@pa_cons _ _ _ _ _ (@Za2 _ _ _ _ _ _ _ (Zam (K:=K) rfl) (pv 1) (@Zad _ _ _ _) (fun _ _=>rfl)) Zac Zah)) (@Zad _ _ _ _)) (@Zad _ _ _ _) (Zau _)) (Zea (Zaw (Zi3 (K:=K) rfl) (@Za2 _ _ _ _ _ _ _ (Zam (K:=K) rfl) (pv 1) (@Zad _ _ _ _) (fun _ _=>rfl)) (@Zfo _ _ _ _ _ (@pa_cons _ _ _ _ _ (@Zaj _ _ _ _) (@pa_cons _ _ _ _ _ (@Zaj _ _ _ _) Zac Zaa) Zaa)) (by with_unfolding_all rfl)))))) (@Zag _ _ _ (@Zat _ _ _ _ Ze6)) Za0) (@Zae _ _ _ _ _ (@Zav _ _ 2 _ _ _ _ (Zet).nd rfl (Or.inl rfl) (@Za1 _ _ _ _ _ _ _ _ Zcx (Zas Zbe rfl B.len (by rfl) (@pa_cons _ _ _ _ _ (@Za2 _ _ _ _ _ _ _ (Zam (K:=K) rfl) (pv 1) (@Zad _ _ _ _) (fun _ _=>rfl)) Zac Zah)) (@Zad _ _ _ _)) (by rfl) (Or.inl rfl)) (@Zae _ _ _ _ _ (Zbo (Zaw Zcs (@Za2 _ _ _ _ _ _ _ (Zam (K:=K) rfl) (pv 1) (@Zad _ _ _ _) (fun _ _=>rfl)) (@Zaj _ _ _ _) (Zau _)) (@Zag _ _ _ (@Zat _ _ _ _ (Zb5 (Zbd Zcs (@Za1 _ _ _ _ _ _ _ _ Zdg (pv 2) (@Zad _ _ _ _)) (@Zad _ _ _ _) (Zau _)) (Zde (Zbd Zn0 (@Za1 _ _ _ _ _ _ _ _ Zb9 (Zbz Zec rfl B.bint (by rfl) (@pa_cons _ _ _ _ _ (@Za2 _ _ _ _ _ _ _ (Zam (K:=K) rfl) (pv 1) (@Zad _ _ _ _) (fun _ _=>rfl)) Zac Zah)) (pv 2)) (@Zad _ _ _ _) (Zau _)))))) Za0) (@Zag _ _ _ (@Zat _ _ _ _ (Zbd Zfr (@Za1 _ _ _ _ _ _ _ _ Zb9 (Zbz Zec rfl B.bint (by rfl) (@pa_cons _ _ _ _ _ (@Za2 _ _ _ _ _ _ _ (Zam (K:=K) rfl) (pv 1) (@Zad _ _ _ _) (fun _ _=>rfl)) Zac Zah)) (pv 2)) (@Zad _ _ _ _) (Zau _))))))))),?_⟩;refine Zal fun N g=>?_
  walk_at "rd";refine⟨rfl,by decide +kernel,hz,fun l G hl s1 hG=>g _ _ ?_⟩;clear g N;refine Zal fun N g=>?_
  walk_at "rd";refine⟨_,.inl (SqL.of hG),rfl,?_⟩;rw[List.length_map]
  by_cases h5:(Txt.split z " ").length=7
  ·rw[if_neg (by simp;omega)];obtain⟨w0,w1,w2,n,w4,w5,i,ew⟩:=Zua h5;have wl:∀v∈Txt.split z " ",v.length <=50000:=fun v r=>Nat.le_trans (Zed r) hz
   have wf:∀v∈Txt.split z " ",32∉v.cps.toList:=fun v r=>split_free r
   have x:=Zf8 z;have key:=Ztq ew;rw[ew]at hG wl wf x;have wl3:n.length <=50000:=wl _ (by simp);have wl6:i.length <=50000:=wl _ (by simp);simp only[List.map_cons,List.map_nil,List.sum_cons,List.sum_nil,List.length_cons,List.length_nil]at x;have esp:Txt.split (Txt.join " " [w0,w1,w2,w5,i]) " "=[w0,w1,w2,w5,i]:=Zem (by simp) fun v r=>wf v (by simp only[List.mem_cons,List.not_mem_nil,or_false]at r ⊢;rcases r with h|h|h|h|h <;> simp[h])
   rw[<-Zqn esp]at key;have jl:=Zf5 [w0,w1,w2,w5,i];simp only[List.map_cons,List.map_nil,List.sum_cons,List.sum_nil,List.length_cons,List.length_nil]at jl;refine⟨rfl,_,SqL.of hG,fun p1 G1 hp1 s2 e1=>⟨_,SqL.of (s2 _ _ hG),fun p2 G2 hp2 s3 e2=>⟨_,s3 _ _ e1,_,e2,Zai (show(3:Nat)+ 2 <=100000 by decide),fun p3 G3 hp3 s4 e3=>⟨[w0,w1,w2,w5,i],SqL.of e3,?_,_,rfl,by omega,fun b0 G4 hb0 s5=>⟨_,rfl,?_⟩⟩⟩⟩⟩
   ·simp only[List.map_cons,List.map_nil,List.sum_cons,List.sum_nil,List.length_cons,List.length_nil];rw[show(Str.ofString " ").length=1 by decide +kernel];omega
   have t4:=(((s1.trans s2).trans s3).trans s4).trans s5;have hG4:=s5 _ _ (s4 _ _ (s3 _ _ (s2 _ _ hG)));cases b0 with
   |false=>
    rw[if_pos (by rfl)];exact q false G4 ⟨(fun h=>nomatch h),fun h=>absurd (hb0.mpr (key.mp h).1) (by simp)⟩ t4
   |true=>
   rw[if_neg (by simp)];refine g _ _ ?_;clear g N;have hlet:=hb0.mp rfl;have no:∀G',Same H G'->(¬∃a:Int,0 <=a/\n=numT a/\a%8=0/\∃m,w4=Zcc m "+"/\roomB a (i.length / 2:Nat) m=true)->Q (.bl false) G':=fun G' s' h=>q false G' ⟨(fun h=>nomatch h),fun h'=>absurd (key.mp h').2 h⟩ s'
   refine Zal fun N g=>?_
   walk_at "rd";refine⟨_,SqL.of hG4,_,Zar (j:=3) rfl,n,4000,rfl,wl3,by decide,by decide,fun b1 G5 hb1 s6=>⟨_,rfl,?_⟩⟩;have t5:=t4.trans s6;have y:=s6 _ _ hG4;cases b1 with
   |false=>
    rw[if_pos (by rfl)];refine no G5 t5 ?_;rintro⟨a,a0,u,_,m,_,c⟩;have:Zup 4000 n:=by
     refine⟨a,a0,?_,u⟩;unfold roomB at c
     split at c
     ·simp only[Bool.and_eq_true,decide_eq_true_eq]at c;omega
     ·simp only[decide_eq_true_eq]at c;omega
    exact absurd (hb1.mpr this) (by simp)
   |true=>
   rw[if_neg (by simp)];obtain⟨a,a0,a1,u⟩:=hb1.mp rfl;have aok:=Zdk a0 (show a < 10 ^ 10 by omega);have al:n.length <=12:=by rw[u];exact aok.len2
   have ar:intText? n=some a:=by rw[u];exact aok.back
   have ua:∀k:Int,0 <=k->n=numT k->(∃m,roomB k (i.length / 2:Nat) m=true)->k=a:=fun k h0 e ⟨m,c⟩=>by
    have:k <=4000:=by
     unfold roomB at c
     split at c
     ·simp only[Bool.and_eq_true,decide_eq_true_eq]at c;omega
     ·simp only[decide_eq_true_eq]at c;omega
    exact Zf2 (Zdk h0 (show k < 10 ^ 10 by omega)).back aok.back (e.symm.trans u)
   refine⟨_,SqL.of y,_,Zar (j:=3) rfl,a,n,rfl,ar,by omega,by decide,rfl,?_⟩
   by_cases a8:a%8=0
   ·rw[if_neg (by simp[a8])];refine⟨_,SqL.of y,_,Zar (j:=4) rfl,Zai (by decide),fun p G6 hp s7 e7=>⟨p,_,rfl,.inr (SqT.of e7),rfl,by decide +kernel,_,rfl,?_⟩⟩;have t6:=t5.trans s7;have o:=s7 _ _ y;rw[if_pos rfl];cases hs:inV (.str w4) [.str (Str.ofString "."),.str (Str.ofString "+")] with
    |false=>
     rw[if_pos (by rfl)];refine no G6 t6 ?_;rintro⟨_,_,_,_,m,t,_⟩;have:=(Zhu (z:="+") (by decide +kernel)).mpr ⟨m,t⟩;rw[hs]at this;cases this
    |true=>
     rw[if_neg (by simp)];obtain⟨m,t⟩:=(Zhu (z:="+") (by decide +kernel)).mp hs;refine g _ _ ?_;clear g N;have fin:∀b,b=roomB a (i.length / 2:Nat) m->Q (.bl b) G6:=fun b hb=>by
      refine q b G6 ?_ t6;rw[key,hb];constructor
      ·intro h;exact⟨hlet,a,a0,u,a8,m,t,h⟩
      ·rintro⟨_,k,a0',ea',_,m',em',c⟩;have h1:=ua k a0' ea' ⟨m',c⟩;have h2:=Ze1 (by decide +kernel) (em'.symm.trans t);rw[h1,h2]at c;exact c
     refine Zal fun N g=>?_
     walk_at "rd";refine⟨_,SqL.of o,_,Zar (j:=6) rfl,i,rfl,Zai (by omega),⟨by decide,by decide⟩,g _ _ ?_⟩;clear g N;have hL:((i.length:Int) / 2)=((i.length / 2:Nat):Int):=by omega
     rw[hL];generalize i.length / 2=L at*;refine Zal fun N g=>?_
     walk_at "rd";refine⟨_,SqL.of o,_,Zar (j:=4) rfl,rfl,?_⟩;cases m with
     |true=>
      rw[t,if_pos (by decide +kernel)];refine⟨by decide,rfl,?_⟩
      by_cases l8:(L:Int)%8=0
      ·rw[if_pos (decide_eq_true l8)];refine⟨_,SqL.of o,_,Zar (j:=3) rfl,a,n,rfl,ar,by omega,fin _ ?_⟩;unfold roomB;rw[if_pos rfl,decide_eq_true l8,Bool.true_and]
      ·rw[if_neg (by simpa using l8)];refine fin _ ?_;unfold roomB;rw[if_pos rfl,decide_eq_false l8,Bool.false_and]
     |false=>
      rw[t,if_neg (by decide +kernel)];refine g _ _ ?_;clear g N;walk_at "rd";refine⟨_,SqL.of o,_,Zar (j:=3) rfl,a,n,rfl,ar,by omega,fin _ ?_⟩;unfold roomB;rw[if_neg (by simp)]
   ·rw[if_pos (by simpa using a8)];refine no G5 t5 ?_;rintro⟨k,a0',ea',h8,m,_,c⟩;rw[ua k a0' ea' ⟨m,c⟩]at h8;exact a8 h8
  ·rw[if_pos (by simp;omega)];refine q false G ⟨(fun h=>nomatch h),?_⟩ s1;rintro⟨d,ok,rfl⟩;rw[Zll ok]at h5;exact absurd rfl h5
def Zhr:Sp:=fun vs H Q _=>∃n:Int,vs=[.int n]/\∀m:Int,0 <=m->m < 2147483629->Q (.int m) H
abbrev Zfl:Stmt:=top 56
theorem Zhy:Zaq ["_law_number"] ["_law_number"] (defScope Zfl):=⟨rfl,rfl,rfl,by decide +kernel,rfl,by decide +kernel,by decide +kernel⟩
theorem Zpb{f:Addr}{fd:FuncData}(F:Fun K "_law_mixed" "_law_mixed" Zfl f fd):FnOk P w K mg base CX0 1 f fd ["_law_number"] Zhr:=by
 refine F.ok Zhy (fun vs H Q E h=>?_) (fun c A outer s H vs Q E d h=>?_)
 ·obtain⟨n,rfl,_⟩:=h;rfl
 ·obtain⟨n,rfl,q⟩:=h;refine⟨_,(Zae (Zav (i:=0) (Zhy).nd rfl (Or.inl rfl) (Za1 Zdg (Za1 Ze7 (Za1 Zb9 (Za1 Zdg (pv 0) Zad) Zad) Zad) Zad)) (Zae (Zav (i:=0) (Zhy).nd rfl (Or.inl rfl) (Za1 Zdg (Za1 Ze7 (pv 0) (Za1 Zb9 (Za1 Zcx (pv 0) Zad) Zad)) Zad)) (Zag (Zat (Za1 Zdg (Za1 Ze7 (Za1 Zb9 (pv 0) Zad) (Za1 Zb9 (Za1 Zcx (pv 0) Zad) Zad)) Zad))))),?_⟩;walk_at "rd";have b:∀x y:Int,CMul (x%2147483647+ 1) y:=fun x y=>.inl ⟨by omega,by omega⟩
  have a:∀x y:Int,CMul (x%2147483647) y:=fun x y=>.inl ⟨by omega,by omega⟩
  refine⟨by decide,b _ _,by decide,⟨by decide,by decide⟩,a _ _,by decide,⟨by decide,by decide⟩,b _ _,by decide,?_⟩;exact q _ (Int.emod_nonneg _ (by decide)) (Int.emod_lt_of_pos _ (by decide))
def St3(H:Hp)(a:Addr):Prop:=∃n m c,H a=some (.lst [.int n,.int m,.int c])
def Zho:Sp:=fun vs H Q _=>∃c k:Int,vs=[.int c,.int k]/\∀a G,H a=none->Same H G->St3 G a->Q (.ref a) G
abbrev Zfj:Stmt:=top 57
theorem Zoy:Zaq ["_law_cell","_law_k"] ["_law_cell","_law_k"] (defScope Zfj):=⟨rfl,rfl,rfl,by decide +kernel,rfl,by decide +kernel,by decide +kernel⟩
theorem Zo9{f:Addr}{fd:FuncData}(F:Fun K "_law_state" "_law_state" Zfj f fd):FnOk P w K mg base CX0 1 f fd ["_law_cell","_law_k"] Zho:=by
 refine F.ok Zoy (fun vs H Q E h=>?_) (fun d A outer s H vs Q E e h=>?_)
 ·obtain⟨c,k,rfl,_⟩:=h;rfl
 ·obtain⟨c,k,rfl,q⟩:=h;refine⟨_,(Zag (Zat (Zbm (pa_cons (hs:=Zb6) (Za1 Zcx (pv 0) Zad) (pa_cons (hs:=Zb6) (Za1 Zdg (pv 0) Zad) (pa_cons (hs:=Zb6) (Za1 Zb9 (pv 0) (Za1 Ze7 Zad (pv 1))) Zac)))))),?_⟩;walk_at "rd";exact⟨⟨by decide,by decide⟩,by decide,.inl ⟨by decide,by decide⟩,Zai (by simp),fun a G b s1 h1=>q a G b s1 ⟨_,_,_,h1⟩⟩
def Zco:Sp:=fun vs H Q _=>∃a b,vs=[.ref a,.int b]/\St3 H a/\1 <=b/\b < 18446744073709551616/\∀d H',0 <=d->d < b->St3 H' a->But a H H'->Q (.int d) H'
abbrev Zfm:Stmt:=top 58
theorem Zls:Zaq ["_law_state_here","_law_base","_law_found"] ["_law_state_here","_law_base"] (defScope Zfm):=⟨rfl,rfl,rfl,by decide +kernel,rfl,by decide +kernel,by decide +kernel⟩
theorem Zpc{f:Addr}{fd:FuncData}(F:Fun K "_law_digit" "_law_digit" Zfm f fd)(F_mixed:FnB P w K mg base "_law_mixed" 1 ["_law_number"] [] Zhr):FnOk P w K mg base CX0 2 f fd ["_law_state_here","_law_base"] Zco:=by
 refine F.ok Zls (fun vs H Q E h=>?_) (fun l A outer s H vs Q E e h=>?_)
 ·obtain⟨a,b,rfl,_⟩:=h;rfl
 ·obtain⟨a,b,rfl,⟨n,m,c,h⟩,k,j,q⟩:=h;refine⟨_,(Zae (Zbo (PW.pt (Zqi (Zaw Zcs (Za2 (Zam (K:=K) rfl) (pv 0) Zad (fun _ _=>rfl)) Zad (Zau _)) (Znt (Zaw Zt0 (Za2 (Zam (K:=K) rfl) (pv 0) Zad (fun _ _=>rfl)) Zad (Zau _))))) (Zae (Zav (i:=2) (Zls).nd rfl (Or.inl rfl) (Za1 Zdg (Za2 (Zam (K:=K) rfl) (pv 0) Zad (fun _ _=>rfl)) (pv 1))) (Zae (Zgg (Za1 Zcx (Za2 (Zam (K:=K) rfl) (pv 0) Zad (fun _ _=>rfl)) (pv 1)) (Zfv (pv 0) Zad Zcq)) (Zag (Zat (pv 2))))) Za0) (Zae (Zgg (Zaf F_mixed (e.mono (by decide)) rfl (pa_cons (hs:=Zb6) (Za1 Zb9 (Za2 (Zam (K:=K) rfl) (pv 0) Zad (fun _ _=>rfl)) Zad) Zac)) (Zfv (pv 0) Zad Zcq)) (Zag (Zat (Za1 Zdg (Za1 Zcx (Za2 (Zam (K:=K) rfl) (pv 0) Zad (fun _ _=>rfl)) Zad) (pv 1)))))),?_⟩;refine Zal fun N g=>?_
  have rest:N [some (.ref a),some (.int b),none] H:=by
   refine g _ _ ?_;walk_at "rd";refine⟨_,SqL.of h,_,rfl,_,rfl,?_⟩;refine⟨_,rfl,fun r p o=>?_⟩;walk_at "rd";refine⟨_,h,2,rfl,fun G d h1=>?_⟩;refine⟨_,SqL.of h1,_,rfl,_,rfl,⟨by decide,by decide⟩,by omega,?_⟩;exact q _ _ (Int.emod_nonneg _ (by omega)) (Int.emod_lt_of_pos _ (by omega)) ⟨_,_,_,h1⟩ d
  walk_at "rd";refine⟨_,SqL.of h,_,rfl,rfl,Zpj (fun _=>⟨_,SqL.of h,_,rfl,_,rfl,Zpj (fun t=>?_) (fun _=>rest)⟩) (fun _=>rest)⟩;refine⟨_,SqL.of h,_,rfl,_,rfl,by omega,_,SqL.of h,_,rfl,_,rfl,⟨by omega,by omega⟩,_,h,0,rfl,fun G d h1=>?_⟩;exact q _ _ (Int.emod_nonneg _ (by omega)) (Int.emod_lt_of_pos _ (by omega)) ⟨_,_,_,h1⟩ d
theorem Zn9:∀cs:List Nat,(Txt.join "" (cs.map fun c=>(⟨#[c]⟩:Str))).cps.toList=cs:=fun cs=>by
 rw[Zbf,show("":Str).cps.toList=[] by decide +kernel]
 induction cs with
 |nil=>rfl
 |cons c r ih=>
  cases r with
  |nil=>rfl
  |cons d r=>
   show [c]++[]++jnC [] (List.map (fun c=>(⟨#[c]⟩:Str)) (d::r))=_;rw[ih];rfl
theorem St3.same{H G:Hp}{a:Addr}(h:St3 H a)(s:Same H G):St3 G a:=by obtain⟨n,m,c,e⟩:=h;exact⟨n,m,c,s _ _ e⟩
theorem St3.ne{H:Hp}{a t:Addr}(h:St3 H a)(e:H t=none):t≠a:=fun z=>by subst z;obtain⟨_,_,_,b⟩:=h;rw[e]at b;cases b
abbrev abcZ:Str:="abcdefghijklmnopqrstuvwxyz"
theorem Zsl{i:Nat}(h:i < 26):abcZ.cps.toList[i]?=some (97+ i):=by
 have:∀i:_root_.Fin 26,abcZ.cps.toList[i.val]?=some (97+ i.val):=by decide +kernel
 exact this ⟨i,h⟩
def Zj7:Sp:=fun vs H Q _=>∃ (a l:Addr) (zs:List Str),vs=[.ref a,.ref l]/\St3 H a/\l≠a/\H l=some (.lst (zs.map V.str))/\1 <=zs.length/\zs.length <=8/\(∀z∈zs,NmOk z)/\∀z H',NmOk z->St3 H' a->But a H H'->Q (.str z) H'
abbrev Zge:Stmt:=top 59
theorem Zj9:Zaq ["_law_state_here","_law_some","_law_way","_law_letters"] ["_law_state_here","_law_some"] (defScope Zge):=⟨rfl,rfl,rfl,by decide +kernel,rfl,by decide +kernel,by decide +kernel⟩
theorem Zrx{f:Addr}{fd:FuncData}(F:Fun K "_law_name" "_law_name" Zge f fd)(B:Bt mg)(F_digit:FnB P w K mg base "_law_digit" 2 ["_law_state_here","_law_base"] [] Zco):FnOk P w K mg base CX0 3 f fd ["_law_state_here","_law_some"] Zj7:=by
 refine F.ok Zj9 (fun vs H Q E h=>?_) (fun cdv A outer s H vs Q E hr h=>?_)
 ·obtain⟨a,l,zs,rfl,_⟩:=h;rfl
 ·obtain⟨a,l,zs,rfl,st,nla,hl,z1,z8,hz,q⟩:=h;refine⟨_,(@Zae _ _ _ _ _ (@Zav _ _ 2 _ _ _ _ (Zj9).nd rfl (Or.inl rfl) (Zaf F_digit (hr.mono (by decide)) rfl (@pa_cons _ _ _ _ _ (pv 0) (@pa_cons _ _ _ _ _ (@Za1 _ _ _ _ _ _ _ _ Ze7 (@Zad _ _ _ _) (Zas (Zbt (K:=K) rfl) rfl B.len (by rfl) (@pa_cons _ _ _ _ _ (pv 1) Zac Zab))) Zac Zb6) Zab)) (by rfl) (Or.inl rfl)) (@Zae _ _ _ _ _ (Zbo (Zaw Zn0 (pv 2) (Zas (Zbt (K:=K) rfl) rfl B.len (by rfl) (@pa_cons _ _ _ _ _ (pv 1) Zac Zab)) (Zau _)) (@Zag _ _ _ (@Zat _ _ _ _ (@Za2 _ _ _ _ _ _ _ (Zam (K:=K) rfl) (pv 1) (pv 2) (fun _ _=>rfl)))) Za0) (@Zae _ _ _ _ _ (@Zav _ _ 3 _ _ _ _ (Zj9).nd rfl (Or.inr rfl) (@Zaj _ _ _ _) (by rfl) (Or.inl rfl)) (@Zag _ _ _ (@Zat _ _ _ _ (@pe_bmK _ K _ _ _ _ _ _ _ _ _ _ _ rfl PySem.F.plainAttrs_str PySem.F.slot_str_join PySem.F.type_str_join (mt_join (K:=K) rfl) (@Zaj _ _ _ _) (@pa_cons _ _ _ _ _ (Zdf (N':=["_law_k","_law_letters","_law_state_here"]) (caps:=[none,some 3,some 0]) (Zgs (sc:=defScope Zge) (N:=["_law_state_here","_law_some","_law_way","_law_letters"]) rfl rfl (by decide +kernel)) rfl (Ze5 rfl B.range (@pa_cons _ _ _ _ _ (@Za1 _ _ _ _ _ _ _ _ Zb9 (@Zad _ _ _ _) (Zaf F_digit (hr.mono (by decide)) rfl (@pa_cons _ _ _ _ _ (pv 0) (@pa_cons _ _ _ _ _ (@Zad _ _ _ _) Zac Zaa) Zab))) Zac Zb6)) (fun _ _ _ _ _=>(Zcj (i:=0) (Zgl (N:=["_law_k","_law_letters","_law_state_here"]) rfl (by decide +kernel)) rfl (Or.inl rfl))) (fun _ _ _ _ _=>Zeb) (fun _ _ _ _ _=>(@Za2 _ _ _ _ _ _ _ Zgo (pv 1) (Zaf F_digit (hr.mono (by decide)) rfl (@pa_cons _ _ _ _ _ (pv 2) (@pa_cons _ _ _ _ _ (@Zad _ _ _ _) Zac Zaa) Zab)) (fun _ _=>rfl)))) Zac Zcb) (by rfl) (by rfl) (by rfl) (by rfl) (by rfl))))))),?_⟩;refine Zal fun N d=>?_
  walk_at "rd";refine⟨_,.inl (SqL.of hl),.inl ⟨by decide,by decide⟩,a,_,rfl,st,by rw[List.length_map];omega,by rw[List.length_map];omega,fun d1 H1 d1a d1b x b1=>d _ _ ?_⟩;clear d N;have y:=b1 _ _ hl nla;refine Zal fun N d=>?_
  walk_at "rd";refine⟨_,.inl (SqL.of y),?_⟩;rw[List.length_map]
  by_cases hd:d1 < (zs.length:Int)
  ·rw[if_pos (decide_eq_true hd)];obtain⟨i,rfl⟩:∃i:Nat,d1=i:=⟨d1.toNat,by omega⟩;have hi:zs[i]?=some zs[i]:=List.getElem?_eq_getElem (by omega);refine⟨_,SqL.of y,V.str zs[i],Zar (by rw[List.getElem?_map,hi];rfl),q _ H1 (hz _ (List.mem_of_getElem? hi)) x b1⟩
  ·rw[if_neg (by simpa using hd)];refine d _ _ ?_;clear d N;refine Zal fun N d=>?_
   walk_at "rd";refine d _ _ ?_;clear d N;walk_at "rd";refine⟨rfl,a,8,rfl,x,by decide,by decide,fun d2 H2 d2a d2b st2 b2=>⟨d2,rfl,by omega,by omega,?_⟩⟩;obtain⟨n,en,n1,n8⟩:∃n:Nat,(1+ d2).toNat=n/\1 <=n/\n <=8:=⟨_,rfl,by omega,by omega⟩;rw[en];have b12:But a H H2:=fun c o e h=>b2 c o (b1 c o e h) h
   obtain⟨Pv,k⟩:∃Pv:Nat->List V->L2.St->Hp->Prop,Pv=fun i ys σ' G=>∃ (v:Option V) (b:List Nat),σ'=[v,some (.str abcZ),some (.ref a)]/\ys=(b.map fun c=>(⟨#[c]⟩:Str)).map V.str/\b.length=i/\(∀c∈b,smallC c=true)/\St3 G a/\But a H G:=⟨_,rfl⟩
   refine Zgt Pv (by rw[k];exact⟨none,[],rfl,rfl,rfl,(fun _ h=>nomatch h),st2,b12⟩) ?_ (Zai (by omega)) ?_ ?_ <;> rw[k]
   ·rintro i ys σ' G ⟨v,b,rfl,rfl,u,_⟩ _;rw[List.length_map,List.length_map];omega
   ·rintro i ys σ' G hi ⟨v,b,rfl,rfl,u,g,m,bG⟩;rw[<-k];walk_at "rd";refine⟨a,26,rfl,m,by decide,by decide,fun d3 H3 d3a d3b st3 b3=>?_⟩;obtain⟨j,rfl⟩:∃j:Nat,d3=j:=⟨d3.toNat,by omega⟩;refine⟨j,rfl,Zai (by decide +kernel),97+ j,Zar (Zsl (by omega)),?_⟩;rw[k];refine⟨_,b++[97+ j],rfl,by rw[List.map_append,List.map_append];rfl,by rw[List.length_append,u];rfl,fun c hc'=>?_,st3,fun c o e h=>b3 c o (bG c o e h) h⟩;rcases List.mem_append.mp hc' with h|h
    ·exact g c h
    ·rw[List.mem_singleton.mp h];unfold smallC;rw[decide_eq_true (by omega),decide_eq_true (by omega)];rfl
   ·rintro ys σ' G ⟨v,b,rfl,rfl,u,g,m,bG⟩ p G2 hp s2 aa;have t:=Zn9 b;refine⟨p,rfl,b.map fun c=>(⟨#[c]⟩:Str),SqL.of aa,?_,?_⟩
    ·have e:((b.map fun c=>(⟨#[c]⟩:Str)).map (fun z:Str=>z.length)).sum <=b.length:=by
      clear g t u aa
      induction b with
      |nil=>exact Nat.le_refl _
      |cons c r ih=>rw[List.map_cons,List.map_cons,List.sum_cons,List.length_cons];show 1+ _ <=_;omega
     rw[List.length_map,show(Str.ofString "").length=0 by decide +kernel];omega
    ·refine q _ G2 ⟨?_,?_,?_⟩ (m.same s2) (fun c o e h=>s2 c o (bG c o e h))
     ·rw[Zbg,t];omega
     ·rw[Zbg,t];omega
     ·rw[t];exact List.all_eq_true.mpr g
def Zlo:Sp:=fun vs H Q _=>∃a:Addr,vs=[.ref a]/\St3 H a/\∀ (t:Addr) (nu:Int) (z1 z2:Str) H',0 <=nu->nu <=65535->NmOk z1->NmOk z2->H t=none->t≠a->H' t=some (.tup [.int nu,.str z1,.str z2])->St3 H' a->But a H H'->Q (.ref t) H'
abbrev Zmj:Stmt:=top 60
theorem Zp9:Zaq ["_law_state_here","_law_number"] ["_law_state_here"] (defScope Zmj):=⟨rfl,rfl,rfl,by decide +kernel,rfl,by decide +kernel,by decide +kernel⟩
theorem Zt3{f:Addr}{fd:FuncData}(F:Fun K "_law_key" "_law_key" Zmj f fd)(F_digit:FnB P w K mg base "_law_digit" 2 ["_law_state_here","_law_base"] [] Zco)(F_name:FnB P w K mg base "_law_name" 3 ["_law_state_here","_law_some"] [] Zj7):FnOk P w K mg base CX0 4 f fd ["_law_state_here"] Zlo:=by
 refine F.ok Zp9 (fun vs H Q E h=>?_) (fun cdv A outer s H vs Q E i h=>?_)
 ·obtain⟨a,rfl,_⟩:=h;rfl
 ·obtain⟨a,rfl,st,q⟩:=h;refine⟨_,(@Zae _ _ _ _ _ (@Zav _ _ 1 _ _ _ _ (Zp9).nd rfl (Or.inl rfl) (@Za2 _ _ _ _ _ _ _ (Zam (K:=K) rfl) (@Zbm _ _ _ _ (@pa_cons _ _ _ _ _ (@Zad _ _ _ _) (@pa_cons _ _ _ _ _ (@Zad _ _ _ _) (@pa_cons _ _ _ _ _ (@Zad _ _ _ _) (@pa_cons _ _ _ _ _ (@Zad _ _ _ _) (@pa_cons _ _ _ _ _ (@Zad _ _ _ _) (@pa_cons _ _ _ _ _ (@Zad _ _ _ _) (@pa_cons _ _ _ _ _ (Zaf F_digit (i.mono (by decide)) rfl (@pa_cons _ _ _ _ _ (pv 0) (@pa_cons _ _ _ _ _ (@Zad _ _ _ _) Zac Zaa) Zab)) Zac Za6) Zaa) Zaa) Zaa) Zaa) Zaa) Zaa)) (Zaf F_digit (i.mono (by decide)) rfl (@pa_cons _ _ _ _ _ (pv 0) (@pa_cons _ _ _ _ _ (@Zad _ _ _ _) Zac Zaa) Zab)) (fun _ _=>rfl)) (by rfl) (Or.inl rfl)) (@Zag _ _ _ (@Zat _ _ _ _ (@Zfo _ _ _ _ _ (@pa_cons _ _ _ _ _ (pv 1) (@pa_cons _ _ _ _ _ (Zaf F_name (i.mono (by decide)) rfl (@pa_cons _ _ _ _ _ (pv 0) (@pa_cons _ _ _ _ _ (@Zbm _ _ _ _ (@pa_cons _ _ _ _ _ (@Zaj _ _ _ _) (@pa_cons _ _ _ _ _ (@Zaj _ _ _ _) (@pa_cons _ _ _ _ _ (@Zaj _ _ _ _) Zac Zaa) Zaa) Zaa)) Zac Zfe) Zab)) (@pa_cons _ _ _ _ _ (Zaf F_name (i.mono (by decide)) rfl (@pa_cons _ _ _ _ _ (pv 0) (@pa_cons _ _ _ _ _ (@Zbm _ _ _ _ (@pa_cons _ _ _ _ _ (@Zaj _ _ _ _) (@pa_cons _ _ _ _ _ (@Zaj _ _ _ _) (@pa_cons _ _ _ _ _ (@Zaj _ _ _ _) Zac Zaa) Zaa) Zaa)) Zac Zfe) Zab)) Zac Za6) Za6) Zab))))),?_⟩;refine Zal fun N hN=>?_
  walk_at "rd";refine⟨a,65536,rfl,st,by decide,by decide,fun d1 H1 d1a d1b n b1=>⟨Zai (by decide),fun p G1 hp s1 g1=>⟨a,7,rfl,n.same s1,by decide,by decide,fun d2 H2 d2a d2b m y=>?_⟩⟩⟩;obtain⟨j,rfl⟩:∃j:Nat,d2=j:=⟨d2.toNat,by omega⟩;obtain⟨d,r,n0,n1⟩:∃d:Int,([V.int 0,V.int 1,V.int 7,V.int 10,V.int 65535,V.int 256,V.int d1]:List V)[j]?=some (V.int d)/\0 <=d/\d <=65535:=by
   match j,(show j < 7 by omega) with
   |0,_=>exact⟨_,rfl,by decide,by decide⟩
   |1,_=>exact⟨_,rfl,by decide,by decide⟩
   |2,_=>exact⟨_,rfl,by decide,by decide⟩
   |3,_=>exact⟨_,rfl,by decide,by decide⟩
   |4,_=>exact⟨_,rfl,by decide,by decide⟩
   |5,_=>exact⟨_,rfl,by decide,by decide⟩
   |6,_=>exact⟨d1,rfl,by omega,by omega⟩
  refine⟨_,j,rfl,SqL.of (y _ _ g1 (n.ne hp)),_,Zar r,hN _ _ ?_⟩;clear hN N;have u:But a H H2:=fun c o e h=>y c o (s1 c o (b1 c o e h)) h
  clear b1 y s1 g1 r;walk_at "rd";refine⟨Zai (by decide),fun p3 G3 hp3 x g3=>⟨a,p3,["a","ab","zz"],rfl,m.same x,m.ne hp3,g3,by decide,by decide,?_,fun z1 H4 k1 l b4=>⟨Zai (by decide),fun p5 G5 hp5 v g5=>⟨a,p5,["a","b","abcdefgh"],rfl,l.same v,l.ne hp5,g5,by decide,by decide,?_,fun z2 H6 k2 k b6=>⟨Zai (by decide),fun t G7 ht s7 g7=>?_⟩⟩⟩⟩⟩
  ·intro z g;simp only[List.mem_cons,List.not_mem_nil,or_false]at g;rcases g with rfl|rfl|rfl <;> (unfold NmOk;decide +kernel)
  ·intro z g;simp only[List.mem_cons,List.not_mem_nil,or_false]at g;rcases g with rfl|rfl|rfl <;> (unfold NmOk;decide +kernel)
  ·have b07:But a H G7:=fun c o e h=>s7 c o (b6 c o (v c o (b4 c o (x c o (u c o e h)) h)) h)
   have b:=k.ne ht;refine q t d z1 z2 G7 n0 n1 k1 k2 ?_ b g7 (k.same s7) b07;cases e:H t with
   |none=>rfl
   |some o=>
    have:=b6 t o (v t o (b4 t o (x t o (u t o e b)) b)) b;rw[ht]at this;cases this
def Zee:Sp:=fun vs H Q _=>∃ (a:Addr) (n:Nat),vs=[.ref a,.int (n:Int)]/\n <=4000/\St3 H a/\∀ (b:Addr) (bs:List Int) H',bs.length=n->(∀x∈bs,0 <=x/\x <=255)->b≠a->H' b=some (.lst (bs.map V.int))->St3 H' a->But a H H'->Q (.ref b) H'
abbrev Zdb:Stmt:=top 61
theorem Zfi:Zaq ["_law_state_here","_law_length","_law_first","_law_step"] ["_law_state_here","_law_length"] (defScope Zdb):=⟨rfl,rfl,rfl,by decide +kernel,rfl,by decide +kernel,by decide +kernel⟩
theorem Zmm{f:Addr}{fd:FuncData}(F:Fun K "_law_body" "_law_body" Zdb f fd)(B:Bt mg)(F_digit:FnB P w K mg base "_law_digit" 2 ["_law_state_here","_law_base"] [] Zco):FnOk P w K mg base CX0 3 f fd ["_law_state_here","_law_length"] Zee:=by
 refine F.ok Zfi (fun vs H Q E h=>?_) (fun cdv A outer s H vs Q E u h=>?_)
 ·obtain⟨a,n,rfl,_⟩:=h;rfl
 ·obtain⟨a,n,rfl,hn,st,q⟩:=h;refine⟨_,(Zae (Zav (i:=2) (Zfi).nd rfl (Or.inr rfl) (Zaf F_digit (u.mono (by decide)) rfl (pa_cons (hs:=Zab) (pv 0) (pa_cons (hs:=Zaa) Zad Zac)))) (Zae (Zav (i:=3) (Zfi).nd rfl (Or.inr rfl) (Za1 Zb9 Zad (Zaf F_digit (u.mono (by decide)) rfl (pa_cons (hs:=Zab) (pv 0) (pa_cons (hs:=Zaa) Zad Zac))))) (Zag (Zat (Zdf (N':=["_law_k","_law_first","_law_step"]) (caps:=[none,some 2,some 3]) (Zgs (sc:=defScope Zdb) (N:=["_law_state_here","_law_length","_law_first","_law_step"]) rfl rfl (by decide +kernel)) rfl (Ze5 rfl B.range (pa_cons (hs:=Zab) (pv 1) Zac)) (fun _ _ _ _ _=>(Zcj (i:=0) (Zgl (N:=["_law_k","_law_first","_law_step"]) rfl (by decide +kernel)) rfl (Or.inl rfl))) (fun _ _ _ _ _=>Zeb) (fun _ _ _ _ _=>(Za1 Zdg (Za1 Zb9 (Za1 Zb9 (pv 1) (Za1 Ze7 (pv 2) (pv 0))) (Za1 Zcx (pv 0) Zad)) Zad))))))),?_⟩;refine Zal fun N d=>?_
  walk_at "rd";refine⟨a,256,rfl,st,by decide,by decide,fun m H1 d1a d1b t b1=>d _ _ ?_⟩;clear d N;refine Zal fun N d=>?_
  walk_at "rd";refine⟨a,255,rfl,t,by decide,by decide,fun j H2 d2a d2b k b2=>⟨j,rfl,d _ _ ?_⟩⟩;clear d N;have z:But a H H2:=fun c o e h=>b2 c o (b1 c o e h) h
  walk_at "rd";refine⟨by omega,by omega,?_⟩;rw[Int.toNat_natCast];obtain⟨r,b⟩:∃r:Nat->List V->L2.St->Hp->Prop,r=fun i ys σ' G=>∃ (v:Option V) (bs:List Int),σ'=[v,some (.int m),some (.int (1+ j))]/\ys=bs.map V.int/\bs.length=i/\(∀x∈bs,0 <=x/\x <=255)/\G=H2:=⟨_,rfl⟩
  refine Zgt r (by rw[b];exact⟨none,[],rfl,rfl,rfl,(fun _ h=>nomatch h),rfl⟩) ?_ (Zai (by omega)) ?_ ?_ <;> rw[b]
  ·rintro i ys σ' G ⟨v,bs,rfl,rfl,g,_⟩ _;rw[List.length_map];omega
  ·rintro i ys σ' G hi ⟨v,bs,rfl,rfl,g,l,rfl⟩;rw[<-b];walk_at "rd";refine⟨.inr ⟨by omega,by omega⟩,⟨by decide,by decide⟩,by decide,?_⟩;rw[b];refine⟨_,bs++[_],rfl,by rw[List.map_append];rfl,by rw[List.length_append,g];rfl,fun x hx=>?_,rfl⟩;rcases List.mem_append.mp hx with h|h
   ·exact l x h
   ·rw[List.mem_singleton.mp h];have h1:=Int.emod_nonneg (m+ (1+ j)*(0+ (i:Int))+ (0+ (i:Int)) / 16) (show(256:Int)≠0 by decide);have h2:=Int.emod_lt_of_pos (m+ (1+ j)*(0+ (i:Int))+ (0+ (i:Int)) / 16) (show(0:Int) < 256 by decide);exact⟨h1,by omega⟩
  ·rintro ys σ' G ⟨v,bs,rfl,rfl,g,l,rfl⟩ p G2 hp s2 y;exact q p bs G2 g l (k.ne hp) y (k.same s2) fun c o e h=>s2 c o (z c o e h)
def Zd5(CL:Addr):Sp:=fun vs H Q _=>∃ (a:Addr),vs=[.ref a,.int 24]/\St3 H a/\∀ (p b:Addr) (d:LD) H',LetO CL H' p b d->d.ns.length <=100->St3 H' a->But a H H'->Q (.ref p) H'
abbrev Zcf:Stmt:=top 62
theorem Zd9:Zaq ["_law_state_here","_law_most","_law_key_here","_law_length"] ["_law_state_here","_law_most"] (defScope Zcf):=⟨rfl,rfl,rfl,by decide +kernel,rfl,by decide +kernel,by decide +kernel⟩
theorem Zi6{f CL:Addr}{fd:FuncData}(F:Fun K "_law_letter" "_law_letter" Zcf f fd)(F_digit:FnB P w K mg base "_law_digit" 2 ["_law_state_here","_law_base"] [] Zco)(F_key:FnB P w K mg base "_law_key" 4 ["_law_state_here"] [] Zlo)(F_lawbody:FnB P w K mg base "_law_body" 3 ["_law_state_here","_law_length"] [] Zee)(F_Letter:CtB P w K mg base "Letter" 6 (Zp8 CL)):FnOk P w K mg base CX0 8 f fd ["_law_state_here","_law_most"] (Zd5 CL):=by
 refine F.ok Zd9 (fun vs H Q E h=>?_) (fun cdv A outer s H vs Q E g h=>?_)
 ·obtain⟨a,rfl,_⟩:=h;rfl
 ·obtain⟨a,rfl,st,q⟩:=h;refine⟨_,(Zae (Zav (i:=2) (Zd9).nd rfl (Or.inl rfl) (Zaf F_key (g.mono (by decide)) rfl (pa_cons (hs:=Zab) (pv 0) Zac))) (Zae (Zav (i:=3) (Zd9).nd rfl (Or.inl rfl) (Za1 Zb9 Zad (Zaf F_digit (g.mono (by decide)) rfl (pa_cons (hs:=Zab) (pv 0) (pa_cons (hs:=Zab) (pv 1) Zac))))) (Zag (Zat (Zqm F_Letter (g.mono (by decide)) rfl (pa_cons (hs:=Zah) (Za2 (Zd2 (K:=K) rfl) (pv 2) Zad (fun _ _=>rfl)) (pa_cons (hs:=Zah) (Za2 (Zd2 (K:=K) rfl) (pv 2) Zad (fun _ _=>rfl)) (pa_cons (hs:=Zah) (Za2 (Zd2 (K:=K) rfl) (pv 2) Zad (fun _ _=>rfl)) (pa_cons (hs:=Za6) (Zaf F_lawbody (g.mono (by decide)) rfl (pa_cons (hs:=Zab) (pv 0) (pa_cons (hs:=Zab) (pv 3) Zac))) (pa_cons (hs:=Zha) (Zbd Zcs (Zaf F_digit (g.mono (by decide)) rfl (pa_cons (hs:=Zab) (pv 0) (pa_cons (hs:=Zaa) Zad Zac))) Zad (Zau _)) Zac)))))))))),?_⟩;refine Zal fun N k=>?_
  walk_at "rd";refine⟨a,rfl,st,fun t nu z1 z2 H1 n0 n1 k1 k2 ht x z u b1=>k _ _ ?_⟩;clear k N;refine Zal fun N k=>?_
  walk_at "rd";refine⟨a,24,rfl,u,by decide,by decide,fun l H2 d2a d2b r b2=>⟨l,rfl,k _ _ ?_⟩⟩;clear k N;have d:=b2 _ _ z x;walk_at "rd";refine⟨_,SqT.of d,_,at0,_,SqT.of d,_,Zar (j:=1) rfl,_,SqT.of d,_,Zar (j:=2) rfl,a,(1+ l).toNat,by rw[show((1+ l).toNat:Int)=1+ l by omega],by omega,r,fun b bs H3 hbl aa y ab n b3=>⟨a,3,rfl,n,by decide,by decide,fun d4 H4 d4a d4b m b4=>⟨rfl,?_⟩⟩⟩;refine⟨⟨nu,z1,z2,bs,decide (V.int d4=V.int 0)⟩,b,rfl,⟨n0,n1,k1,k2,by show 1 <=bs.length;omega,by show bs.length <=4000;omega,aa⟩,b4 _ _ ab y,fun p b' G hp hb' v hO=>q p b' _ G hO (by show bs.length <=100;omega) (m.same v) fun c o e h=>v c o (b4 c o (b3 c o (b2 c o (b1 c o e h) h) h) h)⟩
def Zeo(CP:Addr):Sp:=fun vs H Q _=>∃ (a:Addr),vs=[.ref a,.int 24]/\St3 H a/\∀ (p b:Addr) (d:PD) H',PieO CP H' p b d->d.ns.length <=100->b≠a->St3 H' a->But a H H'->Q (.ref p) H'
abbrev Zc0:Stmt:=top 63
theorem Zcd:Zaq ["_law_state_here","_law_most","_law_key_here","_law_at","_law_more","_law_length"] ["_law_state_here","_law_most"] (defScope Zc0):=⟨rfl,rfl,rfl,by decide +kernel,rfl,by decide +kernel,by decide +kernel⟩
theorem Zks{f CP:Addr}{fd:FuncData}(F:Fun K "_law_piece" "_law_piece" Zc0 f fd)(F_digit:FnB P w K mg base "_law_digit" 2 ["_law_state_here","_law_base"] [] Zco)(F_key:FnB P w K mg base "_law_key" 4 ["_law_state_here"] [] Zlo)(F_lawbody:FnB P w K mg base "_law_body" 3 ["_law_state_here","_law_length"] [] Zee)(F_Piece:CtB P w K mg base "Piece" 6 (Zp7 CP)):FnOk P w K mg base CX0 8 f fd ["_law_state_here","_law_most"] (Zeo CP):=by
 refine F.ok Zcd (fun vs H Q E h=>?_) (fun cdv A outer s H vs Q E g h=>?_)
 ·obtain⟨a,rfl,_⟩:=h;rfl
 ·obtain⟨a,rfl,st,q⟩:=h;refine⟨_,(Zae (Zav (i:=2) (Zcd).nd rfl (Or.inl rfl) (Zaf F_key (g.mono (by decide)) rfl (pa_cons (hs:=Zab) (pv 0) Zac))) (Zae (Zav (i:=3) (Zcd).nd rfl (Or.inl rfl) (Za1 Ze7 Zad (Zaf F_digit (g.mono (by decide)) rfl (pa_cons (hs:=Zab) (pv 0) (pa_cons (hs:=Zah) (Za2 (Zam (K:=K) rfl) (Zbm (pa_cons (hs:=Zaa) Zad (pa_cons (hs:=Zaa) Zad Zac))) (Zaf F_digit (g.mono (by decide)) rfl (pa_cons (hs:=Zab) (pv 0) (pa_cons (hs:=Zaa) Zad Zac))) (fun _ _=>rfl)) Zac))))) (Zae (Zav (i:=4) (Zcd).nd rfl (Or.inl rfl) (Zbd Zcs (Zaf F_digit (g.mono (by decide)) rfl (pa_cons (hs:=Zab) (pv 0) (pa_cons (hs:=Zaa) Zad Zac))) Zad (Zau _))) (Zae (Zav (i:=5) (Zcd).nd rfl (Or.inl rfl) (Za1 Zb9 Zad (Zaf F_digit (g.mono (by decide)) rfl (pa_cons (hs:=Zab) (pv 0) (pa_cons (hs:=Zab) (pv 1) Zac))))) (Zae (Zo3 (Zbo (Zby (pv 4)) (Zag (Zav (i:=5) (Zcd).nd rfl (Or.inl rfl) (Za1 Zb9 Zad (Za1 Ze7 (Za1 Zcx (pv 5) Zad) Zad)))) Za0)) (Zag (Zat (Zqm F_Piece (g.mono (by decide)) rfl (pa_cons (hs:=Zah) (Za2 (Zd2 (K:=K) rfl) (pv 2) Zad (fun _ _=>rfl)) (pa_cons (hs:=Zah) (Za2 (Zd2 (K:=K) rfl) (pv 2) Zad (fun _ _=>rfl)) (pa_cons (hs:=Zah) (Za2 (Zd2 (K:=K) rfl) (pv 2) Zad (fun _ _=>rfl)) (pa_cons (hs:=Zab) (pv 3) (pa_cons (hs:=Za6) (Zaf F_lawbody (g.mono (by decide)) rfl (pa_cons (hs:=Zab) (pv 0) (pa_cons (hs:=Zab) (pv 5) Zac))) (pa_cons (hs:=Zab) (pv 4) (pa_cons (hs:=Zha) (Zbd Zcs (Zaf F_digit (g.mono (by decide)) rfl (pa_cons (hs:=Zab) (pv 0) (pa_cons (hs:=Zaa) Zad Zac))) Zad (Zau _)) Zac))))))))))))))),?_⟩;refine Zal fun N d=>?_
  walk_at "rd";refine⟨a,rfl,st,fun t nu z1 z2 H1 n0 n1 k1 k2 ht l ht1 y b1=>d _ _ ?_⟩;clear d N;refine Zal fun N d=>?_
  walk_at "rd";refine⟨Zai (by decide),fun p2 G2 hp2 s2 g2=>⟨a,2,rfl,y.same s2,by decide,by decide,fun d3 H3 d3a d3b st3 v=>?_⟩⟩;obtain⟨j,rfl⟩:∃j:Nat,d3=j:=⟨d3.toNat,by omega⟩;obtain⟨u,aa,ba1,ba2⟩:∃u:Int,([V.int 3,V.int 40]:List V)[j]?=some (V.int u)/\1 <=u/\u <=40:=by
   match j,(show j < 2 by omega) with
   |0,_=>exact⟨3,rfl,by decide,by decide⟩
   |1,_=>exact⟨40,rfl,by decide,by decide⟩
  refine⟨_,j,rfl,SqL.of (v _ _ g2 (y.ne hp2)),_,Zar aa,a,u,rfl,st3,by omega,by omega,fun m H4 d4a d4b st4 b4=>⟨m,rfl,.inl ⟨by decide,by decide⟩,d _ _ ?_⟩⟩;clear d N;have ht4:=b4 _ _ (v _ _ (s2 _ _ ht1) l) l;have ab:But a H H4:=fun c o e h=>b4 c o (v c o (s2 c o (b1 c o e h)) h) h
  clear b1 v b4 s2 g2 aa;refine Zal fun N d=>?_
  walk_at "rd";refine⟨a,2,rfl,st4,by decide,by decide,fun d5 H5 d5a d5b st5 b5=>⟨rfl,d _ _ ?_⟩⟩;clear d N;refine Zal fun N d=>?_
  walk_at "rd";refine⟨a,24,rfl,st5,by decide,by decide,fun k H6 d6a d6b st6 b6=>⟨k,rfl,d _ _ ?_⟩⟩;clear d N;have r:=b6 _ _ (b5 _ _ ht4 l) l;have b06:But a H H6:=fun c o e h=>b6 c o (b5 c o (ab c o e h) h) h
  clear ab b5 b6;refine Zal fun N d=>?_
  walk_at "rd";generalize decide (d5=1)=mo;refine⟨fun σ' G=>∃n:Nat,1 <=n/\n <=48/\(mo=true->n%8=0)/\σ'=[some (.ref a),some (.int 24),some (.ref t),some (.int (8*m)),some (.bl mo),some (.int (n:Int))]/\G=H6,?_,?_⟩
  ·cases mo with
   |true=>
    rw[if_pos rfl];refine⟨⟨by decide,by decide⟩,.inr ⟨by decide,by decide⟩,(8+ (1+ k) / 8*8).toNat,by omega,by omega,fun _=>by omega,?_,rfl⟩;rw[show((8+ (1+ k) / 8*8).toNat:Int)=8+ (1+ k) / 8*8 by omega]
   |false=>
    rw[if_neg (by simp)];refine⟨(1+ k).toNat,by omega,by omega,(fun z=>by cases z),?_,rfl⟩;rw[show((1+ k).toNat:Int)=1+ k by omega]
  rintro σ' G ⟨n,n1',n48,n8,rfl,rfl⟩;refine d _ _ ?_;clear d N;walk_at "rd";refine⟨_,SqT.of r,_,at0,_,SqT.of r,_,Zar (j:=1) rfl,_,SqT.of r,_,Zar (j:=2) rfl,a,n,rfl,by omega,st6,fun b bs H7 hbl hbb nba hb7 st7 b7=>⟨a,3,rfl,st7,by decide,by decide,fun d8 H8 d8a d8b x b8=>⟨rfl,?_⟩⟩⟩;refine⟨⟨nu,z1,z2,8*m,bs,mo,decide (V.int d8=V.int 0)⟩,b,rfl,⟨n0,n1,k1,k2,by show 1 <=bs.length;omega,by show bs.length <=4000;omega,hbb,by show(0:Int) <=8*m;omega,by show(8*m)%8=0;omega,?_⟩,b8 _ _ hb7 nba,fun p b' G hp hb' sG hO=>q p b' _ G hO (by show bs.length <=100;omega) (x.ne hb') (x.same sG) fun c o e h=>sG c o (b8 c o (b7 c o (b06 c o e h) h) h)⟩;show roomB (8*m) (bs.length:Int) mo=true;unfold roomB;rw[hbl];cases mo with
  |true=>
   have:=n8 rfl;rw[if_pos rfl,decide_eq_true (by omega),decide_eq_true (by omega)];rfl
  |false=>
   rw[if_neg (by simp)];exact decide_eq_true (by omega)
def Zj8:Sp:=fun vs H Q _=>∃ (a:Addr),vs=[.ref a]/\St3 H a/\∀ (z:Str) H',z.length <=9000->St3 H' a->But a H H'->Q (.str z) H'
theorem atS{zs:List Str}{d:Int}{m:Nat}(h0:0 <=d)(h1:d < zs.length)(hm:∀z∈zs,z.length <=m):∃z:Str,atI (zs.map V.str) d=some (.str z)/\z.length <=m:=by
 obtain⟨j,rfl⟩:∃j:Nat,d=j:=⟨d.toNat,by omega⟩;have a:j < zs.length:=by omega
 exact⟨zs[j],Zar (by rw[List.getElem?_map,List.getElem?_eq_getElem a];rfl),hm _ (List.getElem_mem a)⟩
abbrev Zhb:Stmt:=top 69
theorem Zka:Zaq ["_law_state_here","_law_some"] ["_law_state_here"] (defScope Zhb):=⟨rfl,rfl,rfl,by decide +kernel,rfl,by decide +kernel,by decide +kernel⟩
theorem Zry{f:Addr}{fd:FuncData}(F:Fun K "_law_menu" "_law_menu" Zhb f fd)(F_digit:FnB P w K mg base "_law_digit" 2 ["_law_state_here","_law_base"] [] Zco):FnOk P w K mg base CX0 3 f fd ["_law_state_here"] Zj8:=by
 refine F.ok Zka (fun vs H Q E h=>?_) (fun cdv A outer s H vs Q E hr h=>?_)
 ·obtain⟨a,rfl,_⟩:=h;rfl
 ·obtain⟨a,rfl,st,q⟩:=h;refine⟨_,(@Zae _ _ _ _ _ (@Zav _ _ 1 _ _ _ _ (Zka).nd rfl (Or.inl rfl) (@Zbm _ _ _ _ (@pa_cons _ _ _ _ _ (@Zaj _ _ _ _) (@pa_cons _ _ _ _ _ (@Zaj _ _ _ _) (@pa_cons _ _ _ _ _ (@Zaj _ _ _ _) (@pa_cons _ _ _ _ _ (@Zaj _ _ _ _) (@pa_cons _ _ _ _ _ (@Zaj _ _ _ _) (@pa_cons _ _ _ _ _ (@Zaj _ _ _ _) (@pa_cons _ _ _ _ _ (@Zaj _ _ _ _) (@pa_cons _ _ _ _ _ (@Zaj _ _ _ _) (@pa_cons _ _ _ _ _ (@Zaj _ _ _ _) (@pa_cons _ _ _ _ _ (@Zaj _ _ _ _) (@pa_cons _ _ _ _ _ (@Zaj _ _ _ _) (@pa_cons _ _ _ _ _ (@Zaj _ _ _ _) (@pa_cons _ _ _ _ _ (@Zaj _ _ _ _) (@pa_cons _ _ _ _ _ (@Zaj _ _ _ _) (@pa_cons _ _ _ _ _ (@Zaj _ _ _ _) (@pa_cons _ _ _ _ _ (@Zaj _ _ _ _) Zac Zaa) Zaa) Zaa) Zaa) Zaa) Zaa) Zaa) Zaa) Zaa) Zaa) Zaa) Zaa) Zaa) Zaa) Zaa) Zaa)) (by rfl) (Or.inl rfl)) (@Zae _ _ _ _ _ (@Zav _ _ 1 _ _ _ _ (Zka).nd rfl (Or.inl rfl) (@Za1 _ _ _ _ _ _ _ _ Zkp (pv 1) (@Zbm _ _ _ _ (@pa_cons _ _ _ _ _ (@Zaj _ _ _ _) (@pa_cons _ _ _ _ _ (@Zaj _ _ _ _) (@pa_cons _ _ _ _ _ (@Zaj _ _ _ _) (@pa_cons _ _ _ _ _ (@Zaj _ _ _ _) (@pa_cons _ _ _ _ _ (@Zaj _ _ _ _) (@pa_cons _ _ _ _ _ (@Zaj _ _ _ _) (@pa_cons _ _ _ _ _ (@Zaj _ _ _ _) (@pa_cons _ _ _ _ _ (@Zaj _ _ _ _) (@pa_cons _ _ _ _ _ (@Zaj _ _ _ _) (@pa_cons _ _ _ _ _ (@Zaj _ _ _ _) (@pa_cons _ _ _ _ _ (@Za1 _ _ _ _ _ _ _ _ Zh7 (@Zaj _ _ _ _) (@Zad _ _ _ _)) (@pa_cons _ _ _ _ _ (@Za1 _ _ _ _ _ _ _ _ Zh7 (@Zaj _ _ _ _) (@Zad _ _ _ _)) (@pa_cons _ _ _ _ _ (@Zaj _ _ _ _) (@pa_cons _ _ _ _ _ (@Zaj _ _ _ _) Zac Zaa) Zaa) Zb6) Zb6) Zaa) Zaa) Zaa) Zaa) Zaa) Zaa) Zaa) Zaa) Zaa) Zaa))) (by rfl) (Or.inl rfl)) (@Zag _ _ _ (@Zat _ _ _ _ (@Za2 _ _ _ _ _ _ _ (Zam (K:=K) rfl) (@Za1 _ _ _ _ _ _ _ _ Zkp (pv 1) (@Zbm _ _ _ _ (@pa_cons _ _ _ _ _ (@Za1 _ _ _ _ _ _ _ _ Zh7 (@Zaj _ _ _ _) (@Zad _ _ _ _)) (@pa_cons _ _ _ _ _ (@Za1 _ _ _ _ _ _ _ _ Zh7 (@Zaj _ _ _ _) (@Zad _ _ _ _)) (@pa_cons _ _ _ _ _ (@Zaj _ _ _ _) Zac Zaa) Zb6) Zb6))) (Zaf F_digit (hr.mono (by decide)) rfl (@pa_cons _ _ _ _ _ (pv 0) (@pa_cons _ _ _ _ _ (@Zad _ _ _ _) Zac Zaa) Zab)) (fun _ _=>rfl)))))),?_⟩;refine Zal fun N g=>?_
  walk_at "rd";refine⟨Zai (by decide),fun p1 G1 hp1 s1 g1=>g _ _ ?_⟩;clear g N;refine Zal fun N g=>?_
  walk_at "rd";have b:(Str.ofString "00").length=2:=by decide +kernel
  refine⟨by decide,by decide,by rw[b];decide,by rw[b];decide,fun r1 n=>⟨by decide,by decide,by rw[b];decide,by rw[b];decide,fun r2 l=>⟨Zai (by decide),fun p2 G2 hp2 s2 g2=>⟨_,s2 _ _ g1,_,g2,Zai (show(16:Nat)+ 14 <=100000 by decide),fun p3 G3 hp3 s3 g3=>g _ _ ?_⟩⟩⟩⟩;clear g N;rw[b]at n l;have t3:=(s1.trans s2).trans s3;obtain⟨zs,ezs,i,bzs⟩:∃zs:List Str,G3 p3=some (.lst (zs.map V.str))/\zs.length=30/\∀z∈zs,z.length <=9000:=by
   refine⟨["0","00","01","-1","65535","65536","8","4","3992","4000","4008","x","A","abcdefghi","a1",".","+","!","..","+!","-","ff","f","FF","0g","0102",r1,r2,"7.0","1_0"],g3,rfl,fun z hz=>?_⟩;have key:∀y∈(["0","00","01","-1","65535","65536","8","4","3992","4000","4008","x","A","abcdefghi","a1",".","+","!","..","+!","-","ff","f","FF","0g","0102","7.0","1_0"]:List Str),y.length <=9000:=by decide +kernel
   by_cases h1:z=r1
   ·subst h1;exact Nat.le_trans n (by decide)
   ·by_cases h2:z=r2
    ·subst h2;exact Nat.le_trans l (by decide)
    ·refine key z ?_;simp only[List.mem_cons,List.not_mem_nil,or_false]at hz ⊢
     grind
  clear g1 g2 g3 s1 s2 s3;walk_at "rd";have v:(Str.ofString "7f").length=2:=by decide +kernel
  have u:(Str.ofString "9").length=1:=by decide +kernel
  refine⟨by decide,by decide,by rw[v];decide,by rw[v];decide,fun t k=>⟨by decide,by decide,by rw[u];decide,by rw[u];decide,fun r j=>⟨Zai (by decide),fun p4 G4 hp4 p g4=>⟨_,p _ _ ezs,_,g4,?_,fun p5 G5 hp5 s5 g5=>?_⟩⟩⟩⟩
  ·rw[List.length_map,i];exact Zai (show(30:Nat)+ 3 <=100000 by decide)
  rw[v]at k;rw[u]at j;have x:=(t3.trans p).trans s5;rw[show zs.map V.str++[V.str t,V.str r,V.str (Str.ofString "100000")]=(zs++[t,r,Str.ofString "100000"]).map V.str by rw[List.map_append];rfl]at g5;refine⟨a,33,rfl,st.same x,by decide,by decide,fun d H6 d0 d1 st6 b6=>?_⟩;obtain⟨z,ez,lz⟩:=atS (zs:=zs++[t,r,Str.ofString "100000"]) (d:=d) (m:=9000) d0 (by simp[i];omega) fun y hy=>by
   rcases List.mem_append.mp hy with h|h
   ·exact bzs y h
   ·simp only[List.mem_cons,List.not_mem_nil,or_false]at h;rcases h with rfl|rfl|rfl
    ·exact Nat.le_trans k (by decide)
    ·exact Nat.le_trans j (by decide)
    ·decide +kernel
  exact⟨_,d,rfl,SqL.of (b6 _ _ g5 ((st.same (t3.trans p)).ne hp5)),_,ez,q z H6 lz st6 fun c o e h=>b6 c o (x c o e) h⟩
theorem Zgq{i:Nat}{n k:Int}{t u:TS}{D:Zmz}{σ:L2.St}{H:Hp}(hσ:σ[i]?=some (some (.int n)))(h1:n=k->t D σ H)(h2:n≠k->u D σ H):Zs3 (Zj4 (tOp rEq (Zp3 i) (tC (.int k)))) t u D σ H:=by
 walk_at "rd";refine⟨_,hσ,rfl,?_⟩
 by_cases h:n=k
 ·rw[if_pos (by rw[h];exact decide_eq_true rfl)];exact h1 h
 ·rw[if_neg (by simpa using h)];exact h2 h
theorem Zui{i:Nat}{n k:Int}{t u:TS}{D:Zmz}{σ:L2.St}{H:Hp}(hσ:σ[i]?=some (some (.int n)))(h1:n < k->t D σ H)(h2:¬n < k->u D σ H):Zs3 (Zj4 (tOp (rI0 fun i j=>V.bl (decide (i < j))) (Zp3 i) (tC (.int k)))) t u D σ H:=by
 walk_at "rd";refine⟨_,hσ,n,rfl,?_⟩
 by_cases h:n < k
 ·rw[if_pos (decide_eq_true h)];exact h1 h
 ·rw[if_neg (by simpa using h)];exact h2 h
def tl(ws:List Str):Nat:=(ws.map (fun w:Str=>w.length)).sum+ ws.length
theorem Znb(z:Str):(Txt.slice z (some 1) none).length <=z.length:=Txt.slice_le z _ _
theorem Zjl:∀ (ws:List Str) (j:Nat),(ws.map V.str).eraseIdx j=(ws.eraseIdx j).map V.str
 |[],j=>by simp
 |w::r,0=>rfl
 |w::r,j+ 1=>by simp[Zjl r j]
theorem Zg9(y:Str):∀ (ws:List Str) (j:Nat),tl (ws.set j y) <=tl ws+ y.length
 |[],j=>by simp[tl]
 |w::r,0=>by unfold tl;simp only[List.set_cons_zero,List.map_cons,List.sum_cons,List.length_cons];omega
 |w::r,j+ 1=>by
  have:=Zg9 y r j;unfold tl at this ⊢;simp only[List.set_cons_succ,List.map_cons,List.sum_cons,List.length_cons];omega
theorem Zm2(y:Str):∀ (ws:List Str) (j:Nat) (v:Str),ws[j]?=some v->tl (ws.set j y)+ v.length=tl ws+ y.length
 |[],j,v,h=>by simp at h
 |w::r,0,v,h=>by
  cases (show w=v by simpa using h);unfold tl;simp only[List.set_cons_zero,List.map_cons,List.sum_cons,List.length_cons];omega
 |w::r,j+ 1,v,h=>by
  have:=Zm2 y r j v (by simpa using h);unfold tl at this ⊢;simp only[List.set_cons_succ,List.map_cons,List.sum_cons,List.length_cons];omega
theorem Zld:∀ (ws:List Str) (j:Nat),tl (ws.eraseIdx j) <=tl ws
 |[],j=>by simp[tl]
 |w::r,0=>by unfold tl;simp only[List.eraseIdx_cons_zero,List.map_cons,List.sum_cons,List.length_cons];omega
 |w::r,j+ 1=>by
  have:=Zld r j;unfold tl at this ⊢;simp only[List.eraseIdx_cons_succ,List.map_cons,List.sum_cons,List.length_cons];omega
theorem Zp2(y:Str)(ws:List Str)(j:Nat):tl (ws.take j++[y]++ws.drop j)=tl ws+ y.length+ 1:=by
 unfold tl;have e:ws=ws.take j++ws.drop j:=(List.take_append_drop j ws).symm;have b:=congrArg (fun l:List Str=>(l.map (fun w:Str=>w.length)).sum) e;have a:=congrArg List.length e;simp only[List.map_append,List.sum_append,List.length_append]at b a;simp only[List.map_append,List.sum_append,List.length_append,List.map_cons,List.map_nil,List.sum_cons,List.sum_nil,List.length_cons,List.length_nil];omega
theorem Zn7(y:Str)(ws:List Str)(j:Nat):(ws.map V.str).take j++[V.str y]++(ws.map V.str).drop j=(ws.take j++[y]++ws.drop j).map V.str:=by
 simp[List.map_take,List.map_drop]
def Zf9:Sp:=fun vs H Q _=>∃ (a:Addr) (z:Str) (m:Nat),vs=[.str z,.ref a]/\z.length <=m/\m <=10000/\St3 H a/\∀ (y:Str) H',y.length <=3*m+ 9100->St3 H' a->But a H H'->Q (.str y) H'
abbrev Zeg:Stmt:=top 70
theorem Zda:Zaq ["_law_text","_law_state_here","_law_words","_law_at","_law_other","_law_way","_law_signs","_law_sign"] ["_law_text","_law_state_here"] (defScope Zeg):=⟨rfl,rfl,rfl,by decide +kernel,rfl,by decide +kernel,by decide +kernel⟩
theorem Zn1{f:Addr}{fd:FuncData}(F:Fun K "_law_spoilt" "_law_spoilt" Zeg f fd)(B:Bt mg)(F_digit:FnB P w K mg base "_law_digit" 2 ["_law_state_here","_law_base"] [] Zco)(F_menu:FnB P w K mg base "_law_menu" 3 ["_law_state_here"] [] Zj8):FnOk P w K mg base CX0 4 f fd ["_law_text","_law_state_here"] Zf9:=by
 refine F.ok Zda (fun vs H Q E h=>?_) (fun cdv A outer s H vs Q E hr h=>?_)
 ·obtain⟨a,z,m,rfl,_⟩:=h;rfl
 ·obtain⟨a,z,m,rfl,hz,hm,st,q⟩:=h;refine⟨_,(@Zae _ _ _ _ _ (@Zav _ _ 2 _ _ _ _ (Zda).nd rfl (Or.inl rfl) (@pe_bmK _ K _ _ _ _ _ _ _ _ _ _ _ rfl PySem.F.plainAttrs_str PySem.F.slot_str_split PySem.F.type_str_split Zf3 (pv 0) (@pa_cons _ _ _ _ _ (@Zaj _ _ _ _) Zac Zaa) (by rfl) (by rfl) (by rfl) (by rfl) (by rfl)) (by rfl) (Or.inl rfl)) (@Zae _ _ _ _ _ (@Zav _ _ 3 _ _ _ _ (Zda).nd rfl (Or.inl rfl) (Zaf F_digit (hr.mono (by decide)) rfl (@pa_cons _ _ _ _ _ (pv 1) (@pa_cons _ _ _ _ _ (Zas (Zbt (K:=K) rfl) rfl B.len (by rfl) (@pa_cons _ _ _ _ _ (pv 2) Zac Zab)) Zac Za6) Zab)) (by rfl) (Or.inl rfl)) (@Zae _ _ _ _ _ (@Zav _ _ 4 _ _ _ _ (Zda).nd rfl (Or.inl rfl) (Zaf F_digit (hr.mono (by decide)) rfl (@pa_cons _ _ _ _ _ (pv 1) (@pa_cons _ _ _ _ _ (Zas (Zbt (K:=K) rfl) rfl B.len (by rfl) (@pa_cons _ _ _ _ _ (pv 2) Zac Zab)) Zac Za6) Zab)) (by rfl) (Or.inl rfl)) (@Zae _ _ _ _ _ (@Zav _ _ 5 _ _ _ _ (Zda).nd rfl (Or.inl rfl) (Zaf F_digit (hr.mono (by decide)) rfl (@pa_cons _ _ _ _ _ (pv 1) (@pa_cons _ _ _ _ _ (@Zad _ _ _ _) Zac Zaa) Zab)) (by rfl) (Or.inl rfl)) (@Zae _ _ _ _ _ (Zo3 (Zbo (Zaw Zcs (pv 5) (@Zad _ _ _ _) (Zau _)) (@Zag _ _ _ (Zkk (@pe_bmK _ K _ _ _ _ _ _ _ _ _ _ _ rfl PySem.F.plainAttrs_list PySem.F.slot_list_pop PySem.F.type_list_pop Zn6 (pv 2) (@pa_cons _ _ _ _ _ (pv 3) Zac Zab) (by rfl) (by rfl) (by rfl) (by rfl) (by rfl)))) (@Zag _ _ _ (Zbo (Zaw Zcs (pv 5) (@Zad _ _ _ _) (Zau _)) (@Zag _ _ _ (Zkk (@pe_bmK _ K _ _ _ _ _ _ _ _ _ _ _ rfl PySem.F.plainAttrs_list PySem.F.slot_list_insert PySem.F.type_list_insert Zhe (pv 2) (@pa_cons _ _ _ _ _ (pv 3) (@pa_cons _ _ _ _ _ (@Za2 _ _ _ _ _ _ _ (Zam (K:=K) rfl) (pv 2) (pv 3) (fun _ _=>rfl)) Zac Zah) Zab) (by rfl) (by rfl) (by rfl) (by rfl) (by rfl)))) (@Zag _ _ _ (Zbo (Zaw Zn0 (pv 5) (@Zad _ _ _ _) (Zau _)) (@Zag _ _ _ (Zgg (Zaf F_menu (hr.mono (by decide)) rfl (@pa_cons _ _ _ _ _ (pv 1) Zac Zab)) (Zfv (pv 2) (pv 3) Zcq))) (@Zag _ _ _ (Zbo (Zaw Zcs (pv 5) (@Zad _ _ _ _) (Zau _)) (@Zag _ _ _ (Zgg (@Zfo _ _ _ _ _ (@pa_cons _ _ _ _ _ (@Za2 _ _ _ _ _ _ _ (Zam (K:=K) rfl) (pv 2) (pv 4) (fun _ _=>rfl)) (@pa_cons _ _ _ _ _ (@Za2 _ _ _ _ _ _ _ (Zam (K:=K) rfl) (pv 2) (pv 3) (fun _ _=>rfl)) Zac Zah) Zah)) (Zrt (K:=K) (n:=2) rfl rfl (Zl0 (Zfv (pv 2) (pv 3) Zcq) (Zl0 (Zfv (pv 2) (pv 4) Zcq) Zrs))))) (@Zag _ _ _ (Zbo (Zaw Zcs (pv 5) (@Zad _ _ _ _) (Zau _)) (@Zag _ _ _ (Zkk (@pe_bmK _ K _ _ _ _ _ _ _ _ _ _ _ rfl PySem.F.plainAttrs_list PySem.F.slot_list_insert PySem.F.type_list_insert Zhe (pv 2) (@pa_cons _ _ _ _ _ (@Za2 _ _ _ _ _ _ _ (Zam (K:=K) rfl) (@Zbm _ _ _ _ (@pa_cons _ _ _ _ _ (@Zad _ _ _ _) (@pa_cons _ _ _ _ _ (Zas (Zbt (K:=K) rfl) rfl B.len (by rfl) (@pa_cons _ _ _ _ _ (pv 2) Zac Zab)) (@pa_cons _ _ _ _ _ (pv 3) Zac Zab) Za6) Zaa)) (Zaf F_digit (hr.mono (by decide)) rfl (@pa_cons _ _ _ _ _ (pv 1) (@pa_cons _ _ _ _ _ (@Zad _ _ _ _) Zac Zaa) Zab)) (fun _ _=>rfl)) (@pa_cons _ _ _ _ _ (@Zaj _ _ _ _) Zac Zaa) Zah) (by rfl) (by rfl) (by rfl) (by rfl) (by rfl)))) (@Zag _ _ _ (Zbo (Zaw Zcs (pv 5) (@Zad _ _ _ _) (Zau _)) (@Zae _ _ _ _ _ (@Zav _ _ 6 _ _ _ _ (Zda).nd rfl (Or.inl rfl) (@Zaj _ _ _ _) (by rfl) (Or.inl rfl)) (@Zae _ _ _ _ _ (@Zav _ _ 7 _ _ _ _ (Zda).nd rfl (Or.inl rfl) (@Za2 _ _ _ _ _ _ _ Zgo (pv 6) (Zaf F_digit (hr.mono (by decide)) rfl (@pa_cons _ _ _ _ _ (pv 1) (@pa_cons _ _ _ _ _ (@Zad _ _ _ _) Zac Zaa) Zab)) (fun _ _=>rfl)) (by rfl) (Or.inl rfl)) (@Zag _ _ _ (Zgg (@Za1 _ _ _ _ _ _ _ _ Zhd (@Za2 _ _ _ _ _ _ _ (Zam (K:=K) rfl) (pv 2) (pv 3) (fun _ _=>rfl)) (pv 7)) (Zfv (pv 2) (pv 3) Zcq))))) (@Zag _ _ _ (Zbo (Zaw Zcs (pv 5) (@Zad _ _ _ _) (Zau _)) (@Zag _ _ _ (Zgg (Zh6 Zs9 (@Za2 _ _ _ _ _ _ _ (Zam (K:=K) rfl) (pv 2) (pv 3) (fun _ _=>rfl)) (Zkl (@Zad _ _ _ _)) Zkm) (Zfv (pv 2) (pv 3) Zcq))) (@Zag _ _ _ (Zbo (Zaw Zcs (pv 5) (@Zad _ _ _ _) (Zau _)) (@Zag _ _ _ (Zgg (Zru (K:=K) rfl PySem.F.plainAttrs_str PySem.F.slot_str_upper PySem.F.type_str_upper Zpe (@Za2 _ _ _ _ _ _ _ (Zam (K:=K) rfl) (pv 2) (pv 3) (fun _ _=>rfl))) (Zfv (pv 2) (pv 3) Zcq))) Za0)))))))))))))))) (@Zag _ _ _ (@Zat _ _ _ _ (@pe_bmK _ K _ _ _ _ _ _ _ _ _ _ _ rfl PySem.F.plainAttrs_str PySem.F.slot_str_join PySem.F.type_str_join (mt_join (K:=K) rfl) (@Zaj _ _ _ _) (@pa_cons _ _ _ _ _ (pv 2) Zac Zab) (by rfl) (by rfl) (by rfl) (by rfl) (by rfl))))))))),?_⟩;refine Zal fun N v=>?_
  walk_at "rd";refine⟨rfl,by decide +kernel,by omega,fun l G hl s1 hG=>v _ _ ?_⟩;clear v N;have t:l≠a:=st.ne hl;have hsum:=Zf8 z;have hne:=Zhn z;generalize Txt.split z " "=ws at hG hsum hne
  have hwl:0 < ws.length:=List.length_pos_iff.mpr hne;refine Zal fun N v=>?_
  walk_at "rd";refine⟨_,.inl (SqL.of hG),a,_,rfl,st.same s1,by rw[List.length_map];omega,by rw[List.length_map];omega,fun i H1 d1a d1b st1 b1=>v _ _ ?_⟩;clear v N;rw[List.length_map]at d1b;have hG1:=b1 _ _ hG t;refine Zal fun N v=>?_
  walk_at "rd";refine⟨_,.inl (SqL.of hG1),a,_,rfl,st1,by rw[List.length_map];omega,by rw[List.length_map];omega,fun d2 H2 d2a d2b st2 b2=>v _ _ ?_⟩;clear v N;rw[List.length_map]at d2b;have hG2:=b2 _ _ hG1 t;refine Zal fun N v=>?_
  walk_at "rd";refine⟨a,11,rfl,st2,by decide,by decide,fun d3 H3 d3a d3b st3 b3=>v _ _ ?_⟩;clear v N;have b:=b3 _ _ hG2 t;have b03:But a H H3:=fun c o e h=>b3 c o (b2 c o (b1 c o (s1 c o e) h) h) h
  obtain⟨Wd,eWd⟩:∃Wd:Hp->Prop,Wd=fun G=>St3 G a/\But a H G/\∃vs:List Str,G l=some (.lst (vs.map V.str))/\tl vs <=3*m+ 9100:=⟨_,rfl⟩
  have dn:i=(i.toNat:Int):=by omega
  have d1l:i.toNat < ws.length:=by omega
  obtain⟨u,ew1⟩:∃u,ws[i.toNat]?=some u:=⟨_,List.getElem?_eq_getElem d1l⟩;have at1:atI (ws.map V.str) i=some (.str u):=by rw[dn];exact Zar (by rw[List.getElem?_map,ew1];rfl)
  have lw1:u.length <=m+ 1:=by have:=Zk0 (List.mem_of_getElem? ew1);omega
  have lws:ws.length <=10001:=by omega
  refine Zal fun N v=>?_
  refine⟨fun σ' G=>(∃x y,σ'=[some (V.str z),some (V.ref a),some (V.ref l),some (V.int i),some (V.int d2),some (V.int d3),x,y])/\Wd G,?_,?_⟩
  ·have wd:∀{G:Hp} {vs:List Str},St3 G a->But a H G->G l=some (.lst (vs.map V.str))->tl vs <=3*m+ 9100->Wd G:=fun h1 h2 h3 h4=>by rw[eWd];exact⟨h1,h2,_,h3,h4⟩
   have tw:tl ws <=m+ 1:=by unfold tl;omega
   have hix:ixN (ws.map V.str).length i=some i.toNat:=by unfold ixN;rw[if_pos (by omega),if_pos (by rw[List.length_map];omega)]
   have hix2:ixN (ws.map V.str).length d2=some d2.toNat:=by unfold ixN;rw[if_pos (by omega),if_pos (by rw[List.length_map];omega)]
   have d2l:d2.toNat < ws.length:=by omega
   obtain⟨w2,ew2⟩:∃w2,ws[d2.toNat]?=some w2:=⟨_,List.getElem?_eq_getElem d2l⟩;have at2:atI (ws.map V.str) d2=some (.str w2):=by rw[show d2=(d2.toNat:Int) by omega];exact Zar (by rw[List.getElem?_map,ew2];rfl)
   have lw2:w2.length <=m+ 1:=by have:=Zk0 (List.mem_of_getElem? ew2);omega
   have sl:∀{G:Hp},But l H3 G->St3 G a:=fun g=>by obtain⟨x,y,z,e⟩:=st3;exact⟨x,y,z,g _ _ e (Ne.symm t)⟩
   have bl:∀{G:Hp},But l H3 G->But a H G:=fun g c o e hc=>g c o (b03 c o e hc) (Zaz e hl)
   refine Zgq rfl (fun h=>?_) fun h=>?_
   ·walk_at "rd";have hix:ixN (ws.map V.str).length i=some i.toNat:=by unfold ixN;rw[if_pos (by omega),if_pos (by rw[List.length_map];omega)]
    refine⟨.inl ⟨rfl,_,SqL.of b⟩,_,b,by omega,by omega,_,(Zk1 hix).1,_,by rw[List.getElem?_map,ew1];rfl,fun G g d=>?_⟩;rw[Zjl]at d;exact wd (sl g) (bl g) d (by have:=Zld ws i.toNat;omega)
   refine Zgq rfl (fun h=>?_) fun h=>?_
   ·walk_at "rd";refine⟨.inl ⟨rfl,_,SqL.of b⟩,_,SqL.of b,_,at1,_,b,by omega,by rw[List.length_map];omega,by rw[List.length_map];omega,fun G g d=>?_⟩;rw[Zn7]at d;exact wd (sl g) (bl g) d (by rw[Zp2];omega)
   refine Zui rfl (fun h=>?_) fun h=>?_
   ·walk_at "rd";refine⟨a,rfl,st3,fun y H4 ly st4 b4=>⟨_,b4 _ _ b t,_,hix,fun G g d=>?_⟩⟩;rw[<-List.map_set]at d;exact wd (by obtain⟨x,y,z,e⟩:=st4;exact⟨x,y,z,g _ _ e (Ne.symm t)⟩) (fun c o e hc=>g c o (b4 c o (b03 c o e hc) hc) (Zaz e hl)) d (by have:=Zg9 y ws i.toNat;omega)
   refine Zgq rfl (fun h=>?_) fun h=>?_
   ·walk_at "rd";refine⟨_,SqL.of b,_,at2,_,SqL.of b,_,at1,Zai (by decide),fun p G hp sG d=>⟨_,SqT.of d,rfl,_,_,rfl,_,sG _ _ b,_,hix,fun G1 bG1 eG1=>⟨_,_,rfl,_,eG1,_,by rw[List.length_set];exact hix2,fun G2 bG2 eG2=>⟨rfl,?_⟩⟩⟩⟩;rw[<-List.map_set,<-List.map_set]at eG2;refine wd (by obtain⟨x,y,z,e⟩:=st3;exact⟨x,y,z,bG2 _ _ (bG1 _ _ (sG _ _ e) (Ne.symm t)) (Ne.symm t)⟩) (fun c o e hc=>bG2 c o (bG1 c o (sG c o (b03 c o e hc)) (Zaz e hl)) (Zaz e hl)) eG2 ?_;have h1:=Zg9 w2 ws i.toNat;have h2:=Zg9 u (ws.set i.toNat w2) d2.toNat;omega
   refine Zgq rfl (fun h=>?_) fun h=>?_
   ·walk_at "rd";refine⟨.inl ⟨rfl,_,SqL.of b⟩,_,.inl (SqL.of b),Zai (by decide),fun p G hp sG d=>⟨a,3,rfl,st3.same sG,by decide,by decide,fun d4 H4 d4a d4b st4 b4=>?_⟩⟩;have npa:p≠a:=st3.ne hp;obtain⟨k,ek,k0,k1⟩:∃k:Int,atI [V.int 0,V.int ((ws.map V.str).length:Int),V.int i] d4=some (.int k)/\0 <=k/\k <=ws.length:=by
     rw[List.length_map];obtain⟨x,ex,hx⟩:=at3 (x0:=V.int 0) (x1:=V.int (ws.length:Int)) (x2:=V.int i) d4a d4b;rcases hx with rfl|rfl|rfl
     ·exact⟨_,ex,by omega,by omega⟩
     ·exact⟨_,ex,by omega,by omega⟩
     ·exact⟨_,ex,by omega,by omega⟩
    refine⟨_,d4,rfl,SqL.of (b4 _ _ d npa),_,ek,_,k,rfl,b4 _ _ (sG _ _ b) t,k0,by rw[List.length_map];omega,by rw[List.length_map];omega,fun G1 bG1 eG1=>?_⟩;rw[Zn7]at eG1;refine wd (by obtain⟨x,y,z,e⟩:=st4;exact⟨x,y,z,bG1 _ _ e (Ne.symm t)⟩) (fun c o e hc=>bG1 c o (b4 c o (sG c o (b03 c o e hc)) hc) (Zaz e hl)) eG1 ?_;rw[Zp2,show(Str.ofString "").length=0 by decide +kernel];omega
   refine Zgq rfl (fun h=>?_) fun h=>?_
   ·walk_at "rd";refine⟨a,94,rfl,st3,by decide,by decide,fun d4 H4 d4a d4b st4 b4=>⟨d4,rfl,Zai (by decide +kernel),?_⟩⟩;obtain⟨c4,ec4⟩:∃c,atI (Str.ofString " !\"#$&'()*+,-./0123456789:;<=>?@ABCDEFGHIJKLMNOPQRSTUVWXYZ[\\]^_`abcdefghijklmnopqrstuvwxyz{|}~").cps.toList d4=some c:=by
     have h94:(Str.ofString " !\"#$&'()*+,-./0123456789:;<=>?@ABCDEFGHIJKLMNOPQRSTUVWXYZ[\\]^_`abcdefghijklmnopqrstuvwxyz{|}~").cps.toList.length=94:=by decide +kernel
     generalize (Str.ofString " !\"#$&'()*+,-./0123456789:;<=>?@ABCDEFGHIJKLMNOPQRSTUVWXYZ[\\]^_`abcdefghijklmnopqrstuvwxyz{|}~").cps.toList=L at h94;obtain⟨j,rfl⟩:∃j:Nat,d4=j:=⟨d4.toNat,by omega⟩;exact⟨_,Zar (List.getElem?_eq_getElem (show j < L.length by omega))⟩
    have hG4:=b4 _ _ b t;have l1:({cps:=#[c4]}:Str).length=1:=rfl;refine⟨c4,ec4,_,SqL.of hG4,_,at1,u,rfl,by rw[l1];exact Zai (by omega),_,hG4,_,hix,fun G g d=>?_⟩;rw[<-List.map_set]at d;refine wd (by obtain⟨x,y,z,e⟩:=st4;exact⟨x,y,z,g _ _ e (Ne.symm t)⟩) (fun c o e hc=>g c o (b4 c o (b03 c o e hc) hc) (Zaz e hl)) d ?_;have h1:=Zg9 (u++{cps:=#[c4]}) ws i.toNat;have h2:(u++({cps:=#[c4]}:Str)).length=u.length+ 1:=by rw[Zbg,str_app,List.length_append,<-Zbg];rfl
    omega
   refine Zgq rfl (fun h=>?_) fun h=>?_
   ·walk_at "rd";refine⟨_,SqL.of b,_,at1,u,rfl,Zai (by omega),_,b,_,hix,fun G g d=>?_⟩;rw[<-List.map_set]at d;refine wd (sl g) (bl g) d ?_;have h1:=Zg9 (Txt.slice u (some 1) none) ws i.toNat;have h2:(Txt.slice u (some 1) none).length <=u.length:=Znb u;omega
   refine Zgq rfl (fun h=>?_) fun h=>?_
   ·walk_at "rd";refine⟨_,SqL.of b,_,at1,rfl,u,rfl,by omega,fun r hr=>⟨_,b,_,hix,fun G g d=>?_⟩⟩;rw[<-List.map_set]at d;refine wd (sl g) (bl g) d ?_;have h1:=Zm2 r ws i.toNat u ew1;omega
   walk_at "rd";exact wd st3 b03 b (by omega)
  ·rintro σ' G' ⟨⟨x,y,rfl⟩,hW⟩;refine v _ _ ?_;clear v N;rw[eWd]at hW;obtain⟨st4,b4,vs,e4,tl4⟩:=hW;walk_at "rd";refine⟨rfl,vs,SqL.of e4,?_,q _ G' ?_ st4 b4⟩
   ·rw[show(Str.ofString " ").length=1 by decide +kernel];unfold tl at tl4;omega
   ·exact Nat.le_trans (Zf5 vs) tl4
theorem Zjd{t:Value}:∀{cs:List Value},(∀c∈cs,W.kitOne K t c=some false)->W.kitAny K t cs=some false
 |[],_=>rfl
 |c::r,h=>by
  rw[W.kitAny,h c List.mem_cons_self];exact Zjd fun d hd=>h d (List.mem_cons_of_mem _ hd)
structure TCx(K:PySem.W.Frag)(W NT:Addr)(cs:List Addr):Prop where
 e:Zot K NT
 w:PySem.W.mroIn K NT (.ref W)=some true
 v:PySem.W.kitOne K (.ref NT) (.type "ValueError")=some true
 s:PySem.W.kitOne K (.ref NT) (.ref NT)=some true
 n:∀c∈cs,PySem.W.kitOne K (.ref NT) (.ref c)=some false
def Zhs(NT:Addr):Sp:=fun vs H Q _=>∃e:Addr,vs=[.ref e]/\H e=some (HX NT e)/\∀G,Same H G->Q (.bl true) G
abbrev Zfn:Stmt:=top 71
theorem Zoz:Zaq ["_law_e"] ["_law_e"] (defScope Zfn):=⟨rfl,rfl,rfl,by decide +kernel,rfl,by decide +kernel,by decide +kernel⟩
theorem Zpd{f W NT C0 C1 C2 C3 C4 C5 C6 C7 C8 C9:Addr}{fd:FuncData}(F:Fun K "_law_alone" "_law_alone" Zfn f fd)(B:Bt mg)(B5:Bt5 mg)(T:TCx K W NT [C0,C1,C2,C3,C4,C5,C6,C7,C8,C9])(hm:mg "_law_alone"=some (.ref f))(hk:PySem.W.keepIn K (.ref f)=true)(hb:Binds K fd ["_law_e"] [])
  (gC_NoKey:mg "NoKey"=some (.ref C0)) (gC_NoLetter:mg "NoLetter"=some (.ref C1)) (gC_NoPiece:mg "NoPiece"=some (.ref C2)) (gC_NoRoad:mg "NoRoad"=some (.ref C3)) (gC_NoRoom:mg "NoRoom"=some (.ref C4)) (gC_NoRow:mg "NoRow"=some (.ref C5)) (gC_NoRule:mg "NoRule"=some (.ref C6)) (gC_NoTime:mg "NoTime"=some (.ref C7)) (gC_NoWidth:mg "NoWidth"=some (.ref C8)) (gC_TooWide:mg "TooWide"=some (.ref C9)) (gC_NoText:mg "NoText"=some (.ref NT)):
  FnN P w K mg base "_law_alone" 1 ["_law_e"] (Zhs NT):=by
 refine F.okN (k:=0) Zoz (fun vs H Q E h=>?_) hm hk hb (fun l A outer s H vs Q E h=>?_)
 ·obtain⟨e,rfl,_⟩:=h;rfl
 ·obtain⟨e,rfl,b,q⟩:=h;refine⟨_,(Zae (Zbo (Zby (Zas (Zmx (K:=K) rfl) rfl B.isinstance (by rfl) (pa_cons (hs:=Zab) (pv 0) (pa_cons (hs:=Zlk) (Zfo (pa_cons (hs:=Zab) (Zbs (v:=.ref C0) rfl gC_NoKey rfl) (pa_cons (hs:=Zab) (Zbs (v:=.ref C1) rfl gC_NoLetter rfl) (pa_cons (hs:=Zab) (Zbs (v:=.ref C2) rfl gC_NoPiece rfl) (pa_cons (hs:=Zab) (Zbs (v:=.ref C3) rfl gC_NoRoad rfl) (pa_cons (hs:=Zab) (Zbs (v:=.ref C4) rfl gC_NoRoom rfl) (pa_cons (hs:=Zab) (Zbs (v:=.ref C5) rfl gC_NoRow rfl) (pa_cons (hs:=Zab) (Zbs (v:=.ref C6) rfl gC_NoRule rfl) (pa_cons (hs:=Zab) (Zbs (v:=.ref C7) rfl gC_NoTime rfl) (pa_cons (hs:=Zab) (Zbs (v:=.ref C8) rfl gC_NoWidth rfl) (pa_cons (hs:=Zab) (Zbs (v:=.ref C9) rfl gC_TooWide rfl) Zac))))))))))) Zac)))) (Zag (Zat Ze6)) Za0) (Zag (Zat (Zb5 (Zas (Zjs (K:=K) rfl) rfl B.isinstance (by rfl) (pa_cons (hs:=Zab) (pv 0) (pa_cons (hs:=Zab) (Zbs (v:=.ref NT) rfl gC_NoText rfl) Zac))) (Zde (Zas (Zjs (K:=K) rfl) rfl B.isinstance (by rfl) (pa_cons (hs:=Zab) (pv 0) (pa_cons (hs:=Zab) (Zex (v:=.ty "ValueError") rfl B5.ValueError (by rfl) rfl) Zac)))))))),?_⟩;refine Zal fun N g=>?_
  walk_at "rd";refine⟨Zai (by decide),fun p G m s1 j=>⟨_,_,.exc (s1 _ _ b) T.e,j,fun c a=>?_,false,Zjd fun c a=>?_,?_⟩⟩
  ·simp only[List.mem_cons,List.not_mem_nil,or_false]at a;rcases a with rfl|rfl|rfl|rfl|rfl|rfl|rfl|rfl|rfl|rfl <;> rfl
  ·simp only[List.map_cons,List.map_nil,Zpw]at a;obtain⟨d,i,rfl⟩:∃d∈[C0,C1,C2,C3,C4,C5,C6,C7,C8,C9],c= .ref d:=by
    simp only[List.mem_cons,List.not_mem_nil,or_false]at a ⊢;rcases a with rfl|rfl|rfl|rfl|rfl|rfl|rfl|rfl|rfl|rfl <;> exact⟨_,by simp,rfl⟩
   exact T.n d i
  rw[if_neg (by simp)];refine g _ _ ?_;clear g N;walk_at "rd";refine⟨_,.exc (s1 _ _ b) T.e,rfl,true,T.s,?_⟩;rw[if_pos rfl];exact⟨_,.exc (s1 _ _ b) T.e,rfl,true,T.v,q G s1⟩
def sp_lawread(CP CL:Addr):Sp:=fun vs H Q _=>∃ (x:V) (ty:String) (k:Int),vs=[x,.int k]/\(k=0\/k=1)/\tyF H x=some ty/\(∀z,x= .str z->z.length <=50000)/\
 (k=0->(∀d:PD,d.Ok->x= .str (textP d)->∀p b G,Same H G->PieO CP G p b d->Q (.ref p) G)/\((¬∃z,x= .str z/\Zr5 z)->∀G,Same H G->Q (.str "refused") G))/\
 (k=1->(∀d:LD,d.Ok->x= .str (textL d)->∀p b G,Same H G->LetO CL G p b d->Q (.ref p) G)/\((¬∃z,x= .str z/\Zr6 z)->∀G,Same H G->Q (.str "refused") G))
abbrev Zdq:Stmt:=top 72
theorem Zef:Zaq ["_law_text","_law_which","_law_found","_law_e"] ["_law_text","_law_which"] (defScope Zdq):=⟨rfl,rfl,rfl,by decide +kernel,rfl,by decide +kernel,by decide +kernel⟩
theorem Zml{f CP CL W NT a_read_piece a_read_letter:Addr}{cs:List Addr}{fd:FuncData}(F:Fun K "_law_read" "_law_read" Zdq f fd)(B:Bt mg)(T:TCx K W NT cs)(gC_WayError:mg "WayError"=some (.ref W))(W_WayError:Zin K W)(F_alone:FnN P w K mg base "_law_alone" 1 ["_law_e"] (Zhs NT))
  (gF_read_piece:mg "read_piece"=some (.ref a_read_piece)) (gF_read_letter:mg "read_letter"=some (.ref a_read_letter)) (Vp:FvX P w K mg base 8 a_read_piece (Zdu CP NT)) (Vl:FvX P w K mg base 8 a_read_letter (Zdl CL NT)):FnOk P w K mg base CX0 10 f fd ["_law_text","_law_which"] (sp_lawread CP CL):=by
 refine F.ok Zef (fun vs H Q E h=>?_) (fun cdv A outer s H vs Q E hr h=>?_)
 ·obtain⟨x,ty,k,rfl,_⟩:=h;rfl
 ·obtain⟨x,ty,k,rfl,hk,n,hz,q0,q1⟩:=h;refine⟨_,(Zae (Zav (i:=2) (Zef).nd rfl (Or.inl rfl) Znx) (Zae (Znu (k:=8) (i:=2) (j:=3) rfl rfl (hr.mono (by decide)) (Zef).nd rfl (Or.inl rfl) rfl rfl (fun _=>(Za2 (Zam (K:=K) rfl) (Zbm (pa_cons (hs:=Zab) (Zbs (v:=.ref a_read_piece) rfl gF_read_piece rfl) (pa_cons (hs:=Zab) (Zbs (v:=.ref a_read_letter) rfl gF_read_letter rfl) Zac))) (pv 1) (fun _ _=>rfl))) (fun _=>(pa_cons (hs:=Zab) (pv 0) Zac)) rfl gC_WayError W_WayError (fun _=>(Zag (Zav (i:=2) (Zef).nd rfl (Or.inl rfl) (Za2 (Zam (K:=K) rfl) (Zbm (pa_cons (hs:=Zaa) Znx (pa_cons (hs:=Zaa) Zaj Zac))) (Zbz Zop rfl B.bint (by rfl) (pa_cons (hs:=Za6) (Zo7 F_alone (hr.nm (by decide)) rfl (pa_cons (hs:=Zab) (pv 3) Zac)) Zac)) (fun _ _=>rfl)))))) (Zag (Zat (pv 2))))),?_⟩;refine Zal fun N a=>?_
  walk_at "rd";refine a _ _ ?_;clear a N;refine Zal fun N a=>?_
  walk_at "rd";refine⟨Zai (by decide),fun p G hp s1 e1=>?_⟩;rcases hk with rfl|rfl
  ·obtain⟨q,o⟩:=q0 rfl;refine⟨_,SqL.of e1,_,at0,_,rfl,_,Vp,fun c _ b=>c= .ref NT/\Same G b/\¬∃z,x= .str z/\Zr5 z,⟨x,ty,rfl,Zcu s1 n,hz,fun g b s'=>⟨rfl,s',g⟩,fun d ok e r b' b _ _ s' t=>a _ _ ?_⟩,?_⟩
   ·clear a N;walk_at "rd";exact q d ok e r b' b (s1.trans s') t
   ·rintro C H' ⟨e,s',g⟩;cases e;refine⟨T.w,fun e G2 he s2 y=>⟨Zai (by decide),fun p2 G3 hp2 m u=>⟨e,rfl,m _ _ y,fun G4 l=>.inr ⟨true,rfl,_,SqL.of (l _ _ u),_,Zar (j:=1) rfl,a _ _ ?_⟩⟩⟩⟩;clear a N;walk_at "rd";exact o g G4 ((((s1.trans s').trans s2).trans m).trans l)
  ·obtain⟨q,o⟩:=q1 rfl;refine⟨_,SqL.of e1,_,Zar (j:=1) rfl,_,rfl,_,Vl,fun c _ b=>c= .ref NT/\Same G b/\¬∃z,x= .str z/\Zr6 z,⟨x,ty,rfl,Zcu s1 n,hz,fun g b s'=>⟨rfl,s',g⟩,fun d ok e r b' b _ _ s' t=>a _ _ ?_⟩,?_⟩
   ·clear a N;walk_at "rd";exact q d ok e r b' b (s1.trans s') t
   ·rintro C H' ⟨e,s',g⟩;cases e;refine⟨T.w,fun e G2 he s2 y=>⟨Zai (by decide),fun p2 G3 hp2 m u=>⟨e,rfl,m _ _ y,fun G4 l=>.inr ⟨true,rfl,_,SqL.of (l _ _ u),_,Zar (j:=1) rfl,a _ _ ?_⟩⟩⟩⟩;clear a N;walk_at "rd";exact o g G4 ((((s1.trans s').trans s2).trans m).trans l)
def PVp(CP:Addr)(z:Str)(v:V)(G:Hp):Prop:=(Zr5 z->∃p b d,v= .ref p/\PieO CP G p b d/\z=textP d)/\(¬Zr5 z->v= .str "refused")
def PVl(CL:Addr)(z:Str)(v:V)(G:Hp):Prop:=(Zr6 z->∃p b d,v= .ref p/\LetO CL G p b d/\z=textL d)/\(¬Zr6 z->v= .str "refused")
theorem PVp.mono{CP:Addr}{z:Str}{v:V}{G G':Hp}(h:PVp CP z v G)(s:Same G G'):PVp CP z v G':=⟨fun a=>by obtain⟨p,b,d,e,c,f⟩:=h.1 a;exact⟨p,b,d,e,c.mono s,f⟩,h.2⟩
theorem PVl.mono{CL:Addr}{z:Str}{v:V}{G G':Hp}(h:PVl CL z v G)(s:Same G G'):PVl CL z v G':=⟨fun a=>by obtain⟨p,b,d,e,c,f⟩:=h.1 a;exact⟨p,b,d,e,c.mono s,f⟩,h.2⟩
def Zen:Sp:=fun vs H Q _=>∃z:Str,vs=[.str z]/\z.length <=50000/\∀G,Same H G->Q (.bl true) G
abbrev Zcz:Stmt:=top 73
theorem Zes:Zaq ["_law_text","_law_piece_here","_law_letter_here"] ["_law_text"] (defScope Zcz):=⟨rfl,rfl,rfl,by decide +kernel,rfl,by decide +kernel,by decide +kernel⟩
theorem Zkr{f CP CL:Addr}{fd:FuncData}(F:Fun K "_law_right" "_law_right" Zcz f fd)(B:Bt mg)(LP:Zpy K CP)(LL:Zso K CL)(gC_Piece:mg "Piece"=some (.ref CP))(gC_Letter:mg "Letter"=some (.ref CL))(ic_Piece:Zst K CP)(ic_Letter:Zst K CL)(F_lawread:FnB P w K mg base "_law_read" 10 ["_law_text","_law_which"] [] (sp_lawread CP CL))(F_lawispie:FnB P w K mg base "_law_is_piece" 3 ["_law_text"] [] Zep)(F_lawislet:FnB P w K mg base "_law_is_letter" 2 ["_law_text"] [] Zdw)
  (F_shown:FnB P w K mg base "shown" 2 ["piece"] [] (Zf0 CP)) (F_shown_letter:FnB P w K mg base "shown_letter" 2 ["letter"] [] (Zb7 CL)):FnOk P w K mg base CX0 11 f fd ["_law_text"] Zen:=by
 refine F.ok Zes (fun vs H Q E h=>?_) (fun cdv A outer s H vs Q E j h=>?_)
 ·obtain⟨z,rfl,_⟩:=h;rfl
 ·obtain⟨z,rfl,x,q⟩:=h;have m:=LP.cl;have l:=LL.cl;refine⟨_,(Zae (Zav (i:=1) (Zes).nd rfl (Or.inl rfl) (Zaf F_lawread (j.mono (by decide)) rfl (pa_cons (hs:=Zab) (pv 0) (pa_cons (hs:=Zaa) Zad Zac)))) (Zae (Zav (i:=2) (Zes).nd rfl (Or.inl rfl) (Zaf F_lawread (j.mono (by decide)) rfl (pa_cons (hs:=Zab) (pv 0) (pa_cons (hs:=Zaa) Zad Zac)))) (Zae (Zo3 (Zbo (Zby (Zaf F_lawispie (j.mono (by decide)) rfl (pa_cons (hs:=Zab) (pv 0) Zac))) (Zag (Zbo (PW.pt (Zew (Zca (Zby (Zas (Zjt (K:=K) rfl m ic_Piece) rfl B.isinstance (by rfl) (pa_cons (hs:=Zab) (pv 1) (pa_cons (hs:=Zab) (Zbs (v:=.ref CP) rfl gC_Piece rfl) Zac))))) (Zea (Zaw Zi4 (Zaf F_shown (j.mono (by decide)) rfl (pa_cons (hs:=Zab) (pv 1) Zac)) (pv 0) (Zau _))))) (Zag (Zat Ze6)) Za0)) (Zag (Zbo (Zaw (Zko (K:=K) (Room.units j) rfl) (pv 1) Zaj (Zau _)) (Zag (Zat Ze6)) Za0)))) (Zae (Zbo (Zby (Zaf F_lawislet (j.mono (by decide)) rfl (pa_cons (hs:=Zab) (pv 0) Zac))) (Zag (Zat (Zb5 (Zas (Zjt (K:=K) rfl l ic_Letter) rfl B.isinstance (by rfl) (pa_cons (hs:=Zab) (pv 2) (pa_cons (hs:=Zab) (Zbs (v:=.ref CL) rfl gC_Letter rfl) Zac))) (Zde (Zbd Zcs (Zaf F_shown_letter (j.mono (by decide)) rfl (pa_cons (hs:=Zab) (pv 2) Zac)) (pv 0) (Zau _)))))) Za0) (Zag (Zat (Zbd (Zrw (K:=K) (Room.units j) rfl) (pv 2) Zaj (Zau _)))))))),?_⟩;refine Zal fun N c=>?_
  walk_at "rd";have k1:∀v G,Same H G->PVp CP z v G->N [some (.str z),some v,none] G:=fun v G s1 hp=>by
   refine c _ _ ?_;clear c N;refine Zal fun N c=>?_
   walk_at "rd";have k2:∀u a,Same G a->PVl CL z u a->N [some (.str z),some v,some u] a:=fun u a s2 hl=>by
    refine c _ _ ?_;clear c N;have hp:=hp.mono s2;have s12:=s1.trans s2;refine Zal fun N c=>?_
    walk_at "rd";refine⟨fun σ' G3=>σ'=[some (.str z),some v,some u]/\Same a G3,?_,?_⟩
    ·clear c;refine⟨z,rfl,x,fun b1 G1 k o=>⟨_,rfl,?_⟩⟩;have ab:=hp.mono o;cases b1 with
     |true=>
      rw[if_pos rfl];obtain⟨p,b,d,rfl,g,ez⟩:=ab.1 (k.mp rfl);obtain⟨dx,fs,r⟩:=g.ins;refine⟨p,rfl,dx,fs,r,p,b,d,rfl,g,fun G2 t=>⟨rfl,?_⟩⟩;rw[if_neg (by simp[ez])];exact⟨rfl,o.trans t⟩
     |false=>
      rw[if_neg (by simp)];have e:=ab.2 fun h=>absurd (k.mpr h) (by simp)
      subst e;refine⟨_,_,.str _,.str _,by decide +kernel,by decide +kernel,_,rfl,?_⟩;rw[if_neg (by decide +kernel)];exact⟨rfl,o⟩
    ·rintro σ' G3 ⟨rfl,t⟩;refine c _ _ ?_;clear c N;have hl:=hl.mono t;have s14:=s12.trans t;refine Zal fun N c=>?_
     walk_at "rd";refine⟨z,rfl,x,fun b1 G1 k o=>⟨_,rfl,?_⟩⟩;have ac:=hl.mono o;have aa:=s14.trans o;cases b1 with
     |true=>
      rw[if_pos rfl];obtain⟨p,b,d,rfl,g,ez⟩:=ac.1 (k.mp rfl);obtain⟨dx,fs,r⟩:=g.ins;refine⟨p,rfl,dx,fs,r,p,b,d,rfl,g,fun G2 s5=>⟨rfl,?_⟩⟩;rw[decide_eq_true (by rw[ez])];exact q G2 (aa.trans s5)
     |false=>
      rw[if_neg (by simp)];have e:=ac.2 fun h=>absurd (k.mpr h) (by simp)
      subst e;refine c _ _ ?_;clear c N;walk_at "rd";refine⟨_,_,.str _,.str _,by decide +kernel,by decide +kernel,?_⟩;rw[show PyData.eqv (.str (Str.ofString "refused")) (.str (Str.ofString "refused"))=true by decide +kernel];exact q G1 aa
   refine⟨.str z,"str",1,rfl,.inr rfl,rfl,fun y e=>by cases e;exact x,(fun h=>absurd h (by decide)),fun _=>⟨fun d ok e p b a s' g=>k2 _ a s' ⟨fun _=>⟨p,b,d,rfl,g,by cases e;rfl⟩,fun n=>absurd ⟨d,ok,by cases e;rfl⟩ n⟩,fun hb a s'=>k2 _ a s' ⟨fun h=>absurd ⟨z,rfl,h⟩ hb,fun _=>rfl⟩⟩⟩
  refine⟨.str z,"str",0,rfl,.inl rfl,rfl,fun y e=>by cases e;exact x,fun _=>⟨fun d ok e p b a s' g=>k1 _ a s' ⟨fun _=>⟨p,b,d,rfl,g,by cases e;rfl⟩,fun n=>absurd ⟨d,ok,by cases e;rfl⟩ n⟩,fun hb a s'=>k1 _ a s' ⟨fun h=>absurd ⟨z,rfl,h⟩ hb,fun _=>rfl⟩⟩,(fun h=>absurd h (by decide))⟩
theorem Zs8{H G:Hp}{a:Addr}{xs:List V}(s:Same H G)(h:SqL K H a xs):SqL K G a xs:=by
 rcases h with(h|⟨o,h⟩)|h
 ·exact .inl (.inl (s _ _ h))
 ·exact .inl (.inr ⟨o,s _ _ h⟩)
 ·exact .inr h
theorem Zj1{d:PD}(h:d.Ok)(hl:d.ns.length <=100):(textP d).length <=300:=by
 have n1:d.nu < 10 ^ 10:=by have:=h.n1;omega
 have a:d.at' < 10 ^ 10:=by have:=h.bds';omega
 have h1:=Zf4 h.n0 n1 h.k1 h.k2;have h2:=(Zdk h.a0 a).len2;have c:=Zdp d.mo;have b:=Zdp d.k;have h5:=Zbb d.ns;have:=Zf5 [keyT d.nu d.z1 d.z2,numT d.at',Zcc d.mo "+",Zcc d.k "!",bytesT d.ns];rw[Zle]at this;simp only[List.map_cons,List.map_nil,List.sum_cons,List.sum_nil,List.length_cons,List.length_nil]at this;omega
theorem Zj2{d:LD}(h:d.Ok)(hl:d.ns.length <=100):(textL d).length <=300:=by
 have n1:d.nu < 10 ^ 10:=by have:=h.n1;omega
 have h1:=Zf4 h.n0 n1 h.k1 h.k2;have a:=Zdp d.k;have h5:=Zbb d.ns;have:=Zf5 [keyT d.nu d.z1 d.z2,Zcc d.k "!",bytesT d.ns];rw[Zlf]at this;simp only[List.map_cons,List.map_nil,List.sum_cons,List.sum_nil,List.length_cons,List.length_nil]at this;omega
def Zuo:Nat->Nat
 |0=>300
 |1=>10000
 |_=>39100
abbrev Zh2:Stmt:=top 74
theorem Ze2:Zaq ["_law_script","_law_k","_law_state_here","_law_text","_law_turn","_law_odd"] ["_law_script"] (defScope Zh2):=⟨rfl,rfl,rfl,by decide +kernel,rfl,by decide +kernel,by decide +kernel⟩
theorem Zt2{f CP CL:Addr}{fd:FuncData}(F:Fun K "law" "law" Zh2 f fd)(B:Bt mg)(F_state:FnB P w K mg base "_law_state" 1 ["_law_cell","_law_k"] [] Zho)(F_digit:FnB P w K mg base "_law_digit" 2 ["_law_state_here","_law_base"] [] Zco)(F_lawpiece:FnB P w K mg base "_law_piece" 8 ["_law_state_here","_law_most"] [] (Zeo CP))(F_lawletter:FnB P w K mg base "_law_letter" 8 ["_law_state_here","_law_most"] [] (Zd5 CL))
  (F_shown:FnB P w K mg base "shown" 2 ["piece"] [] (Zf0 CP)) (F_shown_letter:FnB P w K mg base "shown_letter" 2 ["letter"] [] (Zb7 CL)) (F_spoilt:FnB P w K mg base "_law_spoilt" 4 ["_law_text","_law_state_here"] [] Zf9) (F_lawright:FnB P w K mg base "_law_right" 11 ["_law_text"] [] Zen) (F_lawread:FnB P w K mg base "_law_read" 10 ["_law_text","_law_which"] [] (sp_lawread CP CL)):FnOk P w K mg base CX0 12 f fd ["_law_script"] (Zln K):=by
 refine F.ok Ze2 (fun vs H Q E h=>?_) (fun cdv A outer s H vs Q E l h=>?_)
 ·obtain⟨a,ns,rfl,_⟩:=h;rfl
 ·obtain⟨sa,m,rfl,hS,hlen,q⟩:=h;refine⟨_,(@Zae _ _ _ _ _ (Zqj PassesOwn.never rfl (Ze5 rfl B.range (@pa_cons _ _ _ _ _ (Zas (Zoo rfl) rfl B.min (by rfl) (@pa_cons _ _ _ _ _ (Zas (Zbt (K:=K) rfl) rfl B.len (by rfl) (@pa_cons _ _ _ _ _ (pv 0) Zac Zab)) (@pa_cons _ _ _ _ _ (@Zad _ _ _ _) Zac Zaa) Za6)) Zac Za6)) (Zcj (i:=1) (Ze2).nd rfl (Or.inl rfl)) (@Zae _ _ _ _ _ (@Zav _ _ 2 _ _ _ _ (Ze2).nd rfl (Or.inl rfl) (Zaf F_state (l.mono (by decide)) rfl (@pa_cons _ _ _ _ _ (@Za2 _ _ _ _ _ _ _ (Zam (K:=K) rfl) (pv 0) (pv 1) (fun _ _=>rfl)) (@pa_cons _ _ _ _ _ (pv 1) Zac Zab) Zah)) (by rfl) (Or.inl rfl)) (@Zae _ _ _ _ _ (@Zav _ _ 3 _ _ _ _ (Ze2).nd rfl (Or.inl rfl) (Zaf F_shown (l.mono (by decide)) rfl (@pa_cons _ _ _ _ _ (Zaf F_lawpiece (l.mono (by decide)) rfl (@pa_cons _ _ _ _ _ (pv 2) (@pa_cons _ _ _ _ _ (@Zad _ _ _ _) Zac Zaa) Zab)) Zac Za6)) (by rfl) (Or.inl rfl)) (@Zae _ _ _ _ _ (Zo3 (Zbo (Zaw Zcs (Zaf F_digit (l.mono (by decide)) rfl (@pa_cons _ _ _ _ _ (pv 2) (@pa_cons _ _ _ _ _ (@Zad _ _ _ _) Zac Zaa) Zab)) (@Zad _ _ _ _) (Zau _)) (@Zag _ _ _ (@Zav _ _ 3 _ _ _ _ (Ze2).nd rfl (Or.inl rfl) (Zaf F_shown_letter (l.mono (by decide)) rfl (@pa_cons _ _ _ _ _ (Zaf F_lawletter (l.mono (by decide)) rfl (@pa_cons _ _ _ _ _ (pv 2) (@pa_cons _ _ _ _ _ (@Zad _ _ _ _) Zac Zaa) Zab)) Zac Za6)) (by rfl) (Or.inl rfl))) Za0)) (@Zae _ _ _ _ _ (Zqj PassesOwn.never rfl (Ze5 rfl B.range (@pa_cons _ _ _ _ _ (Zaf F_digit (l.mono (by decide)) rfl (@pa_cons _ _ _ _ _ (pv 2) (@pa_cons _ _ _ _ _ (@Zad _ _ _ _) Zac Zaa) Zab)) Zac Za6)) (Zcj (i:=4) (Ze2).nd rfl (Or.inl rfl)) (@Zae _ _ _ _ _ (@Zav _ _ 3 _ _ _ _ (Ze2).nd rfl (Or.inl rfl) (Zaf F_spoilt (l.mono (by decide)) rfl (@pa_cons _ _ _ _ _ (pv 3) (@pa_cons _ _ _ _ _ (pv 2) Zac Zab) Zab)) (by rfl) (Or.inl rfl)) (@Zag _ _ _ (Zbo (Zaw Zcs (pv 3) (@Zaj _ _ _ _) (Zau _)) (@Zag _ _ _ (@Zav _ _ 3 _ _ _ _ (Ze2).nd rfl (Or.inl rfl) (@Zaj _ _ _ _) (by rfl) (Or.inl rfl))) Za0)))) (@Zae _ _ _ _ _ (Zbo (Zca (Zby (Zaf F_lawright (l.mono (by decide)) rfl (@pa_cons _ _ _ _ _ (pv 3) Zac Zab)))) (@Zag _ _ _ (@Zat _ _ _ _ Ze6)) Za0) (@Zae _ _ _ _ _ (@Zav _ _ 5 _ _ _ _ (Ze2).nd rfl (Or.inl rfl) (@Za2 _ _ _ _ _ _ _ (Zam (K:=K) rfl) (@Zbm _ _ _ _ (@pa_cons _ _ _ _ _ (@Znx _ _ _) (@pa_cons _ _ _ _ _ (@Zad _ _ _ _) (@pa_cons _ _ _ _ _ Ze6 (@pa_cons _ _ _ _ _ (@Zbm _ _ _ _ (@pa_cons _ _ _ _ _ (@Zaj _ _ _ _) Zac Zaa)) (@pa_cons _ _ _ _ _ (@Zfo _ _ _ _ _ (@pa_cons _ _ _ _ _ (@Zaj _ _ _ _) Zac Zaa)) (@pa_cons _ _ _ _ _ (@Zo6 _ _) Zac Zra) Zlk) Zfe) Zaa) Zaa) Zaa)) (Zaf F_digit (l.mono (by decide)) rfl (@pa_cons _ _ _ _ _ (pv 2) (@pa_cons _ _ _ _ _ (@Zad _ _ _ _) Zac Zaa) Zab)) (fun _ _=>rfl)) (by rfl) (Or.inl rfl)) (@Zag _ _ _ (Zbo (PW.pt (Zew (Zaw (Zko (K:=K) (Room.units l) rfl) (Zaf F_lawread (l.mono (by decide)) rfl (@pa_cons _ _ _ _ _ (pv 5) (@pa_cons _ _ _ _ _ (@Zad _ _ _ _) Zac Zaa) Zab)) (@Zaj _ _ _ _) (Zau _)) (Zea (Zaw (Zko (K:=K) (Room.units l) rfl) (Zaf F_lawread (l.mono (by decide)) rfl (@pa_cons _ _ _ _ _ (pv 5) (@pa_cons _ _ _ _ _ (@Zad _ _ _ _) Zac Zaa) Zab)) (@Zaj _ _ _ _) (Zau _))))) (@Zag _ _ _ (@Zat _ _ _ _ Ze6)) Za0))))))))) (@Zag _ _ _ (@Zat _ _ _ _ (Zb5 (Zaf F_lawright (l.mono (by decide)) rfl (@pa_cons _ _ _ _ _ (@Zaj _ _ _ _) Zac Zaa)) (Zb5 (Zaf F_lawright (l.mono (by decide)) rfl (@pa_cons _ _ _ _ _ (@Zaj _ _ _ _) Zac Zaa)) (Zde (Zaf F_lawright (l.mono (by decide)) rfl (@pa_cons _ _ _ _ _ (@Zaj _ _ _ _) Zac Zaa)))))))),?_⟩;refine Zal fun N g=>?_
  walk_at "rd";refine⟨_,.inl hS,?_,?_,?_⟩
  ·split <;> omega
  ·rw[List.length_map];split <;> omega
  rw[List.length_map];obtain⟨n,en,hn⟩:∃n:Nat,(if(30:Int) < (m.length:Int) then(30:Int) else(m.length:Int)).toNat=n/\n <=m.length:=⟨_,rfl,by split <;> omega⟩;rw[en];obtain⟨Pv,ab⟩:∃Pv:Nat->L2.St->Hp->Prop,Pv=fun i σ' G=>∃v1 v2 v3 v4 v5:Option V,σ'=[some (.ref sa),v1,v2,v3,v4,v5]/\Same H G:=⟨_,rfl⟩
  refine Zl9 Pv (by rw[ab];exact⟨_,_,_,_,_,rfl,Same.refl _⟩) ?_ ?_ <;> rw[ab]
  ·clear g;rintro i σ' G hi ⟨v1,v2,v3,v4,v5,rfl,sG⟩;rw[<-ab];have e0:(0:Int)+ (i:Int)=(i:Int):=by omega
   rw[e0];simp only[Zk2,List.set_cons_zero,List.set_cons_succ];have hx:m[i]?=some m[i]:=List.getElem?_eq_getElem (by omega);refine Zal fun N g=>?_
   walk_at "rd";refine⟨_,Zs8 sG hS,V.int m[i],Zar (by rw[List.getElem?_map,hx];rfl),_,_,rfl,fun a G1 ha s1 st1=>g _ _ ?_⟩;clear g N;have o:H a=none:=sG.free ha;have k1:Same H G1:=sG.trans s1;refine Zal fun N g=>?_
   walk_at "rd";refine⟨a,rfl,st1,fun p b d G2 hO hl nba st2 b2=>⟨p,b,d,rfl,hO,fun G3 s3=>g _ _ ?_⟩⟩;clear g N;have k3:Same H G3:=(k1.butNew b2 o).trans s3;have st3:=st2.same s3;have l3:=Zj1 hO.ok hl;refine Zal fun N g=>?_
   walk_at "rd";refine⟨fun σ' G'=>∃z:Str,σ'=[some (.ref sa),some (.int (i:Int)),some (.ref a),some (.str z),v4,v5]/\z.length <=300/\Same H G'/\St3 G' a,?_,?_⟩
   ·refine⟨a,2,rfl,st3,by decide,by decide,fun d4 G4 d4a d4b st4 b4=>⟨rfl,?_⟩⟩;have k4:Same H G4:=k3.butNew b4 o
    by_cases h1:d4=1
    ·rw[if_pos (decide_eq_true (by rw[h1]))];refine⟨a,rfl,st4,fun p' b' d' G5 hL hl' st5 b5=>⟨p',b',d',rfl,hL,fun G6 s6=>?_⟩⟩;exact⟨_,rfl,Zj2 hL.ok hl',(k4.butNew b5 o).trans s6,st5.same s6⟩
    ·rw[if_neg (by simpa using h1)];exact⟨_,rfl,l3,k4,st4⟩
   rintro σ' G' ⟨z,rfl,lz,kG,stG⟩;refine g _ _ ?_;clear g N;refine Zal fun N g=>?_
   walk_at "rd";refine⟨a,3,rfl,stG,by decide,by decide,fun d5 G5 d5a d5b st5 b5=>?_⟩;have k5:Same H G5:=kG.butNew b5 o;refine⟨d5,rfl,by omega,by omega,?_⟩;obtain⟨P2,t⟩:∃P2:Nat->L2.St->Hp->Prop,P2=fun j σ' G=>∃ (z:Str) (v:Option V),σ'=[some (.ref sa),some (.int (i:Int)),some (.ref a),some (.str z),v,v5]/\z.length <=Zuo j/\Same H G/\St3 G a:=⟨_,rfl⟩
   refine Zl9 P2 (by rw[t];exact⟨_,_,rfl,lz,k5,st5⟩) ?_ ?_ <;> rw[t]
   ·clear g;rintro j σ' G6 hj ⟨z6,v6,rfl,l6,k6,st6⟩;rw[<-t];simp only[Zk2,List.set_cons_zero,List.set_cons_succ];have hj2:j < 2:=by omega
    have hb:Zuo j <=10000/\3*Zuo j+ 9100=Zuo (j+ 1):=by
     match j,hj2 with
     |0,_=>exact⟨by decide,rfl⟩
     |1,_=>exact⟨by decide,rfl⟩
    refine Zal fun N g=>?_
    walk_at "rd";refine⟨a,z6,Zuo j,rfl,l6,hb.1,st6,fun y G7 ly r b7=>g _ _ ?_⟩;clear g N;have k7:Same H G7:=k6.butNew b7 o;rw[hb.2]at ly;walk_at "rd";refine⟨rfl,?_⟩
    by_cases h0:y=""
    ·rw[if_pos (decide_eq_true h0),t];refine⟨_,_,rfl,?_,k7,r⟩;rw[show(Str.ofString "7").length=1 by decide +kernel];omega
    ·rw[if_neg (by simpa using h0),t];exact⟨_,_,rfl,ly,k7,r⟩
   rintro σ' G6 ⟨z6, v6, rfl, l6, k6, st6⟩;refine g _ _ ?_;clear g N;have l6 : z6.length <= 50000 := Nat.le_trans l6 (by
    have:d5.toNat < 3:=by omega
    match d5.toNat,this with
    |0,_=>decide
    |1,_=>decide
    | 2, _ => decide)
   refine Zal fun N g=>?_
   walk_at "rd";refine⟨z6,rfl,l6,fun G7 s7=>⟨_,rfl,?_⟩⟩;rw[if_neg (by simp)];refine g _ _ ?_;clear g N;have k7:=k6.trans s7;have r:=st6.same s7;refine Zal fun N g=>?_
   walk_at "rd";refine⟨Zai (by decide),fun p1 G8 hp1 s8 e8=>⟨Zai (by decide),fun p2 G9 hp2 s9 e9 p3 GA hp3 sA eA=>⟨Zai (by decide),fun p4 GB hp4 sB eB=>⟨a,6,rfl,r.same (s8.trans (s9.trans (sA.trans sB))),by decide,by decide,fun dC u dCa dCb stC bC=>?_⟩⟩⟩⟩;have s7B:=s8.trans (s9.trans (sA.trans sB));have aa:∀{c:Addr},G7 c=none->c≠a:=fun e=>r.ne e
   have n1:p1≠a:=aa hp1;have n2:p2≠a:=aa (s8.free hp2);have n3:p3≠a:=aa (s8.free (s9.free hp3));have n4:p4≠a:=aa (s8.free (s9.free (sA.free hp4)));have kC:Same H u:=(k7.trans s7B).butNew bC o;obtain⟨x,ex,ty,hty,hns⟩:∃x,atI [V.non,V.int 7,V.bl true,V.ref p1,V.ref p2,V.ref p3] dC=some x/\∃ty,tyF u x=some ty/\∀z,x≠ .str z:=by
    obtain⟨j,rfl⟩:∃j:Nat,dC=j:=⟨dC.toNat,by omega⟩
    match j,(show j < 6 by omega) with
    |0,_=>exact⟨_,Zar (j:=0) rfl,_,rfl,fun z h=>nomatch h⟩
    |1,_=>exact⟨_,Zar (j:=1) rfl,_,rfl,fun z h=>nomatch h⟩
    |2,_=>exact⟨_,Zar (j:=2) rfl,_,rfl,fun z h=>nomatch h⟩
    |3,_=>exact⟨_,Zar (j:=3) rfl,_,(by show(u p1).bind tyO=_;rw[bC _ _ (sB _ _ (sA _ _ (s9 _ _ e8))) n1];rfl),fun z h=>nomatch h⟩
    |4,_=>exact⟨_,Zar (j:=4) rfl,_,(by show(u p2).bind tyO=_;rw[bC _ _ (sB _ _ (sA _ _ e9)) n2];rfl),fun z h=>nomatch h⟩
    |5,_=>exact⟨_,Zar (j:=5) rfl,_,(by show(u p3).bind tyO=_;rw[bC _ _ (sB _ _ eA) n3];rfl),fun z h=>nomatch h⟩
   refine⟨_,dC,rfl,SqL.of (bC _ _ eB n4),x,ex,g _ _ ?_⟩;clear g N ex;walk_at "rd";have rd:∀ (k:Int) (hk:k=0\/k=1) (G:Hp) (Q':VK),Same u G->(∀G',Same G G'->Q' (.str "refused") G')->sp_lawread CP CL [x,.int k] G Q' E0:=fun k hk G Q' sG hQ=>⟨x,ty,k,rfl,hk,Zcu sG hty,fun z e=>absurd e (hns z),fun _=>⟨fun d _ e=>absurd e (hns _),fun _=>hQ⟩,fun _=>⟨fun d _ e=>absurd e (hns _),fun _=>hQ⟩⟩
   refine rd 0 (.inl rfl) u _ (Same.refl _) fun GD sD=>?_
   refine⟨_,_,.str _,.str _,by decide +kernel,by decide +kernel,_,rfl,?_⟩;rw[if_neg (by decide +kernel)];refine rd 1 (.inr rfl) GD _ sD fun GE sE=>?_
   refine⟨_,_,.str _,.str _,by decide +kernel,by decide +kernel,_,rfl,?_⟩;rw[if_neg (by decide +kernel),ab];exact⟨_,_,_,_,_,rfl,(kC.trans sD).trans sE⟩
  ·rintro σ' G ⟨v1,v2,v3,v4,v5,rfl,sG⟩;refine g _ _ ?_;clear g N;walk_at "rd";refine⟨_,rfl,by decide +kernel,fun G1 s1=>⟨_,rfl,?_⟩⟩;rw[if_pos rfl];refine⟨_,rfl,by decide +kernel,fun G2 s2=>⟨_,rfl,?_⟩⟩;rw[if_pos rfl];exact⟨_,rfl,by decide +kernel,fun G3 s3=>q G3⟩
end
theorem Zg8{K:W.Frag}{s:Shared}{T:Addr}{oT:Option Addr}{nT:Nat}{sT:Array (Option Value)}{kV dc pm cd ct:Value}{an:Option Addr}{u0 u1 u2 u3 u4 u5:Value}(kx:K.In s.heap)(h:K.lookup T=some ⟨.type "tuple",oT,.seq #[.bool false] nT,sT⟩):
  BindsTo s (W.fnOf "__init__" "Letter.__init__" (Zao Za5) (defBody Za5) (defScope Za5) (.ref T) kV dc pm an cd ct) ⟨[u0,u1,u2,u3,u4,u5],[]⟩ ((["self","number","sender","goal","body","keep"]:List Str).zip ([u0,u1,u2,u3,u4,u5]++[])):=by
 first
  |exact .of_eq rfl
  |exact .of_defaults rfl (kx _ _ h) rfl rfl rfl
theorem Zim{K:W.Frag}{s:Shared}{T:Addr}{oT:Option Addr}{nT:Nat}{sT:Array (Option Value)}{kV dc pm cd ct:Value}{an:Option Addr}{u0 u1 u2 u3 u4 u5 u6 u7:Value}(kx:K.In s.heap)(h:K.lookup T=some ⟨.type "tuple",oT,.seq #[.bool false] nT,sT⟩):
  BindsTo s (W.fnOf "__init__" "Piece.__init__" (Zao Za9) (defBody Za9) (defScope Za9) (.ref T) kV dc pm an cd ct) ⟨[u0,u1,u2,u3,u4,u5,u6,u7],[]⟩ ((["self","number","sender","goal","at","body","more","keep"]:List Str).zip ([u0,u1,u2,u3,u4,u5,u6,u7]++[])):=by
 first
  |exact .of_eq rfl
  |exact .of_defaults rfl (kx _ _ h) rfl rfl rfl
set_option maxHeartbeats 0 in
theorem all_mk{l:W.OpenLaw}{w:World}{K:W.Frag}{h:Heap}{mg:Str->Option Value}{fa:Addr}(X:K.In h)(G:h.Ns mainGlobals mg)(hfa:mg "law"=some (.ref fa))
  {fq1c:Addr} {odq1c anq1c:Option Addr} {slq1c:Array (Option Value)} {ocq1c kVq1c dcq1c pmq1c cdq1c ctq1c:Value}
  {fq0b:Addr} {odq0b anq0b:Option Addr} {slq0b:Array (Option Value)} {ocq0b kVq0b dcq0b pmq0b cdq0b ctq0b:Value}
  {fq0u:Addr} {odq0u anq0u:Option Addr} {slq0u:Array (Option Value)} {ocq0u kVq0u dcq0u pmq0u cdq0u ctq0u:Value}
  {fq0t:Addr} {odq0t anq0t:Option Addr} {slq0t:Array (Option Value)} {ocq0t kVq0t dcq0t pmq0t cdq0t ctq0t:Value}
  {fq1i:Addr} {odq1i anq1i:Option Addr} {slq1i:Array (Option Value)} {ocq1i kVq1i dcq1i pmq1i cdq1i ctq1i:Value}
  {fq1g:Addr} {odq1g anq1g:Option Addr} {slq1g:Array (Option Value)} {ocq1g kVq1g dcq1g pmq1g cdq1g ctq1g:Value}
  {fq1h:Addr} {odq1h anq1h:Option Addr} {slq1h:Array (Option Value)} {ocq1h kVq1h dcq1h pmq1h cdq1h ctq1h:Value}
  {fq0h:Addr} {odq0h anq0h:Option Addr} {slq0h:Array (Option Value)} {ocq0h kVq0h dcq0h pmq0h cdq0h ctq0h:Value}
  {fq0a:Addr} {odq0a anq0a:Option Addr} {slq0a:Array (Option Value)} {ocq0a kVq0a dcq0a pmq0a cdq0a ctq0a:Value}
  {fq0w:Addr} {odq0w anq0w:Option Addr} {slq0w:Array (Option Value)} {ocq0w kVq0w dcq0w pmq0w cdq0w ctq0w:Value}
  {fq0z:Addr} {odq0z anq0z:Option Addr} {slq0z:Array (Option Value)} {ocq0z kVq0z dcq0z pmq0z cdq0z ctq0z:Value}
  {fq0s:Addr} {odq0s anq0s:Option Addr} {slq0s:Array (Option Value)} {ocq0s kVq0s dcq0s pmq0s cdq0s ctq0s:Value}
  {fq0d:Addr} {odq0d anq0d:Option Addr} {slq0d:Array (Option Value)} {ocq0d kVq0d dcq0d pmq0d cdq0d ctq0d:Value}
  {fq0e:Addr} {odq0e anq0e:Option Addr} {slq0e:Array (Option Value)} {ocq0e kVq0e dcq0e pmq0e cdq0e ctq0e:Value}
  {fq1m:Addr} {odq1m anq1m:Option Addr} {slq1m:Array (Option Value)} {ocq1m kVq1m dcq1m pmq1m cdq1m ctq1m:Value}
  {fq0c:Addr} {odq0c anq0c:Option Addr} {slq0c:Array (Option Value)} {ocq0c kVq0c dcq0c pmq0c cdq0c ctq0c:Value}
  {fq0x:Addr} {odq0x anq0x:Option Addr} {slq0x:Array (Option Value)} {ocq0x kVq0x dcq0x pmq0x cdq0x ctq0x:Value}
  {fq0g:Addr} {odq0g anq0g:Option Addr} {slq0g:Array (Option Value)} {ocq0g kVq0g dcq0g pmq0g cdq0g ctq0g:Value}
  {fq0j:Addr} {odq0j anq0j:Option Addr} {slq0j:Array (Option Value)} {ocq0j kVq0j dcq0j pmq0j cdq0j ctq0j:Value}
  {fq0k:Addr} {odq0k anq0k:Option Addr} {slq0k:Array (Option Value)} {ocq0k kVq0k dcq0k pmq0k cdq0k ctq0k:Value}
  {fq0n:Addr} {odq0n anq0n:Option Addr} {slq0n:Array (Option Value)} {ocq0n kVq0n dcq0n pmq0n cdq0n ctq0n:Value}
  {fq0i:Addr} {odq0i anq0i:Option Addr} {slq0i:Array (Option Value)} {ocq0i kVq0i dcq0i pmq0i cdq0i ctq0i:Value}
  {fq1k:Addr} {odq1k anq1k:Option Addr} {slq1k:Array (Option Value)} {ocq1k kVq1k dcq1k pmq1k cdq1k ctq1k:Value}
  {fq1o:Addr} {odq1o anq1o:Option Addr} {slq1o:Array (Option Value)} {ocq1o kVq1o dcq1o pmq1o cdq1o ctq1o:Value}
  {fq1n:Addr} {odq1n anq1n:Option Addr} {slq1n:Array (Option Value)} {ocq1n kVq1n dcq1n pmq1n cdq1n ctq1n:Value}
  {fq1p:Addr} {odq1p anq1p:Option Addr} {slq1p:Array (Option Value)} {ocq1p kVq1p dcq1p pmq1p cdq1p ctq1p:Value}
  {fq1r:Addr} {odq1r anq1r:Option Addr} {slq1r:Array (Option Value)} {ocq1r kVq1r dcq1r pmq1r cdq1r ctq1r:Value}
  {fq1f:Addr} {odq1f anq1f:Option Addr} {slq1f:Array (Option Value)} {ocq1f kVq1f dcq1f pmq1f cdq1f ctq1f:Value}
  {fq0r:Addr} {odq0r anq0r:Option Addr} {slq0r:Array (Option Value)} {ocq0r kVq0r dcq0r pmq0r cdq0r ctq0r:Value}
  {fq1d:Addr} {odq1d anq1d:Option Addr} {slq1d:Array (Option Value)} {ocq1d kVq1d dcq1d pmq1d cdq1d ctq1d:Value}
  {fq1b:Addr} {odq1b anq1b:Option Addr} {slq1b:Array (Option Value)} {ocq1b kVq1b dcq1b pmq1b cdq1b ctq1b:Value}
  {fq0p:Addr} {odq0p anq0p:Option Addr} {slq0p:Array (Option Value)} {ocq0p kVq0p dcq0p pmq0p cdq0p ctq0p:Value}
  {fq0l:Addr} {odq0l anq0l:Option Addr} {slq0l:Array (Option Value)} {ocq0l kVq0l dcq0l pmq0l cdq0l ctq0l:Value}
  {fq1a:Addr} {odq1a anq1a:Option Addr} {slq1a:Array (Option Value)} {ocq1a kVq1a dcq1a pmq1a cdq1a ctq1a:Value}
  {fq0y:Addr} {odq0y anq0y:Option Addr} {slq0y:Array (Option Value)} {ocq0y kVq0y dcq0y pmq0y cdq0y ctq0y:Value}
  {fq1q:Addr} {odq1q anq1q:Option Addr} {slq1q:Array (Option Value)} {ocq1q kVq1q dcq1q pmq1q cdq1q ctq1q:Value}
  {fq1j:Addr} {odq1j anq1j:Option Addr} {slq1j:Array (Option Value)} {ocq1j kVq1j dcq1j pmq1j cdq1j ctq1j:Value}
  {fq1l:Addr} {odq1l anq1l:Option Addr} {slq1l:Array (Option Value)} {ocq1l kVq1l dcq1l pmq1l cdq1l ctq1l:Value}
  {fq1e:Addr} {odq1e anq1e:Option Addr} {slq1e:Array (Option Value)} {ocq1e kVq1e dcq1e pmq1e cdq1e ctq1e:Value}
  {fq0v:Addr} {odq0v anq0v:Option Addr} {slq0v:Array (Option Value)} {ocq0v kVq0v dcq0v pmq0v cdq0v ctq0v:Value}
  {fq1s:Addr} {odq1s anq1s:Option Addr} {slq1s:Array (Option Value)} {ocq1s kVq1s dcq1s pmq1s cdq1s ctq1s:Value}
  {C_Letter:Addr}
  {T_Letter_init:Addr} {oT_Letter_init:Option Addr} {nT_Letter_init:Nat} {sT_Letter_init:Array (Option Value)}
  {fq0f:Addr} {odq0f anq0f:Option Addr} {slq0f:Array (Option Value)} {ocq0f kVq0f dcq0f pmq0f cdq0f ctq0f:Value}
  {fq0o:Addr} {odq0o anq0o:Option Addr} {slq0o:Array (Option Value)} {ocq0o kVq0o dcq0o pmq0o cdq0o ctq0o:Value}
  {C_Piece:Addr}
  {T_Piece_init:Addr} {oT_Piece_init:Option Addr} {nT_Piece_init:Nat} {sT_Piece_init:Array (Option Value)}
  {fq0m:Addr} {odq0m anq0m:Option Addr} {slq0m:Array (Option Value)} {ocq0m kVq0m dcq0m pmq0m cdq0m ctq0m:Value}
  {fq0q:Addr} {odq0q anq0q:Option Addr} {slq0q:Array (Option Value)} {ocq0q kVq0q dcq0q pmq0q cdq0q ctq0q:Value}
  {C_WayError:Addr}
  {C_NoKey:Addr}
  {C_NoLetter:Addr}
  {C_NoPiece:Addr}
  {C_NoRoad:Addr}
  {C_NoRoom:Addr}
  {C_NoRow:Addr}
  {C_NoRule:Addr}
  {C_NoTime:Addr}
  {C_NoWidth:Addr}
  {C_TooWide:Addr}
  {C_NoText:Addr}
  {tk_MOST_NUMBER:Tok}
  {tk_MOST_BYTE:Tok}
  {tk_MOST_SIGNS:Tok}
  {tk_MOST_BYTES:Tok}
  {tk_MOST_FIGURES:Tok}
  {tk_STEP:Tok}
  {tk_BASE:Tok}
  {tk_WORDS_OF_A_PIECE:Tok}
  {tk_WORDS_OF_A_LETTER:Tok}
  {tk_HALVES:Tok}
  {tk_NO_SIGN:Tok}
  {tk_MORE_SIGN:Tok}
  {tk_KEEP_SIGN:Tok}
  (aq1c:W.nsIn K mainGlobals "is_whole"=some (some (.ref fq1c)))
  (lq1c:K.lookup fq1c=some ⟨ocq1c,odq1c,.func (W.fnOf "is_whole" "is_whole" (Zao Zc3) (defBody Zc3) (defScope Zc3) .none kVq1c dcq1c pmq1c anq1c cdq1c ctq1c),slq1c⟩)
  (cq1c:W.codeIn K cdq1c "is_whole"=true)
  (kq1c:W.keepIn K (.ref fq1c)=true)
  (aq0b:W.nsIn K mainGlobals "is_whole_within"=some (some (.ref fq0b)))
  (lq0b:K.lookup fq0b=some ⟨ocq0b,odq0b,.func (W.fnOf "is_whole_within" "is_whole_within" (Zao Zba) (defBody Zba) (defScope Zba) .none kVq0b dcq0b pmq0b anq0b cdq0b ctq0b),slq0b⟩)
  (cq0b:W.codeIn K cdq0b "is_whole_within"=true)
  (kq0b:W.keepIn K (.ref fq0b)=true)
  (aq0u:W.nsIn K mainGlobals "is_truth"=some (some (.ref fq0u)))
  (lq0u:K.lookup fq0u=some ⟨ocq0u,odq0u,.func (W.fnOf "is_truth" "is_truth" (Zao Zc4) (defBody Zc4) (defScope Zc4) .none kVq0u dcq0u pmq0u anq0u cdq0u ctq0u),slq0u⟩)
  (cq0u:W.codeIn K cdq0u "is_truth"=true)
  (kq0u:W.keepIn K (.ref fq0u)=true)
  (aq0t:W.nsIn K mainGlobals "is_number"=some (some (.ref fq0t)))
  (lq0t:K.lookup fq0t=some ⟨ocq0t,odq0t,.func (W.fnOf "is_number" "is_number" (Zao Zch) (defBody Zch) (defScope Zch) .none kVq0t dcq0t pmq0t anq0t cdq0t ctq0t),slq0t⟩)
  (cq0t:W.codeIn K cdq0t "is_number"=true)
  (kq0t:W.keepIn K (.ref fq0t)=true)
  (aq1i:W.nsIn K mainGlobals "is_name"=some (some (.ref fq1i)))
  (lq1i:K.lookup fq1i=some ⟨ocq1i,odq1i,.func (W.fnOf "is_name" "is_name" (Zao Zdc) (defBody Zdc) (defScope Zdc) .none kVq1i dcq1i pmq1i anq1i cdq1i ctq1i),slq1i⟩)
  (cq1i:W.codeIn K cdq1i "is_name"=true)
  (kq1i:W.keepIn K (.ref fq1i)=true)
  (aq1g:W.nsIn K mainGlobals "is_byte"=some (some (.ref fq1g)))
  (lq1g:K.lookup fq1g=some ⟨ocq1g,odq1g,.func (W.fnOf "is_byte" "is_byte" (Zao Zdr) (defBody Zdr) (defScope Zdr) .none kVq1g dcq1g pmq1g anq1g cdq1g ctq1g),slq1g⟩)
  (cq1g:W.codeIn K cdq1g "is_byte"=true)
  (kq1g:W.keepIn K (.ref fq1g)=true)
  (aq1h:W.nsIn K mainGlobals "is_body"=some (some (.ref fq1h)))
  (lq1h:K.lookup fq1h=some ⟨ocq1h,odq1h,.func (W.fnOf "is_body" "is_body" (Zao Zdd) (defBody Zdd) (defScope Zdd) .none kVq1h dcq1h pmq1h anq1h cdq1h ctq1h),slq1h⟩)
  (cq1h:W.codeIn K cdq1h "is_body"=true)
  (kq1h:W.keepIn K (.ref fq1h)=true)
  (aq0h:W.nsIn K mainGlobals "are_figures"=some (some (.ref fq0h)))
  (lq0h:K.lookup fq0h=some ⟨ocq0h,odq0h,.func (W.fnOf "are_figures" "are_figures" (Zao Zbl) (defBody Zbl) (defScope Zbl) .none kVq0h dcq0h pmq0h anq0h cdq0h ctq0h),slq0h⟩)
  (cq0h:W.codeIn K cdq0h "are_figures"=true)
  (kq0h:W.keepIn K (.ref fq0h)=true)
  (aq0a:W.nsIn K mainGlobals "are_shared_parts"=some (some (.ref fq0a)))
  (lq0a:K.lookup fq0a=some ⟨ocq0a,odq0a,.func (W.fnOf "are_shared_parts" "are_shared_parts" (Zao Za8) (defBody Za8) (defScope Za8) .none kVq0a dcq0a pmq0a anq0a cdq0a ctq0a),slq0a⟩)
  (cq0a:W.codeIn K cdq0a "are_shared_parts"=true)
  (kq0a:W.keepIn K (.ref fq0a)=true)
  (aq0w:W.nsIn K mainGlobals "is_place"=some (some (.ref fq0w)))
  (lq0w:K.lookup fq0w=some ⟨ocq0w,odq0w,.func (W.fnOf "is_place" "is_place" (Zao Zc5) (defBody Zc5) (defScope Zc5) .none kVq0w dcq0w pmq0w anq0w cdq0w ctq0w),slq0w⟩)
  (cq0w:W.codeIn K cdq0w "is_place"=true)
  (kq0w:W.keepIn K (.ref fq0w)=true)
  (aq0z:W.nsIn K mainGlobals "has_room"=some (some (.ref fq0z)))
  (lq0z:K.lookup fq0z=some ⟨ocq0z,odq0z,.func (W.fnOf "has_room" "has_room" (Zao Zc6) (defBody Zc6) (defScope Zc6) .none kVq0z dcq0z pmq0z anq0z cdq0z ctq0z),slq0z⟩)
  (cq0z:W.codeIn K cdq0z "has_room"=true)
  (kq0z:W.keepIn K (.ref fq0z)=true)
  (aq0s:W.nsIn K mainGlobals "shown_key"=some (some (.ref fq0s)))
  (lq0s:K.lookup fq0s=some ⟨ocq0s,odq0s,.func (W.fnOf "shown_key" "shown_key" (Zao Zce) (defBody Zce) (defScope Zce) .none kVq0s dcq0s pmq0s anq0s cdq0s ctq0s),slq0s⟩)
  (cq0s:W.codeIn K cdq0s "shown_key"=true)
  (kq0s:W.keepIn K (.ref fq0s)=true)
  (aq0d:W.nsIn K mainGlobals "shown_truth"=some (some (.ref fq0d)))
  (lq0d:K.lookup fq0d=some ⟨ocq0d,odq0d,.func (W.fnOf "shown_truth" "shown_truth" (Zao Zbu) (defBody Zbu) (defScope Zbu) .none kVq0d dcq0d pmq0d anq0d cdq0d ctq0d),slq0d⟩)
  (cq0d:W.codeIn K cdq0d "shown_truth"=true)
  (kq0d:W.keepIn K (.ref fq0d)=true)
  (aq0e:W.nsIn K mainGlobals "shown_bytes"=some (some (.ref fq0e)))
  (lq0e:K.lookup fq0e=some ⟨ocq0e,odq0e,.func (W.fnOf "shown_bytes" "shown_bytes" (Zao Zbk) (defBody Zbk) (defScope Zbk) .none kVq0e dcq0e pmq0e anq0e cdq0e ctq0e),slq0e⟩)
  (cq0e:W.codeIn K cdq0e "shown_bytes"=true)
  (kq0e:W.keepIn K (.ref fq0e)=true)
  (aq1m:W.nsIn K mainGlobals "shown"=some (some (.ref fq1m)))
  (lq1m:K.lookup fq1m=some ⟨ocq1m,odq1m,.func (W.fnOf "shown" "shown" (Zao Zfk) (defBody Zfk) (defScope Zfk) .none kVq1m dcq1m pmq1m anq1m cdq1m ctq1m),slq1m⟩)
  (cq1m:W.codeIn K cdq1m "shown"=true)
  (kq1m:W.keepIn K (.ref fq1m)=true)
  (aq0c:W.nsIn K mainGlobals "shown_letter"=some (some (.ref fq0c)))
  (lq0c:K.lookup fq0c=some ⟨ocq0c,odq0c,.func (W.fnOf "shown_letter" "shown_letter" (Zao Zbp) (defBody Zbp) (defScope Zbp) .none kVq0c dcq0c pmq0c anq0c cdq0c ctq0c),slq0c⟩)
  (cq0c:W.codeIn K cdq0c "shown_letter"=true)
  (kq0c:W.keepIn K (.ref fq0c)=true)
  (aq0x:W.nsIn K mainGlobals "words_of"=some (some (.ref fq0x)))
  (lq0x:K.lookup fq0x=some ⟨ocq0x,odq0x,.func (W.fnOf "words_of" "words_of" (Zao Zcy) (defBody Zcy) (defScope Zcy) .none kVq0x dcq0x pmq0x anq0x cdq0x ctq0x),slq0x⟩)
  (cq0x:W.codeIn K cdq0x "words_of"=true)
  (kq0x:W.keepIn K (.ref fq0x)=true)
  (aq0g:W.nsIn K mainGlobals "read_number"=some (some (.ref fq0g)))
  (lq0g:K.lookup fq0g=some ⟨ocq0g,odq0g,.func (W.fnOf "read_number" "read_number" (Zao Zbv) (defBody Zbv) (defScope Zbv) .none kVq0g dcq0g pmq0g anq0g cdq0g ctq0g),slq0g⟩)
  (cq0g:W.codeIn K cdq0g "read_number"=true)
  (kq0g:W.keepIn K (.ref fq0g)=true)
  (aq0j:W.nsIn K mainGlobals "read_truth"=some (some (.ref fq0j)))
  (lq0j:K.lookup fq0j=some ⟨ocq0j,odq0j,.func (W.fnOf "read_truth" "read_truth" (Zao Zb2) (defBody Zb2) (defScope Zb2) .none kVq0j dcq0j pmq0j anq0j cdq0j ctq0j),slq0j⟩)
  (cq0j:W.codeIn K cdq0j "read_truth"=true)
  (kq0j:W.keepIn K (.ref fq0j)=true)
  (aq0k:W.nsIn K mainGlobals "read_bytes"=some (some (.ref fq0k)))
  (lq0k:K.lookup fq0k=some ⟨ocq0k,odq0k,.func (W.fnOf "read_bytes" "read_bytes" (Zao Zbh) (defBody Zbh) (defScope Zbh) .none kVq0k dcq0k pmq0k anq0k cdq0k ctq0k),slq0k⟩)
  (cq0k:W.codeIn K cdq0k "read_bytes"=true)
  (kq0k:W.keepIn K (.ref fq0k)=true)
  (aq0n:W.nsIn K mainGlobals "read_piece"=some (some (.ref fq0n)))
  (lq0n:K.lookup fq0n=some ⟨ocq0n,odq0n,.func (W.fnOf "read_piece" "read_piece" (Zao Zb3) (defBody Zb3) (defScope Zb3) .none kVq0n dcq0n pmq0n anq0n cdq0n ctq0n),slq0n⟩)
  (cq0n:W.codeIn K cdq0n "read_piece"=true)
  (kq0n:W.keepIn K (.ref fq0n)=true)
  (aq0i:W.nsIn K mainGlobals "read_letter"=some (some (.ref fq0i)))
  (lq0i:K.lookup fq0i=some ⟨ocq0i,odq0i,.func (W.fnOf "read_letter" "read_letter" (Zao Zbw) (defBody Zbw) (defScope Zbw) .none kVq0i dcq0i pmq0i anq0i cdq0i ctq0i),slq0i⟩)
  (cq0i:W.codeIn K cdq0i "read_letter"=true)
  (kq0i:W.keepIn K (.ref fq0i)=true)
  (aq1k:W.nsIn K mainGlobals "_law_mixed"=some (some (.ref fq1k)))
  (lq1k:K.lookup fq1k=some ⟨ocq1k,odq1k,.func (W.fnOf "_law_mixed" "_law_mixed" (Zao Zfl) (defBody Zfl) (defScope Zfl) .none kVq1k dcq1k pmq1k anq1k cdq1k ctq1k),slq1k⟩)
  (cq1k:W.codeIn K cdq1k "_law_mixed"=true)
  (kq1k:W.keepIn K (.ref fq1k)=true)
  (aq1o:W.nsIn K mainGlobals "_law_state"=some (some (.ref fq1o)))
  (lq1o:K.lookup fq1o=some ⟨ocq1o,odq1o,.func (W.fnOf "_law_state" "_law_state" (Zao Zfj) (defBody Zfj) (defScope Zfj) .none kVq1o dcq1o pmq1o anq1o cdq1o ctq1o),slq1o⟩)
  (cq1o:W.codeIn K cdq1o "_law_state"=true)
  (kq1o:W.keepIn K (.ref fq1o)=true)
  (aq1n:W.nsIn K mainGlobals "_law_digit"=some (some (.ref fq1n)))
  (lq1n:K.lookup fq1n=some ⟨ocq1n,odq1n,.func (W.fnOf "_law_digit" "_law_digit" (Zao Zfm) (defBody Zfm) (defScope Zfm) .none kVq1n dcq1n pmq1n anq1n cdq1n ctq1n),slq1n⟩)
  (cq1n:W.codeIn K cdq1n "_law_digit"=true)
  (kq1n:W.keepIn K (.ref fq1n)=true)
  (aq1p:W.nsIn K mainGlobals "_law_name"=some (some (.ref fq1p)))
  (lq1p:K.lookup fq1p=some ⟨ocq1p,odq1p,.func (W.fnOf "_law_name" "_law_name" (Zao Zge) (defBody Zge) (defScope Zge) .none kVq1p dcq1p pmq1p anq1p cdq1p ctq1p),slq1p⟩)
  (cq1p:W.codeIn K cdq1p "_law_name"=true)
  (kq1p:W.keepIn K (.ref fq1p)=true)
  (aq1r:W.nsIn K mainGlobals "_law_key"=some (some (.ref fq1r)))
  (lq1r:K.lookup fq1r=some ⟨ocq1r,odq1r,.func (W.fnOf "_law_key" "_law_key" (Zao Zmj) (defBody Zmj) (defScope Zmj) .none kVq1r dcq1r pmq1r anq1r cdq1r ctq1r),slq1r⟩)
  (cq1r:W.codeIn K cdq1r "_law_key"=true)
  (kq1r:W.keepIn K (.ref fq1r)=true)
  (aq1f:W.nsIn K mainGlobals "_law_body"=some (some (.ref fq1f)))
  (lq1f:K.lookup fq1f=some ⟨ocq1f,odq1f,.func (W.fnOf "_law_body" "_law_body" (Zao Zdb) (defBody Zdb) (defScope Zdb) .none kVq1f dcq1f pmq1f anq1f cdq1f ctq1f),slq1f⟩)
  (cq1f:W.codeIn K cdq1f "_law_body"=true)
  (kq1f:W.keepIn K (.ref fq1f)=true)
  (aq0r:W.nsIn K mainGlobals "_law_letter"=some (some (.ref fq0r)))
  (lq0r:K.lookup fq0r=some ⟨ocq0r,odq0r,.func (W.fnOf "_law_letter" "_law_letter" (Zao Zcf) (defBody Zcf) (defScope Zcf) .none kVq0r dcq0r pmq0r anq0r cdq0r ctq0r),slq0r⟩)
  (cq0r:W.codeIn K cdq0r "_law_letter"=true)
  (kq0r:W.keepIn K (.ref fq0r)=true)
  (aq1d:W.nsIn K mainGlobals "_law_piece"=some (some (.ref fq1d)))
  (lq1d:K.lookup fq1d=some ⟨ocq1d,odq1d,.func (W.fnOf "_law_piece" "_law_piece" (Zao Zc0) (defBody Zc0) (defScope Zc0) .none kVq1d dcq1d pmq1d anq1d cdq1d ctq1d),slq1d⟩)
  (cq1d:W.codeIn K cdq1d "_law_piece"=true)
  (kq1d:W.keepIn K (.ref fq1d)=true)
  (aq1b:W.nsIn K mainGlobals "_law_is_number"=some (some (.ref fq1b)))
  (lq1b:K.lookup fq1b=some ⟨ocq1b,odq1b,.func (W.fnOf "_law_is_number" "_law_is_number" (Zao Zcg) (defBody Zcg) (defScope Zcg) .none kVq1b dcq1b pmq1b anq1b cdq1b ctq1b),slq1b⟩)
  (cq1b:W.codeIn K cdq1b "_law_is_number"=true)
  (kq1b:W.keepIn K (.ref fq1b)=true)
  (aq0p:W.nsIn K mainGlobals "_law_is_name"=some (some (.ref fq0p)))
  (lq0p:K.lookup fq0p=some ⟨ocq0p,odq0p,.func (W.fnOf "_law_is_name" "_law_is_name" (Zao Zb1) (defBody Zb1) (defScope Zb1) .none kVq0p dcq0p pmq0p anq0p cdq0p ctq0p),slq0p⟩)
  (cq0p:W.codeIn K cdq0p "_law_is_name"=true)
  (kq0p:W.keepIn K (.ref fq0p)=true)
  (aq0l:W.nsIn K mainGlobals "_law_is_bytes"=some (some (.ref fq0l)))
  (lq0l:K.lookup fq0l=some ⟨ocq0l,odq0l,.func (W.fnOf "_law_is_bytes" "_law_is_bytes" (Zao Zbr) (defBody Zbr) (defScope Zbr) .none kVq0l dcq0l pmq0l anq0l cdq0l ctq0l),slq0l⟩)
  (cq0l:W.codeIn K cdq0l "_law_is_bytes"=true)
  (kq0l:W.keepIn K (.ref fq0l)=true)
  (aq1a:W.nsIn K mainGlobals "_law_is_letter"=some (some (.ref fq1a)))
  (lq1a:K.lookup fq1a=some ⟨ocq1a,odq1a,.func (W.fnOf "_law_is_letter" "_law_is_letter" (Zao Zc2) (defBody Zc2) (defScope Zc2) .none kVq1a dcq1a pmq1a anq1a cdq1a ctq1a),slq1a⟩)
  (cq1a:W.codeIn K cdq1a "_law_is_letter"=true)
  (kq1a:W.keepIn K (.ref fq1a)=true)
  (aq0y:W.nsIn K mainGlobals "_law_is_piece"=some (some (.ref fq0y)))
  (lq0y:K.lookup fq0y=some ⟨ocq0y,odq0y,.func (W.fnOf "_law_is_piece" "_law_is_piece" (Zao Zc1) (defBody Zc1) (defScope Zc1) .none kVq0y dcq0y pmq0y anq0y cdq0y ctq0y),slq0y⟩)
  (cq0y:W.codeIn K cdq0y "_law_is_piece"=true)
  (kq0y:W.keepIn K (.ref fq0y)=true)
  (aq1q:W.nsIn K mainGlobals "_law_menu"=some (some (.ref fq1q)))
  (lq1q:K.lookup fq1q=some ⟨ocq1q,odq1q,.func (W.fnOf "_law_menu" "_law_menu" (Zao Zhb) (defBody Zhb) (defScope Zhb) .none kVq1q dcq1q pmq1q anq1q cdq1q ctq1q),slq1q⟩)
  (cq1q:W.codeIn K cdq1q "_law_menu"=true)
  (kq1q:W.keepIn K (.ref fq1q)=true)
  (aq1j:W.nsIn K mainGlobals "_law_spoilt"=some (some (.ref fq1j)))
  (lq1j:K.lookup fq1j=some ⟨ocq1j,odq1j,.func (W.fnOf "_law_spoilt" "_law_spoilt" (Zao Zeg) (defBody Zeg) (defScope Zeg) .none kVq1j dcq1j pmq1j anq1j cdq1j ctq1j),slq1j⟩)
  (cq1j:W.codeIn K cdq1j "_law_spoilt"=true)
  (kq1j:W.keepIn K (.ref fq1j)=true)
  (aq1l:W.nsIn K mainGlobals "_law_alone"=some (some (.ref fq1l)))
  (lq1l:K.lookup fq1l=some ⟨ocq1l,odq1l,.func (W.fnOf "_law_alone" "_law_alone" (Zao Zfn) (defBody Zfn) (defScope Zfn) .none kVq1l dcq1l pmq1l anq1l cdq1l ctq1l),slq1l⟩)
  (cq1l:W.codeIn K cdq1l "_law_alone"=true)
  (kq1l:W.keepIn K (.ref fq1l)=true)
  (aq1e:W.nsIn K mainGlobals "_law_read"=some (some (.ref fq1e)))
  (lq1e:K.lookup fq1e=some ⟨ocq1e,odq1e,.func (W.fnOf "_law_read" "_law_read" (Zao Zdq) (defBody Zdq) (defScope Zdq) .none kVq1e dcq1e pmq1e anq1e cdq1e ctq1e),slq1e⟩)
  (cq1e:W.codeIn K cdq1e "_law_read"=true)
  (kq1e:W.keepIn K (.ref fq1e)=true)
  (aq0v:W.nsIn K mainGlobals "_law_right"=some (some (.ref fq0v)))
  (lq0v:K.lookup fq0v=some ⟨ocq0v,odq0v,.func (W.fnOf "_law_right" "_law_right" (Zao Zcz) (defBody Zcz) (defScope Zcz) .none kVq0v dcq0v pmq0v anq0v cdq0v ctq0v),slq0v⟩)
  (cq0v:W.codeIn K cdq0v "_law_right"=true)
  (kq0v:W.keepIn K (.ref fq0v)=true)
  (aq1s:W.nsIn K mainGlobals "law"=some (some (.ref fq1s)))
  (lq1s:K.lookup fq1s=some ⟨ocq1s,odq1s,.func (W.fnOf "law" "law" (Zao Zh2) (defBody Zh2) (defScope Zh2) .none kVq1s dcq1s pmq1s anq1s cdq1s ctq1s),slq1s⟩)
  (cq1s:W.codeIn K cdq1s "law"=true)
  (kq1s:W.keepIn K (.ref fq1s)=true)
  (aC_Letter:W.nsIn K mainGlobals "Letter"=some (some (.ref C_Letter)))
  (aq0f:W.findIn K (.ref C_Letter) "__init__"=some (some (.ref fq0f)))
  (iq0f:W.isFn K (.ref fq0f)=true)
  (lq0f:K.lookup fq0f=some ⟨ocq0f,odq0f,.func (W.fnOf "__init__" "Letter.__init__" (Zao Za5) (defBody Za5) (defScope Za5) (.ref T_Letter_init) kVq0f dcq0f pmq0f anq0f cdq0f ctq0f),slq0f⟩)
  (cq0f:W.codeIn K cdq0f "Letter.__init__"=true)
  (kq0f:W.keepIn K (.ref fq0f)=true)
  (tq0f:K.lookup T_Letter_init=some ⟨.type "tuple",oT_Letter_init,.seq #[.bool false] nT_Letter_init,sT_Letter_init⟩)
  (aq0o:W.findIn K (.ref C_Letter) "key"=some (some (.ref fq0o)))
  (iq0o:W.isFn K (.ref fq0o)=true)
  (lq0o:K.lookup fq0o=some ⟨ocq0o,odq0o,.func (W.fnOf "key" "Letter.key" (Zao Zb4) (defBody Zb4) (defScope Zb4) .none kVq0o dcq0o pmq0o anq0o cdq0o ctq0o),slq0o⟩)
  (cq0o:W.codeIn K cdq0o "Letter.key"=true)
  (kq0o:W.keepIn K (.ref fq0o)=true)
  (pg_Letter:W.plainGet K C_Letter Str.empty=true)
  (hd_Letter:W.hasDictIn K C_Letter=true)
  (po_Letter:W.plainOver K C_Letter=true)
  (sa_Letter:W.findIn K (.ref C_Letter) "__setattr__"=some (some (.builtin "object.__setattr__")))
  (mk_Letter:W.makesIn K C_Letter=true)
  (kc_Letter:W.keepIn K (.ref C_Letter)=true)
  (n_Letter_number:W.findIn K (.ref C_Letter) "number"=some none)
  (n_Letter_sender:W.findIn K (.ref C_Letter) "sender"=some none)
  (n_Letter_goal:W.findIn K (.ref C_Letter) "goal"=some none)
  (n_Letter_body:W.findIn K (.ref C_Letter) "body"=some none)
  (n_Letter_keep:W.findIn K (.ref C_Letter) "keep"=some none)
  (ih_Letter:W.findIn K (.ref C_Letter) "__class__"=some (some (.builtin "object.__class__")))
  (in_Letter:W.specialIn K (.builtin "object.__class__") "__get__"=some (some (.builtin "getset_descriptor.__get__")))
  (it_Letter:W.takesIn K (.builtin "object.__class__")=some true)
  (im_Letter:W.mroIn K C_Letter (.type "object")=some true)
  (aC_Piece:W.nsIn K mainGlobals "Piece"=some (some (.ref C_Piece)))
  (aq0m:W.findIn K (.ref C_Piece) "__init__"=some (some (.ref fq0m)))
  (iq0m:W.isFn K (.ref fq0m)=true)
  (lq0m:K.lookup fq0m=some ⟨ocq0m,odq0m,.func (W.fnOf "__init__" "Piece.__init__" (Zao Za9) (defBody Za9) (defScope Za9) (.ref T_Piece_init) kVq0m dcq0m pmq0m anq0m cdq0m ctq0m),slq0m⟩)
  (cq0m:W.codeIn K cdq0m "Piece.__init__"=true)
  (kq0m:W.keepIn K (.ref fq0m)=true)
  (tq0m:K.lookup T_Piece_init=some ⟨.type "tuple",oT_Piece_init,.seq #[.bool false] nT_Piece_init,sT_Piece_init⟩)
  (aq0q:W.findIn K (.ref C_Piece) "key"=some (some (.ref fq0q)))
  (iq0q:W.isFn K (.ref fq0q)=true)
  (lq0q:K.lookup fq0q=some ⟨ocq0q,odq0q,.func (W.fnOf "key" "Piece.key" (Zao Zci) (defBody Zci) (defScope Zci) .none kVq0q dcq0q pmq0q anq0q cdq0q ctq0q),slq0q⟩)
  (cq0q:W.codeIn K cdq0q "Piece.key"=true)
  (kq0q:W.keepIn K (.ref fq0q)=true)
  (pg_Piece:W.plainGet K C_Piece Str.empty=true)
  (hd_Piece:W.hasDictIn K C_Piece=true)
  (po_Piece:W.plainOver K C_Piece=true)
  (sa_Piece:W.findIn K (.ref C_Piece) "__setattr__"=some (some (.builtin "object.__setattr__")))
  (mk_Piece:W.makesIn K C_Piece=true)
  (kc_Piece:W.keepIn K (.ref C_Piece)=true)
  (n_Piece_number:W.findIn K (.ref C_Piece) "number"=some none)
  (n_Piece_sender:W.findIn K (.ref C_Piece) "sender"=some none)
  (n_Piece_goal:W.findIn K (.ref C_Piece) "goal"=some none)
  (n_Piece_at:W.findIn K (.ref C_Piece) "at"=some none)
  (n_Piece_body:W.findIn K (.ref C_Piece) "body"=some none)
  (n_Piece_more:W.findIn K (.ref C_Piece) "more"=some none)
  (n_Piece_keep:W.findIn K (.ref C_Piece) "keep"=some none)
  (ih_Piece:W.findIn K (.ref C_Piece) "__class__"=some (some (.builtin "object.__class__")))
  (in_Piece:W.specialIn K (.builtin "object.__class__") "__get__"=some (some (.builtin "getset_descriptor.__get__")))
  (it_Piece:W.takesIn K (.builtin "object.__class__")=some true)
  (im_Piece:W.mroIn K C_Piece (.type "object")=some true)
  (aC_WayError:W.nsIn K mainGlobals "WayError"=some (some (.ref C_WayError)))
  (kty_WayError:W.typeIn K (.ref C_WayError)=some (.type "type"))
  (kbe_WayError:W.mroIn K C_WayError (.type "BaseException")=some true)
  (aC_NoKey:W.nsIn K mainGlobals "NoKey"=some (some (.ref C_NoKey)))
  (kty_NoKey:W.typeIn K (.ref C_NoKey)=some (.type "type"))
  (kbe_NoKey:W.mroIn K C_NoKey (.type "BaseException")=some true)
  (aC_NoLetter:W.nsIn K mainGlobals "NoLetter"=some (some (.ref C_NoLetter)))
  (kty_NoLetter:W.typeIn K (.ref C_NoLetter)=some (.type "type"))
  (kbe_NoLetter:W.mroIn K C_NoLetter (.type "BaseException")=some true)
  (aC_NoPiece:W.nsIn K mainGlobals "NoPiece"=some (some (.ref C_NoPiece)))
  (kty_NoPiece:W.typeIn K (.ref C_NoPiece)=some (.type "type"))
  (kbe_NoPiece:W.mroIn K C_NoPiece (.type "BaseException")=some true)
  (aC_NoRoad:W.nsIn K mainGlobals "NoRoad"=some (some (.ref C_NoRoad)))
  (kty_NoRoad:W.typeIn K (.ref C_NoRoad)=some (.type "type"))
  (kbe_NoRoad:W.mroIn K C_NoRoad (.type "BaseException")=some true)
  (aC_NoRoom:W.nsIn K mainGlobals "NoRoom"=some (some (.ref C_NoRoom)))
  (kty_NoRoom:W.typeIn K (.ref C_NoRoom)=some (.type "type"))
  (kbe_NoRoom:W.mroIn K C_NoRoom (.type "BaseException")=some true)
  (aC_NoRow:W.nsIn K mainGlobals "NoRow"=some (some (.ref C_NoRow)))
  (kty_NoRow:W.typeIn K (.ref C_NoRow)=some (.type "type"))
  (kbe_NoRow:W.mroIn K C_NoRow (.type "BaseException")=some true)
  (aC_NoRule:W.nsIn K mainGlobals "NoRule"=some (some (.ref C_NoRule)))
  (kty_NoRule:W.typeIn K (.ref C_NoRule)=some (.type "type"))
  (kbe_NoRule:W.mroIn K C_NoRule (.type "BaseException")=some true)
  (aC_NoTime:W.nsIn K mainGlobals "NoTime"=some (some (.ref C_NoTime)))
  (kty_NoTime:W.typeIn K (.ref C_NoTime)=some (.type "type"))
  (kbe_NoTime:W.mroIn K C_NoTime (.type "BaseException")=some true)
  (aC_NoWidth:W.nsIn K mainGlobals "NoWidth"=some (some (.ref C_NoWidth)))
  (kty_NoWidth:W.typeIn K (.ref C_NoWidth)=some (.type "type"))
  (kbe_NoWidth:W.mroIn K C_NoWidth (.type "BaseException")=some true)
  (aC_TooWide:W.nsIn K mainGlobals "TooWide"=some (some (.ref C_TooWide)))
  (kty_TooWide:W.typeIn K (.ref C_TooWide)=some (.type "type"))
  (kbe_TooWide:W.mroIn K C_TooWide (.type "BaseException")=some true)
  (aC_NoText:W.nsIn K mainGlobals "NoText"=some (some (.ref C_NoText)))
  (kty_NoText:W.typeIn K (.ref C_NoText)=some (.type "type"))
  (kbe_NoText:W.mroIn K C_NoText (.type "BaseException")=some true)
  (exc_NoText:W.excIn K C_NoText Zsr "ValueError.__new__"=true)
  (kmr_NoText_NoText:W.mroIn K C_NoText (.ref C_NoText)=some true)
  (exc_NoPiece:W.excIn K C_NoPiece Zsr "ValueError.__new__"=true)
  (kmr_NoPiece_NoPiece:W.mroIn K C_NoPiece (.ref C_NoPiece)=some true)
  (exc_NoLetter:W.excIn K C_NoLetter Zsr "ValueError.__new__"=true)
  (kmr_NoLetter_NoLetter:W.mroIn K C_NoLetter (.ref C_NoLetter)=some true)
  (ega_NoText:W.findIn K (.ref C_NoText) "__getattribute__"=some (some (.builtin "BaseException.__getattribute__")))
  (egt_NoText:W.findIn K (.ref C_NoText) "__getattr__"=some none)
  (ecl_NoText:W.findIn K (.ref C_NoText) "__class__"=some (some (.builtin "object.__class__")))
  (eob_NoText:W.mroIn K C_NoText (.type "object")=some true)
  (eve_NoText:W.mroIn K C_NoText (.type "ValueError")=some true)
  (ewy_NoText:W.mroIn K C_NoText (.ref C_WayError)=some true)
  (kmr_NoText_NoKey:W.mroIn K C_NoText (.ref C_NoKey)=some false)
  (kmr_NoText_NoLetter:W.mroIn K C_NoText (.ref C_NoLetter)=some false)
  (kmr_NoText_NoPiece:W.mroIn K C_NoText (.ref C_NoPiece)=some false)
  (kmr_NoText_NoRoad:W.mroIn K C_NoText (.ref C_NoRoad)=some false)
  (kmr_NoText_NoRoom:W.mroIn K C_NoText (.ref C_NoRoom)=some false)
  (kmr_NoText_NoRow:W.mroIn K C_NoText (.ref C_NoRow)=some false)
  (kmr_NoText_NoRule:W.mroIn K C_NoText (.ref C_NoRule)=some false)
  (kmr_NoText_NoTime:W.mroIn K C_NoText (.ref C_NoTime)=some false)
  (kmr_NoText_NoWidth:W.mroIn K C_NoText (.ref C_NoWidth)=some false)
  (kmr_NoText_TooWide:W.mroIn K C_NoText (.ref C_TooWide)=some false)
  (z_ValueError:W.nsIn K mainGlobals "ValueError"=some none)
  (q_MOST_NUMBER:W.nsIn K mainGlobals "MOST_NUMBER"=some (some (.int 65535 tk_MOST_NUMBER)))
  (q_MOST_BYTE:W.nsIn K mainGlobals "MOST_BYTE"=some (some (.int 255 tk_MOST_BYTE)))
  (q_MOST_SIGNS:W.nsIn K mainGlobals "MOST_SIGNS"=some (some (.int 8 tk_MOST_SIGNS)))
  (q_MOST_BYTES:W.nsIn K mainGlobals "MOST_BYTES"=some (some (.int 4000 tk_MOST_BYTES)))
  (q_MOST_FIGURES:W.nsIn K mainGlobals "MOST_FIGURES"=some (some (.int 12 tk_MOST_FIGURES)))
  (q_STEP:W.nsIn K mainGlobals "STEP"=some (some (.int 8 tk_STEP)))
  (q_BASE:W.nsIn K mainGlobals "BASE"=some (some (.int 16 tk_BASE)))
  (q_WORDS_OF_A_PIECE:W.nsIn K mainGlobals "WORDS_OF_A_PIECE"=some (some (.int 7 tk_WORDS_OF_A_PIECE)))
  (q_WORDS_OF_A_LETTER:W.nsIn K mainGlobals "WORDS_OF_A_LETTER"=some (some (.int 5 tk_WORDS_OF_A_LETTER)))
  (q_HALVES:W.nsIn K mainGlobals "HALVES"=some (some (.str "0123456789abcdef" tk_HALVES)))
  (q_NO_SIGN:W.nsIn K mainGlobals "NO_SIGN"=some (some (.str "." tk_NO_SIGN)))
  (q_MORE_SIGN:W.nsIn K mainGlobals "MORE_SIGN"=some (some (.str "+" tk_MORE_SIGN)))
  (q_KEEP_SIGN:W.nsIn K mainGlobals "KEEP_SIGN"=some (some (.str "!" tk_KEEP_SIGN)))
  (z_len:W.nsIn K mainGlobals "len"=some none)
  (z_range:W.nsIn K mainGlobals "range"=some none)
  (z_isinstance:W.nsIn K mainGlobals "isinstance"=some none)
  (z_all:W.nsIn K mainGlobals "all"=some none)
  (z_min:W.nsIn K mainGlobals "min"=some none)
  (z_max:W.nsIn K mainGlobals "max"=some none)
  (z_int:W.nsIn K mainGlobals "int"=some none)
  (z_bool:W.nsIn K mainGlobals "bool"=some none)
  (z_str:W.nsIn K mainGlobals "str"=some none)
  (z_list:W.nsIn K mainGlobals "list"=some none)
  (z_tuple:W.nsIn K mainGlobals "tuple"=some none):
  ∃fd:FuncData,(∀ (s:Shared) (v:Value),BindsTo s fd ⟨[v],[]⟩ [("_law_script",v)])/\∀base:Heap,K.In base->base.Ns mainGlobals mg->FnOk l.prog w K mg base CX0 12 fa fd ["_law_script"] (Zln K):=by
 have e:=hfa.symm.trans (W.mg_of X G aq1s);cases e;have Fq1c:=Zax (st:=Zc3) lq1c cq1c kq1c;have bq1c:=Fq1c.binds (ps:=["value"]) fun _ _ _ _ _ _ us hl=>match us,hl with|[_],_=>rfl
 have mq1c:=W.mg_of X G aq1c;have Fq0b:=Zax (st:=Zba) lq0b cq0b kq0b;have bq0b:=Fq0b.binds (ps:=["value","low","high"]) fun _ _ _ _ _ _ us hl=>match us,hl with|[_,_,_],_=>rfl
 have mq0b:=W.mg_of X G aq0b;have Fq0u:=Zax (st:=Zc4) lq0u cq0u kq0u;have bq0u:=Fq0u.binds (ps:=["value"]) fun _ _ _ _ _ _ us hl=>match us,hl with|[_],_=>rfl
 have mq0u:=W.mg_of X G aq0u;have Fq0t:=Zax (st:=Zch) lq0t cq0t kq0t;have bq0t:=Fq0t.binds (ps:=["value"]) fun _ _ _ _ _ _ us hl=>match us,hl with|[_],_=>rfl
 have mq0t:=W.mg_of X G aq0t;have Fq1i:=Zax (st:=Zdc) lq1i cq1i kq1i;have bq1i:=Fq1i.binds (ps:=["value"]) fun _ _ _ _ _ _ us hl=>match us,hl with|[_],_=>rfl
 have mq1i:=W.mg_of X G aq1i;have Fq1g:=Zax (st:=Zdr) lq1g cq1g kq1g;have bq1g:=Fq1g.binds (ps:=["value"]) fun _ _ _ _ _ _ us hl=>match us,hl with|[_],_=>rfl
 have mq1g:=W.mg_of X G aq1g;have Fq1h:=Zax (st:=Zdd) lq1h cq1h kq1h;have bq1h:=Fq1h.binds (ps:=["value"]) fun _ _ _ _ _ _ us hl=>match us,hl with|[_],_=>rfl
 have mq1h:=W.mg_of X G aq1h;have Fq0h:=Zax (st:=Zbl) lq0h cq0h kq0h;have bq0h:=Fq0h.binds (ps:=["word"]) fun _ _ _ _ _ _ us hl=>match us,hl with|[_],_=>rfl
 have mq0h:=W.mg_of X G aq0h;have Fq0a:=Zax (st:=Za8) lq0a cq0a kq0a;have bq0a:=Fq0a.binds (ps:=["number","sender","goal","body","keep"]) fun _ _ _ _ _ _ us hl=>match us,hl with|[_,_,_,_,_],_=>rfl
 have mq0a:=W.mg_of X G aq0a;have Fq0w:=Zax (st:=Zc5) lq0w cq0w kq0w;have bq0w:=Fq0w.binds (ps:=["at"]) fun _ _ _ _ _ _ us hl=>match us,hl with|[_],_=>rfl
 have mq0w:=W.mg_of X G aq0w;have Fq0z:=Zax (st:=Zc6) lq0z cq0z kq0z;have bq0z:=Fq0z.binds (ps:=["at","length","more"]) fun _ _ _ _ _ _ us hl=>match us,hl with|[_,_,_],_=>rfl
 have mq0z:=W.mg_of X G aq0z;have Fq0s:=Zax (st:=Zce) lq0s cq0s kq0s;have bq0s:=Fq0s.binds (ps:=["key"]) fun _ _ _ _ _ _ us hl=>match us,hl with|[_],_=>rfl
 have mq0s:=W.mg_of X G aq0s;have Fq0d:=Zax (st:=Zbu) lq0d cq0d kq0d;have bq0d:=Fq0d.binds (ps:=["truth","sign"]) fun _ _ _ _ _ _ us hl=>match us,hl with|[_,_],_=>rfl
 have mq0d:=W.mg_of X G aq0d;have Fq0e:=Zax (st:=Zbk) lq0e cq0e kq0e;have bq0e:=Fq0e.binds (ps:=["body"]) fun _ _ _ _ _ _ us hl=>match us,hl with|[_],_=>rfl
 have mq0e:=W.mg_of X G aq0e;have Fq1m:=Zax (st:=Zfk) lq1m cq1m kq1m;have bq1m:=Fq1m.binds (ps:=["piece"]) fun _ _ _ _ _ _ us hl=>match us,hl with|[_],_=>rfl
 have mq1m:=W.mg_of X G aq1m;have Fq0c:=Zax (st:=Zbp) lq0c cq0c kq0c;have bq0c:=Fq0c.binds (ps:=["letter"]) fun _ _ _ _ _ _ us hl=>match us,hl with|[_],_=>rfl
 have mq0c:=W.mg_of X G aq0c;have Fq0x:=Zax (st:=Zcy) lq0x cq0x kq0x;have bq0x:=Fq0x.binds (ps:=["text","count"]) fun _ _ _ _ _ _ us hl=>match us,hl with|[_,_],_=>rfl
 have mq0x:=W.mg_of X G aq0x;have Fq0g:=Zax (st:=Zbv) lq0g cq0g kq0g;have bq0g:=Fq0g.binds (ps:=["word"]) fun _ _ _ _ _ _ us hl=>match us,hl with|[_],_=>rfl
 have mq0g:=W.mg_of X G aq0g;have Fq0j:=Zax (st:=Zb2) lq0j cq0j kq0j;have bq0j:=Fq0j.binds (ps:=["word","sign"]) fun _ _ _ _ _ _ us hl=>match us,hl with|[_,_],_=>rfl
 have mq0j:=W.mg_of X G aq0j;have Fq0k:=Zax (st:=Zbh) lq0k cq0k kq0k;have bq0k:=Fq0k.binds (ps:=["word"]) fun _ _ _ _ _ _ us hl=>match us,hl with|[_],_=>rfl
 have mq0k:=W.mg_of X G aq0k;have Fq0n:=Zax (st:=Zb3) lq0n cq0n kq0n;have bq0n:=Fq0n.binds (ps:=["text"]) fun _ _ _ _ _ _ us hl=>match us,hl with|[_],_=>rfl
 have mq0n:=W.mg_of X G aq0n;have Fq0i:=Zax (st:=Zbw) lq0i cq0i kq0i;have bq0i:=Fq0i.binds (ps:=["text"]) fun _ _ _ _ _ _ us hl=>match us,hl with|[_],_=>rfl
 have mq0i:=W.mg_of X G aq0i;have Fq1k:=Zax (st:=Zfl) lq1k cq1k kq1k;have bq1k:=Fq1k.binds (ps:=["_law_number"]) fun _ _ _ _ _ _ us hl=>match us,hl with|[_],_=>rfl
 have mq1k:=W.mg_of X G aq1k;have Fq1o:=Zax (st:=Zfj) lq1o cq1o kq1o;have bq1o:=Fq1o.binds (ps:=["_law_cell","_law_k"]) fun _ _ _ _ _ _ us hl=>match us,hl with|[_,_],_=>rfl
 have mq1o:=W.mg_of X G aq1o;have Fq1n:=Zax (st:=Zfm) lq1n cq1n kq1n;have bq1n:=Fq1n.binds (ps:=["_law_state_here","_law_base"]) fun _ _ _ _ _ _ us hl=>match us,hl with|[_,_],_=>rfl
 have mq1n:=W.mg_of X G aq1n;have Fq1p:=Zax (st:=Zge) lq1p cq1p kq1p;have bq1p:=Fq1p.binds (ps:=["_law_state_here","_law_some"]) fun _ _ _ _ _ _ us hl=>match us,hl with|[_,_],_=>rfl
 have mq1p:=W.mg_of X G aq1p;have Fq1r:=Zax (st:=Zmj) lq1r cq1r kq1r;have bq1r:=Fq1r.binds (ps:=["_law_state_here"]) fun _ _ _ _ _ _ us hl=>match us,hl with|[_],_=>rfl
 have mq1r:=W.mg_of X G aq1r;have Fq1f:=Zax (st:=Zdb) lq1f cq1f kq1f;have bq1f:=Fq1f.binds (ps:=["_law_state_here","_law_length"]) fun _ _ _ _ _ _ us hl=>match us,hl with|[_,_],_=>rfl
 have mq1f:=W.mg_of X G aq1f;have Fq0r:=Zax (st:=Zcf) lq0r cq0r kq0r;have bq0r:=Fq0r.binds (ps:=["_law_state_here","_law_most"]) fun _ _ _ _ _ _ us hl=>match us,hl with|[_,_],_=>rfl
 have mq0r:=W.mg_of X G aq0r;have Fq1d:=Zax (st:=Zc0) lq1d cq1d kq1d;have bq1d:=Fq1d.binds (ps:=["_law_state_here","_law_most"]) fun _ _ _ _ _ _ us hl=>match us,hl with|[_,_],_=>rfl
 have mq1d:=W.mg_of X G aq1d;have Fq1b:=Zax (st:=Zcg) lq1b cq1b kq1b;have bq1b:=Fq1b.binds (ps:=["_law_word","_law_most"]) fun _ _ _ _ _ _ us hl=>match us,hl with|[_,_],_=>rfl
 have mq1b:=W.mg_of X G aq1b;have Fq0p:=Zax (st:=Zb1) lq0p cq0p kq0p;have bq0p:=Fq0p.binds (ps:=["_law_word"]) fun _ _ _ _ _ _ us hl=>match us,hl with|[_],_=>rfl
 have mq0p:=W.mg_of X G aq0p;have Fq0l:=Zax (st:=Zbr) lq0l cq0l kq0l;have bq0l:=Fq0l.binds (ps:=["_law_word"]) fun _ _ _ _ _ _ us hl=>match us,hl with|[_],_=>rfl
 have mq0l:=W.mg_of X G aq0l;have Fq1a:=Zax (st:=Zc2) lq1a cq1a kq1a;have bq1a:=Fq1a.binds (ps:=["_law_text"]) fun _ _ _ _ _ _ us hl=>match us,hl with|[_],_=>rfl
 have mq1a:=W.mg_of X G aq1a;have Fq0y:=Zax (st:=Zc1) lq0y cq0y kq0y;have bq0y:=Fq0y.binds (ps:=["_law_text"]) fun _ _ _ _ _ _ us hl=>match us,hl with|[_],_=>rfl
 have mq0y:=W.mg_of X G aq0y;have Fq1q:=Zax (st:=Zhb) lq1q cq1q kq1q;have bq1q:=Fq1q.binds (ps:=["_law_state_here"]) fun _ _ _ _ _ _ us hl=>match us,hl with|[_],_=>rfl
 have mq1q:=W.mg_of X G aq1q;have Fq1j:=Zax (st:=Zeg) lq1j cq1j kq1j;have bq1j:=Fq1j.binds (ps:=["_law_text","_law_state_here"]) fun _ _ _ _ _ _ us hl=>match us,hl with|[_,_],_=>rfl
 have mq1j:=W.mg_of X G aq1j;have Fq1l:=Zax (st:=Zfn) lq1l cq1l kq1l;have bq1l:=Fq1l.binds (ps:=["_law_e"]) fun _ _ _ _ _ _ us hl=>match us,hl with|[_],_=>rfl
 have mq1l:=W.mg_of X G aq1l;have Fq1e:=Zax (st:=Zdq) lq1e cq1e kq1e;have bq1e:=Fq1e.binds (ps:=["_law_text","_law_which"]) fun _ _ _ _ _ _ us hl=>match us,hl with|[_,_],_=>rfl
 have mq1e:=W.mg_of X G aq1e;have Fq0v:=Zax (st:=Zcz) lq0v cq0v kq0v;have bq0v:=Fq0v.binds (ps:=["_law_text"]) fun _ _ _ _ _ _ us hl=>match us,hl with|[_],_=>rfl
 have mq0v:=W.mg_of X G aq0v;have Fq1s:=Zax (st:=Zh2) lq1s cq1s kq1s;have bq1s:=Fq1s.binds (ps:=["_law_script"]) fun _ _ _ _ _ _ us hl=>match us,hl with|[_],_=>rfl
 have Fq0o:=Zax (st:=Zb4) lq0o cq0o kq0o;have bq0o:=Fq0o.binds (ps:=["self"]) fun _ _ _ _ _ _ us hl=>match us,hl with|[_],_=>rfl
 have ic_Letter:Zst K C_Letter:=⟨ih_Letter,in_Letter,it_Letter,im_Letter⟩;have cl_Letter:Cls K C_Letter:=⟨pg_Letter,hd_Letter,po_Letter,sa_Letter⟩;have m_Letter:=W.mg_of X G aC_Letter;have Fq0q:=Zax (st:=Zci) lq0q cq0q kq0q;have bq0q:=Fq0q.binds (ps:=["self"]) fun _ _ _ _ _ _ us hl=>match us,hl with|[_],_=>rfl
 have ic_Piece:Zst K C_Piece:=⟨ih_Piece,in_Piece,it_Piece,im_Piece⟩;have cl_Piece:Cls K C_Piece:=⟨pg_Piece,hd_Piece,po_Piece,sa_Piece⟩;have m_Piece:=W.mg_of X G aC_Piece;have m_WayError:=W.mg_of X G aC_WayError;have W_WayError:Zin K C_WayError:=⟨kty_WayError,kbe_WayError⟩;have m_NoKey:=W.mg_of X G aC_NoKey;have W_NoKey:Zin K C_NoKey:=⟨kty_NoKey,kbe_NoKey⟩;have m_NoLetter:=W.mg_of X G aC_NoLetter;have W_NoLetter:Zin K C_NoLetter:=⟨kty_NoLetter,kbe_NoLetter⟩;have m_NoPiece:=W.mg_of X G aC_NoPiece;have W_NoPiece:Zin K C_NoPiece:=⟨kty_NoPiece,kbe_NoPiece⟩;have m_NoRoad:=W.mg_of X G aC_NoRoad;have W_NoRoad:Zin K C_NoRoad:=⟨kty_NoRoad,kbe_NoRoad⟩;have m_NoRoom:=W.mg_of X G aC_NoRoom;have W_NoRoom:Zin K C_NoRoom:=⟨kty_NoRoom,kbe_NoRoom⟩;have m_NoRow:=W.mg_of X G aC_NoRow;have W_NoRow:Zin K C_NoRow:=⟨kty_NoRow,kbe_NoRow⟩;have m_NoRule:=W.mg_of X G aC_NoRule;have W_NoRule:Zin K C_NoRule:=⟨kty_NoRule,kbe_NoRule⟩;have m_NoTime:=W.mg_of X G aC_NoTime;have W_NoTime:Zin K C_NoTime:=⟨kty_NoTime,kbe_NoTime⟩;have m_NoWidth:=W.mg_of X G aC_NoWidth;have W_NoWidth:Zin K C_NoWidth:=⟨kty_NoWidth,kbe_NoWidth⟩;have m_TooWide:=W.mg_of X G aC_TooWide;have W_TooWide:Zin K C_TooWide:=⟨kty_TooWide,kbe_TooWide⟩;have m_NoText:=W.mg_of X G aC_NoText;have W_NoText:Zin K C_NoText:=⟨kty_NoText,kbe_NoText⟩;have X_NoText:XC K mg "NoText" C_NoText:=⟨m_NoText,exc_NoText⟩
 have X_NoPiece:XC K mg "NoPiece" C_NoPiece:=⟨m_NoPiece,exc_NoPiece⟩
 have X_NoLetter:XC K mg "NoLetter" C_NoLetter:=⟨m_NoLetter,exc_NoLetter⟩
 have E_NoText : Zot K C_NoText := ⟨ega_NoText, egt_NoText, ecl_NoText, eob_NoText, kbe_NoText⟩;have TC : TCx K C_WayError C_NoText [C_NoKey, C_NoLetter, C_NoPiece, C_NoRoad, C_NoRoom, C_NoRow, C_NoRule, C_NoTime, C_NoWidth, C_TooWide] := ⟨E_NoText, ewy_NoText, Zr2 eve_NoText, Zdh kmr_NoText_NoText kty_NoText kbe_NoText kmr_NoText_NoText, fun c hc => by
  simp only[List.mem_cons,List.not_mem_nil,or_false]at hc;rcases hc with rfl|rfl|rfl|rfl|rfl|rfl|rfl|rfl|rfl|rfl
  ·exact Zdh kmr_NoText_NoKey kty_NoKey kbe_NoKey kmr_NoText_NoText
  ·exact Zdh kmr_NoText_NoLetter kty_NoLetter kbe_NoLetter kmr_NoText_NoText
  ·exact Zdh kmr_NoText_NoPiece kty_NoPiece kbe_NoPiece kmr_NoText_NoText
  ·exact Zdh kmr_NoText_NoRoad kty_NoRoad kbe_NoRoad kmr_NoText_NoText
  ·exact Zdh kmr_NoText_NoRoom kty_NoRoom kbe_NoRoom kmr_NoText_NoText
  ·exact Zdh kmr_NoText_NoRow kty_NoRow kbe_NoRow kmr_NoText_NoText
  ·exact Zdh kmr_NoText_NoRule kty_NoRule kbe_NoRule kmr_NoText_NoText
  ·exact Zdh kmr_NoText_NoTime kty_NoTime kbe_NoTime kmr_NoText_NoText
  ·exact Zdh kmr_NoText_NoWidth kty_NoWidth kbe_NoWidth kmr_NoText_NoText
  ·exact Zdh kmr_NoText_TooWide kty_TooWide kbe_TooWide kmr_NoText_NoText⟩
 have B5:Bt5 mg:=⟨W.mg_none_of X G z_ValueError⟩;have B:Bt mg:=⟨W.mg_none_of X G z_len,W.mg_none_of X G z_range,W.mg_none_of X G z_isinstance,W.mg_none_of X G z_all,W.mg_none_of X G z_min,W.mg_none_of X G z_max,W.mg_none_of X G z_int,W.mg_none_of X G z_bool,W.mg_none_of X G z_str,W.mg_none_of X G z_list,W.mg_none_of X G z_tuple⟩;have T:Cn mg:=⟨⟨_,W.mg_of X G q_MOST_NUMBER⟩,⟨_,W.mg_of X G q_MOST_BYTE⟩,⟨_,W.mg_of X G q_MOST_SIGNS⟩,⟨_,W.mg_of X G q_MOST_BYTES⟩,⟨_,W.mg_of X G q_MOST_FIGURES⟩,⟨_,W.mg_of X G q_STEP⟩,⟨_,W.mg_of X G q_BASE⟩,⟨_,W.mg_of X G q_WORDS_OF_A_PIECE⟩,⟨_,W.mg_of X G q_WORDS_OF_A_LETTER⟩,⟨_,W.mg_of X G q_HALVES⟩,⟨_,W.mg_of X G q_NO_SIGN⟩,⟨_,W.mg_of X G q_MORE_SIGN⟩,⟨_,W.mg_of X G q_KEEP_SIGN⟩⟩;refine⟨W.fnOf "law" "law" (Zao Zh2) (defBody Zh2) (defScope Zh2) .none kVq1s dcq1s pmq1s anq1s cdq1s ctq1s,fun s v=>.of_eq rfl,fun base kb nb=>?_⟩;have L:Zso K C_Letter:=⟨cl_Letter,n_Letter_number,n_Letter_sender,n_Letter_goal,n_Letter_body,n_Letter_keep⟩;have LP:Zpy K C_Piece:=⟨cl_Piece,n_Piece_number,n_Piece_sender,n_Piece_goal,n_Piece_at,n_Piece_body,n_Piece_more,n_Piece_keep⟩;have gq1c:FnB l.prog w K mg base "is_whole" 1 ["value"] [] (Zdy):=⟨_,_,_,Zkw Fq1c B,mq1c,kq1c,bq1c,.nil⟩
 have gq0b:FnB l.prog w K mg base "is_whole_within" 2 ["value","low","high"] [] (Zbq):=⟨_,_,_,Ze8 Fq0b gq1c,mq0b,kq0b,bq0b,.nil⟩
 have gq0u:FnB l.prog w K mg base "is_truth" 1 ["value"] [] (Zdz):=⟨_,_,_,Zkx Fq0u B,mq0u,kq0u,bq0u,.nil⟩
 have gq0t:FnB l.prog w K mg base "is_number" 3 ["value"] [] (Zd7):=⟨_,_,_,Zi8 Fq0t T gq0b,mq0t,kq0t,bq0t,.nil⟩
 have gq1i:FnB l.prog w K mg base "is_name" 1 ["value"] [] (Zff):=⟨_,_,_,Zmn Fq1i T B,mq1i,kq1i,bq1i,.nil⟩
 have gq1g:FnB l.prog w K mg base "is_byte" 3 ["value"] [] (Zfg):=⟨_,_,_,Zmo Fq1g T gq0b,mq1g,kq1g,bq1g,.nil⟩
 have gq1h:FnB l.prog w K mg base "is_body" 4 ["value"] [] (Zfh):=⟨_,_,_,Zmp Fq1h T B gq1g,mq1h,kq1h,bq1h,.nil⟩
 have gq0h:FnB l.prog w K mg base "are_figures" 1 ["word"] [] (Zdm):=⟨_,_,_,Zg6 Fq0h B T,mq0h,kq0h,bq0h,.nil⟩
 have gq0a:FnB l.prog w K mg base "are_shared_parts" 5 ["number","sender","goal","body","keep"] [] (Zbi):=⟨_,_,_,Zey Fq0a gq0t gq1i gq1h gq0u,mq0a,kq0a,bq0a,.nil⟩
 have gq0w:FnB l.prog w K mg base "is_place" 2 ["at"] [] (Zeq):=⟨_,_,_,Zky Fq0w T gq1c,mq0w,kq0w,bq0w,.nil⟩
 have gq0z:FnB l.prog w K mg base "has_room" 1 ["at","length","more"] [] (Zer):=⟨_,_,_,Zkz Fq0z T,mq0z,kq0z,bq0z,.nil⟩
 have o_Letter:FnOk l.prog w K mg base (CXp l.prog w) 6 fq0f _ ["self","number","sender","goal","body","keep"] (Zc9 C_Letter C_NoLetter):=Zgk ⟨_,_,_,_,_,_,_,_,_,_,rfl,lq0f,cq0f⟩ L B X_NoLetter gq0a;have M_Letter:Mk K C_Letter fq0f:=⟨mk_Letter,aq0f,iq0f,kc_Letter⟩;have i_Letter:CtP l.prog w K mg base "Letter" 6 (Zhq C_Letter C_NoLetter):=Zvs o_Letter m_Letter M_Letter (fun s us kx hl=>match us,hl with|[_,_,_,_,_,_],_=>Zg8 kx tq0f)
 have mq0o:MtB l.prog w K mg base C_Letter "key" 1 ["self"] [] (Zd0 C_Letter):=⟨_,_,_,Zic Fq0o L,cl_Letter,⟨aq0o,iq0o,kq0o⟩,bq0o,.nil⟩
 have o_Piece:FnOk l.prog w K mg base (CXp l.prog w) 6 fq0m _ ["self","number","sender","goal","at","body","more","keep"] (Zdn C_Piece C_NoPiece):=Zg7 ⟨_,_,_,_,_,_,_,_,_,_,rfl,lq0m,cq0m⟩ LP B X_NoPiece gq0a gq0w gq0u gq0z;have M_Piece:Mk K C_Piece fq0m:=⟨mk_Piece,aq0m,iq0m,kc_Piece⟩;have i_Piece:CtP l.prog w K mg base "Piece" 6 (Zhp C_Piece C_NoPiece):=Zvr o_Piece m_Piece M_Piece (fun s us kx hl=>match us,hl with|[_,_,_,_,_,_,_,_],_=>Zim kx tq0m)
 have mq0q:MtB l.prog w K mg base C_Piece "key" 1 ["self"] [] (Zd8 C_Piece):=⟨_,_,_,Zi9 Fq0q LP,cl_Piece,⟨aq0q,iq0q,kq0q⟩,bq0q,.nil⟩
 have gq0s:FnB l.prog w K mg base "shown_key" 1 ["key"] [] (Zdj):=⟨_,_,_,Zi5 Fq0s B,mq0s,kq0s,bq0s,.nil⟩
 have gq0d:FnB l.prog w K mg base "shown_truth" 1 ["truth","sign"] [] (Zcl):=⟨_,_,_,Zg2 Fq0d T,mq0d,kq0d,bq0d,.nil⟩
 have gq0e:FnB l.prog w K mg base "shown_bytes" 1 ["body"] [] (Zcm):=⟨_,_,_,Zg3 Fq0e T,mq0e,kq0e,bq0e,.nil⟩
 have gq1m:FnB l.prog w K mg base "shown" 2 ["piece"] [] (Zf0 C_Piece):=⟨_,_,_,Zpa Fq1m B T LP gq0s gq0d gq0e (Zpf mq0q),mq1m,kq1m,bq1m,.nil⟩
 have gq0c:FnB l.prog w K mg base "shown_letter" 2 ["letter"] [] (Zb7 C_Letter):=⟨_,_,_,Zgj Fq0c B T L gq0s gq0d gq0e (Zpg mq0o),mq0c,kq0c,bq0c,.nil⟩
 have gq0x:FnX l.prog w K mg base "words_of" 1 ["text","count"] [] (Zdt C_NoText):=⟨_,_,_,Zkq Fq0x B X_NoText,mq0x,kq0x,bq0x,.nil⟩
 have gq0g:FnX l.prog w K mg base "read_number" 2 ["word"] [] (Zcn C_NoText):=⟨_,_,_,Zg4 Fq0g B X_NoText gq0h,mq0g,kq0g,bq0g,.nil⟩
 have gq0j:FnX l.prog w K mg base "read_truth" 1 ["word","sign"] [] (Zcv C_NoText):=⟨_,_,_,Zh8 Fq0j T X_NoText,mq0j,kq0j,bq0j,.nil⟩
 have gq0k:FnX l.prog w K mg base "read_bytes" 1 ["word"] [] (Zcw C_NoText):=⟨_,_,_,Zia Fq0k B T X_NoText,mq0k,kq0k,bq0k,.nil⟩
 have v_read_piece:FvX l.prog w K mg base 8 fq0n (Zdu C_Piece C_NoText):=⟨_,_,Zh9 Fq0n T X_NoText m_NoPiece W_NoPiece kmr_NoPiece_NoPiece gq0x gq0g gq0j gq0k i_Piece,kq0n,bq0n⟩;have v_read_letter:FvX l.prog w K mg base 8 fq0i (Zdl C_Letter C_NoText):=⟨_,_,Zg5 Fq0i T X_NoText m_NoLetter W_NoLetter kmr_NoLetter_NoLetter gq0x gq0g gq0j gq0k i_Letter,kq0i,bq0i⟩;have gq1k:FnB l.prog w K mg base "_law_mixed" 1 ["_law_number"] [] (Zhr):=⟨_,_,_,Zpb Fq1k,mq1k,kq1k,bq1k,.nil⟩
 have gq1o:FnB l.prog w K mg base "_law_state" 1 ["_law_cell","_law_k"] [] (Zho):=⟨_,_,_,Zo9 Fq1o,mq1o,kq1o,bq1o,.nil⟩
 have gq1n:FnB l.prog w K mg base "_law_digit" 2 ["_law_state_here","_law_base"] [] (Zco):=⟨_,_,_,Zpc Fq1n gq1k,mq1n,kq1n,bq1n,.nil⟩
 have gq1p:FnB l.prog w K mg base "_law_name" 3 ["_law_state_here","_law_some"] [] (Zj7):=⟨_,_,_,Zrx Fq1p B gq1n,mq1p,kq1p,bq1p,.nil⟩
 have gq1r:FnB l.prog w K mg base "_law_key" 4 ["_law_state_here"] [] (Zlo):=⟨_,_,_,Zt3 Fq1r gq1n gq1p,mq1r,kq1r,bq1r,.nil⟩
 have gq1f:FnB l.prog w K mg base "_law_body" 3 ["_law_state_here","_law_length"] [] (Zee):=⟨_,_,_,Zmm Fq1f B gq1n,mq1f,kq1f,bq1f,.nil⟩
 have gq0r:FnB l.prog w K mg base "_law_letter" 8 ["_law_state_here","_law_most"] [] (Zd5 C_Letter):=⟨_,_,_,Zi6 Fq0r gq1n gq1r gq1f (Zwh i_Letter),mq0r,kq0r,bq0r,.nil⟩
 have gq1d:FnB l.prog w K mg base "_law_piece" 8 ["_law_state_here","_law_most"] [] (Zeo C_Piece):=⟨_,_,_,Zks Fq1d gq1n gq1r gq1f (Zwg i_Piece),mq1d,kq1d,bq1d,.nil⟩
 have gq1b:FnB l.prog w K mg base "_law_is_number" 1 ["_law_word","_law_most"] [] (Zdv):=⟨_,_,_,Zku Fq1b B,mq1b,kq1b,bq1b,.nil⟩
 have gq0p:FnB l.prog w K mg base "_law_is_name" 1 ["_law_word"] [] (Zd6):=⟨_,_,_,Zi7 Fq0p B,mq0p,kq0p,bq0p,.nil⟩
 have gq0l:FnB l.prog w K mg base "_law_is_bytes" 1 ["_law_word"] [] (Zdx):=⟨_,_,_,Zib Fq0l B,mq0l,kq0l,bq0l,.nil⟩
 have gq1a:FnB l.prog w K mg base "_law_is_letter" 2 ["_law_text"] [] (Zdw):=⟨_,_,_,Zkv Fq1a B gq1b gq0p gq0l,mq1a,kq1a,bq1a,.nil⟩
 have gq0y:FnB l.prog w K mg base "_law_is_piece" 3 ["_law_text"] [] (Zep):=⟨_,_,_,Zkt Fq0y B gq1b gq1a,mq0y,kq0y,bq0y,.nil⟩
 have gq1q:FnB l.prog w K mg base "_law_menu" 3 ["_law_state_here"] [] (Zj8):=⟨_,_,_,Zry Fq1q gq1n,mq1q,kq1q,bq1q,.nil⟩
 have gq1j:FnB l.prog w K mg base "_law_spoilt" 4 ["_law_text","_law_state_here"] [] (Zf9):=⟨_,_,_,Zn1 Fq1j B gq1n gq1q,mq1j,kq1j,bq1j,.nil⟩
 have gq1l:FnN l.prog w K mg base "_law_alone" 1 ["_law_e"] (Zhs C_NoText):=Zpd Fq1l B B5 TC mq1l kq1l bq1l m_NoKey m_NoLetter m_NoPiece m_NoRoad m_NoRoom m_NoRow m_NoRule m_NoTime m_NoWidth m_TooWide m_NoText
 have gq1e:FnB l.prog w K mg base "_law_read" 10 ["_law_text","_law_which"] [] (sp_lawread C_Piece C_Letter):=⟨_,_,_,Zml Fq1e B TC m_WayError W_WayError gq1l mq0n mq0i v_read_piece v_read_letter,mq1e,kq1e,bq1e,.nil⟩
 have gq0v:FnB l.prog w K mg base "_law_right" 11 ["_law_text"] [] (Zen):=⟨_,_,_,Zkr Fq0v B LP L m_Piece m_Letter ic_Piece ic_Letter gq1e gq0y gq1a gq1m gq0c,mq0v,kq0v,bq0v,.nil⟩
 exact Zt2 Fq1s B gq1o gq1n gq1d gq0r gq1m gq0c gq1j gq0v gq1e
theorem walk{l:W.OpenLaw}{q:Program}{loose:List Str}{XP:(Str->Option Value)->Heap->Prop}{YP:World->Heap->Prop}{d:DefRec}{K:Params->W.Frag}(hn:l.most=some 63)(hdf:d.params.defaults=[])
  (hY:∀ (w:World) (h:Heap),YP w h->(K w.params).In h)
  (F : ∀ (w : World) (mg : Str -> Option Value) (fa : Addr) (h : Heap), (K w.params).In h -> h.Ns mainGlobals mg -> mg d.name = some (.ref fa) ->
   ∃ fd : FuncData, (∀ (s : Shared) (u : Value), BindsTo s fd ⟨[u], []⟩ [("_law_script", u)]) /\ ∀ base : Heap, (K w.params).In base -> base.Ns mainGlobals mg -> FnOk l.prog w (K w.params) mg base CX0 12 fa fd ["_law_script"] (Zln (K w.params))) :
  W.WalkO q loose XP YP l.row.toRowW d [] (fun f vs=>PySem.call f vs):=
 L2.walk_of (n:=63) (k:=12) (x:="_law_script") (CX:=fun _=>CX0) (sp:=fun w=>Zln (K w.params)) hn (by decide) hdf ⟨rfl,by decide,by decide⟩ hY F (fun _ _ a b c _ e=>⟨a,b,rfl,e,c,fun _=>rfl⟩) fun _ _ _ _ _ z=>z
end Mine
namespace PySem.W.Fast
def tw14040558820832018048:=()
def tw10718013946845262081:=()
def tw9753383154565220023:=()
def tw17640681747224315443:=()
def tw18153804309144989373:=()
def tw10488998403324541518:=()
def tw8526205831335844904:=()
def tw7291574143863483209:=()
def tw14137637949777841310:=()
def tw9319560113381957495:=()
def tw12089259162176808008:=()
def tw9782154370654055009:=()
def tw7300496591390033930:=()
def tw6647808353337445336:=()
def tw3374459874436971784:=()
def tw17511682057494381842:=()
def tw8990467821179288241:=()
def tw12333064088828075686:=()
def tw10515776489358812723:=()
def tw7907320641749905251:=()
def tw17233363678109322127:=()
def tw13732932455180453944:=()
def tw18425648214364683061:=()
def tw2777859776624939650:=()
def tw17092143737611794485:=()
def tw7116226111770931118:=()
def tw8061530051648235888:=()
def tw5080397757907439434:=()
def tw11781780305975206220:=()
def tw15006442205461746091:=()
def tw14857804376547193023:=()
def tw11855574069002357149:=()
def tw14412367441587382156:=()
def tw11818032115569286959:=()
def tw3784696442791731198:=()
def tw13284036344602616673:=()
def tw726020901975998676:=()
def tw18210710211017110996:=()
def tw15232758203034040809:=()
def tw12074482919721814914:=()
def tw10921223197405855718:=()
def tw12686114404171728681:=()
def tw3521011389404266415:=()
def tw6176984357214673572:=()
def tw3314795803031448353:=()
def tw11932094806500197305:=()
def tw14092920864685320484:=()
def tw14855878013034660158:=()
def tw3319777235607543855:=()
def tw2750064105043243491:=()
def tw2575698457134762366:=()
def tw9069718116335640979:=()
def tw9381766056618923390:=()
def tw14133935749636792533:=()
def tw11897997314571111224:=()
def tw6612106082682686904:=()
def tw1933773394143299990:=()
def tw10475165188846025902:=()
def tw16395258195841869503:=()
def tw1021691756923981677:=()
def tw6471663101360699096:=()
def tw4735680896000448179:=()
def tw17854628781228623840:=()
def tw15265399383695744094:=()
def tw15864115242420201418:=()
def tw5376950794733412013:=()
def tw2626861617408217185:=()
def tw97521361082019511:=()
def tw18078794450572704187:=()
def tw15747377143753926447:=()
def tw4089684821729383949:=()
def tw1482292803884351408:=()
def tw3382313570537488236:=()
def tw1179320593068011367:=()
def tw3183593702269512724:=()
def tw6702506792615563105:=()
def tw10321782016415697897:=()
def tw13764868132244904383:=()
def tw11666161415512866793:=()
def tw11380207662083523591:=()
def tw9984604816704029323:=()
def tw14213416382626692445:=()
def tw8843320528472034636:=()
def tw13508750180010838694:=()
def tw127644805234979053:=()
def tw9371162509170826978:=()
def tw13681878799069852418:=()
def tw1168413721366652091:=()
def tw15629313290797432030:=()
def tw8390705251942374990:=()
def tw10014674299932959404:=()
def tw12047369910655135984:=()
def tw7979459362245851373:=()
def tw15584659308504860010:=()
def tw8449335393234030622:=()
def tw5635065911037854291:=()
def tw17418583905791521743:=()
def tw13062271828675234538:=()
def tw5682805660354530056:=()
def tw13061892211876391006:=()
def tw16685020800612085189:=()
def tw14423693053757955994:=()
def tw16358195102680200403:=()
def tw1974413447230039379:=()
def tw13300153314655822144:=()
def tw7836723523294315564:=()
def tw5210138066865508179:=()
def tw1906937159480463003:=()
def tw6849592715229346698:=()
def tw9799126470932997773:=()
def tw17427259630704884435:=()
def tw11144668613326009645:=()
def tw7352596526823570064:=()
def tw4202354834154630771:=()
def tw8754833061616475550:=()
def tw1189043392640685104:=()
def tw14015880967739487918:=()
def tw2661443446942451949:=()
def tw18232447286174448983:=()
def tw14250473528295249566:=()
def tw10685603690706744688:=()
def tw12638588190511646832:=()
def tw8555824137472192973:=()
def tw8944180093426578001:=()
def tw5210184048191502689:=()
def tw2905692199092780134:=()
def tw16965369509965126019:=()
def tw10299863174534488649:=()
def tw1898041120596229130:=()
def tw5272354657271797943:=()
def tw6996491618777754702:=()
def tw16303774075639847996:=()
def tw14692054939698966879:=()
def tw12742758683195610137:=()
def tw13064948859145334230:=()
def tw10980899161869598231:=()
def tw7708018194242745012:=()
def tw16281674286612604950:=()
def tw5771423892638958092:=()
def tw7037242087251835565:=()
def tw6438695223310615092:=()
def tw16205492479341306291:=()
def tw11637346849394088536:=()
def tw13741632930653776282:=()
def tw15229899621585403173:=()
def tw13934270775968170232:=()
def tw13532928769327518069:=()
def tw6469364711124776203:=()
def tw16509186606816306325:=()
def tw9502723086015430666:=()
def tw9054499773518173634:=()
def tw1529433929190369768:=()
def tw3825388158540386403:=()
def tw5112922825350562202:=()
def tw5002665006853070720:=()
def tw4670987258795618947:=()
def tw6125276895912179893:=()
def tw571211305194402961:=()
def tw8602015169612942448:=()
def tw17719929042404607035:=()
def tw11074927522897480966:=()
def tw7931012203946994275:=()
def tw8215932498400034662:=()
def tw6938501367513076507:=()
def tw5509614754351866167:=()
def tw12686322227000598325:=()
def tw17483983808660443521:=()
def tw4366515849634010778:=()
def tw17216756568689669397:=()
def tw6204204064753164385:=()
def tw11257294673734761322:=()
def tw15219168923894911079:=()
def tw1907054330287801355:=()
def tw3115448020470462453:=()
def tw10909462364036417829:=()
def tw10336775478360354184:=()
def tw7375863395095634058:=()
def tw11373635830461125113:=()
def tw722700641403322376:=()
def tw3004355836977838837:=()
def tw1045399525558213093:=()
def tw15384192307190818293:=()
def tw8008309019354936649:=()
def tw15616057211170992038:=()
def tw503000559425161143:=()
def tw4182088529325129793:=()
def tw5976011700710041259:=()
def tw10237873384818089451:=()
def tw11434631087903661738:=()
def tw9146407625044526636:=()
def tw15406674719344504964:=()
def tw6903384856132421863:=()
def tw13054432270726846282:=()
def tw13644873036807039901:=()
def tw1745963263158550599:=()
def tw5266625983374075449:=()
def tw2656344792401898269:=()
def tw11186111994790886332:=()
def tw6357683596006087349:=()
def tw14419592766828011779:=()
def tw8168862472944539610:=()
def tw4124969166924274871:=()
def tw156784496048754338:=()
def tw960365156205564653:=()
def tw17460056859980130227:=()
def tw6597003552496034739:=()
def tw9601382745427113246:=()
def tw2497075553856186172:=()
def tw9078583207862499853:=()
def tw7452643711552669014:=()
def tw5883920831399528796:=()
def tw3646892569783673334:=()
def tw2454504808245018762:=()
def tw519888748017360140:=()
def tw10455666256045560523:=()
def tw15216213770873692390:=()
def tw7505916490268034302:=()
def tw17426546200542656076:=()
def tw8706687631137869134:=()
def tw15071488129802751231:=()
def tw9654925332440132459:=()
def tw5179620145409236678:=()
def tw8100174222413636761:=()
def tw4501045540715014143:=()
def tw8388238706031800921:=()
def tw15988359563722645280:=()
def tw6868112308405024593:=()
def tw3060946777368368735:=()
def tw16874031821716878370:=()
def tw9756651566740005609:=()
def tw7588355770891433475:=()
def tw999012674750575846:=()
def tw6465921995578621279:=()
def tw6436647750817919564:=()
def tw17449646967331895577:=()
def tw4763494321133533540:=()
def tw639395614525384390:=()
def tw9830421291620001182:=()
def tw11998063432531010717:=()
def tw8170450889100923729:=()
def tw9807533337208385812:=()
def tw3138506094334141716:=()
def tw9430407139432445222:=()
def tw2660044462478429732:=()
def tw8659061884345485517:=()
def tw8658577421885906158:=()
def tw4367061535110268187:=()
def tw10590881822577989925:=()
def tw8754761333060757262:=()
def tw12952337981540454550:=()
def tw2816239217456088534:=()
def tw7354521041205461053:=()
def tw13244490986182181604:=()
def tw14664182487917877703:=()
def tw8101768006718885016:=()
def tw1093968593409287608:=()
def tw11975128415706488808:=()
def tw4218496505239253079:=()
def tw11628307079603047704:=()
def tw13070307789743398002:=()
def tw10411976633323724446:=()
def tw1236041326684533735:=()
def tw12126606183970236121:=()
def tw8571203664477928993:=()
def tw1555441715738404484:=()
def tw9341938647370750419:=()
def tw2971889077156861576:=()
def tw18265232086243464107:=()
def tw2075236688647859696:=()
def tw3086240692289859171:=()
def tw5526016301922777392:=()
def tw7740545157460145480:=()
def tw8210933196238125571:=()
def tw3359829513767044731:=()
def tw9382223706538812198:=()
def tw4672282882356852709:=()
def tw5303157689279942056:=()
def tw16361848529913017381:=()
def tw16970980649088530405:=()
def tw16537884046428766742:=()
def tw175329061282919713:=()
def tw819040411250052897:=()
def tw8449940330649741647:=()
def tw6416130198129881292:=()
def tw3215752866636580485:=()
def tw7912644320236844960:=()
def tw17192445521712609947:=()
def tw3510061648696748599:=()
def tw13535747162826617277:=()
def tw9930632649356595796:=()
def tw4975976048904825542:=()
def tw17013765457804038042:=()
def tw2272413580983409343:=()
def tw2175916632883634263:=()
def tw16385040757884675517:=()
def tw12020540469998045907:=()
def tw14171288095135503500:=()
def tw8067105817731171100:=()
def tw1154377664447631731:=()
def tw10056201085275585682:=()
end PySem.W.Fast
open PySem PySem.W PyProof.Rows
set_option maxRecDepth 100000 in
set_option maxHeartbeats 0 in
theorem PySem.Challenge.cw_pieceways_k52_whole_any_text_holds : PySem.Challenge.rw_pieceways_k52_whole_any_text.Holds := by
 w_on;o_law;k_head;(case hw=>w_witness2)
 k_fill
 refine Mine.walk (l:=PySem.Challenge.rw_pieceways_k52_whole_any_text) rfl rfl (fun w h Y=>PySem.W.kIn_of Y) ?F
 case F=>
  intro w mg fa h KX G hmg;refine' Mine.all_mk KX G hmg ?aq1c ?lq1c ?cq1c ?kq1c ?aq0b ?lq0b ?cq0b ?kq0b ?aq0u ?lq0u ?cq0u ?kq0u ?aq0t ?lq0t ?cq0t ?kq0t ?aq1i ?lq1i ?cq1i ?kq1i ?aq1g ?lq1g ?cq1g ?kq1g ?aq1h ?lq1h ?cq1h ?kq1h ?aq0h ?lq0h ?cq0h ?kq0h ?aq0a ?lq0a ?cq0a ?kq0a ?aq0w ?lq0w ?cq0w ?kq0w ?aq0z ?lq0z ?cq0z ?kq0z ?aq0s ?lq0s ?cq0s ?kq0s ?aq0d ?lq0d ?cq0d ?kq0d ?aq0e ?lq0e ?cq0e ?kq0e ?aq1m ?lq1m ?cq1m ?kq1m ?aq0c ?lq0c ?cq0c ?kq0c ?aq0x ?lq0x ?cq0x ?kq0x ?aq0g ?lq0g ?cq0g ?kq0g ?aq0j ?lq0j ?cq0j ?kq0j ?aq0k ?lq0k ?cq0k ?kq0k ?aq0n ?lq0n ?cq0n ?kq0n ?aq0i ?lq0i ?cq0i ?kq0i ?aq1k ?lq1k ?cq1k ?kq1k ?aq1o ?lq1o ?cq1o ?kq1o ?aq1n ?lq1n ?cq1n ?kq1n ?aq1p ?lq1p ?cq1p ?kq1p ?aq1r ?lq1r ?cq1r ?kq1r ?aq1f ?lq1f ?cq1f ?kq1f ?aq0r ?lq0r ?cq0r ?kq0r ?aq1d ?lq1d ?cq1d ?kq1d ?aq1b ?lq1b ?cq1b ?kq1b ?aq0p ?lq0p ?cq0p ?kq0p ?aq0l ?lq0l ?cq0l ?kq0l ?aq1a ?lq1a ?cq1a ?kq1a ?aq0y ?lq0y ?cq0y ?kq0y ?aq1q ?lq1q ?cq1q ?kq1q ?aq1j ?lq1j ?cq1j ?kq1j ?aq1l ?lq1l ?cq1l ?kq1l ?aq1e ?lq1e ?cq1e ?kq1e ?aq0v ?lq0v ?cq0v ?kq0v ?aq1s ?lq1s ?cq1s ?kq1s ?aC_Letter ?aq0f ?iq0f ?lq0f ?cq0f ?kq0f ?tq0f ?aq0o ?iq0o ?lq0o ?cq0o ?kq0o ?pg_Letter ?hd_Letter ?po_Letter ?sa_Letter ?mk_Letter ?kc_Letter ?n_Letter_number ?n_Letter_sender ?n_Letter_goal ?n_Letter_body ?n_Letter_keep ?ih_Letter ?in_Letter ?it_Letter ?im_Letter ?aC_Piece ?aq0m ?iq0m ?lq0m ?cq0m ?kq0m ?tq0m ?aq0q ?iq0q ?lq0q ?cq0q ?kq0q ?pg_Piece ?hd_Piece ?po_Piece ?sa_Piece ?mk_Piece ?kc_Piece ?n_Piece_number ?n_Piece_sender ?n_Piece_goal ?n_Piece_at ?n_Piece_body ?n_Piece_more ?n_Piece_keep ?ih_Piece ?in_Piece ?it_Piece ?im_Piece ?aC_WayError ?kty_WayError ?kbe_WayError ?aC_NoKey ?kty_NoKey ?kbe_NoKey ?aC_NoLetter ?kty_NoLetter ?kbe_NoLetter ?aC_NoPiece ?kty_NoPiece ?kbe_NoPiece ?aC_NoRoad ?kty_NoRoad ?kbe_NoRoad ?aC_NoRoom ?kty_NoRoom ?kbe_NoRoom ?aC_NoRow ?kty_NoRow ?kbe_NoRow ?aC_NoRule ?kty_NoRule ?kbe_NoRule ?aC_NoTime ?kty_NoTime ?kbe_NoTime ?aC_NoWidth ?kty_NoWidth ?kbe_NoWidth ?aC_TooWide ?kty_TooWide ?kbe_TooWide ?aC_NoText ?kty_NoText ?kbe_NoText ?exc_NoText ?kmr_NoText_NoText ?exc_NoPiece ?kmr_NoPiece_NoPiece ?exc_NoLetter ?kmr_NoLetter_NoLetter ?ega_NoText ?egt_NoText ?ecl_NoText ?eob_NoText ?eve_NoText ?ewy_NoText ?kmr_NoText_NoKey ?kmr_NoText_NoLetter ?kmr_NoText_NoPiece ?kmr_NoText_NoRoad ?kmr_NoText_NoRoom ?kmr_NoText_NoRow ?kmr_NoText_NoRule ?kmr_NoText_NoTime ?kmr_NoText_NoWidth ?kmr_NoText_TooWide ?z_ValueError ?q_MOST_NUMBER ?q_MOST_BYTE ?q_MOST_SIGNS ?q_MOST_BYTES ?q_MOST_FIGURES ?q_STEP ?q_BASE ?q_WORDS_OF_A_PIECE ?q_WORDS_OF_A_LETTER ?q_HALVES ?q_NO_SIGN ?q_MORE_SIGN ?q_KEEP_SIGN ?z_len ?z_range ?z_isinstance ?z_all ?z_min ?z_max ?z_int ?z_bool ?z_str ?z_list ?z_tuple
  (case aq1c=>k_is)
  (case lq1c=>k_is)
  (case cq1c=>k_is)
  (case kq1c=>k_is)
  (case aq0b=>k_is)
  (case lq0b=>k_is)
  (case cq0b=>k_is)
  (case kq0b=>k_is)
  (case aq0u=>k_is)
  (case lq0u=>k_is)
  (case cq0u=>k_is)
  (case kq0u=>k_is)
  (case aq0t=>k_is)
  (case lq0t=>k_is)
  (case cq0t=>k_is)
  (case kq0t=>k_is)
  (case aq1i=>k_is)
  (case lq1i=>k_is)
  (case cq1i=>k_is)
  (case kq1i=>k_is)
  (case aq1g=>k_is)
  (case lq1g=>k_is)
  (case cq1g=>k_is)
  (case kq1g=>k_is)
  (case aq1h=>k_is)
  (case lq1h=>k_is)
  (case cq1h=>k_is)
  (case kq1h=>k_is)
  (case aq0h=>k_is)
  (case lq0h=>k_is)
  (case cq0h=>k_is)
  (case kq0h=>k_is)
  (case aq0a=>k_is)
  (case lq0a=>k_is)
  (case cq0a=>k_is)
  (case kq0a=>k_is)
  (case aq0w=>k_is)
  (case lq0w=>k_is)
  (case cq0w=>k_is)
  (case kq0w=>k_is)
  (case aq0z=>k_is)
  (case lq0z=>k_is)
  (case cq0z=>k_is)
  (case kq0z=>k_is)
  (case aq0s=>k_is)
  (case lq0s=>k_is)
  (case cq0s=>k_is)
  (case kq0s=>k_is)
  (case aq0d=>k_is)
  (case lq0d=>k_is)
  (case cq0d=>k_is)
  (case kq0d=>k_is)
  (case aq0e=>k_is)
  (case lq0e=>k_is)
  (case cq0e=>k_is)
  (case kq0e=>k_is)
  (case aq1m=>k_is)
  (case lq1m=>k_is)
  (case cq1m=>k_is)
  (case kq1m=>k_is)
  (case aq0c=>k_is)
  (case lq0c=>k_is)
  (case cq0c=>k_is)
  (case kq0c=>k_is)
  (case aq0x=>k_is)
  (case lq0x=>k_is)
  (case cq0x=>k_is)
  (case kq0x=>k_is)
  (case aq0g=>k_is)
  (case lq0g=>k_is)
  (case cq0g=>k_is)
  (case kq0g=>k_is)
  (case aq0j=>k_is)
  (case lq0j=>k_is)
  (case cq0j=>k_is)
  (case kq0j=>k_is)
  (case aq0k=>k_is)
  (case lq0k=>k_is)
  (case cq0k=>k_is)
  (case kq0k=>k_is)
  (case aq0n=>k_is)
  (case lq0n=>k_is)
  (case cq0n=>k_is)
  (case kq0n=>k_is)
  (case aq0i=>k_is)
  (case lq0i=>k_is)
  (case cq0i=>k_is)
  (case kq0i=>k_is)
  (case aq1k=>k_is)
  (case lq1k=>k_is)
  (case cq1k=>k_is)
  (case kq1k=>k_is)
  (case aq1o=>k_is)
  (case lq1o=>k_is)
  (case cq1o=>k_is)
  (case kq1o=>k_is)
  (case aq1n=>k_is)
  (case lq1n=>k_is)
  (case cq1n=>k_is)
  (case kq1n=>k_is)
  (case aq1p=>k_is)
  (case lq1p=>k_is)
  (case cq1p=>k_is)
  (case kq1p=>k_is)
  (case aq1r=>k_is)
  (case lq1r=>k_is)
  (case cq1r=>k_is)
  (case kq1r=>k_is)
  (case aq1f=>k_is)
  (case lq1f=>k_is)
  (case cq1f=>k_is)
  (case kq1f=>k_is)
  (case aq0r=>k_is)
  (case lq0r=>k_is)
  (case cq0r=>k_is)
  (case kq0r=>k_is)
  (case aq1d=>k_is)
  (case lq1d=>k_is)
  (case cq1d=>k_is)
  (case kq1d=>k_is)
  (case aq1b=>k_is)
  (case lq1b=>k_is)
  (case cq1b=>k_is)
  (case kq1b=>k_is)
  (case aq0p=>k_is)
  (case lq0p=>k_is)
  (case cq0p=>k_is)
  (case kq0p=>k_is)
  (case aq0l=>k_is)
  (case lq0l=>k_is)
  (case cq0l=>k_is)
  (case kq0l=>k_is)
  (case aq1a=>k_is)
  (case lq1a=>k_is)
  (case cq1a=>k_is)
  (case kq1a=>k_is)
  (case aq0y=>k_is)
  (case lq0y=>k_is)
  (case cq0y=>k_is)
  (case kq0y=>k_is)
  (case aq1q=>k_is)
  (case lq1q=>k_is)
  (case cq1q=>k_is)
  (case kq1q=>k_is)
  (case aq1j=>k_is)
  (case lq1j=>k_is)
  (case cq1j=>k_is)
  (case kq1j=>k_is)
  (case aq1l=>k_is)
  (case lq1l=>k_is)
  (case cq1l=>k_is)
  (case kq1l=>k_is)
  (case aq1e=>k_is)
  (case lq1e=>k_is)
  (case cq1e=>k_is)
  (case kq1e=>k_is)
  (case aq0v=>k_is)
  (case lq0v=>k_is)
  (case cq0v=>k_is)
  (case kq0v=>k_is)
  (case aq1s=>k_is)
  (case lq1s=>k_is)
  (case cq1s=>k_is)
  (case kq1s=>k_is)
  (case aC_Letter=>k_is)
  (case aq0f=>k_is)
  (case iq0f=>k_is)
  (case lq0f=>k_is)
  (case cq0f=>k_is)
  (case kq0f=>k_is)
  (case tq0f=>k_is)
  (case aq0o=>k_is)
  (case iq0o=>k_is)
  (case lq0o=>k_is)
  (case cq0o=>k_is)
  (case kq0o=>k_is)
  (case pg_Letter=>k_is)
  (case hd_Letter=>k_is)
  (case po_Letter=>k_is)
  (case sa_Letter=>k_is)
  (case mk_Letter=>k_is)
  (case kc_Letter=>k_is)
  (case n_Letter_number=>k_is)
  (case n_Letter_sender=>k_is)
  (case n_Letter_goal=>k_is)
  (case n_Letter_body=>k_is)
  (case n_Letter_keep=>k_is)
  (case ih_Letter=>k_is)
  (case in_Letter=>k_is)
  (case it_Letter=>k_is)
  (case im_Letter=>k_is)
  (case aC_Piece=>k_is)
  (case aq0m=>k_is)
  (case iq0m=>k_is)
  (case lq0m=>k_is)
  (case cq0m=>k_is)
  (case kq0m=>k_is)
  (case tq0m=>k_is)
  (case aq0q=>k_is)
  (case iq0q=>k_is)
  (case lq0q=>k_is)
  (case cq0q=>k_is)
  (case kq0q=>k_is)
  (case pg_Piece=>k_is)
  (case hd_Piece=>k_is)
  (case po_Piece=>k_is)
  (case sa_Piece=>k_is)
  (case mk_Piece=>k_is)
  (case kc_Piece=>k_is)
  (case n_Piece_number=>k_is)
  (case n_Piece_sender=>k_is)
  (case n_Piece_goal=>k_is)
  (case n_Piece_at=>k_is)
  (case n_Piece_body=>k_is)
  (case n_Piece_more=>k_is)
  (case n_Piece_keep=>k_is)
  (case ih_Piece=>k_is)
  (case in_Piece=>k_is)
  (case it_Piece=>k_is)
  (case im_Piece=>k_is)
  (case aC_WayError=>k_is)
  (case kty_WayError=>k_is)
  (case kbe_WayError=>k_is)
  (case aC_NoKey=>k_is)
  (case kty_NoKey=>k_is)
  (case kbe_NoKey=>k_is)
  (case aC_NoLetter=>k_is)
  (case kty_NoLetter=>k_is)
  (case kbe_NoLetter=>k_is)
  (case aC_NoPiece=>k_is)
  (case kty_NoPiece=>k_is)
  (case kbe_NoPiece=>k_is)
  (case aC_NoRoad=>k_is)
  (case kty_NoRoad=>k_is)
  (case kbe_NoRoad=>k_is)
  (case aC_NoRoom=>k_is)
  (case kty_NoRoom=>k_is)
  (case kbe_NoRoom=>k_is)
  (case aC_NoRow=>k_is)
  (case kty_NoRow=>k_is)
  (case kbe_NoRow=>k_is)
  (case aC_NoRule=>k_is)
  (case kty_NoRule=>k_is)
  (case kbe_NoRule=>k_is)
  (case aC_NoTime=>k_is)
  (case kty_NoTime=>k_is)
  (case kbe_NoTime=>k_is)
  (case aC_NoWidth=>k_is)
  (case kty_NoWidth=>k_is)
  (case kbe_NoWidth=>k_is)
  (case aC_TooWide=>k_is)
  (case kty_TooWide=>k_is)
  (case kbe_TooWide=>k_is)
  (case aC_NoText=>k_is)
  (case kty_NoText=>k_is)
  (case kbe_NoText=>k_is)
  (case exc_NoText=>k_exc)
  (case kmr_NoText_NoText=>k_is)
  (case exc_NoPiece=>k_exc)
  (case kmr_NoPiece_NoPiece=>k_is)
  (case exc_NoLetter=>k_exc)
  (case kmr_NoLetter_NoLetter=>k_is)
  (case ega_NoText=>k_is)
  (case egt_NoText=>k_is)
  (case ecl_NoText=>k_is)
  (case eob_NoText=>k_is)
  (case eve_NoText=>k_is)
  (case ewy_NoText=>k_is)
  (case kmr_NoText_NoKey=>k_is)
  (case kmr_NoText_NoLetter=>k_is)
  (case kmr_NoText_NoPiece=>k_is)
  (case kmr_NoText_NoRoad=>k_is)
  (case kmr_NoText_NoRoom=>k_is)
  (case kmr_NoText_NoRow=>k_is)
  (case kmr_NoText_NoRule=>k_is)
  (case kmr_NoText_NoTime=>k_is)
  (case kmr_NoText_NoWidth=>k_is)
  (case kmr_NoText_TooWide=>k_is)
  (case z_ValueError=>k_is)
  (case q_MOST_NUMBER=>k_is)
  (case q_MOST_BYTE=>k_is)
  (case q_MOST_SIGNS=>k_is)
  (case q_MOST_BYTES=>k_is)
  (case q_MOST_FIGURES=>k_is)
  (case q_STEP=>k_is)
  (case q_BASE=>k_is)
  (case q_WORDS_OF_A_PIECE=>k_is)
  (case q_WORDS_OF_A_LETTER=>k_is)
  (case q_HALVES=>k_is)
  (case q_NO_SIGN=>k_is)
  (case q_MORE_SIGN=>k_is)
  (case q_KEEP_SIGN=>k_is)
  (case z_len=>k_is)
  (case z_range=>k_is)
  (case z_isinstance=>k_is)
  (case z_all=>k_is)
  (case z_min=>k_is)
  (case z_max=>k_is)
  (case z_int=>k_is)
  (case z_bool=>k_is)
  (case z_str=>k_is)
  (case z_list=>k_is)
  (case z_tuple=>k_is)
