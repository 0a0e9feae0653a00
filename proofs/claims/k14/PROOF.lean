import PyProof.Rows.All
import Wide.All
import OpenK.AllK
import Wide.FinOn
import Lean
import PyProof.EqAt
import PyProof.EqKinds
import PyProof.TupleCall
import OpenK.KOwn
import KE.KIsAll
import KE.KLam
import PySem.Challenge.RW_pieceways_k14_roads_refused
set_option Elab.async false
set_option linter.all false
set_option maxRecDepth 100000
noncomputable section
namespace L2
open PySem PySem.Spec PyProof.Rows
abbrev Key := Sum Int Str
def Zq2 : Key -> Value -> Bool
 | .inl k, v => Value.isInt k v
 | .inr x, v => Value.isStrOf x v
def Ztf (w : World) : Key -> Int
 | .inl k => hashInt k
 | .inr x => hashStr w x
theorem Zbk : ∀ {k : Key} {v : Value}, Zq2 k v = true -> (∃ i t, k = Sum.inl i /\ v = Value.int i t) \/ (∃ x t, k = Sum.inr x /\ v = Value.str x t)
 | .inl i, v, h => by
  obtain ⟨t, e⟩ := Value.isInt_shape (k := i) (v := v) h;exact .inl ⟨i, t, rfl, e⟩
 | .inr x, v, h => by
  obtain ⟨t, e⟩ := Value.isStrOf_shape (x := x) (v := v) h;exact .inr ⟨x, t, rfl, e⟩
theorem Zq1 (a b : Int) : decide ((Sum.inl a : Key) = Sum.inl b) = (a == b) := by
 by_cases e : a = b
 ·subst e; simp
 ·have h : ¬ (Sum.inl a : Key) = Sum.inl b := fun q => e (Sum.inl.inj q)
  rw [decide_eq_false h];exact (beq_eq_false_iff_ne.mpr e).symm
theorem Zqy (a b : Str) : decide ((Sum.inr a : Key) = Sum.inr b) = decide (a = b) := by
 by_cases e : a = b
 ·subst e; simp
 ·have h : ¬ (Sum.inr a : Key) = Sum.inr b := fun q => e (Sum.inr.inj q)
  rw [decide_eq_false h, decide_eq_false e]
theorem Zq0 (a : Int) (b : Str) : decide ((Sum.inl a : Key) = Sum.inr b) = false := decide_eq_false (fun q => nomatch q)
theorem Zqz (a : Str) (b : Int) : decide ((Sum.inr a : Key) = Sum.inl b) = false := decide_eq_false (fun q => nomatch q)
def mixKind (prog : Program) (w : World) : PySem.KeyKind prog w Key where
 is := Zq2
 hash := Ztf w
 inj := fun v a b ha hb => by
  rcases Zbk ha with ⟨i, t, rfl, rfl⟩ | ⟨x, t, rfl, rfl⟩
  ·rcases Zbk hb with ⟨j, u, rfl, e⟩ | ⟨y, u, rfl, e⟩
   ·injection e with e1 _; rw [e1]
   ·exact nomatch e
  ·rcases Zbk hb with ⟨j, u, rfl, e⟩ | ⟨y, u, rfl, e⟩
   ·exact nomatch e
   ·injection e with e1 _; rw [e1]
 byValue := fun k v h => by
  rcases Zbk h with ⟨i, t, rfl, rfl⟩ | ⟨x, t, rfl, rfl⟩ <;> rfl
 pyHash := fun hv h => by
  rcases Zbk hv with ⟨i, t, rfl, rfl⟩ | ⟨x, t, rfl, rfl⟩
  ·exact wpAny_pyHash_int h
  ·exact wpAny_pyHash_str h
 eqBool := fun hu hv h => by
  rcases Zbk hu with ⟨i, t, rfl, rfl⟩ | ⟨x, t, rfl, rfl⟩
  ·rcases Zbk hv with ⟨j, u, rfl, rfl⟩ | ⟨y, u, rfl, rfl⟩
   ·rw [Zq1] at h; exact wpAny_eqBool_int h
   ·rw [Zq0] at h; exact SeqAt.EqAt.int_str i t y u _ _ _ _ h
  ·rcases Zbk hv with ⟨j, u, rfl, rfl⟩ | ⟨y, u, rfl, rfl⟩
   ·rw [Zqz] at h; exact SeqAt.EqAt.str_int x t j u _ _ _ _ h
   ·rw [Zqy] at h; exact wpAny_eqBool_str h
 «strs» := fun k x t v h => by
  rcases Zbk h with ⟨i, u, rfl, e⟩ | ⟨y, u, rfl, e⟩
  ·exact nomatch e
  ·injection e with e1 _;subst e1;cases v <;> rfl
end L2
namespace L2
open PySem PySem.Spec PyProof.Rows
inductive V where
 | non | bl (b : Bool) | int (i : Int) | str (x : Str) | byt (b : Array UInt8) | flt (b : UInt64) | ref (a : Addr) | ty (n : String)
 deriving DecidableEq
def RelV : V -> Value -> Prop
 | .non, u => u = Value.none
 | .bl b, u => u = Value.bool b
 | .int i, u => ∃ t, u = Value.int i t
 | .str x, u => ∃ t, u = Value.str x t
 | .byt b, u => ∃ t, u = Value.bytes b t
 | .flt b, u => ∃ t, u = Value.float b t
 | .ref a, u => u = Value.ref a
 | .ty n, u => u = Value.type n
abbrev Vals : List V -> List Value -> Prop := Paired RelV
theorem Vals.length {xs : List V} {us : List Value} (r : Vals xs us) : xs.length = us.length := Paired.length r
theorem Vals.get : ∀ {xs : List V} {us : List Value} {i : Nat} {x : V}, Vals xs us -> xs[i]? = some x -> ∃ u, us[i]? = some u /\ RelV x u
 | _, _, _, _, .nil, e => by simp at e
 | _, _, 0, _, .cons r _, e => by simp at e; subst e; exact ⟨_, rfl, r⟩
 | _, _, i + 1, x, .cons _ t, e => by
  obtain ⟨u, h1, h2⟩ := Vals.get (i := i) (x := x) t (by simpa using e);exact ⟨u, by simpa using h1, h2⟩
theorem Vals.set {x : V} {u : Value} (r : RelV x u) : ∀ {xs : List V} {us : List Value} (i : Nat), Vals xs us -> Vals (xs.set i x) (us.set i u)
 | _, _, _, .nil => .nil
 | _, _, 0, .cons _ t => .cons r t
 | _, _, i + 1, .cons q t => .cons q (Vals.set r i t)
theorem Vals.append : ∀ {xs ys : List V} {us ws : List Value}, Vals xs us -> Vals ys ws -> Vals (xs ++ ys) (us ++ ws)
 | _, _, _, _, .nil, s => s
 | _, _, _, _, .cons r t, s => .cons r (Vals.append t s)
theorem Vals.take : ∀ {xs : List V} {us : List Value} (n : Nat), Vals xs us -> Vals (xs.take n) (us.take n)
 | _, _, 0, _ => .nil
 | _, _, _ + 1, .nil => .nil
 | _, _, n + 1, .cons r t => .cons r (Vals.take n t)
theorem Vals.drop : ∀ {xs : List V} {us : List Value} (n : Nat), Vals xs us -> Vals (xs.drop n) (us.drop n)
 | _, _, 0, r => r
 | _, _, _ + 1, .nil => .nil
 | _, _, n + 1, .cons _ t => Vals.drop n t
def RelO : Option V -> Option Value -> Prop
 | some v, some u => RelV v u
 | none, none => True
 | _, _ => False
def KV {κ : Type} : List (κ × V) -> List (κ × Value) -> Prop := Paired fun (p : κ × V) (q : κ × Value) => p.1 = q.1 /\ RelV p.2 q.2
def kV : Key -> V
 | .inl i => .int i
 | .inr x => .str x
inductive HO where
 | lst (xs : List V)
 | tup (xs : List V)
 | dK (kvs : List (Key × V)) | dT (kvs : List (List Key × V))
 | set (S : Int -> Bool) (n : Nat)
 | ins (C dx : Addr) (fs : List (Str × V))
 | own (x : Addr)
 | xd (fs : List (Str × V))
 | met (f x : Addr)
 | rng (lo hi : Int)
 | frz (o : Obj) (u : HO)
 | tbl (ps : Array Value)
 | ext (φ : Heap -> Prop)
abbrev Hp := Addr -> Option HO
def upd (H : Hp) (a : Addr) (o : HO) : Hp := fun b => if b = a then some o else H b
theorem Zah {H : Hp} {a : Addr} {o : HO} : upd H a o a = some o := by unfold upd; rw [if_pos rfl]
theorem Zal {H : Hp} {a b : Addr} {o : HO} (h : b ≠ a) : upd H a o b = H b := by unfold upd; rw [if_neg h]
theorem Zqu {H : Hp} {a b : Addr} {o u : HO} (h : H a = some o) (h' : H b = some u) (d : o ≠ u) : a ≠ b := by
 intro e; subst e; rw [h] at h'; exact d (Option.some.inj h')
theorem Zax {H : Hp} {a b : Addr} {o : HO} (h : H a = some o) (h' : H b = none) : a ≠ b := by
 intro e; subst e; rw [h] at h'; cases h'
section
variable (P : Program) (w : World)
def ObjOk (H : Hp) (h : Heap) (a : Addr) : HO -> Prop
 | .lst xs => xs.length <= sizeLine /\ ∃ (its : List Value) (n : Nat), Vals xs its /\ h.get? a = some { cls := .type "list", data := .seq its.toArray n }
 | .tup xs => xs.length <= sizeLine /\ ∃ its : List Value, Vals xs its /\ IsTup h a its.toArray
 | .dK kvs => kvs.length <= sizeLine /\ (a == sysModules) = false /\ ∃ vs, KV kvs vs /\ h.DictOf (mixKind P w) a vs
 | .dT kvs => kvs.length <= sizeLine /\ (a == sysModules) = false /\ ∃ xs : List (List Key × Addr × Value),
   Paired (fun (p : List Key × V) (q : List Key × Addr × Value) => p.1 = q.1 /\ H q.2.1 = some (.tup (p.1.map kV)) /\ RelV p.2 q.2.2) kvs xs /\
   ∃ o es ep, h.get? a = some o /\ o.ExactDict /\ o.data = .dict es ep /\ es.toList = xs.map (entryOfKey (tupleKind (mixKind P w))) /\ (xs.map (·.1)).Nodup
 | .set S n => h.SetOf (intKind P w) a S n
 | .ins C dx fs => H dx = some (.own a) /\ fs.length <= 1000 /\ dx ≠ a /\ h.get? a = some (PySem.W.instObj C dx) /\
   ∃ mA, h.Ns1 dx mA /\ (∀ f, RelO (fs.lookup f) (mA f)) /\ PySem.Within mA (fs.map (·.1))
 | .own _ => ∃ o, h.get? a = some o
 | .xd fs => ∃ mA, h.Ns1 a mA /\ ∀ f, RelO (fs.lookup f) (mA f)
 | .rng lo hi => ∃ t u v, h.get? a = some { cls := .type "range", data := .fields #[.int lo t, .int hi u, .int 1 v] }
 | .frz o u => h.get? a = some o /\ ObjOk H h a u
 | .tbl ps => h.get? a = some { cls := .none, data := .fields ps }
 | .met f x => h.get? a = some (PySem.W.methodObj (.ref f) (.ref x))
 | .ext φ => φ h /\ (∃ o, h.get? a = some o) /\ ∀ h1 h2 : Heap, φ h1 -> (∀ o, h1.get? a = some o -> h2.get? a = some o) -> φ h2
def HOk (H : Hp) (h : Heap) : Prop := ∀ a o, H a = some o -> ObjOk P w H h a o
end
section
variable {P : Program} {w : World} {H H' : Hp} {h h' : Heap} {a : Addr} {o : HO}
theorem ObjOk.lt (x : ObjOk P w H h a o) : a < h.objs.size := by
 cases o with
 | lst xs => obtain ⟨_, _, _, _, e⟩ := x; exact Heap.lt_size e
 | tup xs => obtain ⟨_, _, _, p⟩ := x; exact p.lt
 | dK kvs => obtain ⟨_, _, _, _, o, _, _, e, _⟩ := x; exact Heap.lt_size e
 | dT kvs => obtain ⟨_, _, _, _, o, _, _, e, _⟩ := x; exact Heap.lt_size e
 | set S n => obtain ⟨o, _, _, _, e, _⟩ := x; exact Heap.lt_size e
 | ins C dx fs => obtain ⟨_, _, _, e, _⟩ := x; exact Heap.lt_size e
 | own y => obtain ⟨_, e⟩ := x; exact Heap.lt_size e
 | xd fs => obtain ⟨_, ⟨_, _, _, e, _⟩, _⟩ := x; exact Heap.lt_size e
 | rng lo hi => obtain ⟨_, _, _, e⟩ := x; exact Heap.lt_size e
 | frz ob u => obtain ⟨e, _⟩ := x; exact Heap.lt_size e
 | tbl ps => exact Heap.lt_size (show h.get? a = some _ from x)
 | met f y => exact Heap.lt_size (show h.get? a = some _ from x)
 | ext φ => obtain ⟨_, ⟨_, e⟩, _⟩ := x; exact Heap.lt_size e
theorem Paired.mapP {α β : Type} {F G : α -> β -> Prop} : ∀ {l₁ : List α} {l₂ : List β}, Paired F l₁ l₂ -> (∀ a b, F a b -> G a b) -> Paired G l₁ l₂
 | _, _, .nil, _ => .nil
 | _, _, .cons r t, f => .cons (f _ _ r) (Paired.mapP t f)
theorem ObjOk.stay (x : ObjOk P w H h a o) (k : ∀ b u, (b = a \/ H b = some (.own a)) -> h.get? b = some u -> h'.get? b = some u)
  (ho : ∀ b, H b = some (.own a) -> H' b = some (.own a)) (ht : ∀ b xs, H b = some (.tup xs) -> H' b = some (.tup xs)) : ObjOk P w H' h' a o := by
 induction o with
 | lst xs => obtain ⟨z, its, n, r, e⟩ := x; exact ⟨z, its, n, r, k _ _ (.inl rfl) e⟩
 | tup xs => obtain ⟨z, its, r, ob, e, c⟩ := x; exact ⟨z, its, r, ob, k _ _ (.inl rfl) e, c⟩
 | dK kvs => obtain ⟨z, y, vs, r, ob, es, ep, e, c⟩ := x; exact ⟨z, y, vs, r, ob, es, ep, k _ _ (.inl rfl) e, c⟩
 | dT kvs =>
  obtain ⟨z, y, xs, r, ob, es, ep, e, c⟩ := x;exact ⟨z, y, xs, Paired.mapP r fun p q z => ⟨z.1, ht _ _ z.2.1, z.2.2⟩, ob, es, ep, k _ _ (.inl rfl) e, c⟩
 | set S n => obtain ⟨ob, es, ep, t, e, c⟩ := x; exact ⟨ob, es, ep, t, k _ _ (.inl rfl) e, c⟩
 | ins C dx fs =>
  obtain ⟨d, z, ne, e, mA, ⟨od, es, ep, e2, c⟩, r⟩ := x;exact ⟨ho _ d, z, ne, k _ _ (.inl rfl) e, mA, ⟨od, es, ep, k _ _ (.inr d) e2, c⟩, r⟩
 | own y => obtain ⟨ob, e⟩ := x; exact ⟨ob, k _ _ (.inl rfl) e⟩
 | xd fs => obtain ⟨mA, ⟨od, es, ep, e, c⟩, r⟩ := x; exact ⟨mA, ⟨od, es, ep, k _ _ (.inl rfl) e, c⟩, r⟩
 | rng lo hi => obtain ⟨t, u, v, e⟩ := x; exact ⟨t, u, v, k _ _ (.inl rfl) e⟩
 | frz ob u ih => obtain ⟨e, q⟩ := x; exact ⟨k _ _ (.inl rfl) e, ih q⟩
 | tbl ps =>
  have e : h.get? a = some { cls := .none, data := .fields ps } := x;show h'.get? a = some { cls := .none, data := .fields ps };exact k a _ (.inl rfl) e
 | met f y =>
  have e : h.get? a = some (PySem.W.methodObj (.ref f) (.ref y)) := x;show h'.get? a = some (PySem.W.methodObj (.ref f) (.ref y));exact k a _ (.inl rfl) e
 | ext φ => obtain ⟨p, ⟨o, e⟩, st⟩ := x; exact ⟨st _ _ p fun o q => k _ _ (.inl rfl) q, ⟨o, k _ _ (.inl rfl) e⟩, st⟩
theorem HOk.lt (x : HOk P w H h) (e : H a = some o) : a < h.objs.size := (x a o e).lt
theorem HOk.fresh (x : HOk P w H h) (e : h.objs.size <= a) : H a = none := by
 cases q : H a with
 | none => rfl
 | some u => exact absurd (Nat.lt_of_lt_of_le (x.lt q) e) (Nat.lt_irrefl _)
theorem HOk.kept (x : HOk P w H h) (k : ∀ b u, h.get? b = some u -> h'.get? b = some u) : HOk P w H h' := fun a o e =>
 (x a o e).stay (fun b u _ q => k b u q) (fun _ q => q) fun _ _ q => q
theorem HOk.laid (x : HOk P w H h) (k : ∀ b u, h.get? b = some u -> h'.get? b = some u) (hp : h.objs.size <= a) (new : ObjOk P w (upd H a o) h' a o) : HOk P w (upd H a o) h' := fun b u e => by
 have hn := x.fresh hp
 by_cases hb : b = a
 ·subst hb; rw [Zah] at e; cases e; exact new
 ·rw [Zal hb] at e;exact (x b u e).stay (fun c v _ q => k c v q) (fun c q => by rw [Zal (Zax q hn)]; exact q) fun c xs q => by rw [Zal (Zax q hn)]; exact q
end
def Rd (H : Hp) (a : Addr) (u : HO) : Prop := H a = some u \/ ∃ o, H a = some (.frz o u)
theorem Rd.ok {P : Program} {w : World} {H : Hp} {h : Heap} {a : Addr} {u : HO} (r : Rd H a u) (x : HOk P w H h) : ObjOk P w H h a u := by
 rcases r with r | ⟨o, r⟩
 ·exact x a u r
 ·obtain ⟨_, q⟩ := x a _ r;exact q
def Mut : Option HO -> Prop
 | some (.lst _) => True
 | some (.dK _) => True
 | some (.dT _) => True
 | some (.set _ _) => True
 | some (.ins _ _ _) => True
 | some (.ext _) => True
 | _ => False
section
variable {P : Program} {w : World} {H : Hp} {h h' : Heap} {x e : Addr} {o' : HO}
theorem HOk.write (ok : HOk P w H h) (mu : Mut (H x)) (he : e = x \/ H e = some (.own x)) (k : ∀ b u, b ≠ e -> h.get? b = some u -> h'.get? b = some u) (heo : ∃ u, h'.get? e = some u)
  (new : ObjOk P w (upd H x o') h' x o') : HOk P w (upd H x o') h' := fun b u q => by
 have nown : ∀ c y, H c = some (.own y) -> c ≠ x := fun c y r z => by subst z; rw [r] at mu; exact mu
 have ntup : ∀ c xs, H c = some (.tup xs) -> c ≠ x := fun c xs r z => by subst z; rw [r] at mu; exact mu
 by_cases hb : b = x
 ·subst hb; rw [Zah] at q; cases q; exact new
 ·rw [Zal hb] at q
  by_cases hbe : b = e
  ·have q' : H b = some (.own x) := by
    rcases he with z | z
    ·exact absurd (hbe.trans z) hb
    ·rw [hbe]; exact z
   rw [q] at q'; cases q';obtain ⟨v, hv⟩ := heo;exact ⟨v, by rw [hbe]; exact hv⟩
  ·refine (ok b u q).stay (fun c v hc r => k c v ?_ r) (fun c r => by rw [Zal (nown c b r)]; exact r) fun c xs r => by rw [Zal (ntup c xs r)]; exact r
   rcases hc with rfl | hc
   ·exact hbe
   ·rintro rfl;rcases he with z | z
    ·exact nown c b hc z
    ·rw [hc] at z; cases z; exact hb rfl
end
structure Un (fs ex : List Addr) (H H' : Hp) (h h' : Heap) : Prop where
 keep : ∀ b o, h.get? b = some o -> H b = none -> b ∉ fs -> b ∉ ex -> h'.get? b = some o
 slot : ∀ b o, h.get? b = some o -> H b = none -> b ∈ fs -> b ∉ ex -> ∃ sl, h'.get? b = some { o with slots := sl }
 free : ∀ b o, h.get? b = some o -> H b = none -> b ∉ ex -> H' b = none
 there : ∀ b o, h.get? b = some o -> b ∉ ex -> ∃ o', h'.get? b = some o'
 tups : ∀ b xs, H b = some (.tup xs) -> H' b = some (.tup xs)
 frzs : ∀ b o u, H b = some (.frz o u) -> H' b = some (.frz o u)
 tbls : ∀ b ps, H b = some (.tbl ps) -> ∃ more, H' b = some (.tbl (ps ++ more))
section
variable {fs fs' ex ex' : List Addr} {H H1 H2 : Hp} {h h1 h2 h' : Heap} {a x e : Addr} {o : HO}
theorem Un.any (u : Un fs ex H H1 h h1) {b : Addr} {ob : Obj} (q : h.get? b = some ob) (n : H b = none) (hx : b ∉ ex) : ∃ sl, h1.get? b = some { ob with slots := sl } := by
 by_cases hb : b ∈ fs
 ·exact u.slot b ob q n hb hx
 ·exact ⟨ob.slots, u.keep b ob q n hb hx⟩
theorem Un.kept (k : ∀ b u, h.get? b = some u -> h'.get? b = some u) : Un fs ex H H h h' :=
 ⟨fun b ob q _ _ _ => k b ob q, fun b ob q _ _ _ => ⟨ob.slots, k b ob q⟩, fun _ _ _ n _ => n, fun b ob q _ => ⟨ob, k b ob q⟩, fun _ _ q => q, fun _ _ _ q => q, fun _ ps q => ⟨#[], by rw [q]; simp⟩⟩
theorem Un.refl : Un fs ex H H h h := Un.kept fun _ _ q => q
theorem Un.laid (k : ∀ b u, h.get? b = some u -> h'.get? b = some u) (hp : h.objs.size <= a) (hn : H a = none) : Un fs ex H (upd H a o) h h' where
 keep := fun b u q _ _ _ => k b u q
 slot := fun b u q _ _ _ => ⟨u.slots, k b u q⟩
 free := fun b u q n _ => by rw [Zal (Nat.ne_of_lt (Nat.lt_of_lt_of_le (Heap.lt_size q) hp))]; exact n
 there := fun b u q _ => ⟨u, k b u q⟩
 tups := fun b xs q => by rw [Zal (Zax q hn)]; exact q
 frzs := fun b u xs q => by rw [Zal (Zax q hn)]; exact q
 tbls := fun b ps q => ⟨#[], by rw [Zal (Zax q hn), q]; simp⟩
theorem Un.write (mu : Mut (H x)) (he : e = x \/ H e = some (.own x)) (k : ∀ b u, b ≠ e -> h.get? b = some u -> h'.get? b = some u) (heo : ∃ u, h'.get? e = some u) : Un fs ex H (upd H x o) h h' := by
 have hx : ∀ b, H b = none -> b ≠ x := fun b n z => by subst z; rw [n] at mu; exact mu
 have hb : ∀ b, H b = none -> b ≠ e := fun b n z => by
  subst z;rcases he with r | r
  ·exact hx b n r
  ·rw [n] at r; cases r
 have hm : ∀ b u, H b = some u -> ¬ Mut (some u) -> b ≠ x := fun b u q nm z => by subst z; rw [q] at mu; exact nm mu
 refine ⟨fun b u q n _ _ => k b u (hb b n) q, fun b u q n _ _ => ⟨u.slots, k b u (hb b n) q⟩, fun b u q n _ => by rw [Zal (hx b n)]; exact n, fun b u q _ => ?_,
  fun b xs q => by rw [Zal (hm b _ q fun z => z)]; exact q, fun b u xs q => by rw [Zal (hm b _ q fun z => z)]; exact q, fun b ps q => ⟨#[], by rw [Zal (hm b _ q fun z => z), q]; simp⟩⟩
 by_cases hbe : b = e
 ·subst hbe; exact heo
 ·exact ⟨u, k b u hbe q⟩
end
def trk (h : Heap) (H : Hp) : List Addr := (List.range h.objs.size).filter fun a => (H a).isSome
def hidT (h : Heap) (H : Hp) : Heap := PySem.W.hideAll h (trk h H)
theorem Zlu (h : Heap) (H : Hp) : (hidT h H).objs.size = h.objs.size := PySem.W.hideAll_size _ _
theorem Zm6 {h : Heap} {H : Hp} {b : Addr} {o : Obj} (e : h.get? b = some o) (n : H b = none) : (hidT h H).get? b = some o :=
 PySem.W.hideAll_get _ e fun hm => by
  have q : (H b).isSome = true := (List.mem_filter.mp hm).2;rw [n] at q; simp at q
theorem Zot {h : Heap} {H : Hp} {b : Addr} {o : Obj} (e : (hidT h H).get? b = some o) : h.get? b = some o /\ H b = none := by
 have e' : h.get? b = some o := PySem.W.of_hideAll (trk h H) e;refine ⟨e', ?_⟩;cases q : H b with
 | none => rfl
 | some x =>
  have hm : b ∈ trk h H := List.mem_filter.mpr ⟨List.mem_range.mpr (Heap.lt_size e'), by simp [q]⟩;have z : (hidT h H).get? b = none := PySem.W.hideAll_none (trk h H) hm;rw [z] at e; cases e
def Zo7 (g h : Heap) (L : Addr) : List (Addr × Obj) := (List.range h.objs.size).filterMap fun a => if a = L \/ (g.get? a).isSome = true then none else (h.get? a).map fun o => (a, o)
def rest (g h : Heap) (L d : Addr) : List (Addr × Obj) := (Zo7 g h L).filter fun p => decide (p.1 ≠ d)
end L2
namespace L2
open PySem PySem.Spec PyProof.Rows
structure Mod (K : PySem.W.Frag) (mg : Str -> Option Value) (base : Heap) : Prop where
 kin : K.In base
 glob : base.Ns mainGlobals mg
 blt : ∃ mb, base.Ns builtinsNs mb /\ ∀ x : Str, x ≠ "__name__" -> mb x = bootBuiltins x
 nolimit : base.NoLimit
structure Cx where
 prog : Program
 w : World
 K : PySem.W.Frag
 mg : Str -> Option Value
 base : Heap
 A : Around
 N : List Str
 s₀ : Shared
 H₀ : Hp
 env : Env
 outer : List Env
 stack : List Env
 ex : List Addr
 fn : Str -> Bool
 calm : Bool
 pn : List (Addr × Obj)
 xe : Value -> Shared -> Prop
def frs (l : List Env) : List Addr := l.filterMap (·.frame)
abbrev Cx.fs (X : Cx) : List Addr := frs X.outer
def Vis (sc : Scope) (x : Str) : Prop := sc.names.lookup x = some .local \/ sc.names.lookup x = some .cell \/ sc.names.lookup x = some .free
def Loc (sc : Scope) (x : Str) : Prop := sc.names.lookup x = some .local \/ sc.names.lookup x = some .cell
def Look (env : Env) (h : Heap) (m : Str -> Option Value) (x : Str) (u : Value) : Prop :=
 (env.kindOf x = some .local /\ m x = some u) \/ ((env.kindOf x = some .cell \/ env.kindOf x = some .free) /\ ∃ c, env.cells.lookup x = some c /\ h.IsCell c (some u))
structure Cx.Ok (X : Cx) : Prop where
 mod : Mod X.K X.mg X.base
 kind : X.env.scope.kind = .function
 glob : X.env.globals = mainGlobals
 blt : X.env.builtins = builtinsNs
 above : X.s₀.heap.objs.size <= X.env.locals
 inj : ∀ x y c, X.env.cells.lookup x = some c -> X.env.cells.lookup y = some c -> x = y
 has : ∀ x, (X.env.kindOf x = some .cell \/ X.env.kindOf x = some .free) -> ∃ c, X.env.cells.lookup x = some c
 cab : ∀ x c, X.fn x = true -> X.env.cells.lookup x = some c -> X.s₀.heap.objs.size <= c
 hd : X.calm = true -> X.A.handled = none
 frames : X.A.frames = some X.stack
 stk : X.stack = X.outer \/ (X.stack = X.env :: X.outer /\ X.env.frame = some X.env.locals)
 exf : ∀ b ∈ X.ex, b ≠ X.env.locals /\ ∀ x c, X.env.cells.lookup x = some c -> c ≠ b
 bs : ∀ b o, X.base.get? b = some o -> X.s₀.heap.get? b = some o /\ X.H₀ b = none
 bsz : X.base.objs.size <= X.s₀.heap.objs.size
 noex : ∀ b o, X.base.get? b = some o -> b ∉ X.ex
 exfs : ∀ b ∈ X.ex, b ∉ X.fs
 funs : X.s₀.heap.FunFrames X.base X.outer
 frf : ∀ b ∈ X.fs, X.H₀ b = none
structure Inv (X : Cx) (pins : List (Addr × Obj)) (σ : List (Option V)) (H : Hp) (s : Shared) : Prop where
 ok : X.Ok
 os : s.os = X.s₀.os
 bare : AllBare s.gens
 base : Un X.fs X.ex X.H₀ H X.s₀.heap s.heap
 loc : ∃ m, s.heap.Ns X.env.locals m /\ ∀ (i : Nat) (x : Str) (v : V), X.N[i]? = some x -> σ[i]? = some (some v) -> Vis X.env.scope x -> ∃ u, RelV v u /\ Look X.env s.heap m x u
 cell : ∀ x c, X.env.cells.lookup x = some c -> ∃ v, s.heap.IsCell c v
 free : H X.env.locals = none
 freeC : ∀ x c, X.env.cells.lookup x = some c -> H c = none
 pin : ∀ p ∈ X.pn ++ pins, s.heap.get? p.1 = some p.2 /\ H p.1 = none /\ p.1 ≠ X.env.locals /\ p.1 ∉ X.fs /\ ∀ v, p.2.data ≠ .cell v
 hok : HOk X.prog X.w H s.heap
 len : σ.length = X.N.length
section
variable {X : Cx} {pins : List (Addr × Obj)} {σ : List (Option V)} {H H' : Hp} {s : Shared} {h' : Heap}
theorem Cx.Ok.nofr (ok : X.Ok) {b : Addr} {o : Obj} (e : X.base.get? b = some o) : b ∉ X.fs := fun hb => by
 have := (ok.funs.mem hb).1;rw [e] at this; cases this
theorem Inv.bs (I : Inv X pins σ H s) : ∀ b o, X.base.get? b = some o -> s.heap.get? b = some o /\ H b = none := fun b o e =>
 ⟨I.base.keep b o (I.ok.bs b o e).1 (I.ok.bs b o e).2 (I.ok.nofr e) (I.ok.noex b o e), I.base.free b o (I.ok.bs b o e).1 (I.ok.bs b o e).2 (I.ok.noex b o e)⟩
theorem Inv.bk (I : Inv X pins σ H s) : ∀ b o, X.base.get? b = some o -> s.heap.get? b = some o := fun b o e => (I.bs b o e).1
theorem Inv.mod (I : Inv X pins σ H s) : Mod X.K X.mg X.base := I.ok.mod
theorem Inv.kIn (I : Inv X pins σ H s) : X.K.In s.heap := I.ok.mod.kin.keeps I.bk
theorem Inv.lt (I : Inv X pins σ H s) : X.env.locals < s.heap.objs.size := let ⟨_, hn, _⟩ := I.loc; hn.lt
theorem Inv.sz (I : Inv X pins σ H s) : X.s₀.heap.objs.size <= s.heap.objs.size := Nat.le_trans I.ok.above (Nat.le_of_lt I.lt)
theorem Inv.nofs (I : Inv X pins σ H s) {a : Addr} (h : s.heap.objs.size <= a) : a ∉ X.fs := fun hb => by
 obtain ⟨_, o, ho, _⟩ := I.ok.funs.mem hb;exact absurd (Nat.lt_of_lt_of_le (Heap.lt_size ho) (Nat.le_trans I.sz h)) (Nat.lt_irrefl _)
theorem Inv.cne (I : Inv X pins σ H s) : ∀ x c, X.env.cells.lookup x = some c -> c ≠ X.env.locals := fun x c e z => by
 obtain ⟨v, o, ho, hd⟩ := I.cell x c e;obtain ⟨m, ⟨o', es, ep, ho', hd', _⟩, _⟩ := I.loc;rw [z, ho'] at ho; cases ho; rw [hd'] at hd; cases hd
theorem Inv.funs (I : Inv X pins σ H s) : s.heap.FunFrames X.base X.outer := by
 have all : ∀ (l : List Env), (∀ b ∈ frs l, b ∈ X.fs) -> X.s₀.heap.FunFrames X.base l -> s.heap.FunFrames X.base l := by
  intro l
  induction l with
  | nil => intro _ _; trivial
  | cons env r ih =>
   intro hs hl;obtain ⟨hk, ⟨L, o, hf, hn, ho, hd⟩, hr⟩ := hl;have hL : L ∈ X.fs := hs L (by unfold frs; rw [List.filterMap_cons, hf]; exact List.mem_cons_self);obtain ⟨sl, e⟩ := I.base.slot L o ho (I.ok.frf L hL) hL fun z => I.ok.exfs L z hL
   exact ⟨hk, ⟨L, _, hf, hn, e, hd⟩, ih (fun b hb => hs b (by unfold frs; rw [List.filterMap_cons, hf]; exact List.mem_cons_of_mem _ hb)) hr⟩
 exact all X.outer (fun _ hb => hb) I.ok.funs
theorem Inv.stack (I : Inv X pins σ H s) : s.heap.FunFrames X.base X.stack := by
 rcases I.ok.stk with e | ⟨e, hf⟩
 ·rw [e]; exact I.funs
 ·rw [e];obtain ⟨m, hn, _⟩ := I.loc;refine .cons (by rw [I.ok.kind]; decide) hf hn ?_ I.funs;exact Heap.get?_none_of_le (Nat.le_trans I.ok.bsz I.ok.above)
theorem Inv.stkSub (I : Inv X pins σ H s) : ∀ b ∈ frs X.stack, b ∈ X.env.locals :: X.fs := fun b hb => by
 rcases I.ok.stk with e | ⟨e, hf⟩
 ·rw [e] at hb; exact List.mem_cons_of_mem _ hb
 ·rw [e] at hb;unfold frs at hb;rw [List.filterMap_cons, hf] at hb;exact hb
theorem Inv.stkFree (I : Inv X pins σ H s) : ∀ b ∈ frs X.stack, H b = none := fun b hb => by
 rcases List.mem_cons.mp (I.stkSub b hb) with e | hb
 ·rw [e]; exact I.free
 ·obtain ⟨_, o, ho, _⟩ := I.ok.funs.mem hb;exact I.base.free b o ho (I.ok.frf b hb) fun z => I.ok.exfs b z hb
theorem Inv.step {g' : Array GenState} {t' : Nat} {d' : Drawn} {ch : List Addr} (I : Inv X pins σ H s)
  (hch : ∀ b ∈ ch, (b ∈ X.ex \/ X.s₀.heap.objs.size <= b) /\ b ≠ X.env.locals /\ (∀ x c, X.env.cells.lookup x = some c -> c ≠ b) /\ ∀ p ∈ X.pn ++ pins, p.1 ≠ b)
  (keep : ∀ b o, b ≠ X.env.locals -> b ∉ X.fs -> b ∉ ch -> s.heap.get? b = some o -> H b = none -> h'.get? b = some o)
  (slot : ∀ b o, b ≠ X.env.locals -> b ∈ X.fs -> b ∉ ch -> s.heap.get? b = some o -> H b = none -> ∃ sl, h'.get? b = some { o with slots := sl }) (free : ∀ b o, b ∉ ch -> s.heap.get? b = some o -> H b = none -> H' b = none)
  (there : ∀ b o, b ∉ ch -> s.heap.get? b = some o -> ∃ o', h'.get? b = some o')
  (tups : ∀ b xs, H b = some (.tup xs) -> H' b = some (.tup xs)) (frzs : ∀ b o u, H b = some (.frz o u) -> H' b = some (.frz o u)) (tbls : ∀ b ps, H b = some (.tbl ps) -> ∃ more, H' b = some (.tbl (ps ++ more)))
  (ns : ∀ m, s.heap.Ns X.env.locals m -> h'.Ns X.env.locals m) (hok : HOk X.prog X.w H' h') (hg : AllBare g') :
  Inv X pins σ H' { s with heap := h', gens := g', drawn := d', toks := t' } := by
 have neL : ∀ b o, X.s₀.heap.get? b = some o -> b ≠ X.env.locals := fun b o e => Nat.ne_of_lt (Nat.lt_of_lt_of_le (Heap.lt_size e) I.ok.above)
 have neC : ∀ b o, X.s₀.heap.get? b = some o -> b ∉ X.ex -> b ∉ ch := fun b o e hx hb => by
  rcases (hch b hb).1 with z | z
  ·exact hx z
  ·exact absurd (Nat.lt_of_lt_of_le (Heap.lt_size e) z) (Nat.lt_irrefl _)
 have cellK : ∀ x c, X.env.cells.lookup x = some c -> ∀ v, s.heap.IsCell c v -> h'.IsCell c v := fun x c e v ⟨o, ho, hd⟩ => by
  have nch : c ∉ ch := fun z => (hch c z).2.2.1 x c e rfl
  by_cases hc : c ∈ X.fs
  ·obtain ⟨sl, q⟩ := slot c o (I.cne x c e) hc nch ho (I.freeC x c e);exact ⟨_, q, hd⟩
  ·exact ⟨o, keep c o (I.cne x c e) hc nch ho (I.freeC x c e), hd⟩
 refine ⟨I.ok, I.os, hg, ⟨fun b o e n hb hx => ?_, fun b o e n hb hx => ?_, fun b o e n hx => ?_, fun b o e hx => ?_, fun b xs e => tups b xs (I.base.tups b xs e), fun b o xs e => frzs b o xs (I.base.frzs b o xs e), fun b ps e => ?_⟩, ?_, fun x c e => ?_, ?_, fun x c e => ?_, fun p hp => ?_, hok, I.len⟩
 ·exact keep b o (neL b o e) hb (neC b o e hx) (I.base.keep b o e n hb hx) (I.base.free b o e n hx)
 ·obtain ⟨sl, e1⟩ := I.base.slot b o e n hb hx;obtain ⟨sl', e2⟩ := slot b _ (neL b o e) hb (neC b o e hx) e1 (I.base.free b o e n hx);exact ⟨sl', e2⟩
 ·obtain ⟨o', e1⟩ := I.base.there b o e hx;exact free b o' (neC b o e hx) e1 (I.base.free b o e n hx)
 ·obtain ⟨o', e1⟩ := I.base.there b o e hx;exact there b o' (neC b o e hx) e1
 ·obtain ⟨m1, e1⟩ := I.base.tbls b ps e;obtain ⟨m2, e2⟩ := tbls b _ e1;exact ⟨m1 ++ m2, by rw [e2, Array.append_assoc]⟩
 ·obtain ⟨m, hn, hl⟩ := I.loc;refine ⟨m, ns m hn, fun i x v e1 e2 e3 => ?_⟩;obtain ⟨u, r, l⟩ := hl i x v e1 e2 e3;refine ⟨u, r, ?_⟩;rcases l with l | ⟨k, c, e, z⟩
  ·exact .inl l
  ·exact .inr ⟨k, c, e, cellK x c e _ z⟩
 ·obtain ⟨v, z⟩ := I.cell x c e;exact ⟨v, cellK x c e v z⟩
 ·obtain ⟨m, ⟨o, _, _, ho, _⟩, _⟩ := I.loc;exact free _ o (fun z => (hch _ z).2.1 rfl) ho I.free
 ·obtain ⟨v, o, ho, hd⟩ := I.cell x c e;exact free c o (fun z => (hch c z).2.2.1 x c e rfl) ho (I.freeC x c e)
 ·obtain ⟨e, n, ne, nf, d⟩ := I.pin p hp;have nch : p.1 ∉ ch := fun z => (hch p.1 z).2.2.2 p hp rfl
  exact ⟨keep p.1 p.2 ne nf nch e n, free p.1 p.2 nch e n, ne, nf, d⟩
theorem Inv.un {t' : Nat} (I : Inv X pins σ H s) (u : Un X.fs [] H H' s.heap h') (hok : HOk X.prog X.w H' h') : Inv X pins σ H' { s with heap := h', toks := t' } := by
 obtain ⟨m, ⟨o, es, ep, ho, r⟩, _⟩ := id I.loc;obtain ⟨sl, hL⟩ := u.any ho I.free (by simp);exact I.step (g' := s.gens) (d' := s.drawn) (ch := []) (fun _ z => nomatch z) (fun b o _ hb _ e n => u.keep b o e n hb (by simp)) (fun b o _ hb _ e n => u.slot b o e n hb (by simp)) (fun b o _ e n => u.free b o e n (by simp)) (fun b o _ e => u.there b o e (by simp)) u.tups u.frzs u.tbls (fun m' hm => by
  obtain ⟨o', es', ep', ho', r'⟩ := hm;rw [ho] at ho'; cases ho';exact ⟨_, es', ep', hL, r'⟩) hok I.bare
theorem Inv.call {g' : Array GenState} {t' : Nat} {d' : Drawn} {ch : List Addr} (I : Inv X pins σ H s) (u : Un (frs X.stack) ch H H' s.heap h') (hok : HOk X.prog X.w H' h') (hg : AllBare g')
  (hch : ∀ b ∈ ch, (b ∈ X.ex \/ X.s₀.heap.objs.size <= b) /\ b ≠ X.env.locals /\ (∀ x c, X.env.cells.lookup x = some c -> c ≠ b) /\ ∀ p ∈ X.pn ++ pins, p.1 ≠ b) :
  Inv X pins σ H' { s with heap := h', gens := g', drawn := d', toks := t' } := by
 obtain ⟨m, ⟨o, es, ep, ho, r⟩, _⟩ := id I.loc;obtain ⟨sl, hL⟩ := u.any ho I.free fun z => (hch _ z).2.1 rfl
 exact I.step (ch := ch) hch (fun b o hL hb hc e n => u.keep b o e n (fun z => (List.mem_cons.mp (I.stkSub b z)).elim hL hb) hc) (fun b o _ _ hc e n => u.any e n hc) (fun b o hc e n => u.free b o e n hc) (fun b o hc e => u.there b o e hc) u.tups u.frzs u.tbls (fun m' hm => by
  obtain ⟨o', es', ep', ho', r'⟩ := hm;rw [ho] at ho'; cases ho';exact ⟨_, es', ep', hL, r'⟩) hok hg
theorem Inv.turned {t' : Nat} {it : Addr} (I : Inv X pins σ H s) (k : ∀ b o, b ≠ it -> s.heap.get? b = some o -> h'.get? b = some o) (hn : H it = none) (hL : it ≠ X.env.locals)
  (h1 : it ∈ X.ex \/ X.s₀.heap.objs.size <= it) (h2 : ∀ x c, X.env.cells.lookup x = some c -> c ≠ it) (h3 : ∀ p ∈ X.pn ++ pins, p.1 ≠ it) : Inv X pins σ H { s with heap := h', toks := t' } := by
 have nit : ∀ b u, H b = some u -> b ≠ it := fun b u e z => by rw [z, hn] at e; cases e
 refine I.step (g' := s.gens) (d' := s.drawn) (ch := [it]) (fun b hb => ?_) (fun b o _ _ hc e _ => k b o (fun z => hc (by simp [z])) e) (fun b o _ _ hc e _ => ⟨o.slots, k b o (fun z => hc (by simp [z])) e⟩) (fun _ _ _ _ n => n)
  (fun b o hc e => ⟨o, k b o (fun z => hc (by simp [z])) e⟩) (fun _ _ e => e) (fun _ _ _ e => e) (fun b ps e => ⟨#[], by rw [e]; simp⟩) (fun m hm => ?_) (fun b u e => ?_) I.bare
 ·have e : b = it := by simpa using hb
  subst e;exact ⟨h1, hL, h2, h3⟩
 ·obtain ⟨o, es, ep, ho, r⟩ := hm;exact ⟨o, es, ep, k _ o (Ne.symm hL) ho, r⟩
 ·refine (I.hok b u e).stay (fun c v hc q => k c v ?_ q) (fun _ q => q) fun _ _ q => q
  rcases hc with z | z
  ·rw [z]; exact nit b u e
  ·exact nit c _ z
theorem Inv.tok (I : Inv X pins σ H s) (t : Nat) : Inv X pins σ H { s with toks := t } := I.un (h' := s.heap) (t' := t) Un.refl I.hok
theorem Inv.kept {t' : Nat} (I : Inv X pins σ H s) (k : ∀ b u, s.heap.get? b = some u -> h'.get? b = some u) : Inv X pins σ H { s with heap := h', toks := t' } := I.un (Un.kept k) (I.hok.kept k)
theorem Inv.laid {a : Addr} {o : HO} {t' : Nat} (I : Inv X pins σ H s) (k : ∀ b u, s.heap.get? b = some u -> h'.get? b = some u) (hp : s.heap.objs.size <= a) (new : ObjOk X.prog X.w (upd H a o) h' a o) :
  Inv X pins σ (upd H a o) { s with heap := h', toks := t' } := I.un (Un.laid k hp (I.hok.fresh hp)) (I.hok.laid k hp new)
theorem Inv.write {x e : Addr} {o : HO} {t' : Nat} (I : Inv X pins σ H s) (mu : Mut (H x)) (he : e = x \/ H e = some (.own x)) (k : ∀ b u, b ≠ e -> s.heap.get? b = some u -> h'.get? b = some u) (heo : ∃ u, h'.get? e = some u)
  (new : ObjOk X.prog X.w (upd H x o) h' x o) : Inv X pins σ (upd H x o) { s with heap := h', toks := t' } := I.un (Un.write mu he k heo) (I.hok.write mu he k heo new)
theorem Inv.pins_of {pins' : List (Addr × Obj)} (I : Inv X pins σ H s) (h : ∀ p ∈ pins', s.heap.get? p.1 = some p.2 /\ H p.1 = none /\ p.1 ≠ X.env.locals /\ p.1 ∉ X.fs /\ ∀ v, p.2.data ≠ .cell v) : Inv X pins' σ H s :=
 ⟨I.ok, I.os, I.bare, I.base, I.loc, I.cell, I.free, I.freeC, fun p hp => (List.mem_append.mp hp).elim (fun z => I.pin p (List.mem_append_left _ z)) (h p), I.hok, I.len⟩
theorem Zg5 {N : List Str} (hN : N.Nodup) {i j : Nat} {x : Str} (a : N[i]? = some x) (b : N[j]? = some x) : i = j := by
 obtain ⟨h1, e1⟩ := List.getElem?_eq_some_iff.mp a;obtain ⟨h2, e2⟩ := List.getElem?_eq_some_iff.mp b;exact (List.getElem_inj hN).mp (e1.trans e2.symm)
theorem Zk6 {M : Model} {A : Around} {E : Value -> Shared -> Prop} {i : Nat} {x : Str} {v : V} {u : Value} {Q : Unit -> Shared -> Prop} (I : Inv X pins σ H s) (hN : X.N.Nodup) (hi : X.N[i]? = some x) (hx : Loc X.env.scope x) (r : RelV v u)
  (h : ∀ s', Inv X pins (σ.set i (some v)) H s' -> (∃ a, Heap.SameBut a s.heap s'.heap /\ (a = X.env.locals \/ X.env.cells.lookup x = some a)) -> Q () s') (hf : X.fn x = true \/ X.env.scope.names.lookup x = some .local := by first | exact .inl rfl | exact .inr rfl | assumption) : wpAny M A (storeName X.env x u) Q E s := by
 obtain ⟨m, hn, hl⟩ := id I.loc;have hcls : (X.env.scope.kind == .class || (X.env.scope.kind == .module && X.env.locals != X.env.globals)) = false := by rw [I.ok.kind]; rfl
 have hiσ : i < σ.length := by rw [I.len]; exact (List.getElem?_eq_some_iff.mp hi).1
 have cne := I.cne;have tracked : ∀ {a : Addr} {h' : Heap}, (∃ o, s.heap.get? a = some o /\ H a = none) -> Heap.SameBut a s.heap h' -> HOk X.prog X.w H h' := fun {a h'} ha hs b ob e => by
  obtain ⟨_, _, hfree⟩ := ha;refine (I.hok b ob e).stay (fun c w' hc q => (hs.2 c ?_).trans q) (fun _ q => q) fun _ _ q => q
  rintro rfl;rcases hc with rfl | hc
  ·rw [hfree] at e; cases e
  ·rw [hfree] at hc; cases hc
 rcases hx with hk | hk
 ·refine wpAny_storeName_local hk hn (fun h' hn' hs => ?_) hcls;obtain ⟨oL, _, _, hoL, _⟩ := id hn;refine h _ ⟨I.ok, I.os, I.bare, ⟨fun b o e n hb hx => ?_, fun b o e n hb hx => ?_, I.base.free, fun b o e hx => ?_, I.base.tups, I.base.frzs, I.base.tbls⟩, ⟨_, hn', fun j y v' e1 e2 e3 => ?_⟩, fun y c e => ?_, I.free, I.freeC, fun p hp => ?_, tracked ⟨oL, hoL, I.free⟩ hs, by simpa using I.len⟩ ⟨_, hs, .inl rfl⟩
  ·exact (hs.2 b (Nat.ne_of_lt (Nat.lt_of_lt_of_le (Heap.lt_size e) I.ok.above))).trans (I.base.keep b o e n hb hx)
  ·obtain ⟨sl, e1⟩ := I.base.slot b o e n hb hx;exact ⟨sl, (hs.2 b (Nat.ne_of_lt (Nat.lt_of_lt_of_le (Heap.lt_size e) I.ok.above))).trans e1⟩
  ·obtain ⟨o', e1⟩ := I.base.there b o e hx;exact ⟨o', (hs.2 b (Nat.ne_of_lt (Nat.lt_of_lt_of_le (Heap.lt_size e) I.ok.above))).trans e1⟩
  ·by_cases hj : j = i
   ·subst hj;rw [hi] at e1; cases e1;rw [List.getElem?_set_self hiσ] at e2;cases e2;exact ⟨u, r, .inl ⟨hk, by simp⟩⟩
   ·rw [List.getElem?_set_ne (Ne.symm hj)] at e2;obtain ⟨u', r', q⟩ := hl j y v' e1 e2 e3;refine ⟨u', r', ?_⟩;rcases q with ⟨k, e⟩ | ⟨k, c, e, z⟩
    ·refine .inl ⟨k, ?_⟩;have : y ≠ x := fun e => hj (Zg5 hN e1 (e ▸ hi))
     simp [this, e]
    ·exact .inr ⟨k, c, e, z.sameBut hs (cne y c e)⟩
  ·obtain ⟨w', z⟩ := I.cell y c e;exact ⟨w', z.sameBut hs (cne y c e)⟩
  ·obtain ⟨e, n, ne, nf, d⟩ := I.pin p hp;exact ⟨(hs.2 p.1 ne).trans e, n, ne, nf, d⟩
 ·have hfn : X.fn x = true := by
   rcases hf with z | z
   ·exact z
   ·rw [z] at hk; cases hk
  obtain ⟨c, hc⟩ := I.ok.has x (.inl hk);obtain ⟨w', z⟩ := I.cell x c hc;refine wpAny_storeName_cell I.ok.kind hk hc z (fun h' hc' hs => ?_);obtain ⟨oc, hoc, hocd⟩ := id z;refine h { s with heap := h' } ⟨I.ok, I.os, I.bare, ⟨fun b o e n hb hx => ?_, fun b o e n hb hx => ?_, I.base.free, fun b o e hx => ?_, I.base.tups, I.base.frzs, I.base.tbls⟩, ⟨m, hn.sameBut hs (Ne.symm (cne x c hc)), fun j y v' e1 e2 e3 => ?_⟩, fun y c' e => ?_, I.free, I.freeC, fun p hp => ?_, tracked ⟨oc, hoc, I.freeC x c hc⟩ hs, by simpa using I.len⟩ ⟨c, hs, .inr hc⟩
  ·exact (hs.2 b (Nat.ne_of_lt (Nat.lt_of_lt_of_le (Heap.lt_size e) (I.ok.cab x c hfn hc)))).trans (I.base.keep b o e n hb hx)
  ·obtain ⟨sl, e1⟩ := I.base.slot b o e n hb hx;exact ⟨sl, (hs.2 b (Nat.ne_of_lt (Nat.lt_of_lt_of_le (Heap.lt_size e) (I.ok.cab x c hfn hc)))).trans e1⟩
  ·obtain ⟨o', e1⟩ := I.base.there b o e hx;exact ⟨o', (hs.2 b (Nat.ne_of_lt (Nat.lt_of_lt_of_le (Heap.lt_size e) (I.ok.cab x c hfn hc)))).trans e1⟩
  ·by_cases hj : j = i
   ·subst hj;rw [hi] at e1; cases e1;rw [List.getElem?_set_self hiσ] at e2;cases e2;exact ⟨u, r, .inr ⟨.inl hk, c, hc, hc'⟩⟩
   ·rw [List.getElem?_set_ne (Ne.symm hj)] at e2;obtain ⟨u', r', q⟩ := hl j y v' e1 e2 e3;refine ⟨u', r', ?_⟩;rcases q with q | ⟨k, c', e, z'⟩
    ·exact .inl q
    ·refine .inr ⟨k, c', e, z'.sameBut hs ?_⟩;rintro rfl;exact hj (Zg5 hN e1 (I.ok.inj _ _ _ e hc ▸ hi))
  ·by_cases hcc : c' = c
   ·subst hcc; exact ⟨_, hc'⟩
   ·obtain ⟨w2, z2⟩ := I.cell y c' e;exact ⟨w2, z2.sameBut hs hcc⟩
  ·obtain ⟨e, n, ne, nf, d⟩ := I.pin p hp;refine ⟨(hs.2 p.1 ?_).trans e, n, ne, nf, d⟩;intro q;rw [q, hoc] at e;have q' : oc = p.2 := Option.some.inj e;exact d w' (by rw [<- q']; exact hocd)
theorem Zfb {M : Model} {A : Around} {E : Value -> Shared -> Prop} {i : Nat} {x : Str} {v : V} {u : Value} {Q : Unit -> Shared -> Prop} (I : Inv X pins σ H s) (hN : X.N.Nodup) (hi : X.N[i]? = some x) (hx : Loc X.env.scope x) (r : RelV v u)
  (h : ∀ s', Inv X pins (σ.set i (some v)) H s' -> Q () s') (hf : X.fn x = true \/ X.env.scope.names.lookup x = some .local := by first | exact .inl rfl | exact .inr rfl | assumption) : wpAny M A (storeName X.env x u) Q E s :=
 Zk6 I hN hi hx r (fun s' I' _ => h s' I') hf
theorem Inv.call' {s' : Shared} {ch : List Addr} (I : Inv X pins σ H s) (ho : s'.os = s.os) (u : Un (frs X.stack) ch H H' s.heap s'.heap) (hok : HOk X.prog X.w H' s'.heap) (hg : AllBare s'.gens)
  (hch : ∀ b ∈ ch, (b ∈ X.ex \/ X.s₀.heap.objs.size <= b) /\ b ≠ X.env.locals /\ (∀ x c, X.env.cells.lookup x = some c -> c ≠ b) /\ ∀ p ∈ X.pn ++ pins, p.1 ≠ b) : Inv X pins σ H' s' := by
 obtain ⟨h', g', d', t', o'⟩ := s';have e : o' = s.os := ho;subst e;exact I.call (g' := g') (t' := t') (d' := d') u hok hg hch
end
abbrev XK := Value -> Option Addr -> Hp -> Prop
abbrev St := List (Option V)
abbrev VK := V -> Hp -> Prop
abbrev TE := St -> Hp -> VK -> Prop
abbrev TT := St -> Hp -> (Bool -> Hp -> Prop) -> Prop
abbrev TA := St -> Hp -> (List V -> Hp -> Prop) -> Prop
structure Zks where
 nx : St -> Hp -> Prop
 rt : VK
 bk : St -> Hp -> Prop := fun _ _ => False
 ct : St -> Hp -> Prop := fun _ _ => False
abbrev TS := Zks -> St -> Hp -> Prop
def EP (X : Cx) (pins : List (Addr × Obj)) (σ : St) (Q : VK) (u : Value) (s' : Shared) : Prop := ∃ v H', Inv X pins σ H' s' /\ RelV v u /\ Q v H'
def TP (X : Cx) (pins : List (Addr × Obj)) (σ : St) (Q : Bool -> Hp -> Prop) (b : Bool) (s' : Shared) : Prop := ∃ H', Inv X pins σ H' s' /\ Q b H'
def AP (X : Cx) (pins : List (Addr × Obj)) (σ : St) (Q : List V -> Hp -> Prop) (us : List Value) (s' : Shared) : Prop := ∃ vs H', Inv X pins σ H' s' /\ Vals vs us /\ Q vs H'
def SP (X : Cx) (pins : List (Addr × Obj)) (D : Zks) (f : Flow) (s' : Shared) : Prop :=
 match f with
 | .next => ∃ σ' H', Inv X pins σ' H' s' /\ D.nx σ' H'
 | .brk => ∃ σ' H', Inv X pins σ' H' s' /\ D.bk σ' H'
 | .cont => ∃ σ' H', Inv X pins σ' H' s' /\ D.ct σ' H'
 | .ret u => ∃ v σ' H', Inv X pins σ' H' s' /\ RelV v u /\ D.rt v H'
def PE (X : Cx) (e : Expr) (t : TE) : Prop :=
 ∀ (pins : List (Addr × Obj)) (s : Shared) (σ : St) (H : Hp) (Q : VK), Inv X pins σ H s -> t σ H Q -> wpAny (model X.prog X.w) X.A (eval e X.env) (EP X pins σ Q) X.xe s
def PT (X : Cx) (e : Expr) (t : TT) : Prop :=
 ∀ (pins : List (Addr × Obj)) (s : Shared) (σ : St) (H : Hp) (Q : Bool -> Hp -> Prop), Inv X pins σ H s -> t σ H Q -> wpAny (model X.prog X.w) X.A (isTrue e X.env (eval e X.env)) (TP X pins σ Q) X.xe s
def PW (X : Cx) (e : Expr) (t : TT) : Prop :=
 ∀ (whole : Sem Value) (pins : List (Addr × Obj)) (s : Shared) (σ : St) (H : Hp) (Q : Bool -> Hp -> Prop), Inv X pins σ H s -> t σ H Q -> wpAny (model X.prog X.w) X.A (isTrue e X.env whole) (TP X pins σ Q) X.xe s
theorem PW.pt {X : Cx} {e : Expr} {t : TT} (h : PW X e t) : PT X e t := h _
def PA (X : Cx) (es : List Expr) (t : TA) : Prop :=
 ∀ (pos : Pos) (pins : List (Addr × Obj)) (s : Shared) (σ : St) (H : Hp) (Q : List V -> Hp -> Prop), Inv X pins σ H s -> t σ H Q -> wpAny (model X.prog X.w) X.A (spliced (backTo pos (starEach es X.env))) (AP X pins σ Q) X.xe s
def PS (X : Cx) (st : Stmt) (t : TS) : Prop :=
 ∀ (pins : List (Addr × Obj)) (s : Shared) (σ : St) (H : Hp) (D : Zks), Inv X pins σ H s -> t D σ H -> wpAny (model X.prog X.w) X.A (exec st X.env) (SP X pins D) X.xe s
def PSs (X : Cx) (st : List Stmt) (t : TS) : Prop :=
 ∀ (pins : List (Addr × Obj)) (s : Shared) (σ : St) (H : Hp) (D : Zks), Inv X pins σ H s -> t D σ H -> wpAny (model X.prog X.w) X.A (execs st X.env) (SP X pins D) X.xe s
theorem thn {α : Type} {t : Sem α} {Q Q' : α -> Shared -> Prop} {M : Model} {A : Around} {E : Value -> Shared -> Prop} {s : Shared} (h : wpAny M A t Q E s) (hQ : ∀ a s, Q a s -> Q' a s) : wpAny M A t Q' E s := wpAny_mono h hQ fun _ _ x => x
end L2
namespace L2
open PySem PySem.Spec PyProof.Rows
section
variable {X : Cx}
def Zri (i : Nat) : TE := fun σ H Q => ∃ v, σ[i]? = some (some v) /\ Q v H
def tC (v : V) : TE := fun _ H Q => Q v H
theorem Znn {i : Nat} {x : Str} {pos : Pos} (hN : X.N[i]? = some x) (hv : Vis X.env.scope x) (hd : (x == ("__debug__" : Str)) = false := by decide) (hcd : (x == ("__classdict__" : Str)) = false := by decide) : PE X (.Name x pos) (Zri i) := by
 intro pins s σ H Q I h;obtain ⟨v, e, h⟩ := h;obtain ⟨m, hn, hl⟩ := I.loc;obtain ⟨u, r, l⟩ := hl i x v hN e hv;have fin : EP X pins σ Q u s := ⟨v, H, I, r, h⟩;rcases l with ⟨hk, hm⟩ | ⟨hk, c, hc, hcell⟩
 ·exact wpAny_Name (wpAny_loadName_local I.ok.kind hk hn hm fin) hd
 ·rcases hk with hk | hk
  ·exact wpAny_Name (wpAny_loadName_cell I.ok.kind hk hc hcell fin) hd
  ·exact wpAny_Name (wpAny_loadName_free I.ok.kind hk hc hcell fin hcd) hd
theorem Zaf {i j pos} : PE X (.Constant (.int i) j pos) (tC (.int i)) := fun _ _ _ H _ I h => wpAny_Constant_int ⟨.int i, H, I.tok _, ⟨_, rfl⟩, h⟩
theorem Zc9 {b j pos} : PE X (.Constant (.bool b) j pos) (tC (.bl b)) := fun _ _ _ H _ I h => Constant_bool ⟨.bl b, H, I, rfl, h⟩
theorem Zhr {j pos} : PE X (.Constant .none j pos) (tC .non) := fun _ _ _ H _ I h => Constant_none ⟨.non, H, I, rfl, h⟩
theorem Zbg {x j pos} : PE X (.Constant (.str x) j pos) (tC (.str x)) := fun _ _ _ H _ I h => Calls.Constant_str ⟨.str x, H, I.tok _, ⟨_, rfl⟩, h⟩
def Gl (X : Cx) (x : Str) : Prop := X.env.kindOf x = some .globalImplicit
theorem Zef {E : Value -> Shared -> Prop} {pins : List (Addr × Obj)} {s : Shared} {σ : St} {H : Hp} {x : Str} {u : Value} {pos : Pos} {Q : Value -> Shared -> Prop} (I : Inv X pins σ H s) (hg : Gl X x) (hm : X.mg x = some u) (h : Q u s)
  (hd : (x == ("__debug__" : Str)) = false := by decide) : wpAny (model X.prog X.w) X.A (eval (.Name x pos) X.env) Q E s :=
 Calls.Name_function_global I.ok.kind hg (Calls.loadGlobal_global (by rw [I.ok.glob]; exact I.mod.glob.keeps I.bk) hm h) hd
theorem Zjr {E : Value -> Shared -> Prop} {pins : List (Addr × Obj)} {s : Shared} {σ : St} {H : Hp} {x : Str} {u : Value} {pos : Pos} {Q : Value -> Shared -> Prop} (I : Inv X pins σ H s) (hg : Gl X x) (hm : X.mg x = none) (hv : bootBuiltins x = some u) (h : Q u s)
  (hn : x ≠ "__name__" := by decide) (hd : (x == ("__debug__" : Str)) = false := by decide) : wpAny (model X.prog X.w) X.A (eval (.Name x pos) X.env) Q E s := by
 obtain ⟨mb, h1, h2⟩ := I.mod.blt;exact Calls.Name_function_global I.ok.kind hg (Calls.loadGlobal_builtin (by rw [I.ok.glob]; exact I.mod.glob.keeps I.bk) hm (by rw [I.ok.blt]; exact h1.keeps I.bk) ((h2 x hn).trans hv) h) hd
theorem Zcr {x : Str} {v : V} {u : Value} {pos : Pos} (hg : Gl X x) (hm : X.mg x = some u) (r : RelV v u) (hd : (x == ("__debug__" : Str)) = false := by decide) : PE X (.Name x pos) (tC v) :=
 fun _ _ _ H _ I h => Zef I hg hm ⟨v, H, I, r, h⟩ hd
theorem Zec {x : Str} {v : V} {u : Value} {pos : Pos} (hg : Gl X x) (hm : X.mg x = none) (hv : bootBuiltins x = some u) (r : RelV v u) (hn : x ≠ "__name__" := by decide) (hd : (x == ("__debug__" : Str)) = false := by decide) : PE X (.Name x pos) (tC v) :=
 fun _ _ _ H _ I h => Zjr I hg hm hv ⟨v, H, I, r, h⟩ hn hd
def t2I (ta tb : TE) (k : Int -> Int -> Hp -> Prop) : St -> Hp -> Prop := fun σ H => ta σ H fun x H1 => tb σ H1 fun y H2 => ∃ i j, x = .int i /\ y = .int j /\ k i j H2
variable {a b : Expr} {ta tb : TE} {pos : Pos}
def Zpc (p : Int -> Int -> Bool) (ta tb : TE) : TE := fun σ H Q => t2I ta tb (fun i j H2 => Q (.bl (p i j)) H2) σ H
abbrev tLt : TE -> TE -> TE := Zpc fun i j => decide (i < j)
abbrev tLe : TE -> TE -> TE := Zpc fun i j => decide (i <= j)
abbrev tGt : TE -> TE -> TE := Zpc fun i j => decide (j < i)
abbrev tGe : TE -> TE -> TE := Zpc fun i j => decide (j <= i)
abbrev tEqI : TE -> TE -> TE := Zpc fun i j => decide (i = j)
abbrev tNeI : TE -> TE -> TE := Zpc fun i j => !decide (i = j)
def tB (t : TE) : TT := fun σ H Q => t σ H fun x H1 => ∃ c, x = .bl c /\ Q c H1
theorem Zb2 {e : Expr} {t : TE} (h : PE X e t) (he : ∀ whole, isTrue e X.env whole = (do let v <- whole; standAt e.pos; holding [v] (truthy v)) := by intro _; rfl) : PT X e (tB t) := by
 intro pins s σ H Q I hw;refine isTrue_plain (thn (h pins s σ H _ I hw) fun v s1 ⟨x, H1, I1, r1, q1⟩ => ?_) (he _);obtain ⟨d, rfl, q⟩ := q1;cases r1;exact wpAny_truthy_bool ⟨H1, I1, q⟩
variable {tA tB' : TT} {rest : List Expr}
def Zsx (t u : TT) : TT := fun σ H Q => t σ H fun c H1 => if c = true then u σ H1 Q else Q false H1
def tOr (t u : TT) : TT := fun σ H Q => t σ H fun c H1 => if c = true then Q true H1 else u σ H1 Q
def Zss (t : TT) : TT := fun σ H Q => t σ H fun c H1 => Q (!c) H1
theorem Zfm (ha : PT X a tA) : PW X (.BoolOp .And [a] pos) tA := by
 intro wh pins s σ H Q I h;refine isTrue_and (thn (ha pins s σ H Q I h) fun c s1 e => ?_);cases c with
 | true => exact isTrue_and_nil e
 | false => exact e
theorem Zfl (ha : PT X a tA) : PW X (.BoolOp .Or [a] pos) tA := by
 intro wh pins s σ H Q I h;refine isTrue_or (thn (ha pins s σ H Q I h) fun c s1 e => ?_);cases c with
 | false => exact isTrue_or_nil e
 | true => exact e
theorem Zhp (ha : PT X a tA) (hb : PW X (.BoolOp .And (b :: rest) pos) tB') : PW X (.BoolOp .And (a :: b :: rest) pos) (Zsx tA tB') := by
 intro wh pins s σ H Q I h;refine isTrue_and (thn (ha pins s σ H _ I h) fun c s1 ⟨H1, I1, q1⟩ => ?_);cases c with
 | true => exact hb wh pins s1 σ H1 Q I1 q1
 | false => exact ⟨H1, I1, q1⟩
theorem Zgx (ha : PT X a tA) (hb : PW X (.BoolOp .Or (b :: rest) pos) tB') : PW X (.BoolOp .Or (a :: b :: rest) pos) (tOr tA tB') := by
 intro wh pins s σ H Q I h;refine isTrue_or (thn (ha pins s σ H _ I h) fun c s1 ⟨H1, I1, q1⟩ => ?_);cases c with
 | true => exact ⟨H1, I1, q1⟩
 | false => exact hb wh pins s1 σ H1 Q I1 q1
theorem Zcd (ha : PT X a tA) : PT X (.UnaryOp .Not a pos) (Zss tA) := by
 intro pins s σ H Q I h;exact isTrue_not (ha pins s σ H (fun c H1 => Q (!c) H1) I h)
def Zpy (ta tb : TE) : TE := fun σ H Q => ta σ H fun x H1 => ∃ c, x = .bl c /\ if c = true then tb σ H1 Q else Q (.bl false) H1
def Zsr (ta tb : TE) : TE := fun σ H Q => ta σ H fun x H1 => ∃ c, x = .bl c /\ if c = true then Q (.bl true) H1 else tb σ H1 Q
def Zpn (ta : TE) : TE := fun σ H Q => ta σ H fun x H1 => ∃ c, x = .bl c /\ Q (.bl (!c)) H1
theorem Zgh {op} {t : TE} (h : PE X a t) : PE X (.BoolOp op [a] pos) t := fun pins s σ H Q I hw => BoolOp_one (h pins s σ H Q I hw)
theorem Zek (ha : PE X a ta) (hb : PE X (.BoolOp .And (b :: rest) pos) tb) : PE X (.BoolOp .And (a :: b :: rest) pos) (Zpy ta tb) := by
 intro pins s σ H Q I h;refine BoolOp_and (thn (ha pins s σ H _ I h) fun v s1 ⟨x, H1, I1, r1, q1⟩ => ?_);obtain ⟨c, rfl, q1⟩ := q1;cases r1;refine wpAny_truthy_bool ?_;cases c with
 | true => exact hb pins s1 σ H1 Q I1 q1
 | false => exact ⟨.bl false, H1, I1, rfl, q1⟩
theorem Zsa (ha : PE X a ta) (hb : PE X (.BoolOp .Or (b :: rest) pos) tb) : PE X (.BoolOp .Or (a :: b :: rest) pos) (Zsr ta tb) := by
 intro pins s σ H Q I h;refine BoolOp_or (thn (ha pins s σ H _ I h) fun v s1 ⟨x, H1, I1, r1, q1⟩ => ?_);obtain ⟨c, rfl, q1⟩ := q1;cases r1;refine wpAny_truthy_bool ?_;cases c with
 | false => exact hb pins s1 σ H1 Q I1 q1
 | true => exact ⟨.bl true, H1, I1, rfl, q1⟩
theorem Zqn (ha : PE X a ta) : PE X (.UnaryOp .Not a pos) (Zpn ta) := by
 intro pins s σ H Q I h;refine UnaryOp_ (thn (ha pins s σ H _ I h) fun v s1 ⟨x, H1, I1, r1, q1⟩ => ?_);obtain ⟨c, rfl, q1⟩ := q1;cases r1;exact not_of (wpAny_truthy_bool ⟨.bl (!c), H1, I1, rfl, q1⟩)
def tIf (t : TT) (ta tb : TE) : TE := fun σ H Q => t σ H fun c H1 => if c = true then ta σ H1 Q else tb σ H1 Q
end
end L2
namespace L2
open PySem PySem.Spec PyProof.Rows
def SqL (K : PySem.W.Frag) (H : Hp) (a : Addr) (xs : List V) : Prop :=
 Rd H a (.lst xs) \/
  ∃ (o : Obj) (its : Array Value) (n : Nat), K.lookup a = some o /\ o.cls = .type "list" /\ o.dict = none /\ o.data = .seq its n /\ its.size <= sizeLine /\ Vals xs its.toList
def SqT (K : PySem.W.Frag) (H : Hp) (a : Addr) (xs : List V) : Prop :=
 Rd H a (.tup xs) \/
  ∃ (o : Obj) (its : Array Value) (n : Nat), K.lookup a = some o /\ o.cls = .type "tuple" /\ o.data = .seq its n /\ its.size <= sizeLine /\ Vals xs its.toList
def Ztl : Value -> Option V
 | .none => some .non
 | .bool b => some (.bl b)
 | .int i _ => some (.int i)
 | .str x _ => some (.str x)
 | .bytes b _ => some (.byt b)
 | .float b _ => some (.flt b)
 | .ref a => some (.ref a)
 | .type n => some (.ty n)
 | _ => none
theorem RelV.abs {x : V} {u : Value} (r : RelV x u) : Ztl u = some x := by
 cases x with
 | non => cases r; rfl
 | bl _ => cases r; rfl
 | int _ => obtain ⟨t, rfl⟩ := r; rfl
 | str _ => obtain ⟨t, rfl⟩ := r; rfl
 | byt _ => obtain ⟨t, rfl⟩ := r; rfl
 | flt _ => obtain ⟨t, rfl⟩ := r; rfl
 | ref _ => cases r; rfl
 | ty _ => cases r; rfl
theorem RelV.inj {x y : V} {u : Value} (r : RelV x u) (q : RelV y u) : x = y := Option.some.inj (r.abs.symm.trans q.abs)
theorem Vals.inj : ∀ {xs ys : List V} {us : List Value}, Vals xs us -> Vals ys us -> xs = ys
 | _, _, _, .nil, .nil => rfl
 | _, _, _, .cons r t, .cons r' t' => by rw [r.inj r', Vals.inj t t']
section
variable {X : Cx} {pins : List (Addr × Obj)} {σ : St} {H : Hp} {s : Shared} {a : Addr} {xs ys : List V}
theorem SqL.of {K : PySem.W.Frag} (h : H a = some (.lst xs)) : SqL K H a xs := .inl (.inl h)
theorem SqT.of {K : PySem.W.Frag} (h : H a = some (.tup xs)) : SqT K H a xs := .inl (.inl h)
theorem Inv.list (I : Inv X pins σ H s) (h : SqL X.K H a xs) : ∃ its : List Value, Vals xs its /\ PlainL s.heap a its.toArray /\ xs.length <= sizeLine := by
 rcases h with h | ⟨o, its, n, hk, hc, hd, hs, hz, r⟩
 ·obtain ⟨z, its, n, r, e⟩ := h.ok I.hok;exact ⟨its, r, ⟨_, n, e, rfl, rfl, rfl⟩, z⟩
 ·refine ⟨its.toList, r, ⟨o, n, I.kIn a o hk, hc, hd, by simpa using hs⟩, ?_⟩;have e := r.length;simp only [Array.length_toList] at e;omega
theorem Inv.tuple (I : Inv X pins σ H s) (h : SqT X.K H a xs) : ∃ its : List Value, Vals xs its /\ IsTup s.heap a its.toArray /\ xs.length <= sizeLine := by
 rcases h with h | ⟨o, its, n, hk, hc, hs, hz, r⟩
 ·obtain ⟨z, its, r, p⟩ := h.ok I.hok;exact ⟨its, r, p, z⟩
 ·refine ⟨its.toList, r, ⟨o, I.kIn a o hk, hc, n, by simpa using hs⟩, ?_⟩;have e := r.length;simp only [Array.length_toList] at e;omega
theorem Inv.list_inj (I : Inv X pins σ H s) (h : SqL X.K H a xs) (h' : SqL X.K H a ys) : xs = ys := by
 obtain ⟨its, r, ⟨o, n, e, _, _, d⟩, _⟩ := I.list h;obtain ⟨its', r', ⟨o', n', e', _, _, d'⟩, _⟩ := I.list h';rw [e] at e'; cases e';rw [d] at d';injection d' with d1 _;have : its = its' := by simpa using congrArg Array.toList d1
 subst this;exact r.inj r'
end
abbrev Cx.wish (X : Cx) (E : Value -> Shared -> Prop) : Cx := { X with xe := E }
abbrev Cx.nox (X : Cx) : Cx := X.wish fun _ _ => False
theorem Cx.Ok.wish {X : Cx} (ok : X.Ok) (E : Value -> Shared -> Prop) : (X.wish E).Ok :=
 ⟨ok.mod, ok.kind, ok.glob, ok.blt, ok.above, ok.inj, ok.has, ok.cab, ok.hd, ok.frames, ok.stk, ok.exf, ok.bs, ok.bsz, ok.noex, ok.exfs, ok.funs, ok.frf⟩
theorem Cx.Ok.unwish {X : Cx} {E : Value -> Shared -> Prop} (ok : (X.wish E).Ok) : X.Ok :=
 ⟨ok.mod, ok.kind, ok.glob, ok.blt, ok.above, ok.inj, ok.has, ok.cab, ok.hd, ok.frames, ok.stk, ok.exf, ok.bs, ok.bsz, ok.noex, ok.exfs, ok.funs, ok.frf⟩
section
variable {X : Cx} {pins : List (Addr × Obj)} {σ : St} {H : Hp} {s : Shared} {E : Value -> Shared -> Prop}
theorem Inv.wish (I : Inv X pins σ H s) (E : Value -> Shared -> Prop) : Inv (X.wish E) pins σ H s := ⟨I.ok.wish E, I.os, I.bare, I.base, I.loc, I.cell, I.free, I.freeC, I.pin, I.hok, I.len⟩
theorem Inv.unwish (I : Inv (X.wish E) pins σ H s) : Inv X pins σ H s := ⟨I.ok.unwish, I.os, I.bare, I.base, I.loc, I.cell, I.free, I.freeC, I.pin, I.hok, I.len⟩
theorem SP.unwish {D : Zks} {f : Flow} {s' : Shared} (h : SP (X.wish E) pins D f s') : SP X pins D f s' := by
 cases f with
 | next => obtain ⟨σ', H', I, q⟩ := h; exact ⟨σ', H', I.unwish, q⟩
 | brk => obtain ⟨σ', H', I, q⟩ := h; exact ⟨σ', H', I.unwish, q⟩
 | cont => obtain ⟨σ', H', I, q⟩ := h; exact ⟨σ', H', I.unwish, q⟩
 | ret u => obtain ⟨v, σ', H', I, r, q⟩ := h; exact ⟨v, σ', H', I.unwish, r, q⟩
theorem PSs.nox {st : List Stmt} {t : TS} (h : PSs X.nox st t) : PSs X st t := fun pins s σ H D I hw =>
 wpAny_mono (h pins s σ H D (I.wish _) hw) (fun _ _ q => q.unwish) fun _ _ z => False.elim z
end
section
variable {X : Cx} {st : Stmt} {rest : List Stmt} {t u : TS} {e : Expr} {te : TE} {pos : Pos}
def Zpo : TS := fun D σ H => D.nx σ H
def Zrj (t u : TS) : TS := fun D σ H => t { D with nx := u D } σ H
theorem Zbb : PSs X [] Zpo := fun _ _ σ H _ I h => wpAny_execs_nil ⟨σ, H, I, h⟩
theorem Zae (h1 : PS X st t) (h2 : PSs X rest u) : PSs X (st :: rest) (Zrj t u) := by
 intro pins s σ H D I h;refine wpAny_execs_cons (thn (h1 pins s σ H { D with nx := u D } I h) fun f s1 q => ?_);cases f with
 | next =>
  obtain ⟨σ', H', I', q⟩ := q;exact h2 pins s1 σ' H' D I' q
 | ret v => exact q
 | brk => exact q
 | cont => exact q
theorem Zag (h1 : PS X st t) : PSs X [st] t := by
 intro pins s σ H D I h;refine wpAny_execs_cons (thn (h1 pins s σ H D I h) fun f s1 q => ?_);cases f with
 | next => exact wpAny_execs_nil q
 | ret v => exact q
 | brk => exact q
 | cont => exact q
def Zpx : TS := fun D σ H => D.bk σ H
def Zrr : TS := fun D σ H => D.ct σ H
theorem Inv.quiet {pins : List (Addr × Obj)} {σ : St} {H : Hp} {s : Shared} (I : Inv X pins σ H s) : interactive X.env = false := by simp [interactive, I.ok.kind]
def Zpt (te : TE) : TS := fun D σ H => te σ H fun _ H1 => D.nx σ H1
theorem Zb0 (he : PE X e te) (hs : swapsWith e none pos.line X.env = pure false := by rfl) : PS X (.Expr e pos) (Zpt te) := by
 intro pins s σ H D I h;exact wpAny_Expr_any (thn (he pins s σ H _ I h) fun v s1 ⟨x, H1, I1, r1, q1⟩ => ⟨σ, H1, I1, q1⟩) I.quiet hs
def Zsq (te : TE) : TS := fun D σ H => te σ H D.rt
theorem Zar (he : PE X e te) : PS X (.Return (some e) pos) (Zsq te) := by
 intro pins s σ H D I h;exact wpAny_Return_some (thn (he pins s σ H _ I h) fun v s1 ⟨x, H1, I1, r1, q1⟩ => ⟨x, σ, H1, I1, r1, q1⟩)
def Zrk : TS := fun D _ H => D.rt .non H
def Zsv (c : TT) (t u : TS) : TS := fun D σ H => c σ H fun b H1 => if b = true then t D σ H1 else u D σ H1
theorem Zc5 {c : Expr} {a b : List Stmt} {tc : TT} (hc : PT X c tc) (ha : PSs X a t) (hb : PSs X b u) : PS X (.If c a b pos) (Zsv tc t u) := by
 intro pins s σ H D I h;refine wpAny_If (thn (hc pins s σ H _ I h) fun d s1 ⟨H1, I1, q1⟩ => ?_);cases d with
 | true => exact ha pins s1 σ H1 D I1 q1
 | false => exact hb pins s1 σ H1 D I1 q1
def Zpp : TS := fun _ _ _ => False
theorem Zfn {sts : List Stmt} : PSs X sts Zpp := fun _ _ _ _ _ _ h => h.elim
end
abbrev TG := V -> St -> Hp -> (St -> Hp -> Prop) -> Prop
abbrev TGs := List V -> St -> Hp -> (St -> Hp -> Prop) -> Prop
def PG (X : Cx) (target : Expr) (t : TG) : Prop :=
 ∀ (pins : List (Addr × Obj)) (s : Shared) (σ : St) (H : Hp) (v : V) (u : Value) (Q : St -> Hp -> Prop), Inv X pins σ H s -> RelV v u -> t v σ H Q ->
  wpAny (model X.prog X.w) X.A (assign target X.env u) (fun _ s' => ∃ σ' H', Inv X pins σ' H' s' /\ Q σ' H') X.xe s
abbrev Zsm := V -> V -> V -> Hp -> (Hp -> Prop) -> Prop
def Zs7 (X : Cx) (t : Zsm) : Prop :=
 ∀ (pins : List (Addr × Obj)) (s : Shared) (σ : St) (H : Hp) (o i v : V) (ov iv u : Value) (Q : Hp -> Prop), Inv X pins σ H s -> RelV o ov -> RelV i iv -> RelV v u -> t o i v H Q ->
  wpAny (model X.prog X.w) X.A (setItem ov iv u) (fun _ s' => ∃ H', Inv X pins σ H' s' /\ Q H') X.xe s
abbrev TIp := V -> V -> Hp -> VK -> Prop
section
variable {X : Cx} {pos : Pos}
def Zfu (i : Nat) : TG := fun v σ H Q => Q (σ.set i (some v)) H
theorem Zce {i : Nat} {x : Str} (hN : X.N.Nodup) (hi : X.N[i]? = some x) (hx : Loc X.env.scope x) (hf : X.fn x = true \/ X.env.scope.names.lookup x = some .local := by first | exact .inl rfl | exact .inr rfl | assumption) : PG X (.Name x pos) (Zfu i) := by
 intro pins s σ H v u Q I r h;exact wpAny_assign_Name (Zfb I hN hi hx r (fun s' I' => ⟨_, H, I', h⟩) hf)
def Ztj : TGs := fun vs σ H Q => vs = [] /\ Q σ H
def Zsj (t : TG) (u : TGs) : TGs := fun vs σ H Q => ∃ v r, vs = v :: r /\ t v σ H fun σ' H' => u r σ' H' Q
def Zti (K : PySem.W.Frag) (n : Nat) (t : TGs) : TG := fun v σ H Q => ∃ a xs, v = .ref a /\ SqT K H a xs /\ xs.length = n /\ t xs σ H Q
def Zs5 (to ti : TE) (t : Zsm) : TG := fun v σ H Q => to σ H fun o H1 => ti σ H1 fun i H2 => t o i v H2 fun H3 => Q σ H3
theorem Znm {o i : Expr} {to ti : TE} {t : Zsm} (ho : PE X o to) (hi : PE X i ti) (hs : Zs7 X t)
  (ha : ∀ v, assign (.Subscript o i pos) X.env v = (do
   let ov <- holding [v] (eval o X.env)
   let iv <- holding [v, ov] (eval i X.env)
   standAt pos
   holding [v, ov, iv] (setItem ov iv v)
   release [v, ov, iv] []) := by intro _; rfl) : PG X (.Subscript o i pos) (Zs5 to ti t) := by
 intro pins s σ H v u Q I r h;rw [ha];refine wpAny_bind (wpAny_holding (thn (ho pins s σ H _ I h) fun ov s1 ⟨x, H1, I1, r1, q1⟩ => ?_));refine wpAny_bind (wpAny_holding (thn (hi pins s1 σ H1 _ I1 q1) fun iv s2 ⟨y, H2, I2, r2, q2⟩ => ?_));refine wpAny_bind (wpAny_standAt (wpAny_bind (wpAny_holding (thn (hs pins s2 σ H2 x y v ov iv u _ I2 r1 r2 r q2) fun _ s3 ⟨H3, I3, q3⟩ => ?_))));exact wpAny_release ⟨σ, H3, I3, q3⟩
def Zrc (te : TE) (g : TG) : TS := fun D σ H => te σ H fun x H1 => g x σ H1 D.nx
theorem Znl {tg e : Expr} {te : TE} {g : TG} (he : PE X e te) (hg : PG X tg g) (hs : swapsWithSole [tg] e pos.line X.env = pure false := by rfl) (hw : swappedStores [tg] e X.env = pure none := by rfl)
  (h1 : (assignEach [tg] X.env).map (·.2) = [assign tg X.env] := by rfl) : PS X (.Assign [tg] e pos) (Zrc te g) := by
 intro pins s σ H D I h;refine wpAny_Assign_stores (thn (he pins s σ H _ I h) fun v s1 ⟨x, H1, I1, r1, q1⟩ => ?_) hs hw;rw [h1];exact thn (hg pins s1 σ H1 x v _ I1 r1 q1) fun _ s2 q => q
theorem Zay {i : Nat} {x : Str} {e : Expr} {te : TE} {pos' : Pos} (hN : X.N.Nodup) (hi : X.N[i]? = some x) (hx : Loc X.env.scope x) (he : PE X e te) (hs : swapsWith e (some (.Name x pos')) pos.line X.env = pure false := by rfl) (hf : X.fn x = true \/ X.env.scope.names.lookup x = some .local := by first | exact .inl rfl | exact .inr rfl | assumption) :
  PS X (.Assign [.Name x pos'] e pos) (Zrc te (Zfu i)) := by
 intro pins s σ H D I h;refine wpAny_Assign_Name (thn (he pins s σ H _ I h) fun v s1 ⟨y, H1, I1, r1, q1⟩ => ?_) hs;exact Zfb I1 hN hi hx r1 (fun s2 I2 => ⟨_, H1, I2, q1⟩) hf
end
section
variable {X : Cx} {pos : Pos}
def Znc (c : TT) (tb : TS) : TS := fun D σ H => ∃ W : Nat -> St -> Hp -> Prop, (∃ m, W m σ H) /\ ∀ m σ H, W m σ H ->
 c σ H fun b H1 => if b = true then ∃ N : St -> Hp -> Prop, (∀ σ' H', N σ' H' -> ∃ m', m' < m /\ W m' σ' H') /\ tb { D with nx := N, ct := N, bk := D.nx } σ H1 else D.nx σ H1
theorem Zjm {c : Expr} {body : List Stmt} {tc : TT} {tb : TS} (hp : PassesOwn (model X.prog X.w) X.A X.env X.xe) (hc : PT X c tc) (hb : PSs X body tb) : PS X (.While c body [] pos) (Znc tc tb) := by
 intro pins s σ H D I h;obtain ⟨W, ⟨m0, w0⟩, turn⟩ := h;refine wpAny_While (codeAny_whileLoop (fun n s' => ∃ σ' H', Inv X pins σ' H' s' /\ W n σ' H') ?_ m0 ⟨σ, H, I, w0⟩);rintro n s1 ⟨σ1, H1, I1, w1⟩;refine wpAny_passesOwn hp (thn (hc pins s1 σ1 H1 _ I1 (turn n σ1 H1 w1)) fun b s2 ⟨H2, I2, q2⟩ => ?_);cases b with
 | true =>
  obtain ⟨N, hN, q2⟩ := q2;rw [if_pos rfl];refine wpAny_passesOwn hp (thn (hb pins s2 σ1 H2 _ I2 q2) fun f s3 q3 => ?_);cases f with
  | next =>
   obtain ⟨σ3, H3, I3, n3⟩ := q3;obtain ⟨m', hm, w3⟩ := hN σ3 H3 n3;exact ⟨m', hm, σ3, H3, I3, w3⟩
  | cont =>
   obtain ⟨σ3, H3, I3, n3⟩ := q3;obtain ⟨m', hm, w3⟩ := hN σ3 H3 n3;exact ⟨m', hm, σ3, H3, I3, w3⟩
  | brk => exact q3
  | ret v => exact q3
 | false =>
  rw [if_neg Bool.false_ne_true];exact wpAny_execs_nil ⟨σ1, H2, I2, q2⟩
end
structure It where
 go : Nat -> Hp -> Prop
 yld : Nat -> Hp -> V -> Hp -> Prop
 stop : Nat -> Hp -> Prop
def FpOk (X : Cx) (pins : List (Addr × Obj)) (H : Hp) (b : Addr) : Prop :=
 H b = none /\ b ≠ X.env.locals /\ b ∉ X.fs /\ (b ∈ X.ex \/ X.s₀.heap.objs.size <= b) /\ (∀ x c, X.env.cells.lookup x = some c -> c ≠ b) /\ ∀ p ∈ X.pn ++ pins, p.1 ≠ b
theorem Inv.fpOk {X : Cx} {pins : List (Addr × Obj)} {σ : St} {H H' : Hp} {s : Shared} {b : Addr} (I : Inv X pins σ H s) (hb : s.heap.objs.size <= b) (hn : H' b = none) : FpOk X pins H' b := by
 refine ⟨hn, Nat.ne_of_gt (Nat.lt_of_lt_of_le I.lt hb), I.nofs hb, .inr (Nat.le_trans I.sz hb), fun x c e z => ?_, fun p hp z => ?_⟩
 ·obtain ⟨v, q⟩ := I.cell x c e;exact absurd (Nat.lt_of_lt_of_le q.lt (by rw [z]; exact hb)) (Nat.lt_irrefl _)
 ·exact absurd (Nat.lt_of_lt_of_le (Heap.lt_size (I.pin p hp).1) (by rw [z]; exact hb)) (Nat.lt_irrefl _)
structure Zq9 (P : Program) (w : World) (K : PySem.W.Frag) (tg : Expr) (J : It) (fp : List Addr) (it : Addr) (tn : Nat -> Heap -> Prop) : Prop where
 mem : it ∈ fp
 obj : ∀ i h, tn i h -> ∀ b ∈ fp, ∃ o, h.get? b = some o /\ ∀ v, o.data ≠ .cell v
 keep : ∀ i h h', tn i h -> (∀ b ∈ fp, ∀ o, h.get? b = some o -> h'.get? b = some o) -> tn i h'
 item : ∀ (X : Cx), X.prog = P -> X.w = w -> X.K = K -> X.calm = true -> ∀ (i : Nat) (pins : List (Addr × Obj)) (s : Shared) (σ : St) (H : Hp) (E : Value -> Shared -> Prop), Inv X pins σ H s -> (∀ b ∈ fp, FpOk X pins H b) -> tn i s.heap -> J.go i H ->
  wpAny (model P w) X.A (pyNext (.ref it)) (fun r s1 => ∃ u, r = some u /\
   wpAny (model P w) X.A (letOwnedTupleGo tg (.ref it) u) (fun _ s2 => ∃ x H', Inv X pins σ H' s2 /\ RelV x u /\ J.yld i H x H' /\ tn (i + 1) s2.heap /\ ∀ b ∈ fp, H' b = none) E s1) E s
 done : ∀ (X : Cx), X.prog = P -> X.w = w -> X.K = K -> X.calm = true -> ∀ (i : Nat) (pins : List (Addr × Obj)) (s : Shared) (σ : St) (H : Hp) (E : Value -> Shared -> Prop), Inv X pins σ H s -> (∀ b ∈ fp, FpOk X pins H b) -> tn i s.heap -> J.stop i H ->
  wpAny (model P w) X.A (pyNext (.ref it)) (fun r s1 => r = none /\ Inv X pins σ H s1) E s
 self : ∀ (A : Around) (i : Nat) (s : Shared) (Q : Value -> Shared -> Prop) (E : Value -> Shared -> Prop), tn i s.heap -> Q (.ref it) s -> wpAny (model P w) A (pyIter (.ref it)) Q E s
abbrev TI := St -> Hp -> (It -> Hp -> Prop) -> Prop
def PIE (X : Cx) (pins : List (Addr × Obj)) (σ : St) (tg : Expr) (R : It -> Hp -> Prop) (itv : Value) (s2 : Shared) : Prop :=
 ∃ (it : Addr) (fp : List Addr) (tn : Nat -> Heap -> Prop) (J : It) (H' : Hp), itv = .ref it /\ Inv X pins σ H' s2 /\ Zq9 X.prog X.w X.K tg J fp it tn /\ tn 0 s2.heap /\ (∀ b ∈ fp, FpOk X pins H' b) /\ R J H'
def PI (X : Cx) (tg iter : Expr) (wi : TI) : Prop :=
 ∀ (pins : List (Addr × Obj)) (s : Shared) (σ : St) (H : Hp) (R : It -> Hp -> Prop), Inv X pins σ H s -> wi σ H R ->
  wpAny (model X.prog X.w) X.A (eval iter X.env) (fun v s1 => wpAny (model X.prog X.w) X.A (pyIter v) (PIE X pins σ tg R) X.xe s1) X.xe s
theorem Zo0 {M : Model} {A : Around} {E : Value -> Shared -> Prop} {s : Shared} {tg : Expr} {it : Addr} {u : Value} {o : Obj} {n : String} {vs : Array Value} {Q : Unit -> Shared -> Prop} (ho : s.heap.get? it = some o) (hc : o.cls = .type n) (hd : o.data = .fields vs)
    (hn : ["enumerate", "zip", "dict_itemiterator", "dict_reverseitemiterator", "odict_iterator", "itertools.zip_longest", "itertools.pairwise"].contains n = false) (hQ : Q () s) : wpAny M A (letOwnedTupleGo tg (.ref it) u) Q E s := by
  unfold letOwnedTupleGo
  cases tg <;> first
    | exact wpAny_pure hQ
    | (cases u <;> first
        | exact wpAny_pure hQ
        | (refine wpAny_bind (wpAny_load ho ?_)
           rw [hc, hd]
           show wpAny M A (if (["enumerate", "zip", "dict_itemiterator", "dict_reverseitemiterator", "odict_iterator", "itertools.zip_longest", "itertools.pairwise"].contains n && vs[0]? == some (rawInt _)) = true then _ else _) Q E s
           rw [if_neg (by intro h; rw [hn, Bool.false_and] at h; cases h)]
           exact wpAny_pure hQ))
def Itl (K : PySem.W.Frag) (a : Addr) : It :=
 ⟨fun i H => ∃ xs x, SqL K H a xs /\ xs[i]? = some x, fun i H x H' => H' = H /\ ∀ xs, SqL K H a xs -> xs[i]? = some x, fun i H => ∃ xs, SqL K H a xs /\ xs.length <= i⟩
def Itr (lo : Int) (n : Nat) : It := ⟨fun i _ => i < n, fun i H x H' => H' = H /\ x = .int (lo + i), fun i _ => n <= i⟩
theorem Zky {P : Program} {w : World} {K : PySem.W.Frag} {tg : Expr} (a it : Addr) : Zq9 P w K tg (Itl K a) [it] it (fun i h => h.IsListIter it a i) where
 mem := by simp
 obj := fun i h st b hb => by
  have e : b = it := by simpa using hb
  subst e;obtain ⟨o, e, c, d⟩ := st;exact ⟨o, e, fun v z => by rw [d] at z; cases z⟩
 keep := fun i h h' st k => st.at fun o e => k it (by simp) o e
 item := by
  intro X hP hw hK hc i pins s σ H E I hf st hg;subst hP hw hK;obtain ⟨xs, x, hq, hx⟩ := hg;obtain ⟨its, rv, p, hz⟩ := I.list hq;obtain ⟨u, hu, ru⟩ := rv.get hx;obtain ⟨f0, f1, f2, f3, f4, f5⟩ := hf it (by simp);refine wpAny_pyNext_list_item st p.isList (x := u) (by simpa using hu) fun h' st' sb => ?_
  have I1 : Inv X pins σ H { s with heap := h' } := I.turned (t' := s.toks) (fun b o hb e => (sb.2 b hb).trans e) f0 f1 f3 f4 f5;obtain ⟨o, e, c, d⟩ := id st';exact ⟨u, rfl, Zo0 (s := { s with heap := h' }) e c d (by decide) ⟨x, H, I1, ru, ⟨rfl, fun ys hy => by rw [I.list_inj hy hq]; exact hx⟩, st', fun b hb => (hf b hb).1⟩⟩
 done := by
  intro X hP hw hK hc i pins s σ H E I hf st hg;subst hP hw hK;obtain ⟨xs, hq, hx⟩ := hg;obtain ⟨its, rv, p, hz⟩ := I.list hq;obtain ⟨f0, f1, f2, f3, f4, f5⟩ := hf it (by simp);have hl := rv.length;exact wpAny_pyNext_list_end (I.ok.hd hc) st p.isList (by simp; omega) fun h' eb => ⟨rfl, I.turned (t' := s.toks) (fun b o hb e => eb b o hb e) f0 f1 f3 f4 f5⟩
 self := fun _ _ _ _ _ st h => wpAny_pyIter_listiter st h
theorem Zj2 {P : Program} {w : World} {K : PySem.W.Frag} {tg : Expr} (it : Addr) (lo : Int) (n : Nat) : Zq9 P w K tg (Itr lo n) [it] it (fun i h => IsRangeIter h it (lo + (i : Nat) * 1) ((n : Int) - (i : Nat)) 1) where
 mem := by simp
 obj := fun i h st b hb => by
  have e : b = it := by simpa using hb
  subst e;exact ⟨_, st, fun v z => by
   have z' : Data.fields _ = Data.cell v := z;cases z'⟩
 keep := fun i h h' st k => k it (by simp) _ st
 item := by
  intro X hP hw hK hc i pins s σ H E I hf st hg;subst hP hw hK;obtain ⟨f0, f1, f2, f3, f4, f5⟩ := hf it (by simp);have W := Walks.range (prog := X.prog) (w := X.w) (I.ok.hd hc) it lo 1 n;refine W.item i s _ _ hg st fun v h' tk hv st' kk => ?_
  obtain ⟨t, rfl⟩ := hv;have I1 : Inv X pins σ H { s with heap := h', toks := tk } := I.turned (fun b o hb e => kk b o (by simpa using hb) e) f0 f1 f3 f4 f5;refine ⟨_, rfl, Zo0 (s := { s with heap := h', toks := tk }) (n := "range_iterator") st' rfl rfl (by decide) ⟨.int (lo + i), H, I1, ⟨t, ?_⟩, ⟨rfl, rfl⟩, st', fun b hb => (hf b hb).1⟩⟩;rw [Int.mul_one]
 done := by
  intro X hP hw hK hc i pins s σ H E I hf st hg;subst hP hw hK;obtain ⟨f0, f1, f2, f3, f4, f5⟩ := hf it (by simp);exact wpAny_pyNext_range_end (I.ok.hd hc) st (by have : n <= i := hg; omega) fun h' eb => ⟨rfl, I.turned (t' := s.toks) (fun b o hb e => eb b o hb e) f0 f1 f3 f4 f5⟩
 self := fun _ _ _ _ _ st h => wpAny_pyIter_rangeiter st h
end L2
namespace L2
open PySem PySem.Spec PyProof.Rows
section
variable {X : Cx} {tg : Expr}
def Zoz (K : PySem.W.Frag) (tl : TE) : TI := fun σ H R => tl σ H fun x H1 => ∃ a, x = .ref a /\ (∃ xs, SqL K H1 a xs) /\ R (Itl K a) H1
theorem Zoi {l : Expr} {tl : TE} (hl : PE X l tl) : PI X tg l (Zoz X.K tl) := by
 intro pins s σ H R I h;refine thn (hl pins s σ H _ I h) fun v s1 ⟨x, H1, I1, r1, q1⟩ => ?_
 obtain ⟨a, e, ⟨xs, hq⟩, q⟩ := q1;subst e;cases r1;obtain ⟨its, rv, p, hz⟩ := I1.list hq;refine wpAny_pyIter_list p.isList ?_;refine ⟨s1.heap.objs.size, [s1.heap.objs.size], _, _, H1, rfl, I1.kept (t' := s1.toks) fun b o e => Heap.get?_push_of_some _ e, Zky a _, ⟨_, Heap.get?_push_size _ rfl, rfl, rfl⟩, fun b hb => ?_, q⟩;have e : b = s1.heap.objs.size := by simpa using hb
 subst e;exact I1.fpOk (Nat.le_refl _) (I1.hok.fresh (Nat.le_refl _))
theorem Zmr {pins : List (Addr × Obj)} {σ : St} {H : Hp} {s : Shared} {R : It -> Hp -> Prop} {E : Value -> Shared -> Prop} {lo hi : Int} {t u v : Tok} {tk : Nat} (I : Inv X pins σ H s) (h1 : -(2 ^ 62) <= lo) (h2 : lo < 2 ^ 62) (h3 : -(2 ^ 62) <= hi) (h4 : hi < 2 ^ 62)
  (q : R (Itr lo (hi - lo).toNat) H) : wpAny (model X.prog X.w) X.A (pyIter (.ref s.heap.objs.size)) (PIE X pins σ tg R) E { s with heap := s.heap.push { cls := .type "range", data := .fields #[.int lo t, .int hi u, .int 1 v] }, toks := tk } := by
 refine wpAny_pyIter_range (IsRange.new ..) (small_one h1 h2 h3 h4) ?_;have I1 : Inv X pins σ H { s with heap := s.heap.push { cls := .type "range", data := .fields #[.int lo t, .int hi u, .int 1 v] }, toks := tk } := I.kept fun b o e => Heap.get?_push_of_some _ e
 refine ⟨(s.heap.push { cls := .type "range", data := .fields #[.int lo t, .int hi u, .int 1 v] }).objs.size, [(s.heap.push { cls := .type "range", data := .fields #[.int lo t, .int hi u, .int 1 v] }).objs.size], _, _, H, rfl,
  I1.kept (t' := tk) fun b o e => Heap.get?_push_of_some _ e, Zj2 _ lo (hi - lo).toNat, ?_, fun b hb => ?_, q⟩
 ·have e1 : lo + ((0 : Nat) : Int) * 1 = lo := by simp
  have e2 : (((hi - lo).toNat : Nat) : Int) - ((0 : Nat) : Int) = Builtin.Range.rangeSize lo hi 1 := by rw [rangeSize_one]; split <;> omega
  show IsRangeIter _ _ (lo + ((0 : Nat) : Int) * 1) ((((hi - lo).toNat : Nat) : Int) - ((0 : Nat) : Int)) 1;rw [e1, e2];exact Heap.get?_push_size _ rfl
 ·have e : b = (s.heap.push { cls := .type "range", data := .fields #[.int lo t, .int hi u, .int 1 v] }).objs.size := by simpa using hb
  subst e;exact I1.fpOk (Nat.le_refl _) (I1.hok.fresh (Nat.le_refl _))
def Zq6 (ta : TA) : TI := fun σ H R => ta σ H fun vs H1 => ∃ j : Int, vs = [.int j] /\ -(2 ^ 62) <= j /\ j < 2 ^ 62 /\ R (Itr 0 j.toNat) H1
def Zsh (ta : TA) : TI := fun σ H R => ta σ H fun vs H1 => ∃ i j : Int, vs = [.int i, .int j] /\ (-(2 ^ 62) <= i /\ i < 2 ^ 62 /\ -(2 ^ 62) <= j /\ j < 2 ^ 62) /\ R (Itr i (j - i).toNat) H1
theorem Zdx {a : Expr} {ta : TA} {p pos : Pos} (hg : Gl X "range") (hm : X.mg "range" = none) (ha : PA X [a] ta) (hs : starEach [a] X.env = [(false, eval a X.env)] := by rfl) : PI X tg (.Call (.Name "range" p) [a] [] pos) (Zq6 ta) := by
 intro pins s σ H R I h;refine Call_ (Zjr I hg hm boot_range (PyProof.Rows.callWith_type1 (thn (ha pos pins s σ H _ I h) fun us s1 ⟨vs, H1, I1, r1, q1⟩ => ?_) hs rfl));obtain ⟨j, e, q1, q2, q⟩ := q1;subst e;cases r1 with
 | cons r rr =>
  cases rr;obtain ⟨t, rfl⟩ := r;exact call_range_1 (Zmr I1 (by omega) (by omega) q1 q2 (by simpa using q))
def Zsw (wi : TI) (g : TG) (tb : TS) : TS := fun D σ H => wi σ H fun J H1 => ∃ W : Nat -> Nat -> St -> Hp -> Prop, (∃ m, W 0 m σ H1) /\ ∀ i m σ H, W i m σ H ->
 (J.stop i H /\ D.nx σ H) \/ (J.go i H /\ ∃ N : St -> Hp -> Prop, (∀ σ' H', N σ' H' -> ∃ m', m' < m /\ W (i + 1) m' σ' H') /\ ∀ x H', J.yld i H x H' -> g x σ H' fun σ2 H2 => tb { D with nx := N, ct := N, bk := D.nx } σ2 H2)
def Zhq (fp : List Addr) (h : Heap) : List (Addr × Obj) := fp.filterMap fun b => (h.get? b).map fun o => (b, o)
theorem Zdz {fp : List Addr} {h : Heap} {b : Addr} {o : Obj} (hb : b ∈ fp) (e : h.get? b = some o) : (b, o) ∈ Zhq fp h := List.mem_filterMap.mpr ⟨b, hb, by rw [e]; rfl⟩
theorem Zll {fp : List Addr} {h : Heap} {p : Addr × Obj} (hp : p ∈ Zhq fp h) : p.1 ∈ fp /\ h.get? p.1 = some p.2 := by
 obtain ⟨b, hb, e⟩ := List.mem_filterMap.mp hp;cases q : h.get? b with
 | none => rw [q] at e; cases e
 | some o =>
  rw [q] at e;have e' : (b, o) = p := Option.some.inj e;subst e';exact ⟨hb, q⟩
theorem Inv.pinned {pins : List (Addr × Obj)} {σ : St} {H : Hp} {s : Shared} {fp : List Addr} (I : Inv X pins σ H s) (hf : ∀ b ∈ fp, FpOk X pins H b) (ho : ∀ b ∈ fp, ∃ o, s.heap.get? b = some o /\ ∀ v, o.data ≠ .cell v) : Inv X (pins ++ Zhq fp s.heap) σ H s :=
 I.pins_of fun p hp => (List.mem_append.mp hp).elim (fun z => I.pin p (List.mem_append_right _ z)) fun z => by
  obtain ⟨hb, e⟩ := Zll z;obtain ⟨f0, f1, f2, _⟩ := hf p.1 hb;obtain ⟨o, e', d⟩ := ho p.1 hb;rw [e] at e'; cases e';exact ⟨e, f0, f1, f2, d⟩
theorem Inv.unpinned {pins pl : List (Addr × Obj)} {σ : St} {H : Hp} {s : Shared} (I : Inv X (pins ++ pl) σ H s) : Inv X pins σ H s := I.pins_of fun p hp => I.pin p (List.mem_append_right _ (List.mem_append_left _ hp))
theorem Zfo {iter : Expr} {body : List Stmt} {wi : TI} {g : TG} {tb : TS} {pos : Pos} (hp : PassesOwn (model X.prog X.w) X.A X.env X.xe) (hc : X.calm = true) (hi : PI X tg iter wi) (hg : PG X tg g) (hb : PSs X body tb)
  (hs : ∀ x, foldedSetIterable iter X.env x = pure x := by intro _; rfl) : PS X (.For tg iter body [] pos) (Zsw wi g tb) := by
 intro pins s σ H D I h;refine wpAny_For (thn (hi pins s σ H _ I h) fun v s1 h1 => thn h1 fun itv s2 h2 => ?_) hs;obtain ⟨it, fp, tn, J, H2, e, I2, T, st2, f2, W, ⟨m0, w0⟩, turn⟩ := h2;subst e
 -- what stays true of the iterator's objects through the loop
 have stat : ∀ {H' : Hp}, (∀ b ∈ fp, H' b = none) -> ∀ b ∈ fp, FpOk X pins H' b := fun hn b hb => ⟨hn b hb, (f2 b hb).2⟩
 refine codeAny_forLoop_any (fun n s' => ∃ i σ' H', Inv X pins σ' H' s' /\ tn i s'.heap /\ (∀ b ∈ fp, H' b = none) /\ W i n σ' H') ?_ m0 ⟨0, σ, H2, I2, st2, fun b hb => (f2 b hb).1, w0⟩;rintro n s3 ⟨i, σ3, H3, I3, st3, fr3, w3⟩;rcases turn i n σ3 H3 w3 with ⟨stop, qn⟩ | ⟨go, N, hN, step⟩
 ·refine wpAny_passesOwn hp (thn (T.done X rfl rfl rfl hc i pins s3 σ3 H3 X.xe I3 (stat fr3) st3 stop) fun r s4 ⟨hr, I4⟩ => ?_);subst hr;exact wpAny_execs_nil ⟨σ3, H3, I4, qn⟩
 ·refine wpAny_passesOwn hp (thn (T.item X rfl rfl rfl hc i pins s3 σ3 H3 X.xe I3 (stat fr3) st3 go) fun r s4 ⟨u, hr, h4⟩ => ?_);subst hr;refine wpAny_passesOwn hp (thn h4 fun _ s5 ⟨x, H5, I5, r5, y5, st5, fr5⟩ => ?_);have I5' := I5.pinned (stat fr5) (T.obj _ _ st5);refine wpAny_passesOwn hp (thn (hg _ s5 σ3 H5 x u _ I5' r5 (step x H5 y5)) fun _ s6 ⟨σ6, H6, I6, q6⟩ => ?_);refine wpAny_passesOwn hp (thn (hb _ s6 σ6 H6 _ I6 q6) fun f s7 q7 => ?_);have again : ∀ {σ7 : St} {H7 : Hp}, Inv X (pins ++ Zhq fp s5.heap) σ7 H7 s7 -> N σ7 H7 -> ∃ m, m < n /\ ∃ i σ' H', Inv X pins σ' H' s7 /\ tn i s7.heap /\ (∀ b ∈ fp, H' b = none) /\ W i m σ' H' := fun {σ7 H7} I7 n7 => by
   obtain ⟨m', hm, w7⟩ := hN σ7 H7 n7;refine ⟨m', hm, i + 1, σ7, H7, I7.unpinned, T.keep _ _ _ st5 fun b hb o e => (I7.pin (b, o) (List.mem_append_right _ (List.mem_append_right _ (Zdz hb e)))).1, fun b hb => ?_, w7⟩;obtain ⟨o, e, d⟩ := T.obj _ _ st5 b hb;exact (I7.pin (b, o) (List.mem_append_right _ (List.mem_append_right _ (Zdz hb e)))).2.1
  cases f with
  | next => obtain ⟨σ7, H7, I7, n7⟩ := q7; exact again I7 n7
  | cont => obtain ⟨σ7, H7, I7, n7⟩ := q7; exact again I7 n7
  | brk => obtain ⟨σ7, H7, I7, q7⟩ := q7; exact ⟨σ7, H7, I7.unpinned, q7⟩
  | ret v => obtain ⟨x7, σ7, H7, I7, r7, q7⟩ := q7; exact ⟨x7, σ7, H7, I7.unpinned, r7, q7⟩
end
theorem Zm7 {K : PySem.W.Frag} {a : Addr} {xs : List V} {g : TG} {tb : TS} {D : Zks} {σ : St} {H : Hp} (Pv : Nat -> St -> Hp -> Prop) (h0 : Pv 0 σ H) (hl : ∀ i σ H, i <= xs.length -> Pv i σ H -> SqL K H a xs)
  (hs : ∀ i x σ H, xs[i]? = some x -> Pv i σ H -> g x σ H fun σ2 H2 => tb { D with nx := Pv (i + 1), ct := Pv (i + 1), bk := D.nx } σ2 H2) (hd : ∀ σ H, Pv xs.length σ H -> D.nx σ H) :
  ∃ W : Nat -> Nat -> St -> Hp -> Prop, (∃ m, W 0 m σ H) /\ ∀ i m σ H, W i m σ H ->
   ((Itl K a).stop i H /\ D.nx σ H) \/ ((Itl K a).go i H /\ ∃ N : St -> Hp -> Prop, (∀ σ' H', N σ' H' -> ∃ m', m' < m /\ W (i + 1) m' σ' H') /\ ∀ x H', (Itl K a).yld i H x H' -> g x σ H' fun σ2 H2 => tb { D with nx := N, ct := N, bk := D.nx } σ2 H2) := by
 refine ⟨fun i m σ H => m = xs.length - i /\ i <= xs.length /\ Pv i σ H, ⟨xs.length, by simp, Nat.zero_le _, h0⟩, ?_⟩;rintro i m σ H ⟨rfl, hi, p⟩;have q := hl i σ H hi p
 by_cases hlt : i < xs.length
 ·refine .inr ⟨⟨xs, xs[i], q, by simp [hlt]⟩, Pv (i + 1), fun σ' H' p' => ⟨xs.length - (i + 1), by omega, rfl, hlt, p'⟩, fun x H' y => ?_⟩;obtain ⟨e, y⟩ := y;subst e;exact hs i x σ _ (y xs q) p
 ·have e : i = xs.length := by omega
  subst e;exact .inl ⟨⟨xs, q, Nat.le_refl _⟩, hd σ H p⟩
theorem Zly {lo : Int} {n : Nat} {g : TG} {tb : TS} {D : Zks} {σ : St} {H : Hp} (Pv : Nat -> St -> Hp -> Prop) (h0 : Pv 0 σ H)
  (hs : ∀ i σ H, i < n -> Pv i σ H -> g (.int (lo + i)) σ H fun σ2 H2 => tb { D with nx := Pv (i + 1), ct := Pv (i + 1), bk := D.nx } σ2 H2) (hd : ∀ σ H, Pv n σ H -> D.nx σ H) :
  ∃ W : Nat -> Nat -> St -> Hp -> Prop, (∃ m, W 0 m σ H) /\ ∀ i m σ H, W i m σ H ->
   ((Itr lo n).stop i H /\ D.nx σ H) \/ ((Itr lo n).go i H /\ ∃ N : St -> Hp -> Prop, (∀ σ' H', N σ' H' -> ∃ m', m' < m /\ W (i + 1) m' σ' H') /\ ∀ x H', (Itr lo n).yld i H x H' -> g x σ H' fun σ2 H2 => tb { D with nx := N, ct := N, bk := D.nx } σ2 H2) := by
 refine ⟨fun i m σ H => m = n - i /\ i <= n /\ Pv i σ H, ⟨n, by simp, Nat.zero_le _, h0⟩, ?_⟩;rintro i m σ H ⟨rfl, hi, p⟩
 by_cases hlt : i < n
 ·refine .inr ⟨hlt, Pv (i + 1), fun σ' H' p' => ⟨n - (i + 1), by omega, rfl, hlt, p'⟩, fun x H' y => ?_⟩;obtain ⟨e, y⟩ := y;subst e y;exact hs i σ _ hlt p
 ·have e : i = n := by omega
  subst e;exact .inl ⟨Nat.le_refl _, hd σ H p⟩
end L2
namespace L2
open PySem PySem.Spec PyProof.Rows
abbrev R2 := V -> V -> Hp -> VK -> Prop
def OpR (X : Cx) (f : Value -> Value -> Sem Value) (r : R2) : Prop :=
 ∀ (pins : List (Addr × Obj)) (s : Shared) (σ : St) (H : Hp) (x y : V) (v u : Value) (Q : VK), Inv X pins σ H s -> RelV x v -> RelV y u -> r x y H Q ->
  wpAny (model X.prog X.w) X.A (f v u) (EP X pins σ Q) X.xe s
def UnR (X : Cx) (f : Value -> Sem Value) (r : V -> Hp -> VK -> Prop) : Prop :=
 ∀ (pins : List (Addr × Obj)) (s : Shared) (σ : St) (H : Hp) (x : V) (v : Value) (Q : VK), Inv X pins σ H s -> RelV x v -> r x H Q ->
  wpAny (model X.prog X.w) X.A (f v) (EP X pins σ Q) X.xe s
def CallR (X : Cx) (f : Value) (r : List V -> Hp -> VK -> Prop) : Prop :=
 ∀ (pins : List (Addr × Obj)) (s : Shared) (σ : St) (H : Hp) (xs : List V) (us : List Value) (Q : VK), Inv X pins σ H s -> Vals xs us -> r xs H Q ->
  wpAny (model X.prog X.w) X.A (call f us) (EP X pins σ Q) X.xe s
def tOp (r : R2) (ta tb : TE) : TE := fun σ H Q => ta σ H fun x H1 => tb σ H1 fun y H2 => r x y H2 Q
def tUn (r : V -> Hp -> VK -> Prop) (ta : TE) : TE := fun σ H Q => ta σ H fun x H1 => r x H1 Q
def rI (C : Int -> Int -> Prop) (g : Int -> Int -> V) : R2 := fun x y H Q => ∃ i j, x = .int i /\ y = .int j /\ C i j /\ Q (g i j) H
def rI0 (g : Int -> Int -> V) : R2 := fun x y H Q => ∃ i j, x = .int i /\ y = .int j /\ Q (g i j) H
def rU (g : Int -> V) : V -> Hp -> VK -> Prop := fun x H Q => ∃ i, x = .int i /\ Q (g i) H
section
variable {X : Cx} {a b c : Expr} {ta tb tc : TE} {pos : Pos}
theorem Zsl (ha : PE X a ta) (hb : PE X b tb) {pins : List (Addr × Obj)} {s : Shared} {σ : St} {H : Hp} {R : V -> V -> Hp -> Prop} (I : Inv X pins σ H s)
  (h : ta σ H fun x H1 => tb σ H1 fun y H2 => R x y H2) {Q : Value -> Shared -> Prop} {f : Value -> Value -> Sem Value}
  (hf : ∀ v u s2 x y H2, Inv X pins σ H2 s2 -> RelV x v -> RelV y u -> R x y H2 -> wpAny (model X.prog X.w) X.A (f v u) Q X.xe s2) :
  wpAny (model X.prog X.w) X.A (eval a X.env) (fun v s₁ => wpAny (model X.prog X.w) X.A (eval b X.env) (fun u s₂ => wpAny (model X.prog X.w) X.A (f v u) Q X.xe s₂) X.xe s₁) X.xe s := by
 refine thn (ha pins s σ H _ I h) fun v s1 ⟨x, H1, I1, r1, q1⟩ => ?_
 refine thn (hb pins s1 σ H1 _ I1 q1) fun u s2 ⟨y, H2, I2, r2, q2⟩ => ?_
 exact hf v u s2 x y H2 I2 r1 r2 q2
theorem Za2 {op : Operator} {r : R2} (ho : OpR X (binaryOp op) r) (ha : PE X a ta) (hb : PE X b tb) : PE X (.BinOp a op b pos) (tOp r ta tb) := by
 intro pins s σ H Q I h;exact wpAny_BinOp (Zsl ha hb I h fun v u s2 x y H2 I2 rx ry q => ho pins s2 σ H2 x y v u Q I2 rx ry q)
theorem Zoj {op : UnaryOp} {r : V -> Hp -> VK -> Prop} (ho : UnR X (unaryOp op) r) (ha : PE X a ta) : PE X (.UnaryOp op a pos) (tUn r ta) := by
 intro pins s σ H Q I h;exact UnaryOp_ (thn (ha pins s σ H _ I h) fun v s1 ⟨x, H1, I1, r1, q1⟩ => ho pins s1 σ H1 x v Q I1 r1 q1)
theorem opI {f : Value -> Value -> Sem Value} {C : Int -> Int -> Prop} {g : Int -> Int -> Int}
  (rule : ∀ (i j : Int) (t u : Tok) (s : Shared) (Q : Value -> Shared -> Prop) (E : Value -> Shared -> Prop), C i j -> Q (.int (g i j) s.toks) { s with toks := s.toks + 1 } -> wpAny (model X.prog X.w) X.A (f (.int i t) (.int j u)) Q E s) :
  OpR X f (rI C fun i j => .int (g i j)) := by
 intro pins s σ H x y v u Q I rx ry h;obtain ⟨i, j, rfl, rfl, hc, q⟩ := h;obtain ⟨t, rfl⟩ := rx;obtain ⟨t', rfl⟩ := ry;exact rule i j t t' s _ _ hc ⟨.int (g i j), H, I.tok _, ⟨_, rfl⟩, q⟩
theorem Zs3 {f : Value -> Value -> Sem Value} {g : Int -> Int -> Int}
  (rule : ∀ (i j : Int) (t u : Tok) (s : Shared) (Q : Value -> Shared -> Prop) (E : Value -> Shared -> Prop), Q (.int (g i j) s.toks) { s with toks := s.toks + 1 } -> wpAny (model X.prog X.w) X.A (f (.int i t) (.int j u)) Q E s) :
  OpR X f (rI0 fun i j => .int (g i j)) := by
 intro pins s σ H x y v u Q I rx ry h;obtain ⟨i, j, rfl, rfl, q⟩ := h;obtain ⟨t, rfl⟩ := rx;obtain ⟨t', rfl⟩ := ry;exact rule i j t t' s _ _ ⟨.int (g i j), H, I.tok _, ⟨_, rfl⟩, q⟩
theorem Zre {f : Value -> Value -> Sem Value} {g : Int -> Int -> Bool}
  (rule : ∀ (i j : Int) (t u : Tok) (s : Shared) (Q : Value -> Shared -> Prop) (E : Value -> Shared -> Prop), Q (.bool (g i j)) s -> wpAny (model X.prog X.w) X.A (f (.int i t) (.int j u)) Q E s) :
  OpR X f (rI0 fun i j => .bl (g i j)) := by
 intro pins s σ H x y v u Q I rx ry h;obtain ⟨i, j, rfl, rfl, q⟩ := h;obtain ⟨t, rfl⟩ := rx;obtain ⟨t', rfl⟩ := ry;exact rule i j t t' s _ _ ⟨.bl (g i j), H, I, rfl, q⟩
def Ztt (i j : Int) : Prop := 0 < j /\ j < 1073741824
def Zts (i j : Int) : Prop := 0 <= j /\ j <= 1000000 /\ i.natAbs < 2 ^ 64
def CMul (i j : Int) : Prop := (-(2 ^ 64) < i /\ i < 2 ^ 64) \/ (-(2 ^ 64) < j /\ j < 2 ^ 64)
theorem CMul.ok {i j : Int} (h : CMul i j) : IntMulOk i j := by
 rcases h with ⟨h1, h2⟩ | ⟨h1, h2⟩
 ·exact .of_left (intBits_le_64 h1 h2)
 ·exact .of_right (intBits_le_64 h1 h2)
theorem Zcg : OpR X (binaryOp .Add) (rI0 fun i j => .int (i + j)) := Zs3 fun _ _ _ _ _ _ _ q => add_int q
theorem Zht : OpR X (binaryOp .Sub) (rI0 fun i j => .int (i - j)) := Zs3 fun _ _ _ _ _ _ _ q => sub_int q
theorem Zjp : OpR X (binaryOp .Mult) (rI CMul fun i j => .int (i * j)) := opI fun _ _ _ _ _ _ _ hc q => mul_int q hc.ok
theorem Zg1 : OpR X (binaryOp .FloorDiv) (rI Ztt fun i j => .int (i / j)) := opI fun i j _ _ _ _ _ hc q => by
 have h1 : (0 : Int) < j := hc.1;have h2 : j < 1073741824 := hc.2;exact floordiv_int (by omega) (by rw [Int.fdiv_eq_ediv_of_nonneg i (by omega)]; exact q) (.inl (PyProof.noPylong_small (by omega)))
theorem Zd3 : OpR X (binaryOp .Mod) (rI (fun _ j => 0 < j) fun i j => .int (i % j)) := opI fun i j _ _ _ _ _ hc q => by
 have h1 : (0 : Int) < j := hc;exact mod_int' (by omega) (by rw [Int.fmod_eq_emod_of_nonneg i (by omega)]; exact q)
theorem Znq : OpR X (binaryOp .Pow) (rI Zts fun i j => .int (i ^ j.toNat)) := opI fun _ _ _ _ _ _ _ hc q => pow_int_small hc.1 hc.2.1 hc.2.2 q
theorem unI {f : Value -> Sem Value} {g : Int -> Int}
  (rule : ∀ (i : Int) (t : Tok) (s : Shared) (Q : Value -> Shared -> Prop) (E : Value -> Shared -> Prop), Q (.int (g i) s.toks) { s with toks := s.toks + 1 } -> wpAny (model X.prog X.w) X.A (f (.int i t)) Q E s) :
  UnR X f (rU fun i => .int (g i)) := by
 intro pins s σ H x v Q I rx h;obtain ⟨i, rfl, q⟩ := h;obtain ⟨t, rfl⟩ := rx;exact rule i t s _ _ ⟨.int (g i), H, I.tok _, ⟨_, rfl⟩, q⟩
theorem Zku : UnR X (unaryOp .USub) (rU fun i => .int (-i)) := unI fun _ _ _ _ _ q => neg_int q
end
def scal : V -> V -> Bool
 | .non, .non => true | .non, .int _ => true | .int _, .non => true | .non, .bl _ => true | .bl _, .non => true | .non, .str _ => true | .str _, .non => true
 | .int _, .int _ => true | .bl _, .bl _ => true | .str _, .str _ => true | .byt _, .byt _ => true
 | .int _, .str _ => true | .str _, .int _ => true | .bl _, .str _ => true | .str _, .bl _ => true
 | _, _ => false
def rEq : R2 := fun x y H Q => scal x y = true /\ Q (.bl (decide (x = y))) H
def rNe : R2 := fun x y H Q => scal x y = true /\ Q (.bl (!decide (x = y))) H
theorem Zl5 {i j : Int} : decide (V.int i = V.int j) = (i == j) := by
 rw [Bool.eq_iff_iff];simp
theorem Znt {i j : Bool} : decide (V.bl i = V.bl j) = (i == j) := by
 rw [Bool.eq_iff_iff];simp
theorem Zl4 {i j : Str} : decide (V.str i = V.str j) = (i == j) := by
 rw [Bool.eq_iff_iff];simp
theorem Zl6 {i j : Array UInt8} : decide (V.byt i = V.byt j) = (i.toList == j.toList) := by
 rw [Bool.eq_iff_iff];cases i;cases j;simp
section
variable {X : Cx} {a b c : Expr} {ta tb tc : TE} {pos : Pos}
theorem Za6 {pins : List (Addr × Obj)} {σ : St} {H : Hp} {s : Shared} {Q : VK} {k k' : Bool} (I : Inv X pins σ H s) (q : Q (.bl k) H) (e : k = k') : EP X pins σ Q (.bool k') s := by
 subst e;exact ⟨.bl k, H, I, rfl, q⟩
theorem Zon : OpR X (compareOp .Eq) rEq := by
 intro pins s σ H x y v u Q I rx ry h;obtain ⟨hs, q⟩ := h;cases x with
 | non =>
  cases rx;cases y with
  | non => cases ry; exact PySem.EqNone.eq_none_none (Za6 I q (by simp))
  | bl j => cases ry; exact PySem.EqNone.eq_none_bool (Za6 I q (by simp))
  | int j => obtain ⟨t', rfl⟩ := ry; exact PySem.EqNone.eq_none_int (Za6 I q (by simp))
  | str j => obtain ⟨t', rfl⟩ := ry; exact PySem.EqNone.eq_none_str (Za6 I q (by simp))
  | _ => exact absurd (show false = true from hs) Bool.false_ne_true
 | bl i =>
  cases rx;cases y with
  | non => cases ry; exact PySem.EqNone.eq_bool_none (Za6 I q (by simp))
  | bl j => cases ry; exact eq_bool (Za6 I q Znt)
  | str j => obtain ⟨t', rfl⟩ := ry; exact PySem.EqMixed.eq_bool_str (Za6 I q (by simp))
  | _ => exact absurd (show false = true from hs) Bool.false_ne_true
 | int i =>
  obtain ⟨t, rfl⟩ := rx;cases y with
  | non => cases ry; exact PySem.EqNone.eq_int_none (Za6 I q (by simp))
  | int j => obtain ⟨t', rfl⟩ := ry; exact eq_int (Za6 I q Zl5)
  | str j => obtain ⟨t', rfl⟩ := ry; exact PySem.EqMixed.eq_int_str (Za6 I q (by simp))
  | _ => exact absurd (show false = true from hs) Bool.false_ne_true
 | str i =>
  obtain ⟨t, rfl⟩ := rx;cases y with
  | non => cases ry; exact PySem.EqNone.eq_str_none (Za6 I q (by simp))
  | bl j => cases ry; exact PySem.EqMixed.eq_str_bool (Za6 I q (by simp))
  | int j => obtain ⟨t', rfl⟩ := ry; exact PySem.EqMixed.eq_str_int (Za6 I q (by simp))
  | str j => obtain ⟨t', rfl⟩ := ry; exact eq_str (Za6 I q Zl4)
  | _ => exact absurd (show false = true from hs) Bool.false_ne_true
 | byt i =>
  obtain ⟨t, rfl⟩ := rx;cases y with
  | byt j => obtain ⟨t', rfl⟩ := ry; exact PySem.W.eq_bytes (Za6 I q Zl6)
  | _ => exact absurd (show false = true from hs) Bool.false_ne_true
 | _ => cases y <;> exact absurd (show false = true from hs) Bool.false_ne_true
theorem Zhu : OpR X (compareOp .NotEq) rNe := by
 intro pins s σ H x y v u Q I rx ry h;obtain ⟨hs, q⟩ := h;cases x with
 | non =>
  cases rx;cases y with
  | non => cases ry; exact PySem.EqNone.ne_none_none (Za6 I q (by simp))
  | bl j => cases ry; exact PySem.EqNone.ne_none_bool (Za6 I q (by simp))
  | int j => obtain ⟨t', rfl⟩ := ry; exact PySem.EqNone.ne_none_int (Za6 I q (by simp))
  | str j => obtain ⟨t', rfl⟩ := ry; exact PySem.EqNone.ne_none_str (Za6 I q (by simp))
  | _ => exact absurd (show false = true from hs) Bool.false_ne_true
 | bl i =>
  cases rx;cases y with
  | non => cases ry; exact PySem.EqNone.ne_bool_none (Za6 I q (by simp))
  | bl j => cases ry; exact ne_bool (Za6 I q (congrArg not Znt))
  | str j => obtain ⟨t', rfl⟩ := ry; exact PySem.EqMixed.ne_bool_str (Za6 I q (by simp))
  | _ => exact absurd (show false = true from hs) Bool.false_ne_true
 | int i =>
  obtain ⟨t, rfl⟩ := rx;cases y with
  | non => cases ry; exact PySem.EqNone.ne_int_none (Za6 I q (by simp))
  | int j => obtain ⟨t', rfl⟩ := ry; exact ne_int (Za6 I q (congrArg not Zl5))
  | str j => obtain ⟨t', rfl⟩ := ry; exact PySem.EqMixed.ne_int_str (Za6 I q (by simp))
  | _ => exact absurd (show false = true from hs) Bool.false_ne_true
 | str i =>
  obtain ⟨t, rfl⟩ := rx;cases y with
  | non => cases ry; exact PySem.EqNone.ne_str_none (Za6 I q (by simp))
  | bl j => cases ry; exact PySem.EqMixed.ne_str_bool (Za6 I q (by simp))
  | int j => obtain ⟨t', rfl⟩ := ry; exact PySem.EqMixed.ne_str_int (Za6 I q (by simp))
  | str j => obtain ⟨t', rfl⟩ := ry; exact ne_str (Za6 I q (congrArg not Zl4))
  | _ => exact absurd (show false = true from hs) Bool.false_ne_true
 | byt i =>
  obtain ⟨t, rfl⟩ := rx;cases y with
  | byt j => obtain ⟨t', rfl⟩ := ry; exact PySem.W.ne_bytes (Za6 I q (congrArg not Zl6))
  | _ => exact absurd (show false = true from hs) Bool.false_ne_true
 | _ => cases y <;> exact absurd (show false = true from hs) Bool.false_ne_true
theorem Zmx : OpR X (compareOp .Lt) (rI0 fun i j => .bl (decide (i < j))) := Zre fun _ _ _ _ _ _ _ q => lt_int q
theorem Zf4 : OpR X (compareOp .LtE) (rI0 fun i j => .bl (decide (i <= j))) := Zre fun _ _ _ _ _ _ _ q => le_int q
theorem Ziv : OpR X (compareOp .Gt) (rI0 fun i j => .bl (decide (j < i))) := Zre fun _ _ _ _ _ _ _ q => gt_int q
theorem Zsc : OpR X (compareOp .GtE) (rI0 fun i j => .bl (decide (j <= i))) := Zre fun _ _ _ _ _ _ _ q => ge_int q
theorem Zbe (b : Expr) {op : CmpOp} (h : op ≠ .In := by decide) (h2 : op ≠ .NotIn := by decide) : behindInMarks op b = false := by
 have e1 : (op == CmpOp.In) = false := by cases op <;> first | rfl | exact absurd rfl h
 have e2 : (op == CmpOp.NotIn) = false := by cases op <;> first | rfl | exact absurd rfl h2
 cases b <;> simp [behindInMarks, e1, e2]
theorem Zc6 {op : CmpOp} {r : R2} (ho : OpR X (compareOp op) r) (ha : PE X a ta) (hb : PE X b tb) (hm : behindInMarks op b = false) : PE X (.Compare a [op] [b] pos) (tOp r ta tb) := by
 intro pins s σ H Q I h;exact wpAny_Compare1 (Zsl ha hb I h fun v u s2 x y H2 I2 rx ry q => ho pins s2 σ H2 x y v u Q I2 rx ry q) hm
def Zn3 (t : TE) : TT := fun σ H Q => t σ H fun x H' => ∃ k, x = .bl k /\ Q k H'
theorem Zbt {op : CmpOp} {r : R2} (ho : OpR X (compareOp op) r) (ha : PE X a ta) (hb : PE X b tb) (hm : behindInMarks op b = false) : PT X (.Compare a [op] [b] pos) (Zn3 (tOp r ta tb)) := by
 intro pins s σ H Q I h;refine wpAny_isTrue_Compare1 (thn (ha pins s σ H _ I h) fun v s1 ⟨x, H1, I1, r1, q1⟩ => thn (hb pins s1 σ H1 _ I1 q1) fun u s2 ⟨y, H2, I2, r2, q2⟩ =>
  thn (ho pins s2 σ H2 x y v u _ I2 r1 r2 q2) fun c s3 ⟨z, H3, I3, r3, k, e, q3⟩ => ?_) hm
 subst e;cases r3;exact wpAny_truthy_bool ⟨H3, I3, q3⟩
def Zk4 (r r' : R2) (ta tb tc : TE) : TE := fun σ H Q => ta σ H fun x H1 => tb σ H1 fun y H2 => r x y H2 fun z H3 => ∃ k, z = .bl k /\
 (if k = true then tc σ H3 fun w' H4 => r' y w' H4 Q else Q (.bl false) H3)
theorem Zjo {op op' : CmpOp} {r r' : R2} (ho : OpR X (compareOp op) r) (ho' : OpR X (compareOp op') r') (ha : PE X a ta) (hb : PE X b tb) (hc : PE X c tc)
  (hm : lastMarks [op, op'] [b, c] = false := by with_unfolding_all rfl) : PE X (.Compare a [op, op'] [b, c] pos) (Zk4 r r' ta tb tc) := by
 intro pins s σ H Q I h;refine Compare_chain (thn (ha pins s σ H _ I h) fun v s1 ⟨x, H1, I1, r1, q1⟩ => chain_link (thn (hb pins s1 σ H1 _ I1 q1) fun u s2 ⟨y, H2, I2, r2, q2⟩ =>
  thn (ho pins s2 σ H2 x y v u _ I2 r1 r2 q2) fun d s3 ⟨z, H3, I3, r3, k, e, q3⟩ => ?_)) hm
 subst e;cases r3;refine wpAny_truthy_bool ?_;cases k with
 | false => exact ite_ff ⟨.bl false, H3, I3, rfl, q3⟩
 | true => exact ite_tt (chain_last (thn (hc pins s3 σ H3 _ I3 q3) fun w' s4 ⟨z', H4, I4, r4, q4⟩ => ho' pins s4 σ H4 y z' u w' Q I4 r2 r4 q4))
theorem Zgy {op op' : CmpOp} {r r' : R2} (ho : OpR X (compareOp op) r) (ho' : OpR X (compareOp op') r') (ha : PE X a ta) (hb : PE X b tb) (hc : PE X c tc)
  (hm : lastMarks [op, op'] [b, c] = false := by with_unfolding_all rfl) : PT X (.Compare a [op, op'] [b, c] pos) (Zn3 (Zk4 r r' ta tb tc)) := by
 intro pins s σ H Q I h;refine isTrue_chain (thn (ha pins s σ H _ I h) fun v s1 ⟨x, H1, I1, r1, q1⟩ => test_link (thn (hb pins s1 σ H1 _ I1 q1) fun u s2 ⟨y, H2, I2, r2, q2⟩ =>
  thn (ho pins s2 σ H2 x y v u _ I2 r1 r2 q2) fun d s3 ⟨z, H3, I3, r3, k, e, q3⟩ => ?_)) hm
 subst e;cases r3;refine wpAny_truthy_bool ?_;cases k with
 | false =>
  obtain ⟨k', e', q'⟩ := q3;cases e';exact ite_ff ⟨H3, I3, q'⟩
 | true =>
  refine ite_tt (test_last (thn (hc pins s3 σ H3 _ I3 q3) fun w' s4 ⟨z', H4, I4, r4, q4⟩ => thn (ho' pins s4 σ H4 y z' u w' _ I4 r2 r4 q4) fun d' s5 ⟨z2, H5, I5, r5, k2, e2, q5⟩ => ?_));subst e2;cases r5;exact wpAny_truthy_bool ⟨H5, I5, q5⟩
def TruV (K : PySem.W.Frag) (x : V) (H : Hp) (k : Bool) : Prop :=
 match x with
 | .non => k = false
 | .bl b => k = b
 | .int i => k = (i != 0)
 | .str y => y.length <= sizeLine /\ k = ((y.length : Int) != 0)
 | .byt y => y.size <= sizeLine /\ k = ((y.size : Int) != 0)
 | .ref p => (∃ xs, SqL K H p xs /\ k = !xs.isEmpty) \/ (∃ xs, SqT K H p xs /\ k = !xs.isEmpty) \/ ∃ kvs, H p = some (.dK kvs) /\ k = !kvs.isEmpty
 | _ => False
theorem Zgk : (sizeLine : Nat) < 2 ^ 63 := by rw [sizeLine_eq]; decide
theorem Zka : OpR X (binaryOp .Add) (fun x y H Q => ∃ i j, x = .str i /\ y = .str j /\ i.length + j.length <= sizeLine /\ Q (.str (i ++ j)) H) := by
 intro pins s σ H x y v u Q I rx ry h;obtain ⟨i, j, rfl, rfl, hz, q⟩ := h;obtain ⟨t, rfl⟩ := rx;obtain ⟨t', rfl⟩ := ry;exact add_str (fun t' tk => ⟨.str (i ++ j), H, I.tok _, ⟨_, rfl⟩, q⟩) hz
theorem Zhi {x : V} {us : List Value} (r : Vals [x] us) : ∃ u, us = [u] /\ RelV x u := by
 cases r with
 | cons r1 r2 => cases r2; exact ⟨_, rfl, r1⟩
theorem Zny {x y : V} {us : List Value} (r : Vals [x, y] us) : ∃ u w', us = [u, w'] /\ RelV x u /\ RelV y w' := by
 cases r with
 | cons r1 r2 =>
  cases r2 with
  | cons r3 r4 => cases r4; exact ⟨_, _, rfl, r1, r3⟩
theorem Zmb (hc : X.calm = true) : CallR X (.builtin "min") (fun xs H Q => ∃ i j, xs = [.int i, .int j] /\ Q (.int (if j < i then j else i)) H) := by
 intro pins s σ H xs us Q I r h;obtain ⟨i, j, rfl, q⟩ := h;obtain ⟨u, w', rfl, ⟨t, rfl⟩, ⟨t', rfl⟩⟩ := Zny r;refine min_two_ints (I.ok.hd hc) fun h' tk k => ⟨_, H, I.kept k, ?_, q⟩
 by_cases hj : j < i
 ·rw [if_pos hj, if_pos hj]; exact ⟨_, rfl⟩
 ·rw [if_neg hj, if_neg hj]; exact ⟨_, rfl⟩
end
end L2
namespace L2
open PySem PySem.Spec PyProof.Rows
structure ObjM (h : Heap) (x dx C : Addr) (mA : Str -> Option Value) : Prop where
 obj : h.get? x = some (PySem.W.instObj C dx)
 ns : h.Ns1 dx mA
 ne : dx ≠ x
theorem Zlm {h : Heap} {dx : Addr} {mA : Str -> Option Value} (n : h.Ns1 dx mA) : ∃ od, h.get? dx = some od /\ ∀ name, PySem.W.lookIn name od = some (mA name) := by
 obtain ⟨o, es, ep, ho, hd, hk, _, hm⟩ := n;refine ⟨o, ho, fun name => ?_⟩;have e := hm name;unfold nsFind findBy at e;rw [<- Array.find?_toList] at e;unfold PySem.W.lookIn;rw [hd];dsimp only
 split
 ·rename_i y q
  rw [q] at e;exact congrArg some e
 ·rename_i q
  rw [q] at e;have a : es.toList.any (·.refKey) = false := by
   rw [List.any_eq_false];intro y hy;obtain ⟨z, t, hkey⟩ := hk y (Array.mem_toList_iff.mp hy);simp [DictEntry.refKey, hkey]
  have a' : ¬ es.toList.any (·.refKey) = true := by rw [a]; exact Bool.false_ne_true
  rw [if_neg a'];exact congrArg some e
theorem ObjM.look {h : Heap} {x dx C : Addr} {mA : Str -> Option Value} (I : ObjM h x dx C mA) : ∃ od, PySem.W.InstAt h x (PySem.W.instObj C dx) C (some od) /\ ∀ name, PySem.W.lookIn name od = some (mA name) :=
 let ⟨od, ho, hl⟩ := Zlm I.ns
 ⟨od, ⟨I.obj, rfl, rfl, ho⟩, hl⟩
section
variable {prog : Program} {w : World} {A : Around} {E : Value -> Shared -> Prop} {s : Shared} {K : PySem.W.Frag} {x dx C f : Addr} {mA : Str -> Option Value} {name : Str} {v : Value}
theorem Zo1 {expr : Bool} {Q : Value -> Shared -> Prop} (X : K.In s.heap) (I : ObjM s.heap x dx C mA) (hg : PySem.W.plainGet K C name = true) (hh : PySem.W.hasDictIn K C = true)
  (ha : PySem.W.findIn K (.ref C) name = some none) (hv : mA name = some v) (hv' : PySem.W.handedIn v = true) (h : Q v { s with toks := s.toks + 1 }) :
  wpAny (model prog w) A (getAttr (.ref x) name expr) Q E s := by
 obtain ⟨od, J, hl⟩ := I.look;exact PySem.W.get_value X J (PySem.W.plainGet_of hg).1 (PySem.W.findObj_own hh ha rfl (by rw [hl, hv])) hv' h
theorem Zoa {ns : List Str} {Q : Unit -> Shared -> Prop} (X : K.In s.heap) (I : ObjM s.heap x dx C mA)
  (hs : PySem.W.findIn K (.ref C) "__setattr__" = some (some (.builtin "object.__setattr__"))) (hp : PySem.W.plainOver K C = true) (ht : PySem.W.takerIn K C name = some none) (hh : PySem.W.hasDictIn K C = true)
  (hw : PySem.Within mA ns) (hsz : ns.length <= sizeLine)
  (h : ∀ h', ObjM h' x dx C (fun y => if y = name then some v else mA y) -> Heap.SameBut dx s.heap h' -> Q () { s with heap := h', toks := s.toks + 2 }) :
  wpAny (model prog w) A (setAttr (.ref x) name v) Q E s := by
 obtain ⟨od, J, hl⟩ := I.look;refine PySem.W.set_plain X J hs (PySem.W.osa_open (s := { s with toks := s.toks + 1 }) (r := none) X J hp ht fun b => ?_);obtain ⟨cd, hc, hd'⟩ := PySem.W.any_some hh;have hx : s.heap.get? x = some ⟨.ref C, some dx, .plain, #[]⟩ := I.obj;refine wpAny_bind (wpAny_pure (wpAny_bind (wpAny_bind (wpAny_loadPart hx (wpAny_bind (PySem.W.Looks.here (s := { s with toks := s.toks + 1 }) (PySem.W.looks_clsIn X hc) ?_))))));rw [hd'];refine wpAny_pure (a := some dx) (wpAny_bind (wpAny_pure (wpAny_bind ?_)));refine wpAny_nsSet1 (s := { s with toks := s.toks + 1 }) I.ns fun h' hn2 hs2 => ?_
 obtain ⟨oD, esD, epD, hoD, hdD, hcD⟩ := hn2.count (PySem.Within.cons name v hw);refine wpAny_bind (wpAny_lookBehind hoD (by rw [hdD]; exact pastItsLine_dict (Nat.le_trans hcD (by rw [List.length_cons]; omega))) ?_);exact wpAny_pure (h _ ⟨(hs2.2 _ (Ne.symm I.ne)).trans I.obj, hn2, I.ne⟩ hs2)
theorem Zm2 {R : Result -> Shared -> Prop} {vs : List Value} {kw : List (Str × Value)} (X : K.In s.heap) (hm : PySem.W.makesIn K C = true)
  (hi : PySem.W.findIn K (.ref C) "__init__" = some (some (.ref f))) (hf : PySem.W.typeIn K (.ref f) = some (.type "function"))
  (h : codeAny (model prog w) (A.under (.builtin "type.__call__" ⟨.ref C :: vs, kw⟩)) (.call (.ref f) ⟨.ref (s.heap.objs.size + 1) :: vs, kw⟩) (PySem.W.InitBack (s.heap.objs.size + 1) R)
   { s with heap := (s.heap.push PySem.W.emptyDict).push (PySem.W.instObj C s.heap.objs.size) }) :
  codeAny (model prog w) A (.call (.ref C) ⟨vs, kw⟩) R s := by
 obtain ⟨hh, g, d, t, os⟩ := s;exact PySem.W.make_core (PySem.W.makes_of X hm) (PySem.W.looks_findIn X hi) (fun self => PySem.W.bind_fn X self hf) (.inl rfl) h
end
def putF (f : Str) (v : V) : List (Str × V) -> List (Str × V)
 | [] => [(f, v)]
 | (g, x) :: r => if g = f then (g, v) :: r else (g, x) :: putF f v r
theorem Zdq (f g : Str) (v : V) : ∀ fs : List (Str × V), (putF f v fs).lookup g = if g = f then some v else fs.lookup g
 | [] => by
  show List.lookup g [(f, v)] = _
  by_cases h : g = f
  ·have hb : (g == f) = true := beq_iff_eq.mpr h;simp only [List.lookup, hb, if_pos h]
  ·have hb : (g == f) = false := beq_eq_false_iff_ne.mpr h;simp only [List.lookup, hb, if_neg h]
 | (k, x) :: r => by
  have ih := Zdq f g v r;rw [show putF f v ((k, x) :: r) = (if k = f then (k, v) :: r else (k, x) :: putF f v r) from rfl]
  by_cases hk : k = f
  ·rw [if_pos hk]
   by_cases h : g = k
   ·have hb : (g == k) = true := beq_iff_eq.mpr h;simp only [List.lookup, hb, if_pos (h.trans hk)]
   ·have hb : (g == k) = false := beq_eq_false_iff_ne.mpr h;simp only [List.lookup, hb, if_neg (fun e : g = f => h (e.trans hk.symm))]
  ·rw [if_neg hk]
   by_cases h : g = k
   ·have hb : (g == k) = true := beq_iff_eq.mpr h;simp only [List.lookup, hb, if_neg (fun e : g = f => hk (h.symm.trans e))]
   ·have hb : (g == k) = false := beq_eq_false_iff_ne.mpr h;simp only [List.lookup, hb];exact ih
theorem Zfs (f : Str) (v : V) : ∀ fs : List (Str × V), f ∈ (putF f v fs).map (·.1) /\ ∀ g, g ∈ fs.map (·.1) -> g ∈ (putF f v fs).map (·.1)
 | [] => ⟨by simp [putF], fun g h => by simp at h⟩
 | (k, x) :: r => by
  obtain ⟨i1, i2⟩ := Zfs f v r;rw [show putF f v ((k, x) :: r) = (if k = f then (k, v) :: r else (k, x) :: putF f v r) from rfl]
  by_cases hk : k = f
  ·rw [if_pos hk];subst hk;exact ⟨by simp, fun g h => by simpa using h⟩
  ·rw [if_neg hk];refine ⟨?_, fun g h => ?_⟩
   ·rw [List.map_cons];exact List.mem_cons_of_mem _ i1
   ·rw [List.map_cons] at h ⊢;rcases List.mem_cons.mp h with e | e
    ·exact List.mem_cons.mpr (.inl e)
    ·exact List.mem_cons_of_mem _ (i2 g e)
theorem Zee (f : Str) (v : V) : ∀ fs : List (Str × V), (putF f v fs).length <= fs.length + 1
 | [] => by simp [putF]
 | (k, x) :: r => by
  have ih := Zee f v r;rw [show putF f v ((k, x) :: r) = (if k = f then (k, v) :: r else (k, x) :: putF f v r) from rfl]
  by_cases hk : k = f
  ·rw [if_pos hk, List.length_cons, List.length_cons]; omega
  ·rw [if_neg hk, List.length_cons, List.length_cons]; omega
theorem RelO.some_of {v : V} {o : Option Value} (r : RelO (some v) o) : ∃ u, o = some u /\ RelV v u := by
 cases o with
 | none => exact (show False from r).elim
 | some u => exact ⟨u, rfl, r⟩
theorem Zlv {v : V} {u : Value} (r : RelV v u) : PySem.W.handedIn u = true := by
 cases v with
 | non => cases (show u = Value.none from r); rfl
 | bl b => cases (show u = Value.bool b from r); rfl
 | int i => obtain ⟨t, e⟩ := (show ∃ t, u = Value.int i t from r); cases e; rfl
 | str x => obtain ⟨t, e⟩ := (show ∃ t, u = Value.str x t from r); cases e; rfl
 | byt b => obtain ⟨t, e⟩ := (show ∃ t, u = Value.bytes b t from r); cases e; rfl
 | flt b => obtain ⟨t, e⟩ := (show ∃ t, u = Value.float b t from r); cases e; rfl
 | ref a => cases (show u = Value.ref a from r); rfl
 | ty n => cases (show u = Value.type n from r); rfl
section
variable {P : Program} {w : World} {H H' : Hp} {h h' : Heap} {a C dx : Addr} {fs fs' : List (Str × V)}
theorem Zi6 (hok : HOk P w H h) (e : H a = some (.ins C dx fs)) : ∃ mA, ObjM h a dx C mA /\ (∀ f, RelO (fs.lookup f) (mA f)) /\ PySem.Within mA (fs.map (·.1)) /\ fs.length <= 1000 /\ H dx = some (.own a) := by
 obtain ⟨d, z, ne, ob, mA, n, r, q⟩ := (show ObjOk P w H h a (.ins C dx fs) from hok a _ e);exact ⟨mA, ⟨ob, n, ne⟩, r, q, z, d⟩
end
structure Cls (K : PySem.W.Frag) (C : Addr) : Prop where
 pg : PySem.W.plainGet K C Str.empty = true
 hd : PySem.W.hasDictIn K C = true
 po : PySem.W.plainOver K C = true
 sa : PySem.W.findIn K (.ref C) "__setattr__" = some (some (.builtin "object.__setattr__"))
theorem Cls.get {K : PySem.W.Frag} {C : Addr} (c : Cls K C) (f : Str) : PySem.W.plainGet K C f = true := c.pg
def NoAttr (K : PySem.W.Frag) (C : Addr) (f : Str) : Prop := PySem.W.findIn K (.ref C) f = some none
theorem NoAttr.taker {K : PySem.W.Frag} {C : Addr} {f : Str} (n : NoAttr K C f) : PySem.W.takerIn K C f = some none := by
 unfold PySem.W.takerIn;rw [show PySem.W.findIn K (.ref C) f = some none from n];rfl
structure Con (K : PySem.W.Frag) (C : Addr) (f : Str) (v : V) (u : Value) : Prop where
 at_ : PySem.W.findIn K (.ref C) f = some (some u)
 rel : RelV v u
 get : PySem.W.specialIn K u "__get__" = some none
 cp : PySem.W.copiedNames.contains f = false
structure Ztm (K : PySem.W.Frag) (C : Addr) (m : Str) (f : Addr) : Prop where
 at_ : PySem.W.findIn K (.ref C) m = some (some (.ref f))
 fn : PySem.W.isFn K (.ref f) = true
 kp : PySem.W.keepIn K (.ref f) = true
section
variable {X : Cx} {pins : List (Addr × Obj)} {σ : St} {H : Hp} {s : Shared} {a C dx : Addr} {fs : List (Str × V)} {f : Str} {v : V} {A : Around} {E : Value -> Shared -> Prop}
theorem Zkm {b : Bool} {Q : Value -> Shared -> Prop} (I : Inv X pins σ H s) (e : H a = some (.ins C dx fs)) (c : Cls X.K C) (n : NoAttr X.K C f) (l : fs.lookup f = some v)
  (h : ∀ u s', Inv X pins σ H s' -> RelV v u -> Q u s') : wpAny (model X.prog X.w) A (getAttr (.ref a) f b) Q E s := by
 obtain ⟨mA, O, r, _, _, _⟩ := Zi6 I.hok e;obtain ⟨u, hu, ru⟩ := RelO.some_of (v := v) (o := mA f) (by rw [<- l]; exact r f);exact Zo1 I.kIn O (c.get f) c.hd n hu (Zlv ru) (h u _ (I.tok _) ru)
theorem Zj4 {y : V} {u : Value} {Q : Unit -> Shared -> Prop} (I : Inv X pins σ H s) (e : H a = some (.ins C dx fs)) (c : Cls X.K C) (n : NoAttr X.K C f) (hl : fs.length < 1000) (ry : RelV y u)
  (h : ∀ s', Inv X pins σ (upd H a (.ins C dx (putF f y fs))) s' -> Q () s') : wpAny (model X.prog X.w) A (setAttr (.ref a) f u) Q E s := by
 obtain ⟨mA, O, r, wi, _, ho⟩ := Zi6 I.hok e;have hz : (fs.map (·.1)).length <= sizeLine := by rw [List.length_map, sizeLine_eq]; omega
 refine Zoa I.kIn O c.sa c.po n.taker c.hd wi hz fun h' O' sb => h _ ?_
 have hd : ∃ o, h'.get? dx = some o := let ⟨o, _, _, e', _⟩ := O'.ns; ⟨o, e'⟩;refine I.write (x := a) (e := dx) (by rw [e]; exact True.intro) (.inr ho) (fun b q hb z => (sb.2 b hb).trans z) hd ?_;refine ⟨by rw [Zal O.ne]; exact ho, ?_, O.ne, O'.obj, _, O'.ns, fun g => ?_, fun g hg => ?_⟩
 ·have := Zee f y fs; omega
 ·show RelO ((putF f y fs).lookup g) (if g = f then some u else mA g);rw [Zdq]
  by_cases q : g = f
  ·rw [if_pos q, if_pos q]; exact ry
  ·rw [if_neg q, if_neg q]; exact r g
 ·by_cases q : g = f
  ·rw [q]; exact (Zfs f y fs).1
  ·refine (Zfs f y fs).2 g (wi g fun z => hg ?_);show (if g = f then some u else mA g) = none;rw [if_neg q]; exact z
theorem Inv.made (I : Inv X pins σ H s) : Inv X pins σ (upd (upd H s.heap.objs.size (.own (s.heap.objs.size + 1))) (s.heap.objs.size + 1) (.ins C s.heap.objs.size []))
  { s with heap := (s.heap.push PySem.W.emptyDict).push (PySem.W.instObj C s.heap.objs.size) } := by
 have e1 : (s.heap.push PySem.W.emptyDict).get? s.heap.objs.size = some PySem.W.emptyDict := Heap.get?_push_size s.heap rfl;have e2 : ((s.heap.push PySem.W.emptyDict).push (PySem.W.instObj C s.heap.objs.size)).get? (s.heap.objs.size + 1) = some (PySem.W.instObj C s.heap.objs.size) := by
  have := Heap.get?_push_size (s.heap.push PySem.W.emptyDict) (o := PySem.W.instObj C s.heap.objs.size) rfl;rwa [Heap.size_push] at this
 have e3 : (s.heap.push PySem.W.emptyDict).Ns s.heap.objs.size (fun _ => none) := ⟨PySem.W.emptyDict, #[], _, e1, rfl, (fun e he => absurd he (by simp)), fun _ => rfl⟩;have I1 := I.laid (a := s.heap.objs.size) (o := .own (s.heap.objs.size + 1)) (h' := s.heap.push PySem.W.emptyDict) (t' := s.toks) (fun b u q => Heap.get?_push_of_some _ q) (Nat.le_refl _) ⟨_, e1⟩;refine I1.laid (a := s.heap.objs.size + 1) (o := .ins C s.heap.objs.size []) (t' := s.toks) (fun b u q => Heap.get?_push_of_some _ q) (Nat.le_of_eq (Heap.size_push _ _)) ?_;have ne : s.heap.objs.size ≠ s.heap.objs.size + 1 := Nat.ne_of_lt (Nat.lt_succ_self _);refine ⟨by rw [Zal ne, Zah], Nat.zero_le _, ne, e2, fun _ => none, (Heap.Ns1.of_empty e3).at fun o q => Heap.get?_push_of_some _ q, fun _ => True.intro, fun y hy => absurd rfl hy⟩
theorem Zo6 {prog : Program} {w : World} {env : Env} {e : Expr} {f : Str} {pos : Pos} {s : Shared} {Q : Value -> Shared -> Prop} (hb : attributeBase e f env (eval e env) = eval e env)
  (h : wpAny (model prog w) A (eval e env) (fun o s₁ => wpAny (model prog w) A (getAttr o f true) Q E s₁) E s) : wpAny (model prog w) A (eval (.Attribute e f pos) env) Q E s :=
 Attribute_any_ h (by rw [arm_eval_Attribute, hb])
end
def Zs9 (K : PySem.W.Frag) (ta : TE) (f : Str) : TE := fun σ H Q => ta σ H fun x H1 => ∃ a C dx fs v, x = .ref a /\ H1 a = some (.ins C dx fs) /\ Cls K C /\ NoAttr K C f /\ fs.lookup f = some v /\ Q v H1
def Zru (K : PySem.W.Frag) (ta tv : TE) (f : Str) : TS := fun D σ H => tv σ H fun y H1 => ta σ H1 fun x H2 => ∃ a C dx fs, x = .ref a /\ H2 a = some (.ins C dx fs) /\ Cls K C /\ NoAttr K C f /\ fs.length < 1000 /\
 D.nx σ (upd H2 a (.ins C dx (putF f y fs)))
section
variable {X : Cx} {o e value : Expr} {f : Str} {pos pos' tpos : Pos} {ta tv : TE}
theorem Zqj (ha : PE X o ta) (hv : PE X value tv) (hs : swapsWith value (some (.Attribute o f pos')) pos.line X.env = pure false) : PS X (.Assign [.Attribute o f pos'] value pos) (Zru X.K ta tv f) := by
 intro pins s σ H D I h;refine plainObj_wpAny_Assign_Attribute (thn (hv pins s σ H _ I h) fun u s1 ⟨y, H1, I1, ry, q⟩ => thn (ha pins s1 σ H1 _ I1 q) fun ov s2 ⟨x, H2, I2, rx, a, C, dx, fs, ex, ea, c, n, l, q2⟩ => ?_) hs;subst ex;obtain rfl : ov = Value.ref a := rx;exact Zj4 I2 ea c n l ry fun s3 I3 => ⟨σ, _, I3, q2⟩
end
section
variable {X : Cx} {pins : List (Addr × Obj)} {σ : St} {H : Hp} {s : Shared} {A : Around} {E : Value -> Shared -> Prop} {Q : Value -> Shared -> Prop} {c : Value} {b : Bool}
inductive Zj0 (K : PySem.W.Frag) (H : Hp) : V -> Value -> Prop where
 | non : Zj0 K H .non (.type "NoneType")
 | bl (x : Bool) : Zj0 K H (.bl x) (.type "bool")
 | int (i : Int) : Zj0 K H (.int i) (.type "int")
 | str (x : Str) : Zj0 K H (.str x) (.type "str")
 | flt (x : UInt64) : Zj0 K H (.flt x) (.type "float")
 | lst {a : Addr} {xs : List V} (e : H a = some (.lst xs)) : Zj0 K H (.ref a) (.type "list")
 | frz {a : Addr} {o : Obj} {xs : List V} (e : H a = some (.frz o (.lst xs))) : Zj0 K H (.ref a) (.type "list")
 | tup {a : Addr} {xs : List V} (e : H a = some (.tup xs)) : Zj0 K H (.ref a) (.type "tuple")
 | dK {a : Addr} {kvs : List (Key × V)} (e : H a = some (.dK kvs)) : Zj0 K H (.ref a) (.type "dict")
 | dT {a : Addr} {kvs : List (List Key × V)} (e : H a = some (.dT kvs)) : Zj0 K H (.ref a) (.type "dict")
 | ins {a C dx : Addr} {fs : List (Str × V)} (e : H a = some (.ins C dx fs)) (cl : Cls K C) (ha : PySem.W.findIn K (.ref C) "__class__" = some (some (.builtin "object.__class__")))
   (hn : PySem.W.specialIn K (.builtin "object.__class__") "__get__" = some (some (.builtin "getset_descriptor.__get__"))) (htk : PySem.W.takesIn K (.builtin "object.__class__") = some true)
   (hm : PySem.W.mroIn K C (.type "object") = some true) : Zj0 K H (.ref a) (.ref C)
theorem Zh2 {x : V} {u t : Value} (I : Inv X pins σ H s) (rx : RelV x u) (ty : Zj0 X.K H x t) (e : PySem.W.kitOne X.K t c = some b) (h : ∀ tk, Q (.bool b) { s with toks := tk }) :
  wpAny (model X.prog X.w) A (call (.builtin "isinstance") [u, c]) Q E s := by
 cases ty with
 | non => cases (show u = Value.none from rx); exact PySem.W.kia_one PySem.W.kitx_none I.kIn True.intro e (fun z => nomatch z) h
 | bl y => cases (show u = Value.bool y from rx); exact PySem.W.kia_one PySem.W.kitx_bool I.kIn True.intro e (fun z => nomatch z) h
 | int i => obtain ⟨t, q⟩ := (show ∃ t, u = Value.int i t from rx); cases q; exact PySem.W.kia_one PySem.W.kitx_int I.kIn True.intro e (fun z => nomatch z) h
 | str y => obtain ⟨t, q⟩ := (show ∃ t, u = Value.str y t from rx); cases q; exact PySem.W.kia_one PySem.W.kitx_str I.kIn True.intro e (fun z => nomatch z) h
 | flt y => obtain ⟨t, q⟩ := (show ∃ t, u = Value.float y t from rx); cases q; exact PySem.W.kia_one PySem.W.kitx_float I.kIn True.intro e (fun z => nomatch z) h
 | @lst a xs ea =>
  cases (show u = Value.ref a from rx);obtain ⟨_, _, n, _, h1⟩ := (show ObjOk X.prog X.w H s.heap a (.lst xs) from I.hok a _ ea);exact PySem.W.kia_one PySem.W.kitx_list I.kIn ⟨_, h1, rfl⟩ e (fun z => nomatch z) h
 | @frz a ob xs ea =>
  cases (show u = Value.ref a from rx);obtain ⟨_, _, _, n, _, h1⟩ := (show ObjOk X.prog X.w H s.heap a (.frz ob (.lst xs)) from I.hok a _ ea);exact PySem.W.kia_one PySem.W.kitx_list I.kIn ⟨_, h1, rfl⟩ e (fun z => nomatch z) h
 | @tup a xs ea =>
  cases (show u = Value.ref a from rx);obtain ⟨_, _, _, p⟩ := (show ObjOk X.prog X.w H s.heap a (.tup xs) from I.hok a _ ea);obtain ⟨o, h1, h2, _⟩ := p;exact PySem.W.kia_one PySem.W.kitx_tuple I.kIn ⟨o, h1, h2⟩ e (fun z => nomatch z) h
 | @dK a kvs ea =>
  cases (show u = Value.ref a from rx);obtain ⟨_, _, vs, _, p⟩ := (show ObjOk X.prog X.w H s.heap a (.dK kvs) from I.hok a _ ea);obtain ⟨o, es, ep, h1, h2, _⟩ := p;exact PySem.W.kia_one PySem.W.kitx_dict I.kIn ⟨o, h1, h2.1⟩ e (fun z => nomatch z) h
 | @dT a kvs ea =>
  cases (show u = Value.ref a from rx);obtain ⟨_, _, xs, _, o, es, ep, h1, h2, _⟩ := (show ObjOk X.prog X.w H s.heap a (.dT kvs) from I.hok a _ ea);exact PySem.W.kia_one PySem.W.kitx_dict I.kIn ⟨o, h1, h2.1⟩ e (fun z => nomatch z) h
 | @ins a C dx fs ea cl ha hn htk hm =>
  cases (show u = Value.ref a from rx);obtain ⟨mA, O, _⟩ := Zi6 I.hok ea;obtain ⟨od, J, _⟩ := O.look;exact PySem.W.kia_one (PySem.W.kitx_own (cl.get _) cl.hd ha hn htk hm) I.kIn J e (fun z => nomatch z) h
end
end L2
namespace L2
open PySem PySem.Spec PyProof.Rows
structure Room (k : Nat) (A : Around) : Prop where
 hd : A.handled = none
 dp : A.depth + 3 * k + 5 < recursionLimit
 un : A.units + 16 * k + 200 < cLine
theorem Room.mono {j k : Nat} {A : Around} (r : Room k A) (h : j <= k) : Room j A := ⟨r.hd, by have := r.dp; omega, by have := r.un; omega⟩
theorem Room.deeper {k : Nat} {A : Around} (r : Room (k + 1) A) (env : Env) : Room k (A.deeper env) :=
 ⟨r.hd, by have := r.dp; show A.depth + 1 + 3 * k + 5 < _; omega, by have := r.un; show A.units + 3 + 16 * k + 200 < _; omega⟩
theorem Zkk {A : Around} {C : Addr} {us : List Value} {kw : List (Str × Value)} : (A.under (.builtin "type.__call__" ⟨.ref C :: us, kw⟩)).depth = A.depth + 1 := by
 first | rfl | simp [Around.under, Code.weight, Code.isCreation, Code.isGuard, Code.isCaller, Code.frames, Code.isFrame, guardIds]
theorem Zkj {A : Around} {C : Addr} {us : List Value} {kw : List (Str × Value)} : (A.under (.builtin "type.__call__" ⟨.ref C :: us, kw⟩)).units = A.units + 1 := by
 first | rfl | simp [Around.under, Code.cUnits, Code.frames, Code.isFrame]
theorem Room.make {k : Nat} {A : Around} (r : Room (k + 1) A) (C : Addr) (us : List Value) (kw : List (Str × Value)) : Room k (A.under (.builtin "type.__call__" ⟨.ref C :: us, kw⟩)) :=
 ⟨r.hd, by have := r.dp; rw [Zkk]; omega, by have := r.un; rw [Zkj]; omega⟩
theorem Room.depth {k : Nat} {A : Around} (r : Room k A) : A.depth < recursionLimit := by have := r.dp; omega
theorem Room.units {k : Nat} {A : Around} (r : Room k A) : A.units + 64 < cLine := by have := r.un; omega
def Zrb : TA := fun _ H Q => Q [] H
def Zmk (ta : TE) (tr : TA) : TA := fun σ H Q => ta σ H fun x H1 => tr σ H1 fun xs H2 => Q (x :: xs) H2
section
variable {X : Cx} {e : Expr} {es : List Expr} {te : TE} {t : TA} {pos : Pos}
theorem Zad : PA X [] Zrb := fun _ _ _ _ H Q I h => Calls.spliced_nil ⟨[], H, I, .nil, h⟩
theorem Zaa (ha : PE X e te) (hr : PA X es t) (hs : starEach (e :: es) X.env = (false, eval e X.env) :: starEach es X.env := by rfl) : PA X (e :: es) (Zmk te t) := by
 intro pos pins s σ H Q I h;rw [hs];show wpAny _ _ (spliced ((false, eval e X.env) :: backTo pos (starEach es X.env))) _ _ s;refine Calls.spliced_cons (thn (ha pins s σ H _ I h) fun u s1 ⟨x, H1, I1, r1, q1⟩ => ?_);exact thn (hr pos pins s1 σ H1 _ I1 q1) fun us s2 ⟨xs, H2, I2, r2, q2⟩ => ⟨x :: xs, H2, I2, .cons r1 r2, q2⟩
def Zsp (t : TA) : TE := fun σ H Q => t σ H fun xs H1 => xs.length <= sizeLine /\ ∀ p, H1 p = none -> Q (.ref p) (upd H1 p (.tup xs))
def Zst (t : TA) : TE := fun σ H Q => t σ H fun xs H1 => xs.length <= sizeLine /\ ∀ p, H1 p = none -> Q (.ref p) (upd H1 p (.lst xs))
theorem Zqm {x1} (h : PA X es t) : PE X (.Tuple es x1 pos) (Zsp t) := by
 intro pins s σ H Q I hq;refine wpAny_Tuple_spliced (thn (h pos pins s σ H _ I hq) fun us s1 ⟨xs, H1, I1, r, z, q⟩ => ⟨by rw [<- r.length]; exact z, ?_⟩);have hf : H1 s1.heap.objs.size = none := I1.hok.fresh (Nat.le_refl _);refine ⟨.ref s1.heap.objs.size, upd H1 s1.heap.objs.size (.tup xs), I1.laid (t' := s1.toks) (fun b u e => Heap.get?_push_of_some _ e) (Nat.le_refl _) ?_, rfl, q _ hf⟩;exact ⟨z, us, r, ⟨_, Heap.get?_push_size _ rfl, rfl, _, rfl⟩⟩
theorem Zno (h : PA X es t) : PE X (.List es pos) (Zst t) := by
 intro pins s σ H Q I hq;refine wpAny_List_spliced (thn (h pos pins s σ H _ I hq) fun us s1 ⟨xs, H1, I1, r, z, q⟩ => ⟨by rw [<- r.length]; exact z, ?_⟩);have hf : H1 s1.heap.objs.size = none := I1.hok.fresh (Nat.le_refl _);refine ⟨.ref s1.heap.objs.size, upd H1 s1.heap.objs.size (.lst xs), I1.laid (t' := s1.toks) (fun b u e => Heap.get?_push_of_some _ e) (Nat.le_refl _) ?_, rfl, q _ hf⟩;exact ⟨z, us, 0, r, Heap.get?_push_size _ rfl⟩
end
abbrev Sp := List V -> Hp -> VK -> XK -> Prop
abbrev CXT := List Env -> Hp -> Shared -> XK -> Value -> Shared -> Prop
structure Env0 (P : Program) (w : World) (K : PySem.W.Frag) (mg : Str -> Option Value) (base : Heap) (A : Around) (outer : List Env) (s : Shared) (H : Hp) : Prop where
 frames : A.frames = some outer
 mod : Mod K mg base
 bs : ∀ b o, base.get? b = some o -> s.heap.get? b = some o /\ H b = none
 bsz : base.objs.size <= s.heap.objs.size
 funs : s.heap.FunFrames base outer
 frf : ∀ b ∈ frs outer, H b = none
 hok : HOk P w H s.heap
 bare : AllBare s.gens
def CE (outer : List Env) (P : Program) (w : World) (H : Hp) (s : Shared) (Q : VK) (u : Value) (s' : Shared) : Prop :=
 ∃ v H', s'.os = s.os /\ AllBare s'.gens /\ Un (frs outer) [] H H' s.heap s'.heap /\ HOk P w H' s'.heap /\ RelV v u /\ Q v H'
def CR (CX : CXT) (outer : List Env) (P : Program) (w : World) (H : Hp) (s : Shared) (Q : VK) (E : XK) (r : Result) (s' : Shared) : Prop :=
 match r with
 | .ok (.ret u) => CE outer P w H s Q u s'
 | .ok _ => False
 | .error e => CX outer H s E e s'
structure FnOk (P : Program) (w : World) (K : PySem.W.Frag) (mg : Str -> Option Value) (base : Heap) (CX : CXT) (k : Nat) (f : Addr) (fd : FuncData) (ps : List Str) (sp : Sp) : Prop where
 len : ∀ vs H Q E, sp vs H Q E -> vs.length = ps.length
 run : ∀ (A : Around) (outer : List Env) (s : Shared) (H : Hp) (args : Args) (us : List Value) (vs : List V) (Q : VK) (E : XK), Room k A -> Env0 P w K mg base A outer s H -> BindsTo s fd args (ps.zip us) -> Vals vs us -> sp vs H Q E ->
  codeAny (model P w) A (.call (.ref f) args) (CR CX outer P w H s Q E) s
theorem Env0.make {P : Program} {w : World} {K : PySem.W.Frag} {mg : Str -> Option Value} {base : Heap} {A : Around} {outer : List Env} {s : Shared} {H : Hp} (e : Env0 P w K mg base A outer s H) (C : Addr) (us : List Value) (kw : List (Str × Value)) :
  Env0 P w K mg base (A.under (.builtin "type.__call__" ⟨.ref C :: us, kw⟩)) outer s H := ⟨by first | exact e.frames | (simpa [Around.under, Code.envs, Code.isFrame, pushEnvs] using e.frames), e.mod, e.bs, e.bsz, e.funs, e.frf, e.hok, e.bare⟩
section
variable {X : Cx} {pins : List (Addr × Obj)} {σ : St} {H : Hp} {s s' : Shared}
theorem Inv.env0 (I : Inv X pins σ H s) : Env0 X.prog X.w X.K X.mg X.base X.A X.stack s H :=
 ⟨I.ok.frames, I.ok.mod, I.bs, Nat.le_trans I.ok.bsz I.sz, I.stack, I.stkFree, I.hok, I.bare⟩
theorem Inv.after {Q : VK} {u : Value} (I : Inv X pins σ H s) (h : CE X.stack X.prog X.w H s Q u s') : EP X pins σ Q u s' := by
 obtain ⟨v, H', os, bare, un, hok, r, q⟩ := h;obtain ⟨hh, g, d, t, os'⟩ := s';obtain rfl : os' = s.os := os;exact ⟨v, H', I.call (h' := hh) (g' := g) (d' := d) (t' := t) (ch := []) un hok bare (fun b z => absurd z (by simp)), r, q⟩
end
def Zk5 (sp : Sp) (dvs : List V) (E : XK) (t : TA) : TE := fun σ H Q => t σ H fun vs H1 => sp (vs ++ dvs) H1 Q E
def Zrm (C : Addr) (m : Str) (sp : Sp) (dvs : List V) (E : XK) (ta : TE) (t : TA) : TE := fun σ H Q => ta σ H fun x H1 => ∃ a dx fs, x = .ref a /\ H1 a = some (.ins C dx fs) /\ fs.lookup m = none /\
 t σ H1 fun vs H2 => sp (x :: (vs ++ dvs)) H2 Q E
def Zro (C : Addr) (sp : Sp) (dvs : List V) (E : XK) (t : TA) : TE := fun σ H Q => t σ H fun vs H1 => ∀ x dx, H1 x = none -> H1 dx = none -> dx ≠ x ->
 sp (.ref x :: (vs ++ dvs)) (upd (upd H1 dx (.own x)) x (.ins C dx [])) (fun v H2 => v = .non /\ Q (.ref x) H2) E
def Binds (K : PySem.W.Frag) (fd : FuncData) (ps : List Str) (ds : List Value) : Prop :=
 ∀ (s : Shared) (us : List Value), K.In s.heap -> (us ++ ds).length = ps.length -> BindsTo s fd ⟨us, []⟩ (ps.zip (us ++ ds))
theorem Binds.all {K : PySem.W.Frag} {fd : FuncData} {ps : List Str} (h : ∀ us : List Value, us.length = ps.length -> bindArgs fd ⟨us, []⟩ = pure (ps.zip us)) : Binds K fd ps [] := fun s us _ hl => by
 rw [List.append_nil] at hl ⊢;exact .of_eq (h us hl)
def Zfy (CX : CXT) (X : Cx) (E : XK) : Prop := ∀ (pins : List (Addr × Obj)) (σ : St) (H : Hp) (s : Shared) (e : Value) (s' : Shared), Inv X pins σ H s -> CX X.stack H s E e s' -> X.xe e s'
section
variable {X : Cx} {CX : CXT} {k : Nat} {f C : Addr} {fd : FuncData} {ps : List Str} {sp : Sp} {dvs : List V} {ds : List Value} {E : XK} {x m : Str} {p pos apos : Pos} {e o : Expr} {es : List Expr} {ta : TE} {t : TA}
theorem Zp2 {pins : List (Addr × Obj)} {σ : St} {H : Hp} {s : Shared} {Q : VK} {us : List Value} {vs : List V} (F : FnOk X.prog X.w X.K X.mg X.base CX k f fd ps sp) (hr : Room k X.A) (hb : Binds X.K fd ps ds) (hd : Vals dvs ds) (hx : Zfy CX X E)
  (I : Inv X pins σ H s) (r : Vals vs us) (h : sp (vs ++ dvs) H Q E) : wpAny (model X.prog X.w) X.A (call (.ref f) us) (EP X pins σ Q) X.xe s := by
 have r2 : Vals (vs ++ dvs) (us ++ ds) := r.append hd;have hl : (us ++ ds).length = ps.length := by rw [<- r2.length]; exact F.len _ _ _ _ h
 refine wpAny_call (codeAny_mono (F.run X.A X.stack s H ⟨us, []⟩ (us ++ ds) (vs ++ dvs) Q E hr I.env0 (hb s us I.kIn hl) r2 h) fun r s' hq => ?_);cases r with
 | error e => exact hx pins σ H s e s' I hq
 | ok fl =>
  cases fl with
  | ret u => exact I.after hq
  | next => exact False.elim hq
  | brk => exact False.elim hq
  | cont => exact False.elim hq
theorem Zlh (F : FnOk X.prog X.w X.K X.mg X.base CX k f fd ps sp) (hr : Room k X.A) (hg : Gl X x) (hm : X.mg x = some (.ref f)) (hk : PySem.W.keepIn X.K (.ref f) = true) (hb : Binds X.K fd ps ds) (hd : Vals dvs ds) (hx : Zfy CX X E)
  (ha : PA X (e :: es) t) (hdb : (x == ("__debug__" : Str)) = false := by decide) (he : starEach (e :: es) X.env = (false, eval e X.env) :: starEach es X.env := by rfl) (hpl : (backTo pos (starEach es X.env)).any (·.1) = false := by rfl) :
  PE X (.Call (.Name x p) (e :: es) [] pos) (Zk5 sp dvs E t) := by
 intro pins s σ H Q I h;refine wpAny_Call_Name_kw (Zef I hg hm ?_ hdb);refine PySem.W.callWith_K (h₀ := X.base) I.ok.mod.kin hk (thn (ha pos pins s σ H _ I h) fun us s1 ⟨vs, H1, I1, r, q⟩ => ⟨I1.kIn, ?_⟩) he hpl;exact Zp2 F hr hb hd hx I1 r q
structure Mk (K : PySem.W.Frag) (C f : Addr) : Prop where
 makes : PySem.W.makesIn K C = true
 init : PySem.W.findIn K (.ref C) "__init__" = some (some (.ref f))
 fn : PySem.W.isFn K (.ref f) = true
 kp : PySem.W.keepIn K (.ref C) = true
theorem Zmo {pins : List (Addr × Obj)} {σ : St} {H : Hp} {s : Shared} {Q : VK} {us : List Value} {vs : List V} (M : Mk X.K C f) (F : FnOk X.prog X.w X.K X.mg X.base CX k f fd ps sp) (hr : Room (k + 1) X.A) (hb : Binds X.K fd ps ds) (hd : Vals dvs ds)
  (hx : Zfy CX X E) (I : Inv X pins σ H s) (r : Vals vs us)
  (h : ∀ x dx, H x = none -> H dx = none -> dx ≠ x -> sp (.ref x :: (vs ++ dvs)) (upd (upd H dx (.own x)) x (.ins C dx [])) (fun v H2 => v = .non /\ Q (.ref x) H2) E) :
  wpAny (model X.prog X.w) X.A (call (.ref C) us) (EP X pins σ Q) X.xe s := by
 have hq := h (s.heap.objs.size + 1) s.heap.objs.size (I.hok.fresh (Nat.le_succ _)) (I.hok.fresh (Nat.le_refl _)) (Nat.ne_of_lt (Nat.lt_succ_self _));have I2 := Inv.made (C := C) I;have r2 : Vals (V.ref (s.heap.objs.size + 1) :: (vs ++ dvs)) (Value.ref (s.heap.objs.size + 1) :: (us ++ ds)) := .cons rfl (r.append hd);have hl : (Value.ref (s.heap.objs.size + 1) :: us ++ ds).length = ps.length := by
  have e := r2.length;rw [F.len _ _ _ _ hq] at e;exact e.symm
 refine wpAny_call (Zm2 (f := f) I.kIn M.makes M.init (beq_iff_eq.mp M.fn) (codeAny_mono (F.run _ X.stack _ _ ⟨Value.ref (s.heap.objs.size + 1) :: us, []⟩ (Value.ref (s.heap.objs.size + 1) :: (us ++ ds)) _ _ E (hr.make C us [])
  (I2.env0.make C us []) (hb _ (Value.ref (s.heap.objs.size + 1) :: us) I2.kIn hl) r2 hq) fun r s' hq' => ?_))
 cases r with
 | error e => exact hx pins σ _ _ e s' I2 hq'
 | ok fl =>
  cases fl with
  | ret u =>
   obtain ⟨v, H', I3, rv, ev, q3⟩ := I2.after hq';subst ev;exact ⟨rv, ⟨V.ref (s.heap.objs.size + 1), H', I3, rfl, q3⟩⟩
  | next => exact False.elim hq'
  | brk => exact False.elim hq'
  | cont => exact False.elim hq'
end
section
variable {X : Cx} {CX : CXT} {k : Nat} {f C : Addr} {fd : FuncData} {ps ks : List Str} {sp : Sp} {E : XK} {x m : Str} {p pos apos kpos : Pos} {e o : Expr} {es : List Expr} {kws : List Keyword} {te ta : TE} {t tk : TA} {nm : Option Str}
structure KBinds (K : PySem.W.Frag) (fd : FuncData) (ps ks : List Str) (g : List Value -> List Value -> List Value) (gV : List V -> List V -> List V) : Prop where
 to : ∀ (s : Shared) (us ws : List Value), K.In s.heap -> (g us ws).length = ps.length -> BindsTo s fd ⟨us, ks.zip ws⟩ (ps.zip (g us ws))
 rel : ∀ {vs : List V} {us : List Value} {zs : List V} {ws : List Value}, Vals vs us -> Vals zs ws -> Vals (gV vs zs) (g us ws)
variable {g : List Value -> List Value -> List Value} {gV : List V -> List V -> List V}
end
structure Zao (N P : List Str) (sc : Scope) : Prop where
 kind : sc.kind = .function
 co : sc.isCoroutine = false
 gen : sc.isGenerator = false
 nd : N.Nodup
 pre : N.take P.length = P
 par : ∀ x ∈ P, sc.names.lookup x = some .local \/ sc.names.lookup x = some .cell
 nofree : ∀ y ∈ sc.names, y.2 ≠ .free
theorem Zie {kindOf : Str -> Option NameKind} {x : Str} : ∀ {binds : List (Str × Value)} {m : Str -> Option Value}, (∀ v, (x, v) ∉ binds) -> bindL kindOf binds m x = m x
 | [], _, _ => rfl
 | (n, v) :: r, m, h => by
  unfold bindL;rw [Zie fun w hw => h w (List.mem_cons_of_mem _ hw)]
  split
  ·have : x ≠ n := by rintro rfl; exact h v List.mem_cons_self
   simp [this]
  ·rfl
theorem Zig {kindOf : Str -> Option NameKind} {x : Str} : ∀ {binds : List (Str × Value)} {m : Str -> Option Value}, (∀ v, (x, v) ∉ binds) -> bindC kindOf binds m x = m x
 | [], _, _ => rfl
 | (n, v) :: r, m, h => by
  unfold bindC;rw [Zig fun w hw => h w (List.mem_cons_of_mem _ hw)]
  split
  ·rfl
  ·have : x ≠ n := by rintro rfl; exact h v List.mem_cons_self
   simp [this]
theorem Zif {kindOf : Str -> Option NameKind} {x : Str} {v : Value} : ∀ {P : List Str} {vs : List Value} {i : Nat} {m : Str -> Option Value}, P.Nodup -> P[i]? = some x -> vs[i]? = some v -> kindOf x = some .local ->
  bindL kindOf (P.zip vs) m x = some v
 | [], _, _, _, _, h, _, _ => by simp at h
 | _ :: _, [], _, _, _, _, h, _ => by simp at h
 | p :: P, w :: vs, 0, m, nd, h1, h2, hk => by
  simp at h1 h2; subst h1; subst h2;show bindL kindOf ((p, w) :: P.zip vs) m p = _;unfold bindL;rw [Zie fun v hv => (List.nodup_cons.mp nd).1 (List.of_mem_zip hv).1, if_pos hk];simp
 | p :: P, w :: vs, i + 1, m, nd, h1, h2, hk => by
  show bindL kindOf ((p, w) :: P.zip vs) m x = _;unfold bindL;exact Zif (i := i) (List.nodup_cons.mp nd).2 (by simpa using h1) (by simpa using h2) hk
theorem Zih {kindOf : Str -> Option NameKind} {x : Str} {v : Value} : ∀ {P : List Str} {vs : List Value} {i : Nat} {m : Str -> Option Value}, P.Nodup -> P[i]? = some x -> vs[i]? = some v -> kindOf x ≠ some .local ->
  bindC kindOf (P.zip vs) m x = some v
 | [], _, _, _, _, h, _, _ => by simp at h
 | _ :: _, [], _, _, _, _, h, _ => by simp at h
 | p :: P, w :: vs, 0, m, nd, h1, h2, hk => by
  simp at h1 h2; subst h1; subst h2;show bindC kindOf ((p, w) :: P.zip vs) m p = _;unfold bindC;rw [Zig fun v hv => (List.nodup_cons.mp nd).1 (List.of_mem_zip hv).1, if_neg hk];simp
 | p :: P, w :: vs, i + 1, m, nd, h1, h2, hk => by
  show bindC kindOf ((p, w) :: P.zip vs) m x = _;unfold bindC;exact Zih (i := i) (List.nodup_cons.mp nd).2 (by simpa using h1) (by simpa using h2) hk
def start (N : List Str) (vs : List V) : St := vs.map some ++ List.replicate (N.length - vs.length) none
def cxOf (CX : CXT) (P : Program) (w : World) (K : PySem.W.Frag) (mg : Str -> Option Value) (base : Heap) (N : List Str) (qual : Str) (scope : Scope) (f : Addr) (cd : Value) (A : Around) (outer : List Env) (s : Shared) (H : Hp) (E : XK) : Cx where
 prog := P
 w := w
 K := K
 mg := mg
 base := base
 A := A.deeper (envOfC qual scope s.heap.objs.size f cd)
 N := N
 s₀ := s
 H₀ := H
 env := envOfC qual scope s.heap.objs.size f cd
 outer := outer
 stack := envOfC qual scope s.heap.objs.size f cd :: outer
 ex := []
 calm := true
 fn := fun _ => true
 pn := []
 xe := fun e s' => wpAny (model P w) (A.deeper (envOfC qual scope s.heap.objs.size f cd)) (leaving (envOfC qual scope s.heap.objs.size f cd) e) (fun _ s'' => CX outer H s E e s'') (fun e' s'' => CX outer H s E e' s'') s'
theorem Zjy {sc : Scope} {n : Nat} {x : Str} (h : sc.names.lookup x = some .cell) : ∃ c, (cellsFrom n sc.names []).lookup x = some c := by
 have q := PySem.W.cellsFrom_some sc.names n [] (.inl h);exact Option.isSome_iff_exists.mp q
theorem Zlr {CX : CXT} {P : Program} {w : World} {K : PySem.W.Frag} {mg : Str -> Option Value} {base : Heap} {N ps : List Str} {qual : Str} {scope : Scope} {f : Addr} {cd : Value} {A : Around} {outer : List Env} {s s1 : Shared} {H : Hp} {E : XK} {us : List Value} {vs : List V}
  (S : Zao N ps scope) (hd : A.handled = none) (e0 : Env0 P w K mg base A outer s H) (hl : vs.length = ps.length) (r : Vals vs us)
  (x : InCallC s s.heap.objs.size (bindL (envOfC qual scope s.heap.objs.size f cd).kindOf (ps.zip us) fun _ => none) (cellsFrom (s.heap.objs.size + 1) scope.names []) (bindC (envOfC qual scope s.heap.objs.size f cd).kindOf (ps.zip us) fun _ => none) s1) :
  Inv (cxOf CX P w K mg base N qual scope f cd A outer s H E) [] (start N vs) H s1 := by
 have hpl : ps.length <= N.length := by have := congrArg List.length S.pre; rw [List.length_take] at this; omega
 obtain ⟨h1, tk, rfl, hk⟩ := x.done;have noA : ∀ b : Addr, b ∉ (cxOf CX P w K mg base N qual scope f cd A outer s H E).ex := fun b z => absurd (show b ∈ ([] : List Addr) from z) (by simp)
 refine ⟨⟨e0.mod, S.kind, rfl, rfl, Nat.le_refl _, fun y z c h1 h2 => ?_, fun y hy => ?_, fun y c _ h => ?_, fun _ => hd, Around.frames_deeper e0.frames, .inr ⟨rfl, rfl⟩, fun b z => absurd z (noA b), e0.bs, e0.bsz, fun b _ _ => noA b, fun b z => absurd z (noA b), e0.funs, e0.frf⟩,
  rfl, e0.bare, Un.kept hk, ⟨_, x.toInCall.ns, fun i y v h1 h2 h3 => ?_⟩, fun y c h => ⟨_, x.cell y c h⟩, e0.hok.fresh (Nat.le_refl _), fun y c h => ?_, fun p hp => absurd (show p ∈ ([] : List (Addr × Obj)) from hp) (by simp), e0.hok.kept hk, ?_⟩
 ·exact name_of_addr x.apart (PySem.mem_of_lookup h1) (PySem.mem_of_lookup h2)
 ·have hy : scope.names.lookup y = some .cell \/ scope.names.lookup y = some .free := hy;rcases hy with hy | hy
  ·exact Zjy hy
  ·exact absurd rfl (S.nofree _ (PySem.mem_of_lookup hy))
 ·exact Nat.le_of_lt (x.above y c (PySem.mem_of_lookup h))
 ·have hi : i < vs.length := by
   unfold start at h2
   by_cases hi : i < vs.length
   ·exact hi
   ·rw [List.getElem?_append_right (by simpa using hi)] at h2;rw [List.getElem?_replicate] at h2
    split at h2 <;> cases h2
  have ha : vs[i]? = some v := by
   unfold start at h2;rw [List.getElem?_append_left (by simpa using hi), List.getElem?_map] at h2;cases e : vs[i]? with
   | none => rw [e] at h2; cases h2
   | some a => rw [e] at h2; cases h2; rfl
  obtain ⟨u, hu, rv⟩ := r.get ha;have hp : ps[i]? = some y := by
   rw [<- S.pre, List.getElem?_take_of_lt (by omega)]; exact h1
  have ndP : ps.Nodup := by rw [<- S.pre]; exact S.nd.sublist (List.take_sublist _ _)
  refine ⟨u, rv, ?_⟩;rcases S.par y (List.mem_of_getElem? hp) with k | k
  ·exact .inl ⟨k, Zif ndP hp hu k⟩
  ·obtain ⟨c, e⟩ := Zjy (n := s.heap.objs.size + 1) k;refine .inr ⟨.inl k, c, e, ?_⟩;have q := x.cell y c e;rw [Zih ndP hp hu (by show scope.names.lookup y ≠ _; rw [k]; decide)] at q;exact q
 ·exact e0.hok.fresh (Nat.le_of_lt (x.above y c (PySem.mem_of_lookup h)))
 ·unfold start;show _ = N.length;rw [List.length_append, List.length_map, List.length_replicate];omega
theorem Zlz {CX : CXT} {P : Program} {w : World} {K : PySem.W.Frag} {mg : Str -> Option Value} {base : Heap} {k : Nat} {f : Addr} {name qual : Str} {params : Arguments} {body : List Stmt} {scope : Scope} {dV kV doc pm cdv ct oc : Value} {an od : Option Addr}
  {osl : Array (Option Value)} {N ps : List Str} {sp : Sp} (lk : K.lookup f = some ⟨oc, od, .func (PySem.W.fnOf name qual params body scope dV kV doc pm an cdv ct), osl⟩) (hcd : PySem.W.codeIn K cdv qual = true) (S : Zao N ps scope)
  (len : ∀ vs H Q E, sp vs H Q E -> vs.length = ps.length)
  (hbody : ∀ (A : Around) (outer : List Env) (s : Shared) (H : Hp) (vs : List V) (Q : VK) (E : XK), Room k (A.deeper (envOfC qual scope s.heap.objs.size f cdv)) -> sp vs H Q E ->
   ∃ t, PSs (cxOf CX P w K mg base N qual scope f cdv A outer s H E) body t /\ t { nx := fun _ H' => Q .non H', rt := Q } (start N vs) H) :
  FnOk P w K mg base CX (k + 1) f (PySem.W.fnOf name qual params body scope dV kV doc pm an cdv ct) ps sp := by
 refine ⟨len, fun A outer s H args us vs Q E hr e0 hb r hsp => ?_⟩;have hl := len _ _ _ _ hsp;have KX : K.In s.heap := e0.mod.kin.keeps fun b o e => (e0.bs b o e).1
 have lim : s.heap.NoLimit := e0.mod.nolimit.keeps fun b o e => (e0.bs b o e).1
 have hkind : ∀ y ∈ ps.zip us, scope.names.lookup y.1 = some .local \/ (scope.names.lookup y.1 = some .cell /\ ((cellsFrom (s.heap.objs.size + 1) scope.names []).lookup y.1).isSome = true) := fun ⟨n, v⟩ hy => by
  rcases S.par n (List.of_mem_zip hy).1 with q | q
  ·exact .inl q
  ·exact .inr ⟨q, PySem.W.cellsFrom_some _ _ _ (.inl q)⟩
 refine codeAny_call_function hr.depth (KX _ _ lk) rfl S.co S.gen rfl (PySem.W.codeRec_of KX hcd) (hb _ _ _ _ ?_);refine wpAny_newFunctionEnv_cells S.kind hkind fun env he s1 x => ?_
 subst he;refine ⟨lim.keeps x.toInCall.keep, codeAny_func ?_⟩;obtain ⟨t, ht, hq⟩ := hbody A outer s H vs Q E (hr.deeper _) hsp;have I : Inv (cxOf CX P w K mg base N qual scope f cdv A outer s H E) [] (start N vs) H s1 := Zlr S hr.hd e0 hl r x;refine wpAny_mono (ht [] s1 (start N vs) H _ I hq) (fun fl s' hs => ?_) fun e s' hs => hs
 have fin : ∀ {σ' : St} {H' : Hp} {v : V} {u : Value}, Inv (cxOf CX P w K mg base N qual scope f cdv A outer s H E) [] σ' H' s' -> RelV v u -> Q v H' -> CE outer P w H s Q u s' :=
  fun {σ' H' v u} J rv q => ⟨v, H', J.os, J.bare, J.base, J.hok, rv, q⟩
 cases fl with
 | ret u =>
  obtain ⟨v, σ', H', J, rv, q⟩ := hs;exact fin J rv q
 | next =>
  obtain ⟨σ', H', J, q⟩ := hs;exact fin (v := V.non) (u := Value.none) J rfl q
 | brk =>
  obtain ⟨_, _, _, q⟩ := hs;exact False.elim q
 | cont =>
  obtain ⟨_, _, _, q⟩ := hs;exact False.elim q
end L2
namespace L2
open PySem PySem.Spec PyProof.Rows
section
variable {X : Cx} {x : Str} {p pos : Pos} {e : Expr} {es : List Expr} {t : TA} {id T : String} {r : List V -> Hp -> VK -> Prop}
def tCB (r : List V -> Hp -> VK -> Prop) (t : TA) : TE := fun σ H Q => t σ H fun vs H1 => r vs H1 Q
theorem Zam (hc : CallR X (.builtin id) r) (hg : Gl X x) (hm : X.mg x = none) (hv : bootBuiltins x = some (.builtin id)) (ha : PA X (e :: es) t) (hn : x ≠ "__name__" := by decide) (hdb : (x == ("__debug__" : Str)) = false := by decide)
  (he : starEach (e :: es) X.env = (false, eval e X.env) :: starEach es X.env := by rfl) (hpl : (backTo pos (starEach es X.env)).any (·.1) = false := by rfl) : PE X (.Call (.Name x p) (e :: es) [] pos) (tCB r t) := by
 intro pins s σ H Q I h;refine wpAny_Call_Name_kw (Zjr I hg hm hv ?_ hn hdb);exact PyProof.Rows.callWith_builtin1 (thn (ha pos pins s σ H _ I h) fun us s1 ⟨vs, H1, I1, r1, q1⟩ => hc pins s1 σ H1 vs us Q I1 r1 q1) he hpl
theorem Zfq (hc : CallR X (.type T) r) (hg : Gl X x) (hm : X.mg x = none) (hv : bootBuiltins x = some (.type T)) (ha : PA X (e :: es) t) (hn : x ≠ "__name__" := by decide) (hdb : (x == ("__debug__" : Str)) = false := by decide)
  (he : starEach (e :: es) X.env = (false, eval e X.env) :: starEach es X.env := by rfl) (hpl : (backTo pos (starEach es X.env)).any (·.1) = false := by rfl) : PE X (.Call (.Name x p) (e :: es) [] pos) (tCB r t) := by
 intro pins s σ H Q I h;refine wpAny_Call_Name_kw (Zjr I hg hm hv ?_ hn hdb);exact PyProof.Rows.callWith_type1 (thn (ha pos pins s σ H _ I h) fun us s1 ⟨vs, H1, I1, r1, q1⟩ => hc pins s1 σ H1 vs us Q I1 r1 q1) he hpl
end
end L2
namespace HT
open PySem PyProof.Rows
def Zsd : List Int -> List Int -> Bool
 | [], [] => false
 | [], _ :: _ => true
 | _ :: _, [] => false
 | x :: xs, y :: ys => if x = y then Zsd xs ys else decide (x < y)
section
open PySem.SeqAt
open PySem.AutoSeq1 (wpAny_loadPart')
open PySem.MeetsSeq PySem.MeetsSeq2 PySem.MeetsSeq3
end
section
variable {prog : Program} {w : World} {A : Around} {E : Value -> Shared -> Prop} {s : Shared}
def sIx (n d : Nat) : Option Int -> Nat
 | none => d
 | some v => if v < 0 then (v + (n : Int)).toNat else min v.toNat n
theorem sIx_none (n d : Nat) : sIx n d none = d := rfl
theorem sIx_nat (n d k : Nat) : sIx n d (some (k : Int)) = min k n := by
 show (if (k : Int) < 0 then ((k : Int) + (n : Int)).toNat else min (k : Int).toNat n) = min k n;rw [if_neg (by omega), Int.toNat_natCast]
end
end HT
namespace L2
open PySem PySem.Spec PyProof.Rows
abbrev TO := St -> Hp -> (Option Int -> Hp -> Prop) -> Prop
def PO (X : Cx) (e : Option Expr) (t : TO) : Prop :=
 ∀ (pins : List (Addr × Obj)) (s : Shared) (σ : St) (H : Hp) (Q : Option Int -> Hp -> Prop), Inv X pins σ H s -> t σ H Q ->
  wpAny (model X.prog X.w) X.A (evalPart e X.env) (fun u s' => ∃ o H', Inv X pins σ H' s' /\ IsPart u o /\ Q o H') X.xe s
def Zk3 : TO := fun _ H Q => Q none H
def Zpm (t : TE) : TO := fun σ H Q => t σ H fun x H1 => ∃ i, x = .int i /\ Q (some i) H1
section
variable {X : Cx} {e : Expr} {te : TE} {lo hi : Option Expr} {tl th : TO} {pos p2 : Pos}
theorem Zgz : PO X none Zk3 := by
 intro pins s σ H Q I h;rw [evalPart_none];exact wpAny_pure ⟨none, H, I, .none, h⟩
theorem Ze0 (h : PE X e te) : PO X (some e) (Zpm te) := by
 intro pins s σ H Q I hw;rw [evalPart_some];refine thn (h pins s σ H _ I hw) fun u s1 ⟨x, H1, I1, r1, q1⟩ => ?_
 obtain ⟨i, rfl, q⟩ := q1;obtain ⟨t, rfl⟩ := r1;exact ⟨some i, H1, I1, .int i t, q⟩
def SlR (X : Cx) (r : V -> Option Int -> Option Int -> Hp -> VK -> Prop) : Prop :=
 ∀ (pins : List (Addr × Obj)) (s : Shared) (σ : St) (H : Hp) (x : V) (v vl vu : Value) (lo hi : Option Int) (sl : Addr) (Q : VK), Inv X pins σ H s -> RelV x v -> s.heap.IsSliceOf sl vl vu .none -> IsPart vl lo -> IsPart vu hi -> r x lo hi H Q ->
  ∃ T id, typeLookup (.type T) "__getitem__" = pure (some (.builtin id)) /\ s.TypeIs v T /\ wpAny (model X.prog X.w) X.A (getItem v (.ref sl)) (EP X pins σ Q) X.xe s
def tSl (r : V -> Option Int -> Option Int -> Hp -> VK -> Prop) (te : TE) (tl th : TO) : TE := fun σ H Q => te σ H fun x H1 => tl σ H1 fun l H2 => th σ H2 fun u H3 => r x l u H3 Q
theorem Zej {r : V -> Option Int -> Option Int -> Hp -> VK -> Prop} (hr : SlR X r) (he : PE X e te) (hl : PO X lo tl) (hu : PO X hi th) : PE X (.Subscript e (.Slice lo hi none p2) pos) (tSl r te tl th) := by
 intro pins s σ H Q I h;refine Subscript_ (thn (he pins s σ H _ I h) fun v s1 ⟨x, H1, I1, r1, q1⟩ => ?_);refine wpAny_Slice (thn (hl pins s1 σ H1 _ I1 q1) fun vl s2 ⟨l, H2, I2, pl, q2⟩ => thn (hu pins s2 σ H2 _ I2 q2) fun vu s3 ⟨u, H3, I3, pu, q3⟩ => ?_);rw [evalPart_none];refine wpAny_pure ?_;have I4 : Inv X pins σ H3 { s3 with heap := s3.heap.push { cls := .type "slice", data := .fields #[vl, vu, .none] } } := I3.kept (t' := s3.toks) fun b ob q => Heap.get?_push_of_some _ q
 obtain ⟨T, id, hT, ht, hg⟩ := hr pins { s3 with heap := s3.heap.push { cls := .type "slice", data := .fields #[vl, vu, .none] } } σ H3 x v vl vu l u s3.heap.objs.size Q I4 r1 (Heap.IsSliceOf.new ..) pl pu q3;show wpAny (model X.prog X.w) X.A (subscriptTail e (.Slice lo hi none p2) v (.ref s3.heap.objs.size)) (EP X pins σ Q) X.xe { s3 with heap := s3.heap.push { cls := .type "slice", data := .fields #[vl, vu, .none] } };exact tail_any (ops := [.ref s3.heap.objs.size, v]) ht hT hg (by with_unfolding_all rfl)
def Zja (xs : List V) (lo hi : Option Int) : List V := (xs.drop (HT.sIx xs.length 0 lo)).take (HT.sIx xs.length xs.length hi - HT.sIx xs.length 0 lo)
theorem Zi9 (xs : List V) (lo hi : Option Int) : (Zja xs lo hi).length <= xs.length := by
 unfold Zja;rw [List.length_take, List.length_drop];omega
end
end L2
namespace L2
open PySem PySem.Spec PyProof.Rows
def ixN (n : Nat) (i : Int) : Option Nat := if 0 <= i then (if i < n then some i.toNat else none) else if -(n : Int) <= i then some (i + n).toNat else none
def atI {α : Type} (xs : List α) (i : Int) : Option α := (ixN xs.length i).bind fun j => xs[j]?
theorem Zlp {n : Nat} {i : Int} {j : Nat} (h : ixN n i = some j) : seqIndex? i n = some j /\ j < n /\ -(n : Int) <= i /\ i < n := by
 unfold ixN at h
 by_cases h0 : 0 <= i
 ·rw [if_pos h0] at h
  by_cases h1 : i < n
  ·rw [if_pos h1] at h;have e : i.toNat = j := Option.some.inj h;exact ⟨by rw [seqIndex_of h0 h1, e], by omega, by omega, h1⟩
  ·rw [if_neg h1] at h; cases h
 ·rw [if_neg h0] at h
  by_cases h1 : -(n : Int) <= i
  ·rw [if_pos h1] at h;have e : (i + n).toNat = j := Option.some.inj h;exact ⟨by rw [seqIndex_neg (by omega) h1, e], by omega, h1, by omega⟩
  ·rw [if_neg h1] at h; cases h
theorem Zjf {α : Type} {xs : List α} {i : Int} {v : α} (h : atI xs i = some v) : ∃ j, seqIndex? i xs.length = some j /\ xs[j]? = some v /\ j < xs.length /\ -(xs.length : Int) <= i /\ i < xs.length := by
 unfold atI at h;cases e : ixN xs.length i with
 | none => rw [e] at h; cases h
 | some j =>
  rw [e] at h;obtain ⟨h1, h2, h3, h4⟩ := Zlp e;exact ⟨j, h1, h, h2, h3, h4⟩
theorem Zat {α : Type} {xs : List α} {j : Nat} {v : α} (h : xs[j]? = some v) : atI xs (j : Int) = some v := by
 have hj : j < xs.length := (List.getElem?_eq_some_iff.mp h).1;have e : ixN xs.length (j : Int) = some j := by
  unfold ixN;rw [if_pos (by omega), if_pos (by omega)]; simp
 unfold atI; rw [e]; exact h
def Zo8 (b : Expr) : Prop := ∀ o i, subscripted b false o i = operate [o, i] (getItem o i)
def IxR (X : Cx) (r : R2) : Prop :=
 ∀ (value slice : Expr) (pins : List (Addr × Obj)) (s : Shared) (σ : St) (H : Hp) (x y : V) (v u : Value) (Q : VK), Inv X pins σ H s -> RelV x v -> RelV y u -> r x y H Q ->
  subscripted slice false v u = operate [v, u] (getItem v u) -> wpAny (model X.prog X.w) X.A (subscriptTail value slice v u) (EP X pins σ Q) X.xe s
def MtR (X : Cx) (id : String) (r : V -> List V -> Hp -> VK -> Prop) : Prop :=
 ∀ (pins : List (Addr × Obj)) (s : Shared) (σ : St) (H : Hp) (x : V) (xs : List V) (v : Value) (us : List Value) (Q : VK), Inv X pins σ H s -> RelV x v -> Vals xs us -> r x xs H Q ->
  wpAny (model X.prog X.w) X.A (call (.builtin id) (v :: us)) (EP X pins σ Q) X.xe s
section
variable {X : Cx} {a b : Expr} {ta tb : TE} {pos : Pos}
theorem Zcf {r : R2} (hr : IxR X r) (ha : PE X a ta) (hb : PE X b tb) (hs : Zo8 b) : PE X (.Subscript a b pos) (tOp r ta tb) := by
 intro pins s σ H Q I h;exact Subscript_ (Zsl ha hb I h fun v u s2 x y H2 I2 rx ry q => hr a b pins s2 σ H2 x y v u Q I2 rx ry q (hs _ _))
def Zr4 (K : PySem.W.Frag) : R2 := fun x y H Q => ∃ p xs i v, x = .ref p /\ y = .int i /\ SqL K H p xs /\ atI xs i = some v /\ Q v H
def Zr2 (K : PySem.W.Frag) : R2 := fun x y H Q => ∃ p xs i v, x = .ref p /\ y = .int i /\ SqT K H p xs /\ atI xs i = some v /\ Q v H
def Zr3 : R2 := fun x y H Q => ∃ z i c, x = .str z /\ y = .int i /\ z.length <= sizeLine /\ atI z.cps.toList i = some c /\ Q (.str ⟨#[c]⟩) H
theorem Zow : IxR X (Zr4 X.K) := by
 intro value slice pins s σ H x y v u Q I rx ry h hs;obtain ⟨p, xs, i, z, rfl, rfl, hq, he, q⟩ := h;cases rx;obtain ⟨t, rfl⟩ := ry;obtain ⟨its, r, pl, hz⟩ := I.list hq;obtain ⟨j, h1, h2, h3, h4, h5⟩ := Zjf he;obtain ⟨w, ew, rw'⟩ := r.get h2;have hl := r.length;have hn := Zgk;have fin : EP X pins σ Q w s := ⟨z, H, I, rw', q⟩
 by_cases h0 : 0 <= i
 ·have hj : i.toNat = j := by
   rw [seqIndex_of h0 h5] at h1;exact Option.some.inj h1
  exact item_listR pl.isList h0 (by omega) (by rw [hj]; simpa using ew) fin hs
 ·have hj : (i + (its.toArray.size : Int)).toNat = j := by
   rw [seqIndex_neg (by omega) h4] at h1;rw [List.size_toArray, <- hl];exact Option.some.inj h1
  exact subscriptTail_builtinR (x := w) pl.isList.typeIs slot_list_getitem.lookup
   (wpAny_getItem_list_neg (Q := fun r s' => r = w /\ EP X pins σ Q r s') pl.isList (by omega) (by rw [List.size_toArray] <;> omega) (by omega) (by rw [hj]; simpa using ew) ⟨rfl, fin⟩) hs
theorem Zq3 : IxR X (Zr2 X.K) := by
 intro value slice pins s σ H x y v u Q I rx ry h hs;obtain ⟨p, xs, i, z, rfl, rfl, hq, he, q⟩ := h;cases rx;obtain ⟨t, rfl⟩ := ry;obtain ⟨its, r, pl, hz⟩ := I.tuple hq;obtain ⟨j, h1, h2, h3, h4, h5⟩ := Zjf he;obtain ⟨w, ew, rw'⟩ := r.get h2;have hl := r.length;have hn := Zgk;have fin : EP X pins σ Q w s := ⟨z, H, I, rw', q⟩;exact subscriptTail_builtinR (x := w) pl.typeIs slot_tuple_getitem.lookup
  (getItem_tuple (j := j) (Q := fun r s' => r = w /\ EP X pins σ Q r s') pl (by omega) (by omega) (by rw [List.size_toArray, <- hl]; exact h1) (by simpa using ew) ⟨rfl, fin⟩) hs
theorem Zq4 : IxR X Zr3 := by
 intro value slice pins s σ H x y v u Q I rx ry h hs;obtain ⟨z, i, c, rfl, rfl, hz, he, q⟩ := h;obtain ⟨t, rfl⟩ := rx;obtain ⟨t', rfl⟩ := ry;obtain ⟨j, h1, h2, h3, h4, h5⟩ := Zjf he;have hl : z.cps.toList.length = z.length := by simp [Str.length]
 rw [hl] at h1 h4 h5;have hn := Zgk;exact tail_any (typeIs_str s z t) slot_str_getitem.lookup (getItem_str (c := c) (by
  have e1 : decide (i < -(2 ^ 63 : Int)) = false := decide_eq_false (by omega);have e2 : decide (i ≥ 2 ^ 63) = false := decide_eq_false (by omega);rw [e1, e2, Bool.or_false]) (by rw [h1]; simpa using h2) ⟨.str ⟨#[c]⟩, H, I.tok _, ⟨_, rfl⟩, q⟩) hs
theorem Zki (its : List Value) (n j : Nat) (u : Value) : Obj.mapSeq (·.setIfInBounds j u) { cls := .type "list", data := .seq its.toArray n } = { cls := .type "list", data := .seq (its.set j u).toArray n } := by
 simp [Obj.mapSeq]
theorem Inv.lst {pins : List (Addr × Obj)} {σ : St} {H : Hp} {s : Shared} {p : Addr} {xs : List V} (I : Inv X pins σ H s) (h : H p = some (.lst xs)) :
  ∃ (its : List Value) (n : Nat), Vals xs its /\ s.heap.get? p = some { cls := .type "list", data := .seq its.toArray n } /\ xs.length <= sizeLine := by
 obtain ⟨z, its, n, r, e⟩ := I.hok p _ h;exact ⟨its, n, r, e, z⟩
theorem Inv.lstUpd {pins : List (Addr × Obj)} {σ : St} {H : Hp} {s : Shared} {p : Addr} {xs ys : List V} {its its' : List Value} {n n' : Nat} {f : Obj -> Obj} (I : Inv X pins σ H s) (h : H p = some (.lst xs))
  (ho : s.heap.get? p = some { cls := .type "list", data := .seq its.toArray n }) (hf : f { cls := .type "list", data := .seq its.toArray n } = { cls := .type "list", data := .seq its'.toArray n' }) (r : Vals ys its') (hz : ys.length <= sizeLine) (t : Nat) :
  Inv X pins σ (upd H p (.lst ys)) { s with heap := s.heap.update p f, toks := t } := by
 have e : (s.heap.update p f).get? p = some { cls := .type "list", data := .seq its'.toArray n' } := by
  rw [Heap.get?_update_self f ho (by rw [hf] <;> rfl), hf]
 refine I.write (x := p) (e := p) (by rw [h]; trivial) (.inl rfl) (fun b u hb q => (Heap.get?_update_other _ _ (Ne.symm hb)).trans q) ⟨_, e⟩ ?_;exact ⟨hz, its', n', r, e⟩
def Zp8 : V -> V -> V -> Hp -> (Hp -> Prop) -> Prop := fun o i v H Q => ∃ p xs k j, o = .ref p /\ i = .int k /\ H p = some (.lst xs) /\ ixN xs.length k = some j /\ Q (upd H p (.lst (xs.set j v)))
theorem Zjj : Zs7 X Zp8 := by
 intro pins s σ H o i v ov iv u Q I ro ri rv h;obtain ⟨p, xs, k, j, rfl, rfl, hp, hj, q⟩ := h;cases ro;obtain ⟨t, rfl⟩ := ri;obtain ⟨its, n, r, ho, hz⟩ := I.lst hp;obtain ⟨h1, h2, h3, h4⟩ := Zlp hj;have hl := r.length;have hn := Zgk;have I' : Inv X pins σ (upd H p (.lst (xs.set j v))) { s with heap := s.heap.update p (Obj.mapSeq (·.setIfInBounds j u)) } :=
  I.lstUpd hp ho (Zki its n j u) (r.set rv j) (by rw [List.length_set]; exact hz) s.toks
 by_cases h0 : 0 <= k
 ·have hk : k.toNat = j := by
   rw [seqIndex_of h0 h4] at h1;exact Option.some.inj h1
  exact PySem.W.ki_setAt ho h0 (by omega) (by rw [List.size_toArray, <- hl]; exact h4) (by rw [hk]; exact ⟨_, I', q⟩)
 ·have hk : (k + (its.toArray.size : Int)).toNat = j := by
   rw [seqIndex_neg (by omega) h3] at h1;rw [List.size_toArray, <- hl];exact Option.some.inj h1
  exact PySem.W.ki_setBack ho (by omega) (by rw [List.size_toArray, <- hl]; exact h3) (by omega) (by rw [hk]; exact ⟨_, I', q⟩)
theorem Zhl (lo hi : Option Int) (n : Nat) : (sliceBounds lo hi none n).1 = ((HT.sIx n 0 lo : Nat) : Int) /\ (sliceBounds lo hi none n).2.1 = ((HT.sIx n n hi : Nat) : Int) /\ (sliceBounds lo hi none n).2.2 = 1 := by
 refine ⟨?_, ?_, rfl⟩
 ·cases lo with
  | none => simp [sliceBounds, HT.sIx]
  | some i =>
   simp only [sliceBounds, HT.sIx, Option.getD_none, show (1 : Int) > 0 by decide, if_true]
   by_cases h : i < 0
   ·simp only [h, if_true] <;> omega
   ·simp only [h, if_false] <;> omega
 ·cases hi with
  | none => simp [sliceBounds, HT.sIx]
  | some i =>
   simp only [sliceBounds, HT.sIx, Option.getD_none, show (1 : Int) > 0 by decide, if_true]
   by_cases h : i < 0
   ·simp only [h, if_true] <;> omega
   ·simp only [h, if_false] <;> omega
theorem Zgr (its : List Value) (lo hi : Option Int) : slicePick its.toArray lo hi none = ((its.drop (HT.sIx its.length 0 lo)).take (HT.sIx its.length its.length hi - HT.sIx its.length 0 lo)).toArray := by
 obtain ⟨h1, h2, h3⟩ := Zhl lo hi its.toArray.size;unfold slicePick;rw [h1, h2, h3];simp only [sliceRange_one, pick_run, List.size_toArray] <;> rfl
def Zrx (K : PySem.W.Frag) : V -> Option Int -> Option Int -> Hp -> VK -> Prop := fun x lo hi H Q => ∃ a xs, x = .ref a /\ SqL K H a xs /\ ∀ p, H p = none -> Q (.ref p) (upd H p (.lst (Zja xs lo hi)))
theorem Zn8 : SlR X (Zrx X.K) := by
 intro pins s σ H x v vl vu lo hi sl Q I rx hs pl pu h;obtain ⟨a, xs, rfl, hx, q⟩ := h;cases rx;obtain ⟨its, r, ht, hz⟩ := I.list hx;have hlen := r.length;refine ⟨"list", _, slot_list_getitem.lookup, ht.isList.typeIs, ?_⟩;refine wpAny_getItem_list_slice ht.isList hs pl pu .none (by simp) ?_ (by rw [List.size_toArray] <;> omega);rw [Zgr, <- hlen];refine ⟨.ref s.heap.objs.size, _, I.laid (t' := s.toks) (o := .lst (Zja xs lo hi)) (fun b ob q => Heap.get?_push_of_some _ q) (Nat.le_refl _) ?_, rfl, q _ (I.hok.fresh (Nat.le_refl _))⟩;exact ⟨Nat.le_trans (Zi9 xs lo hi) hz, _, 0, (r.drop (HT.sIx xs.length 0 lo)).take (HT.sIx xs.length xs.length hi - HT.sIx xs.length 0 lo), Heap.get?_push_size _ rfl⟩
theorem Zid : CallR X (.builtin "len") (fun xs H Q => ∃ p ys, xs = [.ref p] /\ (SqL X.K H p ys \/ SqT X.K H p ys) /\ Q (.int ys.length) H) := by
 intro pins s σ H xs us Q I r h;obtain ⟨p, ys, rfl, hq, q⟩ := h;obtain ⟨u, rfl, rx⟩ := Zhi r;cases rx;have hn := Zgk;rcases hq with hq | hq
 ·obtain ⟨its, r', pl, hz⟩ := I.list hq;have hlen := r'.length;exact Calls.call_len_list pl.isList (by simp only [List.size_toArray] <;> omega) ⟨.int ys.length, H, I.tok _, ⟨s.toks + 1, by rw [List.size_toArray, hlen]⟩, q⟩
 ·obtain ⟨its, r', pl, hz⟩ := I.tuple hq;have hlen := r'.length;exact len_tuple pl (by simp only [List.size_toArray] <;> omega) ⟨.int ys.length, H, I.tok _, ⟨s.toks + 1, by rw [List.size_toArray, hlen]⟩, q⟩
theorem Zic : CallR X (.builtin "len") (fun xs H Q => ∃ z, xs = [.str z] /\ z.length <= sizeLine /\ Q (.int z.length) H) := by
 intro pins s σ H xs us Q I r h;obtain ⟨z, rfl, hz, q⟩ := h;obtain ⟨u, rfl, t, rfl⟩ := Zhi r;have hn := Zgk;exact len_str (by omega) ⟨.int z.length, H, I.tok _, ⟨_, rfl⟩, q⟩
theorem Zib : CallR X (.type "list") (fun xs H Q => ∃ p ys, xs = [.ref p] /\ (SqL X.K H p ys \/ SqT X.K H p ys) /\ ∀ l, H l = none -> Q (.ref l) (upd H l (.lst ys))) := by
 intro pins s σ H xs us Q I r h;obtain ⟨p, ys, rfl, hq, q⟩ := h;obtain ⟨u, rfl, rx⟩ := Zhi r;cases rx;have fin : ∀ (its : List Value), Vals ys its -> ys.length <= sizeLine -> ∀ (h' : Heap) (c' : Nat), (∀ b o', s.heap.get? b = some o' -> h'.get? b = some o') ->
   h'.get? s.heap.objs.size = some { cls := .type "list", dict := none, data := .seq its.toArray c', slots := #[] } -> EP X pins σ Q (.ref s.heap.objs.size) { s with heap := h' } := fun its r' hz h' c' kp e =>
  ⟨.ref s.heap.objs.size, _, I.laid (t' := s.toks) kp (Nat.le_refl _) (show ObjOk X.prog X.w _ h' _ (.lst ys) from ⟨hz, its, c', r', e⟩), rfl, q _ (I.hok.fresh (Nat.le_refl _))⟩
 rcases hq with hq | hq
 ·obtain ⟨its, r', pl, hz⟩ := I.list hq;have hlen := r'.length;obtain ⟨o, ho, hc, n, hd⟩ := pl.isList;exact call_list_seq p (.inl rfl) ho hc hd (fun h' c' kp e => fin its r' hz h' c' kp e) (by simp only [List.size_toArray] <;> omega)
 ·obtain ⟨its, r', pl, hz⟩ := I.tuple hq;have hlen := r'.length;obtain ⟨o, ho, hc, n, hd⟩ := pl;exact call_list_seq p (.inr rfl) ho hc hd (fun h' c' kp e => fin its r' hz h' c' kp e) (by simp only [List.size_toArray] <;> omega)
theorem call_tuple_of : CallR X (.type "tuple") (fun xs H Q => ∃ p ys, xs = [.ref p] /\ ((SqL X.K H p ys /\ ∀ l, H l = none -> Q (.ref l) (upd H l (.tup ys))) \/ (SqT X.K H p ys /\ Q (.ref p) H))) := by
 intro pins s σ H xs us Q I r h;obtain ⟨p, ys, rfl, h⟩ := h;obtain ⟨u, rfl, rx⟩ := Zhi r;cases rx;rcases h with ⟨hq, q⟩ | ⟨hq, q⟩
 ·obtain ⟨its, r', pl, hz⟩ := I.list hq;have hlen := r'.length;refine call_tuple_list pl.isList (fun h' kp => ?_) (by simp only [List.size_toArray] <;> omega);have I1 : Inv X pins σ H { s with heap := h' } := I.kept (t' := s.toks) kp;have I2 : Inv X pins σ (upd H h'.objs.size (.tup ys)) { s with heap := h'.push { cls := .type "tuple", data := .seq its.toArray } } :=
   I1.laid (t' := s.toks) (fun b o e => Heap.get?_push_of_some _ e) (Nat.le_refl _) (show ObjOk X.prog X.w _ _ _ (.tup ys) from ⟨hz, its, r', IsTup.new _ _⟩)
  exact ⟨.ref h'.objs.size, _, I2, rfl, q _ (I1.hok.fresh (Nat.le_refl _))⟩
 ·obtain ⟨its, r', pl, hz⟩ := I.tuple hq;exact call_tuple_same pl ⟨.ref p, H, I, rfl, q⟩
def tyV (K : PySem.W.Frag) (T : String) (x : V) (H : Hp) : Prop := match x with
 | .str _ => T = "str"
 | .int _ => T = "int"
 | .ref p => (T = "list" /\ ∃ xs, SqL K H p xs) \/ (T = "tuple" /\ ∃ o, K.lookup p = some o /\ o.cls = .type "tuple" /\ o.dict = none) \/
   (T = "dict" /\ ((∃ kvs, H p = some (.dK kvs)) \/ ∃ kvs, H p = some (.dT kvs))) \/ (T = "set" /\ ∃ S n, H p = some (.set S n))
 | _ => False
theorem Zpi {pins : List (Addr × Obj)} {σ : St} {H : Hp} {s : Shared} {T : String} {x : V} {v : Value} (I : Inv X pins σ H s) (r : RelV x v) (ty : tyV X.K T x H) :
  s.TypeIs v T /\ ∀ a, v = .ref a -> ∃ ob, s.heap.get? a = some ob /\ ob.dict = none := by
 cases x with
 | str z =>
  obtain ⟨t, rfl⟩ := r;cases (show T = "str" from ty);exact ⟨typeIs_str s z t, fun _ e => nomatch e⟩
 | int i =>
  obtain ⟨t, rfl⟩ := r;cases (show T = "int" from ty);exact ⟨typeIs_int s i t, fun _ e => nomatch e⟩
 | ref p =>
  cases r;rcases ty with ⟨rfl, xs, hq⟩ | ⟨rfl, o, hk, hc, hd⟩ | ⟨rfl, hk⟩ | ⟨rfl, S, n, hk⟩
  ·obtain ⟨its, _, pl, _⟩ := I.list hq;refine ⟨pl.isList.typeIs, fun a e => ?_⟩;cases e;obtain ⟨o, n, e, c, hd, _⟩ := pl;exact ⟨o, e, hd⟩
  ·refine ⟨⟨o, I.kIn p o hk, hc⟩, fun a e => ?_⟩;cases e;exact ⟨o, I.kIn _ o hk, hd⟩
  ·have z : ∃ o, s.heap.get? p = some o /\ o.ExactDict := by
    rcases hk with ⟨kvs, hk⟩ | ⟨kvs, hk⟩
    ·obtain ⟨_, _, _, _, o, _, _, e, ex, _⟩ := I.hok p _ hk;exact ⟨o, e, ex⟩
    ·obtain ⟨_, _, _, _, o, _, _, e, ex, _⟩ := I.hok p _ hk;exact ⟨o, e, ex⟩
   obtain ⟨o, e, ex⟩ := z;refine ⟨⟨o, e, ex.1⟩, fun a e2 => ?_⟩;cases e2;exact ⟨o, e, ex.2.1⟩
  ·obtain ⟨o, _, _, _, e, ex, _⟩ := I.hok p _ hk;refine ⟨⟨o, e, ex.1⟩, fun a e2 => ?_⟩;cases e2;exact ⟨o, e, ex.2.1⟩
 | _ => exact False.elim ty
def Zta (K : PySem.W.Frag) (T : String) (r : V -> List V -> Hp -> VK -> Prop) (to : TE) : TE := fun σ H Q => to σ H fun x H1 => tyV K T x H1 /\ r x [] H1 Q
def tBM (K : PySem.W.Frag) (T : String) (r : V -> List V -> Hp -> VK -> Prop) (to : TE) (t : TA) : TE := fun σ H Q => to σ H fun x H1 => tyV K T x H1 /\ t σ H1 fun xs H2 => r x xs H2 Q
variable {o e : Expr} {es : List Expr} {to : TE} {t : TA} {name : Str} {apos cpos : Pos} {T id : String} {r : V -> List V -> Hp -> VK -> Prop}
theorem Zsb (pa : PlainAttrs T) (slot : Slot T name id) (hty : typeOf (.builtin id) = pure (.type "method_descriptor")) (hm : MtR X id r) (ho : PE X o to) (ha : PA X (e :: es) t)
  (hbase : attributeBase o name X.env (eval o X.env) = eval o X.env := by rfl)
  (hfew : ((backTo cpos (starEach (e :: es) X.env)).all (fun x => !x.1) && (backToKw cpos (keywordEach [] X.env)).all (fun x => x.1.isSome)
   && decide ((e :: es).length + ([] : List Keyword).length + (if ([] : List Keyword).isEmpty then 0 else 1) < 30)) = true := by rfl)
  (hline : (apos.endLine == cpos.line) = true := by rfl) (hs : starEach (e :: es) X.env = (false, eval e X.env) :: starEach es X.env := by rfl) (hplain : (backTo cpos (starEach es X.env)).any (·.1) = false := by rfl) :
  PE X (.Call (.Attribute o name apos) (e :: es) [] cpos) (tBM X.K T r to t) := by
 intro pins s σ H Q I h;refine wpAny_Call_method_late hbase hfew hline rfl (thn (ho pins s σ H _ I h) fun v s1 ⟨x, H1, I1, r1, ty, q1⟩ => ?_);obtain ⟨h1, h2⟩ := Zpi I1 r1 ty;refine ⟨T, id, pa, slot, hty, h1, h2, ?_⟩;have hA := ha cpos pins s1 σ H1 _ I1 q1;rw [hs] at hA ⊢;refine Calls.callWith_builtin (by show (false || (backTo cpos (starEach es X.env)).any (·.1)) = false; rw [hplain] <;> rfl) (Calls.evalArgs_plain ?_);exact thn hA fun us s2 ⟨vs, H2, I2, r2, q2⟩ => hm pins s2 σ H2 x vs v us Q I2 r1 r2 q2
end
end L2
namespace L2
open PySem PySem.Spec PyProof.Rows
def MtM (X : Cx) (id : String) (r : V -> List V -> Hp -> VK -> Prop) : Prop :=
 ∀ (pins : List (Addr × Obj)) (s : Shared) (σ : St) (H : Hp) (x : V) (xs : List V) (v : Value) (us : List Value) (Q : VK), Inv X pins σ H s -> RelV x v -> Vals xs us -> r x xs H Q ->
  wpAny (model X.prog X.w) X.A (call (.builtin id) (v :: us)) (EP X pins σ Q) X.xe s
theorem Vals.one : ∀ {x : V} {us : List Value}, Vals [x] us -> ∃ u, us = [u] /\ RelV x u
 | _, _, .cons r .nil => ⟨_, rfl, r⟩
theorem Vals.rep {xs : List V} {us : List Value} (h : Vals xs us) : ∀ k : Nat, Vals (List.replicate k xs).flatten (List.replicate k us).flatten
 | 0 => .nil
 | k + 1 => by
  rw [List.replicate_succ, List.replicate_succ, List.flatten_cons, List.flatten_cons];exact Vals.append h (Vals.rep h k)
theorem Zh4 (its : List Value) : ∀ (k : Nat) (acc : List Value),
  List.foldl (fun x1 x2 => x1 ++ x2) acc.toArray (List.replicate k its.toArray) = (acc ++ (List.replicate k its).flatten).toArray
 | 0, acc => by simp
 | k + 1, acc => by
  have e : acc.toArray ++ its.toArray = (acc ++ its).toArray := by simp
  have e2 : (acc ++ its) ++ (List.replicate k its).flatten = acc ++ (List.replicate (k + 1) its).flatten := by
   rw [List.replicate_succ, List.flatten_cons, List.append_assoc]
  rw [<- e2, <- Zh4 its k (acc ++ its), <- e, List.replicate_succ, List.foldl_cons]
section
variable {X : Cx} {pins : List (Addr × Obj)} {σ : St} {H : Hp} {s : Shared} {l b : Addr} {xs ys zs : List V}
theorem Inv.lset {its its' : List Value} {n : Nat} {f : Array Value -> Array Value} {t' : Nat} (I : Inv X pins σ H s) (hH : H l = some (.lst xs))
  (e : s.heap.get? l = some { cls := .type "list", data := .seq its.toArray n }) (hf : f its.toArray = its'.toArray) (hv : Vals ys its') (hz : ys.length <= sizeLine) :
  Inv X pins σ (upd H l (.lst ys)) { s with heap := s.heap.update l (Obj.mapSeq f), toks := t' } := by
 have q := PySem.IsL.update e f;rw [hf] at q;refine I.write (x := l) (e := l) (by rw [hH]; exact trivial) (.inl rfl) (fun b' u hb hu => (Heap.get?_update_other s.heap (Obj.mapSeq f) (Ne.symm hb)).trans hu) ⟨_, q⟩ ?_;exact ⟨hz, its', _, hv, q⟩
theorem Inv.lnew {its : List Value} {t' : Nat} (I : Inv X pins σ H s) (hv : Vals ys its) (hz : ys.length <= sizeLine) :
  Inv X pins σ (upd H s.heap.objs.size (.lst ys)) { s with heap := s.heap.push { cls := .type "list", data := .seq its.toArray }, toks := t' } :=
 I.laid (fun _ _ q => Heap.get?_push_of_some _ q) (Nat.le_refl _) ⟨hz, its, 0, hv, Heap.get?_push_size _ rfl⟩
theorem Inv.fresh (I : Inv X pins σ H s) : H s.heap.objs.size = none := I.hok.fresh (Nat.le_refl _)
theorem Inv.lstM (I : Inv X pins σ H s) (hH : H l = some (.lst xs)) : xs.length <= sizeLine /\ ∃ (its : List Value) (n : Nat), Vals xs its /\ xs.length = its.length /\ s.heap.get? l = some { cls := .type "list", data := .seq its.toArray n } := by
 obtain ⟨z, its, n, r, e⟩ := I.hok l _ hH;exact ⟨z, its, n, r, r.length, e⟩
theorem Zjq {n : Nat} (h : n <= sizeLine) : Builtin.List.listTooLong n = false := by
 unfold Builtin.List.listTooLong;exact decide_eq_false (by omega)
end
section
variable {X : Cx}
def Zlb : V -> List V -> Hp -> VK -> Prop := fun x vs H Q => ∃ l xs y, x = .ref l /\ vs = [y] /\ H l = some (.lst xs) /\ xs.length < sizeLine /\ Q .non (upd H l (.lst (xs ++ [y])))
theorem mt_append : MtM X "list.append" Zlb := by
 intro pins s σ H x vs v us Q I rx rv h;obtain ⟨l, xs, y, rfl, rfl, hH, hz, q⟩ := h;cases rx;obtain ⟨u, rfl, ru⟩ := rv.one;obtain ⟨z, its, n, r, hl, e⟩ := I.lstM hH;refine call_meets F.slot_list_append ⟨_, e, rfl⟩ F.entry_list_append (F.args_list_append_2 _ _) (PySem.list_append l its.toArray n u (by rw [List.size_toArray]; omega)) ⟨e, ?_⟩;refine ⟨.non, _, I.lset (its' := its ++ [u]) hH e (by simp) (r.append (.cons ru .nil)) ?_, rfl, q⟩;rw [List.length_append, List.length_singleton];omega
def Zla : V -> List V -> Hp -> VK -> Prop := fun x vs H Q => ∃ l b xs zs, x = .ref l /\ vs = [.ref b] /\ H l = some (.lst xs) /\ H b = some (.lst zs) /\ xs.length + zs.length <= sizeLine /\ Q .non (upd H l (.lst (xs ++ zs)))
theorem mt_extend : MtM X "list.extend" Zla := by
 intro pins s σ H x vs v us Q I rx rv h;obtain ⟨l, b, xs, zs, rfl, rfl, hH, hB, hz, q⟩ := h;cases rx;obtain ⟨u, rfl, ru⟩ := rv.one;cases ru;obtain ⟨z, its, n, r, hl, e⟩ := I.lstM hH;obtain ⟨z2, its2, n2, r2, hl2, e2⟩ := I.lstM hB;have hsz : its.toArray.size + its2.toArray.size <= sizeLine := by rw [List.size_toArray, List.size_toArray]; omega
 have hlong : ¬ (!its.toArray.isEmpty && Builtin.List.listTooLong (its.toArray.size + its2.toArray.size)) = true := by
  rw [Zjq hsz, Bool.and_false];exact Bool.false_ne_true
 refine call_meets F.slot_list_extend ⟨_, e, rfl⟩ F.entry_list_extend (F.args_list_extend_2 _ _)
  (AutoSeq1.list_extend_list_list_0 l its.toArray n b its2.toArray n2 hlong (by rw [List.size_toArray]; omega) (by omega)) ⟨e, e2, ?_⟩
 refine ⟨.non, _, I.lset (its' := its ++ its2) hH e (by simp) (r.append r2) ?_, rfl, q⟩;rw [List.length_append];omega
def Zs1 : R2 := fun x y H Q => ∃ l b xs zs, x = .ref l /\ y = .ref b /\ H l = some (.lst xs) /\ H b = some (.lst zs) /\ xs.length + zs.length <= sizeLine /\ ∀ p, H p = none -> Q (.ref p) (upd H p (.lst (xs ++ zs)))
theorem op_cat : OpR X (binaryOp .Add) Zs1 := by
 intro pins s σ H x y v u Q I rx ry h;obtain ⟨l, b, xs, zs, rfl, rfl, hH, hB, hz, q⟩ := h;cases rx;cases ry;obtain ⟨z, its, n, r, hl, e⟩ := I.lstM hH;obtain ⟨z2, its2, n2, r2, hl2, e2⟩ := I.lstM hB;refine PySem.P.add_list e e2 ?_ (by rw [List.size_toArray, List.size_toArray]; omega);have ea : its.toArray ++ its2.toArray = (its ++ its2).toArray := by simp
 rw [ea];exact ⟨.ref _, _, I.lnew (t' := s.toks) (r.append r2) (by rw [List.length_append]; omega), rfl, q _ I.fresh⟩
def Ztc : R2 := fun x y H Q => ∃ l k xs, x = .ref l /\ y = .int k /\ H l = some (.lst xs) /\ -(2 ^ 63) <= k /\ k < 2 ^ 63 /\ xs.length * k.toNat <= sizeLine /\
 ∀ p, H p = none -> Q (.ref p) (upd H p (.lst (List.replicate k.toNat xs).flatten))
theorem Zou {α : Type} (xs : List α) (k : Nat) : (List.replicate k xs).flatten.length = k * xs.length := by
 induction k with
 | zero => simp
 | succ k ih => rw [List.replicate_succ, List.flatten_cons, List.length_append, ih, Nat.succ_mul, Nat.add_comm]
theorem op_rep : OpR X (binaryOp .Mult) Ztc := by
 intro pins s σ H x y v u Q I rx ry h;obtain ⟨l, k, xs, rfl, rfl, hH, h1, h2, hz, q⟩ := h;cases rx;obtain ⟨t, rfl⟩ := ry;obtain ⟨z, its, n, r, hl, e⟩ := I.lstM hH;have hlen : its.toArray.size * k.toNat <= sizeLine := by rw [List.size_toArray, <- hl]; exact hz
 have hcap : ¬ its.toArray.size * k.toNat > (2 ^ 63 - 1) / 8 := by
  have : (sizeLine : Nat) <= (2 ^ 63 - 1) / 8 := by decide
  omega
 have hfit : ¬ (!Builtin.List.listFitsIndex k) = true := by
  rw [fitsIndex_both h1 h2];exact Bool.false_ne_true
 have hlong : ¬ Builtin.List.listTooLong (its.toArray.size * k.toNat) = true := by
  rw [Zjq hlen];exact Bool.false_ne_true
 have hnew : List.foldl (fun x1 x2 => x1 ++ x2) #[] (List.replicate (if its.toArray.isEmpty = true then 0 else k.toNat) its.toArray) = (List.replicate k.toNat its).flatten.toArray := by
  have f0 : ∀ m : Nat, List.foldl (fun x1 x2 => x1 ++ x2) #[] (List.replicate m its.toArray) = (List.replicate m its).flatten.toArray := fun m => by
   have := Zh4 its m [];rw [List.nil_append] at this;exact this
  rw [f0];cases its with
  | nil => simp
  | cons a r' => rw [if_neg (by simp)]
 refine wpAny_binaryOp_repeat_ref (T := "list") (U := "int") (by decide) ⟨_, e, rfl⟩ (fun s' => typeIs_int s' k t) noFill_list_mul F.fills_int_mul F.slot_int_rmul repeat_list F.slot_int_index.lookup
  (call_meets F.slot_int_rmul (typeIs_int s k t) F.entry_int_rmul (F.args_int_rmul_2 _ _) (int___rmul___int_list k t l its.toArray n)
   ⟨e, rfl, ⟨_, e, rfl⟩, call_meets F.slot_list_mul ⟨_, e, rfl⟩ F.entry_list_mul (F.args_list_mul_2 _ _) (AutoListH.list___mul___list_int_3 l its.toArray n k t hfit hcap hlong) ⟨e, ?_⟩⟩)
 rw [hnew];exact ⟨.ref _, _, I.lnew (t' := s.toks) (r.rep k.toNat) (by rw [Zou, Nat.mul_comm]; exact hz), rfl, q _ I.fresh⟩
end
section
variable {prog : Program} {w : World} {A : Around} {E : Value -> Shared -> Prop} {s : Shared}
end
section
variable {X : Cx}
end
end L2
namespace Att
open PySem PySem.W PySem.Calls PyProof.Rows
theorem Zft {P : Params} {h : Heap} : ∀ (ns : List Int) (vs : List Value), WellAll P h vs (ns.map WData.int) -> IntsAre vs ns := by
 intro ns
 induction ns with
 | nil =>
  intro vs w;rw [List.map_nil] at w;cases w;exact .nil
 | cons n ns ih =>
  intro vs w;rw [List.map_cons] at w;cases w with
  | cons a b =>
   cases a;exact .cons _ _ (ih _ b)
theorem Zk8 {l : OpenLaw} {n : Nat} (hn : l.most = some n) {P : Params} {h : Heap} {args : List WData} {vals : List Value}
  (hpre : l.row.toRowW.claim.pre args = true) (hwl : WellAll P h vals args) :
  ∃ a vs ns, vals = [Value.ref a] /\ args = [WData.list (ns.map WData.int)] /\ h.get? a = some { cls := .type "list", data := .seq vs.toArray } /\ IntsAre vs ns /\ ns.length <= n := by
 have hsh : WShape.hasAll [] args [.list .int] = true := (pre_splitW hpre).1;have hc : l.pre.holds [] { args := args } = true := (pre_splitW hpre).2;obtain ⟨d, r, rfl, h1, h2⟩ := hasAllW_cons hsh;obtain rfl := hasAllW_nil h2;obtain ⟨xs, rfl, h3⟩ := hasW_list h1;obtain ⟨ns, rfl⟩ := items_int h3;have hlen : ns.length <= n := by
  unfold OpenLaw.pre at hc;have h4 : (WTm.not (.lt (.lit (.int (n : Int))) (.len (.arg 0)))).holds [] { args := [.list (ns.map .int)] } = true := by
   have h4 := (holds_andW hc).1;rw [hn] at h4;exact h4
  have h5 := condW_of h4 (w_not (w_lt w_lit (w_len_list (w_arg rfl))));rw [List.length_map] at h5;refine Nat.le_of_not_lt fun q => ?_
  have q' : (n : Int) < ((ns.length : Nat) : Int) := by omega
  first
   | (rw [decide_eq_true q'] at h5; exact absurd h5 (by decide))
   | (simp at h5; omega)
 cases hwl with
 | cons w1 w2 =>
  cases w2;cases w1 with
  | list ho hall => exact ⟨_, _, ns, rfl, rfl, ho, Zft ns _ hall, hlen⟩
theorem Zld (l : OpenLaw) (args : List WData) : l.row.toRowW.claim.post args (.bool true) args = true :=
 postW_of (r := l.row.toRowW) (X := (true == true))
  (show WShape.has [] (.bool true) .bool = true by first | rfl | decide | simp [WShape.has, WShape.arms, WShape.armsAll])
  (show (WTm.eq .res (.lit (.bool true))).value [] { args := args, res := some (.bool true), after := args } = some (.bool (true == true)) from w_eq_bool (w_res rfl) w_lit) rfl
theorem attach_call {l : OpenLaw} {n : Nat} {q : Program} {loose : List Str} {XP : (Str -> Option Value) -> Heap -> Prop} {YP : World -> Heap -> Prop} {d : DefRec}
  (hn : l.most = some n) (hdf : d.params.defaults = [])
  (call : ∀ (w : World) (s₀ s₁ : Shared) (mg mb : Str -> Option Value) (fa : Addr) (o : Obj) (pm cd doc : Value) (a : Addr) (vs : List Value) (ns : List Int),
   Ground q loose [] XP w s₀ mg mb s₁.heap -> YP w s₁.heap ->
   s₁.heap.get? fa = some o -> o.data = .func (docDef d.name d.params d.body d.scope pm cd doc) -> s₁.heap.CodeRec cd d.name -> mg d.name = some (.ref fa) ->
   s₁.heap.get? a = some { cls := .type "list", data := .seq vs.toArray } -> IntsAre vs ns -> ns.length <= n -> s₁.gens = #[] ->
   codeAny (model l.prog w) callerA (.call (.ref fa) ⟨[.ref a], []⟩) (fun r s' => r = .ok (.ret (.bool true)) /\ OldK s₁.heap s'.heap /\ s'.os = s₁.os /\ AllBare s'.gens) s₁) :
  WalkO q loose XP YP l.row.toRowW d [] (fun f vs => PySem.call f vs) := by
 intro w s₀ s₁ mg mb G Y fa o pm cd doc dV kV ho hd hcd hD hmg hg args vals as hpre hlay hrd hwl hlo;obtain rfl : dV = .none := Dflts.none hD hdf;obtain rfl : kV = .none := Dflts.noKw hD;obtain ⟨a, vs, ns, rfl, rfl, hobj, hints, hlen⟩ := Zk8 hn hpre hwl;refine enter_call (codeAny_mono (call w s₀ s₁ mg mb fa o pm cd doc a vs ns G Y ho (fd_plain hd) hcd hmg hobj hints hlen hg) fun r s' hq => ?_);obtain ⟨rfl, h2, h3, h4⟩ := hq;exact ⟨.inl ⟨.bool true, .bool true, [], rfl, fun _ => rfl, .bool true, Zld l _, fun _ => ⟨List.Pairwise.nil, fun _ hm => (nomatch hm)⟩⟩, h2, h3, h4⟩
section
variable {prog : Program} {w : World} {A : Around} {E : Value -> Shared -> Prop} {s : Shared} {K : Frag}
def ledger (h : Heap) (L d : Addr) : List (Addr × Obj) := (List.range h.objs.size).filterMap fun a => if a = L \/ a = d then none else (h.get? a).map fun o => (a, o)
end
end Att
namespace L2
open PySem PySem.Spec PyProof.Rows
theorem Zhh : ∀ {vs : List Value} {ns : List Int}, IntsAre vs ns -> Vals (ns.map V.int) vs
 | _, _, .nil => .nil
 | _, _, .cons n t h => .cons ⟨t, rfl⟩ (Zhh h)
end L2
namespace L2
open PySem PySem.Spec PyProof.Rows
abbrev KOf {K : PySem.W.Frag} {h : Heap} (_ : K.In h) : PySem.W.Frag := K
end L2
namespace L2
open PySem PySem.Spec PyProof.Rows
def Zg9 (s : Stmt) (j : Nat) : Stmt := match s with
 | .ClassDef _ _ _ body _ _ _ _ _ _ _ => body.getD j (.Pass ⟨0, 0, 0, 0⟩)
 | _ => .Pass ⟨0, 0, 0, 0⟩
def Zan (s : Stmt) : Arguments := match s with
 | .FunctionDef _ a _ _ _ _ _ _ _ _ => a
 | _ => { posonlyargs := [], args := [], vararg := none, kwonlyargs := [], kw_defaults := [], kwarg := none, defaults := [] }
def defBody (s : Stmt) : List Stmt := match s with
 | .FunctionDef _ _ b _ _ _ _ _ _ _ => b
 | _ => []
def defScope (s : Stmt) : Scope := match s with
 | .FunctionDef _ _ _ _ _ _ sc _ _ _ => sc
 | _ => { kind := .function, names := [], isGenerator := false, isCoroutine := false }
abbrev CX0 : CXT := fun _ _ _ _ _ _ => False
abbrev E0 : XK := fun _ _ _ => False
theorem Zqo {X : Cx} : Zfy CX0 X E0 := fun _ _ _ _ _ _ _ h => h.elim
structure Fun (K : PySem.W.Frag) (x qual : Str) (st : Stmt) (f : Addr) (fd : FuncData) : Prop where
 ex : ∃ (oc : Value) (od : Option Addr) (kV doc pm : Value) (an : Option Addr) (cdv ct : Value) (osl : Array (Option Value)),
  fd = PySem.W.fnOf x qual (Zan st) (defBody st) (defScope st) .none kV doc pm an cdv ct /\ K.lookup f = some ⟨oc, od, .func fd, osl⟩ /\ PySem.W.codeIn K cdv qual = true
 kp : PySem.W.keepIn K (.ref f) = true
section
variable {P : Program} {w : World} {K : PySem.W.Frag} {mg : Str -> Option Value} {base : Heap}
theorem Fun.ok {x qual : Str} {st : Stmt} {f : Addr} {fd : FuncData} {N ps : List Str} {k : Nat} {sp : Sp} (F : Fun K x qual st f fd) (S : Zao N ps (defScope st)) (len : ∀ vs H Q E, sp vs H Q E -> vs.length = ps.length)
  (hbody : ∀ (cdv : Value) (A : Around) (outer : List Env) (s : Shared) (H : Hp) (vs : List V) (Q : VK) (E : XK), Room k (A.deeper (envOfC qual (defScope st) s.heap.objs.size f cdv)) -> sp vs H Q E ->
   ∃ t, PSs (cxOf CX0 P w K mg base N qual (defScope st) f cdv A outer s H E).nox (defBody st) t /\ t { nx := fun _ H' => Q .non H', rt := Q } (start N vs) H) : FnOk P w K mg base CX0 (k + 1) f fd ps sp := by
 obtain ⟨oc, od, kV, doc, pm, an, cdv, ct, osl, rfl, lk, hcd⟩ := F.ex;refine Zlz lk hcd S len fun A outer s H vs Q E hr hsp => ?_
 obtain ⟨t, h, q⟩ := hbody cdv A outer s H vs Q E hr hsp;exact ⟨t, h.nox, q⟩
theorem Fun.binds {x qual : Str} {st : Stmt} {f : Addr} {fd : FuncData} {ps : List Str} (F : Fun K x qual st f fd)
  (h : ∀ (kV doc pm : Value) (an : Option Addr) (cdv ct : Value) (us : List Value), us.length = ps.length -> bindArgs (PySem.W.fnOf x qual (Zan st) (defBody st) (defScope st) .none kV doc pm an cdv ct) ⟨us, []⟩ = pure (ps.zip us)) : Binds K fd ps [] := by
 obtain ⟨oc, od, kV, doc, pm, an, cdv, ct, osl, rfl, lk, hcd⟩ := F.ex;exact .all (h kV doc pm an cdv ct)
theorem Za8 {x qual : Str} {st : Stmt} {f : Addr} {oc : Value} {od an : Option Addr} {osl : Array (Option Value)} {kV doc pm cdv ct : Value} (l : K.lookup f = some ⟨oc, od, .func (PySem.W.fnOf x qual (Zan st) (defBody st) (defScope st) .none kV doc pm an cdv ct), osl⟩)
  (c : PySem.W.codeIn K cdv qual = true) (k : PySem.W.keepIn K (.ref f) = true) : Fun K x qual st f (PySem.W.fnOf x qual (Zan st) (defBody st) (defScope st) .none kV doc pm an cdv ct) := ⟨⟨oc, od, kV, doc, pm, an, cdv, ct, osl, rfl, l, c⟩, k⟩
end
section
variable {X : Cx}
theorem pv (i : Nat) {x : Str} {pos : Pos} (hN : X.N[i]? = some x := by rfl) (hv : Vis X.env.scope x := by first | exact Or.inl rfl | exact Or.inr (Or.inl rfl) | exact Or.inr (Or.inr rfl)) (hd : (x == ("__debug__" : Str)) = false := by decide)
  (hcd : (x == ("__classdict__" : Str)) = false := by decide) : PE X (.Name x pos) (Zri i) := Znn hN hv hd hcd
end
theorem Zme {c A B : Prop} [Decidable c] (h1 : c -> A) (h2 : ¬ c -> B) : if c then A else B := by
 by_cases h : c
 ·rw [if_pos h];exact h1 h
 ·rw [if_neg h];exact h2 h
def Same (H H' : Hp) : Prop := ∀ b o, H b = some o -> H' b = some o
theorem Same.refl (H : Hp) : Same H H := fun _ _ h => h
theorem Same.trans {H H1 H2 : Hp} (a : Same H H1) (b : Same H1 H2) : Same H H2 := fun c o h => b c o (a c o h)
theorem Same.free {H H' : Hp} (e : Same H H') {l : Addr} (h : H' l = Option.none) : H l = Option.none := by
 cases q : H l with
 | none => rfl
 | some o =>
  rw [e l o q] at h;cases h
theorem Same.seq {K : PySem.W.Frag} {H H' : Hp} {a : Addr} {xs : List V} (e : Same H H') (h : SqL K H a xs) : SqL K H' a xs := by
 rcases h with (h | ⟨o, h⟩) | h
 ·exact .inl (.inl (e _ _ h))
 ·exact .inl (.inr ⟨o, e _ _ h⟩)
 ·exact .inr h
end L2
set_option Elab.async false
set_option linter.all false
set_option maxRecDepth 100000
set_option maxHeartbeats 4000000
namespace L2
open PySem PySem.Spec PyProof.Rows
theorem Zjc {env : Env} : ∀ (names : List (Str × NameKind)) (cs : List (Str × Addr)), (∀ x, (x, NameKind.free) ∈ names -> ∃ c, env.cells.lookup x = some c) ->
  (∀ x c, cs.lookup x = some c -> env.cells.lookup x = some c) ->
  ∃ cl, (forIn names cs fun (p : Str × NameKind) (r : List (Str × Addr)) => (match p with | (name, kind) => (if (kind == NameKind.free) = true then (do let a <- cellOf env name; pure (ForInStep.yield ((name, a) :: r))) else pure (ForInStep.yield r)) : Sem (ForInStep (List (Str × Addr))))) = pure cl /\
   (∀ x c, cl.lookup x = some c -> env.cells.lookup x = some c) /\ (∀ x, (x, NameKind.free) ∈ names -> ∃ c, cl.lookup x = some c) /\ ∀ x, (∃ c, cs.lookup x = some c) -> ∃ c, cl.lookup x = some c
 | [], cs, _, h2 => ⟨cs, rfl, h2, (fun _ h => nomatch h), fun _ h => h⟩
 | (n, k) :: r, cs, h1, h2 => by
  by_cases hk : k = NameKind.free
  ·subst hk;obtain ⟨c, hc⟩ := h1 n List.mem_cons_self;obtain ⟨cl, e, a, b, d⟩ := Zjc r ((n, c) :: cs) (fun x hx => h1 x (List.mem_cons_of_mem _ hx)) (fun x c' hx => by
    rw [List.lookup_cons] at hx;cases q : x == n with
    | true => rw [q] at hx; cases hx; rw [eq_of_beq q]; exact hc
    | false => rw [q] at hx; exact h2 x c' hx)
   refine ⟨cl, ?_, a, fun x hx => ?_, fun x ⟨c', hx⟩ => ?_⟩
   ·rw [List.forIn_cons];have : cellOf env n = pure c := by unfold cellOf; rw [hc]
    simp only [this, beq_self_eq_true, if_true];exact e
   ·rcases List.mem_cons.mp hx with z | z
    ·cases z; exact d _ ⟨c, by simp [List.lookup_cons]⟩
    ·exact b x z
   ·refine d x ?_;rw [List.lookup_cons];cases q : x == n with
    | true => exact ⟨c, rfl⟩
    | false => exact ⟨c', hx⟩
  ·obtain ⟨cl, e, a, b, d⟩ := Zjc r cs (fun x hx => h1 x (List.mem_cons_of_mem _ hx)) h2;have hb : (k == NameKind.free) = false := by simpa using hk
   refine ⟨cl, ?_, a, fun x hx => ?_, d⟩
   ·rw [List.forIn_cons];simp only [hb, Bool.false_eq_true, if_false];exact e
   ·rcases List.mem_cons.mp hx with z | z
    ·cases z; exact absurd rfl hk
    ·exact b x z
theorem Zhc {scope : Scope} {env : Env} (h : ∀ x, (x, NameKind.free) ∈ scope.names -> ∃ c, env.cells.lookup x = some c) :
  ∃ cl, closureFor scope env = pure cl /\ (∀ x c, cl.lookup x = some c -> env.cells.lookup x = some c) /\ ∀ x, (x, NameKind.free) ∈ scope.names -> ∃ c, cl.lookup x = some c := by
 obtain ⟨cl, e, a, b, _⟩ := Zjc scope.names [] h (fun x c z => nomatch z);refine ⟨cl, ?_, a, b⟩;unfold closureFor;show (forIn scope.names [] _ >>= fun cs => pure cs) = pure cl;rw [show (forIn scope.names ([] : List (Str × Addr)) _ : Sem _) = pure cl from e];rfl
theorem Zeb {env : Env} {x : Str} : ∀ {names : List (Str × NameKind)} {k : NameKind}, (names.map fun (n, k) => if (k == NameKind.free && env.scope.kind == .function && env.kindOf n == some .cell) then (n, NameKind.cell) else (n, k)).lookup x = some k ->
  (x, k) ∈ names \/ (k = NameKind.cell /\ (x, NameKind.free) ∈ names)
 | [], _, h => by simp at h
 | (n, k') :: r, k, h => by
  have ih := @Zeb env x r k;have h' : List.lookup x ((if (k' == NameKind.free && env.scope.kind == .function && env.kindOf n == some .cell) = true then (n, NameKind.cell) else (n, k')) :: (r.map fun (n, k) => if (k == NameKind.free && env.scope.kind == .function && env.kindOf n == some .cell) then (n, NameKind.cell) else (n, k))) = some k := h
  by_cases hc : (k' == NameKind.free && env.scope.kind == .function && env.kindOf n == some .cell) = true
  ·rw [if_pos hc, List.lookup_cons] at h';cases q : x == n with
   | true =>
    rw [q] at h';have e : NameKind.cell = k := Option.some.inj h';have ek : k' = NameKind.free := by
     have := (Bool.and_eq_true _ _ ▸ (Bool.and_eq_true _ _ ▸ hc).1).1;exact eq_of_beq this
    have ex : x = n := eq_of_beq q;subst ek ex;exact .inr ⟨e.symm, List.mem_cons_self⟩
   | false =>
    rw [q] at h';rcases ih h' with z | ⟨z1, z2⟩
    ·exact .inl (List.mem_cons_of_mem _ z)
    ·exact .inr ⟨z1, List.mem_cons_of_mem _ z2⟩
  ·rw [if_neg hc, List.lookup_cons] at h';cases q : x == n with
   | true =>
    rw [q] at h';have e : k' = k := Option.some.inj h';have ex : x = n := eq_of_beq q;subst e ex;exact .inl List.mem_cons_self
   | false =>
    rw [q] at h';rcases ih h' with z | ⟨z1, z2⟩
    ·exact .inl (List.mem_cons_of_mem _ z)
    ·exact .inr ⟨z1, List.mem_cons_of_mem _ z2⟩
theorem Zia {prog : Program} {w : World} {A : Around} {R : Result -> Shared -> Prop} {s : Shared} {elt target iter : Expr} {ifs : List Expr} {scope : Scope} {pos : Pos} {it acc : Value} {env : Env} (I : Nat -> Shared -> Prop)
  (turn : ∀ n s, I n s -> wpAny (model prog w) A (pyNext it) (fun r s₁ => match r with
   | none => R (.ok .next) s₁
   | some v => wpAny (model prog w) A (letOwnedTupleGo target it v) (fun _ s₀ => wpAny (model prog w) A (assign target env v) (fun _ s₂ =>
     wpAny (model prog w) A (forIn ifs true fun c r => if r = true then do let ok <- isTrue c env (eval c env); pure (ForInStep.yield ok) else pure (ForInStep.yield r)) (fun ok s₃ =>
      if ok = true then wpAny (model prog w) A (eval elt env) (fun x s₄ =>
       wpAny (model prog w) A (call (.builtin "list.append") [acc, x]) (fun _ s₅ => ∃ m, m < n /\ I m s₅) (fun _ _ => False) s₄) (fun _ _ => False) s₃
      else ∃ m, m < n /\ I m s₃) (fun _ _ => False) s₂) (fun _ _ => False) s₀) (fun _ _ => False) s₁) (fun _ _ => False) s)
  (n : Nat) (h : I n s) :
  codeAny (model prog w) A (.compLoop (.ListComp elt [⟨target, iter, ifs, 0⟩] scope pos) 0 it acc env) R s := by
 refine codeAny_loop rfl I (fun n s hI => ?_) n h;show wpAny _ A ((compTurn (.ListComp elt [⟨target, iter, ifs, 0⟩] scope pos) 0 it acc env).onRaise (fun x => do noteFrame x env; theTreesLotGoes x)) _ _ s;refine wpAny_noted (wpAny_noRaise ?_);rw [compTurn_list];refine wpAny_bind (wpAny_standAt (wpAny_bind (wpAny_mono (turn n s hI) (fun r s₁ h₁ => ?_) fun _ _ h' => h')));cases r with
 | none => exact wpAny_pure h₁
 | some v =>
  refine wpAny_bind (wpAny_mono h₁ (fun _ s₀ h₀ => ?_) fun _ _ h' => h');refine wpAny_bind (wpAny_mono h₀ (fun _ s₂ h₂ => wpAny_bind (wpAny_mono h₂ (fun ok s₃ h₃ => ?_) fun _ _ h' => h')) fun _ _ h' => h');cases ok with
  | false => exact wpAny_pure ⟨rfl, h₃⟩
  | true =>
   exact wpAny_bind (wpAny_bind (wpAny_mono h₃ (fun x s₄ h₄ => wpAny_bind (wpAny_mono h₄ (fun _ s₅ h₅ => wpAny_pure (wpAny_pure ⟨rfl, h₅⟩)) fun _ _ h' => h')) fun _ _ h' => h'))
def cxComp (X : Cx) (N' : List Str) (scope : Scope) (cl : List (Str × Addr)) (C : Addr) (s : Shared) (H : Hp) (ex : List Addr) : Cx :=
 { X with N := N', s₀ := s, H₀ := H, env := compEnvC scope cl C X.env, outer := X.stack, ex := ex, fn := fun _ => false, pn := [], xe := fun _ _ => False }
def capSt (caps : List (Option Nat)) (σ : St) : St := caps.map fun o => o.bind fun j => (σ[j]?).join
def Zra (N N' : List Str) (scope : Scope) (caps : List (Option Nat)) : Prop :=
 caps.length = N'.length /\ ∀ (i j : Nat) (x : Str), N'[i]? = some x -> caps[i]? = some (some j) -> N[j]? = some x /\ (x, NameKind.free) ∈ scope.names /\ ∀ k, (x, k) ∈ scope.names -> k = NameKind.free
structure Zdi (X : Cx) (N' : List Str) (scope : Scope) (caps : List (Option Nat)) : Prop where
 kind : scope.kind = .function
 nocell : ∀ y ∈ scope.names, y.2 ≠ .cell
 locs : ∀ y ∈ scope.names, y.2 = .local -> scope.names.lookup y.1 = some .local
 cap : Zra X.N N' scope caps
 vis : ∀ x, (x, NameKind.free) ∈ scope.names -> X.env.kindOf x = some .cell \/ X.env.kindOf x = some .free
def Zso : TT := fun _ H Q => Q true H
def Zfz (caps : List (Option Nat)) (g : TG) (tc : TT) (te : TE) (σ : St) (Q : VK) (J : It) (H1 : Hp) : Prop :=
 ∃ W : Nat -> Nat -> List V -> St -> Hp -> Prop, (∃ m, W 0 m [] (capSt caps σ) H1) /\ ∀ i m ys σ' H, W i m ys σ' H ->
  (J.stop i H /\ ys.length <= sizeLine /\ ∀ p, H p = none -> Q (.ref p) (upd H p (.lst ys))) \/
  (J.go i H /\ ys.length < sizeLine /\ ∃ N : List V -> St -> Hp -> Prop, (∀ ys σ H, N ys σ H -> ∃ m', m' < m /\ W (i + 1) m' ys σ H) /\ ∀ x H', J.yld i H x H' -> g x σ' H' fun σ2 H2 => tc σ2 H2 fun b H3 =>
   if b = true then te σ2 H3 fun y H4 => N (ys ++ [y]) σ2 H4 else N ys σ2 H3)
def Zn6 (caps : List (Option Nat)) (wi : TI) (g : TG) (tc : TT) (te : TE) : TE := fun σ H Q => wi σ H fun J H1 => Zfz caps g tc te σ Q J H1
def PIfs (X : Cx) (ifs : List Expr) (t : TT) : Prop :=
 ∀ (pins : List (Addr × Obj)) (s : Shared) (σ : St) (H : Hp) (Q : Bool -> Hp -> Prop), Inv X pins σ H s -> t σ H Q ->
  wpAny (model X.prog X.w) X.A (forIn ifs true fun c r => if r = true then do let ok <- isTrue c X.env (eval c X.env); pure (ForInStep.yield ok) else pure (ForInStep.yield r)) (TP X pins σ Q) X.xe s
theorem Zfp {X : Cx} : PIfs X [] Zso := fun _ _ _ H _ I h => wpAny_tests_nil ⟨H, I, h⟩
theorem Zle {X : Cx} {c : Expr} {t : TT} (h : PT X c t) : PIfs X [c] t := fun pins s σ H Q I q => wpAny_tests_one (h pins s σ H Q I q)
section
variable {X : Cx} {elt tg iter : Expr} {ifs : List Expr} {scope : Scope} {pos : Pos} {N' : List Str} {caps : List (Option Nat)} {wi : TI} {g : TG} {tc : TT} {te : TE}
def lstO (its : List Value) (n : Nat) : Obj := { cls := .type "list", data := .seq its.toArray n }
theorem Zhb {pins : List (Addr × Obj)} {s2 : Shared} {σ : St} {H2 : Hp} {J : It} {it : Addr} {fp : List Addr} {tn : Nat -> Heap -> Prop} {cl : List (Str × Addr)} {Q : VK} {RR : Value -> Addr -> Result -> Shared -> Prop}
  (S : Zdi X N' scope caps) (hc : X.calm = true)
  (hcl1 : ∀ x c, cl.lookup x = some c -> X.env.cells.lookup x = some c) (hcl2 : ∀ x, (x, NameKind.free) ∈ scope.names -> ∃ c, cl.lookup x = some c)
  (hg : ∀ cl C s H ex, PG (cxComp X N' scope cl C s H ex) tg g) (ht : ∀ C, PIfs (cxComp X N' scope cl C s2 H2 fp) ifs tc) (he : ∀ cl C s H ex, PE (cxComp X N' scope cl C s H ex) elt te)
  (I : Inv X pins σ H2 s2) (T : Zq9 X.prog X.w X.K tg J fp it tn) (st : tn 0 s2.heap) (f2 : ∀ b ∈ fp, FpOk X pins H2 b)
  (W : Nat -> Nat -> List V -> St -> Hp -> Prop) (w0 : ∃ m, W 0 m [] (capSt caps σ) H2)
  (turn : ∀ i m ys σ' H, W i m ys σ' H -> (J.stop i H /\ ys.length <= sizeLine /\ ∀ p, H p = none -> Q (.ref p) (upd H p (.lst ys))) \/
   (J.go i H /\ ys.length < sizeLine /\ ∃ N : List V -> St -> Hp -> Prop, (∀ ys σ H, N ys σ H -> ∃ m', m' < m /\ W (i + 1) m' ys σ H) /\ ∀ x H', J.yld i H x H' -> g x σ' H' fun σ2 H2 => tc σ2 H2 fun b H3 =>
    if b = true then te σ2 H3 fun y H4 => N (ys ++ [y]) σ2 H4 else N ys σ2 H3))
  (hRR : ∀ D C oC m s' H', Inv X (pins ++ [(C, oC)]) σ H' s' -> s'.heap.Ns C m -> Q (.ref D) H' -> X.s₀.heap.objs.size <= C -> (∀ x c, X.env.cells.lookup x = some c -> c ≠ C) -> (∀ p ∈ X.pn ++ pins, p.1 ≠ C) -> s'.heap.get? C = some oC ->
   RR (.ref D) C (.ok .next) s') {E : Value -> Shared -> Prop} :
  wpAny (model X.prog X.w) X.A (newList []) (fun acc s₃ => wpAny (model X.prog X.w) X.A (newFunctionEnv scope X.env.globals cl [] X.env.qual none .none (some X.env)) (fun cenv s₄ =>
   codeAny (model X.prog X.w) X.A (.compStart (.ListComp elt [⟨tg, iter, ifs, 0⟩] scope pos) 0 (.ref it) acc { cenv with scope := relabel scope X.env }) (RR acc cenv.locals) s₄) E s₃) E s2 := by
 refine wpAny_newObj_type (wpAny_newFunctionEnv S.nocell (by intro y hy; simp at hy) (fun h₁ hns₁ hsb₁ => ?_) S.kind);dsimp only at hns₁ hsb₁ ⊢;generalize hH2 : s2.heap.push { cls := .type "list", dict := none, data := .seq ([] : List Value).toArray } = HP at hns₁ hsb₁ ⊢;have hC : HP.objs.size = s2.heap.objs.size + 1 := by rw [<- hH2, Heap.size_push]
 generalize hCC : HP.objs.size = C at hns₁ hsb₁ hC ⊢;have hDC : s2.heap.objs.size ≠ C := by rw [hC]; exact Nat.ne_of_lt (Nat.lt_succ_self _)
 have belowC : ∀ b, b < s2.heap.objs.size -> b ≠ C := fun b hb => by rw [hC]; exact Nat.ne_of_lt (Nat.lt_succ_of_lt hb)
 have old : ∀ b o, s2.heap.get? b = some o -> h₁.get? b = some o := fun b o e => hsb₁.extBut b o (belowC b (Heap.lt_size e)) (Heap.get?_push_of_some _ (hH2 ▸ Heap.get?_push_of_some _ e))
 have hacc : h₁.get? s2.heap.objs.size = some (lstO [] 0) := hsb₁.extBut _ _ hDC (Heap.get?_push_of_some _ (hH2 ▸ Heap.get?_push_size _ rfl));have fpLt : ∀ b ∈ fp, b < s2.heap.objs.size := fun b hb => by obtain ⟨o, e, _⟩ := T.obj _ _ st b hb; exact Heap.lt_size e
 have st₁ : tn 0 h₁ := T.keep _ _ _ st fun b _ o e => old b o e
 have sz : X.s₀.heap.objs.size <= s2.heap.objs.size := I.sz;have cellLt : ∀ x c, X.env.cells.lookup x = some c -> c < s2.heap.objs.size := fun x c e => by obtain ⟨v, q⟩ := I.cell x c e; exact q.lt
 have okX : (cxComp X N' scope cl C s2 H2 fp).Ok := by
  refine ⟨I.ok.mod, S.kind, I.ok.glob, I.ok.blt, by show s2.heap.objs.size <= C; rw [hC]; exact Nat.le_succ _, fun x y c a b => I.ok.inj x y c (hcl1 x c a) (hcl1 y c b), fun x hx => ?_, (fun x c z => by cases z), I.ok.hd, I.ok.frames, .inl rfl,
   fun b hb => ⟨belowC b (fpLt b hb), fun x c e => (f2 b hb).2.2.2.2.1 x c (hcl1 x c e)⟩, I.bs, Nat.le_trans I.ok.bsz sz, fun b o e hb => ?_, fun b hb z => ?_, I.stack, I.stkFree⟩
  ·have key : ∀ k, (k = NameKind.cell \/ k = NameKind.free) -> (relabel scope X.env).names.lookup x = some k -> ∃ c, cl.lookup x = some c := fun k hk hx => by
    rcases Zeb hx with z | ⟨_, z⟩
    ·rcases hk with rfl | rfl
     ·exact absurd rfl (S.nocell _ z)
     ·exact hcl2 x z
    ·exact hcl2 x z
   rcases hx with hx | hx
   ·exact key _ (.inl rfl) hx
   ·exact key _ (.inr rfl) hx
  ·rcases (f2 b hb).2.2.2.1 with z | z
   ·exact I.ok.noex b o e z
   ·exact absurd (Nat.lt_of_lt_of_le (Heap.lt_size (I.ok.bs b o e).1) z) (Nat.lt_irrefl _)
  ·rcases List.mem_cons.mp (I.stkSub b z) with y | y
   ·exact (f2 b hb).2.1 y
   ·exact (f2 b hb).2.2.1 y
 have freshC : ∀ b, s2.heap.objs.size <= b -> H2 b = none := fun b hb => I.hok.fresh hb
 have capI : Inv (cxComp X N' scope cl C s2 H2 fp) [(s2.heap.objs.size, lstO [] 0)] (capSt caps σ) H2 { s2 with heap := h₁, toks := s2.toks + ([] : List (Str × Value)).length } := by
  refine ⟨okX, rfl, I.bare, Un.kept old, ⟨_, hns₁, fun i x v e1 e2 e3 => ?_⟩, fun x c e => ?_, freshC C (by rw [hC]; exact Nat.le_succ _), fun x c e => I.freeC x c (hcl1 x c e), fun p hp => ?_, I.hok.kept old, ?_⟩
  ·have e2' : (caps[i]?).map (fun o => o.bind fun j => (σ[j]?).join) = some (some v) := by
    unfold capSt at e2; rw [List.getElem?_map] at e2; exact e2
   cases q : caps[i]? with
   | none => rw [q] at e2'; cases e2'
   | some o =>
    rw [q] at e2';cases o with
    | none => cases e2'
    | some j =>
     have hv : (σ[j]?).join = some v := Option.some.inj e2';obtain ⟨hN, hfr, honly⟩ := S.cap.2 i j x e1 q;have hσ : σ[j]? = some (some v) := by
      cases r : σ[j]? with
      | none => rw [r] at hv; cases hv
      | some o => rw [r] at hv; rw [<- hv]; rfl
     obtain ⟨m, hn, hl⟩ := I.loc;have hkx := S.vis x hfr;obtain ⟨u, ru, lk⟩ := hl j x v hN hσ (by rcases hkx with z | z; exact .inr (.inl z); exact .inr (.inr z));refine ⟨u, ru, .inr ?_⟩;obtain ⟨c, hc'⟩ := hcl2 x hfr;have hcx := hcl1 x c hc';rcases lk with ⟨z, _⟩ | ⟨_, c', hc2, hcell⟩
     ·rcases hkx with y | y <;> rw [y] at z <;> cases z
     ·rw [hcx] at hc2; cases hc2;have hcell' : h₁.IsCell c (some u) := by
       obtain ⟨oc, q1, q2⟩ := hcell;exact ⟨oc, old c oc q1, q2⟩
      refine ⟨?_, c, hc', hcell'⟩;rcases e3 with z | z | z
      ·rcases Zeb z with y | ⟨y, _⟩
       ·have := honly _ y; cases this
       ·cases y
      ·exact .inl z
      ·exact .inr z
  ·obtain ⟨v, oc, q1, q2⟩ := I.cell x c (hcl1 x c e);exact ⟨v, oc, old c oc q1, q2⟩
  ·have e : p = (s2.heap.objs.size, lstO [] 0) := by simpa [cxComp] using hp
   subst e;refine ⟨hacc, freshC _ (Nat.le_refl _), hDC, fun z => ?_, fun v z => by cases z⟩;exact absurd (show s2.heap.objs.size < s2.heap.objs.size from by
    rcases List.mem_cons.mp (I.stkSub _ z) with y | y
    ·exact absurd (I.lt) (by rw [<- y]; exact Nat.lt_irrefl _)
    ·exact absurd y (I.nofs (Nat.le_refl _))) (Nat.lt_irrefl _)
  ·unfold capSt; rw [List.length_map]; exact S.cap.1
 generalize hX' : cxComp X N' scope cl C s2 H2 fp = X' at okX capI;have ePr : X'.prog = X.prog := by rw [<- hX']; rfl
 have eW : X'.w = X.w := by rw [<- hX']; rfl
 have eK : X'.K = X.K := by rw [<- hX']; rfl
 have eA : X'.A = X.A := by rw [<- hX']; rfl
 have eEnv : X'.env = compEnvC scope cl C X.env := by rw [<- hX']; rfl
 have eXe : X'.xe = fun _ _ => False := by rw [<- hX']; rfl
 have eCalm : X'.calm = true := by rw [<- hX']; exact hc
 have eLoc : X'.env.locals = C := by rw [eEnv]; rfl
 have eS0 : X'.s₀ = s2 := by rw [<- hX']; rfl
 have eEx : X'.ex = fp := by rw [<- hX']; rfl
 have eFs : X'.fs = frs X.stack := by rw [<- hX']; rfl
 have eCells : X'.env.cells = cl := by rw [eEnv]; rfl
 have ePn : X'.pn = [] := by rw [<- hX']; rfl
 have eH0 : X'.H₀ = H2 := by rw [<- hX']; rfl
 have hgX : PG X' tg g := hX' ▸ hg cl C s2 H2 fp;have htX : PIfs X' ifs tc := hX' ▸ ht C;have heX : PE X' elt te := hX' ▸ he cl C s2 H2 fp;obtain ⟨m0, w0⟩ := w0;have nDfs : s2.heap.objs.size ∉ X'.fs := fun z => by
  rw [eFs] at z;rcases List.mem_cons.mp (I.stkSub _ z) with y | y
  ·exact absurd (I.lt) (by rw [<- y]; exact Nat.lt_irrefl _)
  ·exact absurd y (I.nofs (Nat.le_refl _))
 have fpX : ∀ {H' : Hp} {its : List Value} {n : Nat}, (∀ b ∈ fp, H' b = none) -> ∀ b ∈ fp, FpOk X' [(s2.heap.objs.size, lstO its n)] H' b := fun {H' its n} hn b hb => by
  refine ⟨hn b hb, by rw [eLoc]; exact belowC b (fpLt b hb), fun z => ?_, .inl (by rw [eEx]; exact hb), fun x c e => ?_, fun p hp z => ?_⟩
  ·rw [eFs] at z;rcases List.mem_cons.mp (I.stkSub b z) with y | y
   ·exact (f2 b hb).2.1 y
   ·exact (f2 b hb).2.2.1 y
  ·rw [eCells] at e; exact (f2 b hb).2.2.2.2.1 x c (hcl1 x c e)
  ·rw [ePn] at hp;have e : p = (s2.heap.objs.size, lstO its n) := by simpa using hp
   subst e;exact absurd (fpLt b hb) (by rw [<- z]; exact Nat.lt_irrefl _)
 have loop : ∀ s₃ : Shared, s₃ = { s2 with heap := h₁, toks := s2.toks + ([] : List (Str × Value)).length } ->
   codeAny (model X.prog X.w) X.A (.compLoop (.ListComp elt [⟨tg, iter, ifs, 0⟩] scope pos) 0 (.ref it) (.ref s2.heap.objs.size) (compEnvC scope cl C X.env)) (RR (.ref s2.heap.objs.size) C) s₃ := by
  rintro s₃ rfl;rw [<- eEnv, <- eA];refine Zia (fun n s' => ∃ i ys its k σ' H', Inv X' [(s2.heap.objs.size, lstO its k)] σ' H' s' /\ tn i s'.heap /\ (∀ b ∈ fp, H' b = none) /\ Vals ys its /\ W i n ys σ' H') ?_ m0
   ⟨0, [], [], 0, capSt caps σ, H2, capI, st₁, fun b hb => (f2 b hb).1, .nil, w0⟩
  rintro n s' ⟨i, ys, its, k, σ', H', I', st', fr', rv', w'⟩;rcases turn i n ys σ' H' w' with ⟨stop, hsz, q⟩ | ⟨go, hsz, NN, hNN, step⟩
  ·refine thn (T.done X' ePr eW eK eCalm i _ s' σ' H' (fun _ _ => False) I' (fpX fr') st' stop) fun r s4 ⟨hr, I4⟩ => ?_
   subst hr;have pinD := (I4.pin (s2.heap.objs.size, lstO its k) (by rw [ePn]; simp)).1;have freeD := (I4.pin (s2.heap.objs.size, lstO its k) (by rw [ePn]; simp)).2.1;have hq := q s2.heap.objs.size freeD;obtain ⟨mC, hnC, _⟩ := id I4.loc;rw [eLoc] at hnC;obtain ⟨oC, es, ep, hoC, hdC, _⟩ := id hnC;have freeC' : H' C = none := by have := I4.free; rw [eLoc] at this; exact this
   have base4 := I4.base;rw [eS0, eEx, eFs, eH0] at base4;have neD : ∀ b o, s2.heap.get? b = some o -> b ≠ s2.heap.objs.size := fun b o e => Nat.ne_of_lt (Heap.lt_size e)
   have neDH : ∀ b o, H2 b = some o -> b ≠ s2.heap.objs.size := fun b o e => Nat.ne_of_lt (I.hok.lt e)
   have un4 : Un (frs X.stack) fp H2 (upd H' s2.heap.objs.size (.lst ys)) s2.heap s4.heap :=
    ⟨base4.keep, base4.slot, fun b o e n hx => by rw [Zal (neD b o e)]; exact base4.free b o e n hx, base4.there, fun b xs e => by rw [Zal (neDH b _ e)]; exact base4.tups b xs e,
     fun b o u e => by rw [Zal (neDH b _ e)]; exact base4.frzs b o u e, fun b ps e => by rw [Zal (neDH b _ e)]; exact base4.tbls b ps e⟩
   have hok4 : HOk X.prog X.w (upd H' s2.heap.objs.size (.lst ys)) s4.heap := by
    have h4 := I4.hok;rw [ePr, eW] at h4;intro b u e
    by_cases hb : b = s2.heap.objs.size
    ·subst hb;rw [Zah] at e; cases e;exact ⟨hsz, its, k, rv', pinD⟩
    ·rw [Zal hb] at e;refine (h4 b u e).stay (fun c v _ z => z) (fun c z => ?_) (fun c xs z => ?_)
     ·rw [Zal]; exact z;intro zz; rw [zz, freeD] at z; cases z
     ·rw [Zal]; exact z;intro zz; rw [zz, freeD] at z; cases z
   have os4 : s4.os = s2.os := by have := I4.os; rw [eS0] at this; exact this
   have J4 : Inv X pins σ (upd H' s2.heap.objs.size (.lst ys)) s4 := I.call' (ch := fp) os4 un4 hok4 I4.bare fun b hb => ⟨(f2 b hb).2.2.2.1, (f2 b hb).2.1, (f2 b hb).2.2.2.2.1, (f2 b hb).2.2.2.2.2⟩
   have hCle : X.s₀.heap.objs.size <= C := by rw [hC]; exact Nat.le_succ_of_le sz
   have hCcell : ∀ x c, X.env.cells.lookup x = some c -> c ≠ C := fun x c e => belowC c (cellLt x c e)
   have hCpin : ∀ p ∈ X.pn ++ pins, p.1 ≠ C := fun p hp => belowC p.1 (Heap.lt_size (I.pin p hp).1)
   have hCl : C ≠ X.env.locals := fun z => absurd I.lt (by rw [<- z, hC]; exact Nat.not_lt.mpr (Nat.le_succ _))
   refine hRR s2.heap.objs.size C oC mC s4 _ (J4.pins_of fun p hp => ?_) hnC hq hCle hCcell hCpin hoC;rcases List.mem_append.mp hp with z | z
   ·exact J4.pin p (List.mem_append_right _ z)
   ·have e : p = (C, oC) := by simpa using z
    subst e;refine ⟨hoC, by rw [Zal (Ne.symm hDC)]; exact freeC', hCl, fun z => ?_, fun v z => by rw [hdC] at z; cases z⟩;exact I.nofs (by rw [hC]; exact Nat.le_succ _) z
  ·refine thn (T.item X' ePr eW eK eCalm i _ s' σ' H' (fun _ _ => False) I' (fpX fr') st' go) fun r s4 ⟨u, hr, h4⟩ => ?_
   subst hr;refine thn h4 fun _ s5 ⟨x, H5, I5, r5, y5, st5, fr5⟩ => ?_
   have I5' := I5.pinned (fpX fr5) (T.obj _ _ st5);have xeF : ∀ {α : Type} {t : Sem α} {Q : α -> Shared -> Prop} {s : Shared}, wpAny (model X.prog X.w) X'.A t Q X'.xe s -> wpAny (model X.prog X.w) X'.A t Q (fun _ _ => False) s := fun h => by rw [eXe] at h; exact h
   have ag := hgX _ s5 σ' H5 x u _ I5' r5 (step x H5 y5);rw [ePr, eW] at ag;refine thn (xeF ag) fun _ s6 ⟨σ6, H6, I6, q6⟩ => ?_
   have at' := htX _ s6 σ6 H6 _ I6 q6;rw [ePr, eW] at at';refine thn (xeF at') fun b s7 ⟨H7, I7, q7⟩ => ?_
   -- what the pins say behind the turn
   have back : ∀ {s8 : Shared} {H8 : Hp}, Inv X' ([(s2.heap.objs.size, lstO its k)] ++ Zhq fp s5.heap) σ6 H8 s8 -> tn (i + 1) s8.heap /\ (∀ b ∈ fp, H8 b = none) /\ Inv X' [(s2.heap.objs.size, lstO its k)] σ6 H8 s8 := fun {s8 H8} I8 => by
    refine ⟨T.keep _ _ _ st5 fun b hb o e => (I8.pin (b, o) (List.mem_append_right _ (List.mem_append_right _ (Zdz hb e)))).1, fun b hb => ?_, I8.unpinned⟩;obtain ⟨o, e, d⟩ := T.obj _ _ st5 b hb;exact (I8.pin (b, o) (List.mem_append_right _ (List.mem_append_right _ (Zdz hb e)))).2.1
   cases b with
   | false =>
    simp only [Bool.false_eq_true, if_false] at q7 ⊢;obtain ⟨m', hm, w7⟩ := hNN _ _ _ q7;obtain ⟨t7, f7, I7'⟩ := back I7;exact ⟨m', hm, i + 1, ys, its, k, σ6, H7, I7', t7, f7, rv', w7⟩
   | true =>
    simp only [if_true] at q7 ⊢;have ae := heX _ s7 σ6 H7 _ I7 q7;rw [ePr, eW] at ae;refine thn (xeF ae) fun y s8 ⟨yv, H8, I8, r8, n8⟩ => ?_
    obtain ⟨m', hm, w8⟩ := hNN _ _ _ n8;obtain ⟨t8, f8, I8'⟩ := back I8;have pinD := I8'.pin (s2.heap.objs.size, lstO its k) (by rw [ePn]; simp);have hlen := rv'.length;refine append_at (its := its.toArray) (n := k) (hsz := by rw [List.size_toArray, <- hlen]; exact Nat.le_of_lt hsz) pinD.1 fun h9 hs9 hD9 => ?_
    have I9 : Inv X' [] σ6 H8 { s8 with heap := h9, toks := s8.toks } := by
     refine (I8'.pins_of (pins' := []) fun p hp => by simp at hp).turned (it := s2.heap.objs.size) (fun b o hb e => (hs9.2 b hb).trans e) pinD.2.1 (by rw [eLoc]; exact hDC) (.inr (by rw [eS0]; exact Nat.le_refl _)) (fun x c e => ?_) fun p hp => ?_
     ·rw [eCells] at e; exact Nat.ne_of_lt (cellLt x c (hcl1 x c e))
     ·rw [ePn] at hp; simp at hp
    have ePush : ({ cls := .type "list", data := .seq (its.toArray.push y) (k + 1) } : Obj) = lstO (its ++ [y]) (k + 1) := by unfold lstO; rw [List.push_toArray]
    rw [ePush] at hD9;refine ⟨m', hm, i + 1, ys ++ [yv], its ++ [y], k + 1, σ6, H8, ?_, T.keep _ _ _ t8 fun b hb o e => (hs9.2 b (Nat.ne_of_lt (fpLt b hb))).trans e, f8, rv'.append (.cons r8 .nil), w8⟩;refine I9.pins_of fun p hp => ?_
    have e : p = (s2.heap.objs.size, lstO (its ++ [y]) (k + 1)) := by simpa using hp
    subst e;exact ⟨hD9, pinD.2.1, by rw [eLoc]; exact hDC, nDfs, fun v z => by cases z⟩
 exact codeAny_compStart_list (loop _ rfl) (T.self _ 0 _ _ _ st₁ (loop _ rfl))
end
end L2
set_option Elab.async false
set_option linter.all false
set_option maxRecDepth 100000
set_option maxHeartbeats 4000000
namespace L2
open PySem PySem.Spec PyProof.Rows
section
variable {X : Cx} {elt tg iter : Expr} {ifs : List Expr} {scope : Scope} {pos : Pos} {N' : List Str} {caps : List (Option Nat)} {wi : TI} {g : TG} {tc : TT} {te : TE}
theorem Inv.cellsOf {pins : List (Addr × Obj)} {σ : St} {H : Hp} {s : Shared} (I : Inv X pins σ H s) (S : Zdi X N' scope caps) : ∀ x, (x, NameKind.free) ∈ scope.names -> ∃ c, X.env.cells.lookup x = some c :=
 fun x hx => I.ok.has x (S.vis x hx)
theorem Zg0 (S : Zdi X N' scope caps) (hc : X.calm = true) (hi : PI X tg iter wi)
  (hg : ∀ cl C s H ex, PG (cxComp X N' scope cl C s H ex) tg g) (ht : ∀ cl C s H ex, PIfs (cxComp X N' scope cl C s H ex) ifs tc) (he : ∀ cl C s H ex, PE (cxComp X N' scope cl C s H ex) elt te)
  (hs : ∀ x, foldedSetIterable iter X.env x = pure x := by intro _; rfl) : PE X (.ListComp elt [⟨tg, iter, ifs, 0⟩] scope pos) (Zn6 caps wi g tc te) := by
 intro pins s σ H Q I h;obtain ⟨cl, ecl, hcl1, hcl2⟩ := Zhc (I.cellsOf S);rw [eval_ListComp];refine wpAny_comprehension_free (use := none) rfl hs ecl S.kind S.locs (thn (hi pins s σ H _ I h) fun v s1 h1 => thn h1 fun itv s2 h2 => ?_);obtain ⟨it, fp, tn, J, H2, e, I2, T, st2, f2, W, w0, turn⟩ := h2;subst e;refine Zhb S hc hcl1 hcl2 hg (fun C => ht _ C _ _ _) he I2 T st2 f2 W w0 turn fun D C oC m s' H' I' hn q hC hcell hpin hoC => ?_
 refine ⟨m, hn, fun h' hs' => ⟨.ref D, H', ?_, rfl, q⟩⟩;have pC := I'.pin (C, oC) (List.mem_append_right _ (List.mem_append_right _ (by simp)));exact (I'.pins_of (pins' := pins) fun p hp => I'.pin p (List.mem_append_right _ (List.mem_append_left _ hp))).turned (t' := s'.toks) (it := C) (fun b o hb e => (hs'.2 b hb).trans e) pC.2.1 pC.2.2.1 (.inr hC) hcell hpin
theorem Zgg {i : Nat} {x : Str} {pos' spos : Pos} (S : Zdi X N' scope caps) (hc : X.calm = true) (hN : X.N.Nodup) (hix : X.N[i]? = some x) (hx : Loc X.env.scope x) (hi : PI X tg iter wi)
  (hg : ∀ cl C s H ex, PG (cxComp X N' scope cl C s H ex) tg g) (ht : ∀ cl C s H ex, PIfs (cxComp X N' scope cl C s H ex) ifs tc) (he : ∀ cl C s H ex, PE (cxComp X N' scope cl C s H ex) elt te)
  (hsw : swapsWith (.ListComp elt [⟨tg, iter, ifs, 0⟩] scope pos) (some (.Name x pos')) spos.line X.env = pure true)
  (hf : X.fn x = true \/ X.env.scope.names.lookup x = some .local := by first | exact .inl rfl | exact .inr rfl | assumption)
  (hs : ∀ x, foldedSetIterable iter X.env x = pure x := by intro _; rfl) : PS X (.Assign [.Name x pos'] (.ListComp elt [⟨tg, iter, ifs, 0⟩] scope pos) spos) (Zrc (Zn6 caps wi g tc te) (Zfu i)) := by
 intro pins s σ H D I h;obtain ⟨cl, ecl, hcl1, hcl2⟩ := Zhc (I.cellsOf S);rw [exec_Assign_Name_used _ _ _ _ hsw];refine wpAny_bind (wpAny_standAt (wpAny_bind ?_));show wpAny _ X.A (do let _ <- comprehension (.ListComp elt [⟨tg, iter, ifs, 0⟩] scope pos) scope X.env _ (newList []) false (eval iter X.env) (some (assign (.Name x pos') X.env))) _ _ s;refine wpAny_bind (wpAny_mono (wpAny_comprehension_free (use := some (assign (.Name x pos') X.env)) (Q := fun _ s' => SP X pins D .next s') rfl hs ecl S.kind S.locs
  (thn (hi pins s σ H _ I h) fun v s1 h1 => thn h1 fun itv s2 h2 => ?_)) (fun _ s' hq => wpAny_pure (wpAny_pure hq)) fun _ _ e => e)
 obtain ⟨it, fp, tn, J, H2, e, I2, T, st2, f2, W, w0, turn⟩ := h2;subst e;refine Zhb (Q := fun x H1 => Zfu i x σ H1 D.nx) S hc hcl1 hcl2 hg (fun C => ht _ C _ _ _) he I2 T st2 f2 W w0 turn fun Da C oC m s' H' I' hn q hC hcell hpin hoC => ?_
 show wpAny _ X.A (assign (.Name x pos') X.env (.ref Da)) _ _ _;refine wpAny_assign_Name (Zfb I' hN hix hx (v := .ref Da) rfl (fun s'' I'' => ?_) hf);have pC := I''.pin (C, oC) (List.mem_append_right _ (List.mem_append_right _ (by simp)));have hn' : s''.heap.Ns C m := by
  obtain ⟨o, es, ep, ho, r⟩ := hn;rw [hoC] at ho; cases ho;exact ⟨oC, es, ep, pC.1, r⟩
 refine ⟨m, hn', fun h' hs' => ⟨σ.set i (some (.ref Da)), H', ?_, q⟩⟩;exact (I''.pins_of (pins' := pins) fun p hp => I''.pin p (List.mem_append_right _ (List.mem_append_left _ hp))).turned (t' := s''.toks) (it := C) (fun b o hb e => (hs'.2 b hb).trans e) pC.2.1 pC.2.2.1 (.inr hC) hcell hpin
theorem Zh9 {K : PySem.W.Frag} {a : Addr} {xs : List V} {σ : St} {H1 : Hp} {Q : VK} (Pv : Nat -> List V -> St -> Hp -> Prop) (h0 : Pv 0 [] (capSt caps σ) H1) (hl : ∀ i ys σ H, Pv i ys σ H -> i <= xs.length -> SqL K H a xs /\ ys.length <= i) (hz : xs.length <= sizeLine)
  (hs : ∀ i x ys σ H, xs[i]? = some x -> Pv i ys σ H -> g x σ H fun σ2 H2 => tc σ2 H2 fun b H3 => if b = true then te σ2 H3 fun y H4 => Pv (i + 1) (ys ++ [y]) σ2 H4 else Pv (i + 1) ys σ2 H3)
  (hd : ∀ ys σ H, Pv xs.length ys σ H -> ∀ p, H p = none -> Q (.ref p) (upd H p (.lst ys))) :
  Zfz caps g tc te σ Q (Itl K a) H1 := by
 refine ⟨fun i m ys σ H => m = xs.length - i /\ i <= xs.length /\ Pv i ys σ H, ⟨xs.length, by simp, Nat.zero_le _, h0⟩, ?_⟩;rintro i m ys σ H ⟨rfl, hi, p⟩;obtain ⟨q, hy⟩ := hl i ys σ H p hi
 by_cases hlt : i < xs.length
 ·refine .inr ⟨⟨xs, xs[i], q, by simp [hlt]⟩, by omega, Pv (i + 1), fun ys' σ' H' p' => ⟨xs.length - (i + 1), by omega, rfl, hlt, p'⟩, fun x H' y => ?_⟩;obtain ⟨e, y⟩ := y;subst e;exact hs i x ys σ _ (y xs q) p
 ·have e : i = xs.length := by omega
  subst e;exact .inl ⟨⟨xs, q, Nat.le_refl _⟩, by omega, hd ys σ H p⟩
theorem Zgm {lo : Int} {n : Nat} {σ : St} {H1 : Hp} {Q : VK} (Pv : Nat -> List V -> St -> Hp -> Prop) (h0 : Pv 0 [] (capSt caps σ) H1) (hl : ∀ i ys σ H, Pv i ys σ H -> i <= n -> ys.length <= i) (hz : n <= sizeLine)
  (hs : ∀ i ys σ H, i < n -> Pv i ys σ H -> g (.int (lo + i)) σ H fun σ2 H2 => tc σ2 H2 fun b H3 => if b = true then te σ2 H3 fun y H4 => Pv (i + 1) (ys ++ [y]) σ2 H4 else Pv (i + 1) ys σ2 H3)
  (hd : ∀ ys σ H, Pv n ys σ H -> ∀ p, H p = none -> Q (.ref p) (upd H p (.lst ys))) :
  Zfz caps g tc te σ Q (Itr lo n) H1 := by
 refine ⟨fun i m ys σ H => m = n - i /\ i <= n /\ Pv i ys σ H, ⟨n, by simp, Nat.zero_le _, h0⟩, ?_⟩;rintro i m ys σ H ⟨rfl, hi, p⟩;have hy := hl i ys σ H p hi
 by_cases hlt : i < n
 ·refine .inr ⟨hlt, by omega, Pv (i + 1), fun ys' σ' H' p' => ⟨n - (i + 1), by omega, rfl, hlt, p'⟩, fun x H' y => ?_⟩;obtain ⟨e, y⟩ := y;subst e y;exact hs i ys σ _ hlt p
 ·have e : i = n := by omega
  subst e;exact .inl ⟨Nat.le_refl _, by omega, hd ys σ H p⟩
end
end L2
set_option Elab.async false
set_option linter.all false
set_option maxRecDepth 100000
set_option maxHeartbeats 4000000
namespace L2
open PySem PySem.Spec PyProof.Rows
mutual
inductive Dp (K : PySem.W.Frag) (H : Hp) : V -> PyData -> Prop
 | non : Dp K H .non .none
 | bl (b : Bool) : Dp K H (.bl b) (.bool b)
 | int (i : Int) : Dp K H (.int i) (.int i)
 | str (x : Str) : Dp K H (.str x) (.str x)
 | lst {a : Addr} {xs : List V} {ds : List PyData} : SqL K H a xs -> DpAll K H xs ds -> Dp K H (.ref a) (.list ds)
 | tup {a : Addr} {xs : List V} {ds : List PyData} : SqT K H a xs -> DpAll K H xs ds -> Dp K H (.ref a) (.tuple ds)
inductive DpAll (K : PySem.W.Frag) (H : Hp) : List V -> List PyData -> Prop
 | nil : DpAll K H [] []
 | cons {x : V} {xs : List V} {d : PyData} {ds : List PyData} : Dp K H x d -> DpAll K H xs ds -> DpAll K H (x :: xs) (d :: ds)
end
theorem DpAll.ints {K : PySem.W.Frag} {H : Hp} : ∀ ns : List Int, DpAll K H (ns.map V.int) (ns.map PyData.int)
 | [] => .nil
 | _ :: r => .cons (.int _) (DpAll.ints r)
theorem Zin (ns : List Int) : SeqAt.shaped (.list (ns.map PyData.int)) = true := by
 have h1 : ∀ ns : List Int, PyData.canLayAll0 (ns.map PyData.int) = true := fun ns => by
  induction ns with
  | nil => rfl
  | cons n r ih => simp [PyData.canLayAll0, PyData.canLay0, ih]
 have h2 : ∀ ns : List Int, PyData.depthAll (ns.map PyData.int) <= 2 := fun ns => by
  induction ns with
  | nil => simp [PyData.depthAll]
  | cons n r ih => simp [PyData.depthAll, PyData.depth]; omega
 have h3 := h2 ns;simp [SeqAt.shaped, PyData.canLay0, h1 ns, PyData.depth]; omega
section
variable {X : Cx} {pins : List (Addr × Obj)} {σ : St} {H : Hp} {s : Shared}
mutual
theorem Inv.reads (I : Inv X pins σ H s) : ∀ {x : V} {d : PyData} {u : Value}, Dp X.K H x d -> RelV x u -> ∃ as, Reads s.heap u d as
 | _, _, u, .non, r => by cases (show u = Value.none from r); exact ⟨_, .none⟩
 | _, _, u, .bl b, r => by cases (show u = Value.bool b from r); exact ⟨_, .bool b⟩
 | _, _, u, .int i, r => by obtain ⟨t, rfl⟩ := (show ∃ t, u = Value.int i t from r); exact ⟨_, .int i t⟩
 | _, _, u, .str x, r => by obtain ⟨t, rfl⟩ := (show ∃ t, u = Value.str x t from r); exact ⟨_, .str x t⟩
 | _, _, u, .lst (a := a) hl hd, r => by
  cases (show u = Value.ref a from r);obtain ⟨its, rv, ⟨o, n, e, hc, _, hdt⟩, hz⟩ := I.list hl;obtain ⟨as, ra⟩ := Inv.readsAll I hd rv;exact ⟨_, .list e hc hdt (by simpa using ra)⟩
 | _, _, u, .tup (a := a) hl hd, r => by
  cases (show u = Value.ref a from r);obtain ⟨its, rv, ⟨o, e, hc, n, hdt⟩, hz⟩ := I.tuple hl;obtain ⟨as, ra⟩ := Inv.readsAll I hd rv;exact ⟨_, .tuple e hc hdt (by simpa using ra)⟩
theorem Inv.readsAll (I : Inv X pins σ H s) : ∀ {xs : List V} {ds : List PyData} {us : List Value}, DpAll X.K H xs ds -> Vals xs us -> ∃ as, ReadsAll s.heap us ds as
 | _, _, _, .nil, r => by cases r; exact ⟨_, .nil⟩
 | _, _, _, .cons h t, r => by
  cases r with
  | cons r1 r2 =>
   obtain ⟨as, ra⟩ := Inv.reads I h r1;obtain ⟨bs, rb⟩ := Inv.readsAll I t r2;exact ⟨_, .cons ra rb⟩
end
end
def Zsy (K : PySem.W.Frag) : R2 := fun x y H Q => ∃ d e, Dp K H x d /\ Dp K H y e /\ SeqAt.shaped d = true /\ SeqAt.shaped e = true /\ Q (.bl (!PyData.eqv d e)) H
section
variable {X : Cx}
theorem Zqp (hu : X.A.units + 64 < cLine) : OpR X (compareOp .NotEq) (Zsy X.K) := by
 intro pins s σ H x y v u Q I rx ry h;obtain ⟨d, e, h1, h2, s1, s2, q⟩ := h;obtain ⟨as, ra⟩ := I.reads h1 rx;obtain ⟨bs, rb⟩ := I.reads h2 ry;exact ne_dataH ra rb s1 s2 hu (Za6 I q rfl)
def Zs0 : R2 := fun x y H Q => ∃ i j, x = .str i /\ y = .str j /\ Q (.bl (!decide (j.cps.toList < i.cps.toList))) H
theorem Znr : OpR X (compareOp .LtE) Zs0 := by
 intro pins s σ H x y v u Q I rx ry h;obtain ⟨i, j, rfl, rfl, q⟩ := h;obtain ⟨t, rfl⟩ := rx;obtain ⟨t', rfl⟩ := ry;exact PySem.P.le_str (Za6 I q rfl)
theorem Znb (hc : X.calm = true) : CallR X (.builtin "all") (fun xs H Q => ∃ (p : Addr) (bs : List Bool), xs = [.ref p] /\ SqL X.K H p (bs.map V.bl) /\ Q (.bl (bs.all id)) H) := by
 intro pins s σ H xs us Q I r h;obtain ⟨p, bs, rfl, hq, q⟩ := h;obtain ⟨u, rfl, rx⟩ := Zhi r;cases rx;obtain ⟨its, rv, pl, hz⟩ := I.list hq;have hh : X.A.in1.handled = none := I.ok.hd hc;have hl := pl.isList;have hlt : p < s.heap.objs.size := by obtain ⟨_, e, _⟩ := hl; exact Heap.lt_size e
 have hlen : bs.length = its.length := by have := rv.length; simpa using this
 refine call_all_walk (wpAny_pyIter_list hl ⟨s.heap.objs.size, _, _, _, _, _, fun i => bs.getD i false, rfl, Walks.list hh s.heap.objs.size p (Nat.ne_of_lt hlt) its.toArray, ⟨⟨_, Heap.get?_push_size _ rfl, rfl, rfl⟩, hl.push _⟩, ?_, ?_⟩)
 ·intro i v s' Q' E' hv hQ;have hv' : its[i]? = some v := by simpa using hv
  cases e : bs[i]? with
  | none =>
   have : its[i]? = none := by
    rw [List.getElem?_eq_none_iff] at e ⊢; omega
   rw [this] at hv'; cases hv'
  | some b =>
   obtain ⟨u, hu, ru⟩ := rv.get (i := i) (x := V.bl b) (by rw [List.getElem?_map, e]; rfl);rw [hv'] at hu; cases hu;cases (show v = Value.bool b from ru);have : bs.getD i false = b := by simp [List.getD, e]
   dsimp only at hQ;rw [this] at hQ;exact wpAny_truthy_bool hQ
 ·intro h' tk hk;have e : (List.range its.toArray.size).all (fun i => bs.getD i false) = bs.all id := by
   rw [List.size_toArray, <- hlen, Bool.eq_iff_iff, List.all_eq_true, List.all_eq_true];constructor
   ·intro h x hx;obtain ⟨i, hi, rfl⟩ := List.mem_iff_getElem.mp hx;have := h i (List.mem_range.mpr hi);simpa [List.getD, hi] using this
   ·intro h i hi;have hi' := List.mem_range.mp hi;have := h bs[i] (List.getElem_mem hi');simpa [List.getD, hi'] using this
  rw [e];exact ⟨.bl (bs.all id), H, I.kept (t' := tk) fun b o eo => hk b o (by simpa using Nat.ne_of_lt (Heap.lt_size eo)) (Heap.get?_push_of_some _ eo), rfl, q⟩
def Zrf : V -> Value
 | .ty n => .type n
 | .ref a => .ref a
 | _ => .none
def Zq5 : V -> Bool
 | .ty _ => true
 | .ref _ => true
 | _ => false
def Ztd (K : PySem.W.Frag) : List V -> Hp -> VK -> Prop := fun xs H Q => ∃ x c t b, xs = [x, c] /\ Zj0 K H x t /\ Zq5 c = true /\ PySem.W.kitOne K t (Zrf c) = some b /\ Q (.bl b) H
theorem Zna : CallR X (.builtin "isinstance") (Ztd X.K) := by
 intro pins s σ H xs us Q I r h;obtain ⟨x, c, t, b, rfl, ty, hc, e, q⟩ := h;obtain ⟨u, w', rfl, rx, rc⟩ := Zny r;have hw : w' = Zrf c := by cases c <;> first | exact rc | cases hc
 subst hw;exact Zh2 I rx ty e fun tk => ⟨.bl b, H, I.tok tk, rfl, q⟩
def Its (x : Str) : It := ⟨fun i _ => i < x.cps.size, fun i H v H' => H' = H /\ ∃ c, x.cps[i]? = some c /\ v = .str ⟨#[c]⟩, fun i _ => i = x.cps.size⟩
theorem Zjh {P : Program} {w : World} {K : PySem.W.Frag} {tg : Expr} {it : Addr} {ty : String} {x : Str} {t : Tok}
  (W : ∀ A : Around, A.handled = none -> Walks P w A it [it] [it] x.cps.size (SignAt x) (fun i h => h.IsStrIter it ty x t i))
  (hself : ∀ (A : Around) (i : Nat) (s : Shared) (Q : Value -> Shared -> Prop) (E : Value -> Shared -> Prop), s.heap.IsStrIter it ty x t i -> Q (.ref it) s -> wpAny (model P w) A (pyIter (.ref it)) Q E s)
  (hn : ["enumerate", "zip", "dict_itemiterator", "dict_reverseitemiterator", "odict_iterator", "itertools.zip_longest", "itertools.pairwise"].contains ty = false) :
  Zq9 P w K tg (Its x) [it] it (fun i h => h.IsStrIter it ty x t i) where
 mem := by simp
 obj := fun i h st b hb => by
  have e : b = it := by simpa using hb
  subst e;obtain ⟨o, e, c, d⟩ := st;exact ⟨o, e, fun v z => by rw [d] at z; cases z⟩
 keep := fun i h h' st k => by obtain ⟨o, e, r⟩ := st; exact ⟨o, k it (by simp) o e, r⟩
 item := by
  intro X hP hw hK hc i pins s σ H E I hf st hg;subst hP hw hK;obtain ⟨f0, f1, f2, f3, f4, f5⟩ := hf it (by simp);refine (W X.A (I.ok.hd hc)).item i s _ _ hg st fun v h' tk hv st' hk => ?_
  obtain ⟨c, u, hc', rfl⟩ := hv;have I1 : Inv X pins σ H { s with heap := h', toks := tk } := I.turned (t' := tk) (fun b o hb e => hk b o (by simpa using hb) e) f0 f1 f3 f4 f5;obtain ⟨o, e, cc, d⟩ := id st';exact ⟨_, rfl, Zo0 (s := { s with heap := h', toks := tk }) e cc d hn ⟨.str ⟨#[c]⟩, H, I1, ⟨u, rfl⟩, ⟨rfl, c, hc', rfl⟩, st', fun b hb => (hf b hb).1⟩⟩
 done := by
  intro X hP hw hK hc i pins s σ H E I hf st hg;subst hP hw hK;obtain ⟨f0, f1, f2, f3, f4, f5⟩ := hf it (by simp);have hg' : i = x.cps.size := hg;subst hg';exact (W X.A (I.ok.hd hc)).done s _ _ st fun h' tk hk => ⟨rfl, I.turned (t' := tk) (fun b o hb e => hk b o (by simpa using hb) e) f0 f1 f3 f4 f5⟩
 self := fun A i s Q E st h => hself A i s Q E st h
def Zs4 (tl : TE) : TI := fun σ H R => tl σ H fun x H1 => ∃ z, x = .str z /\ R (Its z) H1
theorem Zql {tg l : Expr} {tl : TE} (hl : PE X l tl) : PI X tg l (Zs4 tl) := by
 intro pins s σ H R I h;refine thn (hl pins s σ H _ I h) fun v s1 ⟨x, H1, I1, r1, q1⟩ => ?_
 obtain ⟨z, e, q⟩ := q1;subst e;obtain ⟨t, rfl⟩ := (show ∃ t, v = Value.str z t from r1);have fin : ∀ b : Addr, b ∈ [s1.heap.objs.size] -> FpOk X pins H1 b := fun b hb => by
  have e : b = s1.heap.objs.size := by simpa using hb
  subst e;exact I1.fpOk (Nat.le_refl _) (I1.hok.fresh (Nat.le_refl _))
 cases ha : z.cps.all (· < 128)
 ·exact wpAny_pyIter_wide ha ⟨s1.heap.objs.size, [s1.heap.objs.size], _, _, H1, rfl, I1.kept (t' := s1.toks) fun b o e => Heap.get?_push_of_some _ e,
   Zjh (fun A hA => Walks.strWide hA _ z t) (fun A i s Q E st h => wpAny_pyIter_striter_wide st h) (by decide), ⟨_, Heap.get?_push_size _ rfl, rfl, rfl⟩, fin, q⟩
 ·exact wpAny_pyIter_ascii ha ⟨s1.heap.objs.size, [s1.heap.objs.size], _, _, H1, rfl, I1.kept (t' := s1.toks) fun b o e => Heap.get?_push_of_some _ e,
   Zjh (fun A hA => Walks.strAscii hA _ z t) (fun A i s Q E st h => wpAny_pyIter_striter_ascii st h) (by decide), ⟨_, Heap.get?_push_size _ rfl, rfl, rfl⟩, fin, q⟩
theorem Zm9 {caps : List (Option Nat)} {g : TG} {tc : TT} {te : TE} {z : Str} {σ : St} {H1 : Hp} {Q : VK} (Pv : Nat -> List V -> St -> Hp -> Prop) (h0 : Pv 0 [] (capSt caps σ) H1) (hl : ∀ i ys σ H, Pv i ys σ H -> i <= z.cps.size -> ys.length <= i) (hz : z.cps.size <= sizeLine)
  (hs : ∀ i c ys σ H, z.cps[i]? = some c -> Pv i ys σ H -> g (.str ⟨#[c]⟩) σ H fun σ2 H2 => tc σ2 H2 fun b H3 => if b = true then te σ2 H3 fun y H4 => Pv (i + 1) (ys ++ [y]) σ2 H4 else Pv (i + 1) ys σ2 H3)
  (hd : ∀ ys σ H, Pv z.cps.size ys σ H -> ∀ p, H p = none -> Q (.ref p) (upd H p (.lst ys))) :
  Zfz caps g tc te σ Q (Its z) H1 := by
 refine ⟨fun i m ys σ H => m = z.cps.size - i /\ i <= z.cps.size /\ Pv i ys σ H, ⟨z.cps.size, by simp, Nat.zero_le _, h0⟩, ?_⟩;rintro i m ys σ H ⟨rfl, hi, p⟩;have hy := hl i ys σ H p hi
 by_cases hlt : i < z.cps.size
 ·refine .inr ⟨hlt, by omega, Pv (i + 1), fun ys' σ' H' p' => ⟨z.cps.size - (i + 1), by omega, rfl, hlt, p'⟩, fun x H' y => ?_⟩;obtain ⟨e, c, hc, y⟩ := y;subst e y;exact hs i c ys σ _ hc p
 ·have e : i = z.cps.size := by omega
  subst e;exact .inl ⟨rfl, by omega, hd ys σ H p⟩
end
end L2
set_option Elab.async false
set_option linter.all false
set_option maxRecDepth 100000
set_option maxHeartbeats 4000000
namespace L2
open PySem PySem.Spec PyProof.Rows
def Zl9 (N N' : List Str) (scope : Scope) (caps : List (Option Nat)) (sc : Scope) : Bool :=
 decide (scope.kind = .function) && (scope.names.all fun y => decide (y.2 ≠ .cell)) && (scope.names.all fun y => decide (y.2 = .local -> scope.names.lookup y.1 = some .local)) && decide (caps.length = N'.length) &&
 ((N'.zip caps).all fun p => match p.2 with
  | none => true
  | some j => decide (N[j]? = some p.1) && decide ((p.1, NameKind.free) ∈ scope.names) && (scope.names.all fun y => decide (y.1 = p.1 -> y.2 = .free))) &&
 (scope.names.all fun y => decide (y.2 = .free -> sc.names.lookup y.1 = some .cell \/ sc.names.lookup y.1 = some .free))
theorem Zjb {X : Cx} {N' : List Str} {scope : Scope} {caps : List (Option Nat)} {sc : Scope} {N : List Str} (hsc : X.env.scope = sc) (hN : X.N = N) (h : Zl9 N N' scope caps sc = true) : Zdi X N' scope caps := by
 subst hsc hN;unfold Zl9 at h;simp only [Bool.and_eq_true, decide_eq_true_eq, List.all_eq_true] at h;obtain ⟨⟨⟨⟨⟨h1, h2⟩, h3⟩, h4⟩, h5⟩, h6⟩ := h;refine ⟨h1, h2, h3, ⟨h4, fun i j x e1 e2 => ?_⟩, fun x hx => ?_⟩
 ·have hz : (x, some j) ∈ N'.zip caps := by
   have : (N'.zip caps)[i]? = some (x, some j) := by
    rw [List.getElem?_zip_eq_some]; exact ⟨e1, e2⟩
   exact List.mem_of_getElem? this
  have q := h5 _ hz;simp only [Bool.and_eq_true, decide_eq_true_eq, List.all_eq_true] at q;exact ⟨q.1.1, q.1.2, fun k hk => q.2 _ hk rfl⟩
 ·exact h6 _ hx rfl
theorem Zi3 {X : Cx} {N : List Str} (h : X.N = N) (d : N.Nodup) : X.N.Nodup := h ▸ d
theorem Zcl {X : Cx} {x : Str} {n : Int} {pos : Pos} (hg : Gl X x) (hm : ∃ t, X.mg x = some (.int n t)) (hd : (x == ("__debug__" : Str)) = false := by decide) : PE X (.Name x pos) (tC (.int n)) := by
 obtain ⟨t, e⟩ := hm;exact Zcr hg e ⟨t, rfl⟩ hd
structure FnB (P : Program) (w : World) (K : PySem.W.Frag) (mg : Str -> Option Value) (base : Heap) (x : Str) (k : Nat) (ps : List Str) (dvs : List V) (sp : Sp) : Prop where
 ex : ∃ (f : Addr) (fd : FuncData) (ds : List Value), FnOk P w K mg base CX0 k f fd ps sp /\ mg x = some (.ref f) /\ PySem.W.keepIn K (.ref f) = true /\ Binds K fd ps ds /\ Vals dvs ds
structure MkB (P : Program) (w : World) (K : PySem.W.Frag) (mg : Str -> Option Value) (base : Heap) (x : Str) (C : Addr) (k : Nat) (ps : List Str) (dvs : List V) (sp : Sp) : Prop where
 ex : ∃ (f : Addr) (fd : FuncData) (ds : List Value), FnOk P w K mg base CX0 k f fd ps sp /\ mg x = some (.ref C) /\ Mk K C f /\ Binds K fd ps ds /\ Vals dvs ds
structure MtB (P : Program) (w : World) (K : PySem.W.Frag) (mg : Str -> Option Value) (base : Heap) (C : Addr) (m : Str) (k : Nat) (ps : List Str) (dvs : List V) (sp : Sp) : Prop where
 ex : ∃ (f : Addr) (fd : FuncData) (ds : List Value), FnOk P w K mg base CX0 k f fd ps sp /\ Cls K C /\ Ztm K C m f /\ Binds K fd ps ds /\ Vals dvs ds
section
variable {X : Cx} {k : Nat} {C : Addr} {ps : List Str} {sp : Sp} {dvs : List V} {x m : Str} {p pos apos : Pos} {e o : Expr} {es : List Expr} {ta : TE} {t : TA}
theorem Zak (F : FnB X.prog X.w X.K X.mg X.base x k ps dvs sp) (hr : Room k X.A) (hg : Gl X x) (ha : PA X (e :: es) t) (hdb : (x == ("__debug__" : Str)) = false := by decide)
  (he : starEach (e :: es) X.env = (false, eval e X.env) :: starEach es X.env := by rfl) (hpl : (backTo pos (starEach es X.env)).any (·.1) = false := by rfl) : PE X (.Call (.Name x p) (e :: es) [] pos) (Zk5 sp dvs E0 t) := by
 obtain ⟨f, fd, ds, G, hm, hk, hb, hd⟩ := F.ex;exact Zlh G hr hg hm hk hb hd Zqo ha hdb he hpl
end
structure Bt (mg : Str -> Option Value) : Prop where
 len : mg "len" = none
 range : mg "range" = none
 isinstance : mg "isinstance" = none
 all : mg "all" = none
 min : mg "min" = none
 max : mg "max" = none
 bint : mg "int" = none
 bbool : mg "bool" = none
 bstr : mg "str" = none
 blist : mg "list" = none
 btuple : mg "tuple" = none
def But (a : Addr) (H H' : Hp) : Prop := ∀ b o, H b = some o -> b ≠ a -> H' b = some o
theorem But.refl (a : Addr) (H : Hp) : But a H H := fun _ _ h _ => h
theorem But.trans {a : Addr} {H H1 H2 : Hp} (x : But a H H1) (y : But a H1 H2) : But a H H2 := fun b o h n => y b o (x b o h n) n
theorem But.upd {a : Addr} {H : Hp} {o : HO} : But a H (upd H a o) := fun b _ h n => by rw [Zal n]; exact h
theorem But.new {a p : Addr} {H H' : Hp} {o : HO} (x : But a H H') (h : H p = none) : But a H (L2.upd H' p o) := fun b u e n => by
 rw [Zal (Zax e h)]; exact x b u e n
def Zpa (g : TG) (tb : TS) (D : Zks) (σ : St) (J : It) (H1 : Hp) : Prop := ∃ W : Nat -> Nat -> St -> Hp -> Prop, (∃ m, W 0 m σ H1) /\ ∀ i m σ H, W i m σ H ->
 (J.stop i H /\ D.nx σ H) \/ (J.go i H /\ ∃ N : St -> Hp -> Prop, (∀ σ' H', N σ' H' -> ∃ m', m' < m /\ W (i + 1) m' σ' H') /\ ∀ x H', J.yld i H x H' -> g x σ H' fun σ2 H2 => tb { D with nx := N, ct := N, bk := D.nx } σ2 H2)
theorem Zn4 (wi : TI) (g : TG) (tb : TS) (D : Zks) (σ : St) (H : Hp) : Zsw wi g tb D σ H = wi σ H fun J H1 => Zpa g tb D σ J H1 := rfl
theorem Ze5 {K : PySem.W.Frag} {a : Addr} {xs : List V} {g : TG} {tb : TS} {D : Zks} {σ : St} {H : Hp} (Pv : Nat -> St -> Hp -> Prop) (h0 : Pv 0 σ H) (hl : ∀ i σ H, i <= xs.length -> Pv i σ H -> SqL K H a xs)
  (hs : ∀ i x σ H, xs[i]? = some x -> Pv i σ H -> g x σ H fun σ2 H2 => tb { D with nx := Pv (i + 1), ct := Pv (i + 1), bk := D.nx } σ2 H2) (hd : ∀ σ H, Pv xs.length σ H -> D.nx σ H) : Zpa g tb D σ (Itl K a) H := Zm7 Pv h0 hl hs hd
theorem Zju {lo : Int} {n : Nat} {g : TG} {tb : TS} {D : Zks} {σ : St} {H : Hp} (Pv : Nat -> St -> Hp -> Prop) (h0 : Pv 0 σ H)
  (hs : ∀ i σ H, i < n -> Pv i σ H -> g (.int (lo + i)) σ H fun σ2 H2 => tb { D with nx := Pv (i + 1), ct := Pv (i + 1), bk := D.nx } σ2 H2) (hd : ∀ σ H, Pv n σ H -> D.nx σ H) : Zpa g tb D σ (Itr lo n) H := Zly Pv h0 hs hd
theorem Zpf {c : TT} {tb : TS} {D : Zks} {σ : St} {H : Hp} (Pv : St -> Hp -> Prop) (μ : St -> Hp -> Nat) (h0 : Pv σ H)
  (hs : ∀ σ H, Pv σ H -> c σ H fun b H1 => if b = true then ∃ N : St -> Hp -> Prop, (∀ σ' H', N σ' H' -> ∃ m', m' < μ σ H /\ (m' = μ σ' H' /\ Pv σ' H')) /\ tb { D with nx := N, ct := N, bk := D.nx } σ H1 else D.nx σ H1) : Znc c tb D σ H := by
 refine ⟨fun m σ H => m = μ σ H /\ Pv σ H, ⟨_, rfl, h0⟩, ?_⟩;rintro m σ H ⟨rfl, p⟩;exact hs σ H p
theorem Zaj {n : Nat} (h : n <= 100000) : n <= sizeLine := Nat.le_trans h (by rw [sizeLine_eq]; decide)
theorem Zbr {n : Nat} (h : n <= 100000) : n < sizeLine := Nat.lt_of_le_of_lt h (by rw [sizeLine_eq]; decide)
end L2
set_option Elab.async false
set_option linter.all false
set_option maxRecDepth 100000
set_option maxHeartbeats 4000000
namespace L2
open PySem PySem.Spec PyProof.Rows
def tyO : HO -> Option String
 | .lst _ => some "list"
 | .tup _ => some "tuple"
 | .dK _ => some "dict"
 | _ => none
def tyF (H : Hp) : V -> Option String
 | .non => some "NoneType"
 | .bl _ => some "bool"
 | .int _ => some "int"
 | .str _ => some "str"
 | .ref a => (H a).bind tyO
 | _ => none
def Zj3 (n T : String) : Bool := n == T || (n == "bool" && T == "int")
theorem Zpj {K : PySem.W.Frag} {H : Hp} {x : V} {n : String} (h : tyF H x = some n) : Zj0 K H x (.type n) /\ n ∈ ["NoneType", "bool", "int", "str", "list", "tuple", "dict"] := by
 cases x with
 | non => cases h; exact ⟨.non, by simp⟩
 | bl b => cases h; exact ⟨.bl b, by simp⟩
 | int i => cases h; exact ⟨.int i, by simp⟩
 | str i => cases h; exact ⟨.str i, by simp⟩
 | ref a =>
  have h : (H a).bind tyO = some n := h;cases e : H a with
  | none => rw [e] at h; cases h
  | some o =>
   rw [e] at h;cases o <;> first | (cases h; done) | skip
   ·cases h; exact ⟨.lst e, by simp⟩
   ·cases h; exact ⟨.tup e, by simp⟩
   ·cases h; exact ⟨.dK e, by simp⟩
 | _ => cases h
theorem Zov {K : PySem.W.Frag} {n T : String} (hn : n ∈ ["NoneType", "bool", "int", "str", "list", "tuple", "dict"]) (hT : T ∈ ["bool", "int", "str", "list", "tuple", "dict"]) : PySem.W.kitOne K (.type n) (.type T) = some (Zj3 n T) := by
 simp only [List.mem_cons, List.not_mem_nil, or_false] at hn hT;rcases hn with rfl | rfl | rfl | rfl | rfl | rfl | rfl <;> rcases hT with rfl | rfl | rfl | rfl | rfl | rfl <;> rfl
def Zqg (T : String) : List V -> Hp -> VK -> Prop := fun xs H Q => ∃ x n, xs = [x, .ty T] /\ tyF H x = some n /\ Q (.bl (Zj3 n T)) H
theorem Zdh {X : Cx} (T : String) (hT : T ∈ ["bool", "int", "str", "list", "tuple", "dict"] := by decide) : CallR X (.builtin "isinstance") (Zqg T) := by
 intro pins s σ H xs us Q I r h;obtain ⟨x, n, rfl, ty, q⟩ := h;obtain ⟨t1, t2⟩ := Zpj (K := X.K) ty;exact Zna pins s σ H _ us Q I r ⟨x, .ty T, _, _, rfl, t1, rfl, Zov t2 hT, q⟩
theorem Zdu {H : Hp} {a : Addr} {xs : List V} (h : H a = some (.lst xs)) : tyF H (.ref a) = some "list" := by show (H a).bind tyO = _; rw [h]; rfl
theorem Zkx {H : Hp} {a : Addr} {xs : List V} (h : H a = some (.tup xs)) : tyF H (.ref a) = some "tuple" := by show (H a).bind tyO = _; rw [h]; rfl
theorem Zn1 {H : Hp} {i : Int} : tyF H (.int i) = some "int" := rfl
theorem Zpk {H : Hp} {i : Bool} : tyF H (.bl i) = some "bool" := rfl
theorem Znz {H : Hp} {i : Str} : tyF H (.str i) = some "str" := rfl
theorem Zn0 {H : Hp} : tyF H .non = some "NoneType" := rfl
section
variable {CX : CXT} {P : Program} {w : World} {K : PySem.W.Frag} {mg : Str -> Option Value} {base : Heap} {N : List Str} {q : Str} {sc : Scope} {f : Addr} {cd : Value} {A : Around} {o : List Env} {s : Shared} {H : Hp} {E : XK}
theorem cxK : (cxOf CX P w K mg base N q sc f cd A o s H E).K = K := rfl
end
end L2
set_option Elab.async false
set_option linter.all false
set_option maxRecDepth 100000
set_option maxHeartbeats 4000000
namespace L2
open PySem PySem.Spec PyProof.Rows
def isI : V -> Bool
 | .int _ => true
 | _ => false
def isB : V -> Bool
 | .bl _ => true
 | _ => false
def isS : V -> Bool
 | .str _ => true
 | _ => false
def isL (H : Hp) : V -> Bool
 | .ref a => match H a with
  | some (.lst _) => true
  | _ => false
 | _ => false
theorem Zik {o : HO} {n : String} (h : tyO o = some n) : n = "list" \/ n = "tuple" \/ n = "dict" := by
 cases o <;> first | (cases h; done) | (cases h; simp)
theorem Zph {H : Hp} {x : V} {n : String} (h : tyF H x = some n) : Zj3 n "int" = (isI x || isB x) := by
 cases x with
 | ref a =>
  have h : (H a).bind tyO = some n := h;cases e : H a with
  | none => rw [e] at h; cases h
  | some o =>
   rw [e] at h;rcases Zik h with rfl | rfl | rfl <;> rfl
 | _ => first | (cases h; done) | (cases h; rfl)
theorem Zkw {H : Hp} {x : V} {n : String} (h : tyF H x = some n) : Zj3 n "bool" = isB x := by
 cases x with
 | ref a =>
  have h : (H a).bind tyO = some n := h;cases e : H a with
  | none => rw [e] at h; cases h
  | some o =>
   rw [e] at h;rcases Zik h with rfl | rfl | rfl <;> rfl
 | _ => first | (cases h; done) | (cases h; rfl)
theorem Zpg {H : Hp} {x : V} {n : String} (h : tyF H x = some n) : Zj3 n "str" = isS x := by
 cases x with
 | ref a =>
  have h : (H a).bind tyO = some n := h;cases e : H a with
  | none => rw [e] at h; cases h
  | some o =>
   rw [e] at h;rcases Zik h with rfl | rfl | rfl <;> rfl
 | _ => first | (cases h; done) | (cases h; rfl)
theorem Zkv {H : Hp} {x : V} {n : String} (h : tyF H x = some n) : Zj3 n "list" = isL H x := by
 cases x with
 | ref a =>
  have h : (H a).bind tyO = some n := h;cases e : H a with
  | none => rw [e] at h; cases h
  | some o =>
   rw [e] at h;have e2 : isL H (.ref a) = match some o with | some (.lst _) => true | _ => false := by
    show (match H a with | some (.lst _) => true | _ => false) = _;rw [e]
   rw [e2];cases o <;> first | (cases h; done) | (cases h; rfl)
 | _ => first | (cases h; done) | (cases h; rfl)
theorem Zlq {H : Hp} {x : V} (h : isL H x = true) : ∃ a xs, x = .ref a /\ H a = some (.lst xs) := by
 cases x with
 | ref a =>
  have h : (match H a with | some (.lst _) => true | _ => false) = true := h;cases e : H a with
  | none => rw [e] at h; cases h
  | some o =>
   rw [e] at h;cases o <;> first | (cases h; done) | exact ⟨a, _, rfl, e⟩
 | _ => cases h
theorem Zbx {H H' : Hp} (s : Same H H') {x : V} {n : String} (h : tyF H x = some n) : tyF H' x = some n := by
 cases x with
 | ref a =>
  have h : (H a).bind tyO = some n := h;show (H' a).bind tyO = some n;cases e : H a with
  | none => rw [e] at h; cases h
  | some o => rw [s a o e]; rw [e] at h; exact h
 | _ => exact h
def wIn (x : V) (lo hi : Int) : Bool := match x with
 | .int i => decide (lo <= i) && decide (i <= hi)
 | _ => false
def Ze8 (c : Nat) : Bool := decide (97 <= c) && decide (c <= 122)
def isNm : V -> Bool
 | .str z => decide (1 <= z.length) && decide (z.length <= 8) && z.cps.toList.all Ze8
 | _ => false
def isBd (H : Hp) : V -> Bool
 | .ref a => match H a with
  | some (.lst xs) => decide (1 <= xs.length) && decide (xs.length <= 4000) && xs.all (fun y => wIn y 0 255)
  | _ => false
 | _ => false
theorem Zjt {H : Hp} {a : Addr} {xs : List V} (h : H a = some (.lst xs)) : isBd H (.ref a) = (decide (1 <= xs.length) && decide (xs.length <= 4000) && xs.all (fun y => wIn y 0 255)) := by
 show (match H a with | some (.lst xs) => decide (1 <= xs.length) && decide (xs.length <= 4000) && xs.all (fun y => wIn y 0 255) | _ => false) = _;rw [h]
theorem Zoy {H : Hp} {x : V} (h : isL H x = false) : isBd H x = false := by
 cases x with
 | ref a =>
  have h : (match H a with | some (.lst _) => true | _ => false) = false := h;show (match H a with | some (.lst xs) => _ | _ => false) = false;cases e : H a with
  | none => rfl
  | some o =>
   rw [e] at h;cases o <;> first | rfl | cases h
 | _ => rfl
theorem Same.new {H H' : Hp} {p : Addr} {o : HO} (x : Same H H') (h : H p = none) : Same H (upd H' p o) := fun b u e => by
 rw [Zal (Zax e h)]; exact x b u e
theorem Zn9 (c : Nat) : ((!decide ((⟨#[c]⟩ : Str).cps.toList < ("a" : Str).cps.toList)) = decide (97 <= c)) /\ ((!decide (("z" : Str).cps.toList < (⟨#[c]⟩ : Str).cps.toList)) = decide (c <= 122)) := by
 have ha : ("a" : Str).cps.toList = [97] := by decide +kernel
 have hz : ("z" : Str).cps.toList = [122] := by decide +kernel
 rw [ha, hz];have e : (⟨#[c]⟩ : Str).cps.toList = [c] := rfl;rw [e];have lt1 : ∀ a b : Nat, ([a] < [b]) ↔ a < b := fun a b => by
  constructor
  ·intro h;rcases List.cons_lt_cons_iff.mp h with h | ⟨_, h⟩
   ·exact h
   ·exact absurd h (List.not_lt_nil _)
  ·intro h; exact List.cons_lt_cons_iff.mpr (.inl h)
 constructor
 ·rw [Bool.eq_iff_iff]; simp only [Bool.not_eq_true', decide_eq_false_iff_not, decide_eq_true_eq, lt1]; omega
 ·rw [Bool.eq_iff_iff]; simp only [Bool.not_eq_true', decide_eq_false_iff_not, decide_eq_true_eq, lt1]; omega
end L2
set_option Elab.async false
set_option linter.all false
set_option maxRecDepth 100000
set_option maxHeartbeats 4000000
namespace L2
open PySem PySem.Spec PyProof.Rows
def tUp (t : TS) : TS := fun D σ H => ∃ R : St -> Hp -> Prop, t { D with nx := R } σ H /\ ∀ σ' H', R σ' H' -> D.nx σ' H'
theorem Zr9 {X : Cx} {st : Stmt} {t : TS} (h : PS X st t) : PS X st (tUp t) := by
 intro pins s σ H D I hw;obtain ⟨R, h1, h2⟩ := hw;refine thn (h pins s σ H _ I h1) fun f s' q => ?_
 cases f with
 | next => obtain ⟨σ', H', I', q'⟩ := q; exact ⟨σ', H', I', h2 σ' H' q'⟩
 | brk => exact q
 | cont => exact q
 | ret v => exact q
end L2
set_option Elab.async false
set_option linter.all false
set_option maxRecDepth 100000
set_option maxHeartbeats 4000000
namespace L2
open PySem PySem.Spec PyProof.Rows
section
variable {X : Cx} {K : PySem.W.Frag}
theorem Za0 (h : X.K = K) : IxR X (Zr4 K) := h ▸ Zow
theorem Ze4 (h : X.K = K) : IxR X (Zr2 K) := h ▸ Zq3
theorem Zmm (h : X.K = K) : SlR X (Zrx K) := h ▸ Zn8
def Zsz (K : PySem.W.Frag) : List V -> Hp -> VK -> Prop := fun xs H Q => ∃ p ys, xs = [.ref p] /\ (SqL K H p ys \/ SqT K H p ys) /\ Q (.int ys.length) H
def Zk9 (K : PySem.W.Frag) : List V -> Hp -> VK -> Prop := fun xs H Q => ∃ p ys, xs = [.ref p] /\ (SqL K H p ys \/ SqT K H p ys) /\ ∀ l, H l = none -> Q (.ref l) (upd H l (.lst ys))
def Zs2 (K : PySem.W.Frag) : List V -> Hp -> VK -> Prop := fun xs H Q => ∃ (p : Addr) (bs : List Bool), xs = [.ref p] /\ SqL K H p (bs.map V.bl) /\ Q (.bl (bs.all id)) H
theorem Za9 (h : X.K = K) : CallR X (.builtin "len") (Zsz K) := h ▸ Zid
theorem Zgo (h : X.K = K) : CallR X (.type "list") (Zk9 K) := h ▸ Zib
theorem Zfx (hc : X.calm = true) (h : X.K = K) : CallR X (.builtin "all") (Zs2 K) := h ▸ Znb hc
theorem Zlk (hu : X.A.units + 64 < cLine) (h : X.K = K) : OpR X (compareOp .NotEq) (Zsy K) := h ▸ Zqp hu
theorem Zcq {o value : Expr} {f : Str} {pos pos' : Pos} {ta tv : TE} (h : X.K = K) (ha : PE X o ta) (hv : PE X value tv) (hs : swapsWith value (some (.Attribute o f pos')) pos.line X.env = pure false) : PS X (.Assign [.Attribute o f pos'] value pos) (Zru K ta tv f) := h ▸ Zqj ha hv hs
theorem Zc8 {tg l : Expr} {tl : TE} (h : X.K = K) (hl : PE X l tl) : PI X tg l (Zoz K tl) := h ▸ Zoi hl
theorem Zdf {o e : Expr} {es : List Expr} {to : TE} {t : TA} {name : Str} {apos cpos : Pos} {T id : String} {r : V -> List V -> Hp -> VK -> Prop} (h : X.K = K) (pa : PlainAttrs T) (slot : Slot T name id) (hty : typeOf (.builtin id) = pure (.type "method_descriptor")) (hm : MtR X id r) (ho : PE X o to) (ha : PA X (e :: es) t)
  (hbase : attributeBase o name X.env (eval o X.env) = eval o X.env := by rfl)
  (hfew : ((backTo cpos (starEach (e :: es) X.env)).all (fun x => !x.1) && (backToKw cpos (keywordEach [] X.env)).all (fun x => x.1.isSome)
   && decide ((e :: es).length + ([] : List Keyword).length + (if ([] : List Keyword).isEmpty then 0 else 1) < 30)) = true := by rfl)
  (hline : (apos.endLine == cpos.line) = true := by rfl) (hs : starEach (e :: es) X.env = (false, eval e X.env) :: starEach es X.env := by rfl) (hplain : (backTo cpos (starEach es X.env)).any (·.1) = false := by rfl) :
  PE X (.Call (.Attribute o name apos) (e :: es) [] cpos) (tBM K T r to t) := h ▸ Zsb pa slot hty hm ho ha hbase hfew hline hs hplain
def Ztb (K : PySem.W.Frag) (ta : TE) : TT := fun σ H Q => ta σ H fun x H1 => ∃ k, TruV K x H1 k /\ Q k H1
end
end L2
set_option Elab.async false
set_option linter.all false
set_option maxRecDepth 100000
set_option maxHeartbeats 4000000
namespace L2
open PySem PySem.Spec PyProof.Rows
section
variable {X : Cx}
end
end L2
set_option Elab.async false
set_option linter.all false
set_option maxRecDepth 100000
set_option maxHeartbeats 4000000
namespace L2
open PySem PySem.Spec PyProof.Rows
theorem Zby {H : Hp} {p : Addr} {o : HO} (h : H p = none) : Same H (upd H p o) := (Same.refl H).new h
section
variable {X : Cx} {es : List Expr} {t : TA} {pos : Pos}
def Zpl (t : TA) : TE := fun σ H Q => t σ H fun xs H1 => xs.length <= sizeLine /\ ∀ p G, H1 p = none -> Same H1 G -> G p = some (.tup xs) -> Q (.ref p) G
def Zpr (t : TA) : TE := fun σ H Q => t σ H fun xs H1 => xs.length <= sizeLine /\ ∀ p G, H1 p = none -> Same H1 G -> G p = some (.lst xs) -> Q (.ref p) G
theorem Zok {x1} (h : PA X es t) : PE X (.Tuple es x1 pos) (Zpl t) := by
 intro pins s σ H Q I hq;refine wpAny_Tuple_spliced (thn (h pos pins s σ H _ I hq) fun us s1 ⟨xs, H1, I1, r, z, q⟩ => ⟨by rw [<- r.length]; exact z, ?_⟩);have hf : H1 s1.heap.objs.size = none := I1.hok.fresh (Nat.le_refl _);refine ⟨.ref s1.heap.objs.size, upd H1 s1.heap.objs.size (.tup xs), I1.laid (t' := s1.toks) (fun b u e => Heap.get?_push_of_some _ e) (Nat.le_refl _) ?_, rfl, q _ _ hf (Zby hf) Zah⟩;exact ⟨z, us, r, ⟨_, Heap.get?_push_size _ rfl, rfl, _, rfl⟩⟩
theorem Za7 (h : PA X es t) : PE X (.List es pos) (Zpr t) := by
 intro pins s σ H Q I hq;refine wpAny_List_spliced (thn (h pos pins s σ H _ I hq) fun us s1 ⟨xs, H1, I1, r, z, q⟩ => ⟨by rw [<- r.length]; exact z, ?_⟩);have hf : H1 s1.heap.objs.size = none := I1.hok.fresh (Nat.le_refl _);refine ⟨.ref s1.heap.objs.size, upd H1 s1.heap.objs.size (.lst xs), I1.laid (t' := s1.toks) (fun b u e => Heap.get?_push_of_some _ e) (Nat.le_refl _) ?_, rfl, q _ _ hf (Zby hf) Zah⟩;exact ⟨z, us, 0, r, Heap.get?_push_size _ rfl⟩
end
section
variable {X : Cx} {K : PySem.W.Frag}
theorem OpR.imp {f : Value -> Value -> Sem Value} {r r' : R2} (h : OpR X f r) (hi : ∀ x y H Q, r' x y H Q -> r x y H Q) : OpR X f r' := fun pins s σ H x y v u Q I rx ry q => h pins s σ H x y v u Q I rx ry (hi _ _ _ _ q)
theorem CallR.imp {f : Value} {r r' : List V -> Hp -> VK -> Prop} (h : CallR X f r) (hi : ∀ xs H Q, r' xs H Q -> r xs H Q) : CallR X f r' := fun pins s σ H xs us Q I rx q => h pins s σ H xs us Q I rx (hi _ _ _ q)
theorem MtM.imp {id : String} {r r' : V -> List V -> Hp -> VK -> Prop} (h : MtM X id r) (hi : ∀ x xs H Q, r' x xs H Q -> r x xs H Q) : MtM X id r' := fun pins s σ H x xs v us Q I rx rv q => h pins s σ H x xs v us Q I rx rv (hi _ _ _ _ q)
theorem SlR.imp {r r' : V -> Option Int -> Option Int -> Hp -> VK -> Prop} (h : SlR X r) (hi : ∀ x a b H Q, r' x a b H Q -> r x a b H Q) : SlR X r' := fun pins s σ H x v vl vu lo hi' sl Q I rx hs pl pu q => h pins s σ H x v vl vu lo hi' sl Q I rx hs pl pu (hi _ _ _ _ _ q)
def Zqi : R2 := fun x y H Q => ∃ l b xs zs, x = .ref l /\ y = .ref b /\ H l = some (.lst xs) /\ H b = some (.lst zs) /\ xs.length + zs.length <= sizeLine /\ ∀ p G, H p = none -> Same H G -> G p = some (.lst (xs ++ zs)) -> Q (.ref p) G
theorem Ze3 : OpR X (binaryOp .Add) Zqi := op_cat.imp fun x y H Q ⟨l, b, xs, zs, e1, e2, h1, h2, h3, q⟩ => ⟨l, b, xs, zs, e1, e2, h1, h2, h3, fun p hp => q p _ hp (Zby hp) Zah⟩
def Zp9 : R2 := fun x y H Q => ∃ l k xs, x = .ref l /\ y = .int k /\ H l = some (.lst xs) /\ -(2 ^ 63) <= k /\ k < 2 ^ 63 /\ xs.length * k.toNat <= sizeLine /\ ∀ p G, H p = none -> Same H G -> G p = some (.lst (List.replicate k.toNat xs).flatten) -> Q (.ref p) G
theorem Zlj : OpR X (binaryOp .Mult) Zp9 := op_rep.imp fun x y H Q ⟨l, k, xs, e1, e2, h1, h2, h3, h4, q⟩ => ⟨l, k, xs, e1, e2, h1, h2, h3, h4, fun p hp => q p _ hp (Zby hp) Zah⟩
def Zmt (K : PySem.W.Frag) : List V -> Hp -> VK -> Prop := fun xs H Q => ∃ p ys, xs = [.ref p] /\ (SqL K H p ys \/ SqT K H p ys) /\ ∀ l G, H l = none -> Same H G -> G l = some (.lst ys) -> Q (.ref l) G
def Zp6 (K : PySem.W.Frag) : V -> Option Int -> Option Int -> Hp -> VK -> Prop := fun x lo hi H Q => ∃ a xs, x = .ref a /\ SqL K H a xs /\ ∀ p G, H p = none -> Same H G -> G p = some (.lst (Zja xs lo hi)) -> Q (.ref p) G
theorem Zeh (h : X.K = K) : SlR X (Zp6 K) := (Zmm h).imp fun x a b H Q ⟨p, ys, e, h1, q⟩ => ⟨p, ys, e, h1, fun l hl => q l _ hl (Zby hl) Zah⟩
def Zjl : V -> List V -> Hp -> VK -> Prop := fun x vs H Q => ∃ l xs y, x = .ref l /\ vs = [y] /\ H l = some (.lst xs) /\ xs.length < sizeLine /\ ∀ G, But l H G -> G l = some (.lst (xs ++ [y])) -> Q .non G
theorem Zbo : MtM X "list.append" Zjl := mt_append.imp fun x xs H Q ⟨l, ys, y, e1, e2, h1, h2, q⟩ => ⟨l, ys, y, e1, e2, h1, h2, q _ But.upd Zah⟩
def Zjk : V -> List V -> Hp -> VK -> Prop := fun x vs H Q => ∃ l b xs zs, x = .ref l /\ vs = [.ref b] /\ H l = some (.lst xs) /\ H b = some (.lst zs) /\ xs.length + zs.length <= sizeLine /\ ∀ G, But l H G -> G l = some (.lst (xs ++ zs)) -> Q .non G
theorem Zkh : MtM X "list.extend" Zjk := mt_extend.imp fun x xs H Q ⟨l, b, ys, zs, e1, e2, h1, h2, h3, q⟩ => ⟨l, b, ys, zs, e1, e2, h1, h2, h3, q _ But.upd Zah⟩
def Zrz : V -> List V -> Hp -> VK -> Prop := fun x vs H Q => ∃ l xs y, x = .ref l /\ vs = [] /\ H l = some (.lst xs) /\ xs[xs.length - 1]? = some y /\ ∀ G, But l H G -> G l = some (.lst xs.dropLast) -> Q y G
def Zoh : V -> List V -> Hp -> VK -> Prop := fun x vs H Q => ∃ l xs, x = .ref l /\ vs = [] /\ H l = some (.lst xs) /\ ∀ G, But l H G -> G l = some (.lst []) -> Q .non G
def Zp7 : V -> V -> V -> Hp -> (Hp -> Prop) -> Prop := fun o i v H Q => ∃ p xs k j, o = .ref p /\ i = .int k /\ H p = some (.lst xs) /\ ixN xs.length k = some j /\ ∀ G, But p H G -> G p = some (.lst (xs.set j v)) -> Q G
def Zrt (K : PySem.W.Frag) (ta tv : TE) (f : Str) : TS := fun D σ H => tv σ H fun y H1 => ta σ H1 fun x H2 => ∃ a C dx fs, x = .ref a /\ H2 a = some (.ins C dx fs) /\ Cls K C /\ NoAttr K C f /\ fs.length < 1000 /\
 ∀ G, But a H2 G -> G a = some (.ins C dx (putF f y fs)) -> D.nx σ G
end
def FldV (K : PySem.W.Frag) (H : Hp) (x : V) (f : Str) (v : V) : Prop := ∃ a C dx fs, x = .ref a /\ H a = some (.ins C dx fs) /\ Cls K C /\ NoAttr K C f /\ fs.lookup f = some v
def Zps (K : PySem.W.Frag) (ta : TE) (f : Str) : TE := fun σ H Q => ta σ H fun x H1 => ∃ v, FldV K H1 x f v /\ Q v H1
theorem Zbc {X : Cx} {K : PySem.W.Frag} {e : Expr} {f : Str} {pos : Pos} {ta : TE} (h : X.K = K) (he : PE X e ta) (hb : attributeBase e f X.env (eval e X.env) = eval e X.env) : PE X (.Attribute e f pos) (Zps K ta f) := by
 subst h;intro pins s σ H Q I h;refine Zo6 hb (thn (he pins s σ H _ I h) fun u s1 ⟨x, H1, I1, rx, v, ⟨a, C, dx, fs, ex, ea, c, n, l⟩, q⟩ => ?_);subst ex;obtain rfl : u = Value.ref a := rx;exact Zkm I1 ea c n l fun u' s2 I2 ru => ⟨v, H1, I2, ru, q⟩
structure CtB (P : Program) (w : World) (K : PySem.W.Frag) (mg : Str -> Option Value) (base : Heap) (x : Str) (k : Nat) (sp : Sp) : Prop where
 ex : ∃ (f C : Addr) (fd : FuncData) (ds : List Value) (dvs : List V) (ps : List Str) (sp0 : Sp), FnOk P w K mg base CX0 k f fd ps sp0 /\ mg x = some (.ref C) /\ Mk K C f /\ Binds K fd ps ds /\ Vals dvs ds /\
  ∀ vs H Q, sp vs H Q E0 -> ∀ y dx G, H y = none -> H dx = none -> dx ≠ y -> Same H G -> G y = some (.ins C dx []) -> sp0 (.ref y :: (vs ++ dvs)) G (fun v H2 => v = .non /\ Q (.ref y) H2) E0
theorem MkB.ct {P : Program} {w : World} {K : PySem.W.Frag} {mg : Str -> Option Value} {base : Heap} {x : Str} {C : Addr} {k : Nat} {ps : List Str} {dvs : List V} {sp sp' : Sp} (F : MkB P w K mg base x C k ps dvs sp)
  (h : ∀ vs H Q, sp' vs H Q E0 -> ∀ y dx G, H y = none -> H dx = none -> dx ≠ y -> Same H G -> G y = some (.ins C dx []) -> sp (.ref y :: (vs ++ dvs)) G (fun v H2 => v = .non /\ Q (.ref y) H2) E0) : CtB P w K mg base x k sp' := by
 obtain ⟨f, fd, ds, G, hm, M, hb, hd⟩ := F.ex;exact ⟨f, C, fd, ds, dvs, ps, sp, G, hm, M, hb, hd, h⟩
theorem Zjn {X : Cx} {k : Nat} {sp : Sp} {x : Str} {p pos : Pos} {e : Expr} {es : List Expr} {t : TA} (F : CtB X.prog X.w X.K X.mg X.base x k sp) (hr : Room (k + 1) X.A) (hg : Gl X x) (ha : PA X (e :: es) t) (hdb : (x == ("__debug__" : Str)) = false := by decide)
  (he : starEach (e :: es) X.env = (false, eval e X.env) :: starEach es X.env := by rfl) (hpl : (backTo pos (starEach es X.env)).any (·.1) = false := by rfl) : PE X (.Call (.Name x p) (e :: es) [] pos) (Zk5 sp [] E0 t) := by
 obtain ⟨f, C, fd, ds, dvs, ps, sp0, G, hm, M, hb, hd, hi⟩ := F.ex;intro pins s σ H Q I h;refine wpAny_Call_Name_kw (Zef I hg hm ?_ hdb);refine PySem.W.callWith_K (h₀ := X.base) I.ok.mod.kin M.kp (thn (ha pos pins s σ H _ I h) fun us s1 ⟨vs, H1, I1, r, q⟩ => ⟨I1.kIn, ?_⟩) he hpl;have q : sp (vs ++ []) H1 Q E0 := q;rw [List.append_nil] at q;exact Zmo M G hr hb hd Zqo I1 r fun y dx hy hdx hn => hi _ _ _ q y dx _ hy hdx hn ((Zby hdx).new hy) Zah
def Zto (C : Addr) (m : Str) (H : Hp) (x : V) : Prop := ∃ a dx fs, x = .ref a /\ H a = some (.ins C dx fs) /\ fs.lookup m = none
def Zpq (C : Addr) (m : Str) (sp : Sp) (dvs : List V) (ta : TE) (t : TA) : TE := fun σ H Q => ta σ H fun x H1 => Zto C m H1 x /\ t σ H1 fun vs H2 => sp (x :: (vs ++ dvs)) H2 Q E0
section
variable {X : Cx} {k : Nat} {C : Addr} {ps : List Str} {sp : Sp} {dvs : List V} {m : Str} {pos apos : Pos} {e o : Expr} {es : List Expr} {ta : TE} {t : TA}
end
theorem Same.get {H G : Hp} {b : Addr} {o : HO} (s : Same H G) (h : H b = some o) : G b = some o := s b o h
theorem But.get {l : Addr} {H G : Hp} {b : Addr} {o : HO} (s : But l H G) (h : H b = some o) (n : b ≠ l) : G b = some o := s b o h n
theorem Same.butNew {l : Addr} {H H' G : Hp} (s : Same H H') (b : But l H' G) (h : H l = none) : Same H G := fun c o e => b c o (s c o e) (Zax e h)
theorem But.free {l : Addr} {H G : Hp} (s : But l H G) {b : Addr} (h : G b = none) (n : b ≠ l) : H b = none := by
 cases e : H b with
 | none => rfl
 | some o => rw [s b o e n] at h; cases h
theorem Same.toBut {l : Addr} {H G : Hp} (s : Same H G) : But l H G := fun b o e _ => s b o e
section
variable {caps : List (Option Nat)} {g : TG} {tc : TT} {te : TE}
theorem Zgn {K : PySem.W.Frag} {a : Addr} {xs : List V} {σ : St} {H1 : Hp} {Q : VK} (Pv : Nat -> List V -> St -> Hp -> Prop) (h0 : Pv 0 [] (capSt caps σ) H1) (hl : ∀ i ys σ H, Pv i ys σ H -> i <= xs.length -> SqL K H a xs /\ ys.length <= i) (hz : xs.length <= sizeLine)
  (hs : ∀ i x ys σ H, xs[i]? = some x -> Pv i ys σ H -> g x σ H fun σ2 H2 => tc σ2 H2 fun b H3 => if b = true then te σ2 H3 fun y H4 => Pv (i + 1) (ys ++ [y]) σ2 H4 else Pv (i + 1) ys σ2 H3)
  (hd : ∀ ys σ H, Pv xs.length ys σ H -> ∀ p G, H p = none -> Same H G -> G p = some (.lst ys) -> Q (.ref p) G) : Zfz caps g tc te σ Q (Itl K a) H1 :=
 Zh9 Pv h0 hl hz hs fun ys σ H h p hp => hd ys σ H h p _ hp (Zby hp) Zah
theorem Zfw {lo : Int} {n : Nat} {σ : St} {H1 : Hp} {Q : VK} (Pv : Nat -> List V -> St -> Hp -> Prop) (h0 : Pv 0 [] (capSt caps σ) H1) (hl : ∀ i ys σ H, Pv i ys σ H -> i <= n -> ys.length <= i) (hz : n <= sizeLine)
  (hs : ∀ i ys σ H, i < n -> Pv i ys σ H -> g (.int (lo + i)) σ H fun σ2 H2 => tc σ2 H2 fun b H3 => if b = true then te σ2 H3 fun y H4 => Pv (i + 1) (ys ++ [y]) σ2 H4 else Pv (i + 1) ys σ2 H3)
  (hd : ∀ ys σ H, Pv n ys σ H -> ∀ p G, H p = none -> Same H G -> G p = some (.lst ys) -> Q (.ref p) G) : Zfz caps g tc te σ Q (Itr lo n) H1 :=
 Zgm Pv h0 hl hz hs fun ys σ H h p hp => hd ys σ H h p _ hp (Zby hp) Zah
end
end L2
set_option Elab.async false
set_option linter.all false
set_option maxRecDepth 100000
set_option maxHeartbeats 4000000
namespace L2
open PySem PySem.Spec PyProof.Rows
structure Ztp (K : PySem.W.Frag) (C : Addr) : Prop where
 ha : PySem.W.findIn K (.ref C) "__class__" = some (some (.builtin "object.__class__"))
 hn : PySem.W.specialIn K (.builtin "object.__class__") "__get__" = some (some (.builtin "getset_descriptor.__get__"))
 htk : PySem.W.takesIn K (.builtin "object.__class__") = some true
 hm : PySem.W.mroIn K C (.type "object") = some true
def Zr5 (C : Addr) : List V -> Hp -> VK -> Prop := fun xs H Q => ∃ a dx fs, xs = [.ref a, .ref C] /\ H a = some (.ins C dx fs) /\ Q (.bl true) H
section
variable {P : Program} {w : World} {K : PySem.W.Frag} {mg : Str -> Option Value} {base : Heap}
end
def Zs8 (t : TE) : TE := fun σ H Q => ∃ R : VK, t σ H R /\ ∀ v H', R v H' -> Q v H'
theorem Zap {t u : TS} {D : Zks} {σ : St} {H : Hp} (h : ∀ N : St -> Hp -> Prop, (∀ σ' H', u D σ' H' -> N σ' H') -> t { D with nx := N } σ H) : Zrj t u D σ H := h (u D) fun _ _ x => x
theorem Zjv (ns : List Int) {lo hi : Nat} (h1 : lo <= hi) (h2 : hi <= ns.length) : Zja (ns.map V.int) (some (lo : Int)) (some (hi : Int)) = ((ns.drop lo).take (hi - lo)).map V.int := by
 unfold Zja;rw [HT.sIx_nat, HT.sIx_nat, List.length_map, Nat.min_eq_left h2, Nat.min_eq_left (Nat.le_trans h1 h2), List.map_take, List.map_drop]
theorem Zh7 {ns : List V} {lo : Nat} (h1 : lo <= ns.length) : Zja ns (some (lo : Int)) none = ns.drop lo := by
 unfold Zja;rw [HT.sIx_nat, HT.sIx_none, Nat.min_eq_left h1, List.take_of_length_le];rw [List.length_drop]; exact Nat.le_refl _
theorem Zo5 {ns : List V} {hi : Nat} (h1 : hi <= ns.length) : Zja ns none (some (hi : Int)) = ns.take hi := by
 unfold Zja;rw [HT.sIx_nat, HT.sIx_none, Nat.min_eq_left h1, Nat.sub_zero, List.drop_zero]
end L2
set_option Elab.async false
set_option linter.all false
set_option maxRecDepth 100000
set_option maxHeartbeats 4000000
namespace L2
open PySem PySem.Spec PyProof.Rows
section
variable {κ : Type} [DecidableEq κ]
def valV (kvs : List (κ × V)) (k : κ) : Option V := (kvs.find? fun kv => decide (kv.1 = k)).map (·.2)
def Zrd (kvs : List (κ × V)) (k : κ) (v : V) : List (κ × V) :=
 if (kvs.any fun kv => decide (kv.1 = k)) = true then kvs.map (fun kv => if kv.1 = k then (kv.1, v) else kv) else kvs ++ [(k, v)]
end
abbrev KT (H : Hp) : List (List Key × V) -> List (List Key × Addr × Value) -> Prop := Paired fun p q => p.1 = q.1 /\ H q.2.1 = some (.tup (p.1.map kV)) /\ RelV p.2 q.2.2
section
variable {P : Program} {w : World} {H : Hp} {h : Heap} {a : Addr}
end
def Ztr (H : Hp) (a : Addr) (y : V) (r : Option V) : Prop :=
 (∃ kvs k, Rd H a (.dK kvs) /\ y = kV k /\ r = valV kvs k) \/ ∃ kvs k b, Rd H a (.dT kvs) /\ y = .ref b /\ H b = some (.tup (k.map kV)) /\ r = valV kvs k
section
variable {X : Cx} {pins : List (Addr × Obj)} {σ : St} {H : Hp} {s : Shared} {a : Addr} {y v : V} {u r : Value} {o : Option V} {A : Around} {E : Value -> Shared -> Prop}
end
section
variable {X : Cx} {pins : List (Addr × Obj)} {σ : St} {H : Hp} {s : Shared} {a : Addr} {kvs : List (Key × V)} {k : Key} {u : Value} {A : Around} {E : Value -> Shared -> Prop}
end
def Zrq (td ty : TE) : TE := fun σ H Q => td σ H fun x H1 => ty σ H1 fun y H2 => ∃ a v, x = .ref a /\ Ztr H2 a y (some v) /\ Q v H2
section
variable {X : Cx} {o i e value : Expr} {pos pos' tpos : Pos} {td ty tv : TE}
end
section
variable {X : Cx} {pos : Pos}
end
def Zk2 : List (TE × TE) -> St -> Hp -> (List (V × V) -> Hp -> Prop) -> Prop
 | [], _, H, Q => Q [] H
 | (tk, tv) :: r, σ, H, Q => tk σ H fun x H1 => tv σ H1 fun y H2 => Zk2 r σ H2 fun ps H3 => Q ((x, y) :: ps) H3
abbrev VV : List (V × V) -> List (Value × Value) -> Prop := Paired fun p q => RelV p.1 q.1 /\ RelV p.2 q.2
def Zqw (kvs more : List (Key × V)) : List (Key × V) := more.foldl (fun acc kv => Zrd acc kv.1 kv.2) kvs
def Zrp (trs : List (TE × TE)) : TE := fun σ H Q => ∀ p, H p = none -> Zk2 trs σ (upd H p (.dK [])) fun ps H2 => H2 p = some (.dK []) /\ ∃ kvs : List (Key × V), ps = kvs.map (fun kv => (kV kv.1, kv.2)) /\ kvs.length <= 15 /\ Q (.ref p) (upd H2 p (.dK (Zqw [] kvs)))
section
variable {X : Cx}
end
end L2
set_option Elab.async false
set_option linter.all false
set_option maxRecDepth 100000
set_option maxHeartbeats 4000000
namespace L2
open PySem PySem.Spec PyProof.Rows
theorem Zls : ∀ {ns : List Int} {us : List Value}, Vals (ns.map V.int) us -> IntsAre us ns
 | [], _, r => by cases r; exact .nil
 | n :: ns, _, r => by
  cases r with
  | cons h t =>
   obtain ⟨tk, rfl⟩ := (show ∃ t, _ = Value.int n t from h);exact .cons n tk (Zls t)
section
variable {X : Cx} {K : PySem.W.Frag}
def Zp4 (K : PySem.W.Frag) : List V -> Hp -> VK -> Prop := fun xs H Q => ∃ (p : Addr) (ns : List Int), xs = [.ref p] /\ SqL K H p (ns.map V.int) /\ ns.length < 64 /\ ∀ (ms : List Int) l G, ms.Perm ns -> ms.Pairwise (· <= ·) -> H l = none -> Same H G -> G l = some (.lst (ms.map V.int)) -> Q (.ref l) G
def Zrv (K : PySem.W.Frag) : List V -> Hp -> VK -> Prop := fun xs H Q => ∃ (p : Addr) (ns : List Int), xs = [.ref p] /\ SqL K H p (ns.map V.int) /\ (∀ x ∈ ns, -(2 ^ 62) <= x /\ x < 2 ^ 62) /\ (∀ j, j <= ns.length -> -(2 ^ 62) <= (ns.take j).sum /\ (ns.take j).sum < 2 ^ 62) /\ Q (.int ns.sum) H
end
end L2
set_option Elab.async false
set_option linter.all false
set_option maxRecDepth 100000
set_option maxHeartbeats 400000
namespace L2
open PySem PySem.Spec PyProof.Rows
section
variable {prog : Program} {w : World} {A : Around} {E : Value -> Shared -> Prop} {s : Shared}
end
def Zsn (val : Nat -> Int) : Nat -> Int
 | 0 => val 0
 | j + 1 => if val (j + 1) > Zsn val j then val (j + 1) else Zsn val j
section
variable {prog : Program} {w : World} {A : Around} {R : Result -> Shared -> Prop} {I : Addr} {fp wr : List Addr} {n : Nat} {P : Nat -> Value -> Prop} {St : Nat -> Heap -> Prop}
end
def Zqd (K : PySem.W.Frag) : V -> V -> Hp -> VK -> Prop := fun x d H Q => ∃ (p : Addr) (ns : List Int), x = .ref p /\ SqL K H p (ns.map V.int) /\ (ns = [] -> Q d H) /\ ∀ v, v ∈ ns -> (∀ y ∈ ns, y <= v) -> Q (.int v) H
def Zrn (K : PySem.W.Frag) (ta tb : TE) : TE := fun σ H Q => ta σ H fun x H1 => tb σ H1 fun d H2 => Zqd K x d H2 Q
section
variable {X : Cx} {K : PySem.W.Frag}
end
end L2
namespace L2
open PySem PySem.Spec PyProof.Rows
section
variable {X : Cx}
def Zqe : List V -> Hp -> VK -> Prop := fun xs H Q => ∃ a kvs, xs = [V.ref a] /\ H a = some (.dK kvs) /\ ∀ l G, H l = none -> Same H G -> G l = some (.lst (kvs.map fun kv => kV kv.1)) -> Q (.ref l) G
end
end L2
namespace L2
open PySem PySem.Spec PyProof.Rows
structure Bt2 (mg : Str -> Option Value) : Prop where
 sum : mg "sum" = none
 sorted : mg "sorted" = none
section
variable {X : Cx} {pos pos' : Pos} {o i value : Expr} {td ty tv : TE}
def Zpv : TE := fun _ H Q => ∀ p G, H p = none -> Same H G -> G p = some (.dK []) -> Q (.ref p) G
def Zp1 (td ty tv : TE) : TS := fun D σ H => tv σ H fun v H1 => td σ H1 fun x H2 => ty σ H2 fun y H3 => ∃ a n kvs, x = .ref a /\ y = .int n /\ H3 a = some (.dK kvs) /\ kvs.length < sizeLine /\ ∀ G, But a H3 G -> G a = some (.dK (Zrd kvs (.inl n) v)) -> D.nx σ G
def Zog : R2 := fun y x H Q => ∃ a n kvs, y = .int n /\ x = .ref a /\ H a = some (.dK kvs) /\ Q (.bl (!(valV kvs (Sum.inl n)).isSome)) H
def Zr1 : List V -> Hp -> VK -> Prop := fun xs H Q => ∃ a kvs, xs = [V.ref a] /\ H a = some (.dK kvs) /\ Q (.int kvs.length) H
end
end L2
set_option Elab.async false
set_option linter.all false
set_option maxRecDepth 100000
set_option maxHeartbeats 4000000
namespace L2
open PySem PySem.Spec PyProof.Rows
section
variable {X : Cx} {K : PySem.W.Frag}
def Zrw (K : PySem.W.Frag) : List V -> Hp -> VK -> Prop := fun xs H Q => ∃ (p : Addr) (ns : List Int), xs = [.ref p] /\ SqL K H p (ns.map V.int) /\ Q (.int ns.sum) H
def Zoe : V -> List V -> Hp -> VK -> Prop := fun x vs H Q => ∃ l xs i k y, x = .ref l /\ vs = [.int i] /\ H l = some (.lst xs) /\ -(2 ^ 63) <= i /\ i < 2 ^ 63 /\ seqIndex? i xs.length = some k /\ xs[k]? = some y /\ ∀ G, But l H G -> G l = some (.lst (xs.eraseIdx k)) -> Q y G
end
end L2
set_option Elab.async false
set_option linter.all false
set_option maxRecDepth 100000
set_option maxHeartbeats 4000000
namespace L2
open PySem PySem.Spec PyProof.Rows PySem.W
section
variable {α β : Type} {N : Nat} {lt : Nat -> Nat -> Bool}
def TOk (N : Nat) (lt : Nat -> Nat -> Bool) : KasT α -> (α -> Prop) -> Prop
 | .ret a, Q => Q a
 | .ask i j k, Q => i < N /\ j < N /\ TOk N lt (k (lt i j)) Q
end
section
variable {O : KeyOrd} {key : Nat -> O.α} {N : Nat} {p : Array Nat}
abbrev KLt (O : KeyOrd) (key : Nat -> O.α) (i j : Nat) : Bool := O.blt (key i) (key j)
end
end L2
set_option Elab.async false
set_option linter.all false
set_option maxRecDepth 100000
set_option maxHeartbeats 4000000
namespace L2
open PySem PySem.Spec PyProof.Rows PySem.W
section
variable {prog : Program} {w : World} {A : Around} {E : Value -> Shared -> Prop} {s : Shared} {O : KeyOrd} {key : Nat -> O.α} {κ : SortKind} {vs : List Value}
structure SortAsk (prog : Program) (w : World) (h : Heap) (O : KeyOrd) (key : Nat -> O.α) (κ : SortKind) (vs : List Value) : Prop where
 kind : ∀ (A : Around) (s : Shared) (Q : SortKind -> Shared -> Prop), (∀ b o, h.get? b = some o -> s.heap.get? b = some o) -> 2 <= vs.length -> Q κ s -> wpAny (model prog w) A (keyKind' vs.toArray) Q (fun _ _ => False) s
 cmp : ∀ (A : Around) (s : Shared) (i j : Nat) (C : Bool -> Shared -> Prop), (∀ b o, h.get? b = some o -> s.heap.get? b = some o) -> i < vs.length -> j < vs.length -> C (KLt O key i j) s -> kas_ask prog w A κ vs i j C s
end
section
variable {prog : Program} {w : World} {A : Around} {E : Value -> Shared -> Prop} {s : Shared}
end
section
variable {X : Cx} {K : PySem.W.Frag}
end
end L2
set_option Elab.async false
set_option linter.all false
set_option maxRecDepth 100000
set_option maxHeartbeats 4000000
namespace L2
open PySem PySem.Spec PyProof.Rows
section
variable {X : Cx} {pins : List (Addr × Obj)} {σ : St} {H : Hp} {s : Shared} {h' : Heap}
end
def Ite (K : PySem.W.Frag) (a : Addr) : It :=
 ⟨fun i H => ∃ xs x, SqL K H a xs /\ xs[i]? = some x, fun i H x H' => ∃ t y, x = .ref t /\ H t = none /\ Same H H' /\ H' t = some (.tup [.int i, y]) /\ ∀ xs, SqL K H a xs -> xs[i]? = some y, fun i H => ∃ xs, SqL K H a xs /\ xs.length <= i⟩
section
variable {X : Cx} {K : PySem.W.Frag}
def Zsi (K : PySem.W.Frag) (ta : TA) : TI := fun σ H R => ta σ H fun vs H1 => ∃ l, vs = [.ref l] /\ (∃ xs, SqL K H1 l xs) /\ R (Ite K l) H1
end
def Itz (K : PySem.W.Frag) (a b : Addr) : It :=
  ⟨fun i H => ∃ xs ys x y, SqL K H a xs /\ SqL K H b ys /\ xs[i]? = some x /\ ys[i]? = some y, fun i H x H' => ∃ t y z, x = .ref t /\ H t = none /\ Same H H' /\ H' t = some (.tup [y, z]) /\ (∀ xs, SqL K H a xs -> xs[i]? = some y) /\ (∀ ys, SqL K H b ys -> ys[i]? = some z),
   fun i H => ∃ xs ys, SqL K H a xs /\ SqL K H b ys /\ (xs.length <= i \/ ys.length <= i)⟩
section
variable {X : Cx} {K : PySem.W.Frag}
def Zth (K : PySem.W.Frag) (ta : TA) : TI := fun σ H R => ta σ H fun vs H1 => ∃ l1 l2, vs = [.ref l1, .ref l2] /\ (∃ xs, SqL K H1 l1 xs) /\ (∃ xs, SqL K H1 l2 xs) /\ R (Itz K l1 l2) H1
end
theorem Zkp {n : Nat} (f : Nat -> Int) : argBest (fun i j => decide (f i < f j)) n <= n /\ ∀ i, i <= n -> f (argBest (fun i j => decide (f i < f j)) n) <= f i := by
 induction n with
 | zero => exact ⟨by simp [argBest], fun i hi => by obtain rfl : i = 0 := (by omega); simp [argBest]⟩
 | succ n ih =>
  by_cases h : f (n + 1) < f (argBest (fun i j => decide (f i < f j)) n)
  ·have e : argBest (fun i j => decide (f i < f j)) (n + 1) = n + 1 := by simp [argBest, h]
   rw [e];refine ⟨Nat.le_refl _, fun i hi => ?_⟩
   by_cases hi' : i = n + 1
   ·subst hi'; exact Int.le_refl _
   ·have := ih.2 i (by omega); omega
  ·have e : argBest (fun i j => decide (f i < f j)) (n + 1) = argBest (fun i j => decide (f i < f j)) n := by simp [argBest, h]
   rw [e];refine ⟨by omega, fun i hi => ?_⟩
   by_cases hi' : i = n + 1
   ·subst hi'; omega
   ·exact ih.2 i (by omega)
section
variable {X : Cx} {K : PySem.W.Frag}
def Zqb (K : PySem.W.Frag) : List V -> Hp -> VK -> Prop := fun xs H Q => ∃ (p : Addr) (ns : List Int), xs = [.ref p] /\ SqL K H p (ns.map V.int) /\ ns ≠ [] /\ ∀ v, v ∈ ns -> (∀ y ∈ ns, v <= y) -> Q (.int v) H
theorem Zeo (hc : X.calm = true) (h : X.K = K) : CallR X (.builtin "min") (Zqb K) := by
 subst h;intro pins s σ H xs us Q I r hh;obtain ⟨p, ns, rfl, hq, hne, q⟩ := hh;obtain ⟨u, rfl, rx⟩ := Zhi r;cases rx;obtain ⟨its, rv, pl, hz⟩ := I.list hq;have hh : X.A.in1.handled = none := I.ok.hd hc;have hi : IntsAre its ns := Zls rv;obtain ⟨xs, hx⟩ := hi.allInts.items;have hl' : s.heap.IsList p (intItems xs) := hx ▸ pl.isList;have e1 : ns = xs.toList.map (·.1) := by
  rw [<- nums_intItems, <- hx];exact (show numsOf its.toArray.toList = ns from hi.numsOf).symm
 have hsz : xs.size = ns.length := by rw [e1]; simp
 have hpos : 0 < xs.size := by rw [hsz]; exact List.length_pos_iff.mpr hne
 refine min_intList hh hl' hpos fun v h' tk hv hk => ?_
 obtain ⟨t, rfl⟩ := intItems_at hv;obtain ⟨b1, b2⟩ := Zkp (n := xs.size - 1) (numAt xs);have hn : ∀ i (hi : i < ns.length), numAt xs i = ns[i] := fun i hi => by
  have : ns[i]? = (xs.toList.map (·.1))[i]? := by rw [<- e1]
  rw [List.getElem?_eq_getElem hi, List.getElem?_map] at this;unfold numAt;have e2 : xs[i]? = xs.toList[i]? := by simp
  rw [e2, <- this]; rfl
 refine ⟨.int _, H, I.kept (t' := tk) hk, ⟨t, rfl⟩, q _ ?_ fun y hy => ?_⟩
 ·rw [hn _ (by omega)]; exact List.getElem_mem _
 ·obtain ⟨k, hk', rfl⟩ := List.mem_iff_getElem.mp hy;rw [<- hn k hk'];exact b2 k (by omega)
end
def Zs6 (val : Nat -> Int) : Nat -> Int
 | 0 => val 0
 | j + 1 => if val (j + 1) < Zs6 val j then val (j + 1) else Zs6 val j
section
variable {prog : Program} {w : World} {A : Around} {R : Result -> Shared -> Prop} {I : Addr} {fp wr : List Addr} {n : Nat} {P : Nat -> Value -> Prop} {St : Nat -> Heap -> Prop}
end
def Zqc (K : PySem.W.Frag) : V -> V -> Hp -> VK -> Prop := fun x d H Q => ∃ (p : Addr) (ns : List Int), x = .ref p /\ SqL K H p (ns.map V.int) /\ (ns = [] -> Q d H) /\ ∀ v, v ∈ ns -> (∀ y ∈ ns, v <= y) -> Q (.int v) H
def Zrl (K : PySem.W.Frag) (ta tb : TE) : TE := fun σ H Q => ta σ H fun x H1 => tb σ H1 fun d H2 => Zqc K x d H2 Q
section
variable {X : Cx} {K : PySem.W.Frag}
end
section
variable {caps : List (Option Nat)} {g : TG} {tc : TT} {te : TE}
end
structure Bt3 (mg : Str -> Option Value) : Prop where
 enumerate : mg "enumerate" = none
 zip : mg "zip" = none
end L2
set_option Elab.async false
set_option linter.all false
set_option maxRecDepth 100000
set_option maxHeartbeats 4000000
namespace L2
open PySem PySem.Spec PyProof.Rows
def Ztn (lo st : Int) (n : Nat) : It := ⟨fun i _ => i < n, fun i H x H' => H' = H /\ x = .int (lo + i * st), fun i _ => n <= i⟩
def rsz (i j c : Int) : Nat := (Builtin.Range.rangeSize i j c).toNat
section
variable {X : Cx} {tg : Expr}
def Zsg (ta : TA) : TI := fun σ H R => ta σ H fun vs H1 => ∃ i j c : Int, vs = [.int i, .int j, .int c] /\ (-(2 ^ 30) <= i /\ i < 2 ^ 30 /\ -(2 ^ 30) <= j /\ j < 2 ^ 30 /\ 0 < c /\ c < 2 ^ 20) /\ R (Ztn i c (rsz i j c)) H1
end
section
variable {caps : List (Option Nat)} {g : TG} {tc : TT} {te : TE}
end
section
variable {X : Cx}
def Zpu (n m : Int) : TE := fun _ H Q => ∀ p G, H p = none -> Same H G -> G p = some (.dK [(.inl n, .int m)]) -> Q (.ref p) G
end
end L2
set_option Elab.async false
set_option linter.all false
set_option maxRecDepth 100000
set_option maxHeartbeats 4000000
namespace L2
open PySem PySem.Spec PyProof.Rows
open Sem (wp)
open AutoSeq1 (wpAny_loadPart')
section
variable {prog : Program} {w : World} {A : Around} {E : Value -> Shared -> Prop} {s : Shared}
end
section
variable {prog : Program} {w : World} {A : Around} {E : Value -> Shared -> Prop} {s : Shared}
end
def Itn (K : PySem.W.Frag) (a : Addr) (c : Int) : It :=
 ⟨fun i H => ∃ xs x, SqL K H a xs /\ xs[i]? = some x, fun i H x H' => ∃ t y, x = .ref t /\ H t = none /\ Same H H' /\ H' t = some (.tup [.int (c + i), y]) /\ ∀ xs, SqL K H a xs -> xs[i]? = some y, fun i H => ∃ xs, SqL K H a xs /\ xs.length <= i⟩
section
variable {M : Model} {A : Around} {E : Value -> Shared -> Prop} {s : Shared} {env : Env}
end
section
variable {X : Cx} {K : PySem.W.Frag}
def Zq7 (K : PySem.W.Frag) (ta tb : TE) : TI := fun σ H R => ta σ H fun x H1 => tb σ H1 fun y H2 => ∃ l c, x = .ref l /\ y = .int c /\ -(2 ^ 62) <= c /\ c < 2 ^ 62 /\ (∃ xs, SqL K H2 l xs) /\ R (Itn K l c) H2
end
section
variable {X : Cx} {K : PySem.W.Frag}
def Znk (K : PySem.W.Frag) : R2 := fun x y H Q => ∃ a b xs, x = .ref a /\ y = .ref b /\ SqL K H a xs /\ SqL K H b [] /\ Q (.bl (decide (xs.length = 0))) H
theorem Zmy (hu : X.A.units + 64 < cLine) (h : X.K = K) : OpR X (compareOp .Eq) (Znk K) := by
 subst h;intro pins s σ H x y v u Q I rx ry h;obtain ⟨a, b, xs, rfl, rfl, h1, h2, q⟩ := h;cases rx;cases ry;obtain ⟨its, rv, p, hz⟩ := I.list h1;obtain ⟨its2, rv2, p2, hz2⟩ := I.list h2;cases rv2;have hl := rv.length
 by_cases h0 : xs.length = 0
 ·refine PySem.SeqAt.eq_listAt (e := fun _ => true) p.isList p2.isList (by rw [List.size_toArray, List.size_toArray, <- hl, h0]; rfl) (Nat.lt_of_le_of_lt (Nat.le_add_right _ 64) hu) ?_ ?_
  ·intro j h1;rw [List.size_toArray] at h1;omega
  ·have e0 : its.toArray.size = 0 := by rw [List.size_toArray]; omega
   rw [e0];rw [decide_eq_true h0] at q;exact Za6 I q rfl
 ·refine PySem.SeqAt.eq_list_lengthsAt p.isList p2.isList (by rw [List.size_toArray, List.size_toArray, <- hl]; simp; exact fun z => h0 (by rw [z]; rfl)) (Nat.lt_of_le_of_lt (Nat.le_add_right _ 64) hu) ?_;rw [decide_eq_false h0] at q;exact Za6 I q rfl
def Zte : R2 := fun y x H Q => ∃ a n kvs, y = .int n /\ x = .ref a /\ H a = some (.dK kvs) /\ Q (.bl (valV kvs (Sum.inl n)).isSome) H
end
end L2
set_option Elab.async false
set_option linter.all false
set_option maxRecDepth 100000
namespace L2
open PySem PySem.Spec PyProof.Rows
section
variable {X : Cx} {pos pos' p0 : Pos} {o i value : Expr} {td ty tv tz : TE}
def Zp0 (td ty tv : TE) : TS := fun D σ H => tv σ H fun v H1 => td σ H1 fun x H2 => ty σ H2 fun y H3 => ∃ a n kvs, x = .ref a /\ y = .str n /\ H3 a = some (.dK kvs) /\ kvs.length < sizeLine /\ ∀ G, But a H3 G -> G a = some (.dK (Zrd kvs (.inr n) v)) -> D.nx σ G
def Zr8 : R2 := fun y x H Q => ∃ a n kvs, y = .str n /\ x = .ref a /\ H a = some (.dK kvs) /\ Q (.bl (valV kvs (Sum.inr n)).isSome) H
def Zqh : V -> List V -> Hp -> VK -> Prop := fun x vs H Q => ∃ a n kvs z, x = .ref a /\ vs = [.int n, z] /\ H a = some (.dK kvs) /\ Q ((valV kvs (Sum.inl n)).getD z) H
end
section
variable {X : Cx} {K : PySem.W.Frag}
def Zr0 (K : PySem.W.Frag) : List V -> Hp -> VK -> Prop := fun xs H Q => ∃ (p : Addr) (ns : List Int), xs = [.ref p] /\ SqL K H p (ns.map V.int) /\ ns ≠ [] /\ ∀ v, v ∈ ns -> (∀ y ∈ ns, y <= v) -> Q (.int v) H
end
def Zr6 (K : PySem.W.Frag) : List V -> Hp -> VK -> Prop := fun xs H Q => ∃ a C1 C2 dx fs b, xs = [.ref a, .ref C2] /\ H a = some (.ins C1 dx fs) /\ Cls K C1 /\ Ztp K C1 /\ PySem.W.kitOne K (.ref C1) (.ref C2) = some b /\ Q (.bl b) H
end L2
set_option Elab.async false
set_option linter.all false
namespace L2
open PySem PySem.Spec PyProof.Rows
section
variable {X : Cx} {K : PySem.W.Frag}
def Zof (K : PySem.W.Frag) : R2 := fun x y H Q => ∃ (a b : Addr) (xs : List Addr), x = .ref a /\ y = .ref b /\ SqL K H a (xs.map V.ref) /\ SqL K H b (xs.map V.ref) /\ Q (.bl false) H
end
end L2
set_option Elab.async false
set_option linter.all false
namespace L2
open PySem PySem.Spec PyProof.Rows
section
variable {rest es : List Expr} {env : Env} {pos : Pos} {a b c : Expr}
theorem Zml {k : Nat} : starEach (.Tuple es k pos :: rest) env = (false, eval (.Tuple es k pos) env) :: starEach rest env := rfl
theorem Zfh : starEach (.List es pos :: rest) env = (false, eval (.List es pos) env) :: starEach rest env := rfl
theorem Zac {v : Const} {k : Nat} : starEach (.Constant v k pos :: rest) env = (false, eval (.Constant v k pos) env) :: starEach rest env := rfl
theorem Zab {x : Str} : starEach (.Name x pos :: rest) env = (false, eval (.Name x pos) env) :: starEach rest env := rfl
theorem Zcb {o : Operator} : starEach (.BinOp a o b pos :: rest) env = (false, eval (.BinOp a o b pos) env) :: starEach rest env := rfl
theorem Za1 {ks : List Keyword} : starEach (.Call a es ks pos :: rest) env = (false, eval (.Call a es ks pos) env) :: starEach rest env := rfl
theorem Zaq {x : Str} : starEach (.Attribute a x pos :: rest) env = (false, eval (.Attribute a x pos) env) :: starEach rest env := rfl
theorem Zbd : starEach (.Subscript a b pos :: rest) env = (false, eval (.Subscript a b pos) env) :: starEach rest env := rfl
theorem Zdy {os : List CmpOp} : starEach (.Compare a os es pos :: rest) env = (false, eval (.Compare a os es pos) env) :: starEach rest env := rfl
theorem Zd4 {gs : List Comprehension} {sc : Scope} : starEach (.ListComp a gs sc pos :: rest) env = (false, eval (.ListComp a gs sc pos) env) :: starEach rest env := rfl
theorem Zes {o : UnaryOp} : starEach (.UnaryOp o a pos :: rest) env = (false, eval (.UnaryOp o a pos) env) :: starEach rest env := rfl
theorem Zca {ar : Arguments} {sc : Scope} : starEach (.Lambda ar a sc pos :: rest) env = (false, eval (.Lambda ar a sc pos) env) :: starEach rest env := rfl
end
end L2
set_option Elab.async false
set_option linter.all false
set_option maxRecDepth 100000
set_option maxHeartbeats 4000000
namespace L2
open PySem PySem.Spec PyProof.Rows
section
variable {prog : Program} {w : World} {J : Type} [DecidableEq J] {knd : HeapKind prog w J} {A : Around} {E : Value -> Shared -> Prop} {s : Shared} {d a : Addr} {k : J} {xs : List (J × Addr × Value)}
def Zse {β : Type} (xs : List (J × β)) (k : J) : List (J × β) := xs.filter fun x => !decide (x.1 = k)
end
section
variable {prog : Program} {w : World} {J : Type} [DecidableEq J] {knd : HeapKind prog w J} {d a : Addr}
end
section
variable {X : Cx} {K : PySem.W.Frag}
def Zod : V -> List V -> Hp -> VK -> Prop := fun x vs H Q => ∃ (a b : Addr) (k : List Key) (kvs : List (List Key × V)) (z : V), x = .ref a /\ vs = [.ref b, z] /\ H a = some (.dT kvs) /\ H b = some (.tup (k.map kV)) /\ kvs.length < sizeLine /\
 (∀ v, valV kvs k = some v -> Q v H) /\ (valV kvs k = none -> ∀ G, But a H G -> G a = some (.dT (kvs ++ [(k, z)])) -> Q z G)
def Zry : V -> List V -> Hp -> VK -> Prop := fun x vs H Q => ∃ (a b : Addr) (k : List Key) (kvs : List (List Key × V)) (v : V), x = .ref a /\ vs = [.ref b] /\ H a = some (.dT kvs) /\ H b = some (.tup (k.map kV)) /\ valV kvs k = some v /\
 ∀ G, But a H G -> G a = some (.dT (Zse kvs k)) -> Q v G
end
end L2
set_option Elab.async false
set_option linter.all false
set_option maxRecDepth 100000
set_option maxHeartbeats 4000000
namespace L2
open PySem PySem.Spec PyProof.Rows
section
variable {X : Cx} {pins : List (Addr × Obj)} {σ : St} {H : Hp} {s : Shared} {d : Addr} {u0 u1 : HO}
end
section
variable {prog : Program} {w : World} {A : Around} {E : Value -> Shared -> Prop} {s : Shared} {d it : Addr} {o : Obj} {es : Array DictEntry} {ep i n : Nat}
end
section
variable {X : Cx} {K : PySem.W.Frag}
end
section
variable {caps : List (Option Nat)} {g : TG} {tc : TT} {te td : TE} {d : Addr} {kvs : List (List Key × V)} {σ : St} {H : Hp} {Q : VK}
end
section
variable {X : Cx} {pos pos' p0 : Pos} {o i value : Expr} {td ty tv tz : TE}
def Zpz (td ty tv : TE) : TS := fun D σ H => tv σ H fun v H1 => td σ H1 fun x H2 => ty σ H2 fun y H3 => ∃ (a b : Addr) (k : List Key) (kvs : List (List Key × V)), x = .ref a /\ y = .ref b /\ H3 a = some (.dT kvs) /\ H3 b = some (.tup (k.map kV)) /\ kvs.length < sizeLine /\ ∀ G, But a H3 G -> G a = some (.dT (Zrd kvs k v)) -> D.nx σ G
def Zr7 : R2 := fun y x H Q => ∃ (a b : Addr) (k : List Key) (kvs : List (List Key × V)), y = .ref b /\ x = .ref a /\ Rd H a (.dT kvs) /\ H b = some (.tup (k.map kV)) /\ Q (.bl (valV kvs k).isSome) H
def Zmu : R2 := fun y x H Q => ∃ (a b : Addr) (k : List Key) (kvs : List (List Key × V)), y = .ref b /\ x = .ref a /\ Rd H a (.dT kvs) /\ H b = some (.tup (k.map kV)) /\ Q (.bl (!(valV kvs k).isSome)) H
def Zn5 : TE := fun _ H Q => ∀ p G, H p = none -> Same H G -> G p = some (.dT []) -> Q (.ref p) G
end
section
variable {X : Cx}
end
end L2
set_option Elab.async false
set_option linter.all false
set_option maxRecDepth 100000
set_option maxHeartbeats 4000000
namespace L2
open PySem PySem.Spec PyProof.Rows PySem.W
section
variable {X : Cx} {K : PySem.W.Frag}
def Zqa (K : PySem.W.Frag) : R2 := fun x y H Q => ∃ a b xs, x = .ref a /\ y = .ref b /\ SqL K H a xs /\ SqL K H b [] /\ Q (.bl (!decide (xs.length = 0))) H
def Zp5 : List V -> Hp -> VK -> Prop := fun xs H Q => ∃ a, xs = [V.ref a] /\ H a = some (.dT []) /\ ∀ l G, H l = none -> Same H G -> G l = some (.lst []) -> Q (.ref l) G
end
end L2
set_option Elab.async false
set_option linter.all false
set_option maxRecDepth 100000
set_option maxHeartbeats 4000000
namespace L2
open PySem PySem.Spec PyProof.Rows
theorem ObjOk.there {P : Program} {w : World} {H : Hp} {h : Heap} {a : Addr} {o : HO} (x : ObjOk P w H h a o) : ∃ ob, h.get? a = some ob := by
 cases o with
 | lst xs => obtain ⟨_, _, _, _, e⟩ := x; exact ⟨_, e⟩
 | tup xs => obtain ⟨_, _, _, ob, e, _⟩ := x; exact ⟨_, e⟩
 | dK kvs => obtain ⟨_, _, _, _, o, _, _, e, _⟩ := x; exact ⟨_, e⟩
 | dT kvs => obtain ⟨_, _, _, _, o, _, _, e, _⟩ := x; exact ⟨_, e⟩
 | set S n => obtain ⟨o, _, _, _, e, _⟩ := x; exact ⟨_, e⟩
 | ins C dx fs => obtain ⟨_, _, _, e, _⟩ := x; exact ⟨_, e⟩
 | own y => obtain ⟨_, e⟩ := x; exact ⟨_, e⟩
 | xd fs => obtain ⟨_, ⟨_, _, _, e, _⟩, _⟩ := x; exact ⟨_, e⟩
 | rng lo hi => obtain ⟨_, _, _, e⟩ := x; exact ⟨_, e⟩
 | frz ob u => obtain ⟨e, _⟩ := x; exact ⟨_, e⟩
 | tbl ps => exact ⟨_, show h.get? a = some _ from x⟩
 | met f y => exact ⟨_, show h.get? a = some _ from x⟩
 | ext φ => obtain ⟨_, ⟨_, e⟩, _⟩ := x; exact ⟨_, e⟩
structure Flew (P : Program) (w : World) (outer : List Env) (H : Hp) (s : Shared) (a C : Addr) (t : Value) (B : Heap) (H' : Hp) (s' : Shared) : Prop where
 os : s'.os = s.os
 bare : AllBare s'.gens
 fly : Heap.FlyingW B outer a (.ref C) t s'.heap
 hok : HOk P w H' B
 un : Un (frs outer) [] H H' s.heap s'.heap
 keepB : ∀ b o, s.heap.get? b = some o -> b ∉ frs outer -> H b = none -> B.get? b = some o
 thereB : ∀ b o, s.heap.get? b = some o -> b ∉ frs outer -> ∃ o', B.get? b = some o'
def CXx (P : Program) (w : World) : CXT := fun outer H s E e s' => ∃ (a C : Addr) (t : Value) (B : Heap) (H' : Hp), e = .ref a /\ Flew P w outer H s a C t B H' s' /\ E (.ref C) none H'
structure Zii (X : Cx) (E : XK) : Prop where
 stk : X.stack = X.env :: X.outer
 fr : X.env.frame = some X.env.locals
 ex : X.ex = []
 xe : ∀ e s, wpAny (model X.prog X.w) X.A (leaving X.env e) (fun _ s'' => CXx X.prog X.w X.outer X.H₀ X.s₀ E e s'') (fun e' s'' => CXx X.prog X.w X.outer X.H₀ X.s₀ E e' s'') s -> X.xe e s
section
variable {X : Cx} {pins : List (Addr × Obj)} {σ : St} {H : Hp} {s : Shared} {E E1 : XK}
theorem Zha (L : X.stack = X.env :: X.outer) (fr : X.env.frame = some X.env.locals) {b : Addr} : b ∈ frs X.stack ↔ b = X.env.locals \/ b ∈ frs X.outer := by
 rw [L]; unfold frs; simp [fr]
theorem Zms (I : Inv X pins σ H s) (L : Zii X E) {h1 : Heap} {e C : Addr} {args : List Value} {tk : Nat} (hx : Heap.MadeExcOf s.heap h1 e (.ref C) args) (hE : E (.ref C) none H) : X.xe (.ref e) { s with heap := h1, toks := tk } := by
 refine L.xe _ _ ?_;have hne : ∀ b o, X.s₀.heap.get? b = some o -> b ∉ frs X.outer -> b ∉ frs X.stack := fun b o q hb hm => by
  rcases (Zha L.stk L.fr).mp hm with rfl | hm
  ·exact absurd (Nat.lt_of_lt_of_le (Heap.lt_size q) I.ok.above) (Nat.lt_irrefl _)
  ·exact hb hm
 have nex : ∀ b, b ∉ X.ex := fun b => by rw [L.ex]; simp
 have hin : ∀ env ∈ X.stack, ∀ a, env.frame = some a -> a ∈ frs X.stack := fun env he a ha => List.mem_filterMap.mpr ⟨env, he, ha⟩
 have hff : s.heap.FunFrames (PySem.W.hideAll s.heap (frs X.stack)) (X.env :: X.outer) := L.stk ▸ PySem.W.funFrames_hide I.stack hin;refine wpAny_leaves_madeW (base := PySem.W.hideAll s.heap (frs X.stack)) (h := s.heap) (L := X.env.locals) (s := { s with heap := h1, toks := tk }) (L.stk ▸ I.ok.frames) L.fr (fun b o q => PySem.W.of_hideAll _ q) hff hx fun h' t fl _ _ sm => ?_
 have sm' : s.heap.UpToSlots h' := (Heap.UpToSlots.of_keeps hx.keeps).trans sm;have hB : ∀ b o, s.heap.get? b = some o -> b ∉ frs X.stack -> (PySem.W.hideAll s.heap (frs X.stack)).get? b = some o := fun b o q hb => PySem.W.hideAll_get _ q hb
 have nf : ∀ b o, b ∈ frs X.stack -> s.heap.get? b = some o -> ∀ vs, o.data ≠ .fields vs := fun b o hb q => by
  obtain ⟨_, o', q', z⟩ := I.stack.mem hb;rw [q] at q'; cases q'; exact z
 refine ⟨e, C, .ref t, _, H, rfl, ⟨I.os, I.bare, fl, fun a o q => ?_, ⟨fun b o q n hb _ => ?_, fun b o q n hb _ => ?_, fun b o q n _ => I.base.free b o q n (nex b), fun b o q _ => ?_, I.base.tups, I.base.frzs, I.base.tbls⟩, fun b o q hb n => ?_, fun b o q hb => ?_⟩, hE⟩
 ·refine (I.hok a o q).stay (fun b u hb z => hB b u z fun hm => ?_) (fun _ z => z) fun _ _ z => z
  have hn := I.stkFree b hm;rcases hb with rfl | hb
  ·rw [hn] at q; cases q
  ·rw [hn] at hb; cases hb
 ·exact fl.1 b o (hB b o (I.base.keep b o q n hb (nex b)) (hne b o q hb))
 ·obtain ⟨sl, z⟩ := I.base.slot b o q n hb (nex b);obtain ⟨sl', z'⟩ := sm' b _ z (nf b _ ((Zha L.stk L.fr).mpr (.inr hb)) z);exact ⟨sl', z'⟩
 ·obtain ⟨o', z⟩ := I.base.there b o q (nex b)
  by_cases hb : b ∈ frs X.stack
  ·obtain ⟨sl', z'⟩ := sm' b _ z (nf b _ hb z);exact ⟨_, z'⟩
  ·exact ⟨o', fl.1 b o' (hB b o' z hb)⟩
 ·exact hB b o (I.base.keep b o q n hb (nex b)) (hne b o q hb)
 ·obtain ⟨o', z⟩ := I.base.there b o q (nex b);exact ⟨o', hB b o' z (hne b o q hb)⟩
theorem Zbu (L : Zii X E) (hE : ∀ C H', E1 (.ref C) none H' -> E (.ref C) none H') : Zfy (CXx X.prog X.w) X E1 := by
 intro pins σ H s e s' I c;obtain ⟨a, C, t, B, H', rfl, F, hq⟩ := c;refine L.xe _ _ ?_;have hne : ∀ b o, X.s₀.heap.get? b = some o -> b ∉ frs X.outer -> b ∉ frs X.stack := fun b o q hb hm => by
  rcases (Zha L.stk L.fr).mp hm with rfl | hm
  ·exact absurd (Nat.lt_of_lt_of_le (Heap.lt_size q) I.ok.above) (Nat.lt_irrefl _)
  ·exact hb hm
 have nex : ∀ b, b ∉ X.ex := fun b => by rw [L.ex]; simp
 refine wpAny_leaves_onW (base := B) (L := X.env.locals) (L.stk ▸ I.ok.frames) L.fr (L.stk ▸ F.fly) fun h' fl sm => ?_
 have nf : ∀ b o, b ∈ frs X.stack -> s'.heap.get? b = some o -> ∀ vs, o.data ≠ .fields vs := fun b o hb q => by
  obtain ⟨_, o', q', z⟩ := F.fly.2.2.1.mem hb;rw [q] at q'; cases q'; exact z
 refine ⟨a, C, t, B, H', rfl, ⟨F.os.trans I.os, F.bare, fl, F.hok, ⟨fun b o q n hb _ => ?_, fun b o q n hb _ => ?_, fun b o q n _ => ?_, fun b o q _ => ?_, fun b xs z => F.un.tups b xs (I.base.tups b xs z), fun b ob xs z => F.un.frzs b ob xs (I.base.frzs b ob xs z), fun b ps z => ?_⟩, fun b o q hb n => ?_, fun b o q hb => ?_⟩, hE C H' hq⟩
 ·exact fl.1 b o (F.keepB b o (I.base.keep b o q n hb (nex b)) (hne b o q hb) (I.base.free b o q n (nex b)))
 ·obtain ⟨sl, z⟩ := I.base.slot b o q n hb (nex b);have hs : b ∈ frs X.stack := (Zha L.stk L.fr).mpr (.inr hb);obtain ⟨sl1, z1⟩ := F.un.slot b _ z (I.base.free b o q n (nex b)) hs (by simp);obtain ⟨sl2, z2⟩ := sm b _ z1 (nf b _ hs z1);exact ⟨sl2, z2⟩
 ·obtain ⟨o', z⟩ := I.base.there b o q (nex b);exact F.un.free b o' z (I.base.free b o q n (nex b)) (by simp)
 ·obtain ⟨o', z⟩ := I.base.there b o q (nex b);obtain ⟨o1, z1⟩ := F.un.there b o' z (by simp)
  by_cases hb : b ∈ frs X.stack
  ·obtain ⟨sl', z'⟩ := sm b _ z1 (nf b _ hb z1);exact ⟨_, z'⟩
  ·obtain ⟨o2, z2⟩ := F.thereB b o' z hb;exact ⟨o2, fl.1 b o2 z2⟩
 ·obtain ⟨m1, e1⟩ := I.base.tbls b ps z;obtain ⟨m2, e2⟩ := F.un.tbls b _ e1;exact ⟨m1 ++ m2, by rw [e2, Array.append_assoc]⟩
 ·exact F.keepB b o (I.base.keep b o q n hb (nex b)) (hne b o q hb) (I.base.free b o q n (nex b))
 ·obtain ⟨o', z⟩ := I.base.there b o q (nex b);exact F.thereB b o' z (hne b o q hb)
end
theorem Zbh {P : Program} {w : World} {K : PySem.W.Frag} {mg : Str -> Option Value} {base : Heap} {N : List Str} {qual : Str} {scope : Scope} {f : Addr} {cd : Value} {A : Around} {outer : List Env} {s : Shared} {H : Hp} {E : XK} :
  Zii (cxOf (CXx P w) P w K mg base N qual scope f cd A outer s H E) E := ⟨rfl, rfl, rfl, fun _ _ h => h⟩
end L2
set_option Elab.async false
set_option linter.all false
set_option maxRecDepth 100000
set_option maxHeartbeats 4000000
namespace L2
open PySem PySem.Spec PyProof.Rows
structure FnX (P : Program) (w : World) (K : PySem.W.Frag) (mg : Str -> Option Value) (base : Heap) (x : Str) (k : Nat) (ps : List Str) (dvs : List V) (sp : Sp) : Prop where
 ex : ∃ (f : Addr) (fd : FuncData) (ds : List Value), FnOk P w K mg base (CXx P w) k f fd ps sp /\ mg x = some (.ref f) /\ PySem.W.keepIn K (.ref f) = true /\ Binds K fd ps ds /\ Vals dvs ds
structure CtX (P : Program) (w : World) (K : PySem.W.Frag) (mg : Str -> Option Value) (base : Heap) (x : Str) (k : Nat) (sp : Sp) : Prop where
 ex : ∃ (f C : Addr) (fd : FuncData) (ds : List Value) (dvs : List V) (ps : List Str) (sp0 : Sp), FnOk P w K mg base (CXx P w) k f fd ps sp0 /\ mg x = some (.ref C) /\ Mk K C f /\ Binds K fd ps ds /\ Vals dvs ds /\
  ∀ vs H Q E, sp vs H Q E -> ∀ y dx G, H y = none -> H dx = none -> dx ≠ y -> Same H G -> G y = some (.ins C dx []) -> sp0 (.ref y :: (vs ++ dvs)) G (fun v H2 => v = .non /\ Q (.ref y) H2) E
section
variable {X : Cx} {k : Nat} {ps : List Str} {sp : Sp} {dvs : List V} {x : Str} {p pos : Pos} {e : Expr} {es : List Expr} {t : TA} {E : XK}
theorem Zav (F : FnX X.prog X.w X.K X.mg X.base x k ps dvs sp) (hr : Room k X.A) (hg : Gl X x) (hx : Zfy (CXx X.prog X.w) X E) (ha : PA X (e :: es) t) (hdb : (x == ("__debug__" : Str)) = false := by decide)
  (he : starEach (e :: es) X.env = (false, eval e X.env) :: starEach es X.env := by rfl) (hpl : (backTo pos (starEach es X.env)).any (·.1) = false := by rfl) : PE X (.Call (.Name x p) (e :: es) [] pos) (Zk5 sp dvs E t) := by
 obtain ⟨f, fd, ds, G, hm, hk, hb, hd⟩ := F.ex;exact Zlh G hr hg hm hk hb hd hx ha hdb he hpl
end
section
variable {P : Program} {w : World} {K : PySem.W.Frag} {mg : Str -> Option Value} {base : Heap}
theorem Fun.okX {x qual : Str} {st : Stmt} {f : Addr} {fd : FuncData} {N ps : List Str} {k : Nat} {sp : Sp} (F : Fun K x qual st f fd) (S : Zao N ps (defScope st)) (len : ∀ vs H Q E, sp vs H Q E -> vs.length = ps.length)
  (hbody : ∀ (cdv : Value) (A : Around) (outer : List Env) (s : Shared) (H : Hp) (vs : List V) (Q : VK) (E : XK), Room k (A.deeper (envOfC qual (defScope st) s.heap.objs.size f cdv)) -> sp vs H Q E ->
   ∃ t, PSs (cxOf (CXx P w) P w K mg base N qual (defScope st) f cdv A outer s H E) (defBody st) t /\ t { nx := fun _ H' => Q .non H', rt := Q } (start N vs) H) : FnOk P w K mg base (CXx P w) (k + 1) f fd ps sp := by
 obtain ⟨oc, od, kV, doc, pm, an, cdv, ct, osl, rfl, lk, hcd⟩ := F.ex;exact Zlz lk hcd S len fun A outer s H vs Q E hr hsp => hbody cdv A outer s H vs Q E hr hsp
end
abbrev Zqv : List Value := [.type "ValueError", .type "Exception", .type "BaseException", .type "object"]
structure XC (K : PySem.W.Frag) (mg : Str -> Option Value) (x : Str) (C : Addr) : Prop where
 m : mg x = some (.ref C)
 exc : PySem.W.excIn K C Zqv "ValueError.__new__" = true
theorem XC.obj {K : PySem.W.Frag} {mg : Str -> Option Value} {x : Str} {C : Addr} (c : XC K mg x C) {h : Heap} (X : K.In h) :
  ∃ bm N nm q bs hdct sn sub ab col dd k0 k1 k2 k3 k5 mN, h.get? C = some (excClassObj nm q C N bs bm hdct sn sub ab col dd k0 k1 k2 k3 k5 "ValueError.__new__") /\ h.Ns N mN /\ mN "__init__" = none /\ OwnTail h Zqv bm := by
 have q := c.exc;unfold PySem.W.excIn at q
 split at q
 ·rename_i dd cd sl ho
  split at q
  ·rename_i C' bm k0 k1 k2 k3 n k5 hm hs
   rw [Bool.and_eq_true, Bool.and_eq_true, Bool.and_eq_true, Bool.and_eq_true, Bool.and_eq_true, beq_iff_eq, beq_iff_eq, beq_iff_eq, Bool.not_eq_true'] at q;obtain ⟨⟨⟨⟨⟨rfl, rfl⟩, hdel⟩, ht⟩, hok⟩, hni⟩ := q;obtain ⟨nm, bs, mro, ns, qn, hd, sn, sub, ab, col, del⟩ := cd;have hm : mro = .ref C' :: bm := hm;have hdel : del = false := hdel;subst hm hdel;obtain rfl : sl = #[k0, k1, k2, k3, some (.builtin "ValueError.__new__"), k5] := by
    rw [<- Array.toList_inj]; exact hs
   exact ⟨bm, ns, nm, qn, bs, hd, sn, sub, ab, col, dd, k0, k1, k2, k3, k5, _, X _ _ ho, .of_isNs (PySem.W.isNs_of_in X hok), PySem.W.nsMap_none_of_in X hok hni, PySem.W.tail_of_in X ht⟩
  ·cases q
 ·cases q
def Znd (te : TE) (C : Addr) (E : XK) : TS := fun _ σ H => te σ H fun _ H1 => E (.ref C) none H1
theorem Zfe {X : Cx} {E : XK} {x : Str} {C : Addr} {e : Expr} {te : TE} {np cpos pos : Pos} (L : Zii X E) (hc : X.calm = true) (hg : Gl X x) (c : XC X.K X.mg x C) (ha : PE X e te) (hdb : (x == ("__debug__" : Str)) = false := by decide)
  (he : starEach [e] X.env = [(false, eval e X.env)] := by rfl) : PS X (.Raise (some (.Call (.Name x np) [e] [] cpos)) none pos) (Znd te C E) := by
 intro pins s σ H D I h;obtain ⟨tl, N, nm, q, bs, hdct, sn, sub, ab, col, dd, k0, k1, k2, k3, k5, mN, hC, hN, hni, T⟩ := c.obj I.ok.mod.kin;refine wpAny_Raise_call_subT (C := C) (nm := nm) (q := q) (N := N) (bs := bs) (bm := tl) (hdct := hdct) (sn := sn) (sub := sub) (ab := ab) (col := col) (dd := dd) (k0 := k0) (k1 := k1) (k2 := k2) (k3 := k3) (k5 := k5)
  PySem.F.excBase_ValueError (mN := mN) (T.hasType PySem.F.excBase_ValueError.hasBase) (I.ok.hd hc) (by rw [he]; rfl) hni (Zef I hg c.m ⟨rfl, ?_⟩ hdb)
 rw [he];refine Calls.evalArgs_plain (Calls.spliced_cons (thn (ha pins s σ H _ I h) fun u s1 ⟨y, H1, I1, ry, q1⟩ => Calls.spliced_nil ⟨rfl, ?_⟩));refine ⟨Zaj (by show 1 <= 100000; decide), I1.bk _ _ hC, hN.keeps I1.bk, T.keeps I1.bk, fun h' e hm => ?_⟩;exact Zms (tk := s1.toks) I1 L hm q1
end L2
set_option Elab.async false
set_option linter.all false
set_option maxRecDepth 100000
set_option maxHeartbeats 4000000
namespace L2
open PySem PySem.Spec PyProof.Rows PySem.Builtin PySem.Builtin.ObjectAttr PySem.Builtin.Getset_descriptor
structure Zmd (K : PySem.W.Frag) (C : Addr) : Prop where
 ga : PySem.W.findIn K (.ref C) "__getattribute__" = some (some (.builtin "BaseException.__getattribute__"))
 gt : PySem.W.findIn K (.ref C) "__getattr__" = some none
 cl : PySem.W.findIn K (.ref C) "__class__" = some (some (.builtin "object.__class__"))
 ob : PySem.W.mroIn K C (.type "object") = some true
 bs : PySem.W.mroIn K C (.type "BaseException") = some true
section
variable {prog : Program} {w : World} {A : Around} {E : Value -> Shared -> Prop} {h : Heap} {g : Array GenState} {d : Drawn} {t : Nat} {os : OsState} {a C : Addr} {o : Obj} {K : PySem.W.Frag}
theorem Zep {M : Model} (hx : h.get? a = some o) (hc : o.cls = .ref C) : PySem.W.Looks M h (typeOf (.ref a)) (.ref C) := hc ▸ (PySem.W.Looks.ld hx).andThen .now
theorem Zpe {R : Result -> Shared -> Prop} (X : K.In h) (c : Zmd K C) (hx : h.get? a = some o) (hc : o.cls = .ref C) (hq : R (.ok (.ret (.ref C))) ⟨h, g, d, t, os⟩) :
  codeAny (model prog w) A (.call (.builtin "getset_descriptor.__get__") ⟨[.builtin "object.__class__", .ref a, .ref C], []⟩) R ⟨h, g, d, t, os⟩ := by
 have La := Zep (M := model prog w) hx hc; have Lb := PySem.W.looks_mroIn (M := model prog w) X c.ob;refine codeAny_call_builtin PySem.W.KF.slot_gs.plain PySem.W.KF.entry_gs (PySem.W.KF.slot_gs.check _ _ _ _ _ _ _ _ PySem.W.KF.type_class (PySem.W.KF.args_gs _ _ _) ?_);unfold Builtin.«getset_descriptor.__get__» descrGet; rw [PySem.W.dga_obj]; refine wpAny_bind (wpAny_pure ?_);unfold descrGetter descrCheckInstance descrNameAndClass isInstance; simp only [PySem.W.KF.owner_class]
 repeat lk
 refine ⟨Code.quiet_builtin _ (by decide +kernel), codeAny_builtin PySem.W.KF.entry_class ?_⟩; unfold Builtin.«object.__class__» shownTypeOf
 repeat lk
 exact hq
theorem Zmh {tk : Tok} {Q : Fin -> Shared -> Prop} (X : K.In h) (c : Zmd K C) (hx : h.get? a = some o) (hc : o.cls = .ref C) (hq : Q (.done (.ret (.ref C))) ⟨h, g, d, t, os⟩) :
  wpAny (model prog w) A (Builtin.«object.__getattribute__» ⟨[.ref a, .str "__class__" tk], []⟩) Q E ⟨h, g, d, t, os⟩ := by
 have La := Zep (M := model prog w) hx hc; have Lb := PySem.W.looks_findIn (M := model prog w) X c.cl;have f5 := F.typeOf_object_class; have f6 := F.slot_gs_get.lookup; have f7 := F.slot_gs_set.lookup;have hT5 : (⟨h, g, d, t, os⟩ : Shared).TypeIs (.builtin "object.__class__") "getset_descriptor" := F.typeOf_object_class
 repeat (any_goals (first | assumption | with_reducible refine La.at ?_ | with_reducible refine Lb.at ?_ | wp_step))
 refine Zpe X c hx hc ?_
 repeat (any_goals (first | assumption | wp_step))
theorem Zmi {M : Model} {nv : Value} {Q : Unit -> Shared -> Prop} (X : K.In h) (c : Zmd K C) (hx : h.get? a = some o) (hc : o.cls = .ref C) (hq : Q () ⟨h, g, d, t, os⟩) :
  wpAny M A (checkBuiltinCall "BaseException.__getattribute__" ⟨[.ref a, nv], []⟩) Q E ⟨h, g, d, t, os⟩ := by
 have k1 : builtinKind "BaseException.__getattribute__" = some .slot := by decide +kernel
 have k2 : splitId "BaseException.__getattribute__" = some ("BaseException", "__getattribute__") := by decide +kernel
 have ha := F.args_bexc_ga (.ref a) nv; have La := Zep (M := M) hx hc; have Lb := PySem.W.looks_mroIn (M := M) X c.bs;simp only [checkBuiltinCall, k1, k2]; refine wpAny_bind ?_; unfold isInstance
 repeat (any_goals (first | assumption | with_reducible refine La.at ?_ | with_reducible refine Lb.at ?_ | wp_step))
theorem Zrh {tk : Tok} {Q : Value -> Shared -> Prop} (X : K.In h) (c : Zmd K C) (hx : h.get? a = some o) (hc : o.cls = .ref C) (hq : Q (.ref C) ⟨h, g, d, t, os⟩) :
  wpAny (model prog w) A (getAttrBy (.ref a) (.str "__class__" tk) false) Q E ⟨h, g, d, t, os⟩ := by
 have La := Zep (M := model prog w) hx hc; have Lb := PySem.W.looks_findIn (M := model prog w) X c.ga; have Lc := PySem.W.looks_findIn (M := model prog w) X c.gt;have f3 := F.attr_ValueError.ga.bind (.ref a);have x2 : (Value.builtin "BaseException.__getattribute__" == Value.builtin "object.__getattribute__") = false := by decide +kernel
 have x1 : (onTheHeap (Value.ref C) && Value.builtin "BaseException.__getattribute__" == Value.builtin "object.__getattribute__") = false := by rw [x2]; rfl
 have x0 : (false && onTheHeap (Value.builtin "BaseException.__getattribute__")) = false := rfl
 repeat (any_goals (first | assumption | with_reducible refine La.at ?_ | with_reducible refine Lb.at ?_ | with_reducible refine Lc.at ?_ | wp_step))
 refine codeAny_call_builtin F.attr_ValueError.ga.plain F.entry_bexc_ga (Zmi X c hx hc (Zmh X c hx hc ?_))
 repeat (any_goals (first | assumption | wp_step))
theorem Znx {Q : Option Value -> Shared -> Prop} (X : K.In h) (c : Zmd K C) (hx : h.get? a = some o) (hc : o.cls = .ref C) (hq : Q (some (.ref C)) ⟨h, g, d, t + 1, os⟩) :
  wpAny (model prog w) A (getAttr? (.ref a) "__class__") Q E ⟨h, g, d, t, os⟩ := by
 unfold getAttr? getAttrBy?
 repeat (any_goals (first | assumption | with_reducible apply Zrh X c hx hc | wp_step))
end
def Zpb (C e : Addr) : Heap -> Prop := fun h => ∃ o, h.get? e = some o /\ o.cls = .ref C
theorem Zm4 {K : PySem.W.Frag} {e C : Addr} (c : Zmd K C) : PySem.W.KitX K (.ref e) (.ref C) (Zpb C e) where
 ty := fun _ _ _ ⟨_, hx, hc⟩ => Zep hx hc
 it := fun _ _ X _ => by
  obtain ⟨cd, hcd, _⟩ := Option.bind_eq_some_iff.mp c.ob;unfold PySem.W.clsIn at hcd
  split at hcd
  ·rename_i c1 d1 cd1 sl1 ho
   intro A' Q' E' s' k q; unfold isType loadHead;exact wpAny_bind (wpAny_loadPart (k _ _ (X _ _ ho)) (wpAny_pure q))
  ·cases hcd
 ne := fun h tp dd its n sl X htp => by
  obtain ⟨cd, hcd, _⟩ := Option.bind_eq_some_iff.mp c.ob;refine Bool.eq_false_iff.mpr fun q => ?_
  obtain rfl : C = tp := Value.ref.inj (beq_iff_eq.mp q);unfold PySem.W.clsIn at hcd
  split at hcd
  ·rename_i c1 d1 cd1 sl1 ho
   have z := (X _ _ ho).symm.trans htp; cases z
  ·cases hcd
 ca := fun {prog w A E Q s} X ⟨o, hx, hc⟩ hq => by obtain ⟨h, g, d, t, os⟩ := s; exact Znx X c hx hc hq
def HX (C e : Addr) : HO := .ext (Zpb C e)
inductive XTy (K : PySem.W.Frag) (H : Hp) : V -> Value -> Prop where
 | non : XTy K H .non (.type "NoneType")
 | exc {e C : Addr} (he : H e = some (HX C e)) (c : Zmd K C) : XTy K H (.ref e) (.ref C)
def Zqf (K : PySem.W.Frag) : List V -> Hp -> VK -> Prop := fun xs H Q => ∃ x c t b, xs = [x, c] /\ XTy K H x t /\ Zq5 c = true /\ PySem.W.kitOne K t (Zrf c) = some b /\ Q (.bl b) H
theorem Zbl {X : Cx} {K : PySem.W.Frag} (h : X.K = K) : CallR X (.builtin "isinstance") (Zqf K) := by
 subst h;intro pins s σ H xs us Q I r hh;obtain ⟨x, c, t, b, rfl, ty, hc, hk, q⟩ := hh;obtain ⟨u, w', rfl, rx, rc⟩ := Zny r;have hw : w' = Zrf c := by cases c <;> first | exact rc | cases hc
 subst hw;cases ty with
 | non => exact Zh2 I rx .non hk fun tk => ⟨.bl b, H, I.tok tk, rfl, q⟩
 | @exc e C he ec =>
  cases (show u = Value.ref e from rx);obtain ⟨⟨o, h1, h2⟩, _⟩ := (show ObjOk X.prog X.w H s.heap e (HX C e) from I.hok e _ he);exact PySem.W.kia_one (Zm4 ec) I.kIn ⟨o, h1, h2⟩ hk (fun z => nomatch z) fun tk => ⟨.bl b, H, I.tok tk, rfl, q⟩
end L2
set_option Elab.async false
set_option linter.all false
set_option maxRecDepth 100000
set_option maxHeartbeats 4000000
namespace L2
open PySem PySem.Spec PyProof.Rows
section
variable {X : Cx} {pins : List (Addr × Obj)} {σ : St} {H H' : Hp} {s s' : Shared} {e C : Addr} {t : Value} {B h5 : Heap}
theorem HX.ok {P : Program} {w : World} {H : Hp} {h : Heap} (x : Zpb C e h) : ObjOk P w H h e (HX C e) := by
 obtain ⟨o, h1, h2⟩ := x;exact ⟨⟨o, h1, h2⟩, ⟨o, h1⟩, fun a b ⟨o, q1, q2⟩ k => ⟨o, k o q1, q2⟩⟩
theorem Flew.noE (F : Flew X.prog X.w X.stack H s e C t B H' s') : H' e = none := by
 cases q : H' e with
 | none => rfl
 | some o =>
  obtain ⟨ob, z⟩ := (F.hok e o q).there;rw [F.fly.2.1] at z; cases z
theorem Flew.caught (I : Inv X pins σ H s) (F : Flew X.prog X.w X.stack H s e C t B H' s') (fl : Heap.FlyingW B X.stack e (.ref C) t h5) (sm : s'.heap.UpToSlots h5) :
  Inv X pins σ (upd H' e (HX C e)) { s' with heap := h5 } := by
 have nf : ∀ b o, b ∈ frs X.stack -> s'.heap.get? b = some o -> ∀ vs, o.data ≠ .fields vs := fun b o hb q => by
  obtain ⟨_, o', q', z⟩ := F.fly.2.2.1.mem hb;rw [q] at q'; cases q'; exact z
 obtain ⟨oe, vs, he, hec, hed, _⟩ := fl.first;have ne : ∀ b o, s.heap.get? b = some o -> b ≠ e := fun b o q z => by
  subst z
  by_cases hb : b ∈ frs X.stack
  ·obtain ⟨_, o', q', z'⟩ := fl.2.2.1.mem hb;rw [he] at q'; cases q'; exact z' vs hed
  ·obtain ⟨o', q'⟩ := F.thereB b o q hb;rw [F.fly.2.1] at q'; cases q'
 have neT : ∀ b u, H' b = some u -> b ≠ e := fun b u q z => by subst z; rw [F.noE] at q; cases q
 refine I.call' (ch := []) F.os ⟨fun b o q n hb _ => fl.1 b o (F.keepB b o q hb n), fun b o q n hb _ => ?_, fun b o q n _ => ?_, fun b o q _ => ?_, fun b xs z => ?_, fun b ob xs z => ?_, fun b ps z => ?_⟩ (fun b o q => ?_) F.bare (fun b z => absurd z (by simp))
 ·obtain ⟨sl1, z1⟩ := F.un.slot b o q n hb (by simp);obtain ⟨sl2, z2⟩ := sm b _ z1 (nf b _ hb z1);exact ⟨sl2, z2⟩
 ·rw [Zal (ne b o q)]; exact F.un.free b o q n (by simp)
 ·obtain ⟨o1, z1⟩ := F.un.there b o q (by simp)
  by_cases hb : b ∈ frs X.stack
  ·obtain ⟨sl', z'⟩ := sm b _ z1 (nf b _ hb z1);exact ⟨_, z'⟩
  ·obtain ⟨o2, z2⟩ := F.thereB b o q hb;exact ⟨o2, fl.1 b o2 z2⟩
 ·have := F.un.tups b xs z; rw [Zal (neT b _ this)]; exact this
 ·have := F.un.frzs b ob xs z; rw [Zal (neT b _ this)]; exact this
 ·obtain ⟨m, this⟩ := F.un.tbls b ps z;exact ⟨m, by rw [Zal (neT b _ this)]; exact this⟩
 ·by_cases hb : b = e
  ·subst hb;rw [Zah] at q; cases q;exact HX.ok ⟨oe, he, hec⟩
  ·rw [Zal hb] at q;exact (F.hok b o q).stay (fun c u _ z => fl.1 c u z) (fun c z => by rw [Zal (neT c _ z)]; exact z) fun c xs z => by rw [Zal (neT c _ z)]; exact z
abbrev Cx.marked (X : Cx) (e : Addr) : Cx := { X with A := X.A.mark (some (.ref e)), calm := false, xe := fun _ _ => False }
theorem Cx.Ok.marked (ok : X.Ok) (e : Addr) : (X.marked e).Ok :=
 ⟨ok.mod, ok.kind, ok.glob, ok.blt, ok.above, ok.inj, ok.has, ok.cab, fun z => (by cases z), ok.frames, ok.stk, ok.exf, ok.bs, ok.bsz, ok.noex, ok.exfs, ok.funs, ok.frf⟩
theorem Inv.marked (I : Inv X pins σ H s) (e : Addr) : Inv (X.marked e) pins σ H s := ⟨I.ok.marked e, I.os, I.bare, I.base, I.loc, I.cell, I.free, I.freeC, I.pin, I.hok, I.len⟩
theorem Inv.unmarked (ok : X.Ok) (I : Inv (X.marked e) pins σ H s) : Inv X pins σ H s := ⟨ok, I.os, I.bare, I.base, I.loc, I.cell, I.free, I.freeC, I.pin, I.hok, I.len⟩
theorem Zem {A : Around} {E : Value -> Shared -> Prop} {j : Nat} {n : Str} {pos : Pos} {Q : Unit -> Shared -> Prop} (I : Inv X pins σ H s) (hN : X.N.Nodup) (hj : X.N[j]? = some n) (hl : X.env.kindOf n = some .local)
  (h : ∀ s2, Inv X pins (σ.set j none) H s2 -> Q () s2) : wpAny (model X.prog X.w) A (do bindName X.env n .none; unbindBehindTheSuite X.env n pos) Q E s := by
 obtain ⟨m, hn, hv⟩ := I.loc;refine wpAny_nameGoes_keeps hl hn (by rw [I.ok.kind]; rfl) fun h' v hn' hs => h _ ?_
 have hjl : j < X.N.length := (List.getElem?_eq_some_iff.mp hj).1;have cne := I.cne;have neL : ∀ b o, X.s₀.heap.get? b = some o -> b ≠ X.env.locals := fun b o q => Nat.ne_of_lt (Nat.lt_of_lt_of_le (Heap.lt_size q) I.ok.above)
 refine ⟨I.ok, I.os, I.bare, ⟨fun b o q n hb hx => ?_, fun b o q n hb hx => ?_, I.base.free, fun b o q hx => ?_, I.base.tups, I.base.frzs, I.base.tbls⟩, ⟨_, hn', fun i y w e1 e2 e3 => ?_⟩, fun y c q => ?_, I.free, I.freeC, fun p hp => ?_, fun a o q => ?_, by simpa using I.len⟩
 ·exact (hs.2 b (neL b o q)).trans (I.base.keep b o q n hb hx)
 ·obtain ⟨sl, e1⟩ := I.base.slot b o q n hb hx;exact ⟨sl, (hs.2 b (neL b o q)).trans e1⟩
 ·obtain ⟨o', e1⟩ := I.base.there b o q hx;exact ⟨o', (hs.2 b (neL b o q)).trans e1⟩
 ·by_cases hi : i = j
  ·subst hi;rw [List.getElem?_set_self (by rw [I.len]; exact hjl)] at e2;cases e2
  ·rw [List.getElem?_set_ne (Ne.symm hi)] at e2;obtain ⟨u, r, q⟩ := hv i y w e1 e2 e3;refine ⟨u, r, ?_⟩;have hy : y ≠ n := fun z => hi (Zg5 hN e1 (z ▸ hj))
   rcases q with ⟨k, z⟩ | ⟨k, c, z, zc⟩
   ·exact .inl ⟨k, by show (if y = n then v else m y) = some u; rw [if_neg hy]; exact z⟩
   ·exact .inr ⟨k, c, z, zc.sameBut hs (cne y c z)⟩
 ·obtain ⟨w', z⟩ := I.cell y c q;exact ⟨w', z.sameBut hs (cne y c q)⟩
 ·obtain ⟨q, n', ne, nf, d⟩ := I.pin p hp;exact ⟨(hs.2 p.1 ne).trans q, n', ne, nf, d⟩
 ·have kk : ∀ b u, (b = a \/ H b = some (.own a)) -> s.heap.get? b = some u -> h'.get? b = some u := fun b u hb z => by
   refine (hs.2 b fun zz => ?_).trans z;rcases hb with rfl | hb
   ·rw [zz, I.free] at q; cases q
   ·rw [zz, I.free] at hb; cases hb
  exact (I.hok a o q).stay kk (fun _ z => z) fun _ _ z => z
end
def Asks (P : Program) (w : World) (K : PySem.W.Frag) (mg : Str -> Option Value) (base : Heap) (k : Nat) (f : Addr) (H : Hp) (Q : VK) (E : XK) : Prop :=
 ∀ (A : Around) (outer : List Env) (s : Shared), Room k A -> Env0 P w K mg base A outer s H -> codeAny (model P w) A (.call (.ref f) ⟨[], []⟩) (CR (CXx P w) outer P w H s Q E) s
structure Zrg (K : PySem.W.Frag) (W : Addr) : Prop where
 ty : PySem.W.typeIn K (.ref W) = some (.type "type")
 bs : PySem.W.mroIn K W (.type "BaseException") = some true
theorem Zmg {prog : Program} {w : World} {A : Around} {E : Value -> Shared -> Prop} {h : Heap} {g : Array GenState} {d : Drawn} {t : Nat} {os : OsState} {a C W : Addr} {o : Obj} {K : PySem.W.Frag} {Q : Bool -> Shared -> Prop}
  (X : K.In h) (cw : Zrg K W) (hm : PySem.W.mroIn K C (.ref W) = some true) (hx : h.get? a = some o) (hc : o.cls = .ref C) (hq : Q true ⟨h, g, d, t, os⟩) : wpAny (model prog w) A (excMatches (.ref a) (.ref W)) Q E ⟨h, g, d, t, os⟩ := by
 have La := Zep (M := model prog w) hx hc; have Lb := PySem.W.looks_mroIn (M := model prog w) X cw.bs; have Lc := PySem.W.looks_mroIn (M := model prog w) X hm; have Ld := PySem.W.looks_typeIn (M := model prog w) X cw.ty;have f := tc_notTuple;have Le : PySem.W.Looks (model prog w) h (isType (.ref W)) true := by
  obtain ⟨cd, hcd, _⟩ := Option.bind_eq_some_iff.mp cw.bs;unfold PySem.W.clsIn at hcd
  split at hcd
  ·rename_i c1 d1 cd1 sl1 ho
   intro A' Q' E' s' k q; unfold isType loadHead;exact wpAny_bind (wpAny_loadPart (k _ _ (X _ _ ho)) (wpAny_pure q))
  ·cases hcd
 unfold excMatches isInstance isExcClass
 repeat (any_goals (first | assumption | with_reducible refine La.at ?_ | with_reducible refine Lb.at ?_ | with_reducible refine Lc.at ?_ | with_reducible refine Ld.at ?_ | with_reducible refine Le.at ?_ | wp_step))
def Zk0 (P : Program) (w : World) (K : PySem.W.Frag) (mg : Str -> Option Value) (base : Heap) (k i j : Nat) (W : Addr) (ts : TS) : TS := fun D σ H => ∃ f o u fd, σ[i]? = some (some (.ref f)) /\ H f = some (.frz o u) /\ o.data = .func fd /\
 ∃ E1 : XK, Asks P w K mg base k f H (fun _ H' => D.nx σ H') E1 /\ ∀ C H', E1 (.ref C) none H' -> PySem.W.mroIn K C (.ref W) = some true /\ ∀ e G, H' e = none -> Same H' G -> G e = some (HX C e) ->
  ts { nx := fun σ' H2 => D.nx (σ'.set j none) H2, rt := D.rt, bk := fun σ' H2 => D.bk (σ'.set j none) H2, ct := fun σ' H2 => D.ct (σ'.set j none) H2 } (σ.set j (some (.ref e))) G
section
variable {X : Cx}
theorem Zlc {k i j : Nat} {x n wn : Str} {W : Addr} {b0 : Stmt} {suite : List Stmt} {ts : TS} {p1 p2 p3 np hp pos : Pos} (hst : X.stack = X.env :: X.outer) (hfr : X.env.frame = some X.env.locals) (hr : Room k X.A) (hN : X.N.Nodup)
  (hi : X.N[i]? = some x) (hv : Vis X.env.scope x) (hj : X.N[j]? = some n) (hl : X.env.kindOf n = some .local) (hgW : Gl X wn) (hmW : X.mg wn = some (.ref W)) (cw : Zrg X.K W) (hs : ∀ e, PSs (X.marked e) (b0 :: suite) ts)
  (hd1 : (x == ("__debug__" : Str)) = false := by decide) (hd2 : (x == ("__classdict__" : Str)) = false := by decide) (hd3 : (wn == ("__debug__" : Str)) = false := by decide) (hsw : swapsWith (.Call (.Name x p1) [] [] p2) none p3.line X.env = pure false := by rfl) :
  PS X (.Try [.Expr (.Call (.Name x p1) [] [] p2) p3] [.ExceptHandler (some (.Name wn np)) (some n) (b0 :: suite) hp] [] [] pos) (Zk0 X.prog X.w X.K X.mg X.base k i j W ts) := by
 intro pins s σ H D I h;obtain ⟨f, o, u, fd, hσ, hf, hd, E1, ask, hx⟩ := h;have hL : Loc X.env.scope n := .inl hl
 -- the call
 have callee : wpAny (model X.prog X.w) X.A (exec (.Expr (.Call (.Name x p1) [] [] p2) p3) X.env) (fun fl s1 => fl = .next /\ ∃ H1, Inv X pins σ H1 s1 /\ D.nx σ H1)
   (fun e s2 => ∃ s1, Inv X pins σ H s1 /\ CXx X.prog X.w X.stack H s1 E1 e s2) s := by
  refine wpAny_Expr_any (wpAny_Call_Name_kw ?_) I.quiet hsw;refine thn (Znn (X := X.wish fun e s2 => ∃ s1, Inv X pins σ H s1 /\ CXx X.prog X.w X.stack H s1 E1 e s2) hi hv hd1 hd2 pins s σ H (fun v H1 => v = .ref f /\ H1 = H) (I.wish _) ⟨_, hσ, rfl, rfl⟩) fun v s1 ⟨y, H1, I1, ry, e1, e2⟩ => ?_
  subst e1 e2;cases (show v = Value.ref f from ry);have I2 : Inv X pins σ H1 s1 := I1.unwish;obtain ⟨hget, _⟩ := (show ObjOk X.prog X.w H1 s1.heap f (.frz o u) from I2.hok f _ hf);have hF : PySem.W.FnAt f s1.heap := by
   obtain ⟨c1, d1, dt, sl⟩ := o;have hd' : dt = .func fd := hd;subst hd';exact ⟨c1, d1, fd, sl, hget⟩
  refine PySem.W.callWith_F0 hF (wpAny_call (codeAny_mono (ask X.A X.stack s1 hr I2.env0) fun r s2 hq => ?_));cases r with
  | error e => exact ⟨s1, I2, hq⟩
  | ok fl =>
   cases fl with
   | ret v =>
    obtain ⟨y, H2, I3, ry, q⟩ := I2.after hq;exact ⟨rfl, H2, I3, q⟩
   | next => exact False.elim hq
   | brk => exact False.elim hq
   | cont => exact False.elim hq
 refine wpAny_Try_except (wpAny_execs_cons (wpAny_mono callee (fun fl s1 hq => ?_) fun e s2 hq => ?_))
 ·obtain ⟨rfl, H1, I1, q⟩ := hq;exact wpAny_execs_nil (wpAny_execs_nil ⟨σ, H1, I1, q⟩)
 ·obtain ⟨s1, I1, a, C, t, B, H', rfl, F, hq⟩ := hq;obtain ⟨hm, hq⟩ := hx C H' hq;refine wpAny_looks_onW (base := B) (L := X.env.locals) (hst ▸ I1.ok.frames) hfr (hst ▸ F.fly) fun h4 hd4 sm4 => ?_
  refine wpAny_landsW hd4 fun h5 fl5 sm5 => ?_
  have J5 : Inv X pins σ (upd H' a (HX C a)) { s2 with heap := h5 } := Flew.caught I1 F (hst ▸ fl5) (sm4.trans sm5);obtain ⟨ob, hob, hobc⟩ := fl5.there;refine wpAny_handleBy_cons (codeAny_handlers_test ?_) (by intro q; cases q);have J5m := J5.marked a;refine Zef (X := X.marked a) J5m hgW hmW ?_ hd3;refine Zmg J5.kIn cw hm hob hobc ?_;refine codeAny_handlers_suite_as (lands_againW fl5 fun h6 fl6 sm6 => ?_);have J6 : Inv X pins σ (upd H' a (HX C a)) { s2 with heap := h6 } := Flew.caught I1 F (hst ▸ fl6) ((sm4.trans sm5).trans sm6);refine Zfb (v := .ref a) J6 hN hj hL rfl (fun s7 J7 => ?_) (.inr hl);have q7 := hq a _ F.noE (Zby F.noE) Zah;refine wpAny_mono (hs a pins s7 _ _ _ (J7.marked a) q7) (fun fl s8 hs8 => ?_) fun _ _ z => z.elim
  cases fl with
  | next =>
   obtain ⟨σ', H2, J8, q⟩ := hs8;exact Zem (J8.unmarked I.ok) hN hj hl fun s9 J9 => ⟨_, H2, J9, q⟩
  | brk =>
   obtain ⟨σ', H2, J8, q⟩ := hs8;exact Zem (J8.unmarked I.ok) hN hj hl fun s9 J9 => ⟨_, H2, J9, q⟩
  | cont =>
   obtain ⟨σ', H2, J8, q⟩ := hs8;exact Zem (J8.unmarked I.ok) hN hj hl fun s9 J9 => ⟨_, H2, J9, q⟩
  | ret v =>
   obtain ⟨y, σ', H2, J8, ry, q⟩ := hs8;exact Zem (J8.unmarked I.ok) hN hj hl fun s9 J9 => ⟨y, _, H2, J9, ry, q⟩
end
end L2
set_option Elab.async false
set_option linter.all false
set_option maxRecDepth 100000
set_option maxHeartbeats 4000000
namespace L2
open PySem PySem.Spec PyProof.Rows
def HT : HO := .ext fun _ => True
theorem HT.ok {P : Program} {w : World} {H : Hp} {h : Heap} {a : Addr} {o : Obj} (e : h.get? a = some o) : ObjOk P w H h a (.frz o HT) := ⟨e, trivial, ⟨o, e⟩, fun _ _ _ _ => trivial⟩
structure LamCx (mg : Str -> Option Value) (base : Heap) (c P : Addr) : Prop where
 hd : PySem.W.CodeHd base c P
 gP : mainGlobals ≠ P
 bt : base.BuiltinsAt mg P
structure Tab (H : Hp) (P : Addr) (q : Str) : Prop where
 ex : ∃ ps, H P = some (.tbl ps) /\ TriplesOk ps.toList /\ ∀ pos cv, codeAmong pos ps.toList = some cv -> ∃ c' oc vs t, cv = .ref c' /\ H c' = some (.frz oc HT) /\ oc.data = .fields vs /\ vs[1]? = some (.str q t)
theorem Tab.of {H G : Hp} {P : Addr} {q : Str} (x : Tab H P q) (h : ∀ b o, H b = some o -> (∃ ps, o = .tbl ps) \/ (∃ oc, o = .frz oc HT) -> G b = some o) : Tab G P q := by
 obtain ⟨ps, h1, h2, h3⟩ := x;refine ⟨ps, h _ _ h1 (.inl ⟨ps, rfl⟩), h2, fun pos cv e => ?_⟩;obtain ⟨c', oc, vs, t, e1, e2, e3⟩ := h3 pos cv e;exact ⟨c', oc, vs, t, e1, h _ _ e2 (.inr ⟨oc, rfl⟩), e3⟩
theorem Tab.same {H G : Hp} {P : Addr} {q : Str} (x : Tab H P q) (s : Same H G) : Tab G P q := x.of fun b o e _ => s b o e
theorem Tab.but {H G : Hp} {P l : Addr} {q : Str} {xs : List V} (x : Tab H P q) (s : But l H G) (hl : H l = some (.lst xs)) : Tab G P q := x.of fun b o e k => s b o e fun z => by
 subst z; rw [hl] at e; cases e;rcases k with ⟨_, k⟩ | ⟨_, k⟩ <;> cases k
theorem Zkq {pos : Pos} {a b : Int} {c cv : Value} : ∀ (l : List Value), TriplesOk l -> codeAmong pos (l ++ [rawInt a, rawInt b, c]) = some cv -> codeAmong pos l = some cv \/ cv = c := by
 intro l h e
 fun_induction TriplesOk l with
 | case1 =>
  simp only [List.nil_append, codeAmong, rawInt] at e
  split at e
  ·exact .inr (Option.some.inj e).symm
  ·cases e
 | case2 a' t b' u x r ih =>
  simp only [List.cons_append, codeAmong] at e ⊢
  split at e
  ·rename_i q; rw [if_pos q]; exact .inl e
  ·rename_i q; rw [if_neg q]; exact ih h e
 | case3 l h1 h2 => exact h.elim
section
variable {X : Cx} {pins : List (Addr × Obj)} {σ : St} {H : Hp} {s : Shared} {c P : Addr} {q : Str}
abbrev Zns (q : Str) (params : Arguments) (body : Expr) (scope : Scope) (cl : List (Str × Addr)) (pm cv ctv : Value) : Obj := { cls := .type "function", data := .func (PySem.W.kla_fn "<lambda>" q params body scope cl pm cv ctv) }
theorem Zm3 {M : Model} {A : Around} {E : Value -> Shared -> Prop} {Q : Value -> Shared -> Prop} {params : Arguments} {body : Expr} {scope : Scope} {cl : List (Str × Addr)} {pos : Pos} (I : Inv X pins σ H s) (lc : LamCx X.mg X.base c P) (hcode : X.env.code = .ref c) (tb : Tab H P q)
  (hq : X.env.qual ++ "<lambda>" = q) (hcl : closureFor scope X.env = pure cl) (hdef : defaultsOf params X.env = ([], []))
  (h : ∀ f c' ctv pm G s1 oc vs t, Inv X pins σ G s1 -> But P H G -> H f = none -> Tab G P q -> G f = some (.frz (Zns q params body scope cl pm (.ref c') ctv) HT) -> G c' = some (.frz oc HT) -> oc.data = .fields vs -> vs[1]? = some (.str q t) -> (∀ b o, s.heap.get? b = some o -> b ≠ P -> s1.heap.get? b = some o) -> Q (.ref f) s1) :
  wpAny M A (eval (.Lambda params body scope pos) X.env) Q E s := by
 subst hq;obtain ⟨ps, h1, h2, h3⟩ := tb;have hP : s.heap.get? P = some (PySem.W.tabObj ps) := I.hok P _ h1;refine PySem.W.kla_eval hdef ?_;have fr : ∀ b o, s.heap.get? b = some o -> b < s.heap.objs.size := fun b o e => Heap.lt_size e
 cases hn : codeAmong pos ps.toList with
 | none =>
  refine PySem.W.kla_makeFunction (mg := X.mg) (clos := cl) hcl I.ok.glob (I.mod.glob.keeps I.bk) hcode (lc.hd.keeps I.bk) hP h2 hn lc.gP (lc.bt.keeps I.bk) fun c' ctv h' tk hx hge hlt hrec htb => ?_
  obtain ⟨c2, oc, vs, t, e2, hoc, hd, hv⟩ := hrec;cases e2;generalize hf : h'.objs.size = f at *;have nP : ∀ b, s.heap.objs.size <= b -> b ≠ P := fun b hb z => by subst z; exact absurd (Nat.lt_of_lt_of_le (Heap.lt_size hP) hb) (Nat.lt_irrefl _)
  have hfs : s.heap.objs.size <= f := Nat.le_trans hge (Nat.le_of_lt hlt);have Hc : H c' = none := I.hok.fresh hge;have Hf : H f = none := I.hok.fresh hfs;have cf : c' ≠ f := Nat.ne_of_lt hlt;have old : ∀ b o, s.heap.get? b = some o -> b ≠ c' /\ b ≠ f := fun b o e => ⟨Nat.ne_of_lt (Nat.lt_of_lt_of_le (fr b o e) hge), Nat.ne_of_lt (Nat.lt_of_lt_of_le (fr b o e) hfs)⟩
  have keep : ∀ b o, s.heap.get? b = some o -> b ≠ P -> ∀ oo : Obj, (h'.push oo).get? b = some o := fun b o e hb oo => Heap.get?_push_of_some _ (hx b o hb e)
  let G : Hp := upd (upd (upd H P (.tbl (ps ++ #[rawInt pos.line, rawInt pos.col, .ref c']))) c' (.frz oc HT)) f (.frz (Zns (X.env.qual ++ "<lambda>") params body scope cl ((X.mg "__name__").getD .none) (.ref c') ctv) HT)
  have Gf : G f = some (.frz (Zns (X.env.qual ++ "<lambda>") params body scope cl ((X.mg "__name__").getD .none) (.ref c') ctv) HT) := Zah;have Gc : G c' = some (.frz oc HT) := by show upd _ f _ c' = _; rw [Zal cf, Zah]
  have GP : G P = some (.tbl (ps ++ #[rawInt pos.line, rawInt pos.col, .ref c'])) := by show upd _ f _ P = _; rw [Zal (Ne.symm (nP f hfs)), Zal (Ne.symm (nP c' hge)), Zah]
  have Go : ∀ b, b ≠ P -> b ≠ c' -> b ≠ f -> G b = H b := fun b a1 a2 a3 => by show upd _ f _ b = _; rw [Zal a3, Zal a2, Zal a1]
  have Gs : ∀ b u, H b = some u -> b ≠ P -> G b = some u := fun b u e hb => by rw [Go b hb (fun z => by subst z; rw [Hc] at e; cases e) (fun z => by subst z; rw [Hf] at e; cases e)]; exact e
  have hbut : But P H G := fun b u e hb => Gs b u e hb
  have tab' : Tab G P (X.env.qual ++ "<lambda>") := by
   refine ⟨_, GP, ?_, fun pos' cv e => ?_⟩
   ·have : (ps ++ #[rawInt pos.line, rawInt pos.col, Value.ref c']).toList = ps.toList ++ [rawInt pos.line, rawInt pos.col, .ref c'] := by simp
    rw [this]; exact TriplesOk_snoc _ _ _ _ h2
   ·have : (ps ++ #[rawInt pos.line, rawInt pos.col, Value.ref c']).toList = ps.toList ++ [rawInt pos.line, rawInt pos.col, .ref c'] := by simp
    rw [this] at e;rcases Zkq _ h2 e with e | e
    ·obtain ⟨c1, oc1, vs1, t1, e1, e2, e3⟩ := h3 pos' cv e;exact ⟨c1, oc1, vs1, t1, e1, Gs _ _ e2 (fun z => by subst z; rw [h1] at e2; cases e2), e3⟩
    ·exact ⟨c', oc, vs, t, e, Gc, hd, hv⟩
  refine h f c' ctv _ G _ oc vs t (I.un (t' := tk) ⟨fun b o e n _ _ => keep b o e (fun z => by subst z; rw [h1] at n; cases n) _, fun b o e n _ _ => ⟨o.slots, keep b o e (fun z => by subst z; rw [h1] at n; cases n) _⟩, fun b o e n _ => ?_, fun b o e _ => ?_, fun b xs e => ?_, fun b ob u e => ?_, fun b ps' e => ?_⟩ fun b u e => ?_) hbut Hf tab' Gf Gc hd hv fun b o e hb => keep b o e hb _
  ·rw [Go b (fun z => by subst z; rw [h1] at n; cases n) (old b o e).1 (old b o e).2]; exact n
  ·by_cases hb : b = P
   ·subst hb; exact ⟨_, Heap.get?_push_of_some _ htb⟩
   ·exact ⟨o, keep b o e hb _⟩
  ·exact Gs b _ e (fun z => by subst z; rw [h1] at e; cases e)
  ·exact Gs b _ e (fun z => by subst z; rw [h1] at e; cases e)
  ·by_cases hb : b = P
   ·subst hb; rw [h1] at e; cases e; exact ⟨_, GP⟩
   ·exact ⟨#[], by rw [Gs b _ e hb]; simp⟩
  ·by_cases b1 : b = f
   ·subst b1; rw [Gf] at e; cases e;exact HT.ok (by rw [<- hf]; exact Heap.get?_push_size _ rfl)
   ·by_cases b2 : b = c'
    ·subst b2; rw [Gc] at e; cases e;exact HT.ok (Heap.get?_push_of_some _ hoc)
    ·by_cases b3 : b = P
     ·subst b3; rw [GP] at e; cases e;exact Heap.get?_push_of_some _ htb
     ·rw [Go b b3 b2 b1] at e;refine (I.hok b u e).stay (fun b' u' hb' z => keep b' u' z (fun zz => ?_) _) (fun b' z => Gs b' _ z fun zz => by subst zz; rw [h1] at z; cases z) fun b' xs z => Gs b' _ z fun zz => by subst zz; rw [h1] at z; cases z
      rcases hb' with rfl | hb'
      ·exact b3 zz
      ·subst zz; rw [h1] at hb'; cases hb'
 | some cv =>
  obtain ⟨c', oc, vs, t, rfl, hc', hd, hv⟩ := h3 pos cv hn;refine PySem.W.kla_makeFunctionHit (mg := X.mg) (clos := cl) hcl I.ok.glob (I.mod.glob.keeps I.bk) hcode (lc.hd.keeps I.bk) hP h2 hn (lc.bt.keeps I.bk) fun ctv h' tk hk hsz => ?_
  have hk' : ∀ b o, s.heap.get? b = some o -> ∀ oo : Obj, (h'.push oo).get? b = some o := fun b o e oo => Heap.get?_push_of_some _ (hk b o e)
  have Hf : H h'.objs.size = none := I.hok.fresh hsz;refine h h'.objs.size c' ctv _ (upd H h'.objs.size (.frz _ HT)) _ oc vs t (I.laid (t' := tk) (fun b u e => hk' b u e _) hsz (HT.ok (Heap.get?_push_size _ rfl))) ((Zby Hf).toBut) Hf (Tab.same ⟨ps, h1, h2, h3⟩ (Zby Hf)) Zah ?_ hd hv fun b o e _ => hk' b o e _
  exact Zby Hf _ _ hc'
end
end L2
set_option Elab.async false
set_option linter.all false
set_option maxRecDepth 100000
set_option maxHeartbeats 4000000
namespace L2
open PySem PySem.Spec PyProof.Rows
def frzC (cl : List (Str × Addr)) (h : Heap) (H : Hp) : Hp := fun b => if b ∈ cl.map (·.2) then (h.get? b).map (fun o => .frz o HT) else H b
def unC (cl : List (Str × Addr)) (H : Hp) : Hp := fun b => if b ∈ cl.map (·.2) then none else H b
theorem HOk.frz {P : Program} {w : World} {H : Hp} {h : Heap} {a : Addr} {o : Obj} {u : HO} (x : HOk P w H h) (e : H a = some (.frz o u)) : h.get? a = some o := (x a _ e).1
section
variable {cl : List (Str × Addr)} {h hs hs' : Heap} {G H2 Gc : Hp} {fs : List Addr} {P : Program} {w : World}
theorem frzC_out {b : Addr} (n : b ∉ cl.map (·.2)) : frzC cl h G b = G b := if_neg n
theorem Zdb {b : Addr} (n : b ∈ cl.map (·.2)) : frzC cl h G b = (h.get? b).map (fun o => .frz o HT) := if_pos n
theorem Zb4 {b : Addr} (n : b ∉ cl.map (·.2)) : unC cl G b = G b := if_neg n
theorem Zga {b : Addr} (n : b ∈ cl.map (·.2)) : unC cl G b = none := if_pos n
theorem Zlx (hok : HOk P w (frzC cl h G) hs) (hc : ∀ b ∈ cl.map (·.2), (∃ o, h.get? b = some o) /\ b ∉ fs) (u : Un fs [] (unC cl (frzC cl h G)) H2 hs hs') :
  Un fs [] (frzC cl h G) (frzC cl h H2) hs hs' /\ (∀ b ∈ cl.map (·.2), H2 b = none) /\ ∀ B : Heap, (∀ b o, hs.get? b = some o -> b ∉ fs -> unC cl (frzC cl h G) b = none -> B.get? b = some o) -> HOk P w H2 B -> HOk P w (frzC cl h H2) B := by
 have inC : ∀ b, b ∈ cl.map (·.2) -> ∃ o, h.get? b = some o /\ hs.get? b = some o /\ frzC cl h G b = some (.frz o HT) := fun b hb => by
  obtain ⟨⟨o, e⟩, _⟩ := hc b hb;have q : frzC cl h G b = some (.frz o HT) := by rw [Zdb hb, e]; rfl
  exact ⟨o, e, (hok b _ q).1, q⟩
 have notIn : ∀ b, frzC cl h G b = none -> b ∉ cl.map (·.2) := fun b e hb => by obtain ⟨o, _, _, q⟩ := inC b hb; rw [e] at q; cases q
 have un0 : ∀ b, frzC cl h G b = none -> unC cl (frzC cl h G) b = none := fun b e => by rw [Zb4 (notIn b e)]; exact e
 have noH : ∀ b ∈ cl.map (·.2), H2 b = none := fun b hb => by
  obtain ⟨o, _, e, _⟩ := inC b hb;exact u.free b o e (Zga hb) (by simp)
 refine ⟨⟨fun b o e n hf hx => u.keep b o e (un0 b n) hf hx, fun b o e n hf hx => u.slot b o e (un0 b n) hf hx, fun b o e n hx => ?_, u.there, fun b xs e => ?_, fun b ob x e => ?_, fun b ps e => ?_⟩, noH, fun B hB hk b o e => ?_⟩
 ·rw [frzC_out (notIn b n)]; exact u.free b o e (un0 b n) hx
 ·by_cases hb : b ∈ cl.map (·.2)
  ·obtain ⟨o, _, _, q⟩ := inC b hb; rw [e] at q; cases q
  ·rw [frzC_out hb] at e ⊢;exact u.tups b xs (by rw [Zb4 hb, frzC_out hb]; exact e)
 ·by_cases hb : b ∈ cl.map (·.2)
  ·rw [Zdb hb] at e ⊢; exact e
  ·rw [frzC_out hb] at e ⊢;exact u.frzs b ob x (by rw [Zb4 hb, frzC_out hb]; exact e)
 ·by_cases hb : b ∈ cl.map (·.2)
  ·obtain ⟨o, _, _, q⟩ := inC b hb; rw [e] at q; cases q
  ·rw [frzC_out hb] at e;obtain ⟨m, z⟩ := u.tbls b ps (by rw [Zb4 hb, frzC_out hb]; exact e);exact ⟨m, by rw [frzC_out hb]; exact z⟩
 ·by_cases hb : b ∈ cl.map (·.2)
  ·obtain ⟨o', e1, e2, q⟩ := inC b hb;rw [Zdb hb, e1] at e; cases e;exact HT.ok (hB b o' e2 (hc b hb).2 (Zga hb))
  ·rw [frzC_out hb] at e;have ni : ∀ c u', H2 c = some u' -> c ∉ cl.map (·.2) := fun c u' z hm => by rw [noH c hm] at z; cases z
   exact (hk b o e).stay (fun _ _ _ z => z) (fun c z => by rw [frzC_out (ni c _ z)]; exact z) fun c xs z => by rw [frzC_out (ni c _ z)]; exact z
theorem Zlw (hc : ∀ b ∈ cl.map (·.2), (∃ o, hs.get? b = some o) /\ G b = none) (u : Un fs [] (frzC cl hs G) H2 hs hs') (hk : HOk P w H2 hs') : Un fs [] G (unC cl H2) hs hs' /\ HOk P w (unC cl H2) hs' := by
 have inC : ∀ b, b ∈ cl.map (·.2) -> ∃ o, hs.get? b = some o /\ hs'.get? b = some o /\ H2 b = some (.frz o HT) := fun b hb => by
  obtain ⟨⟨o, e⟩, _⟩ := hc b hb;have q : frzC cl hs G b = some (.frz o HT) := by rw [Zdb hb, e]; rfl
  have q2 := u.frzs b o HT q;exact ⟨o, e, (hk b _ q2).1, q2⟩
 have noG : ∀ b x, G b = some x -> b ∉ cl.map (·.2) := fun b x e hb => by rw [(hc b hb).2] at e; cases e
 refine ⟨⟨fun b o e n hf hx => ?_, fun b o e n hf hx => ?_, fun b o e n hx => ?_, u.there, fun b xs e => ?_, fun b ob x e => ?_, fun b ps e => ?_⟩, fun b o e => ?_⟩
 ·by_cases hb : b ∈ cl.map (·.2)
  ·obtain ⟨o', e1, e2, _⟩ := inC b hb;rw [e] at e1; cases e1; exact e2
  ·exact u.keep b o e (by rw [frzC_out hb]; exact n) hf hx
 ·by_cases hb : b ∈ cl.map (·.2)
  ·obtain ⟨o', e1, e2, _⟩ := inC b hb;rw [e] at e1; cases e1; exact ⟨o.slots, e2⟩
  ·exact u.slot b o e (by rw [frzC_out hb]; exact n) hf hx
 ·by_cases hb : b ∈ cl.map (·.2)
  ·exact Zga hb
  ·rw [Zb4 hb]; exact u.free b o e (by rw [frzC_out hb]; exact n) hx
 ·have hb := noG b _ e;rw [Zb4 hb]; exact u.tups b xs (by rw [frzC_out hb]; exact e)
 ·have hb := noG b _ e;rw [Zb4 hb]; exact u.frzs b ob x (by rw [frzC_out hb]; exact e)
 ·have hb := noG b _ e;obtain ⟨m, z⟩ := u.tbls b ps (by rw [frzC_out hb]; exact e);exact ⟨m, by rw [Zb4 hb]; exact z⟩
 ·by_cases hb : b ∈ cl.map (·.2)
  ·rw [Zga hb] at e; cases e
  ·rw [Zb4 hb] at e;have ni : ∀ c u', H2 c = some u' -> (∀ o', u' ≠ .frz o' HT) -> c ∉ cl.map (·.2) := fun c u' z hne hm => by obtain ⟨o', _, _, q⟩ := inC c hm; rw [z] at q; cases q; exact hne o' rfl
   exact (hk b o e).stay (fun _ _ _ z => z) (fun c z => by rw [Zb4 (ni c _ z fun _ q => by cases q)]; exact z) fun c xs z => by rw [Zb4 (ni c _ z fun _ q => by cases q)]; exact z
end
def Zi8 (P : Program) (w : World) (K : PySem.W.Frag) (mg : Str -> Option Value) (base : Heap) (N' : List Str) (q : Str) (scope : Scope) (f : Addr) (cd : Value) (cl : List (Str × Addr)) (A : Around) (outer : List Env) (s : Shared) (H : Hp) (E : XK) : Cx where
 prog := P
 w := w
 K := K
 mg := mg
 base := base
 A := A.deeper (PySem.W.envX q scope s.heap.objs.size f cd cl)
 N := N'
 s₀ := s
 H₀ := H
 env := PySem.W.envX q scope s.heap.objs.size f cd cl
 outer := outer
 stack := PySem.W.envX q scope s.heap.objs.size f cd cl :: outer
 ex := []
 calm := true
 fn := fun _ => false
 pn := []
 xe := fun e s' => wpAny (model P w) (A.deeper (PySem.W.envX q scope s.heap.objs.size f cd cl)) (leaving (PySem.W.envX q scope s.heap.objs.size f cd cl) e) (fun _ s'' => CXx P w outer H s E e s'') (fun e' s'' => CXx P w outer H s E e' s'') s'
theorem Za5 {P : Program} {w : World} {K : PySem.W.Frag} {mg : Str -> Option Value} {base : Heap} {N' : List Str} {q : Str} {scope : Scope} {f : Addr} {cd : Value} {cl : List (Str × Addr)} {A : Around} {outer : List Env} {s : Shared} {H : Hp} {E : XK} :
  Zii (Zi8 P w K mg base N' q scope f cd cl A outer s H E) E := ⟨rfl, rfl, rfl, fun _ _ h => h⟩
structure Zj1 (scope : Scope) (N' : List Str) : Prop where
 kind : scope.kind = .function
 co : scope.isCoroutine = false
 gen : scope.isGenerator = false
 nocell : ∀ y ∈ scope.names, y.2 ≠ .cell
 free : ∀ x ∈ N', scope.names.lookup x = some .free
def Holds (cl : List (Str × Addr)) (h : Heap) (N' : List Str) (σ : St) : Prop := ∀ (i : Nat) (x : Str) (v : V), N'[i]? = some x -> σ[i]? = some (some v) -> ∃ c o u, cl.lookup x = some c /\ h.get? c = some o /\ o.data = .cell (some u) /\ RelV v u
structure Zjg (cl : List (Str × Addr)) (h : Heap) (scope : Scope) : Prop where
 inj : ∀ x y c, cl.lookup x = some c -> cl.lookup y = some c -> x = y
 has : ∀ x, (x, NameKind.free) ∈ scope.names -> ∃ c, cl.lookup x = some c
 cell : ∀ b ∈ cl.map (·.2), ∃ o v, h.get? b = some o /\ o.data = .cell v
theorem Zdr {cl : List (Str × Addr)} {x : Str} {c : Addr} (h : cl.lookup x = some c) : c ∈ cl.map (·.2) := List.mem_map.mpr ⟨(x, c), PySem.mem_of_lookup h, rfl⟩
section
variable {P : Program} {w : World} {K : PySem.W.Frag} {mg : Str -> Option Value} {base : Heap} {N' : List Str} {q : Str} {scope : Scope} {f c' : Addr} {cl : List (Str × Addr)} {params : Arguments} {body : Expr} {k : Nat} {h : Heap} {G : Hp} {σ : St} {te : XK -> TE} {pm ctv : Value}
theorem Zjs (S : Zj1 scope N') (C : Zjg cl h scope) (hσ : Holds cl h N' σ) (hl : σ.length = N'.length) {oc : Obj} {vs : Array Value} {t : Tok} (hGf : G f = some (.frz (Zns q params body scope cl pm (.ref c') ctv) HT)) (hGc : G c' = some (.frz oc HT)) (hd : oc.data = .fields vs) (hv : vs[1]? = some (.str q t))
  (hcf : ∀ b ∈ cl.map (·.2), G b = none) (hbind : ∀ pm cv ctv, bindArgs (PySem.W.kla_fn "<lambda>" q params body scope cl pm cv ctv) ⟨[], []⟩ = pure [])
  (hb : ∀ (A : Around) (outer : List Env) (s : Shared) (H : Hp) (E : XK), Room k (A.deeper (PySem.W.envX q scope s.heap.objs.size f (.ref c') cl)) -> PE (Zi8 P w K mg base N' q scope f (.ref c') cl A outer s H E) body (te E))
  {Q : VK} {E : XK} (ht : te E σ G Q) : Asks P w K mg base (k + 1) f (frzC cl h G) (fun v H' => ∃ H2, H' = frzC cl h H2 /\ (∀ b ∈ cl.map (·.2), H2 b = none) /\ Q v H2) (fun c _ H' => ∃ H2, H' = frzC cl h H2 /\ (∀ b ∈ cl.map (·.2), H2 b = none) /\ E c none H2) := by
 intro A outer s hr e0;have eG : unC cl (frzC cl h G) = G := by
  funext b
  by_cases hb : b ∈ cl.map (·.2)
  ·rw [Zga hb, hcf b hb]
  ·rw [Zb4 hb, frzC_out hb]
 have nC : ∀ b x, G b = some x -> b ∉ cl.map (·.2) := fun b x e hb => by rw [hcf b hb] at e; cases e
 have gf : s.heap.get? f = some (Zns q params body scope cl pm (.ref c') ctv) := e0.hok.frz (by rw [frzC_out (nC f _ hGf)]; exact hGf);have gc : s.heap.get? c' = some oc := e0.hok.frz (by rw [frzC_out (nC c' _ hGc)]; exact hGc);have cellAt : ∀ b ∈ cl.map (·.2), ∃ o, h.get? b = some o /\ s.heap.get? b = some o := fun b hb => by
  obtain ⟨o, v, e1, _⟩ := C.cell b hb;exact ⟨o, e1, e0.hok.frz (by rw [Zdb hb, e1]; rfl)⟩
 have cfs : ∀ b ∈ cl.map (·.2), b ∉ frs outer := fun b hb hm => by
  obtain ⟨o, e1, _⟩ := cellAt b hb;have := e0.frf b hm;rw [Zdb hb, e1] at this; cases this
 have hcc : ∀ b ∈ cl.map (·.2), (∃ o, h.get? b = some o) /\ b ∉ frs outer := fun b hb => ⟨(cellAt b hb).imp fun o z => z.1, cfs b hb⟩
 have hokG : HOk P w G s.heap := fun b o e => by
  have hb := nC b _ e;exact (e0.hok b o (by rw [frzC_out hb]; exact e)).stay (fun _ _ _ z => z) (fun d z => by
   by_cases hd : d ∈ cl.map (·.2)
   ·obtain ⟨o1, e1, _⟩ := cellAt d hd;rw [Zdb hd, e1] at z; cases z
   ·rw [frzC_out hd] at z; exact z) fun d xs z => by
   by_cases hd : d ∈ cl.map (·.2)
   ·obtain ⟨o1, e1, _⟩ := cellAt d hd;rw [Zdb hd, e1] at z; cases z
   ·rw [frzC_out hd] at z; exact z
 have gN : ∀ b, frzC cl h G b = none -> G b = none := fun b e => by
  by_cases hb : b ∈ cl.map (·.2)
  ·exact hcf b hb
  ·rw [frzC_out hb] at e; exact e
 refine PySem.W.kla_callFunE hr.depth gf rfl S.co S.gen rfl ⟨c', oc, vs, t, rfl, gc, hd, hv⟩ ?_;rw [hbind];refine wpAny_pure (wpAny_newFunctionEnv S.nocell (fun y hy => absurd hy (by simp)) (fun h₁ hns hsb => ⟨?_, ?_⟩) S.kind)
 ·exact (e0.mod.nolimit.keeps fun b o e => (e0.bs b o e).1).fresh _ hsb
 have hk₁ : ∀ b o, s.heap.get? b = some o -> h₁.get? b = some o := fun b o e => hsb.extBut b o (Nat.ne_of_lt (Heap.lt_size e)) (Heap.get?_push_of_some _ e)
 show codeAny _ _ (.expr body (PySem.W.envX q scope s.heap.objs.size f (.ref c') cl)) _ _;refine PySem.W.kla_codeExpr ?_;have noA : ∀ b : Addr, b ∉ (Zi8 P w K mg base N' q scope f (.ref c') cl A outer s G E).ex := fun b z => absurd (show b ∈ ([] : List Addr) from z) (by simp)
 have I : Inv (Zi8 P w K mg base N' q scope f (.ref c') cl A outer s G E) [] σ G { s with heap := h₁, toks := s.toks } := by
  refine ⟨⟨e0.mod, S.kind, rfl, rfl, Nat.le_refl _, C.inj, fun x hx => ?_, (fun x c z => by cases z), fun _ => hr.hd, Around.frames_deeper e0.frames, .inr ⟨rfl, rfl⟩, fun b z => absurd z (noA b), fun b o e => ⟨(e0.bs b o e).1, gN b (e0.bs b o e).2⟩, e0.bsz, fun b _ _ => noA b, fun b z => absurd z (noA b), e0.funs, fun b hb => gN b (e0.frf b hb)⟩,
   rfl, e0.bare, Un.kept hk₁, ⟨_, hns, fun i x v e1 e2 e3 => ?_⟩, fun x c e => ?_, hokG.fresh (Nat.le_refl _), fun x c e => hcf c (Zdr e), fun p hp => absurd (show p ∈ ([] : List (Addr × Obj)) from hp) (by simp), hokG.kept hk₁, hl⟩
  ·have hx : scope.names.lookup x = some .cell \/ scope.names.lookup x = some .free := hx;rcases hx with hx | hx
   ·exact absurd rfl (S.nocell _ (PySem.mem_of_lookup hx))
   ·exact C.has x (PySem.mem_of_lookup hx)
  ·obtain ⟨c, o, u, q1, q2, q3, q4⟩ := hσ i x v e1 e2;obtain ⟨o', z1, z2⟩ := cellAt c (Zdr q1);rw [q2] at z1; cases z1;exact ⟨u, q4, .inr ⟨.inr (S.free x (List.mem_of_getElem? e1)), c, q1, ⟨o, hk₁ _ _ z2, q3⟩⟩⟩
  ·obtain ⟨o, v, z1, z2⟩ := C.cell c (Zdr e);obtain ⟨o', y1, y2⟩ := cellAt c (Zdr e);rw [z1] at y1; cases y1;exact ⟨v, ⟨o, hk₁ _ _ y2, z2⟩⟩
 refine wpAny_mono (hb A outer s G E (hr.deeper _) [] _ σ G Q I ht) (fun v s' hs => ?_) fun e s' hs => ?_
 ·obtain ⟨x, H', J, rx, qx⟩ := hs;obtain ⟨u1, u2, u3⟩ := Zlx (fs := frs outer) e0.hok hcc (eG ▸ J.base);exact ⟨x, frzC cl h H', J.os, J.bare, u1, u3 _ (fun b o e nf n => J.base.keep b o e (eG ▸ n) nf (by simp [Zi8])) J.hok, rx, H', rfl, u2, qx⟩
 ·refine wpAny_mono hs (fun _ s'' hc => ?_) fun e' s'' hc => ?_
  ·obtain ⟨a, C1, t1, B, H', e1, F, hE⟩ := hc;obtain ⟨u1, u2, u3⟩ := Zlx (fs := frs outer) e0.hok hcc (eG ▸ F.un);exact ⟨a, C1, t1, B, frzC cl h H', e1, ⟨F.os, F.bare, F.fly, u3 B (fun b o e nf n => F.keepB b o e nf (eG ▸ n)) F.hok, u1, fun b o e nf n => F.keepB b o e nf (gN b n), F.thereB⟩, H', rfl, u2, hE⟩
  ·obtain ⟨a, C1, t1, B, H', e1, F, hE⟩ := hc;obtain ⟨u1, u2, u3⟩ := Zlx (fs := frs outer) e0.hok hcc (eG ▸ F.un);exact ⟨a, C1, t1, B, frzC cl h H', e1, ⟨F.os, F.bare, F.fly, u3 B (fun b o e nf n => F.keepB b o e nf (eG ▸ n)) F.hok, u1, fun b o e nf n => F.keepB b o e nf (gN b n), F.thereB⟩, H', rfl, u2, hE⟩
end
end L2
set_option Elab.async false
set_option linter.all false
set_option maxRecDepth 100000
set_option maxHeartbeats 4000000
namespace L2
open PySem PySem.Spec PyProof.Rows
theorem Zhd {env : Env} : ∀ (names : List (Str × NameKind)) (cs : List (Str × Addr)), (∀ x, (x, NameKind.free) ∈ names -> ∃ c, env.cells.lookup x = some c) -> (∀ p ∈ cs, env.cells.lookup p.1 = some p.2) ->
  ∃ cl, (forIn names cs fun (p : Str × NameKind) (r : List (Str × Addr)) => (match p with | (name, kind) => (if (kind == NameKind.free) = true then (do let a <- cellOf env name; pure (ForInStep.yield ((name, a) :: r))) else pure (ForInStep.yield r)) : Sem (ForInStep (List (Str × Addr))))) = pure cl /\ ∀ p ∈ cl, env.cells.lookup p.1 = some p.2
 | [], cs, _, h2 => ⟨cs, rfl, h2⟩
 | (n, k) :: r, cs, h1, h2 => by
  by_cases hk : k = NameKind.free
  ·subst hk;obtain ⟨c, hc⟩ := h1 n List.mem_cons_self;obtain ⟨cl, e, a⟩ := Zhd r ((n, c) :: cs) (fun x hx => h1 x (List.mem_cons_of_mem _ hx)) (fun p hp => by
    rcases List.mem_cons.mp hp with rfl | hp
    ·exact hc
    ·exact h2 p hp)
   refine ⟨cl, ?_, a⟩;rw [List.forIn_cons];have : cellOf env n = pure c := by unfold cellOf; rw [hc]
   simp only [this, beq_self_eq_true, if_true];exact e
  ·obtain ⟨cl, e, a⟩ := Zhd r cs (fun x hx => h1 x (List.mem_cons_of_mem _ hx)) h2;have hb : (k == NameKind.free) = false := by simpa using hk
   refine ⟨cl, ?_, a⟩;rw [List.forIn_cons];simp only [hb, Bool.false_eq_true, if_false];exact e
theorem Zjx {scope : Scope} {env : Env} (h : ∀ x, (x, NameKind.free) ∈ scope.names -> ∃ c, env.cells.lookup x = some c) :
  ∃ cl, closureFor scope env = pure cl /\ (∀ x c, cl.lookup x = some c -> env.cells.lookup x = some c) /\ (∀ x, (x, NameKind.free) ∈ scope.names -> ∃ c, cl.lookup x = some c) /\ ∀ p ∈ cl, env.cells.lookup p.1 = some p.2 := by
 obtain ⟨cl, e, a, b⟩ := Zhc h;obtain ⟨cl', e', a'⟩ := Zhd scope.names [] h (fun p z => nomatch z);have e2 : closureFor scope env = pure cl' := by
  unfold closureFor;show (forIn scope.names [] _ >>= fun cs => pure cs) = pure cl';rw [show (forIn scope.names ([] : List (Str × Addr)) _ : Sem _) = pure cl' from e'];rfl
 have : (pure cl : Sem (List (Str × Addr))) = pure cl' := e.symm.trans e2;have z : cl = cl' := by injection this
 subst z;exact ⟨cl, e, a, b, a'⟩
theorem Asks.mono {P : Program} {w : World} {K : PySem.W.Frag} {mg : Str -> Option Value} {base : Heap} {k : Nat} {f : Addr} {H : Hp} {Q Q' : VK} {E E' : XK} (h : Asks P w K mg base k f H Q E) (hQ : ∀ v H', Q v H' -> Q' v H') (hE : ∀ C H', E (.ref C) none H' -> E' (.ref C) none H') :
  Asks P w K mg base k f H Q' E' := fun A outer s hr e0 => codeAny_mono (h A outer s hr e0) fun r s' hq => by
 cases r with
 | error e =>
  obtain ⟨a, C, t, B, H', e1, F, z⟩ := hq;exact ⟨a, C, t, B, H', e1, F, hE C H' z⟩
 | ok fl =>
  cases fl with
  | ret u =>
   obtain ⟨v, H', z1, z2, z3, z4, z5, z6⟩ := hq;exact ⟨v, H', z1, z2, z3, z4, z5, hQ v H' z6⟩
  | next => exact hq
  | brk => exact hq
  | cont => exact hq
def Zsu (P : Addr) (q : Str) (params : Arguments) (body : Expr) (scope : Scope) (cl : List (Str × Addr)) : TE := fun _ H Q => Tab H P q /\ ∀ f c' ctv pm G oc vs t, But P H G -> H f = none -> Tab G P q -> G f = some (.frz (Zns q params body scope cl pm (.ref c') ctv) HT) -> G c' = some (.frz oc HT) -> oc.data = .fields vs -> vs[1]? = some (.str q t) -> Q (.ref f) G
section
variable {X : Cx} {c P : Addr} {q : Str} {params : Arguments} {body : Expr} {scope : Scope} {cl : List (Str × Addr)} {lpos : Pos}
theorem Znp (lc : LamCx X.mg X.base c P) (hcode : X.env.code = .ref c) (hq : X.env.qual ++ "<lambda>" = q) (hcl : closureFor scope X.env = pure cl) (hdef : defaultsOf params X.env = ([], [])) : PE X (.Lambda params body scope lpos) (Zsu P q params body scope cl) := by
 intro pins s σ H Q I h;obtain ⟨tb, h⟩ := h;exact Zm3 I lc hcode tb hq hcl hdef fun f c' ctv pm G s1 oc vs t I1 b1 b2 b3 b4 b5 b6 b7 _ => ⟨.ref f, G, I1, rfl, h f c' ctv pm G oc vs t b1 b2 b3 b4 b5 b6 b7⟩
def Zk1 (Kd : Addr -> Str -> Prop) (P : Addr) (q : Str) (caps : List (Option Nat)) (te : XK -> TE) : TE := fun σ H Q => Tab H P q /\ ∀ G0, But P H G0 -> Tab G0 P q ->
 te (fun c _ H' => ∃ C wd, c = .ref C /\ Kd C wd /\ ∀ G, Same H' G -> Q (.str wd) G) (capSt caps σ) G0 (fun _ _ => False)
structure Zo9 (X : Cx) (N' : List Str) (scope : Scope) (caps : List (Option Nat)) : Prop where
 s : Zj1 scope N'
 cap : Zra X.N N' scope caps
 vis : ∀ x, (x, NameKind.free) ∈ scope.names -> X.env.kindOf x = some .cell \/ X.env.kindOf x = some .free
variable {fn : Str} {p pos : Pos} {k k1 : Nat} {ps : List Str} {sp : Sp} {N' : List Str} {caps : List (Option Nat)} {te : XK -> TE} {Kd : Addr -> Str -> Prop}
theorem Zlf (F : FnB X.prog X.w X.K X.mg X.base fn k1 ps [] sp) (hr : Room k1 X.A) (hg : Gl X fn) (hfn : ∀ x, X.fn x = true) (lc : LamCx X.mg X.base c P) (hcode : X.env.code = .ref c) (hq : X.env.qual ++ "<lambda>" = q) (S : Zo9 X N' scope caps) (hdef : defaultsOf params X.env = ([], []))
  (hbind : ∀ cl pm cv ctv, bindArgs (PySem.W.kla_fn "<lambda>" q params body scope cl pm cv ctv) ⟨[], []⟩ = pure [])
  (hb : ∀ (f c' : Addr) (cl : List (Str × Addr)) (A : Around) (outer : List Env) (s : Shared) (H : Hp) (E : XK), Room k (A.deeper (PySem.W.envX q scope s.heap.objs.size f (.ref c') cl)) -> PE (Zi8 X.prog X.w X.K X.mg X.base N' q scope f (.ref c') cl A outer s H E) body (te E))
  (hsp : ∀ f o fd H Q E1, H f = some (.frz o HT) -> o.data = .func fd -> Asks X.prog X.w X.K X.mg X.base (k + 1) f H (fun _ _ => False) E1 -> (∀ C H', E1 (.ref C) none H' -> ∃ wd, Kd C wd /\ ∀ G, Same H' G -> Q (.str wd) G) -> sp [.ref f] H Q E0)
  (hdb : (fn == ("__debug__" : Str)) = false := by decide) (he : starEach [Expr.Lambda params body scope lpos] X.env = [(false, eval (.Lambda params body scope lpos) X.env)] := by rfl) :
  PE X (.Call (.Name fn p) [.Lambda params body scope lpos] [] pos) (Zk1 Kd P q caps te) := by
 intro pins s σ H Q I h;obtain ⟨tb, ht⟩ := h;obtain ⟨ff, fd, ds, GF, hm, hk, hbd, hd⟩ := F.ex;obtain ⟨cl, hcl, hcl1, hcl2, hcl3⟩ := Zjx (scope := scope) (env := X.env) fun x hx => I.ok.has x (S.vis x hx)
 refine wpAny_Call_Name_kw (Zef I hg hm ?_ hdb);have ha : PA X [.Lambda params body scope lpos] (Zmk (Zsu P q params body scope cl) Zrb) := Zaa (Znp lc hcode hq hcl hdef) Zad he;refine PySem.W.callWith_K (h₀ := X.base) I.ok.mod.kin hk (thn (ha pos pins s σ H (fun vs G => ∃ f c' ctv pm oc ws t, vs = [.ref f] /\ But P H G /\ Tab G P q /\ G f = some (.frz (Zns q params body scope cl pm (.ref c') ctv) HT) /\ G c' = some (.frz oc HT) /\ oc.data = .fields ws /\ ws[1]? = some (.str q t)) I
  ⟨tb, fun f c' ctv pm G oc ws t b1 b2 b3 b4 b5 b6 b7 => ⟨f, c', ctv, pm, oc, ws, t, rfl, b1, b3, b4, b5, b6, b7⟩⟩) fun us s1 ⟨vs, G, I1, r, hh⟩ => ⟨I1.kIn, ?_⟩) he rfl
 obtain ⟨f, c', ctv, pm, oc, ws, t, rfl, b1, b3, b4, b5, b6, b7⟩ := hh
 -- the cells
 have cX : ∀ b ∈ cl.map (·.2), ∃ x, X.env.cells.lookup x = some b := fun b hb => by
  obtain ⟨⟨x, b'⟩, hx, rfl⟩ := List.mem_map.mp hb;exact ⟨x, hcl3 _ hx⟩
 have cab : ∀ b ∈ cl.map (·.2), X.s₀.heap.objs.size <= b := fun b hb => by
  obtain ⟨x, hx⟩ := cX b hb;exact I.ok.cab x b (hfn x) hx
 have cfree : ∀ b ∈ cl.map (·.2), G b = none := fun b hb => by
  obtain ⟨x, hx⟩ := cX b hb;exact I1.freeC x b hx
 have ccell : ∀ b ∈ cl.map (·.2), ∃ o v, s1.heap.get? b = some o /\ o.data = .cell v := fun b hb => by
  obtain ⟨x, hx⟩ := cX b hb;obtain ⟨v, o, e1, e2⟩ := I1.cell x b hx;exact ⟨o, v, e1, e2⟩
 have noG : ∀ b x, G b = some x -> b ∉ cl.map (·.2) := fun b x e hb => by rw [cfree b hb] at e; cases e
 have e0 := I1.env0;have low : ∀ b, b < X.s₀.heap.objs.size -> b ∉ cl.map (·.2) := fun b hb hm => absurd (Nat.lt_of_lt_of_le hb (cab b hm)) (Nat.lt_irrefl _)
 have e0c : Env0 X.prog X.w X.K X.mg X.base X.A X.stack s1 (frzC cl s1.heap G) := by
  refine ⟨e0.frames, e0.mod, fun b o e => ⟨(e0.bs b o e).1, ?_⟩, e0.bsz, e0.funs, fun b hb => ?_, fun b o e => ?_, e0.bare⟩
  ·rw [frzC_out (low b (Nat.lt_of_lt_of_le (Heap.lt_size e) I.ok.bsz))]; exact (e0.bs b o e).2
  ·rw [frzC_out ?_]
   ·exact e0.frf b hb
   ·intro hm;obtain ⟨x, hx⟩ := cX b hm;rcases List.mem_cons.mp (I1.stkSub b hb) with z | z
    ·exact I1.cne x b hx z
    ·obtain ⟨_, o, ho, _⟩ := I1.ok.funs.mem z;exact low b (Heap.lt_size ho) hm
  ·by_cases hb : b ∈ cl.map (·.2)
   ·obtain ⟨o', v, e1, _⟩ := ccell b hb;rw [Zdb hb, e1] at e; cases e;exact HT.ok e1
   ·rw [frzC_out hb] at e;exact (I1.hok b o e).stay (fun _ _ _ z => z) (fun d z => by rw [frzC_out (noG d _ z)]; exact z) fun d xs z => by rw [frzC_out (noG d _ z)]; exact z
 have hCO : Zjg cl s1.heap scope := ⟨fun x y b h1 h2 => I.ok.inj x y b (hcl1 x b h1) (hcl1 y b h2), hcl2, ccell⟩;have hH : Holds cl s1.heap N' (capSt caps σ) := fun i x v e1 e2 => by
  obtain ⟨m, hns, hl⟩ := I1.loc;have hi : i < caps.length := by rw [S.cap.1]; exact (List.getElem?_eq_some_iff.mp e1).1
  unfold capSt at e2;rw [List.getElem?_map] at e2;cases ec : caps[i]? with
  | none => rw [ec] at e2; cases e2
  | some o =>
   rw [ec] at e2;cases o with
   | none => cases e2
   | some j =>
    have e2 : (σ[j]?).join = some v := Option.some.inj e2;obtain ⟨n1, n2, n3⟩ := S.cap.2 i j x e1 ec;have e3 : σ[j]? = some (some v) := by
     cases z : σ[j]? with
     | none => rw [z] at e2; cases e2
     | some y => rw [z] at e2; exact congrArg some e2
    have hv : X.env.kindOf x = some .cell \/ X.env.kindOf x = some .free := S.vis x n2;obtain ⟨u, ru, lk⟩ := hl j x v n1 e3 (hv.elim (fun z => .inr (.inl z)) (fun z => .inr (.inr z)));obtain ⟨b, hb⟩ := hcl2 x n2;have hb2 := hcl1 x b hb;rcases lk with ⟨z, _⟩ | ⟨_, b', hb', ⟨o, q1, q2⟩⟩
    ·rcases hv with y | y <;> (rw [z] at y; cases y)
    ·rw [hb2] at hb'; cases hb';exact ⟨b, o, u, hb, q1, q2, ru⟩
 have asks := Zjs (P := X.prog) (w := X.w) (K := X.K) (mg := X.mg) (base := X.base) (k := k) (h := s1.heap) (G := G) (te := te) (params := params) (body := body) S.s hCO hH (by unfold capSt; rw [List.length_map]; exact S.cap.1) b4 b5 b6 b7 cfree (hbind cl) (hb f c' cl) (ht G b1 b3);have hsp' := hsp f _ _ (frzC cl s1.heap G) (fun v G' => Q v (unC cl G')) (fun c _ H' => ∃ C wd, c = .ref C /\ Kd C wd /\ ∀ G', Same H' G' -> Q (.str wd) (unC cl G')) (by rw [frzC_out (noG f _ b4)]; exact b4) rfl
  (asks.mono (fun v H' z => by obtain ⟨_, _, _, z⟩ := z; exact z) fun C H' z => by
   obtain ⟨H2, rfl, noH, C2, wd, e1, e2, z⟩ := z;refine ⟨C2, wd, e1, e2, fun G' sG => z _ fun b o e => ?_⟩;have hb : b ∉ cl.map (·.2) := fun hm => by rw [noH b hm] at e; cases e
   rw [Zb4 hb]; exact sG b o (by rw [frzC_out hb]; exact e))
  fun C H' z => by
   obtain ⟨C2, wd, e1, e2, z⟩ := z;cases e1;exact ⟨wd, e2, z⟩
 obtain ⟨u, rfl, ru⟩ := Zhi r;have r2 : Vals ([.ref f] ++ []) ([u] ++ ds) := Vals.append r hd;have hl : ([u] ++ ds).length = ps.length := by rw [<- r2.length]; exact GF.len _ _ _ _ (by simpa using hsp')
 refine wpAny_call (codeAny_mono (GF.run X.A X.stack s1 (frzC cl s1.heap G) ⟨[u], []⟩ ([u] ++ ds) ([.ref f] ++ []) (fun v G' => Q v (unC cl G')) E0 hr e0c (hbd s1 [u] I1.kIn hl) r2 (by simpa using hsp')) fun rr s2 hq => ?_);cases rr with
 | error e => exact False.elim hq
 | ok fl =>
  cases fl with
  | ret u =>
   obtain ⟨v, H', z1, z2, z3, z4, z5, z6⟩ := hq;obtain ⟨y1, y2⟩ := Zlw (fun b hb => ⟨(ccell b hb).imp fun o z => z.choose_spec.1, cfree b hb⟩) z3 z4;exact I1.after ⟨v, unC cl H', z1, z2, y1, y2, z5, z6⟩
  | next => exact False.elim hq
  | brk => exact False.elim hq
  | cont => exact False.elim hq
end
end L2
set_option Elab.async false
set_option linter.all false
set_option maxRecDepth 100000
set_option maxHeartbeats 4000000
namespace L2
open PySem PySem.Spec PyProof.Rows
structure FunAt (K : PySem.W.Frag) (x qual : Str) (st : Stmt) (f : Addr) (fd : FuncData) (cdv : Value) : Prop where
 ex : ∃ (oc : Value) (od : Option Addr) (kV doc pm : Value) (an : Option Addr) (ct : Value) (osl : Array (Option Value)),
  fd = PySem.W.fnOf x qual (Zan st) (defBody st) (defScope st) .none kV doc pm an cdv ct /\ K.lookup f = some ⟨oc, od, .func fd, osl⟩ /\ PySem.W.codeIn K cdv qual = true
theorem FunAt.ok {P : Program} {w : World} {K : PySem.W.Frag} {mg : Str -> Option Value} {base : Heap} {x qual : Str} {st : Stmt} {f : Addr} {fd : FuncData} {cdv : Value} {N ps : List Str} {k : Nat} {sp : Sp} (F : FunAt K x qual st f fd cdv) (S : Zao N ps (defScope st)) (len : ∀ vs H Q E, sp vs H Q E -> vs.length = ps.length)
  (hbody : ∀ (A : Around) (outer : List Env) (s : Shared) (H : Hp) (vs : List V) (Q : VK) (E : XK), Room k (A.deeper (envOfC qual (defScope st) s.heap.objs.size f cdv)) -> sp vs H Q E ->
   ∃ t, PSs (cxOf CX0 P w K mg base N qual (defScope st) f cdv A outer s H E).nox (defBody st) t /\ t { nx := fun _ H' => Q .non H', rt := Q } (start N vs) H) : FnOk P w K mg base CX0 (k + 1) f fd ps sp := by
 obtain ⟨oc, od, kV, doc, pm, an, ct, osl, rfl, lk, hcd⟩ := F.ex;refine Zlz lk hcd S len fun A outer s H vs Q E hr hsp => ?_
 obtain ⟨t, h, q⟩ := hbody A outer s H vs Q E hr hsp;exact ⟨t, h.nox, q⟩
theorem Zg6 {K : PySem.W.Frag} {h : Heap} {T : Addr} (KX : K.In h) (hT : h.get? T = some (PySem.W.tabObj #[])) (hK : PySem.W.noTabs K = true) : K.lookup T = none := by
 cases e : K.lookup T with
 | none => rfl
 | some o =>
  have z := KX T o e;rw [hT] at z; cases z;have h2 := List.all_eq_true.mp hK (T, PySem.W.tabObj #[]) (PySem.W.mem_of_lookupK e);cases h2
theorem Zkz {K : PySem.W.Frag} {x : Str} {f c T : Addr} {oc oc' : Value} {od od' : Option Addr} {fd : FuncData} {sl sl' : Array (Option Value)} {vs : Array Value} (h1 : PySem.W.nsIn K mainGlobals x = some (some (.ref f))) (h2 : K.lookup f = some ⟨oc, od, .func fd, sl⟩) (h3 : fd.code = .ref c)
  (h4 : K.lookup c = some ⟨oc', od', .fields vs, sl'⟩) (h5 : vs[11]? = some (.ref T)) : PySem.W.tabIn K x = some (c, T) := by
 unfold PySem.W.tabIn;simp only [h1, h2, h3, h4, h5]
end L2
set_option Elab.async false
set_option linter.all false
set_option maxRecDepth 100000
set_option maxHeartbeats 4000000
namespace L2
open PySem PySem.Spec PyProof.Rows
def Znv (N N' : List Str) (scope : Scope) (caps : List (Option Nat)) (sc : Scope) : Bool :=
 decide (scope.kind = .function) && !scope.isCoroutine && !scope.isGenerator && (scope.names.all fun y => decide (y.2 ≠ .cell)) && (N'.all fun x => decide (scope.names.lookup x = some .free)) && decide (caps.length = N'.length) &&
 ((N'.zip caps).all fun p => match p.2 with
  | none => true
  | some j => decide (N[j]? = some p.1) && decide ((p.1, NameKind.free) ∈ scope.names) && (scope.names.all fun y => decide (y.1 = p.1 -> y.2 = .free))) &&
 (scope.names.all fun y => decide (y.2 = .free -> sc.names.lookup y.1 = some .cell \/ sc.names.lookup y.1 = some .free))
theorem Zbv {X : Cx} {N' : List Str} {scope : Scope} {caps : List (Option Nat)} {sc : Scope} {N : List Str} (hsc : X.env.scope = sc) (hN : X.N = N) (h : Znv N N' scope caps sc = true) : Zo9 X N' scope caps := by
 subst hsc hN;unfold Znv at h;simp only [Bool.and_eq_true, decide_eq_true_eq, List.all_eq_true, Bool.not_eq_true'] at h;obtain ⟨⟨⟨⟨⟨⟨⟨h1, h2⟩, h3⟩, h4⟩, h5⟩, h6⟩, h7⟩, h8⟩ := h;refine ⟨⟨h1, h2, h3, h4, h5⟩, ⟨h6, fun i j x e1 e2 => ?_⟩, fun x hx => h8 _ hx rfl⟩;have hz : (x, some j) ∈ N'.zip caps := by
  have : (N'.zip caps)[i]? = some (x, some j) := by rw [List.getElem?_zip_eq_some]; exact ⟨e1, e2⟩
  exact List.mem_of_getElem? this
 have q := h7 _ hz;simp only [Bool.and_eq_true, decide_eq_true_eq, List.all_eq_true] at q;exact ⟨q.1.1, q.1.2, fun k hk => q.2 _ hk rfl⟩
theorem Ziu {X : Cx} : Zfy (CXx X.prog X.w) X E0 := fun _ _ _ _ _ _ _ h => by obtain ⟨_, _, _, _, _, _, _, h⟩ := h; exact h.elim
structure Bt5 (mg : Str -> Option Value) : Prop where
 ValueError : mg "ValueError" = none
structure KdOk (K : PySem.W.Frag) (W : Addr) (cs : List Addr) (C : Addr) (i : Nat) : Prop where
 e : Zmd K C
 w : PySem.W.mroIn K C (.ref W) = some true
 v : PySem.W.kitOne K (.ref C) (.type "ValueError") = some true
 k : ∀ j c, cs[j]? = some c -> PySem.W.kitOne K (.ref C) (.ref c) = some (decide (j = i))
def refWords : List Str := ["letter", "piece", "width", "wide", "rule", "time", "key", "text", "row", "room", "road"]
def Kd (K : PySem.W.Frag) (W : Addr) (cs : List Addr) (C : Addr) (wd : Str) : Prop := ∃ i, KdOk K W cs C i /\ refWords[i]? = some wd
def Zp3 (K : PySem.W.Frag) : List V -> Hp -> VK -> Prop := fun xs H Q => ∃ p ys, xs = [.ref p] /\ SqL K H p ys /\ ∀ l G, H l = none -> Same H G -> G l = some (.tup ys) -> Q (.ref l) G
theorem Zma {X : Cx} {K : PySem.W.Frag} (h : X.K = K) : CallR X (.type "tuple") (Zp3 K) := by
 subst h;exact call_tuple_of.imp fun xs H Q ⟨p, ys, e, h1, q⟩ => ⟨p, ys, e, .inl ⟨h1, fun l hl => q l _ hl (Zby hl) Zah⟩⟩
theorem Zau {K : PySem.W.Frag} {C1 C2 : Addr} {b : Bool} {x : Value} {r : Bool} (h1 : PySem.W.mroIn K C1 (.ref C2) = some b) (h2 : PySem.W.typeIn K (.ref C2) = some (.type "type")) (h3 : PySem.W.mroIn K C2 x = some r) (hs : PySem.W.mroIn K C1 (.ref C1) = some true) : PySem.W.kitOne K (.ref C1) (.ref C2) = some b := by
 unfold PySem.W.kitOne
 by_cases e : C1 = C2
 ·subst e;rw [h1] at hs;rw [if_pos (by simp), <- hs]
 ·rw [if_neg (by simpa using e)];show (if ((PySem.W.clsIn K C2).isSome && PySem.W.typeIn K (.ref C2) == some (.type "type")) = true then PySem.W.subIn K (.ref C1) (.ref C2) else none) = some b;have hc : (PySem.W.clsIn K C2).isSome = true := by
   unfold PySem.W.mroIn at h3;cases hq : PySem.W.clsIn K C2 with
   | none => rw [hq] at h3; cases h3
   | some cd => rfl
  rw [hc, h2];exact h1
theorem Zi4 {K : PySem.W.Frag} {C1 : Addr} {b : Bool} (h1 : PySem.W.mroIn K C1 (.type "ValueError") = some b) : PySem.W.kitOne K (.ref C1) (.type "ValueError") = some b := by
 unfold PySem.W.kitOne;rw [if_neg (by simp)];show (if PySem.W.kitMeta "ValueError" = true then PySem.W.subIn K (.ref C1) (.type "ValueError") else none) = some b;rw [if_pos (by decide +kernel)];exact h1
end L2
set_option Elab.async false
set_option linter.all false
set_option maxRecDepth 100000
set_option maxHeartbeats 4000000
namespace L2
open PySem PySem.Spec PyProof.Rows
section
variable {q : Str} {params : Arguments} {body : Expr} {scope : Scope} {N' : List Str} {H G : Hp} {f : Addr} {σ : St}
variable {P : Program} {w : World} {K : PySem.W.Frag} {mg : Str -> Option Value} {base : Heap} {k : Nat} {te : XK -> TE}
end
def Zpw (P : Program) (w : World) (K : PySem.W.Frag) (mg : Str -> Option Value) (base : Heap) (k : Nat) (tf : TE) : TE := fun σ H Q => tf σ H fun x H1 => ∃ f o fd, x = .ref f /\ H1 f = some (.frz o HT) /\ o.data = .func fd /\ Asks P w K mg base k f H1 Q E0
end L2
set_option Elab.async false
set_option linter.all false
set_option maxRecDepth 100000
set_option maxHeartbeats 4000000
namespace L2
open PySem PySem.Spec PyProof.Rows
end L2
set_option Elab.async false
set_option linter.all false
set_option maxRecDepth 100000
set_option maxHeartbeats 4000000
namespace L2
open PySem PySem.Spec PyProof.Rows
end L2
set_option Elab.async false
set_option linter.all false
set_option maxRecDepth 100000
set_option maxHeartbeats 4000000
namespace L2
open PySem PySem.Spec PyProof.Rows
def ClosAt (X : Cx) (scope : Scope) (cl : List (Str × Addr)) : Prop := (∀ x c, cl.lookup x = some c -> X.env.cells.lookup x = some c) /\ (∀ x, (x, NameKind.free) ∈ scope.names -> ∃ c, cl.lookup x = some c) /\ ∀ p ∈ cl, X.env.cells.lookup p.1 = some p.2
def LamV (X : Cx) (q : Str) (params : Arguments) (body : Expr) (scope : Scope) (H : Hp) (f : Addr) : Prop := ∃ cl c' ctv pm oc vs t, ClosAt X scope cl /\ H f = some (.frz (Zns q params body scope cl pm (.ref c') ctv) HT) /\ H c' = some (.frz oc HT) /\ oc.data = .fields vs /\ vs[1]? = some (.str q t)
section
variable {X : Cx} {c P : Addr} {q : Str} {params : Arguments} {body : Expr} {scope : Scope} {lpos : Pos} {H G : Hp} {f : Addr}
theorem LamV.of (c : LamV X q params body scope H f) (h : ∀ b oc, H b = some (.frz oc HT) -> G b = some (.frz oc HT)) : LamV X q params body scope G f := by
 obtain ⟨cl, c', ctv, pm, oc, vs, t, h0, h1, h2, h3, h4⟩ := c;exact ⟨cl, c', ctv, pm, oc, vs, t, h0, h _ _ h1, h _ _ h2, h3, h4⟩
def Zf0 (X : Cx) (P : Addr) (q : Str) (params : Arguments) (body : Expr) (scope : Scope) : TE := fun _ H Q => Tab H P q /\ ∀ f G, H f = none -> But P H G -> Tab G P q -> LamV X q params body scope G f -> Q (.ref f) G
theorem Zdp (lc : LamCx X.mg X.base c P) (hcode : X.env.code = .ref c) (hq : X.env.qual ++ "<lambda>" = q) (vis : ∀ x, (x, NameKind.free) ∈ scope.names -> X.env.kindOf x = some .cell \/ X.env.kindOf x = some .free) (hdef : defaultsOf params X.env = ([], [])) :
  PE X (.Lambda params body scope lpos) (Zf0 X P q params body scope) := by
 intro pins s σ H Q I h;obtain ⟨tb, h⟩ := h;obtain ⟨cl, hcl, hcl1, hcl2, hcl3⟩ := Zjx (scope := scope) (env := X.env) fun x hx => I.ok.has x (vis x hx)
 exact Znp lc hcode hq hcl hdef pins s σ H Q I ⟨tb, fun f c' ctv pm G oc vs t b1 b2 b3 b4 b5 b6 b7 => h f G b2 b1 b3 ⟨cl, c', ctv, pm, oc, vs, t, ⟨hcl1, hcl2, hcl3⟩, b4, b5, b6, b7⟩⟩
end
def Live (X : Cx) (k : Nat) (f : Addr) (H : Hp) (σ : St) (Q : VK) (E : XK) : Prop := ∃ (o : Obj) (fd : FuncData) (cl : List (Str × Addr)), H f = some (.frz o HT) /\ o.data = .func fd /\ (∀ b ∈ cl.map (·.2), ∃ x, X.env.cells.lookup x = some b) /\
 ∀ pins s1, Inv X pins σ H s1 -> Asks X.prog X.w X.K X.mg X.base k f (frzC cl s1.heap H) (fun v H' => ∃ H2, H' = frzC cl s1.heap H2 /\ (∀ b ∈ cl.map (·.2), H2 b = none) /\ Q v H2) (fun c _ H' => ∃ H2, H' = frzC cl s1.heap H2 /\ (∀ b ∈ cl.map (·.2), H2 b = none) /\ E c none H2)
section
variable {X : Cx} {q : Str} {params : Arguments} {body : Expr} {scope : Scope} {H G : Hp} {f : Addr} {N' : List Str} {caps : List (Option Nat)} {te : XK -> TE} {k : Nat} {σ : St} {pins : List (Addr × Obj)} {s1 s2 : Shared} {cl : List (Str × Addr)}
theorem Zcm (v : LamV X q params body scope H f) (S : Zo9 X N' scope caps) (hbind : ∀ cl pm cv ctv, bindArgs (PySem.W.kla_fn "<lambda>" q params body scope cl pm cv ctv) ⟨[], []⟩ = pure [])
  (hb : ∀ (f c' : Addr) (cl : List (Str × Addr)) (A : Around) (outer : List Env) (s : Shared) (H : Hp) (E : XK), Room k (A.deeper (PySem.W.envX q scope s.heap.objs.size f (.ref c') cl)) -> PE (Zi8 X.prog X.w X.K X.mg X.base N' q scope f (.ref c') cl A outer s H E) body (te E))
  {Q : VK} {E : XK} (ht : te E (capSt caps σ) H Q) : Live X (k + 1) f H σ Q E := by
 obtain ⟨cl, c', ctv, pm, oc, vs, t, ⟨hcl1, hcl2, hcl3⟩, b4, b5, b6, b7⟩ := v;have cX : ∀ b ∈ cl.map (·.2), ∃ x, X.env.cells.lookup x = some b := fun b hb => by
  obtain ⟨⟨x, b'⟩, hx, rfl⟩ := List.mem_map.mp hb;exact ⟨x, hcl3 _ hx⟩
 refine ⟨_, _, cl, b4, rfl, cX, fun pins s1 I1 => ?_⟩;have cfree : ∀ b ∈ cl.map (·.2), H b = none := fun b hb => by
  obtain ⟨x, hx⟩ := cX b hb;exact I1.freeC x b hx
 have ccell : ∀ b ∈ cl.map (·.2), ∃ o v, s1.heap.get? b = some o /\ o.data = .cell v := fun b hb => by
  obtain ⟨x, hx⟩ := cX b hb;obtain ⟨v, o, e1, e2⟩ := I1.cell x b hx;exact ⟨o, v, e1, e2⟩
 have hCO : Zjg cl s1.heap scope := ⟨fun x y b h1 h2 => I1.ok.inj x y b (hcl1 x b h1) (hcl1 y b h2), hcl2, ccell⟩;have hH : Holds cl s1.heap N' (capSt caps σ) := fun i x v e1 e2 => by
  obtain ⟨m, hns, hl⟩ := I1.loc;unfold capSt at e2;rw [List.getElem?_map] at e2;cases ec : caps[i]? with
  | none => rw [ec] at e2; cases e2
  | some o =>
   rw [ec] at e2;cases o with
   | none => cases e2
   | some j =>
    have e2 : (σ[j]?).join = some v := Option.some.inj e2;obtain ⟨n1, n2, n3⟩ := S.cap.2 i j x e1 ec;have e3 : σ[j]? = some (some v) := by
     cases z : σ[j]? with
     | none => rw [z] at e2; cases e2
     | some y => rw [z] at e2; exact congrArg some e2
    have hv : X.env.kindOf x = some .cell \/ X.env.kindOf x = some .free := S.vis x n2;obtain ⟨u, ru, lk⟩ := hl j x v n1 e3 (hv.elim (fun z => .inr (.inl z)) (fun z => .inr (.inr z)));obtain ⟨b, hb⟩ := hcl2 x n2;have hb2 := hcl1 x b hb;rcases lk with ⟨z, _⟩ | ⟨_, b', hb', ⟨o, q1, q2⟩⟩
    ·rcases hv with y | y <;> (rw [z] at y; cases y)
    ·rw [hb2] at hb'; cases hb';exact ⟨b, o, u, hb, q1, q2, ru⟩
 exact Zjs (P := X.prog) (w := X.w) (K := X.K) (mg := X.mg) (base := X.base) (k := k) (h := s1.heap) (G := H) (te := te) (params := params) (body := body) S.s hCO hH (by unfold capSt; rw [List.length_map]; exact S.cap.1) b4 b5 b6 b7 cfree (hbind cl) (hb f c' cl) ht
theorem Zh0 (I1 : Inv X pins σ G s1) (hfn : ∀ x, X.fn x = true) (cX : ∀ b ∈ cl.map (·.2), ∃ x, X.env.cells.lookup x = some b) : Env0 X.prog X.w X.K X.mg X.base X.A X.stack s1 (frzC cl s1.heap G) := by
 have cab : ∀ b ∈ cl.map (·.2), X.s₀.heap.objs.size <= b := fun b hb => by
  obtain ⟨x, hx⟩ := cX b hb;exact I1.ok.cab x b (hfn x) hx
 have cfree : ∀ b ∈ cl.map (·.2), G b = none := fun b hb => by
  obtain ⟨x, hx⟩ := cX b hb;exact I1.freeC x b hx
 have noG : ∀ b x, G b = some x -> b ∉ cl.map (·.2) := fun b x e hb => by rw [cfree b hb] at e; cases e
 have e0 := I1.env0;have low : ∀ b, b < X.s₀.heap.objs.size -> b ∉ cl.map (·.2) := fun b hb hm => absurd (Nat.lt_of_lt_of_le hb (cab b hm)) (Nat.lt_irrefl _)
 refine ⟨e0.frames, e0.mod, fun b o e => ⟨(e0.bs b o e).1, ?_⟩, e0.bsz, e0.funs, fun b hb => ?_, fun b o e => ?_, e0.bare⟩
 ·rw [frzC_out (low b (Nat.lt_of_lt_of_le (Heap.lt_size e) I1.ok.bsz))]; exact (e0.bs b o e).2
 ·rw [frzC_out ?_]
  ·exact e0.frf b hb
  ·intro hm;obtain ⟨x, hx⟩ := cX b hm;rcases List.mem_cons.mp (I1.stkSub b hb) with z | z
   ·exact I1.cne x b hx z
   ·obtain ⟨_, o, ho, _⟩ := I1.ok.funs.mem z;exact low b (Heap.lt_size ho) hm
 ·by_cases hb : b ∈ cl.map (·.2)
  ·obtain ⟨x, hx⟩ := cX b hb;obtain ⟨v, o', e1, e2⟩ := I1.cell x b hx;rw [Zdb hb, e1] at e; cases e;exact HT.ok e1
  ·rw [frzC_out hb] at e;exact (I1.hok b o e).stay (fun _ _ _ z => z) (fun d z => by rw [frzC_out (noG d _ z)]; exact z) fun d xs z => by rw [frzC_out (noG d _ z)]; exact z
theorem Zln (I1 : Inv X pins σ G s1) (cX : ∀ b ∈ cl.map (·.2), ∃ x, X.env.cells.lookup x = some b) {Q : VK} {u : Value} (h : CE X.stack X.prog X.w (frzC cl s1.heap G) s1 (fun v G' => Q v (unC cl G')) u s2) : CE X.stack X.prog X.w G s1 Q u s2 := by
 obtain ⟨v, H', z1, z2, z3, z4, z5, z6⟩ := h;obtain ⟨y1, y2⟩ := Zlw (fun b hb => by
  obtain ⟨x, hx⟩ := cX b hb;obtain ⟨v, o', e1, e2⟩ := I1.cell x b hx;exact ⟨⟨o', e1⟩, I1.freeC x b hx⟩) z3 z4
 exact ⟨v, unC cl H', z1, z2, y1, y2, z5, z6⟩
theorem Zmj {h : Heap} {H2 : Hp} (e : ∀ b ∈ cl.map (·.2), H2 b = none) : unC cl (frzC cl h H2) = H2 := by
 funext b
 by_cases hb : b ∈ cl.map (·.2)
 ·rw [Zga hb, e b hb]
 ·rw [Zb4 hb, frzC_out hb]
theorem Zmn {h : Heap} {H2 G' : Hp} (e : ∀ b ∈ cl.map (·.2), H2 b = none) (s : Same (frzC cl h H2) G') : Same H2 (unC cl G') := fun b o z => by
 have hb : b ∉ cl.map (·.2) := fun hm => by rw [e b hm] at z; cases z
 rw [Zb4 hb]; exact s b o (by rw [frzC_out hb]; exact z)
end
def Zqq (R : V -> Hp -> Prop) (vs : List V) (G : Hp) : Prop := match vs with
 | [x] => R x G
 | _ => False
theorem Zmz {R : V -> Hp -> Prop} {vs : List V} {G : Hp} (h : Zqq R vs G) : ∃ x, vs = [x] /\ R x G := by
 match vs, h with
 | [x], h => exact ⟨x, rfl, h⟩
def cxSub (X : Cx) (N' : List Str) (s₀ : Shared) (H₀ : Hp) (env : Env) (outer : List Env) (ex : List Addr) (fn : Str -> Bool) (pn : List (Addr × Obj)) (xe : Value -> Shared -> Prop) : Cx := { X with N := N', s₀ := s₀, H₀ := H₀, env := env, outer := outer, ex := ex, fn := fn, pn := pn, xe := xe }
def Zhj (X : Cx) (k : Nat) (Kd : Addr -> Str -> Prop) (σo : St -> St) (te : TE) : TE := fun σ' H Q => te σ' H fun x H1 => ∃ f E1, x = .ref f /\ Live X k f H1 (σo σ') (fun _ _ => False) E1 /\ ∀ C H', E1 (.ref C) none H' -> ∃ wd, Kd C wd /\ ∀ G, Same H' G -> Q (.str wd) G
section
variable {X : Cx} {N' : List Str} {s₀ : Shared} {H₀ : Hp} {env : Env} {outer : List Env} {ex : List Addr} {fn1 : Str -> Bool} {pn : List (Addr × Obj)} {xe : Value -> Shared -> Prop}
variable {fn : Str} {p pos : Pos} {k k1 : Nat} {ps : List Str} {sp : Sp} {e : Expr} {te : TE} {Kd : Addr -> Str -> Prop} {σo : St -> St}
theorem Zlg (F : FnB X.prog X.w X.K X.mg X.base fn k1 ps [] sp) (hr : Room k1 X.A) (hg : Gl (cxSub X N' s₀ H₀ env outer ex fn1 pn xe) fn) (hfn : ∀ x, X.fn x = true)
  (back : ∀ pins' σ' H' s', Inv (cxSub X N' s₀ H₀ env outer ex fn1 pn xe) pins' σ' H' s' -> ∃ pins, Inv X pins (σo σ') H' s')
  (he : PE (cxSub X N' s₀ H₀ env outer ex fn1 pn xe) e te)
  (hsp : ∀ f o fd H Q E1, H f = some (.frz o HT) -> o.data = .func fd -> Asks X.prog X.w X.K X.mg X.base k f H (fun _ _ => False) E1 -> (∀ C H', E1 (.ref C) none H' -> ∃ wd, Kd C wd /\ ∀ G, Same H' G -> Q (.str wd) G) -> sp [.ref f] H Q E0)
  (hdb : (fn == ("__debug__" : Str)) = false) (hs : starEach [e] env = [(false, eval e env)]) :
  PE (cxSub X N' s₀ H₀ env outer ex fn1 pn xe) (.Call (.Name fn p) [e] [] pos) (Zhj X k Kd σo te) := by
 intro pins s σ H Q I h;obtain ⟨ff, fd, ds, GF, hm, hk, hbd, hd⟩ := F.ex;refine wpAny_Call_Name_kw (Zef I hg hm ?_ hdb);have ha : PA (cxSub X N' s₀ H₀ env outer ex fn1 pn xe) [e] (Zmk te Zrb) := Zaa he Zad hs;refine PySem.W.callWith_K (h₀ := X.base) I.ok.mod.kin hk (thn (ha pos pins s σ H (Zqq fun x G => ∃ f E1, x = .ref f /\ Live X k f G (σo σ) (fun _ _ => False) E1 /\ ∀ C H', E1 (.ref C) none H' -> ∃ wd, Kd C wd /\ ∀ G, Same H' G -> Q (.str wd) G) I h) fun us s1 ⟨vs, G, I1, r, hh⟩ => ⟨I1.kIn, ?_⟩) hs rfl;obtain ⟨x, rfl, f, E1, rfl, ⟨o, fo, cl, l1, l2, cX, ask⟩, hE⟩ := Zmz hh;obtain ⟨pinsX, IX⟩ := back _ _ _ _ I1;have e0c := Zh0 IX hfn cX;have noF : f ∉ cl.map (·.2) := fun hb => by
  obtain ⟨x, hx⟩ := cX f hb;rw [IX.freeC x f hx] at l1; cases l1
 have hsp' := hsp f _ _ (frzC cl s1.heap G) (fun v G' => Q v (unC cl G')) (fun c _ H' => ∃ H2, H' = frzC cl s1.heap H2 /\ (∀ b ∈ cl.map (·.2), H2 b = none) /\ E1 c none H2) (by rw [frzC_out noF]; exact l1) l2
  ((ask _ _ IX).mono (fun v H' z => by obtain ⟨_, _, _, z⟩ := z; exact z) fun C H' z => z)
  fun C H' z => by
   obtain ⟨H2, rfl, noH, z⟩ := z;obtain ⟨wd, kd, hq⟩ := hE C H2 z;exact ⟨wd, kd, fun G' sG => hq _ (Zmn noH sG)⟩
 obtain ⟨u, rfl, ru⟩ := Zhi r;have r2 : Vals ([.ref f] ++ []) ([u] ++ ds) := Vals.append r hd;have hl : ([u] ++ ds).length = ps.length := by rw [<- r2.length]; exact GF.len _ _ _ _ (by simpa using hsp')
 refine wpAny_call (codeAny_mono (GF.run X.A X.stack s1 (frzC cl s1.heap G) ⟨[u], []⟩ ([u] ++ ds) ([.ref f] ++ []) (fun v G' => Q v (unC cl G')) E0 hr e0c (hbd s1 [u] I1.kIn hl) r2 (by simpa using hsp')) fun rr s2 hq => ?_);cases rr with
 | error e => exact False.elim hq
 | ok fl =>
  cases fl with
  | ret u => exact I1.after (Zln IX cX hq)
  | next => exact False.elim hq
  | brk => exact False.elim hq
  | cont => exact False.elim hq
end
section
variable {X : Cx} {k : Nat} {e : Expr} {te : TE} {pos : Pos}
def Zhk (X : Cx) (k : Nat) (te : TE) : TE := fun σ H Q => te σ H fun x H1 => ∃ f, x = .ref f /\ Live X k f H1 σ Q fun _ _ _ => False
theorem Zmw (he : PE X e te) (hr : Room k X.A) (hfn : ∀ x, X.fn x = true)
  (hc : ∀ (Q : Value -> Shared -> Prop) (E : Value -> Shared -> Prop) (s : Shared), wpAny (model X.prog X.w) X.A (eval e X.env) (fun fv s1 => wpAny (model X.prog X.w) X.A (callWith pos fv [] (backTo pos (starEach [] X.env)) (backToKw pos (keywordEach [] X.env))) Q E s1) E s -> wpAny (model X.prog X.w) X.A (eval (.Call e [] [] pos) X.env) Q E s) :
  PE X (.Call e [] [] pos) (Zhk X k te) := by
 intro pins s σ H Q I h;refine hc _ _ _ (thn (he pins s σ H _ I h) fun u s1 ⟨x, H1, I1, rx, f, e1, ⟨o, fd, cl, e2, e3, cX, ask⟩⟩ => ?_);subst e1;cases (show u = Value.ref f from rx);have hF : PySem.W.FnAt f s1.heap := by
  have hget := I1.hok.frz e2;obtain ⟨c1, d1, dt, sl⟩ := o;have hd' : dt = .func fd := e3;subst hd';exact ⟨c1, d1, fd, sl, hget⟩
 refine PySem.W.callWith_F0 hF (wpAny_call (codeAny_mono (ask _ _ I1 X.A X.stack s1 hr (Zh0 I1 hfn cX)) fun r s2 hq => ?_));cases r with
 | error e => obtain ⟨_, _, _, _, _, _, _, _, _, _, z⟩ := hq; exact z.elim
 | ok fl =>
  cases fl with
  | ret v =>
   obtain ⟨x, H', z1, z2, z3, z4, z5, H2, rfl, z7, z8⟩ := hq;exact I1.after (Zln I1 cX ⟨x, _, z1, z2, z3, z4, z5, by show Q x (unC cl (frzC cl s1.heap H2)); rw [Zmj z7]; exact z8⟩)
  | next => exact False.elim hq
  | brk => exact False.elim hq
  | cont => exact False.elim hq
theorem Zn7 {M : Model} {A : Around} {env : Env} {a b : Expr} {p pos : Pos} (Q : Value -> Shared -> Prop) (E : Value -> Shared -> Prop) (s : Shared) (h : wpAny M A (eval (.Subscript a b p) env) (fun fv s1 => wpAny M A (callWith pos fv [] (backTo pos (starEach [] env)) (backToKw pos (keywordEach [] env))) Q E s1) E s) :
  wpAny M A (eval (.Call (.Subscript a b p) [] [] pos) env) Q E s := by
 show wpAny M A (do let f <- eval (.Subscript a b p) env; callWith pos f [] (backTo pos (starEach [] env)) (backToKw pos (keywordEach [] env))) Q E s;exact wpAny_bind h
end
def Zne (caps : List (Option Nat)) (wi : TI) (g : TG) (tc : St -> TT) (te : TE) : TE := fun σ H Q => wi σ H fun J H1 => Zfz caps g (tc σ) te σ Q J H1
section
variable {X : Cx} {elt tg iter : Expr} {ifs : List Expr} {scope : Scope} {pos : Pos} {N' : List Str} {caps : List (Option Nat)} {wi : TI} {g : TG} {tc : St -> TT} {te : TE}
theorem Zm5 {cl : List (Str × Addr)} {C : Addr} {s2 s' : Shared} {H2 H' : Hp} {fp : List Addr} {pins pins' : List (Addr × Obj)} {σ σ' : St} (I : Inv X pins σ H2 s2) (f2 : ∀ b ∈ fp, FpOk X pins H2 b) (J : Inv (cxComp X N' scope cl C s2 H2 fp) pins' σ' H' s') : Inv X pins σ H' s' :=
 I.call' (ch := fp) J.os J.base J.hok J.bare fun b hb => ⟨(f2 b hb).2.2.2.1, (f2 b hb).2.1, (f2 b hb).2.2.2.2.1, (f2 b hb).2.2.2.2.2⟩
theorem Zmv (S : Zdi X N' scope caps) (hc : X.calm = true) (hi : PI X tg iter wi)
  (hg : ∀ cl C s H ex, PG (cxComp X N' scope cl C s H ex) tg g) (ht : ∀ cl C s H ex pins σ, Inv X pins σ H s -> (∀ b ∈ ex, FpOk X pins H b) -> PIfs (cxComp X N' scope cl C s H ex) ifs (tc σ)) (he : ∀ cl C s H ex, PE (cxComp X N' scope cl C s H ex) elt te)
  (hs : ∀ x, foldedSetIterable iter X.env x = pure x := by intro _; rfl) : PE X (.ListComp elt [⟨tg, iter, ifs, 0⟩] scope pos) (Zne caps wi g tc te) := by
 intro pins s σ H Q I h;obtain ⟨cl, ecl, hcl1, hcl2⟩ := Zhc (I.cellsOf S);rw [eval_ListComp];refine wpAny_comprehension_free (use := none) rfl hs ecl S.kind S.locs (thn (hi pins s σ H _ I h) fun v s1 h1 => thn h1 fun itv s2 h2 => ?_);obtain ⟨it, fp, tn, J, H2, e, I2, T, st2, f2, W, w0, turn⟩ := h2;subst e;refine Zhb S hc hcl1 hcl2 hg (fun C => ht _ C _ _ _ _ _ I2 f2) he I2 T st2 f2 W w0 turn fun D C oC m s' H' I' hn q hC hcell hpin hoC => ?_
 refine ⟨m, hn, fun h' hs' => ⟨.ref D, H', ?_, rfl, q⟩⟩;have pC := I'.pin (C, oC) (List.mem_append_right _ (List.mem_append_right _ (by simp)));exact (I'.pins_of (pins' := pins) fun p hp => I'.pin p (List.mem_append_right _ (List.mem_append_left _ hp))).turned (t' := s'.toks) (it := C) (fun b o hb e => (hs'.2 b hb).trans e) pC.2.1 pC.2.2.1 (.inr hC) hcell hpin
end
section
variable {X : Cx} {fn : Str} {p pos : Pos} {k k1 : Nat} {ps : List Str} {sp : Sp} {e : Expr} {te : TE} {Kd : Addr -> Str -> Prop}
theorem Zol (F : FnB X.prog X.w X.K X.mg X.base fn k1 ps [] sp) (hr : Room k1 X.A) (hg : Gl X fn) (hfn : ∀ x, X.fn x = true) (he : PE X e te)
  (hsp : ∀ f o fd H Q E1, H f = some (.frz o HT) -> o.data = .func fd -> Asks X.prog X.w X.K X.mg X.base k f H (fun _ _ => False) E1 -> (∀ C H', E1 (.ref C) none H' -> ∃ wd, Kd C wd /\ ∀ G, Same H' G -> Q (.str wd) G) -> sp [.ref f] H Q E0)
  (hdb : (fn == ("__debug__" : Str)) = false := by decide) (hs : starEach [e] X.env = [(false, eval e X.env)] := by rfl) : PE X (.Call (.Name fn p) [e] [] pos) (Zhj X k Kd id te) :=
 Zlg (X := X) (N' := X.N) (s₀ := X.s₀) (H₀ := X.H₀) (env := X.env) (outer := X.outer) (ex := X.ex) (fn1 := X.fn) (pn := X.pn) (xe := X.xe) (σo := id) F hr hg hfn (fun pins' _ _ _ I => ⟨pins', I⟩) he hsp hdb hs
theorem Zom {N' : List Str} {scope : Scope} {cl : List (Str × Addr)} {C : Addr} {s2 : Shared} {H2 : Hp} {fp : List Addr} {pins : List (Addr × Obj)} {σ : St} (I : Inv X pins σ H2 s2) (f2 : ∀ b ∈ fp, FpOk X pins H2 b)
  (F : FnB X.prog X.w X.K X.mg X.base fn k1 ps [] sp) (hr : Room k1 X.A) (hg : Gl (cxComp X N' scope cl C s2 H2 fp) fn) (hfn : ∀ x, X.fn x = true) (he : PE (cxComp X N' scope cl C s2 H2 fp) e te)
  (hsp : ∀ f o fd H Q E1, H f = some (.frz o HT) -> o.data = .func fd -> Asks X.prog X.w X.K X.mg X.base k f H (fun _ _ => False) E1 -> (∀ C H', E1 (.ref C) none H' -> ∃ wd, Kd C wd /\ ∀ G, Same H' G -> Q (.str wd) G) -> sp [.ref f] H Q E0)
  (hdb : (fn == ("__debug__" : Str)) = false := by decide) (hs : starEach [e] (compEnvC scope cl C X.env) = [(false, eval e (compEnvC scope cl C X.env))] := by rfl) : PE (cxComp X N' scope cl C s2 H2 fp) (.Call (.Name fn p) [e] [] pos) (Zhj X k Kd (fun _ => σ) te) :=
 Zlg (X := X) (N' := N') (s₀ := s2) (H₀ := H2) (env := compEnvC scope cl C X.env) (outer := X.stack) (ex := fp) (fn1 := fun _ => false) (pn := []) (xe := fun _ _ => False) (σo := fun _ => σ) F hr hg hfn (fun pins' σ' H' s' J => ⟨pins, Zm5 (N' := N') (scope := scope) (cl := cl) (C := C) I f2 J⟩) he hsp hdb hs
end
end L2
set_option Elab.async false
set_option linter.all false
set_option maxRecDepth 100000
set_option maxHeartbeats 4000000
namespace L2
open PySem PySem.Spec PyProof.Rows
theorem Zkl {P : Program} {w : World} {K : PySem.W.Frag} {mg mb : Str -> Option Value} {k : Nat} {fa a : Addr} {cts : List (Addr × Addr)} {fd : FuncData} {x : Str} {sp : Sp} {s₁ : Shared} {vs : List Value} {ns : List Int}
  (KX : K.In s₁.heap) (hns : s₁.heap.Ns mainGlobals mg) (hb : s₁.heap.Ns builtinsNs mb) (hbb : ∀ x : Str, x ≠ "__name__" -> mb x = bootBuiltins x) (hlim : s₁.heap.NoLimit) (hg : s₁.gens = #[])
  (hbm : ∃ bm ob, mg "__builtins__" = some (.ref bm) /\ bm ≠ builtinsNs /\ s₁.heap.get? bm = some ob /\ ob.cls = .type "module" /\ ob.dict = some builtinsNs /\ ob.data = .plain)
  (hcd : ∀ x ∈ cts, PySem.W.CodeHd s₁.heap x.1 x.2) (hTT : ∀ x ∈ cts, s₁.heap.get? x.2 = some (PySem.W.tabObj #[])) (hKTT : ∀ x ∈ cts, K.lookup x.2 = none)
  (ha : s₁.heap.get? a = some { cls := .type "list", data := .seq vs.toArray }) (hi : IntsAre vs ns) (hl : ns.length <= sizeLine) (hr : Room k callerA)
  (F : ∀ base : Heap, K.In base -> base.Ns mainGlobals mg -> (∀ x ∈ cts, LamCx mg base x.1 x.2) -> FnOk P w K mg base CX0 k fa fd [x] sp) (hbind : ∀ (s : Shared) (u : Value), BindsTo s fd ⟨[u], []⟩ [(x, u)])
  (hsp : ∀ H : Hp, (∀ x ∈ cts, H x.2 = some (.tbl #[])) -> SqL K H a (ns.map V.int) -> sp [.ref a] H (fun v _ => v = .bl true) fun _ _ _ => False) :
  codeAny (model P w) callerA (.call (.ref fa) ⟨[.ref a], []⟩) (fun r s' => r = .ok (.ret (.bool true)) /\ OldK s₁.heap s'.heap /\ s'.os = s₁.os /\ AllBare s'.gens) s₁ := by
 have rv := Zhh hi;have lenV := hi.length;have hT : ∀ b ∈ cts.map (·.2), s₁.heap.get? b = some (PySem.W.tabObj #[]) := fun b hb => by obtain ⟨x, hx, rfl⟩ := List.mem_map.mp hb; exact hTT x hx
 have hKT : ∀ b ∈ cts.map (·.2), K.lookup b = none := fun b hb => by obtain ⟨x, hx, rfl⟩ := List.mem_map.mp hb; exact hKTT x hx
 have aT : a ∉ cts.map (·.2) := fun z => by have := hT a z; rw [ha] at this; cases this
 obtain ⟨bm, ob, m1, m2, m3, m4, m5, m6⟩ := hbm;have core : ∀ H : Hp, (∀ b, H b = none \/ (∃ o xs, H b = some (.frz o (.lst xs))) \/ b ∈ cts.map (·.2)) -> (∀ b ∈ cts.map (·.2), H b = some (.tbl #[])) -> SqL K H a (ns.map V.int) -> HOk P w H s₁.heap -> (∀ b, H b ≠ none -> b = a \/ b ∈ cts.map (·.2)) -> (H a ≠ none -> K.lookup a = none) ->
   codeAny (model P w) callerA (.call (.ref fa) ⟨[.ref a], []⟩) (fun r s' => r = .ok (.ret (.bool true)) /\ OldK s₁.heap s'.heap /\ s'.os = s₁.os /\ AllBare s'.gens) s₁ := by
  intro H hO hHT hS hok hA hK;have base_of : ∀ {b : Addr} {o : Obj}, s₁.heap.get? b = some o -> H b = none -> (hidT s₁.heap H).get? b = some o := fun e n => Zm6 e n
  have no2 : ∀ {b : Addr} {o : Obj}, s₁.heap.get? b = some o -> o.cls ≠ .type "list" -> o.cls ≠ .none -> H b = none := fun {b o} e n1 n2 => by
   cases q : H b with
   | none => rfl
   | some u =>
    rcases hA b (by rw [q]; simp) with e' | e'
    ·subst e'; rw [ha] at e; cases e; exact absurd rfl n1
    ·rw [hT b e'] at e; cases e; exact absurd rfl n2
  have noA : ∀ {b : Addr} {o : Obj} {es : Array DictEntry} {ep : Nat}, s₁.heap.get? b = some o -> o.data = .dict es ep -> H b = none := fun {b o es ep} e d => by
   cases q : H b with
   | none => rfl
   | some u =>
    rcases hA b (by rw [q]; simp) with e' | e'
    ·subst e'; rw [ha] at e; cases e;have d' : Data.seq vs.toArray _ = Data.dict es ep := d;cases d'
    ·rw [hT b e'] at e; cases e;have d' : Data.fields #[] = Data.dict es ep := d;cases d'
  have nsK : ∀ {b : Addr} {m : Str -> Option Value}, s₁.heap.Ns b m -> (hidT s₁.heap H).Ns b m := fun {b m} ⟨o, es, ep, e, d, r⟩ => ⟨o, es, ep, base_of e (noA e d), d, r⟩
  have hKb : K.In (hidT s₁.heap H) := fun b o e => base_of (KX b o e) (by
   cases q : H b with
   | none => rfl
   | some u =>
    rcases hA b (by rw [q]; simp) with e' | e'
    ·subst e'; rw [hK (by rw [q]; simp)] at e; cases e
    ·rw [hKT b e'] at e; cases e)
  have hM : Mod K mg (hidT s₁.heap H) := ⟨hKb, nsK hns, ⟨mb, nsK hb, hbb⟩, let ⟨mc, h1, h2⟩ := hlim; ⟨mc, nsK h1, h2⟩⟩;have hLC : ∀ x ∈ cts, LamCx mg (hidT s₁.heap H) x.1 x.2 := fun x hx => by
   have hTx := hTT x hx;refine ⟨?_, ?_, bm, ob, m1, m2, ?_, ?_, base_of m3 (no2 m3 (by rw [m4]; nofun) (by rw [m4]; nofun)), m4, m5, m6⟩
   ·obtain ⟨o, ws, file, tf, flags, tg, inF, text, tt, e1, e2, r⟩ := hcd x hx;exact ⟨o, ws, file, tf, flags, tg, inF, text, tt, base_of e1 (no2 e1 (by rw [e2]; nofun) (by rw [e2]; nofun)), e2, r⟩
   ·intro z;obtain ⟨o, es, ep, e, d, _⟩ := hns;rw [z, hTx] at e; cases e; cases d
   ·intro z;obtain ⟨o, es, ep, e, d, _⟩ := hns;rw [<- z, m3] at e; cases e; rw [m6] at d; cases d
   ·intro z; rw [z, hTx] at m3; cases m3; cases m4
  have e0 : Env0 P w K mg (hidT s₁.heap H) callerA [] s₁ H := ⟨rfl, hM, fun b o e => Zot e, Nat.le_of_eq (Zlu _ _), trivial, fun b hb => absurd (show b ∈ ([] : List Addr) from hb) (by simp), hok, .of_eq hg⟩;refine codeAny_mono ((F _ hKb (nsK hns) hLC).run callerA [] s₁ H ⟨[.ref a], []⟩ [.ref a] [.ref a] _ _ hr e0 (hbind s₁ (.ref a)) (.cons rfl .nil) (hsp H (fun x hx => hHT _ (List.mem_map_of_mem hx)) hS)) fun r s' h => ?_
  cases r with
  | error e => exact h.elim
  | ok fl =>
   cases fl with
   | next => exact False.elim h
   | brk => exact False.elim h
   | cont => exact False.elim h
   | ret u =>
    obtain ⟨v, H', os, bare, un, hok', r', q⟩ := h;have q' : v = .bl true := q;subst q';obtain rfl : u = Value.bool true := r';have kp : ∀ b o, s₁.heap.get? b = some o -> b ∉ cts.map (·.2) -> s'.heap.get? b = some o := fun b o e hbT => by
     cases q : H b with
     | none => exact un.keep b o e q (by intro z; exact absurd (show b ∈ ([] : List Addr) from z) (by simp)) (by simp)
     | some u =>
      rcases hO b with z | ⟨ob, xs, z⟩ | z
      ·rw [q] at z; cases z
      ·have z2 := un.frzs b ob _ z;obtain ⟨e1, _⟩ := hok b _ z;obtain ⟨e2, _⟩ := hok' b _ z2;rw [e] at e1; cases e1;exact e2
      ·exact absurd z hbT
    have tabs : ∀ b ∈ cts.map (·.2), ∃ more, s'.heap.get? b = some (PySem.W.tabObj (#[] ++ more)) := fun b hb => by
     obtain ⟨more, hm⟩ := un.tbls b _ (hHT b hb);exact ⟨more, hok' b _ hm⟩
    refine ⟨rfl, ⟨fun b o e => ?_, fun b o e => ?_⟩, os, bare⟩
    ·by_cases hbT : b ∈ cts.map (·.2)
     ·obtain ⟨more, hT'⟩ := tabs b hbT;have hb0 := hT b hbT;rw [hb0] at e; cases e;obtain ⟨x, hx, rfl⟩ := List.mem_map.mp hbT;exact .inr (.inl ⟨((hcd x hx).tab hb0).isCodeTable, rfl, #[], more, rfl, hT'⟩)
     ·exact .inl (kp b o e hbT)
    ·by_cases hbT : b ∈ cts.map (·.2)
     ·obtain ⟨more, hT'⟩ := tabs b hbT;exact ⟨_, hT'⟩
     ·exact ⟨o, kp b o e hbT⟩
 have okT : ∀ (H : Hp) (b : Addr), b ∈ cts.map (·.2) -> ObjOk P w H s₁.heap b (.tbl #[]) := fun H b hb => hT b hb
 cases hk : K.lookup a with
 | some o =>
  have e := KX a o hk;rw [ha] at e;cases e;refine core (fun b => if b ∈ cts.map (·.2) then some (.tbl #[]) else none) (fun b => ?_) (fun b hb => if_pos hb) (.inr ⟨_, vs.toArray, _, hk, rfl, rfl, rfl, by rw [List.size_toArray, lenV]; exact hl, by simpa using rv⟩) (fun b u z => ?_) (fun b z => ?_) fun z => absurd (if_neg aT) z
  ·by_cases h : b ∈ cts.map (·.2)
   ·exact .inr (.inr h)
   ·exact .inl (if_neg h)
  ·by_cases h : b ∈ cts.map (·.2)
   ·have z' := (if_pos h).symm.trans z; cases z'; exact okT _ b h
   ·have z' := (if_neg h).symm.trans z; cases z'
  ·by_cases h : b ∈ cts.map (·.2)
   ·exact .inr h
   ·exact absurd (if_neg h) z
 | none =>
  refine core (fun b => if b ∈ cts.map (·.2) then some (.tbl #[]) else if b = a then some (.frz { cls := .type "list", data := .seq vs.toArray } (.lst (ns.map V.int))) else none) (fun b => ?_) (fun b hb => if_pos hb) (.inl (.inr ⟨{ cls := .type "list", data := .seq vs.toArray }, (if_neg aT).trans (if_pos rfl)⟩)) (fun b u z => ?_) (fun b z => ?_) fun _ => hk
  ·by_cases h : b ∈ cts.map (·.2)
   ·exact .inr (.inr h)
   ·by_cases hb : b = a
    ·exact .inr (.inl ⟨_, _, (if_neg h).trans (if_pos hb)⟩)
    ·exact .inl ((if_neg h).trans (if_neg hb))
  ·by_cases h : b ∈ cts.map (·.2)
   ·have z' := (if_pos h).symm.trans z; cases z'; exact okT _ b h
   ·by_cases hb : b = a
    ·have z' := ((if_neg h).trans (if_pos hb)).symm.trans z;cases z';subst hb;exact ⟨ha, by rw [List.length_map]; exact hl, vs, _, rv, ha⟩
    ·have z' := ((if_neg h).trans (if_neg hb)).symm.trans z;cases z'
  ·by_cases h : b ∈ cts.map (·.2)
   ·exact .inr h
   ·by_cases hb : b = a
    ·exact .inl hb
    ·exact absurd ((if_neg h).trans (if_neg hb)) z
theorem walk_of3 {l : PySem.W.OpenLaw} {n k : Nat} {q : Program} {loose : List Str} {XP : (Str -> Option Value) -> Heap -> Prop} {YP : World -> Heap -> Prop} {d : DefRec} {K : Params -> PySem.W.Frag} {sp : World -> Addr -> Addr -> Addr -> Sp} {x y1 y2 y3 : Str} {d1 d2 d3 : DefRec}
  (hn : l.most = some n) (hn2 : n <= sizeLine) (hdf : d.params.defaults = []) (hr : Room k callerA)
  (hY : ∀ (w : World) (h : Heap), YP w h -> (K w.params).In h)
  (hrec1 : (recsOf q).find? (fun e => e.name == y1) = some d1) (hrec2 : (recsOf q).find? (fun e => e.name == y2) = some d2) (hrec3 : (recsOf q).find? (fun e => e.name == y3) = some d3)
  (F : ∀ (w : World) (mg : Str -> Option Value) (fa : Addr) (h : Heap), (K w.params).In h -> h.Ns mainGlobals mg -> mg d.name = some (.ref fa) ->
   ∃ (c1 T1 c2 T2 c3 T3 : Addr) (fd : FuncData), PySem.W.tabIn (K w.params) y1 = some (c1, T1) /\ PySem.W.tabIn (K w.params) y2 = some (c2, T2) /\ PySem.W.tabIn (K w.params) y3 = some (c3, T3) /\ PySem.W.noTabs (K w.params) = true /\ (∀ (s : Shared) (u : Value), BindsTo s fd ⟨[u], []⟩ [(x, u)]) /\
    ∀ base : Heap, (K w.params).In base -> base.Ns mainGlobals mg -> LamCx mg base c1 T1 -> LamCx mg base c2 T2 -> LamCx mg base c3 T3 -> FnOk l.prog w (K w.params) mg base CX0 k fa fd [x] (sp w T1 T2 T3))
  (hsp : ∀ (w : World) (T1 T2 T3 : Addr) (H : Hp) (a : Addr) (ns : List Int), ns.length <= n -> H T1 = some (.tbl #[]) -> H T2 = some (.tbl #[]) -> H T3 = some (.tbl #[]) -> SqL (K w.params) H a (ns.map V.int) -> sp w T1 T2 T3 [.ref a] H (fun v _ => v = .bl true) fun _ _ _ => False) :
  PySem.W.WalkO q loose XP YP l.row.toRowW d [] (fun f vs => PySem.call f vs) := by
 refine Att.attach_call hn hdf fun w s₀ s₁ mg mb fa o pm cd doc a vs ns G Y ho hd hcd hmg hobj hints hlen hg => ?_
 have KX := hY w _ Y;obtain ⟨c1, T1, c2, T2, c3, T3, fd, htab1, htab2, htab3, hnt, hb, hF⟩ := F w mg fa _ KX G.T.g hmg;obtain ⟨t1, u1⟩ := PySem.W.tab_of (x := y1) G.T KX hrec1 htab1;obtain ⟨t2, u2⟩ := PySem.W.tab_of (x := y2) G.T KX hrec2 htab2;obtain ⟨t3, u3⟩ := PySem.W.tab_of (x := y3) G.T KX hrec3 htab3;have all : ∀ {R : Addr × Addr -> Prop}, R (c1, T1) -> R (c2, T2) -> R (c3, T3) -> ∀ x ∈ [(c1, T1), (c2, T2), (c3, T3)], R x := fun a b c x hx => by
  simp only [List.mem_cons, List.not_mem_nil, or_false] at hx;rcases hx with rfl | rfl | rfl <;> assumption
 exact Zkl (cts := [(c1, T1), (c2, T2), (c3, T3)]) KX G.T.g G.T.b G.T.builtins G.T.nolimit hg G.T.bmain (all t1 t2 t3) (all u1 u2 u3) (all (Zg6 KX u1 hnt) (Zg6 KX u2 hnt) (Zg6 KX u3 hnt)) hobj hints (Nat.le_trans hlen hn2) hr
  (fun base kb nb hl => hF base kb nb (hl (c1, T1) (by simp)) (hl (c2, T2) (by simp)) (hl (c3, T3) (by simp))) hb (fun H h1 hS => hsp w T1 T2 T3 H a ns hlen (h1 (c1, T1) (by simp)) (h1 (c2, T2) (by simp)) (h1 (c3, T3) (by simp)) hS)
end L2
set_option Elab.async false
set_option linter.all false
set_option maxRecDepth 100000
set_option maxHeartbeats 4000000
namespace Mine
open PySem L2 PyProof.Rows
local macro_rules | `(tactic| walk_at "rd") => `(tactic| simp only [Zrj, Zpx, Zrr, Zpo, tUp, Zsz, Zk9, Zs2, Ztb, Zrc, Zfu, Zri, tC, tOp, tUn, Zn3, tB, Zsv, Zsq, Zrk, Zpt, Zk5, Zro, Zrm, Zmk, Zrb, tCB, Zsp, Zst, Zsx, tOr, Zss, Zpy, Zsr, Zpn, tIf, Zk4, Zs9, Zru, tBM, Zta, Zs5, Zti, Zsj, Ztj, tSl, Zpm, Zk3, rI, rI0, rU, rEq, rNe, Zqg, Zs0, Zs4, Zoz, Zq6, Zsh, Zn6, Zso, Zn4, capSt, Zr4, Zr2, Zr3, Zla, Zlb, Zp8, Zs1, Zrx, cxK, L2.start, List.map_cons, List.map_nil, List.length_cons, List.length_nil, Nat.reduceAdd, Nat.reduceSub, List.replicate, List.cons_append, List.nil_append, List.append_nil, List.getElem?_cons_zero, List.getElem?_cons_succ, List.set_cons_zero, List.set_cons_succ, Option.some.injEq, V.int.injEq, V.bl.injEq, V.str.injEq, V.ref.injEq, V.ty.injEq, exists_eq_left', exists_eq_left, exists_and_left, and_assoc, and_true, true_and, List.cons.injEq, exists_eq, exists_eq', Option.bind_some, Option.bind_none, Option.join_some, exists_const, Nat.reduceLT, Nat.reduceLeDiff, if_true, Bool.false_eq_true, if_false, Bool.not_true, Bool.not_false, reduceCtorEq, false_and, and_false, exists_false,  Zpr, Zpl, Zqi, Zp9, Zmt, Zp6, Zjl, Zjk, Zrz, Zoh, Zp7, Zrt, Zpq, Zps, Zs8, Zr5, Zp4, Zrv, Zrw, Zoe, Zsi, Zth, Zq7, Znk, Zte, Zp0, Zr8, Zqh, Zr0, Zr6, Zof, Zod, Znd, Zk0, Zk1, Zqf, Zp3, Zpw, Zry, Zr7, Zmu, Zpz, Zn5, Zqa, Zp5, Zrp, Zk2, Zsg, Zpu, Zrq, Zqb, Zrl, Zqc, Zrn, Zqd, Zqe, Zog, Zr1, Zpv, Zp1, Zr3, Zn1, Zpk, Znz, Zn0])
local macro_rules | `(tactic| walk_at "ne") => `(tactic| first | assumption | (apply Ne.symm; assumption) | grind [Same, But])
local macro_rules | `(tactic| walk_at "hp") => `(tactic| first | assumption | exact Zah | (refine Same.get (by assumption) ?_; walk_at "hp") | (refine But.get (by assumption) ?_ ?_; (· walk_at "hp"); (· walk_at "ne")))
def top (i : Nat) : Stmt := PySem.Challenge.pw_pieceways_k14_roads_refused.main.body.getD i (.Pass ⟨0, 0, 0, 0⟩)
structure Cn (mg : Str -> Option Value) : Prop where
 c_MOST_NUMBER : ∃ t, mg "MOST_NUMBER" = some (.int 65535 t)
 c_MOST_BYTE : ∃ t, mg "MOST_BYTE" = some (.int 255 t)
 c_MOST_SIGNS : ∃ t, mg "MOST_SIGNS" = some (.int 8 t)
 c_MOST_BYTES : ∃ t, mg "MOST_BYTES" = some (.int 4000 t)
 c_LEAST_WIDTH : ∃ t, mg "LEAST_WIDTH" = some (.int 8 t)
 c_MOST_WIDTH : ∃ t, mg "MOST_WIDTH" = some (.int 5000 t)
 c_MOST_WIDTHS : ∃ t, mg "MOST_WIDTHS" = some (.int 20 t)
 c_STEP : ∃ t, mg "STEP" = some (.int 8 t)
section
variable {P : Program} {w : World} {K : PySem.W.Frag} {mg : Str -> Option Value} {base : Heap}
def Zdl : Sp := fun vs H Q _ => ∃ x n, vs = [x] /\ tyF H x = some n /\ Q (.bl (isI x)) H
abbrev Zcw : Stmt := top 9
theorem Zip : Zao ["value"] ["value"] (defScope Zcw) := ⟨rfl, rfl, rfl, by decide +kernel, rfl, by decide +kernel, by decide +kernel⟩
theorem Ziy {f : Addr} {fd : FuncData} (F : Fun K "is_whole" "is_whole" Zcw f fd) (B : Bt mg) : FnOk P w K mg base CX0 1 f fd ["value"] Zdl := by
 refine F.ok Zip (fun vs H Q E h => ?_) (fun cdv A outer s H vs Q E hr h => ?_)
 ·obtain ⟨x, n, rfl, _⟩ := h; rfl
 ·obtain ⟨x, n, rfl, ty, q⟩ := h;refine ⟨_, (Zag (Zar (Zek (Zam (Zdh "int") rfl B.isinstance (by rfl) (Zaa (hs := Zab) (pv 0) (Zaa (hs := Zab) (Zec (v := .ty "int") rfl B.bint (by rfl) rfl) Zad))) (Zgh (Zqn (Zam (Zdh "bool") rfl B.isinstance (by rfl) (Zaa (hs := Zab) (pv 0) (Zaa (hs := Zab) (Zec (v := .ty "bool") rfl B.bbool (by rfl) rfl) Zad)))))))), ?_⟩;walk_at "rd";refine ⟨n, ty, ?_⟩;rw [Zph ty];refine Zme (fun h => ⟨n, ty, ?_⟩) (fun h => ?_)
  ·rw [Zkw ty];have e : (!isB x) = isI x := by cases x <;> first | rfl | (simp [isI, isB] at h)
   rw [e]; exact q
  ·have e : isI x = false := by cases x <;> first | rfl | (simp [isI, isB] at h)
   rw [e] at q; exact q
def Za3 : Sp := fun vs H Q _ => ∃ x n lo hi, vs = [x, .int lo, .int hi] /\ tyF H x = some n /\ Q (.bl (wIn x lo hi)) H
abbrev Zba : Stmt := top 10
theorem Zei : Zao ["value", "low", "high"] ["value", "low", "high"] (defScope Zba) := ⟨rfl, rfl, rfl, by decide +kernel, rfl, by decide +kernel, by decide +kernel⟩
theorem Zel {f : Addr} {fd : FuncData} (F : Fun K "is_whole_within" "is_whole_within" Zba f fd) (F_is_whole : FnB P w K mg base "is_whole" 1 ["value"] [] Zdl) : FnOk P w K mg base CX0 2 f fd ["value", "low", "high"] Za3 := by
 refine F.ok Zei (fun vs H Q E h => ?_) (fun cdv A outer s H vs Q E hr h => ?_)
 ·obtain ⟨x, n, lo, hi, rfl, _⟩ := h; rfl
 ·obtain ⟨x, n, lo, hi, rfl, ty, q⟩ := h;refine ⟨_, (Zag (Zar (Zek (Zak F_is_whole (hr.mono (by decide)) rfl (Zaa (hs := Zab) (pv 0) Zad)) (Zgh (Zjo Zf4 Zf4 (pv 1) (pv 0) (pv 2)))))), ?_⟩;walk_at "rd";refine ⟨x, n, rfl, ty, _, rfl, ?_⟩;refine Zme (fun h => ?_) (fun h => ?_)
  ·cases x <;> first | (simp [isI] at h; done) | skip
   rename_i i
   walk_at "rd"
   by_cases h1 : lo <= i
   ·simp only [h1, decide_true, if_true];simpa [wIn, h1] using q
   ·simp only [h1, decide_false, Bool.false_eq_true, if_false];simpa [wIn, h1] using q
  ·have e : wIn x lo hi = false := by cases x <;> first | rfl | (simp [isI] at h)
   rw [e] at q; exact q
def Zdm : Sp := fun vs H Q _ => ∃ x n, vs = [x] /\ tyF H x = some n /\ Q (.bl (isB x)) H
abbrev Zcx : Stmt := top 11
theorem Ziq : Zao ["value"] ["value"] (defScope Zcx) := ⟨rfl, rfl, rfl, by decide +kernel, rfl, by decide +kernel, by decide +kernel⟩
theorem Ziz {f : Addr} {fd : FuncData} (F : Fun K "is_truth" "is_truth" Zcx f fd) (B : Bt mg) : FnOk P w K mg base CX0 1 f fd ["value"] Zdm := by
 refine F.ok Ziq (fun vs H Q E h => ?_) (fun cdv A outer s H vs Q E hr h => ?_)
 ·obtain ⟨x, n, rfl, _⟩ := h; rfl
 ·obtain ⟨x, n, rfl, ty, q⟩ := h;refine ⟨_, (Zag (Zar (Zam (Zdh "bool") rfl B.isinstance (by rfl) (Zaa (hs := Zab) (pv 0) (Zaa (hs := Zab) (Zec (v := .ty "bool") rfl B.bbool (by rfl) rfl) Zad))))), ?_⟩;walk_at "rd";exact ⟨n, ty, by rw [Zkw ty]; exact q⟩
def Zdv : Sp := fun vs H Q _ => ∃ x n, vs = [x] /\ tyF H x = some n /\ Q (.bl (wIn x 0 65535)) H
abbrev Zci : Stmt := top 12
theorem Zhn : Zao ["value"] ["value"] (defScope Zci) := ⟨rfl, rfl, rfl, by decide +kernel, rfl, by decide +kernel, by decide +kernel⟩
theorem Zhw {f : Addr} {fd : FuncData} (F : Fun K "is_number" "is_number" Zci f fd) (T : Cn mg) (F_is_whole_within : FnB P w K mg base "is_whole_within" 2 ["value", "low", "high"] [] Za3) : FnOk P w K mg base CX0 3 f fd ["value"] Zdv := by
 refine F.ok Zhn (fun vs H Q E h => ?_) (fun cdv A outer s H vs Q E hr h => ?_)
 ·obtain ⟨x, n, rfl, _⟩ := h; rfl
 ·obtain ⟨x, n, rfl, ty, q⟩ := h;refine ⟨_, (Zag (Zar (Zak F_is_whole_within (hr.mono (by decide)) rfl (Zaa (hs := Zab) (pv 0) (Zaa (hs := Zac) Zaf (Zaa (hs := Zab) (Zcl rfl T.c_MOST_NUMBER) Zad)))))), ?_⟩;walk_at "rd";exact ⟨x, n, 0, 65535, rfl, ty, q⟩
def Zew : Sp := fun vs H Q _ => ∃ x n, vs = [x] /\ tyF H x = some n /\ Q (.bl (wIn x 0 255)) H
abbrev Zde : Stmt := top 14
theorem Zj6 : Zao ["value"] ["value"] (defScope Zde) := ⟨rfl, rfl, rfl, by decide +kernel, rfl, by decide +kernel, by decide +kernel⟩
theorem Zkf {f : Addr} {fd : FuncData} (F : Fun K "is_byte" "is_byte" Zde f fd) (T : Cn mg) (F_is_whole_within : FnB P w K mg base "is_whole_within" 2 ["value", "low", "high"] [] Za3) : FnOk P w K mg base CX0 3 f fd ["value"] Zew := by
 refine F.ok Zj6 (fun vs H Q E h => ?_) (fun cdv A outer s H vs Q E hr h => ?_)
 ·obtain ⟨x, n, rfl, _⟩ := h; rfl
 ·obtain ⟨x, n, rfl, ty, q⟩ := h;refine ⟨_, (Zag (Zar (Zak F_is_whole_within (hr.mono (by decide)) rfl (Zaa (hs := Zab) (pv 0) (Zaa (hs := Zac) Zaf (Zaa (hs := Zab) (Zcl rfl T.c_MOST_BYTE) Zad)))))), ?_⟩;walk_at "rd";exact ⟨x, n, 0, 255, rfl, ty, q⟩
def Zev : Sp := fun vs H Q _ => ∃ x n, vs = [x] /\ tyF H x = some n /\ (∀ z, x = .str z -> z.length <= 100000) /\ ∀ H', Same H H' -> Q (.bl (isNm x)) H'
abbrev Zc3 : Stmt := top 13
theorem Zj5 : Zao ["value"] ["value"] (defScope Zc3) := ⟨rfl, rfl, rfl, by decide +kernel, rfl, by decide +kernel, by decide +kernel⟩
theorem Zke {f : Addr} {fd : FuncData} (F : Fun K "is_name" "is_name" Zc3 f fd) (T : Cn mg) (B : Bt mg) : FnOk P w K mg base CX0 1 f fd ["value"] Zev := by
 refine F.ok Zj5 (fun vs H Q E h => ?_) (fun cdv A outer s H vs Q E hr h => ?_)
 ·obtain ⟨x, n, rfl, _⟩ := h; rfl
 ·obtain ⟨x, n, rfl, ty, hz, q⟩ := h;refine ⟨_, (Zae (Zc5 (PW.pt (Zgx (Zcd (Zb2 (Zam (Zdh "str") rfl B.isinstance (by rfl) (Zaa (hs := Zab) (pv 0) (Zaa (hs := Zab) (Zec (v := .ty "str") rfl B.bstr (by rfl) rfl) Zad))))) (Zfl (Zcd (Zgy Zf4 Zf4 Zaf (Zam Zic rfl B.len (by rfl) (Zaa (hs := Zab) (pv 0) Zad)) (Zcl rfl T.c_MOST_SIGNS)))))) (Zag (Zar Zc9)) Zbb) (Zag (Zar (Zam (Zfx (K := K) rfl rfl) rfl B.all (by rfl) (Zaa (hs := Zd4) (Zg0 (N' := ["sign"]) (caps := [none]) (Zjb (sc := defScope Zc3) (N := ["value"]) rfl rfl (by decide +kernel)) rfl (Zql (pv 0)) (fun _ _ _ _ _ => (Zce (i := 0) (Zi3 (N := ["sign"]) rfl (by decide +kernel)) rfl (Or.inl rfl))) (fun _ _ _ _ _ => Zfp) (fun _ _ _ _ _ => (Zjo Znr Znr Zbg (pv 0) Zbg))) Zad))))), ?_⟩;walk_at "rd";refine ⟨n, ty, ?_⟩;rw [Zpg ty];cases x <;> first
   | (simp only [isS, Bool.not_false, if_true]; exact q H (Same.refl H))
   | skip
  rename_i z
  have hz' := hz z rfl;simp only [isS, Bool.not_true, Bool.false_eq_true, if_false];walk_at "rd";refine ⟨Zaj hz', ?_⟩;have hq : ∀ b, isNm (.str z) = b -> ∀ H', Same H H' -> Q (.bl b) H' := fun b e H' s => e ▸ q H' s
  by_cases h1 : 1 <= z.length
  ·have h1' : (1 : Int) <= (z.length : Int) := by omega
   simp only [h1', decide_true, if_true]
   by_cases h2 : z.length <= 8
   ·have h2' : (z.length : Int) <= 8 := by omega
    simp only [h2', decide_true, Bool.not_true, Bool.false_eq_true, if_false];have hsz : z.cps.size = z.length := rfl;obtain ⟨Pv, ePv⟩ : ∃ Pv : Nat -> List V -> L2.St -> Hp -> Prop, Pv = fun i ys σ' H1 => H1 = H /\ i <= z.cps.size /\ ys = (z.cps.toList.take i).map (fun c => V.bl (Ze8 c)) /\ ∃ v, σ' = [v] := ⟨_, rfl⟩
    refine Zm9 Pv (by rw [ePv]; exact ⟨rfl, Nat.zero_le _, by simp, none, rfl⟩) ?_ (by rw [hsz]; exact Zaj hz') ?_ ?_ <;> rw [ePv]
    ·rintro i ys σ' H1 ⟨_, hi, rfl, _⟩ _;simp only [List.length_map, List.length_take]; omega
    ·rintro i c ys σ' H1 hc ⟨rfl, hi, rfl, v, rfl⟩;rw [<- ePv];have hi' : i < z.cps.size := (Array.getElem?_eq_some_iff.mp hc).1;walk_at "rd";obtain ⟨e1, e2⟩ := Zn9 c;rw [e1, e2];have et : z.cps.toList.take (i + 1) = z.cps.toList.take i ++ [c] := by
      rw [List.take_add_one];have : z.cps.toList[i]? = some c := by rw [Array.getElem?_toList]; exact hc
      rw [this]; rfl
     have eb : V.bl (Ze8 c) = V.bl (decide (97 <= c) && decide (c <= 122)) := rfl
     by_cases k1 : 97 <= c
     ·simp only [k1, decide_true, if_true];rw [ePv]; exact ⟨rfl, hi', by rw [et, List.map_append, List.map_cons, List.map_nil, eb]; simp [k1], _, rfl⟩
     ·simp only [k1, decide_false, Bool.false_eq_true, if_false];rw [ePv]; exact ⟨rfl, hi', by rw [et, List.map_append, List.map_cons, List.map_nil, eb]; simp [k1], _, rfl⟩
    ·rintro ys σ' H1 ⟨rfl, _, rfl, _⟩ p hp;walk_at "rd";refine ⟨z.cps.toList.map Ze8, SqL.of ?_, ?_⟩
     ·rw [Zah];have : z.cps.toList.take z.cps.size = z.cps.toList := by rw [List.take_of_length_le]; simp
      rw [this, List.map_map]; rfl
     ·refine hq _ ?_ _ (Same.new (Same.refl _) hp);simp only [isNm, h1, h2, decide_true, Bool.true_and, List.all_map];rfl
   ·have h2' : ¬ (z.length : Int) <= 8 := by omega
    simp only [h2', decide_false, Bool.not_false, if_true];exact hq _ (by simp [isNm, h2]) H (Same.refl H)
  ·have h1' : ¬ (1 : Int) <= (z.length : Int) := by omega
   simp only [h1', decide_false, Bool.false_eq_true, if_false, Bool.not_false, if_true, true_and, exists_eq_left'];exact hq _ (by simp [isNm, h1]) H (Same.refl H)
end
section
variable {P : Program} {w : World} {K : PySem.W.Frag} {mg : Str -> Option Value} {base : Heap}
def Plains (H : Hp) (x : V) : Prop := ∀ a xs, x = .ref a -> H a = some (.lst xs) -> xs.length <= 100000 /\ ∀ y ∈ xs, ∃ n, tyF H y = some n
def Zex : Sp := fun vs H Q _ => ∃ x n, vs = [x] /\ tyF H x = some n /\ Plains H x /\ ∀ H', Same H H' -> Q (.bl (isBd H x)) H'
abbrev Zc4 : Stmt := top 15
theorem Zj7 : Zao ["value"] ["value"] (defScope Zc4) := ⟨rfl, rfl, rfl, by decide +kernel, rfl, by decide +kernel, by decide +kernel⟩
theorem Zkg {f : Addr} {fd : FuncData} (F : Fun K "is_body" "is_body" Zc4 f fd) (T : Cn mg) (B : Bt mg) (F_is_byte : FnB P w K mg base "is_byte" 3 ["value"] [] Zew) : FnOk P w K mg base CX0 4 f fd ["value"] Zex := by
 refine F.ok Zj7 (fun vs H Q E h => ?_) (fun cdv A outer s H vs Q E hr h => ?_)
 ·obtain ⟨x, n, rfl, _⟩ := h; rfl
 ·obtain ⟨x, n, rfl, ty, hz, q⟩ := h;refine ⟨_, (Zae (Zc5 (PW.pt (Zgx (Zcd (Zb2 (Zam (Zdh "list") rfl B.isinstance (by rfl) (Zaa (hs := Zab) (pv 0) (Zaa (hs := Zab) (Zec (v := .ty "list") rfl B.blist (by rfl) rfl) Zad))))) (Zfl (Zcd (Zgy Zf4 Zf4 Zaf (Zam (Za9 (K := K) rfl) rfl B.len (by rfl) (Zaa (hs := Zab) (pv 0) Zad)) (Zcl rfl T.c_MOST_BYTES)))))) (Zag (Zar Zc9)) Zbb) (Zag (Zar (Zam (Zfx (K := K) rfl rfl) rfl B.all (by rfl) (Zaa (hs := Zd4) (Zg0 (N' := ["part"]) (caps := [none]) (Zjb (sc := defScope Zc4) (N := ["value"]) rfl rfl (by decide +kernel)) rfl (Zc8 (K := K) rfl (pv 0)) (fun _ _ _ _ _ => (Zce (i := 0) (Zi3 (N := ["part"]) rfl (by decide +kernel)) rfl (Or.inl rfl))) (fun _ _ _ _ _ => Zfp) (fun _ _ _ _ _ => (Zak F_is_byte (hr.mono (by decide)) rfl (Zaa (hs := Zab) (pv 0) Zad)))) Zad))))), ?_⟩;walk_at "rd";refine ⟨n, ty, ?_⟩;rw [Zkv ty];cases hL : isL H x with
  | false =>
   simp only [Bool.not_false, if_true];have e := Zoy hL;rw [e] at q;exact q H (Same.refl H)
  | true =>
   obtain ⟨a, xs, rfl, ha⟩ := Zlq hL;obtain ⟨hlen, hpl⟩ := hz a xs rfl ha;rw [Zjt ha] at q;simp only [Bool.not_true, Bool.false_eq_true, if_false];walk_at "rd";refine ⟨xs, .inl (SqL.of ha), ?_⟩
   by_cases h1 : 1 <= xs.length
   ·have h1' : (1 : Int) <= (xs.length : Int) := by omega
    simp only [h1', decide_true, if_true]
    by_cases h2 : xs.length <= 4000
    ·have h2' : (xs.length : Int) <= 4000 := by omega
     simp only [h2', decide_true, Bool.not_true, Bool.false_eq_true, if_false];refine ⟨⟨xs, SqL.of ha⟩, ?_⟩;obtain ⟨Pv, ePv⟩ : ∃ Pv : Nat -> List V -> L2.St -> Hp -> Prop, Pv = fun i ys σ' H1 => H1 = H /\ i <= xs.length /\ ys = (xs.take i).map (fun y => V.bl (wIn y 0 255)) /\ ∃ v, σ' = [v] := ⟨_, rfl⟩
     refine Zh9 (xs := xs) Pv (by rw [ePv]; exact ⟨rfl, Nat.zero_le _, by simp, none, rfl⟩) ?_ (Zaj hlen) ?_ ?_ <;> rw [ePv]
     ·rintro i ys σ' H1 ⟨rfl, hi, rfl, _⟩ _;refine ⟨SqL.of ha, ?_⟩;simp only [List.length_map, List.length_take]; omega
     ·rintro i y ys σ' H1 hy ⟨rfl, hi, rfl, v, rfl⟩;rw [<- ePv];have hi' : i < xs.length := (List.getElem?_eq_some_iff.mp hy).1;obtain ⟨m, hm⟩ := hpl y (List.mem_of_getElem? hy);walk_at "rd";refine ⟨y, m, rfl, hm, ?_⟩;rw [ePv];refine ⟨rfl, hi', ?_, _, rfl⟩;rw [List.take_add_one, hy, Option.toList_some, List.map_append, List.map_cons, List.map_nil]
     ·rintro ys σ' H1 ⟨rfl, _, rfl, _⟩ p hp;walk_at "rd";refine ⟨xs.map (fun y => wIn y 0 255), SqL.of ?_, ?_⟩
      ·rw [Zah, List.take_of_length_le (Nat.le_refl _), List.map_map]; rfl
      ·have e : (xs.map (fun y => wIn y 0 255)).all id = (decide (1 <= xs.length) && decide (xs.length <= 4000) && xs.all (fun y => wIn y 0 255)) := by
        simp only [h1, h2, decide_true, Bool.true_and, List.all_map]; rfl
       rw [e];exact q _ (Same.new (Same.refl _) hp)
    ·have h2' : ¬ (xs.length : Int) <= 4000 := by omega
     simp only [h2', decide_false, Bool.not_false, if_true];simp only [h2, decide_false, Bool.and_false, Bool.false_and] at q;exact q H (Same.refl H)
   ·have h1' : ¬ (1 : Int) <= (xs.length : Int) := by omega
    simp only [h1', decide_false, Bool.false_eq_true, if_false, Bool.not_false, if_true, true_and, exists_eq_left'];simp only [h1, decide_false, Bool.false_and] at q;exact q H (Same.refl H)
def goodParts (H : Hp) (number sender goal body keep : V) : Bool := wIn number 0 65535 && (isNm sender && (isNm goal && (isBd H body && isB keep)))
structure Zd1 (H : Hp) (number sender goal body keep : V) : Prop where
 n : ∃ t, tyF H number = some t
 s : ∃ t, tyF H sender = some t
 sl : ∀ z, sender = .str z -> z.length <= 100000
 g : ∃ t, tyF H goal = some t
 gl : ∀ z, goal = .str z -> z.length <= 100000
 b : ∃ t, tyF H body = some t
 bp : Plains H body
 k : ∃ t, tyF H keep = some t
theorem Zh3 {H H' : Hp} (s : Same H H') {x : V} {n : String} (ty : tyF H x = some n) : isBd H' x = isBd H x := by
 cases x with
 | ref a =>
  have ty : (H a).bind tyO = some n := ty;cases e : H a with
  | none => rw [e] at ty; cases ty
  | some o =>
   show (match H' a with | some (.lst xs) => _ | _ => false) = (match H a with | some (.lst xs) => _ | _ => false);rw [s a o e, e]
 | _ => rfl
theorem Plains.same {H H' : Hp} (s : Same H H') {x : V} {n : String} (ty : tyF H x = some n) (h : Plains H x) : Plains H' x := by
 intro a xs ex ea;subst ex;have ty' : (H a).bind tyO = some n := ty;cases e : H a with
 | none => rw [e] at ty'; cases ty'
 | some o =>
  have := s a o e;rw [ea] at this;cases this;obtain ⟨h1, h2⟩ := h a xs rfl e;exact ⟨h1, fun y hy => by obtain ⟨m, hm⟩ := h2 y hy; exact ⟨m, Zbx s hm⟩⟩
def Zbi : Sp := fun vs H Q _ => ∃ number sender goal body keep, vs = [number, sender, goal, body, keep] /\ Zd1 H number sender goal body keep /\ ∀ H', Same H H' -> Q (.bl (goodParts H number sender goal body keep)) H'
abbrev Za4 : Stmt := top 34
theorem Zea : Zao ["number", "sender", "goal", "body", "keep"] ["number", "sender", "goal", "body", "keep"] (defScope Za4) := ⟨rfl, rfl, rfl, by decide +kernel, rfl, by decide +kernel, by decide +kernel⟩
theorem Zed {f : Addr} {fd : FuncData} (F : Fun K "are_shared_parts" "are_shared_parts" Za4 f fd) (F_is_number : FnB P w K mg base "is_number" 3 ["value"] [] Zdv) (F_is_name : FnB P w K mg base "is_name" 1 ["value"] [] Zev)
  (F_is_body : FnB P w K mg base "is_body" 4 ["value"] [] Zex) (F_is_truth : FnB P w K mg base "is_truth" 1 ["value"] [] Zdm) : FnOk P w K mg base CX0 5 f fd ["number", "sender", "goal", "body", "keep"] Zbi := by
 refine F.ok Zea (fun vs H Q E h => ?_) (fun cdv A outer s H vs Q E hr h => ?_)
 ·obtain ⟨a, b, c, d, e, rfl, _⟩ := h; rfl
 ·obtain ⟨nu, se, go, bo, ke, rfl, ⟨⟨tn, hn⟩, ⟨ts, hs⟩, hsl, ⟨tg, hg⟩, hgl, ⟨tb, hb⟩, hbp, ⟨tk, hk⟩⟩, q⟩ := h;refine ⟨_, (Zag (Zar (Zek (Zak F_is_number (hr.mono (by decide)) rfl (Zaa (hs := Zab) (pv 0) Zad)) (Zek (Zak F_is_name (hr.mono (by decide)) rfl (Zaa (hs := Zab) (pv 1) Zad)) (Zek (Zak F_is_name (hr.mono (by decide)) rfl (Zaa (hs := Zab) (pv 2) Zad)) (Zek (Zak F_is_body (hr.mono (by decide)) rfl (Zaa (hs := Zab) (pv 3) Zad)) (Zgh (Zak F_is_truth (hr.mono (by decide)) rfl (Zaa (hs := Zab) (pv 4) Zad))))))))), ?_⟩;walk_at "rd";unfold goodParts at q;refine ⟨nu, tn, rfl, hn, _, rfl, Zme (fun h1 => ?_) (fun h1 => ?_)⟩
  ·refine ⟨se, ts, rfl, hs, hsl, fun H1 s1 => ⟨_, rfl, Zme (fun h2 => ?_) (fun h2 => ?_)⟩⟩
   ·refine ⟨go, tg, rfl, Zbx s1 hg, hgl, fun H2 s2 => ⟨_, rfl, Zme (fun h3 => ?_) (fun h3 => ?_)⟩⟩
    ·have s12 := s1.trans s2;refine ⟨bo, tb, rfl, Zbx s12 hb, hbp.same s12 hb, fun H3 s3 => ⟨_, rfl, Zme (fun h4 => ?_) (fun h4 => ?_)⟩⟩
     ·refine ⟨ke, tk, rfl, Zbx (s12.trans s3) hk, ?_⟩;rw [Zh3 s12 hb] at h4;simp only [h1, h2, h3, h4, Bool.true_and] at q;exact q _ (s12.trans s3)
     ·rw [Zh3 s12 hb, Bool.not_eq_true] at h4;simp only [h1, h2, h3, h4, Bool.true_and, Bool.false_and] at q;exact q _ (s12.trans s3)
    ·rw [Bool.not_eq_true] at h3;simp only [h1, h2, h3, Bool.true_and, Bool.false_and] at q;exact q _ (s1.trans s2)
   ·rw [Bool.not_eq_true] at h2;simp only [h1, h2, Bool.true_and, Bool.false_and] at q;exact q _ s1
  ·rw [Bool.not_eq_true] at h1;simp only [h1, Bool.false_and] at q;exact q H (Same.refl H)
end
section
theorem Zaw {f : Str} {v : V} {fs : List (Str × V)} {n : Nat} (h : fs.length <= n) : (putF f v fs).length <= n + 1 := Nat.le_trans (Zee f v fs) (Nat.succ_le_succ h)
theorem Zai {f g : Str} {v : V} {fs : List (Str × V)} (h : ¬ g = f) : (putF f v fs).lookup g = fs.lookup g := by rw [Zdq, if_neg h]
theorem Zcs {f : Str} {v : V} {fs : List (Str × V)} : (putF f v fs).lookup f = some v := by rw [Zdq, if_pos rfl]
end
section
variable {P : Program} {w : World} {K : PySem.W.Frag} {mg : Str -> Option Value} {base : Heap}
structure Zmf (K : PySem.W.Frag) (C : Addr) : Prop where
 cl : Cls K C
 number : NoAttr K C "number"
 sender : NoAttr K C "sender"
 goal : NoAttr K C "goal"
 body : NoAttr K C "body"
 keep : NoAttr K C "keep"
structure LetterAt (C : Addr) (H : Hp) (p : Addr) (nu se go bo ke : V) : Prop where
 ex : ∃ dx fs, H p = some (.ins C dx fs) /\ fs.lookup ("number" : Str) = some nu /\ fs.lookup ("sender" : Str) = some se /\ fs.lookup ("goal" : Str) = some go /\ fs.lookup ("body" : Str) = some bo /\ fs.lookup ("keep" : Str) = some ke /\
  fs.lookup ("key" : Str) = none /\ fs.lookup ("is_like" : Str) = none
def Zb1 (C : Addr) : Sp := fun vs H Q _ => ∃ p dx nu se go b ke xs, vs = [.ref p, nu, se, go, .ref b, ke] /\ H p = some (.ins C dx []) /\ Zd1 H nu se go (.ref b) ke /\ goodParts H nu se go (.ref b) ke = true /\ H b = some (.lst xs) /\
 ∀ H' b', H b' = none -> b' ≠ p -> H' b' = some (.lst xs) -> LetterAt C H' p nu se go (.ref b') ke -> But p H H' -> Q .non H'
abbrev s_Letter_init : Stmt := Zg9 (top 37) 0
theorem Zf2 : Zao ["self", "number", "sender", "goal", "body", "keep"] ["self", "number", "sender", "goal", "body", "keep"] (defScope s_Letter_init) := ⟨rfl, rfl, rfl, by decide +kernel, rfl, by decide +kernel, by decide +kernel⟩
theorem Zf6 {f C : Addr} {fd : FuncData} (F : ∃ (oc : Value) (od : Option Addr) (dV kV doc pm : Value) (an : Option Addr) (cdv ct : Value) (osl : Array (Option Value)),
  fd = PySem.W.fnOf "__init__" "Letter.__init__" (Zan s_Letter_init) (defBody s_Letter_init) (defScope s_Letter_init) dV kV doc pm an cdv ct /\ K.lookup f = some ⟨oc, od, .func fd, osl⟩ /\ PySem.W.codeIn K cdv "Letter.__init__" = true) (L : Zmf K C) (B : Bt mg)
  (F_are_shared_parts : FnB P w K mg base "are_shared_parts" 5 ["number", "sender", "goal", "body", "keep"] [] Zbi) : FnOk P w K mg base CX0 6 f fd ["self", "number", "sender", "goal", "body", "keep"] (Zb1 C) := by
 obtain ⟨oc, od, dV, kV, doc, pm, an, cdv, ct, osl, rfl, lk, hcd⟩ := F;refine Zlz lk hcd Zf2 (fun vs H Q E h => ?_) (fun A outer s H vs Q E hr h => ?_)
 ·obtain ⟨p, dx, nu, se, go, b, ke, xs, rfl, _⟩ := h; rfl
 ·obtain ⟨p, dx, nu, se, go, b, ke, xs, rfl, hp, hpl, hgd, hb, q⟩ := h
  suffices hh : ∃ t, PSs (cxOf CX0 P w K mg base _ "Letter.__init__" (defScope s_Letter_init) f cdv A outer s H E).nox (defBody s_Letter_init) t /\ t { nx := fun _ H' => Q .non H', rt := Q } (L2.start _ _) H by
   obtain ⟨t, h1, h2⟩ := hh;exact ⟨t, h1.nox, h2⟩
  refine ⟨_, (Zae (Zc5 (Zcd (Zb2 (Zak F_are_shared_parts (hr.mono (by decide)) rfl (Zaa (hs := Zab) (pv 1) (Zaa (hs := Zab) (pv 2) (Zaa (hs := Zab) (pv 3) (Zaa (hs := Zab) (pv 4) (Zaa (hs := Zab) (pv 5) Zad)))))))) Zfn Zbb) (Zae (Zcq (K := K) rfl (pv 0) (pv 1) rfl) (Zae (Zcq (K := K) rfl (pv 0) (pv 2) rfl) (Zae (Zcq (K := K) rfl (pv 0) (pv 3) rfl) (Zae (Zcq (K := K) rfl (pv 0) (Zfq (Zgo (K := K) rfl) rfl B.blist (by rfl) (Zaa (hs := Zab) (pv 4) Zad)) rfl) (Zag (Zcq (K := K) rfl (pv 0) (pv 5) rfl))))))), ?_⟩;walk_at "rd";refine ⟨nu, se, go, .ref b, ke, rfl, hpl, fun H1 s1 => ⟨_, rfl, ?_⟩⟩;rw [hgd];simp only [Bool.not_true, Bool.false_eq_true, if_false];have hp1 := s1 p _ hp;have hb1 := s1 b _ hb;have nbp : b ≠ p := Zqu hb hp (by intro z; cases z);have l0 : ([] : List (Str × V)).length <= 0 := Nat.le_refl 0;refine ⟨C, dx, [], hp1, L.cl, L.number, by decide, C, dx, _, Zah, L.cl, L.sender, Nat.lt_of_le_of_lt (Zaw l0) (by decide), C, dx, _, Zah, L.cl, L.goal, Nat.lt_of_le_of_lt (Zaw (Zaw l0)) (by decide), xs,
   .inl (SqL.of (by rw [Zal nbp, Zal nbp, Zal nbp]; exact hb1)), fun l hl => ?_⟩
  have hlp : l ≠ p := fun z => by rw [z, Zah] at hl; cases hl
  have hl1 : H1 l = none := by rw [Zal hlp, Zal hlp, Zal hlp] at hl; exact hl
  refine ⟨C, dx, _, by rw [Zal (Ne.symm hlp)]; exact Zah, L.cl, L.body, Nat.lt_of_le_of_lt (Zaw (Zaw (Zaw l0))) (by decide), C, dx, _, Zah, L.cl, L.keep, Nat.lt_of_le_of_lt (Zaw (Zaw (Zaw (Zaw l0)))) (by decide), ?_⟩;refine q _ l (s1.free hl1) hlp (by rw [Zal hlp, Zal hlp, Zah]) ⟨dx, _, Zah, ?_, ?_, ?_, ?_, ?_, ?_, ?_⟩ ?_
  ·rw [Zai, Zai, Zai, Zai, Zcs] <;> decide +kernel
  ·rw [Zai, Zai, Zai, Zcs] <;> decide +kernel
  ·rw [Zai, Zai, Zcs] <;> decide +kernel
  ·rw [Zai, Zcs] <;> decide +kernel
  ·rw [Zcs]
  ·rw [Zai, Zai, Zai, Zai, Zai] <;> first | rfl | decide +kernel
  ·rw [Zai, Zai, Zai, Zai, Zai] <;> first | rfl | decide +kernel
  ·intro c o e hc;rw [Zal hc, Zal hc, Zal (Zax (s1 c o e) hl1), Zal hc, Zal hc, Zal hc];exact s1 c o e
abbrev s_Letter_key : Stmt := Zg9 (top 37) 1
end
section
variable {P : Program} {w : World} {K : PySem.W.Frag} {mg : Str -> Option Value} {base : Heap}
def Zpd : V -> Bool
 | .int i => decide (0 <= i) && decide (i % 8 = 0)
 | _ => false
def Zd6 : Sp := fun vs H Q _ => ∃ x n, vs = [x] /\ tyF H x = some n /\ Q (.bl (Zpd x)) H
abbrev Zcy : Stmt := top 35
theorem Zir : Zao ["at"] ["at"] (defScope Zcy) := ⟨rfl, rfl, rfl, by decide +kernel, rfl, by decide +kernel, by decide +kernel⟩
theorem Zi0 {f : Addr} {fd : FuncData} (F : Fun K "is_place" "is_place" Zcy f fd) (T : Cn mg) (F_is_whole : FnB P w K mg base "is_whole" 1 ["value"] [] Zdl) : FnOk P w K mg base CX0 2 f fd ["at"] Zd6 := by
 refine F.ok Zir (fun vs H Q E h => ?_) (fun cdv A outer s H vs Q E hr h => ?_)
 ·obtain ⟨x, n, rfl, _⟩ := h; rfl
 ·obtain ⟨x, n, rfl, ty, q⟩ := h;refine ⟨_, (Zag (Zar (Zek (Zak F_is_whole (hr.mono (by decide)) rfl (Zaa (hs := Zab) (pv 0) Zad)) (Zek (Zc6 Zsc (pv 0) Zaf (Zbe _)) (Zgh (Zc6 Zon (Za2 Zd3 (pv 0) (Zcl rfl T.c_STEP)) Zaf (Zbe _))))))), ?_⟩;walk_at "rd";refine ⟨x, n, rfl, ty, _, rfl, Zme (fun h => ?_) (fun h => ?_)⟩
  ·cases x <;> first | (simp [isI] at h; done) | skip
   rename_i i
   walk_at "rd"
   by_cases h1 : 0 <= i
   ·simp only [h1, decide_true, if_true];refine ⟨by decide, rfl, ?_⟩;simpa [Zpd, h1] using q
   ·simp only [h1, decide_false, Bool.false_eq_true, if_false];simpa [Zpd, h1] using q
  ·have e : Zpd x = false := by cases x <;> first | rfl | (simp [isI] at h)
   rw [e] at q; exact q
def Zf3 (at' len : Int) (more : Bool) : Bool := if more then decide (len % 8 = 0) && decide (at' + len < 4000) else decide (at' + len <= 4000)
def Zd7 : Sp := fun vs H Q _ => ∃ at' len more, vs = [.int at', .int len, .bl more] /\ Q (.bl (Zf3 at' len more)) H
abbrev Zcz : Stmt := top 36
theorem Zis : Zao ["at", "length", "more"] ["at", "length", "more"] (defScope Zcz) := ⟨rfl, rfl, rfl, by decide +kernel, rfl, by decide +kernel, by decide +kernel⟩
theorem Zi1 {f : Addr} {fd : FuncData} (F : Fun K "has_room" "has_room" Zcz f fd) (T : Cn mg) : FnOk P w K mg base CX0 1 f fd ["at", "length", "more"] Zd7 := by
 refine F.ok Zis (fun vs H Q E h => ?_) (fun cdv A outer s H vs Q E hr h => ?_)
 ·obtain ⟨a, l, m, rfl, _⟩ := h; rfl
 ·obtain ⟨a, l, m, rfl, q⟩ := h;refine ⟨_, (Zae (Zc5 (Zb2 (pv 2)) (Zag (Zar (Zek (Zc6 Zon (Za2 Zd3 (pv 1) (Zcl rfl T.c_STEP)) Zaf (Zbe _)) (Zgh (Zc6 Zmx (Za2 Zcg (pv 0) (pv 1)) (Zcl rfl T.c_MOST_BYTES) (Zbe _)))))) Zbb) (Zag (Zar (Zc6 Zf4 (Za2 Zcg (pv 0) (pv 1)) (Zcl rfl T.c_MOST_BYTES) (Zbe _))))), ?_⟩;walk_at "rd";cases m with
  | true =>
   rw [if_pos rfl];refine ⟨by decide, rfl, ?_⟩;unfold Zf3 at q;rw [if_pos rfl] at q
   by_cases h1 : l % 8 = 0
   ·rw [if_pos (by simpa using h1)];simpa [h1] using q
   ·rw [if_neg (by simpa using h1)];simpa [h1] using q
  | false =>
   rw [if_neg (by simp)];exact q
structure Zkr (K : PySem.W.Frag) (C : Addr) : Prop where
 cl : Cls K C
 number : NoAttr K C "number"
 sender : NoAttr K C "sender"
 goal : NoAttr K C "goal"
 at' : NoAttr K C "at"
 body : NoAttr K C "body"
 more : NoAttr K C "more"
 keep : NoAttr K C "keep"
structure PieceAt (C : Addr) (H : Hp) (p : Addr) (nu se go a bo mo ke : V) : Prop where
 ex : ∃ dx fs, H p = some (.ins C dx fs) /\ fs.lookup ("number" : Str) = some nu /\ fs.lookup ("sender" : Str) = some se /\ fs.lookup ("goal" : Str) = some go /\ fs.lookup ("at" : Str) = some a /\ fs.lookup ("body" : Str) = some bo /\ fs.lookup ("more" : Str) = some mo /\ fs.lookup ("keep" : Str) = some ke /\
  fs.lookup ("key" : Str) = none /\ fs.lookup ("end" : Str) = none /\ fs.lookup ("is_like" : Str) = none
theorem PieceAt.same {C p : Addr} {H H' : Hp} {nu se go a bo mo ke : V} (s : ∀ o, H p = some o -> H' p = some o) (h : PieceAt C H p nu se go a bo mo ke) : PieceAt C H' p nu se go a bo mo ke := by
 obtain ⟨dx, fs, hp, r⟩ := h;exact ⟨dx, fs, s _ hp, r⟩
def Zcc (C : Addr) : Sp := fun vs H Q _ => ∃ (p dx : Addr) (nu se go : V) (a : Int) (b : Addr) (mo : Bool) (ke : V) (xs : List V), vs = [.ref p, nu, se, go, .int a, .ref b, .bl mo, ke] /\ H p = some (.ins C dx []) /\ Zd1 H nu se go (.ref b) ke /\ goodParts H nu se go (.ref b) ke = true /\
 Zpd (.int a) = true /\ H b = some (.lst xs) /\ Zf3 a xs.length mo = true /\
 ∀ H' b', H b' = none -> b' ≠ p -> H' b' = some (.lst xs) -> PieceAt C H' p nu se go (.int a) (.ref b') (.bl mo) ke -> But p H H' -> Q .non H'
abbrev s_Piece_init : Stmt := Zg9 (top 38) 0
theorem Zgv : Zao ["self", "number", "sender", "goal", "at", "body", "more", "keep"] ["self", "number", "sender", "goal", "at", "body", "more", "keep"] (defScope s_Piece_init) := ⟨rfl, rfl, rfl, by decide +kernel, rfl, by decide +kernel, by decide +kernel⟩
theorem Zg4 {f C : Addr} {fd : FuncData} (F : ∃ (oc : Value) (od : Option Addr) (dV kV doc pm : Value) (an : Option Addr) (cdv ct : Value) (osl : Array (Option Value)),
  fd = PySem.W.fnOf "__init__" "Piece.__init__" (Zan s_Piece_init) (defBody s_Piece_init) (defScope s_Piece_init) dV kV doc pm an cdv ct /\ K.lookup f = some ⟨oc, od, .func fd, osl⟩ /\ PySem.W.codeIn K cdv "Piece.__init__" = true) (L : Zkr K C) (B : Bt mg)
  (F_are_shared_parts : FnB P w K mg base "are_shared_parts" 5 ["number", "sender", "goal", "body", "keep"] [] Zbi) (F_is_place : FnB P w K mg base "is_place" 2 ["at"] [] Zd6) (F_is_truth : FnB P w K mg base "is_truth" 1 ["value"] [] Zdm)
  (F_has_room : FnB P w K mg base "has_room" 1 ["at", "length", "more"] [] Zd7) : FnOk P w K mg base CX0 6 f fd ["self", "number", "sender", "goal", "at", "body", "more", "keep"] (Zcc C) := by
 obtain ⟨oc, od, dV, kV, doc, pm, an, cdv, ct, osl, rfl, lk, hcd⟩ := F;refine Zlz lk hcd Zgv (fun vs H Q E h => ?_) (fun A outer s H vs Q E hr h => ?_)
 ·obtain ⟨p, dx, nu, se, go, a, b, mo, ke, xs, rfl, _⟩ := h; rfl
 ·obtain ⟨p, dx, nu, se, go, a, b, mo, ke, xs, rfl, hp, hpl, hgd, hat, hb, hroom, q⟩ := h
  suffices hh : ∃ t, PSs (cxOf CX0 P w K mg base _ "Piece.__init__" (defScope s_Piece_init) f cdv A outer s H E).nox (defBody s_Piece_init) t /\ t { nx := fun _ H' => Q .non H', rt := Q } (L2.start _ _) H by
   obtain ⟨t, h1, h2⟩ := hh;exact ⟨t, h1.nox, h2⟩
  refine ⟨_, (Zae (Zc5 (Zcd (Zb2 (Zak F_are_shared_parts (hr.mono (by decide)) rfl (Zaa (hs := Zab) (pv 1) (Zaa (hs := Zab) (pv 2) (Zaa (hs := Zab) (pv 3) (Zaa (hs := Zab) (pv 5) (Zaa (hs := Zab) (pv 7) Zad)))))))) Zfn Zbb) (Zae (Zc5 (PW.pt (Zgx (Zcd (Zb2 (Zak F_is_place (hr.mono (by decide)) rfl (Zaa (hs := Zab) (pv 4) Zad)))) (Zgx (Zcd (Zb2 (Zak F_is_truth (hr.mono (by decide)) rfl (Zaa (hs := Zab) (pv 6) Zad)))) (Zfl (Zcd (Zb2 (Zak F_has_room (hr.mono (by decide)) rfl (Zaa (hs := Zab) (pv 4) (Zaa (hs := Za1) (Zam (Za9 (K := K) rfl) rfl B.len (by rfl) (Zaa (hs := Zab) (pv 5) Zad)) (Zaa (hs := Zab) (pv 6) Zad)))))))))) Zfn Zbb) (Zae (Zcq (K := K) rfl (pv 0) (pv 1) rfl) (Zae (Zcq (K := K) rfl (pv 0) (pv 2) rfl) (Zae (Zcq (K := K) rfl (pv 0) (pv 3) rfl) (Zae (Zcq (K := K) rfl (pv 0) (pv 4) rfl) (Zae (Zcq (K := K) rfl (pv 0) (Zfq (Zgo (K := K) rfl) rfl B.blist (by rfl) (Zaa (hs := Zab) (pv 5) Zad)) rfl) (Zae (Zcq (K := K) rfl (pv 0) (pv 6) rfl) (Zag (Zcq (K := K) rfl (pv 0) (pv 7) rfl)))))))))), ?_⟩;walk_at "rd";refine ⟨nu, se, go, .ref b, ke, rfl, hpl, fun H1 s1 => ⟨_, rfl, ?_⟩⟩;rw [hgd];simp only [Bool.not_true, Bool.false_eq_true, if_false];refine ⟨.int a, _, rfl, rfl, _, rfl, ?_⟩;rw [hat];simp only [Bool.not_true, Bool.false_eq_true, if_false];refine ⟨.bl mo, _, rfl, rfl, _, rfl, ?_⟩;have hp1 := s1 p _ hp;have hb1 := s1 b _ hb;have nbp : b ≠ p := Zqu hb hp (by intro z; cases z);have l0 : ([] : List (Str × V)).length <= 0 := Nat.le_refl 0;simp only [isB, Bool.not_true, Bool.false_eq_true, if_false];refine ⟨_, .inl (SqL.of hb1), a, _, mo, rfl, _, rfl, ?_⟩;rw [hroom];simp only [Bool.not_true, Bool.false_eq_true, if_false];refine ⟨C, dx, [], hp1, L.cl, L.number, by decide, C, dx, _, Zah, L.cl, L.sender, Nat.lt_of_le_of_lt (Zaw l0) (by decide), C, dx, _, Zah, L.cl, L.goal, Nat.lt_of_le_of_lt (Zaw (Zaw l0)) (by decide), C, dx, _, Zah, L.cl, L.at', Nat.lt_of_le_of_lt (Zaw (Zaw (Zaw l0))) (by decide), xs,
   .inl (SqL.of (by rw [Zal nbp, Zal nbp, Zal nbp, Zal nbp]; exact hb1)), fun l hl => ?_⟩
  have hlp : l ≠ p := fun z => by rw [z, Zah] at hl; cases hl
  have hl1 : H1 l = none := by rw [Zal hlp, Zal hlp, Zal hlp, Zal hlp] at hl; exact hl
  refine ⟨C, dx, _, by rw [Zal (Ne.symm hlp)]; exact Zah, L.cl, L.body, Nat.lt_of_le_of_lt (Zaw (Zaw (Zaw (Zaw l0)))) (by decide), C, dx, _, Zah, L.cl, L.more, Nat.lt_of_le_of_lt (Zaw (Zaw (Zaw (Zaw (Zaw l0))))) (by decide), C, dx, _, Zah, L.cl, L.keep, Nat.lt_of_le_of_lt (Zaw (Zaw (Zaw (Zaw (Zaw (Zaw l0)))))) (by decide), ?_⟩;refine q _ l (s1.free hl1) hlp (by rw [Zal hlp, Zal hlp, Zal hlp, Zah]) ⟨dx, _, Zah, ?_, ?_, ?_, ?_, ?_, ?_, ?_, ?_, ?_, ?_⟩ ?_
  ·rw [Zai, Zai, Zai, Zai, Zai, Zai, Zcs] <;> decide +kernel
  ·rw [Zai, Zai, Zai, Zai, Zai, Zcs] <;> decide +kernel
  ·rw [Zai, Zai, Zai, Zai, Zcs] <;> decide +kernel
  ·rw [Zai, Zai, Zai, Zcs] <;> decide +kernel
  ·rw [Zai, Zai, Zcs] <;> decide +kernel
  ·rw [Zai, Zcs] <;> decide +kernel
  ·rw [Zcs]
  ·rw [Zai, Zai, Zai, Zai, Zai, Zai, Zai] <;> first | rfl | decide +kernel
  ·rw [Zai, Zai, Zai, Zai, Zai, Zai, Zai] <;> first | rfl | decide +kernel
  ·rw [Zai, Zai, Zai, Zai, Zai, Zai, Zai] <;> first | rfl | decide +kernel
  ·intro c o e hc;rw [Zal hc, Zal hc, Zal hc, Zal (Zax (s1 c o e) hl1), Zal hc, Zal hc, Zal hc, Zal hc];exact s1 c o e
abbrev s_Piece_key : Stmt := Zg9 (top 38) 1
end
section
variable {P : Program} {w : World} {K : PySem.W.Frag} {mg : Str -> Option Value} {base : Heap}
def StOk (H : Hp) (a : Addr) : Prop := (∃ n, H a = some (.lst [.int n])) \/ ∃ n m c, H a = some (.lst [.int n, .int m, .int c])
theorem StOk.lst {H : Hp} {a : Addr} (h : StOk H a) : ∃ xs, H a = some (.lst xs) := by
 rcases h with ⟨n, h⟩ | ⟨n, m, c, h⟩ <;> exact ⟨_, h⟩
theorem Zjw (x y : Int) : CMul (x % 2147483647) y := .inl ⟨by have := Int.emod_nonneg x (show (2147483647 : Int) ≠ 0 by decide); omega, by have := Int.emod_lt_of_pos x (show (0 : Int) < 2147483647 by decide); omega⟩
def Zcu : Sp := fun vs H Q _ => ∃ a b, vs = [.ref a, .int b] /\ StOk H a /\ 1 <= b /\ b < 1073741824 /\ ∀ d H', 0 <= d -> d < b -> StOk H' a -> But a H H' -> Q (.int d) H'
abbrev Zez : Stmt := top 52
theorem Zfd : Zao ["_law_state", "_law_base", "_law_number", "_law_found"] ["_law_state", "_law_base"] (defScope Zez) := ⟨rfl, rfl, rfl, by decide +kernel, rfl, by decide +kernel, by decide +kernel⟩
theorem Zm1 {f : Addr} {fd : FuncData} (F : Fun K "_law_digit" "_law_digit" Zez f fd) (B : Bt mg) : FnOk P w K mg base CX0 1 f fd ["_law_state", "_law_base"] Zcu := by
 refine F.ok Zfd (fun vs H Q E h => ?_) (fun cdv A outer s H vs Q E hr h => ?_)
 ·obtain ⟨a, b, rfl, _⟩ := h; rfl
 ·obtain ⟨a, b, rfl, hst, hb1, hb2, q⟩ := h;refine ⟨_, (Zae (Zr9 (Zc5 (Zbt Zon (Zam (Za9 (K := K) rfl) rfl B.len (by rfl) (Zaa (hs := Zab) (pv 0) Zad)) Zaf (Zbe _)) (Zag (Zb0 (Zdf (K := K) rfl PySem.F.plainAttrs_list PySem.F.slot_list_extend PySem.F.type_list_extend mt_extend (pv 0) (Zaa (hs := Zfh) (Zno (Zaa (hs := Zcb) (Za2 Zd3 (Zcf (Za0 (K := K) rfl) (pv 0) Zaf (fun _ _ => rfl)) Zaf) (Zaa (hs := Zac) Zaf Zad))) Zad)))) Zbb)) (Zae (Zc5 (Zbt Ziv (Zcf (Za0 (K := K) rfl) (pv 0) Zaf (fun _ _ => rfl)) Zaf (Zbe _)) (Zae (Zay (i := 3) (Zfd).nd rfl (Or.inl rfl) (Za2 Zd3 (Zcf (Za0 (K := K) rfl) (pv 0) Zaf (fun _ _ => rfl)) (pv 1))) (Zae (Znl (Za2 Zg1 (Zcf (Za0 (K := K) rfl) (pv 0) Zaf (fun _ _ => rfl)) (pv 1)) (Znm (pv 0) Zaf Zjj)) (Zag (Zar (pv 3))))) Zbb) (Zae (Znl (Za2 Zcg (Zcf (Za0 (K := K) rfl) (pv 0) Zaf (fun _ _ => rfl)) Zaf) (Znm (pv 0) Zaf Zjj)) (Zae (Zay (i := 2) (Zfd).nd rfl (Or.inl rfl) (Za2 Zd3 (Za2 Zjp (Za2 Zcg (Za2 Zcg (Zcf (Za0 (K := K) rfl) (pv 0) Zaf (fun _ _ => rfl)) (Za2 Zjp Zaf (Zcf (Za0 (K := K) rfl) (pv 0) Zaf (fun _ _ => rfl)))) Zaf) Zaf) Zaf)) (Zae (Zay (i := 2) (Zfd).nd rfl (Or.inl rfl) (Za2 Zd3 (Za2 Zjp (pv 2) (Za2 Zcg (Za2 Zg1 (pv 2) Zaf) Zaf)) Zaf)) (Zag (Zar (Za2 Zd3 (Za2 Zd3 (Za2 Zjp (pv 2) (Za2 Zcg (Za2 Zg1 (pv 2) Zaf) Zaf)) Zaf) (pv 1))))))))), ?_⟩;walk_at "rd";refine ⟨fun σ' H' => σ' = [some (.ref a), some (.int b), none, none] /\ ∃ n m c, H' a = some (.lst [.int n, .int m, .int c]) /\ But a H H', ?_, ?_⟩
  ·rcases hst with ⟨n, h⟩ | ⟨n, m, c, h⟩
   ·refine ⟨_, .inl (SqL.of h), rfl, ?_⟩;rw [if_pos (by rfl)];refine ⟨.inl ⟨rfl, _, SqL.of h⟩, _, SqL.of h, _, rfl, _, rfl, by decide, Zaj (by decide), fun p hp => ⟨_, (Zal (Zax h hp)).trans h, _, Zah, Zaj (by simp), rfl, _, _, _, Zah, ?_⟩⟩;intro c o e hc;rw [Zal hc, Zal (Zax e hp)];exact e
   ·refine ⟨_, .inl (SqL.of h), rfl, ?_⟩;rw [if_neg (by simp)];exact ⟨rfl, n, m, c, h, But.refl a H⟩
  ·rintro σ' H' ⟨rfl, n, m, c, h, hB⟩;walk_at "rd";refine ⟨_, SqL.of h, _, rfl, _, rfl, Zme (fun h0 => ?_) (fun h0 => ?_)⟩
   ·refine ⟨_, SqL.of h, _, rfl, _, rfl, by omega, _, SqL.of h, _, rfl, _, rfl, ⟨by omega, by omega⟩, _, h, 0, rfl, ?_⟩;exact q _ _ (Int.emod_nonneg _ (by omega)) (Int.emod_lt_of_pos _ (by omega)) (.inr ⟨_, _, _, Zah⟩) (hB.trans But.upd)
   ·refine ⟨_, SqL.of h, _, rfl, _, rfl, _, h, 2, rfl, _, SqL.of Zah, _, rfl, _, SqL.of Zah, _, rfl, _, rfl, .inl ⟨by decide, by decide⟩, _, rfl, .inr ⟨by decide, by decide⟩, by decide, ⟨by decide, by decide⟩, Zjw _ _, by decide, ⟨by decide, by decide⟩, Zjw _ _, by decide, by omega, ?_⟩;exact q _ _ (Int.emod_nonneg _ (by omega)) (Int.emod_lt_of_pos _ (by omega)) (.inr ⟨_, _, _, Zah⟩) (hB.trans But.upd)
def NmOk (z : Str) : Prop := 1 <= z.length /\ z.length <= 8 /\ z.cps.toList.all Ze8 = true
theorem NmOk.is {z : Str} (h : NmOk z) : isNm (.str z) = true := by
 obtain ⟨h1, h2, h3⟩ := h;simp only [isNm, h1, h2, h3, decide_true, Bool.and_self]
def Zil : Sp := fun vs H Q _ => ∃ a, vs = [.ref a] /\ StOk H a /\ ∀ z H', NmOk z -> StOk H' a -> But a H H' -> Q (.str z) H'
abbrev Zge : Stmt := top 53
theorem Zgs : Zao ["_law_state", "_law_found", "_law_k"] ["_law_state"] (defScope Zge) := ⟨rfl, rfl, rfl, by decide +kernel, rfl, by decide +kernel, by decide +kernel⟩
theorem Zlo : ∀ d : Int, 0 <= d -> d < 26 -> ∃ c, atI ("abcdefghijklmnopqrstuvwxyz" : Str).cps.toList d = some c /\ Ze8 c = true := by
 intro d h0 h1;obtain ⟨k, rfl⟩ : ∃ k : Nat, d = k := ⟨d.toNat, by omega⟩;have hk : k < 26 := by omega
 have all : ∀ k : _root_.Fin 26, ∃ c, ("abcdefghijklmnopqrstuvwxyz" : Str).cps.toList[k.val]? = some c /\ Ze8 c = true := by decide +kernel
 obtain ⟨c, hc, hs⟩ := all ⟨k, hk⟩;exact ⟨c, Zat hc, hs⟩
theorem Zoq {f : Addr} {fd : FuncData} (F : Fun K "_law_name" "_law_name" Zge f fd) (B : Bt mg) (F_digit : FnB P w K mg base "_law_digit" 1 ["_law_state", "_law_base"] [] Zcu) : FnOk P w K mg base CX0 2 f fd ["_law_state"] Zil := by
 refine F.ok Zgs (fun vs H Q E h => ?_) (fun cdv A outer s H vs Q E hr h => ?_)
 ·obtain ⟨a, rfl, _⟩ := h; rfl
 ·obtain ⟨a, rfl, hst, q⟩ := h;refine ⟨_, (Zae (Zay (i := 1) (Zgs).nd rfl (Or.inl rfl) Zbg) (Zae (Zfo PassesOwn.never rfl (Zdx rfl B.range (Zaa (hs := Zcb) (Za2 Zcg Zaf (Zak F_digit (hr.mono (by decide)) rfl (Zaa (hs := Zab) (pv 0) (Zaa (hs := Zac) Zaf Zad)))) Zad)) (Zce (i := 2) (Zgs).nd rfl (Or.inl rfl)) (Zag (Zay (i := 1) (Zgs).nd rfl (Or.inl rfl) (Za2 Zka (pv 1) (Zcf Zq4 Zbg (Zak F_digit (hr.mono (by decide)) rfl (Zaa (hs := Zab) (pv 0) (Zaa (hs := Zac) Zaf Zad))) (fun _ _ => rfl)))))) (Zag (Zar (pv 1))))), ?_⟩;walk_at "rd";refine ⟨a, 8, rfl, hst, by decide, by decide, fun d H1 d0 d8 st1 b1 => ?_⟩;walk_at "rd";refine ⟨by omega, by omega, ?_⟩;obtain ⟨k, ek⟩ : ∃ k : Nat, (1 + d).toNat = k + 1 := ⟨d.toNat, by omega⟩;have hk : k + 1 <= 8 := by omega
  rw [ek];obtain ⟨Pv, ePv⟩ : ∃ Pv : Nat -> L2.St -> Hp -> Prop, Pv = fun i σ' H' => ∃ z v, σ' = [some (.ref a), some (.str z), v] /\ i <= k + 1 /\ z.length = i /\ z.cps.toList.all Ze8 = true /\ StOk H' a /\ But a H H' := ⟨_, rfl⟩
  refine Zju Pv (by rw [ePv]; exact ⟨"", none, rfl, Nat.zero_le _, by decide +kernel, by decide +kernel, st1, b1⟩) ?_ ?_ <;> rw [ePv]
  ·rintro i σ' H2 hi ⟨z, v, rfl, hi1, hz, hc, st2, b2⟩;rw [<- ePv];walk_at "rd";refine ⟨a, 26, rfl, st2, by decide, by decide, fun d' H3 e0 e26 st3 b3 => ?_⟩;walk_at "rd";obtain ⟨c, hc1, hc2⟩ := Zlo d' e0 e26;refine ⟨by decide +kernel, c, hc1, ?_⟩;have e1 : (z ++ (⟨#[c]⟩ : Str)).cps.toList = z.cps.toList ++ [c] := by show (z.cps ++ #[c]).toList = _; simp
   have e2 : (z ++ (⟨#[c]⟩ : Str)).length = z.length + 1 := by show (z.cps ++ #[c]).size = z.cps.size + 1; simp
   have e3 : (⟨#[c]⟩ : Str).length = 1 := rfl;refine ⟨by rw [e3]; exact Zaj (by omega), ?_⟩;rw [ePv];exact ⟨_, _, rfl, by omega, by rw [e2, hz], by rw [e1, List.all_append, hc]; simp [hc2], st3, b2.trans b3⟩
  ·rintro σ' H2 ⟨z, v, rfl, _, hz, hc, st2, b2⟩;walk_at "rd";exact q z H2 ⟨by omega, by omega, hc⟩ st2 b2
theorem Zjd {a t : Addr} {H H' : Hp} (b : But a H H') (st : StOk H' a) (h : H' t = none) : H t = none /\ t ≠ a := by
 have n : t ≠ a := fun z => by
  subst z;obtain ⟨xs, e⟩ := st.lst;rw [e] at h; cases h
 refine ⟨?_, n⟩;cases e : H t with
 | none => rfl
 | some o => rw [b t o e n] at h; cases h
theorem StOk.upd {a p : Addr} {H : Hp} {o : HO} (h : StOk H a) (n : a ≠ p) : StOk (L2.upd H p o) a := by
 rcases h with ⟨n', h⟩ | ⟨n', m, c, h⟩
 ·exact .inl ⟨n', by rw [Zal n]; exact h⟩
 ·exact .inr ⟨n', m, c, by rw [Zal n]; exact h⟩
theorem at3 {x0 x1 x2 : V} {d : Int} (h0 : 0 <= d) (h1 : d < 3) : ∃ x, atI [x0, x1, x2] d = some x /\ (x = x0 \/ x = x1 \/ x = x2) := by
 have : d = 0 \/ d = 1 \/ d = 2 := by omega
 rcases this with rfl | rfl | rfl
 ·exact ⟨x0, rfl, .inl rfl⟩
 ·exact ⟨x1, rfl, .inr (.inl rfl)⟩
 ·exact ⟨x2, rfl, .inr (.inr rfl)⟩
def Zk7 : Sp := fun vs H Q _ => ∃ a, vs = [.ref a] /\ StOk H a /\ ∀ t nu z1 z2 H', 0 <= nu -> nu <= 65535 -> NmOk z1 -> NmOk z2 -> H t = none -> t ≠ a -> H' t = some (.tup [.int nu, .str z1, .str z2]) -> StOk H' a -> But a H H' -> Q (.ref t) H'
abbrev Zj8 : Stmt := top 54
theorem Zni : Zao ["_law_state", "_law_number"] ["_law_state"] (defScope Zj8) := ⟨rfl, rfl, rfl, by decide +kernel, rfl, by decide +kernel, by decide +kernel⟩
theorem Zqs {f : Addr} {fd : FuncData} (F : Fun K "_law_key" "_law_key" Zj8 f fd) (F_digit : FnB P w K mg base "_law_digit" 1 ["_law_state", "_law_base"] [] Zcu) (F_name : FnB P w K mg base "_law_name" 2 ["_law_state"] [] Zil) : FnOk P w K mg base CX0 3 f fd ["_law_state"] Zk7 := by
 refine F.ok Zni (fun vs H Q E h => ?_) (fun cdv A outer s H vs Q E hr h => ?_)
 ·obtain ⟨a, rfl, _⟩ := h; rfl
 ·obtain ⟨a, rfl, hst, q⟩ := h;refine ⟨_, (Zae (Zay (i := 1) (Zni).nd rfl (Or.inl rfl) (Zcf (Za0 (K := K) rfl) (Zno (Zaa (hs := Za1) (Zak F_digit (hr.mono (by decide)) rfl (Zaa (hs := Zab) (pv 0) (Zaa (hs := Zac) Zaf Zad))) (Zaa (hs := Za1) (Zak F_digit (hr.mono (by decide)) rfl (Zaa (hs := Zab) (pv 0) (Zaa (hs := Zac) Zaf Zad))) (Zaa (hs := Zac) Zaf Zad)))) (Zak F_digit (hr.mono (by decide)) rfl (Zaa (hs := Zab) (pv 0) (Zaa (hs := Zac) Zaf Zad))) (fun _ _ => rfl))) (Zag (Zar (Zqm (Zaa (hs := Zab) (pv 1) (Zaa (hs := Za1) (Zak F_name (hr.mono (by decide)) rfl (Zaa (hs := Zab) (pv 0) Zad)) (Zaa (hs := Za1) (Zak F_name (hr.mono (by decide)) rfl (Zaa (hs := Zab) (pv 0) Zad)) Zad))))))), ?_⟩;walk_at "rd";refine ⟨a, 4, rfl, hst, by decide, by decide, fun d1 H1 l1 u1 st1 b1 => ?_⟩;refine ⟨a, 65536, rfl, st1, by decide, by decide, fun d2 H2 l2 u2 st2 b2 => ?_⟩;refine ⟨Zaj (by simp), fun p hp => ?_⟩;have hpa : a ≠ p := fun z => by obtain ⟨xs, e⟩ := st2.lst; rw [z, hp] at e; cases e
  refine ⟨a, 3, rfl, st2.upd hpa, by decide, by decide, fun d3 H3 l3 u3 st3 b3 => ?_⟩;obtain ⟨x, hx, hx'⟩ := at3 (x0 := .int d1) (x1 := .int d2) (x2 := .int 65535) l3 u3;obtain ⟨nu, rfl, n0, n1⟩ : ∃ nu, x = .int nu /\ 0 <= nu /\ nu <= 65535 := by
   rcases hx' with rfl | rfl | rfl
   ·exact ⟨d1, rfl, l1, by omega⟩
   ·exact ⟨d2, rfl, l2, by omega⟩
   ·exact ⟨65535, rfl, by decide, by decide⟩
  walk_at "rd";refine ⟨_, SqL.of (b3 p _ Zah (Ne.symm hpa)), _, hx, ?_⟩;refine ⟨a, rfl, st3, fun z1 H4 k1 st4 b4 => ⟨a, rfl, st4, fun z2 H5 k2 st5 b5 => ⟨Zaj (by simp), fun t ht => ?_⟩⟩⟩;have b05 : But a H H5 := (((b1.trans b2).new ((Zjd (b1.trans b2) st2 hp).1)).trans b3).trans (b4.trans b5);obtain ⟨ht1, ht2⟩ := Zjd b05 st5 ht;exact q t nu z1 z2 _ n0 n1 k1 k2 ht1 ht2 Zah (st5.upd (Ne.symm ht2)) (b05.new ht1)
abbrev s_amount : Stmt := top 56
end
section
variable {P : Program} {w : World} {K : PySem.W.Frag} {mg : Str -> Option Value} {base : Heap}
def Zim : Sp := fun vs H Q _ => ∃ a n, vs = [.ref a, .int n] /\ StOk H a /\ 1 <= n /\ n <= 4000 /\ ∀ b (ns : List Int) H', (ns.length : Int) = n -> (∀ x ∈ ns, 0 <= x /\ x <= 255) -> H b = none -> b ≠ a -> H' b = some (.lst (ns.map V.int)) -> StOk H' a -> But a H H' -> Q (.ref b) H'
abbrev Zfk : Stmt := top 55
theorem Zit : Zao ["_law_state", "_law_amount_here", "_law_found", "_law_step"] ["_law_state", "_law_amount_here"] (defScope Zfk) := ⟨rfl, rfl, rfl, by decide +kernel, rfl, by decide +kernel, by decide +kernel⟩
theorem Zor {f : Addr} {fd : FuncData} (F : Fun K "_law_body" "_law_body" Zfk f fd) (B : Bt mg) (F_digit : FnB P w K mg base "_law_digit" 1 ["_law_state", "_law_base"] [] Zcu) : FnOk P w K mg base CX0 2 f fd ["_law_state", "_law_amount_here"] Zim := by
 refine F.ok Zit (fun vs H Q E h => ?_) (fun cdv A outer s H vs Q E hr h => ?_)
 ·obtain ⟨a, n, rfl, _⟩ := h; rfl
 ·obtain ⟨a, n, rfl, hst, h1, h4, q⟩ := h;refine ⟨_, (Zae (Zgg (i := 2) (N' := ["_law_k", "_law_state"]) (caps := [none, some 0]) (Zjb (sc := defScope Zfk) (N := ["_law_state", "_law_amount_here", "_law_found", "_law_step"]) rfl rfl (by decide +kernel)) rfl (Zit).nd rfl (Or.inl rfl) (Zdx rfl B.range (Zaa (hs := Za1) (Zam (Zmb rfl) rfl B.min (by rfl) (Zaa (hs := Zab) (pv 1) (Zaa (hs := Zac) Zaf Zad))) Zad)) (fun _ _ _ _ _ => (Zce (i := 0) (Zi3 (N := ["_law_k", "_law_state"]) rfl (by decide +kernel)) rfl (Or.inl rfl))) (fun _ _ _ _ _ => Zfp) (fun _ _ _ _ _ => (Zak F_digit (hr.mono (by decide)) rfl (Zaa (hs := Zab) (pv 1) (Zaa (hs := Zac) Zaf Zad)))) rfl) (Zae (Zay (i := 3) (Zit).nd rfl (Or.inl rfl) (Za2 Zcg Zaf (Zak F_digit (hr.mono (by decide)) rfl (Zaa (hs := Zab) (pv 0) (Zaa (hs := Zac) Zaf Zad))))) (Zae (Zjm PassesOwn.never (Zbt Zmx (Zam (Za9 (K := K) rfl) rfl B.len (by rfl) (Zaa (hs := Zab) (pv 2) Zad)) (pv 1) (Zbe _)) (Zag (Zb0 (Zdf (K := K) rfl PySem.F.plainAttrs_list PySem.F.slot_list_append PySem.F.type_list_append mt_append (pv 2) (Zaa (hs := Zcb) (Za2 Zd3 (Za2 Zcg (Zcf (Za0 (K := K) rfl) (pv 2) (Za2 Zht (Zam (Za9 (K := K) rfl) rfl B.len (by rfl) (Zaa (hs := Zab) (pv 2) Zad)) Zaf) (fun _ _ => rfl)) (pv 3)) Zaf) Zad))))) (Zag (Zar (pv 2)))))), ?_⟩;walk_at "rd";obtain ⟨m, em, m1, m60, mn, mx⟩ : ∃ m : Nat, (if 60 < n then 60 else n) = (m : Int) /\ 1 <= m /\ m <= 60 /\ (n <= 60 -> (m : Int) = n) /\ (60 < n -> m = 60) := by
   by_cases h : 60 < n
   ·exact ⟨60, by rw [if_pos h]; rfl, by omega, by omega, by omega, by omega⟩
   ·exact ⟨n.toNat, by rw [if_neg h]; omega, by omega, by omega, by omega, by omega⟩
  rw [em, Int.toNat_natCast];refine ⟨by omega, by omega, ?_⟩;obtain ⟨Pv, ePv⟩ : ∃ Pv : Nat -> List V -> L2.St -> Hp -> Prop, Pv = fun i ys σ' H' => ∃ (ns : List Int) (v : Option V), ys = ns.map V.int /\ ns.length = i /\ (∀ x ∈ ns, 0 <= x /\ x <= 255) /\ σ' = [v, some (.ref a)] /\ StOk H' a /\ But a H H' := ⟨_, rfl⟩
  refine Zgm Pv (by rw [ePv]; exact ⟨[], none, rfl, rfl, (fun _ h => nomatch h), rfl, hst, But.refl a H⟩) ?_ (Zaj (by omega)) ?_ ?_ <;> rw [ePv]
  ·rintro i ys σ' H' ⟨ns, v, rfl, hl, _⟩ _;rw [List.length_map, hl]; exact Nat.le_refl _
  ·rintro i ys σ' H' hi ⟨ns, v, rfl, hl, hns, rfl, st, bb⟩;rw [<- ePv];walk_at "rd";refine ⟨a, 256, rfl, st, by decide, by decide, fun d H2 l0 u0 st2 b2 => ?_⟩;rw [ePv];refine ⟨ns ++ [d], _, by rw [List.map_append]; rfl, by rw [List.length_append, hl]; rfl, fun x hx => ?_, rfl, st2, bb.trans b2⟩;rcases List.mem_append.mp hx with z | z
   ·exact hns x z
   ·rw [List.mem_singleton.mp z]; omega
  ·rintro ys σ' H1 ⟨ns, v, rfl, hl, hns, _, st1, b1⟩ b hb;obtain ⟨hbH, hba⟩ := Zjd b1 st1 hb;refine ⟨a, 255, rfl, st1.upd (Ne.symm hba), by decide, by decide, fun d H2 l0 u0 st2 b2 => ?_⟩;walk_at "rd";have h2b := b2 b _ Zah hba;have b12 : But a H H2 := (b1.new hbH).trans b2;obtain ⟨Pw, ePw⟩ : ∃ Pw : L2.St -> Hp -> Prop, Pw = fun σ' H' => ∃ ns : List Int, σ' = [some (.ref a), some (.int n), some (.ref b), some (.int (1 + d))] /\ H' b = some (.lst (ns.map V.int)) /\ (ns.length : Int) <= n /\ (n <= 60 -> (ns.length : Int) = n) /\ 1 <= ns.length /\ (60 < n -> 60 <= ns.length) /\ (∀ x ∈ ns, 0 <= x /\ x <= 255) /\ StOk H' a /\ But a H H' := ⟨_, rfl⟩
   refine Zpf Pw (fun _ H' => match H' b with | some (.lst xs) => n.toNat - xs.length | _ => 0) (by rw [ePw]; exact ⟨ns, rfl, h2b, by omega, by omega, by omega, by omega, hns, st2, b12⟩) ?_;intro σ' H' hP;rw [ePw] at hP;obtain ⟨ms, rfl, hb', hlen, hle, hge1, hge, hms, st', bb'⟩ := hP;walk_at "rd";refine ⟨_, .inl (SqL.of hb'), Zme (fun hlt => ?_) (fun hnlt => ?_)⟩
   ·have hlt' : (ms.length : Int) < n := by simpa using hlt
    have h60 : 60 < n := by omega
    have h60' := hge h60;refine ⟨fun σ2 H2 => Pw σ2 H2 /\ ∃ xs, H2 b = some (.lst xs) /\ xs.length = ms.length + 1, ?_, ?_⟩
    ·rintro σ2 H2 ⟨p2, xs, e2, l2⟩;refine ⟨_, ?_, rfl, p2⟩;rw [e2, hb'];show n.toNat - xs.length < n.toNat - (ms.map V.int).length;rw [l2, List.length_map];omega
    ·obtain ⟨j, ej⟩ : ∃ j : Nat, (ms.length : Int) - 60 = j := ⟨ms.length - 60, by omega⟩;have hj : j < ms.length := by omega
     have hat : atI (ms.map V.int) ((ms.length : Int) - 60) = some (.int ms[j]) := by
      rw [ej]; exact Zat (by rw [List.getElem?_map, List.getElem?_eq_getElem hj]; rfl)
     have hba' : tyV K "list" (.ref b) H' := .inl ⟨rfl, _, SqL.of hb'⟩
     refine ⟨hba', _, .inl (SqL.of hb'), _, SqL.of hb', _, by rw [List.length_map]; exact hat, ?_⟩;refine ⟨_, rfl, by decide, _, hb', Zbr (by rw [List.length_map]; omega), ?_, _, Zah, by rw [List.length_append, List.length_map]; rfl⟩;rw [ePw];refine ⟨ms ++ [(ms[j] + (1 + d)) % 256], rfl, by rw [Zah, List.map_append]; rfl, by rw [List.length_append]; show ((ms.length + 1 : Nat) : Int) <= n; omega, by omega, by rw [List.length_append]; omega, by rw [List.length_append]; omega, fun x hx => ?_, st'.upd (Ne.symm hba), bb'.new hbH⟩;rcases List.mem_append.mp hx with z | z
     ·exact hms x z
     ·rw [List.mem_singleton.mp z];have e1 := Int.emod_nonneg (ms[j] + (1 + d)) (show (256 : Int) ≠ 0 by decide);have e2 := Int.emod_lt_of_pos (ms[j] + (1 + d)) (show (0 : Int) < 256 by decide);omega
   ·have e : (ms.length : Int) = n := by
     have : ¬ (ms.length : Int) < n := by simpa using hnlt
     omega
    exact q b ms H' e hms hbH hba hb' st' bb'
end
section
variable {K : PySem.W.Frag}
abbrev keyD (nu : Int) (z1 z2 : Str) : PyData := .tuple [.int nu, .str z1, .str z2]
theorem Zhe {H : Hp} {b : Addr} {ns : List Int} (h : H b = some (.lst (ns.map V.int))) : Dp K H (.ref b) (.list (ns.map PyData.int)) := .lst (SqL.of h) (DpAll.ints ns)
theorem Zjz (ns : List Int) : PyData.eqv (.list (ns.map PyData.int)) (.list (ns.map PyData.int)) = true := by
 show PyData.eqvAll _ _ = true;rw [PySem.W.ked_eqvAll]; simp
theorem Ztg {n : Nat} (h : 0 < n) : ixN n 0 = some 0 := by
 have h' : (0 : Int) < (n : Int) := by omega
 unfold ixN;rw [if_pos (by decide), if_pos h']; rfl
theorem at0 {α : Type} {x : α} {xs : List α} : atI (x :: xs) 0 = some x := by
 unfold atI; rw [List.length_cons, Ztg (Nat.succ_pos _)]; rfl
theorem Zm8 (ns : List Int) (lo hi : Option Int) : ∃ ms : List Int, Zja (ns.map V.int) lo hi = ms.map V.int /\ ms.length <= ns.length := by
 refine ⟨(ns.drop (HT.sIx (ns.map V.int).length 0 lo)).take (HT.sIx (ns.map V.int).length (ns.map V.int).length hi - HT.sIx (ns.map V.int).length 0 lo), ?_, ?_⟩
 ·unfold Zja; rw [List.map_take, List.map_drop]
 ·rw [List.length_take, List.length_drop]; omega
theorem Zgi {H : Hp} {nu : Int} {z1 z2 : Str} {b : Addr} {ns : List Int} {k : Bool} (h0 : 0 <= nu) (h1 : nu <= 65535) (n1 : NmOk z1) (n2 : NmOk z2) (hb : H b = some (.lst (ns.map V.int))) (l1 : 1 <= ns.length) (l2 : ns.length <= 4000) (hns : ∀ x ∈ ns, 0 <= x /\ x <= 255) :
  Zd1 H (.int nu) (.str z1) (.str z2) (.ref b) (.bl k) /\ goodParts H (.int nu) (.str z1) (.str z2) (.ref b) (.bl k) = true := by
 refine ⟨⟨⟨_, rfl⟩, ⟨_, rfl⟩, fun z e => ?_, ⟨_, rfl⟩, fun z e => ?_, ⟨_, Zdu hb⟩, fun a xs e1 e2 => ?_, ⟨_, rfl⟩⟩, ?_⟩
 ·cases e; have := n1.2.1; omega
 ·cases e; have := n2.2.1; omega
 ·cases e1; rw [hb] at e2; cases e2;refine ⟨by rw [List.length_map]; omega, fun y hy => ?_⟩;obtain ⟨i, _, rfl⟩ := List.mem_map.mp hy;exact ⟨_, rfl⟩
 ·unfold goodParts;rw [n1.is, n2.is, Zjt hb];have hall : (ns.map V.int).all (fun y => wIn y 0 255) = true := by
   rw [List.all_eq_true];intro y hy;obtain ⟨i, hi, rfl⟩ := List.mem_map.mp hy;have := hns i hi;simp [wIn, this.1, this.2]
  rw [hall];simp [wIn, h0, h1, l1, l2, isB]
end
section
variable {P : Program} {w : World} {K : PySem.W.Frag} {mg : Str -> Option Value} {base : Heap}
end
section
theorem LetterAt.same {C p : Addr} {H H' : Hp} {nu se go bo ke : V} (s : ∀ o, H p = some o -> H' p = some o) (h : LetterAt C H p nu se go bo ke) : LetterAt C H' p nu se go bo ke := by
 obtain ⟨dx, fs, hp, r⟩ := h;exact ⟨dx, fs, s _ hp, r⟩
end
structure PD where
 nu : Int
 z1 : Str
 z2 : Str
 at' : Int
 ns : List Int
 mo : Bool
 k : Bool
 deriving DecidableEq
structure PD.Ok (d : PD) : Prop where
 n0 : 0 <= d.nu
 n1 : d.nu <= 65535
 k1 : NmOk d.z1
 k2 : NmOk d.z2
 l1 : 1 <= d.ns.length
 l2 : d.ns.length <= 4000
 by' : ∀ x ∈ d.ns, 0 <= x /\ x <= 255
 a0 : 0 <= d.at'
 a8 : d.at' % 8 = 0
 rm : Zf3 d.at' d.ns.length d.mo = true
structure PieO (C : Addr) (H : Hp) (p b : Addr) (d : PD) : Prop where
 ok : d.Ok
 ats : PieceAt C H p (.int d.nu) (.str d.z1) (.str d.z2) (.int d.at') (.ref b) (.bl d.mo) (.bl d.k)
 bd : H b = some (.lst (d.ns.map V.int))
section
variable {P : Program} {w : World} {K : PySem.W.Frag} {mg : Str -> Option Value} {base : Heap} {C p b : Addr} {H G : Hp}
theorem PieO.mono {d : PD} (s : Same H G) (h : PieO C H p b d) : PieO C G p b d := ⟨h.ok, h.ats.same (s p), s _ _ h.bd⟩
theorem PieO.but {d : PD} {l : Addr} (s : But l H G) (h : PieO C H p b d) (n1 : p ≠ l) (n2 : b ≠ l) : PieO C G p b d := ⟨h.ok, h.ats.same fun o e => s p o e n1, s _ _ h.bd n2⟩
theorem Zh6 {d : PD} (L : Zkr K C) (h : PieO C H p b d) : FldV K H (.ref p) "number" (.int d.nu) := by
 obtain ⟨dx, fs, hp, f1, f2, f3, f4, f5, f6, f7, _⟩ := h.ats;exact ⟨p, C, dx, fs, rfl, hp, L.cl, L.number, f1⟩
theorem Zh5 {d : PD} (L : Zkr K C) (h : PieO C H p b d) : FldV K H (.ref p) "sender" (.str d.z1) := by
 obtain ⟨dx, fs, hp, f1, f2, f3, f4, f5, f6, f7, _⟩ := h.ats;exact ⟨p, C, dx, fs, rfl, hp, L.cl, L.sender, f2⟩
theorem Zl0 {d : PD} (L : Zkr K C) (h : PieO C H p b d) : FldV K H (.ref p) "goal" (.str d.z2) := by
 obtain ⟨dx, fs, hp, f1, f2, f3, f4, f5, f6, f7, _⟩ := h.ats;exact ⟨p, C, dx, fs, rfl, hp, L.cl, L.goal, f3⟩
theorem Zq8 {d : PD} (L : Zkr K C) (h : PieO C H p b d) : FldV K H (.ref p) "at" (.int d.at') := by
 obtain ⟨dx, fs, hp, f1, f2, f3, f4, f5, f6, f7, _⟩ := h.ats;exact ⟨p, C, dx, fs, rfl, hp, L.cl, L.at', f4⟩
theorem Ze6 {d : PD} (L : Zkr K C) (h : PieO C H p b d) : FldV K H (.ref p) "body" (.ref b) := by
 obtain ⟨dx, fs, hp, f1, f2, f3, f4, f5, f6, f7, _⟩ := h.ats;exact ⟨p, C, dx, fs, rfl, hp, L.cl, L.body, f5⟩
theorem Zo3 {d : PD} (L : Zkr K C) (h : PieO C H p b d) : FldV K H (.ref p) "more" (.bl d.mo) := by
 obtain ⟨dx, fs, hp, f1, f2, f3, f4, f5, f6, f7, _⟩ := h.ats;exact ⟨p, C, dx, fs, rfl, hp, L.cl, L.more, f6⟩
theorem Zi7 {d : PD} (L : Zkr K C) (h : PieO C H p b d) : FldV K H (.ref p) "keep" (.bl d.k) := by
 obtain ⟨dx, fs, hp, f1, f2, f3, f4, f5, f6, f7, _⟩ := h.ats;exact ⟨p, C, dx, fs, rfl, hp, L.cl, L.keep, f7⟩
theorem StOk.same {H G : Hp} {a : Addr} (s : Same H G) (h : StOk H a) : StOk G a := by
 rcases h with ⟨n, h⟩ | ⟨n, m, c, h⟩
 ·exact .inl ⟨n, s _ _ h⟩
 ·exact .inr ⟨n, m, c, s _ _ h⟩
def Zji (C : Addr) : Sp := fun vs H Q _ => ∃ (d : PD) (b : Addr), vs = [.int d.nu, .str d.z1, .str d.z2, .int d.at', .ref b, .bl d.mo, .bl d.k] /\ d.Ok /\ H b = some (.lst (d.ns.map V.int)) /\
 ∀ p b' G, H p = none -> H b' = none -> Same H G -> PieO C G p b' d -> Q (.ref p) G
theorem Zsk (F : MkB P w K mg base "Piece" C 6 ["self", "number", "sender", "goal", "at", "body", "more", "keep"] [] (Zcc C)) : CtB P w K mg base "Piece" 6 (Zji C) := by
 refine F.ct fun vs H Q h y dx G hy hdx hn s hG => ?_
 obtain ⟨d, b, rfl, ok, hb, q⟩ := h;obtain ⟨pp, gp⟩ := Zgi (k := d.k) ok.n0 ok.n1 ok.k1 ok.k2 (s b _ hb) ok.l1 ok.l2 ok.by'
 exact ⟨y, dx, _, _, _, d.at', b, d.mo, _, _, rfl, hG, pp, gp, by simp [Zpd, ok.a0, ok.a8], s b _ hb, by rw [List.length_map]; exact ok.rm, fun H' b' h0 h1 h2 hL bB => ⟨rfl, q y b' H' hy (s.free h0) (fun d o e => bB d o (s d o e) (Zax e hy)) ⟨ok, hL, h2⟩⟩⟩
def PD.key (d : PD) : Int × Str × Str := (d.nu, d.z1, d.z2)
end
section
variable {P : Program} {w : World} {K : PySem.W.Frag} {mg : Str -> Option Value} {base : Heap} {C : Addr}
end
structure LD where
 nu : Int
 z1 : Str
 z2 : Str
 ns : List Int
 k : Bool
 deriving DecidableEq
structure LD.Ok (d : LD) : Prop where
 n0 : 0 <= d.nu
 n1 : d.nu <= 65535
 k1 : NmOk d.z1
 k2 : NmOk d.z2
 l1 : 1 <= d.ns.length
 l2 : d.ns.length <= 4000
 by' : ∀ x ∈ d.ns, 0 <= x /\ x <= 255
structure LetO (C : Addr) (H : Hp) (p b : Addr) (d : LD) : Prop where
 ok : d.Ok
 ats : LetterAt C H p (.int d.nu) (.str d.z1) (.str d.z2) (.ref b) (.bl d.k)
 bd : H b = some (.lst (d.ns.map V.int))
section
variable {P : Program} {w : World} {K : PySem.W.Frag} {mg : Str -> Option Value} {base : Heap} {C p b : Addr} {H G : Hp}
theorem LetO.mono {d : LD} (s : Same H G) (h : LetO C H p b d) : LetO C G p b d := ⟨h.ok, h.ats.same (s p), s _ _ h.bd⟩
theorem Zl2 {d : LD} (L : Zmf K C) (h : LetO C H p b d) : FldV K H (.ref p) "number" (.int d.nu) := by
 obtain ⟨dx, fs, hp, f1, f2, f3, f4, f5, _⟩ := h.ats;exact ⟨p, C, dx, fs, rfl, hp, L.cl, L.number, f1⟩
theorem Zl1 {d : LD} (L : Zmf K C) (h : LetO C H p b d) : FldV K H (.ref p) "sender" (.str d.z1) := by
 obtain ⟨dx, fs, hp, f1, f2, f3, f4, f5, _⟩ := h.ats;exact ⟨p, C, dx, fs, rfl, hp, L.cl, L.sender, f2⟩
theorem Zo4 {d : LD} (L : Zmf K C) (h : LetO C H p b d) : FldV K H (.ref p) "goal" (.str d.z2) := by
 obtain ⟨dx, fs, hp, f1, f2, f3, f4, f5, _⟩ := h.ats;exact ⟨p, C, dx, fs, rfl, hp, L.cl, L.goal, f3⟩
theorem Zfv {d : LD} (L : Zmf K C) (h : LetO C H p b d) : FldV K H (.ref p) "body" (.ref b) := by
 obtain ⟨dx, fs, hp, f1, f2, f3, f4, f5, _⟩ := h.ats;exact ⟨p, C, dx, fs, rfl, hp, L.cl, L.body, f4⟩
theorem Zl3 {d : LD} (L : Zmf K C) (h : LetO C H p b d) : FldV K H (.ref p) "keep" (.bl d.k) := by
 obtain ⟨dx, fs, hp, f1, f2, f3, f4, f5, _⟩ := h.ats;exact ⟨p, C, dx, fs, rfl, hp, L.cl, L.keep, f5⟩
def Znh (C : Addr) : Sp := fun vs H Q _ => ∃ (d : LD) (b : Addr), vs = [.int d.nu, .str d.z1, .str d.z2, .ref b, .bl d.k] /\ d.Ok /\ H b = some (.lst (d.ns.map V.int)) /\
 ∀ p b' G, H p = none -> H b' = none -> Same H G -> LetO C G p b' d -> Q (.ref p) G
theorem Ztk (F : MkB P w K mg base "Letter" C 6 ["self", "number", "sender", "goal", "body", "keep"] [] (Zb1 C)) : CtB P w K mg base "Letter" 6 (Znh C) := by
 refine F.ct fun vs H Q h y dx G hy hdx hn s hG => ?_
 obtain ⟨d, b, rfl, ok, hb, q⟩ := h;obtain ⟨pp, gp⟩ := Zgi (k := d.k) ok.n0 ok.n1 ok.k1 ok.k2 (s b _ hb) ok.l1 ok.l2 ok.by'
 exact ⟨y, dx, _, _, _, b, _, _, rfl, hG, pp, gp, s b _ hb, fun H' b' h0 h1 h2 hL bB => ⟨rfl, q y b' H' hy (s.free h0) (fun d o e => bB d o (s d o e) (Zax e hy)) ⟨ok, hL, h2⟩⟩⟩
end
theorem Zox {c e F R : Prop} [Decidable c] [Decidable e] (h : c -> ¬ e) (r : R) : if c then (if e then F else R) else R := by
 by_cases hc : c
 ·rw [if_pos hc, if_neg (h hc)]; exact r
 ·rw [if_neg hc]; exact r
def full (w : Nat) : Nat := w - w % 8
def PD.part (d : PD) (lo hi : Nat) : PD := ⟨d.nu, d.z1, d.z2, d.at' + lo, (d.ns.drop lo).take (hi - lo), d.mo || decide (hi < d.ns.length), d.k⟩
def cutGo (w : Nat) (d : PD) (lo : Nat) : List PD :=
 if h : w < d.ns.length - lo /\ 8 <= w then d.part lo (lo + full w) :: cutGo w d (lo + full w) else [d.part lo d.ns.length]
termination_by d.ns.length - lo
decreasing_by unfold full; omega
theorem Ze7 {w : Nat} {d : PD} {lo : Nat} (h : w < d.ns.length - lo) (h8 : 8 <= w) : cutGo w d lo = d.part lo (lo + full w) :: cutGo w d (lo + full w) := by
 rw [cutGo, dif_pos ⟨h, h8⟩]
theorem Zb9 {w : Nat} {d : PD} {lo : Nat} (h : ¬ w < d.ns.length - lo) : cutGo w d lo = [d.part lo d.ns.length] := by
 rw [cutGo, dif_neg (fun z => h z.1)]
theorem PD.part_len {d : PD} {lo hi : Nat} (h1 : lo <= hi) (h2 : hi <= d.ns.length) : (d.part lo hi).ns.length = hi - lo := by
 show ((d.ns.drop lo).take (hi - lo)).length = _;rw [List.length_take, List.length_drop]; omega
theorem PD.part_ok {d : PD} (ok : d.Ok) {lo hi : Nat} (h1 : lo < hi) (h2 : hi <= d.ns.length) (h8 : lo % 8 = 0) (hh : hi = d.ns.length \/ hi % 8 = 0) : (d.part lo hi).Ok := by
 have hl := PD.part_len (d := d) (Nat.le_of_lt h1) h2;have l2 := ok.l2;have a8 := ok.a8;have a0 := ok.a0;refine ⟨ok.n0, ok.n1, ok.k1, ok.k2, by omega, by omega, fun x hx => ok.by' x (List.mem_of_mem_drop (List.mem_of_mem_take hx)), ?_, ?_, ?_⟩
 ·show 0 <= d.at' + (lo : Int); omega
 ·show (d.at' + (lo : Int)) % 8 = 0; omega
 ·rw [hl];have rm := ok.rm;show Zf3 (d.at' + (lo : Int)) ((hi - lo : Nat) : Int) (d.mo || decide (hi < d.ns.length)) = true;unfold Zf3 at rm ⊢;cases e : d.mo
  ·rw [e] at rm;simp only [Bool.false_eq_true, if_false, decide_eq_true_eq] at rm
   by_cases hlt : hi < d.ns.length
   ·simp only [hlt, decide_true, Bool.or_true, if_true, Bool.and_eq_true, decide_eq_true_eq];omega
   ·simp only [hlt, decide_false, Bool.or_false, Bool.false_eq_true, if_false, decide_eq_true_eq];omega
  ·rw [e] at rm;simp only [if_true, Bool.and_eq_true, decide_eq_true_eq] at rm;simp only [Bool.true_or, if_true, Bool.and_eq_true, decide_eq_true_eq];omega
section
variable {P : Program} {w : World} {K : PySem.W.Frag} {mg : Str -> Option Value} {base : Heap}
def Zdk : Sp := fun vs H Q _ => ∃ x n, vs = [x] /\ tyF H x = some n /\ Q (.bl (wIn x 8 5000)) H
abbrev Zcv : Stmt := top 17
theorem Zio : Zao ["value"] ["value"] (defScope Zcv) := ⟨rfl, rfl, rfl, by decide +kernel, rfl, by decide +kernel, by decide +kernel⟩
theorem Zix {f : Addr} {fd : FuncData} (F : Fun K "is_width" "is_width" Zcv f fd) (T : Cn mg) (F_is_whole_within : FnB P w K mg base "is_whole_within" 2 ["value", "low", "high"] [] Za3) : FnOk P w K mg base CX0 3 f fd ["value"] Zdk := by
 refine F.ok Zio (fun vs H Q E h => ?_) (fun cdv A outer s H vs Q E hr h => ?_)
 ·obtain ⟨x, n, rfl, _⟩ := h; rfl
 ·obtain ⟨x, n, rfl, ty, q⟩ := h;refine ⟨_, (Zag (Zar (Zak F_is_whole_within (hr.mono (by decide)) rfl (Zaa (hs := Zab) (pv 0) (Zaa (hs := Zab) (Zcl rfl T.c_LEAST_WIDTH) (Zaa (hs := Zab) (Zcl rfl T.c_MOST_WIDTH) Zad)))))), ?_⟩;walk_at "rd";exact ⟨x, n, 8, 5000, rfl, ty, q⟩
def Zcn : Sp := fun vs H Q _ => ∃ w : Nat, vs = [.int w] /\ Q (.int (full w)) H
abbrev Zbz : Stmt := top 41
theorem Zf1 : Zao ["width"] ["width"] (defScope Zbz) := ⟨rfl, rfl, rfl, by decide +kernel, rfl, by decide +kernel, by decide +kernel⟩
theorem Zf5 {f : Addr} {fd : FuncData} (F : Fun K "full_length" "full_length" Zbz f fd) (T : Cn mg) : FnOk P w K mg base CX0 1 f fd ["width"] Zcn := by
 refine F.ok Zf1 (fun vs H Q E h => ?_) (fun cdv A outer s H vs Q E hr h => ?_)
 ·obtain ⟨x, rfl, _⟩ := h; rfl
 ·obtain ⟨x, rfl, q⟩ := h;refine ⟨_, (Zag (Zar (Za2 Zht (pv 0) (Za2 Zd3 (pv 0) (Zcl rfl T.c_STEP))))), ?_⟩;walk_at "rd";refine ⟨by decide, ?_⟩;have e : (x : Int) - (x : Int) % 8 = ((full x : Nat) : Int) := by unfold full; omega
  rw [e]; exact q
def Zet (C : Addr) : Sp := fun vs H Q _ => ∃ (p b : Addr) (d : PD) (lo hi : Nat), vs = [.ref p, .int lo, .int hi] /\ PieO C H p b d /\ lo < hi /\ hi <= d.ns.length /\ lo % 8 = 0 /\ (hi = d.ns.length \/ hi % 8 = 0) /\
 ∀ q b' G, H q = none -> H b' = none -> Same H G -> PieO C G q b' (d.part lo hi) -> Q (.ref q) G
abbrev Zdd : Stmt := top 42
theorem Zgc : Zao ["piece", "low", "high", "more"] ["piece", "low", "high"] (defScope Zdd) := ⟨rfl, rfl, rfl, by decide +kernel, rfl, by decide +kernel, by decide +kernel⟩
theorem Zkc {f C : Addr} {fd : FuncData} (F : Fun K "part_of" "part_of" Zdd f fd) (B : Bt mg) (LP : Zkr K C) (F_Piece : CtB P w K mg base "Piece" 6 (Zji C)) : FnOk P w K mg base CX0 8 f fd ["piece", "low", "high"] (Zet C) := by
 refine F.ok Zgc (fun vs H Q E h => ?_) (fun cdv A outer s H vs Q E hr h => ?_)
 ·obtain ⟨p, b, d, lo, hi, rfl, _⟩ := h; rfl
 ·obtain ⟨p, b, d, lo, hi, rfl, hP, h1, h2, h8, hh, q⟩ := h;refine ⟨_, (Zae (Zay (i := 3) (Zgc).nd rfl (Or.inl rfl) (Zsa (Zbc (K := K) rfl (pv 0) rfl) (Zgh (Zc6 Zmx (pv 2) (Zam (Za9 (K := K) rfl) rfl B.len (by rfl) (Zaa (hs := Zaq) (Zbc (K := K) rfl (pv 0) rfl) Zad)) (Zbe _))))) (Zag (Zar (Zjn F_Piece (hr.mono (by decide)) rfl (Zaa (hs := Zaq) (Zbc (K := K) rfl (pv 0) rfl) (Zaa (hs := Zaq) (Zbc (K := K) rfl (pv 0) rfl) (Zaa (hs := Zaq) (Zbc (K := K) rfl (pv 0) rfl) (Zaa (hs := Zcb) (Za2 Zcg (Zbc (K := K) rfl (pv 0) rfl) (pv 1)) (Zaa (hs := Zbd) (Zej (Zeh (K := K) rfl) (Zbc (K := K) rfl (pv 0) rfl) (Ze0 (pv 1)) (Ze0 (pv 2))) (Zaa (hs := Zab) (pv 3) (Zaa (hs := Zaq) (Zbc (K := K) rfl (pv 0) rfl) Zad))))))))))), ?_⟩;walk_at "rd";refine ⟨_, Zo3 LP hP, _, rfl, ?_⟩;cases e : d.mo
  ·simp only [Bool.false_eq_true, if_false];refine ⟨_, Ze6 LP hP, _, rfl, _, .inl (SqL.of hP.bd), ?_⟩;refine ⟨_, Zh6 LP hP, _, Zh5 LP hP, _, Zl0 LP hP, _, Zq8 LP hP, _, rfl, _, Ze6 LP hP, _, rfl, _, SqL.of hP.bd, fun l G hl s hG => ?_⟩;rw [Zjv d.ns (Nat.le_of_lt h1) h2] at hG;refine ⟨_, Zi7 LP (hP.mono s), d.part lo hi, l, ?_, PD.part_ok hP.ok h1 h2 h8 hh, hG, fun q' b' G' hq hb' s' hP' => q q' b' G' (s.free hq) (s.free hb') (s.trans s') hP'⟩;simp only [PD.part, e, Bool.false_or, List.length_map]
   congr 6
   simp
  ·simp only [if_true];refine ⟨_, Zh6 LP hP, _, Zh5 LP hP, _, Zl0 LP hP, _, Zq8 LP hP, _, rfl, _, Ze6 LP hP, _, rfl, _, SqL.of hP.bd, fun l G hl s hG => ?_⟩;rw [Zjv d.ns (Nat.le_of_lt h1) h2] at hG;refine ⟨_, Zi7 LP (hP.mono s), d.part lo hi, l, ?_, PD.part_ok hP.ok h1 h2 h8 hh, hG, fun q' b' G' hq hb' s' hP' => q q' b' G' (s.free hq) (s.free hb') (s.trans s') hP'⟩;simp only [PD.part, e, Bool.true_or]
def Pies (C : Addr) (H G : Hp) (ps : List (Addr × Addr)) (ds : List PD) : Prop := Paired (fun (q : Addr × Addr) (d : PD) => PieO C G q.1 q.2 d /\ H q.1 = none /\ H q.2 = none) ps ds
def Zb6 (C NW TW : Addr) : Sp := fun vs H Q E => ∃ (p b : Addr) (d : PD) (x : V), vs = [.ref p, x] /\ PieO C H p b d /\ (∃ t, tyF H x = some t) /\ (wIn x 8 5000 = false -> E (.ref NW) none H) /\
 ∀ w : Nat, x = .int w -> 8 <= w -> w <= 5000 -> (d.k = true -> w < d.ns.length -> E (.ref TW) none H) /\
  ((d.k = true -> d.ns.length <= w) -> ∀ l ps G, H l = none -> Same H G -> G l = some (.lst (ps.map fun q => V.ref q.1)) -> Pies C H G ps (cutGo w d 0) -> Q (.ref l) G)
theorem Zij {x : V} {a b : Int} (h : wIn x a b = true) : ∃ i : Int, x = .int i /\ a <= i /\ i <= b := by
 cases x with
 | int i =>
  refine ⟨i, rfl, ?_⟩;simpa [wIn] using h
 | _ => cases h
abbrev Zck : Stmt := top 43
theorem Zb7 : Zao ["piece", "width", "length", "told", "low", "high"] ["piece", "width"] (defScope Zck) := ⟨rfl, rfl, rfl, by decide +kernel, rfl, by decide +kernel, by decide +kernel⟩
theorem Pies.len {C : Addr} {H G : Hp} {ps : List (Addr × Addr)} {ds : List PD} (h : Pies C H G ps ds) : ps.length = ds.length := Paired.length h
theorem Pies.mono {C : Addr} {H G G' : Hp} {ps : List (Addr × Addr)} {ds : List PD} (s : Same G G') (h : Pies C H G ps ds) : Pies C H G' ps ds := by
 induction h with
 | nil => exact .nil
 | cons r _ ih => exact .cons ⟨r.1.mono s, r.2⟩ ih
theorem Pies.snoc {C : Addr} {H G : Hp} {ps : List (Addr × Addr)} {ds : List PD} {q b : Addr} {d : PD} (h : Pies C H G ps ds) (hq : PieO C G q b d) (h1 : H q = none) (h2 : H b = none) : Pies C H G (ps ++ [(q, b)]) (ds ++ [d]) := by
 induction h with
 | nil => exact .cons ⟨hq, h1, h2⟩ .nil
 | cons r _ ih => exact .cons r ih
theorem Pies.but {C : Addr} {H G G' : Hp} {l : Addr} {ps : List (Addr × Addr)} {ds : List PD} (s : But l G G') (hl : ∀ q ∈ ps, q.1 ≠ l /\ q.2 ≠ l) (h : Pies C H G ps ds) : Pies C H G' ps ds := by
 induction h with
 | nil => exact .nil
 | cons r _ ih => exact .cons ⟨r.1.but s (hl _ List.mem_cons_self).1 (hl _ List.mem_cons_self).2, r.2⟩ (ih fun q hq => hl q (List.mem_cons_of_mem _ hq))
theorem Zh8 (w : Nat) (d : PD) (lo : Nat) : (cutGo w d lo).length <= d.ns.length - lo + 1 := by
 fun_induction cutGo w d lo with
 | case1 lo h ih => rw [List.length_cons]; unfold full at *; omega
 | case2 lo h => simp
theorem Zhy {f C NW TW : Addr} {fd : FuncData} (F : Fun K "cut_again" "cut_again" Zck f fd) (B : Bt mg) (LP : Zkr K C) (X_NoWidth : XC K mg "NoWidth" NW) (X_TooWide : XC K mg "TooWide" TW) (F_is_width : FnB P w K mg base "is_width" 3 ["value"] [] Zdk) (F_full_length : FnB P w K mg base "full_length" 1 ["width"] [] Zcn)
  (F_part_of : FnB P w K mg base "part_of" 8 ["piece", "low", "high"] [] (Zet C)) : FnOk P w K mg base (CXx P w) 9 f fd ["piece", "width"] (Zb6 C NW TW) := by
 refine F.okX Zb7 (fun vs H Q E h => ?_) (fun cdv A outer s H vs Q E hr h => ?_)
 ·obtain ⟨p, b, d, x, rfl, _⟩ := h; rfl
 ·obtain ⟨p, b, d, x, rfl, hP, ⟨n, ty⟩, qn, q0⟩ := h;refine ⟨_, (Zae (Zc5 (Zcd (Zb2 (Zak F_is_width (hr.mono (by decide)) rfl (Zaa (hs := Zab) (pv 1) Zad)))) (Zag (Zfe Zbh rfl rfl X_NoWidth Zbg)) Zbb) (Zae (Zay (i := 2) (Zb7).nd rfl (Or.inl rfl) (Zam (Za9 (K := K) rfl) rfl B.len (by rfl) (Zaa (hs := Zaq) (Zbc (K := K) rfl (pv 0) rfl) Zad))) (Zae (Zc5 (PW.pt (Zhp (Zb2 (Zbc (K := K) rfl (pv 0) rfl)) (Zfm (Zbt Ziv (pv 2) (pv 1) (Zbe _))))) (Zag (Zfe Zbh rfl rfl X_TooWide Zbg)) Zbb) (Zae (Zay (i := 3) (Zb7).nd rfl (Or.inl rfl) (Za7 Zad)) (Zae (Zay (i := 4) (Zb7).nd rfl (Or.inl rfl) Zaf) (Zae (Zjm PassesOwn.leaving (Zbt Ziv (Za2 Zht (pv 2) (pv 4)) (pv 1) (Zbe _)) (Zae (Zay (i := 5) (Zb7).nd rfl (Or.inl rfl) (Za2 Zcg (pv 4) (Zak F_full_length (hr.mono (by decide)) rfl (Zaa (hs := Zab) (pv 1) Zad)))) (Zae (Zb0 (Zdf (K := K) rfl PySem.F.plainAttrs_list PySem.F.slot_list_append PySem.F.type_list_append Zbo (pv 3) (Zaa (hs := Za1) (Zak F_part_of (hr.mono (by decide)) rfl (Zaa (hs := Zab) (pv 0) (Zaa (hs := Zab) (pv 4) (Zaa (hs := Zab) (pv 5) Zad)))) Zad))) (Zag (Zay (i := 4) (Zb7).nd rfl (Or.inl rfl) (pv 5)))))) (Zae (Zb0 (Zdf (K := K) rfl PySem.F.plainAttrs_list PySem.F.slot_list_append PySem.F.type_list_append Zbo (pv 3) (Zaa (hs := Za1) (Zak F_part_of (hr.mono (by decide)) rfl (Zaa (hs := Zab) (pv 0) (Zaa (hs := Zab) (pv 4) (Zaa (hs := Zab) (pv 2) Zad)))) Zad))) (Zag (Zar (pv 3)))))))))), ?_⟩;walk_at "rd";refine ⟨x, n, rfl, ty, ?_⟩;cases ew : wIn x 8 5000 with
  | false =>
   walk_at "rd";exact qn ew
  | true =>
  obtain ⟨wi, rfl, w8i, w5i⟩ := Zij ew;obtain ⟨w', rfl⟩ := Int.eq_ofNat_of_zero_le (show 0 <= wi by omega);have w8 : 8 <= w' := by omega
  have w5 : w' <= 5000 := by omega
  obtain ⟨qt, q⟩ := q0 w' rfl w8 w5;walk_at "rd";refine ⟨_, Ze6 LP hP, _, rfl, _, .inl (SqL.of hP.bd), _, Zi7 LP hP, _, rfl, ?_⟩;rw [List.length_map]
  by_cases tw : d.k = true /\ w' < d.ns.length
  ·rw [if_pos tw.1];have : (w' : Int) < (d.ns.length : Int) := by omega
   rw [if_pos (by simpa using this)];exact qt tw.1 tw.2
  have hk : d.k = true -> d.ns.length <= w' := fun z => by
   by_cases y : w' < d.ns.length
   ·exact absurd ⟨z, y⟩ tw
   ·omega
  have q := q hk;refine Zox (fun h => ?_) ?_
  ·have := hk h;simp; omega
  refine ⟨Zaj (by simp), fun l G0 hl s0 hG0 => ?_⟩;have h2 := hP.ok.l2;have h1 := hP.ok.l1;obtain ⟨Pw, ePw⟩ : ∃ Pw : L2.St -> Hp -> Prop, Pw = fun σ' G => ∃ (lo : Nat) (v : Option V) (ps : List (Addr × Addr)) (ds : List PD), σ' = [some (.ref p), some (.int w'), some (.int d.ns.length), some (.ref l), some (.int lo), v] /\ lo < d.ns.length /\ lo % 8 = 0 /\ Same H G /\ G l = some (.lst (ps.map fun q => V.ref q.1)) /\ (∀ q ∈ ps, q.1 ≠ l /\ q.2 ≠ l) /\ Pies C H G ps ds /\ ds ++ cutGo w' d lo = cutGo w' d 0 := ⟨_, rfl⟩
  have lenOf : ∀ (ps : List (Addr × Addr)) (ds : List PD) (G : Hp) (lo : Nat), Pies C H G ps ds -> ds ++ cutGo w' d lo = cutGo w' d 0 -> ps.length <= 4001 := fun ps ds G lo hp e => by
   have e1 := congrArg List.length e;rw [List.length_append, <- hp.len] at e1;have := Zh8 w' d 0;omega
  have app : ∀ {ps : List (Addr × Addr)} {ds : List PD} {G G1 G2 : Hp} {q' b' : Addr} {d' : PD}, Same H G -> G l = some (.lst (ps.map fun q => V.ref q.1)) -> (∀ q ∈ ps, q.1 ≠ l /\ q.2 ≠ l) -> Pies C H G ps ds -> G q' = none -> G b' = none -> Same G G1 -> PieO C G1 q' b' d' -> But l G1 G2 -> G2 l = some (.lst (ps.map (fun q => V.ref q.1) ++ [.ref q'])) ->
    Same H G2 /\ G2 l = some (.lst ((ps ++ [(q', b')]).map fun q => V.ref q.1)) /\ (∀ q ∈ ps ++ [(q', b')], q.1 ≠ l /\ q.2 ≠ l) /\ Pies C H G2 (ps ++ [(q', b')]) (ds ++ [d']) := by
   intro ps ds G G1 G2 q' b' d' sG hG hne hp hq hb s1 hP' b2 hG2;have n1 : q' ≠ l := Ne.symm (Zax hG hq);have n2 : b' ≠ l := Ne.symm (Zax hG hb);refine ⟨(sG.trans s1).butNew b2 hl, by rw [hG2, List.map_append]; rfl, fun q hq' => ?_, ?_⟩
   ·rcases List.mem_append.mp hq' with h | h
    ·exact hne q h
    ·rw [List.mem_singleton.mp h]; exact ⟨n1, n2⟩
   ·exact ((hp.mono s1).but b2 hne).snoc (hP'.but b2 n1 n2) (sG.free hq) (sG.free hb)
  refine Zpf Pw (fun σ' _ => match σ' with | [_, _, _, _, some (.int lo), _] => d.ns.length - lo.toNat | _ => 0) (by rw [ePw]; exact ⟨0, _, [], [], rfl, by omega, rfl, s0, hG0, (fun _ h => nomatch h), .nil, rfl⟩) ?_;intro σ' G hPw;rw [ePw] at hPw;obtain ⟨lo, v, ps, ds, rfl, hlo, lo8, sG, hG, hne, hp, hds⟩ := hPw;walk_at "rd";have hlen := lenOf ps ds G lo hp hds;refine Zme (fun hlt => ?_) (fun hlt => ?_)
  ·have hlt' : w' < d.ns.length - lo := by
    have : (w' : Int) < (d.ns.length : Int) - (lo : Int) := by simpa using hlt
    omega
   have f8 : 8 <= full w' /\ full w' <= w' /\ full w' % 8 = 0 := by unfold full; omega
   refine ⟨fun σ2 H2 => Pw σ2 H2 /\ ∃ v, σ2 = [some (.ref p), some (.int w'), some (.int d.ns.length), some (.ref l), some (.int ((lo + full w' : Nat) : Int)), v], ?_, ?_⟩
   ·rintro σ2 H2 ⟨p2, v2, rfl⟩;refine ⟨_, ?_, rfl, p2⟩;show d.ns.length - ((lo + full w' : Nat) : Int).toNat < d.ns.length - ((lo : Nat) : Int).toNat;omega
   ·refine ⟨w', rfl, ?_⟩
    try walk_at "rd"
    refine ⟨.inl ⟨rfl, _, SqL.of hG⟩, ?_⟩;refine ⟨p, b, d, lo, lo + full w', rfl, hP.mono sG, by omega, by omega, lo8, .inr (by omega), fun q' b' G1 hq hb s1 hP' => ?_⟩
    try walk_at "rd"
    refine ⟨_, s1 l _ hG, Zbr (by rw [List.length_map]; omega), fun G2 b2 hG2 => ?_⟩;obtain ⟨a1, a2, a3, a4⟩ := app sG hG hne hp hq hb s1 hP' b2 hG2;rw [ePw];refine ⟨⟨lo + full w', _, _, _, rfl, by omega, by omega, a1, a2, a3, a4, ?_⟩, by omega⟩;rw [<- hds, Ze7 hlt' w8]; simp
  ·have hlt' : ¬ w' < d.ns.length - lo := by
    have : ¬ (w' : Int) < (d.ns.length : Int) - (lo : Int) := by simpa using hlt
    omega
   refine ⟨.inl ⟨rfl, _, SqL.of hG⟩, ?_⟩;refine ⟨p, b, d, lo, d.ns.length, rfl, hP.mono sG, hlo, Nat.le_refl _, lo8, .inl rfl, fun q' b' G1 hq hb s1 hP' => ?_⟩
   try walk_at "rd"
   refine ⟨_, s1 l _ hG, Zbr (by rw [List.length_map]; omega), fun G2 b2 hG2 => ?_⟩;obtain ⟨a1, a2, a3, a4⟩ := app sG hG hne hp hq hb s1 hP' b2 hG2;rw [<- Zb9 hlt', hds] at a4;exact q l _ G2 hl a1 a2 a4
end
section
def LD.whole (d : LD) : PD := ⟨d.nu, d.z1, d.z2, 0, d.ns, false, d.k⟩
theorem LD.whole_ok {d : LD} (ok : d.Ok) : d.whole.Ok := ⟨ok.n0, ok.n1, ok.k1, ok.k2, ok.l1, ok.l2, ok.by', Int.le_refl 0, rfl, by
 show Zf3 0 d.ns.length false = true;unfold Zf3;have := ok.l2;simp; omega⟩
end
section
variable {P : Program} {w : World} {K : PySem.W.Frag} {mg : Str -> Option Value} {base : Heap}
def Zgb (CL CP NW TW : Addr) : Sp := fun vs H Q E => ∃ (p b : Addr) (d : LD) (x : V), vs = [.ref p, x] /\ LetO CL H p b d /\ (∃ t, tyF H x = some t) /\ (wIn x 8 5000 = false -> ∀ G, Same H G -> E (.ref NW) none G) /\
 ∀ w : Nat, x = .int w -> 8 <= w -> w <= 5000 -> (d.k = true -> w < d.ns.length -> ∀ G, Same H G -> E (.ref TW) none G) /\
  ((d.k = true -> d.ns.length <= w) -> ∀ l ps G, H l = none -> Same H G -> G l = some (.lst (ps.map fun q => V.ref q.1)) -> Pies CP H G ps (cutGo w d.whole 0) -> Q (.ref l) G)
abbrev Zj9 : Stmt := top 44
theorem Znj : Zao ["letter", "width", "whole"] ["letter", "width"] (defScope Zj9) := ⟨rfl, rfl, rfl, by decide +kernel, rfl, by decide +kernel, by decide +kernel⟩
theorem Pies.old {C : Addr} {H0 H G : Hp} {ps : List (Addr × Addr)} {ds : List PD} (s : Same H0 H) (h : Pies C H G ps ds) : Pies C H0 G ps ds := by
 induction h with
 | nil => exact .nil
 | cons r _ ih => exact .cons ⟨r.1, s.free r.2.1, s.free r.2.2⟩ ih
theorem Zqt {f CL CP NW TW : Addr} {fd : FuncData} (F : Fun K "cut" "cut" Zj9 f fd) (LL : Zmf K CL) (F_Piece : CtB P w K mg base "Piece" 6 (Zji CP)) (F_cut_again : FnX P w K mg base "cut_again" 9 ["piece", "width"] [] (Zb6 CP NW TW)) : FnOk P w K mg base (CXx P w) 10 f fd ["letter", "width"] (Zgb CL CP NW TW) := by
 refine F.okX Znj (fun vs H Q E h => ?_) (fun cdv A outer s H vs Q E hr h => ?_)
 ·obtain ⟨p, b, d, x, rfl, _⟩ := h; rfl
 ·obtain ⟨p, b, d, x, rfl, hL, ⟨n, ty⟩, qn, q0⟩ := h;refine ⟨_, (Zae (Zay (i := 2) (Znj).nd rfl (Or.inl rfl) (Zjn F_Piece (hr.mono (by decide)) rfl (Zaa (hs := Zaq) (Zbc (K := K) rfl (pv 0) rfl) (Zaa (hs := Zaq) (Zbc (K := K) rfl (pv 0) rfl) (Zaa (hs := Zaq) (Zbc (K := K) rfl (pv 0) rfl) (Zaa (hs := Zac) Zaf (Zaa (hs := Zaq) (Zbc (K := K) rfl (pv 0) rfl) (Zaa (hs := Zac) Zc9 (Zaa (hs := Zaq) (Zbc (K := K) rfl (pv 0) rfl) Zad))))))))) (Zag (Zar (Zav F_cut_again (hr.mono (by decide)) rfl (Zbu Zbh (fun _ _ h => h)) (Zaa (hs := Zab) (pv 2) (Zaa (hs := Zab) (pv 1) Zad)))))), ?_⟩;walk_at "rd";refine ⟨_, Zl2 LL hL, _, Zl1 LL hL, _, Zo4 LL hL, _, Zfv LL hL, _, Zl3 LL hL, ?_⟩;refine ⟨d.whole, b, rfl, LD.whole_ok hL.ok, hL.bd, fun q1 b1 G1 h1 h2 s1 hP => ?_⟩
  try walk_at "rd"
  refine ⟨q1, b1, d.whole, x, rfl, hP, ⟨n, Zbx s1 ty⟩, fun z => qn z G1 s1, fun w' e w8 w5 => ⟨fun z1 z2 => (q0 w' e w8 w5).1 z1 z2 G1 s1, fun hk l ps G hl s2 hG hp => ?_⟩⟩;exact (q0 w' e w8 w5).2 hk l ps G (s1.free hl) (s1.trans s2) hG (hp.old s1)
end
theorem PD.part_part {d : PD} {lo hi a b : Nat} (h1 : lo <= hi) (h2 : hi <= d.ns.length) (hab : a <= b) (hb : b <= hi - lo) : (d.part lo hi).part a b = d.part (lo + a) (lo + b) := by
 have hl := PD.part_len (d := d) h1 h2;unfold PD.part at hl ⊢;dsimp only at hl ⊢;rw [hl];have e1 : d.at' + (lo : Int) + (a : Int) = d.at' + ((lo + a : Nat) : Int) := by omega
 have e2 : List.take (b - a) (List.drop a (List.take (hi - lo) (List.drop lo d.ns))) = List.take (lo + b - (lo + a)) (List.drop (lo + a) d.ns) := by
  rw [List.drop_take, List.drop_drop, List.take_take]
  congr 1
  omega
 have e3 : ((d.mo || decide (hi < d.ns.length)) || decide (b < hi - lo)) = (d.mo || decide (lo + b < d.ns.length)) := by
  by_cases h3 : b < hi - lo
  ·rw [decide_eq_true h3, decide_eq_true (show lo + b < d.ns.length by omega)]; simp
  ·have : lo + b = hi := by omega
   rw [decide_eq_false h3, this]; simp
 rw [e1, e2, e3]
theorem PD.part_all (d : PD) : d.part 0 d.ns.length = d := by
 unfold PD.part;cases d;simp
def Chn (d : PD) : Nat -> Nat -> List PD -> Prop
 | lo, hi, [] => lo = hi
 | lo, hi, e :: r => ∃ m, lo < m /\ m <= hi /\ e = d.part lo m /\ (m = hi \/ m % 8 = 0) /\ Chn d m hi r
theorem Chn.le {d : PD} : ∀ {es : List PD} {lo hi : Nat}, Chn d lo hi es -> lo <= hi
 | [], _, _, h => Nat.le_of_eq h
 | _ :: _, _, _, ⟨_, h1, _, _, _, h⟩ => Nat.le_trans (Nat.le_of_lt h1) (Chn.le h)
theorem Chn.app {d : PD} : ∀ {es fs : List PD} {lo m hi : Nat}, Chn d lo m es -> Chn d m hi fs -> (m = hi \/ m % 8 = 0) -> Chn d lo hi (es ++ fs)
 | [], _, _, _, _, h, g, _ => by cases h; exact g
 | e :: es, fs, lo, m, hi, ⟨k, h1, h2, h3, h4, h⟩, g, h8 => ⟨k, h1, Nat.le_trans h2 g.le, h3, by rcases h4 with rfl | h4; exact h8; exact .inr h4, Chn.app h g h8⟩
theorem Zl7 {w : Nat} {d : PD} (h8 : 8 <= w) : ∀ (n lo : Nat), d.ns.length - lo <= n -> lo < d.ns.length -> lo % 8 = 0 -> Chn d lo d.ns.length (cutGo w d lo)
 | 0, lo, h, hl, _ => by omega
 | n + 1, lo, h, hl, hm => by
  by_cases hc : w < d.ns.length - lo
  ·rw [Ze7 hc h8];have f8 : 8 <= full w /\ full w <= w /\ full w % 8 = 0 := by unfold full; omega
   exact ⟨lo + full w, by omega, by omega, rfl, .inr (by omega), Zl7 h8 n _ (by omega) (by omega) (by omega)⟩
  ·rw [Zb9 hc];exact ⟨_, hl, Nat.le_refl _, rfl, .inl rfl, rfl⟩
theorem Chn.part {d : PD} {lo hi : Nat} (h1 : lo <= hi) (h2 : hi <= d.ns.length) (h8 : lo % 8 = 0) : ∀ {es : List PD} {a b : Nat}, a <= b -> b <= hi - lo -> Chn (d.part lo hi) a b es -> Chn d (lo + a) (lo + b) es
 | [], a, b, _, _, h => by have h : a = b := h; subst h; rfl
 | e :: es, a, b, hab, hb, ⟨m, k1, k2, k3, k4, h⟩ => by
  refine ⟨lo + m, by omega, by omega, ?_, by rcases k4 with k4 | k4 <;> omega, Chn.part h1 h2 h8 k2 hb h⟩;rw [k3, PD.part_part h1 h2 (by omega) (by omega)]
def Zbw (w : Nat) (ds : List PD) : List PD := ds.flatMap fun d => cutGo w d 0
def Ze2 (ws : List Nat) (ds : List PD) : List PD := ws.foldl (fun ds w => Zbw w ds) ds
theorem Ze1 (w : Nat) (ws : List Nat) (ds : List PD) : Ze2 (w :: ws) ds = Ze2 ws (Zbw w ds) := rfl
theorem Zgl {w : Nat} {d : PD} (h8 : 8 <= w) : ∀ {es : List PD} {lo hi : Nat}, hi <= d.ns.length -> lo % 8 = 0 -> Chn d lo hi es -> Chn d lo hi (Zbw w es)
 | [], _, _, _, _, h => h
 | e :: es, lo, hi, hh, hl, ⟨m, k1, k2, k3, k4, h⟩ => by
  show Chn d lo hi (cutGo w e 0 ++ Zbw w es);have hlen : e.ns.length = m - lo := by rw [k3]; exact PD.part_len (by omega) (by omega)
  have c := Zl7 (d := e) h8 _ 0 (Nat.le_refl _) (by omega) rfl;rw [hlen, k3] at c;have c' := Chn.part (by omega) (by omega) hl (Nat.zero_le _) (Nat.le_refl _) c;rw [Nat.add_zero, show lo + (m - lo) = m by omega, <- k3] at c';rcases k4 with rfl | k4
  ·cases es with
   | nil => exact Chn.app c' rfl (.inl rfl)
   | cons e' r => obtain ⟨m', q1, q2, _⟩ := h; omega
  ·exact Chn.app c' (Zgl h8 hh k4 h) (.inr k4)
theorem Znu {w : Nat} {d : PD} (h8 : 8 <= w) : ∀ (n lo : Nat), d.ns.length - lo <= n -> lo <= d.ns.length -> ∀ e ∈ cutGo w d lo, e.ns.length <= w /\ e.ns.length <= d.ns.length /\ e.k = d.k
 | 0, lo, h, hl, e, he => by
  rw [Zb9 (by omega)] at he;rw [List.mem_singleton.mp he, PD.part_len (by omega) (Nat.le_refl _)];exact ⟨by omega, by omega, rfl⟩
 | n + 1, lo, h, hl, e, he => by
  by_cases hc : w < d.ns.length - lo
  ·rw [Ze7 hc h8] at he;have f8 : 8 <= full w /\ full w <= w /\ full w % 8 = 0 := by unfold full; omega
   rcases List.mem_cons.mp he with rfl | he
   ·rw [PD.part_len (by omega) (by omega)];exact ⟨by omega, by omega, rfl⟩
   ·exact Znu h8 n _ (by omega) (by omega) e he
  ·rw [Zb9 hc] at he;rw [List.mem_singleton.mp he, PD.part_len hl (Nat.le_refl _)];exact ⟨by omega, by omega, rfl⟩
theorem Zkn {w : Nat} (h8 : 8 <= w) {ds : List PD} {e : PD} (he : e ∈ Zbw w ds) : ∃ d ∈ ds, e.ns.length <= w /\ e.ns.length <= d.ns.length /\ e.k = d.k := by
 obtain ⟨d, hd, he⟩ := List.mem_flatMap.mp he;exact ⟨d, hd, Znu h8 _ 0 (Nat.le_refl _) (Nat.zero_le _) e he⟩
theorem Zdg (w : Nat) (d : PD) : Zbw w [d] = cutGo w d 0 := by simp [Zbw]
theorem Zli (a b : List Nat) (ds : List PD) : Ze2 (a ++ b) ds = Ze2 b (Ze2 a ds) := by unfold Ze2; rw [List.foldl_append]
def tot (ds : List PD) : Nat := (ds.map fun d => d.ns.length).sum
theorem Chn.tot {d : PD} : ∀ {es : List PD} {lo hi : Nat}, hi <= d.ns.length -> Chn d lo hi es -> Mine.tot es = hi - lo /\ es.length <= hi - lo
 | [], lo, hi, _, h => by have h : lo = hi := h; subst h; exact ⟨by simp [Mine.tot], by simp⟩
 | e :: es, lo, hi, hh, ⟨m, k1, k2, k3, _, h⟩ => by
  obtain ⟨a, b⟩ := Chn.tot hh h;have hlen : e.ns.length = m - lo := by rw [k3]; exact PD.part_len (by omega) (by omega)
  have := h.le;refine ⟨?_, ?_⟩
  ·show e.ns.length + Mine.tot es = _; omega
  ·rw [List.length_cons]; omega
def lst (w x : Nat) : Nat := if x <= w then 1 else 1 + (x - w + full w - 1) / full w
theorem Zo2 {w : Nat} (h : 8 <= w) : 8 <= full w /\ full w <= w /\ full w % 8 = 0 := by unfold full; omega
theorem Zhz {w x : Nat} (h : x <= w) : lst w x = 1 := if_pos h
section
variable {P : Program} {w : World} {K : PySem.W.Frag} {mg : Str -> Option Value} {base : Heap}
def wsV (ws : List Nat) : List V := ws.map fun w => V.int (w : Nat)
theorem Zb3 (ws : List Nat) : (wsV ws).length = ws.length := List.length_map ..
theorem Zgp (ws : List Nat) : wsV ws = (ws.map fun w => ((w : Nat) : Int)).map V.int := by unfold wsV; rw [List.map_map]; rfl
theorem Zkt {ws : List Nat} {i : Nat} {x : V} (h : (wsV ws)[i]? = some x) : ∃ w, ws[i]? = some w /\ x = .int (w : Nat) := by
 unfold wsV at h;rw [List.getElem?_map] at h;cases e : ws[i]? with
 | none => rw [e] at h; cases h
 | some w => rw [e] at h; exact ⟨w, rfl, (Option.some.inj h).symm⟩
def WOk (ws : List Nat) : Prop := ∀ w ∈ ws, 8 <= w /\ w <= 5000
def isWs (H : Hp) : V -> Bool
 | .ref a => (match H a with
  | some (.lst xs) => decide (1 <= xs.length) && decide (xs.length <= 20) && xs.all (fun y => wIn y 8 5000)
  | _ => false)
 | _ => false
theorem Zd0 {H : Hp} {a : Addr} {xs : List V} (h : H a = some (.lst xs)) : isWs H (.ref a) = (decide (1 <= xs.length) && decide (xs.length <= 20) && xs.all (fun y => wIn y 8 5000)) := by
 show (match H a with | some (.lst xs) => decide (1 <= xs.length) && decide (xs.length <= 20) && xs.all (fun y => wIn y 8 5000) | _ => false) = _;rw [h]
theorem Zi5 {H : Hp} {x : V} (h : isL H x = false) : isWs H x = false := by
 cases e : isWs H x with
 | false => rfl
 | true =>
  cases x with
  | ref a =>
   have e' : (match H a with | some (.lst xs) => decide (1 <= xs.length) && decide (xs.length <= 20) && xs.all (fun y => wIn y 8 5000) | _ => false) = true := e;cases ha : H a with
   | none => rw [ha] at e'; cases e'
   | some o =>
    cases o with
    | lst xs =>
     have h' : (match H a with | some (.lst xs) => true | _ => false) = false := h;rw [ha] at h'; cases h'
    | _ => rw [ha] at e'; cases e'
  | _ => cases e
theorem Zg8 {H : Hp} {x : V} (h : isWs H x = true) : ∃ l ws, x = .ref l /\ H l = some (.lst (wsV ws)) /\ 1 <= ws.length /\ ws.length <= 20 /\ WOk ws := by
 cases e : isL H x with
 | false => rw [Zi5 e] at h; cases h
 | true =>
  obtain ⟨a, xs, rfl, ha⟩ := Zlq e;rw [Zd0 ha] at h;simp only [Bool.and_eq_true, decide_eq_true_eq, List.all_eq_true] at h;obtain ⟨⟨h1, h2⟩, h3⟩ := h;have : ∃ ws, xs = wsV ws /\ WOk ws := by
   clear ha e h1 h2
   induction xs with
   | nil => exact ⟨[], rfl, fun _ z => nomatch z⟩
   | cons y ys ih =>
    obtain ⟨ws, rfl, hw⟩ := ih fun z hz => h3 z (List.mem_cons_of_mem _ hz)
    obtain ⟨i, rfl, a, b⟩ := Zij (h3 y List.mem_cons_self);obtain ⟨n, rfl⟩ := Int.eq_ofNat_of_zero_le (show 0 <= i by omega);refine ⟨n :: ws, rfl, fun z hz => ?_⟩;rcases List.mem_cons.mp hz with rfl | hz
    ·omega
    ·exact hw z hz
  obtain ⟨ws, rfl, hw⟩ := this;rw [Zb3] at h1 h2;exact ⟨a, ws, rfl, ha, h1, h2, hw⟩
theorem Zda {H : Hp} {l : Addr} {ws : List Nat} (h : H l = some (.lst (wsV ws))) (h1 : 1 <= ws.length) (h2 : ws.length <= 20) (hw : WOk ws) : isWs H (.ref l) = true := by
 rw [Zd0 h, Zb3, decide_eq_true h1, decide_eq_true h2];simp only [Bool.true_and, List.all_eq_true];intro y hy;obtain ⟨n, hn, rfl⟩ := List.mem_map.mp hy;have := hw n hn;simp [wIn]; omega
theorem Zbp {H : Hp} {l : Addr} {ws : List Nat} (h : H l = some (.lst (wsV ws))) (h2 : ws.length <= 20) : (∃ t, tyF H (.ref l) = some t) /\ Plains H (.ref l) := by
 refine ⟨⟨_, Zdu h⟩, fun a xs e1 e2 => ?_⟩;cases e1; rw [h] at e2; cases e2;refine ⟨by rw [Zb3]; omega, fun y hy => ?_⟩;obtain ⟨n, _, rfl⟩ := List.mem_map.mp hy;exact ⟨_, rfl⟩
def Zdn : Sp := fun vs H Q _ => ∃ x n, vs = [x] /\ tyF H x = some n /\ Plains H x /\ ∀ H', Same H H' -> Q (.bl (isWs H x)) H'
abbrev Zbs : Stmt := top 18
theorem Zgu : Zao ["value"] ["value"] (defScope Zbs) := ⟨rfl, rfl, rfl, by decide +kernel, rfl, by decide +kernel, by decide +kernel⟩
theorem Zg3 {f : Addr} {fd : FuncData} (F : Fun K "are_widths" "are_widths" Zbs f fd) (T : Cn mg) (B : Bt mg) (F_is_width : FnB P w K mg base "is_width" 3 ["value"] [] Zdk) : FnOk P w K mg base CX0 4 f fd ["value"] Zdn := by
 refine F.ok Zgu (fun vs H Q E h => ?_) (fun cdv A outer s H vs Q E hr h => ?_)
 ·obtain ⟨x, n, rfl, _⟩ := h; rfl
 ·obtain ⟨x, n, rfl, ty, hz, q⟩ := h;refine ⟨_, (Zae (Zc5 (PW.pt (Zgx (Zcd (Zb2 (Zam (Zdh "list") rfl B.isinstance (by rfl) (Zaa (hs := Zab) (pv 0) (Zaa (hs := Zab) (Zec (v := .ty "list") rfl B.blist (by rfl) rfl) Zad))))) (Zfl (Zcd (Zgy Zf4 Zf4 Zaf (Zam (Za9 (K := K) rfl) rfl B.len (by rfl) (Zaa (hs := Zab) (pv 0) Zad)) (Zcl rfl T.c_MOST_WIDTHS)))))) (Zag (Zar Zc9)) Zbb) (Zag (Zar (Zam (Zfx (K := K) rfl rfl) rfl B.all (by rfl) (Zaa (hs := Zd4) (Zg0 (N' := ["part"]) (caps := [none]) (Zjb (sc := defScope Zbs) (N := ["value"]) rfl rfl (by decide +kernel)) rfl (Zc8 (K := K) rfl (pv 0)) (fun _ _ _ _ _ => (Zce (i := 0) (Zi3 (N := ["part"]) rfl (by decide +kernel)) rfl (Or.inl rfl))) (fun _ _ _ _ _ => Zfp) (fun _ _ _ _ _ => (Zak F_is_width (hr.mono (by decide)) rfl (Zaa (hs := Zab) (pv 0) Zad)))) Zad))))), ?_⟩;walk_at "rd";refine ⟨n, ty, ?_⟩;rw [Zkv ty];cases hL : isL H x with
  | false =>
   simp only [Bool.not_false, if_true];have e := Zi5 hL;rw [e] at q;exact q H (Same.refl H)
  | true =>
   obtain ⟨a, xs, rfl, ha⟩ := Zlq hL;obtain ⟨hlen, hpl⟩ := hz a xs rfl ha;rw [Zd0 ha] at q;simp only [Bool.not_true, Bool.false_eq_true, if_false];walk_at "rd";refine ⟨xs, .inl (SqL.of ha), ?_⟩
   by_cases h1 : 1 <= xs.length
   ·have h1' : (1 : Int) <= (xs.length : Int) := by omega
    simp only [h1', decide_true, if_true]
    by_cases h2 : xs.length <= 20
    ·have h2' : (xs.length : Int) <= 20 := by omega
     simp only [h2', decide_true, Bool.not_true, Bool.false_eq_true, if_false];refine ⟨⟨xs, SqL.of ha⟩, ?_⟩;obtain ⟨Pv, ePv⟩ : ∃ Pv : Nat -> List V -> L2.St -> Hp -> Prop, Pv = fun i ys σ' H1 => H1 = H /\ i <= xs.length /\ ys = (xs.take i).map (fun y => V.bl (wIn y 8 5000)) /\ ∃ v, σ' = [v] := ⟨_, rfl⟩
     refine Zgn (xs := xs) Pv (by rw [ePv]; exact ⟨rfl, Nat.zero_le _, by simp, none, rfl⟩) ?_ (Zaj hlen) ?_ ?_ <;> rw [ePv]
     ·rintro i ys σ' H1 ⟨rfl, hi, rfl, _⟩ _;refine ⟨SqL.of ha, ?_⟩;simp only [List.length_map, List.length_take]; omega
     ·rintro i y ys σ' H1 hy ⟨rfl, hi, rfl, v, rfl⟩;rw [<- ePv];have hi' : i < xs.length := (List.getElem?_eq_some_iff.mp hy).1;obtain ⟨m, hm⟩ := hpl y (List.mem_of_getElem? hy);walk_at "rd";refine ⟨y, m, rfl, hm, ?_⟩;rw [ePv];refine ⟨rfl, hi', ?_, _, rfl⟩;rw [List.take_add_one, hy, Option.toList_some, List.map_append, List.map_cons, List.map_nil]
     ·rintro ys σ' H1 ⟨rfl, _, rfl, _⟩ p G0 hp sG0 hG0;walk_at "rd";refine ⟨xs.map (fun y => wIn y 8 5000), SqL.of ?_, ?_⟩
      ·rw [hG0, List.take_of_length_le (Nat.le_refl _), List.map_map]; rfl
      ·have e : (xs.map (fun y => wIn y 8 5000)).all id = (decide (1 <= xs.length) && decide (xs.length <= 20) && xs.all (fun y => wIn y 8 5000)) := by
        simp only [h1, h2, decide_true, Bool.true_and, List.all_map]; rfl
       rw [e];exact q _ sG0
    ·have h2' : ¬ (xs.length : Int) <= 20 := by omega
     simp only [h2', decide_false, Bool.not_false, if_true];simp only [h2, decide_false, Bool.and_false, Bool.false_and] at q;exact q H (Same.refl H)
   ·have h1' : ¬ (1 : Int) <= (xs.length : Int) := by omega
    simp only [h1', decide_false, Bool.false_eq_true, if_false, Bool.not_false, if_true, true_and, exists_eq_left'];simp only [h1, decide_false, Bool.false_and] at q;exact q H (Same.refl H)
def Zbq (NW : Addr) : Sp := fun vs H Q E => ∃ x n, vs = [x] /\ tyF H x = some n /\ Plains H x /\ (isWs H x = false -> ∀ G, Same H G -> E (.ref NW) none G) /\ (isWs H x = true -> ∀ G, Same H G -> Q .non G)
abbrev Zbn : Stmt := top 40
theorem Zfj : Zao ["widths"] ["widths"] (defScope Zbn) := ⟨rfl, rfl, rfl, by decide +kernel, rfl, by decide +kernel, by decide +kernel⟩
theorem Zfr {f NW : Addr} {fd : FuncData} (F : Fun K "check_widths" "check_widths" Zbn f fd) (X_NoWidth : XC K mg "NoWidth" NW) (F_are_widths : FnB P w K mg base "are_widths" 4 ["value"] [] Zdn) : FnOk P w K mg base (CXx P w) 5 f fd ["widths"] (Zbq NW) := by
 refine F.okX Zfj (fun vs H Q E h => ?_) (fun cdv A outer s H vs Q E hr h => ?_)
 ·obtain ⟨x, n, rfl, _⟩ := h; rfl
 ·obtain ⟨x, n, rfl, ty, pl, qn, q⟩ := h;refine ⟨_, (Zag (Zc5 (Zcd (Zb2 (Zak F_are_widths (hr.mono (by decide)) rfl (Zaa (hs := Zab) (pv 0) Zad)))) (Zag (Zfe Zbh rfl rfl X_NoWidth Zbg)) Zbb)), ?_⟩;walk_at "rd";refine ⟨x, n, rfl, ty, pl, fun G sG => ⟨_, rfl, ?_⟩⟩;cases e : isWs H x with
  | false =>
   simp only [Bool.not_false, if_true];exact qn e G sG
  | true =>
   simp only [Bool.not_true, Bool.false_eq_true, if_false];exact q e G sG
def PieL (C : Addr) (H : Hp) (ps : List (Addr × Addr)) (ds : List PD) : Prop := Paired (fun (q : Addr × Addr) (d : PD) => PieO C H q.1 q.2 d) ps ds
theorem PieL.len {C : Addr} {H : Hp} {ps : List (Addr × Addr)} {ds : List PD} (h : PieL C H ps ds) : ps.length = ds.length := Paired.length h
theorem PieL.mono {C : Addr} {H G : Hp} {ps : List (Addr × Addr)} {ds : List PD} (s : Same H G) (h : PieL C H ps ds) : PieL C G ps ds := by
 induction h with
 | nil => exact .nil
 | cons r _ ih => exact .cons (r.mono s) ih
theorem PieL.app {C : Addr} {H : Hp} {ps qs : List (Addr × Addr)} {ds es : List PD} (h : PieL C H ps ds) (k : PieL C H qs es) : PieL C H (ps ++ qs) (ds ++ es) := by
 induction h with
 | nil => exact k
 | cons r _ ih => exact .cons r ih
theorem PieL.get {C : Addr} {H : Hp} {ps : List (Addr × Addr)} {ds : List PD} (h : PieL C H ps ds) {i : Nat} {q : Addr × Addr} (e : ps[i]? = some q) : ∃ d, ds[i]? = some d /\ PieO C H q.1 q.2 d := by
 induction h generalizing i with
 | nil => simp at e
 | cons r _ ih =>
  cases i with
  | zero =>
   simp only [List.getElem?_cons_zero, Option.some.injEq] at e;subst e;exact ⟨_, rfl, r⟩
  | succ i => exact ih (by simpa using e)
theorem Pies.pieL {C : Addr} {H G : Hp} {ps : List (Addr × Addr)} {ds : List PD} (h : Pies C H G ps ds) : PieL C G ps ds := by
 induction h with
 | nil => exact .nil
 | cons r _ ih => exact .cons r.1 ih
theorem Pies.mem {C : Addr} {H G : Hp} {ps : List (Addr × Addr)} {ds : List PD} (h : Pies C H G ps ds) : ∀ q ∈ ps, H q.1 = none /\ H q.2 = none := by
 induction h with
 | nil => exact fun _ h => nomatch h
 | cons r _ ih =>
  intro q hq;rcases List.mem_cons.mp hq with rfl | hq
  ·exact r.2
  ·exact ih q hq
def refs (ps : List (Addr × Addr)) : List V := ps.map fun q => V.ref q.1
theorem Zgw (ps : List (Addr × Addr)) : (refs ps).length = ps.length := List.length_map ..
theorem Zmq (a b : List (Addr × Addr)) : refs (a ++ b) = refs a ++ refs b := List.map_append
theorem Zmp {ps : List (Addr × Addr)} {i : Nat} {x : V} (h : (refs ps)[i]? = some x) : ∃ q, ps[i]? = some q /\ x = .ref q.1 := by
 unfold refs at h;rw [List.getElem?_map] at h;cases e : ps[i]? with
 | none => rw [e] at h; cases h
 | some q => rw [e] at h; exact ⟨q, rfl, (Option.some.inj h).symm⟩
structure Ztq (ds : List PD) (w : Nat) : Prop where
 w8 : 8 <= w
 w5 : w <= 5000
 kp : ∀ d ∈ ds, d.k = true -> d.ns.length <= w
 few : (Zbw w ds).length <= 4000
def Zco (C TW : Addr) : Sp := fun vs H Q E => ∃ (l : Addr) (ps : List (Addr × Addr)) (ds : List PD) (w : Nat), vs = [.ref l, .int w] /\ H l = some (.lst (refs ps)) /\ PieL C H ps ds /\ 8 <= w /\ w <= 5000 /\ (Zbw w ds).length <= 5000 /\
 ((∃ d ∈ ds, d.k = true /\ w < d.ns.length) -> ∀ G, Same H G -> E (.ref TW) none G) /\
 ((∀ d ∈ ds, d.k = true -> d.ns.length <= w) -> ∀ l' ps' G, H l' = none -> Same H G -> G l' = some (.lst (refs ps')) -> PieL C G ps' (Zbw w ds) -> Q (.ref l') G)
theorem Zf7 {w : Nat} {ds : List PD} (i : Nat) : (Zbw w (ds.take i)).length <= (Zbw w ds).length := by
 have e : Zbw w ds = Zbw w (ds.take i) ++ Zbw w (ds.drop i) := by
  unfold Zbw; rw [<- List.flatMap_append, List.take_append_drop]
 rw [e, List.length_append]; omega
theorem Zdt {w : Nat} {ds : List PD} {i : Nat} {d : PD} (h : ds[i]? = some d) : Zbw w (ds.take (i + 1)) = Zbw w (ds.take i) ++ cutGo w d 0 := by
 rw [List.take_add_one, h, Option.toList_some];unfold Zbw;rw [List.flatMap_append];simp
abbrev Zbf : Stmt := top 45
theorem Zcp : Zao ["pieces", "width", "told", "piece"] ["pieces", "width"] (defScope Zbf) := ⟨rfl, rfl, rfl, by decide +kernel, rfl, by decide +kernel, by decide +kernel⟩
theorem Zfa {f C NW TW : Addr} {fd : FuncData} (F : Fun K "all_cut_again" "all_cut_again" Zbf f fd) (F_cut_again : FnX P w K mg base "cut_again" 9 ["piece", "width"] [] (Zb6 C NW TW)) : FnOk P w K mg base (CXx P w) 10 f fd ["pieces", "width"] (Zco C TW) := by
 refine F.okX Zcp (fun vs H Q E h => ?_) (fun cdv A outer s H vs Q E hr h => ?_)
 ·obtain ⟨l, ps, ds, w', rfl, _⟩ := h; rfl
 ·obtain ⟨l, ps, ds, w', rfl, hl, hp, w8, w5, few, qt, q⟩ := h;refine ⟨_, (Zae (Zay (i := 2) (Zcp).nd rfl (Or.inl rfl) (Za7 Zad)) (Zae (Zfo PassesOwn.leaving rfl (Zc8 (K := K) rfl (pv 0)) (Zce (i := 3) (Zcp).nd rfl (Or.inl rfl)) (Zag (Zb0 (Zdf (K := K) rfl PySem.F.plainAttrs_list PySem.F.slot_list_extend PySem.F.type_list_extend Zkh (pv 2) (Zaa (hs := Za1) (Zav F_cut_again (hr.mono (by decide)) rfl (Zbu Zbh (fun _ _ h => h)) (Zaa (hs := Zab) (pv 3) (Zaa (hs := Zab) (pv 1) Zad))) Zad))))) (Zag (Zar (pv 2))))), ?_⟩;walk_at "rd";refine ⟨Zaj (by simp), fun lt G0 hlt s0 hG0 => ⟨⟨_, SqL.of (s0 l _ hl)⟩, ?_⟩⟩;obtain ⟨Pv, ePv⟩ : ∃ Pv : Nat -> L2.St -> Hp -> Prop, Pv = fun i σ' G => ∃ (qs : List (Addr × Addr)) (v : Option V), σ' = [some (.ref l), some (.int w'), some (.ref lt), v] /\ Same H G /\ G lt = some (.lst (refs qs)) /\ PieL C G qs (Zbw w' (ds.take i)) /\ (∀ q ∈ qs, q.1 ≠ lt /\ q.2 ≠ lt) /\ ∀ d ∈ ds.take i, d.k = true -> d.ns.length <= w' := ⟨_, rfl⟩
  refine Ze5 (xs := refs ps) Pv (by rw [ePv]; exact ⟨[], none, rfl, s0, hG0, .nil, (fun _ h => nomatch h), (fun _ h => by simp at h)⟩) ?_ ?_ ?_ <;> rw [ePv]
  ·rintro i σ' G _ ⟨qs, v, rfl, sG, _⟩;exact SqL.of (sG l _ hl)
  ·rintro i x σ' G hx ⟨qs, v, rfl, sG, hq, hqs, hne, hft⟩;rw [<- ePv];obtain ⟨qq, hqq, rfl⟩ := Zmp hx;obtain ⟨d, hd, hO⟩ := hp.get hqq;walk_at "rd";refine ⟨.inl ⟨rfl, _, SqL.of hq⟩, ?_⟩;refine ⟨qq.1, qq.2, d, _, rfl, hO.mono sG, ⟨_, rfl⟩, (fun z => absurd z (by simp [wIn]; omega)), fun w2 e2 _ _ => ?_⟩;have e2 : w' = w2 := by cases e2; rfl
   subst e2;refine ⟨fun z1 z2 => qt ⟨d, List.mem_of_getElem? hd, z1, z2⟩ G sG, fun hfd l1 ps1 G1 hl1 s1 hG1 hp1 => ?_⟩
   try walk_at "rd"
   have hlen := hqs.len;have hb := Zf7 (w := w') (ds := ds) (i + 1);rw [Zdt hd, List.length_append] at hb;have := few;have hl2 := hp1.len;refine ⟨_, s1 lt _ hq, _, hG1, Zaj (by rw [Zgw, List.length_map]; omega), fun G2 b2 hG2 => ?_⟩;rw [ePv];have hne1 : ∀ q ∈ ps1, q.1 ≠ lt /\ q.2 ≠ lt := fun q hq' => by
    obtain ⟨a, b⟩ := hp1.mem q hq';exact ⟨fun z => (by rw [z, hq] at a; cases a), fun z => (by rw [z, hq] at b; cases b)⟩
   have keepB : ∀ {qs : List (Addr × Addr)} {es : List PD}, (∀ q ∈ qs, q.1 ≠ lt /\ q.2 ≠ lt) -> PieL C G1 qs es -> PieL C G2 qs es := by
    intro qs es hn h
    induction h with
    | nil => exact .nil
    | cons r _ ih => exact .cons (r.but b2 (hn _ List.mem_cons_self).1 (hn _ List.mem_cons_self).2) (ih fun q hq => hn q (List.mem_cons_of_mem _ hq))
   refine ⟨qs ++ ps1, _, rfl, (sG.trans s1).butNew b2 hlt, by rw [hG2, Zmq]; rfl, ?_, fun q hq' => ?_, fun d' hd' => ?_⟩
   ·rw [Zdt hd];exact (keepB hne (hqs.mono s1)).app (keepB hne1 hp1.pieL)
   ·rcases List.mem_append.mp hq' with h | h
    ·exact hne q h
    ·exact hne1 q h
   ·rw [List.take_add_one, hd, Option.toList_some] at hd';rcases List.mem_append.mp hd' with h | h
    ·exact hft d' h
    ·rw [List.mem_singleton.mp h]; exact hfd
  ·rintro σ' G ⟨qs, v, rfl, sG, hq, hqs, hne, hft⟩;walk_at "rd";rw [Zgw, hp.len, List.take_length] at hqs hft;exact q hft lt qs G hlt sG hq hqs
def FitsAll : List Nat -> List PD -> Prop
 | [], _ => True
 | w :: ws, ds => Ztq ds w /\ FitsAll ws (Zbw w ds)
def Zd8 (C TW : Addr) : Sp := fun vs H Q E => ∃ (l lw : Addr) (ps : List (Addr × Addr)) (ds : List PD) (ws : List Nat), vs = [.ref l, .ref lw] /\ H l = some (.lst (refs ps)) /\ PieL C H ps ds /\ H lw = some (.lst (wsV ws)) /\
 ((FitsAll ws ds /\ ∀ l' ps' G, Same H G -> G l' = some (.lst (refs ps')) -> PieL C G ps' (Ze2 ws ds) -> Q (.ref l') G) \/
  ∃ d, ds = [d] /\ d.k = true /\ d.ns.length <= 4000 /\ WOk ws /\ (∃ w ∈ ws, w < d.ns.length) /\ ∀ G, Same H G -> E (.ref TW) none G)
theorem FitsAll.drop : ∀ {ws : List Nat} {ds : List PD} (i : Nat), FitsAll ws ds -> FitsAll (ws.drop i) (Ze2 (ws.take i) ds)
 | ws, ds, 0, h => by simpa [Ze2] using h
 | [], ds, i + 1, h => trivial
 | w :: ws, ds, i + 1, h => FitsAll.drop i h.2
abbrev Zc0 : Stmt := top 46
theorem Zd9 : Zao ["pieces", "widths", "width"] ["pieces", "widths"] (defScope Zc0) := ⟨rfl, rfl, rfl, by decide +kernel, rfl, by decide +kernel, by decide +kernel⟩
theorem Zi2 {f C TW : Addr} {fd : FuncData} (F : Fun K "cut_over" "cut_over" Zc0 f fd) (F_all_cut_again : FnX P w K mg base "all_cut_again" 10 ["pieces", "width"] [] (Zco C TW)) : FnOk P w K mg base (CXx P w) 11 f fd ["pieces", "widths"] (Zd8 C TW) := by
 refine F.okX Zd9 (fun vs H Q E h => ?_) (fun cdv A outer s H vs Q E hr h => ?_)
 ·obtain ⟨l, lw, ps, ds, ws, rfl, _⟩ := h; rfl
 ·obtain ⟨l, lw, ps, ds, ws, rfl, hl, hp, hlw, hfq⟩ := h;refine ⟨_, (Zae (Zfo PassesOwn.leaving rfl (Zc8 (K := K) rfl (pv 1)) (Zce (i := 2) (Zd9).nd rfl (Or.inl rfl)) (Zag (Zay (i := 0) (Zd9).nd rfl (Or.inl rfl) (Zav F_all_cut_again (hr.mono (by decide)) rfl (Zbu Zbh (fun _ _ h => h)) (Zaa (hs := Zab) (pv 0) (Zaa (hs := Zab) (pv 2) Zad)))))) (Zag (Zar (pv 0)))), ?_⟩;walk_at "rd";refine ⟨⟨_, SqL.of hlw⟩, ?_⟩;rcases hfq with ⟨hf, q⟩ | ⟨d, rfl, dk, dl, wok, wlt, qt⟩
  ·obtain ⟨Pv, ePv⟩ : ∃ Pv : Nat -> L2.St -> Hp -> Prop, Pv = fun i σ' G => ∃ (l' : Addr) (qs : List (Addr × Addr)) (v : Option V), σ' = [some (.ref l'), some (.ref lw), v] /\ Same H G /\ G l' = some (.lst (refs qs)) /\ PieL C G qs (Ze2 (ws.take i) ds) := ⟨_, rfl⟩
   refine Ze5 (xs := wsV ws) Pv (by rw [ePv]; exact ⟨l, ps, none, rfl, Same.refl _, hl, hp⟩) ?_ ?_ ?_ <;> rw [ePv]
   ·rintro i σ' G _ ⟨l', qs, v, rfl, sG, _⟩;exact SqL.of (sG lw _ hlw)
   ·rintro i x σ' G hx ⟨l', qs, v, rfl, sG, hq, hqs⟩;rw [<- ePv];obtain ⟨w', hw', rfl⟩ := Zkt hx;have hi : i < ws.length := (List.getElem?_eq_some_iff.mp hw').1;have hd := hf.drop i;have ed : ws.drop i = w' :: ws.drop (i + 1) := by
     rw [List.drop_eq_getElem_cons hi];have : ws[i] = w' := by rw [List.getElem?_eq_getElem hi] at hw'; exact Option.some.inj hw'
     rw [this]
    rw [ed] at hd;walk_at "rd";refine ⟨l', qs, _, w', rfl, hq, hqs, hd.1.w8, hd.1.w5, Nat.le_trans hd.1.few (by decide), (fun ⟨d1, a1, a2, a3⟩ => absurd (hd.1.kp d1 a1 a2) (by omega)), fun _ l2 ps2 G2 hl2 s2 hG2 hp2 => ?_⟩;rw [ePv];refine ⟨l2, ps2, _, rfl, sG.trans s2, hG2, ?_⟩;rw [List.take_add_one, hw', Option.toList_some, Zli];exact hp2
   ·rintro σ' G ⟨l', qs, v, rfl, sG, hq, hqs⟩;walk_at "rd";rw [Zb3, List.take_length] at hqs;exact q l' qs G sG hq hqs
  ·obtain ⟨Pv, ePv⟩ : ∃ Pv : Nat -> L2.St -> Hp -> Prop, Pv = fun i σ' G => ∃ (l' : Addr) (qs : List (Addr × Addr)) (v : Option V), σ' = [some (.ref l'), some (.ref lw), v] /\ Same H G /\ G l' = some (.lst (refs qs)) /\ PieL C G qs [d] /\ ∀ w ∈ ws.take i, d.ns.length <= w := ⟨_, rfl⟩
   refine Ze5 (xs := wsV ws) Pv (by rw [ePv]; exact ⟨l, ps, none, rfl, Same.refl _, hl, hp, (fun _ h => by simp at h)⟩) ?_ ?_ ?_ <;> rw [ePv]
   ·rintro i σ' G _ ⟨l', qs, v, rfl, sG, _⟩;exact SqL.of (sG lw _ hlw)
   ·rintro i x σ' G hx ⟨l', qs, v, rfl, sG, hq, hqs, hle⟩;rw [<- ePv];obtain ⟨w', hw', rfl⟩ := Zkt hx;obtain ⟨w8, w5⟩ := wok w' (List.mem_of_getElem? hw');walk_at "rd";have hc := Zh8 w' d 0;refine ⟨l', qs, _, w', rfl, hq, hqs, w8, w5, by rw [Zdg]; omega, (fun _ G2 s2 => qt G2 (sG.trans s2)), fun hft l2 ps2 G2 hl2 s2 hG2 hp2 => ?_⟩;have hfit := hft d List.mem_cons_self dk;rw [Zdg, Zb9 (by omega), PD.part_all] at hp2;rw [ePv];refine ⟨l2, ps2, _, rfl, sG.trans s2, hG2, hp2, fun w2 hw2 => ?_⟩;rw [List.take_add_one, hw', Option.toList_some] at hw2;rcases List.mem_append.mp hw2 with h | h
    ·exact hle w2 h
    ·rw [List.mem_singleton.mp h]; exact hfit
   ·rintro σ' G ⟨l', qs, v, rfl, sG, hq, hqs, hle⟩;rw [Zb3, List.take_length] at hle;obtain ⟨w1, a1, a2⟩ := wlt;exact absurd (hle w1 a1) (by omega)
structure Road (d : LD) (ws : List Nat) : Prop where
 l1 : 1 <= ws.length
 l2 : ws.length <= 20
 ok : WOk ws
 kp : d.k = true -> ∀ w ∈ ws, d.ns.length <= w
theorem Road.fits {d : LD} (hd : d.Ok) : ∀ {ws : List Nat} {es : List PD}, WOk ws -> Chn d.whole 0 d.ns.length es -> (∀ e ∈ es, e.k = d.k /\ e.ns.length <= d.ns.length) -> (d.k = true -> ∀ w ∈ ws, d.ns.length <= w) -> FitsAll ws es
 | [], _, _, _, _, _ => trivial
 | w :: ws, es, hw, hc, he, hk => by
  obtain ⟨w8, w5⟩ := hw w List.mem_cons_self;have hc' : Chn d.whole 0 d.ns.length (Zbw w es) := Zgl w8 (Nat.le_refl _) rfl hc;refine ⟨⟨w8, w5, fun e h1 h2 => ?_, ?_⟩, Road.fits hd (fun x hx => hw x (List.mem_cons_of_mem _ hx)) hc' (fun e h => ?_) fun z x hx => hk z x (List.mem_cons_of_mem _ hx)⟩
  ·obtain ⟨a, b⟩ := he e h1;have := hk (a ▸ h2) w List.mem_cons_self;omega
  ·have h1 := (Chn.tot (Nat.le_refl _) hc').2;have h2 := hd.l2;have h3 : d.whole.ns.length = d.ns.length := rfl;omega
  ·obtain ⟨e', h', _, b, c⟩ := Zkn w8 h;obtain ⟨a', b'⟩ := he e' h';exact ⟨c.trans a', by omega⟩
theorem Zoo (d : LD) (hd : d.Ok) : Chn d.whole 0 d.ns.length [d.whole] := by
 have h1 := hd.l1;refine ⟨d.ns.length, by omega, Nat.le_refl _, ?_, .inl rfl, rfl⟩;exact (PD.part_all d.whole).symm
theorem Road.all {d : LD} (hd : d.Ok) {ws : List Nat} (r : Road d ws) : FitsAll ws [d.whole] :=
 Road.fits hd r.ok (Zoo d hd) (fun e he => by rw [List.mem_singleton.mp he]; exact ⟨rfl, Nat.le_refl _⟩) r.kp
def Zfi (CL CP NW TW : Addr) : Sp := fun vs H Q E => ∃ (p b : Addr) (d : LD) (x : V), vs = [.ref p, x] /\ LetO CL H p b d /\ (∃ t, tyF H x = some t) /\ Plains H x /\ (isWs H x = false -> ∀ G, Same H G -> E (.ref NW) none G) /\
 ∀ lw ws, x = .ref lw -> H lw = some (.lst (wsV ws)) -> 1 <= ws.length -> ws.length <= 20 -> WOk ws -> (d.k = true -> (∃ w ∈ ws, w < d.ns.length) -> ∀ G, Same H G -> E (.ref TW) none G) /\
  ((d.k = true -> ∀ w ∈ ws, d.ns.length <= w) -> ∀ l ps G, Same H G -> G l = some (.lst (refs ps)) -> PieL CP G ps (Ze2 ws [d.whole]) -> Q (.ref l) G)
abbrev Zgd : Stmt := top 47
theorem Zob : Zao ["letter", "widths"] ["letter", "widths"] (defScope Zgd) := ⟨rfl, rfl, rfl, by decide +kernel, rfl, by decide +kernel, by decide +kernel⟩
theorem Zop {f CL CP NW TW : Addr} {fd : FuncData} (F : Fun K "sent" "sent" Zgd f fd) (F_check_widths : FnX P w K mg base "check_widths" 5 ["widths"] [] (Zbq NW)) (F_cut : FnX P w K mg base "cut" 10 ["letter", "width"] [] (Zgb CL CP NW TW)) (F_cut_over : FnX P w K mg base "cut_over" 11 ["pieces", "widths"] [] (Zd8 CP TW)) :
  FnOk P w K mg base (CXx P w) 12 f fd ["letter", "widths"] (Zfi CL CP NW TW) := by
 refine F.okX Zob (fun vs H Q E h => ?_) (fun cdv A outer s H vs Q E hr h => ?_)
 ·obtain ⟨p, b, d, x, rfl, _⟩ := h; rfl
 ·obtain ⟨p, b, d, x, rfl, hL, ⟨n, ty⟩, pl, qn, q0⟩ := h;refine ⟨_, (Zae (Zb0 (Zav F_check_widths (hr.mono (by decide)) rfl (Zbu Zbh (fun _ _ h => h)) (Zaa (hs := Zab) (pv 1) Zad))) (Zag (Zar (Zav F_cut_over (hr.mono (by decide)) rfl (Zbu Zbh (fun _ _ h => h)) (Zaa (hs := Za1) (Zav F_cut (hr.mono (by decide)) rfl (Zbu Zbh (fun _ _ h => h)) (Zaa (hs := Zab) (pv 0) (Zaa (hs := Zbd) (Zcf (Za0 (K := K) rfl) (pv 1) Zaf (fun _ _ => rfl)) Zad))) (Zaa (hs := Zbd) (Zej (Zeh (K := K) rfl) (pv 1) (Ze0 Zaf) Zgz) Zad)))))), ?_⟩;walk_at "rd";refine ⟨x, n, rfl, ty, pl, qn, fun hw G0 s0 => ?_⟩;obtain ⟨lw, ws, rfl, hlw, h1, h20, wok⟩ := Zg8 hw;obtain ⟨qt, q⟩ := q0 lw ws rfl hlw h1 h20 wok;obtain ⟨w0, wr, rfl⟩ : ∃ w0 wr, ws = w0 :: wr := by
   cases ws with
   | nil => simp at h1
   | cons a b => exact ⟨a, b, rfl⟩
  try walk_at "rd"
  obtain ⟨w08, w05⟩ := wok w0 List.mem_cons_self;refine ⟨_, SqL.of (s0 lw _ hlw), _, at0, ?_⟩
  try walk_at "rd"
  refine ⟨p, b, d, _, rfl, hL.mono s0, ⟨_, rfl⟩, (fun z => absurd z (by simp [wIn]; omega)), fun w2 e2 _ _ => ?_⟩;have e2 : w0 = w2 := by cases e2; rfl
  subst e2;refine ⟨fun z1 z2 G1 s1 => qt z1 ⟨w0, List.mem_cons_self, z2⟩ G1 (s0.trans s1), fun hk0 l ps G1 hl s1 hG1 hp => ?_⟩
  try walk_at "rd"
  have s01 := s0.trans s1;refine ⟨_, SqL.of (s01 lw _ hlw), fun lw2 G2 hlw2 s2 hG2 => ?_⟩;have ec : Zja (wsV (w0 :: wr)) (some 1) none = wsV wr := by
   exact Zh7 (ns := wsV (w0 :: wr)) (lo := 1) (by rw [Zb3, List.length_cons]; omega)
  rw [ec] at hG2
  try walk_at "rd"
  refine ⟨l, lw2, ps, cutGo w0 d.whole 0, wr, rfl, s2 l _ hG1, (hp.pieL).mono s2, hG2, ?_⟩
  by_cases bad : d.k = true /\ ∃ w ∈ wr, w < d.ns.length
  ·obtain ⟨dk, w1, a1, a2⟩ := bad;have hl2 := hL.ok.l2;have hwl : d.whole.ns.length = d.ns.length := rfl;refine .inr ⟨d.whole, ?_, dk, by omega, (fun z hz => wok z (List.mem_cons_of_mem _ hz)), ⟨w1, a1, by omega⟩, fun G3 s3 => qt dk ⟨w1, List.mem_cons_of_mem _ a1, a2⟩ G3 (s01.trans (s2.trans s3))⟩;rw [Zb9 (by have := hk0 dk; omega), PD.part_all]
  ·have hr' : Road d (w0 :: wr) := ⟨h1, h20, wok, fun z w hw => by
    rcases List.mem_cons.mp hw with rfl | hw
    ·exact hk0 z
    ·by_cases y : w < d.ns.length
     ·exact absurd ⟨z, w, hw, y⟩ bad
     ·omega⟩
   have hf := hr'.all hL.ok;refine .inl ⟨by have := hf.2; rwa [Zdg] at this, fun l' ps' G3 s3 hG3 hp3 => ?_⟩;refine q hr'.kp l' ps' G3 (s01.trans (s2.trans s3)) hG3 ?_;rw [Ze1, Zdg];exact hp3
end
section
variable {P : Program} {w : World} {K : PySem.W.Frag} {mg : Str -> Option Value} {base : Heap}
def Zdw : Sp := fun vs H Q _ => ∃ x n, vs = [x] /\ tyF H x = some n /\ Q (.bl (wIn x 1 4000)) H
abbrev Zcj : Stmt := top 16
theorem Zho : Zao ["value"] ["value"] (defScope Zcj) := ⟨rfl, rfl, rfl, by decide +kernel, rfl, by decide +kernel, by decide +kernel⟩
theorem Zhx {f : Addr} {fd : FuncData} (F : Fun K "is_length" "is_length" Zcj f fd) (T : Cn mg) (F_is_whole_within : FnB P w K mg base "is_whole_within" 2 ["value", "low", "high"] [] Za3) : FnOk P w K mg base CX0 3 f fd ["value"] Zdw := by
 refine F.ok Zho (fun vs H Q E h => ?_) (fun cdv A outer s H vs Q E hr h => ?_)
 ·obtain ⟨x, n, rfl, _⟩ := h; rfl
 ·obtain ⟨x, n, rfl, ty, q⟩ := h;refine ⟨_, (Zag (Zar (Zak F_is_whole_within (hr.mono (by decide)) rfl (Zaa (hs := Zab) (pv 0) (Zaa (hs := Zac) Zaf (Zaa (hs := Zab) (Zcl rfl T.c_MOST_BYTES) Zad)))))), ?_⟩;walk_at "rd";exact ⟨x, n, 1, 4000, rfl, ty, q⟩
def Least (m : Nat) (ws : List Nat) : Prop := m ∈ ws /\ ∀ x ∈ ws, m <= x
theorem Least.uniq {m n : Nat} {ws : List Nat} (a : Least m ws) (b : Least n ws) : m = n := Nat.le_antisymm (a.2 n b.1) (b.2 m a.1)
theorem Zg7 {ws : List Nat} {v : Int} (hv : v ∈ ws.map fun w => ((w : Nat) : Int)) (hmin : ∀ y ∈ ws.map fun w => ((w : Nat) : Int), v <= y) : ∃ m : Nat, v = (m : Nat) /\ Least m ws := by
 obtain ⟨m, hm, rfl⟩ := List.mem_map.mp hv;refine ⟨m, rfl, hm, fun x hx => ?_⟩;have := hmin _ (List.mem_map_of_mem hx);omega
def Zeg (NW NL : Addr) : Sp := fun vs H Q E => ∃ (x y : V), vs = [x, y] /\ (∃ t, tyF H x = some t) /\ (∃ t, tyF H y = some t) /\ Plains H y /\ (isWs H y = false -> ∀ G, Same H G -> E (.ref NW) none G) /\ (isWs H y = true -> wIn x 1 4000 = false -> ∀ G, Same H G -> E (.ref NL) none G) /\
 ∀ (L : Nat) (l : Addr) (ws : List Nat) (m : Nat), x = .int L -> y = .ref l -> 1 <= L -> L <= 4000 -> H l = some (.lst (wsV ws)) -> 1 <= ws.length -> ws.length <= 20 -> WOk ws -> Least m ws -> ∀ G, Same H G -> Q (.int (lst m L : Nat)) G
theorem Zff : ∀ {ws : List Nat}, 1 <= ws.length -> ∃ m, Least m ws
 | [], h => by simp at h
 | [a], _ => ⟨a, List.mem_cons_self, fun x hx => by rw [List.mem_singleton.mp hx]; exact Nat.le_refl _⟩
 | a :: b :: r, _ => by
  obtain ⟨m, h1, h2⟩ := Zff (ws := b :: r) (by simp)
  by_cases h : a <= m
  ·refine ⟨a, List.mem_cons_self, fun x hx => ?_⟩;rcases List.mem_cons.mp hx with rfl | hx
   ·exact Nat.le_refl _
   ·exact Nat.le_trans h (h2 x hx)
  ·refine ⟨m, List.mem_cons_of_mem _ h1, fun x hx => ?_⟩;rcases List.mem_cons.mp hx with rfl | hx
   ·omega
   ·exact h2 x hx
abbrev Zey : Stmt := top 48
theorem Zgt : Zao ["length", "widths", "width", "full"] ["length", "widths"] (defScope Zey) := ⟨rfl, rfl, rfl, by decide +kernel, rfl, by decide +kernel, by decide +kernel⟩
theorem Zm0 {f NW NL : Addr} {fd : FuncData} (F : Fun K "least" "least" Zey f fd) (B : Bt mg) (X_NoLetter : XC K mg "NoLetter" NL) (F_check_widths : FnX P w K mg base "check_widths" 5 ["widths"] [] (Zbq NW)) (F_is_length : FnB P w K mg base "is_length" 3 ["value"] [] Zdw) (F_full_length : FnB P w K mg base "full_length" 1 ["width"] [] Zcn) :
  FnOk P w K mg base (CXx P w) 6 f fd ["length", "widths"] (Zeg NW NL) := by
 refine F.okX Zgt (fun vs H Q E h => ?_) (fun cdv A outer s H vs Q E hr h => ?_)
 ·obtain ⟨x, y, rfl, _⟩ := h; rfl
 ·obtain ⟨x, y, rfl, ⟨nx, tx⟩, ⟨ny, ty⟩, pl, qn, ql, q0⟩ := h;refine ⟨_, (Zae (Zb0 (Zav F_check_widths (hr.mono (by decide)) rfl (Zbu Zbh (fun _ _ h => h)) (Zaa (hs := Zab) (pv 1) Zad))) (Zae (Zc5 (Zcd (Zb2 (Zak F_is_length (hr.mono (by decide)) rfl (Zaa (hs := Zab) (pv 0) Zad)))) (Zag (Zfe Zbh rfl rfl X_NoLetter Zbg)) Zbb) (Zae (Zay (i := 2) (Zgt).nd rfl (Or.inl rfl) (Zam (Zeo (K := K) rfl rfl) rfl B.min (by rfl) (Zaa (hs := Zab) (pv 1) Zad))) (Zae (Zc5 (Zbt Zf4 (pv 0) (pv 2) (Zbe _)) (Zag (Zar Zaf)) Zbb) (Zae (Zay (i := 3) (Zgt).nd rfl (Or.inl rfl) (Zak F_full_length (hr.mono (by decide)) rfl (Zaa (hs := Zab) (pv 2) Zad))) (Zag (Zar (Za2 Zcg Zaf (Za2 Zg1 (Za2 Zht (Za2 Zcg (Za2 Zht (pv 0) (pv 2)) (pv 3)) Zaf) (pv 3)))))))))), ?_⟩;walk_at "rd";refine ⟨y, ny, rfl, ty, pl, qn, fun hw G0 s0 => ?_⟩;obtain ⟨l, ws, rfl, hl, w1, w20, wok⟩ := Zg8 hw;walk_at "rd";refine ⟨x, nx, rfl, Zbx s0 tx, ?_⟩;cases ew : wIn x 1 4000 with
  | false =>
   walk_at "rd";exact ql hw ew G0 s0
  | true =>
  obtain ⟨Li, rfl, L1i, L4i⟩ := Zij ew;obtain ⟨L, rfl⟩ := Int.eq_ofNat_of_zero_le (show 0 <= Li by omega);obtain ⟨m, hm⟩ := Zff w1;have q := q0 L l ws m rfl rfl (by omega) (by omega) hl w1 w20 wok hm;walk_at "rd";have hlI : G0 l = some (.lst ((ws.map fun w => ((w : Nat) : Int)).map V.int)) := by rw [s0 l _ hl, Zgp]
  have wne : ws ≠ [] := fun z => by rw [z] at w1; simp at w1
  refine ⟨_, SqL.of hlI, fun z => wne (List.map_eq_nil_iff.mp z), fun v hv hmin => ?_⟩;obtain ⟨m', rfl, hm'⟩ := Zg7 hv hmin;have em := hm'.uniq hm;subst em;have h8 := (wok m' hm.1).1
  by_cases hLm : L <= m'
  ·rw [decide_eq_true (by omega), if_pos rfl];have := q G0 s0;rw [Zhz hLm] at this;exact this
  ·rw [decide_eq_false (by omega), if_neg (by simp)];refine ⟨m', rfl, ?_⟩;walk_at "rd";obtain ⟨f1, f2, f3⟩ := Zo2 h8;refine ⟨⟨by omega, by omega⟩, ?_⟩;have e : (1 : Int) + ((L : Int) - (m' : Int) + ((full m' : Nat) : Int) - 1) / ((full m' : Nat) : Int) = ((lst m' L : Nat) : Int) := by
    unfold lst;rw [if_neg hLm];have e1 : (L : Int) - (m' : Int) + ((full m' : Nat) : Int) - 1 = ((L - m' + full m' - 1 : Nat) : Int) := by omega
    rw [e1, <- Int.natCast_ediv];omega
   rw [e];exact q G0 s0
def Zgq (CL CP NW TW : Addr) : Sp := fun vs H Q E => ∃ (p b : Addr) (d : LD) (y : V), vs = [.ref p, y] /\ LetO CL H p b d /\ (∃ t, tyF H y = some t) /\ Plains H y /\ (isWs H y = false -> ∀ G, Same H G -> E (.ref NW) none G) /\
 ∀ (l : Addr) (ws : List Nat) (m : Nat), y = .ref l -> H l = some (.lst (wsV ws)) -> 1 <= ws.length -> ws.length <= 20 -> WOk ws -> Least m ws -> (d.k = true -> m < d.ns.length -> ∀ G, Same H G -> E (.ref TW) none G) /\
  ((d.k = true -> d.ns.length <= m) -> ∀ l' ps G, Same H G -> G l' = some (.lst (refs ps)) -> PieL CP G ps (cutGo m d.whole 0) -> Q (.ref l') G)
abbrev Zgf : Stmt := top 49
theorem Zoc : Zao ["letter", "widths"] ["letter", "widths"] (defScope Zgf) := ⟨rfl, rfl, rfl, by decide +kernel, rfl, by decide +kernel, by decide +kernel⟩
theorem Zos {f CL CP NW TW : Addr} {fd : FuncData} (F : Fun K "best" "best" Zgf f fd) (B : Bt mg) (F_check_widths : FnX P w K mg base "check_widths" 5 ["widths"] [] (Zbq NW)) (F_cut : FnX P w K mg base "cut" 10 ["letter", "width"] [] (Zgb CL CP NW TW)) :
  FnOk P w K mg base (CXx P w) 11 f fd ["letter", "widths"] (Zgq CL CP NW TW) := by
 refine F.okX Zoc (fun vs H Q E h => ?_) (fun cdv A outer s H vs Q E hr h => ?_)
 ·obtain ⟨p, b, d, y, rfl, _⟩ := h; rfl
 ·obtain ⟨p, b, d, y, rfl, hL, ⟨ny, ty⟩, pl, qn, q0⟩ := h;refine ⟨_, (Zae (Zb0 (Zav F_check_widths (hr.mono (by decide)) rfl (Zbu Zbh (fun _ _ h => h)) (Zaa (hs := Zab) (pv 1) Zad))) (Zag (Zar (Zav F_cut (hr.mono (by decide)) rfl (Zbu Zbh (fun _ _ h => h)) (Zaa (hs := Zab) (pv 0) (Zaa (hs := Za1) (Zam (Zeo (K := K) rfl rfl) rfl B.min (by rfl) (Zaa (hs := Zab) (pv 1) Zad)) Zad)))))), ?_⟩;walk_at "rd";refine ⟨y, ny, rfl, ty, pl, qn, fun hw G0 s0 => ?_⟩;obtain ⟨l, ws, rfl, hl, w1, w20, wok⟩ := Zg8 hw;obtain ⟨m, hm⟩ := Zff w1;obtain ⟨qt, q⟩ := q0 l ws m rfl hl w1 w20 wok hm;walk_at "rd";have hlI : G0 l = some (.lst ((ws.map fun w => ((w : Nat) : Int)).map V.int)) := by rw [s0 l _ hl, Zgp]
  have wne : ws ≠ [] := fun z => by rw [z] at w1; simp at w1
  refine ⟨_, SqL.of hlI, fun z => wne (List.map_eq_nil_iff.mp z), fun v hv hmin => ?_⟩;obtain ⟨m', rfl, hm'⟩ := Zg7 hv hmin;have em := hm'.uniq hm;subst em;obtain ⟨h8, h5⟩ := wok m' hm.1;refine ⟨p, b, d, _, rfl, hL.mono s0, ⟨_, rfl⟩, (fun z => absurd z (by simp [wIn]; omega)), fun w2 e2 _ _ => ?_⟩;have e2 : m' = w2 := by cases e2; rfl
  subst e2;exact ⟨fun z1 z2 G1 s1 => qt z1 z2 G1 (s0.trans s1), fun hk l' ps G hl' s1 hG hp => q hk l' ps G (s0.trans s1) hG hp.pieL⟩
end
section
variable {P : Program} {w : World} {K : PySem.W.Frag} {mg : Str -> Option Value} {base : Heap}
structure OddOk (H H' : Hp) (a : Addr) (x : V) : Prop where
 ty : ∃ t, tyF H' x = some t
 nw : ∀ p, x = .ref p -> H p = none /\ p ≠ a
theorem StOk.ty {H : Hp} {a : Addr} (h : StOk H a) : tyF H (.ref a) = some "list" := by obtain ⟨xs, h⟩ := h.lst; exact Zdu h
theorem Zfg {H H' : Hp} {a : Addr} {x : V} {t : String} (b : But a H H') (s : StOk H a) (s' : StOk H' a) (h : tyF H x = some t) : tyF H' x = some t := by
 cases x with
 | ref p =>
  by_cases hp : p = a
  ·subst hp; rw [s.ty] at h; cases h; exact s'.ty
  ·have h : (H p).bind tyO = some t := h;show (H' p).bind tyO = some t;cases e : H p with
   | none => rw [e] at h; cases h
   | some o => rw [b p o e hp]; rw [e] at h; exact h
 | _ => exact h
theorem StOk.ne {H : Hp} {a p : Addr} (h : StOk H a) (hp : H p = none) : p ≠ a := fun z => by obtain ⟨xs, e⟩ := h.lst; subst z; rw [hp] at e; cases e
theorem Zmc {xs : List V} {d : Int} (h0 : 0 <= d) (h1 : d < xs.length) : ∃ x, atI xs d = some x /\ x ∈ xs := by
 obtain ⟨n, rfl⟩ := Int.eq_ofNat_of_zero_le h0;have hn : n < xs.length := by omega
 exact ⟨xs[n], Zat (List.getElem?_eq_getElem hn), List.getElem_mem hn⟩
end
section
variable {P : Program} {w : World} {K : PySem.W.Frag} {mg : Str -> Option Value} {base : Heap}
def Zc7 : Sp := fun vs H Q _ => ∃ a, vs = [.ref a] /\ StOk H a /\ ∀ x H', OddOk H H' a x -> wIn x 8 5000 = false -> StOk H' a -> But a H H' -> Q x H'
abbrev Zch : Stmt := top 58
theorem Zhm : Zao ["_law_state"] ["_law_state"] (defScope Zch) := ⟨rfl, rfl, rfl, by decide +kernel, rfl, by decide +kernel, by decide +kernel⟩
theorem Zhv {f : Addr} {fd : FuncData} (F : Fun K "_law_odd_width" "_law_odd_width" Zch f fd) (F_digit : FnB P w K mg base "_law_digit" 1 ["_law_state", "_law_base"] [] Zcu) : FnOk P w K mg base CX0 2 f fd ["_law_state"] Zc7 := by
 refine F.ok Zhm (fun vs H Q E h => ?_) (fun cdv A outer s H vs Q E hr h => ?_)
 ·obtain ⟨a, rfl, _⟩ := h; rfl
 ·obtain ⟨a, rfl, st, q⟩ := h;refine ⟨_, (@Zag _ _ _ (@Zar _ _ _ _ (@Zcf _ _ _ _ _ _ _ (Za0 (K := K) rfl) (@Za7 _ _ _ _ (@Zaa _ _ _ _ _ (@Zaf _ _ _ _) (@Zaa _ _ _ _ _ (@Zaf _ _ _ _) (@Zaa _ _ _ _ _ (Zoj Zku (@Zaf _ _ _ _)) (@Zaa _ _ _ _ _ (@Zaf _ _ _ _) (@Zaa _ _ _ _ _ Zc9 (@Zaa _ _ _ _ _ Zc9 (@Zaa _ _ _ _ _ (@Zhr _ _ _) (@Zaa _ _ _ _ _ (@Zbg _ _ _ _) (@Zaa _ _ _ _ _ (@Za7 _ _ _ _ (@Zaa _ _ _ _ _ (@Zaf _ _ _ _) Zad Zac)) (@Zaa _ _ _ _ _ (@Zok _ _ _ _ _ (@Zaa _ _ _ _ _ (@Zaf _ _ _ _) Zad Zac)) (@Zaa _ _ _ _ _ (@Za2 _ _ _ _ _ _ _ _ Znq (@Zaf _ _ _ _) (@Zaf _ _ _ _)) Zad Zcb) Zml) Zfh) Zac) Zac) Zac) Zac) Zac) Zes) Zac) Zac)) (Zak F_digit (hr.mono (by decide)) rfl (@Zaa _ _ _ _ _ (pv 0) (@Zaa _ _ _ _ _ (@Zaf _ _ _ _) Zad Zac) Zab)) (fun _ _ => rfl)))), ?_⟩;walk_at "rd";refine ⟨Zaj (by decide), fun p1 G1 hp1 s1 g1 => ⟨Zaj (by decide), fun p2 G2 hp2 s2 g2 => ⟨⟨by decide, by decide, by decide⟩, Zaj (by decide), fun p3 G3 hp3 s3 g3 => ?_⟩⟩⟩;have st3 := ((st.same s1).same s2).same s3;have np1 := st.ne hp1;have np2 := (st.same s1).ne hp2;have np3 := ((st.same s1).same s2).ne hp3;refine ⟨a, 11, rfl, st3, by decide, by decide, fun d1 H1 d0 d0' st4 b1 => ?_⟩;obtain ⟨x, hx, hm⟩ := Zmc (xs := [V.int 7, V.int 0, V.int (-8), V.int 5001, V.bl true, V.bl false, V.non, V.str (Str.ofString "8"), V.ref p1, V.ref p2, V.int (10 ^ Int.toNat 20)]) d0 d0';refine ⟨_, d1, rfl, SqL.of (b1 _ _ g3 np3), x, hx, ?_⟩;have g1' := b1 _ _ (s3 _ _ (s2 _ _ g1)) np1;have g2' := b1 _ _ (s3 _ _ g2) np2;have f1 : H p1 = none /\ p1 ≠ a := ⟨hp1, np1⟩;have f2 : H p2 = none /\ p2 ≠ a := ⟨s1.free hp2, np2⟩;have bu : But a H H1 := fun c o e n => b1 c o (s3 _ _ (s2 _ _ (s1 _ _ e))) n
  have all : OddOk H H1 a x /\ wIn x 8 5000 = false := by
   simp only [List.mem_cons, List.not_mem_nil, or_false] at hm;rcases hm with rfl | rfl | rfl | rfl | rfl | rfl | rfl | rfl | rfl | rfl | rfl
   all_goals first
    | exact ⟨⟨⟨_, rfl⟩, fun p e => by cases e⟩, by decide +kernel⟩
    | exact ⟨⟨⟨_, Zdu g1'⟩, fun p e => by cases e; exact f1⟩, rfl⟩
    | exact ⟨⟨⟨_, Zkx g2'⟩, fun p e => by cases e; exact f2⟩, rfl⟩
  exact q x H1 all.1 all.2 st4 bu
structure NoWs (H H' : Hp) (a : Addr) (x : V) : Prop where
 ty : ∃ t, tyF H' x = some t
 pl : Plains H' x
 no : isWs H' x = false
 nw : ∀ p, x = .ref p -> H p = none /\ p ≠ a
def Zdj : Sp := fun vs H Q _ => ∃ a l ws, vs = [.ref a, .ref l] /\ StOk H a /\ H l = some (.lst (wsV ws)) /\ l ≠ a /\ 1 <= ws.length /\ ws.length <= 4 /\ ∀ x H', NoWs H H' a x -> StOk H' a -> But a H H' -> Q x H'
abbrev Zb8 : Stmt := top 59
theorem Zdo : Zao ["_law_state", "_law_widths", "_law_at", "_law_odd"] ["_law_state", "_law_widths"] (defScope Zb8) := ⟨rfl, rfl, rfl, by decide +kernel, rfl, by decide +kernel, by decide +kernel⟩
theorem Zg2 {f : Addr} {fd : FuncData} (F : Fun K "_law_odd_widths" "_law_odd_widths" Zb8 f fd) (B : Bt mg) (F_digit : FnB P w K mg base "_law_digit" 1 ["_law_state", "_law_base"] [] Zcu) (F_odd_width : FnB P w K mg base "_law_odd_width" 2 ["_law_state"] [] Zc7) : FnOk P w K mg base CX0 3 f fd ["_law_state", "_law_widths"] Zdj := by
 refine F.ok Zdo (fun vs H Q E h => ?_) (fun cdv A outer s H vs Q E hr h => ?_)
 ·obtain ⟨a, l, ws, rfl, _⟩ := h; rfl
 ·obtain ⟨a, l, ws, rfl, st, hl, nla, w1, w4, q⟩ := h;refine ⟨_, (@Zae _ _ _ _ _ (@Zay _ _ 2 _ _ _ _ (Zdo).nd rfl (Or.inl rfl) (Zak F_digit (hr.mono (by decide)) rfl (@Zaa _ _ _ _ _ (pv 0) (@Zaa _ _ _ _ _ (@Za2 _ _ _ _ _ _ _ _ Zcg (Zam (Za9 (K := K) rfl) rfl B.len (by rfl) (@Zaa _ _ _ _ _ (pv 1) Zad Zab)) (@Zaf _ _ _ _)) Zad Zcb) Zab)) (by rfl) (Or.inl rfl)) (@Zae _ _ _ _ _ (@Zay _ _ 3 _ _ _ _ (Zdo).nd rfl (Or.inl rfl) (@Za2 _ _ _ _ _ _ _ _ Ze3 (@Za2 _ _ _ _ _ _ _ _ Ze3 (Zej (Zeh (K := K) rfl) (pv 1) Zgz (Ze0 (pv 2))) (@Za7 _ _ _ _ (@Zaa _ _ _ _ _ (Zak F_odd_width (hr.mono (by decide)) rfl (@Zaa _ _ _ _ _ (pv 0) Zad Zab)) Zad Za1))) (Zej (Zeh (K := K) rfl) (pv 1) (Ze0 (pv 2)) Zgz)) (by rfl) (Or.inl rfl)) (@Zag _ _ _ (@Zar _ _ _ _ (@Zcf _ _ _ _ _ _ _ (Za0 (K := K) rfl) (@Za7 _ _ _ _ (@Zaa _ _ _ _ _ (@Za7 _ _ _ _ Zad) (@Zaa _ _ _ _ _ (@Za2 _ _ _ _ _ _ _ _ Zlj (@Za7 _ _ _ _ (@Zaa _ _ _ _ _ (@Zaf _ _ _ _) Zad Zac)) (@Zaf _ _ _ _)) (@Zaa _ _ _ _ _ (Zfq (Zma (K := K) rfl) rfl B.btuple (by rfl) (@Zaa _ _ _ _ _ (pv 1) Zad Zab)) (@Zaa _ _ _ _ _ (@Zhr _ _ _) (@Zaa _ _ _ _ _ (@Zaf _ _ _ _) (@Zaa _ _ _ _ _ (@Zbg _ _ _ _) (@Zaa _ _ _ _ _ (pv 3) (@Zaa _ _ _ _ _ (pv 3) (@Zaa _ _ _ _ _ (pv 3) (@Zaa _ _ _ _ _ (pv 3) Zad Zab) Zab) Zab) Zab) Zac) Zac) Zac) Za1) Zcb) Zfh)) (Zak F_digit (hr.mono (by decide)) rfl (@Zaa _ _ _ _ _ (pv 0) (@Zaa _ _ _ _ _ (@Zaf _ _ _ _) Zad Zac) Zab)) (fun _ _ => rfl)))))), ?_⟩;refine Zap fun N hN => ?_
  walk_at "rd";refine ⟨_, .inl (SqL.of hl), a, _, rfl, st, by rw [Zb3]; omega, by rw [Zb3]; omega, fun d1 H1 l1 u1 st1 b1 => hN _ _ ?_⟩;clear hN N;obtain ⟨m, rfl⟩ := Int.eq_ofNat_of_zero_le l1;have hm : m <= ws.length := by rw [Zb3] at u1; omega
  have hl1 := b1 _ _ hl nla;refine Zap fun N hN => ?_
  walk_at "rd";refine ⟨_, SqL.of hl1, fun p1 G1 hp1 s1 g1 => ⟨a, rfl, st1.same s1, fun x H2 ox bx st2 b2 => ?_⟩⟩;have np1 := st1.ne hp1;have c1 := Zo5 (ns := wsV ws) (hi := m) (by rw [Zb3]; omega);have c2 : Zja (wsV ws) (some (m : Int)) none = (wsV ws).drop m := Zh7 (lo := m) (by rw [Zb3]; omega);rw [c1] at g1;have hl2 := b2 _ _ (s1 _ _ hl1) nla;refine ⟨Zaj (by decide), fun p2 G2 hp2 s2 g2 => ⟨_, s2 _ _ (b2 _ _ g1 np1), _, g2, ?_, fun p3 G3 hp3 s3 g3 => ⟨_, SqL.of (s3 _ _ (s2 _ _ hl2)), fun p4 G4 hp4 s4 g4 => ⟨_, s4 _ _ g3, _, g4, ?_, fun p5 G5 hp5 s5 g5 => hN _ _ ?_⟩⟩⟩⟩
  ·refine Zaj ?_; simp only [List.length_take, List.length_cons, List.length_nil, Zb3]; omega
  ·rw [c2]; refine Zaj ?_; simp only [List.length_append, List.length_take, List.length_drop, List.length_cons, List.length_nil, Zb3]; omega
  clear hN N;rw [c2] at g5;have sJ : Same H2 G5 := ((s2.trans s3).trans s4).trans s5;have st5 := st2.same sJ;have bu2 : But a H H2 := fun c o e n => b2 c o (s1 _ _ (b1 c o e n)) n
  have fresh : ∀ t, H2 t = none -> H t = none /\ t ≠ a := fun t ht => ⟨bu2.free ht (st2.ne ht), st2.ne ht⟩
  have f5 := fresh p5 (s2.free (s3.free (s4.free hp5)));have hl5 := sJ _ _ hl2;have ty5 : ∃ t, tyF G5 x = some t := ox.ty.imp fun t z => Zbx sJ z
  walk_at "rd";refine ⟨Zaj (by decide), fun r1 J1 hr1 t1 j1 => ⟨Zaj (by decide), fun r2 J2 hr2 t2 j2 => ⟨_, j2, by decide, by decide, Zaj (by decide), fun r3 J3 hr3 t3 j3 => ⟨_, SqL.of (t3 _ _ (t2 _ _ (t1 _ _ hl5))), fun r4 J4 hr4 t4 j4 => ⟨Zaj (by decide), fun r5 J5 hr5 t5 j5 => ?_⟩⟩⟩⟩⟩;have tJ : Same G5 J5 := (((t1.trans t2).trans t3).trans t4).trans t5;have stJ := st5.same tJ;have n1 := st5.ne hr1;have n3 := (st5.same (t1.trans t2)).ne hr3;have n4 := (st5.same ((t1.trans t2).trans t3)).ne hr4;have n5 := (st5.same (((t1.trans t2).trans t3).trans t4)).ne hr5;refine ⟨a, 10, rfl, stJ, by decide, by decide, fun d9 Z l9 u9 stZ bZ => ?_⟩;obtain ⟨y, hy, hym⟩ := Zmc (xs := [V.ref r1, V.ref r3, V.ref r4, V.non, V.int 40, V.str (Str.ofString "40"), V.ref p5, V.ref p5, V.ref p5, V.ref p5]) l9 u9;refine ⟨_, d9, rfl, SqL.of (bZ _ _ j5 n5), y, hy, ?_⟩;have e1 := bZ _ _ (t5 _ _ (t4 _ _ (t3 _ _ (t2 _ _ j1)))) n1;have e3 := bZ _ _ (t5 _ _ (t4 _ _ j3)) n3;have e4 := bZ _ _ (t5 _ _ j4) n4;have e5 := bZ _ _ (tJ _ _ g5) f5.2;have fr := fun t (ht : G5 t = none) => fresh t (sJ.free ht)
  have f1 := fr r1 hr1;have f3 := fr r3 (t1.free (t2.free hr3));have f4 := fr r4 (t1.free (t2.free (t3.free hr4)));have buZ : But a H Z := fun c o e n => bZ c o (tJ _ _ (sJ _ _ (bu2 c o e n))) n
  have tyx : ∃ t, tyF Z x = some t := ty5.imp fun t z => Zfg bZ stJ stZ (Zbx tJ z)
  have all : NoWs H Z a y := by
   simp only [List.mem_cons, List.not_mem_nil, or_false] at hym;rcases hym with rfl | rfl | rfl | rfl | rfl | rfl | rfl | rfl | rfl | rfl
   ·exact ⟨⟨_, Zdu e1⟩, (fun b xs z1 z2 => by cases z1; rw [e1] at z2; cases z2; exact ⟨by decide, fun _ h => nomatch h⟩), by rw [Zd0 e1]; rfl, fun p z => by cases z; exact f1⟩
   ·refine ⟨⟨_, Zdu e3⟩, (fun b xs z1 z2 => by cases z1; rw [e3] at z2; cases z2; exact ⟨by decide, fun y hy => by
      obtain ⟨l, hl, hy⟩ := List.mem_flatten.mp hy;rw [List.eq_of_mem_replicate hl] at hy;rw [List.mem_singleton.mp hy]; exact ⟨_, rfl⟩⟩), by rw [Zd0 e3]; decide, fun p z => by cases z; exact f3⟩
   ·exact ⟨⟨_, Zkx e4⟩, (fun b xs z1 z2 => by cases z1; rw [e4] at z2; cases z2), Zi5 (by show (match Z r4 with | some (.lst xs) => true | _ => false) = false; rw [e4]), fun p z => by cases z; exact f4⟩
   ·exact ⟨⟨_, rfl⟩, (fun _ _ z => by cases z), rfl, fun p z => by cases z⟩
   ·exact ⟨⟨_, rfl⟩, (fun _ _ z => by cases z), rfl, fun p z => by cases z⟩
   ·exact ⟨⟨_, rfl⟩, (fun _ _ z => by cases z), rfl, fun p z => by cases z⟩
   all_goals
    refine ⟨⟨_, Zdu e5⟩, (fun b xs z1 z2 => ?_), ?_, fun p z => by cases z; exact f5⟩
    ·cases z1; rw [e5] at z2; cases z2;refine ⟨?_, fun y hy => ?_⟩
     ·simp only [List.length_append, List.length_take, List.length_drop, List.length_cons, List.length_nil, Zb3]; omega
     ·simp only [List.mem_append, List.mem_cons, List.not_mem_nil, or_false] at hy;rcases hy with (hy | rfl) | hy
      ·obtain ⟨n, _, rfl⟩ := List.mem_map.mp (List.mem_of_mem_take hy); exact ⟨_, rfl⟩
      ·exact tyx
      ·obtain ⟨n, _, rfl⟩ := List.mem_map.mp (List.mem_of_mem_drop hy); exact ⟨_, rfl⟩
    ·rw [Zd0 e5, Bool.and_eq_false_iff];refine .inr ?_;rw [List.all_append, List.all_append];simp [bx]
  exact q y Z all stZ buZ
end
section
variable {P : Program} {w : World} {K : PySem.W.Frag} {mg : Str -> Option Value} {base : Heap}
structure Znw (K : PySem.W.Frag) (mg : Str -> Option Value) (W : Addr) (cs : List Addr) : Prop where
 way : mg "WayError" = some (.ref W)
 wc : Zrg K W
 len : cs.length = 11
 m0 : ∀ c, cs[0]? = some c -> mg "NoLetter" = some (.ref c)
 m1 : ∀ c, cs[1]? = some c -> mg "NoPiece" = some (.ref c)
 m2 : ∀ c, cs[2]? = some c -> mg "NoWidth" = some (.ref c)
 m3 : ∀ c, cs[3]? = some c -> mg "TooWide" = some (.ref c)
 m4 : ∀ c, cs[4]? = some c -> mg "NoRule" = some (.ref c)
 m5 : ∀ c, cs[5]? = some c -> mg "NoTime" = some (.ref c)
 m6 : ∀ c, cs[6]? = some c -> mg "NoKey" = some (.ref c)
 m7 : ∀ c, cs[7]? = some c -> mg "NoText" = some (.ref c)
 m8 : ∀ c, cs[8]? = some c -> mg "NoRow" = some (.ref c)
 m9 : ∀ c, cs[9]? = some c -> mg "NoRoom" = some (.ref c)
 m10 : ∀ c, cs[10]? = some c -> mg "NoRoad" = some (.ref c)
def sp_refusal (P : Program) (w : World) (K : PySem.W.Frag) (mg : Str -> Option Value) (base : Heap) (kA : Nat) (W : Addr) (cs : List Addr) : Sp := fun vs H Q _ => ∃ f o fd E1, vs = [.ref f] /\ H f = some (.frz o HT) /\ o.data = .func fd /\ Asks P w K mg base kA f H (fun _ _ => False) E1 /\
 ∀ C H', E1 (.ref C) none H' -> ∃ wd, Kd K W cs C wd /\ ∀ G, Same H' G -> Q (.str wd) G
theorem Zlt {kA : Nat} {W : Addr} {cs : List Addr} : ∀ f o fd H Q E1, H f = some (.frz o HT) -> o.data = .func fd -> Asks P w K mg base kA f H (fun _ _ => False) E1 -> (∀ C H', E1 (.ref C) none H' -> ∃ wd, Kd K W cs C wd /\ ∀ G, Same H' G -> Q (.str wd) G) -> sp_refusal P w K mg base kA W cs [.ref f] H Q E0 :=
 fun f o fd H Q E1 h1 h2 h3 h4 => ⟨f, o, fd, E1, rfl, h1, h2, h3, h4⟩
abbrev Zc2 : Stmt := top 57
theorem Zbm : Zao ["_law_ask", "_law_refusal_here", "_law_kinds", "_law_words", "_law_found", "e"] ["_law_ask"] (defScope Zc2) := ⟨rfl, rfl, rfl, by decide +kernel, rfl, by decide +kernel, by decide +kernel⟩
theorem Zkb {f W : Addr} {cs : List Addr} {fd : FuncData} (F : Fun K "_law_refusal" "_law_refusal" Zc2 f fd) (B : Bt mg) (B5 : Bt5 mg) (R : Znw K mg W cs) : FnOk P w K mg base CX0 14 f fd ["_law_ask"] (sp_refusal P w K mg base 13 W cs) := by
 refine F.ok Zbm (fun vs H Q E h => ?_) (fun cdv A outer s H vs Q E hr h => ?_)
 ·obtain ⟨f, o, fd, E1, rfl, _⟩ := h; rfl
 ·obtain ⟨f, o, fd, E1, rfl, hf, hd, ask, hq⟩ := h;have gC_WayError := R.way;have W_WayError := R.wc;obtain ⟨CNoLetter, CNoPiece, CNoWidth, CTooWide, CNoRule, CNoTime, CNoKey, CNoText, CNoRow, CNoRoom, CNoRoad, rfl⟩ : ∃ a b c d e f g h i j k, cs = [a, b, c, d, e, f, g, h, i, j, k] := by
   have := R.len
   match cs, this with
   | [a, b, c, d, e, f, g, h, i, j, k], _ => exact ⟨a, b, c, d, e, f, g, h, i, j, k, rfl⟩
  have gC_NoLetter := R.m0 _ rfl;have gC_NoPiece := R.m1 _ rfl;have gC_NoWidth := R.m2 _ rfl;have gC_TooWide := R.m3 _ rfl;have gC_NoRule := R.m4 _ rfl;have gC_NoTime := R.m5 _ rfl;have gC_NoKey := R.m6 _ rfl;have gC_NoText := R.m7 _ rfl;have gC_NoRow := R.m8 _ rfl;have gC_NoRoom := R.m9 _ rfl;have gC_NoRoad := R.m10 _ rfl;refine ⟨_, (@Zae _ _ _ _ _ (@Zay _ _ 1 _ _ _ _ (Zbm).nd rfl (Or.inl rfl) (@Zhr _ _ _) (by rfl) (Or.inl rfl)) (@Zae _ _ _ _ _ (Zlc (k := 13) (i := 0) (j := 5) rfl rfl (hr.mono (by decide)) (Zbm).nd rfl (Or.inl rfl) rfl rfl rfl gC_WayError W_WayError (fun _ => (@Zag _ _ _ (@Zay _ _ 1 _ _ _ _ (Zbm).nd rfl (Or.inl rfl) (pv 5) (by rfl) (Or.inl rfl))))) (@Zae _ _ _ _ _ (@Zay _ _ 2 _ _ _ _ (Zbm).nd rfl (Or.inr rfl) (@Za7 _ _ _ _ (@Zaa _ _ _ _ _ (Zam (Zbl (K := K) rfl) rfl B.isinstance (by rfl) (@Zaa _ _ _ _ _ (pv 1) (@Zaa _ _ _ _ _ (Zcr (v := .ref CNoLetter) rfl gC_NoLetter rfl) Zad Zab) Zab)) (@Zaa _ _ _ _ _ (Zam (Zbl (K := K) rfl) rfl B.isinstance (by rfl) (@Zaa _ _ _ _ _ (pv 1) (@Zaa _ _ _ _ _ (Zcr (v := .ref CNoPiece) rfl gC_NoPiece rfl) Zad Zab) Zab)) (@Zaa _ _ _ _ _ (Zam (Zbl (K := K) rfl) rfl B.isinstance (by rfl) (@Zaa _ _ _ _ _ (pv 1) (@Zaa _ _ _ _ _ (Zcr (v := .ref CNoWidth) rfl gC_NoWidth rfl) Zad Zab) Zab)) Zad Za1) Za1) Za1)) (by rfl) (Or.inl rfl)) (@Zae _ _ _ _ _ (@Zay _ _ 2 _ _ _ _ (Zbm).nd rfl (Or.inr rfl) (@Za2 _ _ _ _ _ _ _ _ Ze3 (pv 2) (@Za7 _ _ _ _ (@Zaa _ _ _ _ _ (Zam (Zbl (K := K) rfl) rfl B.isinstance (by rfl) (@Zaa _ _ _ _ _ (pv 1) (@Zaa _ _ _ _ _ (Zcr (v := .ref CTooWide) rfl gC_TooWide rfl) Zad Zab) Zab)) (@Zaa _ _ _ _ _ (Zam (Zbl (K := K) rfl) rfl B.isinstance (by rfl) (@Zaa _ _ _ _ _ (pv 1) (@Zaa _ _ _ _ _ (Zcr (v := .ref CNoRule) rfl gC_NoRule rfl) Zad Zab) Zab)) (@Zaa _ _ _ _ _ (Zam (Zbl (K := K) rfl) rfl B.isinstance (by rfl) (@Zaa _ _ _ _ _ (pv 1) (@Zaa _ _ _ _ _ (Zcr (v := .ref CNoTime) rfl gC_NoTime rfl) Zad Zab) Zab)) Zad Za1) Za1) Za1))) (by rfl) (Or.inl rfl)) (@Zae _ _ _ _ _ (@Zay _ _ 2 _ _ _ _ (Zbm).nd rfl (Or.inr rfl) (@Za2 _ _ _ _ _ _ _ _ Ze3 (pv 2) (@Za7 _ _ _ _ (@Zaa _ _ _ _ _ (Zam (Zbl (K := K) rfl) rfl B.isinstance (by rfl) (@Zaa _ _ _ _ _ (pv 1) (@Zaa _ _ _ _ _ (Zcr (v := .ref CNoKey) rfl gC_NoKey rfl) Zad Zab) Zab)) (@Zaa _ _ _ _ _ (Zam (Zbl (K := K) rfl) rfl B.isinstance (by rfl) (@Zaa _ _ _ _ _ (pv 1) (@Zaa _ _ _ _ _ (Zcr (v := .ref CNoText) rfl gC_NoText rfl) Zad Zab) Zab)) (@Zaa _ _ _ _ _ (Zam (Zbl (K := K) rfl) rfl B.isinstance (by rfl) (@Zaa _ _ _ _ _ (pv 1) (@Zaa _ _ _ _ _ (Zcr (v := .ref CNoRow) rfl gC_NoRow rfl) Zad Zab) Zab)) Zad Za1) Za1) Za1))) (by rfl) (Or.inl rfl)) (@Zae _ _ _ _ _ (@Zay _ _ 2 _ _ _ _ (Zbm).nd rfl (Or.inr rfl) (@Za2 _ _ _ _ _ _ _ _ Ze3 (pv 2) (@Za7 _ _ _ _ (@Zaa _ _ _ _ _ (Zam (Zbl (K := K) rfl) rfl B.isinstance (by rfl) (@Zaa _ _ _ _ _ (pv 1) (@Zaa _ _ _ _ _ (Zcr (v := .ref CNoRoom) rfl gC_NoRoom rfl) Zad Zab) Zab)) (@Zaa _ _ _ _ _ (Zam (Zbl (K := K) rfl) rfl B.isinstance (by rfl) (@Zaa _ _ _ _ _ (pv 1) (@Zaa _ _ _ _ _ (Zcr (v := .ref CNoRoad) rfl gC_NoRoad rfl) Zad Zab) Zab)) Zad Za1) Za1))) (by rfl) (Or.inl rfl)) (@Zae _ _ _ _ _ (@Zay _ _ 3 _ _ _ _ (Zbm).nd rfl (Or.inr rfl) (@Za7 _ _ _ _ (@Zaa _ _ _ _ _ (@Zbg _ _ _ _) (@Zaa _ _ _ _ _ (@Zbg _ _ _ _) (@Zaa _ _ _ _ _ (@Zbg _ _ _ _) (@Zaa _ _ _ _ _ (@Zbg _ _ _ _) (@Zaa _ _ _ _ _ (@Zbg _ _ _ _) (@Zaa _ _ _ _ _ (@Zbg _ _ _ _) (@Zaa _ _ _ _ _ (@Zbg _ _ _ _) (@Zaa _ _ _ _ _ (@Zbg _ _ _ _) (@Zaa _ _ _ _ _ (@Zbg _ _ _ _) (@Zaa _ _ _ _ _ (@Zbg _ _ _ _) (@Zaa _ _ _ _ _ (@Zbg _ _ _ _) Zad Zac) Zac) Zac) Zac) Zac) Zac) Zac) Zac) Zac) Zac) Zac)) (by rfl) (Or.inl rfl)) (@Zae _ _ _ _ _ (Zgg (i := 4) (N' := ["_law_k", "_law_words", "_law_kinds"]) (caps := [none, some 3, some 2]) (Zjb (sc := defScope Zc2) (N := ["_law_ask", "_law_refusal_here", "_law_kinds", "_law_words", "_law_found", "e"]) rfl rfl (by decide +kernel)) rfl (Zbm).nd rfl (Or.inl rfl) (Zdx rfl B.range (@Zaa _ _ _ _ _ (@Zaf _ _ _ _) Zad Zac)) (fun _ _ _ _ _ => (Zce (i := 0) (Zi3 (N := ["_law_k", "_law_words", "_law_kinds"]) rfl (by decide +kernel)) rfl (Or.inl rfl))) (fun _ _ _ _ _ => (Zle (Zb2 (@Zcf _ _ _ _ _ _ _ (Za0 (K := K) rfl) (pv 2) (pv 0) (fun _ _ => rfl))))) (fun _ _ _ _ _ => (@Zcf _ _ _ _ _ _ _ (Za0 (K := K) rfl) (pv 1) (pv 0) (fun _ _ => rfl))) rfl) (@Zae _ _ _ _ _ (Zc5 (PW.pt (Zgx (Zbt Zhu (Zam (Za9 (K := K) rfl) rfl B.len (by rfl) (@Zaa _ _ _ _ _ (pv 4) Zad Zab)) (@Zaf _ _ _ _) (Zbe _)) (Zfl (Zcd (Zb2 (Zam (Zbl (K := K) rfl) rfl B.isinstance (by rfl) (@Zaa _ _ _ _ _ (pv 1) (@Zaa _ _ _ _ _ (Zec (v := .ty "ValueError") rfl B5.ValueError (by rfl) rfl) Zad Zab) Zab))))))) (@Zag _ _ _ (@Zar _ _ _ _ (@Zbg _ _ _ _))) Zbb) (@Zag _ _ _ (@Zar _ _ _ _ (@Zcf _ _ _ _ _ _ _ (Za0 (K := K) rfl) (pv 4) (@Zaf _ _ _ _) (fun _ _ => rfl))))))))))))), ?_⟩;refine Zap fun N hN => ?_
  walk_at "rd";refine hN _ _ ?_;clear hN N;refine Zap fun N hN => ?_
  walk_at "rd";refine ⟨o, HT, hf, fd, hd, E1, ask.mono (fun _ _ z => z.elim) (fun _ _ z => z), fun C H' hE => ?_⟩;obtain ⟨wd, ⟨i, kd, hw⟩, hQ⟩ := hq C H' hE;refine ⟨kd.w, fun e G he sG hGe => hN _ _ ?_⟩;clear hN N;have ty : ∀ G', Same G G' -> XTy K G' (.ref e) (.ref C) := fun G' s' => .exc (s' _ _ hGe) kd.e
  have ty0 := ty G (Same.refl G);have k0 := kd.k 0 _ rfl;have k1 := kd.k 1 _ rfl;have k2 := kd.k 2 _ rfl;have k3 := kd.k 3 _ rfl;have k4 := kd.k 4 _ rfl;have k5 := kd.k 5 _ rfl;have k6 := kd.k 6 _ rfl;have k7 := kd.k 7 _ rfl;have k8 := kd.k 8 _ rfl;have k9 := kd.k 9 _ rfl;have k10 := kd.k 10 _ rfl;refine Zap fun N hN => ?_
  walk_at "rd";refine ⟨_, ty0, rfl, _, k0, _, ty0, rfl, _, k1, _, ty0, rfl, _, k2, Zaj (by simp), fun p1 G1 hp1 s1 g1 => hN _ _ ?_⟩;clear hN N;have ty1 := ty G1 s1;refine Zap fun N hN => ?_
  walk_at "rd";refine ⟨_, ty1, rfl, _, k3, _, ty1, rfl, _, k4, _, ty1, rfl, _, k5, Zaj (by simp), fun p2 G2 hp2 s2 g2 => ?_⟩;refine ⟨_, s2 _ _ g1, _, g2, Zaj (by simp), fun p3 G3 hp3 s3 g3 => hN _ _ ?_⟩;clear hN N;have ty3 := ty G3 ((s1.trans s2).trans s3);refine Zap fun N hN => ?_
  walk_at "rd";refine ⟨_, ty3, rfl, _, k6, _, ty3, rfl, _, k7, _, ty3, rfl, _, k8, Zaj (by simp), fun p4 G4 hp4 s4 g4 => ?_⟩;refine ⟨_, s4 _ _ g3, _, g4, Zaj (by simp), fun p5 G5 hp5 s5 g5 => hN _ _ ?_⟩;clear hN N;have ty5 := ty G5 ((((s1.trans s2).trans s3).trans s4).trans s5);refine Zap fun N hN => ?_
  walk_at "rd";refine ⟨_, ty5, rfl, _, k9, _, ty5, rfl, _, k10, Zaj (by simp), fun p6 G6 hp6 s6 g6 => ?_⟩;refine ⟨_, s6 _ _ g5, _, g6, Zaj (by simp), fun p7 G7 hp7 s7 g7 => hN _ _ ?_⟩;clear hN N;have sG7 := (((((s1.trans s2).trans s3).trans s4).trans s5).trans s6).trans s7;refine Zap fun N hN => ?_
  walk_at "rd";refine ⟨Zaj (by simp), fun p8 G8 hp8 s8 g8 => hN _ _ ?_⟩;clear hN N;have g7' := s8 _ _ g7;have sG8 := sG7.trans s8;refine Zap fun N hN => ?_
  walk_at "rd";have g7k : G8 p7 = some (.lst ((List.range 11).map fun j => V.bl (decide (j = i)))) := g7';have g8k : G8 p8 = some (.lst (refWords.map V.str)) := g8;have hi : i < 11 := (List.getElem?_eq_some_iff.mp hw).1;refine ⟨by decide, by decide, ?_⟩;obtain ⟨Pv, ePv⟩ : ∃ Pv : Nat -> List V -> L2.St -> Hp -> Prop, Pv = fun n ys σ' H1 => H1 = G8 /\ ys = (if i < n then [V.str wd] else []) /\ ∃ v, σ' = [v, some (.ref p8), some (.ref p7)] := ⟨_, rfl⟩
  refine Zfw Pv (by rw [ePv]; exact ⟨rfl, by simp, _, rfl⟩) ?_ (Zaj (by decide)) ?_ ?_ <;> rw [ePv]
  ·rintro n ys σ' H1 ⟨_, rfl, _⟩ _
   by_cases h : i < n
   ·rw [if_pos h]; simp; omega
   ·rw [if_neg h]; simp
  ·rintro n ys σ' H1 hn ⟨rfl, rfl, v, rfl⟩;rw [<- ePv];walk_at "rd";have e0 : (0 : Int) + (n : Int) = (n : Int) := by omega
   have hn' : n < 11 := hn;refine ⟨_, SqL.of g7k, V.bl (decide (n = i)), by rw [e0]; exact Zat (by rw [List.getElem?_map, List.getElem?_range hn']; rfl), _, rfl, ?_⟩
   by_cases h : n = i
   ·subst h;rw [decide_eq_true rfl, if_pos rfl];refine ⟨_, SqL.of g8k, V.str wd, by rw [e0]; exact Zat (by rw [List.getElem?_map, hw]; rfl), ?_⟩;rw [ePv];exact ⟨rfl, by rw [if_neg (Nat.lt_irrefl _), if_pos (Nat.lt_succ_self _)]; rfl, _, rfl⟩
   ·rw [decide_eq_false h, if_neg (by decide), ePv];refine ⟨rfl, ?_, _, rfl⟩
    by_cases h2 : i < n
    ·rw [if_pos h2, if_pos (Nat.lt_succ_of_lt h2)]
    ·rw [if_neg h2, if_neg (by omega)]
  ·rintro ys σ' H1 ⟨rfl, rfl, _⟩ p9 G9 hp9 s9 g9;refine hN _ _ ?_;rw [if_pos (show i < Int.toNat 11 from hi)] at g9;refine Zap fun N hN => ?_
   walk_at "rd";have ty9 := ty G9 (sG8.trans s9);refine ⟨_, .inl (SqL.of g9), rfl, ?_⟩;rw [if_neg (by simp)];refine ⟨_, ty9, rfl, _, kd.v, ?_⟩;rw [if_neg (by decide)];refine hN _ _ ?_;clear hN N;walk_at "rd";refine ⟨_, SqL.of g9, V.str wd, Zat (j := 0) rfl, hQ _ (sG.trans (sG8.trans s9))⟩
end
section
variable {P : Program} {w : World} {K : PySem.W.Frag} {mg : Str -> Option Value} {base : Heap}
end
section
variable {P : Program} {w : World} {K : PySem.W.Frag} {mg : Str -> Option Value} {base : Heap}
abbrev lamQ_none_so : Str := (("_law_none_so" : Str) ++ (".<locals>." : Str)) ++ ("<lambda>" : Str)
abbrev lamQ_too_wide : Str := (("_law_too_wide" : Str) ++ (".<locals>." : Str)) ++ ("<lambda>" : Str)
abbrev Zsf : Str := (("law" : Str) ++ (".<locals>." : Str)) ++ ("<lambda>" : Str)
def Kt (H G : Hp) : Prop := ∀ b o, H b = some o -> (∀ ps, o ≠ .tbl ps) -> G b = some o
theorem Kt.refl {H : Hp} : Kt H H := fun _ _ e _ => e
theorem Kt.trans {H G J : Hp} (x : Kt H G) (y : Kt G J) : Kt H J := fun b o e k => y b o (x b o e k) k
theorem Kt.lst {p : Addr} {H G : Hp} {xs : List V} (k : Kt H G) (h : H p = some (.lst xs)) : G p = some (.lst xs) := k _ _ h fun _ z => by cases z
theorem ktS {H G : Hp} (s : Same H G) : Kt H G := fun b o e _ => s b o e
theorem ktT {T : Addr} {q : Str} {H G : Hp} (t : Tab H T q) (b : But T H G) : Kt H G := fun p o e k => b _ _ e fun z => by obtain ⟨ps, h, _⟩ := t; subst z; rw [h] at e; cases e; exact k ps rfl
theorem Kt.app {l : Addr} {H G J : Hp} (k : Kt H G) (hl : H l = none) (b : But l G J) : Kt H J := fun p o e n => b p o (k p o e n) fun z => by subst z; rw [hl] at e; cases e
theorem Kt.ty {H G : Hp} {x : V} {t : String} (k : Kt H G) (h : tyF H x = some t) : tyF G x = some t := by
 cases x with
 | ref p =>
  have h : (H p).bind tyO = some t := h;show (G p).bind tyO = some t;cases e : H p with
  | none => rw [e] at h; cases h
  | some o =>
   rw [e] at h;have h : tyO o = some t := h;rw [k p o e (fun ps z => by subst z; cases h)]; exact h
 | _ => exact h
theorem Kt.at {H G : Hp} {x : V} {t : String} {p : Addr} (k : Kt H G) (ty : tyF H x = some t) (ex : x = .ref p) : G p = H p := by
 subst ex;have h : (H p).bind tyO = some t := ty;cases e : H p with
 | none => rw [e] at h; cases h
 | some o =>
  rw [e] at h;have h : tyO o = some t := h;exact k p o e (fun ps z => by subst z; cases h)
theorem Kt.plains {H G : Hp} {x : V} {t : String} (k : Kt H G) (ty : tyF H x = some t) (h : Plains H x) : Plains G x := by
 intro p xs ex ea;rw [k.at ty ex] at ea;obtain ⟨h1, h2⟩ := h p xs ex ea;exact ⟨h1, fun y hy => (h2 y hy).imp fun n z => k.ty z⟩
theorem Kt.ws {H G : Hp} {x : V} {t : String} (k : Kt H G) (ty : tyF H x = some t) : isWs G x = isWs H x := by
 cases x with
 | ref p =>
  show (match G p with | some (.lst xs) => _ | _ => false) = (match H p with | some (.lst xs) => _ | _ => false);rw [k.at ty rfl]
 | _ => rfl
theorem Kt.letO {C p b : Addr} {H G : Hp} {d : LD} (k : Kt H G) (h : LetO C H p b d) : LetO C G p b d := ⟨h.ok, h.ats.same (fun o e => k p o e (fun ps z => by
 subst z; obtain ⟨dx, fs, e', _⟩ := h.ats.ex; rw [e] at e'; cases e')), k.lst h.bd⟩
theorem Kt.pieO {C p b : Addr} {H G : Hp} {d : PD} (k : Kt H G) (h : PieO C H p b d) : PieO C G p b d := ⟨h.ok, h.ats.same (fun o e => k p o e (fun ps z => by
 subst z; obtain ⟨dx, fs, e', _⟩ := h.ats.ex; rw [e] at e'; cases e')), k.lst h.bd⟩
def Kx (a T : Addr) (H G : Hp) : Prop := ∀ b o, H b = some o -> b ≠ a -> b ≠ T -> G b = some o
theorem Zng {a l : Addr} {H G : Hp} (st : StOk H a) (n : a ≠ l) (b : But l H G) : StOk G a := by
 rcases st with ⟨m, e⟩ | ⟨m, m2, c, e⟩
 ·exact .inl ⟨m, b _ _ e n⟩
 ·exact .inr ⟨m, m2, c, b _ _ e n⟩
theorem Znf {a T : Addr} {q : Str} {H : Hp} (st : StOk H a) (t : Tab H T q) : a ≠ T := fun z => by
 obtain ⟨ps, h, _⟩ := t; obtain ⟨xs, e⟩ := st.lst; subst z; rw [h] at e; cases e
structure S14 (a T : Addr) (q : Str) (H H3 Z : Hp) : Prop where
 kt : Kt H3 Z
 kx : Kx a T H Z
 st : StOk Z a
 tb : Tab Z T q
section
variable {a T l : Addr} {q : Str} {H H3 G J : Hp} {xs : List V}
theorem S14.tab (m : S14 a T q H H3 G) (bT : But T G J) (tJ : Tab J T q) : S14 a T q H H3 J := ⟨m.kt.trans (ktT m.tb bT), fun b o e n1 n2 => bT b o (m.kx b o e n1 n2) n2, Zng m.st (Znf m.st m.tb) bT, tJ⟩
theorem S14.same (m : S14 a T q H H3 G) (s : Same G J) : S14 a T q H H3 J := ⟨m.kt.trans (ktS s), fun b o e n1 n2 => s b o (m.kx b o e n1 n2), m.st.same s, m.tb.same s⟩
theorem S14.app (m : S14 a T q H H3 G) (h3 : H3 l = none) (h : H l = none) (n : l ≠ a) (hl : G l = some (.lst xs)) (bA : But l G J) : S14 a T q H H3 J :=
 ⟨m.kt.app h3 bA, fun b o e n1 n2 => bA b o (m.kx b o e n1 n2) (fun z => by subst z; rw [h] at e; cases e), Zng m.st (Ne.symm n) bA, m.tb.but bA hl⟩
theorem Zb5 (tb : Tab H T q) (b : But T H G) (hb : H l = some (.lst xs)) : G l = some (.lst xs) := b _ _ hb fun z => by obtain ⟨ps, h, _⟩ := tb; subst z; rw [h] at hb; cases hb
end
section
variable {X : Cx} {lq tq : Str} {pa : Arguments} {bo : Expr} {sc : Scope} {H G J : Hp} {f T l : Addr} {xs : List V}
theorem Zbj (v : LamV X lq pa bo sc H f) (s : Same H G) : LamV X lq pa bo sc G f := v.of fun b oc e => s _ _ e
theorem Zds (v : LamV X lq pa bo sc G f) (hl : G l = some (.lst xs)) (bA : But l G J) : LamV X lq pa bo sc J f := v.of fun b oc e => bA _ _ e fun z => by subst z; rw [hl] at e; cases e
theorem Zct (v : LamV X lq pa bo sc H f) (tb : Tab H T tq) (bT : But T H G) (hl : G l = some (.lst xs)) (bA : But l G J) : LamV X lq pa bo sc J f :=
 Zds (v.of fun b oc e => bT _ _ e fun z => by obtain ⟨ps, h, _⟩ := tb; subst z; rw [h] at e; cases e) hl bA
end
def Zeu (T CL CP : Addr) : Sp := fun vs H Q _ => ∃ (p b q bq a l : Addr) (d : LD) (d2 : PD) (ws : List Nat), vs = [.ref p, .ref q, .ref a, .ref l] /\ LetO CL H p b d /\ PieO CP H q bq d2 /\ StOk H a /\ H l = some (.lst (wsV ws)) /\ l ≠ a /\ b ≠ a /\ bq ≠ a /\ 1 <= ws.length /\ ws.length <= 4 /\ Tab H T lamQ_none_so /\
 ∀ H', Kx a T H H' -> StOk H' a -> Tab H' T lamQ_none_so -> Q (.bl true) H'
abbrev Zaz : Stmt := top 60
theorem Zdc : Zao ["_law_letter", "_law_piece", "_law_state", "_law_widths", "_law_width", "_law_odd", "_law_length", "_law_some"] ["_law_letter", "_law_piece", "_law_state", "_law_widths"] (defScope Zaz) := ⟨rfl, rfl, rfl, by decide +kernel, rfl, by decide +kernel, by decide +kernel⟩
theorem Zkd {f c T CL CP CW NW TW NL : Addr} {cs : List Addr} {fd : FuncData} (F : FunAt K "_law_none_so" "_law_none_so" Zaz f fd (.ref c)) (LC : LamCx mg base c T) (KN : Kd K CW cs NW "width") (F_digit : FnB P w K mg base "_law_digit" 1 ["_law_state", "_law_base"] [] Zcu) (F_odd_width : FnB P w K mg base "_law_odd_width" 2 ["_law_state"] [] Zc7) (F_odd_widths : FnB P w K mg base "_law_odd_widths" 3 ["_law_state", "_law_widths"] [] Zdj)
  (F_refusal : FnB P w K mg base "_law_refusal" 14 ["_law_ask"] [] (sp_refusal P w K mg base 13 CW cs)) (F_cut : FnX P w K mg base "cut" 10 ["letter", "width"] [] (Zgb CL CP NW TW)) (F_cut_again : FnX P w K mg base "cut_again" 9 ["piece", "width"] [] (Zb6 CP NW TW)) (F_sent : FnX P w K mg base "sent" 12 ["letter", "widths"] [] (Zfi CL CP NW TW))
  (F_best : FnX P w K mg base "best" 11 ["letter", "widths"] [] (Zgq CL CP NW TW)) (F_least : FnX P w K mg base "least" 6 ["length", "widths"] [] (Zeg NW NL)) : FnOk P w K mg base CX0 15 f fd ["_law_letter", "_law_piece", "_law_state", "_law_widths"] (Zeu T CL CP) := by
 have hsp_refusal := Zlt (P := P) (w := w) (K := K) (mg := mg) (base := base) (kA := 13) (W := CW) (cs := cs);refine F.ok Zdc (fun vs H Q E h => ?_) (fun A outer s H vs Q E hr h => ?_)
 ·obtain ⟨p, b, q, bq, a, l, d, d2, ws, rfl, _⟩ := h; rfl
 ·obtain ⟨p, b, q, bq, a, l, d, d2, ws, rfl, hL, hP, st, hl, nla, nba, nqa, w1, w4, tb, qq⟩ := h;refine ⟨_, (Zae (Zay (i := 4) (Zdc).nd rfl (Or.inr rfl) (Zak F_odd_width (hr.mono (by decide)) rfl (Zaa (hs := Zab) (pv 2) Zad))) (Zae (Zay (i := 5) (Zdc).nd rfl (Or.inr rfl) (Zak F_odd_widths (hr.mono (by decide)) rfl (Zaa (hs := Zab) (pv 2) (Zaa (hs := Zab) (pv 3) Zad)))) (Zae (Zay (i := 6) (Zdc).nd rfl (Or.inr rfl) (Zcf (Za0 (K := K) rfl) (Za7 (Zaa (hs := Zac) Zaf (Zaa (hs := Zac) Zaf (Zaa (hs := Zes) (Zoj Zku Zaf) (Zaa (hs := Zac) Zhr (Zaa (hs := Zac) Zc9 (Zaa (hs := Zac) Zbg (Zaa (hs := Zac) Zaf Zad)))))))) (Zak F_digit (hr.mono (by decide)) rfl (Zaa (hs := Zab) (pv 2) (Zaa (hs := Zac) Zaf Zad))) (fun _ _ => rfl))) (Zae (Zay (i := 7) (Zdc).nd rfl (Or.inl rfl) (Za7 (Zaa (hs := Zca) (Zdp (q := lamQ_none_so) LC rfl rfl (Zbv (N' := ["_law_letter", "_law_width"]) (caps := [some 0, some 4]) (sc := defScope Zaz) (N := ["_law_letter", "_law_piece", "_law_state", "_law_widths", "_law_width", "_law_odd", "_law_length", "_law_some"]) rfl rfl (by decide +kernel)).vis rfl) Zad))) (Zae (Zb0 (Zdf (K := K) rfl PySem.F.plainAttrs_list PySem.F.slot_list_append PySem.F.type_list_append Zbo (pv 7) (Zaa (hs := Zca) (Zdp (q := lamQ_none_so) LC rfl rfl (Zbv (N' := ["_law_piece", "_law_width"]) (caps := [some 1, some 4]) (sc := defScope Zaz) (N := ["_law_letter", "_law_piece", "_law_state", "_law_widths", "_law_width", "_law_odd", "_law_length", "_law_some"]) rfl rfl (by decide +kernel)).vis rfl) Zad))) (Zae (Zb0 (Zdf (K := K) rfl PySem.F.plainAttrs_list PySem.F.slot_list_append PySem.F.type_list_append Zbo (pv 7) (Zaa (hs := Zca) (Zdp (q := lamQ_none_so) LC rfl rfl (Zbv (N' := ["_law_letter", "_law_odd"]) (caps := [some 0, some 5]) (sc := defScope Zaz) (N := ["_law_letter", "_law_piece", "_law_state", "_law_widths", "_law_width", "_law_odd", "_law_length", "_law_some"]) rfl rfl (by decide +kernel)).vis rfl) Zad))) (Zae (Zb0 (Zdf (K := K) rfl PySem.F.plainAttrs_list PySem.F.slot_list_append PySem.F.type_list_append Zbo (pv 7) (Zaa (hs := Zca) (Zdp (q := lamQ_none_so) LC rfl rfl (Zbv (N' := ["_law_letter", "_law_odd"]) (caps := [some 0, some 5]) (sc := defScope Zaz) (N := ["_law_letter", "_law_piece", "_law_state", "_law_widths", "_law_width", "_law_odd", "_law_length", "_law_some"]) rfl rfl (by decide +kernel)).vis rfl) Zad))) (Zae (Zb0 (Zdf (K := K) rfl PySem.F.plainAttrs_list PySem.F.slot_list_append PySem.F.type_list_append Zbo (pv 7) (Zaa (hs := Zca) (Zdp (q := lamQ_none_so) LC rfl rfl (Zbv (N' := ["_law_length", "_law_odd"]) (caps := [some 6, some 5]) (sc := defScope Zaz) (N := ["_law_letter", "_law_piece", "_law_state", "_law_widths", "_law_width", "_law_odd", "_law_length", "_law_some"]) rfl rfl (by decide +kernel)).vis rfl) Zad))) (Zag (Zar (Zc6 (Zmy (K := K) (Room.units hr) rfl) (Zmv (N' := ["_law_ask"]) (caps := [none]) (Zjb (sc := defScope Zaz) (N := ["_law_letter", "_law_piece", "_law_state", "_law_widths", "_law_width", "_law_odd", "_law_length", "_law_some"]) rfl rfl (by decide +kernel)) rfl (Zc8 (K := K) rfl (pv 7)) (fun _ _ _ _ _ => (Zce (i := 0) (Zi3 (N := ["_law_ask"]) rfl (by decide +kernel)) rfl (Or.inl rfl))) (fun _ _ _ _ _ _ _ I f2 => (Zle (Zbt Zhu (Zom I f2 F_refusal (hr.mono (by decide)) rfl (fun _ => rfl) (pv 0) hsp_refusal) Zbg (Zbe _)))) (fun _ _ _ _ _ => (pv 0))) (Za7 Zad) (Zbe _)))))))))))), ?_⟩;refine Zap fun N hN => ?_
  walk_at "rd";refine ⟨a, rfl, st, fun x H1 ox bx st1 b1 => hN _ _ ?_⟩;clear hN N;refine Zap fun N hN => ?_
  walk_at "rd";have hl1 := b1 _ _ hl nla;refine ⟨a, l, ws, rfl, st1, hl1, nla, w1, w4, fun y H2 oy st2 b2 => hN _ _ ?_⟩;clear hN N;refine Zap fun N hN => ?_
  walk_at "rd";refine ⟨Zaj (by decide), fun p1 G1 hp1 s1 g1 => ⟨a, 7, rfl, st2.same s1, by decide, by decide, fun d7 H3 l7 u7 st3 b3 => ?_⟩⟩;obtain ⟨z, hz, hzm⟩ := Zmc (xs := [V.int 0, V.int 4001, V.int (-1), V.non, V.bl true, V.str (Str.ofString "5"), V.int 40]) l7 u7;refine ⟨_, d7, rfl, SqL.of (b3 _ _ g1 (st2.ne hp1)), z, hz, hN _ _ ?_⟩;clear hN N;have tyz : ∀ G, ∃ t, tyF G z = some t := fun G => by
   simp only [List.mem_cons, List.not_mem_nil, or_false] at hzm;rcases hzm with rfl | rfl | rfl | rfl | rfl | rfl | rfl <;> exact ⟨_, rfl⟩
  clear hzm hz;have bu2 : But a H1 H2 := b2;have bu3 : But a H2 H3 := fun c o e n => b3 c o (s1 _ _ e) n
  have bu : But a H H3 := fun c o e n => bu3 c o (bu2 c o (b1 c o e n) n) n
  have npa : p ≠ a := fun z => by subst z; obtain ⟨dx, fs, e, _⟩ := hL.ats.ex; obtain ⟨xs, e'⟩ := st.lst; rw [e] at e'; cases e'
  have nqq : q ≠ a := fun z => by subst z; obtain ⟨dx, fs, e, _⟩ := hP.ats.ex; obtain ⟨xs, e'⟩ := st.lst; rw [e] at e'; cases e'
  have hL3 : LetO CL H3 p b d := ⟨hL.ok, hL.ats.same fun o e => bu p o e npa, bu _ _ hL.bd nba⟩;have hP3 : PieO CP H3 q bq d2 := ⟨hP.ok, hP.ats.same fun o e => bu q o e nqq, bu _ _ hP.bd nqa⟩;have tyx : ∃ t, tyF H3 x = some t := ox.ty.imp fun t z => Zfg bu3 st2 st3 (Zfg bu2 st1 st2 z)
  obtain ⟨ty, hty⟩ := oy.ty;have tb3 : Tab H3 T lamQ_none_so := by obtain ⟨xs, e⟩ := st.lst; exact tb.but bu e
  have yne : ∀ r, y = .ref r -> r ≠ a := fun r e => (oy.nw r e).2
  have yat : ∀ r, y = .ref r -> H3 r = H2 r := fun r e => by
   have h : tyF H2 (.ref r) = some ty := e ▸ hty;have h : (H2 r).bind tyO = some ty := h;cases e' : H2 r with
   | none => rw [e'] at h; cases h
   | some o => exact bu3 r o e' (yne r e)
  have tyy : tyF H3 y = some ty := Zfg bu3 st2 st3 hty;have ply : Plains H3 y := fun r xs e1 e2 => by
   rw [yat r e1] at e2;obtain ⟨h1, h2⟩ := oy.pl r xs e1 e2;exact ⟨h1, fun v hv => (h2 v hv).imp fun t z => Zfg bu3 st2 st3 z⟩
  have noy : isWs H3 y = false := by
   rw [<- oy.no];cases y with
   | ref r =>
    show (match H3 r with | some (.lst xs) => _ | _ => false) = (match H2 r with | some (.lst xs) => _ | _ => false);rw [yat r rfl]
   | _ => rfl
  clear b1 b2 b3 bu2 bu3 s1 g1 yat yne hty oy ox;refine Zap fun N hN => ?_
  walk_at "rd";unfold Zf0;refine ⟨tb3, fun f1 G1 _ bG1 tG1 v1 => ⟨Zaj (by decide), fun bl G2 hbl0 sG2 hbl => hN _ _ ?_⟩⟩;clear hN N;have m0 : S14 a T lamQ_none_so H H3 H3 := ⟨Kt.refl, fun b o e n _ => bu b o e n, st3, tb3⟩;have m1 := m0.tab bG1 tG1;have m2 := m1.same sG2;have nbl := m1.st.ne hbl0;have hb3 : H3 bl = none := by
   cases e : H3 bl with
   | none => rfl
   | some o =>
    by_cases z : bl = T
    ·subst z; obtain ⟨ps, h, _⟩ := tG1; rw [hbl0] at h; cases h
    ·rw [bG1 _ _ e z] at hbl0; cases hbl0
  have hbH : H bl = none := by
   cases e : H bl with
   | none => rfl
   | some o => rw [bu _ _ e nbl] at hb3; cases hb3
  have v1 := Zbj v1 sG2;clear bG1 tG1 m0 m1 sG2 tb3 bu;refine Zap fun N hN => ?_
  walk_at "rd";unfold Zf0;refine ⟨.inl ⟨rfl, _, SqL.of hbl⟩, m2.tb, fun f2 G3 _ b3 t3 v2 => ⟨_, Zb5 m2.tb b3 hbl, Zbr (by simp), fun G4 b4 hb4 => hN _ _ ?_⟩⟩;clear hN N;have h3 := Zb5 m2.tb b3 hbl;have v1 := Zct v1 m2.tb b3 h3 b4;have v2 := Zds v2 h3 b4;have m4 := (m2.tab b3 t3).app hb3 hbH nbl h3 b4;clear b3 t3 h3 b4 m2;refine Zap fun N hN => ?_
  walk_at "rd";unfold Zf0;refine ⟨.inl ⟨rfl, _, SqL.of hb4⟩, m4.tb, fun f3 G5 _ b5 t5 v3 => ⟨_, Zb5 m4.tb b5 hb4, Zbr (by simp), fun G6 b6 hb6 => hN _ _ ?_⟩⟩;clear hN N;have h5 := Zb5 m4.tb b5 hb4;have v1 := Zct v1 m4.tb b5 h5 b6;have v2 := Zct v2 m4.tb b5 h5 b6;have v3 := Zds v3 h5 b6;have m6 := (m4.tab b5 t5).app hb3 hbH nbl h5 b6;clear b5 t5 h5 b6 m4;refine Zap fun N hN => ?_
  walk_at "rd";unfold Zf0;refine ⟨.inl ⟨rfl, _, SqL.of hb6⟩, m6.tb, fun f4 G7 _ b7 t7 v4 => ⟨_, Zb5 m6.tb b7 hb6, Zbr (by simp), fun G8 b8 hb8 => hN _ _ ?_⟩⟩;clear hN N;have h7 := Zb5 m6.tb b7 hb6;have v1 := Zct v1 m6.tb b7 h7 b8;have v2 := Zct v2 m6.tb b7 h7 b8;have v3 := Zct v3 m6.tb b7 h7 b8;have v4 := Zds v4 h7 b8;have m8 := (m6.tab b7 t7).app hb3 hbH nbl h7 b8;clear b7 t7 h7 b8 m6;refine Zap fun N hN => ?_
  walk_at "rd";unfold Zf0;refine ⟨.inl ⟨rfl, _, SqL.of hb8⟩, m8.tb, fun f5 G9 _ b9 t9 v5 => ⟨_, Zb5 m8.tb b9 hb8, Zbr (by simp), fun Z bZ hZ => hN _ _ ?_⟩⟩;clear hN N;have h9 := Zb5 m8.tb b9 hb8;have v1 := Zct v1 m8.tb b9 h9 bZ;have v2 := Zct v2 m8.tb b9 h9 bZ;have v3 := Zct v3 m8.tb b9 h9 bZ;have v4 := Zct v4 m8.tb b9 h9 bZ;have v5 := Zds v5 h9 bZ;have mZ := (m8.tab b9 t9).app hb3 hbH nbl h9 bZ;clear b9 t9 h9 bZ m8;have hLZ := mZ.kt.letO hL3;have hPZ := mZ.kt.pieO hP3;have tyx : ∃ t, tyF Z x = some t := tyx.imp fun t z => mZ.kt.ty z
  have noy : isWs Z y = false := by rw [mZ.kt.ws tyy]; exact noy
  have ply : Plains Z y := mZ.kt.plains tyy ply;have tyy : tyF Z y = some ty := mZ.kt.ty tyy;have L1 : ∀ H1, Same Z H1 -> Live _ 13 f1 H1 [some (.ref p), some (.ref q), some (.ref a), some (.ref l), some x, some y, some z, some (.ref bl)] (fun _ _ => False) (fun c _ H' => c = .ref NW /\ Same H1 H') := fun H1 s1 => Zcm (k := 12) (Zbj v1 s1) (Zbv (N' := ["_law_letter", "_law_width"]) (caps := [some 0, some 4]) (sc := defScope Zaz) (N := ["_law_letter", "_law_piece", "_law_state", "_law_widths", "_law_width", "_law_odd", "_law_length", "_law_some"]) rfl rfl (by decide +kernel)) (fun _ _ _ _ => rfl) (fun f c' cl A outer s H E hr => (Zav F_cut (hr.mono (by decide)) rfl (Zbu Za5 (fun _ _ h => h)) (Zaa (hs := Zab) (pv 0) (Zaa (hs := Zab) (pv 1) Zad)))) (by
   walk_at "rd";exact ⟨p, b, d, x, rfl, hLZ.mono s1, tyx.imp fun t z => Zbx s1 z, (fun _ G sG => ⟨rfl, sG⟩), fun w' e w8 w5 => by rw [e] at bx; have : wIn (.int (w' : Int)) 8 5000 = true := (by simp [wIn]; omega); rw [this] at bx; cases bx⟩)
  have L2 : ∀ H1, Same Z H1 -> Live _ 13 f2 H1 [some (.ref p), some (.ref q), some (.ref a), some (.ref l), some x, some y, some z, some (.ref bl)] (fun _ _ => False) (fun c _ H' => c = .ref NW /\ Same H1 H') := fun H1 s1 => Zcm (k := 12) (Zbj v2 s1) (Zbv (N' := ["_law_piece", "_law_width"]) (caps := [some 1, some 4]) (sc := defScope Zaz) (N := ["_law_letter", "_law_piece", "_law_state", "_law_widths", "_law_width", "_law_odd", "_law_length", "_law_some"]) rfl rfl (by decide +kernel)) (fun _ _ _ _ => rfl) (fun f c' cl A outer s H E hr => (Zav F_cut_again (hr.mono (by decide)) rfl (Zbu Za5 (fun _ _ h => h)) (Zaa (hs := Zab) (pv 0) (Zaa (hs := Zab) (pv 1) Zad)))) (by
   walk_at "rd";exact ⟨q, bq, d2, x, rfl, hPZ.mono s1, tyx.imp fun t z => Zbx s1 z, (fun _ => ⟨rfl, Same.refl _⟩), fun w' e w8 w5 => by rw [e] at bx; have : wIn (.int (w' : Int)) 8 5000 = true := (by simp [wIn]; omega); rw [this] at bx; cases bx⟩)
  have L3 : ∀ H1, Same Z H1 -> Live _ 13 f3 H1 [some (.ref p), some (.ref q), some (.ref a), some (.ref l), some x, some y, some z, some (.ref bl)] (fun _ _ => False) (fun c _ H' => c = .ref NW /\ Same H1 H') := fun H1 s1 => Zcm (k := 12) (Zbj v3 s1) (Zbv (N' := ["_law_letter", "_law_odd"]) (caps := [some 0, some 5]) (sc := defScope Zaz) (N := ["_law_letter", "_law_piece", "_law_state", "_law_widths", "_law_width", "_law_odd", "_law_length", "_law_some"]) rfl rfl (by decide +kernel)) (fun _ _ _ _ => rfl) (fun f c' cl A outer s H E hr => (Zav F_sent (hr.mono (by decide)) rfl (Zbu Za5 (fun _ _ h => h)) (Zaa (hs := Zab) (pv 0) (Zaa (hs := Zab) (pv 1) Zad)))) (by
   walk_at "rd";exact ⟨p, b, d, y, rfl, hLZ.mono s1, ⟨ty, Zbx s1 tyy⟩, (ktS s1).plains tyy ply, (fun _ G sG => ⟨rfl, sG⟩), fun lw ws e h1 h2 h3 h4 => by rw [<- (ktS s1).ws tyy, e, Zda h1 h2 h3 h4] at noy; cases noy⟩)
  have L4 : ∀ H1, Same Z H1 -> Live _ 13 f4 H1 [some (.ref p), some (.ref q), some (.ref a), some (.ref l), some x, some y, some z, some (.ref bl)] (fun _ _ => False) (fun c _ H' => c = .ref NW /\ Same H1 H') := fun H1 s1 => Zcm (k := 12) (Zbj v4 s1) (Zbv (N' := ["_law_letter", "_law_odd"]) (caps := [some 0, some 5]) (sc := defScope Zaz) (N := ["_law_letter", "_law_piece", "_law_state", "_law_widths", "_law_width", "_law_odd", "_law_length", "_law_some"]) rfl rfl (by decide +kernel)) (fun _ _ _ _ => rfl) (fun f c' cl A outer s H E hr => (Zav F_best (hr.mono (by decide)) rfl (Zbu Za5 (fun _ _ h => h)) (Zaa (hs := Zab) (pv 0) (Zaa (hs := Zab) (pv 1) Zad)))) (by
   walk_at "rd";exact ⟨p, b, d, y, rfl, hLZ.mono s1, ⟨ty, Zbx s1 tyy⟩, (ktS s1).plains tyy ply, (fun _ G sG => ⟨rfl, sG⟩), fun lw ws m e h1 h2 h3 h4 _ => by rw [<- (ktS s1).ws tyy, e, Zda h1 h2 h3 h4] at noy; cases noy⟩)
  have L5 : ∀ H1, Same Z H1 -> Live _ 13 f5 H1 [some (.ref p), some (.ref q), some (.ref a), some (.ref l), some x, some y, some z, some (.ref bl)] (fun _ _ => False) (fun c _ H' => c = .ref NW /\ Same H1 H') := fun H1 s1 => Zcm (k := 12) (Zbj v5 s1) (Zbv (N' := ["_law_length", "_law_odd"]) (caps := [some 6, some 5]) (sc := defScope Zaz) (N := ["_law_letter", "_law_piece", "_law_state", "_law_widths", "_law_width", "_law_odd", "_law_length", "_law_some"]) rfl rfl (by decide +kernel)) (fun _ _ _ _ => rfl) (fun f c' cl A outer s H E hr => (Zav F_least (hr.mono (by decide)) rfl (Zbu Za5 (fun _ _ h => h)) (Zaa (hs := Zab) (pv 0) (Zaa (hs := Zab) (pv 1) Zad)))) (by
   walk_at "rd";exact ⟨z, y, rfl, tyz H1, ⟨ty, Zbx s1 tyy⟩, (ktS s1).plains tyy ply, (fun _ G sG => ⟨rfl, sG⟩), (fun h => by rw [(ktS s1).ws tyy, noy] at h; cases h), fun L lw ws m _ e _ _ h1 h2 h3 h4 _ => by rw [<- (ktS s1).ws tyy, e, Zda h1 h2 h3 h4] at noy; cases noy⟩)
  walk_at "rd";unfold Zne;walk_at "rd";refine ⟨⟨_, SqL.of hZ⟩, Zgn (fun i ys σ' H' => ys = [] /\ (∃ v, σ' = [v]) /\ Same Z H') ⟨rfl, ⟨_, rfl⟩, Same.refl _⟩ (fun i ys σ' H' h hi => ⟨SqL.of (h.2.2 _ _ hZ), by rw [h.1]; simp⟩) (Zaj (by simp)) ?_ ?_⟩
  ·rintro i x' ys σ' H' hx ⟨rfl, ⟨v, rfl⟩, sH⟩;have hmem := List.mem_of_getElem? hx;simp only [Zfu, List.set_cons_zero];unfold Zhj;walk_at "rd";have fin : ∀ (C : Addr) (H2 : Hp), (Value.ref C = .ref NW /\ Same H' H2) -> ∃ wd, Kd K CW cs C wd /\ ∀ G, Same H2 G -> scal (.str wd) (.str (Str.ofString "width")) = true /\ if (!decide (wd = Str.ofString "width")) = true then False else Same Z G := fun C H2 hE => by
    obtain ⟨eC, s2⟩ := hE;cases eC;exact ⟨_, KN, fun G s3 => ⟨rfl, by rw [if_neg (by simp)]; exact (sH.trans s2).trans s3⟩⟩
   simp only [List.mem_append, List.mem_cons, List.not_mem_nil, or_false] at hmem;rcases hmem with (((rfl | rfl) | rfl) | rfl) | rfl
   ·exact ⟨_, rfl, _, L1 _ sH, fin⟩
   ·exact ⟨_, rfl, _, L2 _ sH, fin⟩
   ·exact ⟨_, rfl, _, L3 _ sH, fin⟩
   ·exact ⟨_, rfl, _, L4 _ sH, fin⟩
   ·exact ⟨_, rfl, _, L5 _ sH, fin⟩
  ·rintro ys σ' H' ⟨rfl, _, sH⟩ p' G hp s1 g1;refine ⟨Nat.zero_le _, fun p2 G2 hp2 s2 g2 => ⟨p', rfl, _, SqL.of (s2 _ _ g1), SqL.of g2, ?_⟩⟩;have m := mZ.same ((sH.trans s1).trans s2);exact qq G2 m.kx m.st m.tb
end
section
variable {P : Program} {w : World} {K : PySem.W.Frag} {mg : Str -> Option Value} {base : Heap}
def Kq (T : Addr) (H G : Hp) : Prop := ∀ b o, H b = some o -> b ≠ T -> G b = some o
structure S15 (T : Addr) (q : Str) (H Z : Hp) : Prop where
 kt : Kt H Z
 kq : Kq T H Z
 tb : Tab Z T q
section
variable {T l : Addr} {q : Str} {H G J : Hp} {xs : List V}
theorem S15.tab (m : S15 T q H G) (bT : But T G J) (tJ : Tab J T q) : S15 T q H J := ⟨m.kt.trans (ktT m.tb bT), fun b o e n => bT b o (m.kq b o e n) n, tJ⟩
theorem S15.same (m : S15 T q H G) (s : Same G J) : S15 T q H J := ⟨m.kt.trans (ktS s), fun b o e n => s b o (m.kq b o e n), m.tb.same s⟩
theorem S15.app (m : S15 T q H G) (h : H l = none) (hl : G l = some (.lst xs)) (bA : But l G J) : S15 T q H J :=
 ⟨m.kt.app h bA, fun b o e n => bA b o (m.kq b o e n) (fun z => by subst z; rw [h] at e; cases e), m.tb.but bA hl⟩
theorem S15.new (m : S15 T q H G) (h : G l = none) : H l = none := by
 cases e : H l with
 | none => rfl
 | some o =>
  by_cases z : l = T
  ·subst z; obtain ⟨ps, h', _⟩ := m.tb; rw [h] at h'; cases h'
  ·rw [m.kq _ _ e z] at h; cases h
end
theorem Zeq : ∀ {a b : List Nat}, wsV a = wsV b -> a = b
 | [], [], _ => rfl
 | [], _ :: _, h => by cases h
 | _ :: _, [], h => by cases h
 | x :: a, y :: b, h => by
  have h1 : V.int (x : Int) :: wsV a = V.int (y : Int) :: wsV b := h;injection h1 with h2 h3;have h4 : (x : Int) = (y : Int) := V.int.inj h2;rw [Zeq h3, show x = y by omega]
theorem Zgj {e : PD} : ∀ {ws : List Nat}, (∀ w ∈ ws, e.ns.length <= w) -> Ze2 ws [e] = [e]
 | [], _ => rfl
 | w :: ws, h => by
  have h1 := h w List.mem_cons_self;rw [Ze1, Zdg, Zb9 (by omega), PD.part_all];exact Zgj fun x hx => h x (List.mem_cons_of_mem _ hx)
theorem Zen {X : Cx} {k : Nat} {f : Addr} {H : Hp} {σ : L2.St} {Q Q' : VK} {E : XK} (h : Live X k f H σ Q E) (hQ : ∀ v H', Q v H' -> Q' v H') : Live X k f H σ Q' E := by
 obtain ⟨o, fd, cl, h1, h2, h3, h4⟩ := h;exact ⟨o, fd, cl, h1, h2, h3, fun pins s1 I => (h4 pins s1 I).mono (fun v H' ⟨H2, e, n, z⟩ => ⟨H2, e, n, hQ v H2 z⟩) (fun C H' z => z)⟩
def Zd5 (T CL CP : Addr) : Sp := fun vs H Q _ => ∃ (p b q bq l : Addr) (d : LD) (d2 : PD) (ws : List Nat), vs = [.ref p, .ref q, .ref l] /\ LetO CL H p b d /\ PieO CP H q bq d2 /\ d.k = true /\ d2.k = true /\ H l = some (.lst (wsV ws)) /\ 1 <= ws.length /\ ws.length <= 4 /\ WOk ws /\ Tab H T lamQ_too_wide /\
 ∀ H', Kq T H H' -> Tab H' T lamQ_too_wide -> Q (.bl true) H'
abbrev Zas : Stmt := top 61
theorem Zc1 : Zao ["_law_letter", "_law_piece", "_law_widths", "_law_width", "_law_some", "_law_due", "_law_k"] ["_law_letter", "_law_piece", "_law_widths"] (defScope Zas) := ⟨rfl, rfl, rfl, by decide +kernel, rfl, by decide +kernel, by decide +kernel⟩
theorem Ziw {f c T CL CP CW NW TW : Addr} {cs : List Addr} {fd : FuncData} (F : FunAt K "_law_too_wide" "_law_too_wide" Zas f fd (.ref c)) (B : Bt mg) (LL : Zmf K CL) (LP : Zkr K CP) (LC : LamCx mg base c T) (KN : Kd K CW cs TW "wide")
  (F_refusal : FnB P w K mg base "_law_refusal" 14 ["_law_ask"] [] (sp_refusal P w K mg base 13 CW cs)) (F_cut : FnX P w K mg base "cut" 10 ["letter", "width"] [] (Zgb CL CP NW TW)) (F_cut_again : FnX P w K mg base "cut_again" 9 ["piece", "width"] [] (Zb6 CP NW TW)) (F_sent : FnX P w K mg base "sent" 12 ["letter", "widths"] [] (Zfi CL CP NW TW))
  (F_best : FnX P w K mg base "best" 11 ["letter", "widths"] [] (Zgq CL CP NW TW)) : FnOk P w K mg base CX0 15 f fd ["_law_letter", "_law_piece", "_law_widths"] (Zd5 T CL CP) := by
 have hsp_refusal := Zlt (P := P) (w := w) (K := K) (mg := mg) (base := base) (kA := 13) (W := CW) (cs := cs);refine F.ok Zc1 (fun vs H Q E h => ?_) (fun A outer s H vs Q E hr h => ?_)
 ·obtain ⟨p, b, q, bq, l, d, d2, ws, rfl, _⟩ := h; rfl
 ·obtain ⟨p, b, q, bq, l, d, d2, ws, rfl, hL, hP, dk, dk2, hl, w1, w4, wok, tb, qq⟩ := h;refine ⟨_, (Zae (Zay (i := 3) (Zc1).nd rfl (Or.inr rfl) (Zcf (Za0 (K := K) rfl) (pv 2) Zaf (fun _ _ => rfl))) (Zae (Zay (i := 4) (Zc1).nd rfl (Or.inl rfl) (Za7 (Zaa (hs := Zca) (Zdp (q := lamQ_too_wide) LC rfl rfl (Zbv (N' := ["_law_letter", "_law_width"]) (caps := [some 0, some 3]) (sc := defScope Zas) (N := ["_law_letter", "_law_piece", "_law_widths", "_law_width", "_law_some", "_law_due", "_law_k"]) rfl rfl (by decide +kernel)).vis rfl) Zad))) (Zae (Zb0 (Zdf (K := K) rfl PySem.F.plainAttrs_list PySem.F.slot_list_append PySem.F.type_list_append Zbo (pv 4) (Zaa (hs := Zca) (Zdp (q := lamQ_too_wide) LC rfl rfl (Zbv (N' := ["_law_piece", "_law_width"]) (caps := [some 1, some 3]) (sc := defScope Zas) (N := ["_law_letter", "_law_piece", "_law_widths", "_law_width", "_law_some", "_law_due", "_law_k"]) rfl rfl (by decide +kernel)).vis rfl) Zad))) (Zae (Zb0 (Zdf (K := K) rfl PySem.F.plainAttrs_list PySem.F.slot_list_append PySem.F.type_list_append Zbo (pv 4) (Zaa (hs := Zca) (Zdp (q := lamQ_too_wide) LC rfl rfl (Zbv (N' := ["_law_letter", "_law_widths"]) (caps := [some 0, some 2]) (sc := defScope Zas) (N := ["_law_letter", "_law_piece", "_law_widths", "_law_width", "_law_some", "_law_due", "_law_k"]) rfl rfl (by decide +kernel)).vis rfl) Zad))) (Zae (Zb0 (Zdf (K := K) rfl PySem.F.plainAttrs_list PySem.F.slot_list_append PySem.F.type_list_append Zbo (pv 4) (Zaa (hs := Zca) (Zdp (q := lamQ_too_wide) LC rfl rfl (Zbv (N' := ["_law_letter", "_law_widths"]) (caps := [some 0, some 2]) (sc := defScope Zas) (N := ["_law_letter", "_law_piece", "_law_widths", "_law_width", "_law_some", "_law_due", "_law_k"]) rfl rfl (by decide +kernel)).vis rfl) Zad))) (Zae (Zay (i := 5) (Zc1).nd rfl (Or.inl rfl) (Za7 (Zaa (hs := Zdy) (Zc6 Ziv (Zam (Za9 (K := K) rfl) rfl B.len (by rfl) (Zaa (hs := Zaq) (Zbc (K := K) rfl (pv 0) rfl) Zad)) (pv 3) (Zbe _)) (Zaa (hs := Zdy) (Zc6 Ziv (Zam (Za9 (K := K) rfl) rfl B.len (by rfl) (Zaa (hs := Zaq) (Zbc (K := K) rfl (pv 1) rfl) Zad)) (pv 3) (Zbe _)) (Zaa (hs := Zdy) (Zc6 Ziv (Zam (Za9 (K := K) rfl) rfl B.len (by rfl) (Zaa (hs := Zaq) (Zbc (K := K) rfl (pv 0) rfl) Zad)) (Zam (Zeo (K := K) rfl rfl) rfl B.min (by rfl) (Zaa (hs := Zab) (pv 2) Zad)) (Zbe _)) Zad))))) (Zae (Zb0 (Zdf (K := K) rfl PySem.F.plainAttrs_list PySem.F.slot_list_append PySem.F.type_list_append Zbo (pv 5) (Zaa (hs := Zdy) (Zc6 Ziv (Zam (Za9 (K := K) rfl) rfl B.len (by rfl) (Zaa (hs := Zaq) (Zbc (K := K) rfl (pv 0) rfl) Zad)) (Zam (Zeo (K := K) rfl rfl) rfl B.min (by rfl) (Zaa (hs := Zab) (pv 2) Zad)) (Zbe _)) Zad))) (Zae (Zfo PassesOwn.never rfl (Zdx rfl B.range (Zaa (hs := Zac) Zaf Zad)) (Zce (i := 6) (Zc1).nd rfl (Or.inl rfl)) (Zae (Zc5 (PW.pt (Zhp (Zb2 (Zcf (Za0 (K := K) rfl) (pv 5) (pv 6) (fun _ _ => rfl))) (Zfm (Zbt Zhu (Zol F_refusal (hr.mono (by decide)) rfl (fun _ => rfl) (Zcf (Za0 (K := K) rfl) (pv 4) (pv 6) (fun _ _ => rfl)) hsp_refusal) Zbg (Zbe _))))) (Zag (Zar Zc9)) Zbb) (Zag (Zc5 (PW.pt (Zhp (Zcd (Zb2 (Zcf (Za0 (K := K) rfl) (pv 5) (pv 6) (fun _ _ => rfl)))) (Zfm (Zbt Zhu (Zam (Za9 (K := K) rfl) rfl B.len (by rfl) (Zaa (hs := Za1) (Zmw (k := 13) (Zcf (Za0 (K := K) rfl) (pv 4) (pv 6) (fun _ _ => rfl)) (hr.mono (by decide)) (fun _ => rfl) Zn7) Zad)) Zaf (Zbe _))))) (Zag (Zar Zc9)) Zbb)))) (Zag (Zar Zc9)))))))))), ?_⟩;obtain ⟨w0, wr, rfl⟩ : ∃ w0 wr, ws = w0 :: wr := by
   cases ws with
   | nil => simp at w1
   | cons a b => exact ⟨a, b, rfl⟩
  obtain ⟨m, hm⟩ := Zff w1;refine Zap fun N hN => ?_
  walk_at "rd";refine ⟨_, SqL.of hl, _, at0, hN _ _ ?_⟩;clear hN N;refine Zap fun N hN => ?_
  walk_at "rd";unfold Zf0;refine ⟨tb, fun f1 G1 _ bG1 tG1 v1 => ⟨Zaj (by decide), fun bl G2 hbl0 sG2 hbl => hN _ _ ?_⟩⟩;clear hN N;have m0 : S15 T lamQ_too_wide H H := ⟨Kt.refl, fun b o e _ => e, tb⟩;have m1 := m0.tab bG1 tG1;have m2 := m1.same sG2;have hbH := m1.new hbl0;have v1 := Zbj v1 sG2;clear bG1 tG1 m0 m1 sG2 tb hbl0;refine Zap fun N hN => ?_
  walk_at "rd";unfold Zf0;refine ⟨.inl ⟨rfl, _, SqL.of hbl⟩, m2.tb, fun f2 G3 _ b3 t3 v2 => ⟨_, Zb5 m2.tb b3 hbl, Zbr (by simp), fun G4 b4 hb4 => hN _ _ ?_⟩⟩;clear hN N;have h3 := Zb5 m2.tb b3 hbl;have v1 := Zct v1 m2.tb b3 h3 b4;have v2 := Zds v2 h3 b4;have m4 := (m2.tab b3 t3).app hbH h3 b4;clear b3 t3 h3 b4 m2;refine Zap fun N hN => ?_
  walk_at "rd";unfold Zf0;refine ⟨.inl ⟨rfl, _, SqL.of hb4⟩, m4.tb, fun f3 G5 _ b5 t5 v3 => ⟨_, Zb5 m4.tb b5 hb4, Zbr (by simp), fun G6 b6 hb6 => hN _ _ ?_⟩⟩;clear hN N;have h5 := Zb5 m4.tb b5 hb4;have v1 := Zct v1 m4.tb b5 h5 b6;have v2 := Zct v2 m4.tb b5 h5 b6;have v3 := Zds v3 h5 b6;have m6 := (m4.tab b5 t5).app hbH h5 b6;clear b5 t5 h5 b6 m4;refine Zap fun N hN => ?_
  walk_at "rd";unfold Zf0;refine ⟨.inl ⟨rfl, _, SqL.of hb6⟩, m6.tb, fun f4 G7 _ b7 t7 v4 => ⟨_, Zb5 m6.tb b7 hb6, Zbr (by simp), fun G8 b8 hb8 => hN _ _ ?_⟩⟩;clear hN N;have h7 := Zb5 m6.tb b7 hb6;have v1 := Zct v1 m6.tb b7 h7 b8;have v2 := Zct v2 m6.tb b7 h7 b8;have v3 := Zct v3 m6.tb b7 h7 b8;have v4 := Zds v4 h7 b8;have m8 := (m6.tab b7 t7).app hbH h7 b8;clear b7 t7 h7 b8 m6;have hL8 := m8.kt.letO hL;have hP8 := m8.kt.pieO hP;have hl8 : G8 l = some (.lst (((w0 :: wr).map fun w => ((w : Nat) : Int)).map V.int)) := by rw [m8.kt.lst hl, Zgp]
  have minOf : ∀ v ∈ ((w0 :: wr).map fun w => ((w : Nat) : Int)), (∀ y ∈ ((w0 :: wr).map fun w => ((w : Nat) : Int)), v <= y) -> v = (m : Nat) := fun v hv hmin => by
   obtain ⟨m', rfl, hm'⟩ := Zg7 hv hmin;rw [hm'.uniq hm]
  refine Zap fun N hN => ?_
  walk_at "rd";refine ⟨_, Zfv LL hL8, _, rfl, _, .inl (SqL.of hL8.bd), _, Ze6 LP hP8, _, rfl, _, .inl (SqL.of hP8.bd), _, Zfv LL hL8, _, rfl, _, .inl (SqL.of hL8.bd), ?_⟩;refine ⟨_, SqL.of hl8, by simp, fun v hv hmin => ⟨Zaj (by decide), fun dl G9 hdl0 s9 hdl => hN _ _ ?_⟩⟩;clear hN N;have ev := minOf v hv hmin;subst ev;clear hv hmin;have m9 := m8.same s9;have hdH := m8.new hdl0;have hL9 := hL8.mono s9;have hl9 := s9 _ _ hl8;have hb9 := s9 _ _ hb8;have ndb : dl ≠ bl := fun z => by subst z; rw [hdl0] at hb8; cases hb8
  have v1 := Zbj v1 s9;have v2 := Zbj v2 s9;have v3 := Zbj v3 s9;have v4 := Zbj v4 s9;refine Zap fun N hN => ?_
  walk_at "rd";refine ⟨.inl ⟨rfl, _, SqL.of hdl⟩, _, Zfv LL hL9, _, rfl, _, .inl (SqL.of hL9.bd), _, SqL.of hl9, by simp, fun v hv hmin => ⟨_, hdl, Zbr (by simp), fun Z bZ hZ => hN _ _ ?_⟩⟩;clear hN N;have ev := minOf v hv hmin;subst ev;clear hv hmin minOf;have v1 := Zds v1 hdl bZ;have v2 := Zds v2 hdl bZ;have v3 := Zds v3 hdl bZ;have v4 := Zds v4 hdl bZ;have mZ := m9.app hdH hdl bZ;have hbZ := bZ _ _ hb9 (Ne.symm ndb);clear m9 m8 hL9 hl9 hb9 hdl0 s9 hdl hb8 bZ hL8 hP8 hl8;have hLZ := mZ.kt.letO hL;have hPZ := mZ.kt.pieO hP;have hlZ := mZ.kt.lst hl;obtain ⟨w08, w05⟩ := wok w0 List.mem_cons_self;obtain ⟨m8', m5'⟩ := wok m hm.1;have single : ∀ {CP : Addr} {H G : Hp} {ps : List (Addr × Addr)} {ds : List PD} {e : PD}, PieL CP G ps ds -> ds = [e] -> ∃ y, refs ps = [y] := fun h e => by
   have := h.len;rw [e] at this;obtain ⟨z, rfl⟩ := List.length_eq_one_iff.mp this;exact ⟨_, rfl⟩
  have cg : ∀ (w : Nat) (e : PD), e.ns.length <= w -> cutGo w e 0 = [e] := fun w e h => by rw [Zb9 (by omega), PD.part_all]
  have wl : d.whole.ns.length = d.ns.length := rfl;have E1 : w0 < d.ns.length -> ∀ H1 v, Same Z H1 -> Live _ 13 f1 H1 [some (.ref p), some (.ref q), some (.ref l), some (.int (w0 : Nat)), some (.ref bl), some (.ref dl), v] (fun _ _ => False) (fun c _ H' => c = .ref TW /\ Same H1 H') := fun hlt H1 v s1 => Zcm (k := 12) (Zbj v1 s1) (Zbv (N' := ["_law_letter", "_law_width"]) (caps := [some 0, some 3]) (sc := defScope Zas) (N := ["_law_letter", "_law_piece", "_law_widths", "_law_width", "_law_some", "_law_due", "_law_k"]) rfl rfl (by decide +kernel)) (fun _ _ _ _ => rfl) (fun f c' cl A outer s H E hr => (Zav F_cut (hr.mono (by decide)) rfl (Zbu Za5 (fun _ _ h => h)) (Zaa (hs := Zab) (pv 0) (Zaa (hs := Zab) (pv 1) Zad)))) (by
   walk_at "rd";exact ⟨p, b, d, _, rfl, hLZ.mono s1, ⟨_, rfl⟩, (fun z => absurd z (by simp [wIn]; omega)), fun w2 e2 _ _ => by
    have e2 : w0 = w2 := by cases e2; rfl
    subst e2;exact ⟨fun _ _ G sG => ⟨rfl, sG⟩, fun h => absurd (h dk) (by omega)⟩⟩)
  have Q1 : ¬ w0 < d.ns.length -> ∀ H1 v, Same Z H1 -> Live _ 13 f1 H1 [some (.ref p), some (.ref q), some (.ref l), some (.int (w0 : Nat)), some (.ref bl), some (.ref dl), v] (fun x H' => ∃ l' y, x = .ref l' /\ H' l' = some (.lst [y]) /\ Same H1 H') (fun _ _ _ => False) := fun hge H1 v s1 => Zcm (k := 12) (Zbj v1 s1) (Zbv (N' := ["_law_letter", "_law_width"]) (caps := [some 0, some 3]) (sc := defScope Zas) (N := ["_law_letter", "_law_piece", "_law_widths", "_law_width", "_law_some", "_law_due", "_law_k"]) rfl rfl (by decide +kernel)) (fun _ _ _ _ => rfl) (fun f c' cl A outer s H E hr => (Zav F_cut (hr.mono (by decide)) rfl (Zbu Za5 (fun _ _ h => h)) (Zaa (hs := Zab) (pv 0) (Zaa (hs := Zab) (pv 1) Zad)))) (by
   walk_at "rd";exact ⟨p, b, d, _, rfl, hLZ.mono s1, ⟨_, rfl⟩, (fun z => absurd z (by simp [wIn]; omega)), fun w2 e2 _ _ => by
    have e2 : w0 = w2 := by cases e2; rfl
    subst e2;refine ⟨fun _ h => absurd h hge, fun _ l' ps G _ sG hG hp => ?_⟩;obtain ⟨y, hy⟩ := single (H := H1) hp.pieL (cg w0 d.whole (by omega));exact ⟨l', rfl, y, by rw [hG]; exact congrArg (fun z => some (HO.lst z)) hy, sG⟩⟩)
  have E2 : w0 < d2.ns.length -> ∀ H1 v, Same Z H1 -> Live _ 13 f2 H1 [some (.ref p), some (.ref q), some (.ref l), some (.int (w0 : Nat)), some (.ref bl), some (.ref dl), v] (fun _ _ => False) (fun c _ H' => c = .ref TW /\ Same H1 H') := fun hlt H1 v s1 => Zcm (k := 12) (Zbj v2 s1) (Zbv (N' := ["_law_piece", "_law_width"]) (caps := [some 1, some 3]) (sc := defScope Zas) (N := ["_law_letter", "_law_piece", "_law_widths", "_law_width", "_law_some", "_law_due", "_law_k"]) rfl rfl (by decide +kernel)) (fun _ _ _ _ => rfl) (fun f c' cl A outer s H E hr => (Zav F_cut_again (hr.mono (by decide)) rfl (Zbu Za5 (fun _ _ h => h)) (Zaa (hs := Zab) (pv 0) (Zaa (hs := Zab) (pv 1) Zad)))) (by
   walk_at "rd";exact ⟨q, bq, d2, _, rfl, hPZ.mono s1, ⟨_, rfl⟩, (fun z => absurd z (by simp [wIn]; omega)), fun w2 e2 _ _ => by
    have e2 : w0 = w2 := by cases e2; rfl
    subst e2;exact ⟨fun _ _ => ⟨rfl, Same.refl _⟩, fun h => absurd (h dk2) (by omega)⟩⟩)
  have Q2 : ¬ w0 < d2.ns.length -> ∀ H1 v, Same Z H1 -> Live _ 13 f2 H1 [some (.ref p), some (.ref q), some (.ref l), some (.int (w0 : Nat)), some (.ref bl), some (.ref dl), v] (fun x H' => ∃ l' y, x = .ref l' /\ H' l' = some (.lst [y]) /\ Same H1 H') (fun _ _ _ => False) := fun hge H1 v s1 => Zcm (k := 12) (Zbj v2 s1) (Zbv (N' := ["_law_piece", "_law_width"]) (caps := [some 1, some 3]) (sc := defScope Zas) (N := ["_law_letter", "_law_piece", "_law_widths", "_law_width", "_law_some", "_law_due", "_law_k"]) rfl rfl (by decide +kernel)) (fun _ _ _ _ => rfl) (fun f c' cl A outer s H E hr => (Zav F_cut_again (hr.mono (by decide)) rfl (Zbu Za5 (fun _ _ h => h)) (Zaa (hs := Zab) (pv 0) (Zaa (hs := Zab) (pv 1) Zad)))) (by
   walk_at "rd";exact ⟨q, bq, d2, _, rfl, hPZ.mono s1, ⟨_, rfl⟩, (fun z => absurd z (by simp [wIn]; omega)), fun w2 e2 _ _ => by
    have e2 : w0 = w2 := by cases e2; rfl
    subst e2;refine ⟨fun _ h => absurd h hge, fun _ l' ps G _ sG hG hp => ?_⟩;obtain ⟨y, hy⟩ := single (H := H1) hp.pieL (cg w0 d2 (by omega));exact ⟨l', rfl, y, by rw [hG]; exact congrArg (fun z => some (HO.lst z)) hy, sG⟩⟩)
  have E3 : m < d.ns.length -> ∀ H1 v, Same Z H1 -> Live _ 13 f3 H1 [some (.ref p), some (.ref q), some (.ref l), some (.int (w0 : Nat)), some (.ref bl), some (.ref dl), v] (fun _ _ => False) (fun c _ H' => c = .ref TW /\ Same H1 H') := fun hlt H1 v s1 => Zcm (k := 12) (Zbj v3 s1) (Zbv (N' := ["_law_letter", "_law_widths"]) (caps := [some 0, some 2]) (sc := defScope Zas) (N := ["_law_letter", "_law_piece", "_law_widths", "_law_width", "_law_some", "_law_due", "_law_k"]) rfl rfl (by decide +kernel)) (fun _ _ _ _ => rfl) (fun f c' cl A outer s H E hr => (Zav F_sent (hr.mono (by decide)) rfl (Zbu Za5 (fun _ _ h => h)) (Zaa (hs := Zab) (pv 0) (Zaa (hs := Zab) (pv 1) Zad)))) (by
   walk_at "rd";exact ⟨p, b, d, _, rfl, hLZ.mono s1, (Zbp (s1 _ _ hlZ) (by omega)).1, (Zbp (s1 _ _ hlZ) (by omega)).2, (fun z => by rw [Zda (s1 _ _ hlZ) w1 (by omega) wok] at z; cases z), fun lw ws2 e2 h2 _ _ _ => by
    cases e2;have e2 : w0 :: wr = ws2 := by rw [s1 _ _ hlZ] at h2; exact Zeq (HO.lst.inj (Option.some.inj h2))
    subst e2;exact ⟨fun _ _ G sG => ⟨rfl, sG⟩, fun h => absurd (h dk m hm.1) (by omega)⟩⟩)
  have Q3 : ¬ m < d.ns.length -> ∀ H1 v, Same Z H1 -> Live _ 13 f3 H1 [some (.ref p), some (.ref q), some (.ref l), some (.int (w0 : Nat)), some (.ref bl), some (.ref dl), v] (fun x H' => ∃ l' y, x = .ref l' /\ H' l' = some (.lst [y]) /\ Same H1 H') (fun _ _ _ => False) := fun hge H1 v s1 => Zcm (k := 12) (Zbj v3 s1) (Zbv (N' := ["_law_letter", "_law_widths"]) (caps := [some 0, some 2]) (sc := defScope Zas) (N := ["_law_letter", "_law_piece", "_law_widths", "_law_width", "_law_some", "_law_due", "_law_k"]) rfl rfl (by decide +kernel)) (fun _ _ _ _ => rfl) (fun f c' cl A outer s H E hr => (Zav F_sent (hr.mono (by decide)) rfl (Zbu Za5 (fun _ _ h => h)) (Zaa (hs := Zab) (pv 0) (Zaa (hs := Zab) (pv 1) Zad)))) (by
   walk_at "rd";exact ⟨p, b, d, _, rfl, hLZ.mono s1, (Zbp (s1 _ _ hlZ) (by omega)).1, (Zbp (s1 _ _ hlZ) (by omega)).2, (fun z => by rw [Zda (s1 _ _ hlZ) w1 (by omega) wok] at z; cases z), fun lw ws2 e2 h2 _ _ _ => by
    cases e2;have e2 : w0 :: wr = ws2 := by rw [s1 _ _ hlZ] at h2; exact Zeq (HO.lst.inj (Option.some.inj h2))
    subst e2;refine ⟨fun _ ⟨w3, a3, b3⟩ => absurd (hm.2 w3 a3) (by omega), fun _ l' ps G sG hG hp => ?_⟩;obtain ⟨y, hy⟩ := single (H := H1) hp (Zgj (fun w3 a3 => by have := hm.2 w3 a3; omega));exact ⟨l', rfl, y, by rw [hG, hy], sG⟩⟩)
  have E4 : m < d.ns.length -> ∀ H1 v, Same Z H1 -> Live _ 13 f4 H1 [some (.ref p), some (.ref q), some (.ref l), some (.int (w0 : Nat)), some (.ref bl), some (.ref dl), v] (fun _ _ => False) (fun c _ H' => c = .ref TW /\ Same H1 H') := fun hlt H1 v s1 => Zcm (k := 12) (Zbj v4 s1) (Zbv (N' := ["_law_letter", "_law_widths"]) (caps := [some 0, some 2]) (sc := defScope Zas) (N := ["_law_letter", "_law_piece", "_law_widths", "_law_width", "_law_some", "_law_due", "_law_k"]) rfl rfl (by decide +kernel)) (fun _ _ _ _ => rfl) (fun f c' cl A outer s H E hr => (Zav F_best (hr.mono (by decide)) rfl (Zbu Za5 (fun _ _ h => h)) (Zaa (hs := Zab) (pv 0) (Zaa (hs := Zab) (pv 1) Zad)))) (by
   walk_at "rd";exact ⟨p, b, d, _, rfl, hLZ.mono s1, (Zbp (s1 _ _ hlZ) (by omega)).1, (Zbp (s1 _ _ hlZ) (by omega)).2, (fun z => by rw [Zda (s1 _ _ hlZ) w1 (by omega) wok] at z; cases z), fun lw ws2 m2 e2 h2 _ _ _ h6 => by
    cases e2;have e2 : w0 :: wr = ws2 := by rw [s1 _ _ hlZ] at h2; exact Zeq (HO.lst.inj (Option.some.inj h2))
    subst e2;have em := h6.uniq hm;subst em;exact ⟨fun _ _ G sG => ⟨rfl, sG⟩, fun h => absurd (h dk) (by omega)⟩⟩)
  have Q4 : ¬ m < d.ns.length -> ∀ H1 v, Same Z H1 -> Live _ 13 f4 H1 [some (.ref p), some (.ref q), some (.ref l), some (.int (w0 : Nat)), some (.ref bl), some (.ref dl), v] (fun x H' => ∃ l' y, x = .ref l' /\ H' l' = some (.lst [y]) /\ Same H1 H') (fun _ _ _ => False) := fun hge H1 v s1 => Zcm (k := 12) (Zbj v4 s1) (Zbv (N' := ["_law_letter", "_law_widths"]) (caps := [some 0, some 2]) (sc := defScope Zas) (N := ["_law_letter", "_law_piece", "_law_widths", "_law_width", "_law_some", "_law_due", "_law_k"]) rfl rfl (by decide +kernel)) (fun _ _ _ _ => rfl) (fun f c' cl A outer s H E hr => (Zav F_best (hr.mono (by decide)) rfl (Zbu Za5 (fun _ _ h => h)) (Zaa (hs := Zab) (pv 0) (Zaa (hs := Zab) (pv 1) Zad)))) (by
   walk_at "rd";exact ⟨p, b, d, _, rfl, hLZ.mono s1, (Zbp (s1 _ _ hlZ) (by omega)).1, (Zbp (s1 _ _ hlZ) (by omega)).2, (fun z => by rw [Zda (s1 _ _ hlZ) w1 (by omega) wok] at z; cases z), fun lw ws2 m2 e2 h2 _ _ _ h6 => by
    cases e2;have e2 : w0 :: wr = ws2 := by rw [s1 _ _ hlZ] at h2; exact Zeq (HO.lst.inj (Option.some.inj h2))
    subst e2;have em := h6.uniq hm;subst em;refine ⟨fun _ h => absurd h hge, fun _ l' ps G sG hG hp => ?_⟩;obtain ⟨y, hy⟩ := single (H := H1) hp (cg m2 d.whole (by omega));exact ⟨l', rfl, y, by rw [hG, hy], sG⟩⟩)
  simp only [List.length_map, List.cons_append, List.nil_append] at hZ hbZ;refine Zap fun N hN => ?_
  walk_at "rd";refine ⟨by decide, by decide, ?_⟩;refine Zju (n := Int.toNat 4) (fun i σ' H' => ∃ v, σ' = [some (.ref p), some (.ref q), some (.ref l), some (.int (w0 : Nat)), some (.ref bl), some (.ref dl), v] /\ Same Z H') ⟨_, rfl, Same.refl _⟩ ?_ ?_
  ·rintro j σ' H' hj ⟨v, rfl, sH⟩;have hj4 : j < 4 := hj;simp only [Zfu, List.set_cons_zero, List.set_cons_succ];walk_at "rd";have ej : (0 : Int) + (j : Int) = (j : Int) := by omega
   rw [ej];have hj5 : j = 0 \/ j = 1 \/ j = 2 \/ j = 3 := by omega
   rcases hj5 with rfl | rfl | rfl | rfl
   ·by_cases hc : w0 < d.ns.length
    ·have hd : decide ((w0 : Int) < d.ns.length) = true := decide_eq_true (by omega);refine ⟨_, SqL.of (sH _ _ hZ), _, Zat (j := 0) rfl, _, rfl, ?_⟩;rw [if_pos hd];unfold Zhj;walk_at "rd";refine ⟨_, SqL.of (sH _ _ hbZ), _, Zat (j := 0) rfl, _, rfl, _, E1 hc _ _ sH, fun C H2 hE => ?_⟩;obtain ⟨eC, s2⟩ := hE;cases eC;refine ⟨_, KN, fun G s3 => ⟨rfl, ?_⟩⟩;rw [if_neg (by simp)];have sG := (sH.trans s2).trans s3;refine ⟨_, SqL.of (sG _ _ hZ), _, Zat (j := 0) rfl, _, rfl, ?_⟩;rw [if_neg (by rw [hd]; simp)];exact sG
    ·have hd : decide ((w0 : Int) < d.ns.length) = false := decide_eq_false (by omega);refine ⟨_, SqL.of (sH _ _ hZ), _, Zat (j := 0) rfl, _, rfl, ?_⟩;rw [if_neg (by rw [hd]; simp)];refine ⟨_, SqL.of (sH _ _ hZ), _, Zat (j := 0) rfl, _, rfl, ?_⟩;rw [if_pos (by rw [hd]; rfl)];unfold Zhk;walk_at "rd";refine ⟨_, SqL.of (sH _ _ hbZ), _, Zat (j := 0) rfl, _, rfl, Zen (Q1 hc _ _ sH) fun x H2 ⟨l', y, e, h2, s2⟩ => ⟨l', e, _, .inl (SqL.of h2), rfl, ?_⟩⟩;rw [if_neg (by simp)];exact sH.trans s2
   ·by_cases hc : w0 < d2.ns.length
    ·have hd : decide ((w0 : Int) < d2.ns.length) = true := decide_eq_true (by omega);refine ⟨_, SqL.of (sH _ _ hZ), _, Zat (j := 1) rfl, _, rfl, ?_⟩;rw [if_pos hd];unfold Zhj;walk_at "rd";refine ⟨_, SqL.of (sH _ _ hbZ), _, Zat (j := 1) rfl, _, rfl, _, E2 hc _ _ sH, fun C H2 hE => ?_⟩;obtain ⟨eC, s2⟩ := hE;cases eC;refine ⟨_, KN, fun G s3 => ⟨rfl, ?_⟩⟩;rw [if_neg (by simp)];have sG := (sH.trans s2).trans s3;refine ⟨_, SqL.of (sG _ _ hZ), _, Zat (j := 1) rfl, _, rfl, ?_⟩;rw [if_neg (by rw [hd]; simp)];exact sG
    ·have hd : decide ((w0 : Int) < d2.ns.length) = false := decide_eq_false (by omega);refine ⟨_, SqL.of (sH _ _ hZ), _, Zat (j := 1) rfl, _, rfl, ?_⟩;rw [if_neg (by rw [hd]; simp)];refine ⟨_, SqL.of (sH _ _ hZ), _, Zat (j := 1) rfl, _, rfl, ?_⟩;rw [if_pos (by rw [hd]; rfl)];unfold Zhk;walk_at "rd";refine ⟨_, SqL.of (sH _ _ hbZ), _, Zat (j := 1) rfl, _, rfl, Zen (Q2 hc _ _ sH) fun x H2 ⟨l', y, e, h2, s2⟩ => ⟨l', e, _, .inl (SqL.of h2), rfl, ?_⟩⟩;rw [if_neg (by simp)];exact sH.trans s2
   ·by_cases hc : m < d.ns.length
    ·have hd : decide ((m : Int) < d.ns.length) = true := decide_eq_true (by omega);refine ⟨_, SqL.of (sH _ _ hZ), _, Zat (j := 2) rfl, _, rfl, ?_⟩;rw [if_pos hd];unfold Zhj;walk_at "rd";refine ⟨_, SqL.of (sH _ _ hbZ), _, Zat (j := 2) rfl, _, rfl, _, E3 hc _ _ sH, fun C H2 hE => ?_⟩;obtain ⟨eC, s2⟩ := hE;cases eC;refine ⟨_, KN, fun G s3 => ⟨rfl, ?_⟩⟩;rw [if_neg (by simp)];have sG := (sH.trans s2).trans s3;refine ⟨_, SqL.of (sG _ _ hZ), _, Zat (j := 2) rfl, _, rfl, ?_⟩;rw [if_neg (by rw [hd]; simp)];exact sG
    ·have hd : decide ((m : Int) < d.ns.length) = false := decide_eq_false (by omega);refine ⟨_, SqL.of (sH _ _ hZ), _, Zat (j := 2) rfl, _, rfl, ?_⟩;rw [if_neg (by rw [hd]; simp)];refine ⟨_, SqL.of (sH _ _ hZ), _, Zat (j := 2) rfl, _, rfl, ?_⟩;rw [if_pos (by rw [hd]; rfl)];unfold Zhk;walk_at "rd";refine ⟨_, SqL.of (sH _ _ hbZ), _, Zat (j := 2) rfl, _, rfl, Zen (Q3 hc _ _ sH) fun x H2 ⟨l', y, e, h2, s2⟩ => ⟨l', e, _, .inl (SqL.of h2), rfl, ?_⟩⟩;rw [if_neg (by simp)];exact sH.trans s2
   ·by_cases hc : m < d.ns.length
    ·have hd : decide ((m : Int) < d.ns.length) = true := decide_eq_true (by omega);refine ⟨_, SqL.of (sH _ _ hZ), _, Zat (j := 3) rfl, _, rfl, ?_⟩;rw [if_pos hd];unfold Zhj;walk_at "rd";refine ⟨_, SqL.of (sH _ _ hbZ), _, Zat (j := 3) rfl, _, rfl, _, E4 hc _ _ sH, fun C H2 hE => ?_⟩;obtain ⟨eC, s2⟩ := hE;cases eC;refine ⟨_, KN, fun G s3 => ⟨rfl, ?_⟩⟩;rw [if_neg (by simp)];have sG := (sH.trans s2).trans s3;refine ⟨_, SqL.of (sG _ _ hZ), _, Zat (j := 3) rfl, _, rfl, ?_⟩;rw [if_neg (by rw [hd]; simp)];exact sG
    ·have hd : decide ((m : Int) < d.ns.length) = false := decide_eq_false (by omega);refine ⟨_, SqL.of (sH _ _ hZ), _, Zat (j := 3) rfl, _, rfl, ?_⟩;rw [if_neg (by rw [hd]; simp)];refine ⟨_, SqL.of (sH _ _ hZ), _, Zat (j := 3) rfl, _, rfl, ?_⟩;rw [if_pos (by rw [hd]; rfl)];unfold Zhk;walk_at "rd";refine ⟨_, SqL.of (sH _ _ hbZ), _, Zat (j := 3) rfl, _, rfl, Zen (Q4 hc _ _ sH) fun x H2 ⟨l', y, e, h2, s2⟩ => ⟨l', e, _, .inl (SqL.of h2), rfl, ?_⟩⟩;rw [if_neg (by simp)];exact sH.trans s2
  ·rintro σ' H' ⟨v, rfl, sH⟩;refine hN _ _ ?_;walk_at "rd";have m := mZ.same sH;exact qq H' m.kq m.tb
end
section
variable {P : Program} {w : World} {K : PySem.W.Frag} {mg : Str -> Option Value} {base : Heap}
structure Tb3 (T1 T2 T3 : Addr) (H : Hp) : Prop where
 t1 : Tab H T1 lamQ_none_so
 t2 : Tab H T2 lamQ_too_wide
 t3 : Tab H T3 Zsf
section
variable {T1 T2 T3 a l : Addr} {H G : Hp} {xs : List V}
theorem Tb3.same (t : Tb3 T1 T2 T3 H) (s : Same H G) : Tb3 T1 T2 T3 G := ⟨t.t1.same s, t.t2.same s, t.t3.same s⟩
theorem Tb3.but (t : Tb3 T1 T2 T3 H) (s : But l H G) (hl : H l = some (.lst xs)) : Tb3 T1 T2 T3 G := ⟨t.t1.but s hl, t.t2.but s hl, t.t3.but s hl⟩
theorem Zer {T T' : Addr} {q q' : Str} (t : Tab H T q) (t' : Tab H T' q') (n : T ≠ T') (k : ∀ b o, H b = some o -> b ≠ T' -> (∀ ys, o ≠ .lst ys) -> G b = some o) : Tab G T q := by
 obtain ⟨ps, h1, h2, h3⟩ := t;obtain ⟨ps', h1', _⟩ := t';refine ⟨ps, k _ _ h1 n (fun _ z => by cases z), h2, fun pos cv e => ?_⟩;obtain ⟨c', oc, vs, t, e1, e2, e3⟩ := h3 pos cv e;exact ⟨c', oc, vs, t, e1, k _ _ e2 (fun z => by subst z; rw [h1'] at e2; cases e2) (fun _ z => by cases z), e3⟩
theorem Tb3.kx (t : Tb3 T1 T2 T3 H) (n12 : T1 ≠ T2) (n13 : T1 ≠ T3) (st : StOk H a) (k : Kx a T1 H G) (t1 : Tab G T1 lamQ_none_so) : Tb3 T1 T2 T3 G :=
 have k' : ∀ b o, H b = some o -> b ≠ T1 -> (∀ ys, o ≠ .lst ys) -> G b = some o := fun b o e n hl => k b o e (fun z => by subst z; obtain ⟨ys, h⟩ := st.lst; rw [h] at e; cases e; exact hl _ rfl) n
 ⟨t1, Zer t.t2 t.t1 (Ne.symm n12) k', Zer t.t3 t.t1 (Ne.symm n13) k'⟩
theorem Tb3.kq (t : Tb3 T1 T2 T3 H) (n12 : T1 ≠ T2) (n23 : T2 ≠ T3) (k : Kq T2 H G) (t2 : Tab G T2 lamQ_too_wide) : Tb3 T1 T2 T3 G := ⟨Zer t.t1 t.t2 n12 fun b o e n _ => k b o e n, t2, Zer t.t3 t.t2 (Ne.symm n23) fun b o e n _ => k b o e n⟩
theorem Tb3.b3 (t : Tb3 T1 T2 T3 H) (n13 : T1 ≠ T3) (n23 : T2 ≠ T3) (k : But T3 H G) (t3 : Tab G T3 Zsf) : Tb3 T1 T2 T3 G := ⟨Zer t.t1 t.t3 n13 fun b o e n _ => k b o e n, Zer t.t2 t.t3 n23 fun b o e n _ => k b o e n, t3⟩
def Ka (a : Addr) (H G : Hp) : Prop := ∀ b o, H b = some o -> b ≠ a -> (∀ ps, o ≠ .tbl ps) -> G b = some o
theorem Ka.trans {J : Hp} (x : Ka a H G) (y : Ka a G J) : Ka a H J := fun b o e n k => y b o (x b o e n k) n k
theorem Ka.refl : Ka a H H := fun _ _ e _ _ => e
theorem kaS (s : Same H G) : Ka a H G := fun b o e _ _ => s b o e
theorem kaB (s : But a H G) : Ka a H G := fun b o e n _ => s b o e n
theorem kaX {T : Addr} {q : Str} (t : Tab H T q) (s : Kx a T H G) : Ka a H G := fun b o e n k => s b o e n fun z => by
 obtain ⟨ps, h, _⟩ := t;subst z; rw [h] at e; cases e; exact k ps rfl
theorem kaQ {T : Addr} {q : Str} (t : Tab H T q) (s : Kq T H G) : Ka a H G := fun b o e _ k => s b o e fun z => by
 obtain ⟨ps, h, _⟩ := t;subst z; rw [h] at e; cases e; exact k ps rfl
theorem Ka.lst {p : Addr} (k : Ka a H G) (h : H p = some (.lst xs)) (n : p ≠ a) : G p = some (.lst xs) := k _ _ h n fun _ z => by cases z
theorem Ka.tup {p : Addr} (k : Ka a H G) (h : H p = some (.tup xs)) (n : p ≠ a) : G p = some (.tup xs) := k _ _ h n fun _ z => by cases z
theorem Zqx {C p b : Addr} {d : LD} (st : StOk H a) (h : LetO C H p b d) : p ≠ a := fun z => by subst z; obtain ⟨dx, fs, e, _⟩ := h.ats.ex; obtain ⟨xs, e'⟩ := st.lst; rw [e] at e'; cases e'
theorem Zqk {C p b : Addr} {d : PD} (st : StOk H a) (h : PieO C H p b d) : p ≠ a := fun z => by subst z; obtain ⟨dx, fs, e, _⟩ := h.ats.ex; obtain ⟨xs, e'⟩ := st.lst; rw [e] at e'; cases e'
theorem Ka.letO {C p b : Addr} {d : LD} (k : Ka a H G) (st : StOk H a) (n : b ≠ a) (h : LetO C H p b d) : LetO C G p b d := ⟨h.ok, h.ats.same (fun o e => k p o e (Zqx st h) (fun ps z => by
 subst z; obtain ⟨dx, fs, e', _⟩ := h.ats.ex; rw [e] at e'; cases e')), k.lst h.bd n⟩
theorem Ka.pieO {C p b : Addr} {d : PD} (k : Ka a H G) (st : StOk H a) (n : b ≠ a) (h : PieO C H p b d) : PieO C G p b d := ⟨h.ok, h.ats.same (fun o e => k p o e (Zqk st h) (fun ps z => by
 subst z; obtain ⟨dx, fs, e', _⟩ := h.ats.ex; rw [e] at e'; cases e')), k.lst h.bd n⟩
end
theorem Zrs {a T : Addr} {H G : Hp} (st : StOk H a) (n : a ≠ T) (b : Kq T H G) : StOk G a := by
 rcases st with ⟨m, e⟩ | ⟨m, m2, c, e⟩
 ·exact .inl ⟨m, b _ _ e n⟩
 ·exact .inr ⟨m, m2, c, b _ _ e n⟩
theorem Zl8 (w : Nat) (d : PD) (lo : Nat) : 1 <= (cutGo w d lo).length := by
 rw [cutGo]; split <;> simp
theorem Zhs : ∀ (ws : List Nat) {ds : List PD}, 1 <= ds.length -> 1 <= (Ze2 ws ds).length
 | [], _, h => h
 | w :: ws, ds, h => by
  rw [Ze1];refine Zhs ws ?_;cases ds with
  | nil => simp at h
  | cons d r =>
   have := Zl8 w d 0;unfold Zbw;rw [List.flatMap_cons, List.length_append]; omega
theorem Zh1 {NW NL p : Addr} {G : Hp} {ws : List Nat} {L m : Nat} {Q : VK} {E : XK} (h : G p = some (.lst (wsV ws))) (w1 : 1 <= ws.length) (w2 : ws.length <= 20) (wok : WOk ws) (hm : Least m ws) (L1 : 1 <= L) (L4 : L <= 4000) (hLm : L <= m) (q : ∀ G', Same G G' -> Q (.int 1) G') : Zeg NW NL [.int (L : Nat), .ref p] G Q E := by
 refine ⟨_, _, rfl, ⟨_, rfl⟩, (Zbp h w2).1, (Zbp h w2).2, (fun z => by rw [Zda h w1 w2 wok] at z; cases z), (fun _ z => absurd z (by simp [wIn]; omega)), fun L' l' ws' m' e1 e2 _ _ h2 _ _ _ hm' G' s' => ?_⟩;cases e2;have eL : L = L' := by have := V.int.inj e1; omega
 subst eL;have ew : ws = ws' := by rw [h] at h2; exact Zeq (HO.lst.inj (Option.some.inj h2))
 subst ew;rw [hm'.uniq hm, Zhz hLm];exact q G' s'
def Zfc (K : PySem.W.Frag) (T1 T2 T3 : Addr) : Sp := fun vs H Q _ => ∃ (a : Addr) (ns : List Int), vs = [.ref a] /\ SqL K H a (ns.map V.int) /\ ns.length <= 63 /\ H T1 = some (.tbl #[]) /\ H T2 = some (.tbl #[]) /\ H T3 = some (.tbl #[]) /\ ∀ H', Q (.bl true) H'
theorem Zn2 {H : Hp} {T : Addr} {q : Str} (h : H T = some (.tbl #[])) : Tab H T q := ⟨#[], h, trivial, fun pos cv e => by cases e⟩
abbrev Ze9 : Stmt := top 62
theorem Zd2 : Zao ["_law_script", "_law_cell", "_law_state", "_law_key_here", "_law_body_here", "_law_keep", "_law_length", "_law_letter", "_law_piece", "_law_widths"] ["_law_script"] (defScope Ze9) := ⟨rfl, rfl, rfl, by decide +kernel, rfl, by decide +kernel, by decide +kernel⟩
theorem Zqr {f c T1 T2 T3 CL CP CW NW TW NL : Addr} {cs : List Addr} {fd : FuncData} (F : FunAt K "law" "law" Ze9 f fd (.ref c)) (B : Bt mg) (LC : LamCx mg base c T3) (n12 : T1 ≠ T2) (n13 : T1 ≠ T3) (n23 : T2 ≠ T3) (KN : Kd K CW cs NL "letter") (LL : Zmf K CL) (LP : Zkr K CP) (F_digit : FnB P w K mg base "_law_digit" 1 ["_law_state", "_law_base"] [] Zcu) (F_key : FnB P w K mg base "_law_key" 3 ["_law_state"] [] Zk7)
  (F_body : FnB P w K mg base "_law_body" 2 ["_law_state", "_law_amount_here"] [] Zim) (F_refusal : FnB P w K mg base "_law_refusal" 14 ["_law_ask"] [] (sp_refusal P w K mg base 13 CW cs)) (F_none_so : FnB P w K mg base "_law_none_so" 15 ["_law_letter", "_law_piece", "_law_state", "_law_widths"] [] (Zeu T1 CL CP)) (F_too_wide : FnB P w K mg base "_law_too_wide" 15 ["_law_letter", "_law_piece", "_law_widths"] [] (Zd5 T2 CL CP))
  (F_Letter : CtB P w K mg base "Letter" 6 (Znh CL)) (F_Piece : CtB P w K mg base "Piece" 6 (Zji CP)) (F_sent : FnX P w K mg base "sent" 12 ["letter", "widths"] [] (Zfi CL CP NW TW)) (F_least : FnX P w K mg base "least" 6 ["length", "widths"] [] (Zeg NW NL)) : FnOk P w K mg base CX0 16 f fd ["_law_script"] (Zfc K T1 T2 T3) := by
 have hsp_refusal := Zlt (P := P) (w := w) (K := K) (mg := mg) (base := base) (kA := 13) (W := CW) (cs := cs);refine F.ok Zd2 (fun vs H Q E h => ?_) (fun A outer s H vs Q E hr h => ?_)
 ·obtain ⟨a, ns, rfl, _⟩ := h; rfl
 ·obtain ⟨sa, sns, rfl, hS, hlen, hT1, hT2, hT3, q⟩ := h;refine ⟨_, (Zae (Zfo PassesOwn.never rfl (Zc8 (K := K) rfl (Za2 Ze3 (Za7 (Zaa (hs := Zac) Zaf Zad)) (Zej (Zeh (K := K) rfl) (pv 0) Zgz (Ze0 Zaf)))) (Zce (i := 1) (Zd2).nd rfl (Or.inl rfl)) (Zae (Zay (i := 2) (Zd2).nd rfl (Or.inr rfl) (Za7 (Zaa (hs := Zab) (pv 1) Zad))) (Zae (Zay (i := 3) (Zd2).nd rfl (Or.inl rfl) (Zak F_key (hr.mono (by decide)) rfl (Zaa (hs := Zab) (pv 2) Zad))) (Zae (Zay (i := 4) (Zd2).nd rfl (Or.inl rfl) (Zak F_body (hr.mono (by decide)) rfl (Zaa (hs := Zab) (pv 2) (Zaa (hs := Zcb) (Za2 Zcg Zaf (Zak F_digit (hr.mono (by decide)) rfl (Zaa (hs := Zab) (pv 2) (Zaa (hs := Zac) Zaf Zad)))) Zad)))) (Zae (Zfo PassesOwn.never rfl (Zc8 (K := K) rfl (Za7 (Zaa (hs := Zac) Zc9 (Zaa (hs := Zac) Zc9 Zad)))) (Zce (i := 5) (Zd2).nd rfl (Or.inl rfl)) (Zae (Zay (i := 7) (Zd2).nd rfl (Or.inl rfl) (Zjn F_Letter (hr.mono (by decide)) rfl (Zaa (hs := Zbd) (Zcf (Ze4 (K := K) rfl) (pv 3) Zaf (fun _ _ => rfl)) (Zaa (hs := Zbd) (Zcf (Ze4 (K := K) rfl) (pv 3) Zaf (fun _ _ => rfl)) (Zaa (hs := Zbd) (Zcf (Ze4 (K := K) rfl) (pv 3) Zaf (fun _ _ => rfl)) (Zaa (hs := Zab) (pv 4) (Zaa (hs := Zab) (pv 5) Zad))))))) (Zae (Zay (i := 8) (Zd2).nd rfl (Or.inl rfl) (Zjn F_Piece (hr.mono (by decide)) rfl (Zaa (hs := Zbd) (Zcf (Ze4 (K := K) rfl) (pv 3) Zaf (fun _ _ => rfl)) (Zaa (hs := Zbd) (Zcf (Ze4 (K := K) rfl) (pv 3) Zaf (fun _ _ => rfl)) (Zaa (hs := Zbd) (Zcf (Ze4 (K := K) rfl) (pv 3) Zaf (fun _ _ => rfl)) (Zaa (hs := Zac) Zaf (Zaa (hs := Zab) (pv 4) (Zaa (hs := Zac) Zc9 (Zaa (hs := Zab) (pv 5) Zad))))))))) (Zae (Zay (i := 9) (Zd2).nd rfl (Or.inr rfl) (Zg0 (N' := ["_law_k", "_law_state"]) (caps := [none, some 2]) (Zjb (sc := defScope Ze9) (N := ["_law_script", "_law_cell", "_law_state", "_law_key_here", "_law_body_here", "_law_keep", "_law_length", "_law_letter", "_law_piece", "_law_widths"]) rfl rfl (by decide +kernel)) rfl (Zdx rfl B.range (Zaa (hs := Zcb) (Za2 Zcg Zaf (Zak F_digit (hr.mono (by decide)) rfl (Zaa (hs := Zab) (pv 2) (Zaa (hs := Zac) Zaf Zad)))) Zad)) (fun _ _ _ _ _ => (Zce (i := 0) (Zi3 (N := ["_law_k", "_law_state"]) rfl (by decide +kernel)) rfl (Or.inl rfl))) (fun _ _ _ _ _ => Zfp) (fun _ _ _ _ _ => (Za2 Zcg Zaf (Zak F_digit (hr.mono (by decide)) rfl (Zaa (hs := Zab) (pv 1) (Zaa (hs := Zac) Zaf Zad))))))) (Zae (Zc5 (Zcd (Zb2 (Zak F_none_so (hr.mono (by decide)) rfl (Zaa (hs := Zab) (pv 7) (Zaa (hs := Zab) (pv 8) (Zaa (hs := Zab) (pv 2) (Zaa (hs := Zab) (pv 9) Zad))))))) (Zag (Zar Zc9)) Zbb) (Zae (Zc5 (PW.pt (Zhp (Zb2 (pv 5)) (Zfm (Zcd (Zb2 (Zak F_too_wide (hr.mono (by decide)) rfl (Zaa (hs := Zab) (pv 7) (Zaa (hs := Zab) (pv 8) (Zaa (hs := Zab) (pv 9) Zad))))))))) (Zag (Zar Zc9)) Zbb) (Zae (Zc5 (PW.pt (Zhp (Zcd (Zb2 (pv 5))) (Zfm (Zbt Zmx (Zam (Za9 (K := K) rfl) rfl B.len (by rfl) (Zaa (hs := Za1) (Zav F_sent (hr.mono (by decide)) rfl Ziu (Zaa (hs := Zab) (pv 7) (Zaa (hs := Zab) (pv 9) Zad))) Zad)) Zaf (Zbe _))))) (Zag (Zar Zc9)) Zbb) (Zag (Zc5 (PW.pt (Zgx (Zbt (Zlk (K := K) (Room.units hr) rfl) (Zbc (K := K) rfl (pv 7) rfl) (pv 4) (Zbe _)) (Zgx (Zbt (Zlk (K := K) (Room.units hr) rfl) (Zbc (K := K) rfl (pv 8) rfl) (pv 4) (Zbe _)) (Zfl (Zbt Zhu (Zbc (K := K) rfl (pv 7) rfl) (pv 5) (Zbe _)))))) (Zag (Zar Zc9)) Zbb))))))))) (Zae (Zfo PassesOwn.never rfl (Zc8 (K := K) rfl (Za7 (Zaa (hs := Zac) Zaf (Zaa (hs := Zac) Zaf (Zaa (hs := Zes) (Zoj Zku Zaf) (Zaa (hs := Zac) Zhr (Zaa (hs := Zac) Zc9 (Zaa (hs := Zac) Zbg (Zaa (hs := Zfh) (Za7 (Zaa (hs := Zac) Zaf Zad)) (Zaa (hs := Zcb) (Za2 Znq Zaf Zaf) Zad)))))))))) (Zce (i := 6) (Zd2).nd rfl (Or.inr rfl)) (Zag (Zc5 (Zbt Zhu (Zlf (k := 12) (q := Zsf) (N' := ["_law_length", "_law_widths"]) (caps := [some 6, some 9]) F_refusal (hr.mono (by decide)) rfl (fun _ => rfl) LC rfl rfl (Zbv (sc := defScope Ze9) (N := ["_law_script", "_law_cell", "_law_state", "_law_key_here", "_law_body_here", "_law_keep", "_law_length", "_law_letter", "_law_piece", "_law_widths"]) rfl rfl (by decide +kernel)) rfl (fun _ _ _ _ => rfl) (fun f c' cl A outer s H E hr => (Zav F_least (hr.mono (by decide)) rfl (Zbu Za5 (fun _ _ h => h)) (Zaa (hs := Zab) (pv 0) (Zaa (hs := Zab) (pv 1) Zad)))) hsp_refusal) Zbg (Zbe _)) (Zag (Zar Zc9)) Zbb))) (Zag (Zc5 (PW.pt (Zgx (Zbt Zhu (Zav F_least (hr.mono (by decide)) rfl Ziu (Zaa (hs := Zac) Zaf (Zaa (hs := Zfh) (Za7 (Zaa (hs := Zac) Zaf Zad)) Zad))) Zaf (Zbe _)) (Zfl (Zbt Zhu (Zav F_least (hr.mono (by decide)) rfl Ziu (Zaa (hs := Zac) Zaf (Zaa (hs := Zcb) (Za2 Zlj (Za7 (Zaa (hs := Zac) Zaf Zad)) Zaf) Zad))) Zaf (Zbe _))))) (Zag (Zar Zc9)) Zbb)))))))) (Zag (Zar Zc9))), ?_⟩;refine Zap fun N hN => ?_
  walk_at "rd";refine ⟨Zaj (by simp), fun l1 H1 hl1 s1 h1 => ⟨_, s1.seq hS, fun l2 H2 hl2 s2 h2 => ?_⟩⟩;obtain ⟨ms, ems, hms⟩ := Zm8 sns none (some 10);rw [ems] at h2;refine ⟨_, s2 l1 _ h1, _, h2, Zaj (by simp; omega), fun lp H3 hlp s3 h3 => ⟨⟨_, SqL.of h3⟩, ?_⟩⟩;have exs : ([V.int 0] ++ ms.map V.int : List V) = (0 :: ms).map V.int := rfl;rw [exs] at h3;have tb3 : Tb3 T1 T2 T3 H3 := (⟨Zn2 hT1, Zn2 hT2, Zn2 hT3⟩ : Tb3 T1 T2 T3 H).same ((s1.trans s2).trans s3);obtain ⟨Pv, ePv⟩ : ∃ Pv : Nat -> L2.St -> Hp -> Prop, Pv = fun i σ' H' => ∃ (v1 v2 v3 v4 v5 v6 v7 v8 v9 : Option V), σ' = [some (.ref sa), v1, v2, v3, v4, v5, v6, v7, v8, v9] /\ H' lp = some (.lst ((0 :: ms).map V.int)) /\ Tb3 T1 T2 T3 H' := ⟨_, rfl⟩
  refine Ze5 (xs := (0 :: ms).map V.int) Pv (by rw [ePv]; exact ⟨_, _, _, _, _, _, _, _, _, rfl, h3, tb3⟩) ?_ ?_ ?_ <;> rw [ePv]
  ·rintro i σ' H' _ ⟨_, _, _, _, _, _, _, _, _, _, hl, _⟩;exact SqL.of hl
  ·rintro i x σ' H0 hx ⟨v1, v2, v3, v4, v5, v6, v7, v8, v9, rfl, hlp0, tb0⟩;rw [<- ePv];clear hN h1 h2 h3 tb3;obtain ⟨cc, _, rfl⟩ := List.mem_map.mp (List.mem_of_getElem? hx);simp only [Zfu, List.set_cons_zero, List.set_cons_succ];refine Zap fun N hN => ?_
   walk_at "rd";refine ⟨Zaj (by simp), fun a G0 ha g0 hG0 => hN _ _ ?_⟩;clear hN N;have na : lp ≠ a := Zax hlp0 ha;have st0 : StOk G0 a := .inl ⟨cc, hG0⟩;have hlpG := g0 _ _ hlp0;have tbG := tb0.same g0;refine Zap fun N hN => ?_
   walk_at "rd";refine ⟨a, rfl, st0, fun kt nu z1 z2 G1 n0 n1 nm1 nm2 ht0 hta hkt st1 b1 => hN _ _ ?_⟩;clear hN N;refine Zap fun N hN => ?_
   walk_at "rd";refine ⟨a, 60, rfl, st1, by decide, by decide, fun d1 G2 l1 u1 st2 b2 => ⟨d1, rfl, a, _, rfl, st2, by omega, by omega, fun bb bs G3 hbs hbr hb0 hba hbb st3 b3 => hN _ _ ?_⟩⟩;clear hN N;have k03 : Ka a G0 G3 := ((kaB b1).trans (kaB b2)).trans (kaB b3);have k13 : Ka a G1 G3 := (kaB b2).trans (kaB b3);have hkt3 := k13.tup hkt hta;have hlp3 := k03.lst hlpG na;have tbG3 : Tb3 T1 T2 T3 G3 := by
    obtain ⟨xs0, e0⟩ := st0.lst;obtain ⟨xs1, e1⟩ := st1.lst;obtain ⟨xs2, e2⟩ := st2.lst;exact ((tbG.but b1 e0).but b2 e1).but b3 e2
   have hbl : (bs.length : Int) = 8 + d1 := hbs;clear b1 b2 b3 k03 k13 tbG tb0 hlpG g0 st0 st1 st2 hkt hlp0 hG0;refine Zap fun N hN => ?_
   walk_at "rd";refine ⟨Zaj (by decide), fun lk G4 hlk0 s4 hlk => ⟨⟨_, SqL.of hlk⟩, ?_⟩⟩;have nlk := st3.ne hlk0;have hl1 : 1 <= bs.length := by omega
   have hl2 : bs.length <= 3000 := by omega
   obtain ⟨Pi, ePi⟩ : ∃ Pi : Nat -> L2.St -> Hp -> Prop, Pi = fun i σ' H' => ∃ (v5 v7 v8 v9 : Option V), σ' = [some (.ref sa), some (.int cc), some (.ref a), some (.ref kt), some (.ref bb), v5, v6, v7, v8, v9] /\ H' lk = some (.lst [.bl true, .bl false]) /\ H' kt = some (.tup [.int nu, .str z1, .str z2]) /\ H' bb = some (.lst (bs.map V.int)) /\ H' lp = some (.lst ((0 :: ms).map V.int)) /\ StOk H' a /\ Tb3 T1 T2 T3 H' /\
    (1 <= i -> ∃ wl ws, v9 = some (.ref wl) /\ H' wl = some (.lst (wsV ws)) /\ wl ≠ a /\ 1 <= ws.length /\ ws.length <= 4 /\ WOk ws) := ⟨_, rfl⟩
   refine Ze5 (xs := [.bl true, .bl false]) Pi (by rw [ePi]; exact ⟨_, _, _, _, rfl, hlk, s4 _ _ hkt3, s4 _ _ hbb, s4 _ _ hlp3, st3.same s4, tbG3.same s4, fun z => absurd z (by omega)⟩) ?_ ?_ ?_ <;> rw [ePi]
   ·rintro i σ' H' _ ⟨_, _, _, _, _, hl, _⟩;exact SqL.of hl
   ·rintro i x σ' J0 hx ⟨v5, v7', v8', v9', rfl, jlk, jkt, jbb, jlp, jst, jtb, _⟩;rw [<- ePi];clear hN hkt3 hbb hlp3 tbG3 st3 hlk s4;obtain ⟨kk, rfl⟩ : ∃ kk, x = .bl kk := by
     have := List.mem_of_getElem? hx;simp only [List.mem_cons, List.not_mem_nil, or_false] at this;rcases this with rfl | rfl <;> exact ⟨_, rfl⟩
    clear hx;simp only [Zfu, List.set_cons_zero, List.set_cons_succ];refine Zap fun N hN => ?_
    walk_at "rd";refine ⟨_, SqT.of jkt, _, at0, _, SqT.of jkt, _, Zat (j := 1) rfl, _, SqT.of jkt, _, Zat (j := 2) rfl, ?_⟩;refine ⟨⟨nu, z1, z2, bs, kk⟩, bb, rfl, ⟨n0, n1, nm1, nm2, hl1, by show bs.length <= 4000; omega, hbr⟩, jbb, fun p b J1 hp0 hb0' s1 hL => hN _ _ ?_⟩;clear hN N;have nba := jst.ne hb0';refine Zap fun N hN => ?_
    walk_at "rd";refine ⟨_, SqT.of (s1 _ _ jkt), _, at0, _, SqT.of (s1 _ _ jkt), _, Zat (j := 1) rfl, _, SqT.of (s1 _ _ jkt), _, Zat (j := 2) rfl, ?_⟩;refine ⟨⟨nu, z1, z2, 16, bs, false, kk⟩, bb, rfl, ⟨n0, n1, nm1, nm2, hl1, by show bs.length <= 4000; omega, hbr, by show (0 : Int) <= 16; decide, by show (16 : Int) % 8 = 0; decide, by show Zf3 16 bs.length false = true; unfold Zf3; rw [if_neg (by simp)]; exact decide_eq_true (by omega)⟩, s1 _ _ jbb, fun q' bq J2 hq0 hbq0 s2 hP => hN _ _ ?_⟩;clear hN N;have nbq := (jst.same s1).ne hbq0;have s12 := s1.trans s2;have hL2 := hL.mono s2;have st2 := jst.same s12;have tb2 := jtb.same s12;have lk2 := s12 _ _ jlk;have kt2 := s12 _ _ jkt;have bb2 := s12 _ _ jbb;have lp2 := s12 _ _ jlp;clear s1 s2 s12 jlk jkt jbb jlp jst jtb hL hp0 hb0' hq0 hbq0;refine Zap fun N hN => ?_
    walk_at "rd";refine ⟨a, 4, rfl, st2, by decide, by decide, fun d4 J3 l4 u4 st3 b3 => ⟨d4, rfl, by omega, by omega, ?_⟩⟩;obtain ⟨Pc, ePc⟩ : ∃ Pc : Nat -> List V -> L2.St -> Hp -> Prop, Pc = fun i ys σ' G => ∃ (ws : List Nat) (v : Option V), ys = wsV ws /\ ws.length = i /\ WOk ws /\ σ' = [v, some (.ref a)] /\ StOk G a /\ But a J2 G := ⟨_, rfl⟩
    refine Zfw (n := (1 + d4).toNat) Pc (by rw [ePc]; exact ⟨[], none, rfl, rfl, (fun _ h => nomatch h), rfl, st3, b3⟩) ?_ (Zaj (by omega)) ?_ ?_ <;> rw [ePc]
    ·rintro i ys σ' G ⟨ws, v, rfl, hl, _⟩ _;rw [Zb3]; omega
    ·rintro i ys σ' G hi ⟨ws, v, rfl, hl, hw, rfl, stG, bG⟩;rw [<- ePc];simp only [Zfu, List.set_cons_zero, List.set_cons_succ];walk_at "rd";refine ⟨a, 70, rfl, stG, by decide, by decide, fun d5 H5 l5 u5 st5 b5 => ⟨d5, rfl, ?_⟩⟩;obtain ⟨n5, e5⟩ : ∃ n5 : Nat, 8 + d5 = (n5 : Int) := ⟨(8 + d5).toNat, by omega⟩;rw [ePc];refine ⟨ws ++ [n5], _, ?_, by rw [List.length_append, hl]; rfl, fun x hx => ?_, rfl, st5, fun c o e n => b5 c o (bG c o e n) n⟩
     ·rw [e5]; unfold wsV; rw [List.map_append]; rfl
     ·rcases List.mem_append.mp hx with h | h
      ·exact hw x h
      ·rw [List.mem_singleton.mp h]; omega
    ·rintro ys σ' J4 ⟨ws, v, rfl, hwn, wok, rfl, st4, b4⟩ wl J5 hwl0 s5 hwl;refine hN _ _ ?_;clear hN N;have w1 : 1 <= ws.length := by omega
     have w4 : ws.length <= 4 := by omega
     have nwl := st4.ne hwl0;have k25 : Ka a J2 J5 := (kaB b4).trans (kaS s5);have tb5 : Tb3 T1 T2 T3 J5 := by obtain ⟨xs, e⟩ := st2.lst; exact (tb2.but b4 e).same s5
     have hL5 := k25.letO st2 nba hL2;have hP5 := k25.pieO st2 nbq hP;have lk5 := k25.lst lk2 nlk;have kt5 := k25.tup kt2 hta;have bb5 := k25.lst bb2 hba;have lp5 := k25.lst lp2 na;have st5 := st4.same s5;clear b3 b4 s5 k25 tb2 hL2 hP lk2 kt2 bb2 lp2 st2 st3 st4 hwl0 l4 u4 hwn;refine Zap fun N hN => ?_
     walk_at "rd";refine ⟨p, b, q', bq, a, wl, _, _, ws, rfl, hL5, hP5, st5, hwl, nwl, nba, nbq, w1, w4, tb5.t1, fun J6 kx st6 t1 => ?_⟩;refine ⟨_, rfl, ?_⟩;rw [if_neg (by simp)];refine hN _ _ ?_;clear hN N;have k56 : Ka a J5 J6 := kaX tb5.t1 kx;have tb6 := tb5.kx n12 n13 st5 kx t1;have hL6 := k56.letO st5 nba hL5;have hP6 := k56.pieO st5 nbq hP5;have lk6 := k56.lst lk5 nlk;have kt6 := k56.tup kt5 hta;have bb6 := k56.lst bb5 hba;have lp6 := k56.lst lp5 na;have hwl6 := k56.lst hwl nwl;clear kx t1 k56 tb5 hL5 hP5 lk5 kt5 bb5 lp5 hwl st5;refine Zap fun N hN => ?_
     have rest : ∀ J7, Ka a J6 J7 -> StOk J7 a -> Tb3 T1 T2 T3 J7 -> N [some (.ref sa), some (.int cc), some (.ref a), some (.ref kt), some (.ref bb), some (.bl kk), v6, some (.ref p), some (.ref q'), some (.ref wl)] J7 := fun J7 k67 st7 tb7 => hN _ _ (by
      clear hN N;have hL7 := k67.letO st6 nba hL6;have hP7 := k67.pieO st6 nbq hP6;have lk7 := k67.lst lk6 nlk;have kt7 := k67.tup kt6 hta;have bb7 := k67.lst bb6 hba;have lp7 := k67.lst lp6 na;have hwl7 := k67.lst hwl6 nwl;clear k67 tb6 hL6 hP6 lk6 kt6 bb6 lp6 hwl6 st6;refine Zap fun N hN => ?_
      have rest : ∀ J8, Same J7 J8 -> N [some (.ref sa), some (.int cc), some (.ref a), some (.ref kt), some (.ref bb), some (.bl kk), v6, some (.ref p), some (.ref q'), some (.ref wl)] J8 := fun J8 s8 => hN _ _ (by
       clear hN N;have hL8 := hL7.mono s8;have hP8 := hP7.mono s8;have bb8 := s8 _ _ bb7;have sh := Zin bs;walk_at "rd";refine ⟨_, Zfv LL hL8, _, _, Zhe hL8.bd, Zhe bb8, sh, sh, ?_⟩;rw [Zjz];refine ⟨_, rfl, ?_⟩;rw [if_neg (by decide)];refine ⟨_, Ze6 LP hP8, _, _, Zhe hP8.bd, Zhe bb8, sh, sh, ?_⟩;rw [Zjz];refine ⟨_, rfl, ?_⟩;rw [if_neg (by decide)];refine ⟨_, Zl3 LL hL8, rfl, ?_⟩;rw [if_neg (by simp), ePi];exact ⟨_, _, _, _, rfl, s8 _ _ lk7, s8 _ _ kt7, bb8, s8 _ _ lp7, st7.same s8, tb7.same s8, fun _ => ⟨wl, ws, rfl, s8 _ _ hwl7, nwl, w1, w4, wok⟩⟩)
      walk_at "rd";cases kk with
      | true =>
       rw [if_neg (by simp)];exact rest J7 (Same.refl _)
      | false =>
       rw [if_pos (by rfl)];refine ⟨p, b, _, _, rfl, hL7, (Zbp hwl7 (by omega)).1, (Zbp hwl7 (by omega)).2, (fun z => by rw [Zda hwl7 w1 (by omega) wok] at z; cases z), fun lw ws2 e2 h2 _ _ _ => ⟨(fun z => by cases z), fun _ l ps G sG hG hp => ⟨l, rfl, _, .inl (SqL.of hG), ?_⟩⟩⟩;have h1 := Zhs ws2 (ds := [LD.whole ⟨nu, z1, z2, bs, false⟩]) (by simp);rw [Zgw, hp.len, if_neg (by simp; omega)];exact rest G sG)
     walk_at "rd";cases kk with
     | true =>
      rw [if_pos rfl];refine ⟨p, b, q', bq, wl, _, _, ws, rfl, hL6, hP6, rfl, rfl, hwl6, w1, w4, wok, tb6.t2, fun J7 kq t2 => ⟨_, rfl, ?_⟩⟩;rw [if_neg (by simp)];exact rest J7 (kaQ tb6.t2 kq) (Zrs st6 (Znf st6 tb6.t2) kq) (tb6.kq n12 n23 kq t2)
     | false =>
      rw [if_neg (by simp)];exact rest J6 Ka.refl st6 tb6
   ·rintro σ' H' ⟨v5, v7', v8', v9', rfl, jlk, jkt, jbb, jlp, jst, jtb, hw⟩;refine hN _ _ ?_;clear hN N;obtain ⟨wl, ws, rfl, hwl, nwl, w1, w4, wok⟩ := hw (by decide);refine Zap fun N hN => ?_
    walk_at "rd";refine ⟨Zaj (by decide), fun r1 G1 hr1 s1 g1 => ⟨⟨by decide, by decide, by decide⟩, Zaj (by decide), fun r2 G2 hr2 s2 g2 => ⟨⟨_, SqL.of g2⟩, ?_⟩⟩⟩;have s12 := s1.trans s2;obtain ⟨Pj, ePj⟩ : ∃ Pj : Nat -> L2.St -> Hp -> Prop, Pj = fun i σ' H' => ∃ (v6 : Option V), σ' = [some (.ref sa), some (.int cc), some (.ref a), some (.ref kt), some (.ref bb), v5, v6, v7', v8', some (.ref wl)] /\ H' r2 = some (.lst [V.int 0, V.int 4001, V.int (-1), V.non, V.bl true, V.str (Str.ofString "5"), V.ref r1, V.int (10 ^ Int.toNat 20)]) /\ H' r1 = some (.lst [.int 5]) /\ H' wl = some (.lst (wsV ws)) /\ H' lp = some (.lst ((0 :: ms).map V.int)) /\ Tb3 T1 T2 T3 H' := ⟨_, rfl⟩
    refine Ze5 (xs := [V.int 0, V.int 4001, V.int (-1), V.non, V.bl true, V.str (Str.ofString "5"), V.ref r1, V.int (10 ^ Int.toNat 20)]) Pj (by rw [ePj]; exact ⟨_, rfl, g2, s2 _ _ g1, s12 _ _ hwl, s12 _ _ jlp, jtb.same s12⟩) ?_ ?_ ?_ <;> rw [ePj]
    ·rintro i σ' H' _ ⟨_, _, hl, _⟩;exact SqL.of hl
    ·rintro i x σ' H' hx ⟨v6', rfl, k2, k1, kw, kl, ktb⟩;rw [<- ePj];have hm := List.mem_of_getElem? hx;have wx : wIn x 1 4000 = false /\ ∀ G : Hp, G r1 = some (.lst [.int 5]) -> ∃ t, tyF G x = some t := by
      simp only [List.mem_cons, List.not_mem_nil, or_false] at hm;rcases hm with rfl | rfl | rfl | rfl | rfl | rfl | rfl | rfl
      all_goals first
       | exact ⟨by decide +kernel, fun G _ => ⟨_, rfl⟩⟩
       | exact ⟨rfl, fun G h => ⟨_, Zdu h⟩⟩
     obtain ⟨wx, tyx⟩ := wx;clear hm hx;simp only [Zfu, List.set_cons_zero, List.set_cons_succ];walk_at "rd";refine ⟨ktb.t3, fun G0 b0 t0 => ?_⟩;have tb' := ktb.b3 n13 n23 b0 t0;have neL : ∀ {p : Addr} {xs : List V}, H' p = some (.lst xs) -> G0 p = some (.lst xs) := fun e => Zb5 ktb.t3 b0 e
     refine ⟨x, _, rfl, tyx _ (neL k1), (Zbp (neL kw) (by omega)).1, (Zbp (neL kw) (by omega)).2, (fun z => by rw [Zda (neL kw) w1 (by omega) wok] at z; cases z), fun _ _ G sG => ⟨NL, rfl, _, KN, fun G' s' => ⟨rfl, ?_⟩⟩, fun L l2 ws2 m2 e _ L1 L4 _ _ _ _ _ => by rw [e] at wx; have : wIn (.int (L : Int)) 1 4000 = true := (by simp [wIn]; omega); rw [this] at wx; cases wx⟩;rw [if_neg (by simp), ePj];have sG' := sG.trans s';exact ⟨_, rfl, sG' _ _ (neL k2), sG' _ _ (neL k1), sG' _ _ (neL kw), sG' _ _ (neL kl), tb'.same sG'⟩
    ·rintro σ' H' ⟨v6', rfl, k2, k1, kw, kl, ktb⟩;refine hN _ _ ?_;walk_at "rd";refine ⟨Zaj (by decide), fun p1 A1 hp1 a1 e1 => ?_⟩;refine Zh1 (L := 4000) (ws := [5000]) (m := 5000) e1 (by decide) (by decide) (fun x hx => by rw [List.mem_singleton.mp hx]; decide) ⟨List.mem_cons_self, fun x hx => by rw [List.mem_singleton.mp hx]; exact Nat.le_refl _⟩ (by decide) (by decide) (by decide) fun A2 a2 => ⟨rfl, ?_⟩
     rw [if_neg (by simp)];refine ⟨Zaj (by decide), fun p3 A3 hp3 a3 e3 => ⟨_, e3, by decide, by decide, Zaj (by decide), fun p4 A4 hp4 a4 e4 => ?_⟩⟩;refine Zh1 (L := 1) (ws := List.replicate 20 8) (m := 8) e4 (by decide) (by decide) (fun x hx => by rw [List.eq_of_mem_replicate hx]; decide) ⟨by decide, fun x hx => by rw [List.eq_of_mem_replicate hx]; exact Nat.le_refl _⟩ (by decide) (by decide) (by decide) fun A5 a5 => ⟨rfl, ?_⟩
     rw [if_neg (by simp), ePv];have sA := (((a1.trans a2).trans a3).trans a4).trans a5;exact ⟨_, _, _, _, _, _, _, _, _, rfl, sA _ _ kl, ktb.same sA⟩
  ·rintro σ' H' ⟨_, _, _, _, _, _, _, _, _, rfl, _⟩;refine hN _ _ ?_;walk_at "rd";exact q _
end
theorem Zje {us : List Value} {v : Value} (hl : (us ++ [v]).length = 6) : ∃ u0 u1 u2 u3 u4, us = [u0, u1, u2, u3, u4] := by
 have h5 : us.length = 5 := by rw [List.length_append] at hl; simpa using hl
 match us, h5 with
 | [_, _, _, _, _], _ => exact ⟨_, _, _, _, _, rfl⟩
theorem Zf8 {K : PySem.W.Frag} {s : Shared} {T : Addr} {oT : Option Addr} {nT : Nat} {sT : Array (Option Value)} {kV dc pm cd ct : Value} {an : Option Addr} {u0 u1 u2 u3 u4 u5 : Value} (kx : K.In s.heap) (h : K.lookup T = some ⟨.type "tuple", oT, .seq #[.bool false] nT, sT⟩) :
  BindsTo s (PySem.W.fnOf "__init__" "Letter.__init__" (Zan s_Letter_init) (defBody s_Letter_init) (defScope s_Letter_init) (.ref T) kV dc pm an cd ct) ⟨[u0, u1, u2, u3, u4, u5], []⟩ ((["self", "number", "sender", "goal", "body", "keep"] : List Str).zip ([u0, u1, u2, u3, u4, u5] ++ [])) := by
 first
  | exact .of_eq rfl
  | exact .of_defaults rfl (kx _ _ h) rfl rfl rfl
theorem Zf9 {K : PySem.W.Frag} {s : Shared} {T : Addr} {oT : Option Addr} {nT : Nat} {sT : Array (Option Value)} {kV dc pm cd ct : Value} {an : Option Addr} {u0 u1 u2 u3 u4 : Value} (kx : K.In s.heap) (h : K.lookup T = some ⟨.type "tuple", oT, .seq #[.bool false] nT, sT⟩) :
  BindsTo s (PySem.W.fnOf "__init__" "Letter.__init__" (Zan s_Letter_init) (defBody s_Letter_init) (defScope s_Letter_init) (.ref T) kV dc pm an cd ct) ⟨[u0, u1, u2, u3, u4], []⟩ ((["self", "number", "sender", "goal", "body", "keep"] : List Str).zip ([u0, u1, u2, u3, u4] ++ [.bool false])) := by
 exact .of_defaults rfl (kx _ _ h) rfl rfl rfl
theorem Zko {us : List Value} {v : Value} (hl : (us ++ [v]).length = 8) : ∃ u0 u1 u2 u3 u4 u5 u6, us = [u0, u1, u2, u3, u4, u5, u6] := by
 have h5 : us.length = 7 := by rw [List.length_append] at hl; simpa using hl
 match us, h5 with
 | [_, _, _, _, _, _, _], _ => exact ⟨_, _, _, _, _, _, _, rfl⟩
theorem Zhf {K : PySem.W.Frag} {s : Shared} {T : Addr} {oT : Option Addr} {nT : Nat} {sT : Array (Option Value)} {kV dc pm cd ct : Value} {an : Option Addr} {u0 u1 u2 u3 u4 u5 u6 u7 : Value} (kx : K.In s.heap) (h : K.lookup T = some ⟨.type "tuple", oT, .seq #[.bool false] nT, sT⟩) :
  BindsTo s (PySem.W.fnOf "__init__" "Piece.__init__" (Zan s_Piece_init) (defBody s_Piece_init) (defScope s_Piece_init) (.ref T) kV dc pm an cd ct) ⟨[u0, u1, u2, u3, u4, u5, u6, u7], []⟩ ((["self", "number", "sender", "goal", "at", "body", "more", "keep"] : List Str).zip ([u0, u1, u2, u3, u4, u5, u6, u7] ++ [])) := by
 first
  | exact .of_eq rfl
  | exact .of_defaults rfl (kx _ _ h) rfl rfl rfl
theorem Zhg {K : PySem.W.Frag} {s : Shared} {T : Addr} {oT : Option Addr} {nT : Nat} {sT : Array (Option Value)} {kV dc pm cd ct : Value} {an : Option Addr} {u0 u1 u2 u3 u4 u5 u6 : Value} (kx : K.In s.heap) (h : K.lookup T = some ⟨.type "tuple", oT, .seq #[.bool false] nT, sT⟩) :
  BindsTo s (PySem.W.fnOf "__init__" "Piece.__init__" (Zan s_Piece_init) (defBody s_Piece_init) (defScope s_Piece_init) (.ref T) kV dc pm an cd ct) ⟨[u0, u1, u2, u3, u4, u5, u6], []⟩ ((["self", "number", "sender", "goal", "at", "body", "more", "keep"] : List Str).zip ([u0, u1, u2, u3, u4, u5, u6] ++ [.bool false])) := by
 exact .of_defaults rfl (kx _ _ h) rfl rfl rfl
set_option maxHeartbeats 0 in
theorem all_mk {l : PySem.W.OpenLaw} {w : World} {K : PySem.W.Frag} {h : Heap} {mg : Str -> Option Value} {fa : Addr} (X : K.In h) (G : h.Ns mainGlobals mg) (hfa : mg "law" = some (.ref fa))
  {fq0s : Addr} {odq0s anq0s : Option Addr} {slq0s : Array (Option Value)} {ocq0s kVq0s dcq0s pmq0s cdq0s ctq0s : Value}
  {fq0b : Addr} {odq0b anq0b : Option Addr} {slq0b : Array (Option Value)} {ocq0b kVq0b dcq0b pmq0b cdq0b ctq0b : Value}
  {fq0n : Addr} {odq0n anq0n : Option Addr} {slq0n : Array (Option Value)} {ocq0n kVq0n dcq0n pmq0n cdq0n ctq0n : Value}
  {fq0j : Addr} {odq0j anq0j : Option Addr} {slq0j : Array (Option Value)} {ocq0j kVq0j dcq0j pmq0j cdq0j ctq0j : Value}
  {fq0x : Addr} {odq0x anq0x : Option Addr} {slq0x : Array (Option Value)} {ocq0x kVq0x dcq0x pmq0x cdq0x ctq0x : Value}
  {fq0u : Addr} {odq0u anq0u : Option Addr} {slq0u : Array (Option Value)} {ocq0u kVq0u dcq0u pmq0u cdq0u ctq0u : Value}
  {fq0v : Addr} {odq0v anq0v : Option Addr} {slq0v : Array (Option Value)} {ocq0v kVq0v dcq0v pmq0v cdq0v ctq0v : Value}
  {fq0a : Addr} {odq0a anq0a : Option Addr} {slq0a : Array (Option Value)} {ocq0a kVq0a dcq0a pmq0a cdq0a ctq0a : Value}
  {fq0p : Addr} {odq0p anq0p : Option Addr} {slq0p : Array (Option Value)} {ocq0p kVq0p dcq0p pmq0p cdq0p ctq0p : Value}
  {fq0r : Addr} {odq0r anq0r : Option Addr} {slq0r : Array (Option Value)} {ocq0r kVq0r dcq0r pmq0r cdq0r ctq0r : Value}
  {fq0m : Addr} {odq0m anq0m : Option Addr} {slq0m : Array (Option Value)} {ocq0m kVq0m dcq0m pmq0m cdq0m ctq0m : Value}
  {fq0q : Addr} {odq0q anq0q : Option Addr} {slq0q : Array (Option Value)} {ocq0q kVq0q dcq0q pmq0q cdq0q ctq0q : Value}
  {fq0i : Addr} {odq0i anq0i : Option Addr} {slq0i : Array (Option Value)} {ocq0i kVq0i dcq0i pmq0i cdq0i ctq0i : Value}
  {fq0d : Addr} {odq0d anq0d : Option Addr} {slq0d : Array (Option Value)} {ocq0d kVq0d dcq0d pmq0d cdq0d ctq0d : Value}
  {fq0f : Addr} {odq0f anq0f : Option Addr} {slq0f : Array (Option Value)} {ocq0f kVq0f dcq0f pmq0f cdq0f ctq0f : Value}
  {fq0z : Addr} {odq0z anq0z : Option Addr} {slq0z : Array (Option Value)} {ocq0z kVq0z dcq0z pmq0z cdq0z ctq0z : Value}
  {fq0l : Addr} {odq0l anq0l : Option Addr} {slq0l : Array (Option Value)} {ocq0l kVq0l dcq0l pmq0l cdq0l ctq0l : Value}
  {fq1i : Addr} {odq1i anq1i : Option Addr} {slq1i : Array (Option Value)} {ocq1i kVq1i dcq1i pmq1i cdq1i ctq1i : Value}
  {fq0c : Addr} {odq0c anq0c : Option Addr} {slq0c : Array (Option Value)} {ocq0c kVq0c dcq0c pmq0c cdq0c ctq0c : Value}
  {fq0t : Addr} {odq0t anq0t : Option Addr} {slq0t : Array (Option Value)} {ocq0t kVq0t dcq0t pmq0t cdq0t ctq0t : Value}
  {fq1e : Addr} {odq1e anq1e : Option Addr} {slq1e : Array (Option Value)} {ocq1e kVq1e dcq1e pmq1e cdq1e ctq1e : Value}
  {fq1a : Addr} {odq1a anq1a : Option Addr} {slq1a : Array (Option Value)} {ocq1a kVq1a dcq1a pmq1a cdq1a ctq1a : Value}
  {fq1c : Addr} {odq1c anq1c : Option Addr} {slq1c : Array (Option Value)} {ocq1c kVq1c dcq1c pmq1c cdq1c ctq1c : Value}
  {fq1b : Addr} {odq1b anq1b : Option Addr} {slq1b : Array (Option Value)} {ocq1b kVq1b dcq1b pmq1b cdq1b ctq1b : Value}
  {fq1d : Addr} {odq1d anq1d : Option Addr} {slq1d : Array (Option Value)} {ocq1d kVq1d dcq1d pmq1d cdq1d ctq1d : Value}
  {fq1h : Addr} {odq1h anq1h : Option Addr} {slq1h : Array (Option Value)} {ocq1h kVq1h dcq1h pmq1h cdq1h ctq1h : Value}
  {fq1f : Addr} {odq1f anq1f : Option Addr} {slq1f : Array (Option Value)} {ocq1f kVq1f dcq1f pmq1f cdq1f ctq1f : Value}
  {fq0y : Addr} {odq0y anq0y : Option Addr} {slq0y : Array (Option Value)} {ocq0y kVq0y dcq0y pmq0y cdq0y ctq0y : Value}
  {fq0k : Addr} {odq0k anq0k : Option Addr} {slq0k : Array (Option Value)} {ocq0k kVq0k dcq0k pmq0k cdq0k ctq0k : Value}
  {fq0h : Addr} {odq0h anq0h : Option Addr} {slq0h : Array (Option Value)} {ocq0h kVq0h dcq0h pmq0h cdq0h ctq0h : Value}
  {fq0w : Addr} {odq0w anq0w : Option Addr} {slq0w : Array (Option Value)} {ocq0w kVq0w dcq0w pmq0w ctq0w : Value}
  {cL_none_so tL_none_so : Addr} {ocL_none_so : Value} {odL_none_so : Option Addr} {vsL_none_so : Array Value} {slL_none_so : Array (Option Value)}
  {fq0o : Addr} {odq0o anq0o : Option Addr} {slq0o : Array (Option Value)} {ocq0o kVq0o dcq0o pmq0o ctq0o : Value}
  {cL_too_wide tL_too_wide : Addr} {ocL_too_wide : Value} {odL_too_wide : Option Addr} {vsL_too_wide : Array Value} {slL_too_wide : Array (Option Value)}
  {fq1g : Addr} {odq1g anq1g : Option Addr} {slq1g : Array (Option Value)} {ocq1g kVq1g dcq1g pmq1g ctq1g : Value}
  {cL_law tL_law : Addr} {ocL_law : Value} {odL_law : Option Addr} {vsL_law : Array Value} {slL_law : Array (Option Value)}
  {C_Letter : Addr}
  {T_Letter_init : Addr} {oT_Letter_init : Option Addr} {nT_Letter_init : Nat} {sT_Letter_init : Array (Option Value)}
  {fq0e : Addr} {odq0e anq0e : Option Addr} {slq0e : Array (Option Value)} {ocq0e kVq0e dcq0e pmq0e cdq0e ctq0e : Value}
  {C_Piece : Addr}
  {T_Piece_init : Addr} {oT_Piece_init : Option Addr} {nT_Piece_init : Nat} {sT_Piece_init : Array (Option Value)}
  {fq0g : Addr} {odq0g anq0g : Option Addr} {slq0g : Array (Option Value)} {ocq0g kVq0g dcq0g pmq0g cdq0g ctq0g : Value}
  {C_WayError : Addr}
  {C_NoLetter : Addr}
  {C_NoPiece : Addr}
  {C_NoWidth : Addr}
  {C_TooWide : Addr}
  {C_NoRule : Addr}
  {C_NoTime : Addr}
  {C_NoKey : Addr}
  {C_NoText : Addr}
  {C_NoRow : Addr}
  {C_NoRoom : Addr}
  {C_NoRoad : Addr}
  {tk_MOST_NUMBER : Tok}
  {tk_MOST_BYTE : Tok}
  {tk_MOST_SIGNS : Tok}
  {tk_MOST_BYTES : Tok}
  {tk_LEAST_WIDTH : Tok}
  {tk_MOST_WIDTH : Tok}
  {tk_MOST_WIDTHS : Tok}
  {tk_STEP : Tok}
  (aq0s : PySem.W.nsIn K mainGlobals "is_whole" = some (some (.ref fq0s)))
  (lq0s : K.lookup fq0s = some ⟨ocq0s, odq0s, .func (PySem.W.fnOf "is_whole" "is_whole" (Zan Zcw) (defBody Zcw) (defScope Zcw) .none kVq0s dcq0s pmq0s anq0s cdq0s ctq0s), slq0s⟩)
  (cq0s : PySem.W.codeIn K cdq0s "is_whole" = true)
  (kq0s : PySem.W.keepIn K (.ref fq0s) = true)
  (aq0b : PySem.W.nsIn K mainGlobals "is_whole_within" = some (some (.ref fq0b)))
  (lq0b : K.lookup fq0b = some ⟨ocq0b, odq0b, .func (PySem.W.fnOf "is_whole_within" "is_whole_within" (Zan Zba) (defBody Zba) (defScope Zba) .none kVq0b dcq0b pmq0b anq0b cdq0b ctq0b), slq0b⟩)
  (cq0b : PySem.W.codeIn K cdq0b "is_whole_within" = true)
  (kq0b : PySem.W.keepIn K (.ref fq0b) = true)
  (aq0n : PySem.W.nsIn K mainGlobals "is_truth" = some (some (.ref fq0n)))
  (lq0n : K.lookup fq0n = some ⟨ocq0n, odq0n, .func (PySem.W.fnOf "is_truth" "is_truth" (Zan Zcx) (defBody Zcx) (defScope Zcx) .none kVq0n dcq0n pmq0n anq0n cdq0n ctq0n), slq0n⟩)
  (cq0n : PySem.W.codeIn K cdq0n "is_truth" = true)
  (kq0n : PySem.W.keepIn K (.ref fq0n) = true)
  (aq0j : PySem.W.nsIn K mainGlobals "is_number" = some (some (.ref fq0j)))
  (lq0j : K.lookup fq0j = some ⟨ocq0j, odq0j, .func (PySem.W.fnOf "is_number" "is_number" (Zan Zci) (defBody Zci) (defScope Zci) .none kVq0j dcq0j pmq0j anq0j cdq0j ctq0j), slq0j⟩)
  (cq0j : PySem.W.codeIn K cdq0j "is_number" = true)
  (kq0j : PySem.W.keepIn K (.ref fq0j) = true)
  (aq0x : PySem.W.nsIn K mainGlobals "is_name" = some (some (.ref fq0x)))
  (lq0x : K.lookup fq0x = some ⟨ocq0x, odq0x, .func (PySem.W.fnOf "is_name" "is_name" (Zan Zc3) (defBody Zc3) (defScope Zc3) .none kVq0x dcq0x pmq0x anq0x cdq0x ctq0x), slq0x⟩)
  (cq0x : PySem.W.codeIn K cdq0x "is_name" = true)
  (kq0x : PySem.W.keepIn K (.ref fq0x) = true)
  (aq0u : PySem.W.nsIn K mainGlobals "is_byte" = some (some (.ref fq0u)))
  (lq0u : K.lookup fq0u = some ⟨ocq0u, odq0u, .func (PySem.W.fnOf "is_byte" "is_byte" (Zan Zde) (defBody Zde) (defScope Zde) .none kVq0u dcq0u pmq0u anq0u cdq0u ctq0u), slq0u⟩)
  (cq0u : PySem.W.codeIn K cdq0u "is_byte" = true)
  (kq0u : PySem.W.keepIn K (.ref fq0u) = true)
  (aq0v : PySem.W.nsIn K mainGlobals "is_body" = some (some (.ref fq0v)))
  (lq0v : K.lookup fq0v = some ⟨ocq0v, odq0v, .func (PySem.W.fnOf "is_body" "is_body" (Zan Zc4) (defBody Zc4) (defScope Zc4) .none kVq0v dcq0v pmq0v anq0v cdq0v ctq0v), slq0v⟩)
  (cq0v : PySem.W.codeIn K cdq0v "is_body" = true)
  (kq0v : PySem.W.keepIn K (.ref fq0v) = true)
  (aq0a : PySem.W.nsIn K mainGlobals "are_shared_parts" = some (some (.ref fq0a)))
  (lq0a : K.lookup fq0a = some ⟨ocq0a, odq0a, .func (PySem.W.fnOf "are_shared_parts" "are_shared_parts" (Zan Za4) (defBody Za4) (defScope Za4) .none kVq0a dcq0a pmq0a anq0a cdq0a ctq0a), slq0a⟩)
  (cq0a : PySem.W.codeIn K cdq0a "are_shared_parts" = true)
  (kq0a : PySem.W.keepIn K (.ref fq0a) = true)
  (aq0p : PySem.W.nsIn K mainGlobals "is_place" = some (some (.ref fq0p)))
  (lq0p : K.lookup fq0p = some ⟨ocq0p, odq0p, .func (PySem.W.fnOf "is_place" "is_place" (Zan Zcy) (defBody Zcy) (defScope Zcy) .none kVq0p dcq0p pmq0p anq0p cdq0p ctq0p), slq0p⟩)
  (cq0p : PySem.W.codeIn K cdq0p "is_place" = true)
  (kq0p : PySem.W.keepIn K (.ref fq0p) = true)
  (aq0r : PySem.W.nsIn K mainGlobals "has_room" = some (some (.ref fq0r)))
  (lq0r : K.lookup fq0r = some ⟨ocq0r, odq0r, .func (PySem.W.fnOf "has_room" "has_room" (Zan Zcz) (defBody Zcz) (defScope Zcz) .none kVq0r dcq0r pmq0r anq0r cdq0r ctq0r), slq0r⟩)
  (cq0r : PySem.W.codeIn K cdq0r "has_room" = true)
  (kq0r : PySem.W.keepIn K (.ref fq0r) = true)
  (aq0m : PySem.W.nsIn K mainGlobals "is_length" = some (some (.ref fq0m)))
  (lq0m : K.lookup fq0m = some ⟨ocq0m, odq0m, .func (PySem.W.fnOf "is_length" "is_length" (Zan Zcj) (defBody Zcj) (defScope Zcj) .none kVq0m dcq0m pmq0m anq0m cdq0m ctq0m), slq0m⟩)
  (cq0m : PySem.W.codeIn K cdq0m "is_length" = true)
  (kq0m : PySem.W.keepIn K (.ref fq0m) = true)
  (aq0q : PySem.W.nsIn K mainGlobals "is_width" = some (some (.ref fq0q)))
  (lq0q : K.lookup fq0q = some ⟨ocq0q, odq0q, .func (PySem.W.fnOf "is_width" "is_width" (Zan Zcv) (defBody Zcv) (defScope Zcv) .none kVq0q dcq0q pmq0q anq0q cdq0q ctq0q), slq0q⟩)
  (cq0q : PySem.W.codeIn K cdq0q "is_width" = true)
  (kq0q : PySem.W.keepIn K (.ref fq0q) = true)
  (aq0i : PySem.W.nsIn K mainGlobals "are_widths" = some (some (.ref fq0i)))
  (lq0i : K.lookup fq0i = some ⟨ocq0i, odq0i, .func (PySem.W.fnOf "are_widths" "are_widths" (Zan Zbs) (defBody Zbs) (defScope Zbs) .none kVq0i dcq0i pmq0i anq0i cdq0i ctq0i), slq0i⟩)
  (cq0i : PySem.W.codeIn K cdq0i "are_widths" = true)
  (kq0i : PySem.W.keepIn K (.ref fq0i) = true)
  (aq0d : PySem.W.nsIn K mainGlobals "check_widths" = some (some (.ref fq0d)))
  (lq0d : K.lookup fq0d = some ⟨ocq0d, odq0d, .func (PySem.W.fnOf "check_widths" "check_widths" (Zan Zbn) (defBody Zbn) (defScope Zbn) .none kVq0d dcq0d pmq0d anq0d cdq0d ctq0d), slq0d⟩)
  (cq0d : PySem.W.codeIn K cdq0d "check_widths" = true)
  (kq0d : PySem.W.keepIn K (.ref fq0d) = true)
  (aq0f : PySem.W.nsIn K mainGlobals "full_length" = some (some (.ref fq0f)))
  (lq0f : K.lookup fq0f = some ⟨ocq0f, odq0f, .func (PySem.W.fnOf "full_length" "full_length" (Zan Zbz) (defBody Zbz) (defScope Zbz) .none kVq0f dcq0f pmq0f anq0f cdq0f ctq0f), slq0f⟩)
  (cq0f : PySem.W.codeIn K cdq0f "full_length" = true)
  (kq0f : PySem.W.keepIn K (.ref fq0f) = true)
  (aq0z : PySem.W.nsIn K mainGlobals "part_of" = some (some (.ref fq0z)))
  (lq0z : K.lookup fq0z = some ⟨ocq0z, odq0z, .func (PySem.W.fnOf "part_of" "part_of" (Zan Zdd) (defBody Zdd) (defScope Zdd) .none kVq0z dcq0z pmq0z anq0z cdq0z ctq0z), slq0z⟩)
  (cq0z : PySem.W.codeIn K cdq0z "part_of" = true)
  (kq0z : PySem.W.keepIn K (.ref fq0z) = true)
  (aq0l : PySem.W.nsIn K mainGlobals "cut_again" = some (some (.ref fq0l)))
  (lq0l : K.lookup fq0l = some ⟨ocq0l, odq0l, .func (PySem.W.fnOf "cut_again" "cut_again" (Zan Zck) (defBody Zck) (defScope Zck) .none kVq0l dcq0l pmq0l anq0l cdq0l ctq0l), slq0l⟩)
  (cq0l : PySem.W.codeIn K cdq0l "cut_again" = true)
  (kq0l : PySem.W.keepIn K (.ref fq0l) = true)
  (aq1i : PySem.W.nsIn K mainGlobals "cut" = some (some (.ref fq1i)))
  (lq1i : K.lookup fq1i = some ⟨ocq1i, odq1i, .func (PySem.W.fnOf "cut" "cut" (Zan Zj9) (defBody Zj9) (defScope Zj9) .none kVq1i dcq1i pmq1i anq1i cdq1i ctq1i), slq1i⟩)
  (cq1i : PySem.W.codeIn K cdq1i "cut" = true)
  (kq1i : PySem.W.keepIn K (.ref fq1i) = true)
  (aq0c : PySem.W.nsIn K mainGlobals "all_cut_again" = some (some (.ref fq0c)))
  (lq0c : K.lookup fq0c = some ⟨ocq0c, odq0c, .func (PySem.W.fnOf "all_cut_again" "all_cut_again" (Zan Zbf) (defBody Zbf) (defScope Zbf) .none kVq0c dcq0c pmq0c anq0c cdq0c ctq0c), slq0c⟩)
  (cq0c : PySem.W.codeIn K cdq0c "all_cut_again" = true)
  (kq0c : PySem.W.keepIn K (.ref fq0c) = true)
  (aq0t : PySem.W.nsIn K mainGlobals "cut_over" = some (some (.ref fq0t)))
  (lq0t : K.lookup fq0t = some ⟨ocq0t, odq0t, .func (PySem.W.fnOf "cut_over" "cut_over" (Zan Zc0) (defBody Zc0) (defScope Zc0) .none kVq0t dcq0t pmq0t anq0t cdq0t ctq0t), slq0t⟩)
  (cq0t : PySem.W.codeIn K cdq0t "cut_over" = true)
  (kq0t : PySem.W.keepIn K (.ref fq0t) = true)
  (aq1e : PySem.W.nsIn K mainGlobals "sent" = some (some (.ref fq1e)))
  (lq1e : K.lookup fq1e = some ⟨ocq1e, odq1e, .func (PySem.W.fnOf "sent" "sent" (Zan Zgd) (defBody Zgd) (defScope Zgd) .none kVq1e dcq1e pmq1e anq1e cdq1e ctq1e), slq1e⟩)
  (cq1e : PySem.W.codeIn K cdq1e "sent" = true)
  (kq1e : PySem.W.keepIn K (.ref fq1e) = true)
  (aq1a : PySem.W.nsIn K mainGlobals "least" = some (some (.ref fq1a)))
  (lq1a : K.lookup fq1a = some ⟨ocq1a, odq1a, .func (PySem.W.fnOf "least" "least" (Zan Zey) (defBody Zey) (defScope Zey) .none kVq1a dcq1a pmq1a anq1a cdq1a ctq1a), slq1a⟩)
  (cq1a : PySem.W.codeIn K cdq1a "least" = true)
  (kq1a : PySem.W.keepIn K (.ref fq1a) = true)
  (aq1c : PySem.W.nsIn K mainGlobals "best" = some (some (.ref fq1c)))
  (lq1c : K.lookup fq1c = some ⟨ocq1c, odq1c, .func (PySem.W.fnOf "best" "best" (Zan Zgf) (defBody Zgf) (defScope Zgf) .none kVq1c dcq1c pmq1c anq1c cdq1c ctq1c), slq1c⟩)
  (cq1c : PySem.W.codeIn K cdq1c "best" = true)
  (kq1c : PySem.W.keepIn K (.ref fq1c) = true)
  (aq1b : PySem.W.nsIn K mainGlobals "_law_digit" = some (some (.ref fq1b)))
  (lq1b : K.lookup fq1b = some ⟨ocq1b, odq1b, .func (PySem.W.fnOf "_law_digit" "_law_digit" (Zan Zez) (defBody Zez) (defScope Zez) .none kVq1b dcq1b pmq1b anq1b cdq1b ctq1b), slq1b⟩)
  (cq1b : PySem.W.codeIn K cdq1b "_law_digit" = true)
  (kq1b : PySem.W.keepIn K (.ref fq1b) = true)
  (aq1d : PySem.W.nsIn K mainGlobals "_law_name" = some (some (.ref fq1d)))
  (lq1d : K.lookup fq1d = some ⟨ocq1d, odq1d, .func (PySem.W.fnOf "_law_name" "_law_name" (Zan Zge) (defBody Zge) (defScope Zge) .none kVq1d dcq1d pmq1d anq1d cdq1d ctq1d), slq1d⟩)
  (cq1d : PySem.W.codeIn K cdq1d "_law_name" = true)
  (kq1d : PySem.W.keepIn K (.ref fq1d) = true)
  (aq1h : PySem.W.nsIn K mainGlobals "_law_key" = some (some (.ref fq1h)))
  (lq1h : K.lookup fq1h = some ⟨ocq1h, odq1h, .func (PySem.W.fnOf "_law_key" "_law_key" (Zan Zj8) (defBody Zj8) (defScope Zj8) .none kVq1h dcq1h pmq1h anq1h cdq1h ctq1h), slq1h⟩)
  (cq1h : PySem.W.codeIn K cdq1h "_law_key" = true)
  (kq1h : PySem.W.keepIn K (.ref fq1h) = true)
  (aq1f : PySem.W.nsIn K mainGlobals "_law_body" = some (some (.ref fq1f)))
  (lq1f : K.lookup fq1f = some ⟨ocq1f, odq1f, .func (PySem.W.fnOf "_law_body" "_law_body" (Zan Zfk) (defBody Zfk) (defScope Zfk) .none kVq1f dcq1f pmq1f anq1f cdq1f ctq1f), slq1f⟩)
  (cq1f : PySem.W.codeIn K cdq1f "_law_body" = true)
  (kq1f : PySem.W.keepIn K (.ref fq1f) = true)
  (aq0y : PySem.W.nsIn K mainGlobals "_law_refusal" = some (some (.ref fq0y)))
  (lq0y : K.lookup fq0y = some ⟨ocq0y, odq0y, .func (PySem.W.fnOf "_law_refusal" "_law_refusal" (Zan Zc2) (defBody Zc2) (defScope Zc2) .none kVq0y dcq0y pmq0y anq0y cdq0y ctq0y), slq0y⟩)
  (cq0y : PySem.W.codeIn K cdq0y "_law_refusal" = true)
  (kq0y : PySem.W.keepIn K (.ref fq0y) = true)
  (aq0k : PySem.W.nsIn K mainGlobals "_law_odd_width" = some (some (.ref fq0k)))
  (lq0k : K.lookup fq0k = some ⟨ocq0k, odq0k, .func (PySem.W.fnOf "_law_odd_width" "_law_odd_width" (Zan Zch) (defBody Zch) (defScope Zch) .none kVq0k dcq0k pmq0k anq0k cdq0k ctq0k), slq0k⟩)
  (cq0k : PySem.W.codeIn K cdq0k "_law_odd_width" = true)
  (kq0k : PySem.W.keepIn K (.ref fq0k) = true)
  (aq0h : PySem.W.nsIn K mainGlobals "_law_odd_widths" = some (some (.ref fq0h)))
  (lq0h : K.lookup fq0h = some ⟨ocq0h, odq0h, .func (PySem.W.fnOf "_law_odd_widths" "_law_odd_widths" (Zan Zb8) (defBody Zb8) (defScope Zb8) .none kVq0h dcq0h pmq0h anq0h cdq0h ctq0h), slq0h⟩)
  (cq0h : PySem.W.codeIn K cdq0h "_law_odd_widths" = true)
  (kq0h : PySem.W.keepIn K (.ref fq0h) = true)
  (aq0w : PySem.W.nsIn K mainGlobals "_law_none_so" = some (some (.ref fq0w)))
  (lq0w : K.lookup fq0w = some ⟨ocq0w, odq0w, .func (PySem.W.fnOf "_law_none_so" "_law_none_so" (Zan Zaz) (defBody Zaz) (defScope Zaz) .none kVq0w dcq0w pmq0w anq0w (.ref cL_none_so) ctq0w), slq0w⟩)
  (cq0w : PySem.W.codeIn K (.ref cL_none_so) "_law_none_so" = true)
  (lcL_none_so : K.lookup cL_none_so = some ⟨ocL_none_so, odL_none_so, .fields vsL_none_so, slL_none_so⟩)
  (l11_none_so : vsL_none_so[11]? = some (.ref tL_none_so))
  (kq0w : PySem.W.keepIn K (.ref fq0w) = true)
  (aq0o : PySem.W.nsIn K mainGlobals "_law_too_wide" = some (some (.ref fq0o)))
  (lq0o : K.lookup fq0o = some ⟨ocq0o, odq0o, .func (PySem.W.fnOf "_law_too_wide" "_law_too_wide" (Zan Zas) (defBody Zas) (defScope Zas) .none kVq0o dcq0o pmq0o anq0o (.ref cL_too_wide) ctq0o), slq0o⟩)
  (cq0o : PySem.W.codeIn K (.ref cL_too_wide) "_law_too_wide" = true)
  (lcL_too_wide : K.lookup cL_too_wide = some ⟨ocL_too_wide, odL_too_wide, .fields vsL_too_wide, slL_too_wide⟩)
  (l11_too_wide : vsL_too_wide[11]? = some (.ref tL_too_wide))
  (kq0o : PySem.W.keepIn K (.ref fq0o) = true)
  (aq1g : PySem.W.nsIn K mainGlobals "law" = some (some (.ref fq1g)))
  (lq1g : K.lookup fq1g = some ⟨ocq1g, odq1g, .func (PySem.W.fnOf "law" "law" (Zan Ze9) (defBody Ze9) (defScope Ze9) .none kVq1g dcq1g pmq1g anq1g (.ref cL_law) ctq1g), slq1g⟩)
  (cq1g : PySem.W.codeIn K (.ref cL_law) "law" = true)
  (lcL_law : K.lookup cL_law = some ⟨ocL_law, odL_law, .fields vsL_law, slL_law⟩)
  (l11_law : vsL_law[11]? = some (.ref tL_law))
  (kq1g : PySem.W.keepIn K (.ref fq1g) = true)
  (aC_Letter : PySem.W.nsIn K mainGlobals "Letter" = some (some (.ref C_Letter)))
  (aq0e : PySem.W.findIn K (.ref C_Letter) "__init__" = some (some (.ref fq0e)))
  (iq0e : PySem.W.isFn K (.ref fq0e) = true)
  (lq0e : K.lookup fq0e = some ⟨ocq0e, odq0e, .func (PySem.W.fnOf "__init__" "Letter.__init__" (Zan s_Letter_init) (defBody s_Letter_init) (defScope s_Letter_init) (.ref T_Letter_init) kVq0e dcq0e pmq0e anq0e cdq0e ctq0e), slq0e⟩)
  (cq0e : PySem.W.codeIn K cdq0e "Letter.__init__" = true)
  (kq0e : PySem.W.keepIn K (.ref fq0e) = true)
  (tq0e : K.lookup T_Letter_init = some ⟨.type "tuple", oT_Letter_init, .seq #[.bool false] nT_Letter_init, sT_Letter_init⟩)
  (pg_Letter : PySem.W.plainGet K C_Letter Str.empty = true)
  (hd_Letter : PySem.W.hasDictIn K C_Letter = true)
  (po_Letter : PySem.W.plainOver K C_Letter = true)
  (sa_Letter : PySem.W.findIn K (.ref C_Letter) "__setattr__" = some (some (.builtin "object.__setattr__")))
  (mk_Letter : PySem.W.makesIn K C_Letter = true)
  (kc_Letter : PySem.W.keepIn K (.ref C_Letter) = true)
  (n_Letter_number : PySem.W.findIn K (.ref C_Letter) "number" = some none)
  (n_Letter_sender : PySem.W.findIn K (.ref C_Letter) "sender" = some none)
  (n_Letter_goal : PySem.W.findIn K (.ref C_Letter) "goal" = some none)
  (n_Letter_body : PySem.W.findIn K (.ref C_Letter) "body" = some none)
  (n_Letter_keep : PySem.W.findIn K (.ref C_Letter) "keep" = some none)
  (aC_Piece : PySem.W.nsIn K mainGlobals "Piece" = some (some (.ref C_Piece)))
  (aq0g : PySem.W.findIn K (.ref C_Piece) "__init__" = some (some (.ref fq0g)))
  (iq0g : PySem.W.isFn K (.ref fq0g) = true)
  (lq0g : K.lookup fq0g = some ⟨ocq0g, odq0g, .func (PySem.W.fnOf "__init__" "Piece.__init__" (Zan s_Piece_init) (defBody s_Piece_init) (defScope s_Piece_init) (.ref T_Piece_init) kVq0g dcq0g pmq0g anq0g cdq0g ctq0g), slq0g⟩)
  (cq0g : PySem.W.codeIn K cdq0g "Piece.__init__" = true)
  (kq0g : PySem.W.keepIn K (.ref fq0g) = true)
  (tq0g : K.lookup T_Piece_init = some ⟨.type "tuple", oT_Piece_init, .seq #[.bool false] nT_Piece_init, sT_Piece_init⟩)
  (pg_Piece : PySem.W.plainGet K C_Piece Str.empty = true)
  (hd_Piece : PySem.W.hasDictIn K C_Piece = true)
  (po_Piece : PySem.W.plainOver K C_Piece = true)
  (sa_Piece : PySem.W.findIn K (.ref C_Piece) "__setattr__" = some (some (.builtin "object.__setattr__")))
  (mk_Piece : PySem.W.makesIn K C_Piece = true)
  (kc_Piece : PySem.W.keepIn K (.ref C_Piece) = true)
  (n_Piece_number : PySem.W.findIn K (.ref C_Piece) "number" = some none)
  (n_Piece_sender : PySem.W.findIn K (.ref C_Piece) "sender" = some none)
  (n_Piece_goal : PySem.W.findIn K (.ref C_Piece) "goal" = some none)
  (n_Piece_at : PySem.W.findIn K (.ref C_Piece) "at" = some none)
  (n_Piece_body : PySem.W.findIn K (.ref C_Piece) "body" = some none)
  (n_Piece_more : PySem.W.findIn K (.ref C_Piece) "more" = some none)
  (n_Piece_keep : PySem.W.findIn K (.ref C_Piece) "keep" = some none)
  (aC_WayError : PySem.W.nsIn K mainGlobals "WayError" = some (some (.ref C_WayError)))
  (kty_WayError : PySem.W.typeIn K (.ref C_WayError) = some (.type "type"))
  (kbe_WayError : PySem.W.mroIn K C_WayError (.type "BaseException") = some true)
  (aC_NoLetter : PySem.W.nsIn K mainGlobals "NoLetter" = some (some (.ref C_NoLetter)))
  (kty_NoLetter : PySem.W.typeIn K (.ref C_NoLetter) = some (.type "type"))
  (kbe_NoLetter : PySem.W.mroIn K C_NoLetter (.type "BaseException") = some true)
  (aC_NoPiece : PySem.W.nsIn K mainGlobals "NoPiece" = some (some (.ref C_NoPiece)))
  (kty_NoPiece : PySem.W.typeIn K (.ref C_NoPiece) = some (.type "type"))
  (kbe_NoPiece : PySem.W.mroIn K C_NoPiece (.type "BaseException") = some true)
  (aC_NoWidth : PySem.W.nsIn K mainGlobals "NoWidth" = some (some (.ref C_NoWidth)))
  (kty_NoWidth : PySem.W.typeIn K (.ref C_NoWidth) = some (.type "type"))
  (kbe_NoWidth : PySem.W.mroIn K C_NoWidth (.type "BaseException") = some true)
  (aC_TooWide : PySem.W.nsIn K mainGlobals "TooWide" = some (some (.ref C_TooWide)))
  (kty_TooWide : PySem.W.typeIn K (.ref C_TooWide) = some (.type "type"))
  (kbe_TooWide : PySem.W.mroIn K C_TooWide (.type "BaseException") = some true)
  (aC_NoRule : PySem.W.nsIn K mainGlobals "NoRule" = some (some (.ref C_NoRule)))
  (kty_NoRule : PySem.W.typeIn K (.ref C_NoRule) = some (.type "type"))
  (kbe_NoRule : PySem.W.mroIn K C_NoRule (.type "BaseException") = some true)
  (aC_NoTime : PySem.W.nsIn K mainGlobals "NoTime" = some (some (.ref C_NoTime)))
  (kty_NoTime : PySem.W.typeIn K (.ref C_NoTime) = some (.type "type"))
  (kbe_NoTime : PySem.W.mroIn K C_NoTime (.type "BaseException") = some true)
  (aC_NoKey : PySem.W.nsIn K mainGlobals "NoKey" = some (some (.ref C_NoKey)))
  (kty_NoKey : PySem.W.typeIn K (.ref C_NoKey) = some (.type "type"))
  (kbe_NoKey : PySem.W.mroIn K C_NoKey (.type "BaseException") = some true)
  (aC_NoText : PySem.W.nsIn K mainGlobals "NoText" = some (some (.ref C_NoText)))
  (kty_NoText : PySem.W.typeIn K (.ref C_NoText) = some (.type "type"))
  (kbe_NoText : PySem.W.mroIn K C_NoText (.type "BaseException") = some true)
  (aC_NoRow : PySem.W.nsIn K mainGlobals "NoRow" = some (some (.ref C_NoRow)))
  (kty_NoRow : PySem.W.typeIn K (.ref C_NoRow) = some (.type "type"))
  (kbe_NoRow : PySem.W.mroIn K C_NoRow (.type "BaseException") = some true)
  (aC_NoRoom : PySem.W.nsIn K mainGlobals "NoRoom" = some (some (.ref C_NoRoom)))
  (kty_NoRoom : PySem.W.typeIn K (.ref C_NoRoom) = some (.type "type"))
  (kbe_NoRoom : PySem.W.mroIn K C_NoRoom (.type "BaseException") = some true)
  (aC_NoRoad : PySem.W.nsIn K mainGlobals "NoRoad" = some (some (.ref C_NoRoad)))
  (kty_NoRoad : PySem.W.typeIn K (.ref C_NoRoad) = some (.type "type"))
  (kbe_NoRoad : PySem.W.mroIn K C_NoRoad (.type "BaseException") = some true)
  (exc_NoLetter : PySem.W.excIn K C_NoLetter Zqv "ValueError.__new__" = true)
  (ega_NoLetter : PySem.W.findIn K (.ref C_NoLetter) "__getattribute__" = some (some (.builtin "BaseException.__getattribute__")))
  (egt_NoLetter : PySem.W.findIn K (.ref C_NoLetter) "__getattr__" = some none)
  (ecl_NoLetter : PySem.W.findIn K (.ref C_NoLetter) "__class__" = some (some (.builtin "object.__class__")))
  (eob_NoLetter : PySem.W.mroIn K C_NoLetter (.type "object") = some true)
  (eve_NoLetter : PySem.W.mroIn K C_NoLetter (.type "ValueError") = some true)
  (ewy_NoLetter : PySem.W.mroIn K C_NoLetter (.ref C_WayError) = some true)
  (kmr_NoLetter_NoLetter : PySem.W.mroIn K C_NoLetter (.ref C_NoLetter) = some true)
  (kmr_NoLetter_NoPiece : PySem.W.mroIn K C_NoLetter (.ref C_NoPiece) = some false)
  (kmr_NoLetter_NoWidth : PySem.W.mroIn K C_NoLetter (.ref C_NoWidth) = some false)
  (kmr_NoLetter_TooWide : PySem.W.mroIn K C_NoLetter (.ref C_TooWide) = some false)
  (kmr_NoLetter_NoRule : PySem.W.mroIn K C_NoLetter (.ref C_NoRule) = some false)
  (kmr_NoLetter_NoTime : PySem.W.mroIn K C_NoLetter (.ref C_NoTime) = some false)
  (kmr_NoLetter_NoKey : PySem.W.mroIn K C_NoLetter (.ref C_NoKey) = some false)
  (kmr_NoLetter_NoText : PySem.W.mroIn K C_NoLetter (.ref C_NoText) = some false)
  (kmr_NoLetter_NoRow : PySem.W.mroIn K C_NoLetter (.ref C_NoRow) = some false)
  (kmr_NoLetter_NoRoom : PySem.W.mroIn K C_NoLetter (.ref C_NoRoom) = some false)
  (kmr_NoLetter_NoRoad : PySem.W.mroIn K C_NoLetter (.ref C_NoRoad) = some false)
  (exc_NoWidth : PySem.W.excIn K C_NoWidth Zqv "ValueError.__new__" = true)
  (ega_NoWidth : PySem.W.findIn K (.ref C_NoWidth) "__getattribute__" = some (some (.builtin "BaseException.__getattribute__")))
  (egt_NoWidth : PySem.W.findIn K (.ref C_NoWidth) "__getattr__" = some none)
  (ecl_NoWidth : PySem.W.findIn K (.ref C_NoWidth) "__class__" = some (some (.builtin "object.__class__")))
  (eob_NoWidth : PySem.W.mroIn K C_NoWidth (.type "object") = some true)
  (eve_NoWidth : PySem.W.mroIn K C_NoWidth (.type "ValueError") = some true)
  (ewy_NoWidth : PySem.W.mroIn K C_NoWidth (.ref C_WayError) = some true)
  (kmr_NoWidth_NoLetter : PySem.W.mroIn K C_NoWidth (.ref C_NoLetter) = some false)
  (kmr_NoWidth_NoPiece : PySem.W.mroIn K C_NoWidth (.ref C_NoPiece) = some false)
  (kmr_NoWidth_NoWidth : PySem.W.mroIn K C_NoWidth (.ref C_NoWidth) = some true)
  (kmr_NoWidth_TooWide : PySem.W.mroIn K C_NoWidth (.ref C_TooWide) = some false)
  (kmr_NoWidth_NoRule : PySem.W.mroIn K C_NoWidth (.ref C_NoRule) = some false)
  (kmr_NoWidth_NoTime : PySem.W.mroIn K C_NoWidth (.ref C_NoTime) = some false)
  (kmr_NoWidth_NoKey : PySem.W.mroIn K C_NoWidth (.ref C_NoKey) = some false)
  (kmr_NoWidth_NoText : PySem.W.mroIn K C_NoWidth (.ref C_NoText) = some false)
  (kmr_NoWidth_NoRow : PySem.W.mroIn K C_NoWidth (.ref C_NoRow) = some false)
  (kmr_NoWidth_NoRoom : PySem.W.mroIn K C_NoWidth (.ref C_NoRoom) = some false)
  (kmr_NoWidth_NoRoad : PySem.W.mroIn K C_NoWidth (.ref C_NoRoad) = some false)
  (exc_TooWide : PySem.W.excIn K C_TooWide Zqv "ValueError.__new__" = true)
  (ega_TooWide : PySem.W.findIn K (.ref C_TooWide) "__getattribute__" = some (some (.builtin "BaseException.__getattribute__")))
  (egt_TooWide : PySem.W.findIn K (.ref C_TooWide) "__getattr__" = some none)
  (ecl_TooWide : PySem.W.findIn K (.ref C_TooWide) "__class__" = some (some (.builtin "object.__class__")))
  (eob_TooWide : PySem.W.mroIn K C_TooWide (.type "object") = some true)
  (eve_TooWide : PySem.W.mroIn K C_TooWide (.type "ValueError") = some true)
  (ewy_TooWide : PySem.W.mroIn K C_TooWide (.ref C_WayError) = some true)
  (kmr_TooWide_NoLetter : PySem.W.mroIn K C_TooWide (.ref C_NoLetter) = some false)
  (kmr_TooWide_NoPiece : PySem.W.mroIn K C_TooWide (.ref C_NoPiece) = some false)
  (kmr_TooWide_NoWidth : PySem.W.mroIn K C_TooWide (.ref C_NoWidth) = some false)
  (kmr_TooWide_TooWide : PySem.W.mroIn K C_TooWide (.ref C_TooWide) = some true)
  (kmr_TooWide_NoRule : PySem.W.mroIn K C_TooWide (.ref C_NoRule) = some false)
  (kmr_TooWide_NoTime : PySem.W.mroIn K C_TooWide (.ref C_NoTime) = some false)
  (kmr_TooWide_NoKey : PySem.W.mroIn K C_TooWide (.ref C_NoKey) = some false)
  (kmr_TooWide_NoText : PySem.W.mroIn K C_TooWide (.ref C_NoText) = some false)
  (kmr_TooWide_NoRow : PySem.W.mroIn K C_TooWide (.ref C_NoRow) = some false)
  (kmr_TooWide_NoRoom : PySem.W.mroIn K C_TooWide (.ref C_NoRoom) = some false)
  (kmr_TooWide_NoRoad : PySem.W.mroIn K C_TooWide (.ref C_NoRoad) = some false)
  (z_ValueError : PySem.W.nsIn K mainGlobals "ValueError" = some none)
  (nt : PySem.W.noTabs K = true)
  (ne_12 : tL_none_so ≠ tL_too_wide)
  (ne_13 : tL_none_so ≠ tL_law)
  (ne_23 : tL_too_wide ≠ tL_law)
  (q_MOST_NUMBER : PySem.W.nsIn K mainGlobals "MOST_NUMBER" = some (some (.int 65535 tk_MOST_NUMBER)))
  (q_MOST_BYTE : PySem.W.nsIn K mainGlobals "MOST_BYTE" = some (some (.int 255 tk_MOST_BYTE)))
  (q_MOST_SIGNS : PySem.W.nsIn K mainGlobals "MOST_SIGNS" = some (some (.int 8 tk_MOST_SIGNS)))
  (q_MOST_BYTES : PySem.W.nsIn K mainGlobals "MOST_BYTES" = some (some (.int 4000 tk_MOST_BYTES)))
  (q_LEAST_WIDTH : PySem.W.nsIn K mainGlobals "LEAST_WIDTH" = some (some (.int 8 tk_LEAST_WIDTH)))
  (q_MOST_WIDTH : PySem.W.nsIn K mainGlobals "MOST_WIDTH" = some (some (.int 5000 tk_MOST_WIDTH)))
  (q_MOST_WIDTHS : PySem.W.nsIn K mainGlobals "MOST_WIDTHS" = some (some (.int 20 tk_MOST_WIDTHS)))
  (q_STEP : PySem.W.nsIn K mainGlobals "STEP" = some (some (.int 8 tk_STEP)))
  (z_len : PySem.W.nsIn K mainGlobals "len" = some none)
  (z_range : PySem.W.nsIn K mainGlobals "range" = some none)
  (z_isinstance : PySem.W.nsIn K mainGlobals "isinstance" = some none)
  (z_all : PySem.W.nsIn K mainGlobals "all" = some none)
  (z_min : PySem.W.nsIn K mainGlobals "min" = some none)
  (z_max : PySem.W.nsIn K mainGlobals "max" = some none)
  (z_int : PySem.W.nsIn K mainGlobals "int" = some none)
  (z_bool : PySem.W.nsIn K mainGlobals "bool" = some none)
  (z_str : PySem.W.nsIn K mainGlobals "str" = some none)
  (z_list : PySem.W.nsIn K mainGlobals "list" = some none)
  (z_tuple : PySem.W.nsIn K mainGlobals "tuple" = some none) :
  ∃ (c1 T1 c2 T2 c3 T3 : Addr) (fd : FuncData), PySem.W.tabIn K "_law_none_so" = some (c1, T1) /\ PySem.W.tabIn K "_law_too_wide" = some (c2, T2) /\ PySem.W.tabIn K "law" = some (c3, T3) /\ PySem.W.noTabs K = true /\ (∀ (s : Shared) (v : Value), BindsTo s fd ⟨[v], []⟩ [("_law_script", v)]) /\ ∀ base : Heap, K.In base -> base.Ns mainGlobals mg -> LamCx mg base c1 T1 -> LamCx mg base c2 T2 -> LamCx mg base c3 T3 -> FnOk l.prog w K mg base CX0 16 fa fd ["_law_script"] (Zfc K T1 T2 T3) := by
 have e := hfa.symm.trans (PySem.W.mg_of X G aq1g);cases e;have Fq0s := Za8 (st := Zcw) lq0s cq0s kq0s;have bq0s := Fq0s.binds (ps := ["value"]) fun _ _ _ _ _ _ us hl => match us, hl with | [_], _ => rfl
 have mq0s := PySem.W.mg_of X G aq0s;have Fq0b := Za8 (st := Zba) lq0b cq0b kq0b;have bq0b := Fq0b.binds (ps := ["value", "low", "high"]) fun _ _ _ _ _ _ us hl => match us, hl with | [_, _, _], _ => rfl
 have mq0b := PySem.W.mg_of X G aq0b;have Fq0n := Za8 (st := Zcx) lq0n cq0n kq0n;have bq0n := Fq0n.binds (ps := ["value"]) fun _ _ _ _ _ _ us hl => match us, hl with | [_], _ => rfl
 have mq0n := PySem.W.mg_of X G aq0n;have Fq0j := Za8 (st := Zci) lq0j cq0j kq0j;have bq0j := Fq0j.binds (ps := ["value"]) fun _ _ _ _ _ _ us hl => match us, hl with | [_], _ => rfl
 have mq0j := PySem.W.mg_of X G aq0j;have Fq0x := Za8 (st := Zc3) lq0x cq0x kq0x;have bq0x := Fq0x.binds (ps := ["value"]) fun _ _ _ _ _ _ us hl => match us, hl with | [_], _ => rfl
 have mq0x := PySem.W.mg_of X G aq0x;have Fq0u := Za8 (st := Zde) lq0u cq0u kq0u;have bq0u := Fq0u.binds (ps := ["value"]) fun _ _ _ _ _ _ us hl => match us, hl with | [_], _ => rfl
 have mq0u := PySem.W.mg_of X G aq0u;have Fq0v := Za8 (st := Zc4) lq0v cq0v kq0v;have bq0v := Fq0v.binds (ps := ["value"]) fun _ _ _ _ _ _ us hl => match us, hl with | [_], _ => rfl
 have mq0v := PySem.W.mg_of X G aq0v;have Fq0a := Za8 (st := Za4) lq0a cq0a kq0a;have bq0a := Fq0a.binds (ps := ["number", "sender", "goal", "body", "keep"]) fun _ _ _ _ _ _ us hl => match us, hl with | [_, _, _, _, _], _ => rfl
 have mq0a := PySem.W.mg_of X G aq0a;have Fq0p := Za8 (st := Zcy) lq0p cq0p kq0p;have bq0p := Fq0p.binds (ps := ["at"]) fun _ _ _ _ _ _ us hl => match us, hl with | [_], _ => rfl
 have mq0p := PySem.W.mg_of X G aq0p;have Fq0r := Za8 (st := Zcz) lq0r cq0r kq0r;have bq0r := Fq0r.binds (ps := ["at", "length", "more"]) fun _ _ _ _ _ _ us hl => match us, hl with | [_, _, _], _ => rfl
 have mq0r := PySem.W.mg_of X G aq0r;have Fq0m := Za8 (st := Zcj) lq0m cq0m kq0m;have bq0m := Fq0m.binds (ps := ["value"]) fun _ _ _ _ _ _ us hl => match us, hl with | [_], _ => rfl
 have mq0m := PySem.W.mg_of X G aq0m;have Fq0q := Za8 (st := Zcv) lq0q cq0q kq0q;have bq0q := Fq0q.binds (ps := ["value"]) fun _ _ _ _ _ _ us hl => match us, hl with | [_], _ => rfl
 have mq0q := PySem.W.mg_of X G aq0q;have Fq0i := Za8 (st := Zbs) lq0i cq0i kq0i;have bq0i := Fq0i.binds (ps := ["value"]) fun _ _ _ _ _ _ us hl => match us, hl with | [_], _ => rfl
 have mq0i := PySem.W.mg_of X G aq0i;have Fq0d := Za8 (st := Zbn) lq0d cq0d kq0d;have bq0d := Fq0d.binds (ps := ["widths"]) fun _ _ _ _ _ _ us hl => match us, hl with | [_], _ => rfl
 have mq0d := PySem.W.mg_of X G aq0d;have Fq0f := Za8 (st := Zbz) lq0f cq0f kq0f;have bq0f := Fq0f.binds (ps := ["width"]) fun _ _ _ _ _ _ us hl => match us, hl with | [_], _ => rfl
 have mq0f := PySem.W.mg_of X G aq0f;have Fq0z := Za8 (st := Zdd) lq0z cq0z kq0z;have bq0z := Fq0z.binds (ps := ["piece", "low", "high"]) fun _ _ _ _ _ _ us hl => match us, hl with | [_, _, _], _ => rfl
 have mq0z := PySem.W.mg_of X G aq0z;have Fq0l := Za8 (st := Zck) lq0l cq0l kq0l;have bq0l := Fq0l.binds (ps := ["piece", "width"]) fun _ _ _ _ _ _ us hl => match us, hl with | [_, _], _ => rfl
 have mq0l := PySem.W.mg_of X G aq0l;have Fq1i := Za8 (st := Zj9) lq1i cq1i kq1i;have bq1i := Fq1i.binds (ps := ["letter", "width"]) fun _ _ _ _ _ _ us hl => match us, hl with | [_, _], _ => rfl
 have mq1i := PySem.W.mg_of X G aq1i;have Fq0c := Za8 (st := Zbf) lq0c cq0c kq0c;have bq0c := Fq0c.binds (ps := ["pieces", "width"]) fun _ _ _ _ _ _ us hl => match us, hl with | [_, _], _ => rfl
 have mq0c := PySem.W.mg_of X G aq0c;have Fq0t := Za8 (st := Zc0) lq0t cq0t kq0t;have bq0t := Fq0t.binds (ps := ["pieces", "widths"]) fun _ _ _ _ _ _ us hl => match us, hl with | [_, _], _ => rfl
 have mq0t := PySem.W.mg_of X G aq0t;have Fq1e := Za8 (st := Zgd) lq1e cq1e kq1e;have bq1e := Fq1e.binds (ps := ["letter", "widths"]) fun _ _ _ _ _ _ us hl => match us, hl with | [_, _], _ => rfl
 have mq1e := PySem.W.mg_of X G aq1e;have Fq1a := Za8 (st := Zey) lq1a cq1a kq1a;have bq1a := Fq1a.binds (ps := ["length", "widths"]) fun _ _ _ _ _ _ us hl => match us, hl with | [_, _], _ => rfl
 have mq1a := PySem.W.mg_of X G aq1a;have Fq1c := Za8 (st := Zgf) lq1c cq1c kq1c;have bq1c := Fq1c.binds (ps := ["letter", "widths"]) fun _ _ _ _ _ _ us hl => match us, hl with | [_, _], _ => rfl
 have mq1c := PySem.W.mg_of X G aq1c;have Fq1b := Za8 (st := Zez) lq1b cq1b kq1b;have bq1b := Fq1b.binds (ps := ["_law_state", "_law_base"]) fun _ _ _ _ _ _ us hl => match us, hl with | [_, _], _ => rfl
 have mq1b := PySem.W.mg_of X G aq1b;have Fq1d := Za8 (st := Zge) lq1d cq1d kq1d;have bq1d := Fq1d.binds (ps := ["_law_state"]) fun _ _ _ _ _ _ us hl => match us, hl with | [_], _ => rfl
 have mq1d := PySem.W.mg_of X G aq1d;have Fq1h := Za8 (st := Zj8) lq1h cq1h kq1h;have bq1h := Fq1h.binds (ps := ["_law_state"]) fun _ _ _ _ _ _ us hl => match us, hl with | [_], _ => rfl
 have mq1h := PySem.W.mg_of X G aq1h;have Fq1f := Za8 (st := Zfk) lq1f cq1f kq1f;have bq1f := Fq1f.binds (ps := ["_law_state", "_law_amount_here"]) fun _ _ _ _ _ _ us hl => match us, hl with | [_, _], _ => rfl
 have mq1f := PySem.W.mg_of X G aq1f;have Fq0y := Za8 (st := Zc2) lq0y cq0y kq0y;have bq0y := Fq0y.binds (ps := ["_law_ask"]) fun _ _ _ _ _ _ us hl => match us, hl with | [_], _ => rfl
 have mq0y := PySem.W.mg_of X G aq0y;have Fq0k := Za8 (st := Zch) lq0k cq0k kq0k;have bq0k := Fq0k.binds (ps := ["_law_state"]) fun _ _ _ _ _ _ us hl => match us, hl with | [_], _ => rfl
 have mq0k := PySem.W.mg_of X G aq0k;have Fq0h := Za8 (st := Zb8) lq0h cq0h kq0h;have bq0h := Fq0h.binds (ps := ["_law_state", "_law_widths"]) fun _ _ _ _ _ _ us hl => match us, hl with | [_, _], _ => rfl
 have mq0h := PySem.W.mg_of X G aq0h;have Fq0w := Za8 (st := Zaz) lq0w cq0w kq0w;have FA_none_so : FunAt K "_law_none_so" "_law_none_so" Zaz _ _ (.ref cL_none_so) := ⟨_, _, _, _, _, _, _, _, rfl, lq0w, cq0w⟩
 have bq0w := Fq0w.binds (ps := ["_law_letter", "_law_piece", "_law_state", "_law_widths"]) fun _ _ _ _ _ _ us hl => match us, hl with | [_, _, _, _], _ => rfl
 have mq0w := PySem.W.mg_of X G aq0w;have Fq0o := Za8 (st := Zas) lq0o cq0o kq0o;have FA_too_wide : FunAt K "_law_too_wide" "_law_too_wide" Zas _ _ (.ref cL_too_wide) := ⟨_, _, _, _, _, _, _, _, rfl, lq0o, cq0o⟩
 have bq0o := Fq0o.binds (ps := ["_law_letter", "_law_piece", "_law_widths"]) fun _ _ _ _ _ _ us hl => match us, hl with | [_, _, _], _ => rfl
 have mq0o := PySem.W.mg_of X G aq0o;have Fq1g := Za8 (st := Ze9) lq1g cq1g kq1g;have FA_law : FunAt K "law" "law" Ze9 _ _ (.ref cL_law) := ⟨_, _, _, _, _, _, _, _, rfl, lq1g, cq1g⟩
 have bq1g := Fq1g.binds (ps := ["_law_script"]) fun _ _ _ _ _ _ us hl => match us, hl with | [_], _ => rfl
 have cl_Letter : Cls K C_Letter := ⟨pg_Letter, hd_Letter, po_Letter, sa_Letter⟩;have m_Letter := PySem.W.mg_of X G aC_Letter;have cl_Piece : Cls K C_Piece := ⟨pg_Piece, hd_Piece, po_Piece, sa_Piece⟩;have m_Piece := PySem.W.mg_of X G aC_Piece;have m_WayError := PySem.W.mg_of X G aC_WayError;have m_NoLetter := PySem.W.mg_of X G aC_NoLetter;have m_NoPiece := PySem.W.mg_of X G aC_NoPiece;have m_NoWidth := PySem.W.mg_of X G aC_NoWidth;have m_TooWide := PySem.W.mg_of X G aC_TooWide;have m_NoRule := PySem.W.mg_of X G aC_NoRule;have m_NoTime := PySem.W.mg_of X G aC_NoTime;have m_NoKey := PySem.W.mg_of X G aC_NoKey;have m_NoText := PySem.W.mg_of X G aC_NoText;have m_NoRow := PySem.W.mg_of X G aC_NoRow;have m_NoRoom := PySem.W.mg_of X G aC_NoRoom;have m_NoRoad := PySem.W.mg_of X G aC_NoRoad;have W_WayError : Zrg K C_WayError := ⟨kty_WayError, kbe_WayError⟩;have X_NoLetter : XC K mg "NoLetter" C_NoLetter := ⟨m_NoLetter, exc_NoLetter⟩
 have E_NoLetter : Zmd K C_NoLetter := ⟨ega_NoLetter, egt_NoLetter, ecl_NoLetter, eob_NoLetter, kbe_NoLetter⟩;have N_NoLetter : Kd K C_WayError [C_NoLetter, C_NoPiece, C_NoWidth, C_TooWide, C_NoRule, C_NoTime, C_NoKey, C_NoText, C_NoRow, C_NoRoom, C_NoRoad] C_NoLetter "letter" := ⟨0, ⟨E_NoLetter, ewy_NoLetter, Zi4 eve_NoLetter, fun j c hc => by
  match j, hc with
  | 0, hc => cases hc; exact Zau kmr_NoLetter_NoLetter kty_NoLetter kbe_NoLetter kmr_NoLetter_NoLetter
  | 1, hc => cases hc; exact Zau kmr_NoLetter_NoPiece kty_NoPiece kbe_NoPiece kmr_NoLetter_NoLetter
  | 2, hc => cases hc; exact Zau kmr_NoLetter_NoWidth kty_NoWidth kbe_NoWidth kmr_NoLetter_NoLetter
  | 3, hc => cases hc; exact Zau kmr_NoLetter_TooWide kty_TooWide kbe_TooWide kmr_NoLetter_NoLetter
  | 4, hc => cases hc; exact Zau kmr_NoLetter_NoRule kty_NoRule kbe_NoRule kmr_NoLetter_NoLetter
  | 5, hc => cases hc; exact Zau kmr_NoLetter_NoTime kty_NoTime kbe_NoTime kmr_NoLetter_NoLetter
  | 6, hc => cases hc; exact Zau kmr_NoLetter_NoKey kty_NoKey kbe_NoKey kmr_NoLetter_NoLetter
  | 7, hc => cases hc; exact Zau kmr_NoLetter_NoText kty_NoText kbe_NoText kmr_NoLetter_NoLetter
  | 8, hc => cases hc; exact Zau kmr_NoLetter_NoRow kty_NoRow kbe_NoRow kmr_NoLetter_NoLetter
  | 9, hc => cases hc; exact Zau kmr_NoLetter_NoRoom kty_NoRoom kbe_NoRoom kmr_NoLetter_NoLetter
  | 10, hc => cases hc; exact Zau kmr_NoLetter_NoRoad kty_NoRoad kbe_NoRoad kmr_NoLetter_NoLetter
  | j + 11, hc => simp at hc⟩, rfl⟩
 have X_NoWidth : XC K mg "NoWidth" C_NoWidth := ⟨m_NoWidth, exc_NoWidth⟩
 have E_NoWidth : Zmd K C_NoWidth := ⟨ega_NoWidth, egt_NoWidth, ecl_NoWidth, eob_NoWidth, kbe_NoWidth⟩;have N_NoWidth : Kd K C_WayError [C_NoLetter, C_NoPiece, C_NoWidth, C_TooWide, C_NoRule, C_NoTime, C_NoKey, C_NoText, C_NoRow, C_NoRoom, C_NoRoad] C_NoWidth "width" := ⟨2, ⟨E_NoWidth, ewy_NoWidth, Zi4 eve_NoWidth, fun j c hc => by
  match j, hc with
  | 0, hc => cases hc; exact Zau kmr_NoWidth_NoLetter kty_NoLetter kbe_NoLetter kmr_NoWidth_NoWidth
  | 1, hc => cases hc; exact Zau kmr_NoWidth_NoPiece kty_NoPiece kbe_NoPiece kmr_NoWidth_NoWidth
  | 2, hc => cases hc; exact Zau kmr_NoWidth_NoWidth kty_NoWidth kbe_NoWidth kmr_NoWidth_NoWidth
  | 3, hc => cases hc; exact Zau kmr_NoWidth_TooWide kty_TooWide kbe_TooWide kmr_NoWidth_NoWidth
  | 4, hc => cases hc; exact Zau kmr_NoWidth_NoRule kty_NoRule kbe_NoRule kmr_NoWidth_NoWidth
  | 5, hc => cases hc; exact Zau kmr_NoWidth_NoTime kty_NoTime kbe_NoTime kmr_NoWidth_NoWidth
  | 6, hc => cases hc; exact Zau kmr_NoWidth_NoKey kty_NoKey kbe_NoKey kmr_NoWidth_NoWidth
  | 7, hc => cases hc; exact Zau kmr_NoWidth_NoText kty_NoText kbe_NoText kmr_NoWidth_NoWidth
  | 8, hc => cases hc; exact Zau kmr_NoWidth_NoRow kty_NoRow kbe_NoRow kmr_NoWidth_NoWidth
  | 9, hc => cases hc; exact Zau kmr_NoWidth_NoRoom kty_NoRoom kbe_NoRoom kmr_NoWidth_NoWidth
  | 10, hc => cases hc; exact Zau kmr_NoWidth_NoRoad kty_NoRoad kbe_NoRoad kmr_NoWidth_NoWidth
  | j + 11, hc => simp at hc⟩, rfl⟩
 have X_TooWide : XC K mg "TooWide" C_TooWide := ⟨m_TooWide, exc_TooWide⟩
 have E_TooWide : Zmd K C_TooWide := ⟨ega_TooWide, egt_TooWide, ecl_TooWide, eob_TooWide, kbe_TooWide⟩;have N_TooWide : Kd K C_WayError [C_NoLetter, C_NoPiece, C_NoWidth, C_TooWide, C_NoRule, C_NoTime, C_NoKey, C_NoText, C_NoRow, C_NoRoom, C_NoRoad] C_TooWide "wide" := ⟨3, ⟨E_TooWide, ewy_TooWide, Zi4 eve_TooWide, fun j c hc => by
  match j, hc with
  | 0, hc => cases hc; exact Zau kmr_TooWide_NoLetter kty_NoLetter kbe_NoLetter kmr_TooWide_TooWide
  | 1, hc => cases hc; exact Zau kmr_TooWide_NoPiece kty_NoPiece kbe_NoPiece kmr_TooWide_TooWide
  | 2, hc => cases hc; exact Zau kmr_TooWide_NoWidth kty_NoWidth kbe_NoWidth kmr_TooWide_TooWide
  | 3, hc => cases hc; exact Zau kmr_TooWide_TooWide kty_TooWide kbe_TooWide kmr_TooWide_TooWide
  | 4, hc => cases hc; exact Zau kmr_TooWide_NoRule kty_NoRule kbe_NoRule kmr_TooWide_TooWide
  | 5, hc => cases hc; exact Zau kmr_TooWide_NoTime kty_NoTime kbe_NoTime kmr_TooWide_TooWide
  | 6, hc => cases hc; exact Zau kmr_TooWide_NoKey kty_NoKey kbe_NoKey kmr_TooWide_TooWide
  | 7, hc => cases hc; exact Zau kmr_TooWide_NoText kty_NoText kbe_NoText kmr_TooWide_TooWide
  | 8, hc => cases hc; exact Zau kmr_TooWide_NoRow kty_NoRow kbe_NoRow kmr_TooWide_TooWide
  | 9, hc => cases hc; exact Zau kmr_TooWide_NoRoom kty_NoRoom kbe_NoRoom kmr_TooWide_TooWide
  | 10, hc => cases hc; exact Zau kmr_TooWide_NoRoad kty_NoRoad kbe_NoRoad kmr_TooWide_TooWide
  | j + 11, hc => simp at hc⟩, rfl⟩
 have RC : Znw K mg C_WayError [C_NoLetter, C_NoPiece, C_NoWidth, C_TooWide, C_NoRule, C_NoTime, C_NoKey, C_NoText, C_NoRow, C_NoRoom, C_NoRoad] := ⟨m_WayError, W_WayError, rfl, (fun c hc => by cases hc; exact m_NoLetter), (fun c hc => by cases hc; exact m_NoPiece), (fun c hc => by cases hc; exact m_NoWidth), (fun c hc => by cases hc; exact m_TooWide), (fun c hc => by cases hc; exact m_NoRule), (fun c hc => by cases hc; exact m_NoTime), (fun c hc => by cases hc; exact m_NoKey), (fun c hc => by cases hc; exact m_NoText), (fun c hc => by cases hc; exact m_NoRow), (fun c hc => by cases hc; exact m_NoRoom), (fun c hc => by cases hc; exact m_NoRoad)⟩;have B5 : Bt5 mg := ⟨PySem.W.mg_none_of X G z_ValueError⟩;have B : Bt mg := ⟨PySem.W.mg_none_of X G z_len, PySem.W.mg_none_of X G z_range, PySem.W.mg_none_of X G z_isinstance, PySem.W.mg_none_of X G z_all, PySem.W.mg_none_of X G z_min, PySem.W.mg_none_of X G z_max, PySem.W.mg_none_of X G z_int, PySem.W.mg_none_of X G z_bool, PySem.W.mg_none_of X G z_str, PySem.W.mg_none_of X G z_list, PySem.W.mg_none_of X G z_tuple⟩;have T : Cn mg := ⟨⟨_, PySem.W.mg_of X G q_MOST_NUMBER⟩, ⟨_, PySem.W.mg_of X G q_MOST_BYTE⟩, ⟨_, PySem.W.mg_of X G q_MOST_SIGNS⟩, ⟨_, PySem.W.mg_of X G q_MOST_BYTES⟩, ⟨_, PySem.W.mg_of X G q_LEAST_WIDTH⟩, ⟨_, PySem.W.mg_of X G q_MOST_WIDTH⟩, ⟨_, PySem.W.mg_of X G q_MOST_WIDTHS⟩, ⟨_, PySem.W.mg_of X G q_STEP⟩⟩;refine ⟨cL_none_so, tL_none_so, cL_too_wide, tL_too_wide, cL_law, tL_law, PySem.W.fnOf "law" "law" (Zan Ze9) (defBody Ze9) (defScope Ze9) .none kVq1g dcq1g pmq1g anq1g (.ref cL_law) ctq1g, Zkz aq0w lq0w rfl lcL_none_so l11_none_so, Zkz aq0o lq0o rfl lcL_too_wide l11_too_wide, Zkz aq1g lq1g rfl lcL_law l11_law, nt, fun s v => .of_eq rfl, fun base kb nb LC_none_so LC_too_wide LC_law => ?_⟩;have L : Zmf K C_Letter := ⟨cl_Letter, n_Letter_number, n_Letter_sender, n_Letter_goal, n_Letter_body, n_Letter_keep⟩;have LP : Zkr K C_Piece := ⟨cl_Piece, n_Piece_number, n_Piece_sender, n_Piece_goal, n_Piece_at, n_Piece_body, n_Piece_more, n_Piece_keep⟩;have gq0s : FnB l.prog w K mg base "is_whole" 1 ["value"] [] (Zdl) := ⟨_, _, _, Ziy Fq0s B, mq0s, kq0s, bq0s, .nil⟩
 have gq0b : FnB l.prog w K mg base "is_whole_within" 2 ["value", "low", "high"] [] (Za3) := ⟨_, _, _, Zel Fq0b gq0s, mq0b, kq0b, bq0b, .nil⟩
 have gq0n : FnB l.prog w K mg base "is_truth" 1 ["value"] [] (Zdm) := ⟨_, _, _, Ziz Fq0n B, mq0n, kq0n, bq0n, .nil⟩
 have gq0j : FnB l.prog w K mg base "is_number" 3 ["value"] [] (Zdv) := ⟨_, _, _, Zhw Fq0j T gq0b, mq0j, kq0j, bq0j, .nil⟩
 have gq0x : FnB l.prog w K mg base "is_name" 1 ["value"] [] (Zev) := ⟨_, _, _, Zke Fq0x T B, mq0x, kq0x, bq0x, .nil⟩
 have gq0u : FnB l.prog w K mg base "is_byte" 3 ["value"] [] (Zew) := ⟨_, _, _, Zkf Fq0u T gq0b, mq0u, kq0u, bq0u, .nil⟩
 have gq0v : FnB l.prog w K mg base "is_body" 4 ["value"] [] (Zex) := ⟨_, _, _, Zkg Fq0v T B gq0u, mq0v, kq0v, bq0v, .nil⟩
 have gq0a : FnB l.prog w K mg base "are_shared_parts" 5 ["number", "sender", "goal", "body", "keep"] [] (Zbi) := ⟨_, _, _, Zed Fq0a gq0j gq0x gq0v gq0n, mq0a, kq0a, bq0a, .nil⟩
 have gq0p : FnB l.prog w K mg base "is_place" 2 ["at"] [] (Zd6) := ⟨_, _, _, Zi0 Fq0p T gq0s, mq0p, kq0p, bq0p, .nil⟩
 have gq0r : FnB l.prog w K mg base "has_room" 1 ["at", "length", "more"] [] (Zd7) := ⟨_, _, _, Zi1 Fq0r T, mq0r, kq0r, bq0r, .nil⟩
 have o_Letter : FnOk l.prog w K mg base CX0 6 fq0e _ ["self", "number", "sender", "goal", "body", "keep"] (Zb1 C_Letter) := Zf6 ⟨_, _, _, _, _, _, _, _, _, _, rfl, lq0e, cq0e⟩ L B gq0a;have M_Letter : Mk K C_Letter fq0e := ⟨mk_Letter, aq0e, iq0e, kc_Letter⟩;have i_Letter : MkB l.prog w K mg base "Letter" C_Letter 6 ["self", "number", "sender", "goal", "body", "keep"] [] (Zb1 C_Letter) := ⟨_, _, [], o_Letter, m_Letter, M_Letter, (fun s us kx hl => match us, hl with | [_, _, _, _, _, _], _ => Zf8 kx tq0e), .nil⟩
 have i_Letter_d1 : MkB l.prog w K mg base "Letter" C_Letter 6 ["self", "number", "sender", "goal", "body", "keep"] [.bl false] (Zb1 C_Letter) := ⟨_, _, [.bool false], o_Letter, m_Letter, M_Letter, (fun s us kx hl => by obtain ⟨u0, u1, u2, u3, u4, rfl⟩ := Zje hl; exact Zf9 kx tq0e), .cons rfl .nil⟩
 have o_Piece : FnOk l.prog w K mg base CX0 6 fq0g _ ["self", "number", "sender", "goal", "at", "body", "more", "keep"] (Zcc C_Piece) := Zg4 ⟨_, _, _, _, _, _, _, _, _, _, rfl, lq0g, cq0g⟩ LP B gq0a gq0p gq0n gq0r;have M_Piece : Mk K C_Piece fq0g := ⟨mk_Piece, aq0g, iq0g, kc_Piece⟩;have i_Piece : MkB l.prog w K mg base "Piece" C_Piece 6 ["self", "number", "sender", "goal", "at", "body", "more", "keep"] [] (Zcc C_Piece) := ⟨_, _, [], o_Piece, m_Piece, M_Piece, (fun s us kx hl => match us, hl with | [_, _, _, _, _, _, _, _], _ => Zhf kx tq0g), .nil⟩
 have i_Piece_d1 : MkB l.prog w K mg base "Piece" C_Piece 6 ["self", "number", "sender", "goal", "at", "body", "more", "keep"] [.bl false] (Zcc C_Piece) := ⟨_, _, [.bool false], o_Piece, m_Piece, M_Piece, (fun s us kx hl => by obtain ⟨u0, u1, u2, u3, u4, u5, u6, rfl⟩ := Zko hl; exact Zhg kx tq0g), .cons rfl .nil⟩
 have gq0m : FnB l.prog w K mg base "is_length" 3 ["value"] [] (Zdw) := ⟨_, _, _, Zhx Fq0m T gq0b, mq0m, kq0m, bq0m, .nil⟩
 have gq0q : FnB l.prog w K mg base "is_width" 3 ["value"] [] (Zdk) := ⟨_, _, _, Zix Fq0q T gq0b, mq0q, kq0q, bq0q, .nil⟩
 have gq0i : FnB l.prog w K mg base "are_widths" 4 ["value"] [] (Zdn) := ⟨_, _, _, Zg3 Fq0i T B gq0q, mq0i, kq0i, bq0i, .nil⟩
 have gq0d : FnX l.prog w K mg base "check_widths" 5 ["widths"] [] (Zbq C_NoWidth) := ⟨_, _, _, Zfr Fq0d X_NoWidth gq0i, mq0d, kq0d, bq0d, .nil⟩
 have gq0f : FnB l.prog w K mg base "full_length" 1 ["width"] [] (Zcn) := ⟨_, _, _, Zf5 Fq0f T, mq0f, kq0f, bq0f, .nil⟩
 have gq0z : FnB l.prog w K mg base "part_of" 8 ["piece", "low", "high"] [] (Zet C_Piece) := ⟨_, _, _, Zkc Fq0z B LP (Zsk i_Piece), mq0z, kq0z, bq0z, .nil⟩
 have gq0l : FnX l.prog w K mg base "cut_again" 9 ["piece", "width"] [] (Zb6 C_Piece C_NoWidth C_TooWide) := ⟨_, _, _, Zhy Fq0l B LP X_NoWidth X_TooWide gq0q gq0f gq0z, mq0l, kq0l, bq0l, .nil⟩
 have gq1i : FnX l.prog w K mg base "cut" 10 ["letter", "width"] [] (Zgb C_Letter C_Piece C_NoWidth C_TooWide) := ⟨_, _, _, Zqt Fq1i L (Zsk i_Piece) gq0l, mq1i, kq1i, bq1i, .nil⟩
 have gq0c : FnX l.prog w K mg base "all_cut_again" 10 ["pieces", "width"] [] (Zco C_Piece C_TooWide) := ⟨_, _, _, Zfa Fq0c gq0l, mq0c, kq0c, bq0c, .nil⟩
 have gq0t : FnX l.prog w K mg base "cut_over" 11 ["pieces", "widths"] [] (Zd8 C_Piece C_TooWide) := ⟨_, _, _, Zi2 Fq0t gq0c, mq0t, kq0t, bq0t, .nil⟩
 have gq1e : FnX l.prog w K mg base "sent" 12 ["letter", "widths"] [] (Zfi C_Letter C_Piece C_NoWidth C_TooWide) := ⟨_, _, _, Zop Fq1e gq0d gq1i gq0t, mq1e, kq1e, bq1e, .nil⟩
 have gq1a : FnX l.prog w K mg base "least" 6 ["length", "widths"] [] (Zeg C_NoWidth C_NoLetter) := ⟨_, _, _, Zm0 Fq1a B X_NoLetter gq0d gq0m gq0f, mq1a, kq1a, bq1a, .nil⟩
 have gq1c : FnX l.prog w K mg base "best" 11 ["letter", "widths"] [] (Zgq C_Letter C_Piece C_NoWidth C_TooWide) := ⟨_, _, _, Zos Fq1c B gq0d gq1i, mq1c, kq1c, bq1c, .nil⟩
 have gq1b : FnB l.prog w K mg base "_law_digit" 1 ["_law_state", "_law_base"] [] (Zcu) := ⟨_, _, _, Zm1 Fq1b B, mq1b, kq1b, bq1b, .nil⟩
 have gq1d : FnB l.prog w K mg base "_law_name" 2 ["_law_state"] [] (Zil) := ⟨_, _, _, Zoq Fq1d B gq1b, mq1d, kq1d, bq1d, .nil⟩
 have gq1h : FnB l.prog w K mg base "_law_key" 3 ["_law_state"] [] (Zk7) := ⟨_, _, _, Zqs Fq1h gq1b gq1d, mq1h, kq1h, bq1h, .nil⟩
 have gq1f : FnB l.prog w K mg base "_law_body" 2 ["_law_state", "_law_amount_here"] [] (Zim) := ⟨_, _, _, Zor Fq1f B gq1b, mq1f, kq1f, bq1f, .nil⟩
 have gq0y : FnB l.prog w K mg base "_law_refusal" 14 ["_law_ask"] [] (sp_refusal l.prog w K mg base 13 C_WayError [C_NoLetter, C_NoPiece, C_NoWidth, C_TooWide, C_NoRule, C_NoTime, C_NoKey, C_NoText, C_NoRow, C_NoRoom, C_NoRoad]) := ⟨_, _, _, Zkb Fq0y B B5 RC, mq0y, kq0y, bq0y, .nil⟩
 have gq0k : FnB l.prog w K mg base "_law_odd_width" 2 ["_law_state"] [] (Zc7) := ⟨_, _, _, Zhv Fq0k gq1b, mq0k, kq0k, bq0k, .nil⟩
 have gq0h : FnB l.prog w K mg base "_law_odd_widths" 3 ["_law_state", "_law_widths"] [] (Zdj) := ⟨_, _, _, Zg2 Fq0h B gq1b gq0k, mq0h, kq0h, bq0h, .nil⟩
 have gq0w : FnB l.prog w K mg base "_law_none_so" 15 ["_law_letter", "_law_piece", "_law_state", "_law_widths"] [] (Zeu tL_none_so C_Letter C_Piece) := ⟨_, _, _, Zkd FA_none_so LC_none_so N_NoWidth gq1b gq0k gq0h gq0y gq1i gq0l gq1e gq1c gq1a, mq0w, kq0w, bq0w, .nil⟩
 have gq0o : FnB l.prog w K mg base "_law_too_wide" 15 ["_law_letter", "_law_piece", "_law_widths"] [] (Zd5 tL_too_wide C_Letter C_Piece) := ⟨_, _, _, Ziw FA_too_wide B L LP LC_too_wide N_TooWide gq0y gq1i gq0l gq1e gq1c, mq0o, kq0o, bq0o, .nil⟩
 exact Zqr FA_law B LC_law ne_12 ne_13 ne_23 N_NoLetter L LP gq1b gq1h gq1f gq0y gq0w gq0o (Ztk i_Letter) (Zsk i_Piece) gq1e gq1a
theorem walk {l : PySem.W.OpenLaw} {q : Program} {loose : List Str} {XP : (Str -> Option Value) -> Heap -> Prop} {YP : World -> Heap -> Prop} {d d1 d2 d3 : DefRec} {K : Params -> PySem.W.Frag} (hn : l.most = some 63) (hdf : d.params.defaults = [])
  (hY : ∀ (w : World) (h : Heap), YP w h -> (K w.params).In h) (hrec1 : (recsOf q).find? (fun e => e.name == ("_law_none_so" : Str)) = some d1) (hrec2 : (recsOf q).find? (fun e => e.name == ("_law_too_wide" : Str)) = some d2) (hrec3 : (recsOf q).find? (fun e => e.name == ("law" : Str)) = some d3)
  (F : ∀ (w : World) (mg : Str -> Option Value) (fa : Addr) (h : Heap), (K w.params).In h -> h.Ns mainGlobals mg -> mg d.name = some (.ref fa) ->
   ∃ (c1 T1 c2 T2 c3 T3 : Addr) (fd : FuncData), PySem.W.tabIn (K w.params) "_law_none_so" = some (c1, T1) /\ PySem.W.tabIn (K w.params) "_law_too_wide" = some (c2, T2) /\ PySem.W.tabIn (K w.params) "law" = some (c3, T3) /\ PySem.W.noTabs (K w.params) = true /\ (∀ (s : Shared) (u : Value), BindsTo s fd ⟨[u], []⟩ [("_law_script", u)]) /\ ∀ base : Heap, (K w.params).In base -> base.Ns mainGlobals mg -> LamCx mg base c1 T1 -> LamCx mg base c2 T2 -> LamCx mg base c3 T3 -> FnOk l.prog w (K w.params) mg base CX0 16 fa fd ["_law_script"] (Zfc (K w.params) T1 T2 T3)) :
  PySem.W.WalkO q loose XP YP l.row.toRowW d [] (fun f vs => PySem.call f vs) :=
 L2.walk_of3 (y1 := "_law_none_so") (y2 := "_law_too_wide") (y3 := "law") (n := 63) (k := 16) (x := "_law_script") (sp := fun w T1 T2 T3 => Zfc (K w.params) T1 T2 T3) hn (by decide) hdf ⟨rfl, by decide, by decide⟩ hY hrec1 hrec2 hrec3 F fun _ _ _ _ _ a ns hl h1 h2 h3 hS => ⟨a, ns, rfl, hS, hl, h1, h2, h3, fun _ => rfl⟩
end Mine
namespace PySem.W.Fast
def tw10669099094807704576 := ()
def tw13474014695266922624 := ()
def tw13883206644711954656 := ()
def tw9611651494065954144 := ()
def tw12211421244632123904 := ()
def tw8007796314406801920 := ()
def tw5959035418186878528 := ()
def tw7370707670726593088 := ()
def tw12095794368000739968 := ()
def tw570894665911421600 := ()
def tw11868030858715447968 := ()
def tw14222065840346180512 := ()
def tw18379692762078726080 := ()
def tw5453469932862969921 := ()
def tw2394573751177338017 := ()
def tw8819995104756566209 := ()
def tw8133634182273126657 := ()
def tw16358815950181252449 := ()
def tw9598980451865777537 := ()
def tw1741965101044887937 := ()
def tw303644687246097857 := ()
def tw12181983211147524545 := ()
def tw18037245471968460257 := ()
def tw1692875455962386017 := ()
def tw16026650140471934721 := ()
def tw3473980740007425921 := ()
def tw3071127810647896066 := ()
def tw13057144855544291426 := ()
def tw10198005972964823170 := ()
def tw18000095202294360450 := ()
def tw14527584655525802626 := ()
def tw13108851323040524930 := ()
def tw8593144435249867426 := ()
def tw9314164161324168866 := ()
def tw8599210781965778626 := ()
def tw7463593052794019554 := ()
def tw13405706112629741314 := ()
def tw1088534075459910434 := ()
def tw11701628010383966050 := ()
def tw16222998623384507491 := ()
def tw18395394460787500131 := ()
def tw18196249254821808323 := ()
def tw12025495369004464323 := ()
def tw10680556274649568611 := ()
def tw11248672708201601475 := ()
def tw1336264100826088035 := ()
def tw14725622952257729315 := ()
def tw5455284937641740131 := ()
def tw15735487158630945731 := ()
def tw9856872729299545124 := ()
def tw14437400380242761764 := ()
def tw11406478799800098084 := ()
def tw4378856706566144356 := ()
def tw11718140509742724452 := ()
def tw841510886165214596 := ()
def tw12734259778414752164 := ()
def tw2995030126925232612 := ()
def tw339424519182388804 := ()
def tw17335061920659662404 := ()
def tw5445942949135728260 := ()
def tw8171212611695377124 := ()
def tw11356075941875765092 := ()
def tw6240705955310284740 := ()
def tw5264201482013732901 := ()
def tw14967870586998465765 := ()
def tw17052088776521182629 := ()
def tw7790519383623670245 := ()
def tw54657480438770277 := ()
def tw16176001214700506789 := ()
def tw16249944481841736357 := ()
def tw14027873601768124165 := ()
def tw16540007801106155301 := ()
def tw5684111306838948709 := ()
def tw15814127373169855333 := ()
def tw14602518314689186693 := ()
def tw17354134038809971621 := ()
def tw13691925140078627813 := ()
def tw4974994843790962758 := ()
def tw3726311738051522694 := ()
def tw13262621313516331238 := ()
def tw2342982489878523142 := ()
def tw882480272971893158 := ()
def tw7070724097489677958 := ()
def tw11406653188175626022 := ()
def tw15582581834269359431 := ()
def tw16168512823159172487 := ()
def tw14093691789309428263 := ()
def tw15217811269455986343 := ()
def tw15399432659017318119 := ()
def tw3413773037995032327 := ()
def tw3107263003189819175 := ()
def tw4787909494374882119 := ()
def tw7192794449576319048 := ()
def tw16867680112822301832 := ()
def tw9963821416113553608 := ()
def tw6866032852081040680 := ()
def tw468078994509554024 := ()
def tw5161659640788226536 := ()
def tw2881135385917853192 := ()
def tw17692892445264580073 := ()
def tw11200795514046368361 := ()
def tw2914598964131755721 := ()
def tw13798421210668490858 := ()
def tw9429975937058610378 := ()
def tw11592395535048236266 := ()
def tw1144197976258768170 := ()
def tw10387857821765379434 := ()
def tw191987447250907594 := ()
def tw18413614163745345994 := ()
def tw5556530369065991754 := ()
def tw8111762381540628170 := ()
def tw4949300521508554442 := ()
def tw16124189354133342954 := ()
def tw1575436703534504714 := ()
def tw14864929640479184714 := ()
def tw2040952567317722986 := ()
def tw17465659105875860426 := ()
def tw13895232452455501995 := ()
def tw13725566889308846251 := ()
def tw14853313045102148875 := ()
def tw6566405408743405963 := ()
def tw4804900614138204555 := ()
def tw10533792355009899083 := ()
def tw17993912849337763531 := ()
def tw6082186279058587435 := ()
def tw11159916108057188299 := ()
def tw13086783939025641419 := ()
def tw10014969343515545644 := ()
def tw751642205573149836 := ()
def tw2098787037321406636 := ()
def tw954532400662329516 := ()
def tw14576661866779384012 := ()
def tw11438404446587653356 := ()
def tw587783037021464876 := ()
def tw11666457347971181900 := ()
def tw3905785050435363244 := ()
def tw17249291035804660460 := ()
def tw14894208280260933420 := ()
def tw14429483979535197100 := ()
def tw7451583325556750284 := ()
def tw9146068870521528333 := ()
def tw1425071369113001005 := ()
def tw16819593996432699597 := ()
def tw8754149358312244557 := ()
def tw16426970534403629421 := ()
def tw17084164416756052493 := ()
def tw11155882028508758669 := ()
def tw1961364062156674733 := ()
def tw15815385251616064205 := ()
def tw173563188344091373 := ()
def tw6650800229820743501 := ()
def tw17265494595196370797 := ()
def tw2252668481635122318 := ()
def tw437812172408838318 := ()
def tw18134825593082955022 := ()
def tw16838928129953723662 := ()
def tw16851286121757460014 := ()
def tw1193796232981560910 := ()
def tw7109428480189375086 := ()
def tw15328249167084233390 := ()
def tw6227062581630566062 := ()
def tw614233835648252750 := ()
def tw14456954876525257646 := ()
def tw15818943467885416623 := ()
def tw2153956970891193551 := ()
def tw7290027449713178063 := ()
def tw10790238765230383567 := ()
def tw260378885188661871 := ()
def tw18185998612184841039 := ()
def tw10531510979768063951 := ()
def tw16678400395141472207 := ()
def tw6320617090323890224 := ()
def tw5644950302000864336 := ()
def tw5205402136331573488 := ()
def tw2977720215114870224 := ()
def tw1986315265095258608 := ()
def tw6786249640766369328 := ()
def tw13695998002213384784 := ()
def tw10183757654634403536 := ()
def tw9709527064273266384 := ()
def tw16780356697187624688 := ()
def tw4684991948461685488 := ()
def tw9557449631604924497 := ()
def tw5122815861848779953 := ()
def tw17057932710111786257 := ()
def tw11973263995378475313 := ()
def tw10157949645256117553 := ()
def tw8219894558882129233 := ()
def tw11011535918113878353 := ()
def tw10679776540732841457 := ()
def tw2902944256994894545 := ()
def tw7496207525029627058 := ()
def tw4694288031087104306 := ()
def tw1839228783179451858 := ()
def tw12316072391405113842 := ()
def tw5493838939080433266 := ()
def tw999980308991027890 := ()
def tw5414725132236646162 := ()
def tw14037441883972091730 := ()
def tw607108063656551346 := ()
def tw10007021875469899730 := ()
def tw7578168786540371987 := ()
def tw9855955534901335059 := ()
def tw12241133090229487699 := ()
def tw3296867857312193619 := ()
def tw108313077055948915 := ()
def tw9814187059935477875 := ()
def tw5050178678616295571 := ()
def tw2834700315860271315 := ()
def tw9761585679860419795 := ()
def tw14971850470770824403 := ()
def tw1663660673230008563 := ()
def tw10642681655395412435 := ()
def tw917135340218677811 := ()
def tw3709404993742022227 := ()
def tw17492732472950182707 := ()
def tw8800497115267918675 := ()
def tw12626817387295857523 := ()
def tw18040777103227961299 := ()
def tw1208807419026953268 := ()
def tw6761216182003505620 := ()
def tw16447592083563911892 := ()
def tw12628288627552694325 := ()
def tw4683603435436165397 := ()
def tw10353705492907327861 := ()
def tw11420518757856021973 := ()
def tw5565916171630358997 := ()
def tw17871228301858812469 := ()
def tw14588571495107519061 := ()
def tw2358957418472357589 := ()
def tw13206538053298502389 := ()
def tw5758541017724182261 := ()
def tw3702890724071656213 := ()
def tw2142617794599588757 := ()
def tw6406783269198805078 := ()
def tw11812420722239369302 := ()
def tw5980582791235476630 := ()
def tw43319577217712310 := ()
def tw1310250080508812630 := ()
def tw14387502058171010422 := ()
def tw2362209339216130454 := ()
def tw14512545914059691446 := ()
def tw12280202922102371958 := ()
def tw13764797264352925398 := ()
def tw18328504641634334582 := ()
def tw16845232452962818103 := ()
def tw14673387459296966039 := ()
def tw14126333369495942679 := ()
def tw4048169901307122295 := ()
def tw2367741502446051959 := ()
def tw3350053377122271927 := ()
def tw12477731492225432471 := ()
def tw10372743312774806487 := ()
def tw18412625545792534519 := ()
def tw17139229447480252407 := ()
def tw4597467398199657528 := ()
def tw16308121011706113400 := ()
def tw6971215674161444216 := ()
def tw12650166041840106872 := ()
def tw7174459938314561976 := ()
def tw3956394191216558616 := ()
def tw17909482650613088856 := ()
def tw9171821702340009560 := ()
def tw2841276579330524824 := ()
def tw5362540839347469016 := ()
def tw1260727070761004952 := ()
def tw18040123770249296953 := ()
def tw3296338448973744537 := ()
def tw7773519175282257465 := ()
def tw3868753754883749465 := ()
def tw8700898571895444153 := ()
def tw14634213660649947226 := ()
def tw16774226827239522426 := ()
def tw15932800596933720186 := ()
def tw9068925998662251706 := ()
def tw12011108530715302106 := ()
def tw3592762064691285274 := ()
def tw1015238239959930138 := ()
def tw6231877133314325914 := ()
def tw7290724355359230522 := ()
def tw2666836116719630938 := ()
def tw4368304013469878010 := ()
def tw728180830036636442 := ()
def tw4989418959566349114 := ()
def tw7219593151386051514 := ()
def tw12806953124573810779 := ()
def tw16729701133939873915 := ()
def tw4160317107687130299 := ()
def tw8723487736793327867 := ()
def tw13364548957381070139 := ()
def tw10790277912915332443 := ()
def tw9936345223718302171 := ()
def tw6382363098931953115 := ()
def tw2158952939956034043 := ()
def tw17298377816106550779 := ()
def tw7935513677260812827 := ()
def tw7151587331249461851 := ()
def tw2205265482614210203 := ()
def tw11128804879473479355 := ()
def tw8114446663431468827 := ()
def tw2358034750859595579 := ()
def tw4771043907414557659 := ()
def tw12159519833898471452 := ()
def tw17240530282842479644 := ()
def tw165377421040463964 := ()
def tw12026354177037465756 := ()
def tw1265693046286982364 := ()
def tw15082066323076497948 := ()
def tw10442318250699528828 := ()
def tw17440902379820275356 := ()
def tw25297358734728221 := ()
def tw17889803719134140509 := ()
def tw15957260364567136541 := ()
def tw4407827033594190141 := ()
def tw2350300951996293821 := ()
def tw12590078181057132221 := ()
def tw9491002410939914973 := ()
def tw14186922749521927965 := ()
def tw3755041254739146621 := ()
def tw8795757264872909757 := ()
def tw17840930507308635101 := ()
def tw16083299236670546941 := ()
def tw5596444981924198558 := ()
def tw10715638494360152222 := ()
def tw11316144572681381054 := ()
def tw725369895419263262 := ()
def tw14878845154336744830 := ()
def tw5250350919514053054 := ()
def tw7171532803689179614 := ()
def tw14783998139748469246 := ()
def tw1465199860159698558 := ()
def tw1238448967789395614 := ()
def tw8046588879906305726 := ()
def tw1492272456741491390 := ()
def tw10288747544455799582 := ()
def tw11228709575433395134 := ()
def tw8772803898975066175 := ()
def tw14714621635107330143 := ()
def tw11473361265588535647 := ()
def tw16149632092435970431 := ()
def tw14617771022992581087 := ()
def tw11513739177210471935 := ()
def tw11683483195670207007 := ()
def tw10295054434951072319 := ()
def tw15942830221440087647 := ()
def tw17590071427344983679 := ()
def tw8289230801353806655 := ()
def tw5805124207602493375 := ()
def tw1108401742923656127 := ()
def tw5556590532797069247 := ()
def tw15878334007545863135 := ()
end PySem.W.Fast
open PySem PySem.W PyProof.Rows
set_option maxRecDepth 100000 in
set_option maxHeartbeats 0 in
theorem PySem.Challenge.cw_pieceways_k14_roads_refused_holds : PySem.Challenge.rw_pieceways_k14_roads_refused.Holds := by
 w_on; o_law; k_head; (case hw => w_witness2)
 k_fill
 refine Mine.walk (l := PySem.Challenge.rw_pieceways_k14_roads_refused) rfl rfl (fun w h Y => PySem.W.km_in_of Y) rfl rfl rfl ?F
 case F =>
  intro w mg fa h KX G hmg;refine' Mine.all_mk KX G hmg ?aq0s ?lq0s ?cq0s ?kq0s ?aq0b ?lq0b ?cq0b ?kq0b ?aq0n ?lq0n ?cq0n ?kq0n ?aq0j ?lq0j ?cq0j ?kq0j ?aq0x ?lq0x ?cq0x ?kq0x ?aq0u ?lq0u ?cq0u ?kq0u ?aq0v ?lq0v ?cq0v ?kq0v ?aq0a ?lq0a ?cq0a ?kq0a ?aq0p ?lq0p ?cq0p ?kq0p ?aq0r ?lq0r ?cq0r ?kq0r ?aq0m ?lq0m ?cq0m ?kq0m ?aq0q ?lq0q ?cq0q ?kq0q ?aq0i ?lq0i ?cq0i ?kq0i ?aq0d ?lq0d ?cq0d ?kq0d ?aq0f ?lq0f ?cq0f ?kq0f ?aq0z ?lq0z ?cq0z ?kq0z ?aq0l ?lq0l ?cq0l ?kq0l ?aq1i ?lq1i ?cq1i ?kq1i ?aq0c ?lq0c ?cq0c ?kq0c ?aq0t ?lq0t ?cq0t ?kq0t ?aq1e ?lq1e ?cq1e ?kq1e ?aq1a ?lq1a ?cq1a ?kq1a ?aq1c ?lq1c ?cq1c ?kq1c ?aq1b ?lq1b ?cq1b ?kq1b ?aq1d ?lq1d ?cq1d ?kq1d ?aq1h ?lq1h ?cq1h ?kq1h ?aq1f ?lq1f ?cq1f ?kq1f ?aq0y ?lq0y ?cq0y ?kq0y ?aq0k ?lq0k ?cq0k ?kq0k ?aq0h ?lq0h ?cq0h ?kq0h ?aq0w ?lq0w ?cq0w ?lcLq0w ?l11q0w ?kq0w ?aq0o ?lq0o ?cq0o ?lcLq0o ?l11q0o ?kq0o ?aq1g ?lq1g ?cq1g ?lcLq1g ?l11q1g ?kq1g ?aC_Letter ?aq0e ?iq0e ?lq0e ?cq0e ?kq0e ?tq0e ?pg_Letter ?hd_Letter ?po_Letter ?sa_Letter ?mk_Letter ?kc_Letter ?n_Letter_number ?n_Letter_sender ?n_Letter_goal ?n_Letterq1f ?n_Letter_keep ?aC_Piece ?aq0g ?iq0g ?lq0g ?cq0g ?kq0g ?tq0g ?pg_Piece ?hd_Piece ?po_Piece ?sa_Piece ?mk_Piece ?kc_Piece ?n_Piece_number ?n_Piece_sender ?n_Piece_goal ?n_Piece_at ?n_Pieceq1f ?n_Piece_more ?n_Piece_keep ?aC_WayError ?kty_WayError ?kbe_WayError ?aC_NoLetter ?kty_NoLetter ?kbe_NoLetter ?aC_NoPiece ?kty_NoPiece ?kbe_NoPiece ?aC_NoWidth ?kty_NoWidth ?kbe_NoWidth ?aC_TooWide ?kty_TooWide ?kbe_TooWide ?aC_NoRule ?kty_NoRule ?kbe_NoRule ?aC_NoTime ?kty_NoTime ?kbe_NoTime ?aC_NoKey ?kty_NoKey ?kbe_NoKey ?aC_NoText ?kty_NoText ?kbe_NoText ?aC_NoRow ?kty_NoRow ?kbe_NoRow ?aC_NoRoom ?kty_NoRoom ?kbe_NoRoom ?aC_NoRoad ?kty_NoRoad ?kbe_NoRoad ?exc_NoLetter ?ega_NoLetter ?egt_NoLetter ?ecl_NoLetter ?eob_NoLetter ?eve_NoLetter ?ewy_NoLetter ?kmr_NoLetter_NoLetter ?kmr_NoLetter_NoPiece ?kmr_NoLetter_NoWidth ?kmr_NoLetter_TooWide ?kmr_NoLetter_NoRule ?kmr_NoLetter_NoTime ?kmr_NoLetter_NoKey ?kmr_NoLetter_NoText ?kmr_NoLetter_NoRow ?kmr_NoLetter_NoRoom ?kmr_NoLetter_NoRoad ?exc_NoWidth ?ega_NoWidth ?egt_NoWidth ?ecl_NoWidth ?eob_NoWidth ?eve_NoWidth ?ewy_NoWidth ?kmr_NoWidth_NoLetter ?kmr_NoWidth_NoPiece ?kmr_NoWidth_NoWidth ?kmr_NoWidth_TooWide ?kmr_NoWidth_NoRule ?kmr_NoWidth_NoTime ?kmr_NoWidth_NoKey ?kmr_NoWidth_NoText ?kmr_NoWidth_NoRow ?kmr_NoWidth_NoRoom ?kmr_NoWidth_NoRoad ?exc_TooWide ?ega_TooWide ?egt_TooWide ?ecl_TooWide ?eob_TooWide ?eve_TooWide ?ewy_TooWide ?kmr_TooWide_NoLetter ?kmr_TooWide_NoPiece ?kmr_TooWide_NoWidth ?kmr_TooWide_TooWide ?kmr_TooWide_NoRule ?kmr_TooWide_NoTime ?kmr_TooWide_NoKey ?kmr_TooWide_NoText ?kmr_TooWide_NoRow ?kmr_TooWide_NoRoom ?kmr_TooWide_NoRoad ?z_ValueError ?nt ?ne_12 ?ne_13 ?ne_23 ?q_MOST_NUMBER ?q_MOST_BYTE ?q_MOST_SIGNS ?q_MOST_BYTES ?q_LEAST_WIDTH ?q_MOST_WIDTH ?q_MOST_WIDTHS ?q_STEP ?z_len ?z_range ?z_isinstance ?z_all ?z_min ?z_max ?z_int ?z_bool ?z_str ?z_list ?z_tuple
  (case aq0s => k_is)
  (case lq0s => k_is)
  (case cq0s => k_is)
  (case kq0s => k_is)
  (case aq0b => k_is)
  (case lq0b => k_is)
  (case cq0b => k_is)
  (case kq0b => k_is)
  (case aq0n => k_is)
  (case lq0n => k_is)
  (case cq0n => k_is)
  (case kq0n => k_is)
  (case aq0j => k_is)
  (case lq0j => k_is)
  (case cq0j => k_is)
  (case kq0j => k_is)
  (case aq0x => k_is)
  (case lq0x => k_is)
  (case cq0x => k_is)
  (case kq0x => k_is)
  (case aq0u => k_is)
  (case lq0u => k_is)
  (case cq0u => k_is)
  (case kq0u => k_is)
  (case aq0v => k_is)
  (case lq0v => k_is)
  (case cq0v => k_is)
  (case kq0v => k_is)
  (case aq0a => k_is)
  (case lq0a => k_is)
  (case cq0a => k_is)
  (case kq0a => k_is)
  (case aq0p => k_is)
  (case lq0p => k_is)
  (case cq0p => k_is)
  (case kq0p => k_is)
  (case aq0r => k_is)
  (case lq0r => k_is)
  (case cq0r => k_is)
  (case kq0r => k_is)
  (case aq0m => k_is)
  (case lq0m => k_is)
  (case cq0m => k_is)
  (case kq0m => k_is)
  (case aq0q => k_is)
  (case lq0q => k_is)
  (case cq0q => k_is)
  (case kq0q => k_is)
  (case aq0i => k_is)
  (case lq0i => k_is)
  (case cq0i => k_is)
  (case kq0i => k_is)
  (case aq0d => k_is)
  (case lq0d => k_is)
  (case cq0d => k_is)
  (case kq0d => k_is)
  (case aq0f => k_is)
  (case lq0f => k_is)
  (case cq0f => k_is)
  (case kq0f => k_is)
  (case aq0z => k_is)
  (case lq0z => k_is)
  (case cq0z => k_is)
  (case kq0z => k_is)
  (case aq0l => k_is)
  (case lq0l => k_is)
  (case cq0l => k_is)
  (case kq0l => k_is)
  (case aq1i => k_is)
  (case lq1i => k_is)
  (case cq1i => k_is)
  (case kq1i => k_is)
  (case aq0c => k_is)
  (case lq0c => k_is)
  (case cq0c => k_is)
  (case kq0c => k_is)
  (case aq0t => k_is)
  (case lq0t => k_is)
  (case cq0t => k_is)
  (case kq0t => k_is)
  (case aq1e => k_is)
  (case lq1e => k_is)
  (case cq1e => k_is)
  (case kq1e => k_is)
  (case aq1a => k_is)
  (case lq1a => k_is)
  (case cq1a => k_is)
  (case kq1a => k_is)
  (case aq1c => k_is)
  (case lq1c => k_is)
  (case cq1c => k_is)
  (case kq1c => k_is)
  (case aq1b => k_is)
  (case lq1b => k_is)
  (case cq1b => k_is)
  (case kq1b => k_is)
  (case aq1d => k_is)
  (case lq1d => k_is)
  (case cq1d => k_is)
  (case kq1d => k_is)
  (case aq1h => k_is)
  (case lq1h => k_is)
  (case cq1h => k_is)
  (case kq1h => k_is)
  (case aq1f => k_is)
  (case lq1f => k_is)
  (case cq1f => k_is)
  (case kq1f => k_is)
  (case aq0y => k_is)
  (case lq0y => k_is)
  (case cq0y => k_is)
  (case kq0y => k_is)
  (case aq0k => k_is)
  (case lq0k => k_is)
  (case cq0k => k_is)
  (case kq0k => k_is)
  (case aq0h => k_is)
  (case lq0h => k_is)
  (case cq0h => k_is)
  (case kq0h => k_is)
  (case aq0w => k_is)
  (case lq0w => k_is)
  (case cq0w => k_is)
  (case lcLq0w => k_is)
  (case l11q0w => exact rfl)
  (case kq0w => k_is)
  (case aq0o => k_is)
  (case lq0o => k_is)
  (case cq0o => k_is)
  (case lcLq0o => k_is)
  (case l11q0o => exact rfl)
  (case kq0o => k_is)
  (case aq1g => k_is)
  (case lq1g => k_is)
  (case cq1g => k_is)
  (case lcLq1g => k_is)
  (case l11q1g => exact rfl)
  (case kq1g => k_is)
  (case aC_Letter => k_is)
  (case aq0e => k_is)
  (case iq0e => k_is)
  (case lq0e => k_is)
  (case cq0e => k_is)
  (case kq0e => k_is)
  (case tq0e => k_is)
  (case pg_Letter => k_is)
  (case hd_Letter => k_is)
  (case po_Letter => k_is)
  (case sa_Letter => k_is)
  (case mk_Letter => k_is)
  (case kc_Letter => k_is)
  (case n_Letter_number => k_is)
  (case n_Letter_sender => k_is)
  (case n_Letter_goal => k_is)
  (case n_Letterq1f => k_is)
  (case n_Letter_keep => k_is)
  (case aC_Piece => k_is)
  (case aq0g => k_is)
  (case iq0g => k_is)
  (case lq0g => k_is)
  (case cq0g => k_is)
  (case kq0g => k_is)
  (case tq0g => k_is)
  (case pg_Piece => k_is)
  (case hd_Piece => k_is)
  (case po_Piece => k_is)
  (case sa_Piece => k_is)
  (case mk_Piece => k_is)
  (case kc_Piece => k_is)
  (case n_Piece_number => k_is)
  (case n_Piece_sender => k_is)
  (case n_Piece_goal => k_is)
  (case n_Piece_at => k_is)
  (case n_Pieceq1f => k_is)
  (case n_Piece_more => k_is)
  (case n_Piece_keep => k_is)
  (case aC_WayError => k_is)
  (case kty_WayError => k_is)
  (case kbe_WayError => k_is)
  (case aC_NoLetter => k_is)
  (case kty_NoLetter => k_is)
  (case kbe_NoLetter => k_is)
  (case aC_NoPiece => k_is)
  (case kty_NoPiece => k_is)
  (case kbe_NoPiece => k_is)
  (case aC_NoWidth => k_is)
  (case kty_NoWidth => k_is)
  (case kbe_NoWidth => k_is)
  (case aC_TooWide => k_is)
  (case kty_TooWide => k_is)
  (case kbe_TooWide => k_is)
  (case aC_NoRule => k_is)
  (case kty_NoRule => k_is)
  (case kbe_NoRule => k_is)
  (case aC_NoTime => k_is)
  (case kty_NoTime => k_is)
  (case kbe_NoTime => k_is)
  (case aC_NoKey => k_is)
  (case kty_NoKey => k_is)
  (case kbe_NoKey => k_is)
  (case aC_NoText => k_is)
  (case kty_NoText => k_is)
  (case kbe_NoText => k_is)
  (case aC_NoRow => k_is)
  (case kty_NoRow => k_is)
  (case kbe_NoRow => k_is)
  (case aC_NoRoom => k_is)
  (case kty_NoRoom => k_is)
  (case kbe_NoRoom => k_is)
  (case aC_NoRoad => k_is)
  (case kty_NoRoad => k_is)
  (case kbe_NoRoad => k_is)
  (case exc_NoLetter => k_exc)
  (case ega_NoLetter => k_is)
  (case egt_NoLetter => k_is)
  (case ecl_NoLetter => k_is)
  (case eob_NoLetter => k_is)
  (case eve_NoLetter => k_is)
  (case ewy_NoLetter => k_is)
  (case kmr_NoLetter_NoLetter => k_is)
  (case kmr_NoLetter_NoPiece => k_is)
  (case kmr_NoLetter_NoWidth => k_is)
  (case kmr_NoLetter_TooWide => k_is)
  (case kmr_NoLetter_NoRule => k_is)
  (case kmr_NoLetter_NoTime => k_is)
  (case kmr_NoLetter_NoKey => k_is)
  (case kmr_NoLetter_NoText => k_is)
  (case kmr_NoLetter_NoRow => k_is)
  (case kmr_NoLetter_NoRoom => k_is)
  (case kmr_NoLetter_NoRoad => k_is)
  (case exc_NoWidth => k_exc)
  (case ega_NoWidth => k_is)
  (case egt_NoWidth => k_is)
  (case ecl_NoWidth => k_is)
  (case eob_NoWidth => k_is)
  (case eve_NoWidth => k_is)
  (case ewy_NoWidth => k_is)
  (case kmr_NoWidth_NoLetter => k_is)
  (case kmr_NoWidth_NoPiece => k_is)
  (case kmr_NoWidth_NoWidth => k_is)
  (case kmr_NoWidth_TooWide => k_is)
  (case kmr_NoWidth_NoRule => k_is)
  (case kmr_NoWidth_NoTime => k_is)
  (case kmr_NoWidth_NoKey => k_is)
  (case kmr_NoWidth_NoText => k_is)
  (case kmr_NoWidth_NoRow => k_is)
  (case kmr_NoWidth_NoRoom => k_is)
  (case kmr_NoWidth_NoRoad => k_is)
  (case exc_TooWide => k_exc)
  (case ega_TooWide => k_is)
  (case egt_TooWide => k_is)
  (case ecl_TooWide => k_is)
  (case eob_TooWide => k_is)
  (case eve_TooWide => k_is)
  (case ewy_TooWide => k_is)
  (case kmr_TooWide_NoLetter => k_is)
  (case kmr_TooWide_NoPiece => k_is)
  (case kmr_TooWide_NoWidth => k_is)
  (case kmr_TooWide_TooWide => k_is)
  (case kmr_TooWide_NoRule => k_is)
  (case kmr_TooWide_NoTime => k_is)
  (case kmr_TooWide_NoKey => k_is)
  (case kmr_TooWide_NoText => k_is)
  (case kmr_TooWide_NoRow => k_is)
  (case kmr_TooWide_NoRoom => k_is)
  (case kmr_TooWide_NoRoad => k_is)
  (case z_ValueError => k_is)
  (case nt => kernel_rfl)
  (case ne_12 => decide)
  (case ne_13 => decide)
  (case ne_23 => decide)
  (case q_MOST_NUMBER => k_is)
  (case q_MOST_BYTE => k_is)
  (case q_MOST_SIGNS => k_is)
  (case q_MOST_BYTES => k_is)
  (case q_LEAST_WIDTH => k_is)
  (case q_MOST_WIDTH => k_is)
  (case q_MOST_WIDTHS => k_is)
  (case q_STEP => k_is)
  (case z_len => k_is)
  (case z_range => k_is)
  (case z_isinstance => k_is)
  (case z_all => k_is)
  (case z_min => k_is)
  (case z_max => k_is)
  (case z_int => k_is)
  (case z_bool => k_is)
  (case z_str => k_is)
  (case z_list => k_is)
  (case z_tuple => k_is)
