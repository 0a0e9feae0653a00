import PyProof.Rows.All
import Wide.All
import OpenK.AllK
import Wide.FinOn
import Lean
import PyProof.EqAt
import PyProof.EqKinds
import PyProof.TupleCall
import OpenK.KOwn
import KE.KIsAll
import KE.KLam
import PySem.Challenge.RW_pieceways_k51_pieces_and_letters_as_text
set_option Elab.async false
set_option linter.all false
set_option maxRecDepth 100000
noncomputable section
namespace L2
open PySem PySem.Spec PyProof.Rows
abbrev Key := Sum Int Str
def Zqw : Key -> Value -> Bool
 | .inl k, v => Value.isInt k v
 | .inr x, v => Value.isStrOf x v
def Zto (w : World) : Key -> Int
 | .inl k => hashInt k
 | .inr x => hashStr w x
theorem Zbh : ∀ {k : Key} {v : Value}, Zqw k v = true -> (∃ i t, k = Sum.inl i /\ v = Value.int i t) \/ (∃ x t, k = Sum.inr x /\ v = Value.str x t)
 | .inl i, v, h => by
  obtain ⟨t, e⟩ := Value.isInt_shape (k := i) (v := v) h;exact .inl ⟨i, t, rfl, e⟩
 | .inr x, v, h => by
  obtain ⟨t, e⟩ := Value.isStrOf_shape (x := x) (v := v) h;exact .inr ⟨x, t, rfl, e⟩
theorem Zqv (a b : Int) : decide ((Sum.inl a : Key) = Sum.inl b) = (a == b) := by
 by_cases e : a = b
 ·subst e; simp
 ·have h : ¬ (Sum.inl a : Key) = Sum.inl b := fun q => e (Sum.inl.inj q)
  rw [decide_eq_false h];exact (beq_eq_false_iff_ne.mpr e).symm
theorem Zqs (a b : Str) : decide ((Sum.inr a : Key) = Sum.inr b) = decide (a = b) := by
 by_cases e : a = b
 ·subst e; simp
 ·have h : ¬ (Sum.inr a : Key) = Sum.inr b := fun q => e (Sum.inr.inj q)
  rw [decide_eq_false h, decide_eq_false e]
theorem Zqu (a : Int) (b : Str) : decide ((Sum.inl a : Key) = Sum.inr b) = false := decide_eq_false (fun q => nomatch q)
theorem Zqt (a : Str) (b : Int) : decide ((Sum.inr a : Key) = Sum.inl b) = false := decide_eq_false (fun q => nomatch q)
def mixKind (prog : Program) (w : World) : PySem.KeyKind prog w Key where
 is := Zqw
 hash := Zto w
 inj := fun v a b ha hb => by
  rcases Zbh ha with ⟨i, t, rfl, rfl⟩ | ⟨x, t, rfl, rfl⟩
  ·rcases Zbh hb with ⟨j, u, rfl, e⟩ | ⟨y, u, rfl, e⟩
   ·injection e with e1 _; rw [e1]
   ·exact nomatch e
  ·rcases Zbh hb with ⟨j, u, rfl, e⟩ | ⟨y, u, rfl, e⟩
   ·exact nomatch e
   ·injection e with e1 _; rw [e1]
 byValue := fun k v h => by
  rcases Zbh h with ⟨i, t, rfl, rfl⟩ | ⟨x, t, rfl, rfl⟩ <;> rfl
 pyHash := fun hv h => by
  rcases Zbh hv with ⟨i, t, rfl, rfl⟩ | ⟨x, t, rfl, rfl⟩
  ·exact wpAny_pyHash_int h
  ·exact wpAny_pyHash_str h
 eqBool := fun hu hv h => by
  rcases Zbh hu with ⟨i, t, rfl, rfl⟩ | ⟨x, t, rfl, rfl⟩
  ·rcases Zbh hv with ⟨j, u, rfl, rfl⟩ | ⟨y, u, rfl, rfl⟩
   ·rw [Zqv] at h; exact wpAny_eqBool_int h
   ·rw [Zqu] at h; exact SeqAt.EqAt.int_str i t y u _ _ _ _ h
  ·rcases Zbh hv with ⟨j, u, rfl, rfl⟩ | ⟨y, u, rfl, rfl⟩
   ·rw [Zqt] at h; exact SeqAt.EqAt.str_int x t j u _ _ _ _ h
   ·rw [Zqs] at h; exact wpAny_eqBool_str h
 «strs» := fun k x t v h => by
  rcases Zbh h with ⟨i, u, rfl, e⟩ | ⟨y, u, rfl, e⟩
  ·exact nomatch e
  ·injection e with e1 _;subst e1;cases v <;> rfl
end L2
namespace L2
open PySem PySem.Spec PyProof.Rows
inductive V where
 | non | bl (b : Bool) | int (i : Int) | str (x : Str) | byt (b : Array UInt8) | flt (b : UInt64) | ref (a : Addr) | ty (n : String)
 deriving DecidableEq
def RelV : V -> Value -> Prop
 | .non, u => u = Value.none
 | .bl b, u => u = Value.bool b
 | .int i, u => ∃ t, u = Value.int i t
 | .str x, u => ∃ t, u = Value.str x t
 | .byt b, u => ∃ t, u = Value.bytes b t
 | .flt b, u => ∃ t, u = Value.float b t
 | .ref a, u => u = Value.ref a
 | .ty n, u => u = Value.type n
abbrev Vals : List V -> List Value -> Prop := Paired RelV
theorem Vals.length {xs : List V} {us : List Value} (r : Vals xs us) : xs.length = us.length := Paired.length r
theorem Vals.get : ∀ {xs : List V} {us : List Value} {i : Nat} {x : V}, Vals xs us -> xs[i]? = some x -> ∃ u, us[i]? = some u /\ RelV x u
 | _, _, _, _, .nil, e => by simp at e
 | _, _, 0, _, .cons r _, e => by simp at e; subst e; exact ⟨_, rfl, r⟩
 | _, _, i + 1, x, .cons _ t, e => by
  obtain ⟨u, h1, h2⟩ := Vals.get (i := i) (x := x) t (by simpa using e);exact ⟨u, by simpa using h1, h2⟩
theorem Vals.set {x : V} {u : Value} (r : RelV x u) : ∀ {xs : List V} {us : List Value} (i : Nat), Vals xs us -> Vals (xs.set i x) (us.set i u)
 | _, _, _, .nil => .nil
 | _, _, 0, .cons _ t => .cons r t
 | _, _, i + 1, .cons q t => .cons q (Vals.set r i t)
theorem Vals.append : ∀ {xs ys : List V} {us ws : List Value}, Vals xs us -> Vals ys ws -> Vals (xs ++ ys) (us ++ ws)
 | _, _, _, _, .nil, s => s
 | _, _, _, _, .cons r t, s => .cons r (Vals.append t s)
def RelO : Option V -> Option Value -> Prop
 | some v, some u => RelV v u
 | none, none => True
 | _, _ => False
def KV {κ : Type} : List (κ × V) -> List (κ × Value) -> Prop := Paired fun (p : κ × V) (q : κ × Value) => p.1 = q.1 /\ RelV p.2 q.2
def kV : Key -> V
 | .inl i => .int i
 | .inr x => .str x
inductive HO where
 | lst (xs : List V)
 | tup (xs : List V)
 | dK (kvs : List (Key × V)) | dT (kvs : List (List Key × V))
 | set (S : Int -> Bool) (n : Nat)
 | ins (C dx : Addr) (fs : List (Str × V))
 | own (x : Addr)
 | xd (fs : List (Str × V))
 | met (f x : Addr)
 | rng (lo hi : Int)
 | frz (o : Obj) (u : HO)
 | tbl (ps : Array Value)
 | ext (φ : Heap -> Prop)
abbrev Hp := Addr -> Option HO
def upd (H : Hp) (a : Addr) (o : HO) : Hp := fun b => if b = a then some o else H b
theorem Zal {H : Hp} {a : Addr} {o : HO} : upd H a o a = some o := by unfold upd; rw [if_pos rfl]
theorem Zao {H : Hp} {a b : Addr} {o : HO} (h : b ≠ a) : upd H a o b = H b := by unfold upd; rw [if_neg h]
theorem Zqq {H : Hp} {a b : Addr} {o u : HO} (h : H a = some o) (h' : H b = some u) (d : o ≠ u) : a ≠ b := by
 intro e; subst e; rw [h] at h'; exact d (Option.some.inj h')
theorem Za0 {H : Hp} {a b : Addr} {o : HO} (h : H a = some o) (h' : H b = none) : a ≠ b := by
 intro e; subst e; rw [h] at h'; cases h'
section
variable (P : Program) (w : World)
def ObjOk (H : Hp) (h : Heap) (a : Addr) : HO -> Prop
 | .lst xs => xs.length <= sizeLine /\ ∃ (its : List Value) (n : Nat), Vals xs its /\ h.get? a = some { cls := .type "list", data := .seq its.toArray n }
 | .tup xs => xs.length <= sizeLine /\ ∃ its : List Value, Vals xs its /\ IsTup h a its.toArray
 | .dK kvs => kvs.length <= sizeLine /\ (a == sysModules) = false /\ ∃ vs, KV kvs vs /\ h.DictOf (mixKind P w) a vs
 | .dT kvs => kvs.length <= sizeLine /\ (a == sysModules) = false /\ ∃ xs : List (List Key × Addr × Value),
   Paired (fun (p : List Key × V) (q : List Key × Addr × Value) => p.1 = q.1 /\ H q.2.1 = some (.tup (p.1.map kV)) /\ RelV p.2 q.2.2) kvs xs /\
   ∃ o es ep, h.get? a = some o /\ o.ExactDict /\ o.data = .dict es ep /\ es.toList = xs.map (entryOfKey (tupleKind (mixKind P w))) /\ (xs.map (·.1)).Nodup
 | .set S n => h.SetOf (intKind P w) a S n
 | .ins C dx fs => H dx = some (.own a) /\ fs.length <= 1000 /\ dx ≠ a /\ h.get? a = some (PySem.W.instObj C dx) /\
   ∃ mA, h.Ns1 dx mA /\ (∀ f, RelO (fs.lookup f) (mA f)) /\ PySem.Within mA (fs.map (·.1))
 | .own _ => ∃ o, h.get? a = some o
 | .xd fs => ∃ mA, h.Ns1 a mA /\ ∀ f, RelO (fs.lookup f) (mA f)
 | .rng lo hi => ∃ t u v, h.get? a = some { cls := .type "range", data := .fields #[.int lo t, .int hi u, .int 1 v] }
 | .frz o u => h.get? a = some o /\ ObjOk H h a u
 | .tbl ps => h.get? a = some { cls := .none, data := .fields ps }
 | .met f x => h.get? a = some (PySem.W.methodObj (.ref f) (.ref x))
 | .ext φ => φ h /\ (∃ o, h.get? a = some o) /\ ∀ h1 h2 : Heap, φ h1 -> (∀ o, h1.get? a = some o -> h2.get? a = some o) -> φ h2
def HOk (H : Hp) (h : Heap) : Prop := ∀ a o, H a = some o -> ObjOk P w H h a o
end
section
variable {P : Program} {w : World} {H H' : Hp} {h h' : Heap} {a : Addr} {o : HO}
theorem ObjOk.lt (x : ObjOk P w H h a o) : a < h.objs.size := by
 cases o with
 | lst xs => obtain ⟨_, _, _, _, e⟩ := x; exact Heap.lt_size e
 | tup xs => obtain ⟨_, _, _, p⟩ := x; exact p.lt
 | dK kvs => obtain ⟨_, _, _, _, o, _, _, e, _⟩ := x; exact Heap.lt_size e
 | dT kvs => obtain ⟨_, _, _, _, o, _, _, e, _⟩ := x; exact Heap.lt_size e
 | set S n => obtain ⟨o, _, _, _, e, _⟩ := x; exact Heap.lt_size e
 | ins C dx fs => obtain ⟨_, _, _, e, _⟩ := x; exact Heap.lt_size e
 | own y => obtain ⟨_, e⟩ := x; exact Heap.lt_size e
 | xd fs => obtain ⟨_, ⟨_, _, _, e, _⟩, _⟩ := x; exact Heap.lt_size e
 | rng lo hi => obtain ⟨_, _, _, e⟩ := x; exact Heap.lt_size e
 | frz ob u => obtain ⟨e, _⟩ := x; exact Heap.lt_size e
 | tbl ps => exact Heap.lt_size (show h.get? a = some _ from x)
 | met f y => exact Heap.lt_size (show h.get? a = some _ from x)
 | ext φ => obtain ⟨_, ⟨_, e⟩, _⟩ := x; exact Heap.lt_size e
theorem Paired.mapP {α β : Type} {F G : α -> β -> Prop} : ∀ {l₁ : List α} {l₂ : List β}, Paired F l₁ l₂ -> (∀ a b, F a b -> G a b) -> Paired G l₁ l₂
 | _, _, .nil, _ => .nil
 | _, _, .cons r t, f => .cons (f _ _ r) (Paired.mapP t f)
theorem ObjOk.stay (x : ObjOk P w H h a o) (k : ∀ b u, (b = a \/ H b = some (.own a)) -> h.get? b = some u -> h'.get? b = some u)
  (ho : ∀ b, H b = some (.own a) -> H' b = some (.own a)) (ht : ∀ b xs, H b = some (.tup xs) -> H' b = some (.tup xs)) : ObjOk P w H' h' a o := by
 induction o with
 | lst xs => obtain ⟨z, its, n, r, e⟩ := x; exact ⟨z, its, n, r, k _ _ (.inl rfl) e⟩
 | tup xs => obtain ⟨z, its, r, ob, e, c⟩ := x; exact ⟨z, its, r, ob, k _ _ (.inl rfl) e, c⟩
 | dK kvs => obtain ⟨z, y, vs, r, ob, es, ep, e, c⟩ := x; exact ⟨z, y, vs, r, ob, es, ep, k _ _ (.inl rfl) e, c⟩
 | dT kvs =>
  obtain ⟨z, y, xs, r, ob, es, ep, e, c⟩ := x;exact ⟨z, y, xs, Paired.mapP r fun p q z => ⟨z.1, ht _ _ z.2.1, z.2.2⟩, ob, es, ep, k _ _ (.inl rfl) e, c⟩
 | set S n => obtain ⟨ob, es, ep, t, e, c⟩ := x; exact ⟨ob, es, ep, t, k _ _ (.inl rfl) e, c⟩
 | ins C dx fs =>
  obtain ⟨d, z, ne, e, mA, ⟨od, es, ep, e2, c⟩, r⟩ := x;exact ⟨ho _ d, z, ne, k _ _ (.inl rfl) e, mA, ⟨od, es, ep, k _ _ (.inr d) e2, c⟩, r⟩
 | own y => obtain ⟨ob, e⟩ := x; exact ⟨ob, k _ _ (.inl rfl) e⟩
 | xd fs => obtain ⟨mA, ⟨od, es, ep, e, c⟩, r⟩ := x; exact ⟨mA, ⟨od, es, ep, k _ _ (.inl rfl) e, c⟩, r⟩
 | rng lo hi => obtain ⟨t, u, v, e⟩ := x; exact ⟨t, u, v, k _ _ (.inl rfl) e⟩
 | frz ob u ih => obtain ⟨e, q⟩ := x; exact ⟨k _ _ (.inl rfl) e, ih q⟩
 | tbl ps =>
  have e : h.get? a = some { cls := .none, data := .fields ps } := x;show h'.get? a = some { cls := .none, data := .fields ps };exact k a _ (.inl rfl) e
 | met f y =>
  have e : h.get? a = some (PySem.W.methodObj (.ref f) (.ref y)) := x;show h'.get? a = some (PySem.W.methodObj (.ref f) (.ref y));exact k a _ (.inl rfl) e
 | ext φ => obtain ⟨p, ⟨o, e⟩, st⟩ := x; exact ⟨st _ _ p fun o q => k _ _ (.inl rfl) q, ⟨o, k _ _ (.inl rfl) e⟩, st⟩
theorem HOk.lt (x : HOk P w H h) (e : H a = some o) : a < h.objs.size := (x a o e).lt
theorem HOk.fresh (x : HOk P w H h) (e : h.objs.size <= a) : H a = none := by
 cases q : H a with
 | none => rfl
 | some u => exact absurd (Nat.lt_of_lt_of_le (x.lt q) e) (Nat.lt_irrefl _)
theorem HOk.kept (x : HOk P w H h) (k : ∀ b u, h.get? b = some u -> h'.get? b = some u) : HOk P w H h' := fun a o e =>
 (x a o e).stay (fun b u _ q => k b u q) (fun _ q => q) fun _ _ q => q
theorem HOk.laid (x : HOk P w H h) (k : ∀ b u, h.get? b = some u -> h'.get? b = some u) (hp : h.objs.size <= a) (new : ObjOk P w (upd H a o) h' a o) : HOk P w (upd H a o) h' := fun b u e => by
 have hn := x.fresh hp
 by_cases hb : b = a
 ·subst hb; rw [Zal] at e; cases e; exact new
 ·rw [Zao hb] at e;exact (x b u e).stay (fun c v _ q => k c v q) (fun c q => by rw [Zao (Za0 q hn)]; exact q) fun c xs q => by rw [Zao (Za0 q hn)]; exact q
end
def Rd (H : Hp) (a : Addr) (u : HO) : Prop := H a = some u \/ ∃ o, H a = some (.frz o u)
theorem Rd.ok {P : Program} {w : World} {H : Hp} {h : Heap} {a : Addr} {u : HO} (r : Rd H a u) (x : HOk P w H h) : ObjOk P w H h a u := by
 rcases r with r | ⟨o, r⟩
 ·exact x a u r
 ·obtain ⟨_, q⟩ := x a _ r;exact q
def Mut : Option HO -> Prop
 | some (.lst _) => True
 | some (.dK _) => True
 | some (.dT _) => True
 | some (.set _ _) => True
 | some (.ins _ _ _) => True
 | some (.ext _) => True
 | _ => False
section
variable {P : Program} {w : World} {H : Hp} {h h' : Heap} {x e : Addr} {o' : HO}
theorem HOk.write (ok : HOk P w H h) (mu : Mut (H x)) (he : e = x \/ H e = some (.own x)) (k : ∀ b u, b ≠ e -> h.get? b = some u -> h'.get? b = some u) (heo : ∃ u, h'.get? e = some u)
  (new : ObjOk P w (upd H x o') h' x o') : HOk P w (upd H x o') h' := fun b u q => by
 have nown : ∀ c y, H c = some (.own y) -> c ≠ x := fun c y r z => by subst z; rw [r] at mu; exact mu
 have ntup : ∀ c xs, H c = some (.tup xs) -> c ≠ x := fun c xs r z => by subst z; rw [r] at mu; exact mu
 by_cases hb : b = x
 ·subst hb; rw [Zal] at q; cases q; exact new
 ·rw [Zao hb] at q
  by_cases hbe : b = e
  ·have q' : H b = some (.own x) := by
    rcases he with z | z
    ·exact absurd (hbe.trans z) hb
    ·rw [hbe]; exact z
   rw [q] at q'; cases q';obtain ⟨v, hv⟩ := heo;exact ⟨v, by rw [hbe]; exact hv⟩
  ·refine (ok b u q).stay (fun c v hc r => k c v ?_ r) (fun c r => by rw [Zao (nown c b r)]; exact r) fun c xs r => by rw [Zao (ntup c xs r)]; exact r
   rcases hc with rfl | hc
   ·exact hbe
   ·rintro rfl;rcases he with z | z
    ·exact nown c b hc z
    ·rw [hc] at z; cases z; exact hb rfl
end
structure Un (fs ex : List Addr) (H H' : Hp) (h h' : Heap) : Prop where
 keep : ∀ b o, h.get? b = some o -> H b = none -> b ∉ fs -> b ∉ ex -> h'.get? b = some o
 slot : ∀ b o, h.get? b = some o -> H b = none -> b ∈ fs -> b ∉ ex -> ∃ sl, h'.get? b = some { o with slots := sl }
 free : ∀ b o, h.get? b = some o -> H b = none -> b ∉ ex -> H' b = none
 there : ∀ b o, h.get? b = some o -> b ∉ ex -> ∃ o', h'.get? b = some o'
 tups : ∀ b xs, H b = some (.tup xs) -> H' b = some (.tup xs)
 frzs : ∀ b o u, H b = some (.frz o u) -> H' b = some (.frz o u)
 tbls : ∀ b ps, H b = some (.tbl ps) -> ∃ more, H' b = some (.tbl (ps ++ more))
section
variable {fs fs' ex ex' : List Addr} {H H1 H2 : Hp} {h h1 h2 h' : Heap} {a x e : Addr} {o : HO}
theorem Un.any (u : Un fs ex H H1 h h1) {b : Addr} {ob : Obj} (q : h.get? b = some ob) (n : H b = none) (hx : b ∉ ex) : ∃ sl, h1.get? b = some { ob with slots := sl } := by
 by_cases hb : b ∈ fs
 ·exact u.slot b ob q n hb hx
 ·exact ⟨ob.slots, u.keep b ob q n hb hx⟩
theorem Un.kept (k : ∀ b u, h.get? b = some u -> h'.get? b = some u) : Un fs ex H H h h' :=
 ⟨fun b ob q _ _ _ => k b ob q, fun b ob q _ _ _ => ⟨ob.slots, k b ob q⟩, fun _ _ _ n _ => n, fun b ob q _ => ⟨ob, k b ob q⟩, fun _ _ q => q, fun _ _ _ q => q, fun _ ps q => ⟨#[], by rw [q]; simp⟩⟩
theorem Un.refl : Un fs ex H H h h := Un.kept fun _ _ q => q
theorem Un.laid (k : ∀ b u, h.get? b = some u -> h'.get? b = some u) (hp : h.objs.size <= a) (hn : H a = none) : Un fs ex H (upd H a o) h h' where
 keep := fun b u q _ _ _ => k b u q
 slot := fun b u q _ _ _ => ⟨u.slots, k b u q⟩
 free := fun b u q n _ => by rw [Zao (Nat.ne_of_lt (Nat.lt_of_lt_of_le (Heap.lt_size q) hp))]; exact n
 there := fun b u q _ => ⟨u, k b u q⟩
 tups := fun b xs q => by rw [Zao (Za0 q hn)]; exact q
 frzs := fun b u xs q => by rw [Zao (Za0 q hn)]; exact q
 tbls := fun b ps q => ⟨#[], by rw [Zao (Za0 q hn), q]; simp⟩
theorem Un.write (mu : Mut (H x)) (he : e = x \/ H e = some (.own x)) (k : ∀ b u, b ≠ e -> h.get? b = some u -> h'.get? b = some u) (heo : ∃ u, h'.get? e = some u) : Un fs ex H (upd H x o) h h' := by
 have hx : ∀ b, H b = none -> b ≠ x := fun b n z => by subst z; rw [n] at mu; exact mu
 have hb : ∀ b, H b = none -> b ≠ e := fun b n z => by
  subst z;rcases he with r | r
  ·exact hx b n r
  ·rw [n] at r; cases r
 have hm : ∀ b u, H b = some u -> ¬ Mut (some u) -> b ≠ x := fun b u q nm z => by subst z; rw [q] at mu; exact nm mu
 refine ⟨fun b u q n _ _ => k b u (hb b n) q, fun b u q n _ _ => ⟨u.slots, k b u (hb b n) q⟩, fun b u q n _ => by rw [Zao (hx b n)]; exact n, fun b u q _ => ?_,
  fun b xs q => by rw [Zao (hm b _ q fun z => z)]; exact q, fun b u xs q => by rw [Zao (hm b _ q fun z => z)]; exact q, fun b ps q => ⟨#[], by rw [Zao (hm b _ q fun z => z), q]; simp⟩⟩
 by_cases hbe : b = e
 ·subst hbe; exact heo
 ·exact ⟨u, k b u hbe q⟩
end
def trk (h : Heap) (H : Hp) : List Addr := (List.range h.objs.size).filter fun a => (H a).isSome
def Zm8 (h : Heap) (H : Hp) : Heap := PySem.W.hideAll h (trk h H)
theorem Zl6 (h : Heap) (H : Hp) : (Zm8 h H).objs.size = h.objs.size := PySem.W.hideAll_size _ _
theorem Zm7 {h : Heap} {H : Hp} {b : Addr} {o : Obj} (e : h.get? b = some o) (n : H b = none) : (Zm8 h H).get? b = some o :=
 PySem.W.hideAll_get _ e fun hm => by
  have q : (H b).isSome = true := (List.mem_filter.mp hm).2;rw [n] at q; simp at q
theorem Zos {h : Heap} {H : Hp} {b : Addr} {o : Obj} (e : (Zm8 h H).get? b = some o) : h.get? b = some o /\ H b = none := by
 have e' : h.get? b = some o := PySem.W.of_hideAll (trk h H) e;refine ⟨e', ?_⟩;cases q : H b with
 | none => rfl
 | some x =>
  have hm : b ∈ trk h H := List.mem_filter.mpr ⟨List.mem_range.mpr (Heap.lt_size e'), by simp [q]⟩;have z : (Zm8 h H).get? b = none := PySem.W.hideAll_none (trk h H) hm;rw [z] at e; cases e
def Zo4 (g h : Heap) (L : Addr) : List (Addr × Obj) := (List.range h.objs.size).filterMap fun a => if a = L \/ (g.get? a).isSome = true then none else (h.get? a).map fun o => (a, o)
def rest (g h : Heap) (L d : Addr) : List (Addr × Obj) := (Zo4 g h L).filter fun p => decide (p.1 ≠ d)
end L2
namespace L2
open PySem PySem.Spec PyProof.Rows
structure Mod (K : PySem.W.Frag) (mg : Str -> Option Value) (base : Heap) : Prop where
 kin : K.In base
 glob : base.Ns mainGlobals mg
 blt : ∃ mb, base.Ns builtinsNs mb /\ ∀ x : Str, x ≠ "__name__" -> mb x = bootBuiltins x
 nolimit : base.NoLimit
structure Cx where
 prog : Program
 w : World
 K : PySem.W.Frag
 mg : Str -> Option Value
 base : Heap
 A : Around
 N : List Str
 s₀ : Shared
 H₀ : Hp
 env : Env
 outer : List Env
 stack : List Env
 ex : List Addr
 fn : Str -> Bool
 calm : Bool
 pn : List (Addr × Obj)
 xe : Value -> Shared -> Prop
def frs (l : List Env) : List Addr := l.filterMap (·.frame)
abbrev Cx.fs (X : Cx) : List Addr := frs X.outer
def Vis (sc : Scope) (x : Str) : Prop := sc.names.lookup x = some .local \/ sc.names.lookup x = some .cell \/ sc.names.lookup x = some .free
def Loc (sc : Scope) (x : Str) : Prop := sc.names.lookup x = some .local \/ sc.names.lookup x = some .cell
def Look (env : Env) (h : Heap) (m : Str -> Option Value) (x : Str) (u : Value) : Prop :=
 (env.kindOf x = some .local /\ m x = some u) \/ ((env.kindOf x = some .cell \/ env.kindOf x = some .free) /\ ∃ c, env.cells.lookup x = some c /\ h.IsCell c (some u))
structure Cx.Ok (X : Cx) : Prop where
 mod : Mod X.K X.mg X.base
 kind : X.env.scope.kind = .function
 glob : X.env.globals = mainGlobals
 blt : X.env.builtins = builtinsNs
 above : X.s₀.heap.objs.size <= X.env.locals
 inj : ∀ x y c, X.env.cells.lookup x = some c -> X.env.cells.lookup y = some c -> x = y
 has : ∀ x, (X.env.kindOf x = some .cell \/ X.env.kindOf x = some .free) -> ∃ c, X.env.cells.lookup x = some c
 cab : ∀ x c, X.fn x = true -> X.env.cells.lookup x = some c -> X.s₀.heap.objs.size <= c
 hd : X.calm = true -> X.A.handled = none
 frames : X.A.frames = some X.stack
 stk : X.stack = X.outer \/ (X.stack = X.env :: X.outer /\ X.env.frame = some X.env.locals)
 exf : ∀ b ∈ X.ex, b ≠ X.env.locals /\ ∀ x c, X.env.cells.lookup x = some c -> c ≠ b
 bs : ∀ b o, X.base.get? b = some o -> X.s₀.heap.get? b = some o /\ X.H₀ b = none
 bsz : X.base.objs.size <= X.s₀.heap.objs.size
 noex : ∀ b o, X.base.get? b = some o -> b ∉ X.ex
 exfs : ∀ b ∈ X.ex, b ∉ X.fs
 funs : X.s₀.heap.FunFrames X.base X.outer
 frf : ∀ b ∈ X.fs, X.H₀ b = none
structure Inv (X : Cx) (pins : List (Addr × Obj)) (σ : List (Option V)) (H : Hp) (s : Shared) : Prop where
 ok : X.Ok
 os : s.os = X.s₀.os
 bare : AllBare s.gens
 base : Un X.fs X.ex X.H₀ H X.s₀.heap s.heap
 loc : ∃ m, s.heap.Ns X.env.locals m /\ ∀ (i : Nat) (x : Str) (v : V), X.N[i]? = some x -> σ[i]? = some (some v) -> Vis X.env.scope x -> ∃ u, RelV v u /\ Look X.env s.heap m x u
 cell : ∀ x c, X.env.cells.lookup x = some c -> ∃ v, s.heap.IsCell c v
 free : H X.env.locals = none
 freeC : ∀ x c, X.env.cells.lookup x = some c -> H c = none
 pin : ∀ p ∈ X.pn ++ pins, s.heap.get? p.1 = some p.2 /\ H p.1 = none /\ p.1 ≠ X.env.locals /\ p.1 ∉ X.fs /\ ∀ v, p.2.data ≠ .cell v
 hok : HOk X.prog X.w H s.heap
 len : σ.length = X.N.length
section
variable {X : Cx} {pins : List (Addr × Obj)} {σ : List (Option V)} {H H' : Hp} {s : Shared} {h' : Heap}
theorem Cx.Ok.nofr (ok : X.Ok) {b : Addr} {o : Obj} (e : X.base.get? b = some o) : b ∉ X.fs := fun hb => by
 have := (ok.funs.mem hb).1;rw [e] at this; cases this
theorem Inv.bs (I : Inv X pins σ H s) : ∀ b o, X.base.get? b = some o -> s.heap.get? b = some o /\ H b = none := fun b o e =>
 ⟨I.base.keep b o (I.ok.bs b o e).1 (I.ok.bs b o e).2 (I.ok.nofr e) (I.ok.noex b o e), I.base.free b o (I.ok.bs b o e).1 (I.ok.bs b o e).2 (I.ok.noex b o e)⟩
theorem Inv.bk (I : Inv X pins σ H s) : ∀ b o, X.base.get? b = some o -> s.heap.get? b = some o := fun b o e => (I.bs b o e).1
theorem Inv.mod (I : Inv X pins σ H s) : Mod X.K X.mg X.base := I.ok.mod
theorem Inv.kIn (I : Inv X pins σ H s) : X.K.In s.heap := I.ok.mod.kin.keeps I.bk
theorem Inv.lt (I : Inv X pins σ H s) : X.env.locals < s.heap.objs.size := let ⟨_, hn, _⟩ := I.loc; hn.lt
theorem Inv.sz (I : Inv X pins σ H s) : X.s₀.heap.objs.size <= s.heap.objs.size := Nat.le_trans I.ok.above (Nat.le_of_lt I.lt)
theorem Inv.nofs (I : Inv X pins σ H s) {a : Addr} (h : s.heap.objs.size <= a) : a ∉ X.fs := fun hb => by
 obtain ⟨_, o, ho, _⟩ := I.ok.funs.mem hb;exact absurd (Nat.lt_of_lt_of_le (Heap.lt_size ho) (Nat.le_trans I.sz h)) (Nat.lt_irrefl _)
theorem Inv.cne (I : Inv X pins σ H s) : ∀ x c, X.env.cells.lookup x = some c -> c ≠ X.env.locals := fun x c e z => by
 obtain ⟨v, o, ho, hd⟩ := I.cell x c e;obtain ⟨m, ⟨o', es, ep, ho', hd', _⟩, _⟩ := I.loc;rw [z, ho'] at ho; cases ho; rw [hd'] at hd; cases hd
theorem Inv.funs (I : Inv X pins σ H s) : s.heap.FunFrames X.base X.outer := by
 have all : ∀ (l : List Env), (∀ b ∈ frs l, b ∈ X.fs) -> X.s₀.heap.FunFrames X.base l -> s.heap.FunFrames X.base l := by
  intro l
  induction l with
  | nil => intro _ _; trivial
  | cons env r ih =>
   intro hs hl;obtain ⟨hk, ⟨L, o, hf, hn, ho, hd⟩, hr⟩ := hl;have hL : L ∈ X.fs := hs L (by unfold frs; rw [List.filterMap_cons, hf]; exact List.mem_cons_self);obtain ⟨sl, e⟩ := I.base.slot L o ho (I.ok.frf L hL) hL fun z => I.ok.exfs L z hL
   exact ⟨hk, ⟨L, _, hf, hn, e, hd⟩, ih (fun b hb => hs b (by unfold frs; rw [List.filterMap_cons, hf]; exact List.mem_cons_of_mem _ hb)) hr⟩
 exact all X.outer (fun _ hb => hb) I.ok.funs
theorem Inv.stack (I : Inv X pins σ H s) : s.heap.FunFrames X.base X.stack := by
 rcases I.ok.stk with e | ⟨e, hf⟩
 ·rw [e]; exact I.funs
 ·rw [e];obtain ⟨m, hn, _⟩ := I.loc;refine .cons (by rw [I.ok.kind]; decide) hf hn ?_ I.funs;exact Heap.get?_none_of_le (Nat.le_trans I.ok.bsz I.ok.above)
theorem Inv.stkSub (I : Inv X pins σ H s) : ∀ b ∈ frs X.stack, b ∈ X.env.locals :: X.fs := fun b hb => by
 rcases I.ok.stk with e | ⟨e, hf⟩
 ·rw [e] at hb; exact List.mem_cons_of_mem _ hb
 ·rw [e] at hb;unfold frs at hb;rw [List.filterMap_cons, hf] at hb;exact hb
theorem Inv.stkFree (I : Inv X pins σ H s) : ∀ b ∈ frs X.stack, H b = none := fun b hb => by
 rcases List.mem_cons.mp (I.stkSub b hb) with e | hb
 ·rw [e]; exact I.free
 ·obtain ⟨_, o, ho, _⟩ := I.ok.funs.mem hb;exact I.base.free b o ho (I.ok.frf b hb) fun z => I.ok.exfs b z hb
theorem Inv.step {g' : Array GenState} {t' : Nat} {d' : Drawn} {ch : List Addr} (I : Inv X pins σ H s)
  (hch : ∀ b ∈ ch, (b ∈ X.ex \/ X.s₀.heap.objs.size <= b) /\ b ≠ X.env.locals /\ (∀ x c, X.env.cells.lookup x = some c -> c ≠ b) /\ ∀ p ∈ X.pn ++ pins, p.1 ≠ b)
  (keep : ∀ b o, b ≠ X.env.locals -> b ∉ X.fs -> b ∉ ch -> s.heap.get? b = some o -> H b = none -> h'.get? b = some o)
  (slot : ∀ b o, b ≠ X.env.locals -> b ∈ X.fs -> b ∉ ch -> s.heap.get? b = some o -> H b = none -> ∃ sl, h'.get? b = some { o with slots := sl }) (free : ∀ b o, b ∉ ch -> s.heap.get? b = some o -> H b = none -> H' b = none)
  (there : ∀ b o, b ∉ ch -> s.heap.get? b = some o -> ∃ o', h'.get? b = some o')
  (tups : ∀ b xs, H b = some (.tup xs) -> H' b = some (.tup xs)) (frzs : ∀ b o u, H b = some (.frz o u) -> H' b = some (.frz o u)) (tbls : ∀ b ps, H b = some (.tbl ps) -> ∃ more, H' b = some (.tbl (ps ++ more)))
  (ns : ∀ m, s.heap.Ns X.env.locals m -> h'.Ns X.env.locals m) (hok : HOk X.prog X.w H' h') (hg : AllBare g') :
  Inv X pins σ H' { s with heap := h', gens := g', drawn := d', toks := t' } := by
 have neL : ∀ b o, X.s₀.heap.get? b = some o -> b ≠ X.env.locals := fun b o e => Nat.ne_of_lt (Nat.lt_of_lt_of_le (Heap.lt_size e) I.ok.above)
 have neC : ∀ b o, X.s₀.heap.get? b = some o -> b ∉ X.ex -> b ∉ ch := fun b o e hx hb => by
  rcases (hch b hb).1 with z | z
  ·exact hx z
  ·exact absurd (Nat.lt_of_lt_of_le (Heap.lt_size e) z) (Nat.lt_irrefl _)
 have cellK : ∀ x c, X.env.cells.lookup x = some c -> ∀ v, s.heap.IsCell c v -> h'.IsCell c v := fun x c e v ⟨o, ho, hd⟩ => by
  have nch : c ∉ ch := fun z => (hch c z).2.2.1 x c e rfl
  by_cases hc : c ∈ X.fs
  ·obtain ⟨sl, q⟩ := slot c o (I.cne x c e) hc nch ho (I.freeC x c e);exact ⟨_, q, hd⟩
  ·exact ⟨o, keep c o (I.cne x c e) hc nch ho (I.freeC x c e), hd⟩
 refine ⟨I.ok, I.os, hg, ⟨fun b o e n hb hx => ?_, fun b o e n hb hx => ?_, fun b o e n hx => ?_, fun b o e hx => ?_, fun b xs e => tups b xs (I.base.tups b xs e), fun b o xs e => frzs b o xs (I.base.frzs b o xs e), fun b ps e => ?_⟩, ?_, fun x c e => ?_, ?_, fun x c e => ?_, fun p hp => ?_, hok, I.len⟩
 ·exact keep b o (neL b o e) hb (neC b o e hx) (I.base.keep b o e n hb hx) (I.base.free b o e n hx)
 ·obtain ⟨sl, e1⟩ := I.base.slot b o e n hb hx;obtain ⟨sl', e2⟩ := slot b _ (neL b o e) hb (neC b o e hx) e1 (I.base.free b o e n hx);exact ⟨sl', e2⟩
 ·obtain ⟨o', e1⟩ := I.base.there b o e hx;exact free b o' (neC b o e hx) e1 (I.base.free b o e n hx)
 ·obtain ⟨o', e1⟩ := I.base.there b o e hx;exact there b o' (neC b o e hx) e1
 ·obtain ⟨m1, e1⟩ := I.base.tbls b ps e;obtain ⟨m2, e2⟩ := tbls b _ e1;exact ⟨m1 ++ m2, by rw [e2, Array.append_assoc]⟩
 ·obtain ⟨m, hn, hl⟩ := I.loc;refine ⟨m, ns m hn, fun i x v e1 e2 e3 => ?_⟩;obtain ⟨u, r, l⟩ := hl i x v e1 e2 e3;refine ⟨u, r, ?_⟩;rcases l with l | ⟨k, c, e, z⟩
  ·exact .inl l
  ·exact .inr ⟨k, c, e, cellK x c e _ z⟩
 ·obtain ⟨v, z⟩ := I.cell x c e;exact ⟨v, cellK x c e v z⟩
 ·obtain ⟨m, ⟨o, _, _, ho, _⟩, _⟩ := I.loc;exact free _ o (fun z => (hch _ z).2.1 rfl) ho I.free
 ·obtain ⟨v, o, ho, hd⟩ := I.cell x c e;exact free c o (fun z => (hch c z).2.2.1 x c e rfl) ho (I.freeC x c e)
 ·obtain ⟨e, n, ne, nf, d⟩ := I.pin p hp;have nch : p.1 ∉ ch := fun z => (hch p.1 z).2.2.2 p hp rfl
  exact ⟨keep p.1 p.2 ne nf nch e n, free p.1 p.2 nch e n, ne, nf, d⟩
theorem Inv.un {t' : Nat} (I : Inv X pins σ H s) (u : Un X.fs [] H H' s.heap h') (hok : HOk X.prog X.w H' h') : Inv X pins σ H' { s with heap := h', toks := t' } := by
 obtain ⟨m, ⟨o, es, ep, ho, r⟩, _⟩ := id I.loc;obtain ⟨sl, hL⟩ := u.any ho I.free (by simp);exact I.step (g' := s.gens) (d' := s.drawn) (ch := []) (fun _ z => nomatch z) (fun b o _ hb _ e n => u.keep b o e n hb (by simp)) (fun b o _ hb _ e n => u.slot b o e n hb (by simp)) (fun b o _ e n => u.free b o e n (by simp)) (fun b o _ e => u.there b o e (by simp)) u.tups u.frzs u.tbls (fun m' hm => by
  obtain ⟨o', es', ep', ho', r'⟩ := hm;rw [ho] at ho'; cases ho';exact ⟨_, es', ep', hL, r'⟩) hok I.bare
theorem Inv.call {g' : Array GenState} {t' : Nat} {d' : Drawn} {ch : List Addr} (I : Inv X pins σ H s) (u : Un (frs X.stack) ch H H' s.heap h') (hok : HOk X.prog X.w H' h') (hg : AllBare g')
  (hch : ∀ b ∈ ch, (b ∈ X.ex \/ X.s₀.heap.objs.size <= b) /\ b ≠ X.env.locals /\ (∀ x c, X.env.cells.lookup x = some c -> c ≠ b) /\ ∀ p ∈ X.pn ++ pins, p.1 ≠ b) :
  Inv X pins σ H' { s with heap := h', gens := g', drawn := d', toks := t' } := by
 obtain ⟨m, ⟨o, es, ep, ho, r⟩, _⟩ := id I.loc;obtain ⟨sl, hL⟩ := u.any ho I.free fun z => (hch _ z).2.1 rfl
 exact I.step (ch := ch) hch (fun b o hL hb hc e n => u.keep b o e n (fun z => (List.mem_cons.mp (I.stkSub b z)).elim hL hb) hc) (fun b o _ _ hc e n => u.any e n hc) (fun b o hc e n => u.free b o e n hc) (fun b o hc e => u.there b o e hc) u.tups u.frzs u.tbls (fun m' hm => by
  obtain ⟨o', es', ep', ho', r'⟩ := hm;rw [ho] at ho'; cases ho';exact ⟨_, es', ep', hL, r'⟩) hok hg
theorem Inv.turned {t' : Nat} {it : Addr} (I : Inv X pins σ H s) (k : ∀ b o, b ≠ it -> s.heap.get? b = some o -> h'.get? b = some o) (hn : H it = none) (hL : it ≠ X.env.locals)
  (h1 : it ∈ X.ex \/ X.s₀.heap.objs.size <= it) (h2 : ∀ x c, X.env.cells.lookup x = some c -> c ≠ it) (h3 : ∀ p ∈ X.pn ++ pins, p.1 ≠ it) : Inv X pins σ H { s with heap := h', toks := t' } := by
 have nit : ∀ b u, H b = some u -> b ≠ it := fun b u e z => by rw [z, hn] at e; cases e
 refine I.step (g' := s.gens) (d' := s.drawn) (ch := [it]) (fun b hb => ?_) (fun b o _ _ hc e _ => k b o (fun z => hc (by simp [z])) e) (fun b o _ _ hc e _ => ⟨o.slots, k b o (fun z => hc (by simp [z])) e⟩) (fun _ _ _ _ n => n)
  (fun b o hc e => ⟨o, k b o (fun z => hc (by simp [z])) e⟩) (fun _ _ e => e) (fun _ _ _ e => e) (fun b ps e => ⟨#[], by rw [e]; simp⟩) (fun m hm => ?_) (fun b u e => ?_) I.bare
 ·have e : b = it := by simpa using hb
  subst e;exact ⟨h1, hL, h2, h3⟩
 ·obtain ⟨o, es, ep, ho, r⟩ := hm;exact ⟨o, es, ep, k _ o (Ne.symm hL) ho, r⟩
 ·refine (I.hok b u e).stay (fun c v hc q => k c v ?_ q) (fun _ q => q) fun _ _ q => q
  rcases hc with z | z
  ·rw [z]; exact nit b u e
  ·exact nit c _ z
theorem Inv.tok (I : Inv X pins σ H s) (t : Nat) : Inv X pins σ H { s with toks := t } := I.un (h' := s.heap) (t' := t) Un.refl I.hok
theorem Inv.kept {t' : Nat} (I : Inv X pins σ H s) (k : ∀ b u, s.heap.get? b = some u -> h'.get? b = some u) : Inv X pins σ H { s with heap := h', toks := t' } := I.un (Un.kept k) (I.hok.kept k)
theorem Inv.laid {a : Addr} {o : HO} {t' : Nat} (I : Inv X pins σ H s) (k : ∀ b u, s.heap.get? b = some u -> h'.get? b = some u) (hp : s.heap.objs.size <= a) (new : ObjOk X.prog X.w (upd H a o) h' a o) :
  Inv X pins σ (upd H a o) { s with heap := h', toks := t' } := I.un (Un.laid k hp (I.hok.fresh hp)) (I.hok.laid k hp new)
theorem Inv.write {x e : Addr} {o : HO} {t' : Nat} (I : Inv X pins σ H s) (mu : Mut (H x)) (he : e = x \/ H e = some (.own x)) (k : ∀ b u, b ≠ e -> s.heap.get? b = some u -> h'.get? b = some u) (heo : ∃ u, h'.get? e = some u)
  (new : ObjOk X.prog X.w (upd H x o) h' x o) : Inv X pins σ (upd H x o) { s with heap := h', toks := t' } := I.un (Un.write mu he k heo) (I.hok.write mu he k heo new)
theorem Inv.pins_of {pins' : List (Addr × Obj)} (I : Inv X pins σ H s) (h : ∀ p ∈ pins', s.heap.get? p.1 = some p.2 /\ H p.1 = none /\ p.1 ≠ X.env.locals /\ p.1 ∉ X.fs /\ ∀ v, p.2.data ≠ .cell v) : Inv X pins' σ H s :=
 ⟨I.ok, I.os, I.bare, I.base, I.loc, I.cell, I.free, I.freeC, fun p hp => (List.mem_append.mp hp).elim (fun z => I.pin p (List.mem_append_left _ z)) (h p), I.hok, I.len⟩
theorem Zjx {N : List Str} (hN : N.Nodup) {i j : Nat} {x : Str} (a : N[i]? = some x) (b : N[j]? = some x) : i = j := by
 obtain ⟨h1, e1⟩ := List.getElem?_eq_some_iff.mp a;obtain ⟨h2, e2⟩ := List.getElem?_eq_some_iff.mp b;exact (List.getElem_inj hN).mp (e1.trans e2.symm)
theorem Zk6 {M : Model} {A : Around} {E : Value -> Shared -> Prop} {i : Nat} {x : Str} {v : V} {u : Value} {Q : Unit -> Shared -> Prop} (I : Inv X pins σ H s) (hN : X.N.Nodup) (hi : X.N[i]? = some x) (hx : Loc X.env.scope x) (r : RelV v u)
  (h : ∀ s', Inv X pins (σ.set i (some v)) H s' -> (∃ a, Heap.SameBut a s.heap s'.heap /\ (a = X.env.locals \/ X.env.cells.lookup x = some a)) -> Q () s') (hf : X.fn x = true \/ X.env.scope.names.lookup x = some .local := by first | exact .inl rfl | exact .inr rfl | assumption) : wpAny M A (storeName X.env x u) Q E s := by
 obtain ⟨m, hn, hl⟩ := id I.loc;have hcls : (X.env.scope.kind == .class || (X.env.scope.kind == .module && X.env.locals != X.env.globals)) = false := by rw [I.ok.kind]; rfl
 have hiσ : i < σ.length := by rw [I.len]; exact (List.getElem?_eq_some_iff.mp hi).1
 have cne := I.cne;have tracked : ∀ {a : Addr} {h' : Heap}, (∃ o, s.heap.get? a = some o /\ H a = none) -> Heap.SameBut a s.heap h' -> HOk X.prog X.w H h' := fun {a h'} ha hs b ob e => by
  obtain ⟨_, _, hfree⟩ := ha;refine (I.hok b ob e).stay (fun c w' hc q => (hs.2 c ?_).trans q) (fun _ q => q) fun _ _ q => q
  rintro rfl;rcases hc with rfl | hc
  ·rw [hfree] at e; cases e
  ·rw [hfree] at hc; cases hc
 rcases hx with hk | hk
 ·refine wpAny_storeName_local hk hn (fun h' hn' hs => ?_) hcls;obtain ⟨oL, _, _, hoL, _⟩ := id hn;refine h _ ⟨I.ok, I.os, I.bare, ⟨fun b o e n hb hx => ?_, fun b o e n hb hx => ?_, I.base.free, fun b o e hx => ?_, I.base.tups, I.base.frzs, I.base.tbls⟩, ⟨_, hn', fun j y v' e1 e2 e3 => ?_⟩, fun y c e => ?_, I.free, I.freeC, fun p hp => ?_, tracked ⟨oL, hoL, I.free⟩ hs, by simpa using I.len⟩ ⟨_, hs, .inl rfl⟩
  ·exact (hs.2 b (Nat.ne_of_lt (Nat.lt_of_lt_of_le (Heap.lt_size e) I.ok.above))).trans (I.base.keep b o e n hb hx)
  ·obtain ⟨sl, e1⟩ := I.base.slot b o e n hb hx;exact ⟨sl, (hs.2 b (Nat.ne_of_lt (Nat.lt_of_lt_of_le (Heap.lt_size e) I.ok.above))).trans e1⟩
  ·obtain ⟨o', e1⟩ := I.base.there b o e hx;exact ⟨o', (hs.2 b (Nat.ne_of_lt (Nat.lt_of_lt_of_le (Heap.lt_size e) I.ok.above))).trans e1⟩
  ·by_cases hj : j = i
   ·subst hj;rw [hi] at e1; cases e1;rw [List.getElem?_set_self hiσ] at e2;cases e2;exact ⟨u, r, .inl ⟨hk, by simp⟩⟩
   ·rw [List.getElem?_set_ne (Ne.symm hj)] at e2;obtain ⟨u', r', q⟩ := hl j y v' e1 e2 e3;refine ⟨u', r', ?_⟩;rcases q with ⟨k, e⟩ | ⟨k, c, e, z⟩
    ·refine .inl ⟨k, ?_⟩;have : y ≠ x := fun e => hj (Zjx hN e1 (e ▸ hi))
     simp [this, e]
    ·exact .inr ⟨k, c, e, z.sameBut hs (cne y c e)⟩
  ·obtain ⟨w', z⟩ := I.cell y c e;exact ⟨w', z.sameBut hs (cne y c e)⟩
  ·obtain ⟨e, n, ne, nf, d⟩ := I.pin p hp;exact ⟨(hs.2 p.1 ne).trans e, n, ne, nf, d⟩
 ·have hfn : X.fn x = true := by
   rcases hf with z | z
   ·exact z
   ·rw [z] at hk; cases hk
  obtain ⟨c, hc⟩ := I.ok.has x (.inl hk);obtain ⟨w', z⟩ := I.cell x c hc;refine wpAny_storeName_cell I.ok.kind hk hc z (fun h' hc' hs => ?_);obtain ⟨oc, hoc, hocd⟩ := id z;refine h { s with heap := h' } ⟨I.ok, I.os, I.bare, ⟨fun b o e n hb hx => ?_, fun b o e n hb hx => ?_, I.base.free, fun b o e hx => ?_, I.base.tups, I.base.frzs, I.base.tbls⟩, ⟨m, hn.sameBut hs (Ne.symm (cne x c hc)), fun j y v' e1 e2 e3 => ?_⟩, fun y c' e => ?_, I.free, I.freeC, fun p hp => ?_, tracked ⟨oc, hoc, I.freeC x c hc⟩ hs, by simpa using I.len⟩ ⟨c, hs, .inr hc⟩
  ·exact (hs.2 b (Nat.ne_of_lt (Nat.lt_of_lt_of_le (Heap.lt_size e) (I.ok.cab x c hfn hc)))).trans (I.base.keep b o e n hb hx)
  ·obtain ⟨sl, e1⟩ := I.base.slot b o e n hb hx;exact ⟨sl, (hs.2 b (Nat.ne_of_lt (Nat.lt_of_lt_of_le (Heap.lt_size e) (I.ok.cab x c hfn hc)))).trans e1⟩
  ·obtain ⟨o', e1⟩ := I.base.there b o e hx;exact ⟨o', (hs.2 b (Nat.ne_of_lt (Nat.lt_of_lt_of_le (Heap.lt_size e) (I.ok.cab x c hfn hc)))).trans e1⟩
  ·by_cases hj : j = i
   ·subst hj;rw [hi] at e1; cases e1;rw [List.getElem?_set_self hiσ] at e2;cases e2;exact ⟨u, r, .inr ⟨.inl hk, c, hc, hc'⟩⟩
   ·rw [List.getElem?_set_ne (Ne.symm hj)] at e2;obtain ⟨u', r', q⟩ := hl j y v' e1 e2 e3;refine ⟨u', r', ?_⟩;rcases q with q | ⟨k, c', e, z'⟩
    ·exact .inl q
    ·refine .inr ⟨k, c', e, z'.sameBut hs ?_⟩;rintro rfl;exact hj (Zjx hN e1 (I.ok.inj _ _ _ e hc ▸ hi))
  ·by_cases hcc : c' = c
   ·subst hcc; exact ⟨_, hc'⟩
   ·obtain ⟨w2, z2⟩ := I.cell y c' e;exact ⟨w2, z2.sameBut hs hcc⟩
  ·obtain ⟨e, n, ne, nf, d⟩ := I.pin p hp;refine ⟨(hs.2 p.1 ?_).trans e, n, ne, nf, d⟩;intro q;rw [q, hoc] at e;have q' : oc = p.2 := Option.some.inj e;exact d w' (by rw [<- q']; exact hocd)
theorem Zjm {M : Model} {A : Around} {E : Value -> Shared -> Prop} {i : Nat} {x : Str} {v : V} {u : Value} {Q : Unit -> Shared -> Prop} (I : Inv X pins σ H s) (hN : X.N.Nodup) (hi : X.N[i]? = some x) (hx : Loc X.env.scope x) (r : RelV v u)
  (h : ∀ s', Inv X pins (σ.set i (some v)) H s' -> Q () s') (hf : X.fn x = true \/ X.env.scope.names.lookup x = some .local := by first | exact .inl rfl | exact .inr rfl | assumption) : wpAny M A (storeName X.env x u) Q E s :=
 Zk6 I hN hi hx r (fun s' I' _ => h s' I') hf
theorem Inv.call' {s' : Shared} {ch : List Addr} (I : Inv X pins σ H s) (ho : s'.os = s.os) (u : Un (frs X.stack) ch H H' s.heap s'.heap) (hok : HOk X.prog X.w H' s'.heap) (hg : AllBare s'.gens)
  (hch : ∀ b ∈ ch, (b ∈ X.ex \/ X.s₀.heap.objs.size <= b) /\ b ≠ X.env.locals /\ (∀ x c, X.env.cells.lookup x = some c -> c ≠ b) /\ ∀ p ∈ X.pn ++ pins, p.1 ≠ b) : Inv X pins σ H' s' := by
 obtain ⟨h', g', d', t', o'⟩ := s';have e : o' = s.os := ho;subst e;exact I.call (g' := g') (t' := t') (d' := d') u hok hg hch
end
abbrev XK := Value -> Option Addr -> Hp -> Prop
abbrev St := List (Option V)
abbrev VK := V -> Hp -> Prop
abbrev TE := St -> Hp -> VK -> Prop
abbrev TT := St -> Hp -> (Bool -> Hp -> Prop) -> Prop
abbrev TA := St -> Hp -> (List V -> Hp -> Prop) -> Prop
structure Zmm where
 nx : St -> Hp -> Prop
 rt : VK
 bk : St -> Hp -> Prop := fun _ _ => False
 ct : St -> Hp -> Prop := fun _ _ => False
abbrev TS := Zmm -> St -> Hp -> Prop
def EP (X : Cx) (pins : List (Addr × Obj)) (σ : St) (Q : VK) (u : Value) (s' : Shared) : Prop := ∃ v H', Inv X pins σ H' s' /\ RelV v u /\ Q v H'
def TP (X : Cx) (pins : List (Addr × Obj)) (σ : St) (Q : Bool -> Hp -> Prop) (b : Bool) (s' : Shared) : Prop := ∃ H', Inv X pins σ H' s' /\ Q b H'
def AP (X : Cx) (pins : List (Addr × Obj)) (σ : St) (Q : List V -> Hp -> Prop) (us : List Value) (s' : Shared) : Prop := ∃ vs H', Inv X pins σ H' s' /\ Vals vs us /\ Q vs H'
def SP (X : Cx) (pins : List (Addr × Obj)) (D : Zmm) (f : Flow) (s' : Shared) : Prop :=
 match f with
 | .next => ∃ σ' H', Inv X pins σ' H' s' /\ D.nx σ' H'
 | .brk => ∃ σ' H', Inv X pins σ' H' s' /\ D.bk σ' H'
 | .cont => ∃ σ' H', Inv X pins σ' H' s' /\ D.ct σ' H'
 | .ret u => ∃ v σ' H', Inv X pins σ' H' s' /\ RelV v u /\ D.rt v H'
def PE (X : Cx) (e : Expr) (t : TE) : Prop :=
 ∀ (pins : List (Addr × Obj)) (s : Shared) (σ : St) (H : Hp) (Q : VK), Inv X pins σ H s -> t σ H Q -> wpAny (model X.prog X.w) X.A (eval e X.env) (EP X pins σ Q) X.xe s
def PT (X : Cx) (e : Expr) (t : TT) : Prop :=
 ∀ (pins : List (Addr × Obj)) (s : Shared) (σ : St) (H : Hp) (Q : Bool -> Hp -> Prop), Inv X pins σ H s -> t σ H Q -> wpAny (model X.prog X.w) X.A (isTrue e X.env (eval e X.env)) (TP X pins σ Q) X.xe s
def PW (X : Cx) (e : Expr) (t : TT) : Prop :=
 ∀ (whole : Sem Value) (pins : List (Addr × Obj)) (s : Shared) (σ : St) (H : Hp) (Q : Bool -> Hp -> Prop), Inv X pins σ H s -> t σ H Q -> wpAny (model X.prog X.w) X.A (isTrue e X.env whole) (TP X pins σ Q) X.xe s
theorem PW.pt {X : Cx} {e : Expr} {t : TT} (h : PW X e t) : PT X e t := h _
def PA (X : Cx) (es : List Expr) (t : TA) : Prop :=
 ∀ (pos : Pos) (pins : List (Addr × Obj)) (s : Shared) (σ : St) (H : Hp) (Q : List V -> Hp -> Prop), Inv X pins σ H s -> t σ H Q -> wpAny (model X.prog X.w) X.A (spliced (backTo pos (starEach es X.env))) (AP X pins σ Q) X.xe s
def PS (X : Cx) (st : Stmt) (t : TS) : Prop :=
 ∀ (pins : List (Addr × Obj)) (s : Shared) (σ : St) (H : Hp) (D : Zmm), Inv X pins σ H s -> t D σ H -> wpAny (model X.prog X.w) X.A (exec st X.env) (SP X pins D) X.xe s
def PSs (X : Cx) (st : List Stmt) (t : TS) : Prop :=
 ∀ (pins : List (Addr × Obj)) (s : Shared) (σ : St) (H : Hp) (D : Zmm), Inv X pins σ H s -> t D σ H -> wpAny (model X.prog X.w) X.A (execs st X.env) (SP X pins D) X.xe s
theorem thn {α : Type} {t : Sem α} {Q Q' : α -> Shared -> Prop} {M : Model} {A : Around} {E : Value -> Shared -> Prop} {s : Shared} (h : wpAny M A t Q E s) (hQ : ∀ a s, Q a s -> Q' a s) : wpAny M A t Q' E s := wpAny_mono h hQ fun _ _ x => x
end L2
namespace L2
open PySem PySem.Spec PyProof.Rows
section
variable {X : Cx}
def tVar (i : Nat) : TE := fun σ H Q => ∃ v, σ[i]? = some (some v) /\ Q v H
def tC (v : V) : TE := fun _ H Q => Q v H
theorem Znq {i : Nat} {x : Str} {pos : Pos} (hN : X.N[i]? = some x) (hv : Vis X.env.scope x) (hd : (x == ("__debug__" : Str)) = false := by decide) (hcd : (x == ("__classdict__" : Str)) = false := by decide) : PE X (.Name x pos) (tVar i) := by
 intro pins s σ H Q I h;obtain ⟨v, e, h⟩ := h;obtain ⟨m, hn, hl⟩ := I.loc;obtain ⟨u, r, l⟩ := hl i x v hN e hv;have fin : EP X pins σ Q u s := ⟨v, H, I, r, h⟩;rcases l with ⟨hk, hm⟩ | ⟨hk, c, hc, hcell⟩
 ·exact wpAny_Name (wpAny_loadName_local I.ok.kind hk hn hm fin) hd
 ·rcases hk with hk | hk
  ·exact wpAny_Name (wpAny_loadName_cell I.ok.kind hk hc hcell fin) hd
  ·exact wpAny_Name (wpAny_loadName_free I.ok.kind hk hc hcell fin hcd) hd
theorem Zah {i j pos} : PE X (.Constant (.int i) j pos) (tC (.int i)) := fun _ _ _ H _ I h => wpAny_Constant_int ⟨.int i, H, I.tok _, ⟨_, rfl⟩, h⟩
theorem Zdj {b j pos} : PE X (.Constant (.bool b) j pos) (tC (.bl b)) := fun _ _ _ H _ I h => Constant_bool ⟨.bl b, H, I, rfl, h⟩
theorem Zlo {j pos} : PE X (.Constant .none j pos) (tC .non) := fun _ _ _ H _ I h => Constant_none ⟨.non, H, I, rfl, h⟩
theorem Za6 {x j pos} : PE X (.Constant (.str x) j pos) (tC (.str x)) := fun _ _ _ H _ I h => Calls.Constant_str ⟨.str x, H, I.tok _, ⟨_, rfl⟩, h⟩
def Gl (X : Cx) (x : Str) : Prop := X.env.kindOf x = some .globalImplicit
theorem Zfc {E : Value -> Shared -> Prop} {pins : List (Addr × Obj)} {s : Shared} {σ : St} {H : Hp} {x : Str} {u : Value} {pos : Pos} {Q : Value -> Shared -> Prop} (I : Inv X pins σ H s) (hg : Gl X x) (hm : X.mg x = some u) (h : Q u s)
  (hd : (x == ("__debug__" : Str)) = false := by decide) : wpAny (model X.prog X.w) X.A (eval (.Name x pos) X.env) Q E s :=
 Calls.Name_function_global I.ok.kind hg (Calls.loadGlobal_global (by rw [I.ok.glob]; exact I.mod.glob.keeps I.bk) hm h) hd
theorem Zil {E : Value -> Shared -> Prop} {pins : List (Addr × Obj)} {s : Shared} {σ : St} {H : Hp} {x : Str} {u : Value} {pos : Pos} {Q : Value -> Shared -> Prop} (I : Inv X pins σ H s) (hg : Gl X x) (hm : X.mg x = none) (hv : bootBuiltins x = some u) (h : Q u s)
  (hn : x ≠ "__name__" := by decide) (hd : (x == ("__debug__" : Str)) = false := by decide) : wpAny (model X.prog X.w) X.A (eval (.Name x pos) X.env) Q E s := by
 obtain ⟨mb, h1, h2⟩ := I.mod.blt;exact Calls.Name_function_global I.ok.kind hg (Calls.loadGlobal_builtin (by rw [I.ok.glob]; exact I.mod.glob.keeps I.bk) hm (by rw [I.ok.blt]; exact h1.keeps I.bk) ((h2 x hn).trans hv) h) hd
theorem Zhk {x : Str} {v : V} {u : Value} {pos : Pos} (hg : Gl X x) (hm : X.mg x = some u) (r : RelV v u) (hd : (x == ("__debug__" : Str)) = false := by decide) : PE X (.Name x pos) (tC v) :=
 fun _ _ _ H _ I h => Zfc I hg hm ⟨v, H, I, r, h⟩ hd
theorem Zdw {x : Str} {v : V} {u : Value} {pos : Pos} (hg : Gl X x) (hm : X.mg x = none) (hv : bootBuiltins x = some u) (r : RelV v u) (hn : x ≠ "__name__" := by decide) (hd : (x == ("__debug__" : Str)) = false := by decide) : PE X (.Name x pos) (tC v) :=
 fun _ _ _ H _ I h => Zil I hg hm hv ⟨v, H, I, r, h⟩ hn hd
def t2I (ta tb : TE) (k : Int -> Int -> Hp -> Prop) : St -> Hp -> Prop := fun σ H => ta σ H fun x H1 => tb σ H1 fun y H2 => ∃ i j, x = .int i /\ y = .int j /\ k i j H2
variable {a b : Expr} {ta tb : TE} {pos : Pos}
def Zo8 (p : Int -> Int -> Bool) (ta tb : TE) : TE := fun σ H Q => t2I ta tb (fun i j H2 => Q (.bl (p i j)) H2) σ H
abbrev tLt : TE -> TE -> TE := Zo8 fun i j => decide (i < j)
abbrev tLe : TE -> TE -> TE := Zo8 fun i j => decide (i <= j)
abbrev tGt : TE -> TE -> TE := Zo8 fun i j => decide (j < i)
abbrev tGe : TE -> TE -> TE := Zo8 fun i j => decide (j <= i)
abbrev tEqI : TE -> TE -> TE := Zo8 fun i j => decide (i = j)
abbrev tNeI : TE -> TE -> TE := Zo8 fun i j => !decide (i = j)
def tB (t : TE) : TT := fun σ H Q => t σ H fun x H1 => ∃ c, x = .bl c /\ Q c H1
theorem Zbi {e : Expr} {t : TE} (h : PE X e t) (he : ∀ whole, isTrue e X.env whole = (do let v <- whole; standAt e.pos; holding [v] (truthy v)) := by intro _; rfl) : PT X e (tB t) := by
 intro pins s σ H Q I hw;refine isTrue_plain (thn (h pins s σ H _ I hw) fun v s1 ⟨x, H1, I1, r1, q1⟩ => ?_) (he _);obtain ⟨d, rfl, q⟩ := q1;cases r1;exact wpAny_truthy_bool ⟨H1, I1, q⟩
variable {tA tB' : TT} {rest : List Expr}
def Zsy (t u : TT) : TT := fun σ H Q => t σ H fun c H1 => if c = true then u σ H1 Q else Q false H1
def tOr (t u : TT) : TT := fun σ H Q => t σ H fun c H1 => if c = true then Q true H1 else u σ H1 Q
def Zsv (t : TT) : TT := fun σ H Q => t σ H fun c H1 => Q (!c) H1
theorem Zlk (ha : PT X a tA) : PW X (.BoolOp .And [a] pos) tA := by
 intro wh pins s σ H Q I h;refine isTrue_and (thn (ha pins s σ H Q I h) fun c s1 e => ?_);cases c with
 | true => exact isTrue_and_nil e
 | false => exact e
theorem Zd6 (ha : PT X a tA) : PW X (.BoolOp .Or [a] pos) tA := by
 intro wh pins s σ H Q I h;refine isTrue_or (thn (ha pins s σ H Q I h) fun c s1 e => ?_);cases c with
 | false => exact isTrue_or_nil e
 | true => exact e
theorem Znn (ha : PT X a tA) (hb : PW X (.BoolOp .And (b :: rest) pos) tB') : PW X (.BoolOp .And (a :: b :: rest) pos) (Zsy tA tB') := by
 intro wh pins s σ H Q I h;refine isTrue_and (thn (ha pins s σ H _ I h) fun c s1 ⟨H1, I1, q1⟩ => ?_);cases c with
 | true => exact hb wh pins s1 σ H1 Q I1 q1
 | false => exact ⟨H1, I1, q1⟩
theorem Zej (ha : PT X a tA) (hb : PW X (.BoolOp .Or (b :: rest) pos) tB') : PW X (.BoolOp .Or (a :: b :: rest) pos) (tOr tA tB') := by
 intro wh pins s σ H Q I h;refine isTrue_or (thn (ha pins s σ H _ I h) fun c s1 ⟨H1, I1, q1⟩ => ?_);cases c with
 | true => exact ⟨H1, I1, q1⟩
 | false => exact hb wh pins s1 σ H1 Q I1 q1
theorem Zbj (ha : PT X a tA) : PT X (.UnaryOp .Not a pos) (Zsv tA) := by
 intro pins s σ H Q I h;exact isTrue_not (ha pins s σ H (fun c H1 => Q (!c) H1) I h)
def Zpu (ta tb : TE) : TE := fun σ H Q => ta σ H fun x H1 => ∃ c, x = .bl c /\ if c = true then tb σ H1 Q else Q (.bl false) H1
def Zsu (ta tb : TE) : TE := fun σ H Q => ta σ H fun x H1 => ∃ c, x = .bl c /\ if c = true then Q (.bl true) H1 else tb σ H1 Q
def Zpj (ta : TE) : TE := fun σ H Q => ta σ H fun x H1 => ∃ c, x = .bl c /\ Q (.bl (!c)) H1
theorem Zeq {op} {t : TE} (h : PE X a t) : PE X (.BoolOp op [a] pos) t := fun pins s σ H Q I hw => BoolOp_one (h pins s σ H Q I hw)
theorem Zdn (ha : PE X a ta) (hb : PE X (.BoolOp .And (b :: rest) pos) tb) : PE X (.BoolOp .And (a :: b :: rest) pos) (Zpu ta tb) := by
 intro pins s σ H Q I h;refine BoolOp_and (thn (ha pins s σ H _ I h) fun v s1 ⟨x, H1, I1, r1, q1⟩ => ?_);obtain ⟨c, rfl, q1⟩ := q1;cases r1;refine wpAny_truthy_bool ?_;cases c with
 | true => exact hb pins s1 σ H1 Q I1 q1
 | false => exact ⟨.bl false, H1, I1, rfl, q1⟩
theorem Zr8 (ha : PE X a ta) (hb : PE X (.BoolOp .Or (b :: rest) pos) tb) : PE X (.BoolOp .Or (a :: b :: rest) pos) (Zsu ta tb) := by
 intro pins s σ H Q I h;refine BoolOp_or (thn (ha pins s σ H _ I h) fun v s1 ⟨x, H1, I1, r1, q1⟩ => ?_);obtain ⟨c, rfl, q1⟩ := q1;cases r1;refine wpAny_truthy_bool ?_;cases c with
 | false => exact hb pins s1 σ H1 Q I1 q1
 | true => exact ⟨.bl true, H1, I1, rfl, q1⟩
theorem Zns (ha : PE X a ta) : PE X (.UnaryOp .Not a pos) (Zpj ta) := by
 intro pins s σ H Q I h;refine UnaryOp_ (thn (ha pins s σ H _ I h) fun v s1 ⟨x, H1, I1, r1, q1⟩ => ?_);obtain ⟨c, rfl, q1⟩ := q1;cases r1;exact not_of (wpAny_truthy_bool ⟨.bl (!c), H1, I1, rfl, q1⟩)
def tIf (t : TT) (ta tb : TE) : TE := fun σ H Q => t σ H fun c H1 => if c = true then ta σ H1 Q else tb σ H1 Q
theorem Zmy {c : Expr} (hc : PT X c tA) (ha : PE X a ta) (hb : PE X b tb) : PE X (.IfExp c a b pos) (tIf tA ta tb) := by
 intro pins s σ H Q I h;refine wpAny_IfExp (thn (hc pins s σ H _ I h) fun d s1 ⟨H1, I1, q1⟩ => ?_);cases d with
 | true => exact ha pins s1 σ H1 Q I1 q1
 | false => exact hb pins s1 σ H1 Q I1 q1
end
end L2
namespace L2
open PySem PySem.Spec PyProof.Rows
def SqL (K : PySem.W.Frag) (H : Hp) (a : Addr) (xs : List V) : Prop :=
 Rd H a (.lst xs) \/
  ∃ (o : Obj) (its : Array Value) (n : Nat), K.lookup a = some o /\ o.cls = .type "list" /\ o.dict = none /\ o.data = .seq its n /\ its.size <= sizeLine /\ Vals xs its.toList
def SqT (K : PySem.W.Frag) (H : Hp) (a : Addr) (xs : List V) : Prop :=
 Rd H a (.tup xs) \/
  ∃ (o : Obj) (its : Array Value) (n : Nat), K.lookup a = some o /\ o.cls = .type "tuple" /\ o.data = .seq its n /\ its.size <= sizeLine /\ Vals xs its.toList
def Ztt : Value -> Option V
 | .none => some .non
 | .bool b => some (.bl b)
 | .int i _ => some (.int i)
 | .str x _ => some (.str x)
 | .bytes b _ => some (.byt b)
 | .float b _ => some (.flt b)
 | .ref a => some (.ref a)
 | .type n => some (.ty n)
 | _ => none
theorem RelV.abs {x : V} {u : Value} (r : RelV x u) : Ztt u = some x := by
 cases x with
 | non => cases r; rfl
 | bl _ => cases r; rfl
 | int _ => obtain ⟨t, rfl⟩ := r; rfl
 | str _ => obtain ⟨t, rfl⟩ := r; rfl
 | byt _ => obtain ⟨t, rfl⟩ := r; rfl
 | flt _ => obtain ⟨t, rfl⟩ := r; rfl
 | ref _ => cases r; rfl
 | ty _ => cases r; rfl
theorem RelV.inj {x y : V} {u : Value} (r : RelV x u) (q : RelV y u) : x = y := Option.some.inj (r.abs.symm.trans q.abs)
theorem Vals.inj : ∀ {xs ys : List V} {us : List Value}, Vals xs us -> Vals ys us -> xs = ys
 | _, _, _, .nil, .nil => rfl
 | _, _, _, .cons r t, .cons r' t' => by rw [r.inj r', Vals.inj t t']
section
variable {X : Cx} {pins : List (Addr × Obj)} {σ : St} {H : Hp} {s : Shared} {a : Addr} {xs ys : List V}
theorem SqL.of {K : PySem.W.Frag} (h : H a = some (.lst xs)) : SqL K H a xs := .inl (.inl h)
theorem SqT.of {K : PySem.W.Frag} (h : H a = some (.tup xs)) : SqT K H a xs := .inl (.inl h)
theorem Inv.list (I : Inv X pins σ H s) (h : SqL X.K H a xs) : ∃ its : List Value, Vals xs its /\ PlainL s.heap a its.toArray /\ xs.length <= sizeLine := by
 rcases h with h | ⟨o, its, n, hk, hc, hd, hs, hz, r⟩
 ·obtain ⟨z, its, n, r, e⟩ := h.ok I.hok;exact ⟨its, r, ⟨_, n, e, rfl, rfl, rfl⟩, z⟩
 ·refine ⟨its.toList, r, ⟨o, n, I.kIn a o hk, hc, hd, by simpa using hs⟩, ?_⟩;have e := r.length;simp only [Array.length_toList] at e;omega
theorem Inv.tuple (I : Inv X pins σ H s) (h : SqT X.K H a xs) : ∃ its : List Value, Vals xs its /\ IsTup s.heap a its.toArray /\ xs.length <= sizeLine := by
 rcases h with h | ⟨o, its, n, hk, hc, hs, hz, r⟩
 ·obtain ⟨z, its, r, p⟩ := h.ok I.hok;exact ⟨its, r, p, z⟩
 ·refine ⟨its.toList, r, ⟨o, I.kIn a o hk, hc, n, by simpa using hs⟩, ?_⟩;have e := r.length;simp only [Array.length_toList] at e;omega
theorem Inv.list_inj (I : Inv X pins σ H s) (h : SqL X.K H a xs) (h' : SqL X.K H a ys) : xs = ys := by
 obtain ⟨its, r, ⟨o, n, e, _, _, d⟩, _⟩ := I.list h;obtain ⟨its', r', ⟨o', n', e', _, _, d'⟩, _⟩ := I.list h';rw [e] at e'; cases e';rw [d] at d';injection d' with d1 _;have : its = its' := by simpa using congrArg Array.toList d1
 subst this;exact r.inj r'
end
abbrev Cx.wish (X : Cx) (E : Value -> Shared -> Prop) : Cx := { X with xe := E }
abbrev Cx.nox (X : Cx) : Cx := X.wish fun _ _ => False
theorem Cx.Ok.wish {X : Cx} (ok : X.Ok) (E : Value -> Shared -> Prop) : (X.wish E).Ok :=
 ⟨ok.mod, ok.kind, ok.glob, ok.blt, ok.above, ok.inj, ok.has, ok.cab, ok.hd, ok.frames, ok.stk, ok.exf, ok.bs, ok.bsz, ok.noex, ok.exfs, ok.funs, ok.frf⟩
theorem Cx.Ok.unwish {X : Cx} {E : Value -> Shared -> Prop} (ok : (X.wish E).Ok) : X.Ok :=
 ⟨ok.mod, ok.kind, ok.glob, ok.blt, ok.above, ok.inj, ok.has, ok.cab, ok.hd, ok.frames, ok.stk, ok.exf, ok.bs, ok.bsz, ok.noex, ok.exfs, ok.funs, ok.frf⟩
section
variable {X : Cx} {pins : List (Addr × Obj)} {σ : St} {H : Hp} {s : Shared} {E : Value -> Shared -> Prop}
theorem Inv.wish (I : Inv X pins σ H s) (E : Value -> Shared -> Prop) : Inv (X.wish E) pins σ H s := ⟨I.ok.wish E, I.os, I.bare, I.base, I.loc, I.cell, I.free, I.freeC, I.pin, I.hok, I.len⟩
theorem Inv.unwish (I : Inv (X.wish E) pins σ H s) : Inv X pins σ H s := ⟨I.ok.unwish, I.os, I.bare, I.base, I.loc, I.cell, I.free, I.freeC, I.pin, I.hok, I.len⟩
theorem SP.unwish {D : Zmm} {f : Flow} {s' : Shared} (h : SP (X.wish E) pins D f s') : SP X pins D f s' := by
 cases f with
 | next => obtain ⟨σ', H', I, q⟩ := h; exact ⟨σ', H', I.unwish, q⟩
 | brk => obtain ⟨σ', H', I, q⟩ := h; exact ⟨σ', H', I.unwish, q⟩
 | cont => obtain ⟨σ', H', I, q⟩ := h; exact ⟨σ', H', I.unwish, q⟩
 | ret u => obtain ⟨v, σ', H', I, r, q⟩ := h; exact ⟨v, σ', H', I.unwish, r, q⟩
theorem PSs.nox {st : List Stmt} {t : TS} (h : PSs X.nox st t) : PSs X st t := fun pins s σ H D I hw =>
 wpAny_mono (h pins s σ H D (I.wish _) hw) (fun _ _ q => q.unwish) fun _ _ z => False.elim z
end
section
variable {X : Cx} {st : Stmt} {rest : List Stmt} {t u : TS} {e : Expr} {te : TE} {pos : Pos}
def Zpk : TS := fun D σ H => D.nx σ H
def Zrd (t u : TS) : TS := fun D σ H => t { D with nx := u D } σ H
theorem Zaz : PSs X [] Zpk := fun _ _ σ H _ I h => wpAny_execs_nil ⟨σ, H, I, h⟩
theorem Zad (h1 : PS X st t) (h2 : PSs X rest u) : PSs X (st :: rest) (Zrd t u) := by
 intro pins s σ H D I h;refine wpAny_execs_cons (thn (h1 pins s σ H { D with nx := u D } I h) fun f s1 q => ?_);cases f with
 | next =>
  obtain ⟨σ', H', I', q⟩ := q;exact h2 pins s1 σ' H' D I' q
 | ret v => exact q
 | brk => exact q
 | cont => exact q
theorem Zai (h1 : PS X st t) : PSs X [st] t := by
 intro pins s σ H D I h;refine wpAny_execs_cons (thn (h1 pins s σ H D I h) fun f s1 q => ?_);cases f with
 | next => exact wpAny_execs_nil q
 | ret v => exact q
 | brk => exact q
 | cont => exact q
def Zpt : TS := fun D σ H => D.bk σ H
def Zrn : TS := fun D σ H => D.ct σ H
theorem Inv.quiet {pins : List (Addr × Obj)} {σ : St} {H : Hp} {s : Shared} (I : Inv X pins σ H s) : interactive X.env = false := by simp [interactive, I.ok.kind]
def Zpo (te : TE) : TS := fun D σ H => te σ H fun _ H1 => D.nx σ H1
theorem Zom (he : PE X e te) (hs : swapsWith e none pos.line X.env = pure false := by rfl) : PS X (.Expr e pos) (Zpo te) := by
 intro pins s σ H D I h;exact wpAny_Expr_any (thn (he pins s σ H _ I h) fun v s1 ⟨x, H1, I1, r1, q1⟩ => ⟨σ, H1, I1, q1⟩) I.quiet hs
def Zrf (te : TE) : TS := fun D σ H => te σ H D.rt
theorem Zar (he : PE X e te) : PS X (.Return (some e) pos) (Zrf te) := by
 intro pins s σ H D I h;exact wpAny_Return_some (thn (he pins s σ H _ I h) fun v s1 ⟨x, H1, I1, r1, q1⟩ => ⟨x, σ, H1, I1, r1, q1⟩)
def Zre : TS := fun D _ H => D.rt .non H
def Zsw (c : TT) (t u : TS) : TS := fun D σ H => c σ H fun b H1 => if b = true then t D σ H1 else u D σ H1
theorem Zb6 {c : Expr} {a b : List Stmt} {tc : TT} (hc : PT X c tc) (ha : PSs X a t) (hb : PSs X b u) : PS X (.If c a b pos) (Zsw tc t u) := by
 intro pins s σ H D I h;refine wpAny_If (thn (hc pins s σ H _ I h) fun d s1 ⟨H1, I1, q1⟩ => ?_);cases d with
 | true => exact ha pins s1 σ H1 D I1 q1
 | false => exact hb pins s1 σ H1 D I1 q1
def Zpl : TS := fun _ _ _ => False
theorem Zdm {sts : List Stmt} : PSs X sts Zpl := fun _ _ _ _ _ _ h => h.elim
end
abbrev TG := V -> St -> Hp -> (St -> Hp -> Prop) -> Prop
abbrev TGs := List V -> St -> Hp -> (St -> Hp -> Prop) -> Prop
def PG (X : Cx) (target : Expr) (t : TG) : Prop :=
 ∀ (pins : List (Addr × Obj)) (s : Shared) (σ : St) (H : Hp) (v : V) (u : Value) (Q : St -> Hp -> Prop), Inv X pins σ H s -> RelV v u -> t v σ H Q ->
  wpAny (model X.prog X.w) X.A (assign target X.env u) (fun _ s' => ∃ σ' H', Inv X pins σ' H' s' /\ Q σ' H') X.xe s
abbrev Zrb := V -> V -> V -> Hp -> (Hp -> Prop) -> Prop
def PSet (X : Cx) (t : Zrb) : Prop :=
 ∀ (pins : List (Addr × Obj)) (s : Shared) (σ : St) (H : Hp) (o i v : V) (ov iv u : Value) (Q : Hp -> Prop), Inv X pins σ H s -> RelV o ov -> RelV i iv -> RelV v u -> t o i v H Q ->
  wpAny (model X.prog X.w) X.A (setItem ov iv u) (fun _ s' => ∃ H', Inv X pins σ H' s' /\ Q H') X.xe s
abbrev TIp := V -> V -> Hp -> VK -> Prop
section
variable {X : Cx} {pos : Pos}
def Znb (i : Nat) : TG := fun v σ H Q => Q (σ.set i (some v)) H
theorem Zdi {i : Nat} {x : Str} (hN : X.N.Nodup) (hi : X.N[i]? = some x) (hx : Loc X.env.scope x) (hf : X.fn x = true \/ X.env.scope.names.lookup x = some .local := by first | exact .inl rfl | exact .inr rfl | assumption) : PG X (.Name x pos) (Znb i) := by
 intro pins s σ H v u Q I r h;exact wpAny_assign_Name (Zjm I hN hi hx r (fun s' I' => ⟨_, H, I', h⟩) hf)
def Zts : TGs := fun vs σ H Q => vs = [] /\ Q σ H
def Zsh (t : TG) (u : TGs) : TGs := fun vs σ H Q => ∃ v r, vs = v :: r /\ t v σ H fun σ' H' => u r σ' H' Q
def Ztr (K : PySem.W.Frag) (n : Nat) (t : TGs) : TG := fun v σ H Q => ∃ a xs, v = .ref a /\ SqT K H a xs /\ xs.length = n /\ t xs σ H Q
def Zs8 (to ti : TE) (t : Zrb) : TG := fun v σ H Q => to σ H fun o H1 => ti σ H1 fun i H2 => t o i v H2 fun H3 => Q σ H3
theorem Znp {o i : Expr} {to ti : TE} {t : Zrb} (ho : PE X o to) (hi : PE X i ti) (hs : PSet X t)
  (ha : ∀ v, assign (.Subscript o i pos) X.env v = (do
   let ov <- holding [v] (eval o X.env)
   let iv <- holding [v, ov] (eval i X.env)
   standAt pos
   holding [v, ov, iv] (setItem ov iv v)
   release [v, ov, iv] []) := by intro _; rfl) : PG X (.Subscript o i pos) (Zs8 to ti t) := by
 intro pins s σ H v u Q I r h;rw [ha];refine wpAny_bind (wpAny_holding (thn (ho pins s σ H _ I h) fun ov s1 ⟨x, H1, I1, r1, q1⟩ => ?_));refine wpAny_bind (wpAny_holding (thn (hi pins s1 σ H1 _ I1 q1) fun iv s2 ⟨y, H2, I2, r2, q2⟩ => ?_));refine wpAny_bind (wpAny_standAt (wpAny_bind (wpAny_holding (thn (hs pins s2 σ H2 x y v ov iv u _ I2 r1 r2 r q2) fun _ s3 ⟨H3, I3, q3⟩ => ?_))));exact wpAny_release ⟨σ, H3, I3, q3⟩
def Zro (te : TE) (g : TG) : TS := fun D σ H => te σ H fun x H1 => g x σ H1 D.nx
theorem Zno {tg e : Expr} {te : TE} {g : TG} (he : PE X e te) (hg : PG X tg g) (hs : swapsWithSole [tg] e pos.line X.env = pure false := by rfl) (hw : swappedStores [tg] e X.env = pure none := by rfl)
  (h1 : (assignEach [tg] X.env).map (·.2) = [assign tg X.env] := by rfl) : PS X (.Assign [tg] e pos) (Zro te g) := by
 intro pins s σ H D I h;refine wpAny_Assign_stores (thn (he pins s σ H _ I h) fun v s1 ⟨x, H1, I1, r1, q1⟩ => ?_) hs hw;rw [h1];exact thn (hg pins s1 σ H1 x v _ I1 r1 q1) fun _ s2 q => q
theorem Zas {i : Nat} {x : Str} {e : Expr} {te : TE} {pos' : Pos} (hN : X.N.Nodup) (hi : X.N[i]? = some x) (hx : Loc X.env.scope x) (he : PE X e te) (hs : swapsWith e (some (.Name x pos')) pos.line X.env = pure false := by rfl) (hf : X.fn x = true \/ X.env.scope.names.lookup x = some .local := by first | exact .inl rfl | exact .inr rfl | assumption) :
  PS X (.Assign [.Name x pos'] e pos) (Zro te (Znb i)) := by
 intro pins s σ H D I h;refine wpAny_Assign_Name (thn (he pins s σ H _ I h) fun v s1 ⟨y, H1, I1, r1, q1⟩ => ?_) hs;exact Zjm I1 hN hi hx r1 (fun s2 I2 => ⟨_, H1, I2, q1⟩) hf
end
section
variable {X : Cx} {pos : Pos}
end
structure It where
 go : Nat -> Hp -> Prop
 yld : Nat -> Hp -> V -> Hp -> Prop
 stop : Nat -> Hp -> Prop
def FpOk (X : Cx) (pins : List (Addr × Obj)) (H : Hp) (b : Addr) : Prop :=
 H b = none /\ b ≠ X.env.locals /\ b ∉ X.fs /\ (b ∈ X.ex \/ X.s₀.heap.objs.size <= b) /\ (∀ x c, X.env.cells.lookup x = some c -> c ≠ b) /\ ∀ p ∈ X.pn ++ pins, p.1 ≠ b
theorem Inv.fpOk {X : Cx} {pins : List (Addr × Obj)} {σ : St} {H H' : Hp} {s : Shared} {b : Addr} (I : Inv X pins σ H s) (hb : s.heap.objs.size <= b) (hn : H' b = none) : FpOk X pins H' b := by
 refine ⟨hn, Nat.ne_of_gt (Nat.lt_of_lt_of_le I.lt hb), I.nofs hb, .inr (Nat.le_trans I.sz hb), fun x c e z => ?_, fun p hp z => ?_⟩
 ·obtain ⟨v, q⟩ := I.cell x c e;exact absurd (Nat.lt_of_lt_of_le q.lt (by rw [z]; exact hb)) (Nat.lt_irrefl _)
 ·exact absurd (Nat.lt_of_lt_of_le (Heap.lt_size (I.pin p hp).1) (by rw [z]; exact hb)) (Nat.lt_irrefl _)
structure Zpa (P : Program) (w : World) (K : PySem.W.Frag) (tg : Expr) (J : It) (fp : List Addr) (it : Addr) (tn : Nat -> Heap -> Prop) : Prop where
 mem : it ∈ fp
 obj : ∀ i h, tn i h -> ∀ b ∈ fp, ∃ o, h.get? b = some o /\ ∀ v, o.data ≠ .cell v
 keep : ∀ i h h', tn i h -> (∀ b ∈ fp, ∀ o, h.get? b = some o -> h'.get? b = some o) -> tn i h'
 item : ∀ (X : Cx), X.prog = P -> X.w = w -> X.K = K -> X.calm = true -> ∀ (i : Nat) (pins : List (Addr × Obj)) (s : Shared) (σ : St) (H : Hp) (E : Value -> Shared -> Prop), Inv X pins σ H s -> (∀ b ∈ fp, FpOk X pins H b) -> tn i s.heap -> J.go i H ->
  wpAny (model P w) X.A (pyNext (.ref it)) (fun r s1 => ∃ u, r = some u /\
   wpAny (model P w) X.A (letOwnedTupleGo tg (.ref it) u) (fun _ s2 => ∃ x H', Inv X pins σ H' s2 /\ RelV x u /\ J.yld i H x H' /\ tn (i + 1) s2.heap /\ ∀ b ∈ fp, H' b = none) E s1) E s
 done : ∀ (X : Cx), X.prog = P -> X.w = w -> X.K = K -> X.calm = true -> ∀ (i : Nat) (pins : List (Addr × Obj)) (s : Shared) (σ : St) (H : Hp) (E : Value -> Shared -> Prop), Inv X pins σ H s -> (∀ b ∈ fp, FpOk X pins H b) -> tn i s.heap -> J.stop i H ->
  wpAny (model P w) X.A (pyNext (.ref it)) (fun r s1 => r = none /\ Inv X pins σ H s1) E s
 self : ∀ (A : Around) (i : Nat) (s : Shared) (Q : Value -> Shared -> Prop) (E : Value -> Shared -> Prop), tn i s.heap -> Q (.ref it) s -> wpAny (model P w) A (pyIter (.ref it)) Q E s
abbrev TI := St -> Hp -> (It -> Hp -> Prop) -> Prop
def PIE (X : Cx) (pins : List (Addr × Obj)) (σ : St) (tg : Expr) (R : It -> Hp -> Prop) (itv : Value) (s2 : Shared) : Prop :=
 ∃ (it : Addr) (fp : List Addr) (tn : Nat -> Heap -> Prop) (J : It) (H' : Hp), itv = .ref it /\ Inv X pins σ H' s2 /\ Zpa X.prog X.w X.K tg J fp it tn /\ tn 0 s2.heap /\ (∀ b ∈ fp, FpOk X pins H' b) /\ R J H'
def PI (X : Cx) (tg iter : Expr) (wi : TI) : Prop :=
 ∀ (pins : List (Addr × Obj)) (s : Shared) (σ : St) (H : Hp) (R : It -> Hp -> Prop), Inv X pins σ H s -> wi σ H R ->
  wpAny (model X.prog X.w) X.A (eval iter X.env) (fun v s1 => wpAny (model X.prog X.w) X.A (pyIter v) (PIE X pins σ tg R) X.xe s1) X.xe s
theorem Zm9 {M : Model} {A : Around} {E : Value -> Shared -> Prop} {s : Shared} {tg : Expr} {it : Addr} {u : Value} {o : Obj} {n : String} {vs : Array Value} {Q : Unit -> Shared -> Prop} (ho : s.heap.get? it = some o) (hc : o.cls = .type n) (hd : o.data = .fields vs)
    (hn : ["enumerate", "zip", "dict_itemiterator", "dict_reverseitemiterator", "odict_iterator", "itertools.zip_longest", "itertools.pairwise"].contains n = false) (hQ : Q () s) : wpAny M A (letOwnedTupleGo tg (.ref it) u) Q E s := by
  unfold letOwnedTupleGo
  cases tg <;> first
    | exact wpAny_pure hQ
    | (cases u <;> first
        | exact wpAny_pure hQ
        | (refine wpAny_bind (wpAny_load ho ?_)
           rw [hc, hd]
           show wpAny M A (if (["enumerate", "zip", "dict_itemiterator", "dict_reverseitemiterator", "odict_iterator", "itertools.zip_longest", "itertools.pairwise"].contains n && vs[0]? == some (rawInt _)) = true then _ else _) Q E s
           rw [if_neg (by intro h; rw [hn, Bool.false_and] at h; cases h)]
           exact wpAny_pure hQ))
def Itl (K : PySem.W.Frag) (a : Addr) : It :=
 ⟨fun i H => ∃ xs x, SqL K H a xs /\ xs[i]? = some x, fun i H x H' => H' = H /\ ∀ xs, SqL K H a xs -> xs[i]? = some x, fun i H => ∃ xs, SqL K H a xs /\ xs.length <= i⟩
def Itr (lo : Int) (n : Nat) : It := ⟨fun i _ => i < n, fun i H x H' => H' = H /\ x = .int (lo + i), fun i _ => n <= i⟩
theorem Zky {P : Program} {w : World} {K : PySem.W.Frag} {tg : Expr} (a it : Addr) : Zpa P w K tg (Itl K a) [it] it (fun i h => h.IsListIter it a i) where
 mem := by simp
 obj := fun i h st b hb => by
  have e : b = it := by simpa using hb
  subst e;obtain ⟨o, e, c, d⟩ := st;exact ⟨o, e, fun v z => by rw [d] at z; cases z⟩
 keep := fun i h h' st k => st.at fun o e => k it (by simp) o e
 item := by
  intro X hP hw hK hc i pins s σ H E I hf st hg;subst hP hw hK;obtain ⟨xs, x, hq, hx⟩ := hg;obtain ⟨its, rv, p, hz⟩ := I.list hq;obtain ⟨u, hu, ru⟩ := rv.get hx;obtain ⟨f0, f1, f2, f3, f4, f5⟩ := hf it (by simp);refine wpAny_pyNext_list_item st p.isList (x := u) (by simpa using hu) fun h' st' sb => ?_
  have I1 : Inv X pins σ H { s with heap := h' } := I.turned (t' := s.toks) (fun b o hb e => (sb.2 b hb).trans e) f0 f1 f3 f4 f5;obtain ⟨o, e, c, d⟩ := id st';exact ⟨u, rfl, Zm9 (s := { s with heap := h' }) e c d (by decide) ⟨x, H, I1, ru, ⟨rfl, fun ys hy => by rw [I.list_inj hy hq]; exact hx⟩, st', fun b hb => (hf b hb).1⟩⟩
 done := by
  intro X hP hw hK hc i pins s σ H E I hf st hg;subst hP hw hK;obtain ⟨xs, hq, hx⟩ := hg;obtain ⟨its, rv, p, hz⟩ := I.list hq;obtain ⟨f0, f1, f2, f3, f4, f5⟩ := hf it (by simp);have hl := rv.length;exact wpAny_pyNext_list_end (I.ok.hd hc) st p.isList (by simp; omega) fun h' eb => ⟨rfl, I.turned (t' := s.toks) (fun b o hb e => eb b o hb e) f0 f1 f3 f4 f5⟩
 self := fun _ _ _ _ _ st h => wpAny_pyIter_listiter st h
theorem Zkd {P : Program} {w : World} {K : PySem.W.Frag} {tg : Expr} (it : Addr) (lo : Int) (n : Nat) : Zpa P w K tg (Itr lo n) [it] it (fun i h => IsRangeIter h it (lo + (i : Nat) * 1) ((n : Int) - (i : Nat)) 1) where
 mem := by simp
 obj := fun i h st b hb => by
  have e : b = it := by simpa using hb
  subst e;exact ⟨_, st, fun v z => by
   have z' : Data.fields _ = Data.cell v := z;cases z'⟩
 keep := fun i h h' st k => k it (by simp) _ st
 item := by
  intro X hP hw hK hc i pins s σ H E I hf st hg;subst hP hw hK;obtain ⟨f0, f1, f2, f3, f4, f5⟩ := hf it (by simp);have W := Walks.range (prog := X.prog) (w := X.w) (I.ok.hd hc) it lo 1 n;refine W.item i s _ _ hg st fun v h' tk hv st' kk => ?_
  obtain ⟨t, rfl⟩ := hv;have I1 : Inv X pins σ H { s with heap := h', toks := tk } := I.turned (fun b o hb e => kk b o (by simpa using hb) e) f0 f1 f3 f4 f5;refine ⟨_, rfl, Zm9 (s := { s with heap := h', toks := tk }) (n := "range_iterator") st' rfl rfl (by decide) ⟨.int (lo + i), H, I1, ⟨t, ?_⟩, ⟨rfl, rfl⟩, st', fun b hb => (hf b hb).1⟩⟩;rw [Int.mul_one]
 done := by
  intro X hP hw hK hc i pins s σ H E I hf st hg;subst hP hw hK;obtain ⟨f0, f1, f2, f3, f4, f5⟩ := hf it (by simp);exact wpAny_pyNext_range_end (I.ok.hd hc) st (by have : n <= i := hg; omega) fun h' eb => ⟨rfl, I.turned (t' := s.toks) (fun b o hb e => eb b o hb e) f0 f1 f3 f4 f5⟩
 self := fun _ _ _ _ _ st h => wpAny_pyIter_rangeiter st h
end L2
namespace L2
open PySem PySem.Spec PyProof.Rows
section
variable {X : Cx} {tg : Expr}
def Zoz (K : PySem.W.Frag) (tl : TE) : TI := fun σ H R => tl σ H fun x H1 => ∃ a, x = .ref a /\ (∃ xs, SqL K H1 a xs) /\ R (Itl K a) H1
theorem Zon {l : Expr} {tl : TE} (hl : PE X l tl) : PI X tg l (Zoz X.K tl) := by
 intro pins s σ H R I h;refine thn (hl pins s σ H _ I h) fun v s1 ⟨x, H1, I1, r1, q1⟩ => ?_
 obtain ⟨a, e, ⟨xs, hq⟩, q⟩ := q1;subst e;cases r1;obtain ⟨its, rv, p, hz⟩ := I1.list hq;refine wpAny_pyIter_list p.isList ?_;refine ⟨s1.heap.objs.size, [s1.heap.objs.size], _, _, H1, rfl, I1.kept (t' := s1.toks) fun b o e => Heap.get?_push_of_some _ e, Zky a _, ⟨_, Heap.get?_push_size _ rfl, rfl, rfl⟩, fun b hb => ?_, q⟩;have e : b = s1.heap.objs.size := by simpa using hb
 subst e;exact I1.fpOk (Nat.le_refl _) (I1.hok.fresh (Nat.le_refl _))
theorem Zmt {pins : List (Addr × Obj)} {σ : St} {H : Hp} {s : Shared} {R : It -> Hp -> Prop} {E : Value -> Shared -> Prop} {lo hi : Int} {t u v : Tok} {tk : Nat} (I : Inv X pins σ H s) (h1 : -(2 ^ 62) <= lo) (h2 : lo < 2 ^ 62) (h3 : -(2 ^ 62) <= hi) (h4 : hi < 2 ^ 62)
  (q : R (Itr lo (hi - lo).toNat) H) : wpAny (model X.prog X.w) X.A (pyIter (.ref s.heap.objs.size)) (PIE X pins σ tg R) E { s with heap := s.heap.push { cls := .type "range", data := .fields #[.int lo t, .int hi u, .int 1 v] }, toks := tk } := by
 refine wpAny_pyIter_range (IsRange.new ..) (small_one h1 h2 h3 h4) ?_;have I1 : Inv X pins σ H { s with heap := s.heap.push { cls := .type "range", data := .fields #[.int lo t, .int hi u, .int 1 v] }, toks := tk } := I.kept fun b o e => Heap.get?_push_of_some _ e
 refine ⟨(s.heap.push { cls := .type "range", data := .fields #[.int lo t, .int hi u, .int 1 v] }).objs.size, [(s.heap.push { cls := .type "range", data := .fields #[.int lo t, .int hi u, .int 1 v] }).objs.size], _, _, H, rfl,
  I1.kept (t' := tk) fun b o e => Heap.get?_push_of_some _ e, Zkd _ lo (hi - lo).toNat, ?_, fun b hb => ?_, q⟩
 ·have e1 : lo + ((0 : Nat) : Int) * 1 = lo := by simp
  have e2 : (((hi - lo).toNat : Nat) : Int) - ((0 : Nat) : Int) = Builtin.Range.rangeSize lo hi 1 := by rw [rangeSize_one]; split <;> omega
  show IsRangeIter _ _ (lo + ((0 : Nat) : Int) * 1) ((((hi - lo).toNat : Nat) : Int) - ((0 : Nat) : Int)) 1;rw [e1, e2];exact Heap.get?_push_size _ rfl
 ·have e : b = (s.heap.push { cls := .type "range", data := .fields #[.int lo t, .int hi u, .int 1 v] }).objs.size := by simpa using hb
  subst e;exact I1.fpOk (Nat.le_refl _) (I1.hok.fresh (Nat.le_refl _))
def Zq1 (ta : TA) : TI := fun σ H R => ta σ H fun vs H1 => ∃ j : Int, vs = [.int j] /\ -(2 ^ 62) <= j /\ j < 2 ^ 62 /\ R (Itr 0 j.toNat) H1
def Zsf (ta : TA) : TI := fun σ H R => ta σ H fun vs H1 => ∃ i j : Int, vs = [.int i, .int j] /\ (-(2 ^ 62) <= i /\ i < 2 ^ 62 /\ -(2 ^ 62) <= j /\ j < 2 ^ 62) /\ R (Itr i (j - i).toNat) H1
theorem Zfz {a : Expr} {ta : TA} {p pos : Pos} (hg : Gl X "range") (hm : X.mg "range" = none) (ha : PA X [a] ta) (hs : starEach [a] X.env = [(false, eval a X.env)] := by rfl) : PI X tg (.Call (.Name "range" p) [a] [] pos) (Zq1 ta) := by
 intro pins s σ H R I h;refine Call_ (Zil I hg hm boot_range (PyProof.Rows.callWith_type1 (thn (ha pos pins s σ H _ I h) fun us s1 ⟨vs, H1, I1, r1, q1⟩ => ?_) hs rfl));obtain ⟨j, e, q1, q2, q⟩ := q1;subst e;cases r1 with
 | cons r rr =>
  cases rr;obtain ⟨t, rfl⟩ := r;exact call_range_1 (Zmt I1 (by omega) (by omega) q1 q2 (by simpa using q))
def Zsx (wi : TI) (g : TG) (tb : TS) : TS := fun D σ H => wi σ H fun J H1 => ∃ W : Nat -> Nat -> St -> Hp -> Prop, (∃ m, W 0 m σ H1) /\ ∀ i m σ H, W i m σ H ->
 (J.stop i H /\ D.nx σ H) \/ (J.go i H /\ ∃ N : St -> Hp -> Prop, (∀ σ' H', N σ' H' -> ∃ m', m' < m /\ W (i + 1) m' σ' H') /\ ∀ x H', J.yld i H x H' -> g x σ H' fun σ2 H2 => tb { D with nx := N, ct := N, bk := D.nx } σ2 H2)
def Zie (fp : List Addr) (h : Heap) : List (Addr × Obj) := fp.filterMap fun b => (h.get? b).map fun o => (b, o)
theorem Zd8 {fp : List Addr} {h : Heap} {b : Addr} {o : Obj} (hb : b ∈ fp) (e : h.get? b = some o) : (b, o) ∈ Zie fp h := List.mem_filterMap.mpr ⟨b, hb, by rw [e]; rfl⟩
theorem Zlt {fp : List Addr} {h : Heap} {p : Addr × Obj} (hp : p ∈ Zie fp h) : p.1 ∈ fp /\ h.get? p.1 = some p.2 := by
 obtain ⟨b, hb, e⟩ := List.mem_filterMap.mp hp;cases q : h.get? b with
 | none => rw [q] at e; cases e
 | some o =>
  rw [q] at e;have e' : (b, o) = p := Option.some.inj e;subst e';exact ⟨hb, q⟩
theorem Inv.pinned {pins : List (Addr × Obj)} {σ : St} {H : Hp} {s : Shared} {fp : List Addr} (I : Inv X pins σ H s) (hf : ∀ b ∈ fp, FpOk X pins H b) (ho : ∀ b ∈ fp, ∃ o, s.heap.get? b = some o /\ ∀ v, o.data ≠ .cell v) : Inv X (pins ++ Zie fp s.heap) σ H s :=
 I.pins_of fun p hp => (List.mem_append.mp hp).elim (fun z => I.pin p (List.mem_append_right _ z)) fun z => by
  obtain ⟨hb, e⟩ := Zlt z;obtain ⟨f0, f1, f2, _⟩ := hf p.1 hb;obtain ⟨o, e', d⟩ := ho p.1 hb;rw [e] at e'; cases e';exact ⟨e, f0, f1, f2, d⟩
theorem Inv.unpinned {pins pl : List (Addr × Obj)} {σ : St} {H : Hp} {s : Shared} (I : Inv X (pins ++ pl) σ H s) : Inv X pins σ H s := I.pins_of fun p hp => I.pin p (List.mem_append_right _ (List.mem_append_left _ hp))
theorem Zqf {iter : Expr} {body : List Stmt} {wi : TI} {g : TG} {tb : TS} {pos : Pos} (hp : PassesOwn (model X.prog X.w) X.A X.env X.xe) (hc : X.calm = true) (hi : PI X tg iter wi) (hg : PG X tg g) (hb : PSs X body tb)
  (hs : ∀ x, foldedSetIterable iter X.env x = pure x := by intro _; rfl) : PS X (.For tg iter body [] pos) (Zsx wi g tb) := by
 intro pins s σ H D I h;refine wpAny_For (thn (hi pins s σ H _ I h) fun v s1 h1 => thn h1 fun itv s2 h2 => ?_) hs;obtain ⟨it, fp, tn, J, H2, e, I2, T, st2, f2, W, ⟨m0, w0⟩, turn⟩ := h2;subst e
 -- what stays true of the iterator's objects through the loop
 have stat : ∀ {H' : Hp}, (∀ b ∈ fp, H' b = none) -> ∀ b ∈ fp, FpOk X pins H' b := fun hn b hb => ⟨hn b hb, (f2 b hb).2⟩
 refine codeAny_forLoop_any (fun n s' => ∃ i σ' H', Inv X pins σ' H' s' /\ tn i s'.heap /\ (∀ b ∈ fp, H' b = none) /\ W i n σ' H') ?_ m0 ⟨0, σ, H2, I2, st2, fun b hb => (f2 b hb).1, w0⟩;rintro n s3 ⟨i, σ3, H3, I3, st3, fr3, w3⟩;rcases turn i n σ3 H3 w3 with ⟨stop, qn⟩ | ⟨go, N, hN, step⟩
 ·refine wpAny_passesOwn hp (thn (T.done X rfl rfl rfl hc i pins s3 σ3 H3 X.xe I3 (stat fr3) st3 stop) fun r s4 ⟨hr, I4⟩ => ?_);subst hr;exact wpAny_execs_nil ⟨σ3, H3, I4, qn⟩
 ·refine wpAny_passesOwn hp (thn (T.item X rfl rfl rfl hc i pins s3 σ3 H3 X.xe I3 (stat fr3) st3 go) fun r s4 ⟨u, hr, h4⟩ => ?_);subst hr;refine wpAny_passesOwn hp (thn h4 fun _ s5 ⟨x, H5, I5, r5, y5, st5, fr5⟩ => ?_);have I5' := I5.pinned (stat fr5) (T.obj _ _ st5);refine wpAny_passesOwn hp (thn (hg _ s5 σ3 H5 x u _ I5' r5 (step x H5 y5)) fun _ s6 ⟨σ6, H6, I6, q6⟩ => ?_);refine wpAny_passesOwn hp (thn (hb _ s6 σ6 H6 _ I6 q6) fun f s7 q7 => ?_);have again : ∀ {σ7 : St} {H7 : Hp}, Inv X (pins ++ Zie fp s5.heap) σ7 H7 s7 -> N σ7 H7 -> ∃ m, m < n /\ ∃ i σ' H', Inv X pins σ' H' s7 /\ tn i s7.heap /\ (∀ b ∈ fp, H' b = none) /\ W i m σ' H' := fun {σ7 H7} I7 n7 => by
   obtain ⟨m', hm, w7⟩ := hN σ7 H7 n7;refine ⟨m', hm, i + 1, σ7, H7, I7.unpinned, T.keep _ _ _ st5 fun b hb o e => (I7.pin (b, o) (List.mem_append_right _ (List.mem_append_right _ (Zd8 hb e)))).1, fun b hb => ?_, w7⟩;obtain ⟨o, e, d⟩ := T.obj _ _ st5 b hb;exact (I7.pin (b, o) (List.mem_append_right _ (List.mem_append_right _ (Zd8 hb e)))).2.1
  cases f with
  | next => obtain ⟨σ7, H7, I7, n7⟩ := q7; exact again I7 n7
  | cont => obtain ⟨σ7, H7, I7, n7⟩ := q7; exact again I7 n7
  | brk => obtain ⟨σ7, H7, I7, q7⟩ := q7; exact ⟨σ7, H7, I7.unpinned, q7⟩
  | ret v => obtain ⟨x7, σ7, H7, I7, r7, q7⟩ := q7; exact ⟨x7, σ7, H7, I7.unpinned, r7, q7⟩
end
theorem Zl8 {lo : Int} {n : Nat} {g : TG} {tb : TS} {D : Zmm} {σ : St} {H : Hp} (Pv : Nat -> St -> Hp -> Prop) (h0 : Pv 0 σ H)
  (hs : ∀ i σ H, i < n -> Pv i σ H -> g (.int (lo + i)) σ H fun σ2 H2 => tb { D with nx := Pv (i + 1), ct := Pv (i + 1), bk := D.nx } σ2 H2) (hd : ∀ σ H, Pv n σ H -> D.nx σ H) :
  ∃ W : Nat -> Nat -> St -> Hp -> Prop, (∃ m, W 0 m σ H) /\ ∀ i m σ H, W i m σ H ->
   ((Itr lo n).stop i H /\ D.nx σ H) \/ ((Itr lo n).go i H /\ ∃ N : St -> Hp -> Prop, (∀ σ' H', N σ' H' -> ∃ m', m' < m /\ W (i + 1) m' σ' H') /\ ∀ x H', (Itr lo n).yld i H x H' -> g x σ H' fun σ2 H2 => tb { D with nx := N, ct := N, bk := D.nx } σ2 H2) := by
 refine ⟨fun i m σ H => m = n - i /\ i <= n /\ Pv i σ H, ⟨n, by simp, Nat.zero_le _, h0⟩, ?_⟩;rintro i m σ H ⟨rfl, hi, p⟩
 by_cases hlt : i < n
 ·refine .inr ⟨hlt, Pv (i + 1), fun σ' H' p' => ⟨n - (i + 1), by omega, rfl, hlt, p'⟩, fun x H' y => ?_⟩;obtain ⟨e, y⟩ := y;subst e y;exact hs i σ _ hlt p
 ·have e : i = n := by omega
  subst e;exact .inl ⟨Nat.le_refl _, hd σ H p⟩
end L2
namespace L2
open PySem PySem.Spec PyProof.Rows
abbrev R2 := V -> V -> Hp -> VK -> Prop
def OpR (X : Cx) (f : Value -> Value -> Sem Value) (r : R2) : Prop :=
 ∀ (pins : List (Addr × Obj)) (s : Shared) (σ : St) (H : Hp) (x y : V) (v u : Value) (Q : VK), Inv X pins σ H s -> RelV x v -> RelV y u -> r x y H Q ->
  wpAny (model X.prog X.w) X.A (f v u) (EP X pins σ Q) X.xe s
def CallR (X : Cx) (f : Value) (r : List V -> Hp -> VK -> Prop) : Prop :=
 ∀ (pins : List (Addr × Obj)) (s : Shared) (σ : St) (H : Hp) (xs : List V) (us : List Value) (Q : VK), Inv X pins σ H s -> Vals xs us -> r xs H Q ->
  wpAny (model X.prog X.w) X.A (call f us) (EP X pins σ Q) X.xe s
def tOp (r : R2) (ta tb : TE) : TE := fun σ H Q => ta σ H fun x H1 => tb σ H1 fun y H2 => r x y H2 Q
def tUn (r : V -> Hp -> VK -> Prop) (ta : TE) : TE := fun σ H Q => ta σ H fun x H1 => r x H1 Q
def rI (C : Int -> Int -> Prop) (g : Int -> Int -> V) : R2 := fun x y H Q => ∃ i j, x = .int i /\ y = .int j /\ C i j /\ Q (g i j) H
def rI0 (g : Int -> Int -> V) : R2 := fun x y H Q => ∃ i j, x = .int i /\ y = .int j /\ Q (g i j) H
def rU (g : Int -> V) : V -> Hp -> VK -> Prop := fun x H Q => ∃ i, x = .int i /\ Q (g i) H
section
variable {X : Cx} {a b c : Expr} {ta tb tc : TE} {pos : Pos}
theorem Zsl (ha : PE X a ta) (hb : PE X b tb) {pins : List (Addr × Obj)} {s : Shared} {σ : St} {H : Hp} {R : V -> V -> Hp -> Prop} (I : Inv X pins σ H s)
  (h : ta σ H fun x H1 => tb σ H1 fun y H2 => R x y H2) {Q : Value -> Shared -> Prop} {f : Value -> Value -> Sem Value}
  (hf : ∀ v u s2 x y H2, Inv X pins σ H2 s2 -> RelV x v -> RelV y u -> R x y H2 -> wpAny (model X.prog X.w) X.A (f v u) Q X.xe s2) :
  wpAny (model X.prog X.w) X.A (eval a X.env) (fun v s₁ => wpAny (model X.prog X.w) X.A (eval b X.env) (fun u s₂ => wpAny (model X.prog X.w) X.A (f v u) Q X.xe s₂) X.xe s₁) X.xe s := by
 refine thn (ha pins s σ H _ I h) fun v s1 ⟨x, H1, I1, r1, q1⟩ => ?_
 refine thn (hb pins s1 σ H1 _ I1 q1) fun u s2 ⟨y, H2, I2, r2, q2⟩ => ?_
 exact hf v u s2 x y H2 I2 r1 r2 q2
theorem Za2 {op : Operator} {r : R2} (ho : OpR X (binaryOp op) r) (ha : PE X a ta) (hb : PE X b tb) : PE X (.BinOp a op b pos) (tOp r ta tb) := by
 intro pins s σ H Q I h;exact wpAny_BinOp (Zsl ha hb I h fun v u s2 x y H2 I2 rx ry q => ho pins s2 σ H2 x y v u Q I2 rx ry q)
theorem opI {f : Value -> Value -> Sem Value} {C : Int -> Int -> Prop} {g : Int -> Int -> Int}
  (rule : ∀ (i j : Int) (t u : Tok) (s : Shared) (Q : Value -> Shared -> Prop) (E : Value -> Shared -> Prop), C i j -> Q (.int (g i j) s.toks) { s with toks := s.toks + 1 } -> wpAny (model X.prog X.w) X.A (f (.int i t) (.int j u)) Q E s) :
  OpR X f (rI C fun i j => .int (g i j)) := by
 intro pins s σ H x y v u Q I rx ry h;obtain ⟨i, j, rfl, rfl, hc, q⟩ := h;obtain ⟨t, rfl⟩ := rx;obtain ⟨t', rfl⟩ := ry;exact rule i j t t' s _ _ hc ⟨.int (g i j), H, I.tok _, ⟨_, rfl⟩, q⟩
theorem Ztl {f : Value -> Value -> Sem Value} {g : Int -> Int -> Int}
  (rule : ∀ (i j : Int) (t u : Tok) (s : Shared) (Q : Value -> Shared -> Prop) (E : Value -> Shared -> Prop), Q (.int (g i j) s.toks) { s with toks := s.toks + 1 } -> wpAny (model X.prog X.w) X.A (f (.int i t) (.int j u)) Q E s) :
  OpR X f (rI0 fun i j => .int (g i j)) := by
 intro pins s σ H x y v u Q I rx ry h;obtain ⟨i, j, rfl, rfl, q⟩ := h;obtain ⟨t, rfl⟩ := rx;obtain ⟨t', rfl⟩ := ry;exact rule i j t t' s _ _ ⟨.int (g i j), H, I.tok _, ⟨_, rfl⟩, q⟩
theorem Zra {f : Value -> Value -> Sem Value} {g : Int -> Int -> Bool}
  (rule : ∀ (i j : Int) (t u : Tok) (s : Shared) (Q : Value -> Shared -> Prop) (E : Value -> Shared -> Prop), Q (.bool (g i j)) s -> wpAny (model X.prog X.w) X.A (f (.int i t) (.int j u)) Q E s) :
  OpR X f (rI0 fun i j => .bl (g i j)) := by
 intro pins s σ H x y v u Q I rx ry h;obtain ⟨i, j, rfl, rfl, q⟩ := h;obtain ⟨t, rfl⟩ := rx;obtain ⟨t', rfl⟩ := ry;exact rule i j t t' s _ _ ⟨.bl (g i j), H, I, rfl, q⟩
def CMul (i j : Int) : Prop := (-(2 ^ 64) < i /\ i < 2 ^ 64) \/ (-(2 ^ 64) < j /\ j < 2 ^ 64)
theorem CMul.ok {i j : Int} (h : CMul i j) : IntMulOk i j := by
 rcases h with ⟨h1, h2⟩ | ⟨h1, h2⟩
 ·exact .of_left (intBits_le_64 h1 h2)
 ·exact .of_right (intBits_le_64 h1 h2)
theorem Zco : OpR X (binaryOp .Add) (rI0 fun i j => .int (i + j)) := Ztl fun _ _ _ _ _ _ _ q => add_int q
theorem Zeb : OpR X (binaryOp .Mult) (rI CMul fun i j => .int (i * j)) := opI fun _ _ _ _ _ _ _ hc q => mul_int q hc.ok
theorem Zde : OpR X (binaryOp .Mod) (rI (fun _ j => 0 < j) fun i j => .int (i % j)) := opI fun i j _ _ _ _ _ hc q => by
 have h1 : (0 : Int) < j := hc;exact mod_int' (by omega) (by rw [Int.fmod_eq_emod_of_nonneg i (by omega)]; exact q)
end
def Zsz : V -> V -> Bool
 | .non, .non => true | .non, .int _ => true | .int _, .non => true | .non, .bl _ => true | .bl _, .non => true | .non, .str _ => true | .str _, .non => true
 | .int _, .int _ => true | .bl _, .bl _ => true | .str _, .str _ => true | .byt _, .byt _ => true
 | .int _, .str _ => true | .str _, .int _ => true | .bl _, .str _ => true | .str _, .bl _ => true
 | _, _ => false
def rEq : R2 := fun x y H Q => Zsz x y = true /\ Q (.bl (decide (x = y))) H
def rNe : R2 := fun x y H Q => Zsz x y = true /\ Q (.bl (!decide (x = y))) H
theorem Zmf {i j : Int} : decide (V.int i = V.int j) = (i == j) := by
 rw [Bool.eq_iff_iff];simp
theorem Zny {i j : Bool} : decide (V.bl i = V.bl j) = (i == j) := by
 rw [Bool.eq_iff_iff];simp
theorem Zme {i j : Str} : decide (V.str i = V.str j) = (i == j) := by
 rw [Bool.eq_iff_iff];simp
theorem Zmg {i j : Array UInt8} : decide (V.byt i = V.byt j) = (i.toList == j.toList) := by
 rw [Bool.eq_iff_iff];cases i;cases j;simp
section
variable {X : Cx} {a b c : Expr} {ta tb tc : TE} {pos : Pos}
theorem Za5 {pins : List (Addr × Obj)} {σ : St} {H : Hp} {s : Shared} {Q : VK} {k k' : Bool} (I : Inv X pins σ H s) (q : Q (.bl k) H) (e : k = k') : EP X pins σ Q (.bool k') s := by
 subst e;exact ⟨.bl k, H, I, rfl, q⟩
theorem Zfa : OpR X (compareOp .Eq) rEq := by
 intro pins s σ H x y v u Q I rx ry h;obtain ⟨hs, q⟩ := h;cases x with
 | non =>
  cases rx;cases y with
  | non => cases ry; exact PySem.EqNone.eq_none_none (Za5 I q (by simp))
  | bl j => cases ry; exact PySem.EqNone.eq_none_bool (Za5 I q (by simp))
  | int j => obtain ⟨t', rfl⟩ := ry; exact PySem.EqNone.eq_none_int (Za5 I q (by simp))
  | str j => obtain ⟨t', rfl⟩ := ry; exact PySem.EqNone.eq_none_str (Za5 I q (by simp))
  | _ => exact absurd (show false = true from hs) Bool.false_ne_true
 | bl i =>
  cases rx;cases y with
  | non => cases ry; exact PySem.EqNone.eq_bool_none (Za5 I q (by simp))
  | bl j => cases ry; exact eq_bool (Za5 I q Zny)
  | str j => obtain ⟨t', rfl⟩ := ry; exact PySem.EqMixed.eq_bool_str (Za5 I q (by simp))
  | _ => exact absurd (show false = true from hs) Bool.false_ne_true
 | int i =>
  obtain ⟨t, rfl⟩ := rx;cases y with
  | non => cases ry; exact PySem.EqNone.eq_int_none (Za5 I q (by simp))
  | int j => obtain ⟨t', rfl⟩ := ry; exact eq_int (Za5 I q Zmf)
  | str j => obtain ⟨t', rfl⟩ := ry; exact PySem.EqMixed.eq_int_str (Za5 I q (by simp))
  | _ => exact absurd (show false = true from hs) Bool.false_ne_true
 | str i =>
  obtain ⟨t, rfl⟩ := rx;cases y with
  | non => cases ry; exact PySem.EqNone.eq_str_none (Za5 I q (by simp))
  | bl j => cases ry; exact PySem.EqMixed.eq_str_bool (Za5 I q (by simp))
  | int j => obtain ⟨t', rfl⟩ := ry; exact PySem.EqMixed.eq_str_int (Za5 I q (by simp))
  | str j => obtain ⟨t', rfl⟩ := ry; exact eq_str (Za5 I q Zme)
  | _ => exact absurd (show false = true from hs) Bool.false_ne_true
 | byt i =>
  obtain ⟨t, rfl⟩ := rx;cases y with
  | byt j => obtain ⟨t', rfl⟩ := ry; exact PySem.W.eq_bytes (Za5 I q Zmg)
  | _ => exact absurd (show false = true from hs) Bool.false_ne_true
 | _ => cases y <;> exact absurd (show false = true from hs) Bool.false_ne_true
theorem Zif : OpR X (compareOp .NotEq) rNe := by
 intro pins s σ H x y v u Q I rx ry h;obtain ⟨hs, q⟩ := h;cases x with
 | non =>
  cases rx;cases y with
  | non => cases ry; exact PySem.EqNone.ne_none_none (Za5 I q (by simp))
  | bl j => cases ry; exact PySem.EqNone.ne_none_bool (Za5 I q (by simp))
  | int j => obtain ⟨t', rfl⟩ := ry; exact PySem.EqNone.ne_none_int (Za5 I q (by simp))
  | str j => obtain ⟨t', rfl⟩ := ry; exact PySem.EqNone.ne_none_str (Za5 I q (by simp))
  | _ => exact absurd (show false = true from hs) Bool.false_ne_true
 | bl i =>
  cases rx;cases y with
  | non => cases ry; exact PySem.EqNone.ne_bool_none (Za5 I q (by simp))
  | bl j => cases ry; exact ne_bool (Za5 I q (congrArg not Zny))
  | str j => obtain ⟨t', rfl⟩ := ry; exact PySem.EqMixed.ne_bool_str (Za5 I q (by simp))
  | _ => exact absurd (show false = true from hs) Bool.false_ne_true
 | int i =>
  obtain ⟨t, rfl⟩ := rx;cases y with
  | non => cases ry; exact PySem.EqNone.ne_int_none (Za5 I q (by simp))
  | int j => obtain ⟨t', rfl⟩ := ry; exact ne_int (Za5 I q (congrArg not Zmf))
  | str j => obtain ⟨t', rfl⟩ := ry; exact PySem.EqMixed.ne_int_str (Za5 I q (by simp))
  | _ => exact absurd (show false = true from hs) Bool.false_ne_true
 | str i =>
  obtain ⟨t, rfl⟩ := rx;cases y with
  | non => cases ry; exact PySem.EqNone.ne_str_none (Za5 I q (by simp))
  | bl j => cases ry; exact PySem.EqMixed.ne_str_bool (Za5 I q (by simp))
  | int j => obtain ⟨t', rfl⟩ := ry; exact PySem.EqMixed.ne_str_int (Za5 I q (by simp))
  | str j => obtain ⟨t', rfl⟩ := ry; exact ne_str (Za5 I q (congrArg not Zme))
  | _ => exact absurd (show false = true from hs) Bool.false_ne_true
 | byt i =>
  obtain ⟨t, rfl⟩ := rx;cases y with
  | byt j => obtain ⟨t', rfl⟩ := ry; exact PySem.W.ne_bytes (Za5 I q (congrArg not Zmg))
  | _ => exact absurd (show false = true from hs) Bool.false_ne_true
 | _ => cases y <;> exact absurd (show false = true from hs) Bool.false_ne_true
theorem Zqk : OpR X (compareOp .Lt) (rI0 fun i j => .bl (decide (i < j))) := Zra fun _ _ _ _ _ _ _ q => lt_int q
theorem Zhn : OpR X (compareOp .LtE) (rI0 fun i j => .bl (decide (i <= j))) := Zra fun _ _ _ _ _ _ _ q => le_int q
theorem Zsa : OpR X (compareOp .Gt) (rI0 fun i j => .bl (decide (j < i))) := Zra fun _ _ _ _ _ _ _ q => gt_int q
theorem Zsb : OpR X (compareOp .GtE) (rI0 fun i j => .bl (decide (j <= i))) := Zra fun _ _ _ _ _ _ _ q => ge_int q
theorem Zop : OpR X (compareOp .IsNot) (fun x y H Q => y = .non /\ Q (.bl (!decide (x = .non))) H) := by
 intro pins s σ H x y v u Q I rx ry h;obtain ⟨rfl, q⟩ := h;cases ry;refine isnot_none_gen (Za5 I q ?_);cases x <;> first
  | (cases rx; rfl)
  | (obtain ⟨t, rfl⟩ := rx; rfl)
theorem Za3 (b : Expr) {op : CmpOp} (h : op ≠ .In := by decide) (h2 : op ≠ .NotIn := by decide) : behindInMarks op b = false := by
 have e1 : (op == CmpOp.In) = false := by cases op <;> first | rfl | exact absurd rfl h
 have e2 : (op == CmpOp.NotIn) = false := by cases op <;> first | rfl | exact absurd rfl h2
 cases b <;> simp [behindInMarks, e1, e2]
theorem Zbo {op : CmpOp} {r : R2} (ho : OpR X (compareOp op) r) (ha : PE X a ta) (hb : PE X b tb) (hm : behindInMarks op b = false) : PE X (.Compare a [op] [b] pos) (tOp r ta tb) := by
 intro pins s σ H Q I h;exact wpAny_Compare1 (Zsl ha hb I h fun v u s2 x y H2 I2 rx ry q => ho pins s2 σ H2 x y v u Q I2 rx ry q) hm
def Zn6 (t : TE) : TT := fun σ H Q => t σ H fun x H' => ∃ k, x = .bl k /\ Q k H'
theorem Zbm {op : CmpOp} {r : R2} (ho : OpR X (compareOp op) r) (ha : PE X a ta) (hb : PE X b tb) (hm : behindInMarks op b = false) : PT X (.Compare a [op] [b] pos) (Zn6 (tOp r ta tb)) := by
 intro pins s σ H Q I h;refine wpAny_isTrue_Compare1 (thn (ha pins s σ H _ I h) fun v s1 ⟨x, H1, I1, r1, q1⟩ => thn (hb pins s1 σ H1 _ I1 q1) fun u s2 ⟨y, H2, I2, r2, q2⟩ =>
  thn (ho pins s2 σ H2 x y v u _ I2 r1 r2 q2) fun c s3 ⟨z, H3, I3, r3, k, e, q3⟩ => ?_) hm
 subst e;cases r3;exact wpAny_truthy_bool ⟨H3, I3, q3⟩
def Zk3 (r r' : R2) (ta tb tc : TE) : TE := fun σ H Q => ta σ H fun x H1 => tb σ H1 fun y H2 => r x y H2 fun z H3 => ∃ k, z = .bl k /\
 (if k = true then tc σ H3 fun w' H4 => r' y w' H4 Q else Q (.bl false) H3)
theorem Zhl {op op' : CmpOp} {r r' : R2} (ho : OpR X (compareOp op) r) (ho' : OpR X (compareOp op') r') (ha : PE X a ta) (hb : PE X b tb) (hc : PE X c tc)
  (hm : lastMarks [op, op'] [b, c] = false := by with_unfolding_all rfl) : PE X (.Compare a [op, op'] [b, c] pos) (Zk3 r r' ta tb tc) := by
 intro pins s σ H Q I h;refine Compare_chain (thn (ha pins s σ H _ I h) fun v s1 ⟨x, H1, I1, r1, q1⟩ => chain_link (thn (hb pins s1 σ H1 _ I1 q1) fun u s2 ⟨y, H2, I2, r2, q2⟩ =>
  thn (ho pins s2 σ H2 x y v u _ I2 r1 r2 q2) fun d s3 ⟨z, H3, I3, r3, k, e, q3⟩ => ?_)) hm
 subst e;cases r3;refine wpAny_truthy_bool ?_;cases k with
 | false => exact ite_ff ⟨.bl false, H3, I3, rfl, q3⟩
 | true => exact ite_tt (chain_last (thn (hc pins s3 σ H3 _ I3 q3) fun w' s4 ⟨z', H4, I4, r4, q4⟩ => ho' pins s4 σ H4 y z' u w' Q I4 r2 r4 q4))
theorem Zhh {op op' : CmpOp} {r r' : R2} (ho : OpR X (compareOp op) r) (ho' : OpR X (compareOp op') r') (ha : PE X a ta) (hb : PE X b tb) (hc : PE X c tc)
  (hm : lastMarks [op, op'] [b, c] = false := by with_unfolding_all rfl) : PT X (.Compare a [op, op'] [b, c] pos) (Zn6 (Zk3 r r' ta tb tc)) := by
 intro pins s σ H Q I h;refine isTrue_chain (thn (ha pins s σ H _ I h) fun v s1 ⟨x, H1, I1, r1, q1⟩ => test_link (thn (hb pins s1 σ H1 _ I1 q1) fun u s2 ⟨y, H2, I2, r2, q2⟩ =>
  thn (ho pins s2 σ H2 x y v u _ I2 r1 r2 q2) fun d s3 ⟨z, H3, I3, r3, k, e, q3⟩ => ?_)) hm
 subst e;cases r3;refine wpAny_truthy_bool ?_;cases k with
 | false =>
  obtain ⟨k', e', q'⟩ := q3;cases e';exact ite_ff ⟨H3, I3, q'⟩
 | true =>
  refine ite_tt (test_last (thn (hc pins s3 σ H3 _ I3 q3) fun w' s4 ⟨z', H4, I4, r4, q4⟩ => thn (ho' pins s4 σ H4 y z' u w' _ I4 r2 r4 q4) fun d' s5 ⟨z2, H5, I5, r5, k2, e2, q5⟩ => ?_));subst e2;cases r5;exact wpAny_truthy_bool ⟨H5, I5, q5⟩
def TruV (K : PySem.W.Frag) (x : V) (H : Hp) (k : Bool) : Prop :=
 match x with
 | .non => k = false
 | .bl b => k = b
 | .int i => k = (i != 0)
 | .str y => y.length <= sizeLine /\ k = ((y.length : Int) != 0)
 | .byt y => y.size <= sizeLine /\ k = ((y.size : Int) != 0)
 | .ref p => (∃ xs, SqL K H p xs /\ k = !xs.isEmpty) \/ (∃ xs, SqT K H p xs /\ k = !xs.isEmpty) \/ ∃ kvs, H p = some (.dK kvs) /\ k = !kvs.isEmpty
 | _ => False
theorem Zgu : (sizeLine : Nat) < 2 ^ 63 := by rw [sizeLine_eq]; decide
theorem Zgt : OpR X (binaryOp .Add) (fun x y H Q => ∃ i j, x = .str i /\ y = .str j /\ i.length + j.length <= sizeLine /\ Q (.str (i ++ j)) H) := by
 intro pins s σ H x y v u Q I rx ry h;obtain ⟨i, j, rfl, rfl, hz, q⟩ := h;obtain ⟨t, rfl⟩ := rx;obtain ⟨t', rfl⟩ := ry;exact add_str (fun t' tk => ⟨.str (i ++ j), H, I.tok _, ⟨_, rfl⟩, q⟩) hz
theorem Zg2 {x : V} {us : List Value} (r : Vals [x] us) : ∃ u, us = [u] /\ RelV x u := by
 cases r with
 | cons r1 r2 => cases r2; exact ⟨_, rfl, r1⟩
theorem Zpc {x y : V} {us : List Value} (r : Vals [x, y] us) : ∃ u w', us = [u, w'] /\ RelV x u /\ RelV y w' := by
 cases r with
 | cons r1 r2 =>
  cases r2 with
  | cons r3 r4 => cases r4; exact ⟨_, _, rfl, r1, r3⟩
theorem Zmi (hc : X.calm = true) : CallR X (.builtin "min") (fun xs H Q => ∃ i j, xs = [.int i, .int j] /\ Q (.int (if j < i then j else i)) H) := by
 intro pins s σ H xs us Q I r h;obtain ⟨i, j, rfl, q⟩ := h;obtain ⟨u, w', rfl, ⟨t, rfl⟩, ⟨t', rfl⟩⟩ := Zpc r;refine min_two_ints (I.ok.hd hc) fun h' tk k => ⟨_, H, I.kept k, ?_, q⟩
 by_cases hj : j < i
 ·rw [if_pos hj, if_pos hj]; exact ⟨_, rfl⟩
 ·rw [if_neg hj, if_neg hj]; exact ⟨_, rfl⟩
theorem Zis : CallR X (.type "int") (fun xs H Q => (∃ i, xs = [.int i] /\ Q (.int i) H) \/ ∃ k, xs = [.bl k] /\ Q (.int (if k then 1 else 0)) H) := by
 intro pins s σ H xs us Q I r h;rcases h with ⟨i, rfl, q⟩ | ⟨k, rfl, q⟩
 ·obtain ⟨u, rfl, t, rfl⟩ := Zg2 r;exact call_int_int ⟨.int i, H, I, ⟨_, rfl⟩, q⟩
 ·obtain ⟨u, rfl, r1⟩ := Zg2 r;cases r1;exact call_int_bool ⟨.int (if k then 1 else 0), H, I.tok _, ⟨_, rfl⟩, q⟩
end
end L2
namespace L2
open PySem PySem.Spec PyProof.Rows
structure ObjM (h : Heap) (x dx C : Addr) (mA : Str -> Option Value) : Prop where
 obj : h.get? x = some (PySem.W.instObj C dx)
 ns : h.Ns1 dx mA
 ne : dx ≠ x
theorem Zly {h : Heap} {dx : Addr} {mA : Str -> Option Value} (n : h.Ns1 dx mA) : ∃ od, h.get? dx = some od /\ ∀ name, PySem.W.lookIn name od = some (mA name) := by
 obtain ⟨o, es, ep, ho, hd, hk, _, hm⟩ := n;refine ⟨o, ho, fun name => ?_⟩;have e := hm name;unfold nsFind findBy at e;rw [<- Array.find?_toList] at e;unfold PySem.W.lookIn;rw [hd];dsimp only
 split
 ·rename_i y q
  rw [q] at e;exact congrArg some e
 ·rename_i q
  rw [q] at e;have a : es.toList.any (·.refKey) = false := by
   rw [List.any_eq_false];intro y hy;obtain ⟨z, t, hkey⟩ := hk y (Array.mem_toList_iff.mp hy);simp [DictEntry.refKey, hkey]
  have a' : ¬ es.toList.any (·.refKey) = true := by rw [a]; exact Bool.false_ne_true
  rw [if_neg a'];exact congrArg some e
theorem ObjM.look {h : Heap} {x dx C : Addr} {mA : Str -> Option Value} (I : ObjM h x dx C mA) : ∃ od, PySem.W.InstAt h x (PySem.W.instObj C dx) C (some od) /\ ∀ name, PySem.W.lookIn name od = some (mA name) :=
 let ⟨od, ho, hl⟩ := Zly I.ns
 ⟨od, ⟨I.obj, rfl, rfl, ho⟩, hl⟩
section
variable {prog : Program} {w : World} {A : Around} {E : Value -> Shared -> Prop} {s : Shared} {K : PySem.W.Frag} {x dx C f : Addr} {mA : Str -> Option Value} {name : Str} {v : Value}
theorem Zo0 {expr : Bool} {Q : Value -> Shared -> Prop} (X : K.In s.heap) (I : ObjM s.heap x dx C mA) (hg : PySem.W.plainGet K C name = true) (hh : PySem.W.hasDictIn K C = true)
  (ha : PySem.W.findIn K (.ref C) name = some none) (hv : mA name = some v) (hv' : PySem.W.handedIn v = true) (h : Q v { s with toks := s.toks + 1 }) :
  wpAny (model prog w) A (getAttr (.ref x) name expr) Q E s := by
 obtain ⟨od, J, hl⟩ := I.look;exact PySem.W.get_value X J (PySem.W.plainGet_of hg).1 (PySem.W.findObj_own hh ha rfl (by rw [hl, hv])) hv' h
theorem Zna {pl : Sem Bool} {Q : Value × List Value -> Shared -> Prop} (X : K.In s.heap) (I : ObjM s.heap x dx C mA) (hg : PySem.W.plainGet K C name = true)
  (hf : PySem.W.findIn K (.ref C) name = some (some (.ref f))) (ht : PySem.W.isFn K (.ref f) = true) (hv : mA name = none) (h : Q (.ref f, [.ref x]) s) :
  wpAny (model prog w) A (getMethod (.ref x) name pl) Q E s := by
 obtain ⟨od, J, hl⟩ := I.look;exact PySem.W.method_fn X J (PySem.W.plainGet_of hg).1 (PySem.W.plainGet_of hg).2 hf (beq_iff_eq.mp ht) (by show (PySem.W.lookIn name od).map (·.isSome) = some false; rw [hl, hv]; rfl) h
theorem Zoe {ns : List Str} {Q : Unit -> Shared -> Prop} (X : K.In s.heap) (I : ObjM s.heap x dx C mA)
  (hs : PySem.W.findIn K (.ref C) "__setattr__" = some (some (.builtin "object.__setattr__"))) (hp : PySem.W.plainOver K C = true) (ht : PySem.W.takerIn K C name = some none) (hh : PySem.W.hasDictIn K C = true)
  (hw : PySem.Within mA ns) (hsz : ns.length <= sizeLine)
  (h : ∀ h', ObjM h' x dx C (fun y => if y = name then some v else mA y) -> Heap.SameBut dx s.heap h' -> Q () { s with heap := h', toks := s.toks + 2 }) :
  wpAny (model prog w) A (setAttr (.ref x) name v) Q E s := by
 obtain ⟨od, J, hl⟩ := I.look;refine PySem.W.set_plain X J hs (PySem.W.osa_open (s := { s with toks := s.toks + 1 }) (r := none) X J hp ht fun b => ?_);obtain ⟨cd, hc, hd'⟩ := PySem.W.any_some hh;have hx : s.heap.get? x = some ⟨.ref C, some dx, .plain, #[]⟩ := I.obj;refine wpAny_bind (wpAny_pure (wpAny_bind (wpAny_bind (wpAny_loadPart hx (wpAny_bind (PySem.W.Looks.here (s := { s with toks := s.toks + 1 }) (PySem.W.looks_clsIn X hc) ?_))))));rw [hd'];refine wpAny_pure (a := some dx) (wpAny_bind (wpAny_pure (wpAny_bind ?_)));refine wpAny_nsSet1 (s := { s with toks := s.toks + 1 }) I.ns fun h' hn2 hs2 => ?_
 obtain ⟨oD, esD, epD, hoD, hdD, hcD⟩ := hn2.count (PySem.Within.cons name v hw);refine wpAny_bind (wpAny_lookBehind hoD (by rw [hdD]; exact pastItsLine_dict (Nat.le_trans hcD (by rw [List.length_cons]; omega))) ?_);exact wpAny_pure (h _ ⟨(hs2.2 _ (Ne.symm I.ne)).trans I.obj, hn2, I.ne⟩ hs2)
theorem Zm4 {R : Result -> Shared -> Prop} {vs : List Value} {kw : List (Str × Value)} (X : K.In s.heap) (hm : PySem.W.makesIn K C = true)
  (hi : PySem.W.findIn K (.ref C) "__init__" = some (some (.ref f))) (hf : PySem.W.typeIn K (.ref f) = some (.type "function"))
  (h : codeAny (model prog w) (A.under (.builtin "type.__call__" ⟨.ref C :: vs, kw⟩)) (.call (.ref f) ⟨.ref (s.heap.objs.size + 1) :: vs, kw⟩) (PySem.W.InitBack (s.heap.objs.size + 1) R)
   { s with heap := (s.heap.push PySem.W.emptyDict).push (PySem.W.instObj C s.heap.objs.size) }) :
  codeAny (model prog w) A (.call (.ref C) ⟨vs, kw⟩) R s := by
 obtain ⟨hh, g, d, t, os⟩ := s;exact PySem.W.make_core (PySem.W.makes_of X hm) (PySem.W.looks_findIn X hi) (fun self => PySem.W.bind_fn X self hf) (.inl rfl) h
end
def putF (f : Str) (v : V) : List (Str × V) -> List (Str × V)
 | [] => [(f, v)]
 | (g, x) :: r => if g = f then (g, v) :: r else (g, x) :: putF f v r
theorem Zdx (f g : Str) (v : V) : ∀ fs : List (Str × V), (putF f v fs).lookup g = if g = f then some v else fs.lookup g
 | [] => by
  show List.lookup g [(f, v)] = _
  by_cases h : g = f
  ·have hb : (g == f) = true := beq_iff_eq.mpr h;simp only [List.lookup, hb, if_pos h]
  ·have hb : (g == f) = false := beq_eq_false_iff_ne.mpr h;simp only [List.lookup, hb, if_neg h]
 | (k, x) :: r => by
  have ih := Zdx f g v r;rw [show putF f v ((k, x) :: r) = (if k = f then (k, v) :: r else (k, x) :: putF f v r) from rfl]
  by_cases hk : k = f
  ·rw [if_pos hk]
   by_cases h : g = k
   ·have hb : (g == k) = true := beq_iff_eq.mpr h;simp only [List.lookup, hb, if_pos (h.trans hk)]
   ·have hb : (g == k) = false := beq_eq_false_iff_ne.mpr h;simp only [List.lookup, hb, if_neg (fun e : g = f => h (e.trans hk.symm))]
  ·rw [if_neg hk]
   by_cases h : g = k
   ·have hb : (g == k) = true := beq_iff_eq.mpr h;simp only [List.lookup, hb, if_neg (fun e : g = f => hk (h.symm.trans e))]
   ·have hb : (g == k) = false := beq_eq_false_iff_ne.mpr h;simp only [List.lookup, hb];exact ih
theorem Zf2 (f : Str) (v : V) : ∀ fs : List (Str × V), f ∈ (putF f v fs).map (·.1) /\ ∀ g, g ∈ fs.map (·.1) -> g ∈ (putF f v fs).map (·.1)
 | [] => ⟨by simp [putF], fun g h => by simp at h⟩
 | (k, x) :: r => by
  obtain ⟨i1, i2⟩ := Zf2 f v r;rw [show putF f v ((k, x) :: r) = (if k = f then (k, v) :: r else (k, x) :: putF f v r) from rfl]
  by_cases hk : k = f
  ·rw [if_pos hk];subst hk;exact ⟨by simp, fun g h => by simpa using h⟩
  ·rw [if_neg hk];refine ⟨?_, fun g h => ?_⟩
   ·rw [List.map_cons];exact List.mem_cons_of_mem _ i1
   ·rw [List.map_cons] at h ⊢;rcases List.mem_cons.mp h with e | e
    ·exact List.mem_cons.mpr (.inl e)
    ·exact List.mem_cons_of_mem _ (i2 g e)
theorem Zen (f : Str) (v : V) : ∀ fs : List (Str × V), (putF f v fs).length <= fs.length + 1
 | [] => by simp [putF]
 | (k, x) :: r => by
  have ih := Zen f v r;rw [show putF f v ((k, x) :: r) = (if k = f then (k, v) :: r else (k, x) :: putF f v r) from rfl]
  by_cases hk : k = f
  ·rw [if_pos hk, List.length_cons, List.length_cons]; omega
  ·rw [if_neg hk, List.length_cons, List.length_cons]; omega
theorem RelO.some_of {v : V} {o : Option Value} (r : RelO (some v) o) : ∃ u, o = some u /\ RelV v u := by
 cases o with
 | none => exact (show False from r).elim
 | some u => exact ⟨u, rfl, r⟩
theorem RelO.none_of {o : Option Value} (r : RelO none o) : o = none := by
 cases o with
 | none => rfl
 | some u => exact (show False from r).elim
theorem Zl7 {v : V} {u : Value} (r : RelV v u) : PySem.W.handedIn u = true := by
 cases v with
 | non => cases (show u = Value.none from r); rfl
 | bl b => cases (show u = Value.bool b from r); rfl
 | int i => obtain ⟨t, e⟩ := (show ∃ t, u = Value.int i t from r); cases e; rfl
 | str x => obtain ⟨t, e⟩ := (show ∃ t, u = Value.str x t from r); cases e; rfl
 | byt b => obtain ⟨t, e⟩ := (show ∃ t, u = Value.bytes b t from r); cases e; rfl
 | flt b => obtain ⟨t, e⟩ := (show ∃ t, u = Value.float b t from r); cases e; rfl
 | ref a => cases (show u = Value.ref a from r); rfl
 | ty n => cases (show u = Value.type n from r); rfl
section
variable {P : Program} {w : World} {H H' : Hp} {h h' : Heap} {a C dx : Addr} {fs fs' : List (Str × V)}
theorem Zhx (hok : HOk P w H h) (e : H a = some (.ins C dx fs)) : ∃ mA, ObjM h a dx C mA /\ (∀ f, RelO (fs.lookup f) (mA f)) /\ PySem.Within mA (fs.map (·.1)) /\ fs.length <= 1000 /\ H dx = some (.own a) := by
 obtain ⟨d, z, ne, ob, mA, n, r, q⟩ := (show ObjOk P w H h a (.ins C dx fs) from hok a _ e);exact ⟨mA, ⟨ob, n, ne⟩, r, q, z, d⟩
end
structure Cls (K : PySem.W.Frag) (C : Addr) : Prop where
 pg : PySem.W.plainGet K C Str.empty = true
 hd : PySem.W.hasDictIn K C = true
 po : PySem.W.plainOver K C = true
 sa : PySem.W.findIn K (.ref C) "__setattr__" = some (some (.builtin "object.__setattr__"))
theorem Cls.get {K : PySem.W.Frag} {C : Addr} (c : Cls K C) (f : Str) : PySem.W.plainGet K C f = true := c.pg
def NoAttr (K : PySem.W.Frag) (C : Addr) (f : Str) : Prop := PySem.W.findIn K (.ref C) f = some none
theorem NoAttr.taker {K : PySem.W.Frag} {C : Addr} {f : Str} (n : NoAttr K C f) : PySem.W.takerIn K C f = some none := by
 unfold PySem.W.takerIn;rw [show PySem.W.findIn K (.ref C) f = some none from n];rfl
structure Con (K : PySem.W.Frag) (C : Addr) (f : Str) (v : V) (u : Value) : Prop where
 at_ : PySem.W.findIn K (.ref C) f = some (some u)
 rel : RelV v u
 get : PySem.W.specialIn K u "__get__" = some none
 cp : PySem.W.copiedNames.contains f = false
structure Zso (K : PySem.W.Frag) (C : Addr) (m : Str) (f : Addr) : Prop where
 at_ : PySem.W.findIn K (.ref C) m = some (some (.ref f))
 fn : PySem.W.isFn K (.ref f) = true
 kp : PySem.W.keepIn K (.ref f) = true
section
variable {X : Cx} {pins : List (Addr × Obj)} {σ : St} {H : Hp} {s : Shared} {a C dx : Addr} {fs : List (Str × V)} {f : Str} {v : V} {A : Around} {E : Value -> Shared -> Prop}
theorem Zgw {b : Bool} {Q : Value -> Shared -> Prop} (I : Inv X pins σ H s) (e : H a = some (.ins C dx fs)) (c : Cls X.K C) (n : NoAttr X.K C f) (l : fs.lookup f = some v)
  (h : ∀ u s', Inv X pins σ H s' -> RelV v u -> Q u s') : wpAny (model X.prog X.w) A (getAttr (.ref a) f b) Q E s := by
 obtain ⟨mA, O, r, _, _, _⟩ := Zhx I.hok e;obtain ⟨u, hu, ru⟩ := RelO.some_of (v := v) (o := mA f) (by rw [<- l]; exact r f);exact Zo0 I.kIn O (c.get f) c.hd n hu (Zl7 ru) (h u _ (I.tok _) ru)
theorem Zfe {m : Str} {g : Addr} {pl : Sem Bool} {Q : Value × List Value -> Shared -> Prop} (I : Inv X pins σ H s) (e : H a = some (.ins C dx fs)) (c : Cls X.K C) (k : Zso X.K C m g) (l : fs.lookup m = none)
  (h : Q (.ref g, [.ref a]) s) : wpAny (model X.prog X.w) A (getMethod (.ref a) m pl) Q E s := by
 obtain ⟨mA, O, r, _, _, _⟩ := Zhx I.hok e;have hn : mA m = none := RelO.none_of (by rw [<- l]; exact r m);exact Zna I.kIn O (c.get m) k.at_ k.fn hn h
theorem Zkf {y : V} {u : Value} {Q : Unit -> Shared -> Prop} (I : Inv X pins σ H s) (e : H a = some (.ins C dx fs)) (c : Cls X.K C) (n : NoAttr X.K C f) (hl : fs.length < 1000) (ry : RelV y u)
  (h : ∀ s', Inv X pins σ (upd H a (.ins C dx (putF f y fs))) s' -> Q () s') : wpAny (model X.prog X.w) A (setAttr (.ref a) f u) Q E s := by
 obtain ⟨mA, O, r, wi, _, ho⟩ := Zhx I.hok e;have hz : (fs.map (·.1)).length <= sizeLine := by rw [List.length_map, sizeLine_eq]; omega
 refine Zoe I.kIn O c.sa c.po n.taker c.hd wi hz fun h' O' sb => h _ ?_
 have hd : ∃ o, h'.get? dx = some o := let ⟨o, _, _, e', _⟩ := O'.ns; ⟨o, e'⟩;refine I.write (x := a) (e := dx) (by rw [e]; exact True.intro) (.inr ho) (fun b q hb z => (sb.2 b hb).trans z) hd ?_;refine ⟨by rw [Zao O.ne]; exact ho, ?_, O.ne, O'.obj, _, O'.ns, fun g => ?_, fun g hg => ?_⟩
 ·have := Zen f y fs; omega
 ·show RelO ((putF f y fs).lookup g) (if g = f then some u else mA g);rw [Zdx]
  by_cases q : g = f
  ·rw [if_pos q, if_pos q]; exact ry
  ·rw [if_neg q, if_neg q]; exact r g
 ·by_cases q : g = f
  ·rw [q]; exact (Zf2 f y fs).1
  ·refine (Zf2 f y fs).2 g (wi g fun z => hg ?_);show (if g = f then some u else mA g) = none;rw [if_neg q]; exact z
theorem Inv.made (I : Inv X pins σ H s) : Inv X pins σ (upd (upd H s.heap.objs.size (.own (s.heap.objs.size + 1))) (s.heap.objs.size + 1) (.ins C s.heap.objs.size []))
  { s with heap := (s.heap.push PySem.W.emptyDict).push (PySem.W.instObj C s.heap.objs.size) } := by
 have e1 : (s.heap.push PySem.W.emptyDict).get? s.heap.objs.size = some PySem.W.emptyDict := Heap.get?_push_size s.heap rfl;have e2 : ((s.heap.push PySem.W.emptyDict).push (PySem.W.instObj C s.heap.objs.size)).get? (s.heap.objs.size + 1) = some (PySem.W.instObj C s.heap.objs.size) := by
  have := Heap.get?_push_size (s.heap.push PySem.W.emptyDict) (o := PySem.W.instObj C s.heap.objs.size) rfl;rwa [Heap.size_push] at this
 have e3 : (s.heap.push PySem.W.emptyDict).Ns s.heap.objs.size (fun _ => none) := ⟨PySem.W.emptyDict, #[], _, e1, rfl, (fun e he => absurd he (by simp)), fun _ => rfl⟩;have I1 := I.laid (a := s.heap.objs.size) (o := .own (s.heap.objs.size + 1)) (h' := s.heap.push PySem.W.emptyDict) (t' := s.toks) (fun b u q => Heap.get?_push_of_some _ q) (Nat.le_refl _) ⟨_, e1⟩;refine I1.laid (a := s.heap.objs.size + 1) (o := .ins C s.heap.objs.size []) (t' := s.toks) (fun b u q => Heap.get?_push_of_some _ q) (Nat.le_of_eq (Heap.size_push _ _)) ?_;have ne : s.heap.objs.size ≠ s.heap.objs.size + 1 := Nat.ne_of_lt (Nat.lt_succ_self _);refine ⟨by rw [Zao ne, Zal], Nat.zero_le _, ne, e2, fun _ => none, (Heap.Ns1.of_empty e3).at fun o q => Heap.get?_push_of_some _ q, fun _ => True.intro, fun y hy => absurd rfl hy⟩
theorem Zmk {prog : Program} {w : World} {env : Env} {e : Expr} {f : Str} {pos : Pos} {s : Shared} {Q : Value -> Shared -> Prop} (hb : attributeBase e f env (eval e env) = eval e env)
  (h : wpAny (model prog w) A (eval e env) (fun o s₁ => wpAny (model prog w) A (getAttr o f true) Q E s₁) E s) : wpAny (model prog w) A (eval (.Attribute e f pos) env) Q E s :=
 Attribute_any_ h (by rw [arm_eval_Attribute, hb])
end
def Zrk (K : PySem.W.Frag) (ta : TE) (f : Str) : TE := fun σ H Q => ta σ H fun x H1 => ∃ a C dx fs v, x = .ref a /\ H1 a = some (.ins C dx fs) /\ Cls K C /\ NoAttr K C f /\ fs.lookup f = some v /\ Q v H1
def Zrq (K : PySem.W.Frag) (ta tv : TE) (f : Str) : TS := fun D σ H => tv σ H fun y H1 => ta σ H1 fun x H2 => ∃ a C dx fs, x = .ref a /\ H2 a = some (.ins C dx fs) /\ Cls K C /\ NoAttr K C f /\ fs.length < 1000 /\
 D.nx σ (upd H2 a (.ins C dx (putF f y fs)))
section
variable {X : Cx} {o e value : Expr} {f : Str} {pos pos' tpos : Pos} {ta tv : TE}
theorem Zqh (he : PE X e ta) (hb : attributeBase e f X.env (eval e X.env) = eval e X.env) : PE X (.Attribute e f pos) (Zrk X.K ta f) := by
 intro pins s σ H Q I h;refine Zmk hb (thn (he pins s σ H _ I h) fun u s1 ⟨x, H1, I1, rx, a, C, dx, fs, v, ex, ea, c, n, l, q⟩ => ?_);subst ex;obtain rfl : u = Value.ref a := rx;exact Zgw I1 ea c n l fun u' s2 I2 ru => ⟨v, H1, I2, ru, q⟩
theorem Zqg (ha : PE X o ta) (hv : PE X value tv) (hs : swapsWith value (some (.Attribute o f pos')) pos.line X.env = pure false) : PS X (.Assign [.Attribute o f pos'] value pos) (Zrq X.K ta tv f) := by
 intro pins s σ H D I h;refine plainObj_wpAny_Assign_Attribute (thn (hv pins s σ H _ I h) fun u s1 ⟨y, H1, I1, ry, q⟩ => thn (ha pins s1 σ H1 _ I1 q) fun ov s2 ⟨x, H2, I2, rx, a, C, dx, fs, ex, ea, c, n, l, q2⟩ => ?_) hs;subst ex;obtain rfl : ov = Value.ref a := rx;exact Zkf I2 ea c n l ry fun s3 I3 => ⟨σ, _, I3, q2⟩
end
section
variable {X : Cx} {pins : List (Addr × Obj)} {σ : St} {H : Hp} {s : Shared} {A : Around} {E : Value -> Shared -> Prop} {Q : Value -> Shared -> Prop} {c : Value} {b : Bool}
inductive Zka (K : PySem.W.Frag) (H : Hp) : V -> Value -> Prop where
 | non : Zka K H .non (.type "NoneType")
 | bl (x : Bool) : Zka K H (.bl x) (.type "bool")
 | int (i : Int) : Zka K H (.int i) (.type "int")
 | str (x : Str) : Zka K H (.str x) (.type "str")
 | flt (x : UInt64) : Zka K H (.flt x) (.type "float")
 | lst {a : Addr} {xs : List V} (e : H a = some (.lst xs)) : Zka K H (.ref a) (.type "list")
 | frz {a : Addr} {o : Obj} {xs : List V} (e : H a = some (.frz o (.lst xs))) : Zka K H (.ref a) (.type "list")
 | tup {a : Addr} {xs : List V} (e : H a = some (.tup xs)) : Zka K H (.ref a) (.type "tuple")
 | dK {a : Addr} {kvs : List (Key × V)} (e : H a = some (.dK kvs)) : Zka K H (.ref a) (.type "dict")
 | dT {a : Addr} {kvs : List (List Key × V)} (e : H a = some (.dT kvs)) : Zka K H (.ref a) (.type "dict")
 | ins {a C dx : Addr} {fs : List (Str × V)} (e : H a = some (.ins C dx fs)) (cl : Cls K C) (ha : PySem.W.findIn K (.ref C) "__class__" = some (some (.builtin "object.__class__")))
   (hn : PySem.W.specialIn K (.builtin "object.__class__") "__get__" = some (some (.builtin "getset_descriptor.__get__"))) (htk : PySem.W.takesIn K (.builtin "object.__class__") = some true)
   (hm : PySem.W.mroIn K C (.type "object") = some true) : Zka K H (.ref a) (.ref C)
theorem Zl3 {x : V} {u t : Value} (I : Inv X pins σ H s) (rx : RelV x u) (ty : Zka X.K H x t) (e : PySem.W.kitOne X.K t c = some b) (h : ∀ tk, Q (.bool b) { s with toks := tk }) :
  wpAny (model X.prog X.w) A (call (.builtin "isinstance") [u, c]) Q E s := by
 cases ty with
 | non => cases (show u = Value.none from rx); exact PySem.W.kia_one PySem.W.kitx_none I.kIn True.intro e (fun z => nomatch z) h
 | bl y => cases (show u = Value.bool y from rx); exact PySem.W.kia_one PySem.W.kitx_bool I.kIn True.intro e (fun z => nomatch z) h
 | int i => obtain ⟨t, q⟩ := (show ∃ t, u = Value.int i t from rx); cases q; exact PySem.W.kia_one PySem.W.kitx_int I.kIn True.intro e (fun z => nomatch z) h
 | str y => obtain ⟨t, q⟩ := (show ∃ t, u = Value.str y t from rx); cases q; exact PySem.W.kia_one PySem.W.kitx_str I.kIn True.intro e (fun z => nomatch z) h
 | flt y => obtain ⟨t, q⟩ := (show ∃ t, u = Value.float y t from rx); cases q; exact PySem.W.kia_one PySem.W.kitx_float I.kIn True.intro e (fun z => nomatch z) h
 | @lst a xs ea =>
  cases (show u = Value.ref a from rx);obtain ⟨_, _, n, _, h1⟩ := (show ObjOk X.prog X.w H s.heap a (.lst xs) from I.hok a _ ea);exact PySem.W.kia_one PySem.W.kitx_list I.kIn ⟨_, h1, rfl⟩ e (fun z => nomatch z) h
 | @frz a ob xs ea =>
  cases (show u = Value.ref a from rx);obtain ⟨_, _, _, n, _, h1⟩ := (show ObjOk X.prog X.w H s.heap a (.frz ob (.lst xs)) from I.hok a _ ea);exact PySem.W.kia_one PySem.W.kitx_list I.kIn ⟨_, h1, rfl⟩ e (fun z => nomatch z) h
 | @tup a xs ea =>
  cases (show u = Value.ref a from rx);obtain ⟨_, _, _, p⟩ := (show ObjOk X.prog X.w H s.heap a (.tup xs) from I.hok a _ ea);obtain ⟨o, h1, h2, _⟩ := p;exact PySem.W.kia_one PySem.W.kitx_tuple I.kIn ⟨o, h1, h2⟩ e (fun z => nomatch z) h
 | @dK a kvs ea =>
  cases (show u = Value.ref a from rx);obtain ⟨_, _, vs, _, p⟩ := (show ObjOk X.prog X.w H s.heap a (.dK kvs) from I.hok a _ ea);obtain ⟨o, es, ep, h1, h2, _⟩ := p;exact PySem.W.kia_one PySem.W.kitx_dict I.kIn ⟨o, h1, h2.1⟩ e (fun z => nomatch z) h
 | @dT a kvs ea =>
  cases (show u = Value.ref a from rx);obtain ⟨_, _, xs, _, o, es, ep, h1, h2, _⟩ := (show ObjOk X.prog X.w H s.heap a (.dT kvs) from I.hok a _ ea);exact PySem.W.kia_one PySem.W.kitx_dict I.kIn ⟨o, h1, h2.1⟩ e (fun z => nomatch z) h
 | @ins a C dx fs ea cl ha hn htk hm =>
  cases (show u = Value.ref a from rx);obtain ⟨mA, O, _⟩ := Zhx I.hok ea;obtain ⟨od, J, _⟩ := O.look;exact PySem.W.kia_one (PySem.W.kitx_own (cl.get _) cl.hd ha hn htk hm) I.kIn J e (fun z => nomatch z) h
end
end L2
namespace L2
open PySem PySem.Spec PyProof.Rows
structure Room (k : Nat) (A : Around) : Prop where
 hd : A.handled = none
 dp : A.depth + 3 * k + 5 < recursionLimit
 un : A.units + 16 * k + 200 < cLine
theorem Room.mono {j k : Nat} {A : Around} (r : Room k A) (h : j <= k) : Room j A := ⟨r.hd, by have := r.dp; omega, by have := r.un; omega⟩
theorem Room.deeper {k : Nat} {A : Around} (r : Room (k + 1) A) (env : Env) : Room k (A.deeper env) :=
 ⟨r.hd, by have := r.dp; show A.depth + 1 + 3 * k + 5 < _; omega, by have := r.un; show A.units + 3 + 16 * k + 200 < _; omega⟩
theorem Zks {A : Around} {C : Addr} {us : List Value} {kw : List (Str × Value)} : (A.under (.builtin "type.__call__" ⟨.ref C :: us, kw⟩)).depth = A.depth + 1 := by
 first | rfl | simp [Around.under, Code.weight, Code.isCreation, Code.isGuard, Code.isCaller, Code.frames, Code.isFrame, guardIds]
theorem Zkr {A : Around} {C : Addr} {us : List Value} {kw : List (Str × Value)} : (A.under (.builtin "type.__call__" ⟨.ref C :: us, kw⟩)).units = A.units + 1 := by
 first | rfl | simp [Around.under, Code.cUnits, Code.frames, Code.isFrame]
theorem Room.make {k : Nat} {A : Around} (r : Room (k + 1) A) (C : Addr) (us : List Value) (kw : List (Str × Value)) : Room k (A.under (.builtin "type.__call__" ⟨.ref C :: us, kw⟩)) :=
 ⟨r.hd, by have := r.dp; rw [Zks]; omega, by have := r.un; rw [Zkr]; omega⟩
theorem Room.depth {k : Nat} {A : Around} (r : Room k A) : A.depth < recursionLimit := by have := r.dp; omega
theorem Room.units {k : Nat} {A : Around} (r : Room k A) : A.units + 64 < cLine := by have := r.un; omega
def tNil : TA := fun _ H Q => Q [] H
def tCons (ta : TE) (tr : TA) : TA := fun σ H Q => ta σ H fun x H1 => tr σ H1 fun xs H2 => Q (x :: xs) H2
section
variable {X : Cx} {e : Expr} {es : List Expr} {te : TE} {t : TA} {pos : Pos}
theorem Zac : PA X [] tNil := fun _ _ _ _ H Q I h => Calls.spliced_nil ⟨[], H, I, .nil, h⟩
theorem Zaa (ha : PE X e te) (hr : PA X es t) (hs : starEach (e :: es) X.env = (false, eval e X.env) :: starEach es X.env := by rfl) : PA X (e :: es) (tCons te t) := by
 intro pos pins s σ H Q I h;rw [hs];show wpAny _ _ (spliced ((false, eval e X.env) :: backTo pos (starEach es X.env))) _ _ s;refine Calls.spliced_cons (thn (ha pins s σ H _ I h) fun u s1 ⟨x, H1, I1, r1, q1⟩ => ?_);exact thn (hr pos pins s1 σ H1 _ I1 q1) fun us s2 ⟨xs, H2, I2, r2, q2⟩ => ⟨x :: xs, H2, I2, .cons r1 r2, q2⟩
def Zst (t : TA) : TE := fun σ H Q => t σ H fun xs H1 => xs.length <= sizeLine /\ ∀ p, H1 p = none -> Q (.ref p) (upd H1 p (.tup xs))
def Ztf (t : TA) : TE := fun σ H Q => t σ H fun xs H1 => xs.length <= sizeLine /\ ∀ p, H1 p = none -> Q (.ref p) (upd H1 p (.lst xs))
theorem Znr {x1} (h : PA X es t) : PE X (.Tuple es x1 pos) (Zst t) := by
 intro pins s σ H Q I hq;refine wpAny_Tuple_spliced (thn (h pos pins s σ H _ I hq) fun us s1 ⟨xs, H1, I1, r, z, q⟩ => ⟨by rw [<- r.length]; exact z, ?_⟩);have hf : H1 s1.heap.objs.size = none := I1.hok.fresh (Nat.le_refl _);refine ⟨.ref s1.heap.objs.size, upd H1 s1.heap.objs.size (.tup xs), I1.laid (t' := s1.toks) (fun b u e => Heap.get?_push_of_some _ e) (Nat.le_refl _) ?_, rfl, q _ hf⟩;exact ⟨z, us, r, ⟨_, Heap.get?_push_size _ rfl, rfl, _, rfl⟩⟩
end
abbrev Sp := List V -> Hp -> VK -> XK -> Prop
abbrev CXT := List Env -> Hp -> Shared -> XK -> Value -> Shared -> Prop
structure Env0 (P : Program) (w : World) (K : PySem.W.Frag) (mg : Str -> Option Value) (base : Heap) (A : Around) (outer : List Env) (s : Shared) (H : Hp) : Prop where
 frames : A.frames = some outer
 mod : Mod K mg base
 bs : ∀ b o, base.get? b = some o -> s.heap.get? b = some o /\ H b = none
 bsz : base.objs.size <= s.heap.objs.size
 funs : s.heap.FunFrames base outer
 frf : ∀ b ∈ frs outer, H b = none
 hok : HOk P w H s.heap
 bare : AllBare s.gens
def CE (outer : List Env) (P : Program) (w : World) (H : Hp) (s : Shared) (Q : VK) (u : Value) (s' : Shared) : Prop :=
 ∃ v H', s'.os = s.os /\ AllBare s'.gens /\ Un (frs outer) [] H H' s.heap s'.heap /\ HOk P w H' s'.heap /\ RelV v u /\ Q v H'
def CR (CX : CXT) (outer : List Env) (P : Program) (w : World) (H : Hp) (s : Shared) (Q : VK) (E : XK) (r : Result) (s' : Shared) : Prop :=
 match r with
 | .ok (.ret u) => CE outer P w H s Q u s'
 | .ok _ => False
 | .error e => CX outer H s E e s'
structure FnOk (P : Program) (w : World) (K : PySem.W.Frag) (mg : Str -> Option Value) (base : Heap) (CX : CXT) (k : Nat) (f : Addr) (fd : FuncData) (ps : List Str) (sp : Sp) : Prop where
 len : ∀ vs H Q E, sp vs H Q E -> vs.length = ps.length
 run : ∀ (A : Around) (outer : List Env) (s : Shared) (H : Hp) (args : Args) (us : List Value) (vs : List V) (Q : VK) (E : XK), Room k A -> Env0 P w K mg base A outer s H -> BindsTo s fd args (ps.zip us) -> Vals vs us -> sp vs H Q E ->
  codeAny (model P w) A (.call (.ref f) args) (CR CX outer P w H s Q E) s
theorem FnOk.imp {P : Program} {w : World} {K : PySem.W.Frag} {mg : Str -> Option Value} {base : Heap} {CX : CXT} {k : Nat} {f : Addr} {fd : FuncData} {ps : List Str} {sp sp' : Sp} (F : FnOk P w K mg base CX k f fd ps sp)
  (h : ∀ vs H Q E, sp' vs H Q E -> sp vs H Q E) : FnOk P w K mg base CX k f fd ps sp' :=
 ⟨fun vs H Q E q => F.len vs H Q E (h _ _ _ _ q), fun A outer s H args us vs Q E hr he hb hv hs => F.run A outer s H args us vs Q E hr he hb hv (h _ _ _ _ hs)⟩
theorem Env0.make {P : Program} {w : World} {K : PySem.W.Frag} {mg : Str -> Option Value} {base : Heap} {A : Around} {outer : List Env} {s : Shared} {H : Hp} (e : Env0 P w K mg base A outer s H) (C : Addr) (us : List Value) (kw : List (Str × Value)) :
  Env0 P w K mg base (A.under (.builtin "type.__call__" ⟨.ref C :: us, kw⟩)) outer s H := ⟨by first | exact e.frames | (simpa [Around.under, Code.envs, Code.isFrame, pushEnvs] using e.frames), e.mod, e.bs, e.bsz, e.funs, e.frf, e.hok, e.bare⟩
section
variable {X : Cx} {pins : List (Addr × Obj)} {σ : St} {H : Hp} {s s' : Shared}
theorem Inv.env0 (I : Inv X pins σ H s) : Env0 X.prog X.w X.K X.mg X.base X.A X.stack s H :=
 ⟨I.ok.frames, I.ok.mod, I.bs, Nat.le_trans I.ok.bsz I.sz, I.stack, I.stkFree, I.hok, I.bare⟩
theorem Inv.after {Q : VK} {u : Value} (I : Inv X pins σ H s) (h : CE X.stack X.prog X.w H s Q u s') : EP X pins σ Q u s' := by
 obtain ⟨v, H', os, bare, un, hok, r, q⟩ := h;obtain ⟨hh, g, d, t, os'⟩ := s';obtain rfl : os' = s.os := os;exact ⟨v, H', I.call (h' := hh) (g' := g) (d' := d) (t' := t) (ch := []) un hok bare (fun b z => absurd z (by simp)), r, q⟩
end
def Zk4 (sp : Sp) (dvs : List V) (E : XK) (t : TA) : TE := fun σ H Q => t σ H fun vs H1 => sp (vs ++ dvs) H1 Q E
def Zn9 (C : Addr) (m : Str) (sp : Sp) (dvs : List V) (E : XK) (ta : TE) (t : TA) : TE := fun σ H Q => ta σ H fun x H1 => ∃ a dx fs, x = .ref a /\ H1 a = some (.ins C dx fs) /\ fs.lookup m = none /\
 t σ H1 fun vs H2 => sp (x :: (vs ++ dvs)) H2 Q E
def Zrj (C : Addr) (sp : Sp) (dvs : List V) (E : XK) (t : TA) : TE := fun σ H Q => t σ H fun vs H1 => ∀ x dx, H1 x = none -> H1 dx = none -> dx ≠ x ->
 sp (.ref x :: (vs ++ dvs)) (upd (upd H1 dx (.own x)) x (.ins C dx [])) (fun v H2 => v = .non /\ Q (.ref x) H2) E
def Binds (K : PySem.W.Frag) (fd : FuncData) (ps : List Str) (ds : List Value) : Prop :=
 ∀ (s : Shared) (us : List Value), K.In s.heap -> (us ++ ds).length = ps.length -> BindsTo s fd ⟨us, []⟩ (ps.zip (us ++ ds))
theorem Binds.all {K : PySem.W.Frag} {fd : FuncData} {ps : List Str} (h : ∀ us : List Value, us.length = ps.length -> bindArgs fd ⟨us, []⟩ = pure (ps.zip us)) : Binds K fd ps [] := fun s us _ hl => by
 rw [List.append_nil] at hl ⊢;exact .of_eq (h us hl)
def Zfk (CX : CXT) (X : Cx) (E : XK) : Prop := ∀ (pins : List (Addr × Obj)) (σ : St) (H : Hp) (s : Shared) (e : Value) (s' : Shared), Inv X pins σ H s -> CX X.stack H s E e s' -> X.xe e s'
section
variable {X : Cx} {CX : CXT} {k : Nat} {f C : Addr} {fd : FuncData} {ps : List Str} {sp : Sp} {dvs : List V} {ds : List Value} {E : XK} {x m : Str} {p pos apos : Pos} {e o : Expr} {es : List Expr} {ta : TE} {t : TA}
theorem Zjs {pins : List (Addr × Obj)} {σ : St} {H : Hp} {s : Shared} {Q : VK} {us : List Value} {vs : List V} (F : FnOk X.prog X.w X.K X.mg X.base CX k f fd ps sp) (hr : Room k X.A) (hb : Binds X.K fd ps ds) (hd : Vals dvs ds) (hx : Zfk CX X E)
  (I : Inv X pins σ H s) (r : Vals vs us) (h : sp (vs ++ dvs) H Q E) : wpAny (model X.prog X.w) X.A (call (.ref f) us) (EP X pins σ Q) X.xe s := by
 have r2 : Vals (vs ++ dvs) (us ++ ds) := r.append hd;have hl : (us ++ ds).length = ps.length := by rw [<- r2.length]; exact F.len _ _ _ _ h
 refine wpAny_call (codeAny_mono (F.run X.A X.stack s H ⟨us, []⟩ (us ++ ds) (vs ++ dvs) Q E hr I.env0 (hb s us I.kIn hl) r2 h) fun r s' hq => ?_);cases r with
 | error e => exact hx pins σ H s e s' I hq
 | ok fl =>
  cases fl with
  | ret u => exact I.after hq
  | next => exact False.elim hq
  | brk => exact False.elim hq
  | cont => exact False.elim hq
theorem Zlp (F : FnOk X.prog X.w X.K X.mg X.base CX k f fd ps sp) (hr : Room k X.A) (hg : Gl X x) (hm : X.mg x = some (.ref f)) (hk : PySem.W.keepIn X.K (.ref f) = true) (hb : Binds X.K fd ps ds) (hd : Vals dvs ds) (hx : Zfk CX X E)
  (ha : PA X (e :: es) t) (hdb : (x == ("__debug__" : Str)) = false := by decide) (he : starEach (e :: es) X.env = (false, eval e X.env) :: starEach es X.env := by rfl) (hpl : (backTo pos (starEach es X.env)).any (·.1) = false := by rfl) :
  PE X (.Call (.Name x p) (e :: es) [] pos) (Zk4 sp dvs E t) := by
 intro pins s σ H Q I h;refine wpAny_Call_Name_kw (Zfc I hg hm ?_ hdb);refine PySem.W.callWith_K (h₀ := X.base) I.ok.mod.kin hk (thn (ha pos pins s σ H _ I h) fun us s1 ⟨vs, H1, I1, r, q⟩ => ⟨I1.kIn, ?_⟩) he hpl;exact Zjs F hr hb hd hx I1 r q
theorem Zmx {pl : Sem Bool} (he : PE X o ta) (c : Cls X.K C) (hm : Zso X.K C m f) (F : FnOk X.prog X.w X.K X.mg X.base CX k f fd ps sp) (hr : Room k X.A) (hb : Binds X.K fd ps ds) (hd : Vals dvs ds) (hx : Zfk CX X E)
  (ht : eval (.Call (.Attribute o m apos) [] [] pos) X.env = (do
   let ov <- eval o X.env
   standAt apos.atName
   let (f, first) <- holding [ov] (getMethod ov m pl)
   callWith pos f first (backTo pos (starEach [] X.env)) (backToKw pos (keywordEach [] X.env))) := by rfl) :
  PE X (.Call (.Attribute o m apos) [] [] pos) (Zn9 C m sp dvs E ta tNil) := by
 intro pins s σ H Q I h;refine PySem.W.methodCall_KW (pl := pl) (thn (he pins s σ H _ I h) fun u s1 ⟨x, H1, I1, rx, a, dx, fs, ex, ea, l, q⟩ => ?_) ht;subst ex;obtain rfl : u = Value.ref a := rx;refine Zfe I1 ea c hm l ?_;exact PySem.W.callWith_K0 (first := [.ref a]) I1.kIn hm.kp (Zjs (us := [.ref a]) (vs := [.ref a]) F hr hb hd hx I1 (.cons rfl .nil) q)
structure Mk (K : PySem.W.Frag) (C f : Addr) : Prop where
 makes : PySem.W.makesIn K C = true
 init : PySem.W.findIn K (.ref C) "__init__" = some (some (.ref f))
 fn : PySem.W.isFn K (.ref f) = true
 kp : PySem.W.keepIn K (.ref C) = true
theorem Zms {pins : List (Addr × Obj)} {σ : St} {H : Hp} {s : Shared} {Q : VK} {us : List Value} {vs : List V} (M : Mk X.K C f) (F : FnOk X.prog X.w X.K X.mg X.base CX k f fd ps sp) (hr : Room (k + 1) X.A) (hb : Binds X.K fd ps ds) (hd : Vals dvs ds)
  (hx : Zfk CX X E) (I : Inv X pins σ H s) (r : Vals vs us)
  (h : ∀ x dx, H x = none -> H dx = none -> dx ≠ x -> sp (.ref x :: (vs ++ dvs)) (upd (upd H dx (.own x)) x (.ins C dx [])) (fun v H2 => v = .non /\ Q (.ref x) H2) E) :
  wpAny (model X.prog X.w) X.A (call (.ref C) us) (EP X pins σ Q) X.xe s := by
 have hq := h (s.heap.objs.size + 1) s.heap.objs.size (I.hok.fresh (Nat.le_succ _)) (I.hok.fresh (Nat.le_refl _)) (Nat.ne_of_lt (Nat.lt_succ_self _));have I2 := Inv.made (C := C) I;have r2 : Vals (V.ref (s.heap.objs.size + 1) :: (vs ++ dvs)) (Value.ref (s.heap.objs.size + 1) :: (us ++ ds)) := .cons rfl (r.append hd);have hl : (Value.ref (s.heap.objs.size + 1) :: us ++ ds).length = ps.length := by
  have e := r2.length;rw [F.len _ _ _ _ hq] at e;exact e.symm
 refine wpAny_call (Zm4 (f := f) I.kIn M.makes M.init (beq_iff_eq.mp M.fn) (codeAny_mono (F.run _ X.stack _ _ ⟨Value.ref (s.heap.objs.size + 1) :: us, []⟩ (Value.ref (s.heap.objs.size + 1) :: (us ++ ds)) _ _ E (hr.make C us [])
  (I2.env0.make C us []) (hb _ (Value.ref (s.heap.objs.size + 1) :: us) I2.kIn hl) r2 hq) fun r s' hq' => ?_))
 cases r with
 | error e => exact hx pins σ _ _ e s' I2 hq'
 | ok fl =>
  cases fl with
  | ret u =>
   obtain ⟨v, H', I3, rv, ev, q3⟩ := I2.after hq';subst ev;exact ⟨rv, ⟨V.ref (s.heap.objs.size + 1), H', I3, rfl, q3⟩⟩
  | next => exact False.elim hq'
  | brk => exact False.elim hq'
  | cont => exact False.elim hq'
end
section
variable {X : Cx} {CX : CXT} {k : Nat} {f C : Addr} {fd : FuncData} {ps ks : List Str} {sp : Sp} {E : XK} {x m : Str} {p pos apos kpos : Pos} {e o : Expr} {es : List Expr} {kws : List Keyword} {te ta : TE} {t tk : TA} {nm : Option Str}
structure KBinds (K : PySem.W.Frag) (fd : FuncData) (ps ks : List Str) (g : List Value -> List Value -> List Value) (gV : List V -> List V -> List V) : Prop where
 to : ∀ (s : Shared) (us ws : List Value), K.In s.heap -> (g us ws).length = ps.length -> BindsTo s fd ⟨us, ks.zip ws⟩ (ps.zip (g us ws))
 rel : ∀ {vs : List V} {us : List Value} {zs : List V} {ws : List Value}, Vals vs us -> Vals zs ws -> Vals (gV vs zs) (g us ws)
variable {g : List Value -> List Value -> List Value} {gV : List V -> List V -> List V}
end
structure Zaq (N P : List Str) (sc : Scope) : Prop where
 kind : sc.kind = .function
 co : sc.isCoroutine = false
 gen : sc.isGenerator = false
 nd : N.Nodup
 pre : N.take P.length = P
 par : ∀ x ∈ P, sc.names.lookup x = some .local \/ sc.names.lookup x = some .cell
 nofree : ∀ y ∈ sc.names, y.2 ≠ .free
theorem Ziu {kindOf : Str -> Option NameKind} {x : Str} : ∀ {binds : List (Str × Value)} {m : Str -> Option Value}, (∀ v, (x, v) ∉ binds) -> bindL kindOf binds m x = m x
 | [], _, _ => rfl
 | (n, v) :: r, m, h => by
  unfold bindL;rw [Ziu fun w hw => h w (List.mem_cons_of_mem _ hw)]
  split
  ·have : x ≠ n := by rintro rfl; exact h v List.mem_cons_self
   simp [this]
  ·rfl
theorem Ziw {kindOf : Str -> Option NameKind} {x : Str} : ∀ {binds : List (Str × Value)} {m : Str -> Option Value}, (∀ v, (x, v) ∉ binds) -> bindC kindOf binds m x = m x
 | [], _, _ => rfl
 | (n, v) :: r, m, h => by
  unfold bindC;rw [Ziw fun w hw => h w (List.mem_cons_of_mem _ hw)]
  split
  ·rfl
  ·have : x ≠ n := by rintro rfl; exact h v List.mem_cons_self
   simp [this]
theorem Ziv {kindOf : Str -> Option NameKind} {x : Str} {v : Value} : ∀ {P : List Str} {vs : List Value} {i : Nat} {m : Str -> Option Value}, P.Nodup -> P[i]? = some x -> vs[i]? = some v -> kindOf x = some .local ->
  bindL kindOf (P.zip vs) m x = some v
 | [], _, _, _, _, h, _, _ => by simp at h
 | _ :: _, [], _, _, _, _, h, _ => by simp at h
 | p :: P, w :: vs, 0, m, nd, h1, h2, hk => by
  simp at h1 h2; subst h1; subst h2;show bindL kindOf ((p, w) :: P.zip vs) m p = _;unfold bindL;rw [Ziu fun v hv => (List.nodup_cons.mp nd).1 (List.of_mem_zip hv).1, if_pos hk];simp
 | p :: P, w :: vs, i + 1, m, nd, h1, h2, hk => by
  show bindL kindOf ((p, w) :: P.zip vs) m x = _;unfold bindL;exact Ziv (i := i) (List.nodup_cons.mp nd).2 (by simpa using h1) (by simpa using h2) hk
theorem Zix {kindOf : Str -> Option NameKind} {x : Str} {v : Value} : ∀ {P : List Str} {vs : List Value} {i : Nat} {m : Str -> Option Value}, P.Nodup -> P[i]? = some x -> vs[i]? = some v -> kindOf x ≠ some .local ->
  bindC kindOf (P.zip vs) m x = some v
 | [], _, _, _, _, h, _, _ => by simp at h
 | _ :: _, [], _, _, _, _, h, _ => by simp at h
 | p :: P, w :: vs, 0, m, nd, h1, h2, hk => by
  simp at h1 h2; subst h1; subst h2;show bindC kindOf ((p, w) :: P.zip vs) m p = _;unfold bindC;rw [Ziw fun v hv => (List.nodup_cons.mp nd).1 (List.of_mem_zip hv).1, if_neg hk];simp
 | p :: P, w :: vs, i + 1, m, nd, h1, h2, hk => by
  show bindC kindOf ((p, w) :: P.zip vs) m x = _;unfold bindC;exact Zix (i := i) (List.nodup_cons.mp nd).2 (by simpa using h1) (by simpa using h2) hk
def start (N : List Str) (vs : List V) : St := vs.map some ++ List.replicate (N.length - vs.length) none
def cxOf (CX : CXT) (P : Program) (w : World) (K : PySem.W.Frag) (mg : Str -> Option Value) (base : Heap) (N : List Str) (qual : Str) (scope : Scope) (f : Addr) (cd : Value) (A : Around) (outer : List Env) (s : Shared) (H : Hp) (E : XK) : Cx where
 prog := P
 w := w
 K := K
 mg := mg
 base := base
 A := A.deeper (envOfC qual scope s.heap.objs.size f cd)
 N := N
 s₀ := s
 H₀ := H
 env := envOfC qual scope s.heap.objs.size f cd
 outer := outer
 stack := envOfC qual scope s.heap.objs.size f cd :: outer
 ex := []
 calm := true
 fn := fun _ => true
 pn := []
 xe := fun e s' => wpAny (model P w) (A.deeper (envOfC qual scope s.heap.objs.size f cd)) (leaving (envOfC qual scope s.heap.objs.size f cd) e) (fun _ s'' => CX outer H s E e s'') (fun e' s'' => CX outer H s E e' s'') s'
theorem Zj7 {sc : Scope} {n : Nat} {x : Str} (h : sc.names.lookup x = some .cell) : ∃ c, (cellsFrom n sc.names []).lookup x = some c := by
 have q := PySem.W.cellsFrom_some sc.names n [] (.inl h);exact Option.isSome_iff_exists.mp q
theorem Zl4 {CX : CXT} {P : Program} {w : World} {K : PySem.W.Frag} {mg : Str -> Option Value} {base : Heap} {N ps : List Str} {qual : Str} {scope : Scope} {f : Addr} {cd : Value} {A : Around} {outer : List Env} {s s1 : Shared} {H : Hp} {E : XK} {us : List Value} {vs : List V}
  (S : Zaq N ps scope) (hd : A.handled = none) (e0 : Env0 P w K mg base A outer s H) (hl : vs.length = ps.length) (r : Vals vs us)
  (x : InCallC s s.heap.objs.size (bindL (envOfC qual scope s.heap.objs.size f cd).kindOf (ps.zip us) fun _ => none) (cellsFrom (s.heap.objs.size + 1) scope.names []) (bindC (envOfC qual scope s.heap.objs.size f cd).kindOf (ps.zip us) fun _ => none) s1) :
  Inv (cxOf CX P w K mg base N qual scope f cd A outer s H E) [] (start N vs) H s1 := by
 have hpl : ps.length <= N.length := by have := congrArg List.length S.pre; rw [List.length_take] at this; omega
 obtain ⟨h1, tk, rfl, hk⟩ := x.done;have noA : ∀ b : Addr, b ∉ (cxOf CX P w K mg base N qual scope f cd A outer s H E).ex := fun b z => absurd (show b ∈ ([] : List Addr) from z) (by simp)
 refine ⟨⟨e0.mod, S.kind, rfl, rfl, Nat.le_refl _, fun y z c h1 h2 => ?_, fun y hy => ?_, fun y c _ h => ?_, fun _ => hd, Around.frames_deeper e0.frames, .inr ⟨rfl, rfl⟩, fun b z => absurd z (noA b), e0.bs, e0.bsz, fun b _ _ => noA b, fun b z => absurd z (noA b), e0.funs, e0.frf⟩,
  rfl, e0.bare, Un.kept hk, ⟨_, x.toInCall.ns, fun i y v h1 h2 h3 => ?_⟩, fun y c h => ⟨_, x.cell y c h⟩, e0.hok.fresh (Nat.le_refl _), fun y c h => ?_, fun p hp => absurd (show p ∈ ([] : List (Addr × Obj)) from hp) (by simp), e0.hok.kept hk, ?_⟩
 ·exact name_of_addr x.apart (PySem.mem_of_lookup h1) (PySem.mem_of_lookup h2)
 ·have hy : scope.names.lookup y = some .cell \/ scope.names.lookup y = some .free := hy;rcases hy with hy | hy
  ·exact Zj7 hy
  ·exact absurd rfl (S.nofree _ (PySem.mem_of_lookup hy))
 ·exact Nat.le_of_lt (x.above y c (PySem.mem_of_lookup h))
 ·have hi : i < vs.length := by
   unfold start at h2
   by_cases hi : i < vs.length
   ·exact hi
   ·rw [List.getElem?_append_right (by simpa using hi)] at h2;rw [List.getElem?_replicate] at h2
    split at h2 <;> cases h2
  have ha : vs[i]? = some v := by
   unfold start at h2;rw [List.getElem?_append_left (by simpa using hi), List.getElem?_map] at h2;cases e : vs[i]? with
   | none => rw [e] at h2; cases h2
   | some a => rw [e] at h2; cases h2; rfl
  obtain ⟨u, hu, rv⟩ := r.get ha;have hp : ps[i]? = some y := by
   rw [<- S.pre, List.getElem?_take_of_lt (by omega)]; exact h1
  have ndP : ps.Nodup := by rw [<- S.pre]; exact S.nd.sublist (List.take_sublist _ _)
  refine ⟨u, rv, ?_⟩;rcases S.par y (List.mem_of_getElem? hp) with k | k
  ·exact .inl ⟨k, Ziv ndP hp hu k⟩
  ·obtain ⟨c, e⟩ := Zj7 (n := s.heap.objs.size + 1) k;refine .inr ⟨.inl k, c, e, ?_⟩;have q := x.cell y c e;rw [Zix ndP hp hu (by show scope.names.lookup y ≠ _; rw [k]; decide)] at q;exact q
 ·exact e0.hok.fresh (Nat.le_of_lt (x.above y c (PySem.mem_of_lookup h)))
 ·unfold start;show _ = N.length;rw [List.length_append, List.length_map, List.length_replicate];omega
theorem Znc {CX : CXT} {P : Program} {w : World} {K : PySem.W.Frag} {mg : Str -> Option Value} {base : Heap} {k : Nat} {f : Addr} {name qual : Str} {params : Arguments} {body : List Stmt} {scope : Scope} {dV kV doc pm cdv ct oc : Value} {an od : Option Addr}
  {osl : Array (Option Value)} {N ps : List Str} {sp : Sp} (lk : K.lookup f = some ⟨oc, od, .func (PySem.W.fnOf name qual params body scope dV kV doc pm an cdv ct), osl⟩) (hcd : PySem.W.codeIn K cdv qual = true) (S : Zaq N ps scope)
  (len : ∀ vs H Q E, sp vs H Q E -> vs.length = ps.length)
  (hbody : ∀ (A : Around) (outer : List Env) (s : Shared) (H : Hp) (vs : List V) (Q : VK) (E : XK), Room k (A.deeper (envOfC qual scope s.heap.objs.size f cdv)) -> sp vs H Q E ->
   ∃ t, PSs (cxOf CX P w K mg base N qual scope f cdv A outer s H E) body t /\ t { nx := fun _ H' => Q .non H', rt := Q } (start N vs) H) :
  FnOk P w K mg base CX (k + 1) f (PySem.W.fnOf name qual params body scope dV kV doc pm an cdv ct) ps sp := by
 refine ⟨len, fun A outer s H args us vs Q E hr e0 hb r hsp => ?_⟩;have hl := len _ _ _ _ hsp;have KX : K.In s.heap := e0.mod.kin.keeps fun b o e => (e0.bs b o e).1
 have lim : s.heap.NoLimit := e0.mod.nolimit.keeps fun b o e => (e0.bs b o e).1
 have hkind : ∀ y ∈ ps.zip us, scope.names.lookup y.1 = some .local \/ (scope.names.lookup y.1 = some .cell /\ ((cellsFrom (s.heap.objs.size + 1) scope.names []).lookup y.1).isSome = true) := fun ⟨n, v⟩ hy => by
  rcases S.par n (List.of_mem_zip hy).1 with q | q
  ·exact .inl q
  ·exact .inr ⟨q, PySem.W.cellsFrom_some _ _ _ (.inl q)⟩
 refine codeAny_call_function hr.depth (KX _ _ lk) rfl S.co S.gen rfl (PySem.W.codeRec_of KX hcd) (hb _ _ _ _ ?_);refine wpAny_newFunctionEnv_cells S.kind hkind fun env he s1 x => ?_
 subst he;refine ⟨lim.keeps x.toInCall.keep, codeAny_func ?_⟩;obtain ⟨t, ht, hq⟩ := hbody A outer s H vs Q E (hr.deeper _) hsp;have I : Inv (cxOf CX P w K mg base N qual scope f cdv A outer s H E) [] (start N vs) H s1 := Zl4 S hr.hd e0 hl r x;refine wpAny_mono (ht [] s1 (start N vs) H _ I hq) (fun fl s' hs => ?_) fun e s' hs => hs
 have fin : ∀ {σ' : St} {H' : Hp} {v : V} {u : Value}, Inv (cxOf CX P w K mg base N qual scope f cdv A outer s H E) [] σ' H' s' -> RelV v u -> Q v H' -> CE outer P w H s Q u s' :=
  fun {σ' H' v u} J rv q => ⟨v, H', J.os, J.bare, J.base, J.hok, rv, q⟩
 cases fl with
 | ret u =>
  obtain ⟨v, σ', H', J, rv, q⟩ := hs;exact fin J rv q
 | next =>
  obtain ⟨σ', H', J, q⟩ := hs;exact fin (v := V.non) (u := Value.none) J rfl q
 | brk =>
  obtain ⟨_, _, _, q⟩ := hs;exact False.elim q
 | cont =>
  obtain ⟨_, _, _, q⟩ := hs;exact False.elim q
end L2
namespace L2
open PySem PySem.Spec PyProof.Rows
section
variable {X : Cx} {x : Str} {p pos : Pos} {e : Expr} {es : List Expr} {t : TA} {id T : String} {r : List V -> Hp -> VK -> Prop}
def tCB (r : List V -> Hp -> VK -> Prop) (t : TA) : TE := fun σ H Q => t σ H fun vs H1 => r vs H1 Q
theorem Zau (hc : CallR X (.builtin id) r) (hg : Gl X x) (hm : X.mg x = none) (hv : bootBuiltins x = some (.builtin id)) (ha : PA X (e :: es) t) (hn : x ≠ "__name__" := by decide) (hdb : (x == ("__debug__" : Str)) = false := by decide)
  (he : starEach (e :: es) X.env = (false, eval e X.env) :: starEach es X.env := by rfl) (hpl : (backTo pos (starEach es X.env)).any (·.1) = false := by rfl) : PE X (.Call (.Name x p) (e :: es) [] pos) (tCB r t) := by
 intro pins s σ H Q I h;refine wpAny_Call_Name_kw (Zil I hg hm hv ?_ hn hdb);exact PyProof.Rows.callWith_builtin1 (thn (ha pos pins s σ H _ I h) fun us s1 ⟨vs, H1, I1, r1, q1⟩ => hc pins s1 σ H1 vs us Q I1 r1 q1) he hpl
theorem Zbr (hc : CallR X (.type T) r) (hg : Gl X x) (hm : X.mg x = none) (hv : bootBuiltins x = some (.type T)) (ha : PA X (e :: es) t) (hn : x ≠ "__name__" := by decide) (hdb : (x == ("__debug__" : Str)) = false := by decide)
  (he : starEach (e :: es) X.env = (false, eval e X.env) :: starEach es X.env := by rfl) (hpl : (backTo pos (starEach es X.env)).any (·.1) = false := by rfl) : PE X (.Call (.Name x p) (e :: es) [] pos) (tCB r t) := by
 intro pins s σ H Q I h;refine wpAny_Call_Name_kw (Zil I hg hm hv ?_ hn hdb);exact PyProof.Rows.callWith_type1 (thn (ha pos pins s σ H _ I h) fun us s1 ⟨vs, H1, I1, r1, q1⟩ => hc pins s1 σ H1 vs us Q I1 r1 q1) he hpl
end
end L2
namespace HT
open PySem PyProof.Rows
def Zsd : List Int -> List Int -> Bool
 | [], [] => false
 | [], _ :: _ => true
 | _ :: _, [] => false
 | x :: xs, y :: ys => if x = y then Zsd xs ys else decide (x < y)
section
open PySem.SeqAt
open PySem.AutoSeq1 (wpAny_loadPart')
open PySem.MeetsSeq PySem.MeetsSeq2 PySem.MeetsSeq3
end
section
variable {prog : Program} {w : World} {A : Around} {E : Value -> Shared -> Prop} {s : Shared}
def sIx (n d : Nat) : Option Int -> Nat
 | none => d
 | some v => if v < 0 then (v + (n : Int)).toNat else min v.toNat n
end
end HT
namespace L2
open PySem PySem.Spec PyProof.Rows
abbrev TO := St -> Hp -> (Option Int -> Hp -> Prop) -> Prop
def Zn8 : TO := fun _ H Q => Q none H
def Zrg (t : TE) : TO := fun σ H Q => t σ H fun x H1 => ∃ i, x = .int i /\ Q (some i) H1
section
variable {X : Cx} {e : Expr} {te : TE} {lo hi : Option Expr} {tl th : TO} {pos p2 : Pos}
def tSl (r : V -> Option Int -> Option Int -> Hp -> VK -> Prop) (te : TE) (tl th : TO) : TE := fun σ H Q => te σ H fun x H1 => tl σ H1 fun l H2 => th σ H2 fun u H3 => r x l u H3 Q
def Zta (xs : List V) (lo hi : Option Int) : List V := (xs.drop (HT.sIx xs.length 0 lo)).take (HT.sIx xs.length xs.length hi - HT.sIx xs.length 0 lo)
end
end L2
namespace L2
open PySem PySem.Spec PyProof.Rows
def ixN (n : Nat) (i : Int) : Option Nat := if 0 <= i then (if i < n then some i.toNat else none) else if -(n : Int) <= i then some (i + n).toNat else none
def atI {α : Type} (xs : List α) (i : Int) : Option α := (ixN xs.length i).bind fun j => xs[j]?
theorem Zl2 {n : Nat} {i : Int} {j : Nat} (h : ixN n i = some j) : seqIndex? i n = some j /\ j < n /\ -(n : Int) <= i /\ i < n := by
 unfold ixN at h
 by_cases h0 : 0 <= i
 ·rw [if_pos h0] at h
  by_cases h1 : i < n
  ·rw [if_pos h1] at h;have e : i.toNat = j := Option.some.inj h;exact ⟨by rw [seqIndex_of h0 h1, e], by omega, by omega, h1⟩
  ·rw [if_neg h1] at h; cases h
 ·rw [if_neg h0] at h
  by_cases h1 : -(n : Int) <= i
  ·rw [if_pos h1] at h;have e : (i + n).toNat = j := Option.some.inj h;exact ⟨by rw [seqIndex_neg (by omega) h1, e], by omega, h1, by omega⟩
  ·rw [if_neg h1] at h; cases h
theorem Zjj {α : Type} {xs : List α} {i : Int} {v : α} (h : atI xs i = some v) : ∃ j, seqIndex? i xs.length = some j /\ xs[j]? = some v /\ j < xs.length /\ -(xs.length : Int) <= i /\ i < xs.length := by
 unfold atI at h;cases e : ixN xs.length i with
 | none => rw [e] at h; cases h
 | some j =>
  rw [e] at h;obtain ⟨h1, h2, h3, h4⟩ := Zl2 e;exact ⟨j, h1, h, h2, h3, h4⟩
theorem Za1 {α : Type} {xs : List α} {j : Nat} {v : α} (h : xs[j]? = some v) : atI xs (j : Int) = some v := by
 have hj : j < xs.length := (List.getElem?_eq_some_iff.mp h).1;have e : ixN xs.length (j : Int) = some j := by
  unfold ixN;rw [if_pos (by omega), if_pos (by omega)]; simp
 unfold atI; rw [e]; exact h
def Zo6 (b : Expr) : Prop := ∀ o i, subscripted b false o i = operate [o, i] (getItem o i)
def IxR (X : Cx) (r : R2) : Prop :=
 ∀ (value slice : Expr) (pins : List (Addr × Obj)) (s : Shared) (σ : St) (H : Hp) (x y : V) (v u : Value) (Q : VK), Inv X pins σ H s -> RelV x v -> RelV y u -> r x y H Q ->
  subscripted slice false v u = operate [v, u] (getItem v u) -> wpAny (model X.prog X.w) X.A (subscriptTail value slice v u) (EP X pins σ Q) X.xe s
def MtR (X : Cx) (id : String) (r : V -> List V -> Hp -> VK -> Prop) : Prop :=
 ∀ (pins : List (Addr × Obj)) (s : Shared) (σ : St) (H : Hp) (x : V) (xs : List V) (v : Value) (us : List Value) (Q : VK), Inv X pins σ H s -> RelV x v -> Vals xs us -> r x xs H Q ->
  wpAny (model X.prog X.w) X.A (call (.builtin id) (v :: us)) (EP X pins σ Q) X.xe s
section
variable {X : Cx} {a b : Expr} {ta tb : TE} {pos : Pos}
theorem Zbb {r : R2} (hr : IxR X r) (ha : PE X a ta) (hb : PE X b tb) (hs : Zo6 b) : PE X (.Subscript a b pos) (tOp r ta tb) := by
 intro pins s σ H Q I h;exact Subscript_ (Zsl ha hb I h fun v u s2 x y H2 I2 rx ry q => hr a b pins s2 σ H2 x y v u Q I2 rx ry q (hs _ _))
def Zr3 (K : PySem.W.Frag) : R2 := fun x y H Q => ∃ p xs i v, x = .ref p /\ y = .int i /\ SqL K H p xs /\ atI xs i = some v /\ Q v H
def Zr1 (K : PySem.W.Frag) : R2 := fun x y H Q => ∃ p xs i v, x = .ref p /\ y = .int i /\ SqT K H p xs /\ atI xs i = some v /\ Q v H
def Zr2 : R2 := fun x y H Q => ∃ z i c, x = .str z /\ y = .int i /\ z.length <= sizeLine /\ atI z.cps.toList i = some c /\ Q (.str ⟨#[c]⟩) H
theorem Zow : IxR X (Zr3 X.K) := by
 intro value slice pins s σ H x y v u Q I rx ry h hs;obtain ⟨p, xs, i, z, rfl, rfl, hq, he, q⟩ := h;cases rx;obtain ⟨t, rfl⟩ := ry;obtain ⟨its, r, pl, hz⟩ := I.list hq;obtain ⟨j, h1, h2, h3, h4, h5⟩ := Zjj he;obtain ⟨w, ew, rw'⟩ := r.get h2;have hl := r.length;have hn := Zgu;have fin : EP X pins σ Q w s := ⟨z, H, I, rw', q⟩
 by_cases h0 : 0 <= i
 ·have hj : i.toNat = j := by
   rw [seqIndex_of h0 h5] at h1;exact Option.some.inj h1
  exact item_listR pl.isList h0 (by omega) (by rw [hj]; simpa using ew) fin hs
 ·have hj : (i + (its.toArray.size : Int)).toNat = j := by
   rw [seqIndex_neg (by omega) h4] at h1;rw [List.size_toArray, <- hl];exact Option.some.inj h1
  exact subscriptTail_builtinR (x := w) pl.isList.typeIs slot_list_getitem.lookup
   (wpAny_getItem_list_neg (Q := fun r s' => r = w /\ EP X pins σ Q r s') pl.isList (by omega) (by rw [List.size_toArray] <;> omega) (by omega) (by rw [hj]; simpa using ew) ⟨rfl, fin⟩) hs
theorem Zqx : IxR X (Zr1 X.K) := by
 intro value slice pins s σ H x y v u Q I rx ry h hs;obtain ⟨p, xs, i, z, rfl, rfl, hq, he, q⟩ := h;cases rx;obtain ⟨t, rfl⟩ := ry;obtain ⟨its, r, pl, hz⟩ := I.tuple hq;obtain ⟨j, h1, h2, h3, h4, h5⟩ := Zjj he;obtain ⟨w, ew, rw'⟩ := r.get h2;have hl := r.length;have hn := Zgu;have fin : EP X pins σ Q w s := ⟨z, H, I, rw', q⟩;exact subscriptTail_builtinR (x := w) pl.typeIs slot_tuple_getitem.lookup
  (getItem_tuple (j := j) (Q := fun r s' => r = w /\ EP X pins σ Q r s') pl (by omega) (by omega) (by rw [List.size_toArray, <- hl]; exact h1) (by simpa using ew) ⟨rfl, fin⟩) hs
theorem Zf3 : IxR X Zr2 := by
 intro value slice pins s σ H x y v u Q I rx ry h hs;obtain ⟨z, i, c, rfl, rfl, hz, he, q⟩ := h;obtain ⟨t, rfl⟩ := rx;obtain ⟨t', rfl⟩ := ry;obtain ⟨j, h1, h2, h3, h4, h5⟩ := Zjj he;have hl : z.cps.toList.length = z.length := by simp [Str.length]
 rw [hl] at h1 h4 h5;have hn := Zgu;exact tail_any (typeIs_str s z t) slot_str_getitem.lookup (getItem_str (c := c) (by
  have e1 : decide (i < -(2 ^ 63 : Int)) = false := decide_eq_false (by omega);have e2 : decide (i ≥ 2 ^ 63) = false := decide_eq_false (by omega);rw [e1, e2, Bool.or_false]) (by rw [h1]; simpa using h2) ⟨.str ⟨#[c]⟩, H, I.tok _, ⟨_, rfl⟩, q⟩) hs
theorem Zkq (its : List Value) (n j : Nat) (u : Value) : Obj.mapSeq (·.setIfInBounds j u) { cls := .type "list", data := .seq its.toArray n } = { cls := .type "list", data := .seq (its.set j u).toArray n } := by
 simp [Obj.mapSeq]
theorem Inv.lst {pins : List (Addr × Obj)} {σ : St} {H : Hp} {s : Shared} {p : Addr} {xs : List V} (I : Inv X pins σ H s) (h : H p = some (.lst xs)) :
  ∃ (its : List Value) (n : Nat), Vals xs its /\ s.heap.get? p = some { cls := .type "list", data := .seq its.toArray n } /\ xs.length <= sizeLine := by
 obtain ⟨z, its, n, r, e⟩ := I.hok p _ h;exact ⟨its, n, r, e, z⟩
theorem Inv.lstUpd {pins : List (Addr × Obj)} {σ : St} {H : Hp} {s : Shared} {p : Addr} {xs ys : List V} {its its' : List Value} {n n' : Nat} {f : Obj -> Obj} (I : Inv X pins σ H s) (h : H p = some (.lst xs))
  (ho : s.heap.get? p = some { cls := .type "list", data := .seq its.toArray n }) (hf : f { cls := .type "list", data := .seq its.toArray n } = { cls := .type "list", data := .seq its'.toArray n' }) (r : Vals ys its') (hz : ys.length <= sizeLine) (t : Nat) :
  Inv X pins σ (upd H p (.lst ys)) { s with heap := s.heap.update p f, toks := t } := by
 have e : (s.heap.update p f).get? p = some { cls := .type "list", data := .seq its'.toArray n' } := by
  rw [Heap.get?_update_self f ho (by rw [hf] <;> rfl), hf]
 refine I.write (x := p) (e := p) (by rw [h]; trivial) (.inl rfl) (fun b u hb q => (Heap.get?_update_other _ _ (Ne.symm hb)).trans q) ⟨_, e⟩ ?_;exact ⟨hz, its', n', r, e⟩
def Zp3 : V -> V -> V -> Hp -> (Hp -> Prop) -> Prop := fun o i v H Q => ∃ p xs k j, o = .ref p /\ i = .int k /\ H p = some (.lst xs) /\ ixN xs.length k = some j /\ Q (upd H p (.lst (xs.set j v)))
theorem set_list : PSet X Zp3 := by
 intro pins s σ H o i v ov iv u Q I ro ri rv h;obtain ⟨p, xs, k, j, rfl, rfl, hp, hj, q⟩ := h;cases ro;obtain ⟨t, rfl⟩ := ri;obtain ⟨its, n, r, ho, hz⟩ := I.lst hp;obtain ⟨h1, h2, h3, h4⟩ := Zl2 hj;have hl := r.length;have hn := Zgu;have I' : Inv X pins σ (upd H p (.lst (xs.set j v))) { s with heap := s.heap.update p (Obj.mapSeq (·.setIfInBounds j u)) } :=
  I.lstUpd hp ho (Zkq its n j u) (r.set rv j) (by rw [List.length_set]; exact hz) s.toks
 by_cases h0 : 0 <= k
 ·have hk : k.toNat = j := by
   rw [seqIndex_of h0 h4] at h1;exact Option.some.inj h1
  exact PySem.W.ki_setAt ho h0 (by omega) (by rw [List.size_toArray, <- hl]; exact h4) (by rw [hk]; exact ⟨_, I', q⟩)
 ·have hk : (k + (its.toArray.size : Int)).toNat = j := by
   rw [seqIndex_neg (by omega) h3] at h1;rw [List.size_toArray, <- hl];exact Option.some.inj h1
  exact PySem.W.ki_setBack ho (by omega) (by rw [List.size_toArray, <- hl]; exact h3) (by omega) (by rw [hk]; exact ⟨_, I', q⟩)
def Zti (K : PySem.W.Frag) : V -> Option Int -> Option Int -> Hp -> VK -> Prop := fun x lo hi H Q => ∃ a xs, x = .ref a /\ SqL K H a xs /\ ∀ p, H p = none -> Q (.ref p) (upd H p (.lst (Zta xs lo hi)))
theorem Ziq : CallR X (.builtin "len") (fun xs H Q => ∃ p ys, xs = [.ref p] /\ (SqL X.K H p ys \/ SqT X.K H p ys) /\ Q (.int ys.length) H) := by
 intro pins s σ H xs us Q I r h;obtain ⟨p, ys, rfl, hq, q⟩ := h;obtain ⟨u, rfl, rx⟩ := Zg2 r;cases rx;have hn := Zgu;rcases hq with hq | hq
 ·obtain ⟨its, r', pl, hz⟩ := I.list hq;have hlen := r'.length;exact Calls.call_len_list pl.isList (by simp only [List.size_toArray] <;> omega) ⟨.int ys.length, H, I.tok _, ⟨s.toks + 1, by rw [List.size_toArray, hlen]⟩, q⟩
 ·obtain ⟨its, r', pl, hz⟩ := I.tuple hq;have hlen := r'.length;exact len_tuple pl (by simp only [List.size_toArray] <;> omega) ⟨.int ys.length, H, I.tok _, ⟨s.toks + 1, by rw [List.size_toArray, hlen]⟩, q⟩
theorem Zdf : CallR X (.builtin "len") (fun xs H Q => ∃ z, xs = [.str z] /\ z.length <= sizeLine /\ Q (.int z.length) H) := by
 intro pins s σ H xs us Q I r h;obtain ⟨z, rfl, hz, q⟩ := h;obtain ⟨u, rfl, t, rfl⟩ := Zg2 r;have hn := Zgu;exact len_str (by omega) ⟨.int z.length, H, I.tok _, ⟨_, rfl⟩, q⟩
theorem Zip : CallR X (.type "list") (fun xs H Q => ∃ p ys, xs = [.ref p] /\ (SqL X.K H p ys \/ SqT X.K H p ys) /\ ∀ l, H l = none -> Q (.ref l) (upd H l (.lst ys))) := by
 intro pins s σ H xs us Q I r h;obtain ⟨p, ys, rfl, hq, q⟩ := h;obtain ⟨u, rfl, rx⟩ := Zg2 r;cases rx;have fin : ∀ (its : List Value), Vals ys its -> ys.length <= sizeLine -> ∀ (h' : Heap) (c' : Nat), (∀ b o', s.heap.get? b = some o' -> h'.get? b = some o') ->
   h'.get? s.heap.objs.size = some { cls := .type "list", dict := none, data := .seq its.toArray c', slots := #[] } -> EP X pins σ Q (.ref s.heap.objs.size) { s with heap := h' } := fun its r' hz h' c' kp e =>
  ⟨.ref s.heap.objs.size, _, I.laid (t' := s.toks) kp (Nat.le_refl _) (show ObjOk X.prog X.w _ h' _ (.lst ys) from ⟨hz, its, c', r', e⟩), rfl, q _ (I.hok.fresh (Nat.le_refl _))⟩
 rcases hq with hq | hq
 ·obtain ⟨its, r', pl, hz⟩ := I.list hq;have hlen := r'.length;obtain ⟨o, ho, hc, n, hd⟩ := pl.isList;exact call_list_seq p (.inl rfl) ho hc hd (fun h' c' kp e => fin its r' hz h' c' kp e) (by simp only [List.size_toArray] <;> omega)
 ·obtain ⟨its, r', pl, hz⟩ := I.tuple hq;have hlen := r'.length;obtain ⟨o, ho, hc, n, hd⟩ := pl;exact call_list_seq p (.inr rfl) ho hc hd (fun h' c' kp e => fin its r' hz h' c' kp e) (by simp only [List.size_toArray] <;> omega)
def tyV (K : PySem.W.Frag) (T : String) (x : V) (H : Hp) : Prop := match x with
 | .str _ => T = "str"
 | .int _ => T = "int"
 | .ref p => (T = "list" /\ ∃ xs, SqL K H p xs) \/ (T = "tuple" /\ ∃ o, K.lookup p = some o /\ o.cls = .type "tuple" /\ o.dict = none) \/
   (T = "dict" /\ ((∃ kvs, H p = some (.dK kvs)) \/ ∃ kvs, H p = some (.dT kvs))) \/ (T = "set" /\ ∃ S n, H p = some (.set S n))
 | _ => False
theorem Zpf {pins : List (Addr × Obj)} {σ : St} {H : Hp} {s : Shared} {T : String} {x : V} {v : Value} (I : Inv X pins σ H s) (r : RelV x v) (ty : tyV X.K T x H) :
  s.TypeIs v T /\ ∀ a, v = .ref a -> ∃ ob, s.heap.get? a = some ob /\ ob.dict = none := by
 cases x with
 | str z =>
  obtain ⟨t, rfl⟩ := r;cases (show T = "str" from ty);exact ⟨typeIs_str s z t, fun _ e => nomatch e⟩
 | int i =>
  obtain ⟨t, rfl⟩ := r;cases (show T = "int" from ty);exact ⟨typeIs_int s i t, fun _ e => nomatch e⟩
 | ref p =>
  cases r;rcases ty with ⟨rfl, xs, hq⟩ | ⟨rfl, o, hk, hc, hd⟩ | ⟨rfl, hk⟩ | ⟨rfl, S, n, hk⟩
  ·obtain ⟨its, _, pl, _⟩ := I.list hq;refine ⟨pl.isList.typeIs, fun a e => ?_⟩;cases e;obtain ⟨o, n, e, c, hd, _⟩ := pl;exact ⟨o, e, hd⟩
  ·refine ⟨⟨o, I.kIn p o hk, hc⟩, fun a e => ?_⟩;cases e;exact ⟨o, I.kIn _ o hk, hd⟩
  ·have z : ∃ o, s.heap.get? p = some o /\ o.ExactDict := by
    rcases hk with ⟨kvs, hk⟩ | ⟨kvs, hk⟩
    ·obtain ⟨_, _, _, _, o, _, _, e, ex, _⟩ := I.hok p _ hk;exact ⟨o, e, ex⟩
    ·obtain ⟨_, _, _, _, o, _, _, e, ex, _⟩ := I.hok p _ hk;exact ⟨o, e, ex⟩
   obtain ⟨o, e, ex⟩ := z;refine ⟨⟨o, e, ex.1⟩, fun a e2 => ?_⟩;cases e2;exact ⟨o, e, ex.2.1⟩
  ·obtain ⟨o, _, _, _, e, ex, _⟩ := I.hok p _ hk;refine ⟨⟨o, e, ex.1⟩, fun a e2 => ?_⟩;cases e2;exact ⟨o, e, ex.2.1⟩
 | _ => exact False.elim ty
def Ztg (K : PySem.W.Frag) (T : String) (r : V -> List V -> Hp -> VK -> Prop) (to : TE) : TE := fun σ H Q => to σ H fun x H1 => tyV K T x H1 /\ r x [] H1 Q
def tBM (K : PySem.W.Frag) (T : String) (r : V -> List V -> Hp -> VK -> Prop) (to : TE) (t : TA) : TE := fun σ H Q => to σ H fun x H1 => tyV K T x H1 /\ t σ H1 fun xs H2 => r x xs H2 Q
variable {o e : Expr} {es : List Expr} {to : TE} {t : TA} {name : Str} {apos cpos : Pos} {T id : String} {r : V -> List V -> Hp -> VK -> Prop}
theorem Zr9 (pa : PlainAttrs T) (slot : Slot T name id) (hty : typeOf (.builtin id) = pure (.type "method_descriptor")) (hm : MtR X id r) (ho : PE X o to) (ha : PA X (e :: es) t)
  (hbase : attributeBase o name X.env (eval o X.env) = eval o X.env := by rfl)
  (hfew : ((backTo cpos (starEach (e :: es) X.env)).all (fun x => !x.1) && (backToKw cpos (keywordEach [] X.env)).all (fun x => x.1.isSome)
   && decide ((e :: es).length + ([] : List Keyword).length + (if ([] : List Keyword).isEmpty then 0 else 1) < 30)) = true := by rfl)
  (hline : (apos.endLine == cpos.line) = true := by rfl) (hs : starEach (e :: es) X.env = (false, eval e X.env) :: starEach es X.env := by rfl) (hplain : (backTo cpos (starEach es X.env)).any (·.1) = false := by rfl) :
  PE X (.Call (.Attribute o name apos) (e :: es) [] cpos) (tBM X.K T r to t) := by
 intro pins s σ H Q I h;refine wpAny_Call_method_late hbase hfew hline rfl (thn (ho pins s σ H _ I h) fun v s1 ⟨x, H1, I1, r1, ty, q1⟩ => ?_);obtain ⟨h1, h2⟩ := Zpf I1 r1 ty;refine ⟨T, id, pa, slot, hty, h1, h2, ?_⟩;have hA := ha cpos pins s1 σ H1 _ I1 q1;rw [hs] at hA ⊢;refine Calls.callWith_builtin (by show (false || (backTo cpos (starEach es X.env)).any (·.1)) = false; rw [hplain] <;> rfl) (Calls.evalArgs_plain ?_);exact thn hA fun us s2 ⟨vs, H2, I2, r2, q2⟩ => hm pins s2 σ H2 x vs v us Q I2 r1 r2 q2
end
end L2
namespace L2
open PySem PySem.Spec PyProof.Rows
def MtM (X : Cx) (id : String) (r : V -> List V -> Hp -> VK -> Prop) : Prop :=
 ∀ (pins : List (Addr × Obj)) (s : Shared) (σ : St) (H : Hp) (x : V) (xs : List V) (v : Value) (us : List Value) (Q : VK), Inv X pins σ H s -> RelV x v -> Vals xs us -> r x xs H Q ->
  wpAny (model X.prog X.w) X.A (call (.builtin id) (v :: us)) (EP X pins σ Q) X.xe s
theorem Vals.one : ∀ {x : V} {us : List Value}, Vals [x] us -> ∃ u, us = [u] /\ RelV x u
 | _, _, .cons r .nil => ⟨_, rfl, r⟩
section
variable {X : Cx} {pins : List (Addr × Obj)} {σ : St} {H : Hp} {s : Shared} {l b : Addr} {xs ys zs : List V}
theorem Inv.lset {its its' : List Value} {n : Nat} {f : Array Value -> Array Value} {t' : Nat} (I : Inv X pins σ H s) (hH : H l = some (.lst xs))
  (e : s.heap.get? l = some { cls := .type "list", data := .seq its.toArray n }) (hf : f its.toArray = its'.toArray) (hv : Vals ys its') (hz : ys.length <= sizeLine) :
  Inv X pins σ (upd H l (.lst ys)) { s with heap := s.heap.update l (Obj.mapSeq f), toks := t' } := by
 have q := PySem.IsL.update e f;rw [hf] at q;refine I.write (x := l) (e := l) (by rw [hH]; exact trivial) (.inl rfl) (fun b' u hb hu => (Heap.get?_update_other s.heap (Obj.mapSeq f) (Ne.symm hb)).trans hu) ⟨_, q⟩ ?_;exact ⟨hz, its', _, hv, q⟩
theorem Inv.lnew {its : List Value} {t' : Nat} (I : Inv X pins σ H s) (hv : Vals ys its) (hz : ys.length <= sizeLine) :
  Inv X pins σ (upd H s.heap.objs.size (.lst ys)) { s with heap := s.heap.push { cls := .type "list", data := .seq its.toArray }, toks := t' } :=
 I.laid (fun _ _ q => Heap.get?_push_of_some _ q) (Nat.le_refl _) ⟨hz, its, 0, hv, Heap.get?_push_size _ rfl⟩
theorem Inv.fresh (I : Inv X pins σ H s) : H s.heap.objs.size = none := I.hok.fresh (Nat.le_refl _)
theorem Inv.lstM (I : Inv X pins σ H s) (hH : H l = some (.lst xs)) : xs.length <= sizeLine /\ ∃ (its : List Value) (n : Nat), Vals xs its /\ xs.length = its.length /\ s.heap.get? l = some { cls := .type "list", data := .seq its.toArray n } := by
 obtain ⟨z, its, n, r, e⟩ := I.hok l _ hH;exact ⟨z, its, n, r, r.length, e⟩
end
section
variable {X : Cx}
def Zlj : V -> List V -> Hp -> VK -> Prop := fun x vs H Q => ∃ l xs y, x = .ref l /\ vs = [y] /\ H l = some (.lst xs) /\ xs.length < sizeLine /\ Q .non (upd H l (.lst (xs ++ [y])))
theorem mt_append : MtM X "list.append" Zlj := by
 intro pins s σ H x vs v us Q I rx rv h;obtain ⟨l, xs, y, rfl, rfl, hH, hz, q⟩ := h;cases rx;obtain ⟨u, rfl, ru⟩ := rv.one;obtain ⟨z, its, n, r, hl, e⟩ := I.lstM hH;refine call_meets F.slot_list_append ⟨_, e, rfl⟩ F.entry_list_append (F.args_list_append_2 _ _) (PySem.list_append l its.toArray n u (by rw [List.size_toArray]; omega)) ⟨e, ?_⟩;refine ⟨.non, _, I.lset (its' := its ++ [u]) hH e (by simp) (r.append (.cons ru .nil)) ?_, rfl, q⟩;rw [List.length_append, List.length_singleton];omega
def Zoi : V -> List V -> Hp -> VK -> Prop := fun x vs H Q => ∃ l b xs zs, x = .ref l /\ vs = [.ref b] /\ H l = some (.lst xs) /\ H b = some (.lst zs) /\ xs.length + zs.length <= sizeLine /\ Q .non (upd H l (.lst (xs ++ zs)))
def Zs5 : R2 := fun x y H Q => ∃ l b xs zs, x = .ref l /\ y = .ref b /\ H l = some (.lst xs) /\ H b = some (.lst zs) /\ xs.length + zs.length <= sizeLine /\ ∀ p, H p = none -> Q (.ref p) (upd H p (.lst (xs ++ zs)))
theorem op_cat : OpR X (binaryOp .Add) Zs5 := by
 intro pins s σ H x y v u Q I rx ry h;obtain ⟨l, b, xs, zs, rfl, rfl, hH, hB, hz, q⟩ := h;cases rx;cases ry;obtain ⟨z, its, n, r, hl, e⟩ := I.lstM hH;obtain ⟨z2, its2, n2, r2, hl2, e2⟩ := I.lstM hB;refine PySem.P.add_list e e2 ?_ (by rw [List.size_toArray, List.size_toArray]; omega);have ea : its.toArray ++ its2.toArray = (its ++ its2).toArray := by simp
 rw [ea];exact ⟨.ref _, _, I.lnew (t' := s.toks) (r.append r2) (by rw [List.length_append]; omega), rfl, q _ I.fresh⟩
end
section
variable {prog : Program} {w : World} {A : Around} {E : Value -> Shared -> Prop} {s : Shared}
end
section
variable {X : Cx}
end
end L2
namespace Att
open PySem PySem.W PySem.Calls PyProof.Rows
theorem Zf4 {P : Params} {h : Heap} : ∀ (ns : List Int) (vs : List Value), WellAll P h vs (ns.map WData.int) -> IntsAre vs ns := by
 intro ns
 induction ns with
 | nil =>
  intro vs w;rw [List.map_nil] at w;cases w;exact .nil
 | cons n ns ih =>
  intro vs w;rw [List.map_cons] at w;cases w with
  | cons a b =>
   cases a;exact .cons _ _ (ih _ b)
theorem Zld {l : OpenLaw} {n : Nat} (hn : l.most = some n) {P : Params} {h : Heap} {args : List WData} {vals : List Value}
  (hpre : l.row.toRowW.claim.pre args = true) (hwl : WellAll P h vals args) :
  ∃ a vs ns, vals = [Value.ref a] /\ args = [WData.list (ns.map WData.int)] /\ h.get? a = some { cls := .type "list", data := .seq vs.toArray } /\ IntsAre vs ns /\ ns.length <= n := by
 have hsh : WShape.hasAll [] args [.list .int] = true := (pre_splitW hpre).1;have hc : l.pre.holds [] { args := args } = true := (pre_splitW hpre).2;obtain ⟨d, r, rfl, h1, h2⟩ := hasAllW_cons hsh;obtain rfl := hasAllW_nil h2;obtain ⟨xs, rfl, h3⟩ := hasW_list h1;obtain ⟨ns, rfl⟩ := items_int h3;have hlen : ns.length <= n := by
  unfold OpenLaw.pre at hc;have h4 : (WTm.not (.lt (.lit (.int (n : Int))) (.len (.arg 0)))).holds [] { args := [.list (ns.map .int)] } = true := by
   have h4 := (holds_andW hc).1;rw [hn] at h4;exact h4
  have h5 := condW_of h4 (w_not (w_lt w_lit (w_len_list (w_arg rfl))));rw [List.length_map] at h5;refine Nat.le_of_not_lt fun q => ?_
  have q' : (n : Int) < ((ns.length : Nat) : Int) := by omega
  first
   | (rw [decide_eq_true q'] at h5; exact absurd h5 (by decide))
   | (simp at h5; omega)
 cases hwl with
 | cons w1 w2 =>
  cases w2;cases w1 with
  | list ho hall => exact ⟨_, _, ns, rfl, rfl, ho, Zf4 ns _ hall, hlen⟩
theorem Zll (l : OpenLaw) (args : List WData) : l.row.toRowW.claim.post args (.bool true) args = true :=
 postW_of (r := l.row.toRowW) (X := (true == true))
  (show WShape.has [] (.bool true) .bool = true by first | rfl | decide | simp [WShape.has, WShape.arms, WShape.armsAll])
  (show (WTm.eq .res (.lit (.bool true))).value [] { args := args, res := some (.bool true), after := args } = some (.bool (true == true)) from w_eq_bool (w_res rfl) w_lit) rfl
theorem attach_call {l : OpenLaw} {n : Nat} {q : Program} {loose : List Str} {XP : (Str -> Option Value) -> Heap -> Prop} {YP : World -> Heap -> Prop} {d : DefRec}
  (hn : l.most = some n) (hdf : d.params.defaults = [])
  (call : ∀ (w : World) (s₀ s₁ : Shared) (mg mb : Str -> Option Value) (fa : Addr) (o : Obj) (pm cd doc : Value) (a : Addr) (vs : List Value) (ns : List Int),
   Ground q loose [] XP w s₀ mg mb s₁.heap -> YP w s₁.heap ->
   s₁.heap.get? fa = some o -> o.data = .func (docDef d.name d.params d.body d.scope pm cd doc) -> s₁.heap.CodeRec cd d.name -> mg d.name = some (.ref fa) ->
   s₁.heap.get? a = some { cls := .type "list", data := .seq vs.toArray } -> IntsAre vs ns -> ns.length <= n -> s₁.gens = #[] ->
   codeAny (model l.prog w) callerA (.call (.ref fa) ⟨[.ref a], []⟩) (fun r s' => r = .ok (.ret (.bool true)) /\ OldK s₁.heap s'.heap /\ s'.os = s₁.os /\ AllBare s'.gens) s₁) :
  WalkO q loose XP YP l.row.toRowW d [] (fun f vs => PySem.call f vs) := by
 intro w s₀ s₁ mg mb G Y fa o pm cd doc dV kV ho hd hcd hD hmg hg args vals as hpre hlay hrd hwl hlo;obtain rfl : dV = .none := Dflts.none hD hdf;obtain rfl : kV = .none := Dflts.noKw hD;obtain ⟨a, vs, ns, rfl, rfl, hobj, hints, hlen⟩ := Zld hn hpre hwl;refine enter_call (codeAny_mono (call w s₀ s₁ mg mb fa o pm cd doc a vs ns G Y ho (fd_plain hd) hcd hmg hobj hints hlen hg) fun r s' hq => ?_);obtain ⟨rfl, h2, h3, h4⟩ := hq;exact ⟨.inl ⟨.bool true, .bool true, [], rfl, fun _ => rfl, .bool true, Zll l _, fun _ => ⟨List.Pairwise.nil, fun _ hm => (nomatch hm)⟩⟩, h2, h3, h4⟩
section
variable {prog : Program} {w : World} {A : Around} {E : Value -> Shared -> Prop} {s : Shared} {K : Frag}
def ledger (h : Heap) (L d : Addr) : List (Addr × Obj) := (List.range h.objs.size).filterMap fun a => if a = L \/ a = d then none else (h.get? a).map fun o => (a, o)
end
end Att
namespace L2
open PySem PySem.Spec PyProof.Rows
theorem Zh4 : ∀ {vs : List Value} {ns : List Int}, IntsAre vs ns -> Vals (ns.map V.int) vs
 | _, _, .nil => .nil
 | _, _, .cons n t h => .cons ⟨t, rfl⟩ (Zh4 h)
def Zsn (H : Hp) : Prop := ∀ b, H b = none \/ ∃ o xs, H b = some (.frz o (.lst xs))
theorem Zm5 {P : Program} {w : World} {K : PySem.W.Frag} {mg mb : Str -> Option Value} {CX : CXT} {k : Nat} {fa a : Addr} {fd : FuncData} {x : Str} {sp : Sp} {s₁ : Shared} {vs : List Value} {ns : List Int}
  (KX : K.In s₁.heap) (hns : s₁.heap.Ns mainGlobals mg) (hb : s₁.heap.Ns builtinsNs mb) (hbb : ∀ x : Str, x ≠ "__name__" -> mb x = bootBuiltins x) (hlim : s₁.heap.NoLimit) (hg : s₁.gens = #[])
  (ha : s₁.heap.get? a = some { cls := .type "list", data := .seq vs.toArray }) (hi : IntsAre vs ns) (hl : ns.length <= sizeLine) (hr : Room k callerA)
  (F : ∀ base : Heap, K.In base -> base.Ns mainGlobals mg -> FnOk P w K mg base CX k fa fd [x] sp) (hbind : ∀ (s : Shared) (u : Value), BindsTo s fd ⟨[u], []⟩ [(x, u)])
  (hsp : ∀ H : Hp, Zsn H -> SqL K H a (ns.map V.int) -> sp [.ref a] H (fun v _ => v = .bl true) fun _ _ _ => False)
  (hCX : ∀ H e s', CX [] H s₁ (fun _ _ _ => False) e s' -> False) :
  codeAny (model P w) callerA (.call (.ref fa) ⟨[.ref a], []⟩) (fun r s' => r = .ok (.ret (.bool true)) /\ OldK s₁.heap s'.heap /\ s'.os = s₁.os /\ AllBare s'.gens) s₁ := by
 have rv := Zh4 hi;have lenV := hi.length
 -- from an abstract heap in which nothing but the script may be tracked
 have core : ∀ H : Hp, Zsn H -> SqL K H a (ns.map V.int) -> HOk P w H s₁.heap -> (∀ b, H b ≠ none -> b = a) -> (H a ≠ none -> K.lookup a = none) ->
   codeAny (model P w) callerA (.call (.ref fa) ⟨[.ref a], []⟩) (fun r s' => r = .ok (.ret (.bool true)) /\ OldK s₁.heap s'.heap /\ s'.os = s₁.os /\ AllBare s'.gens) s₁ := by
  intro H hO hS hok hA hK;have base_of : ∀ {b : Addr} {o : Obj}, s₁.heap.get? b = some o -> H b = none -> (Zm8 s₁.heap H).get? b = some o := fun e n => Zm7 e n
  have noA : ∀ {b : Addr} {o : Obj} {es : Array DictEntry} {ep : Nat}, s₁.heap.get? b = some o -> o.data = .dict es ep -> H b = none := fun {b o es ep} e d => by
   cases q : H b with
   | none => rfl
   | some u =>
    have e' : b = a := hA b (by rw [q]; simp);subst e';rw [ha] at e; cases e;have d' : Data.seq vs.toArray _ = Data.dict es ep := d;cases d'
  have nsK : ∀ {b : Addr} {m : Str -> Option Value}, s₁.heap.Ns b m -> (Zm8 s₁.heap H).Ns b m := fun {b m} ⟨o, es, ep, e, d, r⟩ => ⟨o, es, ep, base_of e (noA e d), d, r⟩
  have hKb : K.In (Zm8 s₁.heap H) := fun b o e => base_of (KX b o e) (by
   cases q : H b with
   | none => rfl
   | some u =>
    have e' : b = a := hA b (by rw [q]; simp);subst e';rw [hK (by rw [q]; simp)] at e; cases e)
  have hM : Mod K mg (Zm8 s₁.heap H) := ⟨hKb, nsK hns, ⟨mb, nsK hb, hbb⟩, let ⟨mc, h1, h2⟩ := hlim; ⟨mc, nsK h1, h2⟩⟩;have e0 : Env0 P w K mg (Zm8 s₁.heap H) callerA [] s₁ H := ⟨rfl, hM, fun b o e => Zos e, Nat.le_of_eq (Zl6 _ _), trivial, fun b hb => absurd (show b ∈ ([] : List Addr) from hb) (by simp), hok, .of_eq hg⟩;refine codeAny_mono ((F _ hKb (nsK hns)).run callerA [] s₁ H ⟨[.ref a], []⟩ [.ref a] [.ref a] _ _ hr e0 (hbind s₁ (.ref a)) (.cons rfl .nil) (hsp H hO hS)) fun r s' h => ?_
  cases r with
  | error e => exact (hCX H e s' h).elim
  | ok fl =>
   cases fl with
   | next => exact False.elim h
   | brk => exact False.elim h
   | cont => exact False.elim h
   | ret u =>
    obtain ⟨v, H', os, bare, un, hok', r', q⟩ := h;have q' : v = .bl true := q;subst q';obtain rfl : u = Value.bool true := r';refine ⟨rfl, OldK.of_keep fun b o e => ?_, os, bare⟩;cases q : H b with
    | none => exact un.keep b o e q (by intro z; exact absurd (show b ∈ ([] : List Addr) from z) (by simp)) (by simp)
    | some u =>
     rcases hO b with z | ⟨ob, xs, z⟩
     ·rw [q] at z; cases z
     ·have z2 := un.frzs b ob _ z;obtain ⟨e1, _⟩ := hok b _ z;obtain ⟨e2, _⟩ := hok' b _ z2;rw [e] at e1; cases e1;exact e2
 cases hk : K.lookup a with
 | some o =>
  -- the script is one of the module's own objects
  have e := KX a o hk;rw [ha] at e;cases e;refine core (fun _ => none) (fun _ => .inl rfl) (.inr ⟨_, vs.toArray, _, hk, rfl, rfl, rfl, by rw [List.size_toArray, lenV]; exact hl, by simpa using rv⟩) (fun b u z => by have z' : (none : Option HO) = some u := z; cases z') (fun b z => absurd rfl z) fun z => absurd rfl z
 | none =>
  refine core (fun b => if b = a then some (.frz { cls := .type "list", data := .seq vs.toArray } (.lst (ns.map V.int))) else none) (fun b => ?_) (.inl (.inr ⟨{ cls := .type "list", data := .seq vs.toArray }, if_pos rfl⟩)) (fun b u z => ?_) (fun b z => ?_) fun _ => hk
  ·by_cases hb : b = a
   ·exact .inr ⟨_, _, if_pos hb⟩
   ·exact .inl (if_neg hb)
  ·by_cases hb : b = a
   ·have z' := (if_pos hb).symm.trans z;cases z';subst hb;exact ⟨ha, by rw [List.length_map]; exact hl, vs, _, rv, ha⟩
   ·have z' := (if_neg hb).symm.trans z;cases z'
  ·by_cases hb : b = a
   ·exact hb
   ·exact absurd (if_neg hb) z
end L2
namespace L2
open PySem PySem.Spec PyProof.Rows
abbrev KOf {K : PySem.W.Frag} {h : Heap} (_ : K.In h) : PySem.W.Frag := K
theorem walk_of {l : PySem.W.OpenLaw} {n k : Nat} {q : Program} {loose : List Str} {XP : (Str -> Option Value) -> Heap -> Prop} {YP : World -> Heap -> Prop} {d : DefRec} {K : Params -> PySem.W.Frag} {CX : World -> CXT} {sp : World -> Sp} {x : Str}
  (hn : l.most = some n) (hn2 : n <= sizeLine) (hdf : d.params.defaults = []) (hr : Room k callerA)
  (hY : ∀ (w : World) (h : Heap), YP w h -> (K w.params).In h)
  (F : ∀ (w : World) (mg : Str -> Option Value) (fa : Addr) (h : Heap), (K w.params).In h -> h.Ns mainGlobals mg -> mg d.name = some (.ref fa) ->
   ∃ fd : FuncData, (∀ (s : Shared) (u : Value), BindsTo s fd ⟨[u], []⟩ [(x, u)]) /\
    ∀ base : Heap, (K w.params).In base -> base.Ns mainGlobals mg -> FnOk l.prog w (K w.params) mg base (CX w) k fa fd [x] (sp w))
  (hsp : ∀ (w : World) (H : Hp) (a : Addr) (ns : List Int), ns.length <= n -> Zsn H -> SqL (K w.params) H a (ns.map V.int) -> sp w [.ref a] H (fun v _ => v = .bl true) fun _ _ _ => False)
  (hCX : ∀ (w : World) (H : Hp) (s : Shared) (e : Value) (s' : Shared), CX w [] H s (fun _ _ _ => False) e s' -> False) :
  PySem.W.WalkO q loose XP YP l.row.toRowW d [] (fun f vs => PySem.call f vs) := by
 refine Att.attach_call hn hdf fun w s₀ s₁ mg mb fa o pm cd doc a vs ns G Y ho hd hcd hmg hobj hints hlen hg => ?_
 have KX := hY w _ Y;obtain ⟨fd, hb, hF⟩ := F w mg fa _ KX G.T.g hmg;exact Zm5 KX G.T.g G.T.b G.T.builtins G.T.nolimit hg hobj hints (Nat.le_trans hlen hn2) hr hF hb (fun H hO hS => hsp w H a ns hlen hO hS) fun H e s' => hCX w H s₁ e s'
end L2
namespace L2
open PySem PySem.Spec PyProof.Rows
def Zfd (s : Stmt) (j : Nat) : Stmt := match s with
 | .ClassDef _ _ _ body _ _ _ _ _ _ _ => body.getD j (.Pass ⟨0, 0, 0, 0⟩)
 | _ => .Pass ⟨0, 0, 0, 0⟩
def Zam (s : Stmt) : Arguments := match s with
 | .FunctionDef _ a _ _ _ _ _ _ _ _ => a
 | _ => { posonlyargs := [], args := [], vararg := none, kwonlyargs := [], kw_defaults := [], kwarg := none, defaults := [] }
def defBody (s : Stmt) : List Stmt := match s with
 | .FunctionDef _ _ b _ _ _ _ _ _ _ => b
 | _ => []
def defScope (s : Stmt) : Scope := match s with
 | .FunctionDef _ _ _ _ _ _ sc _ _ _ => sc
 | _ => { kind := .function, names := [], isGenerator := false, isCoroutine := false }
abbrev CX0 : CXT := fun _ _ _ _ _ _ => False
abbrev E0 : XK := fun _ _ _ => False
theorem Zlr {X : Cx} : Zfk CX0 X E0 := fun _ _ _ _ _ _ _ h => h.elim
structure Fun (K : PySem.W.Frag) (x qual : Str) (st : Stmt) (f : Addr) (fd : FuncData) : Prop where
 ex : ∃ (oc : Value) (od : Option Addr) (kV doc pm : Value) (an : Option Addr) (cdv ct : Value) (osl : Array (Option Value)),
  fd = PySem.W.fnOf x qual (Zam st) (defBody st) (defScope st) .none kV doc pm an cdv ct /\ K.lookup f = some ⟨oc, od, .func fd, osl⟩ /\ PySem.W.codeIn K cdv qual = true
 kp : PySem.W.keepIn K (.ref f) = true
section
variable {P : Program} {w : World} {K : PySem.W.Frag} {mg : Str -> Option Value} {base : Heap}
theorem Fun.ok {x qual : Str} {st : Stmt} {f : Addr} {fd : FuncData} {N ps : List Str} {k : Nat} {sp : Sp} (F : Fun K x qual st f fd) (S : Zaq N ps (defScope st)) (len : ∀ vs H Q E, sp vs H Q E -> vs.length = ps.length)
  (hbody : ∀ (cdv : Value) (A : Around) (outer : List Env) (s : Shared) (H : Hp) (vs : List V) (Q : VK) (E : XK), Room k (A.deeper (envOfC qual (defScope st) s.heap.objs.size f cdv)) -> sp vs H Q E ->
   ∃ t, PSs (cxOf CX0 P w K mg base N qual (defScope st) f cdv A outer s H E).nox (defBody st) t /\ t { nx := fun _ H' => Q .non H', rt := Q } (start N vs) H) : FnOk P w K mg base CX0 (k + 1) f fd ps sp := by
 obtain ⟨oc, od, kV, doc, pm, an, cdv, ct, osl, rfl, lk, hcd⟩ := F.ex;refine Znc lk hcd S len fun A outer s H vs Q E hr hsp => ?_
 obtain ⟨t, h, q⟩ := hbody cdv A outer s H vs Q E hr hsp;exact ⟨t, h.nox, q⟩
theorem Fun.binds {x qual : Str} {st : Stmt} {f : Addr} {fd : FuncData} {ps : List Str} (F : Fun K x qual st f fd)
  (h : ∀ (kV doc pm : Value) (an : Option Addr) (cdv ct : Value) (us : List Value), us.length = ps.length -> bindArgs (PySem.W.fnOf x qual (Zam st) (defBody st) (defScope st) .none kV doc pm an cdv ct) ⟨us, []⟩ = pure (ps.zip us)) : Binds K fd ps [] := by
 obtain ⟨oc, od, kV, doc, pm, an, cdv, ct, osl, rfl, lk, hcd⟩ := F.ex;exact .all (h kV doc pm an cdv ct)
theorem Zax {x qual : Str} {st : Stmt} {f : Addr} {oc : Value} {od an : Option Addr} {osl : Array (Option Value)} {kV doc pm cdv ct : Value} (l : K.lookup f = some ⟨oc, od, .func (PySem.W.fnOf x qual (Zam st) (defBody st) (defScope st) .none kV doc pm an cdv ct), osl⟩)
  (c : PySem.W.codeIn K cdv qual = true) (k : PySem.W.keepIn K (.ref f) = true) : Fun K x qual st f (PySem.W.fnOf x qual (Zam st) (defBody st) (defScope st) .none kV doc pm an cdv ct) := ⟨⟨oc, od, kV, doc, pm, an, cdv, ct, osl, rfl, l, c⟩, k⟩
end
section
variable {X : Cx}
theorem pv (i : Nat) {x : Str} {pos : Pos} (hN : X.N[i]? = some x := by rfl) (hv : Vis X.env.scope x := by first | exact Or.inl rfl | exact Or.inr (Or.inl rfl) | exact Or.inr (Or.inr rfl)) (hd : (x == ("__debug__" : Str)) = false := by decide)
  (hcd : (x == ("__classdict__" : Str)) = false := by decide) : PE X (.Name x pos) (tVar i) := Znq hN hv hd hcd
end
theorem Zkv {c A B : Prop} [Decidable c] (h1 : c -> A) (h2 : ¬ c -> B) : if c then A else B := by
 by_cases h : c
 ·rw [if_pos h];exact h1 h
 ·rw [if_neg h];exact h2 h
def Same (H H' : Hp) : Prop := ∀ b o, H b = some o -> H' b = some o
theorem Same.refl (H : Hp) : Same H H := fun _ _ h => h
theorem Same.trans {H H1 H2 : Hp} (a : Same H H1) (b : Same H1 H2) : Same H H2 := fun c o h => b c o (a c o h)
theorem Same.free {H H' : Hp} (e : Same H H') {l : Addr} (h : H' l = Option.none) : H l = Option.none := by
 cases q : H l with
 | none => rfl
 | some o =>
  rw [e l o q] at h;cases h
end L2
set_option Elab.async false
set_option linter.all false
set_option maxRecDepth 100000
set_option maxHeartbeats 4000000
namespace L2
open PySem PySem.Spec PyProof.Rows
theorem Zjh {env : Env} : ∀ (names : List (Str × NameKind)) (cs : List (Str × Addr)), (∀ x, (x, NameKind.free) ∈ names -> ∃ c, env.cells.lookup x = some c) ->
  (∀ x c, cs.lookup x = some c -> env.cells.lookup x = some c) ->
  ∃ cl, (forIn names cs fun (p : Str × NameKind) (r : List (Str × Addr)) => (match p with | (name, kind) => (if (kind == NameKind.free) = true then (do let a <- cellOf env name; pure (ForInStep.yield ((name, a) :: r))) else pure (ForInStep.yield r)) : Sem (ForInStep (List (Str × Addr))))) = pure cl /\
   (∀ x c, cl.lookup x = some c -> env.cells.lookup x = some c) /\ (∀ x, (x, NameKind.free) ∈ names -> ∃ c, cl.lookup x = some c) /\ ∀ x, (∃ c, cs.lookup x = some c) -> ∃ c, cl.lookup x = some c
 | [], cs, _, h2 => ⟨cs, rfl, h2, (fun _ h => nomatch h), fun _ h => h⟩
 | (n, k) :: r, cs, h1, h2 => by
  by_cases hk : k = NameKind.free
  ·subst hk;obtain ⟨c, hc⟩ := h1 n List.mem_cons_self;obtain ⟨cl, e, a, b, d⟩ := Zjh r ((n, c) :: cs) (fun x hx => h1 x (List.mem_cons_of_mem _ hx)) (fun x c' hx => by
    rw [List.lookup_cons] at hx;cases q : x == n with
    | true => rw [q] at hx; cases hx; rw [eq_of_beq q]; exact hc
    | false => rw [q] at hx; exact h2 x c' hx)
   refine ⟨cl, ?_, a, fun x hx => ?_, fun x ⟨c', hx⟩ => ?_⟩
   ·rw [List.forIn_cons];have : cellOf env n = pure c := by unfold cellOf; rw [hc]
    simp only [this, beq_self_eq_true, if_true];exact e
   ·rcases List.mem_cons.mp hx with z | z
    ·cases z; exact d _ ⟨c, by simp [List.lookup_cons]⟩
    ·exact b x z
   ·refine d x ?_;rw [List.lookup_cons];cases q : x == n with
    | true => exact ⟨c, rfl⟩
    | false => exact ⟨c', hx⟩
  ·obtain ⟨cl, e, a, b, d⟩ := Zjh r cs (fun x hx => h1 x (List.mem_cons_of_mem _ hx)) h2;have hb : (k == NameKind.free) = false := by simpa using hk
   refine ⟨cl, ?_, a, fun x hx => ?_, d⟩
   ·rw [List.forIn_cons];simp only [hb, Bool.false_eq_true, if_false];exact e
   ·rcases List.mem_cons.mp hx with z | z
    ·cases z; exact absurd rfl hk
    ·exact b x z
theorem Zo3 {scope : Scope} {env : Env} (h : ∀ x, (x, NameKind.free) ∈ scope.names -> ∃ c, env.cells.lookup x = some c) :
  ∃ cl, closureFor scope env = pure cl /\ (∀ x c, cl.lookup x = some c -> env.cells.lookup x = some c) /\ ∀ x, (x, NameKind.free) ∈ scope.names -> ∃ c, cl.lookup x = some c := by
 obtain ⟨cl, e, a, b, _⟩ := Zjh scope.names [] h (fun x c z => nomatch z);refine ⟨cl, ?_, a, b⟩;unfold closureFor;show (forIn scope.names [] _ >>= fun cs => pure cs) = pure cl;rw [show (forIn scope.names ([] : List (Str × Addr)) _ : Sem _) = pure cl from e];rfl
theorem Zei {env : Env} {x : Str} : ∀ {names : List (Str × NameKind)} {k : NameKind}, (names.map fun (n, k) => if (k == NameKind.free && env.scope.kind == .function && env.kindOf n == some .cell) then (n, NameKind.cell) else (n, k)).lookup x = some k ->
  (x, k) ∈ names \/ (k = NameKind.cell /\ (x, NameKind.free) ∈ names)
 | [], _, h => by simp at h
 | (n, k') :: r, k, h => by
  have ih := @Zei env x r k;have h' : List.lookup x ((if (k' == NameKind.free && env.scope.kind == .function && env.kindOf n == some .cell) = true then (n, NameKind.cell) else (n, k')) :: (r.map fun (n, k) => if (k == NameKind.free && env.scope.kind == .function && env.kindOf n == some .cell) then (n, NameKind.cell) else (n, k))) = some k := h
  by_cases hc : (k' == NameKind.free && env.scope.kind == .function && env.kindOf n == some .cell) = true
  ·rw [if_pos hc, List.lookup_cons] at h';cases q : x == n with
   | true =>
    rw [q] at h';have e : NameKind.cell = k := Option.some.inj h';have ek : k' = NameKind.free := by
     have := (Bool.and_eq_true _ _ ▸ (Bool.and_eq_true _ _ ▸ hc).1).1;exact eq_of_beq this
    have ex : x = n := eq_of_beq q;subst ek ex;exact .inr ⟨e.symm, List.mem_cons_self⟩
   | false =>
    rw [q] at h';rcases ih h' with z | ⟨z1, z2⟩
    ·exact .inl (List.mem_cons_of_mem _ z)
    ·exact .inr ⟨z1, List.mem_cons_of_mem _ z2⟩
  ·rw [if_neg hc, List.lookup_cons] at h';cases q : x == n with
   | true =>
    rw [q] at h';have e : k' = k := Option.some.inj h';have ex : x = n := eq_of_beq q;subst e ex;exact .inl List.mem_cons_self
   | false =>
    rw [q] at h';rcases ih h' with z | ⟨z1, z2⟩
    ·exact .inl (List.mem_cons_of_mem _ z)
    ·exact .inr ⟨z1, List.mem_cons_of_mem _ z2⟩
theorem Zio {prog : Program} {w : World} {A : Around} {R : Result -> Shared -> Prop} {s : Shared} {elt target iter : Expr} {ifs : List Expr} {scope : Scope} {pos : Pos} {it acc : Value} {env : Env} (I : Nat -> Shared -> Prop)
  (turn : ∀ n s, I n s -> wpAny (model prog w) A (pyNext it) (fun r s₁ => match r with
   | none => R (.ok .next) s₁
   | some v => wpAny (model prog w) A (letOwnedTupleGo target it v) (fun _ s₀ => wpAny (model prog w) A (assign target env v) (fun _ s₂ =>
     wpAny (model prog w) A (forIn ifs true fun c r => if r = true then do let ok <- isTrue c env (eval c env); pure (ForInStep.yield ok) else pure (ForInStep.yield r)) (fun ok s₃ =>
      if ok = true then wpAny (model prog w) A (eval elt env) (fun x s₄ =>
       wpAny (model prog w) A (call (.builtin "list.append") [acc, x]) (fun _ s₅ => ∃ m, m < n /\ I m s₅) (fun _ _ => False) s₄) (fun _ _ => False) s₃
      else ∃ m, m < n /\ I m s₃) (fun _ _ => False) s₂) (fun _ _ => False) s₀) (fun _ _ => False) s₁) (fun _ _ => False) s)
  (n : Nat) (h : I n s) :
  codeAny (model prog w) A (.compLoop (.ListComp elt [⟨target, iter, ifs, 0⟩] scope pos) 0 it acc env) R s := by
 refine codeAny_loop rfl I (fun n s hI => ?_) n h;show wpAny _ A ((compTurn (.ListComp elt [⟨target, iter, ifs, 0⟩] scope pos) 0 it acc env).onRaise (fun x => do noteFrame x env; theTreesLotGoes x)) _ _ s;refine wpAny_noted (wpAny_noRaise ?_);rw [compTurn_list];refine wpAny_bind (wpAny_standAt (wpAny_bind (wpAny_mono (turn n s hI) (fun r s₁ h₁ => ?_) fun _ _ h' => h')));cases r with
 | none => exact wpAny_pure h₁
 | some v =>
  refine wpAny_bind (wpAny_mono h₁ (fun _ s₀ h₀ => ?_) fun _ _ h' => h');refine wpAny_bind (wpAny_mono h₀ (fun _ s₂ h₂ => wpAny_bind (wpAny_mono h₂ (fun ok s₃ h₃ => ?_) fun _ _ h' => h')) fun _ _ h' => h');cases ok with
  | false => exact wpAny_pure ⟨rfl, h₃⟩
  | true =>
   exact wpAny_bind (wpAny_bind (wpAny_mono h₃ (fun x s₄ h₄ => wpAny_bind (wpAny_mono h₄ (fun _ s₅ h₅ => wpAny_pure (wpAny_pure ⟨rfl, h₅⟩)) fun _ _ h' => h')) fun _ _ h' => h'))
def cxComp (X : Cx) (N' : List Str) (scope : Scope) (cl : List (Str × Addr)) (C : Addr) (s : Shared) (H : Hp) (ex : List Addr) : Cx :=
 { X with N := N', s₀ := s, H₀ := H, env := compEnvC scope cl C X.env, outer := X.stack, ex := ex, fn := fun _ => false, pn := [], xe := fun _ _ => False }
def capSt (caps : List (Option Nat)) (σ : St) : St := caps.map fun o => o.bind fun j => (σ[j]?).join
def Zq8 (N N' : List Str) (scope : Scope) (caps : List (Option Nat)) : Prop :=
 caps.length = N'.length /\ ∀ (i j : Nat) (x : Str), N'[i]? = some x -> caps[i]? = some (some j) -> N[j]? = some x /\ (x, NameKind.free) ∈ scope.names /\ ∀ k, (x, k) ∈ scope.names -> k = NameKind.free
structure Zez (X : Cx) (N' : List Str) (scope : Scope) (caps : List (Option Nat)) : Prop where
 kind : scope.kind = .function
 nocell : ∀ y ∈ scope.names, y.2 ≠ .cell
 locs : ∀ y ∈ scope.names, y.2 = .local -> scope.names.lookup y.1 = some .local
 cap : Zq8 X.N N' scope caps
 vis : ∀ x, (x, NameKind.free) ∈ scope.names -> X.env.kindOf x = some .cell \/ X.env.kindOf x = some .free
def Zss : TT := fun _ H Q => Q true H
def Zga (caps : List (Option Nat)) (g : TG) (tc : TT) (te : TE) (σ : St) (Q : VK) (J : It) (H1 : Hp) : Prop :=
 ∃ W : Nat -> Nat -> List V -> St -> Hp -> Prop, (∃ m, W 0 m [] (capSt caps σ) H1) /\ ∀ i m ys σ' H, W i m ys σ' H ->
  (J.stop i H /\ ys.length <= sizeLine /\ ∀ p, H p = none -> Q (.ref p) (upd H p (.lst ys))) \/
  (J.go i H /\ ys.length < sizeLine /\ ∃ N : List V -> St -> Hp -> Prop, (∀ ys σ H, N ys σ H -> ∃ m', m' < m /\ W (i + 1) m' ys σ H) /\ ∀ x H', J.yld i H x H' -> g x σ' H' fun σ2 H2 => tc σ2 H2 fun b H3 =>
   if b = true then te σ2 H3 fun y H4 => N (ys ++ [y]) σ2 H4 else N ys σ2 H3)
def Zpr (caps : List (Option Nat)) (wi : TI) (g : TG) (tc : TT) (te : TE) : TE := fun σ H Q => wi σ H fun J H1 => Zga caps g tc te σ Q J H1
def PIfs (X : Cx) (ifs : List Expr) (t : TT) : Prop :=
 ∀ (pins : List (Addr × Obj)) (s : Shared) (σ : St) (H : Hp) (Q : Bool -> Hp -> Prop), Inv X pins σ H s -> t σ H Q ->
  wpAny (model X.prog X.w) X.A (forIn ifs true fun c r => if r = true then do let ok <- isTrue c X.env (eval c X.env); pure (ForInStep.yield ok) else pure (ForInStep.yield r)) (TP X pins σ Q) X.xe s
theorem Zdu {X : Cx} : PIfs X [] Zss := fun _ _ _ H _ I h => wpAny_tests_nil ⟨H, I, h⟩
section
variable {X : Cx} {elt tg iter : Expr} {ifs : List Expr} {scope : Scope} {pos : Pos} {N' : List Str} {caps : List (Option Nat)} {wi : TI} {g : TG} {tc : TT} {te : TE}
def lstO (its : List Value) (n : Nat) : Obj := { cls := .type "list", data := .seq its.toArray n }
theorem Znf {pins : List (Addr × Obj)} {s2 : Shared} {σ : St} {H2 : Hp} {J : It} {it : Addr} {fp : List Addr} {tn : Nat -> Heap -> Prop} {cl : List (Str × Addr)} {Q : VK} {RR : Value -> Addr -> Result -> Shared -> Prop}
  (S : Zez X N' scope caps) (hc : X.calm = true)
  (hcl1 : ∀ x c, cl.lookup x = some c -> X.env.cells.lookup x = some c) (hcl2 : ∀ x, (x, NameKind.free) ∈ scope.names -> ∃ c, cl.lookup x = some c)
  (hg : ∀ cl C s H ex, PG (cxComp X N' scope cl C s H ex) tg g) (ht : ∀ C, PIfs (cxComp X N' scope cl C s2 H2 fp) ifs tc) (he : ∀ cl C s H ex, PE (cxComp X N' scope cl C s H ex) elt te)
  (I : Inv X pins σ H2 s2) (T : Zpa X.prog X.w X.K tg J fp it tn) (st : tn 0 s2.heap) (f2 : ∀ b ∈ fp, FpOk X pins H2 b)
  (W : Nat -> Nat -> List V -> St -> Hp -> Prop) (w0 : ∃ m, W 0 m [] (capSt caps σ) H2)
  (turn : ∀ i m ys σ' H, W i m ys σ' H -> (J.stop i H /\ ys.length <= sizeLine /\ ∀ p, H p = none -> Q (.ref p) (upd H p (.lst ys))) \/
   (J.go i H /\ ys.length < sizeLine /\ ∃ N : List V -> St -> Hp -> Prop, (∀ ys σ H, N ys σ H -> ∃ m', m' < m /\ W (i + 1) m' ys σ H) /\ ∀ x H', J.yld i H x H' -> g x σ' H' fun σ2 H2 => tc σ2 H2 fun b H3 =>
    if b = true then te σ2 H3 fun y H4 => N (ys ++ [y]) σ2 H4 else N ys σ2 H3))
  (hRR : ∀ D C oC m s' H', Inv X (pins ++ [(C, oC)]) σ H' s' -> s'.heap.Ns C m -> Q (.ref D) H' -> X.s₀.heap.objs.size <= C -> (∀ x c, X.env.cells.lookup x = some c -> c ≠ C) -> (∀ p ∈ X.pn ++ pins, p.1 ≠ C) -> s'.heap.get? C = some oC ->
   RR (.ref D) C (.ok .next) s') {E : Value -> Shared -> Prop} :
  wpAny (model X.prog X.w) X.A (newList []) (fun acc s₃ => wpAny (model X.prog X.w) X.A (newFunctionEnv scope X.env.globals cl [] X.env.qual none .none (some X.env)) (fun cenv s₄ =>
   codeAny (model X.prog X.w) X.A (.compStart (.ListComp elt [⟨tg, iter, ifs, 0⟩] scope pos) 0 (.ref it) acc { cenv with scope := relabel scope X.env }) (RR acc cenv.locals) s₄) E s₃) E s2 := by
 refine wpAny_newObj_type (wpAny_newFunctionEnv S.nocell (by intro y hy; simp at hy) (fun h₁ hns₁ hsb₁ => ?_) S.kind);dsimp only at hns₁ hsb₁ ⊢;generalize hH2 : s2.heap.push { cls := .type "list", dict := none, data := .seq ([] : List Value).toArray } = HP at hns₁ hsb₁ ⊢;have hC : HP.objs.size = s2.heap.objs.size + 1 := by rw [<- hH2, Heap.size_push]
 generalize hCC : HP.objs.size = C at hns₁ hsb₁ hC ⊢;have hDC : s2.heap.objs.size ≠ C := by rw [hC]; exact Nat.ne_of_lt (Nat.lt_succ_self _)
 have belowC : ∀ b, b < s2.heap.objs.size -> b ≠ C := fun b hb => by rw [hC]; exact Nat.ne_of_lt (Nat.lt_succ_of_lt hb)
 have old : ∀ b o, s2.heap.get? b = some o -> h₁.get? b = some o := fun b o e => hsb₁.extBut b o (belowC b (Heap.lt_size e)) (Heap.get?_push_of_some _ (hH2 ▸ Heap.get?_push_of_some _ e))
 have hacc : h₁.get? s2.heap.objs.size = some (lstO [] 0) := hsb₁.extBut _ _ hDC (Heap.get?_push_of_some _ (hH2 ▸ Heap.get?_push_size _ rfl));have fpLt : ∀ b ∈ fp, b < s2.heap.objs.size := fun b hb => by obtain ⟨o, e, _⟩ := T.obj _ _ st b hb; exact Heap.lt_size e
 have st₁ : tn 0 h₁ := T.keep _ _ _ st fun b _ o e => old b o e
 have sz : X.s₀.heap.objs.size <= s2.heap.objs.size := I.sz;have cellLt : ∀ x c, X.env.cells.lookup x = some c -> c < s2.heap.objs.size := fun x c e => by obtain ⟨v, q⟩ := I.cell x c e; exact q.lt
 have okX : (cxComp X N' scope cl C s2 H2 fp).Ok := by
  refine ⟨I.ok.mod, S.kind, I.ok.glob, I.ok.blt, by show s2.heap.objs.size <= C; rw [hC]; exact Nat.le_succ _, fun x y c a b => I.ok.inj x y c (hcl1 x c a) (hcl1 y c b), fun x hx => ?_, (fun x c z => by cases z), I.ok.hd, I.ok.frames, .inl rfl,
   fun b hb => ⟨belowC b (fpLt b hb), fun x c e => (f2 b hb).2.2.2.2.1 x c (hcl1 x c e)⟩, I.bs, Nat.le_trans I.ok.bsz sz, fun b o e hb => ?_, fun b hb z => ?_, I.stack, I.stkFree⟩
  ·have key : ∀ k, (k = NameKind.cell \/ k = NameKind.free) -> (relabel scope X.env).names.lookup x = some k -> ∃ c, cl.lookup x = some c := fun k hk hx => by
    rcases Zei hx with z | ⟨_, z⟩
    ·rcases hk with rfl | rfl
     ·exact absurd rfl (S.nocell _ z)
     ·exact hcl2 x z
    ·exact hcl2 x z
   rcases hx with hx | hx
   ·exact key _ (.inl rfl) hx
   ·exact key _ (.inr rfl) hx
  ·rcases (f2 b hb).2.2.2.1 with z | z
   ·exact I.ok.noex b o e z
   ·exact absurd (Nat.lt_of_lt_of_le (Heap.lt_size (I.ok.bs b o e).1) z) (Nat.lt_irrefl _)
  ·rcases List.mem_cons.mp (I.stkSub b z) with y | y
   ·exact (f2 b hb).2.1 y
   ·exact (f2 b hb).2.2.1 y
 have freshC : ∀ b, s2.heap.objs.size <= b -> H2 b = none := fun b hb => I.hok.fresh hb
 have capI : Inv (cxComp X N' scope cl C s2 H2 fp) [(s2.heap.objs.size, lstO [] 0)] (capSt caps σ) H2 { s2 with heap := h₁, toks := s2.toks + ([] : List (Str × Value)).length } := by
  refine ⟨okX, rfl, I.bare, Un.kept old, ⟨_, hns₁, fun i x v e1 e2 e3 => ?_⟩, fun x c e => ?_, freshC C (by rw [hC]; exact Nat.le_succ _), fun x c e => I.freeC x c (hcl1 x c e), fun p hp => ?_, I.hok.kept old, ?_⟩
  ·have e2' : (caps[i]?).map (fun o => o.bind fun j => (σ[j]?).join) = some (some v) := by
    unfold capSt at e2; rw [List.getElem?_map] at e2; exact e2
   cases q : caps[i]? with
   | none => rw [q] at e2'; cases e2'
   | some o =>
    rw [q] at e2';cases o with
    | none => cases e2'
    | some j =>
     have hv : (σ[j]?).join = some v := Option.some.inj e2';obtain ⟨hN, hfr, honly⟩ := S.cap.2 i j x e1 q;have hσ : σ[j]? = some (some v) := by
      cases r : σ[j]? with
      | none => rw [r] at hv; cases hv
      | some o => rw [r] at hv; rw [<- hv]; rfl
     obtain ⟨m, hn, hl⟩ := I.loc;have hkx := S.vis x hfr;obtain ⟨u, ru, lk⟩ := hl j x v hN hσ (by rcases hkx with z | z; exact .inr (.inl z); exact .inr (.inr z));refine ⟨u, ru, .inr ?_⟩;obtain ⟨c, hc'⟩ := hcl2 x hfr;have hcx := hcl1 x c hc';rcases lk with ⟨z, _⟩ | ⟨_, c', hc2, hcell⟩
     ·rcases hkx with y | y <;> rw [y] at z <;> cases z
     ·rw [hcx] at hc2; cases hc2;have hcell' : h₁.IsCell c (some u) := by
       obtain ⟨oc, q1, q2⟩ := hcell;exact ⟨oc, old c oc q1, q2⟩
      refine ⟨?_, c, hc', hcell'⟩;rcases e3 with z | z | z
      ·rcases Zei z with y | ⟨y, _⟩
       ·have := honly _ y; cases this
       ·cases y
      ·exact .inl z
      ·exact .inr z
  ·obtain ⟨v, oc, q1, q2⟩ := I.cell x c (hcl1 x c e);exact ⟨v, oc, old c oc q1, q2⟩
  ·have e : p = (s2.heap.objs.size, lstO [] 0) := by simpa [cxComp] using hp
   subst e;refine ⟨hacc, freshC _ (Nat.le_refl _), hDC, fun z => ?_, fun v z => by cases z⟩;exact absurd (show s2.heap.objs.size < s2.heap.objs.size from by
    rcases List.mem_cons.mp (I.stkSub _ z) with y | y
    ·exact absurd (I.lt) (by rw [<- y]; exact Nat.lt_irrefl _)
    ·exact absurd y (I.nofs (Nat.le_refl _))) (Nat.lt_irrefl _)
  ·unfold capSt; rw [List.length_map]; exact S.cap.1
 generalize hX' : cxComp X N' scope cl C s2 H2 fp = X' at okX capI;have ePr : X'.prog = X.prog := by rw [<- hX']; rfl
 have eW : X'.w = X.w := by rw [<- hX']; rfl
 have eK : X'.K = X.K := by rw [<- hX']; rfl
 have eA : X'.A = X.A := by rw [<- hX']; rfl
 have eEnv : X'.env = compEnvC scope cl C X.env := by rw [<- hX']; rfl
 have eXe : X'.xe = fun _ _ => False := by rw [<- hX']; rfl
 have eCalm : X'.calm = true := by rw [<- hX']; exact hc
 have eLoc : X'.env.locals = C := by rw [eEnv]; rfl
 have eS0 : X'.s₀ = s2 := by rw [<- hX']; rfl
 have eEx : X'.ex = fp := by rw [<- hX']; rfl
 have eFs : X'.fs = frs X.stack := by rw [<- hX']; rfl
 have eCells : X'.env.cells = cl := by rw [eEnv]; rfl
 have ePn : X'.pn = [] := by rw [<- hX']; rfl
 have eH0 : X'.H₀ = H2 := by rw [<- hX']; rfl
 have hgX : PG X' tg g := hX' ▸ hg cl C s2 H2 fp;have htX : PIfs X' ifs tc := hX' ▸ ht C;have heX : PE X' elt te := hX' ▸ he cl C s2 H2 fp;obtain ⟨m0, w0⟩ := w0;have nDfs : s2.heap.objs.size ∉ X'.fs := fun z => by
  rw [eFs] at z;rcases List.mem_cons.mp (I.stkSub _ z) with y | y
  ·exact absurd (I.lt) (by rw [<- y]; exact Nat.lt_irrefl _)
  ·exact absurd y (I.nofs (Nat.le_refl _))
 have fpX : ∀ {H' : Hp} {its : List Value} {n : Nat}, (∀ b ∈ fp, H' b = none) -> ∀ b ∈ fp, FpOk X' [(s2.heap.objs.size, lstO its n)] H' b := fun {H' its n} hn b hb => by
  refine ⟨hn b hb, by rw [eLoc]; exact belowC b (fpLt b hb), fun z => ?_, .inl (by rw [eEx]; exact hb), fun x c e => ?_, fun p hp z => ?_⟩
  ·rw [eFs] at z;rcases List.mem_cons.mp (I.stkSub b z) with y | y
   ·exact (f2 b hb).2.1 y
   ·exact (f2 b hb).2.2.1 y
  ·rw [eCells] at e; exact (f2 b hb).2.2.2.2.1 x c (hcl1 x c e)
  ·rw [ePn] at hp;have e : p = (s2.heap.objs.size, lstO its n) := by simpa using hp
   subst e;exact absurd (fpLt b hb) (by rw [<- z]; exact Nat.lt_irrefl _)
 have loop : ∀ s₃ : Shared, s₃ = { s2 with heap := h₁, toks := s2.toks + ([] : List (Str × Value)).length } ->
   codeAny (model X.prog X.w) X.A (.compLoop (.ListComp elt [⟨tg, iter, ifs, 0⟩] scope pos) 0 (.ref it) (.ref s2.heap.objs.size) (compEnvC scope cl C X.env)) (RR (.ref s2.heap.objs.size) C) s₃ := by
  rintro s₃ rfl;rw [<- eEnv, <- eA];refine Zio (fun n s' => ∃ i ys its k σ' H', Inv X' [(s2.heap.objs.size, lstO its k)] σ' H' s' /\ tn i s'.heap /\ (∀ b ∈ fp, H' b = none) /\ Vals ys its /\ W i n ys σ' H') ?_ m0
   ⟨0, [], [], 0, capSt caps σ, H2, capI, st₁, fun b hb => (f2 b hb).1, .nil, w0⟩
  rintro n s' ⟨i, ys, its, k, σ', H', I', st', fr', rv', w'⟩;rcases turn i n ys σ' H' w' with ⟨stop, hsz, q⟩ | ⟨go, hsz, NN, hNN, step⟩
  ·refine thn (T.done X' ePr eW eK eCalm i _ s' σ' H' (fun _ _ => False) I' (fpX fr') st' stop) fun r s4 ⟨hr, I4⟩ => ?_
   subst hr;have pinD := (I4.pin (s2.heap.objs.size, lstO its k) (by rw [ePn]; simp)).1;have freeD := (I4.pin (s2.heap.objs.size, lstO its k) (by rw [ePn]; simp)).2.1;have hq := q s2.heap.objs.size freeD;obtain ⟨mC, hnC, _⟩ := id I4.loc;rw [eLoc] at hnC;obtain ⟨oC, es, ep, hoC, hdC, _⟩ := id hnC;have freeC' : H' C = none := by have := I4.free; rw [eLoc] at this; exact this
   have base4 := I4.base;rw [eS0, eEx, eFs, eH0] at base4;have neD : ∀ b o, s2.heap.get? b = some o -> b ≠ s2.heap.objs.size := fun b o e => Nat.ne_of_lt (Heap.lt_size e)
   have neDH : ∀ b o, H2 b = some o -> b ≠ s2.heap.objs.size := fun b o e => Nat.ne_of_lt (I.hok.lt e)
   have un4 : Un (frs X.stack) fp H2 (upd H' s2.heap.objs.size (.lst ys)) s2.heap s4.heap :=
    ⟨base4.keep, base4.slot, fun b o e n hx => by rw [Zao (neD b o e)]; exact base4.free b o e n hx, base4.there, fun b xs e => by rw [Zao (neDH b _ e)]; exact base4.tups b xs e,
     fun b o u e => by rw [Zao (neDH b _ e)]; exact base4.frzs b o u e, fun b ps e => by rw [Zao (neDH b _ e)]; exact base4.tbls b ps e⟩
   have hok4 : HOk X.prog X.w (upd H' s2.heap.objs.size (.lst ys)) s4.heap := by
    have h4 := I4.hok;rw [ePr, eW] at h4;intro b u e
    by_cases hb : b = s2.heap.objs.size
    ·subst hb;rw [Zal] at e; cases e;exact ⟨hsz, its, k, rv', pinD⟩
    ·rw [Zao hb] at e;refine (h4 b u e).stay (fun c v _ z => z) (fun c z => ?_) (fun c xs z => ?_)
     ·rw [Zao]; exact z;intro zz; rw [zz, freeD] at z; cases z
     ·rw [Zao]; exact z;intro zz; rw [zz, freeD] at z; cases z
   have os4 : s4.os = s2.os := by have := I4.os; rw [eS0] at this; exact this
   have J4 : Inv X pins σ (upd H' s2.heap.objs.size (.lst ys)) s4 := I.call' (ch := fp) os4 un4 hok4 I4.bare fun b hb => ⟨(f2 b hb).2.2.2.1, (f2 b hb).2.1, (f2 b hb).2.2.2.2.1, (f2 b hb).2.2.2.2.2⟩
   have hCle : X.s₀.heap.objs.size <= C := by rw [hC]; exact Nat.le_succ_of_le sz
   have hCcell : ∀ x c, X.env.cells.lookup x = some c -> c ≠ C := fun x c e => belowC c (cellLt x c e)
   have hCpin : ∀ p ∈ X.pn ++ pins, p.1 ≠ C := fun p hp => belowC p.1 (Heap.lt_size (I.pin p hp).1)
   have hCl : C ≠ X.env.locals := fun z => absurd I.lt (by rw [<- z, hC]; exact Nat.not_lt.mpr (Nat.le_succ _))
   refine hRR s2.heap.objs.size C oC mC s4 _ (J4.pins_of fun p hp => ?_) hnC hq hCle hCcell hCpin hoC;rcases List.mem_append.mp hp with z | z
   ·exact J4.pin p (List.mem_append_right _ z)
   ·have e : p = (C, oC) := by simpa using z
    subst e;refine ⟨hoC, by rw [Zao (Ne.symm hDC)]; exact freeC', hCl, fun z => ?_, fun v z => by rw [hdC] at z; cases z⟩;exact I.nofs (by rw [hC]; exact Nat.le_succ _) z
  ·refine thn (T.item X' ePr eW eK eCalm i _ s' σ' H' (fun _ _ => False) I' (fpX fr') st' go) fun r s4 ⟨u, hr, h4⟩ => ?_
   subst hr;refine thn h4 fun _ s5 ⟨x, H5, I5, r5, y5, st5, fr5⟩ => ?_
   have I5' := I5.pinned (fpX fr5) (T.obj _ _ st5);have xeF : ∀ {α : Type} {t : Sem α} {Q : α -> Shared -> Prop} {s : Shared}, wpAny (model X.prog X.w) X'.A t Q X'.xe s -> wpAny (model X.prog X.w) X'.A t Q (fun _ _ => False) s := fun h => by rw [eXe] at h; exact h
   have ag := hgX _ s5 σ' H5 x u _ I5' r5 (step x H5 y5);rw [ePr, eW] at ag;refine thn (xeF ag) fun _ s6 ⟨σ6, H6, I6, q6⟩ => ?_
   have at' := htX _ s6 σ6 H6 _ I6 q6;rw [ePr, eW] at at';refine thn (xeF at') fun b s7 ⟨H7, I7, q7⟩ => ?_
   -- what the pins say behind the turn
   have back : ∀ {s8 : Shared} {H8 : Hp}, Inv X' ([(s2.heap.objs.size, lstO its k)] ++ Zie fp s5.heap) σ6 H8 s8 -> tn (i + 1) s8.heap /\ (∀ b ∈ fp, H8 b = none) /\ Inv X' [(s2.heap.objs.size, lstO its k)] σ6 H8 s8 := fun {s8 H8} I8 => by
    refine ⟨T.keep _ _ _ st5 fun b hb o e => (I8.pin (b, o) (List.mem_append_right _ (List.mem_append_right _ (Zd8 hb e)))).1, fun b hb => ?_, I8.unpinned⟩;obtain ⟨o, e, d⟩ := T.obj _ _ st5 b hb;exact (I8.pin (b, o) (List.mem_append_right _ (List.mem_append_right _ (Zd8 hb e)))).2.1
   cases b with
   | false =>
    simp only [Bool.false_eq_true, if_false] at q7 ⊢;obtain ⟨m', hm, w7⟩ := hNN _ _ _ q7;obtain ⟨t7, f7, I7'⟩ := back I7;exact ⟨m', hm, i + 1, ys, its, k, σ6, H7, I7', t7, f7, rv', w7⟩
   | true =>
    simp only [if_true] at q7 ⊢;have ae := heX _ s7 σ6 H7 _ I7 q7;rw [ePr, eW] at ae;refine thn (xeF ae) fun y s8 ⟨yv, H8, I8, r8, n8⟩ => ?_
    obtain ⟨m', hm, w8⟩ := hNN _ _ _ n8;obtain ⟨t8, f8, I8'⟩ := back I8;have pinD := I8'.pin (s2.heap.objs.size, lstO its k) (by rw [ePn]; simp);have hlen := rv'.length;refine append_at (its := its.toArray) (n := k) (hsz := by rw [List.size_toArray, <- hlen]; exact Nat.le_of_lt hsz) pinD.1 fun h9 hs9 hD9 => ?_
    have I9 : Inv X' [] σ6 H8 { s8 with heap := h9, toks := s8.toks } := by
     refine (I8'.pins_of (pins' := []) fun p hp => by simp at hp).turned (it := s2.heap.objs.size) (fun b o hb e => (hs9.2 b hb).trans e) pinD.2.1 (by rw [eLoc]; exact hDC) (.inr (by rw [eS0]; exact Nat.le_refl _)) (fun x c e => ?_) fun p hp => ?_
     ·rw [eCells] at e; exact Nat.ne_of_lt (cellLt x c (hcl1 x c e))
     ·rw [ePn] at hp; simp at hp
    have ePush : ({ cls := .type "list", data := .seq (its.toArray.push y) (k + 1) } : Obj) = lstO (its ++ [y]) (k + 1) := by unfold lstO; rw [List.push_toArray]
    rw [ePush] at hD9;refine ⟨m', hm, i + 1, ys ++ [yv], its ++ [y], k + 1, σ6, H8, ?_, T.keep _ _ _ t8 fun b hb o e => (hs9.2 b (Nat.ne_of_lt (fpLt b hb))).trans e, f8, rv'.append (.cons r8 .nil), w8⟩;refine I9.pins_of fun p hp => ?_
    have e : p = (s2.heap.objs.size, lstO (its ++ [y]) (k + 1)) := by simpa using hp
    subst e;exact ⟨hD9, pinD.2.1, by rw [eLoc]; exact hDC, nDfs, fun v z => by cases z⟩
 exact codeAny_compStart_list (loop _ rfl) (T.self _ 0 _ _ _ st₁ (loop _ rfl))
end
end L2
set_option Elab.async false
set_option linter.all false
set_option maxRecDepth 100000
set_option maxHeartbeats 4000000
namespace L2
open PySem PySem.Spec PyProof.Rows
section
variable {X : Cx} {elt tg iter : Expr} {ifs : List Expr} {scope : Scope} {pos : Pos} {N' : List Str} {caps : List (Option Nat)} {wi : TI} {g : TG} {tc : TT} {te : TE}
theorem Inv.cellsOf {pins : List (Addr × Obj)} {σ : St} {H : Hp} {s : Shared} (I : Inv X pins σ H s) (S : Zez X N' scope caps) : ∀ x, (x, NameKind.free) ∈ scope.names -> ∃ c, X.env.cells.lookup x = some c :=
 fun x hx => I.ok.has x (S.vis x hx)
theorem Zdv (S : Zez X N' scope caps) (hc : X.calm = true) (hi : PI X tg iter wi)
  (hg : ∀ cl C s H ex, PG (cxComp X N' scope cl C s H ex) tg g) (ht : ∀ cl C s H ex, PIfs (cxComp X N' scope cl C s H ex) ifs tc) (he : ∀ cl C s H ex, PE (cxComp X N' scope cl C s H ex) elt te)
  (hs : ∀ x, foldedSetIterable iter X.env x = pure x := by intro _; rfl) : PE X (.ListComp elt [⟨tg, iter, ifs, 0⟩] scope pos) (Zpr caps wi g tc te) := by
 intro pins s σ H Q I h;obtain ⟨cl, ecl, hcl1, hcl2⟩ := Zo3 (I.cellsOf S);rw [eval_ListComp];refine wpAny_comprehension_free (use := none) rfl hs ecl S.kind S.locs (thn (hi pins s σ H _ I h) fun v s1 h1 => thn h1 fun itv s2 h2 => ?_);obtain ⟨it, fp, tn, J, H2, e, I2, T, st2, f2, W, w0, turn⟩ := h2;subst e;refine Znf S hc hcl1 hcl2 hg (fun C => ht _ C _ _ _) he I2 T st2 f2 W w0 turn fun D C oC m s' H' I' hn q hC hcell hpin hoC => ?_
 refine ⟨m, hn, fun h' hs' => ⟨.ref D, H', ?_, rfl, q⟩⟩;have pC := I'.pin (C, oC) (List.mem_append_right _ (List.mem_append_right _ (by simp)));exact (I'.pins_of (pins' := pins) fun p hp => I'.pin p (List.mem_append_right _ (List.mem_append_left _ hp))).turned (t' := s'.toks) (it := C) (fun b o hb e => (hs'.2 b hb).trans e) pC.2.1 pC.2.2.1 (.inr hC) hcell hpin
theorem Zin {K : PySem.W.Frag} {a : Addr} {xs : List V} {σ : St} {H1 : Hp} {Q : VK} (Pv : Nat -> List V -> St -> Hp -> Prop) (h0 : Pv 0 [] (capSt caps σ) H1) (hl : ∀ i ys σ H, Pv i ys σ H -> i <= xs.length -> SqL K H a xs /\ ys.length <= i) (hz : xs.length <= sizeLine)
  (hs : ∀ i x ys σ H, xs[i]? = some x -> Pv i ys σ H -> g x σ H fun σ2 H2 => tc σ2 H2 fun b H3 => if b = true then te σ2 H3 fun y H4 => Pv (i + 1) (ys ++ [y]) σ2 H4 else Pv (i + 1) ys σ2 H3)
  (hd : ∀ ys σ H, Pv xs.length ys σ H -> ∀ p, H p = none -> Q (.ref p) (upd H p (.lst ys))) :
  Zga caps g tc te σ Q (Itl K a) H1 := by
 refine ⟨fun i m ys σ H => m = xs.length - i /\ i <= xs.length /\ Pv i ys σ H, ⟨xs.length, by simp, Nat.zero_le _, h0⟩, ?_⟩;rintro i m ys σ H ⟨rfl, hi, p⟩;obtain ⟨q, hy⟩ := hl i ys σ H p hi
 by_cases hlt : i < xs.length
 ·refine .inr ⟨⟨xs, xs[i], q, by simp [hlt]⟩, by omega, Pv (i + 1), fun ys' σ' H' p' => ⟨xs.length - (i + 1), by omega, rfl, hlt, p'⟩, fun x H' y => ?_⟩;obtain ⟨e, y⟩ := y;subst e;exact hs i x ys σ _ (y xs q) p
 ·have e : i = xs.length := by omega
  subst e;exact .inl ⟨⟨xs, q, Nat.le_refl _⟩, by omega, hd ys σ H p⟩
theorem Zkt {lo : Int} {n : Nat} {σ : St} {H1 : Hp} {Q : VK} (Pv : Nat -> List V -> St -> Hp -> Prop) (h0 : Pv 0 [] (capSt caps σ) H1) (hl : ∀ i ys σ H, Pv i ys σ H -> i <= n -> ys.length <= i) (hz : n <= sizeLine)
  (hs : ∀ i ys σ H, i < n -> Pv i ys σ H -> g (.int (lo + i)) σ H fun σ2 H2 => tc σ2 H2 fun b H3 => if b = true then te σ2 H3 fun y H4 => Pv (i + 1) (ys ++ [y]) σ2 H4 else Pv (i + 1) ys σ2 H3)
  (hd : ∀ ys σ H, Pv n ys σ H -> ∀ p, H p = none -> Q (.ref p) (upd H p (.lst ys))) :
  Zga caps g tc te σ Q (Itr lo n) H1 := by
 refine ⟨fun i m ys σ H => m = n - i /\ i <= n /\ Pv i ys σ H, ⟨n, by simp, Nat.zero_le _, h0⟩, ?_⟩;rintro i m ys σ H ⟨rfl, hi, p⟩;have hy := hl i ys σ H p hi
 by_cases hlt : i < n
 ·refine .inr ⟨hlt, by omega, Pv (i + 1), fun ys' σ' H' p' => ⟨n - (i + 1), by omega, rfl, hlt, p'⟩, fun x H' y => ?_⟩;obtain ⟨e, y⟩ := y;subst e y;exact hs i ys σ _ hlt p
 ·have e : i = n := by omega
  subst e;exact .inl ⟨Nat.le_refl _, by omega, hd ys σ H p⟩
end
end L2
set_option Elab.async false
set_option linter.all false
set_option maxRecDepth 100000
set_option maxHeartbeats 4000000
namespace L2
open PySem PySem.Spec PyProof.Rows
mutual
inductive Dp (K : PySem.W.Frag) (H : Hp) : V -> PyData -> Prop
 | non : Dp K H .non .none
 | bl (b : Bool) : Dp K H (.bl b) (.bool b)
 | int (i : Int) : Dp K H (.int i) (.int i)
 | str (x : Str) : Dp K H (.str x) (.str x)
 | lst {a : Addr} {xs : List V} {ds : List PyData} : SqL K H a xs -> DpAll K H xs ds -> Dp K H (.ref a) (.list ds)
 | tup {a : Addr} {xs : List V} {ds : List PyData} : SqT K H a xs -> DpAll K H xs ds -> Dp K H (.ref a) (.tuple ds)
inductive DpAll (K : PySem.W.Frag) (H : Hp) : List V -> List PyData -> Prop
 | nil : DpAll K H [] []
 | cons {x : V} {xs : List V} {d : PyData} {ds : List PyData} : Dp K H x d -> DpAll K H xs ds -> DpAll K H (x :: xs) (d :: ds)
end
theorem DpAll.ints {K : PySem.W.Frag} {H : Hp} : ∀ ns : List Int, DpAll K H (ns.map V.int) (ns.map PyData.int)
 | [] => .nil
 | _ :: r => .cons (.int _) (DpAll.ints r)
theorem Zdt (ns : List Int) : SeqAt.shaped (.list (ns.map PyData.int)) = true := by
 have h1 : ∀ ns : List Int, PyData.canLayAll0 (ns.map PyData.int) = true := fun ns => by
  induction ns with
  | nil => rfl
  | cons n r ih => simp [PyData.canLayAll0, PyData.canLay0, ih]
 have h2 : ∀ ns : List Int, PyData.depthAll (ns.map PyData.int) <= 2 := fun ns => by
  induction ns with
  | nil => simp [PyData.depthAll]
  | cons n r ih => simp [PyData.depthAll, PyData.depth]; omega
 have h3 := h2 ns;simp [SeqAt.shaped, PyData.canLay0, h1 ns, PyData.depth]; omega
section
variable {X : Cx} {pins : List (Addr × Obj)} {σ : St} {H : Hp} {s : Shared}
mutual
theorem Inv.reads (I : Inv X pins σ H s) : ∀ {x : V} {d : PyData} {u : Value}, Dp X.K H x d -> RelV x u -> ∃ as, Reads s.heap u d as
 | _, _, u, .non, r => by cases (show u = Value.none from r); exact ⟨_, .none⟩
 | _, _, u, .bl b, r => by cases (show u = Value.bool b from r); exact ⟨_, .bool b⟩
 | _, _, u, .int i, r => by obtain ⟨t, rfl⟩ := (show ∃ t, u = Value.int i t from r); exact ⟨_, .int i t⟩
 | _, _, u, .str x, r => by obtain ⟨t, rfl⟩ := (show ∃ t, u = Value.str x t from r); exact ⟨_, .str x t⟩
 | _, _, u, .lst (a := a) hl hd, r => by
  cases (show u = Value.ref a from r);obtain ⟨its, rv, ⟨o, n, e, hc, _, hdt⟩, hz⟩ := I.list hl;obtain ⟨as, ra⟩ := Inv.readsAll I hd rv;exact ⟨_, .list e hc hdt (by simpa using ra)⟩
 | _, _, u, .tup (a := a) hl hd, r => by
  cases (show u = Value.ref a from r);obtain ⟨its, rv, ⟨o, e, hc, n, hdt⟩, hz⟩ := I.tuple hl;obtain ⟨as, ra⟩ := Inv.readsAll I hd rv;exact ⟨_, .tuple e hc hdt (by simpa using ra)⟩
theorem Inv.readsAll (I : Inv X pins σ H s) : ∀ {xs : List V} {ds : List PyData} {us : List Value}, DpAll X.K H xs ds -> Vals xs us -> ∃ as, ReadsAll s.heap us ds as
 | _, _, _, .nil, r => by cases r; exact ⟨_, .nil⟩
 | _, _, _, .cons h t, r => by
  cases r with
  | cons r1 r2 =>
   obtain ⟨as, ra⟩ := Inv.reads I h r1;obtain ⟨bs, rb⟩ := Inv.readsAll I t r2;exact ⟨_, .cons ra rb⟩
end
end
def Zs4 (K : PySem.W.Frag) : R2 := fun x y H Q => ∃ d e, Dp K H x d /\ Dp K H y e /\ SeqAt.shaped d = true /\ SeqAt.shaped e = true /\ Q (.bl (PyData.eqv d e)) H
def Zs0 (K : PySem.W.Frag) : R2 := fun x y H Q => ∃ d e, Dp K H x d /\ Dp K H y e /\ SeqAt.shaped d = true /\ SeqAt.shaped e = true /\ Q (.bl (!PyData.eqv d e)) H
section
variable {X : Cx}
theorem Zqm (hu : X.A.units + 64 < cLine) : OpR X (compareOp .Eq) (Zs4 X.K) := by
 intro pins s σ H x y v u Q I rx ry h;obtain ⟨d, e, h1, h2, s1, s2, q⟩ := h;obtain ⟨as, ra⟩ := I.reads h1 rx;obtain ⟨bs, rb⟩ := I.reads h2 ry;exact eq_dataH ra rb s1 s2 hu (Za5 I q rfl)
theorem Zqj (hu : X.A.units + 64 < cLine) : OpR X (compareOp .NotEq) (Zs0 X.K) := by
 intro pins s σ H x y v u Q I rx ry h;obtain ⟨d, e, h1, h2, s1, s2, q⟩ := h;obtain ⟨as, ra⟩ := I.reads h1 rx;obtain ⟨bs, rb⟩ := I.reads h2 ry;exact ne_dataH ra rb s1 s2 hu (Za5 I q rfl)
def Zs2 : R2 := fun x y H Q => ∃ i j, x = .str i /\ y = .str j /\ Q (.bl (!decide (j.cps.toList < i.cps.toList))) H
theorem Zjw : OpR X (compareOp .LtE) Zs2 := by
 intro pins s σ H x y v u Q I rx ry h;obtain ⟨i, j, rfl, rfl, q⟩ := h;obtain ⟨t, rfl⟩ := rx;obtain ⟨t', rfl⟩ := ry;exact PySem.P.le_str (Za5 I q rfl)
theorem Zng (hc : X.calm = true) : CallR X (.builtin "all") (fun xs H Q => ∃ (p : Addr) (bs : List Bool), xs = [.ref p] /\ SqL X.K H p (bs.map V.bl) /\ Q (.bl (bs.all id)) H) := by
 intro pins s σ H xs us Q I r h;obtain ⟨p, bs, rfl, hq, q⟩ := h;obtain ⟨u, rfl, rx⟩ := Zg2 r;cases rx;obtain ⟨its, rv, pl, hz⟩ := I.list hq;have hh : X.A.in1.handled = none := I.ok.hd hc;have hl := pl.isList;have hlt : p < s.heap.objs.size := by obtain ⟨_, e, _⟩ := hl; exact Heap.lt_size e
 have hlen : bs.length = its.length := by have := rv.length; simpa using this
 refine call_all_walk (wpAny_pyIter_list hl ⟨s.heap.objs.size, _, _, _, _, _, fun i => bs.getD i false, rfl, Walks.list hh s.heap.objs.size p (Nat.ne_of_lt hlt) its.toArray, ⟨⟨_, Heap.get?_push_size _ rfl, rfl, rfl⟩, hl.push _⟩, ?_, ?_⟩)
 ·intro i v s' Q' E' hv hQ;have hv' : its[i]? = some v := by simpa using hv
  cases e : bs[i]? with
  | none =>
   have : its[i]? = none := by
    rw [List.getElem?_eq_none_iff] at e ⊢; omega
   rw [this] at hv'; cases hv'
  | some b =>
   obtain ⟨u, hu, ru⟩ := rv.get (i := i) (x := V.bl b) (by rw [List.getElem?_map, e]; rfl);rw [hv'] at hu; cases hu;cases (show v = Value.bool b from ru);have : bs.getD i false = b := by simp [List.getD, e]
   dsimp only at hQ;rw [this] at hQ;exact wpAny_truthy_bool hQ
 ·intro h' tk hk;have e : (List.range its.toArray.size).all (fun i => bs.getD i false) = bs.all id := by
   rw [List.size_toArray, <- hlen, Bool.eq_iff_iff, List.all_eq_true, List.all_eq_true];constructor
   ·intro h x hx;obtain ⟨i, hi, rfl⟩ := List.mem_iff_getElem.mp hx;have := h i (List.mem_range.mpr hi);simpa [List.getD, hi] using this
   ·intro h i hi;have hi' := List.mem_range.mp hi;have := h bs[i] (List.getElem_mem hi');simpa [List.getD, hi'] using this
  rw [e];exact ⟨.bl (bs.all id), H, I.kept (t' := tk) fun b o eo => hk b o (by simpa using Nat.ne_of_lt (Heap.lt_size eo)) (Heap.get?_push_of_some _ eo), rfl, q⟩
def Zsk : V -> Value
 | .ty n => .type n
 | .ref a => .ref a
 | _ => .none
def Zqz : V -> Bool
 | .ty _ => true
 | .ref _ => true
 | _ => false
def Ztj (K : PySem.W.Frag) : List V -> Hp -> VK -> Prop := fun xs H Q => ∃ x c t b, xs = [x, c] /\ Zka K H x t /\ Zqz c = true /\ PySem.W.kitOne K t (Zsk c) = some b /\ Q (.bl b) H
theorem Zj8 : CallR X (.builtin "isinstance") (Ztj X.K) := by
 intro pins s σ H xs us Q I r h;obtain ⟨x, c, t, b, rfl, ty, hc, e, q⟩ := h;obtain ⟨u, w', rfl, rx, rc⟩ := Zpc r;have hw : w' = Zsk c := by cases c <;> first | exact rc | cases hc
 subst hw;exact Zl3 I rx ty e fun tk => ⟨.bl b, H, I.tok tk, rfl, q⟩
def Its (x : Str) : It := ⟨fun i _ => i < x.cps.size, fun i H v H' => H' = H /\ ∃ c, x.cps[i]? = some c /\ v = .str ⟨#[c]⟩, fun i _ => i = x.cps.size⟩
theorem Zjk {P : Program} {w : World} {K : PySem.W.Frag} {tg : Expr} {it : Addr} {ty : String} {x : Str} {t : Tok}
  (W : ∀ A : Around, A.handled = none -> Walks P w A it [it] [it] x.cps.size (SignAt x) (fun i h => h.IsStrIter it ty x t i))
  (hself : ∀ (A : Around) (i : Nat) (s : Shared) (Q : Value -> Shared -> Prop) (E : Value -> Shared -> Prop), s.heap.IsStrIter it ty x t i -> Q (.ref it) s -> wpAny (model P w) A (pyIter (.ref it)) Q E s)
  (hn : ["enumerate", "zip", "dict_itemiterator", "dict_reverseitemiterator", "odict_iterator", "itertools.zip_longest", "itertools.pairwise"].contains ty = false) :
  Zpa P w K tg (Its x) [it] it (fun i h => h.IsStrIter it ty x t i) where
 mem := by simp
 obj := fun i h st b hb => by
  have e : b = it := by simpa using hb
  subst e;obtain ⟨o, e, c, d⟩ := st;exact ⟨o, e, fun v z => by rw [d] at z; cases z⟩
 keep := fun i h h' st k => by obtain ⟨o, e, r⟩ := st; exact ⟨o, k it (by simp) o e, r⟩
 item := by
  intro X hP hw hK hc i pins s σ H E I hf st hg;subst hP hw hK;obtain ⟨f0, f1, f2, f3, f4, f5⟩ := hf it (by simp);refine (W X.A (I.ok.hd hc)).item i s _ _ hg st fun v h' tk hv st' hk => ?_
  obtain ⟨c, u, hc', rfl⟩ := hv;have I1 : Inv X pins σ H { s with heap := h', toks := tk } := I.turned (t' := tk) (fun b o hb e => hk b o (by simpa using hb) e) f0 f1 f3 f4 f5;obtain ⟨o, e, cc, d⟩ := id st';exact ⟨_, rfl, Zm9 (s := { s with heap := h', toks := tk }) e cc d hn ⟨.str ⟨#[c]⟩, H, I1, ⟨u, rfl⟩, ⟨rfl, c, hc', rfl⟩, st', fun b hb => (hf b hb).1⟩⟩
 done := by
  intro X hP hw hK hc i pins s σ H E I hf st hg;subst hP hw hK;obtain ⟨f0, f1, f2, f3, f4, f5⟩ := hf it (by simp);have hg' : i = x.cps.size := hg;subst hg';exact (W X.A (I.ok.hd hc)).done s _ _ st fun h' tk hk => ⟨rfl, I.turned (t' := tk) (fun b o hb e => hk b o (by simpa using hb) e) f0 f1 f3 f4 f5⟩
 self := fun A i s Q E st h => hself A i s Q E st h
def Zs7 (tl : TE) : TI := fun σ H R => tl σ H fun x H1 => ∃ z, x = .str z /\ R (Its z) H1
theorem Zlm {tg l : Expr} {tl : TE} (hl : PE X l tl) : PI X tg l (Zs7 tl) := by
 intro pins s σ H R I h;refine thn (hl pins s σ H _ I h) fun v s1 ⟨x, H1, I1, r1, q1⟩ => ?_
 obtain ⟨z, e, q⟩ := q1;subst e;obtain ⟨t, rfl⟩ := (show ∃ t, v = Value.str z t from r1);have fin : ∀ b : Addr, b ∈ [s1.heap.objs.size] -> FpOk X pins H1 b := fun b hb => by
  have e : b = s1.heap.objs.size := by simpa using hb
  subst e;exact I1.fpOk (Nat.le_refl _) (I1.hok.fresh (Nat.le_refl _))
 cases ha : z.cps.all (· < 128)
 ·exact wpAny_pyIter_wide ha ⟨s1.heap.objs.size, [s1.heap.objs.size], _, _, H1, rfl, I1.kept (t' := s1.toks) fun b o e => Heap.get?_push_of_some _ e,
   Zjk (fun A hA => Walks.strWide hA _ z t) (fun A i s Q E st h => wpAny_pyIter_striter_wide st h) (by decide), ⟨_, Heap.get?_push_size _ rfl, rfl, rfl⟩, fin, q⟩
 ·exact wpAny_pyIter_ascii ha ⟨s1.heap.objs.size, [s1.heap.objs.size], _, _, H1, rfl, I1.kept (t' := s1.toks) fun b o e => Heap.get?_push_of_some _ e,
   Zjk (fun A hA => Walks.strAscii hA _ z t) (fun A i s Q E st h => wpAny_pyIter_striter_ascii st h) (by decide), ⟨_, Heap.get?_push_size _ rfl, rfl, rfl⟩, fin, q⟩
theorem Zh0 {caps : List (Option Nat)} {g : TG} {tc : TT} {te : TE} {z : Str} {σ : St} {H1 : Hp} {Q : VK} (Pv : Nat -> List V -> St -> Hp -> Prop) (h0 : Pv 0 [] (capSt caps σ) H1) (hl : ∀ i ys σ H, Pv i ys σ H -> i <= z.cps.size -> ys.length <= i) (hz : z.cps.size <= sizeLine)
  (hs : ∀ i c ys σ H, z.cps[i]? = some c -> Pv i ys σ H -> g (.str ⟨#[c]⟩) σ H fun σ2 H2 => tc σ2 H2 fun b H3 => if b = true then te σ2 H3 fun y H4 => Pv (i + 1) (ys ++ [y]) σ2 H4 else Pv (i + 1) ys σ2 H3)
  (hd : ∀ ys σ H, Pv z.cps.size ys σ H -> ∀ p, H p = none -> Q (.ref p) (upd H p (.lst ys))) :
  Zga caps g tc te σ Q (Its z) H1 := by
 refine ⟨fun i m ys σ H => m = z.cps.size - i /\ i <= z.cps.size /\ Pv i ys σ H, ⟨z.cps.size, by simp, Nat.zero_le _, h0⟩, ?_⟩;rintro i m ys σ H ⟨rfl, hi, p⟩;have hy := hl i ys σ H p hi
 by_cases hlt : i < z.cps.size
 ·refine .inr ⟨hlt, by omega, Pv (i + 1), fun ys' σ' H' p' => ⟨z.cps.size - (i + 1), by omega, rfl, hlt, p'⟩, fun x H' y => ?_⟩;obtain ⟨e, c, hc, y⟩ := y;subst e y;exact hs i c ys σ _ hc p
 ·have e : i = z.cps.size := by omega
  subst e;exact .inl ⟨rfl, by omega, hd ys σ H p⟩
end
end L2
set_option Elab.async false
set_option linter.all false
set_option maxRecDepth 100000
set_option maxHeartbeats 4000000
namespace L2
open PySem PySem.Spec PyProof.Rows
def Zmh (N N' : List Str) (scope : Scope) (caps : List (Option Nat)) (sc : Scope) : Bool :=
 decide (scope.kind = .function) && (scope.names.all fun y => decide (y.2 ≠ .cell)) && (scope.names.all fun y => decide (y.2 = .local -> scope.names.lookup y.1 = some .local)) && decide (caps.length = N'.length) &&
 ((N'.zip caps).all fun p => match p.2 with
  | none => true
  | some j => decide (N[j]? = some p.1) && decide ((p.1, NameKind.free) ∈ scope.names) && (scope.names.all fun y => decide (y.1 = p.1 -> y.2 = .free))) &&
 (scope.names.all fun y => decide (y.2 = .free -> sc.names.lookup y.1 = some .cell \/ sc.names.lookup y.1 = some .free))
theorem Zhz {X : Cx} {N' : List Str} {scope : Scope} {caps : List (Option Nat)} {sc : Scope} {N : List Str} (hsc : X.env.scope = sc) (hN : X.N = N) (h : Zmh N N' scope caps sc = true) : Zez X N' scope caps := by
 subst hsc hN;unfold Zmh at h;simp only [Bool.and_eq_true, decide_eq_true_eq, List.all_eq_true] at h;obtain ⟨⟨⟨⟨⟨h1, h2⟩, h3⟩, h4⟩, h5⟩, h6⟩ := h;refine ⟨h1, h2, h3, ⟨h4, fun i j x e1 e2 => ?_⟩, fun x hx => ?_⟩
 ·have hz : (x, some j) ∈ N'.zip caps := by
   have : (N'.zip caps)[i]? = some (x, some j) := by
    rw [List.getElem?_zip_eq_some]; exact ⟨e1, e2⟩
   exact List.mem_of_getElem? this
  have q := h5 _ hz;simp only [Bool.and_eq_true, decide_eq_true_eq, List.all_eq_true] at q;exact ⟨q.1.1, q.1.2, fun k hk => q.2 _ hk rfl⟩
 ·exact h6 _ hx rfl
theorem Zhw {X : Cx} {N : List Str} (h : X.N = N) (d : N.Nodup) : X.N.Nodup := h ▸ d
theorem Zb4 {X : Cx} {x : Str} {n : Int} {pos : Pos} (hg : Gl X x) (hm : ∃ t, X.mg x = some (.int n t)) (hd : (x == ("__debug__" : Str)) = false := by decide) : PE X (.Name x pos) (tC (.int n)) := by
 obtain ⟨t, e⟩ := hm;exact Zhk hg e ⟨t, rfl⟩ hd
structure FnB (P : Program) (w : World) (K : PySem.W.Frag) (mg : Str -> Option Value) (base : Heap) (x : Str) (k : Nat) (ps : List Str) (dvs : List V) (sp : Sp) : Prop where
 ex : ∃ (f : Addr) (fd : FuncData) (ds : List Value), FnOk P w K mg base CX0 k f fd ps sp /\ mg x = some (.ref f) /\ PySem.W.keepIn K (.ref f) = true /\ Binds K fd ps ds /\ Vals dvs ds
structure MkB (P : Program) (w : World) (K : PySem.W.Frag) (mg : Str -> Option Value) (base : Heap) (x : Str) (C : Addr) (k : Nat) (ps : List Str) (dvs : List V) (sp : Sp) : Prop where
 ex : ∃ (f : Addr) (fd : FuncData) (ds : List Value), FnOk P w K mg base CX0 k f fd ps sp /\ mg x = some (.ref C) /\ Mk K C f /\ Binds K fd ps ds /\ Vals dvs ds
structure MtB (P : Program) (w : World) (K : PySem.W.Frag) (mg : Str -> Option Value) (base : Heap) (C : Addr) (m : Str) (k : Nat) (ps : List Str) (dvs : List V) (sp : Sp) : Prop where
 ex : ∃ (f : Addr) (fd : FuncData) (ds : List Value), FnOk P w K mg base CX0 k f fd ps sp /\ Cls K C /\ Zso K C m f /\ Binds K fd ps ds /\ Vals dvs ds
section
variable {X : Cx} {k : Nat} {C : Addr} {ps : List Str} {sp : Sp} {dvs : List V} {x m : Str} {p pos apos : Pos} {e o : Expr} {es : List Expr} {ta : TE} {t : TA}
theorem Zag (F : FnB X.prog X.w X.K X.mg X.base x k ps dvs sp) (hr : Room k X.A) (hg : Gl X x) (ha : PA X (e :: es) t) (hdb : (x == ("__debug__" : Str)) = false := by decide)
  (he : starEach (e :: es) X.env = (false, eval e X.env) :: starEach es X.env := by rfl) (hpl : (backTo pos (starEach es X.env)).any (·.1) = false := by rfl) : PE X (.Call (.Name x p) (e :: es) [] pos) (Zk4 sp dvs E0 t) := by
 obtain ⟨f, fd, ds, G, hm, hk, hb, hd⟩ := F.ex;exact Zlp G hr hg hm hk hb hd Zlr ha hdb he hpl
theorem Zer {pl : Sem Bool} (he : PE X o ta) (F : MtB X.prog X.w X.K X.mg X.base C m k ps dvs sp) (hr : Room k X.A)
  (ht : eval (.Call (.Attribute o m apos) [] [] pos) X.env = (do
   let ov <- eval o X.env
   standAt apos.atName
   let (f, first) <- holding [ov] (getMethod ov m pl)
   callWith pos f first (backTo pos (starEach [] X.env)) (backToKw pos (keywordEach [] X.env))) := by rfl) :
  PE X (.Call (.Attribute o m apos) [] [] pos) (Zn9 C m sp dvs E0 ta tNil) := by
 obtain ⟨f, fd, ds, G, c, hm, hb, hd⟩ := F.ex;exact Zmx he c hm G hr hb hd Zlr ht
end
structure Bt (mg : Str -> Option Value) : Prop where
 len : mg "len" = none
 range : mg "range" = none
 isinstance : mg "isinstance" = none
 all : mg "all" = none
 min : mg "min" = none
 max : mg "max" = none
 bint : mg "int" = none
 bbool : mg "bool" = none
 bstr : mg "str" = none
 blist : mg "list" = none
 btuple : mg "tuple" = none
def But (a : Addr) (H H' : Hp) : Prop := ∀ b o, H b = some o -> b ≠ a -> H' b = some o
theorem But.upd {a : Addr} {H : Hp} {o : HO} : But a H (upd H a o) := fun b _ h n => by rw [Zao n]; exact h
def Zq6 (g : TG) (tb : TS) (D : Zmm) (σ : St) (J : It) (H1 : Hp) : Prop := ∃ W : Nat -> Nat -> St -> Hp -> Prop, (∃ m, W 0 m σ H1) /\ ∀ i m σ H, W i m σ H ->
 (J.stop i H /\ D.nx σ H) \/ (J.go i H /\ ∃ N : St -> Hp -> Prop, (∀ σ' H', N σ' H' -> ∃ m', m' < m /\ W (i + 1) m' σ' H') /\ ∀ x H', J.yld i H x H' -> g x σ H' fun σ2 H2 => tb { D with nx := N, ct := N, bk := D.nx } σ2 H2)
theorem Zoa (wi : TI) (g : TG) (tb : TS) (D : Zmm) (σ : St) (H : Hp) : Zsx wi g tb D σ H = wi σ H fun J H1 => Zq6 g tb D σ J H1 := rfl
theorem Znd {lo : Int} {n : Nat} {g : TG} {tb : TS} {D : Zmm} {σ : St} {H : Hp} (Pv : Nat -> St -> Hp -> Prop) (h0 : Pv 0 σ H)
  (hs : ∀ i σ H, i < n -> Pv i σ H -> g (.int (lo + i)) σ H fun σ2 H2 => tb { D with nx := Pv (i + 1), ct := Pv (i + 1), bk := D.nx } σ2 H2) (hd : ∀ σ H, Pv n σ H -> D.nx σ H) : Zq6 g tb D σ (Itr lo n) H := Zl8 Pv h0 hs hd
theorem Zan {n : Nat} (h : n <= 100000) : n <= sizeLine := Nat.le_trans h (by rw [sizeLine_eq]; decide)
theorem Zlc {n : Nat} (h : n <= 100000) : n < sizeLine := Nat.lt_of_le_of_lt h (by rw [sizeLine_eq]; decide)
end L2
set_option Elab.async false
set_option linter.all false
set_option maxRecDepth 100000
set_option maxHeartbeats 4000000
namespace L2
open PySem PySem.Spec PyProof.Rows
def tyO : HO -> Option String
 | .lst _ => some "list"
 | .tup _ => some "tuple"
 | .dK _ => some "dict"
 | _ => none
def tyF (H : Hp) : V -> Option String
 | .non => some "NoneType"
 | .bl _ => some "bool"
 | .int _ => some "int"
 | .str _ => some "str"
 | .ref a => (H a).bind tyO
 | _ => none
def Zke (n T : String) : Bool := n == T || (n == "bool" && T == "int")
theorem Zpg {K : PySem.W.Frag} {H : Hp} {x : V} {n : String} (h : tyF H x = some n) : Zka K H x (.type n) /\ n ∈ ["NoneType", "bool", "int", "str", "list", "tuple", "dict"] := by
 cases x with
 | non => cases h; exact ⟨.non, by simp⟩
 | bl b => cases h; exact ⟨.bl b, by simp⟩
 | int i => cases h; exact ⟨.int i, by simp⟩
 | str i => cases h; exact ⟨.str i, by simp⟩
 | ref a =>
  have h : (H a).bind tyO = some n := h;cases e : H a with
  | none => rw [e] at h; cases h
  | some o =>
   rw [e] at h;cases o <;> first | (cases h; done) | skip
   ·cases h; exact ⟨.lst e, by simp⟩
   ·cases h; exact ⟨.tup e, by simp⟩
   ·cases h; exact ⟨.dK e, by simp⟩
 | _ => cases h
theorem Zov {K : PySem.W.Frag} {n T : String} (hn : n ∈ ["NoneType", "bool", "int", "str", "list", "tuple", "dict"]) (hT : T ∈ ["bool", "int", "str", "list", "tuple", "dict"]) : PySem.W.kitOne K (.type n) (.type T) = some (Zke n T) := by
 simp only [List.mem_cons, List.not_mem_nil, or_false] at hn hT;rcases hn with rfl | rfl | rfl | rfl | rfl | rfl | rfl <;> rcases hT with rfl | rfl | rfl | rfl | rfl | rfl <;> rfl
def Zp9 (T : String) : List V -> Hp -> VK -> Prop := fun xs H Q => ∃ x n, xs = [x, .ty T] /\ tyF H x = some n /\ Q (.bl (Zke n T)) H
theorem Zb5 {X : Cx} (T : String) (hT : T ∈ ["bool", "int", "str", "list", "tuple", "dict"] := by decide) : CallR X (.builtin "isinstance") (Zp9 T) := by
 intro pins s σ H xs us Q I r h;obtain ⟨x, n, rfl, ty, q⟩ := h;obtain ⟨t1, t2⟩ := Zpg (K := X.K) ty;exact Zj8 pins s σ H _ us Q I r ⟨x, .ty T, _, _, rfl, t1, rfl, Zov t2 hT, q⟩
theorem Zn3 {H : Hp} {a : Addr} {xs : List V} (h : H a = some (.lst xs)) : tyF H (.ref a) = some "list" := by show (H a).bind tyO = _; rw [h]; rfl
theorem Zn4 {H : Hp} {i : Int} : tyF H (.int i) = some "int" := rfl
theorem Zph {H : Hp} {i : Bool} : tyF H (.bl i) = some "bool" := rfl
theorem Zn1 {H : Hp} {i : Str} : tyF H (.str i) = some "str" := rfl
theorem Zn2 {H : Hp} : tyF H .non = some "NoneType" := rfl
section
variable {CX : CXT} {P : Program} {w : World} {K : PySem.W.Frag} {mg : Str -> Option Value} {base : Heap} {N : List Str} {q : Str} {sc : Scope} {f : Addr} {cd : Value} {A : Around} {o : List Env} {s : Shared} {H : Hp} {E : XK}
theorem cxK : (cxOf CX P w K mg base N q sc f cd A o s H E).K = K := rfl
end
end L2
set_option Elab.async false
set_option linter.all false
set_option maxRecDepth 100000
set_option maxHeartbeats 4000000
namespace L2
open PySem PySem.Spec PyProof.Rows
def isI : V -> Bool
 | .int _ => true
 | _ => false
def isB : V -> Bool
 | .bl _ => true
 | _ => false
def isS : V -> Bool
 | .str _ => true
 | _ => false
def isL (H : Hp) : V -> Bool
 | .ref a => match H a with
  | some (.lst _) => true
  | _ => false
 | _ => false
theorem Ziy {o : HO} {n : String} (h : tyO o = some n) : n = "list" \/ n = "tuple" \/ n = "dict" := by
 cases o <;> first | (cases h; done) | (cases h; simp)
theorem Zpe {H : Hp} {x : V} {n : String} (h : tyF H x = some n) : Zke n "int" = (isI x || isB x) := by
 cases x with
 | ref a =>
  have h : (H a).bind tyO = some n := h;cases e : H a with
  | none => rw [e] at h; cases h
  | some o =>
   rw [e] at h;rcases Ziy h with rfl | rfl | rfl <;> rfl
 | _ => first | (cases h; done) | (cases h; rfl)
theorem Zkx {H : Hp} {x : V} {n : String} (h : tyF H x = some n) : Zke n "bool" = isB x := by
 cases x with
 | ref a =>
  have h : (H a).bind tyO = some n := h;cases e : H a with
  | none => rw [e] at h; cases h
  | some o =>
   rw [e] at h;rcases Ziy h with rfl | rfl | rfl <;> rfl
 | _ => first | (cases h; done) | (cases h; rfl)
theorem Zpd {H : Hp} {x : V} {n : String} (h : tyF H x = some n) : Zke n "str" = isS x := by
 cases x with
 | ref a =>
  have h : (H a).bind tyO = some n := h;cases e : H a with
  | none => rw [e] at h; cases h
  | some o =>
   rw [e] at h;rcases Ziy h with rfl | rfl | rfl <;> rfl
 | _ => first | (cases h; done) | (cases h; rfl)
theorem Zn0 {H : Hp} {x : V} {n : String} (h : tyF H x = some n) : Zke n "list" = isL H x := by
 cases x with
 | ref a =>
  have h : (H a).bind tyO = some n := h;cases e : H a with
  | none => rw [e] at h; cases h
  | some o =>
   rw [e] at h;have e2 : isL H (.ref a) = match some o with | some (.lst _) => true | _ => false := by
    show (match H a with | some (.lst _) => true | _ => false) = _;rw [e]
   rw [e2];cases o <;> first | (cases h; done) | (cases h; rfl)
 | _ => first | (cases h; done) | (cases h; rfl)
theorem Zqy {H : Hp} {x : V} (h : isL H x = true) : ∃ a xs, x = .ref a /\ H a = some (.lst xs) := by
 cases x with
 | ref a =>
  have h : (match H a with | some (.lst _) => true | _ => false) = true := h;cases e : H a with
  | none => rw [e] at h; cases h
  | some o =>
   rw [e] at h;cases o <;> first | (cases h; done) | exact ⟨a, _, rfl, e⟩
 | _ => cases h
theorem Zfo {H H' : Hp} (s : Same H H') {x : V} {n : String} (h : tyF H x = some n) : tyF H' x = some n := by
 cases x with
 | ref a =>
  have h : (H a).bind tyO = some n := h;show (H' a).bind tyO = some n;cases e : H a with
  | none => rw [e] at h; cases h
  | some o => rw [s a o e]; rw [e] at h; exact h
 | _ => exact h
def wIn (x : V) (lo hi : Int) : Bool := match x with
 | .int i => decide (lo <= i) && decide (i <= hi)
 | _ => false
def smallC (c : Nat) : Bool := decide (97 <= c) && decide (c <= 122)
def isNm : V -> Bool
 | .str z => decide (1 <= z.length) && decide (z.length <= 8) && z.cps.toList.all smallC
 | _ => false
def isBd (H : Hp) : V -> Bool
 | .ref a => match H a with
  | some (.lst xs) => decide (1 <= xs.length) && decide (xs.length <= 4000) && xs.all (fun y => wIn y 0 255)
  | _ => false
 | _ => false
theorem Zj5 {H : Hp} {a : Addr} {xs : List V} (h : H a = some (.lst xs)) : isBd H (.ref a) = (decide (1 <= xs.length) && decide (xs.length <= 4000) && xs.all (fun y => wIn y 0 255)) := by
 show (match H a with | some (.lst xs) => decide (1 <= xs.length) && decide (xs.length <= 4000) && xs.all (fun y => wIn y 0 255) | _ => false) = _;rw [h]
theorem Zoy {H : Hp} {x : V} (h : isL H x = false) : isBd H x = false := by
 cases x with
 | ref a =>
  have h : (match H a with | some (.lst _) => true | _ => false) = false := h;show (match H a with | some (.lst xs) => _ | _ => false) = false;cases e : H a with
  | none => rfl
  | some o =>
   rw [e] at h;cases o <;> first | rfl | cases h
 | _ => rfl
theorem Same.new {H H' : Hp} {p : Addr} {o : HO} (x : Same H H') (h : H p = none) : Same H (upd H' p o) := fun b u e => by
 rw [Zao (Za0 e h)]; exact x b u e
theorem Zoc (c : Nat) : ((!decide ((⟨#[c]⟩ : Str).cps.toList < ("a" : Str).cps.toList)) = decide (97 <= c)) /\ ((!decide (("z" : Str).cps.toList < (⟨#[c]⟩ : Str).cps.toList)) = decide (c <= 122)) := by
 have ha : ("a" : Str).cps.toList = [97] := by decide +kernel
 have hz : ("z" : Str).cps.toList = [122] := by decide +kernel
 rw [ha, hz];have e : (⟨#[c]⟩ : Str).cps.toList = [c] := rfl;rw [e];have lt1 : ∀ a b : Nat, ([a] < [b]) ↔ a < b := fun a b => by
  constructor
  ·intro h;rcases List.cons_lt_cons_iff.mp h with h | ⟨_, h⟩
   ·exact h
   ·exact absurd h (List.not_lt_nil _)
  ·intro h; exact List.cons_lt_cons_iff.mpr (.inl h)
 constructor
 ·rw [Bool.eq_iff_iff]; simp only [Bool.not_eq_true', decide_eq_false_iff_not, decide_eq_true_eq, lt1]; omega
 ·rw [Bool.eq_iff_iff]; simp only [Bool.not_eq_true', decide_eq_false_iff_not, decide_eq_true_eq, lt1]; omega
end L2
set_option Elab.async false
set_option linter.all false
set_option maxRecDepth 100000
set_option maxHeartbeats 4000000
namespace L2
open PySem PySem.Spec PyProof.Rows
def tUp (t : TS) : TS := fun D σ H => ∃ R : St -> Hp -> Prop, t { D with nx := R } σ H /\ ∀ σ' H', R σ' H' -> D.nx σ' H'
theorem Zol {X : Cx} {st : Stmt} {t : TS} (h : PS X st t) : PS X st (tUp t) := by
 intro pins s σ H D I hw;obtain ⟨R, h1, h2⟩ := hw;refine thn (h pins s σ H _ I h1) fun f s' q => ?_
 cases f with
 | next => obtain ⟨σ', H', I', q'⟩ := q; exact ⟨σ', H', I', h2 σ' H' q'⟩
 | brk => exact q
 | cont => exact q
 | ret v => exact q
end L2
set_option Elab.async false
set_option linter.all false
set_option maxRecDepth 100000
set_option maxHeartbeats 4000000
namespace L2
open PySem PySem.Spec PyProof.Rows
section
variable {X : Cx} {K : PySem.W.Frag}
theorem Zay (h : X.K = K) : IxR X (Zr3 K) := h ▸ Zow
theorem Zdy (h : X.K = K) : IxR X (Zr1 K) := h ▸ Zqx
def Zs1 (K : PySem.W.Frag) : List V -> Hp -> VK -> Prop := fun xs H Q => ∃ p ys, xs = [.ref p] /\ (SqL K H p ys \/ SqT K H p ys) /\ Q (.int ys.length) H
def Zli (K : PySem.W.Frag) : List V -> Hp -> VK -> Prop := fun xs H Q => ∃ p ys, xs = [.ref p] /\ (SqL K H p ys \/ SqT K H p ys) /\ ∀ l, H l = none -> Q (.ref l) (upd H l (.lst ys))
def Zs6 (K : PySem.W.Frag) : List V -> Hp -> VK -> Prop := fun xs H Q => ∃ (p : Addr) (bs : List Bool), xs = [.ref p] /\ SqL K H p (bs.map V.bl) /\ Q (.bl (bs.all id)) H
theorem Zdo (h : X.K = K) : CallR X (.builtin "len") (Zs1 K) := h ▸ Ziq
theorem Zfi (h : X.K = K) : CallR X (.type "list") (Zli K) := h ▸ Zip
theorem Zey (hc : X.calm = true) (h : X.K = K) : CallR X (.builtin "all") (Zs6 K) := h ▸ Zng hc
theorem Zho (hu : X.A.units + 64 < cLine) (h : X.K = K) : OpR X (compareOp .Eq) (Zs4 K) := h ▸ Zqm hu
theorem Zhm (hu : X.A.units + 64 < cLine) (h : X.K = K) : OpR X (compareOp .NotEq) (Zs0 K) := h ▸ Zqj hu
theorem Zbn {e : Expr} {f : Str} {pos : Pos} {ta : TE} (h : X.K = K) (he : PE X e ta) (hb : attributeBase e f X.env (eval e X.env) = eval e X.env) : PE X (.Attribute e f pos) (Zrk K ta f) := h ▸ Zqh he hb
theorem Zcq {o value : Expr} {f : Str} {pos pos' : Pos} {ta tv : TE} (h : X.K = K) (ha : PE X o ta) (hv : PE X value tv) (hs : swapsWith value (some (.Attribute o f pos')) pos.line X.env = pure false) : PS X (.Assign [.Attribute o f pos'] value pos) (Zrq K ta tv f) := h ▸ Zqg ha hv hs
theorem Zhi {tg l : Expr} {tl : TE} (h : X.K = K) (hl : PE X l tl) : PI X tg l (Zoz K tl) := h ▸ Zon hl
theorem Zdz {o e : Expr} {es : List Expr} {to : TE} {t : TA} {name : Str} {apos cpos : Pos} {T id : String} {r : V -> List V -> Hp -> VK -> Prop} (h : X.K = K) (pa : PlainAttrs T) (slot : Slot T name id) (hty : typeOf (.builtin id) = pure (.type "method_descriptor")) (hm : MtR X id r) (ho : PE X o to) (ha : PA X (e :: es) t)
  (hbase : attributeBase o name X.env (eval o X.env) = eval o X.env := by rfl)
  (hfew : ((backTo cpos (starEach (e :: es) X.env)).all (fun x => !x.1) && (backToKw cpos (keywordEach [] X.env)).all (fun x => x.1.isSome)
   && decide ((e :: es).length + ([] : List Keyword).length + (if ([] : List Keyword).isEmpty then 0 else 1) < 30)) = true := by rfl)
  (hline : (apos.endLine == cpos.line) = true := by rfl) (hs : starEach (e :: es) X.env = (false, eval e X.env) :: starEach es X.env := by rfl) (hplain : (backTo cpos (starEach es X.env)).any (·.1) = false := by rfl) :
  PE X (.Call (.Attribute o name apos) (e :: es) [] cpos) (tBM K T r to t) := h ▸ Zr9 pa slot hty hm ho ha hbase hfew hline hs hplain
def Zth (K : PySem.W.Frag) (ta : TE) : TT := fun σ H Q => ta σ H fun x H1 => ∃ k, TruV K x H1 k /\ Q k H1
end
end L2
set_option Elab.async false
set_option linter.all false
set_option maxRecDepth 100000
set_option maxHeartbeats 4000000
namespace L2
open PySem PySem.Spec PyProof.Rows
section
variable {X : Cx}
end
end L2
set_option Elab.async false
set_option linter.all false
set_option maxRecDepth 100000
set_option maxHeartbeats 4000000
namespace L2
open PySem PySem.Spec PyProof.Rows
theorem Zbq {H : Hp} {p : Addr} {o : HO} (h : H p = none) : Same H (upd H p o) := (Same.refl H).new h
section
variable {X : Cx} {es : List Expr} {t : TA} {pos : Pos}
def Zpi (t : TA) : TE := fun σ H Q => t σ H fun xs H1 => xs.length <= sizeLine /\ ∀ p G, H1 p = none -> Same H1 G -> G p = some (.tup xs) -> Q (.ref p) G
def Zpm (t : TA) : TE := fun σ H Q => t σ H fun xs H1 => xs.length <= sizeLine /\ ∀ p G, H1 p = none -> Same H1 G -> G p = some (.lst xs) -> Q (.ref p) G
theorem Zek {x1} (h : PA X es t) : PE X (.Tuple es x1 pos) (Zpi t) := by
 intro pins s σ H Q I hq;refine wpAny_Tuple_spliced (thn (h pos pins s σ H _ I hq) fun us s1 ⟨xs, H1, I1, r, z, q⟩ => ⟨by rw [<- r.length]; exact z, ?_⟩);have hf : H1 s1.heap.objs.size = none := I1.hok.fresh (Nat.le_refl _);refine ⟨.ref s1.heap.objs.size, upd H1 s1.heap.objs.size (.tup xs), I1.laid (t' := s1.toks) (fun b u e => Heap.get?_push_of_some _ e) (Nat.le_refl _) ?_, rfl, q _ _ hf (Zbq hf) Zal⟩;exact ⟨z, us, r, ⟨_, Heap.get?_push_size _ rfl, rfl, _, rfl⟩⟩
theorem Zce (h : PA X es t) : PE X (.List es pos) (Zpm t) := by
 intro pins s σ H Q I hq;refine wpAny_List_spliced (thn (h pos pins s σ H _ I hq) fun us s1 ⟨xs, H1, I1, r, z, q⟩ => ⟨by rw [<- r.length]; exact z, ?_⟩);have hf : H1 s1.heap.objs.size = none := I1.hok.fresh (Nat.le_refl _);refine ⟨.ref s1.heap.objs.size, upd H1 s1.heap.objs.size (.lst xs), I1.laid (t' := s1.toks) (fun b u e => Heap.get?_push_of_some _ e) (Nat.le_refl _) ?_, rfl, q _ _ hf (Zbq hf) Zal⟩;exact ⟨z, us, 0, r, Heap.get?_push_size _ rfl⟩
end
section
variable {X : Cx} {K : PySem.W.Frag}
theorem OpR.imp {f : Value -> Value -> Sem Value} {r r' : R2} (h : OpR X f r) (hi : ∀ x y H Q, r' x y H Q -> r x y H Q) : OpR X f r' := fun pins s σ H x y v u Q I rx ry q => h pins s σ H x y v u Q I rx ry (hi _ _ _ _ q)
theorem CallR.imp {f : Value} {r r' : List V -> Hp -> VK -> Prop} (h : CallR X f r) (hi : ∀ xs H Q, r' xs H Q -> r xs H Q) : CallR X f r' := fun pins s σ H xs us Q I rx q => h pins s σ H xs us Q I rx (hi _ _ _ q)
theorem MtM.imp {id : String} {r r' : V -> List V -> Hp -> VK -> Prop} (h : MtM X id r) (hi : ∀ x xs H Q, r' x xs H Q -> r x xs H Q) : MtM X id r' := fun pins s σ H x xs v us Q I rx rv q => h pins s σ H x xs v us Q I rx rv (hi _ _ _ _ q)
theorem PSet.imp {t t' : Zrb} (h : PSet X t) (hi : ∀ o i v H Q, t' o i v H Q -> t o i v H Q) : PSet X t' := fun pins s σ H o i v ov iv u Q I a b c q => h pins s σ H o i v ov iv u Q I a b c (hi _ _ _ _ _ q)
def Zqe : R2 := fun x y H Q => ∃ l b xs zs, x = .ref l /\ y = .ref b /\ H l = some (.lst xs) /\ H b = some (.lst zs) /\ xs.length + zs.length <= sizeLine /\ ∀ p G, H p = none -> Same H G -> G p = some (.lst (xs ++ zs)) -> Q (.ref p) G
theorem Zls : OpR X (binaryOp .Add) Zqe := op_cat.imp fun x y H Q ⟨l, b, xs, zs, e1, e2, h1, h2, h3, q⟩ => ⟨l, b, xs, zs, e1, e2, h1, h2, h3, fun p hp => q p _ hp (Zbq hp) Zal⟩
def Zrv : R2 := fun x y H Q => ∃ l k xs, x = .ref l /\ y = .int k /\ H l = some (.lst xs) /\ -(2 ^ 63) <= k /\ k < 2 ^ 63 /\ xs.length * k.toNat <= sizeLine /\ ∀ p G, H p = none -> Same H G -> G p = some (.lst (List.replicate k.toNat xs).flatten) -> Q (.ref p) G
def Zjt (K : PySem.W.Frag) : List V -> Hp -> VK -> Prop := fun xs H Q => ∃ p ys, xs = [.ref p] /\ (SqL K H p ys \/ SqT K H p ys) /\ ∀ l G, H l = none -> Same H G -> G l = some (.lst ys) -> Q (.ref l) G
theorem Zgy (h : X.K = K) : CallR X (.type "list") (Zjt K) := (Zfi h).imp fun xs H Q ⟨p, ys, e, h1, q⟩ => ⟨p, ys, e, h1, fun l hl => q l _ hl (Zbq hl) Zal⟩
def Zru (K : PySem.W.Frag) : V -> Option Int -> Option Int -> Hp -> VK -> Prop := fun x lo hi H Q => ∃ a xs, x = .ref a /\ SqL K H a xs /\ ∀ p G, H p = none -> Same H G -> G p = some (.lst (Zta xs lo hi)) -> Q (.ref p) G
def Zju : V -> List V -> Hp -> VK -> Prop := fun x vs H Q => ∃ l xs y, x = .ref l /\ vs = [y] /\ H l = some (.lst xs) /\ xs.length < sizeLine /\ ∀ G, But l H G -> G l = some (.lst (xs ++ [y])) -> Q .non G
theorem Zkp : MtM X "list.append" Zju := mt_append.imp fun x xs H Q ⟨l, ys, y, e1, e2, h1, h2, q⟩ => ⟨l, ys, y, e1, e2, h1, h2, q _ But.upd Zal⟩
def Zmv : V -> List V -> Hp -> VK -> Prop := fun x vs H Q => ∃ l b xs zs, x = .ref l /\ vs = [.ref b] /\ H l = some (.lst xs) /\ H b = some (.lst zs) /\ xs.length + zs.length <= sizeLine /\ ∀ G, But l H G -> G l = some (.lst (xs ++ zs)) -> Q .non G
def Zrx : V -> List V -> Hp -> VK -> Prop := fun x vs H Q => ∃ l xs y, x = .ref l /\ vs = [] /\ H l = some (.lst xs) /\ xs[xs.length - 1]? = some y /\ ∀ G, But l H G -> G l = some (.lst xs.dropLast) -> Q y G
def Zok : V -> List V -> Hp -> VK -> Prop := fun x vs H Q => ∃ l xs, x = .ref l /\ vs = [] /\ H l = some (.lst xs) /\ ∀ G, But l H G -> G l = some (.lst []) -> Q .non G
def Znl : V -> V -> V -> Hp -> (Hp -> Prop) -> Prop := fun o i v H Q => ∃ p xs k j, o = .ref p /\ i = .int k /\ H p = some (.lst xs) /\ ixN xs.length k = some j /\ ∀ G, But p H G -> G p = some (.lst (xs.set j v)) -> Q G
theorem Zh9 : PSet X Znl := set_list.imp fun o i v H Q ⟨p, xs, k, j, e1, e2, h1, h2, q⟩ => ⟨p, xs, k, j, e1, e2, h1, h2, q _ But.upd Zal⟩
def Zrp (K : PySem.W.Frag) (ta tv : TE) (f : Str) : TS := fun D σ H => tv σ H fun y H1 => ta σ H1 fun x H2 => ∃ a C dx fs, x = .ref a /\ H2 a = some (.ins C dx fs) /\ Cls K C /\ NoAttr K C f /\ fs.length < 1000 /\
 ∀ G, But a H2 G -> G a = some (.ins C dx (putF f y fs)) -> D.nx σ G
end
def FldV (K : PySem.W.Frag) (H : Hp) (x : V) (f : Str) (v : V) : Prop := ∃ a C dx fs, x = .ref a /\ H a = some (.ins C dx fs) /\ Cls K C /\ NoAttr K C f /\ fs.lookup f = some v
def Zpn (K : PySem.W.Frag) (ta : TE) (f : Str) : TE := fun σ H Q => ta σ H fun x H1 => ∃ v, FldV K H1 x f v /\ Q v H1
theorem Zat {X : Cx} {K : PySem.W.Frag} {e : Expr} {f : Str} {pos : Pos} {ta : TE} (h : X.K = K) (he : PE X e ta) (hb : attributeBase e f X.env (eval e X.env) = eval e X.env) : PE X (.Attribute e f pos) (Zpn K ta f) := by
 subst h;intro pins s σ H Q I h;refine Zmk hb (thn (he pins s σ H _ I h) fun u s1 ⟨x, H1, I1, rx, v, ⟨a, C, dx, fs, ex, ea, c, n, l⟩, q⟩ => ?_);subst ex;obtain rfl : u = Value.ref a := rx;exact Zgw I1 ea c n l fun u' s2 I2 ru => ⟨v, H1, I2, ru, q⟩
structure CtB (P : Program) (w : World) (K : PySem.W.Frag) (mg : Str -> Option Value) (base : Heap) (x : Str) (k : Nat) (sp : Sp) : Prop where
 ex : ∃ (f C : Addr) (fd : FuncData) (ds : List Value) (dvs : List V) (ps : List Str) (sp0 : Sp), FnOk P w K mg base CX0 k f fd ps sp0 /\ mg x = some (.ref C) /\ Mk K C f /\ Binds K fd ps ds /\ Vals dvs ds /\
  ∀ vs H Q, sp vs H Q E0 -> ∀ y dx G, H y = none -> H dx = none -> dx ≠ y -> Same H G -> G y = some (.ins C dx []) -> sp0 (.ref y :: (vs ++ dvs)) G (fun v H2 => v = .non /\ Q (.ref y) H2) E0
theorem MkB.ct {P : Program} {w : World} {K : PySem.W.Frag} {mg : Str -> Option Value} {base : Heap} {x : Str} {C : Addr} {k : Nat} {ps : List Str} {dvs : List V} {sp sp' : Sp} (F : MkB P w K mg base x C k ps dvs sp)
  (h : ∀ vs H Q, sp' vs H Q E0 -> ∀ y dx G, H y = none -> H dx = none -> dx ≠ y -> Same H G -> G y = some (.ins C dx []) -> sp (.ref y :: (vs ++ dvs)) G (fun v H2 => v = .non /\ Q (.ref y) H2) E0) : CtB P w K mg base x k sp' := by
 obtain ⟨f, fd, ds, G, hm, M, hb, hd⟩ := F.ex;exact ⟨f, C, fd, ds, dvs, ps, sp, G, hm, M, hb, hd, h⟩
theorem Zgs {X : Cx} {k : Nat} {sp : Sp} {x : Str} {p pos : Pos} {e : Expr} {es : List Expr} {t : TA} (F : CtB X.prog X.w X.K X.mg X.base x k sp) (hr : Room (k + 1) X.A) (hg : Gl X x) (ha : PA X (e :: es) t) (hdb : (x == ("__debug__" : Str)) = false := by decide)
  (he : starEach (e :: es) X.env = (false, eval e X.env) :: starEach es X.env := by rfl) (hpl : (backTo pos (starEach es X.env)).any (·.1) = false := by rfl) : PE X (.Call (.Name x p) (e :: es) [] pos) (Zk4 sp [] E0 t) := by
 obtain ⟨f, C, fd, ds, dvs, ps, sp0, G, hm, M, hb, hd, hi⟩ := F.ex;intro pins s σ H Q I h;refine wpAny_Call_Name_kw (Zfc I hg hm ?_ hdb);refine PySem.W.callWith_K (h₀ := X.base) I.ok.mod.kin M.kp (thn (ha pos pins s σ H _ I h) fun us s1 ⟨vs, H1, I1, r, q⟩ => ⟨I1.kIn, ?_⟩) he hpl;have q : sp (vs ++ []) H1 Q E0 := q;rw [List.append_nil] at q;exact Zms M G hr hb hd Zlr I1 r fun y dx hy hdx hn => hi _ _ _ q y dx _ hy hdx hn ((Zbq hdx).new hy) Zal
def Zq5 (C : Addr) (m : Str) (H : Hp) (x : V) : Prop := ∃ a dx fs, x = .ref a /\ H a = some (.ins C dx fs) /\ fs.lookup m = none
def Zk2 (C : Addr) (m : Str) (sp : Sp) (dvs : List V) (ta : TE) (t : TA) : TE := fun σ H Q => ta σ H fun x H1 => Zq5 C m H1 x /\ t σ H1 fun vs H2 => sp (x :: (vs ++ dvs)) H2 Q E0
section
variable {X : Cx} {k : Nat} {C : Addr} {ps : List Str} {sp : Sp} {dvs : List V} {m : Str} {pos apos : Pos} {e o : Expr} {es : List Expr} {ta : TE} {t : TA}
theorem Zhj {pl : Sem Bool} (he : PE X o ta) (F : MtB X.prog X.w X.K X.mg X.base C m k ps dvs sp) (hr : Room k X.A) (ha : PA X (e :: es) t)
  (hst : starEach (e :: es) X.env = (false, eval e X.env) :: starEach es X.env := by rfl) (hpl : (backTo pos (starEach es X.env)).any (·.1) = false := by rfl)
  (ht : eval (.Call (.Attribute o m apos) (e :: es) [] pos) X.env = (do
   let ov <- eval o X.env
   standAt apos.atName
   let (f, first) <- holding [ov] (getMethod ov m pl)
   callWith pos f first (backTo pos (starEach (e :: es) X.env)) (backToKw pos (keywordEach [] X.env))) := by rfl) :
  PE X (.Call (.Attribute o m apos) (e :: es) [] pos) (Zk2 C m sp dvs ta t) := by
 obtain ⟨f, fd, ds, G, c, hm, hb, hd⟩ := F.ex;intro pins s σ H Q I h;refine PySem.W.methodCall_KW (pl := pl) (thn (he pins s σ H _ I h) fun u s1 ⟨x, H1, I1, rx, ⟨a, dx, fs, ex, ea, l⟩, q⟩ => ?_) ht;subst ex;obtain rfl : u = Value.ref a := rx;refine Zfe I1 ea c hm l ?_;refine PySem.W.callWith_K (first := [.ref a]) (h₀ := X.base) I.ok.mod.kin hm.kp (thn (ha pos pins s1 σ H1 _ I1 q) fun us s2 ⟨vs, H2, I2, r, q2⟩ => ⟨I2.kIn, ?_⟩) hst hpl;exact Zjs (us := .ref a :: us) (vs := .ref a :: vs) G hr hb hd Zlr I2 (.cons rfl r) q2
theorem Zcn {pl : Sem Bool} (he : PE X o ta) (F : MtB X.prog X.w X.K X.mg X.base C m k ps dvs sp) (hr : Room k X.A)
  (ht : eval (.Call (.Attribute o m apos) [] [] pos) X.env = (do
   let ov <- eval o X.env
   standAt apos.atName
   let (f, first) <- holding [ov] (getMethod ov m pl)
   callWith pos f first (backTo pos (starEach [] X.env)) (backToKw pos (keywordEach [] X.env))) := by rfl) :
  PE X (.Call (.Attribute o m apos) [] [] pos) (Zk2 C m sp dvs ta tNil) := by
 obtain ⟨f, fd, ds, G, c, hm, hb, hd⟩ := F.ex;intro pins s σ H Q I h;refine PySem.W.methodCall_KW (pl := pl) (thn (he pins s σ H _ I h) fun u s1 ⟨x, H1, I1, rx, ⟨a, dx, fs, ex, ea, l⟩, q⟩ => ?_) ht;subst ex;obtain rfl : u = Value.ref a := rx;refine Zfe I1 ea c hm l ?_;exact PySem.W.callWith_K0 (first := [.ref a]) I1.kIn hm.kp (Zjs (us := [.ref a]) (vs := [.ref a]) G hr hb hd Zlr I1 (.cons rfl .nil) q)
end
theorem Same.get {H G : Hp} {b : Addr} {o : HO} (s : Same H G) (h : H b = some o) : G b = some o := s b o h
theorem But.get {l : Addr} {H G : Hp} {b : Addr} {o : HO} (s : But l H G) (h : H b = some o) (n : b ≠ l) : G b = some o := s b o h n
theorem Same.butNew {l : Addr} {H H' G : Hp} (s : Same H H') (b : But l H' G) (h : H l = none) : Same H G := fun c o e => b c o (s c o e) (Za0 e h)
section
variable {caps : List (Option Nat)} {g : TG} {tc : TT} {te : TE}
theorem Zgx {K : PySem.W.Frag} {a : Addr} {xs : List V} {σ : St} {H1 : Hp} {Q : VK} (Pv : Nat -> List V -> St -> Hp -> Prop) (h0 : Pv 0 [] (capSt caps σ) H1) (hl : ∀ i ys σ H, Pv i ys σ H -> i <= xs.length -> SqL K H a xs /\ ys.length <= i) (hz : xs.length <= sizeLine)
  (hs : ∀ i x ys σ H, xs[i]? = some x -> Pv i ys σ H -> g x σ H fun σ2 H2 => tc σ2 H2 fun b H3 => if b = true then te σ2 H3 fun y H4 => Pv (i + 1) (ys ++ [y]) σ2 H4 else Pv (i + 1) ys σ2 H3)
  (hd : ∀ ys σ H, Pv xs.length ys σ H -> ∀ p G, H p = none -> Same H G -> G p = some (.lst ys) -> Q (.ref p) G) : Zga caps g tc te σ Q (Itl K a) H1 :=
 Zin Pv h0 hl hz hs fun ys σ H h p hp => hd ys σ H h p _ hp (Zbq hp) Zal
theorem Zf7 {lo : Int} {n : Nat} {σ : St} {H1 : Hp} {Q : VK} (Pv : Nat -> List V -> St -> Hp -> Prop) (h0 : Pv 0 [] (capSt caps σ) H1) (hl : ∀ i ys σ H, Pv i ys σ H -> i <= n -> ys.length <= i) (hz : n <= sizeLine)
  (hs : ∀ i ys σ H, i < n -> Pv i ys σ H -> g (.int (lo + i)) σ H fun σ2 H2 => tc σ2 H2 fun b H3 => if b = true then te σ2 H3 fun y H4 => Pv (i + 1) (ys ++ [y]) σ2 H4 else Pv (i + 1) ys σ2 H3)
  (hd : ∀ ys σ H, Pv n ys σ H -> ∀ p G, H p = none -> Same H G -> G p = some (.lst ys) -> Q (.ref p) G) : Zga caps g tc te σ Q (Itr lo n) H1 :=
 Zkt Pv h0 hl hz hs fun ys σ H h p hp => hd ys σ H h p _ hp (Zbq hp) Zal
end
end L2
set_option Elab.async false
set_option linter.all false
set_option maxRecDepth 100000
set_option maxHeartbeats 4000000
namespace L2
open PySem PySem.Spec PyProof.Rows
structure Zpb (K : PySem.W.Frag) (C : Addr) : Prop where
 ha : PySem.W.findIn K (.ref C) "__class__" = some (some (.builtin "object.__class__"))
 hn : PySem.W.specialIn K (.builtin "object.__class__") "__get__" = some (some (.builtin "getset_descriptor.__get__"))
 htk : PySem.W.takesIn K (.builtin "object.__class__") = some true
 hm : PySem.W.mroIn K C (.type "object") = some true
def Zqa (C : Addr) : List V -> Hp -> VK -> Prop := fun xs H Q => ∃ a dx fs, xs = [.ref a, .ref C] /\ H a = some (.ins C dx fs) /\ Q (.bl true) H
theorem Zir {X : Cx} {K : PySem.W.Frag} {C : Addr} (h : X.K = K) (cl : Cls K C) (ic : Zpb K C) : CallR X (.builtin "isinstance") (Zqa C) := by
 subst h;intro pins s σ H xs us Q I r hh;obtain ⟨a, dx, fs, rfl, ha, q⟩ := hh;refine Zj8 pins s σ H _ us Q I r ⟨.ref a, .ref C, .ref C, true, rfl, .ins ha cl ic.ha ic.hn ic.htk ic.hm, rfl, ?_, q⟩;show PySem.W.kitOne X.K (.ref C) (.ref C) = some true;unfold PySem.W.kitOne;rw [if_pos (by simp)]
section
variable {P : Program} {w : World} {K : PySem.W.Frag} {mg : Str -> Option Value} {base : Heap}
theorem MtB.imp {C : Addr} {m : Str} {k : Nat} {ps : List Str} {dvs : List V} {sp sp' : Sp} (F : MtB P w K mg base C m k ps dvs sp) (h : ∀ vs H Q E, sp' vs H Q E -> sp vs H Q E) : MtB P w K mg base C m k ps dvs sp' := by
 obtain ⟨f, fd, ds, a, b, c, d, e⟩ := F.ex;exact ⟨f, fd, ds, a.imp h, b, c, d, e⟩
end
def Zte (t : TE) : TE := fun σ H Q => ∃ R : VK, t σ H R /\ ∀ v H', R v H' -> Q v H'
theorem Zap {t u : TS} {D : Zmm} {σ : St} {H : Hp} (h : ∀ N : St -> Hp -> Prop, (∀ σ' H', u D σ' H' -> N σ' H') -> t { D with nx := N } σ H) : Zrd t u D σ H := h (u D) fun _ _ x => x
end L2
set_option Elab.async false
set_option linter.all false
set_option maxRecDepth 100000
set_option maxHeartbeats 4000000
namespace L2
open PySem PySem.Spec PyProof.Rows
section
variable {κ : Type} [DecidableEq κ]
def valV (kvs : List (κ × V)) (k : κ) : Option V := (kvs.find? fun kv => decide (kv.1 = k)).map (·.2)
def Zq9 (kvs : List (κ × V)) (k : κ) (v : V) : List (κ × V) :=
 if (kvs.any fun kv => decide (kv.1 = k)) = true then kvs.map (fun kv => if kv.1 = k then (kv.1, v) else kv) else kvs ++ [(k, v)]
end
abbrev KT (H : Hp) : List (List Key × V) -> List (List Key × Addr × Value) -> Prop := Paired fun p q => p.1 = q.1 /\ H q.2.1 = some (.tup (p.1.map kV)) /\ RelV p.2 q.2.2
section
variable {P : Program} {w : World} {H : Hp} {h : Heap} {a : Addr}
end
def Ztu (H : Hp) (a : Addr) (y : V) (r : Option V) : Prop :=
 (∃ kvs k, Rd H a (.dK kvs) /\ y = kV k /\ r = valV kvs k) \/ ∃ kvs k b, Rd H a (.dT kvs) /\ y = .ref b /\ H b = some (.tup (k.map kV)) /\ r = valV kvs k
section
variable {X : Cx} {pins : List (Addr × Obj)} {σ : St} {H : Hp} {s : Shared} {a : Addr} {y v : V} {u r : Value} {o : Option V} {A : Around} {E : Value -> Shared -> Prop}
end
section
variable {X : Cx} {pins : List (Addr × Obj)} {σ : St} {H : Hp} {s : Shared} {a : Addr} {kvs : List (Key × V)} {k : Key} {u : Value} {A : Around} {E : Value -> Shared -> Prop}
end
def Zrm (td ty : TE) : TE := fun σ H Q => td σ H fun x H1 => ty σ H1 fun y H2 => ∃ a v, x = .ref a /\ Ztu H2 a y (some v) /\ Q v H2
section
variable {X : Cx} {o i e value : Expr} {pos pos' tpos : Pos} {td ty tv : TE}
end
section
variable {X : Cx} {pos : Pos}
end
def Zk1 : List (TE × TE) -> St -> Hp -> (List (V × V) -> Hp -> Prop) -> Prop
 | [], _, H, Q => Q [] H
 | (tk, tv) :: r, σ, H, Q => tk σ H fun x H1 => tv σ H1 fun y H2 => Zk1 r σ H2 fun ps H3 => Q ((x, y) :: ps) H3
abbrev VV : List (V × V) -> List (Value × Value) -> Prop := Paired fun p q => RelV p.1 q.1 /\ RelV p.2 q.2
def Zqr (kvs more : List (Key × V)) : List (Key × V) := more.foldl (fun acc kv => Zq9 acc kv.1 kv.2) kvs
def Zrl (trs : List (TE × TE)) : TE := fun σ H Q => ∀ p, H p = none -> Zk1 trs σ (upd H p (.dK [])) fun ps H2 => H2 p = some (.dK []) /\ ∃ kvs : List (Key × V), ps = kvs.map (fun kv => (kV kv.1, kv.2)) /\ kvs.length <= 15 /\ Q (.ref p) (upd H2 p (.dK (Zqr [] kvs)))
section
variable {X : Cx}
end
end L2
set_option Elab.async false
set_option linter.all false
set_option maxRecDepth 100000
set_option maxHeartbeats 4000000
namespace L2
open PySem PySem.Spec PyProof.Rows
section
variable {X : Cx} {K : PySem.W.Frag}
def Zp1 (K : PySem.W.Frag) : List V -> Hp -> VK -> Prop := fun xs H Q => ∃ (p : Addr) (ns : List Int), xs = [.ref p] /\ SqL K H p (ns.map V.int) /\ ns.length < 64 /\ ∀ (ms : List Int) l G, ms.Perm ns -> ms.Pairwise (· <= ·) -> H l = none -> Same H G -> G l = some (.lst (ms.map V.int)) -> Q (.ref l) G
def Zrs (K : PySem.W.Frag) : List V -> Hp -> VK -> Prop := fun xs H Q => ∃ (p : Addr) (ns : List Int), xs = [.ref p] /\ SqL K H p (ns.map V.int) /\ (∀ x ∈ ns, -(2 ^ 62) <= x /\ x < 2 ^ 62) /\ (∀ j, j <= ns.length -> -(2 ^ 62) <= (ns.take j).sum /\ (ns.take j).sum < 2 ^ 62) /\ Q (.int ns.sum) H
end
end L2
set_option Elab.async false
set_option linter.all false
set_option maxRecDepth 100000
set_option maxHeartbeats 400000
namespace L2
open PySem PySem.Spec PyProof.Rows
section
variable {prog : Program} {w : World} {A : Around} {E : Value -> Shared -> Prop} {s : Shared}
end
def Zsr (val : Nat -> Int) : Nat -> Int
 | 0 => val 0
 | j + 1 => if val (j + 1) > Zsr val j then val (j + 1) else Zsr val j
section
variable {prog : Program} {w : World} {A : Around} {R : Result -> Shared -> Prop} {I : Addr} {fp wr : List Addr} {n : Nat} {P : Nat -> Value -> Prop} {St : Nat -> Heap -> Prop}
end
def Zp6 (K : PySem.W.Frag) : V -> V -> Hp -> VK -> Prop := fun x d H Q => ∃ (p : Addr) (ns : List Int), x = .ref p /\ SqL K H p (ns.map V.int) /\ (ns = [] -> Q d H) /\ ∀ v, v ∈ ns -> (∀ y ∈ ns, y <= v) -> Q (.int v) H
def Zri (K : PySem.W.Frag) (ta tb : TE) : TE := fun σ H Q => ta σ H fun x H1 => tb σ H1 fun d H2 => Zp6 K x d H2 Q
section
variable {X : Cx} {K : PySem.W.Frag}
end
end L2
namespace L2
open PySem PySem.Spec PyProof.Rows
section
variable {X : Cx}
def Zp7 : List V -> Hp -> VK -> Prop := fun xs H Q => ∃ a kvs, xs = [V.ref a] /\ H a = some (.dK kvs) /\ ∀ l G, H l = none -> Same H G -> G l = some (.lst (kvs.map fun kv => kV kv.1)) -> Q (.ref l) G
end
end L2
namespace L2
open PySem PySem.Spec PyProof.Rows
structure Bt2 (mg : Str -> Option Value) : Prop where
 sum : mg "sum" = none
 sorted : mg "sorted" = none
section
variable {X : Cx} {pos pos' : Pos} {o i value : Expr} {td ty tv : TE}
def Zpq : TE := fun _ H Q => ∀ p G, H p = none -> Same H G -> G p = some (.dK []) -> Q (.ref p) G
def Zpy (td ty tv : TE) : TS := fun D σ H => tv σ H fun v H1 => td σ H1 fun x H2 => ty σ H2 fun y H3 => ∃ a n kvs, x = .ref a /\ y = .int n /\ H3 a = some (.dK kvs) /\ kvs.length < sizeLine /\ ∀ G, But a H3 G -> G a = some (.dK (Zq9 kvs (.inl n) v)) -> D.nx σ G
def Zoj : R2 := fun y x H Q => ∃ a n kvs, y = .int n /\ x = .ref a /\ H a = some (.dK kvs) /\ Q (.bl (!(valV kvs (Sum.inl n)).isSome)) H
def Zr0 : List V -> Hp -> VK -> Prop := fun xs H Q => ∃ a kvs, xs = [V.ref a] /\ H a = some (.dK kvs) /\ Q (.int kvs.length) H
end
end L2
set_option Elab.async false
set_option linter.all false
set_option maxRecDepth 100000
set_option maxHeartbeats 4000000
namespace L2
open PySem PySem.Spec PyProof.Rows
section
variable {X : Cx} {K : PySem.W.Frag}
def Zrt (K : PySem.W.Frag) : List V -> Hp -> VK -> Prop := fun xs H Q => ∃ (p : Addr) (ns : List Int), xs = [.ref p] /\ SqL K H p (ns.map V.int) /\ Q (.int ns.sum) H
def Zsq (i j : Int) : Prop := 0 < j /\ j < 18446744073709551616
theorem Zcw : OpR X (binaryOp .FloorDiv) (rI Zsq fun i j => .int (i / j)) := opI fun i j _ _ _ _ _ hc q => by
 have h1 : (0 : Int) < j := hc.1;have h2 : j < 18446744073709551616 := hc.2;refine floordiv_int (by omega) (by rw [Int.fdiv_eq_ediv_of_nonneg i (by omega)]; exact q) (.inl (PyProof.noPylong_of_log2 ?_));have : j.natAbs.log2 < 64 := (Nat.log2_lt (by omega)).mpr (by omega);omega
def Zog : V -> List V -> Hp -> VK -> Prop := fun x vs H Q => ∃ l xs i k y, x = .ref l /\ vs = [.int i] /\ H l = some (.lst xs) /\ -(2 ^ 63) <= i /\ i < 2 ^ 63 /\ seqIndex? i xs.length = some k /\ xs[k]? = some y /\ ∀ G, But l H G -> G l = some (.lst (xs.eraseIdx k)) -> Q y G
end
end L2
set_option Elab.async false
set_option linter.all false
set_option maxRecDepth 100000
set_option maxHeartbeats 4000000
namespace L2
open PySem PySem.Spec PyProof.Rows PySem.W
section
variable {α β : Type} {N : Nat} {lt : Nat -> Nat -> Bool}
def TOk (N : Nat) (lt : Nat -> Nat -> Bool) : KasT α -> (α -> Prop) -> Prop
 | .ret a, Q => Q a
 | .ask i j k, Q => i < N /\ j < N /\ TOk N lt (k (lt i j)) Q
end
section
variable {O : KeyOrd} {key : Nat -> O.α} {N : Nat} {p : Array Nat}
abbrev KLt (O : KeyOrd) (key : Nat -> O.α) (i j : Nat) : Bool := O.blt (key i) (key j)
end
end L2
set_option Elab.async false
set_option linter.all false
set_option maxRecDepth 100000
set_option maxHeartbeats 4000000
namespace L2
open PySem PySem.Spec PyProof.Rows PySem.W
section
variable {prog : Program} {w : World} {A : Around} {E : Value -> Shared -> Prop} {s : Shared} {O : KeyOrd} {key : Nat -> O.α} {κ : SortKind} {vs : List Value}
structure SortAsk (prog : Program) (w : World) (h : Heap) (O : KeyOrd) (key : Nat -> O.α) (κ : SortKind) (vs : List Value) : Prop where
 kind : ∀ (A : Around) (s : Shared) (Q : SortKind -> Shared -> Prop), (∀ b o, h.get? b = some o -> s.heap.get? b = some o) -> 2 <= vs.length -> Q κ s -> wpAny (model prog w) A (keyKind' vs.toArray) Q (fun _ _ => False) s
 cmp : ∀ (A : Around) (s : Shared) (i j : Nat) (C : Bool -> Shared -> Prop), (∀ b o, h.get? b = some o -> s.heap.get? b = some o) -> i < vs.length -> j < vs.length -> C (KLt O key i j) s -> kas_ask prog w A κ vs i j C s
end
section
variable {prog : Program} {w : World} {A : Around} {E : Value -> Shared -> Prop} {s : Shared}
end
section
variable {X : Cx} {K : PySem.W.Frag}
end
end L2
set_option Elab.async false
set_option linter.all false
set_option maxRecDepth 100000
set_option maxHeartbeats 4000000
namespace L2
open PySem PySem.Spec PyProof.Rows
section
variable {X : Cx} {pins : List (Addr × Obj)} {σ : St} {H : Hp} {s : Shared} {h' : Heap}
end
def Ite (K : PySem.W.Frag) (a : Addr) : It :=
 ⟨fun i H => ∃ xs x, SqL K H a xs /\ xs[i]? = some x, fun i H x H' => ∃ t y, x = .ref t /\ H t = none /\ Same H H' /\ H' t = some (.tup [.int i, y]) /\ ∀ xs, SqL K H a xs -> xs[i]? = some y, fun i H => ∃ xs, SqL K H a xs /\ xs.length <= i⟩
section
variable {X : Cx} {K : PySem.W.Frag}
def Zsg (K : PySem.W.Frag) (ta : TA) : TI := fun σ H R => ta σ H fun vs H1 => ∃ l, vs = [.ref l] /\ (∃ xs, SqL K H1 l xs) /\ R (Ite K l) H1
end
def Itz (K : PySem.W.Frag) (a b : Addr) : It :=
  ⟨fun i H => ∃ xs ys x y, SqL K H a xs /\ SqL K H b ys /\ xs[i]? = some x /\ ys[i]? = some y, fun i H x H' => ∃ t y z, x = .ref t /\ H t = none /\ Same H H' /\ H' t = some (.tup [y, z]) /\ (∀ xs, SqL K H a xs -> xs[i]? = some y) /\ (∀ ys, SqL K H b ys -> ys[i]? = some z),
   fun i H => ∃ xs ys, SqL K H a xs /\ SqL K H b ys /\ (xs.length <= i \/ ys.length <= i)⟩
section
variable {X : Cx} {K : PySem.W.Frag}
def Ztq (K : PySem.W.Frag) (ta : TA) : TI := fun σ H R => ta σ H fun vs H1 => ∃ l1 l2, vs = [.ref l1, .ref l2] /\ (∃ xs, SqL K H1 l1 xs) /\ (∃ xs, SqL K H1 l2 xs) /\ R (Itz K l1 l2) H1
end
section
variable {X : Cx} {K : PySem.W.Frag}
def Zry (K : PySem.W.Frag) : List V -> Hp -> VK -> Prop := fun xs H Q => ∃ (p : Addr) (ns : List Int), xs = [.ref p] /\ SqL K H p (ns.map V.int) /\ ns ≠ [] /\ ∀ v, v ∈ ns -> (∀ y ∈ ns, v <= y) -> Q (.int v) H
end
def Zs9 (val : Nat -> Int) : Nat -> Int
 | 0 => val 0
 | j + 1 => if val (j + 1) < Zs9 val j then val (j + 1) else Zs9 val j
section
variable {prog : Program} {w : World} {A : Around} {R : Result -> Shared -> Prop} {I : Addr} {fp wr : List Addr} {n : Nat} {P : Nat -> Value -> Prop} {St : Nat -> Heap -> Prop}
end
def Zp5 (K : PySem.W.Frag) : V -> V -> Hp -> VK -> Prop := fun x d H Q => ∃ (p : Addr) (ns : List Int), x = .ref p /\ SqL K H p (ns.map V.int) /\ (ns = [] -> Q d H) /\ ∀ v, v ∈ ns -> (∀ y ∈ ns, v <= y) -> Q (.int v) H
def Zrh (K : PySem.W.Frag) (ta tb : TE) : TE := fun σ H Q => ta σ H fun x H1 => tb σ H1 fun d H2 => Zp5 K x d H2 Q
section
variable {X : Cx} {K : PySem.W.Frag}
end
section
variable {caps : List (Option Nat)} {g : TG} {tc : TT} {te : TE}
end
structure Bt3 (mg : Str -> Option Value) : Prop where
 enumerate : mg "enumerate" = none
 zip : mg "zip" = none
end L2
set_option Elab.async false
set_option linter.all false
set_option maxRecDepth 100000
set_option maxHeartbeats 4000000
namespace L2
open PySem PySem.Spec PyProof.Rows
def Zrc (lo st : Int) (n : Nat) : It := ⟨fun i _ => i < n, fun i H x H' => H' = H /\ x = .int (lo + i * st), fun i _ => n <= i⟩
theorem Ziz {P : Program} {w : World} {K : PySem.W.Frag} {tg : Expr} (it : Addr) (lo st : Int) (n : Nat) : Zpa P w K tg (Zrc lo st n) [it] it (fun i h => IsRangeIter h it (lo + (i : Nat) * st) ((n : Int) - (i : Nat)) st) where
 mem := by simp
 obj := fun i h hs b hb => by
  have e : b = it := by simpa using hb
  subst e;exact ⟨_, hs, fun v z => by
   have z' : Data.fields _ = Data.cell v := z;cases z'⟩
 keep := fun i h h' hs k => k it (by simp) _ hs
 item := by
  intro X hP hw hK hc i pins s σ H E I hf hs hg;subst hP hw hK;obtain ⟨f0, f1, f2, f3, f4, f5⟩ := hf it (by simp);have W := Walks.range (prog := X.prog) (w := X.w) (I.ok.hd hc) it lo st n;refine W.item i s _ _ hg hs fun v h' tk hv st' kk => ?_
  obtain ⟨t, rfl⟩ := hv;have I1 : Inv X pins σ H { s with heap := h', toks := tk } := I.turned (fun b o hb e => kk b o (by simpa using hb) e) f0 f1 f3 f4 f5;exact ⟨_, rfl, Zm9 (s := { s with heap := h', toks := tk }) (n := "range_iterator") st' rfl rfl (by decide) ⟨.int (lo + i * st), H, I1, ⟨t, rfl⟩, ⟨rfl, rfl⟩, st', fun b hb => (hf b hb).1⟩⟩
 done := by
  intro X hP hw hK hc i pins s σ H E I hf hs hg;subst hP hw hK;obtain ⟨f0, f1, f2, f3, f4, f5⟩ := hf it (by simp);exact wpAny_pyNext_range_end (I.ok.hd hc) hs (by have : n <= i := hg; omega) fun h' eb => ⟨rfl, I.turned (t' := s.toks) (fun b o hb e => eb b o hb e) f0 f1 f3 f4 f5⟩
 self := fun _ _ _ _ _ st h => wpAny_pyIter_rangeiter st h
def rsz (i j c : Int) : Nat := (Builtin.Range.rangeSize i j c).toNat
section
variable {X : Cx} {tg : Expr}
def Zq0 (ta : TA) : TI := fun σ H R => ta σ H fun vs H1 => ∃ i j c : Int, vs = [.int i, .int j, .int c] /\ (-(2 ^ 30) <= i /\ i < 2 ^ 30 /\ -(2 ^ 30) <= j /\ j < 2 ^ 30 /\ 0 < c /\ c < 2 ^ 20) /\ R (Zrc i c (rsz i j c)) H1
theorem Zkk {i j c : Int} (hc : 0 < c) : 0 <= Builtin.Range.rangeSize i j c := by
 unfold Builtin.Range.rangeSize;rw [if_pos hc]
 split
 ·have := Int.ediv_nonneg (show 0 <= j - i - 1 by omega) (Int.le_of_lt hc); omega
 ·exact Int.le_refl _
theorem Zpz {i j c : Int} (hc : 0 < c) : Builtin.Range.rangeSize i j c <= (j - i).toNat := by
 unfold Builtin.Range.rangeSize;rw [if_pos hc]
 split
 ·have h1 : (j - i - 1) / c <= j - i - 1 := Int.ediv_le_self _ (by omega);omega
 ·omega
theorem Zlg {pins : List (Addr × Obj)} {σ : St} {H : Hp} {s : Shared} {R : It -> Hp -> Prop} {E : Value -> Shared -> Prop} {lo hi c : Int} {t u v : Tok} {tk : Nat} (I : Inv X pins σ H s) (h1 : -(2 ^ 30) <= lo) (h2 : lo < 2 ^ 30) (h3 : -(2 ^ 30) <= hi) (h4 : hi < 2 ^ 30) (h5 : 0 < c) (h6 : c < 2 ^ 20)
  (q : R (Zrc lo c (rsz lo hi c)) H) : wpAny (model X.prog X.w) X.A (pyIter (.ref s.heap.objs.size)) (PIE X pins σ tg R) E { s with heap := s.heap.push { cls := .type "range", data := .fields #[.int lo t, .int hi u, .int c v] }, toks := tk } := by
 have hn := Zkk (i := lo) (j := hi) h5;have hl := Zpz (i := lo) (j := hi) h5;have hs : Builtin.Range.small lo hi c = true := by
  unfold Builtin.Range.small;simp only [Builtin.Range.rangeFitsLong, Bool.and_eq_true, Bool.or_eq_true, decide_eq_true_eq, beq_iff_eq, if_pos (show c > 0 from h5)];omega
 refine wpAny_pyIter_range (IsRange.new ..) hs ?_;have I1 : Inv X pins σ H { s with heap := s.heap.push { cls := .type "range", data := .fields #[.int lo t, .int hi u, .int c v] }, toks := tk } := I.kept fun b o e => Heap.get?_push_of_some _ e
 refine ⟨(s.heap.push { cls := .type "range", data := .fields #[.int lo t, .int hi u, .int c v] }).objs.size, [(s.heap.push { cls := .type "range", data := .fields #[.int lo t, .int hi u, .int c v] }).objs.size], _, _, H, rfl,
  I1.kept (t' := tk) fun b o e => Heap.get?_push_of_some _ e, Ziz _ lo c (rsz lo hi c), ?_, fun b hb => ?_, q⟩
 ·have e1 : lo + ((0 : Nat) : Int) * c = lo := by simp
  have e2 : ((rsz lo hi c : Nat) : Int) - ((0 : Nat) : Int) = Builtin.Range.rangeSize lo hi c := by unfold rsz; omega
  show IsRangeIter _ _ (lo + ((0 : Nat) : Int) * c) (((rsz lo hi c : Nat) : Int) - ((0 : Nat) : Int)) c;rw [e1, e2];exact Heap.get?_push_size _ rfl
 ·have e : b = (s.heap.push { cls := .type "range", data := .fields #[.int lo t, .int hi u, .int c v] }).objs.size := by simpa using hb
  subst e;exact I1.fpOk (Nat.le_refl _) (I1.hok.fresh (Nat.le_refl _))
theorem Zln {a b c : Expr} {ta : TA} {p pos : Pos} (hg : Gl X "range") (hm : X.mg "range" = none) (ha : PA X [a, b, c] ta) (hs : starEach [a, b, c] X.env = [(false, eval a X.env), (false, eval b X.env), (false, eval c X.env)] := by rfl) (hs2 : starEach [b, c] X.env = [(false, eval b X.env), (false, eval c X.env)] := by rfl) :
  PI X tg (.Call (.Name "range" p) [a, b, c] [] pos) (Zq0 ta) := by
 intro pins s σ H R I h;refine Call_ (Zil I hg hm boot_range (PyProof.Rows.callWith_type1 (thn (ha pos pins s σ H _ I h) fun us s1 ⟨vs, H1, I1, r1, q1⟩ => ?_) (by rw [hs, hs2]) (by rw [hs2]; rfl)));obtain ⟨i, j, k, e, ⟨q1, q2, q3, q4, q5, q6⟩, q⟩ := q1;subst e;cases r1 with
 | cons r rr =>
  cases rr with
  | cons r' rr =>
   cases rr with
   | cons r'' rr =>
    cases rr;obtain ⟨t, rfl⟩ := r;obtain ⟨t', rfl⟩ := r';obtain ⟨t'', rfl⟩ := r'';exact call_range_3 (by omega) (Zlg I1 q1 q2 q3 q4 q5 q6 q) (Or.inl (PyProof.noPylong_small (by omega)))
end
section
variable {caps : List (Option Nat)} {g : TG} {tc : TT} {te : TE}
theorem Zjg {lo st : Int} {n : Nat} {σ : St} {H1 : Hp} {Q : VK} (Pv : Nat -> List V -> St -> Hp -> Prop) (h0 : Pv 0 [] (capSt caps σ) H1) (hl : ∀ i ys σ H, Pv i ys σ H -> i <= n -> ys.length <= i) (hz : n <= sizeLine)
  (hs : ∀ i ys σ H, i < n -> Pv i ys σ H -> g (.int (lo + i * st)) σ H fun σ2 H2 => tc σ2 H2 fun b H3 => if b = true then te σ2 H3 fun y H4 => Pv (i + 1) (ys ++ [y]) σ2 H4 else Pv (i + 1) ys σ2 H3)
  (hd : ∀ ys σ H, Pv n ys σ H -> ∀ p G, H p = none -> Same H G -> G p = some (.lst ys) -> Q (.ref p) G) : Zga caps g tc te σ Q (Zrc lo st n) H1 := by
 refine ⟨fun i m ys σ H => m = n - i /\ i <= n /\ Pv i ys σ H, ⟨n, by simp, Nat.zero_le _, h0⟩, ?_⟩;rintro i m ys σ' H ⟨rfl, hi, p⟩;have hy := hl i ys σ' H p hi
 by_cases hlt : i < n
 ·refine .inr ⟨hlt, by omega, fun ys σ H => Pv (i + 1) ys σ H, fun ys σ H p' => ⟨n - (i + 1), by omega, rfl, hlt, p'⟩, fun x H' y => ?_⟩;obtain ⟨e, y⟩ := y;subst e y;exact hs i ys σ' _ hlt p
 ·have e : i = n := by omega
  subst e;exact .inl ⟨Nat.le_refl _, by omega, fun p' hp' => hd ys σ' H p p' _ hp' (Zbq hp') Zal⟩
end
section
variable {X : Cx}
def Zpp (n m : Int) : TE := fun _ H Q => ∀ p G, H p = none -> Same H G -> G p = some (.dK [(.inl n, .int m)]) -> Q (.ref p) G
end
end L2
set_option Elab.async false
set_option linter.all false
set_option maxRecDepth 100000
set_option maxHeartbeats 4000000
namespace L2
open PySem PySem.Spec PyProof.Rows
open Sem (wp)
open AutoSeq1 (wpAny_loadPart')
section
variable {prog : Program} {w : World} {A : Around} {E : Value -> Shared -> Prop} {s : Shared}
end
section
variable {prog : Program} {w : World} {A : Around} {E : Value -> Shared -> Prop} {s : Shared}
end
def Itn (K : PySem.W.Frag) (a : Addr) (c : Int) : It :=
 ⟨fun i H => ∃ xs x, SqL K H a xs /\ xs[i]? = some x, fun i H x H' => ∃ t y, x = .ref t /\ H t = none /\ Same H H' /\ H' t = some (.tup [.int (c + i), y]) /\ ∀ xs, SqL K H a xs -> xs[i]? = some y, fun i H => ∃ xs, SqL K H a xs /\ xs.length <= i⟩
section
variable {M : Model} {A : Around} {E : Value -> Shared -> Prop} {s : Shared} {env : Env}
end
section
variable {X : Cx} {K : PySem.W.Frag}
def Zq2 (K : PySem.W.Frag) (ta tb : TE) : TI := fun σ H R => ta σ H fun x H1 => tb σ H1 fun y H2 => ∃ l c, x = .ref l /\ y = .int c /\ -(2 ^ 62) <= c /\ c < 2 ^ 62 /\ (∃ xs, SqL K H2 l xs) /\ R (Itn K l c) H2
end
section
variable {X : Cx} {K : PySem.W.Frag}
def Zqc (K : PySem.W.Frag) : R2 := fun x y H Q => ∃ a b xs, x = .ref a /\ y = .ref b /\ SqL K H a xs /\ SqL K H b [] /\ Q (.bl (decide (xs.length = 0))) H
def Ztk : R2 := fun y x H Q => ∃ a n kvs, y = .int n /\ x = .ref a /\ H a = some (.dK kvs) /\ Q (.bl (valV kvs (Sum.inl n)).isSome) H
end
end L2
set_option Elab.async false
set_option linter.all false
set_option maxRecDepth 100000
namespace L2
open PySem PySem.Spec PyProof.Rows
section
variable {X : Cx} {pos pos' p0 : Pos} {o i value : Expr} {td ty tv tz : TE}
def Zpx (td ty tv : TE) : TS := fun D σ H => tv σ H fun v H1 => td σ H1 fun x H2 => ty σ H2 fun y H3 => ∃ a n kvs, x = .ref a /\ y = .str n /\ H3 a = some (.dK kvs) /\ kvs.length < sizeLine /\ ∀ G, But a H3 G -> G a = some (.dK (Zq9 kvs (.inr n) v)) -> D.nx σ G
def Zr7 : R2 := fun y x H Q => ∃ a n kvs, y = .str n /\ x = .ref a /\ H a = some (.dK kvs) /\ Q (.bl (valV kvs (Sum.inr n)).isSome) H
def Zqd : V -> List V -> Hp -> VK -> Prop := fun x vs H Q => ∃ a n kvs z, x = .ref a /\ vs = [.int n, z] /\ H a = some (.dK kvs) /\ Q ((valV kvs (Sum.inl n)).getD z) H
end
section
variable {X : Cx} {K : PySem.W.Frag}
def Zrz (K : PySem.W.Frag) : List V -> Hp -> VK -> Prop := fun xs H Q => ∃ (p : Addr) (ns : List Int), xs = [.ref p] /\ SqL K H p (ns.map V.int) /\ ns ≠ [] /\ ∀ v, v ∈ ns -> (∀ y ∈ ns, y <= v) -> Q (.int v) H
end
def Zr5 (K : PySem.W.Frag) : List V -> Hp -> VK -> Prop := fun xs H Q => ∃ a C1 C2 dx fs b, xs = [.ref a, .ref C2] /\ H a = some (.ins C1 dx fs) /\ Cls K C1 /\ Zpb K C1 /\ PySem.W.kitOne K (.ref C1) (.ref C2) = some b /\ Q (.bl b) H
end L2
set_option Elab.async false
set_option linter.all false
namespace L2
open PySem PySem.Spec PyProof.Rows
section
variable {X : Cx} {K : PySem.W.Frag}
def Zoh (K : PySem.W.Frag) : R2 := fun x y H Q => ∃ (a b : Addr) (xs : List Addr), x = .ref a /\ y = .ref b /\ SqL K H a (xs.map V.ref) /\ SqL K H b (xs.map V.ref) /\ Q (.bl false) H
end
end L2
set_option Elab.async false
set_option linter.all false
namespace L2
open PySem PySem.Spec PyProof.Rows
section
variable {rest es : List Expr} {env : Env} {pos : Pos} {a b c : Expr}
theorem Zfs : starEach (.List es pos :: rest) env = (false, eval (.List es pos) env) :: starEach rest env := rfl
theorem Zae {v : Const} {k : Nat} : starEach (.Constant v k pos :: rest) env = (false, eval (.Constant v k pos) env) :: starEach rest env := rfl
theorem Zab {x : Str} : starEach (.Name x pos :: rest) env = (false, eval (.Name x pos) env) :: starEach rest env := rfl
theorem Zda {o : Operator} : starEach (.BinOp a o b pos :: rest) env = (false, eval (.BinOp a o b pos) env) :: starEach rest env := rfl
theorem Zav {ks : List Keyword} : starEach (.Call a es ks pos :: rest) env = (false, eval (.Call a es ks pos) env) :: starEach rest env := rfl
theorem Zaf {x : Str} : starEach (.Attribute a x pos :: rest) env = (false, eval (.Attribute a x pos) env) :: starEach rest env := rfl
theorem Zaj : starEach (.Subscript a b pos :: rest) env = (false, eval (.Subscript a b pos) env) :: starEach rest env := rfl
theorem Zgp {os : List CmpOp} : starEach (.Compare a os es pos :: rest) env = (false, eval (.Compare a os es pos) env) :: starEach rest env := rfl
theorem Zbz {gs : List Comprehension} {sc : Scope} : starEach (.ListComp a gs sc pos :: rest) env = (false, eval (.ListComp a gs sc pos) env) :: starEach rest env := rfl
end
end L2
set_option Elab.async false
set_option linter.all false
set_option maxRecDepth 100000
set_option maxHeartbeats 4000000
namespace L2
open PySem PySem.Spec PyProof.Rows
section
variable {prog : Program} {w : World} {J : Type} [DecidableEq J] {knd : HeapKind prog w J} {A : Around} {E : Value -> Shared -> Prop} {s : Shared} {d a : Addr} {k : J} {xs : List (J × Addr × Value)}
def Zse {β : Type} (xs : List (J × β)) (k : J) : List (J × β) := xs.filter fun x => !decide (x.1 = k)
end
section
variable {prog : Program} {w : World} {J : Type} [DecidableEq J] {knd : HeapKind prog w J} {d a : Addr}
end
section
variable {X : Cx} {K : PySem.W.Frag}
def Zof : V -> List V -> Hp -> VK -> Prop := fun x vs H Q => ∃ (a b : Addr) (k : List Key) (kvs : List (List Key × V)) (z : V), x = .ref a /\ vs = [.ref b, z] /\ H a = some (.dT kvs) /\ H b = some (.tup (k.map kV)) /\ kvs.length < sizeLine /\
 (∀ v, valV kvs k = some v -> Q v H) /\ (valV kvs k = none -> ∀ G, But a H G -> G a = some (.dT (kvs ++ [(k, z)])) -> Q z G)
def Zrw : V -> List V -> Hp -> VK -> Prop := fun x vs H Q => ∃ (a b : Addr) (k : List Key) (kvs : List (List Key × V)) (v : V), x = .ref a /\ vs = [.ref b] /\ H a = some (.dT kvs) /\ H b = some (.tup (k.map kV)) /\ valV kvs k = some v /\
 ∀ G, But a H G -> G a = some (.dT (Zse kvs k)) -> Q v G
end
end L2
set_option Elab.async false
set_option linter.all false
set_option maxRecDepth 100000
set_option maxHeartbeats 4000000
namespace L2
open PySem PySem.Spec PyProof.Rows
section
variable {X : Cx} {pins : List (Addr × Obj)} {σ : St} {H : Hp} {s : Shared} {d : Addr} {u0 u1 : HO}
end
section
variable {prog : Program} {w : World} {A : Around} {E : Value -> Shared -> Prop} {s : Shared} {d it : Addr} {o : Obj} {es : Array DictEntry} {ep i n : Nat}
end
section
variable {X : Cx} {K : PySem.W.Frag}
end
section
variable {caps : List (Option Nat)} {g : TG} {tc : TT} {te td : TE} {d : Addr} {kvs : List (List Key × V)} {σ : St} {H : Hp} {Q : VK}
end
section
variable {X : Cx} {pos pos' p0 : Pos} {o i value : Expr} {td ty tv tz : TE}
def Zpw (td ty tv : TE) : TS := fun D σ H => tv σ H fun v H1 => td σ H1 fun x H2 => ty σ H2 fun y H3 => ∃ (a b : Addr) (k : List Key) (kvs : List (List Key × V)), x = .ref a /\ y = .ref b /\ H3 a = some (.dT kvs) /\ H3 b = some (.tup (k.map kV)) /\ kvs.length < sizeLine /\ ∀ G, But a H3 G -> G a = some (.dT (Zq9 kvs k v)) -> D.nx σ G
def Zr6 : R2 := fun y x H Q => ∃ (a b : Addr) (k : List Key) (kvs : List (List Key × V)), y = .ref b /\ x = .ref a /\ Rd H a (.dT kvs) /\ H b = some (.tup (k.map kV)) /\ Q (.bl (valV kvs k).isSome) H
def Zmw : R2 := fun y x H Q => ∃ (a b : Addr) (k : List Key) (kvs : List (List Key × V)), y = .ref b /\ x = .ref a /\ Rd H a (.dT kvs) /\ H b = some (.tup (k.map kV)) /\ Q (.bl (!(valV kvs k).isSome)) H
def Zob : TE := fun _ H Q => ∀ p G, H p = none -> Same H G -> G p = some (.dT []) -> Q (.ref p) G
end
section
variable {X : Cx}
end
end L2
set_option Elab.async false
set_option linter.all false
set_option maxRecDepth 100000
set_option maxHeartbeats 4000000
namespace L2
open PySem PySem.Spec PyProof.Rows PySem.W
section
variable {X : Cx} {K : PySem.W.Frag}
def Zp4 (K : PySem.W.Frag) : R2 := fun x y H Q => ∃ a b xs, x = .ref a /\ y = .ref b /\ SqL K H a xs /\ SqL K H b [] /\ Q (.bl (!decide (xs.length = 0))) H
def Zp2 : List V -> Hp -> VK -> Prop := fun xs H Q => ∃ a, xs = [V.ref a] /\ H a = some (.dT []) /\ ∀ l G, H l = none -> Same H G -> G l = some (.lst []) -> Q (.ref l) G
end
end L2
set_option Elab.async false
set_option linter.all false
set_option maxRecDepth 100000
set_option maxHeartbeats 4000000
namespace L2
open PySem PySem.Spec PyProof.Rows
theorem ObjOk.there {P : Program} {w : World} {H : Hp} {h : Heap} {a : Addr} {o : HO} (x : ObjOk P w H h a o) : ∃ ob, h.get? a = some ob := by
 cases o with
 | lst xs => obtain ⟨_, _, _, _, e⟩ := x; exact ⟨_, e⟩
 | tup xs => obtain ⟨_, _, _, ob, e, _⟩ := x; exact ⟨_, e⟩
 | dK kvs => obtain ⟨_, _, _, _, o, _, _, e, _⟩ := x; exact ⟨_, e⟩
 | dT kvs => obtain ⟨_, _, _, _, o, _, _, e, _⟩ := x; exact ⟨_, e⟩
 | set S n => obtain ⟨o, _, _, _, e, _⟩ := x; exact ⟨_, e⟩
 | ins C dx fs => obtain ⟨_, _, _, e, _⟩ := x; exact ⟨_, e⟩
 | own y => obtain ⟨_, e⟩ := x; exact ⟨_, e⟩
 | xd fs => obtain ⟨_, ⟨_, _, _, e, _⟩, _⟩ := x; exact ⟨_, e⟩
 | rng lo hi => obtain ⟨_, _, _, e⟩ := x; exact ⟨_, e⟩
 | frz ob u => obtain ⟨e, _⟩ := x; exact ⟨_, e⟩
 | tbl ps => exact ⟨_, show h.get? a = some _ from x⟩
 | met f y => exact ⟨_, show h.get? a = some _ from x⟩
 | ext φ => obtain ⟨_, ⟨_, e⟩, _⟩ := x; exact ⟨_, e⟩
structure Flew (P : Program) (w : World) (outer : List Env) (H : Hp) (s : Shared) (a C : Addr) (t : Value) (B : Heap) (H' : Hp) (s' : Shared) : Prop where
 os : s'.os = s.os
 bare : AllBare s'.gens
 fly : Heap.FlyingW B outer a (.ref C) t s'.heap
 hok : HOk P w H' B
 un : Un (frs outer) [] H H' s.heap s'.heap
 keepB : ∀ b o, s.heap.get? b = some o -> b ∉ frs outer -> H b = none -> B.get? b = some o
 thereB : ∀ b o, s.heap.get? b = some o -> b ∉ frs outer -> ∃ o', B.get? b = some o'
def CXx (P : Program) (w : World) : CXT := fun outer H s E e s' => ∃ (a C : Addr) (t : Value) (B : Heap) (H' : Hp), e = .ref a /\ Flew P w outer H s a C t B H' s' /\ E (.ref C) none H'
structure Zkc (X : Cx) (E : XK) : Prop where
 stk : X.stack = X.env :: X.outer
 fr : X.env.frame = some X.env.locals
 ex : X.ex = []
 xe : ∀ e s, wpAny (model X.prog X.w) X.A (leaving X.env e) (fun _ s'' => CXx X.prog X.w X.outer X.H₀ X.s₀ E e s'') (fun e' s'' => CXx X.prog X.w X.outer X.H₀ X.s₀ E e' s'') s -> X.xe e s
section
variable {X : Cx} {pins : List (Addr × Obj)} {σ : St} {H : Hp} {s : Shared} {E E1 : XK}
theorem Zhy (L : X.stack = X.env :: X.outer) (fr : X.env.frame = some X.env.locals) {b : Addr} : b ∈ frs X.stack ↔ b = X.env.locals \/ b ∈ frs X.outer := by
 rw [L]; unfold frs; simp [fr]
theorem Zmu (I : Inv X pins σ H s) (L : Zkc X E) {h1 : Heap} {e C : Addr} {args : List Value} {tk : Nat} (hx : Heap.MadeExcOf s.heap h1 e (.ref C) args) (hE : E (.ref C) none H) : X.xe (.ref e) { s with heap := h1, toks := tk } := by
 refine L.xe _ _ ?_;have hne : ∀ b o, X.s₀.heap.get? b = some o -> b ∉ frs X.outer -> b ∉ frs X.stack := fun b o q hb hm => by
  rcases (Zhy L.stk L.fr).mp hm with rfl | hm
  ·exact absurd (Nat.lt_of_lt_of_le (Heap.lt_size q) I.ok.above) (Nat.lt_irrefl _)
  ·exact hb hm
 have nex : ∀ b, b ∉ X.ex := fun b => by rw [L.ex]; simp
 have hin : ∀ env ∈ X.stack, ∀ a, env.frame = some a -> a ∈ frs X.stack := fun env he a ha => List.mem_filterMap.mpr ⟨env, he, ha⟩
 have hff : s.heap.FunFrames (PySem.W.hideAll s.heap (frs X.stack)) (X.env :: X.outer) := L.stk ▸ PySem.W.funFrames_hide I.stack hin;refine wpAny_leaves_madeW (base := PySem.W.hideAll s.heap (frs X.stack)) (h := s.heap) (L := X.env.locals) (s := { s with heap := h1, toks := tk }) (L.stk ▸ I.ok.frames) L.fr (fun b o q => PySem.W.of_hideAll _ q) hff hx fun h' t fl _ _ sm => ?_
 have sm' : s.heap.UpToSlots h' := (Heap.UpToSlots.of_keeps hx.keeps).trans sm;have hB : ∀ b o, s.heap.get? b = some o -> b ∉ frs X.stack -> (PySem.W.hideAll s.heap (frs X.stack)).get? b = some o := fun b o q hb => PySem.W.hideAll_get _ q hb
 have nf : ∀ b o, b ∈ frs X.stack -> s.heap.get? b = some o -> ∀ vs, o.data ≠ .fields vs := fun b o hb q => by
  obtain ⟨_, o', q', z⟩ := I.stack.mem hb;rw [q] at q'; cases q'; exact z
 refine ⟨e, C, .ref t, _, H, rfl, ⟨I.os, I.bare, fl, fun a o q => ?_, ⟨fun b o q n hb _ => ?_, fun b o q n hb _ => ?_, fun b o q n _ => I.base.free b o q n (nex b), fun b o q _ => ?_, I.base.tups, I.base.frzs, I.base.tbls⟩, fun b o q hb n => ?_, fun b o q hb => ?_⟩, hE⟩
 ·refine (I.hok a o q).stay (fun b u hb z => hB b u z fun hm => ?_) (fun _ z => z) fun _ _ z => z
  have hn := I.stkFree b hm;rcases hb with rfl | hb
  ·rw [hn] at q; cases q
  ·rw [hn] at hb; cases hb
 ·exact fl.1 b o (hB b o (I.base.keep b o q n hb (nex b)) (hne b o q hb))
 ·obtain ⟨sl, z⟩ := I.base.slot b o q n hb (nex b);obtain ⟨sl', z'⟩ := sm' b _ z (nf b _ ((Zhy L.stk L.fr).mpr (.inr hb)) z);exact ⟨sl', z'⟩
 ·obtain ⟨o', z⟩ := I.base.there b o q (nex b)
  by_cases hb : b ∈ frs X.stack
  ·obtain ⟨sl', z'⟩ := sm' b _ z (nf b _ hb z);exact ⟨_, z'⟩
  ·exact ⟨o', fl.1 b o' (hB b o' z hb)⟩
 ·exact hB b o (I.base.keep b o q n hb (nex b)) (hne b o q hb)
 ·obtain ⟨o', z⟩ := I.base.there b o q (nex b);exact ⟨o', hB b o' z (hne b o q hb)⟩
theorem Znt (L : Zkc X E) (hE : ∀ C H', E1 (.ref C) none H' -> E (.ref C) none H') : Zfk (CXx X.prog X.w) X E1 := by
 intro pins σ H s e s' I c;obtain ⟨a, C, t, B, H', rfl, F, hq⟩ := c;refine L.xe _ _ ?_;have hne : ∀ b o, X.s₀.heap.get? b = some o -> b ∉ frs X.outer -> b ∉ frs X.stack := fun b o q hb hm => by
  rcases (Zhy L.stk L.fr).mp hm with rfl | hm
  ·exact absurd (Nat.lt_of_lt_of_le (Heap.lt_size q) I.ok.above) (Nat.lt_irrefl _)
  ·exact hb hm
 have nex : ∀ b, b ∉ X.ex := fun b => by rw [L.ex]; simp
 refine wpAny_leaves_onW (base := B) (L := X.env.locals) (L.stk ▸ I.ok.frames) L.fr (L.stk ▸ F.fly) fun h' fl sm => ?_
 have nf : ∀ b o, b ∈ frs X.stack -> s'.heap.get? b = some o -> ∀ vs, o.data ≠ .fields vs := fun b o hb q => by
  obtain ⟨_, o', q', z⟩ := F.fly.2.2.1.mem hb;rw [q] at q'; cases q'; exact z
 refine ⟨a, C, t, B, H', rfl, ⟨F.os.trans I.os, F.bare, fl, F.hok, ⟨fun b o q n hb _ => ?_, fun b o q n hb _ => ?_, fun b o q n _ => ?_, fun b o q _ => ?_, fun b xs z => F.un.tups b xs (I.base.tups b xs z), fun b ob xs z => F.un.frzs b ob xs (I.base.frzs b ob xs z), fun b ps z => ?_⟩, fun b o q hb n => ?_, fun b o q hb => ?_⟩, hE C H' hq⟩
 ·exact fl.1 b o (F.keepB b o (I.base.keep b o q n hb (nex b)) (hne b o q hb) (I.base.free b o q n (nex b)))
 ·obtain ⟨sl, z⟩ := I.base.slot b o q n hb (nex b);have hs : b ∈ frs X.stack := (Zhy L.stk L.fr).mpr (.inr hb);obtain ⟨sl1, z1⟩ := F.un.slot b _ z (I.base.free b o q n (nex b)) hs (by simp);obtain ⟨sl2, z2⟩ := sm b _ z1 (nf b _ hs z1);exact ⟨sl2, z2⟩
 ·obtain ⟨o', z⟩ := I.base.there b o q (nex b);exact F.un.free b o' z (I.base.free b o q n (nex b)) (by simp)
 ·obtain ⟨o', z⟩ := I.base.there b o q (nex b);obtain ⟨o1, z1⟩ := F.un.there b o' z (by simp)
  by_cases hb : b ∈ frs X.stack
  ·obtain ⟨sl', z'⟩ := sm b _ z1 (nf b _ hb z1);exact ⟨_, z'⟩
  ·obtain ⟨o2, z2⟩ := F.thereB b o' z hb;exact ⟨o2, fl.1 b o2 z2⟩
 ·obtain ⟨m1, e1⟩ := I.base.tbls b ps z;obtain ⟨m2, e2⟩ := F.un.tbls b _ e1;exact ⟨m1 ++ m2, by rw [e2, Array.append_assoc]⟩
 ·exact F.keepB b o (I.base.keep b o q n hb (nex b)) (hne b o q hb) (I.base.free b o q n (nex b))
 ·obtain ⟨o', z⟩ := I.base.there b o q (nex b);exact F.thereB b o' z (hne b o q hb)
end
theorem Zev {P : Program} {w : World} {K : PySem.W.Frag} {mg : Str -> Option Value} {base : Heap} {N : List Str} {qual : Str} {scope : Scope} {f : Addr} {cd : Value} {A : Around} {outer : List Env} {s : Shared} {H : Hp} {E : XK} :
  Zkc (cxOf (CXx P w) P w K mg base N qual scope f cd A outer s H E) E := ⟨rfl, rfl, rfl, fun _ _ h => h⟩
end L2
set_option Elab.async false
set_option linter.all false
set_option maxRecDepth 100000
set_option maxHeartbeats 4000000
namespace L2
open PySem PySem.Spec PyProof.Rows
structure FnX (P : Program) (w : World) (K : PySem.W.Frag) (mg : Str -> Option Value) (base : Heap) (x : Str) (k : Nat) (ps : List Str) (dvs : List V) (sp : Sp) : Prop where
 ex : ∃ (f : Addr) (fd : FuncData) (ds : List Value), FnOk P w K mg base (CXx P w) k f fd ps sp /\ mg x = some (.ref f) /\ PySem.W.keepIn K (.ref f) = true /\ Binds K fd ps ds /\ Vals dvs ds
structure CtX (P : Program) (w : World) (K : PySem.W.Frag) (mg : Str -> Option Value) (base : Heap) (x : Str) (k : Nat) (sp : Sp) : Prop where
 ex : ∃ (f C : Addr) (fd : FuncData) (ds : List Value) (dvs : List V) (ps : List Str) (sp0 : Sp), FnOk P w K mg base (CXx P w) k f fd ps sp0 /\ mg x = some (.ref C) /\ Mk K C f /\ Binds K fd ps ds /\ Vals dvs ds /\
  ∀ vs H Q E, sp vs H Q E -> ∀ y dx G, H y = none -> H dx = none -> dx ≠ y -> Same H G -> G y = some (.ins C dx []) -> sp0 (.ref y :: (vs ++ dvs)) G (fun v H2 => v = .non /\ Q (.ref y) H2) E
section
variable {X : Cx} {k : Nat} {ps : List Str} {sp : Sp} {dvs : List V} {x : Str} {p pos : Pos} {e : Expr} {es : List Expr} {t : TA} {E : XK}
theorem Zfp (F : FnX X.prog X.w X.K X.mg X.base x k ps dvs sp) (hr : Room k X.A) (hg : Gl X x) (hx : Zfk (CXx X.prog X.w) X E) (ha : PA X (e :: es) t) (hdb : (x == ("__debug__" : Str)) = false := by decide)
  (he : starEach (e :: es) X.env = (false, eval e X.env) :: starEach es X.env := by rfl) (hpl : (backTo pos (starEach es X.env)).any (·.1) = false := by rfl) : PE X (.Call (.Name x p) (e :: es) [] pos) (Zk4 sp dvs E t) := by
 obtain ⟨f, fd, ds, G, hm, hk, hb, hd⟩ := F.ex;exact Zlp G hr hg hm hk hb hd hx ha hdb he hpl
end
section
variable {P : Program} {w : World} {K : PySem.W.Frag} {mg : Str -> Option Value} {base : Heap}
theorem Fun.okX {x qual : Str} {st : Stmt} {f : Addr} {fd : FuncData} {N ps : List Str} {k : Nat} {sp : Sp} (F : Fun K x qual st f fd) (S : Zaq N ps (defScope st)) (len : ∀ vs H Q E, sp vs H Q E -> vs.length = ps.length)
  (hbody : ∀ (cdv : Value) (A : Around) (outer : List Env) (s : Shared) (H : Hp) (vs : List V) (Q : VK) (E : XK), Room k (A.deeper (envOfC qual (defScope st) s.heap.objs.size f cdv)) -> sp vs H Q E ->
   ∃ t, PSs (cxOf (CXx P w) P w K mg base N qual (defScope st) f cdv A outer s H E) (defBody st) t /\ t { nx := fun _ H' => Q .non H', rt := Q } (start N vs) H) : FnOk P w K mg base (CXx P w) (k + 1) f fd ps sp := by
 obtain ⟨oc, od, kV, doc, pm, an, cdv, ct, osl, rfl, lk, hcd⟩ := F.ex;exact Znc lk hcd S len fun A outer s H vs Q E hr hsp => hbody cdv A outer s H vs Q E hr hsp
end
abbrev Zsc : List Value := [.type "ValueError", .type "Exception", .type "BaseException", .type "object"]
structure XC (K : PySem.W.Frag) (mg : Str -> Option Value) (x : Str) (C : Addr) : Prop where
 m : mg x = some (.ref C)
 exc : PySem.W.excIn K C Zsc "ValueError.__new__" = true
theorem XC.obj {K : PySem.W.Frag} {mg : Str -> Option Value} {x : Str} {C : Addr} (c : XC K mg x C) {h : Heap} (X : K.In h) :
  ∃ bm N nm q bs hdct sn sub ab col dd k0 k1 k2 k3 k5 mN, h.get? C = some (excClassObj nm q C N bs bm hdct sn sub ab col dd k0 k1 k2 k3 k5 "ValueError.__new__") /\ h.Ns N mN /\ mN "__init__" = none /\ OwnTail h Zsc bm := by
 have q := c.exc;unfold PySem.W.excIn at q
 split at q
 ·rename_i dd cd sl ho
  split at q
  ·rename_i C' bm k0 k1 k2 k3 n k5 hm hs
   rw [Bool.and_eq_true, Bool.and_eq_true, Bool.and_eq_true, Bool.and_eq_true, Bool.and_eq_true, beq_iff_eq, beq_iff_eq, beq_iff_eq, Bool.not_eq_true'] at q;obtain ⟨⟨⟨⟨⟨rfl, rfl⟩, hdel⟩, ht⟩, hok⟩, hni⟩ := q;obtain ⟨nm, bs, mro, ns, qn, hd, sn, sub, ab, col, del⟩ := cd;have hm : mro = .ref C' :: bm := hm;have hdel : del = false := hdel;subst hm hdel;obtain rfl : sl = #[k0, k1, k2, k3, some (.builtin "ValueError.__new__"), k5] := by
    rw [<- Array.toList_inj]; exact hs
   exact ⟨bm, ns, nm, qn, bs, hd, sn, sub, ab, col, dd, k0, k1, k2, k3, k5, _, X _ _ ho, .of_isNs (PySem.W.isNs_of_in X hok), PySem.W.nsMap_none_of_in X hok hni, PySem.W.tail_of_in X ht⟩
  ·cases q
 ·cases q
def Zni (te : TE) (C : Addr) (E : XK) : TS := fun _ σ H => te σ H fun _ H1 => E (.ref C) none H1
theorem Zjv {X : Cx} {E : XK} {x : Str} {C : Addr} {e : Expr} {te : TE} {np cpos pos : Pos} (L : Zkc X E) (hc : X.calm = true) (hg : Gl X x) (c : XC X.K X.mg x C) (ha : PE X e te) (hdb : (x == ("__debug__" : Str)) = false := by decide)
  (he : starEach [e] X.env = [(false, eval e X.env)] := by rfl) : PS X (.Raise (some (.Call (.Name x np) [e] [] cpos)) none pos) (Zni te C E) := by
 intro pins s σ H D I h;obtain ⟨tl, N, nm, q, bs, hdct, sn, sub, ab, col, dd, k0, k1, k2, k3, k5, mN, hC, hN, hni, T⟩ := c.obj I.ok.mod.kin;refine wpAny_Raise_call_subT (C := C) (nm := nm) (q := q) (N := N) (bs := bs) (bm := tl) (hdct := hdct) (sn := sn) (sub := sub) (ab := ab) (col := col) (dd := dd) (k0 := k0) (k1 := k1) (k2 := k2) (k3 := k3) (k5 := k5)
  PySem.F.excBase_ValueError (mN := mN) (T.hasType PySem.F.excBase_ValueError.hasBase) (I.ok.hd hc) (by rw [he]; rfl) hni (Zfc I hg c.m ⟨rfl, ?_⟩ hdb)
 rw [he];refine Calls.evalArgs_plain (Calls.spliced_cons (thn (ha pins s σ H _ I h) fun u s1 ⟨y, H1, I1, ry, q1⟩ => Calls.spliced_nil ⟨rfl, ?_⟩));refine ⟨Zan (by show 1 <= 100000; decide), I1.bk _ _ hC, hN.keeps I1.bk, T.keeps I1.bk, fun h' e hm => ?_⟩;exact Zmu (tk := s1.toks) I1 L hm q1
end L2
set_option Elab.async false
set_option linter.all false
set_option maxRecDepth 100000
set_option maxHeartbeats 4000000
namespace L2
open PySem PySem.Spec PyProof.Rows PySem.Builtin PySem.Builtin.ObjectAttr PySem.Builtin.Getset_descriptor
structure Ztc (K : PySem.W.Frag) (C : Addr) : Prop where
 ga : PySem.W.findIn K (.ref C) "__getattribute__" = some (some (.builtin "BaseException.__getattribute__"))
 gt : PySem.W.findIn K (.ref C) "__getattr__" = some none
 cl : PySem.W.findIn K (.ref C) "__class__" = some (some (.builtin "object.__class__"))
 ob : PySem.W.mroIn K C (.type "object") = some true
 bs : PySem.W.mroIn K C (.type "BaseException") = some true
section
variable {prog : Program} {w : World} {A : Around} {E : Value -> Shared -> Prop} {h : Heap} {g : Array GenState} {d : Drawn} {t : Nat} {os : OsState} {a C : Addr} {o : Obj} {K : PySem.W.Frag}
theorem Znz {M : Model} (hx : h.get? a = some o) (hc : o.cls = .ref C) : PySem.W.Looks M h (typeOf (.ref a)) (.ref C) := hc ▸ (PySem.W.Looks.ld hx).andThen .now
end
def Zq7 (C e : Addr) : Heap -> Prop := fun h => ∃ o, h.get? e = some o /\ o.cls = .ref C
def HX (C e : Addr) : HO := .ext (Zq7 C e)
inductive XTy (K : PySem.W.Frag) (H : Hp) : V -> Value -> Prop where
 | non : XTy K H .non (.type "NoneType")
 | exc {e C : Addr} (he : H e = some (HX C e)) (c : Ztc K C) : XTy K H (.ref e) (.ref C)
def Zr4 (K : PySem.W.Frag) : List V -> Hp -> VK -> Prop := fun xs H Q => ∃ x c t b, xs = [x, c] /\ XTy K H x t /\ Zqz c = true /\ PySem.W.kitOne K t (Zsk c) = some b /\ Q (.bl b) H
end L2
set_option Elab.async false
set_option linter.all false
set_option maxRecDepth 100000
set_option maxHeartbeats 4000000
namespace L2
open PySem PySem.Spec PyProof.Rows
section
variable {X : Cx} {pins : List (Addr × Obj)} {σ : St} {H H' : Hp} {s s' : Shared} {e C : Addr} {t : Value} {B h5 : Heap}
theorem HX.ok {P : Program} {w : World} {H : Hp} {h : Heap} (x : Zq7 C e h) : ObjOk P w H h e (HX C e) := by
 obtain ⟨o, h1, h2⟩ := x;exact ⟨⟨o, h1, h2⟩, ⟨o, h1⟩, fun a b ⟨o, q1, q2⟩ k => ⟨o, k o q1, q2⟩⟩
theorem Flew.noE (F : Flew X.prog X.w X.stack H s e C t B H' s') : H' e = none := by
 cases q : H' e with
 | none => rfl
 | some o =>
  obtain ⟨ob, z⟩ := (F.hok e o q).there;rw [F.fly.2.1] at z; cases z
theorem Flew.caught (I : Inv X pins σ H s) (F : Flew X.prog X.w X.stack H s e C t B H' s') (fl : Heap.FlyingW B X.stack e (.ref C) t h5) (sm : s'.heap.UpToSlots h5) :
  Inv X pins σ (upd H' e (HX C e)) { s' with heap := h5 } := by
 have nf : ∀ b o, b ∈ frs X.stack -> s'.heap.get? b = some o -> ∀ vs, o.data ≠ .fields vs := fun b o hb q => by
  obtain ⟨_, o', q', z⟩ := F.fly.2.2.1.mem hb;rw [q] at q'; cases q'; exact z
 obtain ⟨oe, vs, he, hec, hed, _⟩ := fl.first;have ne : ∀ b o, s.heap.get? b = some o -> b ≠ e := fun b o q z => by
  subst z
  by_cases hb : b ∈ frs X.stack
  ·obtain ⟨_, o', q', z'⟩ := fl.2.2.1.mem hb;rw [he] at q'; cases q'; exact z' vs hed
  ·obtain ⟨o', q'⟩ := F.thereB b o q hb;rw [F.fly.2.1] at q'; cases q'
 have neT : ∀ b u, H' b = some u -> b ≠ e := fun b u q z => by subst z; rw [F.noE] at q; cases q
 refine I.call' (ch := []) F.os ⟨fun b o q n hb _ => fl.1 b o (F.keepB b o q hb n), fun b o q n hb _ => ?_, fun b o q n _ => ?_, fun b o q _ => ?_, fun b xs z => ?_, fun b ob xs z => ?_, fun b ps z => ?_⟩ (fun b o q => ?_) F.bare (fun b z => absurd z (by simp))
 ·obtain ⟨sl1, z1⟩ := F.un.slot b o q n hb (by simp);obtain ⟨sl2, z2⟩ := sm b _ z1 (nf b _ hb z1);exact ⟨sl2, z2⟩
 ·rw [Zao (ne b o q)]; exact F.un.free b o q n (by simp)
 ·obtain ⟨o1, z1⟩ := F.un.there b o q (by simp)
  by_cases hb : b ∈ frs X.stack
  ·obtain ⟨sl', z'⟩ := sm b _ z1 (nf b _ hb z1);exact ⟨_, z'⟩
  ·obtain ⟨o2, z2⟩ := F.thereB b o q hb;exact ⟨o2, fl.1 b o2 z2⟩
 ·have := F.un.tups b xs z; rw [Zao (neT b _ this)]; exact this
 ·have := F.un.frzs b ob xs z; rw [Zao (neT b _ this)]; exact this
 ·obtain ⟨m, this⟩ := F.un.tbls b ps z;exact ⟨m, by rw [Zao (neT b _ this)]; exact this⟩
 ·by_cases hb : b = e
  ·subst hb;rw [Zal] at q; cases q;exact HX.ok ⟨oe, he, hec⟩
  ·rw [Zao hb] at q;exact (F.hok b o q).stay (fun c u _ z => fl.1 c u z) (fun c z => by rw [Zao (neT c _ z)]; exact z) fun c xs z => by rw [Zao (neT c _ z)]; exact z
abbrev Cx.marked (X : Cx) (e : Addr) : Cx := { X with A := X.A.mark (some (.ref e)), calm := false, xe := fun _ _ => False }
theorem Cx.Ok.marked (ok : X.Ok) (e : Addr) : (X.marked e).Ok :=
 ⟨ok.mod, ok.kind, ok.glob, ok.blt, ok.above, ok.inj, ok.has, ok.cab, fun z => (by cases z), ok.frames, ok.stk, ok.exf, ok.bs, ok.bsz, ok.noex, ok.exfs, ok.funs, ok.frf⟩
theorem Inv.marked (I : Inv X pins σ H s) (e : Addr) : Inv (X.marked e) pins σ H s := ⟨I.ok.marked e, I.os, I.bare, I.base, I.loc, I.cell, I.free, I.freeC, I.pin, I.hok, I.len⟩
theorem Inv.unmarked (ok : X.Ok) (I : Inv (X.marked e) pins σ H s) : Inv X pins σ H s := ⟨ok, I.os, I.bare, I.base, I.loc, I.cell, I.free, I.freeC, I.pin, I.hok, I.len⟩
end
def Ztd (P : Program) (w : World) (K : PySem.W.Frag) (mg : Str -> Option Value) (base : Heap) (k : Nat) (f : Addr) (H : Hp) (Q : VK) (E : XK) : Prop :=
 ∀ (A : Around) (outer : List Env) (s : Shared), Room k A -> Env0 P w K mg base A outer s H -> codeAny (model P w) A (.call (.ref f) ⟨[], []⟩) (CR (CXx P w) outer P w H s Q E) s
structure Zq4 (K : PySem.W.Frag) (W : Addr) : Prop where
 ty : PySem.W.typeIn K (.ref W) = some (.type "type")
 bs : PySem.W.mroIn K W (.type "BaseException") = some true
theorem Zmn {prog : Program} {w : World} {A : Around} {E : Value -> Shared -> Prop} {h : Heap} {g : Array GenState} {d : Drawn} {t : Nat} {os : OsState} {a C W : Addr} {o : Obj} {K : PySem.W.Frag} {Q : Bool -> Shared -> Prop}
  (X : K.In h) (cw : Zq4 K W) (hm : PySem.W.mroIn K C (.ref W) = some true) (hx : h.get? a = some o) (hc : o.cls = .ref C) (hq : Q true ⟨h, g, d, t, os⟩) : wpAny (model prog w) A (excMatches (.ref a) (.ref W)) Q E ⟨h, g, d, t, os⟩ := by
 have La := Znz (M := model prog w) hx hc; have Lb := PySem.W.looks_mroIn (M := model prog w) X cw.bs; have Lc := PySem.W.looks_mroIn (M := model prog w) X hm; have Ld := PySem.W.looks_typeIn (M := model prog w) X cw.ty;have f := tc_notTuple;have Le : PySem.W.Looks (model prog w) h (isType (.ref W)) true := by
  obtain ⟨cd, hcd, _⟩ := Option.bind_eq_some_iff.mp cw.bs;unfold PySem.W.clsIn at hcd
  split at hcd
  ·rename_i c1 d1 cd1 sl1 ho
   intro A' Q' E' s' k q; unfold isType loadHead;exact wpAny_bind (wpAny_loadPart (k _ _ (X _ _ ho)) (wpAny_pure q))
  ·cases hcd
 unfold excMatches isInstance isExcClass
 repeat (any_goals (first | assumption | with_reducible refine La.at ?_ | with_reducible refine Lb.at ?_ | with_reducible refine Lc.at ?_ | with_reducible refine Ld.at ?_ | with_reducible refine Le.at ?_ | wp_step))
def Zn5 (P : Program) (w : World) (K : PySem.W.Frag) (mg : Str -> Option Value) (base : Heap) (k i j : Nat) (W : Addr) (ts : TS) : TS := fun D σ H => ∃ f o u fd, σ[i]? = some (some (.ref f)) /\ H f = some (.frz o u) /\ o.data = .func fd /\
 ∃ E1 : XK, Ztd P w K mg base k f H (fun _ H' => D.nx σ H') E1 /\ ∀ C H', E1 (.ref C) none H' -> PySem.W.mroIn K C (.ref W) = some true /\ ∀ e G, H' e = none -> Same H' G -> G e = some (HX C e) ->
  ts { nx := fun σ' H2 => D.nx (σ'.set j none) H2, rt := D.rt, bk := fun σ' H2 => D.bk (σ'.set j none) H2, ct := fun σ' H2 => D.ct (σ'.set j none) H2 } (σ.set j (some (.ref e))) G
section
variable {X : Cx}
end
end L2
set_option Elab.async false
set_option linter.all false
set_option maxRecDepth 100000
set_option maxHeartbeats 4000000
namespace L2
open PySem PySem.Spec PyProof.Rows
def HT : HO := .ext fun _ => True
structure LamCx (mg : Str -> Option Value) (base : Heap) (c P : Addr) : Prop where
 hd : PySem.W.CodeHd base c P
 gP : mainGlobals ≠ P
 bt : base.BuiltinsAt mg P
structure Tab (H : Hp) (P : Addr) (q : Str) : Prop where
 ex : ∃ ps, H P = some (.tbl ps) /\ TriplesOk ps.toList /\ ∀ pos cv, codeAmong pos ps.toList = some cv -> ∃ c' oc vs t, cv = .ref c' /\ H c' = some (.frz oc HT) /\ oc.data = .fields vs /\ vs[1]? = some (.str q t)
section
variable {X : Cx} {pins : List (Addr × Obj)} {σ : St} {H : Hp} {s : Shared} {c P : Addr} {q : Str}
abbrev lamO (q : Str) (params : Arguments) (body : Expr) (scope : Scope) (cl : List (Str × Addr)) (pm cv ctv : Value) : Obj := { cls := .type "function", data := .func (PySem.W.kla_fn "<lambda>" q params body scope cl pm cv ctv) }
end
end L2
set_option Elab.async false
set_option linter.all false
set_option maxRecDepth 100000
set_option maxHeartbeats 4000000
namespace L2
open PySem PySem.Spec PyProof.Rows
section
variable {cl : List (Str × Addr)} {h hs hs' : Heap} {G H2 Gc : Hp} {fs : List Addr} {P : Program} {w : World}
end
structure Znh (scope : Scope) (N' : List Str) : Prop where
 kind : scope.kind = .function
 co : scope.isCoroutine = false
 gen : scope.isGenerator = false
 nocell : ∀ y ∈ scope.names, y.2 ≠ .cell
 free : ∀ x ∈ N', scope.names.lookup x = some .free
def Holds (cl : List (Str × Addr)) (h : Heap) (N' : List Str) (σ : St) : Prop := ∀ (i : Nat) (x : Str) (v : V), N'[i]? = some x -> σ[i]? = some (some v) -> ∃ c o u, cl.lookup x = some c /\ h.get? c = some o /\ o.data = .cell (some u) /\ RelV v u
structure CellsOk (cl : List (Str × Addr)) (h : Heap) (scope : Scope) : Prop where
 inj : ∀ x y c, cl.lookup x = some c -> cl.lookup y = some c -> x = y
 has : ∀ x, (x, NameKind.free) ∈ scope.names -> ∃ c, cl.lookup x = some c
 cell : ∀ b ∈ cl.map (·.2), ∃ o v, h.get? b = some o /\ o.data = .cell v
section
variable {P : Program} {w : World} {K : PySem.W.Frag} {mg : Str -> Option Value} {base : Heap} {N' : List Str} {q : Str} {scope : Scope} {f c' : Addr} {cl : List (Str × Addr)} {params : Arguments} {body : Expr} {k : Nat} {h : Heap} {G : Hp} {σ : St} {te : XK -> TE} {pm ctv : Value}
end
end L2
set_option Elab.async false
set_option linter.all false
set_option maxRecDepth 100000
set_option maxHeartbeats 4000000
namespace L2
open PySem PySem.Spec PyProof.Rows
section
variable {X : Cx} {c P : Addr} {q : Str} {params : Arguments} {body : Expr} {scope : Scope} {cl : List (Str × Addr)} {lpos : Pos}
def Zn7 (Kd : Addr -> Str -> Prop) (P : Addr) (q : Str) (caps : List (Option Nat)) (te : XK -> TE) : TE := fun σ H Q => Tab H P q /\ ∀ G0, But P H G0 -> Tab G0 P q ->
 te (fun c _ H' => ∃ C wd, c = .ref C /\ Kd C wd /\ ∀ G, Same H' G -> Q (.str wd) G) (capSt caps σ) G0 (fun _ _ => False)
structure LamAt (X : Cx) (N' : List Str) (scope : Scope) (caps : List (Option Nat)) : Prop where
 s : Znh scope N'
 cap : Zq8 X.N N' scope caps
 vis : ∀ x, (x, NameKind.free) ∈ scope.names -> X.env.kindOf x = some .cell \/ X.env.kindOf x = some .free
variable {fn : Str} {p pos : Pos} {k k1 : Nat} {ps : List Str} {sp : Sp} {N' : List Str} {caps : List (Option Nat)} {te : XK -> TE} {Kd : Addr -> Str -> Prop}
end
end L2
set_option Elab.async false
set_option linter.all false
set_option maxRecDepth 100000
set_option maxHeartbeats 4000000
namespace L2
open PySem PySem.Spec PyProof.Rows
structure FunAt (K : PySem.W.Frag) (x qual : Str) (st : Stmt) (f : Addr) (fd : FuncData) (cdv : Value) : Prop where
 ex : ∃ (oc : Value) (od : Option Addr) (kV doc pm : Value) (an : Option Addr) (ct : Value) (osl : Array (Option Value)),
  fd = PySem.W.fnOf x qual (Zam st) (defBody st) (defScope st) .none kV doc pm an cdv ct /\ K.lookup f = some ⟨oc, od, .func fd, osl⟩ /\ PySem.W.codeIn K cdv qual = true
end L2
set_option Elab.async false
set_option linter.all false
set_option maxRecDepth 100000
set_option maxHeartbeats 4000000
namespace L2
open PySem PySem.Spec PyProof.Rows
theorem Zlq {X : Cx} : Zfk (CXx X.prog X.w) X E0 := fun _ _ _ _ _ _ _ h => by obtain ⟨_, _, _, _, _, _, _, h⟩ := h; exact h.elim
structure Bt5 (mg : Str -> Option Value) : Prop where
 ValueError : mg "ValueError" = none
structure KdOk (K : PySem.W.Frag) (W : Addr) (cs : List Addr) (C : Addr) (i : Nat) : Prop where
 e : Ztc K C
 w : PySem.W.mroIn K C (.ref W) = some true
 v : PySem.W.kitOne K (.ref C) (.type "ValueError") = some true
 k : ∀ j c, cs[j]? = some c -> PySem.W.kitOne K (.ref C) (.ref c) = some (decide (j = i))
def refWords : List Str := ["letter", "piece", "width", "wide", "rule", "time", "key", "text", "row", "room", "road"]
def Kd (K : PySem.W.Frag) (W : Addr) (cs : List Addr) (C : Addr) (wd : Str) : Prop := ∃ i, KdOk K W cs C i /\ refWords[i]? = some wd
def Zrr (K : PySem.W.Frag) : List V -> Hp -> VK -> Prop := fun xs H Q => ∃ p ys, xs = [.ref p] /\ SqL K H p ys /\ ∀ l G, H l = none -> Same H G -> G l = some (.tup ys) -> Q (.ref l) G
end L2
set_option Elab.async false
set_option linter.all false
set_option maxRecDepth 100000
set_option maxHeartbeats 4000000
namespace L2
open PySem PySem.Spec PyProof.Rows
section
variable {q : Str} {params : Arguments} {body : Expr} {scope : Scope} {N' : List Str} {H G : Hp} {f : Addr} {σ : St}
variable {P : Program} {w : World} {K : PySem.W.Frag} {mg : Str -> Option Value} {base : Heap} {k : Nat} {te : XK -> TE}
end
def Zps (P : Program) (w : World) (K : PySem.W.Frag) (mg : Str -> Option Value) (base : Heap) (k : Nat) (tf : TE) : TE := fun σ H Q => tf σ H fun x H1 => ∃ f o fd, x = .ref f /\ H1 f = some (.frz o HT) /\ o.data = .func fd /\ Ztd P w K mg base k f H1 Q E0
end L2
set_option Elab.async false
set_option linter.all false
set_option maxRecDepth 100000
set_option maxHeartbeats 4000000
namespace L2
open PySem PySem.Spec PyProof.Rows
end L2
set_option Elab.async false
set_option linter.all false
set_option maxRecDepth 100000
set_option maxHeartbeats 4000000
namespace L2
open PySem PySem.Spec PyProof.Rows
end L2
set_option Elab.async false
set_option linter.all false
set_option maxRecDepth 100000
set_option maxHeartbeats 4000000
namespace L2
open PySem PySem.Spec PyProof.Rows
section
variable {X : Cx} {c P : Addr} {q : Str} {params : Arguments} {body : Expr} {scope : Scope} {lpos : Pos} {H G : Hp} {f : Addr}
end
section
variable {X : Cx} {q : Str} {params : Arguments} {body : Expr} {scope : Scope} {H G : Hp} {f : Addr} {N' : List Str} {caps : List (Option Nat)} {te : XK -> TE} {k : Nat} {σ : St} {pins : List (Addr × Obj)} {s1 s2 : Shared} {cl : List (Str × Addr)}
end
section
variable {X : Cx} {N' : List Str} {s₀ : Shared} {H₀ : Hp} {env : Env} {outer : List Env} {ex : List Addr} {fn1 : Str -> Bool} {pn : List (Addr × Obj)} {xe : Value -> Shared -> Prop}
variable {fn : Str} {p pos : Pos} {k k1 : Nat} {ps : List Str} {sp : Sp} {e : Expr} {te : TE} {Kd : Addr -> Str -> Prop} {σo : St -> St}
end
section
variable {X : Cx} {k : Nat} {e : Expr} {te : TE} {pos : Pos}
end
section
variable {X : Cx} {elt tg iter : Expr} {ifs : List Expr} {scope : Scope} {pos : Pos} {N' : List Str} {caps : List (Option Nat)} {wi : TI} {g : TG} {tc : St -> TT} {te : TE}
end
section
variable {X : Cx} {fn : Str} {p pos : Pos} {k k1 : Nat} {ps : List Str} {sp : Sp} {e : Expr} {te : TE} {Kd : Addr -> Str -> Prop}
end
end L2
set_option Elab.async false
set_option linter.all false
set_option maxRecDepth 100000
set_option maxHeartbeats 4000000
namespace L2
open PySem PySem.Spec PyProof.Rows
end L2
set_option Elab.async false
set_option linter.all false
set_option maxRecDepth 100000
set_option maxHeartbeats 4000000
namespace L2
open PySem PySem.Spec PyProof.Rows
end L2
set_option Elab.async false
set_option linter.all false
set_option maxRecDepth 100000
set_option maxHeartbeats 4000000
namespace L2
open PySem PySem.Spec PyProof.Rows
end L2
set_option Elab.async false
set_option linter.all false
set_option maxRecDepth 100000
set_option maxHeartbeats 4000000
namespace L2
open PySem PySem.Spec PyProof.Rows
section
variable {X : Cx} {K : PySem.W.Frag}
theorem Zk5 : ∀ {ys : List Str} {its : List Value}, Vals (ys.map V.str) its -> StrsAre its ys
 | [], _, .nil => .nil
 | y :: ys, _, .cons r rs => by
  obtain ⟨t, rfl⟩ := (show ∃ t, _ = Value.str y t from r);exact .cons y t (Zk5 rs)
def Zp8 (K : PySem.W.Frag) : V -> List V -> Hp -> VK -> Prop := fun x vs H Q => ∃ sep l ys, x = .str sep /\ vs = [.ref l] /\ SqL K H l (ys.map V.str) /\ (ys.map (fun z : Str => z.length)).sum + ys.length * sep.length <= 16777216 /\ Q (.str (Txt.join sep ys)) H
theorem Zem (h : X.K = K) : MtR X "str.join" (Zp8 K) := by
 subst h;intro pins s σ H x vs v us Q I rx rv hh;obtain ⟨sep, l, ys, rfl, rfl, hl, hz, q⟩ := hh;obtain ⟨t, rfl⟩ := (show ∃ t, v = Value.str sep t from rx);obtain ⟨u, rfl, ru⟩ := rv.one;cases (show u = Value.ref l from ru);obtain ⟨its, r, pl, _⟩ := I.list hl;exact join_list pl.isList (by simpa using Zk5 r) hz fun t' k => ⟨.str _, H, I.tok k, ⟨t', rfl⟩, q⟩
theorem Zeo : ∀ (ys : List Str) (n : Nat), Vals (ys.map V.str) (strsFrom n ys)
 | [], _ => .nil
 | y :: ys, n => .cons ⟨_, rfl⟩ (Zeo ys (n + 1))
def Znk : V -> List V -> Hp -> VK -> Prop := fun x vs H Q => ∃ z y : Str, x = .str z /\ vs = [.str y] /\ (y.length == 0) = false /\ z.length <= 50000 /\ ∀ l G, H l = none -> Same H G -> G l = some (.lst ((Txt.split z y).map V.str)) -> Q (.ref l) G
theorem Zm3 : MtR X "str.split" Znk := by
 intro pins s σ H x vs v us Q I rx rv hh;obtain ⟨z, y, rfl, rfl, hy, hz, q⟩ := hh;obtain ⟨t, rfl⟩ := (show ∃ t, v = Value.str z t from rx);obtain ⟨u', rfl, ru⟩ := rv.one;obtain ⟨u, rfl⟩ := (show ∃ t, u' = Value.str y t from ru);have hline : 50002 <= sizeLine := Zan (by decide);have hsp := (fact_split z y).2;have hf : H s.heap.objs.size = none := I.hok.fresh (Nat.le_refl _);have fin : ∀ (its : List Value) (tk : Nat), Vals ((Txt.split z y).map V.str) its -> EP X pins σ Q (.ref s.heap.objs.size) { s with heap := s.heap.push { cls := .type "list", data := .seq its.toArray }, toks := tk } := fun its tk r => by
  refine ⟨.ref _, upd H s.heap.objs.size (.lst ((Txt.split z y).map V.str)), I.laid (t' := tk) (fun b u e => Heap.get?_push_of_some _ e) (Nat.le_refl _) ⟨?_, its, _, r, Heap.get?_push_size _ rfl⟩, rfl, q _ _ hf (Zbq hf) Zal⟩;rw [List.length_map]; omega
 by_cases h1 : (decide (z.length < y.length) || decide (Builtin.Str.strKind z < Builtin.Str.strKind y)) = true
 ·refine call_meets F.slot_str_split (typeIs_str s z t) F.entry_str_split (F.args_str_split_2 _ _) (meets_str_split_cannot_occur z y t u h1) ?_;have e : Txt.split z y = [z] := by unfold Txt.split; rw [if_pos h1]
  refine fin [.str z t] s.toks ?_;rw [e]; exact .cons ⟨t, rfl⟩ .nil
 ·have h1' : (decide (z.length < y.length) || decide (Builtin.Str.strKind z < Builtin.Str.strKind y)) = false := by simpa using h1
  by_cases h2 : (Builtin.Str.occurrences z y 0 z.length (z.length + 1)).isEmpty = true
  ·refine call_meets F.slot_str_split (typeIs_str s z t) F.entry_str_split (F.args_str_split_2 _ _) (meets_str_split_not_found z y t u h1' hy h2) ?_;have e : Txt.split z y = [z] := by unfold Txt.split; rw [if_neg h1, if_pos h2]
   refine fin [.str z t] s.toks ?_;rw [e]; exact .cons ⟨t, rfl⟩ .nil
  ·have e : Txt.split z y = Builtin.Str.partsBetween z (Builtin.Str.occurrences z y 0 z.length (z.length + 1)) y.length := by unfold Txt.split; rw [if_neg h1, if_neg h2]
   refine call_meets F.slot_str_split (typeIs_str s z t) F.entry_str_split (F.args_str_split_2 _ _) (meets_str_split_sep z y t u h1' hy (by simpa using h2) (by omega) (by rw [<- e]; omega)) ?_;rw [<- e];exact fin _ _ (Zeo _ _)
def Znm : V -> List V -> Hp -> VK -> Prop := fun x vs H Q => ∃ (z y : Str) (i : Nat) (rest : List Nat), x = .str z /\ vs = [.str y] /\ Builtin.Str.occurrences z y 0 z.length 1 = i :: rest /\ Q (.int i) H
theorem Zjy : MtR X "str.index" Znm := by
 intro pins s σ H x vs v us Q I rx rv hh;obtain ⟨z, y, i, rest, rfl, rfl, ho, q⟩ := hh;obtain ⟨t, rfl⟩ := (show ∃ t, v = Value.str z t from rx);obtain ⟨u', rfl, ru⟩ := rv.one;obtain ⟨u, rfl⟩ := (show ∃ t, u' = Value.str y t from ru);exact SC.index ho ⟨.int i, H, I.tok _, ⟨_, rfl⟩, q⟩
def Zlh : V -> List V -> Hp -> VK -> Prop := fun x vs H Q => ∃ z y : Str, x = .str z /\ vs = [.str y] /\ Q (.bl (Txt.startswith z y)) H
theorem Zlu : MtR X "str.startswith" Zlh := by
 intro pins s σ H x vs v us Q I rx rv hh;obtain ⟨z, y, rfl, rfl, q⟩ := hh;obtain ⟨t, rfl⟩ := (show ∃ t, v = Value.str z t from rx);obtain ⟨u', rfl, ru⟩ := rv.one;obtain ⟨u, rfl⟩ := (show ∃ t, u' = Value.str y t from ru);exact SC.startswith ⟨.bl _, H, I, rfl, q⟩
def Zs3 : R2 := fun x y H Q => ∃ z p : Str, x = .str p /\ y = .str z /\ Q (.bl (!(Builtin.Str.occurrences z p 0 z.length 1).isEmpty)) H
theorem Zql : OpR X (compareOp .In) Zs3 := by
 intro pins s σ H x y v u Q I rx ry hh;obtain ⟨z, p, rfl, rfl, q⟩ := hh;obtain ⟨t, rfl⟩ := (show ∃ t, v = Value.str p t from rx);obtain ⟨t', rfl⟩ := (show ∃ t, u = Value.str z t from ry);exact P.in_str ⟨.bl _, H, I, rfl, q⟩
def Zp0 : List V -> Hp -> VK -> Prop := fun xs H Q => ∃ n : Int, xs = [.int n] /\ n.natAbs.log2 < 1920 /\ Q (.str (Str.ofString (toString n))) H
theorem Zex : CallR X (.type "str") Zp0 := by
 intro pins s σ H xs us Q I r hh;obtain ⟨n, rfl, hn, q⟩ := hh;obtain ⟨u, rfl, ru⟩ := Zg2 r;obtain ⟨t, rfl⟩ := (show ∃ t, u = Value.int n t from ru);exact P.str_of_int hn ⟨.str _, H, I.tok _, ⟨_, rfl⟩, q⟩
def Zqb : List V -> Hp -> VK -> Prop := fun xs H Q => ∃ (n : Int) (z : Str), xs = [.str z] /\ intText? z = some n /\ z.length <= 640 /\ Q (.int n) H
theorem Zmj : CallR X (.type "int") Zqb := by
 intro pins s σ H xs us Q I r hh;obtain ⟨n, z, rfl, hn, hz, q⟩ := hh;obtain ⟨u, rfl, ru⟩ := Zg2 r;obtain ⟨t, rfl⟩ := (show ∃ t, u = Value.str z t from ru);exact W.KIN.call_text hn hz ⟨.int n, H, I.tok _, ⟨_, rfl⟩, q⟩
theorem Zcf {x : Str} {z : Str} {pos : Pos} (hg : Gl X x) (hm : ∃ t, X.mg x = some (.str z t)) (hd : (x == ("__debug__" : Str)) = false := by decide) : PE X (.Name x pos) (tC (.str z)) := by
 obtain ⟨t, e⟩ := hm;exact Zhk hg e ⟨t, rfl⟩ hd
end
section
variable {X : Cx}
theorem Zid {e : Expr} {te : TE} {p1 pos : Pos} {h₀ : ExceptHandler} (h : PE X.nox e te) : PS X (.Try [.Return (some e) p1] [h₀] [] [] pos) (Zrf te) := by
 intro pins s σ H D I hh;refine wpAny_Try_except (wpAny_execs_cons (wpAny_mono (Zar (pos := p1) h pins s σ H D (I.wish _) hh) (fun fl s1 hq => ?_) fun e s2 hq => hq.elim));cases fl with
 | next => exact wpAny_execs_nil (wpAny_execs_nil hq.unwish)
 | brk => exact SP.unwish hq
 | cont => exact SP.unwish hq
 | ret v => exact SP.unwish hq
def Zjl (sp : Sp) (i : Nat) (K : PySem.W.Frag) (W : Addr) (ts : TS) : TS := fun D σ H => ∃ v E1, σ[i]? = some (some v) /\ sp [v] H (fun _ H' => D.nx σ H') E1 /\ ∀ C H', E1 (.ref C) none H' -> PySem.W.mroIn K C (.ref W) = some true /\ ∀ G, Same H' G -> ts D σ G
theorem Zgr {k i : Nat} {f x wn : Str} {W : Addr} {ps : List Str} {sp : Sp} {b0 : Stmt} {suite : List Stmt} {ts : TS} {p0 p1 p2 p3 np hp pos : Pos} (F : FnX X.prog X.w X.K X.mg X.base f k ps [] sp) (hst : X.stack = X.env :: X.outer) (hfr : X.env.frame = some X.env.locals) (hr : Room k X.A)
  (hgf : Gl X f) (hi : X.N[i]? = some x) (hv : Vis X.env.scope x) (hgW : Gl X wn) (hmW : X.mg wn = some (.ref W)) (cw : Zq4 X.K W) (hs : ∀ e, PSs (X.marked e) (b0 :: suite) ts)
  (hd0 : (f == ("__debug__" : Str)) = false := by decide) (hd1 : (x == ("__debug__" : Str)) = false := by decide) (hd2 : (x == ("__classdict__" : Str)) = false := by decide) (hd3 : (wn == ("__debug__" : Str)) = false := by decide)
  (hsw : swapsWith (.Call (.Name f p0) [.Name x p1] [] p2) none p3.line X.env = pure false := by rfl) (he : starEach [Expr.Name x p1] X.env = [(false, eval (.Name x p1) X.env)] := by rfl) :
  PS X (.Try [.Expr (.Call (.Name f p0) [.Name x p1] [] p2) p3] [.ExceptHandler (some (.Name wn np)) none (b0 :: suite) hp] [] [] pos) (Zjl sp i X.K W ts) := by
 intro pins s σ H D I h;obtain ⟨v, E1, hσ, hsp, hx⟩ := h;obtain ⟨ff, fd, ds, GF, hm, hk, hbd, hd⟩ := F.ex;have callee : wpAny (model X.prog X.w) X.A (exec (.Expr (.Call (.Name f p0) [.Name x p1] [] p2) p3) X.env) (fun fl s1 => fl = .next /\ ∃ H1, Inv X pins σ H1 s1 /\ D.nx σ H1)
   (fun e s2 => ∃ s1, Inv X pins σ H s1 /\ CXx X.prog X.w X.stack H s1 E1 e s2) s := by
  refine wpAny_Expr_any (wpAny_Call_Name_kw ?_) I.quiet hsw;refine Zfc (X := X.wish fun e s2 => ∃ s1, Inv X pins σ H s1 /\ CXx X.prog X.w X.stack H s1 E1 e s2) (I.wish _) hgf hm ?_ hd0;have ha : PA (X.wish fun e s2 => ∃ s1, Inv X pins σ H s1 /\ CXx X.prog X.w X.stack H s1 E1 e s2) [.Name x p1] (tCons (tVar i) tNil) := Zaa (Znq hi hv hd1 hd2) Zac he;refine PySem.W.callWith_K (h₀ := X.base) I.ok.mod.kin hk (thn (ha p2 pins s σ H (fun vs H1 => vs = [v] /\ H1 = H) (I.wish _) ⟨_, hσ, rfl, rfl⟩) fun us s1 ⟨vs, H1, I1, r, e1, e2⟩ => ⟨I1.unwish.kIn, ?_⟩) he rfl;subst e1 e2;have I2 : Inv X pins σ H1 s1 := I1.unwish;obtain ⟨u, rfl, ru⟩ := Zg2 r;have r2 : Vals ([v] ++ []) ([u] ++ ds) := Vals.append r hd;have hl : ([u] ++ ds).length = ps.length := by rw [<- r2.length]; exact GF.len _ _ _ _ (by simpa using hsp)
  refine wpAny_call (codeAny_mono (GF.run X.A X.stack s1 H1 ⟨[u], []⟩ ([u] ++ ds) ([v] ++ []) (fun _ H' => D.nx σ H') E1 hr I2.env0 (hbd s1 [u] I2.kIn hl) r2 (by simpa using hsp)) fun rr s2 hq => ?_);cases rr with
  | error e => exact ⟨s1, I2, hq⟩
  | ok fl =>
   cases fl with
   | ret v' =>
    obtain ⟨y, H2, I3, ry, q⟩ := I2.after hq;exact ⟨rfl, H2, I3, q⟩
   | next => exact False.elim hq
   | brk => exact False.elim hq
   | cont => exact False.elim hq
 refine wpAny_Try_except (wpAny_execs_cons (wpAny_mono callee (fun fl s1 hq => ?_) fun e s2 hq => ?_))
 ·obtain ⟨rfl, H1, I1, q⟩ := hq;exact wpAny_execs_nil (wpAny_execs_nil ⟨σ, H1, I1, q⟩)
 ·obtain ⟨s1, I1, a, C, t, B, H', rfl, F, hq⟩ := hq;obtain ⟨hm', hq⟩ := hx C H' hq;refine wpAny_looks_onW (base := B) (L := X.env.locals) (hst ▸ I1.ok.frames) hfr (hst ▸ F.fly) fun h4 hd4 sm4 => ?_
  refine wpAny_landsW hd4 fun h5 fl5 sm5 => ?_
  have J5 : Inv X pins σ (upd H' a (HX C a)) { s2 with heap := h5 } := Flew.caught I1 F (hst ▸ fl5) (sm4.trans sm5);obtain ⟨ob, hob, hobc⟩ := fl5.there;refine wpAny_handleBy_cons (codeAny_handlers_test ?_) (by intro q; cases q);have J5m := J5.marked a;refine Zfc (X := X.marked a) J5m hgW hmW ?_ hd3;refine Zmn J5.kIn cw hm' hob hobc ?_;refine codeAny_handlers_suite (lands_againW fl5 fun h6 fl6 sm6 => ?_);have J6 : Inv X pins σ (upd H' a (HX C a)) { s2 with heap := h6 } := Flew.caught I1 F (hst ▸ fl6) ((sm4.trans sm5).trans sm6);have q7 := hq _ (Zbq (o := HX C a) F.noE);refine wpAny_mono (hs a pins _ _ _ _ (J6.marked a) q7) (fun fl s8 hs8 => ?_) fun _ _ z => z.elim
  cases fl with
  | next =>
   obtain ⟨σ', H2, J8, q⟩ := hs8;exact ⟨σ', H2, J8.unmarked I.ok, q⟩
  | brk =>
   obtain ⟨σ', H2, J8, q⟩ := hs8;exact ⟨σ', H2, J8.unmarked I.ok, q⟩
  | cont =>
   obtain ⟨σ', H2, J8, q⟩ := hs8;exact ⟨σ', H2, J8.unmarked I.ok, q⟩
  | ret v =>
   obtain ⟨y, σ', H2, J8, ry, q⟩ := hs8;exact ⟨y, σ', H2, J8.unmarked I.ok, ry, q⟩
end
end L2
set_option Elab.async false
set_option linter.all false
set_option maxRecDepth 100000
set_option maxHeartbeats 4000000
namespace Mine
open PySem L2 PyProof.Rows
local macro_rules | `(tactic| walk_at "rd") => `(tactic| simp only [Zrd, Zpt, Zrn, Zpk, tUp, Zs1, Zli, Zs6, Zth, Zro, Znb, tVar, tC, tOp, tUn, Zn6, tB, Zsw, Zrf, Zre, Zpo, Zk4, Zrj, Zn9, tCons, tNil, tCB, Zst, Ztf, Zsy, tOr, Zsv, Zpu, Zsu, Zpj, tIf, Zk3, Zrk, Zrq, tBM, Ztg, Zs8, Ztr, Zsh, Zts, tSl, Zrg, Zn8, rI, rI0, rU, rEq, rNe, Zp9, Zs2, Zs7, Zoz, Zq1, Zsf, Zpr, Zss, Zoa, capSt, Zr3, Zr1, Zr2, Zoi, Zlj, Zp3, Zs5, Zti, cxK, L2.start, List.map_cons, List.map_nil, List.length_cons, List.length_nil, Nat.reduceAdd, Nat.reduceSub, List.replicate, List.cons_append, List.nil_append, List.append_nil, List.getElem?_cons_zero, List.getElem?_cons_succ, List.set_cons_zero, List.set_cons_succ, Option.some.injEq, V.int.injEq, V.bl.injEq, V.str.injEq, V.ref.injEq, V.ty.injEq, exists_eq_left', exists_eq_left, exists_and_left, and_assoc, and_true, true_and, List.cons.injEq, exists_eq, exists_eq', Option.bind_some, Option.bind_none, Option.join_some, exists_const, Nat.reduceLT, Nat.reduceLeDiff, if_true, Bool.false_eq_true, if_false, Bool.not_true, Bool.not_false, reduceCtorEq, false_and, and_false, exists_false,  Zpm, Zpi, Zqe, Zrv, Zjt, Zru, Zju, Zmv, Zrx, Zok, Znl, Zrp, Zk2, Zpn, Zte, Zqa, Zp1, Zrs, Zrt, Zog, Zsg, Ztq, Zq2, Zqc, Ztk, Zpx, Zr7, Zqd, Zrz, Zr5, Zoh, Zof, Zni, Zn5, Zn7, Zr4, Zp8, Znk, Znm, Zlh, Zs3, Zp0, Zqb, Zjl, Zrr, Zps, Zrw, Zr6, Zmw, Zpw, Zob, Zp4, Zp2, Zrl, Zk1, Zq0, Zpp, Zrm, Zry, Zrh, Zp5, Zri, Zp6, Zp7, Zoj, Zr0, Zpq, Zpy, Zr2, Zn4, Zph, Zn1, Zn2])
local macro_rules | `(tactic| walk_at "ne") => `(tactic| first | assumption | (apply Ne.symm; assumption) | grind [Same, But])
local macro_rules | `(tactic| walk_at "hp") => `(tactic| first | assumption | exact Zal | (refine Same.get (by assumption) ?_; walk_at "hp") | (refine But.get (by assumption) ?_ ?_; (· walk_at "hp"); (· walk_at "ne")))
def top (i : Nat) : Stmt := PySem.Challenge.pw_pieceways_k51_pieces_and_letters_as_text.main.body.getD i (.Pass ⟨0, 0, 0, 0⟩)
structure Cn (mg : Str -> Option Value) : Prop where
 c_MOST_NUMBER : ∃ t, mg "MOST_NUMBER" = some (.int 65535 t)
 c_MOST_BYTE : ∃ t, mg "MOST_BYTE" = some (.int 255 t)
 c_MOST_SIGNS : ∃ t, mg "MOST_SIGNS" = some (.int 8 t)
 c_MOST_BYTES : ∃ t, mg "MOST_BYTES" = some (.int 4000 t)
 c_MOST_FIGURES : ∃ t, mg "MOST_FIGURES" = some (.int 12 t)
 c_STEP : ∃ t, mg "STEP" = some (.int 8 t)
 c_BASE : ∃ t, mg "BASE" = some (.int 16 t)
 c_WORDS_OF_A_PIECE : ∃ t, mg "WORDS_OF_A_PIECE" = some (.int 7 t)
 c_WORDS_OF_A_LETTER : ∃ t, mg "WORDS_OF_A_LETTER" = some (.int 5 t)
 c_HALVES : ∃ t, mg "HALVES" = some (.str "0123456789abcdef" t)
 c_NO_SIGN : ∃ t, mg "NO_SIGN" = some (.str "." t)
 c_MORE_SIGN : ∃ t, mg "MORE_SIGN" = some (.str "+" t)
 c_KEEP_SIGN : ∃ t, mg "KEEP_SIGN" = some (.str "!" t)
section
variable {P : Program} {w : World} {K : PySem.W.Frag} {mg : Str -> Option Value} {base : Heap}
def Zdr : Sp := fun vs H Q _ => ∃ x n, vs = [x] /\ tyF H x = some n /\ Q (.bl (isI x)) H
abbrev Zc0 : Stmt := top 7
theorem Zi3 : Zaq ["value"] ["value"] (defScope Zc0) := ⟨rfl, rfl, rfl, by decide +kernel, rfl, by decide +kernel, by decide +kernel⟩
theorem Zjb {f : Addr} {fd : FuncData} (F : Fun K "is_whole" "is_whole" Zc0 f fd) (B : Bt mg) : FnOk P w K mg base CX0 1 f fd ["value"] Zdr := by
 refine F.ok Zi3 (fun vs H Q E h => ?_) (fun cdv A outer s H vs Q E hr h => ?_)
 ·obtain ⟨x, n, rfl, _⟩ := h; rfl
 ·obtain ⟨x, n, rfl, ty, q⟩ := h;refine ⟨_, (Zai (Zar (Zdn (Zau (Zb5 "int") rfl B.isinstance (by rfl) (Zaa (hs := Zab) (pv 0) (Zaa (hs := Zab) (Zdw (v := .ty "int") rfl B.bint (by rfl) rfl) Zac))) (Zeq (Zns (Zau (Zb5 "bool") rfl B.isinstance (by rfl) (Zaa (hs := Zab) (pv 0) (Zaa (hs := Zab) (Zdw (v := .ty "bool") rfl B.bbool (by rfl) rfl) Zac)))))))), ?_⟩;walk_at "rd";refine ⟨n, ty, ?_⟩;rw [Zpe ty];refine Zkv (fun h => ⟨n, ty, ?_⟩) (fun h => ?_)
  ·rw [Zkx ty];have e : (!isB x) = isI x := by cases x <;> first | rfl | (simp [isI, isB] at h)
   rw [e]; exact q
  ·have e : isI x = false := by cases x <;> first | rfl | (simp [isI, isB] at h)
   rw [e] at q; exact q
def Zbp : Sp := fun vs H Q _ => ∃ x n lo hi, vs = [x, .int lo, .int hi] /\ tyF H x = some n /\ Q (.bl (wIn x lo hi)) H
abbrev Za7 : Stmt := top 8
theorem Zep : Zaq ["value", "low", "high"] ["value", "low", "high"] (defScope Za7) := ⟨rfl, rfl, rfl, by decide +kernel, rfl, by decide +kernel, by decide +kernel⟩
theorem Zet {f : Addr} {fd : FuncData} (F : Fun K "is_whole_within" "is_whole_within" Za7 f fd) (F_is_whole : FnB P w K mg base "is_whole" 1 ["value"] [] Zdr) : FnOk P w K mg base CX0 2 f fd ["value", "low", "high"] Zbp := by
 refine F.ok Zep (fun vs H Q E h => ?_) (fun cdv A outer s H vs Q E hr h => ?_)
 ·obtain ⟨x, n, lo, hi, rfl, _⟩ := h; rfl
 ·obtain ⟨x, n, lo, hi, rfl, ty, q⟩ := h;refine ⟨_, (Zai (Zar (Zdn (Zag F_is_whole (hr.mono (by decide)) rfl (Zaa (hs := Zab) (pv 0) Zac)) (Zeq (Zhl Zhn Zhn (pv 1) (pv 0) (pv 2)))))), ?_⟩;walk_at "rd";refine ⟨x, n, rfl, ty, _, rfl, ?_⟩;refine Zkv (fun h => ?_) (fun h => ?_)
  ·cases x <;> first | (simp [isI] at h; done) | skip
   rename_i i
   walk_at "rd"
   by_cases h1 : lo <= i
   ·simp only [h1, decide_true, if_true];simpa [wIn, h1] using q
   ·simp only [h1, decide_false, Bool.false_eq_true, if_false];simpa [wIn, h1] using q
  ·have e : wIn x lo hi = false := by cases x <;> first | rfl | (simp [isI] at h)
   rw [e] at q; exact q
def Zds : Sp := fun vs H Q _ => ∃ x n, vs = [x] /\ tyF H x = some n /\ Q (.bl (isB x)) H
abbrev Zc1 : Stmt := top 9
theorem Zi4 : Zaq ["value"] ["value"] (defScope Zc1) := ⟨rfl, rfl, rfl, by decide +kernel, rfl, by decide +kernel, by decide +kernel⟩
theorem Zjc {f : Addr} {fd : FuncData} (F : Fun K "is_truth" "is_truth" Zc1 f fd) (B : Bt mg) : FnOk P w K mg base CX0 1 f fd ["value"] Zds := by
 refine F.ok Zi4 (fun vs H Q E h => ?_) (fun cdv A outer s H vs Q E hr h => ?_)
 ·obtain ⟨x, n, rfl, _⟩ := h; rfl
 ·obtain ⟨x, n, rfl, ty, q⟩ := h;refine ⟨_, (Zai (Zar (Zau (Zb5 "bool") rfl B.isinstance (by rfl) (Zaa (hs := Zab) (pv 0) (Zaa (hs := Zab) (Zdw (v := .ty "bool") rfl B.bbool (by rfl) rfl) Zac))))), ?_⟩;walk_at "rd";exact ⟨n, ty, by rw [Zkx ty]; exact q⟩
def Zd3 : Sp := fun vs H Q _ => ∃ x n, vs = [x] /\ tyF H x = some n /\ Q (.bl (wIn x 0 65535)) H
abbrev Zcc : Stmt := top 10
theorem Zib : Zaq ["value"] ["value"] (defScope Zcc) := ⟨rfl, rfl, rfl, by decide +kernel, rfl, by decide +kernel, by decide +kernel⟩
theorem Zij {f : Addr} {fd : FuncData} (F : Fun K "is_number" "is_number" Zcc f fd) (T : Cn mg) (F_is_whole_within : FnB P w K mg base "is_whole_within" 2 ["value", "low", "high"] [] Zbp) : FnOk P w K mg base CX0 3 f fd ["value"] Zd3 := by
 refine F.ok Zib (fun vs H Q E h => ?_) (fun cdv A outer s H vs Q E hr h => ?_)
 ·obtain ⟨x, n, rfl, _⟩ := h; rfl
 ·obtain ⟨x, n, rfl, ty, q⟩ := h;refine ⟨_, (Zai (Zar (Zag F_is_whole_within (hr.mono (by decide)) rfl (Zaa (hs := Zab) (pv 0) (Zaa (hs := Zae) Zah (Zaa (hs := Zab) (Zb4 rfl T.c_MOST_NUMBER) Zac)))))), ?_⟩;walk_at "rd";exact ⟨x, n, 0, 65535, rfl, ty, q⟩
def Ze1 : Sp := fun vs H Q _ => ∃ x n, vs = [x] /\ tyF H x = some n /\ Q (.bl (wIn x 0 255)) H
abbrev Zdl : Stmt := top 12
theorem Zkh : Zaq ["value"] ["value"] (defScope Zdl) := ⟨rfl, rfl, rfl, by decide +kernel, rfl, by decide +kernel, by decide +kernel⟩
theorem Zkn {f : Addr} {fd : FuncData} (F : Fun K "is_byte" "is_byte" Zdl f fd) (T : Cn mg) (F_is_whole_within : FnB P w K mg base "is_whole_within" 2 ["value", "low", "high"] [] Zbp) : FnOk P w K mg base CX0 3 f fd ["value"] Ze1 := by
 refine F.ok Zkh (fun vs H Q E h => ?_) (fun cdv A outer s H vs Q E hr h => ?_)
 ·obtain ⟨x, n, rfl, _⟩ := h; rfl
 ·obtain ⟨x, n, rfl, ty, q⟩ := h;refine ⟨_, (Zai (Zar (Zag F_is_whole_within (hr.mono (by decide)) rfl (Zaa (hs := Zab) (pv 0) (Zaa (hs := Zae) Zah (Zaa (hs := Zab) (Zb4 rfl T.c_MOST_BYTE) Zac)))))), ?_⟩;walk_at "rd";exact ⟨x, n, 0, 255, rfl, ty, q⟩
def Ze0 : Sp := fun vs H Q _ => ∃ x n, vs = [x] /\ tyF H x = some n /\ (∀ z, x = .str z -> z.length <= 100000) /\ ∀ H', Same H H' -> Q (.bl (isNm x)) H'
abbrev Zc8 : Stmt := top 11
theorem Zkg : Zaq ["value"] ["value"] (defScope Zc8) := ⟨rfl, rfl, rfl, by decide +kernel, rfl, by decide +kernel, by decide +kernel⟩
theorem Zkm {f : Addr} {fd : FuncData} (F : Fun K "is_name" "is_name" Zc8 f fd) (T : Cn mg) (B : Bt mg) : FnOk P w K mg base CX0 1 f fd ["value"] Ze0 := by
 refine F.ok Zkg (fun vs H Q E h => ?_) (fun cdv A outer s H vs Q E hr h => ?_)
 ·obtain ⟨x, n, rfl, _⟩ := h; rfl
 ·obtain ⟨x, n, rfl, ty, hz, q⟩ := h;refine ⟨_, (Zad (Zb6 (PW.pt (Zej (Zbj (Zbi (Zau (Zb5 "str") rfl B.isinstance (by rfl) (Zaa (hs := Zab) (pv 0) (Zaa (hs := Zab) (Zdw (v := .ty "str") rfl B.bstr (by rfl) rfl) Zac))))) (Zd6 (Zbj (Zhh Zhn Zhn Zah (Zau Zdf rfl B.len (by rfl) (Zaa (hs := Zab) (pv 0) Zac)) (Zb4 rfl T.c_MOST_SIGNS)))))) (Zai (Zar Zdj)) Zaz) (Zai (Zar (Zau (Zey (K := K) rfl rfl) rfl B.all (by rfl) (Zaa (hs := Zbz) (Zdv (N' := ["sign"]) (caps := [none]) (Zhz (sc := defScope Zc8) (N := ["value"]) rfl rfl (by decide +kernel)) rfl (Zlm (pv 0)) (fun _ _ _ _ _ => (Zdi (i := 0) (Zhw (N := ["sign"]) rfl (by decide +kernel)) rfl (Or.inl rfl))) (fun _ _ _ _ _ => Zdu) (fun _ _ _ _ _ => (Zhl Zjw Zjw Za6 (pv 0) Za6))) Zac))))), ?_⟩;walk_at "rd";refine ⟨n, ty, ?_⟩;rw [Zpd ty];cases x <;> first
   | (simp only [isS, Bool.not_false, if_true]; exact q H (Same.refl H))
   | skip
  rename_i z
  have hz' := hz z rfl;simp only [isS, Bool.not_true, Bool.false_eq_true, if_false];walk_at "rd";refine ⟨Zan hz', ?_⟩;have hq : ∀ b, isNm (.str z) = b -> ∀ H', Same H H' -> Q (.bl b) H' := fun b e H' s => e ▸ q H' s
  by_cases h1 : 1 <= z.length
  ·have h1' : (1 : Int) <= (z.length : Int) := by omega
   simp only [h1', decide_true, if_true]
   by_cases h2 : z.length <= 8
   ·have h2' : (z.length : Int) <= 8 := by omega
    simp only [h2', decide_true, Bool.not_true, Bool.false_eq_true, if_false];have hsz : z.cps.size = z.length := rfl;obtain ⟨Pv, ePv⟩ : ∃ Pv : Nat -> List V -> L2.St -> Hp -> Prop, Pv = fun i ys σ' H1 => H1 = H /\ i <= z.cps.size /\ ys = (z.cps.toList.take i).map (fun c => V.bl (smallC c)) /\ ∃ v, σ' = [v] := ⟨_, rfl⟩
    refine Zh0 Pv (by rw [ePv]; exact ⟨rfl, Nat.zero_le _, by simp, none, rfl⟩) ?_ (by rw [hsz]; exact Zan hz') ?_ ?_ <;> rw [ePv]
    ·rintro i ys σ' H1 ⟨_, hi, rfl, _⟩ _;simp only [List.length_map, List.length_take]; omega
    ·rintro i c ys σ' H1 hc ⟨rfl, hi, rfl, v, rfl⟩;rw [<- ePv];have hi' : i < z.cps.size := (Array.getElem?_eq_some_iff.mp hc).1;walk_at "rd";obtain ⟨e1, e2⟩ := Zoc c;rw [e1, e2];have et : z.cps.toList.take (i + 1) = z.cps.toList.take i ++ [c] := by
      rw [List.take_add_one];have : z.cps.toList[i]? = some c := by rw [Array.getElem?_toList]; exact hc
      rw [this]; rfl
     have eb : V.bl (smallC c) = V.bl (decide (97 <= c) && decide (c <= 122)) := rfl
     by_cases k1 : 97 <= c
     ·simp only [k1, decide_true, if_true];rw [ePv]; exact ⟨rfl, hi', by rw [et, List.map_append, List.map_cons, List.map_nil, eb]; simp [k1], _, rfl⟩
     ·simp only [k1, decide_false, Bool.false_eq_true, if_false];rw [ePv]; exact ⟨rfl, hi', by rw [et, List.map_append, List.map_cons, List.map_nil, eb]; simp [k1], _, rfl⟩
    ·rintro ys σ' H1 ⟨rfl, _, rfl, _⟩ p hp;walk_at "rd";refine ⟨z.cps.toList.map smallC, SqL.of ?_, ?_⟩
     ·rw [Zal];have : z.cps.toList.take z.cps.size = z.cps.toList := by rw [List.take_of_length_le]; simp
      rw [this, List.map_map]; rfl
     ·refine hq _ ?_ _ (Same.new (Same.refl _) hp);simp only [isNm, h1, h2, decide_true, Bool.true_and, List.all_map];rfl
   ·have h2' : ¬ (z.length : Int) <= 8 := by omega
    simp only [h2', decide_false, Bool.not_false, if_true];exact hq _ (by simp [isNm, h2]) H (Same.refl H)
  ·have h1' : ¬ (1 : Int) <= (z.length : Int) := by omega
   simp only [h1', decide_false, Bool.false_eq_true, if_false, Bool.not_false, if_true, true_and, exists_eq_left'];exact hq _ (by simp [isNm, h1]) H (Same.refl H)
end
section
variable {P : Program} {w : World} {K : PySem.W.Frag} {mg : Str -> Option Value} {base : Heap}
def Plains (H : Hp) (x : V) : Prop := ∀ a xs, x = .ref a -> H a = some (.lst xs) -> xs.length <= 100000 /\ ∀ y ∈ xs, ∃ n, tyF H y = some n
def Ze2 : Sp := fun vs H Q _ => ∃ x n, vs = [x] /\ tyF H x = some n /\ Plains H x /\ ∀ H', Same H H' -> Q (.bl (isBd H x)) H'
abbrev Zc9 : Stmt := top 13
theorem Zki : Zaq ["value"] ["value"] (defScope Zc9) := ⟨rfl, rfl, rfl, by decide +kernel, rfl, by decide +kernel, by decide +kernel⟩
theorem Zko {f : Addr} {fd : FuncData} (F : Fun K "is_body" "is_body" Zc9 f fd) (T : Cn mg) (B : Bt mg) (F_is_byte : FnB P w K mg base "is_byte" 3 ["value"] [] Ze1) : FnOk P w K mg base CX0 4 f fd ["value"] Ze2 := by
 refine F.ok Zki (fun vs H Q E h => ?_) (fun cdv A outer s H vs Q E hr h => ?_)
 ·obtain ⟨x, n, rfl, _⟩ := h; rfl
 ·obtain ⟨x, n, rfl, ty, hz, q⟩ := h;refine ⟨_, (Zad (Zb6 (PW.pt (Zej (Zbj (Zbi (Zau (Zb5 "list") rfl B.isinstance (by rfl) (Zaa (hs := Zab) (pv 0) (Zaa (hs := Zab) (Zdw (v := .ty "list") rfl B.blist (by rfl) rfl) Zac))))) (Zd6 (Zbj (Zhh Zhn Zhn Zah (Zau (Zdo (K := K) rfl) rfl B.len (by rfl) (Zaa (hs := Zab) (pv 0) Zac)) (Zb4 rfl T.c_MOST_BYTES)))))) (Zai (Zar Zdj)) Zaz) (Zai (Zar (Zau (Zey (K := K) rfl rfl) rfl B.all (by rfl) (Zaa (hs := Zbz) (Zdv (N' := ["part"]) (caps := [none]) (Zhz (sc := defScope Zc9) (N := ["value"]) rfl rfl (by decide +kernel)) rfl (Zhi (K := K) rfl (pv 0)) (fun _ _ _ _ _ => (Zdi (i := 0) (Zhw (N := ["part"]) rfl (by decide +kernel)) rfl (Or.inl rfl))) (fun _ _ _ _ _ => Zdu) (fun _ _ _ _ _ => (Zag F_is_byte (hr.mono (by decide)) rfl (Zaa (hs := Zab) (pv 0) Zac)))) Zac))))), ?_⟩;walk_at "rd";refine ⟨n, ty, ?_⟩;rw [Zn0 ty];cases hL : isL H x with
  | false =>
   simp only [Bool.not_false, if_true];have e := Zoy hL;rw [e] at q;exact q H (Same.refl H)
  | true =>
   obtain ⟨a, xs, rfl, ha⟩ := Zqy hL;obtain ⟨hlen, hpl⟩ := hz a xs rfl ha;rw [Zj5 ha] at q;simp only [Bool.not_true, Bool.false_eq_true, if_false];walk_at "rd";refine ⟨xs, .inl (SqL.of ha), ?_⟩
   by_cases h1 : 1 <= xs.length
   ·have h1' : (1 : Int) <= (xs.length : Int) := by omega
    simp only [h1', decide_true, if_true]
    by_cases h2 : xs.length <= 4000
    ·have h2' : (xs.length : Int) <= 4000 := by omega
     simp only [h2', decide_true, Bool.not_true, Bool.false_eq_true, if_false];refine ⟨⟨xs, SqL.of ha⟩, ?_⟩;obtain ⟨Pv, ePv⟩ : ∃ Pv : Nat -> List V -> L2.St -> Hp -> Prop, Pv = fun i ys σ' H1 => H1 = H /\ i <= xs.length /\ ys = (xs.take i).map (fun y => V.bl (wIn y 0 255)) /\ ∃ v, σ' = [v] := ⟨_, rfl⟩
     refine Zin (xs := xs) Pv (by rw [ePv]; exact ⟨rfl, Nat.zero_le _, by simp, none, rfl⟩) ?_ (Zan hlen) ?_ ?_ <;> rw [ePv]
     ·rintro i ys σ' H1 ⟨rfl, hi, rfl, _⟩ _;refine ⟨SqL.of ha, ?_⟩;simp only [List.length_map, List.length_take]; omega
     ·rintro i y ys σ' H1 hy ⟨rfl, hi, rfl, v, rfl⟩;rw [<- ePv];have hi' : i < xs.length := (List.getElem?_eq_some_iff.mp hy).1;obtain ⟨m, hm⟩ := hpl y (List.mem_of_getElem? hy);walk_at "rd";refine ⟨y, m, rfl, hm, ?_⟩;rw [ePv];refine ⟨rfl, hi', ?_, _, rfl⟩;rw [List.take_add_one, hy, Option.toList_some, List.map_append, List.map_cons, List.map_nil]
     ·rintro ys σ' H1 ⟨rfl, _, rfl, _⟩ p hp;walk_at "rd";refine ⟨xs.map (fun y => wIn y 0 255), SqL.of ?_, ?_⟩
      ·rw [Zal, List.take_of_length_le (Nat.le_refl _), List.map_map]; rfl
      ·have e : (xs.map (fun y => wIn y 0 255)).all id = (decide (1 <= xs.length) && decide (xs.length <= 4000) && xs.all (fun y => wIn y 0 255)) := by
        simp only [h1, h2, decide_true, Bool.true_and, List.all_map]; rfl
       rw [e];exact q _ (Same.new (Same.refl _) hp)
    ·have h2' : ¬ (xs.length : Int) <= 4000 := by omega
     simp only [h2', decide_false, Bool.not_false, if_true];simp only [h2, decide_false, Bool.and_false, Bool.false_and] at q;exact q H (Same.refl H)
   ·have h1' : ¬ (1 : Int) <= (xs.length : Int) := by omega
    simp only [h1', decide_false, Bool.false_eq_true, if_false, Bool.not_false, if_true, true_and, exists_eq_left'];simp only [h1, decide_false, Bool.false_and] at q;exact q H (Same.refl H)
def goodParts (H : Hp) (number sender goal body keep : V) : Bool := wIn number 0 65535 && (isNm sender && (isNm goal && (isBd H body && isB keep)))
structure Zea (H : Hp) (number sender goal body keep : V) : Prop where
 n : ∃ t, tyF H number = some t
 s : ∃ t, tyF H sender = some t
 sl : ∀ z, sender = .str z -> z.length <= 100000
 g : ∃ t, tyF H goal = some t
 gl : ∀ z, goal = .str z -> z.length <= 100000
 b : ∃ t, tyF H body = some t
 bp : Plains H body
 k : ∃ t, tyF H keep = some t
theorem Zim {H H' : Hp} (s : Same H H') {x : V} {n : String} (ty : tyF H x = some n) : isBd H' x = isBd H x := by
 cases x with
 | ref a =>
  have ty : (H a).bind tyO = some n := ty;cases e : H a with
  | none => rw [e] at ty; cases ty
  | some o =>
   show (match H' a with | some (.lst xs) => _ | _ => false) = (match H a with | some (.lst xs) => _ | _ => false);rw [s a o e, e]
 | _ => rfl
theorem Plains.same {H H' : Hp} (s : Same H H') {x : V} {n : String} (ty : tyF H x = some n) (h : Plains H x) : Plains H' x := by
 intro a xs ex ea;subst ex;have ty' : (H a).bind tyO = some n := ty;cases e : H a with
 | none => rw [e] at ty'; cases ty'
 | some o =>
  have := s a o e;rw [ea] at this;cases this;obtain ⟨h1, h2⟩ := h a xs rfl e;exact ⟨h1, fun y hy => by obtain ⟨m, hm⟩ := h2 y hy; exact ⟨m, Zfo s hm⟩⟩
def Zbd : Sp := fun vs H Q _ => ∃ number sender goal body keep, vs = [number, sender, goal, body, keep] /\ Zea H number sender goal body keep /\ ∀ H', Same H H' -> Q (.bl (goodParts H number sender goal body keep)) H'
abbrev Za4 : Stmt := top 22
theorem Zeh : Zaq ["number", "sender", "goal", "body", "keep"] ["number", "sender", "goal", "body", "keep"] (defScope Za4) := ⟨rfl, rfl, rfl, by decide +kernel, rfl, by decide +kernel, by decide +kernel⟩
theorem Zel {f : Addr} {fd : FuncData} (F : Fun K "are_shared_parts" "are_shared_parts" Za4 f fd) (F_is_number : FnB P w K mg base "is_number" 3 ["value"] [] Zd3) (F_is_name : FnB P w K mg base "is_name" 1 ["value"] [] Ze0)
  (F_is_body : FnB P w K mg base "is_body" 4 ["value"] [] Ze2) (F_is_truth : FnB P w K mg base "is_truth" 1 ["value"] [] Zds) : FnOk P w K mg base CX0 5 f fd ["number", "sender", "goal", "body", "keep"] Zbd := by
 refine F.ok Zeh (fun vs H Q E h => ?_) (fun cdv A outer s H vs Q E hr h => ?_)
 ·obtain ⟨a, b, c, d, e, rfl, _⟩ := h; rfl
 ·obtain ⟨nu, se, go, bo, ke, rfl, ⟨⟨tn, hn⟩, ⟨ts, hs⟩, hsl, ⟨tg, hg⟩, hgl, ⟨tb, hb⟩, hbp, ⟨tk, hk⟩⟩, q⟩ := h;refine ⟨_, (Zai (Zar (Zdn (Zag F_is_number (hr.mono (by decide)) rfl (Zaa (hs := Zab) (pv 0) Zac)) (Zdn (Zag F_is_name (hr.mono (by decide)) rfl (Zaa (hs := Zab) (pv 1) Zac)) (Zdn (Zag F_is_name (hr.mono (by decide)) rfl (Zaa (hs := Zab) (pv 2) Zac)) (Zdn (Zag F_is_body (hr.mono (by decide)) rfl (Zaa (hs := Zab) (pv 3) Zac)) (Zeq (Zag F_is_truth (hr.mono (by decide)) rfl (Zaa (hs := Zab) (pv 4) Zac))))))))), ?_⟩;walk_at "rd";unfold goodParts at q;refine ⟨nu, tn, rfl, hn, _, rfl, Zkv (fun h1 => ?_) (fun h1 => ?_)⟩
  ·refine ⟨se, ts, rfl, hs, hsl, fun H1 s1 => ⟨_, rfl, Zkv (fun h2 => ?_) (fun h2 => ?_)⟩⟩
   ·refine ⟨go, tg, rfl, Zfo s1 hg, hgl, fun H2 s2 => ⟨_, rfl, Zkv (fun h3 => ?_) (fun h3 => ?_)⟩⟩
    ·have s12 := s1.trans s2;refine ⟨bo, tb, rfl, Zfo s12 hb, hbp.same s12 hb, fun H3 s3 => ⟨_, rfl, Zkv (fun h4 => ?_) (fun h4 => ?_)⟩⟩
     ·refine ⟨ke, tk, rfl, Zfo (s12.trans s3) hk, ?_⟩;rw [Zim s12 hb] at h4;simp only [h1, h2, h3, h4, Bool.true_and] at q;exact q _ (s12.trans s3)
     ·rw [Zim s12 hb, Bool.not_eq_true] at h4;simp only [h1, h2, h3, h4, Bool.true_and, Bool.false_and] at q;exact q _ (s12.trans s3)
    ·rw [Bool.not_eq_true] at h3;simp only [h1, h2, h3, Bool.true_and, Bool.false_and] at q;exact q _ (s1.trans s2)
   ·rw [Bool.not_eq_true] at h2;simp only [h1, h2, Bool.true_and, Bool.false_and] at q;exact q _ s1
  ·rw [Bool.not_eq_true] at h1;simp only [h1, Bool.false_and] at q;exact q H (Same.refl H)
end
section
theorem Zaw {f : Str} {v : V} {fs : List (Str × V)} {n : Nat} (h : fs.length <= n) : (putF f v fs).length <= n + 1 := Nat.le_trans (Zen f v fs) (Nat.succ_le_succ h)
theorem Zak {f g : Str} {v : V} {fs : List (Str × V)} (h : ¬ g = f) : (putF f v fs).lookup g = fs.lookup g := by rw [Zdx, if_neg h]
theorem Zcr {f : Str} {v : V} {fs : List (Str × V)} : (putF f v fs).lookup f = some v := by rw [Zdx, if_pos rfl]
end
section
variable {P : Program} {w : World} {K : PySem.W.Frag} {mg : Str -> Option Value} {base : Heap}
structure Zkw (K : PySem.W.Frag) (C : Addr) : Prop where
 cl : Cls K C
 number : NoAttr K C "number"
 sender : NoAttr K C "sender"
 goal : NoAttr K C "goal"
 body : NoAttr K C "body"
 keep : NoAttr K C "keep"
structure LetterAt (C : Addr) (H : Hp) (p : Addr) (nu se go bo ke : V) : Prop where
 ex : ∃ dx fs, H p = some (.ins C dx fs) /\ fs.lookup ("number" : Str) = some nu /\ fs.lookup ("sender" : Str) = some se /\ fs.lookup ("goal" : Str) = some go /\ fs.lookup ("body" : Str) = some bo /\ fs.lookup ("keep" : Str) = some ke /\
  fs.lookup ("key" : Str) = none /\ fs.lookup ("is_like" : Str) = none
def Zbx (C : Addr) : Sp := fun vs H Q _ => ∃ p dx nu se go b ke xs, vs = [.ref p, nu, se, go, .ref b, ke] /\ H p = some (.ins C dx []) /\ Zea H nu se go (.ref b) ke /\ goodParts H nu se go (.ref b) ke = true /\ H b = some (.lst xs) /\
 ∀ H' b', H b' = none -> b' ≠ p -> H' b' = some (.lst xs) -> LetterAt C H' p nu se go (.ref b') ke -> But p H H' -> Q .non H'
abbrev s_Letter_init : Stmt := Zfd (top 25) 0
theorem Zgf : Zaq ["self", "number", "sender", "goal", "body", "keep"] ["self", "number", "sender", "goal", "body", "keep"] (defScope s_Letter_init) := ⟨rfl, rfl, rfl, by decide +kernel, rfl, by decide +kernel, by decide +kernel⟩
theorem Zgm {f C : Addr} {fd : FuncData} (F : ∃ (oc : Value) (od : Option Addr) (dV kV doc pm : Value) (an : Option Addr) (cdv ct : Value) (osl : Array (Option Value)),
  fd = PySem.W.fnOf "__init__" "Letter.__init__" (Zam s_Letter_init) (defBody s_Letter_init) (defScope s_Letter_init) dV kV doc pm an cdv ct /\ K.lookup f = some ⟨oc, od, .func fd, osl⟩ /\ PySem.W.codeIn K cdv "Letter.__init__" = true) (L : Zkw K C) (B : Bt mg)
  (F_are_shared_parts : FnB P w K mg base "are_shared_parts" 5 ["number", "sender", "goal", "body", "keep"] [] Zbd) : FnOk P w K mg base CX0 6 f fd ["self", "number", "sender", "goal", "body", "keep"] (Zbx C) := by
 obtain ⟨oc, od, dV, kV, doc, pm, an, cdv, ct, osl, rfl, lk, hcd⟩ := F;refine Znc lk hcd Zgf (fun vs H Q E h => ?_) (fun A outer s H vs Q E hr h => ?_)
 ·obtain ⟨p, dx, nu, se, go, b, ke, xs, rfl, _⟩ := h; rfl
 ·obtain ⟨p, dx, nu, se, go, b, ke, xs, rfl, hp, hpl, hgd, hb, q⟩ := h
  suffices hh : ∃ t, PSs (cxOf CX0 P w K mg base _ "Letter.__init__" (defScope s_Letter_init) f cdv A outer s H E).nox (defBody s_Letter_init) t /\ t { nx := fun _ H' => Q .non H', rt := Q } (L2.start _ _) H by
   obtain ⟨t, h1, h2⟩ := hh;exact ⟨t, h1.nox, h2⟩
  refine ⟨_, (Zad (Zb6 (Zbj (Zbi (Zag F_are_shared_parts (hr.mono (by decide)) rfl (Zaa (hs := Zab) (pv 1) (Zaa (hs := Zab) (pv 2) (Zaa (hs := Zab) (pv 3) (Zaa (hs := Zab) (pv 4) (Zaa (hs := Zab) (pv 5) Zac)))))))) Zdm Zaz) (Zad (Zcq (K := K) rfl (pv 0) (pv 1) rfl) (Zad (Zcq (K := K) rfl (pv 0) (pv 2) rfl) (Zad (Zcq (K := K) rfl (pv 0) (pv 3) rfl) (Zad (Zcq (K := K) rfl (pv 0) (Zbr (Zfi (K := K) rfl) rfl B.blist (by rfl) (Zaa (hs := Zab) (pv 4) Zac)) rfl) (Zai (Zcq (K := K) rfl (pv 0) (pv 5) rfl))))))), ?_⟩;walk_at "rd";refine ⟨nu, se, go, .ref b, ke, rfl, hpl, fun H1 s1 => ⟨_, rfl, ?_⟩⟩;rw [hgd];simp only [Bool.not_true, Bool.false_eq_true, if_false];have hp1 := s1 p _ hp;have hb1 := s1 b _ hb;have nbp : b ≠ p := Zqq hb hp (by intro z; cases z);have l0 : ([] : List (Str × V)).length <= 0 := Nat.le_refl 0;refine ⟨C, dx, [], hp1, L.cl, L.number, by decide, C, dx, _, Zal, L.cl, L.sender, Nat.lt_of_le_of_lt (Zaw l0) (by decide), C, dx, _, Zal, L.cl, L.goal, Nat.lt_of_le_of_lt (Zaw (Zaw l0)) (by decide), xs,
   .inl (SqL.of (by rw [Zao nbp, Zao nbp, Zao nbp]; exact hb1)), fun l hl => ?_⟩
  have hlp : l ≠ p := fun z => by rw [z, Zal] at hl; cases hl
  have hl1 : H1 l = none := by rw [Zao hlp, Zao hlp, Zao hlp] at hl; exact hl
  refine ⟨C, dx, _, by rw [Zao (Ne.symm hlp)]; exact Zal, L.cl, L.body, Nat.lt_of_le_of_lt (Zaw (Zaw (Zaw l0))) (by decide), C, dx, _, Zal, L.cl, L.keep, Nat.lt_of_le_of_lt (Zaw (Zaw (Zaw (Zaw l0)))) (by decide), ?_⟩;refine q _ l (s1.free hl1) hlp (by rw [Zao hlp, Zao hlp, Zal]) ⟨dx, _, Zal, ?_, ?_, ?_, ?_, ?_, ?_, ?_⟩ ?_
  ·rw [Zak, Zak, Zak, Zak, Zcr] <;> decide +kernel
  ·rw [Zak, Zak, Zak, Zcr] <;> decide +kernel
  ·rw [Zak, Zak, Zcr] <;> decide +kernel
  ·rw [Zak, Zcr] <;> decide +kernel
  ·rw [Zcr]
  ·rw [Zak, Zak, Zak, Zak, Zak] <;> first | rfl | decide +kernel
  ·rw [Zak, Zak, Zak, Zak, Zak] <;> first | rfl | decide +kernel
  ·intro c o e hc;rw [Zao hc, Zao hc, Zao (Za0 (s1 c o e) hl1), Zao hc, Zao hc, Zao hc];exact s1 c o e
def Zcv (C : Addr) : Sp := fun vs H Q _ => ∃ p nu se go bo ke, vs = [.ref p] /\ LetterAt C H p nu se go bo ke /\ ∀ t, H t = none -> Q (.ref t) (upd H t (.tup [nu, se, go]))
abbrev Zb2 : Stmt := Zfd (top 25) 1
theorem Zhe : Zaq ["self"] ["self"] (defScope Zb2) := ⟨rfl, rfl, rfl, by decide +kernel, rfl, by decide +kernel, by decide +kernel⟩
theorem Zht {f C : Addr} {fd : FuncData} (F : Fun K "key" "Letter.key" Zb2 f fd) (L : Zkw K C) : FnOk P w K mg base CX0 1 f fd ["self"] (Zcv C) := by
 refine F.ok Zhe (fun vs H Q E h => ?_) (fun cdv A outer s H vs Q E hr h => ?_)
 ·obtain ⟨p, nu, se, go, bo, ke, rfl, _⟩ := h; rfl
 ·obtain ⟨p, nu, se, go, bo, ke, rfl, ⟨dx, fs, hp, f1, f2, f3, _⟩, q⟩ := h;refine ⟨_, (Zai (Zar (Znr (Zaa (hs := Zaf) (Zbn (K := K) rfl (pv 0) rfl) (Zaa (hs := Zaf) (Zbn (K := K) rfl (pv 0) rfl) (Zaa (hs := Zaf) (Zbn (K := K) rfl (pv 0) rfl) Zac)))))), ?_⟩;walk_at "rd";exact ⟨C, dx, fs, hp, L.cl, L.number, nu, f1, C, dx, fs, hp, L.cl, L.sender, se, f2, C, dx, fs, hp, L.cl, L.goal, go, f3, Zan (by decide), q⟩
end
section
variable {P : Program} {w : World} {K : PySem.W.Frag} {mg : Str -> Option Value} {base : Heap}
def Zox : V -> Bool
 | .int i => decide (0 <= i) && decide (i % 8 = 0)
 | _ => false
def Zee : Sp := fun vs H Q _ => ∃ x n, vs = [x] /\ tyF H x = some n /\ Q (.bl (Zox x)) H
abbrev Zc2 : Stmt := top 23
theorem Zi5 : Zaq ["at"] ["at"] (defScope Zc2) := ⟨rfl, rfl, rfl, by decide +kernel, rfl, by decide +kernel, by decide +kernel⟩
theorem Zjd {f : Addr} {fd : FuncData} (F : Fun K "is_place" "is_place" Zc2 f fd) (T : Cn mg) (F_is_whole : FnB P w K mg base "is_whole" 1 ["value"] [] Zdr) : FnOk P w K mg base CX0 2 f fd ["at"] Zee := by
 refine F.ok Zi5 (fun vs H Q E h => ?_) (fun cdv A outer s H vs Q E hr h => ?_)
 ·obtain ⟨x, n, rfl, _⟩ := h; rfl
 ·obtain ⟨x, n, rfl, ty, q⟩ := h;refine ⟨_, (Zai (Zar (Zdn (Zag F_is_whole (hr.mono (by decide)) rfl (Zaa (hs := Zab) (pv 0) Zac)) (Zdn (Zbo Zsb (pv 0) Zah (Za3 _)) (Zeq (Zbo Zfa (Za2 Zde (pv 0) (Zb4 rfl T.c_STEP)) Zah (Za3 _))))))), ?_⟩;walk_at "rd";refine ⟨x, n, rfl, ty, _, rfl, Zkv (fun h => ?_) (fun h => ?_)⟩
  ·cases x <;> first | (simp [isI] at h; done) | skip
   rename_i i
   walk_at "rd"
   by_cases h1 : 0 <= i
   ·simp only [h1, decide_true, if_true];refine ⟨by decide, rfl, ?_⟩;simpa [Zox, h1] using q
   ·simp only [h1, decide_false, Bool.false_eq_true, if_false];simpa [Zox, h1] using q
  ·have e : Zox x = false := by cases x <;> first | rfl | (simp [isI] at h)
   rw [e] at q; exact q
def Zhg (at' len : Int) (more : Bool) : Bool := if more then decide (len % 8 = 0) && decide (at' + len < 4000) else decide (at' + len <= 4000)
def Zef : Sp := fun vs H Q _ => ∃ at' len more, vs = [.int at', .int len, .bl more] /\ Q (.bl (Zhg at' len more)) H
abbrev Zc3 : Stmt := top 24
theorem Zi6 : Zaq ["at", "length", "more"] ["at", "length", "more"] (defScope Zc3) := ⟨rfl, rfl, rfl, by decide +kernel, rfl, by decide +kernel, by decide +kernel⟩
theorem Zje {f : Addr} {fd : FuncData} (F : Fun K "has_room" "has_room" Zc3 f fd) (T : Cn mg) : FnOk P w K mg base CX0 1 f fd ["at", "length", "more"] Zef := by
 refine F.ok Zi6 (fun vs H Q E h => ?_) (fun cdv A outer s H vs Q E hr h => ?_)
 ·obtain ⟨a, l, m, rfl, _⟩ := h; rfl
 ·obtain ⟨a, l, m, rfl, q⟩ := h;refine ⟨_, (Zad (Zb6 (Zbi (pv 2)) (Zai (Zar (Zdn (Zbo Zfa (Za2 Zde (pv 1) (Zb4 rfl T.c_STEP)) Zah (Za3 _)) (Zeq (Zbo Zqk (Za2 Zco (pv 0) (pv 1)) (Zb4 rfl T.c_MOST_BYTES) (Za3 _)))))) Zaz) (Zai (Zar (Zbo Zhn (Za2 Zco (pv 0) (pv 1)) (Zb4 rfl T.c_MOST_BYTES) (Za3 _))))), ?_⟩;walk_at "rd";cases m with
  | true =>
   rw [if_pos rfl];refine ⟨by decide, rfl, ?_⟩;unfold Zhg at q;rw [if_pos rfl] at q
   by_cases h1 : l % 8 = 0
   ·rw [if_pos (by simpa using h1)];simpa [h1] using q
   ·rw [if_neg (by simpa using h1)];simpa [h1] using q
  | false =>
   rw [if_neg (by simp)];exact q
structure Zkb (K : PySem.W.Frag) (C : Addr) : Prop where
 cl : Cls K C
 number : NoAttr K C "number"
 sender : NoAttr K C "sender"
 goal : NoAttr K C "goal"
 at' : NoAttr K C "at"
 body : NoAttr K C "body"
 more : NoAttr K C "more"
 keep : NoAttr K C "keep"
structure PieceAt (C : Addr) (H : Hp) (p : Addr) (nu se go a bo mo ke : V) : Prop where
 ex : ∃ dx fs, H p = some (.ins C dx fs) /\ fs.lookup ("number" : Str) = some nu /\ fs.lookup ("sender" : Str) = some se /\ fs.lookup ("goal" : Str) = some go /\ fs.lookup ("at" : Str) = some a /\ fs.lookup ("body" : Str) = some bo /\ fs.lookup ("more" : Str) = some mo /\ fs.lookup ("keep" : Str) = some ke /\
  fs.lookup ("key" : Str) = none /\ fs.lookup ("end" : Str) = none /\ fs.lookup ("is_like" : Str) = none
theorem PieceAt.same {C p : Addr} {H H' : Hp} {nu se go a bo mo ke : V} (s : ∀ o, H p = some o -> H' p = some o) (h : PieceAt C H p nu se go a bo mo ke) : PieceAt C H' p nu se go a bo mo ke := by
 obtain ⟨dx, fs, hp, r⟩ := h;exact ⟨dx, fs, s _ hp, r⟩
def Zbs (C : Addr) : Sp := fun vs H Q _ => ∃ (p dx : Addr) (nu se go : V) (a : Int) (b : Addr) (mo : Bool) (ke : V) (xs : List V), vs = [.ref p, nu, se, go, .int a, .ref b, .bl mo, ke] /\ H p = some (.ins C dx []) /\ Zea H nu se go (.ref b) ke /\ goodParts H nu se go (.ref b) ke = true /\
 Zox (.int a) = true /\ H b = some (.lst xs) /\ Zhg a xs.length mo = true /\
 ∀ H' b', H b' = none -> b' ≠ p -> H' b' = some (.lst xs) -> PieceAt C H' p nu se go (.int a) (.ref b') (.bl mo) ke -> But p H H' -> Q .non H'
abbrev s_Piece_init : Stmt := Zfd (top 26) 0
theorem Zhd : Zaq ["self", "number", "sender", "goal", "at", "body", "more", "keep"] ["self", "number", "sender", "goal", "at", "body", "more", "keep"] (defScope s_Piece_init) := ⟨rfl, rfl, rfl, by decide +kernel, rfl, by decide +kernel, by decide +kernel⟩
theorem Zhs {f C : Addr} {fd : FuncData} (F : ∃ (oc : Value) (od : Option Addr) (dV kV doc pm : Value) (an : Option Addr) (cdv ct : Value) (osl : Array (Option Value)),
  fd = PySem.W.fnOf "__init__" "Piece.__init__" (Zam s_Piece_init) (defBody s_Piece_init) (defScope s_Piece_init) dV kV doc pm an cdv ct /\ K.lookup f = some ⟨oc, od, .func fd, osl⟩ /\ PySem.W.codeIn K cdv "Piece.__init__" = true) (L : Zkb K C) (B : Bt mg)
  (F_are_shared_parts : FnB P w K mg base "are_shared_parts" 5 ["number", "sender", "goal", "body", "keep"] [] Zbd) (F_is_place : FnB P w K mg base "is_place" 2 ["at"] [] Zee) (F_is_truth : FnB P w K mg base "is_truth" 1 ["value"] [] Zds)
  (F_has_room : FnB P w K mg base "has_room" 1 ["at", "length", "more"] [] Zef) : FnOk P w K mg base CX0 6 f fd ["self", "number", "sender", "goal", "at", "body", "more", "keep"] (Zbs C) := by
 obtain ⟨oc, od, dV, kV, doc, pm, an, cdv, ct, osl, rfl, lk, hcd⟩ := F;refine Znc lk hcd Zhd (fun vs H Q E h => ?_) (fun A outer s H vs Q E hr h => ?_)
 ·obtain ⟨p, dx, nu, se, go, a, b, mo, ke, xs, rfl, _⟩ := h; rfl
 ·obtain ⟨p, dx, nu, se, go, a, b, mo, ke, xs, rfl, hp, hpl, hgd, hat, hb, hroom, q⟩ := h
  suffices hh : ∃ t, PSs (cxOf CX0 P w K mg base _ "Piece.__init__" (defScope s_Piece_init) f cdv A outer s H E).nox (defBody s_Piece_init) t /\ t { nx := fun _ H' => Q .non H', rt := Q } (L2.start _ _) H by
   obtain ⟨t, h1, h2⟩ := hh;exact ⟨t, h1.nox, h2⟩
  refine ⟨_, (Zad (Zb6 (Zbj (Zbi (Zag F_are_shared_parts (hr.mono (by decide)) rfl (Zaa (hs := Zab) (pv 1) (Zaa (hs := Zab) (pv 2) (Zaa (hs := Zab) (pv 3) (Zaa (hs := Zab) (pv 5) (Zaa (hs := Zab) (pv 7) Zac)))))))) Zdm Zaz) (Zad (Zb6 (PW.pt (Zej (Zbj (Zbi (Zag F_is_place (hr.mono (by decide)) rfl (Zaa (hs := Zab) (pv 4) Zac)))) (Zej (Zbj (Zbi (Zag F_is_truth (hr.mono (by decide)) rfl (Zaa (hs := Zab) (pv 6) Zac)))) (Zd6 (Zbj (Zbi (Zag F_has_room (hr.mono (by decide)) rfl (Zaa (hs := Zab) (pv 4) (Zaa (hs := Zav) (Zau (Zdo (K := K) rfl) rfl B.len (by rfl) (Zaa (hs := Zab) (pv 5) Zac)) (Zaa (hs := Zab) (pv 6) Zac)))))))))) Zdm Zaz) (Zad (Zcq (K := K) rfl (pv 0) (pv 1) rfl) (Zad (Zcq (K := K) rfl (pv 0) (pv 2) rfl) (Zad (Zcq (K := K) rfl (pv 0) (pv 3) rfl) (Zad (Zcq (K := K) rfl (pv 0) (pv 4) rfl) (Zad (Zcq (K := K) rfl (pv 0) (Zbr (Zfi (K := K) rfl) rfl B.blist (by rfl) (Zaa (hs := Zab) (pv 5) Zac)) rfl) (Zad (Zcq (K := K) rfl (pv 0) (pv 6) rfl) (Zai (Zcq (K := K) rfl (pv 0) (pv 7) rfl)))))))))), ?_⟩;walk_at "rd";refine ⟨nu, se, go, .ref b, ke, rfl, hpl, fun H1 s1 => ⟨_, rfl, ?_⟩⟩;rw [hgd];simp only [Bool.not_true, Bool.false_eq_true, if_false];refine ⟨.int a, _, rfl, rfl, _, rfl, ?_⟩;rw [hat];simp only [Bool.not_true, Bool.false_eq_true, if_false];refine ⟨.bl mo, _, rfl, rfl, _, rfl, ?_⟩;have hp1 := s1 p _ hp;have hb1 := s1 b _ hb;have nbp : b ≠ p := Zqq hb hp (by intro z; cases z);have l0 : ([] : List (Str × V)).length <= 0 := Nat.le_refl 0;simp only [isB, Bool.not_true, Bool.false_eq_true, if_false];refine ⟨_, .inl (SqL.of hb1), a, _, mo, rfl, _, rfl, ?_⟩;rw [hroom];simp only [Bool.not_true, Bool.false_eq_true, if_false];refine ⟨C, dx, [], hp1, L.cl, L.number, by decide, C, dx, _, Zal, L.cl, L.sender, Nat.lt_of_le_of_lt (Zaw l0) (by decide), C, dx, _, Zal, L.cl, L.goal, Nat.lt_of_le_of_lt (Zaw (Zaw l0)) (by decide), C, dx, _, Zal, L.cl, L.at', Nat.lt_of_le_of_lt (Zaw (Zaw (Zaw l0))) (by decide), xs,
   .inl (SqL.of (by rw [Zao nbp, Zao nbp, Zao nbp, Zao nbp]; exact hb1)), fun l hl => ?_⟩
  have hlp : l ≠ p := fun z => by rw [z, Zal] at hl; cases hl
  have hl1 : H1 l = none := by rw [Zao hlp, Zao hlp, Zao hlp, Zao hlp] at hl; exact hl
  refine ⟨C, dx, _, by rw [Zao (Ne.symm hlp)]; exact Zal, L.cl, L.body, Nat.lt_of_le_of_lt (Zaw (Zaw (Zaw (Zaw l0)))) (by decide), C, dx, _, Zal, L.cl, L.more, Nat.lt_of_le_of_lt (Zaw (Zaw (Zaw (Zaw (Zaw l0))))) (by decide), C, dx, _, Zal, L.cl, L.keep, Nat.lt_of_le_of_lt (Zaw (Zaw (Zaw (Zaw (Zaw (Zaw l0)))))) (by decide), ?_⟩;refine q _ l (s1.free hl1) hlp (by rw [Zao hlp, Zao hlp, Zao hlp, Zal]) ⟨dx, _, Zal, ?_, ?_, ?_, ?_, ?_, ?_, ?_, ?_, ?_, ?_⟩ ?_
  ·rw [Zak, Zak, Zak, Zak, Zak, Zak, Zcr] <;> decide +kernel
  ·rw [Zak, Zak, Zak, Zak, Zak, Zcr] <;> decide +kernel
  ·rw [Zak, Zak, Zak, Zak, Zcr] <;> decide +kernel
  ·rw [Zak, Zak, Zak, Zcr] <;> decide +kernel
  ·rw [Zak, Zak, Zcr] <;> decide +kernel
  ·rw [Zak, Zcr] <;> decide +kernel
  ·rw [Zcr]
  ·rw [Zak, Zak, Zak, Zak, Zak, Zak, Zak] <;> first | rfl | decide +kernel
  ·rw [Zak, Zak, Zak, Zak, Zak, Zak, Zak] <;> first | rfl | decide +kernel
  ·rw [Zak, Zak, Zak, Zak, Zak, Zak, Zak] <;> first | rfl | decide +kernel
  ·intro c o e hc;rw [Zao hc, Zao hc, Zao hc, Zao (Za0 (s1 c o e) hl1), Zao hc, Zao hc, Zao hc, Zao hc];exact s1 c o e
def Zdd (C : Addr) : Sp := fun vs H Q _ => ∃ p nu se go a bo mo ke, vs = [.ref p] /\ PieceAt C H p nu se go a bo mo ke /\ ∀ t, H t = none -> Q (.ref t) (upd H t (.tup [nu, se, go]))
abbrev Zcd : Stmt := Zfd (top 26) 1
theorem Zic : Zaq ["self"] ["self"] (defScope Zcd) := ⟨rfl, rfl, rfl, by decide +kernel, rfl, by decide +kernel, by decide +kernel⟩
theorem Zik {f C : Addr} {fd : FuncData} (F : Fun K "key" "Piece.key" Zcd f fd) (L : Zkb K C) : FnOk P w K mg base CX0 1 f fd ["self"] (Zdd C) := by
 refine F.ok Zic (fun vs H Q E h => ?_) (fun cdv A outer s H vs Q E hr h => ?_)
 ·obtain ⟨p, nu, se, go, a, bo, mo, ke, rfl, _⟩ := h; rfl
 ·obtain ⟨p, nu, se, go, a, bo, mo, ke, rfl, ⟨dx, fs, hp, f1, f2, f3, _⟩, q⟩ := h;refine ⟨_, (Zai (Zar (Znr (Zaa (hs := Zaf) (Zbn (K := K) rfl (pv 0) rfl) (Zaa (hs := Zaf) (Zbn (K := K) rfl (pv 0) rfl) (Zaa (hs := Zaf) (Zbn (K := K) rfl (pv 0) rfl) Zac)))))), ?_⟩;walk_at "rd";exact ⟨C, dx, fs, hp, L.cl, L.number, nu, f1, C, dx, fs, hp, L.cl, L.sender, se, f2, C, dx, fs, hp, L.cl, L.goal, go, f3, Zan (by decide), q⟩
end
section
variable {P : Program} {w : World} {K : PySem.W.Frag} {mg : Str -> Option Value} {base : Heap}
def NmOk (z : Str) : Prop := 1 <= z.length /\ z.length <= 8 /\ z.cps.toList.all smallC = true
theorem NmOk.is {z : Str} (h : NmOk z) : isNm (.str z) = true := by
 obtain ⟨h1, h2, h3⟩ := h;simp only [isNm, h1, h2, h3, decide_true, Bool.and_self]
end
section
variable {K : PySem.W.Frag}
theorem NmOk.ok {z : Str} (h : NmOk z) : PyData.strOk z = true := by
 unfold PyData.strOk;rw [Array.all_eq_true];intro i hi;have h3 := List.all_eq_true.mp h.2.2 (z.cps[i]) (Array.getElem_mem_toList hi);unfold smallC at h3;simp only [Bool.and_eq_true, decide_eq_true_eq] at h3;simp only [decide_eq_true_eq]; omega
abbrev Zo9 (nu : Int) (z1 z2 : Str) : PyData := .tuple [.int nu, .str z1, .str z2]
theorem Zgv {H : Hp} {t : Addr} {nu : Int} {z1 z2 : Str} (h : H t = some (.tup [.int nu, .str z1, .str z2])) : Dp K H (.ref t) (Zo9 nu z1 z2) :=
 .tup (SqT.of h) (.cons (.int _) (.cons (.str _) (.cons (.str _) .nil)))
theorem Zd9 (nu : Int) {z1 z2 : Str} (h1 : NmOk z1) (h2 : NmOk z2) : SeqAt.shaped (Zo9 nu z1 z2) = true := by
 simp [SeqAt.shaped, PyData.canLay0, PyData.canLayAll0, PyData.depth, PyData.depthAll, h1.ok, h2.ok]
theorem Zfj {H : Hp} {b : Addr} {ns : List Int} (h : H b = some (.lst (ns.map V.int))) : Dp K H (.ref b) (.list (ns.map PyData.int)) := .lst (SqL.of h) (DpAll.ints ns)
theorem Zj9 (ns : List Int) : PyData.eqv (.list (ns.map PyData.int)) (.list (ns.map PyData.int)) = true := by
 show PyData.eqvAll _ _ = true;rw [PySem.W.ked_eqvAll]; simp
theorem Ztp {n : Nat} (h : 0 < n) : ixN n 0 = some 0 := by
 have h' : (0 : Int) < (n : Int) := by omega
 unfold ixN;rw [if_pos (by decide), if_pos h']; rfl
theorem at0 {α : Type} {x : α} {xs : List α} : atI (x :: xs) 0 = some x := by
 unfold atI; rw [List.length_cons, Ztp (Nat.succ_pos _)]; rfl
theorem Ze9 {H : Hp} {nu : Int} {z1 z2 : Str} {b : Addr} {ns : List Int} {k : Bool} (h0 : 0 <= nu) (h1 : nu <= 65535) (n1 : NmOk z1) (n2 : NmOk z2) (hb : H b = some (.lst (ns.map V.int))) (l1 : 1 <= ns.length) (l2 : ns.length <= 4000) (hns : ∀ x ∈ ns, 0 <= x /\ x <= 255) :
  Zea H (.int nu) (.str z1) (.str z2) (.ref b) (.bl k) /\ goodParts H (.int nu) (.str z1) (.str z2) (.ref b) (.bl k) = true := by
 refine ⟨⟨⟨_, rfl⟩, ⟨_, rfl⟩, fun z e => ?_, ⟨_, rfl⟩, fun z e => ?_, ⟨_, Zn3 hb⟩, fun a xs e1 e2 => ?_, ⟨_, rfl⟩⟩, ?_⟩
 ·cases e; have := n1.2.1; omega
 ·cases e; have := n2.2.1; omega
 ·cases e1; rw [hb] at e2; cases e2;refine ⟨by rw [List.length_map]; omega, fun y hy => ?_⟩;obtain ⟨i, _, rfl⟩ := List.mem_map.mp hy;exact ⟨_, rfl⟩
 ·unfold goodParts;rw [n1.is, n2.is, Zj5 hb];have hall : (ns.map V.int).all (fun y => wIn y 0 255) = true := by
   rw [List.all_eq_true];intro y hy;obtain ⟨i, hi, rfl⟩ := List.mem_map.mp hy;have := hns i hi;simp [wIn, this.1, this.2]
  rw [hall];simp [wIn, h0, h1, l1, l2, isB]
def Zjo (K : PySem.W.Frag) : Sp := fun vs H Q _ => ∃ (a : Addr) (ns : List Int), vs = [.ref a] /\ SqL K H a (ns.map V.int) /\ ns.length <= 63 /\ ∀ H', Q (.bl true) H'
end
section
variable {P : Program} {w : World} {K : PySem.W.Frag} {mg : Str -> Option Value} {base : Heap}
theorem Zj3 (nu : Int) (z1 z2 : Str) (nu' : Int) (z1' z2' : Str) : PyData.eqv (Zo9 nu z1 z2) (Zo9 nu' z1' z2') = decide (nu = nu' /\ z1 = z1' /\ z2 = z2') := by
 simp only [PyData.eqv, PyData.eqvAll, Bool.and_true];rw [Bool.eq_iff_iff];simp
theorem Zit (ns ms : List Int) : PyData.eqv (.list (ns.map PyData.int)) (.list (ms.map PyData.int)) = decide (ns = ms) := by
 show PyData.eqvAll _ _ = _;rw [PySem.W.ked_eqvAll]
end
section
variable {P : Program} {w : World} {K : PySem.W.Frag} {mg : Str -> Option Value} {base : Heap}
theorem LetterAt.same {C p : Addr} {H H' : Hp} {nu se go bo ke : V} (s : ∀ o, H p = some o -> H' p = some o) (h : LetterAt C H p nu se go bo ke) : LetterAt C H' p nu se go bo ke := by
 obtain ⟨dx, fs, hp, r⟩ := h;exact ⟨dx, fs, s _ hp, r⟩
def Zsp (C : Addr) (H : Hp) (p : Addr) (nu : Int) (z1 z2 : Str) (ns : List Int) (k : Bool) : Prop := NmOk z1 /\ NmOk z2 /\ ∃ b, LetterAt C H p (.int nu) (.str z1) (.str z2) (.ref b) (.bl k) /\ H b = some (.lst (ns.map V.int))
def likeL (nu : Int) (z1 z2 : Str) (ns : List Int) (k : Bool) (nu' : Int) (z1' z2' : Str) (ns' : List Int) (k' : Bool) : Bool := decide (nu = nu' /\ z1 = z1' /\ z2 = z2') && (decide (ns = ns') && decide (k = k'))
def Zb7 (C : Addr) : Sp := fun vs H Q _ => ∃ (p p' : Addr) (nu nu' : Int) (z1 z2 z1' z2' : Str) (ns ns' : List Int) (k k' : Bool), vs = [.ref p, .ref p'] /\ Zsp C H p nu z1 z2 ns k /\ Zsp C H p' nu' z1' z2' ns' k' /\
 ∀ H', Same H H' -> Q (.bl (likeL nu z1 z2 ns k nu' z1' z2' ns' k')) H'
abbrev Za8 : Stmt := Zfd (top 25) 2
theorem Ze4 : Zaq ["self", "other"] ["self", "other"] (defScope Za8) := ⟨rfl, rfl, rfl, by decide +kernel, rfl, by decide +kernel, by decide +kernel⟩
theorem Zfb {f C : Addr} {fd : FuncData} (F : Fun K "is_like" "Letter.is_like" Za8 f fd) (L : Zkw K C) (F_Letter_key : MtB P w K mg base C "key" 1 ["self"] [] (Zcv C)) : FnOk P w K mg base CX0 2 f fd ["self", "other"] (Zb7 C) := by
 refine F.ok Ze4 (fun vs H Q E h => ?_) (fun cdv A outer s H vs Q E hr h => ?_)
 ·obtain ⟨p, p', nu, nu', z1, z2, z1', z2', ns, ns', k, k', rfl, _⟩ := h; rfl
 ·obtain ⟨p, p', nu, nu', z1, z2, z1', z2', ns, ns', k, k', rfl, ⟨n1, n2, b, hL, hb⟩, ⟨n1', n2', b', hL', hb'⟩, q⟩ := h;obtain ⟨dx, fs, hp, f1, f2, f3, f4, f5, f6, f7⟩ := id hL;obtain ⟨dx', fs', hp', g1, g2, g3, g4, g5, g6, g7⟩ := id hL';refine ⟨_, (Zai (Zar (Zdn (Zbo (Zho (K := K) (Room.units hr) rfl) (Zer (pv 0) F_Letter_key (hr.mono (by decide))) (Zer (pv 1) F_Letter_key (hr.mono (by decide))) (Za3 _)) (Zdn (Zbo (Zho (K := K) (Room.units hr) rfl) (Zbn (K := K) rfl (pv 0) rfl) (Zbn (K := K) rfl (pv 1) rfl) (Za3 _)) (Zeq (Zbo Zfa (Zbn (K := K) rfl (pv 0) rfl) (Zbn (K := K) rfl (pv 1) rfl) (Za3 _))))))), ?_⟩;walk_at "rd";refine ⟨dx, fs, hp, f6, p, _, _, _, _, _, rfl, hL, fun c hc => ?_⟩;have s1 : Same H (upd H c (.tup [.int nu, .str z1, .str z2])) := (Same.refl H).new hc;refine ⟨dx', fs', s1 p' _ hp', g6, ?_⟩;refine ⟨p', _, _, _, _, _, rfl, hL'.same (s1 p'), fun c2 hc2 => ?_⟩;have n12 : c ≠ c2 := Za0 (H := upd H c (.tup [.int nu, .str z1, .str z2])) Zal hc2;have s2 : Same H (upd (upd H c (.tup [.int nu, .str z1, .str z2])) c2 (.tup [.int nu', .str z1', .str z2'])) := s1.trans ((Same.refl _).new hc2);refine ⟨_, _, Zgv ((Zao n12).trans Zal), Zgv Zal, Zd9 nu n1 n2, Zd9 nu' n1' n2', ?_⟩;rw [Zj3];generalize upd (upd H c (.tup [.int nu, .str z1, .str z2])) c2 (.tup [.int nu', .str z1', .str z2']) = H2 at s2 ⊢;have q' := q H2 s2;unfold likeL at q';walk_at "rd";refine Zkv (fun h1 => ?_) (fun h1 => ?_)
  ·rw [h1, Bool.true_and] at q';refine ⟨C, dx, fs, s2 p _ hp, L.cl, L.body, _, f4, C, dx', fs', s2 p' _ hp', L.cl, L.body, _, g4, _, _, Zfj (s2 b _ hb), Zfj (s2 b' _ hb'), Zdt ns, Zdt ns', ?_⟩;rw [Zit];walk_at "rd";refine Zkv (fun h2 => ?_) (fun h2 => ?_)
   ·rw [h2, Bool.true_and] at q';refine ⟨C, dx, fs, s2 p _ hp, L.cl, L.keep, _, f5, C, dx', fs', s2 p' _ hp', L.cl, L.keep, _, g5, rfl, ?_⟩;simpa using q'
   ·rw [Bool.not_eq_true] at h2;rw [h2, Bool.false_and] at q';exact q'
  ·rw [Bool.not_eq_true] at h1;rw [h1, Bool.false_and] at q';exact q'
end
section
variable {P : Program} {w : World} {K : PySem.W.Frag} {mg : Str -> Option Value} {base : Heap}
def Zsm (C : Addr) (H : Hp) (p : Addr) (nu : Int) (z1 z2 : Str) (a : Int) (ns : List Int) (mo k : Bool) : Prop := NmOk z1 /\ NmOk z2 /\ ∃ b, PieceAt C H p (.int nu) (.str z1) (.str z2) (.int a) (.ref b) (.bl mo) (.bl k) /\ H b = some (.lst (ns.map V.int))
def likeP (nu : Int) (z1 z2 : Str) (a : Int) (ns : List Int) (mo k : Bool) (nu' : Int) (z1' z2' : Str) (a' : Int) (ns' : List Int) (mo' k' : Bool) : Bool := (decide (nu = nu' /\ z1 = z1' /\ z2 = z2') && (decide (a = a') && decide (ns = ns'))) && (decide (mo = mo') && decide (k = k'))
def Zcp (C : Addr) : Sp := fun vs H Q _ => ∃ (p p' : Addr) (nu nu' : Int) (z1 z2 z1' z2' : Str) (a a' : Int) (ns ns' : List Int) (mo mo' k k' : Bool), vs = [.ref p, .ref p'] /\ Zsm C H p nu z1 z2 a ns mo k /\ Zsm C H p' nu' z1' z2' a' ns' mo' k' /\
 ∀ H', Same H H' -> Q (.bl (likeP nu z1 z2 a ns mo k nu' z1' z2' a' ns' mo' k')) H'
abbrev Zba : Stmt := Zfd (top 26) 3
theorem Zfl : Zaq ["self", "other"] ["self", "other"] (defScope Zba) := ⟨rfl, rfl, rfl, by decide +kernel, rfl, by decide +kernel, by decide +kernel⟩
theorem Zfm {f C : Addr} {fd : FuncData} (F : Fun K "is_like" "Piece.is_like" Zba f fd) (L : Zkb K C) (F_Piece_key : MtB P w K mg base C "key" 1 ["self"] [] (Zdd C)) : FnOk P w K mg base CX0 2 f fd ["self", "other"] (Zcp C) := by
 refine F.ok Zfl (fun vs H Q E h => ?_) (fun cdv A outer s H vs Q E hr h => ?_)
 ·obtain ⟨p, p', nu, nu', z1, z2, z1', z2', a, a', ns, ns', mo, mo', k, k', rfl, _⟩ := h; rfl
 ·obtain ⟨p, p', nu, nu', z1, z2, z1', z2', a, a', ns, ns', mo, mo', k, k', rfl, ⟨n1, n2, b, hL, hb⟩, ⟨n1', n2', b', hL', hb'⟩, q⟩ := h;obtain ⟨dx, fs, hp, f1, f2, f3, f4, f5, f6, f7, f8, f9, f10⟩ := id hL;obtain ⟨dx', fs', hp', g1, g2, g3, g4, g5, g6, g7, g8, g9, g10⟩ := id hL';refine ⟨_, (Zad (Zb6 (PW.pt (Zej (Zbm (Zhm (K := K) (Room.units hr) rfl) (Zer (pv 0) F_Piece_key (hr.mono (by decide))) (Zer (pv 1) F_Piece_key (hr.mono (by decide))) (Za3 _)) (Zej (Zbm Zif (Zbn (K := K) rfl (pv 0) rfl) (Zbn (K := K) rfl (pv 1) rfl) (Za3 _)) (Zd6 (Zbm (Zhm (K := K) (Room.units hr) rfl) (Zbn (K := K) rfl (pv 0) rfl) (Zbn (K := K) rfl (pv 1) rfl) (Za3 _)))))) (Zai (Zar Zdj)) Zaz) (Zai (Zar (Zdn (Zbo Zfa (Zbn (K := K) rfl (pv 0) rfl) (Zbn (K := K) rfl (pv 1) rfl) (Za3 _)) (Zeq (Zbo Zfa (Zbn (K := K) rfl (pv 0) rfl) (Zbn (K := K) rfl (pv 1) rfl) (Za3 _))))))), ?_⟩;walk_at "rd";refine ⟨dx, fs, hp, f8, p, _, _, _, _, _, _, _, rfl, hL, fun c hc => ?_⟩;have s1 : Same H (upd H c (.tup [.int nu, .str z1, .str z2])) := (Same.refl H).new hc;refine ⟨dx', fs', s1 p' _ hp', g8, ?_⟩;refine ⟨p', _, _, _, _, _, _, _, rfl, hL'.same (s1 p'), fun c2 hc2 => ?_⟩;have n12 : c ≠ c2 := Za0 (H := upd H c (.tup [.int nu, .str z1, .str z2])) Zal hc2;have s2 : Same H (upd (upd H c (.tup [.int nu, .str z1, .str z2])) c2 (.tup [.int nu', .str z1', .str z2'])) := s1.trans ((Same.refl _).new hc2);refine ⟨_, _, Zgv ((Zao n12).trans Zal), Zgv Zal, Zd9 nu n1 n2, Zd9 nu' n1' n2', ?_⟩;rw [Zj3];generalize upd (upd H c (.tup [.int nu, .str z1, .str z2])) c2 (.tup [.int nu', .str z1', .str z2']) = H2 at s2 ⊢;have q' := q H2 s2;unfold likeP at q';walk_at "rd";cases h1 : decide (nu = nu' /\ z1 = z1' /\ z2 = z2') with
  | false =>
   rw [h1] at q';exact q'
  | true =>
   rw [h1, Bool.true_and] at q';simp only [Bool.not_true, Bool.false_eq_true, if_false];refine ⟨C, dx, fs, s2 p _ hp, L.cl, L.at', _, f4, C, dx', fs', s2 p' _ hp', L.cl, L.at', _, g4, rfl, ?_⟩;have ea : decide (V.int a = V.int a') = decide (a = a') := by simp
   rw [ea];cases h2 : decide (a = a') with
   | false =>
    rw [h2] at q';exact q'
   | true =>
    rw [h2, Bool.true_and] at q';simp only [Bool.not_true, Bool.false_eq_true, if_false];refine ⟨C, dx, fs, s2 p _ hp, L.cl, L.body, _, f5, C, dx', fs', s2 p' _ hp', L.cl, L.body, _, g5, _, _, Zfj (s2 b _ hb), Zfj (s2 b' _ hb'), Zdt ns, Zdt ns', ?_⟩;rw [Zit];walk_at "rd";cases h3 : decide (ns = ns') with
    | false =>
     rw [h3] at q';exact q'
    | true =>
     rw [h3, Bool.true_and] at q';simp only [Bool.not_true, Bool.false_eq_true, if_false];refine ⟨C, dx, fs, s2 p _ hp, L.cl, L.more, _, f6, C, dx', fs', s2 p' _ hp', L.cl, L.more, _, g6, rfl, ?_⟩;have em : decide (V.bl mo = V.bl mo') = decide (mo = mo') := by simp
     rw [em];refine Zkv (fun h4 => ?_) (fun h4 => ?_)
     ·rw [h4, Bool.true_and] at q';refine ⟨C, dx, fs, s2 p _ hp, L.cl, L.keep, _, f7, C, dx', fs', s2 p' _ hp', L.cl, L.keep, _, g7, rfl, ?_⟩;simpa using q'
     ·rw [Bool.not_eq_true] at h4;rw [h4, Bool.false_and] at q';exact q'
end
structure PD where
 nu : Int
 z1 : Str
 z2 : Str
 at' : Int
 ns : List Int
 mo : Bool
 k : Bool
 deriving DecidableEq
structure PD.Ok (d : PD) : Prop where
 n0 : 0 <= d.nu
 n1 : d.nu <= 65535
 k1 : NmOk d.z1
 k2 : NmOk d.z2
 l1 : 1 <= d.ns.length
 l2 : d.ns.length <= 4000
 by' : ∀ x ∈ d.ns, 0 <= x /\ x <= 255
 a0 : 0 <= d.at'
 a8 : d.at' % 8 = 0
 rm : Zhg d.at' d.ns.length d.mo = true
structure PieO (C : Addr) (H : Hp) (p b : Addr) (d : PD) : Prop where
 ok : d.Ok
 ats : PieceAt C H p (.int d.nu) (.str d.z1) (.str d.z2) (.int d.at') (.ref b) (.bl d.mo) (.bl d.k)
 bd : H b = some (.lst (d.ns.map V.int))
section
variable {P : Program} {w : World} {K : PySem.W.Frag} {mg : Str -> Option Value} {base : Heap} {C p b : Addr} {H G : Hp}
theorem PieO.mono {d : PD} (s : Same H G) (h : PieO C H p b d) : PieO C G p b d := ⟨h.ok, h.ats.same (s p), s _ _ h.bd⟩
theorem PieO.but {d : PD} {l : Addr} (s : But l H G) (h : PieO C H p b d) (n1 : p ≠ l) (n2 : b ≠ l) : PieO C G p b d := ⟨h.ok, h.ats.same fun o e => s p o e n1, s _ _ h.bd n2⟩
theorem PieO.ins {d : PD} (h : PieO C H p b d) : ∃ dx fs, H p = some (.ins C dx fs) := by
 obtain ⟨dx, fs, hp, _⟩ := h.ats;exact ⟨dx, fs, hp⟩
theorem Zma {d : PD} (L : Zkb K C) (h : PieO C H p b d) : FldV K H (.ref p) "number" (.int d.nu) := by
 obtain ⟨dx, fs, hp, f1, f2, f3, f4, f5, f6, f7, _⟩ := h.ats;exact ⟨p, C, dx, fs, rfl, hp, L.cl, L.number, f1⟩
theorem Zl9 {d : PD} (L : Zkb K C) (h : PieO C H p b d) : FldV K H (.ref p) "sender" (.str d.z1) := by
 obtain ⟨dx, fs, hp, f1, f2, f3, f4, f5, f6, f7, _⟩ := h.ats;exact ⟨p, C, dx, fs, rfl, hp, L.cl, L.sender, f2⟩
theorem Zo1 {d : PD} (L : Zkb K C) (h : PieO C H p b d) : FldV K H (.ref p) "goal" (.str d.z2) := by
 obtain ⟨dx, fs, hp, f1, f2, f3, f4, f5, f6, f7, _⟩ := h.ats;exact ⟨p, C, dx, fs, rfl, hp, L.cl, L.goal, f3⟩
theorem Zmb {d : PD} (L : Zkb K C) (h : PieO C H p b d) : FldV K H (.ref p) "at" (.int d.at') := by
 obtain ⟨dx, fs, hp, f1, f2, f3, f4, f5, f6, f7, _⟩ := h.ats;exact ⟨p, C, dx, fs, rfl, hp, L.cl, L.at', f4⟩
theorem Zf5 {d : PD} (L : Zkb K C) (h : PieO C H p b d) : FldV K H (.ref p) "body" (.ref b) := by
 obtain ⟨dx, fs, hp, f1, f2, f3, f4, f5, f6, f7, _⟩ := h.ats;exact ⟨p, C, dx, fs, rfl, hp, L.cl, L.body, f5⟩
theorem Zff {d : PD} (L : Zkb K C) (h : PieO C H p b d) : FldV K H (.ref p) "more" (.bl d.mo) := by
 obtain ⟨dx, fs, hp, f1, f2, f3, f4, f5, f6, f7, _⟩ := h.ats;exact ⟨p, C, dx, fs, rfl, hp, L.cl, L.more, f6⟩
theorem Zfg {d : PD} (L : Zkb K C) (h : PieO C H p b d) : FldV K H (.ref p) "keep" (.bl d.k) := by
 obtain ⟨dx, fs, hp, f1, f2, f3, f4, f5, f6, f7, _⟩ := h.ats;exact ⟨p, C, dx, fs, rfl, hp, L.cl, L.keep, f7⟩
theorem Zj1 {d : PD} (h : PieO C H p b d) : Zq5 C "key" H (.ref p) := by
 obtain ⟨dx, fs, hp, _, _, _, _, _, _, _, f, _⟩ := h.ats;exact ⟨p, dx, fs, rfl, hp, f⟩
theorem Zlx {d : PD} (h : PieO C H p b d) : Zq5 C "is_like" H (.ref p) := by
 obtain ⟨dx, fs, hp, _, _, _, _, _, _, _, _, _, f⟩ := h.ats;exact ⟨p, dx, fs, rfl, hp, f⟩
def Zlb (C : Addr) : Sp := fun vs H Q _ => ∃ (d : PD) (b : Addr), vs = [.int d.nu, .str d.z1, .str d.z2, .int d.at', .ref b, .bl d.mo, .bl d.k] /\ d.Ok /\ H b = some (.lst (d.ns.map V.int)) /\
 ∀ p b' G, H p = none -> H b' = none -> Same H G -> PieO C G p b' d -> Q (.ref p) G
theorem Ztb (F : MkB P w K mg base "Piece" C 6 ["self", "number", "sender", "goal", "at", "body", "more", "keep"] [] (Zbs C)) : CtB P w K mg base "Piece" 6 (Zlb C) := by
 refine F.ct fun vs H Q h y dx G hy hdx hn s hG => ?_
 obtain ⟨d, b, rfl, ok, hb, q⟩ := h;obtain ⟨pp, gp⟩ := Ze9 (k := d.k) ok.n0 ok.n1 ok.k1 ok.k2 (s b _ hb) ok.l1 ok.l2 ok.by'
 exact ⟨y, dx, _, _, _, d.at', b, d.mo, _, _, rfl, hG, pp, gp, by simp [Zox, ok.a0, ok.a8], s b _ hb, by rw [List.length_map]; exact ok.rm, fun H' b' h0 h1 h2 hL bB => ⟨rfl, q y b' H' hy (s.free h0) (fun d o e => bB d o (s d o e) (Za0 e hy)) ⟨ok, hL, h2⟩⟩⟩
def PD.key (d : PD) : Int × Str × Str := (d.nu, d.z1, d.z2)
end
section
variable {P : Program} {w : World} {K : PySem.W.Frag} {mg : Str -> Option Value} {base : Heap} {C : Addr}
def Zg7 (C : Addr) : Sp := fun vs H Q _ => ∃ (p b : Addr) (d : PD), vs = [.ref p] /\ PieO C H p b d /\ ∀ t G, H t = none -> Same H G -> G t = some (.tup [.int d.nu, .str d.z1, .str d.z2]) -> Q (.ref t) G
theorem Zjz (F : MtB P w K mg base C "key" 1 ["self"] [] (Zdd C)) : MtB P w K mg base C "key" 1 ["self"] [] (Zg7 C) :=
 F.imp fun vs H Q E ⟨p, b, d, e, h, q⟩ => ⟨p, _, _, _, _, _, _, _, e, h.ats, fun t ht => q t _ ht (Zbq ht) Zal⟩
end
structure LD where
 nu : Int
 z1 : Str
 z2 : Str
 ns : List Int
 k : Bool
 deriving DecidableEq
structure LD.Ok (d : LD) : Prop where
 n0 : 0 <= d.nu
 n1 : d.nu <= 65535
 k1 : NmOk d.z1
 k2 : NmOk d.z2
 l1 : 1 <= d.ns.length
 l2 : d.ns.length <= 4000
 by' : ∀ x ∈ d.ns, 0 <= x /\ x <= 255
structure LetO (C : Addr) (H : Hp) (p b : Addr) (d : LD) : Prop where
 ok : d.Ok
 ats : LetterAt C H p (.int d.nu) (.str d.z1) (.str d.z2) (.ref b) (.bl d.k)
 bd : H b = some (.lst (d.ns.map V.int))
section
variable {P : Program} {w : World} {K : PySem.W.Frag} {mg : Str -> Option Value} {base : Heap} {C p b : Addr} {H G : Hp}
theorem LetO.mono {d : LD} (s : Same H G) (h : LetO C H p b d) : LetO C G p b d := ⟨h.ok, h.ats.same (s p), s _ _ h.bd⟩
theorem LetO.ins {d : LD} (h : LetO C H p b d) : ∃ dx fs, H p = some (.ins C dx fs) := by
 obtain ⟨dx, fs, hp, _⟩ := h.ats;exact ⟨dx, fs, hp⟩
theorem Zmd {d : LD} (L : Zkw K C) (h : LetO C H p b d) : FldV K H (.ref p) "number" (.int d.nu) := by
 obtain ⟨dx, fs, hp, f1, f2, f3, f4, f5, _⟩ := h.ats;exact ⟨p, C, dx, fs, rfl, hp, L.cl, L.number, f1⟩
theorem Zmc {d : LD} (L : Zkw K C) (h : LetO C H p b d) : FldV K H (.ref p) "sender" (.str d.z1) := by
 obtain ⟨dx, fs, hp, f1, f2, f3, f4, f5, _⟩ := h.ats;exact ⟨p, C, dx, fs, rfl, hp, L.cl, L.sender, f2⟩
theorem Zo2 {d : LD} (L : Zkw K C) (h : LetO C H p b d) : FldV K H (.ref p) "goal" (.str d.z2) := by
 obtain ⟨dx, fs, hp, f1, f2, f3, f4, f5, _⟩ := h.ats;exact ⟨p, C, dx, fs, rfl, hp, L.cl, L.goal, f3⟩
theorem Zf6 {d : LD} (L : Zkw K C) (h : LetO C H p b d) : FldV K H (.ref p) "body" (.ref b) := by
 obtain ⟨dx, fs, hp, f1, f2, f3, f4, f5, _⟩ := h.ats;exact ⟨p, C, dx, fs, rfl, hp, L.cl, L.body, f4⟩
theorem Zfh {d : LD} (L : Zkw K C) (h : LetO C H p b d) : FldV K H (.ref p) "keep" (.bl d.k) := by
 obtain ⟨dx, fs, hp, f1, f2, f3, f4, f5, _⟩ := h.ats;exact ⟨p, C, dx, fs, rfl, hp, L.cl, L.keep, f5⟩
theorem Zj2 {d : LD} (h : LetO C H p b d) : Zq5 C "key" H (.ref p) := by
 obtain ⟨dx, fs, hp, _, _, _, _, _, f, _⟩ := h.ats;exact ⟨p, dx, fs, rfl, hp, f⟩
theorem Zot {d : LD} (h : LetO C H p b d) : Zq5 C "is_like" H (.ref p) := by
 obtain ⟨dx, fs, hp, _, _, _, _, _, _, f⟩ := h.ats;exact ⟨p, dx, fs, rfl, hp, f⟩
def Zjn (C : Addr) : Sp := fun vs H Q _ => ∃ (d : LD) (b : Addr), vs = [.int d.nu, .str d.z1, .str d.z2, .ref b, .bl d.k] /\ d.Ok /\ H b = some (.lst (d.ns.map V.int)) /\
 ∀ p b' G, H p = none -> H b' = none -> Same H G -> LetO C G p b' d -> Q (.ref p) G
theorem Zsj (F : MkB P w K mg base "Letter" C 6 ["self", "number", "sender", "goal", "body", "keep"] [] (Zbx C)) : CtB P w K mg base "Letter" 6 (Zjn C) := by
 refine F.ct fun vs H Q h y dx G hy hdx hn s hG => ?_
 obtain ⟨d, b, rfl, ok, hb, q⟩ := h;obtain ⟨pp, gp⟩ := Ze9 (k := d.k) ok.n0 ok.n1 ok.k1 ok.k2 (s b _ hb) ok.l1 ok.l2 ok.by'
 exact ⟨y, dx, _, _, _, b, _, _, rfl, hG, pp, gp, s b _ hb, fun H' b' h0 h1 h2 hL bB => ⟨rfl, q y b' H' hy (s.free h0) (fun d o e => bB d o (s d o e) (Za0 e hy)) ⟨ok, hL, h2⟩⟩⟩
end
section
variable {P : Program} {w : World} {K : PySem.W.Frag} {mg : Str -> Option Value} {base : Heap} {C : Addr}
theorem Zlz (d d' : PD) : likeP d.nu d.z1 d.z2 d.at' d.ns d.mo d.k d'.nu d'.z1 d'.z2 d'.at' d'.ns d'.mo d'.k = decide (d = d') := by
 rw [Bool.eq_iff_iff];unfold likeP;cases d; cases d';simp only [Bool.and_eq_true, decide_eq_true_eq, PD.mk.injEq];constructor
 ·rintro ⟨⟨⟨a, b, c⟩, d, e⟩, f, g⟩; exact ⟨a, b, c, d, e, f, g⟩
 ·rintro ⟨a, b, c, d, e, f, g⟩; exact ⟨⟨⟨a, b, c⟩, d, e⟩, f, g⟩
theorem PieO.d {H : Hp} {p b : Addr} {d : PD} (h : PieO C H p b d) : Zsm C H p d.nu d.z1 d.z2 d.at' d.ns d.mo d.k := ⟨h.ok.k1, h.ok.k2, b, h.ats, h.bd⟩
def Zh7 (C : Addr) : Sp := fun vs H Q _ => ∃ (p b p' b' : Addr) (d d' : PD), vs = [.ref p, .ref p'] /\ PieO C H p b d /\ PieO C H p' b' d' /\ ∀ G, Same H G -> Q (.bl (decide (d = d'))) G
theorem Zlv (F : MtB P w K mg base C "is_like" 2 ["self", "other"] [] (Zcp C)) : MtB P w K mg base C "is_like" 2 ["self", "other"] [] (Zh7 C) :=
 F.imp fun vs H Q E ⟨p, b, p', b', d, d', e, h, h', q⟩ => ⟨p, p', _, _, _, _, _, _, _, _, _, _, _, _, _, _, e, h.d, h'.d, fun G s => by rw [Zlz]; exact q G s⟩
end
section
variable {P : Program} {w : World} {K : PySem.W.Frag} {mg : Str -> Option Value} {base : Heap} {C : Addr}
theorem Zl0 (d d' : LD) : likeL d.nu d.z1 d.z2 d.ns d.k d'.nu d'.z1 d'.z2 d'.ns d'.k = decide (d = d') := by
 rw [Bool.eq_iff_iff];unfold likeL;cases d; cases d';simp only [Bool.and_eq_true, decide_eq_true_eq, LD.mk.injEq];constructor
 ·rintro ⟨⟨a, b, c⟩, e, g⟩; exact ⟨a, b, c, e, g⟩
 ·rintro ⟨a, b, c, e, g⟩; exact ⟨⟨a, b, c⟩, e, g⟩
theorem LetO.d {H : Hp} {p b : Addr} {d : LD} (h : LetO C H p b d) : Zsp C H p d.nu d.z1 d.z2 d.ns d.k := ⟨h.ok.k1, h.ok.k2, b, h.ats, h.bd⟩
def Zh8 (C : Addr) : Sp := fun vs H Q _ => ∃ (p b p' b' : Addr) (d d' : LD), vs = [.ref p, .ref p'] /\ LetO C H p b d /\ LetO C H p' b' d' /\ ∀ G, Same H G -> Q (.bl (decide (d = d'))) G
theorem Zlw (F : MtB P w K mg base C "is_like" 2 ["self", "other"] [] (Zb7 C)) : MtB P w K mg base C "is_like" 2 ["self", "other"] [] (Zh8 C) :=
 F.imp fun vs H Q E ⟨p, b, p', b', d, d', e, h, h', q⟩ => ⟨p, p', _, _, _, _, _, _, _, _, _, _, e, h.d, h'.d, fun G s => by rw [Zl0]; exact q G s⟩
def LD.whole (d : LD) : PD := ⟨d.nu, d.z1, d.z2, 0, d.ns, false, d.k⟩
end
def numT (n : Int) : Str := Str.ofString (toString n)
def hvs : List Nat := [48, 49, 50, 51, 52, 53, 54, 55, 56, 57, 97, 98, 99, 100, 101, 102]
abbrev HVS : Str := "0123456789abcdef"
theorem Znx : HVS.cps.toList = hvs := by decide +kernel
def hx (i : Nat) : Str := ⟨#[hvs.getD i 0]⟩
def Zfn (b : Int) : Str := hx (b / 16).toNat ++ hx (b % 16).toNat
def bytesT (ns : List Int) : Str := Txt.join "" (ns.map Zfn)
def Zcm (b : Bool) (s : Str) : Str := if b = true then s else "."
def Zfq (d : PD) : List Str := [numT d.nu, d.z1, d.z2, numT d.at', Zcm d.mo "+", Zcm d.k "!", bytesT d.ns]
def Zfr (d : LD) : List Str := [numT d.nu, d.z1, d.z2, Zcm d.k "!", bytesT d.ns]
def textP (d : PD) : Str := Txt.join " " (Zfq d)
def textL (d : LD) : Str := Txt.join " " (Zfr d)
theorem Zg3 {a b : Str} (h : a.cps.toList = b.cps.toList) : a = b := by
 cases a; cases b;simp only [PySem.Str.mk.injEq];exact Array.toList_inj.mp h
theorem str_app (a b : Str) : (a ++ b).cps.toList = a.cps.toList ++ b.cps.toList := Array.toList_append
theorem Zd0 (a : Str) : a.length = a.cps.toList.length := rfl
theorem Zh1 : (" " : Str) = ⟨#[32]⟩ := by decide +kernel
def jnC (c : List Nat) : List Str -> List Nat
 | [] => []
 | [w] => w.cps.toList
 | w :: v :: r => w.cps.toList ++ c ++ jnC c (v :: r)
theorem Za9 (sep : Str) : ∀ ws : List Str, (Txt.join sep ws).cps.toList = jnC sep.cps.toList ws
 | [] => rfl
 | [w] => rfl
 | w :: v :: r => by
  have ih := Za9 sep (v :: r);unfold Txt.join at ih ⊢;rw [StrLaws.glued_eq_join] at ih ⊢;rw [Str.join.eq_3 sep w (v :: r) (by intro z; cases z), str_app, str_app, ih]; rfl
theorem Zml {c : Nat} : ∀ {a b x y : List Nat}, c ∉ a -> c ∉ b -> a ++ c :: x = b ++ c :: y -> a = b /\ x = y
 | [], [], _, _, _, _, h => ⟨rfl, (List.cons.inj h).2⟩
 | [], b :: bs, _, _, _, hb, h => absurd (List.mem_cons.mpr (.inl (List.cons.inj h).1)) hb
 | a :: as, [], _, _, ha, _, h => absurd (List.mem_cons.mpr (.inl (List.cons.inj h).1.symm)) ha
 | a :: as, b :: bs, _, _, ha, hb, h => by
  obtain ⟨h1, h2⟩ := List.cons.inj h;obtain ⟨e1, e2⟩ := Zml (fun z => ha (List.mem_cons_of_mem _ z)) (fun z => hb (List.mem_cons_of_mem _ z)) h2;exact ⟨by rw [h1, e1], e2⟩
theorem Znw {c : Nat} : ∀ {ws vs : List Str}, ws ≠ [] -> vs ≠ [] -> (∀ w ∈ ws, c ∉ w.cps.toList) -> (∀ v ∈ vs, c ∉ v.cps.toList) -> jnC [c] ws = jnC [c] vs -> ws = vs
 | [], _, h, _, _, _, _ => absurd rfl h
 | _, [], _, h, _, _, _ => absurd rfl h
 | [w], [v], _, _, _, _, h => by rw [Zg3 (show w.cps.toList = v.cps.toList from h)]
 | [w], v :: v' :: s, _, _, hw, _, h => by
  have h : w.cps.toList = v.cps.toList ++ [c] ++ jnC [c] (v' :: s) := h;exact absurd (by rw [h]; simp) (hw w List.mem_cons_self)
 | w :: w' :: r, [v], _, _, _, hv, h => by
  have h : w.cps.toList ++ [c] ++ jnC [c] (w' :: r) = v.cps.toList := h;exact absurd (by rw [<- h]; simp) (hv v List.mem_cons_self)
 | w :: w' :: r, v :: v' :: s, _, _, hw, hv, h => by
  have h : w.cps.toList ++ [c] ++ jnC [c] (w' :: r) = v.cps.toList ++ [c] ++ jnC [c] (v' :: s) := h;rw [List.append_assoc, List.append_assoc] at h;obtain ⟨e1, e2⟩ := Zml (hw w List.mem_cons_self) (hv v List.mem_cons_self) h;rw [Zg3 e1, Znw (by simp) (by simp) (fun x hx => hw x (List.mem_cons_of_mem _ hx)) (fun x hx => hv x (List.mem_cons_of_mem _ hx)) e2]
theorem Zft {ws : List Str} (h : ws ≠ []) (hf : ∀ w ∈ ws, 32 ∉ w.cps.toList) : Txt.split (Txt.join " " ws) " " = ws := by
 have h1 := (fact_split (Txt.join " " ws) " ").1;refine Znw (c := 32) (by intro z; rw [z] at h1; simp at h1) h (fun w hw => ?_) hf ?_
 ·rw [Zh1] at hw;exact StrLaws.split_free _ 32 w hw
 ·have e := congrArg (fun z : Str => z.cps.toList) (StrLaws.join_split (Txt.join " " ws) " ");have e1 : ((" " : Str).join (Txt.split (Txt.join " " ws) " ")).cps.toList = jnC [32] (Txt.split (Txt.join " " ws) " ") := by
   rw [<- StrLaws.glued_eq_join];have := Za9 " " (Txt.split (Txt.join " " ws) " ")
   rw [show (" " : Str).cps.toList = [32] by rw [Zh1]] at this;exact this
  have e2 := Za9 " " ws
  rw [show (" " : Str).cps.toList = [32] by rw [Zh1]] at e2;rw [<- e1, <- e2]; exact e
theorem Zhu (n : Int) : 32 ∉ (numT n).cps.toList := fun h => (intText_free_32 n).mp h
theorem Zhv {z : Str} (h : NmOk z) : 32 ∉ z.cps.toList := fun hm => by
 have := List.all_eq_true.mp h.2.2 32 hm;exact absurd this (by decide)
theorem Zfu (b : Bool) : 32 ∉ (Zcm b "+").cps.toList /\ 32 ∉ (Zcm b "!").cps.toList := by
 cases b <;> exact ⟨by decide +kernel, by decide +kernel⟩
theorem Zl5 {i : Nat} (h : i < 16) : hvs[i]? = some (hvs.getD i 0) := by
 have : i < hvs.length := h;rw [List.getElem?_eq_getElem this]; simp [this]
theorem Zf9 (b : Int) : (Zfn b).cps.toList = [hvs.getD (b / 16).toNat 0, hvs.getD (b % 16).toNat 0] := by
 unfold Zfn; rw [str_app]; rfl
theorem Zdp : ∀ ns : List Int, (bytesT ns).cps.toList = (ns.map fun b => [hvs.getD (b / 16).toNat 0, hvs.getD (b % 16).toNat 0]).flatten
 | [] => by unfold bytesT; rw [Za9]; rfl
 | [b] => by unfold bytesT; rw [Za9]; show (Zfn b).cps.toList = _; rw [Zf9]; rfl
 | b :: c :: r => by
  have ih := Zdp (c :: r);unfold bytesT at ih ⊢;rw [Za9] at ih ⊢;show (Zfn b).cps.toList ++ ("" : Str).cps.toList ++ jnC _ _ = _;rw [Zf9, show ("" : Str).cps.toList = [] by decide +kernel, List.append_nil];show _ ++ jnC ("" : Str).cps.toList ((c :: r).map Zfn) = _;rw [ih]; rfl
theorem Zc4 (ns : List Int) : (bytesT ns).length = 2 * ns.length := by
 rw [Zd0, Zdp]
 induction ns with
 | nil => rfl
 | cons b r ih => rw [List.map_cons, List.flatten_cons, List.length_append, ih, List.length_cons]; simp; omega
theorem Zg1 : ∀ (ns : List Int) (i : Nat) (b : Int), ns[i]? = some b -> (bytesT ns).cps.toList[2 * i]? = some (hvs.getD (b / 16).toNat 0) /\ (bytesT ns).cps.toList[2 * i + 1]? = some (hvs.getD (b % 16).toNat 0)
 | [], _, _, h => by simp at h
 | c :: r, 0, b, h => by
  have h : c = b := Option.some.inj h;subst h;rw [Zdp];exact ⟨rfl, rfl⟩
 | c :: r, i + 1, b, h => by
  have ih := Zg1 r i b (by simpa using h);rw [Zdp] at ih ⊢;rw [List.map_cons, List.flatten_cons];exact ih
theorem Zg0 {ns : List Int} (hb : ∀ x ∈ ns, 0 <= x /\ x <= 255) {c : Nat} (h : c ∈ (bytesT ns).cps.toList) : ∃ i, i < 16 /\ c = hvs.getD i 0 := by
 rw [Zdp] at h;obtain ⟨l, hl, hc⟩ := List.mem_flatten.mp h;obtain ⟨b, hbm, rfl⟩ := List.mem_map.mp hl;have := hb b hbm;simp only [List.mem_cons, List.not_mem_nil, or_false] at hc;rcases hc with rfl | rfl
 ·exact ⟨_, by omega, rfl⟩
 ·exact ⟨_, by omega, rfl⟩
theorem Zjf : ∀ i : Nat, i < 16 -> Builtin.Str.occurrences HVS ⟨#[hvs.getD i 0]⟩ 0 HVS.length 1 = [i] := by
 have h : ∀ i : _root_.Fin 16, Builtin.Str.occurrences HVS ⟨#[hvs.getD i.val 0]⟩ 0 HVS.length 1 = [i.val] := by decide +kernel
 exact fun i hi => h ⟨i, hi⟩
theorem Zm6 : ∀ i : Nat, i < 16 -> hvs.getD i 0 ≠ 32 := by
 have h : ∀ i : _root_.Fin 16, hvs.getD i.val 0 ≠ 32 := by decide +kernel
 exact fun i hi => h ⟨i, hi⟩
theorem Zgz {ns : List Int} (hb : ∀ x ∈ ns, 0 <= x /\ x <= 255) : 32 ∉ (bytesT ns).cps.toList := fun h => by
 obtain ⟨i, hi, e⟩ := Zg0 hb h;exact Zm6 i hi e.symm
theorem Zk8 {d : PD} (h : d.Ok) : Txt.split (textP d) " " = Zfq d := Zft (by simp [Zfq]) fun w hw => by
 simp only [Zfq, List.mem_cons, List.not_mem_nil, or_false] at hw;rcases hw with rfl | rfl | rfl | rfl | rfl | rfl | rfl
 ·exact Zhu _
 ·exact Zhv h.k1
 ·exact Zhv h.k2
 ·exact Zhu _
 ·exact (Zfu _).1
 ·exact (Zfu _).2
 ·exact Zgz h.by'
theorem Zk9 {d : LD} (h : d.Ok) : Txt.split (textL d) " " = Zfr d := Zft (by simp [Zfr]) fun w hw => by
 simp only [Zfr, List.mem_cons, List.not_mem_nil, or_false] at hw;rcases hw with rfl | rfl | rfl | rfl | rfl
 ·exact Zhu _
 ·exact Zhv h.k1
 ·exact Zhv h.k2
 ·exact (Zfu _).2
 ·exact Zgz h.by'
structure Zo7 (n : Int) : Prop where
 len1 : 1 <= (numT n).length
 len2 : (numT n).length <= 12
 dig : ∀ c ∈ (numT n).cps.toList, 48 <= c /\ c <= 57
 zero : numT n = "0" \/ Txt.startswith (numT n) "0" = false
 back : intText? (numT n) = some n
theorem Zne : ∀ (m : Nat), 0 < m -> ∃ c r, (Nat.toDigits 10 m).map Char.toNat = c :: r /\ c ≠ 48 := by
 intro m
 induction m using Nat.strongRecOn with
 | _ m ih =>
  intro h0;rw [Nat.toDigits_eq_if (by decide)]
  by_cases h : m < 10
  ·rw [if_pos h];refine ⟨(Nat.digitChar m).toNat, [], rfl, ?_⟩;have : ∀ i : _root_.Fin 10, i.val ≠ 0 -> (Nat.digitChar i.val).toNat ≠ 48 := by decide +kernel
   exact this ⟨m, h⟩ (by show m ≠ 0; omega)
  ·rw [if_neg h];obtain ⟨c, r, e, hc⟩ := ih (m / 10) (by omega) (by omega);exact ⟨c, r ++ [(Nat.digitChar (m % 10)).toNat], by rw [List.map_append, e]; rfl, hc⟩
theorem Zk7 {z : Str} {c : Nat} {r : List Nat} (h : z.cps.toList = c :: r) (hc : c ≠ 48) : Txt.startswith z "0" = false := by
 unfold Txt.startswith Builtin.Str.subAt;rw [Bool.and_eq_false_iff]
 right
 rw [beq_eq_false_iff_ne];intro e;have e := congrArg Array.toList e;rw [show ("0" : Str).cps = #[48] by decide +kernel, show ("0" : Str).length = 1 by decide +kernel] at e;rw [Array.toList_extract, h] at e;simp at e;exact hc e
theorem Zd7 {n : Int} (h0 : 0 <= n) (h1 : n < 10 ^ 10) : Zo7 n := by
 obtain ⟨m, rfl⟩ : ∃ m : Nat, n = m := ⟨n.toNat, by omega⟩;have hs := W.KIN.signs_num m;have hs : (numT (m : Int)).cps.toList = (Nat.toDigits 10 m).map Char.toNat := hs;have hl : (numT (m : Int)).length = (Nat.toDigits 10 m).length := by rw [Zd0, hs, List.length_map]
 refine ⟨?_, ?_, fun c hc => ?_, ?_, W.KIN.num_reads h0 h1⟩
 ·rw [hl]; exact Nat.length_toDigits_pos
 ·rw [hl];exact (Nat.length_toDigits_le_iff (b := 10) (n := m) (k := 12) (by decide) (by decide)).mpr (by omega)
 ·rw [hs] at hc;obtain ⟨ch, hch, rfl⟩ := List.mem_map.mp hc;have := Nat.isDigit_of_mem_toDigits (b := 10) (by decide) (by decide) hch;unfold Char.isDigit at this;simp only [Bool.and_eq_true, decide_eq_true_eq] at this;exact this
 ·by_cases hm : m = 0
  ·subst hm; exact .inl (by decide +kernel)
  ·obtain ⟨c, r, e, hc⟩ := Zne m (by omega);exact .inr (Zk7 (hs.trans e) hc)
section
variable {P : Program} {w : World} {K : PySem.W.Frag} {mg : Str -> Option Value} {base : Heap}
def keyT (nu : Int) (z1 z2 : Str) : Str := Txt.join " " [numT nu, z1, z2]
theorem Zeu {n : Int} (h0 : 0 <= n) (h1 : n < 10 ^ 10) : n.natAbs.log2 < 1920 := by
 by_cases h : n.natAbs = 0
 ·rw [h]; decide
 ·have h2 : n.natAbs.log2 < 40 := (Nat.log2_lt h).mpr (show n.natAbs < 1099511627776 by omega);omega
def Zdb : Sp := fun vs H Q _ => ∃ (t : Addr) (nu : Int) (z1 z2 : Str), vs = [.ref t] /\ H t = some (.tup [.int nu, .str z1, .str z2]) /\ 0 <= nu /\ nu < 10 ^ 10 /\ NmOk z1 /\ NmOk z2 /\ ∀ G, Same H G -> Q (.str (keyT nu z1 z2)) G
abbrev Zb9 : Stmt := top 35
theorem Zia : Zaq ["key"] ["key"] (defScope Zb9) := ⟨rfl, rfl, rfl, by decide +kernel, rfl, by decide +kernel, by decide +kernel⟩
theorem Zig {f : Addr} {fd : FuncData} (F : Fun K "shown_key" "shown_key" Zb9 f fd) (B : Bt mg) : FnOk P w K mg base CX0 1 f fd ["key"] Zdb := by
 refine F.ok Zia (fun vs H Q E h => ?_) (fun cdv A outer s H vs Q E hr h => ?_)
 ·obtain ⟨t, nu, z1, z2, rfl, _⟩ := h; rfl
 ·obtain ⟨t, nu, z1, z2, rfl, ht, n0, n1, k1, k2, q⟩ := h;refine ⟨_, (@Zai _ _ _ (@Zar _ _ _ _ (@Zdz _ K _ _ _ _ _ _ _ _ _ _ _ rfl PySem.F.plainAttrs_str PySem.F.slot_str_join PySem.F.type_str_join (Zem (K := K) rfl) (@Za6 _ _ _ _) (@Zaa _ _ _ _ _ (@Zce _ _ _ _ (@Zaa _ _ _ _ _ (Zbr Zex rfl B.bstr (by rfl) (@Zaa _ _ _ _ _ (@Zbb _ _ _ _ _ _ _ (Zdy (K := K) rfl) (pv 0) (@Zah _ _ _ _) (fun _ _ => rfl)) Zac Zaj)) (@Zaa _ _ _ _ _ (@Zbb _ _ _ _ _ _ _ (Zdy (K := K) rfl) (pv 0) (@Zah _ _ _ _) (fun _ _ => rfl)) (@Zaa _ _ _ _ _ (@Zbb _ _ _ _ _ _ _ (Zdy (K := K) rfl) (pv 0) (@Zah _ _ _ _) (fun _ _ => rfl)) Zac Zaj) Zaj) Zav)) Zac Zfs) (by rfl) (by rfl) (by rfl) (by rfl) (by rfl)))), ?_⟩;walk_at "rd";refine ⟨rfl, _, SqT.of ht, _, at0, nu, rfl, Zeu n0 n1, _, SqT.of ht, _, Za1 (j := 1) rfl, _, SqT.of ht, _, Za1 (j := 2) rfl, Zan (by decide), fun p G hp s hG => ⟨[numT nu, z1, z2], SqL.of hG, ?_, q G s⟩⟩;have h1 := (Zd7 n0 n1).len2;have h2 := k1.2.1;have h3 := k2.2.1;simp only [List.map_cons, List.map_nil, List.sum_cons, List.sum_nil, List.length_cons, List.length_nil];rw [show (Str.ofString " ").length = 1 by decide +kernel];omega
def Zcg : Sp := fun vs H Q _ => ∃ (b : Bool) (z : Str), vs = [.bl b, .str z] /\ Q (.str (Zcm b z)) H
abbrev Zbt : Stmt := top 36
theorem Zgb : Zaq ["truth", "sign"] ["truth", "sign"] (defScope Zbt) := ⟨rfl, rfl, rfl, by decide +kernel, rfl, by decide +kernel, by decide +kernel⟩
theorem Zgg {f : Addr} {fd : FuncData} (F : Fun K "shown_truth" "shown_truth" Zbt f fd) (T : Cn mg) : FnOk P w K mg base CX0 1 f fd ["truth", "sign"] Zcg := by
 refine F.ok Zgb (fun vs H Q E h => ?_) (fun cdv A outer s H vs Q E hr h => ?_)
 ·obtain ⟨b, z, rfl, _⟩ := h; rfl
 ·obtain ⟨b, z, rfl, q⟩ := h;refine ⟨_, (Zai (Zar (Zmy (Zbi (pv 0)) (pv 1) (Zcf rfl T.c_NO_SIGN)))), ?_⟩;walk_at "rd";unfold Zcm at q;cases b
  ·exact q
  ·exact q
theorem Zf8 : ∀ ns : List Int, ((ns.map Zfn).map (fun z : Str => z.length)).sum <= 2 * ns.length
 | [] => Nat.le_refl _
 | a :: r => by
  have ih := Zf8 r;rw [List.map_cons, List.map_cons, List.sum_cons, List.length_cons, Zd0, Zf9];simp only [List.length_cons, List.length_nil]; omega
def Zch : Sp := fun vs H Q _ => ∃ (b : Addr) (ns : List Int), vs = [.ref b] /\ H b = some (.lst (ns.map V.int)) /\ ns.length <= 4000 /\ (∀ x ∈ ns, 0 <= x /\ x <= 255) /\ ∀ G, Same H G -> Q (.str (bytesT ns)) G
abbrev Zbf : Stmt := top 37
theorem Zgc : Zaq ["body"] ["body"] (defScope Zbf) := ⟨rfl, rfl, rfl, by decide +kernel, rfl, by decide +kernel, by decide +kernel⟩
theorem Zgh {f : Addr} {fd : FuncData} (F : Fun K "shown_bytes" "shown_bytes" Zbf f fd) (T : Cn mg) : FnOk P w K mg base CX0 1 f fd ["body"] Zch := by
 refine F.ok Zgc (fun vs H Q E h => ?_) (fun cdv A outer s H vs Q E hr h => ?_)
 ·obtain ⟨b, ns, rfl, _⟩ := h; rfl
 ·obtain ⟨b, ns, rfl, hb, hl, hby, q⟩ := h;refine ⟨_, (@Zai _ _ _ (@Zar _ _ _ _ (@Zdz _ K _ _ _ _ _ _ _ _ _ _ _ rfl PySem.F.plainAttrs_str PySem.F.slot_str_join PySem.F.type_str_join (Zem (K := K) rfl) (@Za6 _ _ _ _) (@Zaa _ _ _ _ _ (Zdv (N' := ["byte"]) (caps := [none]) (Zhz (sc := defScope Zbf) (N := ["body"]) rfl rfl (by decide +kernel)) rfl (Zhi (K := K) rfl (pv 0)) (fun _ _ _ _ _ => (Zdi (i := 0) (Zhw (N := ["byte"]) rfl (by decide +kernel)) rfl (Or.inl rfl))) (fun _ _ _ _ _ => Zdu) (fun _ _ _ _ _ => (@Za2 _ _ _ _ _ _ _ _ Zgt (@Zbb _ _ _ _ _ _ _ Zf3 (Zcf rfl T.c_HALVES) (@Za2 _ _ _ _ _ _ _ _ Zcw (pv 0) (Zb4 rfl T.c_BASE)) (fun _ _ => rfl)) (@Zbb _ _ _ _ _ _ _ Zf3 (Zcf rfl T.c_HALVES) (@Za2 _ _ _ _ _ _ _ _ Zde (pv 0) (Zb4 rfl T.c_BASE)) (fun _ _ => rfl))))) Zac Zbz) (by rfl) (by rfl) (by rfl) (by rfl) (by rfl)))), ?_⟩;walk_at "rd";refine ⟨rfl, ⟨_, SqL.of hb⟩, ?_⟩;obtain ⟨Pv, ePv⟩ : ∃ Pv : Nat -> List V -> L2.St -> Hp -> Prop, Pv = fun i ys σ' G => ∃ v : Option V, σ' = [v] /\ ys = ((ns.take i).map Zfn).map V.str /\ G = H := ⟨_, rfl⟩
  refine Zgx (xs := ns.map V.int) Pv (by rw [ePv]; exact ⟨none, rfl, rfl, rfl⟩) ?_ (Zan (by rw [List.length_map]; omega)) ?_ ?_ <;> rw [ePv]
  ·rintro i ys σ' G ⟨v, rfl, rfl, rfl⟩ _;refine ⟨SqL.of hb, ?_⟩;rw [List.length_map, List.length_map, List.length_take]; omega
  ·rintro i x ys σ' G hx ⟨v, rfl, rfl, rfl⟩;rw [<- ePv];rw [List.getElem?_map] at hx;obtain ⟨n, hn, rfl⟩ := Option.map_eq_some_iff.mp hx;have hb' := hby n (List.mem_of_getElem? hn);have h16 : (Str.ofString "0123456789abcdef").length <= sizeLine := Zan (by decide +kernel);have g : ∀ j : Nat, j < 16 -> atI (Str.ofString "0123456789abcdef").cps.toList (j : Int) = some (hvs.getD j 0) := fun j hj => Za1 (by rw [Znx]; exact Zl5 hj)
   walk_at "rd";refine ⟨⟨by decide, by decide⟩, h16, hvs.getD (n / 16).toNat 0, ?_, by decide, h16, hvs.getD (n % 16).toNat 0, ?_, Zan (show 1 + 1 <= 100000 by decide), ?_⟩
   ·have := g (n / 16).toNat (by omega);rwa [show ((n / 16).toNat : Int) = n / 16 by omega] at this
   ·have := g (n % 16).toNat (by omega);rwa [show ((n % 16).toNat : Int) = n % 16 by omega] at this
   ·rw [ePv];exact ⟨_, rfl, by rw [List.take_succ, hn, List.map_append, List.map_append]; rfl, rfl⟩
  ·rintro ys σ' G ⟨v, rfl, rfl, rfl⟩ p G h0 s hG;rw [List.length_map, List.take_length] at hG;refine ⟨p, rfl, ns.map Zfn, SqL.of hG, ?_, q G s⟩;have e := Zf8 ns;rw [List.length_map, show (Str.ofString "").length = 0 by decide +kernel];omega
end
section
variable {P : Program} {w : World} {K : PySem.W.Frag} {mg : Str -> Option Value} {base : Heap}
theorem Zmo (d : PD) : Txt.join " " [keyT d.nu d.z1 d.z2, numT d.at', Zcm d.mo "+", Zcm d.k "!", bytesT d.ns] = textP d := by
 apply Zg3;unfold textP Zfq;rw [Za9, Za9];simp only [jnC];unfold keyT;rw [Za9];simp only [jnC, List.append_assoc]
theorem Zmp (d : LD) : Txt.join " " [keyT d.nu d.z1 d.z2, Zcm d.k "!", bytesT d.ns] = textL d := by
 apply Zg3;unfold textL Zfr;rw [Za9, Za9];simp only [jnC];unfold keyT;rw [Za9];simp only [jnC, List.append_assoc]
theorem Zj4 {nu : Int} {z1 z2 : Str} (n0 : 0 <= nu) (n1 : nu < 10 ^ 10) (k1 : NmOk z1) (k2 : NmOk z2) : (keyT nu z1 z2).length <= 30 := by
 have h1 := (Zd7 n0 n1).len2;have h2 := k1.2.1;have h3 := k2.2.1;rw [Zd0] at h1 h2 h3 ⊢;unfold keyT;rw [Za9];simp only [jnC, List.length_append];rw [show (" " : Str).cps.toList.length = 1 by decide +kernel];omega
theorem PD.Ok.bds' {d : PD} (h : d.Ok) : 0 <= d.at' /\ d.at' + d.ns.length <= 4000 := by
 have h1 := h.a0;have h2 := h.rm;unfold Zhg at h2;refine ⟨h1, ?_⟩
 split at h2
 ·simp only [Bool.and_eq_true, decide_eq_true_eq] at h2; omega
 ·simp only [decide_eq_true_eq] at h2; omega
theorem Zcl (b : Bool) : (Zcm b "+").length = 1 /\ (Zcm b "!").length = 1 := by cases b <;> exact ⟨by decide +kernel, by decide +kernel⟩
def Zg8 (C : Addr) : Sp := fun vs H Q _ => ∃ (p b : Addr) (d : LD), vs = [.ref p] /\ LetO C H p b d /\ ∀ t G, H t = none -> Same H G -> G t = some (.tup [.int d.nu, .str d.z1, .str d.z2]) -> Q (.ref t) G
theorem Zj0 {C : Addr} (F : MtB P w K mg base C "key" 1 ["self"] [] (Zcv C)) : MtB P w K mg base C "key" 1 ["self"] [] (Zg8 C) :=
 F.imp fun vs H Q E ⟨p, b, d, e, h, q⟩ => ⟨p, _, _, _, _, _, e, h.ats, fun t ht => q t _ ht (Zbq ht) Zal⟩
def Zg5 (CP : Addr) : Sp := fun vs H Q _ => ∃ (p b : Addr) (d : PD), vs = [.ref p] /\ PieO CP H p b d /\ ∀ G, Same H G -> Q (.str (textP d)) G
abbrev Ze6 : Stmt := top 38
theorem Zg9 : Zaq ["piece", "more", "keep"] ["piece"] (defScope Ze6) := ⟨rfl, rfl, rfl, by decide +kernel, rfl, by decide +kernel, by decide +kernel⟩
theorem Zm0 {f CP : Addr} {fd : FuncData} (F : Fun K "shown" "shown" Ze6 f fd) (B : Bt mg) (T : Cn mg) (LP : Zkb K CP) (F_shown_key : FnB P w K mg base "shown_key" 1 ["key"] [] Zdb) (F_shown_truth : FnB P w K mg base "shown_truth" 1 ["truth", "sign"] [] Zcg) (F_shown_bytes : FnB P w K mg base "shown_bytes" 1 ["body"] [] Zch) (F_Piece_key : MtB P w K mg base CP "key" 1 ["self"] [] (Zg7 CP)) : FnOk P w K mg base CX0 2 f fd ["piece"] (Zg5 CP) := by
 refine F.ok Zg9 (fun vs H Q E h => ?_) (fun cdv A outer s H vs Q E hr h => ?_)
 ·obtain ⟨p, b, d, rfl, _⟩ := h; rfl
 ·obtain ⟨p, b, d, rfl, hO, q⟩ := h;refine ⟨_, (@Zad _ _ _ _ _ (@Zas _ _ 1 _ _ _ _ (Zg9).nd rfl (Or.inl rfl) (Zag F_shown_truth (hr.mono (by decide)) rfl (@Zaa _ _ _ _ _ (Zat (K := K) rfl (pv 0) rfl) (@Zaa _ _ _ _ _ (Zcf rfl T.c_MORE_SIGN) Zac Zab) Zaf)) (by rfl) (Or.inl rfl)) (@Zad _ _ _ _ _ (@Zas _ _ 2 _ _ _ _ (Zg9).nd rfl (Or.inl rfl) (Zag F_shown_truth (hr.mono (by decide)) rfl (@Zaa _ _ _ _ _ (Zat (K := K) rfl (pv 0) rfl) (@Zaa _ _ _ _ _ (Zcf rfl T.c_KEEP_SIGN) Zac Zab) Zaf)) (by rfl) (Or.inl rfl)) (@Zai _ _ _ (@Zar _ _ _ _ (@Zdz _ K _ _ _ _ _ _ _ _ _ _ _ rfl PySem.F.plainAttrs_str PySem.F.slot_str_join PySem.F.type_str_join (Zem (K := K) rfl) (@Za6 _ _ _ _) (@Zaa _ _ _ _ _ (@Zce _ _ _ _ (@Zaa _ _ _ _ _ (Zag F_shown_key (hr.mono (by decide)) rfl (@Zaa _ _ _ _ _ (Zcn (pv 0) F_Piece_key (hr.mono (by decide))) Zac Zav)) (@Zaa _ _ _ _ _ (Zbr Zex rfl B.bstr (by rfl) (@Zaa _ _ _ _ _ (Zat (K := K) rfl (pv 0) rfl) Zac Zaf)) (@Zaa _ _ _ _ _ (pv 1) (@Zaa _ _ _ _ _ (pv 2) (@Zaa _ _ _ _ _ (Zag F_shown_bytes (hr.mono (by decide)) rfl (@Zaa _ _ _ _ _ (Zat (K := K) rfl (pv 0) rfl) Zac Zaf)) Zac Zav) Zab) Zab) Zav) Zav)) Zac Zfs) (by rfl) (by rfl) (by rfl) (by rfl) (by rfl)))))), ?_⟩;walk_at "rd";have a0 := hO.ok.a0;have a1 : d.at' < 10 ^ 10 := by have := hO.ok.bds'; omega
  have n0 := hO.ok.n0;have n1 : d.nu < 10 ^ 10 := by have := hO.ok.n1; omega
  refine ⟨_, Zff LP hO, _, _, rfl, _, Zfg LP hO, _, _, rfl, rfl, Zj1 hO, p, b, d, rfl, hO, fun t G1 ht s1 g1 => ⟨t, d.nu, d.z1, d.z2, rfl, g1, n0, n1, hO.ok.k1, hO.ok.k2, fun G2 s2 => ?_⟩⟩;have s12 := s1.trans s2;have hO2 := hO.mono s12;refine ⟨_, Zmb LP hO2, d.at', rfl, Zeu a0 a1, _, Zf5 LP hO2, b, d.ns, rfl, hO2.bd, hO.ok.l2, hO.ok.by', fun G3 s3 => ⟨Zan (by decide), fun l G4 hl s4 g4 => ?_⟩⟩;refine ⟨[keyT d.nu d.z1 d.z2, numT d.at', Zcm d.mo "+", Zcm d.k "!", bytesT d.ns], SqL.of g4, ?_, ?_⟩
  ·have h1 := Zj4 n0 n1 hO.ok.k1 hO.ok.k2;have h2 := (Zd7 a0 a1).len2;have h3 := Zcl d.mo;have h4 := Zcl d.k;have h5 := Zc4 d.ns;have h6 := hO.ok.l2;simp only [List.map_cons, List.map_nil, List.sum_cons, List.sum_nil, List.length_cons, List.length_nil];rw [show (Str.ofString " ").length = 1 by decide +kernel];omega
  ·rw [Zmo];exact q _ ((s12.trans s3).trans s4)
def Zc5 (CL : Addr) : Sp := fun vs H Q _ => ∃ (p b : Addr) (d : LD), vs = [.ref p] /\ LetO CL H p b d /\ ∀ G, Same H G -> Q (.str (textL d)) G
abbrev Zbk : Stmt := top 39
theorem Zfw : Zaq ["letter"] ["letter"] (defScope Zbk) := ⟨rfl, rfl, rfl, by decide +kernel, rfl, by decide +kernel, by decide +kernel⟩
theorem Zf0 {f CL : Addr} {fd : FuncData} (F : Fun K "shown_letter" "shown_letter" Zbk f fd) (B : Bt mg) (T : Cn mg) (L : Zkw K CL) (F_shown_key : FnB P w K mg base "shown_key" 1 ["key"] [] Zdb) (F_shown_truth : FnB P w K mg base "shown_truth" 1 ["truth", "sign"] [] Zcg) (F_shown_bytes : FnB P w K mg base "shown_bytes" 1 ["body"] [] Zch) (F_Letter_key : MtB P w K mg base CL "key" 1 ["self"] [] (Zg8 CL)) : FnOk P w K mg base CX0 2 f fd ["letter"] (Zc5 CL) := by
 refine F.ok Zfw (fun vs H Q E h => ?_) (fun cdv A outer s H vs Q E hr h => ?_)
 ·obtain ⟨p, b, d, rfl, _⟩ := h; rfl
 ·obtain ⟨p, b, d, rfl, hO, q⟩ := h;refine ⟨_, (@Zai _ _ _ (@Zar _ _ _ _ (@Zdz _ K _ _ _ _ _ _ _ _ _ _ _ rfl PySem.F.plainAttrs_str PySem.F.slot_str_join PySem.F.type_str_join (Zem (K := K) rfl) (@Za6 _ _ _ _) (@Zaa _ _ _ _ _ (@Zce _ _ _ _ (@Zaa _ _ _ _ _ (Zag F_shown_key (hr.mono (by decide)) rfl (@Zaa _ _ _ _ _ (Zcn (pv 0) F_Letter_key (hr.mono (by decide))) Zac Zav)) (@Zaa _ _ _ _ _ (Zag F_shown_truth (hr.mono (by decide)) rfl (@Zaa _ _ _ _ _ (Zat (K := K) rfl (pv 0) rfl) (@Zaa _ _ _ _ _ (Zcf rfl T.c_KEEP_SIGN) Zac Zab) Zaf)) (@Zaa _ _ _ _ _ (Zag F_shown_bytes (hr.mono (by decide)) rfl (@Zaa _ _ _ _ _ (Zat (K := K) rfl (pv 0) rfl) Zac Zaf)) Zac Zav) Zav) Zav)) Zac Zfs) (by rfl) (by rfl) (by rfl) (by rfl) (by rfl)))), ?_⟩;walk_at "rd";have n0 := hO.ok.n0;have n1 : d.nu < 10 ^ 10 := by have := hO.ok.n1; omega
  refine ⟨rfl, Zj2 hO, p, b, d, rfl, hO, fun t G1 ht s1 g1 => ⟨t, d.nu, d.z1, d.z2, rfl, g1, n0, n1, hO.ok.k1, hO.ok.k2, fun G2 s2 => ?_⟩⟩;have s12 := s1.trans s2;have hO2 := hO.mono s12;refine ⟨_, Zfh L hO2, _, _, rfl, _, Zf6 L hO2, b, d.ns, rfl, hO2.bd, hO.ok.l2, hO.ok.by', fun G3 s3 => ⟨Zan (by decide), fun l G4 hl s4 g4 => ?_⟩⟩;refine ⟨[keyT d.nu d.z1 d.z2, Zcm d.k "!", bytesT d.ns], SqL.of g4, ?_, ?_⟩
  ·have h1 := Zj4 n0 n1 hO.ok.k1 hO.ok.k2;have h4 := Zcl d.k;have h5 := Zc4 d.ns;have h6 := hO.ok.l2;simp only [List.map_cons, List.map_nil, List.sum_cons, List.sum_nil, List.length_cons, List.length_nil];rw [show (Str.ofString " ").length = 1 by decide +kernel];omega
  ·rw [Zmp];exact q _ ((s12.trans s3).trans s4)
def Zdq (NT : Addr) : Sp := fun vs H Q E => ∃ (z : Str) (n : Int), vs = [.str z, .int n] /\ z.length <= 50000 /\ (((Txt.split z " ").length : Int) ≠ n -> ∀ G, Same H G -> E (.ref NT) none G) /\ (((Txt.split z " ").length : Int) = n -> ∀ l G, H l = none -> Same H G -> G l = some (.lst ((Txt.split z " ").map V.str)) -> Q (.ref l) G)
abbrev Zcx : Stmt := top 40
theorem Zfv : Zaq ["text", "count", "words"] ["text", "count"] (defScope Zcx) := ⟨rfl, rfl, rfl, by decide +kernel, rfl, by decide +kernel, by decide +kernel⟩
theorem Zi8 {f NT : Addr} {fd : FuncData} (F : Fun K "words_of" "words_of" Zcx f fd) (B : Bt mg) (X_NoText : XC K mg "NoText" NT) : FnOk P w K mg base (CXx P w) 1 f fd ["text", "count"] (Zdq NT) := by
 refine F.okX Zfv (fun vs H Q E h => ?_) (fun cdv A outer s H vs Q E hr h => ?_)
 ·obtain ⟨z, n, rfl, _⟩ := h; rfl
 ·obtain ⟨z, n, rfl, hz, qE, q⟩ := h;refine ⟨_, (@Zad _ _ _ _ _ (Zb6 (Zbj (Zbi (Zau (Zb5 "str") rfl B.isinstance (by rfl) (@Zaa _ _ _ _ _ (pv 0) (@Zaa _ _ _ _ _ (Zdw (v := .ty "str") rfl B.bstr (by rfl) rfl) Zac Zab) Zab)))) (@Zai _ _ _ (Zjv Zev rfl rfl X_NoText (@Za6 _ _ _ _))) Zaz) (@Zad _ _ _ _ _ (@Zas _ _ 2 _ _ _ _ (Zfv).nd rfl (Or.inl rfl) (@Zdz _ K _ _ _ _ _ _ _ _ _ _ _ rfl PySem.F.plainAttrs_str PySem.F.slot_str_split PySem.F.type_str_split Zm3 (pv 0) (@Zaa _ _ _ _ _ (@Za6 _ _ _ _) Zac Zae) (by rfl) (by rfl) (by rfl) (by rfl) (by rfl)) (by rfl) (Or.inl rfl)) (@Zad _ _ _ _ _ (Zb6 (Zbm Zif (Zau (Zdo (K := K) rfl) rfl B.len (by rfl) (@Zaa _ _ _ _ _ (pv 2) Zac Zab)) (pv 1) (Za3 _)) (@Zai _ _ _ (Zjv Zev rfl rfl X_NoText (@Za6 _ _ _ _))) Zaz) (@Zai _ _ _ (@Zar _ _ _ _ (pv 2)))))), ?_⟩;walk_at "rd";rw [if_neg (by decide)];refine ⟨rfl, by decide +kernel, hz, fun l G hl s hG => ⟨_, .inl (SqL.of hG), rfl, ?_⟩⟩;rw [List.length_map]
  by_cases h : ((Txt.split z " ").length : Int) = n
  ·rw [if_neg (by simpa using h)];exact q h l G hl s hG
  ·rw [if_pos (by simpa using h)];exact qE h G s
end
section
variable {P : Program} {w : World} {K : PySem.W.Frag} {mg : Str -> Option Value} {base : Heap}
theorem Zq3 (c : Nat) : (!decide (({ cps := #[c] } : Str).cps.toList < ("0" : Str).cps.toList)) = decide (48 <= c) /\ (!decide (("9" : Str).cps.toList < ({ cps := #[c] } : Str).cps.toList)) = decide (c <= 57) := by
 have e1 : ("0" : Str).cps.toList = [48] := by decide +kernel
 have e2 : ("9" : Str).cps.toList = [57] := by decide +kernel
 rw [e1, e2];constructor
 ·rw [Bool.eq_iff_iff];simp only [Bool.not_eq_true', decide_eq_false_iff_not, decide_eq_true_eq, List.cons_lt_cons_iff, List.lt_irrefl, and_false, or_false, Nat.not_lt]
 ·rw [Bool.eq_iff_iff];simp only [Bool.not_eq_true', decide_eq_false_iff_not, decide_eq_true_eq, List.cons_lt_cons_iff, List.lt_irrefl, and_false, or_false, Nat.not_lt]
def Zdh : Sp := fun vs H Q _ => ∃ n : Int, vs = [.str (numT n)] /\ Zo7 n /\ ∀ G, Same H G -> Q (.bl true) G
abbrev Zbg : Stmt := top 14
theorem Zge : Zaq ["word"] ["word"] (defScope Zbg) := ⟨rfl, rfl, rfl, by decide +kernel, rfl, by decide +kernel, by decide +kernel⟩
theorem Zgl {f : Addr} {fd : FuncData} (F : Fun K "are_figures" "are_figures" Zbg f fd) (B : Bt mg) (T : Cn mg) : FnOk P w K mg base CX0 1 f fd ["word"] Zdh := by
 refine F.ok Zge (fun vs H Q E h => ?_) (fun cdv A outer s H vs Q E hr h => ?_)
 ·obtain ⟨n, rfl, _⟩ := h; rfl
 ·obtain ⟨n, rfl, ok, q⟩ := h;refine ⟨_, (@Zad _ _ _ _ _ (Zb6 (Zbj (Zhh Zhn Zhn (@Zah _ _ _ _) (Zau Zdf rfl B.len (by rfl) (@Zaa _ _ _ _ _ (pv 0) Zac Zab)) (Zb4 rfl T.c_MOST_FIGURES))) (@Zai _ _ _ (@Zar _ _ _ _ Zdj)) Zaz) (@Zai _ _ _ (@Zar _ _ _ _ (Zdn (Zau (Zey (K := K) rfl rfl) rfl B.all (by rfl) (@Zaa _ _ _ _ _ (Zdv (N' := ["sign"]) (caps := [none]) (Zhz (sc := defScope Zbg) (N := ["word"]) rfl rfl (by decide +kernel)) rfl (Zlm (pv 0)) (fun _ _ _ _ _ => (Zdi (i := 0) (Zhw (N := ["sign"]) rfl (by decide +kernel)) rfl (Or.inl rfl))) (fun _ _ _ _ _ => Zdu) (fun _ _ _ _ _ => (Zhl Zjw Zjw (@Za6 _ _ _ _) (pv 0) (@Za6 _ _ _ _)))) Zac Zbz)) (Zeq (Zr8 (Zbo Zfa (pv 0) (@Za6 _ _ _ _) (Za3 _)) (Zeq (Zns (@Zdz _ K _ _ _ _ _ _ _ _ _ _ _ rfl PySem.F.plainAttrs_str PySem.F.slot_str_startswith PySem.F.type_str_startswith Zlu (pv 0) (@Zaa _ _ _ _ _ (@Za6 _ _ _ _) Zac Zae) (by rfl) (by rfl) (by rfl) (by rfl) (by rfl)))))))))), ?_⟩;walk_at "rd";have l1 := ok.len1;have l2 := ok.len2;have dg := ok.dig;have zr := ok.zero;generalize numT n = z at *;refine ⟨Zan (by omega), ?_⟩;rw [if_pos (decide_eq_true (by omega)), if_neg (by simp; omega)];have hsz : z.cps.size = z.length := rfl;obtain ⟨Pv, ePv⟩ : ∃ Pv : Nat -> List V -> L2.St -> Hp -> Prop, Pv = fun i ys σ' H1 => H1 = H /\ i <= z.cps.size /\ ys = (List.replicate i true).map V.bl /\ ∃ v, σ' = [v] := ⟨_, rfl⟩
  refine Zh0 Pv (by rw [ePv]; exact ⟨rfl, Nat.zero_le _, rfl, none, rfl⟩) ?_ (by rw [hsz]; exact Zan (by omega)) ?_ ?_ <;> rw [ePv]
  ·rintro i ys σ' H1 ⟨_, hi, rfl, _⟩ _;simp
  ·rintro i c ys σ' H1 hc ⟨rfl, hi, rfl, v, rfl⟩;rw [<- ePv];have hi' : i < z.cps.size := (Array.getElem?_eq_some_iff.mp hc).1;have hd := dg c (List.mem_of_getElem? (show z.cps.toList[i]? = some c by rw [Array.getElem?_toList]; exact hc));walk_at "rd";obtain ⟨e1, e2⟩ := Zq3 c;rw [e1, e2, decide_eq_true hd.1, decide_eq_true hd.2, if_pos rfl, ePv];exact ⟨rfl, by omega, by rw [List.replicate_succ', List.map_append]; rfl, _, rfl⟩
  ·rintro ys σ' H1 ⟨rfl, _, rfl, _⟩ p hp;refine ⟨p, rfl, _, SqL.of Zal, ?_⟩;rw [if_pos (by simp)];have sG := Zbq (o := HO.lst ((List.replicate z.cps.size true).map V.bl)) hp;refine ⟨rfl, ?_⟩
   by_cases h0 : z = Str.ofString "0"
   ·rw [if_pos (decide_eq_true h0)]; exact q _ sG
   ·rw [if_neg (by simpa using h0)];refine ⟨rfl, ?_⟩;rcases zr with zr | zr
    ·exact absurd zr h0
    ·rw [zr]; exact q _ sG
def Zci : Sp := fun vs H Q _ => ∃ n : Int, vs = [.str (numT n)] /\ Zo7 n /\ ∀ G, Same H G -> Q (.int n) G
abbrev Zbu : Stmt := top 41
theorem Zgd : Zaq ["word"] ["word"] (defScope Zbu) := ⟨rfl, rfl, rfl, by decide +kernel, rfl, by decide +kernel, by decide +kernel⟩
theorem Zgi {f : Addr} {fd : FuncData} (F : Fun K "read_number" "read_number" Zbu f fd) (B : Bt mg) (F_are_figures : FnB P w K mg base "are_figures" 1 ["word"] [] Zdh) : FnOk P w K mg base CX0 2 f fd ["word"] Zci := by
 refine F.ok Zgd (fun vs H Q E h => ?_) (fun cdv A outer s H vs Q E hr h => ?_)
 ·obtain ⟨n, rfl, _⟩ := h; rfl
 ·obtain ⟨n, rfl, ok, q⟩ := h;refine ⟨_, (Zad (Zb6 (Zbj (Zbi (Zag F_are_figures (hr.mono (by decide)) rfl (Zaa (hs := Zab) (pv 0) Zac)))) Zdm Zaz) (Zai (Zar (Zbr Zmj rfl B.bint (by rfl) (Zaa (hs := Zab) (pv 0) Zac))))), ?_⟩;walk_at "rd";refine ⟨n, rfl, ok, fun G s => ⟨_, rfl, ?_⟩⟩;rw [if_neg (by simp)];have := ok.len2;exact ⟨n, ok.back, by omega, q G s⟩
def Zcs : Sp := fun vs H Q _ => ∃ (b : Bool) (z : Str), vs = [.str (Zcm b z), .str z] /\ z ≠ "." /\ Q (.bl b) H
abbrev Zb0 : Stmt := top 42
theorem Zha : Zaq ["word", "sign"] ["word", "sign"] (defScope Zb0) := ⟨rfl, rfl, rfl, by decide +kernel, rfl, by decide +kernel, by decide +kernel⟩
theorem Zhp {f : Addr} {fd : FuncData} (F : Fun K "read_truth" "read_truth" Zb0 f fd) (T : Cn mg) : FnOk P w K mg base CX0 1 f fd ["word", "sign"] Zcs := by
 refine F.ok Zha (fun vs H Q E h => ?_) (fun cdv A outer s H vs Q E hr h => ?_)
 ·obtain ⟨b, z, rfl, _⟩ := h; rfl
 ·obtain ⟨b, z, rfl, hz, q⟩ := h;refine ⟨_, (Zad (Zb6 (PW.pt (Znn (Zbm Zif (pv 0) (pv 1) (Za3 _)) (Zlk (Zbm Zif (pv 0) (Zcf rfl T.c_NO_SIGN) (Za3 _))))) Zdm Zaz) (Zai (Zar (Zbo Zfa (pv 0) (pv 1) (Za3 _))))), ?_⟩;walk_at "rd";cases b with
  | true =>
   rw [show Zcm true z = z from rfl, decide_eq_true rfl];exact ⟨rfl, rfl, q⟩
  | false =>
   rw [show Zcm false z = "." from rfl, decide_eq_false (fun e => hz e.symm), decide_eq_true rfl];exact ⟨rfl, rfl, rfl, q⟩
def Zcu : Sp := fun vs H Q _ => ∃ (ns : List Int), vs = [.str (bytesT ns)] /\ (∀ x ∈ ns, 0 <= x /\ x <= 255) /\ ns.length <= 4000 /\ ∀ l G, H l = none -> Same H G -> G l = some (.lst (ns.map V.int)) -> Q (.ref l) G
abbrev Zbc : Stmt := top 43
theorem Zhb : Zaq ["word"] ["word"] (defScope Zbc) := ⟨rfl, rfl, rfl, by decide +kernel, rfl, by decide +kernel, by decide +kernel⟩
theorem Zhr {f : Addr} {fd : FuncData} (F : Fun K "read_bytes" "read_bytes" Zbc f fd) (B : Bt mg) (T : Cn mg) : FnOk P w K mg base CX0 1 f fd ["word"] Zcu := by
 refine F.ok Zhb (fun vs H Q E h => ?_) (fun cdv A outer s H vs Q E hr h => ?_)
 ·obtain ⟨ns, rfl, _⟩ := h; rfl
 ·obtain ⟨ns, rfl, hb, hl, q⟩ := h;refine ⟨_, (@Zad _ _ _ _ _ (Zb6 (PW.pt (Zej (Zbm Zfa (@Za2 _ _ _ _ _ _ _ _ Zde (Zau Zdf rfl B.len (by rfl) (@Zaa _ _ _ _ _ (pv 0) Zac Zab)) (@Zah _ _ _ _)) (@Zah _ _ _ _) (Za3 _)) (Zd6 (Zbj (Zbi (Zau (Zey (K := K) rfl rfl) rfl B.all (by rfl) (@Zaa _ _ _ _ _ (Zdv (N' := ["sign"]) (caps := [none]) (Zhz (sc := defScope Zbc) (N := ["word"]) rfl rfl (by decide +kernel)) rfl (Zlm (pv 0)) (fun _ _ _ _ _ => (Zdi (i := 0) (Zhw (N := ["sign"]) rfl (by decide +kernel)) rfl (Or.inl rfl))) (fun _ _ _ _ _ => Zdu) (fun _ _ _ _ _ => (Zbo Zql (pv 0) (Zcf rfl T.c_HALVES) (by with_unfolding_all rfl)))) Zac Zbz))))))) Zdm Zaz) (@Zai _ _ _ (@Zar _ _ _ _ (Zdv (N' := ["place", "word"]) (caps := [none, some 0]) (Zhz (sc := defScope Zbc) (N := ["word"]) rfl rfl (by decide +kernel)) rfl (Zln rfl B.range (@Zaa _ _ _ _ _ (@Zah _ _ _ _) (@Zaa _ _ _ _ _ (Zau Zdf rfl B.len (by rfl) (@Zaa _ _ _ _ _ (pv 0) Zac Zab)) (@Zaa _ _ _ _ _ (@Zah _ _ _ _) Zac Zae) Zav) Zae)) (fun _ _ _ _ _ => (Zdi (i := 0) (Zhw (N := ["place", "word"]) rfl (by decide +kernel)) rfl (Or.inl rfl))) (fun _ _ _ _ _ => Zdu) (fun _ _ _ _ _ => (@Za2 _ _ _ _ _ _ _ _ Zco (@Za2 _ _ _ _ _ _ _ _ Zeb (Zb4 rfl T.c_BASE) (@Zdz _ K _ _ _ _ _ _ _ _ _ _ _ rfl PySem.F.plainAttrs_str PySem.F.slot_str_index PySem.F.type_str_index Zjy (Zcf rfl T.c_HALVES) (@Zaa _ _ _ _ _ (@Zbb _ _ _ _ _ _ _ Zf3 (pv 1) (pv 0) (fun _ _ => rfl)) Zac Zaj) (by rfl) (by rfl) (by rfl) (by rfl) (by rfl))) (@Zdz _ K _ _ _ _ _ _ _ _ _ _ _ rfl PySem.F.plainAttrs_str PySem.F.slot_str_index PySem.F.type_str_index Zjy (Zcf rfl T.c_HALVES) (@Zaa _ _ _ _ _ (@Zbb _ _ _ _ _ _ _ Zf3 (pv 1) (@Za2 _ _ _ _ _ _ _ _ Zco (pv 0) (@Zah _ _ _ _)) (fun _ _ => rfl)) Zac Zaj) (by rfl) (by rfl) (by rfl) (by rfl) (by rfl)))))))), ?_⟩;walk_at "rd";have hlen := Zc4 ns;have hsl : (bytesT ns).length <= sizeLine := Zan (by omega);refine ⟨hsl, by decide, rfl, ?_⟩;rw [if_neg (by simp; omega)];have hsz : (bytesT ns).cps.size = (bytesT ns).length := rfl;obtain ⟨Pv, ePv⟩ : ∃ Pv : Nat -> List V -> L2.St -> Hp -> Prop, Pv = fun i ys σ' H1 => H1 = H /\ ys = (List.replicate i true).map V.bl /\ ∃ v, σ' = [v] := ⟨_, rfl⟩
  refine Zh0 Pv (by rw [ePv]; exact ⟨rfl, rfl, none, rfl⟩) ?_ (by rw [hsz]; exact hsl) ?_ ?_ <;> rw [ePv]
  ·rintro i ys σ' H1 ⟨_, rfl, _⟩ _;simp
  ·rintro i c ys σ' H1 hc ⟨rfl, rfl, v, rfl⟩;rw [<- ePv];obtain ⟨j, hj, rfl⟩ := Zg0 hb (List.mem_of_getElem? (show (bytesT ns).cps.toList[i]? = some c by rw [Array.getElem?_toList]; exact hc));walk_at "rd";rw [Zjf j hj, ePv];exact ⟨rfl, by rw [List.replicate_succ', List.map_append]; rfl, _, rfl⟩
  ·rintro ys σ' H1 ⟨rfl, rfl, _⟩ p hp;have sG := Zbq (o := HO.lst ((List.replicate (bytesT ns).cps.size true).map V.bl)) hp;refine ⟨p, rfl, _, SqL.of Zal, ?_⟩;rw [if_neg (by simp)];refine ⟨hsl, by decide, by decide, by omega, by omega, by decide, by decide, ?_⟩;have hrs : rsz 0 ((bytesT ns).length : Int) 2 = ns.length := by
    unfold rsz Builtin.Range.rangeSize;rw [if_pos (by decide), hlen]
    split
    ·omega
    ·omega
   rw [hrs];generalize upd H1 p (HO.lst ((List.replicate (bytesT ns).cps.size true).map V.bl)) = G1 at sG;obtain ⟨Pw, ePw⟩ : ∃ Pw : Nat -> List V -> L2.St -> Hp -> Prop, Pw = fun i ys σ' H2 => H2 = G1 /\ ys = (ns.take i).map V.int /\ ∃ v, σ' = [v, some (.str (bytesT ns))] := ⟨_, rfl⟩
   refine Zjg Pw (by rw [ePw]; exact ⟨rfl, rfl, none, rfl⟩) ?_ (Zan (by omega)) ?_ ?_ <;> rw [ePw]
   ·rintro i ys σ' H2 ⟨_, rfl, _⟩ _;rw [List.length_map, List.length_take]; omega
   ·rintro i ys σ' H2 hi ⟨rfl, rfl, v, rfl⟩;rw [<- ePw];have hn : ns[i]? = some ns[i] := List.getElem?_eq_getElem hi;have hbi := hb _ (List.mem_of_getElem? hn);obtain ⟨g1, g2⟩ := Zg1 ns i _ hn;generalize ns[i] = b at *;have e1 : (0 : Int) + (i : Int) * 2 = ((2 * i : Nat) : Int) := by omega
    have e2 : ((2 * i : Nat) : Int) + 1 = ((2 * i + 1 : Nat) : Int) := by omega
    rw [e1];walk_at "rd";rw [e2];refine ⟨rfl, hsl, _, Za1 g1, (b / 16).toNat, [], Zjf _ (by omega), .inl ⟨by decide, by decide⟩, rfl, hsl, _, Za1 g2, (b % 16).toNat, [], Zjf _ (by omega), ?_⟩;rw [ePw];refine ⟨rfl, ?_, _, rfl⟩;rw [List.take_succ, hn, List.map_append];have : (16 : Int) * ((b / 16).toNat : Int) + ((b % 16).toNat : Int) = b := by omega
    rw [this]; rfl
   ·rintro ys σ' H2 ⟨rfl, rfl, _⟩ l G hl s hG;rw [List.take_length] at hG;exact q l G (sG.free hl) (sG.trans s) hG
def Zct (CP NT : Addr) : Sp := fun vs H Q E => ∃ z : Str, vs = [.str z] /\ z.length <= 50000 /\ ((Txt.split z " ").length ≠ 7 -> ∀ G, Same H G -> E (.ref NT) none G) /\ ((Txt.split z " ").length = 7 -> ∃ d : PD, d.Ok /\ z = textP d /\ ∀ p b G, H p = none -> H b = none -> Same H G -> PieO CP G p b d -> Q (.ref p) G)
abbrev Zb1 : Stmt := top 44
theorem Zbe : Zaq ["text", "words", "number", "at", "more", "keep", "body"] ["text"] (defScope Zb1) := ⟨rfl, rfl, rfl, by decide +kernel, rfl, by decide +kernel, by decide +kernel⟩
theorem Zhq {f CP NT : Addr} {fd : FuncData} (F : Fun K "read_piece" "read_piece" Zb1 f fd) (T : Cn mg) (F_words_of : FnX P w K mg base "words_of" 1 ["text", "count"] [] (Zdq NT)) (F_read_number : FnB P w K mg base "read_number" 2 ["word"] [] Zci) (F_read_truth : FnB P w K mg base "read_truth" 1 ["word", "sign"] [] Zcs) (F_read_bytes : FnB P w K mg base "read_bytes" 1 ["word"] [] Zcu) (F_Piece : CtB P w K mg base "Piece" 6 (Zlb CP)) : FnOk P w K mg base (CXx P w) 8 f fd ["text"] (Zct CP NT) := by
 refine F.okX Zbe (fun vs H Q E h => ?_) (fun cdv A outer s H vs Q E hr h => ?_)
 ·obtain ⟨z, rfl, _⟩ := h; rfl
 ·obtain ⟨z, rfl, hz, qE, q⟩ := h;refine ⟨_, (@Zad _ _ _ _ _ (@Zas _ _ 1 _ _ _ _ (Zbe).nd rfl (Or.inl rfl) (Zfp F_words_of (hr.mono (by decide)) rfl (Znt Zev (fun _ _ h => h)) (@Zaa _ _ _ _ _ (pv 0) (@Zaa _ _ _ _ _ (Zb4 rfl T.c_WORDS_OF_A_PIECE) Zac Zab) Zab)) (by rfl) (Or.inl rfl)) (@Zad _ _ _ _ _ (@Zas _ _ 2 _ _ _ _ (Zbe).nd rfl (Or.inl rfl) (Zag F_read_number (hr.mono (by decide)) rfl (@Zaa _ _ _ _ _ (@Zbb _ _ _ _ _ _ _ (Zay (K := K) rfl) (pv 1) (@Zah _ _ _ _) (fun _ _ => rfl)) Zac Zaj)) (by rfl) (Or.inl rfl)) (@Zad _ _ _ _ _ (@Zas _ _ 3 _ _ _ _ (Zbe).nd rfl (Or.inl rfl) (Zag F_read_number (hr.mono (by decide)) rfl (@Zaa _ _ _ _ _ (@Zbb _ _ _ _ _ _ _ (Zay (K := K) rfl) (pv 1) (@Zah _ _ _ _) (fun _ _ => rfl)) Zac Zaj)) (by rfl) (Or.inl rfl)) (@Zad _ _ _ _ _ (@Zas _ _ 4 _ _ _ _ (Zbe).nd rfl (Or.inl rfl) (Zag F_read_truth (hr.mono (by decide)) rfl (@Zaa _ _ _ _ _ (@Zbb _ _ _ _ _ _ _ (Zay (K := K) rfl) (pv 1) (@Zah _ _ _ _) (fun _ _ => rfl)) (@Zaa _ _ _ _ _ (Zcf rfl T.c_MORE_SIGN) Zac Zab) Zaj)) (by rfl) (Or.inl rfl)) (@Zad _ _ _ _ _ (@Zas _ _ 5 _ _ _ _ (Zbe).nd rfl (Or.inl rfl) (Zag F_read_truth (hr.mono (by decide)) rfl (@Zaa _ _ _ _ _ (@Zbb _ _ _ _ _ _ _ (Zay (K := K) rfl) (pv 1) (@Zah _ _ _ _) (fun _ _ => rfl)) (@Zaa _ _ _ _ _ (Zcf rfl T.c_KEEP_SIGN) Zac Zab) Zaj)) (by rfl) (Or.inl rfl)) (@Zad _ _ _ _ _ (@Zas _ _ 6 _ _ _ _ (Zbe).nd rfl (Or.inl rfl) (Zag F_read_bytes (hr.mono (by decide)) rfl (@Zaa _ _ _ _ _ (@Zbb _ _ _ _ _ _ _ (Zay (K := K) rfl) (pv 1) (@Zah _ _ _ _) (fun _ _ => rfl)) Zac Zaj)) (by rfl) (Or.inl rfl)) (@Zai _ _ _ (Zid (Zgs F_Piece (hr.mono (by decide)) rfl (@Zaa _ _ _ _ _ (pv 2) (@Zaa _ _ _ _ _ (@Zbb _ _ _ _ _ _ _ (Zay (K := K) rfl) (pv 1) (@Zah _ _ _ _) (fun _ _ => rfl)) (@Zaa _ _ _ _ _ (@Zbb _ _ _ _ _ _ _ (Zay (K := K) rfl) (pv 1) (@Zah _ _ _ _) (fun _ _ => rfl)) (@Zaa _ _ _ _ _ (pv 3) (@Zaa _ _ _ _ _ (pv 6) (@Zaa _ _ _ _ _ (pv 4) (@Zaa _ _ _ _ _ (pv 5) Zac Zab) Zab) Zab) Zab) Zaj) Zaj) Zab)))))))))), ?_⟩;refine Zap fun N hN => ?_
  walk_at "rd";refine ⟨z, 7, rfl, hz, fun h => qE (by omega), fun h l G hl s1 hG => hN _ _ ?_⟩;clear hN N;obtain ⟨d, ok, ez, q2⟩ := q (by omega);subst ez;rw [Zk8 ok] at hG;have a0 := ok.a0;have a1 : d.at' < 10 ^ 10 := by have := ok.bds'; omega
  have n1 : d.nu < 10 ^ 10 := by have := ok.n1; omega
  refine Zap fun N hN => ?_
  walk_at "rd";refine ⟨_, SqL.of hG, _, at0, d.nu, rfl, Zd7 ok.n0 n1, fun G1 s2 => hN _ _ ?_⟩;clear hN N;refine Zap fun N hN => ?_
  walk_at "rd";have hG1 := s2 _ _ hG;refine ⟨_, SqL.of hG1, _, Za1 (j := 3) rfl, d.at', rfl, Zd7 a0 a1, fun G2 s3 => hN _ _ ?_⟩;clear hN N;have hG2 := s3 _ _ hG1;refine Zap fun N hN => ?_
  walk_at "rd";refine ⟨_, SqL.of hG2, _, Za1 (j := 4) rfl, d.mo, _, rfl, by decide, hN _ _ ?_⟩;clear hN N;refine Zap fun N hN => ?_
  walk_at "rd";refine ⟨_, SqL.of hG2, _, Za1 (j := 5) rfl, d.k, _, rfl, by decide, hN _ _ ?_⟩;clear hN N;refine Zap fun N hN => ?_
  walk_at "rd";refine ⟨_, SqL.of hG2, _, Za1 (j := 6) rfl, d.ns, rfl, ok.by', ok.l2, fun lb G3 hlb s4 g3 => hN _ _ ?_⟩;clear hN N;have hG3 := s4 _ _ hG2;have s13 := ((s1.trans s2).trans s3).trans s4;walk_at "rd";refine ⟨_, SqL.of hG3, _, Za1 (j := 1) rfl, _, SqL.of hG3, _, Za1 (j := 2) rfl, d, lb, rfl, ok, g3, fun p b G4 hp hb s5 hO => q2 p b G4 (s13.free hp) (s13.free hb) (s13.trans s5) hO⟩
def Zcj (CL NT : Addr) : Sp := fun vs H Q E => ∃ z : Str, vs = [.str z] /\ z.length <= 50000 /\ ((Txt.split z " ").length ≠ 5 -> ∀ G, Same H G -> E (.ref NT) none G) /\ ((Txt.split z " ").length = 5 -> ∃ d : LD, d.Ok /\ z = textL d /\ ∀ p b G, H p = none -> H b = none -> Same H G -> LetO CL G p b d -> Q (.ref p) G)
abbrev Zbv : Stmt := top 45
theorem Zby : Zaq ["text", "words", "number", "keep", "body"] ["text"] (defScope Zbv) := ⟨rfl, rfl, rfl, by decide +kernel, rfl, by decide +kernel, by decide +kernel⟩
theorem Zgj {f CL NT : Addr} {fd : FuncData} (F : Fun K "read_letter" "read_letter" Zbv f fd) (T : Cn mg) (F_words_of : FnX P w K mg base "words_of" 1 ["text", "count"] [] (Zdq NT)) (F_read_number : FnB P w K mg base "read_number" 2 ["word"] [] Zci) (F_read_truth : FnB P w K mg base "read_truth" 1 ["word", "sign"] [] Zcs) (F_read_bytes : FnB P w K mg base "read_bytes" 1 ["word"] [] Zcu) (F_Letter : CtB P w K mg base "Letter" 6 (Zjn CL)) : FnOk P w K mg base (CXx P w) 8 f fd ["text"] (Zcj CL NT) := by
 refine F.okX Zby (fun vs H Q E h => ?_) (fun cdv A outer s H vs Q E hr h => ?_)
 ·obtain ⟨z, rfl, _⟩ := h; rfl
 ·obtain ⟨z, rfl, hz, qE, q⟩ := h;refine ⟨_, (@Zad _ _ _ _ _ (@Zas _ _ 1 _ _ _ _ (Zby).nd rfl (Or.inl rfl) (Zfp F_words_of (hr.mono (by decide)) rfl (Znt Zev (fun _ _ h => h)) (@Zaa _ _ _ _ _ (pv 0) (@Zaa _ _ _ _ _ (Zb4 rfl T.c_WORDS_OF_A_LETTER) Zac Zab) Zab)) (by rfl) (Or.inl rfl)) (@Zad _ _ _ _ _ (@Zas _ _ 2 _ _ _ _ (Zby).nd rfl (Or.inl rfl) (Zag F_read_number (hr.mono (by decide)) rfl (@Zaa _ _ _ _ _ (@Zbb _ _ _ _ _ _ _ (Zay (K := K) rfl) (pv 1) (@Zah _ _ _ _) (fun _ _ => rfl)) Zac Zaj)) (by rfl) (Or.inl rfl)) (@Zad _ _ _ _ _ (@Zas _ _ 3 _ _ _ _ (Zby).nd rfl (Or.inl rfl) (Zag F_read_truth (hr.mono (by decide)) rfl (@Zaa _ _ _ _ _ (@Zbb _ _ _ _ _ _ _ (Zay (K := K) rfl) (pv 1) (@Zah _ _ _ _) (fun _ _ => rfl)) (@Zaa _ _ _ _ _ (Zcf rfl T.c_KEEP_SIGN) Zac Zab) Zaj)) (by rfl) (Or.inl rfl)) (@Zad _ _ _ _ _ (@Zas _ _ 4 _ _ _ _ (Zby).nd rfl (Or.inl rfl) (Zag F_read_bytes (hr.mono (by decide)) rfl (@Zaa _ _ _ _ _ (@Zbb _ _ _ _ _ _ _ (Zay (K := K) rfl) (pv 1) (@Zah _ _ _ _) (fun _ _ => rfl)) Zac Zaj)) (by rfl) (Or.inl rfl)) (@Zai _ _ _ (Zid (Zgs F_Letter (hr.mono (by decide)) rfl (@Zaa _ _ _ _ _ (pv 2) (@Zaa _ _ _ _ _ (@Zbb _ _ _ _ _ _ _ (Zay (K := K) rfl) (pv 1) (@Zah _ _ _ _) (fun _ _ => rfl)) (@Zaa _ _ _ _ _ (@Zbb _ _ _ _ _ _ _ (Zay (K := K) rfl) (pv 1) (@Zah _ _ _ _) (fun _ _ => rfl)) (@Zaa _ _ _ _ _ (pv 4) (@Zaa _ _ _ _ _ (pv 3) Zac Zab) Zab) Zaj) Zaj) Zab)))))))), ?_⟩;refine Zap fun N hN => ?_
  walk_at "rd";refine ⟨z, 5, rfl, hz, fun h => qE (by omega), fun h l G hl s1 hG => hN _ _ ?_⟩;clear hN N;obtain ⟨d, ok, ez, q2⟩ := q (by omega);subst ez;rw [Zk9 ok] at hG;have n1 : d.nu < 10 ^ 10 := by have := ok.n1; omega
  refine Zap fun N hN => ?_
  walk_at "rd";refine ⟨_, SqL.of hG, _, at0, d.nu, rfl, Zd7 ok.n0 n1, fun G1 s2 => hN _ _ ?_⟩;clear hN N;have hG2 := s2 _ _ hG;refine Zap fun N hN => ?_
  walk_at "rd";refine ⟨_, SqL.of hG2, _, Za1 (j := 3) rfl, d.k, _, rfl, by decide, hN _ _ ?_⟩;clear hN N;refine Zap fun N hN => ?_
  walk_at "rd";refine ⟨_, SqL.of hG2, _, Za1 (j := 4) rfl, d.ns, rfl, ok.by', ok.l2, fun lb G3 hlb s4 g3 => hN _ _ ?_⟩;clear hN N;have hG3 := s4 _ _ hG2;have s13 := (s1.trans s2).trans s4;walk_at "rd";refine ⟨_, SqL.of hG3, _, Za1 (j := 1) rfl, _, SqL.of hG3, _, Za1 (j := 2) rfl, d, lb, rfl, ok, g3, fun p b G4 hp hb s5 hO => q2 p b G4 (s13.free hp) (s13.free hb) (s13.trans s5) hO⟩
end
section
variable {P : Program} {w : World} {K : PySem.W.Frag} {mg : Str -> Option Value} {base : Heap}
def Zg6 : Sp := fun vs H Q _ => ∃ n : Int, vs = [.int n] /\ ∀ m : Int, 0 <= m -> m < 2147483629 -> Q (.int m) H
abbrev Ze7 : Stmt := top 48
theorem Zhc : Zaq ["_law_number"] ["_law_number"] (defScope Ze7) := ⟨rfl, rfl, rfl, by decide +kernel, rfl, by decide +kernel, by decide +kernel⟩
theorem Zm1 {f : Addr} {fd : FuncData} (F : Fun K "_law_mixed" "_law_mixed" Ze7 f fd) : FnOk P w K mg base CX0 1 f fd ["_law_number"] Zg6 := by
 refine F.ok Zhc (fun vs H Q E h => ?_) (fun cdv A outer s H vs Q E hr h => ?_)
 ·obtain ⟨n, rfl, _⟩ := h; rfl
 ·obtain ⟨n, rfl, q⟩ := h;refine ⟨_, (Zad (Zas (i := 0) (Zhc).nd rfl (Or.inl rfl) (Za2 Zde (Za2 Zeb (Za2 Zco (Za2 Zde (pv 0) Zah) Zah) Zah) Zah)) (Zad (Zas (i := 0) (Zhc).nd rfl (Or.inl rfl) (Za2 Zde (Za2 Zeb (pv 0) (Za2 Zco (Za2 Zcw (pv 0) Zah) Zah)) Zah)) (Zai (Zar (Za2 Zde (Za2 Zeb (Za2 Zco (pv 0) Zah) (Za2 Zco (Za2 Zcw (pv 0) Zah) Zah)) Zah))))), ?_⟩;walk_at "rd";have cm : ∀ x y : Int, CMul (x % 2147483647 + 1) y := fun x y => .inl ⟨by omega, by omega⟩
  have cm2 : ∀ x y : Int, CMul (x % 2147483647) y := fun x y => .inl ⟨by omega, by omega⟩
  refine ⟨by decide, cm _ _, by decide, ⟨by decide, by decide⟩, cm2 _ _, by decide, ⟨by decide, by decide⟩, cm _ _, by decide, ?_⟩;exact q _ (Int.emod_nonneg _ (by decide)) (Int.emod_lt_of_pos _ (by decide))
def St3 (H : Hp) (a : Addr) : Prop := ∃ n m c, H a = some (.lst [.int n, .int m, .int c])
def Zg4 : Sp := fun vs H Q _ => ∃ c k : Int, vs = [.int c, .int k] /\ ∀ a G, H a = none -> Same H G -> St3 G a -> Q (.ref a) G
abbrev Ze5 : Stmt := top 49
theorem Zmr : Zaq ["_law_cell", "_law_k"] ["_law_cell", "_law_k"] (defScope Ze5) := ⟨rfl, rfl, rfl, by decide +kernel, rfl, by decide +kernel, by decide +kernel⟩
theorem Zmz {f : Addr} {fd : FuncData} (F : Fun K "_law_state" "_law_state" Ze5 f fd) : FnOk P w K mg base CX0 1 f fd ["_law_cell", "_law_k"] Zg4 := by
 refine F.ok Zmr (fun vs H Q E h => ?_) (fun cdv A outer s H vs Q E hr h => ?_)
 ·obtain ⟨c, k, rfl, _⟩ := h; rfl
 ·obtain ⟨c, k, rfl, q⟩ := h;refine ⟨_, (Zai (Zar (Zce (Zaa (hs := Zda) (Za2 Zcw (pv 0) Zah) (Zaa (hs := Zda) (Za2 Zde (pv 0) Zah) (Zaa (hs := Zda) (Za2 Zco (pv 0) (Za2 Zeb Zah (pv 1))) Zac)))))), ?_⟩;walk_at "rd";exact ⟨⟨by decide, by decide⟩, by decide, .inl ⟨by decide, by decide⟩, Zan (by simp), fun a G ha s1 h1 => q a G ha s1 ⟨_, _, _, h1⟩⟩
def Zdc : Sp := fun vs H Q _ => ∃ a b, vs = [.ref a, .int b] /\ St3 H a /\ 1 <= b /\ b < 18446744073709551616 /\ ∀ d H', 0 <= d -> d < b -> St3 H' a -> But a H H' -> Q (.int d) H'
abbrev Ze8 : Stmt := top 50
theorem Zjr : Zaq ["_law_state_here", "_law_base", "_law_found"] ["_law_state_here", "_law_base"] (defScope Ze8) := ⟨rfl, rfl, rfl, by decide +kernel, rfl, by decide +kernel, by decide +kernel⟩
theorem Zm2 {f : Addr} {fd : FuncData} (F : Fun K "_law_digit" "_law_digit" Ze8 f fd) (F_mixed : FnB P w K mg base "_law_mixed" 1 ["_law_number"] [] Zg6) : FnOk P w K mg base CX0 2 f fd ["_law_state_here", "_law_base"] Zdc := by
 refine F.ok Zjr (fun vs H Q E h => ?_) (fun cdv A outer s H vs Q E hr h => ?_)
 ·obtain ⟨a, b, rfl, _⟩ := h; rfl
 ·obtain ⟨a, b, rfl, ⟨n, m, c, h⟩, hb1, hb2, q⟩ := h;refine ⟨_, (Zad (Zb6 (PW.pt (Znn (Zbm Zfa (Zbb (Zay (K := K) rfl) (pv 0) Zah (fun _ _ => rfl)) Zah (Za3 _)) (Zlk (Zbm Zsa (Zbb (Zay (K := K) rfl) (pv 0) Zah (fun _ _ => rfl)) Zah (Za3 _))))) (Zad (Zas (i := 2) (Zjr).nd rfl (Or.inl rfl) (Za2 Zde (Zbb (Zay (K := K) rfl) (pv 0) Zah (fun _ _ => rfl)) (pv 1))) (Zad (Zno (Za2 Zcw (Zbb (Zay (K := K) rfl) (pv 0) Zah (fun _ _ => rfl)) (pv 1)) (Znp (pv 0) Zah Zh9)) (Zai (Zar (pv 2))))) Zaz) (Zad (Zno (Zag F_mixed (hr.mono (by decide)) rfl (Zaa (hs := Zda) (Za2 Zco (Zbb (Zay (K := K) rfl) (pv 0) Zah (fun _ _ => rfl)) Zah) Zac)) (Znp (pv 0) Zah Zh9)) (Zai (Zar (Za2 Zde (Za2 Zcw (Zbb (Zay (K := K) rfl) (pv 0) Zah (fun _ _ => rfl)) Zah) (pv 1)))))), ?_⟩;refine Zap fun N hN => ?_
  have rest : N [some (.ref a), some (.int b), none] H := by
   refine hN _ _ ?_;walk_at "rd";refine ⟨_, SqL.of h, _, rfl, _, rfl, ?_⟩;refine ⟨_, rfl, fun r r0 r1 => ?_⟩;walk_at "rd";refine ⟨_, h, 2, rfl, fun G b1 h1 => ?_⟩;refine ⟨_, SqL.of h1, _, rfl, _, rfl, ⟨by decide, by decide⟩, by omega, ?_⟩;exact q _ _ (Int.emod_nonneg _ (by omega)) (Int.emod_lt_of_pos _ (by omega)) ⟨_, _, _, h1⟩ b1
  walk_at "rd";refine ⟨_, SqL.of h, _, rfl, rfl, Zkv (fun _ => ⟨_, SqL.of h, _, rfl, _, rfl, Zkv (fun h0 => ?_) (fun _ => rest)⟩) (fun _ => rest)⟩;refine ⟨_, SqL.of h, _, rfl, _, rfl, by omega, _, SqL.of h, _, rfl, _, rfl, ⟨by omega, by omega⟩, _, h, 0, rfl, fun G b1 h1 => ?_⟩;exact q _ _ (Int.emod_nonneg _ (by omega)) (Int.emod_lt_of_pos _ (by omega)) ⟨_, _, _, h1⟩ b1
end
section
variable {P : Program} {w : World} {K : PySem.W.Frag} {mg : Str -> Option Value} {base : Heap}
theorem Zl1 : ∀ cs : List Nat, (Txt.join "" (cs.map fun c => (⟨#[c]⟩ : Str))).cps.toList = cs := fun cs => by
 rw [Za9, show ("" : Str).cps.toList = [] by decide +kernel]
 induction cs with
 | nil => rfl
 | cons c r ih =>
  cases r with
  | nil => rfl
  | cons d r =>
   show [c] ++ [] ++ jnC [] (List.map (fun c => (⟨#[c]⟩ : Str)) (d :: r)) = _;rw [ih]; rfl
theorem St3.lst {H : Hp} {a : Addr} (h : St3 H a) : ∃ xs, H a = some (.lst xs) := by obtain ⟨_, _, _, e⟩ := h; exact ⟨_, e⟩
theorem St3.same {H G : Hp} {a : Addr} (h : St3 H a) (s : Same H G) : St3 G a := by obtain ⟨n, m, c, e⟩ := h; exact ⟨n, m, c, s _ _ e⟩
theorem St3.ne {H : Hp} {a t : Addr} (h : St3 H a) (e : H t = none) : t ≠ a := fun z => by subst z; obtain ⟨_, _, _, e'⟩ := h; rw [e] at e'; cases e'
abbrev abcZ : Str := "abcdefghijklmnopqrstuvwxyz"
theorem Zo5 {i : Nat} (h : i < 26) : abcZ.cps.toList[i]? = some (97 + i) := by
 have : ∀ i : _root_.Fin 26, abcZ.cps.toList[i.val]? = some (97 + i.val) := by decide +kernel
 exact this ⟨i, h⟩
def Zi1 : Sp := fun vs H Q _ => ∃ (a l : Addr) (zs : List Str), vs = [.ref a, .ref l] /\ St3 H a /\ l ≠ a /\ H l = some (.lst (zs.map V.str)) /\ 1 <= zs.length /\ zs.length <= 8 /\ (∀ z ∈ zs, NmOk z) /\ ∀ z H', NmOk z -> St3 H' a -> But a H H' -> Q (.str z) H'
abbrev Zfy : Stmt := top 51
theorem Zi2 : Zaq ["_law_state_here", "_law_some", "_law_way", "_law_letters"] ["_law_state_here", "_law_some"] (defScope Zfy) := ⟨rfl, rfl, rfl, by decide +kernel, rfl, by decide +kernel, by decide +kernel⟩
theorem Zor {f : Addr} {fd : FuncData} (F : Fun K "_law_name" "_law_name" Zfy f fd) (B : Bt mg) (F_digit : FnB P w K mg base "_law_digit" 2 ["_law_state_here", "_law_base"] [] Zdc) : FnOk P w K mg base CX0 3 f fd ["_law_state_here", "_law_some"] Zi1 := by
 refine F.ok Zi2 (fun vs H Q E h => ?_) (fun cdv A outer s H vs Q E hr h => ?_)
 ·obtain ⟨a, l, zs, rfl, _⟩ := h; rfl
 ·obtain ⟨a, l, zs, rfl, st, nla, hl, z1, z8, hz, q⟩ := h;refine ⟨_, (@Zad _ _ _ _ _ (@Zas _ _ 2 _ _ _ _ (Zi2).nd rfl (Or.inl rfl) (Zag F_digit (hr.mono (by decide)) rfl (@Zaa _ _ _ _ _ (pv 0) (@Zaa _ _ _ _ _ (@Za2 _ _ _ _ _ _ _ _ Zeb (@Zah _ _ _ _) (Zau (Zdo (K := K) rfl) rfl B.len (by rfl) (@Zaa _ _ _ _ _ (pv 1) Zac Zab))) Zac Zda) Zab)) (by rfl) (Or.inl rfl)) (@Zad _ _ _ _ _ (Zb6 (Zbm Zqk (pv 2) (Zau (Zdo (K := K) rfl) rfl B.len (by rfl) (@Zaa _ _ _ _ _ (pv 1) Zac Zab)) (Za3 _)) (@Zai _ _ _ (@Zar _ _ _ _ (@Zbb _ _ _ _ _ _ _ (Zay (K := K) rfl) (pv 1) (pv 2) (fun _ _ => rfl)))) Zaz) (@Zad _ _ _ _ _ (@Zas _ _ 3 _ _ _ _ (Zi2).nd rfl (Or.inr rfl) (@Za6 _ _ _ _) (by rfl) (Or.inl rfl)) (@Zai _ _ _ (@Zar _ _ _ _ (@Zdz _ K _ _ _ _ _ _ _ _ _ _ _ rfl PySem.F.plainAttrs_str PySem.F.slot_str_join PySem.F.type_str_join (Zem (K := K) rfl) (@Za6 _ _ _ _) (@Zaa _ _ _ _ _ (Zdv (N' := ["_law_k", "_law_letters", "_law_state_here"]) (caps := [none, some 3, some 0]) (Zhz (sc := defScope Zfy) (N := ["_law_state_here", "_law_some", "_law_way", "_law_letters"]) rfl rfl (by decide +kernel)) rfl (Zfz rfl B.range (@Zaa _ _ _ _ _ (@Za2 _ _ _ _ _ _ _ _ Zco (@Zah _ _ _ _) (Zag F_digit (hr.mono (by decide)) rfl (@Zaa _ _ _ _ _ (pv 0) (@Zaa _ _ _ _ _ (@Zah _ _ _ _) Zac Zae) Zab))) Zac Zda)) (fun _ _ _ _ _ => (Zdi (i := 0) (Zhw (N := ["_law_k", "_law_letters", "_law_state_here"]) rfl (by decide +kernel)) rfl (Or.inl rfl))) (fun _ _ _ _ _ => Zdu) (fun _ _ _ _ _ => (@Zbb _ _ _ _ _ _ _ Zf3 (pv 1) (Zag F_digit (hr.mono (by decide)) rfl (@Zaa _ _ _ _ _ (pv 2) (@Zaa _ _ _ _ _ (@Zah _ _ _ _) Zac Zae) Zab)) (fun _ _ => rfl)))) Zac Zbz) (by rfl) (by rfl) (by rfl) (by rfl) (by rfl))))))), ?_⟩;refine Zap fun N hN => ?_
  walk_at "rd";refine ⟨_, .inl (SqL.of hl), .inl ⟨by decide, by decide⟩, a, _, rfl, st, by rw [List.length_map]; omega, by rw [List.length_map]; omega, fun d1 H1 d1a d1b st1 b1 => hN _ _ ?_⟩;clear hN N;have hl1 := b1 _ _ hl nla;refine Zap fun N hN => ?_
  walk_at "rd";refine ⟨_, .inl (SqL.of hl1), ?_⟩;rw [List.length_map]
  by_cases hd : d1 < (zs.length : Int)
  ·rw [if_pos (decide_eq_true hd)];obtain ⟨i, rfl⟩ : ∃ i : Nat, d1 = i := ⟨d1.toNat, by omega⟩;have hi : zs[i]? = some zs[i] := List.getElem?_eq_getElem (by omega);refine ⟨_, SqL.of hl1, V.str zs[i], Za1 (by rw [List.getElem?_map, hi]; rfl), q _ H1 (hz _ (List.mem_of_getElem? hi)) st1 b1⟩
  ·rw [if_neg (by simpa using hd)];refine hN _ _ ?_;clear hN N;refine Zap fun N hN => ?_
   walk_at "rd";refine hN _ _ ?_;clear hN N;walk_at "rd";refine ⟨rfl, a, 8, rfl, st1, by decide, by decide, fun d2 H2 d2a d2b st2 b2 => ⟨d2, rfl, by omega, by omega, ?_⟩⟩;obtain ⟨n, en, n1, n8⟩ : ∃ n : Nat, (1 + d2).toNat = n /\ 1 <= n /\ n <= 8 := ⟨_, rfl, by omega, by omega⟩;rw [en];have b12 : But a H H2 := fun c o e h => b2 c o (b1 c o e h) h
   obtain ⟨Pv, ePv⟩ : ∃ Pv : Nat -> List V -> L2.St -> Hp -> Prop, Pv = fun i ys σ' G => ∃ (v : Option V) (cs : List Nat), σ' = [v, some (.str abcZ), some (.ref a)] /\ ys = (cs.map fun c => (⟨#[c]⟩ : Str)).map V.str /\ cs.length = i /\ (∀ c ∈ cs, smallC c = true) /\ St3 G a /\ But a H G := ⟨_, rfl⟩
   refine Zf7 Pv (by rw [ePv]; exact ⟨none, [], rfl, rfl, rfl, (fun _ h => nomatch h), st2, b12⟩) ?_ (Zan (by omega)) ?_ ?_ <;> rw [ePv]
   ·rintro i ys σ' G ⟨v, cs, rfl, rfl, hc, _⟩ _;rw [List.length_map, List.length_map]; omega
   ·rintro i ys σ' G hi ⟨v, cs, rfl, rfl, hc, hsm, stG, bG⟩;rw [<- ePv];walk_at "rd";refine ⟨a, 26, rfl, stG, by decide, by decide, fun d3 H3 d3a d3b st3 b3 => ?_⟩;obtain ⟨j, rfl⟩ : ∃ j : Nat, d3 = j := ⟨d3.toNat, by omega⟩;refine ⟨j, rfl, Zan (by decide +kernel), 97 + j, Za1 (Zo5 (by omega)), ?_⟩;rw [ePv];refine ⟨_, cs ++ [97 + j], rfl, by rw [List.map_append, List.map_append]; rfl, by rw [List.length_append, hc]; rfl, fun c hc' => ?_, st3, fun c o e h => b3 c o (bG c o e h) h⟩;rcases List.mem_append.mp hc' with h | h
    ·exact hsm c h
    ·rw [List.mem_singleton.mp h];unfold smallC;rw [decide_eq_true (by omega), decide_eq_true (by omega)]; rfl
   ·rintro ys σ' G ⟨v, cs, rfl, rfl, hc, hsm, stG, bG⟩ p G2 hp s2 hG2;have hj := Zl1 cs;refine ⟨p, rfl, cs.map fun c => (⟨#[c]⟩ : Str), SqL.of hG2, ?_, ?_⟩
    ·have e : ((cs.map fun c => (⟨#[c]⟩ : Str)).map (fun z : Str => z.length)).sum <= cs.length := by
      clear hsm hj hc hG2
      induction cs with
      | nil => exact Nat.le_refl _
      | cons c r ih => rw [List.map_cons, List.map_cons, List.sum_cons, List.length_cons]; show 1 + _ <= _; omega
     rw [List.length_map, show (Str.ofString "").length = 0 by decide +kernel]; omega
    ·refine q _ G2 ⟨?_, ?_, ?_⟩ (stG.same s2) (fun c o e h => s2 c o (bG c o e h))
     ·rw [Zd0, hj]; omega
     ·rw [Zd0, hj]; omega
     ·rw [hj]; exact List.all_eq_true.mpr hsm
def Zjp : Sp := fun vs H Q _ => ∃ a : Addr, vs = [.ref a] /\ St3 H a /\ ∀ (t : Addr) (nu : Int) (z1 z2 : Str) H', 0 <= nu -> nu <= 65535 -> NmOk z1 -> NmOk z2 -> H t = none -> t ≠ a -> H' t = some (.tup [.int nu, .str z1, .str z2]) -> St3 H' a -> But a H H' -> Q (.ref t) H'
abbrev Zkj : Stmt := top 52
theorem Znj : Zaq ["_law_state_here", "_law_number"] ["_law_state_here"] (defScope Zkj) := ⟨rfl, rfl, rfl, by decide +kernel, rfl, by decide +kernel, by decide +kernel⟩
theorem Zqo {f : Addr} {fd : FuncData} (F : Fun K "_law_key" "_law_key" Zkj f fd) (F_digit : FnB P w K mg base "_law_digit" 2 ["_law_state_here", "_law_base"] [] Zdc) (F_name : FnB P w K mg base "_law_name" 3 ["_law_state_here", "_law_some"] [] Zi1) : FnOk P w K mg base CX0 4 f fd ["_law_state_here"] Zjp := by
 refine F.ok Znj (fun vs H Q E h => ?_) (fun cdv A outer s H vs Q E hr h => ?_)
 ·obtain ⟨a, rfl, _⟩ := h; rfl
 ·obtain ⟨a, rfl, st, q⟩ := h;refine ⟨_, (@Zad _ _ _ _ _ (@Zas _ _ 1 _ _ _ _ (Znj).nd rfl (Or.inl rfl) (@Zbb _ _ _ _ _ _ _ (Zay (K := K) rfl) (@Zce _ _ _ _ (@Zaa _ _ _ _ _ (@Zah _ _ _ _) (@Zaa _ _ _ _ _ (@Zah _ _ _ _) (@Zaa _ _ _ _ _ (@Zah _ _ _ _) (@Zaa _ _ _ _ _ (@Zah _ _ _ _) (@Zaa _ _ _ _ _ (@Zah _ _ _ _) (@Zaa _ _ _ _ _ (@Zah _ _ _ _) (@Zaa _ _ _ _ _ (Zag F_digit (hr.mono (by decide)) rfl (@Zaa _ _ _ _ _ (pv 0) (@Zaa _ _ _ _ _ (@Zah _ _ _ _) Zac Zae) Zab)) Zac Zav) Zae) Zae) Zae) Zae) Zae) Zae)) (Zag F_digit (hr.mono (by decide)) rfl (@Zaa _ _ _ _ _ (pv 0) (@Zaa _ _ _ _ _ (@Zah _ _ _ _) Zac Zae) Zab)) (fun _ _ => rfl)) (by rfl) (Or.inl rfl)) (@Zai _ _ _ (@Zar _ _ _ _ (@Zek _ _ _ _ _ (@Zaa _ _ _ _ _ (pv 1) (@Zaa _ _ _ _ _ (Zag F_name (hr.mono (by decide)) rfl (@Zaa _ _ _ _ _ (pv 0) (@Zaa _ _ _ _ _ (@Zce _ _ _ _ (@Zaa _ _ _ _ _ (@Za6 _ _ _ _) (@Zaa _ _ _ _ _ (@Za6 _ _ _ _) (@Zaa _ _ _ _ _ (@Za6 _ _ _ _) Zac Zae) Zae) Zae)) Zac Zfs) Zab)) (@Zaa _ _ _ _ _ (Zag F_name (hr.mono (by decide)) rfl (@Zaa _ _ _ _ _ (pv 0) (@Zaa _ _ _ _ _ (@Zce _ _ _ _ (@Zaa _ _ _ _ _ (@Za6 _ _ _ _) (@Zaa _ _ _ _ _ (@Za6 _ _ _ _) (@Zaa _ _ _ _ _ (@Za6 _ _ _ _) Zac Zae) Zae) Zae)) Zac Zfs) Zab)) Zac Zav) Zav) Zab))))), ?_⟩;refine Zap fun N hN => ?_
  walk_at "rd";refine ⟨a, 65536, rfl, st, by decide, by decide, fun d1 H1 d1a d1b st1 b1 => ⟨Zan (by decide), fun p G1 hp s1 g1 => ⟨a, 7, rfl, st1.same s1, by decide, by decide, fun d2 H2 d2a d2b st2 b2 => ?_⟩⟩⟩;obtain ⟨j, rfl⟩ : ∃ j : Nat, d2 = j := ⟨d2.toNat, by omega⟩;obtain ⟨nu, enu, n0, n1⟩ : ∃ nu : Int, ([V.int 0, V.int 1, V.int 7, V.int 10, V.int 65535, V.int 256, V.int d1] : List V)[j]? = some (V.int nu) /\ 0 <= nu /\ nu <= 65535 := by
   match j, (show j < 7 by omega) with
   | 0, _ => exact ⟨_, rfl, by decide, by decide⟩
   | 1, _ => exact ⟨_, rfl, by decide, by decide⟩
   | 2, _ => exact ⟨_, rfl, by decide, by decide⟩
   | 3, _ => exact ⟨_, rfl, by decide, by decide⟩
   | 4, _ => exact ⟨_, rfl, by decide, by decide⟩
   | 5, _ => exact ⟨_, rfl, by decide, by decide⟩
   | 6, _ => exact ⟨d1, rfl, by omega, by omega⟩
  refine ⟨_, j, rfl, SqL.of (b2 _ _ g1 (st1.ne hp)), _, Za1 enu, hN _ _ ?_⟩;clear hN N;have b02 : But a H H2 := fun c o e h => b2 c o (s1 c o (b1 c o e h)) h
  clear b1 b2 s1 g1 enu;walk_at "rd";refine ⟨Zan (by decide), fun p3 G3 hp3 s3 g3 => ⟨a, p3, ["a", "ab", "zz"], rfl, st2.same s3, st2.ne hp3, g3, by decide, by decide, ?_, fun z1 H4 k1 st4 b4 => ⟨Zan (by decide), fun p5 G5 hp5 s5 g5 => ⟨a, p5, ["a", "b", "abcdefgh"], rfl, st4.same s5, st4.ne hp5, g5, by decide, by decide, ?_, fun z2 H6 k2 st6 b6 => ⟨Zan (by decide), fun t G7 ht s7 g7 => ?_⟩⟩⟩⟩⟩
  ·intro z hz;simp only [List.mem_cons, List.not_mem_nil, or_false] at hz;rcases hz with rfl | rfl | rfl <;> (unfold NmOk; decide +kernel)
  ·intro z hz;simp only [List.mem_cons, List.not_mem_nil, or_false] at hz;rcases hz with rfl | rfl | rfl <;> (unfold NmOk; decide +kernel)
  ·have b07 : But a H G7 := fun c o e h => s7 c o (b6 c o (s5 c o (b4 c o (s3 c o (b02 c o e h)) h)) h)
   have nta := st6.ne ht;refine q t nu z1 z2 G7 n0 n1 k1 k2 ?_ nta g7 (st6.same s7) b07;cases e : H t with
   | none => rfl
   | some o =>
    have := b6 t o (s5 t o (b4 t o (s3 t o (b02 t o e nta)) nta)) nta;rw [ht] at this; cases this
def Zdk : Sp := fun vs H Q _ => ∃ (a : Addr) (n : Nat), vs = [.ref a, .int (n : Int)] /\ n <= 4000 /\ St3 H a /\ ∀ (b : Addr) (bs : List Int) H', bs.length = n -> (∀ x ∈ bs, 0 <= x /\ x <= 255) -> b ≠ a -> H' b = some (.lst (bs.map V.int)) -> St3 H' a -> But a H H' -> Q (.ref b) H'
abbrev Zc7 : Stmt := top 53
theorem Ze3 : Zaq ["_law_state_here", "_law_length", "_law_first", "_law_step"] ["_law_state_here", "_law_length"] (defScope Zc7) := ⟨rfl, rfl, rfl, by decide +kernel, rfl, by decide +kernel, by decide +kernel⟩
theorem Zkl {f : Addr} {fd : FuncData} (F : Fun K "_law_body" "_law_body" Zc7 f fd) (B : Bt mg) (F_digit : FnB P w K mg base "_law_digit" 2 ["_law_state_here", "_law_base"] [] Zdc) : FnOk P w K mg base CX0 3 f fd ["_law_state_here", "_law_length"] Zdk := by
 refine F.ok Ze3 (fun vs H Q E h => ?_) (fun cdv A outer s H vs Q E hr h => ?_)
 ·obtain ⟨a, n, rfl, _⟩ := h; rfl
 ·obtain ⟨a, n, rfl, hn, st, q⟩ := h;refine ⟨_, (Zad (Zas (i := 2) (Ze3).nd rfl (Or.inr rfl) (Zag F_digit (hr.mono (by decide)) rfl (Zaa (hs := Zab) (pv 0) (Zaa (hs := Zae) Zah Zac)))) (Zad (Zas (i := 3) (Ze3).nd rfl (Or.inr rfl) (Za2 Zco Zah (Zag F_digit (hr.mono (by decide)) rfl (Zaa (hs := Zab) (pv 0) (Zaa (hs := Zae) Zah Zac))))) (Zai (Zar (Zdv (N' := ["_law_k", "_law_first", "_law_step"]) (caps := [none, some 2, some 3]) (Zhz (sc := defScope Zc7) (N := ["_law_state_here", "_law_length", "_law_first", "_law_step"]) rfl rfl (by decide +kernel)) rfl (Zfz rfl B.range (Zaa (hs := Zab) (pv 1) Zac)) (fun _ _ _ _ _ => (Zdi (i := 0) (Zhw (N := ["_law_k", "_law_first", "_law_step"]) rfl (by decide +kernel)) rfl (Or.inl rfl))) (fun _ _ _ _ _ => Zdu) (fun _ _ _ _ _ => (Za2 Zde (Za2 Zco (Za2 Zco (pv 1) (Za2 Zeb (pv 2) (pv 0))) (Za2 Zcw (pv 0) Zah)) Zah))))))), ?_⟩;refine Zap fun N hN => ?_
  walk_at "rd";refine ⟨a, 256, rfl, st, by decide, by decide, fun d1 H1 d1a d1b st1 b1 => hN _ _ ?_⟩;clear hN N;refine Zap fun N hN => ?_
  walk_at "rd";refine ⟨a, 255, rfl, st1, by decide, by decide, fun d2 H2 d2a d2b st2 b2 => ⟨d2, rfl, hN _ _ ?_⟩⟩;clear hN N;have b02 : But a H H2 := fun c o e h => b2 c o (b1 c o e h) h
  walk_at "rd";refine ⟨by omega, by omega, ?_⟩;rw [Int.toNat_natCast];obtain ⟨Pv, ePv⟩ : ∃ Pv : Nat -> List V -> L2.St -> Hp -> Prop, Pv = fun i ys σ' G => ∃ (v : Option V) (bs : List Int), σ' = [v, some (.int d1), some (.int (1 + d2))] /\ ys = bs.map V.int /\ bs.length = i /\ (∀ x ∈ bs, 0 <= x /\ x <= 255) /\ G = H2 := ⟨_, rfl⟩
  refine Zf7 Pv (by rw [ePv]; exact ⟨none, [], rfl, rfl, rfl, (fun _ h => nomatch h), rfl⟩) ?_ (Zan (by omega)) ?_ ?_ <;> rw [ePv]
  ·rintro i ys σ' G ⟨v, bs, rfl, rfl, hc, _⟩ _;rw [List.length_map]; omega
  ·rintro i ys σ' G hi ⟨v, bs, rfl, rfl, hc, hb, rfl⟩;rw [<- ePv];walk_at "rd";refine ⟨.inr ⟨by omega, by omega⟩, ⟨by decide, by decide⟩, by decide, ?_⟩;rw [ePv];refine ⟨_, bs ++ [_], rfl, by rw [List.map_append]; rfl, by rw [List.length_append, hc]; rfl, fun x hx => ?_, rfl⟩;rcases List.mem_append.mp hx with h | h
   ·exact hb x h
   ·rw [List.mem_singleton.mp h];have h1 := Int.emod_nonneg (d1 + (1 + d2) * (0 + (i : Int)) + (0 + (i : Int)) / 16) (show (256 : Int) ≠ 0 by decide);have h2 := Int.emod_lt_of_pos (d1 + (1 + d2) * (0 + (i : Int)) + (0 + (i : Int)) / 16) (show (0 : Int) < 256 by decide);exact ⟨h1, by omega⟩
  ·rintro ys σ' G ⟨v, bs, rfl, rfl, hc, hb, rfl⟩ p G2 hp s2 hG2;exact q p bs G2 hc hb (st2.ne hp) hG2 (st2.same s2) fun c o e h => s2 c o (b02 c o e h)
def Zd2 (CL : Addr) : Sp := fun vs H Q _ => ∃ (a : Addr), vs = [.ref a, .int 40] /\ St3 H a /\ ∀ (p b : Addr) (d : LD) H', LetO CL H' p b d -> St3 H' a -> But a H H' -> Q (.ref p) H'
abbrev Zcb : Stmt := top 54
theorem Zd5 : Zaq ["_law_state_here", "_law_most", "_law_key_here", "_law_length"] ["_law_state_here", "_law_most"] (defScope Zcb) := ⟨rfl, rfl, rfl, by decide +kernel, rfl, by decide +kernel, by decide +kernel⟩
theorem Zii {f CL : Addr} {fd : FuncData} (F : Fun K "_law_letter" "_law_letter" Zcb f fd) (F_digit : FnB P w K mg base "_law_digit" 2 ["_law_state_here", "_law_base"] [] Zdc) (F_key : FnB P w K mg base "_law_key" 4 ["_law_state_here"] [] Zjp) (F_lawbody : FnB P w K mg base "_law_body" 3 ["_law_state_here", "_law_length"] [] Zdk) (F_Letter : CtB P w K mg base "Letter" 6 (Zjn CL)) : FnOk P w K mg base CX0 8 f fd ["_law_state_here", "_law_most"] (Zd2 CL) := by
 refine F.ok Zd5 (fun vs H Q E h => ?_) (fun cdv A outer s H vs Q E hr h => ?_)
 ·obtain ⟨a, rfl, _⟩ := h; rfl
 ·obtain ⟨a, rfl, st, q⟩ := h;refine ⟨_, (Zad (Zas (i := 2) (Zd5).nd rfl (Or.inl rfl) (Zag F_key (hr.mono (by decide)) rfl (Zaa (hs := Zab) (pv 0) Zac))) (Zad (Zas (i := 3) (Zd5).nd rfl (Or.inl rfl) (Za2 Zco Zah (Zag F_digit (hr.mono (by decide)) rfl (Zaa (hs := Zab) (pv 0) (Zaa (hs := Zab) (pv 1) Zac))))) (Zai (Zar (Zgs F_Letter (hr.mono (by decide)) rfl (Zaa (hs := Zaj) (Zbb (Zdy (K := K) rfl) (pv 2) Zah (fun _ _ => rfl)) (Zaa (hs := Zaj) (Zbb (Zdy (K := K) rfl) (pv 2) Zah (fun _ _ => rfl)) (Zaa (hs := Zaj) (Zbb (Zdy (K := K) rfl) (pv 2) Zah (fun _ _ => rfl)) (Zaa (hs := Zav) (Zag F_lawbody (hr.mono (by decide)) rfl (Zaa (hs := Zab) (pv 0) (Zaa (hs := Zab) (pv 3) Zac))) (Zaa (hs := Zgp) (Zbo Zfa (Zag F_digit (hr.mono (by decide)) rfl (Zaa (hs := Zab) (pv 0) (Zaa (hs := Zae) Zah Zac))) Zah (Za3 _)) Zac)))))))))), ?_⟩;refine Zap fun N hN => ?_
  walk_at "rd";refine ⟨a, rfl, st, fun t nu z1 z2 H1 n0 n1 k1 k2 ht nta ht1 st1 b1 => hN _ _ ?_⟩;clear hN N;refine Zap fun N hN => ?_
  walk_at "rd";refine ⟨a, 40, rfl, st1, by decide, by decide, fun d2 H2 d2a d2b st2 b2 => ⟨d2, rfl, hN _ _ ?_⟩⟩;clear hN N;have ht2 := b2 _ _ ht1 nta;walk_at "rd";refine ⟨_, SqT.of ht2, _, at0, _, SqT.of ht2, _, Za1 (j := 1) rfl, _, SqT.of ht2, _, Za1 (j := 2) rfl, a, (1 + d2).toNat, by rw [show ((1 + d2).toNat : Int) = 1 + d2 by omega], by omega, st2, fun b bs H3 hbl hbb nba hb3 st3 b3 => ⟨a, 3, rfl, st3, by decide, by decide, fun d4 H4 d4a d4b st4 b4 => ⟨rfl, ?_⟩⟩⟩;refine ⟨⟨nu, z1, z2, bs, decide (V.int d4 = V.int 0)⟩, b, rfl, ⟨n0, n1, k1, k2, by show 1 <= bs.length; omega, by show bs.length <= 4000; omega, hbb⟩, b4 _ _ hb3 nba, fun p b' G hp hb' sG hO => q p b' _ G hO (st4.same sG) fun c o e h => sG c o (b4 c o (b3 c o (b2 c o (b1 c o e h) h) h) h)⟩
def Zed (CP : Addr) : Sp := fun vs H Q _ => ∃ (a : Addr), vs = [.ref a, .int 40] /\ St3 H a /\ ∀ (p b : Addr) (d : PD) H', PieO CP H' p b d -> b ≠ a -> St3 H' a -> But a H H' -> Q (.ref p) H'
abbrev Zcz : Stmt := top 55
theorem Zb8 : Zaq ["_law_state_here", "_law_most", "_law_key_here", "_law_at", "_law_more", "_law_length"] ["_law_state_here", "_law_most"] (defScope Zcz) := ⟨rfl, rfl, rfl, by decide +kernel, rfl, by decide +kernel, by decide +kernel⟩
theorem Zja {f CP : Addr} {fd : FuncData} (F : Fun K "_law_piece" "_law_piece" Zcz f fd) (F_digit : FnB P w K mg base "_law_digit" 2 ["_law_state_here", "_law_base"] [] Zdc) (F_key : FnB P w K mg base "_law_key" 4 ["_law_state_here"] [] Zjp) (F_lawbody : FnB P w K mg base "_law_body" 3 ["_law_state_here", "_law_length"] [] Zdk) (F_Piece : CtB P w K mg base "Piece" 6 (Zlb CP)) : FnOk P w K mg base CX0 8 f fd ["_law_state_here", "_law_most"] (Zed CP) := by
 refine F.ok Zb8 (fun vs H Q E h => ?_) (fun cdv A outer s H vs Q E hr h => ?_)
 ·obtain ⟨a, rfl, _⟩ := h; rfl
 ·obtain ⟨a, rfl, st, q⟩ := h;refine ⟨_, (Zad (Zas (i := 2) (Zb8).nd rfl (Or.inl rfl) (Zag F_key (hr.mono (by decide)) rfl (Zaa (hs := Zab) (pv 0) Zac))) (Zad (Zas (i := 3) (Zb8).nd rfl (Or.inl rfl) (Za2 Zeb Zah (Zag F_digit (hr.mono (by decide)) rfl (Zaa (hs := Zab) (pv 0) (Zaa (hs := Zaj) (Zbb (Zay (K := K) rfl) (Zce (Zaa (hs := Zae) Zah (Zaa (hs := Zae) Zah Zac))) (Zag F_digit (hr.mono (by decide)) rfl (Zaa (hs := Zab) (pv 0) (Zaa (hs := Zae) Zah Zac))) (fun _ _ => rfl)) Zac))))) (Zad (Zas (i := 4) (Zb8).nd rfl (Or.inl rfl) (Zbo Zfa (Zag F_digit (hr.mono (by decide)) rfl (Zaa (hs := Zab) (pv 0) (Zaa (hs := Zae) Zah Zac))) Zah (Za3 _))) (Zad (Zas (i := 5) (Zb8).nd rfl (Or.inl rfl) (Za2 Zco Zah (Zag F_digit (hr.mono (by decide)) rfl (Zaa (hs := Zab) (pv 0) (Zaa (hs := Zab) (pv 1) Zac))))) (Zad (Zol (Zb6 (Zbi (pv 4)) (Zai (Zas (i := 5) (Zb8).nd rfl (Or.inl rfl) (Za2 Zco Zah (Za2 Zeb (Za2 Zcw (pv 5) Zah) Zah)))) Zaz)) (Zai (Zar (Zgs F_Piece (hr.mono (by decide)) rfl (Zaa (hs := Zaj) (Zbb (Zdy (K := K) rfl) (pv 2) Zah (fun _ _ => rfl)) (Zaa (hs := Zaj) (Zbb (Zdy (K := K) rfl) (pv 2) Zah (fun _ _ => rfl)) (Zaa (hs := Zaj) (Zbb (Zdy (K := K) rfl) (pv 2) Zah (fun _ _ => rfl)) (Zaa (hs := Zab) (pv 3) (Zaa (hs := Zav) (Zag F_lawbody (hr.mono (by decide)) rfl (Zaa (hs := Zab) (pv 0) (Zaa (hs := Zab) (pv 5) Zac))) (Zaa (hs := Zab) (pv 4) (Zaa (hs := Zgp) (Zbo Zfa (Zag F_digit (hr.mono (by decide)) rfl (Zaa (hs := Zab) (pv 0) (Zaa (hs := Zae) Zah Zac))) Zah (Za3 _)) Zac))))))))))))))), ?_⟩;refine Zap fun N hN => ?_
  walk_at "rd";refine ⟨a, rfl, st, fun t nu z1 z2 H1 n0 n1 k1 k2 ht nta ht1 st1 b1 => hN _ _ ?_⟩;clear hN N;refine Zap fun N hN => ?_
  walk_at "rd";refine ⟨Zan (by decide), fun p2 G2 hp2 s2 g2 => ⟨a, 2, rfl, st1.same s2, by decide, by decide, fun d3 H3 d3a d3b st3 b3 => ?_⟩⟩;obtain ⟨j, rfl⟩ : ∃ j : Nat, d3 = j := ⟨d3.toNat, by omega⟩;obtain ⟨ba, eba, ba1, ba2⟩ : ∃ ba : Int, ([V.int 3, V.int 40] : List V)[j]? = some (V.int ba) /\ 1 <= ba /\ ba <= 40 := by
   match j, (show j < 2 by omega) with
   | 0, _ => exact ⟨3, rfl, by decide, by decide⟩
   | 1, _ => exact ⟨40, rfl, by decide, by decide⟩
  refine ⟨_, j, rfl, SqL.of (b3 _ _ g2 (st1.ne hp2)), _, Za1 eba, a, ba, rfl, st3, by omega, by omega, fun d4 H4 d4a d4b st4 b4 => ⟨d4, rfl, .inl ⟨by decide, by decide⟩, hN _ _ ?_⟩⟩;clear hN N;have ht4 := b4 _ _ (b3 _ _ (s2 _ _ ht1) nta) nta;have b04 : But a H H4 := fun c o e h => b4 c o (b3 c o (s2 c o (b1 c o e h)) h) h
  clear b1 b3 b4 s2 g2 eba;refine Zap fun N hN => ?_
  walk_at "rd";refine ⟨a, 2, rfl, st4, by decide, by decide, fun d5 H5 d5a d5b st5 b5 => ⟨rfl, hN _ _ ?_⟩⟩;clear hN N;refine Zap fun N hN => ?_
  walk_at "rd";refine ⟨a, 40, rfl, st5, by decide, by decide, fun d6 H6 d6a d6b st6 b6 => ⟨d6, rfl, hN _ _ ?_⟩⟩;clear hN N;have ht6 := b6 _ _ (b5 _ _ ht4 nta) nta;have b06 : But a H H6 := fun c o e h => b6 c o (b5 c o (b04 c o e h) h) h
  clear b04 b5 b6;refine Zap fun N hN => ?_
  walk_at "rd";generalize decide (d5 = 1) = mo;refine ⟨fun σ' G => ∃ n : Nat, 1 <= n /\ n <= 48 /\ (mo = true -> n % 8 = 0) /\ σ' = [some (.ref a), some (.int 40), some (.ref t), some (.int (8 * d4)), some (.bl mo), some (.int (n : Int))] /\ G = H6, ?_, ?_⟩
  ·cases mo with
   | true =>
    rw [if_pos rfl];refine ⟨⟨by decide, by decide⟩, .inr ⟨by decide, by decide⟩, (8 + (1 + d6) / 8 * 8).toNat, by omega, by omega, fun _ => by omega, ?_, rfl⟩;rw [show ((8 + (1 + d6) / 8 * 8).toNat : Int) = 8 + (1 + d6) / 8 * 8 by omega]
   | false =>
    rw [if_neg (by simp)];refine ⟨(1 + d6).toNat, by omega, by omega, (fun z => by cases z), ?_, rfl⟩;rw [show ((1 + d6).toNat : Int) = 1 + d6 by omega]
  rintro σ' G ⟨n, n1', n48, n8, rfl, rfl⟩;refine hN _ _ ?_;clear hN N;walk_at "rd";refine ⟨_, SqT.of ht6, _, at0, _, SqT.of ht6, _, Za1 (j := 1) rfl, _, SqT.of ht6, _, Za1 (j := 2) rfl, a, n, rfl, by omega, st6, fun b bs H7 hbl hbb nba hb7 st7 b7 => ⟨a, 3, rfl, st7, by decide, by decide, fun d8 H8 d8a d8b st8 b8 => ⟨rfl, ?_⟩⟩⟩;refine ⟨⟨nu, z1, z2, 8 * d4, bs, mo, decide (V.int d8 = V.int 0)⟩, b, rfl, ⟨n0, n1, k1, k2, by show 1 <= bs.length; omega, by show bs.length <= 4000; omega, hbb, by show (0 : Int) <= 8 * d4; omega, by show (8 * d4) % 8 = 0; omega, ?_⟩, b8 _ _ hb7 nba, fun p b' G hp hb' sG hO => q p b' _ G hO (st8.ne hb') (st8.same sG) fun c o e h => sG c o (b8 c o (b7 c o (b06 c o e h) h) h)⟩;show Zhg (8 * d4) (bs.length : Int) mo = true;unfold Zhg;rw [hbl];cases mo with
  | true =>
   have := n8 rfl;rw [if_pos rfl, decide_eq_true (by omega), decide_eq_true (by omega)]; rfl
  | false =>
   rw [if_neg (by simp)];exact decide_eq_true (by omega)
end
section
variable {P : Program} {w : World} {K : PySem.W.Frag} {mg : Str -> Option Value} {base : Heap}
def Zi0 : Sp := fun vs H Q _ => ∃ n : Int, vs = [.int n] /\ 0 <= n /\ n <= 255 /\ Q (.str (Zfn n)) H
abbrev Zgq : Stmt := top 56
theorem Zle : Zaq ["_law_byte", "_law_some"] ["_law_byte"] (defScope Zgq) := ⟨rfl, rfl, rfl, by decide +kernel, rfl, by decide +kernel, by decide +kernel⟩
theorem Zoq {f : Addr} {fd : FuncData} (F : Fun K "_law_word" "_law_word" Zgq f fd) : FnOk P w K mg base CX0 1 f fd ["_law_byte"] Zi0 := by
 refine F.ok Zle (fun vs H Q E h => ?_) (fun cdv A outer s H vs Q E hr h => ?_)
 ·obtain ⟨n, rfl, _⟩ := h; rfl
 ·obtain ⟨n, rfl, n0, n1, q⟩ := h;refine ⟨_, (Zad (Zas (i := 1) (Zle).nd rfl (Or.inl rfl) Za6) (Zai (Zar (Za2 Zgt (Zbb Zf3 (pv 1) (Za2 Zcw (pv 0) Zah) (fun _ _ => rfl)) (Zbb Zf3 (pv 1) (Za2 Zde (pv 0) Zah) (fun _ _ => rfl)))))), ?_⟩;have h16 : (Str.ofString "0123456789abcdef").length <= sizeLine := Zan (by decide +kernel);have g : ∀ j : Nat, j < 16 -> atI (Str.ofString "0123456789abcdef").cps.toList (j : Int) = some (hvs.getD j 0) := fun j hj => Za1 (by rw [Znx]; exact Zl5 hj)
  walk_at "rd";refine ⟨⟨by decide, by decide⟩, h16, hvs.getD (n / 16).toNat 0, ?_, by decide, h16, hvs.getD (n % 16).toNat 0, ?_, Zan (show 1 + 1 <= 100000 by decide), q⟩
  ·have := g (n / 16).toNat (by omega);rwa [show ((n / 16).toNat : Int) = n / 16 by omega] at this
  ·have := g (n % 16).toNat (by omega);rwa [show ((n % 16).toNat : Int) = n % 16 by omega] at this
structure OneT (K : PySem.W.Frag) (H : Hp) (p b : Addr) (nu : Int) (z1 z2 : Str) (k : Bool) (ns : List Int) : Prop where
 f1 : FldV K H (.ref p) "number" (.int nu)
 f2 : FldV K H (.ref p) "sender" (.str z1)
 f3 : FldV K H (.ref p) "goal" (.str z2)
 f4 : FldV K H (.ref p) "keep" (.bl k)
 f5 : FldV K H (.ref p) "body" (.ref b)
 bd : H b = some (.lst (ns.map V.int))
 n0 : 0 <= nu
 n1 : nu < 10 ^ 10
 k1 : NmOk z1
 k2 : NmOk z2
 l : ns.length <= 4000
 by' : ∀ x ∈ ns, 0 <= x /\ x <= 255
def oAt : Option (Int × Bool) -> V × V
 | none => (.non, .non)
 | some (a, m) => (.int a, .bl m)
def Zqi : Option (Int × Bool) -> List Str
 | none => []
 | some (a, m) => [numT a, Zcm m "+"]
def dueW (nu : Int) (z1 z2 : Str) (o : Option (Int × Bool)) (k : Bool) (ns : List Int) : List Str := [numT nu, z1, z2] ++ Zqi o ++ [Zcm k "!"] ++ [bytesT ns]
theorem Zod (m : Bool) : atI ([V.str (Str.ofString "."), V.str (Str.ofString "+")] : List V) (if m = true then 1 else 0) = some (V.str (Zcm m "+")) := by
 cases m
 ·exact at0
 ·exact Za1 (j := 1) rfl
theorem Zmq (m : Bool) : atI ([V.str (Str.ofString "."), V.str (Str.ofString "!")] : List V) (if m = true then 1 else 0) = some (V.str (Zcm m "!")) := by
 cases m
 ·exact at0
 ·exact Za1 (j := 1) rfl
def Zjq (K : PySem.W.Frag) : Sp := fun vs H Q _ => ∃ (p b : Addr) (nu : Int) (z1 z2 : Str) (k : Bool) (ns : List Int) (o : Option (Int × Bool)), vs = [.ref p, (oAt o).1, (oAt o).2] /\ (∀ G, Same H G -> OneT K G p b nu z1 z2 k ns) /\ (∀ a m, o = some (a, m) -> 0 <= a /\ a < 10 ^ 10) /\ ∀ G, Same H G -> Q (.str (Txt.join " " (dueW nu z1 z2 o k ns))) G
abbrev Zi7 : Stmt := top 57
theorem Zlf : Zaq ["_law_one", "_law_at", "_law_more", "_law_words"] ["_law_one", "_law_at", "_law_more"] (defScope Zi7) := ⟨rfl, rfl, rfl, by decide +kernel, rfl, by decide +kernel, by decide +kernel⟩
theorem Zqp {f : Addr} {fd : FuncData} (F : Fun K "_law_due" "_law_due" Zi7 f fd) (B : Bt mg) (F_word : FnB P w K mg base "_law_word" 1 ["_law_byte"] [] Zi0) : FnOk P w K mg base CX0 2 f fd ["_law_one", "_law_at", "_law_more"] (Zjq K) := by
 refine F.ok Zlf (fun vs H Q E h => ?_) (fun cdv A outer s H vs Q E hr h => ?_)
 ·obtain ⟨p, b, nu, z1, z2, k, ns, o, rfl, _⟩ := h; rfl
 ·obtain ⟨p, b, nu, z1, z2, k, ns, o, rfl, hT, ha, q⟩ := h;refine ⟨_, (@Zad _ _ _ _ _ (@Zas _ _ 3 _ _ _ _ (Zlf).nd rfl (Or.inl rfl) (@Zce _ _ _ _ (@Zaa _ _ _ _ _ (Zbr Zex rfl B.bstr (by rfl) (@Zaa _ _ _ _ _ (Zat (K := K) rfl (pv 0) rfl) Zac Zaf)) (@Zaa _ _ _ _ _ (Zat (K := K) rfl (pv 0) rfl) (@Zaa _ _ _ _ _ (Zat (K := K) rfl (pv 0) rfl) Zac Zaf) Zaf) Zav)) (by rfl) (Or.inl rfl)) (@Zad _ _ _ _ _ (Zol (Zb6 (Zbm Zop (pv 1) (@Zlo _ _ _) (Za3 _)) (@Zai _ _ _ (@Zas _ _ 3 _ _ _ _ (Zlf).nd rfl (Or.inl rfl) (@Za2 _ _ _ _ _ _ _ _ Zls (pv 3) (@Zce _ _ _ _ (@Zaa _ _ _ _ _ (Zbr Zex rfl B.bstr (by rfl) (@Zaa _ _ _ _ _ (pv 1) Zac Zab)) (@Zaa _ _ _ _ _ (@Zbb _ _ _ _ _ _ _ (Zay (K := K) rfl) (@Zce _ _ _ _ (@Zaa _ _ _ _ _ (@Za6 _ _ _ _) (@Zaa _ _ _ _ _ (@Za6 _ _ _ _) Zac Zae) Zae)) (Zbr Zis rfl B.bint (by rfl) (@Zaa _ _ _ _ _ (pv 2) Zac Zab)) (fun _ _ => rfl)) Zac Zaj) Zav))) (by rfl) (Or.inl rfl))) Zaz)) (@Zad _ _ _ _ _ (Zom (@Zdz _ K _ _ _ _ _ _ _ _ _ _ _ rfl PySem.F.plainAttrs_list PySem.F.slot_list_append PySem.F.type_list_append Zkp (pv 3) (@Zaa _ _ _ _ _ (@Zbb _ _ _ _ _ _ _ (Zay (K := K) rfl) (@Zce _ _ _ _ (@Zaa _ _ _ _ _ (@Za6 _ _ _ _) (@Zaa _ _ _ _ _ (@Za6 _ _ _ _) Zac Zae) Zae)) (Zbr Zis rfl B.bint (by rfl) (@Zaa _ _ _ _ _ (Zat (K := K) rfl (pv 0) rfl) Zac Zaf)) (fun _ _ => rfl)) Zac Zaj) (by rfl) (by rfl) (by rfl) (by rfl) (by rfl))) (@Zai _ _ _ (@Zar _ _ _ _ (@Zdz _ K _ _ _ _ _ _ _ _ _ _ _ rfl PySem.F.plainAttrs_str PySem.F.slot_str_join PySem.F.type_str_join (Zem (K := K) rfl) (@Za6 _ _ _ _) (@Zaa _ _ _ _ _ (@Za2 _ _ _ _ _ _ _ _ Zls (pv 3) (@Zce _ _ _ _ (@Zaa _ _ _ _ _ (@Zdz _ K _ _ _ _ _ _ _ _ _ _ _ rfl PySem.F.plainAttrs_str PySem.F.slot_str_join PySem.F.type_str_join (Zem (K := K) rfl) (@Za6 _ _ _ _) (@Zaa _ _ _ _ _ (Zdv (N' := ["_law_byte"]) (caps := [none]) (Zhz (sc := defScope Zi7) (N := ["_law_one", "_law_at", "_law_more", "_law_words"]) rfl rfl (by decide +kernel)) rfl (Zhi (K := K) rfl (Zat (K := K) rfl (pv 0) rfl)) (fun _ _ _ _ _ => (Zdi (i := 0) (Zhw (N := ["_law_byte"]) rfl (by decide +kernel)) rfl (Or.inl rfl))) (fun _ _ _ _ _ => Zdu) (fun _ _ _ _ _ => (Zag F_word (hr.mono (by decide)) rfl (@Zaa _ _ _ _ _ (pv 0) Zac Zab)))) Zac Zbz) (by rfl) (by rfl) (by rfl) (by rfl) (by rfl)) Zac Zav))) Zac Zda) (by rfl) (by rfl) (by rfl) (by rfl) (by rfl))))))), ?_⟩;have T0 := hT H (Same.refl _);have n0 := T0.n0;have n1 := T0.n1;refine Zap fun N hN => ?_
  walk_at "rd";refine ⟨_, T0.f1, nu, rfl, Zeu n0 n1, _, T0.f2, _, T0.f3, Zan (by decide), fun l1 G1 hl1 s1 g1 => hN _ _ ?_⟩;clear hN N
  replace g1 : G1 l1 = some (.lst ([numT nu, z1, z2].map V.str)) := g1
  refine Zap fun N hN => ?_
  walk_at "rd";obtain ⟨R, eR⟩ : ∃ R : L2.St -> Hp -> Prop, R = fun σ' G => ∃ l2, σ' = [some (.ref p), some (oAt o).1, some (oAt o).2, some (.ref l2)] /\ Same H G /\ H l2 = none /\ G l2 = some (.lst (([numT nu, z1, z2] ++ Zqi o).map V.str)) := ⟨_, rfl⟩
  refine ⟨R, ?_, ?_⟩
  ·cases o with
   | none =>
    rw [eR];exact ⟨l1, rfl, s1, hl1, g1⟩
   | some am =>
    obtain ⟨a, m⟩ := am;obtain ⟨a0, a1⟩ := ha a m rfl;rw [if_pos (by simp [oAt])];refine ⟨a, rfl, Zeu a0 a1, Zan (by decide), fun p2 G2 hp2 s2 g2 => .inr ⟨m, rfl, _, SqL.of g2, V.str (Zcm m "+"), Zod m, Zan (by decide), fun p3 G3 hp3 s3 g3 => ⟨_, s3 _ _ (s2 _ _ g1), _, g3, Zan (by simp), fun p4 G4 hp4 s4 g4 => ?_⟩⟩⟩;rw [eR];have s14 := ((s1.trans s2).trans s3);exact ⟨p4, rfl, s14.trans s4, s14.free hp4, by rw [g4]; rfl⟩
  ·rw [eR];rintro σ' G ⟨l2, rfl, sG, hl2, gl2⟩;refine hN _ _ ?_;clear hN N eR R;have TG := hT G sG;generalize ewr : [numT nu, z1, z2] ++ Zqi o = wr at gl2;have hwr : wr.length <= 5 /\ (wr.map (fun z : Str => z.length)).sum <= 60 := by
    have h1 := (Zd7 n0 n1).len2;have h2 := T0.k1.2.1;have h3 := T0.k2.2.1;rw [<- ewr];cases o with
    | none => simp [Zqi]; omega
    | some am =>
     obtain ⟨a, m⟩ := am;obtain ⟨a0, a1⟩ := ha a m rfl;have h4 := (Zd7 a0 a1).len2;have h5 := (Zcl m).1;simp [Zqi]; omega
   refine Zap fun N hN => ?_
   walk_at "rd";refine ⟨.inl ⟨rfl, _, SqL.of gl2⟩, Zan (by decide), fun p2 G2 hp2 s2 g2 => ?_⟩;refine ⟨_, (hT G2 (sG.trans s2)).f4, .inr ⟨k, rfl, _, SqL.of g2, V.str (Zcm k "!"), Zmq k, _, s2 _ _ gl2, Zlc (by rw [List.length_map]; omega), fun G3 b3 g3 => hN _ _ ?_⟩⟩;clear hN N;have s3 : Same H G3 := fun c o e => b3 c o (s2 c o (sG c o e)) (Za0 e hl2)
   have g3' : G3 l2 = some (.lst ((wr ++ [Zcm k "!"]).map V.str)) := by rw [g3, List.map_append]; rfl
   have T3 := hT G3 s3;walk_at "rd";refine ⟨rfl, rfl, _, T3.f5, b, rfl, ⟨_, SqL.of T3.bd⟩, ?_⟩;obtain ⟨Pv, ePv⟩ : ∃ Pv : Nat -> List V -> L2.St -> Hp -> Prop, Pv = fun i ys σ' G => ∃ v : Option V, σ' = [v] /\ ys = ((ns.take i).map Zfn).map V.str /\ G = G3 := ⟨_, rfl⟩
   refine Zgx (xs := ns.map V.int) Pv (by rw [ePv]; exact ⟨none, rfl, rfl, rfl⟩) ?_ (Zan (by rw [List.length_map]; have := T3.l; omega)) ?_ ?_ <;> rw [ePv]
   ·rintro i ys σ' G ⟨v, rfl, rfl, rfl⟩ _;refine ⟨SqL.of T3.bd, ?_⟩;rw [List.length_map, List.length_map, List.length_take]; omega
   ·rintro i x ys σ' G hx ⟨v, rfl, rfl, rfl⟩;rw [<- ePv];rw [List.getElem?_map] at hx;obtain ⟨n, hn, rfl⟩ := Option.map_eq_some_iff.mp hx;have hb' := T3.by' n (List.mem_of_getElem? hn)
    walk_at "rd";refine ⟨n, rfl, hb'.1, hb'.2, ?_⟩;rw [ePv];exact ⟨_, rfl, by rw [List.take_succ, hn, List.map_append, List.map_append]; rfl, rfl⟩
   ·rintro ys σ' G ⟨v, rfl, rfl, rfl⟩ p4 G4 h4 s4 g4;rw [List.length_map, List.take_length] at g4;have hl := T3.l;refine ⟨p4, rfl, ns.map Zfn, SqL.of g4, ?_, ?_⟩
    ·have e := Zf8 ns;rw [List.length_map, show (Str.ofString "").length = 0 by decide +kernel]; omega
    refine ⟨Zan (by decide), fun p5 G5 h5 s5 g5 => ⟨_, s5 _ _ (s4 _ _ g3'), _, g5, Zan (by rw [List.length_map, List.length_append]; simp; omega), fun p6 G6 h6 s6 g6 => ?_⟩⟩;refine ⟨(wr ++ [Zcm k "!"]) ++ [bytesT ns], SqL.of (by rw [g6, List.map_append, List.map_append, List.map_append]; rfl), ?_, ?_⟩
    ·have e1 := Zc4 ns;have e2 := (Zcl k).2;rw [show (Str.ofString " ").length = 1 by decide +kernel];simp only [List.map_append, List.sum_append, List.length_append, List.map_cons, List.map_nil, List.sum_cons, List.sum_nil, List.length_cons, List.length_nil];omega
    ·have := q G6 (s3.trans ((s4.trans s5).trans s6));unfold dueW at this;rw [ewr] at this;exact this
def Zd1 : Sp := fun vs H Q _ => ∃ z : Str, vs = [.str z] /\ z.length <= 50000 /\ (Txt.split z " ").length ≠ 5 /\ ∀ G, Same H G -> Q (.bl true) G
abbrev Zca : Stmt := top 58
theorem Zd4 : Zaq ["_law_text", "_law_good"] ["_law_text"] (defScope Zca) := ⟨rfl, rfl, rfl, by decide +kernel, rfl, by decide +kernel, by decide +kernel⟩
theorem Zih {f CL NT : Addr} {fd : FuncData} (F : Fun K "_law_no_letter" "_law_no_letter" Zca f fd) (gC_NoText : mg "NoText" = some (.ref NT)) (W_NoText : Zq4 K NT) (mro : PySem.W.mroIn K NT (.ref NT) = some true) (F_read_letter : FnX P w K mg base "read_letter" 8 ["text"] [] (Zcj CL NT)) : FnOk P w K mg base CX0 9 f fd ["_law_text"] Zd1 := by
 refine F.ok Zd4 (fun vs H Q E h => ?_) (fun cdv A outer s H vs Q E hr h => ?_)
 ·obtain ⟨z, rfl, _⟩ := h; rfl
 ·obtain ⟨z, rfl, hz, h5, q⟩ := h;refine ⟨_, (Zad (Zas (i := 1) (Zd4).nd rfl (Or.inl rfl) Zdj) (Zad (Zgr (i := 0) F_read_letter rfl rfl (hr.mono (by decide)) rfl rfl (Or.inl rfl) rfl gC_NoText W_NoText (fun _ => (Zai (Zas (i := 1) (Zd4).nd rfl (Or.inl rfl) Zdj)))) (Zai (Zar (pv 1))))), ?_⟩;refine Zap fun N hN => ?_
  walk_at "rd";refine hN _ _ ?_;clear hN N;refine Zap fun N hN => ?_
  walk_at "rd";refine ⟨fun c _ H' => c = .ref NT /\ Same H H', ⟨z, rfl, hz, fun _ G s => ⟨rfl, s⟩, fun h => absurd h h5⟩, ?_⟩;rintro C H' ⟨e, s1⟩;cases e;refine ⟨mro, fun G s2 => hN _ _ ?_⟩;walk_at "rd";exact q G (s1.trans s2)
def Zec : Sp := fun vs H Q _ => ∃ z : Str, vs = [.str z] /\ z.length <= 50000 /\ (Txt.split z " ").length ≠ 7 /\ ∀ G, Same H G -> Q (.bl true) G
abbrev Zcy : Stmt := top 59
theorem Zeg : Zaq ["_law_text", "_law_good"] ["_law_text"] (defScope Zcy) := ⟨rfl, rfl, rfl, by decide +kernel, rfl, by decide +kernel, by decide +kernel⟩
theorem Zi9 {f CP NT : Addr} {fd : FuncData} (F : Fun K "_law_no_piece" "_law_no_piece" Zcy f fd) (gC_NoText : mg "NoText" = some (.ref NT)) (W_NoText : Zq4 K NT) (mro : PySem.W.mroIn K NT (.ref NT) = some true) (F_read_piece : FnX P w K mg base "read_piece" 8 ["text"] [] (Zct CP NT)) : FnOk P w K mg base CX0 9 f fd ["_law_text"] Zec := by
 refine F.ok Zeg (fun vs H Q E h => ?_) (fun cdv A outer s H vs Q E hr h => ?_)
 ·obtain ⟨z, rfl, _⟩ := h; rfl
 ·obtain ⟨z, rfl, hz, h5, q⟩ := h;refine ⟨_, (Zad (Zas (i := 1) (Zeg).nd rfl (Or.inl rfl) Zdj) (Zad (Zgr (i := 0) F_read_piece rfl rfl (hr.mono (by decide)) rfl rfl (Or.inl rfl) rfl gC_NoText W_NoText (fun _ => (Zai (Zas (i := 1) (Zeg).nd rfl (Or.inl rfl) Zdj)))) (Zai (Zar (pv 1))))), ?_⟩;refine Zap fun N hN => ?_
  walk_at "rd";refine hN _ _ ?_;clear hN N;refine Zap fun N hN => ?_
  walk_at "rd";refine ⟨fun c _ H' => c = .ref NT /\ Same H H', ⟨z, rfl, hz, fun _ G s => ⟨rfl, s⟩, fun h => absurd h h5⟩, ?_⟩;rintro C H' ⟨e, s1⟩;cases e;refine ⟨mro, fun G s2 => hN _ _ ?_⟩;walk_at "rd";exact q G (s1.trans s2)
end
section
variable {P : Program} {w : World} {K : PySem.W.Frag} {mg : Str -> Option Value} {base : Heap}
theorem Zkz (d : PD) : Txt.join " " (dueW d.nu d.z1 d.z2 (some (d.at', d.mo)) d.k d.ns) = textP d := rfl
theorem Zk0 (d : LD) : Txt.join " " (dueW d.nu d.z1 d.z2 none d.k d.ns) = textL d := rfl
theorem Ztm {CP p b : Addr} {H : Hp} {d : PD} (LP : Zkb K CP) (h : PieO CP H p b d) : OneT K H p b d.nu d.z1 d.z2 d.k d.ns := ⟨Zma LP h, Zl9 LP h, Zo1 LP h, Zfg LP h, Zf5 LP h, h.bd, h.ok.n0, by have := h.ok.n1; omega, h.ok.k1, h.ok.k2, h.ok.l2, h.ok.by'⟩
theorem Ztn {CL p b : Addr} {H : Hp} {d : LD} (L : Zkw K CL) (h : LetO CL H p b d) : OneT K H p b d.nu d.z1 d.z2 d.k d.ns := ⟨Zmd L h, Zmc L h, Zo2 L h, Zfh L h, Zf6 L h, h.bd, h.ok.n0, by have := h.ok.n1; omega, h.ok.k1, h.ok.k2, h.ok.l2, h.ok.by'⟩
theorem Zh5 {d : PD} (h : d.Ok) : (textP d).length <= 50000 := by
 have n1 : d.nu < 10 ^ 10 := by have := h.n1; omega
 have a1 : d.at' < 10 ^ 10 := by have := h.bds'; omega
 have h1 := (Zd7 h.n0 n1).len2;have h2 := (Zd7 h.a0 a1).len2;have h3 := h.k1.2.1;have h4 := h.k2.2.1;have h5 := (Zcl d.mo).1;have h6 := (Zcl d.k).2;have h7 := Zc4 d.ns;have h8 := h.l2;rw [Zd0] at *;unfold textP Zfq;rw [Za9];simp only [jnC, List.length_append];rw [show (" " : Str).cps.toList.length = 1 by decide +kernel];omega
theorem Zh6 {d : LD} (h : d.Ok) : (textL d).length <= 50000 := by
 have n1 : d.nu < 10 ^ 10 := by have := h.n1; omega
 have h1 := (Zd7 h.n0 n1).len2;have h3 := h.k1.2.1;have h4 := h.k2.2.1;have h6 := (Zcl d.k).2;have h7 := Zc4 d.ns;have h8 := h.l2;rw [Zd0] at *;unfold textL Zfr;rw [Za9];simp only [jnC, List.length_append];rw [show (" " : Str).cps.toList.length = 1 by decide +kernel];omega
theorem Zj6 (ns : List Int) : PyData.canLayAll0 (ns.map PyData.int) = true /\ PyData.depthAll (ns.map PyData.int) <= 2 := by
 induction ns with
 | nil => exact ⟨rfl, by simp [PyData.depthAll]⟩
 | cons n r ih => exact ⟨by simp [PyData.canLayAll0, PyData.canLay0, ih.1], by have := ih.2; simp [PyData.depthAll, PyData.depth]; omega⟩
abbrev p5D (d : PD) : PyData := .tuple [Zo9 d.nu d.z1 d.z2, .int d.at', .list (d.ns.map PyData.int), .bool d.mo, .bool d.k]
abbrev l3D (d : LD) : PyData := .tuple [Zo9 d.nu d.z1 d.z2, .list (d.ns.map PyData.int), .bool d.k]
theorem Zoo {H : Hp} {t kt b : Addr} {d : PD} (h : H t = some (.tup [.ref kt, .int d.at', .ref b, .bl d.mo, .bl d.k])) (hk : H kt = some (.tup [.int d.nu, .str d.z1, .str d.z2])) (hb : H b = some (.lst (d.ns.map V.int))) : Dp K H (.ref t) (p5D d) :=
 .tup (SqT.of h) (.cons (Zgv hk) (.cons (.int _) (.cons (Zfj hb) (.cons (.bl _) (.cons (.bl _) .nil)))))
theorem Zou {H : Hp} {t kt b : Addr} {d : LD} (h : H t = some (.tup [.ref kt, .ref b, .bl d.k])) (hk : H kt = some (.tup [.int d.nu, .str d.z1, .str d.z2])) (hb : H b = some (.lst (d.ns.map V.int))) : Dp K H (.ref t) (l3D d) :=
 .tup (SqT.of h) (.cons (Zgv hk) (.cons (Zfj hb) (.cons (.bl _) .nil)))
theorem Zes {d : PD} (h : d.Ok) : SeqAt.shaped (p5D d) = true := by
 have h1 := Zj6 d.ns;have h2 := h1.2;simp [SeqAt.shaped, PyData.canLay0, PyData.canLayAll0, PyData.depth, PyData.depthAll, h.k1.ok, h.k2.ok, h1.1]; omega
theorem Zew {d : LD} (h : d.Ok) : SeqAt.shaped (l3D d) = true := by
 have h1 := Zj6 d.ns;have h2 := h1.2;simp [SeqAt.shaped, PyData.canLay0, PyData.canLayAll0, PyData.depth, PyData.depthAll, h.k1.ok, h.k2.ok, h1.1]; omega
theorem Znu (d : PD) : PyData.eqv (p5D d) (p5D d) = true := by
 have := Zj9 d.ns;simp only [PyData.eqv] at this;simp [PyData.eqv, PyData.eqvAll, this]
theorem Znv (d : LD) : PyData.eqv (l3D d) (l3D d) = true := by
 have := Zj9 d.ns;simp only [PyData.eqv] at this;simp [PyData.eqv, PyData.eqvAll, this]
def Zdg (CP : Addr) : Sp := fun vs H Q _ => ∃ (p b : Addr) (d : PD), vs = [.ref p] /\ PieO CP H p b d /\ ∀ G, Same H G -> Q (.bl true) G
abbrev Zbw : Stmt := top 60
theorem Zck : Zaq ["_law_piece_here", "_law_kept", "_law_text", "_law_found"] ["_law_piece_here"] (defScope Zbw) := ⟨rfl, rfl, rfl, by decide +kernel, rfl, by decide +kernel, by decide +kernel⟩
theorem Zgk {f CP NT : Addr} {fd : FuncData} (F : Fun K "_law_piece_right" "_law_piece_right" Zbw f fd) (B : Bt mg) (LP : Zkb K CP) (gC_Piece : mg "Piece" = some (.ref CP)) (ic_Piece : Zpb K CP) (F_shown : FnB P w K mg base "shown" 2 ["piece"] [] (Zg5 CP)) (F_due : FnB P w K mg base "_law_due" 2 ["_law_one", "_law_at", "_law_more"] [] (Zjq K)) (F_read_piece : FnX P w K mg base "read_piece" 8 ["text"] [] (Zct CP NT)) (F_no_letter : FnB P w K mg base "_law_no_letter" 9 ["_law_text"] [] Zd1)
  (F_Piece_key : MtB P w K mg base CP "key" 1 ["self"] [] (Zg7 CP)) (F_Piece_is_like : MtB P w K mg base CP "is_like" 2 ["self", "other"] [] (Zh7 CP)) : FnOk P w K mg base CX0 10 f fd ["_law_piece_here"] (Zdg CP) := by
 have cl_Piece := LP.cl;refine F.ok Zck (fun vs H Q E h => ?_) (fun cdv A outer s H vs Q E hr h => ?_)
 ·obtain ⟨p, b, d, rfl, _⟩ := h; rfl
 ·obtain ⟨p, b, d, rfl, hO, q⟩ := h;refine ⟨_, (@Zad _ _ _ _ _ (@Zas _ _ 1 _ _ _ _ (Zck).nd rfl (Or.inl rfl) (@Zek _ _ _ _ _ (@Zaa _ _ _ _ _ (Zcn (pv 0) F_Piece_key (hr.mono (by decide))) (@Zaa _ _ _ _ _ (Zat (K := K) rfl (pv 0) rfl) (@Zaa _ _ _ _ _ (Zbr (Zgy (K := K) rfl) rfl B.blist (by rfl) (@Zaa _ _ _ _ _ (Zat (K := K) rfl (pv 0) rfl) Zac Zaf)) (@Zaa _ _ _ _ _ (Zat (K := K) rfl (pv 0) rfl) (@Zaa _ _ _ _ _ (Zat (K := K) rfl (pv 0) rfl) Zac Zaf) Zaf) Zav) Zaf) Zav)) (by rfl) (Or.inl rfl)) (@Zad _ _ _ _ _ (@Zas _ _ 2 _ _ _ _ (Zck).nd rfl (Or.inl rfl) (Zag F_shown (hr.mono (by decide)) rfl (@Zaa _ _ _ _ _ (pv 0) Zac Zab)) (by rfl) (Or.inl rfl)) (@Zad _ _ _ _ _ (Zb6 (Zbm Zif (pv 2) (Zag F_due (hr.mono (by decide)) rfl (@Zaa _ _ _ _ _ (pv 0) (@Zaa _ _ _ _ _ (Zat (K := K) rfl (pv 0) rfl) (@Zaa _ _ _ _ _ (Zat (K := K) rfl (pv 0) rfl) Zac Zaf) Zaf) Zab)) (Za3 _)) (@Zai _ _ _ (@Zar _ _ _ _ Zdj)) Zaz) (@Zad _ _ _ _ _ (@Zas _ _ 3 _ _ _ _ (Zck).nd rfl (Or.inl rfl) (Zfp F_read_piece (hr.mono (by decide)) rfl Zlq (@Zaa _ _ _ _ _ (pv 2) Zac Zab)) (by rfl) (Or.inl rfl)) (@Zad _ _ _ _ _ (Zb6 (PW.pt (Zej (Zbj (Zbi (Zau (Zir (K := K) rfl cl_Piece ic_Piece) rfl B.isinstance (by rfl) (@Zaa _ _ _ _ _ (pv 3) (@Zaa _ _ _ _ _ (Zhk (v := .ref CP) rfl gC_Piece rfl) Zac Zab) Zab)))) (Zej (Zbj (Zbi (Zhj (pv 3) F_Piece_is_like (hr.mono (by decide)) (@Zaa _ _ _ _ _ (pv 0) Zac Zab)))) (Zd6 (Zbj (Zbi (Zhj (pv 0) F_Piece_is_like (hr.mono (by decide)) (@Zaa _ _ _ _ _ (pv 3) Zac Zab)))))))) (@Zai _ _ _ (@Zar _ _ _ _ Zdj)) Zaz) (@Zad _ _ _ _ _ (Zb6 (PW.pt (Zej (Zbm (Zhm (K := K) (Room.units hr) rfl) (@Zek _ _ _ _ _ (@Zaa _ _ _ _ _ (Zcn (pv 3) F_Piece_key (hr.mono (by decide))) (@Zaa _ _ _ _ _ (Zat (K := K) rfl (pv 3) rfl) (@Zaa _ _ _ _ _ (Zat (K := K) rfl (pv 3) rfl) (@Zaa _ _ _ _ _ (Zat (K := K) rfl (pv 3) rfl) (@Zaa _ _ _ _ _ (Zat (K := K) rfl (pv 3) rfl) Zac Zaf) Zaf) Zaf) Zaf) Zav)) (pv 1) (Za3 _)) (Zd6 (Zbm Zif (Zag F_shown (hr.mono (by decide)) rfl (@Zaa _ _ _ _ _ (pv 3) Zac Zab)) (pv 2) (Za3 _))))) (@Zai _ _ _ (@Zar _ _ _ _ Zdj)) Zaz) (@Zad _ _ _ _ _ (Zb6 (PW.pt (Zej (Zbj (Zbi (Zau (Zb5 "bool") rfl B.isinstance (by rfl) (@Zaa _ _ _ _ _ (Zat (K := K) rfl (pv 3) rfl) (@Zaa _ _ _ _ _ (Zdw (v := .ty "bool") rfl B.bbool (by rfl) rfl) Zac Zab) Zaf)))) (Zd6 (Zbj (Zbi (Zau (Zb5 "bool") rfl B.isinstance (by rfl) (@Zaa _ _ _ _ _ (Zat (K := K) rfl (pv 3) rfl) (@Zaa _ _ _ _ _ (Zdw (v := .ty "bool") rfl B.bbool (by rfl) rfl) Zac Zab) Zaf))))))) (@Zai _ _ _ (@Zar _ _ _ _ Zdj)) Zaz) (@Zad _ _ _ _ _ (Zb6 (Zbj (Zbi (Zag F_no_letter (hr.mono (by decide)) rfl (@Zaa _ _ _ _ _ (pv 2) Zac Zab)))) (@Zai _ _ _ (@Zar _ _ _ _ Zdj)) Zaz) (@Zai _ _ _ (@Zar _ _ _ _ (Zbo (Zho (K := K) (Room.units hr) rfl) (@Zek _ _ _ _ _ (@Zaa _ _ _ _ _ (Zcn (pv 0) F_Piece_key (hr.mono (by decide))) (@Zaa _ _ _ _ _ (Zat (K := K) rfl (pv 0) rfl) (@Zaa _ _ _ _ _ (Zat (K := K) rfl (pv 0) rfl) (@Zaa _ _ _ _ _ (Zat (K := K) rfl (pv 0) rfl) (@Zaa _ _ _ _ _ (Zat (K := K) rfl (pv 0) rfl) Zac Zaf) Zaf) Zaf) Zaf) Zav)) (pv 1) (Za3 _)))))))))))), ?_⟩;refine Zap fun N hN => ?_
  walk_at "rd";refine ⟨Zj1 hO, p, b, d, rfl, hO, fun kt G1 hkt s1 g1 => ⟨_, Zmb LP (hO.mono s1), _, Zf5 LP (hO.mono s1), b, rfl, _, .inl (SqL.of (hO.mono s1).bd), fun lb G2 hlb s2 g2 => ?_⟩⟩;have s12 := s1.trans s2;refine ⟨_, Zff LP (hO.mono s12), _, Zfg LP (hO.mono s12), Zan (by decide), fun tk G3 htk s3 g3 => hN _ _ ?_⟩;clear hN N;have s13 := s12.trans s3;have hK : ∀ G, Same G3 G -> Dp K G (.ref tk) (p5D d) := fun G s => Zoo (s _ _ g3) (s _ _ (s3 _ _ (s2 _ _ g1))) (s _ _ (s3 _ _ g2))
  have hO3 := hO.mono s13;clear s1 s2 s3 s12 g1 g2 g3 hkt hlb htk;refine Zap fun N hN => ?_
  walk_at "rd";refine ⟨p, b, d, rfl, hO3, fun G4 s4 => hN _ _ ?_⟩;clear hN N;refine Zap fun N hN => ?_
  walk_at "rd";have hO4 := hO3.mono s4;refine ⟨_, Zmb LP hO4, _, Zff LP hO4, p, b, d.nu, d.z1, d.z2, d.k, d.ns, some (d.at', d.mo), rfl, fun G s => Ztm LP (hO4.mono s), ?_, fun G5 s5 => ?_⟩
  ·rintro a m e;cases e;have := hO.ok.bds';exact ⟨this.1, by omega⟩
  rw [Zkz];refine ⟨rfl, ?_⟩;rw [if_neg (by simp)];refine hN _ _ ?_;clear hN N;have s35 := s4.trans s5;have hO5 := hO3.mono s35;refine Zap fun N hN => ?_
  walk_at "rd";refine ⟨textP d, rfl, Zh5 hO.ok, fun h => absurd (by rw [Zk8 hO.ok]; rfl) h, fun _ => ⟨d, hO.ok, rfl, fun p2 b2 G6 hp2 hb2 s6 hO2 => hN _ _ ?_⟩⟩;clear hN N;have s36 := s35.trans s6;have hO6 := hO3.mono s36;refine Zap fun N hN => ?_
  walk_at "rd";obtain ⟨dx, fs, e1⟩ := hO2.ins;refine ⟨dx, fs, e1, Zlx hO2, p2, b2, p, b, d, d, rfl, hO2, hO6, fun G7 s7 => ⟨_, rfl, ?_⟩⟩;rw [decide_eq_true rfl, if_neg (by simp)];refine ⟨Zlx (hO6.mono s7), p, b, p2, b2, d, d, rfl, hO6.mono s7, hO2.mono s7, fun G8 s8 => ⟨_, rfl, ?_⟩⟩;rw [decide_eq_true rfl, if_neg (by simp)];refine hN _ _ ?_;clear hN N;have s68 := s7.trans s8;have hQ := hO2.mono s68;have s38 := s36.trans s68;refine Zap fun N hN => ?_
  walk_at "rd";refine ⟨Zj1 hQ, p2, b2, d, rfl, hQ, fun kt G9 hkt s9 g9 => ?_⟩;have hQ9 := hQ.mono s9;refine ⟨_, Zmb LP hQ9, _, Zf5 LP hQ9, _, Zff LP hQ9, _, Zfg LP hQ9, Zan (by decide), fun t2 Ga ht2 sa ga => ?_⟩;have s9a := s9.trans sa;refine ⟨_, _, Zoo ga (sa _ _ g9) (hQ9.mono sa).bd, hK _ (s38.trans s9a), Zes hO.ok, Zes hO.ok, ?_⟩;rw [Znu];refine ⟨_, rfl, ?_⟩;rw [if_neg (by simp)];refine ⟨p2, b2, d, rfl, hQ9.mono sa, fun Gb sb => ⟨rfl, ?_⟩⟩;rw [if_neg (by simp)];refine hN _ _ ?_;clear hN N;have s8b := s9a.trans sb;have hQb := hQ.mono s8b;have s3b := s38.trans s8b;refine Zap fun N hN => ?_
  walk_at "rd";refine ⟨_, Zff LP hQb, _, rfl, ?_⟩;rw [if_neg (by decide)];refine ⟨_, Zfg LP hQb, _, rfl, ?_⟩;rw [if_neg (by decide)];refine hN _ _ ?_;clear hN N;refine Zap fun N hN => ?_
  walk_at "rd";refine ⟨textP d, rfl, Zh5 hO.ok, by rw [Zk8 hO.ok]; simp [Zfq], fun Gc sc => ⟨_, rfl, ?_⟩⟩;rw [if_neg (by simp)];refine hN _ _ ?_;clear hN N;have s3c := s3b.trans sc;have hOc := hO3.mono s3c;walk_at "rd";refine ⟨Zj1 hOc, p, b, d, rfl, hOc, fun kd Gd hkd sd gd => ?_⟩;have hOd := hOc.mono sd;refine ⟨_, Zmb LP hOd, _, Zf5 LP hOd, _, Zff LP hOd, _, Zfg LP hOd, Zan (by decide), fun t3 Ge ht3 se ge => ?_⟩;refine ⟨_, _, Zoo ge (se _ _ gd) (hOd.mono se).bd, hK _ (s3c.trans (sd.trans se)), Zes hO.ok, Zes hO.ok, ?_⟩;rw [Znu];exact q _ (s13.trans (s3c.trans (sd.trans se)))
def Zc6 (CL : Addr) : Sp := fun vs H Q _ => ∃ (p b : Addr) (d : LD), vs = [.ref p] /\ LetO CL H p b d /\ ∀ G, Same H G -> Q (.bl true) G
abbrev Zbl : Stmt := top 61
theorem Zb3 : Zaq ["_law_letter_here", "_law_kept", "_law_text", "_law_found"] ["_law_letter_here"] (defScope Zbl) := ⟨rfl, rfl, rfl, by decide +kernel, rfl, by decide +kernel, by decide +kernel⟩
theorem Zf1 {f CL NT : Addr} {fd : FuncData} (F : Fun K "_law_letter_right" "_law_letter_right" Zbl f fd) (B : Bt mg) (L : Zkw K CL) (gC_Letter : mg "Letter" = some (.ref CL)) (ic_Letter : Zpb K CL) (F_shown_letter : FnB P w K mg base "shown_letter" 2 ["letter"] [] (Zc5 CL)) (F_due : FnB P w K mg base "_law_due" 2 ["_law_one", "_law_at", "_law_more"] [] (Zjq K)) (F_read_letter : FnX P w K mg base "read_letter" 8 ["text"] [] (Zcj CL NT)) (F_no_piece : FnB P w K mg base "_law_no_piece" 9 ["_law_text"] [] Zec)
  (F_Letter_key : MtB P w K mg base CL "key" 1 ["self"] [] (Zg8 CL)) (F_Letter_is_like : MtB P w K mg base CL "is_like" 2 ["self", "other"] [] (Zh8 CL)) : FnOk P w K mg base CX0 10 f fd ["_law_letter_here"] (Zc6 CL) := by
 have cl_Letter := L.cl;refine F.ok Zb3 (fun vs H Q E h => ?_) (fun cdv A outer s H vs Q E hr h => ?_)
 ·obtain ⟨p, b, d, rfl, _⟩ := h; rfl
 ·obtain ⟨p, b, d, rfl, hO, q⟩ := h;refine ⟨_, (@Zad _ _ _ _ _ (@Zas _ _ 1 _ _ _ _ (Zb3).nd rfl (Or.inl rfl) (@Zek _ _ _ _ _ (@Zaa _ _ _ _ _ (Zcn (pv 0) F_Letter_key (hr.mono (by decide))) (@Zaa _ _ _ _ _ (Zbr (Zgy (K := K) rfl) rfl B.blist (by rfl) (@Zaa _ _ _ _ _ (Zat (K := K) rfl (pv 0) rfl) Zac Zaf)) (@Zaa _ _ _ _ _ (Zat (K := K) rfl (pv 0) rfl) Zac Zaf) Zav) Zav)) (by rfl) (Or.inl rfl)) (@Zad _ _ _ _ _ (@Zas _ _ 2 _ _ _ _ (Zb3).nd rfl (Or.inl rfl) (Zag F_shown_letter (hr.mono (by decide)) rfl (@Zaa _ _ _ _ _ (pv 0) Zac Zab)) (by rfl) (Or.inl rfl)) (@Zad _ _ _ _ _ (Zb6 (Zbm Zif (pv 2) (Zag F_due (hr.mono (by decide)) rfl (@Zaa _ _ _ _ _ (pv 0) (@Zaa _ _ _ _ _ (@Zlo _ _ _) (@Zaa _ _ _ _ _ (@Zlo _ _ _) Zac Zae) Zae) Zab)) (Za3 _)) (@Zai _ _ _ (@Zar _ _ _ _ Zdj)) Zaz) (@Zad _ _ _ _ _ (@Zas _ _ 3 _ _ _ _ (Zb3).nd rfl (Or.inl rfl) (Zfp F_read_letter (hr.mono (by decide)) rfl Zlq (@Zaa _ _ _ _ _ (pv 2) Zac Zab)) (by rfl) (Or.inl rfl)) (@Zad _ _ _ _ _ (Zb6 (PW.pt (Zej (Zbj (Zbi (Zau (Zir (K := K) rfl cl_Letter ic_Letter) rfl B.isinstance (by rfl) (@Zaa _ _ _ _ _ (pv 3) (@Zaa _ _ _ _ _ (Zhk (v := .ref CL) rfl gC_Letter rfl) Zac Zab) Zab)))) (Zej (Zbj (Zbi (Zhj (pv 3) F_Letter_is_like (hr.mono (by decide)) (@Zaa _ _ _ _ _ (pv 0) Zac Zab)))) (Zd6 (Zbj (Zbi (Zau (Zb5 "bool") rfl B.isinstance (by rfl) (@Zaa _ _ _ _ _ (Zat (K := K) rfl (pv 3) rfl) (@Zaa _ _ _ _ _ (Zdw (v := .ty "bool") rfl B.bbool (by rfl) rfl) Zac Zab) Zaf)))))))) (@Zai _ _ _ (@Zar _ _ _ _ Zdj)) Zaz) (@Zad _ _ _ _ _ (Zb6 (PW.pt (Zej (Zbm (Zhm (K := K) (Room.units hr) rfl) (@Zek _ _ _ _ _ (@Zaa _ _ _ _ _ (Zcn (pv 3) F_Letter_key (hr.mono (by decide))) (@Zaa _ _ _ _ _ (Zat (K := K) rfl (pv 3) rfl) (@Zaa _ _ _ _ _ (Zat (K := K) rfl (pv 3) rfl) Zac Zaf) Zaf) Zav)) (pv 1) (Za3 _)) (Zd6 (Zbm Zif (Zag F_shown_letter (hr.mono (by decide)) rfl (@Zaa _ _ _ _ _ (pv 3) Zac Zab)) (pv 2) (Za3 _))))) (@Zai _ _ _ (@Zar _ _ _ _ Zdj)) Zaz) (@Zad _ _ _ _ _ (Zb6 (Zbj (Zbi (Zag F_no_piece (hr.mono (by decide)) rfl (@Zaa _ _ _ _ _ (pv 2) Zac Zab)))) (@Zai _ _ _ (@Zar _ _ _ _ Zdj)) Zaz) (@Zai _ _ _ (@Zar _ _ _ _ (Zbo (Zho (K := K) (Room.units hr) rfl) (@Zek _ _ _ _ _ (@Zaa _ _ _ _ _ (Zcn (pv 0) F_Letter_key (hr.mono (by decide))) (@Zaa _ _ _ _ _ (Zat (K := K) rfl (pv 0) rfl) (@Zaa _ _ _ _ _ (Zat (K := K) rfl (pv 0) rfl) Zac Zaf) Zaf) Zav)) (pv 1) (Za3 _))))))))))), ?_⟩;refine Zap fun N hN => ?_
  walk_at "rd";refine ⟨Zj2 hO, p, b, d, rfl, hO, fun kt G1 hkt s1 g1 => ⟨_, Zf6 L (hO.mono s1), b, rfl, _, .inl (SqL.of (hO.mono s1).bd), fun lb G2 hlb s2 g2 => ?_⟩⟩;have s12 := s1.trans s2;refine ⟨_, Zfh L (hO.mono s12), Zan (by decide), fun tk G3 htk s3 g3 => hN _ _ ?_⟩;clear hN N;have s13 := s12.trans s3;have hK : ∀ G, Same G3 G -> Dp K G (.ref tk) (l3D d) := fun G s => Zou (s _ _ g3) (s _ _ (s3 _ _ (s2 _ _ g1))) (s _ _ (s3 _ _ g2))
  have hO3 := hO.mono s13;clear s1 s2 s3 s12 g1 g2 g3 hkt hlb htk;refine Zap fun N hN => ?_
  walk_at "rd";refine ⟨p, b, d, rfl, hO3, fun G4 s4 => hN _ _ ?_⟩;clear hN N;refine Zap fun N hN => ?_
  walk_at "rd";have hO4 := hO3.mono s4;refine ⟨p, b, d.nu, d.z1, d.z2, d.k, d.ns, none, rfl, fun G s => Ztn L (hO4.mono s), fun a m e => (by cases e), fun G5 s5 => ?_⟩;rw [Zk0];refine ⟨rfl, ?_⟩;rw [if_neg (by simp)];refine hN _ _ ?_;clear hN N;have s35 := s4.trans s5;have hO5 := hO3.mono s35;refine Zap fun N hN => ?_
  walk_at "rd";refine ⟨textL d, rfl, Zh6 hO.ok, fun h => absurd (by rw [Zk9 hO.ok]; rfl) h, fun _ => ⟨d, hO.ok, rfl, fun p2 b2 G6 hp2 hb2 s6 hO2 => hN _ _ ?_⟩⟩;clear hN N;have s36 := s35.trans s6;have hO6 := hO3.mono s36;refine Zap fun N hN => ?_
  walk_at "rd";obtain ⟨dx, fs, e1⟩ := hO2.ins;refine ⟨dx, fs, e1, Zot hO2, p2, b2, p, b, d, d, rfl, hO2, hO6, fun G7 s7 => ⟨_, rfl, ?_⟩⟩;rw [decide_eq_true rfl, if_neg (by simp)];refine ⟨_, Zfh L (hO2.mono s7), _, rfl, ?_⟩;rw [if_neg (by decide)];refine hN _ _ ?_;clear hN N;have hQ := hO2.mono s7;have s38 := s36.trans s7;refine Zap fun N hN => ?_
  walk_at "rd";refine ⟨Zj2 hQ, p2, b2, d, rfl, hQ, fun kt G9 hkt s9 g9 => ?_⟩;have hQ9 := hQ.mono s9;refine ⟨_, Zf6 L hQ9, _, Zfh L hQ9, Zan (by decide), fun t2 Ga ht2 sa ga => ?_⟩;have s9a := s9.trans sa;refine ⟨_, _, Zou ga (sa _ _ g9) (hQ9.mono sa).bd, hK _ (s38.trans s9a), Zew hO.ok, Zew hO.ok, ?_⟩;rw [Znv];refine ⟨_, rfl, ?_⟩;rw [if_neg (by simp)];refine ⟨p2, b2, d, rfl, hQ9.mono sa, fun Gb sb => ⟨rfl, ?_⟩⟩;rw [if_neg (by simp)];refine hN _ _ ?_;clear hN N;have s8b := s9a.trans sb;have s3b := s38.trans s8b;refine Zap fun N hN => ?_
  walk_at "rd";refine ⟨textL d, rfl, Zh6 hO.ok, by rw [Zk9 hO.ok]; simp [Zfr], fun Gc sc => ⟨_, rfl, ?_⟩⟩;rw [if_neg (by simp)];refine hN _ _ ?_;clear hN N;have s3c := s3b.trans sc;have hOc := hO3.mono s3c;walk_at "rd";refine ⟨Zj2 hOc, p, b, d, rfl, hOc, fun kd Gd hkd sd gd => ?_⟩;have hOd := hOc.mono sd;refine ⟨_, Zf6 L hOd, _, Zfh L hOd, Zan (by decide), fun t3 Ge ht3 se ge => ?_⟩;refine ⟨_, _, Zou ge (se _ _ gd) (hOd.mono se).bd, hK _ (s3c.trans (sd.trans se)), Zew hO.ok, Zew hO.ok, ?_⟩;rw [Znv];exact q _ (s13.trans (s3c.trans (sd.trans se)))
end
section
variable {P : Program} {w : World} {K : PySem.W.Frag} {mg : Str -> Option Value} {base : Heap}
def Zla (C : Addr) : Sp := fun vs H Q _ => ∃ (d : PD) (b : Addr), vs = [.int d.nu, .str d.z1, .str d.z2, .int d.at', .ref b, .bl d.mo] /\ d.k = false /\ d.Ok /\ H b = some (.lst (d.ns.map V.int)) /\
 ∀ p b' G, H p = none -> H b' = none -> Same H G -> PieO C G p b' d -> Q (.ref p) G
theorem Zsi {C : Addr} (F : MkB P w K mg base "Piece" C 6 ["self", "number", "sender", "goal", "at", "body", "more", "keep"] [.bl false] (Zbs C)) : CtB P w K mg base "Piece" 6 (Zla C) := by
 refine F.ct fun vs H Q h y dx G hy hdx hn s hG => ?_
 obtain ⟨d, b, rfl, hk, ok, hb, q⟩ := h;obtain ⟨pp, gp⟩ := Ze9 (k := d.k) ok.n0 ok.n1 ok.k1 ok.k2 (s b _ hb) ok.l1 ok.l2 ok.by'
 exact ⟨y, dx, _, _, _, d.at', b, d.mo, _, _, by rw [hk]; rfl, hG, pp, gp, by simp [Zox, ok.a0, ok.a8], s b _ hb, by rw [List.length_map]; exact ok.rm, fun H' b' h0 h1 h2 hL bB => ⟨rfl, q y b' H' hy (s.free h0) (fun d o e => bB d o (s d o e) (Za0 e hy)) ⟨ok, hL, h2⟩⟩⟩
end
section
variable {P : Program} {w : World} {K : PySem.W.Frag} {mg : Str -> Option Value} {base : Heap}
theorem Zpv {H G : Hp} {a : Addr} {xs : List V} (s : Same H G) (h : SqL K H a xs) : SqL K G a xs := by
 rcases h with (h | ⟨o, h⟩) | h
 ·exact .inl (.inl (s _ _ h))
 ·exact .inl (.inr ⟨o, s _ _ h⟩)
 ·exact .inr h
theorem nm8 : NmOk "abcdefgh" /\ NmOk "z" /\ NmOk "a" /\ NmOk "zz" := ⟨by unfold NmOk; decide +kernel, by unfold NmOk; decide +kernel, by unfold NmOk; decide +kernel, by unfold NmOk; decide +kernel⟩
abbrev Zhf : Stmt := top 62
theorem Zfx : Zaq ["_law_script", "_law_k", "_law_state_here", "_law_piece_here", "_law_letter_here"] ["_law_script"] (defScope Zhf) := ⟨rfl, rfl, rfl, by decide +kernel, rfl, by decide +kernel, by decide +kernel⟩
theorem Zqn {f CP CL : Addr} {fd : FuncData} (F : Fun K "law" "law" Zhf f fd) (B : Bt mg) (F_state : FnB P w K mg base "_law_state" 1 ["_law_cell", "_law_k"] [] Zg4) (F_digit : FnB P w K mg base "_law_digit" 2 ["_law_state_here", "_law_base"] [] Zdc) (F_lawbody : FnB P w K mg base "_law_body" 3 ["_law_state_here", "_law_length"] [] Zdk) (F_lawpiece : FnB P w K mg base "_law_piece" 8 ["_law_state_here", "_law_most"] [] (Zed CP)) (F_lawletter : FnB P w K mg base "_law_letter" 8 ["_law_state_here", "_law_most"] [] (Zd2 CL))
  (F_Letter : CtB P w K mg base "Letter" 6 (Zjn CL)) (F_Piece_d1 : CtB P w K mg base "Piece" 6 (Zla CP)) (F_piece_right : FnB P w K mg base "_law_piece_right" 10 ["_law_piece_here"] [] (Zdg CP)) (F_letter_right : FnB P w K mg base "_law_letter_right" 10 ["_law_letter_here"] [] (Zc6 CL)) : FnOk P w K mg base CX0 11 f fd ["_law_script"] (Zjo K) := by
 refine F.ok Zfx (fun vs H Q E h => ?_) (fun cdv A outer s H vs Q E hr h => ?_)
 ·obtain ⟨a, ns, rfl, _⟩ := h; rfl
 ·obtain ⟨sa, sns, rfl, hS, hlen, q⟩ := h;refine ⟨_, (Zad (Zqf PassesOwn.never rfl (Zfz rfl B.range (Zaa (hs := Zav) (Zau (Zmi rfl) rfl B.min (by rfl) (Zaa (hs := Zav) (Zau (Zdo (K := K) rfl) rfl B.len (by rfl) (Zaa (hs := Zab) (pv 0) Zac)) (Zaa (hs := Zae) Zah Zac))) Zac)) (Zdi (i := 1) (Zfx).nd rfl (Or.inl rfl)) (Zad (Zas (i := 2) (Zfx).nd rfl (Or.inl rfl) (Zag F_state (hr.mono (by decide)) rfl (Zaa (hs := Zaj) (Zbb (Zay (K := K) rfl) (pv 0) (pv 1) (fun _ _ => rfl)) (Zaa (hs := Zab) (pv 1) Zac)))) (Zad (Zas (i := 3) (Zfx).nd rfl (Or.inl rfl) (Zag F_lawpiece (hr.mono (by decide)) rfl (Zaa (hs := Zab) (pv 2) (Zaa (hs := Zae) Zah Zac)))) (Zad (Zas (i := 4) (Zfx).nd rfl (Or.inl rfl) (Zag F_lawletter (hr.mono (by decide)) rfl (Zaa (hs := Zab) (pv 2) (Zaa (hs := Zae) Zah Zac)))) (Zad (Zol (Zb6 (Zbm Zfa (Za2 Zde (pv 1) Zah) Zah (Za3 _)) (Zad (Zas (i := 4) (Zfx).nd rfl (Or.inl rfl) (Zgs F_Letter (hr.mono (by decide)) rfl (Zaa (hs := Zae) Zah (Zaa (hs := Zae) Za6 (Zaa (hs := Zae) Za6 (Zaa (hs := Zav) (Zag F_lawbody (hr.mono (by decide)) rfl (Zaa (hs := Zab) (pv 2) (Zaa (hs := Zae) Zah Zac))) (Zaa (hs := Zae) Zdj Zac))))))) (Zai (Zas (i := 3) (Zfx).nd rfl (Or.inl rfl) (Zgs F_Piece_d1 (hr.mono (by decide)) rfl (Zaa (hs := Zae) Zah (Zaa (hs := Zae) Za6 (Zaa (hs := Zae) Za6 (Zaa (hs := Zda) (Za2 Zeb Zah (Zag F_digit (hr.mono (by decide)) rfl (Zaa (hs := Zab) (pv 2) (Zaa (hs := Zae) Zah Zac)))) (Zaa (hs := Zav) (Zag F_lawbody (hr.mono (by decide)) rfl (Zaa (hs := Zab) (pv 2) (Zaa (hs := Zae) Zah Zac))) (Zaa (hs := Zae) Zdj Zac)))))))))) Zaz)) (Zai (Zb6 (PW.pt (Zej (Zbj (Zbi (Zag F_piece_right (hr.mono (by decide)) rfl (Zaa (hs := Zab) (pv 3) Zac)))) (Zd6 (Zbj (Zbi (Zag F_letter_right (hr.mono (by decide)) rfl (Zaa (hs := Zab) (pv 4) Zac))))))) (Zai (Zar Zdj)) Zaz))))))) (Zai (Zar Zdj))), ?_⟩;walk_at "rd";refine ⟨_, .inl hS, ?_, ?_, ?_⟩
  ·split <;> omega
  ·rw [List.length_map]; split <;> omega
  rw [List.length_map];obtain ⟨n, en, hn⟩ : ∃ n : Nat, (if (24 : Int) < (sns.length : Int) then (24 : Int) else (sns.length : Int)).toNat = n /\ n <= sns.length := ⟨_, rfl, by split <;> omega⟩;rw [en];obtain ⟨Pv, ePv⟩ : ∃ Pv : Nat -> L2.St -> Hp -> Prop, Pv = fun i σ' G => ∃ v1 v2 v3 v4 : Option V, σ' = [some (.ref sa), v1, v2, v3, v4] /\ Same H G := ⟨_, rfl⟩
  refine Znd Pv (by rw [ePv]; exact ⟨_, _, _, _, rfl, Same.refl _⟩) ?_ ?_ <;> rw [ePv]
  ·rintro i σ' G hi ⟨v1, v2, v3, v4, rfl, sG⟩;rw [<- ePv];have e0 : (0 : Int) + (i : Int) = (i : Int) := by omega
   rw [e0];simp only [Znb, List.set_cons_zero, List.set_cons_succ];have hx : sns[i]? = some sns[i] := List.getElem?_eq_getElem (by omega);refine Zap fun N hN => ?_
   walk_at "rd";refine ⟨_, Zpv sG hS, V.int sns[i], Za1 (by rw [List.getElem?_map, hx]; rfl), _, _, rfl, fun a G1 ha s1 st1 => hN _ _ ?_⟩;clear hN N;have hHa : H a = none := sG.free ha;have k1 : Same H G1 := sG.trans s1;refine Zap fun N hN => ?_
   walk_at "rd";refine ⟨a, rfl, st1, fun p b d G2 hO nba st2 b2 => hN _ _ ?_⟩;clear hN N;have k2 : Same H G2 := k1.butNew b2 hHa;have npa : p ≠ a := fun z => by subst z; obtain ⟨dx, fs, e⟩ := hO.ins; obtain ⟨xs, e'⟩ := st2.lst; rw [e] at e'; cases e'
   refine Zap fun N hN => ?_
   walk_at "rd";refine ⟨a, rfl, st2, fun p' b' d' G3 hL st3 b3 => hN _ _ ?_⟩;clear hN N;have k3 : Same H G3 := k2.butNew b3 hHa;have hO3 : PieO CP G3 p b d := hO.but b3 npa nba;refine Zap fun N hN => ?_
   walk_at "rd";refine ⟨by decide, rfl, fun σ' G' => ∃ (p b p' b' : Addr) (d : PD) (d' : LD), σ' = [some (.ref sa), some (.int (i : Int)), some (.ref a), some (.ref p), some (.ref p')] /\ Same H G' /\ PieO CP G' p b d /\ LetO CL G' p' b' d', ?_, ?_⟩
   ·by_cases h7 : (i : Int) % 8 = 7
    ·rw [if_pos (decide_eq_true h7)];refine ⟨a, 4000, rfl, by decide, st3, fun bb bs G4 hbl hbb nbb hb4 st4 b4 => ?_⟩;have k4 : Same H G4 := k3.butNew b4 hHa;refine ⟨⟨65535, "abcdefgh", "z", bs, true⟩, bb, rfl, ⟨(show (0 : Int) <= 65535 by decide), Int.le_refl _, nm8.1, nm8.2.1, by show 1 <= bs.length; omega, by show bs.length <= 4000; omega, hbb⟩, hb4, fun pl bl G5 hpl hbl5 s5 hL5 => ?_⟩;have k5 := k4.trans s5;have npl : pl ≠ a := fun z => by subst z; obtain ⟨xs, e'⟩ := st4.lst; rw [hpl] at e'; cases e'
     have nbl : bl ≠ a := fun z => by subst z; obtain ⟨xs, e'⟩ := st4.lst; rw [hbl5] at e'; cases e'
     refine ⟨a, 2, rfl, st4.same s5, by decide, by decide, fun d6 G6 d6a d6b st6 b6 => ⟨d6, rfl, .inl ⟨by decide, by decide⟩, ?_⟩⟩;have k6 : Same H G6 := k5.butNew b6 hHa;refine ⟨a, 8, rfl, by decide, st6, fun b7 bs7 G7 hbl7 hbb7 nbb7 hb7 st7 b7' => ?_⟩;have k7 : Same H G7 := k6.butNew b7' hHa;refine ⟨⟨0, "a", "zz", 3992 * d6, bs7, false, false⟩, b7, rfl, rfl, ⟨Int.le_refl _, (show (0 : Int) <= 65535 by decide), nm8.2.2.1, nm8.2.2.2, by show 1 <= bs7.length; omega, by show bs7.length <= 4000; omega, hbb7, by show (0 : Int) <= 3992 * d6; omega, by show (3992 * d6) % 8 = 0; omega, ?_⟩, hb7, fun pp bp G8 hpp hbp s8 hP8 => ?_⟩
     ·show Zhg (3992 * d6) (bs7.length : Int) false = true;unfold Zhg;rw [if_neg (by simp), hbl7];exact decide_eq_true (by omega)
     ·have hL7 : LetO CL G7 pl bl _ := ⟨hL5.ok, hL5.ats.same (fun o e => b7' _ _ (b6 _ _ e npl) npl), b7' _ _ (b6 _ _ hL5.bd nbl) nbl⟩;exact ⟨pp, bp, pl, bl, _, _, rfl, k7.trans s8, hP8, hL7.mono s8⟩
    ·rw [if_neg (by simpa using h7)];exact ⟨p, b, p', b', d, d', rfl, k3, hO3, hL⟩
   rintro σ' G' ⟨p, b, p', b', d, d', rfl, kG, hP, hLt⟩;refine hN _ _ ?_;clear hN N;walk_at "rd";refine ⟨p, b, d, rfl, hP, fun G5 s5 => ⟨_, rfl, ?_⟩⟩;rw [if_neg (by simp)];refine ⟨p', b', d', rfl, hLt.mono s5, fun G6 s6 => ⟨_, rfl, ?_⟩⟩;rw [if_neg (by simp), ePv];exact ⟨_, _, _, _, rfl, kG.trans (s5.trans s6)⟩
  ·rintro σ' G ⟨v1, v2, v3, v4, rfl, sG⟩;walk_at "rd";exact q G
end
theorem Zji {us : List Value} {v : Value} (hl : (us ++ [v]).length = 6) : ∃ u0 u1 u2 u3 u4, us = [u0, u1, u2, u3, u4] := by
 have h5 : us.length = 5 := by rw [List.length_append] at hl; simpa using hl
 match us, h5 with
 | [_, _, _, _, _], _ => exact ⟨_, _, _, _, _, rfl⟩
theorem Zgn {K : PySem.W.Frag} {s : Shared} {T : Addr} {oT : Option Addr} {nT : Nat} {sT : Array (Option Value)} {kV dc pm cd ct : Value} {an : Option Addr} {u0 u1 u2 u3 u4 u5 : Value} (kx : K.In s.heap) (h : K.lookup T = some ⟨.type "tuple", oT, .seq #[.bool false] nT, sT⟩) :
  BindsTo s (PySem.W.fnOf "__init__" "Letter.__init__" (Zam s_Letter_init) (defBody s_Letter_init) (defScope s_Letter_init) (.ref T) kV dc pm an cd ct) ⟨[u0, u1, u2, u3, u4, u5], []⟩ ((["self", "number", "sender", "goal", "body", "keep"] : List Str).zip ([u0, u1, u2, u3, u4, u5] ++ [])) := by
 first
  | exact .of_eq rfl
  | exact .of_defaults rfl (kx _ _ h) rfl rfl rfl
theorem Zgo {K : PySem.W.Frag} {s : Shared} {T : Addr} {oT : Option Addr} {nT : Nat} {sT : Array (Option Value)} {kV dc pm cd ct : Value} {an : Option Addr} {u0 u1 u2 u3 u4 : Value} (kx : K.In s.heap) (h : K.lookup T = some ⟨.type "tuple", oT, .seq #[.bool false] nT, sT⟩) :
  BindsTo s (PySem.W.fnOf "__init__" "Letter.__init__" (Zam s_Letter_init) (defBody s_Letter_init) (defScope s_Letter_init) (.ref T) kV dc pm an cd ct) ⟨[u0, u1, u2, u3, u4], []⟩ ((["self", "number", "sender", "goal", "body", "keep"] : List Str).zip ([u0, u1, u2, u3, u4] ++ [.bool false])) := by
 exact .of_defaults rfl (kx _ _ h) rfl rfl rfl
theorem Zku {us : List Value} {v : Value} (hl : (us ++ [v]).length = 8) : ∃ u0 u1 u2 u3 u4 u5 u6, us = [u0, u1, u2, u3, u4, u5, u6] := by
 have h5 : us.length = 7 := by rw [List.length_append] at hl; simpa using hl
 match us, h5 with
 | [_, _, _, _, _, _, _], _ => exact ⟨_, _, _, _, _, _, _, rfl⟩
theorem Zh2 {K : PySem.W.Frag} {s : Shared} {T : Addr} {oT : Option Addr} {nT : Nat} {sT : Array (Option Value)} {kV dc pm cd ct : Value} {an : Option Addr} {u0 u1 u2 u3 u4 u5 u6 u7 : Value} (kx : K.In s.heap) (h : K.lookup T = some ⟨.type "tuple", oT, .seq #[.bool false] nT, sT⟩) :
  BindsTo s (PySem.W.fnOf "__init__" "Piece.__init__" (Zam s_Piece_init) (defBody s_Piece_init) (defScope s_Piece_init) (.ref T) kV dc pm an cd ct) ⟨[u0, u1, u2, u3, u4, u5, u6, u7], []⟩ ((["self", "number", "sender", "goal", "at", "body", "more", "keep"] : List Str).zip ([u0, u1, u2, u3, u4, u5, u6, u7] ++ [])) := by
 first
  | exact .of_eq rfl
  | exact .of_defaults rfl (kx _ _ h) rfl rfl rfl
theorem Zh3 {K : PySem.W.Frag} {s : Shared} {T : Addr} {oT : Option Addr} {nT : Nat} {sT : Array (Option Value)} {kV dc pm cd ct : Value} {an : Option Addr} {u0 u1 u2 u3 u4 u5 u6 : Value} (kx : K.In s.heap) (h : K.lookup T = some ⟨.type "tuple", oT, .seq #[.bool false] nT, sT⟩) :
  BindsTo s (PySem.W.fnOf "__init__" "Piece.__init__" (Zam s_Piece_init) (defBody s_Piece_init) (defScope s_Piece_init) (.ref T) kV dc pm an cd ct) ⟨[u0, u1, u2, u3, u4, u5, u6], []⟩ ((["self", "number", "sender", "goal", "at", "body", "more", "keep"] : List Str).zip ([u0, u1, u2, u3, u4, u5, u6] ++ [.bool false])) := by
 exact .of_defaults rfl (kx _ _ h) rfl rfl rfl
set_option maxHeartbeats 0 in
theorem all_mk {l : PySem.W.OpenLaw} {w : World} {K : PySem.W.Frag} {h : Heap} {mg : Str -> Option Value} {fa : Addr} (X : K.In h) (G : h.Ns mainGlobals mg) (hfa : mg "law" = some (.ref fa))
  {fq0y : Addr} {odq0y anq0y : Option Addr} {slq0y : Array (Option Value)} {ocq0y kVq0y dcq0y pmq0y cdq0y ctq0y : Value}
  {fq0b : Addr} {odq0b anq0b : Option Addr} {slq0b : Array (Option Value)} {ocq0b kVq0b dcq0b pmq0b cdq0b ctq0b : Value}
  {fq0z : Addr} {odq0z anq0z : Option Addr} {slq0z : Array (Option Value)} {ocq0z kVq0z dcq0z pmq0z cdq0z ctq0z : Value}
  {fq0u : Addr} {odq0u anq0u : Option Addr} {slq0u : Array (Option Value)} {ocq0u kVq0u dcq0u pmq0u cdq0u ctq0u : Value}
  {fq1h : Addr} {odq1h anq1h : Option Addr} {slq1h : Array (Option Value)} {ocq1h kVq1h dcq1h pmq1h cdq1h ctq1h : Value}
  {fq1f : Addr} {odq1f anq1f : Option Addr} {slq1f : Array (Option Value)} {ocq1f kVq1f dcq1f pmq1f cdq1f ctq1f : Value}
  {fq1g : Addr} {odq1g anq1g : Option Addr} {slq1g : Array (Option Value)} {ocq1g kVq1g dcq1g pmq1g cdq1g ctq1g : Value}
  {fq0j : Addr} {odq0j anq0j : Option Addr} {slq0j : Array (Option Value)} {ocq0j kVq0j dcq0j pmq0j cdq0j ctq0j : Value}
  {fq0a : Addr} {odq0a anq0a : Option Addr} {slq0a : Array (Option Value)} {ocq0a kVq0a dcq0a pmq0a cdq0a ctq0a : Value}
  {fq1b : Addr} {odq1b anq1b : Option Addr} {slq1b : Array (Option Value)} {ocq1b kVq1b dcq1b pmq1b cdq1b ctq1b : Value}
  {fq0x : Addr} {odq0x anq0x : Option Addr} {slq0x : Array (Option Value)} {ocq0x kVq0x dcq0x pmq0x cdq0x ctq0x : Value}
  {fq0s : Addr} {odq0s anq0s : Option Addr} {slq0s : Array (Option Value)} {ocq0s kVq0s dcq0s pmq0s cdq0s ctq0s : Value}
  {fq0m : Addr} {odq0m anq0m : Option Addr} {slq0m : Array (Option Value)} {ocq0m kVq0m dcq0m pmq0m cdq0m ctq0m : Value}
  {fq0g : Addr} {odq0g anq0g : Option Addr} {slq0g : Array (Option Value)} {ocq0g kVq0g dcq0g pmq0g cdq0g ctq0g : Value}
  {fq1j : Addr} {odq1j anq1j : Option Addr} {slq1j : Array (Option Value)} {ocq1j kVq1j dcq1j pmq1j cdq1j ctq1j : Value}
  {fq0e : Addr} {odq0e anq0e : Option Addr} {slq0e : Array (Option Value)} {ocq0e kVq0e dcq0e pmq0e cdq0e ctq0e : Value}
  {fq1c : Addr} {odq1c anq1c : Option Addr} {slq1c : Array (Option Value)} {ocq1c kVq1c dcq1c pmq1c cdq1c ctq1c : Value}
  {fq0h : Addr} {odq0h anq0h : Option Addr} {slq0h : Array (Option Value)} {ocq0h kVq0h dcq0h pmq0h cdq0h ctq0h : Value}
  {fq0n : Addr} {odq0n anq0n : Option Addr} {slq0n : Array (Option Value)} {ocq0n kVq0n dcq0n pmq0n cdq0n ctq0n : Value}
  {fq0p : Addr} {odq0p anq0p : Option Addr} {slq0p : Array (Option Value)} {ocq0p kVq0p dcq0p pmq0p cdq0p ctq0p : Value}
  {fq0r : Addr} {odq0r anq0r : Option Addr} {slq0r : Array (Option Value)} {ocq0r kVq0r dcq0r pmq0r cdq0r ctq0r : Value}
  {fq0i : Addr} {odq0i anq0i : Option Addr} {slq0i : Array (Option Value)} {ocq0i kVq0i dcq0i pmq0i cdq0i ctq0i : Value}
  {fq1k : Addr} {odq1k anq1k : Option Addr} {slq1k : Array (Option Value)} {ocq1k kVq1k dcq1k pmq1k cdq1k ctq1k : Value}
  {fq1l : Addr} {odq1l anq1l : Option Addr} {slq1l : Array (Option Value)} {ocq1l kVq1l dcq1l pmq1l cdq1l ctq1l : Value}
  {fq1i : Addr} {odq1i anq1i : Option Addr} {slq1i : Array (Option Value)} {ocq1i kVq1i dcq1i pmq1i cdq1i ctq1i : Value}
  {fq1m : Addr} {odq1m anq1m : Option Addr} {slq1m : Array (Option Value)} {ocq1m kVq1m dcq1m pmq1m cdq1m ctq1m : Value}
  {fq1p : Addr} {odq1p anq1p : Option Addr} {slq1p : Array (Option Value)} {ocq1p kVq1p dcq1p pmq1p cdq1p ctq1p : Value}
  {fq1e : Addr} {odq1e anq1e : Option Addr} {slq1e : Array (Option Value)} {ocq1e kVq1e dcq1e pmq1e cdq1e ctq1e : Value}
  {fq0t : Addr} {odq0t anq0t : Option Addr} {slq0t : Array (Option Value)} {ocq0t kVq0t dcq0t pmq0t cdq0t ctq0t : Value}
  {fq1a : Addr} {odq1a anq1a : Option Addr} {slq1a : Array (Option Value)} {ocq1a kVq1a dcq1a pmq1a cdq1a ctq1a : Value}
  {fq1n : Addr} {odq1n anq1n : Option Addr} {slq1n : Array (Option Value)} {ocq1n kVq1n dcq1n pmq1n cdq1n ctq1n : Value}
  {fq1o : Addr} {odq1o anq1o : Option Addr} {slq1o : Array (Option Value)} {ocq1o kVq1o dcq1o pmq1o cdq1o ctq1o : Value}
  {fq0w : Addr} {odq0w anq0w : Option Addr} {slq0w : Array (Option Value)} {ocq0w kVq0w dcq0w pmq0w cdq0w ctq0w : Value}
  {fq1d : Addr} {odq1d anq1d : Option Addr} {slq1d : Array (Option Value)} {ocq1d kVq1d dcq1d pmq1d cdq1d ctq1d : Value}
  {fq0l : Addr} {odq0l anq0l : Option Addr} {slq0l : Array (Option Value)} {ocq0l kVq0l dcq0l pmq0l cdq0l ctq0l : Value}
  {fq0f : Addr} {odq0f anq0f : Option Addr} {slq0f : Array (Option Value)} {ocq0f kVq0f dcq0f pmq0f cdq0f ctq0f : Value}
  {fq1q : Addr} {odq1q anq1q : Option Addr} {slq1q : Array (Option Value)} {ocq1q kVq1q dcq1q pmq1q cdq1q ctq1q : Value}
  {C_Letter : Addr}
  {T_Letter_init : Addr} {oT_Letter_init : Option Addr} {nT_Letter_init : Nat} {sT_Letter_init : Array (Option Value)}
  {fq0k : Addr} {odq0k anq0k : Option Addr} {slq0k : Array (Option Value)} {ocq0k kVq0k dcq0k pmq0k cdq0k ctq0k : Value}
  {fq0o : Addr} {odq0o anq0o : Option Addr} {slq0o : Array (Option Value)} {ocq0o kVq0o dcq0o pmq0o cdq0o ctq0o : Value}
  {fq0c : Addr} {odq0c anq0c : Option Addr} {slq0c : Array (Option Value)} {ocq0c kVq0c dcq0c pmq0c cdq0c ctq0c : Value}
  {C_Piece : Addr}
  {T_Piece_init : Addr} {oT_Piece_init : Option Addr} {nT_Piece_init : Nat} {sT_Piece_init : Array (Option Value)}
  {fq0q : Addr} {odq0q anq0q : Option Addr} {slq0q : Array (Option Value)} {ocq0q kVq0q dcq0q pmq0q cdq0q ctq0q : Value}
  {fq0v : Addr} {odq0v anq0v : Option Addr} {slq0v : Array (Option Value)} {ocq0v kVq0v dcq0v pmq0v cdq0v ctq0v : Value}
  {fq0d : Addr} {odq0d anq0d : Option Addr} {slq0d : Array (Option Value)} {ocq0d kVq0d dcq0d pmq0d cdq0d ctq0d : Value}
  {C_NoText : Addr}
  {tk_MOST_NUMBER : Tok}
  {tk_MOST_BYTE : Tok}
  {tk_MOST_SIGNS : Tok}
  {tk_MOST_BYTES : Tok}
  {tk_MOST_FIGURES : Tok}
  {tk_STEP : Tok}
  {tk_BASE : Tok}
  {tk_WORDS_OF_A_PIECE : Tok}
  {tk_WORDS_OF_A_LETTER : Tok}
  {tk_HALVES : Tok}
  {tk_NO_SIGN : Tok}
  {tk_MORE_SIGN : Tok}
  {tk_KEEP_SIGN : Tok}
  (aq0y : PySem.W.nsIn K mainGlobals "is_whole" = some (some (.ref fq0y)))
  (lq0y : K.lookup fq0y = some ⟨ocq0y, odq0y, .func (PySem.W.fnOf "is_whole" "is_whole" (Zam Zc0) (defBody Zc0) (defScope Zc0) .none kVq0y dcq0y pmq0y anq0y cdq0y ctq0y), slq0y⟩)
  (cq0y : PySem.W.codeIn K cdq0y "is_whole" = true)
  (kq0y : PySem.W.keepIn K (.ref fq0y) = true)
  (aq0b : PySem.W.nsIn K mainGlobals "is_whole_within" = some (some (.ref fq0b)))
  (lq0b : K.lookup fq0b = some ⟨ocq0b, odq0b, .func (PySem.W.fnOf "is_whole_within" "is_whole_within" (Zam Za7) (defBody Za7) (defScope Za7) .none kVq0b dcq0b pmq0b anq0b cdq0b ctq0b), slq0b⟩)
  (cq0b : PySem.W.codeIn K cdq0b "is_whole_within" = true)
  (kq0b : PySem.W.keepIn K (.ref fq0b) = true)
  (aq0z : PySem.W.nsIn K mainGlobals "is_truth" = some (some (.ref fq0z)))
  (lq0z : K.lookup fq0z = some ⟨ocq0z, odq0z, .func (PySem.W.fnOf "is_truth" "is_truth" (Zam Zc1) (defBody Zc1) (defScope Zc1) .none kVq0z dcq0z pmq0z anq0z cdq0z ctq0z), slq0z⟩)
  (cq0z : PySem.W.codeIn K cdq0z "is_truth" = true)
  (kq0z : PySem.W.keepIn K (.ref fq0z) = true)
  (aq0u : PySem.W.nsIn K mainGlobals "is_number" = some (some (.ref fq0u)))
  (lq0u : K.lookup fq0u = some ⟨ocq0u, odq0u, .func (PySem.W.fnOf "is_number" "is_number" (Zam Zcc) (defBody Zcc) (defScope Zcc) .none kVq0u dcq0u pmq0u anq0u cdq0u ctq0u), slq0u⟩)
  (cq0u : PySem.W.codeIn K cdq0u "is_number" = true)
  (kq0u : PySem.W.keepIn K (.ref fq0u) = true)
  (aq1h : PySem.W.nsIn K mainGlobals "is_name" = some (some (.ref fq1h)))
  (lq1h : K.lookup fq1h = some ⟨ocq1h, odq1h, .func (PySem.W.fnOf "is_name" "is_name" (Zam Zc8) (defBody Zc8) (defScope Zc8) .none kVq1h dcq1h pmq1h anq1h cdq1h ctq1h), slq1h⟩)
  (cq1h : PySem.W.codeIn K cdq1h "is_name" = true)
  (kq1h : PySem.W.keepIn K (.ref fq1h) = true)
  (aq1f : PySem.W.nsIn K mainGlobals "is_byte" = some (some (.ref fq1f)))
  (lq1f : K.lookup fq1f = some ⟨ocq1f, odq1f, .func (PySem.W.fnOf "is_byte" "is_byte" (Zam Zdl) (defBody Zdl) (defScope Zdl) .none kVq1f dcq1f pmq1f anq1f cdq1f ctq1f), slq1f⟩)
  (cq1f : PySem.W.codeIn K cdq1f "is_byte" = true)
  (kq1f : PySem.W.keepIn K (.ref fq1f) = true)
  (aq1g : PySem.W.nsIn K mainGlobals "is_body" = some (some (.ref fq1g)))
  (lq1g : K.lookup fq1g = some ⟨ocq1g, odq1g, .func (PySem.W.fnOf "is_body" "is_body" (Zam Zc9) (defBody Zc9) (defScope Zc9) .none kVq1g dcq1g pmq1g anq1g cdq1g ctq1g), slq1g⟩)
  (cq1g : PySem.W.codeIn K cdq1g "is_body" = true)
  (kq1g : PySem.W.keepIn K (.ref fq1g) = true)
  (aq0j : PySem.W.nsIn K mainGlobals "are_figures" = some (some (.ref fq0j)))
  (lq0j : K.lookup fq0j = some ⟨ocq0j, odq0j, .func (PySem.W.fnOf "are_figures" "are_figures" (Zam Zbg) (defBody Zbg) (defScope Zbg) .none kVq0j dcq0j pmq0j anq0j cdq0j ctq0j), slq0j⟩)
  (cq0j : PySem.W.codeIn K cdq0j "are_figures" = true)
  (kq0j : PySem.W.keepIn K (.ref fq0j) = true)
  (aq0a : PySem.W.nsIn K mainGlobals "are_shared_parts" = some (some (.ref fq0a)))
  (lq0a : K.lookup fq0a = some ⟨ocq0a, odq0a, .func (PySem.W.fnOf "are_shared_parts" "are_shared_parts" (Zam Za4) (defBody Za4) (defScope Za4) .none kVq0a dcq0a pmq0a anq0a cdq0a ctq0a), slq0a⟩)
  (cq0a : PySem.W.codeIn K cdq0a "are_shared_parts" = true)
  (kq0a : PySem.W.keepIn K (.ref fq0a) = true)
  (aq1b : PySem.W.nsIn K mainGlobals "is_place" = some (some (.ref fq1b)))
  (lq1b : K.lookup fq1b = some ⟨ocq1b, odq1b, .func (PySem.W.fnOf "is_place" "is_place" (Zam Zc2) (defBody Zc2) (defScope Zc2) .none kVq1b dcq1b pmq1b anq1b cdq1b ctq1b), slq1b⟩)
  (cq1b : PySem.W.codeIn K cdq1b "is_place" = true)
  (kq1b : PySem.W.keepIn K (.ref fq1b) = true)
  (aq0x : PySem.W.nsIn K mainGlobals "has_room" = some (some (.ref fq0x)))
  (lq0x : K.lookup fq0x = some ⟨ocq0x, odq0x, .func (PySem.W.fnOf "has_room" "has_room" (Zam Zc3) (defBody Zc3) (defScope Zc3) .none kVq0x dcq0x pmq0x anq0x cdq0x ctq0x), slq0x⟩)
  (cq0x : PySem.W.codeIn K cdq0x "has_room" = true)
  (kq0x : PySem.W.keepIn K (.ref fq0x) = true)
  (aq0s : PySem.W.nsIn K mainGlobals "shown_key" = some (some (.ref fq0s)))
  (lq0s : K.lookup fq0s = some ⟨ocq0s, odq0s, .func (PySem.W.fnOf "shown_key" "shown_key" (Zam Zb9) (defBody Zb9) (defScope Zb9) .none kVq0s dcq0s pmq0s anq0s cdq0s ctq0s), slq0s⟩)
  (cq0s : PySem.W.codeIn K cdq0s "shown_key" = true)
  (kq0s : PySem.W.keepIn K (.ref fq0s) = true)
  (aq0m : PySem.W.nsIn K mainGlobals "shown_truth" = some (some (.ref fq0m)))
  (lq0m : K.lookup fq0m = some ⟨ocq0m, odq0m, .func (PySem.W.fnOf "shown_truth" "shown_truth" (Zam Zbt) (defBody Zbt) (defScope Zbt) .none kVq0m dcq0m pmq0m anq0m cdq0m ctq0m), slq0m⟩)
  (cq0m : PySem.W.codeIn K cdq0m "shown_truth" = true)
  (kq0m : PySem.W.keepIn K (.ref fq0m) = true)
  (aq0g : PySem.W.nsIn K mainGlobals "shown_bytes" = some (some (.ref fq0g)))
  (lq0g : K.lookup fq0g = some ⟨ocq0g, odq0g, .func (PySem.W.fnOf "shown_bytes" "shown_bytes" (Zam Zbf) (defBody Zbf) (defScope Zbf) .none kVq0g dcq0g pmq0g anq0g cdq0g ctq0g), slq0g⟩)
  (cq0g : PySem.W.codeIn K cdq0g "shown_bytes" = true)
  (kq0g : PySem.W.keepIn K (.ref fq0g) = true)
  (aq1j : PySem.W.nsIn K mainGlobals "shown" = some (some (.ref fq1j)))
  (lq1j : K.lookup fq1j = some ⟨ocq1j, odq1j, .func (PySem.W.fnOf "shown" "shown" (Zam Ze6) (defBody Ze6) (defScope Ze6) .none kVq1j dcq1j pmq1j anq1j cdq1j ctq1j), slq1j⟩)
  (cq1j : PySem.W.codeIn K cdq1j "shown" = true)
  (kq1j : PySem.W.keepIn K (.ref fq1j) = true)
  (aq0e : PySem.W.nsIn K mainGlobals "shown_letter" = some (some (.ref fq0e)))
  (lq0e : K.lookup fq0e = some ⟨ocq0e, odq0e, .func (PySem.W.fnOf "shown_letter" "shown_letter" (Zam Zbk) (defBody Zbk) (defScope Zbk) .none kVq0e dcq0e pmq0e anq0e cdq0e ctq0e), slq0e⟩)
  (cq0e : PySem.W.codeIn K cdq0e "shown_letter" = true)
  (kq0e : PySem.W.keepIn K (.ref fq0e) = true)
  (aq1c : PySem.W.nsIn K mainGlobals "words_of" = some (some (.ref fq1c)))
  (lq1c : K.lookup fq1c = some ⟨ocq1c, odq1c, .func (PySem.W.fnOf "words_of" "words_of" (Zam Zcx) (defBody Zcx) (defScope Zcx) .none kVq1c dcq1c pmq1c anq1c cdq1c ctq1c), slq1c⟩)
  (cq1c : PySem.W.codeIn K cdq1c "words_of" = true)
  (kq1c : PySem.W.keepIn K (.ref fq1c) = true)
  (aq0h : PySem.W.nsIn K mainGlobals "read_number" = some (some (.ref fq0h)))
  (lq0h : K.lookup fq0h = some ⟨ocq0h, odq0h, .func (PySem.W.fnOf "read_number" "read_number" (Zam Zbu) (defBody Zbu) (defScope Zbu) .none kVq0h dcq0h pmq0h anq0h cdq0h ctq0h), slq0h⟩)
  (cq0h : PySem.W.codeIn K cdq0h "read_number" = true)
  (kq0h : PySem.W.keepIn K (.ref fq0h) = true)
  (aq0n : PySem.W.nsIn K mainGlobals "read_truth" = some (some (.ref fq0n)))
  (lq0n : K.lookup fq0n = some ⟨ocq0n, odq0n, .func (PySem.W.fnOf "read_truth" "read_truth" (Zam Zb0) (defBody Zb0) (defScope Zb0) .none kVq0n dcq0n pmq0n anq0n cdq0n ctq0n), slq0n⟩)
  (cq0n : PySem.W.codeIn K cdq0n "read_truth" = true)
  (kq0n : PySem.W.keepIn K (.ref fq0n) = true)
  (aq0p : PySem.W.nsIn K mainGlobals "read_bytes" = some (some (.ref fq0p)))
  (lq0p : K.lookup fq0p = some ⟨ocq0p, odq0p, .func (PySem.W.fnOf "read_bytes" "read_bytes" (Zam Zbc) (defBody Zbc) (defScope Zbc) .none kVq0p dcq0p pmq0p anq0p cdq0p ctq0p), slq0p⟩)
  (cq0p : PySem.W.codeIn K cdq0p "read_bytes" = true)
  (kq0p : PySem.W.keepIn K (.ref fq0p) = true)
  (aq0r : PySem.W.nsIn K mainGlobals "read_piece" = some (some (.ref fq0r)))
  (lq0r : K.lookup fq0r = some ⟨ocq0r, odq0r, .func (PySem.W.fnOf "read_piece" "read_piece" (Zam Zb1) (defBody Zb1) (defScope Zb1) .none kVq0r dcq0r pmq0r anq0r cdq0r ctq0r), slq0r⟩)
  (cq0r : PySem.W.codeIn K cdq0r "read_piece" = true)
  (kq0r : PySem.W.keepIn K (.ref fq0r) = true)
  (aq0i : PySem.W.nsIn K mainGlobals "read_letter" = some (some (.ref fq0i)))
  (lq0i : K.lookup fq0i = some ⟨ocq0i, odq0i, .func (PySem.W.fnOf "read_letter" "read_letter" (Zam Zbv) (defBody Zbv) (defScope Zbv) .none kVq0i dcq0i pmq0i anq0i cdq0i ctq0i), slq0i⟩)
  (cq0i : PySem.W.codeIn K cdq0i "read_letter" = true)
  (kq0i : PySem.W.keepIn K (.ref fq0i) = true)
  (aq1k : PySem.W.nsIn K mainGlobals "_law_mixed" = some (some (.ref fq1k)))
  (lq1k : K.lookup fq1k = some ⟨ocq1k, odq1k, .func (PySem.W.fnOf "_law_mixed" "_law_mixed" (Zam Ze7) (defBody Ze7) (defScope Ze7) .none kVq1k dcq1k pmq1k anq1k cdq1k ctq1k), slq1k⟩)
  (cq1k : PySem.W.codeIn K cdq1k "_law_mixed" = true)
  (kq1k : PySem.W.keepIn K (.ref fq1k) = true)
  (aq1l : PySem.W.nsIn K mainGlobals "_law_state" = some (some (.ref fq1l)))
  (lq1l : K.lookup fq1l = some ⟨ocq1l, odq1l, .func (PySem.W.fnOf "_law_state" "_law_state" (Zam Ze5) (defBody Ze5) (defScope Ze5) .none kVq1l dcq1l pmq1l anq1l cdq1l ctq1l), slq1l⟩)
  (cq1l : PySem.W.codeIn K cdq1l "_law_state" = true)
  (kq1l : PySem.W.keepIn K (.ref fq1l) = true)
  (aq1i : PySem.W.nsIn K mainGlobals "_law_digit" = some (some (.ref fq1i)))
  (lq1i : K.lookup fq1i = some ⟨ocq1i, odq1i, .func (PySem.W.fnOf "_law_digit" "_law_digit" (Zam Ze8) (defBody Ze8) (defScope Ze8) .none kVq1i dcq1i pmq1i anq1i cdq1i ctq1i), slq1i⟩)
  (cq1i : PySem.W.codeIn K cdq1i "_law_digit" = true)
  (kq1i : PySem.W.keepIn K (.ref fq1i) = true)
  (aq1m : PySem.W.nsIn K mainGlobals "_law_name" = some (some (.ref fq1m)))
  (lq1m : K.lookup fq1m = some ⟨ocq1m, odq1m, .func (PySem.W.fnOf "_law_name" "_law_name" (Zam Zfy) (defBody Zfy) (defScope Zfy) .none kVq1m dcq1m pmq1m anq1m cdq1m ctq1m), slq1m⟩)
  (cq1m : PySem.W.codeIn K cdq1m "_law_name" = true)
  (kq1m : PySem.W.keepIn K (.ref fq1m) = true)
  (aq1p : PySem.W.nsIn K mainGlobals "_law_key" = some (some (.ref fq1p)))
  (lq1p : K.lookup fq1p = some ⟨ocq1p, odq1p, .func (PySem.W.fnOf "_law_key" "_law_key" (Zam Zkj) (defBody Zkj) (defScope Zkj) .none kVq1p dcq1p pmq1p anq1p cdq1p ctq1p), slq1p⟩)
  (cq1p : PySem.W.codeIn K cdq1p "_law_key" = true)
  (kq1p : PySem.W.keepIn K (.ref fq1p) = true)
  (aq1e : PySem.W.nsIn K mainGlobals "_law_body" = some (some (.ref fq1e)))
  (lq1e : K.lookup fq1e = some ⟨ocq1e, odq1e, .func (PySem.W.fnOf "_law_body" "_law_body" (Zam Zc7) (defBody Zc7) (defScope Zc7) .none kVq1e dcq1e pmq1e anq1e cdq1e ctq1e), slq1e⟩)
  (cq1e : PySem.W.codeIn K cdq1e "_law_body" = true)
  (kq1e : PySem.W.keepIn K (.ref fq1e) = true)
  (aq0t : PySem.W.nsIn K mainGlobals "_law_letter" = some (some (.ref fq0t)))
  (lq0t : K.lookup fq0t = some ⟨ocq0t, odq0t, .func (PySem.W.fnOf "_law_letter" "_law_letter" (Zam Zcb) (defBody Zcb) (defScope Zcb) .none kVq0t dcq0t pmq0t anq0t cdq0t ctq0t), slq0t⟩)
  (cq0t : PySem.W.codeIn K cdq0t "_law_letter" = true)
  (kq0t : PySem.W.keepIn K (.ref fq0t) = true)
  (aq1a : PySem.W.nsIn K mainGlobals "_law_piece" = some (some (.ref fq1a)))
  (lq1a : K.lookup fq1a = some ⟨ocq1a, odq1a, .func (PySem.W.fnOf "_law_piece" "_law_piece" (Zam Zcz) (defBody Zcz) (defScope Zcz) .none kVq1a dcq1a pmq1a anq1a cdq1a ctq1a), slq1a⟩)
  (cq1a : PySem.W.codeIn K cdq1a "_law_piece" = true)
  (kq1a : PySem.W.keepIn K (.ref fq1a) = true)
  (aq1n : PySem.W.nsIn K mainGlobals "_law_word" = some (some (.ref fq1n)))
  (lq1n : K.lookup fq1n = some ⟨ocq1n, odq1n, .func (PySem.W.fnOf "_law_word" "_law_word" (Zam Zgq) (defBody Zgq) (defScope Zgq) .none kVq1n dcq1n pmq1n anq1n cdq1n ctq1n), slq1n⟩)
  (cq1n : PySem.W.codeIn K cdq1n "_law_word" = true)
  (kq1n : PySem.W.keepIn K (.ref fq1n) = true)
  (aq1o : PySem.W.nsIn K mainGlobals "_law_due" = some (some (.ref fq1o)))
  (lq1o : K.lookup fq1o = some ⟨ocq1o, odq1o, .func (PySem.W.fnOf "_law_due" "_law_due" (Zam Zi7) (defBody Zi7) (defScope Zi7) .none kVq1o dcq1o pmq1o anq1o cdq1o ctq1o), slq1o⟩)
  (cq1o : PySem.W.codeIn K cdq1o "_law_due" = true)
  (kq1o : PySem.W.keepIn K (.ref fq1o) = true)
  (aq0w : PySem.W.nsIn K mainGlobals "_law_no_letter" = some (some (.ref fq0w)))
  (lq0w : K.lookup fq0w = some ⟨ocq0w, odq0w, .func (PySem.W.fnOf "_law_no_letter" "_law_no_letter" (Zam Zca) (defBody Zca) (defScope Zca) .none kVq0w dcq0w pmq0w anq0w cdq0w ctq0w), slq0w⟩)
  (cq0w : PySem.W.codeIn K cdq0w "_law_no_letter" = true)
  (kq0w : PySem.W.keepIn K (.ref fq0w) = true)
  (aq1d : PySem.W.nsIn K mainGlobals "_law_no_piece" = some (some (.ref fq1d)))
  (lq1d : K.lookup fq1d = some ⟨ocq1d, odq1d, .func (PySem.W.fnOf "_law_no_piece" "_law_no_piece" (Zam Zcy) (defBody Zcy) (defScope Zcy) .none kVq1d dcq1d pmq1d anq1d cdq1d ctq1d), slq1d⟩)
  (cq1d : PySem.W.codeIn K cdq1d "_law_no_piece" = true)
  (kq1d : PySem.W.keepIn K (.ref fq1d) = true)
  (aq0l : PySem.W.nsIn K mainGlobals "_law_piece_right" = some (some (.ref fq0l)))
  (lq0l : K.lookup fq0l = some ⟨ocq0l, odq0l, .func (PySem.W.fnOf "_law_piece_right" "_law_piece_right" (Zam Zbw) (defBody Zbw) (defScope Zbw) .none kVq0l dcq0l pmq0l anq0l cdq0l ctq0l), slq0l⟩)
  (cq0l : PySem.W.codeIn K cdq0l "_law_piece_right" = true)
  (kq0l : PySem.W.keepIn K (.ref fq0l) = true)
  (aq0f : PySem.W.nsIn K mainGlobals "_law_letter_right" = some (some (.ref fq0f)))
  (lq0f : K.lookup fq0f = some ⟨ocq0f, odq0f, .func (PySem.W.fnOf "_law_letter_right" "_law_letter_right" (Zam Zbl) (defBody Zbl) (defScope Zbl) .none kVq0f dcq0f pmq0f anq0f cdq0f ctq0f), slq0f⟩)
  (cq0f : PySem.W.codeIn K cdq0f "_law_letter_right" = true)
  (kq0f : PySem.W.keepIn K (.ref fq0f) = true)
  (aq1q : PySem.W.nsIn K mainGlobals "law" = some (some (.ref fq1q)))
  (lq1q : K.lookup fq1q = some ⟨ocq1q, odq1q, .func (PySem.W.fnOf "law" "law" (Zam Zhf) (defBody Zhf) (defScope Zhf) .none kVq1q dcq1q pmq1q anq1q cdq1q ctq1q), slq1q⟩)
  (cq1q : PySem.W.codeIn K cdq1q "law" = true)
  (kq1q : PySem.W.keepIn K (.ref fq1q) = true)
  (aC_Letter : PySem.W.nsIn K mainGlobals "Letter" = some (some (.ref C_Letter)))
  (aq0k : PySem.W.findIn K (.ref C_Letter) "__init__" = some (some (.ref fq0k)))
  (iq0k : PySem.W.isFn K (.ref fq0k) = true)
  (lq0k : K.lookup fq0k = some ⟨ocq0k, odq0k, .func (PySem.W.fnOf "__init__" "Letter.__init__" (Zam s_Letter_init) (defBody s_Letter_init) (defScope s_Letter_init) (.ref T_Letter_init) kVq0k dcq0k pmq0k anq0k cdq0k ctq0k), slq0k⟩)
  (cq0k : PySem.W.codeIn K cdq0k "Letter.__init__" = true)
  (kq0k : PySem.W.keepIn K (.ref fq0k) = true)
  (tq0k : K.lookup T_Letter_init = some ⟨.type "tuple", oT_Letter_init, .seq #[.bool false] nT_Letter_init, sT_Letter_init⟩)
  (aq0o : PySem.W.findIn K (.ref C_Letter) "key" = some (some (.ref fq0o)))
  (iq0o : PySem.W.isFn K (.ref fq0o) = true)
  (lq0o : K.lookup fq0o = some ⟨ocq0o, odq0o, .func (PySem.W.fnOf "key" "Letter.key" (Zam Zb2) (defBody Zb2) (defScope Zb2) .none kVq0o dcq0o pmq0o anq0o cdq0o ctq0o), slq0o⟩)
  (cq0o : PySem.W.codeIn K cdq0o "Letter.key" = true)
  (kq0o : PySem.W.keepIn K (.ref fq0o) = true)
  (aq0c : PySem.W.findIn K (.ref C_Letter) "is_like" = some (some (.ref fq0c)))
  (iq0c : PySem.W.isFn K (.ref fq0c) = true)
  (lq0c : K.lookup fq0c = some ⟨ocq0c, odq0c, .func (PySem.W.fnOf "is_like" "Letter.is_like" (Zam Za8) (defBody Za8) (defScope Za8) .none kVq0c dcq0c pmq0c anq0c cdq0c ctq0c), slq0c⟩)
  (cq0c : PySem.W.codeIn K cdq0c "Letter.is_like" = true)
  (kq0c : PySem.W.keepIn K (.ref fq0c) = true)
  (pg_Letter : PySem.W.plainGet K C_Letter Str.empty = true)
  (hd_Letter : PySem.W.hasDictIn K C_Letter = true)
  (po_Letter : PySem.W.plainOver K C_Letter = true)
  (sa_Letter : PySem.W.findIn K (.ref C_Letter) "__setattr__" = some (some (.builtin "object.__setattr__")))
  (mk_Letter : PySem.W.makesIn K C_Letter = true)
  (kc_Letter : PySem.W.keepIn K (.ref C_Letter) = true)
  (n_Letter_number : PySem.W.findIn K (.ref C_Letter) "number" = some none)
  (n_Letter_sender : PySem.W.findIn K (.ref C_Letter) "sender" = some none)
  (n_Letter_goal : PySem.W.findIn K (.ref C_Letter) "goal" = some none)
  (n_Letter_body : PySem.W.findIn K (.ref C_Letter) "body" = some none)
  (n_Letter_keep : PySem.W.findIn K (.ref C_Letter) "keep" = some none)
  (ih_Letter : PySem.W.findIn K (.ref C_Letter) "__class__" = some (some (.builtin "object.__class__")))
  (in_Letter : PySem.W.specialIn K (.builtin "object.__class__") "__get__" = some (some (.builtin "getset_descriptor.__get__")))
  (it_Letter : PySem.W.takesIn K (.builtin "object.__class__") = some true)
  (im_Letter : PySem.W.mroIn K C_Letter (.type "object") = some true)
  (aC_Piece : PySem.W.nsIn K mainGlobals "Piece" = some (some (.ref C_Piece)))
  (aq0q : PySem.W.findIn K (.ref C_Piece) "__init__" = some (some (.ref fq0q)))
  (iq0q : PySem.W.isFn K (.ref fq0q) = true)
  (lq0q : K.lookup fq0q = some ⟨ocq0q, odq0q, .func (PySem.W.fnOf "__init__" "Piece.__init__" (Zam s_Piece_init) (defBody s_Piece_init) (defScope s_Piece_init) (.ref T_Piece_init) kVq0q dcq0q pmq0q anq0q cdq0q ctq0q), slq0q⟩)
  (cq0q : PySem.W.codeIn K cdq0q "Piece.__init__" = true)
  (kq0q : PySem.W.keepIn K (.ref fq0q) = true)
  (tq0q : K.lookup T_Piece_init = some ⟨.type "tuple", oT_Piece_init, .seq #[.bool false] nT_Piece_init, sT_Piece_init⟩)
  (aq0v : PySem.W.findIn K (.ref C_Piece) "key" = some (some (.ref fq0v)))
  (iq0v : PySem.W.isFn K (.ref fq0v) = true)
  (lq0v : K.lookup fq0v = some ⟨ocq0v, odq0v, .func (PySem.W.fnOf "key" "Piece.key" (Zam Zcd) (defBody Zcd) (defScope Zcd) .none kVq0v dcq0v pmq0v anq0v cdq0v ctq0v), slq0v⟩)
  (cq0v : PySem.W.codeIn K cdq0v "Piece.key" = true)
  (kq0v : PySem.W.keepIn K (.ref fq0v) = true)
  (aq0d : PySem.W.findIn K (.ref C_Piece) "is_like" = some (some (.ref fq0d)))
  (iq0d : PySem.W.isFn K (.ref fq0d) = true)
  (lq0d : K.lookup fq0d = some ⟨ocq0d, odq0d, .func (PySem.W.fnOf "is_like" "Piece.is_like" (Zam Zba) (defBody Zba) (defScope Zba) .none kVq0d dcq0d pmq0d anq0d cdq0d ctq0d), slq0d⟩)
  (cq0d : PySem.W.codeIn K cdq0d "Piece.is_like" = true)
  (kq0d : PySem.W.keepIn K (.ref fq0d) = true)
  (pg_Piece : PySem.W.plainGet K C_Piece Str.empty = true)
  (hd_Piece : PySem.W.hasDictIn K C_Piece = true)
  (po_Piece : PySem.W.plainOver K C_Piece = true)
  (sa_Piece : PySem.W.findIn K (.ref C_Piece) "__setattr__" = some (some (.builtin "object.__setattr__")))
  (mk_Piece : PySem.W.makesIn K C_Piece = true)
  (kc_Piece : PySem.W.keepIn K (.ref C_Piece) = true)
  (n_Piece_number : PySem.W.findIn K (.ref C_Piece) "number" = some none)
  (n_Piece_sender : PySem.W.findIn K (.ref C_Piece) "sender" = some none)
  (n_Piece_goal : PySem.W.findIn K (.ref C_Piece) "goal" = some none)
  (n_Piece_at : PySem.W.findIn K (.ref C_Piece) "at" = some none)
  (n_Piece_body : PySem.W.findIn K (.ref C_Piece) "body" = some none)
  (n_Piece_more : PySem.W.findIn K (.ref C_Piece) "more" = some none)
  (n_Piece_keep : PySem.W.findIn K (.ref C_Piece) "keep" = some none)
  (ih_Piece : PySem.W.findIn K (.ref C_Piece) "__class__" = some (some (.builtin "object.__class__")))
  (in_Piece : PySem.W.specialIn K (.builtin "object.__class__") "__get__" = some (some (.builtin "getset_descriptor.__get__")))
  (it_Piece : PySem.W.takesIn K (.builtin "object.__class__") = some true)
  (im_Piece : PySem.W.mroIn K C_Piece (.type "object") = some true)
  (aC_NoText : PySem.W.nsIn K mainGlobals "NoText" = some (some (.ref C_NoText)))
  (kty_NoText : PySem.W.typeIn K (.ref C_NoText) = some (.type "type"))
  (kbe_NoText : PySem.W.mroIn K C_NoText (.type "BaseException") = some true)
  (exc_NoText : PySem.W.excIn K C_NoText Zsc "ValueError.__new__" = true)
  (kmr_NoText_NoText : PySem.W.mroIn K C_NoText (.ref C_NoText) = some true)
  (q_MOST_NUMBER : PySem.W.nsIn K mainGlobals "MOST_NUMBER" = some (some (.int 65535 tk_MOST_NUMBER)))
  (q_MOST_BYTE : PySem.W.nsIn K mainGlobals "MOST_BYTE" = some (some (.int 255 tk_MOST_BYTE)))
  (q_MOST_SIGNS : PySem.W.nsIn K mainGlobals "MOST_SIGNS" = some (some (.int 8 tk_MOST_SIGNS)))
  (q_MOST_BYTES : PySem.W.nsIn K mainGlobals "MOST_BYTES" = some (some (.int 4000 tk_MOST_BYTES)))
  (q_MOST_FIGURES : PySem.W.nsIn K mainGlobals "MOST_FIGURES" = some (some (.int 12 tk_MOST_FIGURES)))
  (q_STEP : PySem.W.nsIn K mainGlobals "STEP" = some (some (.int 8 tk_STEP)))
  (q_BASE : PySem.W.nsIn K mainGlobals "BASE" = some (some (.int 16 tk_BASE)))
  (q_WORDS_OF_A_PIECE : PySem.W.nsIn K mainGlobals "WORDS_OF_A_PIECE" = some (some (.int 7 tk_WORDS_OF_A_PIECE)))
  (q_WORDS_OF_A_LETTER : PySem.W.nsIn K mainGlobals "WORDS_OF_A_LETTER" = some (some (.int 5 tk_WORDS_OF_A_LETTER)))
  (q_HALVES : PySem.W.nsIn K mainGlobals "HALVES" = some (some (.str "0123456789abcdef" tk_HALVES)))
  (q_NO_SIGN : PySem.W.nsIn K mainGlobals "NO_SIGN" = some (some (.str "." tk_NO_SIGN)))
  (q_MORE_SIGN : PySem.W.nsIn K mainGlobals "MORE_SIGN" = some (some (.str "+" tk_MORE_SIGN)))
  (q_KEEP_SIGN : PySem.W.nsIn K mainGlobals "KEEP_SIGN" = some (some (.str "!" tk_KEEP_SIGN)))
  (z_len : PySem.W.nsIn K mainGlobals "len" = some none)
  (z_range : PySem.W.nsIn K mainGlobals "range" = some none)
  (z_isinstance : PySem.W.nsIn K mainGlobals "isinstance" = some none)
  (z_all : PySem.W.nsIn K mainGlobals "all" = some none)
  (z_min : PySem.W.nsIn K mainGlobals "min" = some none)
  (z_max : PySem.W.nsIn K mainGlobals "max" = some none)
  (z_int : PySem.W.nsIn K mainGlobals "int" = some none)
  (z_bool : PySem.W.nsIn K mainGlobals "bool" = some none)
  (z_str : PySem.W.nsIn K mainGlobals "str" = some none)
  (z_list : PySem.W.nsIn K mainGlobals "list" = some none)
  (z_tuple : PySem.W.nsIn K mainGlobals "tuple" = some none) :
  ∃ fd : FuncData, (∀ (s : Shared) (v : Value), BindsTo s fd ⟨[v], []⟩ [("_law_script", v)]) /\ ∀ base : Heap, K.In base -> base.Ns mainGlobals mg -> FnOk l.prog w K mg base CX0 11 fa fd ["_law_script"] (Zjo K) := by
 have e := hfa.symm.trans (PySem.W.mg_of X G aq1q);cases e;have Fq0y := Zax (st := Zc0) lq0y cq0y kq0y;have bq0y := Fq0y.binds (ps := ["value"]) fun _ _ _ _ _ _ us hl => match us, hl with | [_], _ => rfl
 have mq0y := PySem.W.mg_of X G aq0y;have Fq0b := Zax (st := Za7) lq0b cq0b kq0b;have bq0b := Fq0b.binds (ps := ["value", "low", "high"]) fun _ _ _ _ _ _ us hl => match us, hl with | [_, _, _], _ => rfl
 have mq0b := PySem.W.mg_of X G aq0b;have Fq0z := Zax (st := Zc1) lq0z cq0z kq0z;have bq0z := Fq0z.binds (ps := ["value"]) fun _ _ _ _ _ _ us hl => match us, hl with | [_], _ => rfl
 have mq0z := PySem.W.mg_of X G aq0z;have Fq0u := Zax (st := Zcc) lq0u cq0u kq0u;have bq0u := Fq0u.binds (ps := ["value"]) fun _ _ _ _ _ _ us hl => match us, hl with | [_], _ => rfl
 have mq0u := PySem.W.mg_of X G aq0u;have Fq1h := Zax (st := Zc8) lq1h cq1h kq1h;have bq1h := Fq1h.binds (ps := ["value"]) fun _ _ _ _ _ _ us hl => match us, hl with | [_], _ => rfl
 have mq1h := PySem.W.mg_of X G aq1h;have Fq1f := Zax (st := Zdl) lq1f cq1f kq1f;have bq1f := Fq1f.binds (ps := ["value"]) fun _ _ _ _ _ _ us hl => match us, hl with | [_], _ => rfl
 have mq1f := PySem.W.mg_of X G aq1f;have Fq1g := Zax (st := Zc9) lq1g cq1g kq1g;have bq1g := Fq1g.binds (ps := ["value"]) fun _ _ _ _ _ _ us hl => match us, hl with | [_], _ => rfl
 have mq1g := PySem.W.mg_of X G aq1g;have Fq0j := Zax (st := Zbg) lq0j cq0j kq0j;have bq0j := Fq0j.binds (ps := ["word"]) fun _ _ _ _ _ _ us hl => match us, hl with | [_], _ => rfl
 have mq0j := PySem.W.mg_of X G aq0j;have Fq0a := Zax (st := Za4) lq0a cq0a kq0a;have bq0a := Fq0a.binds (ps := ["number", "sender", "goal", "body", "keep"]) fun _ _ _ _ _ _ us hl => match us, hl with | [_, _, _, _, _], _ => rfl
 have mq0a := PySem.W.mg_of X G aq0a;have Fq1b := Zax (st := Zc2) lq1b cq1b kq1b;have bq1b := Fq1b.binds (ps := ["at"]) fun _ _ _ _ _ _ us hl => match us, hl with | [_], _ => rfl
 have mq1b := PySem.W.mg_of X G aq1b;have Fq0x := Zax (st := Zc3) lq0x cq0x kq0x;have bq0x := Fq0x.binds (ps := ["at", "length", "more"]) fun _ _ _ _ _ _ us hl => match us, hl with | [_, _, _], _ => rfl
 have mq0x := PySem.W.mg_of X G aq0x;have Fq0s := Zax (st := Zb9) lq0s cq0s kq0s;have bq0s := Fq0s.binds (ps := ["key"]) fun _ _ _ _ _ _ us hl => match us, hl with | [_], _ => rfl
 have mq0s := PySem.W.mg_of X G aq0s;have Fq0m := Zax (st := Zbt) lq0m cq0m kq0m;have bq0m := Fq0m.binds (ps := ["truth", "sign"]) fun _ _ _ _ _ _ us hl => match us, hl with | [_, _], _ => rfl
 have mq0m := PySem.W.mg_of X G aq0m;have Fq0g := Zax (st := Zbf) lq0g cq0g kq0g;have bq0g := Fq0g.binds (ps := ["body"]) fun _ _ _ _ _ _ us hl => match us, hl with | [_], _ => rfl
 have mq0g := PySem.W.mg_of X G aq0g;have Fq1j := Zax (st := Ze6) lq1j cq1j kq1j;have bq1j := Fq1j.binds (ps := ["piece"]) fun _ _ _ _ _ _ us hl => match us, hl with | [_], _ => rfl
 have mq1j := PySem.W.mg_of X G aq1j;have Fq0e := Zax (st := Zbk) lq0e cq0e kq0e;have bq0e := Fq0e.binds (ps := ["letter"]) fun _ _ _ _ _ _ us hl => match us, hl with | [_], _ => rfl
 have mq0e := PySem.W.mg_of X G aq0e;have Fq1c := Zax (st := Zcx) lq1c cq1c kq1c;have bq1c := Fq1c.binds (ps := ["text", "count"]) fun _ _ _ _ _ _ us hl => match us, hl with | [_, _], _ => rfl
 have mq1c := PySem.W.mg_of X G aq1c;have Fq0h := Zax (st := Zbu) lq0h cq0h kq0h;have bq0h := Fq0h.binds (ps := ["word"]) fun _ _ _ _ _ _ us hl => match us, hl with | [_], _ => rfl
 have mq0h := PySem.W.mg_of X G aq0h;have Fq0n := Zax (st := Zb0) lq0n cq0n kq0n;have bq0n := Fq0n.binds (ps := ["word", "sign"]) fun _ _ _ _ _ _ us hl => match us, hl with | [_, _], _ => rfl
 have mq0n := PySem.W.mg_of X G aq0n;have Fq0p := Zax (st := Zbc) lq0p cq0p kq0p;have bq0p := Fq0p.binds (ps := ["word"]) fun _ _ _ _ _ _ us hl => match us, hl with | [_], _ => rfl
 have mq0p := PySem.W.mg_of X G aq0p;have Fq0r := Zax (st := Zb1) lq0r cq0r kq0r;have bq0r := Fq0r.binds (ps := ["text"]) fun _ _ _ _ _ _ us hl => match us, hl with | [_], _ => rfl
 have mq0r := PySem.W.mg_of X G aq0r;have Fq0i := Zax (st := Zbv) lq0i cq0i kq0i;have bq0i := Fq0i.binds (ps := ["text"]) fun _ _ _ _ _ _ us hl => match us, hl with | [_], _ => rfl
 have mq0i := PySem.W.mg_of X G aq0i;have Fq1k := Zax (st := Ze7) lq1k cq1k kq1k;have bq1k := Fq1k.binds (ps := ["_law_number"]) fun _ _ _ _ _ _ us hl => match us, hl with | [_], _ => rfl
 have mq1k := PySem.W.mg_of X G aq1k;have Fq1l := Zax (st := Ze5) lq1l cq1l kq1l;have bq1l := Fq1l.binds (ps := ["_law_cell", "_law_k"]) fun _ _ _ _ _ _ us hl => match us, hl with | [_, _], _ => rfl
 have mq1l := PySem.W.mg_of X G aq1l;have Fq1i := Zax (st := Ze8) lq1i cq1i kq1i;have bq1i := Fq1i.binds (ps := ["_law_state_here", "_law_base"]) fun _ _ _ _ _ _ us hl => match us, hl with | [_, _], _ => rfl
 have mq1i := PySem.W.mg_of X G aq1i;have Fq1m := Zax (st := Zfy) lq1m cq1m kq1m;have bq1m := Fq1m.binds (ps := ["_law_state_here", "_law_some"]) fun _ _ _ _ _ _ us hl => match us, hl with | [_, _], _ => rfl
 have mq1m := PySem.W.mg_of X G aq1m;have Fq1p := Zax (st := Zkj) lq1p cq1p kq1p;have bq1p := Fq1p.binds (ps := ["_law_state_here"]) fun _ _ _ _ _ _ us hl => match us, hl with | [_], _ => rfl
 have mq1p := PySem.W.mg_of X G aq1p;have Fq1e := Zax (st := Zc7) lq1e cq1e kq1e;have bq1e := Fq1e.binds (ps := ["_law_state_here", "_law_length"]) fun _ _ _ _ _ _ us hl => match us, hl with | [_, _], _ => rfl
 have mq1e := PySem.W.mg_of X G aq1e;have Fq0t := Zax (st := Zcb) lq0t cq0t kq0t;have bq0t := Fq0t.binds (ps := ["_law_state_here", "_law_most"]) fun _ _ _ _ _ _ us hl => match us, hl with | [_, _], _ => rfl
 have mq0t := PySem.W.mg_of X G aq0t;have Fq1a := Zax (st := Zcz) lq1a cq1a kq1a;have bq1a := Fq1a.binds (ps := ["_law_state_here", "_law_most"]) fun _ _ _ _ _ _ us hl => match us, hl with | [_, _], _ => rfl
 have mq1a := PySem.W.mg_of X G aq1a;have Fq1n := Zax (st := Zgq) lq1n cq1n kq1n;have bq1n := Fq1n.binds (ps := ["_law_byte"]) fun _ _ _ _ _ _ us hl => match us, hl with | [_], _ => rfl
 have mq1n := PySem.W.mg_of X G aq1n;have Fq1o := Zax (st := Zi7) lq1o cq1o kq1o;have bq1o := Fq1o.binds (ps := ["_law_one", "_law_at", "_law_more"]) fun _ _ _ _ _ _ us hl => match us, hl with | [_, _, _], _ => rfl
 have mq1o := PySem.W.mg_of X G aq1o;have Fq0w := Zax (st := Zca) lq0w cq0w kq0w;have bq0w := Fq0w.binds (ps := ["_law_text"]) fun _ _ _ _ _ _ us hl => match us, hl with | [_], _ => rfl
 have mq0w := PySem.W.mg_of X G aq0w;have Fq1d := Zax (st := Zcy) lq1d cq1d kq1d;have bq1d := Fq1d.binds (ps := ["_law_text"]) fun _ _ _ _ _ _ us hl => match us, hl with | [_], _ => rfl
 have mq1d := PySem.W.mg_of X G aq1d;have Fq0l := Zax (st := Zbw) lq0l cq0l kq0l;have bq0l := Fq0l.binds (ps := ["_law_piece_here"]) fun _ _ _ _ _ _ us hl => match us, hl with | [_], _ => rfl
 have mq0l := PySem.W.mg_of X G aq0l;have Fq0f := Zax (st := Zbl) lq0f cq0f kq0f;have bq0f := Fq0f.binds (ps := ["_law_letter_here"]) fun _ _ _ _ _ _ us hl => match us, hl with | [_], _ => rfl
 have mq0f := PySem.W.mg_of X G aq0f;have Fq1q := Zax (st := Zhf) lq1q cq1q kq1q;have bq1q := Fq1q.binds (ps := ["_law_script"]) fun _ _ _ _ _ _ us hl => match us, hl with | [_], _ => rfl
 have Fq0o := Zax (st := Zb2) lq0o cq0o kq0o;have bq0o := Fq0o.binds (ps := ["self"]) fun _ _ _ _ _ _ us hl => match us, hl with | [_], _ => rfl
 have Fq0c := Zax (st := Za8) lq0c cq0c kq0c;have bq0c := Fq0c.binds (ps := ["self", "other"]) fun _ _ _ _ _ _ us hl => match us, hl with | [_, _], _ => rfl
 have ic_Letter : Zpb K C_Letter := ⟨ih_Letter, in_Letter, it_Letter, im_Letter⟩;have cl_Letter : Cls K C_Letter := ⟨pg_Letter, hd_Letter, po_Letter, sa_Letter⟩;have m_Letter := PySem.W.mg_of X G aC_Letter;have Fq0v := Zax (st := Zcd) lq0v cq0v kq0v;have bq0v := Fq0v.binds (ps := ["self"]) fun _ _ _ _ _ _ us hl => match us, hl with | [_], _ => rfl
 have Fq0d := Zax (st := Zba) lq0d cq0d kq0d;have bq0d := Fq0d.binds (ps := ["self", "other"]) fun _ _ _ _ _ _ us hl => match us, hl with | [_, _], _ => rfl
 have ic_Piece : Zpb K C_Piece := ⟨ih_Piece, in_Piece, it_Piece, im_Piece⟩;have cl_Piece : Cls K C_Piece := ⟨pg_Piece, hd_Piece, po_Piece, sa_Piece⟩;have m_Piece := PySem.W.mg_of X G aC_Piece;have m_NoText := PySem.W.mg_of X G aC_NoText;have W_NoText : Zq4 K C_NoText := ⟨kty_NoText, kbe_NoText⟩;have X_NoText : XC K mg "NoText" C_NoText := ⟨m_NoText, exc_NoText⟩
 have B : Bt mg := ⟨PySem.W.mg_none_of X G z_len, PySem.W.mg_none_of X G z_range, PySem.W.mg_none_of X G z_isinstance, PySem.W.mg_none_of X G z_all, PySem.W.mg_none_of X G z_min, PySem.W.mg_none_of X G z_max, PySem.W.mg_none_of X G z_int, PySem.W.mg_none_of X G z_bool, PySem.W.mg_none_of X G z_str, PySem.W.mg_none_of X G z_list, PySem.W.mg_none_of X G z_tuple⟩;have T : Cn mg := ⟨⟨_, PySem.W.mg_of X G q_MOST_NUMBER⟩, ⟨_, PySem.W.mg_of X G q_MOST_BYTE⟩, ⟨_, PySem.W.mg_of X G q_MOST_SIGNS⟩, ⟨_, PySem.W.mg_of X G q_MOST_BYTES⟩, ⟨_, PySem.W.mg_of X G q_MOST_FIGURES⟩, ⟨_, PySem.W.mg_of X G q_STEP⟩, ⟨_, PySem.W.mg_of X G q_BASE⟩, ⟨_, PySem.W.mg_of X G q_WORDS_OF_A_PIECE⟩, ⟨_, PySem.W.mg_of X G q_WORDS_OF_A_LETTER⟩, ⟨_, PySem.W.mg_of X G q_HALVES⟩, ⟨_, PySem.W.mg_of X G q_NO_SIGN⟩, ⟨_, PySem.W.mg_of X G q_MORE_SIGN⟩, ⟨_, PySem.W.mg_of X G q_KEEP_SIGN⟩⟩;refine ⟨PySem.W.fnOf "law" "law" (Zam Zhf) (defBody Zhf) (defScope Zhf) .none kVq1q dcq1q pmq1q anq1q cdq1q ctq1q, fun s v => .of_eq rfl, fun base kb nb => ?_⟩;have L : Zkw K C_Letter := ⟨cl_Letter, n_Letter_number, n_Letter_sender, n_Letter_goal, n_Letter_body, n_Letter_keep⟩;have LP : Zkb K C_Piece := ⟨cl_Piece, n_Piece_number, n_Piece_sender, n_Piece_goal, n_Piece_at, n_Piece_body, n_Piece_more, n_Piece_keep⟩;have gq0y : FnB l.prog w K mg base "is_whole" 1 ["value"] [] (Zdr) := ⟨_, _, _, Zjb Fq0y B, mq0y, kq0y, bq0y, .nil⟩
 have gq0b : FnB l.prog w K mg base "is_whole_within" 2 ["value", "low", "high"] [] (Zbp) := ⟨_, _, _, Zet Fq0b gq0y, mq0b, kq0b, bq0b, .nil⟩
 have gq0z : FnB l.prog w K mg base "is_truth" 1 ["value"] [] (Zds) := ⟨_, _, _, Zjc Fq0z B, mq0z, kq0z, bq0z, .nil⟩
 have gq0u : FnB l.prog w K mg base "is_number" 3 ["value"] [] (Zd3) := ⟨_, _, _, Zij Fq0u T gq0b, mq0u, kq0u, bq0u, .nil⟩
 have gq1h : FnB l.prog w K mg base "is_name" 1 ["value"] [] (Ze0) := ⟨_, _, _, Zkm Fq1h T B, mq1h, kq1h, bq1h, .nil⟩
 have gq1f : FnB l.prog w K mg base "is_byte" 3 ["value"] [] (Ze1) := ⟨_, _, _, Zkn Fq1f T gq0b, mq1f, kq1f, bq1f, .nil⟩
 have gq1g : FnB l.prog w K mg base "is_body" 4 ["value"] [] (Ze2) := ⟨_, _, _, Zko Fq1g T B gq1f, mq1g, kq1g, bq1g, .nil⟩
 have gq0j : FnB l.prog w K mg base "are_figures" 1 ["word"] [] (Zdh) := ⟨_, _, _, Zgl Fq0j B T, mq0j, kq0j, bq0j, .nil⟩
 have gq0a : FnB l.prog w K mg base "are_shared_parts" 5 ["number", "sender", "goal", "body", "keep"] [] (Zbd) := ⟨_, _, _, Zel Fq0a gq0u gq1h gq1g gq0z, mq0a, kq0a, bq0a, .nil⟩
 have gq1b : FnB l.prog w K mg base "is_place" 2 ["at"] [] (Zee) := ⟨_, _, _, Zjd Fq1b T gq0y, mq1b, kq1b, bq1b, .nil⟩
 have gq0x : FnB l.prog w K mg base "has_room" 1 ["at", "length", "more"] [] (Zef) := ⟨_, _, _, Zje Fq0x T, mq0x, kq0x, bq0x, .nil⟩
 have o_Letter : FnOk l.prog w K mg base CX0 6 fq0k _ ["self", "number", "sender", "goal", "body", "keep"] (Zbx C_Letter) := Zgm ⟨_, _, _, _, _, _, _, _, _, _, rfl, lq0k, cq0k⟩ L B gq0a;have M_Letter : Mk K C_Letter fq0k := ⟨mk_Letter, aq0k, iq0k, kc_Letter⟩;have i_Letter : MkB l.prog w K mg base "Letter" C_Letter 6 ["self", "number", "sender", "goal", "body", "keep"] [] (Zbx C_Letter) := ⟨_, _, [], o_Letter, m_Letter, M_Letter, (fun s us kx hl => match us, hl with | [_, _, _, _, _, _], _ => Zgn kx tq0k), .nil⟩
 have i_Letter_d1 : MkB l.prog w K mg base "Letter" C_Letter 6 ["self", "number", "sender", "goal", "body", "keep"] [.bl false] (Zbx C_Letter) := ⟨_, _, [.bool false], o_Letter, m_Letter, M_Letter, (fun s us kx hl => by obtain ⟨u0, u1, u2, u3, u4, rfl⟩ := Zji hl; exact Zgo kx tq0k), .cons rfl .nil⟩
 have mq0o : MtB l.prog w K mg base C_Letter "key" 1 ["self"] [] (Zcv C_Letter) := ⟨_, _, _, Zht Fq0o L, cl_Letter, ⟨aq0o, iq0o, kq0o⟩, bq0o, .nil⟩
 have mq0c : MtB l.prog w K mg base C_Letter "is_like" 2 ["self", "other"] [] (Zb7 C_Letter) := ⟨_, _, _, Zfb Fq0c L mq0o, cl_Letter, ⟨aq0c, iq0c, kq0c⟩, bq0c, .nil⟩
 have o_Piece : FnOk l.prog w K mg base CX0 6 fq0q _ ["self", "number", "sender", "goal", "at", "body", "more", "keep"] (Zbs C_Piece) := Zhs ⟨_, _, _, _, _, _, _, _, _, _, rfl, lq0q, cq0q⟩ LP B gq0a gq1b gq0z gq0x;have M_Piece : Mk K C_Piece fq0q := ⟨mk_Piece, aq0q, iq0q, kc_Piece⟩;have i_Piece : MkB l.prog w K mg base "Piece" C_Piece 6 ["self", "number", "sender", "goal", "at", "body", "more", "keep"] [] (Zbs C_Piece) := ⟨_, _, [], o_Piece, m_Piece, M_Piece, (fun s us kx hl => match us, hl with | [_, _, _, _, _, _, _, _], _ => Zh2 kx tq0q), .nil⟩
 have i_Piece_d1 : MkB l.prog w K mg base "Piece" C_Piece 6 ["self", "number", "sender", "goal", "at", "body", "more", "keep"] [.bl false] (Zbs C_Piece) := ⟨_, _, [.bool false], o_Piece, m_Piece, M_Piece, (fun s us kx hl => by obtain ⟨u0, u1, u2, u3, u4, u5, u6, rfl⟩ := Zku hl; exact Zh3 kx tq0q), .cons rfl .nil⟩
 have mq0v : MtB l.prog w K mg base C_Piece "key" 1 ["self"] [] (Zdd C_Piece) := ⟨_, _, _, Zik Fq0v LP, cl_Piece, ⟨aq0v, iq0v, kq0v⟩, bq0v, .nil⟩
 have mq0d : MtB l.prog w K mg base C_Piece "is_like" 2 ["self", "other"] [] (Zcp C_Piece) := ⟨_, _, _, Zfm Fq0d LP mq0v, cl_Piece, ⟨aq0d, iq0d, kq0d⟩, bq0d, .nil⟩
 have gq0s : FnB l.prog w K mg base "shown_key" 1 ["key"] [] (Zdb) := ⟨_, _, _, Zig Fq0s B, mq0s, kq0s, bq0s, .nil⟩
 have gq0m : FnB l.prog w K mg base "shown_truth" 1 ["truth", "sign"] [] (Zcg) := ⟨_, _, _, Zgg Fq0m T, mq0m, kq0m, bq0m, .nil⟩
 have gq0g : FnB l.prog w K mg base "shown_bytes" 1 ["body"] [] (Zch) := ⟨_, _, _, Zgh Fq0g T, mq0g, kq0g, bq0g, .nil⟩
 have gq1j : FnB l.prog w K mg base "shown" 2 ["piece"] [] (Zg5 C_Piece) := ⟨_, _, _, Zm0 Fq1j B T LP gq0s gq0m gq0g (Zjz mq0v), mq1j, kq1j, bq1j, .nil⟩
 have gq0e : FnB l.prog w K mg base "shown_letter" 2 ["letter"] [] (Zc5 C_Letter) := ⟨_, _, _, Zf0 Fq0e B T L gq0s gq0m gq0g (Zj0 mq0o), mq0e, kq0e, bq0e, .nil⟩
 have gq1c : FnX l.prog w K mg base "words_of" 1 ["text", "count"] [] (Zdq C_NoText) := ⟨_, _, _, Zi8 Fq1c B X_NoText, mq1c, kq1c, bq1c, .nil⟩
 have gq0h : FnB l.prog w K mg base "read_number" 2 ["word"] [] (Zci) := ⟨_, _, _, Zgi Fq0h B gq0j, mq0h, kq0h, bq0h, .nil⟩
 have gq0n : FnB l.prog w K mg base "read_truth" 1 ["word", "sign"] [] (Zcs) := ⟨_, _, _, Zhp Fq0n T, mq0n, kq0n, bq0n, .nil⟩
 have gq0p : FnB l.prog w K mg base "read_bytes" 1 ["word"] [] (Zcu) := ⟨_, _, _, Zhr Fq0p B T, mq0p, kq0p, bq0p, .nil⟩
 have gq0r : FnX l.prog w K mg base "read_piece" 8 ["text"] [] (Zct C_Piece C_NoText) := ⟨_, _, _, Zhq Fq0r T gq1c gq0h gq0n gq0p (Ztb i_Piece), mq0r, kq0r, bq0r, .nil⟩
 have gq0i : FnX l.prog w K mg base "read_letter" 8 ["text"] [] (Zcj C_Letter C_NoText) := ⟨_, _, _, Zgj Fq0i T gq1c gq0h gq0n gq0p (Zsj i_Letter), mq0i, kq0i, bq0i, .nil⟩
 have gq1k : FnB l.prog w K mg base "_law_mixed" 1 ["_law_number"] [] (Zg6) := ⟨_, _, _, Zm1 Fq1k, mq1k, kq1k, bq1k, .nil⟩
 have gq1l : FnB l.prog w K mg base "_law_state" 1 ["_law_cell", "_law_k"] [] (Zg4) := ⟨_, _, _, Zmz Fq1l, mq1l, kq1l, bq1l, .nil⟩
 have gq1i : FnB l.prog w K mg base "_law_digit" 2 ["_law_state_here", "_law_base"] [] (Zdc) := ⟨_, _, _, Zm2 Fq1i gq1k, mq1i, kq1i, bq1i, .nil⟩
 have gq1m : FnB l.prog w K mg base "_law_name" 3 ["_law_state_here", "_law_some"] [] (Zi1) := ⟨_, _, _, Zor Fq1m B gq1i, mq1m, kq1m, bq1m, .nil⟩
 have gq1p : FnB l.prog w K mg base "_law_key" 4 ["_law_state_here"] [] (Zjp) := ⟨_, _, _, Zqo Fq1p gq1i gq1m, mq1p, kq1p, bq1p, .nil⟩
 have gq1e : FnB l.prog w K mg base "_law_body" 3 ["_law_state_here", "_law_length"] [] (Zdk) := ⟨_, _, _, Zkl Fq1e B gq1i, mq1e, kq1e, bq1e, .nil⟩
 have gq0t : FnB l.prog w K mg base "_law_letter" 8 ["_law_state_here", "_law_most"] [] (Zd2 C_Letter) := ⟨_, _, _, Zii Fq0t gq1i gq1p gq1e (Zsj i_Letter), mq0t, kq0t, bq0t, .nil⟩
 have gq1a : FnB l.prog w K mg base "_law_piece" 8 ["_law_state_here", "_law_most"] [] (Zed C_Piece) := ⟨_, _, _, Zja Fq1a gq1i gq1p gq1e (Ztb i_Piece), mq1a, kq1a, bq1a, .nil⟩
 have gq1n : FnB l.prog w K mg base "_law_word" 1 ["_law_byte"] [] (Zi0) := ⟨_, _, _, Zoq Fq1n, mq1n, kq1n, bq1n, .nil⟩
 have gq1o : FnB l.prog w K mg base "_law_due" 2 ["_law_one", "_law_at", "_law_more"] [] (Zjq K) := ⟨_, _, _, Zqp Fq1o B gq1n, mq1o, kq1o, bq1o, .nil⟩
 have gq0w : FnB l.prog w K mg base "_law_no_letter" 9 ["_law_text"] [] (Zd1) := ⟨_, _, _, Zih Fq0w m_NoText W_NoText kmr_NoText_NoText gq0i, mq0w, kq0w, bq0w, .nil⟩
 have gq1d : FnB l.prog w K mg base "_law_no_piece" 9 ["_law_text"] [] (Zec) := ⟨_, _, _, Zi9 Fq1d m_NoText W_NoText kmr_NoText_NoText gq0r, mq1d, kq1d, bq1d, .nil⟩
 have gq0l : FnB l.prog w K mg base "_law_piece_right" 10 ["_law_piece_here"] [] (Zdg C_Piece) := ⟨_, _, _, Zgk Fq0l B LP m_Piece ic_Piece gq1j gq1o gq0r gq0w (Zjz mq0v) (Zlv mq0d), mq0l, kq0l, bq0l, .nil⟩
 have gq0f : FnB l.prog w K mg base "_law_letter_right" 10 ["_law_letter_here"] [] (Zc6 C_Letter) := ⟨_, _, _, Zf1 Fq0f B L m_Letter ic_Letter gq0e gq1o gq0i gq1d (Zj0 mq0o) (Zlw mq0c), mq0f, kq0f, bq0f, .nil⟩
 exact Zqn Fq1q B gq1l gq1i gq1e gq1a gq0t (Zsj i_Letter) (Zsi i_Piece_d1) gq0l gq0f
theorem walk {l : PySem.W.OpenLaw} {q : Program} {loose : List Str} {XP : (Str -> Option Value) -> Heap -> Prop} {YP : World -> Heap -> Prop} {d : DefRec} {K : Params -> PySem.W.Frag} (hn : l.most = some 63) (hdf : d.params.defaults = [])
  (hY : ∀ (w : World) (h : Heap), YP w h -> (K w.params).In h)
  (F : ∀ (w : World) (mg : Str -> Option Value) (fa : Addr) (h : Heap), (K w.params).In h -> h.Ns mainGlobals mg -> mg d.name = some (.ref fa) ->
   ∃ fd : FuncData, (∀ (s : Shared) (u : Value), BindsTo s fd ⟨[u], []⟩ [("_law_script", u)]) /\ ∀ base : Heap, (K w.params).In base -> base.Ns mainGlobals mg -> FnOk l.prog w (K w.params) mg base CX0 11 fa fd ["_law_script"] (Zjo (K w.params))) :
  PySem.W.WalkO q loose XP YP l.row.toRowW d [] (fun f vs => PySem.call f vs) :=
 L2.walk_of (n := 63) (k := 11) (x := "_law_script") (CX := fun _ => CX0) (sp := fun w => Zjo (K w.params)) hn (by decide) hdf ⟨rfl, by decide, by decide⟩ hY F (fun _ _ a ns hl _ hS => ⟨a, ns, rfl, hS, hl, fun _ => rfl⟩) fun _ _ _ _ _ z => z
end Mine
namespace PySem.W.Fast
def tw549744796959744096 := ()
def tw5340468936480971904 := ()
def tw11061989212823989504 := ()
def tw8216652825984063744 := ()
def tw9385403343081856480 := ()
def tw15843938039992944160 := ()
def tw4711129317830197184 := ()
def tw1810442137749257345 := ()
def tw8211342768454257089 := ()
def tw18416519602183635425 := ()
def tw7658990118049936865 := ()
def tw765617587896276705 := ()
def tw1362392974012401409 := ()
def tw11358815874029435681 := ()
def tw5729529614681296066 := ()
def tw13401998005107617250 := ()
def tw1374343322109821634 := ()
def tw9122703198927102690 := ()
def tw7453034077409891202 := ()
def tw8943640113980409794 := ()
def tw15923732697599906851 := ()
def tw12349436880502030435 := ()
def tw5836515784204391587 := ()
def tw7755292785216254115 := ()
def tw4244638253593163043 := ()
def tw13148324748427923779 := ()
def tw14630560080946450819 := ()
def tw17880372743413882243 := ()
def tw14553218343035498915 := ()
def tw881219056381172291 := ()
def tw9380786115207627427 := ()
def tw4254501999147694755 := ()
def tw4117598001677160387 := ()
def tw14984023092122755204 := ()
def tw794053239855042820 := ()
def tw1534267589327099236 := ()
def tw17619908133732784612 := ()
def tw10278119394728379012 := ()
def tw8922376814676830948 := ()
def tw8036687210047980292 := ()
def tw9422399339787743012 := ()
def tw8176841462763978692 := ()
def tw5416180088562623428 := ()
def tw7691062964168330212 := ()
def tw15891446707045837861 := ()
def tw2305701886655037605 := ()
def tw16412798205439278341 := ()
def tw1148254959816992229 := ()
def tw5917434390839723525 := ()
def tw257474084037564069 := ()
def tw678602547710144197 := ()
def tw530761279016287109 := ()
def tw15753603474750662565 := ()
def tw8822471540203539429 := ()
def tw11154230629975405606 := ()
def tw6653727124932573382 := ()
def tw3012152389423015110 := ()
def tw14423400047962961094 := ()
def tw10372072364864805190 := ()
def tw14539625725720748518 := ()
def tw7349496629429683686 := ()
def tw14896677388575899174 := ()
def tw2681150806421675590 := ()
def tw4068553122234292870 := ()
def tw4089975095688845062 := ()
def tw5108020688458609446 := ()
def tw5517184203105329990 := ()
def tw1510623730899242982 := ()
def tw13992832318194305095 := ()
def tw11321480159380805735 := ()
def tw9968545088479104327 := ()
def tw17344079943119245671 := ()
def tw10027451350769476007 := ()
def tw11407040739980090887 := ()
def tw5197730206329569863 := ()
def tw14678875111844727527 := ()
def tw5632059696415602439 := ()
def tw6123644659215901511 := ()
def tw10022892071406757767 := ()
def tw16812738385989093576 := ()
def tw5831199155929633064 := ()
def tw5814016751620316456 := ()
def tw6601615919000441320 := ()
def tw12768253149423866504 := ()
def tw12658170691837727785 := ()
def tw9478185177524632649 := ()
def tw17698623278940900841 := ()
def tw18280765917901630985 := ()
def tw9160990628587274825 := ()
def tw6200448284696945257 := ()
def tw2011531511704062601 := ()
def tw6458916139059787465 := ()
def tw13826199336139021065 := ()
def tw3074190232090151689 := ()
def tw17356282638541935690 := ()
def tw8109309500897442986 := ()
def tw109703652061451530 := ()
def tw15657810259230826762 := ()
def tw7120843253478299082 := ()
def tw17040580691626037738 := ()
def tw2828495011353874218 := ()
def tw112010816910365578 := ()
def tw17169964022908897194 := ()
def tw14252136132111368235 := ()
def tw7859075676937819243 := ()
def tw15331700496764233003 := ()
def tw17854225464983591243 := ()
def tw1828998049060228587 := ()
def tw14141948143184167403 := ()
def tw15295251945982589451 := ()
def tw1026668604518530731 := ()
def tw18335268250454892363 := ()
def tw993522216132404075 := ()
def tw5346989281186100268 := ()
def tw8844306599807467596 := ()
def tw4060459415632238700 := ()
def tw1730205352530029740 := ()
def tw9330353317800982700 := ()
def tw11848028003332115692 := ()
def tw8938934271869490476 := ()
def tw11933684283854764460 := ()
def tw4764384410785838508 := ()
def tw10835339714849506796 := ()
def tw4137432545504997996 := ()
def tw15826326772461068908 := ()
def tw9701600192381950636 := ()
def tw3708512942899980012 := ()
def tw16873322420300045100 := ()
def tw6470396523630930796 := ()
def tw13589799749993019340 := ()
def tw6591054688443507789 := ()
def tw8968384789917530221 := ()
def tw16801303571728424141 := ()
def tw4825786070458338509 := ()
def tw13602563138016756077 := ()
def tw9066004653800399245 := ()
def tw7982062061102607821 := ()
def tw3802086850120413837 := ()
def tw3224763349444009709 := ()
def tw6969230960080998189 := ()
def tw9529347619260240942 := ()
def tw7636832889679832110 := ()
def tw15139036026509775982 := ()
def tw2159567006972262542 := ()
def tw16988793981865879982 := ()
def tw1897355277797542894 := ()
def tw1578103979087386863 := ()
def tw460050471388731727 := ()
def tw17121083883489050287 := ()
def tw8072605508093300623 := ()
def tw7950731879620685743 := ()
def tw6679521876031174672 := ()
def tw18127624567244187760 := ()
def tw18298730934541188496 := ()
def tw15962384352928463248 := ()
def tw5665035135650942512 := ()
def tw13164974922552180432 := ()
def tw13149623219448720208 := ()
def tw7955533809737787216 := ()
def tw3134823077920923504 := ()
def tw13142440440749161456 := ()
def tw220762172783426609 := ()
def tw15610788835973625937 := ()
def tw11352400041745280273 := ()
def tw4653952012239955441 := ()
def tw4417083929857326705 := ()
def tw8102165896451381937 := ()
def tw127617407188474577 := ()
def tw2966463635677691665 := ()
def tw17945838979138933617 := ()
def tw8911286217224598449 := ()
def tw2851583849780946897 := ()
def tw5282621313307871217 := ()
def tw16040740934518831122 := ()
def tw7291074834614883378 := ()
def tw8405052728421096498 := ()
def tw14052138921122285682 := ()
def tw11113486869055427698 := ()
def tw2184550659814090866 := ()
def tw7708121071372837010 := ()
def tw11614695667872137362 := ()
def tw11500209385120854194 := ()
def tw15351860026731178226 := ()
def tw13961492755831598418 := ()
def tw12140592854951422482 := ()
def tw926140231555672626 := ()
def tw6568204365270902450 := ()
def tw6556173289880877746 := ()
def tw11291993573761629906 := ()
def tw4479326787593513778 := ()
def tw4477964851536312114 := ()
def tw1106180770657763122 := ()
def tw819284664517574482 := ()
def tw15304069888533713746 := ()
def tw4392503421477331858 := ()
def tw9038776988499176531 := ()
def tw8779222643665870003 := ()
def tw1003105838001904915 := ()
def tw813624381177003539 := ()
def tw8198029393418451507 := ()
def tw14886105225739893331 := ()
def tw6264080722799000179 := ()
def tw6418744860705881779 := ()
def tw7279341059825869555 := ()
def tw2150994523578090323 := ()
def tw4212227713057130451 := ()
def tw14516476910228199411 := ()
def tw4865786536247492724 := ()
def tw9352333279485387188 := ()
def tw7761911000080245332 := ()
def tw11019333607643691732 := ()
def tw3441343678842036084 := ()
def tw18229394550319708052 := ()
def tw968072922612189365 := ()
def tw18396218833090831893 := ()
def tw6679236652150111925 := ()
def tw2147585585833783061 := ()
def tw2030840526800700181 := ()
def tw17698880390434746133 := ()
def tw15610063065205353365 := ()
def tw12968784838053468085 := ()
def tw1490331411035356117 := ()
def tw13237100654934164534 := ()
def tw18378277637971710102 := ()
def tw8862859241950203094 := ()
def tw6679010735684114902 := ()
def tw3180667793208432246 := ()
def tw12019672337089648342 := ()
def tw10589081564579983062 := ()
def tw15741649851528391831 := ()
def tw17842188982078866615 := ()
def tw18113612258561201367 := ()
def tw6599244655701881079 := ()
def tw16175169699974201751 := ()
def tw18424984222283998679 := ()
def tw8387739038377058039 := ()
def tw8820941635768405751 := ()
def tw2339929744472146008 := ()
def tw16211092395879308440 := ()
def tw16066321095682169080 := ()
def tw6825596860342866232 := ()
def tw856543358793596472 := ()
def tw17872528497244160664 := ()
def tw3209836766537994904 := ()
def tw15533930919760359096 := ()
def tw918549651228275480 := ()
def tw5093810465843662712 := ()
def tw5063875028669491289 := ()
def tw13157501833657651321 := ()
def tw3049444795969130809 := ()
def tw14393740733902065145 := ()
def tw9623893442713375289 := ()
def tw15621207849389470297 := ()
def tw12192444110160268953 := ()
def tw4818921302165911289 := ()
def tw14702621973872893721 := ()
def tw12394908308937606073 := ()
def tw10478495920013682778 := ()
def tw16666888341198716026 := ()
def tw2662381800031835386 := ()
def tw554476931938511162 := ()
def tw10767254009115467226 := ()
def tw5690676675698016794 := ()
def tw849199957350614650 := ()
def tw2303714721766582938 := ()
def tw5217801450670391962 := ()
def tw11600019543294418650 := ()
def tw5305771185483671258 := ()
def tw13884553222325309242 := ()
def tw16398434486520491866 := ()
def tw16281121496389195738 := ()
def tw12947448049133804795 := ()
def tw7826127828181911835 := ()
def tw15970312858053838267 := ()
def tw13152808771045938619 := ()
def tw13829265728932753979 := ()
def tw6401561381766130331 := ()
def tw16226217685652201115 := ()
def tw1498459194295102139 := ()
def tw7507507513465546523 := ()
def tw14781229291040351035 := ()
def tw4696074779056158555 := ()
def tw1823779124470740891 := ()
def tw9556626938299111355 := ()
def tw252548726369404923 := ()
def tw10876017396323194908 := ()
def tw16862939271110331484 := ()
def tw7733871371061824892 := ()
def tw11077717464904468956 := ()
def tw17260798412502813212 := ()
def tw15701970397763390076 := ()
def tw8933243426196843164 := ()
def tw5663586065276872380 := ()
def tw10764897379270313788 := ()
def tw345761216113517404 := ()
def tw1817540756670703548 := ()
def tw11715342046253825501 := ()
def tw12143505841133236318 := ()
def tw5499927043363627294 := ()
def tw3064186324861296606 := ()
def tw6920479732735204350 := ()
def tw11852792200662638687 := ()
def tw15962793455900675423 := ()
def tw13394492353544692063 := ()
def tw6971507941652680063 := ()
def tw13662797287304310143 := ()
def tw1540643030600876543 := ()
def tw16297856182016539327 := ()
def tw9838839900313841407 := ()
def tw8691857347826542399 := ()
def tw5453039540281464799 := ()
end PySem.W.Fast
open PySem PySem.W PyProof.Rows
set_option maxRecDepth 100000 in
set_option maxHeartbeats 0 in
theorem PySem.Challenge.cw_pieceways_k51_pieces_and_letters_as_text_holds : PySem.Challenge.rw_pieceways_k51_pieces_and_letters_as_text.Holds := by
 w_on; o_law; k_head; (case hw => w_witness2)
 k_fill
 refine Mine.walk (l := PySem.Challenge.rw_pieceways_k51_pieces_and_letters_as_text) rfl rfl (fun w h Y => PySem.W.kIn_of Y) ?F
 case F =>
  intro w mg fa h KX G hmg;refine' Mine.all_mk KX G hmg ?aq0y ?lq0y ?cq0y ?kq0y ?aq0b ?lq0b ?cq0b ?kq0b ?aq0z ?lq0z ?cq0z ?kq0z ?aq0u ?lq0u ?cq0u ?kq0u ?aq1h ?lq1h ?cq1h ?kq1h ?aq1f ?lq1f ?cq1f ?kq1f ?aq1g ?lq1g ?cq1g ?kq1g ?aq0j ?lq0j ?cq0j ?kq0j ?aq0a ?lq0a ?cq0a ?kq0a ?aq1b ?lq1b ?cq1b ?kq1b ?aq0x ?lq0x ?cq0x ?kq0x ?aq0s ?lq0s ?cq0s ?kq0s ?aq0m ?lq0m ?cq0m ?kq0m ?aq0g ?lq0g ?cq0g ?kq0g ?aq1j ?lq1j ?cq1j ?kq1j ?aq0e ?lq0e ?cq0e ?kq0e ?aq1c ?lq1c ?cq1c ?kq1c ?aq0h ?lq0h ?cq0h ?kq0h ?aq0n ?lq0n ?cq0n ?kq0n ?aq0p ?lq0p ?cq0p ?kq0p ?aq0r ?lq0r ?cq0r ?kq0r ?aq0i ?lq0i ?cq0i ?kq0i ?aq1k ?lq1k ?cq1k ?kq1k ?aq1l ?lq1l ?cq1l ?kq1l ?aq1i ?lq1i ?cq1i ?kq1i ?aq1m ?lq1m ?cq1m ?kq1m ?aq1p ?lq1p ?cq1p ?kq1p ?aq1e ?lq1e ?cq1e ?kq1e ?aq0t ?lq0t ?cq0t ?kq0t ?aq1a ?lq1a ?cq1a ?kq1a ?aq1n ?lq1n ?cq1n ?kq1n ?aq1o ?lq1o ?cq1o ?kq1o ?aq0w ?lq0w ?cq0w ?kq0w ?aq1d ?lq1d ?cq1d ?kq1d ?aq0l ?lq0l ?cq0l ?kq0l ?aq0f ?lq0f ?cq0f ?kq0f ?aq1q ?lq1q ?cq1q ?kq1q ?aC_Letter ?aq0k ?iq0k ?lq0k ?cq0k ?kq0k ?tq0k ?aq0o ?iq0o ?lq0o ?cq0o ?kq0o ?aq0c ?iq0c ?lq0c ?cq0c ?kq0c ?pg_Letter ?hd_Letter ?po_Letter ?sa_Letter ?mk_Letter ?kc_Letter ?n_Letter_number ?n_Letter_sender ?n_Letter_goal ?n_Letter_body ?n_Letter_keep ?ih_Letter ?in_Letter ?it_Letter ?im_Letter ?aC_Piece ?aq0q ?iq0q ?lq0q ?cq0q ?kq0q ?tq0q ?aq0v ?iq0v ?lq0v ?cq0v ?kq0v ?aq0d ?iq0d ?lq0d ?cq0d ?kq0d ?pg_Piece ?hd_Piece ?po_Piece ?sa_Piece ?mk_Piece ?kc_Piece ?n_Piece_number ?n_Piece_sender ?n_Piece_goal ?n_Piece_at ?n_Piece_body ?n_Piece_more ?n_Piece_keep ?ih_Piece ?in_Piece ?it_Piece ?im_Piece ?aC_NoText ?kty_NoText ?kbe_NoText ?exc_NoText ?kmr_NoText_NoText ?q_MOST_NUMBER ?q_MOST_BYTE ?q_MOST_SIGNS ?q_MOST_BYTES ?q_MOST_FIGURES ?q_STEP ?q_BASE ?q_WORDS_OF_A_PIECE ?q_WORDS_OF_A_LETTER ?q_HALVES ?q_NO_SIGN ?q_MORE_SIGN ?q_KEEP_SIGN ?z_len ?z_range ?z_isinstance ?z_all ?z_min ?z_max ?z_int ?z_bool ?z_str ?z_list ?z_tuple
  (case aq0y => k_is)
  (case lq0y => k_is)
  (case cq0y => k_is)
  (case kq0y => k_is)
  (case aq0b => k_is)
  (case lq0b => k_is)
  (case cq0b => k_is)
  (case kq0b => k_is)
  (case aq0z => k_is)
  (case lq0z => k_is)
  (case cq0z => k_is)
  (case kq0z => k_is)
  (case aq0u => k_is)
  (case lq0u => k_is)
  (case cq0u => k_is)
  (case kq0u => k_is)
  (case aq1h => k_is)
  (case lq1h => k_is)
  (case cq1h => k_is)
  (case kq1h => k_is)
  (case aq1f => k_is)
  (case lq1f => k_is)
  (case cq1f => k_is)
  (case kq1f => k_is)
  (case aq1g => k_is)
  (case lq1g => k_is)
  (case cq1g => k_is)
  (case kq1g => k_is)
  (case aq0j => k_is)
  (case lq0j => k_is)
  (case cq0j => k_is)
  (case kq0j => k_is)
  (case aq0a => k_is)
  (case lq0a => k_is)
  (case cq0a => k_is)
  (case kq0a => k_is)
  (case aq1b => k_is)
  (case lq1b => k_is)
  (case cq1b => k_is)
  (case kq1b => k_is)
  (case aq0x => k_is)
  (case lq0x => k_is)
  (case cq0x => k_is)
  (case kq0x => k_is)
  (case aq0s => k_is)
  (case lq0s => k_is)
  (case cq0s => k_is)
  (case kq0s => k_is)
  (case aq0m => k_is)
  (case lq0m => k_is)
  (case cq0m => k_is)
  (case kq0m => k_is)
  (case aq0g => k_is)
  (case lq0g => k_is)
  (case cq0g => k_is)
  (case kq0g => k_is)
  (case aq1j => k_is)
  (case lq1j => k_is)
  (case cq1j => k_is)
  (case kq1j => k_is)
  (case aq0e => k_is)
  (case lq0e => k_is)
  (case cq0e => k_is)
  (case kq0e => k_is)
  (case aq1c => k_is)
  (case lq1c => k_is)
  (case cq1c => k_is)
  (case kq1c => k_is)
  (case aq0h => k_is)
  (case lq0h => k_is)
  (case cq0h => k_is)
  (case kq0h => k_is)
  (case aq0n => k_is)
  (case lq0n => k_is)
  (case cq0n => k_is)
  (case kq0n => k_is)
  (case aq0p => k_is)
  (case lq0p => k_is)
  (case cq0p => k_is)
  (case kq0p => k_is)
  (case aq0r => k_is)
  (case lq0r => k_is)
  (case cq0r => k_is)
  (case kq0r => k_is)
  (case aq0i => k_is)
  (case lq0i => k_is)
  (case cq0i => k_is)
  (case kq0i => k_is)
  (case aq1k => k_is)
  (case lq1k => k_is)
  (case cq1k => k_is)
  (case kq1k => k_is)
  (case aq1l => k_is)
  (case lq1l => k_is)
  (case cq1l => k_is)
  (case kq1l => k_is)
  (case aq1i => k_is)
  (case lq1i => k_is)
  (case cq1i => k_is)
  (case kq1i => k_is)
  (case aq1m => k_is)
  (case lq1m => k_is)
  (case cq1m => k_is)
  (case kq1m => k_is)
  (case aq1p => k_is)
  (case lq1p => k_is)
  (case cq1p => k_is)
  (case kq1p => k_is)
  (case aq1e => k_is)
  (case lq1e => k_is)
  (case cq1e => k_is)
  (case kq1e => k_is)
  (case aq0t => k_is)
  (case lq0t => k_is)
  (case cq0t => k_is)
  (case kq0t => k_is)
  (case aq1a => k_is)
  (case lq1a => k_is)
  (case cq1a => k_is)
  (case kq1a => k_is)
  (case aq1n => k_is)
  (case lq1n => k_is)
  (case cq1n => k_is)
  (case kq1n => k_is)
  (case aq1o => k_is)
  (case lq1o => k_is)
  (case cq1o => k_is)
  (case kq1o => k_is)
  (case aq0w => k_is)
  (case lq0w => k_is)
  (case cq0w => k_is)
  (case kq0w => k_is)
  (case aq1d => k_is)
  (case lq1d => k_is)
  (case cq1d => k_is)
  (case kq1d => k_is)
  (case aq0l => k_is)
  (case lq0l => k_is)
  (case cq0l => k_is)
  (case kq0l => k_is)
  (case aq0f => k_is)
  (case lq0f => k_is)
  (case cq0f => k_is)
  (case kq0f => k_is)
  (case aq1q => k_is)
  (case lq1q => k_is)
  (case cq1q => k_is)
  (case kq1q => k_is)
  (case aC_Letter => k_is)
  (case aq0k => k_is)
  (case iq0k => k_is)
  (case lq0k => k_is)
  (case cq0k => k_is)
  (case kq0k => k_is)
  (case tq0k => k_is)
  (case aq0o => k_is)
  (case iq0o => k_is)
  (case lq0o => k_is)
  (case cq0o => k_is)
  (case kq0o => k_is)
  (case aq0c => k_is)
  (case iq0c => k_is)
  (case lq0c => k_is)
  (case cq0c => k_is)
  (case kq0c => k_is)
  (case pg_Letter => k_is)
  (case hd_Letter => k_is)
  (case po_Letter => k_is)
  (case sa_Letter => k_is)
  (case mk_Letter => k_is)
  (case kc_Letter => k_is)
  (case n_Letter_number => k_is)
  (case n_Letter_sender => k_is)
  (case n_Letter_goal => k_is)
  (case n_Letter_body => k_is)
  (case n_Letter_keep => k_is)
  (case ih_Letter => k_is)
  (case in_Letter => k_is)
  (case it_Letter => k_is)
  (case im_Letter => k_is)
  (case aC_Piece => k_is)
  (case aq0q => k_is)
  (case iq0q => k_is)
  (case lq0q => k_is)
  (case cq0q => k_is)
  (case kq0q => k_is)
  (case tq0q => k_is)
  (case aq0v => k_is)
  (case iq0v => k_is)
  (case lq0v => k_is)
  (case cq0v => k_is)
  (case kq0v => k_is)
  (case aq0d => k_is)
  (case iq0d => k_is)
  (case lq0d => k_is)
  (case cq0d => k_is)
  (case kq0d => k_is)
  (case pg_Piece => k_is)
  (case hd_Piece => k_is)
  (case po_Piece => k_is)
  (case sa_Piece => k_is)
  (case mk_Piece => k_is)
  (case kc_Piece => k_is)
  (case n_Piece_number => k_is)
  (case n_Piece_sender => k_is)
  (case n_Piece_goal => k_is)
  (case n_Piece_at => k_is)
  (case n_Piece_body => k_is)
  (case n_Piece_more => k_is)
  (case n_Piece_keep => k_is)
  (case ih_Piece => k_is)
  (case in_Piece => k_is)
  (case it_Piece => k_is)
  (case im_Piece => k_is)
  (case aC_NoText => k_is)
  (case kty_NoText => k_is)
  (case kbe_NoText => k_is)
  (case exc_NoText => k_exc)
  (case kmr_NoText_NoText => k_is)
  (case q_MOST_NUMBER => k_is)
  (case q_MOST_BYTE => k_is)
  (case q_MOST_SIGNS => k_is)
  (case q_MOST_BYTES => k_is)
  (case q_MOST_FIGURES => k_is)
  (case q_STEP => k_is)
  (case q_BASE => k_is)
  (case q_WORDS_OF_A_PIECE => k_is)
  (case q_WORDS_OF_A_LETTER => k_is)
  (case q_HALVES => k_is)
  (case q_NO_SIGN => k_is)
  (case q_MORE_SIGN => k_is)
  (case q_KEEP_SIGN => k_is)
  (case z_len => k_is)
  (case z_range => k_is)
  (case z_isinstance => k_is)
  (case z_all => k_is)
  (case z_min => k_is)
  (case z_max => k_is)
  (case z_int => k_is)
  (case z_bool => k_is)
  (case z_str => k_is)
  (case z_list => k_is)
  (case z_tuple => k_is)
