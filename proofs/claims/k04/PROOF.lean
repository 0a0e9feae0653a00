import PyProof.Rows.All
import Wide.All
import OpenK.AllK
import Wide.FinOn
import Lean
import PyProof.EqAt
import PyProof.EqKinds
import PyProof.TupleCall
import OpenK.KOwn
import KE.KIsAll
import KE.KLam
import PySem.Challenge.RW_pieceways_k04_what_is_no_piece
set_option Elab.async false
set_option linter.all false
set_option maxRecDepth 100000
noncomputable section
namespace L2
open PySem PySem.Spec PyProof.Rows
abbrev Key := Sum Int Str
def Zno : Key -> Value -> Bool
 | .inl k, v => Value.isInt k v
 | .inr x, v => Value.isStrOf x v
def Zp8 (w : World) : Key -> Int
 | .inl k => hashInt k
 | .inr x => hashStr w x
theorem Za7 : ∀ {k : Key} {v : Value}, Zno k v = true -> (∃ i t, k = Sum.inl i /\ v = Value.int i t) \/ (∃ x t, k = Sum.inr x /\ v = Value.str x t)
 | .inl i, v, h => by
  obtain ⟨t, e⟩ := Value.isInt_shape (k := i) (v := v) h;exact .inl ⟨i, t, rfl, e⟩
 | .inr x, v, h => by
  obtain ⟨t, e⟩ := Value.isStrOf_shape (x := x) (v := v) h;exact .inr ⟨x, t, rfl, e⟩
theorem Znn (a b : Int) : decide ((Sum.inl a : Key) = Sum.inl b) = (a == b) := by
 by_cases e : a = b
 ·subst e; simp
 ·have h : ¬ (Sum.inl a : Key) = Sum.inl b := fun q => e (Sum.inl.inj q)
  rw [decide_eq_false h];exact (beq_eq_false_iff_ne.mpr e).symm
theorem Znk (a b : Str) : decide ((Sum.inr a : Key) = Sum.inr b) = decide (a = b) := by
 by_cases e : a = b
 ·subst e; simp
 ·have h : ¬ (Sum.inr a : Key) = Sum.inr b := fun q => e (Sum.inr.inj q)
  rw [decide_eq_false h, decide_eq_false e]
theorem Znm (a : Int) (b : Str) : decide ((Sum.inl a : Key) = Sum.inr b) = false := decide_eq_false (fun q => nomatch q)
theorem Znl (a : Str) (b : Int) : decide ((Sum.inr a : Key) = Sum.inl b) = false := decide_eq_false (fun q => nomatch q)
def mixKind (prog : Program) (w : World) : PySem.KeyKind prog w Key where
 is := Zno
 hash := Zp8 w
 inj := fun v a b ha hb => by
  rcases Za7 ha with ⟨i, t, rfl, rfl⟩ | ⟨x, t, rfl, rfl⟩
  ·rcases Za7 hb with ⟨j, u, rfl, e⟩ | ⟨y, u, rfl, e⟩
   ·injection e with e1 _; rw [e1]
   ·exact nomatch e
  ·rcases Za7 hb with ⟨j, u, rfl, e⟩ | ⟨y, u, rfl, e⟩
   ·exact nomatch e
   ·injection e with e1 _; rw [e1]
 byValue := fun k v h => by
  rcases Za7 h with ⟨i, t, rfl, rfl⟩ | ⟨x, t, rfl, rfl⟩ <;> rfl
 pyHash := fun hv h => by
  rcases Za7 hv with ⟨i, t, rfl, rfl⟩ | ⟨x, t, rfl, rfl⟩
  ·exact wpAny_pyHash_int h
  ·exact wpAny_pyHash_str h
 eqBool := fun hu hv h => by
  rcases Za7 hu with ⟨i, t, rfl, rfl⟩ | ⟨x, t, rfl, rfl⟩
  ·rcases Za7 hv with ⟨j, u, rfl, rfl⟩ | ⟨y, u, rfl, rfl⟩
   ·rw [Znn] at h; exact wpAny_eqBool_int h
   ·rw [Znm] at h; exact SeqAt.EqAt.int_str i t y u _ _ _ _ h
  ·rcases Za7 hv with ⟨j, u, rfl, rfl⟩ | ⟨y, u, rfl, rfl⟩
   ·rw [Znl] at h; exact SeqAt.EqAt.str_int x t j u _ _ _ _ h
   ·rw [Znk] at h; exact wpAny_eqBool_str h
 «strs» := fun k x t v h => by
  rcases Za7 h with ⟨i, u, rfl, e⟩ | ⟨y, u, rfl, e⟩
  ·exact nomatch e
  ·injection e with e1 _;subst e1;cases v <;> rfl
end L2
namespace L2
open PySem PySem.Spec PyProof.Rows
inductive V where
 | non | bl (b : Bool) | int (i : Int) | str (x : Str) | byt (b : Array UInt8) | flt (b : UInt64) | ref (a : Addr) | ty (n : String)
 deriving DecidableEq
def RelV : V -> Value -> Prop
 | .non, u => u = Value.none
 | .bl b, u => u = Value.bool b
 | .int i, u => ∃ t, u = Value.int i t
 | .str x, u => ∃ t, u = Value.str x t
 | .byt b, u => ∃ t, u = Value.bytes b t
 | .flt b, u => ∃ t, u = Value.float b t
 | .ref a, u => u = Value.ref a
 | .ty n, u => u = Value.type n
abbrev Vals : List V -> List Value -> Prop := Paired RelV
theorem Vals.length {xs : List V} {us : List Value} (r : Vals xs us) : xs.length = us.length := Paired.length r
theorem Vals.get : ∀ {xs : List V} {us : List Value} {i : Nat} {x : V}, Vals xs us -> xs[i]? = some x -> ∃ u, us[i]? = some u /\ RelV x u
 | _, _, _, _, .nil, e => by simp at e
 | _, _, 0, _, .cons r _, e => by simp at e; subst e; exact ⟨_, rfl, r⟩
 | _, _, i + 1, x, .cons _ t, e => by
  obtain ⟨u, h1, h2⟩ := Vals.get (i := i) (x := x) t (by simpa using e);exact ⟨u, by simpa using h1, h2⟩
theorem Vals.set {x : V} {u : Value} (r : RelV x u) : ∀ {xs : List V} {us : List Value} (i : Nat), Vals xs us -> Vals (xs.set i x) (us.set i u)
 | _, _, _, .nil => .nil
 | _, _, 0, .cons _ t => .cons r t
 | _, _, i + 1, .cons q t => .cons q (Vals.set r i t)
theorem Vals.append : ∀ {xs ys : List V} {us ws : List Value}, Vals xs us -> Vals ys ws -> Vals (xs ++ ys) (us ++ ws)
 | _, _, _, _, .nil, s => s
 | _, _, _, _, .cons r t, s => .cons r (Vals.append t s)
theorem Vals.take : ∀ {xs : List V} {us : List Value} (n : Nat), Vals xs us -> Vals (xs.take n) (us.take n)
 | _, _, 0, _ => .nil
 | _, _, _ + 1, .nil => .nil
 | _, _, n + 1, .cons r t => .cons r (Vals.take n t)
theorem Vals.drop : ∀ {xs : List V} {us : List Value} (n : Nat), Vals xs us -> Vals (xs.drop n) (us.drop n)
 | _, _, 0, r => r
 | _, _, _ + 1, .nil => .nil
 | _, _, n + 1, .cons _ t => Vals.drop n t
def RelO : Option V -> Option Value -> Prop
 | some v, some u => RelV v u
 | none, none => True
 | _, _ => False
def KV {κ : Type} : List (κ × V) -> List (κ × Value) -> Prop := Paired fun (p : κ × V) (q : κ × Value) => p.1 = q.1 /\ RelV p.2 q.2
def kV : Key -> V
 | .inl i => .int i
 | .inr x => .str x
inductive HO where
 | lst (xs : List V)
 | tup (xs : List V)
 | dK (kvs : List (Key × V)) | dT (kvs : List (List Key × V))
 | set (S : Int -> Bool) (n : Nat)
 | ins (C dx : Addr) (fs : List (Str × V))
 | own (x : Addr)
 | xd (fs : List (Str × V))
 | met (f x : Addr)
 | rng (lo hi : Int)
 | frz (o : Obj) (u : HO)
 | tbl (ps : Array Value)
 | ext (φ : Heap -> Prop)
abbrev Hp := Addr -> Option HO
def upd (H : Hp) (a : Addr) (o : HO) : Hp := fun b => if b = a then some o else H b
theorem Zai {H : Hp} {a : Addr} {o : HO} : upd H a o a = some o := by unfold upd; rw [if_pos rfl]
theorem Zaj {H : Hp} {a b : Addr} {o : HO} (h : b ≠ a) : upd H a o b = H b := by unfold upd; rw [if_neg h]
theorem Zo3 {H : Hp} {a b : Addr} {o u : HO} (h : H a = some o) (h' : H b = some u) (d : o ≠ u) : a ≠ b := by
 intro e; subst e; rw [h] at h'; exact d (Option.some.inj h')
theorem Za0 {H : Hp} {a b : Addr} {o : HO} (h : H a = some o) (h' : H b = none) : a ≠ b := by
 intro e; subst e; rw [h] at h'; cases h'
section
variable (P : Program) (w : World)
def ObjOk (H : Hp) (h : Heap) (a : Addr) : HO -> Prop
 | .lst xs => xs.length <= sizeLine /\ ∃ (its : List Value) (n : Nat), Vals xs its /\ h.get? a = some { cls := .type "list", data := .seq its.toArray n }
 | .tup xs => xs.length <= sizeLine /\ ∃ its : List Value, Vals xs its /\ IsTup h a its.toArray
 | .dK kvs => kvs.length <= sizeLine /\ (a == sysModules) = false /\ ∃ vs, KV kvs vs /\ h.DictOf (mixKind P w) a vs
 | .dT kvs => kvs.length <= sizeLine /\ (a == sysModules) = false /\ ∃ xs : List (List Key × Addr × Value),
   Paired (fun (p : List Key × V) (q : List Key × Addr × Value) => p.1 = q.1 /\ H q.2.1 = some (.tup (p.1.map kV)) /\ RelV p.2 q.2.2) kvs xs /\
   ∃ o es ep, h.get? a = some o /\ o.ExactDict /\ o.data = .dict es ep /\ es.toList = xs.map (entryOfKey (tupleKind (mixKind P w))) /\ (xs.map (·.1)).Nodup
 | .set S n => h.SetOf (intKind P w) a S n
 | .ins C dx fs => H dx = some (.own a) /\ fs.length <= 1000 /\ dx ≠ a /\ h.get? a = some (PySem.W.instObj C dx) /\
   ∃ mA, h.Ns1 dx mA /\ (∀ f, RelO (fs.lookup f) (mA f)) /\ PySem.Within mA (fs.map (·.1))
 | .own _ => ∃ o, h.get? a = some o
 | .xd fs => ∃ mA, h.Ns1 a mA /\ ∀ f, RelO (fs.lookup f) (mA f)
 | .rng lo hi => ∃ t u v, h.get? a = some { cls := .type "range", data := .fields #[.int lo t, .int hi u, .int 1 v] }
 | .frz o u => h.get? a = some o /\ ObjOk H h a u
 | .tbl ps => h.get? a = some { cls := .none, data := .fields ps }
 | .met f x => h.get? a = some (PySem.W.methodObj (.ref f) (.ref x))
 | .ext φ => φ h /\ (∃ o, h.get? a = some o) /\ ∀ h1 h2 : Heap, φ h1 -> (∀ o, h1.get? a = some o -> h2.get? a = some o) -> φ h2
def HOk (H : Hp) (h : Heap) : Prop := ∀ a o, H a = some o -> ObjOk P w H h a o
end
section
variable {P : Program} {w : World} {H H' : Hp} {h h' : Heap} {a : Addr} {o : HO}
theorem ObjOk.lt (x : ObjOk P w H h a o) : a < h.objs.size := by
 cases o with
 | lst xs => obtain ⟨_, _, _, _, e⟩ := x; exact Heap.lt_size e
 | tup xs => obtain ⟨_, _, _, p⟩ := x; exact p.lt
 | dK kvs => obtain ⟨_, _, _, _, o, _, _, e, _⟩ := x; exact Heap.lt_size e
 | dT kvs => obtain ⟨_, _, _, _, o, _, _, e, _⟩ := x; exact Heap.lt_size e
 | set S n => obtain ⟨o, _, _, _, e, _⟩ := x; exact Heap.lt_size e
 | ins C dx fs => obtain ⟨_, _, _, e, _⟩ := x; exact Heap.lt_size e
 | own y => obtain ⟨_, e⟩ := x; exact Heap.lt_size e
 | xd fs => obtain ⟨_, ⟨_, _, _, e, _⟩, _⟩ := x; exact Heap.lt_size e
 | rng lo hi => obtain ⟨_, _, _, e⟩ := x; exact Heap.lt_size e
 | frz ob u => obtain ⟨e, _⟩ := x; exact Heap.lt_size e
 | tbl ps => exact Heap.lt_size (show h.get? a = some _ from x)
 | met f y => exact Heap.lt_size (show h.get? a = some _ from x)
 | ext φ => obtain ⟨_, ⟨_, e⟩, _⟩ := x; exact Heap.lt_size e
theorem Paired.mapP {α β : Type} {F G : α -> β -> Prop} : ∀ {l₁ : List α} {l₂ : List β}, Paired F l₁ l₂ -> (∀ a b, F a b -> G a b) -> Paired G l₁ l₂
 | _, _, .nil, _ => .nil
 | _, _, .cons r t, f => .cons (f _ _ r) (Paired.mapP t f)
theorem ObjOk.stay (x : ObjOk P w H h a o) (k : ∀ b u, (b = a \/ H b = some (.own a)) -> h.get? b = some u -> h'.get? b = some u)
  (ho : ∀ b, H b = some (.own a) -> H' b = some (.own a)) (ht : ∀ b xs, H b = some (.tup xs) -> H' b = some (.tup xs)) : ObjOk P w H' h' a o := by
 induction o with
 | lst xs => obtain ⟨z, its, n, r, e⟩ := x; exact ⟨z, its, n, r, k _ _ (.inl rfl) e⟩
 | tup xs => obtain ⟨z, its, r, ob, e, c⟩ := x; exact ⟨z, its, r, ob, k _ _ (.inl rfl) e, c⟩
 | dK kvs => obtain ⟨z, y, vs, r, ob, es, ep, e, c⟩ := x; exact ⟨z, y, vs, r, ob, es, ep, k _ _ (.inl rfl) e, c⟩
 | dT kvs =>
  obtain ⟨z, y, xs, r, ob, es, ep, e, c⟩ := x;exact ⟨z, y, xs, Paired.mapP r fun p q z => ⟨z.1, ht _ _ z.2.1, z.2.2⟩, ob, es, ep, k _ _ (.inl rfl) e, c⟩
 | set S n => obtain ⟨ob, es, ep, t, e, c⟩ := x; exact ⟨ob, es, ep, t, k _ _ (.inl rfl) e, c⟩
 | ins C dx fs =>
  obtain ⟨d, z, ne, e, mA, ⟨od, es, ep, e2, c⟩, r⟩ := x;exact ⟨ho _ d, z, ne, k _ _ (.inl rfl) e, mA, ⟨od, es, ep, k _ _ (.inr d) e2, c⟩, r⟩
 | own y => obtain ⟨ob, e⟩ := x; exact ⟨ob, k _ _ (.inl rfl) e⟩
 | xd fs => obtain ⟨mA, ⟨od, es, ep, e, c⟩, r⟩ := x; exact ⟨mA, ⟨od, es, ep, k _ _ (.inl rfl) e, c⟩, r⟩
 | rng lo hi => obtain ⟨t, u, v, e⟩ := x; exact ⟨t, u, v, k _ _ (.inl rfl) e⟩
 | frz ob u ih => obtain ⟨e, q⟩ := x; exact ⟨k _ _ (.inl rfl) e, ih q⟩
 | tbl ps =>
  have e : h.get? a = some { cls := .none, data := .fields ps } := x;show h'.get? a = some { cls := .none, data := .fields ps };exact k a _ (.inl rfl) e
 | met f y =>
  have e : h.get? a = some (PySem.W.methodObj (.ref f) (.ref y)) := x;show h'.get? a = some (PySem.W.methodObj (.ref f) (.ref y));exact k a _ (.inl rfl) e
 | ext φ => obtain ⟨p, ⟨o, e⟩, st⟩ := x; exact ⟨st _ _ p fun o q => k _ _ (.inl rfl) q, ⟨o, k _ _ (.inl rfl) e⟩, st⟩
theorem HOk.lt (x : HOk P w H h) (e : H a = some o) : a < h.objs.size := (x a o e).lt
theorem HOk.fresh (x : HOk P w H h) (e : h.objs.size <= a) : H a = none := by
 cases q : H a with
 | none => rfl
 | some u => exact absurd (Nat.lt_of_lt_of_le (x.lt q) e) (Nat.lt_irrefl _)
theorem HOk.kept (x : HOk P w H h) (k : ∀ b u, h.get? b = some u -> h'.get? b = some u) : HOk P w H h' := fun a o e =>
 (x a o e).stay (fun b u _ q => k b u q) (fun _ q => q) fun _ _ q => q
theorem HOk.laid (x : HOk P w H h) (k : ∀ b u, h.get? b = some u -> h'.get? b = some u) (hp : h.objs.size <= a) (new : ObjOk P w (upd H a o) h' a o) : HOk P w (upd H a o) h' := fun b u e => by
 have hn := x.fresh hp
 by_cases hb : b = a
 ·subst hb; rw [Zai] at e; cases e; exact new
 ·rw [Zaj hb] at e;exact (x b u e).stay (fun c v _ q => k c v q) (fun c q => by rw [Zaj (Za0 q hn)]; exact q) fun c xs q => by rw [Zaj (Za0 q hn)]; exact q
end
def Rd (H : Hp) (a : Addr) (u : HO) : Prop := H a = some u \/ ∃ o, H a = some (.frz o u)
theorem Rd.ok {P : Program} {w : World} {H : Hp} {h : Heap} {a : Addr} {u : HO} (r : Rd H a u) (x : HOk P w H h) : ObjOk P w H h a u := by
 rcases r with r | ⟨o, r⟩
 ·exact x a u r
 ·obtain ⟨_, q⟩ := x a _ r;exact q
def Mut : Option HO -> Prop
 | some (.lst _) => True
 | some (.dK _) => True
 | some (.dT _) => True
 | some (.set _ _) => True
 | some (.ins _ _ _) => True
 | some (.ext _) => True
 | _ => False
section
variable {P : Program} {w : World} {H : Hp} {h h' : Heap} {x e : Addr} {o' : HO}
theorem HOk.write (ok : HOk P w H h) (mu : Mut (H x)) (he : e = x \/ H e = some (.own x)) (k : ∀ b u, b ≠ e -> h.get? b = some u -> h'.get? b = some u) (heo : ∃ u, h'.get? e = some u)
  (new : ObjOk P w (upd H x o') h' x o') : HOk P w (upd H x o') h' := fun b u q => by
 have nown : ∀ c y, H c = some (.own y) -> c ≠ x := fun c y r z => by subst z; rw [r] at mu; exact mu
 have ntup : ∀ c xs, H c = some (.tup xs) -> c ≠ x := fun c xs r z => by subst z; rw [r] at mu; exact mu
 by_cases hb : b = x
 ·subst hb; rw [Zai] at q; cases q; exact new
 ·rw [Zaj hb] at q
  by_cases hbe : b = e
  ·have q' : H b = some (.own x) := by
    rcases he with z | z
    ·exact absurd (hbe.trans z) hb
    ·rw [hbe]; exact z
   rw [q] at q'; cases q';obtain ⟨v, hv⟩ := heo;exact ⟨v, by rw [hbe]; exact hv⟩
  ·refine (ok b u q).stay (fun c v hc r => k c v ?_ r) (fun c r => by rw [Zaj (nown c b r)]; exact r) fun c xs r => by rw [Zaj (ntup c xs r)]; exact r
   rcases hc with rfl | hc
   ·exact hbe
   ·rintro rfl;rcases he with z | z
    ·exact nown c b hc z
    ·rw [hc] at z; cases z; exact hb rfl
end
structure Un (fs ex : List Addr) (H H' : Hp) (h h' : Heap) : Prop where
 keep : ∀ b o, h.get? b = some o -> H b = none -> b ∉ fs -> b ∉ ex -> h'.get? b = some o
 slot : ∀ b o, h.get? b = some o -> H b = none -> b ∈ fs -> b ∉ ex -> ∃ sl, h'.get? b = some { o with slots := sl }
 free : ∀ b o, h.get? b = some o -> H b = none -> b ∉ ex -> H' b = none
 there : ∀ b o, h.get? b = some o -> b ∉ ex -> ∃ o', h'.get? b = some o'
 tups : ∀ b xs, H b = some (.tup xs) -> H' b = some (.tup xs)
 frzs : ∀ b o u, H b = some (.frz o u) -> H' b = some (.frz o u)
 tbls : ∀ b ps, H b = some (.tbl ps) -> ∃ more, H' b = some (.tbl (ps ++ more))
section
variable {fs fs' ex ex' : List Addr} {H H1 H2 : Hp} {h h1 h2 h' : Heap} {a x e : Addr} {o : HO}
theorem Un.any (u : Un fs ex H H1 h h1) {b : Addr} {ob : Obj} (q : h.get? b = some ob) (n : H b = none) (hx : b ∉ ex) : ∃ sl, h1.get? b = some { ob with slots := sl } := by
 by_cases hb : b ∈ fs
 ·exact u.slot b ob q n hb hx
 ·exact ⟨ob.slots, u.keep b ob q n hb hx⟩
theorem Un.kept (k : ∀ b u, h.get? b = some u -> h'.get? b = some u) : Un fs ex H H h h' :=
 ⟨fun b ob q _ _ _ => k b ob q, fun b ob q _ _ _ => ⟨ob.slots, k b ob q⟩, fun _ _ _ n _ => n, fun b ob q _ => ⟨ob, k b ob q⟩, fun _ _ q => q, fun _ _ _ q => q, fun _ ps q => ⟨#[], by rw [q]; simp⟩⟩
theorem Un.refl : Un fs ex H H h h := Un.kept fun _ _ q => q
theorem Un.laid (k : ∀ b u, h.get? b = some u -> h'.get? b = some u) (hp : h.objs.size <= a) (hn : H a = none) : Un fs ex H (upd H a o) h h' where
 keep := fun b u q _ _ _ => k b u q
 slot := fun b u q _ _ _ => ⟨u.slots, k b u q⟩
 free := fun b u q n _ => by rw [Zaj (Nat.ne_of_lt (Nat.lt_of_lt_of_le (Heap.lt_size q) hp))]; exact n
 there := fun b u q _ => ⟨u, k b u q⟩
 tups := fun b xs q => by rw [Zaj (Za0 q hn)]; exact q
 frzs := fun b u xs q => by rw [Zaj (Za0 q hn)]; exact q
 tbls := fun b ps q => ⟨#[], by rw [Zaj (Za0 q hn), q]; simp⟩
theorem Un.write (mu : Mut (H x)) (he : e = x \/ H e = some (.own x)) (k : ∀ b u, b ≠ e -> h.get? b = some u -> h'.get? b = some u) (heo : ∃ u, h'.get? e = some u) : Un fs ex H (upd H x o) h h' := by
 have hx : ∀ b, H b = none -> b ≠ x := fun b n z => by subst z; rw [n] at mu; exact mu
 have hb : ∀ b, H b = none -> b ≠ e := fun b n z => by
  subst z;rcases he with r | r
  ·exact hx b n r
  ·rw [n] at r; cases r
 have hm : ∀ b u, H b = some u -> ¬ Mut (some u) -> b ≠ x := fun b u q nm z => by subst z; rw [q] at mu; exact nm mu
 refine ⟨fun b u q n _ _ => k b u (hb b n) q, fun b u q n _ _ => ⟨u.slots, k b u (hb b n) q⟩, fun b u q n _ => by rw [Zaj (hx b n)]; exact n, fun b u q _ => ?_,
  fun b xs q => by rw [Zaj (hm b _ q fun z => z)]; exact q, fun b u xs q => by rw [Zaj (hm b _ q fun z => z)]; exact q, fun b ps q => ⟨#[], by rw [Zaj (hm b _ q fun z => z), q]; simp⟩⟩
 by_cases hbe : b = e
 ·subst hbe; exact heo
 ·exact ⟨u, k b u hbe q⟩
end
def trk (h : Heap) (H : Hp) : List Addr := (List.range h.objs.size).filter fun a => (H a).isSome
def Zja (h : Heap) (H : Hp) : Heap := PySem.W.hideAll h (trk h H)
theorem Ziw (h : Heap) (H : Hp) : (Zja h H).objs.size = h.objs.size := PySem.W.hideAll_size _ _
theorem Zjx {h : Heap} {H : Hp} {b : Addr} {o : Obj} (e : h.get? b = some o) (n : H b = none) : (Zja h H).get? b = some o :=
 PySem.W.hideAll_get _ e fun hm => by
  have q : (H b).isSome = true := (List.mem_filter.mp hm).2;rw [n] at q; simp at q
theorem Zli {h : Heap} {H : Hp} {b : Addr} {o : Obj} (e : (Zja h H).get? b = some o) : h.get? b = some o /\ H b = none := by
 have e' : h.get? b = some o := PySem.W.of_hideAll (trk h H) e;refine ⟨e', ?_⟩;cases q : H b with
 | none => rfl
 | some x =>
  have hm : b ∈ trk h H := List.mem_filter.mpr ⟨List.mem_range.mpr (Heap.lt_size e'), by simp [q]⟩;have z : (Zja h H).get? b = none := PySem.W.hideAll_none (trk h H) hm;rw [z] at e; cases e
def Zlw (g h : Heap) (L : Addr) : List (Addr × Obj) := (List.range h.objs.size).filterMap fun a => if a = L \/ (g.get? a).isSome = true then none else (h.get? a).map fun o => (a, o)
def rest (g h : Heap) (L d : Addr) : List (Addr × Obj) := (Zlw g h L).filter fun p => decide (p.1 ≠ d)
end L2
namespace L2
open PySem PySem.Spec PyProof.Rows
structure Mod (K : PySem.W.Frag) (mg : Str -> Option Value) (base : Heap) : Prop where
 kin : K.In base
 glob : base.Ns mainGlobals mg
 blt : ∃ mb, base.Ns builtinsNs mb /\ ∀ x : Str, x ≠ "__name__" -> mb x = bootBuiltins x
 nolimit : base.NoLimit
structure Cx where
 prog : Program
 w : World
 K : PySem.W.Frag
 mg : Str -> Option Value
 base : Heap
 A : Around
 N : List Str
 s₀ : Shared
 H₀ : Hp
 env : Env
 outer : List Env
 stack : List Env
 ex : List Addr
 fn : Str -> Bool
 calm : Bool
 pn : List (Addr × Obj)
 xe : Value -> Shared -> Prop
def frs (l : List Env) : List Addr := l.filterMap (·.frame)
abbrev Cx.fs (X : Cx) : List Addr := frs X.outer
def Vis (sc : Scope) (x : Str) : Prop := sc.names.lookup x = some .local \/ sc.names.lookup x = some .cell \/ sc.names.lookup x = some .free
def Loc (sc : Scope) (x : Str) : Prop := sc.names.lookup x = some .local \/ sc.names.lookup x = some .cell
def Look (env : Env) (h : Heap) (m : Str -> Option Value) (x : Str) (u : Value) : Prop :=
 (env.kindOf x = some .local /\ m x = some u) \/ ((env.kindOf x = some .cell \/ env.kindOf x = some .free) /\ ∃ c, env.cells.lookup x = some c /\ h.IsCell c (some u))
structure Cx.Ok (X : Cx) : Prop where
 mod : Mod X.K X.mg X.base
 kind : X.env.scope.kind = .function
 glob : X.env.globals = mainGlobals
 blt : X.env.builtins = builtinsNs
 above : X.s₀.heap.objs.size <= X.env.locals
 inj : ∀ x y c, X.env.cells.lookup x = some c -> X.env.cells.lookup y = some c -> x = y
 has : ∀ x, (X.env.kindOf x = some .cell \/ X.env.kindOf x = some .free) -> ∃ c, X.env.cells.lookup x = some c
 cab : ∀ x c, X.fn x = true -> X.env.cells.lookup x = some c -> X.s₀.heap.objs.size <= c
 hd : X.calm = true -> X.A.handled = none
 frames : X.A.frames = some X.stack
 stk : X.stack = X.outer \/ (X.stack = X.env :: X.outer /\ X.env.frame = some X.env.locals)
 exf : ∀ b ∈ X.ex, b ≠ X.env.locals /\ ∀ x c, X.env.cells.lookup x = some c -> c ≠ b
 bs : ∀ b o, X.base.get? b = some o -> X.s₀.heap.get? b = some o /\ X.H₀ b = none
 bsz : X.base.objs.size <= X.s₀.heap.objs.size
 noex : ∀ b o, X.base.get? b = some o -> b ∉ X.ex
 exfs : ∀ b ∈ X.ex, b ∉ X.fs
 funs : X.s₀.heap.FunFrames X.base X.outer
 frf : ∀ b ∈ X.fs, X.H₀ b = none
structure Inv (X : Cx) (pins : List (Addr × Obj)) (σ : List (Option V)) (H : Hp) (s : Shared) : Prop where
 ok : X.Ok
 os : s.os = X.s₀.os
 bare : AllBare s.gens
 base : Un X.fs X.ex X.H₀ H X.s₀.heap s.heap
 loc : ∃ m, s.heap.Ns X.env.locals m /\ ∀ (i : Nat) (x : Str) (v : V), X.N[i]? = some x -> σ[i]? = some (some v) -> Vis X.env.scope x -> ∃ u, RelV v u /\ Look X.env s.heap m x u
 cell : ∀ x c, X.env.cells.lookup x = some c -> ∃ v, s.heap.IsCell c v
 free : H X.env.locals = none
 freeC : ∀ x c, X.env.cells.lookup x = some c -> H c = none
 pin : ∀ p ∈ X.pn ++ pins, s.heap.get? p.1 = some p.2 /\ H p.1 = none /\ p.1 ≠ X.env.locals /\ p.1 ∉ X.fs /\ ∀ v, p.2.data ≠ .cell v
 hok : HOk X.prog X.w H s.heap
 len : σ.length = X.N.length
section
variable {X : Cx} {pins : List (Addr × Obj)} {σ : List (Option V)} {H H' : Hp} {s : Shared} {h' : Heap}
theorem Cx.Ok.nofr (ok : X.Ok) {b : Addr} {o : Obj} (e : X.base.get? b = some o) : b ∉ X.fs := fun hb => by
 have := (ok.funs.mem hb).1;rw [e] at this; cases this
theorem Inv.bs (I : Inv X pins σ H s) : ∀ b o, X.base.get? b = some o -> s.heap.get? b = some o /\ H b = none := fun b o e =>
 ⟨I.base.keep b o (I.ok.bs b o e).1 (I.ok.bs b o e).2 (I.ok.nofr e) (I.ok.noex b o e), I.base.free b o (I.ok.bs b o e).1 (I.ok.bs b o e).2 (I.ok.noex b o e)⟩
theorem Inv.bk (I : Inv X pins σ H s) : ∀ b o, X.base.get? b = some o -> s.heap.get? b = some o := fun b o e => (I.bs b o e).1
theorem Inv.mod (I : Inv X pins σ H s) : Mod X.K X.mg X.base := I.ok.mod
theorem Inv.kIn (I : Inv X pins σ H s) : X.K.In s.heap := I.ok.mod.kin.keeps I.bk
theorem Inv.lt (I : Inv X pins σ H s) : X.env.locals < s.heap.objs.size := let ⟨_, hn, _⟩ := I.loc; hn.lt
theorem Inv.sz (I : Inv X pins σ H s) : X.s₀.heap.objs.size <= s.heap.objs.size := Nat.le_trans I.ok.above (Nat.le_of_lt I.lt)
theorem Inv.nofs (I : Inv X pins σ H s) {a : Addr} (h : s.heap.objs.size <= a) : a ∉ X.fs := fun hb => by
 obtain ⟨_, o, ho, _⟩ := I.ok.funs.mem hb;exact absurd (Nat.lt_of_lt_of_le (Heap.lt_size ho) (Nat.le_trans I.sz h)) (Nat.lt_irrefl _)
theorem Inv.cne (I : Inv X pins σ H s) : ∀ x c, X.env.cells.lookup x = some c -> c ≠ X.env.locals := fun x c e z => by
 obtain ⟨v, o, ho, hd⟩ := I.cell x c e;obtain ⟨m, ⟨o', es, ep, ho', hd', _⟩, _⟩ := I.loc;rw [z, ho'] at ho; cases ho; rw [hd'] at hd; cases hd
theorem Inv.funs (I : Inv X pins σ H s) : s.heap.FunFrames X.base X.outer := by
 have all : ∀ (l : List Env), (∀ b ∈ frs l, b ∈ X.fs) -> X.s₀.heap.FunFrames X.base l -> s.heap.FunFrames X.base l := by
  intro l
  induction l with
  | nil => intro _ _; trivial
  | cons env r ih =>
   intro hs hl;obtain ⟨hk, ⟨L, o, hf, hn, ho, hd⟩, hr⟩ := hl;have hL : L ∈ X.fs := hs L (by unfold frs; rw [List.filterMap_cons, hf]; exact List.mem_cons_self);obtain ⟨sl, e⟩ := I.base.slot L o ho (I.ok.frf L hL) hL fun z => I.ok.exfs L z hL
   exact ⟨hk, ⟨L, _, hf, hn, e, hd⟩, ih (fun b hb => hs b (by unfold frs; rw [List.filterMap_cons, hf]; exact List.mem_cons_of_mem _ hb)) hr⟩
 exact all X.outer (fun _ hb => hb) I.ok.funs
theorem Inv.stack (I : Inv X pins σ H s) : s.heap.FunFrames X.base X.stack := by
 rcases I.ok.stk with e | ⟨e, hf⟩
 ·rw [e]; exact I.funs
 ·rw [e];obtain ⟨m, hn, _⟩ := I.loc;refine .cons (by rw [I.ok.kind]; decide) hf hn ?_ I.funs;exact Heap.get?_none_of_le (Nat.le_trans I.ok.bsz I.ok.above)
theorem Inv.stkSub (I : Inv X pins σ H s) : ∀ b ∈ frs X.stack, b ∈ X.env.locals :: X.fs := fun b hb => by
 rcases I.ok.stk with e | ⟨e, hf⟩
 ·rw [e] at hb; exact List.mem_cons_of_mem _ hb
 ·rw [e] at hb;unfold frs at hb;rw [List.filterMap_cons, hf] at hb;exact hb
theorem Inv.stkFree (I : Inv X pins σ H s) : ∀ b ∈ frs X.stack, H b = none := fun b hb => by
 rcases List.mem_cons.mp (I.stkSub b hb) with e | hb
 ·rw [e]; exact I.free
 ·obtain ⟨_, o, ho, _⟩ := I.ok.funs.mem hb;exact I.base.free b o ho (I.ok.frf b hb) fun z => I.ok.exfs b z hb
theorem Inv.step {g' : Array GenState} {t' : Nat} {d' : Drawn} {ch : List Addr} (I : Inv X pins σ H s)
  (hch : ∀ b ∈ ch, (b ∈ X.ex \/ X.s₀.heap.objs.size <= b) /\ b ≠ X.env.locals /\ (∀ x c, X.env.cells.lookup x = some c -> c ≠ b) /\ ∀ p ∈ X.pn ++ pins, p.1 ≠ b)
  (keep : ∀ b o, b ≠ X.env.locals -> b ∉ X.fs -> b ∉ ch -> s.heap.get? b = some o -> H b = none -> h'.get? b = some o)
  (slot : ∀ b o, b ≠ X.env.locals -> b ∈ X.fs -> b ∉ ch -> s.heap.get? b = some o -> H b = none -> ∃ sl, h'.get? b = some { o with slots := sl }) (free : ∀ b o, b ∉ ch -> s.heap.get? b = some o -> H b = none -> H' b = none)
  (there : ∀ b o, b ∉ ch -> s.heap.get? b = some o -> ∃ o', h'.get? b = some o')
  (tups : ∀ b xs, H b = some (.tup xs) -> H' b = some (.tup xs)) (frzs : ∀ b o u, H b = some (.frz o u) -> H' b = some (.frz o u)) (tbls : ∀ b ps, H b = some (.tbl ps) -> ∃ more, H' b = some (.tbl (ps ++ more)))
  (ns : ∀ m, s.heap.Ns X.env.locals m -> h'.Ns X.env.locals m) (hok : HOk X.prog X.w H' h') (hg : AllBare g') :
  Inv X pins σ H' { s with heap := h', gens := g', drawn := d', toks := t' } := by
 have neL : ∀ b o, X.s₀.heap.get? b = some o -> b ≠ X.env.locals := fun b o e => Nat.ne_of_lt (Nat.lt_of_lt_of_le (Heap.lt_size e) I.ok.above)
 have neC : ∀ b o, X.s₀.heap.get? b = some o -> b ∉ X.ex -> b ∉ ch := fun b o e hx hb => by
  rcases (hch b hb).1 with z | z
  ·exact hx z
  ·exact absurd (Nat.lt_of_lt_of_le (Heap.lt_size e) z) (Nat.lt_irrefl _)
 have cellK : ∀ x c, X.env.cells.lookup x = some c -> ∀ v, s.heap.IsCell c v -> h'.IsCell c v := fun x c e v ⟨o, ho, hd⟩ => by
  have nch : c ∉ ch := fun z => (hch c z).2.2.1 x c e rfl
  by_cases hc : c ∈ X.fs
  ·obtain ⟨sl, q⟩ := slot c o (I.cne x c e) hc nch ho (I.freeC x c e);exact ⟨_, q, hd⟩
  ·exact ⟨o, keep c o (I.cne x c e) hc nch ho (I.freeC x c e), hd⟩
 refine ⟨I.ok, I.os, hg, ⟨fun b o e n hb hx => ?_, fun b o e n hb hx => ?_, fun b o e n hx => ?_, fun b o e hx => ?_, fun b xs e => tups b xs (I.base.tups b xs e), fun b o xs e => frzs b o xs (I.base.frzs b o xs e), fun b ps e => ?_⟩, ?_, fun x c e => ?_, ?_, fun x c e => ?_, fun p hp => ?_, hok, I.len⟩
 ·exact keep b o (neL b o e) hb (neC b o e hx) (I.base.keep b o e n hb hx) (I.base.free b o e n hx)
 ·obtain ⟨sl, e1⟩ := I.base.slot b o e n hb hx;obtain ⟨sl', e2⟩ := slot b _ (neL b o e) hb (neC b o e hx) e1 (I.base.free b o e n hx);exact ⟨sl', e2⟩
 ·obtain ⟨o', e1⟩ := I.base.there b o e hx;exact free b o' (neC b o e hx) e1 (I.base.free b o e n hx)
 ·obtain ⟨o', e1⟩ := I.base.there b o e hx;exact there b o' (neC b o e hx) e1
 ·obtain ⟨m1, e1⟩ := I.base.tbls b ps e;obtain ⟨m2, e2⟩ := tbls b _ e1;exact ⟨m1 ++ m2, by rw [e2, Array.append_assoc]⟩
 ·obtain ⟨m, hn, hl⟩ := I.loc;refine ⟨m, ns m hn, fun i x v e1 e2 e3 => ?_⟩;obtain ⟨u, r, l⟩ := hl i x v e1 e2 e3;refine ⟨u, r, ?_⟩;rcases l with l | ⟨k, c, e, z⟩
  ·exact .inl l
  ·exact .inr ⟨k, c, e, cellK x c e _ z⟩
 ·obtain ⟨v, z⟩ := I.cell x c e;exact ⟨v, cellK x c e v z⟩
 ·obtain ⟨m, ⟨o, _, _, ho, _⟩, _⟩ := I.loc;exact free _ o (fun z => (hch _ z).2.1 rfl) ho I.free
 ·obtain ⟨v, o, ho, hd⟩ := I.cell x c e;exact free c o (fun z => (hch c z).2.2.1 x c e rfl) ho (I.freeC x c e)
 ·obtain ⟨e, n, ne, nf, d⟩ := I.pin p hp;have nch : p.1 ∉ ch := fun z => (hch p.1 z).2.2.2 p hp rfl
  exact ⟨keep p.1 p.2 ne nf nch e n, free p.1 p.2 nch e n, ne, nf, d⟩
theorem Inv.un {t' : Nat} (I : Inv X pins σ H s) (u : Un X.fs [] H H' s.heap h') (hok : HOk X.prog X.w H' h') : Inv X pins σ H' { s with heap := h', toks := t' } := by
 obtain ⟨m, ⟨o, es, ep, ho, r⟩, _⟩ := id I.loc;obtain ⟨sl, hL⟩ := u.any ho I.free (by simp);exact I.step (g' := s.gens) (d' := s.drawn) (ch := []) (fun _ z => nomatch z) (fun b o _ hb _ e n => u.keep b o e n hb (by simp)) (fun b o _ hb _ e n => u.slot b o e n hb (by simp)) (fun b o _ e n => u.free b o e n (by simp)) (fun b o _ e => u.there b o e (by simp)) u.tups u.frzs u.tbls (fun m' hm => by
  obtain ⟨o', es', ep', ho', r'⟩ := hm;rw [ho] at ho'; cases ho';exact ⟨_, es', ep', hL, r'⟩) hok I.bare
theorem Inv.call {g' : Array GenState} {t' : Nat} {d' : Drawn} {ch : List Addr} (I : Inv X pins σ H s) (u : Un (frs X.stack) ch H H' s.heap h') (hok : HOk X.prog X.w H' h') (hg : AllBare g')
  (hch : ∀ b ∈ ch, (b ∈ X.ex \/ X.s₀.heap.objs.size <= b) /\ b ≠ X.env.locals /\ (∀ x c, X.env.cells.lookup x = some c -> c ≠ b) /\ ∀ p ∈ X.pn ++ pins, p.1 ≠ b) :
  Inv X pins σ H' { s with heap := h', gens := g', drawn := d', toks := t' } := by
 obtain ⟨m, ⟨o, es, ep, ho, r⟩, _⟩ := id I.loc;obtain ⟨sl, hL⟩ := u.any ho I.free fun z => (hch _ z).2.1 rfl
 exact I.step (ch := ch) hch (fun b o hL hb hc e n => u.keep b o e n (fun z => (List.mem_cons.mp (I.stkSub b z)).elim hL hb) hc) (fun b o _ _ hc e n => u.any e n hc) (fun b o hc e n => u.free b o e n hc) (fun b o hc e => u.there b o e hc) u.tups u.frzs u.tbls (fun m' hm => by
  obtain ⟨o', es', ep', ho', r'⟩ := hm;rw [ho] at ho'; cases ho';exact ⟨_, es', ep', hL, r'⟩) hok hg
theorem Inv.turned {t' : Nat} {it : Addr} (I : Inv X pins σ H s) (k : ∀ b o, b ≠ it -> s.heap.get? b = some o -> h'.get? b = some o) (hn : H it = none) (hL : it ≠ X.env.locals)
  (h1 : it ∈ X.ex \/ X.s₀.heap.objs.size <= it) (h2 : ∀ x c, X.env.cells.lookup x = some c -> c ≠ it) (h3 : ∀ p ∈ X.pn ++ pins, p.1 ≠ it) : Inv X pins σ H { s with heap := h', toks := t' } := by
 have nit : ∀ b u, H b = some u -> b ≠ it := fun b u e z => by rw [z, hn] at e; cases e
 refine I.step (g' := s.gens) (d' := s.drawn) (ch := [it]) (fun b hb => ?_) (fun b o _ _ hc e _ => k b o (fun z => hc (by simp [z])) e) (fun b o _ _ hc e _ => ⟨o.slots, k b o (fun z => hc (by simp [z])) e⟩) (fun _ _ _ _ n => n)
  (fun b o hc e => ⟨o, k b o (fun z => hc (by simp [z])) e⟩) (fun _ _ e => e) (fun _ _ _ e => e) (fun b ps e => ⟨#[], by rw [e]; simp⟩) (fun m hm => ?_) (fun b u e => ?_) I.bare
 ·have e : b = it := by simpa using hb
  subst e;exact ⟨h1, hL, h2, h3⟩
 ·obtain ⟨o, es, ep, ho, r⟩ := hm;exact ⟨o, es, ep, k _ o (Ne.symm hL) ho, r⟩
 ·refine (I.hok b u e).stay (fun c v hc q => k c v ?_ q) (fun _ q => q) fun _ _ q => q
  rcases hc with z | z
  ·rw [z]; exact nit b u e
  ·exact nit c _ z
theorem Inv.tok (I : Inv X pins σ H s) (t : Nat) : Inv X pins σ H { s with toks := t } := I.un (h' := s.heap) (t' := t) Un.refl I.hok
theorem Inv.kept {t' : Nat} (I : Inv X pins σ H s) (k : ∀ b u, s.heap.get? b = some u -> h'.get? b = some u) : Inv X pins σ H { s with heap := h', toks := t' } := I.un (Un.kept k) (I.hok.kept k)
theorem Inv.laid {a : Addr} {o : HO} {t' : Nat} (I : Inv X pins σ H s) (k : ∀ b u, s.heap.get? b = some u -> h'.get? b = some u) (hp : s.heap.objs.size <= a) (new : ObjOk X.prog X.w (upd H a o) h' a o) :
  Inv X pins σ (upd H a o) { s with heap := h', toks := t' } := I.un (Un.laid k hp (I.hok.fresh hp)) (I.hok.laid k hp new)
theorem Inv.write {x e : Addr} {o : HO} {t' : Nat} (I : Inv X pins σ H s) (mu : Mut (H x)) (he : e = x \/ H e = some (.own x)) (k : ∀ b u, b ≠ e -> s.heap.get? b = some u -> h'.get? b = some u) (heo : ∃ u, h'.get? e = some u)
  (new : ObjOk X.prog X.w (upd H x o) h' x o) : Inv X pins σ (upd H x o) { s with heap := h', toks := t' } := I.un (Un.write mu he k heo) (I.hok.write mu he k heo new)
theorem Inv.pins_of {pins' : List (Addr × Obj)} (I : Inv X pins σ H s) (h : ∀ p ∈ pins', s.heap.get? p.1 = some p.2 /\ H p.1 = none /\ p.1 ≠ X.env.locals /\ p.1 ∉ X.fs /\ ∀ v, p.2.data ≠ .cell v) : Inv X pins' σ H s :=
 ⟨I.ok, I.os, I.bare, I.base, I.loc, I.cell, I.free, I.freeC, fun p hp => (List.mem_append.mp hp).elim (fun z => I.pin p (List.mem_append_left _ z)) (h p), I.hok, I.len⟩
theorem Zey {N : List Str} (hN : N.Nodup) {i j : Nat} {x : Str} (a : N[i]? = some x) (b : N[j]? = some x) : i = j := by
 obtain ⟨h1, e1⟩ := List.getElem?_eq_some_iff.mp a;obtain ⟨h2, e2⟩ := List.getElem?_eq_some_iff.mp b;exact (List.getElem_inj hN).mp (e1.trans e2.symm)
theorem Zh3 {M : Model} {A : Around} {E : Value -> Shared -> Prop} {i : Nat} {x : Str} {v : V} {u : Value} {Q : Unit -> Shared -> Prop} (I : Inv X pins σ H s) (hN : X.N.Nodup) (hi : X.N[i]? = some x) (hx : Loc X.env.scope x) (r : RelV v u)
  (h : ∀ s', Inv X pins (σ.set i (some v)) H s' -> (∃ a, Heap.SameBut a s.heap s'.heap /\ (a = X.env.locals \/ X.env.cells.lookup x = some a)) -> Q () s') (hf : X.fn x = true \/ X.env.scope.names.lookup x = some .local := by first | exact .inl rfl | exact .inr rfl | assumption) : wpAny M A (storeName X.env x u) Q E s := by
 obtain ⟨m, hn, hl⟩ := id I.loc;have hcls : (X.env.scope.kind == .class || (X.env.scope.kind == .module && X.env.locals != X.env.globals)) = false := by rw [I.ok.kind]; rfl
 have hiσ : i < σ.length := by rw [I.len]; exact (List.getElem?_eq_some_iff.mp hi).1
 have cne := I.cne;have tracked : ∀ {a : Addr} {h' : Heap}, (∃ o, s.heap.get? a = some o /\ H a = none) -> Heap.SameBut a s.heap h' -> HOk X.prog X.w H h' := fun {a h'} ha hs b ob e => by
  obtain ⟨_, _, hfree⟩ := ha;refine (I.hok b ob e).stay (fun c w' hc q => (hs.2 c ?_).trans q) (fun _ q => q) fun _ _ q => q
  rintro rfl;rcases hc with rfl | hc
  ·rw [hfree] at e; cases e
  ·rw [hfree] at hc; cases hc
 rcases hx with hk | hk
 ·refine wpAny_storeName_local hk hn (fun h' hn' hs => ?_) hcls;obtain ⟨oL, _, _, hoL, _⟩ := id hn;refine h _ ⟨I.ok, I.os, I.bare, ⟨fun b o e n hb hx => ?_, fun b o e n hb hx => ?_, I.base.free, fun b o e hx => ?_, I.base.tups, I.base.frzs, I.base.tbls⟩, ⟨_, hn', fun j y v' e1 e2 e3 => ?_⟩, fun y c e => ?_, I.free, I.freeC, fun p hp => ?_, tracked ⟨oL, hoL, I.free⟩ hs, by simpa using I.len⟩ ⟨_, hs, .inl rfl⟩
  ·exact (hs.2 b (Nat.ne_of_lt (Nat.lt_of_lt_of_le (Heap.lt_size e) I.ok.above))).trans (I.base.keep b o e n hb hx)
  ·obtain ⟨sl, e1⟩ := I.base.slot b o e n hb hx;exact ⟨sl, (hs.2 b (Nat.ne_of_lt (Nat.lt_of_lt_of_le (Heap.lt_size e) I.ok.above))).trans e1⟩
  ·obtain ⟨o', e1⟩ := I.base.there b o e hx;exact ⟨o', (hs.2 b (Nat.ne_of_lt (Nat.lt_of_lt_of_le (Heap.lt_size e) I.ok.above))).trans e1⟩
  ·by_cases hj : j = i
   ·subst hj;rw [hi] at e1; cases e1;rw [List.getElem?_set_self hiσ] at e2;cases e2;exact ⟨u, r, .inl ⟨hk, by simp⟩⟩
   ·rw [List.getElem?_set_ne (Ne.symm hj)] at e2;obtain ⟨u', r', q⟩ := hl j y v' e1 e2 e3;refine ⟨u', r', ?_⟩;rcases q with ⟨k, e⟩ | ⟨k, c, e, z⟩
    ·refine .inl ⟨k, ?_⟩;have : y ≠ x := fun e => hj (Zey hN e1 (e ▸ hi))
     simp [this, e]
    ·exact .inr ⟨k, c, e, z.sameBut hs (cne y c e)⟩
  ·obtain ⟨w', z⟩ := I.cell y c e;exact ⟨w', z.sameBut hs (cne y c e)⟩
  ·obtain ⟨e, n, ne, nf, d⟩ := I.pin p hp;exact ⟨(hs.2 p.1 ne).trans e, n, ne, nf, d⟩
 ·have hfn : X.fn x = true := by
   rcases hf with z | z
   ·exact z
   ·rw [z] at hk; cases hk
  obtain ⟨c, hc⟩ := I.ok.has x (.inl hk);obtain ⟨w', z⟩ := I.cell x c hc;refine wpAny_storeName_cell I.ok.kind hk hc z (fun h' hc' hs => ?_);obtain ⟨oc, hoc, hocd⟩ := id z;refine h { s with heap := h' } ⟨I.ok, I.os, I.bare, ⟨fun b o e n hb hx => ?_, fun b o e n hb hx => ?_, I.base.free, fun b o e hx => ?_, I.base.tups, I.base.frzs, I.base.tbls⟩, ⟨m, hn.sameBut hs (Ne.symm (cne x c hc)), fun j y v' e1 e2 e3 => ?_⟩, fun y c' e => ?_, I.free, I.freeC, fun p hp => ?_, tracked ⟨oc, hoc, I.freeC x c hc⟩ hs, by simpa using I.len⟩ ⟨c, hs, .inr hc⟩
  ·exact (hs.2 b (Nat.ne_of_lt (Nat.lt_of_lt_of_le (Heap.lt_size e) (I.ok.cab x c hfn hc)))).trans (I.base.keep b o e n hb hx)
  ·obtain ⟨sl, e1⟩ := I.base.slot b o e n hb hx;exact ⟨sl, (hs.2 b (Nat.ne_of_lt (Nat.lt_of_lt_of_le (Heap.lt_size e) (I.ok.cab x c hfn hc)))).trans e1⟩
  ·obtain ⟨o', e1⟩ := I.base.there b o e hx;exact ⟨o', (hs.2 b (Nat.ne_of_lt (Nat.lt_of_lt_of_le (Heap.lt_size e) (I.ok.cab x c hfn hc)))).trans e1⟩
  ·by_cases hj : j = i
   ·subst hj;rw [hi] at e1; cases e1;rw [List.getElem?_set_self hiσ] at e2;cases e2;exact ⟨u, r, .inr ⟨.inl hk, c, hc, hc'⟩⟩
   ·rw [List.getElem?_set_ne (Ne.symm hj)] at e2;obtain ⟨u', r', q⟩ := hl j y v' e1 e2 e3;refine ⟨u', r', ?_⟩;rcases q with q | ⟨k, c', e, z'⟩
    ·exact .inl q
    ·refine .inr ⟨k, c', e, z'.sameBut hs ?_⟩;rintro rfl;exact hj (Zey hN e1 (I.ok.inj _ _ _ e hc ▸ hi))
  ·by_cases hcc : c' = c
   ·subst hcc; exact ⟨_, hc'⟩
   ·obtain ⟨w2, z2⟩ := I.cell y c' e;exact ⟨w2, z2.sameBut hs hcc⟩
  ·obtain ⟨e, n, ne, nf, d⟩ := I.pin p hp;refine ⟨(hs.2 p.1 ?_).trans e, n, ne, nf, d⟩;intro q;rw [q, hoc] at e;have q' : oc = p.2 := Option.some.inj e;exact d w' (by rw [<- q']; exact hocd)
theorem Zdx {M : Model} {A : Around} {E : Value -> Shared -> Prop} {i : Nat} {x : Str} {v : V} {u : Value} {Q : Unit -> Shared -> Prop} (I : Inv X pins σ H s) (hN : X.N.Nodup) (hi : X.N[i]? = some x) (hx : Loc X.env.scope x) (r : RelV v u)
  (h : ∀ s', Inv X pins (σ.set i (some v)) H s' -> Q () s') (hf : X.fn x = true \/ X.env.scope.names.lookup x = some .local := by first | exact .inl rfl | exact .inr rfl | assumption) : wpAny M A (storeName X.env x u) Q E s :=
 Zh3 I hN hi hx r (fun s' I' _ => h s' I') hf
theorem Inv.call' {s' : Shared} {ch : List Addr} (I : Inv X pins σ H s) (ho : s'.os = s.os) (u : Un (frs X.stack) ch H H' s.heap s'.heap) (hok : HOk X.prog X.w H' s'.heap) (hg : AllBare s'.gens)
  (hch : ∀ b ∈ ch, (b ∈ X.ex \/ X.s₀.heap.objs.size <= b) /\ b ≠ X.env.locals /\ (∀ x c, X.env.cells.lookup x = some c -> c ≠ b) /\ ∀ p ∈ X.pn ++ pins, p.1 ≠ b) : Inv X pins σ H' s' := by
 obtain ⟨h', g', d', t', o'⟩ := s';have e : o' = s.os := ho;subst e;exact I.call (g' := g') (t' := t') (d' := d') u hok hg hch
end
abbrev XK := Value -> Option Addr -> Hp -> Prop
abbrev St := List (Option V)
abbrev VK := V -> Hp -> Prop
abbrev TE := St -> Hp -> VK -> Prop
abbrev TT := St -> Hp -> (Bool -> Hp -> Prop) -> Prop
abbrev TA := St -> Hp -> (List V -> Hp -> Prop) -> Prop
structure Zht where
 nx : St -> Hp -> Prop
 rt : VK
 bk : St -> Hp -> Prop := fun _ _ => False
 ct : St -> Hp -> Prop := fun _ _ => False
abbrev TS := Zht -> St -> Hp -> Prop
def EP (X : Cx) (pins : List (Addr × Obj)) (σ : St) (Q : VK) (u : Value) (s' : Shared) : Prop := ∃ v H', Inv X pins σ H' s' /\ RelV v u /\ Q v H'
def TP (X : Cx) (pins : List (Addr × Obj)) (σ : St) (Q : Bool -> Hp -> Prop) (b : Bool) (s' : Shared) : Prop := ∃ H', Inv X pins σ H' s' /\ Q b H'
def AP (X : Cx) (pins : List (Addr × Obj)) (σ : St) (Q : List V -> Hp -> Prop) (us : List Value) (s' : Shared) : Prop := ∃ vs H', Inv X pins σ H' s' /\ Vals vs us /\ Q vs H'
def SP (X : Cx) (pins : List (Addr × Obj)) (D : Zht) (f : Flow) (s' : Shared) : Prop :=
 match f with
 | .next => ∃ σ' H', Inv X pins σ' H' s' /\ D.nx σ' H'
 | .brk => ∃ σ' H', Inv X pins σ' H' s' /\ D.bk σ' H'
 | .cont => ∃ σ' H', Inv X pins σ' H' s' /\ D.ct σ' H'
 | .ret u => ∃ v σ' H', Inv X pins σ' H' s' /\ RelV v u /\ D.rt v H'
def PE (X : Cx) (e : Expr) (t : TE) : Prop :=
 ∀ (pins : List (Addr × Obj)) (s : Shared) (σ : St) (H : Hp) (Q : VK), Inv X pins σ H s -> t σ H Q -> wpAny (model X.prog X.w) X.A (eval e X.env) (EP X pins σ Q) X.xe s
def PT (X : Cx) (e : Expr) (t : TT) : Prop :=
 ∀ (pins : List (Addr × Obj)) (s : Shared) (σ : St) (H : Hp) (Q : Bool -> Hp -> Prop), Inv X pins σ H s -> t σ H Q -> wpAny (model X.prog X.w) X.A (isTrue e X.env (eval e X.env)) (TP X pins σ Q) X.xe s
def PW (X : Cx) (e : Expr) (t : TT) : Prop :=
 ∀ (whole : Sem Value) (pins : List (Addr × Obj)) (s : Shared) (σ : St) (H : Hp) (Q : Bool -> Hp -> Prop), Inv X pins σ H s -> t σ H Q -> wpAny (model X.prog X.w) X.A (isTrue e X.env whole) (TP X pins σ Q) X.xe s
theorem PW.pt {X : Cx} {e : Expr} {t : TT} (h : PW X e t) : PT X e t := h _
def PA (X : Cx) (es : List Expr) (t : TA) : Prop :=
 ∀ (pos : Pos) (pins : List (Addr × Obj)) (s : Shared) (σ : St) (H : Hp) (Q : List V -> Hp -> Prop), Inv X pins σ H s -> t σ H Q -> wpAny (model X.prog X.w) X.A (spliced (backTo pos (starEach es X.env))) (AP X pins σ Q) X.xe s
def PS (X : Cx) (st : Stmt) (t : TS) : Prop :=
 ∀ (pins : List (Addr × Obj)) (s : Shared) (σ : St) (H : Hp) (D : Zht), Inv X pins σ H s -> t D σ H -> wpAny (model X.prog X.w) X.A (exec st X.env) (SP X pins D) X.xe s
def PSs (X : Cx) (st : List Stmt) (t : TS) : Prop :=
 ∀ (pins : List (Addr × Obj)) (s : Shared) (σ : St) (H : Hp) (D : Zht), Inv X pins σ H s -> t D σ H -> wpAny (model X.prog X.w) X.A (execs st X.env) (SP X pins D) X.xe s
theorem thn {α : Type} {t : Sem α} {Q Q' : α -> Shared -> Prop} {M : Model} {A : Around} {E : Value -> Shared -> Prop} {s : Shared} (h : wpAny M A t Q E s) (hQ : ∀ a s, Q a s -> Q' a s) : wpAny M A t Q' E s := wpAny_mono h hQ fun _ _ x => x
end L2
namespace L2
open PySem PySem.Spec PyProof.Rows
section
variable {X : Cx}
def Zn5 (i : Nat) : TE := fun σ H Q => ∃ v, σ[i]? = some (some v) /\ Q v H
def tC (v : V) : TE := fun _ H Q => Q v H
theorem Zki {i : Nat} {x : Str} {pos : Pos} (hN : X.N[i]? = some x) (hv : Vis X.env.scope x) (hd : (x == ("__debug__" : Str)) = false := by decide) (hcd : (x == ("__classdict__" : Str)) = false := by decide) : PE X (.Name x pos) (Zn5 i) := by
 intro pins s σ H Q I h;obtain ⟨v, e, h⟩ := h;obtain ⟨m, hn, hl⟩ := I.loc;obtain ⟨u, r, l⟩ := hl i x v hN e hv;have fin : EP X pins σ Q u s := ⟨v, H, I, r, h⟩;rcases l with ⟨hk, hm⟩ | ⟨hk, c, hc, hcell⟩
 ·exact wpAny_Name (wpAny_loadName_local I.ok.kind hk hn hm fin) hd
 ·rcases hk with hk | hk
  ·exact wpAny_Name (wpAny_loadName_cell I.ok.kind hk hc hcell fin) hd
  ·exact wpAny_Name (wpAny_loadName_free I.ok.kind hk hc hcell fin hcd) hd
theorem Zae {i j pos} : PE X (.Constant (.int i) j pos) (tC (.int i)) := fun _ _ _ H _ I h => wpAny_Constant_int ⟨.int i, H, I.tok _, ⟨_, rfl⟩, h⟩
theorem Zci {b j pos} : PE X (.Constant (.bool b) j pos) (tC (.bl b)) := fun _ _ _ H _ I h => Constant_bool ⟨.bl b, H, I, rfl, h⟩
theorem Zdv {j pos} : PE X (.Constant .none j pos) (tC .non) := fun _ _ _ H _ I h => Constant_none ⟨.non, H, I, rfl, h⟩
theorem Za1 {x j pos} : PE X (.Constant (.str x) j pos) (tC (.str x)) := fun _ _ _ H _ I h => Calls.Constant_str ⟨.str x, H, I.tok _, ⟨_, rfl⟩, h⟩
def Gl (X : Cx) (x : Str) : Prop := X.env.kindOf x = some .globalImplicit
theorem Zec {E : Value -> Shared -> Prop} {pins : List (Addr × Obj)} {s : Shared} {σ : St} {H : Hp} {x : Str} {u : Value} {pos : Pos} {Q : Value -> Shared -> Prop} (I : Inv X pins σ H s) (hg : Gl X x) (hm : X.mg x = some u) (h : Q u s)
  (hd : (x == ("__debug__" : Str)) = false := by decide) : wpAny (model X.prog X.w) X.A (eval (.Name x pos) X.env) Q E s :=
 Calls.Name_function_global I.ok.kind hg (Calls.loadGlobal_global (by rw [I.ok.glob]; exact I.mod.glob.keeps I.bk) hm h) hd
theorem Zgz {E : Value -> Shared -> Prop} {pins : List (Addr × Obj)} {s : Shared} {σ : St} {H : Hp} {x : Str} {u : Value} {pos : Pos} {Q : Value -> Shared -> Prop} (I : Inv X pins σ H s) (hg : Gl X x) (hm : X.mg x = none) (hv : bootBuiltins x = some u) (h : Q u s)
  (hn : x ≠ "__name__" := by decide) (hd : (x == ("__debug__" : Str)) = false := by decide) : wpAny (model X.prog X.w) X.A (eval (.Name x pos) X.env) Q E s := by
 obtain ⟨mb, h1, h2⟩ := I.mod.blt;exact Calls.Name_function_global I.ok.kind hg (Calls.loadGlobal_builtin (by rw [I.ok.glob]; exact I.mod.glob.keeps I.bk) hm (by rw [I.ok.blt]; exact h1.keeps I.bk) ((h2 x hn).trans hv) h) hd
theorem Zbn {x : Str} {v : V} {u : Value} {pos : Pos} (hg : Gl X x) (hm : X.mg x = some u) (r : RelV v u) (hd : (x == ("__debug__" : Str)) = false := by decide) : PE X (.Name x pos) (tC v) :=
 fun _ _ _ H _ I h => Zec I hg hm ⟨v, H, I, r, h⟩ hd
theorem Zds {x : Str} {v : V} {u : Value} {pos : Pos} (hg : Gl X x) (hm : X.mg x = none) (hv : bootBuiltins x = some u) (r : RelV v u) (hn : x ≠ "__name__" := by decide) (hd : (x == ("__debug__" : Str)) = false := by decide) : PE X (.Name x pos) (tC v) :=
 fun _ _ _ H _ I h => Zgz I hg hm hv ⟨v, H, I, r, h⟩ hn hd
def t2I (ta tb : TE) (k : Int -> Int -> Hp -> Prop) : St -> Hp -> Prop := fun σ H => ta σ H fun x H1 => tb σ H1 fun y H2 => ∃ i j, x = .int i /\ y = .int j /\ k i j H2
variable {a b : Expr} {ta tb : TE} {pos : Pos}
def Zl3 (p : Int -> Int -> Bool) (ta tb : TE) : TE := fun σ H Q => t2I ta tb (fun i j H2 => Q (.bl (p i j)) H2) σ H
abbrev tLt : TE -> TE -> TE := Zl3 fun i j => decide (i < j)
abbrev tLe : TE -> TE -> TE := Zl3 fun i j => decide (i <= j)
abbrev tGt : TE -> TE -> TE := Zl3 fun i j => decide (j < i)
abbrev tGe : TE -> TE -> TE := Zl3 fun i j => decide (j <= i)
abbrev tEqI : TE -> TE -> TE := Zl3 fun i j => decide (i = j)
abbrev tNeI : TE -> TE -> TE := Zl3 fun i j => !decide (i = j)
def tB (t : TE) : TT := fun σ H Q => t σ H fun x H1 => ∃ c, x = .bl c /\ Q c H1
theorem Zc9 {e : Expr} {t : TE} (h : PE X e t) (he : ∀ whole, isTrue e X.env whole = (do let v <- whole; standAt e.pos; holding [v] (truthy v)) := by intro _; rfl) : PT X e (tB t) := by
 intro pins s σ H Q I hw;refine isTrue_plain (thn (h pins s σ H _ I hw) fun v s1 ⟨x, H1, I1, r1, q1⟩ => ?_) (he _);obtain ⟨d, rfl, q⟩ := q1;cases r1;exact wpAny_truthy_bool ⟨H1, I1, q⟩
variable {tA tB' : TT} {rest : List Expr}
def Zp3 (t u : TT) : TT := fun σ H Q => t σ H fun c H1 => if c = true then u σ H1 Q else Q false H1
def tOr (t u : TT) : TT := fun σ H Q => t σ H fun c H1 => if c = true then Q true H1 else u σ H1 Q
def Zpi (t : TT) : TT := fun σ H Q => t σ H fun c H1 => Q (!c) H1
theorem Zgt (ha : PT X a tA) : PW X (.BoolOp .Or [a] pos) tA := by
 intro wh pins s σ H Q I h;refine isTrue_or (thn (ha pins s σ H Q I h) fun c s1 e => ?_);cases c with
 | false => exact isTrue_or_nil e
 | true => exact e
theorem Zic (ha : PT X a tA) (hb : PW X (.BoolOp .Or (b :: rest) pos) tB') : PW X (.BoolOp .Or (a :: b :: rest) pos) (tOr tA tB') := by
 intro wh pins s σ H Q I h;refine isTrue_or (thn (ha pins s σ H _ I h) fun c s1 ⟨H1, I1, q1⟩ => ?_);cases c with
 | true => exact ⟨H1, I1, q1⟩
 | false => exact hb wh pins s1 σ H1 Q I1 q1
theorem Zda (ha : PT X a tA) : PT X (.UnaryOp .Not a pos) (Zpi tA) := by
 intro pins s σ H Q I h;exact isTrue_not (ha pins s σ H (fun c H1 => Q (!c) H1) I h)
def Zml (ta tb : TE) : TE := fun σ H Q => ta σ H fun x H1 => ∃ c, x = .bl c /\ if c = true then tb σ H1 Q else Q (.bl false) H1
def Zp0 (ta tb : TE) : TE := fun σ H Q => ta σ H fun x H1 => ∃ c, x = .bl c /\ if c = true then Q (.bl true) H1 else tb σ H1 Q
def Zmd (ta : TE) : TE := fun σ H Q => ta σ H fun x H1 => ∃ c, x = .bl c /\ Q (.bl (!c)) H1
theorem Zfa {op} {t : TE} (h : PE X a t) : PE X (.BoolOp op [a] pos) t := fun pins s σ H Q I hw => BoolOp_one (h pins s σ H Q I hw)
theorem Zdd (ha : PE X a ta) (hb : PE X (.BoolOp .And (b :: rest) pos) tb) : PE X (.BoolOp .And (a :: b :: rest) pos) (Zml ta tb) := by
 intro pins s σ H Q I h;refine BoolOp_and (thn (ha pins s σ H _ I h) fun v s1 ⟨x, H1, I1, r1, q1⟩ => ?_);obtain ⟨c, rfl, q1⟩ := q1;cases r1;refine wpAny_truthy_bool ?_;cases c with
 | true => exact hb pins s1 σ H1 Q I1 q1
 | false => exact ⟨.bl false, H1, I1, rfl, q1⟩
theorem Zm7 (ha : PE X a ta) : PE X (.UnaryOp .Not a pos) (Zmd ta) := by
 intro pins s σ H Q I h;refine UnaryOp_ (thn (ha pins s σ H _ I h) fun v s1 ⟨x, H1, I1, r1, q1⟩ => ?_);obtain ⟨c, rfl, q1⟩ := q1;cases r1;exact not_of (wpAny_truthy_bool ⟨.bl (!c), H1, I1, rfl, q1⟩)
def tIf (t : TT) (ta tb : TE) : TE := fun σ H Q => t σ H fun c H1 => if c = true then ta σ H1 Q else tb σ H1 Q
end
end L2
namespace L2
open PySem PySem.Spec PyProof.Rows
def SqL (K : PySem.W.Frag) (H : Hp) (a : Addr) (xs : List V) : Prop :=
 Rd H a (.lst xs) \/
  ∃ (o : Obj) (its : Array Value) (n : Nat), K.lookup a = some o /\ o.cls = .type "list" /\ o.dict = none /\ o.data = .seq its n /\ its.size <= sizeLine /\ Vals xs its.toList
def SqT (K : PySem.W.Frag) (H : Hp) (a : Addr) (xs : List V) : Prop :=
 Rd H a (.tup xs) \/
  ∃ (o : Obj) (its : Array Value) (n : Nat), K.lookup a = some o /\ o.cls = .type "tuple" /\ o.data = .seq its n /\ its.size <= sizeLine /\ Vals xs its.toList
def Zqd : Value -> Option V
 | .none => some .non
 | .bool b => some (.bl b)
 | .int i _ => some (.int i)
 | .str x _ => some (.str x)
 | .bytes b _ => some (.byt b)
 | .float b _ => some (.flt b)
 | .ref a => some (.ref a)
 | .type n => some (.ty n)
 | _ => none
theorem RelV.abs {x : V} {u : Value} (r : RelV x u) : Zqd u = some x := by
 cases x with
 | non => cases r; rfl
 | bl _ => cases r; rfl
 | int _ => obtain ⟨t, rfl⟩ := r; rfl
 | str _ => obtain ⟨t, rfl⟩ := r; rfl
 | byt _ => obtain ⟨t, rfl⟩ := r; rfl
 | flt _ => obtain ⟨t, rfl⟩ := r; rfl
 | ref _ => cases r; rfl
 | ty _ => cases r; rfl
theorem RelV.inj {x y : V} {u : Value} (r : RelV x u) (q : RelV y u) : x = y := Option.some.inj (r.abs.symm.trans q.abs)
theorem Vals.inj : ∀ {xs ys : List V} {us : List Value}, Vals xs us -> Vals ys us -> xs = ys
 | _, _, _, .nil, .nil => rfl
 | _, _, _, .cons r t, .cons r' t' => by rw [r.inj r', Vals.inj t t']
section
variable {X : Cx} {pins : List (Addr × Obj)} {σ : St} {H : Hp} {s : Shared} {a : Addr} {xs ys : List V}
theorem SqL.of {K : PySem.W.Frag} (h : H a = some (.lst xs)) : SqL K H a xs := .inl (.inl h)
theorem SqT.of {K : PySem.W.Frag} (h : H a = some (.tup xs)) : SqT K H a xs := .inl (.inl h)
theorem Inv.list (I : Inv X pins σ H s) (h : SqL X.K H a xs) : ∃ its : List Value, Vals xs its /\ PlainL s.heap a its.toArray /\ xs.length <= sizeLine := by
 rcases h with h | ⟨o, its, n, hk, hc, hd, hs, hz, r⟩
 ·obtain ⟨z, its, n, r, e⟩ := h.ok I.hok;exact ⟨its, r, ⟨_, n, e, rfl, rfl, rfl⟩, z⟩
 ·refine ⟨its.toList, r, ⟨o, n, I.kIn a o hk, hc, hd, by simpa using hs⟩, ?_⟩;have e := r.length;simp only [Array.length_toList] at e;omega
theorem Inv.tuple (I : Inv X pins σ H s) (h : SqT X.K H a xs) : ∃ its : List Value, Vals xs its /\ IsTup s.heap a its.toArray /\ xs.length <= sizeLine := by
 rcases h with h | ⟨o, its, n, hk, hc, hs, hz, r⟩
 ·obtain ⟨z, its, r, p⟩ := h.ok I.hok;exact ⟨its, r, p, z⟩
 ·refine ⟨its.toList, r, ⟨o, I.kIn a o hk, hc, n, by simpa using hs⟩, ?_⟩;have e := r.length;simp only [Array.length_toList] at e;omega
theorem Inv.list_inj (I : Inv X pins σ H s) (h : SqL X.K H a xs) (h' : SqL X.K H a ys) : xs = ys := by
 obtain ⟨its, r, ⟨o, n, e, _, _, d⟩, _⟩ := I.list h;obtain ⟨its', r', ⟨o', n', e', _, _, d'⟩, _⟩ := I.list h';rw [e] at e'; cases e';rw [d] at d';injection d' with d1 _;have : its = its' := by simpa using congrArg Array.toList d1
 subst this;exact r.inj r'
end
abbrev Cx.wish (X : Cx) (E : Value -> Shared -> Prop) : Cx := { X with xe := E }
abbrev Cx.nox (X : Cx) : Cx := X.wish fun _ _ => False
theorem Cx.Ok.wish {X : Cx} (ok : X.Ok) (E : Value -> Shared -> Prop) : (X.wish E).Ok :=
 ⟨ok.mod, ok.kind, ok.glob, ok.blt, ok.above, ok.inj, ok.has, ok.cab, ok.hd, ok.frames, ok.stk, ok.exf, ok.bs, ok.bsz, ok.noex, ok.exfs, ok.funs, ok.frf⟩
theorem Cx.Ok.unwish {X : Cx} {E : Value -> Shared -> Prop} (ok : (X.wish E).Ok) : X.Ok :=
 ⟨ok.mod, ok.kind, ok.glob, ok.blt, ok.above, ok.inj, ok.has, ok.cab, ok.hd, ok.frames, ok.stk, ok.exf, ok.bs, ok.bsz, ok.noex, ok.exfs, ok.funs, ok.frf⟩
section
variable {X : Cx} {pins : List (Addr × Obj)} {σ : St} {H : Hp} {s : Shared} {E : Value -> Shared -> Prop}
theorem Inv.wish (I : Inv X pins σ H s) (E : Value -> Shared -> Prop) : Inv (X.wish E) pins σ H s := ⟨I.ok.wish E, I.os, I.bare, I.base, I.loc, I.cell, I.free, I.freeC, I.pin, I.hok, I.len⟩
theorem Inv.unwish (I : Inv (X.wish E) pins σ H s) : Inv X pins σ H s := ⟨I.ok.unwish, I.os, I.bare, I.base, I.loc, I.cell, I.free, I.freeC, I.pin, I.hok, I.len⟩
theorem SP.unwish {D : Zht} {f : Flow} {s' : Shared} (h : SP (X.wish E) pins D f s') : SP X pins D f s' := by
 cases f with
 | next => obtain ⟨σ', H', I, q⟩ := h; exact ⟨σ', H', I.unwish, q⟩
 | brk => obtain ⟨σ', H', I, q⟩ := h; exact ⟨σ', H', I.unwish, q⟩
 | cont => obtain ⟨σ', H', I, q⟩ := h; exact ⟨σ', H', I.unwish, q⟩
 | ret u => obtain ⟨v, σ', H', I, r, q⟩ := h; exact ⟨v, σ', H', I.unwish, r, q⟩
theorem PSs.nox {st : List Stmt} {t : TS} (h : PSs X.nox st t) : PSs X st t := fun pins s σ H D I hw =>
 wpAny_mono (h pins s σ H D (I.wish _) hw) (fun _ _ q => q.unwish) fun _ _ z => False.elim z
end
section
variable {X : Cx} {st : Stmt} {rest : List Stmt} {t u : TS} {e : Expr} {te : TE} {pos : Pos}
def Zme : TS := fun D σ H => D.nx σ H
def Zn6 (t u : TS) : TS := fun D σ H => t { D with nx := u D } σ H
theorem Zbk : PSs X [] Zme := fun _ _ σ H _ I h => wpAny_execs_nil ⟨σ, H, I, h⟩
theorem Zaf (h1 : PS X st t) (h2 : PSs X rest u) : PSs X (st :: rest) (Zn6 t u) := by
 intro pins s σ H D I h;refine wpAny_execs_cons (thn (h1 pins s σ H { D with nx := u D } I h) fun f s1 q => ?_);cases f with
 | next =>
  obtain ⟨σ', H', I', q⟩ := q;exact h2 pins s1 σ' H' D I' q
 | ret v => exact q
 | brk => exact q
 | cont => exact q
theorem Zao (h1 : PS X st t) : PSs X [st] t := by
 intro pins s σ H D I h;refine wpAny_execs_cons (thn (h1 pins s σ H D I h) fun f s1 q => ?_);cases f with
 | next => exact wpAny_execs_nil q
 | ret v => exact q
 | brk => exact q
 | cont => exact q
def Zmk : TS := fun D σ H => D.bk σ H
def Zoh : TS := fun D σ H => D.ct σ H
theorem Inv.quiet {pins : List (Addr × Obj)} {σ : St} {H : Hp} {s : Shared} (I : Inv X pins σ H s) : interactive X.env = false := by simp [interactive, I.ok.kind]
def Zmg (te : TE) : TS := fun D σ H => te σ H fun _ H1 => D.nx σ H1
theorem Zcl (he : PE X e te) (hs : swapsWith e none pos.line X.env = pure false := by rfl) : PS X (.Expr e pos) (Zmg te) := by
 intro pins s σ H D I h;exact wpAny_Expr_any (thn (he pins s σ H _ I h) fun v s1 ⟨x, H1, I1, r1, q1⟩ => ⟨σ, H1, I1, q1⟩) I.quiet hs
def Zph (te : TE) : TS := fun D σ H => te σ H D.rt
theorem Za3 (he : PE X e te) : PS X (.Return (some e) pos) (Zph te) := by
 intro pins s σ H D I h;exact wpAny_Return_some (thn (he pins s σ H _ I h) fun v s1 ⟨x, H1, I1, r1, q1⟩ => ⟨x, σ, H1, I1, r1, q1⟩)
def Zn7 : TS := fun D _ H => D.rt .non H
def Zpk (c : TT) (t u : TS) : TS := fun D σ H => c σ H fun b H1 => if b = true then t D σ H1 else u D σ H1
theorem Zdr {c : Expr} {a b : List Stmt} {tc : TT} (hc : PT X c tc) (ha : PSs X a t) (hb : PSs X b u) : PS X (.If c a b pos) (Zpk tc t u) := by
 intro pins s σ H D I h;refine wpAny_If (thn (hc pins s σ H _ I h) fun d s1 ⟨H1, I1, q1⟩ => ?_);cases d with
 | true => exact ha pins s1 σ H1 D I1 q1
 | false => exact hb pins s1 σ H1 D I1 q1
end
abbrev TG := V -> St -> Hp -> (St -> Hp -> Prop) -> Prop
abbrev TGs := List V -> St -> Hp -> (St -> Hp -> Prop) -> Prop
def PG (X : Cx) (target : Expr) (t : TG) : Prop :=
 ∀ (pins : List (Addr × Obj)) (s : Shared) (σ : St) (H : Hp) (v : V) (u : Value) (Q : St -> Hp -> Prop), Inv X pins σ H s -> RelV v u -> t v σ H Q ->
  wpAny (model X.prog X.w) X.A (assign target X.env u) (fun _ s' => ∃ σ' H', Inv X pins σ' H' s' /\ Q σ' H') X.xe s
abbrev Zpd := V -> V -> V -> Hp -> (Hp -> Prop) -> Prop
def Zpv (X : Cx) (t : Zpd) : Prop :=
 ∀ (pins : List (Addr × Obj)) (s : Shared) (σ : St) (H : Hp) (o i v : V) (ov iv u : Value) (Q : Hp -> Prop), Inv X pins σ H s -> RelV o ov -> RelV i iv -> RelV v u -> t o i v H Q ->
  wpAny (model X.prog X.w) X.A (setItem ov iv u) (fun _ s' => ∃ H', Inv X pins σ H' s' /\ Q H') X.xe s
abbrev TIp := V -> V -> Hp -> VK -> Prop
section
variable {X : Cx} {pos : Pos}
def Zge (i : Nat) : TG := fun v σ H Q => Q (σ.set i (some v)) H
theorem Zc1 {i : Nat} {x : Str} (hN : X.N.Nodup) (hi : X.N[i]? = some x) (hx : Loc X.env.scope x) (hf : X.fn x = true \/ X.env.scope.names.lookup x = some .local := by first | exact .inl rfl | exact .inr rfl | assumption) : PG X (.Name x pos) (Zge i) := by
 intro pins s σ H v u Q I r h;exact wpAny_assign_Name (Zdx I hN hi hx r (fun s' I' => ⟨_, H, I', h⟩) hf)
def Zqc : TGs := fun vs σ H Q => vs = [] /\ Q σ H
def Zpa (t : TG) (u : TGs) : TGs := fun vs σ H Q => ∃ v r, vs = v :: r /\ t v σ H fun σ' H' => u r σ' H' Q
def Zqb (K : PySem.W.Frag) (n : Nat) (t : TGs) : TG := fun v σ H Q => ∃ a xs, v = .ref a /\ SqT K H a xs /\ xs.length = n /\ t xs σ H Q
def Zpt (to ti : TE) (t : Zpd) : TG := fun v σ H Q => to σ H fun o H1 => ti σ H1 fun i H2 => t o i v H2 fun H3 => Q σ H3
theorem Zkh {o i : Expr} {to ti : TE} {t : Zpd} (ho : PE X o to) (hi : PE X i ti) (hs : Zpv X t)
  (ha : ∀ v, assign (.Subscript o i pos) X.env v = (do
   let ov <- holding [v] (eval o X.env)
   let iv <- holding [v, ov] (eval i X.env)
   standAt pos
   holding [v, ov, iv] (setItem ov iv v)
   release [v, ov, iv] []) := by intro _; rfl) : PG X (.Subscript o i pos) (Zpt to ti t) := by
 intro pins s σ H v u Q I r h;rw [ha];refine wpAny_bind (wpAny_holding (thn (ho pins s σ H _ I h) fun ov s1 ⟨x, H1, I1, r1, q1⟩ => ?_));refine wpAny_bind (wpAny_holding (thn (hi pins s1 σ H1 _ I1 q1) fun iv s2 ⟨y, H2, I2, r2, q2⟩ => ?_));refine wpAny_bind (wpAny_standAt (wpAny_bind (wpAny_holding (thn (hs pins s2 σ H2 x y v ov iv u _ I2 r1 r2 r q2) fun _ s3 ⟨H3, I3, q3⟩ => ?_))));exact wpAny_release ⟨σ, H3, I3, q3⟩
def Znx (te : TE) (g : TG) : TS := fun D σ H => te σ H fun x H1 => g x σ H1 D.nx
theorem Zkg {tg e : Expr} {te : TE} {g : TG} (he : PE X e te) (hg : PG X tg g) (hs : swapsWithSole [tg] e pos.line X.env = pure false := by rfl) (hw : swappedStores [tg] e X.env = pure none := by rfl)
  (h1 : (assignEach [tg] X.env).map (·.2) = [assign tg X.env] := by rfl) : PS X (.Assign [tg] e pos) (Znx te g) := by
 intro pins s σ H D I h;refine wpAny_Assign_stores (thn (he pins s σ H _ I h) fun v s1 ⟨x, H1, I1, r1, q1⟩ => ?_) hs hw;rw [h1];exact thn (hg pins s1 σ H1 x v _ I1 r1 q1) fun _ s2 q => q
theorem Zay {i : Nat} {x : Str} {e : Expr} {te : TE} {pos' : Pos} (hN : X.N.Nodup) (hi : X.N[i]? = some x) (hx : Loc X.env.scope x) (he : PE X e te) (hs : swapsWith e (some (.Name x pos')) pos.line X.env = pure false := by rfl) (hf : X.fn x = true \/ X.env.scope.names.lookup x = some .local := by first | exact .inl rfl | exact .inr rfl | assumption) :
  PS X (.Assign [.Name x pos'] e pos) (Znx te (Zge i)) := by
 intro pins s σ H D I h;refine wpAny_Assign_Name (thn (he pins s σ H _ I h) fun v s1 ⟨y, H1, I1, r1, q1⟩ => ?_) hs;exact Zdx I1 hN hi hx r1 (fun s2 I2 => ⟨_, H1, I2, q1⟩) hf
end
section
variable {X : Cx} {pos : Pos}
def Zj8 (c : TT) (tb : TS) : TS := fun D σ H => ∃ W : Nat -> St -> Hp -> Prop, (∃ m, W m σ H) /\ ∀ m σ H, W m σ H ->
 c σ H fun b H1 => if b = true then ∃ N : St -> Hp -> Prop, (∀ σ' H', N σ' H' -> ∃ m', m' < m /\ W m' σ' H') /\ tb { D with nx := N, ct := N, bk := D.nx } σ H1 else D.nx σ H1
theorem Zjn {c : Expr} {body : List Stmt} {tc : TT} {tb : TS} (hp : PassesOwn (model X.prog X.w) X.A X.env X.xe) (hc : PT X c tc) (hb : PSs X body tb) : PS X (.While c body [] pos) (Zj8 tc tb) := by
 intro pins s σ H D I h;obtain ⟨W, ⟨m0, w0⟩, turn⟩ := h;refine wpAny_While (codeAny_whileLoop (fun n s' => ∃ σ' H', Inv X pins σ' H' s' /\ W n σ' H') ?_ m0 ⟨σ, H, I, w0⟩);rintro n s1 ⟨σ1, H1, I1, w1⟩;refine wpAny_passesOwn hp (thn (hc pins s1 σ1 H1 _ I1 (turn n σ1 H1 w1)) fun b s2 ⟨H2, I2, q2⟩ => ?_);cases b with
 | true =>
  obtain ⟨N, hN, q2⟩ := q2;rw [if_pos rfl];refine wpAny_passesOwn hp (thn (hb pins s2 σ1 H2 _ I2 q2) fun f s3 q3 => ?_);cases f with
  | next =>
   obtain ⟨σ3, H3, I3, n3⟩ := q3;obtain ⟨m', hm, w3⟩ := hN σ3 H3 n3;exact ⟨m', hm, σ3, H3, I3, w3⟩
  | cont =>
   obtain ⟨σ3, H3, I3, n3⟩ := q3;obtain ⟨m', hm, w3⟩ := hN σ3 H3 n3;exact ⟨m', hm, σ3, H3, I3, w3⟩
  | brk => exact q3
  | ret v => exact q3
 | false =>
  rw [if_neg Bool.false_ne_true];exact wpAny_execs_nil ⟨σ1, H2, I2, q2⟩
end
structure It where
 go : Nat -> Hp -> Prop
 yld : Nat -> Hp -> V -> Hp -> Prop
 stop : Nat -> Hp -> Prop
def FpOk (X : Cx) (pins : List (Addr × Obj)) (H : Hp) (b : Addr) : Prop :=
 H b = none /\ b ≠ X.env.locals /\ b ∉ X.fs /\ (b ∈ X.ex \/ X.s₀.heap.objs.size <= b) /\ (∀ x c, X.env.cells.lookup x = some c -> c ≠ b) /\ ∀ p ∈ X.pn ++ pins, p.1 ≠ b
theorem Inv.fpOk {X : Cx} {pins : List (Addr × Obj)} {σ : St} {H H' : Hp} {s : Shared} {b : Addr} (I : Inv X pins σ H s) (hb : s.heap.objs.size <= b) (hn : H' b = none) : FpOk X pins H' b := by
 refine ⟨hn, Nat.ne_of_gt (Nat.lt_of_lt_of_le I.lt hb), I.nofs hb, .inr (Nat.le_trans I.sz hb), fun x c e z => ?_, fun p hp z => ?_⟩
 ·obtain ⟨v, q⟩ := I.cell x c e;exact absurd (Nat.lt_of_lt_of_le q.lt (by rw [z]; exact hb)) (Nat.lt_irrefl _)
 ·exact absurd (Nat.lt_of_lt_of_le (Heap.lt_size (I.pin p hp).1) (by rw [z]; exact hb)) (Nat.lt_irrefl _)
structure Znw (P : Program) (w : World) (K : PySem.W.Frag) (tg : Expr) (J : It) (fp : List Addr) (it : Addr) (tn : Nat -> Heap -> Prop) : Prop where
 mem : it ∈ fp
 obj : ∀ i h, tn i h -> ∀ b ∈ fp, ∃ o, h.get? b = some o /\ ∀ v, o.data ≠ .cell v
 keep : ∀ i h h', tn i h -> (∀ b ∈ fp, ∀ o, h.get? b = some o -> h'.get? b = some o) -> tn i h'
 item : ∀ (X : Cx), X.prog = P -> X.w = w -> X.K = K -> X.calm = true -> ∀ (i : Nat) (pins : List (Addr × Obj)) (s : Shared) (σ : St) (H : Hp) (E : Value -> Shared -> Prop), Inv X pins σ H s -> (∀ b ∈ fp, FpOk X pins H b) -> tn i s.heap -> J.go i H ->
  wpAny (model P w) X.A (pyNext (.ref it)) (fun r s1 => ∃ u, r = some u /\
   wpAny (model P w) X.A (letOwnedTupleGo tg (.ref it) u) (fun _ s2 => ∃ x H', Inv X pins σ H' s2 /\ RelV x u /\ J.yld i H x H' /\ tn (i + 1) s2.heap /\ ∀ b ∈ fp, H' b = none) E s1) E s
 done : ∀ (X : Cx), X.prog = P -> X.w = w -> X.K = K -> X.calm = true -> ∀ (i : Nat) (pins : List (Addr × Obj)) (s : Shared) (σ : St) (H : Hp) (E : Value -> Shared -> Prop), Inv X pins σ H s -> (∀ b ∈ fp, FpOk X pins H b) -> tn i s.heap -> J.stop i H ->
  wpAny (model P w) X.A (pyNext (.ref it)) (fun r s1 => r = none /\ Inv X pins σ H s1) E s
 self : ∀ (A : Around) (i : Nat) (s : Shared) (Q : Value -> Shared -> Prop) (E : Value -> Shared -> Prop), tn i s.heap -> Q (.ref it) s -> wpAny (model P w) A (pyIter (.ref it)) Q E s
abbrev TI := St -> Hp -> (It -> Hp -> Prop) -> Prop
def PIE (X : Cx) (pins : List (Addr × Obj)) (σ : St) (tg : Expr) (R : It -> Hp -> Prop) (itv : Value) (s2 : Shared) : Prop :=
 ∃ (it : Addr) (fp : List Addr) (tn : Nat -> Heap -> Prop) (J : It) (H' : Hp), itv = .ref it /\ Inv X pins σ H' s2 /\ Znw X.prog X.w X.K tg J fp it tn /\ tn 0 s2.heap /\ (∀ b ∈ fp, FpOk X pins H' b) /\ R J H'
def PI (X : Cx) (tg iter : Expr) (wi : TI) : Prop :=
 ∀ (pins : List (Addr × Obj)) (s : Shared) (σ : St) (H : Hp) (R : It -> Hp -> Prop), Inv X pins σ H s -> wi σ H R ->
  wpAny (model X.prog X.w) X.A (eval iter X.env) (fun v s1 => wpAny (model X.prog X.w) X.A (pyIter v) (PIE X pins σ tg R) X.xe s1) X.xe s
theorem Zlp {M : Model} {A : Around} {E : Value -> Shared -> Prop} {s : Shared} {tg : Expr} {it : Addr} {u : Value} {o : Obj} {n : String} {vs : Array Value} {Q : Unit -> Shared -> Prop} (ho : s.heap.get? it = some o) (hc : o.cls = .type n) (hd : o.data = .fields vs)
    (hn : ["enumerate", "zip", "dict_itemiterator", "dict_reverseitemiterator", "odict_iterator", "itertools.zip_longest", "itertools.pairwise"].contains n = false) (hQ : Q () s) : wpAny M A (letOwnedTupleGo tg (.ref it) u) Q E s := by
  unfold letOwnedTupleGo
  cases tg <;> first
    | exact wpAny_pure hQ
    | (cases u <;> first
        | exact wpAny_pure hQ
        | (refine wpAny_bind (wpAny_load ho ?_)
           rw [hc, hd]
           show wpAny M A (if (["enumerate", "zip", "dict_itemiterator", "dict_reverseitemiterator", "odict_iterator", "itertools.zip_longest", "itertools.pairwise"].contains n && vs[0]? == some (rawInt _)) = true then _ else _) Q E s
           rw [if_neg (by intro h; rw [hn, Bool.false_and] at h; cases h)]
           exact wpAny_pure hQ))
def Itl (K : PySem.W.Frag) (a : Addr) : It :=
 ⟨fun i H => ∃ xs x, SqL K H a xs /\ xs[i]? = some x, fun i H x H' => H' = H /\ ∀ xs, SqL K H a xs -> xs[i]? = some x, fun i H => ∃ xs, SqL K H a xs /\ xs.length <= i⟩
def Itr (lo : Int) (n : Nat) : It := ⟨fun i _ => i < n, fun i H x H' => H' = H /\ x = .int (lo + i), fun i _ => n <= i⟩
theorem Zhy {P : Program} {w : World} {K : PySem.W.Frag} {tg : Expr} (a it : Addr) : Znw P w K tg (Itl K a) [it] it (fun i h => h.IsListIter it a i) where
 mem := by simp
 obj := fun i h st b hb => by
  have e : b = it := by simpa using hb
  subst e;obtain ⟨o, e, c, d⟩ := st;exact ⟨o, e, fun v z => by rw [d] at z; cases z⟩
 keep := fun i h h' st k => st.at fun o e => k it (by simp) o e
 item := by
  intro X hP hw hK hc i pins s σ H E I hf st hg;subst hP hw hK;obtain ⟨xs, x, hq, hx⟩ := hg;obtain ⟨its, rv, p, hz⟩ := I.list hq;obtain ⟨u, hu, ru⟩ := rv.get hx;obtain ⟨f0, f1, f2, f3, f4, f5⟩ := hf it (by simp);refine wpAny_pyNext_list_item st p.isList (x := u) (by simpa using hu) fun h' st' sb => ?_
  have I1 : Inv X pins σ H { s with heap := h' } := I.turned (t' := s.toks) (fun b o hb e => (sb.2 b hb).trans e) f0 f1 f3 f4 f5;obtain ⟨o, e, c, d⟩ := id st';exact ⟨u, rfl, Zlp (s := { s with heap := h' }) e c d (by decide) ⟨x, H, I1, ru, ⟨rfl, fun ys hy => by rw [I.list_inj hy hq]; exact hx⟩, st', fun b hb => (hf b hb).1⟩⟩
 done := by
  intro X hP hw hK hc i pins s σ H E I hf st hg;subst hP hw hK;obtain ⟨xs, hq, hx⟩ := hg;obtain ⟨its, rv, p, hz⟩ := I.list hq;obtain ⟨f0, f1, f2, f3, f4, f5⟩ := hf it (by simp);have hl := rv.length;exact wpAny_pyNext_list_end (I.ok.hd hc) st p.isList (by simp; omega) fun h' eb => ⟨rfl, I.turned (t' := s.toks) (fun b o hb e => eb b o hb e) f0 f1 f3 f4 f5⟩
 self := fun _ _ _ _ _ st h => wpAny_pyIter_listiter st h
theorem Zg5 {P : Program} {w : World} {K : PySem.W.Frag} {tg : Expr} (it : Addr) (lo : Int) (n : Nat) : Znw P w K tg (Itr lo n) [it] it (fun i h => IsRangeIter h it (lo + (i : Nat) * 1) ((n : Int) - (i : Nat)) 1) where
 mem := by simp
 obj := fun i h st b hb => by
  have e : b = it := by simpa using hb
  subst e;exact ⟨_, st, fun v z => by
   have z' : Data.fields _ = Data.cell v := z;cases z'⟩
 keep := fun i h h' st k => k it (by simp) _ st
 item := by
  intro X hP hw hK hc i pins s σ H E I hf st hg;subst hP hw hK;obtain ⟨f0, f1, f2, f3, f4, f5⟩ := hf it (by simp);have W := Walks.range (prog := X.prog) (w := X.w) (I.ok.hd hc) it lo 1 n;refine W.item i s _ _ hg st fun v h' tk hv st' kk => ?_
  obtain ⟨t, rfl⟩ := hv;have I1 : Inv X pins σ H { s with heap := h', toks := tk } := I.turned (fun b o hb e => kk b o (by simpa using hb) e) f0 f1 f3 f4 f5;refine ⟨_, rfl, Zlp (s := { s with heap := h', toks := tk }) (n := "range_iterator") st' rfl rfl (by decide) ⟨.int (lo + i), H, I1, ⟨t, ?_⟩, ⟨rfl, rfl⟩, st', fun b hb => (hf b hb).1⟩⟩;rw [Int.mul_one]
 done := by
  intro X hP hw hK hc i pins s σ H E I hf st hg;subst hP hw hK;obtain ⟨f0, f1, f2, f3, f4, f5⟩ := hf it (by simp);exact wpAny_pyNext_range_end (I.ok.hd hc) st (by have : n <= i := hg; omega) fun h' eb => ⟨rfl, I.turned (t' := s.toks) (fun b o hb e => eb b o hb e) f0 f1 f3 f4 f5⟩
 self := fun _ _ _ _ _ st h => wpAny_pyIter_rangeiter st h
end L2
namespace L2
open PySem PySem.Spec PyProof.Rows
section
variable {X : Cx} {tg : Expr}
def Zlo (K : PySem.W.Frag) (tl : TE) : TI := fun σ H R => tl σ H fun x H1 => ∃ a, x = .ref a /\ (∃ xs, SqL K H1 a xs) /\ R (Itl K a) H1
theorem Zld {l : Expr} {tl : TE} (hl : PE X l tl) : PI X tg l (Zlo X.K tl) := by
 intro pins s σ H R I h;refine thn (hl pins s σ H _ I h) fun v s1 ⟨x, H1, I1, r1, q1⟩ => ?_
 obtain ⟨a, e, ⟨xs, hq⟩, q⟩ := q1;subst e;cases r1;obtain ⟨its, rv, p, hz⟩ := I1.list hq;refine wpAny_pyIter_list p.isList ?_;refine ⟨s1.heap.objs.size, [s1.heap.objs.size], _, _, H1, rfl, I1.kept (t' := s1.toks) fun b o e => Heap.get?_push_of_some _ e, Zhy a _, ⟨_, Heap.get?_push_size _ rfl, rfl, rfl⟩, fun b hb => ?_, q⟩;have e : b = s1.heap.objs.size := by simpa using hb
 subst e;exact I1.fpOk (Nat.le_refl _) (I1.hok.fresh (Nat.le_refl _))
theorem Zji {pins : List (Addr × Obj)} {σ : St} {H : Hp} {s : Shared} {R : It -> Hp -> Prop} {E : Value -> Shared -> Prop} {lo hi : Int} {t u v : Tok} {tk : Nat} (I : Inv X pins σ H s) (h1 : -(2 ^ 62) <= lo) (h2 : lo < 2 ^ 62) (h3 : -(2 ^ 62) <= hi) (h4 : hi < 2 ^ 62)
  (q : R (Itr lo (hi - lo).toNat) H) : wpAny (model X.prog X.w) X.A (pyIter (.ref s.heap.objs.size)) (PIE X pins σ tg R) E { s with heap := s.heap.push { cls := .type "range", data := .fields #[.int lo t, .int hi u, .int 1 v] }, toks := tk } := by
 refine wpAny_pyIter_range (IsRange.new ..) (small_one h1 h2 h3 h4) ?_;have I1 : Inv X pins σ H { s with heap := s.heap.push { cls := .type "range", data := .fields #[.int lo t, .int hi u, .int 1 v] }, toks := tk } := I.kept fun b o e => Heap.get?_push_of_some _ e
 refine ⟨(s.heap.push { cls := .type "range", data := .fields #[.int lo t, .int hi u, .int 1 v] }).objs.size, [(s.heap.push { cls := .type "range", data := .fields #[.int lo t, .int hi u, .int 1 v] }).objs.size], _, _, H, rfl,
  I1.kept (t' := tk) fun b o e => Heap.get?_push_of_some _ e, Zg5 _ lo (hi - lo).toNat, ?_, fun b hb => ?_, q⟩
 ·have e1 : lo + ((0 : Nat) : Int) * 1 = lo := by simp
  have e2 : (((hi - lo).toNat : Nat) : Int) - ((0 : Nat) : Int) = Builtin.Range.rangeSize lo hi 1 := by rw [rangeSize_one]; split <;> omega
  show IsRangeIter _ _ (lo + ((0 : Nat) : Int) * 1) ((((hi - lo).toNat : Nat) : Int) - ((0 : Nat) : Int)) 1;rw [e1, e2];exact Heap.get?_push_size _ rfl
 ·have e : b = (s.heap.push { cls := .type "range", data := .fields #[.int lo t, .int hi u, .int 1 v] }).objs.size := by simpa using hb
  subst e;exact I1.fpOk (Nat.le_refl _) (I1.hok.fresh (Nat.le_refl _))
def Zns (ta : TA) : TI := fun σ H R => ta σ H fun vs H1 => ∃ j : Int, vs = [.int j] /\ -(2 ^ 62) <= j /\ j < 2 ^ 62 /\ R (Itr 0 j.toNat) H1
def Zo8 (ta : TA) : TI := fun σ H R => ta σ H fun vs H1 => ∃ i j : Int, vs = [.int i, .int j] /\ (-(2 ^ 62) <= i /\ i < 2 ^ 62 /\ -(2 ^ 62) <= j /\ j < 2 ^ 62) /\ R (Itr i (j - i).toNat) H1
theorem Zea {a : Expr} {ta : TA} {p pos : Pos} (hg : Gl X "range") (hm : X.mg "range" = none) (ha : PA X [a] ta) (hs : starEach [a] X.env = [(false, eval a X.env)] := by rfl) : PI X tg (.Call (.Name "range" p) [a] [] pos) (Zns ta) := by
 intro pins s σ H R I h;refine Call_ (Zgz I hg hm boot_range (PyProof.Rows.callWith_type1 (thn (ha pos pins s σ H _ I h) fun us s1 ⟨vs, H1, I1, r1, q1⟩ => ?_) hs rfl));obtain ⟨j, e, q1, q2, q⟩ := q1;subst e;cases r1 with
 | cons r rr =>
  cases rr;obtain ⟨t, rfl⟩ := r;exact call_range_1 (Zji I1 (by omega) (by omega) q1 q2 (by simpa using q))
def Zpl (wi : TI) (g : TG) (tb : TS) : TS := fun D σ H => wi σ H fun J H1 => ∃ W : Nat -> Nat -> St -> Hp -> Prop, (∃ m, W 0 m σ H1) /\ ∀ i m σ H, W i m σ H ->
 (J.stop i H /\ D.nx σ H) \/ (J.go i H /\ ∃ N : St -> Hp -> Prop, (∀ σ' H', N σ' H' -> ∃ m', m' < m /\ W (i + 1) m' σ' H') /\ ∀ x H', J.yld i H x H' -> g x σ H' fun σ2 H2 => tb { D with nx := N, ct := N, bk := D.nx } σ2 H2)
def Ze9 (fp : List Addr) (h : Heap) : List (Addr × Obj) := fp.filterMap fun b => (h.get? b).map fun o => (b, o)
theorem Zcs {fp : List Addr} {h : Heap} {b : Addr} {o : Obj} (hb : b ∈ fp) (e : h.get? b = some o) : (b, o) ∈ Ze9 fp h := List.mem_filterMap.mpr ⟨b, hb, by rw [e]; rfl⟩
theorem Zil {fp : List Addr} {h : Heap} {p : Addr × Obj} (hp : p ∈ Ze9 fp h) : p.1 ∈ fp /\ h.get? p.1 = some p.2 := by
 obtain ⟨b, hb, e⟩ := List.mem_filterMap.mp hp;cases q : h.get? b with
 | none => rw [q] at e; cases e
 | some o =>
  rw [q] at e;have e' : (b, o) = p := Option.some.inj e;subst e';exact ⟨hb, q⟩
theorem Inv.pinned {pins : List (Addr × Obj)} {σ : St} {H : Hp} {s : Shared} {fp : List Addr} (I : Inv X pins σ H s) (hf : ∀ b ∈ fp, FpOk X pins H b) (ho : ∀ b ∈ fp, ∃ o, s.heap.get? b = some o /\ ∀ v, o.data ≠ .cell v) : Inv X (pins ++ Ze9 fp s.heap) σ H s :=
 I.pins_of fun p hp => (List.mem_append.mp hp).elim (fun z => I.pin p (List.mem_append_right _ z)) fun z => by
  obtain ⟨hb, e⟩ := Zil z;obtain ⟨f0, f1, f2, _⟩ := hf p.1 hb;obtain ⟨o, e', d⟩ := ho p.1 hb;rw [e] at e'; cases e';exact ⟨e, f0, f1, f2, d⟩
theorem Inv.unpinned {pins pl : List (Addr × Obj)} {σ : St} {H : Hp} {s : Shared} (I : Inv X (pins ++ pl) σ H s) : Inv X pins σ H s := I.pins_of fun p hp => I.pin p (List.mem_append_right _ (List.mem_append_left _ hp))
theorem Zkf {iter : Expr} {body : List Stmt} {wi : TI} {g : TG} {tb : TS} {pos : Pos} (hp : PassesOwn (model X.prog X.w) X.A X.env X.xe) (hc : X.calm = true) (hi : PI X tg iter wi) (hg : PG X tg g) (hb : PSs X body tb)
  (hs : ∀ x, foldedSetIterable iter X.env x = pure x := by intro _; rfl) : PS X (.For tg iter body [] pos) (Zpl wi g tb) := by
 intro pins s σ H D I h;refine wpAny_For (thn (hi pins s σ H _ I h) fun v s1 h1 => thn h1 fun itv s2 h2 => ?_) hs;obtain ⟨it, fp, tn, J, H2, e, I2, T, st2, f2, W, ⟨m0, w0⟩, turn⟩ := h2;subst e
 -- what stays true of the iterator's objects through the loop
 have stat : ∀ {H' : Hp}, (∀ b ∈ fp, H' b = none) -> ∀ b ∈ fp, FpOk X pins H' b := fun hn b hb => ⟨hn b hb, (f2 b hb).2⟩
 refine codeAny_forLoop_any (fun n s' => ∃ i σ' H', Inv X pins σ' H' s' /\ tn i s'.heap /\ (∀ b ∈ fp, H' b = none) /\ W i n σ' H') ?_ m0 ⟨0, σ, H2, I2, st2, fun b hb => (f2 b hb).1, w0⟩;rintro n s3 ⟨i, σ3, H3, I3, st3, fr3, w3⟩;rcases turn i n σ3 H3 w3 with ⟨stop, qn⟩ | ⟨go, N, hN, step⟩
 ·refine wpAny_passesOwn hp (thn (T.done X rfl rfl rfl hc i pins s3 σ3 H3 X.xe I3 (stat fr3) st3 stop) fun r s4 ⟨hr, I4⟩ => ?_);subst hr;exact wpAny_execs_nil ⟨σ3, H3, I4, qn⟩
 ·refine wpAny_passesOwn hp (thn (T.item X rfl rfl rfl hc i pins s3 σ3 H3 X.xe I3 (stat fr3) st3 go) fun r s4 ⟨u, hr, h4⟩ => ?_);subst hr;refine wpAny_passesOwn hp (thn h4 fun _ s5 ⟨x, H5, I5, r5, y5, st5, fr5⟩ => ?_);have I5' := I5.pinned (stat fr5) (T.obj _ _ st5);refine wpAny_passesOwn hp (thn (hg _ s5 σ3 H5 x u _ I5' r5 (step x H5 y5)) fun _ s6 ⟨σ6, H6, I6, q6⟩ => ?_);refine wpAny_passesOwn hp (thn (hb _ s6 σ6 H6 _ I6 q6) fun f s7 q7 => ?_);have again : ∀ {σ7 : St} {H7 : Hp}, Inv X (pins ++ Ze9 fp s5.heap) σ7 H7 s7 -> N σ7 H7 -> ∃ m, m < n /\ ∃ i σ' H', Inv X pins σ' H' s7 /\ tn i s7.heap /\ (∀ b ∈ fp, H' b = none) /\ W i m σ' H' := fun {σ7 H7} I7 n7 => by
   obtain ⟨m', hm, w7⟩ := hN σ7 H7 n7;refine ⟨m', hm, i + 1, σ7, H7, I7.unpinned, T.keep _ _ _ st5 fun b hb o e => (I7.pin (b, o) (List.mem_append_right _ (List.mem_append_right _ (Zcs hb e)))).1, fun b hb => ?_, w7⟩;obtain ⟨o, e, d⟩ := T.obj _ _ st5 b hb;exact (I7.pin (b, o) (List.mem_append_right _ (List.mem_append_right _ (Zcs hb e)))).2.1
  cases f with
  | next => obtain ⟨σ7, H7, I7, n7⟩ := q7; exact again I7 n7
  | cont => obtain ⟨σ7, H7, I7, n7⟩ := q7; exact again I7 n7
  | brk => obtain ⟨σ7, H7, I7, q7⟩ := q7; exact ⟨σ7, H7, I7.unpinned, q7⟩
  | ret v => obtain ⟨x7, σ7, H7, I7, r7, q7⟩ := q7; exact ⟨x7, σ7, H7, I7.unpinned, r7, q7⟩
end
theorem Zjz {K : PySem.W.Frag} {a : Addr} {xs : List V} {g : TG} {tb : TS} {D : Zht} {σ : St} {H : Hp} (Pv : Nat -> St -> Hp -> Prop) (h0 : Pv 0 σ H) (hl : ∀ i σ H, i <= xs.length -> Pv i σ H -> SqL K H a xs)
  (hs : ∀ i x σ H, xs[i]? = some x -> Pv i σ H -> g x σ H fun σ2 H2 => tb { D with nx := Pv (i + 1), ct := Pv (i + 1), bk := D.nx } σ2 H2) (hd : ∀ σ H, Pv xs.length σ H -> D.nx σ H) :
  ∃ W : Nat -> Nat -> St -> Hp -> Prop, (∃ m, W 0 m σ H) /\ ∀ i m σ H, W i m σ H ->
   ((Itl K a).stop i H /\ D.nx σ H) \/ ((Itl K a).go i H /\ ∃ N : St -> Hp -> Prop, (∀ σ' H', N σ' H' -> ∃ m', m' < m /\ W (i + 1) m' σ' H') /\ ∀ x H', (Itl K a).yld i H x H' -> g x σ H' fun σ2 H2 => tb { D with nx := N, ct := N, bk := D.nx } σ2 H2) := by
 refine ⟨fun i m σ H => m = xs.length - i /\ i <= xs.length /\ Pv i σ H, ⟨xs.length, by simp, Nat.zero_le _, h0⟩, ?_⟩;rintro i m σ H ⟨rfl, hi, p⟩;have q := hl i σ H hi p
 by_cases hlt : i < xs.length
 ·refine .inr ⟨⟨xs, xs[i], q, by simp [hlt]⟩, Pv (i + 1), fun σ' H' p' => ⟨xs.length - (i + 1), by omega, rfl, hlt, p'⟩, fun x H' y => ?_⟩;obtain ⟨e, y⟩ := y;subst e;exact hs i x σ _ (y xs q) p
 ·have e : i = xs.length := by omega
  subst e;exact .inl ⟨⟨xs, q, Nat.le_refl _⟩, hd σ H p⟩
theorem Ziz {lo : Int} {n : Nat} {g : TG} {tb : TS} {D : Zht} {σ : St} {H : Hp} (Pv : Nat -> St -> Hp -> Prop) (h0 : Pv 0 σ H)
  (hs : ∀ i σ H, i < n -> Pv i σ H -> g (.int (lo + i)) σ H fun σ2 H2 => tb { D with nx := Pv (i + 1), ct := Pv (i + 1), bk := D.nx } σ2 H2) (hd : ∀ σ H, Pv n σ H -> D.nx σ H) :
  ∃ W : Nat -> Nat -> St -> Hp -> Prop, (∃ m, W 0 m σ H) /\ ∀ i m σ H, W i m σ H ->
   ((Itr lo n).stop i H /\ D.nx σ H) \/ ((Itr lo n).go i H /\ ∃ N : St -> Hp -> Prop, (∀ σ' H', N σ' H' -> ∃ m', m' < m /\ W (i + 1) m' σ' H') /\ ∀ x H', (Itr lo n).yld i H x H' -> g x σ H' fun σ2 H2 => tb { D with nx := N, ct := N, bk := D.nx } σ2 H2) := by
 refine ⟨fun i m σ H => m = n - i /\ i <= n /\ Pv i σ H, ⟨n, by simp, Nat.zero_le _, h0⟩, ?_⟩;rintro i m σ H ⟨rfl, hi, p⟩
 by_cases hlt : i < n
 ·refine .inr ⟨hlt, Pv (i + 1), fun σ' H' p' => ⟨n - (i + 1), by omega, rfl, hlt, p'⟩, fun x H' y => ?_⟩;obtain ⟨e, y⟩ := y;subst e y;exact hs i σ _ hlt p
 ·have e : i = n := by omega
  subst e;exact .inl ⟨Nat.le_refl _, hd σ H p⟩
end L2
namespace L2
open PySem PySem.Spec PyProof.Rows
abbrev R2 := V -> V -> Hp -> VK -> Prop
def OpR (X : Cx) (f : Value -> Value -> Sem Value) (r : R2) : Prop :=
 ∀ (pins : List (Addr × Obj)) (s : Shared) (σ : St) (H : Hp) (x y : V) (v u : Value) (Q : VK), Inv X pins σ H s -> RelV x v -> RelV y u -> r x y H Q ->
  wpAny (model X.prog X.w) X.A (f v u) (EP X pins σ Q) X.xe s
def UnR (X : Cx) (f : Value -> Sem Value) (r : V -> Hp -> VK -> Prop) : Prop :=
 ∀ (pins : List (Addr × Obj)) (s : Shared) (σ : St) (H : Hp) (x : V) (v : Value) (Q : VK), Inv X pins σ H s -> RelV x v -> r x H Q ->
  wpAny (model X.prog X.w) X.A (f v) (EP X pins σ Q) X.xe s
def CallR (X : Cx) (f : Value) (r : List V -> Hp -> VK -> Prop) : Prop :=
 ∀ (pins : List (Addr × Obj)) (s : Shared) (σ : St) (H : Hp) (xs : List V) (us : List Value) (Q : VK), Inv X pins σ H s -> Vals xs us -> r xs H Q ->
  wpAny (model X.prog X.w) X.A (call f us) (EP X pins σ Q) X.xe s
def tOp (r : R2) (ta tb : TE) : TE := fun σ H Q => ta σ H fun x H1 => tb σ H1 fun y H2 => r x y H2 Q
def tUn (r : V -> Hp -> VK -> Prop) (ta : TE) : TE := fun σ H Q => ta σ H fun x H1 => r x H1 Q
def rI (C : Int -> Int -> Prop) (g : Int -> Int -> V) : R2 := fun x y H Q => ∃ i j, x = .int i /\ y = .int j /\ C i j /\ Q (g i j) H
def rI0 (g : Int -> Int -> V) : R2 := fun x y H Q => ∃ i j, x = .int i /\ y = .int j /\ Q (g i j) H
def rU (g : Int -> V) : V -> Hp -> VK -> Prop := fun x H Q => ∃ i, x = .int i /\ Q (g i) H
section
variable {X : Cx} {a b c : Expr} {ta tb tc : TE} {pos : Pos}
theorem Zpc (ha : PE X a ta) (hb : PE X b tb) {pins : List (Addr × Obj)} {s : Shared} {σ : St} {H : Hp} {R : V -> V -> Hp -> Prop} (I : Inv X pins σ H s)
  (h : ta σ H fun x H1 => tb σ H1 fun y H2 => R x y H2) {Q : Value -> Shared -> Prop} {f : Value -> Value -> Sem Value}
  (hf : ∀ v u s2 x y H2, Inv X pins σ H2 s2 -> RelV x v -> RelV y u -> R x y H2 -> wpAny (model X.prog X.w) X.A (f v u) Q X.xe s2) :
  wpAny (model X.prog X.w) X.A (eval a X.env) (fun v s₁ => wpAny (model X.prog X.w) X.A (eval b X.env) (fun u s₂ => wpAny (model X.prog X.w) X.A (f v u) Q X.xe s₂) X.xe s₁) X.xe s := by
 refine thn (ha pins s σ H _ I h) fun v s1 ⟨x, H1, I1, r1, q1⟩ => ?_
 refine thn (hb pins s1 σ H1 _ I1 q1) fun u s2 ⟨y, H2, I2, r2, q2⟩ => ?_
 exact hf v u s2 x y H2 I2 r1 r2 q2
theorem Zar {op : Operator} {r : R2} (ho : OpR X (binaryOp op) r) (ha : PE X a ta) (hb : PE X b tb) : PE X (.BinOp a op b pos) (tOp r ta tb) := by
 intro pins s σ H Q I h;exact wpAny_BinOp (Zpc ha hb I h fun v u s2 x y H2 I2 rx ry q => ho pins s2 σ H2 x y v u Q I2 rx ry q)
theorem Zjo {op : UnaryOp} {r : V -> Hp -> VK -> Prop} (ho : UnR X (unaryOp op) r) (ha : PE X a ta) : PE X (.UnaryOp op a pos) (tUn r ta) := by
 intro pins s σ H Q I h;exact UnaryOp_ (thn (ha pins s σ H _ I h) fun v s1 ⟨x, H1, I1, r1, q1⟩ => ho pins s1 σ H1 x v Q I1 r1 q1)
theorem opI {f : Value -> Value -> Sem Value} {C : Int -> Int -> Prop} {g : Int -> Int -> Int}
  (rule : ∀ (i j : Int) (t u : Tok) (s : Shared) (Q : Value -> Shared -> Prop) (E : Value -> Shared -> Prop), C i j -> Q (.int (g i j) s.toks) { s with toks := s.toks + 1 } -> wpAny (model X.prog X.w) X.A (f (.int i t) (.int j u)) Q E s) :
  OpR X f (rI C fun i j => .int (g i j)) := by
 intro pins s σ H x y v u Q I rx ry h;obtain ⟨i, j, rfl, rfl, hc, q⟩ := h;obtain ⟨t, rfl⟩ := rx;obtain ⟨t', rfl⟩ := ry;exact rule i j t t' s _ _ hc ⟨.int (g i j), H, I.tok _, ⟨_, rfl⟩, q⟩
theorem Zpr {f : Value -> Value -> Sem Value} {g : Int -> Int -> Int}
  (rule : ∀ (i j : Int) (t u : Tok) (s : Shared) (Q : Value -> Shared -> Prop) (E : Value -> Shared -> Prop), Q (.int (g i j) s.toks) { s with toks := s.toks + 1 } -> wpAny (model X.prog X.w) X.A (f (.int i t) (.int j u)) Q E s) :
  OpR X f (rI0 fun i j => .int (g i j)) := by
 intro pins s σ H x y v u Q I rx ry h;obtain ⟨i, j, rfl, rfl, q⟩ := h;obtain ⟨t, rfl⟩ := rx;obtain ⟨t', rfl⟩ := ry;exact rule i j t t' s _ _ ⟨.int (g i j), H, I.tok _, ⟨_, rfl⟩, q⟩
theorem Znz {f : Value -> Value -> Sem Value} {g : Int -> Int -> Bool}
  (rule : ∀ (i j : Int) (t u : Tok) (s : Shared) (Q : Value -> Shared -> Prop) (E : Value -> Shared -> Prop), Q (.bool (g i j)) s -> wpAny (model X.prog X.w) X.A (f (.int i t) (.int j u)) Q E s) :
  OpR X f (rI0 fun i j => .bl (g i j)) := by
 intro pins s σ H x y v u Q I rx ry h;obtain ⟨i, j, rfl, rfl, q⟩ := h;obtain ⟨t, rfl⟩ := rx;obtain ⟨t', rfl⟩ := ry;exact rule i j t t' s _ _ ⟨.bl (g i j), H, I, rfl, q⟩
def Zqi (i j : Int) : Prop := 0 < j /\ j < 1073741824
def Zqh (i j : Int) : Prop := 0 <= j /\ j <= 1000000 /\ i.natAbs < 2 ^ 64
def CMul (i j : Int) : Prop := (-(2 ^ 64) < i /\ i < 2 ^ 64) \/ (-(2 ^ 64) < j /\ j < 2 ^ 64)
theorem CMul.ok {i j : Int} (h : CMul i j) : IntMulOk i j := by
 rcases h with ⟨h1, h2⟩ | ⟨h1, h2⟩
 ·exact .of_left (intBits_le_64 h1 h2)
 ·exact .of_right (intBits_le_64 h1 h2)
theorem Zbh : OpR X (binaryOp .Add) (rI0 fun i j => .int (i + j)) := Zpr fun _ _ _ _ _ _ _ q => add_int q
theorem Zeb : OpR X (binaryOp .Sub) (rI0 fun i j => .int (i - j)) := Zpr fun _ _ _ _ _ _ _ q => sub_int q
theorem Zde : OpR X (binaryOp .Mult) (rI CMul fun i j => .int (i * j)) := opI fun _ _ _ _ _ _ _ hc q => mul_int q hc.ok
theorem Zex : OpR X (binaryOp .FloorDiv) (rI Zqi fun i j => .int (i / j)) := opI fun i j _ _ _ _ _ hc q => by
 have h1 : (0 : Int) < j := hc.1;have h2 : j < 1073741824 := hc.2;exact floordiv_int (by omega) (by rw [Int.fdiv_eq_ediv_of_nonneg i (by omega)]; exact q) (.inl (PyProof.noPylong_small (by omega)))
theorem Zdf : OpR X (binaryOp .Mod) (rI (fun _ j => 0 < j) fun i j => .int (i % j)) := opI fun i j _ _ _ _ _ hc q => by
 have h1 : (0 : Int) < j := hc;exact mod_int' (by omega) (by rw [Int.fmod_eq_emod_of_nonneg i (by omega)]; exact q)
theorem Zkk : OpR X (binaryOp .Pow) (rI Zqh fun i j => .int (i ^ j.toNat)) := opI fun _ _ _ _ _ _ _ hc q => pow_int_small hc.1 hc.2.1 hc.2.2 q
theorem unI {f : Value -> Sem Value} {g : Int -> Int}
  (rule : ∀ (i : Int) (t : Tok) (s : Shared) (Q : Value -> Shared -> Prop) (E : Value -> Shared -> Prop), Q (.int (g i) s.toks) { s with toks := s.toks + 1 } -> wpAny (model X.prog X.w) X.A (f (.int i t)) Q E s) :
  UnR X f (rU fun i => .int (g i)) := by
 intro pins s σ H x v Q I rx h;obtain ⟨i, rfl, q⟩ := h;obtain ⟨t, rfl⟩ := rx;exact rule i t s _ _ ⟨.int (g i), H, I.tok _, ⟨_, rfl⟩, q⟩
theorem Zgn : UnR X (unaryOp .USub) (rU fun i => .int (-i)) := unI fun _ _ _ _ _ q => neg_int q
end
def Zpm : V -> V -> Bool
 | .non, .non => true | .non, .int _ => true | .int _, .non => true | .non, .bl _ => true | .bl _, .non => true | .non, .str _ => true | .str _, .non => true
 | .int _, .int _ => true | .bl _, .bl _ => true | .str _, .str _ => true | .byt _, .byt _ => true
 | .int _, .str _ => true | .str _, .int _ => true | .bl _, .str _ => true | .str _, .bl _ => true
 | _, _ => false
def rEq : R2 := fun x y H Q => Zpm x y = true /\ Q (.bl (decide (x = y))) H
def rNe : R2 := fun x y H Q => Zpm x y = true /\ Q (.bl (!decide (x = y))) H
theorem Zi1 {i j : Int} : decide (V.int i = V.int j) = (i == j) := by
 rw [Bool.eq_iff_iff];simp
theorem Zkp {i j : Bool} : decide (V.bl i = V.bl j) = (i == j) := by
 rw [Bool.eq_iff_iff];simp
theorem Zi0 {i j : Str} : decide (V.str i = V.str j) = (i == j) := by
 rw [Bool.eq_iff_iff];simp
theorem Zi2 {i j : Array UInt8} : decide (V.byt i = V.byt j) = (i.toList == j.toList) := by
 rw [Bool.eq_iff_iff];cases i;cases j;simp
section
variable {X : Cx} {a b c : Expr} {ta tb tc : TE} {pos : Pos}
theorem Zav {pins : List (Addr × Obj)} {σ : St} {H : Hp} {s : Shared} {Q : VK} {k k' : Bool} (I : Inv X pins σ H s) (q : Q (.bl k) H) (e : k = k') : EP X pins σ Q (.bool k') s := by
 subst e;exact ⟨.bl k, H, I, rfl, q⟩
theorem Zij : OpR X (compareOp .Eq) rEq := by
 intro pins s σ H x y v u Q I rx ry h;obtain ⟨hs, q⟩ := h;cases x with
 | non =>
  cases rx;cases y with
  | non => cases ry; exact PySem.EqNone.eq_none_none (Zav I q (by simp))
  | bl j => cases ry; exact PySem.EqNone.eq_none_bool (Zav I q (by simp))
  | int j => obtain ⟨t', rfl⟩ := ry; exact PySem.EqNone.eq_none_int (Zav I q (by simp))
  | str j => obtain ⟨t', rfl⟩ := ry; exact PySem.EqNone.eq_none_str (Zav I q (by simp))
  | _ => exact absurd (show false = true from hs) Bool.false_ne_true
 | bl i =>
  cases rx;cases y with
  | non => cases ry; exact PySem.EqNone.eq_bool_none (Zav I q (by simp))
  | bl j => cases ry; exact eq_bool (Zav I q Zkp)
  | str j => obtain ⟨t', rfl⟩ := ry; exact PySem.EqMixed.eq_bool_str (Zav I q (by simp))
  | _ => exact absurd (show false = true from hs) Bool.false_ne_true
 | int i =>
  obtain ⟨t, rfl⟩ := rx;cases y with
  | non => cases ry; exact PySem.EqNone.eq_int_none (Zav I q (by simp))
  | int j => obtain ⟨t', rfl⟩ := ry; exact eq_int (Zav I q Zi1)
  | str j => obtain ⟨t', rfl⟩ := ry; exact PySem.EqMixed.eq_int_str (Zav I q (by simp))
  | _ => exact absurd (show false = true from hs) Bool.false_ne_true
 | str i =>
  obtain ⟨t, rfl⟩ := rx;cases y with
  | non => cases ry; exact PySem.EqNone.eq_str_none (Zav I q (by simp))
  | bl j => cases ry; exact PySem.EqMixed.eq_str_bool (Zav I q (by simp))
  | int j => obtain ⟨t', rfl⟩ := ry; exact PySem.EqMixed.eq_str_int (Zav I q (by simp))
  | str j => obtain ⟨t', rfl⟩ := ry; exact eq_str (Zav I q Zi0)
  | _ => exact absurd (show false = true from hs) Bool.false_ne_true
 | byt i =>
  obtain ⟨t, rfl⟩ := rx;cases y with
  | byt j => obtain ⟨t', rfl⟩ := ry; exact PySem.W.eq_bytes (Zav I q Zi2)
  | _ => exact absurd (show false = true from hs) Bool.false_ne_true
 | _ => cases y <;> exact absurd (show false = true from hs) Bool.false_ne_true
theorem Zhc : OpR X (compareOp .NotEq) rNe := by
 intro pins s σ H x y v u Q I rx ry h;obtain ⟨hs, q⟩ := h;cases x with
 | non =>
  cases rx;cases y with
  | non => cases ry; exact PySem.EqNone.ne_none_none (Zav I q (by simp))
  | bl j => cases ry; exact PySem.EqNone.ne_none_bool (Zav I q (by simp))
  | int j => obtain ⟨t', rfl⟩ := ry; exact PySem.EqNone.ne_none_int (Zav I q (by simp))
  | str j => obtain ⟨t', rfl⟩ := ry; exact PySem.EqNone.ne_none_str (Zav I q (by simp))
  | _ => exact absurd (show false = true from hs) Bool.false_ne_true
 | bl i =>
  cases rx;cases y with
  | non => cases ry; exact PySem.EqNone.ne_bool_none (Zav I q (by simp))
  | bl j => cases ry; exact ne_bool (Zav I q (congrArg not Zkp))
  | str j => obtain ⟨t', rfl⟩ := ry; exact PySem.EqMixed.ne_bool_str (Zav I q (by simp))
  | _ => exact absurd (show false = true from hs) Bool.false_ne_true
 | int i =>
  obtain ⟨t, rfl⟩ := rx;cases y with
  | non => cases ry; exact PySem.EqNone.ne_int_none (Zav I q (by simp))
  | int j => obtain ⟨t', rfl⟩ := ry; exact ne_int (Zav I q (congrArg not Zi1))
  | str j => obtain ⟨t', rfl⟩ := ry; exact PySem.EqMixed.ne_int_str (Zav I q (by simp))
  | _ => exact absurd (show false = true from hs) Bool.false_ne_true
 | str i =>
  obtain ⟨t, rfl⟩ := rx;cases y with
  | non => cases ry; exact PySem.EqNone.ne_str_none (Zav I q (by simp))
  | bl j => cases ry; exact PySem.EqMixed.ne_str_bool (Zav I q (by simp))
  | int j => obtain ⟨t', rfl⟩ := ry; exact PySem.EqMixed.ne_str_int (Zav I q (by simp))
  | str j => obtain ⟨t', rfl⟩ := ry; exact ne_str (Zav I q (congrArg not Zi0))
  | _ => exact absurd (show false = true from hs) Bool.false_ne_true
 | byt i =>
  obtain ⟨t, rfl⟩ := rx;cases y with
  | byt j => obtain ⟨t', rfl⟩ := ry; exact PySem.W.ne_bytes (Zav I q (congrArg not Zi2))
  | _ => exact absurd (show false = true from hs) Bool.false_ne_true
 | _ => cases y <;> exact absurd (show false = true from hs) Bool.false_ne_true
theorem Znd : OpR X (compareOp .Lt) (rI0 fun i j => .bl (decide (i < j))) := Znz fun _ _ _ _ _ _ _ q => lt_int q
theorem Zf7 : OpR X (compareOp .LtE) (rI0 fun i j => .bl (decide (i <= j))) := Znz fun _ _ _ _ _ _ _ q => le_int q
theorem Zo1 : OpR X (compareOp .Gt) (rI0 fun i j => .bl (decide (j < i))) := Znz fun _ _ _ _ _ _ _ q => gt_int q
theorem Zo2 : OpR X (compareOp .GtE) (rI0 fun i j => .bl (decide (j <= i))) := Znz fun _ _ _ _ _ _ _ q => ge_int q
theorem Zbm (b : Expr) {op : CmpOp} (h : op ≠ .In := by decide) (h2 : op ≠ .NotIn := by decide) : behindInMarks op b = false := by
 have e1 : (op == CmpOp.In) = false := by cases op <;> first | rfl | exact absurd rfl h
 have e2 : (op == CmpOp.NotIn) = false := by cases op <;> first | rfl | exact absurd rfl h2
 cases b <;> simp [behindInMarks, e1, e2]
theorem Zc2 {op : CmpOp} {r : R2} (ho : OpR X (compareOp op) r) (ha : PE X a ta) (hb : PE X b tb) (hm : behindInMarks op b = false) : PE X (.Compare a [op] [b] pos) (tOp r ta tb) := by
 intro pins s σ H Q I h;exact wpAny_Compare1 (Zpc ha hb I h fun v u s2 x y H2 I2 rx ry q => ho pins s2 σ H2 x y v u Q I2 rx ry q) hm
def Zkz (t : TE) : TT := fun σ H Q => t σ H fun x H' => ∃ k, x = .bl k /\ Q k H'
theorem Zb8 {op : CmpOp} {r : R2} (ho : OpR X (compareOp op) r) (ha : PE X a ta) (hb : PE X b tb) (hm : behindInMarks op b = false) : PT X (.Compare a [op] [b] pos) (Zkz (tOp r ta tb)) := by
 intro pins s σ H Q I h;refine wpAny_isTrue_Compare1 (thn (ha pins s σ H _ I h) fun v s1 ⟨x, H1, I1, r1, q1⟩ => thn (hb pins s1 σ H1 _ I1 q1) fun u s2 ⟨y, H2, I2, r2, q2⟩ =>
  thn (ho pins s2 σ H2 x y v u _ I2 r1 r2 q2) fun c s3 ⟨z, H3, I3, r3, k, e, q3⟩ => ?_) hm
 subst e;cases r3;exact wpAny_truthy_bool ⟨H3, I3, q3⟩
def Zh2 (r r' : R2) (ta tb tc : TE) : TE := fun σ H Q => ta σ H fun x H1 => tb σ H1 fun y H2 => r x y H2 fun z H3 => ∃ k, z = .bl k /\
 (if k = true then tc σ H3 fun w' H4 => r' y w' H4 Q else Q (.bl false) H3)
theorem Zgw {op op' : CmpOp} {r r' : R2} (ho : OpR X (compareOp op) r) (ho' : OpR X (compareOp op') r') (ha : PE X a ta) (hb : PE X b tb) (hc : PE X c tc)
  (hm : lastMarks [op, op'] [b, c] = false := by with_unfolding_all rfl) : PE X (.Compare a [op, op'] [b, c] pos) (Zh2 r r' ta tb tc) := by
 intro pins s σ H Q I h;refine Compare_chain (thn (ha pins s σ H _ I h) fun v s1 ⟨x, H1, I1, r1, q1⟩ => chain_link (thn (hb pins s1 σ H1 _ I1 q1) fun u s2 ⟨y, H2, I2, r2, q2⟩ =>
  thn (ho pins s2 σ H2 x y v u _ I2 r1 r2 q2) fun d s3 ⟨z, H3, I3, r3, k, e, q3⟩ => ?_)) hm
 subst e;cases r3;refine wpAny_truthy_bool ?_;cases k with
 | false => exact ite_ff ⟨.bl false, H3, I3, rfl, q3⟩
 | true => exact ite_tt (chain_last (thn (hc pins s3 σ H3 _ I3 q3) fun w' s4 ⟨z', H4, I4, r4, q4⟩ => ho' pins s4 σ H4 y z' u w' Q I4 r2 r4 q4))
theorem Zgu {op op' : CmpOp} {r r' : R2} (ho : OpR X (compareOp op) r) (ho' : OpR X (compareOp op') r') (ha : PE X a ta) (hb : PE X b tb) (hc : PE X c tc)
  (hm : lastMarks [op, op'] [b, c] = false := by with_unfolding_all rfl) : PT X (.Compare a [op, op'] [b, c] pos) (Zkz (Zh2 r r' ta tb tc)) := by
 intro pins s σ H Q I h;refine isTrue_chain (thn (ha pins s σ H _ I h) fun v s1 ⟨x, H1, I1, r1, q1⟩ => test_link (thn (hb pins s1 σ H1 _ I1 q1) fun u s2 ⟨y, H2, I2, r2, q2⟩ =>
  thn (ho pins s2 σ H2 x y v u _ I2 r1 r2 q2) fun d s3 ⟨z, H3, I3, r3, k, e, q3⟩ => ?_)) hm
 subst e;cases r3;refine wpAny_truthy_bool ?_;cases k with
 | false =>
  obtain ⟨k', e', q'⟩ := q3;cases e';exact ite_ff ⟨H3, I3, q'⟩
 | true =>
  refine ite_tt (test_last (thn (hc pins s3 σ H3 _ I3 q3) fun w' s4 ⟨z', H4, I4, r4, q4⟩ => thn (ho' pins s4 σ H4 y z' u w' _ I4 r2 r4 q4) fun d' s5 ⟨z2, H5, I5, r5, k2, e2, q5⟩ => ?_));subst e2;cases r5;exact wpAny_truthy_bool ⟨H5, I5, q5⟩
def TruV (K : PySem.W.Frag) (x : V) (H : Hp) (k : Bool) : Prop :=
 match x with
 | .non => k = false
 | .bl b => k = b
 | .int i => k = (i != 0)
 | .str y => y.length <= sizeLine /\ k = ((y.length : Int) != 0)
 | .byt y => y.size <= sizeLine /\ k = ((y.size : Int) != 0)
 | .ref p => (∃ xs, SqL K H p xs /\ k = !xs.isEmpty) \/ (∃ xs, SqT K H p xs /\ k = !xs.isEmpty) \/ ∃ kvs, H p = some (.dK kvs) /\ k = !kvs.isEmpty
 | _ => False
theorem Zek : (sizeLine : Nat) < 2 ^ 63 := by rw [sizeLine_eq]; decide
theorem Zhd : OpR X (binaryOp .Add) (fun x y H Q => ∃ i j, x = .str i /\ y = .str j /\ i.length + j.length <= sizeLine /\ Q (.str (i ++ j)) H) := by
 intro pins s σ H x y v u Q I rx ry h;obtain ⟨i, j, rfl, rfl, hz, q⟩ := h;obtain ⟨t, rfl⟩ := rx;obtain ⟨t', rfl⟩ := ry;exact add_str (fun t' tk => ⟨.str (i ++ j), H, I.tok _, ⟨_, rfl⟩, q⟩) hz
theorem Zhv {x : V} {us : List Value} (r : Vals [x] us) : ∃ u, us = [u] /\ RelV x u := by
 cases r with
 | cons r1 r2 => cases r2; exact ⟨_, rfl, r1⟩
theorem Zkt {x y : V} {us : List Value} (r : Vals [x, y] us) : ∃ u w', us = [u, w'] /\ RelV x u /\ RelV y w' := by
 cases r with
 | cons r1 r2 =>
  cases r2 with
  | cons r3 r4 => cases r4; exact ⟨_, _, rfl, r1, r3⟩
theorem Zi8 (hc : X.calm = true) : CallR X (.builtin "min") (fun xs H Q => ∃ i j, xs = [.int i, .int j] /\ Q (.int (if j < i then j else i)) H) := by
 intro pins s σ H xs us Q I r h;obtain ⟨i, j, rfl, q⟩ := h;obtain ⟨u, w', rfl, ⟨t, rfl⟩, ⟨t', rfl⟩⟩ := Zkt r;refine min_two_ints (I.ok.hd hc) fun h' tk k => ⟨_, H, I.kept k, ?_, q⟩
 by_cases hj : j < i
 ·rw [if_pos hj, if_pos hj]; exact ⟨_, rfl⟩
 ·rw [if_neg hj, if_neg hj]; exact ⟨_, rfl⟩
end
end L2
namespace L2
open PySem PySem.Spec PyProof.Rows
structure ObjM (h : Heap) (x dx C : Addr) (mA : Str -> Option Value) : Prop where
 obj : h.get? x = some (PySem.W.instObj C dx)
 ns : h.Ns1 dx mA
 ne : dx ≠ x
theorem Zio {h : Heap} {dx : Addr} {mA : Str -> Option Value} (n : h.Ns1 dx mA) : ∃ od, h.get? dx = some od /\ ∀ name, PySem.W.lookIn name od = some (mA name) := by
 obtain ⟨o, es, ep, ho, hd, hk, _, hm⟩ := n;refine ⟨o, ho, fun name => ?_⟩;have e := hm name;unfold nsFind findBy at e;rw [<- Array.find?_toList] at e;unfold PySem.W.lookIn;rw [hd];dsimp only
 split
 ·rename_i y q
  rw [q] at e;exact congrArg some e
 ·rename_i q
  rw [q] at e;have a : es.toList.any (·.refKey) = false := by
   rw [List.any_eq_false];intro y hy;obtain ⟨z, t, hkey⟩ := hk y (Array.mem_toList_iff.mp hy);simp [DictEntry.refKey, hkey]
  have a' : ¬ es.toList.any (·.refKey) = true := by rw [a]; exact Bool.false_ne_true
  rw [if_neg a'];exact congrArg some e
theorem ObjM.look {h : Heap} {x dx C : Addr} {mA : Str -> Option Value} (I : ObjM h x dx C mA) : ∃ od, PySem.W.InstAt h x (PySem.W.instObj C dx) C (some od) /\ ∀ name, PySem.W.lookIn name od = some (mA name) :=
 let ⟨od, ho, hl⟩ := Zio I.ns
 ⟨od, ⟨I.obj, rfl, rfl, ho⟩, hl⟩
section
variable {prog : Program} {w : World} {A : Around} {E : Value -> Shared -> Prop} {s : Shared} {K : PySem.W.Frag} {x dx C f : Addr} {mA : Str -> Option Value} {name : Str} {v : Value}
theorem Zlq {expr : Bool} {Q : Value -> Shared -> Prop} (X : K.In s.heap) (I : ObjM s.heap x dx C mA) (hg : PySem.W.plainGet K C name = true) (hh : PySem.W.hasDictIn K C = true)
  (ha : PySem.W.findIn K (.ref C) name = some none) (hv : mA name = some v) (hv' : PySem.W.handedIn v = true) (h : Q v { s with toks := s.toks + 1 }) :
  wpAny (model prog w) A (getAttr (.ref x) name expr) Q E s := by
 obtain ⟨od, J, hl⟩ := I.look;exact PySem.W.get_value X J (PySem.W.plainGet_of hg).1 (PySem.W.findObj_own hh ha rfl (by rw [hl, hv])) hv' h
theorem Zjy {pl : Sem Bool} {Q : Value × List Value -> Shared -> Prop} (X : K.In s.heap) (I : ObjM s.heap x dx C mA) (hg : PySem.W.plainGet K C name = true)
  (hf : PySem.W.findIn K (.ref C) name = some (some (.ref f))) (ht : PySem.W.isFn K (.ref f) = true) (hv : mA name = none) (h : Q (.ref f, [.ref x]) s) :
  wpAny (model prog w) A (getMethod (.ref x) name pl) Q E s := by
 obtain ⟨od, J, hl⟩ := I.look;exact PySem.W.method_fn X J (PySem.W.plainGet_of hg).1 (PySem.W.plainGet_of hg).2 hf (beq_iff_eq.mp ht) (by show (PySem.W.lookIn name od).map (·.isSome) = some false; rw [hl, hv]; rfl) h
theorem Zk6 {ns : List Str} {Q : Unit -> Shared -> Prop} (X : K.In s.heap) (I : ObjM s.heap x dx C mA)
  (hs : PySem.W.findIn K (.ref C) "__setattr__" = some (some (.builtin "object.__setattr__"))) (hp : PySem.W.plainOver K C = true) (ht : PySem.W.takerIn K C name = some none) (hh : PySem.W.hasDictIn K C = true)
  (hw : PySem.Within mA ns) (hsz : ns.length <= sizeLine)
  (h : ∀ h', ObjM h' x dx C (fun y => if y = name then some v else mA y) -> Heap.SameBut dx s.heap h' -> Q () { s with heap := h', toks := s.toks + 2 }) :
  wpAny (model prog w) A (setAttr (.ref x) name v) Q E s := by
 obtain ⟨od, J, hl⟩ := I.look;refine PySem.W.set_plain X J hs (PySem.W.osa_open (s := { s with toks := s.toks + 1 }) (r := none) X J hp ht fun b => ?_);obtain ⟨cd, hc, hd'⟩ := PySem.W.any_some hh;have hx : s.heap.get? x = some ⟨.ref C, some dx, .plain, #[]⟩ := I.obj;refine wpAny_bind (wpAny_pure (wpAny_bind (wpAny_bind (wpAny_loadPart hx (wpAny_bind (PySem.W.Looks.here (s := { s with toks := s.toks + 1 }) (PySem.W.looks_clsIn X hc) ?_))))));rw [hd'];refine wpAny_pure (a := some dx) (wpAny_bind (wpAny_pure (wpAny_bind ?_)));refine wpAny_nsSet1 (s := { s with toks := s.toks + 1 }) I.ns fun h' hn2 hs2 => ?_
 obtain ⟨oD, esD, epD, hoD, hdD, hcD⟩ := hn2.count (PySem.Within.cons name v hw);refine wpAny_bind (wpAny_lookBehind hoD (by rw [hdD]; exact pastItsLine_dict (Nat.le_trans hcD (by rw [List.length_cons]; omega))) ?_);exact wpAny_pure (h _ ⟨(hs2.2 _ (Ne.symm I.ne)).trans I.obj, hn2, I.ne⟩ hs2)
theorem Zjs {R : Result -> Shared -> Prop} {vs : List Value} {kw : List (Str × Value)} (X : K.In s.heap) (hm : PySem.W.makesIn K C = true)
  (hi : PySem.W.findIn K (.ref C) "__init__" = some (some (.ref f))) (hf : PySem.W.typeIn K (.ref f) = some (.type "function"))
  (h : codeAny (model prog w) (A.under (.builtin "type.__call__" ⟨.ref C :: vs, kw⟩)) (.call (.ref f) ⟨.ref (s.heap.objs.size + 1) :: vs, kw⟩) (PySem.W.InitBack (s.heap.objs.size + 1) R)
   { s with heap := (s.heap.push PySem.W.emptyDict).push (PySem.W.instObj C s.heap.objs.size) }) :
  codeAny (model prog w) A (.call (.ref C) ⟨vs, kw⟩) R s := by
 obtain ⟨hh, g, d, t, os⟩ := s;exact PySem.W.make_core (PySem.W.makes_of X hm) (PySem.W.looks_findIn X hi) (fun self => PySem.W.bind_fn X self hf) (.inl rfl) h
end
def putF (f : Str) (v : V) : List (Str × V) -> List (Str × V)
 | [] => [(f, v)]
 | (g, x) :: r => if g = f then (g, v) :: r else (g, x) :: putF f v r
theorem Zcg (f g : Str) (v : V) : ∀ fs : List (Str × V), (putF f v fs).lookup g = if g = f then some v else fs.lookup g
 | [] => by
  show List.lookup g [(f, v)] = _
  by_cases h : g = f
  ·have hb : (g == f) = true := beq_iff_eq.mpr h;simp only [List.lookup, hb, if_pos h]
  ·have hb : (g == f) = false := beq_eq_false_iff_ne.mpr h;simp only [List.lookup, hb, if_neg h]
 | (k, x) :: r => by
  have ih := Zcg f g v r;rw [show putF f v ((k, x) :: r) = (if k = f then (k, v) :: r else (k, x) :: putF f v r) from rfl]
  by_cases hk : k = f
  ·rw [if_pos hk]
   by_cases h : g = k
   ·have hb : (g == k) = true := beq_iff_eq.mpr h;simp only [List.lookup, hb, if_pos (h.trans hk)]
   ·have hb : (g == k) = false := beq_eq_false_iff_ne.mpr h;simp only [List.lookup, hb, if_neg (fun e : g = f => h (e.trans hk.symm))]
  ·rw [if_neg hk]
   by_cases h : g = k
   ·have hb : (g == k) = true := beq_iff_eq.mpr h;simp only [List.lookup, hb, if_neg (fun e : g = f => hk (h.symm.trans e))]
   ·have hb : (g == k) = false := beq_eq_false_iff_ne.mpr h;simp only [List.lookup, hb];exact ih
theorem Zed (f : Str) (v : V) : ∀ fs : List (Str × V), f ∈ (putF f v fs).map (·.1) /\ ∀ g, g ∈ fs.map (·.1) -> g ∈ (putF f v fs).map (·.1)
 | [] => ⟨by simp [putF], fun g h => by simp at h⟩
 | (k, x) :: r => by
  obtain ⟨i1, i2⟩ := Zed f v r;rw [show putF f v ((k, x) :: r) = (if k = f then (k, v) :: r else (k, x) :: putF f v r) from rfl]
  by_cases hk : k = f
  ·rw [if_pos hk];subst hk;exact ⟨by simp, fun g h => by simpa using h⟩
  ·rw [if_neg hk];refine ⟨?_, fun g h => ?_⟩
   ·rw [List.map_cons];exact List.mem_cons_of_mem _ i1
   ·rw [List.map_cons] at h ⊢;rcases List.mem_cons.mp h with e | e
    ·exact List.mem_cons.mpr (.inl e)
    ·exact List.mem_cons_of_mem _ (i2 g e)
theorem Zc6 (f : Str) (v : V) : ∀ fs : List (Str × V), (putF f v fs).length <= fs.length + 1
 | [] => by simp [putF]
 | (k, x) :: r => by
  have ih := Zc6 f v r;rw [show putF f v ((k, x) :: r) = (if k = f then (k, v) :: r else (k, x) :: putF f v r) from rfl]
  by_cases hk : k = f
  ·rw [if_pos hk, List.length_cons, List.length_cons]; omega
  ·rw [if_neg hk, List.length_cons, List.length_cons]; omega
theorem RelO.some_of {v : V} {o : Option Value} (r : RelO (some v) o) : ∃ u, o = some u /\ RelV v u := by
 cases o with
 | none => exact (show False from r).elim
 | some u => exact ⟨u, rfl, r⟩
theorem RelO.none_of {o : Option Value} (r : RelO none o) : o = none := by
 cases o with
 | none => rfl
 | some u => exact (show False from r).elim
theorem Zix {v : V} {u : Value} (r : RelV v u) : PySem.W.handedIn u = true := by
 cases v with
 | non => cases (show u = Value.none from r); rfl
 | bl b => cases (show u = Value.bool b from r); rfl
 | int i => obtain ⟨t, e⟩ := (show ∃ t, u = Value.int i t from r); cases e; rfl
 | str x => obtain ⟨t, e⟩ := (show ∃ t, u = Value.str x t from r); cases e; rfl
 | byt b => obtain ⟨t, e⟩ := (show ∃ t, u = Value.bytes b t from r); cases e; rfl
 | flt b => obtain ⟨t, e⟩ := (show ∃ t, u = Value.float b t from r); cases e; rfl
 | ref a => cases (show u = Value.ref a from r); rfl
 | ty n => cases (show u = Value.type n from r); rfl
section
variable {P : Program} {w : World} {H H' : Hp} {h h' : Heap} {a C dx : Addr} {fs fs' : List (Str × V)}
theorem Zez (hok : HOk P w H h) (e : H a = some (.ins C dx fs)) : ∃ mA, ObjM h a dx C mA /\ (∀ f, RelO (fs.lookup f) (mA f)) /\ PySem.Within mA (fs.map (·.1)) /\ fs.length <= 1000 /\ H dx = some (.own a) := by
 obtain ⟨d, z, ne, ob, mA, n, r, q⟩ := (show ObjOk P w H h a (.ins C dx fs) from hok a _ e);exact ⟨mA, ⟨ob, n, ne⟩, r, q, z, d⟩
end
structure Cls (K : PySem.W.Frag) (C : Addr) : Prop where
 pg : PySem.W.plainGet K C Str.empty = true
 hd : PySem.W.hasDictIn K C = true
 po : PySem.W.plainOver K C = true
 sa : PySem.W.findIn K (.ref C) "__setattr__" = some (some (.builtin "object.__setattr__"))
theorem Cls.get {K : PySem.W.Frag} {C : Addr} (c : Cls K C) (f : Str) : PySem.W.plainGet K C f = true := c.pg
def NoAttr (K : PySem.W.Frag) (C : Addr) (f : Str) : Prop := PySem.W.findIn K (.ref C) f = some none
theorem NoAttr.taker {K : PySem.W.Frag} {C : Addr} {f : Str} (n : NoAttr K C f) : PySem.W.takerIn K C f = some none := by
 unfold PySem.W.takerIn;rw [show PySem.W.findIn K (.ref C) f = some none from n];rfl
structure Con (K : PySem.W.Frag) (C : Addr) (f : Str) (v : V) (u : Value) : Prop where
 at_ : PySem.W.findIn K (.ref C) f = some (some u)
 rel : RelV v u
 get : PySem.W.specialIn K u "__get__" = some none
 cp : PySem.W.copiedNames.contains f = false
structure Zpw (K : PySem.W.Frag) (C : Addr) (m : Str) (f : Addr) : Prop where
 at_ : PySem.W.findIn K (.ref C) m = some (some (.ref f))
 fn : PySem.W.isFn K (.ref f) = true
 kp : PySem.W.keepIn K (.ref f) = true
section
variable {X : Cx} {pins : List (Addr × Obj)} {σ : St} {H : Hp} {s : Shared} {a C dx : Addr} {fs : List (Str × V)} {f : Str} {v : V} {A : Around} {E : Value -> Shared -> Prop}
theorem Zho {b : Bool} {Q : Value -> Shared -> Prop} (I : Inv X pins σ H s) (e : H a = some (.ins C dx fs)) (c : Cls X.K C) (n : NoAttr X.K C f) (l : fs.lookup f = some v)
  (h : ∀ u s', Inv X pins σ H s' -> RelV v u -> Q u s') : wpAny (model X.prog X.w) A (getAttr (.ref a) f b) Q E s := by
 obtain ⟨mA, O, r, _, _, _⟩ := Zez I.hok e;obtain ⟨u, hu, ru⟩ := RelO.some_of (v := v) (o := mA f) (by rw [<- l]; exact r f);exact Zlq I.kIn O (c.get f) c.hd n hu (Zix ru) (h u _ (I.tok _) ru)
theorem Zhn {m : Str} {g : Addr} {pl : Sem Bool} {Q : Value × List Value -> Shared -> Prop} (I : Inv X pins σ H s) (e : H a = some (.ins C dx fs)) (c : Cls X.K C) (k : Zpw X.K C m g) (l : fs.lookup m = none)
  (h : Q (.ref g, [.ref a]) s) : wpAny (model X.prog X.w) A (getMethod (.ref a) m pl) Q E s := by
 obtain ⟨mA, O, r, _, _, _⟩ := Zez I.hok e;have hn : mA m = none := RelO.none_of (by rw [<- l]; exact r m);exact Zjy I.kIn O (c.get m) k.at_ k.fn hn h
theorem Zg7 {y : V} {u : Value} {Q : Unit -> Shared -> Prop} (I : Inv X pins σ H s) (e : H a = some (.ins C dx fs)) (c : Cls X.K C) (n : NoAttr X.K C f) (hl : fs.length < 1000) (ry : RelV y u)
  (h : ∀ s', Inv X pins σ (upd H a (.ins C dx (putF f y fs))) s' -> Q () s') : wpAny (model X.prog X.w) A (setAttr (.ref a) f u) Q E s := by
 obtain ⟨mA, O, r, wi, _, ho⟩ := Zez I.hok e;have hz : (fs.map (·.1)).length <= sizeLine := by rw [List.length_map, sizeLine_eq]; omega
 refine Zk6 I.kIn O c.sa c.po n.taker c.hd wi hz fun h' O' sb => h _ ?_
 have hd : ∃ o, h'.get? dx = some o := let ⟨o, _, _, e', _⟩ := O'.ns; ⟨o, e'⟩;refine I.write (x := a) (e := dx) (by rw [e]; exact True.intro) (.inr ho) (fun b q hb z => (sb.2 b hb).trans z) hd ?_;refine ⟨by rw [Zaj O.ne]; exact ho, ?_, O.ne, O'.obj, _, O'.ns, fun g => ?_, fun g hg => ?_⟩
 ·have := Zc6 f y fs; omega
 ·show RelO ((putF f y fs).lookup g) (if g = f then some u else mA g);rw [Zcg]
  by_cases q : g = f
  ·rw [if_pos q, if_pos q]; exact ry
  ·rw [if_neg q, if_neg q]; exact r g
 ·by_cases q : g = f
  ·rw [q]; exact (Zed f y fs).1
  ·refine (Zed f y fs).2 g (wi g fun z => hg ?_);show (if g = f then some u else mA g) = none;rw [if_neg q]; exact z
theorem Inv.made (I : Inv X pins σ H s) : Inv X pins σ (upd (upd H s.heap.objs.size (.own (s.heap.objs.size + 1))) (s.heap.objs.size + 1) (.ins C s.heap.objs.size []))
  { s with heap := (s.heap.push PySem.W.emptyDict).push (PySem.W.instObj C s.heap.objs.size) } := by
 have e1 : (s.heap.push PySem.W.emptyDict).get? s.heap.objs.size = some PySem.W.emptyDict := Heap.get?_push_size s.heap rfl;have e2 : ((s.heap.push PySem.W.emptyDict).push (PySem.W.instObj C s.heap.objs.size)).get? (s.heap.objs.size + 1) = some (PySem.W.instObj C s.heap.objs.size) := by
  have := Heap.get?_push_size (s.heap.push PySem.W.emptyDict) (o := PySem.W.instObj C s.heap.objs.size) rfl;rwa [Heap.size_push] at this
 have e3 : (s.heap.push PySem.W.emptyDict).Ns s.heap.objs.size (fun _ => none) := ⟨PySem.W.emptyDict, #[], _, e1, rfl, (fun e he => absurd he (by simp)), fun _ => rfl⟩;have I1 := I.laid (a := s.heap.objs.size) (o := .own (s.heap.objs.size + 1)) (h' := s.heap.push PySem.W.emptyDict) (t' := s.toks) (fun b u q => Heap.get?_push_of_some _ q) (Nat.le_refl _) ⟨_, e1⟩;refine I1.laid (a := s.heap.objs.size + 1) (o := .ins C s.heap.objs.size []) (t' := s.toks) (fun b u q => Heap.get?_push_of_some _ q) (Nat.le_of_eq (Heap.size_push _ _)) ?_;have ne : s.heap.objs.size ≠ s.heap.objs.size + 1 := Nat.ne_of_lt (Nat.lt_succ_self _);refine ⟨by rw [Zaj ne, Zai], Nat.zero_le _, ne, e2, fun _ => none, (Heap.Ns1.of_empty e3).at fun o q => Heap.get?_push_of_some _ q, fun _ => True.intro, fun y hy => absurd rfl hy⟩
theorem Zlv {prog : Program} {w : World} {env : Env} {e : Expr} {f : Str} {pos : Pos} {s : Shared} {Q : Value -> Shared -> Prop} (hb : attributeBase e f env (eval e env) = eval e env)
  (h : wpAny (model prog w) A (eval e env) (fun o s₁ => wpAny (model prog w) A (getAttr o f true) Q E s₁) E s) : wpAny (model prog w) A (eval (.Attribute e f pos) env) Q E s :=
 Attribute_any_ h (by rw [arm_eval_Attribute, hb])
end
def Zoe (K : PySem.W.Frag) (ta : TE) (f : Str) : TE := fun σ H Q => ta σ H fun x H1 => ∃ a C dx fs v, x = .ref a /\ H1 a = some (.ins C dx fs) /\ Cls K C /\ NoAttr K C f /\ fs.lookup f = some v /\ Q v H1
def Zoj (K : PySem.W.Frag) (ta tv : TE) (f : Str) : TS := fun D σ H => tv σ H fun y H1 => ta σ H1 fun x H2 => ∃ a C dx fs, x = .ref a /\ H2 a = some (.ins C dx fs) /\ Cls K C /\ NoAttr K C f /\ fs.length < 1000 /\
 D.nx σ (upd H2 a (.ins C dx (putF f y fs)))
section
variable {X : Cx} {o e value : Expr} {f : Str} {pos pos' tpos : Pos} {ta tv : TE}
theorem Zm9 (he : PE X e ta) (hb : attributeBase e f X.env (eval e X.env) = eval e X.env) : PE X (.Attribute e f pos) (Zoe X.K ta f) := by
 intro pins s σ H Q I h;refine Zlv hb (thn (he pins s σ H _ I h) fun u s1 ⟨x, H1, I1, rx, a, C, dx, fs, v, ex, ea, c, n, l, q⟩ => ?_);subst ex;obtain rfl : u = Value.ref a := rx;exact Zho I1 ea c n l fun u' s2 I2 ru => ⟨v, H1, I2, ru, q⟩
theorem Zm4 (ha : PE X o ta) (hv : PE X value tv) (hs : swapsWith value (some (.Attribute o f pos')) pos.line X.env = pure false) : PS X (.Assign [.Attribute o f pos'] value pos) (Zoj X.K ta tv f) := by
 intro pins s σ H D I h;refine plainObj_wpAny_Assign_Attribute (thn (hv pins s σ H _ I h) fun u s1 ⟨y, H1, I1, ry, q⟩ => thn (ha pins s1 σ H1 _ I1 q) fun ov s2 ⟨x, H2, I2, rx, a, C, dx, fs, ex, ea, c, n, l, q2⟩ => ?_) hs;subst ex;obtain rfl : ov = Value.ref a := rx;exact Zg7 I2 ea c n l ry fun s3 I3 => ⟨σ, _, I3, q2⟩
end
section
variable {X : Cx} {pins : List (Addr × Obj)} {σ : St} {H : Hp} {s : Shared} {A : Around} {E : Value -> Shared -> Prop} {Q : Value -> Shared -> Prop} {c : Value} {b : Bool}
inductive Zg4 (K : PySem.W.Frag) (H : Hp) : V -> Value -> Prop where
 | non : Zg4 K H .non (.type "NoneType")
 | bl (x : Bool) : Zg4 K H (.bl x) (.type "bool")
 | int (i : Int) : Zg4 K H (.int i) (.type "int")
 | str (x : Str) : Zg4 K H (.str x) (.type "str")
 | flt (x : UInt64) : Zg4 K H (.flt x) (.type "float")
 | lst {a : Addr} {xs : List V} (e : H a = some (.lst xs)) : Zg4 K H (.ref a) (.type "list")
 | frz {a : Addr} {o : Obj} {xs : List V} (e : H a = some (.frz o (.lst xs))) : Zg4 K H (.ref a) (.type "list")
 | tup {a : Addr} {xs : List V} (e : H a = some (.tup xs)) : Zg4 K H (.ref a) (.type "tuple")
 | dK {a : Addr} {kvs : List (Key × V)} (e : H a = some (.dK kvs)) : Zg4 K H (.ref a) (.type "dict")
 | dT {a : Addr} {kvs : List (List Key × V)} (e : H a = some (.dT kvs)) : Zg4 K H (.ref a) (.type "dict")
 | ins {a C dx : Addr} {fs : List (Str × V)} (e : H a = some (.ins C dx fs)) (cl : Cls K C) (ha : PySem.W.findIn K (.ref C) "__class__" = some (some (.builtin "object.__class__")))
   (hn : PySem.W.specialIn K (.builtin "object.__class__") "__get__" = some (some (.builtin "getset_descriptor.__get__"))) (htk : PySem.W.takesIn K (.builtin "object.__class__") = some true)
   (hm : PySem.W.mroIn K C (.type "object") = some true) : Zg4 K H (.ref a) (.ref C)
theorem Zfh {x : V} {u t : Value} (I : Inv X pins σ H s) (rx : RelV x u) (ty : Zg4 X.K H x t) (e : PySem.W.kitOne X.K t c = some b) (h : ∀ tk, Q (.bool b) { s with toks := tk }) :
  wpAny (model X.prog X.w) A (call (.builtin "isinstance") [u, c]) Q E s := by
 cases ty with
 | non => cases (show u = Value.none from rx); exact PySem.W.kia_one PySem.W.kitx_none I.kIn True.intro e (fun z => nomatch z) h
 | bl y => cases (show u = Value.bool y from rx); exact PySem.W.kia_one PySem.W.kitx_bool I.kIn True.intro e (fun z => nomatch z) h
 | int i => obtain ⟨t, q⟩ := (show ∃ t, u = Value.int i t from rx); cases q; exact PySem.W.kia_one PySem.W.kitx_int I.kIn True.intro e (fun z => nomatch z) h
 | str y => obtain ⟨t, q⟩ := (show ∃ t, u = Value.str y t from rx); cases q; exact PySem.W.kia_one PySem.W.kitx_str I.kIn True.intro e (fun z => nomatch z) h
 | flt y => obtain ⟨t, q⟩ := (show ∃ t, u = Value.float y t from rx); cases q; exact PySem.W.kia_one PySem.W.kitx_float I.kIn True.intro e (fun z => nomatch z) h
 | @lst a xs ea =>
  cases (show u = Value.ref a from rx);obtain ⟨_, _, n, _, h1⟩ := (show ObjOk X.prog X.w H s.heap a (.lst xs) from I.hok a _ ea);exact PySem.W.kia_one PySem.W.kitx_list I.kIn ⟨_, h1, rfl⟩ e (fun z => nomatch z) h
 | @frz a ob xs ea =>
  cases (show u = Value.ref a from rx);obtain ⟨_, _, _, n, _, h1⟩ := (show ObjOk X.prog X.w H s.heap a (.frz ob (.lst xs)) from I.hok a _ ea);exact PySem.W.kia_one PySem.W.kitx_list I.kIn ⟨_, h1, rfl⟩ e (fun z => nomatch z) h
 | @tup a xs ea =>
  cases (show u = Value.ref a from rx);obtain ⟨_, _, _, p⟩ := (show ObjOk X.prog X.w H s.heap a (.tup xs) from I.hok a _ ea);obtain ⟨o, h1, h2, _⟩ := p;exact PySem.W.kia_one PySem.W.kitx_tuple I.kIn ⟨o, h1, h2⟩ e (fun z => nomatch z) h
 | @dK a kvs ea =>
  cases (show u = Value.ref a from rx);obtain ⟨_, _, vs, _, p⟩ := (show ObjOk X.prog X.w H s.heap a (.dK kvs) from I.hok a _ ea);obtain ⟨o, es, ep, h1, h2, _⟩ := p;exact PySem.W.kia_one PySem.W.kitx_dict I.kIn ⟨o, h1, h2.1⟩ e (fun z => nomatch z) h
 | @dT a kvs ea =>
  cases (show u = Value.ref a from rx);obtain ⟨_, _, xs, _, o, es, ep, h1, h2, _⟩ := (show ObjOk X.prog X.w H s.heap a (.dT kvs) from I.hok a _ ea);exact PySem.W.kia_one PySem.W.kitx_dict I.kIn ⟨o, h1, h2.1⟩ e (fun z => nomatch z) h
 | @ins a C dx fs ea cl ha hn htk hm =>
  cases (show u = Value.ref a from rx);obtain ⟨mA, O, _⟩ := Zez I.hok ea;obtain ⟨od, J, _⟩ := O.look;exact PySem.W.kia_one (PySem.W.kitx_own (cl.get _) cl.hd ha hn htk hm) I.kIn J e (fun z => nomatch z) h
end
end L2
namespace L2
open PySem PySem.Spec PyProof.Rows
structure Room (k : Nat) (A : Around) : Prop where
 hd : A.handled = none
 dp : A.depth + 3 * k + 5 < recursionLimit
 un : A.units + 16 * k + 200 < cLine
theorem Room.mono {j k : Nat} {A : Around} (r : Room k A) (h : j <= k) : Room j A := ⟨r.hd, by have := r.dp; omega, by have := r.un; omega⟩
theorem Room.deeper {k : Nat} {A : Around} (r : Room (k + 1) A) (env : Env) : Room k (A.deeper env) :=
 ⟨r.hd, by have := r.dp; show A.depth + 1 + 3 * k + 5 < _; omega, by have := r.un; show A.units + 3 + 16 * k + 200 < _; omega⟩
theorem Zhl {A : Around} {C : Addr} {us : List Value} {kw : List (Str × Value)} : (A.under (.builtin "type.__call__" ⟨.ref C :: us, kw⟩)).depth = A.depth + 1 := by
 first | rfl | simp [Around.under, Code.weight, Code.isCreation, Code.isGuard, Code.isCaller, Code.frames, Code.isFrame, guardIds]
theorem Zhk {A : Around} {C : Addr} {us : List Value} {kw : List (Str × Value)} : (A.under (.builtin "type.__call__" ⟨.ref C :: us, kw⟩)).units = A.units + 1 := by
 first | rfl | simp [Around.under, Code.cUnits, Code.frames, Code.isFrame]
theorem Room.make {k : Nat} {A : Around} (r : Room (k + 1) A) (C : Addr) (us : List Value) (kw : List (Str × Value)) : Room k (A.under (.builtin "type.__call__" ⟨.ref C :: us, kw⟩)) :=
 ⟨r.hd, by have := r.dp; rw [Zhl]; omega, by have := r.un; rw [Zhk]; omega⟩
theorem Room.depth {k : Nat} {A : Around} (r : Room k A) : A.depth < recursionLimit := by have := r.dp; omega
theorem Room.units {k : Nat} {A : Around} (r : Room k A) : A.units + 64 < cLine := by have := r.un; omega
def Zn8 : TA := fun _ H Q => Q [] H
def Zmj (ta : TE) (tr : TA) : TA := fun σ H Q => ta σ H fun x H1 => tr σ H1 fun xs H2 => Q (x :: xs) H2
section
variable {X : Cx} {e : Expr} {es : List Expr} {te : TE} {t : TA} {pos : Pos}
theorem Zad : PA X [] Zn8 := fun _ _ _ _ H Q I h => Calls.spliced_nil ⟨[], H, I, .nil, h⟩
theorem Zaa (ha : PE X e te) (hr : PA X es t) (hs : starEach (e :: es) X.env = (false, eval e X.env) :: starEach es X.env := by rfl) : PA X (e :: es) (Zmj te t) := by
 intro pos pins s σ H Q I h;rw [hs];show wpAny _ _ (spliced ((false, eval e X.env) :: backTo pos (starEach es X.env))) _ _ s;refine Calls.spliced_cons (thn (ha pins s σ H _ I h) fun u s1 ⟨x, H1, I1, r1, q1⟩ => ?_);exact thn (hr pos pins s1 σ H1 _ I1 q1) fun us s2 ⟨xs, H2, I2, r2, q2⟩ => ⟨x :: xs, H2, I2, .cons r1 r2, q2⟩
def Zpg (t : TA) : TE := fun σ H Q => t σ H fun xs H1 => xs.length <= sizeLine /\ ∀ p, H1 p = none -> Q (.ref p) (upd H1 p (.tup xs))
def Zpj (t : TA) : TE := fun σ H Q => t σ H fun xs H1 => xs.length <= sizeLine /\ ∀ p, H1 p = none -> Q (.ref p) (upd H1 p (.lst xs))
theorem Zm6 {x1} (h : PA X es t) : PE X (.Tuple es x1 pos) (Zpg t) := by
 intro pins s σ H Q I hq;refine wpAny_Tuple_spliced (thn (h pos pins s σ H _ I hq) fun us s1 ⟨xs, H1, I1, r, z, q⟩ => ⟨by rw [<- r.length]; exact z, ?_⟩);have hf : H1 s1.heap.objs.size = none := I1.hok.fresh (Nat.le_refl _);refine ⟨.ref s1.heap.objs.size, upd H1 s1.heap.objs.size (.tup xs), I1.laid (t' := s1.toks) (fun b u e => Heap.get?_push_of_some _ e) (Nat.le_refl _) ?_, rfl, q _ hf⟩;exact ⟨z, us, r, ⟨_, Heap.get?_push_size _ rfl, rfl, _, rfl⟩⟩
theorem Zkj (h : PA X es t) : PE X (.List es pos) (Zpj t) := by
 intro pins s σ H Q I hq;refine wpAny_List_spliced (thn (h pos pins s σ H _ I hq) fun us s1 ⟨xs, H1, I1, r, z, q⟩ => ⟨by rw [<- r.length]; exact z, ?_⟩);have hf : H1 s1.heap.objs.size = none := I1.hok.fresh (Nat.le_refl _);refine ⟨.ref s1.heap.objs.size, upd H1 s1.heap.objs.size (.lst xs), I1.laid (t' := s1.toks) (fun b u e => Heap.get?_push_of_some _ e) (Nat.le_refl _) ?_, rfl, q _ hf⟩;exact ⟨z, us, 0, r, Heap.get?_push_size _ rfl⟩
end
abbrev Sp := List V -> Hp -> VK -> XK -> Prop
abbrev CXT := List Env -> Hp -> Shared -> XK -> Value -> Shared -> Prop
structure Env0 (P : Program) (w : World) (K : PySem.W.Frag) (mg : Str -> Option Value) (base : Heap) (A : Around) (outer : List Env) (s : Shared) (H : Hp) : Prop where
 frames : A.frames = some outer
 mod : Mod K mg base
 bs : ∀ b o, base.get? b = some o -> s.heap.get? b = some o /\ H b = none
 bsz : base.objs.size <= s.heap.objs.size
 funs : s.heap.FunFrames base outer
 frf : ∀ b ∈ frs outer, H b = none
 hok : HOk P w H s.heap
 bare : AllBare s.gens
def CE (outer : List Env) (P : Program) (w : World) (H : Hp) (s : Shared) (Q : VK) (u : Value) (s' : Shared) : Prop :=
 ∃ v H', s'.os = s.os /\ AllBare s'.gens /\ Un (frs outer) [] H H' s.heap s'.heap /\ HOk P w H' s'.heap /\ RelV v u /\ Q v H'
def CR (CX : CXT) (outer : List Env) (P : Program) (w : World) (H : Hp) (s : Shared) (Q : VK) (E : XK) (r : Result) (s' : Shared) : Prop :=
 match r with
 | .ok (.ret u) => CE outer P w H s Q u s'
 | .ok _ => False
 | .error e => CX outer H s E e s'
structure Zcc (P : Program) (w : World) (K : PySem.W.Frag) (mg : Str -> Option Value) (base : Heap) (CX : CXT) (k : Nat) (f : Addr) (fd : FuncData) (ps : List Str) (sp : Sp) : Prop where
 len : ∀ vs H Q E, sp vs H Q E -> vs.length = ps.length
 run : ∀ (A : Around) (outer : List Env) (s : Shared) (H : Hp) (args : Args) (us : List Value) (vs : List V) (Q : VK) (E : XK), Room k A -> Env0 P w K mg base A outer s H -> BindsTo s fd args (ps.zip us) -> Vals vs us -> sp vs H Q E ->
  codeAny (model P w) A (.call (.ref f) args) (CR CX outer P w H s Q E) s
theorem Env0.make {P : Program} {w : World} {K : PySem.W.Frag} {mg : Str -> Option Value} {base : Heap} {A : Around} {outer : List Env} {s : Shared} {H : Hp} (e : Env0 P w K mg base A outer s H) (C : Addr) (us : List Value) (kw : List (Str × Value)) :
  Env0 P w K mg base (A.under (.builtin "type.__call__" ⟨.ref C :: us, kw⟩)) outer s H := ⟨by first | exact e.frames | (simpa [Around.under, Code.envs, Code.isFrame, pushEnvs] using e.frames), e.mod, e.bs, e.bsz, e.funs, e.frf, e.hok, e.bare⟩
section
variable {X : Cx} {pins : List (Addr × Obj)} {σ : St} {H : Hp} {s s' : Shared}
theorem Inv.env0 (I : Inv X pins σ H s) : Env0 X.prog X.w X.K X.mg X.base X.A X.stack s H :=
 ⟨I.ok.frames, I.ok.mod, I.bs, Nat.le_trans I.ok.bsz I.sz, I.stack, I.stkFree, I.hok, I.bare⟩
theorem Inv.after {Q : VK} {u : Value} (I : Inv X pins σ H s) (h : CE X.stack X.prog X.w H s Q u s') : EP X pins σ Q u s' := by
 obtain ⟨v, H', os, bare, un, hok, r, q⟩ := h;obtain ⟨hh, g, d, t, os'⟩ := s';obtain rfl : os' = s.os := os;exact ⟨v, H', I.call (h' := hh) (g' := g) (d' := d) (t' := t) (ch := []) un hok bare (fun b z => absurd z (by simp)), r, q⟩
end
def Zjf (sp : Sp) (dvs : List V) (E : XK) (t : TA) : TE := fun σ H Q => t σ H fun vs H1 => sp (vs ++ dvs) H1 Q E
def Zoa (C : Addr) (m : Str) (sp : Sp) (dvs : List V) (E : XK) (ta : TE) (t : TA) : TE := fun σ H Q => ta σ H fun x H1 => ∃ a dx fs, x = .ref a /\ H1 a = some (.ins C dx fs) /\ fs.lookup m = none /\
 t σ H1 fun vs H2 => sp (x :: (vs ++ dvs)) H2 Q E
def Zoc (C : Addr) (sp : Sp) (dvs : List V) (E : XK) (t : TA) : TE := fun σ H Q => t σ H fun vs H1 => ∀ x dx, H1 x = none -> H1 dx = none -> dx ≠ x ->
 sp (.ref x :: (vs ++ dvs)) (upd (upd H1 dx (.own x)) x (.ins C dx [])) (fun v H2 => v = .non /\ Q (.ref x) H2) E
def Binds (K : PySem.W.Frag) (fd : FuncData) (ps : List Str) (ds : List Value) : Prop :=
 ∀ (s : Shared) (us : List Value), K.In s.heap -> (us ++ ds).length = ps.length -> BindsTo s fd ⟨us, []⟩ (ps.zip (us ++ ds))
theorem Binds.all {K : PySem.W.Frag} {fd : FuncData} {ps : List Str} (h : ∀ us : List Value, us.length = ps.length -> bindArgs fd ⟨us, []⟩ = pure (ps.zip us)) : Binds K fd ps [] := fun s us _ hl => by
 rw [List.append_nil] at hl ⊢;exact .of_eq (h us hl)
def Zem (CX : CXT) (X : Cx) (E : XK) : Prop := ∀ (pins : List (Addr × Obj)) (σ : St) (H : Hp) (s : Shared) (e : Value) (s' : Shared), Inv X pins σ H s -> CX X.stack H s E e s' -> X.xe e s'
section
variable {X : Cx} {CX : CXT} {k : Nat} {f C : Addr} {fd : FuncData} {ps : List Str} {sp : Sp} {dvs : List V} {ds : List Value} {E : XK} {x m : Str} {p pos apos : Pos} {e o : Expr} {es : List Expr} {ta : TE} {t : TA}
theorem Zkd {pins : List (Addr × Obj)} {σ : St} {H : Hp} {s : Shared} {Q : VK} {us : List Value} {vs : List V} (F : Zcc X.prog X.w X.K X.mg X.base CX k f fd ps sp) (hr : Room k X.A) (hb : Binds X.K fd ps ds) (hd : Vals dvs ds) (hx : Zem CX X E)
  (I : Inv X pins σ H s) (r : Vals vs us) (h : sp (vs ++ dvs) H Q E) : wpAny (model X.prog X.w) X.A (call (.ref f) us) (EP X pins σ Q) X.xe s := by
 have r2 : Vals (vs ++ dvs) (us ++ ds) := r.append hd;have hl : (us ++ ds).length = ps.length := by rw [<- r2.length]; exact F.len _ _ _ _ h
 refine wpAny_call (codeAny_mono (F.run X.A X.stack s H ⟨us, []⟩ (us ++ ds) (vs ++ dvs) Q E hr I.env0 (hb s us I.kIn hl) r2 h) fun r s' hq => ?_);cases r with
 | error e => exact hx pins σ H s e s' I hq
 | ok fl =>
  cases fl with
  | ret u => exact I.after hq
  | next => exact False.elim hq
  | brk => exact False.elim hq
  | cont => exact False.elim hq
theorem Zle (F : Zcc X.prog X.w X.K X.mg X.base CX k f fd ps sp) (hr : Room k X.A) (hg : Gl X x) (hm : X.mg x = some (.ref f)) (hk : PySem.W.keepIn X.K (.ref f) = true) (hb : Binds X.K fd ps ds) (hd : Vals dvs ds) (hx : Zem CX X E)
  (ha : PA X (e :: es) t) (hdb : (x == ("__debug__" : Str)) = false := by decide) (he : starEach (e :: es) X.env = (false, eval e X.env) :: starEach es X.env := by rfl) (hpl : (backTo pos (starEach es X.env)).any (·.1) = false := by rfl) :
  PE X (.Call (.Name x p) (e :: es) [] pos) (Zjf sp dvs E t) := by
 intro pins s σ H Q I h;refine wpAny_Call_Name_kw (Zec I hg hm ?_ hdb);refine PySem.W.callWith_K (h₀ := X.base) I.ok.mod.kin hk (thn (ha pos pins s σ H _ I h) fun us s1 ⟨vs, H1, I1, r, q⟩ => ⟨I1.kIn, ?_⟩) he hpl;exact Zkd F hr hb hd hx I1 r q
structure Mk (K : PySem.W.Frag) (C f : Addr) : Prop where
 makes : PySem.W.makesIn K C = true
 init : PySem.W.findIn K (.ref C) "__init__" = some (some (.ref f))
 fn : PySem.W.isFn K (.ref f) = true
 kp : PySem.W.keepIn K (.ref C) = true
theorem Zjh {pins : List (Addr × Obj)} {σ : St} {H : Hp} {s : Shared} {Q : VK} {us : List Value} {vs : List V} (M : Mk X.K C f) (F : Zcc X.prog X.w X.K X.mg X.base CX k f fd ps sp) (hr : Room (k + 1) X.A) (hb : Binds X.K fd ps ds) (hd : Vals dvs ds)
  (hx : Zem CX X E) (I : Inv X pins σ H s) (r : Vals vs us)
  (h : ∀ x dx, H x = none -> H dx = none -> dx ≠ x -> sp (.ref x :: (vs ++ dvs)) (upd (upd H dx (.own x)) x (.ins C dx [])) (fun v H2 => v = .non /\ Q (.ref x) H2) E) :
  wpAny (model X.prog X.w) X.A (call (.ref C) us) (EP X pins σ Q) X.xe s := by
 have hq := h (s.heap.objs.size + 1) s.heap.objs.size (I.hok.fresh (Nat.le_succ _)) (I.hok.fresh (Nat.le_refl _)) (Nat.ne_of_lt (Nat.lt_succ_self _));have I2 := Inv.made (C := C) I;have r2 : Vals (V.ref (s.heap.objs.size + 1) :: (vs ++ dvs)) (Value.ref (s.heap.objs.size + 1) :: (us ++ ds)) := .cons rfl (r.append hd);have hl : (Value.ref (s.heap.objs.size + 1) :: us ++ ds).length = ps.length := by
  have e := r2.length;rw [F.len _ _ _ _ hq] at e;exact e.symm
 refine wpAny_call (Zjs (f := f) I.kIn M.makes M.init (beq_iff_eq.mp M.fn) (codeAny_mono (F.run _ X.stack _ _ ⟨Value.ref (s.heap.objs.size + 1) :: us, []⟩ (Value.ref (s.heap.objs.size + 1) :: (us ++ ds)) _ _ E (hr.make C us [])
  (I2.env0.make C us []) (hb _ (Value.ref (s.heap.objs.size + 1) :: us) I2.kIn hl) r2 hq) fun r s' hq' => ?_))
 cases r with
 | error e => exact hx pins σ _ _ e s' I2 hq'
 | ok fl =>
  cases fl with
  | ret u =>
   obtain ⟨v, H', I3, rv, ev, q3⟩ := I2.after hq';subst ev;exact ⟨rv, ⟨V.ref (s.heap.objs.size + 1), H', I3, rfl, q3⟩⟩
  | next => exact False.elim hq'
  | brk => exact False.elim hq'
  | cont => exact False.elim hq'
end
section
variable {X : Cx} {CX : CXT} {k : Nat} {f C : Addr} {fd : FuncData} {ps ks : List Str} {sp : Sp} {E : XK} {x m : Str} {p pos apos kpos : Pos} {e o : Expr} {es : List Expr} {kws : List Keyword} {te ta : TE} {t tk : TA} {nm : Option Str}
structure KBinds (K : PySem.W.Frag) (fd : FuncData) (ps ks : List Str) (g : List Value -> List Value -> List Value) (gV : List V -> List V -> List V) : Prop where
 to : ∀ (s : Shared) (us ws : List Value), K.In s.heap -> (g us ws).length = ps.length -> BindsTo s fd ⟨us, ks.zip ws⟩ (ps.zip (g us ws))
 rel : ∀ {vs : List V} {us : List Value} {zs : List V} {ws : List Value}, Vals vs us -> Vals zs ws -> Vals (gV vs zs) (g us ws)
variable {g : List Value -> List Value -> List Value} {gV : List V -> List V -> List V}
end
structure Zat (N P : List Str) (sc : Scope) : Prop where
 kind : sc.kind = .function
 co : sc.isCoroutine = false
 gen : sc.isGenerator = false
 nd : N.Nodup
 pre : N.take P.length = P
 par : ∀ x ∈ P, sc.names.lookup x = some .local \/ sc.names.lookup x = some .cell
 nofree : ∀ y ∈ sc.names, y.2 ≠ .free
theorem Zfs {kindOf : Str -> Option NameKind} {x : Str} : ∀ {binds : List (Str × Value)} {m : Str -> Option Value}, (∀ v, (x, v) ∉ binds) -> bindL kindOf binds m x = m x
 | [], _, _ => rfl
 | (n, v) :: r, m, h => by
  unfold bindL;rw [Zfs fun w hw => h w (List.mem_cons_of_mem _ hw)]
  split
  ·have : x ≠ n := by rintro rfl; exact h v List.mem_cons_self
   simp [this]
  ·rfl
theorem Zfu {kindOf : Str -> Option NameKind} {x : Str} : ∀ {binds : List (Str × Value)} {m : Str -> Option Value}, (∀ v, (x, v) ∉ binds) -> bindC kindOf binds m x = m x
 | [], _, _ => rfl
 | (n, v) :: r, m, h => by
  unfold bindC;rw [Zfu fun w hw => h w (List.mem_cons_of_mem _ hw)]
  split
  ·rfl
  ·have : x ≠ n := by rintro rfl; exact h v List.mem_cons_self
   simp [this]
theorem Zft {kindOf : Str -> Option NameKind} {x : Str} {v : Value} : ∀ {P : List Str} {vs : List Value} {i : Nat} {m : Str -> Option Value}, P.Nodup -> P[i]? = some x -> vs[i]? = some v -> kindOf x = some .local ->
  bindL kindOf (P.zip vs) m x = some v
 | [], _, _, _, _, h, _, _ => by simp at h
 | _ :: _, [], _, _, _, _, h, _ => by simp at h
 | p :: P, w :: vs, 0, m, nd, h1, h2, hk => by
  simp at h1 h2; subst h1; subst h2;show bindL kindOf ((p, w) :: P.zip vs) m p = _;unfold bindL;rw [Zfs fun v hv => (List.nodup_cons.mp nd).1 (List.of_mem_zip hv).1, if_pos hk];simp
 | p :: P, w :: vs, i + 1, m, nd, h1, h2, hk => by
  show bindL kindOf ((p, w) :: P.zip vs) m x = _;unfold bindL;exact Zft (i := i) (List.nodup_cons.mp nd).2 (by simpa using h1) (by simpa using h2) hk
theorem Zfv {kindOf : Str -> Option NameKind} {x : Str} {v : Value} : ∀ {P : List Str} {vs : List Value} {i : Nat} {m : Str -> Option Value}, P.Nodup -> P[i]? = some x -> vs[i]? = some v -> kindOf x ≠ some .local ->
  bindC kindOf (P.zip vs) m x = some v
 | [], _, _, _, _, h, _, _ => by simp at h
 | _ :: _, [], _, _, _, _, h, _ => by simp at h
 | p :: P, w :: vs, 0, m, nd, h1, h2, hk => by
  simp at h1 h2; subst h1; subst h2;show bindC kindOf ((p, w) :: P.zip vs) m p = _;unfold bindC;rw [Zfu fun v hv => (List.nodup_cons.mp nd).1 (List.of_mem_zip hv).1, if_neg hk];simp
 | p :: P, w :: vs, i + 1, m, nd, h1, h2, hk => by
  show bindC kindOf ((p, w) :: P.zip vs) m x = _;unfold bindC;exact Zfv (i := i) (List.nodup_cons.mp nd).2 (by simpa using h1) (by simpa using h2) hk
def start (N : List Str) (vs : List V) : St := vs.map some ++ List.replicate (N.length - vs.length) none
def cxOf (CX : CXT) (P : Program) (w : World) (K : PySem.W.Frag) (mg : Str -> Option Value) (base : Heap) (N : List Str) (qual : Str) (scope : Scope) (f : Addr) (cd : Value) (A : Around) (outer : List Env) (s : Shared) (H : Hp) (E : XK) : Cx where
 prog := P
 w := w
 K := K
 mg := mg
 base := base
 A := A.deeper (envOfC qual scope s.heap.objs.size f cd)
 N := N
 s₀ := s
 H₀ := H
 env := envOfC qual scope s.heap.objs.size f cd
 outer := outer
 stack := envOfC qual scope s.heap.objs.size f cd :: outer
 ex := []
 calm := true
 fn := fun _ => true
 pn := []
 xe := fun e s' => wpAny (model P w) (A.deeper (envOfC qual scope s.heap.objs.size f cd)) (leaving (envOfC qual scope s.heap.objs.size f cd) e) (fun _ s'' => CX outer H s E e s'') (fun e' s'' => CX outer H s E e' s'') s'
theorem Zg3 {sc : Scope} {n : Nat} {x : Str} (h : sc.names.lookup x = some .cell) : ∃ c, (cellsFrom n sc.names []).lookup x = some c := by
 have q := PySem.W.cellsFrom_some sc.names n [] (.inl h);exact Option.isSome_iff_exists.mp q
theorem Zfj {CX : CXT} {P : Program} {w : World} {K : PySem.W.Frag} {mg : Str -> Option Value} {base : Heap} {N ps : List Str} {qual : Str} {scope : Scope} {f : Addr} {cd : Value} {A : Around} {outer : List Env} {s s1 : Shared} {H : Hp} {E : XK} {us : List Value} {vs : List V}
  (S : Zat N ps scope) (hd : A.handled = none) (e0 : Env0 P w K mg base A outer s H) (hl : vs.length = ps.length) (r : Vals vs us)
  (x : InCallC s s.heap.objs.size (bindL (envOfC qual scope s.heap.objs.size f cd).kindOf (ps.zip us) fun _ => none) (cellsFrom (s.heap.objs.size + 1) scope.names []) (bindC (envOfC qual scope s.heap.objs.size f cd).kindOf (ps.zip us) fun _ => none) s1) :
  Inv (cxOf CX P w K mg base N qual scope f cd A outer s H E) [] (start N vs) H s1 := by
 have hpl : ps.length <= N.length := by have := congrArg List.length S.pre; rw [List.length_take] at this; omega
 obtain ⟨h1, tk, rfl, hk⟩ := x.done;have noA : ∀ b : Addr, b ∉ (cxOf CX P w K mg base N qual scope f cd A outer s H E).ex := fun b z => absurd (show b ∈ ([] : List Addr) from z) (by simp)
 refine ⟨⟨e0.mod, S.kind, rfl, rfl, Nat.le_refl _, fun y z c h1 h2 => ?_, fun y hy => ?_, fun y c _ h => ?_, fun _ => hd, Around.frames_deeper e0.frames, .inr ⟨rfl, rfl⟩, fun b z => absurd z (noA b), e0.bs, e0.bsz, fun b _ _ => noA b, fun b z => absurd z (noA b), e0.funs, e0.frf⟩,
  rfl, e0.bare, Un.kept hk, ⟨_, x.toInCall.ns, fun i y v h1 h2 h3 => ?_⟩, fun y c h => ⟨_, x.cell y c h⟩, e0.hok.fresh (Nat.le_refl _), fun y c h => ?_, fun p hp => absurd (show p ∈ ([] : List (Addr × Obj)) from hp) (by simp), e0.hok.kept hk, ?_⟩
 ·exact name_of_addr x.apart (PySem.mem_of_lookup h1) (PySem.mem_of_lookup h2)
 ·have hy : scope.names.lookup y = some .cell \/ scope.names.lookup y = some .free := hy;rcases hy with hy | hy
  ·exact Zg3 hy
  ·exact absurd rfl (S.nofree _ (PySem.mem_of_lookup hy))
 ·exact Nat.le_of_lt (x.above y c (PySem.mem_of_lookup h))
 ·have hi : i < vs.length := by
   unfold start at h2
   by_cases hi : i < vs.length
   ·exact hi
   ·rw [List.getElem?_append_right (by simpa using hi)] at h2;rw [List.getElem?_replicate] at h2
    split at h2 <;> cases h2
  have ha : vs[i]? = some v := by
   unfold start at h2;rw [List.getElem?_append_left (by simpa using hi), List.getElem?_map] at h2;cases e : vs[i]? with
   | none => rw [e] at h2; cases h2
   | some a => rw [e] at h2; cases h2; rfl
  obtain ⟨u, hu, rv⟩ := r.get ha;have hp : ps[i]? = some y := by
   rw [<- S.pre, List.getElem?_take_of_lt (by omega)]; exact h1
  have ndP : ps.Nodup := by rw [<- S.pre]; exact S.nd.sublist (List.take_sublist _ _)
  refine ⟨u, rv, ?_⟩;rcases S.par y (List.mem_of_getElem? hp) with k | k
  ·exact .inl ⟨k, Zft ndP hp hu k⟩
  ·obtain ⟨c, e⟩ := Zg3 (n := s.heap.objs.size + 1) k;refine .inr ⟨.inl k, c, e, ?_⟩;have q := x.cell y c e;rw [Zfv ndP hp hu (by show scope.names.lookup y ≠ _; rw [k]; decide)] at q;exact q
 ·exact e0.hok.fresh (Nat.le_of_lt (x.above y c (PySem.mem_of_lookup h)))
 ·unfold start;show _ = N.length;rw [List.length_append, List.length_map, List.length_replicate];omega
theorem Znu {CX : CXT} {P : Program} {w : World} {K : PySem.W.Frag} {mg : Str -> Option Value} {base : Heap} {k : Nat} {f : Addr} {name qual : Str} {params : Arguments} {body : List Stmt} {scope : Scope} {dV kV doc pm cdv ct oc : Value} {an od : Option Addr}
  {osl : Array (Option Value)} {N ps : List Str} {sp : Sp} (lk : K.lookup f = some ⟨oc, od, .func (PySem.W.fnOf name qual params body scope dV kV doc pm an cdv ct), osl⟩) (hcd : PySem.W.codeIn K cdv qual = true) (S : Zat N ps scope)
  (len : ∀ vs H Q E, sp vs H Q E -> vs.length = ps.length)
  (hbody : ∀ (A : Around) (outer : List Env) (s : Shared) (H : Hp) (vs : List V) (Q : VK) (E : XK), Room k (A.deeper (envOfC qual scope s.heap.objs.size f cdv)) -> sp vs H Q E ->
   ∃ t, PSs (cxOf CX P w K mg base N qual scope f cdv A outer s H E) body t /\ t { nx := fun _ H' => Q .non H', rt := Q } (start N vs) H) :
  Zcc P w K mg base CX (k + 1) f (PySem.W.fnOf name qual params body scope dV kV doc pm an cdv ct) ps sp := by
 refine ⟨len, fun A outer s H args us vs Q E hr e0 hb r hsp => ?_⟩;have hl := len _ _ _ _ hsp;have KX : K.In s.heap := e0.mod.kin.keeps fun b o e => (e0.bs b o e).1
 have lim : s.heap.NoLimit := e0.mod.nolimit.keeps fun b o e => (e0.bs b o e).1
 have hkind : ∀ y ∈ ps.zip us, scope.names.lookup y.1 = some .local \/ (scope.names.lookup y.1 = some .cell /\ ((cellsFrom (s.heap.objs.size + 1) scope.names []).lookup y.1).isSome = true) := fun ⟨n, v⟩ hy => by
  rcases S.par n (List.of_mem_zip hy).1 with q | q
  ·exact .inl q
  ·exact .inr ⟨q, PySem.W.cellsFrom_some _ _ _ (.inl q)⟩
 refine codeAny_call_function hr.depth (KX _ _ lk) rfl S.co S.gen rfl (PySem.W.codeRec_of KX hcd) (hb _ _ _ _ ?_);refine wpAny_newFunctionEnv_cells S.kind hkind fun env he s1 x => ?_
 subst he;refine ⟨lim.keeps x.toInCall.keep, codeAny_func ?_⟩;obtain ⟨t, ht, hq⟩ := hbody A outer s H vs Q E (hr.deeper _) hsp;have I : Inv (cxOf CX P w K mg base N qual scope f cdv A outer s H E) [] (start N vs) H s1 := Zfj S hr.hd e0 hl r x;refine wpAny_mono (ht [] s1 (start N vs) H _ I hq) (fun fl s' hs => ?_) fun e s' hs => hs
 have fin : ∀ {σ' : St} {H' : Hp} {v : V} {u : Value}, Inv (cxOf CX P w K mg base N qual scope f cdv A outer s H E) [] σ' H' s' -> RelV v u -> Q v H' -> CE outer P w H s Q u s' :=
  fun {σ' H' v u} J rv q => ⟨v, H', J.os, J.bare, J.base, J.hok, rv, q⟩
 cases fl with
 | ret u =>
  obtain ⟨v, σ', H', J, rv, q⟩ := hs;exact fin J rv q
 | next =>
  obtain ⟨σ', H', J, q⟩ := hs;exact fin (v := V.non) (u := Value.none) J rfl q
 | brk =>
  obtain ⟨_, _, _, q⟩ := hs;exact False.elim q
 | cont =>
  obtain ⟨_, _, _, q⟩ := hs;exact False.elim q
end L2
namespace L2
open PySem PySem.Spec PyProof.Rows
section
variable {X : Cx} {x : Str} {p pos : Pos} {e : Expr} {es : List Expr} {t : TA} {id T : String} {r : List V -> Hp -> VK -> Prop}
def tCB (r : List V -> Hp -> VK -> Prop) (t : TA) : TE := fun σ H Q => t σ H fun vs H1 => r vs H1 Q
theorem Zal (hc : CallR X (.builtin id) r) (hg : Gl X x) (hm : X.mg x = none) (hv : bootBuiltins x = some (.builtin id)) (ha : PA X (e :: es) t) (hn : x ≠ "__name__" := by decide) (hdb : (x == ("__debug__" : Str)) = false := by decide)
  (he : starEach (e :: es) X.env = (false, eval e X.env) :: starEach es X.env := by rfl) (hpl : (backTo pos (starEach es X.env)).any (·.1) = false := by rfl) : PE X (.Call (.Name x p) (e :: es) [] pos) (tCB r t) := by
 intro pins s σ H Q I h;refine wpAny_Call_Name_kw (Zgz I hg hm hv ?_ hn hdb);exact PyProof.Rows.callWith_builtin1 (thn (ha pos pins s σ H _ I h) fun us s1 ⟨vs, H1, I1, r1, q1⟩ => hc pins s1 σ H1 vs us Q I1 r1 q1) he hpl
theorem Zfb (hc : CallR X (.type T) r) (hg : Gl X x) (hm : X.mg x = none) (hv : bootBuiltins x = some (.type T)) (ha : PA X (e :: es) t) (hn : x ≠ "__name__" := by decide) (hdb : (x == ("__debug__" : Str)) = false := by decide)
  (he : starEach (e :: es) X.env = (false, eval e X.env) :: starEach es X.env := by rfl) (hpl : (backTo pos (starEach es X.env)).any (·.1) = false := by rfl) : PE X (.Call (.Name x p) (e :: es) [] pos) (tCB r t) := by
 intro pins s σ H Q I h;refine wpAny_Call_Name_kw (Zgz I hg hm hv ?_ hn hdb);exact PyProof.Rows.callWith_type1 (thn (ha pos pins s σ H _ I h) fun us s1 ⟨vs, H1, I1, r1, q1⟩ => hc pins s1 σ H1 vs us Q I1 r1 q1) he hpl
end
end L2
namespace HT
open PySem PyProof.Rows
def Zo5 : List Int -> List Int -> Bool
 | [], [] => false
 | [], _ :: _ => true
 | _ :: _, [] => false
 | x :: xs, y :: ys => if x = y then Zo5 xs ys else decide (x < y)
section
open PySem.SeqAt
open PySem.AutoSeq1 (wpAny_loadPart')
open PySem.MeetsSeq PySem.MeetsSeq2 PySem.MeetsSeq3
end
section
variable {prog : Program} {w : World} {A : Around} {E : Value -> Shared -> Prop} {s : Shared}
def sIx (n d : Nat) : Option Int -> Nat
 | none => d
 | some v => if v < 0 then (v + (n : Int)).toNat else min v.toNat n
theorem sIx_none (n d : Nat) : sIx n d none = d := rfl
theorem sIx_nat (n d k : Nat) : sIx n d (some (k : Int)) = min k n := by
 show (if (k : Int) < 0 then ((k : Int) + (n : Int)).toNat else min (k : Int).toNat n) = min k n;rw [if_neg (by omega), Int.toNat_natCast]
end
end HT
namespace L2
open PySem PySem.Spec PyProof.Rows
abbrev TO := St -> Hp -> (Option Int -> Hp -> Prop) -> Prop
def PO (X : Cx) (e : Option Expr) (t : TO) : Prop :=
 ∀ (pins : List (Addr × Obj)) (s : Shared) (σ : St) (H : Hp) (Q : Option Int -> Hp -> Prop), Inv X pins σ H s -> t σ H Q ->
  wpAny (model X.prog X.w) X.A (evalPart e X.env) (fun u s' => ∃ o H', Inv X pins σ H' s' /\ IsPart u o /\ Q o H') X.xe s
def Zh1 : TO := fun _ H Q => Q none H
def Zmc (t : TE) : TO := fun σ H Q => t σ H fun x H1 => ∃ i, x = .int i /\ Q (some i) H1
section
variable {X : Cx} {e : Expr} {te : TE} {lo hi : Option Expr} {tl th : TO} {pos p2 : Pos}
theorem Zd9 : PO X none Zh1 := by
 intro pins s σ H Q I h;rw [evalPart_none];exact wpAny_pure ⟨none, H, I, .none, h⟩
theorem Zd8 (h : PE X e te) : PO X (some e) (Zmc te) := by
 intro pins s σ H Q I hw;rw [evalPart_some];refine thn (h pins s σ H _ I hw) fun u s1 ⟨x, H1, I1, r1, q1⟩ => ?_
 obtain ⟨i, rfl, q⟩ := q1;obtain ⟨t, rfl⟩ := r1;exact ⟨some i, H1, I1, .int i t, q⟩
def SlR (X : Cx) (r : V -> Option Int -> Option Int -> Hp -> VK -> Prop) : Prop :=
 ∀ (pins : List (Addr × Obj)) (s : Shared) (σ : St) (H : Hp) (x : V) (v vl vu : Value) (lo hi : Option Int) (sl : Addr) (Q : VK), Inv X pins σ H s -> RelV x v -> s.heap.IsSliceOf sl vl vu .none -> IsPart vl lo -> IsPart vu hi -> r x lo hi H Q ->
  ∃ T id, typeLookup (.type T) "__getitem__" = pure (some (.builtin id)) /\ s.TypeIs v T /\ wpAny (model X.prog X.w) X.A (getItem v (.ref sl)) (EP X pins σ Q) X.xe s
def tSl (r : V -> Option Int -> Option Int -> Hp -> VK -> Prop) (te : TE) (tl th : TO) : TE := fun σ H Q => te σ H fun x H1 => tl σ H1 fun l H2 => th σ H2 fun u H3 => r x l u H3 Q
theorem Zdb {r : V -> Option Int -> Option Int -> Hp -> VK -> Prop} (hr : SlR X r) (he : PE X e te) (hl : PO X lo tl) (hu : PO X hi th) : PE X (.Subscript e (.Slice lo hi none p2) pos) (tSl r te tl th) := by
 intro pins s σ H Q I h;refine Subscript_ (thn (he pins s σ H _ I h) fun v s1 ⟨x, H1, I1, r1, q1⟩ => ?_);refine wpAny_Slice (thn (hl pins s1 σ H1 _ I1 q1) fun vl s2 ⟨l, H2, I2, pl, q2⟩ => thn (hu pins s2 σ H2 _ I2 q2) fun vu s3 ⟨u, H3, I3, pu, q3⟩ => ?_);rw [evalPart_none];refine wpAny_pure ?_;have I4 : Inv X pins σ H3 { s3 with heap := s3.heap.push { cls := .type "slice", data := .fields #[vl, vu, .none] } } := I3.kept (t' := s3.toks) fun b ob q => Heap.get?_push_of_some _ q
 obtain ⟨T, id, hT, ht, hg⟩ := hr pins { s3 with heap := s3.heap.push { cls := .type "slice", data := .fields #[vl, vu, .none] } } σ H3 x v vl vu l u s3.heap.objs.size Q I4 r1 (Heap.IsSliceOf.new ..) pl pu q3;show wpAny (model X.prog X.w) X.A (subscriptTail e (.Slice lo hi none p2) v (.ref s3.heap.objs.size)) (EP X pins σ Q) X.xe { s3 with heap := s3.heap.push { cls := .type "slice", data := .fields #[vl, vu, .none] } };exact tail_any (ops := [.ref s3.heap.objs.size, v]) ht hT hg (by with_unfolding_all rfl)
def Zgh (xs : List V) (lo hi : Option Int) : List V := (xs.drop (HT.sIx xs.length 0 lo)).take (HT.sIx xs.length xs.length hi - HT.sIx xs.length 0 lo)
theorem Zgg (xs : List V) (lo hi : Option Int) : (Zgh xs lo hi).length <= xs.length := by
 unfold Zgh;rw [List.length_take, List.length_drop];omega
end
end L2
namespace L2
open PySem PySem.Spec PyProof.Rows
def ixN (n : Nat) (i : Int) : Option Nat := if 0 <= i then (if i < n then some i.toNat else none) else if -(n : Int) <= i then some (i + n).toNat else none
def atI {α : Type} (xs : List α) (i : Int) : Option α := (ixN xs.length i).bind fun j => xs[j]?
theorem Zit {n : Nat} {i : Int} {j : Nat} (h : ixN n i = some j) : seqIndex? i n = some j /\ j < n /\ -(n : Int) <= i /\ i < n := by
 unfold ixN at h
 by_cases h0 : 0 <= i
 ·rw [if_pos h0] at h
  by_cases h1 : i < n
  ·rw [if_pos h1] at h;have e : i.toNat = j := Option.some.inj h;exact ⟨by rw [seqIndex_of h0 h1, e], by omega, by omega, h1⟩
  ·rw [if_neg h1] at h; cases h
 ·rw [if_neg h0] at h
  by_cases h1 : -(n : Int) <= i
  ·rw [if_pos h1] at h;have e : (i + n).toNat = j := Option.some.inj h;exact ⟨by rw [seqIndex_neg (by omega) h1, e], by omega, h1, by omega⟩
  ·rw [if_neg h1] at h; cases h
theorem Zgm {α : Type} {xs : List α} {i : Int} {v : α} (h : atI xs i = some v) : ∃ j, seqIndex? i xs.length = some j /\ xs[j]? = some v /\ j < xs.length /\ -(xs.length : Int) <= i /\ i < xs.length := by
 unfold atI at h;cases e : ixN xs.length i with
 | none => rw [e] at h; cases h
 | some j =>
  rw [e] at h;obtain ⟨h1, h2, h3, h4⟩ := Zit e;exact ⟨j, h1, h, h2, h3, h4⟩
theorem Zb5 {α : Type} {xs : List α} {j : Nat} {v : α} (h : xs[j]? = some v) : atI xs (j : Int) = some v := by
 have hj : j < xs.length := (List.getElem?_eq_some_iff.mp h).1;have e : ixN xs.length (j : Int) = some j := by
  unfold ixN;rw [if_pos (by omega), if_pos (by omega)]; simp
 unfold atI; rw [e]; exact h
def Zlx (b : Expr) : Prop := ∀ o i, subscripted b false o i = operate [o, i] (getItem o i)
def IxR (X : Cx) (r : R2) : Prop :=
 ∀ (value slice : Expr) (pins : List (Addr × Obj)) (s : Shared) (σ : St) (H : Hp) (x y : V) (v u : Value) (Q : VK), Inv X pins σ H s -> RelV x v -> RelV y u -> r x y H Q ->
  subscripted slice false v u = operate [v, u] (getItem v u) -> wpAny (model X.prog X.w) X.A (subscriptTail value slice v u) (EP X pins σ Q) X.xe s
def MtR (X : Cx) (id : String) (r : V -> List V -> Hp -> VK -> Prop) : Prop :=
 ∀ (pins : List (Addr × Obj)) (s : Shared) (σ : St) (H : Hp) (x : V) (xs : List V) (v : Value) (us : List Value) (Q : VK), Inv X pins σ H s -> RelV x v -> Vals xs us -> r x xs H Q ->
  wpAny (model X.prog X.w) X.A (call (.builtin id) (v :: us)) (EP X pins σ Q) X.xe s
section
variable {X : Cx} {a b : Expr} {ta tb : TE} {pos : Pos}
theorem Zbg {r : R2} (hr : IxR X r) (ha : PE X a ta) (hb : PE X b tb) (hs : Zlx b) : PE X (.Subscript a b pos) (tOp r ta tb) := by
 intro pins s σ H Q I h;exact Subscript_ (Zpc ha hb I h fun v u s2 x y H2 I2 rx ry q => hr a b pins s2 σ H2 x y v u Q I2 rx ry q (hs _ _))
def Zou (K : PySem.W.Frag) : R2 := fun x y H Q => ∃ p xs i v, x = .ref p /\ y = .int i /\ SqL K H p xs /\ atI xs i = some v /\ Q v H
def Zos (K : PySem.W.Frag) : R2 := fun x y H Q => ∃ p xs i v, x = .ref p /\ y = .int i /\ SqT K H p xs /\ atI xs i = some v /\ Q v H
def Zot : R2 := fun x y H Q => ∃ z i c, x = .str z /\ y = .int i /\ z.length <= sizeLine /\ atI z.cps.toList i = some c /\ Q (.str ⟨#[c]⟩) H
theorem Zln : IxR X (Zou X.K) := by
 intro value slice pins s σ H x y v u Q I rx ry h hs;obtain ⟨p, xs, i, z, rfl, rfl, hq, he, q⟩ := h;cases rx;obtain ⟨t, rfl⟩ := ry;obtain ⟨its, r, pl, hz⟩ := I.list hq;obtain ⟨j, h1, h2, h3, h4, h5⟩ := Zgm he;obtain ⟨w, ew, rw'⟩ := r.get h2;have hl := r.length;have hn := Zek;have fin : EP X pins σ Q w s := ⟨z, H, I, rw', q⟩
 by_cases h0 : 0 <= i
 ·have hj : i.toNat = j := by
   rw [seqIndex_of h0 h5] at h1;exact Option.some.inj h1
  exact item_listR pl.isList h0 (by omega) (by rw [hj]; simpa using ew) fin hs
 ·have hj : (i + (its.toArray.size : Int)).toNat = j := by
   rw [seqIndex_neg (by omega) h4] at h1;rw [List.size_toArray, <- hl];exact Option.some.inj h1
  exact subscriptTail_builtinR (x := w) pl.isList.typeIs slot_list_getitem.lookup
   (wpAny_getItem_list_neg (Q := fun r s' => r = w /\ EP X pins σ Q r s') pl.isList (by omega) (by rw [List.size_toArray] <;> omega) (by omega) (by rw [hj]; simpa using ew) ⟨rfl, fin⟩) hs
theorem Znp : IxR X (Zos X.K) := by
 intro value slice pins s σ H x y v u Q I rx ry h hs;obtain ⟨p, xs, i, z, rfl, rfl, hq, he, q⟩ := h;cases rx;obtain ⟨t, rfl⟩ := ry;obtain ⟨its, r, pl, hz⟩ := I.tuple hq;obtain ⟨j, h1, h2, h3, h4, h5⟩ := Zgm he;obtain ⟨w, ew, rw'⟩ := r.get h2;have hl := r.length;have hn := Zek;have fin : EP X pins σ Q w s := ⟨z, H, I, rw', q⟩;exact subscriptTail_builtinR (x := w) pl.typeIs slot_tuple_getitem.lookup
  (getItem_tuple (j := j) (Q := fun r s' => r = w /\ EP X pins σ Q r s') pl (by omega) (by omega) (by rw [List.size_toArray, <- hl]; exact h1) (by simpa using ew) ⟨rfl, fin⟩) hs
theorem Znq : IxR X Zot := by
 intro value slice pins s σ H x y v u Q I rx ry h hs;obtain ⟨z, i, c, rfl, rfl, hz, he, q⟩ := h;obtain ⟨t, rfl⟩ := rx;obtain ⟨t', rfl⟩ := ry;obtain ⟨j, h1, h2, h3, h4, h5⟩ := Zgm he;have hl : z.cps.toList.length = z.length := by simp [Str.length]
 rw [hl] at h1 h4 h5;have hn := Zek;exact tail_any (typeIs_str s z t) slot_str_getitem.lookup (getItem_str (c := c) (by
  have e1 : decide (i < -(2 ^ 63 : Int)) = false := decide_eq_false (by omega);have e2 : decide (i ≥ 2 ^ 63) = false := decide_eq_false (by omega);rw [e1, e2, Bool.or_false]) (by rw [h1]; simpa using h2) ⟨.str ⟨#[c]⟩, H, I.tok _, ⟨_, rfl⟩, q⟩) hs
theorem Zhj (its : List Value) (n j : Nat) (u : Value) : Obj.mapSeq (·.setIfInBounds j u) { cls := .type "list", data := .seq its.toArray n } = { cls := .type "list", data := .seq (its.set j u).toArray n } := by
 simp [Obj.mapSeq]
theorem Inv.lst {pins : List (Addr × Obj)} {σ : St} {H : Hp} {s : Shared} {p : Addr} {xs : List V} (I : Inv X pins σ H s) (h : H p = some (.lst xs)) :
  ∃ (its : List Value) (n : Nat), Vals xs its /\ s.heap.get? p = some { cls := .type "list", data := .seq its.toArray n } /\ xs.length <= sizeLine := by
 obtain ⟨z, its, n, r, e⟩ := I.hok p _ h;exact ⟨its, n, r, e, z⟩
theorem Inv.lstUpd {pins : List (Addr × Obj)} {σ : St} {H : Hp} {s : Shared} {p : Addr} {xs ys : List V} {its its' : List Value} {n n' : Nat} {f : Obj -> Obj} (I : Inv X pins σ H s) (h : H p = some (.lst xs))
  (ho : s.heap.get? p = some { cls := .type "list", data := .seq its.toArray n }) (hf : f { cls := .type "list", data := .seq its.toArray n } = { cls := .type "list", data := .seq its'.toArray n' }) (r : Vals ys its') (hz : ys.length <= sizeLine) (t : Nat) :
  Inv X pins σ (upd H p (.lst ys)) { s with heap := s.heap.update p f, toks := t } := by
 have e : (s.heap.update p f).get? p = some { cls := .type "list", data := .seq its'.toArray n' } := by
  rw [Heap.get?_update_self f ho (by rw [hf] <;> rfl), hf]
 refine I.write (x := p) (e := p) (by rw [h]; trivial) (.inl rfl) (fun b u hb q => (Heap.get?_update_other _ _ (Ne.symm hb)).trans q) ⟨_, e⟩ ?_;exact ⟨hz, its', n', r, e⟩
def Zmu : V -> V -> V -> Hp -> (Hp -> Prop) -> Prop := fun o i v H Q => ∃ p xs k j, o = .ref p /\ i = .int k /\ H p = some (.lst xs) /\ ixN xs.length k = some j /\ Q (upd H p (.lst (xs.set j v)))
theorem Zgr : Zpv X Zmu := by
 intro pins s σ H o i v ov iv u Q I ro ri rv h;obtain ⟨p, xs, k, j, rfl, rfl, hp, hj, q⟩ := h;cases ro;obtain ⟨t, rfl⟩ := ri;obtain ⟨its, n, r, ho, hz⟩ := I.lst hp;obtain ⟨h1, h2, h3, h4⟩ := Zit hj;have hl := r.length;have hn := Zek;have I' : Inv X pins σ (upd H p (.lst (xs.set j v))) { s with heap := s.heap.update p (Obj.mapSeq (·.setIfInBounds j u)) } :=
  I.lstUpd hp ho (Zhj its n j u) (r.set rv j) (by rw [List.length_set]; exact hz) s.toks
 by_cases h0 : 0 <= k
 ·have hk : k.toNat = j := by
   rw [seqIndex_of h0 h4] at h1;exact Option.some.inj h1
  exact PySem.W.ki_setAt ho h0 (by omega) (by rw [List.size_toArray, <- hl]; exact h4) (by rw [hk]; exact ⟨_, I', q⟩)
 ·have hk : (k + (its.toArray.size : Int)).toNat = j := by
   rw [seqIndex_neg (by omega) h3] at h1;rw [List.size_toArray, <- hl];exact Option.some.inj h1
  exact PySem.W.ki_setBack ho (by omega) (by rw [List.size_toArray, <- hl]; exact h3) (by omega) (by rw [hk]; exact ⟨_, I', q⟩)
theorem Ze6 (lo hi : Option Int) (n : Nat) : (sliceBounds lo hi none n).1 = ((HT.sIx n 0 lo : Nat) : Int) /\ (sliceBounds lo hi none n).2.1 = ((HT.sIx n n hi : Nat) : Int) /\ (sliceBounds lo hi none n).2.2 = 1 := by
 refine ⟨?_, ?_, rfl⟩
 ·cases lo with
  | none => simp [sliceBounds, HT.sIx]
  | some i =>
   simp only [sliceBounds, HT.sIx, Option.getD_none, show (1 : Int) > 0 by decide, if_true]
   by_cases h : i < 0
   ·simp only [h, if_true] <;> omega
   ·simp only [h, if_false] <;> omega
 ·cases hi with
  | none => simp [sliceBounds, HT.sIx]
  | some i =>
   simp only [sliceBounds, HT.sIx, Option.getD_none, show (1 : Int) > 0 by decide, if_true]
   by_cases h : i < 0
   ·simp only [h, if_true] <;> omega
   ·simp only [h, if_false] <;> omega
theorem Zeq (its : List Value) (lo hi : Option Int) : slicePick its.toArray lo hi none = ((its.drop (HT.sIx its.length 0 lo)).take (HT.sIx its.length its.length hi - HT.sIx its.length 0 lo)).toArray := by
 obtain ⟨h1, h2, h3⟩ := Ze6 lo hi its.toArray.size;unfold slicePick;rw [h1, h2, h3];simp only [sliceRange_one, pick_run, List.size_toArray] <;> rfl
def Zom (K : PySem.W.Frag) : V -> Option Int -> Option Int -> Hp -> VK -> Prop := fun x lo hi H Q => ∃ a xs, x = .ref a /\ SqL K H a xs /\ ∀ p, H p = none -> Q (.ref p) (upd H p (.lst (Zgh xs lo hi)))
theorem Zk4 : SlR X (Zom X.K) := by
 intro pins s σ H x v vl vu lo hi sl Q I rx hs pl pu h;obtain ⟨a, xs, rfl, hx, q⟩ := h;cases rx;obtain ⟨its, r, ht, hz⟩ := I.list hx;have hlen := r.length;refine ⟨"list", _, slot_list_getitem.lookup, ht.isList.typeIs, ?_⟩;refine wpAny_getItem_list_slice ht.isList hs pl pu .none (by simp) ?_ (by rw [List.size_toArray] <;> omega);rw [Zeq, <- hlen];refine ⟨.ref s.heap.objs.size, _, I.laid (t' := s.toks) (o := .lst (Zgh xs lo hi)) (fun b ob q => Heap.get?_push_of_some _ q) (Nat.le_refl _) ?_, rfl, q _ (I.hok.fresh (Nat.le_refl _))⟩;exact ⟨Nat.le_trans (Zgg xs lo hi) hz, _, 0, (r.drop (HT.sIx xs.length 0 lo)).take (HT.sIx xs.length xs.length hi - HT.sIx xs.length 0 lo), Heap.get?_push_size _ rfl⟩
theorem Zfq : CallR X (.builtin "len") (fun xs H Q => ∃ p ys, xs = [.ref p] /\ (SqL X.K H p ys \/ SqT X.K H p ys) /\ Q (.int ys.length) H) := by
 intro pins s σ H xs us Q I r h;obtain ⟨p, ys, rfl, hq, q⟩ := h;obtain ⟨u, rfl, rx⟩ := Zhv r;cases rx;have hn := Zek;rcases hq with hq | hq
 ·obtain ⟨its, r', pl, hz⟩ := I.list hq;have hlen := r'.length;exact Calls.call_len_list pl.isList (by simp only [List.size_toArray] <;> omega) ⟨.int ys.length, H, I.tok _, ⟨s.toks + 1, by rw [List.size_toArray, hlen]⟩, q⟩
 ·obtain ⟨its, r', pl, hz⟩ := I.tuple hq;have hlen := r'.length;exact len_tuple pl (by simp only [List.size_toArray] <;> omega) ⟨.int ys.length, H, I.tok _, ⟨s.toks + 1, by rw [List.size_toArray, hlen]⟩, q⟩
theorem Zfp : CallR X (.builtin "len") (fun xs H Q => ∃ z, xs = [.str z] /\ z.length <= sizeLine /\ Q (.int z.length) H) := by
 intro pins s σ H xs us Q I r h;obtain ⟨z, rfl, hz, q⟩ := h;obtain ⟨u, rfl, t, rfl⟩ := Zhv r;have hn := Zek;exact len_str (by omega) ⟨.int z.length, H, I.tok _, ⟨_, rfl⟩, q⟩
theorem Zfo : CallR X (.type "list") (fun xs H Q => ∃ p ys, xs = [.ref p] /\ (SqL X.K H p ys \/ SqT X.K H p ys) /\ ∀ l, H l = none -> Q (.ref l) (upd H l (.lst ys))) := by
 intro pins s σ H xs us Q I r h;obtain ⟨p, ys, rfl, hq, q⟩ := h;obtain ⟨u, rfl, rx⟩ := Zhv r;cases rx;have fin : ∀ (its : List Value), Vals ys its -> ys.length <= sizeLine -> ∀ (h' : Heap) (c' : Nat), (∀ b o', s.heap.get? b = some o' -> h'.get? b = some o') ->
   h'.get? s.heap.objs.size = some { cls := .type "list", dict := none, data := .seq its.toArray c', slots := #[] } -> EP X pins σ Q (.ref s.heap.objs.size) { s with heap := h' } := fun its r' hz h' c' kp e =>
  ⟨.ref s.heap.objs.size, _, I.laid (t' := s.toks) kp (Nat.le_refl _) (show ObjOk X.prog X.w _ h' _ (.lst ys) from ⟨hz, its, c', r', e⟩), rfl, q _ (I.hok.fresh (Nat.le_refl _))⟩
 rcases hq with hq | hq
 ·obtain ⟨its, r', pl, hz⟩ := I.list hq;have hlen := r'.length;obtain ⟨o, ho, hc, n, hd⟩ := pl.isList;exact call_list_seq p (.inl rfl) ho hc hd (fun h' c' kp e => fin its r' hz h' c' kp e) (by simp only [List.size_toArray] <;> omega)
 ·obtain ⟨its, r', pl, hz⟩ := I.tuple hq;have hlen := r'.length;obtain ⟨o, ho, hc, n, hd⟩ := pl;exact call_list_seq p (.inr rfl) ho hc hd (fun h' c' kp e => fin its r' hz h' c' kp e) (by simp only [List.size_toArray] <;> omega)
theorem call_tuple_of : CallR X (.type "tuple") (fun xs H Q => ∃ p ys, xs = [.ref p] /\ ((SqL X.K H p ys /\ ∀ l, H l = none -> Q (.ref l) (upd H l (.tup ys))) \/ (SqT X.K H p ys /\ Q (.ref p) H))) := by
 intro pins s σ H xs us Q I r h;obtain ⟨p, ys, rfl, h⟩ := h;obtain ⟨u, rfl, rx⟩ := Zhv r;cases rx;rcases h with ⟨hq, q⟩ | ⟨hq, q⟩
 ·obtain ⟨its, r', pl, hz⟩ := I.list hq;have hlen := r'.length;refine call_tuple_list pl.isList (fun h' kp => ?_) (by simp only [List.size_toArray] <;> omega);have I1 : Inv X pins σ H { s with heap := h' } := I.kept (t' := s.toks) kp;have I2 : Inv X pins σ (upd H h'.objs.size (.tup ys)) { s with heap := h'.push { cls := .type "tuple", data := .seq its.toArray } } :=
   I1.laid (t' := s.toks) (fun b o e => Heap.get?_push_of_some _ e) (Nat.le_refl _) (show ObjOk X.prog X.w _ _ _ (.tup ys) from ⟨hz, its, r', IsTup.new _ _⟩)
  exact ⟨.ref h'.objs.size, _, I2, rfl, q _ (I1.hok.fresh (Nat.le_refl _))⟩
 ·obtain ⟨its, r', pl, hz⟩ := I.tuple hq;exact call_tuple_same pl ⟨.ref p, H, I, rfl, q⟩
def tyV (K : PySem.W.Frag) (T : String) (x : V) (H : Hp) : Prop := match x with
 | .str _ => T = "str"
 | .int _ => T = "int"
 | .ref p => (T = "list" /\ ∃ xs, SqL K H p xs) \/ (T = "tuple" /\ ∃ o, K.lookup p = some o /\ o.cls = .type "tuple" /\ o.dict = none) \/
   (T = "dict" /\ ((∃ kvs, H p = some (.dK kvs)) \/ ∃ kvs, H p = some (.dT kvs))) \/ (T = "set" /\ ∃ S n, H p = some (.set S n))
 | _ => False
theorem Zl7 {pins : List (Addr × Obj)} {σ : St} {H : Hp} {s : Shared} {T : String} {x : V} {v : Value} (I : Inv X pins σ H s) (r : RelV x v) (ty : tyV X.K T x H) :
  s.TypeIs v T /\ ∀ a, v = .ref a -> ∃ ob, s.heap.get? a = some ob /\ ob.dict = none := by
 cases x with
 | str z =>
  obtain ⟨t, rfl⟩ := r;cases (show T = "str" from ty);exact ⟨typeIs_str s z t, fun _ e => nomatch e⟩
 | int i =>
  obtain ⟨t, rfl⟩ := r;cases (show T = "int" from ty);exact ⟨typeIs_int s i t, fun _ e => nomatch e⟩
 | ref p =>
  cases r;rcases ty with ⟨rfl, xs, hq⟩ | ⟨rfl, o, hk, hc, hd⟩ | ⟨rfl, hk⟩ | ⟨rfl, S, n, hk⟩
  ·obtain ⟨its, _, pl, _⟩ := I.list hq;refine ⟨pl.isList.typeIs, fun a e => ?_⟩;cases e;obtain ⟨o, n, e, c, hd, _⟩ := pl;exact ⟨o, e, hd⟩
  ·refine ⟨⟨o, I.kIn p o hk, hc⟩, fun a e => ?_⟩;cases e;exact ⟨o, I.kIn _ o hk, hd⟩
  ·have z : ∃ o, s.heap.get? p = some o /\ o.ExactDict := by
    rcases hk with ⟨kvs, hk⟩ | ⟨kvs, hk⟩
    ·obtain ⟨_, _, _, _, o, _, _, e, ex, _⟩ := I.hok p _ hk;exact ⟨o, e, ex⟩
    ·obtain ⟨_, _, _, _, o, _, _, e, ex, _⟩ := I.hok p _ hk;exact ⟨o, e, ex⟩
   obtain ⟨o, e, ex⟩ := z;refine ⟨⟨o, e, ex.1⟩, fun a e2 => ?_⟩;cases e2;exact ⟨o, e, ex.2.1⟩
  ·obtain ⟨o, _, _, _, e, ex, _⟩ := I.hok p _ hk;refine ⟨⟨o, e, ex.1⟩, fun a e2 => ?_⟩;cases e2;exact ⟨o, e, ex.2.1⟩
 | _ => exact False.elim ty
def Zp2 (K : PySem.W.Frag) (T : String) (r : V -> List V -> Hp -> VK -> Prop) (to : TE) : TE := fun σ H Q => to σ H fun x H1 => tyV K T x H1 /\ r x [] H1 Q
def tBM (K : PySem.W.Frag) (T : String) (r : V -> List V -> Hp -> VK -> Prop) (to : TE) (t : TA) : TE := fun σ H Q => to σ H fun x H1 => tyV K T x H1 /\ t σ H1 fun xs H2 => r x xs H2 Q
variable {o e : Expr} {es : List Expr} {to : TE} {t : TA} {name : Str} {apos cpos : Pos} {T id : String} {r : V -> List V -> Hp -> VK -> Prop}
theorem Zo0 (pa : PlainAttrs T) (slot : Slot T name id) (hty : typeOf (.builtin id) = pure (.type "method_descriptor")) (hm : MtR X id r) (ho : PE X o to) (ha : PA X (e :: es) t)
  (hbase : attributeBase o name X.env (eval o X.env) = eval o X.env := by rfl)
  (hfew : ((backTo cpos (starEach (e :: es) X.env)).all (fun x => !x.1) && (backToKw cpos (keywordEach [] X.env)).all (fun x => x.1.isSome)
   && decide ((e :: es).length + ([] : List Keyword).length + (if ([] : List Keyword).isEmpty then 0 else 1) < 30)) = true := by rfl)
  (hline : (apos.endLine == cpos.line) = true := by rfl) (hs : starEach (e :: es) X.env = (false, eval e X.env) :: starEach es X.env := by rfl) (hplain : (backTo cpos (starEach es X.env)).any (·.1) = false := by rfl) :
  PE X (.Call (.Attribute o name apos) (e :: es) [] cpos) (tBM X.K T r to t) := by
 intro pins s σ H Q I h;refine wpAny_Call_method_late hbase hfew hline rfl (thn (ho pins s σ H _ I h) fun v s1 ⟨x, H1, I1, r1, ty, q1⟩ => ?_);obtain ⟨h1, h2⟩ := Zl7 I1 r1 ty;refine ⟨T, id, pa, slot, hty, h1, h2, ?_⟩;have hA := ha cpos pins s1 σ H1 _ I1 q1;rw [hs] at hA ⊢;refine Calls.callWith_builtin (by show (false || (backTo cpos (starEach es X.env)).any (·.1)) = false; rw [hplain] <;> rfl) (Calls.evalArgs_plain ?_);exact thn hA fun us s2 ⟨vs, H2, I2, r2, q2⟩ => hm pins s2 σ H2 x vs v us Q I2 r1 r2 q2
end
end L2
namespace L2
open PySem PySem.Spec PyProof.Rows
def MtM (X : Cx) (id : String) (r : V -> List V -> Hp -> VK -> Prop) : Prop :=
 ∀ (pins : List (Addr × Obj)) (s : Shared) (σ : St) (H : Hp) (x : V) (xs : List V) (v : Value) (us : List Value) (Q : VK), Inv X pins σ H s -> RelV x v -> Vals xs us -> r x xs H Q ->
  wpAny (model X.prog X.w) X.A (call (.builtin id) (v :: us)) (EP X pins σ Q) X.xe s
theorem Vals.one : ∀ {x : V} {us : List Value}, Vals [x] us -> ∃ u, us = [u] /\ RelV x u
 | _, _, .cons r .nil => ⟨_, rfl, r⟩
theorem Vals.rep {xs : List V} {us : List Value} (h : Vals xs us) : ∀ k : Nat, Vals (List.replicate k xs).flatten (List.replicate k us).flatten
 | 0 => .nil
 | k + 1 => by
  rw [List.replicate_succ, List.replicate_succ, List.flatten_cons, List.flatten_cons];exact Vals.append h (Vals.rep h k)
theorem Zfl (its : List Value) : ∀ (k : Nat) (acc : List Value),
  List.foldl (fun x1 x2 => x1 ++ x2) acc.toArray (List.replicate k its.toArray) = (acc ++ (List.replicate k its).flatten).toArray
 | 0, acc => by simp
 | k + 1, acc => by
  have e : acc.toArray ++ its.toArray = (acc ++ its).toArray := by simp
  have e2 : (acc ++ its) ++ (List.replicate k its).flatten = acc ++ (List.replicate (k + 1) its).flatten := by
   rw [List.replicate_succ, List.flatten_cons, List.append_assoc]
  rw [<- e2, <- Zfl its k (acc ++ its), <- e, List.replicate_succ, List.foldl_cons]
section
variable {X : Cx} {pins : List (Addr × Obj)} {σ : St} {H : Hp} {s : Shared} {l b : Addr} {xs ys zs : List V}
theorem Inv.lset {its its' : List Value} {n : Nat} {f : Array Value -> Array Value} {t' : Nat} (I : Inv X pins σ H s) (hH : H l = some (.lst xs))
  (e : s.heap.get? l = some { cls := .type "list", data := .seq its.toArray n }) (hf : f its.toArray = its'.toArray) (hv : Vals ys its') (hz : ys.length <= sizeLine) :
  Inv X pins σ (upd H l (.lst ys)) { s with heap := s.heap.update l (Obj.mapSeq f), toks := t' } := by
 have q := PySem.IsL.update e f;rw [hf] at q;refine I.write (x := l) (e := l) (by rw [hH]; exact trivial) (.inl rfl) (fun b' u hb hu => (Heap.get?_update_other s.heap (Obj.mapSeq f) (Ne.symm hb)).trans hu) ⟨_, q⟩ ?_;exact ⟨hz, its', _, hv, q⟩
theorem Inv.lnew {its : List Value} {t' : Nat} (I : Inv X pins σ H s) (hv : Vals ys its) (hz : ys.length <= sizeLine) :
  Inv X pins σ (upd H s.heap.objs.size (.lst ys)) { s with heap := s.heap.push { cls := .type "list", data := .seq its.toArray }, toks := t' } :=
 I.laid (fun _ _ q => Heap.get?_push_of_some _ q) (Nat.le_refl _) ⟨hz, its, 0, hv, Heap.get?_push_size _ rfl⟩
theorem Inv.fresh (I : Inv X pins σ H s) : H s.heap.objs.size = none := I.hok.fresh (Nat.le_refl _)
theorem Inv.lstM (I : Inv X pins σ H s) (hH : H l = some (.lst xs)) : xs.length <= sizeLine /\ ∃ (its : List Value) (n : Nat), Vals xs its /\ xs.length = its.length /\ s.heap.get? l = some { cls := .type "list", data := .seq its.toArray n } := by
 obtain ⟨z, its, n, r, e⟩ := I.hok l _ hH;exact ⟨z, its, n, r, r.length, e⟩
theorem Zgx {n : Nat} (h : n <= sizeLine) : Builtin.List.listTooLong n = false := by
 unfold Builtin.List.listTooLong;exact decide_eq_false (by omega)
end
section
variable {X : Cx}
def Zib : V -> List V -> Hp -> VK -> Prop := fun x vs H Q => ∃ l xs y, x = .ref l /\ vs = [y] /\ H l = some (.lst xs) /\ xs.length < sizeLine /\ Q .non (upd H l (.lst (xs ++ [y])))
theorem mt_append : MtM X "list.append" Zib := by
 intro pins s σ H x vs v us Q I rx rv h;obtain ⟨l, xs, y, rfl, rfl, hH, hz, q⟩ := h;cases rx;obtain ⟨u, rfl, ru⟩ := rv.one;obtain ⟨z, its, n, r, hl, e⟩ := I.lstM hH;refine call_meets F.slot_list_append ⟨_, e, rfl⟩ F.entry_list_append (F.args_list_append_2 _ _) (PySem.list_append l its.toArray n u (by rw [List.size_toArray]; omega)) ⟨e, ?_⟩;refine ⟨.non, _, I.lset (its' := its ++ [u]) hH e (by simp) (r.append (.cons ru .nil)) ?_, rfl, q⟩;rw [List.length_append, List.length_singleton];omega
def Zia : V -> List V -> Hp -> VK -> Prop := fun x vs H Q => ∃ l b xs zs, x = .ref l /\ vs = [.ref b] /\ H l = some (.lst xs) /\ H b = some (.lst zs) /\ xs.length + zs.length <= sizeLine /\ Q .non (upd H l (.lst (xs ++ zs)))
theorem Zin : MtM X "list.extend" Zia := by
 intro pins s σ H x vs v us Q I rx rv h;obtain ⟨l, b, xs, zs, rfl, rfl, hH, hB, hz, q⟩ := h;cases rx;obtain ⟨u, rfl, ru⟩ := rv.one;cases ru;obtain ⟨z, its, n, r, hl, e⟩ := I.lstM hH;obtain ⟨z2, its2, n2, r2, hl2, e2⟩ := I.lstM hB;have hsz : its.toArray.size + its2.toArray.size <= sizeLine := by rw [List.size_toArray, List.size_toArray]; omega
 have hlong : ¬ (!its.toArray.isEmpty && Builtin.List.listTooLong (its.toArray.size + its2.toArray.size)) = true := by
  rw [Zgx hsz, Bool.and_false];exact Bool.false_ne_true
 refine call_meets F.slot_list_extend ⟨_, e, rfl⟩ F.entry_list_extend (F.args_list_extend_2 _ _)
  (AutoSeq1.list_extend_list_list_0 l its.toArray n b its2.toArray n2 hlong (by rw [List.size_toArray]; omega) (by omega)) ⟨e, e2, ?_⟩
 refine ⟨.non, _, I.lset (its' := its ++ its2) hH e (by simp) (r.append r2) ?_, rfl, q⟩;rw [List.length_append];omega
def Zpp : R2 := fun x y H Q => ∃ l b xs zs, x = .ref l /\ y = .ref b /\ H l = some (.lst xs) /\ H b = some (.lst zs) /\ xs.length + zs.length <= sizeLine /\ ∀ p, H p = none -> Q (.ref p) (upd H p (.lst (xs ++ zs)))
theorem op_cat : OpR X (binaryOp .Add) Zpp := by
 intro pins s σ H x y v u Q I rx ry h;obtain ⟨l, b, xs, zs, rfl, rfl, hH, hB, hz, q⟩ := h;cases rx;cases ry;obtain ⟨z, its, n, r, hl, e⟩ := I.lstM hH;obtain ⟨z2, its2, n2, r2, hl2, e2⟩ := I.lstM hB;refine PySem.P.add_list e e2 ?_ (by rw [List.size_toArray, List.size_toArray]; omega);have ea : its.toArray ++ its2.toArray = (its ++ its2).toArray := by simp
 rw [ea];exact ⟨.ref _, _, I.lnew (t' := s.toks) (r.append r2) (by rw [List.length_append]; omega), rfl, q _ I.fresh⟩
def Zp5 : R2 := fun x y H Q => ∃ l k xs, x = .ref l /\ y = .int k /\ H l = some (.lst xs) /\ -(2 ^ 63) <= k /\ k < 2 ^ 63 /\ xs.length * k.toNat <= sizeLine /\
 ∀ p, H p = none -> Q (.ref p) (upd H p (.lst (List.replicate k.toNat xs).flatten))
theorem Zlk {α : Type} (xs : List α) (k : Nat) : (List.replicate k xs).flatten.length = k * xs.length := by
 induction k with
 | zero => simp
 | succ k ih => rw [List.replicate_succ, List.flatten_cons, List.length_append, ih, Nat.succ_mul, Nat.add_comm]
theorem op_rep : OpR X (binaryOp .Mult) Zp5 := by
 intro pins s σ H x y v u Q I rx ry h;obtain ⟨l, k, xs, rfl, rfl, hH, h1, h2, hz, q⟩ := h;cases rx;obtain ⟨t, rfl⟩ := ry;obtain ⟨z, its, n, r, hl, e⟩ := I.lstM hH;have hlen : its.toArray.size * k.toNat <= sizeLine := by rw [List.size_toArray, <- hl]; exact hz
 have hcap : ¬ its.toArray.size * k.toNat > (2 ^ 63 - 1) / 8 := by
  have : (sizeLine : Nat) <= (2 ^ 63 - 1) / 8 := by decide
  omega
 have hfit : ¬ (!Builtin.List.listFitsIndex k) = true := by
  rw [fitsIndex_both h1 h2];exact Bool.false_ne_true
 have hlong : ¬ Builtin.List.listTooLong (its.toArray.size * k.toNat) = true := by
  rw [Zgx hlen];exact Bool.false_ne_true
 have hnew : List.foldl (fun x1 x2 => x1 ++ x2) #[] (List.replicate (if its.toArray.isEmpty = true then 0 else k.toNat) its.toArray) = (List.replicate k.toNat its).flatten.toArray := by
  have f0 : ∀ m : Nat, List.foldl (fun x1 x2 => x1 ++ x2) #[] (List.replicate m its.toArray) = (List.replicate m its).flatten.toArray := fun m => by
   have := Zfl its m [];rw [List.nil_append] at this;exact this
  rw [f0];cases its with
  | nil => simp
  | cons a r' => rw [if_neg (by simp)]
 refine wpAny_binaryOp_repeat_ref (T := "list") (U := "int") (by decide) ⟨_, e, rfl⟩ (fun s' => typeIs_int s' k t) noFill_list_mul F.fills_int_mul F.slot_int_rmul repeat_list F.slot_int_index.lookup
  (call_meets F.slot_int_rmul (typeIs_int s k t) F.entry_int_rmul (F.args_int_rmul_2 _ _) (int___rmul___int_list k t l its.toArray n)
   ⟨e, rfl, ⟨_, e, rfl⟩, call_meets F.slot_list_mul ⟨_, e, rfl⟩ F.entry_list_mul (F.args_list_mul_2 _ _) (AutoListH.list___mul___list_int_3 l its.toArray n k t hfit hcap hlong) ⟨e, ?_⟩⟩)
 rw [hnew];exact ⟨.ref _, _, I.lnew (t' := s.toks) (r.rep k.toNat) (by rw [Zlk, Nat.mul_comm]; exact hz), rfl, q _ I.fresh⟩
end
section
variable {prog : Program} {w : World} {A : Around} {E : Value -> Shared -> Prop} {s : Shared}
end
section
variable {X : Cx}
end
end L2
namespace Att
open PySem PySem.W PySem.Calls PyProof.Rows
theorem Zee {P : Params} {h : Heap} : ∀ (ns : List Int) (vs : List Value), WellAll P h vs (ns.map WData.int) -> IntsAre vs ns := by
 intro ns
 induction ns with
 | nil =>
  intro vs w;rw [List.map_nil] at w;cases w;exact .nil
 | cons n ns ih =>
  intro vs w;rw [List.map_cons] at w;cases w with
  | cons a b =>
   cases a;exact .cons _ _ (ih _ b)
theorem Zh5 {l : OpenLaw} {n : Nat} (hn : l.most = some n) {P : Params} {h : Heap} {args : List WData} {vals : List Value}
  (hpre : l.row.toRowW.claim.pre args = true) (hwl : WellAll P h vals args) :
  ∃ a vs ns, vals = [Value.ref a] /\ args = [WData.list (ns.map WData.int)] /\ h.get? a = some { cls := .type "list", data := .seq vs.toArray } /\ IntsAre vs ns /\ ns.length <= n := by
 have hsh : WShape.hasAll [] args [.list .int] = true := (pre_splitW hpre).1;have hc : l.pre.holds [] { args := args } = true := (pre_splitW hpre).2;obtain ⟨d, r, rfl, h1, h2⟩ := hasAllW_cons hsh;obtain rfl := hasAllW_nil h2;obtain ⟨xs, rfl, h3⟩ := hasW_list h1;obtain ⟨ns, rfl⟩ := items_int h3;have hlen : ns.length <= n := by
  unfold OpenLaw.pre at hc;have h4 : (WTm.not (.lt (.lit (.int (n : Int))) (.len (.arg 0)))).holds [] { args := [.list (ns.map .int)] } = true := by
   have h4 := (holds_andW hc).1;rw [hn] at h4;exact h4
  have h5 := condW_of h4 (w_not (w_lt w_lit (w_len_list (w_arg rfl))));rw [List.length_map] at h5;refine Nat.le_of_not_lt fun q => ?_
  have q' : (n : Int) < ((ns.length : Nat) : Int) := by omega
  first
   | (rw [decide_eq_true q'] at h5; exact absurd h5 (by decide))
   | (simp at h5; omega)
 cases hwl with
 | cons w1 w2 =>
  cases w2;cases w1 with
  | list ho hall => exact ⟨_, _, ns, rfl, rfl, ho, Zee ns _ hall, hlen⟩
theorem Zie (l : OpenLaw) (args : List WData) : l.row.toRowW.claim.post args (.bool true) args = true :=
 postW_of (r := l.row.toRowW) (X := (true == true))
  (show WShape.has [] (.bool true) .bool = true by first | rfl | decide | simp [WShape.has, WShape.arms, WShape.armsAll])
  (show (WTm.eq .res (.lit (.bool true))).value [] { args := args, res := some (.bool true), after := args } = some (.bool (true == true)) from w_eq_bool (w_res rfl) w_lit) rfl
theorem attach_call {l : OpenLaw} {n : Nat} {q : Program} {loose : List Str} {XP : (Str -> Option Value) -> Heap -> Prop} {YP : World -> Heap -> Prop} {d : DefRec}
  (hn : l.most = some n) (hdf : d.params.defaults = [])
  (call : ∀ (w : World) (s₀ s₁ : Shared) (mg mb : Str -> Option Value) (fa : Addr) (o : Obj) (pm cd doc : Value) (a : Addr) (vs : List Value) (ns : List Int),
   Ground q loose [] XP w s₀ mg mb s₁.heap -> YP w s₁.heap ->
   s₁.heap.get? fa = some o -> o.data = .func (docDef d.name d.params d.body d.scope pm cd doc) -> s₁.heap.CodeRec cd d.name -> mg d.name = some (.ref fa) ->
   s₁.heap.get? a = some { cls := .type "list", data := .seq vs.toArray } -> IntsAre vs ns -> ns.length <= n -> s₁.gens = #[] ->
   codeAny (model l.prog w) callerA (.call (.ref fa) ⟨[.ref a], []⟩) (fun r s' => r = .ok (.ret (.bool true)) /\ OldK s₁.heap s'.heap /\ s'.os = s₁.os /\ AllBare s'.gens) s₁) :
  WalkO q loose XP YP l.row.toRowW d [] (fun f vs => PySem.call f vs) := by
 intro w s₀ s₁ mg mb G Y fa o pm cd doc dV kV ho hd hcd hD hmg hg args vals as hpre hlay hrd hwl hlo;obtain rfl : dV = .none := Dflts.none hD hdf;obtain rfl : kV = .none := Dflts.noKw hD;obtain ⟨a, vs, ns, rfl, rfl, hobj, hints, hlen⟩ := Zh5 hn hpre hwl;refine enter_call (codeAny_mono (call w s₀ s₁ mg mb fa o pm cd doc a vs ns G Y ho (fd_plain hd) hcd hmg hobj hints hlen hg) fun r s' hq => ?_);obtain ⟨rfl, h2, h3, h4⟩ := hq;exact ⟨.inl ⟨.bool true, .bool true, [], rfl, fun _ => rfl, .bool true, Zie l _, fun _ => ⟨List.Pairwise.nil, fun _ hm => (nomatch hm)⟩⟩, h2, h3, h4⟩
section
variable {prog : Program} {w : World} {A : Around} {E : Value -> Shared -> Prop} {s : Shared} {K : Frag}
def ledger (h : Heap) (L d : Addr) : List (Addr × Obj) := (List.range h.objs.size).filterMap fun a => if a = L \/ a = d then none else (h.get? a).map fun o => (a, o)
end
end Att
namespace L2
open PySem PySem.Spec PyProof.Rows
theorem Ze4 : ∀ {vs : List Value} {ns : List Int}, IntsAre vs ns -> Vals (ns.map V.int) vs
 | _, _, .nil => .nil
 | _, _, .cons n t h => .cons ⟨t, rfl⟩ (Ze4 h)
end L2
namespace L2
open PySem PySem.Spec PyProof.Rows
abbrev KOf {K : PySem.W.Frag} {h : Heap} (_ : K.In h) : PySem.W.Frag := K
end L2
namespace L2
open PySem PySem.Spec PyProof.Rows
def Ziv (s : Stmt) (j : Nat) : Stmt := match s with
 | .ClassDef _ _ _ body _ _ _ _ _ _ _ => body.getD j (.Pass ⟨0, 0, 0, 0⟩)
 | _ => .Pass ⟨0, 0, 0, 0⟩
def Zaq (s : Stmt) : Arguments := match s with
 | .FunctionDef _ a _ _ _ _ _ _ _ _ => a
 | _ => { posonlyargs := [], args := [], vararg := none, kwonlyargs := [], kw_defaults := [], kwarg := none, defaults := [] }
def defBody (s : Stmt) : List Stmt := match s with
 | .FunctionDef _ _ b _ _ _ _ _ _ _ => b
 | _ => []
def defScope (s : Stmt) : Scope := match s with
 | .FunctionDef _ _ _ _ _ _ sc _ _ _ => sc
 | _ => { kind := .function, names := [], isGenerator := false, isCoroutine := false }
abbrev CX0 : CXT := fun _ _ _ _ _ _ => False
abbrev E0 : XK := fun _ _ _ => False
theorem Znc {X : Cx} : Zem CX0 X E0 := fun _ _ _ _ _ _ _ h => h.elim
structure Fun (K : PySem.W.Frag) (x qual : Str) (st : Stmt) (f : Addr) (fd : FuncData) : Prop where
 ex : ∃ (oc : Value) (od : Option Addr) (kV doc pm : Value) (an : Option Addr) (cdv ct : Value) (osl : Array (Option Value)),
  fd = PySem.W.fnOf x qual (Zaq st) (defBody st) (defScope st) .none kV doc pm an cdv ct /\ K.lookup f = some ⟨oc, od, .func fd, osl⟩ /\ PySem.W.codeIn K cdv qual = true
 kp : PySem.W.keepIn K (.ref f) = true
section
variable {P : Program} {w : World} {K : PySem.W.Frag} {mg : Str -> Option Value} {base : Heap}
theorem Fun.ok {x qual : Str} {st : Stmt} {f : Addr} {fd : FuncData} {N ps : List Str} {k : Nat} {sp : Sp} (F : Fun K x qual st f fd) (S : Zat N ps (defScope st)) (len : ∀ vs H Q E, sp vs H Q E -> vs.length = ps.length)
  (hbody : ∀ (cdv : Value) (A : Around) (outer : List Env) (s : Shared) (H : Hp) (vs : List V) (Q : VK) (E : XK), Room k (A.deeper (envOfC qual (defScope st) s.heap.objs.size f cdv)) -> sp vs H Q E ->
   ∃ t, PSs (cxOf CX0 P w K mg base N qual (defScope st) f cdv A outer s H E).nox (defBody st) t /\ t { nx := fun _ H' => Q .non H', rt := Q } (start N vs) H) : Zcc P w K mg base CX0 (k + 1) f fd ps sp := by
 obtain ⟨oc, od, kV, doc, pm, an, cdv, ct, osl, rfl, lk, hcd⟩ := F.ex;refine Znu lk hcd S len fun A outer s H vs Q E hr hsp => ?_
 obtain ⟨t, h, q⟩ := hbody cdv A outer s H vs Q E hr hsp;exact ⟨t, h.nox, q⟩
theorem Fun.binds {x qual : Str} {st : Stmt} {f : Addr} {fd : FuncData} {ps : List Str} (F : Fun K x qual st f fd)
  (h : ∀ (kV doc pm : Value) (an : Option Addr) (cdv ct : Value) (us : List Value), us.length = ps.length -> bindArgs (PySem.W.fnOf x qual (Zaq st) (defBody st) (defScope st) .none kV doc pm an cdv ct) ⟨us, []⟩ = pure (ps.zip us)) : Binds K fd ps [] := by
 obtain ⟨oc, od, kV, doc, pm, an, cdv, ct, osl, rfl, lk, hcd⟩ := F.ex;exact .all (h kV doc pm an cdv ct)
theorem Zbd {x qual : Str} {st : Stmt} {f : Addr} {oc : Value} {od an : Option Addr} {osl : Array (Option Value)} {kV doc pm cdv ct : Value} (l : K.lookup f = some ⟨oc, od, .func (PySem.W.fnOf x qual (Zaq st) (defBody st) (defScope st) .none kV doc pm an cdv ct), osl⟩)
  (c : PySem.W.codeIn K cdv qual = true) (k : PySem.W.keepIn K (.ref f) = true) : Fun K x qual st f (PySem.W.fnOf x qual (Zaq st) (defBody st) (defScope st) .none kV doc pm an cdv ct) := ⟨⟨oc, od, kV, doc, pm, an, cdv, ct, osl, rfl, l, c⟩, k⟩
end
section
variable {X : Cx}
theorem pv (i : Nat) {x : Str} {pos : Pos} (hN : X.N[i]? = some x := by rfl) (hv : Vis X.env.scope x := by first | exact Or.inl rfl | exact Or.inr (Or.inl rfl) | exact Or.inr (Or.inr rfl)) (hd : (x == ("__debug__" : Str)) = false := by decide)
  (hcd : (x == ("__classdict__" : Str)) = false := by decide) : PE X (.Name x pos) (Zn5 i) := Zki hN hv hd hcd
end
theorem Zjw {c A B : Prop} [Decidable c] (h1 : c -> A) (h2 : ¬ c -> B) : if c then A else B := by
 by_cases h : c
 ·rw [if_pos h];exact h1 h
 ·rw [if_neg h];exact h2 h
def Same (H H' : Hp) : Prop := ∀ b o, H b = some o -> H' b = some o
theorem Same.refl (H : Hp) : Same H H := fun _ _ h => h
theorem Same.trans {H H1 H2 : Hp} (a : Same H H1) (b : Same H1 H2) : Same H H2 := fun c o h => b c o (a c o h)
theorem Same.free {H H' : Hp} (e : Same H H') {l : Addr} (h : H' l = Option.none) : H l = Option.none := by
 cases q : H l with
 | none => rfl
 | some o =>
  rw [e l o q] at h;cases h
theorem Same.seq {K : PySem.W.Frag} {H H' : Hp} {a : Addr} {xs : List V} (e : Same H H') (h : SqL K H a xs) : SqL K H' a xs := by
 rcases h with (h | ⟨o, h⟩) | h
 ·exact .inl (.inl (e _ _ h))
 ·exact .inl (.inr ⟨o, e _ _ h⟩)
 ·exact .inr h
end L2
set_option Elab.async false
set_option linter.all false
set_option maxRecDepth 100000
set_option maxHeartbeats 4000000
namespace L2
open PySem PySem.Spec PyProof.Rows
theorem Zgk {env : Env} : ∀ (names : List (Str × NameKind)) (cs : List (Str × Addr)), (∀ x, (x, NameKind.free) ∈ names -> ∃ c, env.cells.lookup x = some c) ->
  (∀ x c, cs.lookup x = some c -> env.cells.lookup x = some c) ->
  ∃ cl, (forIn names cs fun (p : Str × NameKind) (r : List (Str × Addr)) => (match p with | (name, kind) => (if (kind == NameKind.free) = true then (do let a <- cellOf env name; pure (ForInStep.yield ((name, a) :: r))) else pure (ForInStep.yield r)) : Sem (ForInStep (List (Str × Addr))))) = pure cl /\
   (∀ x c, cl.lookup x = some c -> env.cells.lookup x = some c) /\ (∀ x, (x, NameKind.free) ∈ names -> ∃ c, cl.lookup x = some c) /\ ∀ x, (∃ c, cs.lookup x = some c) -> ∃ c, cl.lookup x = some c
 | [], cs, _, h2 => ⟨cs, rfl, h2, (fun _ h => nomatch h), fun _ h => h⟩
 | (n, k) :: r, cs, h1, h2 => by
  by_cases hk : k = NameKind.free
  ·subst hk;obtain ⟨c, hc⟩ := h1 n List.mem_cons_self;obtain ⟨cl, e, a, b, d⟩ := Zgk r ((n, c) :: cs) (fun x hx => h1 x (List.mem_cons_of_mem _ hx)) (fun x c' hx => by
    rw [List.lookup_cons] at hx;cases q : x == n with
    | true => rw [q] at hx; cases hx; rw [eq_of_beq q]; exact hc
    | false => rw [q] at hx; exact h2 x c' hx)
   refine ⟨cl, ?_, a, fun x hx => ?_, fun x ⟨c', hx⟩ => ?_⟩
   ·rw [List.forIn_cons];have : cellOf env n = pure c := by unfold cellOf; rw [hc]
    simp only [this, beq_self_eq_true, if_true];exact e
   ·rcases List.mem_cons.mp hx with z | z
    ·cases z; exact d _ ⟨c, by simp [List.lookup_cons]⟩
    ·exact b x z
   ·refine d x ?_;rw [List.lookup_cons];cases q : x == n with
    | true => exact ⟨c, rfl⟩
    | false => exact ⟨c', hx⟩
  ·obtain ⟨cl, e, a, b, d⟩ := Zgk r cs (fun x hx => h1 x (List.mem_cons_of_mem _ hx)) h2;have hb : (k == NameKind.free) = false := by simpa using hk
   refine ⟨cl, ?_, a, fun x hx => ?_, d⟩
   ·rw [List.forIn_cons];simp only [hb, Bool.false_eq_true, if_false];exact e
   ·rcases List.mem_cons.mp hx with z | z
    ·cases z; exact absurd rfl hk
    ·exact b x z
theorem Zgj {scope : Scope} {env : Env} (h : ∀ x, (x, NameKind.free) ∈ scope.names -> ∃ c, env.cells.lookup x = some c) :
  ∃ cl, closureFor scope env = pure cl /\ (∀ x c, cl.lookup x = some c -> env.cells.lookup x = some c) /\ ∀ x, (x, NameKind.free) ∈ scope.names -> ∃ c, cl.lookup x = some c := by
 obtain ⟨cl, e, a, b, _⟩ := Zgk scope.names [] h (fun x c z => nomatch z);refine ⟨cl, ?_, a, b⟩;unfold closureFor;show (forIn scope.names [] _ >>= fun cs => pure cs) = pure cl;rw [show (forIn scope.names ([] : List (Str × Addr)) _ : Sem _) = pure cl from e];rfl
theorem Zcz {env : Env} {x : Str} : ∀ {names : List (Str × NameKind)} {k : NameKind}, (names.map fun (n, k) => if (k == NameKind.free && env.scope.kind == .function && env.kindOf n == some .cell) then (n, NameKind.cell) else (n, k)).lookup x = some k ->
  (x, k) ∈ names \/ (k = NameKind.cell /\ (x, NameKind.free) ∈ names)
 | [], _, h => by simp at h
 | (n, k') :: r, k, h => by
  have ih := @Zcz env x r k;have h' : List.lookup x ((if (k' == NameKind.free && env.scope.kind == .function && env.kindOf n == some .cell) = true then (n, NameKind.cell) else (n, k')) :: (r.map fun (n, k) => if (k == NameKind.free && env.scope.kind == .function && env.kindOf n == some .cell) then (n, NameKind.cell) else (n, k))) = some k := h
  by_cases hc : (k' == NameKind.free && env.scope.kind == .function && env.kindOf n == some .cell) = true
  ·rw [if_pos hc, List.lookup_cons] at h';cases q : x == n with
   | true =>
    rw [q] at h';have e : NameKind.cell = k := Option.some.inj h';have ek : k' = NameKind.free := by
     have := (Bool.and_eq_true _ _ ▸ (Bool.and_eq_true _ _ ▸ hc).1).1;exact eq_of_beq this
    have ex : x = n := eq_of_beq q;subst ek ex;exact .inr ⟨e.symm, List.mem_cons_self⟩
   | false =>
    rw [q] at h';rcases ih h' with z | ⟨z1, z2⟩
    ·exact .inl (List.mem_cons_of_mem _ z)
    ·exact .inr ⟨z1, List.mem_cons_of_mem _ z2⟩
  ·rw [if_neg hc, List.lookup_cons] at h';cases q : x == n with
   | true =>
    rw [q] at h';have e : k' = k := Option.some.inj h';have ex : x = n := eq_of_beq q;subst e ex;exact .inl List.mem_cons_self
   | false =>
    rw [q] at h';rcases ih h' with z | ⟨z1, z2⟩
    ·exact .inl (List.mem_cons_of_mem _ z)
    ·exact .inr ⟨z1, List.mem_cons_of_mem _ z2⟩
theorem Zfn {prog : Program} {w : World} {A : Around} {R : Result -> Shared -> Prop} {s : Shared} {elt target iter : Expr} {ifs : List Expr} {scope : Scope} {pos : Pos} {it acc : Value} {env : Env} (I : Nat -> Shared -> Prop)
  (turn : ∀ n s, I n s -> wpAny (model prog w) A (pyNext it) (fun r s₁ => match r with
   | none => R (.ok .next) s₁
   | some v => wpAny (model prog w) A (letOwnedTupleGo target it v) (fun _ s₀ => wpAny (model prog w) A (assign target env v) (fun _ s₂ =>
     wpAny (model prog w) A (forIn ifs true fun c r => if r = true then do let ok <- isTrue c env (eval c env); pure (ForInStep.yield ok) else pure (ForInStep.yield r)) (fun ok s₃ =>
      if ok = true then wpAny (model prog w) A (eval elt env) (fun x s₄ =>
       wpAny (model prog w) A (call (.builtin "list.append") [acc, x]) (fun _ s₅ => ∃ m, m < n /\ I m s₅) (fun _ _ => False) s₄) (fun _ _ => False) s₃
      else ∃ m, m < n /\ I m s₃) (fun _ _ => False) s₂) (fun _ _ => False) s₀) (fun _ _ => False) s₁) (fun _ _ => False) s)
  (n : Nat) (h : I n s) :
  codeAny (model prog w) A (.compLoop (.ListComp elt [⟨target, iter, ifs, 0⟩] scope pos) 0 it acc env) R s := by
 refine codeAny_loop rfl I (fun n s hI => ?_) n h;show wpAny _ A ((compTurn (.ListComp elt [⟨target, iter, ifs, 0⟩] scope pos) 0 it acc env).onRaise (fun x => do noteFrame x env; theTreesLotGoes x)) _ _ s;refine wpAny_noted (wpAny_noRaise ?_);rw [compTurn_list];refine wpAny_bind (wpAny_standAt (wpAny_bind (wpAny_mono (turn n s hI) (fun r s₁ h₁ => ?_) fun _ _ h' => h')));cases r with
 | none => exact wpAny_pure h₁
 | some v =>
  refine wpAny_bind (wpAny_mono h₁ (fun _ s₀ h₀ => ?_) fun _ _ h' => h');refine wpAny_bind (wpAny_mono h₀ (fun _ s₂ h₂ => wpAny_bind (wpAny_mono h₂ (fun ok s₃ h₃ => ?_) fun _ _ h' => h')) fun _ _ h' => h');cases ok with
  | false => exact wpAny_pure ⟨rfl, h₃⟩
  | true =>
   exact wpAny_bind (wpAny_bind (wpAny_mono h₃ (fun x s₄ h₄ => wpAny_bind (wpAny_mono h₄ (fun _ s₅ h₅ => wpAny_pure (wpAny_pure ⟨rfl, h₅⟩)) fun _ _ h' => h')) fun _ _ h' => h'))
def cxComp (X : Cx) (N' : List Str) (scope : Scope) (cl : List (Str × Addr)) (C : Addr) (s : Shared) (H : Hp) (ex : List Addr) : Cx :=
 { X with N := N', s₀ := s, H₀ := H, env := compEnvC scope cl C X.env, outer := X.stack, ex := ex, fn := fun _ => false, pn := [], xe := fun _ _ => False }
def capSt (caps : List (Option Nat)) (σ : St) : St := caps.map fun o => o.bind fun j => (σ[j]?).join
def Zj7 (N N' : List Str) (scope : Scope) (caps : List (Option Nat)) : Prop :=
 caps.length = N'.length /\ ∀ (i j : Nat) (x : Str), N'[i]? = some x -> caps[i]? = some (some j) -> N[j]? = some x /\ (x, NameKind.free) ∈ scope.names /\ ∀ k, (x, k) ∈ scope.names -> k = NameKind.free
structure Zco (X : Cx) (N' : List Str) (scope : Scope) (caps : List (Option Nat)) : Prop where
 kind : scope.kind = .function
 nocell : ∀ y ∈ scope.names, y.2 ≠ .cell
 locs : ∀ y ∈ scope.names, y.2 = .local -> scope.names.lookup y.1 = some .local
 cap : Zj7 X.N N' scope caps
 vis : ∀ x, (x, NameKind.free) ∈ scope.names -> X.env.kindOf x = some .cell \/ X.env.kindOf x = some .free
def Zpf : TT := fun _ H Q => Q true H
def Zen (caps : List (Option Nat)) (g : TG) (tc : TT) (te : TE) (σ : St) (Q : VK) (J : It) (H1 : Hp) : Prop :=
 ∃ W : Nat -> Nat -> List V -> St -> Hp -> Prop, (∃ m, W 0 m [] (capSt caps σ) H1) /\ ∀ i m ys σ' H, W i m ys σ' H ->
  (J.stop i H /\ ys.length <= sizeLine /\ ∀ p, H p = none -> Q (.ref p) (upd H p (.lst ys))) \/
  (J.go i H /\ ys.length < sizeLine /\ ∃ N : List V -> St -> Hp -> Prop, (∀ ys σ H, N ys σ H -> ∃ m', m' < m /\ W (i + 1) m' ys σ H) /\ ∀ x H', J.yld i H x H' -> g x σ' H' fun σ2 H2 => tc σ2 H2 fun b H3 =>
   if b = true then te σ2 H3 fun y H4 => N (ys ++ [y]) σ2 H4 else N ys σ2 H3)
def Zk3 (caps : List (Option Nat)) (wi : TI) (g : TG) (tc : TT) (te : TE) : TE := fun σ H Q => wi σ H fun J H1 => Zen caps g tc te σ Q J H1
def PIfs (X : Cx) (ifs : List Expr) (t : TT) : Prop :=
 ∀ (pins : List (Addr × Obj)) (s : Shared) (σ : St) (H : Hp) (Q : Bool -> Hp -> Prop), Inv X pins σ H s -> t σ H Q ->
  wpAny (model X.prog X.w) X.A (forIn ifs true fun c r => if r = true then do let ok <- isTrue c X.env (eval c X.env); pure (ForInStep.yield ok) else pure (ForInStep.yield r)) (TP X pins σ Q) X.xe s
theorem Zf5 {X : Cx} : PIfs X [] Zpf := fun _ _ _ H _ I h => wpAny_tests_nil ⟨H, I, h⟩
theorem Zif {X : Cx} {c : Expr} {t : TT} (h : PT X c t) : PIfs X [c] t := fun pins s σ H Q I q => wpAny_tests_one (h pins s σ H Q I q)
section
variable {X : Cx} {elt tg iter : Expr} {ifs : List Expr} {scope : Scope} {pos : Pos} {N' : List Str} {caps : List (Option Nat)} {wi : TI} {g : TG} {tc : TT} {te : TE}
def lstO (its : List Value) (n : Nat) : Obj := { cls := .type "list", data := .seq its.toArray n }
theorem Zg1 {pins : List (Addr × Obj)} {s2 : Shared} {σ : St} {H2 : Hp} {J : It} {it : Addr} {fp : List Addr} {tn : Nat -> Heap -> Prop} {cl : List (Str × Addr)} {Q : VK} {RR : Value -> Addr -> Result -> Shared -> Prop}
  (S : Zco X N' scope caps) (hc : X.calm = true)
  (hcl1 : ∀ x c, cl.lookup x = some c -> X.env.cells.lookup x = some c) (hcl2 : ∀ x, (x, NameKind.free) ∈ scope.names -> ∃ c, cl.lookup x = some c)
  (hg : ∀ cl C s H ex, PG (cxComp X N' scope cl C s H ex) tg g) (ht : ∀ cl C s H ex, PIfs (cxComp X N' scope cl C s H ex) ifs tc) (he : ∀ cl C s H ex, PE (cxComp X N' scope cl C s H ex) elt te)
  (I : Inv X pins σ H2 s2) (T : Znw X.prog X.w X.K tg J fp it tn) (st : tn 0 s2.heap) (f2 : ∀ b ∈ fp, FpOk X pins H2 b)
  (W : Nat -> Nat -> List V -> St -> Hp -> Prop) (w0 : ∃ m, W 0 m [] (capSt caps σ) H2)
  (turn : ∀ i m ys σ' H, W i m ys σ' H -> (J.stop i H /\ ys.length <= sizeLine /\ ∀ p, H p = none -> Q (.ref p) (upd H p (.lst ys))) \/
   (J.go i H /\ ys.length < sizeLine /\ ∃ N : List V -> St -> Hp -> Prop, (∀ ys σ H, N ys σ H -> ∃ m', m' < m /\ W (i + 1) m' ys σ H) /\ ∀ x H', J.yld i H x H' -> g x σ' H' fun σ2 H2 => tc σ2 H2 fun b H3 =>
    if b = true then te σ2 H3 fun y H4 => N (ys ++ [y]) σ2 H4 else N ys σ2 H3))
  (hRR : ∀ D C oC m s' H', Inv X (pins ++ [(C, oC)]) σ H' s' -> s'.heap.Ns C m -> Q (.ref D) H' -> X.s₀.heap.objs.size <= C -> (∀ x c, X.env.cells.lookup x = some c -> c ≠ C) -> (∀ p ∈ X.pn ++ pins, p.1 ≠ C) -> s'.heap.get? C = some oC ->
   RR (.ref D) C (.ok .next) s') {E : Value -> Shared -> Prop} :
  wpAny (model X.prog X.w) X.A (newList []) (fun acc s₃ => wpAny (model X.prog X.w) X.A (newFunctionEnv scope X.env.globals cl [] X.env.qual none .none (some X.env)) (fun cenv s₄ =>
   codeAny (model X.prog X.w) X.A (.compStart (.ListComp elt [⟨tg, iter, ifs, 0⟩] scope pos) 0 (.ref it) acc { cenv with scope := relabel scope X.env }) (RR acc cenv.locals) s₄) E s₃) E s2 := by
 refine wpAny_newObj_type (wpAny_newFunctionEnv S.nocell (by intro y hy; simp at hy) (fun h₁ hns₁ hsb₁ => ?_) S.kind);dsimp only at hns₁ hsb₁ ⊢;generalize hH2 : s2.heap.push { cls := .type "list", dict := none, data := .seq ([] : List Value).toArray } = HP at hns₁ hsb₁ ⊢;have hC : HP.objs.size = s2.heap.objs.size + 1 := by rw [<- hH2, Heap.size_push]
 generalize hCC : HP.objs.size = C at hns₁ hsb₁ hC ⊢;have hDC : s2.heap.objs.size ≠ C := by rw [hC]; exact Nat.ne_of_lt (Nat.lt_succ_self _)
 have belowC : ∀ b, b < s2.heap.objs.size -> b ≠ C := fun b hb => by rw [hC]; exact Nat.ne_of_lt (Nat.lt_succ_of_lt hb)
 have old : ∀ b o, s2.heap.get? b = some o -> h₁.get? b = some o := fun b o e => hsb₁.extBut b o (belowC b (Heap.lt_size e)) (Heap.get?_push_of_some _ (hH2 ▸ Heap.get?_push_of_some _ e))
 have hacc : h₁.get? s2.heap.objs.size = some (lstO [] 0) := hsb₁.extBut _ _ hDC (Heap.get?_push_of_some _ (hH2 ▸ Heap.get?_push_size _ rfl));have fpLt : ∀ b ∈ fp, b < s2.heap.objs.size := fun b hb => by obtain ⟨o, e, _⟩ := T.obj _ _ st b hb; exact Heap.lt_size e
 have st₁ : tn 0 h₁ := T.keep _ _ _ st fun b _ o e => old b o e
 have sz : X.s₀.heap.objs.size <= s2.heap.objs.size := I.sz;have cellLt : ∀ x c, X.env.cells.lookup x = some c -> c < s2.heap.objs.size := fun x c e => by obtain ⟨v, q⟩ := I.cell x c e; exact q.lt
 have okX : (cxComp X N' scope cl C s2 H2 fp).Ok := by
  refine ⟨I.ok.mod, S.kind, I.ok.glob, I.ok.blt, by show s2.heap.objs.size <= C; rw [hC]; exact Nat.le_succ _, fun x y c a b => I.ok.inj x y c (hcl1 x c a) (hcl1 y c b), fun x hx => ?_, (fun x c z => by cases z), I.ok.hd, I.ok.frames, .inl rfl,
   fun b hb => ⟨belowC b (fpLt b hb), fun x c e => (f2 b hb).2.2.2.2.1 x c (hcl1 x c e)⟩, I.bs, Nat.le_trans I.ok.bsz sz, fun b o e hb => ?_, fun b hb z => ?_, I.stack, I.stkFree⟩
  ·have key : ∀ k, (k = NameKind.cell \/ k = NameKind.free) -> (relabel scope X.env).names.lookup x = some k -> ∃ c, cl.lookup x = some c := fun k hk hx => by
    rcases Zcz hx with z | ⟨_, z⟩
    ·rcases hk with rfl | rfl
     ·exact absurd rfl (S.nocell _ z)
     ·exact hcl2 x z
    ·exact hcl2 x z
   rcases hx with hx | hx
   ·exact key _ (.inl rfl) hx
   ·exact key _ (.inr rfl) hx
  ·rcases (f2 b hb).2.2.2.1 with z | z
   ·exact I.ok.noex b o e z
   ·exact absurd (Nat.lt_of_lt_of_le (Heap.lt_size (I.ok.bs b o e).1) z) (Nat.lt_irrefl _)
  ·rcases List.mem_cons.mp (I.stkSub b z) with y | y
   ·exact (f2 b hb).2.1 y
   ·exact (f2 b hb).2.2.1 y
 have freshC : ∀ b, s2.heap.objs.size <= b -> H2 b = none := fun b hb => I.hok.fresh hb
 have capI : Inv (cxComp X N' scope cl C s2 H2 fp) [(s2.heap.objs.size, lstO [] 0)] (capSt caps σ) H2 { s2 with heap := h₁, toks := s2.toks + ([] : List (Str × Value)).length } := by
  refine ⟨okX, rfl, I.bare, Un.kept old, ⟨_, hns₁, fun i x v e1 e2 e3 => ?_⟩, fun x c e => ?_, freshC C (by rw [hC]; exact Nat.le_succ _), fun x c e => I.freeC x c (hcl1 x c e), fun p hp => ?_, I.hok.kept old, ?_⟩
  ·have e2' : (caps[i]?).map (fun o => o.bind fun j => (σ[j]?).join) = some (some v) := by
    unfold capSt at e2; rw [List.getElem?_map] at e2; exact e2
   cases q : caps[i]? with
   | none => rw [q] at e2'; cases e2'
   | some o =>
    rw [q] at e2';cases o with
    | none => cases e2'
    | some j =>
     have hv : (σ[j]?).join = some v := Option.some.inj e2';obtain ⟨hN, hfr, honly⟩ := S.cap.2 i j x e1 q;have hσ : σ[j]? = some (some v) := by
      cases r : σ[j]? with
      | none => rw [r] at hv; cases hv
      | some o => rw [r] at hv; rw [<- hv]; rfl
     obtain ⟨m, hn, hl⟩ := I.loc;have hkx := S.vis x hfr;obtain ⟨u, ru, lk⟩ := hl j x v hN hσ (by rcases hkx with z | z; exact .inr (.inl z); exact .inr (.inr z));refine ⟨u, ru, .inr ?_⟩;obtain ⟨c, hc'⟩ := hcl2 x hfr;have hcx := hcl1 x c hc';rcases lk with ⟨z, _⟩ | ⟨_, c', hc2, hcell⟩
     ·rcases hkx with y | y <;> rw [y] at z <;> cases z
     ·rw [hcx] at hc2; cases hc2;have hcell' : h₁.IsCell c (some u) := by
       obtain ⟨oc, q1, q2⟩ := hcell;exact ⟨oc, old c oc q1, q2⟩
      refine ⟨?_, c, hc', hcell'⟩;rcases e3 with z | z | z
      ·rcases Zcz z with y | ⟨y, _⟩
       ·have := honly _ y; cases this
       ·cases y
      ·exact .inl z
      ·exact .inr z
  ·obtain ⟨v, oc, q1, q2⟩ := I.cell x c (hcl1 x c e);exact ⟨v, oc, old c oc q1, q2⟩
  ·have e : p = (s2.heap.objs.size, lstO [] 0) := by simpa [cxComp] using hp
   subst e;refine ⟨hacc, freshC _ (Nat.le_refl _), hDC, fun z => ?_, fun v z => by cases z⟩;exact absurd (show s2.heap.objs.size < s2.heap.objs.size from by
    rcases List.mem_cons.mp (I.stkSub _ z) with y | y
    ·exact absurd (I.lt) (by rw [<- y]; exact Nat.lt_irrefl _)
    ·exact absurd y (I.nofs (Nat.le_refl _))) (Nat.lt_irrefl _)
  ·unfold capSt; rw [List.length_map]; exact S.cap.1
 generalize hX' : cxComp X N' scope cl C s2 H2 fp = X' at okX capI;have ePr : X'.prog = X.prog := by rw [<- hX']; rfl
 have eW : X'.w = X.w := by rw [<- hX']; rfl
 have eK : X'.K = X.K := by rw [<- hX']; rfl
 have eA : X'.A = X.A := by rw [<- hX']; rfl
 have eEnv : X'.env = compEnvC scope cl C X.env := by rw [<- hX']; rfl
 have eXe : X'.xe = fun _ _ => False := by rw [<- hX']; rfl
 have eCalm : X'.calm = true := by rw [<- hX']; exact hc
 have eLoc : X'.env.locals = C := by rw [eEnv]; rfl
 have eS0 : X'.s₀ = s2 := by rw [<- hX']; rfl
 have eEx : X'.ex = fp := by rw [<- hX']; rfl
 have eFs : X'.fs = frs X.stack := by rw [<- hX']; rfl
 have eCells : X'.env.cells = cl := by rw [eEnv]; rfl
 have ePn : X'.pn = [] := by rw [<- hX']; rfl
 have eH0 : X'.H₀ = H2 := by rw [<- hX']; rfl
 have hgX : PG X' tg g := hX' ▸ hg cl C s2 H2 fp;have htX : PIfs X' ifs tc := hX' ▸ ht cl C s2 H2 fp;have heX : PE X' elt te := hX' ▸ he cl C s2 H2 fp;obtain ⟨m0, w0⟩ := w0;have nDfs : s2.heap.objs.size ∉ X'.fs := fun z => by
  rw [eFs] at z;rcases List.mem_cons.mp (I.stkSub _ z) with y | y
  ·exact absurd (I.lt) (by rw [<- y]; exact Nat.lt_irrefl _)
  ·exact absurd y (I.nofs (Nat.le_refl _))
 have fpX : ∀ {H' : Hp} {its : List Value} {n : Nat}, (∀ b ∈ fp, H' b = none) -> ∀ b ∈ fp, FpOk X' [(s2.heap.objs.size, lstO its n)] H' b := fun {H' its n} hn b hb => by
  refine ⟨hn b hb, by rw [eLoc]; exact belowC b (fpLt b hb), fun z => ?_, .inl (by rw [eEx]; exact hb), fun x c e => ?_, fun p hp z => ?_⟩
  ·rw [eFs] at z;rcases List.mem_cons.mp (I.stkSub b z) with y | y
   ·exact (f2 b hb).2.1 y
   ·exact (f2 b hb).2.2.1 y
  ·rw [eCells] at e; exact (f2 b hb).2.2.2.2.1 x c (hcl1 x c e)
  ·rw [ePn] at hp;have e : p = (s2.heap.objs.size, lstO its n) := by simpa using hp
   subst e;exact absurd (fpLt b hb) (by rw [<- z]; exact Nat.lt_irrefl _)
 have loop : ∀ s₃ : Shared, s₃ = { s2 with heap := h₁, toks := s2.toks + ([] : List (Str × Value)).length } ->
   codeAny (model X.prog X.w) X.A (.compLoop (.ListComp elt [⟨tg, iter, ifs, 0⟩] scope pos) 0 (.ref it) (.ref s2.heap.objs.size) (compEnvC scope cl C X.env)) (RR (.ref s2.heap.objs.size) C) s₃ := by
  rintro s₃ rfl;rw [<- eEnv, <- eA];refine Zfn (fun n s' => ∃ i ys its k σ' H', Inv X' [(s2.heap.objs.size, lstO its k)] σ' H' s' /\ tn i s'.heap /\ (∀ b ∈ fp, H' b = none) /\ Vals ys its /\ W i n ys σ' H') ?_ m0
   ⟨0, [], [], 0, capSt caps σ, H2, capI, st₁, fun b hb => (f2 b hb).1, .nil, w0⟩
  rintro n s' ⟨i, ys, its, k, σ', H', I', st', fr', rv', w'⟩;rcases turn i n ys σ' H' w' with ⟨stop, hsz, q⟩ | ⟨go, hsz, NN, hNN, step⟩
  ·refine thn (T.done X' ePr eW eK eCalm i _ s' σ' H' (fun _ _ => False) I' (fpX fr') st' stop) fun r s4 ⟨hr, I4⟩ => ?_
   subst hr;have pinD := (I4.pin (s2.heap.objs.size, lstO its k) (by rw [ePn]; simp)).1;have freeD := (I4.pin (s2.heap.objs.size, lstO its k) (by rw [ePn]; simp)).2.1;have hq := q s2.heap.objs.size freeD;obtain ⟨mC, hnC, _⟩ := id I4.loc;rw [eLoc] at hnC;obtain ⟨oC, es, ep, hoC, hdC, _⟩ := id hnC;have freeC' : H' C = none := by have := I4.free; rw [eLoc] at this; exact this
   have base4 := I4.base;rw [eS0, eEx, eFs, eH0] at base4;have neD : ∀ b o, s2.heap.get? b = some o -> b ≠ s2.heap.objs.size := fun b o e => Nat.ne_of_lt (Heap.lt_size e)
   have neDH : ∀ b o, H2 b = some o -> b ≠ s2.heap.objs.size := fun b o e => Nat.ne_of_lt (I.hok.lt e)
   have un4 : Un (frs X.stack) fp H2 (upd H' s2.heap.objs.size (.lst ys)) s2.heap s4.heap :=
    ⟨base4.keep, base4.slot, fun b o e n hx => by rw [Zaj (neD b o e)]; exact base4.free b o e n hx, base4.there, fun b xs e => by rw [Zaj (neDH b _ e)]; exact base4.tups b xs e,
     fun b o u e => by rw [Zaj (neDH b _ e)]; exact base4.frzs b o u e, fun b ps e => by rw [Zaj (neDH b _ e)]; exact base4.tbls b ps e⟩
   have hok4 : HOk X.prog X.w (upd H' s2.heap.objs.size (.lst ys)) s4.heap := by
    have h4 := I4.hok;rw [ePr, eW] at h4;intro b u e
    by_cases hb : b = s2.heap.objs.size
    ·subst hb;rw [Zai] at e; cases e;exact ⟨hsz, its, k, rv', pinD⟩
    ·rw [Zaj hb] at e;refine (h4 b u e).stay (fun c v _ z => z) (fun c z => ?_) (fun c xs z => ?_)
     ·rw [Zaj]; exact z;intro zz; rw [zz, freeD] at z; cases z
     ·rw [Zaj]; exact z;intro zz; rw [zz, freeD] at z; cases z
   have os4 : s4.os = s2.os := by have := I4.os; rw [eS0] at this; exact this
   have J4 : Inv X pins σ (upd H' s2.heap.objs.size (.lst ys)) s4 := I.call' (ch := fp) os4 un4 hok4 I4.bare fun b hb => ⟨(f2 b hb).2.2.2.1, (f2 b hb).2.1, (f2 b hb).2.2.2.2.1, (f2 b hb).2.2.2.2.2⟩
   have hCle : X.s₀.heap.objs.size <= C := by rw [hC]; exact Nat.le_succ_of_le sz
   have hCcell : ∀ x c, X.env.cells.lookup x = some c -> c ≠ C := fun x c e => belowC c (cellLt x c e)
   have hCpin : ∀ p ∈ X.pn ++ pins, p.1 ≠ C := fun p hp => belowC p.1 (Heap.lt_size (I.pin p hp).1)
   have hCl : C ≠ X.env.locals := fun z => absurd I.lt (by rw [<- z, hC]; exact Nat.not_lt.mpr (Nat.le_succ _))
   refine hRR s2.heap.objs.size C oC mC s4 _ (J4.pins_of fun p hp => ?_) hnC hq hCle hCcell hCpin hoC;rcases List.mem_append.mp hp with z | z
   ·exact J4.pin p (List.mem_append_right _ z)
   ·have e : p = (C, oC) := by simpa using z
    subst e;refine ⟨hoC, by rw [Zaj (Ne.symm hDC)]; exact freeC', hCl, fun z => ?_, fun v z => by rw [hdC] at z; cases z⟩;exact I.nofs (by rw [hC]; exact Nat.le_succ _) z
  ·refine thn (T.item X' ePr eW eK eCalm i _ s' σ' H' (fun _ _ => False) I' (fpX fr') st' go) fun r s4 ⟨u, hr, h4⟩ => ?_
   subst hr;refine thn h4 fun _ s5 ⟨x, H5, I5, r5, y5, st5, fr5⟩ => ?_
   have I5' := I5.pinned (fpX fr5) (T.obj _ _ st5);have xeF : ∀ {α : Type} {t : Sem α} {Q : α -> Shared -> Prop} {s : Shared}, wpAny (model X.prog X.w) X'.A t Q X'.xe s -> wpAny (model X.prog X.w) X'.A t Q (fun _ _ => False) s := fun h => by rw [eXe] at h; exact h
   have ag := hgX _ s5 σ' H5 x u _ I5' r5 (step x H5 y5);rw [ePr, eW] at ag;refine thn (xeF ag) fun _ s6 ⟨σ6, H6, I6, q6⟩ => ?_
   have at' := htX _ s6 σ6 H6 _ I6 q6;rw [ePr, eW] at at';refine thn (xeF at') fun b s7 ⟨H7, I7, q7⟩ => ?_
   -- what the pins say behind the turn
   have back : ∀ {s8 : Shared} {H8 : Hp}, Inv X' ([(s2.heap.objs.size, lstO its k)] ++ Ze9 fp s5.heap) σ6 H8 s8 -> tn (i + 1) s8.heap /\ (∀ b ∈ fp, H8 b = none) /\ Inv X' [(s2.heap.objs.size, lstO its k)] σ6 H8 s8 := fun {s8 H8} I8 => by
    refine ⟨T.keep _ _ _ st5 fun b hb o e => (I8.pin (b, o) (List.mem_append_right _ (List.mem_append_right _ (Zcs hb e)))).1, fun b hb => ?_, I8.unpinned⟩;obtain ⟨o, e, d⟩ := T.obj _ _ st5 b hb;exact (I8.pin (b, o) (List.mem_append_right _ (List.mem_append_right _ (Zcs hb e)))).2.1
   cases b with
   | false =>
    simp only [Bool.false_eq_true, if_false] at q7 ⊢;obtain ⟨m', hm, w7⟩ := hNN _ _ _ q7;obtain ⟨t7, f7, I7'⟩ := back I7;exact ⟨m', hm, i + 1, ys, its, k, σ6, H7, I7', t7, f7, rv', w7⟩
   | true =>
    simp only [if_true] at q7 ⊢;have ae := heX _ s7 σ6 H7 _ I7 q7;rw [ePr, eW] at ae;refine thn (xeF ae) fun y s8 ⟨yv, H8, I8, r8, n8⟩ => ?_
    obtain ⟨m', hm, w8⟩ := hNN _ _ _ n8;obtain ⟨t8, f8, I8'⟩ := back I8;have pinD := I8'.pin (s2.heap.objs.size, lstO its k) (by rw [ePn]; simp);have hlen := rv'.length;refine append_at (its := its.toArray) (n := k) (hsz := by rw [List.size_toArray, <- hlen]; exact Nat.le_of_lt hsz) pinD.1 fun h9 hs9 hD9 => ?_
    have I9 : Inv X' [] σ6 H8 { s8 with heap := h9, toks := s8.toks } := by
     refine (I8'.pins_of (pins' := []) fun p hp => by simp at hp).turned (it := s2.heap.objs.size) (fun b o hb e => (hs9.2 b hb).trans e) pinD.2.1 (by rw [eLoc]; exact hDC) (.inr (by rw [eS0]; exact Nat.le_refl _)) (fun x c e => ?_) fun p hp => ?_
     ·rw [eCells] at e; exact Nat.ne_of_lt (cellLt x c (hcl1 x c e))
     ·rw [ePn] at hp; simp at hp
    have ePush : ({ cls := .type "list", data := .seq (its.toArray.push y) (k + 1) } : Obj) = lstO (its ++ [y]) (k + 1) := by unfold lstO; rw [List.push_toArray]
    rw [ePush] at hD9;refine ⟨m', hm, i + 1, ys ++ [yv], its ++ [y], k + 1, σ6, H8, ?_, T.keep _ _ _ t8 fun b hb o e => (hs9.2 b (Nat.ne_of_lt (fpLt b hb))).trans e, f8, rv'.append (.cons r8 .nil), w8⟩;refine I9.pins_of fun p hp => ?_
    have e : p = (s2.heap.objs.size, lstO (its ++ [y]) (k + 1)) := by simpa using hp
    subst e;exact ⟨hD9, pinD.2.1, by rw [eLoc]; exact hDC, nDfs, fun v z => by cases z⟩
 exact codeAny_compStart_list (loop _ rfl) (T.self _ 0 _ _ _ st₁ (loop _ rfl))
end
end L2
set_option Elab.async false
set_option linter.all false
set_option maxRecDepth 100000
set_option maxHeartbeats 4000000
namespace L2
open PySem PySem.Spec PyProof.Rows
section
variable {X : Cx} {elt tg iter : Expr} {ifs : List Expr} {scope : Scope} {pos : Pos} {N' : List Str} {caps : List (Option Nat)} {wi : TI} {g : TG} {tc : TT} {te : TE}
theorem Inv.cellsOf {pins : List (Addr × Obj)} {σ : St} {H : Hp} {s : Shared} (I : Inv X pins σ H s) (S : Zco X N' scope caps) : ∀ x, (x, NameKind.free) ∈ scope.names -> ∃ c, X.env.cells.lookup x = some c :=
 fun x hx => I.ok.has x (S.vis x hx)
theorem Zf6 (S : Zco X N' scope caps) (hc : X.calm = true) (hi : PI X tg iter wi)
  (hg : ∀ cl C s H ex, PG (cxComp X N' scope cl C s H ex) tg g) (ht : ∀ cl C s H ex, PIfs (cxComp X N' scope cl C s H ex) ifs tc) (he : ∀ cl C s H ex, PE (cxComp X N' scope cl C s H ex) elt te)
  (hs : ∀ x, foldedSetIterable iter X.env x = pure x := by intro _; rfl) : PE X (.ListComp elt [⟨tg, iter, ifs, 0⟩] scope pos) (Zk3 caps wi g tc te) := by
 intro pins s σ H Q I h;obtain ⟨cl, ecl, hcl1, hcl2⟩ := Zgj (I.cellsOf S);rw [eval_ListComp];refine wpAny_comprehension_free (use := none) rfl hs ecl S.kind S.locs (thn (hi pins s σ H _ I h) fun v s1 h1 => thn h1 fun itv s2 h2 => ?_);obtain ⟨it, fp, tn, J, H2, e, I2, T, st2, f2, W, w0, turn⟩ := h2;subst e;refine Zg1 S hc hcl1 hcl2 hg ht he I2 T st2 f2 W w0 turn fun D C oC m s' H' I' hn q hC hcell hpin hoC => ?_
 refine ⟨m, hn, fun h' hs' => ⟨.ref D, H', ?_, rfl, q⟩⟩;have pC := I'.pin (C, oC) (List.mem_append_right _ (List.mem_append_right _ (by simp)));exact (I'.pins_of (pins' := pins) fun p hp => I'.pin p (List.mem_append_right _ (List.mem_append_left _ hp))).turned (t' := s'.toks) (it := C) (fun b o hb e => (hs'.2 b hb).trans e) pC.2.1 pC.2.2.1 (.inr hC) hcell hpin
theorem Zej {i : Nat} {x : Str} {pos' spos : Pos} (S : Zco X N' scope caps) (hc : X.calm = true) (hN : X.N.Nodup) (hix : X.N[i]? = some x) (hx : Loc X.env.scope x) (hi : PI X tg iter wi)
  (hg : ∀ cl C s H ex, PG (cxComp X N' scope cl C s H ex) tg g) (ht : ∀ cl C s H ex, PIfs (cxComp X N' scope cl C s H ex) ifs tc) (he : ∀ cl C s H ex, PE (cxComp X N' scope cl C s H ex) elt te)
  (hsw : swapsWith (.ListComp elt [⟨tg, iter, ifs, 0⟩] scope pos) (some (.Name x pos')) spos.line X.env = pure true)
  (hf : X.fn x = true \/ X.env.scope.names.lookup x = some .local := by first | exact .inl rfl | exact .inr rfl | assumption)
  (hs : ∀ x, foldedSetIterable iter X.env x = pure x := by intro _; rfl) : PS X (.Assign [.Name x pos'] (.ListComp elt [⟨tg, iter, ifs, 0⟩] scope pos) spos) (Znx (Zk3 caps wi g tc te) (Zge i)) := by
 intro pins s σ H D I h;obtain ⟨cl, ecl, hcl1, hcl2⟩ := Zgj (I.cellsOf S);rw [exec_Assign_Name_used _ _ _ _ hsw];refine wpAny_bind (wpAny_standAt (wpAny_bind ?_));show wpAny _ X.A (do let _ <- comprehension (.ListComp elt [⟨tg, iter, ifs, 0⟩] scope pos) scope X.env _ (newList []) false (eval iter X.env) (some (assign (.Name x pos') X.env))) _ _ s;refine wpAny_bind (wpAny_mono (wpAny_comprehension_free (use := some (assign (.Name x pos') X.env)) (Q := fun _ s' => SP X pins D .next s') rfl hs ecl S.kind S.locs
  (thn (hi pins s σ H _ I h) fun v s1 h1 => thn h1 fun itv s2 h2 => ?_)) (fun _ s' hq => wpAny_pure (wpAny_pure hq)) fun _ _ e => e)
 obtain ⟨it, fp, tn, J, H2, e, I2, T, st2, f2, W, w0, turn⟩ := h2;subst e;refine Zg1 (Q := fun x H1 => Zge i x σ H1 D.nx) S hc hcl1 hcl2 hg ht he I2 T st2 f2 W w0 turn fun Da C oC m s' H' I' hn q hC hcell hpin hoC => ?_
 show wpAny _ X.A (assign (.Name x pos') X.env (.ref Da)) _ _ _;refine wpAny_assign_Name (Zdx I' hN hix hx (v := .ref Da) rfl (fun s'' I'' => ?_) hf);have pC := I''.pin (C, oC) (List.mem_append_right _ (List.mem_append_right _ (by simp)));have hn' : s''.heap.Ns C m := by
  obtain ⟨o, es, ep, ho, r⟩ := hn;rw [hoC] at ho; cases ho;exact ⟨oC, es, ep, pC.1, r⟩
 refine ⟨m, hn', fun h' hs' => ⟨σ.set i (some (.ref Da)), H', ?_, q⟩⟩;exact (I''.pins_of (pins' := pins) fun p hp => I''.pin p (List.mem_append_right _ (List.mem_append_left _ hp))).turned (t' := s''.toks) (it := C) (fun b o hb e => (hs'.2 b hb).trans e) pC.2.1 pC.2.2.1 (.inr hC) hcell hpin
theorem Zfm {K : PySem.W.Frag} {a : Addr} {xs : List V} {σ : St} {H1 : Hp} {Q : VK} (Pv : Nat -> List V -> St -> Hp -> Prop) (h0 : Pv 0 [] (capSt caps σ) H1) (hl : ∀ i ys σ H, Pv i ys σ H -> i <= xs.length -> SqL K H a xs /\ ys.length <= i) (hz : xs.length <= sizeLine)
  (hs : ∀ i x ys σ H, xs[i]? = some x -> Pv i ys σ H -> g x σ H fun σ2 H2 => tc σ2 H2 fun b H3 => if b = true then te σ2 H3 fun y H4 => Pv (i + 1) (ys ++ [y]) σ2 H4 else Pv (i + 1) ys σ2 H3)
  (hd : ∀ ys σ H, Pv xs.length ys σ H -> ∀ p, H p = none -> Q (.ref p) (upd H p (.lst ys))) :
  Zen caps g tc te σ Q (Itl K a) H1 := by
 refine ⟨fun i m ys σ H => m = xs.length - i /\ i <= xs.length /\ Pv i ys σ H, ⟨xs.length, by simp, Nat.zero_le _, h0⟩, ?_⟩;rintro i m ys σ H ⟨rfl, hi, p⟩;obtain ⟨q, hy⟩ := hl i ys σ H p hi
 by_cases hlt : i < xs.length
 ·refine .inr ⟨⟨xs, xs[i], q, by simp [hlt]⟩, by omega, Pv (i + 1), fun ys' σ' H' p' => ⟨xs.length - (i + 1), by omega, rfl, hlt, p'⟩, fun x H' y => ?_⟩;obtain ⟨e, y⟩ := y;subst e;exact hs i x ys σ _ (y xs q) p
 ·have e : i = xs.length := by omega
  subst e;exact .inl ⟨⟨xs, q, Nat.le_refl _⟩, by omega, hd ys σ H p⟩
theorem Zel {lo : Int} {n : Nat} {σ : St} {H1 : Hp} {Q : VK} (Pv : Nat -> List V -> St -> Hp -> Prop) (h0 : Pv 0 [] (capSt caps σ) H1) (hl : ∀ i ys σ H, Pv i ys σ H -> i <= n -> ys.length <= i) (hz : n <= sizeLine)
  (hs : ∀ i ys σ H, i < n -> Pv i ys σ H -> g (.int (lo + i)) σ H fun σ2 H2 => tc σ2 H2 fun b H3 => if b = true then te σ2 H3 fun y H4 => Pv (i + 1) (ys ++ [y]) σ2 H4 else Pv (i + 1) ys σ2 H3)
  (hd : ∀ ys σ H, Pv n ys σ H -> ∀ p, H p = none -> Q (.ref p) (upd H p (.lst ys))) :
  Zen caps g tc te σ Q (Itr lo n) H1 := by
 refine ⟨fun i m ys σ H => m = n - i /\ i <= n /\ Pv i ys σ H, ⟨n, by simp, Nat.zero_le _, h0⟩, ?_⟩;rintro i m ys σ H ⟨rfl, hi, p⟩;have hy := hl i ys σ H p hi
 by_cases hlt : i < n
 ·refine .inr ⟨hlt, by omega, Pv (i + 1), fun ys' σ' H' p' => ⟨n - (i + 1), by omega, rfl, hlt, p'⟩, fun x H' y => ?_⟩;obtain ⟨e, y⟩ := y;subst e y;exact hs i ys σ _ hlt p
 ·have e : i = n := by omega
  subst e;exact .inl ⟨Nat.le_refl _, by omega, hd ys σ H p⟩
end
end L2
set_option Elab.async false
set_option linter.all false
set_option maxRecDepth 100000
set_option maxHeartbeats 4000000
namespace L2
open PySem PySem.Spec PyProof.Rows
mutual
inductive Dp (K : PySem.W.Frag) (H : Hp) : V -> PyData -> Prop
 | non : Dp K H .non .none
 | bl (b : Bool) : Dp K H (.bl b) (.bool b)
 | int (i : Int) : Dp K H (.int i) (.int i)
 | str (x : Str) : Dp K H (.str x) (.str x)
 | lst {a : Addr} {xs : List V} {ds : List PyData} : SqL K H a xs -> Zhu K H xs ds -> Dp K H (.ref a) (.list ds)
 | tup {a : Addr} {xs : List V} {ds : List PyData} : SqT K H a xs -> Zhu K H xs ds -> Dp K H (.ref a) (.tuple ds)
inductive Zhu (K : PySem.W.Frag) (H : Hp) : List V -> List PyData -> Prop
 | nil : Zhu K H [] []
 | cons {x : V} {xs : List V} {d : PyData} {ds : List PyData} : Dp K H x d -> Zhu K H xs ds -> Zhu K H (x :: xs) (d :: ds)
end
section
variable {X : Cx} {pins : List (Addr × Obj)} {σ : St} {H : Hp} {s : Shared}
mutual
theorem Inv.reads (I : Inv X pins σ H s) : ∀ {x : V} {d : PyData} {u : Value}, Dp X.K H x d -> RelV x u -> ∃ as, Reads s.heap u d as
 | _, _, u, .non, r => by cases (show u = Value.none from r); exact ⟨_, .none⟩
 | _, _, u, .bl b, r => by cases (show u = Value.bool b from r); exact ⟨_, .bool b⟩
 | _, _, u, .int i, r => by obtain ⟨t, rfl⟩ := (show ∃ t, u = Value.int i t from r); exact ⟨_, .int i t⟩
 | _, _, u, .str x, r => by obtain ⟨t, rfl⟩ := (show ∃ t, u = Value.str x t from r); exact ⟨_, .str x t⟩
 | _, _, u, .lst (a := a) hl hd, r => by
  cases (show u = Value.ref a from r);obtain ⟨its, rv, ⟨o, n, e, hc, _, hdt⟩, hz⟩ := I.list hl;obtain ⟨as, ra⟩ := Inv.readsAll I hd rv;exact ⟨_, .list e hc hdt (by simpa using ra)⟩
 | _, _, u, .tup (a := a) hl hd, r => by
  cases (show u = Value.ref a from r);obtain ⟨its, rv, ⟨o, e, hc, n, hdt⟩, hz⟩ := I.tuple hl;obtain ⟨as, ra⟩ := Inv.readsAll I hd rv;exact ⟨_, .tuple e hc hdt (by simpa using ra)⟩
theorem Inv.readsAll (I : Inv X pins σ H s) : ∀ {xs : List V} {ds : List PyData} {us : List Value}, Zhu X.K H xs ds -> Vals xs us -> ∃ as, ReadsAll s.heap us ds as
 | _, _, _, .nil, r => by cases r; exact ⟨_, .nil⟩
 | _, _, _, .cons h t, r => by
  cases r with
  | cons r1 r2 =>
   obtain ⟨as, ra⟩ := Inv.reads I h r1;obtain ⟨bs, rb⟩ := Inv.readsAll I t r2;exact ⟨_, .cons ra rb⟩
end
end
section
variable {X : Cx}
def Zpo : R2 := fun x y H Q => ∃ i j, x = .str i /\ y = .str j /\ Q (.bl (!decide (j.cps.toList < i.cps.toList))) H
theorem Zkl : OpR X (compareOp .LtE) Zpo := by
 intro pins s σ H x y v u Q I rx ry h;obtain ⟨i, j, rfl, rfl, q⟩ := h;obtain ⟨t, rfl⟩ := rx;obtain ⟨t', rfl⟩ := ry;exact PySem.P.le_str (Zav I q rfl)
theorem Zj5 (hc : X.calm = true) : CallR X (.builtin "all") (fun xs H Q => ∃ (p : Addr) (bs : List Bool), xs = [.ref p] /\ SqL X.K H p (bs.map V.bl) /\ Q (.bl (bs.all id)) H) := by
 intro pins s σ H xs us Q I r h;obtain ⟨p, bs, rfl, hq, q⟩ := h;obtain ⟨u, rfl, rx⟩ := Zhv r;cases rx;obtain ⟨its, rv, pl, hz⟩ := I.list hq;have hh : X.A.in1.handled = none := I.ok.hd hc;have hl := pl.isList;have hlt : p < s.heap.objs.size := by obtain ⟨_, e, _⟩ := hl; exact Heap.lt_size e
 have hlen : bs.length = its.length := by have := rv.length; simpa using this
 refine call_all_walk (wpAny_pyIter_list hl ⟨s.heap.objs.size, _, _, _, _, _, fun i => bs.getD i false, rfl, Walks.list hh s.heap.objs.size p (Nat.ne_of_lt hlt) its.toArray, ⟨⟨_, Heap.get?_push_size _ rfl, rfl, rfl⟩, hl.push _⟩, ?_, ?_⟩)
 ·intro i v s' Q' E' hv hQ;have hv' : its[i]? = some v := by simpa using hv
  cases e : bs[i]? with
  | none =>
   have : its[i]? = none := by
    rw [List.getElem?_eq_none_iff] at e ⊢; omega
   rw [this] at hv'; cases hv'
  | some b =>
   obtain ⟨u, hu, ru⟩ := rv.get (i := i) (x := V.bl b) (by rw [List.getElem?_map, e]; rfl);rw [hv'] at hu; cases hu;cases (show v = Value.bool b from ru);have : bs.getD i false = b := by simp [List.getD, e]
   dsimp only at hQ;rw [this] at hQ;exact wpAny_truthy_bool hQ
 ·intro h' tk hk;have e : (List.range its.toArray.size).all (fun i => bs.getD i false) = bs.all id := by
   rw [List.size_toArray, <- hlen, Bool.eq_iff_iff, List.all_eq_true, List.all_eq_true];constructor
   ·intro h x hx;obtain ⟨i, hi, rfl⟩ := List.mem_iff_getElem.mp hx;have := h i (List.mem_range.mpr hi);simpa [List.getD, hi] using this
   ·intro h i hi;have hi' := List.mem_range.mp hi;have := h bs[i] (List.getElem_mem hi');simpa [List.getD, hi'] using this
  rw [e];exact ⟨.bl (bs.all id), H, I.kept (t' := tk) fun b o eo => hk b o (by simpa using Nat.ne_of_lt (Heap.lt_size eo)) (Heap.get?_push_of_some _ eo), rfl, q⟩
def Zn0 : V -> Value
 | .ty n => .type n
 | .ref a => .ref a
 | _ => .none
def Znr : V -> Bool
 | .ty _ => true
 | .ref _ => true
 | _ => false
def Zp6 (K : PySem.W.Frag) : List V -> Hp -> VK -> Prop := fun xs H Q => ∃ x c t b, xs = [x, c] /\ Zg4 K H x t /\ Znr c = true /\ PySem.W.kitOne K t (Zn0 c) = some b /\ Q (.bl b) H
theorem Zj4 : CallR X (.builtin "isinstance") (Zp6 X.K) := by
 intro pins s σ H xs us Q I r h;obtain ⟨x, c, t, b, rfl, ty, hc, e, q⟩ := h;obtain ⟨u, w', rfl, rx, rc⟩ := Zkt r;have hw : w' = Zn0 c := by cases c <;> first | exact rc | cases hc
 subst hw;exact Zfh I rx ty e fun tk => ⟨.bl b, H, I.tok tk, rfl, q⟩
def Its (x : Str) : It := ⟨fun i _ => i < x.cps.size, fun i H v H' => H' = H /\ ∃ c, x.cps[i]? = some c /\ v = .str ⟨#[c]⟩, fun i _ => i = x.cps.size⟩
theorem Zgp {P : Program} {w : World} {K : PySem.W.Frag} {tg : Expr} {it : Addr} {ty : String} {x : Str} {t : Tok}
  (W : ∀ A : Around, A.handled = none -> Walks P w A it [it] [it] x.cps.size (SignAt x) (fun i h => h.IsStrIter it ty x t i))
  (hself : ∀ (A : Around) (i : Nat) (s : Shared) (Q : Value -> Shared -> Prop) (E : Value -> Shared -> Prop), s.heap.IsStrIter it ty x t i -> Q (.ref it) s -> wpAny (model P w) A (pyIter (.ref it)) Q E s)
  (hn : ["enumerate", "zip", "dict_itemiterator", "dict_reverseitemiterator", "odict_iterator", "itertools.zip_longest", "itertools.pairwise"].contains ty = false) :
  Znw P w K tg (Its x) [it] it (fun i h => h.IsStrIter it ty x t i) where
 mem := by simp
 obj := fun i h st b hb => by
  have e : b = it := by simpa using hb
  subst e;obtain ⟨o, e, c, d⟩ := st;exact ⟨o, e, fun v z => by rw [d] at z; cases z⟩
 keep := fun i h h' st k => by obtain ⟨o, e, r⟩ := st; exact ⟨o, k it (by simp) o e, r⟩
 item := by
  intro X hP hw hK hc i pins s σ H E I hf st hg;subst hP hw hK;obtain ⟨f0, f1, f2, f3, f4, f5⟩ := hf it (by simp);refine (W X.A (I.ok.hd hc)).item i s _ _ hg st fun v h' tk hv st' hk => ?_
  obtain ⟨c, u, hc', rfl⟩ := hv;have I1 : Inv X pins σ H { s with heap := h', toks := tk } := I.turned (t' := tk) (fun b o hb e => hk b o (by simpa using hb) e) f0 f1 f3 f4 f5;obtain ⟨o, e, cc, d⟩ := id st';exact ⟨_, rfl, Zlp (s := { s with heap := h', toks := tk }) e cc d hn ⟨.str ⟨#[c]⟩, H, I1, ⟨u, rfl⟩, ⟨rfl, c, hc', rfl⟩, st', fun b hb => (hf b hb).1⟩⟩
 done := by
  intro X hP hw hK hc i pins s σ H E I hf st hg;subst hP hw hK;obtain ⟨f0, f1, f2, f3, f4, f5⟩ := hf it (by simp);have hg' : i = x.cps.size := hg;subst hg';exact (W X.A (I.ok.hd hc)).done s _ _ st fun h' tk hk => ⟨rfl, I.turned (t' := tk) (fun b o hb e => hk b o (by simpa using hb) e) f0 f1 f3 f4 f5⟩
 self := fun A i s Q E st h => hself A i s Q E st h
def Zps (tl : TE) : TI := fun σ H R => tl σ H fun x H1 => ∃ z, x = .str z /\ R (Its z) H1
theorem Zm5 {tg l : Expr} {tl : TE} (hl : PE X l tl) : PI X tg l (Zps tl) := by
 intro pins s σ H R I h;refine thn (hl pins s σ H _ I h) fun v s1 ⟨x, H1, I1, r1, q1⟩ => ?_
 obtain ⟨z, e, q⟩ := q1;subst e;obtain ⟨t, rfl⟩ := (show ∃ t, v = Value.str z t from r1);have fin : ∀ b : Addr, b ∈ [s1.heap.objs.size] -> FpOk X pins H1 b := fun b hb => by
  have e : b = s1.heap.objs.size := by simpa using hb
  subst e;exact I1.fpOk (Nat.le_refl _) (I1.hok.fresh (Nat.le_refl _))
 cases ha : z.cps.all (· < 128)
 ·exact wpAny_pyIter_wide ha ⟨s1.heap.objs.size, [s1.heap.objs.size], _, _, H1, rfl, I1.kept (t' := s1.toks) fun b o e => Heap.get?_push_of_some _ e,
   Zgp (fun A hA => Walks.strWide hA _ z t) (fun A i s Q E st h => wpAny_pyIter_striter_wide st h) (by decide), ⟨_, Heap.get?_push_size _ rfl, rfl, rfl⟩, fin, q⟩
 ·exact wpAny_pyIter_ascii ha ⟨s1.heap.objs.size, [s1.heap.objs.size], _, _, H1, rfl, I1.kept (t' := s1.toks) fun b o e => Heap.get?_push_of_some _ e,
   Zgp (fun A hA => Walks.strAscii hA _ z t) (fun A i s Q E st h => wpAny_pyIter_striter_ascii st h) (by decide), ⟨_, Heap.get?_push_size _ rfl, rfl, rfl⟩, fin, q⟩
theorem Zj2 {caps : List (Option Nat)} {g : TG} {tc : TT} {te : TE} {z : Str} {σ : St} {H1 : Hp} {Q : VK} (Pv : Nat -> List V -> St -> Hp -> Prop) (h0 : Pv 0 [] (capSt caps σ) H1) (hl : ∀ i ys σ H, Pv i ys σ H -> i <= z.cps.size -> ys.length <= i) (hz : z.cps.size <= sizeLine)
  (hs : ∀ i c ys σ H, z.cps[i]? = some c -> Pv i ys σ H -> g (.str ⟨#[c]⟩) σ H fun σ2 H2 => tc σ2 H2 fun b H3 => if b = true then te σ2 H3 fun y H4 => Pv (i + 1) (ys ++ [y]) σ2 H4 else Pv (i + 1) ys σ2 H3)
  (hd : ∀ ys σ H, Pv z.cps.size ys σ H -> ∀ p, H p = none -> Q (.ref p) (upd H p (.lst ys))) :
  Zen caps g tc te σ Q (Its z) H1 := by
 refine ⟨fun i m ys σ H => m = z.cps.size - i /\ i <= z.cps.size /\ Pv i ys σ H, ⟨z.cps.size, by simp, Nat.zero_le _, h0⟩, ?_⟩;rintro i m ys σ H ⟨rfl, hi, p⟩;have hy := hl i ys σ H p hi
 by_cases hlt : i < z.cps.size
 ·refine .inr ⟨hlt, by omega, Pv (i + 1), fun ys' σ' H' p' => ⟨z.cps.size - (i + 1), by omega, rfl, hlt, p'⟩, fun x H' y => ?_⟩;obtain ⟨e, c, hc, y⟩ := y;subst e y;exact hs i c ys σ _ hc p
 ·have e : i = z.cps.size := by omega
  subst e;exact .inl ⟨rfl, by omega, hd ys σ H p⟩
end
end L2
set_option Elab.async false
set_option linter.all false
set_option maxRecDepth 100000
set_option maxHeartbeats 4000000
namespace L2
open PySem PySem.Spec PyProof.Rows
def Zi6 (N N' : List Str) (scope : Scope) (caps : List (Option Nat)) (sc : Scope) : Bool :=
 decide (scope.kind = .function) && (scope.names.all fun y => decide (y.2 ≠ .cell)) && (scope.names.all fun y => decide (y.2 = .local -> scope.names.lookup y.1 = some .local)) && decide (caps.length = N'.length) &&
 ((N'.zip caps).all fun p => match p.2 with
  | none => true
  | some j => decide (N[j]? = some p.1) && decide ((p.1, NameKind.free) ∈ scope.names) && (scope.names.all fun y => decide (y.1 = p.1 -> y.2 = .free))) &&
 (scope.names.all fun y => decide (y.2 = .free -> sc.names.lookup y.1 = some .cell \/ sc.names.lookup y.1 = some .free))
theorem Zi4 {X : Cx} {N' : List Str} {scope : Scope} {caps : List (Option Nat)} {sc : Scope} {N : List Str} (hsc : X.env.scope = sc) (hN : X.N = N) (h : Zi6 N N' scope caps sc = true) : Zco X N' scope caps := by
 subst hsc hN;unfold Zi6 at h;simp only [Bool.and_eq_true, decide_eq_true_eq, List.all_eq_true] at h;obtain ⟨⟨⟨⟨⟨h1, h2⟩, h3⟩, h4⟩, h5⟩, h6⟩ := h;refine ⟨h1, h2, h3, ⟨h4, fun i j x e1 e2 => ?_⟩, fun x hx => ?_⟩
 ·have hz : (x, some j) ∈ N'.zip caps := by
   have : (N'.zip caps)[i]? = some (x, some j) := by
    rw [List.getElem?_zip_eq_some]; exact ⟨e1, e2⟩
   exact List.mem_of_getElem? this
  have q := h5 _ hz;simp only [Bool.and_eq_true, decide_eq_true_eq, List.all_eq_true] at q;exact ⟨q.1.1, q.1.2, fun k hk => q.2 _ hk rfl⟩
 ·exact h6 _ hx rfl
theorem Zim {X : Cx} {N : List Str} (h : X.N = N) (d : N.Nodup) : X.N.Nodup := h ▸ d
theorem Zcm {X : Cx} {x : Str} {n : Int} {pos : Pos} (hg : Gl X x) (hm : ∃ t, X.mg x = some (.int n t)) (hd : (x == ("__debug__" : Str)) = false := by decide) : PE X (.Name x pos) (tC (.int n)) := by
 obtain ⟨t, e⟩ := hm;exact Zbn hg e ⟨t, rfl⟩ hd
structure FnB (P : Program) (w : World) (K : PySem.W.Frag) (mg : Str -> Option Value) (base : Heap) (x : Str) (k : Nat) (ps : List Str) (dvs : List V) (sp : Sp) : Prop where
 ex : ∃ (f : Addr) (fd : FuncData) (ds : List Value), Zcc P w K mg base CX0 k f fd ps sp /\ mg x = some (.ref f) /\ PySem.W.keepIn K (.ref f) = true /\ Binds K fd ps ds /\ Vals dvs ds
structure MkB (P : Program) (w : World) (K : PySem.W.Frag) (mg : Str -> Option Value) (base : Heap) (x : Str) (C : Addr) (k : Nat) (ps : List Str) (dvs : List V) (sp : Sp) : Prop where
 ex : ∃ (f : Addr) (fd : FuncData) (ds : List Value), Zcc P w K mg base CX0 k f fd ps sp /\ mg x = some (.ref C) /\ Mk K C f /\ Binds K fd ps ds /\ Vals dvs ds
structure MtB (P : Program) (w : World) (K : PySem.W.Frag) (mg : Str -> Option Value) (base : Heap) (C : Addr) (m : Str) (k : Nat) (ps : List Str) (dvs : List V) (sp : Sp) : Prop where
 ex : ∃ (f : Addr) (fd : FuncData) (ds : List Value), Zcc P w K mg base CX0 k f fd ps sp /\ Cls K C /\ Zpw K C m f /\ Binds K fd ps ds /\ Vals dvs ds
section
variable {X : Cx} {k : Nat} {C : Addr} {ps : List Str} {sp : Sp} {dvs : List V} {x m : Str} {p pos apos : Pos} {e o : Expr} {es : List Expr} {ta : TE} {t : TA}
theorem Zag (F : FnB X.prog X.w X.K X.mg X.base x k ps dvs sp) (hr : Room k X.A) (hg : Gl X x) (ha : PA X (e :: es) t) (hdb : (x == ("__debug__" : Str)) = false := by decide)
  (he : starEach (e :: es) X.env = (false, eval e X.env) :: starEach es X.env := by rfl) (hpl : (backTo pos (starEach es X.env)).any (·.1) = false := by rfl) : PE X (.Call (.Name x p) (e :: es) [] pos) (Zjf sp dvs E0 t) := by
 obtain ⟨f, fd, ds, G, hm, hk, hb, hd⟩ := F.ex;exact Zle G hr hg hm hk hb hd Znc ha hdb he hpl
end
structure Bt (mg : Str -> Option Value) : Prop where
 len : mg "len" = none
 range : mg "range" = none
 isinstance : mg "isinstance" = none
 all : mg "all" = none
 min : mg "min" = none
 max : mg "max" = none
 bint : mg "int" = none
 bbool : mg "bool" = none
 bstr : mg "str" = none
 blist : mg "list" = none
 btuple : mg "tuple" = none
def But (a : Addr) (H H' : Hp) : Prop := ∀ b o, H b = some o -> b ≠ a -> H' b = some o
theorem But.refl (a : Addr) (H : Hp) : But a H H := fun _ _ h _ => h
theorem But.trans {a : Addr} {H H1 H2 : Hp} (x : But a H H1) (y : But a H1 H2) : But a H H2 := fun b o h n => y b o (x b o h n) n
theorem But.upd {a : Addr} {H : Hp} {o : HO} : But a H (upd H a o) := fun b _ h n => by rw [Zaj n]; exact h
theorem But.new {a p : Addr} {H H' : Hp} {o : HO} (x : But a H H') (h : H p = none) : But a H (L2.upd H' p o) := fun b u e n => by
 rw [Zaj (Za0 e h)]; exact x b u e n
def Zlz (g : TG) (tb : TS) (D : Zht) (σ : St) (J : It) (H1 : Hp) : Prop := ∃ W : Nat -> Nat -> St -> Hp -> Prop, (∃ m, W 0 m σ H1) /\ ∀ i m σ H, W i m σ H ->
 (J.stop i H /\ D.nx σ H) \/ (J.go i H /\ ∃ N : St -> Hp -> Prop, (∀ σ' H', N σ' H' -> ∃ m', m' < m /\ W (i + 1) m' σ' H') /\ ∀ x H', J.yld i H x H' -> g x σ H' fun σ2 H2 => tb { D with nx := N, ct := N, bk := D.nx } σ2 H2)
theorem Zk1 (wi : TI) (g : TG) (tb : TS) (D : Zht) (σ : St) (H : Hp) : Zpl wi g tb D σ H = wi σ H fun J H1 => Zlz g tb D σ J H1 := rfl
theorem Zlr {K : PySem.W.Frag} {a : Addr} {xs : List V} {g : TG} {tb : TS} {D : Zht} {σ : St} {H : Hp} (Pv : Nat -> St -> Hp -> Prop) (h0 : Pv 0 σ H) (hl : ∀ i σ H, i <= xs.length -> Pv i σ H -> SqL K H a xs)
  (hs : ∀ i x σ H, xs[i]? = some x -> Pv i σ H -> g x σ H fun σ2 H2 => tb { D with nx := Pv (i + 1), ct := Pv (i + 1), bk := D.nx } σ2 H2) (hd : ∀ σ H, Pv xs.length σ H -> D.nx σ H) : Zlz g tb D σ (Itl K a) H := Zjz Pv h0 hl hs hd
theorem Zj0 {lo : Int} {n : Nat} {g : TG} {tb : TS} {D : Zht} {σ : St} {H : Hp} (Pv : Nat -> St -> Hp -> Prop) (h0 : Pv 0 σ H)
  (hs : ∀ i σ H, i < n -> Pv i σ H -> g (.int (lo + i)) σ H fun σ2 H2 => tb { D with nx := Pv (i + 1), ct := Pv (i + 1), bk := D.nx } σ2 H2) (hd : ∀ σ H, Pv n σ H -> D.nx σ H) : Zlz g tb D σ (Itr lo n) H := Ziz Pv h0 hs hd
theorem Zn4 {c : TT} {tb : TS} {D : Zht} {σ : St} {H : Hp} (Pv : St -> Hp -> Prop) (μ : St -> Hp -> Nat) (h0 : Pv σ H)
  (hs : ∀ σ H, Pv σ H -> c σ H fun b H1 => if b = true then ∃ N : St -> Hp -> Prop, (∀ σ' H', N σ' H' -> ∃ m', m' < μ σ H /\ (m' = μ σ' H' /\ Pv σ' H')) /\ tb { D with nx := N, ct := N, bk := D.nx } σ H1 else D.nx σ H1) : Zj8 c tb D σ H := by
 refine ⟨fun m σ H => m = μ σ H /\ Pv σ H, ⟨_, rfl, h0⟩, ?_⟩;rintro m σ H ⟨rfl, p⟩;exact hs σ H p
theorem Zah {n : Nat} (h : n <= 100000) : n <= sizeLine := Nat.le_trans h (by rw [sizeLine_eq]; decide)
theorem Zbx {n : Nat} (h : n <= 100000) : n < sizeLine := Nat.lt_of_le_of_lt h (by rw [sizeLine_eq]; decide)
end L2
set_option Elab.async false
set_option linter.all false
set_option maxRecDepth 100000
set_option maxHeartbeats 4000000
namespace L2
open PySem PySem.Spec PyProof.Rows
def tyO : HO -> Option String
 | .lst _ => some "list"
 | .tup _ => some "tuple"
 | .dK _ => some "dict"
 | _ => none
def tyF (H : Hp) : V -> Option String
 | .non => some "NoneType"
 | .bl _ => some "bool"
 | .int _ => some "int"
 | .str _ => some "str"
 | .ref a => (H a).bind tyO
 | _ => none
def Zg6 (n T : String) : Bool := n == T || (n == "bool" && T == "int")
theorem Zl8 {K : PySem.W.Frag} {H : Hp} {x : V} {n : String} (h : tyF H x = some n) : Zg4 K H x (.type n) /\ n ∈ ["NoneType", "bool", "int", "str", "list", "tuple", "dict"] := by
 cases x with
 | non => cases h; exact ⟨.non, by simp⟩
 | bl b => cases h; exact ⟨.bl b, by simp⟩
 | int i => cases h; exact ⟨.int i, by simp⟩
 | str i => cases h; exact ⟨.str i, by simp⟩
 | ref a =>
  have h : (H a).bind tyO = some n := h;cases e : H a with
  | none => rw [e] at h; cases h
  | some o =>
   rw [e] at h;cases o <;> first | (cases h; done) | skip
   ·cases h; exact ⟨.lst e, by simp⟩
   ·cases h; exact ⟨.tup e, by simp⟩
   ·cases h; exact ⟨.dK e, by simp⟩
 | _ => cases h
theorem Zll {K : PySem.W.Frag} {n T : String} (hn : n ∈ ["NoneType", "bool", "int", "str", "list", "tuple", "dict"]) (hT : T ∈ ["bool", "int", "str", "list", "tuple", "dict"]) : PySem.W.kitOne K (.type n) (.type T) = some (Zg6 n T) := by
 simp only [List.mem_cons, List.not_mem_nil, or_false] at hn hT;rcases hn with rfl | rfl | rfl | rfl | rfl | rfl | rfl <;> rcases hT with rfl | rfl | rfl | rfl | rfl | rfl <;> rfl
def Zm0 (T : String) : List V -> Hp -> VK -> Prop := fun xs H Q => ∃ x n, xs = [x, .ty T] /\ tyF H x = some n /\ Q (.bl (Zg6 n T)) H
theorem Zcn {X : Cx} (T : String) (hT : T ∈ ["bool", "int", "str", "list", "tuple", "dict"] := by decide) : CallR X (.builtin "isinstance") (Zm0 T) := by
 intro pins s σ H xs us Q I r h;obtain ⟨x, n, rfl, ty, q⟩ := h;obtain ⟨t1, t2⟩ := Zl8 (K := X.K) ty;exact Zj4 pins s σ H _ us Q I r ⟨x, .ty T, _, _, rfl, t1, rfl, Zll t2 hT, q⟩
theorem Zb7 {H : Hp} {a : Addr} {xs : List V} (h : H a = some (.lst xs)) : tyF H (.ref a) = some "list" := by show (H a).bind tyO = _; rw [h]; rfl
theorem Zkv {H : Hp} {a : Addr} {xs : List V} (h : H a = some (.tup xs)) : tyF H (.ref a) = some "tuple" := by show (H a).bind tyO = _; rw [h]; rfl
theorem Zky {H : Hp} {i : Int} : tyF H (.int i) = some "int" := rfl
theorem Zl9 {H : Hp} {i : Bool} : tyF H (.bl i) = some "bool" := rfl
theorem Zkw {H : Hp} {i : Str} : tyF H (.str i) = some "str" := rfl
theorem Zkx {H : Hp} : tyF H .non = some "NoneType" := rfl
section
variable {CX : CXT} {P : Program} {w : World} {K : PySem.W.Frag} {mg : Str -> Option Value} {base : Heap} {N : List Str} {q : Str} {sc : Scope} {f : Addr} {cd : Value} {A : Around} {o : List Env} {s : Shared} {H : Hp} {E : XK}
theorem cxK : (cxOf CX P w K mg base N q sc f cd A o s H E).K = K := rfl
end
end L2
set_option Elab.async false
set_option linter.all false
set_option maxRecDepth 100000
set_option maxHeartbeats 4000000
namespace L2
open PySem PySem.Spec PyProof.Rows
def isI : V -> Bool
 | .int _ => true
 | _ => false
def isB : V -> Bool
 | .bl _ => true
 | _ => false
def isS : V -> Bool
 | .str _ => true
 | _ => false
def isL (H : Hp) : V -> Bool
 | .ref a => match H a with
  | some (.lst _) => true
  | _ => false
 | _ => false
theorem Zfx {o : HO} {n : String} (h : tyO o = some n) : n = "list" \/ n = "tuple" \/ n = "dict" := by
 cases o <;> first | (cases h; done) | (cases h; simp)
theorem Zl6 {H : Hp} {x : V} {n : String} (h : tyF H x = some n) : Zg6 n "int" = (isI x || isB x) := by
 cases x with
 | ref a =>
  have h : (H a).bind tyO = some n := h;cases e : H a with
  | none => rw [e] at h; cases h
  | some o =>
   rw [e] at h;rcases Zfx h with rfl | rfl | rfl <;> rfl
 | _ => first | (cases h; done) | (cases h; rfl)
theorem Zhw {H : Hp} {x : V} {n : String} (h : tyF H x = some n) : Zg6 n "bool" = isB x := by
 cases x with
 | ref a =>
  have h : (H a).bind tyO = some n := h;cases e : H a with
  | none => rw [e] at h; cases h
  | some o =>
   rw [e] at h;rcases Zfx h with rfl | rfl | rfl <;> rfl
 | _ => first | (cases h; done) | (cases h; rfl)
theorem Zl5 {H : Hp} {x : V} {n : String} (h : tyF H x = some n) : Zg6 n "str" = isS x := by
 cases x with
 | ref a =>
  have h : (H a).bind tyO = some n := h;cases e : H a with
  | none => rw [e] at h; cases h
  | some o =>
   rw [e] at h;rcases Zfx h with rfl | rfl | rfl <;> rfl
 | _ => first | (cases h; done) | (cases h; rfl)
theorem Zku {H : Hp} {x : V} {n : String} (h : tyF H x = some n) : Zg6 n "list" = isL H x := by
 cases x with
 | ref a =>
  have h : (H a).bind tyO = some n := h;cases e : H a with
  | none => rw [e] at h; cases h
  | some o =>
   rw [e] at h;have e2 : isL H (.ref a) = match some o with | some (.lst _) => true | _ => false := by
    show (match H a with | some (.lst _) => true | _ => false) = _;rw [e]
   rw [e2];cases o <;> first | (cases h; done) | (cases h; rfl)
 | _ => first | (cases h; done) | (cases h; rfl)
theorem Zko {H : Hp} {x : V} (h : isL H x = true) : ∃ a xs, x = .ref a /\ H a = some (.lst xs) := by
 cases x with
 | ref a =>
  have h : (match H a with | some (.lst _) => true | _ => false) = true := h;cases e : H a with
  | none => rw [e] at h; cases h
  | some o =>
   rw [e] at h;cases o <;> first | (cases h; done) | exact ⟨a, _, rfl, e⟩
 | _ => cases h
theorem Zbo {H H' : Hp} (s : Same H H') {x : V} {n : String} (h : tyF H x = some n) : tyF H' x = some n := by
 cases x with
 | ref a =>
  have h : (H a).bind tyO = some n := h;show (H' a).bind tyO = some n;cases e : H a with
  | none => rw [e] at h; cases h
  | some o => rw [s a o e]; rw [e] at h; exact h
 | _ => exact h
def wIn (x : V) (lo hi : Int) : Bool := match x with
 | .int i => decide (lo <= i) && decide (i <= hi)
 | _ => false
def Zdu (c : Nat) : Bool := decide (97 <= c) && decide (c <= 122)
def isNm : V -> Bool
 | .str z => decide (1 <= z.length) && decide (z.length <= 8) && z.cps.toList.all Zdu
 | _ => false
def isBd (H : Hp) : V -> Bool
 | .ref a => match H a with
  | some (.lst xs) => decide (1 <= xs.length) && decide (xs.length <= 4000) && xs.all (fun y => wIn y 0 255)
  | _ => false
 | _ => false
theorem Zdi {H : Hp} {a : Addr} {xs : List V} (h : H a = some (.lst xs)) : isBd H (.ref a) = (decide (1 <= xs.length) && decide (xs.length <= 4000) && xs.all (fun y => wIn y 0 255)) := by
 show (match H a with | some (.lst xs) => decide (1 <= xs.length) && decide (xs.length <= 4000) && xs.all (fun y => wIn y 0 255) | _ => false) = _;rw [h]
theorem Zgd {H : Hp} {x : V} (h : isL H x = false) : isBd H x = false := by
 cases x with
 | ref a =>
  have h : (match H a with | some (.lst _) => true | _ => false) = false := h;show (match H a with | some (.lst xs) => _ | _ => false) = false;cases e : H a with
  | none => rfl
  | some o =>
   rw [e] at h;cases o <;> first | rfl | cases h
 | _ => rfl
theorem Same.new {H H' : Hp} {p : Addr} {o : HO} (x : Same H H') (h : H p = none) : Same H (upd H' p o) := fun b u e => by
 rw [Zaj (Za0 e h)]; exact x b u e
theorem Zk5 (c : Nat) : ((!decide ((⟨#[c]⟩ : Str).cps.toList < ("a" : Str).cps.toList)) = decide (97 <= c)) /\ ((!decide (("z" : Str).cps.toList < (⟨#[c]⟩ : Str).cps.toList)) = decide (c <= 122)) := by
 have ha : ("a" : Str).cps.toList = [97] := by decide +kernel
 have hz : ("z" : Str).cps.toList = [122] := by decide +kernel
 rw [ha, hz];have e : (⟨#[c]⟩ : Str).cps.toList = [c] := rfl;rw [e];have lt1 : ∀ a b : Nat, ([a] < [b]) ↔ a < b := fun a b => by
  constructor
  ·intro h;rcases List.cons_lt_cons_iff.mp h with h | ⟨_, h⟩
   ·exact h
   ·exact absurd h (List.not_lt_nil _)
  ·intro h; exact List.cons_lt_cons_iff.mpr (.inl h)
 constructor
 ·rw [Bool.eq_iff_iff]; simp only [Bool.not_eq_true', decide_eq_false_iff_not, decide_eq_true_eq, lt1]; omega
 ·rw [Bool.eq_iff_iff]; simp only [Bool.not_eq_true', decide_eq_false_iff_not, decide_eq_true_eq, lt1]; omega
end L2
set_option Elab.async false
set_option linter.all false
set_option maxRecDepth 100000
set_option maxHeartbeats 4000000
namespace L2
open PySem PySem.Spec PyProof.Rows
def tUp (t : TS) : TS := fun D σ H => ∃ R : St -> Hp -> Prop, t { D with nx := R } σ H /\ ∀ σ' H', R σ' H' -> D.nx σ' H'
theorem Zoz {X : Cx} {st : Stmt} {t : TS} (h : PS X st t) : PS X st (tUp t) := by
 intro pins s σ H D I hw;obtain ⟨R, h1, h2⟩ := hw;refine thn (h pins s σ H _ I h1) fun f s' q => ?_
 cases f with
 | next => obtain ⟨σ', H', I', q'⟩ := q; exact ⟨σ', H', I', h2 σ' H' q'⟩
 | brk => exact q
 | cont => exact q
 | ret v => exact q
end L2
set_option Elab.async false
set_option linter.all false
set_option maxRecDepth 100000
set_option maxHeartbeats 4000000
namespace L2
open PySem PySem.Spec PyProof.Rows
section
variable {X : Cx} {K : PySem.W.Frag}
theorem Zaw (h : X.K = K) : IxR X (Zou K) := h ▸ Zln
theorem Zch (h : X.K = K) : IxR X (Zos K) := h ▸ Znp
theorem Zjg (h : X.K = K) : SlR X (Zom K) := h ▸ Zk4
def Zpn (K : PySem.W.Frag) : List V -> Hp -> VK -> Prop := fun xs H Q => ∃ p ys, xs = [.ref p] /\ (SqL K H p ys \/ SqT K H p ys) /\ Q (.int ys.length) H
def Zh9 (K : PySem.W.Frag) : List V -> Hp -> VK -> Prop := fun xs H Q => ∃ p ys, xs = [.ref p] /\ (SqL K H p ys \/ SqT K H p ys) /\ ∀ l, H l = none -> Q (.ref l) (upd H l (.lst ys))
def Zpq (K : PySem.W.Frag) : List V -> Hp -> VK -> Prop := fun xs H Q => ∃ (p : Addr) (bs : List Bool), xs = [.ref p] /\ SqL K H p (bs.map V.bl) /\ Q (.bl (bs.all id)) H
theorem Za2 (h : X.K = K) : CallR X (.builtin "len") (Zpn K) := h ▸ Zfq
theorem Zhr (h : X.K = K) : CallR X (.type "list") (Zh9 K) := h ▸ Zfo
theorem Zfr (hc : X.calm = true) (h : X.K = K) : CallR X (.builtin "all") (Zpq K) := h ▸ Zj5 hc
theorem Zih {e : Expr} {f : Str} {pos : Pos} {ta : TE} (h : X.K = K) (he : PE X e ta) (hb : attributeBase e f X.env (eval e X.env) = eval e X.env) : PE X (.Attribute e f pos) (Zoe K ta f) := h ▸ Zm9 he hb
theorem Zc0 {o value : Expr} {f : Str} {pos pos' : Pos} {ta tv : TE} (h : X.K = K) (ha : PE X o ta) (hv : PE X value tv) (hs : swapsWith value (some (.Attribute o f pos')) pos.line X.env = pure false) : PS X (.Assign [.Attribute o f pos'] value pos) (Zoj K ta tv f) := h ▸ Zm4 ha hv hs
theorem Zev {tg l : Expr} {tl : TE} (h : X.K = K) (hl : PE X l tl) : PI X tg l (Zlo K tl) := h ▸ Zld hl
theorem Zdw {o e : Expr} {es : List Expr} {to : TE} {t : TA} {name : Str} {apos cpos : Pos} {T id : String} {r : V -> List V -> Hp -> VK -> Prop} (h : X.K = K) (pa : PlainAttrs T) (slot : Slot T name id) (hty : typeOf (.builtin id) = pure (.type "method_descriptor")) (hm : MtR X id r) (ho : PE X o to) (ha : PA X (e :: es) t)
  (hbase : attributeBase o name X.env (eval o X.env) = eval o X.env := by rfl)
  (hfew : ((backTo cpos (starEach (e :: es) X.env)).all (fun x => !x.1) && (backToKw cpos (keywordEach [] X.env)).all (fun x => x.1.isSome)
   && decide ((e :: es).length + ([] : List Keyword).length + (if ([] : List Keyword).isEmpty then 0 else 1) < 30)) = true := by rfl)
  (hline : (apos.endLine == cpos.line) = true := by rfl) (hs : starEach (e :: es) X.env = (false, eval e X.env) :: starEach es X.env := by rfl) (hplain : (backTo cpos (starEach es X.env)).any (·.1) = false := by rfl) :
  PE X (.Call (.Attribute o name apos) (e :: es) [] cpos) (tBM K T r to t) := h ▸ Zo0 pa slot hty hm ho ha hbase hfew hline hs hplain
def Zp4 (K : PySem.W.Frag) (ta : TE) : TT := fun σ H Q => ta σ H fun x H1 => ∃ k, TruV K x H1 k /\ Q k H1
end
end L2
set_option Elab.async false
set_option linter.all false
set_option maxRecDepth 100000
set_option maxHeartbeats 4000000
namespace L2
open PySem PySem.Spec PyProof.Rows
section
variable {X : Cx}
end
end L2
set_option Elab.async false
set_option linter.all false
set_option maxRecDepth 100000
set_option maxHeartbeats 4000000
namespace L2
open PySem PySem.Spec PyProof.Rows
theorem Zbc {H : Hp} {p : Addr} {o : HO} (h : H p = none) : Same H (upd H p o) := (Same.refl H).new h
section
variable {X : Cx} {es : List Expr} {t : TA} {pos : Pos}
def Zmb (t : TA) : TE := fun σ H Q => t σ H fun xs H1 => xs.length <= sizeLine /\ ∀ p G, H1 p = none -> Same H1 G -> G p = some (.tup xs) -> Q (.ref p) G
def Zmf (t : TA) : TE := fun σ H Q => t σ H fun xs H1 => xs.length <= sizeLine /\ ∀ p G, H1 p = none -> Same H1 G -> G p = some (.lst xs) -> Q (.ref p) G
theorem Zew {x1} (h : PA X es t) : PE X (.Tuple es x1 pos) (Zmb t) := by
 intro pins s σ H Q I hq;refine wpAny_Tuple_spliced (thn (h pos pins s σ H _ I hq) fun us s1 ⟨xs, H1, I1, r, z, q⟩ => ⟨by rw [<- r.length]; exact z, ?_⟩);have hf : H1 s1.heap.objs.size = none := I1.hok.fresh (Nat.le_refl _);refine ⟨.ref s1.heap.objs.size, upd H1 s1.heap.objs.size (.tup xs), I1.laid (t' := s1.toks) (fun b u e => Heap.get?_push_of_some _ e) (Nat.le_refl _) ?_, rfl, q _ _ hf (Zbc hf) Zai⟩;exact ⟨z, us, r, ⟨_, Heap.get?_push_size _ rfl, rfl, _, rfl⟩⟩
theorem Za4 (h : PA X es t) : PE X (.List es pos) (Zmf t) := by
 intro pins s σ H Q I hq;refine wpAny_List_spliced (thn (h pos pins s σ H _ I hq) fun us s1 ⟨xs, H1, I1, r, z, q⟩ => ⟨by rw [<- r.length]; exact z, ?_⟩);have hf : H1 s1.heap.objs.size = none := I1.hok.fresh (Nat.le_refl _);refine ⟨.ref s1.heap.objs.size, upd H1 s1.heap.objs.size (.lst xs), I1.laid (t' := s1.toks) (fun b u e => Heap.get?_push_of_some _ e) (Nat.le_refl _) ?_, rfl, q _ _ hf (Zbc hf) Zai⟩;exact ⟨z, us, 0, r, Heap.get?_push_size _ rfl⟩
end
section
variable {X : Cx} {K : PySem.W.Frag}
theorem OpR.imp {f : Value -> Value -> Sem Value} {r r' : R2} (h : OpR X f r) (hi : ∀ x y H Q, r' x y H Q -> r x y H Q) : OpR X f r' := fun pins s σ H x y v u Q I rx ry q => h pins s σ H x y v u Q I rx ry (hi _ _ _ _ q)
theorem CallR.imp {f : Value} {r r' : List V -> Hp -> VK -> Prop} (h : CallR X f r) (hi : ∀ xs H Q, r' xs H Q -> r xs H Q) : CallR X f r' := fun pins s σ H xs us Q I rx q => h pins s σ H xs us Q I rx (hi _ _ _ q)
theorem MtM.imp {id : String} {r r' : V -> List V -> Hp -> VK -> Prop} (h : MtM X id r) (hi : ∀ x xs H Q, r' x xs H Q -> r x xs H Q) : MtM X id r' := fun pins s σ H x xs v us Q I rx rv q => h pins s σ H x xs v us Q I rx rv (hi _ _ _ _ q)
theorem SlR.imp {r r' : V -> Option Int -> Option Int -> Hp -> VK -> Prop} (h : SlR X r) (hi : ∀ x a b H Q, r' x a b H Q -> r x a b H Q) : SlR X r' := fun pins s σ H x v vl vu lo hi' sl Q I rx hs pl pu q => h pins s σ H x v vl vu lo hi' sl Q I rx hs pl pu (hi _ _ _ _ _ q)
def Zm3 : R2 := fun x y H Q => ∃ l b xs zs, x = .ref l /\ y = .ref b /\ H l = some (.lst xs) /\ H b = some (.lst zs) /\ xs.length + zs.length <= sizeLine /\ ∀ p G, H p = none -> Same H G -> G p = some (.lst (xs ++ zs)) -> Q (.ref p) G
theorem Zc3 : OpR X (binaryOp .Add) Zm3 := op_cat.imp fun x y H Q ⟨l, b, xs, zs, e1, e2, h1, h2, h3, q⟩ => ⟨l, b, xs, zs, e1, e2, h1, h2, h3, fun p hp => q p _ hp (Zbc hp) Zai⟩
def Zmv : R2 := fun x y H Q => ∃ l k xs, x = .ref l /\ y = .int k /\ H l = some (.lst xs) /\ -(2 ^ 63) <= k /\ k < 2 ^ 63 /\ xs.length * k.toNat <= sizeLine /\ ∀ p G, H p = none -> Same H G -> G p = some (.lst (List.replicate k.toNat xs).flatten) -> Q (.ref p) G
theorem Zii : OpR X (binaryOp .Mult) Zmv := op_rep.imp fun x y H Q ⟨l, k, xs, e1, e2, h1, h2, h3, h4, q⟩ => ⟨l, k, xs, e1, e2, h1, h2, h3, h4, fun p hp => q p _ hp (Zbc hp) Zai⟩
def Zjk (K : PySem.W.Frag) : List V -> Hp -> VK -> Prop := fun xs H Q => ∃ p ys, xs = [.ref p] /\ (SqL K H p ys \/ SqT K H p ys) /\ ∀ l G, H l = none -> Same H G -> G l = some (.lst ys) -> Q (.ref l) G
def Zms (K : PySem.W.Frag) : V -> Option Int -> Option Int -> Hp -> VK -> Prop := fun x lo hi H Q => ∃ a xs, x = .ref a /\ SqL K H a xs /\ ∀ p G, H p = none -> Same H G -> G p = some (.lst (Zgh xs lo hi)) -> Q (.ref p) G
theorem Zc7 (h : X.K = K) : SlR X (Zms K) := (Zjg h).imp fun x a b H Q ⟨p, ys, e, h1, q⟩ => ⟨p, ys, e, h1, fun l hl => q l _ hl (Zbc hl) Zai⟩
def Zgs : V -> List V -> Hp -> VK -> Prop := fun x vs H Q => ∃ l xs y, x = .ref l /\ vs = [y] /\ H l = some (.lst xs) /\ xs.length < sizeLine /\ ∀ G, But l H G -> G l = some (.lst (xs ++ [y])) -> Q .non G
theorem Zbv : MtM X "list.append" Zgs := mt_append.imp fun x xs H Q ⟨l, ys, y, e1, e2, h1, h2, q⟩ => ⟨l, ys, y, e1, e2, h1, h2, q _ But.upd Zai⟩
def Zjl : V -> List V -> Hp -> VK -> Prop := fun x vs H Q => ∃ l b xs zs, x = .ref l /\ vs = [.ref b] /\ H l = some (.lst xs) /\ H b = some (.lst zs) /\ xs.length + zs.length <= sizeLine /\ ∀ G, But l H G -> G l = some (.lst (xs ++ zs)) -> Q .non G
def Zoo : V -> List V -> Hp -> VK -> Prop := fun x vs H Q => ∃ l xs y, x = .ref l /\ vs = [] /\ H l = some (.lst xs) /\ xs[xs.length - 1]? = some y /\ ∀ G, But l H G -> G l = some (.lst xs.dropLast) -> Q y G
def Zlc : V -> List V -> Hp -> VK -> Prop := fun x vs H Q => ∃ l xs, x = .ref l /\ vs = [] /\ H l = some (.lst xs) /\ ∀ G, But l H G -> G l = some (.lst []) -> Q .non G
def Zmt : V -> V -> V -> Hp -> (Hp -> Prop) -> Prop := fun o i v H Q => ∃ p xs k j, o = .ref p /\ i = .int k /\ H p = some (.lst xs) /\ ixN xs.length k = some j /\ ∀ G, But p H G -> G p = some (.lst (xs.set j v)) -> Q G
def Zoi (K : PySem.W.Frag) (ta tv : TE) (f : Str) : TS := fun D σ H => tv σ H fun y H1 => ta σ H1 fun x H2 => ∃ a C dx fs, x = .ref a /\ H2 a = some (.ins C dx fs) /\ Cls K C /\ NoAttr K C f /\ fs.length < 1000 /\
 ∀ G, But a H2 G -> G a = some (.ins C dx (putF f y fs)) -> D.nx σ G
end
def FldV (K : PySem.W.Frag) (H : Hp) (x : V) (f : Str) (v : V) : Prop := ∃ a C dx fs, x = .ref a /\ H a = some (.ins C dx fs) /\ Cls K C /\ NoAttr K C f /\ fs.lookup f = some v
def Zod (K : PySem.W.Frag) (ta : TE) (f : Str) : TE := fun σ H Q => ta σ H fun x H1 => ∃ v, FldV K H1 x f v /\ Q v H1
structure CtB (P : Program) (w : World) (K : PySem.W.Frag) (mg : Str -> Option Value) (base : Heap) (x : Str) (k : Nat) (sp : Sp) : Prop where
 ex : ∃ (f C : Addr) (fd : FuncData) (ds : List Value) (dvs : List V) (ps : List Str) (sp0 : Sp), Zcc P w K mg base CX0 k f fd ps sp0 /\ mg x = some (.ref C) /\ Mk K C f /\ Binds K fd ps ds /\ Vals dvs ds /\
  ∀ vs H Q, sp vs H Q E0 -> ∀ y dx G, H y = none -> H dx = none -> dx ≠ y -> Same H G -> G y = some (.ins C dx []) -> sp0 (.ref y :: (vs ++ dvs)) G (fun v H2 => v = .non /\ Q (.ref y) H2) E0
def Zpx (C : Addr) (m : Str) (H : Hp) (x : V) : Prop := ∃ a dx fs, x = .ref a /\ H a = some (.ins C dx fs) /\ fs.lookup m = none
def Zka (C : Addr) (m : Str) (sp : Sp) (dvs : List V) (ta : TE) (t : TA) : TE := fun σ H Q => ta σ H fun x H1 => Zpx C m H1 x /\ t σ H1 fun vs H2 => sp (x :: (vs ++ dvs)) H2 Q E0
section
variable {X : Cx} {k : Nat} {C : Addr} {ps : List Str} {sp : Sp} {dvs : List V} {m : Str} {pos apos : Pos} {e o : Expr} {es : List Expr} {ta : TE} {t : TA}
theorem Zdc {pl : Sem Bool} (he : PE X o ta) (F : MtB X.prog X.w X.K X.mg X.base C m k ps dvs sp) (hr : Room k X.A)
  (ht : eval (.Call (.Attribute o m apos) [] [] pos) X.env = (do
   let ov <- eval o X.env
   standAt apos.atName
   let (f, first) <- holding [ov] (getMethod ov m pl)
   callWith pos f first (backTo pos (starEach [] X.env)) (backToKw pos (keywordEach [] X.env))) := by rfl) :
  PE X (.Call (.Attribute o m apos) [] [] pos) (Zka C m sp dvs ta Zn8) := by
 obtain ⟨f, fd, ds, G, c, hm, hb, hd⟩ := F.ex;intro pins s σ H Q I h;refine PySem.W.methodCall_KW (pl := pl) (thn (he pins s σ H _ I h) fun u s1 ⟨x, H1, I1, rx, ⟨a, dx, fs, ex, ea, l⟩, q⟩ => ?_) ht;subst ex;obtain rfl : u = Value.ref a := rx;refine Zhn I1 ea c hm l ?_;exact PySem.W.callWith_K0 (first := [.ref a]) I1.kIn hm.kp (Zkd (us := [.ref a]) (vs := [.ref a]) G hr hb hd Znc I1 (.cons rfl .nil) q)
end
theorem Same.get {H G : Hp} {b : Addr} {o : HO} (s : Same H G) (h : H b = some o) : G b = some o := s b o h
theorem But.get {l : Addr} {H G : Hp} {b : Addr} {o : HO} (s : But l H G) (h : H b = some o) (n : b ≠ l) : G b = some o := s b o h n
theorem But.free {l : Addr} {H G : Hp} (s : But l H G) {b : Addr} (h : G b = none) (n : b ≠ l) : H b = none := by
 cases e : H b with
 | none => rfl
 | some o => rw [s b o e n] at h; cases h
theorem Same.toBut {l : Addr} {H G : Hp} (s : Same H G) : But l H G := fun b o e _ => s b o e
section
variable {caps : List (Option Nat)} {g : TG} {tc : TT} {te : TE}
theorem Zhq {K : PySem.W.Frag} {a : Addr} {xs : List V} {σ : St} {H1 : Hp} {Q : VK} (Pv : Nat -> List V -> St -> Hp -> Prop) (h0 : Pv 0 [] (capSt caps σ) H1) (hl : ∀ i ys σ H, Pv i ys σ H -> i <= xs.length -> SqL K H a xs /\ ys.length <= i) (hz : xs.length <= sizeLine)
  (hs : ∀ i x ys σ H, xs[i]? = some x -> Pv i ys σ H -> g x σ H fun σ2 H2 => tc σ2 H2 fun b H3 => if b = true then te σ2 H3 fun y H4 => Pv (i + 1) (ys ++ [y]) σ2 H4 else Pv (i + 1) ys σ2 H3)
  (hd : ∀ ys σ H, Pv xs.length ys σ H -> ∀ p G, H p = none -> Same H G -> G p = some (.lst ys) -> Q (.ref p) G) : Zen caps g tc te σ Q (Itl K a) H1 :=
 Zfm Pv h0 hl hz hs fun ys σ H h p hp => hd ys σ H h p _ hp (Zbc hp) Zai
theorem Zgi {lo : Int} {n : Nat} {σ : St} {H1 : Hp} {Q : VK} (Pv : Nat -> List V -> St -> Hp -> Prop) (h0 : Pv 0 [] (capSt caps σ) H1) (hl : ∀ i ys σ H, Pv i ys σ H -> i <= n -> ys.length <= i) (hz : n <= sizeLine)
  (hs : ∀ i ys σ H, i < n -> Pv i ys σ H -> g (.int (lo + i)) σ H fun σ2 H2 => tc σ2 H2 fun b H3 => if b = true then te σ2 H3 fun y H4 => Pv (i + 1) (ys ++ [y]) σ2 H4 else Pv (i + 1) ys σ2 H3)
  (hd : ∀ ys σ H, Pv n ys σ H -> ∀ p G, H p = none -> Same H G -> G p = some (.lst ys) -> Q (.ref p) G) : Zen caps g tc te σ Q (Itr lo n) H1 :=
 Zel Pv h0 hl hz hs fun ys σ H h p hp => hd ys σ H h p _ hp (Zbc hp) Zai
end
end L2
set_option Elab.async false
set_option linter.all false
set_option maxRecDepth 100000
set_option maxHeartbeats 4000000
namespace L2
open PySem PySem.Spec PyProof.Rows
structure Zqf (K : PySem.W.Frag) (C : Addr) : Prop where
 ha : PySem.W.findIn K (.ref C) "__class__" = some (some (.builtin "object.__class__"))
 hn : PySem.W.specialIn K (.builtin "object.__class__") "__get__" = some (some (.builtin "getset_descriptor.__get__"))
 htk : PySem.W.takesIn K (.builtin "object.__class__") = some true
 hm : PySem.W.mroIn K C (.type "object") = some true
def Zov (C : Addr) : List V -> Hp -> VK -> Prop := fun xs H Q => ∃ a dx fs, xs = [.ref a, .ref C] /\ H a = some (.ins C dx fs) /\ Q (.bl true) H
section
variable {P : Program} {w : World} {K : PySem.W.Frag} {mg : Str -> Option Value} {base : Heap}
end
def Zpz (t : TE) : TE := fun σ H Q => ∃ R : VK, t σ H R /\ ∀ v H', R v H' -> Q v H'
theorem Zan {t u : TS} {D : Zht} {σ : St} {H : Hp} (h : ∀ N : St -> Hp -> Prop, (∀ σ' H', u D σ' H' -> N σ' H') -> t { D with nx := N } σ H) : Zn6 t u D σ H := h (u D) fun _ _ x => x
theorem Zi3 {ns : List V} {lo : Nat} (h1 : lo <= ns.length) : Zgh ns (some (lo : Int)) none = ns.drop lo := by
 unfold Zgh;rw [HT.sIx_nat, HT.sIx_none, Nat.min_eq_left h1, List.take_of_length_le];rw [List.length_drop]; exact Nat.le_refl _
theorem Zgf {ns : List V} {hi : Nat} (h1 : hi <= ns.length) : Zgh ns none (some (hi : Int)) = ns.take hi := by
 unfold Zgh;rw [HT.sIx_nat, HT.sIx_none, Nat.min_eq_left h1, Nat.sub_zero, List.drop_zero]
end L2
set_option Elab.async false
set_option linter.all false
set_option maxRecDepth 100000
set_option maxHeartbeats 4000000
namespace L2
open PySem PySem.Spec PyProof.Rows
section
variable {κ : Type} [DecidableEq κ]
def valV (kvs : List (κ × V)) (k : κ) : Option V := (kvs.find? fun kv => decide (kv.1 = k)).map (·.2)
def Zny (kvs : List (κ × V)) (k : κ) (v : V) : List (κ × V) :=
 if (kvs.any fun kv => decide (kv.1 = k)) = true then kvs.map (fun kv => if kv.1 = k then (kv.1, v) else kv) else kvs ++ [(k, v)]
end
abbrev KT (H : Hp) : List (List Key × V) -> List (List Key × Addr × Value) -> Prop := Paired fun p q => p.1 = q.1 /\ H q.2.1 = some (.tup (p.1.map kV)) /\ RelV p.2 q.2.2
section
variable {P : Program} {w : World} {H : Hp} {h : Heap} {a : Addr}
end
def Zqg (H : Hp) (a : Addr) (y : V) (r : Option V) : Prop :=
 (∃ kvs k, Rd H a (.dK kvs) /\ y = kV k /\ r = valV kvs k) \/ ∃ kvs k b, Rd H a (.dT kvs) /\ y = .ref b /\ H b = some (.tup (k.map kV)) /\ r = valV kvs k
section
variable {X : Cx} {pins : List (Addr × Obj)} {σ : St} {H : Hp} {s : Shared} {a : Addr} {y v : V} {u r : Value} {o : Option V} {A : Around} {E : Value -> Shared -> Prop}
end
section
variable {X : Cx} {pins : List (Addr × Obj)} {σ : St} {H : Hp} {s : Shared} {a : Addr} {kvs : List (Key × V)} {k : Key} {u : Value} {A : Around} {E : Value -> Shared -> Prop}
end
def Zog (td ty : TE) : TE := fun σ H Q => td σ H fun x H1 => ty σ H1 fun y H2 => ∃ a v, x = .ref a /\ Zqg H2 a y (some v) /\ Q v H2
section
variable {X : Cx} {o i e value : Expr} {pos pos' tpos : Pos} {td ty tv : TE}
end
section
variable {X : Cx} {pos : Pos}
end
def Zh0 : List (TE × TE) -> St -> Hp -> (List (V × V) -> Hp -> Prop) -> Prop
 | [], _, H, Q => Q [] H
 | (tk, tv) :: r, σ, H, Q => tk σ H fun x H1 => tv σ H1 fun y H2 => Zh0 r σ H2 fun ps H3 => Q ((x, y) :: ps) H3
abbrev VV : List (V × V) -> List (Value × Value) -> Prop := Paired fun p q => RelV p.1 q.1 /\ RelV p.2 q.2
def Znh (kvs more : List (Key × V)) : List (Key × V) := more.foldl (fun acc kv => Zny acc kv.1 kv.2) kvs
def Zof (trs : List (TE × TE)) : TE := fun σ H Q => ∀ p, H p = none -> Zh0 trs σ (upd H p (.dK [])) fun ps H2 => H2 p = some (.dK []) /\ ∃ kvs : List (Key × V), ps = kvs.map (fun kv => (kV kv.1, kv.2)) /\ kvs.length <= 15 /\ Q (.ref p) (upd H2 p (.dK (Znh [] kvs)))
section
variable {X : Cx}
end
end L2
set_option Elab.async false
set_option linter.all false
set_option maxRecDepth 100000
set_option maxHeartbeats 4000000
namespace L2
open PySem PySem.Spec PyProof.Rows
section
variable {X : Cx} {K : PySem.W.Frag}
def Zmq (K : PySem.W.Frag) : List V -> Hp -> VK -> Prop := fun xs H Q => ∃ (p : Addr) (ns : List Int), xs = [.ref p] /\ SqL K H p (ns.map V.int) /\ ns.length < 64 /\ ∀ (ms : List Int) l G, ms.Perm ns -> ms.Pairwise (· <= ·) -> H l = none -> Same H G -> G l = some (.lst (ms.map V.int)) -> Q (.ref l) G
def Zok (K : PySem.W.Frag) : List V -> Hp -> VK -> Prop := fun xs H Q => ∃ (p : Addr) (ns : List Int), xs = [.ref p] /\ SqL K H p (ns.map V.int) /\ (∀ x ∈ ns, -(2 ^ 62) <= x /\ x < 2 ^ 62) /\ (∀ j, j <= ns.length -> -(2 ^ 62) <= (ns.take j).sum /\ (ns.take j).sum < 2 ^ 62) /\ Q (.int ns.sum) H
end
end L2
set_option Elab.async false
set_option linter.all false
set_option maxRecDepth 100000
set_option maxHeartbeats 400000
namespace L2
open PySem PySem.Spec PyProof.Rows
section
variable {prog : Program} {w : World} {A : Around} {E : Value -> Shared -> Prop} {s : Shared}
end
def Zpe (val : Nat -> Int) : Nat -> Int
 | 0 => val 0
 | j + 1 => if val (j + 1) > Zpe val j then val (j + 1) else Zpe val j
section
variable {prog : Program} {w : World} {A : Around} {R : Result -> Shared -> Prop} {I : Addr} {fp wr : List Addr} {n : Nat} {P : Nat -> Value -> Prop} {St : Nat -> Heap -> Prop}
end
def Zmx (K : PySem.W.Frag) : V -> V -> Hp -> VK -> Prop := fun x d H Q => ∃ (p : Addr) (ns : List Int), x = .ref p /\ SqL K H p (ns.map V.int) /\ (ns = [] -> Q d H) /\ ∀ v, v ∈ ns -> (∀ y ∈ ns, y <= v) -> Q (.int v) H
def Zob (K : PySem.W.Frag) (ta tb : TE) : TE := fun σ H Q => ta σ H fun x H1 => tb σ H1 fun d H2 => Zmx K x d H2 Q
section
variable {X : Cx} {K : PySem.W.Frag}
end
end L2
namespace L2
open PySem PySem.Spec PyProof.Rows
section
variable {X : Cx}
def Zmy : List V -> Hp -> VK -> Prop := fun xs H Q => ∃ a kvs, xs = [V.ref a] /\ H a = some (.dK kvs) /\ ∀ l G, H l = none -> Same H G -> G l = some (.lst (kvs.map fun kv => kV kv.1)) -> Q (.ref l) G
end
end L2
namespace L2
open PySem PySem.Spec PyProof.Rows
structure Bt2 (mg : Str -> Option Value) : Prop where
 sum : mg "sum" = none
 sorted : mg "sorted" = none
section
variable {X : Cx} {pos pos' : Pos} {o i value : Expr} {td ty tv : TE}
def Zmi : TE := fun _ H Q => ∀ p G, H p = none -> Same H G -> G p = some (.dK []) -> Q (.ref p) G
def Zmo (td ty tv : TE) : TS := fun D σ H => tv σ H fun v H1 => td σ H1 fun x H2 => ty σ H2 fun y H3 => ∃ a n kvs, x = .ref a /\ y = .int n /\ H3 a = some (.dK kvs) /\ kvs.length < sizeLine /\ ∀ G, But a H3 G -> G a = some (.dK (Zny kvs (.inl n) v)) -> D.nx σ G
def Zlb : R2 := fun y x H Q => ∃ a n kvs, y = .int n /\ x = .ref a /\ H a = some (.dK kvs) /\ Q (.bl (!(valV kvs (Sum.inl n)).isSome)) H
def Zor : List V -> Hp -> VK -> Prop := fun xs H Q => ∃ a kvs, xs = [V.ref a] /\ H a = some (.dK kvs) /\ Q (.int kvs.length) H
end
end L2
set_option Elab.async false
set_option linter.all false
set_option maxRecDepth 100000
set_option maxHeartbeats 4000000
namespace L2
open PySem PySem.Spec PyProof.Rows
section
variable {X : Cx} {K : PySem.W.Frag}
def Zol (K : PySem.W.Frag) : List V -> Hp -> VK -> Prop := fun xs H Q => ∃ (p : Addr) (ns : List Int), xs = [.ref p] /\ SqL K H p (ns.map V.int) /\ Q (.int ns.sum) H
def Zk9 : V -> List V -> Hp -> VK -> Prop := fun x vs H Q => ∃ l xs i k y, x = .ref l /\ vs = [.int i] /\ H l = some (.lst xs) /\ -(2 ^ 63) <= i /\ i < 2 ^ 63 /\ seqIndex? i xs.length = some k /\ xs[k]? = some y /\ ∀ G, But l H G -> G l = some (.lst (xs.eraseIdx k)) -> Q y G
end
end L2
set_option Elab.async false
set_option linter.all false
set_option maxRecDepth 100000
set_option maxHeartbeats 4000000
namespace L2
open PySem PySem.Spec PyProof.Rows PySem.W
section
variable {α β : Type} {N : Nat} {lt : Nat -> Nat -> Bool}
def TOk (N : Nat) (lt : Nat -> Nat -> Bool) : KasT α -> (α -> Prop) -> Prop
 | .ret a, Q => Q a
 | .ask i j k, Q => i < N /\ j < N /\ TOk N lt (k (lt i j)) Q
end
section
variable {O : KeyOrd} {key : Nat -> O.α} {N : Nat} {p : Array Nat}
abbrev KLt (O : KeyOrd) (key : Nat -> O.α) (i j : Nat) : Bool := O.blt (key i) (key j)
end
end L2
set_option Elab.async false
set_option linter.all false
set_option maxRecDepth 100000
set_option maxHeartbeats 4000000
namespace L2
open PySem PySem.Spec PyProof.Rows PySem.W
section
variable {prog : Program} {w : World} {A : Around} {E : Value -> Shared -> Prop} {s : Shared} {O : KeyOrd} {key : Nat -> O.α} {κ : SortKind} {vs : List Value}
structure SortAsk (prog : Program) (w : World) (h : Heap) (O : KeyOrd) (key : Nat -> O.α) (κ : SortKind) (vs : List Value) : Prop where
 kind : ∀ (A : Around) (s : Shared) (Q : SortKind -> Shared -> Prop), (∀ b o, h.get? b = some o -> s.heap.get? b = some o) -> 2 <= vs.length -> Q κ s -> wpAny (model prog w) A (keyKind' vs.toArray) Q (fun _ _ => False) s
 cmp : ∀ (A : Around) (s : Shared) (i j : Nat) (C : Bool -> Shared -> Prop), (∀ b o, h.get? b = some o -> s.heap.get? b = some o) -> i < vs.length -> j < vs.length -> C (KLt O key i j) s -> kas_ask prog w A κ vs i j C s
end
section
variable {prog : Program} {w : World} {A : Around} {E : Value -> Shared -> Prop} {s : Shared}
end
section
variable {X : Cx} {K : PySem.W.Frag}
end
end L2
set_option Elab.async false
set_option linter.all false
set_option maxRecDepth 100000
set_option maxHeartbeats 4000000
namespace L2
open PySem PySem.Spec PyProof.Rows
section
variable {X : Cx} {pins : List (Addr × Obj)} {σ : St} {H : Hp} {s : Shared} {h' : Heap}
end
def Ite (K : PySem.W.Frag) (a : Addr) : It :=
 ⟨fun i H => ∃ xs x, SqL K H a xs /\ xs[i]? = some x, fun i H x H' => ∃ t y, x = .ref t /\ H t = none /\ Same H H' /\ H' t = some (.tup [.int i, y]) /\ ∀ xs, SqL K H a xs -> xs[i]? = some y, fun i H => ∃ xs, SqL K H a xs /\ xs.length <= i⟩
section
variable {X : Cx} {K : PySem.W.Frag}
def Zo9 (K : PySem.W.Frag) (ta : TA) : TI := fun σ H R => ta σ H fun vs H1 => ∃ l, vs = [.ref l] /\ (∃ xs, SqL K H1 l xs) /\ R (Ite K l) H1
end
def Itz (K : PySem.W.Frag) (a b : Addr) : It :=
  ⟨fun i H => ∃ xs ys x y, SqL K H a xs /\ SqL K H b ys /\ xs[i]? = some x /\ ys[i]? = some y, fun i H x H' => ∃ t y z, x = .ref t /\ H t = none /\ Same H H' /\ H' t = some (.tup [y, z]) /\ (∀ xs, SqL K H a xs -> xs[i]? = some y) /\ (∀ ys, SqL K H b ys -> ys[i]? = some z),
   fun i H => ∃ xs ys, SqL K H a xs /\ SqL K H b ys /\ (xs.length <= i \/ ys.length <= i)⟩
section
variable {X : Cx} {K : PySem.W.Frag}
def Zqa (K : PySem.W.Frag) (ta : TA) : TI := fun σ H R => ta σ H fun vs H1 => ∃ l1 l2, vs = [.ref l1, .ref l2] /\ (∃ xs, SqL K H1 l1 xs) /\ (∃ xs, SqL K H1 l2 xs) /\ R (Itz K l1 l2) H1
end
section
variable {X : Cx} {K : PySem.W.Frag}
def Zop (K : PySem.W.Frag) : List V -> Hp -> VK -> Prop := fun xs H Q => ∃ (p : Addr) (ns : List Int), xs = [.ref p] /\ SqL K H p (ns.map V.int) /\ ns ≠ [] /\ ∀ v, v ∈ ns -> (∀ y ∈ ns, v <= y) -> Q (.int v) H
end
def Zpu (val : Nat -> Int) : Nat -> Int
 | 0 => val 0
 | j + 1 => if val (j + 1) < Zpu val j then val (j + 1) else Zpu val j
section
variable {prog : Program} {w : World} {A : Around} {R : Result -> Shared -> Prop} {I : Addr} {fp wr : List Addr} {n : Nat} {P : Nat -> Value -> Prop} {St : Nat -> Heap -> Prop}
end
def Zmw (K : PySem.W.Frag) : V -> V -> Hp -> VK -> Prop := fun x d H Q => ∃ (p : Addr) (ns : List Int), x = .ref p /\ SqL K H p (ns.map V.int) /\ (ns = [] -> Q d H) /\ ∀ v, v ∈ ns -> (∀ y ∈ ns, v <= y) -> Q (.int v) H
def Zn9 (K : PySem.W.Frag) (ta tb : TE) : TE := fun σ H Q => ta σ H fun x H1 => tb σ H1 fun d H2 => Zmw K x d H2 Q
section
variable {X : Cx} {K : PySem.W.Frag}
end
section
variable {caps : List (Option Nat)} {g : TG} {tc : TT} {te : TE}
end
structure Bt3 (mg : Str -> Option Value) : Prop where
 enumerate : mg "enumerate" = none
 zip : mg "zip" = none
end L2
set_option Elab.async false
set_option linter.all false
set_option maxRecDepth 100000
set_option maxHeartbeats 4000000
namespace L2
open PySem PySem.Spec PyProof.Rows
def Zqe (lo st : Int) (n : Nat) : It := ⟨fun i _ => i < n, fun i H x H' => H' = H /\ x = .int (lo + i * st), fun i _ => n <= i⟩
def rsz (i j c : Int) : Nat := (Builtin.Range.rangeSize i j c).toNat
section
variable {X : Cx} {tg : Expr}
def Zo7 (ta : TA) : TI := fun σ H R => ta σ H fun vs H1 => ∃ i j c : Int, vs = [.int i, .int j, .int c] /\ (-(2 ^ 30) <= i /\ i < 2 ^ 30 /\ -(2 ^ 30) <= j /\ j < 2 ^ 30 /\ 0 < c /\ c < 2 ^ 20) /\ R (Zqe i c (rsz i j c)) H1
end
section
variable {caps : List (Option Nat)} {g : TG} {tc : TT} {te : TE}
end
section
variable {X : Cx}
def Zmh (n m : Int) : TE := fun _ H Q => ∀ p G, H p = none -> Same H G -> G p = some (.dK [(.inl n, .int m)]) -> Q (.ref p) G
end
end L2
set_option Elab.async false
set_option linter.all false
set_option maxRecDepth 100000
set_option maxHeartbeats 4000000
namespace L2
open PySem PySem.Spec PyProof.Rows
open Sem (wp)
open AutoSeq1 (wpAny_loadPart')
section
variable {prog : Program} {w : World} {A : Around} {E : Value -> Shared -> Prop} {s : Shared}
end
section
variable {prog : Program} {w : World} {A : Around} {E : Value -> Shared -> Prop} {s : Shared}
end
def Itn (K : PySem.W.Frag) (a : Addr) (c : Int) : It :=
 ⟨fun i H => ∃ xs x, SqL K H a xs /\ xs[i]? = some x, fun i H x H' => ∃ t y, x = .ref t /\ H t = none /\ Same H H' /\ H' t = some (.tup [.int (c + i), y]) /\ ∀ xs, SqL K H a xs -> xs[i]? = some y, fun i H => ∃ xs, SqL K H a xs /\ xs.length <= i⟩
section
variable {M : Model} {A : Around} {E : Value -> Shared -> Prop} {s : Shared} {env : Env}
end
section
variable {X : Cx} {K : PySem.W.Frag}
def Znt (K : PySem.W.Frag) (ta tb : TE) : TI := fun σ H R => ta σ H fun x H1 => tb σ H1 fun y H2 => ∃ l c, x = .ref l /\ y = .int c /\ -(2 ^ 62) <= c /\ c < 2 ^ 62 /\ (∃ xs, SqL K H2 l xs) /\ R (Itn K l c) H2
end
section
variable {X : Cx} {K : PySem.W.Frag}
def Zm1 (K : PySem.W.Frag) : R2 := fun x y H Q => ∃ a b xs, x = .ref a /\ y = .ref b /\ SqL K H a xs /\ SqL K H b [] /\ Q (.bl (decide (xs.length = 0))) H
def Zp7 : R2 := fun y x H Q => ∃ a n kvs, y = .int n /\ x = .ref a /\ H a = some (.dK kvs) /\ Q (.bl (valV kvs (Sum.inl n)).isSome) H
end
end L2
set_option Elab.async false
set_option linter.all false
set_option maxRecDepth 100000
namespace L2
open PySem PySem.Spec PyProof.Rows
section
variable {X : Cx} {pos pos' p0 : Pos} {o i value : Expr} {td ty tv tz : TE}
def Zmn (td ty tv : TE) : TS := fun D σ H => tv σ H fun v H1 => td σ H1 fun x H2 => ty σ H2 fun y H3 => ∃ a n kvs, x = .ref a /\ y = .str n /\ H3 a = some (.dK kvs) /\ kvs.length < sizeLine /\ ∀ G, But a H3 G -> G a = some (.dK (Zny kvs (.inr n) v)) -> D.nx σ G
def Zoy : R2 := fun y x H Q => ∃ a n kvs, y = .str n /\ x = .ref a /\ H a = some (.dK kvs) /\ Q (.bl (valV kvs (Sum.inr n)).isSome) H
def Zm2 : V -> List V -> Hp -> VK -> Prop := fun x vs H Q => ∃ a n kvs z, x = .ref a /\ vs = [.int n, z] /\ H a = some (.dK kvs) /\ Q ((valV kvs (Sum.inl n)).getD z) H
end
section
variable {X : Cx} {K : PySem.W.Frag}
def Zoq (K : PySem.W.Frag) : List V -> Hp -> VK -> Prop := fun xs H Q => ∃ (p : Addr) (ns : List Int), xs = [.ref p] /\ SqL K H p (ns.map V.int) /\ ns ≠ [] /\ ∀ v, v ∈ ns -> (∀ y ∈ ns, y <= v) -> Q (.int v) H
end
def Zow (K : PySem.W.Frag) : List V -> Hp -> VK -> Prop := fun xs H Q => ∃ a C1 C2 dx fs b, xs = [.ref a, .ref C2] /\ H a = some (.ins C1 dx fs) /\ Cls K C1 /\ Zqf K C1 /\ PySem.W.kitOne K (.ref C1) (.ref C2) = some b /\ Q (.bl b) H
end L2
set_option Elab.async false
set_option linter.all false
namespace L2
open PySem PySem.Spec PyProof.Rows
section
variable {X : Cx} {K : PySem.W.Frag}
def Zla (K : PySem.W.Frag) : R2 := fun x y H Q => ∃ (a b : Addr) (xs : List Addr), x = .ref a /\ y = .ref b /\ SqL K H a (xs.map V.ref) /\ SqL K H b (xs.map V.ref) /\ Q (.bl false) H
end
end L2
set_option Elab.async false
set_option linter.all false
namespace L2
open PySem PySem.Spec PyProof.Rows
section
variable {rest es : List Expr} {env : Env} {pos : Pos} {a b c : Expr}
theorem Zdy {k : Nat} : starEach (.Tuple es k pos :: rest) env = (false, eval (.Tuple es k pos) env) :: starEach rest env := rfl
theorem Zd4 : starEach (.List es pos :: rest) env = (false, eval (.List es pos) env) :: starEach rest env := rfl
theorem Zac {v : Const} {k : Nat} : starEach (.Constant v k pos :: rest) env = (false, eval (.Constant v k pos) env) :: starEach rest env := rfl
theorem Zab {x : Str} : starEach (.Name x pos :: rest) env = (false, eval (.Name x pos) env) :: starEach rest env := rfl
theorem Zbf {o : Operator} : starEach (.BinOp a o b pos :: rest) env = (false, eval (.BinOp a o b pos) env) :: starEach rest env := rfl
theorem Zap {ks : List Keyword} : starEach (.Call a es ks pos :: rest) env = (false, eval (.Call a es ks pos) env) :: starEach rest env := rfl
theorem Ze5 {x : Str} : starEach (.Attribute a x pos :: rest) env = (false, eval (.Attribute a x pos) env) :: starEach rest env := rfl
theorem Za5 : starEach (.Subscript a b pos :: rest) env = (false, eval (.Subscript a b pos) env) :: starEach rest env := rfl
theorem Zd3 {gs : List Comprehension} {sc : Scope} : starEach (.ListComp a gs sc pos :: rest) env = (false, eval (.ListComp a gs sc pos) env) :: starEach rest env := rfl
theorem Zcp {o : UnaryOp} : starEach (.UnaryOp o a pos :: rest) env = (false, eval (.UnaryOp o a pos) env) :: starEach rest env := rfl
end
end L2
set_option Elab.async false
set_option linter.all false
set_option maxRecDepth 100000
set_option maxHeartbeats 4000000
namespace L2
open PySem PySem.Spec PyProof.Rows
section
variable {prog : Program} {w : World} {J : Type} [DecidableEq J] {knd : HeapKind prog w J} {A : Around} {E : Value -> Shared -> Prop} {s : Shared} {d a : Addr} {k : J} {xs : List (J × Addr × Value)}
def Zo6 {β : Type} (xs : List (J × β)) (k : J) : List (J × β) := xs.filter fun x => !decide (x.1 = k)
end
section
variable {prog : Program} {w : World} {J : Type} [DecidableEq J] {knd : HeapKind prog w J} {d a : Addr}
end
section
variable {X : Cx} {K : PySem.W.Frag}
def Zk8 : V -> List V -> Hp -> VK -> Prop := fun x vs H Q => ∃ (a b : Addr) (k : List Key) (kvs : List (List Key × V)) (z : V), x = .ref a /\ vs = [.ref b, z] /\ H a = some (.dT kvs) /\ H b = some (.tup (k.map kV)) /\ kvs.length < sizeLine /\
 (∀ v, valV kvs k = some v -> Q v H) /\ (valV kvs k = none -> ∀ G, But a H G -> G a = some (.dT (kvs ++ [(k, z)])) -> Q z G)
def Zon : V -> List V -> Hp -> VK -> Prop := fun x vs H Q => ∃ (a b : Addr) (k : List Key) (kvs : List (List Key × V)) (v : V), x = .ref a /\ vs = [.ref b] /\ H a = some (.dT kvs) /\ H b = some (.tup (k.map kV)) /\ valV kvs k = some v /\
 ∀ G, But a H G -> G a = some (.dT (Zo6 kvs k)) -> Q v G
end
end L2
set_option Elab.async false
set_option linter.all false
set_option maxRecDepth 100000
set_option maxHeartbeats 4000000
namespace L2
open PySem PySem.Spec PyProof.Rows
section
variable {X : Cx} {pins : List (Addr × Obj)} {σ : St} {H : Hp} {s : Shared} {d : Addr} {u0 u1 : HO}
end
section
variable {prog : Program} {w : World} {A : Around} {E : Value -> Shared -> Prop} {s : Shared} {d it : Addr} {o : Obj} {es : Array DictEntry} {ep i n : Nat}
end
section
variable {X : Cx} {K : PySem.W.Frag}
end
section
variable {caps : List (Option Nat)} {g : TG} {tc : TT} {te td : TE} {d : Addr} {kvs : List (List Key × V)} {σ : St} {H : Hp} {Q : VK}
end
section
variable {X : Cx} {pos pos' p0 : Pos} {o i value : Expr} {td ty tv tz : TE}
def Zmm (td ty tv : TE) : TS := fun D σ H => tv σ H fun v H1 => td σ H1 fun x H2 => ty σ H2 fun y H3 => ∃ (a b : Addr) (k : List Key) (kvs : List (List Key × V)), x = .ref a /\ y = .ref b /\ H3 a = some (.dT kvs) /\ H3 b = some (.tup (k.map kV)) /\ kvs.length < sizeLine /\ ∀ G, But a H3 G -> G a = some (.dT (Zny kvs k v)) -> D.nx σ G
def Zox : R2 := fun y x H Q => ∃ (a b : Addr) (k : List Key) (kvs : List (List Key × V)), y = .ref b /\ x = .ref a /\ Rd H a (.dT kvs) /\ H b = some (.tup (k.map kV)) /\ Q (.bl (valV kvs k).isSome) H
def Zjm : R2 := fun y x H Q => ∃ (a b : Addr) (k : List Key) (kvs : List (List Key × V)), y = .ref b /\ x = .ref a /\ Rd H a (.dT kvs) /\ H b = some (.tup (k.map kV)) /\ Q (.bl (!(valV kvs k).isSome)) H
def Zk2 : TE := fun _ H Q => ∀ p G, H p = none -> Same H G -> G p = some (.dT []) -> Q (.ref p) G
end
section
variable {X : Cx}
end
end L2
set_option Elab.async false
set_option linter.all false
set_option maxRecDepth 100000
set_option maxHeartbeats 4000000
namespace L2
open PySem PySem.Spec PyProof.Rows PySem.W
section
variable {X : Cx} {K : PySem.W.Frag}
def Zke (K : PySem.W.Frag) : R2 := fun x y H Q => ∃ a b xs, x = .ref a /\ y = .ref b /\ SqL K H a xs /\ SqL K H b [] /\ Q (.bl (!decide (xs.length = 0))) H
theorem Zjp (hu : X.A.units + 64 < cLine) (h : X.K = K) : OpR X (compareOp .NotEq) (Zke K) := by
 subst h;intro pins s σ H x y v u Q I rx ry h;obtain ⟨a, b, xs, rfl, rfl, h1, h2, q⟩ := h;cases rx;cases ry;obtain ⟨its, rv, p, hz⟩ := I.list h1;obtain ⟨its2, rv2, p2, hz2⟩ := I.list h2;cases rv2;have hl := rv.length
 by_cases h0 : xs.length = 0
 ·refine PySem.SeqAt.RcNeAt.lists (e := fun _ => true) p.isList p2.isList (by rw [List.size_toArray, List.size_toArray, <- hl, h0]; rfl) (Nat.lt_of_le_of_lt (Nat.le_add_right _ 64) hu) (fun j h1 h2 => ?_) X.prog X.w _ _ ?_
  ·rw [List.size_toArray] at h1;omega
  ·have e0 : its.toArray.size = 0 := by rw [List.size_toArray]; omega
   rw [e0];rw [decide_eq_true h0] at q;exact Zav I q rfl
 ·refine PySem.SeqAt.RcNeAt.lists_lengths p.isList p2.isList (by rw [List.size_toArray, List.size_toArray, <- hl]; simp; exact fun z => h0 (by rw [z]; rfl)) (Nat.lt_of_le_of_lt (Nat.le_add_right _ 64) hu) X.prog X.w _ _ ?_;rw [decide_eq_false h0] at q;exact Zav I q rfl
def Zmr : List V -> Hp -> VK -> Prop := fun xs H Q => ∃ a, xs = [V.ref a] /\ H a = some (.dT []) /\ ∀ l G, H l = none -> Same H G -> G l = some (.lst []) -> Q (.ref l) G
end
end L2
set_option Elab.async false
set_option linter.all false
set_option maxRecDepth 100000
set_option maxHeartbeats 4000000
namespace L2
open PySem PySem.Spec PyProof.Rows
theorem ObjOk.there {P : Program} {w : World} {H : Hp} {h : Heap} {a : Addr} {o : HO} (x : ObjOk P w H h a o) : ∃ ob, h.get? a = some ob := by
 cases o with
 | lst xs => obtain ⟨_, _, _, _, e⟩ := x; exact ⟨_, e⟩
 | tup xs => obtain ⟨_, _, _, ob, e, _⟩ := x; exact ⟨_, e⟩
 | dK kvs => obtain ⟨_, _, _, _, o, _, _, e, _⟩ := x; exact ⟨_, e⟩
 | dT kvs => obtain ⟨_, _, _, _, o, _, _, e, _⟩ := x; exact ⟨_, e⟩
 | set S n => obtain ⟨o, _, _, _, e, _⟩ := x; exact ⟨_, e⟩
 | ins C dx fs => obtain ⟨_, _, _, e, _⟩ := x; exact ⟨_, e⟩
 | own y => obtain ⟨_, e⟩ := x; exact ⟨_, e⟩
 | xd fs => obtain ⟨_, ⟨_, _, _, e, _⟩, _⟩ := x; exact ⟨_, e⟩
 | rng lo hi => obtain ⟨_, _, _, e⟩ := x; exact ⟨_, e⟩
 | frz ob u => obtain ⟨e, _⟩ := x; exact ⟨_, e⟩
 | tbl ps => exact ⟨_, show h.get? a = some _ from x⟩
 | met f y => exact ⟨_, show h.get? a = some _ from x⟩
 | ext φ => obtain ⟨_, ⟨_, e⟩, _⟩ := x; exact ⟨_, e⟩
structure Flew (P : Program) (w : World) (outer : List Env) (H : Hp) (s : Shared) (a C : Addr) (t : Value) (B : Heap) (H' : Hp) (s' : Shared) : Prop where
 os : s'.os = s.os
 bare : AllBare s'.gens
 fly : Heap.FlyingW B outer a (.ref C) t s'.heap
 hok : HOk P w H' B
 un : Un (frs outer) [] H H' s.heap s'.heap
 keepB : ∀ b o, s.heap.get? b = some o -> b ∉ frs outer -> H b = none -> B.get? b = some o
 thereB : ∀ b o, s.heap.get? b = some o -> b ∉ frs outer -> ∃ o', B.get? b = some o'
def CXx (P : Program) (w : World) : CXT := fun outer H s E e s' => ∃ (a C : Addr) (t : Value) (B : Heap) (H' : Hp), e = .ref a /\ Flew P w outer H s a C t B H' s' /\ E (.ref C) none H'
structure Zfw (X : Cx) (E : XK) : Prop where
 stk : X.stack = X.env :: X.outer
 fr : X.env.frame = some X.env.locals
 ex : X.ex = []
 xe : ∀ e s, wpAny (model X.prog X.w) X.A (leaving X.env e) (fun _ s'' => CXx X.prog X.w X.outer X.H₀ X.s₀ E e s'') (fun e' s'' => CXx X.prog X.w X.outer X.H₀ X.s₀ E e' s'') s -> X.xe e s
section
variable {X : Cx} {pins : List (Addr × Obj)} {σ : St} {H : Hp} {s : Shared} {E E1 : XK}
theorem Ze0 (L : X.stack = X.env :: X.outer) (fr : X.env.frame = some X.env.locals) {b : Addr} : b ∈ frs X.stack ↔ b = X.env.locals \/ b ∈ frs X.outer := by
 rw [L]; unfold frs; simp [fr]
theorem Zjj (I : Inv X pins σ H s) (L : Zfw X E) {h1 : Heap} {e C : Addr} {args : List Value} {tk : Nat} (hx : Heap.MadeExcOf s.heap h1 e (.ref C) args) (hE : E (.ref C) none H) : X.xe (.ref e) { s with heap := h1, toks := tk } := by
 refine L.xe _ _ ?_;have hne : ∀ b o, X.s₀.heap.get? b = some o -> b ∉ frs X.outer -> b ∉ frs X.stack := fun b o q hb hm => by
  rcases (Ze0 L.stk L.fr).mp hm with rfl | hm
  ·exact absurd (Nat.lt_of_lt_of_le (Heap.lt_size q) I.ok.above) (Nat.lt_irrefl _)
  ·exact hb hm
 have nex : ∀ b, b ∉ X.ex := fun b => by rw [L.ex]; simp
 have hin : ∀ env ∈ X.stack, ∀ a, env.frame = some a -> a ∈ frs X.stack := fun env he a ha => List.mem_filterMap.mpr ⟨env, he, ha⟩
 have hff : s.heap.FunFrames (PySem.W.hideAll s.heap (frs X.stack)) (X.env :: X.outer) := L.stk ▸ PySem.W.funFrames_hide I.stack hin;refine wpAny_leaves_madeW (base := PySem.W.hideAll s.heap (frs X.stack)) (h := s.heap) (L := X.env.locals) (s := { s with heap := h1, toks := tk }) (L.stk ▸ I.ok.frames) L.fr (fun b o q => PySem.W.of_hideAll _ q) hff hx fun h' t fl _ _ sm => ?_
 have sm' : s.heap.UpToSlots h' := (Heap.UpToSlots.of_keeps hx.keeps).trans sm;have hB : ∀ b o, s.heap.get? b = some o -> b ∉ frs X.stack -> (PySem.W.hideAll s.heap (frs X.stack)).get? b = some o := fun b o q hb => PySem.W.hideAll_get _ q hb
 have nf : ∀ b o, b ∈ frs X.stack -> s.heap.get? b = some o -> ∀ vs, o.data ≠ .fields vs := fun b o hb q => by
  obtain ⟨_, o', q', z⟩ := I.stack.mem hb;rw [q] at q'; cases q'; exact z
 refine ⟨e, C, .ref t, _, H, rfl, ⟨I.os, I.bare, fl, fun a o q => ?_, ⟨fun b o q n hb _ => ?_, fun b o q n hb _ => ?_, fun b o q n _ => I.base.free b o q n (nex b), fun b o q _ => ?_, I.base.tups, I.base.frzs, I.base.tbls⟩, fun b o q hb n => ?_, fun b o q hb => ?_⟩, hE⟩
 ·refine (I.hok a o q).stay (fun b u hb z => hB b u z fun hm => ?_) (fun _ z => z) fun _ _ z => z
  have hn := I.stkFree b hm;rcases hb with rfl | hb
  ·rw [hn] at q; cases q
  ·rw [hn] at hb; cases hb
 ·exact fl.1 b o (hB b o (I.base.keep b o q n hb (nex b)) (hne b o q hb))
 ·obtain ⟨sl, z⟩ := I.base.slot b o q n hb (nex b);obtain ⟨sl', z'⟩ := sm' b _ z (nf b _ ((Ze0 L.stk L.fr).mpr (.inr hb)) z);exact ⟨sl', z'⟩
 ·obtain ⟨o', z⟩ := I.base.there b o q (nex b)
  by_cases hb : b ∈ frs X.stack
  ·obtain ⟨sl', z'⟩ := sm' b _ z (nf b _ hb z);exact ⟨_, z'⟩
  ·exact ⟨o', fl.1 b o' (hB b o' z hb)⟩
 ·exact hB b o (I.base.keep b o q n hb (nex b)) (hne b o q hb)
 ·obtain ⟨o', z⟩ := I.base.there b o q (nex b);exact ⟨o', hB b o' z (hne b o q hb)⟩
theorem Znb (L : Zfw X E) (hE : ∀ C H', E1 (.ref C) none H' -> E (.ref C) none H') : Zem (CXx X.prog X.w) X E1 := by
 intro pins σ H s e s' I c;obtain ⟨a, C, t, B, H', rfl, F, hq⟩ := c;refine L.xe _ _ ?_;have hne : ∀ b o, X.s₀.heap.get? b = some o -> b ∉ frs X.outer -> b ∉ frs X.stack := fun b o q hb hm => by
  rcases (Ze0 L.stk L.fr).mp hm with rfl | hm
  ·exact absurd (Nat.lt_of_lt_of_le (Heap.lt_size q) I.ok.above) (Nat.lt_irrefl _)
  ·exact hb hm
 have nex : ∀ b, b ∉ X.ex := fun b => by rw [L.ex]; simp
 refine wpAny_leaves_onW (base := B) (L := X.env.locals) (L.stk ▸ I.ok.frames) L.fr (L.stk ▸ F.fly) fun h' fl sm => ?_
 have nf : ∀ b o, b ∈ frs X.stack -> s'.heap.get? b = some o -> ∀ vs, o.data ≠ .fields vs := fun b o hb q => by
  obtain ⟨_, o', q', z⟩ := F.fly.2.2.1.mem hb;rw [q] at q'; cases q'; exact z
 refine ⟨a, C, t, B, H', rfl, ⟨F.os.trans I.os, F.bare, fl, F.hok, ⟨fun b o q n hb _ => ?_, fun b o q n hb _ => ?_, fun b o q n _ => ?_, fun b o q _ => ?_, fun b xs z => F.un.tups b xs (I.base.tups b xs z), fun b ob xs z => F.un.frzs b ob xs (I.base.frzs b ob xs z), fun b ps z => ?_⟩, fun b o q hb n => ?_, fun b o q hb => ?_⟩, hE C H' hq⟩
 ·exact fl.1 b o (F.keepB b o (I.base.keep b o q n hb (nex b)) (hne b o q hb) (I.base.free b o q n (nex b)))
 ·obtain ⟨sl, z⟩ := I.base.slot b o q n hb (nex b);have hs : b ∈ frs X.stack := (Ze0 L.stk L.fr).mpr (.inr hb);obtain ⟨sl1, z1⟩ := F.un.slot b _ z (I.base.free b o q n (nex b)) hs (by simp);obtain ⟨sl2, z2⟩ := sm b _ z1 (nf b _ hs z1);exact ⟨sl2, z2⟩
 ·obtain ⟨o', z⟩ := I.base.there b o q (nex b);exact F.un.free b o' z (I.base.free b o q n (nex b)) (by simp)
 ·obtain ⟨o', z⟩ := I.base.there b o q (nex b);obtain ⟨o1, z1⟩ := F.un.there b o' z (by simp)
  by_cases hb : b ∈ frs X.stack
  ·obtain ⟨sl', z'⟩ := sm b _ z1 (nf b _ hb z1);exact ⟨_, z'⟩
  ·obtain ⟨o2, z2⟩ := F.thereB b o' z hb;exact ⟨o2, fl.1 b o2 z2⟩
 ·obtain ⟨m1, e1⟩ := I.base.tbls b ps z;obtain ⟨m2, e2⟩ := F.un.tbls b _ e1;exact ⟨m1 ++ m2, by rw [e2, Array.append_assoc]⟩
 ·exact F.keepB b o (I.base.keep b o q n hb (nex b)) (hne b o q hb) (I.base.free b o q n (nex b))
 ·obtain ⟨o', z⟩ := I.base.there b o q (nex b);exact F.thereB b o' z (hne b o q hb)
end
theorem Zfg {P : Program} {w : World} {K : PySem.W.Frag} {mg : Str -> Option Value} {base : Heap} {N : List Str} {qual : Str} {scope : Scope} {f : Addr} {cd : Value} {A : Around} {outer : List Env} {s : Shared} {H : Hp} {E : XK} :
  Zfw (cxOf (CXx P w) P w K mg base N qual scope f cd A outer s H E) E := ⟨rfl, rfl, rfl, fun _ _ h => h⟩
end L2
set_option Elab.async false
set_option linter.all false
set_option maxRecDepth 100000
set_option maxHeartbeats 4000000
namespace L2
open PySem PySem.Spec PyProof.Rows
structure FnX (P : Program) (w : World) (K : PySem.W.Frag) (mg : Str -> Option Value) (base : Heap) (x : Str) (k : Nat) (ps : List Str) (dvs : List V) (sp : Sp) : Prop where
 ex : ∃ (f : Addr) (fd : FuncData) (ds : List Value), Zcc P w K mg base (CXx P w) k f fd ps sp /\ mg x = some (.ref f) /\ PySem.W.keepIn K (.ref f) = true /\ Binds K fd ps ds /\ Vals dvs ds
structure CtX (P : Program) (w : World) (K : PySem.W.Frag) (mg : Str -> Option Value) (base : Heap) (x : Str) (k : Nat) (sp : Sp) : Prop where
 ex : ∃ (f C : Addr) (fd : FuncData) (ds : List Value) (dvs : List V) (ps : List Str) (sp0 : Sp), Zcc P w K mg base (CXx P w) k f fd ps sp0 /\ mg x = some (.ref C) /\ Mk K C f /\ Binds K fd ps ds /\ Vals dvs ds /\
  ∀ vs H Q E, sp vs H Q E -> ∀ y dx G, H y = none -> H dx = none -> dx ≠ y -> Same H G -> G y = some (.ins C dx []) -> sp0 (.ref y :: (vs ++ dvs)) G (fun v H2 => v = .non /\ Q (.ref y) H2) E
section
variable {X : Cx} {k : Nat} {ps : List Str} {sp : Sp} {dvs : List V} {x : Str} {p pos : Pos} {e : Expr} {es : List Expr} {t : TA} {E : XK}
theorem Zna (F : CtX X.prog X.w X.K X.mg X.base x k sp) (hr : Room (k + 1) X.A) (hg : Gl X x) (hx : Zem (CXx X.prog X.w) X E) (ha : PA X (e :: es) t) (hdb : (x == ("__debug__" : Str)) = false := by decide)
  (he : starEach (e :: es) X.env = (false, eval e X.env) :: starEach es X.env := by rfl) (hpl : (backTo pos (starEach es X.env)).any (·.1) = false := by rfl) : PE X (.Call (.Name x p) (e :: es) [] pos) (Zjf sp [] E t) := by
 obtain ⟨f, C, fd, ds, dvs, ps, sp0, G, hm, M, hb, hd, hi⟩ := F.ex;intro pins s σ H Q I h;refine wpAny_Call_Name_kw (Zec I hg hm ?_ hdb);refine PySem.W.callWith_K (h₀ := X.base) I.ok.mod.kin M.kp (thn (ha pos pins s σ H _ I h) fun us s1 ⟨vs, H1, I1, r, q⟩ => ⟨I1.kIn, ?_⟩) he hpl;have q : sp (vs ++ []) H1 Q E := q;rw [List.append_nil] at q;exact Zjh M G hr hb hd hx I1 r fun y dx hy hdx hn => hi _ _ _ _ q y dx _ hy hdx hn ((Zbc hdx).new hy) Zai
end
section
variable {P : Program} {w : World} {K : PySem.W.Frag} {mg : Str -> Option Value} {base : Heap}
end
abbrev Zo4 : List Value := [.type "ValueError", .type "Exception", .type "BaseException", .type "object"]
structure XC (K : PySem.W.Frag) (mg : Str -> Option Value) (x : Str) (C : Addr) : Prop where
 m : mg x = some (.ref C)
 exc : PySem.W.excIn K C Zo4 "ValueError.__new__" = true
theorem XC.obj {K : PySem.W.Frag} {mg : Str -> Option Value} {x : Str} {C : Addr} (c : XC K mg x C) {h : Heap} (X : K.In h) :
  ∃ bm N nm q bs hdct sn sub ab col dd k0 k1 k2 k3 k5 mN, h.get? C = some (excClassObj nm q C N bs bm hdct sn sub ab col dd k0 k1 k2 k3 k5 "ValueError.__new__") /\ h.Ns N mN /\ mN "__init__" = none /\ OwnTail h Zo4 bm := by
 have q := c.exc;unfold PySem.W.excIn at q
 split at q
 ·rename_i dd cd sl ho
  split at q
  ·rename_i C' bm k0 k1 k2 k3 n k5 hm hs
   rw [Bool.and_eq_true, Bool.and_eq_true, Bool.and_eq_true, Bool.and_eq_true, Bool.and_eq_true, beq_iff_eq, beq_iff_eq, beq_iff_eq, Bool.not_eq_true'] at q;obtain ⟨⟨⟨⟨⟨rfl, rfl⟩, hdel⟩, ht⟩, hok⟩, hni⟩ := q;obtain ⟨nm, bs, mro, ns, qn, hd, sn, sub, ab, col, del⟩ := cd;have hm : mro = .ref C' :: bm := hm;have hdel : del = false := hdel;subst hm hdel;obtain rfl : sl = #[k0, k1, k2, k3, some (.builtin "ValueError.__new__"), k5] := by
    rw [<- Array.toList_inj]; exact hs
   exact ⟨bm, ns, nm, qn, bs, hd, sn, sub, ab, col, dd, k0, k1, k2, k3, k5, _, X _ _ ho, .of_isNs (PySem.W.isNs_of_in X hok), PySem.W.nsMap_none_of_in X hok hni, PySem.W.tail_of_in X ht⟩
  ·cases q
 ·cases q
def Zj9 (te : TE) (C : Addr) (E : XK) : TS := fun _ σ H => te σ H fun _ H1 => E (.ref C) none H1
theorem Zgv {X : Cx} {E : XK} {x : Str} {C : Addr} {e : Expr} {te : TE} {np cpos pos : Pos} (L : Zfw X E) (hc : X.calm = true) (hg : Gl X x) (c : XC X.K X.mg x C) (ha : PE X e te) (hdb : (x == ("__debug__" : Str)) = false := by decide)
  (he : starEach [e] X.env = [(false, eval e X.env)] := by rfl) : PS X (.Raise (some (.Call (.Name x np) [e] [] cpos)) none pos) (Zj9 te C E) := by
 intro pins s σ H D I h;obtain ⟨tl, N, nm, q, bs, hdct, sn, sub, ab, col, dd, k0, k1, k2, k3, k5, mN, hC, hN, hni, T⟩ := c.obj I.ok.mod.kin;refine wpAny_Raise_call_subT (C := C) (nm := nm) (q := q) (N := N) (bs := bs) (bm := tl) (hdct := hdct) (sn := sn) (sub := sub) (ab := ab) (col := col) (dd := dd) (k0 := k0) (k1 := k1) (k2 := k2) (k3 := k3) (k5 := k5)
  PySem.F.excBase_ValueError (mN := mN) (T.hasType PySem.F.excBase_ValueError.hasBase) (I.ok.hd hc) (by rw [he]; rfl) hni (Zec I hg c.m ⟨rfl, ?_⟩ hdb)
 rw [he];refine Calls.evalArgs_plain (Calls.spliced_cons (thn (ha pins s σ H _ I h) fun u s1 ⟨y, H1, I1, ry, q1⟩ => Calls.spliced_nil ⟨rfl, ?_⟩));refine ⟨Zah (by show 1 <= 100000; decide), I1.bk _ _ hC, hN.keeps I1.bk, T.keeps I1.bk, fun h' e hm => ?_⟩;exact Zjj (tk := s1.toks) I1 L hm q1
end L2
set_option Elab.async false
set_option linter.all false
set_option maxRecDepth 100000
set_option maxHeartbeats 4000000
namespace L2
open PySem PySem.Spec PyProof.Rows PySem.Builtin PySem.Builtin.ObjectAttr PySem.Builtin.Getset_descriptor
structure Zj6 (K : PySem.W.Frag) (C : Addr) : Prop where
 ga : PySem.W.findIn K (.ref C) "__getattribute__" = some (some (.builtin "BaseException.__getattribute__"))
 gt : PySem.W.findIn K (.ref C) "__getattr__" = some none
 cl : PySem.W.findIn K (.ref C) "__class__" = some (some (.builtin "object.__class__"))
 ob : PySem.W.mroIn K C (.type "object") = some true
 bs : PySem.W.mroIn K C (.type "BaseException") = some true
section
variable {prog : Program} {w : World} {A : Around} {E : Value -> Shared -> Prop} {h : Heap} {g : Array GenState} {d : Drawn} {t : Nat} {os : OsState} {a C : Addr} {o : Obj} {K : PySem.W.Frag}
theorem Zdk {M : Model} (hx : h.get? a = some o) (hc : o.cls = .ref C) : PySem.W.Looks M h (typeOf (.ref a)) (.ref C) := hc ▸ (PySem.W.Looks.ld hx).andThen .now
theorem Zl4 {R : Result -> Shared -> Prop} (X : K.In h) (c : Zj6 K C) (hx : h.get? a = some o) (hc : o.cls = .ref C) (hq : R (.ok (.ret (.ref C))) ⟨h, g, d, t, os⟩) :
  codeAny (model prog w) A (.call (.builtin "getset_descriptor.__get__") ⟨[.builtin "object.__class__", .ref a, .ref C], []⟩) R ⟨h, g, d, t, os⟩ := by
 have La := Zdk (M := model prog w) hx hc; have Lb := PySem.W.looks_mroIn (M := model prog w) X c.ob;refine codeAny_call_builtin PySem.W.KF.slot_gs.plain PySem.W.KF.entry_gs (PySem.W.KF.slot_gs.check _ _ _ _ _ _ _ _ PySem.W.KF.type_class (PySem.W.KF.args_gs _ _ _) ?_);unfold Builtin.«getset_descriptor.__get__» descrGet; rw [PySem.W.dga_obj]; refine wpAny_bind (wpAny_pure ?_);unfold descrGetter descrCheckInstance descrNameAndClass isInstance; simp only [PySem.W.KF.owner_class]
 repeat lk
 refine ⟨Code.quiet_builtin _ (by decide +kernel), codeAny_builtin PySem.W.KF.entry_class ?_⟩; unfold Builtin.«object.__class__» shownTypeOf
 repeat lk
 exact hq
theorem Zjd {tk : Tok} {Q : Fin -> Shared -> Prop} (X : K.In h) (c : Zj6 K C) (hx : h.get? a = some o) (hc : o.cls = .ref C) (hq : Q (.done (.ret (.ref C))) ⟨h, g, d, t, os⟩) :
  wpAny (model prog w) A (Builtin.«object.__getattribute__» ⟨[.ref a, .str "__class__" tk], []⟩) Q E ⟨h, g, d, t, os⟩ := by
 have La := Zdk (M := model prog w) hx hc; have Lb := PySem.W.looks_findIn (M := model prog w) X c.cl;have f5 := F.typeOf_object_class; have f6 := F.slot_gs_get.lookup; have f7 := F.slot_gs_set.lookup;have hT5 : (⟨h, g, d, t, os⟩ : Shared).TypeIs (.builtin "object.__class__") "getset_descriptor" := F.typeOf_object_class
 repeat (any_goals (first | assumption | with_reducible refine La.at ?_ | with_reducible refine Lb.at ?_ | wp_step))
 refine Zl4 X c hx hc ?_
 repeat (any_goals (first | assumption | wp_step))
theorem Zje {M : Model} {nv : Value} {Q : Unit -> Shared -> Prop} (X : K.In h) (c : Zj6 K C) (hx : h.get? a = some o) (hc : o.cls = .ref C) (hq : Q () ⟨h, g, d, t, os⟩) :
  wpAny M A (checkBuiltinCall "BaseException.__getattribute__" ⟨[.ref a, nv], []⟩) Q E ⟨h, g, d, t, os⟩ := by
 have k1 : builtinKind "BaseException.__getattribute__" = some .slot := by decide +kernel
 have k2 : splitId "BaseException.__getattribute__" = some ("BaseException", "__getattribute__") := by decide +kernel
 have ha := F.args_bexc_ga (.ref a) nv; have La := Zdk (M := M) hx hc; have Lb := PySem.W.looks_mroIn (M := M) X c.bs;simp only [checkBuiltinCall, k1, k2]; refine wpAny_bind ?_; unfold isInstance
 repeat (any_goals (first | assumption | with_reducible refine La.at ?_ | with_reducible refine Lb.at ?_ | wp_step))
theorem Zn3 {tk : Tok} {Q : Value -> Shared -> Prop} (X : K.In h) (c : Zj6 K C) (hx : h.get? a = some o) (hc : o.cls = .ref C) (hq : Q (.ref C) ⟨h, g, d, t, os⟩) :
  wpAny (model prog w) A (getAttrBy (.ref a) (.str "__class__" tk) false) Q E ⟨h, g, d, t, os⟩ := by
 have La := Zdk (M := model prog w) hx hc; have Lb := PySem.W.looks_findIn (M := model prog w) X c.ga; have Lc := PySem.W.looks_findIn (M := model prog w) X c.gt;have f3 := F.attr_ValueError.ga.bind (.ref a);have x2 : (Value.builtin "BaseException.__getattribute__" == Value.builtin "object.__getattribute__") = false := by decide +kernel
 have x1 : (onTheHeap (Value.ref C) && Value.builtin "BaseException.__getattribute__" == Value.builtin "object.__getattribute__") = false := by rw [x2]; rfl
 have x0 : (false && onTheHeap (Value.builtin "BaseException.__getattribute__")) = false := rfl
 repeat (any_goals (first | assumption | with_reducible refine La.at ?_ | with_reducible refine Lb.at ?_ | with_reducible refine Lc.at ?_ | wp_step))
 refine codeAny_call_builtin F.attr_ValueError.ga.plain F.entry_bexc_ga (Zje X c hx hc (Zjd X c hx hc ?_))
 repeat (any_goals (first | assumption | wp_step))
theorem Zks {Q : Option Value -> Shared -> Prop} (X : K.In h) (c : Zj6 K C) (hx : h.get? a = some o) (hc : o.cls = .ref C) (hq : Q (some (.ref C)) ⟨h, g, d, t + 1, os⟩) :
  wpAny (model prog w) A (getAttr? (.ref a) "__class__") Q E ⟨h, g, d, t, os⟩ := by
 unfold getAttr? getAttrBy?
 repeat (any_goals (first | assumption | with_reducible apply Zn3 X c hx hc | wp_step))
end
def Zl0 (C e : Addr) : Heap -> Prop := fun h => ∃ o, h.get? e = some o /\ o.cls = .ref C
theorem Zjv {K : PySem.W.Frag} {e C : Addr} (c : Zj6 K C) : PySem.W.KitX K (.ref e) (.ref C) (Zl0 C e) where
 ty := fun _ _ _ ⟨_, hx, hc⟩ => Zdk hx hc
 it := fun _ _ X _ => by
  obtain ⟨cd, hcd, _⟩ := Option.bind_eq_some_iff.mp c.ob;unfold PySem.W.clsIn at hcd
  split at hcd
  ·rename_i c1 d1 cd1 sl1 ho
   intro A' Q' E' s' k q; unfold isType loadHead;exact wpAny_bind (wpAny_loadPart (k _ _ (X _ _ ho)) (wpAny_pure q))
  ·cases hcd
 ne := fun h tp dd its n sl X htp => by
  obtain ⟨cd, hcd, _⟩ := Option.bind_eq_some_iff.mp c.ob;refine Bool.eq_false_iff.mpr fun q => ?_
  obtain rfl : C = tp := Value.ref.inj (beq_iff_eq.mp q);unfold PySem.W.clsIn at hcd
  split at hcd
  ·rename_i c1 d1 cd1 sl1 ho
   have z := (X _ _ ho).symm.trans htp; cases z
  ·cases hcd
 ca := fun {prog w A E Q s} X ⟨o, hx, hc⟩ hq => by obtain ⟨h, g, d, t, os⟩ := s; exact Zks X c hx hc hq
def HX (C e : Addr) : HO := .ext (Zl0 C e)
inductive XTy (K : PySem.W.Frag) (H : Hp) : V -> Value -> Prop where
 | non : XTy K H .non (.type "NoneType")
 | exc {e C : Addr} (he : H e = some (HX C e)) (c : Zj6 K C) : XTy K H (.ref e) (.ref C)
def Zmz (K : PySem.W.Frag) : List V -> Hp -> VK -> Prop := fun xs H Q => ∃ x c t b, xs = [x, c] /\ XTy K H x t /\ Znr c = true /\ PySem.W.kitOne K t (Zn0 c) = some b /\ Q (.bl b) H
theorem Za8 {X : Cx} {K : PySem.W.Frag} (h : X.K = K) : CallR X (.builtin "isinstance") (Zmz K) := by
 subst h;intro pins s σ H xs us Q I r hh;obtain ⟨x, c, t, b, rfl, ty, hc, hk, q⟩ := hh;obtain ⟨u, w', rfl, rx, rc⟩ := Zkt r;have hw : w' = Zn0 c := by cases c <;> first | exact rc | cases hc
 subst hw;cases ty with
 | non => exact Zfh I rx .non hk fun tk => ⟨.bl b, H, I.tok tk, rfl, q⟩
 | @exc e C he ec =>
  cases (show u = Value.ref e from rx);obtain ⟨⟨o, h1, h2⟩, _⟩ := (show ObjOk X.prog X.w H s.heap e (HX C e) from I.hok e _ he);exact PySem.W.kia_one (Zjv ec) I.kIn ⟨o, h1, h2⟩ hk (fun z => nomatch z) fun tk => ⟨.bl b, H, I.tok tk, rfl, q⟩
end L2
set_option Elab.async false
set_option linter.all false
set_option maxRecDepth 100000
set_option maxHeartbeats 4000000
namespace L2
open PySem PySem.Spec PyProof.Rows
section
variable {X : Cx} {pins : List (Addr × Obj)} {σ : St} {H H' : Hp} {s s' : Shared} {e C : Addr} {t : Value} {B h5 : Heap}
theorem HX.ok {P : Program} {w : World} {H : Hp} {h : Heap} (x : Zl0 C e h) : ObjOk P w H h e (HX C e) := by
 obtain ⟨o, h1, h2⟩ := x;exact ⟨⟨o, h1, h2⟩, ⟨o, h1⟩, fun a b ⟨o, q1, q2⟩ k => ⟨o, k o q1, q2⟩⟩
theorem Flew.noE (F : Flew X.prog X.w X.stack H s e C t B H' s') : H' e = none := by
 cases q : H' e with
 | none => rfl
 | some o =>
  obtain ⟨ob, z⟩ := (F.hok e o q).there;rw [F.fly.2.1] at z; cases z
theorem Flew.caught (I : Inv X pins σ H s) (F : Flew X.prog X.w X.stack H s e C t B H' s') (fl : Heap.FlyingW B X.stack e (.ref C) t h5) (sm : s'.heap.UpToSlots h5) :
  Inv X pins σ (upd H' e (HX C e)) { s' with heap := h5 } := by
 have nf : ∀ b o, b ∈ frs X.stack -> s'.heap.get? b = some o -> ∀ vs, o.data ≠ .fields vs := fun b o hb q => by
  obtain ⟨_, o', q', z⟩ := F.fly.2.2.1.mem hb;rw [q] at q'; cases q'; exact z
 obtain ⟨oe, vs, he, hec, hed, _⟩ := fl.first;have ne : ∀ b o, s.heap.get? b = some o -> b ≠ e := fun b o q z => by
  subst z
  by_cases hb : b ∈ frs X.stack
  ·obtain ⟨_, o', q', z'⟩ := fl.2.2.1.mem hb;rw [he] at q'; cases q'; exact z' vs hed
  ·obtain ⟨o', q'⟩ := F.thereB b o q hb;rw [F.fly.2.1] at q'; cases q'
 have neT : ∀ b u, H' b = some u -> b ≠ e := fun b u q z => by subst z; rw [F.noE] at q; cases q
 refine I.call' (ch := []) F.os ⟨fun b o q n hb _ => fl.1 b o (F.keepB b o q hb n), fun b o q n hb _ => ?_, fun b o q n _ => ?_, fun b o q _ => ?_, fun b xs z => ?_, fun b ob xs z => ?_, fun b ps z => ?_⟩ (fun b o q => ?_) F.bare (fun b z => absurd z (by simp))
 ·obtain ⟨sl1, z1⟩ := F.un.slot b o q n hb (by simp);obtain ⟨sl2, z2⟩ := sm b _ z1 (nf b _ hb z1);exact ⟨sl2, z2⟩
 ·rw [Zaj (ne b o q)]; exact F.un.free b o q n (by simp)
 ·obtain ⟨o1, z1⟩ := F.un.there b o q (by simp)
  by_cases hb : b ∈ frs X.stack
  ·obtain ⟨sl', z'⟩ := sm b _ z1 (nf b _ hb z1);exact ⟨_, z'⟩
  ·obtain ⟨o2, z2⟩ := F.thereB b o q hb;exact ⟨o2, fl.1 b o2 z2⟩
 ·have := F.un.tups b xs z; rw [Zaj (neT b _ this)]; exact this
 ·have := F.un.frzs b ob xs z; rw [Zaj (neT b _ this)]; exact this
 ·obtain ⟨m, this⟩ := F.un.tbls b ps z;exact ⟨m, by rw [Zaj (neT b _ this)]; exact this⟩
 ·by_cases hb : b = e
  ·subst hb;rw [Zai] at q; cases q;exact HX.ok ⟨oe, he, hec⟩
  ·rw [Zaj hb] at q;exact (F.hok b o q).stay (fun c u _ z => fl.1 c u z) (fun c z => by rw [Zaj (neT c _ z)]; exact z) fun c xs z => by rw [Zaj (neT c _ z)]; exact z
abbrev Cx.marked (X : Cx) (e : Addr) : Cx := { X with A := X.A.mark (some (.ref e)), calm := false, xe := fun _ _ => False }
theorem Cx.Ok.marked (ok : X.Ok) (e : Addr) : (X.marked e).Ok :=
 ⟨ok.mod, ok.kind, ok.glob, ok.blt, ok.above, ok.inj, ok.has, ok.cab, fun z => (by cases z), ok.frames, ok.stk, ok.exf, ok.bs, ok.bsz, ok.noex, ok.exfs, ok.funs, ok.frf⟩
theorem Inv.marked (I : Inv X pins σ H s) (e : Addr) : Inv (X.marked e) pins σ H s := ⟨I.ok.marked e, I.os, I.bare, I.base, I.loc, I.cell, I.free, I.freeC, I.pin, I.hok, I.len⟩
theorem Inv.unmarked (ok : X.Ok) (I : Inv (X.marked e) pins σ H s) : Inv X pins σ H s := ⟨ok, I.os, I.bare, I.base, I.loc, I.cell, I.free, I.freeC, I.pin, I.hok, I.len⟩
theorem Zdh {A : Around} {E : Value -> Shared -> Prop} {j : Nat} {n : Str} {pos : Pos} {Q : Unit -> Shared -> Prop} (I : Inv X pins σ H s) (hN : X.N.Nodup) (hj : X.N[j]? = some n) (hl : X.env.kindOf n = some .local)
  (h : ∀ s2, Inv X pins (σ.set j none) H s2 -> Q () s2) : wpAny (model X.prog X.w) A (do bindName X.env n .none; unbindBehindTheSuite X.env n pos) Q E s := by
 obtain ⟨m, hn, hv⟩ := I.loc;refine wpAny_nameGoes_keeps hl hn (by rw [I.ok.kind]; rfl) fun h' v hn' hs => h _ ?_
 have hjl : j < X.N.length := (List.getElem?_eq_some_iff.mp hj).1;have cne := I.cne;have neL : ∀ b o, X.s₀.heap.get? b = some o -> b ≠ X.env.locals := fun b o q => Nat.ne_of_lt (Nat.lt_of_lt_of_le (Heap.lt_size q) I.ok.above)
 refine ⟨I.ok, I.os, I.bare, ⟨fun b o q n hb hx => ?_, fun b o q n hb hx => ?_, I.base.free, fun b o q hx => ?_, I.base.tups, I.base.frzs, I.base.tbls⟩, ⟨_, hn', fun i y w e1 e2 e3 => ?_⟩, fun y c q => ?_, I.free, I.freeC, fun p hp => ?_, fun a o q => ?_, by simpa using I.len⟩
 ·exact (hs.2 b (neL b o q)).trans (I.base.keep b o q n hb hx)
 ·obtain ⟨sl, e1⟩ := I.base.slot b o q n hb hx;exact ⟨sl, (hs.2 b (neL b o q)).trans e1⟩
 ·obtain ⟨o', e1⟩ := I.base.there b o q hx;exact ⟨o', (hs.2 b (neL b o q)).trans e1⟩
 ·by_cases hi : i = j
  ·subst hi;rw [List.getElem?_set_self (by rw [I.len]; exact hjl)] at e2;cases e2
  ·rw [List.getElem?_set_ne (Ne.symm hi)] at e2;obtain ⟨u, r, q⟩ := hv i y w e1 e2 e3;refine ⟨u, r, ?_⟩;have hy : y ≠ n := fun z => hi (Zey hN e1 (z ▸ hj))
   rcases q with ⟨k, z⟩ | ⟨k, c, z, zc⟩
   ·exact .inl ⟨k, by show (if y = n then v else m y) = some u; rw [if_neg hy]; exact z⟩
   ·exact .inr ⟨k, c, z, zc.sameBut hs (cne y c z)⟩
 ·obtain ⟨w', z⟩ := I.cell y c q;exact ⟨w', z.sameBut hs (cne y c q)⟩
 ·obtain ⟨q, n', ne, nf, d⟩ := I.pin p hp;exact ⟨(hs.2 p.1 ne).trans q, n', ne, nf, d⟩
 ·have kk : ∀ b u, (b = a \/ H b = some (.own a)) -> s.heap.get? b = some u -> h'.get? b = some u := fun b u hb z => by
   refine (hs.2 b fun zz => ?_).trans z;rcases hb with rfl | hb
   ·rw [zz, I.free] at q; cases q
   ·rw [zz, I.free] at hb; cases hb
  exact (I.hok a o q).stay kk (fun _ z => z) fun _ _ z => z
end
def Asks (P : Program) (w : World) (K : PySem.W.Frag) (mg : Str -> Option Value) (base : Heap) (k : Nat) (f : Addr) (H : Hp) (Q : VK) (E : XK) : Prop :=
 ∀ (A : Around) (outer : List Env) (s : Shared), Room k A -> Env0 P w K mg base A outer s H -> codeAny (model P w) A (.call (.ref f) ⟨[], []⟩) (CR (CXx P w) outer P w H s Q E) s
structure Zn1 (K : PySem.W.Frag) (W : Addr) : Prop where
 ty : PySem.W.typeIn K (.ref W) = some (.type "type")
 bs : PySem.W.mroIn K W (.type "BaseException") = some true
theorem Zjc {prog : Program} {w : World} {A : Around} {E : Value -> Shared -> Prop} {h : Heap} {g : Array GenState} {d : Drawn} {t : Nat} {os : OsState} {a C W : Addr} {o : Obj} {K : PySem.W.Frag} {Q : Bool -> Shared -> Prop}
  (X : K.In h) (cw : Zn1 K W) (hm : PySem.W.mroIn K C (.ref W) = some true) (hx : h.get? a = some o) (hc : o.cls = .ref C) (hq : Q true ⟨h, g, d, t, os⟩) : wpAny (model prog w) A (excMatches (.ref a) (.ref W)) Q E ⟨h, g, d, t, os⟩ := by
 have La := Zdk (M := model prog w) hx hc; have Lb := PySem.W.looks_mroIn (M := model prog w) X cw.bs; have Lc := PySem.W.looks_mroIn (M := model prog w) X hm; have Ld := PySem.W.looks_typeIn (M := model prog w) X cw.ty;have f := tc_notTuple;have Le : PySem.W.Looks (model prog w) h (isType (.ref W)) true := by
  obtain ⟨cd, hcd, _⟩ := Option.bind_eq_some_iff.mp cw.bs;unfold PySem.W.clsIn at hcd
  split at hcd
  ·rename_i c1 d1 cd1 sl1 ho
   intro A' Q' E' s' k q; unfold isType loadHead;exact wpAny_bind (wpAny_loadPart (k _ _ (X _ _ ho)) (wpAny_pure q))
  ·cases hcd
 unfold excMatches isInstance isExcClass
 repeat (any_goals (first | assumption | with_reducible refine La.at ?_ | with_reducible refine Lb.at ?_ | with_reducible refine Lc.at ?_ | with_reducible refine Ld.at ?_ | with_reducible refine Le.at ?_ | wp_step))
def Zhz (P : Program) (w : World) (K : PySem.W.Frag) (mg : Str -> Option Value) (base : Heap) (k i j : Nat) (W : Addr) (ts : TS) : TS := fun D σ H => ∃ f o u fd, σ[i]? = some (some (.ref f)) /\ H f = some (.frz o u) /\ o.data = .func fd /\
 ∃ E1 : XK, Asks P w K mg base k f H (fun _ H' => D.nx σ H') E1 /\ ∀ C H', E1 (.ref C) none H' -> PySem.W.mroIn K C (.ref W) = some true /\ ∀ e G, H' e = none -> Same H' G -> G e = some (HX C e) ->
  ts { nx := fun σ' H2 => D.nx (σ'.set j none) H2, rt := D.rt, bk := fun σ' H2 => D.bk (σ'.set j none) H2, ct := fun σ' H2 => D.ct (σ'.set j none) H2 } (σ.set j (some (.ref e))) G
section
variable {X : Cx}
theorem Zid {k i j : Nat} {x n wn : Str} {W : Addr} {b0 : Stmt} {suite : List Stmt} {ts : TS} {p1 p2 p3 np hp pos : Pos} (hst : X.stack = X.env :: X.outer) (hfr : X.env.frame = some X.env.locals) (hr : Room k X.A) (hN : X.N.Nodup)
  (hi : X.N[i]? = some x) (hv : Vis X.env.scope x) (hj : X.N[j]? = some n) (hl : X.env.kindOf n = some .local) (hgW : Gl X wn) (hmW : X.mg wn = some (.ref W)) (cw : Zn1 X.K W) (hs : ∀ e, PSs (X.marked e) (b0 :: suite) ts)
  (hd1 : (x == ("__debug__" : Str)) = false := by decide) (hd2 : (x == ("__classdict__" : Str)) = false := by decide) (hd3 : (wn == ("__debug__" : Str)) = false := by decide) (hsw : swapsWith (.Call (.Name x p1) [] [] p2) none p3.line X.env = pure false := by rfl) :
  PS X (.Try [.Expr (.Call (.Name x p1) [] [] p2) p3] [.ExceptHandler (some (.Name wn np)) (some n) (b0 :: suite) hp] [] [] pos) (Zhz X.prog X.w X.K X.mg X.base k i j W ts) := by
 intro pins s σ H D I h;obtain ⟨f, o, u, fd, hσ, hf, hd, E1, ask, hx⟩ := h;have hL : Loc X.env.scope n := .inl hl
 -- the call
 have callee : wpAny (model X.prog X.w) X.A (exec (.Expr (.Call (.Name x p1) [] [] p2) p3) X.env) (fun fl s1 => fl = .next /\ ∃ H1, Inv X pins σ H1 s1 /\ D.nx σ H1)
   (fun e s2 => ∃ s1, Inv X pins σ H s1 /\ CXx X.prog X.w X.stack H s1 E1 e s2) s := by
  refine wpAny_Expr_any (wpAny_Call_Name_kw ?_) I.quiet hsw;refine thn (Zki (X := X.wish fun e s2 => ∃ s1, Inv X pins σ H s1 /\ CXx X.prog X.w X.stack H s1 E1 e s2) hi hv hd1 hd2 pins s σ H (fun v H1 => v = .ref f /\ H1 = H) (I.wish _) ⟨_, hσ, rfl, rfl⟩) fun v s1 ⟨y, H1, I1, ry, e1, e2⟩ => ?_
  subst e1 e2;cases (show v = Value.ref f from ry);have I2 : Inv X pins σ H1 s1 := I1.unwish;obtain ⟨hget, _⟩ := (show ObjOk X.prog X.w H1 s1.heap f (.frz o u) from I2.hok f _ hf);have hF : PySem.W.FnAt f s1.heap := by
   obtain ⟨c1, d1, dt, sl⟩ := o;have hd' : dt = .func fd := hd;subst hd';exact ⟨c1, d1, fd, sl, hget⟩
  refine PySem.W.callWith_F0 hF (wpAny_call (codeAny_mono (ask X.A X.stack s1 hr I2.env0) fun r s2 hq => ?_));cases r with
  | error e => exact ⟨s1, I2, hq⟩
  | ok fl =>
   cases fl with
   | ret v =>
    obtain ⟨y, H2, I3, ry, q⟩ := I2.after hq;exact ⟨rfl, H2, I3, q⟩
   | next => exact False.elim hq
   | brk => exact False.elim hq
   | cont => exact False.elim hq
 refine wpAny_Try_except (wpAny_execs_cons (wpAny_mono callee (fun fl s1 hq => ?_) fun e s2 hq => ?_))
 ·obtain ⟨rfl, H1, I1, q⟩ := hq;exact wpAny_execs_nil (wpAny_execs_nil ⟨σ, H1, I1, q⟩)
 ·obtain ⟨s1, I1, a, C, t, B, H', rfl, F, hq⟩ := hq;obtain ⟨hm, hq⟩ := hx C H' hq;refine wpAny_looks_onW (base := B) (L := X.env.locals) (hst ▸ I1.ok.frames) hfr (hst ▸ F.fly) fun h4 hd4 sm4 => ?_
  refine wpAny_landsW hd4 fun h5 fl5 sm5 => ?_
  have J5 : Inv X pins σ (upd H' a (HX C a)) { s2 with heap := h5 } := Flew.caught I1 F (hst ▸ fl5) (sm4.trans sm5);obtain ⟨ob, hob, hobc⟩ := fl5.there;refine wpAny_handleBy_cons (codeAny_handlers_test ?_) (by intro q; cases q);have J5m := J5.marked a;refine Zec (X := X.marked a) J5m hgW hmW ?_ hd3;refine Zjc J5.kIn cw hm hob hobc ?_;refine codeAny_handlers_suite_as (lands_againW fl5 fun h6 fl6 sm6 => ?_);have J6 : Inv X pins σ (upd H' a (HX C a)) { s2 with heap := h6 } := Flew.caught I1 F (hst ▸ fl6) ((sm4.trans sm5).trans sm6);refine Zdx (v := .ref a) J6 hN hj hL rfl (fun s7 J7 => ?_) (.inr hl);have q7 := hq a _ F.noE (Zbc F.noE) Zai;refine wpAny_mono (hs a pins s7 _ _ _ (J7.marked a) q7) (fun fl s8 hs8 => ?_) fun _ _ z => z.elim
  cases fl with
  | next =>
   obtain ⟨σ', H2, J8, q⟩ := hs8;exact Zdh (J8.unmarked I.ok) hN hj hl fun s9 J9 => ⟨_, H2, J9, q⟩
  | brk =>
   obtain ⟨σ', H2, J8, q⟩ := hs8;exact Zdh (J8.unmarked I.ok) hN hj hl fun s9 J9 => ⟨_, H2, J9, q⟩
  | cont =>
   obtain ⟨σ', H2, J8, q⟩ := hs8;exact Zdh (J8.unmarked I.ok) hN hj hl fun s9 J9 => ⟨_, H2, J9, q⟩
  | ret v =>
   obtain ⟨y, σ', H2, J8, ry, q⟩ := hs8;exact Zdh (J8.unmarked I.ok) hN hj hl fun s9 J9 => ⟨y, _, H2, J9, ry, q⟩
end
end L2
set_option Elab.async false
set_option linter.all false
set_option maxRecDepth 100000
set_option maxHeartbeats 4000000
namespace L2
open PySem PySem.Spec PyProof.Rows
def HT : HO := .ext fun _ => True
theorem HT.ok {P : Program} {w : World} {H : Hp} {h : Heap} {a : Addr} {o : Obj} (e : h.get? a = some o) : ObjOk P w H h a (.frz o HT) := ⟨e, trivial, ⟨o, e⟩, fun _ _ _ _ => trivial⟩
structure Ze3 (mg : Str -> Option Value) (base : Heap) (c P : Addr) : Prop where
 hd : PySem.W.CodeHd base c P
 gP : mainGlobals ≠ P
 bt : base.BuiltinsAt mg P
structure Tab (H : Hp) (P : Addr) (q : Str) : Prop where
 ex : ∃ ps, H P = some (.tbl ps) /\ TriplesOk ps.toList /\ ∀ pos cv, codeAmong pos ps.toList = some cv -> ∃ c' oc vs t, cv = .ref c' /\ H c' = some (.frz oc HT) /\ oc.data = .fields vs /\ vs[1]? = some (.str q t)
theorem Tab.of {H G : Hp} {P : Addr} {q : Str} (x : Tab H P q) (h : ∀ b o, H b = some o -> (∃ ps, o = .tbl ps) \/ (∃ oc, o = .frz oc HT) -> G b = some o) : Tab G P q := by
 obtain ⟨ps, h1, h2, h3⟩ := x;refine ⟨ps, h _ _ h1 (.inl ⟨ps, rfl⟩), h2, fun pos cv e => ?_⟩;obtain ⟨c', oc, vs, t, e1, e2, e3⟩ := h3 pos cv e;exact ⟨c', oc, vs, t, e1, h _ _ e2 (.inr ⟨oc, rfl⟩), e3⟩
theorem Tab.same {H G : Hp} {P : Addr} {q : Str} (x : Tab H P q) (s : Same H G) : Tab G P q := x.of fun b o e _ => s b o e
theorem Tab.but {H G : Hp} {P l : Addr} {q : Str} {xs : List V} (x : Tab H P q) (s : But l H G) (hl : H l = some (.lst xs)) : Tab G P q := x.of fun b o e k => s b o e fun z => by
 subst z; rw [hl] at e; cases e;rcases k with ⟨_, k⟩ | ⟨_, k⟩ <;> cases k
theorem Zhs {pos : Pos} {a b : Int} {c cv : Value} : ∀ (l : List Value), TriplesOk l -> codeAmong pos (l ++ [rawInt a, rawInt b, c]) = some cv -> codeAmong pos l = some cv \/ cv = c := by
 intro l h e
 fun_induction TriplesOk l with
 | case1 =>
  simp only [List.nil_append, codeAmong, rawInt] at e
  split at e
  ·exact .inr (Option.some.inj e).symm
  ·cases e
 | case2 a' t b' u x r ih =>
  simp only [List.cons_append, codeAmong] at e ⊢
  split at e
  ·rename_i q; rw [if_pos q]; exact .inl e
  ·rename_i q; rw [if_neg q]; exact ih h e
 | case3 l h1 h2 => exact h.elim
section
variable {X : Cx} {pins : List (Addr × Obj)} {σ : St} {H : Hp} {s : Shared} {c P : Addr} {q : Str}
abbrev Zkn (q : Str) (params : Arguments) (body : Expr) (scope : Scope) (cl : List (Str × Addr)) (pm cv ctv : Value) : Obj := { cls := .type "function", data := .func (PySem.W.kla_fn "<lambda>" q params body scope cl pm cv ctv) }
theorem Zjt {M : Model} {A : Around} {E : Value -> Shared -> Prop} {Q : Value -> Shared -> Prop} {params : Arguments} {body : Expr} {scope : Scope} {cl : List (Str × Addr)} {pos : Pos} (I : Inv X pins σ H s) (lc : Ze3 X.mg X.base c P) (hcode : X.env.code = .ref c) (tb : Tab H P q)
  (hq : X.env.qual ++ "<lambda>" = q) (hcl : closureFor scope X.env = pure cl) (hdef : defaultsOf params X.env = ([], []))
  (h : ∀ f c' ctv pm G s1 oc vs t, Inv X pins σ G s1 -> But P H G -> H f = none -> Tab G P q -> G f = some (.frz (Zkn q params body scope cl pm (.ref c') ctv) HT) -> G c' = some (.frz oc HT) -> oc.data = .fields vs -> vs[1]? = some (.str q t) -> (∀ b o, s.heap.get? b = some o -> b ≠ P -> s1.heap.get? b = some o) -> Q (.ref f) s1) :
  wpAny M A (eval (.Lambda params body scope pos) X.env) Q E s := by
 subst hq;obtain ⟨ps, h1, h2, h3⟩ := tb;have hP : s.heap.get? P = some (PySem.W.tabObj ps) := I.hok P _ h1;refine PySem.W.kla_eval hdef ?_;have fr : ∀ b o, s.heap.get? b = some o -> b < s.heap.objs.size := fun b o e => Heap.lt_size e
 cases hn : codeAmong pos ps.toList with
 | none =>
  refine PySem.W.kla_makeFunction (mg := X.mg) (clos := cl) hcl I.ok.glob (I.mod.glob.keeps I.bk) hcode (lc.hd.keeps I.bk) hP h2 hn lc.gP (lc.bt.keeps I.bk) fun c' ctv h' tk hx hge hlt hrec htb => ?_
  obtain ⟨c2, oc, vs, t, e2, hoc, hd, hv⟩ := hrec;cases e2;generalize hf : h'.objs.size = f at *;have nP : ∀ b, s.heap.objs.size <= b -> b ≠ P := fun b hb z => by subst z; exact absurd (Nat.lt_of_lt_of_le (Heap.lt_size hP) hb) (Nat.lt_irrefl _)
  have hfs : s.heap.objs.size <= f := Nat.le_trans hge (Nat.le_of_lt hlt);have Hc : H c' = none := I.hok.fresh hge;have Hf : H f = none := I.hok.fresh hfs;have cf : c' ≠ f := Nat.ne_of_lt hlt;have old : ∀ b o, s.heap.get? b = some o -> b ≠ c' /\ b ≠ f := fun b o e => ⟨Nat.ne_of_lt (Nat.lt_of_lt_of_le (fr b o e) hge), Nat.ne_of_lt (Nat.lt_of_lt_of_le (fr b o e) hfs)⟩
  have keep : ∀ b o, s.heap.get? b = some o -> b ≠ P -> ∀ oo : Obj, (h'.push oo).get? b = some o := fun b o e hb oo => Heap.get?_push_of_some _ (hx b o hb e)
  let G : Hp := upd (upd (upd H P (.tbl (ps ++ #[rawInt pos.line, rawInt pos.col, .ref c']))) c' (.frz oc HT)) f (.frz (Zkn (X.env.qual ++ "<lambda>") params body scope cl ((X.mg "__name__").getD .none) (.ref c') ctv) HT)
  have Gf : G f = some (.frz (Zkn (X.env.qual ++ "<lambda>") params body scope cl ((X.mg "__name__").getD .none) (.ref c') ctv) HT) := Zai;have Gc : G c' = some (.frz oc HT) := by show upd _ f _ c' = _; rw [Zaj cf, Zai]
  have GP : G P = some (.tbl (ps ++ #[rawInt pos.line, rawInt pos.col, .ref c'])) := by show upd _ f _ P = _; rw [Zaj (Ne.symm (nP f hfs)), Zaj (Ne.symm (nP c' hge)), Zai]
  have Go : ∀ b, b ≠ P -> b ≠ c' -> b ≠ f -> G b = H b := fun b a1 a2 a3 => by show upd _ f _ b = _; rw [Zaj a3, Zaj a2, Zaj a1]
  have Gs : ∀ b u, H b = some u -> b ≠ P -> G b = some u := fun b u e hb => by rw [Go b hb (fun z => by subst z; rw [Hc] at e; cases e) (fun z => by subst z; rw [Hf] at e; cases e)]; exact e
  have hbut : But P H G := fun b u e hb => Gs b u e hb
  have tab' : Tab G P (X.env.qual ++ "<lambda>") := by
   refine ⟨_, GP, ?_, fun pos' cv e => ?_⟩
   ·have : (ps ++ #[rawInt pos.line, rawInt pos.col, Value.ref c']).toList = ps.toList ++ [rawInt pos.line, rawInt pos.col, .ref c'] := by simp
    rw [this]; exact TriplesOk_snoc _ _ _ _ h2
   ·have : (ps ++ #[rawInt pos.line, rawInt pos.col, Value.ref c']).toList = ps.toList ++ [rawInt pos.line, rawInt pos.col, .ref c'] := by simp
    rw [this] at e;rcases Zhs _ h2 e with e | e
    ·obtain ⟨c1, oc1, vs1, t1, e1, e2, e3⟩ := h3 pos' cv e;exact ⟨c1, oc1, vs1, t1, e1, Gs _ _ e2 (fun z => by subst z; rw [h1] at e2; cases e2), e3⟩
    ·exact ⟨c', oc, vs, t, e, Gc, hd, hv⟩
  refine h f c' ctv _ G _ oc vs t (I.un (t' := tk) ⟨fun b o e n _ _ => keep b o e (fun z => by subst z; rw [h1] at n; cases n) _, fun b o e n _ _ => ⟨o.slots, keep b o e (fun z => by subst z; rw [h1] at n; cases n) _⟩, fun b o e n _ => ?_, fun b o e _ => ?_, fun b xs e => ?_, fun b ob u e => ?_, fun b ps' e => ?_⟩ fun b u e => ?_) hbut Hf tab' Gf Gc hd hv fun b o e hb => keep b o e hb _
  ·rw [Go b (fun z => by subst z; rw [h1] at n; cases n) (old b o e).1 (old b o e).2]; exact n
  ·by_cases hb : b = P
   ·subst hb; exact ⟨_, Heap.get?_push_of_some _ htb⟩
   ·exact ⟨o, keep b o e hb _⟩
  ·exact Gs b _ e (fun z => by subst z; rw [h1] at e; cases e)
  ·exact Gs b _ e (fun z => by subst z; rw [h1] at e; cases e)
  ·by_cases hb : b = P
   ·subst hb; rw [h1] at e; cases e; exact ⟨_, GP⟩
   ·exact ⟨#[], by rw [Gs b _ e hb]; simp⟩
  ·by_cases b1 : b = f
   ·subst b1; rw [Gf] at e; cases e;exact HT.ok (by rw [<- hf]; exact Heap.get?_push_size _ rfl)
   ·by_cases b2 : b = c'
    ·subst b2; rw [Gc] at e; cases e;exact HT.ok (Heap.get?_push_of_some _ hoc)
    ·by_cases b3 : b = P
     ·subst b3; rw [GP] at e; cases e;exact Heap.get?_push_of_some _ htb
     ·rw [Go b b3 b2 b1] at e;refine (I.hok b u e).stay (fun b' u' hb' z => keep b' u' z (fun zz => ?_) _) (fun b' z => Gs b' _ z fun zz => by subst zz; rw [h1] at z; cases z) fun b' xs z => Gs b' _ z fun zz => by subst zz; rw [h1] at z; cases z
      rcases hb' with rfl | hb'
      ·exact b3 zz
      ·subst zz; rw [h1] at hb'; cases hb'
 | some cv =>
  obtain ⟨c', oc, vs, t, rfl, hc', hd, hv⟩ := h3 pos cv hn;refine PySem.W.kla_makeFunctionHit (mg := X.mg) (clos := cl) hcl I.ok.glob (I.mod.glob.keeps I.bk) hcode (lc.hd.keeps I.bk) hP h2 hn (lc.bt.keeps I.bk) fun ctv h' tk hk hsz => ?_
  have hk' : ∀ b o, s.heap.get? b = some o -> ∀ oo : Obj, (h'.push oo).get? b = some o := fun b o e oo => Heap.get?_push_of_some _ (hk b o e)
  have Hf : H h'.objs.size = none := I.hok.fresh hsz;refine h h'.objs.size c' ctv _ (upd H h'.objs.size (.frz _ HT)) _ oc vs t (I.laid (t' := tk) (fun b u e => hk' b u e _) hsz (HT.ok (Heap.get?_push_size _ rfl))) ((Zbc Hf).toBut) Hf (Tab.same ⟨ps, h1, h2, h3⟩ (Zbc Hf)) Zai ?_ hd hv fun b o e _ => hk' b o e _
  exact Zbc Hf _ _ hc'
end
end L2
set_option Elab.async false
set_option linter.all false
set_option maxRecDepth 100000
set_option maxHeartbeats 4000000
namespace L2
open PySem PySem.Spec PyProof.Rows
def frzC (cl : List (Str × Addr)) (h : Heap) (H : Hp) : Hp := fun b => if b ∈ cl.map (·.2) then (h.get? b).map (fun o => .frz o HT) else H b
def unC (cl : List (Str × Addr)) (H : Hp) : Hp := fun b => if b ∈ cl.map (·.2) then none else H b
theorem HOk.frz {P : Program} {w : World} {H : Hp} {h : Heap} {a : Addr} {o : Obj} {u : HO} (x : HOk P w H h) (e : H a = some (.frz o u)) : h.get? a = some o := (x a _ e).1
section
variable {cl : List (Str × Addr)} {h hs hs' : Heap} {G H2 Gc : Hp} {fs : List Addr} {P : Program} {w : World}
theorem Zas {b : Addr} (n : b ∉ cl.map (·.2)) : frzC cl h G b = G b := if_neg n
theorem Zb4 {b : Addr} (n : b ∈ cl.map (·.2)) : frzC cl h G b = (h.get? b).map (fun o => .frz o HT) := if_pos n
theorem Zcd {b : Addr} (n : b ∉ cl.map (·.2)) : unC cl G b = G b := if_neg n
theorem Zgo {b : Addr} (n : b ∈ cl.map (·.2)) : unC cl G b = none := if_pos n
theorem Ziy (hok : HOk P w (frzC cl h G) hs) (hc : ∀ b ∈ cl.map (·.2), (∃ o, h.get? b = some o) /\ b ∉ fs) (u : Un fs [] (unC cl (frzC cl h G)) H2 hs hs') :
  Un fs [] (frzC cl h G) (frzC cl h H2) hs hs' /\ (∀ b ∈ cl.map (·.2), H2 b = none) /\ ∀ B : Heap, (∀ b o, hs.get? b = some o -> b ∉ fs -> unC cl (frzC cl h G) b = none -> B.get? b = some o) -> HOk P w H2 B -> HOk P w (frzC cl h H2) B := by
 have inC : ∀ b, b ∈ cl.map (·.2) -> ∃ o, h.get? b = some o /\ hs.get? b = some o /\ frzC cl h G b = some (.frz o HT) := fun b hb => by
  obtain ⟨⟨o, e⟩, _⟩ := hc b hb;have q : frzC cl h G b = some (.frz o HT) := by rw [Zb4 hb, e]; rfl
  exact ⟨o, e, (hok b _ q).1, q⟩
 have notIn : ∀ b, frzC cl h G b = none -> b ∉ cl.map (·.2) := fun b e hb => by obtain ⟨o, _, _, q⟩ := inC b hb; rw [e] at q; cases q
 have un0 : ∀ b, frzC cl h G b = none -> unC cl (frzC cl h G) b = none := fun b e => by rw [Zcd (notIn b e)]; exact e
 have noH : ∀ b ∈ cl.map (·.2), H2 b = none := fun b hb => by
  obtain ⟨o, _, e, _⟩ := inC b hb;exact u.free b o e (Zgo hb) (by simp)
 refine ⟨⟨fun b o e n hf hx => u.keep b o e (un0 b n) hf hx, fun b o e n hf hx => u.slot b o e (un0 b n) hf hx, fun b o e n hx => ?_, u.there, fun b xs e => ?_, fun b ob x e => ?_, fun b ps e => ?_⟩, noH, fun B hB hk b o e => ?_⟩
 ·rw [Zas (notIn b n)]; exact u.free b o e (un0 b n) hx
 ·by_cases hb : b ∈ cl.map (·.2)
  ·obtain ⟨o, _, _, q⟩ := inC b hb; rw [e] at q; cases q
  ·rw [Zas hb] at e ⊢;exact u.tups b xs (by rw [Zcd hb, Zas hb]; exact e)
 ·by_cases hb : b ∈ cl.map (·.2)
  ·rw [Zb4 hb] at e ⊢; exact e
  ·rw [Zas hb] at e ⊢;exact u.frzs b ob x (by rw [Zcd hb, Zas hb]; exact e)
 ·by_cases hb : b ∈ cl.map (·.2)
  ·obtain ⟨o, _, _, q⟩ := inC b hb; rw [e] at q; cases q
  ·rw [Zas hb] at e;obtain ⟨m, z⟩ := u.tbls b ps (by rw [Zcd hb, Zas hb]; exact e);exact ⟨m, by rw [Zas hb]; exact z⟩
 ·by_cases hb : b ∈ cl.map (·.2)
  ·obtain ⟨o', e1, e2, q⟩ := inC b hb;rw [Zb4 hb, e1] at e; cases e;exact HT.ok (hB b o' e2 (hc b hb).2 (Zgo hb))
  ·rw [Zas hb] at e;have ni : ∀ c u', H2 c = some u' -> c ∉ cl.map (·.2) := fun c u' z hm => by rw [noH c hm] at z; cases z
   exact (hk b o e).stay (fun _ _ _ z => z) (fun c z => by rw [Zas (ni c _ z)]; exact z) fun c xs z => by rw [Zas (ni c _ z)]; exact z
end
def Zhp (P : Program) (w : World) (K : PySem.W.Frag) (mg : Str -> Option Value) (base : Heap) (N' : List Str) (q : Str) (scope : Scope) (f : Addr) (cd : Value) (cl : List (Str × Addr)) (A : Around) (outer : List Env) (s : Shared) (H : Hp) (E : XK) : Cx where
 prog := P
 w := w
 K := K
 mg := mg
 base := base
 A := A.deeper (PySem.W.envX q scope s.heap.objs.size f cd cl)
 N := N'
 s₀ := s
 H₀ := H
 env := PySem.W.envX q scope s.heap.objs.size f cd cl
 outer := outer
 stack := PySem.W.envX q scope s.heap.objs.size f cd cl :: outer
 ex := []
 calm := true
 fn := fun _ => false
 pn := []
 xe := fun e s' => wpAny (model P w) (A.deeper (PySem.W.envX q scope s.heap.objs.size f cd cl)) (leaving (PySem.W.envX q scope s.heap.objs.size f cd cl) e) (fun _ s'' => CXx P w outer H s E e s'') (fun e' s'' => CXx P w outer H s E e' s'') s'
theorem Zhm {P : Program} {w : World} {K : PySem.W.Frag} {mg : Str -> Option Value} {base : Heap} {N' : List Str} {q : Str} {scope : Scope} {f : Addr} {cd : Value} {cl : List (Str × Addr)} {A : Around} {outer : List Env} {s : Shared} {H : Hp} {E : XK} :
  Zfw (Zhp P w K mg base N' q scope f cd cl A outer s H E) E := ⟨rfl, rfl, rfl, fun _ _ h => h⟩
structure Zdj (scope : Scope) (N' : List Str) : Prop where
 kind : scope.kind = .function
 co : scope.isCoroutine = false
 gen : scope.isGenerator = false
 nocell : ∀ y ∈ scope.names, y.2 ≠ .cell
 free : ∀ x ∈ N', scope.names.lookup x = some .free
def Holds (cl : List (Str × Addr)) (h : Heap) (N' : List Str) (σ : St) : Prop := ∀ (i : Nat) (x : Str) (v : V), N'[i]? = some x -> σ[i]? = some (some v) -> ∃ c o u, cl.lookup x = some c /\ h.get? c = some o /\ o.data = .cell (some u) /\ RelV v u
structure Zl1 (cl : List (Str × Addr)) (h : Heap) (scope : Scope) : Prop where
 inj : ∀ x y c, cl.lookup x = some c -> cl.lookup y = some c -> x = y
 has : ∀ x, (x, NameKind.free) ∈ scope.names -> ∃ c, cl.lookup x = some c
 cell : ∀ b ∈ cl.map (·.2), ∃ o v, h.get? b = some o /\ o.data = .cell v
theorem Zb2 {cl : List (Str × Addr)} {x : Str} {c : Addr} (h : cl.lookup x = some c) : c ∈ cl.map (·.2) := List.mem_map.mpr ⟨(x, c), PySem.mem_of_lookup h, rfl⟩
section
variable {P : Program} {w : World} {K : PySem.W.Frag} {mg : Str -> Option Value} {base : Heap} {N' : List Str} {q : Str} {scope : Scope} {f c' : Addr} {cl : List (Str × Addr)} {params : Arguments} {body : Expr} {k : Nat} {h : Heap} {G : Hp} {σ : St} {te : XK -> TE} {pm ctv : Value}
theorem Zju (S : Zdj scope N') (C : Zl1 cl h scope) (hσ : Holds cl h N' σ) (hl : σ.length = N'.length) {oc : Obj} {vs : Array Value} {t : Tok} (hGf : G f = some (.frz (Zkn q params body scope cl pm (.ref c') ctv) HT)) (hGc : G c' = some (.frz oc HT)) (hd : oc.data = .fields vs) (hv : vs[1]? = some (.str q t))
  (hcf : ∀ b ∈ cl.map (·.2), G b = none) (hbind : ∀ pm cv ctv, bindArgs (PySem.W.kla_fn "<lambda>" q params body scope cl pm cv ctv) ⟨[], []⟩ = pure [])
  (hb : ∀ (A : Around) (outer : List Env) (s : Shared) (H : Hp) (E : XK), Room k (A.deeper (PySem.W.envX q scope s.heap.objs.size f (.ref c') cl)) -> PE (Zhp P w K mg base N' q scope f (.ref c') cl A outer s H E) body (te E))
  {Q : VK} {E : XK} (ht : te E σ G Q) : Asks P w K mg base (k + 1) f (frzC cl h G) (fun v H' => ∃ H2, H' = frzC cl h H2 /\ (∀ b ∈ cl.map (·.2), H2 b = none) /\ Q v H2) (fun c _ H' => ∃ H2, H' = frzC cl h H2 /\ (∀ b ∈ cl.map (·.2), H2 b = none) /\ E c none H2) := by
 intro A outer s hr e0;have eG : unC cl (frzC cl h G) = G := by
  funext b
  by_cases hb : b ∈ cl.map (·.2)
  ·rw [Zgo hb, hcf b hb]
  ·rw [Zcd hb, Zas hb]
 have nC : ∀ b x, G b = some x -> b ∉ cl.map (·.2) := fun b x e hb => by rw [hcf b hb] at e; cases e
 have gf : s.heap.get? f = some (Zkn q params body scope cl pm (.ref c') ctv) := e0.hok.frz (by rw [Zas (nC f _ hGf)]; exact hGf);have gc : s.heap.get? c' = some oc := e0.hok.frz (by rw [Zas (nC c' _ hGc)]; exact hGc);have cellAt : ∀ b ∈ cl.map (·.2), ∃ o, h.get? b = some o /\ s.heap.get? b = some o := fun b hb => by
  obtain ⟨o, v, e1, _⟩ := C.cell b hb;exact ⟨o, e1, e0.hok.frz (by rw [Zb4 hb, e1]; rfl)⟩
 have cfs : ∀ b ∈ cl.map (·.2), b ∉ frs outer := fun b hb hm => by
  obtain ⟨o, e1, _⟩ := cellAt b hb;have := e0.frf b hm;rw [Zb4 hb, e1] at this; cases this
 have hcc : ∀ b ∈ cl.map (·.2), (∃ o, h.get? b = some o) /\ b ∉ frs outer := fun b hb => ⟨(cellAt b hb).imp fun o z => z.1, cfs b hb⟩
 have hokG : HOk P w G s.heap := fun b o e => by
  have hb := nC b _ e;exact (e0.hok b o (by rw [Zas hb]; exact e)).stay (fun _ _ _ z => z) (fun d z => by
   by_cases hd : d ∈ cl.map (·.2)
   ·obtain ⟨o1, e1, _⟩ := cellAt d hd;rw [Zb4 hd, e1] at z; cases z
   ·rw [Zas hd] at z; exact z) fun d xs z => by
   by_cases hd : d ∈ cl.map (·.2)
   ·obtain ⟨o1, e1, _⟩ := cellAt d hd;rw [Zb4 hd, e1] at z; cases z
   ·rw [Zas hd] at z; exact z
 have gN : ∀ b, frzC cl h G b = none -> G b = none := fun b e => by
  by_cases hb : b ∈ cl.map (·.2)
  ·exact hcf b hb
  ·rw [Zas hb] at e; exact e
 refine PySem.W.kla_callFunE hr.depth gf rfl S.co S.gen rfl ⟨c', oc, vs, t, rfl, gc, hd, hv⟩ ?_;rw [hbind];refine wpAny_pure (wpAny_newFunctionEnv S.nocell (fun y hy => absurd hy (by simp)) (fun h₁ hns hsb => ⟨?_, ?_⟩) S.kind)
 ·exact (e0.mod.nolimit.keeps fun b o e => (e0.bs b o e).1).fresh _ hsb
 have hk₁ : ∀ b o, s.heap.get? b = some o -> h₁.get? b = some o := fun b o e => hsb.extBut b o (Nat.ne_of_lt (Heap.lt_size e)) (Heap.get?_push_of_some _ e)
 show codeAny _ _ (.expr body (PySem.W.envX q scope s.heap.objs.size f (.ref c') cl)) _ _;refine PySem.W.kla_codeExpr ?_;have noA : ∀ b : Addr, b ∉ (Zhp P w K mg base N' q scope f (.ref c') cl A outer s G E).ex := fun b z => absurd (show b ∈ ([] : List Addr) from z) (by simp)
 have I : Inv (Zhp P w K mg base N' q scope f (.ref c') cl A outer s G E) [] σ G { s with heap := h₁, toks := s.toks } := by
  refine ⟨⟨e0.mod, S.kind, rfl, rfl, Nat.le_refl _, C.inj, fun x hx => ?_, (fun x c z => by cases z), fun _ => hr.hd, Around.frames_deeper e0.frames, .inr ⟨rfl, rfl⟩, fun b z => absurd z (noA b), fun b o e => ⟨(e0.bs b o e).1, gN b (e0.bs b o e).2⟩, e0.bsz, fun b _ _ => noA b, fun b z => absurd z (noA b), e0.funs, fun b hb => gN b (e0.frf b hb)⟩,
   rfl, e0.bare, Un.kept hk₁, ⟨_, hns, fun i x v e1 e2 e3 => ?_⟩, fun x c e => ?_, hokG.fresh (Nat.le_refl _), fun x c e => hcf c (Zb2 e), fun p hp => absurd (show p ∈ ([] : List (Addr × Obj)) from hp) (by simp), hokG.kept hk₁, hl⟩
  ·have hx : scope.names.lookup x = some .cell \/ scope.names.lookup x = some .free := hx;rcases hx with hx | hx
   ·exact absurd rfl (S.nocell _ (PySem.mem_of_lookup hx))
   ·exact C.has x (PySem.mem_of_lookup hx)
  ·obtain ⟨c, o, u, q1, q2, q3, q4⟩ := hσ i x v e1 e2;obtain ⟨o', z1, z2⟩ := cellAt c (Zb2 q1);rw [q2] at z1; cases z1;exact ⟨u, q4, .inr ⟨.inr (S.free x (List.mem_of_getElem? e1)), c, q1, ⟨o, hk₁ _ _ z2, q3⟩⟩⟩
  ·obtain ⟨o, v, z1, z2⟩ := C.cell c (Zb2 e);obtain ⟨o', y1, y2⟩ := cellAt c (Zb2 e);rw [z1] at y1; cases y1;exact ⟨v, ⟨o, hk₁ _ _ y2, z2⟩⟩
 refine wpAny_mono (hb A outer s G E (hr.deeper _) [] _ σ G Q I ht) (fun v s' hs => ?_) fun e s' hs => ?_
 ·obtain ⟨x, H', J, rx, qx⟩ := hs;obtain ⟨u1, u2, u3⟩ := Ziy (fs := frs outer) e0.hok hcc (eG ▸ J.base);exact ⟨x, frzC cl h H', J.os, J.bare, u1, u3 _ (fun b o e nf n => J.base.keep b o e (eG ▸ n) nf (by simp [Zhp])) J.hok, rx, H', rfl, u2, qx⟩
 ·refine wpAny_mono hs (fun _ s'' hc => ?_) fun e' s'' hc => ?_
  ·obtain ⟨a, C1, t1, B, H', e1, F, hE⟩ := hc;obtain ⟨u1, u2, u3⟩ := Ziy (fs := frs outer) e0.hok hcc (eG ▸ F.un);exact ⟨a, C1, t1, B, frzC cl h H', e1, ⟨F.os, F.bare, F.fly, u3 B (fun b o e nf n => F.keepB b o e nf (eG ▸ n)) F.hok, u1, fun b o e nf n => F.keepB b o e nf (gN b n), F.thereB⟩, H', rfl, u2, hE⟩
  ·obtain ⟨a, C1, t1, B, H', e1, F, hE⟩ := hc;obtain ⟨u1, u2, u3⟩ := Ziy (fs := frs outer) e0.hok hcc (eG ▸ F.un);exact ⟨a, C1, t1, B, frzC cl h H', e1, ⟨F.os, F.bare, F.fly, u3 B (fun b o e nf n => F.keepB b o e nf (eG ▸ n)) F.hok, u1, fun b o e nf n => F.keepB b o e nf (gN b n), F.thereB⟩, H', rfl, u2, hE⟩
end
end L2
set_option Elab.async false
set_option linter.all false
set_option maxRecDepth 100000
set_option maxHeartbeats 4000000
namespace L2
open PySem PySem.Spec PyProof.Rows
theorem Ze1 {env : Env} : ∀ (names : List (Str × NameKind)) (cs : List (Str × Addr)), (∀ x, (x, NameKind.free) ∈ names -> ∃ c, env.cells.lookup x = some c) -> (∀ p ∈ cs, env.cells.lookup p.1 = some p.2) ->
  ∃ cl, (forIn names cs fun (p : Str × NameKind) (r : List (Str × Addr)) => (match p with | (name, kind) => (if (kind == NameKind.free) = true then (do let a <- cellOf env name; pure (ForInStep.yield ((name, a) :: r))) else pure (ForInStep.yield r)) : Sem (ForInStep (List (Str × Addr))))) = pure cl /\ ∀ p ∈ cl, env.cells.lookup p.1 = some p.2
 | [], cs, _, h2 => ⟨cs, rfl, h2⟩
 | (n, k) :: r, cs, h1, h2 => by
  by_cases hk : k = NameKind.free
  ·subst hk;obtain ⟨c, hc⟩ := h1 n List.mem_cons_self;obtain ⟨cl, e, a⟩ := Ze1 r ((n, c) :: cs) (fun x hx => h1 x (List.mem_cons_of_mem _ hx)) (fun p hp => by
    rcases List.mem_cons.mp hp with rfl | hp
    ·exact hc
    ·exact h2 p hp)
   refine ⟨cl, ?_, a⟩;rw [List.forIn_cons];have : cellOf env n = pure c := by unfold cellOf; rw [hc]
   simp only [this, beq_self_eq_true, if_true];exact e
  ·obtain ⟨cl, e, a⟩ := Ze1 r cs (fun x hx => h1 x (List.mem_cons_of_mem _ hx)) h2;have hb : (k == NameKind.free) = false := by simpa using hk
   refine ⟨cl, ?_, a⟩;rw [List.forIn_cons];simp only [hb, Bool.false_eq_true, if_false];exact e
theorem Zj3 {scope : Scope} {env : Env} (h : ∀ x, (x, NameKind.free) ∈ scope.names -> ∃ c, env.cells.lookup x = some c) :
  ∃ cl, closureFor scope env = pure cl /\ (∀ x c, cl.lookup x = some c -> env.cells.lookup x = some c) /\ (∀ x, (x, NameKind.free) ∈ scope.names -> ∃ c, cl.lookup x = some c) /\ ∀ p ∈ cl, env.cells.lookup p.1 = some p.2 := by
 obtain ⟨cl, e, a, b⟩ := Zgj h;obtain ⟨cl', e', a'⟩ := Ze1 scope.names [] h (fun p z => nomatch z);have e2 : closureFor scope env = pure cl' := by
  unfold closureFor;show (forIn scope.names [] _ >>= fun cs => pure cs) = pure cl';rw [show (forIn scope.names ([] : List (Str × Addr)) _ : Sem _) = pure cl' from e'];rfl
 have : (pure cl : Sem (List (Str × Addr))) = pure cl' := e.symm.trans e2;have z : cl = cl' := by injection this
 subst z;exact ⟨cl, e, a, b, a'⟩
theorem Asks.mono {P : Program} {w : World} {K : PySem.W.Frag} {mg : Str -> Option Value} {base : Heap} {k : Nat} {f : Addr} {H : Hp} {Q Q' : VK} {E E' : XK} (h : Asks P w K mg base k f H Q E) (hQ : ∀ v H', Q v H' -> Q' v H') (hE : ∀ C H', E (.ref C) none H' -> E' (.ref C) none H') :
  Asks P w K mg base k f H Q' E' := fun A outer s hr e0 => codeAny_mono (h A outer s hr e0) fun r s' hq => by
 cases r with
 | error e =>
  obtain ⟨a, C, t, B, H', e1, F, z⟩ := hq;exact ⟨a, C, t, B, H', e1, F, hE C H' z⟩
 | ok fl =>
  cases fl with
  | ret u =>
   obtain ⟨v, H', z1, z2, z3, z4, z5, z6⟩ := hq;exact ⟨v, H', z1, z2, z3, z4, z5, hQ v H' z6⟩
  | next => exact hq
  | brk => exact hq
  | cont => exact hq
def Zp1 (P : Addr) (q : Str) (params : Arguments) (body : Expr) (scope : Scope) (cl : List (Str × Addr)) : TE := fun _ H Q => Tab H P q /\ ∀ f c' ctv pm G oc vs t, But P H G -> H f = none -> Tab G P q -> G f = some (.frz (Zkn q params body scope cl pm (.ref c') ctv) HT) -> G c' = some (.frz oc HT) -> oc.data = .fields vs -> vs[1]? = some (.str q t) -> Q (.ref f) G
section
variable {X : Cx} {c P : Addr} {q : Str} {params : Arguments} {body : Expr} {scope : Scope} {cl : List (Str × Addr)} {lpos : Pos}
theorem Zm8 (lc : Ze3 X.mg X.base c P) (hcode : X.env.code = .ref c) (hq : X.env.qual ++ "<lambda>" = q) (hcl : closureFor scope X.env = pure cl) (hdef : defaultsOf params X.env = ([], [])) : PE X (.Lambda params body scope lpos) (Zp1 P q params body scope cl) := by
 intro pins s σ H Q I h;obtain ⟨tb, h⟩ := h;exact Zjt I lc hcode tb hq hcl hdef fun f c' ctv pm G s1 oc vs t I1 b1 b2 b3 b4 b5 b6 b7 _ => ⟨.ref f, G, I1, rfl, h f c' ctv pm G oc vs t b1 b2 b3 b4 b5 b6 b7⟩
def Zk0 (Kd : Addr -> Str -> Prop) (P : Addr) (q : Str) (caps : List (Option Nat)) (te : XK -> TE) : TE := fun σ H Q => Tab H P q /\ ∀ G0, But P H G0 -> Tab G0 P q ->
 te (fun c _ H' => ∃ C wd, c = .ref C /\ Kd C wd /\ ∀ G, Same H' G -> Q (.str wd) G) (capSt caps σ) G0 (fun _ _ => False)
structure LamAt (X : Cx) (N' : List Str) (scope : Scope) (caps : List (Option Nat)) : Prop where
 s : Zdj scope N'
 cap : Zj7 X.N N' scope caps
 vis : ∀ x, (x, NameKind.free) ∈ scope.names -> X.env.kindOf x = some .cell \/ X.env.kindOf x = some .free
variable {fn : Str} {p pos : Pos} {k k1 : Nat} {ps : List Str} {sp : Sp} {N' : List Str} {caps : List (Option Nat)} {te : XK -> TE} {Kd : Addr -> Str -> Prop}
end
end L2
set_option Elab.async false
set_option linter.all false
set_option maxRecDepth 100000
set_option maxHeartbeats 4000000
namespace L2
open PySem PySem.Spec PyProof.Rows
structure Zly (K : PySem.W.Frag) (x qual : Str) (st : Stmt) (f : Addr) (fd : FuncData) (cdv : Value) : Prop where
 ex : ∃ (oc : Value) (od : Option Addr) (kV doc pm : Value) (an : Option Addr) (ct : Value) (osl : Array (Option Value)),
  fd = PySem.W.fnOf x qual (Zaq st) (defBody st) (defScope st) .none kV doc pm an cdv ct /\ K.lookup f = some ⟨oc, od, .func fd, osl⟩ /\ PySem.W.codeIn K cdv qual = true
theorem Ziq {P : Program} {w : World} {K : PySem.W.Frag} {mg mb : Str -> Option Value} {k : Nat} {fa a c T : Addr} {fd : FuncData} {x : Str} {sp : Sp} {s₁ : Shared} {vs : List Value} {ns : List Int}
  (KX : K.In s₁.heap) (hns : s₁.heap.Ns mainGlobals mg) (hb : s₁.heap.Ns builtinsNs mb) (hbb : ∀ x : Str, x ≠ "__name__" -> mb x = bootBuiltins x) (hlim : s₁.heap.NoLimit) (hg : s₁.gens = #[])
  (hbm : ∃ bm ob, mg "__builtins__" = some (.ref bm) /\ bm ≠ builtinsNs /\ s₁.heap.get? bm = some ob /\ ob.cls = .type "module" /\ ob.dict = some builtinsNs /\ ob.data = .plain)
  (hcd : PySem.W.CodeHd s₁.heap c T) (hT : s₁.heap.get? T = some (PySem.W.tabObj #[])) (hKT : K.lookup T = none)
  (ha : s₁.heap.get? a = some { cls := .type "list", data := .seq vs.toArray }) (hi : IntsAre vs ns) (hl : ns.length <= sizeLine) (hr : Room k callerA)
  (F : ∀ base : Heap, K.In base -> base.Ns mainGlobals mg -> Ze3 mg base c T -> Zcc P w K mg base CX0 k fa fd [x] sp) (hbind : ∀ (s : Shared) (u : Value), BindsTo s fd ⟨[u], []⟩ [(x, u)])
  (hsp : ∀ H : Hp, H T = some (.tbl #[]) -> SqL K H a (ns.map V.int) -> sp [.ref a] H (fun v _ => v = .bl true) fun _ _ _ => False) :
  codeAny (model P w) callerA (.call (.ref fa) ⟨[.ref a], []⟩) (fun r s' => r = .ok (.ret (.bool true)) /\ OldK s₁.heap s'.heap /\ s'.os = s₁.os /\ AllBare s'.gens) s₁ := by
 have rv := Ze4 hi;have lenV := hi.length;have aT : a ≠ T := fun z => by subst z; rw [ha] at hT; cases hT
 obtain ⟨bm, ob, m1, m2, m3, m4, m5, m6⟩ := hbm;have core : ∀ H : Hp, (∀ b, H b = none \/ (∃ o xs, H b = some (.frz o (.lst xs))) \/ b = T) -> H T = some (.tbl #[]) -> SqL K H a (ns.map V.int) -> HOk P w H s₁.heap -> (∀ b, H b ≠ none -> b = a \/ b = T) -> (H a ≠ none -> K.lookup a = none) ->
   codeAny (model P w) callerA (.call (.ref fa) ⟨[.ref a], []⟩) (fun r s' => r = .ok (.ret (.bool true)) /\ OldK s₁.heap s'.heap /\ s'.os = s₁.os /\ AllBare s'.gens) s₁ := by
  intro H hO hHT hS hok hA hK;have base_of : ∀ {b : Addr} {o : Obj}, s₁.heap.get? b = some o -> H b = none -> (Zja s₁.heap H).get? b = some o := fun e n => Zjx e n
  have no2 : ∀ {b : Addr} {o : Obj}, s₁.heap.get? b = some o -> o.cls ≠ .type "list" -> o.cls ≠ .none -> H b = none := fun {b o} e n1 n2 => by
   cases q : H b with
   | none => rfl
   | some u =>
    rcases hA b (by rw [q]; simp) with e' | e'
    ·subst e'; rw [ha] at e; cases e; exact absurd rfl n1
    ·subst e'; rw [hT] at e; cases e; exact absurd rfl n2
  have noA : ∀ {b : Addr} {o : Obj} {es : Array DictEntry} {ep : Nat}, s₁.heap.get? b = some o -> o.data = .dict es ep -> H b = none := fun {b o es ep} e d => by
   cases q : H b with
   | none => rfl
   | some u =>
    rcases hA b (by rw [q]; simp) with e' | e'
    ·subst e'; rw [ha] at e; cases e;have d' : Data.seq vs.toArray _ = Data.dict es ep := d;cases d'
    ·subst e'; rw [hT] at e; cases e;have d' : Data.fields #[] = Data.dict es ep := d;cases d'
  have nsK : ∀ {b : Addr} {m : Str -> Option Value}, s₁.heap.Ns b m -> (Zja s₁.heap H).Ns b m := fun {b m} ⟨o, es, ep, e, d, r⟩ => ⟨o, es, ep, base_of e (noA e d), d, r⟩
  have hKb : K.In (Zja s₁.heap H) := fun b o e => base_of (KX b o e) (by
   cases q : H b with
   | none => rfl
   | some u =>
    rcases hA b (by rw [q]; simp) with e' | e'
    ·subst e'; rw [hK (by rw [q]; simp)] at e; cases e
    ·subst e'; rw [hKT] at e; cases e)
  have hM : Mod K mg (Zja s₁.heap H) := ⟨hKb, nsK hns, ⟨mb, nsK hb, hbb⟩, let ⟨mc, h1, h2⟩ := hlim; ⟨mc, nsK h1, h2⟩⟩;have gT : mainGlobals ≠ T := fun z => by
   obtain ⟨o, es, ep, e, d, _⟩ := hns;rw [z, hT] at e; cases e; cases d
  have hLC : Ze3 mg (Zja s₁.heap H) c T := by
   refine ⟨?_, gT, bm, ob, m1, m2, ?_, ?_, base_of m3 (no2 m3 (by rw [m4]; nofun) (by rw [m4]; nofun)), m4, m5, m6⟩
   ·obtain ⟨o, ws, file, tf, flags, tg, inF, text, tt, e1, e2, r⟩ := hcd;exact ⟨o, ws, file, tf, flags, tg, inF, text, tt, base_of e1 (no2 e1 (by rw [e2]; nofun) (by rw [e2]; nofun)), e2, r⟩
   ·intro z;obtain ⟨o, es, ep, e, d, _⟩ := hns;rw [<- z, m3] at e; cases e; rw [m6] at d; cases d
   ·intro z; rw [z, hT] at m3; cases m3; cases m4
  have e0 : Env0 P w K mg (Zja s₁.heap H) callerA [] s₁ H := ⟨rfl, hM, fun b o e => Zli e, Nat.le_of_eq (Ziw _ _), trivial, fun b hb => absurd (show b ∈ ([] : List Addr) from hb) (by simp), hok, .of_eq hg⟩;refine codeAny_mono ((F _ hKb (nsK hns) hLC).run callerA [] s₁ H ⟨[.ref a], []⟩ [.ref a] [.ref a] _ _ hr e0 (hbind s₁ (.ref a)) (.cons rfl .nil) (hsp H hHT hS)) fun r s' h => ?_
  cases r with
  | error e => exact h.elim
  | ok fl =>
   cases fl with
   | next => exact False.elim h
   | brk => exact False.elim h
   | cont => exact False.elim h
   | ret u =>
    obtain ⟨v, H', os, bare, un, hok', r', q⟩ := h;have q' : v = .bl true := q;subst q';obtain rfl : u = Value.bool true := r';have kp : ∀ b o, s₁.heap.get? b = some o -> b ≠ T -> s'.heap.get? b = some o := fun b o e hbT => by
     cases q : H b with
     | none => exact un.keep b o e q (by intro z; exact absurd (show b ∈ ([] : List Addr) from z) (by simp)) (by simp)
     | some u =>
      rcases hO b with z | ⟨ob, xs, z⟩ | z
      ·rw [q] at z; cases z
      ·have z2 := un.frzs b ob _ z;obtain ⟨e1, _⟩ := hok b _ z;obtain ⟨e2, _⟩ := hok' b _ z2;rw [e] at e1; cases e1;exact e2
      ·exact absurd z hbT
    obtain ⟨more, hm⟩ := un.tbls T _ hHT;have hT' : s'.heap.get? T = some (PySem.W.tabObj (#[] ++ more)) := hok' T _ hm;refine ⟨rfl, ⟨fun b o e => ?_, fun b o e => ?_⟩, os, bare⟩
    ·by_cases hbT : b = T
     ·subst hbT;rw [hT] at e; cases e;exact .inr (.inl ⟨(hcd.tab hT).isCodeTable, rfl, #[], more, rfl, hT'⟩)
     ·exact .inl (kp b o e hbT)
    ·by_cases hbT : b = T
     ·subst hbT; exact ⟨_, hT'⟩
     ·exact ⟨o, kp b o e hbT⟩
 have okT : ∀ H : Hp, ObjOk P w H s₁.heap T (.tbl #[]) := fun H => hT
 cases hk : K.lookup a with
 | some o =>
  have e := KX a o hk;rw [ha] at e;cases e;refine core (fun b => if b = T then some (.tbl #[]) else none) (fun b => ?_) (if_pos rfl) (.inr ⟨_, vs.toArray, _, hk, rfl, rfl, rfl, by rw [List.size_toArray, lenV]; exact hl, by simpa using rv⟩) (fun b u z => ?_) (fun b z => ?_) fun z => absurd (if_neg aT) z
  ·by_cases h : b = T
   ·exact .inr (.inr h)
   ·exact .inl (if_neg h)
  ·by_cases h : b = T
   ·have z' := (if_pos h).symm.trans z; cases z'; subst h; exact okT _
   ·have z' := (if_neg h).symm.trans z; cases z'
  ·by_cases h : b = T
   ·exact .inr h
   ·exact absurd (if_neg h) z
 | none =>
  refine core (fun b => if b = T then some (.tbl #[]) else if b = a then some (.frz { cls := .type "list", data := .seq vs.toArray } (.lst (ns.map V.int))) else none) (fun b => ?_) (if_pos rfl) (.inl (.inr ⟨{ cls := .type "list", data := .seq vs.toArray }, (if_neg aT).trans (if_pos rfl)⟩)) (fun b u z => ?_) (fun b z => ?_) fun _ => hk
  ·by_cases h : b = T
   ·exact .inr (.inr h)
   ·by_cases hb : b = a
    ·exact .inr (.inl ⟨_, _, (if_neg h).trans (if_pos hb)⟩)
    ·exact .inl ((if_neg h).trans (if_neg hb))
  ·by_cases h : b = T
   ·have z' := (if_pos h).symm.trans z; cases z'; subst h; exact okT _
   ·by_cases hb : b = a
    ·have z' := ((if_neg h).trans (if_pos hb)).symm.trans z;cases z';subst hb;exact ⟨ha, by rw [List.length_map]; exact hl, vs, _, rv, ha⟩
    ·have z' := ((if_neg h).trans (if_neg hb)).symm.trans z;cases z'
  ·by_cases h : b = T
   ·exact .inr h
   ·by_cases hb : b = a
    ·exact .inl hb
    ·exact absurd ((if_neg h).trans (if_neg hb)) z
theorem Zjr {K : PySem.W.Frag} {h : Heap} {T : Addr} (KX : K.In h) (hT : h.get? T = some (PySem.W.tabObj #[])) (hK : PySem.W.noTabs K = true) : K.lookup T = none := by
 cases e : K.lookup T with
 | none => rfl
 | some o =>
  have z := KX T o e;rw [hT] at z; cases z;have h2 := List.all_eq_true.mp hK (T, PySem.W.tabObj #[]) (PySem.W.mem_of_lookupK e);cases h2
theorem Zma {K : PySem.W.Frag} {x : Str} {f c T : Addr} {oc oc' : Value} {od od' : Option Addr} {fd : FuncData} {sl sl' : Array (Option Value)} {vs : Array Value} (h1 : PySem.W.nsIn K mainGlobals x = some (some (.ref f))) (h2 : K.lookup f = some ⟨oc, od, .func fd, sl⟩) (h3 : fd.code = .ref c)
  (h4 : K.lookup c = some ⟨oc', od', .fields vs, sl'⟩) (h5 : vs[11]? = some (.ref T)) : PySem.W.tabIn K x = some (c, T) := by
 unfold PySem.W.tabIn;simp only [h1, h2, h3, h4, h5]
end L2
set_option Elab.async false
set_option linter.all false
set_option maxRecDepth 100000
set_option maxHeartbeats 4000000
namespace L2
open PySem PySem.Spec PyProof.Rows
def Zi5 (N N' : List Str) (scope : Scope) (caps : List (Option Nat)) (sc : Scope) : Bool :=
 decide (scope.kind = .function) && !scope.isCoroutine && !scope.isGenerator && (scope.names.all fun y => decide (y.2 ≠ .cell)) && (N'.all fun x => decide (scope.names.lookup x = some .free)) && decide (caps.length = N'.length) &&
 ((N'.zip caps).all fun p => match p.2 with
  | none => true
  | some j => decide (N[j]? = some p.1) && decide ((p.1, NameKind.free) ∈ scope.names) && (scope.names.all fun y => decide (y.1 = p.1 -> y.2 = .free))) &&
 (scope.names.all fun y => decide (y.2 = .free -> sc.names.lookup y.1 = some .cell \/ sc.names.lookup y.1 = some .free))
theorem Zir {N N' : List Str} {scope : Scope} {caps : List (Option Nat)} {sc : Scope} (h : Zi5 N N' scope caps sc = true) : Zdj scope N' /\ Zj7 N N' scope caps /\ ∀ x, (x, NameKind.free) ∈ scope.names -> sc.names.lookup x = some .cell \/ sc.names.lookup x = some .free := by
 unfold Zi5 at h;simp only [Bool.and_eq_true, decide_eq_true_eq, List.all_eq_true, Bool.not_eq_true'] at h;obtain ⟨⟨⟨⟨⟨⟨⟨h1, h2⟩, h3⟩, h4⟩, h5⟩, h6⟩, h7⟩, h8⟩ := h;refine ⟨⟨h1, h2, h3, h4, h5⟩, ⟨h6, fun i j x e1 e2 => ?_⟩, fun x hx => h8 _ hx rfl⟩;have hz : (x, some j) ∈ N'.zip caps := by
  have : (N'.zip caps)[i]? = some (x, some j) := by rw [List.getElem?_zip_eq_some]; exact ⟨e1, e2⟩
  exact List.mem_of_getElem? this
 have q := h7 _ hz;simp only [Bool.and_eq_true, decide_eq_true_eq, List.all_eq_true] at q;exact ⟨q.1.1, q.1.2, fun k hk => q.2 _ hk rfl⟩
structure Bt5 (mg : Str -> Option Value) : Prop where
 ValueError : mg "ValueError" = none
structure KdOk (K : PySem.W.Frag) (W : Addr) (cs : List Addr) (C : Addr) (i : Nat) : Prop where
 e : Zj6 K C
 w : PySem.W.mroIn K C (.ref W) = some true
 v : PySem.W.kitOne K (.ref C) (.type "ValueError") = some true
 k : ∀ j c, cs[j]? = some c -> PySem.W.kitOne K (.ref C) (.ref c) = some (decide (j = i))
def refWords : List Str := ["letter", "piece", "width", "wide", "rule", "time", "key", "text", "row", "room", "road"]
def Kd (K : PySem.W.Frag) (W : Addr) (cs : List Addr) (C : Addr) (wd : Str) : Prop := ∃ i, KdOk K W cs C i /\ refWords[i]? = some wd
def Zmp (K : PySem.W.Frag) : List V -> Hp -> VK -> Prop := fun xs H Q => ∃ p ys, xs = [.ref p] /\ SqL K H p ys /\ ∀ l G, H l = none -> Same H G -> G l = some (.tup ys) -> Q (.ref l) G
theorem Zi7 {X : Cx} {K : PySem.W.Frag} (h : X.K = K) : CallR X (.type "tuple") (Zmp K) := by
 subst h;exact call_tuple_of.imp fun xs H Q ⟨p, ys, e, h1, q⟩ => ⟨p, ys, e, .inl ⟨h1, fun l hl => q l _ hl (Zbc hl) Zai⟩⟩
theorem Zb3 {K : PySem.W.Frag} {C1 C2 : Addr} {b : Bool} {x : Value} {r : Bool} (h1 : PySem.W.mroIn K C1 (.ref C2) = some b) (h2 : PySem.W.typeIn K (.ref C2) = some (.type "type")) (h3 : PySem.W.mroIn K C2 x = some r) (hs : PySem.W.mroIn K C1 (.ref C1) = some true) : PySem.W.kitOne K (.ref C1) (.ref C2) = some b := by
 unfold PySem.W.kitOne
 by_cases e : C1 = C2
 ·subst e;rw [h1] at hs;rw [if_pos (by simp), <- hs]
 ·rw [if_neg (by simpa using e)];show (if ((PySem.W.clsIn K C2).isSome && PySem.W.typeIn K (.ref C2) == some (.type "type")) = true then PySem.W.subIn K (.ref C1) (.ref C2) else none) = some b;have hc : (PySem.W.clsIn K C2).isSome = true := by
   unfold PySem.W.mroIn at h3;cases hq : PySem.W.clsIn K C2 with
   | none => rw [hq] at h3; cases h3
   | some cd => rfl
  rw [hc, h2];exact h1
theorem Zlm {K : PySem.W.Frag} {C1 : Addr} {b : Bool} (h1 : PySem.W.mroIn K C1 (.type "ValueError") = some b) : PySem.W.kitOne K (.ref C1) (.type "ValueError") = some b := by
 unfold PySem.W.kitOne;rw [if_neg (by simp)];show (if PySem.W.kitMeta "ValueError" = true then PySem.W.subIn K (.ref C1) (.type "ValueError") else none) = some b;rw [if_pos (by decide +kernel)];exact h1
end L2
set_option Elab.async false
set_option linter.all false
set_option maxRecDepth 100000
set_option maxHeartbeats 4000000
namespace L2
open PySem PySem.Spec PyProof.Rows
def Clos (q : Str) (params : Arguments) (body : Expr) (scope : Scope) (N' : List Str) (H : Hp) (f : Addr) (σ : St) : Prop := ∃ cl c' ctv pm oc vs t, H f = some (.frz (Zkn q params body scope cl pm (.ref c') ctv) HT) /\ H c' = some (.frz oc HT) /\ oc.data = .fields vs /\ vs[1]? = some (.str q t) /\
 (∀ x y b, cl.lookup x = some b -> cl.lookup y = some b -> x = y) /\ (∀ x, (x, NameKind.free) ∈ scope.names -> ∃ b, cl.lookup x = some b) /\ (∀ b ∈ cl.map (·.2), ∃ o v, H b = some (.frz o HT) /\ o.data = .cell v) /\
 (∀ (i : Nat) (x : Str) (v : V), N'[i]? = some x -> σ[i]? = some (some v) -> ∃ b o u, cl.lookup x = some b /\ H b = some (.frz o HT) /\ o.data = .cell (some u) /\ RelV v u) /\ σ.length = N'.length
section
variable {q : Str} {params : Arguments} {body : Expr} {scope : Scope} {N' : List Str} {H G : Hp} {f : Addr} {σ : St}
theorem Clos.of (c : Clos q params body scope N' H f σ) (h : ∀ b oc, H b = some (.frz oc HT) -> G b = some (.frz oc HT)) : Clos q params body scope N' G f σ := by
 obtain ⟨cl, c', ctv, pm, oc, vs, t, h1, h2, h3, h4, h5, h6, h7, h8, h9⟩ := c;refine ⟨cl, c', ctv, pm, oc, vs, t, h _ _ h1, h _ _ h2, h3, h4, h5, h6, fun b hb => ?_, fun i x v e1 e2 => ?_, h9⟩
 ·obtain ⟨o, v, e1, e2⟩ := h7 b hb;exact ⟨o, v, h _ _ e1, e2⟩
 ·obtain ⟨b, o, u, a1, a2, a3⟩ := h8 i x v e1 e2;exact ⟨b, o, u, a1, h _ _ a2, a3⟩
theorem Clos.same (c : Clos q params body scope N' H f σ) (s : Same H G) : Clos q params body scope N' G f σ := c.of fun b oc e => s b _ e
theorem Clos.fn (c : Clos q params body scope N' H f σ) : ∃ o fd, H f = some (.frz o HT) /\ o.data = .func fd := by
 obtain ⟨cl, c', ctv, pm, oc, vs, t, h1, _⟩ := c;exact ⟨_, _, h1, rfl⟩
def NF (H G : Hp) : Prop := ∀ b o, H b = some o -> (∀ oc, o ≠ .frz oc HT) -> G b = some o
theorem NF.tup {b : Addr} {xs : List V} (n : NF H G) (h : H b = some (.tup xs)) : G b = some (.tup xs) := n _ _ h fun _ z => by cases z
variable {P : Program} {w : World} {K : PySem.W.Frag} {mg : Str -> Option Value} {base : Heap} {k : Nat} {te : XK -> TE}
theorem Clos.asks (c : Clos q params body scope N' H f σ) (S : Zdj scope N') (hbind : ∀ cl pm cv ctv, bindArgs (PySem.W.kla_fn "<lambda>" q params body scope cl pm cv ctv) ⟨[], []⟩ = pure [])
  (hb : ∀ (f c' : Addr) (cl : List (Str × Addr)) (A : Around) (outer : List Env) (s : Shared) (H : Hp) (E : XK), Room k (A.deeper (PySem.W.envX q scope s.heap.objs.size f (.ref c') cl)) -> PE (Zhp P w K mg base N' q scope f (.ref c') cl A outer s H E) body (te E))
  {Q : VK} {E : XK} (ht : ∀ G, NF H G -> te (fun c _ H2 => ∀ H', Same H2 H' -> (Same G H2 -> Same H H') -> E c none H') σ G (fun v H2 => ∀ H', Same H2 H' -> (Same G H2 -> Same H H') -> Q v H')) : Asks P w K mg base (k + 1) f H Q E := by
 obtain ⟨cl, c', ctv, pm, oc, vs, t, h1, h2, h3, h4, h5, h6, h7, h8, h9⟩ := c;intro A outer s hr e0;have inC : ∀ b ∈ cl.map (·.2), ∃ o v, H b = some (.frz o HT) /\ s.heap.get? b = some o /\ o.data = .cell v := fun b hb => by
  obtain ⟨o, v, a1, a2⟩ := h7 b hb;exact ⟨o, v, a1, e0.hok.frz a1, a2⟩
 have hH : frzC cl s.heap (unC cl H) = H := by
  funext b
  by_cases hb : b ∈ cl.map (·.2)
  ·obtain ⟨o, v, a1, a2, _⟩ := inC b hb;rw [Zb4 hb, a2, a1]; rfl
  ·rw [Zas hb, Zcd hb]
 have nf : NF H (unC cl H) := fun b o e n => by
  by_cases hb : b ∈ cl.map (·.2)
  ·obtain ⟨o', v, a1, _⟩ := inC b hb;rw [a1] at e; cases e; exact absurd rfl (n o')
  ·rw [Zcd hb]; exact e
 have dataOf : ∀ b o, H b = some (.frz o HT) -> s.heap.get? b = some o := fun b o e => e0.hok.frz e
 have nFn : ∀ b o, H b = some (.frz o HT) -> (∀ v, o.data ≠ .cell v) -> (unC cl H) b = some (.frz o HT) := fun b o e n => by
  by_cases hb : b ∈ cl.map (·.2)
  ·obtain ⟨o', v, a1, _, a3⟩ := inC b hb;rw [a1] at e; cases e; exact absurd a3 (n v)
  ·rw [Zcd hb]; exact e
 have asks := Zju (P := P) (w := w) (K := K) (mg := mg) (base := base) (k := k) (h := s.heap) (G := unC cl H) (te := te) S ⟨h5, h6, fun b hb => by obtain ⟨o, v, a1, a2, a3⟩ := inC b hb; exact ⟨o, v, a2, a3⟩⟩
  (fun i x v e1 e2 => by obtain ⟨b, o, u, a1, a2, a3⟩ := h8 i x v e1 e2; exact ⟨b, o, u, a1, dataOf _ _ a2, a3⟩) h9 (nFn _ _ h1 fun v z => by cases z) (nFn _ _ h2 fun v z => by rw [h3] at z; cases z) h3 h4 (fun b hb => Zgo hb) (hbind cl) (hb f c' cl) (ht _ nf)
 have run := asks A outer s hr (by rw [hH]; exact e0);rw [hH] at run;have fin : ∀ H' H2, H' = frzC cl s.heap H2 -> (∀ b ∈ cl.map (·.2), H2 b = none) -> Un (frs outer) [] H H' s.heap s.heap \/ True -> (∀ b o u, H b = some (.frz o u) -> H' b = some (.frz o u)) -> Same H2 H' /\ (Same (unC cl H) H2 -> Same H H') := fun H' H2 e1 e2 _ fz => by
  have s1 : Same H2 H' := fun b o e => by
   have hb : b ∉ cl.map (·.2) := fun hm => by rw [e2 b hm] at e; cases e
   rw [e1, Zas hb]; exact e
  refine ⟨s1, fun s2 b o e => ?_⟩
  by_cases hb : b ∈ cl.map (·.2)
  ·obtain ⟨o', v, a1, _⟩ := inC b hb;have := fz b _ _ a1;rw [a1] at e; cases e; exact this
  ·exact s1 b o (s2 b o (by rw [Zcd hb]; exact e))
 refine codeAny_mono run fun r s' hq => ?_
 cases r with
 | error e =>
  obtain ⟨a, C, t, B, H', e1, F, H2, z1, z2, z3⟩ := hq;obtain ⟨y1, y2⟩ := fin H' H2 z1 z2 (.inr trivial) F.un.frzs;exact ⟨a, C, t, B, H', e1, F, z3 H' y1 y2⟩
 | ok fl =>
  cases fl with
  | ret u =>
   obtain ⟨v, H', z1, z2, z3, z4, z5, H2, y1, y2, y3⟩ := hq;obtain ⟨x1, x2⟩ := fin H' H2 y1 y2 (.inr trivial) z3.frzs;exact ⟨v, H', z1, z2, z3, z4, z5, y3 H' x1 x2⟩
  | next => exact hq
  | brk => exact hq
  | cont => exact hq
end
def Zkb (P : Program) (w : World) (K : PySem.W.Frag) (mg : Str -> Option Value) (base : Heap) (k : Nat) (tf : TE) : TE := fun σ H Q => tf σ H fun x H1 => ∃ f o fd, x = .ref f /\ H1 f = some (.frz o HT) /\ o.data = .func fd /\ Asks P w K mg base k f H1 Q E0
theorem Zd0 {X : Cx} {k : Nat} {g : Expr} {es : List Expr} {p pos : Pos} {tf : TE} (hf : PE X (.Call g es [] p) tf) (hr : Room k X.A)
  (he : ∀ (Q : Value -> Shared -> Prop) (E : Value -> Shared -> Prop) (s : Shared), wpAny (model X.prog X.w) X.A (eval (.Call g es [] p) X.env) (fun fv s1 => wpAny (model X.prog X.w) X.A (callWith pos fv [] (backTo pos (starEach [] X.env)) (backToKw pos (keywordEach [] X.env))) Q E s1) E s -> wpAny (model X.prog X.w) X.A (eval (.Call (.Call g es [] p) [] [] pos) X.env) Q E s) :
  PE X (.Call (.Call g es [] p) [] [] pos) (Zkb X.prog X.w X.K X.mg X.base k tf) := by
 intro pins s σ H Q I h;refine he _ _ _ (thn (hf pins s σ H _ I h) fun u s1 ⟨x, H1, I1, rx, f, o, fd, e1, e2, e3, ask⟩ => ?_);subst e1;cases (show u = Value.ref f from rx);have hF : PySem.W.FnAt f s1.heap := by
  have hget := I1.hok.frz e2;obtain ⟨c1, d1, dt, sl⟩ := o;have hd' : dt = .func fd := e3;subst hd';exact ⟨c1, d1, fd, sl, hget⟩
 refine PySem.W.callWith_F0 hF (wpAny_call (codeAny_mono (ask X.A X.stack s1 hr I1.env0) fun r s2 hq => ?_));cases r with
 | error e => obtain ⟨_, _, _, _, _, _, _, z⟩ := hq; exact z.elim
 | ok fl =>
  cases fl with
  | ret v => exact I1.after hq
  | next => exact False.elim hq
  | brk => exact False.elim hq
  | cont => exact False.elim hq
theorem Zd2 {M : Model} {A : Around} {env : Env} {g : Expr} {es : List Expr} {p pos : Pos} (Q : Value -> Shared -> Prop) (E : Value -> Shared -> Prop) (s : Shared) (h : wpAny M A (eval (.Call g es [] p) env) (fun fv s1 => wpAny M A (callWith pos fv [] (backTo pos (starEach [] env)) (backToKw pos (keywordEach [] env))) Q E s1) E s) :
  wpAny M A (eval (.Call (.Call g es [] p) [] [] pos) env) Q E s := by
 show wpAny M A (do let f <- eval (.Call g es [] p) env; callWith pos f [] (backTo pos (starEach [] env)) (backToKw pos (keywordEach [] env))) Q E s;exact wpAny_bind h
end L2
set_option Elab.async false
set_option linter.all false
set_option maxRecDepth 100000
set_option maxHeartbeats 4000000
namespace L2
open PySem PySem.Spec PyProof.Rows
def Zgq (T : Addr) (q : Str) (params : Arguments) (body : Expr) (scope : Scope) (N' : List Str) (caps : List (Option Nat)) (N ps : List Str) : Sp := fun vs H Q _ => vs.length = ps.length /\ Tab H T q /\
 ∀ f G, H f = none -> But T H G -> Tab G T q -> Clos q params body scope N' G f (capSt caps (start N vs)) -> Q (.ref f) G
theorem Znj {P : Program} {w : World} {K : PySem.W.Frag} {mg : Str -> Option Value} {base : Heap} {x qual : Str} {st : Stmt} {f0 c T : Addr} {fd : FuncData} {N ps N' : List Str} {caps : List (Option Nat)} {q : Str} {params : Arguments} {body : Expr} {scope : Scope} {lpos rpos : Pos}
  (F : Zly K x qual st f0 fd (.ref c)) (S : Zat N ps (defScope st)) (hbody : defBody st = [.Return (some (.Lambda params body scope lpos)) rpos]) (lc : Ze3 mg base c T) (hq : (qual ++ ".<locals>.") ++ "<lambda>" = q)
  (SL : Zdj scope N') (cap : Zj7 N N' scope caps) (vis : ∀ x, (x, NameKind.free) ∈ scope.names -> (defScope st).names.lookup x = some .cell) (hdef : ∀ env, defaultsOf params env = ([], [])) :
  Zcc P w K mg base CX0 1 f0 fd ps (Zgq T q params body scope N' caps N ps) := by
 obtain ⟨oc, od, kV, doc, pm, an, ct, osl, rfl, lk, hcd⟩ := F.ex;refine ⟨fun vs H Q E h => h.1, fun A outer s H args us vs Q E hr e0 hb r hsp => ?_⟩;obtain ⟨hl, tb, qq⟩ := hsp;have KX : K.In s.heap := e0.mod.kin.keeps fun b o e => (e0.bs b o e).1
 have lim : s.heap.NoLimit := e0.mod.nolimit.keeps fun b o e => (e0.bs b o e).1
 have hkind : ∀ y ∈ ps.zip us, (defScope st).names.lookup y.1 = some .local \/ ((defScope st).names.lookup y.1 = some .cell /\ ((cellsFrom (s.heap.objs.size + 1) (defScope st).names []).lookup y.1).isSome = true) := fun ⟨n, v⟩ hy => by
  rcases S.par n (List.of_mem_zip hy).1 with z | z
  ·exact .inl z
  ·exact .inr ⟨z, PySem.W.cellsFrom_some _ _ _ (.inl z)⟩
 refine codeAny_call_function hr.depth (KX _ _ lk) rfl S.co S.gen rfl (PySem.W.codeRec_of KX hcd) (hb _ _ _ _ ?_);refine wpAny_newFunctionEnv_cells S.kind hkind fun env he s1 xc => ?_
 subst he;refine ⟨lim.keeps xc.toInCall.keep, codeAny_func ?_⟩;have I : Inv (cxOf CX0 P w K mg base N qual (defScope st) f0 (.ref c) A outer s H E) [] (start N vs) H s1 := Zfj S hr.hd e0 hl r xc;have hvis : ∀ x, (x, NameKind.free) ∈ scope.names -> (envOfC qual (defScope st) s.heap.objs.size f0 (.ref c)).kindOf x = some .cell := fun x hx => vis x hx
 obtain ⟨cl, hcl, hcl1, hcl2, hcl3⟩ := Zj3 (scope := scope) (env := envOfC qual (defScope st) s.heap.objs.size f0 (.ref c)) fun x hx => I.ok.has x (.inl (hvis x hx))
 rw [show (PySem.W.fnOf x qual (Zaq st) (defBody st) (defScope st) .none kV doc pm an (.ref c) ct).scope = defScope st from rfl];rw [hbody];refine wpAny_execs_cons (wpAny_Return_some (thn (Zm8 (X := cxOf CX0 P w K mg base N qual (defScope st) f0 (.ref c) A outer s H E) lc rfl hq hcl (hdef _) [] s1 (start N vs) H
  (fun v G => ∃ f c' ctv pm oc ws t, v = .ref f /\ H f = none /\ But T H G /\ Tab G T q /\ G f = some (.frz (Zkn q params body scope cl pm (.ref c') ctv) HT) /\ G c' = some (.frz oc HT) /\ oc.data = .fields ws /\ ws[1]? = some (.str q t)) I
  ⟨tb, fun f c' ctv pm G oc ws t b1 b2 b3 b4 b5 b6 b7 => ⟨f, c', ctv, pm, oc, ws, t, rfl, b2, b1, b3, b4, b5, b6, b7⟩⟩) fun u s2 ⟨v, G, J, rv, hh⟩ => ?_))
 obtain ⟨f, c', ctv, pm', oc', ws, t, rfl, b2, b1, b3, b4, b5, b6, b7⟩ := hh;cases (show u = Value.ref f from rv)
 -- the cells
 have cX : ∀ b ∈ cl.map (·.2), ∃ x, (envOfC qual (defScope st) s.heap.objs.size f0 (.ref c)).cells.lookup x = some b := fun b hb => by
  obtain ⟨⟨x, b'⟩, hx, rfl⟩ := List.mem_map.mp hb;exact ⟨x, hcl3 _ hx⟩
 have cab : ∀ b ∈ cl.map (·.2), s.heap.objs.size <= b := fun b hb => by
  obtain ⟨x, hx⟩ := cX b hb;exact J.ok.cab x b rfl hx
 have cfree : ∀ b ∈ cl.map (·.2), G b = none := fun b hb => by
  obtain ⟨x, hx⟩ := cX b hb;exact J.freeC x b hx
 have ccell : ∀ b ∈ cl.map (·.2), ∃ o v, s2.heap.get? b = some o /\ o.data = .cell v := fun b hb => by
  obtain ⟨x, hx⟩ := cX b hb;obtain ⟨v, o, e1, e2⟩ := J.cell x b hx;exact ⟨o, v, e1, e2⟩
 have noG : ∀ b x, G b = some x -> b ∉ cl.map (·.2) := fun b x e hb => by rw [cfree b hb] at e; cases e
 have old : ∀ b o, s.heap.get? b = some o -> b ∉ cl.map (·.2) := fun b o e hb => absurd (Nat.lt_of_lt_of_le (Heap.lt_size e) (cab b hb)) (Nat.lt_irrefl _)
 have oldH : ∀ b o, H b = some o -> b ∉ cl.map (·.2) := fun b o e hb => absurd (Nat.lt_of_lt_of_le (e0.hok.lt e) (cab b hb)) (Nat.lt_irrefl _)
 have U : Un (frs outer) [] H G s.heap s2.heap := J.base;have Gz : ∀ b ∈ cl.map (·.2), ∃ o, s2.heap.get? b = some o /\ frzC cl s2.heap G b = some (.frz o HT) := fun b hb => by
  obtain ⟨o, v, e1, _⟩ := ccell b hb;exact ⟨o, e1, by rw [Zb4 hb, e1]; rfl⟩
 have sG : Same G (frzC cl s2.heap G) := fun b o e => by rw [Zas (noG b o e)]; exact e
 refine ⟨.ref f, frzC cl s2.heap G, J.os, J.bare, ⟨U.keep, U.slot, fun b o e n hx => ?_, U.there, fun b xs e => ?_, fun b ob y e => ?_, fun b ps' e => ?_⟩, fun b o e => ?_, rfl, ?_⟩
 ·rw [Zas (old b o e)]; exact U.free b o e n hx
 ·exact sG _ _ (U.tups b xs e)
 ·exact sG _ _ (U.frzs b ob y e)
 ·obtain ⟨m, z⟩ := U.tbls b ps' e;exact ⟨m, sG _ _ z⟩
 ·by_cases hb' : b ∈ cl.map (·.2)
  ·obtain ⟨o', e1, e2⟩ := Gz b hb';rw [e2] at e; cases e;exact HT.ok e1
  ·rw [Zas hb'] at e;exact (J.hok b o e).stay (fun _ _ _ z => z) (fun d z => sG _ _ z) fun d xs z => sG _ _ z
 ·refine qq f _ b2 (fun b o e n => sG _ _ (b1 b o e n)) (b3.same sG) ⟨cl, c', ctv, pm', oc', ws, t, sG _ _ b4, sG _ _ b5, b6, b7, fun x y b h1 h2 => J.ok.inj x y b (hcl1 x b h1) (hcl1 y b h2), hcl2, fun b hb => ?_, fun i x v e1 e2 => ?_, ?_⟩
  ·obtain ⟨o, v, e1, e2⟩ := ccell b hb;exact ⟨o, v, by rw [Zb4 hb, e1]; rfl, e2⟩
  ·obtain ⟨m, hns, hlk⟩ := J.loc;unfold capSt at e2;rw [List.getElem?_map] at e2;cases ec : caps[i]? with
   | none => rw [ec] at e2; cases e2
   | some o =>
    rw [ec] at e2;cases o with
    | none => cases e2
    | some j =>
     have e2 : ((start N vs)[j]?).join = some v := Option.some.inj e2;obtain ⟨n1, n2, n3⟩ := cap.2 i j x e1 ec;have e3 : (start N vs)[j]? = some (some v) := by
      cases z : (start N vs)[j]? with
      | none => rw [z] at e2; cases e2
      | some y => rw [z] at e2; exact congrArg some e2
     obtain ⟨u, ru, lk'⟩ := hlk j x v n1 e3 (.inr (.inl (hvis x n2)));obtain ⟨b, hb⟩ := hcl2 x n2;have hb2 := hcl1 x b hb;rcases lk' with ⟨z, _⟩ | ⟨_, b', hb', ⟨o, q1, q2⟩⟩
     ·have z2 := (hvis x n2).symm.trans z; cases z2
     ·rw [show (cxOf CX0 P w K mg base N qual (defScope st) f0 (.ref c) A outer s H E).env.cells = (envOfC qual (defScope st) s.heap.objs.size f0 (.ref c)).cells from rfl, hb2] at hb';cases hb';exact ⟨b, o, u, hb, by rw [Zb4 (Zb2 hb), q1]; rfl, q2, ru⟩
  ·unfold capSt; rw [List.length_map]; exact cap.1
end L2
set_option Elab.async false
set_option linter.all false
set_option maxRecDepth 100000
set_option maxHeartbeats 4000000
namespace L2
open PySem PySem.Spec PyProof.Rows
theorem walk_ofN {l : PySem.W.OpenLaw} {n k : Nat} {q : Program} {loose : List Str} {XP : (Str -> Option Value) -> Heap -> Prop} {YP : World -> Heap -> Prop} {d : DefRec} {K : Params -> PySem.W.Frag} {sp : World -> Addr -> Sp} {x y : Str} {d2 : DefRec}
  (hn : l.most = some n) (hn2 : n <= sizeLine) (hdf : d.params.defaults = []) (hr : Room k callerA)
  (hY : ∀ (w : World) (h : Heap), YP w h -> (K w.params).In h)
  (hrec : (recsOf q).find? (fun e => e.name == y) = some d2)
  (F : ∀ (w : World) (mg : Str -> Option Value) (fa : Addr) (h : Heap), (K w.params).In h -> h.Ns mainGlobals mg -> mg d.name = some (.ref fa) ->
   ∃ (c T : Addr) (fd : FuncData), PySem.W.tabIn (K w.params) y = some (c, T) /\ PySem.W.noTabs (K w.params) = true /\ (∀ (s : Shared) (u : Value), BindsTo s fd ⟨[u], []⟩ [(x, u)]) /\
    ∀ base : Heap, (K w.params).In base -> base.Ns mainGlobals mg -> Ze3 mg base c T -> Zcc l.prog w (K w.params) mg base CX0 k fa fd [x] (sp w T))
  (hsp : ∀ (w : World) (T : Addr) (H : Hp) (a : Addr) (ns : List Int), ns.length <= n -> H T = some (.tbl #[]) -> SqL (K w.params) H a (ns.map V.int) -> sp w T [.ref a] H (fun v _ => v = .bl true) fun _ _ _ => False) :
  PySem.W.WalkO q loose XP YP l.row.toRowW d [] (fun f vs => PySem.call f vs) := by
 refine Att.attach_call hn hdf fun w s₀ s₁ mg mb fa o pm cd doc a vs ns G Y ho hd hcd hmg hobj hints hlen hg => ?_
 have KX := hY w _ Y;obtain ⟨c, T, fd, htab, hnt, hb, hF⟩ := F w mg fa _ KX G.T.g hmg;obtain ⟨t1, t2⟩ := PySem.W.tab_of (x := y) G.T KX hrec htab;exact Ziq KX G.T.g G.T.b G.T.builtins G.T.nolimit hg G.T.bmain t1 t2 (Zjr KX t2 hnt) hobj hints (Nat.le_trans hlen hn2) hr hF hb (fun H h1 hS => hsp w T H a ns hlen h1 hS)
end L2
set_option Elab.async false
set_option linter.all false
set_option maxRecDepth 100000
set_option maxHeartbeats 4000000
namespace Mine
open PySem L2 PyProof.Rows
local macro_rules | `(tactic| walk_at "rd") => `(tactic| simp only [Zn6, Zmk, Zoh, Zme, tUp, Zpn, Zh9, Zpq, Zp4, Znx, Zge, Zn5, tC, tOp, tUn, Zkz, tB, Zpk, Zph, Zn7, Zmg, Zjf, Zoc, Zoa, Zmj, Zn8, tCB, Zpg, Zpj, Zp3, tOr, Zpi, Zml, Zp0, Zmd, tIf, Zh2, Zoe, Zoj, tBM, Zp2, Zpt, Zqb, Zpa, Zqc, tSl, Zmc, Zh1, rI, rI0, rU, rEq, rNe, Zm0, Zpo, Zps, Zlo, Zns, Zo8, Zk3, Zpf, Zk1, capSt, Zou, Zos, Zot, Zia, Zib, Zmu, Zpp, Zom, cxK, L2.start, List.map_cons, List.map_nil, List.length_cons, List.length_nil, Nat.reduceAdd, Nat.reduceSub, List.replicate, List.cons_append, List.nil_append, List.append_nil, List.getElem?_cons_zero, List.getElem?_cons_succ, List.set_cons_zero, List.set_cons_succ, Option.some.injEq, V.int.injEq, V.bl.injEq, V.str.injEq, V.ref.injEq, V.ty.injEq, exists_eq_left', exists_eq_left, exists_and_left, and_assoc, and_true, true_and, List.cons.injEq, exists_eq, exists_eq', Option.bind_some, Option.bind_none, Option.join_some, exists_const, Nat.reduceLT, Nat.reduceLeDiff, if_true, Bool.false_eq_true, if_false, Bool.not_true, Bool.not_false, reduceCtorEq, false_and, and_false, exists_false,  Zmf, Zmb, Zm3, Zmv, Zjk, Zms, Zgs, Zjl, Zoo, Zlc, Zmt, Zoi, Zka, Zod, Zpz, Zov, Zmq, Zok, Zol, Zk9, Zo9, Zqa, Znt, Zm1, Zp7, Zmn, Zoy, Zm2, Zoq, Zow, Zla, Zk8, Zj9, Zhz, Zk0, Zmz, Zmp, Zkb, Zon, Zox, Zjm, Zmm, Zk2, Zke, Zmr, Zof, Zh0, Zo7, Zmh, Zog, Zop, Zn9, Zmw, Zob, Zmx, Zmy, Zlb, Zor, Zmi, Zmo, Zot, Zky, Zl9, Zkw, Zkx])
local macro_rules | `(tactic| walk_at "ne") => `(tactic| first | assumption | (apply Ne.symm; assumption) | grind [Same, But])
local macro_rules | `(tactic| walk_at "hp") => `(tactic| first | assumption | exact Zai | (refine Same.get (by assumption) ?_; walk_at "hp") | (refine But.get (by assumption) ?_ ?_; (· walk_at "hp"); (· walk_at "ne")))
def top (i : Nat) : Stmt := PySem.Challenge.pw_pieceways_k04_what_is_no_piece.main.body.getD i (.Pass ⟨0, 0, 0, 0⟩)
structure Cn (mg : Str -> Option Value) : Prop where
 c_MOST_NUMBER : ∃ t, mg "MOST_NUMBER" = some (.int 65535 t)
 c_MOST_BYTE : ∃ t, mg "MOST_BYTE" = some (.int 255 t)
 c_MOST_SIGNS : ∃ t, mg "MOST_SIGNS" = some (.int 8 t)
 c_MOST_BYTES : ∃ t, mg "MOST_BYTES" = some (.int 4000 t)
 c_STEP : ∃ t, mg "STEP" = some (.int 8 t)
section
variable {P : Program} {w : World} {K : PySem.W.Frag} {mg : Str -> Option Value} {base : Heap}
def Zce : Sp := fun vs H Q _ => ∃ x n, vs = [x] /\ tyF H x = some n /\ Q (.bl (isI x)) H
abbrev Zbr : Stmt := top 6
theorem Zf0 : Zat ["value"] ["value"] (defScope Zbr) := ⟨rfl, rfl, rfl, by decide +kernel, rfl, by decide +kernel, by decide +kernel⟩
theorem Zf9 {f : Addr} {fd : FuncData} (F : Fun K "is_whole" "is_whole" Zbr f fd) (B : Bt mg) : Zcc P w K mg base CX0 1 f fd ["value"] Zce := by
 refine F.ok Zf0 (fun vs H Q E h => ?_) (fun cdv A outer s H vs Q E hr h => ?_)
 ·obtain ⟨x, n, rfl, _⟩ := h; rfl
 ·obtain ⟨x, n, rfl, ty, q⟩ := h;refine ⟨_, (Zao (Za3 (Zdd (Zal (Zcn "int") rfl B.isinstance (by rfl) (Zaa (hs := Zab) (pv 0) (Zaa (hs := Zab) (Zds (v := .ty "int") rfl B.bint (by rfl) rfl) Zad))) (Zfa (Zm7 (Zal (Zcn "bool") rfl B.isinstance (by rfl) (Zaa (hs := Zab) (pv 0) (Zaa (hs := Zab) (Zds (v := .ty "bool") rfl B.bbool (by rfl) rfl) Zad)))))))), ?_⟩;walk_at "rd";refine ⟨n, ty, ?_⟩;rw [Zl6 ty];refine Zjw (fun h => ⟨n, ty, ?_⟩) (fun h => ?_)
  ·rw [Zhw ty];have e : (!isB x) = isI x := by cases x <;> first | rfl | (simp [isI, isB] at h)
   rw [e]; exact q
  ·have e : isI x = false := by cases x <;> first | rfl | (simp [isI, isB] at h)
   rw [e] at q; exact q
def Zbb : Sp := fun vs H Q _ => ∃ x n lo hi, vs = [x, .int lo, .int hi] /\ tyF H x = some n /\ Q (.bl (wIn x lo hi)) H
abbrev Zaz : Stmt := top 7
theorem Zc8 : Zat ["value", "low", "high"] ["value", "low", "high"] (defScope Zaz) := ⟨rfl, rfl, rfl, by decide +kernel, rfl, by decide +kernel, by decide +kernel⟩
theorem Zdg {f : Addr} {fd : FuncData} (F : Fun K "is_whole_within" "is_whole_within" Zaz f fd) (F_is_whole : FnB P w K mg base "is_whole" 1 ["value"] [] Zce) : Zcc P w K mg base CX0 2 f fd ["value", "low", "high"] Zbb := by
 refine F.ok Zc8 (fun vs H Q E h => ?_) (fun cdv A outer s H vs Q E hr h => ?_)
 ·obtain ⟨x, n, lo, hi, rfl, _⟩ := h; rfl
 ·obtain ⟨x, n, lo, hi, rfl, ty, q⟩ := h;refine ⟨_, (Zao (Za3 (Zdd (Zag F_is_whole (hr.mono (by decide)) rfl (Zaa (hs := Zab) (pv 0) Zad)) (Zfa (Zgw Zf7 Zf7 (pv 1) (pv 0) (pv 2)))))), ?_⟩;walk_at "rd";refine ⟨x, n, rfl, ty, _, rfl, ?_⟩;refine Zjw (fun h => ?_) (fun h => ?_)
  ·cases x <;> first | (simp [isI] at h; done) | skip
   rename_i i
   walk_at "rd"
   by_cases h1 : lo <= i
   ·simp only [h1, decide_true, if_true];simpa [wIn, h1] using q
   ·simp only [h1, decide_false, Bool.false_eq_true, if_false];simpa [wIn, h1] using q
  ·have e : wIn x lo hi = false := by cases x <;> first | rfl | (simp [isI] at h)
   rw [e] at q; exact q
def Zcf : Sp := fun vs H Q _ => ∃ x n, vs = [x] /\ tyF H x = some n /\ Q (.bl (isB x)) H
abbrev Zbs : Stmt := top 8
theorem Zf1 : Zat ["value"] ["value"] (defScope Zbs) := ⟨rfl, rfl, rfl, by decide +kernel, rfl, by decide +kernel, by decide +kernel⟩
theorem Zga {f : Addr} {fd : FuncData} (F : Fun K "is_truth" "is_truth" Zbs f fd) (B : Bt mg) : Zcc P w K mg base CX0 1 f fd ["value"] Zcf := by
 refine F.ok Zf1 (fun vs H Q E h => ?_) (fun cdv A outer s H vs Q E hr h => ?_)
 ·obtain ⟨x, n, rfl, _⟩ := h; rfl
 ·obtain ⟨x, n, rfl, ty, q⟩ := h;refine ⟨_, (Zao (Za3 (Zal (Zcn "bool") rfl B.isinstance (by rfl) (Zaa (hs := Zab) (pv 0) (Zaa (hs := Zab) (Zds (v := .ty "bool") rfl B.bbool (by rfl) rfl) Zad))))), ?_⟩;walk_at "rd";exact ⟨n, ty, by rw [Zhw ty]; exact q⟩
def Zcj : Sp := fun vs H Q _ => ∃ x n, vs = [x] /\ tyF H x = some n /\ Q (.bl (wIn x 0 65535)) H
abbrev Zbi : Stmt := top 9
theorem Ze7 : Zat ["value"] ["value"] (defScope Zbi) := ⟨rfl, rfl, rfl, by decide +kernel, rfl, by decide +kernel, by decide +kernel⟩
theorem Zfc {f : Addr} {fd : FuncData} (F : Fun K "is_number" "is_number" Zbi f fd) (T : Cn mg) (F_is_whole_within : FnB P w K mg base "is_whole_within" 2 ["value", "low", "high"] [] Zbb) : Zcc P w K mg base CX0 3 f fd ["value"] Zcj := by
 refine F.ok Ze7 (fun vs H Q E h => ?_) (fun cdv A outer s H vs Q E hr h => ?_)
 ·obtain ⟨x, n, rfl, _⟩ := h; rfl
 ·obtain ⟨x, n, rfl, ty, q⟩ := h;refine ⟨_, (Zao (Za3 (Zag F_is_whole_within (hr.mono (by decide)) rfl (Zaa (hs := Zab) (pv 0) (Zaa (hs := Zac) Zae (Zaa (hs := Zab) (Zcm rfl T.c_MOST_NUMBER) Zad)))))), ?_⟩;walk_at "rd";exact ⟨x, n, 0, 65535, rfl, ty, q⟩
def Zdo : Sp := fun vs H Q _ => ∃ x n, vs = [x] /\ tyF H x = some n /\ Q (.bl (wIn x 0 255)) H
abbrev Zca : Stmt := top 11
theorem Zg9 : Zat ["value"] ["value"] (defScope Zca) := ⟨rfl, rfl, rfl, by decide +kernel, rfl, by decide +kernel, by decide +kernel⟩
theorem Zhh {f : Addr} {fd : FuncData} (F : Fun K "is_byte" "is_byte" Zca f fd) (T : Cn mg) (F_is_whole_within : FnB P w K mg base "is_whole_within" 2 ["value", "low", "high"] [] Zbb) : Zcc P w K mg base CX0 3 f fd ["value"] Zdo := by
 refine F.ok Zg9 (fun vs H Q E h => ?_) (fun cdv A outer s H vs Q E hr h => ?_)
 ·obtain ⟨x, n, rfl, _⟩ := h; rfl
 ·obtain ⟨x, n, rfl, ty, q⟩ := h;refine ⟨_, (Zao (Za3 (Zag F_is_whole_within (hr.mono (by decide)) rfl (Zaa (hs := Zab) (pv 0) (Zaa (hs := Zac) Zae (Zaa (hs := Zab) (Zcm rfl T.c_MOST_BYTE) Zad)))))), ?_⟩;walk_at "rd";exact ⟨x, n, 0, 255, rfl, ty, q⟩
def Zdn : Sp := fun vs H Q _ => ∃ x n, vs = [x] /\ tyF H x = some n /\ (∀ z, x = .str z -> z.length <= 100000) /\ ∀ H', Same H H' -> Q (.bl (isNm x)) H'
abbrev Zb0 : Stmt := top 10
theorem Zg8 : Zat ["value"] ["value"] (defScope Zb0) := ⟨rfl, rfl, rfl, by decide +kernel, rfl, by decide +kernel, by decide +kernel⟩
theorem Zhg {f : Addr} {fd : FuncData} (F : Fun K "is_name" "is_name" Zb0 f fd) (T : Cn mg) (B : Bt mg) : Zcc P w K mg base CX0 1 f fd ["value"] Zdn := by
 refine F.ok Zg8 (fun vs H Q E h => ?_) (fun cdv A outer s H vs Q E hr h => ?_)
 ·obtain ⟨x, n, rfl, _⟩ := h; rfl
 ·obtain ⟨x, n, rfl, ty, hz, q⟩ := h;refine ⟨_, (Zaf (Zdr (PW.pt (Zic (Zda (Zc9 (Zal (Zcn "str") rfl B.isinstance (by rfl) (Zaa (hs := Zab) (pv 0) (Zaa (hs := Zab) (Zds (v := .ty "str") rfl B.bstr (by rfl) rfl) Zad))))) (Zgt (Zda (Zgu Zf7 Zf7 Zae (Zal Zfp rfl B.len (by rfl) (Zaa (hs := Zab) (pv 0) Zad)) (Zcm rfl T.c_MOST_SIGNS)))))) (Zao (Za3 Zci)) Zbk) (Zao (Za3 (Zal (Zfr (K := K) rfl rfl) rfl B.all (by rfl) (Zaa (hs := Zd3) (Zf6 (N' := ["sign"]) (caps := [none]) (Zi4 (sc := defScope Zb0) (N := ["value"]) rfl rfl (by decide +kernel)) rfl (Zm5 (pv 0)) (fun _ _ _ _ _ => (Zc1 (i := 0) (Zim (N := ["sign"]) rfl (by decide +kernel)) rfl (Or.inl rfl))) (fun _ _ _ _ _ => Zf5) (fun _ _ _ _ _ => (Zgw Zkl Zkl Za1 (pv 0) Za1))) Zad))))), ?_⟩;walk_at "rd";refine ⟨n, ty, ?_⟩;rw [Zl5 ty];cases x <;> first
   | (simp only [isS, Bool.not_false, if_true]; exact q H (Same.refl H))
   | skip
  rename_i z
  have hz' := hz z rfl;simp only [isS, Bool.not_true, Bool.false_eq_true, if_false];walk_at "rd";refine ⟨Zah hz', ?_⟩;have hq : ∀ b, isNm (.str z) = b -> ∀ H', Same H H' -> Q (.bl b) H' := fun b e H' s => e ▸ q H' s
  by_cases h1 : 1 <= z.length
  ·have h1' : (1 : Int) <= (z.length : Int) := by omega
   simp only [h1', decide_true, if_true]
   by_cases h2 : z.length <= 8
   ·have h2' : (z.length : Int) <= 8 := by omega
    simp only [h2', decide_true, Bool.not_true, Bool.false_eq_true, if_false];have hsz : z.cps.size = z.length := rfl;obtain ⟨Pv, ePv⟩ : ∃ Pv : Nat -> List V -> L2.St -> Hp -> Prop, Pv = fun i ys σ' H1 => H1 = H /\ i <= z.cps.size /\ ys = (z.cps.toList.take i).map (fun c => V.bl (Zdu c)) /\ ∃ v, σ' = [v] := ⟨_, rfl⟩
    refine Zj2 Pv (by rw [ePv]; exact ⟨rfl, Nat.zero_le _, by simp, none, rfl⟩) ?_ (by rw [hsz]; exact Zah hz') ?_ ?_ <;> rw [ePv]
    ·rintro i ys σ' H1 ⟨_, hi, rfl, _⟩ _;simp only [List.length_map, List.length_take]; omega
    ·rintro i c ys σ' H1 hc ⟨rfl, hi, rfl, v, rfl⟩;rw [<- ePv];have hi' : i < z.cps.size := (Array.getElem?_eq_some_iff.mp hc).1;walk_at "rd";obtain ⟨e1, e2⟩ := Zk5 c;rw [e1, e2];have et : z.cps.toList.take (i + 1) = z.cps.toList.take i ++ [c] := by
      rw [List.take_add_one];have : z.cps.toList[i]? = some c := by rw [Array.getElem?_toList]; exact hc
      rw [this]; rfl
     have eb : V.bl (Zdu c) = V.bl (decide (97 <= c) && decide (c <= 122)) := rfl
     by_cases k1 : 97 <= c
     ·simp only [k1, decide_true, if_true];rw [ePv]; exact ⟨rfl, hi', by rw [et, List.map_append, List.map_cons, List.map_nil, eb]; simp [k1], _, rfl⟩
     ·simp only [k1, decide_false, Bool.false_eq_true, if_false];rw [ePv]; exact ⟨rfl, hi', by rw [et, List.map_append, List.map_cons, List.map_nil, eb]; simp [k1], _, rfl⟩
    ·rintro ys σ' H1 ⟨rfl, _, rfl, _⟩ p hp;walk_at "rd";refine ⟨z.cps.toList.map Zdu, SqL.of ?_, ?_⟩
     ·rw [Zai];have : z.cps.toList.take z.cps.size = z.cps.toList := by rw [List.take_of_length_le]; simp
      rw [this, List.map_map]; rfl
     ·refine hq _ ?_ _ (Same.new (Same.refl _) hp);simp only [isNm, h1, h2, decide_true, Bool.true_and, List.all_map];rfl
   ·have h2' : ¬ (z.length : Int) <= 8 := by omega
    simp only [h2', decide_false, Bool.not_false, if_true];exact hq _ (by simp [isNm, h2]) H (Same.refl H)
  ·have h1' : ¬ (1 : Int) <= (z.length : Int) := by omega
   simp only [h1', decide_false, Bool.false_eq_true, if_false, Bool.not_false, if_true, true_and, exists_eq_left'];exact hq _ (by simp [isNm, h1]) H (Same.refl H)
end
section
variable {P : Program} {w : World} {K : PySem.W.Frag} {mg : Str -> Option Value} {base : Heap}
def Plains (H : Hp) (x : V) : Prop := ∀ a xs, x = .ref a -> H a = some (.lst xs) -> xs.length <= 100000 /\ ∀ y ∈ xs, ∃ n, tyF H y = some n
def Zdp : Sp := fun vs H Q _ => ∃ x n, vs = [x] /\ tyF H x = some n /\ Plains H x /\ ∀ H', Same H H' -> Q (.bl (isBd H x)) H'
abbrev Zb1 : Stmt := top 12
theorem Zha : Zat ["value"] ["value"] (defScope Zb1) := ⟨rfl, rfl, rfl, by decide +kernel, rfl, by decide +kernel, by decide +kernel⟩
theorem Zhi {f : Addr} {fd : FuncData} (F : Fun K "is_body" "is_body" Zb1 f fd) (T : Cn mg) (B : Bt mg) (F_is_byte : FnB P w K mg base "is_byte" 3 ["value"] [] Zdo) : Zcc P w K mg base CX0 4 f fd ["value"] Zdp := by
 refine F.ok Zha (fun vs H Q E h => ?_) (fun cdv A outer s H vs Q E hr h => ?_)
 ·obtain ⟨x, n, rfl, _⟩ := h; rfl
 ·obtain ⟨x, n, rfl, ty, hz, q⟩ := h;refine ⟨_, (Zaf (Zdr (PW.pt (Zic (Zda (Zc9 (Zal (Zcn "list") rfl B.isinstance (by rfl) (Zaa (hs := Zab) (pv 0) (Zaa (hs := Zab) (Zds (v := .ty "list") rfl B.blist (by rfl) rfl) Zad))))) (Zgt (Zda (Zgu Zf7 Zf7 Zae (Zal (Za2 (K := K) rfl) rfl B.len (by rfl) (Zaa (hs := Zab) (pv 0) Zad)) (Zcm rfl T.c_MOST_BYTES)))))) (Zao (Za3 Zci)) Zbk) (Zao (Za3 (Zal (Zfr (K := K) rfl rfl) rfl B.all (by rfl) (Zaa (hs := Zd3) (Zf6 (N' := ["part"]) (caps := [none]) (Zi4 (sc := defScope Zb1) (N := ["value"]) rfl rfl (by decide +kernel)) rfl (Zev (K := K) rfl (pv 0)) (fun _ _ _ _ _ => (Zc1 (i := 0) (Zim (N := ["part"]) rfl (by decide +kernel)) rfl (Or.inl rfl))) (fun _ _ _ _ _ => Zf5) (fun _ _ _ _ _ => (Zag F_is_byte (hr.mono (by decide)) rfl (Zaa (hs := Zab) (pv 0) Zad)))) Zad))))), ?_⟩;walk_at "rd";refine ⟨n, ty, ?_⟩;rw [Zku ty];cases hL : isL H x with
  | false =>
   simp only [Bool.not_false, if_true];have e := Zgd hL;rw [e] at q;exact q H (Same.refl H)
  | true =>
   obtain ⟨a, xs, rfl, ha⟩ := Zko hL;obtain ⟨hlen, hpl⟩ := hz a xs rfl ha;rw [Zdi ha] at q;simp only [Bool.not_true, Bool.false_eq_true, if_false];walk_at "rd";refine ⟨xs, .inl (SqL.of ha), ?_⟩
   by_cases h1 : 1 <= xs.length
   ·have h1' : (1 : Int) <= (xs.length : Int) := by omega
    simp only [h1', decide_true, if_true]
    by_cases h2 : xs.length <= 4000
    ·have h2' : (xs.length : Int) <= 4000 := by omega
     simp only [h2', decide_true, Bool.not_true, Bool.false_eq_true, if_false];refine ⟨⟨xs, SqL.of ha⟩, ?_⟩;obtain ⟨Pv, ePv⟩ : ∃ Pv : Nat -> List V -> L2.St -> Hp -> Prop, Pv = fun i ys σ' H1 => H1 = H /\ i <= xs.length /\ ys = (xs.take i).map (fun y => V.bl (wIn y 0 255)) /\ ∃ v, σ' = [v] := ⟨_, rfl⟩
     refine Zfm (xs := xs) Pv (by rw [ePv]; exact ⟨rfl, Nat.zero_le _, by simp, none, rfl⟩) ?_ (Zah hlen) ?_ ?_ <;> rw [ePv]
     ·rintro i ys σ' H1 ⟨rfl, hi, rfl, _⟩ _;refine ⟨SqL.of ha, ?_⟩;simp only [List.length_map, List.length_take]; omega
     ·rintro i y ys σ' H1 hy ⟨rfl, hi, rfl, v, rfl⟩;rw [<- ePv];have hi' : i < xs.length := (List.getElem?_eq_some_iff.mp hy).1;obtain ⟨m, hm⟩ := hpl y (List.mem_of_getElem? hy);walk_at "rd";refine ⟨y, m, rfl, hm, ?_⟩;rw [ePv];refine ⟨rfl, hi', ?_, _, rfl⟩;rw [List.take_add_one, hy, Option.toList_some, List.map_append, List.map_cons, List.map_nil]
     ·rintro ys σ' H1 ⟨rfl, _, rfl, _⟩ p hp;walk_at "rd";refine ⟨xs.map (fun y => wIn y 0 255), SqL.of ?_, ?_⟩
      ·rw [Zai, List.take_of_length_le (Nat.le_refl _), List.map_map]; rfl
      ·have e : (xs.map (fun y => wIn y 0 255)).all id = (decide (1 <= xs.length) && decide (xs.length <= 4000) && xs.all (fun y => wIn y 0 255)) := by
        simp only [h1, h2, decide_true, Bool.true_and, List.all_map]; rfl
       rw [e];exact q _ (Same.new (Same.refl _) hp)
    ·have h2' : ¬ (xs.length : Int) <= 4000 := by omega
     simp only [h2', decide_false, Bool.not_false, if_true];simp only [h2, decide_false, Bool.and_false, Bool.false_and] at q;exact q H (Same.refl H)
   ·have h1' : ¬ (1 : Int) <= (xs.length : Int) := by omega
    simp only [h1', decide_false, Bool.false_eq_true, if_false, Bool.not_false, if_true, true_and, exists_eq_left'];simp only [h1, decide_false, Bool.false_and] at q;exact q H (Same.refl H)
def goodParts (H : Hp) (number sender goal body keep : V) : Bool := wIn number 0 65535 && (isNm sender && (isNm goal && (isBd H body && isB keep)))
structure Zba (H : Hp) (number sender goal body keep : V) : Prop where
 n : ∃ t, tyF H number = some t
 s : ∃ t, tyF H sender = some t
 sl : ∀ z, sender = .str z -> z.length <= 100000
 g : ∃ t, tyF H goal = some t
 gl : ∀ z, goal = .str z -> z.length <= 100000
 b : ∃ t, tyF H body = some t
 bp : Plains H body
 k : ∃ t, tyF H keep = some t
theorem Zfi {H H' : Hp} (s : Same H H') {x : V} {n : String} (ty : tyF H x = some n) : isBd H' x = isBd H x := by
 cases x with
 | ref a =>
  have ty : (H a).bind tyO = some n := ty;cases e : H a with
  | none => rw [e] at ty; cases ty
  | some o =>
   show (match H' a with | some (.lst xs) => _ | _ => false) = (match H a with | some (.lst xs) => _ | _ => false);rw [s a o e, e]
 | _ => rfl
theorem Plains.same {H H' : Hp} (s : Same H H') {x : V} {n : String} (ty : tyF H x = some n) (h : Plains H x) : Plains H' x := by
 intro a xs ex ea;subst ex;have ty' : (H a).bind tyO = some n := ty;cases e : H a with
 | none => rw [e] at ty'; cases ty'
 | some o =>
  have := s a o e;rw [ea] at this;cases this;obtain ⟨h1, h2⟩ := h a xs rfl e;exact ⟨h1, fun y hy => by obtain ⟨m, hm⟩ := h2 y hy; exact ⟨m, Zbo s hm⟩⟩
def Zbe : Sp := fun vs H Q _ => ∃ number sender goal body keep, vs = [number, sender, goal, body, keep] /\ Zba H number sender goal body keep /\ ∀ H', Same H H' -> Q (.bl (goodParts H number sender goal body keep)) H'
abbrev Zau : Stmt := top 28
theorem Zcy : Zat ["number", "sender", "goal", "body", "keep"] ["number", "sender", "goal", "body", "keep"] (defScope Zau) := ⟨rfl, rfl, rfl, by decide +kernel, rfl, by decide +kernel, by decide +kernel⟩
theorem Zc4 {f : Addr} {fd : FuncData} (F : Fun K "are_shared_parts" "are_shared_parts" Zau f fd) (F_is_number : FnB P w K mg base "is_number" 3 ["value"] [] Zcj) (F_is_name : FnB P w K mg base "is_name" 1 ["value"] [] Zdn)
  (F_is_body : FnB P w K mg base "is_body" 4 ["value"] [] Zdp) (F_is_truth : FnB P w K mg base "is_truth" 1 ["value"] [] Zcf) : Zcc P w K mg base CX0 5 f fd ["number", "sender", "goal", "body", "keep"] Zbe := by
 refine F.ok Zcy (fun vs H Q E h => ?_) (fun cdv A outer s H vs Q E hr h => ?_)
 ·obtain ⟨a, b, c, d, e, rfl, _⟩ := h; rfl
 ·obtain ⟨nu, se, go, bo, ke, rfl, ⟨⟨tn, hn⟩, ⟨ts, hs⟩, hsl, ⟨tg, hg⟩, hgl, ⟨tb, hb⟩, hbp, ⟨tk, hk⟩⟩, q⟩ := h;refine ⟨_, (Zao (Za3 (Zdd (Zag F_is_number (hr.mono (by decide)) rfl (Zaa (hs := Zab) (pv 0) Zad)) (Zdd (Zag F_is_name (hr.mono (by decide)) rfl (Zaa (hs := Zab) (pv 1) Zad)) (Zdd (Zag F_is_name (hr.mono (by decide)) rfl (Zaa (hs := Zab) (pv 2) Zad)) (Zdd (Zag F_is_body (hr.mono (by decide)) rfl (Zaa (hs := Zab) (pv 3) Zad)) (Zfa (Zag F_is_truth (hr.mono (by decide)) rfl (Zaa (hs := Zab) (pv 4) Zad))))))))), ?_⟩;walk_at "rd";unfold goodParts at q;refine ⟨nu, tn, rfl, hn, _, rfl, Zjw (fun h1 => ?_) (fun h1 => ?_)⟩
  ·refine ⟨se, ts, rfl, hs, hsl, fun H1 s1 => ⟨_, rfl, Zjw (fun h2 => ?_) (fun h2 => ?_)⟩⟩
   ·refine ⟨go, tg, rfl, Zbo s1 hg, hgl, fun H2 s2 => ⟨_, rfl, Zjw (fun h3 => ?_) (fun h3 => ?_)⟩⟩
    ·have s12 := s1.trans s2;refine ⟨bo, tb, rfl, Zbo s12 hb, hbp.same s12 hb, fun H3 s3 => ⟨_, rfl, Zjw (fun h4 => ?_) (fun h4 => ?_)⟩⟩
     ·refine ⟨ke, tk, rfl, Zbo (s12.trans s3) hk, ?_⟩;rw [Zfi s12 hb] at h4;simp only [h1, h2, h3, h4, Bool.true_and] at q;exact q _ (s12.trans s3)
     ·rw [Zfi s12 hb, Bool.not_eq_true] at h4;simp only [h1, h2, h3, h4, Bool.true_and, Bool.false_and] at q;exact q _ (s12.trans s3)
    ·rw [Bool.not_eq_true] at h3;simp only [h1, h2, h3, Bool.true_and, Bool.false_and] at q;exact q _ (s1.trans s2)
   ·rw [Bool.not_eq_true] at h2;simp only [h1, h2, Bool.true_and, Bool.false_and] at q;exact q _ s1
  ·rw [Bool.not_eq_true] at h1;simp only [h1, Bool.false_and] at q;exact q H (Same.refl H)
end
section
theorem Za6 {f : Str} {v : V} {fs : List (Str × V)} {n : Nat} (h : fs.length <= n) : (putF f v fs).length <= n + 1 := Nat.le_trans (Zc6 f v fs) (Nat.succ_le_succ h)
theorem Zam {f g : Str} {v : V} {fs : List (Str × V)} (h : ¬ g = f) : (putF f v fs).lookup g = fs.lookup g := by rw [Zcg, if_neg h]
theorem Zc5 {f : Str} {v : V} {fs : List (Str × V)} : (putF f v fs).lookup f = some v := by rw [Zcg, if_pos rfl]
end
section
variable {P : Program} {w : World} {K : PySem.W.Frag} {mg : Str -> Option Value} {base : Heap}
def Zg0 : V -> Bool
 | .int i => decide (0 <= i) && decide (i % 8 = 0)
 | _ => false
def Zcw : Sp := fun vs H Q _ => ∃ x n, vs = [x] /\ tyF H x = some n /\ Q (.bl (Zg0 x)) H
abbrev Zbt : Stmt := top 29
theorem Zf2 : Zat ["at"] ["at"] (defScope Zbt) := ⟨rfl, rfl, rfl, by decide +kernel, rfl, by decide +kernel, by decide +kernel⟩
theorem Zgb {f : Addr} {fd : FuncData} (F : Fun K "is_place" "is_place" Zbt f fd) (T : Cn mg) (F_is_whole : FnB P w K mg base "is_whole" 1 ["value"] [] Zce) : Zcc P w K mg base CX0 2 f fd ["at"] Zcw := by
 refine F.ok Zf2 (fun vs H Q E h => ?_) (fun cdv A outer s H vs Q E hr h => ?_)
 ·obtain ⟨x, n, rfl, _⟩ := h; rfl
 ·obtain ⟨x, n, rfl, ty, q⟩ := h;refine ⟨_, (Zao (Za3 (Zdd (Zag F_is_whole (hr.mono (by decide)) rfl (Zaa (hs := Zab) (pv 0) Zad)) (Zdd (Zc2 Zo2 (pv 0) Zae (Zbm _)) (Zfa (Zc2 Zij (Zar Zdf (pv 0) (Zcm rfl T.c_STEP)) Zae (Zbm _))))))), ?_⟩;walk_at "rd";refine ⟨x, n, rfl, ty, _, rfl, Zjw (fun h => ?_) (fun h => ?_)⟩
  ·cases x <;> first | (simp [isI] at h; done) | skip
   rename_i i
   walk_at "rd"
   by_cases h1 : 0 <= i
   ·simp only [h1, decide_true, if_true];refine ⟨by decide, rfl, ?_⟩;simpa [Zg0, h1] using q
   ·simp only [h1, decide_false, Bool.false_eq_true, if_false];simpa [Zg0, h1] using q
  ·have e : Zg0 x = false := by cases x <;> first | rfl | (simp [isI] at h)
   rw [e] at q; exact q
def Zcb (at' len : Int) (more : Bool) : Bool := if more then decide (len % 8 = 0) && decide (at' + len < 4000) else decide (at' + len <= 4000)
def Zcx : Sp := fun vs H Q _ => ∃ at' len more, vs = [.int at', .int len, .bl more] /\ Q (.bl (Zcb at' len more)) H
abbrev Zbu : Stmt := top 30
theorem Zf3 : Zat ["at", "length", "more"] ["at", "length", "more"] (defScope Zbu) := ⟨rfl, rfl, rfl, by decide +kernel, rfl, by decide +kernel, by decide +kernel⟩
theorem Zgc {f : Addr} {fd : FuncData} (F : Fun K "has_room" "has_room" Zbu f fd) (T : Cn mg) : Zcc P w K mg base CX0 1 f fd ["at", "length", "more"] Zcx := by
 refine F.ok Zf3 (fun vs H Q E h => ?_) (fun cdv A outer s H vs Q E hr h => ?_)
 ·obtain ⟨a, l, m, rfl, _⟩ := h; rfl
 ·obtain ⟨a, l, m, rfl, q⟩ := h;refine ⟨_, (Zaf (Zdr (Zc9 (pv 2)) (Zao (Za3 (Zdd (Zc2 Zij (Zar Zdf (pv 1) (Zcm rfl T.c_STEP)) Zae (Zbm _)) (Zfa (Zc2 Znd (Zar Zbh (pv 0) (pv 1)) (Zcm rfl T.c_MOST_BYTES) (Zbm _)))))) Zbk) (Zao (Za3 (Zc2 Zf7 (Zar Zbh (pv 0) (pv 1)) (Zcm rfl T.c_MOST_BYTES) (Zbm _))))), ?_⟩;walk_at "rd";cases m with
  | true =>
   rw [if_pos rfl];refine ⟨by decide, rfl, ?_⟩;unfold Zcb at q;rw [if_pos rfl] at q
   by_cases h1 : l % 8 = 0
   ·rw [if_pos (by simpa using h1)];simpa [h1] using q
   ·rw [if_neg (by simpa using h1)];simpa [h1] using q
  | false =>
   rw [if_neg (by simp)];exact q
structure Zn2 (K : PySem.W.Frag) (C : Addr) : Prop where
 cl : Cls K C
 number : NoAttr K C "number"
 sender : NoAttr K C "sender"
 goal : NoAttr K C "goal"
 at' : NoAttr K C "at"
 body : NoAttr K C "body"
 more : NoAttr K C "more"
 keep : NoAttr K C "keep"
structure PieceAt (C : Addr) (H : Hp) (p : Addr) (nu se go a bo mo ke : V) : Prop where
 ex : ∃ dx fs, H p = some (.ins C dx fs) /\ fs.lookup ("number" : Str) = some nu /\ fs.lookup ("sender" : Str) = some se /\ fs.lookup ("goal" : Str) = some go /\ fs.lookup ("at" : Str) = some a /\ fs.lookup ("body" : Str) = some bo /\ fs.lookup ("more" : Str) = some mo /\ fs.lookup ("keep" : Str) = some ke /\
  fs.lookup ("key" : Str) = none /\ fs.lookup ("end" : Str) = none /\ fs.lookup ("is_like" : Str) = none
theorem PieceAt.same {C p : Addr} {H H' : Hp} {nu se go a bo mo ke : V} (s : ∀ o, H p = some o -> H' p = some o) (h : PieceAt C H p nu se go a bo mo ke) : PieceAt C H' p nu se go a bo mo ke := by
 obtain ⟨dx, fs, hp, r⟩ := h;exact ⟨dx, fs, s _ hp, r⟩
def Zh7 (H : Hp) (at' bo mo : V) : Bool := match at', bo, mo with
 | .int a, .ref b, .bl m => (match H b with
  | some (.lst xs) => Zcb a xs.length m
  | _ => false)
 | _, _, _ => false
def Zak (H : Hp) (nu se go at' bo mo ke : V) : Bool := goodParts H nu se go bo ke && (Zg0 at' && (isB mo && Zh7 H at' bo mo))
theorem Ziu {H : Hp} {x : V} (h : isBd H x = true) : ∃ b xs, x = .ref b /\ H b = some (.lst xs) := by
 cases e : isL H x with
 | true => exact Zko e
 | false => rw [Zgd e] at h; cases h
theorem Zfk {H : Hp} {a b c d e : V} (h : goodParts H a b c d e = true) : isBd H d = true := by
 unfold goodParts at h;simp only [Bool.and_eq_true] at h;exact h.2.2.2.1
def Zbl (C CN : Addr) : Sp := fun vs H Q E => ∃ p dx nu se go at' bo mo ke, vs = [.ref p, nu, se, go, at', bo, mo, ke] /\ H p = some (.ins C dx []) /\ Zba H nu se go bo ke /\ (∃ t, tyF H at' = some t) /\ (∃ t, tyF H mo = some t) /\
 (Zak H nu se go at' bo mo ke = true -> ∀ a b m xs H' b', at' = .int a -> bo = .ref b -> mo = .bl m -> H b = some (.lst xs) -> H b' = none -> b' ≠ p -> H' b' = some (.lst xs) -> PieceAt C H' p nu se go (.int a) (.ref b') (.bl m) ke -> But p H H' -> Q .non H') /\
 (Zak H nu se go at' bo mo ke = false -> ∀ H', Same H H' -> E (.ref CN) none H')
abbrev Zax : Stmt := Ziv (top 31) 0
theorem Zes : Zat ["self", "number", "sender", "goal", "at", "body", "more", "keep"] ["self", "number", "sender", "goal", "at", "body", "more", "keep"] (defScope Zax) := ⟨rfl, rfl, rfl, by decide +kernel, rfl, by decide +kernel, by decide +kernel⟩
theorem Zeh {f C CN : Addr} {fd : FuncData} (F : ∃ (oc : Value) (od : Option Addr) (dV kV doc pm : Value) (an : Option Addr) (cdv ct : Value) (osl : Array (Option Value)),
  fd = PySem.W.fnOf "__init__" "Piece.__init__" (Zaq Zax) (defBody Zax) (defScope Zax) dV kV doc pm an cdv ct /\ K.lookup f = some ⟨oc, od, .func fd, osl⟩ /\ PySem.W.codeIn K cdv "Piece.__init__" = true) (L : Zn2 K C) (B : Bt mg) (X_NoPiece : XC K mg "NoPiece" CN)
  (F_are_shared_parts : FnB P w K mg base "are_shared_parts" 5 ["number", "sender", "goal", "body", "keep"] [] Zbe) (F_is_place : FnB P w K mg base "is_place" 2 ["at"] [] Zcw) (F_is_truth : FnB P w K mg base "is_truth" 1 ["value"] [] Zcf)
  (F_has_room : FnB P w K mg base "has_room" 1 ["at", "length", "more"] [] Zcx) : Zcc P w K mg base (CXx P w) 6 f fd ["self", "number", "sender", "goal", "at", "body", "more", "keep"] (Zbl C CN) := by
 obtain ⟨oc, od, dV, kV, doc, pm, an, cdv, ct, osl, rfl, lk, hcd⟩ := F;refine Znu lk hcd Zes (fun vs H Q E h => ?_) (fun A outer s H vs Q E hr h => ?_)
 ·obtain ⟨p, dx, nu, se, go, at', bo, mo, ke, rfl, _⟩ := h; rfl
 ·obtain ⟨p, dx, nu, se, go, at', bo, mo, ke, rfl, hp, hpl, ⟨ta, hta⟩, ⟨tm, htm⟩, q, qx⟩ := h;refine ⟨_, (Zaf (Zdr (Zda (Zc9 (Zag F_are_shared_parts (hr.mono (by decide)) rfl (Zaa (hs := Zab) (pv 1) (Zaa (hs := Zab) (pv 2) (Zaa (hs := Zab) (pv 3) (Zaa (hs := Zab) (pv 5) (Zaa (hs := Zab) (pv 7) Zad)))))))) (Zao (Zgv Zfg rfl rfl X_NoPiece Za1)) Zbk) (Zaf (Zdr (PW.pt (Zic (Zda (Zc9 (Zag F_is_place (hr.mono (by decide)) rfl (Zaa (hs := Zab) (pv 4) Zad)))) (Zic (Zda (Zc9 (Zag F_is_truth (hr.mono (by decide)) rfl (Zaa (hs := Zab) (pv 6) Zad)))) (Zgt (Zda (Zc9 (Zag F_has_room (hr.mono (by decide)) rfl (Zaa (hs := Zab) (pv 4) (Zaa (hs := Zap) (Zal (Za2 (K := K) rfl) rfl B.len (by rfl) (Zaa (hs := Zab) (pv 5) Zad)) (Zaa (hs := Zab) (pv 6) Zad)))))))))) (Zao (Zgv Zfg rfl rfl X_NoPiece Za1)) Zbk) (Zaf (Zc0 (K := K) rfl (pv 0) (pv 1) rfl) (Zaf (Zc0 (K := K) rfl (pv 0) (pv 2) rfl) (Zaf (Zc0 (K := K) rfl (pv 0) (pv 3) rfl) (Zaf (Zc0 (K := K) rfl (pv 0) (pv 4) rfl) (Zaf (Zc0 (K := K) rfl (pv 0) (Zfb (Zhr (K := K) rfl) rfl B.blist (by rfl) (Zaa (hs := Zab) (pv 5) Zad)) rfl) (Zaf (Zc0 (K := K) rfl (pv 0) (pv 6) rfl) (Zao (Zc0 (K := K) rfl (pv 0) (pv 7) rfl)))))))))), ?_⟩;walk_at "rd";refine ⟨nu, se, go, bo, ke, rfl, hpl, fun H1 s1 => ⟨_, rfl, ?_⟩⟩;cases hgd : goodParts H nu se go bo ke with
  | false =>
   simp only [Bool.not_false, if_true];exact qx (by unfold Zak; rw [hgd]; rfl) H1 s1
  | true =>
  simp only [Bool.not_true, Bool.false_eq_true, if_false];obtain ⟨b, xs, rfl, hb⟩ := Ziu (Zfk hgd);refine ⟨at', ta, rfl, Zbo s1 hta, _, rfl, ?_⟩;cases hat : Zg0 at' with
  | false =>
   simp only [Bool.not_false, if_true];exact qx (by unfold Zak; rw [hgd, hat]; rfl) H1 s1
  | true =>
  simp only [Bool.not_true, Bool.false_eq_true, if_false];refine ⟨mo, tm, rfl, Zbo s1 htm, _, rfl, ?_⟩;cases hmo : isB mo with
  | false =>
   simp only [Bool.not_false, if_true];exact qx (by unfold Zak; rw [hgd, hat, hmo]; rfl) H1 s1
  | true =>
  simp only [Bool.not_true, Bool.false_eq_true, if_false];obtain ⟨a, rfl⟩ : ∃ a, at' = .int a := by cases at' <;> first | exact ⟨_, rfl⟩ | cases hat
  obtain ⟨mo, rfl⟩ : ∃ m, mo = .bl m := by cases mo <;> first | exact ⟨_, rfl⟩ | cases hmo
  walk_at "rd";have hp1 := s1 p _ hp;have hb1 := s1 b _ hb;have nbp : b ≠ p := Zo3 hb hp (by intro z; cases z);have l0 : ([] : List (Str × V)).length <= 0 := Nat.le_refl 0;refine ⟨_, .inl (SqL.of hb1), a, _, mo, rfl, _, rfl, ?_⟩;have hrv : Zh7 H (.int a) (.ref b) (.bl mo) = Zcb a xs.length mo := by
   show (match H b with | some (.lst xs) => Zcb a xs.length mo | _ => false) = _;rw [hb]
  cases hroom : Zcb a xs.length mo with
  | false =>
   simp only [Bool.not_false, if_true];exact qx (by unfold Zak; rw [hgd, hat, hmo, hrv, hroom]; rfl) H1 s1
  | true =>
  simp only [Bool.not_true, Bool.false_eq_true, if_false];have hgood : Zak H nu se go (.int a) (.ref b) (.bl mo) ke = true := by unfold Zak; rw [hgd, hat, hmo, hrv, hroom]; rfl
  refine ⟨C, dx, [], hp1, L.cl, L.number, by decide, C, dx, _, Zai, L.cl, L.sender, Nat.lt_of_le_of_lt (Za6 l0) (by decide), C, dx, _, Zai, L.cl, L.goal, Nat.lt_of_le_of_lt (Za6 (Za6 l0)) (by decide), C, dx, _, Zai, L.cl, L.at', Nat.lt_of_le_of_lt (Za6 (Za6 (Za6 l0))) (by decide), xs,
   .inl (SqL.of (by rw [Zaj nbp, Zaj nbp, Zaj nbp, Zaj nbp]; exact hb1)), fun l hl => ?_⟩
  have hlp : l ≠ p := fun z => by rw [z, Zai] at hl; cases hl
  have hl1 : H1 l = none := by rw [Zaj hlp, Zaj hlp, Zaj hlp, Zaj hlp] at hl; exact hl
  refine ⟨C, dx, _, by rw [Zaj (Ne.symm hlp)]; exact Zai, L.cl, L.body, Nat.lt_of_le_of_lt (Za6 (Za6 (Za6 (Za6 l0)))) (by decide), C, dx, _, Zai, L.cl, L.more, Nat.lt_of_le_of_lt (Za6 (Za6 (Za6 (Za6 (Za6 l0))))) (by decide), C, dx, _, Zai, L.cl, L.keep, Nat.lt_of_le_of_lt (Za6 (Za6 (Za6 (Za6 (Za6 (Za6 l0)))))) (by decide), ?_⟩;refine q hgood a b mo xs _ l rfl rfl rfl hb (s1.free hl1) hlp (by rw [Zaj hlp, Zaj hlp, Zaj hlp, Zai]) ⟨dx, _, Zai, ?_, ?_, ?_, ?_, ?_, ?_, ?_, ?_, ?_, ?_⟩ ?_
  ·rw [Zam, Zam, Zam, Zam, Zam, Zam, Zc5] <;> decide +kernel
  ·rw [Zam, Zam, Zam, Zam, Zam, Zc5] <;> decide +kernel
  ·rw [Zam, Zam, Zam, Zam, Zc5] <;> decide +kernel
  ·rw [Zam, Zam, Zam, Zc5] <;> decide +kernel
  ·rw [Zam, Zam, Zc5] <;> decide +kernel
  ·rw [Zam, Zc5] <;> decide +kernel
  ·rw [Zc5]
  ·rw [Zam, Zam, Zam, Zam, Zam, Zam, Zam] <;> first | rfl | decide +kernel
  ·rw [Zam, Zam, Zam, Zam, Zam, Zam, Zam] <;> first | rfl | decide +kernel
  ·rw [Zam, Zam, Zam, Zam, Zam, Zam, Zam] <;> first | rfl | decide +kernel
  ·intro c o e hc;rw [Zaj hc, Zaj hc, Zaj hc, Zaj (Za0 (s1 c o e) hl1), Zaj hc, Zaj hc, Zaj hc, Zaj hc];exact s1 c o e
end
section
variable {P : Program} {w : World} {K : PySem.W.Frag} {mg : Str -> Option Value} {base : Heap}
def Zb6 (C : Addr) : Sp := fun vs H Q _ => ∃ (p : Addr) (nu se go : V) (a : Int) (b : Addr) (mo ke : V) (xs : List V), vs = [.ref p] /\ PieceAt C H p nu se go (.int a) (.ref b) mo ke /\ H b = some (.lst xs) /\ Q (.int (a + xs.length)) H
abbrev Zbj : Stmt := Ziv (top 31) 2
theorem Ze8 : Zat ["self"] ["self"] (defScope Zbj) := ⟨rfl, rfl, rfl, by decide +kernel, rfl, by decide +kernel, by decide +kernel⟩
theorem Zfd {f C : Addr} {fd : FuncData} (F : Fun K "end" "Piece.end" Zbj f fd) (L : Zn2 K C) (B : Bt mg) : Zcc P w K mg base CX0 1 f fd ["self"] (Zb6 C) := by
 refine F.ok Ze8 (fun vs H Q E h => ?_) (fun cdv A outer s H vs Q E hr h => ?_)
 ·obtain ⟨p, nu, se, go, a, bo, mo, ke, xs, rfl, _⟩ := h; rfl
 ·obtain ⟨p, nu, se, go, a, b, mo, ke, xs, rfl, ⟨dx, fs, hp, f1, f2, f3, f4, f5, _⟩, hb, q⟩ := h;refine ⟨_, (Zao (Za3 (Zar Zbh (Zih (K := K) rfl (pv 0) rfl) (Zal (Za2 (K := K) rfl) rfl B.len (by rfl) (Zaa (hs := Ze5) (Zih (K := K) rfl (pv 0) rfl) Zad))))), ?_⟩;walk_at "rd";exact ⟨C, dx, fs, hp, L.cl, L.at', _, f4, C, dx, fs, hp, L.cl, L.body, _, f5, b, rfl, xs, .inl (SqL.of hb), a, rfl, q⟩
end
section
variable {P : Program} {w : World} {K : PySem.W.Frag} {mg : Str -> Option Value} {base : Heap}
def StOk (H : Hp) (a : Addr) : Prop := (∃ n, H a = some (.lst [.int n])) \/ ∃ n m c, H a = some (.lst [.int n, .int m, .int c])
theorem StOk.lst {H : Hp} {a : Addr} (h : StOk H a) : ∃ xs, H a = some (.lst xs) := by
 rcases h with ⟨n, h⟩ | ⟨n, m, c, h⟩ <;> exact ⟨_, h⟩
theorem Zg2 (x y : Int) : CMul (x % 2147483647) y := .inl ⟨by have := Int.emod_nonneg x (show (2147483647 : Int) ≠ 0 by decide); omega, by have := Int.emod_lt_of_pos x (show (0 : Int) < 2147483647 by decide); omega⟩
def Zbp : Sp := fun vs H Q _ => ∃ a b, vs = [.ref a, .int b] /\ StOk H a /\ 1 <= b /\ b < 1073741824 /\ ∀ d H', 0 <= d -> d < b -> StOk H' a -> But a H H' -> Q (.int d) H'
abbrev Zdq : Stmt := top 34
theorem Zdz : Zat ["_law_state", "_law_base", "_law_number", "_law_found"] ["_law_state", "_law_base"] (defScope Zdq) := ⟨rfl, rfl, rfl, by decide +kernel, rfl, by decide +kernel, by decide +kernel⟩
theorem Zjq {f : Addr} {fd : FuncData} (F : Fun K "_law_digit" "_law_digit" Zdq f fd) (B : Bt mg) : Zcc P w K mg base CX0 1 f fd ["_law_state", "_law_base"] Zbp := by
 refine F.ok Zdz (fun vs H Q E h => ?_) (fun cdv A outer s H vs Q E hr h => ?_)
 ·obtain ⟨a, b, rfl, _⟩ := h; rfl
 ·obtain ⟨a, b, rfl, hst, hb1, hb2, q⟩ := h;refine ⟨_, (Zaf (Zoz (Zdr (Zb8 Zij (Zal (Za2 (K := K) rfl) rfl B.len (by rfl) (Zaa (hs := Zab) (pv 0) Zad)) Zae (Zbm _)) (Zao (Zcl (Zdw (K := K) rfl PySem.F.plainAttrs_list PySem.F.slot_list_extend PySem.F.type_list_extend Zin (pv 0) (Zaa (hs := Zd4) (Zkj (Zaa (hs := Zbf) (Zar Zdf (Zbg (Zaw (K := K) rfl) (pv 0) Zae (fun _ _ => rfl)) Zae) (Zaa (hs := Zac) Zae Zad))) Zad)))) Zbk)) (Zaf (Zdr (Zb8 Zo1 (Zbg (Zaw (K := K) rfl) (pv 0) Zae (fun _ _ => rfl)) Zae (Zbm _)) (Zaf (Zay (i := 3) (Zdz).nd rfl (Or.inl rfl) (Zar Zdf (Zbg (Zaw (K := K) rfl) (pv 0) Zae (fun _ _ => rfl)) (pv 1))) (Zaf (Zkg (Zar Zex (Zbg (Zaw (K := K) rfl) (pv 0) Zae (fun _ _ => rfl)) (pv 1)) (Zkh (pv 0) Zae Zgr)) (Zao (Za3 (pv 3))))) Zbk) (Zaf (Zkg (Zar Zbh (Zbg (Zaw (K := K) rfl) (pv 0) Zae (fun _ _ => rfl)) Zae) (Zkh (pv 0) Zae Zgr)) (Zaf (Zay (i := 2) (Zdz).nd rfl (Or.inl rfl) (Zar Zdf (Zar Zde (Zar Zbh (Zar Zbh (Zbg (Zaw (K := K) rfl) (pv 0) Zae (fun _ _ => rfl)) (Zar Zde Zae (Zbg (Zaw (K := K) rfl) (pv 0) Zae (fun _ _ => rfl)))) Zae) Zae) Zae)) (Zaf (Zay (i := 2) (Zdz).nd rfl (Or.inl rfl) (Zar Zdf (Zar Zde (pv 2) (Zar Zbh (Zar Zex (pv 2) Zae) Zae)) Zae)) (Zao (Za3 (Zar Zdf (Zar Zdf (Zar Zde (pv 2) (Zar Zbh (Zar Zex (pv 2) Zae) Zae)) Zae) (pv 1))))))))), ?_⟩;walk_at "rd";refine ⟨fun σ' H' => σ' = [some (.ref a), some (.int b), none, none] /\ ∃ n m c, H' a = some (.lst [.int n, .int m, .int c]) /\ But a H H', ?_, ?_⟩
  ·rcases hst with ⟨n, h⟩ | ⟨n, m, c, h⟩
   ·refine ⟨_, .inl (SqL.of h), rfl, ?_⟩;rw [if_pos (by rfl)];refine ⟨.inl ⟨rfl, _, SqL.of h⟩, _, SqL.of h, _, rfl, _, rfl, by decide, Zah (by decide), fun p hp => ⟨_, (Zaj (Za0 h hp)).trans h, _, Zai, Zah (by simp), rfl, _, _, _, Zai, ?_⟩⟩;intro c o e hc;rw [Zaj hc, Zaj (Za0 e hp)];exact e
   ·refine ⟨_, .inl (SqL.of h), rfl, ?_⟩;rw [if_neg (by simp)];exact ⟨rfl, n, m, c, h, But.refl a H⟩
  ·rintro σ' H' ⟨rfl, n, m, c, h, hB⟩;walk_at "rd";refine ⟨_, SqL.of h, _, rfl, _, rfl, Zjw (fun h0 => ?_) (fun h0 => ?_)⟩
   ·refine ⟨_, SqL.of h, _, rfl, _, rfl, by omega, _, SqL.of h, _, rfl, _, rfl, ⟨by omega, by omega⟩, _, h, 0, rfl, ?_⟩;exact q _ _ (Int.emod_nonneg _ (by omega)) (Int.emod_lt_of_pos _ (by omega)) (.inr ⟨_, _, _, Zai⟩) (hB.trans But.upd)
   ·refine ⟨_, SqL.of h, _, rfl, _, rfl, _, h, 2, rfl, _, SqL.of Zai, _, rfl, _, SqL.of Zai, _, rfl, _, rfl, .inl ⟨by decide, by decide⟩, _, rfl, .inr ⟨by decide, by decide⟩, by decide, ⟨by decide, by decide⟩, Zg2 _ _, by decide, ⟨by decide, by decide⟩, Zg2 _ _, by decide, by omega, ?_⟩;exact q _ _ (Int.emod_nonneg _ (by omega)) (Int.emod_lt_of_pos _ (by omega)) (.inr ⟨_, _, _, Zai⟩) (hB.trans But.upd)
def NmOk (z : Str) : Prop := 1 <= z.length /\ z.length <= 8 /\ z.cps.toList.all Zdu = true
theorem NmOk.is {z : Str} (h : NmOk z) : isNm (.str z) = true := by
 obtain ⟨h1, h2, h3⟩ := h;simp only [isNm, h1, h2, h3, decide_true, Bool.and_self]
def Zfy : Sp := fun vs H Q _ => ∃ a, vs = [.ref a] /\ StOk H a /\ ∀ z H', NmOk z -> StOk H' a -> But a H H' -> Q (.str z) H'
abbrev Zei : Stmt := top 35
theorem Zer : Zat ["_law_state", "_law_found", "_law_k"] ["_law_state"] (defScope Zei) := ⟨rfl, rfl, rfl, by decide +kernel, rfl, by decide +kernel, by decide +kernel⟩
theorem Zip : ∀ d : Int, 0 <= d -> d < 26 -> ∃ c, atI ("abcdefghijklmnopqrstuvwxyz" : Str).cps.toList d = some c /\ Zdu c = true := by
 intro d h0 h1;obtain ⟨k, rfl⟩ : ∃ k : Nat, d = k := ⟨d.toNat, by omega⟩;have hk : k < 26 := by omega
 have all : ∀ k : _root_.Fin 26, ∃ c, ("abcdefghijklmnopqrstuvwxyz" : Str).cps.toList[k.val]? = some c /\ Zdu c = true := by decide +kernel
 obtain ⟨c, hc, hs⟩ := all ⟨k, hk⟩;exact ⟨c, Zb5 hc, hs⟩
theorem Zlf {f : Addr} {fd : FuncData} (F : Fun K "_law_name" "_law_name" Zei f fd) (B : Bt mg) (F_digit : FnB P w K mg base "_law_digit" 1 ["_law_state", "_law_base"] [] Zbp) : Zcc P w K mg base CX0 2 f fd ["_law_state"] Zfy := by
 refine F.ok Zer (fun vs H Q E h => ?_) (fun cdv A outer s H vs Q E hr h => ?_)
 ·obtain ⟨a, rfl, _⟩ := h; rfl
 ·obtain ⟨a, rfl, hst, q⟩ := h;refine ⟨_, (Zaf (Zay (i := 1) (Zer).nd rfl (Or.inl rfl) Za1) (Zaf (Zkf PassesOwn.never rfl (Zea rfl B.range (Zaa (hs := Zbf) (Zar Zbh Zae (Zag F_digit (hr.mono (by decide)) rfl (Zaa (hs := Zab) (pv 0) (Zaa (hs := Zac) Zae Zad)))) Zad)) (Zc1 (i := 2) (Zer).nd rfl (Or.inl rfl)) (Zao (Zay (i := 1) (Zer).nd rfl (Or.inl rfl) (Zar Zhd (pv 1) (Zbg Znq Za1 (Zag F_digit (hr.mono (by decide)) rfl (Zaa (hs := Zab) (pv 0) (Zaa (hs := Zac) Zae Zad))) (fun _ _ => rfl)))))) (Zao (Za3 (pv 1))))), ?_⟩;walk_at "rd";refine ⟨a, 8, rfl, hst, by decide, by decide, fun d H1 d0 d8 st1 b1 => ?_⟩;walk_at "rd";refine ⟨by omega, by omega, ?_⟩;obtain ⟨k, ek⟩ : ∃ k : Nat, (1 + d).toNat = k + 1 := ⟨d.toNat, by omega⟩;have hk : k + 1 <= 8 := by omega
  rw [ek];obtain ⟨Pv, ePv⟩ : ∃ Pv : Nat -> L2.St -> Hp -> Prop, Pv = fun i σ' H' => ∃ z v, σ' = [some (.ref a), some (.str z), v] /\ i <= k + 1 /\ z.length = i /\ z.cps.toList.all Zdu = true /\ StOk H' a /\ But a H H' := ⟨_, rfl⟩
  refine Zj0 Pv (by rw [ePv]; exact ⟨"", none, rfl, Nat.zero_le _, by decide +kernel, by decide +kernel, st1, b1⟩) ?_ ?_ <;> rw [ePv]
  ·rintro i σ' H2 hi ⟨z, v, rfl, hi1, hz, hc, st2, b2⟩;rw [<- ePv];walk_at "rd";refine ⟨a, 26, rfl, st2, by decide, by decide, fun d' H3 e0 e26 st3 b3 => ?_⟩;walk_at "rd";obtain ⟨c, hc1, hc2⟩ := Zip d' e0 e26;refine ⟨by decide +kernel, c, hc1, ?_⟩;have e1 : (z ++ (⟨#[c]⟩ : Str)).cps.toList = z.cps.toList ++ [c] := by show (z.cps ++ #[c]).toList = _; simp
   have e2 : (z ++ (⟨#[c]⟩ : Str)).length = z.length + 1 := by show (z.cps ++ #[c]).size = z.cps.size + 1; simp
   have e3 : (⟨#[c]⟩ : Str).length = 1 := rfl;refine ⟨by rw [e3]; exact Zah (by omega), ?_⟩;rw [ePv];exact ⟨_, _, rfl, by omega, by rw [e2, hz], by rw [e1, List.all_append, hc]; simp [hc2], st3, b2.trans b3⟩
  ·rintro σ' H2 ⟨z, v, rfl, _, hz, hc, st2, b2⟩;walk_at "rd";exact q z H2 ⟨by omega, by omega, hc⟩ st2 b2
theorem Zgl {a t : Addr} {H H' : Hp} (b : But a H H') (st : StOk H' a) (h : H' t = none) : H t = none /\ t ≠ a := by
 have n : t ≠ a := fun z => by
  subst z;obtain ⟨xs, e⟩ := st.lst;rw [e] at h; cases h
 refine ⟨?_, n⟩;cases e : H t with
 | none => rfl
 | some o => rw [b t o e n] at h; cases h
theorem StOk.upd {a p : Addr} {H : Hp} {o : HO} (h : StOk H a) (n : a ≠ p) : StOk (L2.upd H p o) a := by
 rcases h with ⟨n', h⟩ | ⟨n', m, c, h⟩
 ·exact .inl ⟨n', by rw [Zaj n]; exact h⟩
 ·exact .inr ⟨n', m, c, by rw [Zaj n]; exact h⟩
theorem at3 {x0 x1 x2 : V} {d : Int} (h0 : 0 <= d) (h1 : d < 3) : ∃ x, atI [x0, x1, x2] d = some x /\ (x = x0 \/ x = x1 \/ x = x2) := by
 have : d = 0 \/ d = 1 \/ d = 2 := by omega
 rcases this with rfl | rfl | rfl
 ·exact ⟨x0, rfl, .inl rfl⟩
 ·exact ⟨x1, rfl, .inr (.inl rfl)⟩
 ·exact ⟨x2, rfl, .inr (.inr rfl)⟩
def Zh4 : Sp := fun vs H Q _ => ∃ a, vs = [.ref a] /\ StOk H a /\ ∀ t nu z1 z2 H', 0 <= nu -> nu <= 65535 -> NmOk z1 -> NmOk z2 -> H t = none -> t ≠ a -> H' t = some (.tup [.int nu, .str z1, .str z2]) -> StOk H' a -> But a H H' -> Q (.ref t) H'
abbrev Zhb : Stmt := top 36
theorem Zkc : Zat ["_law_state", "_law_number"] ["_law_state"] (defScope Zhb) := ⟨rfl, rfl, rfl, by decide +kernel, rfl, by decide +kernel, by decide +kernel⟩
theorem Znf {f : Addr} {fd : FuncData} (F : Fun K "_law_key" "_law_key" Zhb f fd) (F_digit : FnB P w K mg base "_law_digit" 1 ["_law_state", "_law_base"] [] Zbp) (F_name : FnB P w K mg base "_law_name" 2 ["_law_state"] [] Zfy) : Zcc P w K mg base CX0 3 f fd ["_law_state"] Zh4 := by
 refine F.ok Zkc (fun vs H Q E h => ?_) (fun cdv A outer s H vs Q E hr h => ?_)
 ·obtain ⟨a, rfl, _⟩ := h; rfl
 ·obtain ⟨a, rfl, hst, q⟩ := h;refine ⟨_, (Zaf (Zay (i := 1) (Zkc).nd rfl (Or.inl rfl) (Zbg (Zaw (K := K) rfl) (Zkj (Zaa (hs := Zap) (Zag F_digit (hr.mono (by decide)) rfl (Zaa (hs := Zab) (pv 0) (Zaa (hs := Zac) Zae Zad))) (Zaa (hs := Zap) (Zag F_digit (hr.mono (by decide)) rfl (Zaa (hs := Zab) (pv 0) (Zaa (hs := Zac) Zae Zad))) (Zaa (hs := Zac) Zae Zad)))) (Zag F_digit (hr.mono (by decide)) rfl (Zaa (hs := Zab) (pv 0) (Zaa (hs := Zac) Zae Zad))) (fun _ _ => rfl))) (Zao (Za3 (Zm6 (Zaa (hs := Zab) (pv 1) (Zaa (hs := Zap) (Zag F_name (hr.mono (by decide)) rfl (Zaa (hs := Zab) (pv 0) Zad)) (Zaa (hs := Zap) (Zag F_name (hr.mono (by decide)) rfl (Zaa (hs := Zab) (pv 0) Zad)) Zad))))))), ?_⟩;walk_at "rd";refine ⟨a, 4, rfl, hst, by decide, by decide, fun d1 H1 l1 u1 st1 b1 => ?_⟩;refine ⟨a, 65536, rfl, st1, by decide, by decide, fun d2 H2 l2 u2 st2 b2 => ?_⟩;refine ⟨Zah (by simp), fun p hp => ?_⟩;have hpa : a ≠ p := fun z => by obtain ⟨xs, e⟩ := st2.lst; rw [z, hp] at e; cases e
  refine ⟨a, 3, rfl, st2.upd hpa, by decide, by decide, fun d3 H3 l3 u3 st3 b3 => ?_⟩;obtain ⟨x, hx, hx'⟩ := at3 (x0 := .int d1) (x1 := .int d2) (x2 := .int 65535) l3 u3;obtain ⟨nu, rfl, n0, n1⟩ : ∃ nu, x = .int nu /\ 0 <= nu /\ nu <= 65535 := by
   rcases hx' with rfl | rfl | rfl
   ·exact ⟨d1, rfl, l1, by omega⟩
   ·exact ⟨d2, rfl, l2, by omega⟩
   ·exact ⟨65535, rfl, by decide, by decide⟩
  walk_at "rd";refine ⟨_, SqL.of (b3 p _ Zai (Ne.symm hpa)), _, hx, ?_⟩;refine ⟨a, rfl, st3, fun z1 H4 k1 st4 b4 => ⟨a, rfl, st4, fun z2 H5 k2 st5 b5 => ⟨Zah (by simp), fun t ht => ?_⟩⟩⟩;have b05 : But a H H5 := (((b1.trans b2).new ((Zgl (b1.trans b2) st2 hp).1)).trans b3).trans (b4.trans b5);obtain ⟨ht1, ht2⟩ := Zgl b05 st5 ht;exact q t nu z1 z2 _ n0 n1 k1 k2 ht1 ht2 Zai (st5.upd (Ne.symm ht2)) (b05.new ht1)
abbrev s_amount : Stmt := top 38
end
section
variable {P : Program} {w : World} {K : PySem.W.Frag} {mg : Str -> Option Value} {base : Heap}
def Zfz : Sp := fun vs H Q _ => ∃ a n, vs = [.ref a, .int n] /\ StOk H a /\ 1 <= n /\ n <= 4000 /\ ∀ b (ns : List Int) H', (ns.length : Int) = n -> (∀ x ∈ ns, 0 <= x /\ x <= 255) -> H b = none -> b ≠ a -> H' b = some (.lst (ns.map V.int)) -> StOk H' a -> But a H H' -> Q (.ref b) H'
abbrev Zd7 : Stmt := top 37
theorem Zf4 : Zat ["_law_state", "_law_amount_here", "_law_found", "_law_step"] ["_law_state", "_law_amount_here"] (defScope Zd7) := ⟨rfl, rfl, rfl, by decide +kernel, rfl, by decide +kernel, by decide +kernel⟩
theorem Zlh {f : Addr} {fd : FuncData} (F : Fun K "_law_body" "_law_body" Zd7 f fd) (B : Bt mg) (F_digit : FnB P w K mg base "_law_digit" 1 ["_law_state", "_law_base"] [] Zbp) : Zcc P w K mg base CX0 2 f fd ["_law_state", "_law_amount_here"] Zfz := by
 refine F.ok Zf4 (fun vs H Q E h => ?_) (fun cdv A outer s H vs Q E hr h => ?_)
 ·obtain ⟨a, n, rfl, _⟩ := h; rfl
 ·obtain ⟨a, n, rfl, hst, h1, h4, q⟩ := h;refine ⟨_, (Zaf (Zej (i := 2) (N' := ["_law_k", "_law_state"]) (caps := [none, some 0]) (Zi4 (sc := defScope Zd7) (N := ["_law_state", "_law_amount_here", "_law_found", "_law_step"]) rfl rfl (by decide +kernel)) rfl (Zf4).nd rfl (Or.inl rfl) (Zea rfl B.range (Zaa (hs := Zap) (Zal (Zi8 rfl) rfl B.min (by rfl) (Zaa (hs := Zab) (pv 1) (Zaa (hs := Zac) Zae Zad))) Zad)) (fun _ _ _ _ _ => (Zc1 (i := 0) (Zim (N := ["_law_k", "_law_state"]) rfl (by decide +kernel)) rfl (Or.inl rfl))) (fun _ _ _ _ _ => Zf5) (fun _ _ _ _ _ => (Zag F_digit (hr.mono (by decide)) rfl (Zaa (hs := Zab) (pv 1) (Zaa (hs := Zac) Zae Zad)))) rfl) (Zaf (Zay (i := 3) (Zf4).nd rfl (Or.inl rfl) (Zar Zbh Zae (Zag F_digit (hr.mono (by decide)) rfl (Zaa (hs := Zab) (pv 0) (Zaa (hs := Zac) Zae Zad))))) (Zaf (Zjn PassesOwn.never (Zb8 Znd (Zal (Za2 (K := K) rfl) rfl B.len (by rfl) (Zaa (hs := Zab) (pv 2) Zad)) (pv 1) (Zbm _)) (Zao (Zcl (Zdw (K := K) rfl PySem.F.plainAttrs_list PySem.F.slot_list_append PySem.F.type_list_append mt_append (pv 2) (Zaa (hs := Zbf) (Zar Zdf (Zar Zbh (Zbg (Zaw (K := K) rfl) (pv 2) (Zar Zeb (Zal (Za2 (K := K) rfl) rfl B.len (by rfl) (Zaa (hs := Zab) (pv 2) Zad)) Zae) (fun _ _ => rfl)) (pv 3)) Zae) Zad))))) (Zao (Za3 (pv 2)))))), ?_⟩;walk_at "rd";obtain ⟨m, em, m1, m60, mn, mx⟩ : ∃ m : Nat, (if 60 < n then 60 else n) = (m : Int) /\ 1 <= m /\ m <= 60 /\ (n <= 60 -> (m : Int) = n) /\ (60 < n -> m = 60) := by
   by_cases h : 60 < n
   ·exact ⟨60, by rw [if_pos h]; rfl, by omega, by omega, by omega, by omega⟩
   ·exact ⟨n.toNat, by rw [if_neg h]; omega, by omega, by omega, by omega, by omega⟩
  rw [em, Int.toNat_natCast];refine ⟨by omega, by omega, ?_⟩;obtain ⟨Pv, ePv⟩ : ∃ Pv : Nat -> List V -> L2.St -> Hp -> Prop, Pv = fun i ys σ' H' => ∃ (ns : List Int) (v : Option V), ys = ns.map V.int /\ ns.length = i /\ (∀ x ∈ ns, 0 <= x /\ x <= 255) /\ σ' = [v, some (.ref a)] /\ StOk H' a /\ But a H H' := ⟨_, rfl⟩
  refine Zel Pv (by rw [ePv]; exact ⟨[], none, rfl, rfl, (fun _ h => nomatch h), rfl, hst, But.refl a H⟩) ?_ (Zah (by omega)) ?_ ?_ <;> rw [ePv]
  ·rintro i ys σ' H' ⟨ns, v, rfl, hl, _⟩ _;rw [List.length_map, hl]; exact Nat.le_refl _
  ·rintro i ys σ' H' hi ⟨ns, v, rfl, hl, hns, rfl, st, bb⟩;rw [<- ePv];walk_at "rd";refine ⟨a, 256, rfl, st, by decide, by decide, fun d H2 l0 u0 st2 b2 => ?_⟩;rw [ePv];refine ⟨ns ++ [d], _, by rw [List.map_append]; rfl, by rw [List.length_append, hl]; rfl, fun x hx => ?_, rfl, st2, bb.trans b2⟩;rcases List.mem_append.mp hx with z | z
   ·exact hns x z
   ·rw [List.mem_singleton.mp z]; omega
  ·rintro ys σ' H1 ⟨ns, v, rfl, hl, hns, _, st1, b1⟩ b hb;obtain ⟨hbH, hba⟩ := Zgl b1 st1 hb;refine ⟨a, 255, rfl, st1.upd (Ne.symm hba), by decide, by decide, fun d H2 l0 u0 st2 b2 => ?_⟩;walk_at "rd";have h2b := b2 b _ Zai hba;have b12 : But a H H2 := (b1.new hbH).trans b2;obtain ⟨Pw, ePw⟩ : ∃ Pw : L2.St -> Hp -> Prop, Pw = fun σ' H' => ∃ ns : List Int, σ' = [some (.ref a), some (.int n), some (.ref b), some (.int (1 + d))] /\ H' b = some (.lst (ns.map V.int)) /\ (ns.length : Int) <= n /\ (n <= 60 -> (ns.length : Int) = n) /\ 1 <= ns.length /\ (60 < n -> 60 <= ns.length) /\ (∀ x ∈ ns, 0 <= x /\ x <= 255) /\ StOk H' a /\ But a H H' := ⟨_, rfl⟩
   refine Zn4 Pw (fun _ H' => match H' b with | some (.lst xs) => n.toNat - xs.length | _ => 0) (by rw [ePw]; exact ⟨ns, rfl, h2b, by omega, by omega, by omega, by omega, hns, st2, b12⟩) ?_;intro σ' H' hP;rw [ePw] at hP;obtain ⟨ms, rfl, hb', hlen, hle, hge1, hge, hms, st', bb'⟩ := hP;walk_at "rd";refine ⟨_, .inl (SqL.of hb'), Zjw (fun hlt => ?_) (fun hnlt => ?_)⟩
   ·have hlt' : (ms.length : Int) < n := by simpa using hlt
    have h60 : 60 < n := by omega
    have h60' := hge h60;refine ⟨fun σ2 H2 => Pw σ2 H2 /\ ∃ xs, H2 b = some (.lst xs) /\ xs.length = ms.length + 1, ?_, ?_⟩
    ·rintro σ2 H2 ⟨p2, xs, e2, l2⟩;refine ⟨_, ?_, rfl, p2⟩;rw [e2, hb'];show n.toNat - xs.length < n.toNat - (ms.map V.int).length;rw [l2, List.length_map];omega
    ·obtain ⟨j, ej⟩ : ∃ j : Nat, (ms.length : Int) - 60 = j := ⟨ms.length - 60, by omega⟩;have hj : j < ms.length := by omega
     have hat : atI (ms.map V.int) ((ms.length : Int) - 60) = some (.int ms[j]) := by
      rw [ej]; exact Zb5 (by rw [List.getElem?_map, List.getElem?_eq_getElem hj]; rfl)
     have hba' : tyV K "list" (.ref b) H' := .inl ⟨rfl, _, SqL.of hb'⟩
     refine ⟨hba', _, .inl (SqL.of hb'), _, SqL.of hb', _, by rw [List.length_map]; exact hat, ?_⟩;refine ⟨_, rfl, by decide, _, hb', Zbx (by rw [List.length_map]; omega), ?_, _, Zai, by rw [List.length_append, List.length_map]; rfl⟩;rw [ePw];refine ⟨ms ++ [(ms[j] + (1 + d)) % 256], rfl, by rw [Zai, List.map_append]; rfl, by rw [List.length_append]; show ((ms.length + 1 : Nat) : Int) <= n; omega, by omega, by rw [List.length_append]; omega, by rw [List.length_append]; omega, fun x hx => ?_, st'.upd (Ne.symm hba), bb'.new hbH⟩;rcases List.mem_append.mp hx with z | z
     ·exact hms x z
     ·rw [List.mem_singleton.mp z];have e1 := Int.emod_nonneg (ms[j] + (1 + d)) (show (256 : Int) ≠ 0 by decide);have e2 := Int.emod_lt_of_pos (ms[j] + (1 + d)) (show (0 : Int) < 256 by decide);omega
   ·have e : (ms.length : Int) = n := by
     have : ¬ (ms.length : Int) < n := by simpa using hnlt
     omega
    exact q b ms H' e hms hbH hba hb' st' bb'
end
section
variable {P : Program} {w : World} {K : PySem.W.Frag} {mg : Str -> Option Value} {base : Heap}
structure OddOk (H H' : Hp) (a : Addr) (x : V) : Prop where
 ty : ∃ t, tyF H' x = some t
 nw : ∀ p, x = .ref p -> H p = none /\ p ≠ a
theorem StOk.ty {H : Hp} {a : Addr} (h : StOk H a) : tyF H (.ref a) = some "list" := by obtain ⟨xs, h⟩ := h.lst; exact Zb7 h
theorem Zhx {H H' : Hp} {a : Addr} {x : V} {t : String} (b : But a H H') (s : StOk H a) (s' : StOk H' a) (h : tyF H x = some t) : tyF H' x = some t := by
 cases x with
 | ref p =>
  by_cases hp : p = a
  ·subst hp; rw [s.ty] at h; cases h; exact s'.ty
  ·have h : (H p).bind tyO = some t := h;show (H' p).bind tyO = some t;cases e : H p with
   | none => rw [e] at h; cases h
   | some o => rw [b p o e hp]; rw [e] at h; exact h
 | _ => exact h
theorem StOk.same {H G : Hp} {a : Addr} (h : StOk H a) (s : Same H G) : StOk G a := by
 rcases h with ⟨n, h⟩ | ⟨n, m, c, h⟩
 ·exact .inl ⟨n, s _ _ h⟩
 ·exact .inr ⟨n, m, c, s _ _ h⟩
theorem StOk.ne {H : Hp} {a p : Addr} (h : StOk H a) (hp : H p = none) : p ≠ a := fun z => by obtain ⟨xs, e⟩ := h.lst; subst z; rw [hp] at e; cases e
theorem Zef {xs : List V} {d : Int} (h0 : 0 <= d) (h1 : d < xs.length) : ∃ x, atI xs d = some x /\ x ∈ xs := by
 obtain ⟨n, rfl⟩ := Int.eq_ofNat_of_zero_le h0;have hn : n < xs.length := by omega
 exact ⟨xs[n], Zb5 (List.getElem?_eq_getElem hn), List.getElem_mem hn⟩
def Zdm : Sp := fun vs H Q _ => ∃ a kt nu z1 z2, vs = [.ref a, .ref kt] /\ StOk H a /\ H kt = some (.tup [.int nu, .str z1, .str z2]) /\ NmOk z1 /\ NmOk z2 /\
 ∀ t x0 x1 x2 H', H t = none -> t ≠ a -> H' t = some (.tup [x0, x1, x2]) -> (∃ y, tyF H' x0 = some y) -> (∃ y, tyF H' x1 = some y) -> (∃ y, tyF H' x2 = some y) -> (∀ z, x1 = .str z -> z.length <= 100000) -> (∀ z, x2 = .str z -> z.length <= 100000) ->
  (wIn x0 0 65535 && (isNm x1 && isNm x2)) = false -> StOk H' a -> But a H H' -> Q (.ref t) H'
abbrev Zb9 : Stmt := top 40
theorem Zcq : Zat ["_law_state", "_law_key_here", "_law_number", "_law_name_here", "_law_some"] ["_law_state", "_law_key_here"] (defScope Zb9) := ⟨rfl, rfl, rfl, by decide +kernel, rfl, by decide +kernel, by decide +kernel⟩
theorem Zhf {f : Addr} {fd : FuncData} (F : Fun K "_law_odd_key" "_law_odd_key" Zb9 f fd) (F_digit : FnB P w K mg base "_law_digit" 1 ["_law_state", "_law_base"] [] Zbp) : Zcc P w K mg base CX0 2 f fd ["_law_state", "_law_key_here"] Zdm := by
 refine F.ok Zcq (fun vs H Q E h => ?_) (fun cdv A outer s H vs Q E hr h => ?_)
 ·obtain ⟨a, kt, nu, z1, z2, rfl, _⟩ := h; rfl
 ·obtain ⟨a, kt, nu, z1, z2, rfl, st, hkt, n1, n2, q⟩ := h;have nka : kt ≠ a := fun z => by subst z; obtain ⟨xs, e⟩ := st.lst; rw [hkt] at e; cases e
  refine ⟨_, (@Zaf _ _ _ _ _ (@Zay _ _ 2 _ _ _ _ (Zcq).nd rfl (Or.inl rfl) (@Zbg _ _ _ _ _ _ _ (Zaw (K := K) rfl) (@Za4 _ _ _ _ (@Zaa _ _ _ _ _ (Zjo Zgn (@Zae _ _ _ _)) (@Zaa _ _ _ _ _ (@Zae _ _ _ _) (@Zaa _ _ _ _ _ Zci (@Zaa _ _ _ _ _ (@Zdv _ _ _) (@Zaa _ _ _ _ _ (@Za1 _ _ _ _) (@Zaa _ _ _ _ _ (@Zar _ _ _ _ _ _ _ _ Zkk (@Zae _ _ _ _) (@Zae _ _ _ _)) Zad Zbf) Zac) Zac) Zac) Zac) Zcp)) (Zag F_digit (hr.mono (by decide)) rfl (@Zaa _ _ _ _ _ (pv 0) (@Zaa _ _ _ _ _ (@Zae _ _ _ _) Zad Zac) Zab)) (fun _ _ => rfl)) (by rfl) (Or.inl rfl)) (@Zaf _ _ _ _ _ (@Zay _ _ 3 _ _ _ _ (Zcq).nd rfl (Or.inl rfl) (@Zbg _ _ _ _ _ _ _ (Zaw (K := K) rfl) (@Za4 _ _ _ _ (@Zaa _ _ _ _ _ (@Za1 _ _ _ _) (@Zaa _ _ _ _ _ (@Za1 _ _ _ _) (@Zaa _ _ _ _ _ (@Za1 _ _ _ _) (@Zaa _ _ _ _ _ (@Za1 _ _ _ _) (@Zaa _ _ _ _ _ (@Za1 _ _ _ _) (@Zaa _ _ _ _ _ (@Zdv _ _ _) (@Zaa _ _ _ _ _ (@Za4 _ _ _ _ (@Zaa _ _ _ _ _ (@Za1 _ _ _ _) Zad Zac)) (@Zaa _ _ _ _ _ (@Zae _ _ _ _) Zad Zac) Zd4) Zac) Zac) Zac) Zac) Zac) Zac)) (Zag F_digit (hr.mono (by decide)) rfl (@Zaa _ _ _ _ _ (pv 0) (@Zaa _ _ _ _ _ (@Zae _ _ _ _) Zad Zac) Zab)) (fun _ _ => rfl)) (by rfl) (Or.inl rfl)) (@Zaf _ _ _ _ _ (@Zay _ _ 4 _ _ _ _ (Zcq).nd rfl (Or.inl rfl) (@Za4 _ _ _ _ (@Zaa _ _ _ _ _ (@Zew _ _ _ _ _ (@Zaa _ _ _ _ _ (pv 2) (@Zaa _ _ _ _ _ (@Zbg _ _ _ _ _ _ _ (Zch (K := K) rfl) (pv 1) (@Zae _ _ _ _) (fun _ _ => rfl)) (@Zaa _ _ _ _ _ (@Zbg _ _ _ _ _ _ _ (Zch (K := K) rfl) (pv 1) (@Zae _ _ _ _) (fun _ _ => rfl)) Zad Za5) Za5) Zab)) (@Zaa _ _ _ _ _ (@Zew _ _ _ _ _ (@Zaa _ _ _ _ _ (@Zbg _ _ _ _ _ _ _ (Zch (K := K) rfl) (pv 1) (@Zae _ _ _ _) (fun _ _ => rfl)) (@Zaa _ _ _ _ _ (pv 3) (@Zaa _ _ _ _ _ (@Zbg _ _ _ _ _ _ _ (Zch (K := K) rfl) (pv 1) (@Zae _ _ _ _) (fun _ _ => rfl)) Zad Za5) Zab) Za5)) (@Zaa _ _ _ _ _ (@Zew _ _ _ _ _ (@Zaa _ _ _ _ _ (@Zbg _ _ _ _ _ _ _ (Zch (K := K) rfl) (pv 1) (@Zae _ _ _ _) (fun _ _ => rfl)) (@Zaa _ _ _ _ _ (@Zbg _ _ _ _ _ _ _ (Zch (K := K) rfl) (pv 1) (@Zae _ _ _ _) (fun _ _ => rfl)) (@Zaa _ _ _ _ _ (pv 3) Zad Zab) Za5) Za5)) (@Zaa _ _ _ _ _ (@Zew _ _ _ _ _ (@Zaa _ _ _ _ _ (pv 2) (@Zaa _ _ _ _ _ (pv 3) (@Zaa _ _ _ _ _ (pv 3) Zad Zab) Zab) Zab)) Zad Zdy) Zdy) Zdy) Zdy)) (by rfl) (Or.inl rfl)) (@Zao _ _ _ (@Za3 _ _ _ _ (@Zbg _ _ _ _ _ _ _ (Zaw (K := K) rfl) (pv 4) (Zag F_digit (hr.mono (by decide)) rfl (@Zaa _ _ _ _ _ (pv 0) (@Zaa _ _ _ _ _ (@Zae _ _ _ _) Zad Zac) Zab)) (fun _ _ => rfl))))))), ?_⟩;refine Zan fun N hN => ?_
  walk_at "rd";refine ⟨⟨by decide, by decide, by decide⟩, Zah (by decide), fun p1 G1 hp1 s1 g1 => ?_⟩;have st1 := st.same s1;have np1 := st.ne hp1;refine ⟨a, 6, rfl, st1, by decide, by decide, fun d1 H1 d0 d0' st2 b1 => ?_⟩;obtain ⟨x, hx, hm⟩ := Zef (xs := [V.int (-1), V.int 65536, V.bl true, V.non, V.str (Str.ofString "5"), V.int (10 ^ Int.toNat 30)]) d0 d0';refine ⟨_, d1, rfl, SqL.of (b1 _ _ g1 np1), x, hx, hN _ _ ?_⟩;clear hN N;have bad0 : wIn x 0 65535 = false /\ ∀ G, ∃ y, tyF G x = some y := by
   simp only [List.mem_cons, List.not_mem_nil, or_false] at hm;rcases hm with rfl | rfl | rfl | rfl | rfl | rfl
   all_goals exact ⟨by decide +kernel, fun G => ⟨_, rfl⟩⟩
  have hkt1 := b1 _ _ (s1 _ _ hkt) nka;have bu1 : But a H H1 := fun c o e n => b1 c o (s1 _ _ e) n
  refine Zan fun N hN => ?_
  walk_at "rd";refine ⟨Zah (by decide), fun p2 G2 hp2 s2 g2 => ⟨Zah (by decide), fun p3 G3 hp3 s3 g3 => ?_⟩⟩;have st3 := (st2.same s2).same s3;have np2 := st2.ne hp2;have np3 := (st2.same s2).ne hp3;refine ⟨a, 8, rfl, st3, by decide, by decide, fun d2 H2 e0 e0' st4 b2 => ?_⟩;obtain ⟨nm, hnm, hm2⟩ := Zef (xs := [V.str (Str.ofString ""), V.str (Str.ofString "abcdefghi"), V.str (Str.ofString "A"), V.str (Str.ofString "a1"), V.str (Str.ofString "a b"), V.non, V.ref p2, V.int 5]) e0 e0';refine ⟨_, d2, rfl, SqL.of (b2 _ _ g3 np3), nm, hnm, hN _ _ ?_⟩;clear hN N;have g2' := b2 _ _ (s3 _ _ g2) np2;have bad1 : isNm nm = false /\ (∀ z, nm = .str z -> z.length <= 100000) /\ ∃ y, tyF H2 nm = some y := by
   simp only [List.mem_cons, List.not_mem_nil, or_false] at hm2;rcases hm2 with rfl | rfl | rfl | rfl | rfl | rfl | rfl | rfl
   all_goals first
    | exact ⟨rfl, (fun z e => by cases e), _, Zb7 g2'⟩
    | exact ⟨by decide +kernel, (fun z e => by cases e <;> decide +kernel), _, rfl⟩
  have hkt2 := b2 _ _ (s3 _ _ (s2 _ _ hkt1)) nka;have bu2 : But a H H2 := fun c o e n => b2 c o (s3 _ _ (s2 _ _ (bu1 c o e n))) n
  obtain ⟨bad1, len1, y1, hy1⟩ := bad1;obtain ⟨bad0, ty0⟩ := bad0;refine Zan fun N hN => ?_
  walk_at "rd";have i0 : atI [V.int nu, V.str z1, V.str z2] 0 = some (.int nu) := Zb5 (j := 0) rfl;have i1 : atI [V.int nu, V.str z1, V.str z2] 1 = some (.str z1) := Zb5 (j := 1) rfl;have i2 : atI [V.int nu, V.str z1, V.str z2] 2 = some (.str z2) := Zb5 (j := 2) rfl;have l1 : ∀ z, V.str z1 = .str z -> z.length <= 100000 := fun z e => by cases e; have := n1.2.1; omega
  have l2 : ∀ z, V.str z2 = .str z -> z.length <= 100000 := fun z e => by cases e; have := n2.2.1; omega
  refine ⟨_, SqT.of hkt2, _, i1, _, SqT.of hkt2, _, i2, Zah (by simp), fun t1 J1 ht1 u1 j1 => ⟨_, SqT.of (u1 _ _ hkt2), _, i0, _, SqT.of (u1 _ _ hkt2), _, i2, Zah (by simp), fun t2 J2 ht2 u2 j2 => ⟨_, SqT.of (u2 _ _ (u1 _ _ hkt2)), _, i0, _, SqT.of (u2 _ _ (u1 _ _ hkt2)), _, i1, Zah (by simp), fun t3 J3 ht3 u3 j3 => ⟨Zah (by simp), fun t4 J4 ht4 u4 j4 => ⟨Zah (by simp), fun t5 J5 ht5 u5 j5 => hN _ _ ?_⟩⟩⟩⟩⟩;clear hN N;have uJ : Same H2 J5 := (((u1.trans u2).trans u3).trans u4).trans u5;have st5 := st4.same uJ;have np5 : t5 ≠ a := (st4.same (((u1.trans u2).trans u3).trans u4)).ne ht5;walk_at "rd";refine ⟨a, 4, rfl, st5, by decide, by decide, fun d3 H3 f0 f0' st6 b3 => ?_⟩;obtain ⟨y, hy, hm3⟩ := Zef (xs := [V.ref t1, V.ref t2, V.ref t3, V.ref t4]) f0 f0';refine ⟨_, d3, rfl, SqL.of (b3 _ _ j5 np5), y, hy, ?_⟩;have fresh : ∀ t, H2 t = none -> H t = none /\ t ≠ a := fun t ht => ⟨bu2.free ht (st4.ne ht), st4.ne ht⟩
  have f1 := fresh t1 ht1;have f2 := fresh t2 (u1.free ht2);have f3 := fresh t3 (u1.free (u2.free ht3));have f4 := fresh t4 (u1.free (u2.free (u3.free ht4)));have bu3 : But a H H3 := fun c o e n => b3 c o (uJ _ _ (bu2 c o e n)) n
  have ty1 : ∃ y, tyF H3 nm = some y := ⟨y1, Zhx b3 st5 st6 (Zbo uJ hy1)⟩;simp only [List.mem_cons, List.not_mem_nil, or_false] at hm3;rcases hm3 with rfl | rfl | rfl | rfl
  ·exact q _ _ _ _ H3 f1.1 f1.2 (b3 _ _ (u5 _ _ (u4 _ _ (u3 _ _ (u2 _ _ j1)))) f1.2) (ty0 _) ⟨_, rfl⟩ ⟨_, rfl⟩ l1 l2 (by rw [bad0]; rfl) st6 bu3
  ·exact q _ _ _ _ H3 f2.1 f2.2 (b3 _ _ (u5 _ _ (u4 _ _ (u3 _ _ j2))) f2.2) ⟨_, rfl⟩ ty1 ⟨_, rfl⟩ len1 l2 (by rw [bad1, Bool.false_and, Bool.and_false]) st6 bu3
  ·exact q _ _ _ _ H3 f3.1 f3.2 (b3 _ _ (u5 _ _ (u4 _ _ j3)) f3.2) ⟨_, rfl⟩ ⟨_, rfl⟩ ty1 l1 len1 (by rw [bad1, Bool.and_false, Bool.and_false]) st6 bu3
  ·exact q _ _ _ _ H3 f4.1 f4.2 (b3 _ _ (u5 _ _ j4) f4.2) (ty0 _) ty1 ty1 len1 len1 (by rw [bad0]; rfl) st6 bu3
def badAt (x : V) (len : Int) : Prop := Zg0 x = false \/ ∃ i : Int, x = .int i /\ 4000 < i + len
def Zd5 : Sp := fun vs H Q _ => ∃ a b, ∃ ns : List Int, vs = [.ref a, .ref b] /\ StOk H a /\ H b = some (.lst (ns.map V.int)) /\ b ≠ a /\ 1 <= ns.length /\ ns.length <= 4000 /\
 ∀ x H', (∃ y, tyF H' x = some y) -> (∀ p, x ≠ .ref p) -> badAt x ns.length -> StOk H' a -> But a H H' -> Q x H'
abbrev Zcr : Stmt := top 42
theorem Zd6 : Zat ["_law_state", "_law_body_here", "_law_far", "_law_near"] ["_law_state", "_law_body_here"] (defScope Zcr) := ⟨rfl, rfl, rfl, by decide +kernel, rfl, by decide +kernel, by decide +kernel⟩
theorem Zik {f : Addr} {fd : FuncData} (F : Fun K "_law_odd_at" "_law_odd_at" Zcr f fd) (B : Bt mg) (F_digit : FnB P w K mg base "_law_digit" 1 ["_law_state", "_law_base"] [] Zbp) : Zcc P w K mg base CX0 2 f fd ["_law_state", "_law_body_here"] Zd5 := by
 refine F.ok Zd6 (fun vs H Q E h => ?_) (fun cdv A outer s H vs Q E hr h => ?_)
 ·obtain ⟨a, b, ns, rfl, _⟩ := h; rfl
 ·obtain ⟨a, b, ns, rfl, st, hb, nba, hn1, hn2, q⟩ := h;refine ⟨_, (@Zaf _ _ _ _ _ (@Zay _ _ 2 _ _ _ _ (Zd6).nd rfl (Or.inl rfl) (@Zar _ _ _ _ _ _ _ _ Zbh (@Zar _ _ _ _ _ _ _ _ Zde (@Zar _ _ _ _ _ _ _ _ Zex (@Zar _ _ _ _ _ _ _ _ Zeb (@Zae _ _ _ _) (Zal (Za2 (K := K) rfl) rfl B.len (by rfl) (@Zaa _ _ _ _ _ (pv 1) Zad Zab))) (@Zae _ _ _ _)) (@Zae _ _ _ _)) (@Zae _ _ _ _)) (by rfl) (Or.inl rfl)) (@Zaf _ _ _ _ _ (@Zay _ _ 3 _ _ _ _ (Zd6).nd rfl (Or.inl rfl) (@Zar _ _ _ _ _ _ _ _ Zbh (@Zar _ _ _ _ _ _ _ _ Zbh (@Zar _ _ _ _ _ _ _ _ Zde (@Zae _ _ _ _) (Zag F_digit (hr.mono (by decide)) rfl (@Zaa _ _ _ _ _ (pv 0) (@Zaa _ _ _ _ _ (@Zae _ _ _ _) Zad Zac) Zab))) (@Zae _ _ _ _)) (Zag F_digit (hr.mono (by decide)) rfl (@Zaa _ _ _ _ _ (pv 0) (@Zaa _ _ _ _ _ (@Zae _ _ _ _) Zad Zac) Zab))) (by rfl) (Or.inl rfl)) (@Zao _ _ _ (@Za3 _ _ _ _ (@Zbg _ _ _ _ _ _ _ (Zaw (K := K) rfl) (@Za4 _ _ _ _ (@Zaa _ _ _ _ _ (Zjo Zgn (@Zae _ _ _ _)) (@Zaa _ _ _ _ _ (pv 3) (@Zaa _ _ _ _ _ (pv 3) (@Zaa _ _ _ _ _ (pv 2) (@Zaa _ _ _ _ _ (pv 2) (@Zaa _ _ _ _ _ (@Zae _ _ _ _) (@Zaa _ _ _ _ _ (@Zae _ _ _ _) (@Zaa _ _ _ _ _ Zci (@Zaa _ _ _ _ _ Zci (@Zaa _ _ _ _ _ (@Zdv _ _ _) (@Zaa _ _ _ _ _ (@Za1 _ _ _ _) (@Zaa _ _ _ _ _ (Zjo Zgn (@Zae _ _ _ _)) (@Zaa _ _ _ _ _ (@Zar _ _ _ _ _ _ _ _ Zde (@Zae _ _ _ _) (@Zar _ _ _ _ _ _ _ _ Zkk (@Zae _ _ _ _) (@Zae _ _ _ _))) Zad Zbf) Zcp) Zac) Zac) Zac) Zac) Zac) Zac) Zab) Zab) Zab) Zab) Zcp)) (Zag F_digit (hr.mono (by decide)) rfl (@Zaa _ _ _ _ _ (pv 0) (@Zaa _ _ _ _ _ (@Zae _ _ _ _) Zad Zac) Zab)) (fun _ _ => rfl)))))), ?_⟩;refine Zan fun N hN => ?_
  walk_at "rd";refine ⟨_, .inl (SqL.of hb), ⟨by decide, by decide⟩, ?_, hN _ _ ?_⟩
  ·rw [List.length_map]; exact .inl ⟨by omega, by omega⟩
  clear hN N;rw [List.length_map];refine Zan fun N hN => ?_
  walk_at "rd";refine ⟨a, 40, rfl, st, by decide, by decide, fun d1 H1 a0 a1 st1 b1 => ⟨d1, rfl, .inl ⟨by decide, by decide⟩, a, 7, rfl, st1, by decide, by decide, fun d2 H2 c0 c1 st2 b2 => ⟨d2, rfl, hN _ _ ?_⟩⟩⟩;clear hN N;walk_at "rd";refine ⟨⟨by decide, by decide, by decide⟩, .inl ⟨by decide, by decide⟩, Zah (by simp), fun p1 G1 hp1 s1 g1 => ?_⟩;have np1 := st2.ne hp1;refine ⟨a, 13, rfl, st2.same s1, by decide, by decide, fun d3 H3 f0 f0' st3 b3 => ?_⟩;obtain ⟨y, hy, hm⟩ := Zef (xs := [V.int (-8), V.int (8 * d1 + 1 + d2), V.int (8 * d1 + 1 + d2), V.int ((4000 - ↑ns.length) / 8 * 8 + 8), V.int ((4000 - ↑ns.length) / 8 * 8 + 8), V.int 4000, V.int 4008, V.bl true, V.bl false, V.non, V.str (Str.ofString "0"), V.int (-1), V.int (8 * 10 ^ Int.toNat 20)]) f0 f0';refine ⟨_, d3, rfl, SqL.of (b3 _ _ g1 np1), y, hy, ?_⟩;have bu : But a H H3 := fun c o e n => b3 c o (s1 _ _ (b2 _ _ (b1 c o e n) n)) n
  have far : (4000 : Int) < (4000 - ↑ns.length) / 8 * 8 + 8 + ↑ns.length := by omega
  have near : Zg0 (.int (8 * d1 + 1 + d2)) = false := by
   have : ¬ (8 * d1 + 1 + d2) % 8 = 0 := by omega
   simp [Zg0, this]
  have n8 : (1 : Int) <= ns.length := by omega
  have big : (4000 : Int) < 8 * 10 ^ Int.toNat 20 + ↑ns.length := by
   have e : (10 : Int) ^ Int.toNat 20 = 100000000000000000000 := by decide +kernel
   rw [e]; omega
  simp only [List.mem_cons, List.not_mem_nil, or_false] at hm;rcases hm with rfl | rfl | rfl | rfl | rfl | rfl | rfl | rfl | rfl | rfl | rfl | rfl | rfl
  all_goals refine q _ H3 ⟨_, rfl⟩ (fun p z => by cases z) ?_ st3 bu
  all_goals first
   | exact .inl (by decide +kernel)
   | exact .inl near
   | exact .inr ⟨_, rfl, far⟩
   | exact .inr ⟨_, rfl, by omega⟩
   | exact .inr ⟨_, rfl, big⟩
end
section
variable {P : Program} {w : World} {K : PySem.W.Frag} {mg : Str -> Option Value} {base : Heap}
theorem Zh8 {α : Type} (l : List α) : ∀ n : Nat, (List.replicate n l).flatten.length = n * l.length
 | 0 => by simp
 | n + 1 => by rw [List.replicate_succ, List.flatten_cons, List.length_append, Zh8 l n]; rw [Nat.succ_mul]; omega
def Zcv : Sp := fun vs H Q _ => ∃ a b, ∃ ns : List Int, vs = [.ref a, .ref b] /\ StOk H a /\ H b = some (.lst (ns.map V.int)) /\ b ≠ a /\ 1 <= ns.length /\ ns.length <= 4000 /\
 ∀ x H', OddOk H H' a x -> isBd H' x = false -> Plains H' x -> StOk H' a -> But a H H' -> Q x H'
abbrev Zbq : Stmt := top 41
theorem Zby : Zat ["_law_state", "_law_body_here", "_law_at", "_law_odd", "_law_some"] ["_law_state", "_law_body_here"] (defScope Zbq) := ⟨rfl, rfl, rfl, by decide +kernel, rfl, by decide +kernel, by decide +kernel⟩
theorem Zf8 {f : Addr} {fd : FuncData} (F : Fun K "_law_odd_body" "_law_odd_body" Zbq f fd) (B : Bt mg) (F_digit : FnB P w K mg base "_law_digit" 1 ["_law_state", "_law_base"] [] Zbp) : Zcc P w K mg base CX0 2 f fd ["_law_state", "_law_body_here"] Zcv := by
 refine F.ok Zby (fun vs H Q E h => ?_) (fun cdv A outer s H vs Q E hr h => ?_)
 ·obtain ⟨a, b, ns, rfl, _⟩ := h; rfl
 ·obtain ⟨a, b, ns, rfl, st, hb, nba, hn1, hn2, q⟩ := h;refine ⟨_, (@Zaf _ _ _ _ _ (@Zay _ _ 2 _ _ _ _ (Zby).nd rfl (Or.inl rfl) (Zag F_digit (hr.mono (by decide)) rfl (@Zaa _ _ _ _ _ (pv 0) (@Zaa _ _ _ _ _ (Zal (Za2 (K := K) rfl) rfl B.len (by rfl) (@Zaa _ _ _ _ _ (pv 1) Zad Zab)) Zad Zap) Zab)) (by rfl) (Or.inl rfl)) (@Zaf _ _ _ _ _ (@Zay _ _ 3 _ _ _ _ (Zby).nd rfl (Or.inl rfl) (@Zbg _ _ _ _ _ _ _ (Zaw (K := K) rfl) (@Za4 _ _ _ _ (@Zaa _ _ _ _ _ (Zjo Zgn (@Zae _ _ _ _)) (@Zaa _ _ _ _ _ (@Zae _ _ _ _) (@Zaa _ _ _ _ _ Zci (@Zaa _ _ _ _ _ Zci (@Zaa _ _ _ _ _ (@Zdv _ _ _) (@Zaa _ _ _ _ _ (@Za1 _ _ _ _) (@Zaa _ _ _ _ _ (@Za4 _ _ _ _ (@Zaa _ _ _ _ _ (@Zae _ _ _ _) Zad Zac)) Zad Zd4) Zac) Zac) Zac) Zac) Zac) Zcp)) (Zag F_digit (hr.mono (by decide)) rfl (@Zaa _ _ _ _ _ (pv 0) (@Zaa _ _ _ _ _ (@Zae _ _ _ _) Zad Zac) Zab)) (fun _ _ => rfl)) (by rfl) (Or.inl rfl)) (@Zaf _ _ _ _ _ (@Zay _ _ 4 _ _ _ _ (Zby).nd rfl (Or.inl rfl) (@Za4 _ _ _ _ (@Zaa _ _ _ _ _ (@Za4 _ _ _ _ Zad) (@Zaa _ _ _ _ _ (@Zar _ _ _ _ _ _ _ _ Zii (Zdb (Zc7 (K := K) rfl) (pv 1) Zd9 (Zd8 (@Zae _ _ _ _))) (@Zae _ _ _ _)) (@Zaa _ _ _ _ _ (Zfb (Zi7 (K := K) rfl) rfl B.btuple (by rfl) (@Zaa _ _ _ _ _ (pv 1) Zad Zab)) (@Zaa _ _ _ _ _ (@Zdv _ _ _) (@Zaa _ _ _ _ _ (@Za1 _ _ _ _) (@Zaa _ _ _ _ _ (@Zae _ _ _ _) Zad Zac) Zac) Zac) Zap) Zbf) Zd4)) (by rfl) (Or.inl rfl)) (@Zaf _ _ _ _ _ (@Zay _ _ 4 _ _ _ _ (Zby).nd rfl (Or.inl rfl) (@Zar _ _ _ _ _ _ _ _ Zc3 (pv 4) (@Zar _ _ _ _ _ _ _ _ Zii (@Za4 _ _ _ _ (@Zaa _ _ _ _ _ (@Zar _ _ _ _ _ _ _ _ Zc3 (@Zar _ _ _ _ _ _ _ _ Zc3 (Zdb (Zc7 (K := K) rfl) (pv 1) Zd9 (Zd8 (pv 2))) (@Za4 _ _ _ _ (@Zaa _ _ _ _ _ (pv 3) Zad Zab))) (Zdb (Zc7 (K := K) rfl) (pv 1) (Zd8 (@Zar _ _ _ _ _ _ _ _ Zbh (pv 2) (@Zae _ _ _ _))) Zd9)) Zad Zbf)) (@Zae _ _ _ _))) (by rfl) (Or.inl rfl)) (@Zao _ _ _ (@Za3 _ _ _ _ (@Zbg _ _ _ _ _ _ _ (Zaw (K := K) rfl) (pv 4) (Zag F_digit (hr.mono (by decide)) rfl (@Zaa _ _ _ _ _ (pv 0) (@Zaa _ _ _ _ _ (@Zae _ _ _ _) Zad Zac) Zab)) (fun _ _ => rfl)))))))), ?_⟩;refine Zan fun N hN => ?_
  walk_at "rd";refine ⟨_, .inl (SqL.of hb), a, _, rfl, st, by rw [List.length_map]; omega, by rw [List.length_map]; omega, fun at0 H1 a0 a1 st1 b1 => hN _ _ ?_⟩;clear hN N;have hb1 := b1 _ _ hb nba;refine Zan fun N hN => ?_
  walk_at "rd";refine ⟨Zah (by decide), fun p1 G1 hp1 s1 g1 => ⟨Zah (by decide), fun p2 G2 hp2 s2 g2 => ?_⟩⟩;have st2 := (st1.same s1).same s2;have np1 := st1.ne hp1;have np2 := (st1.same s1).ne hp2;refine ⟨a, 7, rfl, st2, by decide, by decide, fun d H2 d0 d1 st3 b3 => ?_⟩;obtain ⟨od, hod, hom⟩ := Zef (xs := [V.int (-1), V.int 256, V.bl true, V.bl false, V.non, V.str (Str.ofString "7"), V.ref p1]) d0 d1;refine ⟨_, d, rfl, SqL.of (b3 _ _ g2 np2), od, hod, hN _ _ ?_⟩;clear hN N;have hb2 := b3 _ _ (s2 _ _ (s1 _ _ hb1)) nba;have g1' := b3 _ _ (s2 _ _ g1) np1;have but2 : But a H H2 := fun c o e n => b3 c o (s2 _ _ (s1 _ _ (b1 c o e n))) n
  have odty : ∃ t, tyF H2 od = some t := by
   simp only [List.mem_cons, List.not_mem_nil, or_false] at hom;rcases hom with rfl | rfl | rfl | rfl | rfl | rfl | rfl
   all_goals first | exact ⟨_, Zb7 g1'⟩ | exact ⟨_, rfl⟩
  have odb : wIn od 0 255 = false := by
   simp only [List.mem_cons, List.not_mem_nil, or_false] at hom;rcases hom with rfl | rfl | rfl | rfl | rfl | rfl | rfl
   all_goals first | rfl | decide +kernel
  refine Zan fun N hN => ?_
  walk_at "rd";refine ⟨Zah (by decide), fun q1 J1 hq1 t1 j1 => ⟨_, SqL.of (t1 _ _ hb2), fun q2 J2 hq2 t2 j2 => ?_⟩⟩;have e1 : Zgh (ns.map V.int) none (some 1) = (ns.take 1).map V.int := by
   have := Zgf (ns := ns.map V.int) (hi := 1) (by rw [List.length_map]; exact hn1);rw [List.map_take]; exact this
  rw [e1] at j2;have e2 : ((ns.take 1).map V.int).length = 1 := by rw [List.length_map, List.length_take]; omega
  refine ⟨_, j2, by decide, by decide, by rw [e2]; exact Zah (by decide), fun q3 J3 hq3 t3 j3 => ⟨_, SqL.of (t3 _ _ (t2 _ _ (t1 _ _ hb2))), fun q4 J4 hq4 t4 j4 => ⟨Zah (by decide), fun q6 J6 hq6 t6 j6 => hN _ _ ?_⟩⟩⟩;clear hN N;have hb6 := t6 _ _ (t4 _ _ (t3 _ _ (t2 _ _ (t1 _ _ hb2))));have sJ6 : Same H2 J6 := (((t1.trans t2).trans t3).trans t4).trans t6;have k1 : J6 q1 = some (.lst []) := t6 _ _ (t4 _ _ (t3 _ _ (t2 _ _ j1)));have k3 := t6 _ _ (t4 _ _ j3);have k4 := t6 _ _ j4;refine Zan fun N hN => ?_
  walk_at "rd";obtain ⟨m, rfl⟩ := Int.eq_ofNat_of_zero_le a0;have hm : m < ns.length := by rw [List.length_map] at a1; omega
  have c1 : Zgh (ns.map V.int) none (some (m : Int)) = (ns.take m).map V.int := by
   have := Zgf (ns := ns.map V.int) (hi := m) (by rw [List.length_map]; omega);rw [List.map_take]; exact this
  have c2 : Zgh (ns.map V.int) (some ((m : Int) + 1)) none = (ns.drop (m + 1)).map V.int := by
   have := Zi3 (ns := ns.map V.int) (lo := m + 1) (by rw [List.length_map]; omega);rw [List.map_drop]; exact this
  refine ⟨_, SqL.of hb6, fun r1 L1 hr1 u1 l1 => ⟨Zah (by decide), fun r2 L2 hr2 u2 l2 => ⟨_, u2 _ _ l1, _, l2, ?_, fun r3 L3 hr3 u3 l3 => ⟨_, SqL.of (u3 _ _ (u2 _ _ (u1 _ _ hb6))), fun r4 L4 hr4 u4 l4 => ⟨_, u4 _ _ l3, _, l4, ?_, fun r5 L5 hr5 u5 l5 => ⟨Zah (by decide), fun r6 L6 hr6 u6 l6 => ⟨_, l6, by decide, by decide, Zah (by simp), fun r7 L7 hr7 u7 l7 => ⟨_, u7 _ _ (u6 _ _ (u5 _ _ (u4 _ _ (u3 _ _ (u2 _ _ (u1 _ _ j6)))))), _, l7, Zah (by simp), fun r8 L8 hr8 u8 l8 => hN _ _ ?_⟩⟩⟩⟩⟩⟩⟩⟩
  ·rw [c1]; refine Zah ?_; simp only [List.length_map, List.length_take, List.length_cons, List.length_nil]; omega
  ·rw [c1, c2]; refine Zah ?_; simp only [List.length_append, List.length_map, List.length_take, List.length_drop, List.length_cons, List.length_nil]; omega
  clear hN N;rw [c1, c2] at l5;have uL : Same J6 L8 := ((((((u1.trans u2).trans u3).trans u4).trans u5).trans u6).trans u7).trans u8;have l5' := u8 _ _ (u7 _ _ (u6 _ _ l5));have st8 := (st3.same sJ6).same uL;walk_at "rd";have hlen : (12 : Int) = (([V.ref q1, V.ref q3, V.ref q4, V.non, V.str (Str.ofString "abc"), V.int 5] ++ (List.replicate (Int.toNat 6) [V.ref r5]).flatten).length : Int) := by simp
  refine ⟨a, 12, rfl, st8, by decide, by decide, fun d H' d0 d1 st' b' => ?_⟩;obtain ⟨x, hx, hm'⟩ := Zef (xs := [V.ref q1, V.ref q3, V.ref q4, V.non, V.str (Str.ofString "abc"), V.int 5] ++ (List.replicate (Int.toNat 6) [V.ref r5]).flatten) d0 (hlen ▸ d1);have fresh : ∀ p, H2 p = none -> H p = none /\ p ≠ a := fun p hp => ⟨but2.free hp (st3.ne hp), st3.ne hp⟩
  have n8 : r8 ≠ a := ((st3.same sJ6).same ((((((u1.trans u2).trans u3).trans u4).trans u5).trans u6).trans u7)).ne hr8;refine ⟨_, d, rfl, SqL.of (b' _ _ l8 n8), x, hx, ?_⟩;have hbut : But a H H' := fun c o e n => b' c o (uL _ _ (sJ6 _ _ (but2 c o e n))) n
  have f1 := fresh q1 hq1;have f3 := fresh q3 (t1.free (t2.free hq3));have f4 := fresh q4 (t1.free (t2.free (t3.free hq4)));have fr := fresh r5 (sJ6.free (u1.free (u2.free (u3.free (u4.free hr5)))));have v1 := b' _ _ (uL _ _ k1) f1.2;have v3 := b' _ _ (uL _ _ k3) f3.2;have v4 := b' _ _ (uL _ _ k4) f4.2;have vr := b' _ _ l5' fr.2;have cases' : x = V.ref q1 \/ x = V.ref q3 \/ x = V.ref q4 \/ x = V.non \/ x = V.str (Str.ofString "abc") \/ x = V.int 5 \/ x = V.ref r5 := by
   rcases List.mem_append.mp hm' with h | h
   ·simp only [List.mem_cons, List.not_mem_nil, or_false] at h;rcases h with h | h | h | h | h | h <;> simp [h]
   ·obtain ⟨l, hl, hx'⟩ := List.mem_flatten.mp h;rw [List.eq_of_mem_replicate hl] at hx';simp only [List.mem_cons, List.not_mem_nil, or_false] at hx';simp [hx']
  have odt : ∃ t, tyF H' od = some t := by
   obtain ⟨t, ht⟩ := odty;exact ⟨t, Zhx b' ((st3.same sJ6).same uL) st' (Zbo uL (Zbo sJ6 ht))⟩
  rcases cases' with rfl | rfl | rfl | rfl | rfl | rfl | rfl
  ·refine q _ H' ⟨⟨_, Zb7 v1⟩, fun p z => by cases z; exact f1⟩ ?_ ?_ st' hbut
   ·rw [Zdi v1]; rfl
   ·intro p xs z hz; cases z; rw [v1] at hz; cases hz; exact ⟨by simp, fun y hy => nomatch hy⟩
  ·have hl3 : (List.replicate (Int.toNat 4001) (List.map V.int (List.take 1 ns))).flatten.length = 4001 := by
    rw [Zh8, e2]; rfl
   refine q _ H' ⟨⟨_, Zb7 v3⟩, fun p z => by cases z; exact f3⟩ ?_ ?_ st' hbut
   ·rw [Zdi v3, hl3]; simp
   ·intro p xs z hz; cases z; rw [v3] at hz; cases hz;refine ⟨by rw [hl3]; decide, fun y hy => ?_⟩;obtain ⟨l, hl, hy'⟩ := List.mem_flatten.mp hy;rw [List.eq_of_mem_replicate hl] at hy';obtain ⟨z, _, rfl⟩ := List.mem_map.mp hy';exact ⟨_, rfl⟩
  ·refine q _ H' ⟨⟨_, Zkv v4⟩, fun p z => by cases z; exact f4⟩ ?_ ?_ st' hbut
   ·exact Zgd (by show (match H' q4 with | some (.lst _) => true | _ => false) = false; rw [v4])
   ·intro p xs z hz; cases z; rw [v4] at hz; cases hz
  ·exact q _ H' ⟨⟨_, rfl⟩, fun p z => by cases z⟩ rfl (fun p xs z => by cases z) st' hbut
  ·exact q _ H' ⟨⟨_, rfl⟩, fun p z => by cases z⟩ rfl (fun p xs z => by cases z) st' hbut
  ·exact q _ H' ⟨⟨_, rfl⟩, fun p z => by cases z⟩ rfl (fun p xs z => by cases z) st' hbut
  ·refine q _ H' ⟨⟨_, Zb7 vr⟩, fun p z => by cases z; exact fr⟩ ?_ ?_ st' hbut
   ·rw [Zdi vr];simp [List.all_append, odb]
   ·intro p xs z hz; cases z; rw [vr] at hz; cases hz;refine ⟨by simp only [List.length_append, List.length_map, List.length_take, List.length_drop, List.length_cons, List.length_nil]; omega, fun y hy => ?_⟩;rcases List.mem_append.mp hy with hy | hy
    ·rcases List.mem_append.mp hy with hy | hy
     ·obtain ⟨z, _, rfl⟩ := List.mem_map.mp hy; exact ⟨_, rfl⟩
     ·simp only [List.mem_cons, List.not_mem_nil, or_false] at hy; subst hy; exact odt
    ·obtain ⟨z, _, rfl⟩ := List.mem_map.mp hy; exact ⟨_, rfl⟩
end
section
variable {K : PySem.W.Frag}
abbrev keyD (nu : Int) (z1 z2 : Str) : PyData := .tuple [.int nu, .str z1, .str z2]
theorem Zp9 {n : Nat} (h : 0 < n) : ixN n 0 = some 0 := by
 have h' : (0 : Int) < (n : Int) := by omega
 unfold ixN;rw [if_pos (by decide), if_pos h']; rfl
theorem at0 {α : Type} {x : α} {xs : List α} : atI (x :: xs) 0 = some x := by
 unfold atI; rw [List.length_cons, Zp9 (Nat.succ_pos _)]; rfl
theorem Zj1 (ns : List Int) (lo hi : Option Int) : ∃ ms : List Int, Zgh (ns.map V.int) lo hi = ms.map V.int /\ ms.length <= ns.length := by
 refine ⟨(ns.drop (HT.sIx (ns.map V.int).length 0 lo)).take (HT.sIx (ns.map V.int).length (ns.map V.int).length hi - HT.sIx (ns.map V.int).length 0 lo), ?_, ?_⟩
 ·unfold Zgh; rw [List.map_take, List.map_drop]
 ·rw [List.length_take, List.length_drop]; omega
theorem Zdt {H : Hp} {nu : Int} {z1 z2 : Str} {b : Addr} {ns : List Int} {k : Bool} (h0 : 0 <= nu) (h1 : nu <= 65535) (n1 : NmOk z1) (n2 : NmOk z2) (hb : H b = some (.lst (ns.map V.int))) (l1 : 1 <= ns.length) (l2 : ns.length <= 4000) (hns : ∀ x ∈ ns, 0 <= x /\ x <= 255) :
  Zba H (.int nu) (.str z1) (.str z2) (.ref b) (.bl k) /\ goodParts H (.int nu) (.str z1) (.str z2) (.ref b) (.bl k) = true := by
 refine ⟨⟨⟨_, rfl⟩, ⟨_, rfl⟩, fun z e => ?_, ⟨_, rfl⟩, fun z e => ?_, ⟨_, Zb7 hb⟩, fun a xs e1 e2 => ?_, ⟨_, rfl⟩⟩, ?_⟩
 ·cases e; have := n1.2.1; omega
 ·cases e; have := n2.2.1; omega
 ·cases e1; rw [hb] at e2; cases e2;refine ⟨by rw [List.length_map]; omega, fun y hy => ?_⟩;obtain ⟨i, _, rfl⟩ := List.mem_map.mp hy;exact ⟨_, rfl⟩
 ·unfold goodParts;rw [n1.is, n2.is, Zdi hb];have hall : (ns.map V.int).all (fun y => wIn y 0 255) = true := by
   rw [List.all_eq_true];intro y hy;obtain ⟨i, hi, rfl⟩ := List.mem_map.mp hy;have := hns i hi;simp [wIn, this.1, this.2]
  rw [hall];simp [wIn, h0, h1, l1, l2, isB]
end
section
variable {P : Program} {w : World} {K : PySem.W.Frag} {mg : Str -> Option Value} {base : Heap}
structure Zkr (K : PySem.W.Frag) (mg : Str -> Option Value) (W : Addr) (cs : List Addr) : Prop where
 way : mg "WayError" = some (.ref W)
 wc : Zn1 K W
 len : cs.length = 11
 m0 : ∀ c, cs[0]? = some c -> mg "NoLetter" = some (.ref c)
 m1 : ∀ c, cs[1]? = some c -> mg "NoPiece" = some (.ref c)
 m2 : ∀ c, cs[2]? = some c -> mg "NoWidth" = some (.ref c)
 m3 : ∀ c, cs[3]? = some c -> mg "TooWide" = some (.ref c)
 m4 : ∀ c, cs[4]? = some c -> mg "NoRule" = some (.ref c)
 m5 : ∀ c, cs[5]? = some c -> mg "NoTime" = some (.ref c)
 m6 : ∀ c, cs[6]? = some c -> mg "NoKey" = some (.ref c)
 m7 : ∀ c, cs[7]? = some c -> mg "NoText" = some (.ref c)
 m8 : ∀ c, cs[8]? = some c -> mg "NoRow" = some (.ref c)
 m9 : ∀ c, cs[9]? = some c -> mg "NoRoom" = some (.ref c)
 m10 : ∀ c, cs[10]? = some c -> mg "NoRoad" = some (.ref c)
def Zdl (P : Program) (w : World) (K : PySem.W.Frag) (mg : Str -> Option Value) (base : Heap) (kA : Nat) (W : Addr) (cs : List Addr) : Sp := fun vs H Q _ => ∃ f o fd E1, vs = [.ref f] /\ H f = some (.frz o HT) /\ o.data = .func fd /\ Asks P w K mg base kA f H (fun _ _ => False) E1 /\
 ∀ C H', E1 (.ref C) none H' -> ∃ wd, Kd K W cs C wd /\ ∀ G, Same H' G -> Q (.str wd) G
abbrev Zbz : Stmt := top 39
theorem Za9 : Zat ["_law_ask", "_law_refusal_here", "_law_kinds", "_law_words", "_law_found", "e"] ["_law_ask"] (defScope Zbz) := ⟨rfl, rfl, rfl, by decide +kernel, rfl, by decide +kernel, by decide +kernel⟩
theorem Zhe {f W : Addr} {cs : List Addr} {fd : FuncData} (F : Fun K "_law_refusal" "_law_refusal" Zbz f fd) (B : Bt mg) (B5 : Bt5 mg) (R : Zkr K mg W cs) : Zcc P w K mg base CX0 10 f fd ["_law_ask"] (Zdl P w K mg base 9 W cs) := by
 refine F.ok Za9 (fun vs H Q E h => ?_) (fun cdv A outer s H vs Q E hr h => ?_)
 ·obtain ⟨f, o, fd, E1, rfl, _⟩ := h; rfl
 ·obtain ⟨f, o, fd, E1, rfl, hf, hd, ask, hq⟩ := h;have gC_WayError := R.way;have W_WayError := R.wc;obtain ⟨CNoLetter, CNoPiece, CNoWidth, CTooWide, CNoRule, CNoTime, CNoKey, CNoText, CNoRow, CNoRoom, CNoRoad, rfl⟩ : ∃ a b c d e f g h i j k, cs = [a, b, c, d, e, f, g, h, i, j, k] := by
   have := R.len
   match cs, this with
   | [a, b, c, d, e, f, g, h, i, j, k], _ => exact ⟨a, b, c, d, e, f, g, h, i, j, k, rfl⟩
  have gC_NoLetter := R.m0 _ rfl;have gC_NoPiece := R.m1 _ rfl;have gC_NoWidth := R.m2 _ rfl;have gC_TooWide := R.m3 _ rfl;have gC_NoRule := R.m4 _ rfl;have gC_NoTime := R.m5 _ rfl;have gC_NoKey := R.m6 _ rfl;have gC_NoText := R.m7 _ rfl;have gC_NoRow := R.m8 _ rfl;have gC_NoRoom := R.m9 _ rfl;have gC_NoRoad := R.m10 _ rfl;refine ⟨_, (@Zaf _ _ _ _ _ (@Zay _ _ 1 _ _ _ _ (Za9).nd rfl (Or.inl rfl) (@Zdv _ _ _) (by rfl) (Or.inl rfl)) (@Zaf _ _ _ _ _ (Zid (k := 9) (i := 0) (j := 5) rfl rfl (hr.mono (by decide)) (Za9).nd rfl (Or.inl rfl) rfl rfl rfl gC_WayError W_WayError (fun _ => (@Zao _ _ _ (@Zay _ _ 1 _ _ _ _ (Za9).nd rfl (Or.inl rfl) (pv 5) (by rfl) (Or.inl rfl))))) (@Zaf _ _ _ _ _ (@Zay _ _ 2 _ _ _ _ (Za9).nd rfl (Or.inr rfl) (@Za4 _ _ _ _ (@Zaa _ _ _ _ _ (Zal (Za8 (K := K) rfl) rfl B.isinstance (by rfl) (@Zaa _ _ _ _ _ (pv 1) (@Zaa _ _ _ _ _ (Zbn (v := .ref CNoLetter) rfl gC_NoLetter rfl) Zad Zab) Zab)) (@Zaa _ _ _ _ _ (Zal (Za8 (K := K) rfl) rfl B.isinstance (by rfl) (@Zaa _ _ _ _ _ (pv 1) (@Zaa _ _ _ _ _ (Zbn (v := .ref CNoPiece) rfl gC_NoPiece rfl) Zad Zab) Zab)) (@Zaa _ _ _ _ _ (Zal (Za8 (K := K) rfl) rfl B.isinstance (by rfl) (@Zaa _ _ _ _ _ (pv 1) (@Zaa _ _ _ _ _ (Zbn (v := .ref CNoWidth) rfl gC_NoWidth rfl) Zad Zab) Zab)) Zad Zap) Zap) Zap)) (by rfl) (Or.inl rfl)) (@Zaf _ _ _ _ _ (@Zay _ _ 2 _ _ _ _ (Za9).nd rfl (Or.inr rfl) (@Zar _ _ _ _ _ _ _ _ Zc3 (pv 2) (@Za4 _ _ _ _ (@Zaa _ _ _ _ _ (Zal (Za8 (K := K) rfl) rfl B.isinstance (by rfl) (@Zaa _ _ _ _ _ (pv 1) (@Zaa _ _ _ _ _ (Zbn (v := .ref CTooWide) rfl gC_TooWide rfl) Zad Zab) Zab)) (@Zaa _ _ _ _ _ (Zal (Za8 (K := K) rfl) rfl B.isinstance (by rfl) (@Zaa _ _ _ _ _ (pv 1) (@Zaa _ _ _ _ _ (Zbn (v := .ref CNoRule) rfl gC_NoRule rfl) Zad Zab) Zab)) (@Zaa _ _ _ _ _ (Zal (Za8 (K := K) rfl) rfl B.isinstance (by rfl) (@Zaa _ _ _ _ _ (pv 1) (@Zaa _ _ _ _ _ (Zbn (v := .ref CNoTime) rfl gC_NoTime rfl) Zad Zab) Zab)) Zad Zap) Zap) Zap))) (by rfl) (Or.inl rfl)) (@Zaf _ _ _ _ _ (@Zay _ _ 2 _ _ _ _ (Za9).nd rfl (Or.inr rfl) (@Zar _ _ _ _ _ _ _ _ Zc3 (pv 2) (@Za4 _ _ _ _ (@Zaa _ _ _ _ _ (Zal (Za8 (K := K) rfl) rfl B.isinstance (by rfl) (@Zaa _ _ _ _ _ (pv 1) (@Zaa _ _ _ _ _ (Zbn (v := .ref CNoKey) rfl gC_NoKey rfl) Zad Zab) Zab)) (@Zaa _ _ _ _ _ (Zal (Za8 (K := K) rfl) rfl B.isinstance (by rfl) (@Zaa _ _ _ _ _ (pv 1) (@Zaa _ _ _ _ _ (Zbn (v := .ref CNoText) rfl gC_NoText rfl) Zad Zab) Zab)) (@Zaa _ _ _ _ _ (Zal (Za8 (K := K) rfl) rfl B.isinstance (by rfl) (@Zaa _ _ _ _ _ (pv 1) (@Zaa _ _ _ _ _ (Zbn (v := .ref CNoRow) rfl gC_NoRow rfl) Zad Zab) Zab)) Zad Zap) Zap) Zap))) (by rfl) (Or.inl rfl)) (@Zaf _ _ _ _ _ (@Zay _ _ 2 _ _ _ _ (Za9).nd rfl (Or.inr rfl) (@Zar _ _ _ _ _ _ _ _ Zc3 (pv 2) (@Za4 _ _ _ _ (@Zaa _ _ _ _ _ (Zal (Za8 (K := K) rfl) rfl B.isinstance (by rfl) (@Zaa _ _ _ _ _ (pv 1) (@Zaa _ _ _ _ _ (Zbn (v := .ref CNoRoom) rfl gC_NoRoom rfl) Zad Zab) Zab)) (@Zaa _ _ _ _ _ (Zal (Za8 (K := K) rfl) rfl B.isinstance (by rfl) (@Zaa _ _ _ _ _ (pv 1) (@Zaa _ _ _ _ _ (Zbn (v := .ref CNoRoad) rfl gC_NoRoad rfl) Zad Zab) Zab)) Zad Zap) Zap))) (by rfl) (Or.inl rfl)) (@Zaf _ _ _ _ _ (@Zay _ _ 3 _ _ _ _ (Za9).nd rfl (Or.inr rfl) (@Za4 _ _ _ _ (@Zaa _ _ _ _ _ (@Za1 _ _ _ _) (@Zaa _ _ _ _ _ (@Za1 _ _ _ _) (@Zaa _ _ _ _ _ (@Za1 _ _ _ _) (@Zaa _ _ _ _ _ (@Za1 _ _ _ _) (@Zaa _ _ _ _ _ (@Za1 _ _ _ _) (@Zaa _ _ _ _ _ (@Za1 _ _ _ _) (@Zaa _ _ _ _ _ (@Za1 _ _ _ _) (@Zaa _ _ _ _ _ (@Za1 _ _ _ _) (@Zaa _ _ _ _ _ (@Za1 _ _ _ _) (@Zaa _ _ _ _ _ (@Za1 _ _ _ _) (@Zaa _ _ _ _ _ (@Za1 _ _ _ _) Zad Zac) Zac) Zac) Zac) Zac) Zac) Zac) Zac) Zac) Zac) Zac)) (by rfl) (Or.inl rfl)) (@Zaf _ _ _ _ _ (Zej (i := 4) (N' := ["_law_k", "_law_words", "_law_kinds"]) (caps := [none, some 3, some 2]) (Zi4 (sc := defScope Zbz) (N := ["_law_ask", "_law_refusal_here", "_law_kinds", "_law_words", "_law_found", "e"]) rfl rfl (by decide +kernel)) rfl (Za9).nd rfl (Or.inl rfl) (Zea rfl B.range (@Zaa _ _ _ _ _ (@Zae _ _ _ _) Zad Zac)) (fun _ _ _ _ _ => (Zc1 (i := 0) (Zim (N := ["_law_k", "_law_words", "_law_kinds"]) rfl (by decide +kernel)) rfl (Or.inl rfl))) (fun _ _ _ _ _ => (Zif (Zc9 (@Zbg _ _ _ _ _ _ _ (Zaw (K := K) rfl) (pv 2) (pv 0) (fun _ _ => rfl))))) (fun _ _ _ _ _ => (@Zbg _ _ _ _ _ _ _ (Zaw (K := K) rfl) (pv 1) (pv 0) (fun _ _ => rfl))) rfl) (@Zaf _ _ _ _ _ (Zdr (PW.pt (Zic (Zb8 Zhc (Zal (Za2 (K := K) rfl) rfl B.len (by rfl) (@Zaa _ _ _ _ _ (pv 4) Zad Zab)) (@Zae _ _ _ _) (Zbm _)) (Zgt (Zda (Zc9 (Zal (Za8 (K := K) rfl) rfl B.isinstance (by rfl) (@Zaa _ _ _ _ _ (pv 1) (@Zaa _ _ _ _ _ (Zds (v := .ty "ValueError") rfl B5.ValueError (by rfl) rfl) Zad Zab) Zab))))))) (@Zao _ _ _ (@Za3 _ _ _ _ (@Za1 _ _ _ _))) Zbk) (@Zao _ _ _ (@Za3 _ _ _ _ (@Zbg _ _ _ _ _ _ _ (Zaw (K := K) rfl) (pv 4) (@Zae _ _ _ _) (fun _ _ => rfl))))))))))))), ?_⟩;refine Zan fun N hN => ?_
  walk_at "rd";refine hN _ _ ?_;clear hN N;refine Zan fun N hN => ?_
  walk_at "rd";refine ⟨o, HT, hf, fd, hd, E1, ask.mono (fun _ _ z => z.elim) (fun _ _ z => z), fun C H' hE => ?_⟩;obtain ⟨wd, ⟨i, kd, hw⟩, hQ⟩ := hq C H' hE;refine ⟨kd.w, fun e G he sG hGe => hN _ _ ?_⟩;clear hN N;have ty : ∀ G', Same G G' -> XTy K G' (.ref e) (.ref C) := fun G' s' => .exc (s' _ _ hGe) kd.e
  have ty0 := ty G (Same.refl G);have k0 := kd.k 0 _ rfl;have k1 := kd.k 1 _ rfl;have k2 := kd.k 2 _ rfl;have k3 := kd.k 3 _ rfl;have k4 := kd.k 4 _ rfl;have k5 := kd.k 5 _ rfl;have k6 := kd.k 6 _ rfl;have k7 := kd.k 7 _ rfl;have k8 := kd.k 8 _ rfl;have k9 := kd.k 9 _ rfl;have k10 := kd.k 10 _ rfl;refine Zan fun N hN => ?_
  walk_at "rd";refine ⟨_, ty0, rfl, _, k0, _, ty0, rfl, _, k1, _, ty0, rfl, _, k2, Zah (by simp), fun p1 G1 hp1 s1 g1 => hN _ _ ?_⟩;clear hN N;have ty1 := ty G1 s1;refine Zan fun N hN => ?_
  walk_at "rd";refine ⟨_, ty1, rfl, _, k3, _, ty1, rfl, _, k4, _, ty1, rfl, _, k5, Zah (by simp), fun p2 G2 hp2 s2 g2 => ?_⟩;refine ⟨_, s2 _ _ g1, _, g2, Zah (by simp), fun p3 G3 hp3 s3 g3 => hN _ _ ?_⟩;clear hN N;have ty3 := ty G3 ((s1.trans s2).trans s3);refine Zan fun N hN => ?_
  walk_at "rd";refine ⟨_, ty3, rfl, _, k6, _, ty3, rfl, _, k7, _, ty3, rfl, _, k8, Zah (by simp), fun p4 G4 hp4 s4 g4 => ?_⟩;refine ⟨_, s4 _ _ g3, _, g4, Zah (by simp), fun p5 G5 hp5 s5 g5 => hN _ _ ?_⟩;clear hN N;have ty5 := ty G5 ((((s1.trans s2).trans s3).trans s4).trans s5);refine Zan fun N hN => ?_
  walk_at "rd";refine ⟨_, ty5, rfl, _, k9, _, ty5, rfl, _, k10, Zah (by simp), fun p6 G6 hp6 s6 g6 => ?_⟩;refine ⟨_, s6 _ _ g5, _, g6, Zah (by simp), fun p7 G7 hp7 s7 g7 => hN _ _ ?_⟩;clear hN N;have sG7 := (((((s1.trans s2).trans s3).trans s4).trans s5).trans s6).trans s7;refine Zan fun N hN => ?_
  walk_at "rd";refine ⟨Zah (by simp), fun p8 G8 hp8 s8 g8 => hN _ _ ?_⟩;clear hN N;have g7' := s8 _ _ g7;have sG8 := sG7.trans s8;refine Zan fun N hN => ?_
  walk_at "rd";have g7k : G8 p7 = some (.lst ((List.range 11).map fun j => V.bl (decide (j = i)))) := g7';have g8k : G8 p8 = some (.lst (refWords.map V.str)) := g8;have hi : i < 11 := (List.getElem?_eq_some_iff.mp hw).1;refine ⟨by decide, by decide, ?_⟩;obtain ⟨Pv, ePv⟩ : ∃ Pv : Nat -> List V -> L2.St -> Hp -> Prop, Pv = fun n ys σ' H1 => H1 = G8 /\ ys = (if i < n then [V.str wd] else []) /\ ∃ v, σ' = [v, some (.ref p8), some (.ref p7)] := ⟨_, rfl⟩
  refine Zgi Pv (by rw [ePv]; exact ⟨rfl, by simp, _, rfl⟩) ?_ (Zah (by decide)) ?_ ?_ <;> rw [ePv]
  ·rintro n ys σ' H1 ⟨_, rfl, _⟩ _
   by_cases h : i < n
   ·rw [if_pos h]; simp; omega
   ·rw [if_neg h]; simp
  ·rintro n ys σ' H1 hn ⟨rfl, rfl, v, rfl⟩;rw [<- ePv];walk_at "rd";have e0 : (0 : Int) + (n : Int) = (n : Int) := by omega
   have hn' : n < 11 := hn;refine ⟨_, SqL.of g7k, V.bl (decide (n = i)), by rw [e0]; exact Zb5 (by rw [List.getElem?_map, List.getElem?_range hn']; rfl), _, rfl, ?_⟩
   by_cases h : n = i
   ·subst h;rw [decide_eq_true rfl, if_pos rfl];refine ⟨_, SqL.of g8k, V.str wd, by rw [e0]; exact Zb5 (by rw [List.getElem?_map, hw]; rfl), ?_⟩;rw [ePv];exact ⟨rfl, by rw [if_neg (Nat.lt_irrefl _), if_pos (Nat.lt_succ_self _)]; rfl, _, rfl⟩
   ·rw [decide_eq_false h, if_neg (by decide), ePv];refine ⟨rfl, ?_, _, rfl⟩
    by_cases h2 : i < n
    ·rw [if_pos h2, if_pos (Nat.lt_succ_of_lt h2)]
    ·rw [if_neg h2, if_neg (by omega)]
  ·rintro ys σ' H1 ⟨rfl, rfl, _⟩ p9 G9 hp9 s9 g9;refine hN _ _ ?_;rw [if_pos (show i < Int.toNat 11 from hi)] at g9;refine Zan fun N hN => ?_
   walk_at "rd";have ty9 := ty G9 (sG8.trans s9);refine ⟨_, .inl (SqL.of g9), rfl, ?_⟩;rw [if_neg (by simp)];refine ⟨_, ty9, rfl, _, kd.v, ?_⟩;rw [if_neg (by decide)];refine hN _ _ ?_;clear hN N;walk_at "rd";refine ⟨_, SqL.of g9, V.str wd, Zb5 (j := 0) rfl, hQ _ (sG.trans (sG8.trans s9))⟩
end
section
variable {P : Program} {w : World} {K : PySem.W.Frag} {mg : Str -> Option Value} {base : Heap}
def Keeps (H G : Hp) : Prop := ∀ b o, H b = some o -> (tyO o).isSome = true -> G b = some o
theorem Zet {H G : Hp} (s : Same H G) : Keeps H G := fun b o e _ => s b o e
theorem Keeps.ty {H G : Hp} {x : V} {t : String} (k : Keeps H G) (h : tyF H x = some t) : tyF G x = some t := by
 cases x with
 | ref a =>
  have h : (H a).bind tyO = some t := h;show (G a).bind tyO = some t;cases e : H a with
  | none => rw [e] at h; cases h
  | some o =>
   rw [e] at h;have h : tyO o = some t := h;rw [k a o e (by rw [h]; rfl)]; exact h
 | _ => exact h
theorem Keeps.bd {H G : Hp} {x : V} {t : String} (k : Keeps H G) (ty : tyF H x = some t) : isBd G x = isBd H x := by
 cases x with
 | ref a =>
  have h : (H a).bind tyO = some t := ty;cases e : H a with
  | none => rw [e] at h; cases h
  | some o =>
   rw [e] at h;have h : tyO o = some t := h;show (match G a with | some (.lst xs) => _ | _ => false) = (match H a with | some (.lst xs) => _ | _ => false);rw [k a o e (by rw [h]; rfl), e]
 | _ => rfl
theorem Keeps.plains {H G : Hp} {x : V} {t : String} (k : Keeps H G) (ty : tyF H x = some t) (h : Plains H x) : Plains G x := by
 intro a xs ex ea;subst ex;have ty' : (H a).bind tyO = some t := ty;cases e : H a with
 | none => rw [e] at ty'; cases ty'
 | some o =>
  rw [e] at ty';have ty' : tyO o = some t := ty';have := k a o e (by rw [ty']; rfl);rw [ea] at this; cases this;obtain ⟨h1, h2⟩ := h a xs rfl e;exact ⟨h1, fun y hy => (h2 y hy).imp fun n z => k.ty z⟩
theorem Keeps.parts {H G : Hp} {a b c d e : V} (k : Keeps H G) (h : Zba H a b c d e) : Zba G a b c d e := by
 obtain ⟨t, ht⟩ := h.b;exact ⟨h.n.imp fun _ z => k.ty z, h.s.imp fun _ z => k.ty z, h.sl, h.g.imp fun _ z => k.ty z, h.gl, ⟨t, k.ty ht⟩, k.plains ht h.bp, h.k.imp fun _ z => k.ty z⟩
theorem Keeps.good {H G : Hp} {a b c d e : V} (k : Keeps H G) (h : Zba H a b c d e) : goodParts G a b c d e = goodParts H a b c d e := by
 obtain ⟨t, ht⟩ := h.b;unfold goodParts; rw [k.bd ht]
def Zep (K : PySem.W.Frag) (T : Addr) : Sp := fun vs H Q _ => ∃ (a : Addr) (ns : List Int), vs = [.ref a] /\ SqL K H a (ns.map V.int) /\ ns.length <= 63 /\ H T = some (.tbl #[]) /\ ∀ H', Q (.bl true) H'
theorem Zpy {H : Hp} {T : Addr} {q : Str} (h : H T = some (.tbl #[])) : Tab H T q := ⟨#[], h, trivial, fun pos cv e => by cases e⟩
end
section
variable {P : Program} {w : World} {K : PySem.W.Frag} {mg : Str -> Option Value} {base : Heap}
theorem nfK {H G : Hp} (n : NF H G) : Keeps H G := fun b o e k => n b o e fun oc z => by subst z; cases k
theorem Keeps.room {H G : Hp} {at' bo mo : V} {t : String} (k : Keeps H G) (ty : tyF H bo = some t) : Zh7 G at' bo mo = Zh7 H at' bo mo := by
 cases at' <;> first | rfl | skip;cases bo <;> first | rfl | skip;cases mo <;> first | rfl | skip
 rename_i i a m
 have h : (H a).bind tyO = some t := ty;cases e : H a with
 | none => rw [e] at h; cases h
 | some o =>
  rw [e] at h;have h : tyO o = some t := h;show (match G a with | some (.lst xs) => Zcb i xs.length m | _ => false) = (match H a with | some (.lst xs) => Zcb i xs.length m | _ => false);rw [k a o e (by rw [h]; rfl), e]
theorem Keeps.goodP {H G : Hp} {a b c x d m e : V} (k : Keeps H G) (h : Zba H a b c d e) : Zak G a b c x d m e = Zak H a b c x d m e := by
 obtain ⟨t, ht⟩ := h.b;unfold Zak; rw [k.good h, k.room ht]
def Ka (a : Addr) (H G : Hp) : Prop := ∀ b o, H b = some o -> b ≠ a -> (∀ ps, o ≠ .tbl ps) -> G b = some o
theorem Ka.trans {a : Addr} {H G J : Hp} (x : Ka a H G) (y : Ka a G J) : Ka a H J := fun b o e n k => y b o (x b o e n k) n k
theorem Zh6 {a : Addr} {H G : Hp} (s : Same H G) : Ka a H G := fun b o e _ _ => s b o e
theorem Zjb {a : Addr} {H G : Hp} (s : But a H G) : Ka a H G := fun b o e n _ => s b o e n
theorem Zl2 {a T : Addr} {q : Str} {H G : Hp} (t : Tab H T q) (s : But T H G) : Ka a H G := fun b o e _ k => s b o e fun z => by
 obtain ⟨ps, h, _⟩ := t;subst z; rw [h] at e; cases e; exact k ps rfl
theorem Ka.lst {a p : Addr} {H G : Hp} {xs : List V} (k : Ka a H G) (h : H p = some (.lst xs)) (n : p ≠ a) : G p = some (.lst xs) := k _ _ h n fun _ z => by cases z
theorem Ka.tup {a p : Addr} {H G : Hp} {xs : List V} (k : Ka a H G) (h : H p = some (.tup xs)) (n : p ≠ a) : G p = some (.tup xs) := k _ _ h n fun _ z => by cases z
theorem Ka.st {a T : Addr} {q : Str} {H G : Hp} (st : StOk H a) (t : Tab H T q) (s : But T H G) : StOk G a := by
 obtain ⟨ps, h, _⟩ := t;rcases st with ⟨n, e⟩ | ⟨n, m, c, e⟩
 ·exact .inl ⟨n, s _ _ e fun z => by subst z; rw [h] at e; cases e⟩
 ·exact .inr ⟨n, m, c, s _ _ e fun z => by subst z; rw [h] at e; cases e⟩
theorem Ka.ty {a : Addr} {H G : Hp} {x : V} {t : String} (k : Ka a H G) (st : StOk H a) (st' : StOk G a) (h : tyF H x = some t) : tyF G x = some t := by
 cases x with
 | ref p =>
  by_cases hp : p = a
  ·subst hp; rw [st.ty] at h; cases h; exact st'.ty
  ·have h : (H p).bind tyO = some t := h;show (G p).bind tyO = some t;cases e : H p with
   | none => rw [e] at h; cases h
   | some o =>
    rw [e] at h;have h : tyO o = some t := h;rw [k p o e hp (fun ps z => by subst z; cases h)]; exact h
 | _ => exact h
def Zbw (C CN : Addr) : Sp := fun vs H Q E => ∃ nu se go at' bo mo ke, vs = [nu, se, go, at', bo, mo, ke] /\ Zba H nu se go bo ke /\ (∃ t, tyF H at' = some t) /\ (∃ t, tyF H mo = some t) /\
 (Zak H nu se go at' bo mo ke = true -> ∀ a b m xs y b' H', at' = .int a -> bo = .ref b -> mo = .bl m -> H b = some (.lst xs) -> H y = none -> H b' = none -> H' b' = some (.lst xs) -> PieceAt C H' y nu se go (.int a) (.ref b') (.bl m) ke -> Same H H' -> Q (.ref y) H') /\
 (Zak H nu se go at' bo mo ke = false -> ∀ H', Same H H' -> E (.ref CN) none H')
theorem Zig {C CN : Addr} {vs : List V} {H : Hp} {Q : VK} {E : XK} (h : Zbw C CN vs H Q E) {y dx : Addr} {G : Hp} (hy : H y = none) (hdx : H dx = none) (hn : dx ≠ y) (s : Same H G) (hG : G y = some (.ins C dx [])) : Zbl C CN (.ref y :: vs) G (fun v H2 => v = .non /\ Q (.ref y) H2) E := by
 obtain ⟨nu, se, go, at', bo, mo, ke, rfl, hp, h1, h2, q, qx⟩ := h;refine ⟨y, dx, nu, se, go, at', bo, mo, ke, rfl, hG, (Zet s).parts hp, h1.imp fun _ z => (Zet s).ty z, h2.imp fun _ z => (Zet s).ty z, fun hg a b m xs H' b' e0 e1 em e2 e3 e4 e5 e6 e7 => ⟨rfl, ?_⟩, fun hg H' s' => qx (by rw [<- (Zet s).goodP hp]; exact hg) H' (s.trans s')⟩;have hg' : Zak H nu se go at' bo mo ke = true := by rw [<- (Zet s).goodP hp]; exact hg
 obtain ⟨t, ht⟩ := hp.b;have hb : H b = some (.lst xs) := by
  subst e1;have ht : (H b).bind tyO = some t := ht;cases e : H b with
  | none => rw [e] at ht; cases ht
  | some o => rw [s b o e] at e2; exact e2
 exact q hg' a b m xs y b' H' e0 e1 em hb hy (s.free e3) e5 e6 fun d o e => e7 d o (s d o e) (Za0 e hy)
theorem Zpb {f C CN : Addr} {fd : FuncData} (G : Zcc P w K mg base (CXx P w) 6 f fd ["self", "number", "sender", "goal", "at", "body", "more", "keep"] (Zbl C CN)) (hm : mg "Piece" = some (.ref C)) (M : Mk K C f) (hb : Binds K fd ["self", "number", "sender", "goal", "at", "body", "more", "keep"] []) : CtX P w K mg base "Piece" 6 (Zbw C CN) :=
 ⟨f, C, fd, [], [], _, _, G, hm, M, hb, .nil, fun vs H Q E h y dx G' hy hdx hn s hG => by rw [List.append_nil]; exact Zig h hy hdx hn s hG⟩
abbrev lamQ : Str := (("_law_made" : Str) ++ (".<locals>." : Str)) ++ ("<lambda>" : Str)
def Zng : Arguments := { posonlyargs := [], args := [], vararg := none, kwonlyargs := [], kw_defaults := [], kwarg := none, defaults := [] }
def Zkm (s : Stmt) : Arguments := match defBody s with
 | [.Return (some (.Lambda a _ _ _)) _] => a
 | _ => Zng
def Zis (s : Stmt) : Expr := match defBody s with
 | [.Return (some (.Lambda _ b _ _)) _] => b
 | _ => .Constant .none 0 ⟨0, 0, 0, 0⟩
def lamScope (s : Stmt) : Scope := match defBody s with
 | [.Return (some (.Lambda _ _ c _)) _] => c
 | _ => { kind := .function, names := [], isGenerator := false, isCoroutine := false }
abbrev s_made : Stmt := top 43
theorem Zk7 : Zat ["_law_key_here", "_law_at", "_law_body_here", "_law_more", "_law_keep"] ["_law_key_here", "_law_at", "_law_body_here", "_law_more", "_law_keep"] (defScope s_made) := ⟨rfl, rfl, rfl, by decide +kernel, rfl, by decide +kernel, by decide +kernel⟩
abbrev Zlj : List Str := ["_law_at", "_law_body_here", "_law_more", "_law_keep", "_law_key_here"]
abbrev Zni : List (Option Nat) := [some 1, some 2, some 3, some 4, some 0]
abbrev Zeo (T : Addr) : Sp := Zgq T lamQ (Zkm s_made) (Zis s_made) (lamScope s_made) Zlj Zni ["_law_key_here", "_law_at", "_law_body_here", "_law_more", "_law_keep"] ["_law_key_here", "_law_at", "_law_body_here", "_law_more", "_law_keep"]
theorem Zgy : Zi5 ["_law_key_here", "_law_at", "_law_body_here", "_law_more", "_law_keep"] Zlj (lamScope s_made) Zni (defScope s_made) = true := by decide +kernel
theorem Zlg {f c T : Addr} {fd : FuncData} (F : Zly K "_law_made" "_law_made" s_made f fd (.ref c)) (LC : Ze3 mg base c T) : Zcc P w K mg base CX0 1 f fd ["_law_key_here", "_law_at", "_law_body_here", "_law_more", "_law_keep"] (Zeo T) := by
 obtain ⟨h1, h2, h3⟩ := Zir Zgy;exact Znj F Zk7 rfl LC rfl h1 h2 (fun x hx => (show ∀ y ∈ (lamScope s_made).names, y.2 = NameKind.free -> (defScope s_made).names.lookup y.1 = some .cell from by decide +kernel) _ hx rfl) fun _ => rfl
abbrev MClos (H : Hp) (f : Addr) (σ : L2.St) : Prop := Clos lamQ (Zkm s_made) (Zis s_made) (lamScope s_made) Zlj H f σ
theorem MClos.ka {a : Addr} {H G : Hp} {f : Addr} {σ : L2.St} (c : MClos H f σ) (k : Ka a H G) (st : StOk H a) : MClos G f σ := c.of fun b oc e => k b _ e (fun z => by subst z; obtain ⟨xs, h⟩ := st.lst; rw [h] at e; cases e) fun ps z => by cases z
theorem Zff {CP CN : Addr} {H : Hp} {f : Addr} {at' bo mo ke : V} {kt : Addr} {x0 x1 x2 : V} {Q : VK} {E : XK} (F_Piece : CtX P w K mg base "Piece" 6 (Zbw CP CN)) (c : MClos H f [some at', some bo, some mo, some ke, some (.ref kt)]) (hk : H kt = some (.tup [x0, x1, x2])) (hp : Zba H x0 x1 x2 bo ke) (h1 : ∃ t, tyF H at' = some t) (h2 : ∃ t, tyF H mo = some t)
  (hQ : Zak H x0 x1 x2 at' bo mo ke = true -> ∀ a b m xs y b' H', at' = .int a -> bo = .ref b -> mo = .bl m -> H b = some (.lst xs) -> H' b' = some (.lst xs) -> PieceAt CP H' y x0 x1 x2 (.int a) (.ref b') (.bl m) ke -> Same H H' -> Q (.ref y) H') (hE : Zak H x0 x1 x2 at' bo mo ke = false -> ∀ H', Same H H' -> E (.ref CN) none H') :
  Asks P w K mg base 9 f H Q E := by
 obtain ⟨g1, g2, g3⟩ := Zir Zgy;refine c.asks (k := 8) g1 (fun _ _ _ _ => rfl) (fun f c' cl A outer s H E hr => (Zna F_Piece (hr.mono (by decide)) rfl (Znb Zhm (fun _ _ h => h)) (Zaa (hs := Za5) (Zbg (Zch (K := K) rfl) (pv 4) Zae (fun _ _ => rfl)) (Zaa (hs := Za5) (Zbg (Zch (K := K) rfl) (pv 4) Zae (fun _ _ => rfl)) (Zaa (hs := Za5) (Zbg (Zch (K := K) rfl) (pv 4) Zae (fun _ _ => rfl)) (Zaa (hs := Zab) (pv 0) (Zaa (hs := Zab) (pv 1) (Zaa (hs := Zab) (pv 2) (Zaa (hs := Zab) (pv 3) Zad))))))))) fun G nf => ?_
 walk_at "rd";have hk' := nf.tup hk;have kp := nfK nf;refine ⟨_, SqT.of hk', _, at0, _, SqT.of hk', _, Zb5 (j := 1) rfl, _, SqT.of hk', _, Zb5 (j := 2) rfl, x0, x1, x2, at', bo, mo, ke, rfl, kp.parts hp, h1.imp fun _ z => kp.ty z, h2.imp fun _ z => kp.ty z, fun hg a b m xs y b' H' e0 e1 em e2 e3 e4 e5 e6 e7 H'' s1 s2 => ?_, fun hg H' s1 H'' s2 s3 => hE (by rw [<- kp.goodP hp]; exact hg) H'' (s3 s1)⟩;have hb : H b = some (.lst xs) := by
  obtain ⟨t, ht⟩ := hp.b;subst e1;have ht : (H b).bind tyO = some t := ht;cases e : H b with
  | none => rw [e] at ht; cases ht
  | some o =>
   rw [e] at ht;have ht : tyO o = some t := ht;rw [kp b o e (by rw [ht]; rfl)] at e2; exact e2
 exact hQ (by rw [<- kp.goodP hp]; exact hg) a b m xs y b' H'' e0 e1 em hb (s1 _ _ e5) (e6.same fun o z => s1 _ _ z) (s2 e7)
structure Kab (a bl : Addr) (H G : Hp) : Prop where
 k : ∀ b o, H b = some o -> b ≠ a -> b ≠ bl -> (∀ ps, o ≠ .tbl ps) -> G b = some o
 sa : StOk H a
 sa' : StOk G a
 sb : ∃ xs, H bl = some (.lst xs)
 sb' : ∃ xs, G bl = some (.lst xs)
theorem Kab.trans {a bl : Addr} {H G J : Hp} (x : Kab a bl H G) (y : Kab a bl G J) : Kab a bl H J := ⟨fun b o e n m k => y.k b o (x.k b o e n m k) n m k, x.sa, y.sa', x.sb, y.sb'⟩
theorem Kab.ofBut {a bl : Addr} {H G : Hp} {xs : List V} (s : But a H G) (sa : StOk H a) (sa' : StOk G a) (n : bl ≠ a) (sb : H bl = some (.lst xs)) : Kab a bl H G := ⟨fun b o e n _ _ => s b o e n, sa, sa', ⟨_, sb⟩, ⟨_, s _ _ sb n⟩⟩
theorem Kab.ofTab {a bl T : Addr} {q : Str} {H G : Hp} {xs : List V} (t : Tab H T q) (s : But T H G) (sa : StOk H a) (sb : H bl = some (.lst xs)) : Kab a bl H G := ⟨fun b o e _ _ k => Zl2 (a := a) t s b o e (by assumption) k, sa, Ka.st sa t s, ⟨_, sb⟩, ⟨_, s _ _ sb fun z => by obtain ⟨ps, h, _⟩ := t; subst z; rw [h] at sb; cases sb⟩⟩
theorem StOk.butl {a l : Addr} {H G : Hp} (s : But l H G) (n : l ≠ a) (sa : StOk H a) : StOk G a := by
 rcases sa with ⟨m, e⟩ | ⟨m, m2, c, e⟩
 ·exact .inl ⟨m, s _ _ e (Ne.symm n)⟩
 ·exact .inr ⟨m, m2, c, s _ _ e (Ne.symm n)⟩
theorem Kab.ofApp {a bl : Addr} {H G : Hp} {xs ys : List V} (s : But bl H G) (sa : StOk H a) (n : bl ≠ a) (sb : H bl = some (.lst xs)) (sb' : G bl = some (.lst ys)) : Kab a bl H G := ⟨fun b o e _ m _ => s b o e m, sa, StOk.butl s n sa, ⟨_, sb⟩, ⟨_, sb'⟩⟩
theorem Kab.lst {a bl p : Addr} {H G : Hp} {xs : List V} (k : Kab a bl H G) (h : H p = some (.lst xs)) (n : p ≠ a) (m : p ≠ bl) : G p = some (.lst xs) := k.k _ _ h n m fun _ z => by cases z
theorem Kab.tup {a bl p : Addr} {H G : Hp} {xs : List V} (k : Kab a bl H G) (h : H p = some (.tup xs)) : G p = some (.tup xs) := k.k _ _ h (fun z => by subst z; obtain ⟨ys, e⟩ := k.sa.lst; rw [h] at e; cases e) (fun z => by subst z; obtain ⟨ys, e⟩ := k.sb; rw [h] at e; cases e) fun _ z => by cases z
theorem Kab.clos {a bl : Addr} {H G : Hp} {f : Addr} {σ : L2.St} (c : MClos H f σ) (k : Kab a bl H G) : MClos G f σ := c.of fun b oc e => k.k b _ e (fun z => by subst z; obtain ⟨xs, h⟩ := k.sa.lst; rw [h] at e; cases e) (fun z => by subst z; obtain ⟨xs, h⟩ := k.sb; rw [h] at e; cases e) fun ps z => by cases z
theorem Kab.ty {a bl : Addr} {H G : Hp} {x : V} {t : String} (k : Kab a bl H G) (h : tyF H x = some t) : tyF G x = some t := by
 cases x with
 | ref p =>
  by_cases hp : p = a
  ·subst hp; rw [k.sa.ty] at h; cases h; exact k.sa'.ty
  ·by_cases hq : p = bl
   ·subst hq;obtain ⟨xs, e⟩ := k.sb;obtain ⟨ys, e'⟩ := k.sb';rw [Zb7 e] at h; cases h; exact Zb7 e'
   ·have h : (H p).bind tyO = some t := h;show (G p).bind tyO = some t;cases e : H p with
    | none => rw [e] at h; cases h
    | some o =>
     rw [e] at h;have h : tyO o = some t := h;rw [k.k p o e hp hq (fun ps z => by subst z; cases h)]; exact h
 | _ => exact h
theorem Kab.bd {a bl : Addr} {H G : Hp} {x : V} {t : String} (k : Kab a bl H G) (ne : ∀ p, x = .ref p -> p ≠ a /\ p ≠ bl) (ty : tyF H x = some t) : isBd G x = isBd H x := by
 cases x with
 | ref p =>
  have h : (H p).bind tyO = some t := ty;cases e : H p with
  | none => rw [e] at h; cases h
  | some o =>
   rw [e] at h;have h : tyO o = some t := h;show (match G p with | some (.lst xs) => _ | _ => false) = (match H p with | some (.lst xs) => _ | _ => false);rw [k.k p o e (ne p rfl).1 (ne p rfl).2 (fun ps z => by subst z; cases h), e]
 | _ => rfl
theorem Kab.plains {a bl : Addr} {H G : Hp} {x : V} {t : String} (k : Kab a bl H G) (ne : ∀ p, x = .ref p -> p ≠ a /\ p ≠ bl) (ty : tyF H x = some t) (h : Plains H x) : Plains G x := by
 intro p xs ex ea;subst ex;have ty' : (H p).bind tyO = some t := ty;cases e : H p with
 | none => rw [e] at ty'; cases ty'
 | some o =>
  rw [e] at ty';have ty' : tyO o = some t := ty';have := k.k p o e (ne p rfl).1 (ne p rfl).2 (fun ps z => by subst z; cases ty');rw [ea] at this; cases this;obtain ⟨h1, h2⟩ := h p xs rfl e;exact ⟨h1, fun y hy => (h2 y hy).imp fun n z => k.ty z⟩
def Zct (P : Program) (w : World) (K : PySem.W.Frag) (mg : Str -> Option Value) (base : Heap) (CN : Addr) (H : Hp) (f : Addr) : Prop := (∃ o fd, H f = some (.frz o HT) /\ o.data = .func fd) /\ ∀ H1, Same H H1 -> Asks P w K mg base 9 f H1 (fun _ _ => False) (fun c _ H' => c = .ref CN /\ Same H1 H')
theorem Zfe {CP CN : Addr} {H : Hp} {f : Addr} {at' bo mo ke : V} {kt : Addr} {x0 x1 x2 : V} (F_Piece : CtX P w K mg base "Piece" 6 (Zbw CP CN)) (c : MClos H f [some at', some bo, some mo, some ke, some (.ref kt)]) (hk : H kt = some (.tup [x0, x1, x2])) (hp : Zba H x0 x1 x2 bo ke) (h1 : ∃ t, tyF H at' = some t) (h2 : ∃ t, tyF H mo = some t)
  (hg : Zak H x0 x1 x2 at' bo mo ke = false) : Zct P w K mg base CN H f := ⟨c.fn, fun H1 s => Zff F_Piece (c.same s) (s _ _ hk) ((Zet s).parts hp) (h1.imp fun _ z => (Zet s).ty z) (h2.imp fun _ z => (Zet s).ty z) (fun z => by rw [(Zet s).goodP hp, hg] at z; cases z) fun _ H' s' => ⟨rfl, s'⟩⟩
theorem Zeu {H : Hp} {a : Int} {b : Addr} {m : Bool} {xs : List V} (h : H b = some (.lst xs)) : Zh7 H (.int a) (.ref b) (.bl m) = Zcb a xs.length m := by
 show (match H b with | some (.lst xs) => Zcb a xs.length m | _ => false) = _;rw [h]
end
section
variable {P : Program} {w : World} {K : PySem.W.Frag} {mg : Str -> Option Value} {base : Heap}
theorem Kab.odd {a bl T : Addr} {q : Str} {H G : Hp} {xs : List V} (b : But a H G) (sa : StOk H a) (sa' : StOk G a) (n : bl ≠ a) (hb : H bl = some (.lst xs)) (tb : Tab H T q) : Kab a bl H G /\ Tab G T q /\ G bl = some (.lst xs) := by
 obtain ⟨ys, e⟩ := sa.lst;exact ⟨Kab.ofBut b sa sa' n hb, tb.but b e, b _ _ hb n⟩
theorem Zcu {T l : Addr} {q : Str} {H G : Hp} {xs : List V} (tb : Tab H T q) (b : But T H G) (hb : H l = some (.lst xs)) : G l = some (.lst xs) := b _ _ hb fun z => by obtain ⟨ps, h, _⟩ := tb; subst z; rw [h] at hb; cases hb
theorem Kab.put {a bl T f : Addr} {H G J : Hp} {xs ys : List V} {σ : L2.St} (tb : Tab H T lamQ) (bT : But T H G) (sa : StOk H a) (n : bl ≠ a) (hb : H bl = some (.lst xs)) (bA : But bl G J) (hJ : J bl = some (.lst ys)) (c : MClos G f σ) (tG : Tab G T lamQ) : Kab a bl H J /\ Tab J T lamQ /\ MClos J f σ := by
 have hG := Zcu tb bT hb;have k1 : Kab a bl H G := Kab.ofTab tb bT sa hb;have k2 : Kab a bl G J := Kab.ofApp bA k1.sa' n hG hJ;exact ⟨k1.trans k2, tG.but bA hG, k2.clos c⟩
theorem Zkq {H : Hp} {x0 x1 x2 at' bo mo ke : V} (h : (wIn x0 0 65535 && (isNm x1 && isNm x2)) = false) : Zak H x0 x1 x2 at' bo mo ke = false := by
 unfold Zak goodParts;cases h0 : wIn x0 0 65535
 ·rfl
 ·cases h1 : isNm x1
  ·rfl
  ·cases h2 : isNm x2
   ·rfl
   ·rw [h0, h1, h2] at h; cases h
theorem Znv {H : Hp} {x0 x1 x2 at' mo ke : V} {b : Addr} {xs : List V} (hb : H b = some (.lst xs)) (h : badAt at' xs.length) : Zak H x0 x1 x2 at' (.ref b) mo ke = false := by
 unfold Zak;rcases h with h | ⟨i, rfl, h⟩
 ·rw [h]; simp
 ·cases mo with
  | bl m =>
   rw [Zeu hb];have : Zcb i xs.length m = false := by
    unfold Zcb;cases m <;> simp <;> omega
   rw [this]; simp
  | _ => simp [isB]
theorem Zlt {H : Hp} {x0 x1 x2 at' bo mo ke : V} (h : isB ke = false) : Zak H x0 x1 x2 at' bo mo ke = false := by
 unfold Zak goodParts; rw [h]; simp
theorem Zls {H : Hp} {x0 x1 x2 at' bo mo ke : V} (h : isB mo = false) : Zak H x0 x1 x2 at' bo mo ke = false := by
 unfold Zak; rw [h]; simp
theorem Zlu {H : Hp} {x0 x1 x2 at' bo mo ke : V} (h : isBd H bo = false) : Zak H x0 x1 x2 at' bo mo ke = false := by
 unfold Zak goodParts; rw [h]; simp
theorem Zi9 {H : Hp} {x0 x1 x2 ke : V} {i : Int} {b : Addr} {m : Bool} {xs : List V} (hb : H b = some (.lst xs)) (h : Zcb i xs.length m = false) : Zak H x0 x1 x2 (.int i) (.ref b) (.bl m) ke = false := by
 unfold Zak; rw [Zeu hb, h]; simp
def Kt (H G : Hp) : Prop := ∀ b o, H b = some o -> (∀ ps, o ≠ .tbl ps) -> G b = some o
theorem Kt.lst {p : Addr} {H G : Hp} {xs : List V} (k : Kt H G) (h : H p = some (.lst xs)) : G p = some (.lst xs) := k _ _ h fun _ z => by cases z
theorem Kt.tup {p : Addr} {H G : Hp} {xs : List V} (k : Kt H G) (h : H p = some (.tup xs)) : G p = some (.tup xs) := k _ _ h fun _ z => by cases z
theorem Kt.of {T : Addr} {q : Str} {H G J : Hp} (t : Tab H T q) (b : But T H G) (s : Same G J) : Kt H J := fun p o e k => s _ _ (b _ _ e fun z => by obtain ⟨ps, h, _⟩ := t; subst z; rw [h] at e; cases e; exact k ps rfl)
theorem Zd1 {CP CN T kt b : Addr} {H : Hp} {i nu : Int} {z1 z2 : Str} {m ke : Bool} {ns : List Int} {Q : VK} (F_Piece : CtX P w K mg base "Piece" 6 (Zbw CP CN)) (tb : Tab H T lamQ) (hk : H kt = some (.tup [.int nu, .str z1, .str z2]))
  (hb : H b = some (.lst (ns.map V.int))) (h0 : 0 <= nu) (h1 : nu <= 65535) (n1 : NmOk z1) (n2 : NmOk z2) (l1 : 1 <= ns.length) (l2 : ns.length <= 4000) (hns : ∀ x ∈ ns, 0 <= x /\ x <= 255) (hi : Zg0 (.int i) = true) (hr : Zcb i ns.length m = true)
  (q : ∀ G, Kt H G -> Tab G T lamQ -> Q (.int (i + ns.length)) G) :
  Zeo T [.ref kt, .int i, .ref b, .bl m, .bl ke] H (fun x H1 => ∃ f, x = .ref f /\ ∃ o, H1 f = some (.frz o HT) /\ ∃ fd, o.data = .func fd /\ Asks P w K mg base 9 f H1 (fun x H1 => Zpx CP "end" H1 x /\ Zb6 CP [x] H1 Q E0) E0) E0 := by
 refine ⟨rfl, tb, fun f G _ bG tG c => ?_⟩;obtain ⟨o, fd, e1, e2⟩ := c.fn;have k0 : Kt H G := Kt.of tb bG (Same.refl _);have hb' := k0.lst hb;obtain ⟨hp, hg⟩ := Zdt (k := ke) h0 h1 n1 n2 hb' l1 l2 hns;have good : Zak G (.int nu) (.str z1) (.str z2) (.int i) (.ref b) (.bl m) (.bl ke) = true := by
  unfold Zak; rw [hg, hi, Zeu hb', List.length_map, hr]; rfl
 refine ⟨f, rfl, o, e1, fd, e2, Zff F_Piece c (k0.tup hk) hp ⟨_, rfl⟩ ⟨_, rfl⟩ (fun _ a b1 m1 xs y b' H' ea eb em ex ey hL s => ?_) fun z => by rw [good] at z; cases z⟩;cases ea; cases eb; cases em;rw [hb'] at ex; cases ex;obtain ⟨dx, fs, e3, _, _, _, _, _, _, _, _, e4, _⟩ := hL.ex;refine ⟨⟨y, dx, fs, rfl, e3, e4⟩, y, _, _, _, i, b', _, _, _, rfl, hL, ey, ?_⟩;rw [List.length_map];exact q _ (Kt.of tb bG s) (tG.same s)
abbrev Zeg : Stmt := top 44
theorem Zck : Zat ["_law_script", "_law_cell", "_law_state", "_law_key_here", "_law_body_here", "_law_at", "_law_more", "_law_keep", "_law_odd", "_law_short", "_law_bad"] ["_law_script"] (defScope Zeg) := ⟨rfl, rfl, rfl, by decide +kernel, rfl, by decide +kernel, by decide +kernel⟩
theorem Zne {f T CP CN CW : Addr} {cs : List Addr} {fd : FuncData} (F : Fun K "law" "law" Zeg f fd) (B : Bt mg) (KN : Kd K CW cs CN "piece") (L : Zn2 K CP) (F_digit : FnB P w K mg base "_law_digit" 1 ["_law_state", "_law_base"] [] Zbp) (F_key : FnB P w K mg base "_law_key" 3 ["_law_state"] [] Zh4)
  (F_body : FnB P w K mg base "_law_body" 2 ["_law_state", "_law_amount_here"] [] Zfz) (F_odd_key : FnB P w K mg base "_law_odd_key" 2 ["_law_state", "_law_key_here"] [] Zdm) (F_odd_at : FnB P w K mg base "_law_odd_at" 2 ["_law_state", "_law_body_here"] [] Zd5)
  (F_odd_body : FnB P w K mg base "_law_odd_body" 2 ["_law_state", "_law_body_here"] [] Zcv) (F_made : FnB P w K mg base "_law_made" 1 ["_law_key_here", "_law_at", "_law_body_here", "_law_more", "_law_keep"] [] (Zeo T))
  (F_refusal : FnB P w K mg base "_law_refusal" 10 ["_law_ask"] [] (Zdl P w K mg base 9 CW cs))
  (F_Piece : CtX P w K mg base "Piece" 6 (Zbw CP CN)) (F_Piece_end : MtB P w K mg base CP "end" 1 ["self"] [] (Zb6 CP)) : Zcc P w K mg base CX0 11 f fd ["_law_script"] (Zep K T) := by
 refine F.ok Zck (fun vs H Q E h => ?_) (fun cdv A outer s H vs Q E hr h => ?_)
 ·obtain ⟨a, ns, rfl, _⟩ := h; rfl
 ·obtain ⟨sa, sns, rfl, hS, hlen, hT, q⟩ := h;refine ⟨_, (Zaf (Zkf PassesOwn.never rfl (Zev (K := K) rfl (Zar Zc3 (Za4 (Zaa (hs := Zac) Zae Zad)) (Zdb (Zc7 (K := K) rfl) (pv 0) Zd9 (Zd8 Zae)))) (Zc1 (i := 1) (Zck).nd rfl (Or.inl rfl)) (Zaf (Zay (i := 2) (Zck).nd rfl (Or.inl rfl) (Za4 (Zaa (hs := Zab) (pv 1) Zad))) (Zaf (Zay (i := 3) (Zck).nd rfl (Or.inl rfl) (Zag F_key (hr.mono (by decide)) rfl (Zaa (hs := Zab) (pv 2) Zad))) (Zaf (Zay (i := 4) (Zck).nd rfl (Or.inl rfl) (Zag F_body (hr.mono (by decide)) rfl (Zaa (hs := Zab) (pv 2) (Zaa (hs := Zbf) (Zar Zde Zae (Zar Zbh Zae (Zag F_digit (hr.mono (by decide)) rfl (Zaa (hs := Zab) (pv 2) (Zaa (hs := Zac) Zae Zad))))) Zad)))) (Zaf (Zay (i := 5) (Zck).nd rfl (Or.inl rfl) (Zar Zde Zae (Zag F_digit (hr.mono (by decide)) rfl (Zaa (hs := Zab) (pv 2) (Zaa (hs := Zac) Zae Zad))))) (Zaf (Zay (i := 6) (Zck).nd rfl (Or.inl rfl) (Zc2 Zij (Zag F_digit (hr.mono (by decide)) rfl (Zaa (hs := Zab) (pv 2) (Zaa (hs := Zac) Zae Zad))) Zae (Zbm _))) (Zaf (Zay (i := 7) (Zck).nd rfl (Or.inl rfl) (Zc2 Zij (Zag F_digit (hr.mono (by decide)) rfl (Zaa (hs := Zab) (pv 2) (Zaa (hs := Zac) Zae Zad))) Zae (Zbm _))) (Zaf (Zay (i := 8) (Zck).nd rfl (Or.inl rfl) (Zbg (Zaw (K := K) rfl) (Za4 (Zaa (hs := Zac) Zae (Zaa (hs := Zac) Zae (Zaa (hs := Zac) Zdv (Zaa (hs := Zac) Za1 (Zaa (hs := Zac) Za1 (Zaa (hs := Zd4) (Za4 Zad) Zad))))))) (Zag F_digit (hr.mono (by decide)) rfl (Zaa (hs := Zab) (pv 2) (Zaa (hs := Zac) Zae Zad))) (fun _ _ => rfl))) (Zaf (Zay (i := 9) (Zck).nd rfl (Or.inl rfl) (Zdb (Zc7 (K := K) rfl) (pv 4) Zd9 (Zd8 (Zar Zeb (Zar Zeb (Zal (Za2 (K := K) rfl) rfl B.len (by rfl) (Zaa (hs := Zab) (pv 4) Zad)) Zae) (Zag F_digit (hr.mono (by decide)) rfl (Zaa (hs := Zab) (pv 2) (Zaa (hs := Zac) Zae Zad))))))) (Zaf (Zay (i := 10) (Zck).nd rfl (Or.inl rfl) (Za4 (Zaa (hs := Zap) (Zag F_made (hr.mono (by decide)) rfl (Zaa (hs := Zap) (Zag F_odd_key (hr.mono (by decide)) rfl (Zaa (hs := Zab) (pv 2) (Zaa (hs := Zab) (pv 3) Zad))) (Zaa (hs := Zab) (pv 5) (Zaa (hs := Zab) (pv 4) (Zaa (hs := Zab) (pv 6) (Zaa (hs := Zab) (pv 7) Zad)))))) (Zaa (hs := Zap) (Zag F_made (hr.mono (by decide)) rfl (Zaa (hs := Zab) (pv 3) (Zaa (hs := Zab) (pv 5) (Zaa (hs := Zab) (pv 4) (Zaa (hs := Zab) (pv 8) (Zaa (hs := Zab) (pv 7) Zad)))))) Zad)))) (Zaf (Zcl (Zdw (K := K) rfl PySem.F.plainAttrs_list PySem.F.slot_list_append PySem.F.type_list_append Zbv (pv 10) (Zaa (hs := Zap) (Zag F_made (hr.mono (by decide)) rfl (Zaa (hs := Zab) (pv 3) (Zaa (hs := Zap) (Zag F_odd_at (hr.mono (by decide)) rfl (Zaa (hs := Zab) (pv 2) (Zaa (hs := Zab) (pv 4) Zad))) (Zaa (hs := Zab) (pv 4) (Zaa (hs := Zab) (pv 6) (Zaa (hs := Zab) (pv 7) Zad)))))) Zad))) (Zaf (Zcl (Zdw (K := K) rfl PySem.F.plainAttrs_list PySem.F.slot_list_append PySem.F.type_list_append Zbv (pv 10) (Zaa (hs := Zap) (Zag F_made (hr.mono (by decide)) rfl (Zaa (hs := Zab) (pv 3) (Zaa (hs := Zab) (pv 5) (Zaa (hs := Zap) (Zag F_odd_body (hr.mono (by decide)) rfl (Zaa (hs := Zab) (pv 2) (Zaa (hs := Zab) (pv 4) Zad))) (Zaa (hs := Zab) (pv 6) (Zaa (hs := Zab) (pv 7) Zad)))))) Zad))) (Zaf (Zcl (Zdw (K := K) rfl PySem.F.plainAttrs_list PySem.F.slot_list_append PySem.F.type_list_append Zbv (pv 10) (Zaa (hs := Zap) (Zag F_made (hr.mono (by decide)) rfl (Zaa (hs := Zab) (pv 3) (Zaa (hs := Zab) (pv 5) (Zaa (hs := Zab) (pv 4) (Zaa (hs := Zab) (pv 6) (Zaa (hs := Zab) (pv 8) Zad)))))) Zad))) (Zaf (Zcl (Zdw (K := K) rfl PySem.F.plainAttrs_list PySem.F.slot_list_append PySem.F.type_list_append Zbv (pv 10) (Zaa (hs := Zap) (Zag F_made (hr.mono (by decide)) rfl (Zaa (hs := Zab) (pv 3) (Zaa (hs := Zab) (pv 5) (Zaa (hs := Zab) (pv 9) (Zaa (hs := Zac) Zci (Zaa (hs := Zab) (pv 7) Zad)))))) Zad))) (Zaf (Zcl (Zdw (K := K) rfl PySem.F.plainAttrs_list PySem.F.slot_list_append PySem.F.type_list_append Zbv (pv 10) (Zaa (hs := Zap) (Zag F_made (hr.mono (by decide)) rfl (Zaa (hs := Zab) (pv 3) (Zaa (hs := Zbf) (Zar Zeb Zae (Zal (Za2 (K := K) rfl) rfl B.len (by rfl) (Zaa (hs := Zab) (pv 4) Zad))) (Zaa (hs := Zab) (pv 4) (Zaa (hs := Zac) Zci (Zaa (hs := Zab) (pv 7) Zad)))))) Zad))) (Zaf (Zcl (Zdw (K := K) rfl PySem.F.plainAttrs_list PySem.F.slot_list_append PySem.F.type_list_append Zbv (pv 10) (Zaa (hs := Zap) (Zag F_made (hr.mono (by decide)) rfl (Zaa (hs := Zap) (Zag F_odd_key (hr.mono (by decide)) rfl (Zaa (hs := Zab) (pv 2) (Zaa (hs := Zab) (pv 3) Zad))) (Zaa (hs := Zap) (Zag F_odd_at (hr.mono (by decide)) rfl (Zaa (hs := Zab) (pv 2) (Zaa (hs := Zab) (pv 4) Zad))) (Zaa (hs := Zac) Zdv (Zaa (hs := Zab) (pv 8) (Zaa (hs := Zab) (pv 8) Zad)))))) Zad))) (Zaf (Zdr (Zb8 (Zjp (K := K) (Room.units hr) rfl) (Zf6 (N' := ["_law_ask"]) (caps := [none]) (Zi4 (sc := defScope Zeg) (N := ["_law_script", "_law_cell", "_law_state", "_law_key_here", "_law_body_here", "_law_at", "_law_more", "_law_keep", "_law_odd", "_law_short", "_law_bad"]) rfl rfl (by decide +kernel)) rfl (Zev (K := K) rfl (pv 10)) (fun _ _ _ _ _ => (Zc1 (i := 0) (Zim (N := ["_law_ask"]) rfl (by decide +kernel)) rfl (Or.inl rfl))) (fun _ _ _ _ _ => (Zif (Zb8 Zhc (Zag F_refusal (hr.mono (by decide)) rfl (Zaa (hs := Zab) (pv 0) Zad)) Za1 (Zbm _)))) (fun _ _ _ _ _ => (pv 0))) (Za4 Zad) (Zbm _)) (Zao (Za3 Zci)) Zbk) (Zaf (Zdr (Zb8 Zhc (Zdc (Zd0 (k := 9) (Zag F_made (hr.mono (by decide)) rfl (Zaa (hs := Zab) (pv 3) (Zaa (hs := Zab) (pv 5) (Zaa (hs := Zab) (pv 9) (Zaa (hs := Zac) Zci (Zaa (hs := Zab) (pv 7) Zad)))))) (hr.mono (by decide)) Zd2) F_Piece_end (hr.mono (by decide))) (Zar Zbh (pv 5) (Zal (Za2 (K := K) rfl) rfl B.len (by rfl) (Zaa (hs := Zab) (pv 9) Zad))) (Zbm _)) (Zao (Za3 Zci)) Zbk) (Zaf (Zdr (Zb8 Zhc (Zdc (Zd0 (k := 9) (Zag F_made (hr.mono (by decide)) rfl (Zaa (hs := Zab) (pv 3) (Zaa (hs := Zab) (pv 5) (Zaa (hs := Zab) (pv 4) (Zaa (hs := Zab) (pv 6) (Zaa (hs := Zab) (pv 7) Zad)))))) (hr.mono (by decide)) Zd2) F_Piece_end (hr.mono (by decide))) (Zar Zbh (pv 5) (Zal (Za2 (K := K) rfl) rfl B.len (by rfl) (Zaa (hs := Zab) (pv 4) Zad))) (Zbm _)) (Zao (Za3 Zci)) Zbk) (Zaf (Zdr (Zb8 Zhc (Zdc (Zd0 (k := 9) (Zag F_made (hr.mono (by decide)) rfl (Zaa (hs := Zab) (pv 3) (Zaa (hs := Zbf) (Zar Zeb Zae (Zal (Za2 (K := K) rfl) rfl B.len (by rfl) (Zaa (hs := Zab) (pv 4) Zad))) (Zaa (hs := Zab) (pv 4) (Zaa (hs := Zac) Zci (Zaa (hs := Zab) (pv 7) Zad)))))) (hr.mono (by decide)) Zd2) F_Piece_end (hr.mono (by decide))) Zae (Zbm _)) (Zao (Za3 Zci)) Zbk) (Zao (Zdr (Zb8 Zhc (Zdc (Zd0 (k := 9) (Zag F_made (hr.mono (by decide)) rfl (Zaa (hs := Zab) (pv 3) (Zaa (hs := Zbf) (Zar Zeb Zae (Zal (Za2 (K := K) rfl) rfl B.len (by rfl) (Zaa (hs := Zab) (pv 4) Zad))) (Zaa (hs := Zab) (pv 4) (Zaa (hs := Zac) Zci (Zaa (hs := Zab) (pv 7) Zad)))))) (hr.mono (by decide)) Zd2) F_Piece_end (hr.mono (by decide))) Zae (Zbm _)) (Zao (Za3 Zci)) Zbk)))))))))))))))))))))) (Zao (Za3 Zci))), ?_⟩;refine Zan fun N hN => ?_
  walk_at "rd";refine ⟨Zah (by simp), fun l1 H1 hl1 s1 h1 => ⟨_, s1.seq hS, fun l2 H2 hl2 s2 h2 => ?_⟩⟩;obtain ⟨ms, ems, hms⟩ := Zj1 sns none (some 12);rw [ems] at h2;refine ⟨_, s2 l1 _ h1, _, h2, Zah (by simp; omega), fun lp H3 hlp s3 h3 => ⟨⟨_, SqL.of h3⟩, ?_⟩⟩;have exs : ([V.int 0] ++ ms.map V.int : List V) = (0 :: ms).map V.int := rfl;rw [exs] at h3;have tb3 : Tab H3 T lamQ := (Zpy hT).same ((s1.trans s2).trans s3);obtain ⟨Pv, ePv⟩ : ∃ Pv : Nat -> L2.St -> Hp -> Prop, Pv = fun i σ' H' => ∃ (v1 v2 v3 v4 v5 v6 v7 v8 v9 v10 : Option V), σ' = [some (.ref sa), v1, v2, v3, v4, v5, v6, v7, v8, v9, v10] /\ H' lp = some (.lst ((0 :: ms).map V.int)) /\ Tab H' T lamQ := ⟨_, rfl⟩
  refine Zlr (xs := (0 :: ms).map V.int) Pv (by rw [ePv]; exact ⟨_, _, _, _, _, _, _, _, _, _, rfl, h3, tb3⟩) ?_ ?_ ?_ <;> rw [ePv]
  ·rintro i σ' H' _ ⟨_, _, _, _, _, _, _, _, _, _, _, hl, _⟩;exact SqL.of hl
  ·rintro i x σ' H0 hx ⟨v1, v2, v3, v4, v5, v6, v7, v8, v9, v10, rfl, hlp0, tb0⟩;rw [<- ePv];clear hN h1 h2 h3 tb3;obtain ⟨cc, _, rfl⟩ := List.mem_map.mp (List.mem_of_getElem? hx);simp only [Zge, List.set_cons_zero, List.set_cons_succ];refine Zan fun N hN => ?_
   walk_at "rd";refine ⟨Zah (by simp), fun a G0 ha g0 hG0 => hN _ _ ?_⟩;clear hN N;have na : lp ≠ a := Za0 hlp0 ha;have st0 : StOk G0 a := .inl ⟨cc, hG0⟩;have hlpG := g0 _ _ hlp0;have tbG := tb0.same g0;refine Zan fun N hN => ?_
   walk_at "rd";refine ⟨a, rfl, st0, fun kt nu z1 z2 G1 n0 n1 nm1 nm2 ht0 hta hkt st1 b1 => hN _ _ ?_⟩;clear hN N;refine Zan fun N hN => ?_
   walk_at "rd";refine ⟨a, 6, rfl, st1, by decide, by decide, fun d1 G2 l1 u1 st2 b2 => ⟨d1, rfl, .inl ⟨by decide, by decide⟩, a, _, rfl, st2, by omega, by omega, fun bb bs G3 hbs hbr hb0 hba hbb st3 b3 => hN _ _ ?_⟩⟩;clear hN N;refine Zan fun N hN => ?_
   walk_at "rd";refine ⟨a, 40, rfl, st3, by decide, by decide, fun d2 G4 l2 u2 st4 b4 => ⟨d2, rfl, .inl ⟨by decide, by decide⟩, hN _ _ ?_⟩⟩;clear hN N;refine Zan fun N hN => ?_
   walk_at "rd";refine ⟨a, 2, rfl, st4, by decide, by decide, fun d3 G5 l3 u3 st5 b5 => ?_⟩;walk_at "rd";refine ⟨rfl, hN _ _ ?_⟩;clear hN N;refine Zan fun N hN => ?_
   walk_at "rd";refine ⟨a, 2, rfl, st5, by decide, by decide, fun d4 G6 l4 u4 st6 b6 => ?_⟩;walk_at "rd";refine ⟨rfl, hN _ _ ?_⟩;clear hN N;obtain ⟨mo, emo⟩ : ∃ mo, mo = decide (d3 = 1) := ⟨_, rfl⟩;obtain ⟨ke, eke⟩ : ∃ ke, ke = decide (d4 = 1) := ⟨_, rfl⟩;rw [<- emo, <- eke];refine Zan fun N hN => ?_
   walk_at "rd";refine ⟨Zah (by simp), fun p1 G7 hp1 s7 g7 => ⟨Zah (by simp), fun p2 G8 hp2 s8 g8 => ?_⟩⟩;have st8 := (st6.same s7).same s8;have np1 := st6.ne hp1;have np2 := (st6.same s7).ne hp2;refine ⟨a, 6, rfl, st8, by decide, by decide, fun d5 G9 l5 u5 st9 b9 => ?_⟩;obtain ⟨od, hod, hom⟩ := Zef (xs := [V.int 0, V.int 1, V.non, V.str (Str.ofString ""), V.str (Str.ofString "True"), V.ref p1]) l5 u5;refine ⟨_, d5, rfl, SqL.of (b9 _ _ g8 np2), od, hod, hN _ _ ?_⟩;clear hN N;have g7' := b9 _ _ (s8 _ _ g7) np1;have odty : ∃ t, tyF G9 od = some t := by
    simp only [List.mem_cons, List.not_mem_nil, or_false] at hom;rcases hom with rfl | rfl | rfl | rfl | rfl | rfl
    all_goals first | exact ⟨_, Zb7 g7'⟩ | exact ⟨_, rfl⟩
   have odB : isB od = false := by
    simp only [List.mem_cons, List.not_mem_nil, or_false] at hom;rcases hom with rfl | rfl | rfl | rfl | rfl | rfl <;> rfl
   have hlen8 : (bs.length : Int) = 8 * (1 + d1) := hbs;have k39 : Ka a G3 G9 := ((((Zjb b4).trans (Zjb b5)).trans (Zjb b6)).trans (Zh6 (s7.trans s8))).trans (Zjb b9);have k19 : Ka a G1 G9 := ((Zjb b2).trans (Zjb b3)).trans k39;have hkt9 := k19.tup hkt hta;have hbb9 := k39.lst hbb hba;have hlp9 := ((Zjb b1).trans k19).lst hlpG na;have tb9 : Tab G9 T lamQ := by
    obtain ⟨xs0, e0⟩ := st0.lst;obtain ⟨xs1, e1⟩ := st1.lst;obtain ⟨xs2, e2⟩ := st2.lst;obtain ⟨xs3, e3⟩ := st3.lst;obtain ⟨xs4, e4⟩ := st4.lst;obtain ⟨xs5, e5⟩ := st5.lst;obtain ⟨xs8, e8⟩ := st8.lst;exact (((((((tbG.but b1 e0).but b2 e1).but b3 e2).but b4 e3).but b5 e4).but b6 e5).same (s7.trans s8)).but b9 e8
   clear b1 b2 b3 b4 b5 b6 b9 s7 s8 g7 g8 k39 k19 tbG tb0 hlpG g0 st0 st1 st2 st3 st4 st5 st6 st8;refine Zan fun N hN => ?_
   walk_at "rd";refine ⟨_, .inl (SqL.of hbb9), a, 7, rfl, st9, by decide, by decide, fun d6 G10 l6 u6 st10 b10 => ⟨d6, rfl, _, SqL.of (b10 _ _ hbb9 hba), fun sh G11 hsh0 s11 hsh => hN _ _ ?_⟩⟩;clear hN N;obtain ⟨m, em⟩ : ∃ m : Nat, (m : Int) = bs.length - 1 - d6 := ⟨((bs.length : Int) - 1 - d6).toNat, by omega⟩;have hcut : Zgh (bs.map V.int) none (some (((bs.map V.int).length : Int) - 1 - d6)) = (bs.take m).map V.int := by
    rw [List.length_map, <- em];have := Zgf (ns := bs.map V.int) (hi := m) (by rw [List.length_map]; omega);rw [List.map_take]; exact this
   rw [hcut] at hsh;have hm1 : 1 <= m := by omega
   have hm2 : m < bs.length := by omega
   have hm8 : ¬ (m : Int) % 8 = 0 := by omega
   have hta' : ((bs.take m).length : Int) = m := by rw [List.length_take]; omega
   have nsh := st10.ne hsh0;have st11 := st10.same s11;have k911 : Ka a G9 G11 := (Zjb b10).trans (Zh6 s11);have hkt11 := k911.tup hkt9 hta;have hbb11 := k911.lst hbb9 hba;have hlp11 := k911.lst hlp9 na;have tb11 : Tab G11 T lamQ := by obtain ⟨xs, e⟩ := st9.lst; exact (tb9.but b10 e).same s11
   have odty : ∃ t, tyF G11 od = some t := odty.imp fun t z => k911.ty st9 st11 z
   clear b10 s11 k911 hkt9 hbb9 hlp9 tb9 st9 st10 g7';refine Zan fun N hN => ?_
   walk_at "rd";refine ⟨a, kt, nu, z1, z2, rfl, st11, hkt11, nm1, nm2, fun t1 x0 x1 x2 G12 ht10 ht1a ht1 ty10 ty11 ty12 len11 len12 bad1 st12 b12 => ?_⟩;have tb12 : Tab G12 T lamQ := by obtain ⟨xs, e⟩ := st11.lst; exact tb11.but b12 e
   refine ⟨rfl, tb12, fun f1 G13 hf10 b13 tb13 c1 => ⟨rfl, tb13, fun f2 G14 hf20 b14 tb14 c2 => ⟨Zah (by simp), fun bl G15 hbl0 s15 hbl => hN _ _ ?_⟩⟩⟩;clear hN N;have st13 := Ka.st st12 tb12 b13;have st14 := Ka.st st13 tb13 b14;have st15 := st14.same s15;have nbl := st14.ne hbl0;have tb15 := tb14.same s15;have k1215 : Ka a G12 G15 := ((Zl2 tb12 b13).trans (Zl2 tb13 b14)).trans (Zh6 s15);have k1115 : Ka a G11 G15 := (Zjb b12).trans k1215;have hkt15 := k1115.tup hkt11 hta;have hbb15 := k1115.lst hbb11 hba;have hsh15 := k1115.lst hsh nsh;have hlp15 := k1115.lst hlp11 na;have odty : ∃ t, tyF G15 od = some t := odty.imp fun t z => k1115.ty st11 st15 z
   have ht115 := k1215.tup ht1 ht1a;have ty10 := ty10.imp fun t z => k1215.ty st12 st15 z
   have ty11 := ty11.imp fun t z => k1215.ty st12 st15 z
   have ty12 := ty12.imp fun t z => k1215.ty st12 st15 z
   have c1 : MClos G15 f1 [some (.int (8 * d2)), some (.ref bb), some (.bl mo), some (.bl ke), some (.ref t1)] := MClos.ka (a := a) c1 ((Zl2 tb13 b14).trans (Zh6 s15)) st13;have c2 : MClos G15 f2 [some (.int (8 * d2)), some (.ref bb), some od, some (.bl ke), some (.ref kt)] := MClos.ka (a := a) c2 (Zh6 s15) st14;have old : ∀ p o, G14 p = some o -> p ≠ bl := fun p o e => Za0 e hbl0
   have k1114 : Ka a G11 G14 := ((Zjb b12).trans (Zl2 tb12 b13)).trans (Zl2 tb13 b14);have nbb : bb ≠ bl := old _ _ (k1114.lst hbb11 hba);have nsb : sh ≠ bl := old _ _ (k1114.lst hsh nsh);have nlb : lp ≠ bl := old _ _ (k1114.lst hlp11 na);clear b12 b13 b14 k1215 k1115 k1114 old hkt11 hbb11 hsh hlp11 ht1 tb11 tb12 tb13 tb14 st11 st12 st13 st14 s15;have hl1 : 1 <= bs.length := by omega
   have hl2 : bs.length <= 4000 := by omega
   refine Zan fun N hN => ?_
   walk_at "rd";refine ⟨.inl ⟨rfl, _, SqL.of hbl⟩, a, bb, bs, rfl, st15, hbb15, hba, hl1, hl2, fun x3 J1 ty3 nr3 bad3 sJ1 bJ1 => ?_⟩;obtain ⟨kJ1, tJ1, hJ1⟩ := Kab.odd bJ1 st15 sJ1 nbl hbl tb15;refine ⟨rfl, tJ1, fun f3 J2 _ bJ2 tJ2 c3 => ⟨_, Zcu tJ1 bJ2 hJ1, Zbx (by simp), fun J3 bJ3 hJ3 => hN _ _ ?_⟩⟩;clear hN N;obtain ⟨kJ3, tJ3, c3⟩ := Kab.put tJ1 bJ2 sJ1 nbl hJ1 bJ3 hJ3 c3 tJ2;have k3 : Kab a bl G15 J3 := kJ1.trans kJ3;clear bJ1 bJ2 bJ3 tJ1 tJ2 hJ1;refine Zan fun N hN => ?_
   walk_at "rd";refine ⟨.inl ⟨rfl, _, SqL.of hJ3⟩, a, bb, bs, rfl, k3.sa', k3.lst hbb15 hba nbb, hba, hl1, hl2, fun x4 J4 odd4 bad4 pl4 sJ4 bJ4 => ?_⟩;have ne4 : ∀ p, x4 = .ref p -> p ≠ a /\ p ≠ bl := fun p e => ⟨(odd4.nw p e).2, fun z => by subst z; rw [(odd4.nw _ e).1] at hJ3; cases hJ3⟩
   obtain ⟨t4, ty4⟩ := odd4.ty;obtain ⟨kJ4, tJ4, hJ4⟩ := Kab.odd bJ4 k3.sa' sJ4 nbl hJ3 tJ3;refine ⟨rfl, tJ4, fun f4 J5 _ bJ5 tJ5 c4 => ⟨_, Zcu tJ4 bJ5 hJ4, Zbx (by simp), fun J6 bJ6 hJ6 => hN _ _ ?_⟩⟩;clear hN N;obtain ⟨kJ6, tJ6, c4⟩ := Kab.put tJ4 bJ5 sJ4 nbl hJ4 bJ6 hJ6 c4 tJ5;have k6 : Kab a bl G15 J6 := (k3.trans kJ4).trans kJ6;have k36 : Kab a bl J3 J6 := kJ4.trans kJ6;clear bJ4 bJ5 bJ6 tJ4 tJ5 tJ3 hJ4 hJ3;refine Zan fun N hN => ?_
   walk_at "rd";refine ⟨.inl ⟨rfl, _, SqL.of hJ6⟩, rfl, tJ6, fun f5 J7 _ bJ7 tJ7 c5 => ⟨_, Zcu tJ6 bJ7 hJ6, Zbx (by simp), fun J8 bJ8 hJ8 => hN _ _ ?_⟩⟩;clear hN N;obtain ⟨kJ8, tJ8, c5⟩ := Kab.put tJ6 bJ7 k6.sa' nbl hJ6 bJ8 hJ8 c5 tJ7;clear bJ7 bJ8 tJ6 tJ7 hJ6;refine Zan fun N hN => ?_
   walk_at "rd";refine ⟨.inl ⟨rfl, _, SqL.of hJ8⟩, rfl, tJ8, fun f6 J9 _ bJ9 tJ9 c6 => ⟨_, Zcu tJ8 bJ9 hJ8, Zbx (by simp), fun J10 bJ10 hJ10 => hN _ _ ?_⟩⟩;clear hN N;obtain ⟨kJ10, tJ10, c6⟩ := Kab.put tJ8 bJ9 kJ8.sa' nbl hJ8 bJ10 hJ10 c6 tJ9;have k10 : Kab a bl G15 J10 := (k6.trans kJ8).trans kJ10;clear bJ9 bJ10 tJ8 tJ9 hJ8;refine Zan fun N hN => ?_
   walk_at "rd";refine ⟨.inl ⟨rfl, _, SqL.of hJ10⟩, _, .inl (SqL.of (k10.lst hbb15 hba nbb)), rfl, tJ10, fun f7 J11 _ bJ11 tJ11 c7 => ⟨_, Zcu tJ10 bJ11 hJ10, Zbx (by simp), fun J12 bJ12 hJ12 => hN _ _ ?_⟩⟩;clear hN N;obtain ⟨kJ12, tJ12, c7⟩ := Kab.put tJ10 bJ11 k10.sa' nbl hJ10 bJ12 hJ12 c7 tJ11;have k12 : Kab a bl G15 J12 := k10.trans kJ12;clear bJ11 bJ12 tJ10 tJ11 hJ10;refine Zan fun N hN => ?_
   walk_at "rd";refine ⟨.inl ⟨rfl, _, SqL.of hJ12⟩, a, kt, nu, z1, z2, rfl, k12.sa', k12.tup hkt15, nm1, nm2, fun t8 y0 y1 y2 J13 ht80 ht8a ht8 ty80 ty81 ty82 len81 len82 bad8 sJ13 bJ13 => ?_⟩;obtain ⟨kJ13, tJ13, hJ13⟩ := Kab.odd bJ13 k12.sa' sJ13 nbl hJ12 tJ12;have k13 : Kab a bl G15 J13 := k12.trans kJ13;refine ⟨a, bb, bs, rfl, sJ13, k13.lst hbb15 hba nbb, hba, hl1, hl2, fun x8 J14 ty8 nr8 bad8a sJ14 bJ14 => ?_⟩;obtain ⟨kJ14, tJ14, hJ14⟩ := Kab.odd bJ14 sJ13 sJ14 nbl hJ13 tJ13;refine ⟨rfl, tJ14, fun f8 J15 _ bJ15 tJ15 c8 => ⟨_, Zcu tJ14 bJ15 hJ14, Zbx (by simp), fun Z bZ hZ => hN _ _ ?_⟩⟩;clear hN N;obtain ⟨kZ14, tZ, c8⟩ := Kab.put tJ14 bJ15 sJ14 nbl hJ14 bZ hZ c8 tJ15;have k13Z := kJ14.trans kZ14;have k12Z := kJ13.trans k13Z;have k10Z := kJ12.trans k12Z;have k8Z := kJ10.trans k10Z;have k6Z := kJ8.trans k8Z;have k4Z := kJ6.trans k6Z;have k3Z := k36.trans k6Z;have kZ := k3.trans k3Z;clear bJ13 bJ14 bJ15 bZ tJ12 tJ13 tJ14 tJ15 hJ12 hJ13 hJ14 kJ1 kJ4 kJ6 kJ8 kJ10 kJ12 kJ13 kJ14;have hktZ := kZ.tup hkt15;have hbbZ := kZ.lst hbb15 hba nbb;have hshZ := kZ.lst hsh15 nsh nsb;have hlpZ := kZ.lst hlp15 na nlb;have odZ : ∃ t, tyF Z od = some t := odty.imp fun t z => kZ.ty z
   have pg := fun k => Zdt (k := k) n0 n1 nm1 nm2 hbbZ hl1 hl2 hbr
   have ps := fun k => Zdt (k := k) n0 n1 nm1 nm2 hshZ (by omega) (by omega) fun x hx => hbr x (List.mem_of_mem_take hx)
   have bd1 : Zct P w K mg base CN Z f1 := Zfe F_Piece (kZ.clos c1) (kZ.tup ht115) ⟨ty10.imp fun t z => kZ.ty z, ty11.imp fun t z => kZ.ty z, len11, ty12.imp fun t z => kZ.ty z, len12, (pg ke).1.b, (pg ke).1.bp, (pg ke).1.k⟩ ⟨_, rfl⟩ ⟨_, rfl⟩ (Zkq bad1);have bd2 : Zct P w K mg base CN Z f2 := Zfe F_Piece (kZ.clos c2) hktZ (pg ke).1 ⟨_, rfl⟩ odZ (Zls odB);have bd3 : Zct P w K mg base CN Z f3 := Zfe F_Piece (k3Z.clos c3) hktZ (pg ke).1 (ty3.imp fun t z => k3Z.ty (kJ3.ty z)) ⟨_, rfl⟩ (Znv hbbZ (by rw [List.length_map]; exact bad3));have bd4 : Zct P w K mg base CN Z f4 := Zfe F_Piece (k6Z.clos c4) hktZ ⟨⟨_, rfl⟩, ⟨_, rfl⟩, (pg ke).1.sl, ⟨_, rfl⟩, (pg ke).1.gl, ⟨_, k4Z.ty ty4⟩, k4Z.plains ne4 ty4 pl4, ⟨_, rfl⟩⟩ ⟨_, rfl⟩ ⟨_, rfl⟩ (Zlu (by rw [k4Z.bd ne4 ty4]; exact bad4));have bd5 : Zct P w K mg base CN Z f5 := Zfe F_Piece (k8Z.clos c5) hktZ ⟨⟨_, rfl⟩, ⟨_, rfl⟩, (pg ke).1.sl, ⟨_, rfl⟩, (pg ke).1.gl, (pg ke).1.b, (pg ke).1.bp, odZ⟩ ⟨_, rfl⟩ ⟨_, rfl⟩ (Zlt odB);have bd6 : Zct P w K mg base CN Z f6 := Zfe F_Piece (k10Z.clos c6) hktZ (ps ke).1 ⟨_, rfl⟩ ⟨_, rfl⟩ (Zi9 hshZ (by unfold Zcb; rw [if_pos rfl, List.length_map, hta', decide_eq_false hm8]; rfl));have bd7 : Zct P w K mg base CN Z f7 := Zfe F_Piece (k12Z.clos c7) hktZ (pg ke).1 ⟨_, rfl⟩ ⟨_, rfl⟩ (Zi9 hbbZ (by unfold Zcb; rw [if_pos rfl, Bool.and_eq_false_iff]; exact .inr (decide_eq_false (by omega))));have bd8 : Zct P w K mg base CN Z f8 := Zfe F_Piece c8 (k13Z.tup ht8) ⟨ty80.imp fun t z => k13Z.ty z, ty81.imp fun t z => k13Z.ty z, len81, ty82.imp fun t z => k13Z.ty z, len82, ⟨_, rfl⟩, (fun _ _ e _ => by cases e), odZ⟩ (ty8.imp fun t z => kZ14.ty z) odZ (Zkq bad8);clear c1 c2 c3 c4 c5 c6 c7 c8;refine Zan fun N hN => ?_
   walk_at "rd";have allB : ∃ xs, Z bl = some (.lst xs) /\ xs.length <= 8 /\ ∀ x ∈ xs, ∃ f, x = .ref f /\ Zct P w K mg base CN Z f := by
    refine ⟨_, hZ, by simp, fun x hx => ?_⟩;simp only [List.mem_append, List.mem_cons, List.not_mem_nil, or_false] at hx;rcases hx with ((((((rfl | rfl) | rfl) | rfl) | rfl) | rfl) | rfl) | rfl
    all_goals exact ⟨_, rfl, by assumption⟩
   clear bd1 bd2 bd3 bd4 bd5 bd6 bd7 bd8;obtain ⟨xs, hxs, hlx, hall⟩ := allB;refine ⟨⟨_, SqL.of hxs⟩, Zhq (xs := xs) (fun i ys σ' H' => ys = [] /\ (∃ v, σ' = [v]) /\ Same Z H') ⟨rfl, ⟨_, rfl⟩, Same.refl _⟩ (fun i ys σ' H' h hi => ⟨SqL.of (h.2.2 _ _ hxs), by rw [h.1]; simp⟩) (Zah (by omega)) ?_ ?_⟩
   ·rintro i x ys σ' H' hx ⟨rfl, ⟨v, rfl⟩, sH⟩;obtain ⟨f, rfl, ⟨o, fd, e1, e2⟩, ask⟩ := hall x (List.mem_of_getElem? hx);simp only [Zge, List.set_cons_zero];walk_at "rd";refine ⟨f, o, fd, _, rfl, sH _ _ e1, e2, ask _ sH, fun C H2 hE => ?_⟩;obtain ⟨eC, s2⟩ := hE;cases eC;refine ⟨_, KN, fun G s3 => ⟨rfl, ?_⟩⟩;rw [if_neg (by simp)];exact (sH.trans s2).trans s3
   ·rintro ys σ' H' ⟨rfl, _, sH⟩ p G hp s1 g1;refine ⟨Nat.zero_le _, fun p2 G2 hp2 s2 g2 => ⟨p, rfl, _, SqL.of (s2 _ _ g1), SqL.of g2, ?_⟩⟩;rw [if_neg (by simp)];refine hN _ _ ?_;clear hN N;have sZ : Same Z G2 := (sH.trans s1).trans s2;have kt2 := sZ _ _ hktZ;have bb2 := sZ _ _ hbbZ;have sh2 := sZ _ _ hshZ;have lp2 := sZ _ _ hlpZ;have tb2 := tZ.same sZ;clear hall sZ sH s1 s2 g1 g2 hp hp2;refine Zan fun N hN => ?_
    walk_at "rd";have hpl : Zg0 (.int (8 * d2)) = true := by
     simp [Zg0]; omega
    have hbt : ∀ x ∈ bs.take m, 0 <= x /\ x <= 255 := fun x hx => hbr x (List.mem_of_mem_take hx)
    refine Zd1 F_Piece tb2 kt2 sh2 n0 n1 nm1 nm2 (by omega) (by omega) hbt hpl (by unfold Zcb; rw [if_neg (by simp)]; exact decide_eq_true (by omega)) fun W1 k1 t1 => ⟨_, .inl (SqL.of (k1.lst sh2)), rfl, ?_⟩
    rw [List.length_map, if_neg (by simp)];refine hN _ _ ?_;clear hN N;have kt3 := k1.tup kt2;have bb3 := k1.lst bb2;have lp3 := k1.lst lp2;clear k1 tb2 kt2 bb2 lp2 sh2;refine Zan fun N hN => ?_
    walk_at "rd";refine Zd1 F_Piece t1 kt3 bb3 n0 n1 nm1 nm2 hl1 hl2 hbr hpl (by unfold Zcb; cases mo <;> simp <;> omega) fun W2 k2 t2 => ⟨_, .inl (SqL.of (k2.lst bb3)), rfl, ?_⟩
    rw [List.length_map, if_neg (by simp)];refine hN _ _ ?_;clear hN N;have kt4 := k2.tup kt3;have bb4 := k2.lst bb3;have lp4 := k2.lst lp3;clear k2 t1 kt3 bb3 lp3;refine Zan fun N hN => ?_
    walk_at "rd";refine ⟨_, .inl (SqL.of bb4), ?_⟩;rw [List.length_map];have e7 : (4000 : Int) - bs.length + bs.length = 4000 := by omega
    refine Zd1 F_Piece t2 kt4 bb4 n0 n1 nm1 nm2 hl1 hl2 hbr (by simp [Zg0]; omega) (by unfold Zcb; simp) fun W3 k3 t3 => ⟨rfl, ?_⟩
    rw [e7, if_neg (by simp)];refine hN _ _ ?_;clear hN N;have kt5 := k3.tup kt4;have bb5 := k3.lst bb4;have lp5 := k3.lst lp4;clear k3 t2 kt4 bb4 lp4;walk_at "rd";refine ⟨_, .inl (SqL.of bb5), ?_⟩;rw [List.length_map];have e8 : (3992 : Int) - bs.length + bs.length = 3992 := by omega
    refine Zd1 F_Piece t3 kt5 bb5 n0 n1 nm1 nm2 hl1 hl2 hbr (by simp [Zg0]; omega) (by unfold Zcb; simp; omega) fun W4 k4 t4 => ⟨rfl, ?_⟩
    rw [e8, if_neg (by simp), ePv];exact ⟨_, _, _, _, _, _, _, _, _, _, rfl, k4.lst lp5, t4⟩
  ·rintro σ' H' ⟨_, _, _, _, _, _, _, _, _, _, rfl, _⟩;refine hN _ _ ?_;walk_at "rd";exact q _
end
theorem Ze2 {K : PySem.W.Frag} {s : Shared} {T : Addr} {oT : Option Addr} {nT : Nat} {sT : Array (Option Value)} {kV dc pm cd ct : Value} {an : Option Addr} {u0 u1 u2 u3 u4 u5 u6 u7 : Value} (kx : K.In s.heap) (h : K.lookup T = some ⟨.type "tuple", oT, .seq #[.bool false] nT, sT⟩) :
  BindsTo s (PySem.W.fnOf "__init__" "Piece.__init__" (Zaq Zax) (defBody Zax) (defScope Zax) (.ref T) kV dc pm an cd ct) ⟨[u0, u1, u2, u3, u4, u5, u6, u7], []⟩ ((["self", "number", "sender", "goal", "at", "body", "more", "keep"] : List Str).zip ([u0, u1, u2, u3, u4, u5, u6, u7] ++ [])) := by
 first
  | exact .of_eq rfl
  | exact .of_defaults rfl (kx _ _ h) rfl rfl rfl
set_option maxHeartbeats 0 in
theorem all_mk {l : PySem.W.OpenLaw} {w : World} {K : PySem.W.Frag} {h : Heap} {mg : Str -> Option Value} {fa : Addr} (X : K.In h) (G : h.Ns mainGlobals mg) (hfa : mg "law" = some (.ref fa))
  {fq0f : Addr} {odq0f anq0f : Option Addr} {slq0f : Array (Option Value)} {ocq0f kVq0f dcq0f pmq0f cdq0f ctq0f : Value}
  {fq0b : Addr} {odq0b anq0b : Option Addr} {slq0b : Array (Option Value)} {ocq0b kVq0b dcq0b pmq0b cdq0b ctq0b : Value}
  {fq0j : Addr} {odq0j anq0j : Option Addr} {slq0j : Array (Option Value)} {ocq0j kVq0j dcq0j pmq0j cdq0j ctq0j : Value}
  {fq0d : Addr} {odq0d anq0d : Option Addr} {slq0d : Array (Option Value)} {ocq0d kVq0d dcq0d pmq0d cdq0d ctq0d : Value}
  {fq0n : Addr} {odq0n anq0n : Option Addr} {slq0n : Array (Option Value)} {ocq0n kVq0n dcq0n pmq0n cdq0n ctq0n : Value}
  {fq0k : Addr} {odq0k anq0k : Option Addr} {slq0k : Array (Option Value)} {ocq0k kVq0k dcq0k pmq0k cdq0k ctq0k : Value}
  {fq0m : Addr} {odq0m anq0m : Option Addr} {slq0m : Array (Option Value)} {ocq0m kVq0m dcq0m pmq0m cdq0m ctq0m : Value}
  {fq0a : Addr} {odq0a anq0a : Option Addr} {slq0a : Array (Option Value)} {ocq0a kVq0a dcq0a pmq0a cdq0a ctq0a : Value}
  {fq0g : Addr} {odq0g anq0g : Option Addr} {slq0g : Array (Option Value)} {ocq0g kVq0g dcq0g pmq0g cdq0g ctq0g : Value}
  {fq0i : Addr} {odq0i anq0i : Option Addr} {slq0i : Array (Option Value)} {ocq0i kVq0i dcq0i pmq0i cdq0i ctq0i : Value}
  {fq0q : Addr} {odq0q anq0q : Option Addr} {slq0q : Array (Option Value)} {ocq0q kVq0q dcq0q pmq0q cdq0q ctq0q : Value}
  {fq0t : Addr} {odq0t anq0t : Option Addr} {slq0t : Array (Option Value)} {ocq0t kVq0t dcq0t pmq0t cdq0t ctq0t : Value}
  {fq0v : Addr} {odq0v anq0v : Option Addr} {slq0v : Array (Option Value)} {ocq0v kVq0v dcq0v pmq0v cdq0v ctq0v : Value}
  {fq0s : Addr} {odq0s anq0s : Option Addr} {slq0s : Array (Option Value)} {ocq0s kVq0s dcq0s pmq0s cdq0s ctq0s : Value}
  {fq0l : Addr} {odq0l anq0l : Option Addr} {slq0l : Array (Option Value)} {ocq0l kVq0l dcq0l pmq0l cdq0l ctq0l : Value}
  {fq0o : Addr} {odq0o anq0o : Option Addr} {slq0o : Array (Option Value)} {ocq0o kVq0o dcq0o pmq0o cdq0o ctq0o : Value}
  {fq0p : Addr} {odq0p anq0p : Option Addr} {slq0p : Array (Option Value)} {ocq0p kVq0p dcq0p pmq0p cdq0p ctq0p : Value}
  {fq0h : Addr} {odq0h anq0h : Option Addr} {slq0h : Array (Option Value)} {ocq0h kVq0h dcq0h pmq0h cdq0h ctq0h : Value}
  {fq0r : Addr} {odq0r anq0r : Option Addr} {slq0r : Array (Option Value)} {ocq0r kVq0r dcq0r pmq0r ctq0r : Value}
  {cLaw tLaw : Addr} {ocL : Value} {odL : Option Addr} {vsL : Array Value} {slL : Array (Option Value)}
  {fq0u : Addr} {odq0u anq0u : Option Addr} {slq0u : Array (Option Value)} {ocq0u kVq0u dcq0u pmq0u cdq0u ctq0u : Value}
  {C_Piece : Addr}
  {T_Piece_init : Addr} {oT_Piece_init : Option Addr} {nT_Piece_init : Nat} {sT_Piece_init : Array (Option Value)}
  {fq0c : Addr} {odq0c anq0c : Option Addr} {slq0c : Array (Option Value)} {ocq0c kVq0c dcq0c pmq0c cdq0c ctq0c : Value}
  {fq0e : Addr} {odq0e anq0e : Option Addr} {slq0e : Array (Option Value)} {ocq0e kVq0e dcq0e pmq0e cdq0e ctq0e : Value}
  {C_WayError : Addr}
  {C_NoLetter : Addr}
  {C_NoPiece : Addr}
  {C_NoWidth : Addr}
  {C_TooWide : Addr}
  {C_NoRule : Addr}
  {C_NoTime : Addr}
  {C_NoKey : Addr}
  {C_NoText : Addr}
  {C_NoRow : Addr}
  {C_NoRoom : Addr}
  {C_NoRoad : Addr}
  {tk_MOST_NUMBER : Tok}
  {tk_MOST_BYTE : Tok}
  {tk_MOST_SIGNS : Tok}
  {tk_MOST_BYTES : Tok}
  {tk_STEP : Tok}
  (aq0f : PySem.W.nsIn K mainGlobals "is_whole" = some (some (.ref fq0f)))
  (lq0f : K.lookup fq0f = some ⟨ocq0f, odq0f, .func (PySem.W.fnOf "is_whole" "is_whole" (Zaq Zbr) (defBody Zbr) (defScope Zbr) .none kVq0f dcq0f pmq0f anq0f cdq0f ctq0f), slq0f⟩)
  (cq0f : PySem.W.codeIn K cdq0f "is_whole" = true)
  (kq0f : PySem.W.keepIn K (.ref fq0f) = true)
  (aq0b : PySem.W.nsIn K mainGlobals "is_whole_within" = some (some (.ref fq0b)))
  (lq0b : K.lookup fq0b = some ⟨ocq0b, odq0b, .func (PySem.W.fnOf "is_whole_within" "is_whole_within" (Zaq Zaz) (defBody Zaz) (defScope Zaz) .none kVq0b dcq0b pmq0b anq0b cdq0b ctq0b), slq0b⟩)
  (cq0b : PySem.W.codeIn K cdq0b "is_whole_within" = true)
  (kq0b : PySem.W.keepIn K (.ref fq0b) = true)
  (aq0j : PySem.W.nsIn K mainGlobals "is_truth" = some (some (.ref fq0j)))
  (lq0j : K.lookup fq0j = some ⟨ocq0j, odq0j, .func (PySem.W.fnOf "is_truth" "is_truth" (Zaq Zbs) (defBody Zbs) (defScope Zbs) .none kVq0j dcq0j pmq0j anq0j cdq0j ctq0j), slq0j⟩)
  (cq0j : PySem.W.codeIn K cdq0j "is_truth" = true)
  (kq0j : PySem.W.keepIn K (.ref fq0j) = true)
  (aq0d : PySem.W.nsIn K mainGlobals "is_number" = some (some (.ref fq0d)))
  (lq0d : K.lookup fq0d = some ⟨ocq0d, odq0d, .func (PySem.W.fnOf "is_number" "is_number" (Zaq Zbi) (defBody Zbi) (defScope Zbi) .none kVq0d dcq0d pmq0d anq0d cdq0d ctq0d), slq0d⟩)
  (cq0d : PySem.W.codeIn K cdq0d "is_number" = true)
  (kq0d : PySem.W.keepIn K (.ref fq0d) = true)
  (aq0n : PySem.W.nsIn K mainGlobals "is_name" = some (some (.ref fq0n)))
  (lq0n : K.lookup fq0n = some ⟨ocq0n, odq0n, .func (PySem.W.fnOf "is_name" "is_name" (Zaq Zb0) (defBody Zb0) (defScope Zb0) .none kVq0n dcq0n pmq0n anq0n cdq0n ctq0n), slq0n⟩)
  (cq0n : PySem.W.codeIn K cdq0n "is_name" = true)
  (kq0n : PySem.W.keepIn K (.ref fq0n) = true)
  (aq0k : PySem.W.nsIn K mainGlobals "is_byte" = some (some (.ref fq0k)))
  (lq0k : K.lookup fq0k = some ⟨ocq0k, odq0k, .func (PySem.W.fnOf "is_byte" "is_byte" (Zaq Zca) (defBody Zca) (defScope Zca) .none kVq0k dcq0k pmq0k anq0k cdq0k ctq0k), slq0k⟩)
  (cq0k : PySem.W.codeIn K cdq0k "is_byte" = true)
  (kq0k : PySem.W.keepIn K (.ref fq0k) = true)
  (aq0m : PySem.W.nsIn K mainGlobals "is_body" = some (some (.ref fq0m)))
  (lq0m : K.lookup fq0m = some ⟨ocq0m, odq0m, .func (PySem.W.fnOf "is_body" "is_body" (Zaq Zb1) (defBody Zb1) (defScope Zb1) .none kVq0m dcq0m pmq0m anq0m cdq0m ctq0m), slq0m⟩)
  (cq0m : PySem.W.codeIn K cdq0m "is_body" = true)
  (kq0m : PySem.W.keepIn K (.ref fq0m) = true)
  (aq0a : PySem.W.nsIn K mainGlobals "are_shared_parts" = some (some (.ref fq0a)))
  (lq0a : K.lookup fq0a = some ⟨ocq0a, odq0a, .func (PySem.W.fnOf "are_shared_parts" "are_shared_parts" (Zaq Zau) (defBody Zau) (defScope Zau) .none kVq0a dcq0a pmq0a anq0a cdq0a ctq0a), slq0a⟩)
  (cq0a : PySem.W.codeIn K cdq0a "are_shared_parts" = true)
  (kq0a : PySem.W.keepIn K (.ref fq0a) = true)
  (aq0g : PySem.W.nsIn K mainGlobals "is_place" = some (some (.ref fq0g)))
  (lq0g : K.lookup fq0g = some ⟨ocq0g, odq0g, .func (PySem.W.fnOf "is_place" "is_place" (Zaq Zbt) (defBody Zbt) (defScope Zbt) .none kVq0g dcq0g pmq0g anq0g cdq0g ctq0g), slq0g⟩)
  (cq0g : PySem.W.codeIn K cdq0g "is_place" = true)
  (kq0g : PySem.W.keepIn K (.ref fq0g) = true)
  (aq0i : PySem.W.nsIn K mainGlobals "has_room" = some (some (.ref fq0i)))
  (lq0i : K.lookup fq0i = some ⟨ocq0i, odq0i, .func (PySem.W.fnOf "has_room" "has_room" (Zaq Zbu) (defBody Zbu) (defScope Zbu) .none kVq0i dcq0i pmq0i anq0i cdq0i ctq0i), slq0i⟩)
  (cq0i : PySem.W.codeIn K cdq0i "has_room" = true)
  (kq0i : PySem.W.keepIn K (.ref fq0i) = true)
  (aq0q : PySem.W.nsIn K mainGlobals "_law_digit" = some (some (.ref fq0q)))
  (lq0q : K.lookup fq0q = some ⟨ocq0q, odq0q, .func (PySem.W.fnOf "_law_digit" "_law_digit" (Zaq Zdq) (defBody Zdq) (defScope Zdq) .none kVq0q dcq0q pmq0q anq0q cdq0q ctq0q), slq0q⟩)
  (cq0q : PySem.W.codeIn K cdq0q "_law_digit" = true)
  (kq0q : PySem.W.keepIn K (.ref fq0q) = true)
  (aq0t : PySem.W.nsIn K mainGlobals "_law_name" = some (some (.ref fq0t)))
  (lq0t : K.lookup fq0t = some ⟨ocq0t, odq0t, .func (PySem.W.fnOf "_law_name" "_law_name" (Zaq Zei) (defBody Zei) (defScope Zei) .none kVq0t dcq0t pmq0t anq0t cdq0t ctq0t), slq0t⟩)
  (cq0t : PySem.W.codeIn K cdq0t "_law_name" = true)
  (kq0t : PySem.W.keepIn K (.ref fq0t) = true)
  (aq0v : PySem.W.nsIn K mainGlobals "_law_key" = some (some (.ref fq0v)))
  (lq0v : K.lookup fq0v = some ⟨ocq0v, odq0v, .func (PySem.W.fnOf "_law_key" "_law_key" (Zaq Zhb) (defBody Zhb) (defScope Zhb) .none kVq0v dcq0v pmq0v anq0v cdq0v ctq0v), slq0v⟩)
  (cq0v : PySem.W.codeIn K cdq0v "_law_key" = true)
  (kq0v : PySem.W.keepIn K (.ref fq0v) = true)
  (aq0s : PySem.W.nsIn K mainGlobals "_law_body" = some (some (.ref fq0s)))
  (lq0s : K.lookup fq0s = some ⟨ocq0s, odq0s, .func (PySem.W.fnOf "_law_body" "_law_body" (Zaq Zd7) (defBody Zd7) (defScope Zd7) .none kVq0s dcq0s pmq0s anq0s cdq0s ctq0s), slq0s⟩)
  (cq0s : PySem.W.codeIn K cdq0s "_law_body" = true)
  (kq0s : PySem.W.keepIn K (.ref fq0s) = true)
  (aq0l : PySem.W.nsIn K mainGlobals "_law_refusal" = some (some (.ref fq0l)))
  (lq0l : K.lookup fq0l = some ⟨ocq0l, odq0l, .func (PySem.W.fnOf "_law_refusal" "_law_refusal" (Zaq Zbz) (defBody Zbz) (defScope Zbz) .none kVq0l dcq0l pmq0l anq0l cdq0l ctq0l), slq0l⟩)
  (cq0l : PySem.W.codeIn K cdq0l "_law_refusal" = true)
  (kq0l : PySem.W.keepIn K (.ref fq0l) = true)
  (aq0o : PySem.W.nsIn K mainGlobals "_law_odd_key" = some (some (.ref fq0o)))
  (lq0o : K.lookup fq0o = some ⟨ocq0o, odq0o, .func (PySem.W.fnOf "_law_odd_key" "_law_odd_key" (Zaq Zb9) (defBody Zb9) (defScope Zb9) .none kVq0o dcq0o pmq0o anq0o cdq0o ctq0o), slq0o⟩)
  (cq0o : PySem.W.codeIn K cdq0o "_law_odd_key" = true)
  (kq0o : PySem.W.keepIn K (.ref fq0o) = true)
  (aq0p : PySem.W.nsIn K mainGlobals "_law_odd_at" = some (some (.ref fq0p)))
  (lq0p : K.lookup fq0p = some ⟨ocq0p, odq0p, .func (PySem.W.fnOf "_law_odd_at" "_law_odd_at" (Zaq Zcr) (defBody Zcr) (defScope Zcr) .none kVq0p dcq0p pmq0p anq0p cdq0p ctq0p), slq0p⟩)
  (cq0p : PySem.W.codeIn K cdq0p "_law_odd_at" = true)
  (kq0p : PySem.W.keepIn K (.ref fq0p) = true)
  (aq0h : PySem.W.nsIn K mainGlobals "_law_odd_body" = some (some (.ref fq0h)))
  (lq0h : K.lookup fq0h = some ⟨ocq0h, odq0h, .func (PySem.W.fnOf "_law_odd_body" "_law_odd_body" (Zaq Zbq) (defBody Zbq) (defScope Zbq) .none kVq0h dcq0h pmq0h anq0h cdq0h ctq0h), slq0h⟩)
  (cq0h : PySem.W.codeIn K cdq0h "_law_odd_body" = true)
  (kq0h : PySem.W.keepIn K (.ref fq0h) = true)
  (aq0r : PySem.W.nsIn K mainGlobals "_law_made" = some (some (.ref fq0r)))
  (lq0r : K.lookup fq0r = some ⟨ocq0r, odq0r, .func (PySem.W.fnOf "_law_made" "_law_made" (Zaq s_made) (defBody s_made) (defScope s_made) .none kVq0r dcq0r pmq0r anq0r (.ref cLaw) ctq0r), slq0r⟩)
  (cq0r : PySem.W.codeIn K (.ref cLaw) "_law_made" = true)
  (lcL : K.lookup cLaw = some ⟨ocL, odL, .fields vsL, slL⟩)
  (l11 : vsL[11]? = some (.ref tLaw))
  (kq0r : PySem.W.keepIn K (.ref fq0r) = true)
  (aq0u : PySem.W.nsIn K mainGlobals "law" = some (some (.ref fq0u)))
  (lq0u : K.lookup fq0u = some ⟨ocq0u, odq0u, .func (PySem.W.fnOf "law" "law" (Zaq Zeg) (defBody Zeg) (defScope Zeg) .none kVq0u dcq0u pmq0u anq0u cdq0u ctq0u), slq0u⟩)
  (cq0u : PySem.W.codeIn K cdq0u "law" = true)
  (kq0u : PySem.W.keepIn K (.ref fq0u) = true)
  (aC_Piece : PySem.W.nsIn K mainGlobals "Piece" = some (some (.ref C_Piece)))
  (aq0c : PySem.W.findIn K (.ref C_Piece) "__init__" = some (some (.ref fq0c)))
  (iq0c : PySem.W.isFn K (.ref fq0c) = true)
  (lq0c : K.lookup fq0c = some ⟨ocq0c, odq0c, .func (PySem.W.fnOf "__init__" "Piece.__init__" (Zaq Zax) (defBody Zax) (defScope Zax) (.ref T_Piece_init) kVq0c dcq0c pmq0c anq0c cdq0c ctq0c), slq0c⟩)
  (cq0c : PySem.W.codeIn K cdq0c "Piece.__init__" = true)
  (kq0c : PySem.W.keepIn K (.ref fq0c) = true)
  (tq0c : K.lookup T_Piece_init = some ⟨.type "tuple", oT_Piece_init, .seq #[.bool false] nT_Piece_init, sT_Piece_init⟩)
  (aq0e : PySem.W.findIn K (.ref C_Piece) "end" = some (some (.ref fq0e)))
  (iq0e : PySem.W.isFn K (.ref fq0e) = true)
  (lq0e : K.lookup fq0e = some ⟨ocq0e, odq0e, .func (PySem.W.fnOf "end" "Piece.end" (Zaq Zbj) (defBody Zbj) (defScope Zbj) .none kVq0e dcq0e pmq0e anq0e cdq0e ctq0e), slq0e⟩)
  (cq0e : PySem.W.codeIn K cdq0e "Piece.end" = true)
  (kq0e : PySem.W.keepIn K (.ref fq0e) = true)
  (pg_Piece : PySem.W.plainGet K C_Piece Str.empty = true)
  (hd_Piece : PySem.W.hasDictIn K C_Piece = true)
  (po_Piece : PySem.W.plainOver K C_Piece = true)
  (sa_Piece : PySem.W.findIn K (.ref C_Piece) "__setattr__" = some (some (.builtin "object.__setattr__")))
  (mk_Piece : PySem.W.makesIn K C_Piece = true)
  (kc_Piece : PySem.W.keepIn K (.ref C_Piece) = true)
  (n_Piece_number : PySem.W.findIn K (.ref C_Piece) "number" = some none)
  (n_Piece_sender : PySem.W.findIn K (.ref C_Piece) "sender" = some none)
  (n_Piece_goal : PySem.W.findIn K (.ref C_Piece) "goal" = some none)
  (n_Piece_at : PySem.W.findIn K (.ref C_Piece) "at" = some none)
  (n_Piece_body : PySem.W.findIn K (.ref C_Piece) "body" = some none)
  (n_Piece_more : PySem.W.findIn K (.ref C_Piece) "more" = some none)
  (n_Piece_keep : PySem.W.findIn K (.ref C_Piece) "keep" = some none)
  (aC_WayError : PySem.W.nsIn K mainGlobals "WayError" = some (some (.ref C_WayError)))
  (kty_WayError : PySem.W.typeIn K (.ref C_WayError) = some (.type "type"))
  (kbe_WayError : PySem.W.mroIn K C_WayError (.type "BaseException") = some true)
  (aC_NoLetter : PySem.W.nsIn K mainGlobals "NoLetter" = some (some (.ref C_NoLetter)))
  (kty_NoLetter : PySem.W.typeIn K (.ref C_NoLetter) = some (.type "type"))
  (kbe_NoLetter : PySem.W.mroIn K C_NoLetter (.type "BaseException") = some true)
  (aC_NoPiece : PySem.W.nsIn K mainGlobals "NoPiece" = some (some (.ref C_NoPiece)))
  (kty_NoPiece : PySem.W.typeIn K (.ref C_NoPiece) = some (.type "type"))
  (kbe_NoPiece : PySem.W.mroIn K C_NoPiece (.type "BaseException") = some true)
  (aC_NoWidth : PySem.W.nsIn K mainGlobals "NoWidth" = some (some (.ref C_NoWidth)))
  (kty_NoWidth : PySem.W.typeIn K (.ref C_NoWidth) = some (.type "type"))
  (kbe_NoWidth : PySem.W.mroIn K C_NoWidth (.type "BaseException") = some true)
  (aC_TooWide : PySem.W.nsIn K mainGlobals "TooWide" = some (some (.ref C_TooWide)))
  (kty_TooWide : PySem.W.typeIn K (.ref C_TooWide) = some (.type "type"))
  (kbe_TooWide : PySem.W.mroIn K C_TooWide (.type "BaseException") = some true)
  (aC_NoRule : PySem.W.nsIn K mainGlobals "NoRule" = some (some (.ref C_NoRule)))
  (kty_NoRule : PySem.W.typeIn K (.ref C_NoRule) = some (.type "type"))
  (kbe_NoRule : PySem.W.mroIn K C_NoRule (.type "BaseException") = some true)
  (aC_NoTime : PySem.W.nsIn K mainGlobals "NoTime" = some (some (.ref C_NoTime)))
  (kty_NoTime : PySem.W.typeIn K (.ref C_NoTime) = some (.type "type"))
  (kbe_NoTime : PySem.W.mroIn K C_NoTime (.type "BaseException") = some true)
  (aC_NoKey : PySem.W.nsIn K mainGlobals "NoKey" = some (some (.ref C_NoKey)))
  (kty_NoKey : PySem.W.typeIn K (.ref C_NoKey) = some (.type "type"))
  (kbe_NoKey : PySem.W.mroIn K C_NoKey (.type "BaseException") = some true)
  (aC_NoText : PySem.W.nsIn K mainGlobals "NoText" = some (some (.ref C_NoText)))
  (kty_NoText : PySem.W.typeIn K (.ref C_NoText) = some (.type "type"))
  (kbe_NoText : PySem.W.mroIn K C_NoText (.type "BaseException") = some true)
  (aC_NoRow : PySem.W.nsIn K mainGlobals "NoRow" = some (some (.ref C_NoRow)))
  (kty_NoRow : PySem.W.typeIn K (.ref C_NoRow) = some (.type "type"))
  (kbe_NoRow : PySem.W.mroIn K C_NoRow (.type "BaseException") = some true)
  (aC_NoRoom : PySem.W.nsIn K mainGlobals "NoRoom" = some (some (.ref C_NoRoom)))
  (kty_NoRoom : PySem.W.typeIn K (.ref C_NoRoom) = some (.type "type"))
  (kbe_NoRoom : PySem.W.mroIn K C_NoRoom (.type "BaseException") = some true)
  (aC_NoRoad : PySem.W.nsIn K mainGlobals "NoRoad" = some (some (.ref C_NoRoad)))
  (kty_NoRoad : PySem.W.typeIn K (.ref C_NoRoad) = some (.type "type"))
  (kbe_NoRoad : PySem.W.mroIn K C_NoRoad (.type "BaseException") = some true)
  (exc_NoPiece : PySem.W.excIn K C_NoPiece Zo4 "ValueError.__new__" = true)
  (ega_NoPiece : PySem.W.findIn K (.ref C_NoPiece) "__getattribute__" = some (some (.builtin "BaseException.__getattribute__")))
  (egt_NoPiece : PySem.W.findIn K (.ref C_NoPiece) "__getattr__" = some none)
  (ecl_NoPiece : PySem.W.findIn K (.ref C_NoPiece) "__class__" = some (some (.builtin "object.__class__")))
  (eob_NoPiece : PySem.W.mroIn K C_NoPiece (.type "object") = some true)
  (eve_NoPiece : PySem.W.mroIn K C_NoPiece (.type "ValueError") = some true)
  (ewy_NoPiece : PySem.W.mroIn K C_NoPiece (.ref C_WayError) = some true)
  (kmr_NoPiece_NoLetter : PySem.W.mroIn K C_NoPiece (.ref C_NoLetter) = some false)
  (kmr_NoPiece_NoPiece : PySem.W.mroIn K C_NoPiece (.ref C_NoPiece) = some true)
  (kmr_NoPiece_NoWidth : PySem.W.mroIn K C_NoPiece (.ref C_NoWidth) = some false)
  (kmr_NoPiece_TooWide : PySem.W.mroIn K C_NoPiece (.ref C_TooWide) = some false)
  (kmr_NoPiece_NoRule : PySem.W.mroIn K C_NoPiece (.ref C_NoRule) = some false)
  (kmr_NoPiece_NoTime : PySem.W.mroIn K C_NoPiece (.ref C_NoTime) = some false)
  (kmr_NoPiece_NoKey : PySem.W.mroIn K C_NoPiece (.ref C_NoKey) = some false)
  (kmr_NoPiece_NoText : PySem.W.mroIn K C_NoPiece (.ref C_NoText) = some false)
  (kmr_NoPiece_NoRow : PySem.W.mroIn K C_NoPiece (.ref C_NoRow) = some false)
  (kmr_NoPiece_NoRoom : PySem.W.mroIn K C_NoPiece (.ref C_NoRoom) = some false)
  (kmr_NoPiece_NoRoad : PySem.W.mroIn K C_NoPiece (.ref C_NoRoad) = some false)
  (z_ValueError : PySem.W.nsIn K mainGlobals "ValueError" = some none)
  (nt : PySem.W.noTabs K = true)
  (q_MOST_NUMBER : PySem.W.nsIn K mainGlobals "MOST_NUMBER" = some (some (.int 65535 tk_MOST_NUMBER)))
  (q_MOST_BYTE : PySem.W.nsIn K mainGlobals "MOST_BYTE" = some (some (.int 255 tk_MOST_BYTE)))
  (q_MOST_SIGNS : PySem.W.nsIn K mainGlobals "MOST_SIGNS" = some (some (.int 8 tk_MOST_SIGNS)))
  (q_MOST_BYTES : PySem.W.nsIn K mainGlobals "MOST_BYTES" = some (some (.int 4000 tk_MOST_BYTES)))
  (q_STEP : PySem.W.nsIn K mainGlobals "STEP" = some (some (.int 8 tk_STEP)))
  (z_len : PySem.W.nsIn K mainGlobals "len" = some none)
  (z_range : PySem.W.nsIn K mainGlobals "range" = some none)
  (z_isinstance : PySem.W.nsIn K mainGlobals "isinstance" = some none)
  (z_all : PySem.W.nsIn K mainGlobals "all" = some none)
  (z_min : PySem.W.nsIn K mainGlobals "min" = some none)
  (z_max : PySem.W.nsIn K mainGlobals "max" = some none)
  (z_int : PySem.W.nsIn K mainGlobals "int" = some none)
  (z_bool : PySem.W.nsIn K mainGlobals "bool" = some none)
  (z_str : PySem.W.nsIn K mainGlobals "str" = some none)
  (z_list : PySem.W.nsIn K mainGlobals "list" = some none)
  (z_tuple : PySem.W.nsIn K mainGlobals "tuple" = some none) :
  ∃ (c T : Addr) (fd : FuncData), PySem.W.tabIn K "_law_made" = some (c, T) /\ PySem.W.noTabs K = true /\ (∀ (s : Shared) (v : Value), BindsTo s fd ⟨[v], []⟩ [("_law_script", v)]) /\ ∀ base : Heap, K.In base -> base.Ns mainGlobals mg -> Ze3 mg base c T -> Zcc l.prog w K mg base CX0 11 fa fd ["_law_script"] (Zep K T) := by
 have e := hfa.symm.trans (PySem.W.mg_of X G aq0u);cases e;have Fq0f := Zbd (st := Zbr) lq0f cq0f kq0f;have bq0f := Fq0f.binds (ps := ["value"]) fun _ _ _ _ _ _ us hl => match us, hl with | [_], _ => rfl
 have mq0f := PySem.W.mg_of X G aq0f;have Fq0b := Zbd (st := Zaz) lq0b cq0b kq0b;have bq0b := Fq0b.binds (ps := ["value", "low", "high"]) fun _ _ _ _ _ _ us hl => match us, hl with | [_, _, _], _ => rfl
 have mq0b := PySem.W.mg_of X G aq0b;have Fq0j := Zbd (st := Zbs) lq0j cq0j kq0j;have bq0j := Fq0j.binds (ps := ["value"]) fun _ _ _ _ _ _ us hl => match us, hl with | [_], _ => rfl
 have mq0j := PySem.W.mg_of X G aq0j;have Fq0d := Zbd (st := Zbi) lq0d cq0d kq0d;have bq0d := Fq0d.binds (ps := ["value"]) fun _ _ _ _ _ _ us hl => match us, hl with | [_], _ => rfl
 have mq0d := PySem.W.mg_of X G aq0d;have Fq0n := Zbd (st := Zb0) lq0n cq0n kq0n;have bq0n := Fq0n.binds (ps := ["value"]) fun _ _ _ _ _ _ us hl => match us, hl with | [_], _ => rfl
 have mq0n := PySem.W.mg_of X G aq0n;have Fq0k := Zbd (st := Zca) lq0k cq0k kq0k;have bq0k := Fq0k.binds (ps := ["value"]) fun _ _ _ _ _ _ us hl => match us, hl with | [_], _ => rfl
 have mq0k := PySem.W.mg_of X G aq0k;have Fq0m := Zbd (st := Zb1) lq0m cq0m kq0m;have bq0m := Fq0m.binds (ps := ["value"]) fun _ _ _ _ _ _ us hl => match us, hl with | [_], _ => rfl
 have mq0m := PySem.W.mg_of X G aq0m;have Fq0a := Zbd (st := Zau) lq0a cq0a kq0a;have bq0a := Fq0a.binds (ps := ["number", "sender", "goal", "body", "keep"]) fun _ _ _ _ _ _ us hl => match us, hl with | [_, _, _, _, _], _ => rfl
 have mq0a := PySem.W.mg_of X G aq0a;have Fq0g := Zbd (st := Zbt) lq0g cq0g kq0g;have bq0g := Fq0g.binds (ps := ["at"]) fun _ _ _ _ _ _ us hl => match us, hl with | [_], _ => rfl
 have mq0g := PySem.W.mg_of X G aq0g;have Fq0i := Zbd (st := Zbu) lq0i cq0i kq0i;have bq0i := Fq0i.binds (ps := ["at", "length", "more"]) fun _ _ _ _ _ _ us hl => match us, hl with | [_, _, _], _ => rfl
 have mq0i := PySem.W.mg_of X G aq0i;have Fq0q := Zbd (st := Zdq) lq0q cq0q kq0q;have bq0q := Fq0q.binds (ps := ["_law_state", "_law_base"]) fun _ _ _ _ _ _ us hl => match us, hl with | [_, _], _ => rfl
 have mq0q := PySem.W.mg_of X G aq0q;have Fq0t := Zbd (st := Zei) lq0t cq0t kq0t;have bq0t := Fq0t.binds (ps := ["_law_state"]) fun _ _ _ _ _ _ us hl => match us, hl with | [_], _ => rfl
 have mq0t := PySem.W.mg_of X G aq0t;have Fq0v := Zbd (st := Zhb) lq0v cq0v kq0v;have bq0v := Fq0v.binds (ps := ["_law_state"]) fun _ _ _ _ _ _ us hl => match us, hl with | [_], _ => rfl
 have mq0v := PySem.W.mg_of X G aq0v;have Fq0s := Zbd (st := Zd7) lq0s cq0s kq0s;have bq0s := Fq0s.binds (ps := ["_law_state", "_law_amount_here"]) fun _ _ _ _ _ _ us hl => match us, hl with | [_, _], _ => rfl
 have mq0s := PySem.W.mg_of X G aq0s;have Fq0l := Zbd (st := Zbz) lq0l cq0l kq0l;have bq0l := Fq0l.binds (ps := ["_law_ask"]) fun _ _ _ _ _ _ us hl => match us, hl with | [_], _ => rfl
 have mq0l := PySem.W.mg_of X G aq0l;have Fq0o := Zbd (st := Zb9) lq0o cq0o kq0o;have bq0o := Fq0o.binds (ps := ["_law_state", "_law_key_here"]) fun _ _ _ _ _ _ us hl => match us, hl with | [_, _], _ => rfl
 have mq0o := PySem.W.mg_of X G aq0o;have Fq0p := Zbd (st := Zcr) lq0p cq0p kq0p;have bq0p := Fq0p.binds (ps := ["_law_state", "_law_body_here"]) fun _ _ _ _ _ _ us hl => match us, hl with | [_, _], _ => rfl
 have mq0p := PySem.W.mg_of X G aq0p;have Fq0h := Zbd (st := Zbq) lq0h cq0h kq0h;have bq0h := Fq0h.binds (ps := ["_law_state", "_law_body_here"]) fun _ _ _ _ _ _ us hl => match us, hl with | [_, _], _ => rfl
 have mq0h := PySem.W.mg_of X G aq0h;have Fq0r := Zbd (st := s_made) lq0r cq0r kq0r;have FA_made : Zly K "_law_made" "_law_made" s_made _ _ (.ref cLaw) := ⟨_, _, _, _, _, _, _, _, rfl, lq0r, cq0r⟩
 have bq0r := Fq0r.binds (ps := ["_law_key_here", "_law_at", "_law_body_here", "_law_more", "_law_keep"]) fun _ _ _ _ _ _ us hl => match us, hl with | [_, _, _, _, _], _ => rfl
 have mq0r := PySem.W.mg_of X G aq0r;have Fq0u := Zbd (st := Zeg) lq0u cq0u kq0u;have bq0u := Fq0u.binds (ps := ["_law_script"]) fun _ _ _ _ _ _ us hl => match us, hl with | [_], _ => rfl
 have Fq0e := Zbd (st := Zbj) lq0e cq0e kq0e;have bq0e := Fq0e.binds (ps := ["self"]) fun _ _ _ _ _ _ us hl => match us, hl with | [_], _ => rfl
 have cl_Piece : Cls K C_Piece := ⟨pg_Piece, hd_Piece, po_Piece, sa_Piece⟩;have m_Piece := PySem.W.mg_of X G aC_Piece;have m_WayError := PySem.W.mg_of X G aC_WayError;have m_NoLetter := PySem.W.mg_of X G aC_NoLetter;have m_NoPiece := PySem.W.mg_of X G aC_NoPiece;have m_NoWidth := PySem.W.mg_of X G aC_NoWidth;have m_TooWide := PySem.W.mg_of X G aC_TooWide;have m_NoRule := PySem.W.mg_of X G aC_NoRule;have m_NoTime := PySem.W.mg_of X G aC_NoTime;have m_NoKey := PySem.W.mg_of X G aC_NoKey;have m_NoText := PySem.W.mg_of X G aC_NoText;have m_NoRow := PySem.W.mg_of X G aC_NoRow;have m_NoRoom := PySem.W.mg_of X G aC_NoRoom;have m_NoRoad := PySem.W.mg_of X G aC_NoRoad;have W_WayError : Zn1 K C_WayError := ⟨kty_WayError, kbe_WayError⟩;have X_NoPiece : XC K mg "NoPiece" C_NoPiece := ⟨m_NoPiece, exc_NoPiece⟩
 have E_NoPiece : Zj6 K C_NoPiece := ⟨ega_NoPiece, egt_NoPiece, ecl_NoPiece, eob_NoPiece, kbe_NoPiece⟩;have N_NoPiece : Kd K C_WayError [C_NoLetter, C_NoPiece, C_NoWidth, C_TooWide, C_NoRule, C_NoTime, C_NoKey, C_NoText, C_NoRow, C_NoRoom, C_NoRoad] C_NoPiece "piece" := ⟨1, ⟨E_NoPiece, ewy_NoPiece, Zlm eve_NoPiece, fun j c hc => by
  match j, hc with
  | 0, hc => cases hc; exact Zb3 kmr_NoPiece_NoLetter kty_NoLetter kbe_NoLetter kmr_NoPiece_NoPiece
  | 1, hc => cases hc; exact Zb3 kmr_NoPiece_NoPiece kty_NoPiece kbe_NoPiece kmr_NoPiece_NoPiece
  | 2, hc => cases hc; exact Zb3 kmr_NoPiece_NoWidth kty_NoWidth kbe_NoWidth kmr_NoPiece_NoPiece
  | 3, hc => cases hc; exact Zb3 kmr_NoPiece_TooWide kty_TooWide kbe_TooWide kmr_NoPiece_NoPiece
  | 4, hc => cases hc; exact Zb3 kmr_NoPiece_NoRule kty_NoRule kbe_NoRule kmr_NoPiece_NoPiece
  | 5, hc => cases hc; exact Zb3 kmr_NoPiece_NoTime kty_NoTime kbe_NoTime kmr_NoPiece_NoPiece
  | 6, hc => cases hc; exact Zb3 kmr_NoPiece_NoKey kty_NoKey kbe_NoKey kmr_NoPiece_NoPiece
  | 7, hc => cases hc; exact Zb3 kmr_NoPiece_NoText kty_NoText kbe_NoText kmr_NoPiece_NoPiece
  | 8, hc => cases hc; exact Zb3 kmr_NoPiece_NoRow kty_NoRow kbe_NoRow kmr_NoPiece_NoPiece
  | 9, hc => cases hc; exact Zb3 kmr_NoPiece_NoRoom kty_NoRoom kbe_NoRoom kmr_NoPiece_NoPiece
  | 10, hc => cases hc; exact Zb3 kmr_NoPiece_NoRoad kty_NoRoad kbe_NoRoad kmr_NoPiece_NoPiece
  | j + 11, hc => simp at hc⟩, rfl⟩
 have RC : Zkr K mg C_WayError [C_NoLetter, C_NoPiece, C_NoWidth, C_TooWide, C_NoRule, C_NoTime, C_NoKey, C_NoText, C_NoRow, C_NoRoom, C_NoRoad] := ⟨m_WayError, W_WayError, rfl, (fun c hc => by cases hc; exact m_NoLetter), (fun c hc => by cases hc; exact m_NoPiece), (fun c hc => by cases hc; exact m_NoWidth), (fun c hc => by cases hc; exact m_TooWide), (fun c hc => by cases hc; exact m_NoRule), (fun c hc => by cases hc; exact m_NoTime), (fun c hc => by cases hc; exact m_NoKey), (fun c hc => by cases hc; exact m_NoText), (fun c hc => by cases hc; exact m_NoRow), (fun c hc => by cases hc; exact m_NoRoom), (fun c hc => by cases hc; exact m_NoRoad)⟩;have B5 : Bt5 mg := ⟨PySem.W.mg_none_of X G z_ValueError⟩;have B : Bt mg := ⟨PySem.W.mg_none_of X G z_len, PySem.W.mg_none_of X G z_range, PySem.W.mg_none_of X G z_isinstance, PySem.W.mg_none_of X G z_all, PySem.W.mg_none_of X G z_min, PySem.W.mg_none_of X G z_max, PySem.W.mg_none_of X G z_int, PySem.W.mg_none_of X G z_bool, PySem.W.mg_none_of X G z_str, PySem.W.mg_none_of X G z_list, PySem.W.mg_none_of X G z_tuple⟩;have T : Cn mg := ⟨⟨_, PySem.W.mg_of X G q_MOST_NUMBER⟩, ⟨_, PySem.W.mg_of X G q_MOST_BYTE⟩, ⟨_, PySem.W.mg_of X G q_MOST_SIGNS⟩, ⟨_, PySem.W.mg_of X G q_MOST_BYTES⟩, ⟨_, PySem.W.mg_of X G q_STEP⟩⟩;refine ⟨cLaw, tLaw, PySem.W.fnOf "law" "law" (Zaq Zeg) (defBody Zeg) (defScope Zeg) .none kVq0u dcq0u pmq0u anq0u cdq0u ctq0u, Zma aq0r lq0r rfl lcL l11, nt, fun s v => .of_eq rfl, fun base kb nb LC => ?_⟩;have LP : Zn2 K C_Piece := ⟨cl_Piece, n_Piece_number, n_Piece_sender, n_Piece_goal, n_Piece_at, n_Piece_body, n_Piece_more, n_Piece_keep⟩;have gq0f : FnB l.prog w K mg base "is_whole" 1 ["value"] [] (Zce) := ⟨_, _, _, Zf9 Fq0f B, mq0f, kq0f, bq0f, .nil⟩
 have gq0b : FnB l.prog w K mg base "is_whole_within" 2 ["value", "low", "high"] [] (Zbb) := ⟨_, _, _, Zdg Fq0b gq0f, mq0b, kq0b, bq0b, .nil⟩
 have gq0j : FnB l.prog w K mg base "is_truth" 1 ["value"] [] (Zcf) := ⟨_, _, _, Zga Fq0j B, mq0j, kq0j, bq0j, .nil⟩
 have gq0d : FnB l.prog w K mg base "is_number" 3 ["value"] [] (Zcj) := ⟨_, _, _, Zfc Fq0d T gq0b, mq0d, kq0d, bq0d, .nil⟩
 have gq0n : FnB l.prog w K mg base "is_name" 1 ["value"] [] (Zdn) := ⟨_, _, _, Zhg Fq0n T B, mq0n, kq0n, bq0n, .nil⟩
 have gq0k : FnB l.prog w K mg base "is_byte" 3 ["value"] [] (Zdo) := ⟨_, _, _, Zhh Fq0k T gq0b, mq0k, kq0k, bq0k, .nil⟩
 have gq0m : FnB l.prog w K mg base "is_body" 4 ["value"] [] (Zdp) := ⟨_, _, _, Zhi Fq0m T B gq0k, mq0m, kq0m, bq0m, .nil⟩
 have gq0a : FnB l.prog w K mg base "are_shared_parts" 5 ["number", "sender", "goal", "body", "keep"] [] (Zbe) := ⟨_, _, _, Zc4 Fq0a gq0d gq0n gq0m gq0j, mq0a, kq0a, bq0a, .nil⟩
 have gq0g : FnB l.prog w K mg base "is_place" 2 ["at"] [] (Zcw) := ⟨_, _, _, Zgb Fq0g T gq0f, mq0g, kq0g, bq0g, .nil⟩
 have gq0i : FnB l.prog w K mg base "has_room" 1 ["at", "length", "more"] [] (Zcx) := ⟨_, _, _, Zgc Fq0i T, mq0i, kq0i, bq0i, .nil⟩
 have o_Piece : Zcc l.prog w K mg base (CXx l.prog w) 6 fq0c _ ["self", "number", "sender", "goal", "at", "body", "more", "keep"] (Zbl C_Piece C_NoPiece) := Zeh ⟨_, _, _, _, _, _, _, _, _, _, rfl, lq0c, cq0c⟩ LP B X_NoPiece gq0a gq0g gq0j gq0i;have M_Piece : Mk K C_Piece fq0c := ⟨mk_Piece, aq0c, iq0c, kc_Piece⟩;have i_Piece : CtX l.prog w K mg base "Piece" 6 (Zbw C_Piece C_NoPiece) := Zpb o_Piece m_Piece M_Piece (fun s us kx hl => match us, hl with | [_, _, _, _, _, _, _, _], _ => Ze2 kx tq0c)
 have mq0e : MtB l.prog w K mg base C_Piece "end" 1 ["self"] [] (Zb6 C_Piece) := ⟨_, _, _, Zfd Fq0e LP B, cl_Piece, ⟨aq0e, iq0e, kq0e⟩, bq0e, .nil⟩
 have gq0q : FnB l.prog w K mg base "_law_digit" 1 ["_law_state", "_law_base"] [] (Zbp) := ⟨_, _, _, Zjq Fq0q B, mq0q, kq0q, bq0q, .nil⟩
 have gq0t : FnB l.prog w K mg base "_law_name" 2 ["_law_state"] [] (Zfy) := ⟨_, _, _, Zlf Fq0t B gq0q, mq0t, kq0t, bq0t, .nil⟩
 have gq0v : FnB l.prog w K mg base "_law_key" 3 ["_law_state"] [] (Zh4) := ⟨_, _, _, Znf Fq0v gq0q gq0t, mq0v, kq0v, bq0v, .nil⟩
 have gq0s : FnB l.prog w K mg base "_law_body" 2 ["_law_state", "_law_amount_here"] [] (Zfz) := ⟨_, _, _, Zlh Fq0s B gq0q, mq0s, kq0s, bq0s, .nil⟩
 have gq0l : FnB l.prog w K mg base "_law_refusal" 10 ["_law_ask"] [] (Zdl l.prog w K mg base 9 C_WayError [C_NoLetter, C_NoPiece, C_NoWidth, C_TooWide, C_NoRule, C_NoTime, C_NoKey, C_NoText, C_NoRow, C_NoRoom, C_NoRoad]) := ⟨_, _, _, Zhe Fq0l B B5 RC, mq0l, kq0l, bq0l, .nil⟩
 have gq0o : FnB l.prog w K mg base "_law_odd_key" 2 ["_law_state", "_law_key_here"] [] (Zdm) := ⟨_, _, _, Zhf Fq0o gq0q, mq0o, kq0o, bq0o, .nil⟩
 have gq0p : FnB l.prog w K mg base "_law_odd_at" 2 ["_law_state", "_law_body_here"] [] (Zd5) := ⟨_, _, _, Zik Fq0p B gq0q, mq0p, kq0p, bq0p, .nil⟩
 have gq0h : FnB l.prog w K mg base "_law_odd_body" 2 ["_law_state", "_law_body_here"] [] (Zcv) := ⟨_, _, _, Zf8 Fq0h B gq0q, mq0h, kq0h, bq0h, .nil⟩
 have gq0r : FnB l.prog w K mg base "_law_made" 1 ["_law_key_here", "_law_at", "_law_body_here", "_law_more", "_law_keep"] [] (Zeo tLaw) := ⟨_, _, _, Zlg FA_made LC, mq0r, kq0r, bq0r, .nil⟩
 exact Zne Fq0u B N_NoPiece LP gq0q gq0v gq0s gq0o gq0p gq0h gq0r gq0l i_Piece mq0e
theorem walk {l : PySem.W.OpenLaw} {q : Program} {loose : List Str} {XP : (Str -> Option Value) -> Heap -> Prop} {YP : World -> Heap -> Prop} {d d2 : DefRec} {K : Params -> PySem.W.Frag} (hn : l.most = some 63) (hdf : d.params.defaults = [])
  (hY : ∀ (w : World) (h : Heap), YP w h -> (K w.params).In h) (hrec : (recsOf q).find? (fun e => e.name == ("_law_made" : Str)) = some d2)
  (F : ∀ (w : World) (mg : Str -> Option Value) (fa : Addr) (h : Heap), (K w.params).In h -> h.Ns mainGlobals mg -> mg d.name = some (.ref fa) ->
   ∃ (c T : Addr) (fd : FuncData), PySem.W.tabIn (K w.params) "_law_made" = some (c, T) /\ PySem.W.noTabs (K w.params) = true /\ (∀ (s : Shared) (u : Value), BindsTo s fd ⟨[u], []⟩ [("_law_script", u)]) /\ ∀ base : Heap, (K w.params).In base -> base.Ns mainGlobals mg -> Ze3 mg base c T -> Zcc l.prog w (K w.params) mg base CX0 11 fa fd ["_law_script"] (Zep (K w.params) T)) :
  PySem.W.WalkO q loose XP YP l.row.toRowW d [] (fun f vs => PySem.call f vs) :=
 L2.walk_ofN (y := "_law_made") (n := 63) (k := 11) (x := "_law_script") (sp := fun w T => Zep (K w.params) T) hn (by decide) hdf ⟨rfl, by decide, by decide⟩ hY hrec F fun _ _ _ a ns hl hT hS => ⟨a, ns, rfl, hS, hl, hT, fun _ => rfl⟩
end Mine
namespace PySem.W.Fast
def tw2205325722846782464 := ()
def tw8067923683392783552 := ()
def tw9750809056542021888 := ()
def tw5291462591129460000 := ()
def tw12834624536174458176 := ()
def tw13738430193724325248 := ()
def tw6999417617720949184 := ()
def tw8686840462879657472 := ()
def tw10091248217847791136 := ()
def tw11663158875758220864 := ()
def tw16283467269089796736 := ()
def tw16161123652915753600 := ()
def tw9660662862563778208 := ()
def tw15973905615777318592 := ()
def tw7943221353345825472 := ()
def tw8687791577532548864 := ()
def tw11168124693560689472 := ()
def tw5246965784509828353 := ()
def tw15174370796420489665 := ()
def tw3523474778109416961 := ()
def tw12623360331330881281 := ()
def tw58211072268489826 := ()
def tw3693911369859865858 := ()
def tw10690925960336311586 := ()
def tw15807499761510360546 := ()
def tw11158971188717827235 := ()
def tw9239529967186787523 := ()
def tw18317204024271729923 := ()
def tw4485353277940236707 := ()
def tw2825971505418516035 := ()
def tw16692435333895394915 := ()
def tw3267845978658236131 := ()
def tw5919651211517587299 := ()
def tw8560203197390280579 := ()
def tw17930816302278982531 := ()
def tw5408467725944393635 := ()
def tw3731867073237617603 := ()
def tw6194981468295672803 := ()
def tw2076587758070554660 := ()
def tw11841485084478552196 := ()
def tw13091282036666357700 := ()
def tw4888139056752511940 := ()
def tw6465170212038143109 := ()
def tw3057889634992152741 := ()
def tw2015239732419507429 := ()
def tw7541522073096015205 := ()
def tw9076543692449177125 := ()
def tw17445327027567721029 := ()
def tw16790841304040281829 := ()
def tw15510026601549352741 := ()
def tw17381809975906203686 := ()
def tw16281168875353737318 := ()
def tw16779014318331518086 := ()
def tw12881162783772233894 := ()
def tw10694351768296576358 := ()
def tw13739680547232950726 := ()
def tw11184479270481820230 := ()
def tw9376535747478380262 := ()
def tw10194504566974804934 := ()
def tw13260032022254532711 := ()
def tw6752143837008166119 := ()
def tw14142418876143956199 := ()
def tw8392171654055835911 := ()
def tw7470017100925913383 := ()
def tw10008616030174952871 := ()
def tw13621549015962587719 := ()
def tw5659354330293007015 := ()
def tw2739515345839539015 := ()
def tw6434841917569049543 := ()
def tw8408898137564770440 := ()
def tw12218972149378525480 := ()
def tw8543642294336907752 := ()
def tw5889976082932325896 := ()
def tw14599340121078076008 := ()
def tw17656285655909343848 := ()
def tw1957303001716028296 := ()
def tw2721365029423078376 := ()
def tw1157685295454089257 := ()
def tw2974928394151513225 := ()
def tw255549901181187209 := ()
def tw11267949737774403785 := ()
def tw3535518858803537193 := ()
def tw16363830041428411785 := ()
def tw2900479695011906985 := ()
def tw2350668278762208873 := ()
def tw13811585773052679081 := ()
def tw9078770102218605545 := ()
def tw1415318782161305994 := ()
def tw18026982959568842474 := ()
def tw2371728674279449546 := ()
def tw16837335397594590186 := ()
def tw18151037911219814411 := ()
def tw5735389650918239243 := ()
def tw15455288024603535499 := ()
def tw8868592382625175819 := ()
def tw12474144529895836299 := ()
def tw5151115400634929835 := ()
def tw8388657981599140715 := ()
def tw15122536800716647275 := ()
def tw4479680460883820684 := ()
def tw17049913202807262732 := ()
def tw7907328854596489964 := ()
def tw4419394457575745260 := ()
def tw7949204408609723148 := ()
def tw15595767811971381004 := ()
def tw1941529971055271852 := ()
def tw13625433688031260749 := ()
def tw12409199057397621005 := ()
def tw8591569115317770541 := ()
def tw15392594023790419309 := ()
def tw6840153890875781485 := ()
def tw4465900788038567341 := ()
def tw2239472151012768269 := ()
def tw7176722804841052877 := ()
def tw17060911796880719886 := ()
def tw10515657059753389294 := ()
def tw4706259124108010798 := ()
def tw15232797039522121102 := ()
def tw14612369226895654286 := ()
def tw57866211502220750 := ()
def tw1846426630527775182 := ()
def tw18240471250412249582 := ()
def tw4084694465343692302 := ()
def tw16805610731132768846 := ()
def tw14337022656468523662 := ()
def tw12834429993223622286 := ()
def tw13635750499776248494 := ()
def tw5822862964854113966 := ()
def tw5011853470071208942 := ()
def tw2793507633667352558 := ()
def tw10184294139719425071 := ()
def tw10459189339561659471 := ()
def tw13311967760510554287 := ()
def tw5518684356067519823 := ()
def tw8004458462264523087 := ()
def tw8767113171317359119 := ()
def tw7722952755042952943 := ()
def tw10111784701418515247 := ()
def tw10632585652720863151 := ()
def tw4008673304252928016 := ()
def tw9966987636723808432 := ()
def tw6183569116421995728 := ()
def tw12597778539863957200 := ()
def tw10903540794661201680 := ()
def tw195900784396998448 := ()
def tw5282965608054376304 := ()
def tw6063563155407555472 := ()
def tw1409027373958182832 := ()
def tw16973807566500082033 := ()
def tw2512942931425504977 := ()
def tw2560045597698165489 := ()
def tw1959896425566127921 := ()
def tw11715789633674764145 := ()
def tw1056192127410723825 := ()
def tw5537715828147145906 := ()
def tw18281172702608187698 := ()
def tw9488881541393888658 := ()
def tw9940178562924774802 := ()
def tw9752114691864935890 := ()
def tw15358710200103626194 := ()
def tw88688327840540338 := ()
def tw11789734164805529426 := ()
def tw3986735199808584851 := ()
def tw11957921415461243123 := ()
def tw17189396995442478323 := ()
def tw5765174853160119123 := ()
def tw2384002609822834740 := ()
def tw16231877664143749300 := ()
def tw3028835536779137364 := ()
def tw1737786562657370452 := ()
def tw6411579816697831892 := ()
def tw11339526768930683636 := ()
def tw845237865072606261 := ()
def tw8123142967649984789 := ()
def tw18276380527799374133 := ()
def tw6884796965717910133 := ()
def tw8413648903737022101 := ()
def tw6773513090254574549 := ()
def tw13907809897597948022 := ()
def tw13326607455644404950 := ()
def tw16574192990249560598 := ()
def tw120998317602604598 := ()
def tw12411431619324520182 := ()
def tw5656506174567679894 := ()
def tw5114180380297359286 := ()
def tw13288510919220454326 := ()
def tw5266045768511686614 := ()
def tw7105595376237783095 := ()
def tw14136459829239911575 := ()
def tw10544827274203062519 := ()
def tw3605893024114544919 := ()
def tw6992327434629045655 := ()
def tw2728308241092222583 := ()
def tw8010765893391727287 := ()
def tw119542692643311447 := ()
def tw13710342543237740407 := ()
def tw7666877807534774167 := ()
def tw5252818873374911479 := ()
def tw10683386118481106040 := ()
def tw16227642107922341272 := ()
def tw9856868181869719064 := ()
def tw16837701291953918680 := ()
def tw1981761606124761848 := ()
def tw8375230928893515801 := ()
def tw8905452128547090361 := ()
def tw1129633041338820634 := ()
def tw4827452431320068346 := ()
def tw11578896444803034490 := ()
def tw6621497597984846202 := ()
def tw17821907925197310426 := ()
def tw3416718102876894714 := ()
def tw1193874598857344538 := ()
def tw6013027797146287930 := ()
def tw11614921430544181146 := ()
def tw8817479188208549850 := ()
def tw9176557687368194042 := ()
def tw15453657621031305210 := ()
def tw1902173238652991131 := ()
def tw14421621578662772379 := ()
def tw7526295511474884283 := ()
def tw7319855077965386459 := ()
def tw8101944652320866043 := ()
def tw17014480155506063388 := ()
def tw8523421681020293244 := ()
def tw6038628680918886556 := ()
def tw17317490613288788188 := ()
def tw10941122422429050076 := ()
def tw339198177247360380 := ()
def tw11027243971820291740 := ()
def tw14506098146151627612 := ()
def tw3552298437178815933 := ()
def tw5340907050901422557 := ()
def tw11250103802854724221 := ()
def tw12402881938245096381 := ()
def tw5955784896101216478 := ()
def tw2314580253957233022 := ()
def tw4207481416641576478 := ()
def tw4850347537395775198 := ()
def tw10045495300205209374 := ()
def tw391567779852908414 := ()
def tw10654643722033977310 := ()
def tw8651316589560161439 := ()
def tw4508918210358689087 := ()
def tw4794249212026274303 := ()
def tw13727672605671192063 := ()
def tw15745466198034620991 := ()
def tw6744193810166627999 := ()
def tw13417491309197561535 := ()
def tw6176974533848926047 := ()
end PySem.W.Fast
open PySem PySem.W PyProof.Rows
set_option maxRecDepth 100000 in
set_option maxHeartbeats 0 in
theorem PySem.Challenge.cw_pieceways_k04_what_is_no_piece_holds : PySem.Challenge.rw_pieceways_k04_what_is_no_piece.Holds := by
 w_on; o_law; k_head; (case hw => w_witness2)
 k_fill
 refine Mine.walk (l := PySem.Challenge.rw_pieceways_k04_what_is_no_piece) rfl rfl (fun w h Y => PySem.W.km_in_of Y) rfl ?F
 case F =>
  intro w mg fa h KX G hmg;refine' Mine.all_mk KX G hmg ?aq0f ?lq0f ?cq0f ?kq0f ?aq0b ?lq0b ?cq0b ?kq0b ?aq0j ?lq0j ?cq0j ?kq0j ?aq0d ?lq0d ?cq0d ?kq0d ?aq0n ?lq0n ?cq0n ?kq0n ?aq0k ?lq0k ?cq0k ?kq0k ?aq0m ?lq0m ?cq0m ?kq0m ?aq0a ?lq0a ?cq0a ?kq0a ?aq0g ?lq0g ?cq0g ?kq0g ?aq0i ?lq0i ?cq0i ?kq0i ?aq0q ?lq0q ?cq0q ?kq0q ?aq0t ?lq0t ?cq0t ?kq0t ?aq0v ?lq0v ?cq0v ?kq0v ?aq0s ?lq0s ?cq0s ?kq0s ?aq0l ?lq0l ?cq0l ?kq0l ?aq0o ?lq0o ?cq0o ?kq0o ?aq0p ?lq0p ?cq0p ?kq0p ?aq0h ?lq0h ?cq0h ?kq0h ?aq0r ?lq0r ?cq0r ?lcL ?l11 ?kq0r ?aq0u ?lq0u ?cq0u ?kq0u ?aC_Piece ?aq0c ?iq0c ?lq0c ?cq0c ?kq0c ?tq0c ?aq0e ?iq0e ?lq0e ?cq0e ?kq0e ?pg_Piece ?hd_Piece ?po_Piece ?sa_Piece ?mk_Piece ?kc_Piece ?n_Piece_number ?n_Piece_sender ?n_Piece_goal ?n_Piece_at ?n_Pieceq0s ?n_Piece_more ?n_Piece_keep ?aC_WayError ?kty_WayError ?kbe_WayError ?aC_NoLetter ?kty_NoLetter ?kbe_NoLetter ?aC_NoPiece ?kty_NoPiece ?kbe_NoPiece ?aC_NoWidth ?kty_NoWidth ?kbe_NoWidth ?aC_TooWide ?kty_TooWide ?kbe_TooWide ?aC_NoRule ?kty_NoRule ?kbe_NoRule ?aC_NoTime ?kty_NoTime ?kbe_NoTime ?aC_NoKey ?kty_NoKey ?kbe_NoKey ?aC_NoText ?kty_NoText ?kbe_NoText ?aC_NoRow ?kty_NoRow ?kbe_NoRow ?aC_NoRoom ?kty_NoRoom ?kbe_NoRoom ?aC_NoRoad ?kty_NoRoad ?kbe_NoRoad ?exc_NoPiece ?ega_NoPiece ?egt_NoPiece ?ecl_NoPiece ?eob_NoPiece ?eve_NoPiece ?ewy_NoPiece ?kmr_NoPiece_NoLetter ?kmr_NoPiece_NoPiece ?kmr_NoPiece_NoWidth ?kmr_NoPiece_TooWide ?kmr_NoPiece_NoRule ?kmr_NoPiece_NoTime ?kmr_NoPiece_NoKey ?kmr_NoPiece_NoText ?kmr_NoPiece_NoRow ?kmr_NoPiece_NoRoom ?kmr_NoPiece_NoRoad ?z_ValueError ?nt ?q_MOST_NUMBER ?q_MOST_BYTE ?q_MOST_SIGNS ?q_MOST_BYTES ?q_STEP ?z_len ?z_range ?z_isinstance ?z_all ?z_min ?z_max ?z_int ?z_bool ?z_str ?z_list ?z_tuple
  (case aq0f => k_is)
  (case lq0f => k_is)
  (case cq0f => k_is)
  (case kq0f => k_is)
  (case aq0b => k_is)
  (case lq0b => k_is)
  (case cq0b => k_is)
  (case kq0b => k_is)
  (case aq0j => k_is)
  (case lq0j => k_is)
  (case cq0j => k_is)
  (case kq0j => k_is)
  (case aq0d => k_is)
  (case lq0d => k_is)
  (case cq0d => k_is)
  (case kq0d => k_is)
  (case aq0n => k_is)
  (case lq0n => k_is)
  (case cq0n => k_is)
  (case kq0n => k_is)
  (case aq0k => k_is)
  (case lq0k => k_is)
  (case cq0k => k_is)
  (case kq0k => k_is)
  (case aq0m => k_is)
  (case lq0m => k_is)
  (case cq0m => k_is)
  (case kq0m => k_is)
  (case aq0a => k_is)
  (case lq0a => k_is)
  (case cq0a => k_is)
  (case kq0a => k_is)
  (case aq0g => k_is)
  (case lq0g => k_is)
  (case cq0g => k_is)
  (case kq0g => k_is)
  (case aq0i => k_is)
  (case lq0i => k_is)
  (case cq0i => k_is)
  (case kq0i => k_is)
  (case aq0q => k_is)
  (case lq0q => k_is)
  (case cq0q => k_is)
  (case kq0q => k_is)
  (case aq0t => k_is)
  (case lq0t => k_is)
  (case cq0t => k_is)
  (case kq0t => k_is)
  (case aq0v => k_is)
  (case lq0v => k_is)
  (case cq0v => k_is)
  (case kq0v => k_is)
  (case aq0s => k_is)
  (case lq0s => k_is)
  (case cq0s => k_is)
  (case kq0s => k_is)
  (case aq0l => k_is)
  (case lq0l => k_is)
  (case cq0l => k_is)
  (case kq0l => k_is)
  (case aq0o => k_is)
  (case lq0o => k_is)
  (case cq0o => k_is)
  (case kq0o => k_is)
  (case aq0p => k_is)
  (case lq0p => k_is)
  (case cq0p => k_is)
  (case kq0p => k_is)
  (case aq0h => k_is)
  (case lq0h => k_is)
  (case cq0h => k_is)
  (case kq0h => k_is)
  (case aq0r => k_is)
  (case lq0r => k_is)
  (case cq0r => k_is)
  (case lcL => k_is)
  (case l11 => exact rfl)
  (case kq0r => k_is)
  (case aq0u => k_is)
  (case lq0u => k_is)
  (case cq0u => k_is)
  (case kq0u => k_is)
  (case aC_Piece => k_is)
  (case aq0c => k_is)
  (case iq0c => k_is)
  (case lq0c => k_is)
  (case cq0c => k_is)
  (case kq0c => k_is)
  (case tq0c => k_is)
  (case aq0e => k_is)
  (case iq0e => k_is)
  (case lq0e => k_is)
  (case cq0e => k_is)
  (case kq0e => k_is)
  (case pg_Piece => k_is)
  (case hd_Piece => k_is)
  (case po_Piece => k_is)
  (case sa_Piece => k_is)
  (case mk_Piece => k_is)
  (case kc_Piece => k_is)
  (case n_Piece_number => k_is)
  (case n_Piece_sender => k_is)
  (case n_Piece_goal => k_is)
  (case n_Piece_at => k_is)
  (case n_Pieceq0s => k_is)
  (case n_Piece_more => k_is)
  (case n_Piece_keep => k_is)
  (case aC_WayError => k_is)
  (case kty_WayError => k_is)
  (case kbe_WayError => k_is)
  (case aC_NoLetter => k_is)
  (case kty_NoLetter => k_is)
  (case kbe_NoLetter => k_is)
  (case aC_NoPiece => k_is)
  (case kty_NoPiece => k_is)
  (case kbe_NoPiece => k_is)
  (case aC_NoWidth => k_is)
  (case kty_NoWidth => k_is)
  (case kbe_NoWidth => k_is)
  (case aC_TooWide => k_is)
  (case kty_TooWide => k_is)
  (case kbe_TooWide => k_is)
  (case aC_NoRule => k_is)
  (case kty_NoRule => k_is)
  (case kbe_NoRule => k_is)
  (case aC_NoTime => k_is)
  (case kty_NoTime => k_is)
  (case kbe_NoTime => k_is)
  (case aC_NoKey => k_is)
  (case kty_NoKey => k_is)
  (case kbe_NoKey => k_is)
  (case aC_NoText => k_is)
  (case kty_NoText => k_is)
  (case kbe_NoText => k_is)
  (case aC_NoRow => k_is)
  (case kty_NoRow => k_is)
  (case kbe_NoRow => k_is)
  (case aC_NoRoom => k_is)
  (case kty_NoRoom => k_is)
  (case kbe_NoRoom => k_is)
  (case aC_NoRoad => k_is)
  (case kty_NoRoad => k_is)
  (case kbe_NoRoad => k_is)
  (case exc_NoPiece => k_exc)
  (case ega_NoPiece => k_is)
  (case egt_NoPiece => k_is)
  (case ecl_NoPiece => k_is)
  (case eob_NoPiece => k_is)
  (case eve_NoPiece => k_is)
  (case ewy_NoPiece => k_is)
  (case kmr_NoPiece_NoLetter => k_is)
  (case kmr_NoPiece_NoPiece => k_is)
  (case kmr_NoPiece_NoWidth => k_is)
  (case kmr_NoPiece_TooWide => k_is)
  (case kmr_NoPiece_NoRule => k_is)
  (case kmr_NoPiece_NoTime => k_is)
  (case kmr_NoPiece_NoKey => k_is)
  (case kmr_NoPiece_NoText => k_is)
  (case kmr_NoPiece_NoRow => k_is)
  (case kmr_NoPiece_NoRoom => k_is)
  (case kmr_NoPiece_NoRoad => k_is)
  (case z_ValueError => k_is)
  (case nt => kernel_rfl)
  (case q_MOST_NUMBER => k_is)
  (case q_MOST_BYTE => k_is)
  (case q_MOST_SIGNS => k_is)
  (case q_MOST_BYTES => k_is)
  (case q_STEP => k_is)
  (case z_len => k_is)
  (case z_range => k_is)
  (case z_isinstance => k_is)
  (case z_all => k_is)
  (case z_min => k_is)
  (case z_max => k_is)
  (case z_int => k_is)
  (case z_bool => k_is)
  (case z_str => k_is)
  (case z_list => k_is)
  (case z_tuple => k_is)
