import PyProof.Rows.All
import Wide.All
import OpenK.AllK
import Wide.FinOn
import Lean
import PyProof.EqAt
import PyProof.EqKinds
import PyProof.TupleCall
import PySem.Challenge.RW_sayhall_k14_texts_refused
set_option bootstrap.genMatcherCode false
noncomputable section
set_option Elab.async false
set_option linter.all false
set_option maxRecDepth 100000
abbrev yb := List PySem.PyData
abbrev yc := PySem.Str -> Option PySem.Value
abbrev yd := List (PySem.Addr × PySem.Obj)
abbrev ye := PySem.Value -> PySem.Shared -> Prop
namespace L2
open PySem PySem.Spec PyProof.Rows
abbrev Key := Sum Int Str
noncomputable def zz : Key -> Value -> Bool
 | .inl k, v => Value.isInt k v
 | .inr x, v => Value.isStrOf x v
noncomputable def keyH (w : World) : Key -> Int
 | .inl k => hashInt k
 | .inr x => hashStr w x
theorem aL : ∀ {k : Key} {v : Value}, zz k v = true -> (∃ i t, k = Sum.inl i /\ v = Value.int i t) \/ (∃ x t, k = Sum.inr x /\ v = Value.str x t)
 | .inl i, v, h => by
  obtain ⟨t, e⟩ := Value.isInt_shape (k := i) (v := v) h
  exact .inl ⟨i, t, rfl, e⟩
 | .inr x, v, h => by
  obtain ⟨t, e⟩ := Value.isStrOf_shape (x := x) (v := v) h
  exact .inr ⟨x, t, rfl, e⟩
theorem lG (i : Int) (t : Tok) : zz (.inl i) (.int i t) = true := by simp [zz, Value.isInt]
theorem lH (x : Str) (t : Tok) : zz (.inr x) (.str x t) = true := by simp [zz, Value.isStrOf]
theorem qO (a b : Int) : decide ((Sum.inl a : Key) = Sum.inl b) = (a == b) := by
 by_cases e : a = b
 ·subst e; simp
 ·have h : ¬ (Sum.inl a : Key) = Sum.inl b := fun q => e (Sum.inl.inj q)
  rw [decide_eq_false h]
  exact (beq_eq_false_iff_ne.mpr e).symm
theorem qP (a b : Str) : decide ((Sum.inr a : Key) = Sum.inr b) = decide (a = b) := by
 by_cases e : a = b
 ·subst e; simp
 ·have h : ¬ (Sum.inr a : Key) = Sum.inr b := fun q => e (Sum.inr.inj q)
  rw [decide_eq_false h, decide_eq_false e]
theorem qQ (a : Int) (b : Str) : decide ((Sum.inl a : Key) = Sum.inr b) = false := decide_eq_false (fun q => nomatch q)
theorem qR (a : Str) (b : Int) : decide ((Sum.inr a : Key) = Sum.inl b) = false := decide_eq_false (fun q => nomatch q)
noncomputable def yA (prog : Program) (w : World) : PySem.KeyKind prog w Key where
 is := zz
 hash := keyH w
 inj := fun v a b ha hb => by
  rcases aL ha with ⟨i, t, rfl, rfl⟩ | ⟨x, t, rfl, rfl⟩
  ·rcases aL hb with ⟨j, u, rfl, e⟩ | ⟨y, u, rfl, e⟩
   ·injection e with e1 _; rw [e1]
   ·exact nomatch e
  ·rcases aL hb with ⟨j, u, rfl, e⟩ | ⟨y, u, rfl, e⟩
   ·exact nomatch e
   ·injection e with e1 _; rw [e1]
 byValue := fun k v h => by
  rcases aL h with ⟨i, t, rfl, rfl⟩ | ⟨x, t, rfl, rfl⟩ <;> rfl
 pyHash := fun hv h => by
  rcases aL hv with ⟨i, t, rfl, rfl⟩ | ⟨x, t, rfl, rfl⟩
  ·exact wpAny_pyHash_int h
  ·exact wpAny_pyHash_str h
 eqBool := fun hu hv h => by
  rcases aL hu with ⟨i, t, rfl, rfl⟩ | ⟨x, t, rfl, rfl⟩
  ·rcases aL hv with ⟨j, u, rfl, rfl⟩ | ⟨y, u, rfl, rfl⟩
   ·rw [qO] at h; exact wpAny_eqBool_int h
   ·rw [qQ] at h; exact SeqAt.EqAt.int_str i t y u _ _ _ _ h
  ·rcases aL hv with ⟨j, u, rfl, rfl⟩ | ⟨y, u, rfl, rfl⟩
   ·rw [qR] at h; exact SeqAt.EqAt.str_int x t j u _ _ _ _ h
   ·rw [qP] at h; exact wpAny_eqBool_str h
 «strs» := fun k x t v h => by
  rcases aL h with ⟨i, u, rfl, e⟩ | ⟨y, u, rfl, e⟩
  ·exact nomatch e
  ·injection e with e1 _
   subst e1
   cases v <;> rfl
theorem j2 (prog : Program) (w : World) (i : Int) (t : Tok) : (yA prog w).is (.inl i) (.int i t) = true := lG i t
theorem j3 (prog : Program) (w : World) (x : Str) (t : Tok) : (yA prog w).is (.inr x) (.str x t) = true := lH x t
inductive V where
 | non | bl (b : Bool) | int (i : Int) | str (x : Str) | byt (b : Array UInt8) | flt (b : UInt64) | ref (a : Addr) | ty (n : String)
 deriving DecidableEq
noncomputable def RelV : V -> Value -> Prop
 | .non, u => u = Value.none
 | .bl b, u => u = Value.bool b
 | .int i, u => ∃ t, u = Value.int i t
 | .str x, u => ∃ t, u = Value.str x t
 | .byt b, u => ∃ t, u = Value.bytes b t
 | .flt b, u => ∃ t, u = Value.float b t
 | .ref a, u => u = Value.ref a
 | .ty n, u => u = Value.type n
abbrev Vals : List V -> List Value -> Prop := Paired RelV
theorem Vals.length {xs : List V} {us : List Value} (r : Vals xs us) : xs.length = us.length := Paired.length r
theorem Vals.get : ∀ {xs : List V} {us : List Value} {i : Nat} {x : V}, Vals xs us -> xs[i]? = some x -> ∃ u, us[i]? = some u /\ RelV x u
 | _, _, _, _, .nil, e => by simp at e
 | _, _, 0, _, .cons r _, e => by simp at e; subst e; exact ⟨_, rfl, r⟩
 | _, _, i + 1, x, .cons _ t, e => by
  obtain ⟨u, h1, h2⟩ := Vals.get (i := i) (x := x) t (by simpa using e)
  exact ⟨u, by simpa using h1, h2⟩
theorem Vals.set {x : V} {u : Value} (r : RelV x u) : ∀ {xs : List V} {us : List Value} (i : Nat), Vals xs us -> Vals (xs.set i x) (us.set i u)
 | _, _, _, .nil => .nil
 | _, _, 0, .cons _ t => .cons r t
 | _, _, i + 1, .cons q t => .cons q (Vals.set r i t)
theorem Vals.append : ∀ {xs ys : List V} {us ws : List Value}, Vals xs us -> Vals ys ws -> Vals (xs ++ ys) (us ++ ws)
 | _, _, _, _, .nil, s => s
 | _, _, _, _, .cons r t, s => .cons r (Vals.append t s)
theorem Vals.take : ∀ {xs : List V} {us : List Value} (n : Nat), Vals xs us -> Vals (xs.take n) (us.take n)
 | _, _, 0, _ => .nil
 | _, _, _ + 1, .nil => .nil
 | _, _, n + 1, .cons r t => .cons r (Vals.take n t)
theorem Vals.drop : ∀ {xs : List V} {us : List Value} (n : Nat), Vals xs us -> Vals (xs.drop n) (us.drop n)
 | _, _, 0, r => r
 | _, _, _ + 1, .nil => .nil
 | _, _, n + 1, .cons _ t => Vals.drop n t
noncomputable def RelO : Option V -> Option Value -> Prop
 | some v, some u => RelV v u
 | none, none => True
 | _, _ => False
noncomputable def KV {κ : Type} : List (κ × V) -> List (κ × Value) -> Prop := Paired fun (p : κ × V) (q : κ × Value) => p.1 = q.1 /\ RelV p.2 q.2
def kV : Key -> V
 | .inl i => .int i
 | .inr x => .str x
inductive HO where
 | lst (xs : List V)
 | tup (xs : List V)
 | dK (kvs : List (Key × V)) | dT (kvs : List (List Key × V))
 | set (S : Int -> Bool) (n : Nat)
 | ins (C dx : Addr) (fs : List (Str × V))
 | own (x : Addr)
 | xd (fs : List (Str × V))
 | met (f x : Addr)
 | rng (lo hi : Int)
 | frz (o : Obj) (u : HO)
 | tbl (ps : Array Value)
 | ext (φ : Heap -> Prop)
abbrev Hp := Addr -> Option HO
noncomputable def upd (H : Hp) (a : Addr) (o : HO) : Hp := fun b => if b = a then some o else H b
theorem ay {H : Hp} {a : Addr} {o : HO} : upd H a o a = some o := by unfold upd; rw [if_pos rfl]
theorem ak {H : Hp} {a b : Addr} {o : HO} (h : b ≠ a) : upd H a o b = H b := by unfold upd; rw [if_neg h]
theorem uL {H : Hp} {a b : Addr} {o u : HO} (h : H a = some o) (h' : H b = some u) (d : o ≠ u) : a ≠ b := by
 intro e; subst e; rw [h] at h'; exact d (Option.some.inj h')
theorem ar {H : Hp} {a b : Addr} {o : HO} (h : H a = some o) (h' : H b = none) : a ≠ b := by
 intro e; subst e; rw [h] at h'; cases h'
section
variable (P : Program) (w : World)
noncomputable def yz (H : Hp) (h : Heap) (a : Addr) : HO -> Prop
 | .lst xs => xs.length <= sizeLine /\ ∃ (its : List Value) (n : Nat), Vals xs its /\ h.get? a = some { cls := .type "list", data := .seq its.toArray n }
 | .tup xs => xs.length <= sizeLine /\ ∃ its : List Value, Vals xs its /\ IsTup h a its.toArray
 | .dK kvs => kvs.length <= sizeLine /\ (a == sysModules) = false /\ ∃ vs, KV kvs vs /\ h.DictOf (yA P w) a vs
 | .dT kvs => kvs.length <= sizeLine /\ (a == sysModules) = false /\ ∃ xs : List (List Key × Addr × Value),
   Paired (fun (p : List Key × V) (q : List Key × Addr × Value) => p.1 = q.1 /\ H q.2.1 = some (.tup (p.1.map kV)) /\ RelV p.2 q.2.2) kvs xs /\
   ∃ o es ep, h.get? a = some o /\ o.ExactDict /\ o.data = .dict es ep /\ es.toList = xs.map (entryOfKey (tupleKind (yA P w))) /\ (xs.map (·.1)).Nodup
 | .set S n => h.SetOf (intKind P w) a S n
 | .ins C dx fs => H dx = some (.own a) /\ fs.length <= 1000 /\ dx ≠ a /\ h.get? a = some (W.instObj C dx) /\
   ∃ mA, h.Ns1 dx mA /\ (∀ f, RelO (fs.lookup f) (mA f)) /\ PySem.Within mA (fs.map (·.1))
 | .own _ => ∃ o, h.get? a = some o
 | .xd fs => ∃ mA, h.Ns1 a mA /\ ∀ f, RelO (fs.lookup f) (mA f)
 | .rng lo hi => ∃ t u v, h.get? a = some { cls := .type "range", data := .fields #[.int lo t, .int hi u, .int 1 v] }
 | .frz o u => h.get? a = some o /\ yz H h a u
 | .tbl ps => h.get? a = some { cls := .none, data := .fields ps }
 | .met f x => h.get? a = some (W.methodObj (.ref f) (.ref x))
 | .ext φ => φ h /\ (∃ o, h.get? a = some o) /\ ∀ h1 h2 : Heap, φ h1 -> (∀ o, h1.get? a = some o -> h2.get? a = some o) -> φ h2
noncomputable def HOk (H : Hp) (h : Heap) : Prop := ∀ a o, H a = some o -> yz P w H h a o
end
section
variable {P : Program} {w : World} {H H' : Hp} {h h' : Heap} {a : Addr} {o : HO}
theorem yz.lt (x : yz P w H h a o) : a < h.objs.size := by
 cases o with
 | lst xs => obtain ⟨_, _, _, _, e⟩ := x; exact Heap.lt_size e
 | tup xs => obtain ⟨_, _, _, p⟩ := x; exact p.lt
 | dK kvs => obtain ⟨_, _, _, _, o, _, _, e, _⟩ := x; exact Heap.lt_size e
 | dT kvs => obtain ⟨_, _, _, _, o, _, _, e, _⟩ := x; exact Heap.lt_size e
 | set S n => obtain ⟨o, _, _, _, e, _⟩ := x; exact Heap.lt_size e
 | ins C dx fs => obtain ⟨_, _, _, e, _⟩ := x; exact Heap.lt_size e
 | own y => obtain ⟨_, e⟩ := x; exact Heap.lt_size e
 | xd fs => obtain ⟨_, ⟨_, _, _, e, _⟩, _⟩ := x; exact Heap.lt_size e
 | rng lo hi => obtain ⟨_, _, _, e⟩ := x; exact Heap.lt_size e
 | frz ob u => obtain ⟨e, _⟩ := x; exact Heap.lt_size e
 | tbl ps => exact Heap.lt_size (show h.get? a = some _ from x)
 | met f y => exact Heap.lt_size (show h.get? a = some _ from x)
 | ext φ => obtain ⟨_, ⟨_, e⟩, _⟩ := x; exact Heap.lt_size e
theorem Paired.mapP {α β : Type} {F G : α -> β -> Prop} : ∀ {l₁ : List α} {l₂ : List β}, Paired F l₁ l₂ -> (∀ a b, F a b -> G a b) -> Paired G l₁ l₂
 | _, _, .nil, _ => .nil
 | _, _, .cons r t, f => .cons (f _ _ r) (Paired.mapP t f)
theorem yz.stay (x : yz P w H h a o) (k : ∀ b u, (b = a \/ H b = some (.own a)) -> h.get? b = some u -> h'.get? b = some u)
  (ho : ∀ b, H b = some (.own a) -> H' b = some (.own a)) (ht : ∀ b xs, H b = some (.tup xs) -> H' b = some (.tup xs)) : yz P w H' h' a o := by
 induction o with
 | lst xs => obtain ⟨z, its, n, r, e⟩ := x; exact ⟨z, its, n, r, k _ _ (.inl rfl) e⟩
 | tup xs => obtain ⟨z, its, r, ob, e, c⟩ := x; exact ⟨z, its, r, ob, k _ _ (.inl rfl) e, c⟩
 | dK kvs => obtain ⟨z, y, vs, r, ob, es, ep, e, c⟩ := x; exact ⟨z, y, vs, r, ob, es, ep, k _ _ (.inl rfl) e, c⟩
 | dT kvs =>
  obtain ⟨z, y, xs, r, ob, es, ep, e, c⟩ := x
  exact ⟨z, y, xs, Paired.mapP r fun p q z => ⟨z.1, ht _ _ z.2.1, z.2.2⟩, ob, es, ep, k _ _ (.inl rfl) e, c⟩
 | set S n => obtain ⟨ob, es, ep, t, e, c⟩ := x; exact ⟨ob, es, ep, t, k _ _ (.inl rfl) e, c⟩
 | ins C dx fs =>
  obtain ⟨d, z, ne, e, mA, ⟨od, es, ep, e2, c⟩, r⟩ := x
  exact ⟨ho _ d, z, ne, k _ _ (.inl rfl) e, mA, ⟨od, es, ep, k _ _ (.inr d) e2, c⟩, r⟩
 | own y => obtain ⟨ob, e⟩ := x; exact ⟨ob, k _ _ (.inl rfl) e⟩
 | xd fs => obtain ⟨mA, ⟨od, es, ep, e, c⟩, r⟩ := x; exact ⟨mA, ⟨od, es, ep, k _ _ (.inl rfl) e, c⟩, r⟩
 | rng lo hi => obtain ⟨t, u, v, e⟩ := x; exact ⟨t, u, v, k _ _ (.inl rfl) e⟩
 | frz ob u ih => obtain ⟨e, q⟩ := x; exact ⟨k _ _ (.inl rfl) e, ih q⟩
 | tbl ps =>
  have e : h.get? a = some { cls := .none, data := .fields ps } := x
  show h'.get? a = some { cls := .none, data := .fields ps }
  exact k a _ (.inl rfl) e
 | met f y =>
  have e : h.get? a = some (W.methodObj (.ref f) (.ref y)) := x
  show h'.get? a = some (W.methodObj (.ref f) (.ref y))
  exact k a _ (.inl rfl) e
 | ext φ => obtain ⟨p, ⟨o, e⟩, st⟩ := x; exact ⟨st _ _ p fun o q => k _ _ (.inl rfl) q, ⟨o, k _ _ (.inl rfl) e⟩, st⟩
theorem HOk.lt (x : HOk P w H h) (e : H a = some o) : a < h.objs.size := (x a o e).lt
theorem HOk.fresh (x : HOk P w H h) (e : h.objs.size <= a) : H a = none := by
 cases q : H a with
 | none => rfl
 | some u => exact absurd (Nat.lt_of_lt_of_le (x.lt q) e) (Nat.lt_irrefl _)
theorem HOk.kept (x : HOk P w H h) (k : ∀ b u, h.get? b = some u -> h'.get? b = some u) : HOk P w H h' := fun a o e =>
 (x a o e).stay (fun b u _ q => k b u q) (fun _ q => q) fun _ _ q => q
theorem HOk.laid (x : HOk P w H h) (k : ∀ b u, h.get? b = some u -> h'.get? b = some u) (hp : h.objs.size <= a) (new : yz P w (upd H a o) h' a o) : HOk P w (upd H a o) h' := fun b u e => by
 have hn := x.fresh hp
 by_cases hb : b = a
 ·subst hb; rw [ay] at e; cases e; exact new
 ·rw [ak hb] at e
  exact (x b u e).stay (fun c v _ q => k c v q) (fun c q => by rw [ak (ar q hn)]; exact q) fun c xs q => by rw [ak (ar q hn)]; exact q
end
noncomputable def Rd (H : Hp) (a : Addr) (u : HO) : Prop := H a = some u \/ ∃ o, H a = some (.frz o u)
theorem Rd.of {H : Hp} {a : Addr} {u : HO} (h : H a = some u) : Rd H a u := .inl h
theorem Rd.ok {P : Program} {w : World} {H : Hp} {h : Heap} {a : Addr} {u : HO} (r : Rd H a u) (x : HOk P w H h) : yz P w H h a u := by
 rcases r with r | ⟨o, r⟩
 ·exact x a u r
 ·obtain ⟨_, q⟩ := x a _ r
  exact q
noncomputable def Mut : Option HO -> Prop
 | some (.lst _) => True
 | some (.dK _) => True
 | some (.dT _) => True
 | some (.set _ _) => True
 | some (.ins _ _ _) => True
 | some (.ext _) => True
 | _ => False
section
variable {P : Program} {w : World} {H : Hp} {h h' : Heap} {x e : Addr} {o' : HO}
theorem HOk.write (ok : HOk P w H h) (mu : Mut (H x)) (he : e = x \/ H e = some (.own x)) (k : ∀ b u, b ≠ e -> h.get? b = some u -> h'.get? b = some u) (heo : ∃ u, h'.get? e = some u)
  (new : yz P w (upd H x o') h' x o') : HOk P w (upd H x o') h' := fun b u q => by
 have nown : ∀ c y, H c = some (.own y) -> c ≠ x := fun c y r z => by subst z; rw [r] at mu; exact mu
 have ntup : ∀ c xs, H c = some (.tup xs) -> c ≠ x := fun c xs r z => by subst z; rw [r] at mu; exact mu
 by_cases hb : b = x
 ·subst hb; rw [ay] at q; cases q; exact new
 ·rw [ak hb] at q
  by_cases hbe : b = e
  ·have q' : H b = some (.own x) := by
    rcases he with z | z
    ·exact absurd (hbe.trans z) hb
    ·rw [hbe]; exact z
   rw [q] at q'; cases q'
   obtain ⟨v, hv⟩ := heo
   exact ⟨v, by rw [hbe]; exact hv⟩
  ·refine (ok b u q).stay (fun c v hc r => k c v ?_ r) (fun c r => by rw [ak (nown c b r)]; exact r) fun c xs r => by rw [ak (ntup c xs r)]; exact r
   rcases hc with rfl | hc
   ·exact hbe
   ·rintro rfl
    rcases he with z | z
    ·exact nown c b hc z
    ·rw [hc] at z; cases z; exact hb rfl
end
structure Un (fs ex : List Addr) (H H' : Hp) (h h' : Heap) : Prop where
 keep : ∀ b o, h.get? b = some o -> H b = none -> b ∉ fs -> b ∉ ex -> h'.get? b = some o
 slot : ∀ b o, h.get? b = some o -> H b = none -> b ∈ fs -> b ∉ ex -> ∃ sl, h'.get? b = some { o with slots := sl }
 free : ∀ b o, h.get? b = some o -> H b = none -> b ∉ ex -> H' b = none
 there : ∀ b o, h.get? b = some o -> b ∉ ex -> ∃ o', h'.get? b = some o'
 tups : ∀ b xs, H b = some (.tup xs) -> H' b = some (.tup xs)
 frzs : ∀ b o u, H b = some (.frz o u) -> H' b = some (.frz o u)
 tbls : ∀ b ps, H b = some (.tbl ps) -> ∃ more, H' b = some (.tbl (ps ++ more))
section
variable {fs fs' ex ex' : List Addr} {H H1 H2 : Hp} {h h1 h2 h' : Heap} {a x e : Addr} {o : HO}
theorem Un.any (u : Un fs ex H H1 h h1) {b : Addr} {ob : Obj} (q : h.get? b = some ob) (n : H b = none) (hx : b ∉ ex) : ∃ sl, h1.get? b = some { ob with slots := sl } := by
 by_cases hb : b ∈ fs
 ·exact u.slot b ob q n hb hx
 ·exact ⟨ob.slots, u.keep b ob q n hb hx⟩
theorem Un.trans (a : Un fs ex H H1 h h1) (b : Un fs ex H1 H2 h1 h2) : Un fs ex H H2 h h2 where
 keep := fun c ob q n hc hx => b.keep c ob (a.keep c ob q n hc hx) (a.free c ob q n hx) hc hx
 slot := fun c ob q n hc hx => by
  obtain ⟨sl, e1⟩ := a.slot c ob q n hc hx
  obtain ⟨sl', e2⟩ := b.slot c _ e1 (a.free c ob q n hx) hc hx
  exact ⟨sl', e2⟩
 free := fun c ob q n hx => by
  obtain ⟨o', e1⟩ := a.there c ob q hx
  exact b.free c o' e1 (a.free c ob q n hx) hx
 there := fun c ob q hx => by
  obtain ⟨o', e1⟩ := a.there c ob q hx
  exact b.there c o' e1 hx
 tups := fun c xs q => b.tups c xs (a.tups c xs q)
 frzs := fun c ob xs q => b.frzs c ob xs (a.frzs c ob xs q)
 tbls := fun c ps q => by
  obtain ⟨m1, e1⟩ := a.tbls c ps q
  obtain ⟨m2, e2⟩ := b.tbls c _ e1
  exact ⟨m1 ++ m2, by rw [e2, Array.append_assoc]⟩
theorem Un.kept (k : ∀ b u, h.get? b = some u -> h'.get? b = some u) : Un fs ex H H h h' :=
 ⟨fun b ob q _ _ _ => k b ob q, fun b ob q _ _ _ => ⟨ob.slots, k b ob q⟩, fun _ _ _ n _ => n, fun b ob q _ => ⟨ob, k b ob q⟩, fun _ _ q => q, fun _ _ _ q => q, fun _ ps q => ⟨#[], by rw [q]; simp⟩⟩
theorem Un.refl : Un fs ex H H h h := Un.kept fun _ _ q => q
theorem Un.laid (k : ∀ b u, h.get? b = some u -> h'.get? b = some u) (hp : h.objs.size <= a) (hn : H a = none) : Un fs ex H (upd H a o) h h' where
 keep := fun b u q _ _ _ => k b u q
 slot := fun b u q _ _ _ => ⟨u.slots, k b u q⟩
 free := fun b u q n _ => by rw [ak (Nat.ne_of_lt (Nat.lt_of_lt_of_le (Heap.lt_size q) hp))]; exact n
 there := fun b u q _ => ⟨u, k b u q⟩
 tups := fun b xs q => by rw [ak (ar q hn)]; exact q
 frzs := fun b u xs q => by rw [ak (ar q hn)]; exact q
 tbls := fun b ps q => ⟨#[], by rw [ak (ar q hn), q]; simp⟩
theorem Un.write (mu : Mut (H x)) (he : e = x \/ H e = some (.own x)) (k : ∀ b u, b ≠ e -> h.get? b = some u -> h'.get? b = some u) (heo : ∃ u, h'.get? e = some u) : Un fs ex H (upd H x o) h h' := by
 have hx : ∀ b, H b = none -> b ≠ x := fun b n z => by subst z; rw [n] at mu; exact mu
 have hb : ∀ b, H b = none -> b ≠ e := fun b n z => by
  subst z
  rcases he with r | r
  ·exact hx b n r
  ·rw [n] at r; cases r
 have hm : ∀ b u, H b = some u -> ¬ Mut (some u) -> b ≠ x := fun b u q nm z => by subst z; rw [q] at mu; exact nm mu
 refine ⟨fun b u q n _ _ => k b u (hb b n) q, fun b u q n _ _ => ⟨u.slots, k b u (hb b n) q⟩, fun b u q n _ => by rw [ak (hx b n)]; exact n, fun b u q _ => ?_,
  fun b xs q => by rw [ak (hm b _ q fun z => z)]; exact q, fun b u xs q => by rw [ak (hm b _ q fun z => z)]; exact q, fun b ps q => ⟨#[], by rw [ak (hm b _ q fun z => z), q]; simp⟩⟩
 by_cases hbe : b = e
 ·subst hbe; exact heo
 ·exact ⟨u, k b u hbe q⟩
theorem Un.mono (u : Un fs ex H H1 h h1) (hs : ∀ b ∈ fs, b ∈ fs') (hx : ∀ b ∈ ex, b ∈ ex') : Un fs' ex' H H1 h h1 :=
 ⟨fun b ob q n hb he => u.keep b ob q n (fun z => hb (hs b z)) fun z => he (hx b z), fun _ _ q n _ he => u.any q n fun z => he (hx _ z), fun b ob q n he => u.free b ob q n fun z => he (hx b z), fun b ob q he => u.there b ob q fun z => he (hx b z), u.tups, u.frzs, u.tbls⟩
end
noncomputable def trk (h : Heap) (H : Hp) : List Addr := (List.range h.objs.size).filter fun a => (H a).isSome
noncomputable def hidT (h : Heap) (H : Hp) : Heap := W.hideAll h (trk h H)
theorem lI (h : Heap) (H : Hp) : (hidT h H).objs.size = h.objs.size := W.hideAll_size _ _
theorem mJ {h : Heap} {H : Hp} {b : Addr} {o : Obj} (e : h.get? b = some o) (n : H b = none) : (hidT h H).get? b = some o :=
 W.hideAll_get _ e fun hm => by
  have q : (H b).isSome = true := (List.mem_filter.mp hm).2
  rw [n] at q; simp at q
theorem o6 {h : Heap} {H : Hp} {b : Addr} {o : Obj} (e : (hidT h H).get? b = some o) : h.get? b = some o /\ H b = none := by
 have e' : h.get? b = some o := W.of_hideAll (trk h H) e
 refine ⟨e', ?_⟩
 cases q : H b with
 | none => rfl
 | some x =>
  have hm : b ∈ trk h H := List.mem_filter.mpr ⟨List.mem_range.mpr (Heap.lt_size e'), by simp [q]⟩
  have z : (hidT h H).get? b = none := W.hideAll_none (trk h H) hm
  rw [z] at e; cases e
noncomputable def Ak (g h : Heap) (L : Addr) : yd := (List.range h.objs.size).filterMap fun a => if a = L \/ (g.get? a).isSome = true then none else (h.get? a).map fun o => (a, o)
noncomputable def rest (g h : Heap) (L d : Addr) : yd := (Ak g h L).filter fun p => decide (p.1 ≠ d)
structure Mod (K : W.Frag) (mg : yc) (base : Heap) : Prop where
 kin : K.In base
 glob : base.Ns mainGlobals mg
 blt : ∃ mb, base.Ns builtinsNs mb /\ ∀ x : Str, x ≠ "__name__" -> mb x = bootBuiltins x
 nolimit : base.NoLimit
structure Cx where
 prog : Program
 w : World
 K : W.Frag
 mg : Str -> Option Value
 base : Heap
 A : Around
 N : List Str
 s₀ : Shared
 H₀ : Hp
 env : Env
 outer : List Env
 stack : List Env
 ex : List Addr
 fn : Str -> Bool
 calm : Bool
 pn : yd
 xe : Value -> Shared -> Prop
def frs (l : List Env) : List Addr := l.filterMap (·.frame)
abbrev Cx.fs (X : Cx) : List Addr := frs X.outer
noncomputable def Vis (sc : Scope) (x : Str) : Prop := sc.names.lookup x = some .local \/ sc.names.lookup x = some .cell \/ sc.names.lookup x = some .free
noncomputable def Loc (sc : Scope) (x : Str) : Prop := sc.names.lookup x = some .local \/ sc.names.lookup x = some .cell
noncomputable def Look (env : Env) (h : Heap) (m : yc) (x : Str) (u : Value) : Prop :=
 (env.kindOf x = some .local /\ m x = some u) \/ ((env.kindOf x = some .cell \/ env.kindOf x = some .free) /\ ∃ c, env.cells.lookup x = some c /\ h.IsCell c (some u))
structure Cx.Ok (X : Cx) : Prop where
 mod : Mod X.K X.mg X.base
 kind : X.env.scope.kind = .function
 glob : X.env.globals = mainGlobals
 blt : X.env.builtins = builtinsNs
 above : X.s₀.heap.objs.size <= X.env.locals
 inj : ∀ x y c, X.env.cells.lookup x = some c -> X.env.cells.lookup y = some c -> x = y
 has : ∀ x, (X.env.kindOf x = some .cell \/ X.env.kindOf x = some .free) -> ∃ c, X.env.cells.lookup x = some c
 cab : ∀ x c, X.fn x = true -> X.env.cells.lookup x = some c -> X.s₀.heap.objs.size <= c
 hd : X.calm = true -> X.A.handled = none
 frames : X.A.frames = some X.stack
 stk : X.stack = X.outer \/ (X.stack = X.env :: X.outer /\ X.env.frame = some X.env.locals)
 exf : ∀ b ∈ X.ex, b ≠ X.env.locals /\ ∀ x c, X.env.cells.lookup x = some c -> c ≠ b
 bs : ∀ b o, X.base.get? b = some o -> X.s₀.heap.get? b = some o /\ X.H₀ b = none
 bsz : X.base.objs.size <= X.s₀.heap.objs.size
 noex : ∀ b o, X.base.get? b = some o -> b ∉ X.ex
 exfs : ∀ b ∈ X.ex, b ∉ X.fs
 funs : X.s₀.heap.FunFrames X.base X.outer
 frf : ∀ b ∈ X.fs, X.H₀ b = none
structure Inv (X : Cx) (pins : yd) (σ : List (Option V)) (H : Hp) (s : Shared) : Prop where
 ok : X.Ok
 os : s.os = X.s₀.os
 bare : AllBare s.gens
 base : Un X.fs X.ex X.H₀ H X.s₀.heap s.heap
 loc : ∃ m, s.heap.Ns X.env.locals m /\ ∀ (i : Nat) (x : Str) (v : V), X.N[i]? = some x -> σ[i]? = some (some v) -> Vis X.env.scope x -> ∃ u, RelV v u /\ Look X.env s.heap m x u
 cell : ∀ x c, X.env.cells.lookup x = some c -> ∃ v, s.heap.IsCell c v
 free : H X.env.locals = none
 freeC : ∀ x c, X.env.cells.lookup x = some c -> H c = none
 pin : ∀ p ∈ X.pn ++ pins, s.heap.get? p.1 = some p.2 /\ H p.1 = none /\ p.1 ≠ X.env.locals /\ p.1 ∉ X.fs /\ ∀ v, p.2.data ≠ .cell v
 hok : HOk X.prog X.w H s.heap
 len : σ.length = X.N.length
section
variable {X : Cx} {pins : yd} {σ : List (Option V)} {H H' : Hp} {s : Shared} {h' : Heap}
theorem Cx.Ok.nofr (ok : X.Ok) {b : Addr} {o : Obj} (e : X.base.get? b = some o) : b ∉ X.fs := fun hb => by
 have := (ok.funs.mem hb).1
 rw [e] at this; cases this
theorem Inv.bs (I : Inv X pins σ H s) : ∀ b o, X.base.get? b = some o -> s.heap.get? b = some o /\ H b = none := fun b o e =>
 ⟨I.base.keep b o (I.ok.bs b o e).1 (I.ok.bs b o e).2 (I.ok.nofr e) (I.ok.noex b o e), I.base.free b o (I.ok.bs b o e).1 (I.ok.bs b o e).2 (I.ok.noex b o e)⟩
theorem Inv.bk (I : Inv X pins σ H s) : ∀ b o, X.base.get? b = some o -> s.heap.get? b = some o := fun b o e => (I.bs b o e).1
theorem Inv.mod (I : Inv X pins σ H s) : Mod X.K X.mg X.base := I.ok.mod
theorem Inv.kIn (I : Inv X pins σ H s) : X.K.In s.heap := I.ok.mod.kin.keeps I.bk
theorem Inv.fr (I : Inv X pins σ H s) : ∃ m, Fr X.base X.env.locals s.heap m :=
 let ⟨m, hn, _⟩ := I.loc
 ⟨m, hn, I.bk, Nat.le_trans I.ok.bsz I.ok.above⟩
theorem Inv.lt (I : Inv X pins σ H s) : X.env.locals < s.heap.objs.size := let ⟨_, hn, _⟩ := I.loc; hn.lt
theorem Inv.sz (I : Inv X pins σ H s) : X.s₀.heap.objs.size <= s.heap.objs.size := Nat.le_trans I.ok.above (Nat.le_of_lt I.lt)
theorem Inv.nofs (I : Inv X pins σ H s) {a : Addr} (h : s.heap.objs.size <= a) : a ∉ X.fs := fun hb => by
 obtain ⟨_, o, ho, _⟩ := I.ok.funs.mem hb
 exact absurd (Nat.lt_of_lt_of_le (Heap.lt_size ho) (Nat.le_trans I.sz h)) (Nat.lt_irrefl _)
theorem Inv.cne (I : Inv X pins σ H s) : ∀ x c, X.env.cells.lookup x = some c -> c ≠ X.env.locals := fun x c e z => by
 obtain ⟨v, o, ho, hd⟩ := I.cell x c e
 obtain ⟨m, ⟨o', es, ep, ho', hd', _⟩, _⟩ := I.loc
 rw [z, ho'] at ho; cases ho; rw [hd'] at hd; cases hd
theorem Inv.funs (I : Inv X pins σ H s) : s.heap.FunFrames X.base X.outer := by
 have all : ∀ (l : List Env), (∀ b ∈ frs l, b ∈ X.fs) -> X.s₀.heap.FunFrames X.base l -> s.heap.FunFrames X.base l := by
  intro l
  induction l with
  | nil => intro _ _; trivial
  | cons env r ih =>
   intro hs hl
   obtain ⟨hk, ⟨L, o, hf, hn, ho, hd⟩, hr⟩ := hl
   have hL : L ∈ X.fs := hs L (by unfold frs; rw [List.filterMap_cons, hf]; exact List.mem_cons_self)
   obtain ⟨sl, e⟩ := I.base.slot L o ho (I.ok.frf L hL) hL fun z => I.ok.exfs L z hL
   exact ⟨hk, ⟨L, _, hf, hn, e, hd⟩, ih (fun b hb => hs b (by unfold frs; rw [List.filterMap_cons, hf]; exact List.mem_cons_of_mem _ hb)) hr⟩
 exact all X.outer (fun _ hb => hb) I.ok.funs
theorem Inv.stack (I : Inv X pins σ H s) : s.heap.FunFrames X.base X.stack := by
 rcases I.ok.stk with e | ⟨e, hf⟩
 ·rw [e]; exact I.funs
 ·rw [e]
  obtain ⟨m, hn, _⟩ := I.loc
  refine .cons (by rw [I.ok.kind]; decide) hf hn ?_ I.funs
  exact Heap.get?_none_of_le (Nat.le_trans I.ok.bsz I.ok.above)
theorem Inv.stkSub (I : Inv X pins σ H s) : ∀ b ∈ frs X.stack, b ∈ X.env.locals :: X.fs := fun b hb => by
 rcases I.ok.stk with e | ⟨e, hf⟩
 ·rw [e] at hb; exact List.mem_cons_of_mem _ hb
 ·rw [e] at hb
  unfold frs at hb
  rw [List.filterMap_cons, hf] at hb
  exact hb
theorem Inv.stkFree (I : Inv X pins σ H s) : ∀ b ∈ frs X.stack, H b = none := fun b hb => by
 rcases List.mem_cons.mp (I.stkSub b hb) with e | hb
 ·rw [e]; exact I.free
 ·obtain ⟨_, o, ho, _⟩ := I.ok.funs.mem hb
  exact I.base.free b o ho (I.ok.frf b hb) fun z => I.ok.exfs b z hb
theorem Inv.step {g' : Array GenState} {t' : Nat} {d' : Drawn} {ch : List Addr} (I : Inv X pins σ H s)
  (hch : ∀ b ∈ ch, (b ∈ X.ex \/ X.s₀.heap.objs.size <= b) /\ b ≠ X.env.locals /\ (∀ x c, X.env.cells.lookup x = some c -> c ≠ b) /\ ∀ p ∈ X.pn ++ pins, p.1 ≠ b)
  (keep : ∀ b o, b ≠ X.env.locals -> b ∉ X.fs -> b ∉ ch -> s.heap.get? b = some o -> H b = none -> h'.get? b = some o)
  (slot : ∀ b o, b ≠ X.env.locals -> b ∈ X.fs -> b ∉ ch -> s.heap.get? b = some o -> H b = none -> ∃ sl, h'.get? b = some { o with slots := sl }) (free : ∀ b o, b ∉ ch -> s.heap.get? b = some o -> H b = none -> H' b = none)
  (there : ∀ b o, b ∉ ch -> s.heap.get? b = some o -> ∃ o', h'.get? b = some o')
  (tups : ∀ b xs, H b = some (.tup xs) -> H' b = some (.tup xs)) (frzs : ∀ b o u, H b = some (.frz o u) -> H' b = some (.frz o u)) (tbls : ∀ b ps, H b = some (.tbl ps) -> ∃ more, H' b = some (.tbl (ps ++ more)))
  (ns : ∀ m, s.heap.Ns X.env.locals m -> h'.Ns X.env.locals m) (hok : HOk X.prog X.w H' h') (hg : AllBare g') :
  Inv X pins σ H' { s with heap := h', gens := g', drawn := d', toks := t' } := by
 have neL : ∀ b o, X.s₀.heap.get? b = some o -> b ≠ X.env.locals := fun b o e => Nat.ne_of_lt (Nat.lt_of_lt_of_le (Heap.lt_size e) I.ok.above)
 have neC : ∀ b o, X.s₀.heap.get? b = some o -> b ∉ X.ex -> b ∉ ch := fun b o e hx hb => by
  rcases (hch b hb).1 with z | z
  ·exact hx z
  ·exact absurd (Nat.lt_of_lt_of_le (Heap.lt_size e) z) (Nat.lt_irrefl _)
 have cellK : ∀ x c, X.env.cells.lookup x = some c -> ∀ v, s.heap.IsCell c v -> h'.IsCell c v := fun x c e v ⟨o, ho, hd⟩ => by
  have nch : c ∉ ch := fun z => (hch c z).2.2.1 x c e rfl
  by_cases hc : c ∈ X.fs
  ·obtain ⟨sl, q⟩ := slot c o (I.cne x c e) hc nch ho (I.freeC x c e)
   exact ⟨_, q, hd⟩
  ·exact ⟨o, keep c o (I.cne x c e) hc nch ho (I.freeC x c e), hd⟩
 refine ⟨I.ok, I.os, hg, ⟨fun b o e n hb hx => ?_, fun b o e n hb hx => ?_, fun b o e n hx => ?_, fun b o e hx => ?_, fun b xs e => tups b xs (I.base.tups b xs e), fun b o xs e => frzs b o xs (I.base.frzs b o xs e), fun b ps e => ?_⟩, ?_, fun x c e => ?_, ?_, fun x c e => ?_, fun p hp => ?_, hok, I.len⟩
 ·exact keep b o (neL b o e) hb (neC b o e hx) (I.base.keep b o e n hb hx) (I.base.free b o e n hx)
 ·obtain ⟨sl, e1⟩ := I.base.slot b o e n hb hx
  obtain ⟨sl', e2⟩ := slot b _ (neL b o e) hb (neC b o e hx) e1 (I.base.free b o e n hx)
  exact ⟨sl', e2⟩
 ·obtain ⟨o', e1⟩ := I.base.there b o e hx
  exact free b o' (neC b o e hx) e1 (I.base.free b o e n hx)
 ·obtain ⟨o', e1⟩ := I.base.there b o e hx
  exact there b o' (neC b o e hx) e1
 ·obtain ⟨m1, e1⟩ := I.base.tbls b ps e
  obtain ⟨m2, e2⟩ := tbls b _ e1
  exact ⟨m1 ++ m2, by rw [e2, Array.append_assoc]⟩
 ·obtain ⟨m, hn, hl⟩ := I.loc
  refine ⟨m, ns m hn, fun i x v e1 e2 e3 => ?_⟩
  obtain ⟨u, r, l⟩ := hl i x v e1 e2 e3
  refine ⟨u, r, ?_⟩
  rcases l with l | ⟨k, c, e, z⟩
  ·exact .inl l
  ·exact .inr ⟨k, c, e, cellK x c e _ z⟩
 ·obtain ⟨v, z⟩ := I.cell x c e
  exact ⟨v, cellK x c e v z⟩
 ·obtain ⟨m, ⟨o, _, _, ho, _⟩, _⟩ := I.loc
  exact free _ o (fun z => (hch _ z).2.1 rfl) ho I.free
 ·obtain ⟨v, o, ho, hd⟩ := I.cell x c e
  exact free c o (fun z => (hch c z).2.2.1 x c e rfl) ho (I.freeC x c e)
 ·obtain ⟨e, n, ne, nf, d⟩ := I.pin p hp
  have nch : p.1 ∉ ch := fun z => (hch p.1 z).2.2.2 p hp rfl
  exact ⟨keep p.1 p.2 ne nf nch e n, free p.1 p.2 nch e n, ne, nf, d⟩
theorem Inv.un {t' : Nat} (I : Inv X pins σ H s) (u : Un X.fs [] H H' s.heap h') (hok : HOk X.prog X.w H' h') : Inv X pins σ H' { s with heap := h', toks := t' } := by
 obtain ⟨m, ⟨o, es, ep, ho, r⟩, _⟩ := id I.loc
 obtain ⟨sl, hL⟩ := u.any ho I.free (by simp)
 exact I.step (g' := s.gens) (d' := s.drawn) (ch := []) (fun _ z => nomatch z) (fun b o _ hb _ e n => u.keep b o e n hb (by simp)) (fun b o _ hb _ e n => u.slot b o e n hb (by simp)) (fun b o _ e n => u.free b o e n (by simp)) (fun b o _ e => u.there b o e (by simp)) u.tups u.frzs u.tbls (fun m' hm => by
  obtain ⟨o', es', ep', ho', r'⟩ := hm
  rw [ho] at ho'; cases ho'
  exact ⟨_, es', ep', hL, r'⟩) hok I.bare
theorem Inv.call {g' : Array GenState} {t' : Nat} {d' : Drawn} {ch : List Addr} (I : Inv X pins σ H s) (u : Un (frs X.stack) ch H H' s.heap h') (hok : HOk X.prog X.w H' h') (hg : AllBare g')
  (hch : ∀ b ∈ ch, (b ∈ X.ex \/ X.s₀.heap.objs.size <= b) /\ b ≠ X.env.locals /\ (∀ x c, X.env.cells.lookup x = some c -> c ≠ b) /\ ∀ p ∈ X.pn ++ pins, p.1 ≠ b) :
  Inv X pins σ H' { s with heap := h', gens := g', drawn := d', toks := t' } := by
 obtain ⟨m, ⟨o, es, ep, ho, r⟩, _⟩ := id I.loc
 obtain ⟨sl, hL⟩ := u.any ho I.free fun z => (hch _ z).2.1 rfl
 exact I.step (ch := ch) hch (fun b o hL hb hc e n => u.keep b o e n (fun z => (List.mem_cons.mp (I.stkSub b z)).elim hL hb) hc) (fun b o _ _ hc e n => u.any e n hc) (fun b o hc e n => u.free b o e n hc) (fun b o hc e => u.there b o e hc) u.tups u.frzs u.tbls (fun m' hm => by
  obtain ⟨o', es', ep', ho', r'⟩ := hm
  rw [ho] at ho'; cases ho'
  exact ⟨_, es', ep', hL, r'⟩) hok hg
theorem Inv.turned {t' : Nat} {it : Addr} (I : Inv X pins σ H s) (k : ∀ b o, b ≠ it -> s.heap.get? b = some o -> h'.get? b = some o) (hn : H it = none) (hL : it ≠ X.env.locals)
  (h1 : it ∈ X.ex \/ X.s₀.heap.objs.size <= it) (h2 : ∀ x c, X.env.cells.lookup x = some c -> c ≠ it) (h3 : ∀ p ∈ X.pn ++ pins, p.1 ≠ it) : Inv X pins σ H { s with heap := h', toks := t' } := by
 have nit : ∀ b u, H b = some u -> b ≠ it := fun b u e z => by rw [z, hn] at e; cases e
 refine I.step (g' := s.gens) (d' := s.drawn) (ch := [it]) (fun b hb => ?_) (fun b o _ _ hc e _ => k b o (fun z => hc (by simp [z])) e) (fun b o _ _ hc e _ => ⟨o.slots, k b o (fun z => hc (by simp [z])) e⟩) (fun _ _ _ _ n => n)
  (fun b o hc e => ⟨o, k b o (fun z => hc (by simp [z])) e⟩) (fun _ _ e => e) (fun _ _ _ e => e) (fun b ps e => ⟨#[], by rw [e]; simp⟩) (fun m hm => ?_) (fun b u e => ?_) I.bare
 ·have e : b = it := by simpa using hb
  subst e
  exact ⟨h1, hL, h2, h3⟩
 ·obtain ⟨o, es, ep, ho, r⟩ := hm
  exact ⟨o, es, ep, k _ o (Ne.symm hL) ho, r⟩
 ·refine (I.hok b u e).stay (fun c v hc q => k c v ?_ q) (fun _ q => q) fun _ _ q => q
  rcases hc with z | z
  ·rw [z]; exact nit b u e
  ·exact nit c _ z
theorem Inv.tok (I : Inv X pins σ H s) (t : Nat) : Inv X pins σ H { s with toks := t } := I.un (h' := s.heap) (t' := t) Un.refl I.hok
theorem Inv.kept {t' : Nat} (I : Inv X pins σ H s) (k : ∀ b u, s.heap.get? b = some u -> h'.get? b = some u) : Inv X pins σ H { s with heap := h', toks := t' } := I.un (Un.kept k) (I.hok.kept k)
theorem Inv.laid {a : Addr} {o : HO} {t' : Nat} (I : Inv X pins σ H s) (k : ∀ b u, s.heap.get? b = some u -> h'.get? b = some u) (hp : s.heap.objs.size <= a) (new : yz X.prog X.w (upd H a o) h' a o) :
  Inv X pins σ (upd H a o) { s with heap := h', toks := t' } := I.un (Un.laid k hp (I.hok.fresh hp)) (I.hok.laid k hp new)
theorem Inv.write {x e : Addr} {o : HO} {t' : Nat} (I : Inv X pins σ H s) (mu : Mut (H x)) (he : e = x \/ H e = some (.own x)) (k : ∀ b u, b ≠ e -> s.heap.get? b = some u -> h'.get? b = some u) (heo : ∃ u, h'.get? e = some u)
  (new : yz X.prog X.w (upd H x o) h' x o) : Inv X pins σ (upd H x o) { s with heap := h', toks := t' } := I.un (Un.write mu he k heo) (I.hok.write mu he k heo new)
theorem Inv.weak {σ' : List (Option V)} (I : Inv X pins σ H s) (hl : σ'.length = σ.length) (w : ∀ (i : Nat) v, σ'[i]? = some (some v) -> σ[i]? = some (some v)) : Inv X pins σ' H s :=
 ⟨I.ok, I.os, I.bare, I.base, let ⟨m, hn, hl'⟩ := I.loc; ⟨m, hn, fun i x v e1 e2 e3 => hl' i x v e1 (w i v e2) e3⟩, I.cell, I.free, I.freeC, I.pin, I.hok, hl.trans I.len⟩
theorem Inv.pins_of {pins' : yd} (I : Inv X pins σ H s) (h : ∀ p ∈ pins', s.heap.get? p.1 = some p.2 /\ H p.1 = none /\ p.1 ≠ X.env.locals /\ p.1 ∉ X.fs /\ ∀ v, p.2.data ≠ .cell v) : Inv X pins' σ H s :=
 ⟨I.ok, I.os, I.bare, I.base, I.loc, I.cell, I.free, I.freeC, fun p hp => (List.mem_append.mp hp).elim (fun z => I.pin p (List.mem_append_left _ z)) (h p), I.hok, I.len⟩
theorem gc {N : List Str} (hN : N.Nodup) {i j : Nat} {x : Str} (a : N[i]? = some x) (b : N[j]? = some x) : i = j := by
 obtain ⟨h1, e1⟩ := List.getElem?_eq_some_iff.mp a
 obtain ⟨h2, e2⟩ := List.getElem?_eq_some_iff.mp b
 exact (List.getElem_inj hN).mp (e1.trans e2.symm)
theorem i4 {M : Model} {A : Around} {E : ye} {i : Nat} {x : Str} {v : V} {u : Value} {Q : Unit -> Shared -> Prop} (I : Inv X pins σ H s) (hN : X.N.Nodup) (hi : X.N[i]? = some x) (hx : Loc X.env.scope x) (r : RelV v u)
  (h : ∀ s', Inv X pins (σ.set i (some v)) H s' -> (∃ a, Heap.SameBut a s.heap s'.heap /\ (a = X.env.locals \/ X.env.cells.lookup x = some a)) -> Q () s') (hf : X.fn x = true \/ X.env.scope.names.lookup x = some .local := by first | exact .inl rfl | exact .inr rfl | assumption) : wpAny M A (storeName X.env x u) Q E s := by
 obtain ⟨m, hn, hl⟩ := id I.loc
 have hcls : (X.env.scope.kind == .class || (X.env.scope.kind == .module && X.env.locals != X.env.globals)) = false := by rw [I.ok.kind]; rfl
 have hiσ : i < σ.length := by rw [I.len]; exact (List.getElem?_eq_some_iff.mp hi).1
 have cne := I.cne
 have tracked : ∀ {a : Addr} {h' : Heap}, (∃ o, s.heap.get? a = some o /\ H a = none) -> Heap.SameBut a s.heap h' -> HOk X.prog X.w H h' := fun {a h'} ha hs b ob e => by
  obtain ⟨_, _, hfree⟩ := ha
  refine (I.hok b ob e).stay (fun c w' hc q => (hs.2 c ?_).trans q) (fun _ q => q) fun _ _ q => q
  rintro rfl
  rcases hc with rfl | hc
  ·rw [hfree] at e; cases e
  ·rw [hfree] at hc; cases hc
 rcases hx with hk | hk
 ·refine wpAny_storeName_local hk hn (fun h' hn' hs => ?_) hcls
  obtain ⟨oL, _, _, hoL, _⟩ := id hn
  refine h _ ⟨I.ok, I.os, I.bare, ⟨fun b o e n hb hx => ?_, fun b o e n hb hx => ?_, I.base.free, fun b o e hx => ?_, I.base.tups, I.base.frzs, I.base.tbls⟩, ⟨_, hn', fun j y v' e1 e2 e3 => ?_⟩, fun y c e => ?_, I.free, I.freeC, fun p hp => ?_, tracked ⟨oL, hoL, I.free⟩ hs, by simpa using I.len⟩ ⟨_, hs, .inl rfl⟩
  ·exact (hs.2 b (Nat.ne_of_lt (Nat.lt_of_lt_of_le (Heap.lt_size e) I.ok.above))).trans (I.base.keep b o e n hb hx)
  ·obtain ⟨sl, e1⟩ := I.base.slot b o e n hb hx
   exact ⟨sl, (hs.2 b (Nat.ne_of_lt (Nat.lt_of_lt_of_le (Heap.lt_size e) I.ok.above))).trans e1⟩
  ·obtain ⟨o', e1⟩ := I.base.there b o e hx
   exact ⟨o', (hs.2 b (Nat.ne_of_lt (Nat.lt_of_lt_of_le (Heap.lt_size e) I.ok.above))).trans e1⟩
  ·by_cases hj : j = i
   ·subst hj
    rw [hi] at e1; cases e1
    rw [List.getElem?_set_self hiσ] at e2
    cases e2
    exact ⟨u, r, .inl ⟨hk, by simp⟩⟩
   ·rw [List.getElem?_set_ne (Ne.symm hj)] at e2
    obtain ⟨u', r', q⟩ := hl j y v' e1 e2 e3
    refine ⟨u', r', ?_⟩
    rcases q with ⟨k, e⟩ | ⟨k, c, e, z⟩
    ·refine .inl ⟨k, ?_⟩
     have : y ≠ x := fun e => hj (gc hN e1 (e ▸ hi))
     simp [this, e]
    ·exact .inr ⟨k, c, e, z.sameBut hs (cne y c e)⟩
  ·obtain ⟨w', z⟩ := I.cell y c e
   exact ⟨w', z.sameBut hs (cne y c e)⟩
  ·obtain ⟨e, n, ne, nf, d⟩ := I.pin p hp
   exact ⟨(hs.2 p.1 ne).trans e, n, ne, nf, d⟩
 ·have hfn : X.fn x = true := by
   rcases hf with z | z
   ·exact z
   ·rw [z] at hk; cases hk
  obtain ⟨c, hc⟩ := I.ok.has x (.inl hk)
  obtain ⟨w', z⟩ := I.cell x c hc
  refine wpAny_storeName_cell I.ok.kind hk hc z (fun h' hc' hs => ?_)
  obtain ⟨oc, hoc, hocd⟩ := id z
  refine h { s with heap := h' } ⟨I.ok, I.os, I.bare, ⟨fun b o e n hb hx => ?_, fun b o e n hb hx => ?_, I.base.free, fun b o e hx => ?_, I.base.tups, I.base.frzs, I.base.tbls⟩, ⟨m, hn.sameBut hs (Ne.symm (cne x c hc)), fun j y v' e1 e2 e3 => ?_⟩, fun y c' e => ?_, I.free, I.freeC, fun p hp => ?_, tracked ⟨oc, hoc, I.freeC x c hc⟩ hs, by simpa using I.len⟩ ⟨c, hs, .inr hc⟩
  ·exact (hs.2 b (Nat.ne_of_lt (Nat.lt_of_lt_of_le (Heap.lt_size e) (I.ok.cab x c hfn hc)))).trans (I.base.keep b o e n hb hx)
  ·obtain ⟨sl, e1⟩ := I.base.slot b o e n hb hx
   exact ⟨sl, (hs.2 b (Nat.ne_of_lt (Nat.lt_of_lt_of_le (Heap.lt_size e) (I.ok.cab x c hfn hc)))).trans e1⟩
  ·obtain ⟨o', e1⟩ := I.base.there b o e hx
   exact ⟨o', (hs.2 b (Nat.ne_of_lt (Nat.lt_of_lt_of_le (Heap.lt_size e) (I.ok.cab x c hfn hc)))).trans e1⟩
  ·by_cases hj : j = i
   ·subst hj
    rw [hi] at e1; cases e1
    rw [List.getElem?_set_self hiσ] at e2
    cases e2
    exact ⟨u, r, .inr ⟨.inl hk, c, hc, hc'⟩⟩
   ·rw [List.getElem?_set_ne (Ne.symm hj)] at e2
    obtain ⟨u', r', q⟩ := hl j y v' e1 e2 e3
    refine ⟨u', r', ?_⟩
    rcases q with q | ⟨k, c', e, z'⟩
    ·exact .inl q
    ·refine .inr ⟨k, c', e, z'.sameBut hs ?_⟩
     rintro rfl
     exact hj (gc hN e1 (I.ok.inj _ _ _ e hc ▸ hi))
  ·by_cases hcc : c' = c
   ·subst hcc; exact ⟨_, hc'⟩
   ·obtain ⟨w2, z2⟩ := I.cell y c' e
    exact ⟨w2, z2.sameBut hs hcc⟩
  ·obtain ⟨e, n, ne, nf, d⟩ := I.pin p hp
   refine ⟨(hs.2 p.1 ?_).trans e, n, ne, nf, d⟩
   intro q
   rw [q, hoc] at e
   have q' : oc = p.2 := Option.some.inj e
   exact d w' (by rw [<- q']; exact hocd)
theorem gd {M : Model} {A : Around} {E : ye} {i : Nat} {x : Str} {v : V} {u : Value} {Q : Unit -> Shared -> Prop} (I : Inv X pins σ H s) (hN : X.N.Nodup) (hi : X.N[i]? = some x) (hx : Loc X.env.scope x) (r : RelV v u)
  (h : ∀ s', Inv X pins (σ.set i (some v)) H s' -> Q () s') (hf : X.fn x = true \/ X.env.scope.names.lookup x = some .local := by first | exact .inl rfl | exact .inr rfl | assumption) : wpAny M A (storeName X.env x u) Q E s :=
 i4 I hN hi hx r (fun s' I' _ => h s' I') hf
theorem Inv.call' {s' : Shared} {ch : List Addr} (I : Inv X pins σ H s) (ho : s'.os = s.os) (u : Un (frs X.stack) ch H H' s.heap s'.heap) (hok : HOk X.prog X.w H' s'.heap) (hg : AllBare s'.gens)
  (hch : ∀ b ∈ ch, (b ∈ X.ex \/ X.s₀.heap.objs.size <= b) /\ b ≠ X.env.locals /\ (∀ x c, X.env.cells.lookup x = some c -> c ≠ b) /\ ∀ p ∈ X.pn ++ pins, p.1 ≠ b) : Inv X pins σ H' s' := by
 obtain ⟨h', g', d', t', o'⟩ := s'
 have e : o' = s.os := ho
 subst e
 exact I.call (g' := g') (t' := t') (d' := d') u hok hg hch
end
abbrev XK := Value -> Option Addr -> Hp -> Prop
abbrev St := List (Option V)
abbrev VK := V -> Hp -> Prop
abbrev TE := St -> Hp -> VK -> Prop
abbrev TT := St -> Hp -> (Bool -> Hp -> Prop) -> Prop
abbrev TA := St -> Hp -> (List V -> Hp -> Prop) -> Prop
structure Ends where
 nx : St -> Hp -> Prop
 rt : VK
 bk : St -> Hp -> Prop := fun _ _ => False
 ct : St -> Hp -> Prop := fun _ _ => False
abbrev TS := Ends -> St -> Hp -> Prop
noncomputable def EP (X : Cx) (pins : yd) (σ : St) (Q : VK) (u : Value) (s' : Shared) : Prop := ∃ v H', Inv X pins σ H' s' /\ RelV v u /\ Q v H'
noncomputable def TP (X : Cx) (pins : yd) (σ : St) (Q : Bool -> Hp -> Prop) (b : Bool) (s' : Shared) : Prop := ∃ H', Inv X pins σ H' s' /\ Q b H'
noncomputable def AP (X : Cx) (pins : yd) (σ : St) (Q : List V -> Hp -> Prop) (us : List Value) (s' : Shared) : Prop := ∃ vs H', Inv X pins σ H' s' /\ Vals vs us /\ Q vs H'
noncomputable def SP (X : Cx) (pins : yd) (D : Ends) (f : Flow) (s' : Shared) : Prop :=
 match f with
 | .next => ∃ σ' H', Inv X pins σ' H' s' /\ D.nx σ' H'
 | .brk => ∃ σ' H', Inv X pins σ' H' s' /\ D.bk σ' H'
 | .cont => ∃ σ' H', Inv X pins σ' H' s' /\ D.ct σ' H'
 | .ret u => ∃ v σ' H', Inv X pins σ' H' s' /\ RelV v u /\ D.rt v H'
noncomputable def PE (X : Cx) (e : Expr) (t : TE) : Prop :=
 ∀ (pins : yd) (s : Shared) (σ : St) (H : Hp) (Q : VK), Inv X pins σ H s -> t σ H Q -> wpAny (model X.prog X.w) X.A (eval e X.env) (EP X pins σ Q) X.xe s
noncomputable def PT (X : Cx) (e : Expr) (t : TT) : Prop :=
 ∀ (pins : yd) (s : Shared) (σ : St) (H : Hp) (Q : Bool -> Hp -> Prop), Inv X pins σ H s -> t σ H Q -> wpAny (model X.prog X.w) X.A (isTrue e X.env (eval e X.env)) (TP X pins σ Q) X.xe s
noncomputable def PW (X : Cx) (e : Expr) (t : TT) : Prop :=
 ∀ (whole : Sem Value) (pins : yd) (s : Shared) (σ : St) (H : Hp) (Q : Bool -> Hp -> Prop), Inv X pins σ H s -> t σ H Q -> wpAny (model X.prog X.w) X.A (isTrue e X.env whole) (TP X pins σ Q) X.xe s
theorem PW.pt {X : Cx} {e : Expr} {t : TT} (h : PW X e t) : PT X e t := h _
noncomputable def PA (X : Cx) (es : List Expr) (t : TA) : Prop :=
 ∀ (pos : Pos) (pins : yd) (s : Shared) (σ : St) (H : Hp) (Q : List V -> Hp -> Prop), Inv X pins σ H s -> t σ H Q -> wpAny (model X.prog X.w) X.A (spliced (backTo pos (starEach es X.env))) (AP X pins σ Q) X.xe s
noncomputable def PS (X : Cx) (st : Stmt) (t : TS) : Prop :=
 ∀ (pins : yd) (s : Shared) (σ : St) (H : Hp) (D : Ends), Inv X pins σ H s -> t D σ H -> wpAny (model X.prog X.w) X.A (exec st X.env) (SP X pins D) X.xe s
noncomputable def PSs (X : Cx) (st : List Stmt) (t : TS) : Prop :=
 ∀ (pins : yd) (s : Shared) (σ : St) (H : Hp) (D : Ends), Inv X pins σ H s -> t D σ H -> wpAny (model X.prog X.w) X.A (execs st X.env) (SP X pins D) X.xe s
theorem thn {α : Type} {t : Sem α} {Q Q' : α -> Shared -> Prop} {M : Model} {A : Around} {E : ye} {s : Shared} (h : wpAny M A t Q E s) (hQ : ∀ a s, Q a s -> Q' a s) : wpAny M A t Q' E s := wpAny_mono h hQ fun _ _ x => x
section
variable {X : Cx}
theorem bin {a b : Expr} {ta tb : TE} (ha : PE X a ta) (hb : PE X b tb) {pins : yd} {s : Shared} {σ : St} {H : Hp} {R : V -> V -> Hp -> Prop} (I : Inv X pins σ H s) (h : ta σ H fun x H1 => tb σ H1 fun y H2 => R x y H2)
  {α : Type} {Q : α -> Shared -> Prop} {f : Value -> Value -> Sem α}
  (hf : ∀ v u s2 x y H2, Inv X pins σ H2 s2 -> RelV x v -> RelV y u -> R x y H2 -> wpAny (model X.prog X.w) X.A (f v u) Q X.xe s2) :
  wpAny (model X.prog X.w) X.A (eval a X.env) (fun v s₁ => wpAny (model X.prog X.w) X.A (eval b X.env) (fun u s₂ => wpAny (model X.prog X.w) X.A (f v u) Q X.xe s₂) X.xe s₁) X.xe s := by
 refine thn (ha pins s σ H _ I h) fun v s1 ⟨x, H1, I1, r1, q1⟩ => ?_
 refine thn (hb pins s1 σ H1 _ I1 q1) fun u s2 ⟨y, H2, I2, r2, q2⟩ => ?_
 exact hf v u s2 x y H2 I2 r1 r2 q2
noncomputable def tVar (i : Nat) : TE := fun σ H Q => ∃ v, σ[i]? = some (some v) /\ Q v H
def tC (v : V) : TE := fun _ H Q => Q v H
theorem cN {i : Nat} {x : Str} {pos : Pos} (hN : X.N[i]? = some x) (hv : Vis X.env.scope x) (hd : (x == ("__debug__" : Str)) = false := by decide) (hcd : (x == ("__classdict__" : Str)) = false := by decide) : PE X (.Name x pos) (tVar i) := by
 intro pins s σ H Q I h
 obtain ⟨v, e, h⟩ := h
 obtain ⟨m, hn, hl⟩ := I.loc
 obtain ⟨u, r, l⟩ := hl i x v hN e hv
 have fin : EP X pins σ Q u s := ⟨v, H, I, r, h⟩
 rcases l with ⟨hk, hm⟩ | ⟨hk, c, hc, hcell⟩
 ·exact wpAny_Name (wpAny_loadName_local I.ok.kind hk hn hm fin) hd
 ·rcases hk with hk | hk
  ·exact wpAny_Name (wpAny_loadName_cell I.ok.kind hk hc hcell fin) hd
  ·exact wpAny_Name (wpAny_loadName_free I.ok.kind hk hc hcell fin hcd) hd
theorem qS {i j pos} : PE X (.Constant (.int i) j pos) (tC (.int i)) := fun _ _ _ H _ I h => wpAny_Constant_int ⟨.int i, H, I.tok _, ⟨_, rfl⟩, h⟩
theorem uM {b j pos} : PE X (.Constant (.bool b) j pos) (tC (.bl b)) := fun _ _ _ H _ I h => Constant_bool ⟨.bl b, H, I, rfl, h⟩
theorem qT {j pos} : PE X (.Constant .none j pos) (tC .non) := fun _ _ _ H _ I h => Constant_none ⟨.non, H, I, rfl, h⟩
theorem dq {x j pos} : PE X (.Constant (.str x) j pos) (tC (.str x)) := fun _ _ _ H _ I h => Calls.Constant_str ⟨.str x, H, I.tok _, ⟨_, rfl⟩, h⟩
noncomputable def Gl (X : Cx) (x : Str) : Prop := X.env.kindOf x = some .globalImplicit
theorem eG {E : ye} {pins : yd} {s : Shared} {σ : St} {H : Hp} {x : Str} {u : Value} {pos : Pos} {Q : ye} (I : Inv X pins σ H s) (hg : Gl X x) (hm : X.mg x = some u) (h : Q u s)
  (hd : (x == ("__debug__" : Str)) = false := by decide) : wpAny (model X.prog X.w) X.A (eval (.Name x pos) X.env) Q E s :=
 Calls.Name_function_global I.ok.kind hg (Calls.loadGlobal_global (by rw [I.ok.glob]; exact I.mod.glob.keeps I.bk) hm h) hd
theorem gf {E : ye} {pins : yd} {s : Shared} {σ : St} {H : Hp} {x : Str} {u : Value} {pos : Pos} {Q : ye} (I : Inv X pins σ H s) (hg : Gl X x) (hm : X.mg x = none) (hv : bootBuiltins x = some u) (h : Q u s)
  (hn : x ≠ "__name__" := by decide) (hd : (x == ("__debug__" : Str)) = false := by decide) : wpAny (model X.prog X.w) X.A (eval (.Name x pos) X.env) Q E s := by
 obtain ⟨mb, h1, h2⟩ := I.mod.blt
 exact Calls.Name_function_global I.ok.kind hg (Calls.loadGlobal_builtin (by rw [I.ok.glob]; exact I.mod.glob.keeps I.bk) hm (by rw [I.ok.blt]; exact h1.keeps I.bk) ((h2 x hn).trans hv) h) hd
theorem kx {x : Str} {v : V} {u : Value} {pos : Pos} (hg : Gl X x) (hm : X.mg x = some u) (r : RelV v u) (hd : (x == ("__debug__" : Str)) = false := by decide) : PE X (.Name x pos) (tC v) :=
 fun _ _ _ H _ I h => eG I hg hm ⟨v, H, I, r, h⟩ hd
theorem o7 {x : Str} {v : V} {u : Value} {pos : Pos} (hg : Gl X x) (hm : X.mg x = none) (hv : bootBuiltins x = some u) (r : RelV v u) (hn : x ≠ "__name__" := by decide) (hd : (x == ("__debug__" : Str)) = false := by decide) : PE X (.Name x pos) (tC v) :=
 fun _ _ _ H _ I h => gf I hg hm hv ⟨v, H, I, r, h⟩ hn hd
variable {a b : Expr} {ta tb : TE} {pos : Pos}
variable {tA tB' : TT} {rest : List Expr}
noncomputable def tAnd (t u : TT) : TT := fun σ H Q => t σ H fun c H1 => if c = true then u σ H1 Q else Q false H1
noncomputable def tOr (t u : TT) : TT := fun σ H Q => t σ H fun c H1 => if c = true then Q true H1 else u σ H1 Q
noncomputable def tNot (t : TT) : TT := fun σ H Q => t σ H fun c H1 => Q (!c) H1
theorem o8 (ha : PT X a tA) : PW X (.BoolOp .And [a] pos) tA := by
 intro wh pins s σ H Q I h
 refine isTrue_and (thn (ha pins s σ H Q I h) fun c s1 e => ?_)
 cases c with
 | true => exact isTrue_and_nil e
 | false => exact e
theorem qU (ha : PT X a tA) : PW X (.BoolOp .Or [a] pos) tA := by
 intro wh pins s σ H Q I h
 refine isTrue_or (thn (ha pins s σ H Q I h) fun c s1 e => ?_)
 cases c with
 | false => exact isTrue_or_nil e
 | true => exact e
theorem qV (ha : PT X a tA) (hb : PW X (.BoolOp .And (b :: rest) pos) tB') : PW X (.BoolOp .And (a :: b :: rest) pos) (tAnd tA tB') := by
 intro wh pins s σ H Q I h
 refine isTrue_and (thn (ha pins s σ H _ I h) fun c s1 ⟨H1, I1, q1⟩ => ?_)
 cases c with
 | true => exact hb wh pins s1 σ H1 Q I1 q1
 | false => exact ⟨H1, I1, q1⟩
theorem uN (ha : PT X a tA) (hb : PW X (.BoolOp .Or (b :: rest) pos) tB') : PW X (.BoolOp .Or (a :: b :: rest) pos) (tOr tA tB') := by
 intro wh pins s σ H Q I h
 refine isTrue_or (thn (ha pins s σ H _ I h) fun c s1 ⟨H1, I1, q1⟩ => ?_)
 cases c with
 | true => exact ⟨H1, I1, q1⟩
 | false => exact hb wh pins s1 σ H1 Q I1 q1
theorem qW (ha : PT X a tA) : PT X (.UnaryOp .Not a pos) (tNot tA) := by
 intro pins s σ H Q I h
 exact isTrue_not (ha pins s σ H (fun c H1 => Q (!c) H1) I h)
noncomputable def AD (ta tb : TE) : TE := fun σ H Q => ta σ H fun x H1 => ∃ c, x = .bl c /\ if c = true then tb σ H1 Q else Q (.bl false) H1
noncomputable def AE (ta : TE) : TE := fun σ H Q => ta σ H fun x H1 => ∃ c, x = .bl c /\ Q (.bl (!c)) H1
theorem qX {op} {t : TE} (h : PE X a t) : PE X (.BoolOp op [a] pos) t := fun pins s σ H Q I hw => BoolOp_one (h pins s σ H Q I hw)
theorem qY (ha : PE X a ta) (hb : PE X (.BoolOp .And (b :: rest) pos) tb) : PE X (.BoolOp .And (a :: b :: rest) pos) (AD ta tb) := by
 intro pins s σ H Q I h
 refine BoolOp_and (thn (ha pins s σ H _ I h) fun v s1 ⟨x, H1, I1, r1, q1⟩ => ?_)
 obtain ⟨c, rfl, q1⟩ := q1
 cases r1
 refine wpAny_truthy_bool ?_
 cases c with
 | true => exact hb pins s1 σ H1 Q I1 q1
 | false => exact ⟨.bl false, H1, I1, rfl, q1⟩
theorem qZ (ha : PE X a ta) : PE X (.UnaryOp .Not a pos) (AE ta) := by
 intro pins s σ H Q I h
 refine UnaryOp_ (thn (ha pins s σ H _ I h) fun v s1 ⟨x, H1, I1, r1, q1⟩ => ?_)
 obtain ⟨c, rfl, q1⟩ := q1
 cases r1
 exact not_of (wpAny_truthy_bool ⟨.bl (!c), H1, I1, rfl, q1⟩)
end
noncomputable def SqL (K : W.Frag) (H : Hp) (a : Addr) (xs : List V) : Prop :=
 Rd H a (.lst xs) \/
  ∃ (o : Obj) (its : Array Value) (n : Nat), K.lookup a = some o /\ o.cls = .type "list" /\ o.dict = none /\ o.data = .seq its n /\ its.size <= sizeLine /\ Vals xs its.toList
noncomputable def SqT (K : W.Frag) (H : Hp) (a : Addr) (xs : List V) : Prop :=
 Rd H a (.tup xs) \/
  ∃ (o : Obj) (its : Array Value) (n : Nat), K.lookup a = some o /\ o.cls = .type "tuple" /\ o.data = .seq its n /\ its.size <= sizeLine /\ Vals xs its.toList
noncomputable def SqR (K : W.Frag) (H : Hp) (a : Addr) (xs : List V) : Prop :=
 Rd H a (.lst xs) \/ ∃ (its : Array Value) (n : Nat), K.lookup a = some { cls := .type "list", data := .seq its n } /\ its.size <= sizeLine /\ Vals xs its.toList
noncomputable def absV : Value -> Option V
 | .none => some .non
 | .bool b => some (.bl b)
 | .int i _ => some (.int i)
 | .str x _ => some (.str x)
 | .bytes b _ => some (.byt b)
 | .float b _ => some (.flt b)
 | .ref a => some (.ref a)
 | .type n => some (.ty n)
 | _ => none
theorem RelV.abs {x : V} {u : Value} (r : RelV x u) : absV u = some x := by
 cases x with
 | non => cases r; rfl
 | bl _ => cases r; rfl
 | int _ => obtain ⟨t, rfl⟩ := r; rfl
 | str _ => obtain ⟨t, rfl⟩ := r; rfl
 | byt _ => obtain ⟨t, rfl⟩ := r; rfl
 | flt _ => obtain ⟨t, rfl⟩ := r; rfl
 | ref _ => cases r; rfl
 | ty _ => cases r; rfl
theorem RelV.inj {x y : V} {u : Value} (r : RelV x u) (q : RelV y u) : x = y := Option.some.inj (r.abs.symm.trans q.abs)
theorem Vals.inj : ∀ {xs ys : List V} {us : List Value}, Vals xs us -> Vals ys us -> xs = ys
 | _, _, _, .nil, .nil => rfl
 | _, _, _, .cons r t, .cons r' t' => by rw [r.inj r', Vals.inj t t']
section
variable {X : Cx} {pins : yd} {σ : St} {H : Hp} {s : Shared} {a : Addr} {xs ys : List V}
theorem SqT.of {K : W.Frag} (h : H a = some (.tup xs)) : SqT K H a xs := .inl (.inl h)
theorem Inv.list (I : Inv X pins σ H s) (h : SqL X.K H a xs) : ∃ its : List Value, Vals xs its /\ PlainL s.heap a its.toArray /\ xs.length <= sizeLine := by
 rcases h with h | ⟨o, its, n, hk, hc, hd, hs, hz, r⟩
 ·obtain ⟨z, its, n, r, e⟩ := h.ok I.hok
  exact ⟨its, r, ⟨_, n, e, rfl, rfl, rfl⟩, z⟩
 ·refine ⟨its.toList, r, ⟨o, n, I.kIn a o hk, hc, hd, by simpa using hs⟩, ?_⟩
  have e := r.length
  simp only [Array.length_toList] at e
  lia
theorem Inv.tuple (I : Inv X pins σ H s) (h : SqT X.K H a xs) : ∃ its : List Value, Vals xs its /\ IsTup s.heap a its.toArray /\ xs.length <= sizeLine := by
 rcases h with h | ⟨o, its, n, hk, hc, hs, hz, r⟩
 ·obtain ⟨z, its, r, p⟩ := h.ok I.hok
  exact ⟨its, r, p, z⟩
 ·refine ⟨its.toList, r, ⟨o, I.kIn a o hk, hc, n, by simpa using hs⟩, ?_⟩
  have e := r.length
  simp only [Array.length_toList] at e
  lia
theorem Inv.list_inj (I : Inv X pins σ H s) (h : SqL X.K H a xs) (h' : SqL X.K H a ys) : xs = ys := by
 obtain ⟨its, r, ⟨o, n, e, _, _, d⟩, _⟩ := I.list h
 obtain ⟨its', r', ⟨o', n', e', _, _, d'⟩, _⟩ := I.list h'
 rw [e] at e'; cases e'
 rw [d] at d'
 injection d' with d1 _
 have : its = its' := by simpa using congrArg Array.toList d1
 subst this
 exact r.inj r'
theorem Inv.tuple_inj (I : Inv X pins σ H s) (h : SqT X.K H a xs) (h' : SqT X.K H a ys) : xs = ys := by
 obtain ⟨its, r, ⟨o, e, _, n, d⟩, _⟩ := I.tuple h
 obtain ⟨its', r', ⟨o', e', _, n', d'⟩, _⟩ := I.tuple h'
 rw [e] at e'; cases e'
 rw [d] at d'
 injection d' with d1 _
 have : its = its' := by simpa using congrArg Array.toList d1
 subst this
 exact r.inj r'
end
abbrev Cx.wish (X : Cx) (E : ye) : Cx := { X with xe := E }
abbrev Cx.nox (X : Cx) : Cx := X.wish fun _ _ => False
theorem Cx.Ok.wish {X : Cx} (ok : X.Ok) (E : ye) : (X.wish E).Ok :=
 ⟨ok.mod, ok.kind, ok.glob, ok.blt, ok.above, ok.inj, ok.has, ok.cab, ok.hd, ok.frames, ok.stk, ok.exf, ok.bs, ok.bsz, ok.noex, ok.exfs, ok.funs, ok.frf⟩
theorem Cx.Ok.unwish {X : Cx} {E : ye} (ok : (X.wish E).Ok) : X.Ok :=
 ⟨ok.mod, ok.kind, ok.glob, ok.blt, ok.above, ok.inj, ok.has, ok.cab, ok.hd, ok.frames, ok.stk, ok.exf, ok.bs, ok.bsz, ok.noex, ok.exfs, ok.funs, ok.frf⟩
section
variable {X : Cx} {pins : yd} {σ : St} {H : Hp} {s : Shared} {E : ye}
theorem Inv.wish (I : Inv X pins σ H s) (E : ye) : Inv (X.wish E) pins σ H s := ⟨I.ok.wish E, I.os, I.bare, I.base, I.loc, I.cell, I.free, I.freeC, I.pin, I.hok, I.len⟩
theorem Inv.unwish (I : Inv (X.wish E) pins σ H s) : Inv X pins σ H s := ⟨I.ok.unwish, I.os, I.bare, I.base, I.loc, I.cell, I.free, I.freeC, I.pin, I.hok, I.len⟩
end
section
variable {X : Cx} {st : Stmt} {rest : List Stmt} {t u : TS} {e : Expr} {te : TE} {pos : Pos}
def AF : TS := fun D σ H => D.nx σ H
noncomputable def tSeq (t u : TS) : TS := fun D σ H => t { D with nx := u D } σ H
theorem og : PSs X [] AF := fun _ _ σ H _ I h => wpAny_execs_nil ⟨σ, H, I, h⟩
theorem mK (h1 : PS X st t) (h2 : PSs X rest u) : PSs X (st :: rest) (tSeq t u) := by
 intro pins s σ H D I h
 refine wpAny_execs_cons (thn (h1 pins s σ H { D with nx := u D } I h) fun f s1 q => ?_)
 cases f with
 | next =>
  obtain ⟨σ', H', I', q⟩ := q
  exact h2 pins s1 σ' H' D I' q
 | ret v => exact q
 | brk => exact q
 | cont => exact q
theorem oi (h1 : PS X st t) : PSs X [st] t := by
 intro pins s σ H D I h
 refine wpAny_execs_cons (thn (h1 pins s σ H D I h) fun f s1 q => ?_)
 cases f with
 | next => exact wpAny_execs_nil q
 | ret v => exact q
 | brk => exact q
 | cont => exact q
theorem Inv.quiet {pins : yd} {σ : St} {H : Hp} {s : Shared} (I : Inv X pins σ H s) : interactive X.env = false := by simp [interactive, I.ok.kind]
noncomputable def Am (te : TE) : TS := fun D σ H => te σ H fun _ H1 => D.nx σ H1
theorem oj (he : PE X e te) (hs : swapsWith e none pos.line X.env = pure false := by rfl) : PS X (.Expr e pos) (Am te) := by
 intro pins s σ H D I h
 exact wpAny_Expr_any (thn (he pins s σ H _ I h) fun v s1 ⟨x, H1, I1, r1, q1⟩ => ⟨σ, H1, I1, q1⟩) I.quiet hs
def tRet (te : TE) : TS := fun D σ H => te σ H D.rt
theorem mL (he : PE X e te) : PS X (.Return (some e) pos) (tRet te) := by
 intro pins s σ H D I h
 exact wpAny_Return_some (thn (he pins s σ H _ I h) fun v s1 ⟨x, H1, I1, r1, q1⟩ => ⟨x, σ, H1, I1, r1, q1⟩)
noncomputable def tIfS (c : TT) (t u : TS) : TS := fun D σ H => c σ H fun b H1 => if b = true then t D σ H1 else u D σ H1
theorem uO {c : Expr} {a b : List Stmt} {tc : TT} (hc : PT X c tc) (ha : PSs X a t) (hb : PSs X b u) : PS X (.If c a b pos) (tIfS tc t u) := by
 intro pins s σ H D I h
 refine wpAny_If (thn (hc pins s σ H _ I h) fun d s1 ⟨H1, I1, q1⟩ => ?_)
 cases d with
 | true => exact ha pins s1 σ H1 D I1 q1
 | false => exact hb pins s1 σ H1 D I1 q1
end
abbrev TG := V -> St -> Hp -> (St -> Hp -> Prop) -> Prop
noncomputable def PG (X : Cx) (target : Expr) (t : TG) : Prop :=
 ∀ (pins : yd) (s : Shared) (σ : St) (H : Hp) (v : V) (u : Value) (Q : St -> Hp -> Prop), Inv X pins σ H s -> RelV v u -> t v σ H Q ->
  wpAny (model X.prog X.w) X.A (assign target X.env u) (fun _ s' => ∃ σ' H', Inv X pins σ' H' s' /\ Q σ' H') X.xe s
abbrev TSet := V -> V -> V -> Hp -> (Hp -> Prop) -> Prop
noncomputable def PSet (X : Cx) (t : TSet) : Prop :=
 ∀ (pins : yd) (s : Shared) (σ : St) (H : Hp) (o i v : V) (ov iv u : Value) (Q : Hp -> Prop), Inv X pins σ H s -> RelV o ov -> RelV i iv -> RelV v u -> t o i v H Q ->
  wpAny (model X.prog X.w) X.A (setItem ov iv u) (fun _ s' => ∃ H', Inv X pins σ H' s' /\ Q H') X.xe s
section
variable {X : Cx} {pos : Pos}
noncomputable def z0 (i : Nat) : TG := fun v σ H Q => Q (σ.set i (some v)) H
theorem g6 {i : Nat} {x : Str} (hN : X.N.Nodup) (hi : X.N[i]? = some x) (hx : Loc X.env.scope x) (hf : X.fn x = true \/ X.env.scope.names.lookup x = some .local := by first | exact .inl rfl | exact .inr rfl | assumption) : PG X (.Name x pos) (z0 i) := by
 intro pins s σ H v u Q I r h
 exact wpAny_assign_Name (gd I hN hi hx r (fun s' I' => ⟨_, H, I', h⟩) hf)
noncomputable def gSub (to ti : TE) (t : TSet) : TG := fun v σ H Q => to σ H fun o H1 => ti σ H1 fun i H2 => t o i v H2 fun H3 => Q σ H3
theorem r6 {o i : Expr} {to ti : TE} {t : TSet} (ho : PE X o to) (hi : PE X i ti) (hs : PSet X t)
  (ha : ∀ v, assign (.Subscript o i pos) X.env v = (do
   let ov <- holding [v] (eval o X.env)
   let iv <- holding [v, ov] (eval i X.env)
   standAt pos
   holding [v, ov, iv] (setItem ov iv v)
   release [v, ov, iv] []) := by intro _; rfl) : PG X (.Subscript o i pos) (gSub to ti t) := by
 intro pins s σ H v u Q I r h
 rw [ha]
 refine wpAny_bind (wpAny_holding (thn (ho pins s σ H _ I h) fun ov s1 ⟨x, H1, I1, r1, q1⟩ => ?_))
 refine wpAny_bind (wpAny_holding (thn (hi pins s1 σ H1 _ I1 q1) fun iv s2 ⟨y, H2, I2, r2, q2⟩ => ?_))
 refine wpAny_bind (wpAny_standAt (wpAny_bind (wpAny_holding (thn (hs pins s2 σ H2 x y v ov iv u _ I2 r1 r2 r q2) fun _ s3 ⟨H3, I3, q3⟩ => ?_))))
 exact wpAny_release ⟨σ, H3, I3, q3⟩
noncomputable def tAsg (te : TE) (g : TG) : TS := fun D σ H => te σ H fun x H1 => g x σ H1 D.nx
theorem r8 {tg e : Expr} {te : TE} {g : TG} (he : PE X e te) (hg : PG X tg g) (hs : swapsWithSole [tg] e pos.line X.env = pure false := by rfl) (hw : swappedStores [tg] e X.env = pure none := by rfl)
  (h1 : (assignEach [tg] X.env).map (·.2) = [assign tg X.env] := by rfl) : PS X (.Assign [tg] e pos) (tAsg te g) := by
 intro pins s σ H D I h
 refine wpAny_Assign_stores (thn (he pins s σ H _ I h) fun v s1 ⟨x, H1, I1, r1, q1⟩ => ?_) hs hw
 rw [h1]
 exact thn (hg pins s1 σ H1 x v _ I1 r1 q1) fun _ s2 q => q
theorem r9 {i : Nat} {x : Str} {e : Expr} {te : TE} {pos' : Pos} (hN : X.N.Nodup) (hi : X.N[i]? = some x) (hx : Loc X.env.scope x) (he : PE X e te) (hs : swapsWith e (some (.Name x pos')) pos.line X.env = pure false := by rfl) (hf : X.fn x = true \/ X.env.scope.names.lookup x = some .local := by first | exact .inl rfl | exact .inr rfl | assumption) :
  PS X (.Assign [.Name x pos'] e pos) (tAsg te (z0 i)) := by
 intro pins s σ H D I h
 refine wpAny_Assign_Name (thn (he pins s σ H _ I h) fun v s1 ⟨y, H1, I1, r1, q1⟩ => ?_) hs
 exact gd I1 hN hi hx r1 (fun s2 I2 => ⟨_, H1, I2, q1⟩) hf
end
section
variable {X : Cx} {pos : Pos}
end
structure It where
 go : Nat -> Hp -> Prop
 yld : Nat -> Hp -> V -> Hp -> Prop
 stop : Nat -> Hp -> Prop
noncomputable def FpOk (X : Cx) (pins : yd) (H : Hp) (b : Addr) : Prop :=
 H b = none /\ b ≠ X.env.locals /\ b ∉ X.fs /\ (b ∈ X.ex \/ X.s₀.heap.objs.size <= b) /\ (∀ x c, X.env.cells.lookup x = some c -> c ≠ b) /\ ∀ p ∈ X.pn ++ pins, p.1 ≠ b
theorem Inv.fpOk {X : Cx} {pins : yd} {σ : St} {H H' : Hp} {s : Shared} {b : Addr} (I : Inv X pins σ H s) (hb : s.heap.objs.size <= b) (hn : H' b = none) : FpOk X pins H' b := by
 refine ⟨hn, Nat.ne_of_gt (Nat.lt_of_lt_of_le I.lt hb), I.nofs hb, .inr (Nat.le_trans I.sz hb), fun x c e z => ?_, fun p hp z => ?_⟩
 ·obtain ⟨v, q⟩ := I.cell x c e
  exact absurd (Nat.lt_of_lt_of_le q.lt (by rw [z]; exact hb)) (Nat.lt_irrefl _)
 ·exact absurd (Nat.lt_of_lt_of_le (Heap.lt_size (I.pin p hp).1) (by rw [z]; exact hb)) (Nat.lt_irrefl _)
structure Turn (P : Program) (w : World) (K : W.Frag) (tg : Expr) (J : It) (fp : List Addr) (it : Addr) (tn : Nat -> Heap -> Prop) : Prop where
 mem : it ∈ fp
 obj : ∀ i h, tn i h -> ∀ b ∈ fp, ∃ o, h.get? b = some o /\ ∀ v, o.data ≠ .cell v
 keep : ∀ i h h', tn i h -> (∀ b ∈ fp, ∀ o, h.get? b = some o -> h'.get? b = some o) -> tn i h'
 item : ∀ (X : Cx), X.prog = P -> X.w = w -> X.K = K -> X.calm = true -> ∀ (i : Nat) (pins : yd) (s : Shared) (σ : St) (H : Hp) (E : ye), Inv X pins σ H s -> (∀ b ∈ fp, FpOk X pins H b) -> tn i s.heap -> J.go i H ->
  wpAny (model P w) X.A (pyNext (.ref it)) (fun r s1 => ∃ u, r = some u /\
   wpAny (model P w) X.A (letOwnedTupleGo tg (.ref it) u) (fun _ s2 => ∃ x H', Inv X pins σ H' s2 /\ RelV x u /\ J.yld i H x H' /\ tn (i + 1) s2.heap /\ ∀ b ∈ fp, H' b = none) E s1) E s
 done : ∀ (X : Cx), X.prog = P -> X.w = w -> X.K = K -> X.calm = true -> ∀ (i : Nat) (pins : yd) (s : Shared) (σ : St) (H : Hp) (E : ye), Inv X pins σ H s -> (∀ b ∈ fp, FpOk X pins H b) -> tn i s.heap -> J.stop i H ->
  wpAny (model P w) X.A (pyNext (.ref it)) (fun r s1 => r = none /\ Inv X pins σ H s1) E s
 self : ∀ (A : Around) (i : Nat) (s : Shared) (Q : ye) (E : ye), tn i s.heap -> Q (.ref it) s -> wpAny (model P w) A (pyIter (.ref it)) Q E s
abbrev TI := St -> Hp -> (It -> Hp -> Prop) -> Prop
noncomputable def PIE (X : Cx) (pins : yd) (σ : St) (tg : Expr) (R : It -> Hp -> Prop) (itv : Value) (s2 : Shared) : Prop :=
 ∃ (it : Addr) (fp : List Addr) (tn : Nat -> Heap -> Prop) (J : It) (H' : Hp), itv = .ref it /\ Inv X pins σ H' s2 /\ Turn X.prog X.w X.K tg J fp it tn /\ tn 0 s2.heap /\ (∀ b ∈ fp, FpOk X pins H' b) /\ R J H'
noncomputable def PI (X : Cx) (tg iter : Expr) (wi : TI) : Prop :=
 ∀ (pins : yd) (s : Shared) (σ : St) (H : Hp) (R : It -> Hp -> Prop), Inv X pins σ H s -> wi σ H R ->
  wpAny (model X.prog X.w) X.A (eval iter X.env) (fun v s1 => wpAny (model X.prog X.w) X.A (pyIter v) (PIE X pins σ tg R) X.xe s1) X.xe s
theorem ky {M : Model} {A : Around} {E : ye} {s : Shared} {tg : Expr} {it : Addr} {u : Value} {o : Obj} {n : String} {vs : Array Value} {Q : Unit -> Shared -> Prop} (ho : s.heap.get? it = some o) (hc : o.cls = .type n) (hd : o.data = .fields vs)
    (hn : ["enumerate", "zip", "dict_itemiterator", "dict_reverseitemiterator", "odict_iterator", "itertools.zip_longest", "itertools.pairwise"].contains n = false) (hQ : Q () s) : wpAny M A (letOwnedTupleGo tg (.ref it) u) Q E s := by
  unfold letOwnedTupleGo
  cases tg <;> first
    | exact wpAny_pure hQ
    | (cases u <;> first
        | exact wpAny_pure hQ
        | (refine wpAny_bind (wpAny_load ho ?_)
           rw [hc, hd]
           show wpAny M A (if (["enumerate", "zip", "dict_itemiterator", "dict_reverseitemiterator", "odict_iterator", "itertools.zip_longest", "itertools.pairwise"].contains n && vs[0]? == some (rawInt _)) = true then _ else _) Q E s
           rw [if_neg (by intro h; rw [hn, Bool.false_and] at h; cases h)]
           exact wpAny_pure hQ))
noncomputable def Itl (K : W.Frag) (a : Addr) : It :=
 ⟨fun i H => ∃ xs x, SqL K H a xs /\ xs[i]? = some x, fun i H x H' => H' = H /\ ∀ xs, SqL K H a xs -> xs[i]? = some x, fun i H => ∃ xs, SqL K H a xs /\ xs.length <= i⟩
noncomputable def Itt (K : W.Frag) (a : Addr) : It :=
 ⟨fun i H => ∃ xs x, SqT K H a xs /\ xs[i]? = some x, fun i H x H' => H' = H /\ ∀ xs, SqT K H a xs -> xs[i]? = some x, fun i H => ∃ xs, SqT K H a xs /\ xs.length <= i⟩
noncomputable def Itr (lo : Int) (n : Nat) : It := ⟨fun i _ => i < n, fun i H x H' => H' = H /\ x = .int (lo + i), fun i _ => n <= i⟩
theorem lJ {P : Program} {w : World} {K : W.Frag} {tg : Expr} (a it : Addr) : Turn P w K tg (Itl K a) [it] it (fun i h => h.IsListIter it a i) where
 mem := by simp
 obj := fun i h st b hb => by
  have e : b = it := by simpa using hb
  subst e
  obtain ⟨o, e, c, d⟩ := st
  exact ⟨o, e, fun v z => by rw [d] at z; cases z⟩
 keep := fun i h h' st k => st.at fun o e => k it (by simp) o e
 item := by
  intro X hP hw hK hc i pins s σ H E I hf st hg
  subst hP hw hK
  obtain ⟨xs, x, hq, hx⟩ := hg
  obtain ⟨its, rv, p, hz⟩ := I.list hq
  obtain ⟨u, hu, ru⟩ := rv.get hx
  obtain ⟨f0, f1, f2, f3, f4, f5⟩ := hf it (by simp)
  refine wpAny_pyNext_list_item st p.isList (x := u) (by simpa using hu) fun h' st' sb => ?_
  have I1 : Inv X pins σ H { s with heap := h' } := I.turned (t' := s.toks) (fun b o hb e => (sb.2 b hb).trans e) f0 f1 f3 f4 f5
  obtain ⟨o, e, c, d⟩ := id st'
  exact ⟨u, rfl, ky (s := { s with heap := h' }) e c d (by decide) ⟨x, H, I1, ru, ⟨rfl, fun ys hy => by rw [I.list_inj hy hq]; exact hx⟩, st', fun b hb => (hf b hb).1⟩⟩
 done := by
  intro X hP hw hK hc i pins s σ H E I hf st hg
  subst hP hw hK
  obtain ⟨xs, hq, hx⟩ := hg
  obtain ⟨its, rv, p, hz⟩ := I.list hq
  obtain ⟨f0, f1, f2, f3, f4, f5⟩ := hf it (by simp)
  have hl := rv.length
  exact wpAny_pyNext_list_end (I.ok.hd hc) st p.isList (by simp; lia) fun h' eb => ⟨rfl, I.turned (t' := s.toks) (fun b o hb e => eb b o hb e) f0 f1 f3 f4 f5⟩
 self := fun _ _ _ _ _ st h => wpAny_pyIter_listiter st h
theorem jL {P : Program} {w : World} {K : W.Frag} {tg : Expr} (a it : Addr) : Turn P w K tg (Itt K a) [it] it (fun i h => h.IsTupleIter it a i) where
 mem := by simp
 obj := fun i h st b hb => by
  have e : b = it := by simpa using hb
  subst e
  obtain ⟨o, e, c, d⟩ := st
  exact ⟨o, e, fun v z => by rw [d] at z; cases z⟩
 keep := fun i h h' st k => st.at fun o e => k it (by simp) o e
 item := by
  intro X hP hw hK hc i pins s σ H E I hf st hg
  subst hP hw hK
  obtain ⟨xs, x, hq, hx⟩ := hg
  obtain ⟨its, rv, p, hz⟩ := I.tuple hq
  obtain ⟨u, hu, ru⟩ := rv.get hx
  obtain ⟨f0, f1, f2, f3, f4, f5⟩ := hf it (by simp)
  refine wpAny_pyNext_tuple_item st (show s.heap.IsTuple a its.toArray from p) (x := u) (by simpa using hu) fun h' st' sb => ?_
  have I1 : Inv X pins σ H { s with heap := h' } := I.turned (t' := s.toks) (fun b o hb e => (sb.2 b hb).trans e) f0 f1 f3 f4 f5
  obtain ⟨o, e, c, d⟩ := id st'
  exact ⟨u, rfl, ky (s := { s with heap := h' }) e c d (by decide) ⟨x, H, I1, ru, ⟨rfl, fun ys hy => by rw [I.tuple_inj hy hq]; exact hx⟩, st', fun b hb => (hf b hb).1⟩⟩
 done := by
  intro X hP hw hK hc i pins s σ H E I hf st hg
  subst hP hw hK
  obtain ⟨xs, hq, hx⟩ := hg
  obtain ⟨its, rv, p, hz⟩ := I.tuple hq
  obtain ⟨f0, f1, f2, f3, f4, f5⟩ := hf it (by simp)
  have hl := rv.length
  exact wpAny_pyNext_tuple_end (I.ok.hd hc) st (show s.heap.IsTuple a its.toArray from p) (by simp; lia) fun h' eb => ⟨rfl, I.turned (t' := s.toks) (fun b o hb e => eb b o hb e) f0 f1 f3 f4 f5⟩
 self := fun _ _ _ _ _ st h => wpAny_pyIter_tupleiter st h
theorem jM {P : Program} {w : World} {K : W.Frag} {tg : Expr} (it : Addr) (lo : Int) (n : Nat) : Turn P w K tg (Itr lo n) [it] it (fun i h => IsRangeIter h it (lo + (i : Nat) * 1) ((n : Int) - (i : Nat)) 1) where
 mem := by simp
 obj := fun i h st b hb => by
  have e : b = it := by simpa using hb
  subst e
  exact ⟨_, st, fun v z => by
   have z' : Data.fields _ = Data.cell v := z
   cases z'⟩
 keep := fun i h h' st k => k it (by simp) _ st
 item := by
  intro X hP hw hK hc i pins s σ H E I hf st hg
  subst hP hw hK
  obtain ⟨f0, f1, f2, f3, f4, f5⟩ := hf it (by simp)
  have W := Walks.range (prog := X.prog) (w := X.w) (I.ok.hd hc) it lo 1 n
  refine W.item i s _ _ hg st fun v h' tk hv st' kk => ?_
  obtain ⟨t, rfl⟩ := hv
  have I1 : Inv X pins σ H { s with heap := h', toks := tk } := I.turned (fun b o hb e => kk b o (by simpa using hb) e) f0 f1 f3 f4 f5
  refine ⟨_, rfl, ky (s := { s with heap := h', toks := tk }) (n := "range_iterator") st' rfl rfl (by decide) ⟨.int (lo + i), H, I1, ⟨t, ?_⟩, ⟨rfl, rfl⟩, st', fun b hb => (hf b hb).1⟩⟩
  rw [Int.mul_one]
 done := by
  intro X hP hw hK hc i pins s σ H E I hf st hg
  subst hP hw hK
  obtain ⟨f0, f1, f2, f3, f4, f5⟩ := hf it (by simp)
  exact wpAny_pyNext_range_end (I.ok.hd hc) st (by have : n <= i := hg; lia) fun h' eb => ⟨rfl, I.turned (t' := s.toks) (fun b o hb e => eb b o hb e) f0 f1 f3 f4 f5⟩
 self := fun _ _ _ _ _ st h => wpAny_pyIter_rangeiter st h
section
variable {X : Cx} {tg : Expr}
theorem j4 {pins : yd} {σ : St} {H : Hp} {s : Shared} {R : It -> Hp -> Prop} {E : ye} {lo hi : Int} {t u v : Tok} {tk : Nat} (I : Inv X pins σ H s) (h1 : -(2 ^ 62) <= lo) (h2 : lo < 2 ^ 62) (h3 : -(2 ^ 62) <= hi) (h4 : hi < 2 ^ 62)
  (q : R (Itr lo (hi - lo).toNat) H) : wpAny (model X.prog X.w) X.A (pyIter (.ref s.heap.objs.size)) (PIE X pins σ tg R) E { s with heap := s.heap.push { cls := .type "range", data := .fields #[.int lo t, .int hi u, .int 1 v] }, toks := tk } := by
 refine wpAny_pyIter_range (IsRange.new ..) (small_one h1 h2 h3 h4) ?_
 have I1 : Inv X pins σ H { s with heap := s.heap.push { cls := .type "range", data := .fields #[.int lo t, .int hi u, .int 1 v] }, toks := tk } := I.kept fun b o e => Heap.get?_push_of_some _ e
 refine ⟨(s.heap.push { cls := .type "range", data := .fields #[.int lo t, .int hi u, .int 1 v] }).objs.size, [(s.heap.push { cls := .type "range", data := .fields #[.int lo t, .int hi u, .int 1 v] }).objs.size], _, _, H, rfl,
  I1.kept (t' := tk) fun b o e => Heap.get?_push_of_some _ e, jM _ lo (hi - lo).toNat, ?_, fun b hb => ?_, q⟩
 ·have e1 : lo + ((0 : Nat) : Int) * 1 = lo := by simp
  have e2 : (((hi - lo).toNat : Nat) : Int) - ((0 : Nat) : Int) = Builtin.Range.rangeSize lo hi 1 := by rw [rangeSize_one]; split <;> lia
  show IsRangeIter _ _ (lo + ((0 : Nat) : Int) * 1) ((((hi - lo).toNat : Nat) : Int) - ((0 : Nat) : Int)) 1
  rw [e1, e2]
  exact Heap.get?_push_size _ rfl
 ·have e : b = (s.heap.push { cls := .type "range", data := .fields #[.int lo t, .int hi u, .int 1 v] }).objs.size := by simpa using hb
  subst e
  exact I1.fpOk (Nat.le_refl _) (I1.hok.fresh (Nat.le_refl _))
noncomputable def AG (ta : TA) : TI := fun σ H R => ta σ H fun vs H1 => ∃ j : Int, vs = [.int j] /\ -(2 ^ 62) <= j /\ j < 2 ^ 62 /\ R (Itr 0 j.toNat) H1
noncomputable def AH (ta : TA) : TI := fun σ H R => ta σ H fun vs H1 => ∃ i j : Int, vs = [.int i, .int j] /\ (-(2 ^ 62) <= i /\ i < 2 ^ 62 /\ -(2 ^ 62) <= j /\ j < 2 ^ 62) /\ R (Itr i (j - i).toNat) H1
theorem i5 {a : Expr} {ta : TA} {p pos : Pos} (hg : Gl X "range") (hm : X.mg "range" = none) (ha : PA X [a] ta) (hs : starEach [a] X.env = [(false, eval a X.env)] := by rfl) : PI X tg (.Call (.Name "range" p) [a] [] pos) (AG ta) := by
 intro pins s σ H R I h
 refine Call_ (gf I hg hm boot_range (callWith_type1 (thn (ha pos pins s σ H _ I h) fun us s1 ⟨vs, H1, I1, r1, q1⟩ => ?_) hs rfl))
 obtain ⟨j, e, q1, q2, q⟩ := q1
 subst e
 cases r1 with
 | cons r rr =>
  cases rr
  obtain ⟨t, rfl⟩ := r
  exact call_range_1 (j4 I1 (by lia) (by lia) q1 q2 (by simpa using q))
theorem lK {a b : Expr} {ta : TA} {p pos : Pos} (hg : Gl X "range") (hm : X.mg "range" = none) (ha : PA X [a, b] ta) (hs : starEach [a, b] X.env = [(false, eval a X.env), (false, eval b X.env)] := by rfl) (hs2 : starEach [b] X.env = [(false, eval b X.env)] := by rfl) :
  PI X tg (.Call (.Name "range" p) [a, b] [] pos) (AH ta) := by
 intro pins s σ H R I h
 refine Call_ (gf I hg hm boot_range (callWith_type1 (thn (ha pos pins s σ H _ I h) fun us s1 ⟨vs, H1, I1, r1, q1⟩ => ?_) (by rw [hs, hs2]) (by rw [hs2]; rfl)))
 obtain ⟨i, j, e, ⟨q1, q2, q3, q4⟩, q⟩ := q1
 subst e
 cases r1 with
 | cons r rr =>
  cases rr with
  | cons r' rr =>
   cases rr
   obtain ⟨t, rfl⟩ := r
   obtain ⟨t', rfl⟩ := r'
   exact call_range_2 (j4 I1 q1 q2 q3 q4 q)
noncomputable def tFor (wi : TI) (g : TG) (tb : TS) : TS := fun D σ H => wi σ H fun J H1 => ∃ W : Nat -> Nat -> St -> Hp -> Prop, (∃ m, W 0 m σ H1) /\ ∀ i m σ H, W i m σ H ->
 (J.stop i H /\ D.nx σ H) \/ (J.go i H /\ ∃ N : St -> Hp -> Prop, (∀ σ' H', N σ' H' -> ∃ m', m' < m /\ W (i + 1) m' σ' H') /\ ∀ x H', J.yld i H x H' -> g x σ H' fun σ2 H2 => tb { D with nx := N, ct := N, bk := D.nx } σ2 H2)
noncomputable def yW (fp : List Addr) (h : Heap) : yd := fp.filterMap fun b => (h.get? b).map fun o => (b, o)
theorem bU {fp : List Addr} {h : Heap} {b : Addr} {o : Obj} (hb : b ∈ fp) (e : h.get? b = some o) : (b, o) ∈ yW fp h := List.mem_filterMap.mpr ⟨b, hb, by rw [e]; rfl⟩
theorem fz {fp : List Addr} {h : Heap} {p : Addr × Obj} (hp : p ∈ yW fp h) : p.1 ∈ fp /\ h.get? p.1 = some p.2 := by
 obtain ⟨b, hb, e⟩ := List.mem_filterMap.mp hp
 cases q : h.get? b with
 | none => rw [q] at e; cases e
 | some o =>
  rw [q] at e
  have e' : (b, o) = p := Option.some.inj e
  subst e'
  exact ⟨hb, q⟩
theorem Inv.pinned {pins : yd} {σ : St} {H : Hp} {s : Shared} {fp : List Addr} (I : Inv X pins σ H s) (hf : ∀ b ∈ fp, FpOk X pins H b) (ho : ∀ b ∈ fp, ∃ o, s.heap.get? b = some o /\ ∀ v, o.data ≠ .cell v) : Inv X (pins ++ yW fp s.heap) σ H s :=
 I.pins_of fun p hp => (List.mem_append.mp hp).elim (fun z => I.pin p (List.mem_append_right _ z)) fun z => by
  obtain ⟨hb, e⟩ := fz z
  obtain ⟨f0, f1, f2, _⟩ := hf p.1 hb
  obtain ⟨o, e', d⟩ := ho p.1 hb
  rw [e] at e'; cases e'
  exact ⟨e, f0, f1, f2, d⟩
theorem Inv.unpinned {pins pl : yd} {σ : St} {H : Hp} {s : Shared} (I : Inv X (pins ++ pl) σ H s) : Inv X pins σ H s := I.pins_of fun p hp => I.pin p (List.mem_append_right _ (List.mem_append_left _ hp))
theorem rf {iter : Expr} {body : List Stmt} {wi : TI} {g : TG} {tb : TS} {pos : Pos} (hp : PassesOwn (model X.prog X.w) X.A X.env X.xe) (hc : X.calm = true) (hi : PI X tg iter wi) (hg : PG X tg g) (hb : PSs X body tb)
  (hs : ∀ x, foldedSetIterable iter X.env x = pure x := by intro _; rfl) : PS X (.For tg iter body [] pos) (tFor wi g tb) := by
 intro pins s σ H D I h
 refine wpAny_For (thn (hi pins s σ H _ I h) fun v s1 h1 => thn h1 fun itv s2 h2 => ?_) hs
 obtain ⟨it, fp, tn, J, H2, e, I2, T, st2, f2, W, ⟨m0, w0⟩, turn⟩ := h2
 subst e
 have stat : ∀ {H' : Hp}, (∀ b ∈ fp, H' b = none) -> ∀ b ∈ fp, FpOk X pins H' b := fun hn b hb => ⟨hn b hb, (f2 b hb).2⟩
 refine codeAny_forLoop_any (fun n s' => ∃ i σ' H', Inv X pins σ' H' s' /\ tn i s'.heap /\ (∀ b ∈ fp, H' b = none) /\ W i n σ' H') ?_ m0 ⟨0, σ, H2, I2, st2, fun b hb => (f2 b hb).1, w0⟩
 rintro n s3 ⟨i, σ3, H3, I3, st3, fr3, w3⟩
 rcases turn i n σ3 H3 w3 with ⟨stop, qn⟩ | ⟨go, N, hN, step⟩
 ·refine wpAny_passesOwn hp (thn (T.done X rfl rfl rfl hc i pins s3 σ3 H3 X.xe I3 (stat fr3) st3 stop) fun r s4 ⟨hr, I4⟩ => ?_)
  subst hr
  exact wpAny_execs_nil ⟨σ3, H3, I4, qn⟩
 ·refine wpAny_passesOwn hp (thn (T.item X rfl rfl rfl hc i pins s3 σ3 H3 X.xe I3 (stat fr3) st3 go) fun r s4 ⟨u, hr, h4⟩ => ?_)
  subst hr
  refine wpAny_passesOwn hp (thn h4 fun _ s5 ⟨x, H5, I5, r5, y5, st5, fr5⟩ => ?_)
  have I5' := I5.pinned (stat fr5) (T.obj _ _ st5)
  refine wpAny_passesOwn hp (thn (hg _ s5 σ3 H5 x u _ I5' r5 (step x H5 y5)) fun _ s6 ⟨σ6, H6, I6, q6⟩ => ?_)
  refine wpAny_passesOwn hp (thn (hb _ s6 σ6 H6 _ I6 q6) fun f s7 q7 => ?_)
  have again : ∀ {σ7 : St} {H7 : Hp}, Inv X (pins ++ yW fp s5.heap) σ7 H7 s7 -> N σ7 H7 -> ∃ m, m < n /\ ∃ i σ' H', Inv X pins σ' H' s7 /\ tn i s7.heap /\ (∀ b ∈ fp, H' b = none) /\ W i m σ' H' := fun {σ7 H7} I7 n7 => by
   obtain ⟨m', hm, w7⟩ := hN σ7 H7 n7
   refine ⟨m', hm, i + 1, σ7, H7, I7.unpinned, T.keep _ _ _ st5 fun b hb o e => (I7.pin (b, o) (List.mem_append_right _ (List.mem_append_right _ (bU hb e)))).1, fun b hb => ?_, w7⟩
   obtain ⟨o, e, d⟩ := T.obj _ _ st5 b hb
   exact (I7.pin (b, o) (List.mem_append_right _ (List.mem_append_right _ (bU hb e)))).2.1
  cases f with
  | next => obtain ⟨σ7, H7, I7, n7⟩ := q7; exact again I7 n7
  | cont => obtain ⟨σ7, H7, I7, n7⟩ := q7; exact again I7 n7
  | brk => obtain ⟨σ7, H7, I7, q7⟩ := q7; exact ⟨σ7, H7, I7.unpinned, q7⟩
  | ret v => obtain ⟨x7, σ7, H7, I7, r7, q7⟩ := q7; exact ⟨x7, σ7, H7, I7.unpinned, r7, q7⟩
end
abbrev R2 := V -> V -> Hp -> VK -> Prop
noncomputable def OpR (X : Cx) (f : Value -> Value -> Sem Value) (r : R2) : Prop :=
 ∀ (pins : yd) (s : Shared) (σ : St) (H : Hp) (x y : V) (v u : Value) (Q : VK), Inv X pins σ H s -> RelV x v -> RelV y u -> r x y H Q ->
  wpAny (model X.prog X.w) X.A (f v u) (EP X pins σ Q) X.xe s
noncomputable def UnR (X : Cx) (f : Value -> Sem Value) (r : V -> Hp -> VK -> Prop) : Prop :=
 ∀ (pins : yd) (s : Shared) (σ : St) (H : Hp) (x : V) (v : Value) (Q : VK), Inv X pins σ H s -> RelV x v -> r x H Q ->
  wpAny (model X.prog X.w) X.A (f v) (EP X pins σ Q) X.xe s
noncomputable def yG (X : Cx) (f : Value) (r : List V -> Hp -> VK -> Prop) : Prop :=
 ∀ (pins : yd) (s : Shared) (σ : St) (H : Hp) (xs : List V) (us : List Value) (Q : VK), Inv X pins σ H s -> Vals xs us -> r xs H Q ->
  wpAny (model X.prog X.w) X.A (call f us) (EP X pins σ Q) X.xe s
noncomputable def TruR (X : Cx) (r : V -> Hp -> (Bool -> Hp -> Prop) -> Prop) : Prop :=
 ∀ (pins : yd) (s : Shared) (σ : St) (H : Hp) (x : V) (v : Value) (Q : Bool -> Hp -> Prop), Inv X pins σ H s -> RelV x v -> r x H Q ->
  wpAny (model X.prog X.w) X.A (truthy v) (TP X pins σ Q) X.xe s
noncomputable def tOp (r : R2) (ta tb : TE) : TE := fun σ H Q => ta σ H fun x H1 => tb σ H1 fun y H2 => r x y H2 Q
noncomputable def tUn (r : V -> Hp -> VK -> Prop) (ta : TE) : TE := fun σ H Q => ta σ H fun x H1 => r x H1 Q
noncomputable def rI (C : Int -> Int -> Prop) (g : Int -> Int -> V) : R2 := fun x y H Q => ∃ i j, x = .int i /\ y = .int j /\ C i j /\ Q (g i j) H
noncomputable def rI0 (g : Int -> Int -> V) : R2 := fun x y H Q => ∃ i j, x = .int i /\ y = .int j /\ Q (g i j) H
noncomputable def rU (g : Int -> V) : V -> Hp -> VK -> Prop := fun x H Q => ∃ i, x = .int i /\ Q (g i) H
section
variable {X : Cx} {a b c : Expr} {ta tb tc : TE} {pos : Pos}
theorem binT (ha : PE X a ta) (hb : PE X b tb) {pins : yd} {s : Shared} {σ : St} {H : Hp} {R : V -> V -> Hp -> Prop} (I : Inv X pins σ H s)
  (h : ta σ H fun x H1 => tb σ H1 fun y H2 => R x y H2) {Q : ye} {f : Value -> Value -> Sem Value}
  (hf : ∀ v u s2 x y H2, Inv X pins σ H2 s2 -> RelV x v -> RelV y u -> R x y H2 -> wpAny (model X.prog X.w) X.A (f v u) Q X.xe s2) :
  wpAny (model X.prog X.w) X.A (eval a X.env) (fun v s₁ => wpAny (model X.prog X.w) X.A (eval b X.env) (fun u s₂ => wpAny (model X.prog X.w) X.A (f v u) Q X.xe s₂) X.xe s₁) X.xe s := by
 refine thn (ha pins s σ H _ I h) fun v s1 ⟨x, H1, I1, r1, q1⟩ => ?_
 refine thn (hb pins s1 σ H1 _ I1 q1) fun u s2 ⟨y, H2, I2, r2, q2⟩ => ?_
 exact hf v u s2 x y H2 I2 r1 r2 q2
theorem uP {op : Operator} {r : R2} (ho : OpR X (binaryOp op) r) (ha : PE X a ta) (hb : PE X b tb) : PE X (.BinOp a op b pos) (tOp r ta tb) := by
 intro pins s σ H Q I h
 exact wpAny_BinOp (binT ha hb I h fun v u s2 x y H2 I2 rx ry q => ho pins s2 σ H2 x y v u Q I2 rx ry q)
theorem uQ {op : UnaryOp} {r : V -> Hp -> VK -> Prop} (ho : UnR X (unaryOp op) r) (ha : PE X a ta) : PE X (.UnaryOp op a pos) (tUn r ta) := by
 intro pins s σ H Q I h
 exact UnaryOp_ (thn (ha pins s σ H _ I h) fun v s1 ⟨x, H1, I1, r1, q1⟩ => ho pins s1 σ H1 x v Q I1 r1 q1)
theorem opI {f : Value -> Value -> Sem Value} {C : Int -> Int -> Prop} {g : Int -> Int -> Int}
  (rule : ∀ (i j : Int) (t u : Tok) (s : Shared) (Q : ye) (E : ye), C i j -> Q (.int (g i j) s.toks) { s with toks := s.toks + 1 } -> wpAny (model X.prog X.w) X.A (f (.int i t) (.int j u)) Q E s) :
  OpR X f (rI C fun i j => .int (g i j)) := by
 intro pins s σ H x y v u Q I rx ry h
 obtain ⟨i, j, rfl, rfl, hc, q⟩ := h
 obtain ⟨t, rfl⟩ := rx
 obtain ⟨t', rfl⟩ := ry
 exact rule i j t t' s _ _ hc ⟨.int (g i j), H, I.tok _, ⟨_, rfl⟩, q⟩
theorem opI0 {f : Value -> Value -> Sem Value} {g : Int -> Int -> Int}
  (rule : ∀ (i j : Int) (t u : Tok) (s : Shared) (Q : ye) (E : ye), Q (.int (g i j) s.toks) { s with toks := s.toks + 1 } -> wpAny (model X.prog X.w) X.A (f (.int i t) (.int j u)) Q E s) :
  OpR X f (rI0 fun i j => .int (g i j)) := by
 intro pins s σ H x y v u Q I rx ry h
 obtain ⟨i, j, rfl, rfl, q⟩ := h
 obtain ⟨t, rfl⟩ := rx
 obtain ⟨t', rfl⟩ := ry
 exact rule i j t t' s _ _ ⟨.int (g i j), H, I.tok _, ⟨_, rfl⟩, q⟩
theorem opB0 {f : Value -> Value -> Sem Value} {g : Int -> Int -> Bool}
  (rule : ∀ (i j : Int) (t u : Tok) (s : Shared) (Q : ye) (E : ye), Q (.bool (g i j)) s -> wpAny (model X.prog X.w) X.A (f (.int i t) (.int j u)) Q E s) :
  OpR X f (rI0 fun i j => .bl (g i j)) := by
 intro pins s σ H x y v u Q I rx ry h
 obtain ⟨i, j, rfl, rfl, q⟩ := h
 obtain ⟨t, rfl⟩ := rx
 obtain ⟨t', rfl⟩ := ry
 exact rule i j t t' s _ _ ⟨.bl (g i j), H, I, rfl, q⟩
def CDiv (i j : Int) : Prop := 0 < j /\ j < 1073741824
noncomputable def CPow (i j : Int) : Prop := 0 <= j /\ j <= 1000000 /\ i.natAbs < 2 ^ 64
noncomputable def CMul (i j : Int) : Prop := (-(2 ^ 64) < i /\ i < 2 ^ 64) \/ (-(2 ^ 64) < j /\ j < 2 ^ 64)
theorem CMul.ok {i j : Int} (h : CMul i j) : IntMulOk i j := by
 rcases h with ⟨h1, h2⟩ | ⟨h1, h2⟩
 ·exact .of_left (intBits_le_64 h1 h2)
 ·exact .of_right (intBits_le_64 h1 h2)
theorem rg : OpR X (binaryOp .Add) (rI0 fun i j => .int (i + j)) := opI0 fun _ _ _ _ _ _ _ q => add_int q
theorem rh : OpR X (binaryOp .Sub) (rI0 fun i j => .int (i - j)) := opI0 fun _ _ _ _ _ _ _ q => sub_int q
theorem rj : OpR X (binaryOp .Mult) (rI CMul fun i j => .int (i * j)) := opI fun _ _ _ _ _ _ _ hc q => mul_int q hc.ok
theorem om : OpR X (binaryOp .FloorDiv) (rI CDiv fun i j => .int (i / j)) := opI fun i j _ _ _ _ _ hc q => by
 have h1 : (0 : Int) < j := hc.1
 have h2 : j < 1073741824 := hc.2
 exact floordiv_int (by lia) (by rw [Int.fdiv_eq_ediv_of_nonneg i (by lia)]; exact q) (.inl (PyProof.noPylong_small (by lia)))
theorem rk : OpR X (binaryOp .Mod) (rI (fun _ j => 0 < j) fun i j => .int (i % j)) := opI fun i j _ _ _ _ _ hc q => by
 have h1 : (0 : Int) < j := hc
 exact mod_int' (by lia) (by rw [Int.fmod_eq_emod_of_nonneg i (by lia)]; exact q)
theorem rl : OpR X (binaryOp .Pow) (rI CPow fun i j => .int (i ^ j.toNat)) := opI fun _ _ _ _ _ _ _ hc q => pow_int_small hc.1 hc.2.1 hc.2.2 q
theorem unI {f : Value -> Sem Value} {g : Int -> Int}
  (rule : ∀ (i : Int) (t : Tok) (s : Shared) (Q : ye) (E : ye), Q (.int (g i) s.toks) { s with toks := s.toks + 1 } -> wpAny (model X.prog X.w) X.A (f (.int i t)) Q E s) :
  UnR X f (rU fun i => .int (g i)) := by
 intro pins s σ H x v Q I rx h
 obtain ⟨i, rfl, q⟩ := h
 obtain ⟨t, rfl⟩ := rx
 exact rule i t s _ _ ⟨.int (g i), H, I.tok _, ⟨_, rfl⟩, q⟩
theorem rm : UnR X (unaryOp .USub) (rU fun i => .int (-i)) := unI fun _ _ _ _ _ q => neg_int q
end
noncomputable def scal : V -> V -> Bool
 | .non, .non => true | .non, .int _ => true | .int _, .non => true | .non, .bl _ => true | .bl _, .non => true | .non, .str _ => true | .str _, .non => true
 | .int _, .int _ => true | .bl _, .bl _ => true | .str _, .str _ => true | .byt _, .byt _ => true
 | .int _, .str _ => true | .str _, .int _ => true | .bl _, .str _ => true | .str _, .bl _ => true
 | _, _ => false
noncomputable def rEq : R2 := fun x y H Q => scal x y = true /\ Q (.bl (decide (x = y))) H
noncomputable def rNe : R2 := fun x y H Q => scal x y = true /\ Q (.bl (!decide (x = y))) H
theorem kA {i j : Int} : decide (V.int i = V.int j) = (i == j) := by
 rw [Bool.eq_iff_iff]
 simp
theorem mM {i j : Bool} : decide (V.bl i = V.bl j) = (i == j) := by
 rw [Bool.eq_iff_iff]
 simp
theorem kC {i j : Str} : decide (V.str i = V.str j) = (i == j) := by
 rw [Bool.eq_iff_iff]
 simp
theorem kD {i j : Array UInt8} : decide (V.byt i = V.byt j) = (i.toList == j.toList) := by
 rw [Bool.eq_iff_iff]
 cases i
 cases j
 simp
section
variable {X : Cx} {a b c : Expr} {ta tb tc : TE} {pos : Pos}
theorem aA {pins : yd} {σ : St} {H : Hp} {s : Shared} {Q : VK} {k k' : Bool} (I : Inv X pins σ H s) (q : Q (.bl k) H) (e : k = k') : EP X pins σ Q (.bool k') s := by
 subst e
 exact ⟨.bl k, H, I, rfl, q⟩
theorem mO : OpR X (compareOp .Eq) rEq := by
 intro pins s σ H x y v u Q I rx ry h
 obtain ⟨hs, q⟩ := h
 cases x with
 | non =>
  cases rx
  cases y with
  | non => cases ry; exact PySem.EqNone.eq_none_none (aA I q (by simp))
  | bl j => cases ry; exact PySem.EqNone.eq_none_bool (aA I q (by simp))
  | int j => obtain ⟨t', rfl⟩ := ry; exact PySem.EqNone.eq_none_int (aA I q (by simp))
  | str j => obtain ⟨t', rfl⟩ := ry; exact PySem.EqNone.eq_none_str (aA I q (by simp))
  | _ => exact absurd (show false = true from hs) Bool.false_ne_true
 | bl i =>
  cases rx
  cases y with
  | non => cases ry; exact PySem.EqNone.eq_bool_none (aA I q (by simp))
  | bl j => cases ry; exact eq_bool (aA I q mM)
  | str j => obtain ⟨t', rfl⟩ := ry; exact PySem.EqMixed.eq_bool_str (aA I q (by simp))
  | _ => exact absurd (show false = true from hs) Bool.false_ne_true
 | int i =>
  obtain ⟨t, rfl⟩ := rx
  cases y with
  | non => cases ry; exact PySem.EqNone.eq_int_none (aA I q (by simp))
  | int j => obtain ⟨t', rfl⟩ := ry; exact eq_int (aA I q kA)
  | str j => obtain ⟨t', rfl⟩ := ry; exact PySem.EqMixed.eq_int_str (aA I q (by simp))
  | _ => exact absurd (show false = true from hs) Bool.false_ne_true
 | str i =>
  obtain ⟨t, rfl⟩ := rx
  cases y with
  | non => cases ry; exact PySem.EqNone.eq_str_none (aA I q (by simp))
  | bl j => cases ry; exact PySem.EqMixed.eq_str_bool (aA I q (by simp))
  | int j => obtain ⟨t', rfl⟩ := ry; exact PySem.EqMixed.eq_str_int (aA I q (by simp))
  | str j => obtain ⟨t', rfl⟩ := ry; exact eq_str (aA I q kC)
  | _ => exact absurd (show false = true from hs) Bool.false_ne_true
 | byt i =>
  obtain ⟨t, rfl⟩ := rx
  cases y with
  | byt j => obtain ⟨t', rfl⟩ := ry; exact W.eq_bytes (aA I q kD)
  | _ => exact absurd (show false = true from hs) Bool.false_ne_true
 | _ => cases y <;> exact absurd (show false = true from hs) Bool.false_ne_true
theorem mP : OpR X (compareOp .NotEq) rNe := by
 intro pins s σ H x y v u Q I rx ry h
 obtain ⟨hs, q⟩ := h
 cases x with
 | non =>
  cases rx
  cases y with
  | non => cases ry; exact PySem.EqNone.ne_none_none (aA I q (by simp))
  | bl j => cases ry; exact PySem.EqNone.ne_none_bool (aA I q (by simp))
  | int j => obtain ⟨t', rfl⟩ := ry; exact PySem.EqNone.ne_none_int (aA I q (by simp))
  | str j => obtain ⟨t', rfl⟩ := ry; exact PySem.EqNone.ne_none_str (aA I q (by simp))
  | _ => exact absurd (show false = true from hs) Bool.false_ne_true
 | bl i =>
  cases rx
  cases y with
  | non => cases ry; exact PySem.EqNone.ne_bool_none (aA I q (by simp))
  | bl j => cases ry; exact ne_bool (aA I q (congrArg not mM))
  | str j => obtain ⟨t', rfl⟩ := ry; exact PySem.EqMixed.ne_bool_str (aA I q (by simp))
  | _ => exact absurd (show false = true from hs) Bool.false_ne_true
 | int i =>
  obtain ⟨t, rfl⟩ := rx
  cases y with
  | non => cases ry; exact PySem.EqNone.ne_int_none (aA I q (by simp))
  | int j => obtain ⟨t', rfl⟩ := ry; exact ne_int (aA I q (congrArg not kA))
  | str j => obtain ⟨t', rfl⟩ := ry; exact PySem.EqMixed.ne_int_str (aA I q (by simp))
  | _ => exact absurd (show false = true from hs) Bool.false_ne_true
 | str i =>
  obtain ⟨t, rfl⟩ := rx
  cases y with
  | non => cases ry; exact PySem.EqNone.ne_str_none (aA I q (by simp))
  | bl j => cases ry; exact PySem.EqMixed.ne_str_bool (aA I q (by simp))
  | int j => obtain ⟨t', rfl⟩ := ry; exact PySem.EqMixed.ne_str_int (aA I q (by simp))
  | str j => obtain ⟨t', rfl⟩ := ry; exact ne_str (aA I q (congrArg not kC))
  | _ => exact absurd (show false = true from hs) Bool.false_ne_true
 | byt i =>
  obtain ⟨t, rfl⟩ := rx
  cases y with
  | byt j => obtain ⟨t', rfl⟩ := ry; exact W.ne_bytes (aA I q (congrArg not kD))
  | _ => exact absurd (show false = true from hs) Bool.false_ne_true
 | _ => cases y <;> exact absurd (show false = true from hs) Bool.false_ne_true
theorem uR : OpR X (compareOp .Lt) (rI0 fun i j => .bl (decide (i < j))) := opB0 fun _ _ _ _ _ _ _ q => lt_int q
theorem qo : OpR X (compareOp .LtE) (rI0 fun i j => .bl (decide (i <= j))) := opB0 fun _ _ _ _ _ _ _ q => le_int q
theorem uS : OpR X (compareOp .Gt) (rI0 fun i j => .bl (decide (j < i))) := opB0 fun _ _ _ _ _ _ _ q => gt_int q
theorem uT : OpR X (compareOp .GtE) (rI0 fun i j => .bl (decide (j <= i))) := opB0 fun _ _ _ _ _ _ _ q => ge_int q
theorem nomark (b : Expr) {op : CmpOp} (h : op ≠ .In := by decide) (h2 : op ≠ .NotIn := by decide) : behindInMarks op b = false := by
 have e1 : (op == CmpOp.In) = false := by cases op <;> first | rfl | exact absurd rfl h
 have e2 : (op == CmpOp.NotIn) = false := by cases op <;> first | rfl | exact absurd rfl h2
 cases b <;> simp [behindInMarks, e1, e2]
theorem oo {op : CmpOp} {r : R2} (ho : OpR X (compareOp op) r) (ha : PE X a ta) (hb : PE X b tb) (hm : behindInMarks op b = false) : PE X (.Compare a [op] [b] pos) (tOp r ta tb) := by
 intro pins s σ H Q I h
 exact wpAny_Compare1 (binT ha hb I h fun v u s2 x y H2 I2 rx ry q => ho pins s2 σ H2 x y v u Q I2 rx ry q) hm
noncomputable def AI (t : TE) : TT := fun σ H Q => t σ H fun x H' => ∃ k, x = .bl k /\ Q k H'
theorem oq {op : CmpOp} {r : R2} (ho : OpR X (compareOp op) r) (ha : PE X a ta) (hb : PE X b tb) (hm : behindInMarks op b = false) : PT X (.Compare a [op] [b] pos) (AI (tOp r ta tb)) := by
 intro pins s σ H Q I h
 refine wpAny_isTrue_Compare1 (thn (ha pins s σ H _ I h) fun v s1 ⟨x, H1, I1, r1, q1⟩ => thn (hb pins s1 σ H1 _ I1 q1) fun u s2 ⟨y, H2, I2, r2, q2⟩ =>
  thn (ho pins s2 σ H2 x y v u _ I2 r1 r2 q2) fun c s3 ⟨z, H3, I3, r3, k, e, q3⟩ => ?_) hm
 subst e
 cases r3
 exact wpAny_truthy_bool ⟨H3, I3, q3⟩
noncomputable def TruV (K : W.Frag) (x : V) (H : Hp) (k : Bool) : Prop :=
 match x with
 | .non => k = false
 | .bl b => k = b
 | .int i => k = (i != 0)
 | .str y => y.length <= sizeLine /\ k = ((y.length : Int) != 0)
 | .byt y => y.size <= sizeLine /\ k = ((y.size : Int) != 0)
 | .ref p => (∃ xs, SqL K H p xs /\ k = !xs.isEmpty) \/ (∃ xs, SqT K H p xs /\ k = !xs.isEmpty) \/ ∃ kvs, H p = some (.dK kvs) /\ k = !kvs.isEmpty
 | _ => False
theorem jN {κ : Type} {kvs : List (κ × V)} {vs : List (κ × Value)} (r : KV kvs vs) : (!vs.isEmpty) = !kvs.isEmpty := by
 cases r <;> rfl
theorem gi {xs : List V} {its : List Value} (r : Vals xs its) : (!its.toArray.isEmpty) = !xs.isEmpty := by
 cases r <;> simp
theorem line63 : (sizeLine : Nat) < 2 ^ 63 := by rw [sizeLine_eq]; decide
theorem rn : TruR X (fun x H Q => ∃ k, TruV X.K x H k /\ Q k H) := by
 intro pins s σ H x v Q I rx h
 obtain ⟨k, e, q⟩ := h
 have hl := line63
 have hs : sizeLine = 16777216 := sizeLine_eq
 cases x with
 | non =>
  cases rx
  have e' : k = false := e
  subst e'
  exact truthy_none ⟨H, I, q⟩
 | bl b =>
  cases rx
  have e' : k = b := e
  subst e'
  exact wpAny_truthy_bool ⟨H, I, q⟩
 | int i =>
  obtain ⟨t, rfl⟩ := rx
  have e' : k = (i != 0) := e
  subst e'
  exact PySem.P.truthy_int ⟨H, I, q⟩
 | str y =>
  obtain ⟨t, rfl⟩ := rx
  obtain ⟨hy, e'⟩ : y.length <= sizeLine /\ k = ((y.length : Int) != 0) := e
  subst e'
  exact PySem.P.truthy_str (by lia) ⟨H, I.tok _, q⟩
 | byt y =>
  obtain ⟨t, rfl⟩ := rx
  obtain ⟨hy, e'⟩ : y.size <= sizeLine /\ k = ((y.size : Int) != 0) := e
  subst e'
  exact W.truthy_bytes (by lia) ⟨H, I.tok _, q⟩
 | ref p =>
  cases rx
  have e' : (∃ xs, SqL X.K H p xs /\ k = !xs.isEmpty) \/ (∃ xs, SqT X.K H p xs /\ k = !xs.isEmpty) \/ ∃ kvs, H p = some (.dK kvs) /\ k = !kvs.isEmpty := e
  rcases e' with ⟨xs, hx, e'⟩ | ⟨xs, hx, e'⟩ | ⟨kvs, hx, e'⟩
  ·subst e'
   obtain ⟨its, r, pl, hz⟩ := I.list hx
   have hlen := r.length
   exact wpAny_truthy_list pl.isList (by simp only [List.size_toArray]; lia) ⟨H, I.tok _, by rw [gi r]; exact q⟩
  ·subst e'
   obtain ⟨its, r, pl, hz⟩ := I.tuple hx
   have hlen := r.length
   exact truthy_tuple pl (by simp only [List.size_toArray]; lia) ⟨H, I.tok _, by rw [gi r]; exact q⟩
  ·subst e'
   obtain ⟨hz, hS, vs, r, m⟩ : kvs.length <= sizeLine /\ (p == sysModules) = false /\ ∃ vs, KV kvs vs /\ s.heap.DictOf (yA X.prog X.w) p vs := I.hok p _ hx
   have hlen : kvs.length = vs.length := Paired.length r
   exact wpAny_truthy_dict hS m (by lia) ⟨H, I.tok _, by rw [jN r]; exact q⟩
 | _ => exact (show False from e).elim
theorem mQ (ha : PE X a ta) (he : ∀ whole, isTrue a X.env whole = (do let v <- whole; standAt a.pos; holding [v] (truthy v))) :
  PT X a (fun σ H Q => ta σ H fun x H' => ∃ k, TruV X.K x H' k /\ Q k H') := by
 intro pins s σ H Q I h
 exact isTrue_plain (thn (ha pins s σ H _ I h) fun v s1 ⟨x, H1, I1, r1, q1⟩ => rn pins s1 σ H1 x v Q I1 r1 q1) (he _)
theorem jO : OpR X (binaryOp .Add) (fun x y H Q => ∃ i j, x = .str i /\ y = .str j /\ i.length + j.length <= sizeLine /\ Q (.str (i ++ j)) H) := by
 intro pins s σ H x y v u Q I rx ry h
 obtain ⟨i, j, rfl, rfl, hz, q⟩ := h
 obtain ⟨t, rfl⟩ := rx
 obtain ⟨t', rfl⟩ := ry
 exact add_str (fun t' tk => ⟨.str (i ++ j), H, I.tok _, ⟨_, rfl⟩, q⟩) hz
theorem vals1 {x : V} {us : List Value} (r : Vals [x] us) : ∃ u, us = [u] /\ RelV x u := by
 cases r with
 | cons r1 r2 => cases r2; exact ⟨_, rfl, r1⟩
theorem vals2 {x y : V} {us : List Value} (r : Vals [x, y] us) : ∃ u w', us = [u, w'] /\ RelV x u /\ RelV y w' := by
 cases r with
 | cons r1 r2 =>
  cases r2 with
  | cons r3 r4 => cases r4; exact ⟨_, _, rfl, r1, r3⟩
theorem mR : yG X (.builtin "abs") (fun xs H Q => ∃ i, xs = [.int i] /\ Q (.int (if i < 0 then -i else i)) H) := by
 intro pins s σ H xs us Q I r h
 obtain ⟨i, rfl, q⟩ := h
 obtain ⟨u, rfl, t, rfl⟩ := vals1 r
 exact call_abs_int fun u tk => ⟨.int (if i < 0 then -i else i), H, I.tok _, ⟨_, rfl⟩, q⟩
theorem lL : yG X (.type "int") (fun xs H Q => (∃ i, xs = [.int i] /\ Q (.int i) H) \/ ∃ k, xs = [.bl k] /\ Q (.int (if k then 1 else 0)) H) := by
 intro pins s σ H xs us Q I r h
 rcases h with ⟨i, rfl, q⟩ | ⟨k, rfl, q⟩
 ·obtain ⟨u, rfl, t, rfl⟩ := vals1 r
  exact call_int_int ⟨.int i, H, I, ⟨_, rfl⟩, q⟩
 ·obtain ⟨u, rfl, r1⟩ := vals1 r
  cases r1
  exact call_int_bool ⟨.int (if k then 1 else 0), H, I.tok _, ⟨_, rfl⟩, q⟩
end
structure ObjM (h : Heap) (x dx C : Addr) (mA : yc) : Prop where
 obj : h.get? x = some (W.instObj C dx)
 ns : h.Ns1 dx mA
 ne : dx ≠ x
section
variable {prog : Program} {w : World} {A : Around} {E : ye} {s : Shared} {K : W.Frag} {x dx C f : Addr} {mA : yc} {name : Str} {v : Value}
end
theorem RelO.some_of {v : V} {o : Option Value} (r : RelO (some v) o) : ∃ u, o = some u /\ RelV v u := by
 cases o with
 | none => exact (show False from r).elim
 | some u => exact ⟨u, rfl, r⟩
section
variable {P : Program} {w : World} {H H' : Hp} {h h' : Heap} {a C dx : Addr} {fs fs' : List (Str × V)}
end
structure Cls (K : W.Frag) (C : Addr) : Prop where
 pg : W.plainGet K C Str.empty = true
 hd : W.hasDictIn K C = true
 po : W.plainOver K C = true
 sa : W.findIn K (.ref C) "__setattr__" = some (some (.builtin "object.__setattr__"))
structure Con (K : W.Frag) (C : Addr) (f : Str) (v : V) (u : Value) : Prop where
 at_ : W.findIn K (.ref C) f = some (some u)
 rel : RelV v u
 get : W.specialIn K u "__get__" = some none
 cp : W.copiedNames.contains f = false
structure Meth (K : W.Frag) (C : Addr) (m : Str) (f : Addr) : Prop where
 at_ : W.findIn K (.ref C) m = some (some (.ref f))
 fn : W.isFn K (.ref f) = true
 kp : W.keepIn K (.ref f) = true
section
variable {X : Cx} {pins : yd} {σ : St} {H : Hp} {s : Shared} {a C dx : Addr} {fs : List (Str × V)} {f : Str} {v : V} {A : Around} {E : ye}
end
section
variable {X : Cx} {o e value : Expr} {f : Str} {pos pos' tpos : Pos} {ta tv : TE}
end
section
variable {X : Cx} {pins : yd} {σ : St} {H : Hp} {s : Shared} {A : Around} {E : ye} {Q : ye} {c : Value} {b : Bool}
inductive TyOf (K : W.Frag) (H : Hp) : V -> Value -> Prop where
 | non : TyOf K H .non (.type "NoneType")
 | bl (x : Bool) : TyOf K H (.bl x) (.type "bool")
 | int (i : Int) : TyOf K H (.int i) (.type "int")
 | str (x : Str) : TyOf K H (.str x) (.type "str")
 | flt (x : UInt64) : TyOf K H (.flt x) (.type "float")
 | lst {a : Addr} {xs : List V} (e : H a = some (.lst xs)) : TyOf K H (.ref a) (.type "list")
 | frz {a : Addr} {o : Obj} {xs : List V} (e : H a = some (.frz o (.lst xs))) : TyOf K H (.ref a) (.type "list")
 | tup {a : Addr} {xs : List V} (e : H a = some (.tup xs)) : TyOf K H (.ref a) (.type "tuple")
 | dK {a : Addr} {kvs : List (Key × V)} (e : H a = some (.dK kvs)) : TyOf K H (.ref a) (.type "dict")
 | dT {a : Addr} {kvs : List (List Key × V)} (e : H a = some (.dT kvs)) : TyOf K H (.ref a) (.type "dict")
 | ins {a C dx : Addr} {fs : List (Str × V)} (e : H a = some (.ins C dx fs)) (cl : Cls K C) (ha : W.findIn K (.ref C) "__class__" = some (some (.builtin "object.__class__")))
   (hn : W.specialIn K (.builtin "object.__class__") "__get__" = some (some (.builtin "getset_descriptor.__get__"))) (htk : W.takesIn K (.builtin "object.__class__") = some true)
   (hm : W.mroIn K C (.type "object") = some true) : TyOf K H (.ref a) (.ref C)
end
structure Room (k : Nat) (A : Around) : Prop where
 hd : A.handled = none
 dp : A.depth + 3 * k + 5 < recursionLimit
 un : A.units + 16 * k + 200 < cLine
theorem Room.mono {j k : Nat} {A : Around} (r : Room k A) (h : j <= k) : Room j A := ⟨r.hd, by have := r.dp; lia, by have := r.un; lia⟩
theorem Room.deeper {k : Nat} {A : Around} (r : Room (k + 1) A) (env : Env) : Room k (A.deeper env) :=
 ⟨r.hd, by have := r.dp; show A.depth + 1 + 3 * k + 5 < _; lia, by have := r.un; show A.units + 3 + 16 * k + 200 < _; lia⟩
theorem Room.depth {k : Nat} {A : Around} (r : Room k A) : A.depth < recursionLimit := by have := r.dp; lia
theorem Room.units {k : Nat} {A : Around} (r : Room k A) : A.units + 64 < cLine := by have := r.un; lia
def tNil : TA := fun _ H Q => Q [] H
noncomputable def zJ (ta : TE) (tr : TA) : TA := fun σ H Q => ta σ H fun x H1 => tr σ H1 fun xs H2 => Q (x :: xs) H2
section
variable {X : Cx} {e : Expr} {es : List Expr} {te : TE} {t : TA} {pos : Pos}
theorem cO : PA X [] tNil := fun _ _ _ _ H Q I h => Calls.spliced_nil ⟨[], H, I, .nil, h⟩
theorem bJ (ha : PE X e te) (hr : PA X es t) (hs : starEach (e :: es) X.env = (false, eval e X.env) :: starEach es X.env := by rfl) : PA X (e :: es) (zJ te t) := by
 intro pos pins s σ H Q I h
 rw [hs]
 show wpAny _ _ (spliced ((false, eval e X.env) :: backTo pos (starEach es X.env))) _ _ s
 refine Calls.spliced_cons (thn (ha pins s σ H _ I h) fun u s1 ⟨x, H1, I1, r1, q1⟩ => ?_)
 exact thn (hr pos pins s1 σ H1 _ I1 q1) fun us s2 ⟨xs, H2, I2, r2, q2⟩ => ⟨x :: xs, H2, I2, .cons r1 r2, q2⟩
noncomputable def tTup (t : TA) : TE := fun σ H Q => t σ H fun xs H1 => xs.length <= sizeLine /\ ∀ p, H1 p = none -> Q (.ref p) (upd H1 p (.tup xs))
noncomputable def tLst (t : TA) : TE := fun σ H Q => t σ H fun xs H1 => xs.length <= sizeLine /\ ∀ p, H1 p = none -> Q (.ref p) (upd H1 p (.lst xs))
theorem rp {x1} (h : PA X es t) : PE X (.Tuple es x1 pos) (tTup t) := by
 intro pins s σ H Q I hq
 refine wpAny_Tuple_spliced (thn (h pos pins s σ H _ I hq) fun us s1 ⟨xs, H1, I1, r, z, q⟩ => ⟨by rw [<- r.length]; exact z, ?_⟩)
 have hf : H1 s1.heap.objs.size = none := I1.hok.fresh (Nat.le_refl _)
 refine ⟨.ref s1.heap.objs.size, upd H1 s1.heap.objs.size (.tup xs), I1.laid (t' := s1.toks) (fun b u e => Heap.get?_push_of_some _ e) (Nat.le_refl _) ?_, rfl, q _ hf⟩
 exact ⟨z, us, r, ⟨_, Heap.get?_push_size _ rfl, rfl, _, rfl⟩⟩
theorem rq (h : PA X es t) : PE X (.List es pos) (tLst t) := by
 intro pins s σ H Q I hq
 refine wpAny_List_spliced (thn (h pos pins s σ H _ I hq) fun us s1 ⟨xs, H1, I1, r, z, q⟩ => ⟨by rw [<- r.length]; exact z, ?_⟩)
 have hf : H1 s1.heap.objs.size = none := I1.hok.fresh (Nat.le_refl _)
 refine ⟨.ref s1.heap.objs.size, upd H1 s1.heap.objs.size (.lst xs), I1.laid (t' := s1.toks) (fun b u e => Heap.get?_push_of_some _ e) (Nat.le_refl _) ?_, rfl, q _ hf⟩
 exact ⟨z, us, 0, r, Heap.get?_push_size _ rfl⟩
end
abbrev Sp := List V -> Hp -> VK -> XK -> Prop
abbrev CXT := List Env -> Hp -> Shared -> XK -> Value -> Shared -> Prop
structure Env0 (P : Program) (w : World) (K : W.Frag) (mg : yc) (base : Heap) (A : Around) (outer : List Env) (s : Shared) (H : Hp) : Prop where
 frames : A.frames = some outer
 mod : Mod K mg base
 bs : ∀ b o, base.get? b = some o -> s.heap.get? b = some o /\ H b = none
 bsz : base.objs.size <= s.heap.objs.size
 funs : s.heap.FunFrames base outer
 frf : ∀ b ∈ frs outer, H b = none
 hok : HOk P w H s.heap
 bare : AllBare s.gens
noncomputable def CE (outer : List Env) (P : Program) (w : World) (H : Hp) (s : Shared) (Q : VK) (u : Value) (s' : Shared) : Prop :=
 ∃ v H', s'.os = s.os /\ AllBare s'.gens /\ Un (frs outer) [] H H' s.heap s'.heap /\ HOk P w H' s'.heap /\ RelV v u /\ Q v H'
noncomputable def CR (CX : CXT) (outer : List Env) (P : Program) (w : World) (H : Hp) (s : Shared) (Q : VK) (E : XK) (r : Result) (s' : Shared) : Prop :=
 match r with
 | .ok (.ret u) => CE outer P w H s Q u s'
 | .ok _ => False
 | .error e => CX outer H s E e s'
structure FnOk (P : Program) (w : World) (K : W.Frag) (mg : yc) (base : Heap) (CX : CXT) (k : Nat) (f : Addr) (fd : FuncData) (ps : List Str) (sp : Sp) : Prop where
 len : ∀ vs H Q E, sp vs H Q E -> vs.length = ps.length
 run : ∀ (A : Around) (outer : List Env) (s : Shared) (H : Hp) (args : Args) (us : List Value) (vs : List V) (Q : VK) (E : XK), Room k A -> Env0 P w K mg base A outer s H -> BindsTo s fd args (ps.zip us) -> Vals vs us -> sp vs H Q E ->
  codeAny (model P w) A (.call (.ref f) args) (CR CX outer P w H s Q E) s
theorem FnOk.imp {P : Program} {w : World} {K : W.Frag} {mg : yc} {base : Heap} {CX : CXT} {k : Nat} {f : Addr} {fd : FuncData} {ps : List Str} {sp sp' : Sp} (F : FnOk P w K mg base CX k f fd ps sp)
  (h : ∀ vs H Q E, sp' vs H Q E -> sp vs H Q E) : FnOk P w K mg base CX k f fd ps sp' :=
 ⟨fun vs H Q E q => F.len vs H Q E (h _ _ _ _ q), fun A outer s H args us vs Q E hr he hb hv hs => F.run A outer s H args us vs Q E hr he hb hv (h _ _ _ _ hs)⟩
section
variable {X : Cx} {pins : yd} {σ : St} {H : Hp} {s s' : Shared}
theorem Inv.env0 (I : Inv X pins σ H s) : Env0 X.prog X.w X.K X.mg X.base X.A X.stack s H :=
 ⟨I.ok.frames, I.ok.mod, I.bs, Nat.le_trans I.ok.bsz I.sz, I.stack, I.stkFree, I.hok, I.bare⟩
theorem Inv.after {Q : VK} {u : Value} (I : Inv X pins σ H s) (h : CE X.stack X.prog X.w H s Q u s') : EP X pins σ Q u s' := by
 obtain ⟨v, H', os, bare, un, hok, r, q⟩ := h
 obtain ⟨hh, g, d, t, os'⟩ := s'
 obtain rfl : os' = s.os := os
 exact ⟨v, H', I.call (h' := hh) (g' := g) (d' := d) (t' := t) (ch := []) un hok bare (fun b z => absurd z (by simp)), r, q⟩
end
noncomputable def Ab (sp : Sp) (dvs : List V) (E : XK) (t : TA) : TE := fun σ H Q => t σ H fun vs H1 => sp (vs ++ dvs) H1 Q E
noncomputable def Binds (K : W.Frag) (fd : FuncData) (ps : List Str) (ds : List Value) : Prop :=
 ∀ (s : Shared) (us : List Value), K.In s.heap -> (us ++ ds).length = ps.length -> BindsTo s fd ⟨us, []⟩ (ps.zip (us ++ ds))
theorem Binds.all {K : W.Frag} {fd : FuncData} {ps : List Str} (h : ∀ us : List Value, us.length = ps.length -> bindArgs fd ⟨us, []⟩ = pure (ps.zip us)) : Binds K fd ps [] := fun s us _ hl => by
 rw [List.append_nil] at hl ⊢
 exact .of_eq (h us hl)
noncomputable def Passes (CX : CXT) (X : Cx) (E : XK) : Prop := ∀ (pins : yd) (σ : St) (H : Hp) (s : Shared) (e : Value) (s' : Shared), Inv X pins σ H s -> CX X.stack H s E e s' -> X.xe e s'
section
variable {X : Cx} {CX : CXT} {k : Nat} {f C : Addr} {fd : FuncData} {ps : List Str} {sp : Sp} {dvs : List V} {ds : List Value} {E : XK} {x m : Str} {p pos apos : Pos} {e o : Expr} {es : List Expr} {ta : TE} {t : TA}
theorem rz {pins : yd} {σ : St} {H : Hp} {s : Shared} {Q : VK} {us : List Value} {vs : List V} (F : FnOk X.prog X.w X.K X.mg X.base CX k f fd ps sp) (hr : Room k X.A) (hb : Binds X.K fd ps ds) (hd : Vals dvs ds) (hx : Passes CX X E)
  (I : Inv X pins σ H s) (r : Vals vs us) (h : sp (vs ++ dvs) H Q E) : wpAny (model X.prog X.w) X.A (call (.ref f) us) (EP X pins σ Q) X.xe s := by
 have r2 : Vals (vs ++ dvs) (us ++ ds) := r.append hd
 have hl : (us ++ ds).length = ps.length := by rw [<- r2.length]; exact F.len _ _ _ _ h
 refine wpAny_call (codeAny_mono (F.run X.A X.stack s H ⟨us, []⟩ (us ++ ds) (vs ++ dvs) Q E hr I.env0 (hb s us I.kIn hl) r2 h) fun r s' hq => ?_)
 cases r with
 | error e => exact hx pins σ H s e s' I hq
 | ok fl =>
  cases fl with
  | ret u => exact I.after hq
  | next => exact False.elim hq
  | brk => exact False.elim hq
  | cont => exact False.elim hq
theorem ot (F : FnOk X.prog X.w X.K X.mg X.base CX k f fd ps sp) (hr : Room k X.A) (hg : Gl X x) (hm : X.mg x = some (.ref f)) (hk : W.keepIn X.K (.ref f) = true) (hb : Binds X.K fd ps ds) (hd : Vals dvs ds) (hx : Passes CX X E)
  (ha : PA X (e :: es) t) (hdb : (x == ("__debug__" : Str)) = false := by decide) (he : starEach (e :: es) X.env = (false, eval e X.env) :: starEach es X.env := by rfl) (hpl : (backTo pos (starEach es X.env)).any (·.1) = false := by rfl) :
  PE X (.Call (.Name x p) (e :: es) [] pos) (Ab sp dvs E t) := by
 intro pins s σ H Q I h
 refine wpAny_Call_Name_kw (eG I hg hm ?_ hdb)
 refine W.callWith_K (h₀ := X.base) I.ok.mod.kin hk (thn (ha pos pins s σ H _ I h) fun us s1 ⟨vs, H1, I1, r, q⟩ => ⟨I1.kIn, ?_⟩) he hpl
 exact rz F hr hb hd hx I1 r q
structure Mk (K : W.Frag) (C f : Addr) : Prop where
 makes : W.makesIn K C = true
 init : W.findIn K (.ref C) "__init__" = some (some (.ref f))
 fn : W.isFn K (.ref f) = true
 kp : W.keepIn K (.ref C) = true
end
section
variable {X : Cx} {CX : CXT} {k : Nat} {f C : Addr} {fd : FuncData} {ps ks : List Str} {sp : Sp} {E : XK} {x m : Str} {p pos apos kpos : Pos} {e o : Expr} {es : List Expr} {kws : List Keyword} {te ta : TE} {t tk : TA} {nm : Option Str}
structure AS (K : W.Frag) (fd : FuncData) (ps ks : List Str) (g : List Value -> List Value -> List Value) (gV : List V -> List V -> List V) : Prop where
 to : ∀ (s : Shared) (us ws : List Value), K.In s.heap -> (g us ws).length = ps.length -> BindsTo s fd ⟨us, ks.zip ws⟩ (ps.zip (g us ws))
 rel : ∀ {vs : List V} {us : List Value} {zs : List V} {ws : List Value}, Vals vs us -> Vals zs ws -> Vals (gV vs zs) (g us ws)
variable {g : List Value -> List Value -> List Value} {gV : List V -> List V -> List V}
end
structure yn (N P : List Str) (sc : Scope) : Prop where
 kind : sc.kind = .function
 co : sc.isCoroutine = false
 gen : sc.isGenerator = false
 nd : N.Nodup
 pre : N.take P.length = P
 par : ∀ x ∈ P, sc.names.lookup x = some .local \/ sc.names.lookup x = some .cell
 nofree : ∀ y ∈ sc.names, y.2 ≠ .free
theorem i6 {kindOf : Str -> Option NameKind} {x : Str} : ∀ {binds : List (Str × Value)} {m : yc}, (∀ v, (x, v) ∉ binds) -> bindL kindOf binds m x = m x
 | [], _, _ => rfl
 | (n, v) :: r, m, h => by
  unfold bindL
  rw [i6 fun w hw => h w (List.mem_cons_of_mem _ hw)]
  split
  ·have : x ≠ n := by rintro rfl; exact h v List.mem_cons_self
   simp [this]
  ·rfl
theorem i7 {kindOf : Str -> Option NameKind} {x : Str} : ∀ {binds : List (Str × Value)} {m : yc}, (∀ v, (x, v) ∉ binds) -> bindC kindOf binds m x = m x
 | [], _, _ => rfl
 | (n, v) :: r, m, h => by
  unfold bindC
  rw [i7 fun w hw => h w (List.mem_cons_of_mem _ hw)]
  split
  ·rfl
  ·have : x ≠ n := by rintro rfl; exact h v List.mem_cons_self
   simp [this]
theorem i8 {kindOf : Str -> Option NameKind} {x : Str} {v : Value} : ∀ {P : List Str} {vs : List Value} {i : Nat} {m : yc}, P.Nodup -> P[i]? = some x -> vs[i]? = some v -> kindOf x = some .local ->
  bindL kindOf (P.zip vs) m x = some v
 | [], _, _, _, _, h, _, _ => by simp at h
 | _ :: _, [], _, _, _, _, h, _ => by simp at h
 | p :: P, w :: vs, 0, m, nd, h1, h2, hk => by
  simp at h1 h2; subst h1; subst h2
  show bindL kindOf ((p, w) :: P.zip vs) m p = _
  unfold bindL
  rw [i6 fun v hv => (List.nodup_cons.mp nd).1 (List.of_mem_zip hv).1, if_pos hk]
  simp
 | p :: P, w :: vs, i + 1, m, nd, h1, h2, hk => by
  show bindL kindOf ((p, w) :: P.zip vs) m x = _
  unfold bindL
  exact i8 (i := i) (List.nodup_cons.mp nd).2 (by simpa using h1) (by simpa using h2) hk
theorem i9 {kindOf : Str -> Option NameKind} {x : Str} {v : Value} : ∀ {P : List Str} {vs : List Value} {i : Nat} {m : yc}, P.Nodup -> P[i]? = some x -> vs[i]? = some v -> kindOf x ≠ some .local ->
  bindC kindOf (P.zip vs) m x = some v
 | [], _, _, _, _, h, _, _ => by simp at h
 | _ :: _, [], _, _, _, _, h, _ => by simp at h
 | p :: P, w :: vs, 0, m, nd, h1, h2, hk => by
  simp at h1 h2; subst h1; subst h2
  show bindC kindOf ((p, w) :: P.zip vs) m p = _
  unfold bindC
  rw [i7 fun v hv => (List.nodup_cons.mp nd).1 (List.of_mem_zip hv).1, if_neg hk]
  simp
 | p :: P, w :: vs, i + 1, m, nd, h1, h2, hk => by
  show bindC kindOf ((p, w) :: P.zip vs) m x = _
  unfold bindC
  exact i9 (i := i) (List.nodup_cons.mp nd).2 (by simpa using h1) (by simpa using h2) hk
noncomputable def start (N : List Str) (vs : List V) : St := vs.map some ++ List.replicate (N.length - vs.length) none
noncomputable def cxOf (CX : CXT) (P : Program) (w : World) (K : W.Frag) (mg : yc) (base : Heap) (N : List Str) (qual : Str) (scope : Scope) (f : Addr) (cd : Value) (A : Around) (outer : List Env) (s : Shared) (H : Hp) (E : XK) : Cx where
 prog := P
 w := w
 K := K
 mg := mg
 base := base
 A := A.deeper (envOfC qual scope s.heap.objs.size f cd)
 N := N
 s₀ := s
 H₀ := H
 env := envOfC qual scope s.heap.objs.size f cd
 outer := outer
 stack := envOfC qual scope s.heap.objs.size f cd :: outer
 ex := []
 calm := true
 fn := fun _ => true
 pn := []
 xe := fun e s' => wpAny (model P w) (A.deeper (envOfC qual scope s.heap.objs.size f cd)) (leaving (envOfC qual scope s.heap.objs.size f cd) e) (fun _ s'' => CX outer H s E e s'') (fun e' s'' => CX outer H s E e' s'') s'
theorem j5 {sc : Scope} {n : Nat} {x : Str} (h : sc.names.lookup x = some .cell) : ∃ c, (cellsFrom n sc.names []).lookup x = some c := by
 have q := W.cellsFrom_some sc.names n [] (.inl h)
 exact Option.isSome_iff_exists.mp q
theorem lM {CX : CXT} {P : Program} {w : World} {K : W.Frag} {mg : yc} {base : Heap} {N ps : List Str} {qual : Str} {scope : Scope} {f : Addr} {cd : Value} {A : Around} {outer : List Env} {s s1 : Shared} {H : Hp} {E : XK} {us : List Value} {vs : List V}
  (S : yn N ps scope) (hd : A.handled = none) (e0 : Env0 P w K mg base A outer s H) (hl : vs.length = ps.length) (r : Vals vs us)
  (x : InCallC s s.heap.objs.size (bindL (envOfC qual scope s.heap.objs.size f cd).kindOf (ps.zip us) fun _ => none) (cellsFrom (s.heap.objs.size + 1) scope.names []) (bindC (envOfC qual scope s.heap.objs.size f cd).kindOf (ps.zip us) fun _ => none) s1) :
  Inv (cxOf CX P w K mg base N qual scope f cd A outer s H E) [] (start N vs) H s1 := by
 have hpl : ps.length <= N.length := by have := congrArg List.length S.pre; rw [List.length_take] at this; lia
 obtain ⟨h1, tk, rfl, hk⟩ := x.done
 have noA : ∀ b : Addr, b ∉ (cxOf CX P w K mg base N qual scope f cd A outer s H E).ex := fun b z => absurd (show b ∈ ([] : List Addr) from z) (by simp)
 refine ⟨⟨e0.mod, S.kind, rfl, rfl, Nat.le_refl _, fun y z c h1 h2 => ?_, fun y hy => ?_, fun y c _ h => ?_, fun _ => hd, Around.frames_deeper e0.frames, .inr ⟨rfl, rfl⟩, fun b z => absurd z (noA b), e0.bs, e0.bsz, fun b _ _ => noA b, fun b z => absurd z (noA b), e0.funs, e0.frf⟩,
  rfl, e0.bare, Un.kept hk, ⟨_, x.toInCall.ns, fun i y v h1 h2 h3 => ?_⟩, fun y c h => ⟨_, x.cell y c h⟩, e0.hok.fresh (Nat.le_refl _), fun y c h => ?_, fun p hp => absurd (show p ∈ ([] : yd) from hp) (by simp), e0.hok.kept hk, ?_⟩
 ·exact name_of_addr x.apart (PySem.mem_of_lookup h1) (PySem.mem_of_lookup h2)
 ·have hy : scope.names.lookup y = some .cell \/ scope.names.lookup y = some .free := hy
  rcases hy with hy | hy
  ·exact j5 hy
  ·exact absurd rfl (S.nofree _ (PySem.mem_of_lookup hy))
 ·exact Nat.le_of_lt (x.above y c (PySem.mem_of_lookup h))
 ·have hi : i < vs.length := by
   unfold start at h2
   by_cases hi : i < vs.length
   ·exact hi
   ·rw [List.getElem?_append_right (by simpa using hi)] at h2
    rw [List.getElem?_replicate] at h2
    split at h2 <;> cases h2
  have ha : vs[i]? = some v := by
   unfold start at h2
   rw [List.getElem?_append_left (by simpa using hi), List.getElem?_map] at h2
   cases e : vs[i]? with
   | none => rw [e] at h2; cases h2
   | some a => rw [e] at h2; cases h2; rfl
  obtain ⟨u, hu, rv⟩ := r.get ha
  have hp : ps[i]? = some y := by
   rw [<- S.pre, List.getElem?_take_of_lt (by lia)]; exact h1
  have ndP : ps.Nodup := by rw [<- S.pre]; exact S.nd.sublist (List.take_sublist _ _)
  refine ⟨u, rv, ?_⟩
  rcases S.par y (List.mem_of_getElem? hp) with k | k
  ·exact .inl ⟨k, i8 ndP hp hu k⟩
  ·obtain ⟨c, e⟩ := j5 (n := s.heap.objs.size + 1) k
   refine .inr ⟨.inl k, c, e, ?_⟩
   have q := x.cell y c e
   rw [i9 ndP hp hu (by show scope.names.lookup y ≠ _; rw [k]; decide)] at q
   exact q
 ·exact e0.hok.fresh (Nat.le_of_lt (x.above y c (PySem.mem_of_lookup h)))
 ·unfold start
  show _ = N.length
  rw [List.length_append, List.length_map, List.length_replicate]
  lia
theorem uU {CX : CXT} {P : Program} {w : World} {K : W.Frag} {mg : yc} {base : Heap} {k : Nat} {f : Addr} {name qual : Str} {params : Arguments} {body : List Stmt} {scope : Scope} {dV kV doc pm cdv ct oc : Value} {an od : Option Addr}
  {osl : Array (Option Value)} {N ps : List Str} {sp : Sp} (lk : K.lookup f = some ⟨oc, od, .func (W.fnOf name qual params body scope dV kV doc pm an cdv ct), osl⟩) (hcd : W.codeIn K cdv qual = true) (S : yn N ps scope)
  (len : ∀ vs H Q E, sp vs H Q E -> vs.length = ps.length)
  (hbody : ∀ (A : Around) (outer : List Env) (s : Shared) (H : Hp) (vs : List V) (Q : VK) (E : XK), Room k (A.deeper (envOfC qual scope s.heap.objs.size f cdv)) -> sp vs H Q E ->
   ∃ t, PSs (cxOf CX P w K mg base N qual scope f cdv A outer s H E) body t /\ t { nx := fun _ H' => Q .non H', rt := Q } (start N vs) H) :
  FnOk P w K mg base CX (k + 1) f (W.fnOf name qual params body scope dV kV doc pm an cdv ct) ps sp := by
 refine ⟨len, fun A outer s H args us vs Q E hr e0 hb r hsp => ?_⟩
 have hl := len _ _ _ _ hsp
 have KX : K.In s.heap := e0.mod.kin.keeps fun b o e => (e0.bs b o e).1
 have lim : s.heap.NoLimit := e0.mod.nolimit.keeps fun b o e => (e0.bs b o e).1
 have hkind : ∀ y ∈ ps.zip us, scope.names.lookup y.1 = some .local \/ (scope.names.lookup y.1 = some .cell /\ ((cellsFrom (s.heap.objs.size + 1) scope.names []).lookup y.1).isSome = true) := fun ⟨n, v⟩ hy => by
  rcases S.par n (List.of_mem_zip hy).1 with q | q
  ·exact .inl q
  ·exact .inr ⟨q, W.cellsFrom_some _ _ _ (.inl q)⟩
 refine codeAny_call_function hr.depth (KX _ _ lk) rfl S.co S.gen rfl (W.codeRec_of KX hcd) (hb _ _ _ _ ?_)
 refine wpAny_newFunctionEnv_cells S.kind hkind fun env he s1 x => ?_
 subst he
 refine ⟨lim.keeps x.toInCall.keep, codeAny_func ?_⟩
 obtain ⟨t, ht, hq⟩ := hbody A outer s H vs Q E (hr.deeper _) hsp
 have I : Inv (cxOf CX P w K mg base N qual scope f cdv A outer s H E) [] (start N vs) H s1 := lM S hr.hd e0 hl r x
 refine wpAny_mono (ht [] s1 (start N vs) H _ I hq) (fun fl s' hs => ?_) fun e s' hs => hs
 have fin : ∀ {σ' : St} {H' : Hp} {v : V} {u : Value}, Inv (cxOf CX P w K mg base N qual scope f cdv A outer s H E) [] σ' H' s' -> RelV v u -> Q v H' -> CE outer P w H s Q u s' :=
  fun {σ' H' v u} J rv q => ⟨v, H', J.os, J.bare, J.base, J.hok, rv, q⟩
 cases fl with
 | ret u =>
  obtain ⟨v, σ', H', J, rv, q⟩ := hs
  exact fin J rv q
 | next =>
  obtain ⟨σ', H', J, q⟩ := hs
  exact fin (v := V.non) (u := Value.none) J rfl q
 | brk =>
  obtain ⟨_, _, _, q⟩ := hs
  exact False.elim q
 | cont =>
  obtain ⟨_, _, _, q⟩ := hs
  exact False.elim q
section
variable {X : Cx} {x : Str} {p pos : Pos} {e : Expr} {es : List Expr} {t : TA} {id T : String} {r : List V -> Hp -> VK -> Prop}
noncomputable def tCB (r : List V -> Hp -> VK -> Prop) (t : TA) : TE := fun σ H Q => t σ H fun vs H1 => r vs H1 Q
theorem gj (hc : yG X (.builtin id) r) (hg : Gl X x) (hm : X.mg x = none) (hv : bootBuiltins x = some (.builtin id)) (ha : PA X (e :: es) t) (hn : x ≠ "__name__" := by decide) (hdb : (x == ("__debug__" : Str)) = false := by decide)
  (he : starEach (e :: es) X.env = (false, eval e X.env) :: starEach es X.env := by rfl) (hpl : (backTo pos (starEach es X.env)).any (·.1) = false := by rfl) : PE X (.Call (.Name x p) (e :: es) [] pos) (tCB r t) := by
 intro pins s σ H Q I h
 refine wpAny_Call_Name_kw (gf I hg hm hv ?_ hn hdb)
 exact callWith_builtin1 (thn (ha pos pins s σ H _ I h) fun us s1 ⟨vs, H1, I1, r1, q1⟩ => hc pins s1 σ H1 vs us Q I1 r1 q1) he hpl
theorem lN (hc : yG X (.type T) r) (hg : Gl X x) (hm : X.mg x = none) (hv : bootBuiltins x = some (.type T)) (ha : PA X (e :: es) t) (hn : x ≠ "__name__" := by decide) (hdb : (x == ("__debug__" : Str)) = false := by decide)
  (he : starEach (e :: es) X.env = (false, eval e X.env) :: starEach es X.env := by rfl) (hpl : (backTo pos (starEach es X.env)).any (·.1) = false := by rfl) : PE X (.Call (.Name x p) (e :: es) [] pos) (tCB r t) := by
 intro pins s σ H Q I h
 refine wpAny_Call_Name_kw (gf I hg hm hv ?_ hn hdb)
 exact callWith_type1 (thn (ha pos pins s σ H _ I h) fun us s1 ⟨vs, H1, I1, r1, q1⟩ => hc pins s1 σ H1 vs us Q I1 r1 q1) he hpl
end
end L2
namespace HT
open PySem PyProof.Rows
noncomputable def Ac : List Int -> List Int -> Bool
 | [], [] => false
 | [], _ :: _ => true
 | _ :: _, [] => false
 | x :: xs, y :: ys => if x = y then Ac xs ys else decide (x < y)
section
open PySem.SeqAt
open PySem.AutoSeq1 (wpAny_loadPart')
open PySem.MeetsSeq PySem.MeetsSeq2 PySem.MeetsSeq3
end
section
variable {prog : Program} {w : World} {A : Around} {E : ye} {s : Shared}
theorem ou {t b : Addr} {vs ws : List Value} {Q : ye} (ht : IsTup s.heap t vs.toArray) (hb : IsTup s.heap b ws.toArray) (hv : vs ≠ [])
  (h1 : ws = [] -> Q (.ref t) s) (h2 : ws ≠ [] -> Q (.ref s.heap.objs.size) { s with heap := s.heap.push { cls := .type "tuple", data := .seq (vs ++ ws).toArray } })
  (hsz : vs.length + ws.length <= sizeLine) : wpAny (model prog w) A (binaryOp .Add (.ref t) (.ref b)) Q E s := by
 obtain ⟨⟨cls, dd, data, sl⟩, ho, hc, n, hd⟩ := id ht
 obtain ⟨⟨cls2, dd2, data2, sl2⟩, ho2, hc2, n2, hd2⟩ := id hb
 simp only at hc hd hc2 hd2
 subst hc hd hc2 hd2
 have e : vs.toArray ++ ws.toArray = (vs ++ ws).toArray := by simp
 by_cases hw : ws = []
 ·exact concat_meets ⟨_, ho, rfl⟩ ⟨_, ho2, rfl⟩ noFill_tuple_add seq_tuple_add PySem.F.slot_tuple_add PySem.F.entry_tuple_add (PySem.F.args_tuple_add_2 _ _)
   (tuple_addW1 t b vs.toArray ws.toArray n n2 dd dd2 sl sl2 (by simpa using hv) (by simp [hw])) ⟨ho, ho2, h1 hw⟩
 ·refine concat_meets ⟨_, ho, rfl⟩ ⟨_, ho2, rfl⟩ noFill_tuple_add seq_tuple_add PySem.F.slot_tuple_add PySem.F.entry_tuple_add (PySem.F.args_tuple_add_2 _ _)
   (tuple_addW2 t b vs.toArray ws.toArray n n2 dd dd2 sl sl2 (by simpa using hv) (by simpa using hw) (by rw [List.size_toArray, List.size_toArray]; exact hsz)) ⟨ho, ho2, ?_⟩
  rw [e]
  exact h2 hw
noncomputable def sIx (n d : Nat) : Option Int -> Nat
 | none => d
 | some v => if v < 0 then (v + (n : Int)).toNat else min v.toNat n
theorem mS (n d : Nat) : sIx n d none = d := rfl
theorem rA (n d : Nat) (hd : d <= n) (o : Option Int) : sIx n d o <= n := by
 cases o with
 | none => exact hd
 | some v =>
  show (if v < 0 then (v + (n : Int)).toNat else min v.toNat n) <= n
  by_cases hv : v < 0
  ·rw [if_pos hv]; lia
  ·rw [if_neg hv]; exact Nat.min_le_right _ _
theorem kE (v : Int) (n d : Nat) : (if v < 0 then max (v + (n : Int)) 0 else min v (n : Int)) = ((sIx n d (some v) : Nat) : Int) := by
 show (if v < 0 then max (v + (n : Int)) 0 else min v (n : Int)) = (((if v < 0 then (v + (n : Int)).toNat else min v.toNat n) : Nat) : Int)
 by_cases hv : v < 0
 ·simp only [if_pos hv]; lia
 ·simp only [if_neg hv]; lia
theorem jP (lo hi : Option Int) (n : Nat) : Builtin.Slice.sliceAdjust lo hi 1 (n : Int) = (((sIx n 0 lo : Nat) : Int), ((sIx n n hi : Nat) : Int)) := by
 have h1 : ¬ ((1 : Int) < 0) := by lia
 unfold Builtin.Slice.sliceAdjust
 simp only [h1, if_false]
 refine Prod.ext ?_ ?_
 ·cases lo with
  | none => rfl
  | some v => exact kE v n 0
 ·cases hi with
  | none => rfl
  | some v => exact kE v n n
theorem jQ (i j : Nat) : Builtin.Slice.slicePlaces (i : Int) (j : Int) 1 = j - i := by
 unfold Builtin.Slice.slicePlaces
 have h1 : (1 : Int) > 0 := by lia
 simp only [h1, if_true, Int.ediv_one]
 split <;> lia
theorem gk {v : Value} {o : Option Int} {Q : Option Int -> Shared -> Prop} (p : IsPart v o) (h : Q o s) : wpAny (model prog w) A (Builtin.Slice.slicePartIndex v) Q E s := by
 cases p with
 | none => exact slicePart_none h
 | int i t => exact slicePart_int h
theorem cU {sl : Addr} {vl vu : Value} {lo hi : Option Int} {n : Nat} {Q : Int × Int × Nat -> Shared -> Prop} (hs : s.heap.IsSliceOf sl vl vu .none) (pl : IsPart vl lo) (pu : IsPart vu hi)
  (h : Q (((sIx n 0 lo : Nat) : Int), 1, sIx n n hi - sIx n 0 lo) s) : wpAny (model prog w) A (Builtin.Slice.sliceApplied (.ref sl) (pure (n : Int))) Q E s := by
 obtain ⟨os, hos, hcs, hds⟩ := id hs
 unfold Builtin.Slice.sliceApplied Builtin.Slice.sliceFields
 refine wpAny_bind (wpAny_bind (wpAny_field hos hds (x := vl) rfl (wpAny_bind (wpAny_field hos hds (x := vu) rfl (wpAny_bind (wpAny_field hos hds (x := .none) rfl (wpAny_pure ?_)))))))
 refine wpAny_bind (slicePart_none ?_)
 show wpAny _ _ (if ((1 : Int) == 0) = true then _ else _) _ _ s
 rw [if_neg (by decide)]
 refine wpAny_bind (gk pl (wpAny_bind (gk pu (wpAny_bind (wpAny_pure ?_)))))
 show wpAny _ _ (match Builtin.Slice.sliceAdjust lo hi 1 (n : Int) with | (lo, hi) => pure (lo, (1 : Int), Builtin.Slice.slicePlaces lo hi 1)) _ _ s
 rw [jP lo hi n]
 show wpAny _ _ (pure (((sIx n 0 lo : Nat) : Int), (1 : Int), Builtin.Slice.slicePlaces ((sIx n 0 lo : Nat) : Int) ((sIx n n hi : Nat) : Int) 1)) _ _ s
 rw [jQ]
 exact wpAny_pure h
theorem mT (xs : Array Value) (i k : Nat) : ((List.range k).filterMap fun (m : Nat) => xs[((i : Int) + (m : Int) * 1).toNat]?).toArray = ((xs.toList.drop i).take k).toArray := by
 have e : (fun (m : Nat) => xs[((i : Int) + (m : Int) * 1).toNat]?) = fun m => xs[i + m]? := by
  funext m
  have : ((i : Int) + (m : Int) * 1).toNat = i + m := by lia
  rw [this]
 rw [e]
 have := pick_run xs i k
 rw [List.filterMap_map] at this
 have e2 : ((fun x => xs[x]?) ∘ fun x => i + x) = fun m => xs[i + m]? := rfl
 rw [e2] at this
 rw [this]
theorem eI {t sl : Addr} {items : Array Value} {vl vu : Value} {lo hi : Option Int} {Q : ye} (ht : IsTup s.heap t items) (hs : s.heap.IsSliceOf sl vl vu .none) (pl : IsPart vl lo) (pu : IsPart vu hi)
  (hw : ¬ (sIx items.size 0 lo = 0 /\ sIx items.size items.size hi = items.size))
  (h : Q (.ref s.heap.objs.size) { s with heap := s.heap.push { cls := .type "tuple", data := .seq ((items.toList.drop (sIx items.size 0 lo)).take (sIx items.size items.size hi - sIx items.size 0 lo)).toArray } })
  (hsz : items.size <= sizeLine) : wpAny (model prog w) A (getItem (.ref t) (.ref sl)) Q E s := by
 have htake : sizeOk (.seq ((items.toList.drop (sIx items.size 0 lo)).take (sIx items.size items.size hi - sIx items.size 0 lo)).toArray) := by
  show ((items.toList.drop (sIx items.size 0 lo)).take (sIx items.size items.size hi - sIx items.size 0 lo)).toArray.size <= sizeLine
  rw [List.size_toArray, List.length_take, List.length_drop, Array.length_toList]
  lia
 have hj : sIx items.size items.size hi <= items.size := rA _ _ (Nat.le_refl _) hi
 obtain ⟨os, hos, hcs, hds⟩ := id hs
 have hTs : s.TypeIs (.ref sl) "slice" := ⟨os, hos, hcs⟩
 unfold getItem
 try with_reducible refine wpAny_holding ?_
 first | refine wpAny_bind (wpAny_pure ?_) | skip
 refine wpAny_bind (wpAny_sequenceKey ht.typeIs (by decide) ?_)
 refine wpAny_bind (wpAny_callSpecial?_slot (name := Str.ofString "__getitem__") ht.typeIs slot_tuple_getitem
  (wpAny_call_entry slot_tuple_getitem ht.typeIs entry_tuple_getitem ?_ (args_tuple_getitem _ _)))
 show wpAny _ _ (Builtin.Tuple.tupleItemsOf (.ref t) >>= _) _ _ s
 refine wpAny_bind (tupleItemsOf_ ht ?_)
 refine wpAny_bind (wpAny_typeOf hTs ?_)
 rw [if_pos (by decide)]
 refine wpAny_bind (cU hs pl pu ?_)
 have hno : ¬ ((((sIx items.size 0 lo : Nat) : Int) == 0 && (1 : Int) == 1 && (sIx items.size items.size hi - sIx items.size 0 lo) == items.size) = true) := by
  intro q
  rw [Bool.and_eq_true, Bool.and_eq_true] at q
  have q1 : ((sIx items.size 0 lo : Nat) : Int) = 0 := eq_of_beq q.1.1
  have q2 : sIx items.size items.size hi - sIx items.size 0 lo = items.size := eq_of_beq q.2
  exact hw ⟨by lia, by lia⟩
 show wpAny _ _ (if (((sIx items.size 0 lo : Nat) : Int) == 0 && (1 : Int) == 1 && (sIx items.size items.size hi - sIx items.size 0 lo) == items.size) = true then _ else _) _ _ s
 rw [if_neg hno, mT]
 first
  | exact wpAny_bind (m := Builtin.Tuple.tupleExact _) (wpAny_newObj_type (wpAny_pure ⟨_, rfl, wpAny_pure h⟩) htake)
  | exact wpAny_bind (m := Builtin.Tuple.tupleExact _) (wpAny_newObj_type (wpAny_bind (wpAny_pure (wpAny_pure ⟨_, rfl, wpAny_pure h⟩))) htake)
  | exact wpAny_bind (wpAny_bind (m := Builtin.Tuple.tupleExact _) (wpAny_newObj_type (wpAny_pure (wpAny_pure ⟨_, rfl, wpAny_pure h⟩)) htake))
  | exact wpAny_bind (wpAny_bind (m := Builtin.Tuple.tupleExact _) (wpAny_newObj_type (wpAny_pure ⟨_, rfl, wpAny_pure h⟩) htake))
end
end HT
namespace L2
open PySem PySem.Spec PyProof.Rows
abbrev TO := St -> Hp -> (Option Int -> Hp -> Prop) -> Prop
noncomputable def PO (X : Cx) (e : Option Expr) (t : TO) : Prop :=
 ∀ (pins : yd) (s : Shared) (σ : St) (H : Hp) (Q : Option Int -> Hp -> Prop), Inv X pins σ H s -> t σ H Q ->
  wpAny (model X.prog X.w) X.A (evalPart e X.env) (fun u s' => ∃ o H', Inv X pins σ H' s' /\ IsPart u o /\ Q o H') X.xe s
def Al : TO := fun _ H Q => Q none H
noncomputable def AK (t : TE) : TO := fun σ H Q => t σ H fun x H1 => ∃ i, x = .int i /\ Q (some i) H1
theorem jR {ns : List Int} : ∀ {us : List Value}, Vals (ns.map V.int) us -> IntsAre us ns := by
 induction ns with
 | nil => intro us r; rw [List.map_nil] at r; cases r; exact .nil
 | cons n ns ih =>
  intro us r
  rw [List.map_cons] at r
  cases r with
  | cons r1 r2 =>
   obtain ⟨t, e⟩ := r1
   subst e
   exact .cons n t (ih r2)
section
variable {X : Cx} {e : Expr} {te : TE} {lo hi : Option Expr} {tl th : TO} {pos p2 : Pos}
theorem kF : PO X none Al := by
 intro pins s σ H Q I h
 rw [evalPart_none]
 exact wpAny_pure ⟨none, H, I, .none, h⟩
theorem kG (h : PE X e te) : PO X (some e) (AK te) := by
 intro pins s σ H Q I hw
 rw [evalPart_some]
 refine thn (h pins s σ H _ I hw) fun u s1 ⟨x, H1, I1, r1, q1⟩ => ?_
 obtain ⟨i, rfl, q⟩ := q1
 obtain ⟨t, rfl⟩ := r1
 exact ⟨some i, H1, I1, .int i t, q⟩
noncomputable def SlR (X : Cx) (r : V -> Option Int -> Option Int -> Hp -> VK -> Prop) : Prop :=
 ∀ (pins : yd) (s : Shared) (σ : St) (H : Hp) (x : V) (v vl vu : Value) (lo hi : Option Int) (sl : Addr) (Q : VK), Inv X pins σ H s -> RelV x v -> s.heap.IsSliceOf sl vl vu .none -> IsPart vl lo -> IsPart vu hi -> r x lo hi H Q ->
  ∃ T id, typeLookup (.type T) "__getitem__" = pure (some (.builtin id)) /\ s.TypeIs v T /\ wpAny (model X.prog X.w) X.A (getItem v (.ref sl)) (EP X pins σ Q) X.xe s
theorem SlR.or {r r' : V -> Option Int -> Option Int -> Hp -> VK -> Prop} (h : SlR X r) (h' : SlR X r') : SlR X (fun x lo hi H Q => r x lo hi H Q \/ r' x lo hi H Q) := by
 intro pins s σ H x v vl vu lo hi sl Q I rx hs pl pu q
 rcases q with q | q
 ·exact h pins s σ H x v vl vu lo hi sl Q I rx hs pl pu q
 ·exact h' pins s σ H x v vl vu lo hi sl Q I rx hs pl pu q
noncomputable def tSl (r : V -> Option Int -> Option Int -> Hp -> VK -> Prop) (te : TE) (tl th : TO) : TE := fun σ H Q => te σ H fun x H1 => tl σ H1 fun l H2 => th σ H2 fun u H3 => r x l u H3 Q
theorem j6 {r : V -> Option Int -> Option Int -> Hp -> VK -> Prop} (hr : SlR X r) (he : PE X e te) (hl : PO X lo tl) (hu : PO X hi th) : PE X (.Subscript e (.Slice lo hi none p2) pos) (tSl r te tl th) := by
 intro pins s σ H Q I h
 refine Subscript_ (thn (he pins s σ H _ I h) fun v s1 ⟨x, H1, I1, r1, q1⟩ => ?_)
 refine wpAny_Slice (thn (hl pins s1 σ H1 _ I1 q1) fun vl s2 ⟨l, H2, I2, pl, q2⟩ => thn (hu pins s2 σ H2 _ I2 q2) fun vu s3 ⟨u, H3, I3, pu, q3⟩ => ?_)
 rw [evalPart_none]
 refine wpAny_pure ?_
 have I4 : Inv X pins σ H3 { s3 with heap := s3.heap.push { cls := .type "slice", data := .fields #[vl, vu, .none] } } := I3.kept (t' := s3.toks) fun b ob q => Heap.get?_push_of_some _ q
 obtain ⟨T, id, hT, ht, hg⟩ := hr pins { s3 with heap := s3.heap.push { cls := .type "slice", data := .fields #[vl, vu, .none] } } σ H3 x v vl vu l u s3.heap.objs.size Q I4 r1 (Heap.IsSliceOf.new ..) pl pu q3
 show wpAny (model X.prog X.w) X.A (subscriptTail e (.Slice lo hi none p2) v (.ref s3.heap.objs.size)) (EP X pins σ Q) X.xe { s3 with heap := s3.heap.push { cls := .type "slice", data := .fields #[vl, vu, .none] } }
 exact tail_any (ops := [.ref s3.heap.objs.size, v]) ht hT hg (by with_unfolding_all rfl)
noncomputable def cutV (xs : List V) (lo hi : Option Int) : List V := (xs.drop (HT.sIx xs.length 0 lo)).take (HT.sIx xs.length xs.length hi - HT.sIx xs.length 0 lo)
theorem fN (xs : List V) (lo hi : Option Int) : (cutV xs lo hi).length <= xs.length := by
 unfold cutV
 rw [List.length_take, List.length_drop]
 lia
noncomputable def rSlT (K : W.Frag) : V -> Option Int -> Option Int -> Hp -> VK -> Prop := fun x lo hi H Q => ∃ a xs, x = .ref a /\ SqT K H a xs /\
 ¬ (HT.sIx xs.length 0 lo = 0 /\ HT.sIx xs.length xs.length hi = xs.length) /\ ∀ p, H p = none -> Q (.ref p) (upd H p (.tup (cutV xs lo hi)))
theorem rB : SlR X (rSlT X.K) := by
 intro pins s σ H x v vl vu lo hi sl Q I rx hs pl pu h
 obtain ⟨a, xs, rfl, hx, hw, q⟩ := h
 cases rx
 obtain ⟨its, r, ht, hz⟩ := I.tuple hx
 have hlen : its.toArray.size = xs.length := by rw [List.size_toArray]; exact r.length.symm
 refine ⟨"tuple", _, slot_tuple_getitem.lookup, ht.typeIs, ?_⟩
 refine HT.eI ht hs pl pu (by rw [hlen]; exact hw) ?_ (by rw [hlen]; exact hz)
 rw [hlen]
 refine ⟨.ref s.heap.objs.size, _, I.laid (t' := s.toks) (o := .tup (cutV xs lo hi)) (fun b ob q => Heap.get?_push_of_some _ q) (Nat.le_refl _) ?_, rfl, q _ (I.hok.fresh (Nat.le_refl _))⟩
 exact ⟨Nat.le_trans (fN xs lo hi) hz, _, (r.drop (HT.sIx xs.length 0 lo)).take (HT.sIx xs.length xs.length hi - HT.sIx xs.length 0 lo), IsTup.new _ _⟩
noncomputable def AL (K : W.Frag) : R2 := fun x y H Q => ∃ a b xs ys, x = .ref a /\ y = .ref b /\ SqT K H a xs /\ SqT K H b ys /\ xs ≠ [] /\ xs.length + ys.length <= sizeLine /\
 (ys = [] -> Q (.ref a) H) /\ (ys ≠ [] -> ∀ p, H p = none -> Q (.ref p) (upd H p (.tup (xs ++ ys))))
theorem Vals.nil_iff {xs : List V} {us : List Value} (r : Vals xs us) : us = [] ↔ xs = [] := by
 cases r with
 | nil => simp
 | cons _ _ => simp
theorem ow : OpR X (binaryOp .Add) (AL X.K) := by
 intro pins s σ H x y v u Q I rx ry h
 obtain ⟨a, b, xs, ys, rfl, rfl, ha, hb, hx, hz, q1, q2⟩ := h
 cases rx
 cases ry
 obtain ⟨its, r1, p1, _⟩ := I.tuple ha
 obtain ⟨its2, r2, p2, _⟩ := I.tuple hb
 refine HT.ou p1 p2 (fun z => hx (r1.nil_iff.mp z)) (fun z => ⟨.ref a, H, I, rfl, q1 (r2.nil_iff.mp z)⟩) (fun z => ?_) (by rw [<- r1.length, <- r2.length]; exact hz)
 refine ⟨.ref s.heap.objs.size, _, I.laid (t' := s.toks) (o := .tup (xs ++ ys)) (fun b ob q => Heap.get?_push_of_some _ q) (Nat.le_refl _) ?_, rfl, q2 (fun w => z (r2.nil_iff.mpr w)) _ (I.hok.fresh (Nat.le_refl _))⟩
 exact ⟨by rw [List.length_append]; exact hz, _, r1.append r2, IsTup.new _ _⟩
end
noncomputable def ixN (n : Nat) (i : Int) : Option Nat := if 0 <= i then (if i < n then some i.toNat else none) else if -(n : Int) <= i then some (i + n).toNat else none
noncomputable def atI {α : Type} (xs : List α) (i : Int) : Option α := (ixN xs.length i).bind fun j => xs[j]?
theorem kH {n : Nat} {i : Int} {j : Nat} (h : ixN n i = some j) : seqIndex? i n = some j /\ j < n /\ -(n : Int) <= i /\ i < n := by
 unfold ixN at h
 by_cases h0 : 0 <= i
 ·rw [if_pos h0] at h
  by_cases h1 : i < n
  ·rw [if_pos h1] at h
   have e : i.toNat = j := Option.some.inj h
   exact ⟨by rw [seqIndex_of h0 h1, e], by lia, by lia, h1⟩
  ·rw [if_neg h1] at h; cases h
 ·rw [if_neg h0] at h
  by_cases h1 : -(n : Int) <= i
  ·rw [if_pos h1] at h
   have e : (i + n).toNat = j := Option.some.inj h
   exact ⟨by rw [seqIndex_neg (by lia) h1, e], by lia, h1, by lia⟩
  ·rw [if_neg h1] at h; cases h
theorem iF {α : Type} {xs : List α} {i : Int} {v : α} (h : atI xs i = some v) : ∃ j, seqIndex? i xs.length = some j /\ xs[j]? = some v /\ j < xs.length /\ -(xs.length : Int) <= i /\ i < xs.length := by
 unfold atI at h
 cases e : ixN xs.length i with
 | none => rw [e] at h; cases h
 | some j =>
  rw [e] at h
  obtain ⟨h1, h2, h3, h4⟩ := kH e
  exact ⟨j, h1, h, h2, h3, h4⟩
noncomputable def zy (b : Expr) : Prop := ∀ o i, subscripted b false o i = operate [o, i] (getItem o i)
noncomputable def IxR (X : Cx) (r : R2) : Prop :=
 ∀ (value slice : Expr) (pins : yd) (s : Shared) (σ : St) (H : Hp) (x y : V) (v u : Value) (Q : VK), Inv X pins σ H s -> RelV x v -> RelV y u -> r x y H Q ->
  subscripted slice false v u = operate [v, u] (getItem v u) -> wpAny (model X.prog X.w) X.A (subscriptTail value slice v u) (EP X pins σ Q) X.xe s
noncomputable def MtR (X : Cx) (id : String) (r : V -> List V -> Hp -> VK -> Prop) : Prop :=
 ∀ (pins : yd) (s : Shared) (σ : St) (H : Hp) (x : V) (xs : List V) (v : Value) (us : List Value) (Q : VK), Inv X pins σ H s -> RelV x v -> Vals xs us -> r x xs H Q ->
  wpAny (model X.prog X.w) X.A (call (.builtin id) (v :: us)) (EP X pins σ Q) X.xe s
section
variable {X : Cx} {a b : Expr} {ta tb : TE} {pos : Pos}
theorem IxR.or {r r' : R2} (h : IxR X r) (h' : IxR X r') : IxR X (fun x y H Q => r x y H Q \/ r' x y H Q) := by
 intro value slice pins s σ H x y v u Q I rx ry q hs
 rcases q with q | q
 ·exact h value slice pins s σ H x y v u Q I rx ry q hs
 ·exact h' value slice pins s σ H x y v u Q I rx ry q hs
theorem uV {r : R2} (hr : IxR X r) (ha : PE X a ta) (hb : PE X b tb) (hs : zy b) : PE X (.Subscript a b pos) (tOp r ta tb) := by
 intro pins s σ H Q I h
 exact Subscript_ (binT ha hb I h fun v u s2 x y H2 I2 rx ry q => hr a b pins s2 σ H2 x y v u Q I2 rx ry q (hs _ _))
noncomputable def rIxL (K : W.Frag) : R2 := fun x y H Q => ∃ p xs i v, x = .ref p /\ y = .int i /\ SqL K H p xs /\ atI xs i = some v /\ Q v H
noncomputable def rIxT (K : W.Frag) : R2 := fun x y H Q => ∃ p xs i v, x = .ref p /\ y = .int i /\ SqT K H p xs /\ atI xs i = some v /\ Q v H
noncomputable def rIxS : R2 := fun x y H Q => ∃ z i c, x = .str z /\ y = .int i /\ z.length <= sizeLine /\ atI z.cps.toList i = some c /\ Q (.str ⟨#[c]⟩) H
theorem ox : IxR X (rIxL X.K) := by
 intro value slice pins s σ H x y v u Q I rx ry h hs
 obtain ⟨p, xs, i, z, rfl, rfl, hq, he, q⟩ := h
 cases rx
 obtain ⟨t, rfl⟩ := ry
 obtain ⟨its, r, pl, hz⟩ := I.list hq
 obtain ⟨j, h1, h2, h3, h4, h5⟩ := iF he
 obtain ⟨w, ew, rw'⟩ := r.get h2
 have hl := r.length
 have hn := line63
 have fin : EP X pins σ Q w s := ⟨z, H, I, rw', q⟩
 by_cases h0 : 0 <= i
 ·have hj : i.toNat = j := by
   rw [seqIndex_of h0 h5] at h1
   exact Option.some.inj h1
  exact item_listR pl.isList h0 (by lia) (by rw [hj]; simpa using ew) fin hs
 ·have hj : (i + (its.toArray.size : Int)).toNat = j := by
   rw [seqIndex_neg (by lia) h4] at h1
   rw [List.size_toArray, <- hl]
   exact Option.some.inj h1
  exact subscriptTail_builtinR (x := w) pl.isList.typeIs slot_list_getitem.lookup
   (wpAny_getItem_list_neg (Q := fun r s' => r = w /\ EP X pins σ Q r s') pl.isList (by lia) (by rw [List.size_toArray] <;> lia) (by lia) (by rw [hj]; simpa using ew) ⟨rfl, fin⟩) hs
theorem rD : IxR X (rIxT X.K) := by
 intro value slice pins s σ H x y v u Q I rx ry h hs
 obtain ⟨p, xs, i, z, rfl, rfl, hq, he, q⟩ := h
 cases rx
 obtain ⟨t, rfl⟩ := ry
 obtain ⟨its, r, pl, hz⟩ := I.tuple hq
 obtain ⟨j, h1, h2, h3, h4, h5⟩ := iF he
 obtain ⟨w, ew, rw'⟩ := r.get h2
 have hl := r.length
 have hn := line63
 have fin : EP X pins σ Q w s := ⟨z, H, I, rw', q⟩
 exact subscriptTail_builtinR (x := w) pl.typeIs slot_tuple_getitem.lookup
  (getItem_tuple (j := j) (Q := fun r s' => r = w /\ EP X pins σ Q r s') pl (by lia) (by lia) (by rw [List.size_toArray, <- hl]; exact h1) (by simpa using ew) ⟨rfl, fin⟩) hs
theorem rE : IxR X rIxS := by
 intro value slice pins s σ H x y v u Q I rx ry h hs
 obtain ⟨z, i, c, rfl, rfl, hz, he, q⟩ := h
 obtain ⟨t, rfl⟩ := rx
 obtain ⟨t', rfl⟩ := ry
 obtain ⟨j, h1, h2, h3, h4, h5⟩ := iF he
 have hl : z.cps.toList.length = z.length := by simp [Str.length]
 rw [hl] at h1 h4 h5
 have hn := line63
 exact tail_any (typeIs_str s z t) slot_str_getitem.lookup (getItem_str (c := c) (by
  have e1 : decide (i < -(2 ^ 63 : Int)) = false := decide_eq_false (by lia)
  have e2 : decide (i ≥ 2 ^ 63) = false := decide_eq_false (by lia)
  rw [e1, e2, Bool.or_false]) (by rw [h1]; simpa using h2) ⟨.str ⟨#[c]⟩, H, I.tok _, ⟨_, rfl⟩, q⟩) hs
theorem jS (its : List Value) (n j : Nat) (u : Value) : Obj.mapSeq (·.setIfInBounds j u) { cls := .type "list", data := .seq its.toArray n } = { cls := .type "list", data := .seq (its.set j u).toArray n } := by
 simp [Obj.mapSeq]
theorem Inv.lst {pins : yd} {σ : St} {H : Hp} {s : Shared} {p : Addr} {xs : List V} (I : Inv X pins σ H s) (h : H p = some (.lst xs)) :
  ∃ (its : List Value) (n : Nat), Vals xs its /\ s.heap.get? p = some { cls := .type "list", data := .seq its.toArray n } /\ xs.length <= sizeLine := by
 obtain ⟨z, its, n, r, e⟩ := I.hok p _ h
 exact ⟨its, n, r, e, z⟩
theorem Inv.lstUpd {pins : yd} {σ : St} {H : Hp} {s : Shared} {p : Addr} {xs ys : List V} {its its' : List Value} {n n' : Nat} {f : Obj -> Obj} (I : Inv X pins σ H s) (h : H p = some (.lst xs))
  (ho : s.heap.get? p = some { cls := .type "list", data := .seq its.toArray n }) (hf : f { cls := .type "list", data := .seq its.toArray n } = { cls := .type "list", data := .seq its'.toArray n' }) (r : Vals ys its') (hz : ys.length <= sizeLine) (t : Nat) :
  Inv X pins σ (upd H p (.lst ys)) { s with heap := s.heap.update p f, toks := t } := by
 have e : (s.heap.update p f).get? p = some { cls := .type "list", data := .seq its'.toArray n' } := by
  rw [Heap.get?_update_self f ho (by rw [hf] <;> rfl), hf]
 refine I.write (x := p) (e := p) (by rw [h]; trivial) (.inl rfl) (fun b u hb q => (Heap.get?_update_other _ _ (Ne.symm hb)).trans q) ⟨_, e⟩ ?_
 exact ⟨hz, its', n', r, e⟩
noncomputable def An : V -> V -> V -> Hp -> (Hp -> Prop) -> Prop := fun o i v H Q => ∃ p xs k j, o = .ref p /\ i = .int k /\ H p = some (.lst xs) /\ ixN xs.length k = some j /\ Q (upd H p (.lst (xs.set j v)))
theorem mU : PSet X An := by
 intro pins s σ H o i v ov iv u Q I ro ri rv h
 obtain ⟨p, xs, k, j, rfl, rfl, hp, hj, q⟩ := h
 cases ro
 obtain ⟨t, rfl⟩ := ri
 obtain ⟨its, n, r, ho, hz⟩ := I.lst hp
 obtain ⟨h1, h2, h3, h4⟩ := kH hj
 have hl := r.length
 have hn := line63
 have I' : Inv X pins σ (upd H p (.lst (xs.set j v))) { s with heap := s.heap.update p (Obj.mapSeq (·.setIfInBounds j u)) } :=
  I.lstUpd hp ho (jS its n j u) (r.set rv j) (by rw [List.length_set]; exact hz) s.toks
 by_cases h0 : 0 <= k
 ·have hk : k.toNat = j := by
   rw [seqIndex_of h0 h4] at h1
   exact Option.some.inj h1
  exact W.ki_setAt ho h0 (by lia) (by rw [List.size_toArray, <- hl]; exact h4) (by rw [hk]; exact ⟨_, I', q⟩)
 ·have hk : (k + (its.toArray.size : Int)).toNat = j := by
   rw [seqIndex_neg (by lia) h3] at h1
   rw [List.size_toArray, <- hl]
   exact Option.some.inj h1
  exact W.ki_setBack ho (by lia) (by rw [List.size_toArray, <- hl]; exact h3) (by lia) (by rw [hk]; exact ⟨_, I', q⟩)
theorem iG (lo hi : Option Int) (n : Nat) : (sliceBounds lo hi none n).1 = ((HT.sIx n 0 lo : Nat) : Int) /\ (sliceBounds lo hi none n).2.1 = ((HT.sIx n n hi : Nat) : Int) /\ (sliceBounds lo hi none n).2.2 = 1 := by
 refine ⟨?_, ?_, rfl⟩
 ·cases lo with
  | none => simp [sliceBounds, HT.sIx]
  | some i =>
   simp only [sliceBounds, HT.sIx, Option.getD_none, show (1 : Int) > 0 by decide, if_true]
   by_cases h : i < 0
   ·simp only [h, if_true] <;> lia
   ·simp only [h, if_false] <;> lia
 ·cases hi with
  | none => simp [sliceBounds, HT.sIx]
  | some i =>
   simp only [sliceBounds, HT.sIx, Option.getD_none, show (1 : Int) > 0 by decide, if_true]
   by_cases h : i < 0
   ·simp only [h, if_true] <;> lia
   ·simp only [h, if_false] <;> lia
theorem hX (its : List Value) (lo hi : Option Int) : slicePick its.toArray lo hi none = ((its.drop (HT.sIx its.length 0 lo)).take (HT.sIx its.length its.length hi - HT.sIx its.length 0 lo)).toArray := by
 obtain ⟨h1, h2, h3⟩ := iG lo hi its.toArray.size
 unfold slicePick
 rw [h1, h2, h3]
 simp only [sliceRange_one, pick_run, List.size_toArray] <;> rfl
noncomputable def rSlL (K : W.Frag) : V -> Option Int -> Option Int -> Hp -> VK -> Prop := fun x lo hi H Q => ∃ a xs, x = .ref a /\ SqL K H a xs /\ ∀ p, H p = none -> Q (.ref p) (upd H p (.lst (cutV xs lo hi)))
theorem oy : SlR X (rSlL X.K) := by
 intro pins s σ H x v vl vu lo hi sl Q I rx hs pl pu h
 obtain ⟨a, xs, rfl, hx, q⟩ := h
 cases rx
 obtain ⟨its, r, ht, hz⟩ := I.list hx
 have hlen := r.length
 refine ⟨"list", _, slot_list_getitem.lookup, ht.isList.typeIs, ?_⟩
 refine wpAny_getItem_list_slice ht.isList hs pl pu .none (by simp) ?_ (by rw [List.size_toArray] <;> lia)
 rw [hX, <- hlen]
 refine ⟨.ref s.heap.objs.size, _, I.laid (t' := s.toks) (o := .lst (cutV xs lo hi)) (fun b ob q => Heap.get?_push_of_some _ q) (Nat.le_refl _) ?_, rfl, q _ (I.hok.fresh (Nat.le_refl _))⟩
 exact ⟨Nat.le_trans (fN xs lo hi) hz, _, 0, (r.drop (HT.sIx xs.length 0 lo)).take (HT.sIx xs.length xs.length hi - HT.sIx xs.length 0 lo), Heap.get?_push_size _ rfl⟩
theorem eJ : yG X (.builtin "len") (fun xs H Q => ∃ p ys, xs = [.ref p] /\ (SqL X.K H p ys \/ SqT X.K H p ys) /\ Q (.int ys.length) H) := by
 intro pins s σ H xs us Q I r h
 obtain ⟨p, ys, rfl, hq, q⟩ := h
 obtain ⟨u, rfl, rx⟩ := vals1 r
 cases rx
 have hn := line63
 rcases hq with hq | hq
 ·obtain ⟨its, r', pl, hz⟩ := I.list hq
  have hlen := r'.length
  exact Calls.call_len_list pl.isList (by simp only [List.size_toArray] <;> lia) ⟨.int ys.length, H, I.tok _, ⟨s.toks + 1, by rw [List.size_toArray, hlen]⟩, q⟩
 ·obtain ⟨its, r', pl, hz⟩ := I.tuple hq
  have hlen := r'.length
  exact len_tuple pl (by simp only [List.size_toArray] <;> lia) ⟨.int ys.length, H, I.tok _, ⟨s.toks + 1, by rw [List.size_toArray, hlen]⟩, q⟩
theorem eM : yG X (.type "list") (fun xs H Q => ∃ p ys, xs = [.ref p] /\ (SqL X.K H p ys \/ SqT X.K H p ys) /\ ∀ l, H l = none -> Q (.ref l) (upd H l (.lst ys))) := by
 intro pins s σ H xs us Q I r h
 obtain ⟨p, ys, rfl, hq, q⟩ := h
 obtain ⟨u, rfl, rx⟩ := vals1 r
 cases rx
 have fin : ∀ (its : List Value), Vals ys its -> ys.length <= sizeLine -> ∀ (h' : Heap) (c' : Nat), (∀ b o', s.heap.get? b = some o' -> h'.get? b = some o') ->
   h'.get? s.heap.objs.size = some { cls := .type "list", dict := none, data := .seq its.toArray c', slots := #[] } -> EP X pins σ Q (.ref s.heap.objs.size) { s with heap := h' } := fun its r' hz h' c' kp e =>
  ⟨.ref s.heap.objs.size, _, I.laid (t' := s.toks) kp (Nat.le_refl _) (show yz X.prog X.w _ h' _ (.lst ys) from ⟨hz, its, c', r', e⟩), rfl, q _ (I.hok.fresh (Nat.le_refl _))⟩
 rcases hq with hq | hq
 ·obtain ⟨its, r', pl, hz⟩ := I.list hq
  have hlen := r'.length
  obtain ⟨o, ho, hc, n, hd⟩ := pl.isList
  exact call_list_seq p (.inl rfl) ho hc hd (fun h' c' kp e => fin its r' hz h' c' kp e) (by simp only [List.size_toArray] <;> lia)
 ·obtain ⟨its, r', pl, hz⟩ := I.tuple hq
  have hlen := r'.length
  obtain ⟨o, ho, hc, n, hd⟩ := pl
  exact call_list_seq p (.inr rfl) ho hc hd (fun h' c' kp e => fin its r' hz h' c' kp e) (by simp only [List.size_toArray] <;> lia)
theorem hZ : yG X (.type "tuple") (fun xs H Q => ∃ p ys, xs = [.ref p] /\ ((SqL X.K H p ys /\ ∀ l, H l = none -> Q (.ref l) (upd H l (.tup ys))) \/ (SqT X.K H p ys /\ Q (.ref p) H))) := by
 intro pins s σ H xs us Q I r h
 obtain ⟨p, ys, rfl, h⟩ := h
 obtain ⟨u, rfl, rx⟩ := vals1 r
 cases rx
 rcases h with ⟨hq, q⟩ | ⟨hq, q⟩
 ·obtain ⟨its, r', pl, hz⟩ := I.list hq
  have hlen := r'.length
  refine call_tuple_list pl.isList (fun h' kp => ?_) (by simp only [List.size_toArray] <;> lia)
  have I1 : Inv X pins σ H { s with heap := h' } := I.kept (t' := s.toks) kp
  have I2 : Inv X pins σ (upd H h'.objs.size (.tup ys)) { s with heap := h'.push { cls := .type "tuple", data := .seq its.toArray } } :=
   I1.laid (t' := s.toks) (fun b o e => Heap.get?_push_of_some _ e) (Nat.le_refl _) (show yz X.prog X.w _ _ _ (.tup ys) from ⟨hz, its, r', IsTup.new _ _⟩)
  exact ⟨.ref h'.objs.size, _, I2, rfl, q _ (I1.hok.fresh (Nat.le_refl _))⟩
 ·obtain ⟨its, r', pl, hz⟩ := I.tuple hq
  exact call_tuple_same pl ⟨.ref p, H, I, rfl, q⟩
noncomputable def tyV (K : W.Frag) (T : String) (x : V) (H : Hp) : Prop := match x with
 | .str _ => T = "str"
 | .int _ => T = "int"
 | .ref p => (T = "list" /\ ∃ xs, SqL K H p xs) \/ (T = "tuple" /\ ∃ o, K.lookup p = some o /\ o.cls = .type "tuple" /\ o.dict = none) \/
   (T = "dict" /\ ((∃ kvs, H p = some (.dK kvs)) \/ ∃ kvs, H p = some (.dT kvs))) \/ (T = "set" /\ ∃ S n, H p = some (.set S n))
 | _ => False
theorem mV {pins : yd} {σ : St} {H : Hp} {s : Shared} {T : String} {x : V} {v : Value} (I : Inv X pins σ H s) (r : RelV x v) (ty : tyV X.K T x H) :
  s.TypeIs v T /\ ∀ a, v = .ref a -> ∃ ob, s.heap.get? a = some ob /\ ob.dict = none := by
 cases x with
 | str z =>
  obtain ⟨t, rfl⟩ := r
  cases (show T = "str" from ty)
  exact ⟨typeIs_str s z t, fun _ e => nomatch e⟩
 | int i =>
  obtain ⟨t, rfl⟩ := r
  cases (show T = "int" from ty)
  exact ⟨typeIs_int s i t, fun _ e => nomatch e⟩
 | ref p =>
  cases r
  rcases ty with ⟨rfl, xs, hq⟩ | ⟨rfl, o, hk, hc, hd⟩ | ⟨rfl, hk⟩ | ⟨rfl, S, n, hk⟩
  ·obtain ⟨its, _, pl, _⟩ := I.list hq
   refine ⟨pl.isList.typeIs, fun a e => ?_⟩
   cases e
   obtain ⟨o, n, e, c, hd, _⟩ := pl
   exact ⟨o, e, hd⟩
  ·refine ⟨⟨o, I.kIn p o hk, hc⟩, fun a e => ?_⟩
   cases e
   exact ⟨o, I.kIn _ o hk, hd⟩
  ·have z : ∃ o, s.heap.get? p = some o /\ o.ExactDict := by
    rcases hk with ⟨kvs, hk⟩ | ⟨kvs, hk⟩
    ·obtain ⟨_, _, _, _, o, _, _, e, ex, _⟩ := I.hok p _ hk
     exact ⟨o, e, ex⟩
    ·obtain ⟨_, _, _, _, o, _, _, e, ex, _⟩ := I.hok p _ hk
     exact ⟨o, e, ex⟩
   obtain ⟨o, e, ex⟩ := z
   refine ⟨⟨o, e, ex.1⟩, fun a e2 => ?_⟩
   cases e2
   exact ⟨o, e, ex.2.1⟩
  ·obtain ⟨o, _, _, _, e, ex, _⟩ := I.hok p _ hk
   refine ⟨⟨o, e, ex.1⟩, fun a e2 => ?_⟩
   cases e2
   exact ⟨o, e, ex.2.1⟩
 | _ => exact False.elim ty
noncomputable def tBM0 (K : W.Frag) (T : String) (r : V -> List V -> Hp -> VK -> Prop) (to : TE) : TE := fun σ H Q => to σ H fun x H1 => tyV K T x H1 /\ r x [] H1 Q
noncomputable def tBM (K : W.Frag) (T : String) (r : V -> List V -> Hp -> VK -> Prop) (to : TE) (t : TA) : TE := fun σ H Q => to σ H fun x H1 => tyV K T x H1 /\ t σ H1 fun xs H2 => r x xs H2 Q
variable {o e : Expr} {es : List Expr} {to : TE} {t : TA} {name : Str} {apos cpos : Pos} {T id : String} {r : V -> List V -> Hp -> VK -> Prop}
theorem rF (pa : PlainAttrs T) (slot : Slot T name id) (hty : typeOf (.builtin id) = pure (.type "method_descriptor")) (hm : MtR X id r) (ho : PE X o to)
  (hbase : attributeBase o name X.env (eval o X.env) = eval o X.env := by rfl) (hline : (apos.endLine == cpos.line) = true := by rfl) : PE X (.Call (.Attribute o name apos) [] [] cpos) (tBM0 X.K T r to) := by
 intro pins s σ H Q I h
 refine wpAny_Call_method0_late hbase hline (thn (ho pins s σ H _ I h) fun v s1 ⟨x, H1, I1, r1, ty, q1⟩ => ?_)
 obtain ⟨h1, h2⟩ := mV I1 r1 ty
 exact ⟨T, id, pa, slot, hty, h1, h2, Calls.callWith_builtin rfl (PySem.evalArgs_none (hm pins s1 σ H1 x [] v [] Q I1 r1 .nil q1))⟩
theorem kI (pa : PlainAttrs T) (slot : Slot T name id) (hty : typeOf (.builtin id) = pure (.type "method_descriptor")) (hm : MtR X id r) (ho : PE X o to) (ha : PA X (e :: es) t)
  (hbase : attributeBase o name X.env (eval o X.env) = eval o X.env := by rfl)
  (hfew : ((backTo cpos (starEach (e :: es) X.env)).all (fun x => !x.1) && (backToKw cpos (keywordEach [] X.env)).all (fun x => x.1.isSome)
   && decide ((e :: es).length + ([] : List Keyword).length + (if ([] : List Keyword).isEmpty then 0 else 1) < 30)) = true := by rfl)
  (hline : (apos.endLine == cpos.line) = true := by rfl) (hs : starEach (e :: es) X.env = (false, eval e X.env) :: starEach es X.env := by rfl) (hplain : (backTo cpos (starEach es X.env)).any (·.1) = false := by rfl) :
  PE X (.Call (.Attribute o name apos) (e :: es) [] cpos) (tBM X.K T r to t) := by
 intro pins s σ H Q I h
 refine wpAny_Call_method_late hbase hfew hline rfl (thn (ho pins s σ H _ I h) fun v s1 ⟨x, H1, I1, r1, ty, q1⟩ => ?_)
 obtain ⟨h1, h2⟩ := mV I1 r1 ty
 refine ⟨T, id, pa, slot, hty, h1, h2, ?_⟩
 have hA := ha cpos pins s1 σ H1 _ I1 q1
 rw [hs] at hA ⊢
 refine Calls.callWith_builtin (by show (false || (backTo cpos (starEach es X.env)).any (·.1)) = false; rw [hplain] <;> rfl) (Calls.evalArgs_plain ?_)
 exact thn hA fun us s2 ⟨vs, H2, I2, r2, q2⟩ => hm pins s2 σ H2 x vs v us Q I2 r1 r2 q2
end
noncomputable def MtM (X : Cx) (id : String) (r : V -> List V -> Hp -> VK -> Prop) : Prop :=
 ∀ (pins : yd) (s : Shared) (σ : St) (H : Hp) (x : V) (xs : List V) (v : Value) (us : List Value) (Q : VK), Inv X pins σ H s -> RelV x v -> Vals xs us -> r x xs H Q ->
  wpAny (model X.prog X.w) X.A (call (.builtin id) (v :: us)) (EP X pins σ Q) X.xe s
theorem Vals.one : ∀ {x : V} {us : List Value}, Vals [x] us -> ∃ u, us = [u] /\ RelV x u
 | _, _, .cons r .nil => ⟨_, rfl, r⟩
theorem Vals.zero : ∀ {us : List Value}, Vals [] us -> us = []
 | _, .nil => rfl
theorem Vals.dropLast {xs : List V} {us : List Value} (h : Vals xs us) : Vals xs.dropLast us.dropLast := by
 induction h with
 | nil => exact .nil
 | cons r t ih =>
  cases t with
  | nil => exact .nil
  | cons q t' => exact .cons r ih
theorem Vals.rep {xs : List V} {us : List Value} (h : Vals xs us) : ∀ k : Nat, Vals (List.replicate k xs).flatten (List.replicate k us).flatten
 | 0 => .nil
 | k + 1 => by
  rw [List.replicate_succ, List.replicate_succ, List.flatten_cons, List.flatten_cons]
  exact Vals.append h (Vals.rep h k)
theorem jT {α : Type} (l : List α) : l.eraseIdx (l.length - 1) = l.dropLast := by
 induction l with
 | nil => rfl
 | cons a r ih =>
  cases r with
  | nil => rfl
  | cons b r =>
   have e : (a :: b :: r).length - 1 = ((b :: r).length - 1) + 1 := by
    have h1 : (a :: b :: r).length = r.length + 2 := rfl
    have h2 : (b :: r).length = r.length + 1 := rfl
    lia
   rw [e, List.eraseIdx_cons_succ, ih]
   all_goals rfl
theorem ia (its : List Value) : ∀ (k : Nat) (acc : List Value),
  List.foldl (fun x1 x2 => x1 ++ x2) acc.toArray (List.replicate k its.toArray) = (acc ++ (List.replicate k its).flatten).toArray
 | 0, acc => by simp
 | k + 1, acc => by
  have e : acc.toArray ++ its.toArray = (acc ++ its).toArray := by simp
  have e2 : (acc ++ its) ++ (List.replicate k its).flatten = acc ++ (List.replicate (k + 1) its).flatten := by
   rw [List.replicate_succ, List.flatten_cons, List.append_assoc]
  rw [<- e2, <- ia its k (acc ++ its), <- e, List.replicate_succ, List.foldl_cons]
section
variable {X : Cx} {pins : yd} {σ : St} {H : Hp} {s : Shared} {l b : Addr} {xs ys zs : List V}
theorem Inv.lset {its its' : List Value} {n : Nat} {f : Array Value -> Array Value} {t' : Nat} (I : Inv X pins σ H s) (hH : H l = some (.lst xs))
  (e : s.heap.get? l = some { cls := .type "list", data := .seq its.toArray n }) (hf : f its.toArray = its'.toArray) (hv : Vals ys its') (hz : ys.length <= sizeLine) :
  Inv X pins σ (upd H l (.lst ys)) { s with heap := s.heap.update l (Obj.mapSeq f), toks := t' } := by
 have q := PySem.IsL.update e f
 rw [hf] at q
 refine I.write (x := l) (e := l) (by rw [hH]; exact trivial) (.inl rfl) (fun b' u hb hu => (Heap.get?_update_other s.heap (Obj.mapSeq f) (Ne.symm hb)).trans hu) ⟨_, q⟩ ?_
 exact ⟨hz, its', _, hv, q⟩
theorem Inv.lnew {its : List Value} {t' : Nat} (I : Inv X pins σ H s) (hv : Vals ys its) (hz : ys.length <= sizeLine) :
  Inv X pins σ (upd H s.heap.objs.size (.lst ys)) { s with heap := s.heap.push { cls := .type "list", data := .seq its.toArray }, toks := t' } :=
 I.laid (fun _ _ q => Heap.get?_push_of_some _ q) (Nat.le_refl _) ⟨hz, its, 0, hv, Heap.get?_push_size _ rfl⟩
theorem Inv.fresh (I : Inv X pins σ H s) : H s.heap.objs.size = none := I.hok.fresh (Nat.le_refl _)
theorem Inv.lstM (I : Inv X pins σ H s) (hH : H l = some (.lst xs)) : xs.length <= sizeLine /\ ∃ (its : List Value) (n : Nat), Vals xs its /\ xs.length = its.length /\ s.heap.get? l = some { cls := .type "list", data := .seq its.toArray n } := by
 obtain ⟨z, its, n, r, e⟩ := I.hok l _ hH
 exact ⟨z, its, n, r, r.length, e⟩
theorem Ad {n : Nat} (h : n <= sizeLine) : Builtin.List.listTooLong n = false := by
 unfold Builtin.List.listTooLong
 exact decide_eq_false (by lia)
end
section
variable {X : Cx}
noncomputable def zZ : V -> List V -> Hp -> VK -> Prop := fun x vs H Q => ∃ l xs y, x = .ref l /\ vs = [y] /\ H l = some (.lst xs) /\ xs.length < sizeLine /\ Q .non (upd H l (.lst (xs ++ [y])))
theorem lO : MtM X "list.append" zZ := by
 intro pins s σ H x vs v us Q I rx rv h
 obtain ⟨l, xs, y, rfl, rfl, hH, hz, q⟩ := h
 cases rx
 obtain ⟨u, rfl, ru⟩ := rv.one
 obtain ⟨z, its, n, r, hl, e⟩ := I.lstM hH
 refine call_meets F.slot_list_append ⟨_, e, rfl⟩ F.entry_list_append (F.args_list_append_2 _ _) (PySem.list_append l its.toArray n u (by rw [List.size_toArray]; lia)) ⟨e, ?_⟩
 refine ⟨.non, _, I.lset (its' := its ++ [u]) hH e (by simp) (r.append (.cons ru .nil)) ?_, rfl, q⟩
 rw [List.length_append, List.length_singleton]
 lia
noncomputable def rPop : V -> List V -> Hp -> VK -> Prop := fun x vs H Q => ∃ l xs y, x = .ref l /\ vs = [] /\ H l = some (.lst xs) /\ xs[xs.length - 1]? = some y /\ Q y (upd H l (.lst xs.dropLast))
theorem rG : MtM X "list.pop" rPop := by
 intro pins s σ H x vs v us Q I rx rv h
 obtain ⟨l, xs, y, rfl, rfl, hH, hy, q⟩ := h
 cases rx
 have hus := rv.zero
 subst hus
 obtain ⟨z, its, n, r, hl, e⟩ := I.lstM hH
 obtain ⟨u, hu, ru⟩ := r.get hy
 have hy' : its.toArray[its.toArray.size - 1]? = some u := by
  show its.toArray[its.length - 1]? = some u
  rw [<- Array.getElem?_toList, <- hl]
  exact hu
 refine call_meets F.slot_list_pop ⟨_, e, rfl⟩ F.entry_list_pop (F.args_list_pop_1 _) (MeetsSeq.list_pop_last l its.toArray n u hy' (by rw [List.size_toArray]; lia)) ⟨e, ?_⟩
 refine ⟨y, _, I.lset (its' := its.dropLast) hH e ?_ r.dropLast ?_, ru, q⟩
 ·show its.toArray.eraseIdxIfInBounds (its.toArray.size - 1) = its.dropLast.toArray
  rw [List.size_toArray, List.eraseIdxIfInBounds_toArray, jT]
 ·rw [List.length_dropLast]
  lia
theorem oz {α : Type} (xs : List α) (k : Nat) : (List.replicate k xs).flatten.length = k * xs.length := by
 induction k with
 | zero => simp
 | succ k ih => rw [List.replicate_succ, List.flatten_cons, List.length_append, ih, Nat.succ_mul, Nat.add_comm]
end
section
variable {prog : Program} {w : World} {A : Around} {E : ye} {s : Shared}
end
section
variable {X : Cx}
end
section
variable {κ : Type} [DecidableEq κ]
noncomputable def valV (kvs : List (κ × V)) (k : κ) : Option V := (kvs.find? fun kv => decide (kv.1 = k)).map (·.2)
noncomputable def putK (kvs : List (κ × V)) (k : κ) (v : V) : List (κ × V) :=
 if (kvs.any fun kv => decide (kv.1 = k)) = true then kvs.map (fun kv => if kv.1 = k then (kv.1, v) else kv) else kvs ++ [(k, v)]
theorem eN {p : κ × V} {r : List (κ × V)} {k : κ} (e : p.1 = k) : valV (p :: r) k = some p.2 := by simp [valV, List.find?_cons, e]
theorem eO {p : κ × V} {r : List (κ × V)} {k : κ} (e : ¬ p.1 = k) : valV (p :: r) k = valV r k := by simp [valV, List.find?_cons, e]
theorem j7 (k : κ) : ∀ kvs : List (κ × V), (kvs.any fun kv => decide (kv.1 = k)) = (valV kvs k).isSome
 | [] => rfl
 | p :: r => by
  rw [List.any_cons]
  by_cases e : p.1 = k
  ·simp only [eN e, decide_eq_true e, Bool.true_or, Option.isSome_some]
  ·rw [eO e, decide_eq_false e, Bool.false_or]; exact j7 k r
theorem fO (kvs : List (κ × V)) (k : κ) (v : V) : (putK kvs k v).length <= kvs.length + 1 := by
 unfold putK
 split
 ·rw [List.length_map]; lia
 ·rw [List.length_append, List.length_cons, List.length_nil]; lia
theorem RelO.isSome_eq {o : Option V} {u : Option Value} (r : RelO o u) : o.isSome = u.isSome := by
 cases o with
 | none => cases u with
  | none => rfl
  | some _ => exact (show False from r).elim
 | some _ => cases u with
  | none => exact (show False from r).elim
  | some _ => rfl
theorem KV.val {kvs : List (κ × V)} {vs : List (κ × Value)} (r : KV kvs vs) (k : κ) : RelO (valV kvs k) (valueAt vs k) := by
 unfold KV at r
 induction r with
 | nil => exact True.intro
 | @cons p q ps qs h t ih =>
  obtain ⟨h1, h2⟩ := h
  by_cases e : p.1 = k
  ·have e' : q.1 = k := h1.symm.trans e
   have b : valueAt (q :: qs) k = some q.2 := by simp [valueAt, List.find?_cons, e']
   rw [eN e, b]; exact h2
  ·have e' : ¬ q.1 = k := fun z => e (h1.trans z)
   have b : valueAt (q :: qs) k = valueAt qs k := by simp [valueAt, List.find?_cons, e']
   rw [eO e, b]; exact ih
theorem KV.any {kvs : List (κ × V)} {vs : List (κ × Value)} (r : KV kvs vs) (k : κ) : (kvs.any fun kv => decide (kv.1 = k)) = vs.any fun kv => decide (kv.1 = k) := by
 unfold KV at r
 induction r with
 | nil => rfl
 | cons h t ih => rw [List.any_cons, List.any_cons, ih, h.1]
theorem KV.repl {kvs : List (κ × V)} {vs : List (κ × Value)} (r : KV kvs vs) (k : κ) {y : V} {u : Value} (ry : RelV y u) :
  KV (kvs.map fun kv => if kv.1 = k then (kv.1, y) else kv) (vs.map fun kv => if kv.1 = k then (kv.1, u) else kv) := by
 unfold KV at r ⊢
 induction r with
 | nil => exact .nil
 | @cons p q ps qs h t ih =>
  rw [List.map_cons, List.map_cons]
  refine .cons ?_ ih
  obtain ⟨h1, h2⟩ := h
  by_cases e : p.1 = k
  ·rw [if_pos e, if_pos (h1.symm.trans e)]; exact ⟨h1, ry⟩
  ·rw [if_neg e, if_neg (fun z => e (h1.trans z))]; exact ⟨h1, h2⟩
theorem KV.put {kvs : List (κ × V)} {vs : List (κ × Value)} (r : KV kvs vs) (k : κ) {y : V} {u : Value} (ry : RelV y u) : KV (putK kvs k y) (stored vs k u) := by
 unfold putK stored
 rw [r.any k]
 by_cases e : (vs.any fun kv => decide (kv.1 = k)) = true
 ·rw [if_pos e, if_pos e]; exact r.repl k ry
 ·rw [if_neg e, if_neg e]; exact Paired.snoc r ⟨rfl, ry⟩
theorem KV.length {kvs : List (κ × V)} {vs : List (κ × Value)} (r : KV kvs vs) : kvs.length = vs.length := Paired.length r
end
theorem j8 {P : Program} {w : World} {k : Key} {u : Value} (r : RelV (kV k) u) : (yA P w).is k u = true := by
 cases k with
 | inl i => obtain ⟨t, e⟩ := (show ∃ t, u = Value.int i t from r); subst e; exact j2 P w i t
 | inr x => obtain ⟨t, e⟩ := (show ∃ t, u = Value.str x t from r); subst e; exact j3 P w x t
theorem ib {P : Program} {w : World} : ∀ {ks : List Key} {us : List Value}, Vals (ks.map kV) us -> ItemsAre (yA P w) ks us
 | [], _, r => by rw [List.map_nil] at r; cases r; exact .nil
 | k :: ks, _, r => by
  rw [List.map_cons] at r
  cases r with
  | cons h t => exact .cons (j8 h) (ib t)
abbrev KT (H : Hp) : List (List Key × V) -> List (List Key × Addr × Value) -> Prop := Paired fun p q => p.1 = q.1 /\ H q.2.1 = some (.tup (p.1.map kV)) /\ RelV p.2 q.2.2
theorem KT.val {H : Hp} {kvs : List (List Key × V)} {xs : List (List Key × Addr × Value)} (r : KT H kvs xs) (k : List Key) : RelO (valV kvs k) ((atKey xs k).map (·.2)) := by
 induction r with
 | nil => exact True.intro
 | @cons p q ps qs h t ih =>
  obtain ⟨h1, _, h2⟩ := h
  by_cases e : p.1 = k
  ·have e' : q.1 = k := h1.symm.trans e
   have b : atKey (q :: qs) k = some q.2 := by simp [atKey, List.find?_cons, e']
   rw [eN e, b]; exact h2
  ·have e' : ¬ q.1 = k := fun z => e (h1.trans z)
   have b : atKey (q :: qs) k = atKey qs k := by simp [atKey, List.find?_cons, e']
   rw [eO e, b]; exact ih
theorem KT.repl {H : Hp} {kvs : List (List Key × V)} {xs : List (List Key × Addr × Value)} (r : KT H kvs xs) (k : List Key) {y : V} {u : Value} (ry : RelV y u) :
  KT H (kvs.map fun kv => if kv.1 = k then (kv.1, y) else kv) (xs.map (putAt k u)) := by
 induction r with
 | nil => exact .nil
 | @cons p q ps qs h t ih =>
  rw [List.map_cons, List.map_cons]
  refine .cons ?_ ih
  obtain ⟨h1, h2, h3⟩ := h
  unfold putAt
  by_cases e : p.1 = k
  ·rw [if_pos e, if_pos (h1.symm.trans e)]; exact ⟨h1, h2, ry⟩
  ·rw [if_neg e, if_neg (fun z => e (h1.trans z))]; exact ⟨h1, h2, h3⟩
theorem KT.put {H : Hp} {kvs : List (List Key × V)} {xs : List (List Key × Addr × Value)} (r : KT H kvs xs) (k : List Key) {b : Addr} {y : V} {u : Value} (hb : H b = some (.tup (k.map kV))) (ry : RelV y u) :
  KT H (putK kvs k y) (storedH xs k b u) := by
 have e : (kvs.any fun kv => decide (kv.1 = k)) = (atKey xs k).isSome := by
  rw [j7, (r.val k).isSome_eq, Option.isSome_map]
 unfold putK storedH
 rw [e]
 by_cases q : (atKey xs k).isSome = true
 ·rw [if_pos q, if_pos q]; exact r.repl k ry
 ·rw [if_neg q, if_neg q]; exact Paired.snoc r ⟨rfl, hb, ry⟩
theorem KT.keeps {H H' : Hp} {kvs : List (List Key × V)} {xs : List (List Key × Addr × Value)} (r : KT H kvs xs) (ht : ∀ b ys, H b = some (.tup ys) -> H' b = some (.tup ys)) : KT H' kvs xs :=
 Paired.mapP r fun _ _ z => ⟨z.1, ht _ _ z.2.1, z.2.2⟩
section
variable {P : Program} {w : World} {H : Hp} {h : Heap} {a : Addr}
theorem qp {u : HO} (ok : HOk P w H h) (e : Rd H a u) : yz P w H h a u := e.ok ok
theorem ie {kvs : List (Key × V)} (ok : HOk P w H h) (e : Rd H a (.dK kvs)) : kvs.length <= sizeLine /\ (a == sysModules) = false /\ ∃ vs, KV kvs vs /\ h.DictOf (yA P w) a vs :=
 show yz P w H h a (.dK kvs) from qp ok e
theorem uW {kvs : List (Key × V)} (ok : HOk P w H h) (e : H a = some (.dK kvs)) : kvs.length <= sizeLine /\ (a == sysModules) = false /\ ∃ vs, KV kvs vs /\ h.DictOf (yA P w) a vs := ie ok (.inl e)
theorem gm {ks : List Key} (ok : HOk P w H h) (e : H a = some (.tup (ks.map kV))) : (tupleKind (yA P w)).is h ks a := by
 obtain ⟨_, its, r, o, h1, h2, n, h3⟩ := (show yz P w H h a (.tup (ks.map kV)) from ok a _ e)
 exact ⟨o, its.toArray, n, h1, h2, h3, by simpa using ib r⟩
theorem j9 {kvs : List (List Key × V)} (ok : HOk P w H h) (e : Rd H a (.dT kvs)) : kvs.length <= sizeLine /\ (a == sysModules) = false /\
  ∃ xs, KT H kvs xs /\ h.DictOfH (tupleKind (yA P w)) a xs := by
 obtain ⟨z, y, xs, r, o, es, ep, h1, h2, h3, h4, h5⟩ := (show yz P w H h a (.dT kvs) from qp ok e)
 refine ⟨z, y, xs, r, o, es, ep, h1, h2, h3, h4, fun x hx => ?_, h5⟩
 have all : ∀ {l : List (List Key × V)} {m : List (List Key × Addr × Value)}, KT H l m -> ∀ x ∈ m, (tupleKind (yA P w)).is h x.1 x.2.1 := by
  intro l m q
  induction q with
  | nil => intro x hx; exact nomatch hx
  | @cons p q ps qs hq t ih =>
   intro x hx
   rcases List.mem_cons.mp hx with e | hx
   ·subst e
    exact gm ok (by rw [<- hq.1]; exact hq.2.1)
   ·exact ih x hx
 exact all r x hx
theorem uX {kvs : List (List Key × V)} (ok : HOk P w H h) (e : H a = some (.dT kvs)) : kvs.length <= sizeLine /\ (a == sysModules) = false /\
  ∃ xs, KT H kvs xs /\ h.DictOfH (tupleKind (yA P w)) a xs := j9 ok (.inl e)
end
noncomputable def DGet (H : Hp) (a : Addr) (y : V) (r : Option V) : Prop :=
 (∃ kvs k, Rd H a (.dK kvs) /\ y = kV k /\ r = valV kvs k) \/ ∃ kvs k b, Rd H a (.dT kvs) /\ y = .ref b /\ H b = some (.tup (k.map kV)) /\ r = valV kvs k
noncomputable def DPut (H : Hp) (a : Addr) (y v : V) (H' : Hp) : Prop :=
 (∃ kvs k, H a = some (.dK kvs) /\ y = kV k /\ kvs.length < sizeLine /\ H' = upd H a (.dK (putK kvs k v))) \/
 ∃ kvs k b, H a = some (.dT kvs) /\ y = .ref b /\ H b = some (.tup (k.map kV)) /\ kvs.length < sizeLine /\ H' = upd H a (.dT (putK kvs k v))
theorem DGet.k {H : Hp} {a : Addr} {kvs : List (Key × V)} {k : Key} (e : H a = some (.dK kvs)) : DGet H a (kV k) (valV kvs k) := .inl ⟨kvs, k, .inl e, rfl, rfl⟩
theorem DPut.k {H : Hp} {a : Addr} {kvs : List (Key × V)} {k : Key} {v : V} (e : H a = some (.dK kvs)) (hl : kvs.length < sizeLine) : DPut H a (kV k) v (upd H a (.dK (putK kvs k v))) := .inl ⟨kvs, k, e, rfl, hl, rfl⟩
section
variable {X : Cx} {pins : yd} {σ : St} {H : Hp} {s : Shared} {a : Addr} {y v : V} {u r : Value} {o : Option V} {A : Around} {E : ye}
theorem Inv.big (I : Inv X pins σ H s) : sysModules < s.heap.objs.size := by
 have h : mainGlobals < s.heap.objs.size := (I.mod.glob.keeps I.bk).lt
 exact Nat.lt_trans (by decide) h
theorem lP {Q : ye} (hu : A.units + 1 < cLine) (I : Inv X pins σ H s) (g : DGet H a y (some v)) (ry : RelV y u) (h : ∀ w' s', Inv X pins σ H s' -> RelV v w' -> Q w' s') :
  wpAny (model X.prog X.w) A (getItem (.ref a) u) Q E s := by
 rcases g with ⟨kvs, k, e, ey, l⟩ | ⟨kvs, k, b, e, ey, eb, l⟩
 ·subst ey
  obtain ⟨z, hd, vs, rel, dd⟩ := ie I.hok e
  obtain ⟨w', hw, rw'⟩ := RelO.some_of (v := v) (o := valueAt vs k) (by rw [l]; exact rel.val k)
  exact wpAny_getItem_of (j8 ry) dd.mapOf hw (h w' _ (I.tok _) rw')
 ·subst ey
  cases (show u = Value.ref b from ry)
  obtain ⟨z, hd, xs, rel, dd⟩ := j9 I.hok e
  obtain ⟨w', hw, rw'⟩ := RelO.some_of (v := v) (o := (atKey xs k).map (·.2)) (by rw [l]; exact rel.val k)
  obtain ⟨p, hp, hp2⟩ := Option.map_eq_some_iff.mp hw
  refine wpAny_getItem_heap (tupleKind_room_in1 hu) (gm I.hok eb) dd hp ?_
  rw [hp2]
  exact h w' _ (I.tok _) rw'
theorem xD {Q : ye} (hu : A.units + 1 < cLine) (I : Inv X pins σ H s) (g : DGet H a y o) (ry : RelV y u) (h : ∀ s', Inv X pins σ H s' -> Q (.bool o.isSome) s') :
  wpAny (model X.prog X.w) A (compareOp .In u (.ref a)) Q E s := by
 rcases g with ⟨kvs, k, e, ey, l⟩ | ⟨kvs, k, b, e, ey, eb, l⟩
 ·subst ey
  obtain ⟨z, hd, vs, rel, dd⟩ := ie I.hok e
  refine wpAny_in_of (j8 ry) hd dd.mapOf ?_
  rw [<- (rel.val k).isSome_eq, <- l]
  exact h _ (I.tok _)
 ·subst ey
  cases (show u = Value.ref b from ry)
  obtain ⟨z, hd, xs, rel, dd⟩ := j9 I.hok e
  refine wpAny_in_heap (tupleKind_room_in1 hu) (gm I.hok eb) hd dd ?_
  have q := (rel.val k).isSome_eq
  rw [Option.isSome_map] at q
  rw [<- q, <- l]
  exact h _ (I.tok _)
theorem oA {Q : ye} (hu : A.units + 1 < cLine) (I : Inv X pins σ H s) (g : DGet H a y o) (ry : RelV y u) (h : ∀ s', Inv X pins σ H s' -> Q (.bool (!o.isSome)) s') :
  wpAny (model X.prog X.w) A (compareOp .NotIn u (.ref a)) Q E s := by
 rcases g with ⟨kvs, k, e, ey, l⟩ | ⟨kvs, k, b, e, ey, eb, l⟩
 ·subst ey
  obtain ⟨z, hd, vs, rel, dd⟩ := ie I.hok e
  refine wpAny_notIn_of (j8 ry) hd dd.mapOf ?_
  rw [<- (rel.val k).isSome_eq, <- l]
  exact h _ (I.tok _)
 ·subst ey
  cases (show u = Value.ref b from ry)
  obtain ⟨z, hd, xs, rel, dd⟩ := j9 I.hok e
  refine wpAny_notIn_heap (tupleKind_room_in1 hu) (gm I.hok eb) hd dd ?_
  have q := (rel.val k).isSome_eq
  rw [Option.isSome_map] at q
  rw [<- q, <- l]
  exact h _ (I.tok _)
theorem kJ {h' : Heap} {t' : Nat} {ob : HO} (I : Inv X pins σ H s) (mu : Mut (H a)) (hs : Heap.SameBut a s.heap h') (he : ∃ q, h'.get? a = some q) (new : yz X.prog X.w (upd H a ob) h' a ob) :
  Inv X pins σ (upd H a ob) { s with heap := h', toks := t' } :=
 I.write (x := a) (e := a) mu (.inl rfl) (fun b q hb z => (hs.2 b hb).trans z) he new
theorem rH {P : Program} {w : World} {H' : Hp} {h' : Heap} {kvs : List (Key × V)} {vs : List (Key × Value)} (z : kvs.length <= sizeLine) (hd : (a == sysModules) = false) (rel : KV kvs vs) (dd : h'.DictOf (yA P w) a vs) :
  yz P w H' h' a (.dK kvs) := ⟨z, hd, vs, rel, dd⟩
theorem lQ {H' : Hp} {Q : Unit -> Shared -> Prop} (hu : A.units + 1 < cLine) (I : Inv X pins σ H s) (g : DPut H a y v H') (ry : RelV y u) (rv : RelV v r) (h : ∀ s', Inv X pins σ H' s' -> Q () s') :
  wpAny (model X.prog X.w) A (setItem (.ref a) u r) Q E s := by
 rcases g with ⟨kvs, k, e, ey, l, eH⟩ | ⟨kvs, k, b, e, ey, eb, l, eH⟩
 ·subst ey eH
  obtain ⟨z, hd, vs, rel, dd⟩ := uW I.hok e
  have hz : vs.length <= sizeLine := by rw [<- rel.length]; exact z
  have hl : (putK kvs k v).length <= sizeLine := by have := fO kvs k v; lia
  refine wpAny_setItem_pairs (hsz := hz) (j8 ry) dd fun h' dd' hs => h _ ?_
  have he : ∃ q, h'.get? a = some q := let ⟨q, _, _, hq, _⟩ := dd'; ⟨q, hq⟩
  exact kJ I (by rw [e]; exact True.intro) hs he (rH hl hd (rel.put k rv) dd')
 ·subst ey eH
  cases (show u = Value.ref b from ry)
  obtain ⟨z, hd, xs, rel, dd⟩ := uX I.hok e
  have hz : xs.length <= sizeLine := by rw [<- Paired.length rel]; exact z
  have hl : (putK kvs k v).length <= sizeLine := by have := fO kvs k v; lia
  refine wpAny_setItem_heap (hsz := hz) (tupleKind_room_in1 hu) (gm I.hok eb) dd fun h' dd' hs => h _ ?_
  obtain ⟨q, es, ep, hq, h2, h3, h4, _, h5⟩ := dd'
  refine kJ I (by rw [e]; exact True.intro) hs ⟨q, hq⟩ ⟨hl, hd, _, (rel.put k eb rv).keeps fun c ys ec => ?_, q, es, ep, hq, h2, h3, h4, h5⟩
  rw [ak (uL ec e (fun z => nomatch z))]
  exact ec
end
section
variable {X : Cx} {pins : yd} {σ : St} {H : Hp} {s : Shared} {a : Addr} {kvs : List (Key × V)} {k : Key} {u : Value} {A : Around} {E : ye}
theorem uY {Q : ye} (I : Inv X pins σ H s) (e : Rd H a (.dK kvs)) (h : ∀ t s', Inv X pins σ H s' -> Q (.int kvs.length t) s') : wpAny (model X.prog X.w) A (call (.builtin "len") [.ref a]) Q E s := by
 obtain ⟨z, hd, vs, rel, dd⟩ := ie I.hok e
 refine call_len_dict hd dd (by rw [<- rel.length]; rw [sizeLine_eq] at z; lia) ?_
 rw [<- rel.length]
 exact h _ _ (I.tok _)
end
theorem ja {X : Cx} {pins : yd} {σ : St} {H : Hp} {s : Shared} {a : Addr} {y : V} {o : Option V} (I : Inv X pins σ H s) (g : DGet H a y o) : s.TypeIs (.ref a) "dict" := by
 rcases g with ⟨kvs, k, e, _, _⟩ | ⟨kvs, k, b, e, _, _, _⟩
 ·obtain ⟨_, _, vs, _, dd⟩ := ie I.hok e
  exact dd.typeIs
 ·obtain ⟨_, _, xs, _, dd⟩ := j9 I.hok e
  exact dd.typeIs
noncomputable def AM (td ty tv : TE) : TS := fun D σ H => tv σ H fun v H1 => td σ H1 fun x H2 => ty σ H2 fun y H3 => ∃ a H4, x = .ref a /\ DPut H3 a y v H4 /\ D.nx σ H4
section
variable {X : Cx} {o i e value : Expr} {pos pos' tpos : Pos} {td ty tv : TE}
theorem oB (hu : X.A.units + 1 < cLine) (ho : PE X o td) (hi : PE X i ty) (hv : PE X value tv) (hs : swapsWith value (some (.Subscript o i pos')) pos.line X.env = pure false) :
  PS X (.Assign [.Subscript o i pos'] value pos) (AM td ty tv) := by
 intro pins s σ H D I h
 refine wpAny_Assign_Subscript (thn (hv pins s σ H _ I h) fun r s1 ⟨v, H1, I1, rv, q1⟩ => thn (ho pins s1 σ H1 _ I1 q1) fun u s2 ⟨x, H2, I2, rx, q2⟩ => thn (hi pins s2 σ H2 _ I2 q2) fun iv s3 ⟨y, H3, I3, ry, a, H4, ex, g, q3⟩ => ?_) hs
 subst ex
 obtain rfl : u = Value.ref a := rx
 exact lQ hu I3 g ry rv fun s4 I4 => ⟨σ, H4, I4, q3⟩
end
theorem mW {P : Program} {w : World} {H : Hp} (h : Heap) (hb : sysModules < h.objs.size) : yz P w H (h.push { cls := .type "dict", data := .dict #[] }) h.objs.size (.dK []) :=
 ⟨Nat.zero_le _, beq_eq_false_iff_ne.mpr (Ne.symm (Nat.ne_of_lt hb)), [], .nil, Heap.DictOf.new h⟩
noncomputable def AA : TE := fun _ H Q => ∀ p, H p = none -> Q (.ref p) (upd H p (.dK []))
section
variable {X : Cx} {pos : Pos}
theorem mX : PE X (.Dict [] [] pos) AA := fun pins s σ H Q I h =>
 wpAny_Dict_empty ⟨.ref s.heap.objs.size, _, I.laid (a := s.heap.objs.size) (o := .dK []) (t' := s.toks) (fun _ _ q => Heap.get?_push_of_some _ q) (Nat.le_refl _) (mW s.heap I.big), rfl, h _ (I.hok.fresh (Nat.le_refl _))⟩
end
structure M1 (X : Cx) (o : Expr) (m : Str) (apos : Pos) (e : Expr) (cpos : Pos) : Prop where
 base : attributeBase o m X.env (eval o X.env) = eval o X.env
 few : ((backTo cpos (starEach [e] X.env)).all (fun x => !x.1) && (backToKw cpos (keywordEach [] X.env)).all (fun x => x.1.isSome)
  && decide (([e] : List Expr).length + ([] : List Keyword).length + (if ([] : List Keyword).isEmpty then 0 else 1) < 30)) = true
 line : (apos.endLine == cpos.line) = true
 trees : backTo cpos (starEach [e] X.env) = [(false, eval e X.env)]
structure M2 (X : Cx) (o : Expr) (m : Str) (apos : Pos) (e f : Expr) (cpos : Pos) : Prop where
 base : attributeBase o m X.env (eval o X.env) = eval o X.env
 few : ((backTo cpos (starEach [e, f] X.env)).all (fun x => !x.1) && (backToKw cpos (keywordEach [] X.env)).all (fun x => x.1.isSome)
  && decide (([e, f] : List Expr).length + ([] : List Keyword).length + (if ([] : List Keyword).isEmpty then 0 else 1) < 30)) = true
 line : (apos.endLine == cpos.line) = true
 trees : backTo cpos (starEach [e, f] X.env) = [(false, eval e X.env), (false, eval f X.env)]
section
variable {X : Cx} {pins : yd} {σ : St} {H : Hp} {s : Shared} {a : Addr} {y d : V} {u r : Value} {o : Option V} {A : Around} {E : ye}
end
section
variable {X : Cx} {o e f : Expr} {apos cpos : Pos} {td ty tx : TE}
end
section
variable {X : Cx} {pins : yd} {σ : St} {H : Hp} {s : Shared} {a : Addr} {kvs : List (Key × V)} {A : Around} {E : ye}
end
section
variable {X : Cx} {pins : yd} {σ : St} {H : Hp} {s : Shared} {a : Addr} {y : V} {u : Value} {A : Around} {E : ye}
end
end L2
namespace Att
open PySem PySem.W PySem.Calls PyProof.Rows
theorem fY {P : Params} {h : Heap} : ∀ (ns : List Int) (vs : List Value), WellAll P h vs (ns.map WData.int) -> IntsAre vs ns := by
 intro ns
 induction ns with
 | nil =>
  intro vs w
  rw [List.map_nil] at w
  cases w
  exact .nil
 | cons n ns ih =>
  intro vs w
  rw [List.map_cons] at w
  cases w with
  | cons a b =>
   cases a
   exact .cons _ _ (ih _ b)
theorem lR {l : OpenLaw} {n : Nat} (hn : l.most = some n) {P : Params} {h : Heap} {args : List WData} {vals : List Value}
  (hpre : l.row.toRowW.claim.pre args = true) (hwl : WellAll P h vals args) :
  ∃ a vs ns, vals = [Value.ref a] /\ args = [WData.list (ns.map WData.int)] /\ h.get? a = some { cls := .type "list", data := .seq vs.toArray } /\ IntsAre vs ns /\ ns.length <= n := by
 have hsh : WShape.hasAll [] args [.list .int] = true := (pre_splitW hpre).1
 have hc : l.pre.holds [] { args := args } = true := (pre_splitW hpre).2
 obtain ⟨d, r, rfl, h1, h2⟩ := hasAllW_cons hsh
 obtain rfl := hasAllW_nil h2
 obtain ⟨xs, rfl, h3⟩ := hasW_list h1
 obtain ⟨ns, rfl⟩ := items_int h3
 have hlen : ns.length <= n := by
  unfold OpenLaw.pre at hc
  have h4 : (WTm.not (.lt (.lit (.int (n : Int))) (.len (.arg 0)))).holds [] { args := [.list (ns.map .int)] } = true := by
   have h4 := (holds_andW hc).1
   rw [hn] at h4
   exact h4
  have h5 := condW_of h4 (w_not (w_lt w_lit (w_len_list (w_arg rfl))))
  rw [List.length_map] at h5
  refine Nat.le_of_not_lt fun q => ?_
  have q' : (n : Int) < ((ns.length : Nat) : Int) := by lia
  first
   | (rw [decide_eq_true q'] at h5; exact absurd h5 (by decide))
   | (simp at h5; lia)
 cases hwl with
 | cons w1 w2 =>
  cases w2
  cases w1 with
  | list ho hall => exact ⟨_, _, ns, rfl, rfl, ho, fY ns _ hall, hlen⟩
theorem lS (l : OpenLaw) (args : List WData) : l.row.toRowW.claim.post args (.bool true) args = true :=
 postW_of (r := l.row.toRowW) (X := (true == true))
  (show WShape.has [] (.bool true) .bool = true by first | rfl | decide | simp [WShape.has, WShape.arms, WShape.armsAll])
  (show (WTm.eq .res (.lit (.bool true))).value [] { args := args, res := some (.bool true), after := args } = some (.bool (true == true)) from w_eq_bool (w_res rfl) w_lit) rfl
theorem jb {l : OpenLaw} {n : Nat} {q : Program} {loose : List Str} {XP : (Str -> Option Value) -> Heap -> Prop} {YP : World -> Heap -> Prop} {d : DefRec}
  (hn : l.most = some n) (hdf : d.params.defaults = [])
  (call : ∀ (w : World) (s₀ s₁ : Shared) (mg mb : yc) (fa : Addr) (o : Obj) (pm cd doc : Value) (a : Addr) (vs : List Value) (ns : List Int),
   Ground q loose [] XP w s₀ mg mb s₁.heap -> YP w s₁.heap ->
   s₁.heap.get? fa = some o -> o.data = .func (docDef d.name d.params d.body d.scope pm cd doc) -> s₁.heap.CodeRec cd d.name -> mg d.name = some (.ref fa) ->
   s₁.heap.get? a = some { cls := .type "list", data := .seq vs.toArray } -> IntsAre vs ns -> ns.length <= n -> s₁.gens = #[] ->
   codeAny (model l.prog w) callerA (.call (.ref fa) ⟨[.ref a], []⟩) (fun r s' => r = .ok (.ret (.bool true)) /\ OldK s₁.heap s'.heap /\ s'.os = s₁.os /\ AllBare s'.gens) s₁) :
  WalkO q loose XP YP l.row.toRowW d [] (fun f vs => PySem.call f vs) := by
 intro w s₀ s₁ mg mb G Y fa o pm cd doc dV kV ho hd hcd hD hmg hg args vals as hpre hlay hrd hwl hlo
 obtain rfl : dV = .none := Dflts.none hD hdf
 obtain rfl : kV = .none := Dflts.noKw hD
 obtain ⟨a, vs, ns, rfl, rfl, hobj, hints, hlen⟩ := lR hn hpre hwl
 refine enter_call (codeAny_mono (call w s₀ s₁ mg mb fa o pm cd doc a vs ns G Y ho (fd_plain hd) hcd hmg hobj hints hlen hg) fun r s' hq => ?_)
 obtain ⟨rfl, h2, h3, h4⟩ := hq
 exact ⟨.inl ⟨.bool true, .bool true, [], rfl, fun _ => rfl, .bool true, lS l _, fun _ => ⟨List.Pairwise.nil, fun _ hm => (nomatch hm)⟩⟩, h2, h3, h4⟩
section
variable {prog : Program} {w : World} {A : Around} {E : ye} {s : Shared} {K : Frag}
end
end Att
namespace L2
open PySem PySem.Spec PyProof.Rows
theorem fA : ∀ {vs : List Value} {ns : List Int}, IntsAre vs ns -> Vals (ns.map V.int) vs
 | _, _, .nil => .nil
 | _, _, .cons n t h => .cons ⟨t, rfl⟩ (fA h)
noncomputable def Only (H : Hp) : Prop := ∀ b, H b = none \/ ∃ o xs, H b = some (.frz o (.lst xs))
theorem mY {P : Program} {w : World} {K : W.Frag} {mg mb : yc} {CX : CXT} {k : Nat} {fa a : Addr} {fd : FuncData} {x : Str} {sp : Sp} {s₁ : Shared} {vs : List Value} {ns : List Int}
  (KX : K.In s₁.heap) (hns : s₁.heap.Ns mainGlobals mg) (hb : s₁.heap.Ns builtinsNs mb) (hbb : ∀ x : Str, x ≠ "__name__" -> mb x = bootBuiltins x) (hlim : s₁.heap.NoLimit) (hg : s₁.gens = #[])
  (ha : s₁.heap.get? a = some { cls := .type "list", data := .seq vs.toArray }) (hi : IntsAre vs ns) (hl : ns.length <= sizeLine) (hr : Room k callerA)
  (F : ∀ base : Heap, K.In base -> base.Ns mainGlobals mg -> FnOk P w K mg base CX k fa fd [x] sp) (hbind : ∀ (s : Shared) (u : Value), BindsTo s fd ⟨[u], []⟩ [(x, u)])
  (hsp : ∀ H : Hp, Only H -> SqR K H a (ns.map V.int) -> sp [.ref a] H (fun v _ => v = .bl true) fun _ _ _ => False)
  (hCX : ∀ H e s', CX [] H s₁ (fun _ _ _ => False) e s' -> False) :
  codeAny (model P w) callerA (.call (.ref fa) ⟨[.ref a], []⟩) (fun r s' => r = .ok (.ret (.bool true)) /\ OldK s₁.heap s'.heap /\ s'.os = s₁.os /\ AllBare s'.gens) s₁ := by
 have rv := fA hi
 have lenV := hi.length
 have core : ∀ H : Hp, Only H -> SqR K H a (ns.map V.int) -> HOk P w H s₁.heap -> (∀ b, H b ≠ none -> b = a) -> (H a ≠ none -> K.lookup a = none) ->
   codeAny (model P w) callerA (.call (.ref fa) ⟨[.ref a], []⟩) (fun r s' => r = .ok (.ret (.bool true)) /\ OldK s₁.heap s'.heap /\ s'.os = s₁.os /\ AllBare s'.gens) s₁ := by
  intro H hO hS hok hA hK
  have base_of : ∀ {b : Addr} {o : Obj}, s₁.heap.get? b = some o -> H b = none -> (hidT s₁.heap H).get? b = some o := fun e n => mJ e n
  have noA : ∀ {b : Addr} {o : Obj} {es : Array DictEntry} {ep : Nat}, s₁.heap.get? b = some o -> o.data = .dict es ep -> H b = none := fun {b o es ep} e d => by
   cases q : H b with
   | none => rfl
   | some u =>
    have e' : b = a := hA b (by rw [q]; simp)
    subst e'
    rw [ha] at e; cases e
    have d' : Data.seq vs.toArray _ = Data.dict es ep := d
    cases d'
  have nsK : ∀ {b : Addr} {m : yc}, s₁.heap.Ns b m -> (hidT s₁.heap H).Ns b m := fun {b m} ⟨o, es, ep, e, d, r⟩ => ⟨o, es, ep, base_of e (noA e d), d, r⟩
  have hKb : K.In (hidT s₁.heap H) := fun b o e => base_of (KX b o e) (by
   cases q : H b with
   | none => rfl
   | some u =>
    have e' : b = a := hA b (by rw [q]; simp)
    subst e'
    rw [hK (by rw [q]; simp)] at e; cases e)
  have hM : Mod K mg (hidT s₁.heap H) := ⟨hKb, nsK hns, ⟨mb, nsK hb, hbb⟩, let ⟨mc, h1, h2⟩ := hlim; ⟨mc, nsK h1, h2⟩⟩
  have e0 : Env0 P w K mg (hidT s₁.heap H) callerA [] s₁ H := ⟨rfl, hM, fun b o e => o6 e, Nat.le_of_eq (lI _ _), trivial, fun b hb => absurd (show b ∈ ([] : List Addr) from hb) (by simp), hok, .of_eq hg⟩
  refine codeAny_mono ((F _ hKb (nsK hns)).run callerA [] s₁ H ⟨[.ref a], []⟩ [.ref a] [.ref a] _ _ hr e0 (hbind s₁ (.ref a)) (.cons rfl .nil) (hsp H hO hS)) fun r s' h => ?_
  cases r with
  | error e => exact (hCX H e s' h).elim
  | ok fl =>
   cases fl with
   | next => exact False.elim h
   | brk => exact False.elim h
   | cont => exact False.elim h
   | ret u =>
    obtain ⟨v, H', os, bare, un, hok', r', q⟩ := h
    have q' : v = .bl true := q
    subst q'
    obtain rfl : u = Value.bool true := r'
    refine ⟨rfl, OldK.of_keep fun b o e => ?_, os, bare⟩
    cases q : H b with
    | none => exact un.keep b o e q (by intro z; exact absurd (show b ∈ ([] : List Addr) from z) (by simp)) (by simp)
    | some u =>
     rcases hO b with z | ⟨ob, xs, z⟩
     ·rw [q] at z; cases z
     ·have z2 := un.frzs b ob _ z
      obtain ⟨e1, _⟩ := hok b _ z
      obtain ⟨e2, _⟩ := hok' b _ z2
      rw [e] at e1; cases e1
      exact e2
 cases hk : K.lookup a with
 | some o =>
  have e := KX a o hk
  rw [ha] at e
  cases e
  refine core (fun _ => none) (fun _ => .inl rfl) (.inr ⟨vs.toArray, _, hk, by rw [List.size_toArray, lenV]; exact hl, by simpa using rv⟩) (fun b u z => by have z' : (none : Option HO) = some u := z; cases z') (fun b z => absurd rfl z) fun z => absurd rfl z
 | none =>
  refine core (fun b => if b = a then some (.frz { cls := .type "list", data := .seq vs.toArray } (.lst (ns.map V.int))) else none) (fun b => ?_) (.inl (.inr ⟨{ cls := .type "list", data := .seq vs.toArray }, if_pos rfl⟩)) (fun b u z => ?_) (fun b z => ?_) fun _ => hk
  ·by_cases hb : b = a
   ·exact .inr ⟨_, _, if_pos hb⟩
   ·exact .inl (if_neg hb)
  ·by_cases hb : b = a
   ·have z' := (if_pos hb).symm.trans z
    cases z'
    subst hb
    exact ⟨ha, by rw [List.length_map]; exact hl, vs, _, rv, ha⟩
   ·have z' := (if_neg hb).symm.trans z
    cases z'
  ·by_cases hb : b = a
   ·exact hb
   ·exact absurd (if_neg hb) z
theorem oD {l : W.OpenLaw} {n k : Nat} {q : Program} {loose : List Str} {XP : (Str -> Option Value) -> Heap -> Prop} {YP : World -> Heap -> Prop} {d : DefRec} {K : Params -> W.Frag} {CX : World -> CXT} {sp : World -> Sp} {x : Str}
  (hn : l.most = some n) (hn2 : n <= sizeLine) (hdf : d.params.defaults = []) (hr : Room k callerA)
  (hY : ∀ (w : World) (h : Heap), YP w h -> (K w.params).In h)
  (F : ∀ (w : World) (mg : yc) (fa : Addr) (h : Heap), (K w.params).In h -> h.Ns mainGlobals mg -> mg d.name = some (.ref fa) ->
   ∃ fd : FuncData, (∀ (s : Shared) (u : Value), BindsTo s fd ⟨[u], []⟩ [(x, u)]) /\
    ∀ base : Heap, (K w.params).In base -> base.Ns mainGlobals mg -> FnOk l.prog w (K w.params) mg base (CX w) k fa fd [x] (sp w))
  (hsp : ∀ (w : World) (H : Hp) (a : Addr) (ns : List Int), ns.length <= n -> Only H -> SqR (K w.params) H a (ns.map V.int) -> sp w [.ref a] H (fun v _ => v = .bl true) fun _ _ _ => False)
  (hCX : ∀ (w : World) (H : Hp) (s : Shared) (e : Value) (s' : Shared), CX w [] H s (fun _ _ _ => False) e s' -> False) :
  W.WalkO q loose XP YP l.row.toRowW d [] (fun f vs => PySem.call f vs) := by
 refine Att.jb hn hdf fun w s₀ s₁ mg mb fa o pm cd doc a vs ns G Y ho hd hcd hmg hobj hints hlen hg => ?_
 have KX := hY w _ Y
 obtain ⟨fd, hb, hF⟩ := F w mg fa _ KX G.T.g hmg
 exact mY KX G.T.g G.T.b G.T.builtins G.T.nolimit hg hobj hints (Nat.le_trans hlen hn2) hr hF hb (fun H hO hS => hsp w H a ns hlen hO hS) fun H e s' => hCX w H s₁ e s'
noncomputable def yi (s : Stmt) : Arguments := match s with
 | .FunctionDef _ a _ _ _ _ _ _ _ _ => a
 | _ => { posonlyargs := [], args := [], vararg := none, kwonlyargs := [], kw_defaults := [], kwarg := none, defaults := [] }
noncomputable def yg (s : Stmt) : List Stmt := match s with
 | .FunctionDef _ _ b _ _ _ _ _ _ _ => b
 | _ => []
noncomputable def yf (s : Stmt) : Scope := match s with
 | .FunctionDef _ _ _ _ _ _ sc _ _ _ => sc
 | _ => { kind := .function, names := [], isGenerator := false, isCoroutine := false }
abbrev E0 : XK := fun _ _ _ => False
structure Fun (K : W.Frag) (x qual : Str) (st : Stmt) (f : Addr) (fd : FuncData) : Prop where
 ex : ∃ (oc : Value) (od : Option Addr) (kV doc pm : Value) (an : Option Addr) (cdv ct : Value) (osl : Array (Option Value)),
  fd = W.fnOf x qual (yi st) (yg st) (yf st) .none kV doc pm an cdv ct /\ K.lookup f = some ⟨oc, od, .func fd, osl⟩ /\ W.codeIn K cdv qual = true
 kp : W.keepIn K (.ref f) = true
section
variable {P : Program} {w : World} {K : W.Frag} {mg : yc} {base : Heap}
theorem Fun.binds {x qual : Str} {st : Stmt} {f : Addr} {fd : FuncData} {ps : List Str} (F : Fun K x qual st f fd)
  (h : ∀ (kV doc pm : Value) (an : Option Addr) (cdv ct : Value) (us : List Value), us.length = ps.length -> bindArgs (W.fnOf x qual (yi st) (yg st) (yf st) .none kV doc pm an cdv ct) ⟨us, []⟩ = pure (ps.zip us)) : Binds K fd ps [] := by
 obtain ⟨oc, od, kV, doc, pm, an, cdv, ct, osl, rfl, lk, hcd⟩ := F.ex
 exact .all (h kV doc pm an cdv ct)
theorem rJ {x qual : Str} {st : Stmt} {f : Addr} {oc : Value} {od an : Option Addr} {osl : Array (Option Value)} {kV doc pm cdv ct : Value} (l : K.lookup f = some ⟨oc, od, .func (W.fnOf x qual (yi st) (yg st) (yf st) .none kV doc pm an cdv ct), osl⟩)
  (c : W.codeIn K cdv qual = true) (k : W.keepIn K (.ref f) = true) : Fun K x qual st f (W.fnOf x qual (yi st) (yg st) (yf st) .none kV doc pm an cdv ct) := ⟨⟨oc, od, kV, doc, pm, an, cdv, ct, osl, rfl, l, c⟩, k⟩
end
section
variable {X : Cx}
theorem pv (i : Nat) {x : Str} {pos : Pos} (hN : X.N[i]? = some x := by rfl) (hv : Vis X.env.scope x := by first | exact Or.inl rfl | exact Or.inr (Or.inl rfl) | exact Or.inr (Or.inr rfl)) (hd : (x == ("__debug__" : Str)) = false := by decide)
  (hcd : (x == ("__classdict__" : Str)) = false := by decide) : PE X (.Name x pos) (tVar i) := cN hN hv hd hcd
end
noncomputable def Same (H H' : Hp) : Prop := ∀ b o, H b = some o -> H' b = some o
theorem Same.refl (H : Hp) : Same H H := fun _ _ h => h
theorem Same.trans {H H1 H2 : Hp} (a : Same H H1) (b : Same H1 H2) : Same H H2 := fun c o h => b c o (a c o h)
theorem Same.free {H H' : Hp} (e : Same H H') {l : Addr} (h : H' l = Option.none) : H l = Option.none := by
 cases q : H l with
 | none => rfl
 | some o =>
  rw [e l o q] at h
  cases h
section
variable {X : Cx}
end
section
variable {κ : Type} [DecidableEq κ]
theorem kK : ∀ {l : List κ} {k : κ}, l.Nodup -> ¬ k ∈ l -> (l ++ [k]).Nodup
 | [], k, _, _ => by simp
 | a :: r, k, h, hk => by
  obtain ⟨h1, h2⟩ := List.nodup_cons.mp h
  show (a :: (r ++ [k])).Nodup
  refine List.nodup_cons.mpr ⟨fun m => ?_, kK h2 fun m => hk (List.mem_cons.mpr (Or.inr m))⟩
  rcases List.mem_append.mp m with q | q
  ·exact h1 q
  ·exact hk (List.mem_cons.mpr (Or.inl (List.mem_singleton.mp q).symm))
end
end L2
set_option maxHeartbeats 4000000
namespace L2
open PySem PySem.Spec PyProof.Rows
section
variable {fs ex : List Addr} {H H' : Hp} {h h1 h2 : Heap}
theorem HOk.beyond {P : Program} {w : World} {C : Addr} (x : HOk P w H h1) (hC : H C = none) (hs : Heap.SameBut C h1 h2) : HOk P w H h2 := fun a o e => by
 refine (x a o e).stay (fun c q hc e' => (hs.2 c ?_).trans e') (fun _ q => q) fun _ _ q => q
 intro z
 subst z
 rcases hc with z | z
 ·subst z
  rw [hC] at e
  cases e
 ·rw [hC] at z
  cases z
end
theorem dX {env : Env} : ∀ (names : List (Str × NameKind)) (cs : List (Str × Addr)), (∀ y ∈ names, y.2 = .free -> ∃ c, env.cells.lookup y.1 = some c) -> (∀ x c, cs.lookup x = some c -> env.cells.lookup x = some c) ->
  ∃ cl : List (Str × Addr), (forIn names cs fun (y : Str × NameKind) (r : List (Str × Addr)) => if (y.2 == NameKind.free) = true then (do let a <- cellOf env y.1; pure (ForInStep.yield ((y.1, a) :: r)) : Sem _) else pure (ForInStep.yield r)) = (pure cl : Sem _) /\
   (∀ x c, cl.lookup x = some c -> env.cells.lookup x = some c) /\ (∀ x c, cs.lookup x = some c -> ∃ c', cl.lookup x = some c') /\ ∀ y ∈ names, y.2 = .free -> ∃ c, cl.lookup y.1 = some c
 | [], cs, _, h2 => ⟨cs, rfl, h2, fun x c e => ⟨c, e⟩, fun y hy => absurd hy (by simp)⟩
 | (n, k) :: r, cs, h1, h2 => by
  have hr : ∀ y ∈ r, y.2 = .free -> ∃ c, env.cells.lookup y.1 = some c := fun y hy => h1 y (List.mem_cons_of_mem _ hy)
  by_cases hk : k = .free
  ·obtain ⟨c, hc⟩ := h1 (n, k) (List.mem_cons_self ..) hk
   have h2' : ∀ x d, ((n, c) :: cs).lookup x = some d -> env.cells.lookup x = some d := fun x d e => by
    rw [List.lookup_cons] at e
    cases q : x == n with
    | true =>
     rw [q] at e
     have : x = n := by simpa using q
     subst this
     simp only [Option.some.injEq] at e
     subst e
     exact hc
    | false => rw [q] at e; exact h2 x d e
   obtain ⟨cl, e1, e2, e3, e4⟩ := dX r ((n, c) :: cs) hr h2'
   have hn : ∃ c', cl.lookup n = some c' := e3 n c (by simp)
   refine ⟨cl, ?_, e2, fun x d e => ?_, fun y hy hf => ?_⟩
   ·subst hk
    rw [List.forIn_cons]
    simp only [beq_self_eq_true, if_true]
    have ec : cellOf env n = pure c := by unfold cellOf; rw [hc]
    rw [ec]
    simp only [pure_bind]
    exact e1
   ·by_cases q : x = n
    ·subst q; exact hn
    ·exact e3 x d (by rw [List.lookup_cons, show (x == n) = false by simpa using q]; exact e)
   ·rcases List.mem_cons.mp hy with z | z
    ·subst z; exact hn
    ·exact e4 y z hf
  ·obtain ⟨cl, e1, e2, e3, e4⟩ := dX r cs hr h2
   refine ⟨cl, ?_, e2, e3, fun y hy hf => ?_⟩
   ·rw [List.forIn_cons]
    have hb : (k == NameKind.free) = false := by simpa using hk
    simp only [hb, Bool.false_eq_true, if_false, pure_bind]
    exact e1
   ·rcases List.mem_cons.mp hy with z | z
    ·subst z; exact absurd hf hk
    ·exact e4 y z hf
theorem gn {scope : Scope} {env : Env} (h : ∀ y ∈ scope.names, y.2 = .free -> ∃ c, env.cells.lookup y.1 = some c) :
  ∃ cl : List (Str × Addr), closureFor scope env = pure cl /\ (∀ x c, cl.lookup x = some c -> env.cells.lookup x = some c) /\ ∀ y ∈ scope.names, y.2 = .free -> ∃ c, cl.lookup y.1 = some c := by
 obtain ⟨cl, e1, e2, _, e4⟩ := dX (env := env) scope.names [] h (fun x c e => by simp at e)
 refine ⟨cl, ?_, e2, e4⟩
 unfold closureFor
 exact (bind_pure _).trans e1
noncomputable def yq (X : Cx) (N : List Str) (scope : Scope) (cl : List (Str × Addr)) (C : Addr) (ex : List Addr) (s : Shared) (H : Hp) : Cx :=
 { X with N := N, s₀ := s, H₀ := H, env := compEnvC scope cl C X.env, outer := X.stack, ex := ex, fn := fun _ => false, pn := [], xe := fun _ _ => False }
structure yD (X : Cx) (own : List Str) (F : List Nat) (N : List Str) (scope : Scope) : Prop where
 kind : scope.kind = .function
 nocell : ∀ y ∈ scope.names, y.2 ≠ .cell
 loc : ∀ y ∈ scope.names, y.2 = .local -> scope.names.lookup y.1 = some .local
 fkind : X.env.scope.kind = .function
 free : ∀ y ∈ scope.names, y.2 = .free -> X.env.kindOf y.1 = some .cell \/ X.env.kindOf y.1 = some .free
 names : ∀ (i : Nat) x, N[i]? = some x -> (i < own.length \/ ∃ j, F[i - own.length]? = some j /\ X.N[j]? = some x /\ Vis X.env.scope x /\ ∀ k, (relabel scope X.env).names.lookup x = some k -> k = .cell \/ k = .free)
 len : N.length = own.length + F.length
noncomputable def rho (n : Nat) (F : List Nat) (σ : St) : St := List.replicate n none ++ F.map fun j => (σ[j]?).join
theorem g7 (n : Nat) (F : List Nat) (σ : St) : (rho n F σ).length = n + F.length := by simp [rho]
theorem kL {n : Nat} {F : List Nat} {σ : St} {i : Nat} {v : V} (h : (rho n F σ)[i]? = some (some v)) : n <= i /\ ∃ j, F[i - n]? = some j /\ σ[j]? = some (some v) := by
 unfold rho at h
 by_cases hi : i < n
 ·rw [List.getElem?_append_left (by simpa using hi), List.getElem?_replicate] at h
  simp [hi] at h
 ·rw [List.getElem?_append_right (by simpa using hi), List.length_replicate, List.getElem?_map] at h
  refine ⟨Nat.le_of_not_lt hi, ?_⟩
  cases e : F[i - n]? with
  | none => rw [e] at h; cases h
  | some j =>
   rw [e] at h
   simp only [Option.map_some, Option.some.injEq] at h
   refine ⟨j, rfl, ?_⟩
   cases q : σ[j]? with
   | none => rw [q] at h; cases h
   | some o => rw [q] at h; simp only [Option.join] at h; rw [show o = some v from h]
theorem bw {env : Env} {x : Str} {k : NameKind} : ∀ {names : List (Str × NameKind)}, (names.map fun (n, k) => if (k == NameKind.free && env.scope.kind == .function && env.kindOf n == some .cell) then (n, NameKind.cell) else (n, k)).lookup x = some k ->
  ∃ k', (x, k') ∈ names /\ (k = k' \/ (k = .cell /\ k' = .free))
 | [], h => by simp at h
 | (n, k') :: r, h => by
  rw [List.map_cons] at h
  by_cases hc : (k' == NameKind.free && env.scope.kind == .function && env.kindOf n == some .cell) = true
  ·simp only [hc, if_true] at h
   rw [List.lookup_cons] at h
   cases q : x == n with
   | true =>
    rw [q] at h
    have : x = n := by simpa using q
    subst this
    refine ⟨k', List.mem_cons_self .., .inr ⟨?_, ?_⟩⟩
    ·simpa using h.symm
    ·simp only [Bool.and_eq_true, beq_iff_eq] at hc
     exact hc.1.1
   | false =>
    rw [q] at h
    obtain ⟨k2, h1, h2⟩ := bw h
    exact ⟨k2, List.mem_cons_of_mem _ h1, h2⟩
  ·simp only [hc, Bool.false_eq_true, if_false] at h
   rw [List.lookup_cons] at h
   cases q : x == n with
   | true =>
    rw [q] at h
    have : x = n := by simpa using q
    subst this
    refine ⟨k', List.mem_cons_self .., .inl ?_⟩
    simpa using h.symm
   | false =>
    rw [q] at h
    obtain ⟨k2, h1, h2⟩ := bw h
    exact ⟨k2, List.mem_cons_of_mem _ h1, h2⟩
section
variable {X : Cx} {pins : yd} {σ : St} {H : Hp} {s : Shared} {own N : List Str} {F : List Nat} {scope : Scope} {cl : List (Str × Addr)} {fp : List Addr}
theorem oE (S : yD X own F N scope) (I : Inv X pins σ H s) (hf : ∀ b ∈ fp, FpOk X pins H b) (c1 : ∀ x c, cl.lookup x = some c -> X.env.cells.lookup x = some c) (c2 : ∀ y ∈ scope.names, y.2 = .free -> ∃ c, cl.lookup y.1 = some c)
  {C : Addr} (hC : s.heap.objs.size <= C) (hfp : ∀ b ∈ fp, b < s.heap.objs.size) : (yq X N scope cl C fp s H).Ok where
 mod := I.ok.mod
 kind := S.kind
 glob := I.ok.glob
 blt := I.ok.blt
 above := hC
 inj := fun x y c e1 e2 => I.ok.inj x y c (c1 x c e1) (c1 y c e2)
 has := fun x hx => by
  rcases hx with e | e
  ·obtain ⟨k', hm, hk⟩ := bw (env := X.env) (names := scope.names) e
   rcases hk with z | ⟨_, z⟩
   ·exact absurd z.symm (S.nocell _ hm)
   ·exact c2 _ hm z
  ·obtain ⟨k', hm, hk⟩ := bw (env := X.env) (names := scope.names) e
   rcases hk with z | ⟨z, _⟩
   ·exact c2 _ hm z.symm
   ·cases z
 cab := fun x c h _ => absurd h (by simp [yq])
 hd := I.ok.hd
 frames := I.ok.frames
 stk := .inl rfl
 exf := fun b hb => ⟨Nat.ne_of_lt (Nat.lt_of_lt_of_le (hfp b hb) hC), fun x c e => (hf b hb).2.2.2.2.1 x c (c1 x c e)⟩
 bs := I.bs
 bsz := Nat.le_trans I.ok.bsz I.sz
 noex := fun b o e hb => by
  rcases (hf b hb).2.2.2.1 with z | z
  ·exact I.ok.noex b o e z
  ·exact absurd (Nat.lt_of_lt_of_le (Nat.lt_of_lt_of_le (Heap.lt_size e) I.ok.bsz) z) (Nat.lt_irrefl _)
 exfs := fun b hb z => by
  rcases List.mem_cons.mp (I.stkSub b z) with q | q
  ·exact (hf b hb).2.1 q
  ·exact (hf b hb).2.2.1 q
 funs := I.stack
 frf := I.stkFree
theorem jc (S : yD X own F N scope) (I : Inv X pins σ H s) (hf : ∀ b ∈ fp, FpOk X pins H b) (c1 : ∀ x c, cl.lookup x = some c -> X.env.cells.lookup x = some c) (c2 : ∀ y ∈ scope.names, y.2 = .free -> ∃ c, cl.lookup y.1 = some c)
  {C : Addr} (hC : s.heap.objs.size <= C) (hfp : ∀ b ∈ fp, b < s.heap.objs.size) {h' : Heap} {m : yc} {tk : Nat} (k : ∀ b o, s.heap.get? b = some o -> h'.get? b = some o) (hn : h'.Ns C m) :
  Inv (yq X N scope cl C fp s H) [] (rho own.length F σ) H { s with heap := h', toks := tk } := by
 have fresh : H C = none := I.hok.fresh hC
 refine ⟨oE S I hf c1 c2 hC hfp, rfl, I.bare, Un.kept k, ⟨m, hn, fun i x v e1 e2 e3 => ?_⟩, fun x c e => ?_, fresh, fun x c e => I.freeC x c (c1 x c e), fun p hp => absurd (show p ∈ ([] : yd) from hp) (by simp), I.hok.kept k, ?_⟩
 ·obtain ⟨hi, j, q1, q2⟩ := kL e2
  rcases S.names i x e1 with z | ⟨j', z1, z2, z3, z4⟩
  ·exact absurd hi (Nat.not_le.mpr z)
  ·rw [q1] at z1
   cases z1
   obtain ⟨m0, _, hl⟩ := I.loc
   obtain ⟨u, r, l⟩ := hl j x v z2 q2 z3
   refine ⟨u, r, ?_⟩
   have vis : ∀ k, (relabel scope X.env).names.lookup x = some k -> k = .cell \/ k = .free := z4
   obtain ⟨k2, hk2, hkc⟩ : ∃ k2, (relabel scope X.env).names.lookup x = some k2 /\ (k2 = .cell \/ k2 = .free) := by
    rcases e3 with z | z | z
    ·exact ⟨_, z, vis _ z⟩
    ·exact ⟨_, z, vis _ z⟩
    ·exact ⟨_, z, vis _ z⟩
   obtain ⟨k', hm, hk⟩ := bw (env := X.env) (names := scope.names) hk2
   have hfree : k' = .free := by
    rcases hk with q | ⟨_, q⟩
    ·rcases hkc with y | y
     ·exact absurd (q.symm.trans y) (S.nocell _ hm)
     ·exact q.symm.trans y
    ·exact q
   obtain ⟨c, hc⟩ := c2 _ hm hfree
   refine .inr ⟨?_, c, hc, ?_⟩
   ·rcases hkc with y | y
    ·subst y; exact .inl hk2
    ·subst y; exact .inr hk2
   ·have hx := S.free _ hm hfree
    rcases l with ⟨q, _⟩ | ⟨_, c', e', ic⟩
    ·rcases hx with y | y
     ·rw [q] at y; cases y
     ·rw [q] at y; cases y
    ·have : c' = c := Option.some.inj (e'.symm.trans (c1 _ _ hc))
     subst this
     obtain ⟨o, ho, hd⟩ := ic
     exact ⟨o, k _ _ ho, hd⟩
 ·obtain ⟨v, o, ho, hd⟩ := I.cell x c (c1 x c e)
  exact ⟨v, o, k _ _ ho, hd⟩
 ·show (rho own.length F σ).length = N.length
  rw [g7, S.len]
end
noncomputable def zA (n : Nat) (F : List Nat) (wi : TI) (g : TG) (tc : TT) (te : TE) : TE := fun σ H Q => wi σ H fun J H1 =>
 ∃ W : Nat -> Nat -> List V -> Hp -> Prop, (∃ m, W 0 m [] H1) /\ ∀ i m ys H2, W i m ys H2 ->
  (J.stop i H2 /\ ∀ D, H2 D = none -> Q (.ref D) (upd H2 D (.lst ys))) \/
  (J.go i H2 /\ ∀ x H3, J.yld i H2 x H3 -> g x (rho n F σ) H3 fun ρ H4 => tc ρ H4 fun b H5 =>
   if b = true then te ρ H5 fun v H6 => ys.length < sizeLine /\ ∃ m', m' < m /\ W (i + 1) m' (ys ++ [v]) H6 else ∃ m', m' < m /\ W (i + 1) m' ys H5)
def tYes : TT := fun _ H Q => Q true H
theorem HOk.track {P : Program} {w : World} {H : Hp} {h : Heap} {a : Addr} {o : HO} (x : HOk P w H h) (hn : H a = none) (new : yz P w (upd H a o) h a o) : HOk P w (upd H a o) h := fun b u e => by
 by_cases hb : b = a
 ·subst hb
  rw [ay] at e
  cases e
  exact new
 ·rw [ak hb] at e
  refine (x b u e).stay (fun _ _ _ q => q) (fun c q => ?_) fun c xs q => ?_
  ·rw [ak (ar q hn)]; exact q
  ·rw [ak (ar q hn)]; exact q
section
variable {prog : Program} {w : World} {A : Around} {R : Result -> Shared -> Prop} {s : Shared}
abbrev zO (ifs : List Expr) (env : Env) : Sem Bool := forIn ifs true fun c r => if r = true then do let ok <- isTrue c env (eval c env); pure (ForInStep.yield ok) else pure (ForInStep.yield r)
theorem lT {elt tg iter : Expr} {ifs : List Expr} {scope : Scope} {pos : Pos} {it acc : Value} {env : Env} (W : Nat -> Shared -> Prop)
  (turn : ∀ n s, W n s -> wpAny (model prog w) A (pyNext it) (fun r s1 => match r with
   | none => R (.ok .next) s1
   | some v => wpAny (model prog w) A (letOwnedTupleGo tg it v) (fun _ s2 => wpAny (model prog w) A (assign tg env v) (fun _ s3 => wpAny (model prog w) A (zO ifs env) (fun ok s4 =>
     if ok = true then wpAny (model prog w) A (eval elt env) (fun x s5 => wpAny (model prog w) A (call (.builtin "list.append") [acc, x]) (fun _ s6 => ∃ m, m < n /\ W m s6) (fun _ _ => False) s5) (fun _ _ => False) s4
     else ∃ m, m < n /\ W m s4) (fun _ _ => False) s3) (fun _ _ => False) s2) (fun _ _ => False) s1) (fun _ _ => False) s)
  (n : Nat) (h : W n s) : codeAny (model prog w) A (.compLoop (.ListComp elt [⟨tg, iter, ifs, 0⟩] scope pos) 0 it acc env) R s := by
 have no : ∀ {α : Type} {m : Sem α} {Q : α -> Shared -> Prop} {E : ye} {s : Shared}, wpAny (model prog w) A m Q (fun _ _ => False) s -> wpAny (model prog w) A m Q E s := fun z => wpAny_mono z (fun _ _ q => q) fun _ _ q => q.elim
 refine codeAny_loop rfl W (fun n s hI => ?_) n h
 show wpAny _ A ((compTurn (.ListComp elt [⟨tg, iter, ifs, 0⟩] scope pos) 0 it acc env).onRaise (fun x => do noteFrame x env; theTreesLotGoes x)) _ _ s
 refine wpAny_noted ?_
 rw [compTurn_list]
 refine wpAny_bind (wpAny_standAt (wpAny_bind (wpAny_mono (turn n s hI) (fun r s1 h1 => ?_) fun _ _ q => q.elim)))
 cases r with
 | none => exact wpAny_pure h1
 | some v =>
  refine wpAny_bind (wpAny_mono h1 (fun _ s2 h2 => ?_) fun _ _ q => q.elim)
  refine wpAny_bind (wpAny_mono h2 (fun _ s3 h3 => ?_) fun _ _ q => q.elim)
  refine wpAny_bind (wpAny_mono h3 (fun ok s4 h4 => ?_) fun _ _ q => q.elim)
  cases ok with
  | false => exact wpAny_pure ⟨rfl, h4⟩
  | true =>
   refine wpAny_bind (wpAny_bind (wpAny_mono h4 (fun x s5 h5 => ?_) fun _ _ q => q.elim))
   exact wpAny_bind (wpAny_mono h5 (fun _ s6 h6 => wpAny_pure (wpAny_pure ⟨rfl, h6⟩)) fun _ _ q => q.elim)
end
noncomputable def Stays (n : Nat) (F : List Nat) (g : TG) : Prop := ∀ x σ H Q, g x (rho n F σ) H Q -> g x (rho n F σ) H fun ρ' H' => (ρ'.length = (rho n F σ).length /\ ∀ (j : Nat) v, (rho n F σ)[j]? = some (some v) -> ρ'[j]? = some (some v)) /\ Q ρ' H'
theorem dY {n i : Nat} {F : List Nat} (h : i < n) : Stays n F (z0 i) := fun x σ H Q q => by
 refine ⟨⟨by simp, fun j v e => ?_⟩, q⟩
 have := (kL e).1
 rw [List.getElem?_set_ne (by lia)]
 exact e
section
variable {X : Cx} {own N : List Str} {F : List Nat} {scope : Scope} {tg elt iter : Expr} {wi : TI} {g : TG} {tc : TT} {te : TE} {pos : Pos} {ifs : List Expr}
noncomputable def PTs (X : Cx) (ifs : List Expr) (tc : TT) : Prop :=
 ∀ (pins : yd) (s : Shared) (σ : St) (H : Hp) (Q : Bool -> Hp -> Prop), Inv X pins σ H s -> tc σ H Q -> wpAny (model X.prog X.w) X.A (zO ifs X.env) (TP X pins σ Q) X.xe s
theorem oF : PTs X [] tYes := fun pins s σ H Q I h => wpAny_tests_nil ⟨H, I, h⟩
theorem oG {c : Expr} (hc : PT X c tc) : PTs X [c] tc := fun pins s σ H Q I h => wpAny_tests_one (hc pins s σ H Q I h)
structure Beside (X : Cx) (pins : yd) (H : Hp) (C : Addr) : Prop where
 hn : H C = none
 hL : C ≠ X.env.locals
 h1 : C ∈ X.ex \/ X.s₀.heap.objs.size <= C
 h2 : ∀ x c, X.env.cells.lookup x = some c -> c ≠ C
 h3 : ∀ p ∈ X.pn ++ pins, p.1 ≠ C
theorem Inv.beside {X : Cx} {pins : yd} {σ : St} {H : Hp} {s : Shared} {C : Addr} {h' : Heap} (I : Inv X pins σ H s) (B : Beside X pins H C) (hs : Heap.SameBut C s.heap h') : Inv X pins σ H { s with heap := h' } :=
 I.turned (t' := s.toks) (fun b o hb e => (hs.2 b hb).trans e) B.hn B.hL B.h1 B.h2 B.h3
theorem ig {pins : yd} {s : Shared} {σ : St} {H : Hp} {Fin : List V -> Hp -> Prop} {use : Option (Value -> Sem Unit)} {Qv : ye} {cpos : Pos} (S : yD X own F N scope) (hcm : X.calm = true) (hi : PI X tg iter wi) (hg : ∀ cl C ex s H, PG (yq X N scope cl C ex s H) tg g)
  (ht : ∀ cl C ex s H, PTs (yq X N scope cl C ex s H) ifs tc) (he : ∀ cl C ex s H, PE (yq X N scope cl C ex s H) elt te) (hgw : Stays own.length F g) (hs : ∀ x, foldedSetIterable iter X.env x = pure x) (I : Inv X pins σ H s)
  (h : wi σ H fun J H1 => ∃ W : Nat -> Nat -> List V -> Hp -> Prop, (∃ m, W 0 m [] H1) /\ ∀ i m ys H2, W i m ys H2 -> (J.stop i H2 /\ Fin ys H2) \/
   (J.go i H2 /\ ∀ x H3, J.yld i H2 x H3 -> g x (rho own.length F σ) H3 fun ρ H4 => tc ρ H4 fun b H5 => if b = true then te ρ H5 fun v H6 => ys.length < sizeLine /\ ∃ m', m' < m /\ W (i + 1) m' (ys ++ [v]) H6 else ∃ m', m' < m /\ W (i + 1) m' ys H5))
  (fin : ∀ D C ys H' s', Fin ys H' -> H' D = none -> Inv X pins σ (upd H' D (.lst ys)) s' -> Beside X pins (upd H' D (.lst ys)) C -> (∃ m, s'.heap.Ns C m) -> compPost (model X.prog X.w) X.A X.xe use Qv (.ref D) C (.ok .next) s') :
  wpAny (model X.prog X.w) X.A (comprehension (.ListComp elt [⟨tg, iter, ifs, 0⟩] scope pos) scope X.env cpos (newList []) false (eval iter X.env) use) Qv X.xe s := by
 obtain ⟨cl, hcl, c1, c2⟩ := gn (scope := scope) (env := X.env) fun y hy hf => I.ok.has _ (S.free y hy hf)
 refine wpAny_comprehension_free (use := use) rfl hs hcl S.kind S.loc (thn (hi pins s σ H _ I h) fun x s1 h1 => thn h1 fun itv s2 h2 => ?_)
 obtain ⟨it, fp, tn, J, H2, e, I2, T, st2, f2, W, ⟨m0, w0⟩, turn⟩ := h2
 subst e
 refine wpAny_newObj_type (wpAny_newFunctionEnv S.nocell (fun y hy => absurd hy (by simp)) (fun h4 hns hsb => ?_) S.kind)
 dsimp only at hns hsb ⊢
 generalize eP : s2.heap.push { cls := .type "list", dict := none, data := .seq ([] : List Value).toArray } = hp3 at hns hsb ⊢
 have hD : hp3.objs.size = s2.heap.objs.size + 1 := by rw [<- eP, Heap.size_push]
 generalize eD : s2.heap.objs.size = D at hD ⊢
 generalize eC : hp3.objs.size = C at hns hsb hD ⊢
 have k23 : ∀ b o, s2.heap.get? b = some o -> hp3.get? b = some o := fun b o q => by rw [<- eP]; exact Heap.get?_push_of_some _ q
 have ltD : ∀ {b : Addr} {o : Obj}, s2.heap.get? b = some o -> b < D := fun {b o} q => by rw [<- eD]; exact Heap.lt_size q
 have k34 : ∀ b o, hp3.get? b = some o -> h4.get? b = some o := fun b o q => hsb.extBut b o (Nat.ne_of_lt (by rw [<- eC]; exact Heap.lt_size q)) (Heap.get?_push_of_some _ q)
 have oD3 : hp3.get? D = some { cls := .type "list", dict := none, data := .seq ([] : List Value).toArray } := by rw [<- eP, <- eD]; exact Heap.get?_push_size _ rfl
 have I3 : Inv X pins σ H2 { s2 with heap := hp3 } := I2.kept (t' := s2.toks) k23
 have fD : FpOk X pins H2 D := I2.fpOk (by rw [eD]; exact Nat.le_refl _) (I2.hok.fresh (by rw [eD]; exact Nat.le_refl _))
 have f3 : ∀ b ∈ D :: fp, FpOk X pins H2 b := fun b hb => by
  rcases List.mem_cons.mp hb with z | z
  ·subst z; exact fD
  ·exact f2 b z
 have ltf : ∀ b ∈ fp, b < D := fun b hb => by
  obtain ⟨o, q, _⟩ := T.obj _ _ st2 b hb
  exact ltD q
 have lt3 : ∀ b ∈ D :: fp, b < ({ s2 with heap := hp3 } : Shared).heap.objs.size := fun b hb => by
  show b < hp3.objs.size
  rw [eC, hD]
  rcases List.mem_cons.mp hb with z | z
  ·subst z; exact Nat.lt_succ_self _
  ·exact Nat.lt_succ_of_lt (ltf b z)
 have I4 := jc (N := N) S I3 f3 c1 c2 (C := C) (by show hp3.objs.size <= C; lia) lt3 (h' := h4) (tk := s2.toks + ([] : List (Str × Value)).length) k34 hns
 generalize eX : yq X N scope cl C (D :: fp) { s2 with heap := hp3 } H2 = X' at I4
 have hX'loc : X'.env.locals = C := by rw [<- eX]; rfl
 have hX'fs : X'.fs = frs X.stack := by rw [<- eX]; rfl
 have nfD : D ∉ X'.fs := fun z => by
  rw [hX'fs] at z
  rcases List.mem_cons.mp (I2.stkSub D z) with q | q
  ·exact fD.2.1 q
  ·exact fD.2.2.1 q
 have nLD : D ≠ X'.env.locals := by rw [hX'loc, hD]; exact Nat.ne_of_lt (Nat.lt_succ_self _)
 have pinD : ∀ {H' : Hp} {s' : Shared} {σ' : St} {pl : yd} {its : List Value} {k : Nat}, Inv X' pl σ' H' s' -> H' D = none -> s'.heap.get? D = some { cls := .type "list", data := .seq its.toArray k } ->
   Inv X' [(D, { cls := .type "list", data := .seq its.toArray k })] σ' H' s' := fun {H' s' σ' pl its k} J hn q => J.pins_of fun p hp => by
  have : p = (D, { cls := .type "list", data := .seq its.toArray k }) := by simpa using hp
  subst this
  exact ⟨q, hn, nLD, nfD, fun v z => by cases z⟩
 have stat : ∀ {H' : Hp} {its : List Value} {k : Nat}, (∀ b ∈ fp, H' b = none) -> ∀ b ∈ fp, FpOk X' [(D, { cls := .type "list", data := .seq its.toArray k })] H' b := fun {H' its k} hn b hb => by
  refine ⟨hn b hb, ?_, fun z => ?_, .inl ?_, fun x c q => ?_, fun p hp => ?_⟩
  ·rw [hX'loc, hD]; exact Nat.ne_of_lt (Nat.lt_succ_of_lt (ltf b hb))
  ·rw [hX'fs] at z
   rcases List.mem_cons.mp (I2.stkSub b z) with q | q
   ·exact (f2 b hb).2.1 q
   ·exact (f2 b hb).2.2.1 q
  ·rw [<- eX]; exact List.mem_cons_of_mem _ hb
  ·rw [<- eX] at q
   exact (f2 b hb).2.2.2.2.1 x c (c1 x c q)
  ·have hpn : X'.pn = [] := by rw [<- eX]; rfl
   rw [hpn] at hp
   have : p = (D, { cls := .type "list", data := .seq its.toArray k }) := by simpa using hp
   subst this
   exact fun z => Nat.lt_irrefl b (Nat.lt_of_lt_of_eq (ltf b hb) z)
 let Wn : Nat -> Shared -> Prop := fun n s' => ∃ i ys its k H', Inv X' [(D, { cls := .type "list", data := .seq (List.toArray its) k })] (rho own.length F σ) H' s' /\ Vals ys its /\ ys.length <= sizeLine /\ tn i s'.heap /\ (∀ b ∈ fp, H' b = none) /\ W i n ys H'
 have start : Wn m0 { s2 with heap := h4, toks := s2.toks + ([] : List (Str × Value)).length } :=
  ⟨0, [], [], 0, H2, pinD I4 fD.1 (k34 _ _ oD3), .nil, Nat.zero_le _, T.keep _ _ _ st2 (fun b _ o q => k34 b o (k23 b o q)), fun b hb => (f2 b hb).1, w0⟩
 have loop : ∀ s' : Shared, Wn m0 s' -> codeAny (model X.prog X.w) X.A (.compLoop (.ListComp elt [⟨tg, iter, ifs, 0⟩] scope pos) 0 (.ref it) (.ref D) X'.env) (compPost (model X.prog X.w) X.A X.xe use Qv (.ref D) C) s' := by
  intro s' hs'
  refine lT Wn ?_ m0 hs'
  rintro n s5 ⟨i, ys, its, k, H5, I5, rv5, z5, st5, fr5, w5⟩
  have ePr : X'.prog = X.prog := by rw [<- eX]; rfl
  have ew : X'.w = X.w := by rw [<- eX]; rfl
  have eK : X'.K = X.K := by rw [<- eX]; rfl
  have eA : X'.A = X.A := by rw [<- eX]; rfl
  have ecm : X'.calm = true := by rw [<- eX]; exact hcm
  have exe : X'.xe = fun _ _ => False := by rw [<- eX]; rfl
  rcases turn i n ys H5 w5 with ⟨stop, qn⟩ | ⟨go, step⟩
  ·have td := T.done X' ePr ew eK ecm i _ s5 _ H5 (fun _ _ => False) I5 (stat fr5) st5 stop
   rw [eA] at td
   refine thn td fun r s6 ⟨hr, I6⟩ => ?_
   subst hr
   show compPost (model X.prog X.w) X.A X.xe use Qv (.ref D) C (.ok .next) s6
   obtain ⟨m6, hn6, _⟩ := I6.loc
   have oD6 := (I6.pin (D, { cls := .type "list", data := .seq its.toArray k }) (List.mem_append_right _ (List.mem_cons_self ..))).1
   have nD6 : H5 D = none := (I6.pin (D, { cls := .type "list", data := .seq its.toArray k }) (List.mem_append_right _ (List.mem_cons_self ..))).2.1
   have nC6 : H5 C = none := by rw [<- hX'loc]; exact I6.free
   have u6 : Un (frs X.stack) (D :: fp) H2 H5 hp3 s6.heap := by
    have := I6.base
    rw [hX'fs] at this
    rw [<- eX] at this
    exact this
   have hok7 : HOk X.prog X.w H5 s6.heap := by
    have := I6.hok
    rw [ePr, ew] at this
    exact this
   have neD : ∀ {b : Addr} {o : Obj}, s2.heap.get? b = some o -> b ≠ D := fun {b o} q => Nat.ne_of_lt (ltD q)
   have nin : ∀ {b : Addr} {o : Obj}, s2.heap.get? b = some o -> b ∉ fp -> b ∉ D :: fp := fun {b o} q hb z => by
    rcases List.mem_cons.mp z with y | y
    ·exact neD q y
    ·exact hb y
   have u8 : Un (frs X.stack) fp H2 (upd H5 D (.lst ys)) s2.heap s6.heap :=
    ⟨fun b o q n x y => u6.keep b o (k23 b o q) n x (nin q y), fun b o q n x y => u6.slot b o (k23 b o q) n x (nin q y), fun b o q n y => by rw [ak (neD q)]; exact u6.free b o (k23 b o q) n (nin q y),
     fun b o q y => u6.there b o (k23 b o q) (nin q y), fun b xs q => by
      have q' := u6.tups b xs q
      rw [ak (ar q' nD6)]; exact q', fun b o u q => by
      have q' := u6.frzs b o u q
      rw [ak (ar q' nD6)]; exact q', fun b ps q => by
      obtain ⟨more, q'⟩ := u6.tbls b ps q
      exact ⟨more, by rw [ak (ar q' nD6)]; exact q'⟩⟩
   have hos : s6.os = s2.os := by
    have := I6.os
    rw [<- eX] at this
    exact this
   have J : Inv X pins σ (upd H5 D (.lst ys)) s6 :=
    I2.call' (s' := s6) (ch := fp) hos u8 (hok7.track nD6 ⟨z5, its, k, rv5, oD6⟩) I6.bare fun b hb => ⟨(f2 b hb).2.2.2.1, (f2 b hb).2.1, (f2 b hb).2.2.2.2.1, (f2 b hb).2.2.2.2.2⟩
   have fC : FpOk X pins (upd H5 D (.lst ys)) C := I2.fpOk (by rw [eD, hD]; exact Nat.le_succ _) (by rw [ak (by rw [hD]; exact Nat.ne_of_gt (Nat.lt_succ_self _))]; exact nC6)
   exact fin D C ys H5 s6 qn nD6 J ⟨fC.1, fC.2.1, fC.2.2.2.1, fC.2.2.2.2.1, fC.2.2.2.2.2⟩ ⟨m6, by rw [<- hX'loc]; exact hn6⟩
  ·have ti := T.item X' ePr ew eK ecm i _ s5 _ H5 (fun _ _ => False) I5 (stat fr5) st5 go
   rw [eA] at ti
   refine thn ti fun r s6 ⟨u, hr, h6⟩ => ?_
   subst hr
   refine thn h6 fun _ s7 ⟨x, H7, I7, r7, y7, st7, fr7⟩ => ?_
   have I7' := I7.pinned (stat fr7) (T.obj _ _ st7)
   have hg' : PG X' tg g := by rw [<- eX]; exact hg _ _ _ _ _
   have ht' : PTs X' ifs tc := by rw [<- eX]; exact ht _ _ _ _ _
   have he' : PE X' elt te := by rw [<- eX]; exact he _ _ _ _ _
   have sg := hg' _ s7 _ H7 x u _ I7' r7 (hgw x σ H7 _ (step x H7 y7))
   rw [ePr, ew, eA, exe] at sg
   refine thn sg fun _ s8 ⟨ρ8, H8, I8, q8', q8⟩ => ?_
   have stt := ht' _ s8 ρ8 H8 _ I8 q8
   rw [ePr, ew, eA, exe] at stt
   refine thn stt fun ok s9 ⟨H9, I9, q9⟩ => ?_
   have hw8 : ρ8.length = (rho own.length F σ).length /\ ∀ (j : Nat) v, (rho own.length F σ)[j]? = some (some v) -> ρ8[j]? = some (some v) := q8'
   have onward : ∀ {s' : Shared} {ρ : St} {H' : Hp} {ys' : List V} {its' : List Value} {k' : Nat}, ρ.length = (rho own.length F σ).length -> (∀ (j : Nat) v, (rho own.length F σ)[j]? = some (some v) -> ρ[j]? = some (some v)) ->
     Inv X' (yW fp s7.heap) ρ H' s' -> H' D = none -> s'.heap.get? D = some { cls := .type "list", data := .seq its'.toArray k' } -> Vals ys' its' -> ys'.length <= sizeLine -> (∃ m', m' < n /\ W (i + 1) m' ys' H') -> ∃ m, m < n /\ Wn m s' :=
    fun {s' ρ H' ys' its' k'} hl hw J hn ho rv hz ⟨m', hm, w'⟩ => by
     refine ⟨m', hm, i + 1, ys', its', k', H', (pinD J hn ho).weak hl.symm hw, rv, hz, T.keep _ _ _ st7 fun b hb o e => (J.pin (b, o) (List.mem_append_right _ (bU hb e))).1, fun b hb => ?_, w'⟩
     obtain ⟨o, e, _⟩ := T.obj _ _ st7 b hb
     exact (J.pin (b, o) (List.mem_append_right _ (bU hb e))).2.1
   have noD : ∀ {ρ : St} {H' : Hp} {s' : Shared}, Inv X' ([(D, { cls := .type "list", data := .seq its.toArray k })] ++ yW fp s7.heap) ρ H' s' -> Inv X' (yW fp s7.heap) ρ H' s' /\ H' D = none /\ s'.heap.get? D = some { cls := .type "list", data := .seq its.toArray k } :=
    fun {ρ H' s'} J => by
     have pD := J.pin (D, { cls := .type "list", data := .seq its.toArray k }) (List.mem_append_right _ (List.mem_append_left _ (List.mem_cons_self ..)))
     exact ⟨J.pins_of fun p hp => J.pin p (List.mem_append_right _ (List.mem_append_right _ hp)), pD.2.1, pD.1⟩
   cases ok with
   | false =>
    obtain ⟨J, n9, o9⟩ := noD I9
    have q9' : ∃ m', m' < n /\ W (i + 1) m' ys H9 := by simpa using q9
    show ∃ m, m < n /\ Wn m s9
    exact onward hw8.1 hw8.2 J n9 o9 rv5 z5 q9'
   | true =>
    have q9' : te ρ8 H9 fun v H6 => ys.length < sizeLine /\ ∃ m', m' < n /\ W (i + 1) m' (ys ++ [v]) H6 := by simpa using q9
    have se := he' _ s9 ρ8 H9 _ I9 q9'
    rw [ePr, ew, eA, exe] at se
    refine thn se fun uv s10 ⟨v, H10, I10, rv, hz, qm⟩ => ?_
    obtain ⟨J, n10, o10⟩ := noD I10
    have hlen := rv5.length
    refine call_meets PySem.F.slot_list_append ⟨_, o10, rfl⟩ PySem.F.entry_list_append (PySem.F.args_list_append_2 _ _) (PySem.list_append D its.toArray k uv (by rw [List.size_toArray]; lia)) ⟨o10, ?_⟩
    have oN := PySem.IsL.update o10 (·.push uv)
    rw [show its.toArray.push uv = (its ++ [uv]).toArray by simp] at oN
    have kN : ∀ b o, b ≠ D -> s10.heap.get? b = some o -> (s10.heap.update D (Obj.mapSeq (·.push uv))).get? b = some o := fun b o hb q => (Heap.get?_update_other _ _ (Ne.symm hb)).trans q
    have JN := J.turned (t' := s10.toks) (it := D) kN n10 nLD (.inl (by rw [<- eX]; exact List.mem_cons_self ..)) (fun x c q => by
     rw [<- eX] at q
     exact fD.2.2.2.2.1 x c (c1 x c q)) (fun p hp => by
     have hpn : X'.pn = [] := by rw [<- eX]; rfl
     rw [hpn] at hp
     exact Nat.ne_of_lt (ltf p.1 (fz (by simpa using hp)).1))
    refine onward hw8.1 hw8.2 JN n10 (its' := its ++ [uv]) oN (rv5.append (.cons rv .nil)) (by rw [List.length_append, List.length_singleton]; lia) qm
 have fin := loop _ start
 rw [show X'.env = compEnvC scope cl C X.env by rw [<- eX]; rfl] at fin
 exact codeAny_compStart_list fin (T.self X.A 0 _ _ _ (T.keep _ _ _ st2 (fun b _ o q => k34 b o (k23 b o q))) fin)
theorem oH (S : yD X own F N scope) (hcm : X.calm = true) (hi : PI X tg iter wi) (hg : ∀ cl C ex s H, PG (yq X N scope cl C ex s H) tg g) (ht : ∀ cl C ex s H, PTs (yq X N scope cl C ex s H) ifs tc)
  (he : ∀ cl C ex s H, PE (yq X N scope cl C ex s H) elt te) (hgw : Stays own.length F g) (hs : ∀ x, foldedSetIterable iter X.env x = pure x := by intro _; rfl) : PE X (.ListComp elt [⟨tg, iter, ifs, 0⟩] scope pos) (zA own.length F wi g tc te) := by
 intro pins s σ H Q I h
 rw [eval_ListComp]
 refine ig (use := none) (Fin := fun ys H2 => ∀ D, H2 D = none -> Q (.ref D) (upd H2 D (.lst ys))) S hcm hi hg ht he hgw hs I h fun D C ys H' s' q hD J B ⟨m, hn⟩ => ?_
 exact ⟨m, hn, fun h' hs' => ⟨.ref D, _, J.beside B hs', rfl, q D hD⟩⟩
theorem oI {i : Nat} {y : Str} {py spos : Pos} (S : yD X own F N scope) (hcm : X.calm = true) (hi : PI X tg iter wi) (hg : ∀ cl C ex s H, PG (yq X N scope cl C ex s H) tg g) (ht : ∀ cl C ex s H, PTs (yq X N scope cl C ex s H) ifs tc)
  (he : ∀ cl C ex s H, PE (yq X N scope cl C ex s H) elt te) (hgw : Stays own.length F g) (hN : X.N.Nodup) (hy : X.N[i]? = some y) (hl : X.env.scope.names.lookup y = some .local)
  (hsw : swapsWith (.ListComp elt [⟨tg, iter, ifs, 0⟩] scope pos) (some (.Name y py)) spos.line X.env = pure true) (hs : ∀ x, foldedSetIterable iter X.env x = pure x := by intro _; rfl) :
  PS X (.Assign [.Name y py] (.ListComp elt [⟨tg, iter, ifs, 0⟩] scope pos) spos) (tAsg (zA own.length F wi g tc te) (z0 i)) := by
 intro pins s σ H D0 I h
 rw [exec_Assign_Name_used _ _ _ _ hsw]
 refine wpAny_bind (wpAny_standAt (wpAny_bind ?_))
 show wpAny _ X.A (do let _ <- comprehension (.ListComp elt [⟨tg, iter, ifs, 0⟩] scope pos) scope X.env _ (newList []) false (eval iter X.env) (some (assign (.Name y py) X.env))) _ _ s
 refine wpAny_bind (wpAny_mono (ig (use := some (assign (.Name y py) X.env)) (Qv := fun _ s' => SP X pins D0 .next s') (Fin := fun ys H2 => ∀ D, H2 D = none -> D0.nx (σ.set i (some (.ref D))) (upd H2 D (.lst ys))) S hcm hi hg ht he hgw hs I h fun D C ys H' s' q hD J B ⟨m, hn⟩ => ?_)
  (fun _ s' hq => wpAny_pure (wpAny_pure hq)) fun _ _ z => z)
 show wpAny _ X.A (assign (.Name y py) X.env (.ref D)) _ _ s'
 refine wpAny_assign_Name (i4 J hN hy (.inl hl) (v := .ref D) rfl (fun s2 J2 ⟨a, sb, ha⟩ => ?_) (.inr hl))
 have hCa : C ≠ a := by
  rcases ha with z | z
  ·subst z; exact B.hL
  ·exact (B.h2 _ _ z).symm
 exact ⟨m, hn.sameBut sb hCa, fun h' hs' => ⟨_, _, J2.beside ⟨B.hn, B.hL, B.h1, B.h2, B.h3⟩ hs', q D hD⟩⟩
end
abbrev TuT (H : Hp) (a : Addr) (xs : List V) : Prop := H a = some (.tup xs)
noncomputable def keyD : Key -> PyData
 | .inl i => .int i
 | .inr x => .str x
mutual
inductive Dt (K : W.Frag) (H : Hp) : V -> PyData -> Prop
 | non : Dt K H .non .none
 | bl (b : Bool) : Dt K H (.bl b) (.bool b)
 | int (i : Int) : Dt K H (.int i) (.int i)
 | str (x : Str) : Dt K H (.str x) (.str x)
 | lst {a : Addr} {xs : List V} {ds : yb} : SqR K H a xs -> Dts K H xs ds -> Dt K H (.ref a) (.list ds)
 | tup {a : Addr} {xs : List V} {ds : yb} : TuT H a xs -> Dts K H xs ds -> Dt K H (.ref a) (.tuple ds)
 | dct {a : Addr} {kvs : List (Key × V)} {es : List (PyData × PyData)} : H a = some (.dK kvs) -> Des K H kvs es -> Dt K H (.ref a) (.dict es)
inductive Dts (K : W.Frag) (H : Hp) : List V -> yb -> Prop
 | nil : Dts K H [] []
 | cons {x : V} {xs : List V} {d : PyData} {ds : yb} : Dt K H x d -> Dts K H xs ds -> Dts K H (x :: xs) (d :: ds)
inductive Des (K : W.Frag) (H : Hp) : List (Key × V) -> List (PyData × PyData) -> Prop
 | nil : Des K H [] []
 | cons {k : Key} {v : V} {kvs : List (Key × V)} {d : PyData} {es : List (PyData × PyData)} : Dt K H v d -> Des K H kvs es -> Des K H ((k, v) :: kvs) ((keyD k, d) :: es)
end
theorem Same.tup {K : W.Frag} {H H' : Hp} {a : Addr} {xs : List V} (e : Same H H') (h : TuT H a xs) : SqT K H' a xs := .of (e _ _ h)
theorem Same.rd {H H' : Hp} {a : Addr} {u : HO} (e : Same H H') (h : Rd H a u) : Rd H' a u := by
 rcases h with h | ⟨o, h⟩
 ·exact .inl (e _ _ h)
 ·exact .inr ⟨o, e _ _ h⟩
theorem Same.sqr {K : W.Frag} {H H' : Hp} {a : Addr} {xs : List V} (e : Same H H') (h : SqR K H a xs) : SqR K H' a xs := by
 rcases h with h | h
 ·exact .inl (e.rd h)
 ·exact .inr h
theorem SqR.sq {K : W.Frag} {H : Hp} {a : Addr} {xs : List V} (h : SqR K H a xs) : SqL K H a xs := by
 rcases h with h | ⟨its, n, h1, h2, h3⟩
 ·exact .inl h
 ·exact .inr ⟨_, its, n, h1, rfl, rfl, rfl, h2, h3⟩
theorem SqR.of {K : W.Frag} {H : Hp} {a : Addr} {xs : List V} (h : H a = some (.lst xs)) : SqR K H a xs := .inl (.inl h)
section
variable {K : W.Frag} {H H' : Hp}
mutual
theorem Dt.mono (e : Same H H') : ∀ {v : V} {d : PyData}, Dt K H v d -> Dt K H' v d
 | _, _, .non => .non
 | _, _, .bl b => .bl b
 | _, _, .int i => .int i
 | _, _, .str x => .str x
 | _, _, .lst q r => .lst (e.sqr q) (Dts.mono e r)
 | _, _, .tup q r => .tup (e _ _ q) (Dts.mono e r)
 | _, _, .dct q r => .dct (e _ _ q) (Des.mono e r)
theorem Dts.mono (e : Same H H') : ∀ {vs : List V} {ds : yb}, Dts K H vs ds -> Dts K H' vs ds
 | _, _, .nil => .nil
 | _, _, .cons x r => .cons (Dt.mono e x) (Dts.mono e r)
theorem Des.mono (e : Same H H') : ∀ {vs : List (Key × V)} {ds : List (PyData × PyData)}, Des K H vs ds -> Des K H' vs ds
 | _, _, .nil => .nil
 | _, _, .cons x r => .cons (Dt.mono e x) (Des.mono e r)
end
theorem Dts.len : ∀ {vs : List V} {ds : yb}, Dts K H vs ds -> vs.length = ds.length
 | _, _, .nil => rfl
 | _, _, .cons _ r => by rw [List.length_cons, List.length_cons, Dts.len r]
theorem Dts.append : ∀ {vs ws : List V} {ds es : yb}, Dts K H vs ds -> Dts K H ws es -> Dts K H (vs ++ ws) (ds ++ es)
 | _, _, _, _, .nil, s => s
 | _, _, _, _, .cons x r, s => .cons x (Dts.append r s)
theorem Dts.get' : ∀ {vs : List V} {ds : yb} {i : Nat} {d : PyData}, Dts K H vs ds -> ds[i]? = some d -> ∃ v, vs[i]? = some v /\ Dt K H v d
 | _, _, _, _, .nil, e => by simp at e
 | _, _, 0, _, .cons x _, e => by simp at e; subst e; exact ⟨_, rfl, x⟩
 | _, _, i + 1, d, .cons _ r, e => by
  obtain ⟨v, h1, h2⟩ := Dts.get' (i := i) (d := d) r (by simpa using e)
  exact ⟨v, by simpa using h1, h2⟩
theorem Dts.take : ∀ {vs : List V} {ds : yb} (n : Nat), Dts K H vs ds -> Dts K H (vs.take n) (ds.take n)
 | _, _, 0, _ => .nil
 | _, _, _ + 1, .nil => .nil
 | _, _, n + 1, .cons x r => .cons x (Dts.take n r)
theorem Dts.drop : ∀ {vs : List V} {ds : yb} (n : Nat), Dts K H vs ds -> Dts K H (vs.drop n) (ds.drop n)
 | _, _, 0, h => h
 | _, _, _ + 1, .nil => .nil
 | _, _, n + 1, .cons _ r => Dts.drop n r
theorem Dts.ints : ∀ (ns : List Int), Dts K H (ns.map V.int) (ns.map PyData.int)
 | [] => .nil
 | n :: r => .cons (.int n) (Dts.ints r)
theorem Dts.rep {v : V} {d : PyData} (h : Dt K H v d) : ∀ n, Dts K H (List.replicate n v) (List.replicate n d)
 | 0 => .nil
 | n + 1 => by rw [List.replicate_succ, List.replicate_succ]; exact .cons h (Dts.rep h n)
theorem Dts.reps {vs : List V} {ds : yb} (h : Dts K H vs ds) : ∀ n, Dts K H (List.replicate n vs).flatten (List.replicate n ds).flatten
 | 0 => .nil
 | n + 1 => by rw [List.replicate_succ, List.replicate_succ, List.flatten_cons, List.flatten_cons]; exact h.append (Dts.reps h n)
end
section
variable {X : Cx} {pins : yd} {σ : St} {H : Hp} {s : Shared}
mutual
theorem Dt.reads (I : Inv X pins σ H s) : ∀ {v : V} {d : PyData} {u : Value}, Dt X.K H v d -> d.canLay0 = true -> RelV v u -> ∃ as, Reads s.heap u d as
 | _, _, u, .non, _, r => by cases (show u = Value.none from r); exact ⟨_, Reads.none⟩
 | _, _, u, .bl b, _, r => by cases (show u = Value.bool b from r); exact ⟨_, Reads.bool b⟩
 | _, _, u, .int i, _, r => by obtain ⟨t, e⟩ := (show ∃ t, u = Value.int i t from r); cases e; exact ⟨_, Reads.int i t⟩
 | _, _, u, .str x, _, r => by obtain ⟨t, e⟩ := (show ∃ t, u = Value.str x t from r); cases e; exact ⟨_, Reads.str x t⟩
 | _, _, u, .lst (a := a) q z, c, r => by
  cases (show u = Value.ref a from r)
  obtain ⟨its, rv, ⟨o, n, h1, h2, _, h4⟩, _⟩ := I.list (SqR.sq q)
  obtain ⟨as, ra⟩ := Dts.reads I z (show PyData.canLayAll0 _ = true from c) rv
  exact ⟨_, reads_list_at h1 h2 h4 (by simpa using ra)⟩
 | _, _, u, .tup (a := a) q z, c, r => by
  cases (show u = Value.ref a from r)
  obtain ⟨its, rv, ⟨o, h1, h2, n, h4⟩, _⟩ := I.tuple (.of q)
  obtain ⟨as, ra⟩ := Dts.reads I z (show PyData.canLayAll0 _ = true from c) rv
  exact ⟨_, reads_tuple_at h1 h2 h4 (by simpa using ra)⟩
 | _, _, u, .dct q z, c, r => by exact absurd c (by simp [PyData.canLay0])
theorem Dts.reads (I : Inv X pins σ H s) : ∀ {vs : List V} {ds : yb} {us : List Value}, Dts X.K H vs ds -> PyData.canLayAll0 ds = true -> Vals vs us -> ∃ as, ReadsAll s.heap us ds as
 | _, _, _, .nil, _, .nil => ⟨_, ReadsAll.nil⟩
 | _, _, _, .cons x z, c, .cons r rs => by
  have c' := Bool.and_eq_true_iff.mp (show (PyData.canLay0 _ && PyData.canLayAll0 _) = true from c)
  obtain ⟨as, h1⟩ := Dt.reads I x c'.1 r
  obtain ⟨bs, h2⟩ := Dts.reads I z c'.2 rs
  exact ⟨_, ReadsAll.cons h1 h2⟩
end
end
theorem gp {α β : Type} {F : α -> β -> Prop} : ∀ {xs : List α} {ys : List β} {i : Nat} {x : α}, Paired F xs ys -> xs[i]? = some x -> ∃ y, ys[i]? = some y /\ F x y
 | _, _, _, _, .nil, e => by simp at e
 | _, _, 0, _, .cons r _, e => by simp at e; subst e; exact ⟨_, rfl, r⟩
 | _, _, i + 1, x, .cons _ t, e => by
  obtain ⟨u, h1, h2⟩ := gp (i := i) (x := x) t (by simpa using e)
  exact ⟨u, by simpa using h1, h2⟩
theorem fP : ∀ {xs : List V} {us : List Value}, xs.length = us.length -> (∀ (j : Nat) x u, xs[j]? = some x -> us[j]? = some u -> RelV x u) -> Vals xs us
 | [], [], _, _ => .nil
 | [], _ :: _, h, _ => by simp at h
 | _ :: _, [], h, _ => by simp at h
 | x :: xs, u :: us, h, k => .cons (k 0 x u rfl rfl) (fP (by simpa using h) fun j y v e1 e2 => k (j + 1) y v (by simpa using e1) (by simpa using e2))
section
variable {X : Cx}
noncomputable def rEqD (K : W.Frag) (neg : Bool) : R2 := fun x y H Q => ∃ d e, Dt K H x d /\ Dt K H y e /\ SeqAt.shaped d = true /\ SeqAt.shaped e = true /\ Q (.bl (if neg then !PyData.eqv d e else PyData.eqv d e)) H
theorem rK (hu : X.A.units + 64 < cLine) : OpR X (compareOp .Eq) (rEqD X.K false) := by
 intro pins s σ H x y v u Q I rx ry h
 obtain ⟨d, e, hd, he, sd, se, q⟩ := h
 obtain ⟨as, ra⟩ := hd.reads I (SeqAt.canLay_of_shaped sd) rx
 obtain ⟨bs, rb⟩ := he.reads I (SeqAt.canLay_of_shaped se) ry
 exact eq_dataH ra rb sd se hu ⟨.bl (PyData.eqv d e), H, I, rfl, q⟩
theorem rL (hu : X.A.units + 64 < cLine) : OpR X (compareOp .NotEq) (rEqD X.K true) := by
 intro pins s σ H x y v u Q I rx ry h
 obtain ⟨d, e, hd, he, sd, se, q⟩ := h
 obtain ⟨as, ra⟩ := hd.reads I (SeqAt.canLay_of_shaped sd) rx
 obtain ⟨bs, rb⟩ := he.reads I (SeqAt.canLay_of_shaped se) ry
 exact ne_dataH ra rb sd se hu ⟨.bl (!PyData.eqv d e), H, I, rfl, q⟩
theorem iH : yG X (.builtin "sorted") (fun xs H Q => ∃ a ns, xs = [.ref a] /\ SqL X.K H a (ns.map V.int) /\ ns.length < 64 /\ ∀ (ns' : List Int) p, ns'.Perm ns -> ns'.Pairwise (· <= ·) -> H p = none -> Q (.ref p) (upd H p (.lst (ns'.map V.int)))) := by
 intro pins s σ H xs us Q I r h
 obtain ⟨a, ns, rfl, hq, h64, q⟩ := h
 obtain ⟨u, rfl, r1⟩ := vals1 r
 cases r1
 obtain ⟨its, rv, pl, hz⟩ := I.list hq
 have hI := jR rv
 have hl : its.length < 64 := by rw [<- rv.length, List.length_map]; exact h64
 refine sorted_ints pl.isList hI hl fun out ns' a1 a2 a3 => ?_
 obtain ⟨e, he⟩ := sortedAll_at s.heap its out
 refine ⟨.ref (s.heap.objs.size + 1), _, I.laid (t' := s.toks) (fun _ _ => sortedAll_old) (Nat.le_succ _) ?_, rfl, q ns' _ a2 a3 (I.hok.fresh (Nat.le_succ _))⟩
 refine ⟨?_, out.toList, e, fA a1, he⟩
 rw [List.length_map, a2.length_eq]
 exact Nat.le_trans (Nat.le_of_lt h64) (by decide)
end
end L2
namespace L2
open PySem PySem.Spec PyProof.Rows
theorem yz.obj {P : Program} {w : World} {H : Hp} {h : Heap} {a : Addr} {o : HO} (x : yz P w H h a o) : ∃ ob, h.get? a = some ob := by
 cases o with
 | lst xs => obtain ⟨_, _, _, _, e⟩ := x; exact ⟨_, e⟩
 | tup xs => obtain ⟨_, _, _, o, e, _⟩ := x; exact ⟨_, e⟩
 | dK kvs => obtain ⟨_, _, _, _, o, _, _, e, _⟩ := x; exact ⟨_, e⟩
 | dT kvs => obtain ⟨_, _, _, _, o, _, _, e, _⟩ := x; exact ⟨_, e⟩
 | set S n => obtain ⟨o, _, _, _, e, _⟩ := x; exact ⟨_, e⟩
 | ins C dx fs => obtain ⟨_, _, _, e, _⟩ := x; exact ⟨_, e⟩
 | own y => exact x
 | xd fs => obtain ⟨_, ⟨_, _, _, e, _⟩, _⟩ := x; exact ⟨_, e⟩
 | rng lo hi => obtain ⟨_, _, _, e⟩ := x; exact ⟨_, e⟩
 | frz ob u => obtain ⟨e, _⟩ := x; exact ⟨_, e⟩
 | tbl ps => exact ⟨_, x⟩
 | met f y => exact ⟨_, x⟩
 | ext φ => obtain ⟨_, e, _⟩ := x; exact e
structure Flew (P : Program) (w : World) (outer : List Env) (H : Hp) (s : Shared) (H' : Hp) (ea : Addr) (C : Value) (s' : Shared) : Prop where
 os : s'.os = s.os
 bare : AllBare s'.gens
 un : Un (frs outer) [] H H' s.heap s'.heap
 hok : HOk P w H' s'.heap
 frf : ∀ b ∈ frs outer, H' b = none
 fly : ∃ B t, Heap.FlyingW B outer ea C (.ref t) s'.heap /\ ∀ b o, s'.heap.get? b = some o -> b ∉ frs outer -> ((∃ o', s.heap.get? b = some o') \/ H' b ≠ none) -> B.get? b = some o
noncomputable def CXe (P : Program) (w : World) : CXT := fun outer H s E e s' => ∃ ea C H', e = .ref ea /\ Flew P w outer H s H' ea C s' /\ E C none H'
theorem HOk.stays {P : Program} {w : World} {H : Hp} {h1 h2 : Heap} (x : HOk P w H h1) (hk : ∀ b o u, H b = some u -> h1.get? b = some o -> h2.get? b = some o) : HOk P w H h2 := fun a o e => by
 refine (x a o e).stay (fun c q hc e' => ?_) (fun _ q => q) fun _ _ q => q
 rcases hc with z | z
 ·subst z; exact hk _ _ _ e e'
 ·exact hk _ _ _ z e'
section
variable {P : Program} {w : World} {outer : List Env} {H H' : Hp} {s s' : Shared} {ea : Addr} {C : Value}
theorem Flew.step (F : Flew P w outer H s H' ea C s') {B h2 : Heap} (kB : ∀ b o, s'.heap.get? b = some o -> b ∉ frs outer -> ((∃ o', s.heap.get? b = some o') \/ H' b ≠ none) -> B.get? b = some o)
  (fr : s'.heap.FunFrames B outer) (st : B.StaysIn h2) (up : s'.heap.UpToSlots h2) : Un (frs outer) [] H H' s.heap h2 /\ HOk P w H' h2 := by
 have sl : ∀ b o, b ∈ frs outer -> s'.heap.get? b = some o -> ∃ l, h2.get? b = some { o with slots := l } := fun b o hb e => by
  obtain ⟨_, o', e', nf⟩ := fr.mem hb
  rw [e] at e'
  cases e'
  exact up b o e nf
 refine ⟨⟨fun b o e n hb hx => ?_, fun b o e n hb hx => ?_, F.un.free, fun b o e hx => ?_, F.un.tups, F.un.frzs, F.un.tbls⟩, F.hok.stays fun b o u e e' => ?_⟩
 ·exact st b o (kB b o (F.un.keep b o e n hb hx) hb (.inl ⟨_, e⟩))
 ·obtain ⟨l, q⟩ := F.un.slot b o e n hb hx
  obtain ⟨l', q'⟩ := sl b _ hb q
  exact ⟨l', q'⟩
 ·obtain ⟨o', q⟩ := F.un.there b o e hx
  by_cases hb : b ∈ frs outer
  ·obtain ⟨l, q'⟩ := sl b _ hb q
   exact ⟨_, q'⟩
  ·exact ⟨o', st b o' (kB b o' q hb (.inl ⟨_, e⟩))⟩
 ·refine st b o (kB b o e' (fun z => ?_) (.inr (by rw [e]; simp)))
  rw [F.frf b z] at e
  cases e
theorem Flew.new (F : Flew P w outer H s H' ea C s') : s.heap.get? ea = none /\ H' ea = none := by
 obtain ⟨B, t, fl, kB⟩ := F.fly
 obtain ⟨ob, ho, _⟩ := fl.there
 have nfr : ea ∉ frs outer := fun z => by
  obtain ⟨_, _, fr, oe, vs, T, oT, ts, a1, _, a3, _⟩ := fl
  obtain ⟨_, o', e', nf⟩ := fr.mem z
  rw [a1] at e'
  cases e'
  exact nf _ a3
 constructor
 ·cases e : s.heap.get? ea with
  | none => rfl
  | some o' =>
   have := kB ea ob ho nfr (.inl ⟨_, e⟩)
   rw [fl.2.1] at this
   cases this
 ·cases e : H' ea with
  | none => rfl
  | some u =>
   have := kB ea ob ho nfr (.inr (by rw [e]; simp))
   rw [fl.2.1] at this
   cases this
end
noncomputable def Wish (X : Cx) (E : XK) : Prop := ∀ (pins : yd) (σ : St) (H : Hp) (s : Shared) (ea : Addr) (C : Value) (vs : List Value) (h' : Heap), Inv X pins σ H s -> Heap.MadeExcOf s.heap h' ea C vs -> E C none H -> X.xe (.ref ea) { s with heap := h' }
section
variable {P : Program} {w : World} {K : W.Frag} {mg : yc} {base : Heap} {N : List Str} {qual : Str} {scope : Scope} {f : Addr} {cd : Value} {A : Around} {outer : List Env} {s0 : Shared} {H0 : Hp} {E : XK}
abbrev cxE (P : Program) (w : World) (K : W.Frag) (mg : yc) (base : Heap) (N : List Str) (qual : Str) (scope : Scope) (f : Addr) (cd : Value) (A : Around) (outer : List Env) (s0 : Shared) (H0 : Hp) (E : XK) : Cx :=
 cxOf (CXe P w) P w K mg base N qual scope f cd A outer s0 H0 E
theorem gq {en : Env} {L : Addr} (h : en.frame = some L) {b : Addr} : b ∈ frs (en :: outer) ↔ b = L \/ b ∈ frs outer := by
 unfold frs
 rw [List.filterMap_cons, h]
 exact List.mem_cons
theorem cV : Wish (cxE P w K mg base N qual scope f cd A outer s0 H0 E) E := by
 intro pins σ H s ea C vs h' I hx q
 have hfr : (A.deeper (envOfC qual scope s0.heap.objs.size f cd)).frames = some (envOfC qual scope s0.heap.objs.size f cd :: outer) := I.ok.frames
 have fun0 : s.heap.FunFrames base (envOfC qual scope s0.heap.objs.size f cd :: outer) := I.stack
 have sfr : ∀ b ∈ frs (envOfC qual scope s0.heap.objs.size f cd :: outer), H b = none := I.stkFree
 have un0 : Un (frs outer) [] H0 H s0.heap s.heap := I.base
 have hok : HOk P w H s.heap := I.hok
 have eos : s.os = s0.os := I.os
 have fc : ∀ {b : Addr}, b ∈ frs (envOfC qual scope s0.heap.objs.size f cd :: outer) ↔ b = s0.heap.objs.size \/ b ∈ frs outer := fun {b} => gq rfl
 have hin : ∀ env ∈ (envOfC qual scope s0.heap.objs.size f cd :: outer), ∀ b, env.frame = some b -> b ∈ frs (envOfC qual scope s0.heap.objs.size f cd :: outer) := fun env he b hb => List.mem_filterMap.mpr ⟨env, he, hb⟩
 show wpAny (model P w) (A.deeper (envOfC qual scope s0.heap.objs.size f cd)) (leaving (envOfC qual scope s0.heap.objs.size f cd) (.ref ea)) _ _ { s with heap := h' }
 refine wpAny_leaves_madeW (base := W.hideAll s.heap (frs (envOfC qual scope s0.heap.objs.size f cd :: outer))) (h := s.heap) hfr rfl (fun b o e => W.of_hideAll _ e) (W.funFrames_hide fun0 hin) hx fun h2 t fl _ _ up => ?_
 have keep2 : ∀ b o, s.heap.get? b = some o -> b ∉ frs (envOfC qual scope s0.heap.objs.size f cd :: outer) -> h2.get? b = some o := fun b o e hb => fl.1 b o (W.hideAll_get _ e hb)
 have slot2 : ∀ b o, b ∈ frs outer -> s.heap.get? b = some o -> ∃ l, h2.get? b = some { o with slots := l } := fun b o hb e => by
  obtain ⟨_, o', e', nf⟩ := fun0.mem (fc.mpr (.inr hb))
  rw [e] at e'
  cases e'
  exact up b o (hx.keeps b o e) nf
 have out0 : ∀ b o, s0.heap.get? b = some o -> b ∉ frs outer -> b ∉ frs (envOfC qual scope s0.heap.objs.size f cd :: outer) := fun b o e hb z => by
  rcases fc.mp z with y | y
  ·exact absurd (Heap.lt_size e) (by rw [y]; exact Nat.lt_irrefl _)
  ·exact hb y
 have outT : ∀ b u, H b = some u -> b ∉ frs (envOfC qual scope s0.heap.objs.size f cd :: outer) := fun b u e z => by
  rw [sfr b z] at e
  cases e
 refine ⟨ea, C, H, rfl, ⟨eos, I.bare, ⟨fun b o e n hb hx' => ?_, fun b o e n hb hx' => ?_, un0.free, fun b o e hx' => ?_, un0.tups, un0.frzs, un0.tbls⟩, hok.stays fun b o u e e' => keep2 b o e' (outT b u e), fun b hb => sfr b (fc.mpr (.inr hb)), ?_⟩, q⟩
 ·exact keep2 b o (un0.keep b o e n hb hx') (out0 b o e hb)
 ·obtain ⟨l, z⟩ := un0.slot b o e n hb hx'
  obtain ⟨l', z'⟩ := slot2 b _ hb z
  exact ⟨l', z'⟩
 ·obtain ⟨o', z⟩ := un0.there b o e hx'
  by_cases hb : b ∈ frs outer
  ·obtain ⟨l, z'⟩ := slot2 b _ hb z
   exact ⟨_, z'⟩
  ·exact ⟨o', keep2 b o' z (out0 b o e hb)⟩
 ·refine ⟨_, t, fl, fun b o e hb hc => ?_⟩
  have old : ∀ o', s.heap.get? b = some o' -> b ∉ frs (envOfC qual scope s0.heap.objs.size f cd :: outer) -> (W.hideAll s.heap (frs (envOfC qual scope s0.heap.objs.size f cd :: outer))).get? b = some o := fun o' e' hb' => by
   have e2 := keep2 b o' e' hb'
   have e3 : some o = some o' := e.symm.trans e2
   rw [Option.some.inj e3]
   exact W.hideAll_get _ e' hb'
  rcases hc with ⟨o0, e0⟩ | z
  ·obtain ⟨o', z⟩ := un0.there b o0 e0 (by simp)
   exact old o' z (out0 b o0 e0 hb)
  ·cases e1 : H b with
   | none => exact absurd e1 z
   | some u =>
    obtain ⟨o', z'⟩ := (hok b u e1).obj
    exact old o' z' (outT b u e1)
theorem yC : Passes (CXe P w) (cxE P w K mg base N qual scope f cd A outer s0 H0 E) E := by
 intro pins σ H s e s' I h
 obtain ⟨ea, C, H', rfl, F, q⟩ := h
 have F : Flew P w (envOfC qual scope s0.heap.objs.size f cd :: outer) H s H' ea C s' := F
 have hfr : (A.deeper (envOfC qual scope s0.heap.objs.size f cd)).frames = some (envOfC qual scope s0.heap.objs.size f cd :: outer) := I.ok.frames
 have un0 : Un (frs outer) [] H0 H s0.heap s.heap := I.base
 have eos : s.os = s0.os := I.os
 have fc : ∀ {b : Addr}, b ∈ frs (envOfC qual scope s0.heap.objs.size f cd :: outer) ↔ b = s0.heap.objs.size \/ b ∈ frs outer := fun {b} => gq rfl
 obtain ⟨B, t, fl, kB⟩ := F.fly
 show wpAny (model P w) (A.deeper (envOfC qual scope s0.heap.objs.size f cd)) (leaving (envOfC qual scope s0.heap.objs.size f cd) (.ref ea)) _ _ s'
 refine wpAny_leaves_onW hfr rfl fl fun h2 fl2 up => ?_
 obtain ⟨u2, ok2⟩ := F.step kB fl.2.2.1 fl2.1 up
 have out0 : ∀ b o, s0.heap.get? b = some o -> b ∉ frs outer -> b ∉ frs (envOfC qual scope s0.heap.objs.size f cd :: outer) := fun b o e hb z => by
  rcases fc.mp z with y | y
  ·exact absurd (Heap.lt_size e) (by rw [y]; exact Nat.lt_irrefl _)
  ·exact hb y
 have un1 : Un (frs (envOfC qual scope s0.heap.objs.size f cd :: outer)) [] H0 H s0.heap s.heap := un0.mono (fun b hb => fc.mpr (.inr hb)) fun b hb => hb
 have un2 := un1.trans u2
 refine ⟨ea, C, H', rfl, ⟨F.os.trans eos, F.bare, ⟨fun b o e n hb hx' => un2.keep b o e n (out0 b o e hb) hx', fun b o e n hb hx' => un2.slot b o e n (fc.mpr (.inr hb)) hx', un2.free, un2.there, un2.tups, un2.frzs, un2.tbls⟩, ok2, fun b hb => F.frf b (fc.mpr (.inr hb)), B, t, fl2, fun b o e hb hc => ?_⟩, q⟩
 have inB : ∀ o', s'.heap.get? b = some o' -> b ∉ frs (envOfC qual scope s0.heap.objs.size f cd :: outer) -> ((∃ o1, s.heap.get? b = some o1) \/ H' b ≠ none) -> B.get? b = some o := fun o' e' hb' hc' => by
  have e2 := kB b o' e' hb' hc'
  have e3 : some o = some o' := e.symm.trans (fl2.1 b o' e2)
  rw [Option.some.inj e3]
  exact e2
 rcases hc with ⟨o0, e0⟩ | z
 ·obtain ⟨o1, e1⟩ := un0.there b o0 e0 (by simp)
  obtain ⟨o2, e2⟩ := F.un.there b o1 e1 (by simp)
  exact inB o2 e2 (out0 b o0 e0 hb) (.inl ⟨_, e1⟩)
 ·cases e1 : H' b with
  | none => exact absurd e1 z
  | some u =>
   obtain ⟨o', z'⟩ := (F.hok b u e1).obj
   refine inB o' z' (fun y => ?_) (.inr z)
   rw [F.frf b y] at e1
   cases e1
end
section
variable {P : Program} {w : World} {K : W.Frag} {mg : yc} {base : Heap}
theorem Fun.okE {x qual : Str} {st : Stmt} {f : Addr} {fd : FuncData} {N ps : List Str} {k : Nat} {sp : Sp} (F : Fun K x qual st f fd) (S : yn N ps (yf st)) (len : ∀ vs H Q E, sp vs H Q E -> vs.length = ps.length)
  (hbody : ∀ (cdv : Value) (A : Around) (outer : List Env) (s : Shared) (H : Hp) (vs : List V) (Q : VK) (E : XK), Room k (A.deeper (envOfC qual (yf st) s.heap.objs.size f cdv)) -> sp vs H Q E ->
   ∃ t, PSs (cxE P w K mg base N qual (yf st) f cdv A outer s H E) (yg st) t /\ t { nx := fun _ H' => Q .non H', rt := Q } (start N vs) H) : FnOk P w K mg base (CXe P w) (k + 1) f fd ps sp := by
 obtain ⟨oc, od, kV, doc, pm, an, cdv, ct, osl, rfl, lk, hcd⟩ := F.ex
 exact uU lk hcd S len fun A outer s H vs Q E hr hsp => hbody cdv A outer s H vs Q E hr hsp
end
theorem lU {K : W.Frag} {h : Heap} {C : Addr} {bmB : List Value} {newId : String} (X : K.In h) (q : PySem.W.excIn K C bmB newId = true) :
  ∃ bm N nm qn bs hdct sn sub ab col dd k0 k1 k2 k3 k5 mN, h.get? C = some (excClassObj nm qn C N bs bm hdct sn sub ab col dd k0 k1 k2 k3 k5 newId) /\ h.Ns N mN /\ mN "__init__" = none /\ OwnTail h bmB bm := by
 unfold PySem.W.excIn at q
 split at q
 next dd cd sl ho =>
  split at q
  next C' bm k0 k1 k2 k3 n k5 hm hs =>
   simp only [Bool.and_eq_true, beq_iff_eq, Bool.not_eq_true'] at q
   obtain ⟨⟨⟨⟨⟨e1, e2⟩, hdel⟩, ht⟩, hok⟩, hni⟩ := q
   subst e1 e2
   obtain ⟨nm, bs, mro, ns, qn, hd, sn, sub, ab, col, del⟩ := cd
   simp only at hm hdel hok hni
   subst hm hdel
   obtain ⟨l⟩ := sl
   simp only at hs
   subst hs
   exact ⟨bm, ns, nm, qn, bs, hd, sn, sub, ab, col, dd, k0, k1, k2, k3, k5, _, X _ _ ho, .of_isNs (W.isNs_of_in X hok), W.nsMap_none_of_in X hok hni, W.tail_of_in X ht⟩
  next => cases q
 next => cases q
section
variable {X : Cx} {x : Str} {C : Addr} {B newId initId : String} {bmB : List Value} {E : XK} {t : TA} {e : Expr} {es : List Expr} {np cpos pos : Pos}
noncomputable def AB (C : Addr) (E : XK) (t : TA) : TS := fun _ σ H => t σ H fun vs H1 => vs.length <= sizeLine /\ E (.ref C) none H1
theorem mZ (W : Wish X E) (hc : X.calm = true) (FB : ExcBaseFacts B newId initId bmB) (hg : Gl X x) (hm : X.mg x = some (.ref C)) (hx : PySem.W.excIn X.K C bmB newId = true) (ha : PA X (e :: es) t)
  (hd : (x == ("__debug__" : Str)) = false := by decide) (hst : starEach (e :: es) X.env = (false, eval e X.env) :: starEach es X.env := by rfl) (hpl : (backTo cpos (starEach es X.env)).any (·.1) = false := by rfl) :
  PS X (.Raise (some (.Call (.Name x np) (e :: es) [] cpos)) none pos) (AB C E t) := by
 intro pins s σ H D I h
 obtain ⟨bm, N, nm, qn, bs, hdct, sn, sub, ab, col, dd, k0, k1, k2, k3, k5, mN, hC, hN, hni, T⟩ := lU I.mod.kin hx
 refine wpAny_Raise_call_subT (C := C) (nm := nm) (q := qn) (N := N) (bs := bs) (bm := bm) (hdct := hdct) (sn := sn) (sub := sub) (ab := ab) (col := col) (dd := dd) (k0 := k0) (k1 := k1) (k2 := k2) (k3 := k3) (k5 := k5)
  FB (mN := mN) (T.hasType FB.hasBase) (I.ok.hd hc) ?_ hni (eG I hg hm ⟨rfl, ?_⟩ hd)
 ·rw [hst]
  show (false || (backTo cpos (starEach es X.env)).any (·.1)) = false
  rw [hpl]
  rfl
 ·have sp := ha cpos pins s σ H _ I h
  rw [hst] at sp ⊢
  refine Calls.evalArgs_plain (wpAny_mono sp (fun us s2 ⟨vs, H2, I2, rv, hz, q⟩ => ?_) fun _ _ z => z)
  have kp := I2.bk
  exact ⟨rfl, by rw [<- rv.length]; exact hz, kp _ _ hC, hN.keeps kp, T.keeps kp, fun h' ea mk => W pins σ H2 s2 ea (.ref C) us h' I2 mk q⟩
end
noncomputable def zk (X : Cx) (ea : Addr) : Cx := { X with A := X.A.mark (some (.ref ea)), calm := false, xe := fun _ _ => False }
theorem Inv.hand {X : Cx} {pins : yd} {σ : St} {H : Hp} {s : Shared} (I : Inv X pins σ H s) (ea : Addr) : Inv (zk X ea) pins σ H s :=
 ⟨⟨I.ok.mod, I.ok.kind, I.ok.glob, I.ok.blt, I.ok.above, I.ok.inj, I.ok.has, I.ok.cab, (fun z => nomatch z), I.ok.frames, I.ok.stk, I.ok.exf, I.ok.bs, I.ok.bsz, I.ok.noex, I.ok.exfs, I.ok.funs, I.ok.frf⟩,
  I.os, I.bare, I.base, I.loc, I.cell, I.free, I.freeC, I.pin, I.hok, I.len⟩
theorem Inv.unhand {X : Cx} {pins : yd} {σ : St} {H : Hp} {s s0 : Shared} {σ0 : St} {H0 : Hp} {pins0 : yd} (J : Inv X pins0 σ0 H0 s0) {ea : Addr} (I : Inv (zk X ea) pins σ H s) : Inv X pins σ H s :=
 ⟨J.ok, I.os, I.bare, I.base, I.loc, I.cell, I.free, I.freeC, I.pin, I.hok, I.len⟩
noncomputable def excO (ea : Addr) (C : Value) : HO := .ext fun h => ∃ o, h.get? ea = some o /\ o.cls = C
theorem Inv.track {X : Cx} {pins : yd} {σ σ1 : St} {H H1 : Hp} {s s1 : Shared} {a : Addr} {o : HO} (I : Inv X pins σ H s) (I1 : Inv X pins σ1 H1 s1) (ha : s1.heap.get? a = none) (hn : H a = none)
  (new : yz X.prog X.w (upd H a o) s.heap a o) : Inv X pins σ (upd H a o) s := by
 have ne : ∀ {b : Addr} {ob : Obj}, s1.heap.get? b = some ob -> b ≠ a := fun {b ob} e z => by
  subst z
  rw [ha] at e
  cases e
 refine ⟨I.ok, I.os, I.bare, ⟨I.base.keep, I.base.slot, fun b ob e n x => ?_, I.base.there, fun b xs e => ?_, fun b ob u e => ?_, fun b ps e => ?_⟩, I.loc, I.cell, ?_, fun x c e => ?_, fun p hp => ?_, I.hok.track hn new, I.len⟩
 ·obtain ⟨o1, e1⟩ := I1.base.there b ob e x
  rw [ak (ne e1)]
  exact I.base.free b ob e n x
 ·have q := I.base.tups b xs e
  rw [ak (ar q hn)]
  exact q
 ·have q := I.base.frzs b ob u e
  rw [ak (ar q hn)]
  exact q
 ·obtain ⟨m, q⟩ := I.base.tbls b ps e
  exact ⟨m, by rw [ak (ar q hn)]; exact q⟩
 ·obtain ⟨m, ⟨ob, _, _, e, _⟩, _⟩ := I1.loc
  rw [ak (ne e)]
  exact I.free
 ·obtain ⟨v, ob, e1, _⟩ := I1.cell x c e
  rw [ak (ne e1)]
  exact I.freeC x c e
 ·obtain ⟨e1, e2, e3, e4, e5⟩ := I.pin p hp
  exact ⟨e1, by rw [ak (ne (I1.pin p hp).1)]; exact e2, e3, e4, e5⟩
noncomputable def A0 (X : Cx) (body : List Stmt) (t : XK -> TS) : Prop :=
 ∀ (E : XK) (pins : yd) (s : Shared) (σ : St) (H : Hp) (D : Ends), Inv X pins σ H s -> t E D σ H ->
  wpAny (model X.prog X.w) X.A (execs body X.env) (SP X pins D) (fun e s' => ∃ H1 s1, Inv X pins σ H1 s1 /\ CXe X.prog X.w X.stack H1 s1 E e s') s
section
variable {X : Cx} {k : Nat} {f : Addr} {fd : FuncData} {ps : List Str} {sp : Sp} {dvs : List V} {ds : List Value} {x : Str} {p pos pos' : Pos} {e : Expr} {es : List Expr} {t : TA}
theorem oJ {E : XK} {Q : VK} {pins : yd} {s : Shared} {σ : St} {H : Hp} (F : FnOk X.prog X.w X.K X.mg X.base (CXe X.prog X.w) k f fd ps sp) (hr : Room k X.A) (hg : Gl X x) (hm : X.mg x = some (.ref f)) (hk : W.keepIn X.K (.ref f) = true)
  (hb : Binds X.K fd ps ds) (hd : Vals dvs ds) (ha : PA X.nox (e :: es) t) (I : Inv X pins σ H s) (h : t σ H fun vs H1 => sp (vs ++ dvs) H1 Q E)
  (hdb : (x == ("__debug__" : Str)) = false := by decide) (he : starEach (e :: es) X.env = (false, eval e X.env) :: starEach es X.env := by rfl) (hpl : (backTo pos (starEach es X.env)).any (·.1) = false := by rfl) :
  wpAny (model X.prog X.w) X.A (eval (.Call (.Name x p) (e :: es) [] pos) X.env) (EP X pins σ Q) (fun e s' => ∃ H1 s1, Inv X pins σ H1 s1 /\ CXe X.prog X.w X.stack H1 s1 E e s') s := by
 refine wpAny_Call_Name_kw (eG I hg hm ?_ hdb)
 refine W.callWith_K (h₀ := X.base) I.ok.mod.kin hk (wpAny_mono (ha pos pins s σ H _ (I.wish _) h) (fun us s1 ⟨vs, H1, I1, r, q⟩ => ?_) fun _ _ z => z.elim) he hpl
 have I1 : Inv X pins σ H1 s1 := I1.unwish
 refine ⟨I1.kIn, ?_⟩
 have r2 : Vals (vs ++ dvs) (us ++ ds) := r.append hd
 have hl : (us ++ ds).length = ps.length := by rw [<- r2.length]; exact F.len _ _ _ _ q
 refine wpAny_call (codeAny_mono (F.run X.A X.stack s1 H1 ⟨us, []⟩ (us ++ ds) (vs ++ dvs) Q E hr I1.env0 (hb s1 us I1.kIn hl) r2 q) fun r s' hq => ?_)
 cases r with
 | error e => exact ⟨H1, s1, I1, hq⟩
 | ok fl =>
  cases fl with
  | ret u => exact I1.after hq
  | next => exact False.elim hq
  | brk => exact False.elim hq
  | cont => exact False.elim hq
theorem oK (F : FnOk X.prog X.w X.K X.mg X.base (CXe X.prog X.w) k f fd ps sp) (hr : Room k X.A) (hg : Gl X x) (hm : X.mg x = some (.ref f)) (hk : W.keepIn X.K (.ref f) = true)
  (hb : Binds X.K fd ps ds) (hd : Vals dvs ds) (ha : PA X.nox (e :: es) t) (hdb : (x == ("__debug__" : Str)) = false := by decide) (he : starEach (e :: es) X.env = (false, eval e X.env) :: starEach es X.env := by rfl)
  (hpl : (backTo pos (starEach es X.env)).any (·.1) = false := by rfl) (hs : swapsWith (.Call (.Name x p) (e :: es) [] pos) none pos'.line X.env = pure false := by rfl) :
  A0 X [.Expr (.Call (.Name x p) (e :: es) [] pos) pos'] (fun E D σ H => t σ H fun vs H1 => sp (vs ++ dvs) H1 (fun _ H2 => D.nx σ H2) E) := by
 intro E pins s σ H D I h
 refine wpAny_execs_cons (wpAny_Expr_any (thn (oJ F hr hg hm hk hb hd ha I h hdb he hpl) fun v s1 ⟨y, H1, I1, r1, q1⟩ => ?_) I.quiet hs)
 exact wpAny_execs_nil ⟨σ, H1, I1, q1⟩
end
section
variable {X : Cx} {body suite : List Stmt} {b0 : Stmt} {tb : XK -> TS} {th : TS} {c : Str} {Cc : Value} {cp hp pos : Pos}
theorem caught {pins : yd} {σ : St} {H1 H' : Hp} {s1 s' : Shared} {ea : Addr} {C : Value} (hst : X.stack = X.env :: X.outer) (hfrm : X.env.frame = some X.env.locals) (I1 : Inv X pins σ H1 s1) (F : Flew X.prog X.w X.stack H1 s1 H' ea C s')
  (hg : Gl X c) (hm : X.mg c = some Cc) (hx : W.exmOne X.K C Cc = some true) (hd : (c == ("__debug__" : Str)) = false) {name : Option Str} {rest : List ExceptHandler} {Q : Flow -> Shared -> Prop} {E : ye}
  (h : ∀ h2, Inv X pins σ H' { s' with heap := h2 } -> Flew X.prog X.w X.stack H1 s1 H' ea C { s' with heap := h2 } ->
   codeAny (model X.prog X.w) (X.A.mark (some (.ref ea))) (.handlers (.ref ea) [.ExceptHandler none name (b0 :: suite) hp] X.env) (fun r s2 => match r with
     | .ok f => (match name with
      | none => Q f s2
      | some n => wpAny (model X.prog X.w) X.A (do bindName X.env n .none; unbindBehindTheSuite X.env n hp) (fun _ s3 => Q f s3) E s2)
     | .error x => cameBackBy (model X.prog X.w) X.A X.env E x s2) { s' with heap := h2 }) :
  wpAny (model X.prog X.w) X.A (noteFrame (.ref ea) X.env) (fun _ s2 => wpAny (model X.prog X.w) X.A (setFlight (.ref ea) none) (fun _ s3 => wpAny (model X.prog X.w) X.A (handleBy (.ref ea) X.env (.ExceptHandler (some (.Name c cp)) name (b0 :: suite) hp :: rest)) Q E s3) E s2) E s' := by
 obtain ⟨B, t, fl, kB⟩ := F.fly
 rw [hst] at fl
 have hfr : X.A.frames = some (X.env :: X.outer) := by rw [<- hst]; exact I1.ok.frames
 refine wpAny_looks_onW hfr hfrm fl fun h1 hd1 up1 => ?_
 refine wpAny_landsW hd1 fun h2 fl2 up2 => ?_
 have up : s'.heap.UpToSlots h2 := up1.trans up2
 have kB' := kB
 rw [hst] at kB'
 have F' : Flew X.prog X.w (X.env :: X.outer) H1 s1 H' ea C s' := by rw [<- hst]; exact F
 obtain ⟨u2, ok2⟩ := F'.step kB' fl.2.2.1 fl2.1 up
 have I2 : Inv X pins σ H' { s' with heap := h2 } := I1.call' (s' := { s' with heap := h2 }) (ch := []) F.os (by rw [hst]; exact u2) ok2 F.bare fun b z => absurd z (by simp)
 have fl2' : Heap.FlyingW B X.stack ea C (.ref t) h2 := by rw [hst]; exact fl2
 have go := h h2 I2 ⟨F.os, F.bare, by rw [hst]; exact u2, ok2, F.frf, B, t, fl2', fun b o e hb hc => by
  have inB : ∀ o', s'.heap.get? b = some o' -> B.get? b = some o := fun o' e' => by
   have e2 := kB b o' e' hb hc
   have e3 : some o = some o' := e.symm.trans (fl2.1 b o' e2)
   rw [Option.some.inj e3]
   exact e2
  rcases hc with ⟨o0, e0⟩ | z
  ·obtain ⟨o1, e1⟩ := F.un.there b o0 e0 (by simp)
   exact inB o1 e1
  ·cases e1 : H' b with
   | none => exact absurd e1 z
   | some u =>
    obtain ⟨o', z'⟩ := (F.hok b u e1).obj
    exact inB o' z'⟩
 refine wpAny_handleBy_cons (codeAny_handlers_test (eG (X := zk X ea) (I2.hand ea) hg hm ?_ hd)) (by intro q; cases q)
 obtain ⟨ob, ho, hcl⟩ := fl2.there
 have LT : W.Looks (model X.prog X.w) h2 (typeOf (.ref ea)) C := by rw [<- hcl]; exact (W.Looks.ld ho).andThen .now
 have LE := W.exm_one (K := X.K) (M := model X.prog X.w) (show X.K.In h2 from I2.kIn) LT hx
 exact LE _ _ _ _ (fun _ _ z => z) go
theorem rM (hst : X.stack = X.env :: X.outer) (hfrm : X.env.frame = some X.env.locals) (hb : A0 X body tb) (hg : Gl X c) (hm : X.mg c = some Cc) (hh : ∀ ea, PSs (zk X ea) (b0 :: suite) th) (hd : (c == ("__debug__" : Str)) = false := by decide) :
  PS X (.Try body [.ExceptHandler (some (.Name c cp)) none (b0 :: suite) hp] [] [] pos) (fun D σ H => tb (fun C _ H' => W.exmOne X.K C Cc = some true /\ th D σ H') D σ H) := by
 intro pins s σ H D I h
 refine wpAny_Try_except (wpAny_mono (hb _ pins s σ H D I h) (fun fl s1 q => ?_) fun e s' hex => ?_)
 ·cases fl with
  | next => exact wpAny_execs_nil q
  | ret v => exact q
  | brk => exact q
  | cont => exact q
 ·obtain ⟨H1, s1, I1, ea, C, H', rfl, F, hx, q⟩ := hex
  refine caught hst hfrm I1 F hg hm hx hd fun h2 I2 F2 => ?_
  obtain ⟨B, t, fl, kB⟩ := F2.fly
  refine codeAny_handlers_suite (lands_againW fl fun h3 fl3 up3 => ?_)
  obtain ⟨u3, ok3⟩ := F2.step kB fl.2.2.1 fl3.1 up3
  have I3 : Inv X pins σ H' { s' with heap := h3 } := I1.call' (s' := { s' with heap := h3 }) (ch := []) F.os u3 ok3 F.bare fun b z => absurd z (by simp)
  refine wpAny_mono (hh ea pins _ σ H' D (I3.hand ea) q) (fun fl s4 q4 => ?_) fun _ _ z => z.elim
  cases fl with
  | next => obtain ⟨σ', H'', J, r⟩ := q4; exact ⟨σ', H'', I1.unhand J, r⟩
  | brk => obtain ⟨σ', H'', J, r⟩ := q4; exact ⟨σ', H'', I1.unhand J, r⟩
  | cont => obtain ⟨σ', H'', J, r⟩ := q4; exact ⟨σ', H'', I1.unhand J, r⟩
  | ret u => obtain ⟨v, σ', H'', J, rv, r⟩ := q4; exact ⟨v, σ', H'', I1.unhand J, rv, r⟩
theorem Inv.unname {pins : yd} {σ : St} {H : Hp} {s : Shared} {n : Str} {i : Nat} {Q : Unit -> Shared -> Prop} {M : Model} {A : Around} {E : ye} (I : Inv X pins σ H s) (hN : X.N.Nodup) (hi : X.N[i]? = some n) (hk : X.env.kindOf n = some .local)
  (h : ∀ s', Inv X pins (σ.set i none) H s' -> Q () s') : wpAny M A (do bindName X.env n .none; unbindBehindTheSuite X.env n hp) Q E s := by
 obtain ⟨m, hn, hl⟩ := id I.loc
 have hcls : (X.env.scope.kind == .class || (X.env.scope.kind == .module && X.env.locals != X.env.globals)) = false := by rw [I.ok.kind]; rfl
 refine wpAny_nameGoes_keeps hk hn hcls fun h' v hn' hs => ?_
 obtain ⟨oL, _, _, hoL, _⟩ := id hn
 have nb : ∀ {b : Addr} {o : Obj}, X.s₀.heap.get? b = some o -> b ≠ X.env.locals := fun {b o} e => Nat.ne_of_lt (Nat.lt_of_lt_of_le (Heap.lt_size e) I.ok.above)
 refine h _ ⟨I.ok, I.os, I.bare, ⟨fun b o e n' hb hx => (hs.2 b (nb e)).trans (I.base.keep b o e n' hb hx), fun b o e n' hb hx => ?_, I.base.free, fun b o e hx => ?_, I.base.tups, I.base.frzs, I.base.tbls⟩, ⟨_, hn', fun j y v' e1 e2 e3 => ?_⟩, fun y c e => ?_, I.free, I.freeC, fun p hp => ?_, I.hok.beyond I.free hs, by simpa using I.len⟩
 ·obtain ⟨sl, e1⟩ := I.base.slot b o e n' hb hx
  exact ⟨sl, (hs.2 b (nb e)).trans e1⟩
 ·obtain ⟨o', e1⟩ := I.base.there b o e hx
  exact ⟨o', (hs.2 b (nb e)).trans e1⟩
 ·have hj : j ≠ i := fun z => by
   subst z
   have hiσ : j < σ.length := by rw [I.len]; exact (List.getElem?_eq_some_iff.mp hi).1
   rw [List.getElem?_set_self hiσ] at e2
   cases e2
  rw [List.getElem?_set_ne (Ne.symm hj)] at e2
  obtain ⟨u', r', q⟩ := hl j y v' e1 e2 e3
  refine ⟨u', r', ?_⟩
  rcases q with ⟨k, e⟩ | ⟨k, c, e, z⟩
  ·refine .inl ⟨k, ?_⟩
   have : y ≠ n := fun e => hj (gc hN e1 (e ▸ hi))
   simp [this, e]
  ·exact .inr ⟨k, c, e, z.sameBut hs (I.cne y c e)⟩
 ·obtain ⟨w', z⟩ := I.cell y c e
  exact ⟨w', z.sameBut hs (I.cne y c e)⟩
 ·obtain ⟨e, n', ne, nf, d⟩ := I.pin p hp
  exact ⟨(hs.2 p.1 ne).trans e, n', ne, nf, d⟩
noncomputable def Ends.less (D : Ends) (i : Nat) : Ends := { nx := fun σ H => D.nx (σ.set i none) H, rt := D.rt, bk := fun σ H => D.bk (σ.set i none) H, ct := fun σ H => D.ct (σ.set i none) H }
theorem oM {n : Str} {i : Nat} (hst : X.stack = X.env :: X.outer) (hfrm : X.env.frame = some X.env.locals) (hN : X.N.Nodup) (hi : X.N[i]? = some n) (hl : X.env.kindOf n = some .local) (hb : A0 X body tb) (hg : Gl X c) (hm : X.mg c = some Cc)
  (hh : ∀ ea, PSs (zk X ea) (b0 :: suite) th) (hd : (c == ("__debug__" : Str)) = false := by decide) :
  PS X (.Try body [.ExceptHandler (some (.Name c cp)) (some n) (b0 :: suite) hp] [] [] pos) (fun D σ H => tb (fun C _ H' => W.exmOne X.K C Cc = some true /\ ∀ ea, H' ea = none -> th (D.less i) (σ.set i (some (.ref ea))) (upd H' ea (excO ea C))) D σ H) := by
 intro pins s σ H D I h
 refine wpAny_Try_except (wpAny_mono (hb _ pins s σ H D I h) (fun fl s1 q => ?_) fun e s' hex' => ?_)
 ·cases fl with
  | next => exact wpAny_execs_nil q
  | ret v => exact q
  | brk => exact q
  | cont => exact q
 ·obtain ⟨H1, s1, I1, ea, C, H', rfl, F, hx, q⟩ := hex'
  refine caught hst hfrm I1 F hg hm hx hd fun h2 I2 F2 => ?_
  obtain ⟨B, t, fl, kB⟩ := F2.fly
  refine codeAny_handlers_suite_as (lands_againW fl fun h3 fl3 up3 => ?_)
  obtain ⟨u3, ok3⟩ := F2.step kB fl.2.2.1 fl3.1 up3
  have I3 : Inv X pins σ H' { s' with heap := h3 } := I1.call' (s' := { s' with heap := h3 }) (ch := []) F.os u3 ok3 F.bare fun b z => absurd z (by simp)
  obtain ⟨ob, ho, hcl⟩ := fl3.there
  have I3t : Inv X pins σ (upd H' ea (excO ea C)) { s' with heap := h3 } := I3.track I1 F.new.1 F.new.2 ⟨⟨ob, ho, hcl⟩, ⟨ob, ho⟩, fun g1 g2 ⟨o, e, z⟩ kk => ⟨o, kk o e, z⟩⟩
  refine gd I3t hN hi (.inl hl) (v := .ref ea) rfl (fun s4 I4 => ?_) (.inr hl)
  refine wpAny_mono (hh ea pins s4 _ _ (D.less i) (I4.hand ea) (q ea F.new.2)) (fun fl s5 q5 => ?_) fun _ _ z => z.elim
  cases fl with
  | next => obtain ⟨σ', H'', J, r⟩ := q5; exact (I1.unhand J).unname hN hi hl fun s6 J6 => ⟨_, H'', J6, r⟩
  | brk => obtain ⟨σ', H'', J, r⟩ := q5; exact (I1.unhand J).unname hN hi hl fun s6 J6 => ⟨_, H'', J6, r⟩
  | cont => obtain ⟨σ', H'', J, r⟩ := q5; exact (I1.unhand J).unname hN hi hl fun s6 J6 => ⟨_, H'', J6, r⟩
  | ret u => obtain ⟨v, σ', H'', J, rv, r⟩ := q5; exact (I1.unhand J).unname hN hi hl fun s6 J6 => ⟨v, _, H'', J6, rv, r⟩
end
noncomputable def z8 (N : List Str) (x : Str) : Option Nat := N.findIdx? (fun y => y == x)
section
variable {X : Cx} {a b c : Expr} {ta tb tc : TE} {pos : Pos}
theorem cC {N : List Str} {x : Str} {i : Nat} (h : z8 N x = some i) : N[i]? = some x := by
 unfold z8 at h
 obtain ⟨hi, hp, _⟩ := List.findIdx?_eq_some_iff_getElem.mp h
 have : N[i] = x := by simpa using hp
 rw [List.getElem?_eq_getElem hi, this]
noncomputable def AV : R2 := fun x y H Q => match x, y with
 | .int i, .int j => Q (.int (i + j)) H
 | .str i, .str j => i.length + j.length <= sizeLine /\ Q (.str (i ++ j)) H
 | .ref a, .ref b => ∃ xs zs, H a = some (.lst xs) /\ H b = some (.lst zs) /\ xs.length + zs.length <= sizeLine /\ ∀ p, H p = none -> Q (.ref p) (upd H p (.lst (xs ++ zs)))
 | _, _ => False
noncomputable def rEqM (K : W.Frag) (neg : Bool) : R2 := fun x y H Q => match x, y with
 | .int i, .int j => Q (.bl (if neg then !decide (i = j) else decide (i = j))) H
 | .bl i, .bl j => Q (.bl (if neg then !decide (i = j) else decide (i = j))) H
 | .str i, .str j => Q (.bl (if neg then !decide (i = j) else decide (i = j))) H
 | x, y => rEqD K neg x y H Q
theorem dI (i j : Int) : decide (V.int i = V.int j) = decide (i = j) := by by_cases h : i = j <;> simp [h]
theorem dB (i j : Bool) : decide (V.bl i = V.bl j) = decide (i = j) := by by_cases h : i = j <;> simp [h]
theorem dS (i j : Str) : decide (V.str i = V.str j) = decide (i = j) := by by_cases h : i = j <;> simp [h]
theorem n4 (hu : X.A.units + 64 < cLine) : OpR X (compareOp .Eq) (rEqM X.K false) := by
 intro pins s σ H x y v u Q I rx ry h
 unfold rEqM at h
 split at h
 next i j => exact mO pins s σ H _ _ v u Q I rx ry ⟨rfl, by rw [dI]; exact h⟩
 next i j => exact mO pins s σ H _ _ v u Q I rx ry ⟨rfl, by rw [dB]; exact h⟩
 next i j => exact mO pins s σ H _ _ v u Q I rx ry ⟨rfl, by rw [dS]; exact h⟩
 next => exact rK hu pins s σ H _ _ v u Q I rx ry h
theorem rN (hu : X.A.units + 64 < cLine) : OpR X (compareOp .NotEq) (rEqM X.K true) := by
 intro pins s σ H x y v u Q I rx ry h
 unfold rEqM at h
 split at h
 next i j => exact mP pins s σ H _ _ v u Q I rx ry ⟨rfl, by rw [dI]; exact h⟩
 next i j => exact mP pins s σ H _ _ v u Q I rx ry ⟨rfl, by rw [dB]; exact h⟩
 next i j => exact mP pins s σ H _ _ v u Q I rx ry ⟨rfl, by rw [dS]; exact h⟩
 next => exact rL hu pins s σ H _ _ v u Q I rx ry h
noncomputable def rIxM (K : W.Frag) : R2 := fun x y H Q => match x, y with
 | .ref p, .int i => ∃ xs v, (SqL K H p xs \/ SqT K H p xs) /\ atI xs i = some v /\ Q v H
 | _, _ => False
theorem xE : IxR X (rIxM X.K) := by
 intro value slice pins s σ H x y v u Q I rx ry h hs
 unfold rIxM at h
 split at h
 next p i =>
  obtain ⟨xs, w', h1, h2, h3⟩ := h
  rcases h1 with h1 | h1
  ·exact ox value slice pins s σ H _ _ v u Q I rx ry ⟨p, xs, i, w', rfl, rfl, h1, h2, h3⟩ hs
  ·exact rD value slice pins s σ H _ _ v u Q I rx ry ⟨p, xs, i, w', rfl, rfl, h1, h2, h3⟩ hs
 next => exact h.elim
end
end L2
namespace HT
open PySem PyProof.Rows
section
variable {prog : Program} {w : World} {A : Around} {E : ye} {s : Shared}
theorem eQ {t sl : Addr} {items : Array Value} {vl vu : Value} {lo hi : Option Int} {Q : ye} (ht : IsTup s.heap t items) (hs : s.heap.IsSliceOf sl vl vu .none) (pl : IsPart vl lo) (pu : IsPart vu hi)
  (hw : sIx items.size 0 lo = 0 /\ sIx items.size items.size hi = items.size) (h : Q (.ref t) s) : wpAny (model prog w) A (getItem (.ref t) (.ref sl)) Q E s := by
 obtain ⟨o1, ho1, hc1, _⟩ := id hs
 have hT1 : s.TypeIs (.ref sl) "slice" := ⟨o1, ho1, hc1⟩
 unfold getItem
 try with_reducible refine wpAny_holding ?_
 first | refine wpAny_bind (wpAny_pure ?_) | skip
 refine wpAny_bind (wpAny_sequenceKey ht.typeIs (by decide) ?_)
 refine wpAny_bind (wpAny_callSpecial?_slot (name := Str.ofString "__getitem__") ht.typeIs slot_tuple_getitem (wpAny_call_entry slot_tuple_getitem ht.typeIs entry_tuple_getitem ?_ (args_tuple_getitem _ _)))
 show wpAny _ _ (Builtin.Tuple.tupleItemsOf (.ref t) >>= _) _ _ s
 refine wpAny_bind (tupleItemsOf_ ht (wpAny_bind (wpAny_typeOf hT1 ?_)))
 rw [if_pos (by decide)]
 refine wpAny_bind (cU hs pl pu ?_)
 rw [hw.1, hw.2]
 show wpAny _ _ (if ((((0 : Nat) : Int) == 0 && (1 : Int) == 1 && items.size - 0 == items.size) = true) then _ else _) _ _ s
 rw [if_pos (by simp)]
 refine wpAny_bind ?_
 unfold Builtin.Tuple.tupleIsExact
 refine wpAny_bind (wpAny_typeOf ht.typeIs (wpAny_pure ?_))
 rw [if_pos (by decide)]
 exact wpAny_bind (wpAny_rule (wpAny_pure ⟨_, rfl, wpAny_pure h⟩))
end
end HT
namespace L2
open PySem PySem.Spec PyProof.Rows
section
variable {X : Cx}
theorem aS {H : Hp} {p : Addr} {o : HO} (h : H p = none) : Same H (upd H p o) := fun b u e => by rw [ak (ar e h)]; exact e
end
structure Def (P : Program) (w : World) (K : W.Frag) (mg : yc) (base : Heap) (CX : CXT) (x : Str) (k : Nat) (f : Addr) (fd : FuncData) (ps : List Str) (sp : Sp) : Prop where
 ok : FnOk P w K mg base CX k f fd ps sp
 at_ : mg x = some (.ref f)
 kp : W.keepIn K (.ref f) = true
 bd : Binds K fd ps []
section
variable {X : Cx} {CX : CXT} {k j : Nat} {f : Addr} {fd : FuncData} {ps : List Str} {sp : Sp} {E : XK} {x : Str} {p pos pos' : Pos} {e : Expr} {es : List Expr} {t : TA} {te : TE}
theorem n5 (D : Def X.prog X.w X.K X.mg X.base CX x k f fd ps sp) (hr : Room j X.A) (hx : Passes CX X E) (ha : PA X (e :: es) t) (hg : Gl X x := by rfl) (hk : k <= j := by decide) (hdb : (x == ("__debug__" : Str)) = false := by decide)
  (he : starEach (e :: es) X.env = (false, eval e X.env) :: starEach es X.env := by rfl) (hpl : (backTo pos (starEach es X.env)).any (·.1) = false := by rfl) : PE X (.Call (.Name x p) (e :: es) [] pos) (Ab sp [] E t) :=
 ot D.ok (hr.mono hk) hg D.at_ D.kp D.bd .nil hx ha hdb he hpl
theorem jd (D : Def X.prog X.w X.K X.mg X.base (CXe X.prog X.w) x k f fd ps sp) (hr : Room j X.A) (ha : PA X.nox (e :: es) t) (hg : Gl X x := by rfl) (hk : k <= j := by decide) (hdb : (x == ("__debug__" : Str)) = false := by decide)
  (he : starEach (e :: es) X.env = (false, eval e X.env) :: starEach es X.env := by rfl) (hpl : (backTo pos (starEach es X.env)).any (·.1) = false := by rfl) (hs : swapsWith (.Call (.Name x p) (e :: es) [] pos) none pos'.line X.env = pure false := by rfl) :
  A0 X [.Expr (.Call (.Name x p) (e :: es) [] pos) pos'] (fun E D σ H => t σ H fun vs H1 => sp (vs ++ []) H1 (fun _ H2 => D.nx σ H2) E) :=
 oK D.ok (hr.mono hk) hg D.at_ D.kp D.bd .nil ha hdb he hpl hs
end
noncomputable def tyD : PyData -> String
 | .none => "NoneType"
 | .bool _ => "bool"
 | .int _ => "int"
 | .str _ => "str"
 | .list _ => "list"
 | .tuple _ => "tuple"
 | .dict _ => "dict"
noncomputable def isiD (T : String) : PyData -> Bool
 | .bool _ => T == "bool" || T == "int"
 | d => T == tyD d
noncomputable def kitT (T : String) : Bool := T == "int" || T == "bool" || T == "str" || T == "list" || T == "tuple"
theorem oO {K : W.Frag} {T : String} {d : PyData} (hT : kitT T = true) (hd : ∀ kvs, d ≠ .dict kvs) : W.kitOne K (.type (tyD d)) (.type T) = some (isiD T d) := by
 unfold kitT at hT
 simp only [Bool.or_eq_true, beq_iff_eq] at hT
 rcases hT with (((h | h) | h) | h) | h <;> subst h <;> cases d <;> first | rfl | decide +kernel | exact absurd rfl (hd _)
section
variable {X : Cx}
theorem lV : yG X (.builtin "isinstance") (fun xs H Q => ∃ x d T, xs = [x, .ty T] /\ kitT T = true /\ Dt X.K H x d /\ (∀ kvs, d ≠ .dict kvs) /\ Q (.bl (isiD T d)) H) := by
 intro pins s σ H xs us Q I r h
 obtain ⟨x, d, T, rfl, hT, hd, hnd, q⟩ := h
 obtain ⟨u, w', rfl, r1, r2⟩ := vals2 r
 cases (show w' = Value.type T from r2)
 have e := oO (K := X.K) hT hnd
 cases hd with
 | non => cases (show u = Value.none from r1); exact W.kia_one W.kitx_none I.kIn True.intro e (fun z => nomatch z) fun tk => ⟨.bl _, H, I.tok tk, rfl, q⟩
 | bl y => cases (show u = Value.bool y from r1); exact W.kia_one W.kitx_bool I.kIn True.intro e (fun z => nomatch z) fun tk => ⟨.bl _, H, I.tok tk, rfl, q⟩
 | int i => obtain ⟨t, z⟩ := (show ∃ t, u = Value.int i t from r1); cases z; exact W.kia_one W.kitx_int I.kIn True.intro e (fun z => nomatch z) fun tk => ⟨.bl _, H, I.tok tk, rfl, q⟩
 | str y => obtain ⟨t, z⟩ := (show ∃ t, u = Value.str y t from r1); cases z; exact W.kia_one W.kitx_str I.kIn True.intro e (fun z => nomatch z) fun tk => ⟨.bl _, H, I.tok tk, rfl, q⟩
 | @lst a xs ds hq _ =>
  cases (show u = Value.ref a from r1)
  obtain ⟨its, rv, ⟨o, n, h1, h2, _⟩, _⟩ := I.list (SqR.sq hq)
  exact W.kia_one W.kitx_list I.kIn ⟨o, h1, h2⟩ e (fun z => nomatch z) fun tk => ⟨.bl _, H, I.tok tk, rfl, q⟩
 | @tup a xs ds hq _ =>
  cases (show u = Value.ref a from r1)
  obtain ⟨its, rv, ⟨o, h1, h2, _⟩, _⟩ := I.tuple (.of hq)
  exact W.kia_one W.kitx_tuple I.kIn ⟨o, h1, h2⟩ e (fun z => nomatch z) fun tk => ⟨.bl _, H, I.tok tk, rfl, q⟩
 | dct _ _ => exact absurd rfl (hnd _)
theorem qq {x : Str} {T : String} {pos : Pos} (hm : X.mg x = none) (hv : bootBuiltins x = some (.type T)) (hg : Gl X x := by rfl) (hn : x ≠ "__name__" := by decide) (hd : (x == ("__debug__" : Str)) = false := by decide) : PE X (.Name x pos) (tC (.ty T)) := o7 hg hm hv rfl hn hd
end
section
variable {P : Program} {w : World} {K : W.Frag} {mg : yc} {base : Heap} {CX : CXT} {N : List Str} {q : Str} {sc : Scope} {f : Addr} {cd : Value} {A : Around} {o : List Env} {s : Shared} {H : Hp} {E : XK} {X : Cx} {cl : List (Str × Addr)} {C : Addr} {ex : List Addr} {ea : Addr}
end
section
variable {X : Cx} {ts : List Expr} {tk : Nat} {tp : Pos}
noncomputable def iSeq (K : W.Frag) (tl : TE) : TI := fun σ H R => tl σ H fun x H1 => ∃ a, x = .ref a /\ (((∃ xs, SqL K H1 a xs) /\ R (Itl K a) H1) \/ ((∃ xs, SqT K H1 a xs) /\ R (Itt K a) H1))
theorem n6 {tg l : Expr} {tl : TE} (hl : PE X l tl) : PI X tg l (iSeq X.K tl) := by
 intro pins s σ H R I h
 refine thn (hl pins s σ H _ I h) fun v s1 ⟨x, H1, I1, r1, q1⟩ => ?_
 obtain ⟨a, e, q⟩ := q1
 subst e
 cases r1
 have fp : ∀ b ∈ [s1.heap.objs.size], FpOk X pins H1 b := fun b hb => by
  have e : b = s1.heap.objs.size := by simpa using hb
  subst e
  exact I1.fpOk (Nat.le_refl _) (I1.hok.fresh (Nat.le_refl _))
 rcases q with ⟨⟨xs, hq⟩, q⟩ | ⟨⟨xs, hq⟩, q⟩
 ·obtain ⟨its, rv, p, hz⟩ := I1.list hq
  exact wpAny_pyIter_list p.isList ⟨s1.heap.objs.size, [s1.heap.objs.size], _, _, H1, rfl, I1.kept (t' := s1.toks) (fun b o e => Heap.get?_push_of_some _ e), lJ a _, ⟨_, Heap.get?_push_size _ rfl, rfl, rfl⟩, fp, q⟩
 ·obtain ⟨its, rv, p, hz⟩ := I1.tuple hq
  exact wpAny_pyIter_tuple (show s1.heap.IsTuple a its.toArray from p) ⟨s1.heap.objs.size, [s1.heap.objs.size], _, _, H1, rfl, I1.kept (t' := s1.toks) (fun b o e => Heap.get?_push_of_some _ e), jL a _, ⟨_, Heap.get?_push_size _ rfl, rfl, rfl⟩, fp, q⟩
end
section
variable {X : Cx}
noncomputable def rIxD : R2 := fun x y H Q => ∃ a v, x = .ref a /\ DGet H a y (some v) /\ Q v H
theorem oP (hu : X.A.units + 1 < cLine) : IxR X rIxD := by
 intro value slice pins s σ H x y v u Q I rx ry h hs
 obtain ⟨a, w', rfl, g, q⟩ := h
 cases rx
 exact tail_any (ja I g) PySem.F.slot_dict_getitem.lookup (lP hu I g ry fun r s' I' rr => ⟨w', H, I', rr, q⟩) hs
noncomputable def rIxA (K : W.Frag) : R2 := fun x y H Q => rIxM K x y H Q \/ rIxD x y H Q
theorem xF (hu : X.A.units + 1 < cLine) : IxR X (rIxA X.K) := xE.or (oP hu)
end
noncomputable def yr (scope : Scope) : List Str := (scope.names.filter fun y => y.2 == .free).map (·.1)
noncomputable def za (N : List Str) (scope : Scope) : List Nat := (yr scope).filterMap (z8 N)
noncomputable def yX (N : List Str) (sc : Scope) (x : Str) (scope : Scope) : Bool :=
 scope.kind == .function && sc.kind == .function && (scope.names.all fun y => y.2 != .cell && (y.2 != .local || scope.names.lookup y.1 == some .local) && (y.2 != .free || (sc.names.lookup y.1 == some .cell || sc.names.lookup y.1 == some .free))) &&
 ((yr scope).all fun y => (z8 N y).isSome && y != x && scope.names.lookup y == some .free) && decide (x :: yr scope).Nodup && scope.names.lookup x == some .local
theorem dP {α β : Type} {f : α -> Option β} : ∀ {l : List α} {i : Nat} {x : α}, (∀ a ∈ l, (f a).isSome = true) -> l[i]? = some x -> (l.filterMap f)[i]? = f x
 | [], _, _, _, e => by simp at e
 | a :: r, i, x, h, e => by
  have ha := h a (List.mem_cons_self ..)
  obtain ⟨b, hb⟩ := Option.isSome_iff_exists.mp ha
  rw [List.filterMap_cons, hb]
  cases i with
  | zero => simp at e; subst e; simp [hb]
  | succ i =>
   simp only [List.getElem?_cons_succ] at e ⊢
   exact dP (fun a ha => h a (List.mem_cons_of_mem _ ha)) e
theorem dQ {α β : Type} {f : α -> Option β} : ∀ {l : List α}, (∀ a ∈ l, (f a).isSome = true) -> (l.filterMap f).length = l.length
 | [], _ => rfl
 | a :: r, h => by
  obtain ⟨b, hb⟩ := Option.isSome_iff_exists.mp (h a (List.mem_cons_self ..))
  rw [List.filterMap_cons, hb, List.length_cons, List.length_cons, dQ fun a ha => h a (List.mem_cons_of_mem _ ha)]
theorem eR {env : Env} {x : Str} : ∀ {names : List (Str × NameKind)} {k : NameKind}, names.lookup x = some .free -> (names.map fun (n, k) => if (k == NameKind.free && env.scope.kind == .function && env.kindOf n == some .cell) then (n, NameKind.cell) else (n, k)).lookup x = some k -> k = .cell \/ k = .free
 | [], _, h, _ => by simp at h
 | (n, k') :: r, k, h, e => by
  rw [List.map_cons] at e
  rw [List.lookup_cons] at h
  cases q : x == n with
  | true =>
   rw [q] at h
   have hk : k' = .free := Option.some.inj h
   subst hk
   split at e
   next n2 k2 heq =>
    simp only [Prod.mk.injEq] at heq
    obtain ⟨rfl, rfl⟩ := heq
    rw [apply_ite (fun z : Str × NameKind => List.lookup x (z :: _))] at e
    split at e
    ·rw [List.lookup_cons, q] at e; exact .inl (Option.some.inj e).symm
    ·rw [List.lookup_cons, q] at e; exact .inr (Option.some.inj e).symm
  | false =>
   rw [q] at h
   refine eR (env := env) (names := r) h ?_
   split at e
   next n2 k2 heq =>
    simp only [Prod.mk.injEq] at heq
    obtain ⟨rfl, rfl⟩ := heq
    rw [apply_ite (fun z : Str × NameKind => List.lookup x (z :: _))] at e
    split at e
    ·rw [List.lookup_cons, q] at e; exact e
    ·rw [List.lookup_cons, q] at e; exact e
section
variable {X : Cx} {N0 : List Str} {sc0 scope : Scope} {x : Str}
theorem dZ (hN : X.N = N0) (hsc : X.env.scope = sc0) (h : yX N0 sc0 x scope = true) : yD X [x] (za N0 scope) (x :: yr scope) scope /\ (x :: yr scope).Nodup := by
 unfold yX at h
 simp only [Bool.and_eq_true, beq_iff_eq, List.all_eq_true, bne_iff_ne, ne_eq, Bool.or_eq_true, decide_eq_true_eq] at h
 obtain ⟨⟨⟨⟨⟨h1, h2⟩, h3⟩, h4⟩, h5⟩, h6⟩ := h
 have all : ∀ y ∈ yr scope, (z8 N0 y).isSome = true := fun y hy => (h4 y hy).1.1
 refine ⟨⟨h1, fun y hy => (h3 y hy).1.1, fun y hy e => ?_, by rw [hsc]; exact h2, fun y hy e => ?_, fun i y e => ?_, ?_⟩, h5⟩
 ·rcases (h3 y hy).1.2 with z | z
  ·exact absurd e z
  ·exact z
 ·rcases (h3 y hy).2 with z | z
  ·exact absurd e z
  ·show X.env.scope.names.lookup y.1 = _ \/ X.env.scope.names.lookup y.1 = _
   rw [hsc]; exact z
 ·cases i with
  | zero => exact .inl (by simp)
  | succ i =>
   simp only [List.getElem?_cons_succ] at e
   have hy := List.mem_of_getElem? e
   obtain ⟨j, hj⟩ := Option.isSome_iff_exists.mp (all y hy)
   have hfree := (h4 y hy).2
   refine .inr ⟨j, ?_, by rw [hN]; exact cC hj, ?_, fun k hk => eR hfree hk⟩
   ·show (za N0 scope)[i + 1 - 1]? = some j
    rw [Nat.add_sub_cancel]
    unfold za
    rw [dP all e, hj]
   ·have := (h3 (y, .free) (PySem.mem_of_lookup hfree)).2
    rcases this with z | z
    ·exact absurd rfl z
    ·show X.env.scope.names.lookup y = some .local \/ X.env.scope.names.lookup y = some .cell \/ X.env.scope.names.lookup y = some .free
     rw [hsc]
     rcases z with z | z
     ·exact .inr (.inl z)
     ·exact .inr (.inr z)
 ·show (x :: yr scope).length = 1 + (za N0 scope).length
  rw [List.length_cons, za, dQ all]
  lia
variable {elt iter : Expr} {wi : TI} {tc : TT} {te : TE} {pos px : Pos} {ifs : List Expr}
theorem fB {l : List Str} : z8 (x :: l) x = some 0 := by simp [z8, List.findIdx?_cons]
theorem n8 (hok : yX N0 sc0 x scope = true) (hi : PI X (.Name x px) iter wi) (ht : ∀ cl C ex s H, PTs (yq X (x :: yr scope) scope cl C ex s H) ifs tc) (he : ∀ cl C ex s H, PE (yq X (x :: yr scope) scope cl C ex s H) elt te) (hN : X.N = N0 := by rfl) (hsc : X.env.scope = sc0 := by rfl)
  (hcm : X.calm = true := by rfl) (hs : ∀ x, foldedSetIterable iter X.env x = pure x := by intro _; rfl) : PE X (.ListComp elt [⟨.Name x px, iter, ifs, 0⟩] scope pos) (zA 1 (za N0 scope) wi (z0 0) tc te) := by
 obtain ⟨S, nd⟩ := dZ hN hsc hok
 have hl : scope.names.lookup x = some .local := by
  unfold yX at hok
  simp only [Bool.and_eq_true, beq_iff_eq] at hok
  exact hok.2
 exact oH S hcm hi (fun cl C ex s H => g6 nd (cC fB) (.inl (lookup_relabel_local hl)) (.inr (lookup_relabel_local hl))) ht he (dY Nat.one_pos) hs
theorem nc {i : Nat} {y : Str} {py spos : Pos} (hok : yX N0 sc0 x scope = true) (hi : PI X (.Name x px) iter wi) (ht : ∀ cl C ex s H, PTs (yq X (x :: yr scope) scope cl C ex s H) ifs tc) (he : ∀ cl C ex s H, PE (yq X (x :: yr scope) scope cl C ex s H) elt te)
  (hy : z8 X.N y = some i) (hNd : X.N.Nodup) (hN : X.N = N0 := by rfl) (hsc : X.env.scope = sc0 := by rfl) (hcm : X.calm = true := by rfl) (hl : X.env.scope.names.lookup y = some .local := by rfl)
  (hsw : swapsWith (.ListComp elt [⟨.Name x px, iter, ifs, 0⟩] scope pos) (some (.Name y py)) spos.line X.env = pure true := by rfl) (hs : ∀ x, foldedSetIterable iter X.env x = pure x := by intro _; rfl) :
  PS X (.Assign [.Name y py] (.ListComp elt [⟨.Name x px, iter, ifs, 0⟩] scope pos) spos) (tAsg (zA 1 (za N0 scope) wi (z0 0) tc te) (z0 i)) := by
 obtain ⟨S, nd⟩ := dZ hN hsc hok
 have hl' : scope.names.lookup x = some .local := by
  unfold yX at hok
  simp only [Bool.and_eq_true, beq_iff_eq] at hok
  exact hok.2
 exact oI S hcm hi (fun cl C ex s H => g6 nd (cC fB) (.inl (lookup_relabel_local hl')) (.inr (lookup_relabel_local hl'))) ht he (dY Nat.one_pos) hNd (cC hy) hl hsw hs
end
abbrev TJ := St -> Hp -> Str -> (Str -> Hp -> Prop) -> Prop
noncomputable def PJ (X : Cx) (es : List Expr) (t : TJ) : Prop := ∀ (pins : yd) (s : Shared) (σ : St) (H : Hp) (out : Str) (Q : Str -> Hp -> Prop), Inv X pins σ H s -> t σ H out Q ->
 wpAny (model X.prog X.w) X.A (joinParts out (evalEach es X.env)) (EP X pins σ fun v H' => ∃ y, v = .str y /\ Q y H') X.xe s
section
variable {X : Cx} {es : List Expr} {t : TJ} {pos : Pos}
theorem jU : PJ X [] (fun _ H out Q => out.length <= sizeLine /\ Q out H) := fun pins s σ H out Q I h => by
 show wpAny _ _ (joinParts out []) _ _ _
 exact joinParts_nil ⟨.str out, H, I.tok _, ⟨_, rfl⟩, out, rfl, h.2⟩ h.1
theorem gu {x : Str} {j : Nat} (hr : PJ X es t) : PJ X (.Constant (.str x) j pos :: es) (fun σ H out Q => (out ++ x).length <= sizeLine /\ t σ H (out ++ x) Q) := fun pins s σ H out Q I h => by
 show wpAny _ _ (joinParts out (eval (.Constant (.str x) j pos) X.env :: evalEach es X.env)) _ _ _
 refine joinParts_cons (thn (dq (X := X) pins s σ H (fun v H' => v = .str x /\ H' = H) I ⟨rfl, rfl⟩) fun v s1 ⟨y, H1, I1, r1, e1, e2⟩ => ?_)
 subst e1 e2
 obtain ⟨tk, rfl⟩ := r1
 exact ⟨h.1, hr pins s1 σ _ _ Q I1 h.2⟩
theorem jV {e : Expr} {te : TE} (he : PE X e te) (hr : PJ X es t) : PJ X (.FormattedValue e (-1) none pos :: es) (fun σ H out Q => te σ H fun v H1 => ∃ i : Int, v = .int i /\ i.natAbs.log2 < 1920 /\ ∀ y : Str, y.length <= 1921 -> (out ++ y).length <= sizeLine /\ t σ H1 (out ++ y) Q) := fun pins s σ H out Q I h => by
 show wpAny _ _ (joinParts out (eval (.FormattedValue e (-1) none pos) X.env :: evalEach es X.env)) _ _ _
 refine joinParts_cons (FormattedValue_plain (thn (he pins s σ H _ I h) fun v s1 ⟨y, H1, I1, r1, i, ey, hi, q⟩ => ?_))
 subst ey
 obtain ⟨tk, rfl⟩ := r1
 refine wpAny_formatField_int hi ?_
 obtain ⟨q1, q2⟩ := q (toString i) (int_text_len_1921 hi)
 exact ⟨q1, hr pins _ σ H1 _ Q (I1.tok _) q2⟩
theorem iI {e1 e2 : Expr} (h : PJ X (e1 :: e2 :: es) t) : PE X (.JoinedStr (e1 :: e2 :: es) pos) (fun σ H Q => t σ H Str.empty fun y H' => Q (.str y) H') := fun pins s σ H Q I hw => by
 refine JoinedStr_many (thn (h pins s σ H Str.empty _ I hw) fun v s1 ⟨x, H1, I1, r1, y, e, q⟩ => ?_)
 subst e
 exact ⟨.str y, H1, I1, r1, q⟩
end
inductive SD where
 | sh (d : PyData)
 | ol (ds : yb)
 | od (es : List (PyData × PyData))
 | ex (x : Str)
noncomputable def SD.owned : SD -> Prop
 | .ol _ => True
 | .od _ => True
 | _ => False
noncomputable def SD.toSh : SD -> Option PyData
 | .sh d => some d
 | .ol ds => some (.list ds)
 | .od es => some (.dict es)
 | .ex _ => none
abbrev DEnv := List (Option SD)
inductive Out (α : Type) where
 | ok (a : α)
 | exc (x : Str)
 | bad
noncomputable def Out.bind {α β : Type} (x : Out α) (f : α -> Out β) : Out β := match x with
 | .ok a => f a
 | .exc x => .exc x
 | .bad => .bad
@[simp] theorem Out.bind_ok {α β : Type} (a : α) (f : α -> Out β) : (Out.ok a).bind f = f a := rfl
@[simp] theorem Out.bind_exc {α β : Type} (x : Str) (f : α -> Out β) : (Out.exc x).bind f = .exc x := rfl
@[simp] theorem Out.bind_bad {α β : Type} (f : α -> Out β) : (Out.bad : Out α).bind f = .bad := rfl
class Tabs where
 ts : List Addr
 qual : Str
variable [Tabs]
noncomputable def AN (c : Addr) (q : Str) : HO := .ext fun h => h.CodeRec (.ref c) q
noncomputable def zB (H : Hp) : Prop := ∀ P ∈ Tabs.ts, ∃ ps, H P = some (.tbl ps) /\ TriplesOk ps.toList /\ ∀ pos c, codeAmong pos ps.toList = some c -> ∃ c', c = .ref c' /\ H c' = some (AN c' Tabs.qual)
structure yM (H H' : Hp) : Prop where
 at_ : ∀ b o, H b = some o -> (∀ ps, o ≠ .tbl ps) -> H' b = some o
 nn : ∀ b, H b ≠ none -> H' b ≠ none
 ok : zB H -> zB H'
theorem yM.of_same {H H' : Hp} (s : Same H H') : yM H H' where
 at_ := fun b o e _ => s b o e
 nn := fun b h => by
  cases q : H b with
  | none => exact absurd q h
  | some o => rw [s b o q]; simp
 ok := fun t P hP => let ⟨ps, e, t1, t2⟩ := t P hP; ⟨ps, s _ _ e, t1, fun pos c hc => let ⟨c', e1, e2⟩ := t2 pos c hc; ⟨c', e1, s _ _ e2⟩⟩
theorem yM.refl (H : Hp) : yM H H := ⟨fun _ _ e _ => e, fun _ h => h, id⟩
theorem yM.trans {H H1 H2 : Hp} (a : yM H H1) (b : yM H1 H2) : yM H H2 := ⟨fun c o e n => b.at_ c o (a.at_ c o e n) n, fun c h => b.nn c (a.nn c h), fun t => b.ok (a.ok t)⟩
theorem yM.free {H H' : Hp} (s : yM H H') {l : Addr} (h : H' l = Option.none) : H l = Option.none := by
 cases q : H l with
 | none => rfl
 | some o => exact absurd h (s.nn l (by rw [q]; simp))
def NoT (G : Hp) : Prop := ∀ b ps, G b ≠ some (.tbl ps)
theorem yM.same {G H H' : Hp} (s : yM H H') (g : Same G H) (n : NoT G) : Same G H' := fun b o e => s.at_ b o (g b o e) fun ps z => n b ps (by rw [e, z])
theorem NoT.upd {G : Hp} {p : Addr} {o : HO} (n : NoT G) (ho : ∀ ps, o ≠ .tbl ps) : NoT (upd G p o) := fun b ps z => by
 by_cases hb : b = p
 ·subst hb; rw [ay] at z; exact ho ps (Option.some.inj z)
 ·rw [ak hb] at z; exact n b ps z
structure Grow (G H G' H' : Hp) : Prop where
 hh : yM H H'
 gg : Same G G'
 gh : Same G' H'
 nb : ∀ b, H b ≠ none -> G' b = G b
 nt : NoT G -> NoT G'
section
variable {G H G1 H1 G2 H2 G' H' : Hp} {p b : Addr} {o : HO}
theorem Grow.refl (h : Same G H) : Grow G H G H := ⟨.refl _, .refl _, h, fun _ _ => rfl, id⟩
theorem Grow.trans (a : Grow G H G1 H1) (c : Grow G1 H1 G2 H2) : Grow G H G2 H2 :=
 ⟨a.hh.trans c.hh, a.gg.trans c.gg, c.gh, fun b h => (c.nb b (a.hh.nn b h)).trans (a.nb b h), fun n => c.nt (a.nt n)⟩
theorem Grow.laid (h : Same G H) (hp : H p = none) (ho : ∀ ps, o ≠ .tbl ps := by intro _ z; cases z) : Grow G H (upd G p o) (upd H p o) where
 hh := .of_same (aS hp)
 nt := fun n => n.upd ho
 gg := aS (h.free hp)
 gh := fun b u e => by
  by_cases z : b = p
  ·subst z; rw [ay] at e ⊢; exact e
  ·rw [ak z] at e ⊢; exact h b u e
 nb := fun b hb => ak (fun z => hb (z ▸ hp))
theorem Grow.laidO (h : Same G H) (hp : H p = none) : Grow G H G (upd H p o) := ⟨.of_same (aS hp), .refl _, h.trans (aS hp), fun _ _ => rfl, id⟩
end
noncomputable def VR (K : W.Frag) (mg : yc) (G H : Hp) (v : V) : SD -> Prop
 | .sh d => Dt K G v d
 | .ol ds => ∃ a xs, v = .ref a /\ G a = none /\ H a = some (.lst xs) /\ Dts K G xs ds
 | .od es => ∃ a kvs, v = .ref a /\ G a = none /\ H a = some (.dK kvs) /\ Des K G kvs es
 | .ex x => ∃ a C, v = .ref a /\ mg x = some C /\ H a = some (excO a C)
structure Rel (K : W.Frag) (mg : yc) (G0 H0 G H : Hp) (σ : St) (δ : DEnv) : Prop where
 g : Grow G0 H0 G H
 len : δ.length = σ.length
 sl : ∀ (i : Nat) sd, δ[i]? = some (some sd) -> ∃ v, σ[i]? = some (some v) /\ VR K mg G H v sd
 fr : ∀ (i : Nat) sd a, δ[i]? = some (some sd) -> sd.owned -> σ[i]? = some (some (.ref a)) -> H0 a = none
 ap : ∀ (i j : Nat) sd te a, δ[i]? = some (some sd) -> δ[j]? = some (some te) -> sd.owned -> te.owned -> σ[i]? = some (some (.ref a)) -> σ[j]? = some (some (.ref a)) -> i = j
 tb : zB H0
 n0 : NoT G0
noncomputable def VN (K : W.Frag) (mg : yc) (H G' H' : Hp) (v : V) (r : SD) : Prop := VR K mg G' H' v r /\ (r.owned -> ∀ a, v = .ref a -> H a = none)
noncomputable def RR (K : W.Frag) (mg : yc) (H0 G H : Hp) (σ : St) (δ : DEnv) (v : V) (r : SD) : Prop :=
 VR K mg G H v r /\ (r.owned -> ∀ a, v = .ref a -> H0 a = none /\ ∀ (i : Nat) sd, δ[i]? = some (some sd) -> sd.owned -> σ[i]? ≠ some (some (.ref a)))
section
variable {K : W.Frag} {mg : yc} {G0 H0 G H G' H' : Hp} {σ : St} {δ : DEnv} {v : V} {r sd : SD} {i : Nat} {p a : Addr} {o : HO}
theorem VR.grow (g : Grow G H G' H') (h : VR K mg G H v r) : VR K mg G' H' v r := by
 cases r with
 | sh d => exact Dt.mono g.gg h
 | ol ds =>
  obtain ⟨a, xs, rfl, h1, h2, h3⟩ := h
  exact ⟨a, xs, rfl, (g.nb a (by rw [h2]; simp)).trans h1, g.hh.at_ _ _ h2 (by intro _ z; cases z), h3.mono g.gg⟩
 | od es =>
  obtain ⟨a, xs, rfl, h1, h2, h3⟩ := h
  exact ⟨a, xs, rfl, (g.nb a (by rw [h2]; simp)).trans h1, g.hh.at_ _ _ h2 (by intro _ z; cases z), h3.mono g.gg⟩
 | ex x =>
  obtain ⟨a, C, rfl, h1, h2⟩ := h
  exact ⟨a, C, rfl, h1, g.hh.at_ _ _ h2 (by intro _ z; cases z)⟩
theorem VR.own (h : VR K mg G H v r) (ho : r.owned) : ∃ a, v = .ref a /\ G a = none /\ H a ≠ none := by
 cases r with
 | sh d => exact ho.elim
 | ol ds => obtain ⟨a, xs, rfl, h1, h2, h3⟩ := h; exact ⟨a, rfl, h1, by rw [h2]; simp⟩
 | od es => obtain ⟨a, xs, rfl, h1, h2, h3⟩ := h; exact ⟨a, rfl, h1, by rw [h2]; simp⟩
 | ex x => exact ho.elim
theorem Rel.grow (R : Rel K mg G0 H0 G H σ δ) (g : Grow G H G' H') : Rel K mg G0 H0 G' H' σ δ :=
 ⟨R.g.trans g, R.len, fun i sd e => let ⟨v, h1, h2⟩ := R.sl i sd e; ⟨v, h1, h2.grow g⟩, R.fr, R.ap, R.tb, R.n0⟩
theorem Rel.own_ne (R : Rel K mg G0 H0 G H σ δ) (e : δ[i]? = some (some sd)) (ho : sd.owned) (hs : σ[i]? = some (some (.ref a))) : G a = none /\ H a ≠ none := by
 obtain ⟨v, h1, h2⟩ := R.sl i sd e
 obtain ⟨b, rfl, h3, h4⟩ := h2.own ho
 rw [hs] at h1
 cases h1
 exact ⟨h3, h4⟩
theorem RR.of_new (R : Rel K mg G0 H0 G H σ δ) (n : VN K mg H G' H' v r) : RR K mg H0 G' H' σ δ v r :=
 ⟨n.1, fun ho a e => ⟨R.g.hh.free (n.2 ho a e), fun i sd h1 h2 h3 => (R.own_ne h1 h2 h3).2 (n.2 ho a e)⟩⟩
theorem RR.new (n : RR K mg H0 G H σ δ v r) : VN K mg H0 G H v r := ⟨n.1, fun ho a e => (n.2 ho a e).1⟩
theorem RR.sh {d : PyData} (h : Dt K G v d) : RR K mg H0 G H σ δ v (.sh d) := ⟨h, fun z => z.elim⟩
theorem Rel.pub (R : Rel K mg G0 H0 G H σ δ) (hG : G p = none) (hH : H p = some o) (h0 : H0 p = none) (hn : ∀ (i : Nat) sd, δ[i]? = some (some sd) -> sd.owned -> σ[i]? ≠ some (some (.ref p))) (ho : ∀ ps, o ≠ .tbl ps := by intro _ z; cases z) : Rel K mg G0 H0 (upd G p o) H σ δ where
 tb := R.tb
 n0 := R.n0
 g := ⟨R.g.hh, R.g.gg.trans (aS hG), fun b u e => by
   by_cases z : b = p
   ·subst z; rw [ay] at e; rw [hH]; exact e
   ·rw [ak z] at e; exact R.g.gh b u e, fun b hb => (ak (fun z => hb (by rw [z]; exact h0))).trans (R.g.nb b hb), fun n => (R.g.nt n).upd ho⟩
 len := R.len
 sl := fun i sd e => by
  obtain ⟨v, h1, h2⟩ := R.sl i sd e
  refine ⟨v, h1, ?_⟩
  have s : Same G (upd G p o) := aS hG
  cases sd with
  | sh d => exact Dt.mono s h2
  | ol ds =>
   obtain ⟨a, xs, rfl, q1, q2, q3⟩ := h2
   exact ⟨a, xs, rfl, (ak fun z => hn i _ e trivial (by rw [<- z]; exact h1)).trans q1, q2, q3.mono s⟩
  | od ds =>
   obtain ⟨a, xs, rfl, q1, q2, q3⟩ := h2
   exact ⟨a, xs, rfl, (ak fun z => hn i _ e trivial (by rw [<- z]; exact h1)).trans q1, q2, q3.mono s⟩
  | ex x => exact h2
 fr := R.fr
 ap := R.ap
theorem RR.share {d : PyData} (R : Rel K mg G0 H0 G H σ δ) (h : RR K mg H0 G H σ δ v r) (e : r.toSh = some d) : ∃ G', Rel K mg G0 H0 G' H σ δ /\ Same G G' /\ Dt K G' v d := by
 cases r with
 | sh d' => cases e; exact ⟨G, R, .refl _, h.1⟩
 | ol ds =>
  cases e
  obtain ⟨⟨a, xs, rfl, h1, h2, h3⟩, hf⟩ := h
  obtain ⟨f1, f2⟩ := hf trivial a rfl
  exact ⟨_, R.pub h1 h2 f1 f2, aS h1, .lst (.of ay) (h3.mono (aS h1))⟩
 | od es =>
  cases e
  obtain ⟨⟨a, xs, rfl, h1, h2, h3⟩, hf⟩ := h
  obtain ⟨f1, f2⟩ := hf trivial a rfl
  exact ⟨_, R.pub h1 h2 f1 f2, aS h1, .dct ay (h3.mono (aS h1))⟩
 | ex x => cases e
theorem az {α : Type} {l : List α} {i j : Nat} {x y : α} (h : (l.set i x)[j]? = some y) : (j = i /\ y = x) \/ (j ≠ i /\ l[j]? = some y) := by
 by_cases z : j = i
 ·subst z
  by_cases hl : j < l.length
  ·rw [List.getElem?_set_self hl] at h
   exact .inl ⟨rfl, (Option.some.inj h).symm⟩
  ·rw [List.getElem?_eq_none (by rw [List.length_set]; lia)] at h
   cases h
 ·rw [List.getElem?_set_ne (Ne.symm z)] at h
  exact .inr ⟨z, h⟩
theorem Rel.store (R : Rel K mg G0 H0 G H σ δ) (hi : i < σ.length) (h : RR K mg H0 G H σ (δ.set i none) v r) : Rel K mg G0 H0 G H (σ.set i (some v)) (δ.set i (some r)) where
 tb := R.tb
 n0 := R.n0
 g := R.g
 len := by rw [List.length_set, List.length_set]; exact R.len
 sl := fun j sd e => by
  rcases az e with ⟨rfl, z⟩ | ⟨hj, e'⟩
  ·cases z
   exact ⟨v, List.getElem?_set_self hi, h.1⟩
  ·obtain ⟨w, h1, h2⟩ := R.sl j sd e'
   exact ⟨w, by rw [List.getElem?_set_ne (Ne.symm hj)]; exact h1, h2⟩
 fr := fun j sd a e ho hs => by
  rcases az e with ⟨rfl, z⟩ | ⟨hj, e'⟩
  ·cases z
   rw [List.getElem?_set_self hi] at hs
   cases hs
   exact (h.2 ho a rfl).1
  ·rw [List.getElem?_set_ne (Ne.symm hj)] at hs
   exact R.fr j sd a e' ho hs
 ap := fun j k sd te a e1 e2 h1 h2 s1 s2 => by
  have key : ∀ {m n : Nat} {sm sn : SD}, (δ.set i (some r))[m]? = some (some sm) -> δ[n]? = some (some sn) -> n ≠ i -> m = i -> sm.owned -> sn.owned -> (σ.set i (some v))[m]? = some (some (.ref a)) -> σ[n]? = some (some (.ref a)) -> False := fun {m n sm sn} f1 f2 hk hj g1 g2 t1 t2 => by
   subst hj
   rcases az f1 with ⟨_, z⟩ | ⟨z, _⟩
   ·cases z
    rw [List.getElem?_set_self hi] at t1
    cases t1
    exact (h.2 g1 a rfl).2 n sn (by rw [List.getElem?_set_ne (Ne.symm hk)]; exact f2) g2 t2
   ·exact z rfl
  rcases az e1 with ⟨z1, _⟩ | ⟨z1, q1⟩
  ·rcases az e2 with ⟨z2, _⟩ | ⟨z2, q2⟩
   ·rw [z1, z2]
   ·rw [List.getElem?_set_ne (Ne.symm z2)] at s2
    exact (key e1 q2 z2 z1 h1 h2 s1 s2).elim
  ·rw [List.getElem?_set_ne (Ne.symm z1)] at s1
   rcases az e2 with ⟨z2, _⟩ | ⟨z2, q2⟩
   ·exact (key e2 q1 z1 z2 h2 h1 s2 s1).elim
   ·rw [List.getElem?_set_ne (Ne.symm z2)] at s2
    exact R.ap j k sd te a q1 q2 h1 h2 s1 s2
theorem RR.less {k : Nat} (h : RR K mg H0 G H σ δ v r) : RR K mg H0 G H σ (δ.set k none) v r :=
 ⟨h.1, fun ho a e => ⟨(h.2 ho a e).1, fun i sd q h2 => by
  rcases az q with ⟨_, z⟩ | ⟨_, z⟩
  ·cases z
  ·exact (h.2 ho a e).2 i sd z h2⟩⟩
theorem Rel.forget (R : Rel K mg G0 H0 G H σ δ) (i : Nat) : Rel K mg G0 H0 G H σ (δ.set i none) where
 tb := R.tb
 n0 := R.n0
 g := R.g
 len := by rw [List.length_set]; exact R.len
 sl := fun j sd e => by
  rcases az e with ⟨_, z⟩ | ⟨_, z⟩
  ·cases z
  ·exact R.sl j sd z
 fr := fun j sd a e ho hs => by
  rcases az e with ⟨_, z⟩ | ⟨_, z⟩
  ·cases z
  ·exact R.fr j sd a z ho hs
 ap := fun j k sd te a e1 e2 h1 h2 s1 s2 => by
  rcases az e1 with ⟨_, z⟩ | ⟨_, z1⟩
  ·cases z
  ·rcases az e2 with ⟨_, z⟩ | ⟨_, z2⟩
   ·cases z
   ·exact R.ap j k sd te a z1 z2 h1 h2 s1 s2
theorem gw {α : Type} {l : List α} {i : Nat} {x : α} (h : l[i]? = some x) : l.set i x = l := by
 apply List.ext_getElem?
 intro j
 by_cases z : i = j
 ·subst z
  rw [List.getElem?_set_self (List.getElem?_eq_some_iff.mp h).1, h]
 ·rw [List.getElem?_set_ne z]
theorem Rel.at_ (R : Rel K mg G0 H0 G H σ δ) (e : δ[i]? = some (some r)) : ∃ v, σ[i]? = some (some v) /\ RR K mg H0 G H σ (δ.set i none) v r := by
 obtain ⟨v, h1, h2⟩ := R.sl i r e
 refine ⟨v, h1, h2, fun ho a ea => ⟨R.fr i r a e ho (ea ▸ h1), fun j sd q hs z => ?_⟩⟩
 rcases az q with ⟨_, y⟩ | ⟨hj, y⟩
 ·cases y
 ·exact hj (R.ap i j r sd a e y ho hs (ea ▸ h1) z).symm
theorem Rel.share {d : PyData} (R : Rel K mg G0 H0 G H σ δ) (e : δ[i]? = some (some r)) (ed : r.toSh = some d) : ∃ G' v, Rel K mg G0 H0 G' H σ (δ.set i (some (.sh d))) /\ Same G G' /\ σ[i]? = some (some v) /\ Dt K G' v d := by
 obtain ⟨v, h1, h2⟩ := R.at_ e
 obtain ⟨G', R', s, hd⟩ := h2.share (R.forget i) ed
 have hi : i < σ.length := (List.getElem?_eq_some_iff.mp h1).1
 have R2 := R'.store hi (r := .sh d) (v := v) (RR.sh hd)
 rw [gw h1, List.set_set] at R2
 exact ⟨G', v, R2, s, h1, hd⟩
theorem Rel.write (R : Rel K mg G0 H0 G H σ δ) (e : δ[i]? = some (some r)) (ho : r.owned) (hs : σ[i]? = some (some (.ref a))) {r' : SD} (hr : VR K mg G (upd H a o) (.ref a) r') (hm : Mut (H a)) (hx : ∀ C, H a ≠ some (excO a C)) : Rel K mg G0 H0 G (upd H a o) σ (δ.set i (some r')) where
 g := by
  have h0 := R.fr i r a e ho hs
  have hG := (R.own_ne e ho hs).1
  have kin : (∃ xs, H a = some (.lst xs)) \/ (∃ xs, H a = some (.dK xs)) := by
   obtain ⟨v, h1, h2⟩ := R.sl i r e
   rw [hs] at h1
   cases h1
   cases r with
   | sh d => exact ho.elim
   | ol ds => obtain ⟨b, xs, e1, _, e2, _⟩ := h2; cases e1; exact .inl ⟨_, e2⟩
   | od ds => obtain ⟨b, xs, e1, _, e2, _⟩ := h2; cases e1; exact .inr ⟨_, e2⟩
   | ex x => exact ho.elim
  have nT : ∀ {b : Addr} {u : HO}, H b = some u -> ((∃ ps, u = .tbl ps) \/ (∃ φ, u = .ext φ)) -> b ≠ a := fun {b u} q z w => by
   subst w
   rcases kin with ⟨xs, k⟩ | ⟨xs, k⟩
   ·rw [k] at q; cases q; rcases z with ⟨_, z⟩ | ⟨_, z⟩ <;> cases z
   ·rw [k] at q; cases q; rcases z with ⟨_, z⟩ | ⟨_, z⟩ <;> cases z
  refine ⟨⟨fun b u q n => ?_, fun b q => ?_, fun t P hP => ?_⟩, R.g.gg, fun b u q => ?_, R.g.nb, R.g.nt⟩
  ·rw [ak (ar q h0)]; exact R.g.hh.at_ b u q n
  ·rw [ak (fun z => q (by rw [z]; exact h0))]; exact R.g.hh.nn b q
  ·obtain ⟨ps, e1, t1, t2⟩ := R.g.hh.ok t P hP
   refine ⟨ps, (ak (nT e1 (.inl ⟨_, rfl⟩))).trans e1, t1, fun pos c hc => ?_⟩
   obtain ⟨c', e2, e3⟩ := t2 pos c hc
   exact ⟨c', e2, (ak (nT e3 (.inr ⟨_, rfl⟩))).trans e3⟩
  ·rw [ak (ar q hG)]; exact R.g.gh b u q
 tb := R.tb
 n0 := R.n0
 len := by rw [List.length_set]; exact R.len
 sl := fun j sd q => by
  rcases az q with ⟨rfl, z⟩ | ⟨hj, q⟩
  ·cases z
   exact ⟨_, hs, hr⟩
  ·obtain ⟨v, h1, h2⟩ := R.sl j sd q
   refine ⟨v, h1, ?_⟩
   have ne : ∀ b, sd.owned -> v = .ref b -> b ≠ a := fun b hb ev z => by
    subst ev z
    exact hj (R.ap i j r sd b e q ho hb hs h1).symm
   cases sd with
   | sh d => exact h2
   | ol ds =>
    obtain ⟨b, xs, rfl, q1, q2, q3⟩ := h2
    exact ⟨b, xs, rfl, q1, (ak (ne b trivial rfl)).trans q2, q3⟩
   | od ds =>
    obtain ⟨b, xs, rfl, q1, q2, q3⟩ := h2
    exact ⟨b, xs, rfl, q1, (ak (ne b trivial rfl)).trans q2, q3⟩
   | ex x =>
    obtain ⟨b, C, rfl, q1, q2⟩ := h2
    exact ⟨b, C, rfl, q1, (ak fun z => hx C (by rw [<- z]; exact q2)).trans q2⟩
 fr := fun j sd b q hb hs' => by
  rcases az q with ⟨rfl, _⟩ | ⟨_, q⟩
  ·rw [hs] at hs'
   cases hs'
   exact R.fr _ r _ e ho hs
  ·exact R.fr j sd b q hb hs'
 ap := fun j k sd te b q1 q2 h1 h2 s1 s2 => by
  rcases az q1 with ⟨z1, _⟩ | ⟨z1, y1⟩
  ·rcases az q2 with ⟨z2, _⟩ | ⟨z2, y2⟩
   ·rw [z1, z2]
   ·rw [z1] at s1
    rw [z1]
    exact R.ap i k r te b e y2 ho h2 s1 s2
  ·rcases az q2 with ⟨z2, _⟩ | ⟨z2, y2⟩
   ·rw [z2] at s2
    rw [z2]
    exact R.ap j i sd r b y1 e h1 ho s1 s2
   ·exact R.ap j k sd te b y1 y2 h1 h2 s1 s2
theorem Rel.tabs (R : Rel K mg G0 H0 G H σ δ) : zB H := R.g.hh.ok R.tb
theorem Rel.noT (R : Rel K mg G0 H0 G H σ δ) : NoT G := R.g.nt R.n0
end
section
variable (K : W.Frag) (mg : yc) (E : XK)
abbrev DE := DEnv -> Out (SD × DEnv)
abbrev DD := DEnv -> Out (PyData × DEnv)
abbrev DA := DEnv -> Out (yb × DEnv)
abbrev DT := DEnv -> Out (Bool × DEnv)
noncomputable def PoX (H0 : Hp) (x : Str) : Prop := ∀ H' C, yM H0 H' -> mg x = some C -> E C none H'
noncomputable def PoE (G0 H0 G : Hp) (σ : St) (Q : VK) : Out (SD × DEnv) -> Prop
 | .ok p => ∀ v H' G', Rel K mg G0 H0 G' H' σ p.2 -> Same G G' -> RR K mg H0 G' H' σ p.2 v p.1 -> Q v H'
 | .exc x => PoX mg E H0 x
 | .bad => False
noncomputable def tE (f : DE) : TE := fun σ H Q => ∃ G0 H0 G δ, Rel K mg G0 H0 G H σ δ /\ PoE K mg E G0 H0 G σ Q (f δ)
noncomputable def PoD (G0 H0 G : Hp) (σ : St) (Q : VK) : Out (PyData × DEnv) -> Prop
 | .ok p => ∀ v H' G', Rel K mg G0 H0 G' H' σ p.2 -> Same G G' -> Dt K G' v p.1 -> Q v H'
 | .exc x => PoX mg E H0 x
 | .bad => False
noncomputable def PoA (G0 H0 G : Hp) (σ : St) (Q : List V -> Hp -> Prop) : Out (yb × DEnv) -> Prop
 | .ok p => ∀ vs H' G', Rel K mg G0 H0 G' H' σ p.2 -> Same G G' -> Dts K G' vs p.1 -> Q vs H'
 | .exc x => PoX mg E H0 x
 | .bad => False
noncomputable def tA (f : DA) : TA := fun σ H Q => ∃ G0 H0 G δ, Rel K mg G0 H0 G H σ δ /\ PoA K mg E G0 H0 G σ Q (f δ)
noncomputable def PoT (G0 H0 G : Hp) (σ : St) (Q : Bool -> Hp -> Prop) : Out (Bool × DEnv) -> Prop
 | .ok p => ∀ H' G', Rel K mg G0 H0 G' H' σ p.2 -> Same G G' -> Q p.1 H'
 | .exc x => PoX mg E H0 x
 | .bad => False
noncomputable def tT (f : DT) : TT := fun σ H Q => ∃ G0 H0 G δ, Rel K mg G0 H0 G H σ δ /\ PoT K mg E G0 H0 G σ Q (f δ)
end
noncomputable def vE (f : DE) : DD := fun δ => (f δ).bind fun p => match p.1.toSh with
 | some d => .ok (d, p.2)
 | none => .bad
section
variable {X : Cx}
theorem PE.weak {e : Expr} {t t' : TE} (h : PE X e t) (k : ∀ σ H Q, t' σ H Q -> t σ H Q) : PE X e t' := fun pins s σ H Q I q => h pins s σ H Q I (k σ H Q q)
theorem PT.weak {e : Expr} {t t' : TT} (h : PT X e t) (k : ∀ σ H Q, t' σ H Q -> t σ H Q) : PT X e t' := fun pins s σ H Q I q => h pins s σ H Q I (k σ H Q q)
theorem PW.weak {e : Expr} {t t' : TT} (h : PW X e t) (k : ∀ σ H Q, t' σ H Q -> t σ H Q) : PW X e t' := fun wh pins s σ H Q I q => h wh pins s σ H Q I (k σ H Q q)
theorem PS.weak {e : Stmt} {t t' : TS} (h : PS X e t) (k : ∀ D σ H, t' D σ H -> t D σ H) : PS X e t' := fun pins s σ H D I q => h pins s σ H D I (k D σ H q)
theorem PSs.weak {e : List Stmt} {t t' : TS} (h : PSs X e t) (k : ∀ D σ H, t' D σ H -> t D σ H) : PSs X e t' := fun pins s σ H D I q => h pins s σ H D I (k D σ H q)
theorem PI.weak {tg e : Expr} {t t' : TI} (h : PI X tg e t) (k : ∀ σ H Q, t' σ H Q -> t σ H Q) : PI X tg e t' := fun pins s σ H Q I q => h pins s σ H Q I (k σ H Q q)
end
section
variable {K : W.Frag} {mg : yc} {E : XK} {G0 H0 G H : Hp} {σ : St} {δ : DEnv}
theorem ng {f : DE} {Q : VK} (R : Rel K mg G0 H0 G H σ δ) (h : PoD K mg E G0 H0 G σ Q (vE f δ)) : tE K mg E f σ H Q := by
 refine ⟨G0, H0, G, δ, R, ?_⟩
 unfold vE at h
 cases e : f δ with
 | ok p =>
  rw [e, Out.bind_ok] at h
  intro v H' G' R' s rr
  cases e2 : p.1.toSh with
  | none => rw [e2] at h; exact h.elim
  | some d =>
   rw [e2] at h
   obtain ⟨G2, R2, s2, hd⟩ := rr.share R' e2
   exact h v H' G2 R2 (s.trans s2) hd
 | exc x => rw [e] at h; exact h
 | bad => rw [e] at h; exact h
end
abbrev SE (X : Cx) (E : XK) (e : Expr) (f : DE) : Prop := PE X e (tE X.K X.mg E f)
abbrev ST (X : Cx) (E : XK) (e : Expr) (f : DT) : Prop := PT X e (tT X.K X.mg E f)
mutual
noncomputable def yy : PyData -> Bool
 | .list _ => false
 | .dict _ => false
 | .tuple ds => yh ds
 | _ => true
noncomputable def yh : yb -> Bool
 | [] => true
 | d :: ds => yy d && yh ds
end
noncomputable def SD.pure : SD -> Bool
 | .sh d => yy d
 | .ol ds => yh ds
 | .od es => yh (es.map (·.2))
 | .ex _ => false
noncomputable def hid (l : List Addr) (G : Hp) : Hp := fun b => if b ∈ l then none else G b
noncomputable def Muts (l : List Addr) (G : Hp) : Prop := ∀ b ∈ l, (∃ xs, G b = some (.lst xs)) \/ ∃ kvs, G b = some (.dK kvs)
theorem oQ {l : List Addr} {G : Hp} {a : Addr} {xs : List V} (hl : Muts l G) (h : TuT G a xs) : TuT (hid l G) a xs := by
 unfold TuT hid
 rw [if_neg]
 ·exact h
 ·intro z
  rcases hl a z with ⟨xs, q⟩ | ⟨kvs, q⟩
  ·rw [h] at q; cases q
  ·rw [h] at q; cases q
section
variable {K : W.Frag} {l : List Addr} {G : Hp}
mutual
theorem Dt.hid (hl : Muts l G) : ∀ {v : V} {d : PyData}, Dt K G v d -> yy d = true -> Dt K (hid l G) v d
 | _, _, .non, _ => .non
 | _, _, .bl b, _ => .bl b
 | _, _, .int i, _ => .int i
 | _, _, .str x, _ => .str x
 | _, _, .lst q r, h => by exact absurd h (by simp [yy])
 | _, _, .tup q r, h => .tup (oQ hl q) (Dts.hid hl r (by simpa [yy] using h))
 | _, _, .dct q r, h => by exact absurd h (by simp [yy])
theorem Dts.hid (hl : Muts l G) : ∀ {vs : List V} {ds : yb}, Dts K G vs ds -> yh ds = true -> Dts K (hid l G) vs ds
 | _, _, .nil, _ => .nil
 | _, _, .cons x r, h => by
  have h' := Bool.and_eq_true_iff.mp (by simpa [yh] using h)
  exact .cons (Dt.hid hl x h'.1) (Dts.hid hl r h'.2)
end
theorem Des.hid (hl : Muts l G) : ∀ {vs : List (Key × V)} {ds : List (PyData × PyData)}, Des K G vs ds -> yh (ds.map (·.2)) = true -> Des K (hid l G) vs ds
 | _, _, .nil, _ => .nil
 | _, _, .cons x r, h => by
  have h' := Bool.and_eq_true_iff.mp (by simpa [yh] using h)
  exact .cons (Dt.hid hl x h'.1) (Des.hid hl r (by simpa using h'.2))
end
inductive Opd where
 | nm (i : Nat)
 | ex (f : DE)
noncomputable def yR (i : Nat) (δ : DEnv) : DEnv := match δ[i]? with
 | some (some (.ol ds)) => δ.set i (some (.sh (.list ds)))
 | some (some (.od es)) => δ.set i (some (.sh (.dict es)))
 | _ => δ
noncomputable def yk : List Nat -> DEnv -> DEnv
 | [], δ => δ
 | i :: r, δ => yk r (yR i δ)
section
variable {K : W.Frag} {mg : yc} {G0 H0 G H : Hp} {σ : St} {δ : DEnv}
structure Lent (G G1 : Hp) (l : List Addr) : Prop where
 ext : Same G G1
 mu : Muts l G1
 new : ∀ b ∈ l, G b = none
 old : ∀ b, b ∉ l -> G1 b = G b
theorem Lent.refl : Lent G G [] := ⟨.refl _, fun b h => absurd h (by simp), fun b h => absurd h (by simp), fun _ _ => rfl⟩
theorem Lent.trans {G1 G2 : Hp} {l1 l2 : List Addr} (a : Lent G G1 l1) (b : Lent G1 G2 l2) : Lent G G2 (l1 ++ l2) where
 ext := a.ext.trans b.ext
 mu := fun c h => by
  rcases List.mem_append.mp h with z | z
  ·rcases a.mu c z with ⟨xs, q⟩ | ⟨xs, q⟩
   ·exact .inl ⟨xs, b.ext _ _ q⟩
   ·exact .inr ⟨xs, b.ext _ _ q⟩
  ·exact b.mu c z
 new := fun c h => by
  rcases List.mem_append.mp h with z | z
  ·exact a.new c z
  ·exact a.ext.free (b.new c z)
 old := fun c h => by
  have h1 : c ∉ l1 := fun z => h (List.mem_append_left _ z)
  have h2 : c ∉ l2 := fun z => h (List.mem_append_right _ z)
  rw [b.old c h2, a.old c h1]
theorem Rel.rel1 (R : Rel K mg G0 H0 G H σ δ) (i : Nat) : ∃ G1 l, Rel K mg G0 H0 G1 H σ (yR i δ) /\ Lent G G1 l := by
 unfold yR
 split
 next ds e =>
  obtain ⟨v, h1, ⟨a, xs, rfl, q1, q2, q3⟩, hf⟩ := R.at_ e
  obtain ⟨f1, f2⟩ := hf trivial a rfl
  have hi : i < σ.length := (List.getElem?_eq_some_iff.mp h1).1
  have R2 := ((R.forget i).pub q1 q2 f1 f2).store hi (r := .sh (.list ds)) (v := .ref a) (RR.sh (.lst (.of ay) (q3.mono (aS q1))))
  rw [gw h1, List.set_set] at R2
  refine ⟨_, [a], R2, aS q1, fun b hb => ?_, fun b hb => ?_, fun b hb => ak fun z => hb (by simp [z])⟩
  ·have : b = a := by simpa using hb
   subst this
   exact .inl ⟨xs, ay⟩
  ·have : b = a := by simpa using hb
   subst this
   exact q1
 next ds e =>
  obtain ⟨v, h1, ⟨a, xs, rfl, q1, q2, q3⟩, hf⟩ := R.at_ e
  obtain ⟨f1, f2⟩ := hf trivial a rfl
  have hi : i < σ.length := (List.getElem?_eq_some_iff.mp h1).1
  have R2 := ((R.forget i).pub q1 q2 f1 f2).store hi (r := .sh (.dict ds)) (v := .ref a) (RR.sh (.dct ay (q3.mono (aS q1))))
  rw [gw h1, List.set_set] at R2
  refine ⟨_, [a], R2, aS q1, fun b hb => ?_, fun b hb => ?_, fun b hb => ak fun z => hb (by simp [z])⟩
  ·have : b = a := by simpa using hb
   subst this
   exact .inr ⟨xs, ay⟩
  ·have : b = a := by simpa using hb
   subst this
   exact q1
 next => exact ⟨G, [], R, .refl⟩
theorem Rel.relA : ∀ (is : List Nat) {G : Hp} {δ : DEnv}, Rel K mg G0 H0 G H σ δ -> ∃ G1 l, Rel K mg G0 H0 G1 H σ (yk is δ) /\ Lent G G1 l
 | [], G, δ, R => ⟨G, [], R, .refl⟩
 | i :: r, G, δ, R => by
  obtain ⟨G1, l1, R1, L1⟩ := R.rel1 i
  obtain ⟨G2, l2, R2, L2⟩ := Rel.relA r R1
  exact ⟨G2, _, R2, L1.trans L2⟩
theorem Lent.back {G1 G' H' : Hp} {l : List Addr} {v : V} {r : SD} (L : Lent G G1 l) (R : Rel K mg G0 H0 G H σ δ) (R1 : Same G1 H) (g : Grow G1 H G' H') (n : VN K mg H G' H' v r) (hp : r.pure = true) :
  ∃ G2, Grow G H G2 H' /\ VN K mg H G2 H' v r := by
 have mu : Muts l G' := fun b hb => by
  rcases L.mu b hb with ⟨xs, q⟩ | ⟨xs, q⟩
  ·exact .inl ⟨xs, g.gg _ _ q⟩
  ·exact .inr ⟨xs, g.gg _ _ q⟩
 have nl : ∀ b ∈ l, H b ≠ none := fun b hb => by
  rcases L.mu b hb with ⟨xs, q⟩ | ⟨xs, q⟩
  ·rw [R1 _ _ q]; simp
  ·rw [R1 _ _ q]; simp
 refine ⟨hid l G', ⟨g.hh, fun b o e => ?_, fun b o e => ?_, fun b hb => ?_, fun nt b ps z => ?_⟩, ?_, n.2⟩
 ·unfold hid
  rw [if_neg fun z => by rw [L.new b z] at e; cases e]
  exact g.gg _ _ (L.ext _ _ e)
 ·unfold hid at e
  split at e
  ·cases e
  ·exact g.gh _ _ e
 ·unfold hid
  split
  next z => exact (L.new b z).symm
  next z => rw [g.nb b hb, L.old b z]
 ·have n1 : NoT G1 := fun c qs y => by
   by_cases hc : c ∈ l
   ·rcases L.mu c hc with ⟨xs, q⟩ | ⟨xs, q⟩ <;> (rw [y] at q; cases q)
   ·rw [L.old c hc] at y; exact nt c qs y
  unfold hid at z
  split at z
  ·cases z
  ·exact g.nt n1 b ps z
 ·cases r with
  | sh d => exact Dt.hid mu n.1 hp
  | ol ds =>
   obtain ⟨a, xs, rfl, h1, h2, h3⟩ := n.1
   exact ⟨a, xs, rfl, by unfold hid; split <;> first | rfl | exact h1, h2, h3.hid mu hp⟩
  | od ds =>
   obtain ⟨a, xs, rfl, h1, h2, h3⟩ := n.1
   exact ⟨a, xs, rfl, by unfold hid; split <;> first | rfl | exact h1, h2, h3.hid mu hp⟩
  | ex x => cases hp
end
noncomputable def fin2 (o : Option SD) (δ1 δ2 : DEnv) : Out (SD × DEnv) := match o with
 | some r => .ok (r, if r.pure = true then δ1 else δ2)
 | none => .bad
noncomputable def evO : List Opd -> DEnv -> Out (List (Sum PyData Nat) × DEnv)
 | [], δ => .ok ([], δ)
 | .nm i :: r, δ => match δ[i]? with
  | some (some _) => (evO r δ).bind fun q => .ok (.inr i :: q.1, q.2)
  | _ => .bad
 | .ex f :: r, δ => (vE f δ).bind fun p => (evO r p.2).bind fun q => .ok (.inl p.1 :: q.1, q.2)
noncomputable def yu : List (Sum PyData Nat) -> List Nat
 | [] => []
 | .inl _ :: r => yu r
 | .inr i :: r => i :: yu r
noncomputable def A3 (δ : DEnv) (i : Nat) : Option PyData := match δ[i]? with
 | some (some (.sh d)) => some d
 | _ => none
noncomputable def yH (δ : DEnv) : List (Sum PyData Nat) -> Option yb
 | [] => some []
 | .inl d :: r => (yH δ r).map (d :: ·)
 | .inr i :: r => (A3 δ i).bind fun d => (yH δ r).map (d :: ·)
noncomputable def opds (ops : List Opd) (δ : DEnv) : Out (yb × DEnv × DEnv) := (evO ops δ).bind fun p =>
 match yH (yk (yu p.1) p.2) p.1 with
 | some ds => .ok (ds, p.2, yk (yu p.1) p.2)
 | none => .bad
noncomputable def eOp (o : yb -> Option SD) (ops : List Opd) : DE := fun δ => (opds ops δ).bind fun p => fin2 (o p.1) p.2.1 p.2.2
section
variable (K : W.Frag) (mg : yc) (E : XK)
noncomputable def tO : Opd -> TE
 | .nm i => tVar i
 | .ex f => tE K mg E f
noncomputable def tOs : List Opd -> TA
 | [] => tNil
 | o :: r => zJ (tO K mg E o) (tOs r)
inductive OV (G : Hp) (σ : St) : List V -> List (Sum PyData Nat) -> Prop
 | nil : OV G σ [] []
 | dat {v : V} {d : PyData} {vs : List V} {r : List (Sum PyData Nat)} : Dt K G v d -> OV G σ vs r -> OV G σ (v :: vs) (.inl d :: r)
 | nam {v : V} {i : Nat} {vs : List V} {r : List (Sum PyData Nat)} : σ[i]? = some (some v) -> OV G σ vs r -> OV G σ (v :: vs) (.inr i :: r)
end
section
variable {K : W.Frag} {mg : yc} {E : XK} {G0 H0 G H : Hp} {σ : St} {δ : DEnv}
theorem OV.mono {G' : Hp} (s : Same G G') : ∀ {vs : List V} {r : List (Sum PyData Nat)}, OV K G σ vs r -> OV K G' σ vs r
 | _, _, .nil => .nil
 | _, _, .dat h t => .dat (h.mono s) (OV.mono s t)
 | _, _, .nam h t => .nam h (OV.mono s t)
theorem OV.view (R : Rel K mg G0 H0 G H σ δ) : ∀ {vs : List V} {r : List (Sum PyData Nat)} {ds : yb}, OV K G σ vs r -> yH δ r = some ds -> Dts K G vs ds
 | _, _, _, .nil, e => by cases e; exact .nil
 | _, _, _, .dat (r := r) h t, e => by
  simp only [yH, Option.map_eq_some_iff] at e
  obtain ⟨ds', e1, rfl⟩ := e
  exact .cons h (OV.view R t e1)
 | _, _, _, .nam (i := i) (v := v) h t, e => by
  simp only [yH, Option.bind_eq_some_iff, Option.map_eq_some_iff] at e
  obtain ⟨d, e1, ds', e2, rfl⟩ := e
  refine .cons ?_ (OV.view R t e2)
  unfold A3 at e1
  split at e1
  next d' q =>
   cases e1
   obtain ⟨w, h1, h2⟩ := R.sl i _ q
   rw [h] at h1
   cases h1
   exact h2
  next => cases e1
theorem dt {P : List V -> Hp -> Prop} : ∀ (ops : List Opd) {G H : Hp} {δ : DEnv}, Rel K mg G0 H0 G H σ δ ->
  (match evO ops δ with
   | .ok p => ∀ vs H' G', Rel K mg G0 H0 G' H' σ p.2 -> Same G G' -> OV K G' σ vs p.1 -> P vs H'
   | .exc x => PoX mg E H0 x
   | .bad => False) -> tOs K mg E ops σ H P
 | [], G, H, δ, R, h => h [] H G R (.refl _) .nil
 | .nm i :: r, G, H, δ, R, h => by
  unfold evO at h
  split at h
  next p e =>
   split at e
   next sd q =>
    obtain ⟨v, hv, _⟩ := R.sl i _ q
    refine ⟨v, hv, dt (P := fun xs H2 => P (v :: xs) H2) r R ?_⟩
    cases e1 : evO r δ with
    | ok q1 =>
     rw [e1, Out.bind_ok] at e
     cases e
     exact fun vs H' G' R' s o => h (v :: vs) H' G' R' s (.nam hv o)
    | exc x => rw [e1] at e; cases e
    | bad => rw [e1] at e; cases e
   next => cases e
  next x e =>
   split at e
   next sd q =>
    obtain ⟨v, hv, _⟩ := R.sl i _ q
    refine ⟨v, hv, dt (P := fun xs H2 => P (v :: xs) H2) r R ?_⟩
    cases e1 : evO r δ with
    | ok q1 => rw [e1] at e; cases e
    | exc y => rw [e1] at e; cases e; exact h
    | bad => rw [e1] at e; cases e
   next => cases e
  next => exact h.elim
 | .ex f :: r, G, H, δ, R, h => by
  show tE K mg E f σ H fun x H1 => tOs K mg E r σ H1 fun xs H2 => P (x :: xs) H2
  refine ng R ?_
  unfold evO at h
  cases e1 : vE f δ with
  | ok p =>
   rw [e1, Out.bind_ok] at h
   intro v H1 G1 R1 s1 hd
   refine dt (P := fun xs H2 => P (v :: xs) H2) r R1 ?_
   cases e2 : evO r p.2 with
   | ok q =>
    rw [e2, Out.bind_ok] at h
    exact fun vs H2 G2 R2 s2 o => h (v :: vs) H2 G2 R2 (s1.trans s2) (.dat (hd.mono s2) o)
   | exc x => rw [e2] at h; exact h
   | bad => rw [e2] at h; exact h
  | exc x => rw [e1] at h; exact h
  | bad => rw [e1] at h; exact h
end
noncomputable def yo (K : W.Frag) (mg : yc) (o : yb -> Option SD) (r : List V -> Hp -> VK -> Prop) : Prop :=
 ∀ (G H : Hp) (vs : List V) (ds : yb) (res : SD) (Q : VK), Same G H -> Dts K G vs ds -> o ds = some res -> (∀ v H' G', Grow G H G' H' -> VN K mg H G' H' v res -> Q v H') -> r vs H Q
section
variable {K : W.Frag} {mg : yc} {E : XK}
theorem eS {o : yb -> Option SD} {r : List V -> Hp -> VK -> Prop} {ops : List Opd} {σ : St} {H : Hp} {Q : VK} (hs : yo K mg o r) (h : tE K mg E (eOp o ops) σ H Q) : tOs K mg E ops σ H fun vs H1 => r vs H1 Q := by
 obtain ⟨G0, H0, G, δ, R, m⟩ := h
 refine dt ops R ?_
 unfold eOp opds at m
 cases e1 : evO ops δ with
 | ok p =>
  rw [e1, Out.bind_ok] at m
  intro vs H1 G1 R1 s1 ov
  cases e2 : yH (yk (yu p.1) p.2) p.1 with
  | none => rw [e2] at m; exact m.elim
  | some ds =>
   rw [e2, Out.bind_ok] at m
   cases e3 : o ds with
   | none => rw [e3] at m; exact m.elim
   | some res =>
    rw [e3] at m
    obtain ⟨G2, l, R2, L⟩ := R1.relA (yu p.1)
    refine hs G2 H1 vs ds res Q R2.g.gh ((ov.mono L.ext).view R2 e2) e3 fun v H2 G3 gr vn => ?_
    by_cases hp : res.pure = true
    ·obtain ⟨G4, gr4, vn4⟩ := L.back R1 R2.g.gh gr vn hp
     have m' : PoE K mg E G0 H0 G σ Q (.ok (res, p.2)) := by simpa [fin2, hp] using m
     exact m' v H2 G4 (R1.grow gr4) (s1.trans gr4.gg) (RR.of_new R1 vn4)
    ·have m' : PoE K mg E G0 H0 G σ Q (.ok (res, yk (yu p.1) p.2)) := by simpa [fin2, hp] using m
     exact m' v H2 G3 (R2.grow gr) ((s1.trans L.ext).trans gr.gg) (RR.of_new R2 vn)
 | exc x => rw [e1] at m; exact m
 | bad => rw [e1] at m; exact m
theorem nh {H G' H' : Hp} {v : V} {d : PyData} (h : Dt K G' v d) : VN K mg H G' H' v (.sh d) := ⟨h, fun z => z.elim⟩
theorem eT {G H : Hp} {p : Addr} {xs : List V} {ds : yb} (hg : Same G H) (hp : H p = none) (h : Dts K G xs ds) : VN K mg H G (upd H p (.lst xs)) (.ref p) (.ol ds) :=
 ⟨⟨p, xs, rfl, hg.free hp, ay, h⟩, fun _ a e => by cases e; exact hp⟩
theorem uZ {G H : Hp} {p : Addr} {xs : List (Key × V)} {ds : List (PyData × PyData)} (hg : Same G H) (hp : H p = none) (h : Des K G xs ds) : VN K mg H G (upd H p (.dK xs)) (.ref p) (.od ds) :=
 ⟨⟨p, xs, rfl, hg.free hp, ay, h⟩, fun _ a e => by cases e; exact hp⟩
theorem iJ {G H : Hp} {p : Addr} {xs : List V} {ds : yb} (hg : Same G H) (hp : H p = none) (h : Dts K G xs ds) : VN K mg H (upd G p (.tup xs)) (upd H p (.tup xs)) (.ref p) (.sh (.tuple ds)) :=
 nh (.tup ay (h.mono (aS (hg.free hp))))
theorem ans {G H : Hp} {Q : VK} {v : V} {d : PyData} (k : ∀ v H' G', Grow G H G' H' -> VN K mg H G' H' v (.sh d) -> Q v H') (hg : Same G H) (h : Dt K G v d) : Q v H := k v H G (.refl hg) (nh h)
end
abbrev SO (X : Cx) (E : XK) (e : Expr) (o : Opd) : Prop := PE X e (tO X.K X.mg E o)
noncomputable def SOs (X : Cx) (E : XK) : List Expr -> List Opd -> Prop
 | [], [] => True
 | e :: es, o :: os => SO X E e o /\ SOs X E es os
 | _, _ => False
section
variable {X : Cx} {E : XK} {a b e : Expr} {es : List Expr} {oa ob : Opd} {ops : List Opd} {f : DE} {pos : Pos}
theorem af (i : Nat) {x : Str} (hN : X.N[i]? = some x := by rfl) (hv : Vis X.env.scope x := by first | exact Or.inl rfl | exact Or.inr (Or.inl rfl) | exact Or.inr (Or.inr rfl)) (hd : (x == ("__debug__" : Str)) = false := by decide)
  (hcd : (x == ("__classdict__" : Str)) = false := by decide) : SO X E (.Name x pos) (.nm i) := cN hN hv hd hcd
theorem ae (h : SE X E e f) : SO X E e (.ex f) := h
theorem aj : PA X [] (tOs X.K X.mg E []) := cO
theorem aa (he : SO X E e oa) (hr : PA X es (tOs X.K X.mg E ops)) (hs : starEach (e :: es) X.env = (false, eval e X.env) :: starEach es X.env := by rfl) : PA X (e :: es) (tOs X.K X.mg E (oa :: ops)) := bJ he hr hs
noncomputable def l2 (r : R2) : List V -> Hp -> VK -> Prop := fun vs H Q => match vs with
 | [x, y] => r x y H Q
 | _ => False
noncomputable def l1 (r : V -> Hp -> VK -> Prop) : List V -> Hp -> VK -> Prop := fun vs H Q => match vs with
 | [x] => r x H Q
 | _ => False
theorem fE {op : Operator} {r : R2} {o : yb -> Option SD} (ho : OpR X (binaryOp op) r) (hs : yo X.K X.mg o (l2 r)) (ha : SO X E a oa) (hb : SO X E b ob) : SE X E (.BinOp a op b pos) (eOp o [oa, ob]) :=
 (uP ho ha hb).weak fun _ _ _ h => eS hs h
theorem v3 {op : UnaryOp} {r : V -> Hp -> VK -> Prop} {o : yb -> Option SD} (ho : UnR X (unaryOp op) r) (hs : yo X.K X.mg o (l1 r)) (ha : SO X E a oa) : SE X E (.UnaryOp op a pos) (eOp o [oa]) :=
 (uQ ho ha).weak fun _ _ _ h => eS hs h
theorem iK {op : CmpOp} {r : R2} {o : yb -> Option SD} (ho : OpR X (compareOp op) r) (hs : yo X.K X.mg o (l2 r)) (ha : SO X E a oa) (hb : SO X E b ob) (hm : behindInMarks op b = false) : SE X E (.Compare a [op] [b] pos) (eOp o [oa, ob]) :=
 (oo ho ha hb hm).weak fun _ _ _ h => eS hs h
theorem v5 {r : R2} {o : yb -> Option SD} (hr : IxR X r) (hs : yo X.K X.mg o (l2 r)) (ha : SO X E a oa) (hb : SO X E b ob) (hp : zy b) : SE X E (.Subscript a b pos) (eOp o [oa, ob]) :=
 (uV hr ha hb hp).weak fun _ _ _ h => eS hs h
theorem eU {x : Str} {p : Pos} {id : String} {r : List V -> Hp -> VK -> Prop} {o : yb -> Option SD} (hc : yG X (.builtin id) r) (hs : yo X.K X.mg o r) (hm : X.mg x = none) (hv : bootBuiltins x = some (.builtin id)) (ha : PA X (e :: es) (tOs X.K X.mg E ops)) (hg : Gl X x := by rfl)
  (hn : x ≠ "__name__" := by decide) (hdb : (x == ("__debug__" : Str)) = false := by decide) (hst : starEach (e :: es) X.env = (false, eval e X.env) :: starEach es X.env := by rfl) (hpl : (backTo pos (starEach es X.env)).any (·.1) = false := by rfl) :
  SE X E (.Call (.Name x p) (e :: es) [] pos) (eOp o ops) := (gj hc hg hm hv ha hn hdb hst hpl).weak fun _ _ _ h => eS hs h
theorem eW {x : Str} {p : Pos} {T : String} {r : List V -> Hp -> VK -> Prop} {o : yb -> Option SD} (hc : yG X (.type T) r) (hs : yo X.K X.mg o r) (hm : X.mg x = none) (hv : bootBuiltins x = some (.type T)) (ha : PA X (e :: es) (tOs X.K X.mg E ops)) (hg : Gl X x := by rfl)
  (hn : x ≠ "__name__" := by decide) (hdb : (x == ("__debug__" : Str)) = false := by decide) (hst : starEach (e :: es) X.env = (false, eval e X.env) :: starEach es X.env := by rfl) (hpl : (backTo pos (starEach es X.env)).any (·.1) = false := by rfl) :
  SE X E (.Call (.Name x p) (e :: es) [] pos) (eOp o ops) := (lN hc hg hm hv ha hn hdb hst hpl).weak fun _ _ _ h => eS hs h
end
def eC (d : PyData) : DE := fun δ => .ok (.sh d, δ)
noncomputable def eV (i : Nat) : DE := fun δ => match δ[i]? with
 | some (some (.sh d)) => .ok (.sh d, δ)
 | some (some (.ol ds)) => .ok (.sh (.list ds), δ.set i (some (.sh (.list ds))))
 | some (some (.od ds)) => .ok (.sh (.dict ds), δ.set i (some (.sh (.dict ds))))
 | _ => .bad
noncomputable def dTup (ds : yb) : Option SD := if ds.length <= sizeLine then some (.sh (.tuple ds)) else none
noncomputable def dLst (ds : yb) : Option SD := if ds.length <= sizeLine then some (.ol ds) else none
def zP : DE := fun δ => .ok (.od [], δ)
section
variable {X : Cx} {E : XK} {pos : Pos} {es : List Expr} {ops : List Opd}
theorem ag {i : Int} {j : Nat} : SE X E (.Constant (.int i) j pos) (eC (.int i)) := qS.weak fun σ H Q ⟨G0, H0, G, δ, R, m⟩ => m _ H G R (.refl _) (RR.sh (.int i))
theorem fQ {i : Bool} {j : Nat} : SE X E (.Constant (.bool i) j pos) (eC (.bool i)) := uM.weak fun σ H Q ⟨G0, H0, G, δ, R, m⟩ => m _ H G R (.refl _) (RR.sh (.bl i))
theorem bV {i : Str} {j : Nat} : SE X E (.Constant (.str i) j pos) (eC (.str i)) := dq.weak fun σ H Q ⟨G0, H0, G, δ, R, m⟩ => m _ H G R (.refl _) (RR.sh (.str i))
theorem d8 {j : Nat} : SE X E (.Constant .none j pos) (eC .none) := qT.weak fun σ H Q ⟨G0, H0, G, δ, R, m⟩ => m _ H G R (.refl _) (RR.sh .non)
theorem w_V {K : W.Frag} {mg : yc} {i : Nat} {σ : St} {H : Hp} {Q : VK} (h : tE K mg E (eV i) σ H Q) : tVar i σ H Q := by
 obtain ⟨G0, H0, G, δ, R, m⟩ := h
 unfold eV at m
 split at m
 next d e =>
  obtain ⟨v, h1, h2⟩ := R.sl i _ e
  exact ⟨v, h1, m v H G R (.refl _) (RR.sh h2)⟩
 next ds e =>
  obtain ⟨G', v, R', s, h1, hd⟩ := R.share e rfl
  exact ⟨v, h1, m v H G' R' s (RR.sh hd)⟩
 next ds e =>
  obtain ⟨G', v, R', s, h1, hd⟩ := R.share e rfl
  exact ⟨v, h1, m v H G' R' s (RR.sh hd)⟩
 next => exact m.elim
theorem lW (i : Nat) {x : Str} (hN : X.N[i]? = some x := by rfl) (hv : Vis X.env.scope x := by first | exact Or.inl rfl | exact Or.inr (Or.inl rfl) | exact Or.inr (Or.inr rfl)) (hd : (x == ("__debug__" : Str)) = false := by decide)
  (hcd : (x == ("__classdict__" : Str)) = false := by decide) : SE X E (.Name x pos) (eV i) := (cN hN hv hd hcd).weak fun _ _ _ h => w_V h
theorem kM {x : Str} {v : V} {u : Value} {d : PyData} (hm : X.mg x = some u) (r : RelV v u) (hd : ∀ G, Dt X.K G v d) (hg : Gl X x := by rfl) (hdb : (x == ("__debug__" : Str)) = false := by decide) : SE X E (.Name x pos) (eC d) :=
 (kx hg hm r hdb).weak fun σ H Q ⟨G0, H0, G, δ, R, m⟩ => m _ H G R (.refl _) (RR.sh (hd G))
theorem gx {k : Nat} (h : PA X es (tOs X.K X.mg E ops)) : SE X E (.Tuple es k pos) (eOp dTup ops) := (rp h).weak fun σ H Q q => by
 refine eS (r := fun xs H1 Q => xs.length <= sizeLine /\ ∀ p, H1 p = none -> Q (.ref p) (upd H1 p (.tup xs))) (fun G H vs ds res Q hg hd ho k => ?_) q
 unfold dTup at ho
 split at ho
 ·cases ho
  exact ⟨by rw [hd.len]; assumption, fun p hp => k _ _ _ (.laid hg hp) (iJ hg hp hd)⟩
 ·cases ho
theorem e6 (h : PA X es (tOs X.K X.mg E ops)) : SE X E (.List es pos) (eOp dLst ops) := (rq h).weak fun σ H Q q => by
 refine eS (r := fun xs H1 Q => xs.length <= sizeLine /\ ∀ p, H1 p = none -> Q (.ref p) (upd H1 p (.lst xs))) (fun G H vs ds res Q hg hd ho k => ?_) q
 unfold dLst at ho
 split at ho
 ·cases ho
  exact ⟨by rw [hd.len]; assumption, fun p hp => k _ _ _ (.laidO hg hp) (eT hg hp hd)⟩
 ·cases ho
theorem je : SE X E (.Dict [] [] pos) zP := mX.weak fun σ H Q ⟨G0, H0, G, δ, R, m⟩ p hp =>
 m _ _ G (R.grow (.laidO R.g.gh hp)) (.refl _) (RR.of_new R (uZ R.g.gh hp .nil))
end
end L2
namespace L2
open PySem PySem.Spec PyProof.Rows
variable [Tabs]
section
variable {K : W.Frag} {G : Hp}
theorem dts1 {vs : List V} {a : PyData} (h : Dts K G vs [a]) : ∃ x, vs = [x] /\ Dt K G x a := by
 cases h with
 | cons h1 t => cases t; exact ⟨_, rfl, h1⟩
theorem dts2 {vs : List V} {a b : PyData} (h : Dts K G vs [a, b]) : ∃ x y, vs = [x, y] /\ Dt K G x a /\ Dt K G y b := by
 cases h with
 | cons h1 t =>
  obtain ⟨y, rfl, h2⟩ := dts1 t
  exact ⟨_, y, rfl, h1, h2⟩
end
theorem Inv.lstR {X : Cx} {pins : yd} {σ : St} {H : Hp} {s : Shared} {l : Addr} {xs : List V} (I : Inv X pins σ H s) (h : SqR X.K H l xs) :
  xs.length <= sizeLine /\ ∃ (its : List Value) (n : Nat), Vals xs its /\ xs.length = its.length /\ s.heap.get? l = some { cls := .type "list", data := .seq its.toArray n } := by
 rcases h with h | ⟨its, n, h1, h2, h3⟩
 ·obtain ⟨z, its, n, r, e⟩ := h.ok I.hok
  exact ⟨z, its, n, r, r.length, e⟩
 ·exact ⟨by rw [h3.length, Array.length_toList]; exact h2, its.toList, n, h3, h3.length, by simpa using I.kIn _ _ h1⟩
section
variable {X : Cx}
noncomputable def Ao (K : W.Frag) : R2 := fun x y H Q => ∃ l b xs zs, x = .ref l /\ y = .ref b /\ SqR K H l xs /\ SqR K H b zs /\ xs.length + zs.length <= sizeLine /\ ∀ p, H p = none -> Q (.ref p) (upd H p (.lst (xs ++ zs)))
theorem oR : OpR X (binaryOp .Add) (Ao X.K) := by
 intro pins s σ H x y v u Q I rx ry h
 obtain ⟨l, b, xs, zs, rfl, rfl, hH, hB, hz, q⟩ := h
 cases rx
 cases ry
 obtain ⟨z, its, n, r, hl, e⟩ := I.lstR hH
 obtain ⟨z2, its2, n2, r2, hl2, e2⟩ := I.lstR hB
 refine PySem.P.add_list e e2 ?_ (by rw [List.size_toArray, List.size_toArray]; lia)
 rw [show its.toArray ++ its2.toArray = (its ++ its2).toArray by simp]
 exact ⟨.ref _, _, I.lnew (t' := s.toks) (r.append r2) (by rw [List.length_append]; lia), rfl, q _ I.fresh⟩
noncomputable def Ap (K : W.Frag) : R2 := fun x y H Q => ∃ a b xs ys, x = .ref a /\ y = .ref b /\ SqT K H a xs /\ SqT K H b ys /\ xs.length + ys.length <= sizeLine /\
 (xs = [] -> Q (.ref b) H) /\ (xs ≠ [] -> ys = [] -> Q (.ref a) H) /\ (xs ≠ [] -> ys ≠ [] -> ∀ p, H p = none -> Q (.ref p) (upd H p (.tup (xs ++ ys))))
theorem oS : OpR X (binaryOp .Add) (Ap X.K) := by
 intro pins s σ H x y v u Q I rx ry h
 obtain ⟨a, b, xs, ys, rfl, rfl, ha, hb, hz, q1, q2, q3⟩ := h
 by_cases hx : xs = []
 ·subst hx
  cases rx
  cases ry
  obtain ⟨its, r1, ⟨⟨c1, d1, dt1, sl1⟩, ho1, hc1, n1, hd1⟩, _⟩ := I.tuple ha
  obtain ⟨its2, r2, ⟨⟨c2, d2, dt2, sl2⟩, ho2, hc2, n2, hd2⟩, _⟩ := I.tuple hb
  simp only at hc1 hd1 hc2 hd2
  subst hc1 hd1 hc2 hd2
  have e : its = [] := r1.zero
  subst e
  exact concat_meets ⟨_, ho1, rfl⟩ ⟨_, ho2, rfl⟩ noFill_tuple_add seq_tuple_add PySem.F.slot_tuple_add PySem.F.entry_tuple_add (PySem.F.args_tuple_add_2 _ _) (tuple_addW0 a b #[] its2.toArray n1 n2 d1 d2 sl1 sl2 rfl) ⟨ho1, ho2, ⟨.ref b, H, I, rfl, q1 rfl⟩⟩
 ·exact ow pins s σ H _ _ v u Q I rx ry ⟨a, b, xs, ys, rfl, rfl, ha, hb, hx, hz, q2 hx, q3 hx⟩
noncomputable def Ae (K : W.Frag) : R2 := fun x y H Q => match x, y with
 | .int i, .int j => Q (.int (i + j)) H
 | .str i, .str j => i.length + j.length <= sizeLine /\ Q (.str (i ++ j)) H
 | x, y => Ao K x y H Q \/ Ap K x y H Q
theorem oU : OpR X (binaryOp .Add) (Ae X.K) := by
 intro pins s σ H x y v u Q I rx ry h
 unfold Ae at h
 split at h
 next i j => exact rg pins s σ H _ _ v u Q I rx ry ⟨i, j, rfl, rfl, h⟩
 next i j => exact jO pins s σ H _ _ v u Q I rx ry ⟨i, j, rfl, rfl, h.1, h.2⟩
 next =>
  rcases h with h | h
  ·exact oR pins s σ H _ _ v u Q I rx ry h
  ·exact oS pins s σ H _ _ v u Q I rx ry h
end
noncomputable def dAdd : yb -> Option SD
 | [.int i, .int j] => some (.sh (.int (i + j)))
 | [.str x, .str y] => if x.length + y.length <= sizeLine then some (.sh (.str (x ++ y))) else none
 | [.list xs, .list ys] => if xs.length + ys.length <= sizeLine then some (.ol (xs ++ ys)) else none
 | [.tuple xs, .tuple ys] => if xs.length + ys.length <= sizeLine then some (.sh (.tuple (xs ++ ys))) else none
 | _ => none
theorem Dts.nil_iff {K : W.Frag} {G : Hp} {vs : List V} {ds : yb} (h : Dts K G vs ds) : vs = [] ↔ ds = [] := by
 cases h <;> simp
section
variable {K : W.Frag} {mg : yc}
theorem v7 : yo K mg dAdd (l2 (Ae K)) := by
 intro G H vs ds res Q hg hd ho k
 unfold dAdd at ho
 split at ho
 next i j =>
  cases ho
  obtain ⟨x, y, rfl, h1, h2⟩ := dts2 hd
  cases h1
  cases h2
  exact ans k hg (.int _)
 next x y =>
  split at ho
  next hz =>
   cases ho
   obtain ⟨x, y, rfl, h1, h2⟩ := dts2 hd
   cases h1
   cases h2
   exact ⟨hz, ans k hg (.str _)⟩
  next => cases ho
 next xs ys =>
  split at ho
  next hz =>
   cases ho
   obtain ⟨x, y, rfl, h1, h2⟩ := dts2 hd
   cases h1 with
   | lst q1 r1 =>
    cases h2 with
    | lst q2 r2 =>
     refine .inl ⟨_, _, _, _, rfl, rfl, hg.sqr q1, hg.sqr q2, by rw [r1.len, r2.len]; exact hz, fun p hp => ?_⟩
     exact k _ _ _ (.laidO hg hp) (eT hg hp (r1.append r2))
  next => cases ho
 next xs ys =>
  split at ho
  next hz =>
   cases ho
   obtain ⟨x, y, rfl, h1, h2⟩ := dts2 hd
   cases h1 with
   | tup q1 r1 =>
    cases h2 with
    | tup q2 r2 =>
     refine .inr ⟨_, _, _, _, rfl, rfl, hg.tup q1, hg.tup q2, by rw [r1.len, r2.len]; exact hz, fun e => ?_, fun e e2 => ?_, fun e e2 p hp => ?_⟩
     ·have e' := r1.nil_iff.mp e
      subst e'
      exact ans k hg (.tup q2 r2)
     ·have e' := r2.nil_iff.mp e2
      subst e'
      exact ans k hg (by rw [List.append_nil]; exact .tup q1 r1)
     ·exact k _ _ _ (.laid hg hp) (iJ hg hp (r1.append r2))
  next => cases ho
 next => cases ho
end
section
variable {X : Cx} {E : XK} {a b e : Expr} {oa ob : Opd} {pos : Pos}
theorem aI (ha : SO X E a oa) (hb : SO X E b ob) : SE X E (.BinOp a .Add b pos) (eOp dAdd [oa, ob]) := fE oU v7 ha hb
end
noncomputable def dI2 (C : Int -> Int -> Bool) (g : Int -> Int -> PyData) : yb -> Option SD
 | [.int i, .int j] => if C i j = true then some (.sh (g i j)) else none
 | _ => none
theorem rO {K : W.Frag} {mg : yc} {C : Int -> Int -> Bool} {D : Int -> Int -> Prop} {g : Int -> Int -> PyData} {gv : Int -> Int -> V} (hC : ∀ i j, C i j = true -> D i j) (hv : ∀ i j G, Dt K G (gv i j) (g i j)) : yo K mg (dI2 C g) (l2 (rI D gv)) := by
 intro G H vs ds res Q hg hd ho k
 unfold dI2 at ho
 split at ho
 next i j =>
  split at ho
  next hc =>
   cases ho
   obtain ⟨x, y, rfl, h1, h2⟩ := dts2 hd
   cases h1
   cases h2
   exact ⟨i, j, rfl, rfl, hC i j hc, ans k hg (hv i j G)⟩
  next => cases ho
 next => cases ho
noncomputable def dI0 (g : Int -> Int -> PyData) : yb -> Option SD
 | [.int i, .int j] => some (.sh (g i j))
 | _ => none
theorem lX {K : W.Frag} {mg : yc} {g : Int -> Int -> PyData} {gv : Int -> Int -> V} (hv : ∀ i j G, Dt K G (gv i j) (g i j)) : yo K mg (dI0 g) (l2 (rI0 gv)) := by
 intro G H vs ds res Q hg hd ho k
 unfold dI0 at ho
 split at ho
 next i j =>
  cases ho
  obtain ⟨x, y, rfl, h1, h2⟩ := dts2 hd
  cases h1
  cases h2
  exact ⟨i, j, rfl, rfl, ans k hg (hv i j G)⟩
 next => cases ho
def dSub := dI0 fun i j => .int (i - j)
noncomputable def zr := dI2 (fun i j => decide (0 < j /\ j < 1073741824)) fun i j => .int (i / j)
noncomputable def dMod := dI2 (fun i j => decide (0 < j)) fun i j => .int (i % j)
noncomputable def dPow := dI2 (fun i j => decide (0 <= j /\ j <= 1000000 /\ i.natAbs < 2 ^ 64)) fun i j => .int (i ^ j.toNat)
def dLt := dI0 fun i j => .bool (decide (i < j))
def dLe := dI0 fun i j => .bool (decide (i <= j))
def dGt := dI0 fun i j => .bool (decide (j < i))
def dGe := dI0 fun i j => .bool (decide (j <= i))
noncomputable def dNeg : yb -> Option SD
 | [.int i] => some (.sh (.int (-i)))
 | _ => none
theorem v8 {K : W.Frag} {mg : yc} : yo K mg dNeg (l1 (rU fun i => .int (-i))) := by
 intro G H vs ds res Q hg hd ho k
 unfold dNeg at ho
 split at ho
 next i =>
  cases ho
  obtain ⟨x, rfl, h1⟩ := dts1 hd
  cases h1
  exact ⟨i, rfl, ans k hg (.int _)⟩
 next => cases ho
section
variable {X : Cx} {E : XK} {a b e : Expr} {oa ob : Opd} {pos : Pos}
theorem rP (ha : SO X E a oa) (hb : SO X E b ob) : SE X E (.BinOp a .Sub b pos) (eOp dSub [oa, ob]) := fE rh (lX fun _ _ _ => .int _) ha hb
theorem g8 (ha : SO X E a oa) (hb : SO X E b ob) : SE X E (.BinOp a .FloorDiv b pos) (eOp zr [oa, ob]) := fE om (rO (fun i j h => (of_decide_eq_true h : 0 < j /\ j < 1073741824)) fun _ _ _ => .int _) ha hb
theorem cD (ha : SO X E a oa) (hb : SO X E b ob) : SE X E (.BinOp a .Mod b pos) (eOp dMod [oa, ob]) := fE rk (rO (fun _ _ h => of_decide_eq_true h) fun _ _ _ => .int _) ha hb
theorem rQ (ha : SO X E a oa) (hb : SO X E b ob) : SE X E (.BinOp a .Pow b pos) (eOp dPow [oa, ob]) := fE rl (rO (fun i j h => (of_decide_eq_true h : 0 <= j /\ j <= 1000000 /\ i.natAbs < 2 ^ 64)) fun _ _ _ => .int _) ha hb
theorem v9 (ha : SO X E a oa) (hb : SO X E b ob) : SE X E (.Compare a [.LtE] [b] pos) (eOp dLe [oa, ob]) := iK qo (lX fun _ _ _ => .bl _) ha hb (nomark _)
theorem va (ha : SO X E a oa) (hb : SO X E b ob) : SE X E (.Compare a [.GtE] [b] pos) (eOp dGe [oa, ob]) := iK uT (lX fun _ _ _ => .bl _) ha hb (nomark _)
theorem iL (ha : SO X E a oa) : SE X E (.UnaryOp .USub a pos) (eOp dNeg [oa]) := v3 rm v8 ha
end
noncomputable def Aq (K : W.Frag) : R2 := fun x y H Q => ∃ l k xs, x = .ref l /\ y = .int k /\ SqR K H l xs /\ 0 <= k /\ k < 2 ^ 63 /\ xs.length * k.toNat <= sizeLine /\ ∀ p, H p = none -> Q (.ref p) (upd H p (.lst (List.replicate k.toNat xs).flatten))
section
variable {X : Cx}
theorem oV : OpR X (binaryOp .Mult) (Aq X.K) := by
 intro pins s σ H x y v u Q I rx ry h
 obtain ⟨l, k, xs, rfl, rfl, hH, h1, h2, hz, q⟩ := h
 cases rx
 obtain ⟨t, rfl⟩ := ry
 obtain ⟨z, its, n, r, hl, e⟩ := I.lstR hH
 have hlen : its.toArray.size * k.toNat <= sizeLine := by rw [List.size_toArray, <- hl]; exact hz
 have hcap : ¬ its.toArray.size * k.toNat > (2 ^ 63 - 1) / 8 := by
  have : (sizeLine : Nat) <= (2 ^ 63 - 1) / 8 := by decide
  lia
 have hfit : ¬ (!Builtin.List.listFitsIndex k) = true := by
  rw [fitsIndex_both (by lia) h2]
  exact Bool.false_ne_true
 have hlong : ¬ Builtin.List.listTooLong (its.toArray.size * k.toNat) = true := by
  rw [Ad hlen]
  exact Bool.false_ne_true
 have hnew : List.foldl (fun x1 x2 => x1 ++ x2) #[] (List.replicate (if its.toArray.isEmpty = true then 0 else k.toNat) its.toArray) = (List.replicate k.toNat its).flatten.toArray := by
  have f0 : ∀ m : Nat, List.foldl (fun x1 x2 => x1 ++ x2) #[] (List.replicate m its.toArray) = (List.replicate m its).flatten.toArray := fun m => by simpa using ia its m []
  rw [f0]
  cases its with
  | nil => simp
  | cons a r' => rw [if_neg (by simp)]
 refine wpAny_binaryOp_repeat_ref (T := "list") (U := "int") (by decide) ⟨_, e, rfl⟩ (fun s' => typeIs_int s' k t) noFill_list_mul PySem.F.fills_int_mul PySem.F.slot_int_rmul repeat_list PySem.F.slot_int_index.lookup
  (call_meets PySem.F.slot_int_rmul (typeIs_int s k t) PySem.F.entry_int_rmul (PySem.F.args_int_rmul_2 _ _) (int___rmul___int_list k t l its.toArray n)
   ⟨e, rfl, ⟨_, e, rfl⟩, call_meets PySem.F.slot_list_mul ⟨_, e, rfl⟩ PySem.F.entry_list_mul (PySem.F.args_list_mul_2 _ _) (AutoListH.list___mul___list_int_3 l its.toArray n k t hfit hcap hlong) ⟨e, ?_⟩⟩)
 rw [hnew]
 exact ⟨.ref _, _, I.lnew (t' := s.toks) (r.rep k.toNat) (by rw [oz, Nat.mul_comm]; exact hz), rfl, q _ I.fresh⟩
noncomputable def Ar : R2 := fun x y H Q => ∃ z k, x = .str z /\ y = .int k /\ ((k = 0 /\ Q (.str Str.empty) H) \/ (k = 1 /\ Q (.str z) H))
theorem oW : OpR X (binaryOp .Mult) Ar := by
 intro pins s σ H x y v u Q I rx ry h
 obtain ⟨z, k, rfl, rfl, h⟩ := h
 obtain ⟨t, rfl⟩ := rx
 obtain ⟨t', rfl⟩ := ry
 rcases h with ⟨rfl, q⟩ | ⟨rfl, q⟩
 ·exact PySem.P.mul_str_none (by decide) (by decide) ⟨.str _, H, I.tok _, ⟨_, rfl⟩, q⟩
 ·refine PySem.P.mul_str (by decide) (fun _ h => by simp at h) (fun _ h => by simp at h) ?_
  rw [if_neg (by decide), if_pos (by simp)]
  exact ⟨.str z, H, I, ⟨_, rfl⟩, q⟩
noncomputable def A4 (K : W.Frag) : R2 := fun x y H Q => match x, y with
 | .int i, .int j => CMul i j /\ Q (.int (i * j)) H
 | x, y => Aq K x y H Q \/ Ar x y H Q
theorem oX : OpR X (binaryOp .Mult) (A4 X.K) := by
 intro pins s σ H x y v u Q I rx ry h
 unfold A4 at h
 split at h
 next i j => exact rj pins s σ H _ _ v u Q I rx ry ⟨i, j, rfl, rfl, h⟩
 next =>
  rcases h with h | h
  ·exact oV pins s σ H _ _ v u Q I rx ry h
  ·exact oW pins s σ H _ _ v u Q I rx ry h
end
noncomputable def cMul (i j : Int) : Bool := decide ((-(2 ^ 64) < i /\ i < 2 ^ 64) \/ (-(2 ^ 64) < j /\ j < 2 ^ 64))
noncomputable def dMul : yb -> Option SD
 | [.int i, .int j] => if cMul i j = true then some (.sh (.int (i * j))) else none
 | [.list xs, .int k] => if 0 <= k /\ k < 2 ^ 63 /\ xs.length * k.toNat <= sizeLine then some (.ol (List.replicate k.toNat xs).flatten) else none
 | [.str z, .int k] => if k = 0 then some (.sh (.str Str.empty)) else if k = 1 then some (.sh (.str z)) else none
 | _ => none
theorem vb {K : W.Frag} {mg : yc} : yo K mg dMul (l2 (A4 K)) := by
 intro G H vs ds res Q hg hd ho k
 unfold dMul at ho
 split at ho
 next i j =>
  split at ho
  next hc =>
   cases ho
   obtain ⟨x, y, rfl, h1, h2⟩ := dts2 hd
   cases h1
   cases h2
   exact ⟨(of_decide_eq_true hc : (-(2 ^ 64) < i /\ i < 2 ^ 64) \/ (-(2 ^ 64) < j /\ j < 2 ^ 64)), ans k hg (.int _)⟩
  next => cases ho
 next xs n =>
  split at ho
  next hc =>
   cases ho
   obtain ⟨x, y, rfl, h1, h2⟩ := dts2 hd
   cases h2
   cases h1 with
   | lst q1 r1 =>
    refine .inl ⟨_, n, _, rfl, rfl, hg.sqr q1, hc.1, hc.2.1, by rw [r1.len]; exact hc.2.2, fun p hp => ?_⟩
    exact k _ _ _ (.laidO hg hp) (eT hg hp (r1.reps _))
  next => cases ho
 next z n =>
  obtain ⟨x, y, rfl, h1, h2⟩ := dts2 hd
  cases h1
  cases h2
  split at ho
  next e => cases ho; exact .inr ⟨z, n, rfl, rfl, .inl ⟨e, ans k hg (.str _)⟩⟩
  next =>
   split at ho
   next e => cases ho; exact .inr ⟨z, n, rfl, rfl, .inr ⟨e, ans k hg (.str _)⟩⟩
   next => cases ho
 next => cases ho
noncomputable def dEqB : PyData -> PyData -> Option Bool
 | .int i, .int j => some (decide (i = j))
 | .bool i, .bool j => some (decide (i = j))
 | .str i, .str j => some (decide (i = j))
 | x, y => if SeqAt.shaped x = true /\ SeqAt.shaped y = true then some (PyData.eqv x y) else none
noncomputable def dEq : yb -> Option SD
 | [x, y] => (dEqB x y).map fun b => .sh (.bool b)
 | _ => none
noncomputable def dNe : yb -> Option SD
 | [x, y] => (dEqB x y).map fun b => .sh (.bool !b)
 | _ => none
theorem kO {K : W.Frag} {neg : Bool} {G H : Hp} {x y : V} {dx dy : PyData} {b : Bool} {Q : VK} (hg : Same G H) (h1 : Dt K G x dx) (h2 : Dt K G y dy) (e : dEqB dx dy = some b) (q : Q (.bl (if neg then !b else b)) H) : rEqM K neg x y H Q := by
 unfold dEqB at e
 split at e
 next i j => cases e; cases h1; cases h2; exact q
 next i j => cases e; cases h1; cases h2; exact q
 next i j => cases e; cases h1; cases h2; exact q
 next n1 n2 n3 =>
  split at e
  next hs =>
   cases e
   have h1' := h1.mono hg
   have h2' := h2.mono hg
   unfold rEqM
   split
   next i j => cases h1; cases h2; exact (n1 _ _ rfl rfl).elim
   next i j => cases h1; cases h2; exact (n2 _ _ rfl rfl).elim
   next i j => cases h1; cases h2; exact (n3 _ _ rfl rfl).elim
   next => exact ⟨dx, dy, h1', h2', hs.1, hs.2, q⟩
  next => cases e
theorem vc {K : W.Frag} {mg : yc} : yo K mg dEq (l2 (rEqM K false)) := by
 intro G H vs ds res Q hg hd ho k
 unfold dEq at ho
 split at ho
 next x y =>
  obtain ⟨b, e, rfl⟩ := Option.map_eq_some_iff.mp ho
  obtain ⟨v, u, rfl, h1, h2⟩ := dts2 hd
  exact kO hg h1 h2 e (ans k hg (.bl _))
 next => cases ho
theorem xG {K : W.Frag} {mg : yc} : yo K mg dNe (l2 (rEqM K true)) := by
 intro G H vs ds res Q hg hd ho k
 unfold dNe at ho
 split at ho
 next x y =>
  obtain ⟨b, e, rfl⟩ := Option.map_eq_some_iff.mp ho
  obtain ⟨v, u, rfl, h1, h2⟩ := dts2 hd
  exact kO hg h1 h2 e (ans k hg (.bl _))
 next => cases ho
noncomputable def yx : PyData -> Option Key
 | .int i => some (.inl i)
 | .str x => some (.inr x)
 | _ => none
theorem d9 (k : Key) : yx (keyD k) = some k := by cases k <;> rfl
noncomputable def zh (es : List (PyData × PyData)) (k : Key) : Option PyData := (es.find? fun p => decide (yx p.1 = some k)).map (·.2)
noncomputable def zK : PyData -> PyData -> Option PyData
 | .list xs, .int i => atI xs i
 | .tuple xs, .int i => atI xs i
 | .dict es, k => (yx k).bind (zh es)
 | _, _ => none
noncomputable def dIdx : yb -> Option SD
 | [x, y] => (zK x y).map .sh
 | _ => none
theorem Dts.atI {K : W.Frag} {G : Hp} {vs : List V} {ds : yb} {i : Int} {d : PyData} (h : Dts K G vs ds) (e : L2.atI ds i = some d) : ∃ v, L2.atI vs i = some v /\ Dt K G v d := by
 unfold L2.atI at e ⊢
 rw [h.len]
 obtain ⟨j, e1, e2⟩ := Option.bind_eq_some_iff.mp e
 obtain ⟨v, h1, h2⟩ := h.get' e2
 exact ⟨v, by rw [e1]; exact h1, h2⟩
theorem Des.find {K : W.Frag} {G : Hp} {k : Key} : ∀ {kvs : List (Key × V)} {es : List (PyData × PyData)} {d : PyData}, Des K G kvs es -> zh es k = some d -> ∃ v, valV kvs k = some v /\ Dt K G v d
 | _, _, _, .nil, e => by cases e
 | _, _, d, .cons (k := j) (v := v) (d := d') x r, e => by
  unfold zh at e
  rw [List.find?_cons] at e
  by_cases hk : j = k
  ·subst hk
   simp only [d9, decide_true, if_true, Option.map_some, Option.some.injEq] at e
   subst e
   exact ⟨v, eN rfl, x⟩
  ·have : ¬ (yx (keyD j) = some k) := by rw [d9]; simpa using hk
   simp only [this, decide_false] at e
   obtain ⟨u, h1, h2⟩ := Des.find r e
   exact ⟨u, by rw [eO hk]; exact h1, h2⟩
theorem ni {K : W.Frag} {G : Hp} {y : V} {dy : PyData} {k : Key} (h : Dt K G y dy) (e : yx dy = some k) : y = kV k := by
 cases h <;> simp [yx] at e <;> subst e <;> rfl
theorem nj {K : W.Frag} {mg : yc} : yo K mg dIdx (l2 (rIxA K)) := by
 intro G H vs ds res Q hg hd ho k
 unfold dIdx at ho
 split at ho
 next x y =>
  obtain ⟨d, e, rfl⟩ := Option.map_eq_some_iff.mp ho
  obtain ⟨v, u, rfl, h1, h2⟩ := dts2 hd
  unfold zK at e
  split at e
  next xs i =>
   cases h2
   cases h1 with
   | lst q1 r1 =>
    obtain ⟨w, e1, e2⟩ := r1.atI e
    exact .inl ⟨_, w, .inl (hg.sqr q1).sq, e1, ans k hg e2⟩
  next xs i =>
   cases h2
   cases h1 with
   | tup q1 r1 =>
    obtain ⟨w, e1, e2⟩ := r1.atI e
    exact .inl ⟨_, w, .inr (hg.tup q1), e1, ans k hg e2⟩
  next es y' =>
   obtain ⟨kk, e1, e2⟩ := Option.bind_eq_some_iff.mp e
   have := ni h2 e1
   subst this
   cases h1 with
   | dct q1 r1 =>
    obtain ⟨w, e3, e4⟩ := r1.find e2
    exact .inr ⟨_, w, rfl, .inl ⟨_, kk, Rd.of (hg _ _ q1), rfl, e3.symm⟩, ans k hg e4⟩
  next => cases e
 next => cases ho
noncomputable def cutD (xs : yb) (lo hi : Option Int) : yb := (xs.drop (HT.sIx xs.length 0 lo)).take (HT.sIx xs.length xs.length hi - HT.sIx xs.length 0 lo)
theorem Dts.cut {K : W.Frag} {G : Hp} {vs : List V} {ds : yb} (h : Dts K G vs ds) (lo hi : Option Int) : Dts K G (cutV vs lo hi) (cutD ds lo hi) := by
 unfold cutV cutD
 rw [h.len]
 exact (h.drop _).take _
section
variable {X : Cx} {E : XK} {a b e : Expr} {es : List Expr} {oa ob : Opd} {ops : List Opd} {pos : Pos}
theorem qr (hu : X.A.units + 64 < cLine) (ha : SO X E a oa) (hb : SO X E b ob) : SE X E (.Compare a [.Eq] [b] pos) (eOp dEq [oa, ob]) := iK (n4 hu) vc ha hb (nomark _)
end
section
variable {X : Cx}
noncomputable def rSlS (K : W.Frag) : V -> Option Int -> Option Int -> Hp -> VK -> Prop := fun x lo hi H Q => ∃ a xs, x = .ref a /\ SqT K H a xs /\ (cutV xs lo hi = xs -> Q (.ref a) H) /\ ∀ p, H p = none -> Q (.ref p) (upd H p (.tup (cutV xs lo hi)))
theorem oY : SlR X (rSlS X.K) := by
 intro pins s σ H x v vl vu lo hi sl Q I rx hs pl pu h
 obtain ⟨a, xs, rfl, hx, q1, q2⟩ := h
 by_cases hw : HT.sIx xs.length 0 lo = 0 /\ HT.sIx xs.length xs.length hi = xs.length
 ·cases rx
  obtain ⟨its, r, ht, hz⟩ := I.tuple hx
  have hlen : its.toArray.size = xs.length := by rw [List.size_toArray]; exact r.length.symm
  refine ⟨"tuple", _, slot_tuple_getitem.lookup, ht.typeIs, ?_⟩
  refine HT.eQ ht hs pl pu (by rw [hlen]; exact hw) ⟨.ref a, H, I, rfl, q1 ?_⟩
  unfold cutV
  rw [hw.1, hw.2]
  simp
 ·exact rB pins s σ H _ v vl vu lo hi sl Q I rx hs pl pu ⟨a, xs, rfl, hx, hw, q2⟩
noncomputable def rSlD (K : W.Frag) : V -> Option Int -> Option Int -> Hp -> VK -> Prop := fun x lo hi H Q => rSlL K x lo hi H Q \/ rSlS K x lo hi H Q
theorem xH : SlR X (rSlD X.K) := oy.or oY
end
noncomputable def slD (x : PyData) (lo hi : Option Int) : Option SD := match x with
 | .list xs => some (.ol (cutD xs lo hi))
 | .tuple xs => some (.sh (.tuple (cutD xs lo hi)))
 | _ => none
theorem vd {K : W.Frag} {mg : yc} {G H : Hp} {x : V} {d : PyData} {lo hi : Option Int} {res : SD} {Q : VK} (hg : Same G H) (hd : Dt K G x d) (ho : slD d lo hi = some res)
  (k : ∀ v H' G', Grow G H G' H' -> VN K mg H G' H' v res -> Q v H') : rSlD K x lo hi H Q := by
 unfold slD at ho
 split at ho
 next xs =>
  cases ho
  cases hd with
  | lst q r => exact .inl ⟨_, _, rfl, (hg.sqr q).sq, fun p hp => k _ _ _ (.laidO hg hp) (eT hg hp (r.cut lo hi))⟩
 next xs =>
  cases ho
  cases hd with
  | tup q r =>
   refine .inr ⟨_, _, rfl, hg.tup q, fun e => ?_, fun p hp => k _ _ _ (.laid hg hp) (iJ hg hp (r.cut lo hi))⟩
   have r' := r.cut lo hi
   rw [e] at r'
   exact ans k hg (.tup q r')
 next => cases ho
noncomputable def dSlL : yb -> Option SD
 | [x, .int l] => slD x (some l) none
 | _ => none
section
variable {X : Cx} {E : XK} {e l h : Expr} {oe ol oh : Opd} {pos p2 : Pos}
end
section
variable {X : Cx} {E : XK} {e k : Expr} {oe ok : Opd} {pos p2 : Pos}
end
noncomputable def dLen : yb -> Option SD
 | [.list xs] => some (.sh (.int xs.length))
 | [.tuple xs] => some (.sh (.int xs.length))
 | [.dict es] => some (.sh (.int es.length))
 | _ => none
theorem Des.len {K : W.Frag} {G : Hp} : ∀ {kvs : List (Key × V)} {es : List (PyData × PyData)}, Des K G kvs es -> kvs.length = es.length
 | _, _, .nil => rfl
 | _, _, .cons _ r => by rw [List.length_cons, List.length_cons, Des.len r]
noncomputable def Af (K : W.Frag) : List V -> Hp -> VK -> Prop := fun xs H Q => ∃ a n, xs = [.ref a] /\ ((∃ ys, SqL K H a ys /\ n = ys.length) \/ (∃ ys, SqT K H a ys /\ n = ys.length) \/ ∃ kvs, Rd H a (.dK kvs) /\ n = kvs.length) /\ Q (.int (n : Int)) H
theorem lY {X : Cx} : yG X (.builtin "len") (Af X.K) := by
 intro pins s σ H xs us Q I r h
 obtain ⟨a, n, rfl, h, q⟩ := h
 rcases h with ⟨ys, h, rfl⟩ | ⟨ys, h, rfl⟩ | ⟨kvs, h, rfl⟩
 ·exact eJ pins s σ H _ us Q I r ⟨a, ys, rfl, .inl h, q⟩
 ·exact eJ pins s σ H _ us Q I r ⟨a, ys, rfl, .inr h, q⟩
 ·obtain ⟨u, rfl, ru⟩ := vals1 r
  cases ru
  exact uY I h fun t s' I' => ⟨.int kvs.length, H, I', ⟨t, rfl⟩, q⟩
theorem ve {K : W.Frag} {mg : yc} : yo K mg dLen (Af K) := by
 intro G H vs ds res Q hg hd ho k
 unfold dLen at ho
 split at ho
 next xs =>
  cases ho
  obtain ⟨x, rfl, h1⟩ := dts1 hd
  cases h1 with
  | lst q r => exact ⟨_, _, rfl, .inl ⟨_, (hg.sqr q).sq, rfl⟩, by rw [r.len]; exact ans k hg (.int _)⟩
 next xs =>
  cases ho
  obtain ⟨x, rfl, h1⟩ := dts1 hd
  cases h1 with
  | tup q r => exact ⟨_, _, rfl, .inr (.inl ⟨_, hg.tup q, rfl⟩), by rw [r.len]; exact ans k hg (.int _)⟩
 next xs =>
  cases ho
  obtain ⟨x, rfl, h1⟩ := dts1 hd
  cases h1 with
  | dct q r => exact ⟨_, _, rfl, .inr (.inr ⟨_, Rd.of (hg _ _ q), rfl⟩), by rw [r.len]; exact ans k hg (.int _)⟩
 next => cases ho
noncomputable def dAbs : yb -> Option SD
 | [.int i] => some (.sh (.int (if i < 0 then -i else i)))
 | _ => none
theorem vf {K : W.Frag} {mg : yc} : yo K mg dAbs (fun xs H Q => ∃ i, xs = [.int i] /\ Q (.int (if i < 0 then -i else i)) H) := by
 intro G H vs ds res Q hg hd ho k
 unfold dAbs at ho
 split at ho
 next i =>
  cases ho
  obtain ⟨x, rfl, h1⟩ := dts1 hd
  cases h1
  exact ⟨i, rfl, ans k hg (.int _)⟩
 next => cases ho
noncomputable def zL : yb -> Option SD
 | [.int i] => some (.sh (.int i))
 | [.bool b] => some (.sh (.int (if b then 1 else 0)))
 | _ => none
theorem rR {K : W.Frag} {mg : yc} : yo K mg zL (fun xs H Q => (∃ i, xs = [.int i] /\ Q (.int i) H) \/ ∃ k, xs = [.bl k] /\ Q (.int (if k then 1 else 0)) H) := by
 intro G H vs ds res Q hg hd ho k
 unfold zL at ho
 split at ho
 next i =>
  cases ho
  obtain ⟨x, rfl, h1⟩ := dts1 hd
  cases h1
  exact .inl ⟨i, rfl, ans k hg (.int _)⟩
 next i =>
  cases ho
  obtain ⟨x, rfl, h1⟩ := dts1 hd
  cases h1
  exact .inr ⟨i, rfl, ans k hg (.int _)⟩
 next => cases ho
noncomputable def zC : yb -> Option SD
 | [.list xs] => some (.ol xs)
 | [.tuple xs] => some (.ol xs)
 | [.dict es] => some (.ol (es.map (·.1)))
 | _ => none
theorem Des.keys {K : W.Frag} {G : Hp} : ∀ {kvs : List (Key × V)} {es : List (PyData × PyData)}, Des K G kvs es -> Dts K G (kvs.map fun kv => kV kv.1) (es.map (·.1))
 | _, _, .nil => .nil
 | _, _, .cons (k := k) _ r => by
  rw [List.map_cons, List.map_cons]
  refine .cons ?_ (Des.keys r)
  cases k with
  | inl i => exact .int i
  | inr x => exact .str x
theorem jf {X : Cx} (hc : X.calm = true) : yG X (.type "list") (fun xs H Q => ∃ a kvs, xs = [.ref a] /\ Rd H a (.dK kvs) /\ ∀ p, H p = none -> Q (.ref p) (upd H p (.lst (kvs.map fun kv => kV kv.1)))) := by
 intro pins s σ H xs us Q I r h
 obtain ⟨a, kvs, rfl, ha, q⟩ := h
 obtain ⟨u, rfl, r1⟩ := vals1 r
 cases r1
 obtain ⟨hz, hsm, vs, kv, dd⟩ := (show yz X.prog X.w H s.heap a (.dK kvs) from ha.ok I.hok)
 obtain ⟨od, es, ep, dr⟩ := dd
 have da : s.heap.DictAt (yA X.prog X.w) a vs ep := ⟨od, es, dr⟩
 have hlen : kvs.length = vs.length := Paired.length kv
 refine W.kdl_call (W.kdl_dict hsm) (I.ok.hd hc) da (by lia) fun h' tk acc' c' hk ho hi => ?_
 refine ⟨.ref s.heap.objs.size, _, I.laid (t' := tk) hk (Nat.le_refl _) ?_, rfl, q _ (I.hok.fresh (Nat.le_refl _))⟩
 refine ⟨by rw [List.length_map]; exact hz, acc'.toList, c', ?_, by simpa using ho⟩
 refine fP (by rw [List.length_map, hlen, <- hi.1]; simp) fun j x u e1 e2 => ?_
 rw [List.getElem?_map] at e1
 cases e3 : kvs[j]? with
 | none => rw [e3] at e1; cases e1
 | some kv1 =>
  rw [e3] at e1
  simp only [Option.map_some, Option.some.injEq] at e1
  subst e1
  obtain ⟨k, x, e4, hk⟩ := hi.2 j u (by rw [<- Array.getElem?_toList]; exact e2)
  obtain ⟨q1, e5, ek, _⟩ := gp kv e3
  rw [e4] at e5
  cases e5
  rw [ek]
  rcases aL hk with ⟨i, t, rfl, rfl⟩ | ⟨y, t, rfl, rfl⟩
  ·exact ⟨t, rfl⟩
  ·exact ⟨t, rfl⟩
noncomputable def Ag (K : W.Frag) : List V -> Hp -> VK -> Prop := fun xs H Q => ∃ a ys, xs = [.ref a] /\ (SqL K H a ys \/ SqT K H a ys \/ ∃ kvs, Rd H a (.dK kvs) /\ ys = kvs.map fun kv => kV kv.1) /\ ∀ p, H p = none -> Q (.ref p) (upd H p (.lst ys))
theorem jW {X : Cx} (hc : X.calm = true) : yG X (.type "list") (Ag X.K) := by
 intro pins s σ H xs us Q I r h
 obtain ⟨a, ys, rfl, h, q⟩ := h
 rcases h with h | h | ⟨kvs, h, rfl⟩
 ·exact eM pins s σ H _ us Q I r ⟨a, ys, rfl, .inl h, q⟩
 ·exact eM pins s σ H _ us Q I r ⟨a, ys, rfl, .inr h, q⟩
 ·exact jf hc pins s σ H _ us Q I r ⟨a, kvs, rfl, h, q⟩
theorem rS {K : W.Frag} {mg : yc} : yo K mg zC (Ag K) := by
 intro G H vs ds res Q hg hd ho k
 unfold zC at ho
 split at ho
 next xs =>
  cases ho
  obtain ⟨x, rfl, h1⟩ := dts1 hd
  cases h1 with
  | lst q r => exact ⟨_, _, rfl, .inl ((hg.sqr q).sq), fun p hp => k _ _ _ (.laidO hg hp) (eT hg hp r)⟩
 next xs =>
  cases ho
  obtain ⟨x, rfl, h1⟩ := dts1 hd
  cases h1 with
  | tup q r => exact ⟨_, _, rfl, .inr (.inl (hg.tup q)), fun p hp => k _ _ _ (.laidO hg hp) (eT hg hp r)⟩
 next xs =>
  cases ho
  obtain ⟨x, rfl, h1⟩ := dts1 hd
  cases h1 with
  | dct q r => exact ⟨_, _, rfl, .inr (.inr ⟨_, Rd.of (hg _ _ q), rfl⟩), fun p hp => k _ _ _ (.laidO hg hp) (eT hg hp r.keys)⟩
 next => cases ho
noncomputable def zb : yb -> Option SD
 | [.list xs] => some (.sh (.tuple xs))
 | [.tuple xs] => some (.sh (.tuple xs))
 | _ => none
theorem oZ {K : W.Frag} {mg : yc} : yo K mg zb (fun xs H Q => ∃ p ys, xs = [.ref p] /\ ((SqL K H p ys /\ ∀ l, H l = none -> Q (.ref l) (upd H l (.tup ys))) \/ (SqT K H p ys /\ Q (.ref p) H))) := by
 intro G H vs ds res Q hg hd ho k
 unfold zb at ho
 split at ho
 next xs =>
  cases ho
  obtain ⟨x, rfl, h1⟩ := dts1 hd
  cases h1 with
  | lst q r => exact ⟨_, _, rfl, .inl ⟨(hg.sqr q).sq, fun p hp => k _ _ _ (.laid hg hp) (iJ hg hp r)⟩⟩
 next xs =>
  cases ho
  obtain ⟨x, rfl, h1⟩ := dts1 hd
  cases h1 with
  | tup q r => exact ⟨_, _, rfl, .inr ⟨hg.tup q, ans k hg (.tup q r)⟩⟩
 next => cases ho
noncomputable def zl : yb -> Option (List Int)
 | [] => some []
 | .int i :: r => (zl r).map (i :: ·)
 | _ :: _ => none
theorem jg {K : W.Frag} {G : Hp} : ∀ {vs : List V} {ds : yb} {ns : List Int}, Dts K G vs ds -> zl ds = some ns -> vs = ns.map V.int
 | _, _, _, .nil, e => by cases e; rfl
 | _, _, _, .cons (d := d) h r, e => by
  cases d with
  | int i =>
   simp only [zl, Option.map_eq_some_iff] at e
   obtain ⟨ns, e1, rfl⟩ := e
   cases h
   rw [jg r e1, List.map_cons]
  | _ => cases e
noncomputable def insI (x : Int) : List Int -> List Int
 | [] => [x]
 | y :: r => if x <= y then x :: y :: r else y :: insI x r
noncomputable def yS : List Int -> List Int
 | [] => []
 | x :: r => insI x (yS r)
theorem fF (x : Int) : ∀ l, (insI x l).Perm (x :: l)
 | [] => .refl _
 | y :: r => by
  unfold insI
  split
  ·exact .refl _
  ·exact ((fF x r).cons y).trans (.swap x y r)
theorem cE : ∀ l, (yS l).Perm l
 | [] => .refl _
 | x :: r => (fF x _).trans ((cE r).cons x)
theorem ij (x : Int) : ∀ l, l.Pairwise (· <= ·) -> (insI x l).Pairwise (· <= ·)
 | [], _ => by simp [insI]
 | y :: r, h => by
  obtain ⟨h1, h2⟩ := List.pairwise_cons.mp h
  unfold insI
  split
  next hxy => exact List.pairwise_cons.mpr ⟨fun z hz => by
    rcases List.mem_cons.mp hz with e | e
    ·rw [e]; exact hxy
    ·exact Int.le_trans hxy (h1 z e), h⟩
  next hxy => exact List.pairwise_cons.mpr ⟨fun z hz => by
    rcases List.mem_cons.mp ((fF x r).mem_iff.mp hz) with e | e
    ·rw [e]; lia
    ·exact h1 z e, ij x r h2⟩
theorem e7 : ∀ l, (yS l).Pairwise (· <= ·)
 | [] => .nil
 | x :: r => ij x _ (e7 r)
theorem nk {r l : List Int} (hp : r.Perm l) (hr : r.Pairwise (· <= ·)) : r = yS l :=
 (hp.trans (cE l).symm).eq_of_pairwise (le := (· <= ·)) (fun a b _ _ h1 h2 => Int.le_antisymm h1 h2) hr (e7 l)
noncomputable def zD : yb -> Option SD
 | [.list xs] => if xs.length < 64 then (zl xs).map fun ns => .ol ((yS ns).map PyData.int) else none
 | _ => none
noncomputable def AC (K : W.Frag) : List V -> Hp -> VK -> Prop := fun xs H Q => ∃ a ns, xs = [.ref a] /\ SqL K H a (ns.map V.int) /\ ns.length < 64 /\ ∀ (ns' : List Int) p, ns'.Perm ns -> ns'.Pairwise (· <= ·) -> H p = none -> Q (.ref p) (upd H p (.lst (ns'.map V.int)))
theorem p0 {K : W.Frag} {mg : yc} : yo K mg zD (AC K) := by
 intro G H vs ds res Q hg hd ho k
 unfold zD at ho
 split at ho
 next xs =>
  split at ho
  next hl =>
   obtain ⟨ns, e, rfl⟩ := Option.map_eq_some_iff.mp ho
   obtain ⟨x, rfl, h1⟩ := dts1 hd
   cases h1 with
   | lst q r =>
    have e2 := jg r e
    subst e2
    have hlen := r.len
    rw [List.length_map] at hlen
    refine ⟨_, ns, rfl, (hg.sqr q).sq, by lia, fun ns' p h1 h2 hp => ?_⟩
    rw [nk h1 h2]
    exact k _ _ _ (.laidO hg hp) (eT hg hp (Dts.ints _))
  next => cases ho
 next => cases ho
noncomputable def dIsi (T : String) : yb -> Option SD
 | [.dict _] => none
 | [d] => some (.sh (.bool (isiD T d)))
 | _ => none
section
variable {X : Cx} {E : XK} {a e : Expr} {oa : Opd} {ops : List Opd} {pos p q : Pos}
theorem fG (hm : X.mg "abs" = none) (hb : bootBuiltins "abs" = some (.builtin "abs")) (ha : SO X E a oa) (hg : Gl X "abs" := by rfl) (hst : starEach [a] X.env = [(false, eval a X.env)] := by rfl) : SE X E (.Call (.Name "abs" p) [a] [] pos) (eOp dAbs [oa]) :=
 eU mR vf hm hb (aa ha aj hst) hg (by decide) (by decide) hst rfl
theorem nq (hm : X.mg "sorted" = none) (hb : bootBuiltins "sorted" = some (.builtin "sorted")) (ha : SO X E a oa) (hg : Gl X "sorted" := by rfl) (hst : starEach [a] X.env = [(false, eval a X.env)] := by rfl) : SE X E (.Call (.Name "sorted" p) [a] [] pos) (eOp zD [oa]) :=
 eU iH p0 hm hb (aa ha aj hst) hg (by decide) (by decide) hst rfl
theorem p5 (hc : X.calm = true) (hm : X.mg "list" = none) (hb : bootBuiltins "list" = some (.type "list")) (ha : SO X E a oa) (hg : Gl X "list" := by rfl) (hst : starEach [a] X.env = [(false, eval a X.env)] := by rfl) : SE X E (.Call (.Name "list" p) [a] [] pos) (eOp zC [oa]) :=
 eW (jW hc) rS hm hb (aa ha aj hst) hg (by decide) (by decide) hst rfl
theorem gy (hm : X.mg "tuple" = none) (hb : bootBuiltins "tuple" = some (.type "tuple")) (ha : SO X E a oa) (hg : Gl X "tuple" := by rfl) (hst : starEach [a] X.env = [(false, eval a X.env)] := by rfl) : SE X E (.Call (.Name "tuple" p) [a] [] pos) (eOp zb [oa]) :=
 eW hZ oZ hm hb (aa ha aj hst) hg (by decide) (by decide) hst rfl
theorem p6 (hm : X.mg "int" = none) (hb : bootBuiltins "int" = some (.type "int")) (ha : SO X E a oa) (hg : Gl X "int" := by rfl) (hst : starEach [a] X.env = [(false, eval a X.env)] := by rfl) : SE X E (.Call (.Name "int" p) [a] [] pos) (eOp zL [oa]) :=
 eW lL rR hm hb (aa ha aj hst) hg (by decide) (by decide) hst rfl
theorem e8 {x : Str} (T : String) (hm : X.mg "isinstance" = none) (hm2 : X.mg x = none) (hv : bootBuiltins x = some (.type T)) (hT : kitT T = true) (hb : bootBuiltins "isinstance" = some (.builtin "isinstance")) (ha : SO X E a oa) (hg : Gl X "isinstance" := by rfl) (hg2 : Gl X x := by rfl)
  (hst : starEach [a, .Name x q] X.env = [(false, eval a X.env), (false, eval (.Name x q) X.env)] := by rfl) (hst2 : starEach [.Name x q] X.env = [(false, eval (.Name x q) X.env)] := by rfl) (hn : x ≠ "__name__" := by decide) (hd : (x == ("__debug__" : Str)) = false := by decide) :
  SE X E (.Call (.Name "isinstance" p) [a, .Name x q] [] pos) (eOp (dIsi T) [oa]) := by
 refine (gj lV hg hm hb (bJ ha (bJ (qq hm2 hv hg2 hn hd) cO hst2) (by rw [hst, hst2])) (by decide) (by decide) (by rw [hst, hst2]) (by rw [hst2]; rfl)).weak fun σ H Q h => ?_
 refine eS (r := fun vs H1 Q => ∃ x d T', vs ++ [V.ty T] = [x, .ty T'] /\ kitT T' = true /\ Dt X.K H1 x d /\ (∀ kvs, d ≠ .dict kvs) /\ Q (.bl (isiD T' d)) H1) (fun G H vs ds res Q hgg hdd ho k => ?_) h
 unfold dIsi at ho
 split at ho
 next => cases ho
 next d hne =>
  cases ho
  obtain ⟨v, rfl, h1⟩ := dts1 hdd
  exact ⟨v, d, T, rfl, hT, h1.mono hgg, fun kvs z => hne kvs z, ans k hgg (.bl _)⟩
 next => cases ho
end
noncomputable def yY : PyData -> Option Bool
 | .none => some false
 | .bool b => some b
 | .int i => some (i != 0)
 | .str y => if y.length <= sizeLine then some ((y.length : Int) != 0) else none
 | .list xs => some (!xs.isEmpty)
 | .tuple xs => some (!xs.isEmpty)
 | .dict es => some (!es.isEmpty)
noncomputable def tstO (o : Opd) : DT := fun δ => (opds [o] δ).bind fun p => match p.1 with
 | [d] => (match yY d with
  | some b => .ok (b, p.2.1)
  | none => .bad)
 | _ => .bad
noncomputable def tstV (f : DE) : DT := fun δ => (f δ).bind fun p => match p.1 with
 | .sh (.bool b) => .ok (b, p.2)
 | _ => .bad
noncomputable def yK (f : DT) : DT := fun δ => (f δ).bind fun p => .ok (!p.1, p.2)
noncomputable def zo (f g : DT) : DT := fun δ => (f δ).bind fun p => if p.1 = true then g p.2 else .ok (false, p.2)
noncomputable def zc (f g : DT) : DT := fun δ => (f δ).bind fun p => if p.1 = true then .ok (true, p.2) else g p.2
abbrev SW (X : Cx) (E : XK) (e : Expr) (f : DT) : Prop := PW X e (tT X.K X.mg E f)
section
variable {K : W.Frag} {mg : yc} {E : XK} {G0 H0 G H : Hp} {σ : St} {δ : DEnv}
theorem lZ {x : V} {d : PyData} {b : Bool} (hg : Same G H) (h : Dt K G x d) (e : yY d = some b) : TruV K x H b := by
 cases h with
 | non => cases e; rfl
 | bl k => cases e; rfl
 | int i => cases e; rfl
 | str y =>
  have e' : (if y.length <= sizeLine then some ((y.length : Int) != 0) else none) = some b := e
  split at e'
  next hy => cases e'; exact ⟨hy, rfl⟩
  next => cases e'
 | lst q r =>
  cases e
  refine .inl ⟨_, (hg.sqr q).sq, ?_⟩
  cases r <;> rfl
 | tup q r =>
  cases e
  refine .inr (.inl ⟨_, hg.tup q, ?_⟩)
  cases r <;> rfl
 | dct q r =>
  cases e
  refine .inr (.inr ⟨_, hg _ _ q, ?_⟩)
  cases r <;> rfl
theorem xI {f : DE} {Q : Bool -> Hp -> Prop} (h : tT K mg E (tstV f) σ H Q) : tE K mg E f σ H fun x H' => ∃ k, x = .bl k /\ Q k H' := by
 obtain ⟨G0, H0, G, δ, R, m⟩ := h
 refine ⟨G0, H0, G, δ, R, ?_⟩
 unfold tstV at m
 cases e : f δ with
 | ok p =>
  rw [e, Out.bind_ok] at m
  intro v H' G' R' s rr
  split at m
  next b q =>
   rw [q] at rr
   have := rr.1
   cases this
   exact ⟨b, rfl, m H' G' R' s⟩
  next => exact m.elim
 | exc x => rw [e] at m; exact m
 | bad => rw [e] at m; exact m
end
section
variable {X : Cx} {E : XK} {a b c e : Expr} {oa ob : Opd} {f g h : DE} {tf tg : DT} {pos : Pos} {rest : List Expr}
theorem iM (ha : SO X E a oa) (he : ∀ whole, isTrue a X.env whole = (do let v <- whole; standAt a.pos; holding [v] (truthy v)) := by intro _; rfl) : ST X E a (tstO oa) :=
 (mQ ha he).weak fun σ H Q ⟨G0, H0, G, δ, R, m⟩ => by
  have key : tOs X.K X.mg E [oa] σ H fun vs H1 => ∃ x k, vs = [x] /\ TruV X.K x H1 k /\ Q k H1 := by
   refine dt [oa] R ?_
   unfold tstO opds at m
   cases e1 : evO [oa] δ with
   | ok p =>
    rw [e1, Out.bind_ok] at m
    intro vs H1 G1 R1 s1 ov
    cases e2 : yH (yk (yu p.1) p.2) p.1 with
    | none => rw [e2] at m; exact m.elim
    | some ds =>
     rw [e2, Out.bind_ok] at m
     obtain ⟨G2, l, R2, L⟩ := R1.relA (yu p.1)
     have hd := (ov.mono L.ext).view R2 e2
     dsimp only at m
     split at m
     next d =>
      obtain ⟨x, rfl, h1⟩ := dts1 hd
      cases e3 : yY d with
      | none => rw [e3] at m; exact m.elim
      | some k =>
       rw [e3] at m
       exact ⟨x, k, rfl, lZ R2.g.gh h1 e3, m H1 G1 R1 s1⟩
     next => exact m.elim
   | exc x => rw [e1] at m; exact m
   | bad => rw [e1] at m; exact m
  have mono : ∀ {t : Opd} {P P' : V -> Hp -> Prop}, (∀ v H, P v H -> P' v H) -> tO X.K X.mg E t σ H P -> tO X.K X.mg E t σ H P' := fun {t P P'} hp q => by
   cases t with
   | nm i => obtain ⟨v, h1, h2⟩ := q; exact ⟨v, h1, hp _ _ h2⟩
   | ex f =>
    obtain ⟨G0, H0, G, δ, R, m⟩ := q
    refine ⟨G0, H0, G, δ, R, ?_⟩
    cases e : f δ with
    | ok p => rw [e] at m; exact fun v H' G' R' s rr => hp _ _ (m v H' G' R' s rr)
    | exc x => rw [e] at m; exact m
    | bad => rw [e] at m; exact m
  exact mono (fun v H1 ⟨x, k, ex, h1, h2⟩ => by cases ex; exact ⟨k, h1, h2⟩) key
theorem m4 (h : SW X E e tf) : ST X E e tf := PW.pt h
theorem e9 {op : CmpOp} {r : R2} {o : yb -> Option SD} (ho : OpR X (compareOp op) r) (hs : yo X.K X.mg o (l2 r)) (ha : SO X E a oa) (hb : SO X E b ob) (hm : behindInMarks op b = false) : ST X E (.Compare a [op] [b] pos) (tstV (eOp o [oa, ob])) :=
 (oq ho ha hb hm).weak fun _ _ _ h => eS hs (xI h)
theorem kP (ha : SO X E a oa) (hb : SO X E b ob) : ST X E (.Compare a [.Lt] [b] pos) (tstV (eOp dLt [oa, ob])) := e9 uR (lX fun _ _ _ => .bl _) ha hb (nomark _)
theorem qt (ha : SO X E a oa) (hb : SO X E b ob) : ST X E (.Compare a [.LtE] [b] pos) (tstV (eOp dLe [oa, ob])) := e9 qo (lX fun _ _ _ => .bl _) ha hb (nomark _)
theorem jh (ha : SO X E a oa) (hb : SO X E b ob) : ST X E (.Compare a [.Gt] [b] pos) (tstV (eOp dGt [oa, ob])) := e9 uS (lX fun _ _ _ => .bl _) ha hb (nomark _)
theorem du (hu : X.A.units + 64 < cLine) (ha : SO X E a oa) (hb : SO X E b ob) : ST X E (.Compare a [.Eq] [b] pos) (tstV (eOp dEq [oa, ob])) := e9 (n4 hu) vc ha hb (nomark _)
theorem nr (hu : X.A.units + 64 < cLine) (ha : SO X E a oa) (hb : SO X E b ob) : ST X E (.Compare a [.NotEq] [b] pos) (tstV (eOp dNe [oa, ob])) := e9 (rN hu) xG ha hb (nomark _)
theorem w_not {K : W.Frag} {mg : yc} {σ : St} {H : Hp} {Q : Bool -> Hp -> Prop} (q : tT K mg E (yK tf) σ H Q) : tNot (tT K mg E tf) σ H Q := by
 obtain ⟨G0, H0, G, δ, R, m⟩ := q
 refine ⟨G0, H0, G, δ, R, ?_⟩
 unfold yK at m
 cases e : tf δ with
 | ok p => rw [e, Out.bind_ok] at m; exact fun H' G' R' s => m H' G' R' s
 | exc x => rw [e] at m; exact m
 | bad => rw [e] at m; exact m
theorem dc (ha : ST X E a tf) : ST X E (.UnaryOp .Not a pos) (yK tf) := (qW ha).weak fun _ _ _ q => w_not q
theorem vg {K : W.Frag} {mg : yc} {σ : St} {H : Hp} {Q : Bool -> Hp -> Prop} (q : tT K mg E (zo tf tg) σ H Q) : tAnd (tT K mg E tf) (tT K mg E tg) σ H Q := by
 obtain ⟨G0, H0, G, δ, R, m⟩ := q
 refine ⟨G0, H0, G, δ, R, ?_⟩
 unfold zo at m
 cases e : tf δ with
 | ok p =>
  rw [e, Out.bind_ok] at m
  intro H' G' R' s
  split
  next hb =>
   rw [if_pos hb] at m
   refine ⟨G0, H0, G', p.2, R', ?_⟩
   cases e2 : tg p.2 with
   | ok q => rw [e2] at m; exact fun H2 G2 R2 s2 => m H2 G2 R2 (s.trans s2)
   | exc x => rw [e2] at m; exact m
   | bad => rw [e2] at m; exact m
  next hb => rw [if_neg hb] at m; exact m H' G' R' s
 | exc x => rw [e] at m; exact m
 | bad => rw [e] at m; exact m
theorem xJ {K : W.Frag} {mg : yc} {σ : St} {H : Hp} {Q : Bool -> Hp -> Prop} (q : tT K mg E (zc tf tg) σ H Q) : tOr (tT K mg E tf) (tT K mg E tg) σ H Q := by
 obtain ⟨G0, H0, G, δ, R, m⟩ := q
 refine ⟨G0, H0, G, δ, R, ?_⟩
 unfold zc at m
 cases e : tf δ with
 | ok p =>
  rw [e, Out.bind_ok] at m
  intro H' G' R' s
  split
  next hb => rw [if_pos hb] at m; exact m H' G' R' s
  next hb =>
   rw [if_neg hb] at m
   refine ⟨G0, H0, G', p.2, R', ?_⟩
   cases e2 : tg p.2 with
   | ok q => rw [e2] at m; exact fun H2 G2 R2 s2 => m H2 G2 R2 (s.trans s2)
   | exc x => rw [e2] at m; exact m
   | bad => rw [e2] at m; exact m
 | exc x => rw [e] at m; exact m
 | bad => rw [e] at m; exact m
theorem p7 (ha : ST X E a tf) : SW X E (.BoolOp .And [a] pos) tf := o8 ha
theorem gz (ha : ST X E a tf) : SW X E (.BoolOp .Or [a] pos) tf := qU ha
theorem rT (ha : ST X E a tf) (hb : SW X E (.BoolOp .And (b :: rest) pos) tg) : SW X E (.BoolOp .And (a :: b :: rest) pos) (zo tf tg) := (qV ha hb).weak fun _ _ _ q => vg q
theorem gA (ha : ST X E a tf) (hb : SW X E (.BoolOp .Or (b :: rest) pos) tg) : SW X E (.BoolOp .Or (a :: b :: rest) pos) (zc tf tg) := (uN ha hb).weak fun _ _ _ q => xJ q
end
noncomputable def eNot (f : DE) : DE := fun δ => (f δ).bind fun p => match p.1 with
 | .sh (.bool b) => .ok (.sh (.bool !b), p.2)
 | _ => .bad
noncomputable def eAnd (f g : DE) : DE := fun δ => (f δ).bind fun p => match p.1 with
 | .sh (.bool b) => if b = true then g p.2 else .ok (.sh (.bool false), p.2)
 | _ => .bad
section
variable {K : W.Frag} {mg : yc} {E : XK} {G0 H0 G G1 H : Hp} {σ : St} {δ : DEnv}
theorem PoE.mono {Q : VK} {x : Out (SD × DEnv)} (s : Same G G1) (h : PoE K mg E G0 H0 G σ Q x) : PoE K mg E G0 H0 G1 σ Q x := by
 cases x with
 | ok p => exact fun v H' G' R' s' rr => h v H' G' R' (s.trans s') rr
 | exc x => exact h
 | bad => exact h
end
section
variable {X : Cx} {E : XK} {a b c e : Expr} {f g : DE} {tf : DT} {pos : Pos} {rest : List Expr}
theorem nu (ha : SE X E a f) : SE X E (.UnaryOp .Not a pos) (eNot f) := (qZ ha).weak fun σ H Q ⟨G0, H0, G, δ, R, m⟩ => by
 refine ⟨G0, H0, G, δ, R, ?_⟩
 unfold eNot at m
 cases e : f δ with
 | ok p =>
  rw [e, Out.bind_ok] at m
  intro v H' G' R' s rr
  split at m
  next b q =>
   rw [q] at rr
   have := rr.1
   cases this
   exact ⟨b, rfl, m _ H' G' R' s (RR.sh (.bl _))⟩
  next => exact m.elim
 | exc x => rw [e] at m; exact m
 | bad => rw [e] at m; exact m
theorem jX {op : BoolOp} (ha : SE X E a f) : SE X E (.BoolOp op [a] pos) f := qX ha
theorem iN (ha : SE X E a f) (hb : SE X E (.BoolOp .And (b :: rest) pos) g) : SE X E (.BoolOp .And (a :: b :: rest) pos) (eAnd f g) := (qY ha hb).weak fun σ H Q ⟨G0, H0, G, δ, R, m⟩ => by
 refine ⟨G0, H0, G, δ, R, ?_⟩
 unfold eAnd at m
 cases e : f δ with
 | ok p =>
  rw [e, Out.bind_ok] at m
  intro v H' G' R' s rr
  split at m
  next b q =>
   rw [q] at rr
   have := rr.1
   cases this
   refine ⟨b, rfl, ?_⟩
   split
   next hb => rw [if_pos hb] at m; exact ⟨G0, H0, G', p.2, R', m.mono s⟩
   next hb => rw [if_neg hb] at m; exact m _ H' G' R' s (RR.sh (.bl _))
  next => exact m.elim
 | exc x => rw [e] at m; exact m
 | bad => rw [e] at m; exact m
end
inductive SOut where
 | nx (δ : DEnv)
 | rt (r : SD)
 | bk (δ : DEnv)
 | ct (δ : DEnv)
 | exc (x : Str)
 | bad
abbrev DS := DEnv -> SOut
noncomputable def PoS (K : W.Frag) (mg : yc) (E : XK) (G0 H0 G : Hp) (D : Ends) : SOut -> Prop
 | .nx δ' => ∀ σ' H' G', Rel K mg G0 H0 G' H' σ' δ' -> Same G G' -> D.nx σ' H'
 | .bk δ' => ∀ σ' H' G', Rel K mg G0 H0 G' H' σ' δ' -> Same G G' -> D.bk σ' H'
 | .ct δ' => ∀ σ' H' G', Rel K mg G0 H0 G' H' σ' δ' -> Same G G' -> D.ct σ' H'
 | .rt r => ∀ v H' G', Grow G0 H0 G' H' -> VN K mg H0 G' H' v r -> D.rt v H'
 | .exc x => PoX mg E H0 x
 | .bad => False
noncomputable def tS (K : W.Frag) (mg : yc) (E : XK) (f : DS) : TS := fun D σ H => ∃ G0 H0 G δ, Rel K mg G0 H0 G H σ δ /\ PoS K mg E G0 H0 G D (f δ)
abbrev S1 (X : Cx) (E : XK) (st : Stmt) (f : DS) : Prop := PS X st (tS X.K X.mg E f)
abbrev SS (X : Cx) (E : XK) (st : List Stmt) (f : DS) : Prop := PSs X st (tS X.K X.mg E f)
theorem PoS.mono {K : W.Frag} {mg : yc} {E : XK} {G0 H0 G G1 : Hp} {D : Ends} {x : SOut} (s : Same G G1) (h : PoS K mg E G0 H0 G D x) : PoS K mg E G0 H0 G1 D x := by
 cases x with
 | nx δ => exact fun σ' H' G' R' s' => h σ' H' G' R' (s.trans s')
 | bk δ => exact fun σ' H' G' R' s' => h σ' H' G' R' (s.trans s')
 | ct δ => exact fun σ' H' G' R' s' => h σ' H' G' R' (s.trans s')
 | rt r => exact h
 | exc x => exact h
 | bad => exact h
def yp : DS := fun δ => .nx δ
noncomputable def sSeq (f g : DS) : DS := fun δ => match f δ with
 | .nx δ' => g δ'
 | r => r
noncomputable def sAsg (i : Nat) (f : DE) : DS := fun δ => match f δ with
 | .ok p => if i < p.2.length then .nx (p.2.set i (some p.1)) else .bad
 | .exc x => .exc x
 | .bad => .bad
noncomputable def sRet (f : DE) : DS := fun δ => match f δ with
 | .ok p => .rt p.1
 | .exc x => .exc x
 | .bad => .bad
noncomputable def zt (i : Nat) : DS := fun δ => match δ[i]? with
 | some (some r) => .rt r
 | _ => .bad
noncomputable def sIf (t : DT) (f g : DS) : DS := fun δ => match t δ with
 | .ok p => if p.1 = true then f p.2 else g p.2
 | .exc x => .exc x
 | .bad => .bad
section
variable {X : Cx} {E : XK} {st : Stmt} {rest body body2 : List Stmt} {f g : DS} {e c : Expr} {fe : DE} {tf : DT} {pos pos' : Pos} {x : Str} {i : Nat}
theorem aF : SS X E [] yp := og.weak fun D σ H ⟨G0, H0, G, δ, R, m⟩ => m σ H G R (.refl _)
theorem ah (h1 : S1 X E st f) (h2 : SS X E rest g) : SS X E (st :: rest) (sSeq f g) := (mK h1 h2).weak fun D σ H ⟨G0, H0, G, δ, R, m⟩ => by
 refine ⟨G0, H0, G, δ, R, ?_⟩
 unfold sSeq at m
 cases e : f δ with
 | nx δ' => rw [e] at m; exact fun σ' H' G' R' s => ⟨G0, H0, G', δ', R', m.mono s⟩
 | bk δ => rw [e] at m; exact m
 | ct δ => rw [e] at m; exact m
 | rt r => rw [e] at m; exact m
 | exc x => rw [e] at m; exact m
 | bad => rw [e] at m; exact m
theorem ai (h1 : S1 X E st f) : SS X E [st] f := oi h1
theorem qu {K : W.Frag} {mg : yc} {D : Ends} {σ : St} {H : Hp} (q : tS K mg E (sAsg i fe) D σ H) : tAsg (tE K mg E fe) (z0 i) D σ H := by
 obtain ⟨G0, H0, G, δ, R, m⟩ := q
 refine ⟨G0, H0, G, δ, R, ?_⟩
 unfold sAsg at m
 cases e : fe δ with
 | ok p =>
  rw [e] at m
  dsimp only at m
  intro v H' G' R' s rr
  split at m
  next hi => exact m _ H' G' (R'.store (by rw [<- R'.len]; exact hi) rr.less) s
  next => exact m.elim
 | exc x => rw [e] at m; exact m
 | bad => rw [e] at m; exact m
theorem au (i : Nat) (hN : X.N.Nodup) (he : SE X E e fe) (hi : X.N[i]? = some x := by rfl) (hx : Loc X.env.scope x := by first | exact Or.inl rfl | exact Or.inr rfl) (hs : swapsWith e (some (.Name x pos')) pos.line X.env = pure false := by rfl)
  (hf : X.fn x = true \/ X.env.scope.names.lookup x = some .local := by first | exact .inl rfl | exact .inr rfl | assumption) : S1 X E (.Assign [.Name x pos'] e pos) (sAsg i fe) := (r9 hN hi hx he hs hf).weak fun _ _ _ q => qu q
theorem av (he : SE X E e fe) : S1 X E (.Return (some e) pos) (sRet fe) := (mL he).weak fun D σ H ⟨G0, H0, G, δ, R, m⟩ => by
 refine ⟨G0, H0, G, δ, R, ?_⟩
 unfold sRet at m
 cases e : fe δ with
 | ok p => rw [e] at m; exact fun v H' G' R' s rr => m v H' G' R'.g rr.new
 | exc x => rw [e] at m; exact m
 | bad => rw [e] at m; exact m
theorem eY (i : Nat) (hN : X.N[i]? = some x := by rfl) (hv : Vis X.env.scope x := by first | exact Or.inl rfl | exact Or.inr (Or.inl rfl) | exact Or.inr (Or.inr rfl)) (hd : (x == ("__debug__" : Str)) = false := by decide)
  (hcd : (x == ("__classdict__" : Str)) = false := by decide) : S1 X E (.Return (some (.Name x pos')) pos) (zt i) := (mL (cN hN hv hd hcd)).weak fun D σ H ⟨G0, H0, G, δ, R, m⟩ => by
 unfold zt at m
 split at m
 next r e =>
  obtain ⟨v, h1, h2⟩ := R.at_ e
  exact ⟨v, h1, m v H G R.g h2.new⟩
 next => exact m.elim
theorem aY (hc : ST X E c tf) (ha : SS X E body f) (hb : SS X E body2 g) : S1 X E (.If c body body2 pos) (sIf tf f g) := (uO hc ha hb).weak fun D σ H ⟨G0, H0, G, δ, R, m⟩ => by
 refine ⟨G0, H0, G, δ, R, ?_⟩
 unfold sIf at m
 cases e : tf δ with
 | ok p =>
  rw [e] at m
  dsimp only at m
  intro H' G' R' s
  split
  next hb => rw [if_pos hb] at m; exact ⟨G0, H0, G', p.2, R', m.mono s⟩
  next hb => rw [if_neg hb] at m; exact ⟨G0, H0, G', p.2, R', m.mono s⟩
 | exc x => rw [e] at m; exact m
 | bad => rw [e] at m; exact m
end
noncomputable def zp (K : W.Frag) (J : It) (G : Hp) (ds : yb) : Prop := ∀ (i : Nat) (G1 H1 : Hp), Same G G1 -> Same G1 H1 ->
 (∀ d, ds[i]? = some d -> J.go i H1 /\ ∀ x H2, J.yld i H1 x H2 -> ∃ G2, Grow G1 H1 G2 H2 /\ Dt K G2 x d) /\ (ds.length <= i -> J.stop i H1)
noncomputable def PoI (K : W.Frag) (mg : yc) (E : XK) (G0 H0 G : Hp) (σ : St) (Q : It -> Hp -> Prop) : Out (yb × DEnv) -> Prop
 | .ok p => ∀ J H' G', Rel K mg G0 H0 G' H' σ p.2 -> Same G G' -> zp K J G' p.1 -> Q J H'
 | .exc x => PoX mg E H0 x
 | .bad => False
noncomputable def tI (K : W.Frag) (mg : yc) (E : XK) (f : DA) : TI := fun σ H Q => ∃ G0 H0 G δ, Rel K mg G0 H0 G H σ δ /\ PoI K mg E G0 H0 G σ Q (f δ)
abbrev SI (X : Cx) (E : XK) (tg iter : Expr) (f : DA) : Prop := PI X tg iter (tI X.K X.mg E f)
noncomputable def zu (f : DE) : DA := fun δ => (vE f δ).bind fun p => match p.1 with
 | .list xs => .ok (xs, p.2)
 | .tuple xs => .ok (xs, p.2)
 | _ => .bad
noncomputable def rngI (lo : Int) (n : Nat) : yb := (List.range n).map fun (k : Nat) => .int (lo + (k : Int))
noncomputable def rngB (i : Int) : Bool := decide (-(2 ^ 62) <= i /\ i < 2 ^ 62)
noncomputable def itR1 (ops : List Opd) : DA := fun δ => (opds ops δ).bind fun p => match p.1 with
 | [.int j] => if rngB j = true then .ok (rngI 0 j.toNat, p.2.1) else .bad
 | _ => .bad
noncomputable def itR2 (ops : List Opd) : DA := fun δ => (opds ops δ).bind fun p => match p.1 with
 | [.int i, .int j] => if rngB i = true /\ rngB j = true then .ok (rngI i (j - i).toNat, p.2.1) else .bad
 | _ => .bad
section
variable {K : W.Frag} {G : Hp} {a : Addr} {xs : List V} {ds : yb}
theorem gB (q : SqR K G a xs) (r : Dts K G xs ds) : zp K (Itl K a) G ds := fun i G1 H1 s1 s2 => by
 have q' : SqL K H1 a xs := ((s1.trans s2).sqr q).sq
 refine ⟨fun d e => ?_, fun h => ⟨xs, q', by rw [r.len]; exact h⟩⟩
 obtain ⟨v, e1, e2⟩ := r.get' e
 refine ⟨⟨xs, v, q', e1⟩, fun x H2 ⟨eH, hx⟩ => ?_⟩
 subst eH
 have := hx xs q'
 rw [e1] at this
 cases this
 exact ⟨G1, .refl s2, e2.mono s1⟩
theorem ik (q : TuT G a xs) (r : Dts K G xs ds) : zp K (Itt K a) G ds := fun i G1 H1 s1 s2 => by
 have q' : SqT K H1 a xs := (s1.trans s2).tup q
 refine ⟨fun d e => ?_, fun h => ⟨xs, q', by rw [r.len]; exact h⟩⟩
 obtain ⟨v, e1, e2⟩ := r.get' e
 refine ⟨⟨xs, v, q', e1⟩, fun x H2 ⟨eH, hx⟩ => ?_⟩
 subst eH
 have := hx xs q'
 rw [e1] at this
 cases this
 exact ⟨G1, .refl s2, e2.mono s1⟩
theorem dv (lo : Int) (n : Nat) : (rngI lo n).length = n := by simp [rngI]
theorem dw (lo : Int) (n : Nat) : zp K (Itr lo n) G (rngI lo n) := fun i G1 H1 s1 s2 => by
 refine ⟨fun d e => ?_, fun h => by rw [dv] at h; exact h⟩
 have hi : i < n := by
  have := (List.getElem?_eq_some_iff.mp e).1
  rwa [dv] at this
 refine ⟨hi, fun x H2 ⟨eH, hx⟩ => ?_⟩
 subst eH hx
 unfold rngI at e
 rw [List.getElem?_map, List.getElem?_range hi] at e
 cases e
 exact ⟨G1, .refl s2, .int _⟩
end
section
variable {X : Cx} {E : XK} {tg l a b : Expr} {f : DE} {oa ob : Opd} {ops : List Opd} {p pos : Pos}
theorem gC (hl : SE X E l f) : SI X E tg l (zu f) := (n6 hl).weak fun σ H Q ⟨G0, H0, G, δ, R, m⟩ => by
 refine ng R ?_
 unfold zu at m
 cases e : vE f δ with
 | ok p =>
  rw [e, Out.bind_ok] at m
  intro v H' G' R' s hd
  split at m
  next xs q =>
   rw [q] at hd
   cases hd with
   | lst q r => exact ⟨_, rfl, .inl ⟨⟨_, (R'.g.gh.sqr q).sq⟩, m _ H' G' R' s (gB q r)⟩⟩
  next xs q =>
   rw [q] at hd
   cases hd with
   | tup q r => exact ⟨_, rfl, .inr ⟨⟨_, R'.g.gh.tup q⟩, m _ H' G' R' s (ik q r)⟩⟩
  next => exact m.elim
 | exc x => rw [e] at m; exact m
 | bad => rw [e] at m; exact m
theorem ji {P : List V -> Hp -> Prop} {K : W.Frag} {mg : yc} {G0 H0 G H : Hp} {σ : St} {δ : DEnv} (R : Rel K mg G0 H0 G H σ δ)
  (h : match opds ops δ with
   | .ok p => ∀ vs H' G' G1, Rel K mg G0 H0 G' H' σ p.2.1 -> Same G G' -> Same G1 H' -> Dts K G1 vs p.1 -> P vs H'
   | .exc x => PoX mg E H0 x
   | .bad => False) : tOs K mg E ops σ H P := by
 refine dt ops R ?_
 unfold opds at h
 cases e1 : evO ops δ with
 | ok p =>
  rw [e1, Out.bind_ok] at h
  intro vs H1 G1 R1 s1 ov
  cases e2 : yH (yk (yu p.1) p.2) p.1 with
  | none => rw [e2] at h; exact h.elim
  | some ds =>
   rw [e2] at h
   obtain ⟨G2, l, R2, L⟩ := R1.relA (yu p.1)
   exact h vs H1 G1 G2 R1 s1 R2.g.gh ((ov.mono L.ext).view R2 e2)
 | exc x => rw [e1] at h; exact h
 | bad => rw [e1] at h; exact h
theorem m5 (hm : X.mg "range" = none) (ha : SO X E a oa) (hg : Gl X "range" := by rfl) (hs : starEach [a] X.env = [(false, eval a X.env)] := by rfl) : SI X E tg (.Call (.Name "range" p) [a] [] pos) (itR1 [oa]) :=
 (i5 hg hm (aa ha aj hs) hs).weak fun σ H Q ⟨G0, H0, G, δ, R, m⟩ => by
  refine ji R ?_
  unfold itR1 at m
  cases e : opds [oa] δ with
  | ok q =>
   rw [e, Out.bind_ok] at m
   intro vs H' G' G1 R' s s1 hd
   split at m
   next j ej =>
    rw [ej] at hd
    obtain ⟨v, rfl, h1⟩ := dts1 hd
    cases h1
    split at m
    next hj =>
     have hj := of_decide_eq_true hj
     exact ⟨j, rfl, hj.1, hj.2, m _ H' G' R' s (dw 0 j.toNat)⟩
    next => exact m.elim
   next => exact m.elim
  | exc x => rw [e] at m; exact m
  | bad => rw [e] at m; exact m
theorem m7 (hm : X.mg "range" = none) (ha : SO X E a oa) (hb : SO X E b ob) (hg : Gl X "range" := by rfl) (hs : starEach [a, b] X.env = [(false, eval a X.env), (false, eval b X.env)] := by rfl) (hs2 : starEach [b] X.env = [(false, eval b X.env)] := by rfl) :
  SI X E tg (.Call (.Name "range" p) [a, b] [] pos) (itR2 [oa, ob]) :=
 (lK hg hm (aa ha (aa hb aj hs2) (by rw [hs, hs2])) hs hs2).weak fun σ H Q ⟨G0, H0, G, δ, R, m⟩ => by
  refine ji R ?_
  unfold itR2 at m
  cases e : opds [oa, ob] δ with
  | ok q =>
   rw [e, Out.bind_ok] at m
   intro vs H' G' G1 R' s s1 hd
   split at m
   next i j ej =>
    rw [ej] at hd
    obtain ⟨v, u, rfl, h1, h2⟩ := dts2 hd
    cases h1
    cases h2
    split at m
    next hj =>
     have h1 := of_decide_eq_true hj.1
     have h2 := of_decide_eq_true hj.2
     exact ⟨i, j, rfl, ⟨h1.1, h1.2, h2.1, h2.2⟩, m _ H' G' R' s (dw i (j - i).toNat)⟩
    next => exact m.elim
   next => exact m.elim
  | exc x => rw [e] at m; exact m
  | bad => rw [e] at m; exact m
end
abbrev DG := PyData -> DEnv -> Option DEnv
noncomputable def TgS (K : W.Frag) (mg : yc) (g : TG) (k : DG) : Prop := ∀ (G0 H0 G H : Hp) (σ : St) (δ δ' : DEnv) (v : V) (d : PyData) (Q : St -> Hp -> Prop),
 Rel K mg G0 H0 G H σ δ -> Dt K G v d -> k d δ = some δ' -> (∀ σ', Rel K mg G0 H0 G H σ' δ' -> Q σ' H) -> g v σ H Q
noncomputable def kN (i : Nat) : DG := fun d δ => if i < δ.length then some (δ.set i (some (.sh d))) else none
section
variable {K : W.Frag} {mg : yc}
theorem cH (i : Nat) : TgS K mg (z0 i) (kN i) := fun G0 H0 G H σ δ δ' v d Q R hd e k => by
 unfold kN at e
 split at e
 next hi =>
  cases e
  exact k _ (R.store (by rw [<- R.len]; exact hi) (RR.sh hd))
 next => cases e
end
section
variable {X : Cx} {x y : Str} {px py pt : Pos} {kt : Nat}
theorem jj (i : Nat) (hN : X.N.Nodup) (hi : X.N[i]? = some x := by rfl) (hx : Loc X.env.scope x := by first | exact Or.inl rfl | exact Or.inr rfl) (hf : X.fn x = true \/ X.env.scope.names.lookup x = some .local := by first | exact .inl rfl | exact .inr rfl | assumption) : PG X (.Name x px) (z0 i) := g6 hN hi hx hf
end
noncomputable def forL (k : DG) (fb : DS) : yb -> DEnv -> SOut
 | [], δ => .nx δ
 | d :: ds, δ => match k d δ with
  | none => .bad
  | some δ1 => match fb δ1 with
   | .nx δ2 => forL k fb ds δ2
   | .ct δ2 => forL k fb ds δ2
   | .bk δ2 => .nx δ2
   | .rt r => .rt r
   | .exc x => .exc x
   | .bad => .bad
noncomputable def sFor (fi : DA) (k : DG) (fb : DS) : DS := fun δ => match fi δ with
 | .ok p => forL k fb p.1 p.2
 | .exc x => .exc x
 | .bad => .bad
theorem vh {K : W.Frag} {mg : yc} {E : XK} {fi : DA} {k : DG} {g : TG} {fb : DS} {D : Ends} {σ : St} {H : Hp} (hk : TgS K mg g k) (q : tS K mg E (sFor fi k fb) D σ H) : tFor (tI K mg E fi) g (tS K mg E fb) D σ H := by
 obtain ⟨G0, H0, G, δ, R, m⟩ := q
 refine ⟨G0, H0, G, δ, R, ?_⟩
 unfold sFor at m
 cases e : fi δ with
 | exc x => rw [e] at m; exact m
 | bad => rw [e] at m; exact m
 | ok p =>
  rw [e] at m
  dsimp only at m
  intro J H1 G1 R1 s1 W
  refine ⟨fun i mm σ2 H2 => ∃ G2 δ2, Rel K mg G0 H0 G2 H2 σ2 δ2 /\ Same G1 G2 /\ i + mm = p.1.length /\ PoS K mg E G0 H0 G2 D (forL k fb (p.1.drop i) δ2), ⟨p.1.length, G1, p.2, R1, .refl _, Nat.zero_add _, m.mono s1⟩, ?_⟩
  rintro i mm σ2 H2 ⟨G2, δ2, R2, s2, him, m2⟩
  obtain ⟨w1, w2⟩ := W i G2 H2 s2 R2.g.gh
  cases hd : p.1[i]? with
  | none =>
   have hi : p.1.length <= i := List.getElem?_eq_none_iff.mp hd
   refine .inl ⟨w2 hi, ?_⟩
   rw [List.drop_eq_nil_of_le hi] at m2
   exact m2 σ2 H2 G2 R2 (.refl _)
  | some d =>
   have hi : i < p.1.length := (List.getElem?_eq_some_iff.mp hd).1
   obtain ⟨go, yl⟩ := w1 d hd
   have ed : p.1.drop i = d :: p.1.drop (i + 1) := by
    rw [List.drop_eq_getElem_cons hi]
    congr 1
    exact Option.some.inj ((List.getElem?_eq_getElem hi).symm.trans hd)
   rw [ed] at m2
   unfold forL at m2
   refine .inr ⟨go, fun σ3 H3 => ∃ G3 δ3, Rel K mg G0 H0 G3 H3 σ3 δ3 /\ Same G1 G3 /\ PoS K mg E G0 H0 G3 D (forL k fb (p.1.drop (i + 1)) δ3), fun σ3 H3 ⟨G3, δ3, R3, s3, m3⟩ => ⟨mm - 1, by lia, G3, δ3, R3, s3, by lia, m3⟩, fun x H3 hy => ?_⟩
   obtain ⟨G3, g3, dx⟩ := yl x H3 hy
   have R3 := R2.grow g3
   cases ek : k d δ2 with
   | none => rw [ek] at m2; exact m2.elim
   | some δ3 =>
    rw [ek] at m2
    dsimp only at m2
    refine hk G0 H0 G3 H3 σ2 δ2 δ3 x d _ R3 dx ek fun σ4 R4 => ⟨G0, H0, G3, δ3, R4, ?_⟩
    have s23 := g3.gg
    cases eb : fb δ3 with
    | nx δ4 => rw [eb] at m2; exact fun σ' H' G' R' s => ⟨G', δ4, R', (s2.trans s23).trans s, m2.mono (s23.trans s)⟩
    | ct δ4 => rw [eb] at m2; exact fun σ' H' G' R' s => ⟨G', δ4, R', (s2.trans s23).trans s, m2.mono (s23.trans s)⟩
    | bk δ4 => rw [eb] at m2; exact fun σ' H' G' R' s => m2 σ' H' G' R' (s23.trans s)
    | rt r => rw [eb] at m2; exact m2
    | exc x => rw [eb] at m2; exact m2
    | bad => rw [eb] at m2; exact m2
section
variable {X : Cx} {E : XK} {tg iter e c : Expr} {body : List Stmt} {fi : DA} {k : DG} {g : TG} {fb : DS} {fe : DE} {pos : Pos}
theorem dz (hp : PassesOwn (model X.prog X.w) X.A X.env X.xe) (hc : X.calm = true) (hi : SI X E tg iter fi) (hg : PG X tg g) (hk : TgS X.K X.mg g k) (hb : SS X E body fb) (hs : ∀ x, foldedSetIterable iter X.env x = pure x := by intro _; rfl) : S1 X E (.For tg iter body [] pos) (sFor fi k fb) :=
 (rf hp hc hi hg hb hs).weak fun _ _ _ q => vh hk q
end
section
variable {X : Cx} {E : XK} {tg e : Expr} {k : DG} {g : TG} {fe : DE} {pos : Pos}
end
noncomputable def isOl (δ : DEnv) (i : Nat) : Option yb := match δ[i]? with
 | some (some (.ol ds)) => some ds
 | _ => none
noncomputable def isOd (δ : DEnv) (i : Nat) : Option (List (PyData × PyData)) := match δ[i]? with
 | some (some (.od ds)) => some ds
 | _ => none
theorem cI {δ : DEnv} {i : Nat} {ds : yb} (h : isOl δ i = some ds) : δ[i]? = some (some (.ol ds)) := by
 unfold isOl at h
 split at h
 next q => cases h; exact q
 next => cases h
theorem iO {δ : DEnv} {i : Nat} {ds : List (PyData × PyData)} (h : isOd δ i = some ds) : δ[i]? = some (some (.od ds)) := by
 unfold isOd at h
 split at h
 next q => cases h; exact q
 next => cases h
noncomputable def sMut (up : yb -> yb -> Option yb) (i : Nat) (o : Opd) : DS := fun δ => match isOl δ i with
 | none => .bad
 | some _ => match opds [o] δ with
  | .ok p => (match isOl p.2.2 i with
   | none => .bad
   | some ds => match up ds p.1 with
    | some ds' => .nx (p.2.2.set i (some (.ol ds')))
    | none => .bad)
  | .exc x => .exc x
  | .bad => .bad
noncomputable def zS (ds : yb) : yb -> Option yb
 | [d] => if ds.length < sizeLine then some (ds ++ [d]) else none
 | _ => none
noncomputable def putD (es : List (PyData × PyData)) (k : Key) (d : PyData) : List (PyData × PyData) :=
 if (es.any fun p => decide (yx p.1 = some k)) = true then es.map (fun p => if yx p.1 = some k then (p.1, d) else p) else es ++ [(keyD k, d)]
theorem Des.any {K : W.Frag} {G : Hp} {k : Key} : ∀ {kvs : List (Key × V)} {es : List (PyData × PyData)}, Des K G kvs es -> (kvs.any fun kv => decide (kv.1 = k)) = es.any fun p => decide (yx p.1 = some k)
 | _, _, .nil => rfl
 | _, _, .cons (k := j) _ r => by
  rw [List.any_cons, List.any_cons, Des.any r, d9]
  congr 1
  by_cases h : j = k <;> simp [h]
theorem Des.snoc {K : W.Frag} {G : Hp} {k : Key} {v : V} {d : PyData} (hd : Dt K G v d) : ∀ {kvs : List (Key × V)} {es : List (PyData × PyData)}, Des K G kvs es -> Des K G (kvs ++ [(k, v)]) (es ++ [(keyD k, d)])
 | _, _, .nil => .cons hd .nil
 | _, _, .cons x r => .cons x (Des.snoc hd r)
theorem Des.repl {K : W.Frag} {G : Hp} {k : Key} {v : V} {d : PyData} (hd : Dt K G v d) : ∀ {kvs : List (Key × V)} {es : List (PyData × PyData)}, Des K G kvs es -> Des K G (kvs.map fun kv => if kv.1 = k then (kv.1, v) else kv) (es.map fun p => if yx p.1 = some k then (p.1, d) else p)
 | _, _, .nil => .nil
 | _, _, .cons (k := j) (v := u) (d := d') x r => by
  rw [List.map_cons, List.map_cons]
  dsimp only
  rw [d9]
  by_cases h : j = k
  ·subst h
   rw [if_pos rfl, if_pos rfl]
   exact .cons hd (Des.repl hd r)
  ·rw [if_neg h, if_neg (by simpa using h)]
   exact .cons x (Des.repl hd r)
theorem Des.put {K : W.Frag} {G : Hp} {k : Key} {v : V} {d : PyData} {kvs : List (Key × V)} {es : List (PyData × PyData)} (h : Des K G kvs es) (hd : Dt K G v d) : Des K G (putK kvs k v) (putD es k d) := by
 unfold putK putD
 rw [h.any]
 split
 ·exact h.repl hd
 ·exact h.snoc hd
noncomputable def sPut (i : Nat) (ov ok : Opd) : DS := fun δ => match isOd δ i with
 | none => .bad
 | some _ => match opds [ov, ok] δ with
  | .ok p => (match isOd p.2.2 i, p.1 with
   | some es, [d, k] => (match yx k with
    | some k => if es.length < sizeLine then .nx (p.2.2.set i (some (.od (putD es k d)))) else .bad
    | none => .bad)
   | _, _ => .bad)
  | .exc x => .exc x
  | .bad => .bad
section
variable {K : W.Frag} {mg : yc} {E : XK} {G0 H0 G H : Hp} {σ : St} {δ : DEnv}
theorem gE {ops : List Opd} {P : List V -> Hp -> Prop} (R : Rel K mg G0 H0 G H σ δ)
  (h : match opds ops δ with
   | .ok p => ∀ vs H' G', Rel K mg G0 H0 G' H' σ p.2.2 -> Same G G' -> Dts K G' vs p.1 -> P vs H'
   | .exc x => PoX mg E H0 x
   | .bad => False) : tOs K mg E ops σ H P := by
 refine dt ops R ?_
 unfold opds at h
 cases e1 : evO ops δ with
 | ok p =>
  rw [e1, Out.bind_ok] at h
  intro vs H1 G1 R1 s1 ov
  cases e2 : yH (yk (yu p.1) p.2) p.1 with
  | none => rw [e2] at h; exact h.elim
  | some ds =>
   rw [e2] at h
   obtain ⟨G2, l, R2, L⟩ := R1.relA (yu p.1)
   exact h vs H1 G2 R2 (s1.trans L.ext) ((ov.mono L.ext).view R2 e2)
 | exc x => rw [e1] at h; exact h
 | bad => rw [e1] at h; exact h
theorem eZ {t : Opd} {P P' : V -> Hp -> Prop} (hp : ∀ v H, P v H -> P' v H) (q : tO K mg E t σ H P) : tO K mg E t σ H P' := by
 cases t with
 | nm i => obtain ⟨v, h1, h2⟩ := q; exact ⟨v, h1, hp _ _ h2⟩
 | ex f =>
  obtain ⟨G0, H0, G, δ, R, m⟩ := q
  refine ⟨G0, H0, G, δ, R, ?_⟩
  cases e : f δ with
  | ok p => rw [e] at m; exact fun v H' G' R' s rr => hp _ _ (m v H' G' R' s rr)
  | exc x => rw [e] at m; exact m
  | bad => rw [e] at m; exact m
end
noncomputable def MutS (K : W.Frag) (up : yb -> yb -> Option yb) (r : V -> List V -> Hp -> VK -> Prop) : Prop :=
 ∀ (G H : Hp) (a : Addr) (xs : List V) (ds ds' : yb) (vs : List V) (es : yb) (Q : VK), Same G H -> H a = some (.lst xs) -> Dts K G xs ds -> Dts K G vs es -> up ds es = some ds' -> (∀ v xs', Dts K G xs' ds' -> Q v (upd H a (.lst xs'))) -> r (.ref a) vs H Q
theorem vi {K : W.Frag} : MutS K zS zZ := fun G H a xs ds ds' vs es Q hg ha hx hv e k => by
 unfold zS at e
 split at e
 next d =>
  split at e
  next hl =>
   cases e
   obtain ⟨y, rfl, hy⟩ := dts1 hv
   exact ⟨a, xs, y, rfl, rfl, ha, by rw [hx.len]; exact hl, k _ _ (hx.append (.cons hy .nil))⟩
  next => cases e
 next => cases e
theorem vj {K : W.Frag} {mg : yc} {E : XK} {up : yb -> yb -> Option yb} {r : V -> List V -> Hp -> VK -> Prop} {i : Nat} {o : Opd} {D : Ends} {σ : St} {H : Hp} (hm : MutS K up r) (q : tS K mg E (sMut up i o) D σ H) :
  Am (tBM K "list" r (tVar i) (tOs K mg E [o])) D σ H := by
 obtain ⟨G0, H0, G, δ, R, m⟩ := q
 unfold sMut at m
 cases e0 : isOl δ i with
 | none => rw [e0] at m; exact m.elim
 | some ds0 =>
  rw [e0] at m
  dsimp only at m
  obtain ⟨v, h1, ⟨a, xs, rfl, q1, q2, q3⟩, _⟩ := R.at_ (cI e0)
  refine ⟨.ref a, h1, .inl ⟨rfl, xs, .inl (.inl q2)⟩, ?_⟩
  refine gE R ?_
  cases e1 : opds [o] δ with
  | ok p =>
   rw [e1] at m
   dsimp only at m
   intro vs H1 G1 R1 s1 hd
   cases e2 : isOl p.2.2 i with
   | none => rw [e2] at m; exact m.elim
   | some ds =>
    rw [e2] at m
    dsimp only at m
    obtain ⟨u, g1, ⟨b, ys, rfl, y1, y2, y3⟩, _⟩ := R1.at_ (cI e2)
    rw [h1] at g1
    cases g1
    cases e3 : up ds p.1 with
    | none => rw [e3] at m; exact m.elim
    | some ds' =>
     rw [e3] at m
     refine hm G1 H1 a ys ds ds' vs p.1 _ R1.g.gh y2 y3 hd e3 fun v xs' hx => ?_
     exact m σ _ G1 (R1.write (cI e2) trivial h1 ⟨a, xs', rfl, y1, ay, hx⟩ (by rw [y2]; trivial) (fun C z => by rw [y2] at z; cases z)) s1
  | exc x => rw [e1] at m; exact m
  | bad => rw [e1] at m; exact m
section
variable {X : Cx} {E : XK} {e k v : Expr} {o ov ok : Opd} {x : Str} {px apos cpos pos tpos : Pos}
theorem rV (i : Nat) (he : SO X E e o) (hN : X.N[i]? = some x := by rfl) (hv : Vis X.env.scope x := by first | exact Or.inl rfl | exact Or.inr (Or.inl rfl) | exact Or.inr (Or.inr rfl)) (hd : (x == ("__debug__" : Str)) = false := by decide) (hcd : (x == ("__classdict__" : Str)) = false := by decide)
  (hs : swapsWith (.Call (.Attribute (.Name x px) "append" apos) [e] [] cpos) none pos.line X.env = pure false := by rfl) (hst : starEach [e] X.env = [(false, eval e X.env)] := by rfl)
  (hbase : attributeBase (.Name x px) "append" X.env (eval (.Name x px) X.env) = eval (.Name x px) X.env := by rfl)
  (hfew : ((backTo cpos (starEach [e] X.env)).all (fun x => !x.1) && (backToKw cpos (keywordEach [] X.env)).all (fun x => x.1.isSome) && decide (([e] : List Expr).length + ([] : List Keyword).length + (if ([] : List Keyword).isEmpty then 0 else 1) < 30)) = true := by rfl)
  (hline : (apos.endLine == cpos.line) = true := by rfl) : S1 X E (.Expr (.Call (.Attribute (.Name x px) "append" apos) [e] [] cpos) pos) (sMut zS i o) :=
 (oj (kI PySem.F.plainAttrs_list PySem.F.slot_list_append PySem.F.type_list_append lO (cN hN hv hd hcd) (aa he aj hst) hbase hfew hline hst rfl) hs).weak fun _ _ _ q => vj vi q
theorem nv (i : Nat) (hu : X.A.units + 64 < cLine) (hval : SO X E v ov) (hk : SO X E k ok) (hN : X.N[i]? = some x := by rfl) (hv : Vis X.env.scope x := by first | exact Or.inl rfl | exact Or.inr (Or.inl rfl) | exact Or.inr (Or.inr rfl)) (hd : (x == ("__debug__" : Str)) = false := by decide)
  (hcd : (x == ("__classdict__" : Str)) = false := by decide) (hs : swapsWith v (some (.Subscript (.Name x px) k tpos)) pos.line X.env = pure false := by rfl) : S1 X E (.Assign [.Subscript (.Name x px) k tpos] v pos) (sPut i ov ok) :=
 (oB (by lia) (cN hN hv hd hcd) hk hval hs).weak fun D σ H ⟨G0, H0, G, δ, R, m⟩ => by
  unfold sPut at m
  cases e0 : isOd δ i with
  | none => rw [e0] at m; exact m.elim
  | some ds0 =>
   rw [e0] at m
   dsimp only at m
   obtain ⟨w, h1, ⟨a, xs, rfl, q1, q2, q3⟩, _⟩ := R.at_ (iO e0)
   have key : tOs X.K X.mg E [ov, ok] σ H fun vs H1 => ∃ y z, vs = [y, z] /\ ∃ a' H4, V.ref a = .ref a' /\ DPut H1 a' z y H4 /\ D.nx σ H4 := by
    refine gE R ?_
    cases e1 : opds [ov, ok] δ with
    | ok p =>
     rw [e1] at m
     dsimp only at m
     intro vs H1 G1 R1 s1 hdd
     split at m
     next es d k' e2 e3 =>
      rw [e3] at hdd
      obtain ⟨y, z, rfl, hy, hz⟩ := dts2 hdd
      obtain ⟨u, g1, ⟨b, ys, rfl, y1, y2, y3⟩, _⟩ := R1.at_ (iO e2)
      rw [h1] at g1
      cases g1
      split at m
      next kk ek =>
       split at m
       next hl =>
        have := ni hz ek
        subst this
        refine ⟨y, _, rfl, a, _, rfl, DPut.k y2 (by rw [y3.len]; exact hl), ?_⟩
        exact m σ _ G1 (R1.write (iO e2) trivial h1 ⟨a, _, rfl, y1, ay, y3.put hy⟩ (by rw [y2]; trivial) (fun C z => by rw [y2] at z; cases z)) s1
       next => exact m.elim
      next => exact m.elim
     next => exact m.elim
    | exc x => rw [e1] at m; exact m
    | bad => rw [e1] at m; exact m
   refine eZ (fun y H1 q => ?_) key
   refine ⟨.ref a, h1, ?_⟩
   exact eZ (fun z H2 ⟨y', z', ee, a', H4, e4, hp, hn⟩ => by cases ee; exact ⟨a', H4, e4, hp, hn⟩) q
end
section
variable {K : W.Frag} {mg : yc} {E : XK} {G0 H0 G H : Hp} {σ : St} {δ : DEnv}
theorem dA {ops : List Opd} {P : List V -> Hp -> Prop} (R : Rel K mg G0 H0 G H σ δ)
  (h : match opds ops δ with
   | .ok p => ∀ vs H' G' G2 l, Rel K mg G0 H0 G' H' σ p.2.1 -> Same G G' -> Rel K mg G0 H0 G2 H' σ p.2.2 -> Lent G' G2 l -> Dts K G2 vs p.1 -> P vs H'
   | .exc x => PoX mg E H0 x
   | .bad => False) : tOs K mg E ops σ H P := by
 refine dt ops R ?_
 unfold opds at h
 cases e1 : evO ops δ with
 | ok p =>
  rw [e1, Out.bind_ok] at h
  intro vs H1 G1 R1 s1 ov
  cases e2 : yH (yk (yu p.1) p.2) p.1 with
  | none => rw [e2] at h; exact h.elim
  | some ds =>
   rw [e2] at h
   obtain ⟨G2, l, R2, L⟩ := R1.relA (yu p.1)
   exact h vs H1 G1 G2 l R1 s1 R2 L ((ov.mono L.ext).view R2 e2)
 | exc x => rw [e1] at h; exact h
 | bad => rw [e1] at h; exact h
end
noncomputable def PoF (K : W.Frag) (mg : yc) (G H : Hp) (Q : VK) (E : XK) : Out SD -> Prop
 | .ok r => ∀ v H' G', Grow G H G' H' -> VN K mg H G' H' v r -> Q v H'
 | .exc x => PoX mg E H x
 | .bad => False
noncomputable def spD (K : W.Frag) (mg : yc) (φ : yb -> Out SD) : Sp := fun vs H Q E => ∃ G ds, (Same G H /\ NoT G /\ zB H) /\ Dts K G vs ds /\ PoF K mg G H Q E (φ ds)
noncomputable def yj (φ : yb -> Out SD) (ops : List Opd) : DE := fun δ => (opds ops δ).bind fun p => (φ p.1).bind fun r => .ok (r, if r.pure = true then p.2.1 else p.2.2)
theorem rW {K : W.Frag} {mg : yc} {E : XK} {φ : yb -> Out SD} {ops : List Opd} {σ : St} {H : Hp} {Q : VK} (h : tE K mg E (yj φ ops) σ H Q) : Ab (spD K mg φ) [] E (tOs K mg E ops) σ H Q := by
 obtain ⟨G0, H0, G, δ, R, m⟩ := h
 refine dA R ?_
 unfold yj at m
 cases e : opds ops δ with
 | ok p =>
  rw [e, Out.bind_ok] at m
  intro vs H1 G1 G2 l R1 s1 R2 L hd
  rw [List.append_nil]
  refine ⟨G2, p.1, ⟨R2.g.gh, R2.noT, R2.tabs⟩, hd, ?_⟩
  cases e2 : φ p.1 with
  | ok r =>
   rw [e2, Out.bind_ok] at m
   intro v H2 G3 gr vn
   by_cases hp : r.pure = true
   ·rw [if_pos hp] at m
    obtain ⟨G4, gr4, vn4⟩ := L.back R1 R2.g.gh gr vn hp
    exact m v H2 G4 (R1.grow gr4) (s1.trans gr4.gg) (RR.of_new R1 vn4)
   ·rw [if_neg hp] at m
    exact m v H2 G3 (R2.grow gr) ((s1.trans L.ext).trans gr.gg) (RR.of_new R2 vn)
  | exc x => rw [e2] at m; exact fun H' C s hC => m H' C (R1.g.hh.trans s) hC
  | bad => rw [e2] at m; exact m
 | exc x => rw [e] at m; exact m
 | bad => rw [e] at m; exact m
abbrev DefD (P : Program) (w : World) (K : W.Frag) (mg : yc) (base : Heap) (x : Str) (k : Nat) (φ : yb -> Out SD) : Prop := ∃ (f : Addr) (fd : FuncData) (ps : List Str), Def P w K mg base (CXe P w) x k f fd ps (spD K mg φ)
section
variable {X : Cx} {E : XK} {x : Str} {k j : Nat} {φ : yb -> Out SD} {e : Expr} {es : List Expr} {ops : List Opd} {p pos : Pos}
theorem aw (D : DefD X.prog X.w X.K X.mg X.base x k φ) (hr : Room j X.A) (hx : Passes (CXe X.prog X.w) X E) (ha : PA X (e :: es) (tOs X.K X.mg E ops)) (hk : k <= j := by decide) (hg : Gl X x := by rfl) (hdb : (x == ("__debug__" : Str)) = false := by decide)
  (he : starEach (e :: es) X.env = (false, eval e X.env) :: starEach es X.env := by rfl) (hpl : (backTo pos (starEach es X.env)).any (·.1) = false := by rfl) : SE X E (.Call (.Name x p) (e :: es) [] pos) (yj φ ops) := by
 obtain ⟨f, fd, ps, D⟩ := D
 exact (n5 D hr hx ha hg hk hdb he hpl).weak fun _ _ _ h => rW h
end
theorem gF {X : Cx} {P : Program} {w : World} : Passes (CXe P w) X E0 := fun _ _ _ _ _ _ _ ⟨_, _, _, _, _, z⟩ => z.elim
noncomputable def start0 (n m : Nat) (ds : yb) : DEnv := ds.map (fun d => some (.sh d)) ++ List.replicate (n - m) none
noncomputable def runB (n m : Nat) (f : DS) (ds : yb) : Out SD := if ds.length = m then (match f (start0 n m ds) with
 | .nx _ => .ok (.sh .none)
 | .rt r => .ok r
 | .exc x => .exc x
 | _ => .bad) else .bad
theorem m8 {K : W.Frag} {mg : yc} {G H : Hp} {vs : List V} {ds : yb} {N : List Str} {m : Nat} (hg : Same G H /\ NoT G /\ zB H) (hd : Dts K G vs ds) (hm : ds.length = m) : Rel K mg G H G H (start N vs) (start0 N.length m ds) where
 g := .refl hg.1
 tb := hg.2.2
 n0 := hg.2.1
 len := by unfold start start0; simp only [List.length_append, List.length_map, List.length_replicate]; rw [hd.len, hm]
 sl := fun i sd e => by
  unfold start0 at e
  by_cases hi : i < ds.length
  ·rw [List.getElem?_append_left (by simpa using hi), List.getElem?_map] at e
   cases e2 : ds[i]? with
   | none => rw [e2] at e; cases e
   | some d =>
    rw [e2] at e
    cases e
    obtain ⟨v, h1, h2⟩ := hd.get' e2
    refine ⟨v, ?_, h2⟩
    unfold start
    rw [List.getElem?_append_left (by rw [List.length_map, hd.len]; exact hi), List.getElem?_map, h1]
    rfl
  ·rw [List.getElem?_append_right (by simpa using hi), List.getElem?_replicate] at e
   split at e <;> cases e
 fr := fun i sd a e ho => by
  unfold start0 at e
  by_cases hi : i < ds.length
  ·rw [List.getElem?_append_left (by simpa using hi), List.getElem?_map] at e
   cases e2 : ds[i]? with
   | none => rw [e2] at e; cases e
   | some d => rw [e2] at e; cases e; exact ho.elim
  ·rw [List.getElem?_append_right (by simpa using hi), List.getElem?_replicate] at e
   split at e <;> cases e
 ap := fun i j sd te a e _ ho => by
  unfold start0 at e
  by_cases hi : i < ds.length
  ·rw [List.getElem?_append_left (by simpa using hi), List.getElem?_map] at e
   cases e2 : ds[i]? with
   | none => rw [e2] at e; cases e
   | some d => rw [e2] at e; cases e; exact ho.elim
  ·rw [List.getElem?_append_right (by simpa using hi), List.getElem?_replicate] at e
   split at e <;> cases e
theorem jk {n m : Nat} {f : DS} {ds : yb} (h : runB n m f ds ≠ .bad) : ds.length = m := by
 unfold runB at h
 split at h
 next e => exact e
 next => exact absurd rfl h
theorem aK {P : Program} {w : World} {K : W.Frag} {mg : yc} {base : Heap} {x qual : Str} {st : Stmt} {f : Addr} {fd : FuncData} {N ps : List Str} {k : Nat} {fb : DS} (F : Fun K x qual st f fd) (S : yn N ps (yf st))
  (body : ∀ (cdv : Value) (A : Around) (outer : List Env) (s : Shared) (H : Hp) (E : XK), Room k (A.deeper (envOfC qual (yf st) s.heap.objs.size f cdv)) -> SS (cxE P w K mg base N qual (yf st) f cdv A outer s H E) E (yg st) fb) :
  FnOk P w K mg base (CXe P w) (k + 1) f fd ps (spD K mg (runB N.length ps.length fb)) := by
 refine F.okE S (fun vs H Q E h => ?_) fun cdv A outer s H vs Q E hr h => ?_
 ·obtain ⟨G, ds, hg, hd, m⟩ := h
  rw [hd.len]
  exact jk fun z => by rw [z] at m; exact m
 ·obtain ⟨G, ds, hg, hd, m⟩ := h
  refine ⟨_, body cdv A outer s H E hr, G, H, G, start0 N.length ps.length ds, ?_, ?_⟩
  ·exact m8 hg hd (jk fun z => by rw [z] at m; exact m)
  ·unfold runB at m
   split at m
   next hl =>
    cases e : fb (start0 N.length ps.length ds) with
    | nx δ => rw [e] at m; exact fun σ' H' G' R' s' => m .non H' G' R'.g (nh .non)
    | rt r => rw [e] at m; exact fun v H' G' g vn => m v H' G' g vn
    | exc x => rw [e] at m; exact m
    | bk δ => rw [e] at m; exact m.elim
    | ct δ => rw [e] at m; exact m.elim
    | bad => rw [e] at m; exact m.elim
   next => exact m.elim
noncomputable def PoC (K : W.Frag) (mg : yc) (E : XK) (G0 H0 G : Hp) (σ : St) (Q : It -> Hp -> Prop) : Out (yb × DEnv × DEnv) -> Prop
 | .ok p => ∀ J H' G' G2 l, Rel K mg G0 H0 G' H' σ p.2.1 -> Same G G' -> Rel K mg G0 H0 G2 H' σ p.2.2 -> Lent G' G2 l -> zp K J G2 p.1 -> Q J H'
 | .exc x => PoX mg E H0 x
 | .bad => False
abbrev DC := DEnv -> Out (yb × DEnv × DEnv)
noncomputable def tIC (K : W.Frag) (mg : yc) (E : XK) (f : DC) : TI := fun σ H Q => ∃ G0 H0 G δ, Rel K mg G0 H0 G H σ δ /\ PoC K mg E G0 H0 G σ Q (f δ)
noncomputable def zi (o : Opd) : DC := fun δ => (opds [o] δ).bind fun p => match p.1 with
 | [.list xs] => .ok (xs, p.2.1, p.2.2)
 | [.tuple xs] => .ok (xs, p.2.1, p.2.2)
 | _ => .bad
noncomputable def icR1 (o : Opd) : DC := fun δ => (opds [o] δ).bind fun p => match p.1 with
 | [.int j] => if rngB j = true then .ok (rngI 0 j.toNat, p.2.1, p.2.2) else .bad
 | _ => .bad
abbrev SIC (X : Cx) (E : XK) (tg iter : Expr) (f : DC) : Prop := PI X tg iter (tIC X.K X.mg E f)
section
variable {X : Cx} {E : XK} {tg l a b : Expr} {o oa ob : Opd} {p pos : Pos}
theorem de (hl : SO X E l o) : SIC X E tg l (zi o) := (n6 hl).weak fun σ H Q ⟨G0, H0, G, δ, R, m⟩ => by
 have key : tOs X.K X.mg E [o] σ H fun vs H1 => ∃ x, vs = [x] /\ ∃ a, x = .ref a /\ (((∃ xs, SqL X.K H1 a xs) /\ Q (Itl X.K a) H1) \/ ((∃ xs, SqT X.K H1 a xs) /\ Q (Itt X.K a) H1)) := by
  refine dA R ?_
  unfold zi at m
  cases e : opds [o] δ with
  | ok p =>
   rw [e, Out.bind_ok] at m
   intro vs H1 G1 G2 l R1 s1 R2 L hd
   split at m
   next xs q =>
    rw [q] at hd
    obtain ⟨x, rfl, h1⟩ := dts1 hd
    cases h1 with
    | lst q r => exact ⟨_, rfl, _, rfl, .inl ⟨⟨_, (R2.g.gh.sqr q).sq⟩, m _ H1 G1 G2 l R1 s1 R2 L (gB q r)⟩⟩
   next xs q =>
    rw [q] at hd
    obtain ⟨x, rfl, h1⟩ := dts1 hd
    cases h1 with
    | tup q r => exact ⟨_, rfl, _, rfl, .inr ⟨⟨_, R2.g.gh.tup q⟩, m _ H1 G1 G2 l R1 s1 R2 L (ik q r)⟩⟩
   next => exact m.elim
  | exc x => rw [e] at m; exact m
  | bad => rw [e] at m; exact m
 exact eZ (fun v H1 ⟨x, ex, q⟩ => by cases ex; exact q) key
theorem jY (hm : X.mg "range" = none) (ha : SO X E a oa) (hg : Gl X "range" := by rfl) (hs : starEach [a] X.env = [(false, eval a X.env)] := by rfl) : SIC X E tg (.Call (.Name "range" p) [a] [] pos) (icR1 oa) :=
 (i5 hg hm (aa ha aj hs) hs).weak fun σ H Q ⟨G0, H0, G, δ, R, m⟩ => by
  refine dA R ?_
  unfold icR1 at m
  cases e : opds [oa] δ with
  | ok q =>
   rw [e, Out.bind_ok] at m
   intro vs H1 G1 G2 l R1 s1 R2 L hd
   split at m
   next j ej =>
    rw [ej] at hd
    obtain ⟨v, rfl, h1⟩ := dts1 hd
    cases h1
    split at m
    next hj =>
     have hj := of_decide_eq_true hj
     exact ⟨j, rfl, hj.1, hj.2, m _ H1 G1 G2 l R1 s1 R2 L (dw 0 j.toNat)⟩
    next => exact m.elim
   next => exact m.elim
  | exc x => rw [e] at m; exact m
  | bad => rw [e] at m; exact m
end
noncomputable def rhoD (F : List Nat) (δ : DEnv) : DEnv := none :: F.map fun j => (δ[j]?).join
noncomputable def yN (ρ : DEnv) (tc : DT) (te : DE) : yb -> Option yb
 | [] => some []
 | d :: ds => match tc (ρ.set 0 (some (.sh d))) with
  | .ok p => if p.1 = true then (match vE te p.2 with
    | .ok q => (yN ρ tc te ds).map (q.1 :: ·)
    | _ => none) else yN ρ tc te ds
  | _ => none
def yB : DT := fun δ => .ok (true, δ)
noncomputable def z6 (F : List Nat) (fc : DC) (tc : DT) (te : DE) : DE := fun δ => (fc δ).bind fun p => if p.1.length <= sizeLine then (match yN (rhoD F (yk F p.2.2)) tc te p.1 with
 | some ys => .ok (.ol ys, if yh ys = true then p.2.1 else yk F p.2.2)
 | none => .bad) else .bad
theorem m9 {i j : Nat} {δ : DEnv} {sd : SD} (h : (yR i δ)[j]? = some (some sd)) : (j = i /\ ¬ sd.owned) \/ (δ[j]? = some (some sd)) := by
 unfold yR at h
 split at h
 ·rcases az h with ⟨z, e⟩ | ⟨_, e⟩
  ·cases e; exact .inl ⟨z, fun h => h⟩
  ·exact .inr e
 ·rcases az h with ⟨z, e⟩ | ⟨_, e⟩
  ·cases e; exact .inl ⟨z, fun h => h⟩
  ·exact .inr e
 ·exact .inr h
theorem jl {i : Nat} {δ : DEnv} {sd : SD} (h : (yR i δ)[i]? = some (some sd)) : ¬ sd.owned := by
 unfold yR at h
 split at h
 ·rcases az h with ⟨_, e⟩ | ⟨z, _⟩
  ·cases e; exact fun h => h
  ·exact absurd rfl z
 ·rcases az h with ⟨_, e⟩ | ⟨z, _⟩
  ·cases e; exact fun h => h
  ·exact absurd rfl z
 next n1 n2 =>
  intro ho
  cases sd with
  | sh d => exact ho
  | ol ds => exact n1 ds h
  | od ds => exact n2 ds h
  | ex x => exact ho
theorem fR : ∀ (is : List Nat) {δ : DEnv} {j : Nat}, (∀ sd, δ[j]? = some (some sd) -> ¬ sd.owned) -> ∀ sd, (yk is δ)[j]? = some (some sd) -> ¬ sd.owned
 | [], _, _, h, sd, e => h sd e
 | i :: r, δ, j, h, sd, e => fR r (δ := yR i δ) (fun sd' e' => by
   rcases m9 e' with ⟨_, z⟩ | z
   ·exact z
   ·exact h sd' z) sd e
theorem ef : ∀ (is : List Nat) {δ : DEnv} {j : Nat} {sd : SD}, j ∈ is -> (yk is δ)[j]? = some (some sd) -> ¬ sd.owned
 | [], _, _, _, h, _ => absurd h (by simp)
 | i :: r, δ, j, sd, h, e => by
  rcases List.mem_cons.mp h with z | z
  ·subst z
   exact fR r (δ := yR j δ) (fun sd' e' => jl e') sd e
  ·exact ef r z e
theorem il {α : Type} {o : Option (Option α)} {a : α} (h : o.join = some a) : o = some (some a) := by
 cases o with
 | none => cases h
 | some b => cases b with
  | none => cases h
  | some c => cases h; rfl
theorem kQ {K : W.Frag} {mg : yc} {G0 H0 G H G1 H1 : Hp} {σ : St} {δ : DEnv} {F : List Nat} (R : Rel K mg G0 H0 G H σ δ) (ho : ∀ j ∈ F, ∀ sd, δ[j]? = some (some sd) -> ¬ sd.owned) (g : Grow G H G1 H1) : Rel K mg G H G1 H1 (rho 1 F σ) (rhoD F δ) := by
 have get : ∀ (i : Nat) sd, (rhoD F δ)[i]? = some (some sd) -> ∃ k j, i = k + 1 /\ F[k]? = some j /\ δ[j]? = some (some sd) := fun i sd e => by
  unfold rhoD at e
  cases i with
  | zero => cases e
  | succ k =>
   rw [List.getElem?_cons_succ, List.getElem?_map] at e
   cases e2 : F[k]? with
   | none => rw [e2] at e; cases e
   | some j =>
    rw [e2] at e
    exact ⟨k, j, rfl, e2, il (Option.some.inj e)⟩
 refine ⟨g, ?_, fun i sd e => ?_, fun i sd a e h => ?_, fun i j sd te a e _ h => ?_, R.tabs, R.noT⟩
 ·rw [g7]; simp [rhoD]; omega
 ·obtain ⟨k, j, rfl, e1, e2⟩ := get i sd e
  obtain ⟨v, h1, h2⟩ := R.sl j sd e2
  refine ⟨v, ?_, h2.grow g⟩
  unfold rho
  rw [List.getElem?_append_right (by simp), List.getElem?_map]
  simp only [List.length_replicate, Nat.add_sub_cancel, e1, Option.map_some, h1, Option.join_some]
 ·obtain ⟨k, j, rfl, e1, e2⟩ := get i sd e
  exact absurd h (ho j (List.mem_of_getElem? e1) sd e2)
 ·obtain ⟨k, j, rfl, e1, e2⟩ := get i sd e
  exact absurd h (ho j (List.mem_of_getElem? e1) sd e2)
theorem ny {K : W.Frag} {mg : yc} {E : XK} {F : List Nat} {fc : DC} {tc : DT} {te : DE} {σ : St} {H : Hp} {Q : VK} (h : tE K mg E (z6 F fc tc te) σ H Q) : zA 1 F (tIC K mg E fc) (z0 0) (tT K mg E0 tc) (tE K mg E0 te) σ H Q := by
 obtain ⟨G0, H0, G, δ, R, m⟩ := h
 refine ⟨G0, H0, G, δ, R, ?_⟩
 unfold z6 at m
 cases e : fc δ with
 | exc x => rw [e] at m; exact m
 | bad => rw [e] at m; exact m
 | ok p =>
  rw [e, Out.bind_ok] at m
  intro J H1 G1 G2 l R1 s1 R2 L W
  split at m
  next hsz =>
   obtain ⟨G3, l3, R3, L3⟩ := R2.relA F
   have L13 := L.trans L3
   have ho : ∀ j ∈ F, ∀ sd, (yk F p.2.2)[j]? = some (some sd) -> ¬ sd.owned := fun j hj sd e => ef F hj e
   generalize hρ : rhoD F (yk F p.2.2) = ρ at m
   cases ec : yN ρ tc te p.1 with
   | none => rw [ec] at m; exact m.elim
   | some total =>
    rw [ec] at m
    dsimp only at m
    refine ⟨fun i mm ys H2 => ∃ G4 es rest, Grow G3 H1 G4 H2 /\ Dts K G4 ys es /\ i + mm = p.1.length /\ ys.length <= i /\ yN ρ tc te (p.1.drop i) = some rest /\ es ++ rest = total, ⟨p.1.length, G3, [], total, .refl R3.g.gh, .nil, Nat.zero_add _, Nat.le_refl _, ec, rfl⟩, ?_⟩
    rintro i mm ys H2 ⟨G4, es, rest, g4, hys, him, hyl, hc, ht⟩
    obtain ⟨w1, w2⟩ := W i G4 H2 (L3.ext.trans g4.gg) g4.gh
    cases hd : p.1[i]? with
    | none =>
     have hi : p.1.length <= i := List.getElem?_eq_none_iff.mp hd
     refine .inl ⟨w2 hi, fun D hD => ?_⟩
     rw [List.drop_eq_nil_of_le hi] at hc
     cases hc
     rw [List.append_nil] at ht
     subst ht
     have gD : Grow G3 H1 G4 (upd H2 D (.lst ys)) := g4.trans (.laidO g4.gh hD)
     have vn : VN K mg H1 G4 (upd H2 D (.lst ys)) (.ref D) (.ol es) := ⟨⟨D, ys, rfl, g4.gh.free hD, ay, hys⟩, fun _ a ea => by cases ea; exact g4.hh.free hD⟩
     by_cases hp : yh es = true
     ·rw [if_pos hp] at m
      obtain ⟨G5, gr5, vn5⟩ := L13.back R1 R3.g.gh gD vn hp
      exact m _ _ G5 (R1.grow gr5) (s1.trans gr5.gg) (RR.of_new R1 vn5)
     ·rw [if_neg hp] at m
      exact m _ _ G4 (R3.grow gD) ((s1.trans L13.ext).trans g4.gg) (RR.of_new R3 vn)
    | some d =>
     have hi : i < p.1.length := (List.getElem?_eq_some_iff.mp hd).1
     obtain ⟨go, yl⟩ := w1 d hd
     have ed : p.1.drop i = d :: p.1.drop (i + 1) := by
      rw [List.drop_eq_getElem_cons hi]
      congr 1
      exact Option.some.inj ((List.getElem?_eq_getElem hi).symm.trans hd)
     rw [ed] at hc
     unfold yN at hc
     refine .inr ⟨go, fun x H3 hy => ?_⟩
     obtain ⟨G5, g5, dx⟩ := yl x H3 hy
     have g35 := g4.trans g5
     have Rr := kQ (F := F) R3 ho g35
     rw [hρ] at Rr
     have hz : 0 < (rho 1 F σ).length := by rw [g7]; omega
     have Rs := Rr.store hz (r := .sh d) (v := x) (RR.sh dx)
     show tT K mg E0 tc ((rho 1 F σ).set 0 (some x)) H3 _
     refine ⟨G3, H1, G5, ρ.set 0 (some (.sh d)), Rs, ?_⟩
     cases e1 : tc (ρ.set 0 (some (.sh d))) with
     | exc y => rw [e1] at hc; cases hc
     | bad => rw [e1] at hc; cases hc
     | ok q =>
      rw [e1] at hc
      dsimp only at hc
      intro H6 G6 R6 s6
      split
      next hb =>
       rw [if_pos hb] at hc
       refine ng R6 ?_
       cases e2 : vE te q.2 with
       | exc y => rw [e2] at hc; cases hc
       | bad => rw [e2] at hc; cases hc
       | ok u =>
        rw [e2] at hc
        dsimp only at hc
        obtain ⟨rest', er, rfl⟩ := Option.map_eq_some_iff.mp hc
        intro v H7 G7 R7 s7 hv
        refine ⟨by omega, mm - 1, by omega, G7, es ++ [u.1], rest', R7.g, ?_, by omega, by rw [List.length_append, List.length_singleton]; omega, er, by rw [List.append_assoc]; exact ht⟩
        exact (hys.mono ((g5.gg.trans s6).trans s7)).append (.cons hv .nil)
      next hb =>
       rw [if_neg hb] at hc
       exact ⟨mm - 1, by omega, G6, es, rest, R6.g, hys.mono (g5.gg.trans s6), by omega, by omega, hc, ht⟩
  next => exact m.elim
section
variable {X : Cx} {E : XK} {N0 : List Str} {sc0 scope : Scope} {x y : Str} {elt iter : Expr} {ifs : List Expr} {fc : DC} {tc : DT} {te : DE} {pos px py spos : Pos} {F : List Nat}
theorem df : PTs X [] (tT X.K X.mg E yB) := fun pins s σ H Q I ⟨G0, H0, G, δ, R, m⟩ => oF pins s σ H Q I (m H G R (.refl _))
theorem dJ (hok : yX N0 sc0 x scope = true) (hF : za N0 scope = F) (hi : SIC X E (.Name x px) iter fc) (ht : ∀ cl C ex s H, PTs (yq X (x :: yr scope) scope cl C ex s H) ifs (tT X.K X.mg E0 tc)) (he : ∀ cl C ex s H, PE (yq X (x :: yr scope) scope cl C ex s H) elt (tE X.K X.mg E0 te)) (hN : X.N = N0 := by rfl)
  (hsc : X.env.scope = sc0 := by rfl) (hcm : X.calm = true := by rfl) (hs : ∀ x, foldedSetIterable iter X.env x = pure x := by intro _; rfl) : SE X E (.ListComp elt [⟨.Name x px, iter, ifs, 0⟩] scope pos) (z6 F fc tc te) := by
 subst hF
 exact (n8 hok hi ht he hN hsc hcm hs).weak fun _ _ _ h => ny h
theorem p8 (i : Nat) (hNd : X.N.Nodup) (hok : yX N0 sc0 x scope = true) (hF : za N0 scope = F) (hi : SIC X E (.Name x px) iter fc) (ht : ∀ cl C ex s H, PTs (yq X (x :: yr scope) scope cl C ex s H) ifs (tT X.K X.mg E0 tc)) (he : ∀ cl C ex s H, PE (yq X (x :: yr scope) scope cl C ex s H) elt (tE X.K X.mg E0 te))
  (hy : z8 X.N y = some i := by rfl) (hN : X.N = N0 := by rfl) (hsc : X.env.scope = sc0 := by rfl) (hcm : X.calm = true := by rfl) (hl : X.env.scope.names.lookup y = some .local := by rfl)
  (hsw : swapsWith (.ListComp elt [⟨.Name x px, iter, ifs, 0⟩] scope pos) (some (.Name y py)) spos.line X.env = pure true := by rfl) (hs : ∀ x, foldedSetIterable iter X.env x = pure x := by intro _; rfl) :
  S1 X E (.Assign [.Name y py] (.ListComp elt [⟨.Name x px, iter, ifs, 0⟩] scope pos) spos) (sAsg i (z6 F fc tc te)) := by
 subst hF
 exact (nc hok hi ht he hy hNd hN hsc hcm hl hsw hs).weak fun D σ H q => by
  have q' : tE X.K X.mg E (z6 (za N0 scope) fc tc te) σ H fun x H1 => z0 i x σ H1 D.nx := qu q
  exact ny q'
end
noncomputable def RaS (K : W.Frag) (mg : yc) (ck : DEnv -> Bool) (t : TA) : Prop := ∀ (G0 H0 G H : Hp) (σ : St) (δ : DEnv) (P : List V -> Hp -> Prop), Rel K mg G0 H0 G H σ δ -> ck δ = true -> (∀ vs H', vs.length <= 1 -> yM H0 H' -> P vs H') -> t σ H P
noncomputable def RaJ (K : W.Frag) (mg : yc) (ck : DEnv -> Bool) (m : Nat) (t : TJ) : Prop := ∀ (G0 H0 G H : Hp) (σ : St) (δ : DEnv) (out : Str) (Q : Str -> Hp -> Prop), Rel K mg G0 H0 G H σ δ -> ck δ = true -> out.length <= m -> (∀ y H', yM H0 H' -> Q y H') -> t σ H out Q
noncomputable def RaE (K : W.Frag) (mg : yc) (ck : DEnv -> Bool) (t : TE) : Prop := ∀ (G0 H0 G H : Hp) (σ : St) (δ : DEnv) (Q : VK), Rel K mg G0 H0 G H σ δ -> ck δ = true -> (∀ i : Int, i.natAbs.log2 < 1920 -> Q (.int i) H) -> t σ H Q
def zE : DEnv -> Bool := fun _ => true
noncomputable def A5 (i : Nat) : DEnv -> Bool := fun δ => match δ[i]? with
 | some (some (.sh (.int k))) => decide (k.natAbs.log2 < 1920)
 | _ => false
noncomputable def z9 (x : Str) (ck : DEnv -> Bool) : DS := fun δ => if ck δ = true then .exc x else .bad
section
variable {K : W.Frag} {mg : yc} {ck : DEnv -> Bool} {m : Nat}
theorem jZ {s : Str} : RaS K mg zE (zJ (tC (.str s)) tNil) := fun G0 H0 G H σ δ P R _ k => k _ H (Nat.le_refl _) R.g.hh
theorem rX {t : TJ} (h : RaJ K mg ck 0 t) : RaS K mg ck (zJ (fun σ H Q => t σ H Str.empty fun y H' => Q (.str y) H') tNil) := fun G0 H0 G H σ δ P R hc k => h G0 H0 G H σ δ Str.empty _ R hc (Nat.le_refl _) fun y H' s => k _ H' (Nat.le_refl _) s
theorem ka (hm : m <= sizeLine) : RaJ K mg ck m (fun _ H out Q => out.length <= sizeLine /\ Q out H) := fun G0 H0 G H σ δ out Q R _ ho k => ⟨Nat.le_trans ho hm, k _ H R.g.hh⟩
theorem gG {x : Str} {t : TJ} (n : Nat) (hx : x.length = n) (h : RaJ K mg ck (m + n) t) (hm : m + n <= sizeLine) : RaJ K mg ck m (fun σ H out Q => (out ++ x).length <= sizeLine /\ t σ H (out ++ x) Q) := fun G0 H0 G H σ δ out Q R hc ho k => by
 have hl : (out ++ x).length <= m + n := by rw [Str.length_append]; lia
 exact ⟨Nat.le_trans hl hm, h G0 H0 G H σ δ _ Q R hc hl k⟩
theorem kb {te : TE} {t : TJ} (he : RaE K mg ck te) (h : RaJ K mg ck (m + 1921) t) (hm : m + 1921 <= sizeLine) : RaJ K mg ck m (fun σ H out Q => te σ H fun v H1 => ∃ i : Int, v = .int i /\ i.natAbs.log2 < 1920 /\ ∀ y : Str, y.length <= 1921 -> (out ++ y).length <= sizeLine /\ t σ H1 (out ++ y) Q) :=
 fun G0 H0 G H σ δ out Q R hc ho k => he G0 H0 G H σ δ _ R hc fun i hi => ⟨i, rfl, hi, fun y hy => by
  have hl : (out ++ y).length <= m + 1921 := by rw [Str.length_append]; lia
  exact ⟨Nat.le_trans hl hm, h G0 H0 G H σ δ _ Q R hc hl k⟩⟩
theorem rY (i : Nat) : RaE K mg (A5 i) (tVar i) := fun G0 H0 G H σ δ Q R hc k => by
 unfold A5 at hc
 split at hc
 next j e =>
  obtain ⟨v, h1, h2⟩ := R.sl i _ e
  cases h2
  exact ⟨_, h1, k j (of_decide_eq_true hc)⟩
 next => cases hc
theorem jm {c : Int} (hc : c.natAbs.log2 < 1920) : RaE K mg ck (tC (.int c)) := fun G0 H0 G H σ δ Q R _ k => k c hc
end
section
variable {X : Cx} {E : XK} {x : Str} {C : Addr} {B newId initId : String} {bmB : List Value} {t : TA} {e : Expr} {es : List Expr} {np cpos pos : Pos} {ck : DEnv -> Bool}
theorem cW (W : Wish X E) (hc : X.calm = true) (FB : ExcBaseFacts B newId initId bmB) (hm : X.mg x = some (.ref C)) (hx : PySem.W.excIn X.K C bmB newId = true) (ha : PA X (e :: es) t) (hr : RaS X.K X.mg ck t) (hg : Gl X x := by rfl)
  (hd : (x == ("__debug__" : Str)) = false := by decide) (hst : starEach (e :: es) X.env = (false, eval e X.env) :: starEach es X.env := by rfl) (hpl : (backTo cpos (starEach es X.env)).any (·.1) = false := by rfl) :
  S1 X E (.Raise (some (.Call (.Name x np) (e :: es) [] cpos)) none pos) (z9 x ck) := (mZ W hc FB hg hm hx ha hd hst hpl).weak fun D σ H ⟨G0, H0, G, δ, R, m⟩ => by
 unfold z9 at m
 split at m
 next hk => exact hr G0 H0 G H σ δ _ R hk fun vs H' hl s => ⟨Nat.le_trans hl (by decide), m H' _ s hm⟩
 next => exact m.elim
end
section
variable {K : W.Frag} {mg : yc} {G0 H0 G H H' : Hp} {σ : St} {δ : DEnv} {i : Nat} {v : V}
theorem Rel.onward (R : Rel K mg G0 H0 G H σ δ) (s : yM H H') : Rel K mg G0 H0 G H' σ δ := R.grow ⟨s, .refl _, s.same R.g.gh R.noT, fun _ _ => rfl, id⟩
theorem Rel.unset (R : Rel K mg G0 H0 G H σ δ) (i : Nat) : Rel K mg G0 H0 G H (σ.set i none) (δ.set i none) where
 tb := R.tb
 n0 := R.n0
 g := R.g
 len := by rw [List.length_set, List.length_set]; exact R.len
 sl := fun j sd e => by
  rcases az e with ⟨_, z⟩ | ⟨hj, e'⟩
  ·cases z
  ·obtain ⟨w, h1, h2⟩ := R.sl j sd e'
   exact ⟨w, by rw [List.getElem?_set_ne (Ne.symm hj)]; exact h1, h2⟩
 fr := fun j sd a e ho hs => by
  rcases az e with ⟨_, z⟩ | ⟨hj, e'⟩
  ·cases z
  ·rw [List.getElem?_set_ne (Ne.symm hj)] at hs
   exact R.fr j sd a e' ho hs
 ap := fun j k sd te a e1 e2 h1 h2 s1 s2 => by
  rcases az e1 with ⟨_, z⟩ | ⟨hj, q1⟩
  ·cases z
  ·rcases az e2 with ⟨_, z⟩ | ⟨hk, q2⟩
   ·cases z
   ·rw [List.getElem?_set_ne (Ne.symm hj)] at s1
    rw [List.getElem?_set_ne (Ne.symm hk)] at s2
    exact R.ap j k sd te a q1 q2 h1 h2 s1 s2
end
noncomputable def A6 (φ : yb -> Out SD) (ops : List Opd) (cat : Str -> Bool) (h : DS) : DS := fun δ => match opds ops δ with
 | .ok p => (match φ p.1 with
  | .ok r => .nx (if r.pure = true then p.2.1 else p.2.2)
  | .exc y => if cat y = true then h p.2.1 else .bad
  | .bad => .bad)
 | _ => .bad
noncomputable def hAs (i : Nat) (y : Str) (h : DS) : DS := fun δ => if i < δ.length then (match h (δ.set i (some (.ex y))) with
 | .nx δ' => .nx (δ'.set i none)
 | .bk δ' => .bk (δ'.set i none)
 | .ct δ' => .ct (δ'.set i none)
 | r => r) else .bad
noncomputable def zQ (φ : yb -> Out SD) (ops : List Opd) (cat : Str -> Bool) (i : Nat) (h : DS) : DS := fun δ => match opds ops δ with
 | .ok p => (match φ p.1 with
  | .ok r => .nx (if r.pure = true then p.2.1 else p.2.2)
  | .exc y => if cat y = true then hAs i y h p.2.1 else .bad
  | .bad => .bad)
 | _ => .bad
noncomputable def Cat (K : W.Frag) (mg : yc) (Cc : Value) (cat : Str -> Bool) : Prop := ∀ y C, cat y = true -> mg y = some C -> W.exmOne K C Cc = some true
section
variable {K : W.Frag} {mg : yc} {E : XK} {φ : yb -> Out SD} {ops : List Opd} {cat : Str -> Bool} {h : DS} {Cc : Value} {D : Ends} {σ : St} {H : Hp} {i : Nat}
theorem rZ {G0 H0 G H' : Hp} {δ : DEnv} {y : Str} {C : Value} (R : Rel K mg G0 H0 G H' σ δ) (hC : mg y = some C) (m : PoS K mg E G0 H0 G D (hAs i y h δ)) : ∀ ea, H' ea = none -> tS K mg E h (D.less i) (σ.set i (some (.ref ea))) (upd H' ea (excO ea C)) := fun ea he => by
 unfold hAs at m
 split at m
 next hi =>
  have R2 := (R.grow (.laidO (o := excO ea C) R.g.gh he)).store (i := i) (v := .ref ea) (r := .ex y) (by rw [<- R.len]; exact hi) ⟨⟨ea, C, rfl, hC, ay⟩, fun z => z.elim⟩
  refine ⟨G0, H0, G, _, R2, ?_⟩
  cases e : h (δ.set i (some (.ex y))) with
  | nx δ' => rw [e] at m; exact fun σ' H' G' R' s => m _ H' G' (R'.unset i) s
  | bk δ' => rw [e] at m; exact fun σ' H' G' R' s => m _ H' G' (R'.unset i) s
  | ct δ' => rw [e] at m; exact fun σ' H' G' R' s => m _ H' G' (R'.unset i) s
  | rt r => rw [e] at m; exact m
  | exc x => rw [e] at m; exact m
  | bad => rw [e] at m; exact m
 next => exact m.elim
end
section
variable {X : Cx} {E : XK} {x c n : Str} {k j i : Nat} {φ : yb -> Out SD} {e : Expr} {es : List Expr} {ops : List Opd} {p pos pos' cp hp tpos : Pos} {cat : Str -> Bool} {h : DS} {Cc : Value} {b0 : Stmt} {suite : List Stmt}
theorem p9 (D : DefD X.prog X.w X.K X.mg X.base x k φ) (hr : Room j X.A) (ha : PA X.nox (e :: es) (tOs X.K X.mg E0 ops)) (hst : X.stack = X.env :: X.outer) (hfrm : X.env.frame = some X.env.locals) (hm : X.mg c = some Cc) (hcat : Cat X.K X.mg Cc cat)
  (hh : ∀ ea, SS (zk X ea) E (b0 :: suite) h) (hk : k <= j := by decide) (hg : Gl X x := by rfl) (hgc : Gl X c := by rfl) (hdb : (x == ("__debug__" : Str)) = false := by decide) (hdc : (c == ("__debug__" : Str)) = false := by decide)
  (he : starEach (e :: es) X.env = (false, eval e X.env) :: starEach es X.env := by rfl) (hpl : (backTo pos (starEach es X.env)).any (·.1) = false := by rfl) (hs : swapsWith (.Call (.Name x p) (e :: es) [] pos) none pos'.line X.env = pure false := by rfl) :
  S1 X E (.Try [.Expr (.Call (.Name x p) (e :: es) [] pos) pos'] [.ExceptHandler (some (.Name c cp)) none (b0 :: suite) hp] [] [] tpos) (A6 φ ops cat h) := by
 obtain ⟨f, fd, ps, D⟩ := D
 refine (rM (th := tS X.K X.mg E h) hst hfrm (jd D hr ha hg hk hdb he hpl hs) hgc hm hh hdc).weak fun D' σ H ⟨G0, H0, G, δ, R, m⟩ => ?_
 refine dA R ?_
 unfold A6 at m
 cases e1 : opds ops δ with
 | exc y => rw [e1] at m; exact m.elim
 | bad => rw [e1] at m; exact m
 | ok q =>
  rw [e1] at m
  dsimp only at m
  intro vs H1 G1 G2 l R1 s1 R2 L hd
  rw [List.append_nil]
  refine ⟨G2, q.1, ⟨R2.g.gh, R2.noT, R2.tabs⟩, hd, ?_⟩
  cases e2 : φ q.1 with
  | ok r =>
   rw [e2] at m
   intro v H2 G3 gr vn
   dsimp only at m
   by_cases hp : r.pure = true
   ·rw [if_pos hp] at m
    obtain ⟨G4, gr4, vn4⟩ := L.back R1 R2.g.gh gr vn hp
    exact m σ H2 G4 (R1.grow gr4) (s1.trans gr4.gg)
   ·rw [if_neg hp] at m
    exact m σ H2 G3 (R2.grow gr) ((s1.trans L.ext).trans gr.gg)
  | exc y =>
   rw [e2] at m
   dsimp only at m
   intro H2 C s hC
   split at m
   next hy => exact ⟨hcat y C hy hC, G0, H0, G1, q.2.1, R1.onward s, m.mono s1⟩
   next => exact m.elim
  | bad => rw [e2] at m; exact m
theorem nz (i : Nat) (D : DefD X.prog X.w X.K X.mg X.base x k φ) (hr : Room j X.A) (ha : PA X.nox (e :: es) (tOs X.K X.mg E0 ops)) (hst : X.stack = X.env :: X.outer) (hfrm : X.env.frame = some X.env.locals) (hN : X.N.Nodup) (hm : X.mg c = some Cc) (hcat : Cat X.K X.mg Cc cat)
  (hh : ∀ ea, SS (zk X ea) E (b0 :: suite) h) (hi : X.N[i]? = some n := by rfl) (hl : X.env.kindOf n = some .local := by rfl) (hk : k <= j := by decide) (hg : Gl X x := by rfl) (hgc : Gl X c := by rfl) (hdb : (x == ("__debug__" : Str)) = false := by decide) (hdc : (c == ("__debug__" : Str)) = false := by decide)
  (he : starEach (e :: es) X.env = (false, eval e X.env) :: starEach es X.env := by rfl) (hpl : (backTo pos (starEach es X.env)).any (·.1) = false := by rfl) (hs : swapsWith (.Call (.Name x p) (e :: es) [] pos) none pos'.line X.env = pure false := by rfl) :
  S1 X E (.Try [.Expr (.Call (.Name x p) (e :: es) [] pos) pos'] [.ExceptHandler (some (.Name c cp)) (some n) (b0 :: suite) hp] [] [] tpos) (zQ φ ops cat i h) := by
 obtain ⟨f, fd, ps, D⟩ := D
 refine (oM (th := tS X.K X.mg E h) hst hfrm hN hi hl (jd D hr ha hg hk hdb he hpl hs) hgc hm hh hdc).weak fun D' σ H ⟨G0, H0, G, δ, R, m⟩ => ?_
 refine dA R ?_
 unfold zQ at m
 cases e1 : opds ops δ with
 | exc y => rw [e1] at m; exact m.elim
 | bad => rw [e1] at m; exact m
 | ok q =>
  rw [e1] at m
  dsimp only at m
  intro vs H1 G1 G2 l R1 s1 R2 L hd
  rw [List.append_nil]
  refine ⟨G2, q.1, ⟨R2.g.gh, R2.noT, R2.tabs⟩, hd, ?_⟩
  cases e2 : φ q.1 with
  | ok r =>
   rw [e2] at m
   intro v H2 G3 gr vn
   dsimp only at m
   by_cases hp : r.pure = true
   ·rw [if_pos hp] at m
    obtain ⟨G4, gr4, vn4⟩ := L.back R1 R2.g.gh gr vn hp
    exact m σ H2 G4 (R1.grow gr4) (s1.trans gr4.gg)
   ·rw [if_neg hp] at m
    exact m σ H2 G3 (R2.grow gr) ((s1.trans L.ext).trans gr.gg)
  | exc y =>
   rw [e2] at m
   dsimp only at m
   intro H2 C s hC
   split at m
   next hy => exact ⟨hcat y C hy hC, rZ (R1.onward s) hC (m.mono s1)⟩
   next => exact m.elim
  | bad => rw [e2] at m; exact m
end
end L2
namespace PySem.W
open PySem PySem.Spec PySem.Calls PyProof.Rows
theorem pe {K : Frag} {x t c : Value} {H : Heap -> Prop} (ty : ∀ (M : Model) (h : Heap), H h -> Looks M h (typeOf x) t) (e : kitOne K t c = some true) : Answers (fun s => K.In s.heap /\ H s.heap) x c true := by
 intro dep tk prog w A R s hs
 obtain ⟨h0, g, d, tt, os⟩ := s
 obtain ⟨⟨X, p⟩, hq⟩ := hs
 have LT := ty (model prog w) h0 p
 unfold kitOne at e
 unfold Builtin.«isinstance.nested»
 refine wpAny_bind (LT.at ?_)
 by_cases q : (t == c) = true
 ·rw [if_pos q] at e
  rw [if_pos q]
  first
   | ((repeat lk); exact hq tt)
   | exact wpAny_bind (wpAny_rule (hq tt))
   | exact wpAny_bind (wpAny_rule (wpAny_pure (hq tt)))
 ·rw [if_neg q] at e
  rw [if_neg q]
  obtain ⟨hty, his, hsub⟩ := kit_cls (M := model prog w) X e
  have LI : Looks (model prog w) h0 (isInstance x c) true := LT.andThen hsub
  refine wpAny_bind (hty.at ?_)
  rw [if_pos (by decide)]
  k_delta "plainIsInstance"
  refine wpAny_bind (wpAny_bind (his.at ?_))
  simp only [Bool.not_true, Bool.false_eq_true, if_false]
  refine wpAny_bind (LI.at ?_)
  first
   | exact wpAny_pure (wpAny_pure (hq tt))
   | (simp only [if_true]; first | exact wpAny_pure (wpAny_pure (hq tt)) | exact wpAny_pure (hq tt) | exact wpAny_bind (wpAny_pure (wpAny_pure (hq tt))))
theorem ff {K : Frag} {a : Addr} {C c : Value} {prog : Program} {w : World} {A : Around} {E : ye} {s : Shared} {Q : ye} (X : K.In s.heap) (p : ∃ o, s.heap.get? a = some o /\ o.cls = C) (e : kitOne K C c = some true) (h : ∀ tk, Q (.bool true) { s with toks := tk }) :
  wpAny (model prog w) A (call (.builtin "isinstance") [.ref a, c]) Q E s :=
 call_isinstance (S := fun _ R s => (K.In s.heap /\ ∃ o, s.heap.get? a = some o /\ o.cls = C) /\ ∀ tk, R (.ok (.ret (.bool true))) { s with toks := tk })
  (fun prog w A R s hs => isinstance_outer (pe (K := K) (H := fun h => ∃ o, h.get? a = some o /\ o.cls = C) (fun M h ⟨o, ho, hc⟩ => by rw [<- hc]; exact (Looks.ld ho).andThen .now) e 0 _ prog w A R s hs) (by intro z; cases z)) ⟨⟨X, p⟩, h⟩
end PySem.W
namespace L2
open PySem PySem.Spec PyProof.Rows
variable [Tabs]
open PySem.W (ff) in
theorem nA {X : Cx} : yG X (.builtin "isinstance") (fun xs H Q => ∃ a C cv, xs = [.ref a, cv] /\ H a = some (excO a C) /\ (∀ c, RelV cv c -> W.kitOne X.K C c = some true) /\ Q (.bl true) H) := by
 intro pins s σ H xs us Q I r h
 obtain ⟨a, C, cv, rfl, ha, hk, q⟩ := h
 obtain ⟨u, w', rfl, r1, r2⟩ := vals2 r
 cases (show u = Value.ref a from r1)
 have ho : yz X.prog X.w H s.heap a (excO a C) := I.hok a _ ha
 exact ff I.kIn ho.1 (hk w' r2) fun tk => ⟨.bl true, H, I.tok tk, rfl, q⟩
noncomputable def eIsX (i : Nat) (cat : Str -> Bool) : DE := fun δ => match δ[i]? with
 | some (some (.ex y)) => if cat y = true then .ok (.sh (.bool true), δ) else .bad
 | _ => .bad
noncomputable def CatI (K : W.Frag) (mg : yc) (c : Value) (cat : Str -> Bool) : Prop := ∀ y C, cat y = true -> mg y = some C -> W.kitOne K C c = some true
section
variable {X : Cx} {E : XK} {x n : Str} {cat : Str -> Bool} {p q r pos : Pos}
theorem vk {i : Nat} {cv : V} {σ : St} {H : Hp} {Q : VK} (hc : ∀ y C, cat y = true -> X.mg y = some C -> ∀ c, RelV cv c -> W.kitOne X.K C c = some true) (h : tE X.K X.mg E (eIsX i cat) σ H Q) :
  tCB (fun xs H Q => ∃ a C cv, xs = [.ref a, cv] /\ H a = some (excO a C) /\ (∀ c, RelV cv c -> W.kitOne X.K C c = some true) /\ Q (.bl true) H) (zJ (tVar i) (zJ (tC cv) tNil)) σ H Q := by
 obtain ⟨G0, H0, G, δ, R, m⟩ := h
 unfold eIsX at m
 split at m
 next y e =>
  split at m
  next hy =>
   obtain ⟨v, h1, ⟨a, C, rfl, h3, h4⟩⟩ := R.sl i _ e
   exact ⟨_, h1, a, C, cv, rfl, h4, hc y C hy h3, m _ H G R (.refl _) (RR.sh (.bl true))⟩
  next => exact m.elim
 next => exact m.elim
theorem pf (i : Nat) {T : String} (hm : X.mg "isinstance" = none) (hm2 : X.mg x = none) (hv : bootBuiltins x = some (.type T)) (hcat : CatI X.K X.mg (.type T) cat) (hN : X.N[i]? = some n := by rfl) (hvis : Vis X.env.scope n := by first | exact Or.inl rfl | exact Or.inr (Or.inl rfl) | exact Or.inr (Or.inr rfl))
  (hg : Gl X "isinstance" := by rfl) (hg2 : Gl X x := by rfl) (hn : x ≠ "__name__" := by decide) (hd : (x == ("__debug__" : Str)) = false := by decide) (hd2 : (n == ("__debug__" : Str)) = false := by decide) (hcd : (n == ("__classdict__" : Str)) = false := by decide) :
  SE X E (.Call (.Name "isinstance" p) [.Name n q, .Name x r] [] pos) (eIsX i cat) :=
 (gj nA hg hm boot_isinstance (bJ (cN hN hvis hd2 hcd) (bJ (qq hm2 hv hg2 hn hd) cO rfl) rfl) (by decide) (by decide) rfl rfl).weak fun _ _ _ h => vk (fun y C hy hC c hr => by cases (show c = Value.type T from hr); exact hcat y C hy hC) h
end
section
variable {X : Cx} {E : XK} {x : Str} {pos : Pos} {c : Int}
theorem kR (h : ∃ t, X.mg x = some (.int c t)) (hg : Gl X x := by rfl) (hdb : (x == ("__debug__" : Str)) = false := by decide) : PE X (.Name x pos) (tC (.int c)) := by
 obtain ⟨t, h⟩ := h
 exact kx hg h ⟨t, rfl⟩ hdb
theorem kT (h : ∃ t, X.mg x = some (.int c t)) (hg : Gl X x := by rfl) (hdb : (x == ("__debug__" : Str)) = false := by decide) : SE X E (.Name x pos) (eC (.int c)) := by
 obtain ⟨t, h⟩ := h
 exact kM h (v := .int c) ⟨t, rfl⟩ (fun _ => .int c) hg hdb
end
section
variable {P : Program} {w : World} {K : W.Frag} {mg : yc} {base h : Heap} {x : Str} {st : Stmt} {f : Addr} {fd : FuncData}
structure As (K : W.Frag) (mg : yc) (x : Str) (st : Stmt) (f : Addr) (fd : FuncData) : Prop where
 fn : Fun K x x st f fd
 at_ : mg x = some (.ref f)
theorem aB {oc : Value} {od an : Option Addr} {osl : Array (Option Value)} {kV doc pm cdv ct : Value} (X : K.In h) (G : h.Ns mainGlobals mg) (a : W.nsIn K mainGlobals x = some (some (.ref f)))
  (l : K.lookup f = some ⟨oc, od, .func (W.fnOf x x (yi st) (yg st) (yf st) .none kV doc pm an cdv ct), osl⟩) (c : W.codeIn K cdv x = true) (k : W.keepIn K (.ref f) = true) : As K mg x st f (W.fnOf x x (yi st) (yg st) (yf st) .none kV doc pm an cdv ct) :=
 ⟨rJ l c k, W.mg_of X G a⟩
theorem aU {ps : List Str} {k : Nat} {φ : yb -> Out SD} (A : As K mg x st f fd) (ok : FnOk P w K mg base (CXe P w) k f fd ps (spD K mg φ))
  (b : ∀ (kV doc pm : Value) (an : Option Addr) (cdv ct : Value) (us : List Value), us.length = ps.length -> bindArgs (W.fnOf x x (yi st) (yg st) (yf st) .none kV doc pm an cdv ct) ⟨us, []⟩ = pure (ps.zip us)) : DefD P w K mg base x k φ :=
 ⟨f, fd, ps, ok, A.at_, A.fn.kp, A.fn.binds b⟩
end
noncomputable def A7 (K : W.Frag) : Sp := fun vs H Q _ => ∃ (a : Addr) (ns : List Int), vs = [.ref a] /\ SqR K H a (ns.map V.int) /\ ns.length <= 63 /\ zB H /\ ∀ H', Q (.bl true) H'
theorem ph {K : W.Frag} {H : Hp} {a : Addr} {ns : List Int} (hs : SqR K H a (ns.map V.int)) : ∃ G, Same G H /\ NoT G /\ SqR K G a (ns.map V.int) := by
 refine ⟨fun b => match H b with | some (.tbl _) => none | o => o, fun b o e => ?_, fun b ps z => ?_, ?_⟩
 ·dsimp only at e
  split at e
  ·cases e
  ·exact e
 ·dsimp only at z
  split at z
  ·cases z
  ·rename_i h; exact h ps z
 ·rcases hs with (h | ⟨o, h⟩) | h
  ·exact .inl (.inl (by dsimp only; rw [h]))
  ·exact .inl (.inr ⟨o, by dsimp only; rw [h]⟩)
  ·exact .inr h
theorem ma {K : W.Frag} {mg : yc} {φ : yb -> Out SD} (hφ : ∀ ns : List Int, ns.length <= 63 -> φ [.list (ns.map PyData.int)] = .ok (.sh (.bool true))) (vs : List V) (H : Hp) (Q : VK) (E : XK) (h : A7 K vs H Q E) : spD K mg φ vs H Q E := by
 obtain ⟨a, ns, rfl, hs, hl, tb, q⟩ := h
 obtain ⟨G, g1, g2, g3⟩ := ph hs
 refine ⟨G, [.list (ns.map .int)], ⟨g1, g2, tb⟩, .cons (.lst g3 (Dts.ints ns)) .nil, ?_⟩
 rw [hφ ns hl]
 intro v H' G' _ vn
 have := vn.1
 cases this
 exact q H'
theorem md {P : Program} {w : World} (outer : List Env) (H : Hp) (s : Shared) (e : Value) (s' : Shared) (h : CXe P w outer H s (fun _ _ _ => False) e s') : False := by
 obtain ⟨_, _, _, _, _, z⟩ := h
 exact z
@[simp ↓] theorem vm {α : Type} {c : Prop} [Decidable c] (a : α) : (if c then a else a) = a := by split <;> rfl
noncomputable def shOf : SD × DEnv -> Out (PyData × DEnv)
 | (.sh d, δ) => .ok (d, δ)
 | (.ol ds, δ) => .ok (.list ds, δ)
 | (.od es, δ) => .ok (.dict es, δ)
 | (.ex _, _) => .bad
@[simp] theorem wH (d : PyData) (δ : DEnv) : shOf (.sh d, δ) = .ok (d, δ) := rfl
@[simp] theorem wI (d : yb) (δ : DEnv) : shOf (.ol d, δ) = .ok (.list d, δ) := rfl
@[simp] theorem wJ (d : List (PyData × PyData)) (δ : DEnv) : shOf (.od d, δ) = .ok (.dict d, δ) := rfl
@[simp] theorem y6 (f : DE) (δ : DEnv) : vE f δ = (f δ).bind shOf := by
 unfold vE
 cases f δ with
 | ok p => obtain ⟨r, δ'⟩ := p; cases r <;> rfl
 | exc x => rfl
 | bad => rfl
@[simp] theorem wK (δ : DEnv) : evO [] δ = .ok ([], δ) := rfl
@[simp] theorem xK (i : Nat) (r : List Opd) (δ : DEnv) : evO (.nm i :: r) δ = match δ[i]? with
  | some (some _) => (evO r δ).bind fun q => .ok (.inr i :: q.1, q.2)
  | _ => .bad := by rw [evO] <;> rfl
@[simp] theorem xM (f : DE) (r : List Opd) (δ : DEnv) : evO (.ex f :: r) δ = (vE f δ).bind fun p => (evO r p.2).bind fun q => .ok (.inl p.1 :: q.1, q.2) := by rw [evO]
@[simp] theorem sf : yu [] = [] := rfl
@[simp] theorem vo (d : PyData) (r : List (Sum PyData Nat)) : yu (.inl d :: r) = yu r := rfl
@[simp] theorem vp (i : Nat) (r : List (Sum PyData Nat)) : yu (.inr i :: r) = i :: yu r := rfl
@[simp] theorem si (δ : DEnv) : yk [] δ = δ := rfl
@[simp] theorem qv (i : Nat) (r : List Nat) (δ : DEnv) : yk (i :: r) δ = yk r (yR i δ) := rfl
@[simp] theorem tP (i : Nat) (δ : DEnv) : yR i δ = match δ[i]? with
 | some (some (.ol ds)) => δ.set i (some (.sh (.list ds)))
 | some (some (.od es)) => δ.set i (some (.sh (.dict es)))
 | _ => δ := rfl
@[simp] theorem vq (δ : DEnv) (i : Nat) : A3 δ i = match δ[i]? with
 | some (some (.sh d)) => some d
 | _ => none := rfl
@[simp] theorem tQ (δ : DEnv) : yH δ [] = some [] := rfl
@[simp] theorem wL (δ : DEnv) (d : PyData) (r : List (Sum PyData Nat)) : yH δ (.inl d :: r) = (yH δ r).map (d :: ·) := rfl
@[simp] theorem wM (δ : DEnv) (i : Nat) (r : List (Sum PyData Nat)) : yH δ (.inr i :: r) = (A3 δ i).bind fun d => (yH δ r).map (d :: ·) := rfl
noncomputable def Au (p : List (Sum PyData Nat) × DEnv) : Out (yb × DEnv × DEnv) := match yH (yk (yu p.1) p.2) p.1 with
 | some ds => .ok (ds, p.2, yk (yu p.1) p.2)
 | none => .bad
@[simp] theorem vr (l : List (Sum PyData Nat)) (δ : DEnv) : Au (l, δ) = match yH (yk (yu l) δ) l with
 | some ds => .ok (ds, δ, yk (yu l) δ)
 | none => .bad := rfl
@[simp] theorem wN (ops : List Opd) (δ : DEnv) : opds ops δ = (evO ops δ).bind Au := rfl
@[simp] theorem xN (o : yb -> Option SD) (ops : List Opd) (δ : DEnv) : eOp o ops δ = (opds ops δ).bind fun p => fin2 (o p.1) p.2.1 p.2.2 := rfl
@[simp] theorem tR (r : SD) (δ1 δ2 : DEnv) : fin2 (some r) δ1 δ2 = .ok (r, if r.pure = true then δ1 else δ2) := rfl
@[simp] theorem tU (δ1 δ2 : DEnv) : fin2 none δ1 δ2 = .bad := rfl
@[simp] theorem wO (d : PyData) : (SD.sh d).pure = yy d := rfl
@[simp] theorem wQ (d : yb) : (SD.ol d).pure = yh d := rfl
@[simp] theorem wR (d : List (PyData × PyData)) : (SD.od d).pure = yh (d.map (·.2)) := rfl
@[simp] theorem tV (i : Int) : yy (.int i) = true := by simp [yy]
@[simp] theorem sj (i : Bool) : yy (.bool i) = true := by simp [yy]
@[simp] theorem tW (i : Str) : yy (.str i) = true := by simp [yy]
@[simp] theorem sk : yy .none = true := by simp [yy]
@[simp] theorem sr (l : yb) : yy (.list l) = false := by simp [yy]
@[simp] theorem su (l : List (PyData × PyData)) : yy (.dict l) = false := by simp [yy]
@[simp] theorem jo (l : yb) : yy (.tuple l) = yh l := by simp [yy]
@[simp] theorem kc : yh [] = true := by simp [yh]
@[simp] theorem cn (d : PyData) (l : yb) : yh (d :: l) = (yy d && yh l) := by simp [yh]
@[simp] theorem dC (l : List Int) : yh (l.map PyData.int) = true := by induction l <;> simp_all
@[simp] theorem o5 (l r : yb) : yh (l ++ r) = (yh l && yh r) := by induction l <;> simp_all [Bool.and_assoc]
@[simp] theorem y8 (d : PyData) (δ : DEnv) : eC d δ = .ok (.sh d, δ) := rfl
@[simp] theorem y9 (i : Nat) (δ : DEnv) : eV i δ = match δ[i]? with
 | some (some (.sh d)) => .ok (.sh d, δ)
 | some (some (.ol ds)) => .ok (.sh (.list ds), δ.set i (some (.sh (.list ds))))
 | some (some (.od ds)) => .ok (.sh (.dict ds), δ.set i (some (.sh (.dict ds))))
 | _ => .bad := rfl
@[simp] theorem tX (δ : DEnv) : zP δ = .ok (.od [], δ) := rfl
@[simp] theorem vt (i j : Int) : dAdd [.int i, .int j] = some (.sh (.int (i + j))) := rfl
@[simp] theorem tY (x y : yb) : dAdd [.list x, .list y] = if x.length + y.length <= sizeLine then some (.ol (x ++ y)) else none := rfl
@[simp] theorem sv (x y : yb) : dAdd [.tuple x, .tuple y] = if x.length + y.length <= sizeLine then some (.sh (.tuple (x ++ y))) else none := rfl
@[simp] theorem vv (x y : Str) : dAdd [.str x, .str y] = if x.length + y.length <= sizeLine then some (.sh (.str (x ++ y))) else none := rfl
@[simp] theorem vw (i j : Int) : dSub [.int i, .int j] = some (.sh (.int (i - j))) := rfl
@[simp] theorem tZ (i j : Int) : zr [.int i, .int j] = if 0 < j /\ j < 1073741824 then some (.sh (.int (i / j))) else none := by simp [zr, dI2]
@[simp] theorem vx (i j : Int) : dMod [.int i, .int j] = if 0 < j then some (.sh (.int (i % j))) else none := by simp [dMod, dI2]
@[simp] theorem vy (i j : Int) : dPow [.int i, .int j] = if 0 <= j /\ j <= 1000000 /\ i.natAbs < 2 ^ 64 then some (.sh (.int (i ^ j.toNat))) else none := by simp [dPow, dI2]
@[simp] theorem wU (i j : Int) : dLt [.int i, .int j] = some (.sh (.bool (decide (i < j)))) := rfl
@[simp] theorem wV (i j : Int) : dLe [.int i, .int j] = some (.sh (.bool (decide (i <= j)))) := rfl
@[simp] theorem wW (i j : Int) : dGt [.int i, .int j] = some (.sh (.bool (decide (j < i)))) := rfl
@[simp] theorem wX (i j : Int) : dGe [.int i, .int j] = some (.sh (.bool (decide (j <= i)))) := rfl
@[simp] theorem vz (i : Int) : dNeg [.int i] = some (.sh (.int (-i))) := rfl
@[simp] theorem vA (i j : Int) : dMul [.int i, .int j] = if cMul i j = true then some (.sh (.int (i * j))) else none := rfl
@[simp] theorem u0 (xs : yb) (k : Int) : dMul [.list xs, .int k] = if 0 <= k /\ k < 2 ^ 63 /\ xs.length * k.toNat <= sizeLine then some (.ol (List.replicate k.toNat xs).flatten) else none := rfl
@[simp] theorem xO (x y : PyData) : dEq [x, y] = (dEqB x y).map fun b => .sh (.bool b) := rfl
@[simp] theorem xP (x y : PyData) : dNe [x, y] = (dEqB x y).map fun b => .sh (.bool !b) := rfl
@[simp] theorem vB (i j : Int) : dEqB (.int i) (.int j) = some (decide (i = j)) := rfl
@[simp] theorem u4 (i j : Bool) : dEqB (.bool i) (.bool j) = some (decide (i = j)) := rfl
@[simp] theorem vC (i j : Str) : dEqB (.str i) (.str j) = some (decide (i = j)) := rfl
@[simp] theorem u5 (x y : yb) : dEqB (.list x) (.list y) = if SeqAt.shaped (.list x) = true /\ SeqAt.shaped (.list y) = true then some (PyData.eqv (.list x) (.list y)) else none := rfl
@[simp] theorem sx (x y : yb) : dEqB (.tuple x) (.tuple y) = if SeqAt.shaped (.tuple x) = true /\ SeqAt.shaped (.tuple y) = true then some (PyData.eqv (.tuple x) (.tuple y)) else none := rfl
@[simp] theorem wY (x y : PyData) : dIdx [x, y] = (zK x y).map .sh := rfl
@[simp] theorem sy (xs : yb) (i : Int) : zK (.list xs) (.int i) = atI xs i := rfl
@[simp] theorem qw (xs : yb) (i : Int) : zK (.tuple xs) (.int i) = atI xs i := rfl
@[simp] theorem qx (es : List (PyData × PyData)) (i : Int) : zK (.dict es) (.int i) = zh es (.inl i) := rfl
@[simp] theorem wZ (x : PyData) (i : Int) : dSlL [x, .int i] = slD x (some i) none := rfl
@[simp] theorem vD (xs : yb) (lo hi : Option Int) : slD (.list xs) lo hi = some (.ol (cutD xs lo hi)) := rfl
@[simp] theorem u7 (xs : yb) (lo hi : Option Int) : slD (.tuple xs) lo hi = some (.sh (.tuple (cutD xs lo hi))) := rfl
@[simp] theorem u9 (xs : yb) : dLen [.list xs] = some (.sh (.int xs.length)) := rfl
@[simp] theorem sA (xs : yb) : dLen [.tuple xs] = some (.sh (.int xs.length)) := rfl
@[simp] theorem ua (xs : List (PyData × PyData)) : dLen [.dict xs] = some (.sh (.int xs.length)) := rfl
@[simp] theorem vF (i : Int) : dAbs [.int i] = some (.sh (.int (if i < 0 then -i else i))) := rfl
@[simp] theorem ub (i : Int) : zL [.int i] = some (.sh (.int i)) := rfl
@[simp] theorem sC (i : Bool) : zL [.bool i] = some (.sh (.int (if i then 1 else 0))) := rfl
@[simp] theorem sD (xs : yb) : zC [.list xs] = some (.ol xs) := rfl
@[simp] theorem qy (xs : yb) : zC [.tuple xs] = some (.ol xs) := rfl
@[simp] theorem sE (xs : List (PyData × PyData)) : zC [.dict xs] = some (.ol (xs.map (·.1))) := rfl
@[simp] theorem qz (xs : yb) : zb [.list xs] = some (.sh (.tuple xs)) := rfl
@[simp] theorem pj (xs : yb) : zb [.tuple xs] = some (.sh (.tuple xs)) := rfl
@[simp] theorem x6 (xs : yb) : dTup xs = if xs.length <= sizeLine then some (.sh (.tuple xs)) else none := rfl
@[simp] theorem x8 (xs : yb) : dLst xs = if xs.length <= sizeLine then some (.ol xs) else none := rfl
@[simp] theorem uc (xs : yb) : zD [.list xs] = if xs.length < 64 then (zl xs).map fun ns => .ol ((yS ns).map PyData.int) else none := rfl
@[simp] theorem jq : ∀ ns : List Int, zl (ns.map PyData.int) = some ns
 | [] => rfl
 | n :: r => by simp [zl, jq r]
@[simp] theorem ud (T : String) : dIsi T [.none] = some (.sh (.bool (isiD T .none))) := rfl
@[simp] theorem ue (T : String) (b : Bool) : dIsi T [.bool b] = some (.sh (.bool (isiD T (.bool b)))) := rfl
@[simp] theorem vG (T : String) (i : Int) : dIsi T [.int i] = some (.sh (.bool (isiD T (.int i)))) := rfl
@[simp] theorem vH (T : String) (i : Str) : dIsi T [.str i] = some (.sh (.bool (isiD T (.str i)))) := rfl
@[simp] theorem uf (T : String) (i : yb) : dIsi T [.list i] = some (.sh (.bool (isiD T (.list i)))) := rfl
@[simp] theorem sF (T : String) (i : yb) : dIsi T [.tuple i] = some (.sh (.bool (isiD T (.tuple i)))) := rfl
@[simp] theorem vI {n : Nat} (h : n <= 1000000) : n <= sizeLine := Nat.le_trans h (by decide)
@[simp] theorem qA (b : Bool) : yY (.bool b) = some b := rfl
@[simp] theorem sG (b : Int) : yY (.int b) = some (b != 0) := rfl
@[simp] theorem qB (b : yb) : yY (.list b) = some (!b.isEmpty) := rfl
@[simp] theorem pq (b : yb) : yY (.tuple b) = some (!b.isEmpty) := rfl
@[simp] theorem qC : yY .none = some false := rfl
noncomputable def truO (p : yb × DEnv × DEnv) : Out (Bool × DEnv) := match p.1 with
 | [d] => (match yY d with
  | some b => .ok (b, p.2.1)
  | none => .bad)
 | _ => .bad
@[simp] theorem x9 (d : PyData) (δ1 δ2 : DEnv) : truO ([d], δ1, δ2) = match yY d with
  | some b => .ok (b, δ1)
  | none => .bad := rfl
@[simp] theorem xa (o : Opd) (δ : DEnv) : tstO o δ = (opds [o] δ).bind truO := rfl
noncomputable def truV (p : SD × DEnv) : Out (Bool × DEnv) := match p.1 with
 | .sh (.bool b) => .ok (b, p.2)
 | _ => .bad
@[simp] theorem xQ (b : Bool) (δ : DEnv) : truV (.sh (.bool b), δ) = .ok (b, δ) := rfl
@[simp] theorem xb (f : DE) (δ : DEnv) : tstV f δ = (f δ).bind truV := rfl
@[simp] theorem ug (f : DT) (δ : DEnv) : yK f δ = (f δ).bind fun p => .ok (!p.1, p.2) := rfl
@[simp] theorem uh (f g : DT) (δ : DEnv) : zo f g δ = (f δ).bind fun p => if p.1 = true then g p.2 else .ok (false, p.2) := rfl
@[simp] theorem vJ (f g : DT) (δ : DEnv) : zc f g δ = (f δ).bind fun p => if p.1 = true then .ok (true, p.2) else g p.2 := rfl
@[simp] theorem uk (δ : DEnv) : yB δ = .ok (true, δ) := rfl
@[simp] theorem xc (f : DE) (δ : DEnv) : eNot f δ = (f δ).bind fun p => (truV p).bind fun q => .ok (.sh (.bool !q.1), q.2) := by
 unfold eNot
 congr 1
 funext p
 obtain ⟨r, δ'⟩ := p
 cases r with
 | sh d => cases d <;> rfl
 | _ => rfl
@[simp] theorem xf (f g : DE) (δ : DEnv) : eAnd f g δ = (f δ).bind fun p => (truV p).bind fun q => if q.1 = true then g q.2 else .ok (.sh (.bool false), q.2) := by
 unfold eAnd
 congr 1
 funext p
 obtain ⟨r, δ'⟩ := p
 cases r with
 | sh d => cases d <;> rfl
 | _ => rfl
@[simp] theorem vK (φ : yb -> Out SD) (ops : List Opd) (δ : DEnv) : yj φ ops δ = (opds ops δ).bind fun p => (φ p.1).bind fun r => .ok (r, if r.pure = true then p.2.1 else p.2.2) := rfl
noncomputable def SOut.andThen (x : SOut) (g : DS) : SOut := match x with
 | .nx δ => g δ
 | r => r
@[simp] theorem sH (δ : DEnv) (g : DS) : (SOut.nx δ).andThen g = g δ := rfl
@[simp] theorem sI (r : SD) (g : DS) : (SOut.rt r).andThen g = .rt r := rfl
@[simp] theorem sJ (δ : DEnv) (g : DS) : (SOut.bk δ).andThen g = .bk δ := rfl
@[simp] theorem sL (δ : DEnv) (g : DS) : (SOut.ct δ).andThen g = .ct δ := rfl
@[simp] theorem qD (x : Str) (g : DS) : (SOut.exc x).andThen g = .exc x := rfl
@[simp] theorem qE (g : DS) : SOut.bad.andThen g = .bad := rfl
@[simp] theorem xg (f g : DS) (δ : DEnv) : sSeq f g δ = (f δ).andThen g := rfl
noncomputable def Out.elimS {α : Type} (x : Out α) (f : α -> SOut) : SOut := match x with
 | .ok a => f a
 | .exc x => .exc x
 | .bad => .bad
@[simp] theorem vL {α : Type} (a : α) (f : α -> SOut) : (Out.ok a).elimS f = f a := rfl
@[simp] theorem um {α : Type} (x : Str) (f : α -> SOut) : (Out.exc x : Out α).elimS f = .exc x := rfl
@[simp] theorem uo {α : Type} (f : α -> SOut) : (Out.bad : Out α).elimS f = .bad := rfl
@[simp] theorem vM (δ : DEnv) : yp δ = .nx δ := rfl
@[simp] theorem xh (i : Nat) (f : DE) (δ : DEnv) : sAsg i f δ = (f δ).elimS fun p => if i < p.2.length then .nx (p.2.set i (some p.1)) else .bad := by unfold sAsg; cases f δ <;> rfl
@[simp] theorem xi (f : DE) (δ : DEnv) : sRet f δ = (f δ).elimS fun p => .rt p.1 := by unfold sRet; cases f δ <;> rfl
@[simp] theorem vN (i : Nat) (δ : DEnv) : zt i δ = match δ[i]? with
 | some (some r) => .rt r
 | _ => .bad := rfl
@[simp] theorem xR (t : DT) (f g : DS) (δ : DEnv) : sIf t f g δ = (t δ).elimS fun p => if p.1 = true then f p.2 else g p.2 := by unfold sIf; cases t δ <;> rfl
@[simp] theorem xj (fi : DA) (k : DG) (fb : DS) (δ : DEnv) : sFor fi k fb δ = (fi δ).elimS fun p => forL k fb p.1 p.2 := by unfold sFor; cases fi δ <;> rfl
@[simp] theorem vO (k : DG) (fb : DS) (δ : DEnv) : forL k fb [] δ = .nx δ := rfl
noncomputable def SOut.turn (x : SOut) (g : DS) : SOut := match x with
 | .nx δ => g δ
 | .ct δ => g δ
 | .bk δ => .nx δ
 | .rt r => .rt r
 | .exc x => .exc x
 | .bad => .bad
@[simp] theorem pz (δ : DEnv) (g : DS) : (SOut.nx δ).turn g = g δ := rfl
@[simp] theorem xk (r : SD) (g : DS) : (SOut.rt r).turn g = .rt r := rfl
@[simp] theorem xl (δ : DEnv) (g : DS) : (SOut.bk δ).turn g = .nx δ := rfl
@[simp] theorem xm (δ : DEnv) (g : DS) : (SOut.ct δ).turn g = g δ := rfl
@[simp] theorem vP (x : Str) (g : DS) : (SOut.exc x).turn g = .exc x := rfl
@[simp] theorem vQ (g : DS) : SOut.bad.turn g = .bad := rfl
theorem bW (k : DG) (fb : DS) (d : PyData) (ds : yb) (δ : DEnv) : forL k fb (d :: ds) δ = match k d δ with
  | none => .bad
  | some δ1 => (fb δ1).turn (forL k fb ds) := by
 rw [forL]
 cases k d δ with
 | none => rfl
 | some δ1 => simp only; cases fb δ1 <;> rfl
@[simp] theorem ya (i : Nat) (d : PyData) (δ : DEnv) : kN i d δ = if i < δ.length then some (δ.set i (some (.sh d))) else none := rfl
noncomputable def seqI (p : PyData × DEnv) : Out (yb × DEnv) := match p.1 with
 | .list xs => .ok (xs, p.2)
 | .tuple xs => .ok (xs, p.2)
 | _ => .bad
@[simp] theorem uq (xs : yb) (δ : DEnv) : seqI (.list xs, δ) = .ok (xs, δ) := rfl
@[simp] theorem sM (xs : yb) (δ : DEnv) : seqI (.tuple xs, δ) = .ok (xs, δ) := rfl
@[simp] theorem vR (f : DE) (δ : DEnv) : zu f δ = (vE f δ).bind seqI := rfl
noncomputable def r1I (p : yb × DEnv × DEnv) : Out (yb × DEnv) := match p.1 with
 | [.int j] => if rngB j = true then .ok (rngI 0 j.toNat, p.2.1) else .bad
 | _ => .bad
@[simp] theorem xS (j : Int) (δ1 δ2 : DEnv) : r1I ([.int j], δ1, δ2) = if rngB j = true then .ok (rngI 0 j.toNat, δ1) else .bad := rfl
@[simp] theorem xn (ops : List Opd) (δ : DEnv) : itR1 ops δ = (opds ops δ).bind r1I := rfl
noncomputable def seqC (p : yb × DEnv × DEnv) : Out (yb × DEnv × DEnv) := match p.1 with
 | [.list xs] => .ok (xs, p.2.1, p.2.2)
 | [.tuple xs] => .ok (xs, p.2.1, p.2.2)
 | _ => .bad
@[simp] theorem ur (xs : yb) (δ1 δ2 : DEnv) : seqC ([.list xs], δ1, δ2) = .ok (xs, δ1, δ2) := rfl
@[simp] theorem sN (xs : yb) (δ1 δ2 : DEnv) : seqC ([.tuple xs], δ1, δ2) = .ok (xs, δ1, δ2) := rfl
@[simp] theorem vS (o : Opd) (δ : DEnv) : zi o δ = (opds [o] δ).bind seqC := rfl
noncomputable def r1C (p : yb × DEnv × DEnv) : Out (yb × DEnv × DEnv) := match p.1 with
 | [.int j] => if rngB j = true then .ok (rngI 0 j.toNat, p.2.1, p.2.2) else .bad
 | _ => .bad
@[simp] theorem xT (j : Int) (δ1 δ2 : DEnv) : r1C ([.int j], δ1, δ2) = if rngB j = true then .ok (rngI 0 j.toNat, δ1, δ2) else .bad := rfl
@[simp] theorem xp (o : Opd) (δ : DEnv) : icR1 o δ = (opds [o] δ).bind r1C := rfl
@[simp] theorem xq (δ : DEnv) (i : Nat) : isOl δ i = match δ[i]? with
 | some (some (.ol ds)) => some ds
 | _ => none := rfl
@[simp] theorem xr (δ : DEnv) (i : Nat) : isOd δ i = match δ[i]? with
 | some (some (.od ds)) => some ds
 | _ => none := rfl
@[simp] theorem xt (up : yb -> yb -> Option yb) (i : Nat) (o : Opd) (δ : DEnv) : sMut up i o δ = match isOl δ i with
 | none => .bad
 | some _ => (opds [o] δ).elimS fun p => match isOl p.2.2 i with
   | none => .bad
   | some ds => match up ds p.1 with
    | some ds' => .nx (p.2.2.set i (some (.ol ds')))
    | none => .bad := by unfold sMut; cases isOl δ i <;> first | rfl | (simp only; cases opds [o] δ <;> rfl)
@[simp] theorem vT (ds : yb) (d : PyData) : zS ds [d] = if ds.length < sizeLine then some (ds ++ [d]) else none := rfl
noncomputable def putP (i : Nat) (p : yb × DEnv × DEnv) : SOut := match isOd p.2.2 i, p.1 with
   | some es, [d, k] => (match yx k with
    | some k => if es.length < sizeLine then .nx (p.2.2.set i (some (.od (putD es k d)))) else .bad
    | none => .bad)
   | _, _ => .bad
@[simp] theorem vU (i : Nat) (d : PyData) (k : Int) (δ1 δ2 : DEnv) : putP i ([d, .int k], δ1, δ2) = match isOd δ2 i with
  | some es => if es.length < sizeLine then .nx (δ2.set i (some (.od (putD es (.inl k) d)))) else .bad
  | none => .bad := by
 unfold putP
 cases isOd δ2 i <;> rfl
@[simp] theorem xu (i : Nat) (ov ok : Opd) (δ : DEnv) : sPut i ov ok δ = match isOd δ i with
 | none => .bad
 | some _ => (opds [ov, ok] δ).elimS (putP i) := by unfold sPut; cases isOd δ i <;> first | rfl | (simp only; cases opds [ov, ok] δ <;> rfl)
@[simp] theorem uu (x : Str) (ck : DEnv -> Bool) (δ : DEnv) : z9 x ck δ = if ck δ = true then .exc x else .bad := rfl
@[simp] theorem vV (δ : DEnv) : zE δ = true := rfl
@[simp] theorem vW (i : Nat) (δ : DEnv) : A5 i δ = match δ[i]? with
 | some (some (.sh (.int k))) => decide (k.natAbs.log2 < 1920)
 | _ => false := rfl
@[simp] theorem xv (i : Nat) (cat : Str -> Bool) (δ : DEnv) : eIsX i cat δ = match δ[i]? with
 | some (some (.ex y)) => if cat y = true then .ok (.sh (.bool true), δ) else .bad
 | _ => .bad := rfl
noncomputable def SOut.fin (x : SOut) : Out SD := match x with
 | .nx _ => .ok (.sh .none)
 | .rt r => .ok r
 | .exc x => .exc x
 | _ => .bad
@[simp] theorem xU (δ : DEnv) : (SOut.nx δ).fin = .ok (.sh .none) := rfl
@[simp] theorem xV (r : SD) : (SOut.rt r).fin = .ok r := rfl
@[simp] theorem xw (x : Str) : (SOut.exc x).fin = .exc x := rfl
@[simp] theorem xx (n m : Nat) (f : DS) (ds : yb) : runB n m f ds = if ds.length = m then (f (start0 n m ds)).fin else .bad := rfl
@[simp] theorem uw (n m : Nat) (ds : yb) : start0 n m ds = ds.map (fun d => some (.sh d)) ++ List.replicate (n - m) none := rfl
@[simp] theorem vX (F : List Nat) (fc : DC) (tc : DT) (te : DE) (δ : DEnv) : z6 F fc tc te δ = (fc δ).bind fun p => if p.1.length <= sizeLine then (match yN (rhoD F (yk F p.2.2)) tc te p.1 with
 | some ys => .ok (.ol ys, if yh ys = true then p.2.1 else yk F p.2.2)
 | none => .bad) else .bad := rfl
@[simp] theorem xy (F : List Nat) (δ : DEnv) : rhoD F δ = none :: F.map fun j => (δ[j]?).join := rfl
theorem fH {ρ : DEnv} {tc : DT} {te : DE} {b : PyData -> Bool} {y : PyData -> PyData} : ∀ {ds : yb}, (∀ d ∈ ds, ∃ ρ', tc (ρ.set 0 (some (.sh d))) = .ok (b d, ρ') /\ (b d = true -> ∃ ρ'', vE te ρ' = .ok (y d, ρ''))) -> yN ρ tc te ds = some ((ds.filter b).map y)
 | [], _ => rfl
 | d :: ds, h => by
  obtain ⟨ρ', h1, h2⟩ := h d (List.mem_cons_self ..)
  have ih := fH (ds := ds) fun d' hd => h d' (List.mem_cons_of_mem _ hd)
  rw [yN, h1]
  dsimp only
  cases hb : b d with
  | true =>
   obtain ⟨ρ'', h3⟩ := h2 hb
   rw [if_pos rfl, h3, ih, List.filter_cons, if_pos hb]
   rfl
  | false => rw [if_neg Bool.false_ne_true, ih, List.filter_cons, if_neg (by rw [hb]; exact Bool.false_ne_true)]
theorem cB {ρ : DEnv} {te : DE} {y : PyData -> PyData} {ds : yb} (h : ∀ d ∈ ds, ∃ ρ'', vE te (ρ.set 0 (some (.sh d))) = .ok (y d, ρ'')) : yN ρ yB te ds = some (ds.map y) := by
 have := fH (ρ := ρ) (tc := yB) (te := te) (b := fun _ => true) (y := y) (ds := ds) fun d hd => ⟨_, rfl, fun _ => h d hd⟩
 rw [this]
 congr 2
 exact List.filter_eq_self.mpr fun _ _ => rfl
noncomputable def yI (n : Nat) (d : PyData) : Prop := d.canLay0 = true /\ d.depth <= n
theorem nB (n : Nat) (i : Int) : yI n (.int i) := ⟨by simp [PyData.canLay0], by simp [PyData.depth]⟩
theorem me (n : Nat) : yI n .none := ⟨by simp [PyData.canLay0], by simp [PyData.depth]⟩
theorem gH {n : Nat} : ∀ {xs : yb}, (∀ x ∈ xs, yI n x) -> PyData.canLayAll0 xs = true /\ PyData.depthAll xs <= n
 | [], _ => ⟨by simp [PyData.canLayAll0], by simp [PyData.depthAll]⟩
 | x :: r, h => by
  obtain ⟨h1, h2⟩ := gH (n := n) (xs := r) fun y hy => h y (List.mem_cons_of_mem _ hy)
  obtain ⟨g1, g2⟩ := h x (List.mem_cons_self ..)
  exact ⟨by simp [PyData.canLayAll0, g1, h1], by simp only [PyData.depthAll]; lia⟩
theorem cX {n : Nat} {xs : yb} (h : ∀ x ∈ xs, yI n x) : yI (n + 1) (.list xs) := by
 obtain ⟨h1, h2⟩ := gH h
 exact ⟨by simpa [PyData.canLay0] using h1, by simp only [PyData.depth]; lia⟩
theorem gI {n : Nat} {xs : yb} (h : ∀ x ∈ xs, yI n x) : yI (n + 1) (.tuple xs) := by
 obtain ⟨h1, h2⟩ := gH h
 exact ⟨by simpa [PyData.canLay0] using h1, by simp only [PyData.depth]; lia⟩
theorem jr {n : Nat} {xs : yb} (h : yI n (.tuple xs)) : ∀ x ∈ xs, yI n x := by
 obtain ⟨h1, h2⟩ := h
 have h1' : PyData.canLayAll0 xs = true := by simpa [PyData.canLay0] using h1
 simp only [PyData.depth] at h2
 intro x hx
 have : ∀ {ys : yb}, PyData.canLayAll0 ys = true -> x ∈ ys -> x.canLay0 = true /\ x.depth <= PyData.depthAll ys := fun {ys} c m => by
  induction ys with
  | nil => cases m
  | cons y r ih =>
   simp only [PyData.canLayAll0, Bool.and_eq_true] at c
   simp only [PyData.depthAll]
   rcases List.mem_cons.mp m with z | z
   ·subst z; exact ⟨c.1, by lia⟩
   ·obtain ⟨a, b⟩ := ih c.2 z; exact ⟨a, by lia⟩
 obtain ⟨a, b⟩ := this h1' hx
 exact ⟨a, by lia⟩
theorem yI.shaped {n : Nat} {d : PyData} (h : yI n d) (hn : n <= 64) : SeqAt.shaped d = true := by
 unfold SeqAt.shaped
 rw [h.1, Bool.true_and]
 exact decide_eq_true (Nat.le_trans h.2 hn)
theorem yI.nd {n : Nat} {d : PyData} (h : yI n d) : ∀ es, d ≠ .dict es := fun es e => by
 subst e
 have := h.1
 simp [PyData.canLay0] at this
theorem ip (n : Nat) (ns : List Int) : ∀ x ∈ ns.map PyData.int, yI n x := fun x hx => by
 obtain ⟨i, _, rfl⟩ := List.mem_map.mp hx
 exact nB n i
mutual
theorem js : ∀ d : PyData, d.canLay0 = true -> PyData.eqv d d = true
 | .none, _ => by simp [PyData.eqv]
 | .bool b, _ => by simp [PyData.eqv]
 | .int i, _ => by simp [PyData.eqv]
 | .str x, _ => by simp [PyData.eqv]
 | .list xs, h => by simp only [PyData.eqv]; exact dD xs (by simpa [PyData.canLay0] using h)
 | .tuple xs, h => by simp only [PyData.eqv]; exact dD xs (by simpa [PyData.canLay0] using h)
 | .dict _, h => by simp [PyData.canLay0] at h
theorem dD : ∀ ds : yb, PyData.canLayAll0 ds = true -> PyData.eqvAll ds ds = true
 | [], _ => by simp [PyData.eqvAll]
 | d :: r, h => by
  have h' := Bool.and_eq_true_iff.mp (by simpa [PyData.canLayAll0] using h)
  simp only [PyData.eqvAll, Bool.and_eq_true]
  exact ⟨js d h'.1, dD r h'.2⟩
end
theorem iP (xs : yb) : PyData.eqv (.list xs) (.list []) = xs.isEmpty := by
 simp only [PyData.eqv]
 cases xs <;> simp [PyData.eqvAll]
theorem b9 {n : Nat} (h : n <= 1000) : n <= sizeLine := Nat.le_trans h (by decide)
theorem kU {n : Nat} (h : n <= 1000) : n < sizeLine := Nat.lt_of_le_of_lt h (by decide)
theorem sO {α : Type} {xs : List α} {i : Int} (h0 : 0 <= i) (h1 : i < xs.length) : atI xs i = some (xs[i.toNat]'(by lia)) := by
 unfold atI ixN
 rw [if_pos h0, if_pos h1]
 exact List.getElem?_eq_getElem (by lia)
theorem kW {i : Int} (h0 : -1000000 <= i) (h1 : i <= 1000000) : rngB i = true := by
 unfold rngB
 exact decide_eq_true ⟨by lia, by lia⟩
def isWh : PyData -> Bool
 | .int _ => true
 | _ => false
theorem vY {d : PyData} (h : ∀ es, d ≠ .dict es) : (isiD "int" d && !isiD "bool" d) = isWh d := by
 cases d <;> first | rfl | exact absurd rfl (h _)
theorem g9 {d : PyData} (T : String) (h : ∀ es, d ≠ .dict es) : dIsi T [d] = some (.sh (.bool (isiD T d))) := by
 cases d <;> first | rfl | exact absurd rfl (h _)
def absI (p : Int) : Int := if p < 0 then -p else p
noncomputable def yU (many : Int) : Int -> yb -> Option Int
 | last, [] => some last
 | last, .int p :: r => if absI p <= last \/ many < absI p then none else yU many (absI p) r
 | _, _ :: _ => none
noncomputable def yT (many : Int) : PyData -> Bool
 | .tuple ds => (yU many 0 ds).isSome
 | _ => false
noncomputable def A8 (ns : List Int) (k : Int) : Int := if k < ns.length then ns.getD k.toNat 0 else if ns = [] then 0 else ns.getD (k % ns.length).toNat 0 * 31 + k
noncomputable def zd (ns : List Int) (k : Int) : Int := (A8 ns k + 7919 * k + 1) * 48271 % 2147483647
noncomputable def mixZ (ns : List Int) (k m : Int) : Int := (zd ns k * zd ns k + 7 * zd ns k + k) % 2147483629 % m
theorem mf (ns : List Int) (k : Int) : 0 <= zd ns k := Int.emod_nonneg _ (by decide)
theorem mh (ns : List Int) (k : Int) : zd ns k < 2147483647 := Int.emod_lt_of_pos _ (by decide)
theorem cy (ns : List Int) (k : Int) {m : Int} (h : 0 < m) : 0 <= mixZ ns k m := Int.emod_nonneg _ (by lia)
theorem cJ (ns : List Int) (k : Int) {m : Int} (h : 0 < m) : mixZ ns k m < m := Int.emod_lt_of_pos _ h
theorem iQ {i j : Int} (h0 : -1000000000000 <= j) (h1 : j <= 1000000000000) : cMul i j = true := by
 unfold cMul
 exact decide_eq_true (.inr ⟨by lia, by lia⟩)
theorem gJ {i j : Int} (h0 : -1000000000000 <= i) (h1 : i <= 1000000000000) : cMul i j = true := by
 unfold cMul
 exact decide_eq_true (.inl ⟨by lia, by lia⟩)
abbrev scr (ns : List Int) : PyData := .list (ns.map PyData.int)
theorem gK {ns : List Int} {i : Int} (h0 : 0 <= i) (h1 : i < ns.length) : atI (ns.map PyData.int) i = some (.int (ns.getD i.toNat 0)) := by
 rw [sO h0 (by simpa using h1)]
 simp only [List.getElem_map]
 rw [List.getD_eq_getElem?_getD, List.getElem?_eq_getElem (by lia)]
 rfl
theorem jt {k : DG} {fb : DS} (inv : Nat -> DEnv -> Prop) : ∀ (ds : yb) (j : Nat) (δ : DEnv), inv j δ -> (∀ i d δ, ds[i]? = some d -> inv (j + i) δ -> ∃ δ1, k d δ = some δ1 /\ ∃ δ2, fb δ1 = .nx δ2 /\ inv (j + i + 1) δ2) -> ∃ δ', forL k fb ds δ = .nx δ' /\ inv (j + ds.length) δ'
 | [], j, δ, h0, _ => ⟨δ, rfl, h0⟩
 | d :: r, j, δ, h0, hs => by
  obtain ⟨δ1, e1, δ2, e2, h2⟩ := hs 0 d δ rfl h0
  obtain ⟨δ', e3, h3⟩ := jt inv r (j + 1) δ2 h2 fun i d' δ3 e h => by
   have := hs (i + 1) d' δ3 (by simpa using e) (by rw [show j + (i + 1) = j + 1 + i by lia]; exact h)
   rwa [show j + (i + 1) + 1 = j + 1 + i + 1 by lia] at this
  refine ⟨δ', ?_, by rw [List.length_cons, show j + (r.length + 1) = j + 1 + r.length by lia]; exact h3⟩
  rw [bW, e1]
  simp only [e2, pz]
  exact e3
theorem ke {k : DG} {fb : DS} {lo : Int} {n : Nat} {δ : DEnv} (inv : Nat -> DEnv -> Prop) (h0 : inv 0 δ) (hs : ∀ i δ, i < n -> inv i δ -> ∃ δ1, k (.int (lo + i)) δ = some δ1 /\ ∃ δ2, fb δ1 = .nx δ2 /\ inv (i + 1) δ2) : ∃ δ', forL k fb (rngI lo n) δ = .nx δ' /\ inv n δ' := by
 obtain ⟨δ', e, h⟩ := jt (k := k) (fb := fb) inv (rngI lo n) 0 δ h0 fun i d δ e h => by
  have hi : i < n := by have := (List.getElem?_eq_some_iff.mp e).1; rwa [dv] at this
  unfold rngI at e
  rw [List.getElem?_map, List.getElem?_range hi] at e
  cases e
  rw [Nat.zero_add] at h ⊢
  exact hs i δ hi h
 exact ⟨δ', e, by rw [dv, Nat.zero_add] at h; exact h⟩
noncomputable def encP (ps : List (Int × Int)) : List (PyData × PyData) := ps.map fun p => (.int p.1, .int p.2)
noncomputable def putZ (ps : List (Int × Int)) (t v : Int) : List (Int × Int) := if (ps.any fun p => decide (p.1 = t)) = true then ps.map (fun p => if p.1 = t then (p.1, v) else p) else ps ++ [(t, v)]
noncomputable def valZ (ps : List (Int × Int)) (t : Int) : Option Int := (ps.find? fun p => decide (p.1 = t)).map (·.2)
def zj (ps : List (Int × Int)) : List Int := ps.map (·.1)
@[simp] theorem ux (ps : List (Int × Int)) : (encP ps).map (·.1) = (zj ps).map PyData.int := by
 unfold encP zj; rw [List.map_map, List.map_map]; rfl
@[simp] theorem vZ (ps : List (Int × Int)) : (encP ps).length = ps.length := by unfold encP; rw [List.length_map]
@[simp] theorem uy (ps : List (Int × Int)) : (zj ps).length = ps.length := by unfold zj; rw [List.length_map]
@[simp] theorem w6 : encP [] = [] := rfl
theorem ju (t : Int) : ∀ ps : List (Int × Int), ((encP ps).any fun p => decide (yx p.1 = some (.inl t))) = ps.any fun p => decide (p.1 = t)
 | [] => rfl
 | p :: r => by
  have ih := ju t r
  unfold encP at ih ⊢
  rw [List.map_cons, List.any_cons, List.any_cons, ih]
  congr 1
  simp [yx]
theorem nC (ps : List (Int × Int)) (t v : Int) : putD (encP ps) (.inl t) (.int v) = encP (putZ ps t v) := by
 unfold putD putZ
 rw [ju]
 split
 ·unfold encP
  rw [List.map_map, List.map_map]
  apply List.map_congr_left
  intro p _
  simp only [Function.comp]
  by_cases h : p.1 = t
  ·simp [yx, h]
  ·simp [yx, h]
 ·simp [encP, keyD]
theorem iq (t : Int) : ∀ ps : List (Int × Int), zh (encP ps) (.inl t) = (valZ ps t).map PyData.int
 | [] => rfl
 | p :: r => by
  have ih := iq t r
  unfold zh valZ encP at ih ⊢
  rw [List.map_cons, List.find?_cons, List.find?_cons]
  by_cases h : p.1 = t
  ·simp [yx, h]
  ·simp only [yx, h, Option.some.injEq, Sum.inl.injEq, decide_false]
   exact ih
theorem mi (ps : List (Int × Int)) (t v : Int) : ((putZ ps t v).map (·.1)) = if t ∈ ps.map (·.1) then ps.map (·.1) else ps.map (·.1) ++ [t] := by
 have e : (ps.any fun p => decide (p.1 = t)) = true ↔ t ∈ ps.map (·.1) := by
  rw [List.any_eq_true, List.mem_map]
  constructor
  ·rintro ⟨p, h1, h2⟩; exact ⟨p, h1, of_decide_eq_true h2⟩
  ·rintro ⟨p, h1, h2⟩; exact ⟨p, h1, decide_eq_true h2⟩
 unfold putZ
 by_cases h : t ∈ ps.map (·.1)
 ·rw [if_pos (e.mpr h), if_pos h, List.map_map]
  apply List.map_congr_left
  intro p _
  simp only [Function.comp]
  split <;> rfl
 ·rw [if_neg (fun z => h (e.mp z)), if_neg h]
  simp
theorem mj {ps : List (Int × Int)} {t v : Int} {Q : Int -> Prop} (h : ∀ p ∈ ps, Q p.2) (hv : Q v) : ∀ p ∈ putZ ps t v, Q p.2 := by
 unfold putZ
 split
 ·intro p hp
  obtain ⟨q, hq, rfl⟩ := List.mem_map.mp hp
  split
  ·exact hv
  ·exact h q hq
 ·intro p hp
  rcases List.mem_append.mp hp with z | z
  ·exact h p z
  ·simp at z; rw [z]; exact hv
theorem kX {ps : List (Int × Int)} {t : Int} (h : t ∈ ps.map (·.1)) : ∃ v, valZ ps t = some v /\ ∃ p ∈ ps, p.2 = v := by
 obtain ⟨p, hp, rfl⟩ := List.mem_map.mp h
 unfold valZ
 cases e : ps.find? fun q => decide (q.1 = p.1) with
 | none =>
  have := List.find?_eq_none.mp e p hp
  simp at this
 | some q => exact ⟨q.2, rfl, q, List.mem_of_find?_eq_some e, rfl⟩
structure A9 (many : Int) (s : List Int) : Prop where
 rise : (s.map absI).Pairwise (· < ·)
 low : ∀ p ∈ s, 1 <= absI p /\ absI p <= many
noncomputable def encS (s : List Int) : PyData := .tuple (s.map PyData.int)
def yt (ss : List (List Int)) : yb := ss.map encS
@[simp] theorem eg (s : List Int) : yy (encS s) = true := by unfold encS; rw [jo]; exact dC s
@[simp] theorem bR (ss : List (List Int)) : yh (yt ss) = true := by
 unfold yt
 induction ss with
 | nil => exact kc
 | cons s r ih => rw [List.map_cons, cn, eg, ih]; rfl
@[simp] theorem ir (ss : List (List Int)) : (yt ss).length = ss.length := by unfold yt; rw [List.length_map]
theorem gL {many : Int} : ∀ (s : List Int) (last : Int), (yU many last (s.map PyData.int)).isSome = true ↔ (s.map absI).Pairwise (· < ·) /\ ∀ p ∈ s, last < absI p /\ absI p <= many
 | [], last => by simp [yU]
 | p :: r, last => by
  simp only [List.map_cons, yU]
  split
  next h =>
   constructor
   ·intro z; simp at z
   ·rintro ⟨_, z⟩
    have := z p (List.mem_cons_self ..)
    lia
  next h =>
   rw [gL r (absI p)]
   simp only [List.pairwise_cons, List.mem_map, forall_exists_index, and_imp, forall_apply_eq_imp_iff₂, List.mem_cons, forall_eq_or_imp]
   constructor
   ·rintro ⟨h1, h2⟩
    exact ⟨⟨fun q hq => (h2 q hq).1, h1⟩, by lia, fun q hq => ⟨by have := (h2 q hq).1; lia, (h2 q hq).2⟩⟩
   ·rintro ⟨⟨h1, h2⟩, h3, h4⟩
    exact ⟨h2, fun q hq => ⟨h1 q hq, (h4 q hq).2⟩⟩
theorem ml {many : Int} {s : List Int} : yT many (encS s) = true ↔ A9 many s := by
 show (yU many 0 (s.map PyData.int)).isSome = true ↔ _
 rw [gL]
 constructor
 ·rintro ⟨h1, h2⟩; exact ⟨h1, fun p hp => ⟨by have := (h2 p hp).1; lia, (h2 p hp).2⟩⟩
 ·rintro ⟨h1, h2⟩; exact ⟨h1, fun p hp => ⟨by have := (h2 p hp).1; lia, (h2 p hp).2⟩⟩
noncomputable def yv (ns : List Int) (at_ many : Int) : Nat -> List (Int × Int)
 | 0 => []
 | n + 1 => putZ (yv ns at_ many n) (1 + mixZ ns (at_ + 1 + n) many) (1 - 2 * (mixZ ns (at_ + 1 + n) (2 * many) / many))
noncomputable def yJ (ns : List Int) (at_ : Int) : Int := [1, 2, 2, 3, 3, 3, 0].getD (mixZ ns at_ 7).toNat 0
noncomputable def sayZ (ns : List Int) (at_ many : Int) : List Int := (yS (zj (yv ns at_ many (yJ ns at_).toNat))).map fun t => t * (valZ (yv ns at_ many (yJ ns at_).toNat) t).getD 0
theorem jv (ns : List Int) (at_ : Int) : 0 <= yJ ns at_ /\ yJ ns at_ <= 3 := by
 have h1 := cy ns at_ (m := 7) (by decide)
 have h2 := cJ ns at_ (m := 7) (by decide)
 unfold yJ
 generalize mixZ ns at_ 7 = x at h1 h2
 have : x = 0 \/ x = 1 \/ x = 2 \/ x = 3 \/ x = 4 \/ x = 5 \/ x = 6 := by lia
 rcases this with h | h | h | h | h | h | h <;> subst h <;> decide
theorem dM {ns : List Int} {at_ many : Int} (hm : 0 < many) : ∀ n, (((yv ns at_ many n).map (·.1)).Nodup /\ (∀ t ∈ (yv ns at_ many n).map (·.1), 1 <= t /\ t <= many) /\ (∀ p ∈ yv ns at_ many n, p.2 = 1 \/ p.2 = -1) /\ (yv ns at_ many n).length <= n)
 | 0 => by simp [yv]
 | n + 1 => by
  obtain ⟨h1, h2, h3, h4⟩ := dM hm n
  have a1 := cy ns (at_ + 1 + n) hm
  have a2 := cJ ns (at_ + 1 + n) hm
  have b1 := cy ns (at_ + 1 + n) (m := 2 * many) (by lia)
  have b2 := cJ ns (at_ + 1 + n) (m := 2 * many) (by lia)
  have hv : (1 - 2 * (mixZ ns (at_ + 1 + n) (2 * many) / many)) = 1 \/ (1 - 2 * (mixZ ns (at_ + 1 + n) (2 * many) / many)) = -1 := by
   have c1 : 0 <= mixZ ns (at_ + 1 + n) (2 * many) / many := Int.ediv_nonneg b1 (by lia)
   have c2 : mixZ ns (at_ + 1 + n) (2 * many) / many < 2 := Int.ediv_lt_of_lt_mul hm (by lia)
   lia
  have hk := mi (yv ns at_ many n) (1 + mixZ ns (at_ + 1 + n) many) (1 - 2 * (mixZ ns (at_ + 1 + n) (2 * many) / many))
  have hl : ∀ (ps : List (Int × Int)) t v, (putZ ps t v).length <= ps.length + 1 := fun ps t v => by
   unfold putZ; split <;> simp
  refine ⟨?_, ?_, mj (Q := fun z => z = 1 \/ z = -1) h3 hv, ?_⟩
  ·rw [yv, hk]
   split
   ·exact h1
   next hn => exact kK h1 hn
  ·rw [yv, hk]
   split
   ·exact h2
   ·intro t ht
    rcases List.mem_append.mp ht with z | z
    ·exact h2 t z
    ·simp at z; lia
  ·rw [yv]
   have := hl (yv ns at_ many n) (1 + mixZ ns (at_ + 1 + n) many) (1 - 2 * (mixZ ns (at_ + 1 + n) (2 * many) / many))
   lia
theorem kY {ns : List Int} {at_ many : Int} (hm : 0 < many) : A9 many (sayZ ns at_ many) /\ (sayZ ns at_ many).length <= 3 := by
 obtain ⟨h1, h2, h3, h4⟩ := dM (ns := ns) (at_ := at_) hm (yJ ns at_).toNat
 have hs := jv ns at_
 unfold sayZ zj
 generalize yv ns at_ many (yJ ns at_).toNat = ps at h1 h2 h3 h4
 have hp := cE (ps.map (·.1))
 have hr := e7 (ps.map (·.1))
 have hab : ∀ t ∈ yS (ps.map (·.1)), absI (t * (valZ ps t).getD 0) = t /\ 1 <= t /\ t <= many := fun t ht => by
  have ht' := hp.mem_iff.mp ht
  obtain ⟨v, e, p, hpp, rfl⟩ := kX ht'
  have := h2 t ht'
  rw [e]
  simp only [Option.getD_some]
  refine ⟨?_, this⟩
  rcases h3 p hpp with z | z <;> rw [z] <;> unfold absI <;> split <;> lia
 refine ⟨⟨?_, fun q hq => ?_⟩, ?_⟩
 ·rw [List.map_map]
  have e : (yS (ps.map (·.1))).map (absI ∘ fun t => t * (valZ ps t).getD 0) = yS (ps.map (·.1)) := by
   conv => rhs; rw [<- List.map_id (yS (ps.map (·.1)))]
   exact List.map_congr_left fun t ht => (hab t ht).1
  rw [e]
  have hn : (yS (ps.map (·.1))).Nodup := hp.nodup_iff.mpr h1
  exact (hr.and hn).imp fun ⟨a, b⟩ => by lia
 ·obtain ⟨t, ht, rfl⟩ := List.mem_map.mp hq
  obtain ⟨e, a⟩ := hab t ht
  rw [e]; exact a
 ·rw [List.length_map, hp.length_eq, List.length_map]; lia
noncomputable def zv (ns : List Int) (at_ many most : Int) : List (List Int) := (List.range (mixZ ns at_ (most + 1)).toNat).map fun (k : Nat) => sayZ ns (at_ + 1 + 4 * (k : Int)) many
theorem nD {ns : List Int} {at_ many most : Int} (hm : 0 < many) : ∀ s ∈ zv ns at_ many most, A9 many s := fun s hs => by
 obtain ⟨k, _, rfl⟩ := List.mem_map.mp hs
 exact (kY hm).1
theorem mn {ns : List Int} {at_ many most : Int} (h : 0 <= most) : (zv ns at_ many most).length <= most.toNat := by
 have := cJ ns at_ (m := most + 1) (by lia)
 have := cy ns at_ (m := most + 1) (by lia)
 unfold zv
 rw [List.length_map, List.length_range]
 lia
end L2
namespace L2
open PySem PySem.W PyProof.Rows
section
variable {lt : Nat -> Nat -> Bool} {n : Nat} (tr : ∀ i j k, lt j i = false -> lt k j = false -> lt k i = false) (as : ∀ i j, lt i j = true -> lt j i = false)
structure Tab (n : Nat) (p : Array Nat) : Prop where
 size : p.size = n
 perm : p.Perm (List.range n).toArray
include tr
include as
end
open PySem.Spec
open HT (Ac)
section
open PySem.SeqAt
open PySem.AutoSeq1 (wpAny_loadPart')
open PySem.MeetsSeq PySem.MeetsSeq2 PySem.MeetsSeq3
end
section
variable {prog : Program} {w : World} {A : Around} {E : ye} {s : Shared}
end
end L2
namespace Sy
def absI (p : Int) : Int := if p < 0 then -p else p
structure A9 (many : Int) (s : List Int) : Prop where
 rise : (s.map absI).Pairwise (· < ·)
 low : ∀ p ∈ s, 1 <= absI p /\ absI p <= many
structure AU (n : Nat) (c : List Int) : Prop where
 len : c.length = n
 bit : ∀ x ∈ c, x = 0 \/ x = 1
end Sy
namespace L2
open PySem PySem.Spec PyProof.Rows
variable [Tabs]
noncomputable def yQ : yb -> Option (List Bool)
 | [] => some []
 | .bool i :: r => (yQ r).map (i :: ·)
 | _ :: _ => none
theorem iu {K : W.Frag} {G : Hp} : ∀ {vs : List V} {ds : yb} {bs : List Bool}, Dts K G vs ds -> yQ ds = some bs -> vs = bs.map V.bl
 | _, _, _, .nil, e => by cases e; rfl
 | _, _, _, .cons (d := d) h r, e => by
  cases d with
  | bool i =>
   simp only [yQ, Option.map_eq_some_iff] at e
   obtain ⟨ns, e1, rfl⟩ := e
   cases h
   rw [iu r e1, List.map_cons]
  | _ => cases e
theorem fS : ∀ {bs : List Bool} {us : List Value}, Vals (bs.map V.bl) us -> LSm.BoolsAre us bs
 | [], _, r => by cases r; exact .nil
 | b :: bs, _, r => by
  rw [List.map_cons] at r
  cases r with
  | cons h t =>
   cases (show _ = Value.bool b from h)
   exact .cons b (fS t)
section
variable {X : Cx}
noncomputable def Ah (K : W.Frag) (f : List Bool -> Bool) : List V -> Hp -> VK -> Prop := fun xs H Q => ∃ a bs, xs = [.ref a] /\ SqL K H a (bs.map V.bl) /\ Q (.bl (f bs)) H
theorem mq (hc : X.calm = true) : yG X (.builtin "all") (Ah X.K fun bs => bs.all id) := by
 intro pins s σ H xs us Q I r h
 obtain ⟨l, bs, rfl, hq, q⟩ := h
 obtain ⟨u, rfl, r1⟩ := vals1 r
 cases r1
 obtain ⟨vs, rv, pl, hz⟩ := I.list hq
 have hb := fS rv
 have hl := pl.isList
 have hlt : l < s.heap.objs.size := by obtain ⟨_, e, _⟩ := id hl; exact Heap.lt_size e
 refine call_all_walk (wpAny_pyIter_list hl ?_)
 refine ⟨s.heap.objs.size, [s.heap.objs.size, l], [s.heap.objs.size], vs.toArray.size, _, _, fun i => (bs[i]?).getD true, rfl, Walks.list (A := X.A.in1) (I.ok.hd hc) _ l (Nat.ne_of_lt hlt) vs.toArray,
  ⟨⟨_, Heap.get?_push_size _ rfl, rfl, rfl⟩, hl.push _⟩, fun i v s' Q' E' hP hQ => ?_, fun h' tk hk => ?_⟩
 ·obtain ⟨b, e, rfl⟩ := hb.get i v (by simpa using hP)
  simp only [e, Option.getD_some] at hQ
  exact wpAny_truthy_bool hQ
 ·have e : ((List.range vs.toArray.size).all fun i => (bs[i]?).getD true) = bs.all id := by
   rw [List.size_toArray, hb.length]; exact LSm.range_all bs
  rw [e]
  exact ⟨.bl _, H, I.kept (t' := tk) (LSm.kept_iter hk), rfl, q⟩
end
noncomputable def dAll : yb -> Option SD
 | [.list xs] => (yQ xs).map fun bs => .sh (.bool (bs.all id))
 | _ => none
section
variable {K : W.Frag} {mg : yc}
theorem w8 : yo K mg dAll (Ah K fun bs => bs.all id) := by
 intro G H vs ds res Q hg hd ho k
 unfold dAll at ho
 split at ho
 next xs =>
  obtain ⟨bs, e, rfl⟩ := Option.map_eq_some_iff.mp ho
  obtain ⟨x, rfl, h1⟩ := dts1 hd
  cases h1 with
  | lst q r =>
   have e2 := iu r e
   subst e2
   exact ⟨_, bs, rfl, (hg.sqr q).sq, ans k hg (.bl _)⟩
 next => cases ho
end
section
variable {X : Cx}
noncomputable def rInD (K : W.Frag) (neg : Bool) : R2 := fun x y H Q => ∃ d xs, (Dt K H y (.list xs) \/ Dt K H y (.tuple xs)) /\ Dt K H x d /\ SeqAt.shaped d = true /\ SeqAt.shaped (.list xs) = true /\ Q (.bl (if neg then !(xs.any fun y => PyData.eqv y d) else xs.any fun y => PyData.eqv y d)) H
theorem sP (hu : X.A.units + 64 < cLine) : OpR X (compareOp .In) (rInD X.K false) := by
 intro pins s σ H x y v u Q I rx ry h
 obtain ⟨d, xs, hy, hx, sd, sl, q⟩ := h
 have cl := SeqAt.canLay_of_shaped sl
 have hdp := SeqAt.depth_of_shaped sl
 have hr : X.A.units + 1 + min (PyData.depthAll xs) d.depth < cLine := by
  have h2 : min (PyData.depthAll xs) d.depth <= PyData.depthAll xs := Nat.min_le_left _ _
  simp only [PyData.depth] at hdp
  lia
 obtain ⟨as, ra⟩ := hx.reads I (SeqAt.canLay_of_shaped sd) rx
 rcases hy with hy | hy
 ·obtain ⟨bs, rb⟩ := hy.reads I cl ry
  exact SeqAt.in_list_reads rb ra cl (SeqAt.canLay_of_shaped sd) hr ⟨.bl _, H, I, rfl, q⟩
 ·obtain ⟨bs, rb⟩ := hy.reads I cl ry
  exact SeqAt.in_tuple_reads rb ra cl (SeqAt.canLay_of_shaped sd) hr ⟨.bl _, H, I, rfl, q⟩
theorem mr (hu : X.A.units + 64 < cLine) : OpR X (compareOp .NotIn) (rInD X.K true) := by
 intro pins s σ H x y v u Q I rx ry h
 obtain ⟨d, xs, hy, hx, sd, sl, q⟩ := h
 have cl := SeqAt.canLay_of_shaped sl
 have hdp := SeqAt.depth_of_shaped sl
 have hr : X.A.units + 1 + min (PyData.depthAll xs) d.depth < cLine := by
  have h2 : min (PyData.depthAll xs) d.depth <= PyData.depthAll xs := Nat.min_le_left _ _
  simp only [PyData.depth] at hdp
  lia
 obtain ⟨as, ra⟩ := hx.reads I (SeqAt.canLay_of_shaped sd) rx
 rcases hy with hy | hy
 ·obtain ⟨bs, rb⟩ := hy.reads I cl ry
  exact SeqAt.notIn_list_reads rb ra cl (SeqAt.canLay_of_shaped sd) hr ⟨.bl _, H, I, rfl, q⟩
 ·obtain ⟨bs, rb⟩ := hy.reads I cl ry
  exact SeqAt.notIn_tuple_reads rb ra cl (SeqAt.canLay_of_shaped sd) hr ⟨.bl _, H, I, rfl, q⟩
end
noncomputable def inB (d : PyData) : PyData -> Option Bool
 | .list xs => if SeqAt.shaped d = true /\ SeqAt.shaped (.list xs) = true then some (xs.any fun y => PyData.eqv y d) else none
 | .tuple xs => if SeqAt.shaped d = true /\ SeqAt.shaped (.list xs) = true then some (xs.any fun y => PyData.eqv y d) else none
 | _ => none
noncomputable def dIn : yb -> Option SD
 | [x, y] => (inB x y).map fun b => .sh (.bool b)
 | _ => none
section
variable {K : W.Frag} {mg : yc}
theorem sQ {neg : Bool} {G H : Hp} {x y : V} {dx dy : PyData} {b : Bool} {Q : VK} (hg : Same G H) (h1 : Dt K G x dx) (h2 : Dt K G y dy) (e : inB dx dy = some b) (q : Q (.bl (if neg then !b else b)) H) : rInD K neg x y H Q := by
 have h1' := h1.mono hg
 have h2' := h2.mono hg
 unfold inB at e
 split at e
 next xs =>
  split at e
  next hs => cases e; exact ⟨dx, xs, .inl h2', h1', hs.1, hs.2, q⟩
  next => cases e
 next xs =>
  split at e
  next hs => cases e; exact ⟨dx, xs, .inr h2', h1', hs.1, hs.2, q⟩
  next => cases e
 next => cases e
end
section
variable {X : Cx}
noncomputable def flat4 : V -> Bool
 | .non => true | .bl _ => true | .int _ => true | .str _ => true | .ref _ => true | _ => false
noncomputable def rIs (neg : Bool) : R2 := fun x y H Q => flat4 x = true /\ (y = .non \/ ∃ c, y = .bl c) /\ Q (.bl (if neg then !decide (x = y) else decide (x = y))) H
theorem sR {x y : V} {v u : Value} (rx : RelV x v) (ry : RelV y u) (f : flat4 x = true) (hy : y = .non \/ ∃ c, y = .bl c) : plainIs v u = true /\ (v == u) = decide (x = y) := by
 rcases hy with rfl | ⟨c, rfl⟩
 ·cases ry
  cases x <;> first | (cases f; done) | skip
  ·cases rx; exact ⟨rfl, by simp⟩
  ·cases rx; exact ⟨rfl, by simp⟩
  ·obtain ⟨t, rfl⟩ := rx; exact ⟨rfl, by simp⟩
  ·obtain ⟨t, rfl⟩ := rx; exact ⟨rfl, by simp⟩
  ·cases rx; exact ⟨rfl, by simp⟩
 ·cases ry
  cases x <;> first | (cases f; done) | skip
  ·cases rx; exact ⟨rfl, by simp⟩
  ·cases rx; exact ⟨rfl, by simp [Bool.beq_eq_decide_eq]⟩
  ·obtain ⟨t, rfl⟩ := rx; exact ⟨rfl, by simp⟩
  ·obtain ⟨t, rfl⟩ := rx; exact ⟨rfl, by simp⟩
  ·cases rx; exact ⟨rfl, by simp⟩
theorem w9 : OpR X (compareOp .Is) (rIs false) := by
 intro pins s σ H x y v u Q I rx ry h
 obtain ⟨f, hy, q⟩ := h
 obtain ⟨h1, h2⟩ := sR rx ry f hy
 exact wpAny_is_plain h1 (by rw [h2]; exact ⟨.bl _, H, I, rfl, q⟩)
end
noncomputable def isB : PyData -> PyData -> Option Bool
 | .none, .none => some true
 | _, .none => some false
 | .bool b, .bool c => some (decide (b = c))
 | _, .bool _ => some false
 | _, _ => none
noncomputable def dIs : yb -> Option SD
 | [x, y] => (isB x y).map fun b => .sh (.bool b)
 | _ => none
section
variable {K : W.Frag} {mg : yc}
theorem sS {neg : Bool} {G H : Hp} {x y : V} {dx dy : PyData} {b : Bool} {Q : VK} (h1 : Dt K G x dx) (h2 : Dt K G y dy) (e : isB dx dy = some b) (q : Q (.bl (if neg then !b else b)) H) : rIs neg x y H Q := by
 unfold isB at e
 split at e
 next => cases e; cases h1; cases h2; exact ⟨rfl, .inl rfl, q⟩
 next hn =>
  cases e
  cases h2
  refine ⟨by cases h1 <;> rfl, .inl rfl, ?_⟩
  have : decide (x = V.non) = false := by
   cases h1 <;> first | rfl | exact (hn rfl).elim
  rw [this]; exact q
 next b c =>
  cases e; cases h1; cases h2
  refine ⟨rfl, .inr ⟨_, rfl⟩, ?_⟩
  rw [dB]; exact q
 next c hn =>
  cases e
  cases h2
  refine ⟨by cases h1 <;> rfl, .inr ⟨_, rfl⟩, ?_⟩
  have : decide (x = V.bl c) = false := by
   cases h1 <;> first | rfl | exact (hn _ rfl).elim
  rw [this]; exact q
 next => cases e
theorem xW : yo K mg dIs (l2 (rIs false)) := by
 intro G H vs ds res Q hg hd ho k
 unfold dIs at ho
 split at ho
 next x y =>
  obtain ⟨b, e, rfl⟩ := Option.map_eq_some_iff.mp ho
  obtain ⟨v, u, rfl, h1, h2⟩ := dts2 hd
  exact sS h1 h2 e (ans k hg (.bl _))
 next => cases ho
end
section
variable {X : Cx} {E : XK} {a b e : Expr} {oa ob : Opd} {pos p : Pos}
theorem nE (ha : SO X E a oa) (hb : SO X E b ob) : ST X E (.Compare a [.Is] [b] pos) (tstV (eOp dIs [oa, ob])) := e9 w9 xW ha hb (nomark _)
theorem sT (hm : X.mg "all" = none) (hb : bootBuiltins "all" = some (.builtin "all")) (ha : SO X E a oa) (hc : X.calm = true := by rfl) (hg : Gl X "all" := by rfl) (hst : starEach [a] X.env = [(false, eval a X.env)] := by rfl) : SE X E (.Call (.Name "all" p) [a] [] pos) (eOp dAll [oa]) :=
 eU (mq hc) w8 hm hb (aa ha aj hst) hg (by decide) (by decide) hst rfl
end
section
variable {X : Cx}
end
section
variable {X : Cx} {E : XK} {a b e : Expr} {oa ob : Opd} {pos p : Pos}
end
@[simp] theorem qF : yQ [] = some [] := rfl
@[simp] theorem pB (b : Bool) (r : yb) : yQ (.bool b :: r) = (yQ r).map (b :: ·) := rfl
theorem fg {α : Type} (f : α -> Bool) : ∀ l : List α, yQ (l.map fun x => PyData.bool (f x)) = some (l.map f)
 | [] => rfl
 | n :: r => by simp [fg f r]
@[simp] theorem xA (xs : yb) : dAll [.list xs] = (yQ xs).map fun bs => .sh (.bool (bs.all id)) := rfl
@[simp] theorem xX (x y : PyData) : dIn [x, y] = (inB x y).map fun b => .sh (.bool b) := rfl
@[simp] theorem wa (x : PyData) (xs : yb) : inB x (.list xs) = if SeqAt.shaped x = true /\ SeqAt.shaped (.list xs) = true then some (xs.any fun y => PyData.eqv y x) else none := rfl
@[simp] theorem uz (x : PyData) (xs : yb) : inB x (.tuple xs) = if SeqAt.shaped x = true /\ SeqAt.shaped (.list xs) = true then some (xs.any fun y => PyData.eqv y x) else none := rfl
@[simp] theorem xY (x y : PyData) : dIs [x, y] = (isB x y).map fun b => .sh (.bool b) := rfl
@[simp] theorem wb (b c : Bool) : isB (.bool b) (.bool c) = some (decide (b = c)) := rfl
@[simp] theorem wc : isB .none .none = some true := rfl
end L2
namespace L2
open PySem PySem.Spec PySem.W PyProof.Rows
open HT (Ac)
section
variable {prog : Program} {w : World} {A : Around} {E : ye} {s : Shared}
end
end L2
namespace L2
open PySem PySem.Spec PyProof.Rows
variable [Tabs]
section
variable {X : Cx}
end
section
variable {X : Cx} {E : XK} {a b e : Expr} {oa ob : Opd} {pos p : Pos}
end
section
variable {X : Cx}
end
section
variable {X : Cx} {E : XK} {a b e : Expr} {oa ob : Opd} {pos p : Pos}
end
section
variable {prog : Program} {w : World} {A : Around} {E : ye} {s : Shared}
end
section
variable {X : Cx}
end
section
variable {X : Cx} {E : XK} {a b e : Expr} {oa ob : Opd} {pos p : Pos}
end
open PySem.W
structure AO (X : Cx) (a : Str) (F : List Nat) (N : List Str) (scope : Scope) : Prop where
 kind : scope.kind = .function
 co : scope.isCoroutine = false
 gen : scope.isGenerator = false
 nocell : ∀ y ∈ scope.names, y.2 ≠ .cell
 arg : scope.names.lookup a = some .local
 free : ∀ y ∈ scope.names, y.2 = .free -> X.env.kindOf y.1 = some .cell \/ X.env.kindOf y.1 = some .free
 n0 : N[0]? = some a
 names : ∀ (i : Nat) x, N[i + 1]? = some x -> ∃ j, F[i]? = some j /\ X.N[j]? = some x /\ Vis X.env.scope x /\ scope.names.lookup x = some .free
 len : N.length = 1 + F.length
section
variable {X : Cx} {pins : yd} {σ : St} {H : Hp} {s : Shared} {N : List Str} {F : List Nat} {scope : Scope} {cl : List (Str × Addr)} {A : Around} {a qual : Str} {f c' : Addr} {v : V} {u : Value}
end
section
variable {X : Cx} {pins : yd} {σ : St} {N : List Str} {F : List Nat} {scope : Scope} {cl : List (Str × Addr)} {a : Str} {f c' l : Addr} {params : Arguments} {body : Expr} {pm ctv : Value} {of : Obj} {te : TE} {vs : List V} {Q : VK} {W : Nat -> Option (V × Int) -> Hp -> Prop}
end
structure LamK (K : W.Frag) (cdv : Value) (c P : Addr) : Prop where
 cd : cdv = .ref c
 hd : codeHdIn K c P = true
 mem : P ∈ Tabs.ts
section
variable {X : Cx} {E : XK} {N : List Str} {F : List Nat} {scope : Scope} {a : Str} {params : Arguments} {body e : Expr} {te : DE} {o : Opd} {c P : Addr} {p pos lp cp k1 k2 : Pos} {j k : Nat}
end
end L2
namespace L2
open PySem PySem.Spec PyProof.Rows
variable [Tabs]
section
variable {X : Cx} {N0 : List Str} {sc0 scope : Scope} {x y : Str}
variable {elt iter : Expr} {fc : DC} {tc : DT} {te : DE} {pos px py pt spos : Pos} {ifs : List Expr} {E : XK} {F : List Nat} {kt : Nat}
end
section
variable {X : Cx} {E : XK} {l : Expr} {o : Opd} {p pos : Pos} {ts : List Expr} {tk : Nat} {tp : Pos}
end
open PySem.W
end L2
namespace L2
open PySem PySem.Spec PyProof.Rows
variable [Tabs]
section
variable {X : Cx} {pins : yd} {σ : St} {H : Hp} {s : Shared} {a : Addr} {o : Obj} {u : HO}
end
section
variable {K : W.Frag} {mg : yc} {G0 H0 G H : Hp} {σ : St} {δ : DEnv} {a : Addr} {o2 : HO}
end
section
variable {X : Cx} {E : XK} {N0 : List Str} {sc0 scope : Scope} {x d : Str} {elt : Expr} {ifs : List Expr} {tc : DT} {te : DE} {pos px pd : Pos} {F : List Nat}
end
end L2
namespace L2
open PySem PySem.Spec PyProof.Rows
section
variable {prog : Program} {w : World} {A : Around} {E : ye} {s : Shared} {a kS : Addr} {vs : List Value} {ns kz : List Int} {keys : Array Value} {e e1 : Nat} {P : PySem.Fin -> Shared -> Prop}
end
variable [Tabs]
noncomputable def inB2 (d : PyData) : PyData -> Option Bool
 | .dict es => (yx d).map fun k => es.any fun p => decide (yx p.1 = some k)
 | y => inB d y
noncomputable def dIn2 : yb -> Option SD
 | [x, y] => (inB2 x y).map fun b => .sh (.bool b)
 | _ => none
noncomputable def zR : yb -> Option SD
 | [x, y] => (inB2 x y).map fun b => .sh (.bool !b)
 | _ => none
noncomputable def zM (K : W.Frag) (neg : Bool) : R2 := fun x y H Q => rInD K neg x y H Q \/ ∃ a o, y = .ref a /\ DGet H a x o /\ Q (.bl (if neg then !o.isSome else o.isSome)) H
section
variable {X : Cx}
theorem pC (hu : X.A.units + 64 < cLine) : OpR X (compareOp .In) (zM X.K false) := by
 intro pins s σ H x y v u Q I rx ry h
 rcases h with h | ⟨a, o, rfl, g, q⟩
 ·exact sP hu pins s σ H x y v u Q I rx ry h
 ·cases ry
  exact xD (by lia) I g rx fun s' I' => ⟨.bl _, H, I', rfl, q⟩
theorem kf (hu : X.A.units + 64 < cLine) : OpR X (compareOp .NotIn) (zM X.K true) := by
 intro pins s σ H x y v u Q I rx ry h
 rcases h with h | ⟨a, o, rfl, g, q⟩
 ·exact mr hu pins s σ H x y v u Q I rx ry h
 ·cases ry
  exact oA (by lia) I g rx fun s' I' => ⟨.bl _, H, I', rfl, q⟩
end
section
variable {K : W.Frag} {mg : yc}
theorem kZ {neg : Bool} {G H : Hp} {x y : V} {dx dy : PyData} {b : Bool} {Q : VK} (hg : Same G H) (h1 : Dt K G x dx) (h2 : Dt K G y dy) (e : inB2 dx dy = some b) (q : Q (.bl (if neg then !b else b)) H) : zM K neg x y H Q := by
 unfold inB2 at e
 split at e
 next es =>
  obtain ⟨k, ek, rfl⟩ := Option.map_eq_some_iff.mp e
  cases h2 with
  | dct hd hdes =>
   rename_i a kvs
   have ex : x = kV k := by
    cases h1 with
    | int i => cases ek; rfl
    | str z => cases ek; rfl
    | non => cases ek
    | bl z => cases ek
    | lst _ _ => cases ek
    | tup _ _ => cases ek
    | dct _ _ => cases ek
   subst ex
   refine .inr ⟨a, valV kvs k, rfl, DGet.k (hg _ _ hd), ?_⟩
   have e2 : (valV kvs k).isSome = es.any fun p => decide (yx p.1 = some k) := by
    rw [<- hdes.any]
    unfold valV
    rw [Option.isSome_map, Bool.eq_iff_iff, List.find?_isSome, List.any_eq_true]
   rw [e2]
   exact q
 next => exact .inl (sQ hg h1 h2 e q)
theorem wd : yo K mg dIn2 (l2 (zM K false)) := by
 intro G H vs ds res Q hg hd ho k
 unfold dIn2 at ho
 split at ho
 next x y =>
  obtain ⟨b, e, rfl⟩ := Option.map_eq_some_iff.mp ho
  obtain ⟨v, u, rfl, h1, h2⟩ := dts2 hd
  exact kZ hg h1 h2 e (ans k hg (.bl _))
 next => cases ho
theorem nF : yo K mg zR (l2 (zM K true)) := by
 intro G H vs ds res Q hg hd ho k
 unfold zR at ho
 split at ho
 next x y =>
  obtain ⟨b, e, rfl⟩ := Option.map_eq_some_iff.mp ho
  obtain ⟨v, u, rfl, h1, h2⟩ := dts2 hd
  exact kZ hg h1 h2 e (ans k hg (.bl _))
 next => cases ho
end
section
variable {X : Cx} {E : XK} {a b : Expr} {oa ob : Opd} {pos : Pos}
end
section
variable {X : Cx} {E : XK} {e : Expr} {o : Opd} {p pos pk kp : Pos}
end
section
variable {X : Cx} {E : XK} {a b : Expr} {oa ob : Opd} {p p2 pos pos2 : Pos}
end
structure LamQ (K : W.Frag) (qn : Str) (cdv : Value) (c P : Addr) : Prop where
 k : LamK K cdv c P
 q : qn ++ ".<locals>." ++ "<lambda>" = Tabs.qual
section
variable {X : Cx} {E : XK} {F : List Nat} {scope sc0 : Scope} {N0 : List Str} {a qn : Str} {params : Arguments} {body e : Expr} {te : DE} {o : Opd} {c P : Addr} {p pos lp cp k1 k2 : Pos} {j k : Nat}
end
end L2
namespace L2
open PySem PySem.Spec PyProof.Rows
structure AW (X : Cx) (x : Str) (F : List Nat) (N : List Str) (scope : Scope) : Prop where
 kind : scope.kind = .function
 c1 : ∀ n cl, cellsFrom n scope.names cl = (x, n) :: cl
 c2 : ∀ h, pushCells h scope.names = h.push { cls := .type "cell", data := .cell none }
 only : ∀ y ∈ scope.names, y.2 = .cell -> y.1 = x
 loc : ∀ y ∈ scope.names, y.2 = .local -> scope.names.lookup y.1 = some .local
 fkind : X.env.scope.kind = .function
 free : ∀ y ∈ scope.names, y.2 = .free -> X.env.kindOf y.1 = some .cell \/ X.env.kindOf y.1 = some .free
 names : ∀ (i : Nat) y, N[i]? = some y -> (i < 1 \/ (y ≠ x /\ ∃ j, F[i - 1]? = some j /\ X.N[j]? = some y /\ Vis X.env.scope y /\ ∀ k, (relabel scope X.env).names.lookup y = some k -> k = .cell \/ k = .free))
 len : N.length = 1 + F.length
section
variable {X : Cx} {pins : yd} {σ : St} {H : Hp} {s : Shared} {N : List Str} {F : List Nat} {scope : Scope} {cl : List (Str × Addr)} {fp : List Addr} {x : Str}
end
section
variable {X : Cx} {x xo : Str} {N : List Str} {F : List Nat} {scope : Scope} {tg elt iter : Expr} {wi : TI} {g : TG} {tc : TT} {te : TE} {pos : Pos} {ifs : List Expr}
end
variable [Tabs]
section
variable {X : Cx} {E : XK} {N0 : List Str} {sc0 scope : Scope} {x : Str} {elt iter : Expr} {ifs : List Expr} {fc : DC} {tc : DT} {te : DE} {pos px : Pos} {F : List Nat}
end
structure AX (s p : Addr) (G H G' H' : Hp) : Prop where
 at_ : ∀ b o, b ≠ s -> b ≠ p -> H b = some o -> H' b = some o
 gg : Same G G'
 gh : Same G' H'
 nb : ∀ b, H b ≠ none -> G' b = G b
 nt : NoT G -> NoT G'
theorem Dts.set' {K : W.Frag} {H : Hp} {v : V} {d : PyData} (hv : Dt K H v d) : ∀ {vs : List V} {ds : yb} (n : Nat), Dts K H vs ds -> Dts K H (vs.set n v) (ds.set n d)
 | _, _, _, .nil => .nil
 | _, _, 0, .cons _ r => .cons hv r
 | _, _, n + 1, .cons x r => .cons x (Dts.set' hv n r)
theorem Dts.dropLast' {K : W.Frag} {H : Hp} {vs : List V} {ds : yb} (h : Dts K H vs ds) : Dts K H vs.dropLast ds.dropLast := by
 rw [List.dropLast_eq_take, List.dropLast_eq_take, h.len]
 exact h.take _
noncomputable def setP (i : Nat) (p : yb × DEnv × DEnv) : SOut := match isOl p.2.2 i, p.1 with
 | some ds, [d, .int k] => (match ixN ds.length k with
  | some j => .nx (p.2.2.set i (some (.ol (ds.set j d))))
  | none => .bad)
 | _, _ => .bad
noncomputable def zT (i : Nat) (ov ok : Opd) : DS := fun δ => match isOl δ i with
 | none => .bad
 | some _ => match opds [ov, ok] δ with
  | .ok p => setP i p
  | .exc x => .exc x
  | .bad => .bad
@[simp] theorem we (i : Nat) (d : PyData) (k : Int) (δ1 δ2 : DEnv) : setP i ([d, .int k], δ1, δ2) = match isOl δ2 i with
  | some ds => (match ixN ds.length k with
   | some j => .nx (δ2.set i (some (.ol (ds.set j d))))
   | none => .bad)
  | none => .bad := by
 unfold setP
 cases isOl δ2 i <;> rfl
@[simp] theorem wg (i : Nat) (ov ok : Opd) (δ : DEnv) : zT i ov ok δ = match isOl δ i with
 | none => .bad
 | some _ => (opds [ov, ok] δ).elimS (setP i) := by unfold zT; cases isOl δ i <;> first | rfl | (simp only; cases opds [ov, ok] δ <;> rfl)
noncomputable def ePop (i : Nat) : DE := fun δ => match isOl δ i with
 | none => .bad
 | some ds => match ds.getLast? with
  | some d => .ok (.sh d, δ.set i (some (.ol ds.dropLast)))
  | none => .bad
@[simp] theorem xB (i : Nat) (δ : DEnv) : ePop i δ = match isOl δ i with
 | none => .bad
 | some ds => match ds.getLast? with
  | some d => .ok (.sh d, δ.set i (some (.ol ds.dropLast)))
  | none => .bad := rfl
section
variable {X : Cx} {E : XK} {e k v : Expr} {o ov ok : Opd} {x : Str} {px apos cpos pos tpos : Pos}
theorem pF (i : Nat) (hval : SO X E v ov) (hk : SO X E k ok) (hN : X.N[i]? = some x := by rfl) (hv : Vis X.env.scope x := by first | exact Or.inl rfl | exact Or.inr (Or.inl rfl) | exact Or.inr (Or.inr rfl)) (hd : (x == ("__debug__" : Str)) = false := by decide)
  (hcd : (x == ("__classdict__" : Str)) = false := by decide) (hs : swapsWithSole [.Subscript (.Name x px) k tpos] v pos.line X.env = pure false := by rfl) (hw : swappedStores [.Subscript (.Name x px) k tpos] v X.env = pure none := by rfl)
  (h1 : (assignEach [.Subscript (.Name x px) k tpos] X.env).map (·.2) = [assign (.Subscript (.Name x px) k tpos) X.env] := by rfl)
  (ha : ∀ v, assign (.Subscript (.Name x px) k tpos) X.env v = (do
   let ov <- holding [v] (eval (.Name x px) X.env)
   let iv <- holding [v, ov] (eval k X.env)
   standAt tpos
   holding [v, ov, iv] (setItem ov iv v)
   release [v, ov, iv] []) := by intro _; rfl) : S1 X E (.Assign [.Subscript (.Name x px) k tpos] v pos) (zT i ov ok) :=
 (r8 hval (r6 (cN hN hv hd hcd) hk mU ha) hs hw h1).weak fun D σ H ⟨G0, H0, G, δ, R, m⟩ => by
  unfold zT at m
  cases e0 : isOl δ i with
  | none => rw [e0] at m; exact m.elim
  | some ds0 =>
   rw [e0] at m
   dsimp only at m
   obtain ⟨w, h1, ⟨a, xs, rfl, q1, q2, q3⟩, _⟩ := R.at_ (cI e0)
   have key : tOs X.K X.mg E [ov, ok] σ H fun vs H1 => ∃ y z, vs = [y, z] /\ An (.ref a) z y H1 fun H3 => D.nx σ H3 := by
    refine gE R ?_
    cases e1 : opds [ov, ok] δ with
    | ok p =>
     rw [e1] at m
     dsimp only [setP] at m
     intro vs H1 G1 R1 s1 hdd
     split at m
     next es d k' e2 e3 =>
      rw [e3] at hdd
      obtain ⟨y, z, rfl, hy, hz⟩ := dts2 hdd
      obtain ⟨u, g1, ⟨b, ys, rfl, y1, y2, y3⟩, _⟩ := R1.at_ (cI e2)
      rw [h1] at g1
      cases g1
      split at m
      next j ej =>
       cases hz
       refine ⟨y, _, rfl, a, ys, k', j, rfl, rfl, y2, by rw [y3.len]; exact ej, ?_⟩
       exact m σ _ G1 (R1.write (cI e2) trivial h1 ⟨a, _, rfl, y1, ay, y3.set' hy j⟩ (by rw [y2]; trivial) (fun C z => by rw [y2] at z; cases z)) s1
      next => exact m.elim
     next => exact m.elim
    | exc x => rw [e1] at m; exact m
    | bad => rw [e1] at m; exact m
   refine eZ (fun y H1 q => ?_) key
   refine ⟨.ref a, h1, ?_⟩
   exact eZ (fun z H2 ⟨y', z', ee, hp⟩ => by cases ee; exact hp) q
theorem sU (i : Nat) (hN : X.N[i]? = some x := by rfl) (hv : Vis X.env.scope x := by first | exact Or.inl rfl | exact Or.inr (Or.inl rfl) | exact Or.inr (Or.inr rfl)) (hd : (x == ("__debug__" : Str)) = false := by decide)
  (hcd : (x == ("__classdict__" : Str)) = false := by decide) (hbase : attributeBase (.Name x px) "pop" X.env (eval (.Name x px) X.env) = eval (.Name x px) X.env := by rfl) (hline : (apos.endLine == cpos.line) = true := by rfl) :
  SE X E (.Call (.Attribute (.Name x px) "pop" apos) [] [] cpos) (ePop i) :=
 (rF PySem.F.plainAttrs_list PySem.F.slot_list_pop PySem.F.type_list_pop rG (cN hN hv hd hcd) hbase hline).weak fun σ H Q ⟨G0, H0, G, δ, R, m⟩ => by
  unfold ePop at m
  cases e0 : isOl δ i with
  | none => rw [e0] at m; exact m.elim
  | some ds =>
   rw [e0] at m
   dsimp only at m
   obtain ⟨w, h1, ⟨a, xs, rfl, q1, q2, q3⟩, _⟩ := R.at_ (cI e0)
   cases e1 : ds.getLast? with
   | none => rw [e1] at m; exact m.elim
   | some d =>
    rw [e1] at m
    dsimp only at m
    rw [List.getLast?_eq_getElem?] at e1
    obtain ⟨y, hy, hyd⟩ := q3.get' e1
    refine ⟨.ref a, h1, .inl ⟨rfl, xs, .inl (.inl q2)⟩, a, xs, y, rfl, rfl, q2, by rw [q3.len]; exact hy, ?_⟩
    exact m y _ G (R.write (cI e0) trivial h1 ⟨a, _, rfl, q1, ay, q3.dropLast'⟩ (by rw [q2]; trivial) (fun C z => by rw [q2] at z; cases z)) (.refl _) (RR.sh hyd)
end
section
variable {X : Cx} {E : XK} {e : Expr} {st : Stmt} {sts : List Stmt}
end
section
variable {X : Cx} {E : XK} {e k v : Expr} {o ov ok : Opd} {x : Str} {px apos cpos pos tpos : Pos}
end
noncomputable def Av (w : World) : List DictEntry -> List (Key × Int) -> Prop
 | [], [] => True
 | e :: es, p :: r => zz p.1 e.key = true /\ e.hash = keyH w p.1 /\ (∃ t, e.val = .int p.2 t) /\ Av w es r
 | _, _ => False
structure DctK (w : World) (K : W.Frag) (a : Addr) (kd : List (Key × Int)) : Prop where
 nsys : (a == sysModules) = false
 nd : (kd.map (·.1)).Nodup
 obj : ∃ es n, K.lookup a = some { cls := .type "dict", data := .dict es n } /\ Av w es.toList kd
section
variable {X : Cx} {E : XK} {e k v : Expr} {o ov ok : Opd} {x : Str} {px apos cpos pos tpos : Pos}
theorem pG {c : Str} (h : ∃ t, X.mg x = some (.str c t)) (hg : Gl X x := by rfl) (hdb : (x == ("__debug__" : Str)) = false := by decide) : SE X E (.Name x pos) (eC (.str c)) := by
 obtain ⟨t, h⟩ := h
 exact kM h (v := .str c) ⟨t, rfl⟩ (fun _ => .str c) hg hdb
end
noncomputable def zF : yb -> Option SD
 | [.int i] => if i.natAbs.log2 < 1920 then some (.sh (.str (Str.ofString (toString i)))) else none
 | _ => none
@[simp] theorem uA (i : Int) : zF [.int i] = if i.natAbs.log2 < 1920 then some (.sh (.str (Str.ofString (toString i)))) else none := rfl
section
variable {X : Cx} {E : XK} {e a k v : Expr} {o oa ov ok : Opd} {x : Str} {p px apos cpos pos tpos : Pos}
theorem mv : yG X (.type "str") (fun xs H Q => ∃ i : Int, xs = [.int i] /\ i.natAbs.log2 < 1920 /\ Q (.str (Str.ofString (toString i))) H) := by
 intro pins s σ H xs us Q I rv h
 obtain ⟨i, rfl, hi, q⟩ := h
 obtain ⟨u, rfl, ru⟩ := rv.one
 obtain ⟨t, rfl⟩ := ru
 exact P.str_of_int hi ⟨.str _, H, I.tok _, ⟨_, rfl⟩, q⟩
theorem sV {K : W.Frag} {mg : yc} : yo K mg zF (fun xs H Q => ∃ i : Int, xs = [.int i] /\ i.natAbs.log2 < 1920 /\ Q (.str (Str.ofString (toString i))) H) := by
 intro G H vs ds res Q hg hd ho k
 unfold zF at ho
 split at ho
 next i =>
  split at ho
  next hi =>
   cases ho
   obtain ⟨x, rfl, h1⟩ := dts1 hd
   cases h1
   exact ⟨i, rfl, hi, ans k hg (.str _)⟩
  next => cases ho
 next => cases ho
theorem la (hm : X.mg "str" = none) (hb : bootBuiltins "str" = some (.type "str")) (ha : SO X E a oa) (hg : Gl X "str" := by rfl) (hst : starEach [a] X.env = [(false, eval a X.env)] := by rfl) : SE X E (.Call (.Name "str" p) [a] [] pos) (eOp zF [oa]) :=
 eW mv sV hm hb (aa ha aj hst) hg (by decide) (by decide) hst rfl
noncomputable def ze : yb -> Option (List Str)
 | [] => some []
 | .str i :: r => (ze r).map (i :: ·)
 | _ => none
theorem eh : ∀ l : List Str, ze (l.map PyData.str) = some l
 | [] => rfl
 | x :: r => by simp [ze, eh r]
theorem jw {K : W.Frag} {G : Hp} : ∀ {vs : List V} {ds : yb} {ts : List Str}, Dts K G vs ds -> ze ds = some ts -> vs = ts.map V.str
 | _, _, ts, .nil, e => by cases e; rfl
 | _, _, ts, .cons (d := d) h r, e => by
  cases h with
  | str i =>
   simp only [ze, Option.map_eq_some_iff] at e
   obtain ⟨bs, e1, rfl⟩ := e
   rw [List.map_cons, jw r e1]
  | _ => simp [ze] at e
theorem iw : ∀ {ts : List Str} {us : List Value}, Vals (ts.map V.str) us -> ∃ l : List (Str × Tok), us = strValues l /\ l.map (·.1) = ts
 | [], us, h => by
  have := h.zero
  subst this
  exact ⟨[], rfl, rfl⟩
 | t :: r, _, .cons ⟨tk, e⟩ h => by
  obtain ⟨l, rfl, e2⟩ := iw h
  subst e
  exact ⟨(t, tk) :: l, rfl, by rw [List.map_cons, e2]⟩
noncomputable def Aw (K : W.Frag) (sep : Str) : V -> List V -> Hp -> VK -> Prop := fun x vs H Q => ∃ l ts, x = .str sep /\ vs = [.ref l] /\ SqR K H l (ts.map V.str) /\ JoinOk sep ts = true /\ Q (.str (Str.join sep ts)) H
theorem pH (sep : Str) : MtM X "str.join" (Aw X.K sep) := by
 intro pins s σ H x vs v us Q I rx rv h
 obtain ⟨l, ts, rfl, rfl, hl, hj, q⟩ := h
 obtain ⟨t, rfl⟩ := rx
 obtain ⟨u, rfl, ru⟩ := rv.one
 cases ru
 obtain ⟨z, its, n, r, hn, e⟩ := I.lstR hl
 obtain ⟨ll, rfl, e2⟩ := iw r
 refine SC.join (l := ll) ⟨_, e, rfl, n, rfl⟩ e2 hj fun t' k => ⟨.str _, H, I.tok _, ⟨t', ?_⟩, q⟩
 unfold Txt.join
 rw [StrLaws.glued_eq_join]
noncomputable def zq (sep : Str) : yb -> Option SD
 | [.list ds] => (match ze ds with
  | some ts => if JoinOk sep ts = true then some (.sh (.str (Str.join sep ts))) else none
  | none => none)
 | _ => none
@[simp] theorem uB (sep : Str) (ds : yb) : zq sep [.list ds] = (match ze ds with
  | some ts => if JoinOk sep ts = true then some (.sh (.str (Str.join sep ts))) else none
  | none => none) := rfl
theorem pI {K : W.Frag} {mg : yc} (sep : Str) : yo K mg (zq sep) (fun vs H Q => Aw K sep (.str sep) vs H Q) := by
 intro G H vs ds res Q hg hd ho k
 unfold zq at ho
 split at ho
 next xs =>
  split at ho
  next ts e =>
   split at ho
   next hj =>
    cases ho
    obtain ⟨x, rfl, h1⟩ := dts1 hd
    cases h1 with
    | lst q r =>
     have := jw r e
     subst this
     exact ⟨_, ts, rfl, rfl, hg.sqr q, hj, ans k hg (.str _)⟩
   next => cases ho
  next => cases ho
 next => cases ho
theorem jx {sep : Str} (he : SO X E e o) (hst : starEach [e] X.env = [(false, eval e X.env)] := by rfl)
  (hbase : attributeBase (.Constant (.str sep) k0 px) "join" X.env (eval (.Constant (.str sep) k0 px) X.env) = eval (.Constant (.str sep) k0 px) X.env := by rfl)
  (hfew : ((backTo cpos (starEach [e] X.env)).all (fun x => !x.1) && (backToKw cpos (keywordEach [] X.env)).all (fun x => x.1.isSome) && decide (([e] : List Expr).length + ([] : List Keyword).length + (if ([] : List Keyword).isEmpty then 0 else 1) < 30)) = true := by rfl)
  (hline : (apos.endLine == cpos.line) = true := by rfl) : SE X E (.Call (.Attribute (.Constant (.str sep) k0 px) "join" apos) [e] [] cpos) (eOp (zq sep) [o]) :=
 (kI PySem.F.plainAttrs_str PySem.F.slot_str_join PySem.F.type_str_join (pH sep) dq (aa he aj hst) hbase hfew hline hst rfl).weak fun σ H Q q => ⟨rfl, eS (pI sep) q⟩
theorem nG {prog : Program} {w : World} {A : Around} {E : ye} {s : Shared} {x y : Str} {t u : Tok} {Q : ye} (hy : (y.length == 0) = false) (hx : x.length <= 100000)
  (hq : ∀ (l : List (Str × Tok)) (k : Nat), l.map (·.1) = Txt.split x y -> Q (.ref s.heap.objs.size) { s with heap := s.heap.push { cls := .type "list", data := .seq (strValues l).toArray }, toks := k }) :
  wpAny (model prog w) A (call (.builtin "str.split") [.str x t, .str y u]) Q E s := by
 have hsz : x.length <= sizeLine := Nat.le_trans hx (by decide)
 have hsz2 : (Builtin.Str.partsBetween x (Builtin.Str.occurrences x y 0 x.length (x.length + 1)) y.length).length <= sizeLine := by
  rw [len_partsBetween]
  have := StrLaws.occ_length_le x y 0 x.length (x.length + 1)
  exact Nat.le_trans (by lia : _ <= 100002) (by decide)
 cases h1 : (decide (x.length < y.length) || decide (Builtin.Str.strKind x < Builtin.Str.strKind y))
 ·cases hf : (Builtin.Str.occurrences x y 0 x.length (x.length + 1)).isEmpty
  ·refine call_meets PySem.F.slot_str_split (typeIs_str _ _ _) PySem.F.entry_str_split (PySem.F.args_str_split_2 _ _) (meets_str_split_sep x y t u h1 hy hf hsz hsz2) ?_
   show Q (.ref s.heap.objs.size) { s with toks := _, heap := s.heap.push { cls := .type "list", data := .seq (strsFrom s.toks (Builtin.Str.partsBetween x (Builtin.Str.occurrences x y 0 x.length (x.length + 1)) y.length)).toArray } }
   rw [strsFrom_eq]
   exact hq (numbered s.toks _) _ ((numbered_texts _ _).trans ((if_neg (ne_true_of_eq_false h1)).trans (if_neg (ne_true_of_eq_false hf))).symm)
  ·refine call_meets PySem.F.slot_str_split (typeIs_str _ _ _) PySem.F.entry_str_split (PySem.F.args_str_split_2 _ _) (meets_str_split_not_found x y t u h1 hy hf) ?_
   exact hq [(x, t)] s.toks ((if_neg (ne_true_of_eq_false h1)).trans (if_pos hf)).symm
 ·refine call_meets PySem.F.slot_str_split (typeIs_str _ _ _) PySem.F.entry_str_split (PySem.F.args_str_split_2 _ _) (meets_str_split_cannot_occur x y t u h1) ?_
  exact hq [(x, t)] s.toks (if_pos h1).symm
theorem ix : ∀ (l : List (Str × Tok)), Vals ((l.map (·.1)).map V.str) (strValues l)
 | [] => .nil
 | p :: r => .cons ⟨p.2, rfl⟩ (ix r)
theorem fI (x y : Str) : (Txt.split x y).length <= x.length + 2 := split_le x y
noncomputable def Ai : V -> List V -> Hp -> VK -> Prop := fun x vs H Q => ∃ s sep, x = .str s /\ vs = [.str sep] /\ (sep.length == 0) = false /\ s.length <= 100000 /\ ∀ p, H p = none -> Q (.ref p) (upd H p (.lst ((Txt.split s sep).map V.str)))
theorem nH : MtM X "str.split" Ai := by
 intro pins s σ H x vs v us Q I rx rv h
 obtain ⟨str, sep, rfl, rfl, h0, hs, q⟩ := h
 obtain ⟨t, rfl⟩ := rx
 obtain ⟨u, rfl, t2, rfl⟩ := rv.one
 refine nG h0 hs fun l k e => ⟨.ref _, _, I.lnew (t' := k) (its := strValues l) (ys := (Txt.split str sep).map V.str) (by rw [<- e]; exact ix l) ?_, rfl, q _ I.fresh⟩
 rw [List.length_map]
 have := fI str sep
 exact Nat.le_trans (by lia : _ <= 100002) (by decide)
noncomputable def zf (i : Nat) (sep : Str) : DE := fun δ => match δ[i]? with
 | some (some (.sh (.str x))) => if x.length <= 100000 then .ok (.ol ((Txt.split x sep).map PyData.str), δ) else .bad
 | _ => .bad
@[simp] theorem uC (i : Nat) (sep : Str) (δ : DEnv) : zf i sep δ = match δ[i]? with
 | some (some (.sh (.str x))) => if x.length <= 100000 then .ok (.ol ((Txt.split x sep).map PyData.str), δ) else .bad
 | _ => .bad := rfl
theorem jy {K : W.Frag} {G : Hp} : ∀ l : List Str, Dts K G (l.map V.str) (l.map PyData.str)
 | [] => .nil
 | x :: r => .cons (.str x) (jy r)
theorem cY (i : Nat) {sep : Str} (h0 : (sep.length == 0) = false := by decide) (hN : X.N[i]? = some x := by rfl) (hv : Vis X.env.scope x := by first | exact Or.inl rfl | exact Or.inr (Or.inl rfl) | exact Or.inr (Or.inr rfl)) (hd : (x == ("__debug__" : Str)) = false := by decide)
  (hcd : (x == ("__classdict__" : Str)) = false := by decide) (hbase : attributeBase (.Name x px) "split" X.env (eval (.Name x px) X.env) = eval (.Name x px) X.env := by rfl)
  (hst : starEach [.Constant (.str sep) k0 p] X.env = [(false, eval (.Constant (.str sep) k0 p) X.env)] := by rfl)
  (hfew : ((backTo cpos (starEach [.Constant (.str sep) k0 p] X.env)).all (fun x => !x.1) && (backToKw cpos (keywordEach [] X.env)).all (fun x => x.1.isSome) && decide (([.Constant (.str sep) k0 p] : List Expr).length + ([] : List Keyword).length + (if ([] : List Keyword).isEmpty then 0 else 1) < 30)) = true := by rfl)
  (hline : (apos.endLine == cpos.line) = true := by rfl) : SE X E (.Call (.Attribute (.Name x px) "split" apos) [.Constant (.str sep) k0 p] [] cpos) (zf i sep) :=
 (kI PySem.F.plainAttrs_str PySem.F.slot_str_split PySem.F.type_str_split nH (cN hN hv hd hcd) (bJ dq cO hst) hbase hfew hline hst rfl).weak fun σ H Q ⟨G0, H0, G, δ, R, m⟩ => by
  unfold zf at m
  split at m
  next str es =>
   split at m
   next hl =>
    obtain ⟨w, h1, rr⟩ := R.at_ es
    have hw : w = .str str := by
     cases rr.1 with
     | str => rfl
    subst hw
    refine ⟨_, h1, rfl, ?_⟩
    show Ai (.str str) [.str sep] H Q
    exact ⟨str, sep, rfl, rfl, h0, hl, fun q hq => m _ _ G (R.grow (.laidO R.g.gh hq)) (.refl _) (RR.of_new R (eT R.g.gh hq (jy _)))⟩
   next => exact m.elim
  next => exact m.elim
end
@[simp] theorem wj (i : Nat) (d : PyData) (k : Str) (δ1 δ2 : DEnv) : putP i ([d, .str k], δ1, δ2) = match isOd δ2 i with
  | some es => if es.length < sizeLine then .nx (δ2.set i (some (.od (putD es (.inr k) d)))) else .bad
  | none => .bad := by
 unfold putP
 cases isOd δ2 i <;> rfl
end L2
namespace L2
open PySem PySem.Spec PyProof.Rows
abbrev Rise (l : List Nat) : Prop := l.Pairwise (· < ·)
structure LowB (xs : Array Nat) (j r : Nat) : Prop where
 le : r <= xs.size
 lo : ∀ i x, i < r -> xs[i]? = some x -> x < j
 hi : ∀ i x, r <= i -> xs[i]? = some x -> j <= x
structure TabS (led : Bool) (t : SetTable) : Prop where
 rise : Rise t.place.toList
 dum : t.dummies = #[]
 led : t.led = led
section
variable {prog : Program} {w : World} {A : Around} {E : ye} {s : Shared}
end
section
variable {prog : Program} {w : World} {A : Around} {R : Result -> Shared -> Prop} {I : Addr} {fp wr : List Addr} {G : Array GenState -> Array GenState -> Prop} {n : Nat} {P : Nat -> Value -> Prop} {St : Nat -> Shared -> Prop}
end
section
variable {prog : Program} {w : World} {A : Around} {E : ye} {s : Shared}
end
section
variable {prog : Program} {w : World} {A : Around} {E : ye} {s : Shared}
end
section
variable {prog : Program} {w : World} {A : Around} {E : ye} {s : Shared}
end
section
variable {prog : Program} {w : World} {A : Around} {E : ye} {s : Shared}
end
section
variable {prog : Program} {w : World} {A : Around} {E : ye} {s : Shared}
end
section
variable {prog : Program} {w : World} {A : Around} {E : ye} {s : Shared}
end
variable [Tabs]
section
variable {X : Cx} {pins : yd} {σ : List (Option V)} {H : Hp} {s : Shared}
end
section
variable {X : Cx} {E : XK} {a : Expr} {oa : Opd} {p1 p2 pos1 pos2 : Pos}
end
section
variable {X : Cx} {E : XK} {a : Expr} {oa : Opd} {pos p : Pos}
end
section
variable {X : Cx}
noncomputable def rSlZ : V -> Option Int -> Option Int -> Hp -> VK -> Prop := fun x lo hi H Q => ∃ z, x = .str z /\ z.length <= sizeLine /\ Q (.str (Txt.slice z lo hi)) H
theorem sW : SlR X rSlZ := by
 intro pins s σ H x v vl vu lo hi sl Q I rx hs pl pu h
 obtain ⟨z, rfl, hz, q⟩ := h
 obtain ⟨t, rfl⟩ := rx
 refine ⟨"str", _, PySem.F.slot_str_getitem.lookup, typeIs_str _ _ _, ?_⟩
 have fin : ∀ t' k, EP X pins σ Q (.str (Txt.slice z lo hi) t') { s with toks := k } := fun t' k => ⟨.str _, H, I.tok _, ⟨t', rfl⟩, q⟩
 cases pl with
 | none =>
  cases pu with
  | none => exact wpAny_getItem_str_slice (l := none) (u := none) (st := none) hs rfl (post_val_or_str ⟨Nat.le_trans (Txt.slice_le z _ _) hz, fun t' k => fin t' k⟩)
  | int j uj => exact wpAny_getItem_str_slice (l := none) (u := some (j, uj)) (st := none) hs rfl (post_val_or_str ⟨Nat.le_trans (Txt.slice_le z _ _) hz, fun t' k => fin t' k⟩)
 | int i ui =>
  cases pu with
  | none => exact wpAny_getItem_str_slice (l := some (i, ui)) (u := none) (st := none) hs rfl (post_val_or_str ⟨Nat.le_trans (Txt.slice_le z _ _) hz, fun t' k => fin t' k⟩)
  | int j uj => exact wpAny_getItem_str_slice (l := some (i, ui)) (u := some (j, uj)) (st := none) hs rfl (post_val_or_str ⟨Nat.le_trans (Txt.slice_le z _ _) hz, fun t' k => fin t' k⟩)
noncomputable def rSlX (K : W.Frag) : V -> Option Int -> Option Int -> Hp -> VK -> Prop := fun x lo hi H Q => rSlD K x lo hi H Q \/ rSlZ x lo hi H Q
theorem wk : SlR X (rSlX X.K) := xH.or sW
noncomputable def Ax (K : W.Frag) : List V -> Hp -> VK -> Prop := fun xs H Q => Af K xs H Q \/ ∃ z : Str, xs = [.str z] /\ z.length <= sizeLine /\ Q (.int (z.length : Int)) H
theorem mw : yG X (.builtin "len") (Ax X.K) := by
 intro pins s σ H xs us Q I r h
 rcases h with h | ⟨z, rfl, hz, q⟩
 ·exact lY pins s σ H xs us Q I r h
 ·obtain ⟨u, rfl, t, rfl⟩ := vals1 r
  have hn := line63
  exact len_str (by lia) ⟨.int _, H, I.tok _, ⟨_, rfl⟩, q⟩
noncomputable def rInX (K : W.Frag) (neg : Bool) : R2 := fun x y H Q => zM K neg x y H Q \/ ∃ a b : Str, x = .str a /\ y = .str b /\ Q (.bl (if neg then !Txt.contains b a else Txt.contains b a)) H
theorem sX (hu : X.A.units + 64 < cLine) : OpR X (compareOp .In) (rInX X.K false) := by
 intro pins s σ H x y v u Q I rx ry h
 rcases h with h | ⟨a, b, rfl, rfl, q⟩
 ·exact pC hu pins s σ H x y v u Q I rx ry h
 ·obtain ⟨t, rfl⟩ := rx
  obtain ⟨t2, rfl⟩ := ry
  exact SB.contains ⟨.bl _, H, I, rfl, q⟩
theorem mx (hu : X.A.units + 64 < cLine) : OpR X (compareOp .NotIn) (rInX X.K true) := by
 intro pins s σ H x y v u Q I rx ry h
 rcases h with h | ⟨a, b, rfl, rfl, q⟩
 ·exact kf hu pins s σ H x y v u Q I rx ry h
 ·obtain ⟨t, rfl⟩ := rx
  obtain ⟨t2, rfl⟩ := ry
  exact SB.notContains ⟨.bl _, H, I, rfl, q⟩
noncomputable def Ay (K : W.Frag) : R2 := fun x y H Q => A4 K x y H Q \/ ∃ (a : Str) (n : Int), x = .str a /\ y = .int n /\ 0 <= n /\ n < 1000 /\ a.length < 1000 /\ Q (.str (Txt.mul a n)) H
theorem pJ : OpR X (binaryOp .Mult) (Ay X.K) := by
  intro pins s σ H x y v u Q I rx ry h
  rcases h with h | ⟨a, n, rfl, rfl, h0, h1, h2, q⟩
  · exact oX pins s σ H x y v u Q I rx ry h
  · obtain ⟨t, rfl⟩ := rx
    obtain ⟨t2, rfl⟩ := ry
    refine SB.mul ⟨?_, fun g1 g2 => ?_, fun g1 g2 => ?_⟩ fun t' k => ⟨.str _, H, I.tok _, ⟨t', rfl⟩, q⟩
    · have e1 : decide (n < -(2 ^ 63 : Int)) = false := decide_eq_false (by lia)
      have e2 : decide (n ≥ 2 ^ 63) = false := decide_eq_false (by lia)
      rw [e1, e2]; rfl
    · have hm : (a.length : Int) * n <= 1000 * 1000 := Int.mul_le_mul (by lia) (by lia) h0 (by lia)
      have := (Int.le_ediv_iff_mul_le (a := (a.length : Int)) (b := 2 ^ 63 - 1) (c := n) (by lia)).mpr (by lia)
      lia
    · have hm : a.length * n.toNat <= 1000 * 1000 := Nat.mul_le_mul (by lia) (by lia)
      unfold PySem.Builtin.Str.tooLong
      exact decide_eq_false (by have : (1000000 : Nat) < sizeLine := by decide
                                lia)
noncomputable def Itz (z : Str) : It := ⟨fun i _ => i < z.cps.size, fun i H x H' => H' = H /\ ∃ c, z.cps[i]? = some c /\ x = .str ⟨#[c]⟩, fun i _ => z.cps.size <= i⟩
theorem nI {P : Program} {w : World} {K : W.Frag} {tg : Expr} (z : Str) (t : Tok) (it : Addr) : Turn P w K tg (Itz z) [it] it (fun i h => h.IsStrIter it "str_ascii_iterator" z t i) where
 mem := by simp
 obj := fun i h st b hb => by
  have e : b = it := by simpa using hb
  subst e
  obtain ⟨o, e, c, d⟩ := st
  exact ⟨o, e, fun v z => by rw [d] at z; cases z⟩
 keep := fun i h h' st k => by
  obtain ⟨o, e, c, d⟩ := st
  exact ⟨o, k it (by simp) o e, c, d⟩
 item := by
  intro X hP hw hK hc i pins s σ H E I hf st hg
  subst hP hw hK
  have hg' : i < z.cps.size := hg
  obtain ⟨f0, f1, f2, f3, f4, f5⟩ := hf it (by simp)
  refine wpAny_pyNext_ascii_item st (c := z.cps[i]) (by simp [hg']) fun h' st' sb => ?_
  have I1 : Inv X pins σ H { s with heap := h', toks := s.toks + 1 } := I.turned (t' := s.toks + 1) (fun b o hb e => (sb.2 b hb).trans e) f0 f1 f3 f4 f5
  obtain ⟨o, e, c, d⟩ := id st'
  exact ⟨_, rfl, ky (s := { s with heap := h', toks := s.toks + 1 }) e c d (by decide) ⟨.str ⟨#[z.cps[i]]⟩, H, I1, ⟨_, rfl⟩, ⟨rfl, _, by simp [hg'], rfl⟩, st', fun b hb => (hf b hb).1⟩⟩
 done := by
  intro X hP hw hK hc i pins s σ H E I hf st hg
  subst hP hw hK
  have hg' : z.cps.size <= i := hg
  obtain ⟨f0, f1, f2, f3, f4, f5⟩ := hf it (by simp)
  exact wpAny_pyNext_ascii_end (I.ok.hd hc) st (by simp [hg']) fun h' eb => ⟨rfl, I.turned (t' := s.toks) (fun b o hb e => eb b o hb e) f0 f1 f3 f4 f5⟩
 self := fun _ _ _ _ _ st h => wpAny_pyIter_striter_ascii st h
noncomputable def iStr (tl : TE) : TI := fun σ H R => tl σ H fun x H1 => ∃ z : Str, x = .str z /\ z.cps.all (· < 128) = true /\ R (Itz z) H1
theorem sY {tg l : Expr} {tl : TE} (hl : PE X l tl) : PI X tg l (iStr tl) := by
 intro pins s σ H R I h
 refine thn (hl pins s σ H _ I h) fun v s1 ⟨x, H1, I1, r1, q1⟩ => ?_
 obtain ⟨z, rfl, ha, q⟩ := q1
 obtain ⟨t, rfl⟩ := r1
 refine wpAny_pyIter_ascii ha ?_
 refine ⟨s1.heap.objs.size, [s1.heap.objs.size], _, _, H1, rfl, I1.kept (t' := s1.toks) fun b o e => Heap.get?_push_of_some _ e, nI z t _, ⟨_, Heap.get?_push_size _ rfl, rfl, rfl⟩, fun b hb => ?_, q⟩
 have e : b = s1.heap.objs.size := by simpa using hb
 subst e
 exact I1.fpOk (Nat.le_refl _) (I1.hok.fresh (Nat.le_refl _))
noncomputable def Az (z : Str) : V -> List V -> Hp -> VK -> Prop := fun x vs H Q => ∃ y : Str, x = .str z /\ vs = [.str y] /\ Q (.int (Txt.find z y)) H
theorem pK (z : Str) : MtM X "str.find" (Az z) := by
 intro pins s σ H x vs v us Q I rx rv h
 obtain ⟨y, rfl, rfl, q⟩ := h
 obtain ⟨t, rfl⟩ := rx
 obtain ⟨u, rfl, t2, rfl⟩ := rv.one
 exact SC.find ⟨.int _, H, I.tok _, ⟨_, rfl⟩, q⟩
end
noncomputable def slX (x : PyData) (lo hi : Option Int) : Option SD := match x with
 | .str z => if z.length <= sizeLine then some (.sh (.str (Txt.slice z lo hi))) else none
 | .list xs => slD (.list xs) lo hi
 | .tuple xs => slD (.tuple xs) lo hi
 | _ => none
theorem qG {K : W.Frag} {mg : yc} {G H : Hp} {x : V} {d : PyData} {lo hi : Option Int} {res : SD} {Q : VK} (hg : Same G H) (hd : Dt K G x d) (ho : slX d lo hi = some res)
  (k : ∀ v H' G', Grow G H G' H' -> VN K mg H G' H' v res -> Q v H') : rSlX K x lo hi H Q := by
 unfold slX at ho
 split at ho
 next z =>
  split at ho
  next hz =>
   cases ho
   cases hd
   exact .inr ⟨z, rfl, hz, ans k hg (.str _)⟩
  next => cases ho
 next xs => exact .inl (vd hg hd ho k)
 next xs => exact .inl (vd hg hd ho k)
 next => cases ho
noncomputable def zN : yb -> Option SD
 | [x, .int l] => slX x (some l) none
 | _ => none
noncomputable def zw : yb -> Option SD
 | [x, .int h] => slX x none (some h)
 | _ => none
@[simp] theorem wm (x : PyData) (l : Int) : zN [x, .int l] = slX x (some l) none := rfl
@[simp] theorem wo (x : PyData) (l : Int) : zw [x, .int l] = slX x none (some l) := rfl
@[simp] theorem xC (z : Str) (lo hi : Option Int) : slX (.str z) lo hi = if z.length <= sizeLine then some (.sh (.str (Txt.slice z lo hi))) else none := rfl
@[simp] theorem wq (xs : yb) (lo hi : Option Int) : slX (.list xs) lo hi = some (.ol (cutD xs lo hi)) := rfl
@[simp] theorem uD (xs : yb) (lo hi : Option Int) : slX (.tuple xs) lo hi = some (.sh (.tuple (cutD xs lo hi))) := rfl
noncomputable def yE : yb -> Option SD
 | [.str z, .int i] => if z.length <= sizeLine then (atI z.cps.toList i).map fun c => .sh (.str ⟨#[c]⟩) else none
 | [.list xs, y] => dIdx [.list xs, y]
 | [.tuple xs, y] => dIdx [.tuple xs, y]
 | [.dict xs, y] => dIdx [.dict xs, y]
 | _ => none
@[simp] theorem uE (z : Str) (i : Int) : yE [.str z, .int i] = if z.length <= sizeLine then (atI z.cps.toList i).map fun c => .sh (.str ⟨#[c]⟩) else none := rfl
@[simp] theorem sZ (xs : yb) (y : PyData) : yE [.list xs, y] = dIdx [.list xs, y] := rfl
@[simp] theorem qH (xs : yb) (y : PyData) : yE [.tuple xs, y] = dIdx [.tuple xs, y] := rfl
@[simp] theorem gM (xs : List (PyData × PyData)) (y : PyData) : yE [.dict xs, y] = dIdx [.dict xs, y] := rfl
noncomputable def yV : yb -> Option SD
 | [.str z] => if z.length <= sizeLine then some (.sh (.int z.length)) else none
 | l => dLen l
@[simp] theorem uF (z : Str) : yV [.str z] = if z.length <= sizeLine then some (.sh (.int z.length)) else none := rfl
@[simp] theorem t4 (xs : yb) : yV [.list xs] = some (.sh (.int xs.length)) := rfl
@[simp] theorem qI (xs : yb) : yV [.tuple xs] = some (.sh (.int xs.length)) := rfl
noncomputable def dInX : yb -> Option SD
 | [.str y, .str x] => some (.sh (.bool (Txt.contains x y)))
 | l => dIn2 l
noncomputable def zm : yb -> Option SD
 | [.str y, .str x] => some (.sh (.bool !(Txt.contains x y)))
 | l => zR l
@[simp] theorem wt (x y : Str) : dInX [.str y, .str x] = some (.sh (.bool (Txt.contains x y))) := rfl
@[simp] theorem qJ (x y : Str) : zm [.str y, .str x] = some (.sh (.bool !(Txt.contains x y))) := rfl
@[simp] theorem iy (x : PyData) (es : List (PyData × PyData)) : dInX [x, .dict es] = dIn2 [x, .dict es] := by cases x <;> rfl
noncomputable def yP : yb -> Option SD
 | [.str a, .int n] => if 0 <= n /\ n < 1000 /\ a.length < 1000 then some (.sh (.str (Txt.mul a n))) else none
 | l => dMul l
@[simp] theorem uG (a : Str) (n : Int) : yP [.str a, .int n] = if 0 <= n /\ n < 1000 /\ a.length < 1000 then some (.sh (.str (Txt.mul a n))) else none := rfl
@[simp] theorem uH (i j : Int) : yP [.int i, .int j] = dMul [.int i, .int j] := rfl
noncomputable def zG (z : Str) : yb -> Option SD
 | [.str y] => some (.sh (.int (Txt.find z y)))
 | _ => none
@[simp] theorem uI (z y : Str) : zG z [.str y] = some (.sh (.int (Txt.find z y))) := rfl
noncomputable def signs (z : Str) : yb := z.cps.toList.map fun c => .str ⟨#[c]⟩
noncomputable def zU (f : DE) : DA := fun δ => (vE f δ).bind fun p => match p.1 with
 | .str z => if z.cps.all (· < 128) = true then .ok (signs z, p.2) else .bad
 | _ => .bad
section
variable {K : W.Frag} {mg : yc}
theorem t5 : yo K mg yE (l2 fun x y H Q => rIxA K x y H Q \/ rIxS x y H Q) := by
 intro G H vs ds res Q hg hd ho k
 unfold yE at ho
 split at ho
 next z i =>
  split at ho
  next hz =>
   obtain ⟨c, e, rfl⟩ := Option.map_eq_some_iff.mp ho
   obtain ⟨v, u, rfl, h1, h2⟩ := dts2 hd
   cases h1
   cases h2
   exact .inr ⟨z, i, c, rfl, rfl, hz, e, ans k hg (.str _)⟩
  next => cases ho
 next xs y =>
  have := nj (mg := mg) G H vs _ res Q hg hd ho k
  obtain ⟨v, u, rfl, h1, h2⟩ := dts2 hd
  exact .inl this
 next xs y =>
  have := nj (mg := mg) G H vs _ res Q hg hd ho k
  obtain ⟨v, u, rfl, h1, h2⟩ := dts2 hd
  exact .inl this
 next xs y =>
  have := nj (mg := mg) G H vs _ res Q hg hd ho k
  obtain ⟨v, u, rfl, h1, h2⟩ := dts2 hd
  exact .inl this
 next => cases ho
theorem t6 : yo K mg yV (Ax K) := by
 intro G H vs ds res Q hg hd ho k
 unfold yV at ho
 split at ho
 next z =>
  split at ho
  next hz =>
   cases ho
   obtain ⟨x, rfl, h1⟩ := dts1 hd
   cases h1
   exact .inr ⟨z, rfl, hz, ans k hg (.int _)⟩
  next => cases ho
 next => exact .inl (ve (mg := mg) G H vs _ res Q hg hd ho k)
theorem wu : yo K mg dInX (l2 (rInX K false)) := by
 intro G H vs ds res Q hg hd ho k
 unfold dInX at ho
 split at ho
 next y x =>
  cases ho
  obtain ⟨v, u, rfl, h1, h2⟩ := dts2 hd
  cases h1
  cases h2
  exact .inr ⟨y, x, rfl, rfl, ans k hg (.bl _)⟩
 next =>
  have := wd (mg := mg) G H vs _ res Q hg hd ho k
  unfold l2 at this ⊢
  split at this
  ·exact .inl this
  ·exact this
theorem nJ : yo K mg zm (l2 (rInX K true)) := by
 intro G H vs ds res Q hg hd ho k
 unfold zm at ho
 split at ho
 next y x =>
  cases ho
  obtain ⟨v, u, rfl, h1, h2⟩ := dts2 hd
  cases h1
  cases h2
  exact .inr ⟨y, x, rfl, rfl, ans k hg (.bl _)⟩
 next =>
  have := nF (mg := mg) G H vs _ res Q hg hd ho k
  unfold l2 at this ⊢
  split at this
  ·exact .inl this
  ·exact this
theorem t7 : yo K mg yP (l2 (Ay K)) := by
 intro G H vs ds res Q hg hd ho k
 unfold yP at ho
 split at ho
 next a n =>
  split at ho
  next hz =>
   cases ho
   obtain ⟨v, u, rfl, h1, h2⟩ := dts2 hd
   cases h1
   cases h2
   exact .inr ⟨a, n, rfl, rfl, hz.1, hz.2.1, hz.2.2, ans k hg (.str _)⟩
  next => cases ho
 next =>
  have := vb (mg := mg) G H vs _ res Q hg hd ho k
  unfold l2 at this ⊢
  split at this
  ·exact .inl this
  ·exact this
theorem pM (z : Str) : yo K mg (zG z) (fun vs H Q => Az z (.str z) vs H Q) := by
 intro G H vs ds res Q hg hd ho k
 unfold zG at ho
 split at ho
 next y =>
  cases ho
  obtain ⟨x, rfl, h1⟩ := dts1 hd
  cases h1
  exact ⟨y, rfl, rfl, ans k hg (.int _)⟩
 next => cases ho
theorem my {G : Hp} (z : Str) : zp K (Itz z) G (signs z) := fun i G1 H1 s1 s2 => by
 have hl : (signs z).length = z.cps.size := by simp [signs]
 refine ⟨fun d e => ?_, fun h => by rw [hl] at h; exact h⟩
 have hi : i < z.cps.size := by
  have := (List.getElem?_eq_some_iff.mp e).1
  rwa [hl] at this
 refine ⟨hi, fun x H2 ⟨eH, c, hc, hx⟩ => ?_⟩
 subst eH hx
 unfold signs at e
 rw [List.getElem?_map] at e
 have hc' : z.cps.toList[i]? = some c := by simpa using hc
 rw [hc'] at e
 cases e
 exact ⟨G1, .refl s2, .str _⟩
end
section
variable {X : Cx} {E : XK} {a b e l h : Expr} {oa ob oe ol oh o : Opd} {f : DE} {tg : Expr} {pos p p2 px apos cpos : Pos} {k0 : Nat}
theorem iR (he : SO X E e oe) (hl : SO X E l ol) : SE X E (.Subscript e (.Slice (some l) none none p2) pos) (eOp zN [oe, ol]) :=
 (j6 wk he (kG hl) kF).weak fun σ H Q q => by
  refine eS (r := fun vs H1 Q => match vs with | [x, y] => ∃ i, y = .int i /\ rSlX X.K x (some i) none H1 Q | _ => False) (fun G H vs ds res Q hg hd ho k => ?_) q
  unfold zN at ho
  split at ho
  next x l =>
   obtain ⟨v, u, rfl, h1, h2⟩ := dts2 hd
   cases h2
   exact ⟨l, rfl, qG hg h1 ho k⟩
  next => cases ho
theorem fh (he : SO X E e oe) (hl : SO X E h oh) : SE X E (.Subscript e (.Slice none (some h) none p2) pos) (eOp zw [oe, oh]) :=
 (j6 wk he kF (kG hl)).weak fun σ H Q q => by
  refine eS (r := fun vs H1 Q => match vs with | [x, y] => ∃ i, y = .int i /\ rSlX X.K x none (some i) H1 Q | _ => False) (fun G H vs ds res Q hg hd ho k => ?_) q
  unfold zw at ho
  split at ho
  next x l =>
   obtain ⟨v, u, rfl, h1, h2⟩ := dts2 hd
   cases h2
   exact ⟨l, rfl, qG hg h1 ho k⟩
  next => cases ho
theorem cb (hu : X.A.units + 64 < cLine) (ha : SO X E a oa) (hb : SO X E b ob) (hp : zy b := by intro _ _; rfl) : SE X E (.Subscript a b pos) (eOp yE [oa, ob]) := v5 ((xF (by lia)).or rE) t5 ha hb hp
theorem t8 (hu : X.A.units + 64 < cLine) (ha : SO X E a oa) (hb : SO X E b ob) (hm : behindInMarks .In b = false := by rfl) : SE X E (.Compare a [.In] [b] pos) (eOp dInX [oa, ob]) := iK (sX hu) wu ha hb hm
theorem mz (hu : X.A.units + 64 < cLine) (ha : SO X E a oa) (hb : SO X E b ob) (hm : behindInMarks .NotIn b = false := by rfl) : ST X E (.Compare a [.NotIn] [b] pos) (tstV (eOp zm [oa, ob])) := e9 (mx hu) nJ ha hb hm
theorem bS (ha : SO X E a oa) (hb : SO X E b ob) : SE X E (.BinOp a .Mult b pos) (eOp yP [oa, ob]) := fE pJ t7 ha hb
theorem cK (hm : X.mg "len" = none) (ha : SO X E a oa) (hg : Gl X "len" := by rfl) (hst : starEach [a] X.env = [(false, eval a X.env)] := by rfl) : SE X E (.Call (.Name "len" p) [a] [] pos) (eOp yV [oa]) :=
 eU mw t6 hm PySem.boot_len (aa ha aj hst) hg (by decide) (by decide) hst rfl
theorem nK {z : Str} (he : SO X E e o) (hst : starEach [e] X.env = [(false, eval e X.env)] := by rfl)
  (hbase : attributeBase (.Constant (.str z) k0 px) "find" X.env (eval (.Constant (.str z) k0 px) X.env) = eval (.Constant (.str z) k0 px) X.env := by rfl)
  (hfew : ((backTo cpos (starEach [e] X.env)).all (fun x => !x.1) && (backToKw cpos (keywordEach [] X.env)).all (fun x => x.1.isSome) && decide (([e] : List Expr).length + ([] : List Keyword).length + (if ([] : List Keyword).isEmpty then 0 else 1) < 30)) = true := by rfl)
  (hline : (apos.endLine == cpos.line) = true := by rfl) : SE X E (.Call (.Attribute (.Constant (.str z) k0 px) "find" apos) [e] [] cpos) (eOp (zG z) [o]) :=
 (kI PySem.F.plainAttrs_str PySem.F.slot_str_find PySem.F.type_str_find (pK z) dq (aa he aj hst) hbase hfew hline hst rfl).weak fun σ H Q q => ⟨rfl, eS (pM z) q⟩
theorem t9 (hl : SE X E l f) : SI X E tg l (zU f) := (sY hl).weak fun σ H Q ⟨G0, H0, G, δ, R, m⟩ => by
 refine ng R ?_
 unfold zU at m
 cases e : vE f δ with
 | ok p =>
  rw [e, Out.bind_ok] at m
  intro v H' G' R' s hd
  split at m
  next z q =>
   rw [q] at hd
   cases hd
   split at m
   next ha => exact ⟨z, rfl, ha, m _ H' G' R' s (my z)⟩
   next => exact m.elim
  next => exact m.elim
 | exc x => rw [e] at m; exact m
 | bad => rw [e] at m; exact m
end
end L2
namespace L2
open PySem PySem.Spec PyProof.Rows
section
variable {M : Model} {A : Around} {E : ye} {s : Shared}
theorem nL {base : Heap} {env : Env} {outer : List Env} {L e : Addr} {cls a0 fl : Value} {Q : Unit -> Shared -> Prop} (hfr : A.frames = some (env :: outer)) (hf : env.frame = some L) (hkb : base.StaysIn s.heap) (hen : base.get? e = none) (hl : s.heap.FunFrames base (env :: outer)) (ht : s.heap.TracedAtW base e cls a0 fl)
  (h : ∀ h', Heap.HeldW base (env :: outer) e cls a0 L h' -> s.heap.UpToSlots h' -> Q () { s with heap := h' }) : wpAny M A (noteFrame (.ref e) env) Q E s := by
 by_cases hfl : fl = rawInt L
 ·subst hfl
  exact wpAny_noteFrame_againW hf ht (h s.heap ⟨hkb, hen, hl, ht⟩ (.refl _))
 ·obtain ⟨oe, vs, T, oT, ts, he, ⟨hcls, h0⟩, hd, h1, hnT, hTe, hT, hdT, h3⟩ := ht
  subst hcls
  unfold noteFrame
  simp only [hf]
  refine wpAny_bind (wpAny_field he hd h1 ?_)
  rw [if_pos (show (Value.ref T != Value.none) = true from by simp)]
  refine wpAny_bind (wpAny_field hT hdT h3 ?_)
  rw [if_neg (show ¬ ((fl == rawInt L) = true) from by simpa using hfl)]
  refine wpAny_bind (wpAny_setField hT hdT (Array.getElem?_eq_some_iff.mp h3).1 ?_)
  have other : ∀ b, b ≠ T -> (s.heap.update T (Obj.mapFields (·.setIfInBounds 3 Value.none))).get? b = s.heap.get? b := fun b hb => Heap.get?_update_other _ _ (Ne.symm hb)
  have noRec : ∀ b o, s.heap.get? b = some o -> (∀ vs, o.data ≠ .fields vs) -> b ≠ T := fun b o hb hnf q => by
   rw [q, hT] at hb; injection hb with hb; subst hb; exact hnf ts hdT
  refine wpAny_entryW hfr (hl.of_keeps fun b o hb hnf => ⟨o, (other b (noRec b o hb hnf)).trans hb, rfl⟩) hf ((other e (Ne.symm hTe)).trans he)
   (fun b o hbo => (other b fun q => by rw [q, hnT] at hbo; cases hbo).trans (hkb b o hbo)) hen hd (Array.getElem?_eq_some_iff.mp h1).1 h0
   fun h' ⟨x1, x2, x3, x4⟩ => h h' ⟨x1, hen, x2, x3⟩ fun b o hb hnf => x4 b o ((other b (noRec b o hb hnf)).trans hb) hnf
theorem kg {base : Heap} {env : Env} {outer : List Env} {L e : Addr} {cls a0 fl : Value} {Q : Unit -> Shared -> Prop} (hfr : A.frames = some (env :: outer)) (hf : env.frame = some L) (hkb : base.StaysIn s.heap) (hen : base.get? e = none) (hl : s.heap.FunFrames base (env :: outer)) (ht : s.heap.TracedAtW base e cls a0 fl)
  (hQ : ∀ h', Heap.FlyingW base outer e cls a0 h' -> s.heap.UpToSlots h' -> Q () { s with heap := h' }) : wpAny M A (leaving env (.ref e)) Q E s := by
 unfold leaving
 refine wpAny_bind (nL hfr hf hkb hen hl ht fun h1 hh u1 => ?_)
 refine wpAny_landsW (s := { s with heap := h1 }) hh fun h' hfl u2 => ?_
 obtain ⟨k1, k2, ⟨_, _, k3⟩, k4⟩ := hfl
 exact hQ h' ⟨k1, k2, k3, k4⟩ (u1.trans u2)
theorem pN {base : Heap} {l : List Env} {env : Env} {e : Addr} {cls a0 fl : Value} {what : String} (hkb : base.StaysIn s.heap) (hl : s.heap.FunFrames base l) (ht : s.heap.TracedAtW base e cls a0 fl)
  (h : ∀ h' fl', base.StaysIn h' -> h'.FunFrames base l -> h'.TracedAtW base e cls a0 fl' -> s.heap.UpToSlots h' -> E (.ref e) { s with heap := h' }) : wpAny M A (PySem.passOn what (.ref e) env : Sem Value) (fun _ _ => False) E s := by
 obtain ⟨oe, vs, T, oT, ts, he, hcls, hd, h1, hnT, hTe, hT, hdT, h3⟩ := ht
 have hsz3 : 3 < ts.size := (Array.getElem?_eq_some_iff.mp h3).1
 unfold PySem.passOn
 refine wpAny_bind (wpAny_field he hd h1 ?_)
 rw [if_neg (show ¬ ((Value.ref T == Value.none) = true) from by simp)]
 generalize hv : (env.frame.elim Value.none fun f => rawInt f) = fl'
 have other : ∀ b, b ≠ T -> (s.heap.update T (Obj.mapFields (·.setIfInBounds 3 fl'))).get? b = s.heap.get? b := fun b hb => Heap.get?_update_other _ _ (Ne.symm hb)
 have noRec : ∀ b o, s.heap.get? b = some o -> (∀ vs, o.data ≠ .fields vs) -> b ≠ T := fun b o hb hnf q => by
  rw [q, hT] at hb; injection hb with hb; subst hb; exact hnf ts hdT
 refine wpAny_bind (m := setFlight (.ref e) env.frame) ?_
 unfold setFlight
 refine wpAny_bind (wpAny_field he hd h1 ?_)
 rw [if_pos (show (Value.ref T != Value.none) = true from by simp), hv]
 refine wpAny_setField hT hdT hsz3 ?_
 refine wpAny_throw ?_
 refine h _ fl' (fun b o hbo => (other b fun q => by rw [q, hnT] at hbo; cases hbo).trans (hkb b o hbo)) (hl.of_keeps fun b o hb hnf => ⟨o, (other b (noRec b o hb hnf)).trans hb, rfl⟩) ?_ fun b o hb hnf => ⟨o.slots, (other b (noRec b o hb hnf)).trans hb⟩
 exact ⟨oe, vs, T, _, _, (other e (Ne.symm hTe)).trans he, hcls, hd, h1, hnT, hTe, Heap.get?_update_self _ hT (Obj.isFreed_of_fields (Obj.data_mapFields hdT _)), Obj.data_mapFields hdT _, by simp [hsz3]⟩
end
theorem fZ {e : Value} {e1 e2 : Env} (h : e1.frame = e2.frame) : noteFrame e e1 = noteFrame e e2 := by
 unfold noteFrame PySem.frameOf
 rw [h]
theorem dR {base h h' : Heap} : ∀ {l : List Env}, h.FunFrames base l -> (∀ b ∈ frs l, h'.get? b = h.get? b) -> h'.FunFrames base l
 | [], _, _ => trivial
 | env :: r, ⟨hk, ⟨L, o, hf, hn, ho, hd⟩, hr⟩, k => by
  have hL : L ∈ frs (env :: r) := by unfold frs; rw [List.filterMap_cons, hf]; exact List.mem_cons_self
  refine ⟨hk, ⟨L, o, hf, hn, (k L hL).trans ho, hd⟩, dR hr fun b hb => k b ?_⟩
  unfold frs at hb ⊢
  rw [List.filterMap_cons, hf]
  exact List.mem_cons_of_mem _ hb
section
variable {P : Program} {w : World} {K : W.Frag} {mg : yc} {base : Heap} {N : List Str} {qual : Str} {scope : Scope} {f : Addr} {cd : Value} {A : Around} {outer : List Env} {s0 : Shared} {H0 : Hp} {E : XK}
theorem AQ {pins : yd} {σ : St} {H H' : Hp} {s s' : Shared} {ea Cn : Addr} {C : Value} {E2 : ye} {cenv : Env} (I : Inv (cxE P w K mg base N qual scope f cd A outer s0 H0 E) pins σ H s) (hCn : H Cn = none) (hC0 : s0.heap.objs.size < Cn) (hns : ∃ m, s.heap.Ns Cn m)
  (F : Flew P w (envOfC qual scope s0.heap.objs.size f cd :: outer) H s H' ea C s') (q : E C none H') (hcf : cenv.frame = some s0.heap.objs.size) :
  wpAny (model P w) (A.deeper (envOfC qual scope s0.heap.objs.size f cd)) (noteFrame (.ref ea) cenv) (fun _ s1 => (∃ m, s1.heap.Ns Cn m) /\ ∀ h', Heap.SameBut Cn s1.heap h' -> ∀ cenv' : Env, cenv'.locals = Cn ->
   wpAny (model P w) (A.deeper (envOfC qual scope s0.heap.objs.size f cd)) (PySem.passOn "comprehension.variables-let-go" (.ref ea) cenv' : Sem Value) (fun _ _ => False) (cxE P w K mg base N qual scope f cd A outer s0 H0 E).xe { s1 with heap := h' }) E2 s' := by
 have hfr : (A.deeper (envOfC qual scope s0.heap.objs.size f cd)).frames = some (envOfC qual scope s0.heap.objs.size f cd :: outer) := I.ok.frames
 have un0 : Un (frs outer) [] H0 H s0.heap s.heap := I.base
 have eos : s.os = s0.os := I.os
 have fc : ∀ {b : Addr}, b ∈ frs (envOfC qual scope s0.heap.objs.size f cd :: outer) ↔ b = s0.heap.objs.size \/ b ∈ frs outer := fun {b} => gq rfl
 have hout : ∀ b ∈ frs outer, b < s0.heap.objs.size := fun b hb => by
  have fu : s0.heap.FunFrames base outer := I.ok.funs
  obtain ⟨_, o, ho, _⟩ := fu.mem hb
  exact Heap.lt_size ho
 have nCf : Cn ∉ frs (envOfC qual scope s0.heap.objs.size f cd :: outer) := fun z => by
  rcases fc.mp z with y | y
  ·rw [y] at hC0; exact Nat.lt_irrefl _ hC0
  ·exact absurd (Nat.lt_trans (hout _ y) hC0) (Nat.lt_irrefl _)
 obtain ⟨B, t, fl, kB⟩ := F.fly
 rw [fZ (e2 := envOfC qual scope s0.heap.objs.size f cd) hcf]
 refine wpAny_looks_onW hfr rfl fl fun h1 hh up1 => ?_
 obtain ⟨m, oC, es, ep, eC, hdC, rC⟩ := hns
 have eC' : s'.heap.get? Cn = some oC := F.un.keep Cn oC eC hCn nCf (by simp)
 have eCB : B.get? Cn = some oC := kB Cn oC eC' nCf (.inl ⟨_, eC⟩)
 have hC' : H' Cn = none := F.un.free Cn oC eC hCn (by simp)
 refine ⟨⟨m, oC, es, ep, hh.1 _ _ eCB, hdC, rC⟩, fun h2 sb cenv' _ => ?_⟩
 have toB : ∀ {b : Addr} {o : Obj}, (W.hideAll B [Cn]).get? b = some o -> B.get? b = some o := fun {b o} e => W.of_hideAll _ e
 have neC : ∀ {b : Addr} {o : Obj}, (W.hideAll B [Cn]).get? b = some o -> b ≠ Cn := fun {b o} e z => by
  subst z
  rw [W.hideAll_none [b] (by simp)] at e
  cases e
 have inB' : ∀ {b : Addr} {o : Obj}, B.get? b = some o -> b ≠ Cn -> (W.hideAll B [Cn]).get? b = some o := fun {b o} e z => W.hideAll_get _ e (by simpa using z)
 have same2 : ∀ b, b ≠ Cn -> h2.get? b = h1.get? b := fun b hb => sb.2 b hb
 have st2 : (W.hideAll B [Cn]).StaysIn h2 := fun b o e => (same2 b (neC e)).trans (hh.1 b o (toB e))
 have ff1 : h1.FunFrames (W.hideAll B [Cn]) (envOfC qual scope s0.heap.objs.size f cd :: outer) := W.funFrames_base (fun b o e => toB e) hh.2.2.1
 have ff2 : h2.FunFrames (W.hideAll B [Cn]) (envOfC qual scope s0.heap.objs.size f cd :: outer) := dR ff1 fun b hb => same2 b fun z => nCf (z ▸ hb)
 have neB : ∀ b, B.get? b = none -> b ≠ Cn := fun b e z => by rw [z, eCB] at e; cases e
 have hideN : ∀ b, B.get? b = none -> (W.hideAll B [Cn]).get? b = none := fun b e => by
  cases e2 : (W.hideAll B [Cn]).get? b with
  | none => rfl
  | some o => rw [toB e2] at e; cases e
 obtain ⟨oe, vs, T, oT, ts, a1, a2, a3, a4, a5, a6, a7, a8, a9⟩ := hh.2.2.2
 have tr2 : h2.TracedAtW (W.hideAll B [Cn]) ea C (.ref t) (rawInt s0.heap.objs.size) := ⟨oe, vs, T, oT, ts, (same2 ea (neB ea hh.2.1)).trans a1, a2, a3, a4, hideN T a5, a6, (same2 T (neB T a5)).trans a7, a8, a9⟩
 refine pN (s := { s' with heap := h2 }) (l := envOfC qual scope s0.heap.objs.size f cd :: outer) st2 ff2 tr2 fun h3 fl' st3 ff3 tr3 up3 => ?_
 show wpAny (model P w) (A.deeper (envOfC qual scope s0.heap.objs.size f cd)) (leaving (envOfC qual scope s0.heap.objs.size f cd) (.ref ea)) _ _ { s' with heap := h3 }
 refine kg (s := { s' with heap := h3 }) hfr rfl st3 (hideN ea hh.2.1) ff3 tr3 fun h4 fl4 up4 => ?_
 have out0 : ∀ b o, s0.heap.get? b = some o -> b ∉ frs outer -> b ∉ frs (envOfC qual scope s0.heap.objs.size f cd :: outer) := fun b o e hb z => by
  rcases fc.mp z with y | y
  ·exact absurd (Heap.lt_size e) (by rw [y]; exact Nat.lt_irrefl _)
  ·exact hb y
 have ne0 : ∀ b o, s0.heap.get? b = some o -> b ≠ Cn := fun b o e z => by
  subst z
  exact absurd (Nat.lt_trans (Heap.lt_size e) hC0) (Nat.lt_irrefl _)
 have un1 : Un (frs (envOfC qual scope s0.heap.objs.size f cd :: outer)) [] H0 H s0.heap s.heap := un0.mono (fun b hb => fc.mpr (.inr hb)) fun b hb => hb
 have un2 := un1.trans F.un
 have last : ∀ b o, s'.heap.get? b = some o -> b ∉ frs (envOfC qual scope s0.heap.objs.size f cd :: outer) -> b ≠ Cn -> ((∃ o', s.heap.get? b = some o') \/ H' b ≠ none) -> (W.hideAll B [Cn]).get? b = some o /\ h4.get? b = some o := fun b o e hb hc hk =>
  ⟨inB' (kB b o e hb hk) hc, fl4.1 b o (inB' (kB b o e hb hk) hc)⟩
 have slotL : ∀ b o, b ∈ frs outer -> s'.heap.get? b = some o -> ∃ l, h4.get? b = some { o with slots := l } := fun b o hb e => by
  obtain ⟨_, o', e', nf⟩ := fl.2.2.1.mem (fc.mpr (.inr hb))
  rw [e] at e'
  cases e'
  obtain ⟨l1, q1⟩ := up1 b o e nf
  have hbC : b ≠ Cn := fun z => nCf (fc.mpr (.inr (z ▸ hb)))
  have q2 := (same2 b hbC).trans q1
  obtain ⟨l3, q3⟩ := up3 b _ q2 nf
  obtain ⟨l4, q4⟩ := up4 b _ q3 nf
  exact ⟨l4, q4⟩
 refine ⟨ea, C, H', rfl, ⟨F.os.trans eos, F.bare, ⟨fun b o e n hb hx => ?_, fun b o e n hb hx => ?_, un2.free, fun b o e hx => ?_, un2.tups, un2.frzs, un2.tbls⟩, F.hok.stays fun b o u e e' => ?_, fun b hb => F.frf b (fc.mpr (.inr hb)), W.hideAll B [Cn], t, fl4, fun b o e hb hc => ?_⟩, q⟩
 ·obtain ⟨o1, e1⟩ := un0.there b o e (by simp)
  exact (last b o (un2.keep b o e n (out0 b o e hb) hx) (out0 b o e hb) (ne0 b o e) (.inl ⟨o1, e1⟩)).2
 ·obtain ⟨l, z⟩ := un2.slot b o e n (fc.mpr (.inr hb)) hx
  obtain ⟨l', z'⟩ := slotL b _ hb z
  exact ⟨l', z'⟩
 ·obtain ⟨o1, e1⟩ := un0.there b o e (by simp)
  obtain ⟨o2, e2⟩ := F.un.there b o1 e1 (by simp)
  by_cases hb : b ∈ frs outer
  ·obtain ⟨l', z'⟩ := slotL b _ hb e2
   exact ⟨_, z'⟩
  ·exact ⟨o2, (last b o2 e2 (out0 b o e hb) (ne0 b o e) (.inl ⟨o1, e1⟩)).2⟩
 ·refine (last b o e' (fun z => ?_) (fun z => ?_) (.inr (by rw [e]; simp))).2
  ·rw [F.frf b z] at e; cases e
  ·rw [z, hC'] at e; cases e
 ·rcases hc with ⟨o0, e0⟩ | z
  ·obtain ⟨o1, e1⟩ := un0.there b o0 e0 (by simp)
   obtain ⟨o2, e2⟩ := F.un.there b o1 e1 (by simp)
   obtain ⟨r1, r2⟩ := last b o2 e2 (out0 b o0 e0 hb) (ne0 b o0 e0) (.inl ⟨o1, e1⟩)
   rw [e] at r2
   cases r2
   exact r1
  ·cases e1 : H' b with
   | none => exact absurd e1 z
   | some u =>
    obtain ⟨o', z'⟩ := (F.hok b u e1).obj
    have nb : b ∉ frs (envOfC qual scope s0.heap.objs.size f cd :: outer) := fun y => by rw [F.frf b y] at e1; cases e1
    obtain ⟨r1, r2⟩ := last b o' z' nb (fun y => by rw [y, hC'] at e1; cases e1) (.inr z)
    rw [e] at r2
    cases r2
    exact r1
end
noncomputable def Aa (X : Cx) (E : XK) : Prop := ∀ {pins : yd} {σ : St} {H H' : Hp} {s s' : Shared} {ea Cn : Addr} {C : Value} {cenv : Env}, Inv X pins σ H s -> H Cn = none -> X.env.locals < Cn -> (∃ m, s.heap.Ns Cn m) -> Flew X.prog X.w X.stack H s H' ea C s' -> E C none H' -> cenv.frame = X.env.frame ->
 notedBy (model X.prog X.w) X.A cenv (fun x s1 => ∃ m, s1.heap.Ns Cn m /\ ∀ h', Heap.SameBut Cn s1.heap h' -> ∀ cenv' : Env, cenv'.locals = Cn -> wpAny (model X.prog X.w) X.A (PySem.passOn "comprehension.variables-let-go" x cenv' : Sem Value) (fun _ _ => False) X.xe { s1 with heap := h' }) (.ref ea) s'
theorem pO {P : Program} {w : World} {K : W.Frag} {mg : yc} {base : Heap} {N : List Str} {qual : Str} {scope : Scope} {f : Addr} {cd : Value} {A : Around} {outer : List Env} {s0 : Shared} {H0 : Hp} {E : XK} : Aa (cxE P w K mg base N qual scope f cd A outer s0 H0 E) E := by
 intro pins σ H H' s s' ea Cn C cenv I h1 h2 h3 F q hc
 refine wpAny_mono (AQ I h1 h2 h3 F q hc) (fun _ s1 ⟨⟨m, a⟩, b⟩ => ⟨m, a, b⟩) fun _ _ z => z
noncomputable def yF (X : Cx) (N : List Str) (scope : Scope) (cl : List (Str × Addr)) (C : Addr) (ex : List Addr) (s : Shared) (H : Hp) (E : XK) : Cx :=
 { yq X N scope cl C ex s H with xe := fun e s' => ∃ pl ρ H1 s1, Inv (yq X N scope cl C ex s H) pl ρ H1 s1 /\ CXe X.prog X.w X.stack H1 s1 E e s' }
theorem pP {X : Cx} {N : List Str} {scope : Scope} {cl : List (Str × Addr)} {C : Addr} {ex : List Addr} {s : Shared} {H : Hp} {E : XK} {pl : yd} {ρ : St} {H1 : Hp} {s1 : Shared} (I : Inv (yq X N scope cl C ex s H) pl ρ H1 s1) : Inv (yF X N scope cl C ex s H E) pl ρ H1 s1 :=
 ⟨⟨I.ok.mod, I.ok.kind, I.ok.glob, I.ok.blt, I.ok.above, I.ok.inj, I.ok.has, I.ok.cab, I.ok.hd, I.ok.frames, I.ok.stk, I.ok.exf, I.ok.bs, I.ok.bsz, I.ok.noex, I.ok.exfs, I.ok.funs, I.ok.frf⟩, I.os, I.bare, I.base, I.loc, I.cell, I.free, I.freeC, I.pin, I.hok, I.len⟩
theorem pQ {X : Cx} {N : List Str} {scope : Scope} {cl : List (Str × Addr)} {C : Addr} {ex : List Addr} {s : Shared} {H : Hp} {E : XK} {pl : yd} {ρ : St} {H1 : Hp} {s1 : Shared} (I : Inv (yF X N scope cl C ex s H E) pl ρ H1 s1) : Inv (yq X N scope cl C ex s H) pl ρ H1 s1 :=
 ⟨⟨I.ok.mod, I.ok.kind, I.ok.glob, I.ok.blt, I.ok.above, I.ok.inj, I.ok.has, I.ok.cab, I.ok.hd, I.ok.frames, I.ok.stk, I.ok.exf, I.ok.bs, I.ok.bsz, I.ok.noex, I.ok.exfs, I.ok.funs, I.ok.frf⟩, I.os, I.bare, I.base, I.loc, I.cell, I.free, I.freeC, I.pin, I.hok, I.len⟩
theorem AR {X : Cx} {N : List Str} {scope : Scope} {cl : List (Str × Addr)} {C : Addr} {ex : List Addr} {s : Shared} {H : Hp} {E : XK} : Passes (CXe X.prog X.w) (yF X N scope cl C ex s H E) E := fun pl ρ H1 s1 e s' I h => ⟨pl, ρ, H1, s1, pQ I, h⟩
section
variable {prog : Program} {w : World} {A : Around} {R : Result -> Shared -> Prop} {s : Shared}
theorem kh {elt tg iter : Expr} {ifs : List Expr} {scope : Scope} {pos : Pos} {it acc : Value} {env : Env} (W : Nat -> Shared -> Prop) (Xe : ye)
  (turn : ∀ n s, W n s -> wpAny (model prog w) A (pyNext it) (fun r s1 => match r with
   | none => R (.ok .next) s1
   | some v => wpAny (model prog w) A (letOwnedTupleGo tg it v) (fun _ s2 => wpAny (model prog w) A (assign tg env v) (fun _ s3 => wpAny (model prog w) A (zO ifs env) (fun ok s4 =>
     if ok = true then wpAny (model prog w) A (eval elt env) (fun x s5 => wpAny (model prog w) A (call (.builtin "list.append") [acc, x]) (fun _ s6 => ∃ m, m < n /\ W m s6) Xe s5) Xe s4
     else ∃ m, m < n /\ W m s4) Xe s3) Xe s2) Xe s1) Xe s)
  (exc : ∀ x s', Xe x s' -> notedBy (model prog w) A env (fun x s' => R (.error x) s') x s')
  (n : Nat) (h : W n s) : codeAny (model prog w) A (.compLoop (.ListComp elt [⟨tg, iter, ifs, 0⟩] scope pos) 0 it acc env) R s := by
 refine codeAny_loop rfl W (fun n s hI => ?_) n h
 show wpAny _ A ((compTurn (.ListComp elt [⟨tg, iter, ifs, 0⟩] scope pos) 0 it acc env).onRaise (fun x => do noteFrame x env; theTreesLotGoes x)) _ _ s
 refine wpAny_noted ?_
 rw [compTurn_list]
 refine wpAny_bind (wpAny_standAt (wpAny_bind (wpAny_mono (turn n s hI) (fun r s1 h1 => ?_) exc)))
 cases r with
 | none => exact wpAny_pure h1
 | some v =>
  refine wpAny_bind (wpAny_mono h1 (fun _ s2 h2 => ?_) exc)
  refine wpAny_bind (wpAny_mono h2 (fun _ s3 h3 => ?_) exc)
  refine wpAny_bind (wpAny_mono h3 (fun ok s4 h4 => ?_) exc)
  cases ok with
  | false => exact wpAny_pure ⟨rfl, h4⟩
  | true =>
   refine wpAny_bind (wpAny_bind (wpAny_mono h4 (fun x s5 h5 => ?_) exc))
   exact wpAny_bind (wpAny_mono h5 (fun _ s6 h6 => wpAny_pure (wpAny_pure ⟨rfl, h6⟩)) exc)
end
section
variable {X : Cx} {own N : List Str} {F : List Nat} {scope : Scope} {tg elt iter : Expr} {wi : TI} {g : TG} {tc : TT} {te : TE} {pos : Pos} {ifs : List Expr}
theorem ki {pins : yd} {s : Shared} {σ : St} {H : Hp} {Fin : List V -> Hp -> Prop} {use : Option (Value -> Sem Unit)} {Qv : ye} {cpos : Pos} {E : XK} (hxx : Aa X E) (S : yD X own F N scope) (hcm : X.calm = true) (hi : PI X tg iter wi) (hg : ∀ cl C ex s H, PG (yF X N scope cl C ex s H E) tg g)
  (ht : ∀ cl C ex s H, PTs (yF X N scope cl C ex s H E) ifs tc) (he : ∀ cl C ex s H, PE (yF X N scope cl C ex s H E) elt te) (hgw : Stays own.length F g) (hs : ∀ x, foldedSetIterable iter X.env x = pure x) (I : Inv X pins σ H s)
  (h : wi σ H fun J H1 => ∃ W : Nat -> Nat -> List V -> Hp -> Prop, (∃ m, W 0 m [] H1) /\ ∀ i m ys H2, W i m ys H2 -> (J.stop i H2 /\ Fin ys H2) \/
   (J.go i H2 /\ ∀ x H3, J.yld i H2 x H3 -> g x (rho own.length F σ) H3 fun ρ H4 => tc ρ H4 fun b H5 => if b = true then te ρ H5 fun v H6 => ys.length < sizeLine /\ ∃ m', m' < m /\ W (i + 1) m' (ys ++ [v]) H6 else ∃ m', m' < m /\ W (i + 1) m' ys H5))
  (fin : ∀ D C ys H' s', Fin ys H' -> H' D = none -> Inv X pins σ (upd H' D (.lst ys)) s' -> Beside X pins (upd H' D (.lst ys)) C -> (∃ m, s'.heap.Ns C m) -> compPost (model X.prog X.w) X.A X.xe use Qv (.ref D) C (.ok .next) s') :
  wpAny (model X.prog X.w) X.A (comprehension (.ListComp elt [⟨tg, iter, ifs, 0⟩] scope pos) scope X.env cpos (newList []) false (eval iter X.env) use) Qv X.xe s := by
 obtain ⟨cl, hcl, c1, c2⟩ := gn (scope := scope) (env := X.env) fun y hy hf => I.ok.has _ (S.free y hy hf)
 refine wpAny_comprehension_free (use := use) rfl hs hcl S.kind S.loc (thn (hi pins s σ H _ I h) fun x s1 h1 => thn h1 fun itv s2 h2 => ?_)
 obtain ⟨it, fp, tn, J, H2, e, I2, T, st2, f2, W, ⟨m0, w0⟩, turn⟩ := h2
 subst e
 refine wpAny_newObj_type (wpAny_newFunctionEnv S.nocell (fun y hy => absurd hy (by simp)) (fun h4 hns hsb => ?_) S.kind)
 dsimp only at hns hsb ⊢
 generalize eP : s2.heap.push { cls := .type "list", dict := none, data := .seq ([] : List Value).toArray } = hp3 at hns hsb ⊢
 have hD : hp3.objs.size = s2.heap.objs.size + 1 := by rw [<- eP, Heap.size_push]
 generalize eD : s2.heap.objs.size = D at hD ⊢
 generalize eC : hp3.objs.size = C at hns hsb hD ⊢
 have k23 : ∀ b o, s2.heap.get? b = some o -> hp3.get? b = some o := fun b o q => by rw [<- eP]; exact Heap.get?_push_of_some _ q
 have ltD : ∀ {b : Addr} {o : Obj}, s2.heap.get? b = some o -> b < D := fun {b o} q => by rw [<- eD]; exact Heap.lt_size q
 have k34 : ∀ b o, hp3.get? b = some o -> h4.get? b = some o := fun b o q => hsb.extBut b o (Nat.ne_of_lt (by rw [<- eC]; exact Heap.lt_size q)) (Heap.get?_push_of_some _ q)
 have oD3 : hp3.get? D = some { cls := .type "list", dict := none, data := .seq ([] : List Value).toArray } := by rw [<- eP, <- eD]; exact Heap.get?_push_size _ rfl
 have I3 : Inv X pins σ H2 { s2 with heap := hp3 } := I2.kept (t' := s2.toks) k23
 have fD : FpOk X pins H2 D := I2.fpOk (by rw [eD]; exact Nat.le_refl _) (I2.hok.fresh (by rw [eD]; exact Nat.le_refl _))
 have f3 : ∀ b ∈ D :: fp, FpOk X pins H2 b := fun b hb => by
  rcases List.mem_cons.mp hb with z | z
  ·subst z; exact fD
  ·exact f2 b z
 have ltf : ∀ b ∈ fp, b < D := fun b hb => by
  obtain ⟨o, q, _⟩ := T.obj _ _ st2 b hb
  exact ltD q
 have lt3 : ∀ b ∈ D :: fp, b < ({ s2 with heap := hp3 } : Shared).heap.objs.size := fun b hb => by
  show b < hp3.objs.size
  rw [eC, hD]
  rcases List.mem_cons.mp hb with z | z
  ·subst z; exact Nat.lt_succ_self _
  ·exact Nat.lt_succ_of_lt (ltf b z)
 have I4 := jc (N := N) S I3 f3 c1 c2 (C := C) (by show hp3.objs.size <= C; lia) lt3 (h' := h4) (tk := s2.toks + ([] : List (Str × Value)).length) k34 hns
 replace I4 := pP (E := E) I4
 generalize eX : yF X N scope cl C (D :: fp) { s2 with heap := hp3 } H2 E = X' at I4
 have hX'loc : X'.env.locals = C := by rw [<- eX]; rfl
 have hX'fs : X'.fs = frs X.stack := by rw [<- eX]; rfl
 have nfD : D ∉ X'.fs := fun z => by
  rw [hX'fs] at z
  rcases List.mem_cons.mp (I2.stkSub D z) with q | q
  ·exact fD.2.1 q
  ·exact fD.2.2.1 q
 have nLD : D ≠ X'.env.locals := by rw [hX'loc, hD]; exact Nat.ne_of_lt (Nat.lt_succ_self _)
 have pinD : ∀ {H' : Hp} {s' : Shared} {σ' : St} {pl : yd} {its : List Value} {k : Nat}, Inv X' pl σ' H' s' -> H' D = none -> s'.heap.get? D = some { cls := .type "list", data := .seq its.toArray k } ->
   Inv X' [(D, { cls := .type "list", data := .seq its.toArray k })] σ' H' s' := fun {H' s' σ' pl its k} J hn q => J.pins_of fun p hp => by
  have : p = (D, { cls := .type "list", data := .seq its.toArray k }) := by simpa using hp
  subst this
  exact ⟨q, hn, nLD, nfD, fun v z => by cases z⟩
 have stat : ∀ {H' : Hp} {its : List Value} {k : Nat}, (∀ b ∈ fp, H' b = none) -> ∀ b ∈ fp, FpOk X' [(D, { cls := .type "list", data := .seq its.toArray k })] H' b := fun {H' its k} hn b hb => by
  refine ⟨hn b hb, ?_, fun z => ?_, .inl ?_, fun x c q => ?_, fun p hp => ?_⟩
  ·rw [hX'loc, hD]; exact Nat.ne_of_lt (Nat.lt_succ_of_lt (ltf b hb))
  ·rw [hX'fs] at z
   rcases List.mem_cons.mp (I2.stkSub b z) with q | q
   ·exact (f2 b hb).2.1 q
   ·exact (f2 b hb).2.2.1 q
  ·rw [<- eX]; exact List.mem_cons_of_mem _ hb
  ·rw [<- eX] at q
   exact (f2 b hb).2.2.2.2.1 x c (c1 x c q)
  ·have hpn : X'.pn = [] := by rw [<- eX]; rfl
   rw [hpn] at hp
   have : p = (D, { cls := .type "list", data := .seq its.toArray k }) := by simpa using hp
   subst this
   exact fun z => Nat.lt_irrefl b (Nat.lt_of_lt_of_eq (ltf b hb) z)
 let Wn : Nat -> Shared -> Prop := fun n s' => ∃ i ys its k H', Inv X' [(D, { cls := .type "list", data := .seq (List.toArray its) k })] (rho own.length F σ) H' s' /\ Vals ys its /\ ys.length <= sizeLine /\ tn i s'.heap /\ (∀ b ∈ fp, H' b = none) /\ W i n ys H'
 have start : Wn m0 { s2 with heap := h4, toks := s2.toks + ([] : List (Str × Value)).length } :=
  ⟨0, [], [], 0, H2, pinD I4 fD.1 (k34 _ _ oD3), .nil, Nat.zero_le _, T.keep _ _ _ st2 (fun b _ o q => k34 b o (k23 b o q)), fun b hb => (f2 b hb).1, w0⟩
 have loop : ∀ s' : Shared, Wn m0 s' -> codeAny (model X.prog X.w) X.A (.compLoop (.ListComp elt [⟨tg, iter, ifs, 0⟩] scope pos) 0 (.ref it) (.ref D) X'.env) (compPost (model X.prog X.w) X.A X.xe use Qv (.ref D) C) s' := by
  intro s' hs'
  refine kh Wn X'.xe ?_ (fun x s6 hx => ?_) m0 hs'
  rotate_left
  ·rw [<- eX] at hx
   obtain ⟨pl, ρ, H1, s1, I1, ea, Cv, H', rfl, F, q⟩ := hx
   have u6 : Un (frs X.stack) (D :: fp) H2 H1 hp3 s1.heap := I1.base
   have nin : ∀ {b : Addr} {o : Obj}, s2.heap.get? b = some o -> b ∉ fp -> b ∉ D :: fp := fun {b o} q hb z => by
    rcases List.mem_cons.mp z with y | y
    ·exact Nat.ne_of_lt (ltD q) y
    ·exact hb y
   have u8 : Un (frs X.stack) fp H2 H1 s2.heap s1.heap :=
    ⟨fun b o q n x y => u6.keep b o (k23 b o q) n x (nin q y), fun b o q n x y => u6.slot b o (k23 b o q) n x (nin q y), fun b o q n y => u6.free b o (k23 b o q) n (nin q y), fun b o q y => u6.there b o (k23 b o q) (nin q y), u6.tups, u6.frzs, u6.tbls⟩
   have J : Inv X pins σ H1 s1 := I2.call' (s' := s1) (ch := fp) I1.os u8 I1.hok I1.bare fun b hb => ⟨(f2 b hb).2.2.2.1, (f2 b hb).2.1, (f2 b hb).2.2.2.2.1, (f2 b hb).2.2.2.2.2⟩
   obtain ⟨m6, hn6, _⟩ := I1.loc
   have hlt : X.env.locals < C := by
    have := I2.lt
    rw [eD] at this
    rw [hD]
    exact Nat.lt_succ_of_lt this
   exact hxx J I1.free hlt ⟨m6, hn6⟩ F q (cenv := X'.env) (by rw [<- eX]; rfl)
  rintro n s5 ⟨i, ys, its, k, H5, I5, rv5, z5, st5, fr5, w5⟩
  have ePr : X'.prog = X.prog := by rw [<- eX]; rfl
  have ew : X'.w = X.w := by rw [<- eX]; rfl
  have eK : X'.K = X.K := by rw [<- eX]; rfl
  have eA : X'.A = X.A := by rw [<- eX]; rfl
  have ecm : X'.calm = true := by rw [<- eX]; exact hcm
  rcases turn i n ys H5 w5 with ⟨stop, qn⟩ | ⟨go, step⟩
  ·have td := T.done X' ePr ew eK ecm i _ s5 _ H5 X'.xe I5 (stat fr5) st5 stop
   rw [eA] at td
   refine thn td fun r s6 ⟨hr, I6⟩ => ?_
   subst hr
   show compPost (model X.prog X.w) X.A X.xe use Qv (.ref D) C (.ok .next) s6
   obtain ⟨m6, hn6, _⟩ := I6.loc
   have oD6 := (I6.pin (D, { cls := .type "list", data := .seq its.toArray k }) (List.mem_append_right _ (List.mem_cons_self ..))).1
   have nD6 : H5 D = none := (I6.pin (D, { cls := .type "list", data := .seq its.toArray k }) (List.mem_append_right _ (List.mem_cons_self ..))).2.1
   have nC6 : H5 C = none := by rw [<- hX'loc]; exact I6.free
   have u6 : Un (frs X.stack) (D :: fp) H2 H5 hp3 s6.heap := by
    have := I6.base
    rw [hX'fs] at this
    rw [<- eX] at this
    exact this
   have hok7 : HOk X.prog X.w H5 s6.heap := by
    have := I6.hok
    rw [ePr, ew] at this
    exact this
   have neD : ∀ {b : Addr} {o : Obj}, s2.heap.get? b = some o -> b ≠ D := fun {b o} q => Nat.ne_of_lt (ltD q)
   have nin : ∀ {b : Addr} {o : Obj}, s2.heap.get? b = some o -> b ∉ fp -> b ∉ D :: fp := fun {b o} q hb z => by
    rcases List.mem_cons.mp z with y | y
    ·exact neD q y
    ·exact hb y
   have u8 : Un (frs X.stack) fp H2 (upd H5 D (.lst ys)) s2.heap s6.heap :=
    ⟨fun b o q n x y => u6.keep b o (k23 b o q) n x (nin q y), fun b o q n x y => u6.slot b o (k23 b o q) n x (nin q y), fun b o q n y => by rw [ak (neD q)]; exact u6.free b o (k23 b o q) n (nin q y),
     fun b o q y => u6.there b o (k23 b o q) (nin q y), fun b xs q => by
      have q' := u6.tups b xs q
      rw [ak (ar q' nD6)]; exact q', fun b o u q => by
      have q' := u6.frzs b o u q
      rw [ak (ar q' nD6)]; exact q', fun b ps q => by
      obtain ⟨more, q'⟩ := u6.tbls b ps q
      exact ⟨more, by rw [ak (ar q' nD6)]; exact q'⟩⟩
   have hos : s6.os = s2.os := by
    have := I6.os
    rw [<- eX] at this
    exact this
   have J : Inv X pins σ (upd H5 D (.lst ys)) s6 :=
    I2.call' (s' := s6) (ch := fp) hos u8 (hok7.track nD6 ⟨z5, its, k, rv5, oD6⟩) I6.bare fun b hb => ⟨(f2 b hb).2.2.2.1, (f2 b hb).2.1, (f2 b hb).2.2.2.2.1, (f2 b hb).2.2.2.2.2⟩
   have fC : FpOk X pins (upd H5 D (.lst ys)) C := I2.fpOk (by rw [eD, hD]; exact Nat.le_succ _) (by rw [ak (by rw [hD]; exact Nat.ne_of_gt (Nat.lt_succ_self _))]; exact nC6)
   exact fin D C ys H5 s6 qn nD6 J ⟨fC.1, fC.2.1, fC.2.2.2.1, fC.2.2.2.2.1, fC.2.2.2.2.2⟩ ⟨m6, by rw [<- hX'loc]; exact hn6⟩
  ·have ti := T.item X' ePr ew eK ecm i _ s5 _ H5 X'.xe I5 (stat fr5) st5 go
   rw [eA] at ti
   refine thn ti fun r s6 ⟨u, hr, h6⟩ => ?_
   subst hr
   refine thn h6 fun _ s7 ⟨x, H7, I7, r7, y7, st7, fr7⟩ => ?_
   have I7' := I7.pinned (stat fr7) (T.obj _ _ st7)
   have hg' : PG X' tg g := by rw [<- eX]; exact hg _ _ _ _ _
   have ht' : PTs X' ifs tc := by rw [<- eX]; exact ht _ _ _ _ _
   have he' : PE X' elt te := by rw [<- eX]; exact he _ _ _ _ _
   have sg := hg' _ s7 _ H7 x u _ I7' r7 (hgw x σ H7 _ (step x H7 y7))
   rw [ePr, ew, eA] at sg
   refine thn sg fun _ s8 ⟨ρ8, H8, I8, q8', q8⟩ => ?_
   have stt := ht' _ s8 ρ8 H8 _ I8 q8
   rw [ePr, ew, eA] at stt
   refine thn stt fun ok s9 ⟨H9, I9, q9⟩ => ?_
   have hw8 : ρ8.length = (rho own.length F σ).length /\ ∀ (j : Nat) v, (rho own.length F σ)[j]? = some (some v) -> ρ8[j]? = some (some v) := q8'
   have onward : ∀ {s' : Shared} {ρ : St} {H' : Hp} {ys' : List V} {its' : List Value} {k' : Nat}, ρ.length = (rho own.length F σ).length -> (∀ (j : Nat) v, (rho own.length F σ)[j]? = some (some v) -> ρ[j]? = some (some v)) ->
     Inv X' (yW fp s7.heap) ρ H' s' -> H' D = none -> s'.heap.get? D = some { cls := .type "list", data := .seq its'.toArray k' } -> Vals ys' its' -> ys'.length <= sizeLine -> (∃ m', m' < n /\ W (i + 1) m' ys' H') -> ∃ m, m < n /\ Wn m s' :=
    fun {s' ρ H' ys' its' k'} hl hw J hn ho rv hz ⟨m', hm, w'⟩ => by
     refine ⟨m', hm, i + 1, ys', its', k', H', (pinD J hn ho).weak hl.symm hw, rv, hz, T.keep _ _ _ st7 fun b hb o e => (J.pin (b, o) (List.mem_append_right _ (bU hb e))).1, fun b hb => ?_, w'⟩
     obtain ⟨o, e, _⟩ := T.obj _ _ st7 b hb
     exact (J.pin (b, o) (List.mem_append_right _ (bU hb e))).2.1
   have noD : ∀ {ρ : St} {H' : Hp} {s' : Shared}, Inv X' ([(D, { cls := .type "list", data := .seq its.toArray k })] ++ yW fp s7.heap) ρ H' s' -> Inv X' (yW fp s7.heap) ρ H' s' /\ H' D = none /\ s'.heap.get? D = some { cls := .type "list", data := .seq its.toArray k } :=
    fun {ρ H' s'} J => by
     have pD := J.pin (D, { cls := .type "list", data := .seq its.toArray k }) (List.mem_append_right _ (List.mem_append_left _ (List.mem_cons_self ..)))
     exact ⟨J.pins_of fun p hp => J.pin p (List.mem_append_right _ (List.mem_append_right _ hp)), pD.2.1, pD.1⟩
   cases ok with
   | false =>
    obtain ⟨J, n9, o9⟩ := noD I9
    have q9' : ∃ m', m' < n /\ W (i + 1) m' ys H9 := by simpa using q9
    show ∃ m, m < n /\ Wn m s9
    exact onward hw8.1 hw8.2 J n9 o9 rv5 z5 q9'
   | true =>
    have q9' : te ρ8 H9 fun v H6 => ys.length < sizeLine /\ ∃ m', m' < n /\ W (i + 1) m' (ys ++ [v]) H6 := by simpa using q9
    have se := he' _ s9 ρ8 H9 _ I9 q9'
    rw [ePr, ew, eA] at se
    refine thn se fun uv s10 ⟨v, H10, I10, rv, hz, qm⟩ => ?_
    obtain ⟨J, n10, o10⟩ := noD I10
    have hlen := rv5.length
    refine call_meets PySem.F.slot_list_append ⟨_, o10, rfl⟩ PySem.F.entry_list_append (PySem.F.args_list_append_2 _ _) (PySem.list_append D its.toArray k uv (by rw [List.size_toArray]; lia)) ⟨o10, ?_⟩
    have oN := PySem.IsL.update o10 (·.push uv)
    rw [show its.toArray.push uv = (its ++ [uv]).toArray by simp] at oN
    have kN : ∀ b o, b ≠ D -> s10.heap.get? b = some o -> (s10.heap.update D (Obj.mapSeq (·.push uv))).get? b = some o := fun b o hb q => (Heap.get?_update_other _ _ (Ne.symm hb)).trans q
    have JN := J.turned (t' := s10.toks) (it := D) kN n10 nLD (.inl (by rw [<- eX]; exact List.mem_cons_self ..)) (fun x c q => by
     rw [<- eX] at q
     exact fD.2.2.2.2.1 x c (c1 x c q)) (fun p hp => by
     have hpn : X'.pn = [] := by rw [<- eX]; rfl
     rw [hpn] at hp
     exact Nat.ne_of_lt (ltf p.1 (fz (by simpa using hp)).1))
    refine onward hw8.1 hw8.2 JN n10 (its' := its ++ [uv]) oN (rv5.append (.cons rv .nil)) (by rw [List.length_append, List.length_singleton]; lia) qm
 have fin := loop _ start
 rw [show X'.env = compEnvC scope cl C X.env by rw [<- eX]; rfl] at fin
 exact codeAny_compStart_list fin (T.self X.A 0 _ _ _ (T.keep _ _ _ st2 (fun b _ o q => k34 b o (k23 b o q))) fin)
theorem nM {E : XK} (hxx : Aa X E) (S : yD X own F N scope) (hcm : X.calm = true) (hi : PI X tg iter wi) (hg : ∀ cl C ex s H, PG (yF X N scope cl C ex s H E) tg g) (ht : ∀ cl C ex s H, PTs (yF X N scope cl C ex s H E) ifs tc)
  (he : ∀ cl C ex s H, PE (yF X N scope cl C ex s H E) elt te) (hgw : Stays own.length F g) (hs : ∀ x, foldedSetIterable iter X.env x = pure x := by intro _; rfl) : PE X (.ListComp elt [⟨tg, iter, ifs, 0⟩] scope pos) (zA own.length F wi g tc te) := by
 intro pins s σ H Q I h
 rw [eval_ListComp]
 refine ki (use := none) (Fin := fun ys H2 => ∀ D, H2 D = none -> Q (.ref D) (upd H2 D (.lst ys))) hxx S hcm hi hg ht he hgw hs I h fun D C ys H' s' q hD J B ⟨m, hn⟩ => ?_
 exact ⟨m, hn, fun h' hs' => ⟨.ref D, _, J.beside B hs', rfl, q D hD⟩⟩
end
variable [Tabs]
noncomputable def yZ (ρ : DEnv) (te : DE) : yb -> Out yb
 | [] => .ok []
 | d :: ds => (vE te (ρ.set 0 (some (.sh d)))).bind fun q => (yZ ρ te ds).bind fun r => .ok (q.1 :: r)
noncomputable def zV (F : List Nat) (p : yb × DEnv × DEnv) : Out yb -> Out (SD × DEnv)
 | .ok ys => .ok (.ol ys, if yh ys = true then p.2.1 else yk F p.2.2)
 | .exc x => .exc x
 | .bad => .bad
noncomputable def zH (F : List Nat) (fc : DC) (te : DE) : DE := fun δ => (fc δ).bind fun p => if p.1.length <= sizeLine then zV F p (yZ (rhoD F (yk F p.2.2)) te p.1) else .bad
@[simp] theorem tj (ρ : DEnv) (te : DE) : yZ ρ te [] = .ok [] := rfl
@[simp] theorem wx (F : List Nat) (p : yb × DEnv × DEnv) (ys : yb) : zV F p (.ok ys) = .ok (.ol ys, if yh ys = true then p.2.1 else yk F p.2.2) := rfl
@[simp] theorem uJ (F : List Nat) (p : yb × DEnv × DEnv) (x : Str) : zV F p (.exc x) = .exc x := rfl
@[simp] theorem uK (F : List Nat) (fc : DC) (te : DE) (δ : DEnv) : zH F fc te δ = (fc δ).bind fun p => if p.1.length <= sizeLine then zV F p (yZ (rhoD F (yk F p.2.2)) te p.1) else .bad := rfl
noncomputable def Joins (es : yb) (r0 : Out yb) : Out yb -> Prop
 | .ok rest => r0 = .ok (es ++ rest)
 | .exc x => r0 = .exc x
 | .bad => r0 = .bad
theorem pR {K : W.Frag} {mg : yc} {E : XK} {F : List Nat} {fc : DC} {te : DE} {σ : St} {H : Hp} {Q : VK} (h : tE K mg E (zH F fc te) σ H Q) : zA 1 F (tIC K mg E fc) (z0 0) (tT K mg E yB) (tE K mg E te) σ H Q := by
 obtain ⟨G0, H0, G, δ, R, m⟩ := h
 refine ⟨G0, H0, G, δ, R, ?_⟩
 unfold zH at m
 cases e : fc δ with
 | exc x => rw [e] at m; exact m
 | bad => rw [e] at m; exact m
 | ok p =>
  rw [e, Out.bind_ok] at m
  intro J H1 G1 G2 l R1 s1 R2 L W
  split at m
  next hsz =>
   obtain ⟨G3, l3, R3, L3⟩ := R2.relA F
   have L13 := L.trans L3
   have ho : ∀ j ∈ F, ∀ sd, (yk F p.2.2)[j]? = some (some sd) -> ¬ sd.owned := fun j hj sd e => ef F hj e
   generalize hρ : rhoD F (yk F p.2.2) = ρ at m
   generalize er0 : yZ ρ te p.1 = r0 at m
   refine ⟨fun i mm ys H2 => ∃ G4 es, Grow G3 H1 G4 H2 /\ Dts K G4 ys es /\ i + mm = p.1.length /\ ys.length <= i /\ Joins es r0 (yZ ρ te (p.1.drop i)), ⟨p.1.length, G3, [], .refl R3.g.gh, .nil, Nat.zero_add _, Nat.le_refl _, ?_⟩, ?_⟩
   ·rw [List.drop_zero, er0]
    cases r0 <;> rfl
   rintro i mm ys H2 ⟨G4, es, g4, hys, him, hyl, hc⟩
   obtain ⟨w1, w2⟩ := W i G4 H2 (L3.ext.trans g4.gg) g4.gh
   cases hd : p.1[i]? with
   | none =>
    have hi : p.1.length <= i := List.getElem?_eq_none_iff.mp hd
    refine .inl ⟨w2 hi, fun D hD => ?_⟩
    rw [List.drop_eq_nil_of_le hi] at hc
    have hc' : r0 = .ok es := by
     have : r0 = .ok (es ++ []) := hc
     rwa [List.append_nil] at this
    rw [hc'] at m
    have gD : Grow G3 H1 G4 (upd H2 D (.lst ys)) := g4.trans (.laidO g4.gh hD)
    have vn : VN K mg H1 G4 (upd H2 D (.lst ys)) (.ref D) (.ol es) := ⟨⟨D, ys, rfl, g4.gh.free hD, ay, hys⟩, fun _ a ea => by cases ea; exact g4.hh.free hD⟩
    unfold zV at m
    dsimp only at m
    by_cases hp : yh es = true
    ·rw [if_pos hp] at m
     obtain ⟨G5, gr5, vn5⟩ := L13.back R1 R3.g.gh gD vn hp
     exact m _ _ G5 (R1.grow gr5) (s1.trans gr5.gg) (RR.of_new R1 vn5)
    ·rw [if_neg hp] at m
     exact m _ _ G4 (R3.grow gD) ((s1.trans L13.ext).trans g4.gg) (RR.of_new R3 vn)
   | some d =>
    have hi : i < p.1.length := (List.getElem?_eq_some_iff.mp hd).1
    obtain ⟨go, yl⟩ := w1 d hd
    have ed : p.1.drop i = d :: p.1.drop (i + 1) := by
     rw [List.drop_eq_getElem_cons hi]
     congr 1
     exact Option.some.inj ((List.getElem?_eq_getElem hi).symm.trans hd)
    rw [ed] at hc
    unfold yZ at hc
    refine .inr ⟨go, fun x H3 hy => ?_⟩
    obtain ⟨G5, g5, dx⟩ := yl x H3 hy
    have g35 := g4.trans g5
    have Rr := kQ (F := F) R3 ho g35
    rw [hρ] at Rr
    have hz : 0 < (rho 1 F σ).length := by rw [g7]; omega
    have Rs := Rr.store hz (r := .sh d) (v := x) (RR.sh dx)
    show tT K mg E yB ((rho 1 F σ).set 0 (some x)) H3 _
    refine ⟨G3, H1, G5, ρ.set 0 (some (.sh d)), Rs, ?_⟩
    intro H6 G6 R6 s6
    rw [if_pos rfl]
    refine ng R6 ?_
    show PoD K mg E G3 H1 G6 _ _ (vE te (ρ.set 0 (some (.sh d))))
    cases e2 : vE te (ρ.set 0 (some (.sh d))) with
    | bad =>
     rw [e2] at hc
     have hc' : r0 = .bad := hc
     rw [hc'] at m
     exact m.elim
    | exc y =>
     rw [e2] at hc
     have hc' : r0 = .exc y := hc
     rw [hc'] at m
     have m' : PoX mg E H0 y := m
     exact fun H' C hs hm => m' H' C (R3.g.hh.trans hs) hm
    | ok u =>
     rw [e2, Out.bind_ok] at hc
     intro v H7 G7 R7 s7 hv
     refine ⟨by omega, mm - 1, by omega, G7, es ++ [u.1], R7.g, (hys.mono ((g5.gg.trans s6).trans s7)).append (.cons hv .nil), by omega, by rw [List.length_append, List.length_singleton]; omega, ?_⟩
     cases e3 : yZ ρ te (p.1.drop (i + 1)) with
     | ok rest =>
      rw [e3, Out.bind_ok] at hc
      have hc' : r0 = .ok (es ++ u.1 :: rest) := hc
      show r0 = .ok (es ++ [u.1] ++ rest)
      rw [hc', List.append_assoc]
      rfl
     | exc y => rw [e3] at hc; exact hc
     | bad => rw [e3] at hc; exact hc
  next => exact m.elim
section
variable {X : Cx} {E : XK} {N0 : List Str} {sc0 scope : Scope} {x : Str} {elt iter : Expr} {fc : DC} {te : DE} {pos px : Pos} {F : List Nat}
theorem nN (hxx : Aa X E) (hok : yX N0 sc0 x scope = true) (hF : za N0 scope = F) (hi : SIC X E (.Name x px) iter fc) (he : ∀ cl C ex s H, PE (yF X (x :: yr scope) scope cl C ex s H E) elt (tE X.K X.mg E te)) (hN : X.N = N0 := by rfl)
  (hsc : X.env.scope = sc0 := by rfl) (hcm : X.calm = true := by rfl) (hs : ∀ x, foldedSetIterable iter X.env x = pure x := by intro _; rfl) : SE X E (.ListComp elt [⟨.Name x px, iter, [], 0⟩] scope pos) (zH F fc te) := by
 subst hF
 obtain ⟨S, nd⟩ := dZ hN hsc hok
 have hl : scope.names.lookup x = some .local := by
  unfold yX at hok
  simp only [Bool.and_eq_true, beq_iff_eq] at hok
  exact hok.2
 exact (nM hxx S hcm hi (fun cl C ex s H => g6 nd (cC fB) (.inl (lookup_relabel_local hl)) (.inr (lookup_relabel_local hl))) (fun cl C ex s H => df (E := E)) he (dY Nat.one_pos) hs).weak fun _ _ _ h => pR h
end
noncomputable def zW : List Expr -> Option (List Str)
 | [] => some []
 | .Constant (.str s) _ _ :: r => (zW r).map (s :: ·)
 | _ => none
theorem lb {X : Cx} {E : XK} : ∀ (es : List Expr) {ss : List Str}, zW es = some ss -> PA X es (tOs X.K X.mg E (ss.map fun s => Opd.ex (eC (.str s))))
 | [], ss, h => by cases h; exact aj
 | e :: r, ss, h => by
  unfold zW at h
  split at h
  next h1 => cases h1
  next s k p r' h1 =>
   cases h1
   obtain ⟨ss', h', rfl⟩ := Option.map_eq_some_iff.mp h
   exact aa (ae bV) (lb r h') rfl
  next => cases h
theorem pT {X : Cx} {E : XK} {es : List Expr} {ops : List Opd} {pos : Pos} {ss : List Str} (h1 : zW es = some ss) (h2 : ops = ss.map fun s => Opd.ex (eC (.str s))) : SE X E (.List es pos) (eOp dLst ops) := by
 subst h2
 exact e6 (lb es h1)
@[irreducible] def QE (X : Cx) (E : XK) (e : Expr) (f : DE) : Prop := SE X E e f
@[irreducible] def QO (X : Cx) (E : XK) (e : Expr) (o : Opd) : Prop := SO X E e o
@[irreducible] def QS (X : Cx) (E : XK) (st : Stmt) (f : DS) : Prop := S1 X E st f
@[irreducible] def QSS (X : Cx) (E : XK) (st : List Stmt) (f : DS) : Prop := SS X E st f
section
variable {X : Cx} {E : XK} {a b e c : Expr} {f g fe : DE} {oa ob o : Opd} {pos pos' : Pos} {st : Stmt} {rest body body2 : List Stmt} {fs gs : DS} {tf : DT} {x : Str}
theorem QE.of (h : SE X E e f) : QE X E e f := by unfold QE; exact h
theorem QE.out (h : QE X E e f) : SE X E e f := by unfold QE at h; exact h
theorem QO.of (h : SO X E e o) : QO X E e o := by unfold QO; exact h
theorem QO.out (h : QO X E e o) : SO X E e o := by unfold QO at h; exact h
theorem QS.of (h : S1 X E st fs) : QS X E st fs := by unfold QS; exact h
theorem QS.out (h : QS X E st fs) : S1 X E st fs := by unfold QS at h; exact h
theorem QSS.of (h : SS X E rest fs) : QSS X E rest fs := by unfold QSS; exact h
theorem QSS.out (h : QSS X E rest fs) : SS X E rest fs := by unfold QSS at h; exact h
theorem tm (h : QE X E e f) : QO X E e (.ex f) := .of (ae h.out)
theorem qK {es : List Expr} {ops : List Opd} {ss : List Str} (h1 : zW es = some ss) (h2 : ops = ss.map fun s => Opd.ex (eC (.str s))) : QE X E (.List es pos) (eOp dLst ops) := .of (pT h1 h2)
theorem qM (ha : QO X E a oa) (hb : QO X E b ob) : QE X E (.BinOp a .Add b pos) (eOp dAdd [oa, ob]) := .of (aI ha.out hb.out)
theorem wy (hu : X.A.units + 64 < cLine) (ha : QO X E a oa) (hb : QO X E b ob) (hp : zy b := by intro _ _; rfl) : QE X E (.Subscript a b pos) (eOp yE [oa, ob]) := .of (cb hu ha.out hb.out hp)
theorem tq (he : QE X E e fe) : QS X E (.Return (some e) pos) (sRet fe) := .of (av he.out)
theorem wz (hc : ST X E c tf) (ha : QSS X E body fs) (hb : QSS X E body2 gs) : QS X E (.If c body body2 pos) (sIf tf fs gs) := .of (aY hc ha.out hb.out)
theorem tu (i : Nat) (hN : X.N.Nodup) (he : QE X E e fe) (hi : X.N[i]? = some x := by rfl) (hx : Loc X.env.scope x := by first | exact Or.inl rfl | exact Or.inr rfl) (hs : swapsWith e (some (.Name x pos')) pos.line X.env = pure false := by rfl)
  (hf : X.fn x = true \/ X.env.scope.names.lookup x = some .local := by first | exact .inl rfl | exact .inr rfl | assumption) : QS X E (.Assign [.Name x pos'] e pos) (sAsg i fe) := .of (au i hN he.out hi hx hs hf)
theorem pU : QSS X E [] yp := .of aF
theorem lg (h : QS X E st fs) : QSS X E [st] fs := .of (ai h.out)
theorem cF (h1 : QS X E st fs) (h2 : QSS X E rest gs) : QSS X E (st :: rest) (sSeq fs gs) := .of (ah h1.out h2.out)
end
noncomputable section
noncomputable def cq : Str -> Bool := fun y => [("NoText" : Str)].contains y
noncomputable def bH : Str -> Bool := fun y => [("NoText" : Str)].contains y
noncomputable def bx : Str -> Bool := fun y => [("NoText" : Str)].contains y
noncomputable def ei : DS := sRet (eAnd (eOp (dIsi "int") [.nm 0]) (eNot (eOp (dIsi "bool") [.nm 0])))
def bz : yb -> Out SD := runB 1 1 ei
noncomputable def bX : DS := sRet (eAnd (yj bz [.nm 0]) (eAnd (eOp dGe [.nm 0, .ex (eC (.int 1))]) (eOp dLe [.nm 0, .nm 1])))
def aO : yb -> Out SD := runB 2 2 bX
noncomputable def bo : DS := sSeq (sIf (yK (tstO (.ex (yj bz [.nm 3])))) (sRet (eC (.bool false))) (yp)) (sSeq (sIf (zc (tstV (eOp dLe [.ex (eOp dAbs [.nm 3]), .nm 2])) (tstV (eOp dGt [.ex (eOp dAbs [.nm 3]), .nm 1]))) (sRet (eC (.bool false))) (yp)) (sAsg 2 (eOp dAbs [.nm 3])))
noncomputable def dE : DS := sSeq (sIf (yK (tstO (.ex (eOp (dIsi "tuple") [.nm 0])))) (sRet (eC (.bool false))) (yp)) (sSeq (sAsg 2 (eC (.int 0))) (sSeq (sFor (zu (eV 0)) (kN 3) (bo)) (sRet (eC (.bool true)))))
def bA : yb -> Out SD := runB 4 2 dE
def eo : DS := sPut 1 (.nm 3) (.ex (eOp zF [.nm 3]))
noncomputable def et : DS := sFor (zu (eOp dTup [.nm 2, .ex (eOp dNeg [.nm 2])])) (kN 3) (eo)
noncomputable def cZ : DS := sSeq (sAsg 1 (zP)) (sSeq (sFor (itR2 [.ex (eC (.int 1)), .ex (eOp dAdd [.nm 0, .ex (eC (.int 1))])]) (kN 2) (et)) (zt 1))
def aq : yb -> Out SD := runB 4 1 cZ
def cc : DE := eOp dInX [.nm 0, .nm 1]
def cf : DE := eOp yE [.nm 1, .nm 0]
noncomputable def cu : DS := sSeq (sIf (tstV (eOp dEq [.nm 0, .ex (eC (.str "-"))])) (sRet (eOp dTup [])) (yp)) (sSeq (sAsg 3 (zf 0 " ")) (sSeq (sIf (yK (tstO (.ex (eOp dAll [.ex (z6 [1] (zi (.nm 3)) (yB) (cc))])))) (z9 "NoText" (A5 2)) (yp)) (sSeq (sAsg 4 (eOp zb [.ex (z6 [1] (zi (.nm 3)) (yB) (cf))])) (sSeq (sIf (yK (tstO (.ex (yj bA [.nm 4, .nm 2])))) (z9 "NoText" zE) (yp)) (zt 4)))))
def bc : yb -> Out SD := runB 5 3 cu
def dF : DE := yj bc [.nm 0, .nm 2, .nm 1]
noncomputable def fJ : DS := sSeq (sIf (yK (tstO (.ex (yj aO [.nm 1, .ex (eC (.int 16))])))) (z9 "NoText" zE) (yp)) (sSeq (sIf (yK (tstO (.ex (eOp (dIsi "str") [.nm 0])))) (z9 "NoText" zE) (yp)) (sSeq (sAsg 2 (zf 0 "\n")) (sSeq (sIf (tstV (eOp dNe [.ex (ePop 2), .ex (eC (.str ""))])) (z9 "NoText" zE) (yp)) (sSeq (sIf (tstV (eOp dGt [.ex (eOp yV [.nm 2]), .ex (eC (.int 24))])) (z9 "NoText" zE) (yp)) (sSeq (sAsg 3 (yj aq [.nm 1])) (sRet (zH [1, 3] (zi (.nm 2)) (dF))))))))
def bM : yb -> Out SD := runB 4 2 fJ
noncomputable def bI : DS := sSeq (sIf (tstV (eOp dLt [.nm 1, .ex (eOp yV [.nm 0])])) (sRet (eOp yE [.nm 0, .nm 1])) (yp)) (sSeq (sIf (tstV (eOp dEq [.nm 0, .ex (eOp dLst [])])) (sRet (eC (.int 0))) (yp)) (sRet (eOp dAdd [.ex (eOp yP [.ex (eOp yE [.nm 0, .ex (eOp dMod [.nm 1, .ex (eOp yV [.nm 0])])]), .ex (eC (.int 31))]), .nm 1])))
def aM : yb -> Out SD := runB 2 2 bI
noncomputable def dG : DS := sSeq (sAsg 3 (eOp dMod [.ex (eOp yP [.ex (eOp dAdd [.ex (eOp dAdd [.ex (yj aM [.nm 0, .nm 1]), .ex (eOp yP [.ex (eC (.int 7919)), .nm 1])]), .ex (eC (.int 1))]), .ex (eC (.int 48271))]), .ex (eC (.int 2147483647))])) (sRet (eOp dMod [.ex (eOp dMod [.ex (eOp dAdd [.ex (eOp dAdd [.ex (eOp yP [.nm 3, .nm 3]), .ex (eOp yP [.ex (eC (.int 7)), .nm 3])]), .nm 1]), .ex (eC (.int 2147483629))]), .nm 2]))
def ao : yb -> Out SD := runB 4 3 dG
noncomputable def cG : DS := sSeq (sAsg 5 (eOp dAdd [.ex (eC (.int 1)), .ex (yj ao [.nm 0, .ex (eOp dAdd [.ex (eOp dAdd [.nm 1, .ex (eC (.int 1))]), .nm 4]), .nm 2])])) (sPut 3 (.ex (eOp dSub [.ex (eC (.int 1)), .ex (eOp yP [.ex (eC (.int 2)), .ex (eOp zr [.ex (yj ao [.nm 0, .ex (eOp dAdd [.ex (eOp dAdd [.nm 1, .ex (eC (.int 1))]), .nm 4]), .ex (eOp yP [.ex (eC (.int 2)), .nm 2])]), .nm 2])])])) (.nm 5))
def bT : DE := eOp yP [.nm 0, .ex (eOp yE [.nm 1, .nm 0])]
noncomputable def dh : DS := sSeq (sAsg 3 (zP)) (sSeq (sFor (itR1 [.ex (eOp yE [.ex (eOp dLst [.ex (eC (.int 1)), .ex (eC (.int 2)), .ex (eC (.int 2)), .ex (eC (.int 3)), .ex (eC (.int 3)), .ex (eC (.int 3)), .ex (eC (.int 0))]), .ex (yj ao [.nm 0, .nm 1, .ex (eC (.int 7))])])]) (kN 4) (cG)) (sRet (eOp zb [.ex (z6 [3] (zi (.ex (eOp zD [.ex (eOp zC [.nm 3])]))) (yB) (bT))])))
def bD : yb -> Out SD := runB 6 3 dh
noncomputable def bK : DE := yj bD [.nm 3, .ex (eOp dAdd [.ex (eOp dAdd [.nm 1, .ex (eC (.int 1))]), .ex (eOp yP [.ex (eC (.int 4)), .nm 0])]), .nm 2]
noncomputable def cP : DS := sRet (z6 [1, 2, 0] (icR1 (.ex (yj ao [.nm 0, .nm 1, .ex (eOp dAdd [.nm 3, .ex (eC (.int 1))])]))) (yB) (bK))
def b4 : yb -> Out SD := runB 4 4 cP
noncomputable def fT : DS := sRet (eAnd (eOp (dIsi "int") [.nm 0]) (eNot (eOp (dIsi "bool") [.nm 0])))
def cw : yb -> Out SD := runB 1 1 fT
noncomputable def aJ : DS := sSeq (sIf (zc (yK (tstO (.ex (yj cw [.nm 3])))) (zc (tstV (eOp dLe [.ex (eOp dAbs [.nm 3]), .nm 2])) (tstV (eOp dGt [.ex (eOp dAbs [.nm 3]), .nm 1])))) (sRet (eC (.bool false))) (yp)) (sAsg 2 (eOp dAbs [.nm 3]))
noncomputable def cx : DS := sSeq (sIf (yK (tstO (.ex (eOp (dIsi "tuple") [.nm 0])))) (sRet (eC (.bool false))) (yp)) (sSeq (sAsg 2 (eC (.int 0))) (sSeq (sFor (zu (eV 0)) (kN 3) (aJ)) (sRet (eC (.bool true)))))
def aW : yb -> Out SD := runB 4 2 cx
def dm : DE := eOp zF [.nm 0]
noncomputable def bh : DS := sIf (tstV (eOp dEq [.nm 2, .ex (eOp dTup [])])) (sAsg 1 (eOp dAdd [.nm 1, .ex (eC (.str "-\n"))])) (sAsg 1 (eOp dAdd [.ex (eOp dAdd [.nm 1, .ex (eOp (zq " ") [.ex (z6 [] (zi (.nm 2)) (yB) (dm))])]), .ex (eC (.str "\n"))]))
noncomputable def cQ : DS := sSeq (sAsg 1 (eC (.str ""))) (sSeq (sFor (zu (eV 0)) (kN 2) (bh)) (zt 1))
def b5 : yb -> Out SD := runB 3 1 cQ
noncomputable def cz : DS := sSeq (sIf (tstV (eOp zm [.nm 3, .ex (eC (.str "0123456789"))])) (sRet (eC .none)) (yp)) (sAsg 2 (eOp dAdd [.ex (eOp yP [.ex (eC (.int 10)), .nm 2]), .ex (eOp (zG "0123456789") [.nm 3])]))
noncomputable def b6 : DS := sSeq (sAsg 1 (eV 0)) (sSeq (sIf (tstV (eOp dEq [.ex (eOp zw [.nm 0, .ex (eC (.int 1))]), .ex (eC (.str "-"))])) (sAsg 1 (eOp zN [.nm 0, .ex (eC (.int 1))])) (yp)) (sSeq (sIf (zc (tstV (eOp dLt [.ex (eOp yV [.nm 1]), .ex (eC (.int 1))])) (zc (tstV (eOp dGt [.ex (eOp yV [.nm 1]), .ex (eC (.int 2))])) (tstV (eOp dEq [.ex (eOp yE [.nm 1, .ex (eC (.int 0))]), .ex (eC (.str "0"))])))) (sRet (eC .none)) (yp)) (sSeq (sAsg 2 (eC (.int 0))) (sSeq (sFor (zU (eV 1)) (kN 3) (cz)) (sSeq (sIf (tstV (eOp dEq [.ex (eOp zw [.nm 0, .ex (eC (.int 1))]), .ex (eC (.str "-"))])) (sRet (eOp dNeg [.nm 2])) (yp)) (zt 2))))))
def aC : yb -> Out SD := runB 4 1 b6
def br : DE := yj aC [.nm 0]
def aZ : DT := tstV (eOp dIs [.nm 0, .ex (eC .none)])
def bt : DE := eV 0
noncomputable def bj : DS := sSeq (sIf (tstV (eOp dEq [.nm 0, .ex (eC (.str "-"))])) (sRet (eOp dTup [])) (yp)) (sSeq (sAsg 1 (z6 [] (zi (.ex (zf 0 " "))) (yB) (br))) (sSeq (sIf (tstV (eOp dNe [.ex (z6 [] (zi (.nm 1)) (aZ) (bt)), .ex (eOp dLst [])])) (sRet (eC .none)) (yp)) (sRet (eOp zb [.nm 1]))))
def aD : yb -> Out SD := runB 2 1 bj
noncomputable def aT : DS := sSeq (sAsg 5 (yj aD [.nm 4])) (sSeq (sIf (zc (tstV (eOp dIs [.nm 5, .ex (eC .none)])) (yK (tstO (.ex (yj aW [.nm 5, .nm 1]))))) (sRet (eC .none)) (yp)) (sMut zS 3 (.nm 5)))
noncomputable def bb : DS := sSeq (sAsg 2 (zf 0 "\n")) (sSeq (sIf (zc (tstV (eOp dNe [.ex (eOp yE [.nm 2, .ex (eOp dNeg [.ex (eC (.int 1))])]), .ex (eC (.str ""))])) (tstV (eOp dGt [.ex (eOp yV [.nm 2]), .ex (eC (.int 25))]))) (sRet (eC .none)) (yp)) (sSeq (sAsg 3 (eOp dLst [])) (sSeq (sFor (zu (eOp zw [.nm 2, .ex (eOp dNeg [.ex (eC (.int 1))])])) (kN 4) (aT)) (zt 3))))
def ax : yb -> Out SD := runB 6 2 bb
noncomputable def bE : DS := sSeq (sAsg 3 (eOp dMod [.nm 2, .ex (eOp dAdd [.ex (eOp yV [.nm 0]), .ex (eC (.int 1))])])) (sSeq (sIf (tstV (eOp dLt [.nm 1, .ex (eC (.int 2))])) (sRet (eOp dAdd [.ex (eOp dAdd [.ex (eOp zw [.nm 0, .nm 3]), .ex (eOp yE [.ex (eOp dLst [.ex (eC (.str " ")), .ex (eC (.str "-")), .ex (eC (.str "0")), .ex (eC (.str "1")), .ex (eC (.str "9")), .ex (eC (.str "a")), .ex (eC (.str "+")), .ex (eC (.str "_")), .ex (eC (.str "\n")), .ex (eC (.str "\t"))]), .ex (eOp dMod [.ex (eOp zr [.nm 2, .ex (eC (.int 7))]), .ex (eC (.int 10))])])]), .ex (eOp zN [.nm 0, .nm 3])])) (yp)) (sSeq (sIf (tstV (eOp dLt [.nm 1, .ex (eC (.int 4))])) (sRet (eOp dAdd [.ex (eOp zw [.nm 0, .nm 3]), .ex (eOp zN [.nm 0, .ex (eOp dAdd [.nm 3, .ex (eC (.int 1))])])])) (yp)) (sSeq (sIf (tstV (eOp dEq [.nm 1, .ex (eC (.int 4))])) (sRet (eOp yP [.ex (eC (.str "1\n")), .ex (eOp dAdd [.ex (eC (.int 24)), .ex (eOp dMod [.nm 2, .ex (eC (.int 2))])])])) (yp)) (sSeq (sAsg 4 (zf 0 " ")) (sSeq (sAsg 5 (eOp dLst [.ex (eC (.str "0")), .ex (eC (.str "00")), .ex (eC (.str "01")), .ex (eC (.str "-0")), .ex (eC (.str "--1")), .ex (eC (.str "-")), .ex (eC (.str "17")), .ex (eC (.str "6")), .ex (eC (.str "-16")), .ex (eC (.str "100")), .ex (eC (.str "")), .ex (eC (.str "a")), .ex (eC (.str "-3")), .ex (eC (.str "1"))])) (sSeq (zT 4 (.ex (eOp yE [.nm 5, .ex (eOp dMod [.nm 2, .ex (eC (.int 14))])])) (.ex (eOp dMod [.ex (eOp zr [.nm 2, .ex (eC (.int 14))]), .ex (eOp yV [.nm 4])]))) (sRet (eOp (zq " ") [.nm 4]))))))))
def aG : yb -> Out SD := runB 6 3 bE
noncomputable def cR : DS := sSeq (sAsg 2 (eC (.int 0))) (sSeq (A6 bM [.nm 0, .nm 1] cq (sAsg 2 (eOp dAdd [.nm 2, .ex (eC (.int 1))]))) (sSeq (zQ bM [.nm 0, .nm 1] bH 3 (sAsg 2 (eOp dAdd [.nm 2, .ex (eOp zL [.ex (eIsX 3 bx)])]))) (sRet (eOp dEq [.nm 2, .ex (eC (.int 2))]))))
def aH : yb -> Out SD := runB 4 2 cR
noncomputable def nO : DS := sSeq (sAsg 1 (eOp dAdd [.ex (eC (.int 1)), .ex (yj ao [.nm 0, .ex (eC (.int 0)), .ex (eC (.int 5))])])) (sSeq (sIf (tstV (eOp dEq [.ex (yj ao [.nm 0, .ex (eC (.int 40)), .ex (eC (.int 3))]), .ex (eC (.int 0))])) (sAsg 1 (eC (.int 16))) (yp)) (sSeq (sAsg 2 (yj ao [.nm 0, .ex (eC (.int 41)), .ex (eC (.int 7))])) (sSeq (sAsg 3 (yj ao [.nm 0, .ex (eC (.int 42)), .ex (eOp dPow [.ex (eC (.int 10)), .ex (eC (.int 6))])])) (sSeq (sIf (zo (tstV (eOp dEq [.nm 2, .ex (eC (.int 6))])) (tstV (eOp dEq [.ex (eOp dMod [.nm 3, .ex (eC (.int 5))]), .ex (eC (.int 0))]))) (sRet (yj aH [.ex (eOp yE [.ex (eOp dLst [.ex (eC .none), .ex (eC (.int 1)), .ex (eOp dLst [.ex (eC (.str "1"))]), .ex (eOp dTup [.ex (eC (.int 1))]), .ex (eC (.bool true))]), .ex (eOp dMod [.ex (eOp zr [.nm 3, .ex (eC (.int 5))]), .ex (eC (.int 5))])]), .nm 1])) (yp)) (sSeq (sAsg 4 (yj aG [.ex (yj b5 [.ex (yj b4 [.nm 0, .ex (eC (.int 1)), .nm 1, .ex (eC (.int 9))])]), .nm 2, .nm 3])) (sSeq (sAsg 5 (yj ax [.nm 4, .nm 1])) (sSeq (sIf (tstV (eOp dIs [.nm 5, .ex (eC .none)])) (sRet (yj aH [.nm 4, .nm 1])) (yp)) (sRet (eOp dEq [.ex (yj bM [.nm 4, .nm 1]), .nm 5])))))))))
def lh : yb -> Out SD := runB 6 1 nO
end
theorem tw (ns : List Int) (k : Int) (hk : 0 <= k) : aM [scr ns, .int k] = .ok (.sh (.int (A8 ns k))) := by
 have hs : ∀ l : List Int, SeqAt.shaped (.list (l.map PyData.int)) = true := fun l => (cX (ip 0 l)).shaped (by decide)
 have hs0 : SeqAt.shaped (.list []) = true := hs []
 unfold A8
 by_cases h1 : k < ns.length
 ·simp [aM, bI, h1, gK hk h1]
 ·by_cases h2 : ns = []
  ·subst h2
   have h1' : ¬ k < 0 := by omega
   simp [aM, bI, h1', iP, hs0]
  ·have hl : 0 < (ns.length : Int) := by
    have := List.length_pos_iff.mpr h2
    omega
   have hl' : 0 < ns.length := by omega
   have h3 := Int.emod_nonneg k (b := (ns.length : Int)) (by omega)
   have h4 := Int.emod_lt_of_pos k hl
   simp [aM, bI, h1, h2, iP, hs0, hs ns, hl', gK h3 h4, iQ]
theorem fU (ns : List Int) (k m : Int) (hk : 0 <= k) (hm : 0 < m) : ao [scr ns, .int k, .int m] = .ok (.sh (.int (mixZ ns k m))) := by
 have h1 := mf ns k
 have h2 := mh ns k
 have e : (A8 ns k + 7919 * k + 1) * 48271 % 2147483647 = zd ns k := rfl
 have c1 : cMul (zd ns k) (zd ns k) = true := gJ (by omega) (by omega)
 simp [ao, dG, tw ns k hk, gJ, iQ, e, c1, hm]
 rfl
theorem wA (ns : List Int) (at_ many : Int) (ha : 0 <= at_) (hm : 0 < many) (hm2 : many <= 1000) : bD [scr ns, .int at_, .int many] = .ok (.sh (encS (sayZ ns at_ many))) := by
 have m0 := cy ns at_ (m := 7) (by decide)
 have m1 := cJ ns at_ (m := 7) (by decide)
 have hs := jv ns at_
 obtain ⟨p1, p2, p3, p4⟩ := dM (ns := ns) (at_ := at_) hm (yJ ns at_).toNat
 have hl : ∀ n, (yv ns at_ many n).length <= n := fun n => (dM (ns := ns) (at_ := at_) hm n).2.2.2
 obtain ⟨δ', e1, x4, x5, rfl⟩ := ke (k := kN 4) (fb := cG) (lo := 0) (n := (yJ ns at_).toNat) (δ := [some (.sh (scr ns)), some (.sh (.int at_)), some (.sh (.int many)), some (.od []), none, none])
  (fun j δ => ∃ x4 x5, δ = [some (.sh (scr ns)), some (.sh (.int at_)), some (.sh (.int many)), some (.od (encP (yv ns at_ many j))), x4, x5]) ⟨none, none, rfl⟩ (by
   rintro i δ hi ⟨x4, x5, rfl⟩
   refine ⟨_, rfl, ?_⟩
   have hf1 := fU ns (at_ + 1 + i) many (by omega) hm
   have hf2 := fU ns (at_ + 1 + i) (2 * many) (by omega) (by omega)
   have hli := hl i
   have hll : (yv ns at_ many i).length < sizeLine := kU (by omega)
   have hb : many < 1073741824 := by omega
   simp [cG, hf1, hf2, gJ, iQ, hm, hb, hll, nC]
   rfl)
 have h7 : atI [PyData.int 1, .int 2, .int 2, .int 3, .int 3, .int 3, .int 0] (mixZ ns at_ 7) = some (.int (yJ ns at_)) := by
  have := gK (ns := [1, 2, 2, 3, 3, 3, 0]) m0 m1
  exact this
 have hr : rngB (yJ ns at_) = true := kW (by omega) (by omega)
 have hlen : (yv ns at_ many (yJ ns at_).toNat).length < 64 := by omega
 have hsl : (yS (zj (yv ns at_ many (yJ ns at_).toNat))).length <= sizeLine := b9 (by rw [(cE _).length_eq]; unfold zj; rw [List.length_map]; omega)
 have hc : yN ([none, some (.sh (.dict (encP (yv ns at_ many (yJ ns at_).toNat))))]) yB bT ((yS (zj (yv ns at_ many (yJ ns at_).toNat))).map PyData.int) = some ((sayZ ns at_ many).map PyData.int) := by
  have := cB (ρ := [none, some (.sh (.dict (encP (yv ns at_ many (yJ ns at_).toNat))))]) (te := bT)
   (y := fun d => match d with | .int t => .int (t * (valZ (yv ns at_ many (yJ ns at_).toNat) t).getD 0) | d => d) (ds := (yS (zj (yv ns at_ many (yJ ns at_).toNat))).map PyData.int) fun d hd => by
    obtain ⟨t, ht, rfl⟩ := List.mem_map.mp hd
    have ht' := (cE _).mem_iff.mp ht
    obtain ⟨v, ev, p, hp, hv⟩ := kX ht'
    have hv' : v = 1 \/ v = -1 := by rw [<- hv]; exact p3 p hp
    have hcm : cMul t v = true := iQ (by omega) (by omega)
    simp [bT, iq, ev, hcm]
  rw [this]
  unfold sayZ
  rw [List.map_map, List.map_map]
  rfl
 simp only [bD, dh]
 simp [fU ns at_ 7 ha (by decide), h7, hr, e1, hlen, hsl, hc]
 rfl
theorem tD (ns : List Int) (at_ many most : Int) (ha : 0 <= at_) (hm : 0 < many) (hm2 : many <= 1000) (h0 : 0 <= most) (h1 : most <= 1000) : b4 [scr ns, .int at_, .int many, .int most] = .ok (.ol (yt (zv ns at_ many most))) := by
 have m0 := cy ns at_ (m := most + 1) (by omega)
 have m1 := cJ ns at_ (m := most + 1) (by omega)
 have hr : rngB (mixZ ns at_ (most + 1)) = true := kW (by omega) (by omega)
 have hl : (rngI 0 (mixZ ns at_ (most + 1)).toNat).length <= sizeLine := b9 (by rw [dv]; omega)
 have hc : yN [none, some (.sh (.int at_)), some (.sh (.int many)), some (.sh (scr ns))] yB bK (rngI 0 (mixZ ns at_ (most + 1)).toNat) = some (yt (zv ns at_ many most)) := by
  have := cB (ρ := [none, some (.sh (.int at_)), some (.sh (.int many)), some (.sh (scr ns))]) (te := bK) (y := fun d => match d with | .int k => encS (sayZ ns (at_ + 1 + 4 * k) many) | d => d) (ds := rngI 0 (mixZ ns at_ (most + 1)).toNat) fun d hd => by
   obtain ⟨k, hk, rfl⟩ := List.mem_map.mp hd
   have hf := wA ns (at_ + 1 + 4 * (0 + (k : Int))) many (by omega) hm hm2
   rw [Int.zero_add] at hf ⊢
   simp [bK, hf, gJ]
  rw [this]
  unfold yt zv rngI
  rw [List.map_map, List.map_map]
  congr 1
  apply List.map_congr_left
  intro k _
  simp only [Function.comp, Int.zero_add]
 simp only [b4, cP]
 simp [fU ns at_ (most + 1) ha (by omega), hr, hl, hc]
theorem cL (d : PyData) (h : ∀ es, d ≠ .dict es) : bz [d] = .ok (.sh (.bool (isWh d))) := by
 rw [<- vY h]
 simp only [bz, ei]
 cases h1 : isiD "int" d <;> simp [g9, h, h1]
theorem kj {d : PyData} (h : ∀ i, d ≠ .int i) : isWh d = false := by
 cases d <;> first | rfl | exact absurd rfl (h _)
theorem jz (t : PyData) (many : Int) : ∀ (ds : yb) (last : Int) (pv : Option SD), (∀ d ∈ ds, ∀ es, d ≠ .dict es) -> ∃ pv', forL (kN 3) bo ds [some (.sh t), some (.sh (.int many)), some (.sh (.int last)), pv] = match yU many last ds with
  | some l => .nx [some (.sh t), some (.sh (.int many)), some (.sh (.int l)), pv']
  | none => .rt (.sh (.bool false))
 | [], last, pv, _ => ⟨pv, rfl⟩
 | d :: r, last, pv, h => by
  have hd := h d (List.mem_cons_self ..)
  rw [bW]
  by_cases hi : ∃ p, d = .int p
  ·obtain ⟨p, rfl⟩ := hi
   obtain ⟨pv', ih⟩ := jz t many r (absI p) (some (.sh (.int p))) fun d' hd' => h d' (List.mem_cons_of_mem _ hd')
   refine ⟨pv', ?_⟩
   rw [yU]
   unfold absI at ih ⊢
   by_cases h1 : (if p < 0 then -p else p) <= last
   ·simp [bo, cL _ hd, isWh, h1]
   ·by_cases h2 : many < (if p < 0 then -p else p)
    ·simp [bo, cL _ hd, isWh, h1, h2]
    ·simp [bo, cL _ hd, isWh, h1, h2]
     exact ih
  ·have hw := kj (d := d) fun i e => hi ⟨i, e⟩
   have hs : yU many last (d :: r) = none := by
    cases d <;> first | rfl | exact absurd ⟨_, rfl⟩ hi
   refine ⟨none, ?_⟩
   rw [hs]
   simp [bo, cL _ hd, hw]
theorem wB (t : PyData) (many : Int) (h : ∀ es, t ≠ .dict es) (h2 : ∀ ds, t = .tuple ds -> ∀ d ∈ ds, ∀ es, d ≠ .dict es) : bA [t, .int many] = .ok (.sh (.bool (yT many t))) := by
 simp only [bA, dE]
 by_cases ht : ∃ ds, t = .tuple ds
 ·obtain ⟨ds, rfl⟩ := ht
  obtain ⟨pv', e⟩ := jz (.tuple ds) many ds 0 none (h2 ds rfl)
  have hi : isiD "tuple" (.tuple ds) = true := rfl
  cases hs : yU many 0 ds with
  | none => rw [hs] at e; simp [hi, e, yT, hs]
  | some l => rw [hs] at e; simp [hi, e, yT, hs]
 ·have hi : isiD "tuple" t = false := by cases t <;> first | rfl | exact absurd ⟨_, rfl⟩ ht | exact absurd rfl (h _)
  have hs : yT many t = false := by cases t <;> first | rfl | exact absurd ⟨_, rfl⟩ ht
  simp [g9 "tuple" h, hi, hs]
theorem gO {n : Nat} {t : PyData} (h : yI n t) : ∀ ds, t = .tuple ds -> ∀ d ∈ ds, ∀ es, d ≠ .dict es := fun ds e d hd => by
 subst e
 exact (jr h d hd).nd
theorem wC {n : Nat} {t : PyData} (many : Int) (h : yI n t) : bA [t, .int many] = .ok (.sh (.bool (yT many t))) := wB t many h.nd (gO h)
noncomputable def isFr (most : Int) : PyData -> Bool
 | .int k => decide (1 <= k) && decide (k <= most)
 | _ => false
theorem lj (d : PyData) (most : Int) (h : ∀ es, d ≠ .dict es) : aO [d, .int most] = .ok (.sh (.bool (isFr most d))) := by
 simp only [aO, bX]
 by_cases h1 : ∃ k, d = .int k
 ·obtain ⟨k, rfl⟩ := h1
  by_cases h2 : 1 <= k
  ·simp [cL _ h, isWh, isFr, h2]
  ·have h2' : k < 1 := by omega
   simp [cL _ h, isWh, isFr, h2, h2']
 ·have hw := kj (d := d) fun i e => h1 ⟨i, e⟩
  have hf : isFr most d = false := by cases d <;> first | rfl | exact absurd ⟨_, rfl⟩ h1
  simp [cL _ h, hw, hf]
noncomputable def jn (c : Nat) : List (List Nat) -> List Nat
 | [] => []
 | [x] => x
 | x :: y :: r => x ++ c :: jn c (y :: r)
def chs (x : Str) : List Nat := x.cps.toList
theorem di {x y : Str} (h : chs x = chs y) : x = y := Str.ext' (Array.toList_inj.mp h)
theorem ba (x y : Str) : chs (x ++ y) = chs x ++ chs y := by
 unfold chs
 rw [Str.cps_append, Array.toList_append]
theorem aV (x : Str) : x.length = (chs x).length := by simp [Str.length, chs]
theorem dH (c : Nat) : ∀ xs : List Str, chs (Str.join ⟨#[c]⟩ xs) = jn c (xs.map chs)
 | [] => rfl
 | [x] => rfl
 | x :: y :: r => by
  show chs (x ++ ⟨#[c]⟩ ++ Str.join ⟨#[c]⟩ (y :: r)) = _
  rw [ba, ba, dH c (y :: r)]
  show chs x ++ [c] ++ _ = chs x ++ c :: _
  simp
def strI (p : Int) : Str := Str.ofString (toString p)
noncomputable def zg : List Int := (List.range 16).flatMap fun (i : Nat) => [((i : Int) + 1), -((i : Int) + 1)]
theorem iS {p : Int} (h1 : 1 <= absI p) (h2 : absI p <= 16) : p ∈ zg := by
 unfold zg
 rw [List.mem_flatMap]
 refine ⟨(absI p - 1).toNat, List.mem_range.mpr (by omega), ?_⟩
 unfold absI at h1 h2 ⊢
 simp
 split at h1 <;> omega
theorem mB : (zg.all fun p => !(chs (strI p)).contains 10 && !(chs (strI p)).contains 32 && decide ((chs (strI p)).length <= 3) && !(chs (strI p) == [45])) = true := by decide +kernel
theorem kl {p : Int} (h1 : 1 <= absI p) (h2 : absI p <= 16) : 10 ∉ chs (strI p) /\ 32 ∉ chs (strI p) /\ (chs (strI p)).length <= 3 /\ chs (strI p) ≠ [45] := by
 have := List.all_eq_true.mp mB p (iS h1 h2)
 simp at this
 obtain ⟨⟨⟨a, b⟩, c⟩, d⟩ := this
 exact ⟨a, b, c, d⟩
theorem lq : Str.ofString " " = ⟨#[32]⟩ := by decide +kernel
theorem wD : Str.ofString "\n" = ⟨#[10]⟩ := by decide +kernel
theorem fj : Str.ofString "-" = ⟨#[45]⟩ := by decide +kernel
noncomputable def yO (s : List Int) : Str := if s = [] then Str.ofString "-" else Str.join (Str.ofString " ") (s.map strI)
noncomputable def Lo (s : List Int) : Prop := (∀ p ∈ s, 1 <= absI p /\ absI p <= 16) /\ s.length <= 3
theorem jA {p : Int} (h : 1 <= absI p /\ absI p <= 16) : (strI p).length <= 3 := by rw [aV]; exact (kl h.1 h.2).2.2.1
theorem pV {p : Int} (h : absI p <= 16) : p.natAbs.log2 < 1920 := by
 have : p.natAbs <= 16 := by unfold absI at h; split at h <;> omega
 have := Nat.log2_le_self p.natAbs
 omega
theorem mC {s : List Int} (h : Lo s) : JoinOk (Str.ofString " ") (s.map strI) = true := by
 unfold JoinOk
 have hf := StrLaws.joinFits (sep := Str.ofString " ") (texts := s.map strI) (B := 3) (fun y hy => by
  obtain ⟨p, hp, rfl⟩ := List.mem_map.mp hy
  exact jA (h.1 p hp)) (by
  have : (Str.ofString " ").length = 1 := by decide +kernel
  rw [this, List.length_map]
  have := h.2
  omega)
 rw [hf]
 rfl
theorem mD {te : DE} {s : List Int} (h : Lo s) (hte : te = eOp zF [.nm 0]) : yN [none] yB te (s.map PyData.int) = some ((s.map strI).map PyData.str) := by
 have := cB (ρ := [none]) (te := te) (y := fun d => match d with | .int p => .str (strI p) | d => d) (ds := s.map PyData.int) fun d hd => by
  obtain ⟨p, hp, rfl⟩ := List.mem_map.mp hd
  have hl := pV (h.1 p hp).2
  subst hte
  exact ⟨_, by simp [hl]; exact ⟨rfl, rfl⟩⟩
 rw [this, List.map_map, List.map_map]
 rfl
theorem aN : ∀ l : List Str, yh (l.map PyData.str) = true
 | [] => rfl
 | x :: r => by simp [yh, yy, aN r]
theorem gP {s : List Int} (h : Lo s) : (yO s).length <= 20 := by
 unfold yO
 split
 ·decide +kernel
 ·have h1 := StrLaws.join_length_le (Str.ofString " ") (s.map strI)
  have h2 := StrLaws.sumLen_le (B := 3) (s.map strI) (fun y hy => by
   obtain ⟨p, hp, rfl⟩ := List.mem_map.mp hy
   exact jA (h.1 p hp))
  have : (Str.ofString " ").length = 1 := by decide +kernel
  rw [this] at h1
  rw [List.length_map] at h1 h2
  have := h.2
  omega
noncomputable def yL (ss : List (List Int)) : Str := Str.join (Str.ofString "") (ss.map fun s => yO s ++ Str.ofString "\n")
theorem km : (Str.ofString "\n").length = 1 := by decide +kernel
noncomputable def ym (n : Nat) : List (PyData × PyData) := (List.range n).flatMap fun (i : Nat) => [(.str (strI ((i : Int) + 1)), .int ((i : Int) + 1)), (.str (strI (-((i : Int) + 1))), .int (-((i : Int) + 1)))]
theorem pW : aq [.int 1] = .ok (.od (ym 1)) := by kernel_rfl
theorem pX : aq [.int 2] = .ok (.od (ym 2)) := by kernel_rfl
theorem pY : aq [.int 3] = .ok (.od (ym 3)) := by kernel_rfl
theorem pZ : aq [.int 4] = .ok (.od (ym 4)) := by kernel_rfl
theorem q0 : aq [.int 5] = .ok (.od (ym 5)) := by kernel_rfl
theorem nP : aq [.int 16] = .ok (.od (ym 16)) := by kernel_rfl
def z7 (n : Nat) : Prop := 1 <= n /\ n <= 5 \/ n = 16
theorem qa {n : Nat} (h : z7 n) : aq [.int n] = .ok (.od (ym n)) := by
 rcases h with ⟨h1, h2⟩ | rfl
 ·rcases (by omega : n = 1 \/ n = 2 \/ n = 3 \/ n = 4 \/ n = 5) with rfl | rfl | rfl | rfl | rfl
  ·exact pW
  ·exact pX
  ·exact pY
  ·exact pZ
  ·exact q0
 ·exact nP
noncomputable def Aj (n : Nat) (p : Int) : Bool := match zh (ym n) (.inr (strI p)) with
 | some (.int q) => decide (q = p)
 | _ => false
noncomputable def zY (n : Nat) : List Int := (List.range n).flatMap fun (i : Nat) => [((i : Int) + 1), -((i : Int) + 1)]
theorem kn {n : Nat} {p : Int} (h1 : 1 <= absI p) (h2 : absI p <= n) : p ∈ zY n := by
 unfold zY
 rw [List.mem_flatMap]
 refine ⟨(absI p - 1).toNat, List.mem_range.mpr (by omega), ?_⟩
 unfold absI at h1 h2 ⊢
 simp
 split at h1 <;> omega
theorem nQ {n : Nat} (h : z7 n) : ((zY n).all (Aj n)) = true := by
 rcases h with ⟨h1, h2⟩ | rfl
 ·rcases (by omega : n = 1 \/ n = 2 \/ n = 3 \/ n = 4 \/ n = 5) with rfl | rfl | rfl | rfl | rfl <;> decide +kernel
 ·decide +kernel
theorem gQ {n : Nat} {p : Int} (h : z7 n) (h1 : 1 <= absI p) (h2 : absI p <= n) : zh (ym n) (.inr (strI p)) = some (.int p) := by
 have := List.all_eq_true.mp (nQ h) p (kn h1 h2)
 unfold Aj at this
 split at this
 ·rename_i q e
  rw [e, of_decide_eq_true this]
 ·cases this
theorem jB : chs (Str.ofString "-") = [45] := by decide +kernel
theorem ko : chs (Str.ofString "\n") = [10] := by decide +kernel
theorem lr : chs (Str.ofString "") = [] := by decide +kernel
theorem gR : ∀ xs : List Str, chs (Str.join (Str.ofString "") xs) = (xs.map chs).flatten
 | [] => rfl
 | [x] => by simp [Str.join]
 | x :: y :: r => by
  show chs (x ++ Str.ofString "" ++ Str.join (Str.ofString "") (y :: r)) = _
  rw [ba, ba, gR (y :: r), lr]
  simp
theorem lu {B : Nat} : ∀ {l : List (List Nat)}, (∀ x ∈ l, x.length <= B) -> l.flatten.length <= l.length * B
 | [], _ => by simp
 | x :: r, h => by
  have h1 := h x (by simp)
  have h2 := lu (l := r) fun y hy => h y (by simp [hy])
  rw [List.flatten_cons, List.length_append, List.length_cons, Nat.succ_mul]
  omega
theorem mE {ss : List (List Int)} (h : ∀ s ∈ ss, Lo s) : (yL ss).length <= ss.length * 21 := by
 rw [aV]
 unfold yL
 rw [gR]
 have := lu (B := 21) (l := (ss.map fun s => yO s ++ Str.ofString "\n").map chs) fun x hx => by
  obtain ⟨y, hy, rfl⟩ := List.mem_map.mp hx
  obtain ⟨s, hs, rfl⟩ := List.mem_map.mp hy
  have := gP (h s hs)
  rw [<- aV, Str.length_append, km]
  omega
 simpa using this
theorem iT (s : List Int) : PyData.eqv (encS s) (.tuple []) = s.isEmpty := by
 unfold encS
 simp only [PyData.eqv]
 cases s <;> simp [PyData.eqvAll]
theorem dN (ss : List (List Int)) : chs (yL ss) = (ss.map fun s => chs (yO s) ++ [10]).flatten := by
 unfold yL
 rw [gR, List.map_map]
 congr 1
 refine List.map_congr_left fun s _ => ?_
 simp only [Function.comp, ba, ko]
theorem tF : chs (Str.ofString "-\n") = [45, 10] := by decide +kernel
theorem d0 (s : List Int) : yI 1 (encS s) := gI (ip 0 s)
theorem gS (ss : List (List Int)) : ∀ x ∈ yt ss, yI 1 x := fun x hx => by
 obtain ⟨s, _, rfl⟩ := List.mem_map.mp hx
 exact d0 s
theorem qb {s : List Int} (h : Lo s) (t : SD) (acc : Str) (ha : acc.length <= 900) : bh [some t, some (.sh (.str acc)), some (.sh (encS s))] = .nx [some t, some (.sh (.str (acc ++ (yO s ++ Str.ofString "\n")))), some (.sh (encS s))] := by
 have sh1 : SeqAt.shaped (encS s) = true := (d0 s).shaped (by decide)
 have sh2 : SeqAt.shaped (.tuple []) = true := (gI (n := 0) (xs := []) fun x hx => by cases hx).shaped (by decide)
 have q := iT s
 by_cases e : s = []
 ·subst e
  have e1 : acc ++ (yO [] ++ Str.ofString "\n") = acc ++ Str.ofString "-\n" := by
   apply di
   have : yO [] = Str.ofString "-" := rfl
   rw [ba, ba, ba, ko, tF, this, jB]
   rfl
  have hz : acc.length + (Str.ofString "-\n").length <= sizeLine := b9 (by
   have : (Str.ofString "-\n").length = 2 := by decide +kernel
   omega)
  rw [e1]
  simp only [List.isEmpty_nil] at q
  unfold encS at sh1 q ⊢
  simp only [List.map_nil] at sh1 q ⊢
  simp -implicitDefEqProofs [bh, sh1, sh2, q, hz]
 ·have qf : s.isEmpty = false := by cases s with | nil => exact absurd rfl e | cons _ _ => rfl
  rw [qf] at q
  have hc := mD (te := dm) h rfl
  have hj := mC h
  have hs := eh (s.map strI)
  have hl := gP h
  have el : yO s = Str.join (Str.ofString " ") (s.map strI) := by unfold yO; rw [if_neg e]
  rw [el] at hl
  have e1 : acc ++ (yO s ++ Str.ofString "\n") = acc ++ Str.join (Str.ofString " ") (s.map strI) ++ Str.ofString "\n" := by rw [el, Str.append_assoc]
  have hz0 : (s.map PyData.int).length <= sizeLine := b9 (by rw [List.length_map]; have := h.2; omega)
  have hz1 : acc.length + (Str.join (Str.ofString " ") (s.map strI)).length <= sizeLine := b9 (by omega)
  have hz2 : (acc ++ Str.join (Str.ofString " ") (s.map strI)).length + (Str.ofString "\n").length <= sizeLine := b9 (by rw [Str.length_append, km]; omega)
  have pp := aN (s.map strI)
  have pi := dC s
  rw [e1]
  unfold encS at sh1 q ⊢
  generalize s.map strI = ts at hc hj hs pp hz1 hz2 ⊢
  generalize ts.map PyData.str = TS at hc hs pp
  generalize s.map PyData.int = S at hc hz0 pi sh1 q ⊢
  generalize hJ : Str.join (Str.ofString " ") ts = J at hz1 hz2 ⊢
  generalize hAJ : acc ++ J = AJ at hz2 ⊢
  simp -implicitDefEqProofs [bh, sh1, sh2, q, hz0, hc, hs, hj, hJ, hz1, hAJ, hz2, pp, pi]
theorem lx (t : SD) : ∀ (ss : List (List Int)) (acc : Str) (x : Option SD), (∀ s ∈ ss, Lo s) -> acc.length + ss.length * 21 <= 900 -> ∃ x', forL (kN 2) bh (yt ss) [some t, some (.sh (.str acc)), x] = .nx [some t, some (.sh (.str (acc ++ yL ss))), x']
 | [], acc, x, _, _ => ⟨x, by
  have : acc ++ yL [] = acc := by
   apply di
   rw [ba, dN]
   simp
  rw [this]
  rfl⟩
 | s :: r, acc, x, h, hl => by
  have hs := h s (by simp)
  have hln := gP hs
  have hla : (acc ++ (yO s ++ Str.ofString "\n")).length <= acc.length + 21 := by rw [Str.length_append, Str.length_append, km]; omega
  rw [List.length_cons] at hl
  obtain ⟨x', ih⟩ := lx t r (acc ++ (yO s ++ Str.ofString "\n")) (some (.sh (encS s))) (fun q hq => h q (by simp [hq])) (by omega)
  refine ⟨x', ?_⟩
  have e : acc ++ yL (s :: r) = acc ++ (yO s ++ Str.ofString "\n") ++ yL r := by
   apply di
   rw [ba, ba, ba, ba, dN, dN, ko]
   simp
  rw [e]
  have st := qb hs t acc (by omega)
  show forL _ _ (encS s :: yt r) _ = _
  rw [bW]
  generalize acc ++ (yO s ++ Str.ofString "\n") = A2 at st ih ⊢
  simp [st, ih]
theorem mF {ss : List (List Int)} (h : ∀ s ∈ ss, Lo s) (hl : ss.length <= 24) : b5 [.list (yt ss)] = .ok (.sh (.str (yL ss))) := by
 obtain ⟨x', e⟩ := lx (.sh (.list (yt ss))) ss (Str.ofString "") none h (by
  have : (Str.ofString "").length = 0 := by decide +kernel
  omega)
 have e2 : Str.ofString "" ++ yL ss = yL ss := by
  apply di
  rw [ba, lr]
  rfl
 rw [e2] at e
 simp only [b5, cQ]
 generalize yt ss = S at e
 simp -implicitDefEqProofs [e]
theorem gT (xs : Array Nat) : ∀ (n lo : Nat), lo + n <= xs.size -> (List.range' lo n).filterMap (xs[·]?) = (xs.toList.drop lo).take n
 | 0, lo, _ => by simp
 | n + 1, lo, h => by
  rw [List.range'_succ, List.filterMap_cons, gT xs n (lo + 1) (by omega)]
  have hl : lo < xs.toList.length := by simpa using (by omega : lo < xs.size)
  rw [List.drop_eq_getElem_cons hl, List.take_succ_cons]
  have e : xs[lo]? = some xs.toList[lo] := by simp [show lo < xs.size by omega]
  simp [e]
theorem iz (lo n : Nat) : PySem.sliceRange (lo : Int) ((lo + n : Nat) : Int) 1 = List.range' lo n := by
 unfold PySem.sliceRange
 simp only [show (1 : Int) > 0 by decide, if_true]
 have ec : (if (lo : Int) < ((lo + n : Nat) : Int) then (((lo + n : Nat) : Int) - (lo : Int) + 1 - 1) / 1 else 0).toNat = n := by
  split
  ·rw [Int.ediv_one]; omega
  ·omega
 rw [ec, List.range'_eq_map_range]
 refine List.map_congr_left fun k _ => ?_
 omega
theorem iA (z : Str) (lo n : Nat) (l u : Option Int) (h : Builtin.Str.strSliceIndices l u 1 z.length = List.range' lo n) (hn : lo + n <= z.length) : chs (Txt.slice z l u) = ((chs z).drop lo).take n := by
 unfold Txt.slice
 rw [h]
 split
 next e =>
  have e' : n = z.length := by simpa using e
  have : lo = 0 := by omega
  subst this
  rw [List.drop_zero, e', aV, List.take_length]
 next =>
  show (List.filterMap (z.cps[·]?) (List.range' lo n)).toArray.toList = _
  rw [gT z.cps n lo hn]
  rfl
theorem gU (z : Str) (k : Nat) : chs (Txt.slice z none (some (k : Int))) = (chs z).take k := by
 have h : Builtin.Str.strSliceIndices none (some (k : Int)) 1 z.length = List.range' 0 (min k z.length) := by
  unfold Builtin.Str.strSliceIndices
  simp only [show (1 : Int) > 0 by decide, if_true, show ¬ ((k : Int) < 0) by omega, if_false]
  have e : max 0 (min (k : Int) (z.length : Int)) = ((0 + min k z.length : Nat) : Int) := by omega
  rw [e]
  exact iz 0 _
 rw [iA z 0 _ _ _ h (by omega), List.drop_zero, aV, <- List.take_eq_take_min]
theorem gW (z : Str) (k : Nat) : chs (Txt.slice z (some (k : Int)) none) = (chs z).drop k := by
 have h : Builtin.Str.strSliceIndices (some (k : Int)) none 1 z.length = List.range' (min k z.length) (z.length - min k z.length) := by
  unfold Builtin.Str.strSliceIndices
  simp only [show (1 : Int) > 0 by decide, if_true, show ¬ ((k : Int) < 0) by omega, if_false]
  have e : max 0 (min (k : Int) (z.length : Int)) = ((min k z.length : Nat) : Int) := by omega
  have e2 : (z.length : Int) = ((min k z.length + (z.length - min k z.length) : Nat) : Int) := by omega
  rw [e]
  conv => lhs; arg 2; rw [e2]
  exact iz _ _
 rw [iA z _ _ _ _ h (by omega), List.take_of_length_le (by rw [List.length_drop, <- aV]; omega)]
 by_cases hk : k <= z.length
 ·rw [Nat.min_eq_left hk]
 ·rw [Nat.min_eq_right (by omega), List.drop_of_length_le (by rw [<- aV]; exact Nat.le_refl _), List.drop_of_length_le (by rw [<- aV]; omega)]
def digB (c : Nat) : Bool := decide (48 <= c /\ c <= 57)
theorem ly : ((List.range 128).all fun c => (Txt.contains (Str.ofString "0123456789") ⟨#[c]⟩ == digB c) && (!digB c || decide (Txt.find (Str.ofString "0123456789") ⟨#[c]⟩ = (c : Int) - 48))) = true := by decide +kernel
theorem tG {c : Nat} (h : c < 128) : Txt.contains (Str.ofString "0123456789") ⟨#[c]⟩ = digB c := by
 have := List.all_eq_true.mp ly c (List.mem_range.mpr h)
 simp only [Bool.and_eq_true, beq_iff_eq] at this
 exact this.1
theorem tH {c : Nat} (h : c < 128) (hd : digB c = true) : Txt.find (Str.ofString "0123456789") ⟨#[c]⟩ = (c : Int) - 48 := by
 have := List.all_eq_true.mp ly c (List.mem_range.mpr h)
 simp only [Bool.and_eq_true, hd, Bool.not_true, Bool.false_or, decide_eq_true_eq] at this
 exact this.2
noncomputable def digs : List Nat -> Int -> Option Int
 | [], a => some a
 | c :: r, a => if digB c = true then digs r (10 * a + ((c : Int) - 48)) else none
theorem jC {w0 w1 : Option SD} : ∀ (fs : List Nat) (a : Int) (x : Option SD), (∀ c ∈ fs, c < 128) -> ∃ x' : Option SD, forL (kN 3) cz (fs.map fun c => PyData.str ⟨#[c]⟩) [w0, w1, some (.sh (.int a)), x] = match digs fs a with
  | some b => .nx [w0, w1, some (.sh (.int b)), x']
  | none => .rt (.sh .none)
 | [], a, x, _ => ⟨x, rfl⟩
 | c :: r, a, x, h => by
  have hc := h c (by simp)
  have d1 := tG hc
  cases hd : digB c with
  | false =>
   refine ⟨none, ?_⟩
   rw [hd] at d1
   rw [List.map_cons, bW]
   simp [digs, hd, cz, d1]
  | true =>
   have d2 := tH hc hd
   rw [hd] at d1
   obtain ⟨x', ih⟩ := jC (w0 := w0) (w1 := w1) r (10 * a + ((c : Int) - 48)) (some (.sh (.str ⟨#[c]⟩))) (fun y hy => h y (by simp [hy]))
   refine ⟨x', ?_⟩
   have e : digs (c :: r) a = digs r (10 * a + ((c : Int) - 48)) := by simp [digs, hd]
   rw [e, <- ih, List.map_cons, bW]
   have cm : cMul 10 a = true := gJ (by omega) (by omega)
   generalize (c : Int) - 48 = v at d2 ⊢
   generalize (r.map fun c => PyData.str ⟨#[c]⟩) = RR
   simp [cz, d1, d2, cm]
noncomputable def figs (w : List Nat) : List Nat := if w.take 1 = [45] then w.drop 1 else w
noncomputable def yw (w : List Nat) : Option Int := if (figs w).length < 1 \/ 2 < (figs w).length \/ (figs w).head? = some 48 then none else (digs (figs w) 0).map fun m => if w.take 1 = [45] then -m else m
noncomputable def optD : Option Int -> PyData
 | some p => .int p
 | none => .none
theorem fk {x : Str} {c : Nat} : x = ⟨#[c]⟩ ↔ chs x = [c] := ⟨fun e => by rw [e]; rfl, fun e => di e⟩
theorem wF : Str.ofString "0" = ⟨#[48]⟩ := by decide +kernel
theorem qc {x : Str} (h : ∀ c ∈ chs x, c < 128) : x.cps.all (· < 128) = true := by
 rw [Array.all_eq_true']
 intro c hc
 exact decide_eq_true (h c (by unfold chs; simpa using hc))
theorem qd {x : Str} (h : ∀ c ∈ chs x, c < 128) (hl : x.length <= 900) : aC [.str x] = .ok (.sh (optD (yw (chs x)))) := by
 have hz : x.length <= sizeLine := b9 (by omega)
 have s1 : (Txt.slice x none (some 1) = Str.ofString "-") ↔ (chs x).take 1 = [45] := by
  have e := gU x 1
  rw [show ((1 : Nat) : Int) = 1 from rfl] at e
  rw [fj, fk, e]
 have key : ∀ (F : Str) (v : Bool), v = decide ((chs x).take 1 = [45]) -> chs F = figs (chs x) -> F = (if v then Txt.slice x (some 1) none else x) -> aC [.str x] = .ok (.sh (optD (yw (chs x)))) := by
  intro F v hv hF eF
  have hFl : (F.length : Int) = ((figs (chs x)).length : Int) := by rw [aV, hF]
  have hfs : ∀ c ∈ figs (chs x), c < 128 := fun c hc => h c (by
   unfold figs at hc
   split at hc
   ·exact List.mem_of_mem_drop hc
   ·exact hc)
  have hal := qc (x := F) (by rw [hF]; exact hfs)
  have hsg : signs F = (figs (chs x)).map fun c => PyData.str ⟨#[c]⟩ := by
   unfold signs
   rw [<- hF]
   rfl
  have hFz : F.length <= sizeLine := by
   have := Txt.slice_le x (some 1) none
   rw [eF]
   split
   ·exact Nat.le_trans this hz
   ·exact hz
  have hat : atI F.cps.toList 0 = (figs (chs x)).head? := by
   rw [<- hF]
   show atI (chs F) 0 = _
   cases chs F with
   | nil => rfl
   | cons c r => unfold atI ixN; simp
  obtain ⟨x', lp⟩ := jC (w0 := some (.sh (.str x))) (w1 := some (.sh (.str F))) (figs (chs x)) 0 none hfs
  rw [<- hsg] at lp
  have hn : (chs x).take 1 = [45] ↔ v = true := by rw [hv]; simp
  simp only [hn] at s1
  unfold yw
  simp only [hn]
  generalize figs (chs x) = fs at *
  have hit : ∀ a b d : Option SD, zU (eV 1) [a, some (.sh (.str F)), b, d] = .ok (signs F, [a, some (.sh (.str F)), b, d]) := fun a b d => by
   have e : vE (eV 1) [a, some (.sh (.str F)), b, d] = .ok (.str F, [a, some (.sh (.str F)), b, d]) := by simp
   unfold zU
   rw [e, Out.bind_ok]
   show (if F.cps.all (· < 128) = true then _ else _) = _
   rw [if_pos hal]
  have hq : ∀ c : Nat, ((⟨#[c]⟩ : Str) = Str.ofString "0") ↔ c = 48 := fun c => by
   rw [wF]
   constructor
   ·intro e
    have := congrArg Str.cps e
    simpa using this
   ·rintro rfl; rfl
  cases fs with
  | nil =>
   have c1 : (F.length : Int) < 1 := by simp at hFl; omega
   rw [if_pos (.inl (by simp))]
   cases v with
   | true =>
    have s1' : Txt.slice x none (some 1) = Str.ofString "-" := s1.mpr rfl
    simp only [if_true] at eF
    simp only [aC, b6]
    simp -implicitDefEqProofs [hz, s1', <- eF, hFz, c1, optD]
   | false =>
    have s1' : ¬ Txt.slice x none (some 1) = Str.ofString "-" := fun z => by cases s1.mp z
    simp only [Bool.false_eq_true, if_false] at eF
    subst eF
    simp only [aC, b6]
    simp -implicitDefEqProofs [hz, s1', c1, optD]
  | cons c r =>
   have c1 : ¬ (F.length : Int) < 1 := by simp at hFl; omega
   have hat' : atI F.cps.toList 0 = some c := hat
   have hq' := hq c
   by_cases c2 : 2 < (c :: r).length
   ·have c2' : (2 : Int) < (F.length : Int) := by omega
    rw [if_pos (.inr (.inl c2))]
    cases v with
    | true =>
     have s1' : Txt.slice x none (some 1) = Str.ofString "-" := s1.mpr rfl
     simp only [if_true] at eF
     simp only [aC, b6]
     simp -implicitDefEqProofs [hz, s1', <- eF, hFz, c1, c2', optD]
    | false =>
     have s1' : ¬ Txt.slice x none (some 1) = Str.ofString "-" := fun z => by cases s1.mp z
     simp only [Bool.false_eq_true, if_false] at eF
     subst eF
     simp only [aC, b6]
     simp -implicitDefEqProofs [hz, s1', c1, c2', optD]
   ·have c2' : ¬ (2 : Int) < (F.length : Int) := by omega
    by_cases c3 : c = 48
    ·have q3 : (⟨#[c]⟩ : Str) = Str.ofString "0" := hq'.mpr c3
     rw [if_pos (.inr (.inr (by rw [c3]; rfl)))]
     cases v with
     | true =>
      have s1' : Txt.slice x none (some 1) = Str.ofString "-" := s1.mpr rfl
      simp only [if_true] at eF
      simp only [aC, b6]
      simp -implicitDefEqProofs [hz, s1', <- eF, hFz, c1, c2', hat', q3, optD]
     | false =>
      have s1' : ¬ Txt.slice x none (some 1) = Str.ofString "-" := fun z => by cases s1.mp z
      simp only [Bool.false_eq_true, if_false] at eF
      subst eF
      simp only [aC, b6]
      simp -implicitDefEqProofs [hz, s1', c1, c2', hat', q3, optD]
    ·have q3 : ¬ (⟨#[c]⟩ : Str) = Str.ofString "0" := fun z => c3 (hq'.mp z)
     rw [if_neg (fun z => by
      rcases z with z | z | z
      ·simp at z
      ·exact c2 z
      ·exact c3 (by simpa using z))]
     generalize digs (c :: r) 0 = dg at lp ⊢
     cases v with
     | true =>
      have s1' : Txt.slice x none (some 1) = Str.ofString "-" := s1.mpr rfl
      simp only [if_true] at eF
      simp only [aC, b6]
      cases dg with
      | none =>
       dsimp only at lp
       simp -implicitDefEqProofs [hz, s1', <- eF, hFz, c1, c2', hat', q3, hit, lp, optD]
      | some b =>
       dsimp only at lp
       simp -implicitDefEqProofs [hz, s1', <- eF, hFz, c1, c2', hat', q3, hit, lp, optD]
     | false =>
      have s1' : ¬ Txt.slice x none (some 1) = Str.ofString "-" := fun z => by cases s1.mp z
      simp only [Bool.false_eq_true, if_false] at eF
      subst eF
      simp only [aC, b6]
      cases dg with
      | none =>
       dsimp only at lp
       simp -implicitDefEqProofs [hz, s1', c1, c2', hat', q3, hit, lp, optD]
      | some b =>
       dsimp only at lp
       simp -implicitDefEqProofs [hz, s1', c1, c2', hat', q3, hit, lp, optD]
 by_cases hv : (chs x).take 1 = [45]
 ·refine key (Txt.slice x (some 1) none) true (by simp [hv]) ?_ rfl
  have e := gW x 1
  rw [show ((1 : Nat) : Int) = 1 from rfl] at e
  rw [e]
  unfold figs
  rw [if_pos hv]
 ·refine key x false (by simp [hv]) ?_ rfl
  unfold figs
  rw [if_neg hv]
noncomputable def cand : List (List Nat) := (List.range' 48 10).flatMap fun c => [[c], [45, c]] ++ (List.range' 48 10).flatMap fun d => [[c, d], [45, c, d]]
noncomputable def okP (w : List Nat) : Bool := match yw w with
 | some p => (w == chs (strI p)) && decide (1 <= absI p) && decide (absI p <= 99)
 | none => true
theorem nR : cand.all okP = true := by decide +kernel
theorem iB : ∀ (fs : List Nat) (a b : Int), digs fs a = some b -> ∀ c ∈ fs, 48 <= c /\ c < 58
 | [], _, _, _, c, hc => by simp at hc
 | x :: r, a, b, h, c, hc => by
  unfold digs at h
  split at h
  next hd =>
   rcases List.mem_cons.mp hc with rfl | z
   ·have := of_decide_eq_true hd; omega
   ·exact iB r _ b h c z
  next => cases h
theorem lz {α : Type} : ∀ {l : List α}, l.length = 2 -> ∃ c d, l = [c, d]
 | [c, d], _ => ⟨c, d, rfl⟩
theorem lA {w : List Nat} {p : Int} (h : yw w = some p) : w = chs (strI p) /\ 1 <= absI p /\ absI p <= 99 := by
 have hw : w ∈ cand := by
  have h' := h
  unfold yw at h'
  split at h'
  next => cases h'
  next hc =>
   obtain ⟨b, hb, _⟩ := Option.map_eq_some_iff.mp h'
   have hd := iB _ _ _ hb
   have hl : (figs w).length = 1 \/ (figs w).length = 2 := by omega
   unfold cand
   rw [List.mem_flatMap]
   unfold figs at hd hl
   split at hd
   next ht =>
    rw [if_pos ht] at hl
    cases w with
    | nil => simp at ht
    | cons x r =>
     have hx : x = 45 := by simpa using ht
     subst hx
     simp only [List.drop_succ_cons, List.drop_zero] at hd hl
     rcases hl with hl | hl
     ·obtain ⟨c, rfl⟩ := List.length_eq_one_iff.mp hl
      have := hd c (by simp)
      exact ⟨c, by simp; omega, by simp⟩
     ·obtain ⟨c, d, rfl⟩ := lz hl
      have h1 := hd c (by simp)
      have h2 := hd d (by simp)
      refine ⟨c, by simp; omega, ?_⟩
      refine List.mem_append_right _ (List.mem_flatMap.mpr ⟨d, by simp; omega, by simp⟩)
   next ht =>
    rw [if_neg ht] at hl
    rcases hl with hl | hl
    ·obtain ⟨c, rfl⟩ := List.length_eq_one_iff.mp hl
     have := hd c (by simp)
     exact ⟨c, by simp; omega, by simp⟩
    ·obtain ⟨c, d, rfl⟩ := lz hl
     have h1 := hd c (by simp)
     have h2 := hd d (by simp)
     refine ⟨c, by simp; omega, ?_⟩
     refine List.mem_append_right _ (List.mem_flatMap.mpr ⟨d, by simp; omega, by simp⟩)
 have := List.all_eq_true.mp nR w hw
 unfold okP at this
 rw [h] at this
 simp only [Bool.and_eq_true, beq_iff_eq, decide_eq_true_eq] at this
 exact ⟨this.1.1, this.1.2, this.2⟩
theorem qe : (zg.all fun p => decide (yw (chs (strI p)) = some p)) = true := by decide +kernel
theorem jD {p : Int} (h1 : 1 <= absI p) (h2 : absI p <= 16) : yw (chs (strI p)) = some p := of_decide_eq_true (List.all_eq_true.mp qe p (iS h1 h2))
noncomputable def inW (n : Nat) (w : Str) : Bool := match yw (chs w) with
 | some p => decide (absI p <= n)
 | none => false
theorem fm {n : Nat} (h : z7 n) : n <= 16 := by
 rcases h with h | h <;> omega
theorem qg {n : Nat} {p : Int} (h : z7 n) (h1 : 1 <= absI p) (h2 : absI p <= n) : ((ym n).any fun q => decide (yx q.1 = some (.inr (strI p)))) = true := by
 have hf := gQ h h1 h2
 unfold zh at hf
 obtain ⟨q, hq, _⟩ := Option.map_eq_some_iff.mp hf
 have hs := List.find?_some hq
 exact List.any_eq_true.mpr ⟨q, List.mem_of_find?_eq_some hq, by simpa using hs⟩
theorem xZ {n : Nat} (hn : z7 n) (w : Str) : dInX [.str w, .dict (ym n)] = some (.sh (.bool (inW n w))) := by
 rw [iy]
 show ((yx (.str w)).map fun k => (ym n).any fun q => decide (yx q.1 = some k)).map (fun b => SD.sh (.bool b)) = _
 have e : yx (.str w) = some (.inr w) := rfl
 rw [e]
 simp only [Option.map_some]
 congr 3
 unfold inW
 have h16 := fm hn
 cases hp : yw (chs w) with
 | some p =>
  obtain ⟨a1, a2, a3⟩ := lA hp
  have hw : w = strI p := di a1
  dsimp only
  by_cases h2 : absI p <= n
  ·rw [decide_eq_true h2, hw]
   exact qg hn a2 h2
  ·rw [decide_eq_false h2, <- Bool.not_eq_true]
   intro z
   obtain ⟨q, hq, hk⟩ := List.any_eq_true.mp z
   unfold ym at hq
   obtain ⟨i, hi, hq⟩ := List.mem_flatMap.mp hq
   have hi' := List.mem_range.mp hi
   simp only [List.mem_cons, List.not_mem_nil, or_false] at hq
   have key : ∀ r : Int, 1 <= absI r -> absI r <= n -> strI r = w -> False := fun r r1 r2 e => by
    have := jD r1 (by omega)
    rw [e, hp] at this
    cases this
    exact h2 r2
   rcases hq with rfl | rfl
   ·exact key ((i : Int) + 1) (by unfold absI; split <;> omega) (by unfold absI; split <;> omega) (by simpa [yx] using hk)
   ·exact key (-((i : Int) + 1)) (by unfold absI; split <;> omega) (by unfold absI; split <;> omega) (by simpa [yx] using hk)
 | none =>
  dsimp only
  rw [<- Bool.not_eq_true]
  intro z
  obtain ⟨q, hq, hk⟩ := List.any_eq_true.mp z
  unfold ym at hq
  obtain ⟨i, hi, hq⟩ := List.mem_flatMap.mp hq
  have hi' := List.mem_range.mp hi
  simp only [List.mem_cons, List.not_mem_nil, or_false] at hq
  have key : ∀ r : Int, 1 <= absI r -> absI r <= n -> strI r = w -> False := fun r r1 r2 e => by
   have := jD r1 (by omega)
   rw [e, hp] at this
   cases this
  rcases hq with rfl | rfl
  ·exact key ((i : Int) + 1) (by unfold absI; split <;> omega) (by unfold absI; split <;> omega) (by simpa [yx] using hk)
  ·exact key (-((i : Int) + 1)) (by unfold absI; split <;> omega) (by unfold absI; split <;> omega) (by simpa [yx] using hk)
theorem y0 {n : Nat} (hn : z7 n) {w : Str} {p : Int} (hp : yw (chs w) = some p) (h2 : absI p <= n) : yE [.dict (ym n), .str w] = some (.sh (.int p)) := by
 obtain ⟨a1, a2, a3⟩ := lA hp
 have hw : w = strI p := di a1
 rw [hw, gM]
 show (zh (ym n) (.inr (strI p))).map SD.sh = _
 rw [gQ hn a2 h2]
 rfl
theorem nS {c0 : Nat} : ∀ {xs : List (List Nat)} {w : List Nat}, w ∈ xs -> (∀ c ∈ w, c ∈ jn c0 xs) /\ w.length <= (jn c0 xs).length
 | [x], w, h => by
  have : w = x := by simpa using h
  subst this
  exact ⟨fun c hc => hc, Nat.le_refl _⟩
 | x :: y :: r, w, h => by
  have e : jn c0 (x :: y :: r) = x ++ c0 :: jn c0 (y :: r) := rfl
  rw [e]
  rcases List.mem_cons.mp h with rfl | z
  ·exact ⟨fun c hc => List.mem_append_left _ hc, by simp⟩
  ·obtain ⟨i1, i2⟩ := nS (c0 := c0) z
   exact ⟨fun c hc => List.mem_append_right _ (List.mem_cons_of_mem _ (i1 c hc)), by simp; omega⟩
theorem iC {x w : Str} {c0 : Nat} (h : w ∈ Txt.split x ⟨#[c0]⟩) : (∀ c ∈ chs w, c ∈ chs x) /\ w.length <= x.length := by
 have e := congrArg chs (StrLaws.join_split x ⟨#[c0]⟩)
 rw [dH] at e
 obtain ⟨i1, i2⟩ := nS (c0 := c0) (List.mem_map.mpr ⟨w, h, rfl⟩)
 rw [e] at i1 i2
 exact ⟨i1, by rw [aV, aV]; exact i2⟩
noncomputable def mapO {α β : Type} (f : α -> Option β) : List α -> Option (List β)
 | [] => some []
 | a :: r => (f a).bind fun b => (mapO f r).map (b :: ·)
noncomputable def wds (x : Str) : List Str := Txt.split x (Str.ofString " ")
noncomputable def lsO (x : Str) : Option (List Int) := if chs x = [45] then some [] else mapO (fun w => yw (chs w)) (wds x)
def isN : PyData -> Bool
 | .none => true
 | _ => false
theorem dO {α β : Type} {f : α -> Option β} : ∀ {l : List α} {r : List β}, mapO f l = some r -> l.map f = r.map some
 | [], r, h => by cases h; rfl
 | a :: t, r, h => by
  unfold mapO at h
  obtain ⟨b, hb, h2⟩ := Option.bind_eq_some_iff.mp h
  obtain ⟨r', hr, rfl⟩ := Option.map_eq_some_iff.mp h2
  rw [List.map_cons, List.map_cons, hb, dO hr]
theorem fK {α β : Type} {f : α -> Option β} : ∀ {l : List α}, mapO f l = none -> ∃ a ∈ l, f a = none
 | [], h => by cases h
 | a :: t, h => by
  unfold mapO at h
  cases hf : f a with
  | none => exact ⟨a, by simp, hf⟩
  | some b =>
   rw [hf] at h
   have h' : mapO f t = none := by simpa using h
   obtain ⟨c, hc, e⟩ := fK h'
   exact ⟨c, by simp [hc], e⟩
theorem iU (x : Str) : (wds x).length <= x.length + 2 := fI x _
theorem lB {x w : Str} (h : w ∈ wds x) : (∀ c ∈ chs w, c ∈ chs x) /\ w.length <= x.length := by
 unfold wds at h
 rw [lq] at h
 exact iC h
theorem nU {x : Str} (h : ∀ c ∈ chs x, c < 128) (hl : x.length <= 900) : aD [.str x] = .ok (.sh (match lsO x with
  | some ps => encS ps
  | none => .none)) := by
 have hx1 : x.length <= 100000 := by omega
 unfold lsO
 by_cases hd : chs x = [45]
 ·have e : x = Str.ofString "-" := by rw [fj]; exact fk.mpr hd
  rw [if_pos hd]
  simp only [aD, bj]
  simp [e, encS]
 ·rw [if_neg hd]
  have e : ¬ x = Str.ofString "-" := fun z => hd (by rw [fj] at z; exact fk.mp z)
  have hwl := iU x
  have c1 : yN [none] yB br ((wds x).map PyData.str) = some ((wds x).map fun w => optD (yw (chs w))) := by
   have := cB (ρ := [none]) (te := br) (y := fun d => match d with | .str w => optD (yw (chs w)) | d => d) (ds := (wds x).map PyData.str) fun d hd' => by
    obtain ⟨w, hw, rfl⟩ := List.mem_map.mp hd'
    obtain ⟨m1, m2⟩ := lB hw
    have hf := qd (x := w) (fun c hc => h c (m1 c hc)) (by omega)
    dsimp only
    generalize optD (yw (chs w)) = r at hf ⊢
    exact ⟨_, by simp [br, hf]; rfl⟩
   rw [this, List.map_map]
   rfl
  generalize hL : ((wds x).map fun w => optD (yw (chs w))) = L at c1
  have c2 : yN [none] aZ bt L = some (L.filter isN) := by
   have := fH (ρ := [none]) (tc := aZ) (te := bt) (b := isN) (y := fun d => d) (ds := L) fun d hd' => by
    rw [<- hL] at hd'
    obtain ⟨w, _, rfl⟩ := List.mem_map.mp hd'
    cases yw (chs w) with
    | none => exact ⟨_, by simp [aZ, optD, isN]; rfl, fun _ => ⟨_, by simp [bt, optD]; rfl⟩⟩
    | some p => exact ⟨[some (.sh (.int p))], by simp [aZ, optD, isN, isB], fun z => by cases z⟩
   rw [this, List.map_id'']
   intro d; rfl
  have gN : SeqAt.shaped (.list (L.filter isN)) = true := (cX (n := 0) fun y hy => by
   have hy2 := (List.mem_filter.mp hy).2
   cases y with
   | none => exact me 0
   | _ => cases hy2).shaped (by decide)
  have g0 : SeqAt.shaped (.list []) = true := (cX (n := 50) (xs := []) fun x hx' => absurd hx' (by simp)).shaped (by decide)
  have qn := iP (L.filter isN)
  have hz1 : ((wds x).map PyData.str).length <= sizeLine := b9 (by rw [List.length_map]; omega)
  have hz2 : L.length <= sizeLine := b9 (by rw [<- hL, List.length_map]; omega)
  have pw := aN (wds x)
  have hpL : yh L = true := by
   rw [<- hL]
   induction wds x with
   | nil => rfl
   | cons a r ih => rw [List.map_cons, cn, ih]; cases yw (chs a) <;> rfl
  have hpN : yh (L.filter isN) = true := by
   clear c1 c2 gN qn hz2 hL
   induction L with
   | nil => rfl
   | cons a r ih =>
    rw [cn, Bool.and_eq_true] at hpL
    rw [List.filter_cons]
    split
    ·rw [cn, hpL.1, ih hpL.2]; rfl
    ·exact ih hpL.2
  cases hm : mapO (fun w => yw (chs w)) (wds x) with
  | none =>
   obtain ⟨w, hw, hp⟩ := fK hm
   have ne : (L.filter isN).isEmpty = false := by
    have : PyData.none ∈ L.filter isN := by
     rw [List.mem_filter]
     refine ⟨?_, rfl⟩
     rw [<- hL]
     exact List.mem_map.mpr ⟨w, hw, by rw [hp]; rfl⟩
    cases hq : L.filter isN with
    | nil => rw [hq] at this; simp at this
    | cons _ _ => rfl
   rw [ne] at qn
   dsimp only
   clear hL
   generalize L.filter isN = LN at c2 gN qn hpN
   generalize hW : (wds x).map PyData.str = WW at c1 hz1 pw
   have hsp : (Txt.split x (Str.ofString " ")).map PyData.str = WW := hW
   have hsl : (Txt.split x (Str.ofString " ")).length <= sizeLine := by rw [<- hW, List.length_map] at hz1; exact hz1
   simp only [aD, bj]
   simp -implicitDefEqProofs [e, hx1, hsp, hsl, c1, hz1, hz2, c2, gN, g0, qn, pw, hpL, hpN]
  | some ps =>
   have hps := dO hm
   have eL : L = ps.map PyData.int := by
    rw [<- hL]
    have : (wds x).map (fun w => optD (yw (chs w))) = ((wds x).map fun w => yw (chs w)).map optD := by rw [List.map_map]; rfl
    rw [this, hps, List.map_map]
    rfl
   have ne : (L.filter isN).isEmpty = true := by
    rw [eL]
    have : (ps.map PyData.int).filter isN = [] := by
     rw [List.filter_eq_nil_iff]
     intro d hd'
     obtain ⟨p, _, rfl⟩ := List.mem_map.mp hd'
     simp [isN]
    rw [this]; rfl
   rw [ne] at qn
   dsimp only
   have eE : encS ps = .tuple L := by rw [eL]; rfl
   rw [eE]
   clear hL eL eE
   generalize L.filter isN = LN at c2 gN qn hpN
   generalize hW : (wds x).map PyData.str = WW at c1 hz1 pw
   have hsp : (Txt.split x (Str.ofString " ")).map PyData.str = WW := hW
   have hsl : (Txt.split x (Str.ofString " ")).length <= sizeLine := by rw [<- hW, List.length_map] at hz1; exact hz1
   simp only [aD, bj]
   simp -implicitDefEqProofs [e, hx1, hsp, hsl, c1, hz1, hz2, c2, gN, g0, qn, pw, hpL, hpN]
noncomputable def rdO (n : Nat) (x : Str) : Option (List Int) := match lsO x with
 | some ps => if yT n (encS ps) = true then some ps else none
 | none => none
theorem nV {n : Nat} {x : Str} (hn : z7 n) (hl : x.length <= 900) : bc [.str x, .dict (ym n), .int n] = match rdO n x with
  | some ps => .ok (.sh (encS ps))
  | none => .exc "NoText" := by
 have hx1 : x.length <= 100000 := by omega
 have h16 := fm hn
 have hlog : ((n : Nat) : Int).natAbs.log2 < 1920 := by
  have : ((n : Nat) : Int).natAbs = n := by simp
  rw [this]
  have h2 := Nat.log2_lt (n := n) (k := 1920)
  by_cases h0 : n = 0
  ·subst h0; decide
  ·exact (h2 h0).mpr (Nat.lt_of_lt_of_le (by omega : n < 2 ^ 5) (Nat.pow_le_pow_right (by decide) (by decide)))
 have hlog' : n.log2 < 1920 := by simpa using hlog
 unfold rdO lsO
 by_cases hd : chs x = [45]
 ·have e : x = Str.ofString "-" := by rw [fj]; exact fk.mpr hd
  rw [if_pos hd]
  have hs : yT n (encS []) = true := rfl
  dsimp only
  rw [if_pos hs]
  dsimp only
  generalize ym n = W
  simp only [bc, cu]
  simp [e, encS]
 ·rw [if_neg hd]
  have e : ¬ x = Str.ofString "-" := fun z => hd (by rw [fj] at z; exact fk.mp z)
  have hwl := iU x
  have c1 : yN [none, some (.sh (.dict (ym n)))] yB cc ((wds x).map PyData.str) = some ((wds x).map fun w => .bool (inW n w)) := by
   have := cB (ρ := [none, some (.sh (.dict (ym n)))]) (te := cc) (y := fun d => match d with | .str w => .bool (inW n w) | d => d) (ds := (wds x).map PyData.str) fun d hd' => by
    obtain ⟨w, hw, rfl⟩ := List.mem_map.mp hd'
    have hi := xZ hn w
    dsimp only
    generalize ym n = W at hi ⊢
    exact ⟨_, by simp -implicitDefEqProofs [-iy, cc, hi]; rfl⟩
   rw [this, List.map_map]
   rfl
  have hb := fg (fun w => inW n w) (wds x)
  have hz1 : ((wds x).map PyData.str).length <= sizeLine := b9 (by rw [List.length_map]; omega)
  have pw := aN (wds x)
  have pb : yh ((wds x).map fun w => PyData.bool (inW n w)) = true := by
   induction wds x with
   | nil => rfl
   | cons a r ih => rw [List.map_cons, cn, ih]; rfl
  have hall : (((wds x).map fun w => inW n w).all id) = (wds x).all (inW n) := by rw [List.all_map]; rfl
  have hzb : ((wds x).map fun w => PyData.bool (inW n w)).length <= sizeLine := by rw [List.length_map]; rw [List.length_map] at hz1; exact hz1
  by_cases ha : (wds x).all (inW n) = true
  ·rw [ha] at hall
   cases hm : mapO (fun w => yw (chs w)) (wds x) with
   | none =>
    obtain ⟨w, hw, hp⟩ := fK hm
    have := List.all_eq_true.mp ha w hw
    unfold inW at this
    rw [hp] at this
    cases this
   | some ps =>
    have hps := dO hm
    have c2 : yN [none, some (.sh (.dict (ym n)))] yB cf ((wds x).map PyData.str) = some (ps.map PyData.int) := by
     have := cB (ρ := [none, some (.sh (.dict (ym n)))]) (te := cf) (y := fun d => match d with | .str w => optD (yw (chs w)) | d => d) (ds := (wds x).map PyData.str) fun d hd' => by
      obtain ⟨w, hw, rfl⟩ := List.mem_map.mp hd'
      have hi := List.all_eq_true.mp ha w hw
      unfold inW at hi
      dsimp only
      cases hp : yw (chs w) with
      | none => rw [hp] at hi; cases hi
      | some p =>
       rw [hp] at hi
       have hat := y0 hn hp (of_decide_eq_true hi)
       generalize ym n = W at hat ⊢
       exact ⟨_, by simp -implicitDefEqProofs [-gM, cf, hat, optD]; rfl⟩
     rw [this, List.map_map]
     have e2 : (wds x).map ((fun d => match d with | .str w => optD (yw (chs w)) | d => d) ∘ PyData.str) = ((wds x).map fun w => yw (chs w)).map optD := by rw [List.map_map]; rfl
     rw [e2, hps, List.map_map]
     rfl
    have hg := wC (n := 1) (t := encS ps) (n : Int) (d0 ps)
    have pp := dC ps
    dsimp only
    unfold encS at hg ⊢
    have hzp : (ps.map PyData.int).length <= sizeLine := by
     have := congrArg List.length hps
     rw [List.length_map, List.length_map] at this
     rw [List.length_map, <- this]
     rw [List.length_map] at hz1
     exact hz1
    clear hps hm
    generalize hP : ps.map PyData.int = PP at c2 hg pp hzp ⊢
    generalize ym n = W at c1 c2 ⊢
    generalize hB : ((wds x).map fun w => PyData.bool (inW n w)) = BB at c1 hb pb hzb
    generalize hW : (wds x).map PyData.str = WW at c1 c2 hz1 pw
    have hsp : (Txt.split x (Str.ofString " ")).map PyData.str = WW := hW
    have hsl : (Txt.split x (Str.ofString " ")).length <= sizeLine := by rw [<- hW, List.length_map] at hz1; exact hz1
    simp only [bc, cu]
    cases hs : yT n (.tuple PP) with
    | true =>
     rw [hs] at hg
     simp -implicitDefEqProofs [e, hx1, hsp, hsl, c1, hz1, hzb, hb, hall, c2, hzp, hg, pw, pb, pp, hs, hP]
    | false =>
     rw [hs] at hg
     simp -implicitDefEqProofs [e, hx1, hsp, hsl, c1, hz1, hzb, hb, hall, c2, hzp, hg, pw, pb, pp, hs]
  ·have ha' : (wds x).all (inW n) = false := by simpa using ha
   rw [ha'] at hall
   have hr : (match mapO (fun w => yw (chs w)) (wds x) with
     | some ps => if yT n (encS ps) = true then some ps else none
     | none => none) = none := by
    cases hm : mapO (fun w => yw (chs w)) (wds x) with
    | none => rfl
    | some ps =>
     have hps := dO hm
     dsimp only
     rw [if_neg]
     intro hs
     have so := ml.mp hs
     apply ha
     rw [List.all_eq_true]
     intro w hw
     have hmem : yw (chs w) ∈ (wds x).map fun w => yw (chs w) := List.mem_map.mpr ⟨w, hw, rfl⟩
     rw [hps] at hmem
     obtain ⟨p, hp, ep⟩ := List.mem_map.mp hmem
     unfold inW
     rw [<- ep]
     exact decide_eq_true (so.low p hp).2
   rw [hr]
   dsimp only
   generalize ym n = W at c1 ⊢
   generalize hB : ((wds x).map fun w => PyData.bool (inW n w)) = BB at c1 hb pb hzb
   generalize hW : (wds x).map PyData.str = WW at c1 hz1 pw
   have hsp : (Txt.split x (Str.ofString " ")).map PyData.str = WW := hW
   have hsl : (Txt.split x (Str.ofString " ")).length <= sizeLine := by rw [<- hW, List.length_map] at hz1; exact hz1
   simp only [bc, cu]
   simp -implicitDefEqProofs [e, hx1, hsp, hsl, c1, hz1, hzb, hb, hall, pw, pb, hlog']
theorem lC (d : PyData) (h : ∀ es, d ≠ .dict es) : cw [d] = .ok (.sh (.bool (isWh d))) := cL d h
theorem iD (t : PyData) (many : Int) : ∀ (ds : yb) (last : Int) (pv : Option SD), (∀ d ∈ ds, ∀ es, d ≠ .dict es) -> ∃ pv', forL (kN 3) aJ ds [some (.sh t), some (.sh (.int many)), some (.sh (.int last)), pv] = match yU many last ds with
  | some l => .nx [some (.sh t), some (.sh (.int many)), some (.sh (.int l)), pv']
  | none => .rt (.sh (.bool false))
 | [], last, pv, _ => ⟨pv, rfl⟩
 | d :: r, last, pv, h => by
  have hd := h d (List.mem_cons_self ..)
  rw [bW]
  by_cases hi : ∃ p, d = .int p
  ·obtain ⟨p, rfl⟩ := hi
   obtain ⟨pv', ih⟩ := iD t many r (absI p) (some (.sh (.int p))) fun d' hd' => h d' (List.mem_cons_of_mem _ hd')
   refine ⟨pv', ?_⟩
   rw [yU]
   unfold absI at ih ⊢
   by_cases h1 : (if p < 0 then -p else p) <= last
   ·simp [aJ, lC _ hd, isWh, h1]
   ·by_cases h2 : many < (if p < 0 then -p else p)
    ·simp [aJ, lC _ hd, isWh, h1, h2]
    ·simp [aJ, lC _ hd, isWh, h1, h2]
     exact ih
  ·have hw := kj (d := d) fun i e => hi ⟨i, e⟩
   have hs : yU many last (d :: r) = none := by
    cases d <;> first | rfl | exact absurd ⟨_, rfl⟩ hi
   refine ⟨none, ?_⟩
   rw [hs]
   simp [aJ, lC _ hd, hw]
theorem tJ (t : PyData) (many : Int) (h : ∀ es, t ≠ .dict es) (h2 : ∀ ds, t = .tuple ds -> ∀ d ∈ ds, ∀ es, d ≠ .dict es) : aW [t, .int many] = .ok (.sh (.bool (yT many t))) := by
 simp only [aW, cx]
 by_cases ht : ∃ ds, t = .tuple ds
 ·obtain ⟨ds, rfl⟩ := ht
  obtain ⟨pv', e⟩ := iD (.tuple ds) many ds 0 none (h2 ds rfl)
  have hi : isiD "tuple" (.tuple ds) = true := rfl
  cases hs : yU many 0 ds with
  | none => rw [hs] at e; simp [hi, e, yT, hs]
  | some l => rw [hs] at e; simp [hi, e, yT, hs]
 ·have hi : isiD "tuple" t = false := by cases t <;> first | rfl | exact absurd ⟨_, rfl⟩ ht | exact absurd rfl (h _)
  have hs : yT many t = false := by cases t <;> first | rfl | exact absurd ⟨_, rfl⟩ ht
  simp [g9 "tuple" h, hi, hs]
theorem qh {α : Type} {L : List α} : atI L (-1) = L.getLast? := by
 unfold atI ixN
 rw [if_neg (by decide), List.getLast?_eq_getElem?]
 cases L with
 | nil => rfl
 | cons a r =>
  rw [if_pos (by simp; omega)]
  show (a :: r)[_]? = _
  congr 1
  simp
  omega
theorem nW (L : yb) : cutD L none (some (-1)) = L.dropLast := by
 unfold cutD
 rw [HT.mS, List.drop_zero, Nat.sub_zero, List.dropLast_eq_take]
 congr 1
 unfold HT.sIx
 simp only [show (-1 : Int) < 0 by decide, if_true]
 omega
noncomputable def lns (T : Str) : List Str := Txt.split T (Str.ofString "\n")
theorem lD (T : Str) : (lns T).length <= T.length + 2 := fI T _
theorem lE {T w : Str} (h : w ∈ lns T) : (∀ c ∈ chs w, c ∈ chs T) /\ w.length <= T.length := by
 unfold lns at h
 rw [wD] at h
 exact iC h
theorem kq (T : Str) : lns T ≠ [] := fun z => by
 have := split_pos T (Str.ofString "\n")
 unfold lns at z
 rw [z] at this
 simp at this
noncomputable def zX (n : Nat) (T : Str) : Option (List (List Int)) := if (lns T).getLast (kq T) = Str.ofString "" /\ (lns T).dropLast.length <= 24 then mapO (rdO n) (lns T).dropLast else none
theorem gX {n : Nat} (hn : z7 n) : ∀ ls : List Str, (∀ x ∈ ls, x.length <= 900) -> yZ [none, some (.sh (.int n)), some (.sh (.dict (ym n)))] dF (ls.map PyData.str) = match mapO (rdO n) ls with
  | some L => .ok (yt L)
  | none => .exc "NoText"
 | [], _ => rfl
 | x :: r, h => by
  have hf := nV hn (h x (by simp))
  have ih := gX hn r fun y hy => h y (by simp [hy])
  rw [List.map_cons]
  unfold yZ mapO
  have ev : vE dF (([none, some (.sh (.int n)), some (.sh (.dict (ym n)))] : DEnv).set 0 (some (.sh (.str x)))) = match rdO n x with
    | some ps => .ok (encS ps, [some (.sh (.str x)), some (.sh (.int n)), some (.sh (.dict (ym n)))])
    | none => .exc "NoText" := by
   generalize ym n = W at hf ⊢
   cases hr : rdO n x with
   | none =>
    rw [hr] at hf
    dsimp only at hf
    simp -implicitDefEqProofs [dF, hf]
   | some ps =>
    rw [hr] at hf
    dsimp only at hf
    have pp := eg ps
    dsimp only
    generalize encS ps = P at hf pp ⊢
    simp -implicitDefEqProofs [dF, hf, pp]
  rw [ev, ih]
  cases rdO n x with
  | none => rfl
  | some ps =>
   cases mapO (rdO n) r with
   | none => rfl
   | some L => rfl
theorem tK {n : Nat} {T : Str} (hn : z7 n) (hl : T.length <= 900) : bM [.str T, .int n] = match zX n T with
  | some L => .ok (.ol (yt L))
  | none => .exc "NoText" := by
 have hx1 : T.length <= 100000 := by omega
 have h16 := fm hn
 have hf1 := lj (.int n) 16 (fun _ e => nomatch e)
 have h1n : 1 <= n := by rcases hn with h | h <;> omega
 have ht : isFr 16 (.int n) = true := by
  simp only [isFr, Bool.and_eq_true, decide_eq_true_eq]
  omega
 rw [ht] at hf1
 have hw := qa hn
 have is : isiD "str" (.str T) = true := rfl
 have hne := kq T
 have hll := lD T
 have hlm : ∀ x ∈ (lns T).dropLast, x.length <= 900 := fun x hx => by
  have := (lE (List.dropLast_subset _ hx)).2
  omega
 have hrl := gX hn (lns T).dropLast hlm
 have e1 : ((lns T).map PyData.str).getLast? = some (.str ((lns T).getLast hne)) := by
  rw [List.getLast?_map, List.getLast?_eq_some_getLast hne]
  rfl
 have e2 : ((lns T).map PyData.str).dropLast = (lns T).dropLast.map PyData.str := by rw [List.map_dropLast]
 have hz : ((lns T).dropLast.map PyData.str).length <= sizeLine := b9 (by rw [List.length_map, List.length_dropLast]; omega)
 have hlen : ((((lns T).dropLast.map PyData.str).length : Nat) : Int) = ((lns T).dropLast.length : Int) := by rw [List.length_map]
 have pw := aN (lns T)
 have pd := aN (lns T).dropLast
 unfold zX
 generalize (lns T).getLast hne = last at e1 ⊢
 have hsp : (Txt.split T (Str.ofString "\n")).map PyData.str = (lns T).map PyData.str := rfl
 generalize (lns T).map PyData.str = LL at e1 e2 pw hsp
 generalize (lns T).dropLast = D at e2 hz hlen pd hrl ⊢
 generalize D.map PyData.str = DD at e2 hz hlen pd hrl
 generalize ym n = W at hw hrl
 by_cases a1 : last = Str.ofString ""
 ·by_cases a2 : D.length <= 24
  ·rw [if_pos ⟨a1, a2⟩]
   have a2' : ¬ (24 : Int) < (DD.length : Int) := by rw [hlen]; omega
   simp only [bM, fJ]
   cases hm : mapO (rdO n) D with
   | none =>
    rw [hm] at hrl
    dsimp only at hrl ⊢
    simp -implicitDefEqProofs [hf1, is, hx1, hsp, e1, e2, a1, a2', hw, hz, hrl, pw, pd]
   | some L =>
    rw [hm] at hrl
    dsimp only at hrl ⊢
    have pE := bR L
    generalize yt L = EE at hrl pE ⊢
    simp -implicitDefEqProofs [hf1, is, hx1, hsp, e1, e2, a1, a2', hw, hz, hrl, pw, pd, pE]
  ·rw [if_neg (fun z => a2 z.2)]
   have a2' : (24 : Int) < (DD.length : Int) := by rw [hlen]; omega
   dsimp only
   simp only [bM, fJ]
   simp -implicitDefEqProofs [hf1, is, hx1, hsp, e1, e2, a1, a2', pw, pd]
 ·rw [if_neg (fun z => a1 z.1)]
  dsimp only
  simp only [bM, fJ]
  simp -implicitDefEqProofs [hf1, is, hx1, hsp, e1, e2, a1, pw, pd]
theorem jE {n : Nat} {t x2 : Option SD} : ∀ (ls : List Str) (acc : List (List Int)) (x4 x5 : Option SD), (∀ x ∈ ls, (∀ c ∈ chs x, c < 128) /\ x.length <= 900) -> acc.length + ls.length <= 900 -> ∃ y4 y5, forL (kN 4) aT (ls.map PyData.str) [t, some (.sh (.int n)), x2, some (.ol (yt acc)), x4, x5] = match mapO (rdO n) ls with
  | some L => .nx [t, some (.sh (.int n)), x2, some (.ol (yt (acc ++ L))), y4, y5]
  | none => .rt (.sh .none)
 | [], acc, x4, x5, _, _ => ⟨x4, x5, by simp [mapO]⟩
 | x :: r, acc, x4, x5, h, hl => by
  obtain ⟨hc, hx⟩ := h x (by simp)
  have hf := nU hc hx
  simp only [List.length_cons] at hl
  rw [List.map_cons, bW]
  cases hs : lsO x with
  | none =>
   refine ⟨none, none, ?_⟩
   rw [hs] at hf
   dsimp only at hf
   have hr : rdO n x = none := by unfold rdO; rw [hs]
   have hm : mapO (rdO n) (x :: r) = none := by unfold mapO; rw [hr]; rfl
   rw [hm]
   simp -implicitDefEqProofs [aT, hf]
  | some ps =>
   rw [hs] at hf
   dsimp only at hf
   have hg := tJ (encS ps) (n : Int) (d0 ps).nd (gO (d0 ps))
   have pp := eg ps
   have hisn : isB (encS ps) .none = some false := rfl
   cases hsay : yT n (encS ps) with
   | false =>
    refine ⟨none, none, ?_⟩
    rw [hsay] at hg
    have hr : rdO n x = none := by unfold rdO; rw [hs]; dsimp only; rw [if_neg (by rw [hsay]; simp)]
    have hm : mapO (rdO n) (x :: r) = none := by unfold mapO; rw [hr]; rfl
    rw [hm]
    generalize encS ps = P at hf hg pp hisn
    simp -implicitDefEqProofs [aT, hf, hg, hisn, pp]
   | true =>
    rw [hsay] at hg
    have hr : rdO n x = some ps := by unfold rdO; rw [hs]; dsimp only; rw [if_pos hsay]
    obtain ⟨y4, y5, ih⟩ := jE (t := t) (x2 := x2) r (acc ++ [ps]) (some (.sh (.str x))) (some (.sh (encS ps))) (fun y hy => h y (by simp [hy])) (by rw [List.length_append, List.length_singleton]; omega)
    refine ⟨y4, y5, ?_⟩
    have ea : yt (acc ++ [ps]) = yt acc ++ [encS ps] := by unfold yt; simp
    rw [ea] at ih
    have hm : mapO (rdO n) (x :: r) = (mapO (rdO n) r).map (ps :: ·) := by
     conv => lhs; unfold mapO
     rw [hr]
     rfl
    have hz : (yt acc).length < sizeLine := kU (by rw [ir]; omega)
    have pA := bR acc
    have fin : (match mapO (rdO n) (x :: r) with
      | some L => SOut.nx [t, some (.sh (.int n)), x2, some (.ol (yt (acc ++ L))), y4, y5]
      | none => .rt (.sh .none)) = match mapO (rdO n) r with
      | some L => SOut.nx [t, some (.sh (.int n)), x2, some (.ol (yt (acc ++ [ps] ++ L))), y4, y5]
      | none => .rt (.sh .none) := by
     rw [hm]
     cases mapO (rdO n) r with
     | none => rfl
     | some L => simp
    rw [fin, <- ih]
    generalize encS ps = P at hf hg pp hisn ⊢
    generalize yt acc = A at hz pA ⊢
    generalize r.map PyData.str = R
    simp -implicitDefEqProofs [aT, hf, hg, hisn, pp, hz, pA]
theorem wG {n : Nat} {T : Str} (hc : ∀ c ∈ chs T, c < 128) (hl : T.length <= 800) : ax [.str T, .int n] = .ok (match zX n T with
  | some L => .ol (yt L)
  | none => .sh .none) := by
 have hx1 : T.length <= 100000 := by omega
 have hne := kq T
 have hll := lD T
 have hlm : ∀ x ∈ (lns T).dropLast, (∀ c ∈ chs x, c < 128) /\ x.length <= 900 := fun x hx => by
  obtain ⟨m1, m2⟩ := lE (List.dropLast_subset _ hx)
  exact ⟨fun c h => hc c (m1 c h), by omega⟩
 have hdl : (lns T).dropLast.length + 1 = (lns T).length := by
  have := List.length_pos_iff.mpr hne
  rw [List.length_dropLast]; omega
 have e1 : atI ((lns T).map PyData.str) (-1) = some (.str ((lns T).getLast hne)) := by
  rw [qh, List.getLast?_map, List.getLast?_eq_some_getLast hne]
  rfl
 have e2 : cutD ((lns T).map PyData.str) none (some (-1)) = (lns T).dropLast.map PyData.str := by rw [nW, List.map_dropLast]
 have hlen : ((((lns T).map PyData.str).length : Nat) : Int) = ((lns T).dropLast.length : Int) + 1 := by rw [List.length_map]; omega
 have pw := aN (lns T)
 have pd := aN (lns T).dropLast
 unfold zX
 generalize (lns T).getLast hne = last at e1 ⊢
 have hsp : (Txt.split T (Str.ofString "\n")).map PyData.str = (lns T).map PyData.str := rfl
 obtain ⟨y4, y5, lp⟩ := jE (n := n) (t := some (.sh (.str T))) (x2 := some (.ol ((lns T).map PyData.str))) (lns T).dropLast [] none none hlm (by simp; omega)
 have hsl : (Txt.split T (Str.ofString "\n")).length = ((lns T).map PyData.str).length := by rw [List.length_map]; rfl
 generalize (lns T).map PyData.str = LL at e1 e2 pw hsp hlen lp hsl
 generalize (lns T).dropLast = D at e2 hlen pd lp ⊢
 generalize D.map PyData.str = DD at e2 pd lp
 have e0 : yt [] = [] := rfl
 rw [e0] at lp
 by_cases a1 : last = Str.ofString ""
 ·by_cases a2 : D.length <= 24
  ·rw [if_pos ⟨a1, a2⟩]
   have a2' : ¬ (25 : Int) < (LL.length : Int) := by rw [hlen]; omega
   simp only [ax, bb]
   cases hm : mapO (rdO n) D with
   | none =>
    rw [hm] at lp
    dsimp only at lp ⊢
    simp -implicitDefEqProofs [hx1, hsp, hsl, e1, e2, a1, a2', lp, pw, pd]
   | some L =>
    rw [hm] at lp
    dsimp only at lp ⊢
    rw [List.nil_append] at lp
    have pE := bR L
    generalize yt L = EE at lp pE ⊢
    simp -implicitDefEqProofs [hx1, hsp, hsl, e1, e2, a1, a2', lp, pw, pd, pE]
  ·rw [if_neg (fun z => a2 z.2)]
   have a2' : (25 : Int) < (LL.length : Int) := by rw [hlen]; omega
   dsimp only
   simp only [ax, bb]
   simp -implicitDefEqProofs [hx1, hsp, hsl, e1, a1, a2', pw, pd]
 ·rw [if_neg (fun z => a1 z.1)]
  dsimp only
  simp only [ax, bb]
  simp -implicitDefEqProofs [hx1, hsp, hsl, e1, a1, pw, pd]
theorem iE {n : Nat} {d : PyData} (h : bM [d, .int n] = .exc "NoText") : aH [d, .int n] = .ok (.sh (.bool true)) := by
 have k1 : cq (Str.ofString "NoText") = true := rfl
 have k2 : bH (Str.ofString "NoText") = true := rfl
 have k3 : bx (Str.ofString "NoText") = true := rfl
 simp only [aH, cR]
 simp -implicitDefEqProofs [A6, zQ, hAs, h, k1, k2, k3]
theorem mG {n : Nat} {d : PyData} (hn : z7 n) (hd : ∀ es, d ≠ .dict es) (hs : isiD "str" d = false) : bM [d, .int n] = .exc "NoText" := by
 have h16 := fm hn
 have hf1 := lj (.int n) 16 (fun _ e => nomatch e)
 have h1n : 1 <= n := by rcases hn with h | h <;> omega
 have ht : isFr 16 (.int n) = true := by
  simp only [isFr, Bool.and_eq_true, decide_eq_true_eq]
  omega
 rw [ht] at hf1
 simp only [bM, fJ]
 simp -implicitDefEqProofs [hf1, g9 "str" hd, hs]
def Asc (x : Str) : Prop := ∀ c ∈ chs x, c < 128
theorem iV {x y : Str} (hx : Asc x) (hy : Asc y) : Asc (x ++ y) := fun c hc => by
 rw [ba] at hc
 rcases List.mem_append.mp hc with z | z
 ·exact hx c z
 ·exact hy c z
theorem qi : (zg.all fun p => (chs (strI p)).all fun c => decide (c < 128)) = true := by decide +kernel
theorem kr {c0 : Nat} (h0 : c0 < 128) : ∀ {xs : List (List Nat)}, (∀ x ∈ xs, ∀ c ∈ x, c < 128) -> ∀ c ∈ jn c0 xs, c < 128
 | [], _, c, hc => by simp [jn] at hc
 | [x], h, c, hc => h x (by simp) c hc
 | x :: y :: r, h, c, hc => by
  have e : jn c0 (x :: y :: r) = x ++ c0 :: jn c0 (y :: r) := rfl
  rw [e] at hc
  rcases List.mem_append.mp hc with z | z
  ·exact h x (by simp) c z
  ·rcases List.mem_cons.mp z with z | z
   ·rw [z]; exact h0
   ·exact kr h0 (fun w hw => h w (by simp [hw])) c z
theorem nX {s : List Int} (h : Lo s) : Asc (yO s) := fun c hc => by
 unfold yO at hc
 split at hc
 ·rw [jB] at hc; simp at hc; omega
 ·rw [lq, dH] at hc
  refine kr (by decide) (fun x hx => ?_) c hc
  obtain ⟨w, hw, rfl⟩ := List.mem_map.mp hx
  obtain ⟨p, hp, rfl⟩ := List.mem_map.mp hw
  intro c hc
  have := List.all_eq_true.mp qi p (iS (h.1 p hp).1 (h.1 p hp).2)
  exact of_decide_eq_true (List.all_eq_true.mp this c hc)
theorem mH {ss : List (List Int)} (h : ∀ s ∈ ss, Lo s) : Asc (yL ss) := fun c hc => by
 rw [dN] at hc
 obtain ⟨l, hl, hc⟩ := List.mem_flatten.mp hc
 obtain ⟨s, hs, rfl⟩ := List.mem_map.mp hl
 rcases List.mem_append.mp hc with z | z
 ·exact nX (h s hs) c z
 ·simp at z; omega
noncomputable def TEN : List Str := [" ", "-", "0", "1", "9", "a", "+", "_", "\n", "\t"]
noncomputable def ODD : List Str := ["0", "00", "01", "-0", "--1", "-", "17", "6", "-16", "100", "", "a", "-3", "1"]
noncomputable def zI (w : Str) : Bool := decide ((chs w).length <= 3) && (chs w).all fun c => decide (c < 128)
theorem qj : TEN.all zI = true := by decide +kernel
theorem qk : ODD.all zI = true := by decide +kernel
theorem lF {l : List Str} (h : l.all zI = true) {k : Int} (h0 : 0 <= k) (h1 : k < l.length) : ∃ w : Str, atI (l.map PyData.str) k = some (.str w) /\ Asc w /\ w.length <= 3 := by
 have hk : k.toNat < l.length := by omega
 refine ⟨l[k.toNat], ?_, ?_, ?_⟩
 ·unfold atI ixN
  rw [if_pos h0, if_pos (by rw [List.length_map]; exact h1)]
  simp [hk]
 ·have := List.all_eq_true.mp h _ (List.getElem_mem hk)
  unfold zI at this
  rw [Bool.and_eq_true] at this
  exact fun c hc => of_decide_eq_true (List.all_eq_true.mp this.2 c hc)
 ·have := List.all_eq_true.mp h _ (List.getElem_mem hk)
  unfold zI at this
  rw [Bool.and_eq_true, decide_eq_true_eq] at this
  rw [aV]
  exact this.1
theorem nY {x : Str} (h : Asc x) (k : Nat) : Asc (Txt.slice x none (some (k : Int))) /\ (Txt.slice x none (some (k : Int))).length <= x.length := by
 refine ⟨fun c hc => ?_, Txt.slice_le _ _ _⟩
 rw [gU] at hc
 exact h c (List.mem_of_mem_take hc)
theorem jF {x : Str} (h : Asc x) (k : Nat) : Asc (Txt.slice x (some (k : Int)) none) /\ (Txt.slice x (some (k : Int)) none).length <= x.length := by
 refine ⟨fun c hc => ?_, Txt.slice_le _ _ _⟩
 rw [gW] at hc
 exact h c (List.mem_of_mem_drop hc)
theorem nZ {c0 : Nat} {w : List Nat} : ∀ (xs : List (List Nat)) (i : Nat), (jn c0 (xs.set i w)).length <= (jn c0 xs).length + w.length
 | [], i => by simp [jn]
 | [x], 0 => by show w.length <= x.length + w.length; omega
 | [x], i + 1 => by show x.length <= x.length + w.length; omega
 | x :: y :: r, 0 => by
  show (w ++ c0 :: jn c0 (y :: r)).length <= (x ++ c0 :: jn c0 (y :: r)).length + w.length
  simp; omega
 | x :: y :: r, i + 1 => by
  have ih := nZ (c0 := c0) (w := w) (y :: r) i
  have e : ∃ z s, (y :: r).set i w = z :: s := by cases i <;> exact ⟨_, _, rfl⟩
  obtain ⟨z, s, e⟩ := e
  have e1 : jn c0 ((x :: y :: r).set (i + 1) w) = x ++ c0 :: jn c0 ((y :: r).set i w) := by
   show jn c0 (x :: (y :: r).set i w) = _
   rw [e]; rfl
  rw [e1]
  show _ <= (x ++ c0 :: jn c0 (y :: r)).length + w.length
  simp only [List.length_append, List.length_cons]
  omega
theorem mI : ([24, 25].all fun k => decide ((chs (Txt.mul (Str.ofString "1\n") k)).length <= 60) && (chs (Txt.mul (Str.ofString "1\n") k)).all fun c => decide (c < 128)) = true := by decide +kernel
theorem gb (x y : Str) : (x ++ y).length = x.length + y.length := by rw [aV, ba, List.length_append, <- aV, <- aV]
theorem o4 {x : Str} {w cell : Int} (hx : Asc x) (hl : x.length <= 300) (hw : 0 <= w /\ w <= 6) (hc : 0 <= cell) : ∃ y : Str, aG [.str x, .int w, .int cell] = .ok (.sh (.str y)) /\ Asc y /\ y.length <= 700 := by
 have hz : x.length <= sizeLine := b9 (by omega)
 have hpos : (0 : Int) < (x.length : Int) + 1 := by omega
 obtain ⟨k, hk⟩ : ∃ k : Nat, cell % ((x.length : Int) + 1) = (k : Int) := ⟨(cell % ((x.length : Int) + 1)).toNat, by have := Int.emod_nonneg cell (b := (x.length : Int) + 1) (by omega); omega⟩
 obtain ⟨t1, t2⟩ := nY hx k
 obtain ⟨d1, d2⟩ := jF hx k
 by_cases w2 : w < 2
 ·obtain ⟨ch, a1, a2, a3⟩ := lF qj (k := cell / 7 % 10) (Int.emod_nonneg _ (by decide)) (by have := Int.emod_lt_of_pos (cell / 7) (b := 10) (by decide); exact this)
  have hA : atI [PyData.str " ", .str "-", .str "0", .str "1", .str "9", .str "a", .str "+", .str "_", .str "\n", .str "\t"] (cell / 7 % 10) = some (.str ch) := a1
  refine ⟨Txt.slice x none (some (k : Int)) ++ ch ++ Txt.slice x (some (k : Int)) none, ?_, iV (iV t1 a2) d1, by rw [gb, gb]; omega⟩
  have z1 : (Txt.slice x none (some (k : Int))).length + ch.length <= sizeLine := b9 (by omega)
  have z2 : (Txt.slice x none (some (k : Int)) ++ ch).length + (Txt.slice x (some (k : Int)) none).length <= sizeLine := b9 (by rw [gb]; omega)
  generalize hA1 : Txt.slice x none (some (k : Int)) = A1 at z1 z2 ⊢
  generalize hA2 : Txt.slice x (some (k : Int)) none = A2 at z2 ⊢
  simp only [aG, bE]
  simp -implicitDefEqProofs [hz, hpos, hk, w2, hA1, hA2, hA, z1, z2, yy, yh]
 ·by_cases w4 : w < 4
  ·obtain ⟨b1, b2⟩ := jF hx (k + 1)
   have ek : ((k + 1 : Nat) : Int) = (k : Int) + 1 := by omega
   rw [ek] at b1 b2
   refine ⟨Txt.slice x none (some (k : Int)) ++ Txt.slice x (some ((k : Int) + 1)) none, ?_, iV t1 b1, by rw [gb]; omega⟩
   have z1 : (Txt.slice x none (some (k : Int))).length + (Txt.slice x (some ((k : Int) + 1)) none).length <= sizeLine := b9 (by omega)
   generalize hA1 : Txt.slice x none (some (k : Int)) = A1 at z1 ⊢
   generalize hA2 : Txt.slice x (some ((k : Int) + 1)) none = A2 at z1 ⊢
   simp only [aG, bE]
   simp -implicitDefEqProofs [hz, hpos, hk, w2, w4, hA1, hA2, z1, yy, yh]
  ·by_cases w5 : w = 4
   ·have hm : (24 : Int) + cell % 2 = 24 \/ (24 : Int) + cell % 2 = 25 := by omega
    have hf := List.all_eq_true.mp mI (24 + cell % 2) (by simp; omega)
    rw [Bool.and_eq_true, decide_eq_true_eq] at hf
    have m1 : (0 : Int) <= 24 + cell % 2 := by omega
    have m2 : 24 + cell % 2 < 1000 := by omega
    have m3 : (Str.ofString "1\n").length < 1000 := by decide +kernel
    refine ⟨Txt.mul (Str.ofString "1\n") (24 + cell % 2), ?_, fun c hc => of_decide_eq_true (List.all_eq_true.mp hf.2 c hc), by rw [aV]; omega⟩
    generalize hM : Txt.mul (Str.ofString "1\n") (24 + cell % 2) = M
    simp only [aG, bE]
    simp -implicitDefEqProofs [hz, hpos, hk, w2, w4, w5, m1, m2, m3, hM]
   ·have hx1 : x.length <= 100000 := by omega
    have hwl := iU x
    have hwp : 0 < (wds x).length := by
     have := split_pos x (Str.ofString " ")
     exact this
    obtain ⟨od, o1, o2, o3⟩ := lF qk (k := cell % 14) (Int.emod_nonneg _ (by decide)) (by have := Int.emod_lt_of_pos cell (b := 14) (by decide); exact this)
    have hO : atI [PyData.str "0", .str "00", .str "01", .str "-0", .str "--1", .str "-", .str "17", .str "6", .str "-16", .str "100", .str "", .str "a", .str "-3", .str "1"] (cell % 14) = some (.str od) := o1
    obtain ⟨j, hj⟩ : ∃ j : Nat, cell / 14 % ((wds x).length : Int) = (j : Int) := ⟨(cell / 14 % ((wds x).length : Int)).toNat, by have := Int.emod_nonneg (cell / 14) (b := ((wds x).length : Int)) (by omega); omega⟩
    have hjl : j < (wds x).length := by have := Int.emod_lt_of_pos (cell / 14) (b := ((wds x).length : Int)) (by omega); omega
    have hix : ixN (wds x).length (j : Int) = some j := by
     unfold ixN
     rw [if_pos (by omega), if_pos (by omega)]
     simp
    have eset : ((wds x).map PyData.str).set j (.str od) = ((wds x).set j od).map PyData.str := by rw [List.map_set]
    have hso := eh ((wds x).set j od)
    have hsw : ∀ v ∈ (wds x).set j od, Asc v /\ v.length <= 900 := fun v hv => by
     rcases List.mem_or_eq_of_mem_set hv with z | z
     ·obtain ⟨m1, m2⟩ := lB z
      exact ⟨fun c hc => hx c (m1 c hc), by omega⟩
     ·subst z; exact ⟨o2, by omega⟩
    have hjo : JoinOk (Str.ofString " ") ((wds x).set j od) = true := by
     unfold JoinOk
     have hf := StrLaws.joinFits (sep := Str.ofString " ") (texts := (wds x).set j od) (B := 900) (fun y hy => (hsw y hy).2) (by
      have : (Str.ofString " ").length = 1 := by decide +kernel
      rw [this, List.length_set]
      omega)
     rw [hf]
     rfl
    have ech : chs (Str.join (Str.ofString " ") ((wds x).set j od)) = jn 32 (((wds x).set j od).map chs) := by rw [lq]; exact dH 32 _
    refine ⟨Str.join (Str.ofString " ") ((wds x).set j od), ?_, fun c hc => ?_, ?_⟩
    ·have pw := aN (wds x)
     have pw2 := aN ((wds x).set j od)
     have hsp : (Txt.split x (Str.ofString " ")).map PyData.str = (wds x).map PyData.str := rfl
     have hlen : ((wds x).map PyData.str).length = (wds x).length := by rw [List.length_map]
     have hsl : (Txt.split x (Str.ofString " ")).length = (wds x).length := rfl
     generalize (wds x).set j od = TS at eset hso hjo pw2 ⊢
     generalize TS.map PyData.str = SS at eset hso pw2
     generalize (wds x).map PyData.str = LL at hsp hlen eset pw
     have hm0 : (0 : Int) < ((wds x).length : Int) := by omega
     have hm1 : ¬ ((wds x).length : Int) = 0 := by omega
     generalize (wds x).length = m at hj hix hlen hsl hm0 hm1
     have hm2 : 0 < m := by omega
     simp only [aG, bE]
     simp -implicitDefEqProofs [hz, hpos, hk, w2, w4, w5, hx1, hsp, hsl, hlen, hO, hm0, hm1, hm2, hj, hix, eset, hso, hjo, pw, pw2, yy, yh]
    ·rw [ech] at hc
     refine kr (by decide) (fun v hv => ?_) c hc
     obtain ⟨u, hu, rfl⟩ := List.mem_map.mp hv
     exact (hsw u hu).1
    ·have e := congrArg chs (StrLaws.join_split x ⟨#[32]⟩)
     rw [dH] at e
     have hws : Txt.split x ⟨#[32]⟩ = wds x := by unfold wds; rw [lq]
     rw [hws] at e
     have := nZ (c0 := 32) (w := chs od) ((wds x).map chs) j
     rw [e, <- List.map_set] at this
     rw [aV, ech]
     rw [aV] at hl o3
     omega
theorem jG {ns : List Int} {at_ many most : Int} (hm : 0 < many) : ∀ s ∈ zv ns at_ many most, s.length <= 3 := fun s hs => by
 obtain ⟨k, _, rfl⟩ := List.mem_map.mp hs
 exact (kY hm).2
noncomputable def zx : DS := sSeq (sAsg 2 (yj ao [.nm 0, .ex (eC (.int 41)), .ex (eC (.int 7))])) (sSeq (sAsg 3 (yj ao [.nm 0, .ex (eC (.int 42)), .ex (eOp dPow [.ex (eC (.int 10)), .ex (eC (.int 6))])])) (sSeq (sIf (zo (tstV (eOp dEq [.nm 2, .ex (eC (.int 6))])) (tstV (eOp dEq [.ex (eOp dMod [.nm 3, .ex (eC (.int 5))]), .ex (eC (.int 0))]))) (sRet (yj aH [.ex (eOp yE [.ex (eOp dLst [.ex (eC .none), .ex (eC (.int 1)), .ex (eOp dLst [.ex (eC (.str "1"))]), .ex (eOp dTup [.ex (eC (.int 1))]), .ex (eC (.bool true))]), .ex (eOp dMod [.ex (eOp zr [.nm 3, .ex (eC (.int 5))]), .ex (eC (.int 5))])]), .nm 1])) (yp)) (sSeq (sAsg 4 (yj aG [.ex (yj b5 [.ex (yj b4 [.nm 0, .ex (eC (.int 1)), .nm 1, .ex (eC (.int 9))])]), .nm 2, .nm 3])) (sSeq (sAsg 5 (yj ax [.nm 4, .nm 1])) (sSeq (sIf (tstV (eOp dIs [.nm 5, .ex (eC .none)])) (sRet (yj aH [.nm 4, .nm 1])) (yp)) (sRet (eOp dEq [.ex (yj bM [.nm 4, .nm 1]), .nm 5])))))))
theorem tL {k : Int} (h0 : 0 <= k) (h1 : k < 5) : ∃ d : PyData, atI [PyData.none, .int 1, .list [.str "1"], .tuple [.int 1], .bool true] k = some d /\ (∀ es, d ≠ .dict es) /\ isiD "str" d = false := by
 rcases (by omega : k = 0 \/ k = 1 \/ k = 2 \/ k = 3 \/ k = 4) with rfl | rfl | rfl | rfl | rfl
 ·exact ⟨.none, rfl, fun _ e => (nomatch e), rfl⟩
 ·exact ⟨.int 1, rfl, fun _ e => (nomatch e), rfl⟩
 ·exact ⟨.list [.str "1"], rfl, fun _ e => (nomatch e), rfl⟩
 ·exact ⟨.tuple [.int 1], rfl, fun _ e => (nomatch e), rfl⟩
 ·exact ⟨.bool true, rfl, fun _ e => (nomatch e), rfl⟩
theorem jH {ns : List Int} {n : Nat} (hn : z7 n) : zx [some (.sh (scr ns)), some (.sh (.int n)), none, none, none, none] = .rt (.sh (.bool true)) := by
 have h16 : n <= 16 := fm hn
 have h1 : 1 <= n := by unfold z7 at hn; omega
 have hm1 := fU ns 41 7 (by decide) (by decide)
 have w0 := cy ns 41 (m := 7) (by decide)
 have w1 := cJ ns 41 (m := 7) (by decide)
 have hm2 := fU ns 42 1000000 (by decide) (by decide)
 have c0 := cy ns 42 (m := 1000000) (by decide)
 have hpow : dPow [.int 10, .int 6] = some (.sh (.int 1000000)) := rfl
 generalize mixZ ns 41 7 = w at hm1 w0 w1
 generalize mixZ ns 42 1000000 = cell at hm2 c0
 by_cases hq : w = 6 /\ cell % 5 = 0
 ·obtain ⟨q1, q2⟩ := hq
  obtain ⟨d, d1, d2, d3⟩ := tL (k := cell / 5 % 5) (Int.emod_nonneg _ (by decide)) (Int.emod_lt_of_pos _ (by decide))
  have hr := iE (mG hn d2 d3)
  generalize scr ns = sc at hm1 hm2 ⊢
  simp -implicitDefEqProofs [zx, hm1, hpow, hm2, q1, q2, d1, hr, yy, yh]
 ·have hsy := tD ns 1 n 9 (by decide) (by omega) (by omega) (by decide) (by decide)
  have hl := mn (ns := ns) (at_ := 1) (many := n) (most := 9) (by decide)
  have hok := nD (ns := ns) (at_ := 1) (many := n) (most := 9) (by omega)
  have hsh := jG (ns := ns) (at_ := 1) (many := n) (most := 9) (by omega)
  generalize zv ns 1 n 9 = ss at hsy hl hok hsh
  have hle : ss.length <= 9 := by simpa using hl
  have hlo : ∀ s ∈ ss, Lo s := fun s hs => ⟨fun p hp => by have := (hok s hs).low p hp; omega, hsh s hs⟩
  have e2 := mF hlo (by omega)
  have hsl := mE hlo
  obtain ⟨y, y1, y2, y3⟩ := o4 (w := w) (cell := cell) (mH hlo) (by omega) ⟨w0, by omega⟩ c0
  have hso := wG (n := n) y2 (by omega)
  have hrd := tK hn (T := y) (by omega)
  have pS := bR ss
  have hz : (yt ss).length <= sizeLine := b9 (by rw [ir]; omega)
  have hqq : (w = 6 -> ¬ cell % 5 = 0) := fun a b => hq ⟨a, b⟩
  generalize yL ss = SH at e2 y1
  generalize yt ss = S at hsy e2 pS hz
  generalize scr ns = sc at hm1 hm2 hsy ⊢
  cases hr : zX n y with
  | none =>
   rw [hr] at hso hrd
   dsimp only at hso hrd
   have hre := iE hrd
   by_cases q1 : w = 6
   ·have q2 := hqq q1
    subst q1
    simp -implicitDefEqProofs [zx, hm1, hpow, hm2, q2, hsy, e2, y1, hso, hre, pS, hz]
   ·simp -implicitDefEqProofs [zx, hm1, hpow, hm2, q1, hsy, e2, y1, hso, hre, pS, hz]
  | some L =>
   rw [hr] at hso hrd
   dsimp only at hso hrd
   have shL : SeqAt.shaped (.list (yt L)) = true := (cX (gS L)).shaped (by decide)
   have qL := js _ (cX (gS L)).1
   have pL := bR L
   have isn : isB (.list (yt L)) .none = some false := rfl
   generalize yt L = LL at hso hrd shL qL pL isn
   by_cases q1 : w = 6
   ·have q2 := hqq q1
    subst q1
    simp -implicitDefEqProofs [zx, hm1, hpow, hm2, q2, hsy, e2, y1, hso, hrd, pS, hz, shL, qL, pL, isn]
   ·simp -implicitDefEqProofs [zx, hm1, hpow, hm2, q1, hsy, e2, y1, hso, hrd, pS, hz, shL, qL, pL, isn]
theorem law_holds (ns : List Int) : lh [scr ns] = .ok (.sh (.bool true)) := by
 have a0 := cy ns 0 (m := 5) (by decide)
 have a1 := cJ ns 0 (m := 5) (by decide)
 have hm := fU ns 0 5 (by decide) (by decide)
 have hm4 := fU ns 40 3 (by decide) (by decide)
 obtain ⟨n, hnI⟩ : ∃ n : Nat, 1 + mixZ ns 0 5 = (n : Int) := ⟨(1 + mixZ ns 0 5).toNat, by omega⟩
 have hr := jH (ns := ns) (n := n) (.inl ⟨by omega, by omega⟩)
 have hr16 := jH (ns := ns) (n := 16) (.inr rfl)
 have eB : nO = sSeq (sAsg 1 (eOp dAdd [.ex (eC (.int 1)), .ex (yj ao [.nm 0, .ex (eC (.int 0)), .ex (eC (.int 5))])])) (sSeq (sIf (tstV (eOp dEq [.ex (yj ao [.nm 0, .ex (eC (.int 40)), .ex (eC (.int 3))]), .ex (eC (.int 0))])) (sAsg 1 (eC (.int 16))) (yp)) zx) := rfl
 simp only [lh]
 rw [eB]
 generalize zx = R at hr hr16 ⊢
 generalize mixZ ns 40 3 = q at hm4
 generalize scr ns = sc at *
 have c16 : ((16 : Nat) : Int) = 16 := rfl
 rw [c16] at hr16
 by_cases hq : q = 0
 ·simp -implicitDefEqProofs [hm, hnI, hm4, hq, hr16]
 ·simp -implicitDefEqProofs [hm, hnI, hm4, hq, hr]
theorem bnd1 {p : List Value -> Prop} (h : ∀ a, p [a]) (us : List Value) (e : us.length = 1) : p us := match us, e with | [a], _ => h a
theorem bnd2 {p : List Value -> Prop} (h : ∀ a b, p [a, b]) (us : List Value) (e : us.length = 2) : p us := match us, e with | [a, b], _ => h a b
theorem bnd3 {p : List Value -> Prop} (h : ∀ a b c, p [a, b, c]) (us : List Value) (e : us.length = 3) : p us := match us, e with | [a, b, c], _ => h a b c
theorem bnd4 {p : List Value -> Prop} (h : ∀ a b c d, p [a, b, c, d]) (us : List Value) (e : us.length = 4) : p us := match us, e with | [a, b, c, d], _ => h a b c d
noncomputable def top (i : Nat) : Stmt := PySem.Challenge.pw_sayhall_k14_texts_refused.main.body.getD i (.Pass ⟨0, 0, 0, 0⟩)
abbrev bY : Stmt := top 6
abbrev gY : List Str := ["value"]
theorem jI : yn gY ["value"] (yf bY) := ⟨rfl, rfl, rfl, by decide +kernel, rfl, by decide +kernel, by decide +kernel⟩
abbrev aP : Stmt := top 7
abbrev d4 : List Str := ["value", "most"]
theorem fo : yn d4 ["value", "most"] (yf aP) := ⟨rfl, rfl, rfl, by decide +kernel, rfl, by decide +kernel, by decide +kernel⟩
abbrev bN : Stmt := top 8
abbrev fV : List Str := ["thing", "many", "last", "part"]
theorem cA : yn fV ["thing", "many"] (yf bN) := ⟨rfl, rfl, rfl, by decide +kernel, rfl, by decide +kernel, by decide +kernel⟩
abbrev aQ : Stmt := top 12
abbrev d5 : List Str := ["many", "found", "thing", "part"]
theorem bu : yn d5 ["many"] (yf aQ) := ⟨rfl, rfl, rfl, by decide +kernel, rfl, by decide +kernel, by decide +kernel⟩
abbrev bf : Stmt := top 13
abbrev cM : List Str := ["line", "part_by_word", "many", "words", "saying"]
theorem dj : yn cM ["line", "part_by_word", "many"] (yf bf) := ⟨rfl, rfl, rfl, by decide +kernel, rfl, by decide +kernel, by decide +kernel⟩
abbrev eu : Stmt := top 11
abbrev ku : List Str := ["text", "many", "lines", "part_by_word"]
theorem iW : yn ku ["text", "many"] (yf eu) := ⟨rfl, rfl, rfl, by decide +kernel, rfl, by decide +kernel, by decide +kernel⟩
abbrev bp : Stmt := top 15
abbrev dU : List Str := ["_law_script", "_law_k"]
theorem gZ : yn dU ["_law_script", "_law_k"] (yf bp) := ⟨rfl, rfl, rfl, by decide +kernel, rfl, by decide +kernel, by decide +kernel⟩
abbrev bO : Stmt := top 16
abbrev fW : List Str := ["_law_script", "_law_k", "_law_many", "_law_drawn"]
theorem fq : yn fW ["_law_script", "_law_k", "_law_many"] (yf bO) := ⟨rfl, rfl, rfl, by decide +kernel, rfl, by decide +kernel, by decide +kernel⟩
abbrev bg : Stmt := top 17
abbrev dk : List Str := ["_law_script", "_law_at", "_law_many", "_law_parts", "_law_k", "_law_thing"]
theorem cg : yn dk ["_law_script", "_law_at", "_law_many"] (yf bg) := ⟨rfl, rfl, rfl, by decide +kernel, rfl, by decide +kernel, by decide +kernel⟩
abbrev b7 : Stmt := top 18
abbrev cS : List Str := ["_law_script", "_law_at", "_law_many", "_law_most"]
theorem h8 : yn cS ["_law_script", "_law_at", "_law_many", "_law_most"] (yf b7) := ⟨rfl, rfl, rfl, by decide +kernel, rfl, by decide +kernel, by decide +kernel⟩
abbrev bP : Stmt := top 19
abbrev fX : List Str := ["_law_found"]
theorem iX : yn fX ["_law_found"] (yf bP) := ⟨rfl, rfl, rfl, by decide +kernel, rfl, by decide +kernel, by decide +kernel⟩
abbrev aX : Stmt := top 20
abbrev dn : List Str := ["_law_thing", "_law_many", "_law_last", "_law_part_here"]
theorem bF : yn dn ["_law_thing", "_law_many"] (yf aX) := ⟨rfl, rfl, rfl, by decide +kernel, rfl, by decide +kernel, by decide +kernel⟩
abbrev b8 : Stmt := top 21
abbrev cT : List Str := ["_law_sayings_here", "_law_made", "_law_saying_here"]
theorem bB : yn cT ["_law_sayings_here"] (yf b8) := ⟨rfl, rfl, rfl, by decide +kernel, rfl, by decide +kernel, by decide +kernel⟩
abbrev bZ : Stmt := top 22
abbrev h9 : List Str := ["_law_word", "_law_figures", "_law_made", "_law_sign"]
theorem bQ : yn h9 ["_law_word"] (yf bZ) := ⟨rfl, rfl, rfl, by decide +kernel, rfl, by decide +kernel, by decide +kernel⟩
abbrev aE : Stmt := top 23
abbrev bL : List Str := ["_law_line", "_law_parts"]
theorem d6 : yn bL ["_law_line"] (yf aE) := ⟨rfl, rfl, rfl, by decide +kernel, rfl, by decide +kernel, by decide +kernel⟩
abbrev aR : Stmt := top 24
abbrev d7 : List Str := ["_law_text", "_law_many", "_law_lines", "_law_made", "_law_line", "_law_saying_here"]
theorem b3 : yn d7 ["_law_text", "_law_many"] (yf aR) := ⟨rfl, rfl, rfl, by decide +kernel, rfl, by decide +kernel, by decide +kernel⟩
abbrev bG : Stmt := top 25
abbrev ft : List Str := ["_law_text", "_law_way", "_law_cell", "_law_at", "_law_words", "_law_odd"]
theorem cj : yn ft ["_law_text", "_law_way", "_law_cell"] (yf bG) := ⟨rfl, rfl, rfl, by decide +kernel, rfl, by decide +kernel, by decide +kernel⟩
abbrev bq : Stmt := top 26
abbrev dW : List Str := ["_law_text", "_law_many", "_law_refused_here", "e"]
theorem bC : yn dW ["_law_text", "_law_many"] (yf bq) := ⟨rfl, rfl, rfl, by decide +kernel, rfl, by decide +kernel, by decide +kernel⟩
abbrev fv : Stmt := top 27
abbrev qN : List Str := ["_law_script", "_law_many", "_law_way", "_law_cell", "_law_text", "_law_due"]
theorem ez : yn qN ["_law_script"] (yf fv) := ⟨rfl, rfl, rfl, by decide +kernel, rfl, by decide +kernel, by decide +kernel⟩
structure Txt (K : W.Frag) (mg : yc) (C_NoText : Addr) (C_SayError : Addr) : Prop where
 n_ValueError : mg "ValueError" = none
 n_abs : mg "abs" = none
 n_all : mg "all" = none
 n_bool : mg "bool" = none
 n_int : mg "int" = none
 n_isinstance : mg "isinstance" = none
 n_len : mg "len" = none
 n_list : mg "list" = none
 n_range : mg "range" = none
 n_sorted : mg "sorted" = none
 n_str : mg "str" = none
 n_tuple : mg "tuple" = none
 c_MOST_SAYINGS : ∃ t, mg "MOST_SAYINGS" = some (.int 24 t)
 c_MOST_THINGS : ∃ t, mg "MOST_THINGS" = some (.int 16 t)
 c_NO_PARTS : ∃ t, mg "NO_PARTS" = some (.str "-" t)
 k_NoText : mg "NoText" = some (.ref C_NoText)
 k_SayError : mg "SayError" = some (.ref C_SayError)
 x_NoText : PySem.W.excIn K C_NoText [.type "ValueError", .type "Exception", .type "BaseException", .type "object"] "ValueError.__new__" = true
 t_NoText : Cat K mg (.ref C_NoText) cq
 t_SayError : Cat K mg (.ref C_SayError) bH
 i_ValueError : CatI K mg (.type "ValueError") bx
section
variable {P : Program} {w : World} {K : W.Frag} {mg : yc} {base : Heap} {C_NoText C_SayError : Addr}
theorem i0 {f : Addr} {fd : FuncData} (F : Fun K "_law_spoilt" "_law_spoilt" bG f fd) (T : Txt K mg C_NoText C_SayError) : FnOk P w K mg base (CXe P w) 1 f fd ["_law_text", "_law_way", "_law_cell"] (spD K mg aG) := by
 refine aK (N := ft) (fb := bE) F cj fun cdv A outer s H E hr => ?_
 have hu := hr.units
 exact QSS.out (cF (.of (au 3 cj.nd (cD (af 2) (ae (aI (ae (cK T.n_len (af 0))) (ae (ag))))))) (cF (wz (kP (af 1) (ae (ag))) (lg (tq (qM (tm (qM (.of (ae (fh (af 0) (af 3)))) (tm (wy hu (tm (qK (ss := [Str.ofString " ", Str.ofString "-", Str.ofString "0", Str.ofString "1", Str.ofString "9", Str.ofString "a", Str.ofString "+", Str.ofString "_", Str.ofString "\n", Str.ofString "\t"]) rfl rfl)) (.of (ae (cD (ae (g8 (af 2) (ae (ag)))) (ae (ag))))))))) (.of (ae (iR (af 0) (af 3))))))) pU) (cF (.of (aY (kP (af 1) (ae (ag))) (ai (av (aI (ae (fh (af 0) (af 3))) (ae (iR (af 0) (ae (aI (af 3) (ae (ag))))))))) (aF))) (cF (.of (aY (du hu (af 1) (ae (ag))) (ai (av (bS (ae (bV)) (ae (aI (ae (ag)) (ae (cD (af 2) (ae (ag))))))))) (aF))) (cF (.of (au 4 cj.nd (cY 0))) (cF (tu 5 cj.nd (qK (ss := [Str.ofString "0", Str.ofString "00", Str.ofString "01", Str.ofString "-0", Str.ofString "--1", Str.ofString "-", Str.ofString "17", Str.ofString "6", Str.ofString "-16", Str.ofString "100", Str.ofString "", Str.ofString "a", Str.ofString "-3", Str.ofString "1"]) rfl rfl)) (cF (.of (pF 4 (ae (cb hu (af 5) (ae (cD (af 2) (ae (ag)))))) (ae (cD (ae (g8 (af 2) (ae (ag)))) (ae (cK T.n_len (af 4))))))) (lg (.of (av (jx (af 4))))))))))))
end
section
variable {P : Program} {w : World} {K : W.Frag} {mg : yc} {base : Heap} {C_NoText C_SayError : Addr}
theorem tM {f : Addr} {fd : FuncData} (F : Fun K "law" "law" fv f fd) (T : Txt K mg C_NoText C_SayError) (D_law_mixed : DefD P w K mg base "_law_mixed" 2 ao) (D_law_refused : DefD P w K mg base "_law_refused" 5 aH) (D_law_spoilt : DefD P w K mg base "_law_spoilt" 1 aG) (D_law_written : DefD P w K mg base "_law_written" 1 b5) (D_law_sayings : DefD P w K mg base "_law_sayings" 4 b4) (D_law_sayings_of : DefD P w K mg base "_law_sayings_of" 3 ax) (D_read : DefD P w K mg base "read" 4 bM) : FnOk P w K mg base (CXe P w) 6 f fd ["_law_script"] (spD K mg lh) := by
 refine aK (N := qN) (fb := nO) F ez fun cdv A outer s H E hr => ?_
 have hu := hr.units
 exact ah (au 1 ez.nd (aI (ae (ag)) (ae (aw D_law_mixed hr yC (aa (af 0) (aa (ae (ag)) (aa (ae (ag)) (aj)))))))) (ah (aY (du hu (ae (aw D_law_mixed hr yC (aa (af 0) (aa (ae (ag)) (aa (ae (ag)) (aj)))))) (ae (ag))) (ai (au 1 ez.nd (ag))) (aF)) (ah (au 2 ez.nd (aw D_law_mixed hr yC (aa (af 0) (aa (ae (ag)) (aa (ae (ag)) (aj)))))) (ah (au 3 ez.nd (aw D_law_mixed hr yC (aa (af 0) (aa (ae (ag)) (aa (ae (rQ (ae (ag)) (ae (ag)))) (aj)))))) (ah (aY (m4 (rT (du hu (af 2) (ae (ag))) (p7 (du hu (ae (cD (af 3) (ae (ag)))) (ae (ag)))))) (ai (av (aw D_law_refused hr yC (aa (ae (cb hu (ae (e6 (aa (ae (d8)) (aa (ae (ag)) (aa (ae (e6 (aa (ae (bV)) (aj)))) (aa (ae (gx (aa (ae (ag)) (aj)))) (aa (ae (fQ)) (aj)))))))) (ae (cD (ae (g8 (af 3) (ae (ag)))) (ae (ag)))))) (aa (af 1) (aj)))))) (aF)) (ah (au 4 ez.nd (aw D_law_spoilt hr yC (aa (ae (aw D_law_written hr yC (aa (ae (aw D_law_sayings hr yC (aa (af 0) (aa (ae (ag)) (aa (af 1) (aa (ae (ag)) (aj))))))) (aj)))) (aa (af 2) (aa (af 3) (aj)))))) (ah (au 5 ez.nd (aw D_law_sayings_of hr yC (aa (af 4) (aa (af 1) (aj))))) (ah (aY (nE (af 5) (ae (d8))) (ai (av (aw D_law_refused hr yC (aa (af 4) (aa (af 1) (aj)))))) (aF)) (ai (av (qr hu (ae (aw D_read hr yC (aa (af 4) (aa (af 1) (aj))))) (af 5)))))))))))
end
section
variable {P : Program} {w : World} {K : W.Frag} {mg : yc} {base : Heap} {C_NoText C_SayError : Addr}
theorem jJ {f : Addr} {fd : FuncData} (F : Fun K "is_whole" "is_whole" bY f fd) (T : Txt K mg C_NoText C_SayError) : FnOk P w K mg base (CXe P w) 1 f fd ["value"] (spD K mg bz) := by
 refine aK (N := gY) (fb := ei) F jI fun cdv A outer s H E hr => ?_
 have hu := hr.units
 exact ai (av (iN (e8 "int" T.n_isinstance T.n_int boot_int rfl boot_isinstance (af 0)) (jX (nu (e8 "bool" T.n_isinstance T.n_bool boot_bool rfl boot_isinstance (af 0))))))
theorem fw {f : Addr} {fd : FuncData} (F : Fun K "is_from_one_to" "is_from_one_to" aP f fd) (T : Txt K mg C_NoText C_SayError) (D_is_whole : DefD P w K mg base "is_whole" 1 bz) : FnOk P w K mg base (CXe P w) 2 f fd ["value", "most"] (spD K mg aO) := by
 refine aK (N := d4) (fb := bX) F fo fun cdv A outer s H E hr => ?_
 have hu := hr.units
 exact ai (av (iN (aw D_is_whole hr yC (aa (af 0) (aj))) (iN (va (af 0) (ae (ag))) (jX (v9 (af 0) (af 1))))))
theorem iY {f : Addr} {fd : FuncData} (F : Fun K "is_saying" "is_saying" bN f fd) (T : Txt K mg C_NoText C_SayError) (D_is_whole : DefD P w K mg base "is_whole" 1 bz) : FnOk P w K mg base (CXe P w) 2 f fd ["thing", "many"] (spD K mg bA) := by
 refine aK (N := fV) (fb := dE) F cA fun cdv A outer s H E hr => ?_
 have hu := hr.units
 exact ah (aY (dc (iM (ae (e8 "tuple" T.n_isinstance T.n_tuple boot_tuple rfl boot_isinstance (af 0))))) (ai (av (fQ))) (aF)) (ah (au 2 cA.nd (ag)) (ah (dz PassesOwn.leaving rfl (gC (lW 0)) (jj 3 cA.nd) (cH 3) (ah (aY (dc (iM (ae (aw D_is_whole hr yC (aa (af 3) (aj)))))) (ai (av (fQ))) (aF)) (ah (aY (m4 (gA (qt (ae (fG T.n_abs boot_abs (af 3))) (af 2)) (gz (jh (ae (fG T.n_abs boot_abs (af 3))) (af 1))))) (ai (av (fQ))) (aF)) (ai (au 2 cA.nd (fG T.n_abs boot_abs (af 3))))))) (ai (av (fQ)))))
theorem fx {f : Addr} {fd : FuncData} (F : Fun K "words_of_parts" "words_of_parts" aQ f fd) (T : Txt K mg C_NoText C_SayError) : FnOk P w K mg base (CXe P w) 1 f fd ["many"] (spD K mg aq) := by
 refine aK (N := d5) (fb := cZ) F bu fun cdv A outer s H E hr => ?_
 have hu := hr.units
 exact ah (au 1 bu.nd (je)) (ah (dz PassesOwn.leaving rfl (m7 T.n_range (ae (ag)) (ae (aI (af 0) (ae (ag))))) (jj 2 bu.nd) (cH 2) (ai (dz PassesOwn.leaving rfl (gC (gx (aa (af 2) (aa (ae (iL (af 2))) (aj))))) (jj 3 bu.nd) (cH 3) (ai (nv 1 hu (af 3) (ae (la T.n_str boot_str (af 3)))))))) (ai (eY 1)))
theorem iZ {f : Addr} {fd : FuncData} (F : Fun K "saying_of" "saying_of" bf f fd) (T : Txt K mg C_NoText C_SayError) (D_is_saying : DefD P w K mg base "is_saying" 2 bA) : FnOk P w K mg base (CXe P w) 3 f fd ["line", "part_by_word", "many"] (spD K mg bc) := by
 refine aK (N := cM) (fb := cu) F dj fun cdv A outer s H E hr => ?_
 have hu := hr.units
 exact ah (aY (du hu (af 0) (ae (pG T.c_NO_PARTS))) (ai (av (gx (aj)))) (aF)) (ah (au 3 dj.nd (cY 0)) (ah (aY (dc (iM (ae (sT T.n_all boot_all (ae (dJ (N0 := cM) (sc0 := (yf bf)) (F := [1]) (by decide +kernel) (by decide +kernel) (de (af 3)) (fun _ _ _ _ _ => df) (fun _ _ _ _ _ => t8 hu (af 0) (af 1)))))))) (ai (cW cV rfl PySem.F.excBase_ValueError T.k_NoText T.x_NoText (bJ (iI (gu (jV (pv 2) (gu (jU))))) cO) (rX (gG 37 (by decide) (kb (rY 2) (gG 30 (by decide) (ka (by decide)) (by decide)) (by decide)) (by decide))))) (aF)) (ah (au 4 dj.nd (gy T.n_tuple boot_tuple (ae (dJ (N0 := cM) (sc0 := (yf bf)) (F := [1]) (by decide +kernel) (by decide +kernel) (de (af 3)) (fun _ _ _ _ _ => df) (fun _ _ _ _ _ => cb hu (af 1) (af 0)))))) (ah (aY (dc (iM (ae (aw D_is_saying hr yC (aa (af 4) (aa (af 2) (aj))))))) (ai (cW cV rfl PySem.F.excBase_ValueError T.k_NoText T.x_NoText (bJ dq cO) jZ)) (aF)) (ai (eY 4))))))
theorem ql {f : Addr} {fd : FuncData} (F : Fun K "read" "read" eu f fd) (T : Txt K mg C_NoText C_SayError) (D_is_from_one_to : DefD P w K mg base "is_from_one_to" 2 aO) (D_words_of_parts : DefD P w K mg base "words_of_parts" 1 aq) (D_saying_of : DefD P w K mg base "saying_of" 3 bc) : FnOk P w K mg base (CXe P w) 4 f fd ["text", "many"] (spD K mg bM) := by
 refine aK (N := ku) (fb := fJ) F iW fun cdv A outer s H E hr => ?_
 have hu := hr.units
 exact ah (aY (dc (iM (ae (aw D_is_from_one_to hr yC (aa (af 1) (aa (ae (kT T.c_MOST_THINGS)) (aj))))))) (ai (cW cV rfl PySem.F.excBase_ValueError T.k_NoText T.x_NoText (bJ (iI (gu (jV (kR T.c_MOST_THINGS) (jU)))) cO) (rX (gG 46 (by decide) (kb (jm (by decide)) (ka (by decide)) (by decide)) (by decide))))) (aF)) (ah (aY (dc (iM (ae (e8 "str" T.n_isinstance T.n_str boot_str rfl boot_isinstance (af 0))))) (ai (cW cV rfl PySem.F.excBase_ValueError T.k_NoText T.x_NoText (bJ dq cO) jZ)) (aF)) (ah (au 2 iW.nd (cY 0)) (ah (aY (nr hu (ae (sU 2)) (ae (bV))) (ai (cW cV rfl PySem.F.excBase_ValueError T.k_NoText T.x_NoText (bJ dq cO) jZ)) (aF)) (ah (aY (jh (ae (cK T.n_len (af 2))) (ae (kT T.c_MOST_SAYINGS))) (ai (cW cV rfl PySem.F.excBase_ValueError T.k_NoText T.x_NoText (bJ (iI (gu (jV (kR T.c_MOST_SAYINGS) (gu (jU))))) cO) (rX (gG 20 (by decide) (kb (jm (by decide)) (gG 6 (by decide) (ka (by decide)) (by decide)) (by decide)) (by decide))))) (aF)) (ah (au 3 iW.nd (aw D_words_of_parts hr yC (aa (af 1) (aj)))) (ai (av (nN pO (N0 := ku) (sc0 := (yf eu)) (F := [1, 3]) (by decide +kernel) (by decide +kernel) (de (af 2)) (fun _ _ _ _ _ => aw D_saying_of hr AR (aa (af 0) (aa (af 2) (aa (af 1) (aj)))))))))))))
theorem hE {f : Addr} {fd : FuncData} (F : Fun K "_law_cell_at" "_law_cell_at" bp f fd) (T : Txt K mg C_NoText C_SayError) : FnOk P w K mg base (CXe P w) 1 f fd ["_law_script", "_law_k"] (spD K mg aM) := by
 refine aK (N := dU) (fb := bI) F gZ fun cdv A outer s H E hr => ?_
 have hu := hr.units
 exact ah (aY (kP (af 1) (ae (cK T.n_len (af 0)))) (ai (av (cb hu (af 0) (af 1)))) (aF)) (ah (aY (du hu (af 0) (ae (e6 (aj)))) (ai (av (ag))) (aF)) (ai (av (aI (ae (bS (ae (cb hu (af 0) (ae (cD (af 1) (ae (cK T.n_len (af 0))))))) (ae (ag)))) (af 1)))))
theorem j0 {f : Addr} {fd : FuncData} (F : Fun K "_law_mixed" "_law_mixed" bO f fd) (T : Txt K mg C_NoText C_SayError) (D_law_cell_at : DefD P w K mg base "_law_cell_at" 1 aM) : FnOk P w K mg base (CXe P w) 2 f fd ["_law_script", "_law_k", "_law_many"] (spD K mg ao) := by
 refine aK (N := fW) (fb := dG) F fq fun cdv A outer s H E hr => ?_
 have hu := hr.units
 exact ah (au 3 fq.nd (cD (ae (bS (ae (aI (ae (aI (ae (aw D_law_cell_at hr yC (aa (af 0) (aa (af 1) (aj))))) (ae (bS (ae (ag)) (af 1))))) (ae (ag)))) (ae (ag)))) (ae (ag)))) (ai (av (cD (ae (cD (ae (aI (ae (aI (ae (bS (af 3) (af 3))) (ae (bS (ae (ag)) (af 3))))) (af 1))) (ae (ag)))) (af 2))))
theorem i3 {f : Addr} {fd : FuncData} (F : Fun K "_law_saying" "_law_saying" bg f fd) (T : Txt K mg C_NoText C_SayError) (D_law_mixed : DefD P w K mg base "_law_mixed" 2 ao) : FnOk P w K mg base (CXe P w) 3 f fd ["_law_script", "_law_at", "_law_many"] (spD K mg bD) := by
 refine aK (N := dk) (fb := dh) F cg fun cdv A outer s H E hr => ?_
 have hu := hr.units
 exact ah (au 3 cg.nd (je)) (ah (dz PassesOwn.leaving rfl (m5 T.n_range (ae (cb hu (ae (e6 (aa (ae (ag)) (aa (ae (ag)) (aa (ae (ag)) (aa (ae (ag)) (aa (ae (ag)) (aa (ae (ag)) (aa (ae (ag)) (aj)))))))))) (ae (aw D_law_mixed hr yC (aa (af 0) (aa (af 1) (aa (ae (ag)) (aj))))))))) (jj 4 cg.nd) (cH 4) (ah (au 5 cg.nd (aI (ae (ag)) (ae (aw D_law_mixed hr yC (aa (af 0) (aa (ae (aI (ae (aI (af 1) (ae (ag)))) (af 4))) (aa (af 2) (aj)))))))) (ai (nv 3 hu (ae (rP (ae (ag)) (ae (bS (ae (ag)) (ae (g8 (ae (aw D_law_mixed hr yC (aa (af 0) (aa (ae (aI (ae (aI (af 1) (ae (ag)))) (af 4))) (aa (ae (bS (ae (ag)) (af 2))) (aj)))))) (af 2))))))) (af 5))))) (ai (av (gy T.n_tuple boot_tuple (ae (dJ (N0 := dk) (sc0 := (yf bg)) (F := [3]) (by decide +kernel) (by decide +kernel) (de (ae (nq T.n_sorted boot_sorted (ae (p5 rfl T.n_list boot_list (af 3)))))) (fun _ _ _ _ _ => df) (fun _ _ _ _ _ => bS (af 0) (ae (cb hu (af 1) (af 0))))))))))
theorem hR {f : Addr} {fd : FuncData} (F : Fun K "_law_sayings" "_law_sayings" b7 f fd) (T : Txt K mg C_NoText C_SayError) (D_law_saying : DefD P w K mg base "_law_saying" 3 bD) (D_law_mixed : DefD P w K mg base "_law_mixed" 2 ao) : FnOk P w K mg base (CXe P w) 4 f fd ["_law_script", "_law_at", "_law_many", "_law_most"] (spD K mg b4) := by
 refine aK (N := cS) (fb := cP) F h8 fun cdv A outer s H E hr => ?_
 have hu := hr.units
 exact ai (av (dJ (N0 := cS) (sc0 := (yf b7)) (F := [1, 2, 0]) (by decide +kernel) (by decide +kernel) (jY T.n_range (ae (aw D_law_mixed hr yC (aa (af 0) (aa (af 1) (aa (ae (aI (af 3) (ae (ag)))) (aj))))))) (fun _ _ _ _ _ => df) (fun _ _ _ _ _ => aw D_law_saying hr gF (aa (af 3) (aa (ae (aI (ae (aI (af 1) (ae (ag)))) (ae (bS (ae (ag)) (af 0))))) (aa (af 2) (aj)))))))
theorem j1 {f : Addr} {fd : FuncData} (F : Fun K "_law_whole" "_law_whole" bP f fd) (T : Txt K mg C_NoText C_SayError) : FnOk P w K mg base (CXe P w) 1 f fd ["_law_found"] (spD K mg cw) := by
 refine aK (N := fX) (fb := fT) F iX fun cdv A outer s H E hr => ?_
 have hu := hr.units
 exact ai (av (iN (e8 "int" T.n_isinstance T.n_int boot_int rfl boot_isinstance (af 0)) (jX (nu (e8 "bool" T.n_isinstance T.n_bool boot_bool rfl boot_isinstance (af 0))))))
theorem fL {f : Addr} {fd : FuncData} (F : Fun K "_law_is_saying" "_law_is_saying" aX f fd) (T : Txt K mg C_NoText C_SayError) (D_law_whole : DefD P w K mg base "_law_whole" 1 cw) : FnOk P w K mg base (CXe P w) 2 f fd ["_law_thing", "_law_many"] (spD K mg aW) := by
 refine aK (N := dn) (fb := cx) F bF fun cdv A outer s H E hr => ?_
 have hu := hr.units
 exact ah (aY (dc (iM (ae (e8 "tuple" T.n_isinstance T.n_tuple boot_tuple rfl boot_isinstance (af 0))))) (ai (av (fQ))) (aF)) (ah (au 2 bF.nd (ag)) (ah (dz PassesOwn.leaving rfl (gC (lW 0)) (jj 3 bF.nd) (cH 3) (ah (aY (m4 (gA (dc (iM (ae (aw D_law_whole hr yC (aa (af 3) (aj)))))) (gA (qt (ae (fG T.n_abs boot_abs (af 3))) (af 2)) (gz (jh (ae (fG T.n_abs boot_abs (af 3))) (af 1)))))) (ai (av (fQ))) (aF)) (ai (au 2 bF.nd (fG T.n_abs boot_abs (af 3)))))) (ai (av (fQ)))))
theorem hU {f : Addr} {fd : FuncData} (F : Fun K "_law_written" "_law_written" b8 f fd) (T : Txt K mg C_NoText C_SayError) : FnOk P w K mg base (CXe P w) 1 f fd ["_law_sayings_here"] (spD K mg b5) := by
 refine aK (N := cT) (fb := cQ) F bB fun cdv A outer s H E hr => ?_
 have hu := hr.units
 exact ah (au 1 bB.nd (bV)) (ah (dz PassesOwn.leaving rfl (gC (lW 0)) (jj 2 bB.nd) (cH 2) (ai (aY (du hu (af 2) (ae (gx (aj)))) (ai (au 1 bB.nd (aI (af 1) (ae (bV))))) (ai (au 1 bB.nd (aI (ae (aI (af 1) (ae (jx (ae (dJ (N0 := cT) (sc0 := (yf b8)) (F := []) (by decide +kernel) (by decide +kernel) (de (af 2)) (fun _ _ _ _ _ => df) (fun _ _ _ _ _ => la T.n_str boot_str (af 0)))))))) (ae (bV)))))))) (ai (eY 1)))
theorem jK {f : Addr} {fd : FuncData} (F : Fun K "_law_part" "_law_part" bZ f fd) (T : Txt K mg C_NoText C_SayError) : FnOk P w K mg base (CXe P w) 1 f fd ["_law_word"] (spD K mg aC) := by
 refine aK (N := h9) (fb := b6) F bQ fun cdv A outer s H E hr => ?_
 have hu := hr.units
 exact ah (au 1 bQ.nd (lW 0)) (ah (aY (du hu (ae (fh (af 0) (ae (ag)))) (ae (bV))) (ai (au 1 bQ.nd (iR (af 0) (ae (ag))))) (aF)) (ah (aY (m4 (gA (kP (ae (cK T.n_len (af 1))) (ae (ag))) (gA (jh (ae (cK T.n_len (af 1))) (ae (ag))) (gz (du hu (ae (cb hu (af 1) (ae (ag)))) (ae (bV))))))) (ai (av (d8))) (aF)) (ah (au 2 bQ.nd (ag)) (ah (dz PassesOwn.leaving rfl (t9 (lW 1)) (jj 3 bQ.nd) (cH 3) (ah (aY (mz hu (af 3) (ae (bV))) (ai (av (d8))) (aF)) (ai (au 2 bQ.nd (aI (ae (bS (ae (ag)) (af 2))) (ae (nK (af 3)))))))) (ah (aY (du hu (ae (fh (af 0) (ae (ag)))) (ae (bV))) (ai (av (iL (af 2)))) (aF)) (ai (eY 2)))))))
theorem fM {f : Addr} {fd : FuncData} (F : Fun K "_law_saying_of" "_law_saying_of" aE f fd) (T : Txt K mg C_NoText C_SayError) (D_law_part : DefD P w K mg base "_law_part" 1 aC) : FnOk P w K mg base (CXe P w) 2 f fd ["_law_line"] (spD K mg aD) := by
 refine aK (N := bL) (fb := bj) F d6 fun cdv A outer s H E hr => ?_
 have hu := hr.units
 exact ah (aY (du hu (af 0) (ae (bV))) (ai (av (gx (aj)))) (aF)) (ah (p8 1 d6.nd (N0 := bL) (sc0 := (yf aE)) (F := []) (by decide +kernel) (by decide +kernel) (de (ae (cY 0))) (fun _ _ _ _ _ => df) (fun _ _ _ _ _ => aw D_law_part hr gF (aa (af 0) (aj)))) (ah (aY (nr hu (ae (dJ (N0 := bL) (sc0 := (yf aE)) (F := []) (by decide +kernel) (by decide +kernel) (de (af 1)) (fun _ _ _ _ _ => oG (nE (af 0) (ae (d8)))) (fun _ _ _ _ _ => lW 0))) (ae (e6 (aj)))) (ai (av (d8))) (aF)) (ai (av (gy T.n_tuple boot_tuple (af 1))))))
theorem fy {f : Addr} {fd : FuncData} (F : Fun K "_law_sayings_of" "_law_sayings_of" aR f fd) (T : Txt K mg C_NoText C_SayError) (D_law_saying_of : DefD P w K mg base "_law_saying_of" 2 aD) (D_law_is_saying : DefD P w K mg base "_law_is_saying" 2 aW) : FnOk P w K mg base (CXe P w) 3 f fd ["_law_text", "_law_many"] (spD K mg ax) := by
 refine aK (N := d7) (fb := bb) F b3 fun cdv A outer s H E hr => ?_
 have hu := hr.units
 exact ah (au 2 b3.nd (cY 0)) (ah (aY (m4 (gA (nr hu (ae (cb hu (af 2) (ae (iL (ae (ag)))))) (ae (bV))) (gz (jh (ae (cK T.n_len (af 2))) (ae (ag)))))) (ai (av (d8))) (aF)) (ah (au 3 b3.nd (e6 (aj))) (ah (dz PassesOwn.leaving rfl (gC (fh (af 2) (ae (iL (ae (ag)))))) (jj 4 b3.nd) (cH 4) (ah (au 5 b3.nd (aw D_law_saying_of hr yC (aa (af 4) (aj)))) (ah (aY (m4 (gA (nE (af 5) (ae (d8))) (gz (dc (iM (ae (aw D_law_is_saying hr yC (aa (af 5) (aa (af 1) (aj)))))))))) (ai (av (d8))) (aF)) (ai (rV 3 (af 5)))))) (ai (eY 3)))))
theorem hV {f : Addr} {fd : FuncData} (F : Fun K "_law_refused" "_law_refused" bq f fd) (T : Txt K mg C_NoText C_SayError) (D_read : DefD P w K mg base "read" 4 bM) : FnOk P w K mg base (CXe P w) 5 f fd ["_law_text", "_law_many"] (spD K mg aH) := by
 refine aK (N := dW) (fb := cR) F bC fun cdv A outer s H E hr => ?_
 have hu := hr.units
 exact ah (au 2 bC.nd (ag)) (ah (p9 D_read hr (aa (af 0) (aa (af 1) (aj))) rfl rfl T.k_NoText T.t_NoText (fun _ => ai (au 2 bC.nd (aI (af 2) (ae (ag)))))) (ah (nz 3 D_read hr (aa (af 0) (aa (af 1) (aj))) rfl rfl bC.nd T.k_SayError T.t_SayError (fun _ => ai (au 2 bC.nd (aI (af 2) (ae (p6 T.n_int boot_int (ae (pf 3 T.n_isinstance T.n_ValueError (by decide +kernel) T.i_ValueError)))))))) (ai (av (qr hu (af 2) (ae (ag)))))))
end
end L2
namespace L2
open PySem PySem.Spec PyProof.Rows
instance : Tabs := ⟨[], ""⟩
theorem tN {l : W.OpenLaw} {w : World} {K : W.Frag} {h : Heap} {mg : yc} {fa : Addr} {f0 f1 f2 f3 f4 f5 f6 f7 f8 f9 f10 f11 f12 f13 f14 f15 f16 f17 f18 C_NoText C_SayError : Addr} {od0 an0 od1 an1 od2 an2 od3 an3 od4 an4 od5 an5 od6 an6 od7 an7 od8 an8 od9 an9 od10 an10 od11 an11 od12 an12 od13 an13 od14 an14 od15 an15 od16 an16 od17 an17 od18 an18 : Option Addr} {sl0 sl1 sl2 sl3 sl4 sl5 sl6 sl7 sl8 sl9 sl10 sl11 sl12 sl13 sl14 sl15 sl16 sl17 sl18 : Array (Option Value)} {oc0 kV0 dc0 pm0 cd0 ct0 oc1 kV1 dc1 pm1 cd1 ct1 oc2 kV2 dc2 pm2 cd2 ct2 oc3 kV3 dc3 pm3 cd3 ct3 oc4 kV4 dc4 pm4 cd4 ct4 oc5 kV5 dc5 pm5 cd5 ct5 oc6 kV6 dc6 pm6 cd6 ct6 oc7 kV7 dc7 pm7 cd7 ct7 oc8 kV8 dc8 pm8 cd8 ct8 oc9 kV9 dc9 pm9 cd9 ct9 oc10 kV10 dc10 pm10 cd10 ct10 oc11 kV11 dc11 pm11 cd11 ct11 oc12 kV12 dc12 pm12 cd12 ct12 oc13 kV13 dc13 pm13 cd13 ct13 oc14 kV14 dc14 pm14 cd14 ct14 oc15 kV15 dc15 pm15 cd15 ct15 oc16 kV16 dc16 pm16 cd16 ct16 oc17 kV17 dc17 pm17 cd17 ct17 oc18 kV18 dc18 pm18 cd18 ct18 : Value} {t_MOST_SAYINGS t_MOST_THINGS t_NO_PARTS : Tok} (X : K.In h) (G : h.Ns mainGlobals mg) (hfa : mg "law" = some (.ref fa))
  (a0 : W.nsIn K mainGlobals "is_whole" = some (some (.ref f0)))
  (l0 : K.lookup f0 = some ⟨oc0, od0, .func (W.fnOf "is_whole" "is_whole" (yi bY) (yg bY) (yf bY) .none kV0 dc0 pm0 an0 cd0 ct0), sl0⟩)
  (c0 : W.codeIn K cd0 "is_whole" = true)
  (k0 : W.keepIn K (.ref f0) = true)
  (a1 : W.nsIn K mainGlobals "is_from_one_to" = some (some (.ref f1)))
  (l1 : K.lookup f1 = some ⟨oc1, od1, .func (W.fnOf "is_from_one_to" "is_from_one_to" (yi aP) (yg aP) (yf aP) .none kV1 dc1 pm1 an1 cd1 ct1), sl1⟩)
  (c1 : W.codeIn K cd1 "is_from_one_to" = true)
  (k1 : W.keepIn K (.ref f1) = true)
  (a2 : W.nsIn K mainGlobals "is_saying" = some (some (.ref f2)))
  (l2 : K.lookup f2 = some ⟨oc2, od2, .func (W.fnOf "is_saying" "is_saying" (yi bN) (yg bN) (yf bN) .none kV2 dc2 pm2 an2 cd2 ct2), sl2⟩)
  (c2 : W.codeIn K cd2 "is_saying" = true)
  (k2 : W.keepIn K (.ref f2) = true)
  (a3 : W.nsIn K mainGlobals "words_of_parts" = some (some (.ref f3)))
  (l3 : K.lookup f3 = some ⟨oc3, od3, .func (W.fnOf "words_of_parts" "words_of_parts" (yi aQ) (yg aQ) (yf aQ) .none kV3 dc3 pm3 an3 cd3 ct3), sl3⟩)
  (c3 : W.codeIn K cd3 "words_of_parts" = true)
  (k3 : W.keepIn K (.ref f3) = true)
  (a4 : W.nsIn K mainGlobals "saying_of" = some (some (.ref f4)))
  (l4 : K.lookup f4 = some ⟨oc4, od4, .func (W.fnOf "saying_of" "saying_of" (yi bf) (yg bf) (yf bf) .none kV4 dc4 pm4 an4 cd4 ct4), sl4⟩)
  (c4 : W.codeIn K cd4 "saying_of" = true)
  (k4 : W.keepIn K (.ref f4) = true)
  (a5 : W.nsIn K mainGlobals "read" = some (some (.ref f5)))
  (l5 : K.lookup f5 = some ⟨oc5, od5, .func (W.fnOf "read" "read" (yi eu) (yg eu) (yf eu) .none kV5 dc5 pm5 an5 cd5 ct5), sl5⟩)
  (c5 : W.codeIn K cd5 "read" = true)
  (k5 : W.keepIn K (.ref f5) = true)
  (a6 : W.nsIn K mainGlobals "_law_cell_at" = some (some (.ref f6)))
  (l6 : K.lookup f6 = some ⟨oc6, od6, .func (W.fnOf "_law_cell_at" "_law_cell_at" (yi bp) (yg bp) (yf bp) .none kV6 dc6 pm6 an6 cd6 ct6), sl6⟩)
  (c6 : W.codeIn K cd6 "_law_cell_at" = true)
  (k6 : W.keepIn K (.ref f6) = true)
  (a7 : W.nsIn K mainGlobals "_law_mixed" = some (some (.ref f7)))
  (l7 : K.lookup f7 = some ⟨oc7, od7, .func (W.fnOf "_law_mixed" "_law_mixed" (yi bO) (yg bO) (yf bO) .none kV7 dc7 pm7 an7 cd7 ct7), sl7⟩)
  (c7 : W.codeIn K cd7 "_law_mixed" = true)
  (k7 : W.keepIn K (.ref f7) = true)
  (a8 : W.nsIn K mainGlobals "_law_saying" = some (some (.ref f8)))
  (l8 : K.lookup f8 = some ⟨oc8, od8, .func (W.fnOf "_law_saying" "_law_saying" (yi bg) (yg bg) (yf bg) .none kV8 dc8 pm8 an8 cd8 ct8), sl8⟩)
  (c8 : W.codeIn K cd8 "_law_saying" = true)
  (k8 : W.keepIn K (.ref f8) = true)
  (a9 : W.nsIn K mainGlobals "_law_sayings" = some (some (.ref f9)))
  (l9 : K.lookup f9 = some ⟨oc9, od9, .func (W.fnOf "_law_sayings" "_law_sayings" (yi b7) (yg b7) (yf b7) .none kV9 dc9 pm9 an9 cd9 ct9), sl9⟩)
  (c9 : W.codeIn K cd9 "_law_sayings" = true)
  (k9 : W.keepIn K (.ref f9) = true)
  (a10 : W.nsIn K mainGlobals "_law_whole" = some (some (.ref f10)))
  (l10 : K.lookup f10 = some ⟨oc10, od10, .func (W.fnOf "_law_whole" "_law_whole" (yi bP) (yg bP) (yf bP) .none kV10 dc10 pm10 an10 cd10 ct10), sl10⟩)
  (c10 : W.codeIn K cd10 "_law_whole" = true)
  (k10 : W.keepIn K (.ref f10) = true)
  (a11 : W.nsIn K mainGlobals "_law_is_saying" = some (some (.ref f11)))
  (l11 : K.lookup f11 = some ⟨oc11, od11, .func (W.fnOf "_law_is_saying" "_law_is_saying" (yi aX) (yg aX) (yf aX) .none kV11 dc11 pm11 an11 cd11 ct11), sl11⟩)
  (c11 : W.codeIn K cd11 "_law_is_saying" = true)
  (k11 : W.keepIn K (.ref f11) = true)
  (a12 : W.nsIn K mainGlobals "_law_written" = some (some (.ref f12)))
  (l12 : K.lookup f12 = some ⟨oc12, od12, .func (W.fnOf "_law_written" "_law_written" (yi b8) (yg b8) (yf b8) .none kV12 dc12 pm12 an12 cd12 ct12), sl12⟩)
  (c12 : W.codeIn K cd12 "_law_written" = true)
  (k12 : W.keepIn K (.ref f12) = true)
  (a13 : W.nsIn K mainGlobals "_law_part" = some (some (.ref f13)))
  (l13 : K.lookup f13 = some ⟨oc13, od13, .func (W.fnOf "_law_part" "_law_part" (yi bZ) (yg bZ) (yf bZ) .none kV13 dc13 pm13 an13 cd13 ct13), sl13⟩)
  (c13 : W.codeIn K cd13 "_law_part" = true)
  (k13 : W.keepIn K (.ref f13) = true)
  (a14 : W.nsIn K mainGlobals "_law_saying_of" = some (some (.ref f14)))
  (l14 : K.lookup f14 = some ⟨oc14, od14, .func (W.fnOf "_law_saying_of" "_law_saying_of" (yi aE) (yg aE) (yf aE) .none kV14 dc14 pm14 an14 cd14 ct14), sl14⟩)
  (c14 : W.codeIn K cd14 "_law_saying_of" = true)
  (k14 : W.keepIn K (.ref f14) = true)
  (a15 : W.nsIn K mainGlobals "_law_sayings_of" = some (some (.ref f15)))
  (l15 : K.lookup f15 = some ⟨oc15, od15, .func (W.fnOf "_law_sayings_of" "_law_sayings_of" (yi aR) (yg aR) (yf aR) .none kV15 dc15 pm15 an15 cd15 ct15), sl15⟩)
  (c15 : W.codeIn K cd15 "_law_sayings_of" = true)
  (k15 : W.keepIn K (.ref f15) = true)
  (a16 : W.nsIn K mainGlobals "_law_spoilt" = some (some (.ref f16)))
  (l16 : K.lookup f16 = some ⟨oc16, od16, .func (W.fnOf "_law_spoilt" "_law_spoilt" (yi bG) (yg bG) (yf bG) .none kV16 dc16 pm16 an16 cd16 ct16), sl16⟩)
  (c16 : W.codeIn K cd16 "_law_spoilt" = true)
  (k16 : W.keepIn K (.ref f16) = true)
  (a17 : W.nsIn K mainGlobals "_law_refused" = some (some (.ref f17)))
  (l17 : K.lookup f17 = some ⟨oc17, od17, .func (W.fnOf "_law_refused" "_law_refused" (yi bq) (yg bq) (yf bq) .none kV17 dc17 pm17 an17 cd17 ct17), sl17⟩)
  (c17 : W.codeIn K cd17 "_law_refused" = true)
  (k17 : W.keepIn K (.ref f17) = true)
  (a18 : W.nsIn K mainGlobals "law" = some (some (.ref f18)))
  (l18 : K.lookup f18 = some ⟨oc18, od18, .func (W.fnOf "law" "law" (yi fv) (yg fv) (yf fv) .none kV18 dc18 pm18 an18 cd18 ct18), sl18⟩)
  (c18 : W.codeIn K cd18 "law" = true)
  (k18 : W.keepIn K (.ref f18) = true)
  (z_ValueError : W.nsIn K mainGlobals "ValueError" = some none)
  (z_abs : W.nsIn K mainGlobals "abs" = some none)
  (z_all : W.nsIn K mainGlobals "all" = some none)
  (z_bool : W.nsIn K mainGlobals "bool" = some none)
  (z_int : W.nsIn K mainGlobals "int" = some none)
  (z_isinstance : W.nsIn K mainGlobals "isinstance" = some none)
  (z_len : W.nsIn K mainGlobals "len" = some none)
  (z_list : W.nsIn K mainGlobals "list" = some none)
  (z_range : W.nsIn K mainGlobals "range" = some none)
  (z_sorted : W.nsIn K mainGlobals "sorted" = some none)
  (z_str : W.nsIn K mainGlobals "str" = some none)
  (z_tuple : W.nsIn K mainGlobals "tuple" = some none)
  (v_MOST_SAYINGS : W.nsIn K mainGlobals "MOST_SAYINGS" = some (some (.int 24 t_MOST_SAYINGS)))
  (v_MOST_THINGS : W.nsIn K mainGlobals "MOST_THINGS" = some (some (.int 16 t_MOST_THINGS)))
  (v_NO_PARTS : W.nsIn K mainGlobals "NO_PARTS" = some (some (.str "-" t_NO_PARTS)))
  (g_NoText : W.nsIn K mainGlobals "NoText" = some (some (.ref C_NoText)))
  (g_SayError : W.nsIn K mainGlobals "SayError" = some (some (.ref C_SayError)))
  (x_NoText : PySem.W.excIn K C_NoText [.type "ValueError", .type "Exception", .type "BaseException", .type "object"] "ValueError.__new__" = true)
  (e_NoText_NoText : W.exmOne K (.ref C_NoText) (.ref C_NoText) = some true)
  (e_NoText_SayError : W.exmOne K (.ref C_NoText) (.ref C_SayError) = some true)
  (i_NoText_ValueError : W.kitOne K (.ref C_NoText) (.type "ValueError") = some true)
  (hlaw : ∀ ns : List Int, ns.length <= 63 -> lh [.list (ns.map PyData.int)] = .ok (.sh (.bool true))) :
  ∃ fd : FuncData, (∀ (s : Shared) (v : Value), BindsTo s fd ⟨[v], []⟩ [("_law_script", v)]) /\ ∀ base : Heap, K.In base -> base.Ns mainGlobals mg -> FnOk l.prog w K mg base (CXe l.prog w) 6 fa fd ["_law_script"] (A7 K) := by
 have e := hfa.symm.trans (W.mg_of X G a18)
 cases e
 have m_NoText : mg "NoText" = some (.ref C_NoText) := W.mg_of X G g_NoText
 have m_SayError : mg "SayError" = some (.ref C_SayError) := W.mg_of X G g_SayError
 have t_NoText : Cat K mg (.ref C_NoText) cq := fun y C hy hC => by
  have hy' : y = "NoText" := by simpa [cq] using hy
  rcases hy' with rfl
  ·rw [m_NoText] at hC; cases hC; exact e_NoText_NoText
 have t_SayError : Cat K mg (.ref C_SayError) bH := fun y C hy hC => by
  have hy' : y = "NoText" := by simpa [bH] using hy
  rcases hy' with rfl
  ·rw [m_NoText] at hC; cases hC; exact e_NoText_SayError
 have i_ValueError : CatI K mg (.type "ValueError") bx := fun y C hy hC => by
  have hy' : y = "NoText" := by simpa [bx] using hy
  rcases hy' with rfl
  ·rw [m_NoText] at hC; cases hC; exact i_NoText_ValueError
 have T : Txt K mg C_NoText C_SayError := ⟨W.mg_none_of X G z_ValueError, W.mg_none_of X G z_abs, W.mg_none_of X G z_all, W.mg_none_of X G z_bool, W.mg_none_of X G z_int, W.mg_none_of X G z_isinstance, W.mg_none_of X G z_len, W.mg_none_of X G z_list, W.mg_none_of X G z_range, W.mg_none_of X G z_sorted, W.mg_none_of X G z_str, W.mg_none_of X G z_tuple, ⟨_, W.mg_of X G v_MOST_SAYINGS⟩, ⟨_, W.mg_of X G v_MOST_THINGS⟩, ⟨_, W.mg_of X G v_NO_PARTS⟩, m_NoText, m_SayError, x_NoText, t_NoText, t_SayError, i_ValueError⟩
 have A_is_whole := aB (st := bY) X G a0 l0 c0 k0
 have A_is_from_one_to := aB (st := aP) X G a1 l1 c1 k1
 have A_is_saying := aB (st := bN) X G a2 l2 c2 k2
 have A_words_of_parts := aB (st := aQ) X G a3 l3 c3 k3
 have A_saying_of := aB (st := bf) X G a4 l4 c4 k4
 have A_read := aB (st := eu) X G a5 l5 c5 k5
 have A_law_cell_at := aB (st := bp) X G a6 l6 c6 k6
 have A_law_mixed := aB (st := bO) X G a7 l7 c7 k7
 have A_law_saying := aB (st := bg) X G a8 l8 c8 k8
 have A_law_sayings := aB (st := b7) X G a9 l9 c9 k9
 have A_law_whole := aB (st := bP) X G a10 l10 c10 k10
 have A_law_is_saying := aB (st := aX) X G a11 l11 c11 k11
 have A_law_written := aB (st := b8) X G a12 l12 c12 k12
 have A_law_part := aB (st := bZ) X G a13 l13 c13 k13
 have A_law_saying_of := aB (st := aE) X G a14 l14 c14 k14
 have A_law_sayings_of := aB (st := aR) X G a15 l15 c15 k15
 have A_law_spoilt := aB (st := bG) X G a16 l16 c16 k16
 have A_law_refused := aB (st := bq) X G a17 l17 c17 k17
 have A_law := aB (st := fv) X G a18 l18 c18 k18
 refine ⟨W.fnOf "law" "law" (yi fv) (yg fv) (yf fv) .none kV18 dc18 pm18 an18 cd18 ct18, fun s v => .of_eq rfl, fun base _ _ => ?_⟩
 have D_is_whole : DefD l.prog w K mg base "is_whole" 1 bz := aU A_is_whole (jJ A_is_whole.fn T) fun _ _ _ _ _ _ => bnd1 fun _ => rfl
 have D_is_from_one_to : DefD l.prog w K mg base "is_from_one_to" 2 aO := aU A_is_from_one_to (fw A_is_from_one_to.fn T D_is_whole) fun _ _ _ _ _ _ => bnd2 fun _ _ => rfl
 have D_is_saying : DefD l.prog w K mg base "is_saying" 2 bA := aU A_is_saying (iY A_is_saying.fn T D_is_whole) fun _ _ _ _ _ _ => bnd2 fun _ _ => rfl
 have D_words_of_parts : DefD l.prog w K mg base "words_of_parts" 1 aq := aU A_words_of_parts (fx A_words_of_parts.fn T) fun _ _ _ _ _ _ => bnd1 fun _ => rfl
 have D_saying_of : DefD l.prog w K mg base "saying_of" 3 bc := aU A_saying_of (iZ A_saying_of.fn T D_is_saying) fun _ _ _ _ _ _ => bnd3 fun _ _ _ => rfl
 have D_read : DefD l.prog w K mg base "read" 4 bM := aU A_read (ql A_read.fn T D_is_from_one_to D_words_of_parts D_saying_of) fun _ _ _ _ _ _ => bnd2 fun _ _ => rfl
 have D_law_cell_at : DefD l.prog w K mg base "_law_cell_at" 1 aM := aU A_law_cell_at (hE A_law_cell_at.fn T) fun _ _ _ _ _ _ => bnd2 fun _ _ => rfl
 have D_law_mixed : DefD l.prog w K mg base "_law_mixed" 2 ao := aU A_law_mixed (j0 A_law_mixed.fn T D_law_cell_at) fun _ _ _ _ _ _ => bnd3 fun _ _ _ => rfl
 have D_law_saying : DefD l.prog w K mg base "_law_saying" 3 bD := aU A_law_saying (i3 A_law_saying.fn T D_law_mixed) fun _ _ _ _ _ _ => bnd3 fun _ _ _ => rfl
 have D_law_sayings : DefD l.prog w K mg base "_law_sayings" 4 b4 := aU A_law_sayings (hR A_law_sayings.fn T D_law_saying D_law_mixed) fun _ _ _ _ _ _ => bnd4 fun _ _ _ _ => rfl
 have D_law_whole : DefD l.prog w K mg base "_law_whole" 1 cw := aU A_law_whole (j1 A_law_whole.fn T) fun _ _ _ _ _ _ => bnd1 fun _ => rfl
 have D_law_is_saying : DefD l.prog w K mg base "_law_is_saying" 2 aW := aU A_law_is_saying (fL A_law_is_saying.fn T D_law_whole) fun _ _ _ _ _ _ => bnd2 fun _ _ => rfl
 have D_law_written : DefD l.prog w K mg base "_law_written" 1 b5 := aU A_law_written (hU A_law_written.fn T) fun _ _ _ _ _ _ => bnd1 fun _ => rfl
 have D_law_part : DefD l.prog w K mg base "_law_part" 1 aC := aU A_law_part (jK A_law_part.fn T) fun _ _ _ _ _ _ => bnd1 fun _ => rfl
 have D_law_saying_of : DefD l.prog w K mg base "_law_saying_of" 2 aD := aU A_law_saying_of (fM A_law_saying_of.fn T D_law_part) fun _ _ _ _ _ _ => bnd1 fun _ => rfl
 have D_law_sayings_of : DefD l.prog w K mg base "_law_sayings_of" 3 ax := aU A_law_sayings_of (fy A_law_sayings_of.fn T D_law_saying_of D_law_is_saying) fun _ _ _ _ _ _ => bnd2 fun _ _ => rfl
 have D_law_spoilt : DefD l.prog w K mg base "_law_spoilt" 1 aG := aU A_law_spoilt (i0 A_law_spoilt.fn T) fun _ _ _ _ _ _ => bnd3 fun _ _ _ => rfl
 have D_law_refused : DefD l.prog w K mg base "_law_refused" 5 aH := aU A_law_refused (hV A_law_refused.fn T D_read) fun _ _ _ _ _ _ => bnd2 fun _ _ => rfl
 exact (tM A_law.fn T D_law_mixed D_law_refused D_law_spoilt D_law_written D_law_sayings D_law_sayings_of D_read).imp fun vs H Q E h => ma hlaw vs H Q E h
theorem walk {l : W.OpenLaw} {q : Program} {loose : List Str} {XP : (Str -> Option Value) -> Heap -> Prop} {YP : World -> Heap -> Prop} {d : DefRec} {K : Params -> W.Frag} (hn : l.most = some 63) (hdf : d.params.defaults = [])
  (hY : ∀ (w : World) (h : Heap), YP w h -> (K w.params).In h)
  (F : ∀ (w : World) (mg : yc) (fa : Addr) (h : Heap), (K w.params).In h -> h.Ns mainGlobals mg -> mg d.name = some (.ref fa) ->
   ∃ fd : FuncData, (∀ (s : Shared) (u : Value), BindsTo s fd ⟨[u], []⟩ [("_law_script", u)]) /\ ∀ base : Heap, (K w.params).In base -> base.Ns mainGlobals mg -> FnOk l.prog w (K w.params) mg base (CXe l.prog w) 6 fa fd ["_law_script"] (A7 (K w.params))) :
  W.WalkO q loose XP YP l.row.toRowW d [] (fun f vs => PySem.call f vs) :=
 L2.oD (n := 63) (k := 6) (x := "_law_script") (CX := fun w => CXe l.prog w) (sp := fun w => A7 (K w.params)) hn (by decide) hdf ⟨rfl, by decide, by decide⟩ hY F (fun _ _ a ns hl _ hS => ⟨a, ns, rfl, hS, hl, fun _ h => absurd (show _ ∈ ([] : List Addr) from h) (by simp), fun _ => rfl⟩) fun _ _ _ _ _ z => md _ _ _ _ _ z
end L2
open PySem PySem.W PyProof.Rows
set_option maxRecDepth 100000 in
set_option maxHeartbeats 0 in
theorem PySem.Challenge.cw_sayhall_k14_texts_refused_holds : PySem.Challenge.rw_sayhall_k14_texts_refused.Holds := by
 w_on; o_law; k_head; (case hw => w_witness2)
 k_fill
 refine L2.walk (l := PySem.Challenge.rw_sayhall_k14_texts_refused) rfl rfl (fun w h Y => W.kIn_of Y) ?F
 case F =>
  intro w mg fa h KX G hmg
  refine' L2.tN KX G hmg ?a0 ?l0 ?c0 ?k0 ?a1 ?l1 ?c1 ?k1 ?a2 ?l2 ?c2 ?k2 ?a3 ?l3 ?c3 ?k3 ?a4 ?l4 ?c4 ?k4 ?a5 ?l5 ?c5 ?k5 ?a6 ?l6 ?c6 ?k6 ?a7 ?l7 ?c7 ?k7 ?a8 ?l8 ?c8 ?k8 ?a9 ?l9 ?c9 ?k9 ?a10 ?l10 ?c10 ?k10 ?a11 ?l11 ?c11 ?k11 ?a12 ?l12 ?c12 ?k12 ?a13 ?l13 ?c13 ?k13 ?a14 ?l14 ?c14 ?k14 ?a15 ?l15 ?c15 ?k15 ?a16 ?l16 ?c16 ?k16 ?a17 ?l17 ?c17 ?k17 ?a18 ?l18 ?c18 ?k18 ?z_ValueError ?z_abs ?z_all ?z_bool ?z_int ?z_isinstance ?z_len ?z_list ?z_range ?z_sorted ?z_str ?z_tuple ?v_MOST_SAYINGS ?v_MOST_THINGS ?v_NO_PARTS ?g_NoText ?g_SayError ?x_NoText ?e_NoText_NoText ?e_NoText_SayError ?i_NoText_ValueError (fun ns _ => L2.law_holds ns)
  (case a0 => k_is)
  (case l0 => k_is)
  (case c0 => k_is)
  (case k0 => k_is)
  (case a1 => k_is)
  (case l1 => k_is)
  (case c1 => k_is)
  (case k1 => k_is)
  (case a2 => k_is)
  (case l2 => k_is)
  (case c2 => k_is)
  (case k2 => k_is)
  (case a3 => k_is)
  (case l3 => k_is)
  (case c3 => k_is)
  (case k3 => k_is)
  (case a4 => k_is)
  (case l4 => k_is)
  (case c4 => k_is)
  (case k4 => k_is)
  (case a5 => k_is)
  (case l5 => k_is)
  (case c5 => k_is)
  (case k5 => k_is)
  (case a6 => k_is)
  (case l6 => k_is)
  (case c6 => k_is)
  (case k6 => k_is)
  (case a7 => k_is)
  (case l7 => k_is)
  (case c7 => k_is)
  (case k7 => k_is)
  (case a8 => k_is)
  (case l8 => k_is)
  (case c8 => k_is)
  (case k8 => k_is)
  (case a9 => k_is)
  (case l9 => k_is)
  (case c9 => k_is)
  (case k9 => k_is)
  (case a10 => k_is)
  (case l10 => k_is)
  (case c10 => k_is)
  (case k10 => k_is)
  (case a11 => k_is)
  (case l11 => k_is)
  (case c11 => k_is)
  (case k11 => k_is)
  (case a12 => k_is)
  (case l12 => k_is)
  (case c12 => k_is)
  (case k12 => k_is)
  (case a13 => k_is)
  (case l13 => k_is)
  (case c13 => k_is)
  (case k13 => k_is)
  (case a14 => k_is)
  (case l14 => k_is)
  (case c14 => k_is)
  (case k14 => k_is)
  (case a15 => k_is)
  (case l15 => k_is)
  (case c15 => k_is)
  (case k15 => k_is)
  (case a16 => k_is)
  (case l16 => k_is)
  (case c16 => k_is)
  (case k16 => k_is)
  (case a17 => k_is)
  (case l17 => k_is)
  (case c17 => k_is)
  (case k17 => k_is)
  (case a18 => k_is)
  (case l18 => k_is)
  (case c18 => k_is)
  (case k18 => k_is)
  (case z_ValueError => k_is)
  (case z_abs => k_is)
  (case z_all => k_is)
  (case z_bool => k_is)
  (case z_int => k_is)
  (case z_isinstance => k_is)
  (case z_len => k_is)
  (case z_list => k_is)
  (case z_range => k_is)
  (case z_sorted => k_is)
  (case z_str => k_is)
  (case z_tuple => k_is)
  (case v_MOST_SAYINGS => k_is)
  (case v_MOST_THINGS => k_is)
  (case v_NO_PARTS => k_is)
  (case g_NoText => k_is)
  (case g_SayError => k_is)
  (case x_NoText => k_exc)
  (case e_NoText_NoText => kts_exm)
  (case e_NoText_SayError => kts_exm)
  (case i_NoText_ValueError => kit_is)
